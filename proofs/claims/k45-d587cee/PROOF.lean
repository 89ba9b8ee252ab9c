import PyProof.Rows.All
import Wide.All
import OpenK.AllK
import Wide.FinOn
import Lean
import PyProof.EqAt
import PyProof.EqKinds
import PyProof.TupleCall
import PyProof.DictWalks
import PyProof.DictIter
import KE.KTryMore
import PyProof.ExcStr
import PyProof.ExcStrAll.ValueError
import PySem.Str
import PyProof.StrLawsIn
import PyProof.Rows.StrNews2
import PyProof.Rows.StrLawsPart
import PyProof.Rows.StrJoin2
import PyProof.Rows.SortStr
import PyProof.Rows.Range3
import PyProof.StrLoop
import KE.KDictList
import KE.KDictSum
import KE.KIntText
import PyProof.StrLawsFirst
import PyProof.StrLawsIdx
import PyProof.TableCode
import PySem.Challenge.RW_squarecall_k45_calls_in_turn
set_option bootstrap.genMatcherCode false
set_option linter.all false
open PySem renaming wpAny_bind->ard,wpAny_pure->arp,wpAny_mono->arI,wpAny_field->arR,boot_len->arT,mem_of_lookup->asa,wpAny_holding->asl,wpAny_truthy_bool->ass,wpAny_call_entry->asx,wpAny_callSpecial?_slot->asG,wpAny_Call_Name_kw->asK,wpAny_standAt->asQ,wpAny_setField->asY,plainObj_wpAny_Assign_Attribute->as4,wpAny_call->as7,wpAny_setField_rec->as9,sizeLine_eq->ata,codeAny_call_builtin->atk,wpAny_execs_nil->atq,wpAny_passesOwn->atr,codeAny_mono->att,wpAny_comprehension_free->atw,call_meets->atA,wpAny_newObj_type->atF,wpAny_pyIter_enum->atG,strLen_append->atO,typeIs_str->atX,wpAny_isSubtype_exc->at5,wpAny_loadPart->at9,wpAny_attempt->auk,wpAny_letOwnedTupleGo_enum->aul,wpAny_loadPart_at->auq,codeAny_handlers_suite_as->aut,wpAny_execs_cons->auy,wpAny_lookBehind->auz,pastItsLine_dict->auA,concat_meets->auF,noFill_tuple_add->auG,typeIs_none->auM,wpAny_seqItems->auO,refuseLoop_ref->auP,wpAny_Name->auR
open PySem.Heap renaming get?_push_of_some->arf,lt_size->ars,get?_push_size->aru,get?_update_other->arU,get?_update_self->asf,get?_none_of_le->asj,size_push->aua
open List renaming getElem?_set_ne->arh,getElem?_eq_some_iff->ari,getElem?_set_self->ark,getElem?_eq_getElem->art,map_cons->arv,length_cons->arw,mem_cons->arx,length_map->arB,mem_map->arC,mem_cons_self->arD,mem_append_right->arE,drop_eq_getElem_cons->arF,mem_cons_of_mem->arH,cons_append->arJ,getElem?_map->arL,set_cons_zero->arM,mem_append->arN,getElem?_append_left->arO,getElem?_append_right->arQ,all_eq_true->arV,mem_singleton->arW,isPrefixOf_iff_prefix->arX,set_cons_succ->arY,append_nil->ar2,not_mem_nil->ar5,mem_append_left->ar6,length_append->ar7,lookup_cons->ar9,size_toArray->asb,mem_range->asd,getD_eq_getElem?_getD->asm,nil_append->aso,append_assoc->asv,extract_eq_drop_take'->asw,getElem_mem->asy,length_nil->asC,drop_append_of_le_length->asD,getLast?_eq_some_getLast->asE,getElem?_replicate->asF,drop_zero->asJ,nodup_cons->asM,length_replicate->asN,drop_eq_nil_iff->asX,length_take->as0,map_nil->as1,drop_length->as2,flatMap_cons->atf,mem_map_of_mem->atp,take_of_length_le->atM,mem_flatMap->atP,length_singleton->atQ,mem_of_getElem?->atV,map_append->atY,foldl_cons->atZ,map_map->at3,filterMap_cons->at4,getElem?_range->at6,length_pos_iff->at8,zip_cons_cons->auh,isEmpty_cons->aur,getLastD_eq_getLast?->auw,getElem?_take_of_lt->auE,of_mem_zip->auI,length_set->auL,drop_take->auQ
open Nat renaming le_refl->arn,lt_of_lt_of_le->aro,le_trans->arq,ne_of_lt->arA,zero_le->arZ,ne_of_gt->ar8,lt_irrefl->asP,le_add_right->as3,min_le_right->atj,ble_eq->atm,mul_le_mul_right->atn,le_succ->ato,le_of_lt->ats,lt_of_lt_of_eq->atv,lt_of_le_of_lt->auf,le_of_eq->auB,lt_succ_self->auC,le_of_not_lt->auH,add_mul->auN
open Bool renaming and_eq_true->ary,false_ne_true->arG,eq_iff_iff->asn,false_eq_true->asq,and_eq_true_iff->asr,eq_false_iff->asu,beq_eq_decide_eq->ati,or_eq_true->at0
open Ne renaming symm->arz
open Option.some renaming inj->arK
open Option renaming map_eq_some_iff->arP,isSome_iff_exists->ase,bind_some->atl
open PySem.F renaming plainAttrs_list->arS,slot_list_append->ar0,type_list_append->ar1,slot_NoneType_hash->asO,slot_tuple_iterator_next->asR,excBase_ValueError->asT,slot_str_split->atd,plainAttrs_str->ate,slot_enumerate_next->ath,args_tuple_add_2->atu,args_str_split_2->aty,entry_tuple_add->atD,entry_str_split->atE,slot_tuple_add->atJ,slot_str_ascii_iterator_iter->at1,args_tuple_iterator_next_1->aub,entry_tuple_iterator_next->aue,slot_str_partition->aum,slot_dict_getitem->aus,excStr_ValueError->auu
open PyProof.Rows renaming boot_isinstance->ar3,callWith_type1->asi,slot_tuple_getitem->as5,boot_tuple->atB,FormattedValue_plain->atL,callWith_builtin1->atW,boot_list->auK,boot_range->auS
open List.cons renaming injEq->asp
open Array renaming toList_inj->asz,length_toList->asH,getElem?_eq_some_iff->asS,toList_extract->asW,getElem?_toList->atU,getElem?_setIfInBounds->auc,find?_toList->aud,getElem?_eq_getElem->auv
open PySem.W renaming kia_one->asA,looks_clsIn->auj,callWith_K->auD,methodCall_KW->auJ
open PySem.PassesOwn renaming leaving->asU
open PySem.Calls renaming spliced_cons->as6,Name_function_global->aui
open PySem.Obj renaming data_mapFields->as8,isFreed_of_fields->atR
open Nat.succ renaming inj->atx
open Int renaming zero_add->atz,toNat_natCast->aup
open PySem.Str renaming ofString_eq_toList->atN
open PySem.Within renaming cons->aun
open PySem.Heap.Ns1 renaming of_empty->auo
def arj:=@if_pos
def arl:=@if_neg
def ar4:=@beq_eq_false_iff_ne
def ash:=@decide_eq_false
def asB:=@beq_iff_eq
def asI:=@if_true
def asV:=@decide_eq_true_eq
def asZ:=@congrArg
def atb:=@if_false
def atc:=@or_false
def atg:=@decide_eq_true
def atH:=@of_decide_eq_true
def at7:=@ne_true_of_eq_false
noncomputable section
set_option compiler.extract_closed false
set_option tactic.hygienic false
set_option autoImplicit true
set_option relaxedAutoImplicit true
def ag6{p q r:Prop}{C:Prop}(h:p/\q/\r)(K:p->q->r->C):C:=let⟨h0,h1,h2⟩:=h;K h0 h1 h2
def anS{p q r s:Prop}{C:Prop}(h:p/\q/\r/\s)(K:p->q->r->s->C):C:=let⟨h0,h1,h2,h3⟩:=h;K h0 h1 h2 h3
def anR{p q r s t:Prop}{C:Prop}(h:p/\q/\r/\s/\t)(K:p->q->r->s->t->C):C:=let⟨h0,h1,h2,h3,h4⟩:=h;K h0 h1 h2 h3 h4
def gb{p q:α->Prop}{C:Prop}(h:∃a,p a/\q a)(K:∀a,p a->q a->C):C:=let⟨a,h0,h1⟩:=h;K a h0 h1
def ju{p q r:α->Prop}{C:Prop}(h:∃a,p a/\q a/\r a)(K:∀a,p a->q a->r a->C):C:=let⟨a,h0,h1,h2⟩:=h;K a h0 h1 h2
def dU{p q:α->β->Prop}{C:Prop}(h:∃a b,p a b/\q a b)(K:∀a b,p a b->q a b->C):C:=let⟨a,b,h0,h1⟩:=h;K a b h0 h1
def eh{p q:α->β->Prop}(a b)(h0:p a b)(h1:q a b):∃a b,p a b/\q a b:=⟨a,b,h0,h1⟩
def l5{p q r:α->β->Prop}{C:Prop}(h:∃a b,p a b/\q a b/\r a b)(K:∀a b,p a b->q a b->r a b->C):C:=let⟨a,b,h0,h1,h2⟩:=h;K a b h0 h1 h2
def iG{p q r:α->β->Prop}(a b)(h0:p a b)(h1:q a b)(h2:r a b):∃a b,p a b/\q a b/\r a b:=⟨a,b,h0,h1,h2⟩
def kU{p q r s:α->β->Prop}{C:Prop}(h:∃a b,p a b/\q a b/\r a b/\s a b)(K:∀a b,p a b->q a b->r a b->s a b->C):C:=let⟨a,b,h0,h1,h2,h3⟩:=h;K a b h0 h1 h2 h3
def ahb{p q r s:α->β->Prop}(a b)(h0:p a b)(h1:q a b)(h2:r a b)(h3:s a b):∃a b,p a b/\q a b/\r a b/\s a b:=⟨a,b,h0,h1,h2,h3⟩
def oz{p q r s t:α->β->Prop}{C:Prop}(h:∃a b,p a b/\q a b/\r a b/\s a b/\t a b)(K:∀a b,p a b->q a b->r a b->s a b->t a b->C):C:=let⟨a,b,h0,h1,h2,h3,h4⟩:=h;K a b h0 h1 h2 h3 h4
def aaI{p q r s t:α->β->Prop}(a b)(h0:p a b)(h1:q a b)(h2:r a b)(h3:s a b)(h4:t a b):∃a b,p a b/\q a b/\r a b/\s a b/\t a b:=⟨a,b,h0,h1,h2,h3,h4⟩
def agf{p q r s t u:α->β->Prop}{C:Prop}(h:∃a b,p a b/\q a b/\r a b/\s a b/\t a b/\u a b)(K:∀a b,p a b->q a b->r a b->s a b->t a b->u a b->C):C:=let⟨a,b,h0,h1,h2,h3,h4,h5⟩:=h;K a b h0 h1 h2 h3 h4 h5
def ajD{p q r s t u:α->β->Prop}(a b)(h0:p a b)(h1:q a b)(h2:r a b)(h3:s a b)(h4:t a b)(h5:u a b):∃a b,p a b/\q a b/\r a b/\s a b/\t a b/\u a b:=⟨a,b,h0,h1,h2,h3,h4,h5⟩
def xh{p q:α->β->γ->Prop}{C:Prop}(h:∃a b c,p a b c/\q a b c)(K:∀a b c,p a b c->q a b c->C):C:=let⟨a,b,c,h0,h1⟩:=h;K a b c h0 h1
def aen{p q:α->β->γ->Prop}(a b c)(h0:p a b c)(h1:q a b c):∃a b c,p a b c/\q a b c:=⟨a,b,c,h0,h1⟩
def aaH{p q r:α->β->γ->Prop}{C:Prop}(h:∃a b c,p a b c/\q a b c/\r a b c)(K:∀a b c,p a b c->q a b c->r a b c->C):C:=let⟨a,b,c,h0,h1,h2⟩:=h;K a b c h0 h1 h2
def aha{p q r:α->β->γ->Prop}(a b c)(h0:p a b c)(h1:q a b c)(h2:r a b c):∃a b c,p a b c/\q a b c/\r a b c:=⟨a,b,c,h0,h1,h2⟩
def aeh{p q r s:α->β->γ->Prop}{C:Prop}(h:∃a b c,p a b c/\q a b c/\r a b c/\s a b c)(K:∀a b c,p a b c->q a b c->r a b c->s a b c->C):C:=let⟨a,b,c,h0,h1,h2,h3⟩:=h;K a b c h0 h1 h2 h3
def vc{p q r s:α->β->γ->Prop}(a b c)(h0:p a b c)(h1:q a b c)(h2:r a b c)(h3:s a b c):∃a b c,p a b c/\q a b c/\r a b c/\s a b c:=⟨a,b,c,h0,h1,h2,h3⟩
def am8{p q r s t:α->β->γ->Prop}{C:Prop}(h:∃a b c,p a b c/\q a b c/\r a b c/\s a b c/\t a b c)(K:∀a b c,p a b c->q a b c->r a b c->s a b c->t a b c->C):C:=let⟨a,b,c,h0,h1,h2,h3,h4⟩:=h;K a b c h0 h1 h2 h3 h4
def ana{p q r s t:α->β->γ->Prop}(a b c)(h0:p a b c)(h1:q a b c)(h2:r a b c)(h3:s a b c)(h4:t a b c):∃a b c,p a b c/\q a b c/\r a b c/\s a b c/\t a b c:=⟨a,b,c,h0,h1,h2,h3,h4⟩
def am7{p q:α->β->γ->δ->Prop}{C:Prop}(h:∃a b c d,p a b c d/\q a b c d)(K:∀a b c d,p a b c d->q a b c d->C):C:=let⟨a,b,c,d,h0,h1⟩:=h;K a b c d h0 h1
def ap3{p q:α->β->γ->δ->Prop}(a b c d)(h0:p a b c d)(h1:q a b c d):∃a b c d,p a b c d/\q a b c d:=⟨a,b,c,d,h0,h1⟩
def anQ{p q r s t u:α->β->γ->δ->Prop}{C:Prop}(h:∃a b c d,p a b c d/\q a b c d/\r a b c d/\s a b c d/\t a b c d/\u a b c d)(K:∀a b c d,p a b c d->q a b c d->r a b c d->s a b c d->t a b c d->u a b c d->C):C:=let⟨a,b,c,d,h0,h1,h2,h3,h4,h5⟩:=h;K a b c d h0 h1 h2 h3 h4 h5
def aj5{p q r s t u:α->β->γ->δ->ε->Prop}(a b c d e)(h0:p a b c d e)(h1:q a b c d e)(h2:r a b c d e)(h3:s a b c d e)(h4:t a b c d e)(h5:u a b c d e):∃a b c d e,p a b c d e/\q a b c d e/\r a b c d e/\s a b c d e/\t a b c d e/\u a b c d e:=⟨a,b,c,d,e,h0,h1,h2,h3,h4,h5⟩
def age{p q r:α->β->γ->δ->ε->ζ->η->θ->ι->Prop}{C:Prop}(h:∃a b c d e f g i j,p a b c d e f g i j/\q a b c d e f g i j/\r a b c d e f g i j)(K:∀a b c d e f g i j,p a b c d e f g i j->q a b c d e f g i j->r a b c d e f g i j->C):C:=let⟨a,b,c,d,e,f,g,i,j,h0,h1,h2⟩:=h;K a b c d e f g i j h0 h1 h2
set_option Elab.async false
set_option linter.all false
set_option maxRecDepth 100000
namespace L2
open PySem PySem.Spec PyProof.Rows
abbrev Key:=Sum (Option Int) Str
noncomputable def mf:Int:=0xFCA86420
def adh{prog w A E s Q}(h:Q mf {s with toks:=s.toks+1}):wpAny (model prog w) A (pyHash .none) Q E s:=by unfold pyHash;refine ard ?_;refine arp ?_;refine ard (wpAny_specialOf (auM s) asO.lookup ?_);refine ard (wpAny_specialOf (auM s) asO.lookup ?_);refine ard (wpAny_callSpecialIfBoundUnlessNone?_slot (auM s) asO (asx asO (auM s) PySem.F.entry_NoneType_hash (wpAny_ret_mkInt ?_) (PySem.F.args_NoneType_hash_1 _)));show wpAny _ _ (if(decide (-(2:Int)^63<=mf)&&decide (mf<2^63))=true then _ else _) Q E _;rw[arj (by decide)];exact arp h
noncomputable def zW:Key->Value->Bool|.inl (some k),v=>Value.isInt k v|.inl none,.none=>true|.inl none,_=>false|.inr x,v=>Value.isStrOf x v
def aqU(w:World):Key->Int|.inl (some k)=>hashInt k|.inl none=>mf|.inr x=>hashStr w x
def bB:∀{k v},zW k v=true->(∃i t,k=Sum.inl (some i)/\v=Value.int i t)\/(∃x t,k=Sum.inr x/\v=Value.str x t)\/k=Sum.inl none/\v=.none
|.inl (some i),v,h=>by obtain⟨t,e⟩:=Value.isInt_shape  h;exact .inl ⟨i,t,rfl,e⟩|.inl none,v,h=>by cases v<;>first|exact .inr (.inr ⟨rfl,rfl⟩)|exact nomatch h
|.inr x,v,h=>by obtain⟨t,e⟩:=Value.isStrOf_shape  h;exact .inr (.inl ⟨x,t,rfl,e⟩)
def ac3(i)(t):zW (.inl (some i)) (.int i t)=true:=by simp[zW,Value.isInt]
def ac2(x)(t):zW (.inr x) (.str x t)=true:=by simp[zW,Value.isStrOf]
def amm(a b):decide ((Sum.inl (some a):Key)=Sum.inl (some b))=(a==b):=by grind
def amj(a b):decide ((Sum.inr a:Key)=Sum.inr b)=decide (a=b):=by simp
def key_is(a)(b):decide ((Sum.inl (some a):Key)=Sum.inr b)=false:=ash λq=>nomatch q
def amn(a):decide ((Sum.inl (some a):Key)=Sum.inl none)=false:=ash λq=>nomatch q
def ami(a)(b):decide ((Sum.inr a:Key)=Sum.inl (some b))=false:=ash λq=>nomatch q
def amh(a):decide ((Sum.inr a:Key)=Sum.inl none)=false:=ash λq=>nomatch q
def aml(a):decide ((Sum.inl none:Key)=Sum.inl (some a))=false:=ash λq=>nomatch q
def amk(a):decide ((Sum.inl none:Key)=Sum.inr a)=false:=ash λq=>nomatch q
def bP(prog:Program)(w:World):PySem.KeyKind prog w Key where
 is:=zW;hash:=aqU w;inj:=λv a b ha hb=>by rcases bB ha with⟨i,t,rfl,rfl⟩|⟨x,t,rfl,rfl⟩|⟨rfl,rfl⟩<;>rcases bB hb with⟨j,u,rfl,e⟩|⟨y,u,rfl,e⟩|⟨rfl,e⟩<;>(cases e;try rfl)
 byValue:=λk v h=>by rcases bB h with⟨i,t,rfl,rfl⟩|⟨x,t,rfl,rfl⟩|⟨rfl,rfl⟩<;>rfl
 pyHash:=λhv h=>by
  rcases bB hv with⟨i,t,rfl,rfl⟩|⟨x,t,rfl,rfl⟩|⟨rfl,rfl⟩;.exact wpAny_pyHash_int h
  .exact wpAny_pyHash_str h
  .exact adh h
 eqBool:=λhu hv h=>by
  rcases bB hu with⟨i,t,rfl,rfl⟩|⟨x,t,rfl,rfl⟩|⟨rfl,rfl⟩
  .rcases bB hv with⟨j,u,rfl,rfl⟩|⟨y,u,rfl,rfl⟩|⟨rfl,rfl⟩;.rw[amm]at h;exact wpAny_eqBool_int h
   .rw[key_is]at h;exact SeqAt.EqAt.int_str i t y u _ _ _ _ h
   .rw[amn]at h;exact SeqAt.EqAt.int_none i t _ _ _ _ h
  .rcases bB hv with⟨j,u,rfl,rfl⟩|⟨y,u,rfl,rfl⟩|⟨rfl,rfl⟩;.rw[ami]at h;exact SeqAt.EqAt.str_int x t j u _ _ _ _ h
   .rw[amj]at h;exact wpAny_eqBool_str h
   .rw[amh]at h;exact SeqAt.EqAt.str_none x t _ _ _ _ h
  .rcases bB hv with⟨j,u,rfl,rfl⟩|⟨y,u,rfl,rfl⟩|⟨rfl,rfl⟩;.rw[aml]at h;exact SeqAt.EqAt.none_int j u _ _ _ _ h
   .rw[amk]at h;exact SeqAt.EqAt.none_str y u _ _ _ _ h
   .rw[atg rfl]at h;unfold eqBool;rw[arj (show(Value.none==Value.none)=true from rfl)];exact ard (wpAny_rule (arp h))
 «strs»:=λk x t v h=>by
  rcases bB h with⟨i,u,rfl,e⟩|⟨y,u,rfl,e⟩|⟨_,e⟩;.exact nomatch e
  .injection e with e1 _;subst e1;cases v<;>rfl
  .exact nomatch e
def wh(prog)(w)(i)(t):(bP prog w).is (.inl (some i)) (.int i t)=true:=ac3 i t
def wg(prog)(w)(x)(t):(bP prog w).is (.inr x) (.str x t)=true:=ac2 x t
inductive V where|non|bl(b:Bool)|int(i:Int)|str(x:Str)|byt(b:Array UInt8)|flt(b:UInt64)|ref(a:Addr)|ty(n:String)deriving DecidableEq
def RelV:V->Value->Prop|.non,u=>u=Value.none|.bl b,u=>u=Value.bool b|.int i,u=>∃t,u=Value.int i t|.str x,u=>∃t,u=Value.str x t|.byt b,u=>∃t,u=Value.bytes b t|.flt b,u=>∃t,u=Value.float b t|.ref a,u=>u=Value.ref a|.ty n,u=>u=Value.type n
abbrev Vals:List V->List Value->Prop:=Paired RelV
theorem Vals.length{xs us}(r:Vals xs us):xs.length=us.length:=Paired.length r
theorem Vals.get:∀{xs:List V}{us:List Value}{i:Nat}{x:V},Vals xs us->xs[i]?=some x->∃u,us[i]?=some u/\RelV x u|_,_,_,_,.nil,e=>by simp at e|_,_,0,_,.cons r _,e=>by simp at e;subst e;exact⟨_,rfl,r⟩|_,_,i+1,x,.cons _ t,e=>by obtain⟨u,a,b⟩:=Vals.get (i:=i) (x:=x) t (by simpa using e);exact⟨u,by simpa using a,b⟩
theorem Vals.set{x:V}{u:Value}(r:RelV x u):∀{xs:List V}{us:List Value}(i:Nat),Vals xs us->Vals (xs.set i x) (us.set i u)|_,_,_,.nil=>.nil|_,_,0,.cons _ t=>.cons r t|_,_,i+1,.cons q t=>.cons q (Vals.set r i t)
theorem Vals.append:∀{xs ys us ws},Vals xs us->Vals ys ws->Vals (xs++ys) (us++ws)|_,_,_,_,.nil,s=>s|_,_,_,_,.cons r t,s=>.cons r (Vals.append t s)
theorem Vals.take:∀{xs us}n,Vals xs us->Vals (xs.take n) (us.take n)|_,_,0,_=>.nil|_,_,_+1,.nil=>.nil|_,_,n+1,.cons r t=>.cons r (Vals.take n t)
theorem Vals.drop:∀{xs us}n,Vals xs us->Vals (xs.drop n) (us.drop n)|_,_,0,r=>r|_,_,_+1,.nil=>.nil|_,_,n+1,.cons _ t=>Vals.drop n t
def vi:Option V->Option Value->Prop|some v,some u=>RelV v u|none,none=>True|_,_=>False
def KV{a}:List (a×V)->List (a×Value)->Prop:=Paired λ(p:a×V)(q:a×Value)=>p.1=q.1/\RelV p.2 q.2
noncomputable def kV:Key->V|.inl (some i)=>.int i|.inl none=>.non|.inr x=>.str x
inductive HO where/-- a list -/|lst(xs:List V)/-- a tuple (never changes) -/|tup(xs:List V)/-- a dict whose keys are ints and texts;one whose keys are tuples of ints and texts (the empty one is both) -/|dK(kvs:List (Key×V))|dT(kvs:List (List Key×V))/-- a set of ints: its members,its size -/|set(S:Int->Bool)(n:Nat)/-- an instance of the class at C,its dict at dx,its attributes -/|ins(C dx:Addr)(fs:List (Str×V))/-- the dict of the instance at x -/|own(x:Addr)/-- the dict of an exception -/|xd(fs:List (Str×V))/-- a bound method,f of x -/|met(f x:Addr)/-- a range object lo,lo+1,.. below hi -/|rng(lo hi:Int)/-- a thing that is known to the object (the script;a dict while a loop walks it): read,never written while it is so -/|frz(o:Obj)(u:HO)/-- a code object's table -/|tbl(ps:Array Value)/-- a code object's table as TabAt tells -/|tab(ps:Array Value)/-- any other thing,by what is true of its one object (a def of one's own: SetO a S n:=HO.ext λh => ..) -/|ext(φ:Heap->Prop)
abbrev Hp:=Addr->Option HO
noncomputable def upd(H:Hp)(a:Addr)(o:HO):Hp:=λb=>if b=a then some o else H b
def aj{H a o}:upd H a o a=some o:=by unfold upd;rw[arj rfl]
def ag{H a b o}(h:b≠a):upd H a o b=H b:=by unfold upd;rw[arl h]
def abc{H a o u}:upd (upd H a o) a u=upd H a u:=by funext b;unfold upd;split<;>rfl
def apf{H:Hp}{a b o u}(h:H a=some o)(h':H b=some u)(d:o≠u):a≠b:=by grind
def aL{H:Hp}{a b o}(h:H a=some o)(h':H b=none):a≠b:=by grind
def TabAt(H:Hp)(h:Heap)(a:Addr)(ps:Array Value):Prop:=h.get? a=some {cls:=.none,data:=.fields #[]}\/∃(c:Addr)(q:Str)(t:Tok),H c=some (.own a)/\ps[2]?=some (.str q t)/\h.get? a=some {cls:=.none,data:=.fields #[ps.getD 0 .none,ps.getD 1 .none,.ref c]}/\h.CodeRec (.ref c) q
section
variable(P:Program)(w:World)
def dh(H:Hp)(h:Heap)(a:Addr):HO->Prop|.lst c=>c.length<=sizeLine/\∃(b:List Value)(n:Nat),Vals c b/\h.get? a=some {cls:=.type "list",data:=.seq b.toArray n}|.tup c=>c.length<=sizeLine/\∃b:List Value,Vals c b/\IsTup h a b.toArray|.dK kvs=>kvs.length<=sizeLine/\(a==sysModules)=false/\∃e,KV kvs e/\h.DictOf (bP P w) a e|.dT kvs=>kvs.length<=sizeLine/\(a==sysModules)=false/\∃c:List (List Key×Addr×Value),Paired (λ(p:List Key×V)(q:List Key×Addr×Value)=>p.1=q.1/\H q.2.1=some (.tup (p.1.map kV))/\RelV p.2 q.2.2) kvs c/\∃o i k,h.get? a=some o/\o.ExactDict/\o.data=.dict i k/\i.toList=c.map (entryOfKey (tupleKind (bP P w)))/\(c.map (·.1)).Nodup|.set S n=>h.SetOf (intKind P w) a S n|.ins C dx fs=>H dx=some (.own a)/\fs.length<=1000/\dx≠a/\h.get? a=some (W.instObj C dx)/\∃d,h.Ns1 dx d/\(∀f,vi (fs.lookup f) (d f))/\PySem.Within d (fs.map (·.1))|.own _=>∃o,h.get? a=some o|.xd fs=>∃d,h.Ns1 a d/\∀f,vi (fs.lookup f) (d f)|.rng lo hi=>∃t u v,h.get? a=some {cls:=.type "range",data:=.fields #[.int lo t,.int hi u,.int 1 v]}|.frz o u=>h.get? a=some o/\dh H h a u|.tbl ps=>h.get? a=some {cls:=.none,data:=.fields ps}|.tab ps=>TabAt H h a ps|.met f x=>h.get? a=some (W.methodObj (.ref f) (.ref x))|.ext φ=>φ h/\(∃o,h.get? a=some o)/\∀g j:Heap,φ g->(∀o,g.get? a=some o->j.get? a=some o)->φ j
def HOk(H:Hp)(h:Heap):Prop:=∀a o,H a=some o->dh P w H h a o
end
section
variable{P:Program}{w:World}{H H':Hp}{h h':Heap}{a:Addr}{o:HO}
theorem dh.lt(x:dh P w H h a o):a<h.objs.size:=by cases o with|lst xs=>obtain⟨_,_,_,_,e⟩:=x;exact ars e|tup xs=>obtain⟨_,_,_,p⟩:=x;exact p.lt|dK kvs|dT kvs=>obtain⟨_,_,_,_,o,_,_,e,_⟩:=x;exact ars e|set S n=>obtain⟨o,_,_,_,e,_⟩:=x;exact ars e|ins C dx fs=>obtain⟨_,_,_,e,_⟩:=x;exact ars e|own y=>obtain⟨_,e⟩:=x;exact ars e|xd fs=>obtain⟨_,⟨_,_,_,e,_⟩,_⟩:=x;exact ars e|rng lo hi=>obtain⟨_,_,_,e⟩:=x;exact ars e|frz ob u=>obtain⟨e,_⟩:=x;exact ars e|tbl ps|met f y=>exact ars x|tab ps=>rcases x with e|⟨_,_,_,_,_,e,_⟩<;>exact ars e|ext φ=>obtain⟨_,⟨_,e⟩,_⟩:=x;exact ars e
theorem Paired.alY{α e F G}:∀{c:List α}{d:List e},Paired F c d->(∀a b,F a b->G a b)->Paired G c d|_,_,.nil,_=>.nil|_,_,.cons r t,f=>.cons (f _ _ r) (Paired.alY t f)
def dh.vd(x:dh P w H h a o)(k:∀b u,b=a\/H b=some (.own a)->h.get? b=some u->h'.get? b=some u)(D:∀b,H b=some (.own a)->H' b=some (.own a))(M:∀b l,H b=some (.tup l)->H' b=some (.tup l)):dh P w H' h' a o:=by
 induction o with|lst l=>obtain⟨z,j,n,r,e⟩:=x;exact⟨z,j,n,r,k _ _ (.inl rfl) e⟩|tup l=>obtain⟨z,j,r,ob,e,c⟩:=x;exact⟨z,j,r,ob,k _ _ (.inl rfl) e,c⟩|dK kvs=>obtain⟨z,y,s,r,ob,i,g,e,c⟩:=x;exact⟨z,y,s,r,ob,i,g,k _ _ (.inl rfl) e,c⟩|dT kvs=>obtain⟨z,y,l,r,ob,i,g,e,c⟩:=x;exact⟨z,y,l,Paired.alY r λp q z=>⟨z.1,M _ _ z.2.1,z.2.2⟩,ob,i,g,k _ _ (.inl rfl) e,c⟩|set S n=>obtain⟨ob,i,g,t,e,c⟩:=x;exact⟨ob,i,g,t,k _ _ (.inl rfl) e,c⟩|ins C dx fs=>obtain⟨d,z,E,e,A,⟨od,i,g,m,c⟩,r⟩:=x;exact⟨D _ d,z,E,k _ _ (.inl rfl) e,A,⟨od,i,g,k _ _ (.inr d) m,c⟩,r⟩|own y=>obtain⟨ob,e⟩:=x;exact⟨ob,k _ _ (.inl rfl) e⟩|xd fs=>obtain⟨A,⟨od,i,g,e,c⟩,r⟩:=x;exact⟨A,⟨od,i,g,k _ _ (.inl rfl) e,c⟩,r⟩|rng lo hi=>obtain⟨t,u,v,e⟩:=x;exact⟨t,u,v,k _ _ (.inl rfl) e⟩|frz ob u ih=>obtain⟨e,q⟩:=x;exact⟨k _ _ (.inl rfl) e,ih q⟩|tab ps=>
 rcases x with e|⟨c,q,t,B,J,e,O,N,s,K,m,I,G⟩;.exact .inl (k a _ (.inl rfl) e)
 .cases m;exact .inr ⟨c,q,t,D c B,J,k a _ (.inl rfl) e,c,N,s,K,rfl,k c _ (.inr B) I,G⟩|tbl ps=>have e:=x;exact k a _ (.inl rfl) e|met f y=>have e:=x;exact k a _ (.inl rfl) e|ext φ=>obtain⟨p,⟨o,e⟩,st⟩:=x;exact⟨st _ _ p λo q=>k _ _ (.inl rfl) q,⟨o,k _ _ (.inl rfl) e⟩,st⟩
theorem HOk.lt(x:HOk P w H h)(e:H a=some o):a<h.objs.size:=(x a o e).lt
def HOk.fresh(x:HOk P w H h)(e:h.objs.size<=a):H a=none:=by cases q:H a with|none=>rfl|some u=>exact absurd (aro (x.lt q) e) (asP _)
def HOk.kept(x:HOk P w H h)(k:∀b u,h.get? b=some u->h'.get? b=some u):HOk P w H h':=λa o e=>(x a o e).vd (λb u _ q=>k b u q) (λ_ q=>q) λ_ _ q=>q
def HOk.laid(x:HOk P w H h)(k:∀b u,h.get? b=some u->h'.get? b=some u)(g:h.objs.size<=a)(new:dh P w (upd H a o) h' a o):HOk P w (upd H a o) h':=λb u e=>by
 have d:=x.fresh g;by_cases f:b=a;.subst f;rw[aj]at e;cases e;exact new
 .rw[ag f]at e;exact(x b u e).vd (λc v _ q=>k c v q) (λc q=>by rw[ag (aL q d)];exact q) λc i q=>by rw[ag (aL q d)];exact q
end
def Rd(H:Hp)(a:Addr)(u:HO):Prop:=H a=some u\/∃o,H a=some (.frz o u)
def Rd.ok{P w H h a u}(r:Rd H a u)(x:HOk P w H h):dh P w H h a u:=by
 rcases r with r|⟨o,r⟩;.exact x a u r
 .obtain⟨_,q⟩:=x a _ r;exact q
def Mut:Option HO->Prop|some (.lst _)=>True|some (.dK _)=>True|some (.dT _)=>True|some (.set _ _)=>True|some (.ins _ _ _)=>True|some (.ext _)=>True|_=>False
section
variable{P:Program}{w:World}{H:Hp}{h h':Heap}{x e:Addr}{o':HO}
def HOk.write(ok:HOk P w H h)(f:Mut (H x))(n:e=x\/H e=some (.own x))(k:∀b u,b≠e->h.get? b=some u->h'.get? b=some u)(i:∃u,h'.get? e=some u)(new:dh P w (upd H x o') h' x o'):HOk P w (upd H x o') h':=λb u q=>by
 have a:∀c y,H c=some (.own y)->c≠x:=λc y r z=>by subst z;rw[r]at f;exact f
 by_cases j:b=x;.subst j;rw[aj]at q;cases q;exact new
 .rw[ag j]at q;by_cases g:b=e
  .have l:H b=some (.own x):=by grind
   rw[q]at l;cases l;obtain⟨v,o⟩:=i;exact⟨v,by grind⟩
  .refine(ok b u q).vd (λc v d r=>k c v ?_ r) (λc r=>by rw[ag (a c b r)];exact r) λc m r=>by rw[ag ((λc m r z=>by subst z;rw[r]at f;exact f) c m r)];exact r
   rcases d with rfl|d;.exact g
   .rintro rfl;rcases n with z|z;.exact a c b d z
    .rw[d]at z;cases z;exact j rfl
end
structure Un(fs ex:List Addr)(H H':Hp)(h h':Heap):Prop where
 keep:∀b o,h.get? b=some o->H b=none->b∉fs->b∉ex->h'.get? b=some o
 slot:∀b o,h.get? b=some o->H b=none->b∈fs->b∉ex->∃sl,h'.get? b=some {o with slots:=sl}free:∀b o,h.get? b=some o->H b=none->b∉ex->H' b=none
 there:∀b o,h.get? b=some o->b∉ex->∃o',h'.get? b=some o'
 tups:∀b xs,H b=some (.tup xs)->H' b=some (.tup xs)frzs:∀b o u,H b=some (.frz o u)->H' b=some (.frz o u)tbls:∀b ps,H b=some (.tbl ps)->∃more,H' b=some (.tbl (ps++more))
section
variable{fs fs' ex ex':List Addr}{H H1 H2:Hp}{h h1 h2 h':Heap}{a x e:Addr}{o:HO}
def Un.any(u:Un fs ex H H1 h h1){b ob}(q:h.get? b=some ob)(n:H b=none)(d:b∉ex):∃f,h1.get? b=some {ob with slots:=f}:=by
 by_cases c:b∈fs;.exact u.slot b _ q n c d
 .exact⟨_,u.keep b _ q n c d⟩
def Un.trans(a:Un fs ex H H1 h h1)(b:Un fs ex H1 H2 h1 h2):Un fs ex H H2 h h2 where
 keep:=λc ob q n hc hx=>b.keep c ob (a.keep c ob q n hc hx) (a.free c ob q n hx) hc hx;slot:=λc ob q n hc hx=>by obtain⟨sl,e1⟩:=a.slot c ob q n hc hx;obtain⟨sl',e2⟩:=b.slot c _ e1 (a.free c ob q n hx) hc hx;exact⟨sl',e2⟩
 free:=λc ob q n hx=>by obtain⟨o',e1⟩:=a.there c ob q hx;exact b.free c o' e1 (a.free c ob q n hx) hx
 there:=λc ob q hx=>by obtain⟨o',e1⟩:=a.there c ob q hx;exact b.there c o' e1 hx
 tups:=λc xs q=>b.tups c xs (a.tups c xs q);frzs:=λc ob xs q=>b.frzs c ob xs (a.frzs c ob xs q);tbls:=λc ps q=>by obtain⟨m1,e1⟩:=a.tbls c ps q;obtain⟨m2,e2⟩:=b.tbls c _ e1;exact⟨m1++m2,by rw[e2,Array.append_assoc]⟩
def Un.kept(k:∀b u,h.get? b=some u->h'.get? b=some u):Un fs ex H H h h':=⟨λb ob q _ _ _=>k b ob q,λb ob q _ _ _=>⟨ob.slots,k b ob q⟩,λ_ _ _ n _=>n,λb ob q _=>⟨ob,k b ob q⟩,λ_ _ q=>q,λ_ _ _ q=>q,λ_ c q=>⟨#[],by rw[q];simp⟩⟩
def Un.refl:Un fs ex H H h h:=Un.kept λ_ _ q=>q
def Un.laid(k:∀b u,h.get? b=some u->h'.get? b=some u)(hp:h.objs.size<=a)(hn:H a=none):Un fs ex H (upd H a o) h h' where
 keep:=λb u q _ _ _=>k b u q;slot:=λb u q _ _ _=>⟨u.slots,k b u q⟩;free:=λb u q n _=>by rw[ag (arA (aro (ars q) hp))];exact n
 there:=λb u q _=>⟨u,k b u q⟩;tups:=λb xs q=>by rw[ag (aL q hn)];exact q
 frzs:=λb u xs q=>by rw[ag (aL q hn)];exact q
 tbls:=λb ps q=>⟨#[],by rw[ag (aL q hn),q];simp⟩
def Un.write(i:Mut (H x))(p:e=x\/H e=some (.own x))(k:∀b u,b≠e->h.get? b=some u->h'.get? b=some u)(d:∃u,h'.get? e=some u):Un fs ex H (upd H x o) h h':=by
 have l:∀b,H b=none->b≠x:=λb n z=>by subst z;rw[n]at i;exact i
 have g:∀b,H b=none->b≠e:=λb n z=>by grind
 have f:∀b u,H b=some u->¬Mut (some u)->b≠x:=λb u q nm z=>by grind
 refine⟨λb u q n _ _=>k b u (g b n) q,λb u q n _ _=>⟨u.slots,k b u (g b n) q⟩,λb u q n _=>by rw[ag (l b n)];exact n,λb u q _=>?_,λb j q=>by rw[ag (f b _ q λz=>z)];exact q,λb u j q=>by rw[ag (f b _ q λz=>z)];exact q,λb m q=>⟨#[],by rw[ag (f b _ q λz=>z),q];simp⟩⟩;by_cases c:b=e;.subst c;exact d
 .exact⟨u,k b u c q⟩
def Un.mono(u:Un fs ex H H1 h h1)(f:∀b∈fs,b∈fs')(d:∀b∈ex,b∈ex'):Un fs' ex' H H1 h h1:=⟨λb ob q n g c=>u.keep b ob q n (λz=>g (f b z)) λz=>c (d b z),λ_ _ q n _ c=>u.any q n λz=>c (d _ z),λb ob q n c=>u.free b ob q n λz=>c (d b z),λb ob q c=>u.there b ob q λz=>c (d b z),u.tups,u.frzs,u.tbls⟩
end
noncomputable def trk(h:Heap)(H:Hp):List Addr:=(List.range h.objs.size).filter λa=>(H a).isSome
def afG(h:Heap)(H:Hp):Heap:=W.hideAll h (trk h H)
def adg(h)(H):(afG h H).objs.size=h.objs.size:=W.hideAll_size _ _
def afF{h H b o}(e:h.get? b=some o)(n:H b=none):(afG h H).get? b=some o:=W.hideAll_get _ e λa=>by have q:=(List.mem_filter.mp a).2;rw[n]at q;simp at q
def aiE{h H b o}(e:(afG h H).get? b=some o):h.get? b=some o/\H b=none:=by have a:=W.of_hideAll _ e;refine⟨a,?_⟩;cases q:H b with|none=>rfl|some x=>have z:(afG h H).get? b=none:=W.hideAll_none _ (List.mem_filter.mpr ⟨asd.mpr (ars a),by grind⟩);rw[z]at e;cases e
noncomputable def ajz(g h:Heap)(L:Addr):List (Addr×Obj):=(List.range h.objs.size).filterMap λa=>if a=L\/(g.get? a).isSome=true then none else(h.get? a).map λo=>(a,o)
def rest(g h:Heap)(L d:Addr):List (Addr×Obj):=(ajz g h L).filter λp=>decide (p.1≠d)
structure Mod(K:W.Frag)(mg:Str->Option Value)(base:Heap):Prop where
 kin:K.In base
 glob:base.Ns mainGlobals mg
 blt:∃mb,base.Ns builtinsNs mb/\∀x:Str,x≠"__name__"->mb x=bootBuiltins x
 nolimit:base.NoLimit
structure Cx where
 prog:Program
 w:World
 K:W.Frag
 mg:Str->Option Value
 base:Heap
 A:Around
 N:List Str
 s₀:Shared
 H₀:Hp
 env:Env
 outer:List Env
 stack:List Env
 ex:List Addr
 fn:Str->Bool
 calm:Bool
 pn:List (Addr×Obj)xe:Value->Shared->Prop
noncomputable def frs(l:List Env):List Addr:=l.filterMap (·.frame)
abbrev Cx.fs(X:Cx):List Addr:=frs X.outer
def Vis(a:Scope)(x:Str):Prop:=a.names.lookup x=some .local\/a.names.lookup x=some .cell\/a.names.lookup x=some .free
def Loc(a:Scope)(x:Str):Prop:=a.names.lookup x=some .local\/a.names.lookup x=some .cell
def Look(a:Env)(h:Heap)(m:Str->Option Value)(x:Str)(u:Value):Prop:=a.kindOf x=some .local/\m x=some u\/(a.kindOf x=some .cell\/a.kindOf x=some .free)/\∃c,a.cells.lookup x=some c/\h.IsCell c (some u)
abbrev Dbg(x:Str):Prop:=(x==("__debug__":Str))=false
abbrev SE(X:Cx)(e:Expr)(es:List Expr):Prop:=starEach (e::es) X.env=(false,eval e X.env)::starEach es X.env
abbrev BT(X:Cx)(p:Pos)(es:List Expr):Prop:=(backTo p (starEach es X.env)).any (·.1)=false
abbrev FL(X:Cx)(x:Str):Prop:=X.fn x=true\/X.env.scope.names.lookup x=some .local
structure Cx.Ok(X:Cx):Prop where
 mod:Mod X.K X.mg X.base
 kind:X.env.scope.kind=.function
 glob:X.env.globals=mainGlobals
 blt:X.env.builtins=builtinsNs
 above:X.s₀.heap.objs.size<=X.env.locals
 inj:∀x y c,X.env.cells.lookup x=some c->X.env.cells.lookup y=some c->x=y
 has:∀x,X.env.kindOf x=some .cell\/X.env.kindOf x=some .free->∃c,X.env.cells.lookup x=some c
 cab:∀x c,X.fn x=true->X.env.cells.lookup x=some c->X.s₀.heap.objs.size<=c
 hd:X.calm=true->X.A.handled=none
 frames:X.A.frames=some X.stack
 stk:X.stack=X.outer\/X.stack=X.env::X.outer/\X.env.frame=some X.env.locals
 exf:∀b∈X.ex,b≠X.env.locals/\∀x c,X.env.cells.lookup x=some c->c≠b
 bs:∀b o,X.base.get? b=some o->X.s₀.heap.get? b=some o/\X.H₀ b=none
 bsz:X.base.objs.size<=X.s₀.heap.objs.size
 noex:∀b o,X.base.get? b=some o->b∉X.ex
 exfs:∀b∈X.ex,b∉X.fs
 rW:X.s₀.heap.FunFrames X.base X.outer
 frf:∀b∈X.fs,X.H₀ b=none
structure Inv(X:Cx)(pins:List (Addr×Obj))(σ:List (Option V))(H:Hp)(s:Shared):Prop where
 ok:X.Ok
 os:s.os=X.s₀.os
 bare:AllBare s.gens
 base:Un X.fs X.ex X.H₀ H X.s₀.heap s.heap
 loc:∃m,s.heap.Ns X.env.locals m/\∀(i:Nat)(x:Str)(v:V),X.N[i]?=some x->σ[i]?=some (some v)->Vis X.env.scope x->∃u,RelV v u/\Look X.env s.heap m x u
 cell:∀x c,X.env.cells.lookup x=some c->∃v,s.heap.IsCell c v
 free:H X.env.locals=none
 freeC:∀x c,X.env.cells.lookup x=some c->H c=none
 pin:∀p∈X.pn++pins,s.heap.get? p.1=some p.2/\H p.1=none/\p.1≠X.env.locals/\p.1∉X.fs/\∀v,p.2.data≠.cell v
 hok:HOk X.prog X.w H s.heap
 len:σ.length=X.N.length
section
variable{X:Cx}{pins:List (Addr×Obj)}{σ:List (Option V)}{H H':Hp}{s:Shared}{h':Heap}
def Cx.Ok.aqP(ok:X.Ok){b o}(e:X.base.get? b=some o):b∉X.fs:=λa=>by have:=(ok.rW.mem a).1;rw[e]at this;cases this
theorem Inv.bs(I:Inv X pins σ H s):∀b o,X.base.get? b=some o->s.heap.get? b=some o/\H b=none:=λb o e=>⟨I.base.keep b o (I.ok.bs b o e).1 (I.ok.bs b o e).2 (I.ok.aqP e) (I.ok.noex b o e),I.base.free b o (I.ok.bs b o e).1 (I.ok.bs b o e).2 (I.ok.noex b o e)⟩
def Inv.bk(I:Inv X pins σ H s):∀b o,X.base.get? b=some o->s.heap.get? b=some o:=λb o e=>(I.bs b o e).1
theorem Inv.mod(I:Inv X pins σ H s):Mod X.K X.mg X.base:=I.ok.mod
def Inv.kIn(I:Inv X pins σ H s):X.K.In s.heap:=I.ok.mod.kin.keeps I.bk
theorem Inv.lt(I:Inv X pins σ H s):X.env.locals<s.heap.objs.size:=let⟨_,a,_⟩:=I.loc;a.lt
def Inv.sz(I:Inv X pins σ H s):X.s₀.heap.objs.size<=s.heap.objs.size:=arq I.ok.above (ats I.lt)
def Inv.aqO(I:Inv X pins σ H s){a:Addr}(h:s.heap.objs.size<=a):a∉X.fs:=λc=>by obtain⟨_,o,b,_⟩:=I.ok.rW.mem c;exact absurd (aro (ars b) (arq I.sz h)) (asP _)
def Inv.cne(I:Inv X pins σ H s):∀x c,X.env.cells.lookup x=some c->c≠X.env.locals:=λx c e z=>by obtain⟨v,o,d,f⟩:=I.cell x c e;obtain⟨m,⟨h,g,i,b,a,_⟩,_⟩:=I.loc;rw[z,b]at d;cases d;rw[a]at f;cases f
theorem Inv.rW(I:Inv X pins σ H s):s.heap.FunFrames X.base X.outer:=by
 have all:∀(l),(∀b∈frs l,b∈X.fs)->X.s₀.heap.FunFrames X.base l->s.heap.FunFrames X.base l:=by intro l;induction l with|nil=>intro _ _;trivial|cons env r ih=>intro f k;obtain⟨g,⟨L,o,a,h,i,j⟩,m⟩:=k;have c:=f L (by unfold frs;rw[at4,a];exact arD);obtain⟨n,e⟩:=I.base.slot L o i (I.ok.frf L c) c λz=>I.ok.exfs L z c;exact⟨g,ahb L _ a h e j,ih (λb d=>f b (by unfold frs;rw[at4,a];exact arH _ d)) m⟩
 exact all _ (λ_ d=>d) I.ok.rW
theorem Inv.stack(I:Inv X pins σ H s):s.heap.FunFrames X.base X.stack:=by
 rcases I.ok.stk with e|⟨e,a⟩;.rw[e];exact I.rW
 .rw[e];obtain⟨m,b,_⟩:=I.loc;exact .cons (by rw[I.ok.kind];decide) a b (asj (arq I.ok.bsz I.ok.above)) I.rW
def Inv.xJ(I:Inv X pins σ H s):∀b∈frs X.stack,b∈X.env.locals::X.fs:=λb a=>by
 rcases I.ok.stk with e|⟨e,c⟩;.rw[e]at a;exact arH _ a
 .rw[e]at a;unfold frs at a;rw[at4,c]at a;exact a
def Inv.vw(I:Inv X pins σ H s):∀b∈frs X.stack,H b=none:=λb a=>by
 rcases arx.mp (I.xJ b a)with e|a;.rw[e];exact I.free
 .obtain⟨_,o,c,_⟩:=I.ok.rW.mem a;exact I.base.free b o c (I.ok.frf b a) λz=>I.ok.exfs b z a
def Inv.aeL{g' t' d'}{ch:List Addr}(I:Inv X pins σ H s)(f:∀b∈ch,(b∈X.ex\/X.s₀.heap.get? b=none)/\b≠X.env.locals/\(∀x c,X.env.cells.lookup x=some c->c≠b)/\∀p∈X.pn++pins,p.1≠b)(keep:∀b o,b≠X.env.locals->b∉X.fs->b∉ch->s.heap.get? b=some o->H b=none->h'.get? b=some o)(y:∀b o,b≠X.env.locals->b∈X.fs->b∉ch->s.heap.get? b=some o->H b=none->∃Q,h'.get? b=some {o with slots:=Q})(free:∀b o,b∉ch->s.heap.get? b=some o->H b=none->H' b=none)(there:∀b o,b∉ch->s.heap.get? b=some o->∃E,h'.get? b=some E)(J:∀b w,H b=some (.tup w)->H' b=some (.tup w))(D:∀b o u,H b=some (.frz o u)->H' b=some (.frz o u))(M:∀b N,H b=some (.tbl N)->∃K,H' b=some (.tbl (N++K)))(ns:∀m,s.heap.Ns X.env.locals m->h'.Ns X.env.locals m)(P:HOk X.prog X.w H' h')(hg:AllBare g'):Inv X pins σ H' {s with heap:=h',gens:=g',drawn:=d',toks:=t'}:=by
 have G:∀b o,X.s₀.heap.get? b=some o->b≠X.env.locals:=λb o e=>arA (aro (ars e) I.ok.above);have t:∀b o,X.s₀.heap.get? b=some o->b∉X.ex->b∉ch:=λb o e a A=>by
  rcases(f b A).1 with z|z;.exact a z
  .rw[z]at e;cases e
 have h:∀x c,X.env.cells.lookup x=some c->∀v,s.heap.IsCell c v->h'.IsCell c v:=λx c e v⟨o,B,R⟩=>by
  have g:c∉ch:=λz=>(f c z).2.2.1 x c e rfl;by_cases U:c∈X.fs;.obtain⟨Q,q⟩:=y c o (I.cne x c e) U g B (I.freeC x c e);exact⟨_,q,R⟩
  .exact⟨o,keep c o (I.cne x c e) U g B (I.freeC x c e),R⟩
 refine⟨I.ok,I.os,hg,⟨λb o e n A a=>?_,λb o e n A a=>?_,λb o e n a=>?_,λb o e a=>?_,λb w e=>J b w (I.base.tups b w e),λb o w e=>D b o w (I.base.frzs b o w e),λb N e=>?_⟩,?_,λx c e=>?_,?_,λx c e=>?_,λp S=>?_,P,I.len⟩;.exact keep b o (G b o e) A (t b o e a) (I.base.keep b o e n A a) (I.base.free b o e n a)
 .obtain⟨Q,j⟩:=I.base.slot b o e n A a;obtain⟨O,C⟩:=y b _ (G b o e) A (t b o e a) j (I.base.free b o e n a);exact⟨O,C⟩
 .obtain⟨E,j⟩:=I.base.there b o e a;exact free b E (t b o e a) j (I.base.free b o e n a)
 .obtain⟨E,j⟩:=I.base.there b o e a;exact there b E (t b o e a) j
 .obtain⟨m1,j⟩:=I.base.tbls b N e;obtain⟨m2,C⟩:=M b _ j;exact⟨m1++m2,by rw[C,Array.append_assoc]⟩
 .refine gb I.loc λm Z hl=>?_;refine⟨m,ns m Z,λi x v j C e3=>?_⟩;obtain⟨u,r,l⟩:=hl i x v j C e3;refine⟨u,r,?_⟩;rcases l with l|⟨k,c,e,z⟩;.exact .inl l
  .exact .inr ⟨k,c,e,h x c e _ z⟩
 .obtain⟨v,z⟩:=I.cell x c e;exact⟨v,h x c e v z⟩
 .obtain⟨m,⟨o,_,_,B,_⟩,_⟩:=I.loc;exact free _ o (λz=>(f _ z).2.1 rfl) B I.free
 .obtain⟨v,o,B,R⟩:=I.cell x c e;exact free c o (λz=>(f c z).2.2.1 x c e rfl) B (I.freeC x c e)
 .refine anR (I.pin p S) λe n T Y d=>?_;have g:p.1∉ch:=λz=>(f p.1 z).2.2.2 p S rfl;exact⟨keep p.1 p.2 T Y g e n,free p.1 p.2 g e n,T,Y,d⟩
def Inv.step{g' t' d' h' H'}{ch:List Addr}(I:Inv X pins σ H s)(a:∀b∈ch,(b∈X.ex\/X.s₀.heap.objs.size<=b)/\b≠X.env.locals/\(∀x c,X.env.cells.lookup x=some c->c≠b)/\∀p∈X.pn++pins,p.1≠b):=I.aeL (g':=g') (t':=t') (d':=d') (h':=h') (H':=H') λb d=>⟨(a b d).1.imp_right asj,(a b d).2⟩
def Inv.un{t'}(I:Inv X pins σ H s)(u:Un X.fs [] H H' s.heap h')(c:HOk X.prog X.w H' h'):Inv X pins σ H' {s with heap:=h',toks:=t'}:=by obtain⟨m,⟨o,v,t,f,r⟩,_⟩:=id I.loc;obtain⟨l,h⟩:=u.any f I.free (by simp);exact I.step (ch:=[]) (λ_ z=>nomatch z) (λb o _ d _ e n=>u.keep b o e n d (by simp)) (λb o _ d _ e n=>u.slot b o e n d (by simp)) (λb o _ e n=>u.free b o e n (by simp)) (λb o _ e=>u.there b o e (by simp)) u.tups u.frzs u.tbls (λq g=>by refine xh g λp j k a i=>?_;rw[f]at a;cases a;exact aen _ _ _ h i) c I.bare
def Inv.call{g' t' d' ch}(I:Inv X pins σ H s)(u:Un (frs X.stack) ch H H' s.heap h')(g:HOk X.prog X.w H' h')(j:AllBare g')(f:∀b∈ch,(b∈X.ex\/X.s₀.heap.objs.size<=b)/\b≠X.env.locals/\(∀x c,X.env.cells.lookup x=some c->c≠b)/\∀p∈X.pn++pins,p.1≠b):Inv X pins σ H' {s with heap:=h',gens:=g',drawn:=d',toks:=t'}:=by obtain⟨m,⟨o,C,B,i,r⟩,_⟩:=id I.loc;obtain⟨w,h⟩:=u.any i I.free λz=>(f _ z).2.1 rfl;exact I.step f (λb o h l a e n=>u.keep b o e n (λz=>(arx.mp (I.xJ b z)).elim h l) a) (λb o _ _ a e n=>u.any e n a) (λb o a e n=>u.free b o e n a) (λb o a e=>u.there b o e a) u.tups u.frzs u.tbls (λA k=>by refine xh k λy t v d q=>?_;rw[i]at d;cases d;exact aen _ _ _ h q) g j
def Inv.turned{t' it}(I:Inv X pins σ H s)(k:∀b o,b≠it->s.heap.get? b=some o->h'.get? b=some o)(A:H it=none)(f:it≠X.env.locals)(l:it∈X.ex\/X.s₀.heap.objs.size<=it)(y:∀x c,X.env.cells.lookup x=some c->c≠it)(w:∀p∈X.pn++pins,p.1≠it):Inv X pins σ H {s with heap:=h',toks:=t'}:=by
 have d:∀b u,H b=some u->b≠it:=λb u e z=>by grind
 refine I.step (g':=s.gens) (ch:=[it]) (λb j=>?_) (λb o _ _ a e _=>k b o (λz=>a (by simp[z])) e) (λb o _ _ a e _=>⟨o.slots,k b o (λz=>a (by simp[z])) e⟩) (λ_ _ _ _ n=>n) (λb o a e=>⟨o,k b o (λz=>a (by simp[z])) e⟩) (λ_ _ e=>e) (λ_ _ _ e=>e) (λb B e=>⟨#[],by rw[e];simp⟩) (λm g=>?_) (λb u e=>?_) I.bare
 .have e:b=it:=by simpa using j
  subst e;exact⟨l,f,y,w⟩
 .refine xh g λo i h t r=>?_;exact aen o i h (k _ o (arz f) t) r
 .refine(I.hok b u e).vd (λc v a q=>k c v ?_ q) (λ_ q=>q) λ_ _ q=>q;rcases a with z|z;.rw[z];exact d b u e
  .exact d c _ z
def Inv.tok(I:Inv X pins σ H s)(t):Inv X pins σ H {s with toks:=t}:=I.un  Un.refl I.hok
theorem Inv.kept{t'}(I:Inv X pins σ H s)(k:∀b u,s.heap.get? b=some u->h'.get? b=some u):Inv X pins σ H {s with heap:=h',toks:=t'}:=I.un (Un.kept k) (I.hok.kept k)
theorem Inv.laid{a:Addr}{o t'}(I:Inv X pins σ H s)(k:∀b u,s.heap.get? b=some u->h'.get? b=some u)(c:s.heap.objs.size<=a)(new:dh X.prog X.w (upd H a o) h' a o):Inv X pins σ (upd H a o) {s with heap:=h',toks:=t'}:=I.un (Un.laid k c (I.hok.fresh c)) (I.hok.laid k c new)
theorem Inv.write{x e o t'}(I:Inv X pins σ H s)(d:Mut (H x))(c:e=x\/H e=some (.own x))(k:∀b u,b≠e->s.heap.get? b=some u->h'.get? b=some u)(a:∃u,h'.get? e=some u)(new:dh X.prog X.w (upd H x o) h' x o):Inv X pins σ (upd H x o) {s with heap:=h',toks:=t'}:=I.un (Un.write d c k a) (I.hok.write d c k a new)
def Inv.hY{a}(I:Inv X pins σ H s)(h:∀p∈a,s.heap.get? p.1=some p.2/\H p.1=none/\p.1≠X.env.locals/\p.1∉X.fs/\∀v,p.2.data≠.cell v):Inv X a σ H s:=⟨I.ok,I.os,I.bare,I.base,I.loc,I.cell,I.free,I.freeC,λp b=>(arN.mp b).elim (λz=>I.pin p (ar6 _ z)) (h p),I.hok,I.len⟩
def qS{N:List Str}(d:N.Nodup){i j:Nat}{x}(a:N[i]?=some x)(b:N[j]?=some x):i=j:=by obtain⟨f,e⟩:=ari.mp a;obtain⟨g,c⟩:=ari.mp b;exact(List.getElem_inj d).mp (e.trans c.symm)
def jC{M A E i x v u Q}(I:Inv X pins σ H s)(hN:X.N.Nodup)(U:X.N[i]?=some x)(w:Loc X.env.scope x)(r:RelV v u)(h:∀s',Inv X pins (σ.set i (some v)) H s'->(∃a,Heap.SameBut a s.heap s'.heap/\(a=X.env.locals\/X.env.cells.lookup x=some a))->Q () s')(hf:FL X x:=by first|exact .inl rfl|exact .inr rfl|assumption):wpAny M A (storeName X.env x u) Q E s:=by
 refine gb (id I.loc) λm hn hl=>?_;have S:(X.env.scope.kind==.class||X.env.scope.kind==.module&&X.env.locals !=X.env.globals)=false:=by rw[I.ok.kind];rfl
 have D:i<σ.length:=by rw[I.len];exact(ari.mp U).1
 have cne:=I.cne;have g:∀{a:Addr}{h':Heap},(∃o,s.heap.get? a=some o/\H a=none)->Heap.SameBut a s.heap h'->HOk X.prog X.w H h':=λ{a h'}ha f b ob e=>by
  obtain⟨_,_,B⟩:=ha;refine(I.hok b ob e).vd (λc w' t q=>(f.2 c ?_).trans q) (λ_ q=>q) λ_ _ q=>q;rintro rfl;rcases t with rfl|t;.rw[B]at e;cases e
  .rw[B]at t;cases t
 rcases w with N|N
 .refine wpAny_storeName_local N hn (λh' a1 f=>?_) S;obtain⟨oL,_,_,a0,_⟩:=id hn;refine h _ ⟨I.ok,I.os,I.bare,⟨λb o e n J w=>?_,λb o e n J w=>?_,I.base.free,λb o e w=>?_,I.base.tups,I.base.frzs,I.base.tbls⟩,⟨_,a1,λj y v' l C e3=>?_⟩,λy c e=>?_,I.free,I.freeC,λp hp=>?_,g ⟨oL,a0,I.free⟩ f,by simpa using I.len⟩ ⟨_,f,.inl rfl⟩;.exact(f.2 b (arA (aro (ars e) I.ok.above))).trans (I.base.keep b o e n J w)
  .obtain⟨sl,l⟩:=I.base.slot b o e n J w;exact⟨sl,(f.2 b (arA (aro (ars e) I.ok.above))).trans l⟩
  .obtain⟨o',l⟩:=I.base.there b o e w;exact⟨o',(f.2 b (arA (aro (ars e) I.ok.above))).trans l⟩
  .by_cases K:j=i;.subst K;rw[U]at l;cases l;rw[ark D]at C;cases C;exact⟨u,r,.inl ⟨N,by simp⟩⟩
   .rw[arh (arz K)]at C;obtain⟨u',r',q⟩:=hl j y v' l C e3;refine⟨u',r',?_⟩;rcases q with⟨k,e⟩|⟨k,c,e,z⟩;.refine .inl ⟨k,?_⟩;have:y≠x:=λe=>K (qS hN l (e▸U));simp[this,e]
    .exact .inr ⟨k,c,e,z.sameBut f (cne y c e)⟩
  .obtain⟨w',z⟩:=I.cell y c e;exact⟨w',z.sameBut f (cne y c e)⟩
  .refine anR (I.pin p hp) λe n Z nf d=>?_;exact⟨(f.2 p.1 Z).trans e,n,Z,nf,d⟩
 .have G:X.fn x=true:=by grind
  obtain⟨c,t⟩:=I.ok.has x (.inl N);obtain⟨w',z⟩:=I.cell x c t;refine wpAny_storeName_cell I.ok.kind N t z λh' P f=>?_;refine gb (id z) λoc O T=>?_;refine h {s with heap:=h'} ⟨I.ok,I.os,I.bare,⟨λb o e n J w=>?_,λb o e n J w=>?_,I.base.free,λb o e w=>?_,I.base.tups,I.base.frzs,I.base.tbls⟩,⟨m,hn.sameBut f (arz (cne x c t)),λj y v' l C e3=>?_⟩,λy Y e=>?_,I.free,I.freeC,λp hp=>?_,g ⟨oc,O,I.freeC x c t⟩ f,by simpa using I.len⟩ ⟨c,f,.inr t⟩;.exact(f.2 b (arA (aro (ars e) (I.ok.cab x c G t)))).trans (I.base.keep b o e n J w)
  .obtain⟨sl,l⟩:=I.base.slot b o e n J w;exact⟨sl,(f.2 b (arA (aro (ars e) (I.ok.cab x c G t)))).trans l⟩
  .obtain⟨o',l⟩:=I.base.there b o e w;exact⟨o',(f.2 b (arA (aro (ars e) (I.ok.cab x c G t)))).trans l⟩
  .by_cases K:j=i;.subst K;rw[U]at l;cases l;rw[ark D]at C;cases C;exact⟨u,r,.inr ⟨.inl N,c,t,P⟩⟩
   .rw[arh (arz K)]at C;obtain⟨u',r',q⟩:=hl j y v' l C e3;refine⟨u',r',?_⟩;rcases q with q|⟨k,Y,e,z'⟩;.exact .inl q
    .refine .inr ⟨k,Y,e,z'.sameBut f ?_⟩;rintro rfl;exact K (qS hN l (I.ok.inj _ _ _ e t▸U))
  .by_cases R:Y=c;.subst R;exact⟨_,P⟩
   .obtain⟨w2,z2⟩:=I.cell y Y e;exact⟨w2,z2.sameBut f R⟩
  .refine anR (I.pin p hp) λe n Z nf d=>?_;refine⟨(f.2 p.1 ?_).trans e,n,Z,nf,d⟩;intro q;rw[q,O]at e;have q':oc=p.2:=arK e;exact d w' (by rw[<-q'];exact T)
def xI{M A E i x v u Q}(I:Inv X pins σ H s)(b:X.N.Nodup)(f:X.N[i]?=some x)(e:Loc X.env.scope x)(r:RelV v u)(h:∀a,Inv X pins (σ.set i (some v)) H a->Q () a)(d:FL X x:=by first|exact .inl rfl|exact .inr rfl|assumption):wpAny M A (storeName X.env x u) Q E s:=jC I b f e r (λa c _=>h _ c) d
def Inv.ajs{s' ch}(I:Inv X pins σ H s)(g:s'.os=s.os)(u:Un (frs X.stack) ch H H' s.heap s'.heap)(a:HOk X.prog X.w H' s'.heap)(f:AllBare s'.gens)(d:∀b∈ch,(b∈X.ex\/X.s₀.heap.objs.size<=b)/\b≠X.env.locals/\(∀x c,X.env.cells.lookup x=some c->c≠b)/\∀p∈X.pn++pins,p.1≠b):Inv X pins σ H' s':=by obtain⟨h',k,h,j,i⟩:=s';have e:=g;subst e;exact I.call  u a f d
end
abbrev DX:=Option Addr×Value×Value
abbrev XK:=Value->DX->Hp->Prop
abbrev St:=List (Option V)
abbrev VK:=V->Hp->Prop
abbrev TE:=St->Hp->VK->Prop
abbrev TT:=St->Hp->(Bool->Hp->Prop)->Prop
abbrev TA:=St->Hp->(List V->Hp->Prop)->Prop
structure Ends where
 nx:St->Hp->Prop
 rt:VK
 bk:St->Hp->Prop:=λ_ _=>False
 ct:St->Hp->Prop:=λ_ _=>False
abbrev TS:=Ends->St->Hp->Prop
def EP(X:Cx)(pins:List (Addr×Obj))(σ:St)(Q:VK)(u:Value)(s':Shared):Prop:=∃v a,Inv X pins σ a s'/\RelV v u/\Q v a
def TP(X:Cx)(pins:List (Addr×Obj))(σ:St)(Q:Bool->Hp->Prop)(b:Bool)(s':Shared):Prop:=∃a,Inv X pins σ a s'/\Q b a
def AP(X:Cx)(pins:List (Addr×Obj))(σ:St)(Q:List V->Hp->Prop)(us:List Value)(s':Shared):Prop:=∃a b,Inv X pins σ b s'/\Vals a us/\Q a b
def SP(X:Cx)(pins:List (Addr×Obj))(D:Ends)(f:Flow)(s':Shared):Prop:=match f with|.next=>∃a b,Inv X pins a b s'/\D.nx a b|.brk=>∃a b,Inv X pins a b s'/\D.bk a b|.cont=>∃a b,Inv X pins a b s'/\D.ct a b|.ret u=>∃v a b,Inv X pins a b s'/\RelV v u/\D.rt v b
def PE(X:Cx)(e:Expr)(t:TE):Prop:=∀(a:List (Addr×Obj))(s:Shared)(b:St)(H:Hp)(Q:VK),Inv X a b H s->t b H Q->wpAny (model X.prog X.w) X.A (eval e X.env) (EP X a b Q) X.xe s
def PT(X:Cx)(e:Expr)(t:TT):Prop:=∀(a:List (Addr×Obj))(s:Shared)(b:St)(H:Hp)(Q:Bool->Hp->Prop),Inv X a b H s->t b H Q->wpAny (model X.prog X.w) X.A (isTrue e X.env (eval e X.env)) (TP X a b Q) X.xe s
def PW(X:Cx)(e:Expr)(t:TT):Prop:=∀(b:Sem Value)(a:List (Addr×Obj))(s:Shared)(c:St)(H:Hp)(Q:Bool->Hp->Prop),Inv X a c H s->t c H Q->wpAny (model X.prog X.w) X.A (isTrue e X.env b) (TP X a c Q) X.xe s
def PW.pt{X e t}(h:PW X e t):PT X e t:=h _
def PA(X:Cx)(es:List Expr)(t:TA):Prop:=∀(pos:Pos)(a:List (Addr×Obj))(s:Shared)(b:St)(H:Hp)(Q:List V->Hp->Prop),Inv X a b H s->t b H Q->wpAny (model X.prog X.w) X.A (spliced (backTo pos (starEach es X.env))) (AP X a b Q) X.xe s
def PS(X:Cx)(st:Stmt)(t:TS):Prop:=∀(a:List (Addr×Obj))(s:Shared)(b:St)(H:Hp)(D:Ends),Inv X a b H s->t D b H->wpAny (model X.prog X.w) X.A (exec st X.env) (SP X a D) X.xe s
def PSs(X:Cx)(st:List Stmt)(t:TS):Prop:=∀(a:List (Addr×Obj))(s:Shared)(b:St)(H:Hp)(D:Ends),Inv X a b H s->t D b H->wpAny (model X.prog X.w) X.A (execs st X.env) (SP X a D) X.xe s
def thn{α t}{Q b:α->Shared->Prop}{M A E s}(h:wpAny M A t Q E s)(c:∀a s,Q a s->b a s):wpAny M A t b E s:=arI h c λ_ _ x=>x
section
variable{X:Cx}
def eF(i:Nat):TE:=λa H Q=>∃v,a[i]?=some (some v)/\Q v H
def tC(v:V):TE:=λ_ H Q=>Q v H
def acf{i x pos}(n:X.N[i]?=some x)(o:Vis X.env.scope x)(f:Dbg x:=by decide)(d:(x=="__classdict__")=false:=by decide):PE X (.Name x pos) (eF i):=by
 intro j s t H Q I h;refine gb h λv e h=>?_;refine gb I.loc λm k q=>?_;obtain⟨u,r,l⟩:=q i x v n e o;have fin:EP X _ t Q u s:=⟨v,H,I,r,h⟩;rcases l with⟨b,p⟩|⟨b,c,g,a⟩;.exact auR (wpAny_loadName_local I.ok.kind b k p fin) f
 .rcases b with b|b;.exact auR (wpAny_loadName_cell I.ok.kind b g a fin) f
  .exact auR (wpAny_loadName_free I.ok.kind b g a fin d) f
def acj{i j pos}:PE X (.Constant (.int i) j pos) (tC (.int i)):=λ_ _ _ H _ I h=>wpAny_Constant_int ⟨.int i,H,I.tok _,⟨_,rfl⟩,h⟩
def aoK{b j pos}:PE X (.Constant (.bool b) j pos) (tC (.bl b)):=λ_ _ _ H _ I h=>Constant_bool ⟨.bl b,H,I,rfl,h⟩
def agD{j pos}:PE X (.Constant .none j pos) (tC .non):=λ_ _ _ H _ I h=>Constant_none ⟨.non,H,I,rfl,h⟩
def iM{x j pos}:PE X (.Constant (.str x) j pos) (tC (.str x)):=λ_ _ _ H _ I h=>Calls.Constant_str ⟨.str x,H,I.tok _,⟨_,rfl⟩,h⟩
def Gl(X:Cx)(x:Str):Prop:=X.env.kindOf x=some .globalImplicit
def dZ{E pins s}{σ:St}{H x u pos Q}(I:Inv X pins σ H s)(a:Gl X x)(c:X.mg x=some u)(h:Q u s)(b:Dbg x:=by decide):wpAny (model X.prog X.w) X.A (eval (.Name x pos) X.env) Q E s:=aui I.ok.kind a (Calls.loadGlobal_global (by rw[I.ok.glob];exact I.mod.glob.keeps I.bk) c h) b
def lF{E pins s}{σ:St}{H x u pos Q}(I:Inv X pins σ H s)(b:Gl X x)(d:X.mg x=none)(c:bootBuiltins x=some u)(h:Q u s)(a:x≠"__name__":=by decide)(f:Dbg x:=by decide):wpAny (model X.prog X.w) X.A (eval (.Name x pos) X.env) Q E s:=by obtain⟨i,e,g⟩:=I.mod.blt;exact aui I.ok.kind b (Calls.loadGlobal_builtin (by rw[I.ok.glob];exact I.mod.glob.keeps I.bk) d (by rw[I.ok.blt];exact e.keeps I.bk) ((g x a).trans c) h) f
def vQ{x v u pos}(a:Gl X x)(c:X.mg x=some u)(r:RelV v u)(b:Dbg x:=by decide):PE X (.Name x pos) (tC v):=λ_ _ _ H _ I h=>dZ I a c ⟨v,H,I,r,h⟩ b
def aip{x v u pos}(b:Gl X x)(e:X.mg x=none)(c:bootBuiltins x=some u)(r:RelV v u)(a:x≠"__name__":=by decide)(d:Dbg x:=by decide):PE X (.Name x pos) (tC v):=λ_ _ _ H _ I h=>lF I b e c ⟨v,H,I,r,h⟩ a d
variable{a b:Expr}{ta tb:TE}{pos:Pos}
def PC(X:Cx)(op:CmpOp)(a b:Expr)(t:TE):Prop:=∀(c:List (Addr×Obj))(s:Shared)(f:St)(H:Hp)(Q:VK),Inv X c f H s->t f H Q->wpAny (model X.prog X.w) X.A (eval a X.env) (λv d=>wpAny (model X.prog X.w) X.A (eval b X.env) (λu e=>wpAny (model X.prog X.w) X.A (compareOp op v u) (EP X c f Q) X.xe e) X.xe d) X.xe s
def afi(b:Expr){op:CmpOp}(h:op≠.In)(e:op≠.NotIn):behindInMarks op b=false:=by
 have d:(op==CmpOp.In)=false:=by cases op<;>first|rfl|exact absurd rfl h
 have c:(op==CmpOp.NotIn)=false:=by cases op<;>first|rfl|exact absurd rfl e
 cases b<;>first|rfl|(show(_&&(_||_)&&_)=false;simp[d,c])
def tB(t:TE):TT:=λe H Q=>t e H λx d=>∃c,x=.bl c/\Q c d
def alf{e t}(h:PE X e t)(i:∀c,isTrue e X.env c=(do let v <-c;standAt e.pos;holding [v] (truthy v)):=by intro _;rfl):PT X e (tB t):=by intro f s m H Q I hw;refine isTrue_plain (thn (h _ s m H _ I hw) λv n⟨x,g,j,k,l⟩=>?_) (i _);obtain⟨d,rfl,q⟩:=l;cases k;exact ass ⟨g,j,q⟩
variable{tA tB':TT}{rest:List Expr}
def abr(t u:TT):TT:=λe H Q=>t e H λc d=>if c=true then u e d Q else Q false d
def tOr(t u:TT):TT:=λe H Q=>t e H λc d=>if c=true then Q true d else u e d Q
def vv(t:TT):TT:=λe H Q=>t e H λc d=>Q (!c) d
def aie(f:PT X a tA):PW X (.BoolOp .And [a] pos) tA:=by intro j d s g H Q I h;refine isTrue_and (thn (f _ s g H Q I h) λc i e=>?_);cases c with|true=>exact isTrue_and_nil e|false=>exact e
def alc(f:PT X a tA):PW X (.BoolOp .Or [a] pos) tA:=by intro j d s g H Q I h;refine isTrue_or (thn (f _ s g H Q I h) λc i e=>?_);cases c with|false=>exact isTrue_or_nil e|true=>exact e
def ald(k:PT X a tA)(j:PW X (.BoolOp .And (b::rest) pos) tB'):PW X (.BoolOp .And (a::b::rest) pos) (abr tA tB'):=by intro m f s g H Q I h;refine isTrue_and (thn (k _ s g H _ I h) λc l⟨i,e,d⟩=>?_);cases c with|true=>exact j _ _ _ g _ Q e d|false=>exact⟨i,e,d⟩
def aoH(k:PT X a tA)(j:PW X (.BoolOp .Or (b::rest) pos) tB'):PW X (.BoolOp .Or (a::b::rest) pos) (tOr tA tB'):=by intro m f s g H Q I h;refine isTrue_or (thn (k _ s g H _ I h) λc l⟨i,e,d⟩=>?_);cases c with|true=>exact⟨i,e,d⟩|false=>exact j _ _ _ g _ Q e d
def alg(d:PT X a tA):PT X (.UnaryOp .Not a pos) (vv tA):=by intro c s e H Q I h;exact isTrue_not (d _ s e H _ I h)
def aom(ta tb:TE):TE:=λe H Q=>ta e H λx d=>∃c,x=.bl c/\if c=true then tb e d Q else Q (.bl false) d
def aof(ta:TE):TE:=λe H Q=>ta e H λx d=>∃c,x=.bl c/\Q (.bl !c) d
def alp{op t}(h:PE X a t):PE X (.BoolOp op [a] pos) t:=λc s d H Q I hw=>BoolOp_one (h _ s d H Q I hw)
def alr(j:PE X a ta)(l:PE X (.BoolOp .And (b::rest) pos) tb):PE X (.BoolOp .And (a::b::rest) pos) (aom ta tb):=by intro f s g H Q I h;refine BoolOp_and (thn (j _ s g H _ I h) λv m⟨x,i,e,k,d⟩=>?_);obtain⟨c,rfl,d⟩:=d;cases k;refine ass ?_;cases c with|true=>exact l _ _ g _ Q e d|false=>exact⟨.bl _,i,e,rfl,d⟩
def alq(g:PE X a ta):PE X (.UnaryOp .Not a pos) (aof ta):=by intro e s k H Q I h;refine UnaryOp_ (thn (g _ s k H _ I h) λv l⟨x,f,i,j,d⟩=>?_);obtain⟨c,rfl,d⟩:=d;cases j;exact not_of (ass ⟨.bl _,f,i,rfl,d⟩)
def tIf(t:TT)(ta tb:TE):TE:=λd H Q=>t d H λc e=>if c=true then ta d e Q else tb d e Q
def ae7{c}(j:PT X c tA)(l:PE X a ta)(k:PE X b tb):PE X (.IfExp c a b pos) (tIf tA ta tb):=by intro i s e H Q I h;refine wpAny_IfExp (thn (j _ s e H _ I h) λd n⟨m,g,f⟩=>?_);cases d with|true=>exact l _ _ e _ Q g f|false=>exact k _ _ e _ Q g f
end
def SqL(K:W.Frag)(H:Hp)(a:Addr)(xs:List V):Prop:=Rd H a (.lst xs)\/∃(o:Obj)(b:Array Value)(n:Nat),K.lookup a=some o/\o.cls=.type "list"/\o.dict=none/\o.data=.seq b n/\b.size<=sizeLine/\Vals xs b.toList
def SqT(K:W.Frag)(H:Hp)(a:Addr)(xs:List V):Prop:=Rd H a (.tup xs)\/∃(o:Obj)(b:Array Value)(n:Nat),K.lookup a=some o/\o.cls=.type "tuple"/\o.data=.seq b n/\b.size<=sizeLine/\Vals xs b.toList
noncomputable def aq4:Value->Option V|.none=>some .non|.bool b=>some (.bl b)|.int i _=>some (.int i)|.str x _=>some (.str x)|.bytes b _=>some (.byt b)|.float b _=>some (.flt b)|.ref a=>some (.ref a)|.type n=>some (.ty n)|_=>none
def RelV.abs{x u}(r:RelV x u):aq4 u=some x:=by cases x with|non|bl _=>cases r;rfl|int _|str _|byt _|flt _=>obtain⟨t,rfl⟩:=r;rfl|ref _|ty _=>cases r;rfl
def RelV.inj{x y u}(r:RelV x u)(q:RelV y u):x=y:=arK (r.abs.symm.trans q.abs)
theorem Vals.inj:∀{xs ys us},Vals xs us->Vals ys us->xs=ys|_,_,_,.nil,.nil=>rfl|_,_,_,.cons r t,.cons r' t'=>by rw[r.inj r',Vals.inj t t']
section
variable{X:Cx}{pins:List (Addr×Obj)}{σ:St}{H:Hp}{s:Shared}{a:Addr}{xs ys:List V}
def SqL.of{K}(h:H a=some (.lst xs)):SqL K H a xs:=.inl (.inl h)
def SqT.of{K}(h:H a=some (.tup xs)):SqT K H a xs:=.inl (.inl h)
def Inv.list(I:Inv X pins σ H s)(h:SqL X.K H a xs):∃b,Vals xs b/\PlainL s.heap a b.toArray/\xs.length<=sizeLine:=by
 rcases h with h|⟨o,b,n,d,c,f,i,g,r⟩;.obtain⟨z,b,n,r,e⟩:=h.ok I.hok;exact⟨_,r,ahb _ n e rfl rfl rfl,z⟩
 .refine⟨_,r,ahb o n (I.kIn a o d) c f (by omega),?_⟩;have e:=r.length;simp  at e;omega
def Inv.tuple(I:Inv X pins σ H s)(h:SqT X.K H a xs):∃b,Vals xs b/\IsTup s.heap a b.toArray/\xs.length<=sizeLine:=by
 rcases h with h|⟨o,b,n,d,c,g,f,r⟩;.obtain⟨z,b,r,p⟩:=h.ok I.hok;exact⟨_,r,p,z⟩
 .refine⟨_,r,⟨o,I.kIn a o d,c,n,by omega⟩,?_⟩;have e:=r.length;simp  at e;omega
def Inv.qZ(I:Inv X pins σ H s)(h:SqL X.K H a xs)(h':SqL X.K H a ys):xs=ys:=by
 obtain⟨c,r,⟨o,n,e,_,_,d⟩,_⟩:=I.list h;obtain⟨b,f,⟨j,i,k,_,_,g⟩,_⟩:=I.list h';have:c=b:=by grind
 subst this;exact r.inj f
def Inv.mD(I:Inv X pins σ H s)(h:SqT X.K H a xs)(h':SqT X.K H a ys):xs=ys:=by
 obtain⟨c,r,⟨o,e,_,n,d⟩,_⟩:=I.tuple h;obtain⟨b,f,⟨j,k,_,i,g⟩,_⟩:=I.tuple h';have:c=b:=by grind
 subst this;exact r.inj f
end
abbrev Cx.oE(X:Cx)(E:Value->Shared->Prop):Cx:={X with xe:=E}
abbrev Cx.nox(X:Cx):Cx:=X.oE λ_ _=>False
theorem Cx.Ok.oE{X:Cx}(ok:X.Ok)(E):(X.oE E).Ok:=⟨ok.mod,ok.kind,ok.glob,ok.blt,ok.above,ok.inj,ok.has,ok.cab,ok.hd,ok.frames,ok.stk,ok.exf,ok.bs,ok.bsz,ok.noex,ok.exfs,ok.rW,ok.frf⟩
def Cx.Ok.pe{X:Cx}{E}(ok:(X.oE E).Ok):X.Ok:=⟨ok.mod,ok.kind,ok.glob,ok.blt,ok.above,ok.inj,ok.has,ok.cab,ok.hd,ok.frames,ok.stk,ok.exf,ok.bs,ok.bsz,ok.noex,ok.exfs,ok.rW,ok.frf⟩
section
variable{X:Cx}{pins:List (Addr×Obj)}{σ:St}{H:Hp}{s:Shared}{E:Value->Shared->Prop}
theorem Inv.oE(I:Inv X pins σ H s)(E):Inv (X.oE E) pins σ H s:=⟨I.ok.oE E,I.os,I.bare,I.base,I.loc,I.cell,I.free,I.freeC,I.pin,I.hok,I.len⟩
theorem Inv.pe(I:Inv (X.oE E) pins σ H s):Inv X pins σ H s:=⟨I.ok.pe,I.os,I.bare,I.base,I.loc,I.cell,I.free,I.freeC,I.pin,I.hok,I.len⟩
theorem SP.pe{D f s'}(h:SP (X.oE E) pins D f s'):SP X pins D f s':=by cases f with|next|brk|cont=>obtain⟨a,b,I,q⟩:=h;exact⟨_,b,I.pe,q⟩|ret u=>refine aaH h λv a b I r q=>?_;exact⟨v,_,b,I.pe,r,q⟩
theorem PSs.nox{st t}(h:PSs X.nox st t):PSs X st t:=λpins s σ H D I hw=>arI (h _ s σ H D (I.oE _) hw) (λ_ _ q=>q.pe) λ_ _ z=>False.elim z
end
section
variable{X:Cx}{st:Stmt}{rest:List Stmt}{t u:TS}{e:Expr}{te:TE}{pos:Pos}
def aog:TS:=λD a H=>D.nx a H
def ahT(t u:TS):TS:=λD a H=>t {D with nx:=u D} a H
def vN:PSs X [] aog:=λ_ _ a H _ I h=>atq ⟨a,H,I,h⟩
def aT(b:PS X st t)(g:PSs X rest u):PSs X (st::rest) (ahT t u):=by intro a s i H D I h;refine auy (thn (b _ s i H _ I h) λf j q=>?_);cases f with|next=>obtain⟨d,k,c,q⟩:=q;exact g _ _ _ _ D c q|ret v=>exact q|brk=>exact q|cont=>exact q
def cT(b:PS X st t):PSs X [st] t:=by intro a s c H D I h;refine auy (thn (b _ s c H D I h) λf d q=>?_);cases f with|next=>exact atq q|ret v|brk|cont=>exact q
def Inv.quiet{pins}{σ:St}{H s}(I:Inv X pins σ H s):interactive X.env=false:=by simp[interactive,I.ok.kind]
def sy(te:TE):TS:=λD a H=>te a H λ_ b=>D.nx a b
def cU(f:PE X e te)(d:swapsWith e none pos.line X.env=pure false:=by rfl):PS X (.Expr e pos) (sy te):=by intro a s b H D I h;exact wpAny_Expr_any (thn (f _ s b H _ I h) λv j⟨x,c,i,k,g⟩=>⟨b,c,i,g⟩) I.quiet d
def aoc(te:TE):TS:=λD a H=>te a H D.rt
def tD(d:PE X e te):PS X (.Return (some e) pos) (aoc te):=by intro a s b H D I h;exact wpAny_Return_some (thn (d _ s b H _ I h) λv j⟨x,c,g,i,f⟩=>⟨x,b,c,g,i,f⟩)
def aqI(c:TT)(t u:TS):TS:=λD a H=>c a H λb d=>if b=true then t D a d else u D a d
def ab3{c a b j}(l:PT X c j)(m:PSs X a t)(n:PSs X b u):PS X (.If c a b pos) (aqI j t u):=by intro k s f H D I h;refine wpAny_If (thn (l _ s f H _ I h) λd p⟨o,g,i⟩=>?_);cases d with|true=>exact m _ _ f _ D g i|false=>exact n _ _ f _ D g i
end
abbrev TG:=V->St->Hp->(St->Hp->Prop)->Prop
abbrev TGs:=List V->St->Hp->(St->Hp->Prop)->Prop
def PG(X:Cx)(a:Expr)(t:TG):Prop:=∀(b:List (Addr×Obj))(s:Shared)(e:St)(H:Hp)(v:V)(u:Value)(Q:St->Hp->Prop),Inv X b e H s->RelV v u->t v e H Q->wpAny (model X.prog X.w) X.A (assign a X.env u) (λ_ f=>∃c d,Inv X b c d f/\Q c d) X.xe s
def PGs(X:Cx)(ts:List Expr)(t:TGs):Prop:=∀(a:List (Addr×Obj))(s:Shared)(f:St)(H:Hp)(d:List V)(c:List Value)(Q:St->Hp->Prop),Inv X a f H s->Vals d c->t d f H Q->wpAny (model X.prog X.w) X.A (assignInOrder ((assignEach ts X.env).map (·.2)) c) (λ_ g=>∃b e,Inv X a b e g/\Q b e) X.xe s
section
variable{X:Cx}{pos:Pos}
def aA(i:Nat):TG:=λv a H Q=>Q (a.set i (some v)) H
def vP{i x}(b:X.N.Nodup)(f:X.N[i]?=some x)(d:Loc X.env.scope x)(e:FL X x:=by first|exact .inl rfl|exact .inr rfl|assumption):PG X (.Name x pos) (aA i):=by intro a s j H v u Q I r h;exact wpAny_assign_Name (xI I b f d r (λg c=>⟨_,H,c,h⟩) e)
def vh:TGs:=λa b H Q=>a=[]/\Q b H
def di(t:TG)(u:TGs):TGs:=λb d H Q=>∃v r,b=v::r/\t v d H λa c=>u r a c Q
def aik:PGs X [] vh:=by intro a s b H d c Q I r h;obtain⟨e,h⟩:=h;exact assignInOrder_nil ⟨b,H,I,h⟩
def ae5{e es t u}(f:PG X e t)(c:PGs X es u)(d:(assignEach (e::es) X.env).map (·.2)=assign e X.env::(assignEach es X.env).map (·.2):=by rfl):PGs X (e::es) (di t u):=by intro a s j H m l Q I r h;obtain⟨v,o,g,h⟩:=h;subst g;cases r with|cons r rr=>rw[d];exact assignInOrder_cons (thn (f _ s j H _ _ _ I r h) λ_ n⟨_,k,b,i⟩=>c _ _ _ _ _ _ Q b rr i)
def vg(K:W.Frag)(n:Nat)(t:TGs):TG:=λv c H Q=>∃a b,v=.ref a/\SqT K H a b/\b.length=n/\t b c H Q
def aln{es k t n}(f:X.calm=true)(h:PGs X es t)(i:(assignEach es X.env).length=n:=by rfl)(c:(assignEach es X.env).findIdx? (·.1)=none:=by rfl):PG X (.Tuple es k pos) (vg X.K n t):=by intro d s y H v u Q I r hw;obtain⟨a,A,m,l,p,hw⟩:=hw;subst m;cases r;refine ju (I.tuple l) λg x q z=>?_;refine assign_Tuple_tuple (I.ok.hd f) q (by simp[i,<-p,x.length]) c λB w=>?_;have j:=I.kept (t':=s.toks) λb o e=>w b o (arA (ars e)) e;exact h _ _ y H _ _ Q j (by grind) hw
def ajI(c:TE)(g:TG):TS:=λD a H=>c a H λx b=>g x a b D.nx
def ali{a e b g}(i:PE X e b)(f:PG X a g)(l:swapsWithSole [a] e pos.line X.env=pure false:=by rfl)(hw:swappedStores [a] e X.env=pure none:=by rfl)(m:(assignEach [a] X.env).map (·.2)=[assign a X.env]:=by rfl):PS X (.Assign [a] e pos) (ajI b g):=by intro c s d H D I h;refine wpAny_Assign_stores (thn (i _ s d H _ I h) λv r⟨x,o,j,k,n⟩=>?_) l hw;rw[m];exact thn (f _ _ d _ x v _ j k n) λ_ p q=>q
def nv{i x e b a}(f:X.N.Nodup)(q:X.N[i]?=some x)(p:Loc X.env.scope x)(g:PE X e b)(n:swapsWith e (some (.Name x a)) pos.line X.env=pure false:=by rfl)(l:FL X x:=by first|exact .inl rfl|exact .inr rfl|assumption):PS X (.Assign [.Name x a] e pos) (ajI b (aA i)):=by intro c s r H D I h;exact wpAny_Assign_Name (thn (g _ s r H _ I h) λv u⟨y,d,j,k,o⟩=>xI j f q p k (λt m=>⟨_,d,m,o⟩) l) n
end
structure It where
 go:Nat->Hp->Prop
 yld:Nat->Hp->V->Hp->Prop
 stop:Nat->Hp->Prop
def yX(X:Cx)(pins:List (Addr×Obj))(H:Hp)(b:Addr):Prop:=H b=none/\b≠X.env.locals/\b∉X.fs/\(b∈X.ex\/X.s₀.heap.objs.size<=b)/\(∀x c,X.env.cells.lookup x=some c->c≠b)/\∀p∈X.pn++pins,p.1≠b
def Inv.ajR{X:Cx}{pins:List (Addr×Obj)}{σ:St}{H H':Hp}{s:Shared}{b:Addr}(I:Inv X pins σ H s)(a:s.heap.objs.size<=b)(f:H' b=none):yX X pins H' b:=by
 refine⟨f,ar8 (aro I.lt a),I.aqO a,.inr (arq I.sz a),λx c e z=>?_,λp d z=>?_⟩;.obtain⟨v,q⟩:=I.cell x c e;exact absurd (aro q.lt (by rw[z];exact a)) (asP _)
 .exact absurd (aro (ars (I.pin p d).1) (by rw[z];exact a)) (asP _)
structure Turn(P:Program)(w:World)(K:W.Frag)(tg:Expr)(J:It)(fp:List Addr)(it:Addr)(tn:Nat->Heap->Prop)(cl:Cx->Hp->Prop:=λX _=>X.calm=true):Prop where
 mem:it∈fp
 obj:∀i h,tn i h->∀b∈fp,∃o,h.get? b=some o/\∀v,o.data≠.cell v
 keep:∀i h h',tn i h->(∀b∈fp,∀o,h.get? b=some o->h'.get? b=some o)->tn i h'
 item:∀(X:Cx),X.prog=P->X.w=w->X.K=K->∀(i:Nat)(pins:List (Addr×Obj))(s:Shared)(σ:St)(H:Hp)(E:Value->Shared->Prop),cl X H->Inv X pins σ H s->(∀b∈fp,yX X pins H b)->tn i s.heap->J.go i H->wpAny (model P w) X.A (pyNext (.ref it)) (λr s1=>∃u,r=some u/\wpAny (model P w) X.A (letOwnedTupleGo tg (.ref it) u) (λ_ s2=>∃x H',Inv X pins σ H' s2/\RelV x u/\J.yld i H x H'/\tn (i+1) s2.heap/\∀b∈fp,H' b=none) E s1) E s
 done:∀(X:Cx),X.prog=P->X.w=w->X.K=K->∀(i:Nat)(pins:List (Addr×Obj))(s:Shared)(σ:St)(H:Hp)(E:Value->Shared->Prop),cl X H->Inv X pins σ H s->(∀b∈fp,yX X pins H b)->tn i s.heap->J.stop i H->wpAny (model P w) X.A (pyNext (.ref it)) (λr s1=>r=none/\Inv X pins σ H s1) E s
 self:∀(A:Around)(i:Nat)(s:Shared)(Q:Value->Shared->Prop)(E:Value->Shared->Prop),tn i s.heap->Q (.ref it) s->wpAny (model P w) A (pyIter (.ref it)) Q E s
abbrev TI:=St->Hp->(It->Hp->Prop)->Prop
def PIE(X:Cx)(pins:List (Addr×Obj))(σ:St)(h:Expr)(R:It->Hp->Prop)(c:Value)(f:Shared):Prop:=∃(g:Addr)(d:List Addr)(e:Nat->Heap->Prop)(J:It)(a:Hp),c=.ref g/\Inv X pins σ a f/\Turn X.prog X.w X.K h J d g e/\e 0 f.heap/\(∀b∈d,yX X pins a b)/\R J a
def PI(X:Cx)(e b:Expr)(wi:TI):Prop:=∀(a:List (Addr×Obj))(s:Shared)(c:St)(H:Hp)(R:It->Hp->Prop),Inv X a c H s->wi c H R->wpAny (model X.prog X.w) X.A (eval b X.env) (λv d=>wpAny (model X.prog X.w) X.A (pyIter v) (PIE X a c e R) X.xe d) X.xe s
def z5{M A E s b it u o n vs Q}(d:s.heap.get? it=some o)(c:o.cls=.type n)(e:o.data=.fields vs)(f:["enumerate","zip","dict_itemiterator","dict_reverseitemiterator","odict_iterator","itertools.zip_longest","itertools.pairwise"].contains n=false)(a:Q () s):wpAny M A (letOwnedTupleGo b (.ref it) u) Q E s:=by cases b<;>first|exact arp a|(cases u<;>first|exact arp a| (refine ard (wpAny_load d ?_);rw[c,e];show wpAny M A (if(["enumerate","zip","dict_itemiterator","dict_reverseitemiterator","odict_iterator","itertools.zip_longest","itertools.pairwise"].contains n&&vs[0]?==some (rawInt _))=true then _ else _) Q E s;rw[arl (by grind)];exact arp a))
noncomputable def Itl(K:W.Frag)(a:Addr):It:=⟨λi H=>∃b x,SqL K H a b/\b[i]?=some x,λi H x c=>c=H/\∀b,SqL K H a b->b[i]?=some x,λi H=>∃b,SqL K H a b/\b.length<=i⟩
noncomputable def Itt(K:W.Frag)(a:Addr):It:=⟨λi H=>∃b x,SqT K H a b/\b[i]?=some x,λi H x c=>c=H/\∀b,SqT K H a b->b[i]?=some x,λi H=>∃b,SqT K H a b/\b.length<=i⟩
noncomputable def Itr(lo:Int)(n:Nat):It:=⟨λi _=>i<n,λi H x a=>a=H/\x=.int (lo+i),λi _=>n<=i⟩
def abh{P:Program}{w:World}{K:W.Frag}{tg:Expr}(a it:Addr):Turn P w K tg (Itl K a) [it] it λi h=>h.IsListIter it a i where
 mem:=by simp
 obj:=λi h st b hb=>by
  have e:b=it:=by simpa using hb
  subst e;obtain⟨o,e,c,d⟩:=st;exact⟨o,e,λv z=>by rw[d]at z;cases z⟩
 keep:=λi h h' st k=>st.at λo e=>k it (by simp) o e;item:=by intro X hP hw hK i pins s σ H E hc I hf st hg;subst hP hw hK;obtain⟨xs,x,hq,hx⟩:=hg;obtain⟨its,rv,p,hz⟩:=I.list hq;obtain⟨u,hu,ru⟩:=rv.get hx;obtain⟨f0,f1,f2,f3,f4,f5⟩:=hf it (by simp);refine wpAny_pyNext_list_item st p.isList (x:=u) (by simpa using hu) λh' st' sb=>?_;have I1:Inv X pins σ H {s with heap:=h'}:=I.turned (t':=s.toks) (λb o hb e=>(sb.2 b hb).trans e) f0 f1 f3 f4 f5;obtain⟨o,e,c,d⟩:=id st';exact⟨u,rfl,z5 (s:={s with heap:=h'}) e c d (by decide) ⟨x,H,I1,ru,⟨rfl,λys hy=>by rw[I.qZ hy hq];exact hx⟩,st',λb hb=>(hf b hb).1⟩⟩
 done:=by intro X hP hw hK i pins s σ H E hc I hf st hg;subst hP hw hK;obtain⟨xs,hq,hx⟩:=hg;obtain⟨its,rv,p,hz⟩:=I.list hq;obtain⟨f0,f1,f2,f3,f4,f5⟩:=hf it (by simp);have hl:=rv.length;exact wpAny_pyNext_list_end (I.ok.hd hc) st p.isList (by simp;omega) λh' eb=>⟨rfl,I.turned (t':=s.toks) (λb o hb e=>eb b o hb e) f0 f1 f3 f4 f5⟩
 self:=λ_ _ _ _ _ st h=>wpAny_pyIter_listiter st h
def y9{P:Program}{w:World}{K:W.Frag}{tg:Expr}(a it:Addr):Turn P w K tg (Itt K a) [it] it λi h=>h.IsTupleIter it a i where
 mem:=by simp
 obj:=λi h st b hb=>by
  have e:b=it:=by simpa using hb
  subst e;obtain⟨o,e,c,d⟩:=st;exact⟨o,e,λv z=>by rw[d]at z;cases z⟩
 keep:=λi h h' st k=>st.at λo e=>k it (by simp) o e;item:=by intro X hP hw hK i pins s σ H E hc I hf st hg;subst hP hw hK;obtain⟨xs,x,hq,hx⟩:=hg;obtain⟨its,rv,p,hz⟩:=I.tuple hq;obtain⟨u,hu,ru⟩:=rv.get hx;obtain⟨f0,f1,f2,f3,f4,f5⟩:=hf it (by simp);refine wpAny_pyNext_tuple_item st (show s.heap.IsTuple a its.toArray from p) (x:=u) (by simpa using hu) λh' st' sb=>?_;have I1:Inv X pins σ H {s with heap:=h'}:=I.turned (t':=s.toks) (λb o hb e=>(sb.2 b hb).trans e) f0 f1 f3 f4 f5;obtain⟨o,e,c,d⟩:=id st';exact⟨u,rfl,z5 (s:={s with heap:=h'}) e c d (by decide) ⟨x,H,I1,ru,⟨rfl,λys hy=>by rw[I.mD hy hq];exact hx⟩,st',λb hb=>(hf b hb).1⟩⟩
 done:=by intro X hP hw hK i pins s σ H E hc I hf st hg;subst hP hw hK;obtain⟨xs,hq,hx⟩:=hg;obtain⟨its,rv,p,hz⟩:=I.tuple hq;obtain⟨f0,f1,f2,f3,f4,f5⟩:=hf it (by simp);have hl:=rv.length;exact wpAny_pyNext_tuple_end (I.ok.hd hc) st (show s.heap.IsTuple a its.toArray from p) (by simp;omega) λh' eb=>⟨rfl,I.turned (t':=s.toks) (λb o hb e=>eb b o hb e) f0 f1 f3 f4 f5⟩
 self:=λ_ _ _ _ _ st h=>wpAny_pyIter_tupleiter st h
def za{P:Program}{w:World}{K:W.Frag}{tg:Expr}(it:Addr)(lo:Int)(n:Nat):Turn P w K tg (Itr lo n) [it] it λi h=>IsRangeIter h it (lo+(i:Nat)*1) ((n:Int)-(i:Nat)) 1 where
 mem:=by simp
 obj:=λi h st b hb=>by
  have e:b=it:=by simpa using hb
  subst e;exact⟨_,st,λv z=>by have z':Data.fields _=Data.cell v:=z;cases z'⟩
 keep:=λi h h' st k=>k it (by simp) _ st;item:=by intro X hP hw hK i pins s σ H E hc I hf st hg;subst hP hw hK;obtain⟨f0,f1,f2,f3,f4,f5⟩:=hf it (by simp);have W:=Walks.range (prog:=X.prog) (w:=X.w) (I.ok.hd hc) it lo 1 n;refine W.item i s _ _ hg st λv h' tk hv st' kk=>?_;obtain⟨t,rfl⟩:=hv;have I1:Inv X pins σ H {s with heap:=h',toks:=tk}:=I.turned (λb o hb e=>kk b o (by simpa using hb) e) f0 f1 f3 f4 f5;refine⟨_,rfl,z5 (s:={s with heap:=h',toks:=tk}) (n:="range_iterator") st' rfl rfl (by decide) ⟨.int (lo+i),H,I1,⟨t,?_⟩,⟨rfl,rfl⟩,st',λb hb=>(hf b hb).1⟩⟩;rw[Int.mul_one]
 done:=by intro X hP hw hK i pins s σ H E hc I hf st hg;subst hP hw hK;obtain⟨f0,f1,f2,f3,f4,f5⟩:=hf it (by simp);exact wpAny_pyNext_range_end (I.ok.hd hc) st (by have:n<=i:=hg;omega) λh' eb=>⟨rfl,I.turned (t':=s.toks) (λb o hb e=>eb b o hb e) f0 f1 f3 f4 f5⟩
 self:=λ_ _ _ _ _ st h=>wpAny_pyIter_rangeiter st h
section
variable{X:Cx}{tg:Expr}
def xV{pins}{σ:St}{H s R E lo a t u v tk}(I:Inv X pins σ H s)(h:-2^62<=lo)(g:lo<2^62)(k:-2^62<=a)(f:a<2^62)(q:R (Itr lo (a-lo).toNat) H):wpAny (model X.prog X.w) X.A (pyIter (.ref s.heap.objs.size)) (PIE X pins σ tg R) E {s with heap:=s.heap.push {cls:=.type "range",data:=.fields #[.int lo t,.int a u,.int 1 v]},toks:=tk}:=by
 refine wpAny_pyIter_range (IsRange.new ..) (small_one h g k f) ?_;have c:Inv X pins σ H {s with heap:=s.heap.push {cls:=.type "range",data:=.fields #[.int lo t,.int a u,.int 1 v]},toks:=tk}:=I.kept λb o e=>arf _ e;refine⟨_,_,_,_,H,rfl,c.kept (t':=tk) λb o e=>arf _ e,za _ lo _,?_,λb j=>?_,q⟩
 .have i:lo+((0:Nat):Int)*1=lo:=by simp
  have d:(((a-lo).toNat:Nat):Int)-((0:Nat):Int)=Builtin.Range.rangeSize lo a 1:=by rw[rangeSize_one];split<;>omega
  rw[i,d];exact aru _ rfl
 .have e:b=(s.heap.push {cls:=.type "range",data:=.fields #[.int lo t,.int a u,.int 1 v]}).objs.size:=by simpa using j
  subst e;exact c.ajR (arn _) (c.hok.fresh (arn _))
def jd(ta:TA):TI:=λb H R=>ta b H λc a=>∃j:Int,c=[.int j]/\-2^62<=j/\j<2^62/\R (Itr 0 j.toNat) a
def wy(ta:TA):TI:=λb H R=>ta b H λc a=>∃i j:Int,c=[.int i,.int j]/\(-2^62<=i/\i<2^62/\-2^62<=j/\j<2^62)/\R (Itr i (j-i).toNat) a
def acd{a ta p pos}(f:Gl X "range")(l:X.mg "range"=none)(g:PA X [a] ta)(m:starEach [a] X.env=[(false,eval a X.env)]:=by rfl):PI X tg (.Call (.Name "range" p) [a] [] pos) (jd ta):=by intro c s n H R I h;refine Call_ (lF I f l auS (asi (thn (g _ _ s n H _ I h) λu w⟨v,o,i,k,b⟩=>?_) m rfl));obtain⟨j,e,b,d,q⟩:=b;subst e;cases k with|cons r rr=>cases rr;obtain⟨t,rfl⟩:=r;exact call_range_1 (xV i (by omega) (by omega) b d (by grind))
def acb{a b ta p pos}(k:Gl X "range")(o:X.mg "range"=none)(l:PA X [a,b] ta)(B:starEach [a,b] X.env=[(false,eval a X.env),(false,eval b X.env)]:=by rfl)(c:starEach [b] X.env=[(false,eval b X.env)]:=by rfl):PI X tg (.Call (.Name "range" p) [a,b] [] pos) (wy ta):=by intro f s w H R I h;refine Call_ (lF I k o auS (asi (thn (l pos _ s w H _ I h) λy A⟨z,x,m,n,d⟩=>?_) (by grind) (by rw[c];rfl)));obtain⟨i,j,e,⟨d,g,v,u⟩,q⟩:=d;subst e;cases n with|cons r rr=>cases rr with|cons r' rr=>cases rr;obtain⟨t,rfl⟩:=r;obtain⟨C,rfl⟩:=r';exact call_range_2 (xV m d g v u q)
def ap8(wi:TI)(g:TG)(tb:TS):TS:=λD a H=>wi a H λJ f=>∃W:Nat->Nat->St->Hp->Prop,(∃m,W 0 m a f)/\∀i m a H,W i m a H->J.stop i H/\D.nx a H\/J.go i H/\∃N:St->Hp->Prop,(∀b c,N b c->∃e,e<m/\W (i+1) e b c)/\∀x c,J.yld i H x c->g x a c λd h=>tb {D with nx:=N,ct:=N,bk:=D.nx} d h
noncomputable def tF(a:List Addr)(h:Heap):List (Addr×Obj):=a.filterMap λb=>(h.get? b).map λo=>(b,o)
def iB{a h b o}(c:b∈a)(e:h.get? b=some o):(b,o)∈tF a h:=List.mem_filterMap.mpr ⟨b,c,by grind⟩
def acw{a h p}(c:p∈tF a h):p.1∈a/\h.get? p.1=some p.2:=by obtain⟨b,d,e⟩:=List.mem_filterMap.mp c;cases q:h.get? b with|none=>rw[q]at e;cases e|some o=>rw[q]at e;have f:=arK e;subst f;exact⟨d,q⟩
def Inv.pinned{pins}{σ:St}{H s a}(I:Inv X pins σ H s)(k:∀b∈a,yX X pins H b)(l:∀b∈a,∃o,s.heap.get? b=some o/\∀v,o.data≠.cell v):Inv X (pins++tF a s.heap) σ H s:=I.hY λp h=>(arN.mp h).elim (λz=>I.pin p (arE _ z)) λz=>by obtain⟨f,e⟩:=acw z;refine anS (k _ f) λg j i _=>?_;refine gb (l _ f) λo c d=>?_;rw[e]at c;cases c;exact⟨e,g,j,i,d⟩
def Inv.qi{pins pl}{σ:St}{H s}(I:Inv X (pins++pl) σ H s):Inv X pins σ H s:=I.hY λp a=>I.pin p (arE _ (ar6 _ a))
def xX{p z wi g tb pos}(C:PassesOwn (model X.prog X.w) X.A X.env X.xe)(hc:X.calm=true)(hi:PI X tg p wi)(hg:PG X tg g)(q:PSs X z tb)(hs:∀x,foldedSetIterable p X.env x=pure x:=by intro _;rfl):PS X (.For tg p z [] pos) (ap8 wi g tb):=by
 intro a s σ H D I h;refine wpAny_For (thn (hi a s σ H _ I h) λv s1 h1=>thn h1 λa0 s2 h2=>?_) hs;obtain⟨it,M,tn,J,H2,e,I2,T,P,f2,W,⟨m0,w0⟩,turn⟩:=h2;subst e;-- what stays true of the iterator's objects through the loop
 have j:∀{w:Hp},(∀b∈M,w b=none)->∀b∈M,yX X a w b:=λhn b q=>⟨hn b q,(f2 b q).2⟩;refine codeAny_forLoop_any (λn s'=>∃i l w,Inv X a l w s'/\tn i s'.heap/\(∀b∈M,w b=none)/\W i n l w) ?_ m0 (vc 0 σ H2 I2 P (λb q=>(f2 b q).1) w0);rintro n s3⟨i,k,O,I3,E,G,w3⟩;rcases turn i n k O w3 with⟨K,qn⟩|⟨go,N,hN,step⟩;.refine atr C (thn (T.done X rfl rfl rfl i a s3 k O X.xe hc I3 (j G) E K) λr s4⟨Y,I4⟩=>?_);subst Y;exact atq ⟨k,O,I4,qn⟩
 .refine atr C (thn (T.item X rfl rfl rfl i a s3 k O X.xe hc I3 (j G) E go) λr s4⟨u,Y,h4⟩=>?_);subst Y;refine atr C (thn h4 λ_ s5⟨x,H5,I5,r5,y5,A,Q⟩=>?_);have U:=I5.pinned (j Q) (T.obj _ _ A);refine atr C (thn (hg _ s5 k H5 x u _ U r5 (step x H5 y5)) λ_ s6⟨Z,H6,I6,q6⟩=>?_);refine atr C (thn (q _ s6 Z H6 _ I6 q6) λf R B=>?_);have again:∀{c:St}{t:Hp},Inv X (a++tF M s5.heap) c t R->N c t->∃m,m<n/\∃i l w,Inv X a l w R/\tn i R.heap/\(∀b∈M,w b=none)/\W i m l w:=λ{c t}y S=>by refine gb (hN c t S) λm' hm w7=>?_;refine⟨m',hm,i+1,c,t,y.qi,T.keep _ _ _ A λb q o e=>(y.pin (b,o) (arE _ (arE _ (iB q e)))).1,λb q=>?_,w7⟩;obtain⟨o,e,d⟩:=T.obj _ _ A b q;exact(y.pin (b,o) (arE _ (arE _ (iB q e)))).2.1
  cases f with|next|cont=>obtain⟨c,t,y,S⟩:=B;exact again y S|brk=>refine dU B λc t y B=>?_;exact⟨c,t,y.qi,B⟩|ret v=>refine aaH B λx7 c t y r7 B=>?_;exact aha x7 c t y.qi r7 B
end
abbrev R2:=V->V->Hp->VK->Prop
def OpR(X:Cx)(f:Value->Value->Sem Value)(r:R2):Prop:=∀(a:List (Addr×Obj))(s:Shared)(b:St)(H:Hp)(x y:V)(v u:Value)(Q:VK),Inv X a b H s->RelV x v->RelV y u->r x y H Q->wpAny (model X.prog X.w) X.A (f v u) (EP X a b Q) X.xe s
def UnR(X:Cx)(f:Value->Sem Value)(r:V->Hp->VK->Prop):Prop:=∀(a:List (Addr×Obj))(s:Shared)(b:St)(H:Hp)(x:V)(v:Value)(Q:VK),Inv X a b H s->RelV x v->r x H Q->wpAny (model X.prog X.w) X.A (f v) (EP X a b Q) X.xe s
def ba(X:Cx)(f:Value)(r:List V->Hp->VK->Prop):Prop:=∀(a:List (Addr×Obj))(s:Shared)(d:St)(H:Hp)(c:List V)(b:List Value)(Q:VK),Inv X a d H s->Vals c b->r c H Q->wpAny (model X.prog X.w) X.A (call f b) (EP X a d Q) X.xe s
def tOp(r:R2)(ta tb:TE):TE:=λa H Q=>ta a H λx b=>tb a b λy c=>r x y c Q
def tUn(r:V->Hp->VK->Prop)(ta:TE):TE:=λb H Q=>ta b H λx a=>r x a Q
def rI(C:Int->Int->Prop)(g:Int->Int->V):R2:=λx y H Q=>∃i j,x=.int i/\y=.int j/\C i j/\Q (g i j) H
def rI0(g:Int->Int->V):R2:=λx y H Q=>∃i j,x=.int i/\y=.int j/\Q (g i j) H
def rU(g:Int->V):V->Hp->VK->Prop:=λx H Q=>∃i,x=.int i/\Q (g i) H
section
variable{X:Cx}{a b:Expr}{ta tb:TE}{pos:Pos}
def apQ(t:PE X a ta)(p:PE X b tb){pins s}{σ:St}{H}{R:V->V->Hp->Prop}(I:Inv X pins σ H s)(h:ta σ H λx j=>tb σ j λy e=>R x y e){Q}{f:Value->Value->Sem Value}(n:∀v u i x y e,Inv X pins σ e i->RelV x v->RelV y u->R x y e->wpAny (model X.prog X.w) X.A (f v u) Q X.xe i):wpAny (model X.prog X.w) X.A (eval a X.env) (λv d=>wpAny (model X.prog X.w) X.A (eval b X.env) (λu g=>wpAny (model X.prog X.w) X.A (f v u) Q X.xe g) X.xe d) X.xe s:=by exact thn (t _ s σ H _ I h) λv w⟨x,j,l,m,q⟩=>thn (p _ _ σ _ _ l q) λu i⟨y,e,o,r,k⟩=>n v u _ x y _ o m r k
def alo{op r}(k:OpR X (binaryOp op) r)(e:PE X a ta)(i:PE X b tb):PE X (.BinOp a op b pos) (tOp r ta tb):=by intro d s l H Q I h;exact wpAny_BinOp (apQ e i I h λv u n x y m f j g q=>k _ _ l _ x y v u Q f j g q)
def aoI{op r}(g:UnR X (unaryOp op) r)(f:PE X a ta):PE X (.UnaryOp op a pos) (tUn r ta):=by intro d s e H Q I h;exact UnaryOp_ (thn (f _ s e H _ I h) λv m⟨x,l,j,k,i⟩=>g _ _ e _ x v Q j k i)
def opI{f C}{g:Int->Int->Int}(rule:∀i j t u s Q E,C i j->Q (.int (g i j) s.toks) {s with toks:=s.toks+1}->wpAny (model X.prog X.w) X.A (f (.int i t) (.int j u)) Q E s):OpR X f (rI C λi j=>.int (g i j)):=by intro k s p H x y v u Q I n m h;refine kU h λi j d e l q=>?_;subst d e;obtain⟨t,rfl⟩:=n;obtain⟨o,rfl⟩:=m;exact rule i j t _ s _ _ l (iG (.int _) H (I.tok _) ⟨_,rfl⟩ q)
def aqi{f}{g:Int->Int->Int}(rule:∀i j t u s Q E,Q (.int (g i j) s.toks) {s with toks:=s.toks+1}->wpAny (model X.prog X.w) X.A (f (.int i t) (.int j u)) Q E s):OpR X f (rI0 λi j=>.int (g i j)):=by intro k s o H x y v u Q I m l h;refine l5 h λi j d e q=>?_;subst d e;obtain⟨t,rfl⟩:=m;obtain⟨n,rfl⟩:=l;exact rule i j t _ s _ _ (iG (.int _) H (I.tok _) ⟨_,rfl⟩ q)
def aoQ{f}{g:Int->Int->Bool}(rule:∀i j t u s Q E,Q (.bool (g i j)) s->wpAny (model X.prog X.w) X.A (f (.int i t) (.int j u)) Q E s):OpR X f (rI0 λi j=>.bl (g i j)):=by intro d s m H x y v u Q I k e h;obtain⟨i,j,rfl,rfl,q⟩:=h;obtain⟨t,rfl⟩:=k;obtain⟨l,rfl⟩:=e;exact rule i j t _ s _ _ ⟨.bl _,H,I,rfl,q⟩
def ap1(i j:Int):Prop:=-2^64<i/\i<2^64\/-2^64<j/\j<2^64
def ap1.ok{i j}(h:ap1 i j):IntMulOk i j:=by
 rcases h with⟨d,e⟩|⟨d,e⟩;.exact .of_left (intBits_le_64 d e)
 .exact .of_right (intBits_le_64 d e)
def alB:OpR X (binaryOp .Add) (rI0 λi j=>.int (i+j)):=aqi λ_ _ _ _ _ _ _ q=>add_int q
def als:OpR X (binaryOp .Sub) (rI0 λi j=>.int (i-j)):=aqi λ_ _ _ _ _ _ _ q=>sub_int q
def alv:OpR X (binaryOp .Mult) (rI ap1 λi j=>.int (i*j)):=opI λ_ _ _ _ _ _ _ d q=>mul_int q d.ok
def alw:OpR X (binaryOp .Mod) (rI (λ_ j=>0<j) λi j=>.int (i%j)):=opI λi j _ _ _ _ _ d q=>by have e:(0:Int)<j:=d;exact mod_int' (by omega) (by rw[Int.fmod_eq_emod_of_nonneg i (by omega)];exact q)
def unI{f}{g:Int->Int}(rule:∀i t s Q E,Q (.int (g i) s.toks) {s with toks:=s.toks+1}->wpAny (model X.prog X.w) X.A (f (.int i t)) Q E s):UnR X f (rU λi=>.int (g i)):=by intro d s j H x v Q I e h;obtain⟨i,rfl,q⟩:=h;obtain⟨t,rfl⟩:=e;exact rule i t s _ _ ⟨.int _,H,I.tok _,⟨_,rfl⟩,q⟩
def akv:UnR X (unaryOp .USub) (rU λi=>.int (-i)):=unI λ_ _ _ _ _ q=>neg_int q
end
noncomputable def aor:V->V->Bool|.non,.non=>true|.non,.int _=>true|.int _,.non=>true|.non,.bl _=>true|.bl _,.non=>true|.non,.str _=>true|.str _,.non=>true|.int _,.int _=>true|.bl _,.bl _=>true|.str _,.str _=>true|.byt _,.byt _=>true|.int _,.str _=>true|.str _,.int _=>true|.bl _,.str _=>true|.str _,.bl _=>true|_,_=>false
def rEq:R2:=λx y H Q=>aor x y=true/\Q (.bl (decide (x=y))) H
def rNe:R2:=λx y H Q=>aor x y=true/\Q (.bl !decide (x=y)) H
def wG{i j:Int}:decide (V.int i=V.int j)=(i==j):=by rw[asn];simp
def adK{i j:Bool}:decide (V.bl i=V.bl j)=(i==j):=by rw[asn];simp
def wF{i j:Str}:decide (V.str i=V.str j)=(i==j):=by rw[asn];simp
def adJ{i j}:decide (V.byt i=V.byt j)=(i.toList==j.toList):=by rw[asn];cases i;cases j;simp
section
variable{X:Cx}{a b c:Expr}{ta tb tc:TE}{pos:Pos}
def aV{pins}{σ:St}{H s Q k k'}(I:Inv X pins σ H s)(q:Q (.bl k) H)(e:k=k'):EP X pins σ Q (.bool k') s:=by subst e;exact⟨.bl k,H,I,rfl,q⟩
def aoP:OpR X (compareOp .Eq) rEq:=by intro k s l H x y v u Q I g d h;obtain⟨f,q⟩:=h;cases x with
|non=>cases g;cases y with|non=>cases d;exact PySem.EqNone.eq_none_none (aV I q (by simp))|bl j=>cases d;exact PySem.EqNone.eq_none_bool (aV I q (by simp))|int j=>obtain⟨e,rfl⟩:=d;exact PySem.EqNone.eq_none_int (aV I q (by simp))|str j=>obtain⟨e,rfl⟩:=d;exact PySem.EqNone.eq_none_str (aV I q (by simp))|_=>exact absurd (show false=true from f) arG
|bl i=>cases g;cases y with|non=>cases d;exact PySem.EqNone.eq_bool_none (aV I q (by simp))|bl j=>cases d;exact eq_bool (aV I q adK)|str j=>obtain⟨e,rfl⟩:=d;exact PySem.EqMixed.eq_bool_str (aV I q (by simp))|_=>exact absurd (show false=true from f) arG
|int i=>obtain⟨t,rfl⟩:=g;cases y with|non=>cases d;exact PySem.EqNone.eq_int_none (aV I q (by simp))|int j=>obtain⟨e,rfl⟩:=d;exact eq_int (aV I q wG)|str j=>obtain⟨e,rfl⟩:=d;exact PySem.EqMixed.eq_int_str (aV I q (by simp))|_=>exact absurd (show false=true from f) arG
|str i=>obtain⟨t,rfl⟩:=g;cases y with|non=>cases d;exact PySem.EqNone.eq_str_none (aV I q (by simp))|bl j=>cases d;exact PySem.EqMixed.eq_str_bool (aV I q (by simp))|int j=>obtain⟨e,rfl⟩:=d;exact PySem.EqMixed.eq_str_int (aV I q (by simp))|str j=>obtain⟨e,rfl⟩:=d;exact eq_str (aV I q wF)|_=>exact absurd (show false=true from f) arG
|byt i=>obtain⟨t,rfl⟩:=g;cases y with|byt j=>obtain⟨e,rfl⟩:=d;exact W.eq_bytes (aV I q adJ)|_=>exact absurd (show false=true from f) arG
|_=>cases y<;>exact absurd (show false=true from f) arG
def aoL:OpR X (compareOp .NotEq) rNe:=by intro k s l H x y v u Q I g d h;obtain⟨f,q⟩:=h;cases x with
|non=>cases g;cases y with|non=>cases d;exact PySem.EqNone.ne_none_none (aV I q (by simp))|bl j=>cases d;exact PySem.EqNone.ne_none_bool (aV I q (by simp))|int j=>obtain⟨e,rfl⟩:=d;exact PySem.EqNone.ne_none_int (aV I q (by simp))|str j=>obtain⟨e,rfl⟩:=d;exact PySem.EqNone.ne_none_str (aV I q (by simp))|_=>exact absurd (show false=true from f) arG
|bl i=>cases g;cases y with|non=>cases d;exact PySem.EqNone.ne_bool_none (aV I q (by simp))|bl j=>cases d;exact ne_bool (aV I q (asZ not adK))|str j=>obtain⟨e,rfl⟩:=d;exact PySem.EqMixed.ne_bool_str (aV I q (by simp))|_=>exact absurd (show false=true from f) arG
|int i=>obtain⟨t,rfl⟩:=g;cases y with|non=>cases d;exact PySem.EqNone.ne_int_none (aV I q (by simp))|int j=>obtain⟨e,rfl⟩:=d;exact ne_int (aV I q (asZ not wG))|str j=>obtain⟨e,rfl⟩:=d;exact PySem.EqMixed.ne_int_str (aV I q (by simp))|_=>exact absurd (show false=true from f) arG
|str i=>obtain⟨t,rfl⟩:=g;cases y with|non=>cases d;exact PySem.EqNone.ne_str_none (aV I q (by simp))|bl j=>cases d;exact PySem.EqMixed.ne_str_bool (aV I q (by simp))|int j=>obtain⟨e,rfl⟩:=d;exact PySem.EqMixed.ne_str_int (aV I q (by simp))|str j=>obtain⟨e,rfl⟩:=d;exact ne_str (aV I q (asZ not wF))|_=>exact absurd (show false=true from f) arG
|byt i=>obtain⟨t,rfl⟩:=g;cases y with|byt j=>obtain⟨e,rfl⟩:=d;exact W.ne_bytes (aV I q (asZ not adJ))|_=>exact absurd (show false=true from f) arG
|_=>cases y<;>exact absurd (show false=true from f) arG
def aoM:OpR X (compareOp .Lt) (rI0 λi j=>.bl (decide (i<j))):=aoQ λ_ _ _ _ _ _ _ q=>lt_int q
def aoN:OpR X (compareOp .LtE) (rI0 λi j=>.bl (decide (i<=j))):=aoQ λ_ _ _ _ _ _ _ q=>le_int q
def aoO:OpR X (compareOp .Gt) (rI0 λi j=>.bl (decide (j<i))):=aoQ λ_ _ _ _ _ _ _ q=>gt_int q
def acq:OpR X (compareOp .In) λx y H Q=>∃i j,x=.str i/\y=.str j/\Q (.bl !(Builtin.Str.occurrences j i 0 j.length 1).isEmpty) H:=by intro d s k H x y v u Q I f e h;obtain⟨i,j,rfl,rfl,q⟩:=h;obtain⟨t,rfl⟩:=f;obtain⟨g,rfl⟩:=e;exact in_str (aV I q rfl)
def alx:OpR X (compareOp .Is) λx y H Q=>y=.non/\Q (.bl (decide (x=.non))) H:=by intro d s g H x y v u Q I f e h;obtain⟨rfl,q⟩:=h;cases e;refine is_none_gen (aV I q ?_);cases x<;>(obtain⟨t,rfl⟩:=f;rfl)
def ais:OpR X (compareOp .IsNot) λx y H Q=>y=.non/\Q (.bl !decide (x=.non)) H:=by intro d s g H x y v u Q I f e h;obtain⟨rfl,q⟩:=h;cases e;refine isnot_none_gen (aV I q ?_);cases x<;>(obtain⟨t,rfl⟩:=f;rfl)
def OpR.or{f r i}(h:OpR X f r)(h':OpR X f i):OpR X f λx y H Q=>r x y H Q\/i x y H Q:=by
 intro g s j H x y v u Q I e d q;rcases q with q|q;.exact h _ s j H x y v u Q I e d q
 .exact h' _ s j H x y v u Q I e d q
def aS(b){op}(h:op≠.In:=by decide)(d:op≠.NotIn:=by decide):behindInMarks op b=false:=afi b h d
def aio{op r}(l:OpR X (compareOp op) r)(e:PE X a ta)(j:PE X b tb)(f:behindInMarks op b=false):PE X (.Compare a [op] [b] pos) (tOp r ta tb):=by intro d s m H Q I h;exact wpAny_Compare1 (apQ e j I h λv u o x y n g k i q=>l _ _ m _ x y v u Q g k i q) f
def ahS(t:TE):TT:=λe H Q=>t e H λx d=>∃k,x=.bl k/\Q k d
def aif{op r}(A:OpR X (compareOp op) r)(l:PE X a ta)(w:PE X b tb)(o:behindInMarks op b=false):PT X (.Compare a [op] [b] pos) (ahS (tOp r ta tb)):=by intro f s d H Q I h;refine wpAny_isTrue_Compare1 (thn (l _ s d H _ I h) λv K⟨x,D,m,n,B⟩=>thn (w _ _ d _ _ m B) λu G⟨y,E,q,C,g⟩=>thn (A _ _ d _ x y v u _ q n C g) λc J⟨z,j,i,p,k,e,t⟩=>?_) o;subst e;cases p;exact ass ⟨j,i,t⟩
def abo(r i:R2)(ta tb tc:TE):TE:=λd H Q=>ta d H λx g=>tb d g λy j=>r x y j λz e=>∃k,z=.bl k/\if k=true then tc d e λf h=>i y f h Q else Q (.bl false) e
def ae9{op g r l}(ho:OpR X (compareOp op) r)(j:OpR X (compareOp g) l)(O:PE X a ta)(J:PE X b tb)(N:PE X c tc)(T:lastMarks [op,g] [b,c]=false:=by with_unfolding_all rfl):PE X (.Compare a [op,g] [b,c] pos) (abo r l ta tb tc):=by intro f s i H Q I h;refine Compare_chain (thn (O _ s i H _ I h) λv E⟨x,q,w,P,q1⟩=>chain_link (thn (J _ E i q _ w q1) λu B⟨y,R,A,m,M⟩=>thn (ho _ B i R x y v u _ A P m M) λd D⟨z,o,n,U,k,e,p⟩=>?_)) T;subst e;cases U;refine ass ?_;cases k with|false=>exact ite_ff ⟨.bl _,o,n,rfl,p⟩|true=>exact ite_tt (chain_last (thn (N f D i o _ n p) λC S⟨t,Z,G,K,Y⟩=>j f S i Z y t u C Q G m K Y))
def aeZ{op g r l}(ho:OpR X (compareOp op) r)(j:OpR X (compareOp g) l)(Y:PE X a ta)(O:PE X b tb)(S:PE X c tc)(hm:lastMarks [op,g] [b,c]=false:=by with_unfolding_all rfl):PT X (.Compare a [op,g] [b,c] pos) (ahS (abo r l ta tb tc)):=by intro f s i H Q I h;refine isTrue_chain (thn (Y f s i H _ I h) λv M⟨x,t,C,Z,q1⟩=>test_link (thn (O _ M i t _ C q1) λu G⟨y,H2,E,m,R⟩=>thn (ho _ G i H2 x y v u _ E Z m R) λd K⟨z,o,n,r3,k,e,p⟩=>?_)) hm;subst e;cases r3;refine ass ?_;cases k with|false=>obtain⟨k',B,U⟩:=p;cases B;exact ite_ff ⟨o,n,U⟩|true=>refine ite_tt (test_last (thn (S _ K i o _ n p) λJ s4⟨w,H4,N,P,q4⟩=>thn (j f s4 i H4 y w u J _ N m P q4) λd' s5⟨z2,D,I5,q,k2,A,T⟩=>?_));subst A;cases q;exact ass ⟨D,I5,T⟩
def yw:sizeLine<2^63:=by decide
def vals1{x us}(r:Vals [x] us):∃u,us=[u]/\RelV x u:=by cases r with|cons r1 r2=>cases r2;exact⟨_,rfl,r1⟩
def vals2{x y us}(r:Vals [x,y] us):∃u d,us=[u,d]/\RelV x u/\RelV y d:=by cases r with|cons r1 r2=>cases r2 with|cons r3 r4=>cases r4;exact⟨_,_,rfl,r1,r3⟩
def af4:ba X (.builtin "abs") λd H Q=>∃i,d=[.int i]/\Q (.int (if i<0 then -i else i)) H:=by intro e s g H d f Q I r h;obtain⟨i,rfl,q⟩:=h;obtain⟨u,rfl,t,rfl⟩:=vals1 r;exact call_abs_int λu tk=>iG (.int _) H (I.tok _) ⟨_,rfl⟩ q
def ad5(l:X.calm=true):ba X (.builtin "max") λf H Q=>∃i j,f=[.int i,.int j]/\Q (.int (if j>i then j else i)) H:=by
 intro g s v H f m Q I r h;refine dU h λi j e q=>?_;subst e;obtain⟨u,n,rfl,⟨t,rfl⟩,⟨o,rfl⟩⟩:=vals2 r;refine max_two_ints (I.ok.hd l) λp tk k=>iG _ H (I.kept k) ?_ q;by_cases d:j>i;.rw[arj d,arj d];exact⟨_,rfl⟩
 .rw[arl d,arl d];exact⟨_,rfl⟩
def ad6:ba X (.type "int") λd H Q=>(∃i,d=[.int i]/\Q (.int i) H)\/∃k,d=[.bl k]/\Q (.int (if k then 1 else 0)) H:=by
 intro e s j H d g Q I r h;rcases h with⟨i,rfl,q⟩|⟨k,rfl,q⟩;.obtain⟨u,rfl,t,rfl⟩:=vals1 r;exact call_int_int ⟨.int i,H,I,⟨_,rfl⟩,q⟩
 .obtain⟨u,rfl,f⟩:=vals1 r;cases f;exact call_int_bool ⟨.int (if k then 1 else 0),H,I.tok _,⟨_,rfl⟩,q⟩
end
structure ObjM(h:Heap)(x dx C:Addr)(mA:Str->Option Value):Prop where
 obj:h.get? x=some (W.instObj C dx)ns:h.Ns1 dx mA
 ne:dx≠x
def uq{h:Heap}{dx f}(n:h.Ns1 dx f):∃od,h.get? dx=some od/\∀b,W.lookIn b od=some (f b):=by
 refine am8 n λo d p l m g _ i=>?_;refine⟨o,l,λb=>?_⟩;have e:=i b;unfold nsFind findBy at e;rw[<-aud]at e;unfold W.lookIn;rw[m];dsimp ;split;.rename_i y q;rw[q]at e;exact asZ _ e
 .rename_i q;rw[q]at e;have a:d.toList.any (·.refKey)=false:=by rw[List.any_eq_false];intro y k;obtain⟨z,t,c⟩:=g y (Array.mem_toList_iff.mp k);simp[DictEntry.refKey,c]
  have j:¬d.toList.any (·.refKey)=true:=by grind
  rw[arl j];exact asZ _ e
def ObjM.look{h x dx C b}(I:ObjM h x dx C b):∃od,W.InstAt h x (W.instObj C dx) C (some od)/\∀a,W.lookIn a od=some (b a):=let⟨od,c,d⟩:=uq I.ns;⟨od,⟨I.obj,rfl,rfl,c⟩,d⟩
section
variable{prog:Program}{w:World}{A:Around}{E:Value->Shared->Prop}{s:Shared}{K:W.Frag}{x dx C f:Addr}{mA:Str->Option Value}{name:Str}{v:Value}
def get_map{a Q}(X:K.In s.heap)(I:ObjM s.heap x dx C mA)(c:W.plainGet K C name=true)(d:W.hasDictIn K C=true)(e:W.findIn K (.ref C) name=some none)(g:mA name=some v)(b:W.handedIn v=true)(h:Q v {s with toks:=s.toks+1}):wpAny (model prog w) A (getAttr (.ref x) name a) Q E s:=by obtain⟨od,J,i⟩:=I.look;exact W.get_value X J (W.plainGet_of c).1 (W.findObj_own d e rfl (by grind)) b h
def afI{pl Q}(X:K.In s.heap)(I:ObjM s.heap x dx C mA)(a:W.plainGet K C name=true)(d:W.findIn K (.ref C) name=some (some (.ref f)))(e:W.isFn K (.ref f)=true)(b:mA name=none)(h:Q (.ref f,[.ref x]) s):wpAny (model prog w) A (getMethod (.ref x) name pl) Q E s:=by obtain⟨od,J,c⟩:=I.look;exact W.method_fn X J (W.plainGet_of a).1 (W.plainGet_of a).2 d (asB.mp e) (by show(W.lookIn _ _).map _=some _;rw[c,b];rfl) h
def ah4{ns Q}(X:K.In s.heap)(I:ObjM s.heap x dx C mA)(o:W.findIn K (.ref C) "__setattr__"=some (some (.builtin "object.__setattr__")))(m:W.plainOver K C=true)(t:W.takerIn K C name=some none)(q:W.hasDictIn K C=true)(hw:PySem.Within mA ns)(hsz:ns.length<=sizeLine)(h:∀e,ObjM e x dx C (λy=>if y=name then some v else mA y)->Heap.SameBut dx s.heap e->Q () {s with heap:=e,toks:=s.toks+2}):wpAny (model prog w) A (setAttr (.ref x) name v) Q E s:=by refine gb I.look λod J B=>?_;refine W.set_plain X J o (W.osa_open (s:={s with toks:=s.toks+1}) (r:=none) X J m t λb=>?_);refine gb (W.any_some q) λu l g=>?_;refine ard (arp (ard (ard (at9 I.obj (ard (W.Looks.here (auj X l) ?_))))));rw[g];refine arp (a:=some dx) (ard (arp (ard ?_)));refine wpAny_nsSet1 I.ns λe c d=>?_;refine aaH (c.count (aun name v hw)) λz n p i j k=>?_;refine ard (auz i (by rw[j];exact auA (arq k (by rw[arw];omega))) ?_);exact arp (h _ ⟨(d.2 _ (arz I.ne)).trans I.obj,c,I.ne⟩ d)
def afm{R vs a}(X:K.In s.heap)(c:W.makesIn K C=true)(e:W.findIn K (.ref C) "__init__"=some (some (.ref f)))(d:W.typeIn K (.ref f)=some (.type "function"))(h:codeAny (model prog w) (A.under (.builtin "type.__call__" ⟨.ref C::vs,a⟩)) (.call (.ref f) ⟨.ref (s.heap.objs.size+1)::vs,a⟩) (W.InitBack (s.heap.objs.size+1) R) {s with heap:=(s.heap.push W.emptyDict).push (W.instObj C s.heap.objs.size)}):codeAny (model prog w) A (.call (.ref C) ⟨vs,a⟩) R s:=by exact W.make_core (W.makes_of X c) (W.looks_findIn X e) (λb=>W.bind_fn X _ d) (.inl rfl) h
end
noncomputable def tq(f:Str)(v:V):List (Str×V)->List (Str×V)|[]=>[(f,v)]|(g,x)::r=>if g=f then(g,v)::r else(g,x)::tq f v r
theorem nP(f g)(v):∀fs,(tq f v fs).lookup g=if g=f then some v else fs.lookup g
|[]=>by
 show List.lookup g [(f,v)]=_;by_cases h:g=f;.simp only[List.lookup,asB.mpr h,arj h]
 .simp only[List.lookup,ar4.mpr h,arl h]|(k,x)::r=>by
  have b:=nP f g v r;rw[show tq f v ((k,x)::r)=if k=f then(k,v)::r else(k,x)::tq f v r from rfl];by_cases a:k=f
  .rw[arj a];by_cases h:g=k;.have c:(g==k)=true:=asB.mpr h;simp only[List.lookup,c,arj (h.trans a)]
   .simp only[List.lookup,ar4.mpr h,arl λe:g=f=>h (e.trans a.symm)]
  .rw[arl a];by_cases h:g=k;.simp only[List.lookup,asB.mpr h,arl λe:g=f=>a (h.symm.trans e)]
   .simp only[List.lookup,ar4.mpr h];exact b
theorem nT(f)(v):∀fs,f∈(tq f v fs).map (·.1)/\∀g,g∈fs.map (·.1)->g∈(tq f v fs).map (·.1)
|[]=>⟨by simp[tq],λg h=>by simp at h⟩|(k,x)::r=>by
  obtain⟨b,c⟩:=nT f v r;rw[show tq f v _=if k=f then(k,v)::r else(k,x)::tq f v r from rfl];by_cases a:k=f;.subst a;exact⟨by simp,λg h=>by simpa using h⟩
  .rw[arl a];refine⟨?_,λg h=>?_⟩;.exact arH _ b
   .rcases arx.mp h with e|e;.exact arx.mpr (.inl e)
    .exact arH _ (c g e)
theorem nQ(f)(v):∀fs,(tq f v fs).length<=fs.length+1
|[]=>by simp[tq]|(k,x)::r=>by
 have b:=nQ f v r;rw[show tq f v _=if k=f then(k,v)::r else(k,x)::tq f v r from rfl];by_cases a:k=f;.rw[arj a,arw,arw];omega
 .rw[arl a,arw,arw];omega
def vi.some_of{v o}(r:vi (some v) o):∃u,o=some u/\RelV v u:=by cases o with|none=>exact(r).elim|some u=>exact⟨u,rfl,r⟩
def vi.none_of{o}(r:vi none o):o=none:=by cases o with|none=>rfl|some u=>exact(r).elim
def uz{v u}(r:RelV v u):W.handedIn u=true:=by cases v with|non|bl b=>cases r;rfl|int i|str x|byt b|flt b=>obtain⟨t,e⟩:=r;cases e;rfl|ref a|ty n=>cases r;rfl
section
variable{P:Program}{w:World}{H:Hp}{h:Heap}{a C dx:Addr}{fs:List (Str×V)}
def q9(c:HOk P w H h)(e:H a=some (.ins C dx fs)):∃b,ObjM h a dx C b/\(∀f,vi (fs.lookup f) (b f))/\PySem.Within b (fs.map (·.1))/\fs.length<=1000/\H dx=some (.own a):=by obtain⟨d,z,g,ob,b,n,r,q⟩:=c a _ e;exact⟨b,⟨ob,n,g⟩,r,q,z,d⟩
end
structure Cls(K:W.Frag)(C:Addr):Prop where
 pg:W.plainGet K C Str.empty=true
 hd:W.hasDictIn K C=true
 po:W.plainOver K C=true
 sa:W.findIn K (.ref C) "__setattr__"=some (some (.builtin "object.__setattr__"))
def Cls.get{K C}(c:Cls K C)(f):W.plainGet K C f=true:=c.pg
def bO(K:W.Frag)(C:Addr)(f:Str):Prop:=W.findIn K (.ref C) f=some none
def bO.aoa{K C f}(n:bO K C f):W.takerIn K C f=some none:=by unfold W.takerIn;rw[n];rfl
structure Meth(K:W.Frag)(C:Addr)(m:Str)(f:Addr):Prop where
 at_:W.findIn K (.ref C) m=some (some (.ref f))fn:W.isFn K (.ref f)=true
 kp:W.keepIn K (.ref f)=true
section
variable{X:Cx}{pins:List (Addr×Obj)}{σ:St}{H:Hp}{s:Shared}{a C dx:Addr}{fs:List (Str×V)}{f:Str}{v:V}{A:Around}{E:Value->Shared->Prop}
def z6{b Q}(I:Inv X pins σ H s)(e:H a=some (.ins C dx fs))(c:Cls X.K C)(n:bO X.K C f)(l:fs.lookup f=some v)(h:∀u d,Inv X pins σ H d->RelV v u->Q u d):wpAny (model X.prog X.w) A (getAttr (.ref a) f b) Q E s:=by obtain⟨i,O,r,_,_,_⟩:=q9 I.hok e;obtain⟨u,j,g⟩:=vi.some_of (v:=v) (o:=i f) (by grind);exact get_map I.kIn O (c.get f) c.hd n j (uz g) (h u _ (I.tok _) g)
def pX{m g pl Q}(I:Inv X pins σ H s)(e:H a=some (.ins C dx fs))(c:Cls X.K C)(k:Meth X.K C m g)(l:fs.lookup m=none)(h:Q (.ref g,[.ref a]) s):wpAny (model X.prog X.w) A (getMethod (.ref a) m pl) Q E s:=by obtain⟨b,O,r,_,_,_⟩:=q9 I.hok e;exact afI I.kIn O (c.get m) k.at_ k.fn (vi.none_of (by grind)) h
def zj{y u Q}(I:Inv X pins σ H s)(e:H a=some (.ins C dx fs))(c:Cls X.K C)(n:bO X.K C f)(K:fs.length<1000)(w:RelV y u)(h:∀i,Inv X pins σ (upd H a (.ins C dx (tq f y fs))) i->Q () i):wpAny (model X.prog X.w) A (setAttr (.ref a) f u) Q E s:=by
 obtain⟨B,O,r,k,_,j⟩:=q9 I.hok e;have l:(fs.map (·.1)).length<=sizeLine:=by rw[arB,ata];omega
 refine ah4 I.kIn O c.sa c.po n.aoa c.hd k l λJ d t=>h _ ?_;have G:∃o,J.get? dx=some o:=let⟨o,_,_,p,_⟩:=d.ns;⟨o,p⟩;refine I.write (x:=a) (e:=dx) (by rw[e];exact True.intro) (.inr j) (λb q D z=>(t.2 b D).trans z) G ⟨by rw[ag O.ne];exact j,?_,O.ne,d.obj,_,d.ns,λg=>?_,λg m=>?_⟩;.have:=nQ f y fs;omega
 .rw[nP];by_cases q:g=f;.rw[arj q,arj q];exact w
  .rw[arl q,arl q];exact r g
 .by_cases q:g=f;.rw[q];exact(nT f y fs).1
  .refine(nT f y fs).2 g (k g λz=>m ?_);show(if g=f then some u else B g)=none;rw[arl q];exact z
def Inv.made(I:Inv X pins σ H s):Inv X pins σ (upd (upd H s.heap.objs.size (.own (s.heap.objs.size+1))) (s.heap.objs.size+1) (.ins C s.heap.objs.size [])) {s with heap:=(s.heap.push W.emptyDict).push (W.instObj C s.heap.objs.size)}:=by
 have c:(s.heap.push W.emptyDict).get? s.heap.objs.size=some W.emptyDict:=aru s.heap rfl;have g:=by have:=aru (s.heap.push W.emptyDict) (o:=W.instObj C s.heap.objs.size) rfl;rwa[aua]at this
 have j:=I.laid (o:=.own (s.heap.objs.size+1)) (t':=s.toks) (λb u q=>arf _ q) (arn _) ⟨_,c⟩;refine j.laid  (λb u q=>arf _ q) (auB (aua _ _)) ?_;have d:s.heap.objs.size≠s.heap.objs.size+1:=arA (auC _);refine⟨by rw[ag d,aj],arZ _,d,g,_,(auo (vc W.emptyDict #[] _ c rfl (λe i=>absurd i (by simp)) λ_=>rfl)).at λo q=>arf _ q,λ_=>True.intro,λy h=>absurd rfl h⟩
def aeb{prog w b e f pos s Q}(d:attributeBase e f b (eval e b)=eval e b)(h:wpAny (model prog w) A (eval e b) (λo c=>wpAny (model prog w) A (getAttr o f true) Q E c) E s):wpAny (model prog w) A (eval (.Attribute e f pos) b) Q E s:=Attribute_any_ h (by rw[arm_eval_Attribute,d])
end
def aoi(K:W.Frag)(ta:TE)(f:Str):TE:=λd H Q=>ta d H λx b=>∃a C c fs v,x=.ref a/\b a=some (.ins C c fs)/\Cls K C/\bO K C f/\fs.lookup f=some v/\Q v b
def aou(K:W.Frag)(ta tv:TE)(f:Str):TS:=λD b H=>tv b H λy e=>ta b e λx d=>∃a C c fs,x=.ref a/\d a=some (.ins C c fs)/\Cls K C/\bO K C f/\fs.length<1000/\D.nx b (upd d a (.ins C c (tq f y fs)))
section
variable{X:Cx}{o e value:Expr}{f:Str}{pos pos':Pos}{ta tv:TE}
def x8(i:PE X e ta)(m:attributeBase e f X.env (eval e X.env)=eval e X.env):PE X (.Attribute e f pos) (aoi X.K ta f):=by intro b s t H Q I h;refine aeb m (thn (i _ s t H _ I h) λu z⟨x,d,j,p,a,C,A,fs,v,ex,g,c,n,l,q⟩=>?_);subst ex;obtain rfl:=p;exact z6 j g c n l λw y k r=>⟨v,d,k,r,q⟩
def ab4(m:PE X o ta)(r:PE X value tv)(v:swapsWith value (some (.Attribute o f pos')) pos.line X.env=pure false):PS X (.Assign [.Attribute o f pos'] value pos) (aou X.K ta tv f):=by intro d s b H D I h;refine as4 (thn (r _ s b H _ I h) λu G⟨y,z,i,t,q⟩=>thn (m _ _ b _ _ i q) λA B⟨x,K,j,w,a,C,J,fs,ex,g,c,n,l,k⟩=>?_) v;subst ex;obtain rfl:=w;exact zj j g c n l t λE p=>⟨b,_,p,k⟩
end
section
variable{X:Cx}{pins:List (Addr×Obj)}{σ:St}{H:Hp}{s:Shared}{A:Around}{E:Value->Shared->Prop}{Q:Value->Shared->Prop}{c:Value}{b:Bool}
inductive TyOf(K:W.Frag)(H:Hp):V->Value->Prop where|non:TyOf K H .non (.type "NoneType")|bl(x:Bool):TyOf K H (.bl x) (.type "bool")|int(i:Int):TyOf K H (.int i) (.type "int")|str(x:Str):TyOf K H (.str x) (.type "str")|flt(x:UInt64):TyOf K H (.flt x) (.type "float")|lst{a:Addr}{xs:List V}(e:H a=some (.lst xs)):TyOf K H (.ref a) (.type "list")|frz{a:Addr}{o:Obj}{xs:List V}(e:H a=some (.frz o (.lst xs))):TyOf K H (.ref a) (.type "list")|tup{a:Addr}{xs:List V}(e:H a=some (.tup xs)):TyOf K H (.ref a) (.type "tuple")|dK{a:Addr}{kvs:List (Key×V)}(e:H a=some (.dK kvs)):TyOf K H (.ref a) (.type "dict")|dT{a:Addr}{kvs:List (List Key×V)}(e:H a=some (.dT kvs)):TyOf K H (.ref a) (.type "dict")|ins{a C dx:Addr}{fs:List (Str×V)}(e:H a=some (.ins C dx fs))(cl:Cls K C)(ha:W.findIn K (.ref C) "__class__"=some (some (.builtin "object.__class__")))(hn:W.specialIn K (.builtin "object.__class__") "__get__"=some (some (.builtin "getset_descriptor.__get__")))(htk:W.takesIn K (.builtin "object.__class__")=some true)(hm:W.mroIn K C (.type "object")=some true):TyOf K H (.ref a) (.ref C)
def ada{x u t}(I:Inv X pins σ H s)(d:RelV x u)(ty:TyOf X.K H x t)(e:W.kitOne X.K t c=some b)(h:∀tk,Q (.bool b) {s with toks:=tk}):wpAny (model X.prog X.w) A (call (.builtin "isinstance") [u,c]) Q E s:=by cases ty with|non=>cases show u=Value.none from d;exact asA W.kitx_none I.kIn True.intro e (λz=>nomatch z) h|bl y=>cases show u=Value.bool y from d;exact asA W.kitx_bool I.kIn True.intro e (λz=>nomatch z) h|int i=>obtain⟨t,q⟩:=show∃t,u=Value.int i t from d;cases q;exact asA W.kitx_int I.kIn True.intro e (λz=>nomatch z) h|str y=>obtain⟨t,q⟩:=show∃t,u=Value.str y t from d;cases q;exact asA W.kitx_str I.kIn True.intro e (λz=>nomatch z) h|flt y=>obtain⟨t,q⟩:=show∃t,u=Value.float y t from d;cases q;exact asA W.kitx_float I.kIn True.intro e (λz=>nomatch z) h|@lst a j ea=>cases show u=Value.ref a from d;obtain⟨_,_,n,_,f⟩:=I.hok a _ ea;exact asA W.kitx_list I.kIn ⟨_,f,rfl⟩ e (λz=>nomatch z) h|@frz a ob j ea=>cases show u=Value.ref a from d;obtain⟨_,_,_,n,_,f⟩:=I.hok a _ ea;exact asA W.kitx_list I.kIn ⟨_,f,rfl⟩ e (λz=>nomatch z) h|@tup a j ea=>cases show u=Value.ref a from d;obtain⟨_,_,_,p⟩:=show dh X.prog X.w H s.heap a (.tup j)from I.hok a _ ea;refine ju p λo f g _=>?_;exact asA W.kitx_tuple I.kIn ⟨o,f,g⟩ e (λz=>nomatch z) h|@dK a kvs ea=>cases show u=Value.ref a from d;obtain⟨_,_,m,_,p⟩:=I.hok a _ ea;refine aaH p λo l k f g _=>?_;exact asA W.kitx_dict I.kIn ⟨o,f,g.1⟩ e (λz=>nomatch z) h|@dT a kvs ea=>cases show u=Value.ref a from d;obtain⟨_,_,j,_,o,l,k,f,g,_⟩:=show dh X.prog X.w H s.heap a (.dT kvs)from I.hok a _ ea;exact asA W.kitx_dict I.kIn ⟨o,f,g.1⟩ e (λz=>nomatch z) h|@ins a C dx fs ea cl ha hn htk hm=>cases show u=Value.ref a from d;refine gb (q9 I.hok ea) λr O _=>?_;obtain⟨od,J,_⟩:=O.look;exact asA (W.kitx_own (cl.get _) cl.hd ha hn htk hm) I.kIn J e (λz=>nomatch z) h
end
structure Room(k:Nat)(A:Around):Prop where
 hd:40<=k->A.handled=none
 dp:A.depth+3*k+5<recursionLimit
 un:A.units+16*k+200<cLine
 gd:A.guards=some []
def Room.mono{j k A}(r:Room k A)(h:j<=k):Room j A:=⟨λz=>r.hd (by omega),by have:=r.dp;omega,by have:=r.un;omega,r.gd⟩
theorem Room.deeper{k A}(r:Room (k+1) A)(a):Room k (A.deeper a):=⟨λz=>r.hd (by omega),by have:=r.dp;show A.depth+1+3*k+5<_;omega,by have:=r.un;show A.units+3+16*k+200<_;omega,r.gd⟩
def zS{A:Around}{C us a}:(A.under (.builtin "type.__call__" ⟨.ref C::us,a⟩)).depth=A.depth+1:=by rfl
def zR{A:Around}{C us a}:(A.under (.builtin "type.__call__" ⟨.ref C::us,a⟩)).units=A.units+1:=rfl
def Room.make{k A}(r:Room (k+1) A)(C)(us)(a):Room k (A.under (.builtin "type.__call__" ⟨.ref C::us,a⟩)):=⟨λz=>r.hd (by omega),by have:=r.dp;rw[zS];omega,by have:=r.un;rw[zR];omega,r.gd⟩
def Room.calm{k}{A:Around}{a}(r:Room k (A.deeper a))(h:40<=k):A.handled.isNone=true:=by rw[show A.handled=none from r.hd h];rfl
def Room.sui{k A v}(r:Room k A)(h:39<=k):Room 39 (A.mark v):=⟨λz=>by omega,by have:=r.dp;show A.depth+3*39+5<_;omega,by have:=r.un;show A.units+16*39+200<_;omega,r.gd⟩
theorem Room.depth{k A}(r:Room k A):A.depth<recursionLimit:=by have:=r.dp;omega
theorem Room.units{k A}(r:Room k A):A.units+64<cLine:=by have:=r.un;omega
def xE:TA:=λ_ H Q=>Q [] H
def gR(ta:TE)(e:TA):TA:=λa H Q=>ta a H λx b=>e a b λc d=>Q (x::c) d
section
variable{X:Cx}{e:Expr}{es:List Expr}{te:TE}{t:TA}{pos:Pos}
def cz:PA X [] xE:=λ_ _ _ _ H Q I h=>Calls.spliced_nil ⟨[],H,I,.nil,h⟩
def aN(d:PE X e te)(n:PA X es t)(k:SE X e es:=by rfl):PA X (e::es) (gR te t):=by intro pos a s b H Q I h;rw[k];exact as6 (thn (d _ s b H _ I h) λu r⟨x,o,f,g,l⟩=>thn (n _ _ _ b _ _ f l) λp q⟨v,i,j,m,c⟩=>iG _ i j (.cons g m) c)
def ap7(t:TA):TE:=λc H Q=>t c H λb a=>b.length<=sizeLine/\∀p,a p=none->Q (.ref p) (upd a p (.tup b))
def aoh(t:TA):TE:=λc H Q=>t c H λb a=>b.length<=sizeLine/\∀p,a p=none->Q (.ref p) (upd a p (.lst b))
def agC{d}(h:PA X es t):PE X (.Tuple es d pos) (ap7 t):=by intro c s i H Q I g;refine wpAny_Tuple_spliced (thn (h _ _ s i H _ I g) λf k⟨l,j,a,r,z,q⟩=>⟨by rw[<-r.length];exact z,.ref _,_,a.laid (λb u e=>arf _ e) (arn _) ?_,rfl,q _ (a.hok.fresh (arn _))⟩);exact⟨z,f,r,⟨_,aru _ rfl,rfl,_,rfl⟩⟩
def aci(h:PA X es t):PE X (.List es pos) (aoh t):=by intro c s g H Q I f;refine wpAny_List_spliced (thn (h _ _ s g H _ I f) λd j⟨k,i,a,r,z,q⟩=>⟨by rw[<-r.length];exact z,.ref _,_,a.laid (λb u e=>arf _ e) (arn _) ?_,rfl,q _ (a.hok.fresh (arn _))⟩);exact⟨z,d,0,r,aru _ rfl⟩
end
abbrev Sp:=List V->Hp->VK->XK->Prop
abbrev CXT:=List Env->Hp->Shared->XK->Value->Shared->Prop
structure Env0(P:Program)(w:World)(K:W.Frag)(mg:Str->Option Value)(base:Heap)(A:Around)(outer:List Env)(s:Shared)(H:Hp):Prop where
 frames:A.frames=some outer
 mod:Mod K mg base
 bs:∀b o,base.get? b=some o->s.heap.get? b=some o/\H b=none
 bsz:base.objs.size<=s.heap.objs.size
 rW:s.heap.FunFrames base outer
 frf:∀b∈frs outer,H b=none
 hok:HOk P w H s.heap
 bare:AllBare s.gens
def CE(a:List Env)(P:Program)(w:World)(H:Hp)(s:Shared)(Q:VK)(u:Value)(s':Shared):Prop:=∃v b,s'.os=s.os/\AllBare s'.gens/\Un (frs a) [] H b s.heap s'.heap/\HOk P w b s'.heap/\RelV v u/\Q v b
def CR(CX:CXT)(a:List Env)(P:Program)(w:World)(H:Hp)(s:Shared)(Q:VK)(E:XK)(r:Result)(s':Shared):Prop:=match r with|.ok (.ret u)=>CE a P w H s Q u s'|.ok _=>False|.error e=>CX a H s E e s'
structure FnOk(P:Program)(w:World)(K:W.Frag)(mg:Str->Option Value)(base:Heap)(CX:CXT)(k:Nat)(f:Addr)(fd:FuncData)(ps:List Str)(sp:Sp)(hn:Around->Hp->Prop:=λ_ _=>True):Prop where
 len:∀vs H Q E,sp vs H Q E->vs.length=ps.length
 run:∀(A:Around)(outer:List Env)(s:Shared)(H:Hp)(args:Args)(us:List Value)(vs:List V)(Q:VK)(E:XK),Room k A->hn A H->Env0 P w K mg base A outer s H->BindsTo s fd args (ps.zip us)->Vals vs us->sp vs H Q E->codeAny (model P w) A (.call (.ref f) args) (CR CX outer P w H s Q E) s
theorem FnOk.mono{P:Program}{w:World}{K:W.Frag}{e:Str->Option Value}{a:Heap}{CX:CXT}{j k:Nat}{f:Addr}{d:FuncData}{ps:List Str}{sp:Sp}(F:FnOk P w K e a CX j f d ps sp)(h:j<=k):FnOk P w K e a CX k f d ps sp:=⟨F.len,λA b s H c g i Q E l=>F.run A b s H c g i Q E (l.mono h)⟩
def FnOk.imp{P w K g a CX k f e ps sp b}(F:FnOk P w K g a CX k f e ps sp)(h:∀c H Q E,b c H Q E->sp c H Q E):FnOk P w K g a CX k f e ps b:=⟨λc H Q E q=>F.len _ H Q E (h _ _ _ _ q),λA d s H i r c Q E p j l o m n=>F.run A _ s H _ _ _ Q E p j l o m (h _ _ _ _ n)⟩
def Env0.make{P w K c b A a s H}(e:Env0 P w K c b A a s H)(C)(us)(d):Env0 P w K c b (A.under (.builtin "type.__call__" ⟨.ref C::us,d⟩)) a s H:=⟨by exact e.frames,e.mod,e.bs,e.bsz,e.rW,e.frf,e.hok,e.bare⟩
section
variable{X:Cx}{pins:List (Addr×Obj)}{σ:St}{H:Hp}{s s':Shared}
def Inv.anG(I:Inv X pins σ H s):Env0 X.prog X.w X.K X.mg X.base X.A X.stack s H:=⟨I.ok.frames,I.ok.mod,I.bs,arq I.ok.bsz I.sz,I.stack,I.vw,I.hok,I.bare⟩
def Inv.after{Q u}(I:Inv X pins σ H s)(h:CE X.stack X.prog X.w H s Q u s'):EP X pins σ Q u s':=by refine agf h λv e os a un c r q=>?_;obtain⟨i,g,d,t,f⟩:=s';obtain rfl:=os;exact iG v e (I.call   un c a λb z=>absurd z (by simp)) r q
end
def ahZ(sp:Sp)(dvs:List V)(E:XK)(t:TA):TE:=λc H Q=>t c H λb a=>sp (b++dvs) a Q E
def Binds(K:W.Frag)(b:FuncData)(ps:List Str)(ds:List Value):Prop:=∀(s:Shared)(a:List Value),K.In s.heap->(a++ds).length=ps.length->BindsTo s b ⟨a,[]⟩ (ps.zip (a++ds))
def Binds.all{K b ps}(h:∀a,a.length=ps.length->bindArgs b ⟨a,[]⟩=pure (ps.zip a)):Binds K b ps []:=λs a _ c=>by rw[ar2]at c⊢;exact .of_eq (h _ c)
def Passes(CX:CXT)(X:Cx)(E:XK):Prop:=∀(a:List (Addr×Obj))(c:St)(H:Hp)(s:Shared)(e:Value)(b:Shared),Inv X a c H s->CX X.stack H s E e b->X.xe e b
section
variable{X:Cx}{CX:CXT}{k:Nat}{f C:Addr}{fd:FuncData}{ps:List Str}{sp:Sp}{dvs:List V}{ds:List Value}{E:XK}{x:Str}{p pos:Pos}{e:Expr}{es:List Expr}{t:TA}
def agx{b pins}{σ:St}{H s Q us vs}(F:FnOk X.prog X.w X.K X.mg X.base CX k f fd ps sp b)(n:Room k X.A)(g:Binds X.K fd ps ds)(i:Vals dvs ds)(l:Passes CX X E)(I:Inv X pins σ H s)(r:Vals vs us)(h:sp (vs++dvs) H Q E)(d:b X.A H:=by exact trivial):wpAny (model X.prog X.w) X.A (call (.ref f) us) (EP X pins σ Q) X.xe s:=by
 have c:=r.append i;have j:(us++ds).length=ps.length:=by rw[<-c.length];exact F.len _ _ _ _ h
 refine as7 (att (F.run _ _ s H _ _ _ Q E n d I.anG (g s _ I.kIn j) c h) λr q a=>?_);cases r with|error e=>exact l _ σ H s e _ I a|ok fl=>cases fl with|ret u=>exact I.after a|next|brk|cont=>exact False.elim a
def ack(F:FnOk X.prog X.w X.K X.mg X.base CX k f fd ps sp)(y:Room k X.A)(i:Gl X x)(n:X.mg x=some (.ref f))(g:W.keepIn X.K (.ref f)=true)(u:Binds X.K fd ps ds)(v:Vals dvs ds)(w:Passes CX X E)(j:PA X (e::es) t)(a:Dbg x:=by decide)(l:SE X e es:=by rfl)(b:BT X pos es:=by rfl):PE X (.Call (.Name x p) (e::es) [] pos) (ahZ sp dvs E t):=by intro d s z H Q I h;exact asK (dZ I i n (auD I.ok.mod.kin g (thn (j _ _ s z H _ I h) λB G⟨D,A,c,r,q⟩=>⟨c.kIn,agx F y u v w c r q⟩) l b) a)
def afa(F:FnOk X.prog X.w X.K X.mg X.base CX k f fd ps sp)(n:Room k X.A)(d:Gl X x)(g:X.mg x=some (.ref f))(c:W.keepIn X.K (.ref f)=true)(i:Binds X.K fd ps ds)(j:Vals dvs ds)(l:Passes CX X E)(a:Dbg x:=by decide):PE X (.Call (.Name x p) [] [] pos) (ahZ sp dvs E xE):=by intro b s q H Q I h;exact asK (dZ I d g (W.callWith_K0 I.kIn c (agx F n i j l I .nil h)) a)
structure Mk(K:W.Frag)(C f:Addr):Prop where
 makes:W.makesIn K C=true
 init:W.findIn K (.ref C) "__init__"=some (some (.ref f))fn:W.isFn K (.ref f)=true
 kp:W.keepIn K (.ref C)=true
end
structure FnScope(N P:List Str)(sc:Scope):Prop where
 kind:sc.kind=.function
 co:sc.isCoroutine=false
 gen:sc.isGenerator=false
 nd:N.Nodup
 pre:N.take P.length=P
 par:∀x∈P,sc.names.lookup x=some .local\/sc.names.lookup x=some .cell
 nofree:∀y∈sc.names,y.2≠.free
theorem u2{kindOf x}:∀{binds m},(∀v,(x,v)∉binds)->bindL kindOf binds m x=m x
|[],_,_=>rfl|(n,v)::r,m,h=>by
 unfold bindL;rw[u2 λw hw=>h w (arH _ hw)];split
 .have:x≠n:=by grind
  simp[this]
 .rfl
theorem u4{kindOf x}:∀{binds m},(∀v,(x,v)∉binds)->bindC kindOf binds m x=m x
|[],_,_=>rfl|(n,v)::r,m,h=>by
 unfold bindC;rw[u4 λw hw=>h w (arH _ hw)];split;.rfl
 .have:x≠n:=by grind
  simp[this]
theorem u3{kindOf:Str->Option NameKind}{x:Str}{v:Value}:∀{P:List Str}{vs:List Value}{i:Nat}{m:Str->Option Value},P.Nodup->P[i]?=some x->vs[i]?=some v->kindOf x=some .local->bindL kindOf (P.zip vs) m x=some v|[],_,_,_,_,h,_,_=>by simp at h|_::_,[],_,_,_,_,h,_=>by simp at h|p::P,w::vs,0,m,nd,h1,h2,hk=>by simp at h1 h2;subst h1;subst h2;show bindL kindOf ((p,w)::P.zip vs) m p=_;unfold bindL;rw[u2 λv a=>(asM.mp nd).1 (auI a).1,arj hk];simp|p::P,w::vs,i+1,m,nd,h1,h2,hk=>by show bindL kindOf ((p,w)::P.zip vs) m x=_;unfold bindL;exact u3 (i:=i) (asM.mp nd).2 (by simpa using h1) (by simpa using h2) hk
theorem u5{kindOf x v}:∀{P:List Str}{vs}{i:Nat}{m},P.Nodup->P[i]?=some x->vs[i]?=some v->kindOf x≠some .local->bindC kindOf (P.zip vs) m x=some v|[],_,_,_,_,h,_,_=>by simp at h|_::_,[],_,_,_,_,h,_=>by simp at h|p::P,w::vs,0,m,nd,h1,h2,hk=>by simp at h1 h2;subst h1;subst h2;show bindC kindOf ((p,w)::P.zip vs) m p=_;unfold bindC;rw[u4 λv a=>(asM.mp nd).1 (auI a).1,arl hk];simp|p::P,w::vs,i+1,m,nd,h1,h2,hk=>by unfold bindC;exact u5 (i:=i) (asM.mp nd).2 (by simpa using h1) (by grind) hk
noncomputable def start(N:List Str)(vs:List V):St:=vs.map some++List.replicate (N.length-vs.length) none
noncomputable def dG(CX:CXT)(P:Program)(w:World)(K:W.Frag)(mg:Str->Option Value)(base:Heap)(N:List Str)(qual:Str)(scope:Scope)(f:Addr)(cd:Value)(A:Around)(outer:List Env)(s:Shared)(H:Hp)(E:XK):Cx where prog:=P;w:=w;K:=K;mg:=mg;base:=base;A:=A.deeper (envOfC qual scope s.heap.objs.size f cd);N:=N;s₀:=s;H₀:=H;env:=envOfC qual scope s.heap.objs.size f cd;outer:=outer;stack:=envOfC qual scope s.heap.objs.size f cd::outer;ex:=[];calm:=A.handled.isNone;fn:=λ_=>true;pn:=[];xe:=λe s'=>wpAny (model P w) (A.deeper (envOfC qual scope s.heap.objs.size f cd)) (leaving (envOfC qual scope s.heap.objs.size f cd) e) (λ_ s''=>CX outer H s E e s'') (λe' s''=>CX outer H s E e' s'') s'
def yT{a:Scope}{n x}(h:a.names.lookup x=some .cell):∃c,(cellsFrom n a.names []).lookup x=some c:=by exact ase.mp (W.cellsFrom_some _ n _ (.inl h))
def adb{CX P w K M l N ps g scope f D A d s R H E us vs}(S:FnScope N ps scope)(m:Env0 P w K M l A d s H)(Z:vs.length=ps.length)(r:Vals vs us)(x:InCallC s s.heap.objs.size (bindL (envOfC g scope s.heap.objs.size f D).kindOf (ps.zip us) λ_=>none) (cellsFrom (s.heap.objs.size+1) scope.names []) (bindC (envOfC g scope s.heap.objs.size f D).kindOf (ps.zip us) λ_=>none) R):Inv (dG CX P w K M l N g scope f D A d s H E) [] (start N vs) H R:=by
 have U:ps.length<=N.length:=by have:=asZ List.length S.pre;rw[as0]at this;omega
 refine dU x.done λG tk J O=>?_;subst J;have o:∀b:Addr,b ∉(dG CX P w K M l N g scope f D A d s H E).ex:=λb z=>absurd (show b∈([]:List Addr)from z) (by simp);refine⟨⟨m.mod,S.kind,rfl,rfl,arn _,λy z c G j=>?_,λy C=>?_,λy c _ h=>?_,λz=>Option.isNone_iff_eq_none.mp z,Around.frames_deeper m.frames,.inr ⟨rfl,rfl⟩,λb z=>absurd z (o b),m.bs,m.bsz,λb _ _=>o b,λb z=>absurd z (o b),m.rW,m.frf⟩,rfl,m.bare,Un.kept O,⟨_,x.toInCall.ns,λi y v G j Y=>?_⟩,λy c h=>⟨_,x.cell y c h⟩,m.hok.fresh (arn _),λy c h=>?_,λp t=>absurd (show p∈([]:List (Addr×Obj))from t) (by simp),m.hok.kept O,?_⟩;.exact name_of_addr x.apart (asa G) (asa j)
 .rcases C with C|C;.exact yT C
  .exact absurd rfl (S.nofree _ (asa C))
 .exact ats (x.above y c (asa h))
 .have I:i<vs.length:=by
   unfold start at j;by_cases I:i<vs.length;.exact I
   .rw[arQ (by simpa using I)]at j;rw[asF]at j;split at j<;>cases j
  have X:vs[i]?=some v:=by unfold start at j;rw[arO (by simpa using I),arL]at j;cases e:vs[i]? with|none=>rw[e]at j;cases j|some a=>rw[e]at j;cases j;rfl
  refine gb (r.get X) λu Q T=>?_;have t:ps[i]?=some y:=by rw[<-S.pre,auE (by omega)];exact G
  have B:ps.Nodup:=by rw[<-S.pre];exact S.nd.sublist (List.take_sublist _ _)
  refine⟨u,T,?_⟩;rcases S.par y (atV t)with k|k;.exact .inl ⟨k,u3 B t Q k⟩
  .obtain⟨c,e⟩:=yT (n:=s.heap.objs.size+1) k;refine .inr ⟨.inl k,c,e,?_⟩;have q:=x.cell y c e;rw[u5 B t Q (by show scope.names.lookup y≠_;rw[k];decide)]at q;exact q
 .exact m.hok.fresh (ats (x.above y c (asa h)))
 .unfold start;show _=N.length;rw[ar7,arB,asN];omega
def uD{CX P w K M g k f name c h i scope dV kV D pm d ct oc an od U N ps sp}(lk:K.lookup f=some ⟨oc,od,.func (W.fnOf name c h i scope dV kV D pm an d ct),U⟩)(R:W.codeIn K d c=true)(S:FnScope N ps scope)(len:∀j H Q E,sp j H Q E->j.length=ps.length){X}(p:∀A a s H j Q E,Room k (A.deeper (envOfC c scope s.heap.objs.size f d))->X A H->sp j H Q E->∃t,PSs (dG CX P w K M g N c scope f d A a s H E) i t/\t {nx:=λ_ m=>Q .non m,rt:=Q} (start N j) H):FnOk P w K M g CX (k+1) f (W.fnOf name c h i scope dV kV D pm an d ct) ps sp X:=by
 refine⟨len,λA a s H a0 us j Q E Y hN C hb r G=>?_⟩;have KX:K.In s.heap:=C.mod.kin.keeps λb o e=>(C.bs b o e).1;have lim:s.heap.NoLimit:=C.mod.nolimit.keeps λb o e=>(C.bs b o e).1;have z:∀y∈ps.zip us,scope.names.lookup y.1=some .local\/scope.names.lookup y.1=some .cell/\((cellsFrom (s.heap.objs.size+1) scope.names []).lookup y.1).isSome=true:=λ⟨n,v⟩hy=>by
  rcases S.par n (auI hy).1 with q|q;.exact .inl q
  .exact .inr ⟨q,W.cellsFrom_some _ _ _ (.inl q)⟩
 refine codeAny_call_function Y.depth (KX _ _ lk) rfl S.co S.gen rfl (W.codeRec_of KX R) (hb _ _ _ _ ?_);refine wpAny_newFunctionEnv_cells S.kind z λa1 he Z x=>?_;subst he;refine⟨lim.keeps x.toInCall.keep,codeAny_func ?_⟩;refine gb (p A a s H j Q E (Y.deeper _) hN G) λt ht hq=>?_;have I:Inv (dG CX P w K M g N c scope f d A a s H E) [] (start N j) H Z:=adb S C (len _ _ _ _ G) r x;refine arI (ht [] Z (start N j) H _ I hq) (λfl O B=>?_) λe O B=>B;have fin:∀{l:St}{m:Hp}{v:V}{u:Value},Inv (dG CX P w K M g N c scope f d A a s H E) [] l m O->RelV v u->Q v m->CE a P w H s Q u O:=λ{l m v u}J T q=>ajD v m J.os J.bare J.base J.hok T q;cases fl with|ret u=>refine aaH B λv l m J T q=>?_;exact fin J T q|next=>obtain⟨l,m,J,q⟩:=B;exact fin (v:=V.non) (u:=Value.none) J rfl q|brk=>obtain⟨_,_,_,q⟩:=B;exact False.elim q|cont=>obtain⟨_,_,_,q⟩:=B;exact False.elim q
section
variable{X:Cx}{x:Str}{p pos:Pos}{e:Expr}{es:List Expr}{t:TA}{id T:String}{r:List V->Hp->VK->Prop}
def tCB(r:List V->Hp->VK->Prop)(t:TA):TE:=λb H Q=>t b H λc a=>r c a Q
def x9(f:ba X (.builtin id) r)(i:Gl X x)(o:X.mg x=none)(k:bootBuiltins x=some (.builtin id))(j:PA X (e::es) t)(g:x≠"__name__":=by decide)(a:Dbg x:=by decide)(l:SE X e es:=by rfl)(b:BT X pos es:=by rfl):PE X (.Call (.Name x p) (e::es) [] pos) (tCB r t):=by intro c s d H Q I h;exact asK (lF I i o k (atW (thn (j _ _ s d H _ I h) λv y⟨w,u,m,n,q⟩=>f _ _ d _ _ _ Q m n q) l b) g a)
def ny(f:ba X (.type T) r)(i:Gl X x)(o:X.mg x=none)(k:bootBuiltins x=some (.type T))(j:PA X (e::es) t)(g:x≠"__name__":=by decide)(a:Dbg x:=by decide)(l:SE X e es:=by rfl)(b:BT X pos es:=by rfl):PE X (.Call (.Name x p) (e::es) [] pos) (tCB r t):=by intro c s d H Q I h;exact asK (lF I i o k (asi (thn (j _ _ s d H _ I h) λv y⟨w,u,m,n,q⟩=>f _ _ d _ _ _ Q m n q) l b) g a)
end
end L2
namespace HT
open PySem PyProof.Rows
section
open PySem.SeqAt
open PySem.AutoSeq1(wpAny_loadPart')
open PySem.MeetsSeq PySem.MeetsSeq2 PySem.MeetsSeq3
end
section
variable{prog:Program}{w:World}{A:Around}{E:Value->Shared->Prop}{s:Shared}
def ajq{t b:Addr}{vs ws:List Value}{Q:Value->Shared->Prop}(v:IsTup s.heap t vs.toArray)(u:IsTup s.heap b ws.toArray)(k:vs≠[])(r:ws=[]->Q (.ref t) s)(q:ws≠[]->Q (.ref s.heap.objs.size) {s with heap:=s.heap.push {cls:=.type "tuple",data:=.seq (vs++ws).toArray}})(hsz:vs.length+ws.length<=sizeLine):wpAny (model prog w) A (binaryOp .Add (.ref t) (.ref b)) Q E s:=by
 obtain⟨⟨cls,m,data,j⟩,h,i,n,p⟩:=id v;obtain⟨⟨l,c,data2,g⟩,a,f,o,d⟩:=id u;simp only at i p f d;subst i p f d;have e:vs.toArray++ws.toArray=(vs++ws).toArray:=by simp
 by_cases hw:ws=[];.exact auF ⟨_,h,rfl⟩ ⟨_,a,rfl⟩ auG seq_tuple_add atJ atD (atu _ _) (tuple_addW1 t b vs.toArray ws.toArray n o m c j g (by simpa using k) (by simp[hw])) ⟨h,a,r hw⟩
 .refine auF ⟨_,h,rfl⟩ ⟨_,a,rfl⟩ auG seq_tuple_add atJ atD (atu _ _) (tuple_addW2 t b vs.toArray ws.toArray n o m c j g (by simpa using k) (by simpa using hw) (by rw[asb,asb];exact hsz)) ⟨h,a,?_⟩;rw[e];exact q hw
noncomputable def sIx(n d:Nat):Option Int->Nat|none=>d|some v=>if v<0 then(v+(n:Int)).toNat else min v.toNat n
def akT(n d)(b:d<=n)(o):sIx n d o<=n:=by cases o with|none=>exact b|some v=>
 show(if v<0 then(v+n).toNat else min _ n)<=n;by_cases a:v<0;.rw[arj a];omega
 .rw[arl a];exact atj _ _
def ad0(v)(n d:Nat):(if v<0 then max (v+(n:Int)) 0 else min v n)=(sIx n d (some v):Nat):=by
 show(if v<0 then max _ 0 else min v n)=if v<0 then(v+n).toNat else min _ n;by_cases a:v<0;.simp only[arj a];omega
 .simp [arl a];omega
def aaD(lo a)(n:Nat):Builtin.Slice.sliceAdjust lo a 1 n=((sIx n 0 lo:Int),(sIx n n a:Int)):=by
 refine Prod.ext ?_ ?_;.cases lo with|none=>rfl|some v=>exact ad0 v n 0
 .cases a with|none=>rfl|some v=>exact ad0 v n n
def zE(i j:Nat):Builtin.Slice.slicePlaces (i:Int) (j:Int) 1=j-i:=by
 unfold Builtin.Slice.slicePlaces;have a:(1:Int)>0:=by omega
 simp only[a,asI,Int.ediv_one];split<;>omega
def px{v o Q}(p:IsPart v o)(h:Q o s):wpAny (model prog w) A (Builtin.Slice.slicePartIndex v) Q E s:=by cases p with|none=>exact slicePart_none h|int i t=>exact slicePart_int h
def lR{sl e d lo c n}{Q:Int×Int×Nat->Shared->Prop}(f:s.heap.IsSliceOf sl e d .none)(pl:IsPart e lo)(i:IsPart d c)(h:Q ((sIx n 0 lo:Nat),1,sIx n n c-sIx n 0 lo) s):wpAny (model prog w) A (Builtin.Slice.sliceApplied (.ref sl) (pure n)) Q E s:=by refine ju (id f) λos a g b=>?_;refine ard (ard (arR a b (x:=e) rfl (ard (arR a b (x:=d) rfl (ard (arR a b rfl (arp ?_)))))));refine ard (slicePart_none ?_);refine ard (px pl (ard (px i (ard (arp ?_)))));show wpAny _ _ (match Builtin.Slice.sliceAdjust lo c 1 (n:Int)with|(lo,c)=>pure (lo,(1:Int),Builtin.Slice.slicePlaces lo c 1)) _ _ s;rw[aaD lo c n];show wpAny _ _ (pure _) _ _ s;rw[zE];exact arp h
def ae3(xs:Array Value)(i k:Nat):((List.range k).filterMap λ(m:Nat)=>xs[((i:Int)+(m:Int)*1).toNat]?).toArray=((xs.toList.drop i).take k).toArray:=by
 have e:(λ(m:Nat)=>xs[((i:Int)+(m:Int)*1).toNat]?)=λm=>xs[i+m]?:=by
  funext m;have:((i:Int)+(m:Int)*1).toNat=i+m:=by omega
  rw[this]
 rw[e];have:=pick_run xs i k;rw[List.filterMap_map]at this;have a:((λx=>xs[x]?)∘λx=>i+x)=λm=>xs[i+m]?:=rfl;rw[a]at this;rw[this]
def kE{t sl items i k lo a Q}(c:IsTup s.heap t items)(j:s.heap.IsSliceOf sl i k .none)(pl:IsPart i lo)(l:IsPart k a)(hw:¬(sIx items.size 0 lo=0/\sIx items.size items.size a=items.size))(h:Q (.ref s.heap.objs.size) {s with heap:=s.heap.push {cls:=.type "tuple",data:=.seq ((items.toList.drop (sIx items.size 0 lo)).take (sIx items.size items.size a-sIx items.size 0 lo)).toArray}})(hsz:items.size<=sizeLine):wpAny (model prog w) A (getItem (.ref t) (.ref sl)) Q E s:=by
 have b:sizeOk (.seq ((items.toList.drop (sIx items.size 0 lo)).take (sIx items.size items.size a-sIx items.size 0 lo)).toArray):=by show((items.toList.drop (sIx items.size 0 lo)).take (sIx items.size items.size a-sIx items.size 0 lo)).toArray.size<=sizeLine;rw[asb,as0,List.length_drop,asH];omega
 have o:sIx items.size items.size a<=items.size:=akT _ _ (arn _) a;refine ju (id j) λos e g n=>?_;have d:s.TypeIs (.ref sl) "slice":=⟨os,e,g⟩;unfold getItem;try with_reducible refine asl ?_
 first|refine ard (arp ?_)|skip
 refine ard (wpAny_sequenceKey c.typeIs (by decide) ?_);refine ard (asG (name:=Str.ofString "__getitem__") c.typeIs as5 (asx as5 c.typeIs entry_tuple_getitem ?_ (args_tuple_getitem _ _)));show wpAny _ _ (Builtin.Tuple.tupleItemsOf (.ref t)>>=_) _ _ s;refine ard (tupleItemsOf_ c ?_);refine ard (wpAny_typeOf d ?_);rw[arj (by decide)];refine ard (lR j pl l ?_);have f:¬(((sIx items.size 0 lo:Nat):Int)==0&&(1:Int)==1&&sIx items.size items.size a-sIx items.size 0 lo==items.size)=true:=by grind
 show wpAny _ _ (if(((sIx items.size 0 lo:Nat):Int)==0&&(1:Int)==1&&sIx items.size items.size a-sIx items.size 0 lo==items.size)=true then _ else _) _ _ s;rw[arl f,ae3];exact ard (m:=Builtin.Tuple.tupleExact _) (atF (arp ⟨_,rfl,arp h⟩) b)
end
end HT
namespace L2
open PySem PySem.Spec PyProof.Rows
abbrev TO:=St->Hp->(Option Int->Hp->Prop)->Prop
def PO(X:Cx)(e:Option Expr)(t:TO):Prop:=∀(a:List (Addr×Obj))(s:Shared)(b:St)(H:Hp)(Q:Option Int->Hp->Prop),Inv X a b H s->t b H Q->wpAny (model X.prog X.w) X.A (evalPart e X.env) (λu d=>∃o c,Inv X a b c d/\IsPart u o/\Q o c) X.xe s
def ahV:TO:=λ_ H Q=>Q none H
def aod(t:TE):TO:=λb H Q=>t b H λx a=>∃i,x=.int i/\Q (some i) a
section
variable{X:Cx}{e:Expr}{te:TE}{lo hi:Option Expr}{tl th:TO}{pos p2:Pos}
def ab8:PO X none ahV:=by intro a s b H Q I h;exact arp ⟨_,H,I,.none,h⟩
def ab7(h:PE X e te):PO X (some e) (aod te):=by intro a s g H Q I hw;refine thn (h _ s g H _ I hw) λu j⟨x,b,c,d,f⟩=>?_;obtain⟨i,rfl,q⟩:=f;obtain⟨t,rfl⟩:=d;exact⟨_,b,c,.int i t,q⟩
def SlR(X:Cx)(r:V->Option Int->Option Int->Hp->VK->Prop):Prop:=∀(a:List (Addr×Obj))(s:Shared)(f:St)(H:Hp)(x:V)(v d c:Value)(lo hi:Option Int)(b:Addr)(Q:VK),Inv X a f H s->RelV x v->s.heap.IsSliceOf b d c .none->IsPart d lo->IsPart c hi->r x lo hi H Q->∃T id,typeLookup (.type T) "__getitem__"=pure (some (.builtin id))/\s.TypeIs v T/\wpAny (model X.prog X.w) X.A (getItem v (.ref b)) (EP X a f Q) X.xe s
def SlR.or{r f}(h:SlR X r)(h':SlR X f):SlR X λx lo hi H Q=>r x lo hi H Q\/f x lo hi H Q:=by
 intro g s i H x v k l lo hi j Q I d b c a q;rcases q with q|q;.exact h _ s i H x v _ _ _ _ _ Q I d b c a q
 .exact h' _ s i H x v _ _ _ _ _ Q I d b c a q
def tSl(r:V->Option Int->Option Int->Hp->VK->Prop)(te:TE)(tl th:TO):TE:=λa H Q=>te a H λx b=>tl a b λl d=>th a d λu c=>r x l u c Q
def qI{r}(N:SlR X r)(n:PE X e te)(A:PO X lo tl)(m:PO X hi th):PE X (.Subscript e (.Slice lo hi none p2) pos) (tSl r te tl th):=by intro a s c H Q I h;refine Subscript_ (thn (n a s c H _ I h) λv w⟨x,j,o,D,M⟩=>wpAny_Slice (thn (A a w c j _ o M) λi t⟨l,E,p,z,B⟩=>thn (m a t c E _ p B) λf d⟨u,g,C,G,K⟩=>arp ?_));have y:Inv X a c g {d with heap:=d.heap.push {cls:=.type "slice",data:=.fields #[i,f,.none]}}:=C.kept λb ob q=>arf _ q;refine l5 (N a _ c g x v i f l u d.heap.objs.size Q y D (Heap.IsSliceOf.new ..) z G K) λT id J O k=>?_;exact tail_any O J k (rfl)
def ajT(xs:List V)(lo hi:Option Int):List V:=(xs.drop (HT.sIx xs.length 0 lo)).take (HT.sIx xs.length xs.length hi-HT.sIx xs.length 0 lo)
def oa(xs)(lo hi):(ajT xs lo hi).length<=xs.length:=by unfold ajT;rw[as0,List.length_drop];omega
def aqL(K:W.Frag):V->Option Int->Option Int->Hp->VK->Prop:=λx lo hi H Q=>∃a b,x=.ref a/\SqT K H a b/\¬(HT.sIx b.length 0 lo=0/\HT.sIx b.length b.length hi=b.length)/\∀p,H p=none->Q (.ref p) (upd H p (.tup (ajT b lo hi)))
def akK:SlR X (aqL X.K):=by
 intro j s y H x v u w lo hi t Q I o m n l h;refine kU h λa g d p hw q=>?_;subst d;cases o;refine ju (I.tuple p) λf r i k=>?_;have c:f.toArray.size=g.length:=by rw[asb];exact r.length.symm
 refine iG "tuple" _ as5.lookup i.typeIs ?_;refine HT.kE i m n l (by grind) ?_ (by omega);rw[c];refine(iG (.ref s.heap.objs.size) _ (I.laid (t':=s.toks) (λb ob q=>arf _ q) (arn _) ?_) rfl (q _ (I.hok.fresh (arn _))));exact⟨arq (oa g lo hi) k,_,(r.drop _).take _,IsTup.new _ _⟩
def aoG(K:W.Frag):R2:=λx y H Q=>∃a b d c,x=.ref a/\y=.ref b/\SqT K H a d/\SqT K H b c/\d≠[]/\d.length+c.length<=sizeLine/\(c=[]->Q (.ref a) H)/\(c≠[]->∀p,H p=none->Q (.ref p) (upd H p (.tup (d++c))))
def Vals.wc{xs us}(r:Vals xs us):us=[]↔ xs=[]:=by cases r with|nil|cons _ _=>simp
def ait:OpR X (binaryOp .Add) (aoG X.K):=by intro i s D H x y v u Q I t r h;obtain⟨a,b,k,p,rfl,rfl,C,l,B,f,A,n⟩:=h;cases t;cases r;obtain⟨j,d,m,_⟩:=I.tuple C;obtain⟨g,c,p2,_⟩:=I.tuple l;refine HT.ajq m p2 (λz=>B (d.wc.mp z)) (λz=>⟨.ref a,H,I,rfl,A (c.wc.mp z)⟩) (λz=>?_) (by rw[<-d.length,<-c.length];exact f);refine⟨.ref s.heap.objs.size,_,I.laid (t':=s.toks) (o:=.tup (k++p)) (λb ob q=>arf _ q) (arn _) ?_,rfl,n (λw=>z (c.wc.mpr w)) _ (I.hok.fresh (arn _))⟩;exact⟨by rw[ar7];exact f,_,d.append c,IsTup.new _ _⟩
end
noncomputable def ixN(n:Nat)(i:Int):Option Nat:=if 0<=i then if i<n then some i.toNat else none else if -(n:Int)<=i then some (i+n).toNat else none
def atI{α:Type}(xs:List α)(i:Int):Option α:=(ixN xs.length i).bind λj=>xs[j]?
def aiX{n i j}(h:ixN n i=some j):seqIndex? i n=some j/\j<n/\-n<=i/\i<n:=by
 unfold ixN at h;by_cases b:0<=i
 .rw[arj b]at h;by_cases a:i<n;.rw[arj a]at h;have e:=arK h;exact⟨by rw[seqIndex_of b a,e],by omega,by omega,a⟩
  .rw[arl a]at h;cases h
 .rw[arl b]at h;by_cases a:-(n:Int)<=i;.rw[arj a]at h;have e:=arK h;exact⟨by rw[seqIndex_neg (by omega) a,e],by omega,a,by omega⟩
  .rw[arl a]at h;cases h
def aec{α xs i}{v:α}(h:atI xs i=some v):∃j,seqIndex? i xs.length=some j/\xs[j]?=some v/\j<xs.length/\-xs.length<=i/\i<xs.length:=by unfold atI at h;cases e:ixN xs.length i with|none=>rw[e]at h;cases h|some j=>rw[e]at h;refine anS (aiX e) λa d b c=>?_;exact⟨j,a,h,d,b,c⟩
def jm{α:Type}{xs:List α}{j:Nat}{v:α}(h:xs[j]?=some v):atI xs (j:Int)=some v:=by
 have a:j<xs.length:=(ari.mp h).1;have e:ixN xs.length (j:Int)=some j:=by unfold ixN;rw[arj (by omega),arj (by omega)];simp
 unfold atI;rw[e];exact h
def j1{α:Type}(xs:List α)(v:α):atI (xs++[v]) (-1)=some v:=by
 have a:(xs++[v]).length=xs.length+1:=by simp
 have e:ixN (xs++[v]).length (-1)=some xs.length:=by unfold ixN;rw[a,arl (by decide),arj (by omega)];congr 1;omega
 unfold atI;rw[e];show(xs++[v])[xs.length]?=some v;simp
def kT(b:Expr):Prop:=∀o i,subscripted b false o i=operate [o,i] (getItem o i)
def IxR(X:Cx)(r:R2):Prop:=∀(c a:Expr)(b:List (Addr×Obj))(s:Shared)(d:St)(H:Hp)(x y:V)(v u:Value)(Q:VK),Inv X b d H s->RelV x v->RelV y u->r x y H Q->subscripted a false v u=operate [v,u] (getItem v u)->wpAny (model X.prog X.w) X.A (subscriptTail c a v u) (EP X b d Q) X.xe s
def MtR(X:Cx)(id:String)(r:V->List V->Hp->VK->Prop):Prop:=∀(a:List (Addr×Obj))(s:Shared)(d:St)(H:Hp)(x:V)(c:List V)(v:Value)(b:List Value)(Q:VK),Inv X a d H s->RelV x v->Vals c b->r x c H Q->wpAny (model X.prog X.w) X.A (call (.builtin id) (v::b)) (EP X a d Q) X.xe s
section
variable{X:Cx}{a b:Expr}{ta tb:TE}{pos:Pos}
def IxR.or{r i}(h:IxR X r)(h':IxR X i):IxR X λx y H Q=>r x y H Q\/i x y H Q:=by
 intro d c j s k H x y v u Q I g e q f;rcases q with q|q;.exact h _ _ _ s k H x y v u Q I g e q f
 .exact h' _ _ _ s k H x y v u Q I g e q f
def ail{r}(k:IxR X r)(d:PE X a ta)(i:PE X b tb)(g:kT b):PE X (.Subscript a b pos) (tOp r ta tb):=by intro c s l H Q I h;exact Subscript_ (apQ d i I h λv u n x y m e j f q=>k a b _ _ l _ x y v u Q e j f q (g _ _))
def aqM(K:W.Frag):R2:=λx y H Q=>∃p c i v,x=.ref p/\y=.int i/\SqL K H p c/\atI c i=some v/\Q v H
def aqf(K:W.Frag):R2:=λx y H Q=>∃p c i v,x=.ref p/\y=.int i/\SqT K H p c/\atI c i=some v/\Q v H
def aiW:IxR X (aqM X.K):=by
 intro l k c s B H x y v u Q I O N h A;obtain⟨p,S,i,z,rfl,rfl,M,C,q⟩:=h;cases O;obtain⟨t,rfl⟩:=N;obtain⟨f,r,g,P⟩:=I.list M;obtain⟨j,d,G,T,K,J⟩:=aec C;obtain⟨w,n,e⟩:=r.get G;have E:=r.length;have R:=yw;have fin:EP X c B Q w s:=⟨z,H,I,e,q⟩;by_cases o:0<=i
 .have m:i.toNat=j:=by rw[seqIndex_of o J]at d;exact arK d
  exact item_listR g.isList o (by omega) (by rw[m];simpa using n) fin A
 .have m:(i+(f.toArray.size:Int)).toNat=j:=by rw[seqIndex_neg (by omega) K]at d;rw[asb,<-E];exact arK d
  exact subscriptTail_builtinR (x:=w) g.isList.typeIs slot_list_getitem.lookup (wpAny_getItem_list_neg (Q:=λr D=>r=w/\EP X c B Q r D) g.isList (by omega) (by rw[asb]<;>omega) (by omega) (by rw[m];simpa using n) ⟨rfl,fin⟩) A
def agR:IxR X (aqf X.K):=by intro e d g s P H x y v u Q I B o h A;obtain⟨p,E,i,z,rfl,rfl,n,l,q⟩:=h;cases B;obtain⟨t,rfl⟩:=o;obtain⟨k,r,f,C⟩:=I.tuple n;obtain⟨j,G,m,K,O,N⟩:=aec l;obtain⟨w,J,c⟩:=r.get m;have M:=r.length;have D:=yw;exact subscriptTail_builtinR f.typeIs slot_tuple_getitem.lookup (getItem_tuple (j:=j) f (by omega) (by omega) (by grind) (by grind) ⟨rfl,⟨z,H,I,c,q⟩⟩) A
theorem Inv.lst{pins:List (Addr×Obj)}{σ:St}{H:Hp}{s:Shared}{p:Addr}{xs:List V}(I:Inv X pins σ H s)(h:H p=some (.lst xs)):∃(its:List Value)(n:Nat),Vals xs its/\s.heap.get? p=some {cls:=.type "list",data:=.seq its.toArray n}/\xs.length<=sizeLine:=by obtain⟨z,its,n,r,e⟩:=I.hok p _ h;exact⟨its,n,r,e,z⟩
def sE(lo c)(n):(sliceBounds lo c none n).1=(HT.sIx n 0 lo:Nat)/\(sliceBounds lo c none n).2.1=(HT.sIx n n c:Nat)/\(sliceBounds lo c none n).2.2=1:=by
 refine⟨?_,?_,rfl⟩;.cases lo with|none=>simp[sliceBounds,HT.sIx]|some i=>
  simp only[sliceBounds,HT.sIx,Option.getD_none,show(1:Int)>0 by decide,asI];by_cases h:i<0;.simp only[h,asI]<;>omega
  .simp only[h,atb]<;>omega
 .cases c with|none=>simp[sliceBounds,HT.sIx]|some i=>
  simp only[sliceBounds,HT.sIx,Option.getD_none,show(1:Int)>0 by decide,asI];by_cases h:i<0;.simp only[h,asI]<;>omega
  .simp only[h,atb]<;>omega
def qq(its:List Value)(lo c):slicePick its.toArray lo c none=((its.drop (HT.sIx its.length 0 lo)).take (HT.sIx its.length its.length c-HT.sIx its.length 0 lo)).toArray:=by obtain⟨d,e,f⟩:=sE _ _ _;unfold slicePick;rw[d,e,f];simp only[sliceRange_one,pick_run,asb]
def aqe(K:W.Frag):V->Option Int->Option Int->Hp->VK->Prop:=λx lo d H Q=>∃a c,x=.ref a/\SqL K H a c/\∀p,H p=none->Q (.ref p) (upd H p (.lst (ajT c lo d)))
def abB:SlR X (aqe X.K):=by intro f s y H x v u w lo p t Q I n k l j h;refine l5 h λa m d o q=>?_;subst d;cases n;refine ju (I.list o) λi r e g=>?_;have c:=r.length;refine iG "list" _ slot_list_getitem.lookup e.isList.typeIs (wpAny_getItem_list_slice e.isList k l j .none (by simp) ?_ (by grind));rw[qq,<-c];refine iG (.ref s.heap.objs.size) _ (I.laid (λb ob q=>arf _ q) (arn _) ?_) rfl (q _ (I.hok.fresh (arn _)));exact⟨arq (oa m lo p) g,_,0,(r.drop _).take _,aru _ rfl⟩
def uX:ba X (.builtin "len") λk H Q=>∃p c,k=[.ref p]/\(SqL X.K H p c\/SqT X.K H p c)/\Q (.int c.length) H:=by
 intro l s v H k o Q I r h;refine l5 h λp c f e q=>?_;subst f;obtain⟨u,rfl,n⟩:=vals1 r;cases n;have t:=yw;rcases e with e|e;.obtain⟨g,j,i,m⟩:=I.list e;have d:=j.length;exact Calls.call_len_list i.isList (by grind) ⟨.int c.length,H,I.tok _,⟨s.toks+1,by grind⟩,q⟩
 .obtain⟨g,j,i,m⟩:=I.tuple e;have d:=j.length;exact len_tuple i (by grind) ⟨.int c.length,H,I.tok _,⟨s.toks+1,by grind⟩,q⟩
def uW:ba X (.builtin "len") λd H Q=>∃z,d=[.str z]/\z.length<=sizeLine/\Q (.int z.length) H:=by intro e s j H d f Q I r h;refine ju h λz c g q=>?_;subst c;obtain⟨u,rfl,t,rfl⟩:=vals1 r;have i:=yw;exact len_str (by omega) (iG (.int _) H (I.tok _) ⟨_,rfl⟩ q)
def ba.or{f r e}(h:ba X f r)(h':ba X f e):ba X f λc H Q=>r c H Q\/e c H Q:=by
 intro g s i H c j Q I d q;rcases q with q|q;.exact h _ s i H _ _ Q I d q
 .exact h' _ s i H _ _ Q I d q
def lK:ba X (.type "list") λC H Q=>∃p g,C=[.ref p]/\(SqL X.K H p g\/SqT X.K H p g)/\∀l,H l=none->Q (.ref l) (upd H l (.lst g)):=by
 intro t s E H C G Q I r h;refine l5 h λp g w v q=>?_;subst w;obtain⟨u,rfl,D⟩:=vals1 r;cases D;have fin:∀(c:List Value),Vals g c->g.length<=sizeLine->∀(d:Heap)(i:Nat),(∀b B,s.heap.get? b=some B->d.get? b=some B)->d.get? s.heap.objs.size=some _->EP X t E Q _ _:=λc f j d i m e=>(iG (.ref s.heap.objs.size) _ (I.laid (t':=s.toks) m (arn _) (show dh X.prog X.w _ d _ (.lst g)from⟨j,c,i,f,e⟩)) rfl (q _ (I.hok.fresh (arn _))));rcases v with v|v;.obtain⟨c,f,x,j⟩:=I.list v;have k:=f.length;obtain⟨o,z,y,n,A⟩:=x.isList;exact call_list_seq p (.inl rfl) z y A (λd i m e=>fin c f j d i m e) (by grind)
 .obtain⟨c,f,x,j⟩:=I.tuple v;have k:=f.length;obtain⟨o,z,y,n,A⟩:=x;exact call_list_seq p (.inr rfl) z y A (λd i m e=>fin c f j d i m e) (by grind)
def rQ:ba X (.type "tuple") λn H Q=>∃p c,n=[.ref p]/\((SqL X.K H p c/\∀l,H l=none->Q (.ref l) (upd H l (.tup c)))\/SqT X.K H p c/\Q (.ref p) H):=by
 intro t s A H n y Q I r h;obtain⟨p,c,rfl,h⟩:=h;obtain⟨u,rfl,x⟩:=vals1 r;cases x;rcases h with⟨f,q⟩|⟨f,q⟩;.obtain⟨d,i,g,j⟩:=I.list f;have m:=i.length;refine call_tuple_list g.isList (λz w=>?_) (by grind);have k:=I.kept (t':=s.toks) w;have v:=k.laid (t':=s.toks) (λb o e=>arf _ e) (arn _) (show dh _ X.w _ _ _ (.tup c)from⟨j,d,i,IsTup.new _ _⟩);exact iG (.ref _) _ v rfl (q _ (k.hok.fresh (arn _)))
 .obtain⟨d,i,g,j⟩:=I.tuple f;exact call_tuple_same g (iG (.ref p) H I rfl q)
def tyV(K:W.Frag)(T:String)(x:V)(H:Hp):Prop:=match x with|.str _=>T="str"|.int _=>T="int"|.ref p=>(T="list"/\∃d,SqL K H p d)\/(T="tuple"/\∃o,K.lookup p=some o/\o.cls=.type "tuple"/\o.dict=none)\/T="dict"/\((∃c,H p=some (.dK c))\/∃c,H p=some (.dT c))\/T="set"/\∃S n,H p=some (.set S n)|_=>False
def akw{pins}{σ:St}{H s T x v}(I:Inv X pins σ H s)(r:RelV x v)(ty:tyV X.K T x H):
 s.TypeIs v T/\∀a,v=.ref a->∃ob,s.heap.get? a=some ob/\ob.dict=none:=by cases x with|str z=>obtain⟨t,rfl⟩:=r;cases show T="str"from ty;exact⟨atX s z t,λ_ e=>nomatch e⟩|int i=>obtain⟨t,rfl⟩:=r;cases show T="int"from ty;exact⟨typeIs_int s i t,λ_ e=>nomatch e⟩|ref p=>
  cases r;rcases ty with⟨rfl,q,m⟩|⟨rfl,o,d,k,h⟩|⟨rfl,d⟩|⟨rfl,S,n,d⟩;.obtain⟨l,_,j,_⟩:=I.list m;refine⟨j.isList.typeIs,λa e=>?_⟩;cases e;obtain⟨o,n,e,c,h,_⟩:=j;exact⟨o,e,h⟩
  .refine⟨⟨o,I.kIn p o d,k⟩,λa e=>?_⟩;cases e;exact⟨o,I.kIn _ o d,h⟩
  .have z:∃o,s.heap.get? p=some o/\o.ExactDict:=by
    rcases d with⟨g,d⟩|⟨g,d⟩;.obtain⟨_,_,_,_,o,_,_,e,ex,_⟩:=I.hok p _ d;exact⟨o,e,ex⟩
    .obtain⟨_,_,_,_,o,_,_,e,ex,_⟩:=I.hok p _ d;exact⟨o,e,ex⟩
   obtain⟨o,e,ex⟩:=z;refine⟨⟨o,e,ex.1⟩,λa f=>?_⟩;cases f;exact⟨o,e,ex.2.1⟩
  .obtain⟨o,_,_,_,e,ex,_⟩:=I.hok p _ d;refine⟨⟨o,e,ex.1⟩,λa f=>?_⟩;cases f;exact⟨o,e,ex.2.1⟩|_=>exact False.elim ty
def tBM(K:W.Frag)(T:String)(r:V->List V->Hp->VK->Prop)(e:TE)(t:TA):TE:=λd H Q=>e d H λx c=>tyV K T x c/\t d c λf g=>r x f g Q
variable{o e:Expr}{es:List Expr}{to:TE}{t:TA}{name:Str}{apos cpos:Pos}{T id:String}{r:V->List V->Hp->VK->Prop}
def i4(y:PlainAttrs T)(j:Slot T name id)(k:typeOf (.builtin id)=pure (.type "method_descriptor"))(C:MtR X id r)(M:PE X o to)(z:PA X (e::es) t)(f:attributeBase o name X.env (eval o X.env)=eval o X.env:=by rfl)(i:((backTo cpos (starEach (e::es) X.env)).all (λx=>!x.1)&&(backToKw cpos (keywordEach [] X.env)).all (λx=>x.1.isSome)&&decide ((e::es).length+([]:List Keyword).length+(if([]:List Keyword).isEmpty then 0 else 1)<30))=true:=by rfl)(g:(apos.endLine==cpos.line)=true:=by rfl)(J:SE X e es:=by rfl)(d:BT X cpos es:=by rfl):PE X (.Call (.Attribute o name apos) (e::es) [] cpos) (tBM X.K T r to t):=by intro c s l H Q I h;refine wpAny_Call_method_late f i g rfl (thn (M c s l H _ I h) λv G⟨x,u,n,p,ty,N⟩=>?_);obtain⟨K,P⟩:=akw n p ty;refine⟨T,id,y,j,k,K,P,?_⟩;have m:=z cpos c G l u _ n N;rw[J]at m⊢;refine Calls.callWith_builtin (by show(false||(backTo cpos (starEach es X.env)).any (·.1))=false;rw[d]<;>rfl) (Calls.evalArgs_plain ?_);exact thn m λw E⟨A,B,D,O,q⟩=>C c E l B x A v w Q D p O q
end
def MtM(X:Cx)(id:String)(r:V->List V->Hp->VK->Prop):Prop:=∀(a:List (Addr×Obj))(s:Shared)(d:St)(H:Hp)(x:V)(c:List V)(v:Value)(b:List Value)(Q:VK),Inv X a d H s->RelV x v->Vals c b->r x c H Q->wpAny (model X.prog X.w) X.A (call (.builtin id) (v::b)) (EP X a d Q) X.xe s
def Vals.one:∀{x us},Vals [x] us->∃u,us=[u]/\RelV x u|_,_,.cons r .nil=>⟨_,rfl,r⟩
section
variable{X:Cx}{pins:List (Addr×Obj)}{σ:St}{H:Hp}{s:Shared}{l:Addr}{xs ys:List V}
def Inv.aqS{its its':List Value}{n f t'}(I:Inv X pins σ H s)(a:H l=some (.lst xs))(e:s.heap.get? l=some {cls:=.type "list",data:=.seq its.toArray n})(g:f its.toArray=its'.toArray)(d:Vals ys its')(hz:ys.length<=sizeLine):Inv X pins σ (upd H l (.lst ys)) {s with heap:=s.heap.update l (Obj.mapSeq f),toks:=t'}:=by have q:=PySem.IsL.update e f;rw[g]at q;refine I.write (by rw[a];exact trivial) (.inl rfl) (λi u h c=>(arU _ _ (arz h)).trans c) ⟨_,q⟩ ?_;exact⟨hz,_,_,d,q⟩
def Inv.apk{its t'}(I:Inv X pins σ H s)(a:Vals ys its)(hz:ys.length<=sizeLine):Inv X pins σ (upd H s.heap.objs.size (.lst ys)) {s with heap:=s.heap.push {cls:=.type "list",data:=.seq its.toArray},toks:=t'}:=I.laid (λ_ _ q=>arf _ q) (arn _) ⟨hz,_,0,a,aru _ rfl⟩
theorem Inv.fresh(I:Inv X pins σ H s):H s.heap.objs.size=none:=I.hok.fresh (arn _)
def Inv.aqR(I:Inv X pins σ H s)(c:H l=some (.lst xs)):xs.length<=sizeLine/\∃a n,Vals xs a/\xs.length=a.length/\s.heap.get? l=some {cls:=.type "list",data:=.seq a.toArray n}:=by obtain⟨z,a,n,r,e⟩:=I.hok l _ c;exact⟨z,_,n,r,r.length,e⟩
end
section
variable{X:Cx}
def nr:V->List V->Hp->VK->Prop:=λx b H Q=>∃l a y,x=.ref l/\b=[y]/\H l=some (.lst a)/\a.length<sizeLine/\Q .non (upd H l (.lst (a++[y])))
def cX:MtM X "list.append" nr:=by intro d s w H x o v k Q I g j h;refine am8 h λl p y a b c m q=>?_;subst a b;cases g;obtain⟨u,rfl,i⟩:=j.one;obtain⟨z,f,n,r,t,e⟩:=I.aqR c;refine atA F.slot_list_append ⟨_,e,rfl⟩ F.entry_list_append (F.args_list_append_2 _ _) (PySem.list_append l _ n u (by grind)) ⟨e,.non,_,I.aqS c e (by simp) (r.append (.cons i .nil)) ?_,rfl,q⟩;rw[ar7,atQ];omega
end
end L2
namespace Att
open PySem PySem.W PySem.Calls PyProof.Rows
def nW{P h}:∀c d,WellAll P h d (c.map WData.int)->IntsAre d c:=by intro c;induction c with|nil=>intro d w;cases w;exact .nil|cons n c ih=>intro d w;cases w with|cons a b=>cases a;exact .cons _ _ (ih _ b)
def abE{l:OpenLaw}{n}(p:l.most=some n){P h args c}(b:l.row.toRowW.claim.pre args=true)(j:WellAll P h c args):∃a m e,c=[Value.ref a]/\args=[WData.list (e.map WData.int)]/\h.get? a=some {cls:=.type "list",data:=.seq m.toArray}/\IntsAre m e/\e.length<=n:=by
 have k:l.pre.holds [] {args:=args}=true:=(pre_splitW b).2;refine l5 (hasAllW_cons (pre_splitW b).1) λd r i s u=>?_;subst i;obtain rfl:=hasAllW_nil u;obtain⟨v,rfl,t⟩:=hasW_list s;obtain⟨e,rfl⟩:=items_int t;have f:e.length<=n:=by
  unfold OpenLaw.pre at k;have g:=by have g:=(holds_andW k).1;rw[p]at g;exact g
  have o:=condW_of g (w_not (w_lt w_lit (w_len_list (w_arg rfl))));rw[arB]at o;refine auH λq=>?_;(simp at o;omega)
 cases j with|cons w1 w2=>cases w2;cases w1 with|list ho hall=>exact ana _ _ e rfl rfl ho (nW e _ hall) f
def ab6(l:OpenLaw)(a):l.row.toRowW.claim.post a (.bool true) a=true:=postW_of (rfl) (w_eq_bool (w_res rfl) w_lit) rfl
def xa{l:OpenLaw}{n q c J M d}(O:l.most=some n)(A:d.params.defaults=[])(call:∀w e b v E s o D u i a j x,Ground q c [] J w e v E b.heap->M w b.heap->b.heap.get? s=some o->o.data=.func (docDef d.name d.params d.body d.scope D u i)->b.heap.CodeRec u d.name->v d.name=some (.ref s)->b.heap.get? a=some {cls:=.type "list",data:=.seq j.toArray}->IntsAre j x->x.length<=n->b.gens=#[]->codeAny (model l.prog w) callerA (.call (.ref s) ⟨[.ref a],[]⟩) (λr t=>r=.ok (.ret (.bool true))/\OldK b.heap t.heap/\t.os=b.os/\AllBare t.gens) b):WalkO q c J M l.row.toRowW d [] λf j=>PySem.call f j:=by intro w e b v E G Y s o D u i Z kV ho hd z H y P K N as p I S B Q;obtain rfl:Z=.none:=Dflts.none H A;obtain rfl:kV=.none:=Dflts.noKw H;refine am8 (abE O p B) λa j x g C m h k=>?_;subst g C;refine enter_call (att (call w e b v E s o D u i a j x G Y ho (fd_plain hd) z y m h k P) λr t hq=>?_);refine anS hq λg T R U=>?_;subst g;exact⟨.inl (ana _ (.bool true) [] rfl (λ_=>rfl) (.bool true) (ab6 l _) λ_=>⟨List.Pairwise.nil,λ_ X=>nomatch X⟩),T,R,U⟩
end Att
namespace L2
open PySem PySem.Spec PyProof.Rows
theorem se:∀{vs ns},IntsAre vs ns->Vals (ns.map V.int) vs|_,_,.nil=>.nil|_,_,.cons n t h=>.cons ⟨t,rfl⟩ (se h)
def apY(H:Hp):Prop:=∀b,H b=none\/∃o a,H b=some (.frz o (.lst a))
def afs{P w K J R CX k X a Z x sp c vs ns}(KX:K.In c.heap)(I:c.heap.Ns mainGlobals J)(g:c.heap.Ns builtinsNs R)(S:∀x:Str,x≠"__name__"->R x=bootBuiltins x)(G:c.heap.NoLimit)(hg:c.gens=#[])(Y:c.heap.get? a=some {cls:=.type "list",data:=.seq vs.toArray})(hi:IntsAre vs ns)(hl:ns.length<=sizeLine)(hr:Room k callerA)(F:∀i,K.In i->i.Ns mainGlobals J->FnOk P w K J i CX k X Z [x] sp)(t:∀s u,BindsTo s Z ⟨[u],[]⟩ [(x,u)])(U:∀H,apY H->SqL K H a (ns.map V.int)->sp [.ref a] H (λv _=>v=.bl true) λ_ _ _=>False)(T:∀H e j,CX [] H c (λ_ _ _=>False) e j->False):codeAny (model P w) callerA (.call (.ref X) ⟨[.ref a],[]⟩) (λr j=>r=.ok (.ret (.bool true))/\OldK c.heap j.heap/\j.os=c.os/\AllBare j.gens) c:=by
 have rv:=se hi;have A:=hi.length;-- from an abstract heap in which nothing but the script may be tracked
 have p:∀H:Hp,apY H->SqL K H a (ns.map V.int)->HOk P w H c.heap->(∀b,H b≠none->b=a)->(H a≠none->K.lookup a=none)->codeAny (model P w) callerA (.call (.ref X) ⟨[.ref a],[]⟩) (λr j=>r=.ok (.ret (.bool true))/\OldK c.heap j.heap/\j.os=c.os/\AllBare j.gens) c:=by
  intro H hO hS B hA hK;have f:∀{b:Addr}{o:Obj},c.heap.get? b=some o->H b=none->(afG c.heap H).get? b=some o:=λe n=>afF e n;have Q:∀{b:Addr}{o:Obj}{N:Array DictEntry}{M:Nat},c.heap.get? b=some o->o.data=.dict N M->H b=none:=λ{b o N M}e d=>by grind
  have l:∀{b:Addr}{m:Str->Option Value},c.heap.Ns b m->(afG c.heap H).Ns b m:=λ{b m}⟨o,N,M,e,d,r⟩=>⟨o,N,M,f e (Q e d),d,r⟩;have E:K.In (afG c.heap H):=λb o e=>f (KX b o e) (by cases q:H b with|none=>rfl|some u=>have e':b=a:=hA b (by rw[q];simp);subst e';rw[hK (by rw[q];simp)]at e;cases e);have hM:Mod K J (afG c.heap H):=⟨E,l I,⟨R,l g,S⟩,let⟨mc,h1,h2⟩:=G;⟨mc,l h1,h2⟩⟩;have e0:Env0 P w K J (afG c.heap H) callerA [] c H:=⟨rfl,hM,λb o e=>aiE e,auB (adg _ _),trivial,λb g=>absurd (show b∈([]:List Addr)from g) (by simp),B,.of_eq hg⟩;refine att ((F _ E (l I)).run callerA [] c H ⟨[.ref a],[]⟩ [.ref a] [.ref a] _ _ hr trivial e0 (t c (.ref a)) (.cons rfl .nil) (U H hO hS)) λr j h=>?_;cases r with|error e=>exact(T H e j h).elim|ok fl=>cases fl with|next|brk|cont=>exact False.elim h|ret u=>obtain⟨v,H',os,D,un,C,r',q⟩:=h;have q':v=.bl true:=q;subst q';obtain rfl:u=Value.bool true:=r';refine⟨rfl,OldK.of_keep λb o e=>?_,os,D⟩;cases q:H b with|none=>exact un.keep b o e q (by intro z;exact absurd (show b∈([]:List Addr)from z) (by simp)) (by simp)|some u=>
     rcases hO b with z|⟨ob,xs,z⟩;.rw[q]at z;cases z
     .have z2:=un.frzs b ob _ z;obtain⟨e1,_⟩:=B b _ z;obtain⟨e2,_⟩:=C b _ z2;rw[e]at e1;cases e1;exact e2
 cases O:K.lookup a with|some o=>-- the script is one of the module's own objects
 have e:=KX a o O;rw[Y]at e;cases e;refine p (λ_=>none) (λ_=>.inl rfl) (.inr ⟨_,vs.toArray,_,O,rfl,rfl,rfl,by rw[asb,A];exact hl,by simpa using rv⟩) (λb u z=>by have y:(none:Option HO)=some u:=z;cases y) (λb z=>absurd rfl z) λz=>absurd rfl z|none=>
  refine p (λb=>if b=a then some (.frz {cls:=.type "list",data:=.seq vs.toArray} (.lst (ns.map V.int)))else none) (λb=>?_) (.inl (.inr ⟨{cls:=.type "list",data:=.seq vs.toArray},arj rfl⟩)) (λb u z=>?_) (λb z=>?_) λ_=>O
  .by_cases g:b=a;.exact .inr ⟨_,_,arj g⟩
   .exact .inl (arl g)
  .by_cases g:b=a;.have y:=(arj g).symm.trans z;cases y;subst g;exact⟨Y,by rw[arB];exact hl,vs,_,rv,Y⟩
   .have y:=(arl g).symm.trans z;cases y
  .by_cases g:b=a;.exact g
   .exact absurd (arl g) z
def ahD{l:W.OpenLaw}{n k q i X N d}{K:Params->W.Frag}{CX:World->CXT}{sp:World->Sp}{x}(O:l.most=some n)(z:n<=sizeLine)(B:d.params.defaults=[])(Q:Room k callerA)(R:∀w h,N w h->(K w.params).In h)(F:∀w j r h,(K w.params).In h->h.Ns mainGlobals j->j d.name=some (.ref r)->∃D,(∀s u,BindsTo s D ⟨[u],[]⟩ [(x,u)])/\∀b,(K w.params).In b->b.Ns mainGlobals j->FnOk l.prog w (K w.params) j b (CX w) k r D [x] (sp w))(E:∀w H a(t:List Int),t.length<=n->apY H->SqL (K w.params) H a (t.map V.int)->sp w [.ref a] H (λv _=>v=.bl true) λ_ _ _=>False)(C:∀w H s e A,CX w [] H s (λ_ _ _=>False) e A->False):W.WalkO q i X N l.row.toRowW d [] λf I=>PySem.call f I:=by refine Att.xa O B λw M m j mb r o pm cd U a I t G Y ho hd T y p g c P=>?_;have J:=R w _ Y;refine gb (F w j r _ J G.T.g y) λD S hF=>?_;exact afs J G.T.g G.T.b G.T.builtins G.T.nolimit P p g (arq c z) Q hF S (λH Z hS=>E w H a t c Z hS) λH e A=>C w H m e A
noncomputable def bC(s:Stmt):Arguments:=match s with|.FunctionDef _ a _ _ _ _ _ _ _ _=>a|_=>{posonlyargs:=[],args:=[],vararg:=none,kwonlyargs:=[],kw_defaults:=[],kwarg:=none,defaults:=[]}
noncomputable def aD(s:Stmt):List Stmt:=match s with|.FunctionDef _ _ b _ _ _ _ _ _ _=>b|_=>[]
noncomputable def af(s:Stmt):Scope:=match s with|.FunctionDef _ _ _ _ _ _ sc _ _ _=>sc|_=>{kind:=.function,names:=[],isGenerator:=false,isCoroutine:=false}
abbrev CX0:CXT:=λ_ _ _ _ _ _=>False
abbrev E0:XK:=λ_ _ _=>False
def aiq{X}:Passes CX0 X E0:=λ_ _ _ _ _ _ _ h=>h.elim
structure Fun(K:W.Frag)(x qual:Str)(st:Stmt)(f:Addr)(fd:FuncData):Prop where
 ex:∃(oc:Value)(od:Option Addr)(kV doc pm:Value)(an:Option Addr)(cdv ct:Value)(osl:Array (Option Value)),fd=W.fnOf x qual (bC st) (aD st) (af st) .none kV doc pm an cdv ct/\K.lookup f=some ⟨oc,od,.func fd,osl⟩/\W.codeIn K cdv qual=true
 kp:W.keepIn K (.ref f)=true
section
variable{P:Program}{w:World}{K:W.Frag}{mg:Str->Option Value}{base:Heap}
def Fun.ok{x a st f l N ps k sp}(F:Fun K x a st f l)(S:FnScope N ps (af st))(len:∀e H Q E,sp e H Q E->e.length=ps.length)(c:∀d A b s H e Q E,Room k (A.deeper (envOfC a (af st) s.heap.objs.size f d))->sp e H Q E->∃t,PSs (dG CX0 P w K mg base N a (af st) f d A b s H E).nox (aD st) t/\t {nx:=λ_ o=>Q .non o,rt:=Q} (start N e) H):FnOk P w K mg base CX0 (k+1) f l ps sp:=by refine age F.ex λy od kV n v u d ct p g m i=>?_;subst g;refine uD m i S len λA b s H e Q E r _ j=>?_;obtain⟨t,h,q⟩:=c _ A _ s H _ Q E r j;exact⟨t,h.nox,q⟩
def Fun.binds{x a st f g ps}(F:Fun K x a st f g)(h:∀kV b j i c ct e,e.length=ps.length->bindArgs (W.fnOf x a (bC st) (aD st) (af st) .none kV b j i c ct) ⟨e,[]⟩=pure (ps.zip e)):Binds K g ps []:=by refine age F.ex λn od kV b j i c ct l d m k=>?_;subst d;exact .all (h _ _ _ _ _ _)
def adj{x a st f i od e g kV d h b ct}(l:K.lookup f=some ⟨i,od,.func (W.fnOf x a (bC st) (aD st) (af st) .none kV d h e b ct),g⟩)(c:W.codeIn K b a=true)(k:W.keepIn K (.ref f)=true):Fun K x a st f (W.fnOf x a (bC st) (aD st) (af st) .none kV d h e b ct):=⟨⟨i,od,kV,_,h,e,_,ct,_,rfl,l,c⟩,k⟩
end
section
variable{X:Cx}
def pv(i){x pos}(d:X.N[i]?=some x:=by rfl)(b:Vis X.env.scope x:=by first|exact Or.inl rfl|exact Or.inr (Or.inl rfl)|exact Or.inr (Or.inr rfl))(c:Dbg x:=by decide)(a:(x=="__classdict__")=false:=by decide):PE X (.Name x pos) (eF i):=acf d b c a
end
def av(H H':Hp):Prop:=∀b o,H b=some o->H' b=some o
def av.refl(H):av H H:=λ_ _ h=>h
def av.trans{H d e}(a:av H d)(b:av d e):av H e:=λc o h=>b c o (a c o h)
def av.free{H H'}(e:av H H'){l}(h:H' l=Option.none):H l=Option.none:=by cases q:H l with|none=>rfl|some o=>rw[e l o q]at h;cases h
def av.seq{K H H' a xs}(e:av H H')(h:SqL K H a xs):SqL K H' a xs:=by
 rcases h with(h|⟨o,h⟩)|h;.exact .inl (.inl (e _ _ h))
 .exact .inl (.inr ⟨o,e _ _ h⟩)
 .exact .inr h
end L2
set_option maxHeartbeats 4000000
set_option autoImplicit true
set_option relaxedAutoImplicit true
namespace L2
open PySem PySem.Spec PyProof.Rows
noncomputable def dc(a:List (Str×Addr)):List (Str×NameKind)->List (Str×Addr)->List (Str×Addr)|[],acc=>acc|(n,k)::r,acc=>if k==.free then match a.lookup n with|some c=>dc a r ((n,c)::acc)|none=>dc a r acc else dc a r acc
def gD (h:∀y∈scope.names,y.2=.free->(env.cells.lookup y.1).isSome=true):closureFor scope env=pure (dc env.cells scope.names []):=by
 have all:∀(a:List (Str×NameKind))(b:List (Str×Addr)),(∀y∈a,y.2=.free->(env.cells.lookup y.1).isSome=true)->(forIn a b λ(x:Str×NameKind)r=>match x with|(name,kind)=>if(kind==NameKind.free)=true then do let c <-cellOf env name;pure (ForInStep.yield ((name,c)::r))else pure (ForInStep.yield r))=pure (dc env.cells a b):=by intro a;induction a with|nil=>intro b _;rfl|cons y r ih=>
   intro b j;obtain⟨n,k⟩:=y;rw[List.forIn_cons];have l:=λd=>ih d λz m=>j z (arH _ m);by_cases f:(k==NameKind.free)=true
   .have g:k=.free:=by simpa using f
    obtain⟨c,i⟩:=ase.mp (j (n,k) arD g);have o:cellOf env n=pure c:=by unfold cellOf;rw[i]
    simp only[dc,f,asI,i];rw[o];simpa using l ((n,c)::b)
   .simp only[dc,f,atb];simpa using l b
 have e:=all scope.names [] h;unfold closureFor;(simpa using e)
theorem cD :∀b a,(dc cells b a).lookup x=some c->a.lookup x=some c\/cells.lookup x=some c
|[],a,h=>.inl h|(n,k)::r,a,h=>by
 unfold dc at h;split at h;.cases e:cells.lookup n with|none=>rw[e]at h;exact cD r _ h|some d=>
  rw[e]at h;rcases cD r _ h with q|q
  .rw[ar9]at q;split at q;.exact .inr (by grind)
   .exact .inl q
  .exact .inr q
 .exact cD r _ h
theorem gE :∀b(a:List (Str×Addr)),(a.lookup x).isSome=true->((dc cells b a).lookup x).isSome=true
|[],a,h=>h|(n,k)::r,a,h=>by
 unfold dc;split;.cases e:cells.lookup n with|none=>exact gE r _ h|some d=>
  refine gE r _ ?_;rw[ar9];split;.rfl
  .exact h
 .exact gE r _ h
theorem kM :∀a f,(x,NameKind.free)∈a->(cells.lookup x).isSome=true->((dc cells a f).lookup x).isSome=true
|(n,k)::r,f,g,b=>by
 rcases arx.mp g with e|g;.cases e;obtain⟨c,b⟩:=ase.mp b;unfold dc;simp only[b];refine gE r _ ?_;simp
 .unfold dc;split;.cases e:cells.lookup n with|none|some d=>exact kM r _ g b
  .exact kM r _ g b
theorem bU{a:Env}{x}:∀{b:List (Str×NameKind)}{k},(b.map λ(n,k)=>if k==NameKind.free&&a.scope.kind==.function&&a.kindOf n==some .cell then(n,NameKind.cell)else(n,k)).lookup x=some k->b.lookup x=some k\/k=.cell/\b.lookup x=some .free
|[],_,h=>by simp at h|(n,k0)::r,k,h=>by
  have g:=@bU a x r k;have c:List.lookup x ((if(k0==NameKind.free&&a.scope.kind==.function&&a.kindOf n==some .cell)=true then(n,NameKind.cell)else(n,k0))::r.map λ(n,k)=>if k==NameKind.free&&a.scope.kind==.function&&a.kindOf n==some .cell then(n,NameKind.cell)else(n,k))=some k:=h
  cases e:x==n with|true=>
   rw[ar9,e];by_cases d:(k0==NameKind.free&&a.scope.kind==.function&&a.kindOf n==some .cell)=true
   .rw[arj d,ar9,e]at c;have f:k0=.free:=by simp only[ary]at d;simpa using d.1.1
    cases c;exact .inr ⟨rfl,by rw[f]⟩
   .rw[arl d,ar9,e]at c;exact .inl c|false=>
   rw[ar9,e];by_cases d:(k0==NameKind.free&&a.scope.kind==.function&&a.kindOf n==some .cell)=true;.rw[arj d,ar9,e]at c;exact g c
   .rw[arl d,ar9,e]at c;exact g c
section
variable{X:Cx}{pins:List (Addr×Obj)}{σ:St}{H:Hp}{s:Shared}
def HOk.abj{P w h a o}(x:HOk P w H h)(f:H a=none)(new:dh P w (upd H a o) h a o):HOk P w (upd H a o) h:=λb u e=>by
 by_cases d:b=a;.subst d;rw[aj]at e;cases e;exact new
 .rw[ag d]at e;exact(x b u e).vd (λc v _ q=>q) (λc q=>by rw[ag (aL q f)];exact q) λc g q=>by rw[ag (aL q f)];exact q
theorem Inv.abj (I:Inv X pins σ H s)(hn:H a=none)(ha:X.s₀.heap.objs.size<=a)(hL:a≠X.env.locals)(hc:∀x c,X.env.cells.lookup x=some c->c≠a)(hp:∀p∈X.pn++pins,p.1≠a)(new:dh X.prog X.w (upd H a o) s.heap a o):Inv X pins σ (upd H a o) s where
 ok:=I.ok;os:=I.os;bare:=I.bare;base:=⟨I.base.keep,I.base.slot,λb u q n hx=>by rw[ag (arA (aro (ars q) ha))];exact I.base.free b u q n hx,I.base.there,λb xs q=>by have z:=I.base.tups b xs q;rw[ag (aL z hn)];exact z,λb u v q=>by have z:=I.base.frzs b u v q;rw[ag (aL z hn)];exact z,λb ps q=>by obtain⟨more,z⟩:=I.base.tbls b ps q;exact⟨more,by rw[ag (aL z hn)];exact z⟩⟩;loc:=I.loc;cell:=I.cell;free:=by rw[ag (arz hL)];exact I.free
 freeC:=λx c e=>by rw[ag (hc x c e)];exact I.freeC x c e
 pin:=λp hp'=>by obtain⟨e,n,r⟩:=I.pin p hp';exact⟨e,by rw[ag (hp p hp')];exact n,r⟩
 hok:=I.hok.abj hn new;len:=I.len
end
abbrev Cx.tri(X:Cx)(E:Value->Shared->Prop)(pn:List (Addr×Obj)):Cx:={X with xe:=E,pn:=pn}
theorem Cx.Ok.tri{X:Cx}(ok:X.Ok)(E)(a):(X.tri E a).Ok:=⟨ok.mod,ok.kind,ok.glob,ok.blt,ok.above,ok.inj,ok.has,ok.cab,ok.hd,ok.frames,ok.stk,ok.exf,ok.bs,ok.bsz,ok.noex,ok.exfs,ok.rW,ok.frf⟩
section
variable{X:Cx}{pins:List (Addr×Obj)}{σ:St}{H:Hp}{s:Shared}
theorem Inv.tri(I:Inv X pins σ H s)(E:Value->Shared->Prop):Inv (X.tri E (X.pn++pins)) [] σ H s:=⟨I.ok.tri E _,I.os,I.bare,I.base,I.loc,I.cell,I.free,I.freeC,λp a=>I.pin p (by simpa using a),I.hok,I.len⟩
end
noncomputable def hd1(y:Str):Str:=⟨y.cps.push 32⟩
def hid(scope:Scope)(y:Str):Str:=match scope.names.lookup y with|some .local=>hd1 y|_=>y
set_option tactic.hygienic true in
def amz (h:hid scope y=x):x=hd1 y/\scope.names.lookup y=some .local\/x=y/\scope.names.lookup y≠some .local:=by
 unfold hid at h;split at h;.rename_i e;exact .inl ⟨h.symm,e⟩
 .rename_i e;exact .inr ⟨h.symm,e⟩
abbrev Cx.comp(X:Cx)(scope:Scope)(C:Addr)(ts:List Str)(b:Shared)(a:Hp)(c:List Addr):Cx:={X with N:=ts++X.N.map (hid scope),s₀:=b,H₀:=a,env:=compEnvC scope (dc X.env.cells scope.names []) C X.env,outer:=X.stack,stack:=X.stack,ex:=c,fn:=λ_=>false,pn:=[],xe:=λ_ _=>False}
structure CompLook(X:Cx)(scope:Scope):Prop where
 kind:scope.kind=.function
 nocell:scope.names.all λy=>y.2!=.cell=true
 names:scope.names.all λy=>y.2!=.local||scope.names.lookup y.1==some .local=true
 free:scope.names.all λy=>y.2!=.free||X.env.scope.names.lookup y.1==some .cell||X.env.scope.names.lookup y.1==some .free=true
 apart:(scope.names.all λy=>(scope.names.lookup (hd1 y.1)).isNone)=true
structure CompScope(X:Cx)(scope:Scope)(ts:List Str):Prop where
 kind:scope.kind=.function
 nocell:∀y∈scope.names,y.2≠.cell
 names:∀y∈scope.names,y.2=.local->scope.names.lookup y.1=some .local
 free:∀y∈scope.names,y.2=.free->X.env.scope.names.lookup y.1=some .cell\/X.env.scope.names.lookup y.1=some .free
 apart:∀y∈scope.names,scope.names.lookup (hd1 y.1)=none
theorem CompLook.scope{X:Cx}{scope:Scope}{ts:List Str}(L:CompLook X scope):CompScope X scope ts where
 kind:=L.kind;nocell:=λy hy=>by simpa using arV.mp L.nocell y hy
 names:=λy hy e=>by have h:=arV.mp L.names y hy;rw[e]at h;simpa using h
 free:=λy hy e=>by have h:=arV.mp L.free y hy;rw[e]at h;simpa using h
 apart:=λy hy=>by simpa using arV.mp L.apart y hy
noncomputable def acF:List Str->Bool|[]=>true|x::r=>!(r.any λy=>decide (y=x))&&acF r
theorem yj:∀{N},acF N=true->N.Nodup|[],_=>List.nodup_nil|x::r,h=>by simp [acF]at h;exact asM.mpr ⟨λa=>h.1 x a rfl,yj h.2⟩
section
variable{X:Cx}{pins:List (Addr×Obj)}{σ:St}{H:Hp}{s:Shared}
def wX{scope:Scope}{ts:List Str}{C:Addr}{fp:List Addr}(S:CompScope X scope ts)(I:Inv X pins σ H s)(hf:∀b∈fp,yX X pins H b)(hfl:∀b∈fp,b<s.heap.objs.size)(hC:s.heap.objs.size<=C):(X.comp scope C ts s H fp).Ok where
 mod:=I.ok.mod;kind:=S.kind;glob:=I.ok.glob;blt:=I.ok.blt;above:=hC;inj:=λx y c e1 e2=>by have q1:=(cD scope.names [] e1).resolve_left (by simp);have q2:=(cD scope.names [] e2).resolve_left (by simp);exact I.ok.inj x y c q1 q2
 has:=λx hx=>by
  have hx':scope.names.lookup x=some .free:=by
   rcases hx with hx|hx
   .rcases bU hx with q|⟨_,q⟩;.exact absurd rfl (S.nocell _ (asa q))
    .exact q
   .rcases bU hx with q|⟨q,_⟩;.exact q
    .cases q
  have hm:=asa hx';obtain⟨c,hc⟩:=I.ok.has x (S.free _ hm rfl);exact ase.mp (kM scope.names [] hm (by rw[hc];rfl))
 cab:=λx c h _=>by cases h
 hd:=I.ok.hd;frames:=I.ok.frames;stk:=.inl rfl;exf:=λb hb=>⟨arA (aro (hfl b hb) hC),λx c e=>by have q:=(cD scope.names [] e).resolve_left (by simp);exact(hf b hb).2.2.2.2.1 x c q⟩;bs:=I.bs;bsz:=arq I.ok.bsz I.sz;noex:=λb o e hb=>by
  rcases(hf b hb).2.2.2.1 with z|z;.exact I.ok.noex b o e z
  .exact absurd (aro (ars e) (arq I.ok.bsz z)) (asP _)
 exfs:=λb hb z=>by
  rcases arx.mp (I.xJ b z)with e|e;.exact(hf b hb).2.1 e
  .exact(hf b hb).2.2.1 e
 rW:=I.stack;frf:=I.vw
def aas{scope:Scope}{ts:List Str}{C:Addr}{fp:List Addr}{s4:Shared}(S:CompScope X scope ts)(I:Inv X pins σ H s)(hf:∀b∈fp,yX X pins H b)(hfl:∀b∈fp,b<s.heap.objs.size)(hC:s.heap.objs.size<=C)(ho:s4.os=s.os)(hg:s4.gens=s.gens)(hk:∀b o,s.heap.get? b=some o->s4.heap.get? b=some o){m:Str->Option Value}(hn:s4.heap.Ns C m):Inv (X.comp scope C ts s H fp) [] (List.replicate ts.length none++σ) H s4 where
 ok:=wX S I hf hfl hC;os:=ho;bare:=by rw[hg];exact I.bare
 base:=Un.kept hk;loc:=⟨m,hn,λi x v e1 e2 e3=>by
  have hi:ts.length<=i:=by
   rcases Nat.lt_or_ge i ts.length with h|h;.rw[arO (by simpa using h),asF]at e2;simp[h]at e2
   .exact h
  rw[arQ (by simpa using hi)]at e2;rw[arQ hi]at e1;simp only[asN]at e2;rw[arL]at e1;obtain⟨y,ey,hy⟩:=arP.mp e1;have hv:scope.names.lookup x≠none:=by
   rcases e3 with q|q|q;.rcases bU q with q|⟨_,q⟩<;>(rw[q];exact nofun)
   .rcases bU q with q|⟨_,q⟩<;>(rw[q];exact nofun)
   .rcases bU q with q|⟨_,q⟩<;>(rw[q];exact nofun)
  have hxy:x=y/\scope.names.lookup y≠some .local:=by
   rcases amz hy with z|z;.exact absurd (by rw[z.1];exact S.apart _ (asa z.2)) hv
   .exact z
  have e1:X.N[i-ts.length]?=some x:=by rw[ey,hxy.1]
  have hap:scope.names.lookup x≠some .local:=by rw[hxy.1];exact hxy.2
  have hfree:scope.names.lookup x=some .free:=by
   rcases e3 with q|q|q
   .rcases bU q with q|⟨q,_⟩;.exact absurd q hap
    .cases q
   .rcases bU q with q|⟨_,q⟩;.exact absurd rfl (S.nocell _ (asa q))
    .exact q
   .rcases bU q with q|⟨q,_⟩;.exact q
    .cases q
  have hm:=asa hfree;have hk0:=S.free _ hm rfl;obtain⟨m0,_,hl⟩:=I.loc;obtain⟨u,r,l⟩:=hl (i-ts.length) x v e1 e2 (hk0.elim (λq=>.inr (.inl q)) λq=>.inr (.inr q));refine⟨u,r,?_⟩;rcases l with⟨kl,_⟩|⟨_,c,ec,z⟩
  .exfalso;have kl':X.env.scope.names.lookup x=some .local:=kl;rcases hk0 with q|q;.rw[q]at kl';cases kl'
   .rw[q]at kl';cases kl'
  .have kk:(X.comp scope C ts s H fp).env.kindOf x=some .cell\/(X.comp scope C ts s H fp).env.kindOf x=some .free:=by
    rcases e3 with q|q|q
    .rcases bU q with q|⟨q,_⟩;.exact absurd q hap
     .cases q
    .exact .inl q
    .exact .inr q
   obtain⟨c',ec'⟩:=(wX S I hf hfl hC).has x kk;have ec2:=(cD scope.names [] ec').resolve_left (by simp);rw[ec]at ec2;cases ec2;obtain⟨o,ho',hd⟩:=z;exact .inr ⟨kk,c,ec',o,hk _ o ho',hd⟩⟩;cell:=λx c e=>by have q:=(cD scope.names [] e).resolve_left (by simp);obtain⟨v,o,ho',hd⟩:=I.cell x c q;exact⟨v,o,hk _ o ho',hd⟩
 free:=I.hok.fresh hC;freeC:=λx c e=>I.freeC x c ((cD scope.names [] e).resolve_left (by simp));pin:=λp hp=>by cases hp
 hok:=I.hok.kept hk;len:=by rw[ar7,ar7,asN,I.len,arB]
end
section
variable{prog:Program}{w:World}{A:Around}{R:Result->Shared->Prop}{s:Shared}
def iF{u b y E scope pos it z a}(I:Nat->Shared->Prop)(turn:∀n s,I n s->wpAny (model prog w) A (pyNext it) (λr d=>match r with|none=>R (.ok .next) d|some v=>wpAny (model prog w) A (letOwnedTupleGo b it v) (λ_ g=>wpAny (model prog w) A (assign b a v) (λ_ p=>wpAny (model prog w) A (forIn E true λc r=>if r=true then do let ok <-isTrue c a (eval c a);pure (ForInStep.yield ok)else pure (ForInStep.yield r)) (λok i=>if ok=true then wpAny (model prog w) A (eval u a) (λx k=>wpAny (model prog w) A (call (.builtin "list.append") [z,x]) (λ_ o=>∃m,m<n/\I m o) (notedBy (model prog w) A a λe f=>R (.error e) f) k) (notedBy (model prog w) A a λe f=>R (.error e) f) i else∃m,m<n/\I m i) (notedBy (model prog w) A a λe f=>R (.error e) f) p) (notedBy (model prog w) A a λe f=>R (.error e) f) g) (notedBy (model prog w) A a λe f=>R (.error e) f) d) (notedBy (model prog w) A a λe f=>R (.error e) f) s)(n)(h:I n s):codeAny (model prog w) A (.compLoop (.ListComp u [⟨b,y,E,0⟩] scope pos) 0 it z a) R s:=by refine codeAny_loop rfl I (λn s G=>wpAny_noted ?_) n h;rw[compTurn_list];refine ard (asQ (ard (arI (turn n s G) (λr d q=>?_) λ_ _ j=>j)));cases r with|none=>exact arp q|some v=>refine ard (arI q (λ_ g t=>?_) λ_ _ j=>j);refine ard (arI t (λ_ p D=>ard (arI D (λok i l=>?_) λ_ _ j=>j)) λ_ _ j=>j);cases ok with|false=>exact arp ⟨rfl,l⟩|true=>exact ard (ard (arI l (λx k B=>ard (arI B (λ_ o C=>arp (arp ⟨rfl,C⟩)) λ_ _ j=>j)) λ_ _ j=>j))
end
def agb(X:Cx)(b:List Expr)(t:TT):Prop:=∀(a:List (Addr×Obj))(s:Shared)(d:St)(H:Hp)(Q:Bool->Hp->Prop),Inv X a d H s->t d H Q->wpAny (model X.prog X.w) X.A (forIn b true λc r=>if r=true then do let ok <-isTrue c X.env (eval c X.env);pure (ForInStep.yield ok)else pure (ForInStep.yield r)) (TP X a d Q) X.xe s
def iZ:TT:=λ_ H Q=>Q true H
def ae2:agb X [] iZ:=λa s b H Q I h=>wpAny_tests_nil ⟨H,I,h⟩
def aaG(J:It)(g:TG)(tt:TT)(q:TE)(h:St)(n:Hp)(F:V->Hp->Prop):Prop:=∃W:Nat->Nat->List V->St->Hp->Prop,(∃m,W 0 m [] h n)/\∀i m c l H,W i m c l H->c.length<sizeLine/\((J.stop i H/\∀D,H D=none->F (.ref D) (upd H D (.lst c)))\/J.go i H/\∃N:List V->St->Hp->Prop,(∀f d e,N f d e->∃k,k<m/\W (i+1) k f d e)/\∀x e,J.yld i H x e->g x l e λa o=>tt a o λb j=>if b=true then q a j λy p=>N (c++[y]) a p else N c a j)
def p9(c:Hp->Prop)(J:It)(g:TG)(tt:TT)(r:TE)(j:St)(o:Hp)(F:V->Hp->Prop):Prop:=∃W:Nat->Nat->List V->St->Hp->Prop,(∃m,W 0 m [] j o)/\∀i m d n H,W i m d n H->c H/\d.length<sizeLine/\((J.stop i H/\∀D,H D=none->F (.ref D) (upd H D (.lst d)))\/J.go i H/\∃N:List V->St->Hp->Prop,(∀h e f,N h e f->∃l,l<m/\W (i+1) l h e f)/\∀x f,J.yld i H x f->g x n f λa p=>tt a p λb k=>if b=true then r a k λy q=>N (d++[y]) a q else N d a k)
theorem p9.w    (h:p9 c J g tt te σ0 H1 F):aaG J g tt te σ0 H1 F:=by obtain⟨W,a,t⟩:=h;exact⟨W,a,λi m d b H w=>(t i m _ b H w).2⟩
theorem aaG.c    (h:aaG J g tt te σ0 H1 F):p9 (λ_=>True) J g tt te σ0 H1 F:=by obtain⟨W,a,t⟩:=h;exact⟨W,a,λi m c b H w=>⟨trivial,t i m _ b H w⟩⟩
def ahY(k:Nat)(wi:TI)(g:TG)(tt:TT)(c:TE):TE:=λa H Q=>wi a H λJ b=>aaG J g tt c (List.replicate k none++a) b Q
section
variable{X:Cx}{tg elt iter:Expr}{ifs:List Expr}{scope:Scope}{ts:List Str}{wi:TI}{g:TG}{tt:TT}{te:TE}
def kL{pins}{σ:St}{H j pos it k tn J}{Q:VK}{RR:Value->Addr->Result->Shared->Prop}{E}(S:CompScope X scope ts){cl cc}(G:Addr->Value->Shared->Prop)(c4:∀C U,cc U->cl ((X.comp scope C ts j H k).tri (G C) []) U)(hg:∀C,PG ((X.comp scope C ts j H k).tri (G C) []) tg g)(ht:∀C,agb ((X.comp scope C ts j H k).tri (G C) []) ifs tt)(he:∀C,PE ((X.comp scope C ts j H k).tri (G C) []) elt te)(I:Inv X pins σ H j)(T:Turn X.prog X.w X.K tg J k it tn cl)(st:tn 0 j.heap)(hf:∀b∈k,yX X pins H b)(hW:p9 cc J g tt te (List.replicate ts.length none++σ) H Q)(fin:∀(C D:Addr)U B m Z,C≠D->j.heap.objs.size<=C->j.heap.objs.size<=D->B.heap.Ns C m->U C=none->Inv X pins σ (upd U D (.lst Z)) B->Q (.ref D) (upd U D (.lst Z))->RR (.ref D) C (.ok .next) B)(hx:∀(C D:Addr)e B,j.heap.objs.size<=C->G C e B->notedBy (model X.prog X.w) X.A (compEnvC scope (dc X.env.cells scope.names []) C X.env) (λe B=>RR (.ref D) C (.error e) B) e B):wpAny (model X.prog X.w) X.A (newList []) (λc2 O=>wpAny (model X.prog X.w) X.A (newFunctionEnv scope X.env.globals (dc X.env.cells scope.names []) [] X.env.qual none .none (some X.env)) (λa5 c3=>codeAny (model X.prog X.w) X.A (.compStart (.ListComp elt [⟨tg,iter,ifs,0⟩] scope pos) 0 (.ref it) c2 {a5 with scope:=relabel scope X.env}) (RR c2 a5.locals) c3) E O) E j:=by
 refine atF (wpAny_newFunctionEnv S.nocell (by intro y hy;simp at hy) (λK w s=>?_) S.kind);dsimp only at w s⊢;generalize hH2:j.heap.push {cls:=.type "list",dict:=none,data:=.seq ([]:List Value).toArray}=H2 at w s⊢;have b7:H2.objs.size=j.heap.objs.size+1:=by rw[<-hH2,aua]
 have b6:j.heap.objs.size≠H2.objs.size:=by rw[b7];exact arA (auC _)
 have t:j.heap.objs.size<=H2.objs.size:=by rw[b7];exact ato _
 have a8:∀b o,j.heap.get? b=some o->K.get? b=some o:=λb o e=>s.extBut b o (by rw[b7];exact arA (Nat.lt_succ_of_lt (ars e))) (arf _ (hH2▸arf _ e));have c7:K.PlainList j.heap.objs.size #[]:=⟨_,s.extBut _ _ b6 (arf _ (hH2▸aru _ rfl))⟩;have b8:∀b∈k,b<j.heap.objs.size:=λb l=>by obtain⟨o,e,_⟩:=T.obj _ _ st b l;exact ars e
 generalize hCdef:H2.objs.size=C at *;generalize hDdef:j.heap.objs.size=D at *;have a7:D∉k:=λhm=>asP _ (b8 _ hm);have a3:((X.comp scope C ts j H k).tri (G C) []).Ok:=(wX S I hf (by rw[hDdef];exact b8) (by rw[hDdef];exact t)).tri _ _;have a1:∀x c,((X.comp scope C ts j H k).tri (G C) []).env.cells.lookup x=some c->c<D:=λx c e=>by have q:=(cD scope.names [] e).resolve_left (by simp);obtain⟨v,z⟩:=I.cell x c q;rw[<-hDdef];exact z.lt
 have a0:∀{U:Hp}{pl:List (Addr×Obj)},(∀b∈k,U b=none)->(∀p∈pl,p.1∉k)->∀b∈k,yX ((X.comp scope C ts j H k).tri (G C) []) pl U b:=λhn M b l=>⟨hn b l,(a3.exf b l).1,a3.exfs b l,.inl l,(a3.exf b l).2,λp e3 z=>M p (by simpa using e3) (z▸l)⟩;obtain⟨W,⟨m0,w0⟩,turn⟩:=hW;have a6:∀O:Shared,O={j with heap:=K,toks:=j.toks+([]:List (Str×Value)).length}->codeAny (model X.prog X.w) X.A (.compLoop (.ListComp elt [⟨tg,iter,ifs,0⟩] scope pos) 0 (.ref it) (.ref D) (compEnvC scope (dc X.env.cells scope.names []) C X.env)) (RR (.ref D) C) O:=by
  rintro O rfl;have d7:Inv (X.comp scope C ts j H k) [] (List.replicate ts.length none++σ) H {j with heap:=K,toks:=j.toks+([]:List (Str×Value)).length}:=aas S I hf (by rw[hDdef];exact b8) (by rw[hDdef];exact t) rfl rfl a8 w;have I0:Inv ((X.comp scope C ts j H k).tri (G C) []) [] (List.replicate ts.length none++σ) H {j with heap:=K,toks:=j.toks+([]:List (Str×Value)).length}:=d7.tri _;refine iF (λn B=>∃i Z c8 U h,Inv ((X.comp scope C ts j H k).tri (G C) []) [] c8 U B/\tn i B.heap/\(∀b∈k,U b=none)/\B.heap.PlainList D h/\Vals Z h.toList/\U D=none/\W i n Z c8 U) ?_ m0 ⟨0,[],_,H,#[],I0,T.keep _ _ _ st λb _ o e=>a8 b o e,λb l=>(hf b l).1,c7,.nil,I.hok.fresh (by rw[hDdef];exact arn _),w0⟩;rintro n s3⟨i,Z,Y,H3,h,I3,b9,c0,e5,v3,d3,w3⟩;obtain⟨d0,e4,a9⟩:=turn i n Z Y H3 w3;obtain⟨R,eD⟩:=id e5;have c1:∀v,({cls:=.type "list",data:=.seq h R}:Obj).data≠.cell v:=λv z=>by cases z
  have a2:=b6;have a4:D ∉((X.comp scope C ts j H k).tri (G C) []).fs:=λl=>by obtain⟨_,o,ho,_⟩:=a3.rW.mem l;exact absurd (atv (ars ho) hDdef) (asP _)
  rcases a9 with⟨d1,qn⟩|⟨go,N,hN,step⟩;.-- the end
   have b5:Inv ((X.comp scope C ts j H k).tri (G C) []) [(D,{cls:=.type "list",data:=.seq h R})] Y H3 s3:=I3.hY λp M=>by
    obtain rfl:p=(D,({cls:=.type "list",data:=.seq h R}:Obj)):=by simpa using M
    exact⟨eD,d3,a2,a4,c1⟩
   refine arI (T.done ((X.comp scope C ts j H k).tri (G C) []) rfl rfl rfl i _ s3 Y H3 (λ_ _=>False) (c4 C H3 d0) b5 (a0 c0 λp M=>by
    obtain rfl:p=(D,({cls:=.type "list",data:=.seq h R}:Obj)):=by simpa using M
    exact a7) b9 d1) (λr s4⟨hr,I4⟩=>?_) λ_ _ f=>f.elim;subst hr;have pD:=(I4.pin (D,{cls:=.type "list",data:=.seq h R}) (by simp)).1;obtain⟨m4,d2,_⟩:=I4.loc;have I5:=I.ajs I4.os I4.base I4.hok I4.bare λb l=>⟨(hf b l).2.2.2.1,(hf b l).2.1,(hf b l).2.2.2.2.1,(hf b l).2.2.2.2.2⟩;have e0:=ar8 (atv I.lt hDdef);have d5:∀x c,X.env.cells.lookup x=some c->c≠D:=λx c e=>by obtain⟨v,z⟩:=I.cell x c e;exact arA (atv z.lt hDdef)
   have d4:∀p∈X.pn++pins,p.1≠D:=λp M=>arA (atv (ars (I.pin p M).1) hDdef);have new:dh X.prog X.w (upd H3 D (.lst Z)) s4.heap D (.lst Z):=⟨ats e4,h.toList,R,v3,by simpa using pD⟩;have I6:=I5.abj d3 (by rw[<-hDdef];exact I.sz) e0 d5 d4 new;exact fin C D H3 s4 m4 Z (arz b6) t (arn _) d2 I4.free I6 (qn D d3)
  .-- a turn
   have b5:Inv ((X.comp scope C ts j H k).tri (G C) []) [(D,{cls:=.type "list",data:=.seq h R})] Y H3 s3:=I3.hY λp M=>by
    obtain rfl:p=(D,({cls:=.type "list",data:=.seq h R}:Obj)):=by simpa using M
    exact⟨eD,d3,a2,a4,c1⟩
   have c9:∀p∈[((D,{cls:=.type "list",data:=.seq h R}):Addr×Obj)],p.1∉k:=λp M=>by
    obtain rfl:p=(D,({cls:=.type "list",data:=.seq h R}:Obj)):=by simpa using M
    exact a7
   refine arI (T.item ((X.comp scope C ts j H k).tri (G C) []) rfl rfl rfl i _ s3 Y H3 (λ_ _=>False) (c4 C H3 d0) b5 (a0 c0 c9) b9 go) (λr s4 A=>?_) λ_ _ f=>f.elim;obtain⟨u,hr,h4⟩:=A;subst hr;refine arI h4 (λ_ s5 A=>?_) λ_ _ f=>f.elim;obtain⟨x,H5,I5,r5,y5,b0,e2⟩:=A;have d9:=I5.pinned (a0 e2 c9) (T.obj _ _ b0);have back:∀{c6:St}{H7:Hp}{s7:Shared},Inv ((X.comp scope C ts j H k).tri (G C) []) ([(D,{cls:=.type "list",data:=.seq h R})]++tF k s5.heap) c6 H7 s7->tn (i+1) s7.heap/\(∀b∈k,H7 b=none)/\s7.heap.get? D=some {cls:=.type "list",data:=.seq h R}/\H7 D=none:=λ{c6 H7 s7}I7=>by have pD:=I7.pin (D,({cls:=.type "list",data:=.seq h R}:Obj)) (arE _ (ar6 _ arD));refine⟨T.keep _ _ _ b0 λb l o e=>(I7.pin (b,o) (arE _ (arE _ (iB l e)))).1,λb l=>?_,pD.1,pD.2.1⟩;obtain⟨o,e,d⟩:=T.obj _ _ b0 b l;exact(I7.pin (b,o) (arE _ (arE _ (iB l e)))).2.1
   refine arI (hg C _ s5 Y H5 x u _ d9 r5 (step x H5 y5)) (λ_ s6 A=>?_) λe B f=>hx C D e B t f;obtain⟨P,H6,I6,q6⟩:=A;refine arI (ht C _ s6 P H6 _ I6 q6) (λb s7 A=>?_) λe B f=>hx C D e B t f;obtain⟨H7,I7,q7⟩:=A;cases b with|false=>obtain⟨m',hm,w7⟩:=hN _ _ _ (by simpa using q7);obtain⟨b1,b2,b3,b4⟩:=back I7;exact⟨m',hm,i+1,Z,P,H7,h,I7.hY λp M=>absurd M ar5,b1,b2,⟨R,b3⟩,v3,b4,w7⟩|true=>
    have d8:te P H7 λy H4=>N (Z++[y]) P H4:=by simpa using q7
    refine arI (he C _ s7 P H7 _ I7 d8) (λu8 s8 A=>?_) λe B f=>hx C D e B t f;obtain⟨y,H8,I8,r8,q8⟩:=A;obtain⟨m',hm,w8⟩:=hN _ _ _ q8;obtain⟨b1,b2,b3,b4⟩:=back I8;have e6:h.size<=sizeLine:=by have e1:=v3.length;simp only[asH]at e1;omega
    refine wpAny_list_append_plain ⟨R,b3⟩ λh9 d6 c5=>?_;have I9:Inv ((X.comp scope C ts j H k).tri (G C) []) [] P H8 {s8 with heap:=h9}:=(I8.hY λp M=>absurd M ar5).turned (λb o l e=>(c5.2 b l).trans e) b4 a2 (.inr (auB hDdef)) (λx c e=>arA (a1 x c e)) λp M=>absurd M ar5;refine⟨m',hm,i+1,Z++[y],P,H8,h.push u8,I9,T.keep _ _ _ b1 λb l o e=>(c5.2 b λz=>a7 (z▸l)).trans e,b2,d6,?_,b4,w8⟩;simpa using v3.append (.cons r8 .nil)
 exact codeAny_compStart_list (a6 _ rfl) (T.self _ 0 _ _ _ (T.keep _ _ _ st λb _ o e=>a8 b o e) (a6 _ rfl))
def ae6 (L:CompLook X scope)(t:X.calm=true)(hi:PI X tg iter wi)(K:∀C d a i,PG (X.comp scope C ts d a i) tg g)(ht:∀C d a i,agb (X.comp scope C ts d a i) ifs tt)(O:∀C d a i,PE (X.comp scope C ts d a i) elt te)(hs:∀x,foldedSetIterable iter X.env x=pure x:=by intro _;rfl):PE X (.ListComp elt [⟨tg,iter,ifs,0⟩] scope pos) (ahY ts.length wi g tt te):=by
 intro k s σ H Q I h;have S:CompScope X scope ts:=L.scope;have f:=gD λy hy R=>by obtain⟨c,t⟩:=I.ok.has y.1 (S.free y hy R);rw[t];rfl
 rw[eval_ListComp];refine atw rfl hs f S.kind S.names (thn (hi k s σ H _ I h) λxv s1 U=>thn U λZ s2 h2=>?_);obtain⟨it,i,tn,J,H2,e,j,T,w,M,hW⟩:=h2;subst e;refine kL S _ (λ_ _ _=>t) (λC=>K C _ _ _) (λC=>ht C _ _ _) (λC=>O C _ _ _) j T w M hW.c ?_ λ_ _ _ _ _ z=>z.elim;intro C D H' P m ys r l hD G B N q;refine⟨m,G,λh' n=>?_⟩;have u:=ar8 (aro j.lt l);have A:=N.turned (t':=P.toks) (λb o Y e=>(n.2 b Y).trans e) (by rw[ag r];exact B) u (.inr (arq j.sz l)) (λx c e=>by obtain⟨v,q⟩:=j.cell x c e;exact arA (aro q.lt l)) λp E=>arA (aro (ars (j.pin p E).1) l);exact⟨.ref D,_,A,rfl,q⟩
def tr  (Y:X.N.Nodup)(E:X.N[i]?=some y)(w:X.env.scope.names.lookup y=some .local)(M:swapsWith (.ListComp elt [⟨tg,iter,ifs,0⟩] scope pos) (some (.Name y py)) spos.line X.env=pure true)(L:CompLook X scope)(P:X.calm=true)(hi:PI X tg iter wi)(hg:∀C f d n,PG (X.comp scope C ts f d n) tg g)(ht:∀C f d n,agb (X.comp scope C ts f d n) ifs tt)(he:∀C f d n,PE (X.comp scope C ts f d n) elt te)(hs:∀x,foldedSetIterable iter X.env x=pure x:=by intro _;rfl):PS X (.Assign [.Name y py] (.ListComp elt [⟨tg,iter,ifs,0⟩] scope pos) spos) (ajI (ahY ts.length wi g tt te) (aA i)):=by
 intro t s σ H Dn I h;have S:CompScope X scope ts:=L.scope;have k:=gD λy w hf=>by obtain⟨c,P⟩:=I.ok.has y.1 (S.free y w hf);rw[P];rfl
 rw[exec_Assign_Name_used _ _ _ _ M];refine ard (asQ (ard ?_));refine ard (arI (atw rfl hs k S.kind S.names (thn (hi t s σ H _ I h) λxv s1 U=>thn U λa0 s2 h2=>?_)) (λ_ s' hq=>arp (arp hq)) λ_ _ e=>e);obtain⟨it,n,tn,J,H2,e,l,T,B,f2,hW⟩:=h2;subst e;refine kL S (λ_ _ _=>False) (λ_ _ _=>P) (λC=>hg C _ _ _) (λC=>ht C _ _ _) (λC=>he C _ _ _) l T B f2 hW.c ?_ λ_ _ _ _ _ z=>z.elim;intro C D H' s' m ys O r hD hn G I' q;have u:=ar8 (aro l.lt r);refine wpAny_assign_Name (jC I' Y E (.inl w) (show RelV (.ref D) (.ref D)from rfl) (λN Q j=>?_) (.inr w));obtain⟨a,j,ha⟩:=j;have K:a≠C:=by
  rcases ha with e|e;.rw[e];exact arz u
  .obtain⟨v,q⟩:=l.cell y a e;exact arA (aro q.lt r)
 refine⟨m,hn.sameBut j (arz K),λh' A=>?_⟩;have Z:=Q.turned (t':=N.toks) (λb o hb e=>(A.2 b hb).trans e) (by rw[ag O];exact G) u (.inr (arq l.sz r)) (λx c e=>by obtain⟨v,q⟩:=l.cell x c e;exact arA (aro q.lt r)) λp R=>arA (aro (ars (l.pin p R).1) r);exact⟨_,_,Z,q⟩
end
def IsD(K:W.Frag)(H:Hp):Nat->V->PyData->Prop|_,x,.none=>x=.non|_,x,.bool b=>x=.bl b|_,x,.int i=>x=.int i|_,x,.str z=>x=.str z/\PyData.strOk z=true|_,_,.dict _=>False|0,_,.tuple _=>False|0,_,.list _=>False|n+1,x,.tuple ds=>∃a c,x=.ref a/\SqT K H a c/\Paired (IsD K H n) c ds|n+1,x,.list ds=>∃a c,x=.ref a/\SqL K H a c/\Paired (IsD K H n) c ds
section
variable{X:Cx}{pins:List (Addr×Obj)}{σ:St}{H:Hp}{s:Shared}
theorem nk{h n R}(one:∀x d u,R x d->RelV x u->(∃a,Reads h u d a)/\d.canLay0=true/\d.depth<=n):∀{xs ds us},Paired R xs ds->Vals xs us->(∃a,ReadsAll h us ds a)/\PyData.canLayAll0 ds=true/\PyData.depthAll ds<=n
|_,_,_,.nil,.nil=>⟨⟨_,.nil⟩,rfl,arZ _⟩|_,_,_,.cons r t,.cons q t'=>by
 obtain⟨⟨a,e⟩,b,g⟩:=one _ _ _ r q;obtain⟨⟨bs,f⟩,c,i⟩:=nk one t t';refine⟨⟨_,.cons e f⟩,?_,?_⟩;.simp[PyData.canLayAll0,b,c]
 .simp [PyData.depthAll];omega
def Inv.reads(I:Inv X pins σ H s):∀n d x u,IsD X.K H n x d->RelV x u->(∃l,Reads s.heap u d l)/\d.canLay0=true/\d.depth<=n:=by intro n;induction n with
|zero=>intro d x u h r;cases d with|none=>subst h;cases r;exact⟨⟨_,.none⟩,rfl,arZ _⟩|bool b=>subst h;cases r;exact⟨⟨_,.bool b⟩,rfl,arZ _⟩|int i=>subst h;obtain⟨t,rfl⟩:=r;exact⟨⟨_,.int i t⟩,rfl,arZ _⟩|str z=>obtain⟨rfl,c⟩:=h;obtain⟨t,rfl⟩:=r;exact⟨⟨_,.str z t⟩,by simpa[PyData.canLay0]using c,arZ _⟩|dict kvs|tuple ds|list ds=>exact h.elim
|succ n ih=>intro d x u h r;cases d with|none=>subst h;cases r;exact⟨⟨_,.none⟩,rfl,arZ _⟩|bool b=>subst h;cases r;exact⟨⟨_,.bool b⟩,rfl,arZ _⟩|int i=>subst h;obtain⟨t,rfl⟩:=r;exact⟨⟨_,.int i t⟩,rfl,arZ _⟩|str z=>obtain⟨rfl,c⟩:=h;obtain⟨t,rfl⟩:=r;exact⟨⟨_,.str z t⟩,by simpa[PyData.canLay0]using c,arZ _⟩|dict kvs=>exact h.elim|tuple ds=>obtain⟨a,y,rfl,m,g⟩:=h;cases r;obtain⟨j,w,⟨o,q,e,k,v⟩,c⟩:=I.tuple m;obtain⟨⟨l,p⟩,f,B⟩:=nk (λx d u=>ih d x u) g w;exact⟨⟨_,.tuple q e v (by simpa using p)⟩,by simpa[PyData.canLay0]using f,by simp only[PyData.depth];omega⟩|list ds=>obtain⟨a,y,rfl,m,g⟩:=h;cases r;obtain⟨j,w,A,c⟩:=I.list m;obtain⟨o,q,e,k,v⟩:=A.isList;obtain⟨⟨l,p⟩,f,B⟩:=nk (λx d u=>ih d x u) g w;exact⟨⟨_,.list q e v (by simpa using p)⟩,by simpa[PyData.canLay0]using f,by simp only[PyData.depth];omega⟩
end
def IsD.mono{K:W.Frag}{H H':Hp}(g:∀a c,SqT K H a c->SqT K H' a c)(f:∀a c,SqL K H a c->SqL K H' a c):∀(n:Nat)(x:V)(d:PyData),IsD K H n x d->IsD K H' n x d:=by intro n;induction n with|zero=>intro x d h;cases d<;>exact h|succ n ih=>intro x d h;cases d with|tuple ds=>obtain⟨a,c,e,q,p⟩:=h;exact⟨a,c,e,g a c q,Paired.alY p ih⟩|list ds=>obtain⟨a,c,e,q,p⟩:=h;exact⟨a,c,e,f a c q,Paired.alY p ih⟩|none=>exact h|bool b=>exact h|int i=>exact h|str z=>exact h|dict kvs=>exact h
def av.tup{K H H' a xs}(e:av H H')(h:SqT K H a xs):SqT K H' a xs:=by
 rcases h with(h|⟨o,h⟩)|h;.exact .inl (.inl (e _ _ h))
 .exact .inl (.inr ⟨o,e _ _ h⟩)
 .exact .inr h
section
variable{X:Cx}
def alA:OpR X (compareOp .Eq) λx y H Q=>∃n d e,IsD X.K H n x d/\IsD X.K H n y e/\X.A.units+n<cLine/\Q (.bl (PyData.eqv d e)) H:=by intro a s r H x y v u Q I i f⟨n,d,e,j,h,l,q⟩;obtain⟨⟨m,g⟩,b,o⟩:=I.reads n d x v j i;obtain⟨⟨bs,k⟩,c,p⟩:=I.reads n e y u h f;exact SeqAt.compareEq_reads g k b c (by omega) (iG (.bl _) H I rfl q)
def alu:OpR X (compareOp .NotEq) λx y H Q=>∃n d e,IsD X.K H n x d/\IsD X.K H n y e/\X.A.units+n<cLine/\Q (.bl !PyData.eqv d e) H:=by intro a s r H x y v u Q I i f⟨n,d,e,j,h,l,q⟩;obtain⟨⟨m,g⟩,b,o⟩:=I.reads n d x v j i;obtain⟨⟨bs,k⟩,c,p⟩:=I.reads n e y u h f;exact SeqAt.compareNe_reads g k b c (by omega) (iG (.bl _) H I rfl q)
def alz:OpR X (compareOp .In) λx y H Q=>∃n d a,IsD X.K H n x d/\(IsD X.K H (n+1) y (.list a)\/IsD X.K H (n+1) y (.tuple a))/\X.A.units+1+n<cLine/\Q (.bl (a.any λz=>PyData.eqv z d)) H:=by
 intro i s r H x y v u Q I j g⟨n,d,a,k,b,m,q⟩;obtain⟨⟨o,h⟩,f,p⟩:=I.reads n d x v k j;rcases b with b|b;.obtain⟨⟨bs,e⟩,c,l⟩:=I.reads _ _ y u b g;exact SeqAt.in_list_reads e h (by simpa[PyData.canLay0]using c) f (by have:=atj (PyData.depthAll a) d.depth;omega) ⟨.bl _,H,I,rfl,q⟩
 .obtain⟨⟨bs,e⟩,c,l⟩:=I.reads _ _ y u b g;exact SeqAt.in_tuple_reads e h (by simpa[PyData.canLay0]using c) f (by have:=atj (PyData.depthAll a) d.depth;omega) ⟨.bl _,H,I,rfl,q⟩
def aco:OpR X (compareOp .NotIn) λx y H Q=>∃n d b,IsD X.K H n x d/\(IsD X.K H (n+1) y (.list b)\/IsD X.K H (n+1) y (.tuple b))/\X.A.units+1+n<cLine/\Q (.bl !b.any λz=>PyData.eqv z d) H:=by
 intro h s r H x y v u Q I j f⟨n,d,b,k,a,m,q⟩;obtain⟨⟨o,g⟩,e,p⟩:=I.reads n d x v k j;rcases a with a|a;.obtain⟨⟨bs,c⟩,i,l⟩:=I.reads _ _ y u a f;exact SeqAt.notIn_list_reads c g (by assumption) e (by omega) ⟨.bl _,H,I,rfl,q⟩
 .obtain⟨⟨bs,c⟩,i,l⟩:=I.reads _ _ y u a f;exact SeqAt.notIn_tuple_reads c g (by assumption) e (by grind) ⟨.bl _,H,I,rfl,q⟩
def aeN{K:W.Frag}(h:X.K=K):SlR X (aqe K):=h▸abB
def aoJ{x T pos}(b:Gl X x)(e:X.mg x=none)(c:bootBuiltins x=some (.type T))(a:x≠"__name__":=by decide)(d:Dbg x:=by decide):PE X (.Name x pos) (tC (.ty T)):=aip b e c rfl a d
def TyV(K:W.Frag)(H:Hp)(x:V)(t:Value):Prop:=TyOf K H x t\/∃a b,x=.ref a/\t=.type "tuple"/\SqT K H a b
def w6:ba X (.builtin "isinstance") λc H Q=>∃x T t b,c=[x,.ty T]/\TyV X.K H x t/\W.kitOne X.K t (.type T)=some b/\Q (.bl b) H:=by
 intro d s v H c n Q I r h;obtain⟨x,T,t,b,rfl,ty,e,q⟩:=h;obtain⟨u,m,rfl,f,l⟩:=vals2 r;cases l;rcases ty with ty|⟨a,p,rfl,rfl,k⟩;.exact ada I f ty e λtk=>⟨.bl b,H,I.tok _,rfl,q⟩
 .cases f;obtain⟨g,_,⟨o,i,j,_⟩,_⟩:=I.tuple k;exact asA W.kitx_tuple I.kIn ⟨o,i,j⟩ e (λz=>nomatch z) λtk=>⟨.bl b,H,I.tok _,rfl,q⟩
end
abbrev St3:=Int×Int×Int
def ay{H p}(h:H p=none)(o):av H (upd H p o):=λb u q=>by rw[ag (aL q h)];exact q
end L2
set_option autoImplicit true
set_option relaxedAutoImplicit true
namespace L2
open PySem PySem.Spec PyProof.Rows
section
variable{prog:Program}{w:World}{A:Around}{E:Value->Shared->Prop}{s:Shared}
def zP{it t i its x Q}(a:s.heap.IsTupleIter it t i)(k:s.heap.IsTuple t its)(j:its[i]?=some x)(h:∀f,f.IsTupleIter it t (i+1)->Heap.SameBut it s.heap f->Q x {s with heap:=f}):wpAny (model prog w) A (Builtin.SmallTypes.nextOf (.ref it)) Q E s:=by refine ju (id a) λo c g b=>?_;obtain⟨m,e,_,l,d⟩:=k;unfold Builtin.SmallTypes.nextOf;refine ard (asG a.typeIs asR (asx asR a.typeIs aue ?_ (aub _)));show wpAny _ _ (field (.ref it) 0 >>=_) _ _ s;refine ard (arR c b (x:=.ref t) rfl ?_);refine ard (arR c b (x:=.int i 0) rfl ?_);refine ard (auO e d ?_);simp only[aup,j];refine ard (asY c b (by simp) (arp ⟨x,rfl,arp (h _ ?_ (Heap.SameBut.update ..))⟩));exact⟨_,asf _ c (atR (as8 b _)),(Obj.cls_mapFields ..).trans g,by rw[as8 b];simp[rawInt]⟩
def acG  (j:A.handled=none)(b:s.heap.IsTupleIter it t i)(n:s.heap.IsTuple t its)(l:its[i]?=none)(k:∀h e,Heap.ExtBut it s.heap h->(∃o,h.get? e=some o/\o.cls=.type "StopIteration")->E (.ref e) {s with heap:=h}):wpAny (model prog w) A (Builtin.SmallTypes.nextOf (.ref it)) Q E s:=by refine ju (id b) λo f p g=>?_;obtain⟨q,d,_,r,c⟩:=n;unfold Builtin.SmallTypes.nextOf;refine ard (asG b.typeIs asR (asx asR b.typeIs aue ?_ (aub _)));show wpAny _ _ (field (.ref it) 0 >>=_) _ _ s;refine ard (arR f g (x:=.ref t) rfl ?_);refine ard (arR f g (x:=.int i 0) rfl ?_);refine ard (auO d c ?_);simp only[aup,l];refine ard (wpAny_rule (ard (asY f g (by simp) ?_)));refine ard ?_;refine ard (m:=firstArgMember _ _) (wpAny_of_eq (a:=Value.none) (rfl) ?_);refine atF ?_ (by size_fits);refine ard (wpAny_handled ?_);rw[j];refine ard (arp (wpAny_throw ?_));exact k _ _ (((Heap.SameBut.update ..).extBut.push _).push _) ⟨_,aru _ rfl,rfl⟩
def aab{e it t}{i:Nat}{its x c Q}(y:IsEnum s.heap e it i c)(R:s.heap.IsTupleIter it t i)(ht:s.heap.IsTuple t its)(hx:its[i]?=some x)(a:e≠it)(Y:∀v,IsEnumOut v e it (i+1) x s.heap.objs.size->v.IsTupleIter it t (i+1)->v.get? s.heap.objs.size=some {cls:=.type "tuple",data:=.seq #[.int i s.toks,x]}->(∀b o,b≠e->b≠it->s.heap.get? b=some o->v.get? b=some o)->Q (some (.ref s.heap.objs.size)) {s with heap:=v,toks:=s.toks+1}):wpAny (model prog w) A (pyNext (.ref e)) Q E s:=by
 have X:s.TypeIs (.ref e) "enumerate":=⟨_,y,rfl⟩;unfold pyNext;refine ard (auk (asG (name:=Str.ofString "__next__") X ath (asx ath X F.entry_enumerate_next ?_ (F.args_enumerate_next_1 _))));obtain⟨h,g,d,tk,os⟩:=s;show wpAny _ _ (field (.ref e) 2 >>=_) _ _ _;refine ard (arR y rfl (x:=.ref it) rfl ?_);refine ard (zP R ht hx λj M p=>?_);replace p:Heap.SameBut it h j:=p;have S:IsEnum j e it i c:=(p.2 e a).trans y;show wpAny _ _ (field (.ref e) 3 >>=_) _ _ ⟨j,g,d,tk,os⟩;refine ard (arR S rfl (x:=rawInt i) rfl ?_);show wpAny _ _ (field (.ref e) 4 >>=_) _ _ ⟨j,g,d,tk,os⟩;refine ard (arR S rfl (x:=.none) rfl ?_);show wpAny _ _ (mkInt i >>=_) _ _ ⟨j,g,d,tk,os⟩;refine ard (wpAny_mkInt ?_);refine ard (as9 S (by simp) λB C m=>?_);replace m:Heap.SameBut e j B:=m;replace C:IsEnum B e it ((i:Int)+1) c:=C;show wpAny _ _ (setField (.ref e) 4 .none >>=_) _ _ ⟨B,g,d,tk+1,os⟩;refine ard (as9 C (by simp) λk H n=>?_);replace n:Heap.SameBut e B k:=n;replace H:IsEnum k e it ((i:Int)+1) c:=H;show wpAny _ _ (newTuple [.int i tk,x]>>=_) _ _ ⟨k,g,d,tk+1,os⟩;refine ard (wpAny_newTuple ?_);have z:IsEnum (k.push {cls:=.type "tuple",data:=.seq #[.int i tk,x]}) e it ((i:Int)+1) c:=arf _ H;generalize q4:k.push {cls:=.type "tuple",data:=.seq #[.int i tk,x]}=h4 at z;have U:k.objs.size=h.objs.size:=by rw[n.1,m.1,p.1]
 have le:=ars y;have Z:h4.get? h.objs.size=some {cls:=.type "tuple",data:=.seq #[.int i tk,x]}:=by rw[<-q4,<-U];exact aru _ rfl
 have k4:∀b o,b≠e->b≠it->h.get? b=some o->h4.get? b=some o:=λb o f J I=>by rw[<-q4];exact arf _ (n.extBut b o f (m.extBut b o f (p.extBut b o J I)))
 have N:h4.IsTupleIter it t (i+1):=by rw[<-q4];refine gb ((M.extBut m.extBut (arz a)).extBut n.extBut (arz a)) λo ho r=>?_;exact⟨o,arf _ ho,r⟩
 show wpAny _ _ (Builtin.SmallTypes.ownedTupleIsFree (.ref e)>>=_) _ _ ⟨h4,g,d,tk+1,os⟩;rw[U];refine ard ?_;unfold Builtin.SmallTypes.ownedTupleIsFree;refine ard (arR z rfl (x:=.none) rfl (arp ?_));simp only[asI];refine ard (wpAny_rule ?_);refine ard (arR z rfl (x:=c) rfl ?_);refine ard (as9 z (by simp) λO P q=>?_);replace q:Heap.SameBut e h4 O:=q;replace P:IsEnum O e it ((i:Int)+1) x:=P;refine ard ?_;unfold Builtin.SmallTypes.ownedTupleHandOut;refine ard (as9 P (by simp) λG K u=>?_);replace u:Heap.SameBut e O G:=u;replace K:IsEnumOut G e it ((i:Int)+1) x h.objs.size:=K;refine as9 K (by simp) λD T l=>?_;replace l:Heap.SameBut e G D:=l;replace T:IsEnumOut D e it ((i:Int)+1) x h.objs.size:=T;refine ard (wpAny_letGo (arp ⟨_,rfl,arp (Y D T ?_ ?_ ?_)⟩));.exact((N.extBut q.extBut (arz a)).extBut u.extBut (arz a)).extBut l.extBut (arz a)
 .exact l.extBut _ _ (ar8 le) (u.extBut _ _ (ar8 le) (q.extBut _ _ (ar8 le) Z))
 .exact λb o f J I=>l.extBut b o f (u.extBut b o f (q.extBut b o f (k4 b o f J I)))
def adz{e it t}{i:Nat}{its c Q}(l:A.handled=none)(f:IsEnum s.heap e it i c)(a:s.heap.IsTupleIter it t i)(p:s.heap.IsTuple t its)(n:its[i]?=none)(j:∀d,Heap.ExtBut it s.heap d->Q none {s with heap:=d}):wpAny (model prog w) A (pyNext (.ref e)) Q E s:=by have g:s.TypeIs (.ref e) "enumerate":=⟨_,f,rfl⟩;refine ard (auk (asG g ath (asx ath g F.entry_enumerate_next ?_ (F.args_enumerate_next_1 _))));show wpAny _ _ (field (.ref e) 2 >>=_) _ _ _;refine ard (arR f rfl rfl ?_);refine ard (acG l a p n λd x k b=>?_);refine gb b λo m h=>?_;refine ard (wpAny_isInstance ⟨o,m,h⟩ isSubtype_stop ?_);exact arp (j _ k)
end
section
open PySem.AutoSeq1(wpAny_loadPart')
def ady(l)(its)(n)(c)(sl):Meets (Builtin.«enumerate.__new__» ⟨[.type "enumerate",.ref l],[]⟩) λ_ R s=>s.heap.get? l=some {cls:=.type "tuple",dict:=c,data:=.seq its n,slots:=sl}/\R (.ok (.ret (.ref (s.heap.push {cls:=.type "tuple_iterator",data:=.fields #[.ref l,.int 0 0]}).objs.size))) {s with heap:=(s.heap.push {cls:=.type "tuple_iterator",data:=.fields #[.ref l,.int 0 0]}).push {cls:=.type "enumerate",data:=.fields #[.none,.bool false,.ref s.heap.objs.size,rawInt 0,.none,.none]}}:=.of_wp λe w A R s h=>by obtain⟨a,h⟩:=h;have d:=sub_enumerate;have f:Heap.IsTuple _ l its:=⟨_,a,rfl,n,rfl⟩;wp_walk using wpAny_loadPart' a;refine wpAny_stack_any λst=>arp ?_;generalize Builtin.SmallTypes.calledThroughType.match_1 (λ_=>Bool) _ _ _=b;cases b<;>(wp_walk using wpAny_loadPart' a,wpAny_pyIter_tuple f;exact⟨_,rfl,h⟩)
variable{prog:Program}{w:World}{A:Around}{E:Value->Shared->Prop}{s:Shared}
def aaz{l its Q}(k:s.heap.IsTuple l its)(h:∀a,IsEnum a (s.heap.objs.size+1) s.heap.objs.size 0 .none->a.IsTupleIter s.heap.objs.size l 0->(∀b o,s.heap.get? b=some o->a.get? b=some o)->Q (.ref (s.heap.objs.size+1)) {s with heap:=a}):wpAny (model prog w) A (call (.type "enumerate") [.ref l]) Q E s:=by
 obtain⟨⟨c,e,q,j⟩,p,d,n,m⟩:=k;replace d:c=.type "tuple":=d;subst d m;refine callType_new F.called_enumerate (by decide) (F.typeCall_enumerate_1 _) (F.newCall_enumerate_1 _) (λf=>F.args_object_init_2 f _) F.entry_enumerate_new (ady l its n e j) ⟨p,?_⟩;have g:(s.heap.push {cls:=.type "tuple_iterator",data:=.fields #[.ref l,.int 0 0]}).objs.size=s.heap.objs.size+1:=aua ..;show _/\_;rw[g];have i:=by have z:=aru (s.heap.push {cls:=.type "tuple_iterator",data:=.fields #[.ref l,.int 0 0]}) (o:={cls:=.type "enumerate",data:=.fields #[.none,.bool false,.ref s.heap.objs.size,rawInt 0,.none,.none]}) rfl;rw[g]at z;exact z
 exact⟨⟨_,i,rfl⟩,h _ i ⟨_,arf _ (aru _ rfl),rfl,rfl⟩ λb o x=>arf _ (arf _ x)⟩
end
def Inv.abg    (I:Inv X pins σ H s)(k:∀c o,c≠a->c≠b->s.heap.get? c=some o->h'.get? c=some o)(g:yX X pins H a)(h:yX X pins H b):Inv X pins σ H {s with heap:=h',toks:=t'}:=by
 have i:∀c u,H c=some u->c≠a/\c≠b:=λc u e=>⟨aL e g.1,aL e h.1⟩;have f:∀{c:Addr},c∉[a,b]->c≠a/\c≠b:=λ{c}d=>⟨λz=>d (by simp[z]),λz=>d (by simp[z])⟩;refine I.step (d':=s.drawn) (λc d=>?_) (λc o _ _ d e _=>k c o (f d).1 (f d).2 e) (λc o _ _ d e _=>⟨o.slots,k c o (f d).1 (f d).2 e⟩) (λ_ _ _ _ n=>n) (λc o d e=>⟨o,k c o (f d).1 (f d).2 e⟩) (λ_ _ e=>e) (λ_ _ _ e=>e) (λc y e=>⟨#[],by rw[e];simp⟩) (λm p=>?_) (λc u e=>?_) I.bare
 .have l:c=a\/c=b:=by simpa using d
  rcases l with rfl|rfl;.exact⟨g.2.2.2.1,g.2.1,g.2.2.2.2.1,g.2.2.2.2.2⟩
  .exact⟨h.2.2.2.1,h.2.1,h.2.2.2.2.1,h.2.2.2.2.2⟩
 .refine xh p λo w t x r=>?_;exact aen o w t (k _ o (arz g.2.1) (arz h.2.1) x) r
 .refine(I.hok c u e).vd (λj v d q=>k j v ?_ ?_ q) (λ_ q=>q) λ_ _ q=>q
  .rcases d with z|z;.rw[z];exact(i c u e).1
   .exact(i j _ z).1
  .rcases d with z|z;.rw[z];exact(i c u e).2
   .exact(i j _ z).2
def Ite(K:W.Frag)(a:Addr):It:=⟨λi H=>∃b x,SqT K H a b/\b[i]?=some x,λi H x c=>∃p,x=.ref p/\H p=none/\∀b,SqT K H a b->∃y,b[i]?=some y/\c=upd H p (.tup [.int i,y]),λi H=>∃b,SqT K H a b/\b.length<=i⟩
def zb{P:Program}{w:World}{K:W.Frag}{es:List Expr}{k:Nat}{pos:Pos}(a e it:Addr)(hne:e≠it):Turn P w K (.Tuple es k pos) (Ite K a) [e,it] e λi h=>(∃old,IsEnum h e it i old)/\h.IsTupleIter it a i where
 mem:=by simp
 obj:=λi h st b hb=>by
  obtain⟨⟨old,he⟩,o,ho,hc,hd⟩:=st;have hb':b=e\/b=it:=by simpa using hb
  rcases hb' with rfl|rfl;.exact⟨_,he,λv z=>by cases z⟩
  .exact⟨o,ho,λv z=>by rw[hd]at z;cases z⟩
 keep:=λi h h' st kk=>by obtain⟨⟨old,he⟩,o,ho,r⟩:=st;exact⟨⟨old,kk e (by simp) _ he⟩,o,kk it (by simp) o ho,r⟩
 item:=by
  intro X hP hw hK i pins s σ H E hc I hf st hg;subst hP hw hK;obtain⟨⟨old,he⟩,hit⟩:=st;obtain⟨xs,x,hq,hx⟩:=hg;obtain⟨its,rv,p,hz⟩:=I.tuple hq;obtain⟨u,hu,ru⟩:=rv.get hx;have fe:=hf e (by simp);have fi:=hf it (by simp);refine aab he hit (show s.heap.IsTuple a its.toArray from p) (x:=u) (by simpa using hu) hne λh' eo it' tp kp=>?_;have I1:=I.abg (t':=s.toks+1) kp fe fi;have hfr:=I.hok.fresh (arn _);have hnT:∀b o,s.heap.get? b=some o->b≠s.heap.objs.size:=λb o q=>arA (ars q);have I2:Inv X pins σ (upd H s.heap.objs.size (.tup [.int i,x])) {s with heap:=h',toks:=s.toks+1}:=by
   refine I1.abj hfr I.sz (ar8 I.lt) (λy c q=>?_) (λpp hp=>hnT _ _ (I.pin pp hp).1) ⟨by show 2<=sizeLine;decide,[.int i s.toks,u],.cons ⟨_,rfl⟩ (.cons ru .nil),?_⟩;.obtain⟨v,z⟩:=I.cell y c q;exact arA z.lt
   .exact⟨_,tp,rfl,0,rfl⟩
  refine⟨_,rfl,aul (s:={s with heap:=h',toks:=s.toks+1}) eo λh2 e2 s2=>?_⟩;have hTe:=arz (hnT _ _ he);obtain⟨o1,ho1,_⟩:=hit;have hTi:=arz (hnT _ _ ho1);refine⟨.ref s.heap.objs.size,upd H s.heap.objs.size (.tup [.int i,x]),?_,rfl,⟨_,rfl,hfr,λys hy=>⟨x,by rw[I.mD hy hq];exact hx,rfl⟩⟩,⟨⟨_,e2⟩,?_⟩,λb hb=>?_⟩;.exact I2.turned (t':=s.toks+1) (it:=e) (λb o hb q=>(s2.2 b hb).trans q) (by rw[ag (arz hTe)];exact fe.1) fe.2.1 fe.2.2.2.1 fe.2.2.2.2.1 fe.2.2.2.2.2
  .exact it'.extBut s2.extBut (arz hne)
  .have hb':b=e\/b=it:=by simpa using hb
   rcases hb' with rfl|rfl;.rw[ag (arz hTe)];exact fe.1
   .rw[ag (arz hTi)];exact fi.1
 done:=by intro X hP hw hK i pins s σ H E hc I hf st hg;subst hP hw hK;obtain⟨⟨old,he⟩,hit⟩:=st;obtain⟨xs,hq,hx⟩:=hg;obtain⟨its,rv,p,hz⟩:=I.tuple hq;have fi:=hf it (by simp);have hl:=rv.length;exact adz (I.ok.hd hc) he hit (show s.heap.IsTuple a its.toArray from p) (by simp;omega) λh' eb=>⟨rfl,I.turned (t':=s.toks) (λb o hb q=>eb b o hb q) fi.1 fi.2.1 fi.2.2.2.1 fi.2.2.2.2.1 fi.2.2.2.2.2⟩
 self:=λ_ _ _ _ _ h0_ h=>by obtain⟨⟨_,he⟩,_⟩:=h0_;exact atG he h
section
def wz(K:W.Frag)(c:TE):TI:=λe H R=>c e H λx b=>∃a,x=.ref a/\(∃d,SqT K b a d)/\R (Ite K a) b
end
end L2
namespace L2
open PySem PySem.Spec PyProof.Rows
def anO(K:W.Frag)(a:Addr):It:=⟨λi H=>∃b x,SqL K H a b/\b[i]?=some x,λi H x c=>∃p,x=.ref p/\H p=none/\∀b,SqL K H a b->∃y,b[i]?=some y/\c=upd H p (.tup [.int i,y]),λi H=>∃b,SqL K H a b/\b.length<=i⟩
def zc{P:Program}{w:World}{K:W.Frag}{es:List Expr}{k:Nat}{pos:Pos}(a e it:Addr)(hne:e≠it):Turn P w K (.Tuple es k pos) (anO K a) [e,it] e λi h=>(∃old,IsEnum h e it i old)/\h.IsListIter it a i where
 mem:=by simp
 obj:=λi h st b hb=>by
  obtain⟨⟨old,he⟩,o,ho,hc,hd⟩:=st;have hb':b=e\/b=it:=by simpa using hb
  rcases hb' with rfl|rfl;.exact⟨_,he,λv z=>by cases z⟩
  .exact⟨o,ho,λv z=>by rw[hd]at z;cases z⟩
 keep:=λi h h' st kk=>by obtain⟨⟨old,he⟩,o,ho,r⟩:=st;exact⟨⟨old,kk e (by simp) _ he⟩,o,kk it (by simp) o ho,r⟩
 item:=by
  intro X hP hw hK i pins s σ H E hc I hf st hg;subst hP hw hK;obtain⟨⟨old,he⟩,hit⟩:=st;obtain⟨xs,x,hq,hx⟩:=hg;obtain⟨its,rv,p,hz⟩:=I.list hq;obtain⟨u,hu,ru⟩:=rv.get hx;have fe:=hf e (by simp);have fi:=hf it (by simp);refine wpAny_pyNext_enum_item he hit p.isList (x:=u) (by simpa using hu) hne λh' eo it' tp _ kp=>?_;have I1:Inv X pins σ H {s with heap:=h',toks:=s.toks+1}:=I.abg (t':=s.toks+1) kp fe fi;have hfr:H s.heap.objs.size=none:=I.hok.fresh (arn _);have hnT:∀b o,s.heap.get? b=some o->b≠s.heap.objs.size:=λb o q=>arA (ars q);have I2:Inv X pins σ (upd H s.heap.objs.size (.tup [.int i,x])) {s with heap:=h',toks:=s.toks+1}:=by
   refine I1.abj hfr I.sz (ar8 I.lt) (λy c q=>?_) (λpp hp=>hnT _ _ (I.pin pp hp).1) ⟨by show 2<=sizeLine;decide,[.int i s.toks,u],.cons ⟨_,rfl⟩ (.cons ru .nil),?_⟩;.obtain⟨v,z⟩:=I.cell y c q;exact arA z.lt
   .exact⟨_,tp,rfl,0,rfl⟩
  refine⟨_,rfl,aul (s:={s with heap:=h',toks:=s.toks+1}) eo λh2 e2 s2=>?_⟩;have hTe:s.heap.objs.size≠e:=arz (hnT _ _ he);obtain⟨o1,ho1,_⟩:=hit;have hTi:s.heap.objs.size≠it:=arz (hnT _ _ ho1);refine⟨.ref s.heap.objs.size,upd H s.heap.objs.size (.tup [.int i,x]),?_,rfl,⟨_,rfl,hfr,λys hy=>⟨x,by rw[I.qZ hy hq];exact hx,rfl⟩⟩,⟨⟨_,e2⟩,?_⟩,λb hb=>?_⟩;.exact I2.turned (t':=s.toks+1) (it:=e) (λb o hb q=>(s2.2 b hb).trans q) (by rw[ag (arz hTe)];exact fe.1) fe.2.1 fe.2.2.2.1 fe.2.2.2.2.1 fe.2.2.2.2.2
  .exact it'.extBut s2.extBut (arz hne)
  .have hb':b=e\/b=it:=by simpa using hb
   rcases hb' with rfl|rfl;.rw[ag (arz hTe)];exact fe.1
   .rw[ag (arz hTi)];exact fi.1
 done:=by intro X hP hw hK i pins s σ H E hc I hf st hg;subst hP hw hK;obtain⟨⟨old,he⟩,hit⟩:=st;obtain⟨xs,hq,hx⟩:=hg;obtain⟨its,rv,p,hz⟩:=I.list hq;have fi:=hf it (by simp);have hl:=rv.length;exact wpAny_pyNext_enum_end (I.ok.hd hc) he hit p.isList (by simp;omega) λh' eb=>⟨rfl,I.turned (t':=s.toks) (λb o hb q=>eb b o hb q) fi.1 fi.2.1 fi.2.2.2.1 fi.2.2.2.2.1 fi.2.2.2.2.2⟩
 self:=λ_ _ _ _ _ h0_ h=>by obtain⟨⟨_,he⟩,_⟩:=h0_;exact atG he h
section
variable{X:Cx}
def amx(K:W.Frag)(d:TE):TI:=λe H R=>d e H λx b=>∃a,x=.ref a/\((∃c,SqT K b a c)/\R (Ite K a) b\/(∃c,SqL K b a c)/\R (anO K a) b)
def vO{l:Expr}{w:TE}{es:List Expr}{k:Nat}{P p pos:Pos}(J:Gl X "enumerate")(S:X.mg "enumerate"=none)(M:PE X l w)(E:starEach [l] X.env=[(false,eval l X.env)]:=by rfl):PI X (.Tuple es k P) (.Call (.Name "enumerate" p) [l] [] pos) (amx X.K w):=by intro g s T H R I h;have U:PA X [l] (gR w xE):=aN M cz (by unfold SE;rw[E];rfl);refine Call_ (lF I J S boot_enumerate (asi (thn (U pos g s T H (λt f=>match t with|[x]=>∃a,x=.ref a/\((∃r,SqT X.K f a r)/\R (Ite X.K a) f\/(∃r,SqL X.K f a r)/\R (anO X.K a) f)|_=>False) I h) λY c v=>?_) E rfl));obtain⟨t,f,j,z,d⟩:=v;match t,d,z with
|[x],d,z=>
  obtain⟨a,rfl,d⟩:=d;obtain⟨u,rfl,N⟩:=vals1 z;cases N;have C:c.heap.objs.size+1≠c.heap.objs.size:=Nat.succ_ne_self _;have D:∀b∈[c.heap.objs.size+1,c.heap.objs.size],yX X g f b:=λb K=>by
   have B:b=c.heap.objs.size+1\/b=c.heap.objs.size:=by simpa using K
   have n:c.heap.objs.size<=b:=by
    rcases B with e|e;.rw[e];exact ato _
    .rw[e];exact arn _
   exact j.ajR n (j.hok.fresh n)
  rcases d with⟨⟨r,A⟩,q⟩|⟨⟨r,A⟩,q⟩;.obtain⟨m,Q,p,G⟩:=j.tuple A;refine aaz (show c.heap.IsTuple a m.toArray from p) λO o i y=>atG o ?_;exact⟨c.heap.objs.size+1,[c.heap.objs.size+1,c.heap.objs.size],_,_,f,rfl,j.kept (t':=c.toks) y,zb a _ _ C,⟨⟨_,o⟩,i⟩,D,q⟩
  .obtain⟨m,Q,p,G⟩:=j.list A;refine call_enumerate_list p.isList λO o i _ y=>atG o ?_;exact⟨c.heap.objs.size+1,[c.heap.objs.size+1,c.heap.objs.size],_,_,f,rfl,j.kept (t':=c.toks) y,zc a _ _ C,⟨⟨_,o⟩,i⟩,D,q⟩|[],d,_=>exact d.elim|_::_::_,d,_=>exact d.elim
end
section
variable{κ:Type}[DecidableEq κ]
noncomputable def qh(kvs:List (κ×V))(k:κ):Option V:=(kvs.find? λa=>decide (a.1=k)).map (·.2)
noncomputable def putK(kvs:List (κ×V))(k:κ)(v:V):List (κ×V):=if(kvs.any λa=>decide (a.1=k))=true then kvs.map λa=>if a.1=k then(a.1,v)else a else kvs++[(k,v)]
def en{p r}{k:κ}(e:p.1=k):qh (p::r) k=some p.2:=by simp[qh,e]
def er{p r}{k:κ}(e:¬p.1=k):qh (p::r) k=qh r k:=by simp[qh,e]
theorem l7(k):∀a:List (κ×V),(a.any λb=>decide (b.1=k))=(qh a k).isSome
|[]=>rfl|p::r=>by
 rw[List.any_cons];by_cases e:p.1=k;.simp [en e,atg e]
 .rw[er e,ash e];exact l7 k r
theorem sf(k j:κ)(y:V):∀a:List (κ×V),qh a k=none->qh (a++[(k,y)]) j=if j=k then some y else qh a j
|[],_=>by
 by_cases e:k=j;.rw[arj e.symm];exact en (p:=(k,y)) e
 .rw[arl λz=>e z.symm];exact er (p:=(k,y)) e|p::r,hn=>by
 rw[arJ];have b:¬p.1=k:=λz=>by rw[en z]at hn;cases hn
 rw[er b]at hn;have c:=sf k j y r hn;by_cases e:p.1=j;.rw[en e,en e,arl λz=>b (e.trans z)]
 .rw[er e,er e,c]
def ja(kvs)(k:κ)(v):(putK kvs k v).length<=kvs.length+1:=by
 unfold putK;split;.rw[arB];omega
 .rw[ar7,arw,asC];omega
def aeY{kvs:List (κ×V)}{k:κ}(v:V)(h:qh kvs k=none):putK kvs k v=kvs++[(k,v)]:=by unfold putK;rw[l7,h];exact arl (by decide)
def vi.nV{o u}(r:vi o u):o.isSome=u.isSome:=by cases o with
|none=>cases u with|none=>rfl|some _=>exact(r).elim
|some _=>cases u with|none=>exact(r).elim|some _=>rfl
def KV.val{kvs vs}(r:KV kvs vs)(k:κ):vi (qh kvs k) (valueAt vs k):=by induction r with|nil=>exact True.intro|@cons p q ps qs h t ih=>
 obtain⟨a,d⟩:=h;by_cases e:p.1=k
 .have b:valueAt (q::qs) k=some q.2:=by simp[valueAt,a.symm.trans e]
  rw[en e,b];exact d
 .have c:¬q.1=k:=λz=>e (a.trans z);have b:valueAt (q::qs) k=valueAt qs k:=by simp[valueAt,c]
  rw[er e,b];exact ih
theorem KV.any{kvs vs}(r:KV kvs vs)(k:κ):(kvs.any λa=>decide (a.1=k))=vs.any λa=>decide (a.1=k):=by induction r with|nil=>rfl|cons h t ih=>rw[List.any_cons,List.any_cons,ih,h.1]
def KV.aoD{kvs vs}(r:KV kvs vs)(k:κ){y u}(c:RelV y u):KV (kvs.map λa=>if a.1=k then(a.1,y)else a) (vs.map λa=>if a.1=k then(a.1,u)else a):=by induction r with|nil=>exact .nil|@cons p q ps qs h t ih=>
 rw[arv,arv];refine .cons ?_ ih;obtain⟨b,d⟩:=h;by_cases e:p.1=k;.rw[arj e,arj (b.symm.trans e)];exact⟨b,c⟩
 .rw[arl e,arl λz=>e (b.trans z)];exact⟨b,d⟩
def KV.put{kvs vs}(r:KV kvs vs)(k:κ){y u}(a:RelV y u):KV (putK kvs k y) (stored vs k u):=by
 unfold putK stored;rw[r.any k];by_cases e:(vs.any λb=>decide (b.1=k))=true;.rw[arj e,arj e];exact r.aoD k a
 .rw[arl e,arl e];exact Paired.snoc r ⟨rfl,a⟩
theorem KV.length{kvs}{vs:List (κ×Value)}(r:KV kvs vs):kvs.length=vs.length:=Paired.length r
end
def ac5{P w}:∀{k u},RelV (kV k) u->(bP P w).is k u=true|.inl (some i),u,r=>by obtain⟨t,e⟩:=r;subst e;exact wh P w i t|.inl none,u,r=>by cases r;rfl|.inr x,u,r=>by obtain⟨t,e⟩:=r;subst e;exact wg P w x t
def abT{P w k u}(h:(bP P w).is k u=true):RelV (kV k) u:=by
 rcases bB h with⟨i,t,rfl,rfl⟩|⟨x,t,rfl,rfl⟩|⟨rfl,rfl⟩;.exact⟨t,rfl⟩
 .exact⟨t,rfl⟩
 .rfl
theorem ux{P w}:∀{ks us},Vals (ks.map kV) us->ItemsAre (bP P w) ks us|[],_,r=>by cases r;exact .nil|k::ks,_,r=>by cases r with|cons h t=>exact .cons (ac5 h) (ux t)
abbrev KT(H:Hp):List (List Key×V)->List (List Key×Addr×Value)->Prop:=Paired λp q=>p.1=q.1/\H q.2.1=some (.tup (p.1.map kV))/\RelV p.2 q.2.2
def KT.val{H kvs xs}(r:KT H kvs xs)(k):vi (qh kvs k) ((atKey xs k).map (·.2)):=by induction r with|nil=>exact True.intro|@cons p q ps qs h t ih=>
 refine ag6 h λa _ d=>?_;by_cases e:p.1=k
 .have b:atKey (q::qs) k=some q.2:=by simp[atKey,a.symm.trans e]
  rw[en e,b];exact d
 .have c:¬q.1=k:=λz=>e (a.trans z);have b:atKey (q::qs) k=atKey qs k:=by simp[atKey,c]
  rw[er e,b];exact ih
def KT.aoD{H kvs xs}(r:KT H kvs xs)(k){y u}(d:RelV y u):KT H (kvs.map λb=>if b.1=k then(b.1,y)else b) (xs.map (putAt k u)):=by induction r with|nil=>exact .nil|@cons p q ps qs h t ih=>
 rw[arv];refine .cons ?_ ih;refine ag6 h λa c f=>?_;unfold putAt;by_cases e:p.1=k;.rw[arj e,arj (a.symm.trans e)];exact⟨a,c,d⟩
 .rw[arl e,arl λz=>e (a.trans z)];exact⟨a,c,f⟩
def KT.put{H kvs xs}(r:KT H kvs xs)(k){b y u}(d:H b=some (.tup (k.map kV)))(a:RelV y u):KT H (putK kvs k y) (storedH xs k b u):=by
 have e:(kvs.any λc=>decide (c.1=k))=(atKey xs k).isSome:=by rw[l7,(r.val k).nV,Option.isSome_map]
 unfold putK storedH;rw[e];by_cases q:(atKey xs k).isSome=true;.rw[arj q,arj q];exact r.aoD k a
 .rw[arl q,arl q];exact Paired.snoc r ⟨rfl,d,a⟩
def KT.keeps{H H' kvs xs}(r:KT H kvs xs)(c:∀b a,H b=some (.tup a)->H' b=some (.tup a)):KT H' kvs xs:=Paired.alY r λ_ _ z=>⟨z.1,c _ _ z.2.1,z.2.2⟩
section
variable{P:Program}{w:World}{H:Hp}{h:Heap}{a:Addr}
def ak8{u}(ok:HOk P w H h)(e:Rd H a u):dh P w H h a u:=e.ok ok
def aac{kvs}(ok:HOk P w H h)(e:Rd H a (.dK kvs)):kvs.length<=sizeLine/\(a==sysModules)=false/\∃b,KV kvs b/\h.DictOf (bP P w) a b:=ak8 ok e
def amR{kvs}(ok:HOk P w H h)(e:H a=some (.dK kvs)):kvs.length<=sizeLine/\(a==sysModules)=false/\∃b,KV kvs b/\h.DictOf (bP P w) a b:=aac ok (.inl e)
def pV{ks}(ok:HOk P w H h)(e:H a=some (.tup (ks.map kV))):(tupleKind (bP P w)).is h ks a:=by obtain⟨_,b,r,o,c,f,n,d⟩:=ok a _ e;exact⟨o,_,n,c,f,d,by simpa using ux r⟩
def amQ{kvs}(ok:HOk P w H h)(e:Rd H a (.dT kvs)):kvs.length<=sizeLine/\(a==sysModules)=false/\∃c,KT H kvs c/\h.DictOfH (tupleKind (bP P w)) a c:=by
 obtain⟨z,y,c,r,o,j,g,i,n,k,f,d⟩:=ak8 ok e;refine⟨z,y,c,r,o,j,g,i,n,k,f,λx b=>?_,d⟩;have all:∀{l}{m},KT H l m->∀x∈m,(tupleKind (bP P w)).is h x.1 x.2.1:=by intro l m q;induction q with|nil=>intro x b;exact nomatch b|@cons p q ps qs hq t ih=>
   intro x b;rcases arx.mp b with e|b;.exact pV ok (by grind)
   .exact ih x b
 exact all r x b
def apK{kvs}(ok:HOk P w H h)(e:H a=some (.dT kvs)):kvs.length<=sizeLine/\(a==sysModules)=false/\∃b,KT H kvs b/\h.DictOfH (tupleKind (bP P w)) a b:=amQ ok (.inl e)
end
def aqD(H:Hp)(a:Addr)(y:V)(r:Option V):Prop:=(∃c k,Rd H a (.dK c)/\y=kV k/\r=qh c k)\/∃c k b,Rd H a (.dT c)/\y=.ref b/\H b=some (.tup (k.map kV))/\r=qh c k
def aj0(H:Hp)(a:Addr)(y v:V)(H':Hp):Prop:=(∃c k,H a=some (.dK c)/\y=kV k/\c.length<sizeLine/\H'=upd H a (.dK (putK c k v)))\/∃c k b,H a=some (.dT c)/\y=.ref b/\H b=some (.tup (k.map kV))/\c.length<sizeLine/\H'=upd H a (.dT (putK c k v))
theorem aj0.k{H a kvs k v}(e:H a=some (.dK kvs))(b:kvs.length<sizeLine):aj0 H a (kV k) v (upd H a (.dK (putK kvs k v))):=.inl ⟨_,k,e,rfl,b,rfl⟩
section
variable{X:Cx}{pins:List (Addr×Obj)}{σ:St}{H:Hp}{s:Shared}{a:Addr}{y v:V}{u r:Value}{o:Option V}{A:Around}{E:Value->Shared->Prop}
def Inv.big(I:Inv X pins σ H s):sysModules<s.heap.objs.size:=by exact Nat.lt_trans (by decide) (I.mod.glob.keeps I.bk).lt
def ajj{Q}(p:A.units+1<cLine)(I:Inv X pins σ H s)(g:aqD H a y o)(n:RelV y u)(h:∀m,Inv X pins σ H m->Q (.bool !o.isSome) m):wpAny (model X.prog X.w) A (compareOp .NotIn u (.ref a)) Q E s:=by
 rcases g with⟨i,k,e,d,l⟩|⟨i,k,b,e,d,t,l⟩;.subst d;obtain⟨z,j,w,c,f⟩:=aac I.hok e;refine wpAny_notIn_of (ac5 n) j f.mapOf ?_;rw[<-(c.val k).nV,<-l];exact h _ (I.tok _)
 .subst d;cases n;obtain⟨z,j,x,c,f⟩:=amQ I.hok e;refine wpAny_notIn_heap (tupleKind_room_in1 p) (pV I.hok t) j f ?_;have q:=(c.val k).nV;rw[Option.isSome_map]at q;rw[<-q,<-l];exact h _ (I.tok _)
def rJ{h' t' ob}(I:Inv X pins σ H s)(f:Mut (H a))(c:Heap.SameBut a s.heap h')(e:∃q,h'.get? a=some q)(new:dh X.prog X.w (upd H a ob) h' a ob):Inv X pins σ (upd H a ob) {s with heap:=h',toks:=t'}:=I.write  f (.inl rfl) (λb q d z=>(c.2 b d).trans z) e new
def agX{P w H' h' kvs vs}(z:kvs.length<=sizeLine)(c:(a==sysModules)=false)(b:KV kvs vs)(dd:h'.DictOf (bP P w) a vs):dh P w H' h' a (.dK kvs):=⟨z,c,vs,b,dd⟩
def adM{H' Q}(N:A.units+1<cLine)(I:Inv X pins σ H s)(g:aj0 H a y v H')(K:RelV y u)(G:RelV v r)(h:∀C,Inv X pins σ H' C->Q () C):wpAny (model X.prog X.w) A (setItem (.ref a) u r) Q E s:=by
 rcases g with⟨d,k,e,n,l,t⟩|⟨d,k,b,e,n,D,l,t⟩
 .subst n t;obtain⟨z,B,O,f,w⟩:=amR I.hok e;have m:O.length<=sizeLine:=by rw[<-f.length];exact z
  have p:(putK d k v).length<=sizeLine:=by have:=ja d k v;omega
  refine wpAny_setItem_pairs (hsz:=m) (ac5 K) w λM i x=>h _ ?_;have P:∃q,M.get? a=some q:=let⟨q,_,_,j,_⟩:=i;⟨q,j⟩;exact rJ I (by rw[e];exact True.intro) x P (agX p B (f.put k G) i)
 .subst n t;cases K;obtain⟨z,B,S,f,w⟩:=apK I.hok e;have m:S.length<=sizeLine:=by rw[<-Paired.length f];exact z
  have p:(putK d k v).length<=sizeLine:=by have:=ja d k v;omega
  refine wpAny_setItem_heap (hsz:=m) (tupleKind_room_in1 N) (pV I.hok D) w λM i x=>h _ ?_;obtain⟨q,es,R,j,U,T,Z,_,Y⟩:=i;refine rJ I (by rw[e];exact True.intro) x ⟨q,j⟩ ⟨p,B,_,(f.put k D G).keeps λc ys J=>?_,q,es,R,j,U,T,Z,Y⟩;rw[ag (apf J e λz=>nomatch z)];exact J
end
section
variable{X:Cx}{pins:List (Addr×Obj)}{σ:St}{H:Hp}{s:Shared}{a:Addr}{kvs:List (Key×V)}{A:Around}{E:Value->Shared->Prop}
def apM{Q}(I:Inv X pins σ H s)(e:Rd H a (.dK kvs))(h:∀t c,Inv X pins σ H c->Q (.int kvs.length t) c):wpAny (model X.prog X.w) A (call (.builtin "len") [.ref a]) Q E s:=by obtain⟨z,f,g,b,d⟩:=aac I.hok e;refine call_len_dict f d (by rw[<-b.length];rw[ata]at z;omega) ?_;rw[<-b.length];exact h _ _ (I.tok _)
end
def aov(e ty tv:TE):TS:=λD b H=>tv b H λv d=>e b d λx g=>ty b g λy f=>∃a c,x=.ref a/\aj0 f a y v c/\D.nx b c
section
variable{X:Cx}{o i value:Expr}{pos pos':Pos}{td ty tv:TE}
def ab5(d:X.A.units+1<cLine)(B:PE X o td)(E:PE X i ty)(p:PE X value tv)(t:swapsWith value (some (.Subscript o i pos')) pos.line X.env=pure false):PS X (.Assign [.Subscript o i pos'] value pos) (aov td ty tv):=by intro c s b H D I h;refine wpAny_Assign_Subscript (thn (p _ s b H _ I h) λr M⟨v,G,f,l,C⟩=>thn (B _ _ b _ _ f C) λu J⟨x,P,j,A,m⟩=>thn (E _ _ b _ _ j m) λQ K⟨y,N,n,q,a,z,ex,g,w⟩=>?_) t;subst ex;obtain rfl:=A;exact adM d n g q l λO k=>⟨b,z,k,w⟩
end
def yO{P w H}(h:Heap)(a:sysModules<h.objs.size):dh P w H (h.push {cls:=.type "dict",data:=.dict #[]}) h.objs.size (.dK []):=⟨arZ _,ar4.mpr (arz (arA a)),[],.nil,Heap.DictOf.new h⟩
def akE:TE:=λ_ H Q=>∀p,H p=none->Q (.ref p) (upd H p (.dK []))
section
variable{X:Cx}{pos:Pos}
def ae8:PE X (.Dict [] [] pos) akE:=λa s b H Q I h=>wpAny_Dict_empty ⟨.ref _,_,I.laid  (λ_ _ q=>arf _ q) (arn _) (yO _ I.big),rfl,h _ (I.hok.fresh (arn _))⟩
end
def xD:List (TE×TE)->St->Hp->(List (V×V)->Hp->Prop)->Prop|[],_,H,Q=>Q [] H|(tk,tv)::r,σ,H,Q=>tk σ H λx a=>tv σ a λy b=>xD r σ b λc d=>Q ((x,y)::c) d
abbrev VV:List (V×V)->List (Value×Value)->Prop:=Paired λp q=>RelV p.1 q.1/\RelV p.2 q.2
def PPs(X:Cx)(pos:Pos)(keys:List (Option Expr))(a:List Expr)(c:List (TE×TE)):Prop:=∀(b:List (Addr×Obj))(s:Shared)(d:St)(H:Hp)(Q:List (V×V)->Hp->Prop),Inv X b d H s->xD c d H Q->wpAny (model X.prog X.w) X.A (evalPairs (pairTrees keys a X.env pos)) (λg h=>∃f e,Inv X b d e h/\VV f g/\Q f e) X.xe s
def aih{X:Cx}{pos:Pos}:PPs X pos [] [] []:=λa s b H Q I h=>pairTrees_nil_walk ⟨[],H,I,.nil,h⟩
def ae1{X:Cx}{pos:Pos}{k v:Expr}{ks:List (Option Expr)}{vs:List Expr}{tk tv:TE}{b:List (TE×TE)}(f:PE X k tk)(q:PE X v tv)(j:PPs X pos ks vs b):PPs X pos (some k::ks) (v::vs) ((tk,tv)::b):=λa s d H Q I h=>pairTrees_cons_walk (thn (f a s d H _ I h) λu m⟨x,e,g,z,A⟩=>thn (q a m d e _ g A) λD l⟨y,r,i,t,n⟩=>thn (j a l d r _ i n) λws C⟨B,p,o,c,w⟩=>⟨(x,y)::B,p,o,.cons ⟨z,t⟩ c,w⟩)
def jP(kvs a:List (Key×V)):List (Key×V):=a.foldl (λb c=>putK b c.1 c.2) kvs
def KV.merge:∀{a:List (Key×V)}{b:List (Key×Value)}{kvs:List (Key×V)}{vs:List (Key×Value)},KV a b->KV kvs vs->KV (jP kvs a) (merged vs b):=by intro a b kvs vs r;unfold KV at r;induction r generalizing kvs vs with|nil=>intro q;exact q|@cons p q ps qs h t ih=>
 intro c;have e:KV (putK kvs p.1 p.2) (stored vs q.1 q.2):=by have:=c.put p.1 h.2;rw[<-h.1];exact this
 exact ih e
theorem jQ:∀(a kvs:List (Key×V)),(jP kvs a).length<=kvs.length+a.length|[],kvs=>by show kvs.length<=kvs.length+0;omega|p::r,kvs=>by have b:=jQ r (putK kvs p.1 p.2);have c:=ja kvs p.1 p.2;show(jP (putK kvs p.1 p.2) r).length<=_;rw[arw];omega
theorem p7{P:Program}{w:World}:∀{kvs:List (Key×V)}{ws:List (Value×Value)},VV (kvs.map λe=>(kV e.1,e.2)) ws->∃d,Carries (bP P w) ws d/\KV kvs d|[],_,r=>by rw[as1]at r;cases r;exact⟨[],True.intro,.nil⟩|p::kvs,_,r=>by rw[arv]at r;cases r with|@cons a b as bs h t=>obtain⟨d,c,q⟩:=p7 (P:=P) (w:=w) t;obtain⟨g,f⟩:=b;exact⟨(p.1,f)::d,⟨ac5 h.1,rfl,c⟩,.cons ⟨rfl,h.2⟩ q⟩
def aoj(b:List (TE×TE)):TE:=λf H Q=>∀p,H p=none->xD b f (upd H p (.dK [])) λe d=>d p=some (.dK [])/\∃a:List (Key×V),e=a.map (λc=>(kV c.1,c.2))/\a.length<=15/\Q (.ref p) (upd d p (.dK (jP [] a)))
def ain{X:Cx}{pos:Pos}{keys:List (Option Expr)}{b:List Expr}{f:List (TE×TE)}(h:PPs X pos keys b f)(d:keys.all (·.isSome)=true)(B:keys.length=b.length)(J:keys≠[])(k:keys.length<=15):PE X (.Dict keys b pos) (aoj f):=by
 intro j s N H Q I q;have r:=I.hok.fresh (arn s.heap.objs.size);have u:=I.laid (a:=s.heap.objs.size) (o:=.dK []) (h':=s.heap.push {cls:=.type "dict",data:=.dict #[]}) (t':=s.toks) (λ_ _ q=>arf _ q) (arn _) (yO s.heap I.big);refine wpAny_Dict_walk (knd:=bP X.prog X.w) d B J k (thn (h j _ N _ _ u (q _ r)) λws R⟨T,S,m,l,e,g,v,O,C⟩=>?_);subst v;obtain⟨n,c,A⟩:=p7 (P:=X.prog) (w:=X.w) l;obtain⟨z,M,x,D,G⟩:=amR m.hok e;cases D;refine⟨n,c,G,λh' i K=>⟨.ref s.heap.objs.size,_,?_,rfl,C⟩⟩;have p:(jP [] g).length<=sizeLine:=by have y:=jQ g [];rw[asC]at y;rw[ata];omega
 have t:∃q,h'.get? s.heap.objs.size=some q:=let⟨q,_,_,E,_⟩:=i;⟨q,E⟩;exact rJ m (by rw[e];exact True.intro) K t (agX p M (A.merge .nil) i)
section
variable{X:Cx}
theorem nq{h:Heap}:∀{us:List Value}{ds:List PyData}{a:List Addr},ReadsAll h us ds a->us.length=ds.length|_,_,_,.nil=>rfl|_,_,_,.cons _ t=>by rw[arw,arw,nq t]
def aef(p:PyData->Bool)(ds:List PyData)(k:Nat):Prop:=(∃d,ds[k]?=some d/\p d=true)/\∀m d,m<k->ds[m]?=some d->p d=false
def acK:MtR X "list.index" λx t H Q=>∃n y d b k,t=[y]/\IsD X.K H n y d/\IsD X.K H (n+1) x (.list b)/\X.A.units+1+n<cLine/\aef (λz=>PyData.eqv z d) b k/\b.length<=1000000/\Q (.int k) H:=by
 intro A s σ H x t v us Q I O G⟨n,y,d,b,k,e,N,P,T,⟨⟨Y,f,B⟩,p⟩,Z,q⟩;subst e;obtain⟨u,rfl,D⟩:=vals1 G;obtain⟨⟨as,C⟩,J,U⟩:=I.reads n d y u N D;obtain⟨⟨bs,E⟩,j,d2⟩:=I.reads _ _ x v P O;have j:PyData.canLayAll0 b=true:=by simpa[PyData.canLay0]using j
 cases E with|@list a o its m ds' as' h1 h2 h3 h4=>
 obtain⟨cl,M,R,K⟩:=o;cases h2;cases h3;have h:=SeqAt.readsAll_map b _ _ j h4;have c:=nq h4;have g:∀m(i:m<its.size),b[m]?=some (SeqAt.readOf s.heap its[m]):=λm i=>by rw[<-h,arL];simp[i]
 have r:k<its.size:=by have:=(ari.mp f).1;have:its.toList.length=b.length:=c;simp at this;omega
 have w:=g k r;rw[f]at w;have S:its.size<=1000000:=by have:its.toList.length=b.length:=c;simp at this;omega
 refine atA F.slot_list_index ⟨_,h1,rfl⟩ F.entry_list_index (F.args_list_index_2 _ _) (SeqAt.list_indexAt a its m M K u (λz=>PyData.eqv (SeqAt.readOf s.heap z) d) k r (by omega) ?_ λm i l=>?_) ⟨h1,SeqAt.items_eqAt h4 C j J (by have:=atj (PyData.depthAll b) d.depth;omega),⟨.int k,H,I.tok _,⟨_,rfl⟩,q⟩⟩;.show PyData.eqv (SeqAt.readOf s.heap its[k]) d=true;rw[<-arK w];exact B
 .exact p m _ l (g m i)
def ad7(T:X.calm=true):ba X (.builtin "all") λD H Q=>∃(l:Addr)(bs:List Bool),D=[.ref l]/\SqL X.K H l (bs.map V.bl)/\Q (.bl (bs.all id)) H:=by
 intro J s σ H D us Q I r h;obtain⟨l,bs,rfl,Y,q⟩:=h;obtain⟨u,rfl,rx⟩:=vals1 r;cases rx;obtain⟨a,G,n,hz⟩:=I.list Y;have S:=G.length;have N:l<s.heap.objs.size:=by obtain⟨o,_,y,_⟩:=n;exact ars y
 have p:∀(i:Nat)(v:Value),a.toArray[i]?=some v->∃b,bs[i]?=some b/\v=Value.bool b:=λi v U=>by
  have f:a[i]?=some v:=by simpa using U
  have c:i<(bs.map V.bl).length:=by have:=(ari.mp f).1;omega
  obtain⟨u,d,E⟩:=G.get (art c);rw[f]at d;cases d;have x:i<bs.length:=by simpa using c
  refine⟨bs[i],art x,?_⟩;rw[List.getElem_map]at E;exact E
 refine call_all_walk (wpAny_pyIter_list n.isList ⟨s.heap.objs.size,_,_,_,_,_,λi=>bs.getD i false,rfl,Walks.list (prog:=X.prog) (w:=X.w) (A:=X.A.in1) (show X.A.in1.handled=none from I.ok.hd T) s.heap.objs.size l (arA N) a.toArray,⟨⟨_,aru _ rfl,rfl,rfl⟩,?_⟩,?_,λh' tk M=>?_⟩);.obtain⟨o,k,y,t,K,j⟩:=n;exact⟨o,arf _ y,t,k,j⟩
 .intro i v R P E' Z g;obtain⟨b,B,rfl⟩:=p i v Z;have g:P (bs.getD i false) R:=g;rw[asm,B]at g;exact ass g
 .have e:(List.range a.toArray.size).all (λi=>bs.getD i false)=bs.all id:=by
   have m:a.toArray.size=bs.length:=by simp at S⊢;omega
   rw[m,asn,arV,arV];constructor;.intro h b p;obtain⟨i,c,rfl⟩:=List.getElem_of_mem p;have:=h i (asd.mpr c);rw[asm,art c]at this;exact this
   .intro h i c;have c:=asd.mp c;rw[asm,art c];exact h _ (asy c)
  rw[e];exact⟨.bl _,H,I.kept λb o C=>M b o (by
  intro z;have O:b=s.heap.objs.size:=by simpa using z
  exact absurd (ars C) (by rw[O];exact asP _)) (arf _ C),rfl,q⟩
def ac9:IxR X λx y H Q=>∃a b k v,x=.ref a/\y=kV k/\Rd H a (.dK b)/\qh b k=some v/\Q v H:=by intro f d h s A H x y v u Q I o m⟨a,_,k,z,ex,j,e,l,q⟩n;subst ex j;cases o;obtain⟨p,w,r,g,i⟩:=aac I.hok e;refine gb (vi.some_of (by rw[<-l];exact g.val k)) λt hw c=>?_;exact tail_any i.typeIs aus.lookup (wpAny_getItem_of (ac5 m) i.mapOf hw (iG z H (I.tok _) c q)) n
def aeg(w:World)(K:W.Frag)(a:Addr)(kvs:List (Str×V)):Prop:=∃b n,K.lookup a=some ⟨.type "dict",none,.dict b n,#[]⟩/\Paired (λ(p:Str×V)(e:DictEntry)=>(∃t,e.key=.str p.1 t)/\e.hash=PyData.keyHash w.params p.1/\RelV p.2 e.val) kvs b.toList
theorem pU{w:World}:∀{kvs es},Paired (λ(p:Str×V)e=>(∃t,e.key=.str p.1 t)/\e.hash=PyData.keyHash w.params p.1/\RelV p.2 e.val) kvs es->W.KeysLit w.params es|_,_,.nil=>trivial|_,_,.cons ⟨⟨t,e1⟩,e2,_⟩ r=>⟨⟨_,t,e1,e2⟩,pU r⟩
theorem adq{w:World}(k)(v):∀{kvs es},Paired (λp(e:DictEntry)=>(∃t,e.key=.str p.1 t)/\e.hash=PyData.keyHash w.params p.1/\RelV p.2 e.val) kvs es->kvs.lookup k=some v->∃e,es.find? (λe=>Value.isStrOf k e.key)=some e/\RelV v e.val
|_,_,.nil,h=>by simp at h|_,_,.cons (a:=p) (b:=e) ⟨⟨t,e1⟩,e2,rv⟩ r,h=>by
 by_cases c:k=p.1;.obtain⟨f,l⟩:=p;subst c;simp[List.lookup]at h;subst h;exact⟨e,by simp[List.find?,e1,Value.isStrOf],rv⟩
 .obtain⟨f,l⟩:=p;have d:(k==f)=false:=by simpa using c
  simp only[List.lookup,d]at h;refine gb (adq k v r h) λi g j=>?_;refine⟨i,?_,j⟩;rw[List.find?_cons,e1];have:Value.isStrOf k (.str f t)=false:=by simp[Value.isStrOf];exact λz=>c z.symm
  rw[this];exact g
def afx{a0 kvs}(D:aeg X.w X.K a0 kvs):IxR X λx y H Q=>x=.ref a0/\∃k v,y=.str k/\kvs.lookup k=some v/\Q v H:=by intro b a d s w H x y v u Q I o i⟨ex,k,z,h,l,q⟩j;subst ex h;cases o;obtain⟨t,rfl⟩:=i;refine dU D λr n f p=>?_;refine gb (adq k z p l) λe m g=>?_;have c:=W.mapOf_K (prog:=X.prog) I.kIn f (pU p);refine tail_any c.typeIs aus.lookup (wpAny_getItem_of (strKind_is _ _ k t) c ?_ (iG z H (I.tok _) g q)) j;unfold findBy;rw[<-aud,m];rfl
end
end L2
set_option autoImplicit true
set_option relaxedAutoImplicit true
namespace L2
open PySem PySem.Spec PyProof.Rows
def V12(dx:DX)(vs:Array Value)(v:Value):Prop:=vs[1]?=some v/\vs[2]?=some dx.2.2/\vs[0]?=some dx.2.1
def Trc(h:Heap)(e C:Addr)(dx:DX)(f:Value):Option Addr->Prop|none=>∃a b,h.get? e=some a/\a.cls=.ref C/\a.dict=dx.1/\a.data=.fields b/\V12 dx b .none|some T=>T≠e/\∃a b d c,h.get? e=some a/\a.cls=.ref C/\a.dict=dx.1/\a.data=.fields b/\V12 dx b (.ref T)/\h.get? T=some d/\d.data=.fields c/\c[3]?=some f
def Trc.there{h e C dx j T}(t:Trc h e C dx j T):∃a b,h.get? e=some a/\a.cls=.ref C/\a.dict=dx.1/\a.data=.fields b/\b[2]?=some dx.2.2/\b[0]?=some dx.2.1:=by cases T with|none=>refine oz t λa b c i d g f=>?_;exact⟨a,b,c,i,d,g,f.2⟩|some T=>obtain⟨_,a,b,_,_,c,i,d,g,f,_⟩:=t;exact aaI a b c i d g f.2
def Trc.keeps{h h' e C dx f T}(t:Trc h e C dx f T)(k:∀b o,b=e\/T=some b->h.get? b=some o->h'.get? b=some o):Trc h' e C dx f T:=by cases T with|none=>refine dU t λa c d r=>?_;exact⟨a,c,k _ _ (.inl rfl) d,r⟩|some T=>obtain⟨g,a,c,l,p,d,q,n,j,i,m,r⟩:=t;exact⟨g,a,c,l,p,k _ _ (.inl rfl) d,q,n,j,i,k _ _ (.inr rfl) m,r⟩
def Obj.oW(f)(o:Obj):(o.mapFields f).dict=o.dict:=by obtain⟨c,d,a,b⟩:=o;cases a<;>rfl
section
variable{M:Model}{A:Around}{E:Value->Shared->Prop}{s:Shared}
def uL{x g d L e C y vs head k Q}{dx:DX}(J:A.frames=some (g::d))(S:s.heap.FunFrames x (g::d))(T:g.frame=some L)(P:s.heap.get? e=some y)(N:y.data=.fields vs)(hsz:1<vs.size)(n:vs[2]?=some dx.2.2/\vs[0]?=some dx.2.1)(O:y.dict=dx.1)(h:∀H R,(∀b o,s.heap.get? b=some o->b≠e->b∉frs (g::d)->H.get? b=some o)->(∀b o,s.heap.get? b=some o->b∈frs (g::d)->∃K,H.get? b=some {o with slots:=K})->s.heap.objs.size<=R->Trc H e C dx (rawInt L) (some R)->Q () {s with heap:=H})(U:y.cls=.ref C):wpAny M A (do let a <-frameOf g;let m <-entryPlaceOf L k;let b <-EntryCells.newEntry head a .none (rawInt L) .none m;setField (.ref e) 1 b) Q E s:=by
 have p:e ∉(g::d).filterMap (·.frame):=λX=>by obtain⟨_,o,G,I⟩:=S.mem X;rw[P]at G;injection G with G;subst G;exact I vs N
 refine ard (wpAny_frameOf_fun J S T λc f=>?_);refine ard (wpAny_entryPlaceOf λm D=>?_);unfold EntryCells.newEntry newFields;refine ard (atF ?_ (D.sizeOk5 _ _ _ _ _));have i:c.get? e=some y:=(f.2.1 e p).trans P;have j:=arf {cls:=.type "traceback",dict:=none,data:=.fields ([head,.ref L,.none,rawInt L,.none]++if m.isEmpty then List.replicate 6 Value.none else m).toArray} i;refine asY j N hsz ?_;have B:=ar8 (ars i);have l:=as8 N (·.setIfInBounds 1 (Value.ref c.objs.size));have r:=asf (Obj.mapFields (·.setIfInBounds 1 (Value.ref c.objs.size))) j (atR l);have v:=(arU (c.push {cls:=.type "traceback",dict:=none,data:=.fields ([head,.ref L,.none,rawInt L,.none]++if m.isEmpty then List.replicate 6 Value.none else m).toArray}) (Obj.mapFields (·.setIfInBounds 1 (Value.ref c.objs.size))) (arz B)).trans (aru c rfl);have keep:∀b o,b≠e->c.get? b=some o->((c.push {cls:=.type "traceback",dict:=none,data:=.fields ([head,.ref L,.none,rawInt L,.none]++if m.isEmpty then List.replicate 6 Value.none else m).toArray}).update e (Obj.mapFields (·.setIfInBounds 1 (Value.ref c.objs.size)))).get? b=some o:=λb o u w=>by rw[arU _ _ (arz u)];exact arf _ w
 refine h _ c.objs.size (λb o w u t=>keep b o u ((f.2.1 b t).trans w)) (λb o w t=>?_) ?_ ?_;.obtain⟨K,q⟩:=f.2.2 b o w;exact⟨K,keep b _ (λz=>p (z▸t)) q⟩
 .rw[f.1];exact arn _
 .exact⟨B,_,_,_,_,r,(Obj.cls_mapFields _ _).trans U,(Obj.oW _ _).trans O,l,⟨by simp[hsz],by rw[auc];simpa using n.1,by rw[auc];simpa using n.2⟩,v,rfl,by first|(simp;done)|(rcases D with rfl|⟨_,_,_,_,_,_,_,rfl⟩<;>simp)⟩
def yi{t d a L e C dx R T Q}(r:A.frames=some (d::a))(D:s.heap.FunFrames t (d::a))(B:d.frame=some L)(X:Trc s.heap e C dx R T)(P:(R==rawInt L)=false)(h:∀i l,(∀b o,s.heap.get? b=some o->b≠e->T≠some b->b∉frs (d::a)->i.get? b=some o)->(∀b o,s.heap.get? b=some o->b∈frs (d::a)->∃sl,i.get? b=some {o with slots:=sl})->s.heap.objs.size<=l->Trc i e C dx (rawInt L) (some l)->Q () {s with heap:=i}):wpAny M A (noteFrame (.ref e) d) Q E s:=by unfold noteFrame;simp only[B];cases T with|none=>refine oz X λZ w n G k u j=>?_;refine ard (arR n u j.1 ?_);rw[arl (by decide)];exact uL r D B n u (asS.mp j.1).1 j.2 k (λi l N I y O=>h i l (λb o f x _ v=>N b o f x v) I y O) G|some T=>
 obtain⟨J,Z,w,oT,ts,n,G,k,u,j,U,m,S⟩:=X;refine ard (arR n u j.1 ?_);rw[arj (by simp)];refine ard (arR U m S ?_);rw[arl (by rw[P];exact arG)];refine ard (asY U m (asS.mp S).1 ?_);have other:∀b,b≠T->(s.heap.update T (Obj.mapFields (·.setIfInBounds 3 Value.none))).get? b=s.heap.get? b:=λb f=>arU _ _ (arz f);have c:∀b o,s.heap.get? b=some o->(∀w,o.data≠.fields w)->b≠T:=λb o f g q=>by grind
 have K:∀b∈frs (d::a),b≠T:=λb f=>by obtain⟨_,o,ho,g⟩:=D.mem f;exact c b o ho g
 refine uL r (D.of_keeps λb o f g=>⟨o,(other b (c b o f g)).trans f,rfl⟩) B ((other e (arz J)).trans n) u (asS.mp j.1).1 j.2 k (λi l N I y O=>h i l (λb o f x Y v=>?_) (λb o f p=>?_) ?_ O) G;.have H:b≠T:=λz=>Y (by rw[z]);exact N b o ((other b H).trans f) x v
 .exact I b o ((other b (K b p)).trans f) p
 .rw[<-Heap.size_after_update ..];exact y
def acD{a}{L e C T:Addr}{dx d Q}(g:a.frame=some L)(o:Trc s.heap e C dx d (some T))(c:(d==rawInt L)=true)(h:Q () s):wpAny M A (noteFrame (.ref e) a) Q E s:=by unfold noteFrame;simp only[g];obtain⟨i,q,r,t,u,f,p,n,m,k,j,b,l⟩:=o;refine ard (arR f m k.1 (ard (arR j b l ?_)));rw[arj c];exact arp h
def z9   (v:Trc s.heap e C dx fl (some T))(h:∀j,(∀b o,s.heap.get? b=some o->b≠T->j.get? b=some o)->Trc j e C dx (fr.elim .none λf=>rawInt f) (some T)->Q () {s with heap:=j}):wpAny M A (setFlight (.ref e) fr) Q E s:=by obtain⟨d,q,r,w,x,k,p,i,n,m,l,c,u⟩:=v;have a:=(asS.mp u).1;have other:∀b,b≠T->(s.heap.update T (Obj.mapFields (·.setIfInBounds 3 (fr.elim Value.none λf=>rawInt f)))).get? b=s.heap.get? b:=λb g=>arU _ _ (arz g);exact ard (arR k n m.1 (asY l c a (h _ (λb o g t=>(other b t).trans g) ⟨d,q,r,_,_,(other e (arz d)).trans k,p,i,n,m,asf _ l (atR (as8 c _)),as8 c _,by simp[a]⟩)))
end
def i6{P w H h a o}(x:dh P w H h a o):∃ob,h.get? a=some ob:=by cases o with|lst xs=>obtain⟨_,_,_,_,e⟩:=x;exact⟨_,e⟩|tup xs=>obtain⟨_,_,_,o,e,_⟩:=x;exact⟨_,e⟩|dK kvs|dT kvs=>obtain⟨_,_,_,_,o,_,_,e,_⟩:=x;exact⟨_,e⟩|set S n=>obtain⟨o,_,_,_,e,_⟩:=x;exact⟨_,e⟩|ins C dx fs=>obtain⟨_,_,_,e,_⟩:=x;exact⟨_,e⟩|own y=>exact x|xd fs=>obtain⟨_,⟨_,_,_,e,_⟩,_⟩:=x;exact⟨_,e⟩|rng lo hi=>obtain⟨_,_,_,e⟩:=x;exact⟨_,e⟩|frz ob u=>obtain⟨e,_⟩:=x;exact⟨_,e⟩|tbl ps|met f y=>exact⟨_,x⟩|tab ps=>rcases x with e|⟨_,_,_,_,_,e,_⟩<;>exact⟨_,e⟩|ext φ=>obtain⟨_,e,_⟩:=x;exact e
def FpX(X:Cx)(pins:List (Addr×Obj))(H:Hp)(b:Addr):Prop:=H b=none/\b≠X.env.locals/\b∉X.fs/\(b∈X.ex\/X.s₀.heap.get? b=none)/\(∀x c,X.env.cells.lookup x=some c->c≠b)/\∀p∈X.pn++pins,p.1≠b
structure Thr(X:Cx)(pins:List (Addr×Obj))(σ:St)(H:Hp)(s:Shared)(e C:Addr)(dx:DX)(fl:Value)(T:Option Addr):Prop where
 inv:Inv X pins σ H s
 trc:Trc s.heap e C dx fl T
 fe:FpX X pins H e
 fT:∀t,T=some t->FpX X pins H t
section
variable{X:Cx}{pins:List (Addr×Obj)}{σ:St}{H:Hp}{s:Shared}{e C:Addr}{dx:DX}{fl:Value}{T:Option Addr}
def Inv.fpX{H'}(I:Inv X pins σ H s){b}(d:s.heap.get? b=none)(i:H' b=none):FpX X pins H' b:=by
 refine⟨i,λz=>?_,λz=>?_,?_,λx c j z=>?_,λp h z=>?_⟩;.obtain⟨m,⟨o,n,l,a,_⟩,_⟩:=I.loc;rw[<-z,d]at a;cases a
 .obtain⟨_,o,a,_⟩:=I.rW.mem z;rw[d]at a;cases a
 .by_cases g:b∈X.ex;.exact .inl g
  .refine .inr ?_;cases q:X.s₀.heap.get? b with|none=>rfl|some o=>obtain⟨k,f⟩:=I.base.there b o q g;rw[d]at f;cases f
 .obtain⟨v,o,a,_⟩:=I.cell x c j;rw[z,d]at a;cases a
 .have:=(I.pin p h).1;rw[z,d]at this;cases this
def Inv.ani(I:Inv X pins σ H s){ch:List Addr}{h'}(d:∀b∈ch,FpX X pins H b)(k:∀b o,s.heap.get? b=some o->b∉ch->b∉frs X.stack->h'.get? b=some o)(f:∀b o,s.heap.get? b=some o->b∉ch->b∈frs X.stack->∃h,h'.get? b=some {o with slots:=h}):Inv X pins σ H {s with heap:=h'}:=by
 have any:=λb o q a=>by
  by_cases g:b∈frs X.stack;.exact f b o q a g
  .exact⟨o.slots,k b o q a g⟩
 have trk:∀b u,H b=some u->b∉ch/\b∉frs X.stack:=λb u q=>⟨(λz=>by rw[(d b z).1]at q;cases q),λz=>by rw[I.vw b z]at q;cases q⟩;refine I.aeL (λb g=>⟨(d b g).2.2.2.1,(d b g).2.1,(d b g).2.2.2.2.1,(d b g).2.2.2.2.2⟩) (λb o i j a q _=>k b o q a ((λb i j z=>(arx.mp (I.xJ b z)).elim i j) b i j)) (λb o _ _ a q _=>any b o q a) (λ_ _ _ _ n=>n) (λb o a q=>let⟨h,z⟩:=any b o q a;⟨_,z⟩) (λ_ _ q=>q) (λ_ _ _ q=>q) (λb y q=>⟨#[],by rw[q];simp⟩) (λm l=>?_) (λb u q=>?_) I.bare;.refine xh l λo t p x r=>?_;obtain⟨h,w⟩:=any _ o x λz=>(d _ z).2.1 rfl;exact aen _ t p w r
 .refine(I.hok b u q).vd (λc v a z=>?_) (λ_ z=>z) λ_ _ z=>z;rcases a with rfl|a;.exact k c v z (trk c u q).1 (trk c u q).2
  .exact k c v z (trk c _ a).1 (trk c _ a).2
variable{M:Model}{E:Value->Shared->Prop}{Q:Unit->Shared->Prop}
def Thr.note(t:Thr X pins σ H s e C dx fl T)(f:X.stack=X.env::X.outer)(u:X.env.frame=some X.env.locals)(h:∀j m p,Thr X pins σ H {s with heap:=j} e C dx p (some m)->Q () {s with heap:=j}):wpAny M X.A (noteFrame (.ref e) X.env) Q E s:=by
 have I:=t.inv;have g:=I.stack;rw[f]at g;have k:(fl==rawInt X.env.locals)=false->wpAny M X.A (noteFrame (.ref e) X.env) Q E s:=λc=>by
  refine yi (by rw[<-f];exact I.ok.frames) g u t.trc c λj m w v l x=>h j m (rawInt X.env.locals) ?_;have i:=I.hok.fresh l;have y:∀b∈e::T.toList,FpX X pins H b:=λb a=>by
   rcases arx.mp a with rfl|a;.exact t.fe
   .exact t.fT b (by grind)
  have d:∀b,b∉e::T.toList->b≠e/\T≠some b:=λb a=>⟨λz=>a (by rw[z];exact arD),λz=>a (by rw[z];simp)⟩;have r:=I.ani y (λb o q n a=>w b o q (d b n).1 (d b n).2 (by rw[<-f];exact a)) λb o q _ a=>v b o q (by rw[<-f];exact a);exact⟨r,x,t.fe,λb a=>by cases a;exact I.fpX (asj l) i⟩
 cases T with|none=>exact(show Thr X pins σ H s e C dx .none none->_ from λt=>by
   have c:((.none:Value)==rawInt X.env.locals)=false:=by simp[rawInt]
   refine yi (by rw[<-f];exact I.ok.frames) g u t.trc c λj m w v l x=>h j m (rawInt X.env.locals) ?_;have i:=I.hok.fresh l;have r:=I.ani (λb a=>by rw[arW.mp a];exact t.fe) (λb o q n a=>w b o q (λz=>n (by rw[z];exact arD)) (by intro z;cases z) (by rw[<-f];exact a)) λb o q _ a=>v b o q (by rw[<-f];exact a);exact⟨r,x,t.fe,λb a=>by cases a;exact I.fpX (asj l) i⟩) ⟨t.inv,t.trc,t.fe,t.fT⟩|some T0=>cases c:fl==rawInt X.env.locals with|false=>exact k c|true=>exact acD u t.trc c (h s.heap T0 fl t)
def Thr.wD{T fr}(t:Thr X pins σ H s e C dx fl (some T))(h:∀c a,Thr X pins σ H {s with heap:=c} e C dx a (some T)->(fr=none->a=.none)->Q () {s with heap:=c}){A}:wpAny M A (setFlight (.ref e) fr) Q E s:=by exact z9 t.trc λc f i=>h c _ ⟨t.inv.ani (λb g=>by rw[arW.mp g];exact t.fT T rfl) (λb o q d _=>f b o q λz=>d (by grind)) λb o q d _=>⟨o.slots,f b o q λz=>d (by grind)⟩,i,t.fe,t.fT⟩ λz=>by grind
def Thr.uH{T}(t:Thr X pins σ H s e C dx fl (some T))(h:∀a,Thr X pins σ H {s with heap:=a} e C dx .none (some T)->Q () {s with heap:=a}){A}:wpAny M A (setFlight (.ref e) none) Q E s:=t.wD λa b c z=>h _ (z rfl▸c)
def Thr.pass{α T b c Q}(t:Thr X pins σ H s e C dx fl (some T))(h:∀d a,Thr X pins σ H {s with heap:=d} e C dx a (some T)->E (.ref e) {s with heap:=d}){A}:wpAny M A (PySem.passOn b (.ref e) c:Sem α) Q E s:=by obtain⟨i,o,p,q,v,g,n,m,l,j,r,f,u⟩:=id t.trc;exact ard (arR g l j.1 (ard (t.wD λd a k _=>wpAny_throw (h _ _ k))))
end
def CXX(P:Program)(w:World):CXT:=λa H s E e c=>∃d C f T b,e=.ref d/\c.os=s.os/\AllBare c.gens/\Un (frs a) [] H b s.heap c.heap/\HOk P w b c.heap/\Trc c.heap d C f .none (some T)/\s.heap.get? d=none/\s.heap.get? T=none/\b d=none/\b T=none/\E (.ref C) f b
section
variable{X:Cx}{pins:List (Addr×Obj)}{σ:St}{H:Hp}{s s':Shared}{e:Value}{E:XK}
def Inv.thrown(I:Inv X pins σ H s)(h:CXX X.prog X.w X.stack H s E e s'):∃a C d T c,e=.ref a/\Thr X pins σ c s' a C d .none (some T)/\E (.ref C) d c:=by obtain⟨a,C,d,T,c,rfl,m,l,un,f,i,g,j,k,n,q⟩:=h;exact⟨a,C,d,T,c,rfl,⟨I.ajs m un f l λb z=>absurd z (by simp),i,I.fpX g k,λt z=>by cases z;exact I.fpX j n⟩,q⟩
end
def jb{P w K j g N d scope f h A a s H E pins σ H' s' e C dx T k}(t:Thr (dG (CXX P w) P w K j g N d scope f h A a s H E) pins σ H' s' e C dx k T)(q:E (.ref C) dx H'):(dG (CXX P w) P w K j g N d scope f h A a s H E).xe (.ref e) s':=by
 refine ard (t.note rfl rfl λn i _ m=>m.uH λl c=>?_);have I:=c.inv;have new:∀b,FpX (dG (CXX P w) P w K j g N d scope f h A a s H E) pins H' b->s.heap.get? b=none:=λb z=>by
  rcases z.2.2.2.1 with z|z;.exact absurd (show b∈[]from z) (by simp)
  .exact z
 exact⟨e,C,dx,i,H',rfl,I.os,I.bare,I.base,I.hok,c.trc,new e c.fe,new i (c.fT i rfl),c.fe.1,(c.fT i rfl).1,q⟩
section
variable{X:Cx}{k:Nat}{f:Addr}{fd:FuncData}{ps:List Str}{sp:Sp}{dvs:List V}{ds:List Value}{x:Str}{p pos:Pos}{e:Expr}{es:List Expr}{t:TA}
def abp(X:Cx)(sp:Sp)(dvs:List V)(t:TA):TE:=λd H Q=>t d H λh g=>∃E:XK,sp (h++dvs) g Q E/\∀a s e C b T c,Thr X a d c s e C b .none (some T)->E (.ref C) b c->X.xe (.ref e) s
def vK    (F:FnOk X.prog X.w X.K X.mg X.base (CXX X.prog X.w) k f fd ps sp)(v:Room k X.A)(l:Binds X.K fd ps ds)(m:Vals dvs ds)(o:∀a s e C c T b,Thr X a σ b s e C c .none (some T)->E (.ref C) c b->X.xe (.ref e) s)(I:Inv X a σ H s)(r:Vals vs us)(h:sp (vs++dvs) H Q E):wpAny (model X.prog X.w) X.A (call (.ref f) us) (EP X a σ Q) X.xe s:=by
 have g:=r.append m;have n:(us++ds).length=ps.length:=by rw[<-g.length];exact F.len _ _ _ _ h
 refine as7 (att (F.run _ _ s H _ _ _ Q E v trivial I.anG (l s us I.kIn n) g h) λr j d=>?_);cases r with|error e=>obtain⟨i,C,c,T,b,rfl,t,q⟩:=I.thrown d;exact o _ j i C c T b t q|ok fl=>cases fl with|ret u=>exact I.after d|next|brk|cont=>exact False.elim d
def qK(F:FnOk X.prog X.w X.K X.mg X.base (CXX X.prog X.w) k f fd ps sp)(v:Room k X.A)(i:Gl X x)(m:X.mg x=some (.ref f))(g:W.keepIn X.K (.ref f)=true)(n:Binds X.K fd ps ds)(o:Vals dvs ds)(j:PA X (e::es) t)(a:Dbg x:=by decide)(l:SE X e es:=by rfl)(b:BT X pos es:=by rfl):PE X (.Call (.Name x p) (e::es) [] pos) (abp X sp dvs t):=by intro d s w H Q I h;exact asK (dZ I i m (auD I.ok.mod.kin g (thn (j _ _ s w H _ I h) λz B⟨A,y,c,r,E,q,u⟩=>⟨c.kIn,vK F v n o u c r q⟩) l b) a)
end
section
variable{X:Cx}{C:Addr}
noncomputable abbrev gf:List Value:=[.type "ValueError",.type "Exception",.type "BaseException",.type "object"]
def oD(K:W.Frag)(C:Addr)(r:Option Value):Prop:=∃c b nm k bs n l sub d a j m i h f g,K.lookup C=some (excClassObj nm k C b bs c n l sub d a j m i h f g "ValueError.__new__")/\(W.tailIn K gf c&&W.nsOkIn K b&&W.nsIn K b "__init__"==some r)=true
def oD.mk{K C r bm ns nm a bs b sn sub ab col dd k0 k1 k2 k3 k5}(h:K.lookup C=some (excClassObj nm a C ns bs bm b sn sub ab col dd k0 k1 k2 k3 k5 "ValueError.__new__"))(q:(W.tailIn K gf bm&&W.nsOkIn K ns&&W.nsIn K ns "__init__"==some r)=true):oD K C r:=⟨_,_,_,_,_,_,_,_,_,_,_,_,_,_,_,_,h,q⟩
def oD.out{K:W.Frag}{h:Heap}{r}{P:Prop}(X:K.In h)(q:oD K C r)(k:∀c b nm m bs p n sub d a l o j i f g,h.get? C=some (excClassObj nm m C b bs c p n sub d a l o j i f g "ValueError.__new__")->W.nsOkIn K b=true->W.nsIn K b "__init__"=some r->OwnTail h gf c->P):P:=by obtain⟨c,b,nm,m,bs,p,n,sub,d,a,l,o,j,i,f,g,s,q⟩:=q;simp only[ary,asB]at q;exact k _ _ _ _ _ _ _ _ _ _ _ _ _ _ _ _ (X _ _ s) q.1.2 q.2 (W.tail_of_in X q.1.1)
end
abbrev Cx.sui(X:Cx)(e:Addr):Cx:={X with A:=X.A.mark (some (.ref e)),calm:=false,xe:=λ_ _=>False}
def Cx.Ok.iS{X:Cx}{E a}(ok:(X.tri E a).Ok):X.Ok:=⟨ok.mod,ok.kind,ok.glob,ok.blt,ok.above,ok.inj,ok.has,ok.cab,ok.hd,ok.frames,ok.stk,ok.exf,ok.bs,ok.bsz,ok.noex,ok.exfs,ok.rW,ok.frf⟩
theorem Cx.Ok.sui{X:Cx}(ok:X.Ok)(e):(X.sui e).Ok:=⟨ok.mod,ok.kind,ok.glob,ok.blt,ok.above,ok.inj,ok.has,ok.cab,λz=>by grind,ok.frames,ok.stk,ok.exf,ok.bs,ok.bsz,ok.noex,ok.exfs,ok.rW,ok.frf⟩
section
variable{X:Cx}{pins pins':List (Addr×Obj)}{σ:St}{H:Hp}{s:Shared}{E:Value->Shared->Prop}
theorem Inv.iS(I:Inv (X.tri E (X.pn++pins)) pins' σ H s):Inv X pins σ H s:=⟨I.ok.iS,I.os,I.bare,I.base,I.loc,I.cell,I.free,I.freeC,λp a=>I.pin p (ar6 _ a),I.hok,I.len⟩
theorem Inv.sui(I:Inv X pins σ H s)(e):Inv (X.sui e) pins σ H s:=⟨I.ok.sui e,I.os,I.bare,I.base,I.loc,I.cell,I.free,I.freeC,I.pin,I.hok,I.len⟩
def Inv.back(I:Inv X pins σ H s){e}{σ':St}{H' s'}(J:Inv (X.sui e) pins σ' H' s'):Inv X pins σ' H' s':=⟨I.ok,J.os,J.bare,J.base,J.loc,J.cell,J.free,J.freeC,J.pin,J.hok,J.len⟩
def FpX.iS{b}(h:FpX (X.tri E (X.pn++pins)) pins' H b):FpX X pins H b:=⟨h.1,h.2.1,h.2.2.1,h.2.2.2.1,h.2.2.2.2.1,λp a=>h.2.2.2.2.2 p (ar6 _ a)⟩
theorem Thr.iS{e C dx a T}(t:Thr (X.tri E (X.pn++pins)) pins' σ H s e C dx a T):Thr X pins σ H s e C dx a T:=⟨t.inv.iS,t.trc,t.fe.iS,λb c=>(t.fT b c).iS⟩
theorem SP.iS{D f s'}(h:SP (X.tri E (X.pn++pins)) pins' D f s'):SP X pins D f s':=by cases f with|next|brk|cont=>obtain⟨a,b,I,q⟩:=h;exact⟨_,b,I.iS,q⟩|ret u=>refine aaH h λv a b I r q=>?_;exact aha v _ b I.iS r q
end
section
variable{X:Cx}{pins:List (Addr×Obj)}{σ:St}{H:Hp}{s:Shared}{e Ce C:Addr}{dx:DX}{fl:Value}{T:Addr}{x n:Str}{np hpos:Pos}{b0:Stmt}{suite:List Stmt}{Q:Flow->Shared->Prop}{E:Value->Shared->Prop}
def Thr.ty(t:Thr X pins σ H s e Ce dx fl (some T)){M}:W.Looks M s.heap (typeOf (.ref e)) (.ref Ce):=by obtain⟨c,d,a,b,_,_⟩:=t.trc.there;exact b▸(W.Looks.ld a).andThen .now
def adi(t:Thr X pins σ H s e Ce dx fl (some T))(d:Gl X x)(l:X.mg x=some (.ref C))(j:W.exmOne X.K (.ref Ce) (.ref C)=some true)(k:∀a,Thr X pins σ H {s with heap:=a} e Ce dx .none (some T)->wpAny (model X.prog X.w) (X.A.mark (some (.ref e))) (storeName X.env n (.ref e)) (λ_ b=>wpAny (model X.prog X.w) (X.A.mark (some (.ref e))) (execs (b0::suite) X.env) (λf c=>wpAny (model X.prog X.w) X.A (do bindName X.env n .none;unbindBehindTheSuite X.env n hpos) (λ_ h=>Q f h) E c) (λ_ _=>False) b) (λ_ _=>False) {s with heap:=a})(i:Dbg x:=by decide):wpAny (model X.prog X.w) X.A (handleBy (.ref e) X.env [.ExceptHandler (some (.Name x np)) (some n) (b0::suite) hpos]) Q E s:=by refine wpAny_handleBy_cons (codeAny_handlers_test (dZ (X:=X.sui e) (t.inv.sui e) d l ?_ i)) (by intro q;cases q);refine(W.exm_one t.inv.kIn t.ty j).here ?_;refine aut (t.uH λa g=>?_);exact arI (k a g) (λ_ b q=>arI q (λ_ _ z=>z) λ_ _ z=>z.elim) λ_ _ z=>z.elim
def ub{i:Nat}(I:Inv X pins σ H s)(hN:X.N.Nodup)(hi:X.N[i]?=some n)(hl:X.env.scope.names.lookup n=some .local){Q:Unit->Shared->Prop}(h:∀K,Inv X pins (σ.set i none) H K->(∀b,b≠X.env.locals->K.heap.get? b=s.heap.get? b)->Q () K){A:Around}:wpAny (model X.prog X.w) A (do bindName X.env n .none;unbindBehindTheSuite X.env n hpos) Q E s:=by
 obtain⟨m,U,O⟩:=id I.loc;have B:(X.env.scope.kind==.class||X.env.scope.kind==.module&&X.env.locals !=X.env.globals)=false:=by rw[I.ok.kind];rfl
 refine wpAny_nameGoes_keeps hl U B λh' v M a=>h _ ?_ a.2;obtain⟨oL,_,_,Z,_⟩:=id U;have J:∀b o,X.s₀.heap.get? b=some o->b≠X.env.locals:=λb o e=>arA (aro (ars e) I.ok.above);refine⟨I.ok,I.os,I.bare,⟨λb o e n N D=>(a.2 b (J b o e)).trans (I.base.keep b o e n N D),λb o e n N D=>?_,I.base.free,λb o e D=>?_,I.base.tups,I.base.frzs,I.base.tbls⟩,⟨_,M,λj y v' g f e3=>?_⟩,λy c e=>?_,I.free,I.freeC,λp hp=>?_,λb ob e=>?_,by simpa using I.len⟩;.obtain⟨sl,g⟩:=I.base.slot b o e n N D;exact⟨sl,(a.2 b (J b o e)).trans g⟩
 .obtain⟨o',g⟩:=I.base.there b o e D;exact⟨o',(a.2 b (J b o e)).trans g⟩
 .have w:i≠j:=λz=>by
   subst z;by_cases S:i<σ.length;.rw[ark S]at f;cases f
   .rw[List.getElem?_eq_none (by simpa using S)]at f;cases f
  rw[arh w]at f;obtain⟨u,r,l⟩:=O j y v' g f e3;refine⟨u,r,?_⟩;have hy:y≠n:=λz=>by subst z;exact w (qS hN hi g)
  rcases l with⟨k,l⟩|⟨k,c,Y,z⟩;.exact .inl ⟨k,by show(if y=n then v else m y)=some u;rw[arl hy];exact l⟩
  .refine .inr ⟨k,c,Y,?_⟩;obtain⟨o,P,R⟩:=z;exact⟨o,(a.2 c (I.cne y c Y)).trans P,R⟩
 .obtain⟨v,o,P,R⟩:=I.cell y c e;exact⟨v,o,(a.2 c (I.cne y c e)).trans P,R⟩
 .obtain⟨e,n,t,nf,d⟩:=I.pin p hp;exact⟨(a.2 p.1 t).trans e,n,t,nf,d⟩
 .refine(I.hok b ob e).vd (λc w' G q=>(a.2 c ?_).trans q) (λ_ q=>q) λ_ _ q=>q;rintro rfl;rcases G with rfl|G;.rw[I.free]at e;cases e
  .rw[I.free]at G;cases G
def yn{i:Nat}(I:Inv X pins σ H s)(b:X.N.Nodup)(d:X.N[i]?=some n)(c:X.env.scope.names.lookup n=some .local){Q:Unit->Shared->Prop}(h:∀a,Inv X pins (σ.set i none) H a->Q () a){A:Around}:wpAny (model X.prog X.w) A (do bindName X.env n .none;unbindBehindTheSuite X.env n hpos) Q E s:=ub I b d c λa J _=>h a J
def excAt(a C:Addr)(dx:DX)(h:Heap):Prop:=∃b c,h.get? a=some b/\b.cls=.ref C/\b.dict=dx.1/\b.data=.fields c/\c[2]?=some dx.2.2/\c[0]?=some dx.2.1
def Thr.known(t:Thr X pins σ H s e Ce dx fl (some T)):Inv X pins σ (upd H e (.ext (excAt e Ce dx))) s:=by
 have I:=t.inv;have g:=t.fe;have f:∀b u,H b=some u->b≠e:=λb u q z=>by rw[z,g.1]at q;cases q
 have:=I.aeL (h':=s.heap) (H':=upd H e (.ext (excAt e Ce dx))) (g':=s.gens) (d':=s.drawn) (t':=s.toks) (ch:=[e]) (λb d=>by rw[arW.mp d];exact⟨g.2.2.2.1,g.2.1,g.2.2.2.2.1,g.2.2.2.2.2⟩) (λb o _ _ _ q _=>q) (λb o _ _ _ q _=>⟨o.slots,q⟩) (λb o d _ n=>by rw[ag λz=>d (by rw[z];exact arD)];exact n) (λb o _ q=>⟨o,q⟩) (λb y q=>by rw[ag (f b _ q)];exact q) (λb o u q=>by rw[ag (f b _ q)];exact q) (λb B q=>⟨#[],by rw[ag (f b _ q),q];simp⟩) (λm v=>v) (λb u q=>by
   by_cases d:b=e;.subst d;rw[aj]at q;cases q;obtain⟨l,h,j,p,A,w⟩:=t.trc.there;exact⟨⟨l,h,j,p,A,w⟩,⟨l,j⟩,λj p i k=>by obtain⟨o,h,a,r⟩:=i;exact⟨o,h,k o a,r⟩⟩
   .rw[ag d]at q;exact(I.hok b u q).vd (λ_ _ _ z=>z) (λc z=>by rw[ag (f c _ z)];exact z) λc y z=>by rw[ag (f c _ z)];exact z) I.bare;exact this
end
end L2
namespace L2
open PySem PySem.Spec PyProof.Rows
open PySem.W(findIn mroIn findObj specialIn takesIn clsIn hasDictIn KitX looks_findIn looks_mroIn looks_find)
section
variable{prog:Program}{w:World}{A:Around}{E:Value->Shared->Prop}{s:Shared}{K:W.Frag}{x D:Addr}{ox:Obj}{od:Option Obj}{name:Str}
def adw{nm:Value}{Q:Unit->Shared->Prop}(X:K.In s.heap)(I:W.InstAt s.heap x ox D od)(e:mroIn K D (.type "BaseException")=some true)(b:Q () s):wpAny (model prog w) A (checkBuiltinCall "BaseException.__getattribute__" ⟨[.ref x,nm],[]⟩) Q E s:=by
 have c:builtinKind "BaseException.__getattribute__"=some .slot:=by decide+kernel
 have a:splitId "BaseException.__getattribute__"=some ("BaseException","__getattribute__"):=by decide+kernel
 have i:=F.args_bexc_ga (.ref x) nm;have f:W.Looks (model prog w) s.heap (isInstance (.ref x) (.type "BaseException")) true:=I.type.andThen (looks_mroIn X e);obtain⟨h,g,d,t,os⟩:=s;simp only[checkBuiltinCall,c,a];refine ard (f.at ?_);repeat(first|wp_step)
 exact b
def agV{tk:Tok}{fill a:Bool}{Q:Value->Shared->Prop}(X:K.In s.heap)(I:W.InstAt s.heap x ox D od)(c:findIn K (.ref D) "__getattribute__"=some (some (.builtin "BaseException.__getattribute__")))(e:findIn K (.ref D) "__getattr__"=some none)(k:mroIn K D (.type "BaseException")=some true)(h:∀l,wpAny (model prog w) l (Builtin.«object.__getattribute__» ⟨[.ref x,.str name tk],[]⟩) (λfin i=>match fin with|.done (.ret v)=>wpAny (model prog w) A (handedOut v) Q E i|_=>False) (λ_ _=>False) s):wpAny (model prog w) A (getAttrBy (.ref x) (.str name tk) fill a) Q E s:=by
 have m:=I.type (M:=model prog w);have j:=looks_findIn (M:=model prog w) X c;have n:=looks_findIn (M:=model prog w) X e;have o:=F.excAttr_ValueError.ga.bind (.ref x);have b:(a&&onTheHeap (Value.builtin "BaseException.__getattribute__"))=false:=by cases a<;>rfl
 have f:(Value.builtin "BaseException.__getattribute__"==Value.builtin "object.__getattribute__")=false:=by decide+kernel
 obtain⟨p,g,d,t,os⟩:=s;unfold getAttrBy;refine asl (ard (m.at (ard (j.at ?_))));dsimp only;rw[f,Bool.and_false,arl (by decide)];unfold getAttrByItsOwn hookBefore;rw[arj (show onTheHeap (Value.ref D)=true from rfl)];refine ard (n.at (ard (auk (asl ?_))));unfold callGetattribute boundAndCalled;rw[b,arl (by decide),o];refine ard (arp (as7 (atk F.excAttr_ValueError.ga.plain F.entry_bexc_ga (adw X I k (arI (h _) (λfin i z=>?_) λ_ _ z=>z.elim)))));rcases fin with(_|_|_|_)|_<;>first|exact z|exact z.elim
def oV{g a:Value}{tk:Tok}{P:Value->Shared->Prop}(X:K.In s.heap)(I:W.InstAt s.heap x ox D od)(e:findObj K D od name=some (.bind g a))(h:wpAny (model prog w) A (call g [a,.ref x,.ref D]) P E s):wpAny (model prog w) A (Builtin.«object.__getattribute__» ⟨[.ref x,.str name tk],[]⟩) (λfin b=>match fin with|.done (.ret v)=>P v b|_=>False) E s:=by have f:=I.type (M:=model prog w);have c:=looks_find (M:=model prog w) X I e;obtain⟨j,i,d,t,os⟩:=s;refine ard (arp (ard (arp (ard (f.at (ard (c.at ?_)))))));show wpAny _ _ (holding [a] (call g [a,.ref x,.ref D])>>=ret) _ _ _;exact ard (asl (arI h (λv b z=>arp z) λ_ _ z=>z))
def ry{v:Value}{tk:Tok}{P:Value->Shared->Prop}(X:K.In s.heap)(I:W.InstAt s.heap x ox D od)(b:findObj K D od name=some (.value v))(h:P v s):wpAny (model prog w) A (Builtin.«object.__getattribute__» ⟨[.ref x,.str name tk],[]⟩) (λfin c=>match fin with|.done (.ret v)=>P v c|_=>False) E s:=by have a:=I.type (M:=model prog w);have e:=looks_find (M:=model prog w) X I b;obtain⟨g,f,d,t,os⟩:=s;refine ard (arp (ard (arp (ard (a.at (ard (e.at ?_)))))));exact arp h
structure ExcK(K:W.Frag)(D:Addr):Prop where
 cls:(clsIn K D).isSome=true
 ga:findIn K (.ref D) "__getattribute__"=some (some (.builtin "BaseException.__getattribute__"))gn:findIn K (.ref D) "__getattr__"=some none
 mb:mroIn K D (.type "BaseException")=some true
 mo:mroIn K D (.type "object")=some true
 cl:findIn K (.ref D) "__class__"=some (some (.builtin "object.__class__"))hn:specialIn K (.builtin "object.__class__") "__get__"=some (some (.builtin "getset_descriptor.__get__"))tk:takesIn K (.builtin "object.__class__")=some true
def ExcK.findCls(k:ExcK K D):findObj K D od "__class__"=some (.bind (.builtin "getset_descriptor.__get__") (.builtin "object.__class__")):=by obtain⟨b,a⟩:=ase.mp k.cls;unfold findObj;rw[a,atl,k.cl,atl];simp[k.hn,k.tk]
def adv{Q:Option Value->Shared->Prop}(k:ExcK K D)(X:K.In s.heap)(I:W.InstAt s.heap x ox D od)(h:Q (some (.ref D)) {s with toks:=s.toks+1}):wpAny (model prog w) A (getAttr? (.ref x) "__class__") Q E s:=by unfold getAttr? getAttrBy?;refine ard (wpAny_mkText (ard (auk ?_)));refine agV (s:={s with toks:=s.toks+1}) X I k.ga k.gn k.mb λa=>?_;refine oV (s:={s with toks:=s.toks+1}) X I k.findCls ?_;refine as7 (W.class_get (s:={s with toks:=s.toks+1}) (ox:=ox) (od:=od) X I k.mo ?_);exact arp (arp h)
def afO{v:Value}{a:Bool}{Q:Value->Shared->Prop}(k:ExcK K D)(X:K.In s.heap)(I:W.InstAt s.heap x ox D od)(c:findObj K D od name=some (.value v))(b:W.handedIn v=true)(h:Q v {s with toks:=s.toks+1}):wpAny (model prog w) A (getAttr (.ref x) name a) Q E s:=by unfold getAttr;refine ard (wpAny_mkText ?_);refine agV (s:={s with toks:=s.toks+1}) X I k.ga k.gn k.mb λd=>?_;refine ry (s:={s with toks:=s.toks+1}) X I c ?_;rw[W.handedOut_of b];exact arp h
def agd(x D:Addr)(h:Heap):Prop:=∃ox od,W.InstAt h x ox D od
set_option tactic.hygienic true in
def afw(k:ExcK K D):KitX K (.ref x) (.ref D) (agd x D)where
 ty:=λ_ _ _ h0_=>by obtain⟨_,_,I⟩:=h0_;exact I.type
 it:=λ_ _ X _=>by
  obtain⟨cdD,hcD⟩:=ase.mp k.cls;unfold clsIn at hcD;split at hcD;.rename_i c' d' cd' sl' ho;intro A' Q' E' s' k q;unfold isType loadHead;exact ard (at9 (k _ _ (X _ _ ho)) (arp q))
  .cases hcD
 ne:=λh tp dd its n sl X htp=>by
  obtain⟨cdD,hcD⟩:=ase.mp k.cls;refine asu.mpr λq=>?_;have e:D=tp:=Value.ref.inj (asB.mp q);subst e;unfold clsIn at hcD;split at hcD;.rename_i c' d' cd' sl' ho;have z:=(X _ _ ho).symm.trans htp;cases z
  .cases hcD
 ca:=λX h0_ q=>by obtain⟨_,_,I⟩:=h0_;exact adv k X I q
end
end L2
namespace L2
open PySem PySem.Spec PyProof.Rows
noncomputable abbrev dS(C:Addr)(dx:Option Addr)(a0:Value):Obj:={cls:=.ref C,dict:=dx,data:=.fields #[a0,.none,.none,.none,.bool false,.none]}
def lZ(e C:Addr)(dx:Option Addr)(a0:Value)(h:Heap):Prop:=h.get? e=some (dS C dx a0)
section
variable{prog:Program}{w:World}{A:Around}{E:Value->Shared->Prop}
variable{nm q:Str}{C N:Addr}{bs bm bmB:List Value}{hdct:Bool}{sn:List Str}{sub:List Value}{ab:Bool}{col:Option Bool}{dd:Option Addr}{k0 k1 k2 k3 k5:Option Value}{B newId initId:String}
variable{h:Heap}{g:Array GenState}{d:Drawn}{t:Nat}{os:OsState}
def mC(F:ExcBaseFacts B newId initId bmB)(T:OwnTail h bmB bm){mN:Str->Option Value}{rest:List Value}{fI:Addr}{s:Obj}{Q:Fin->Shared->Prop}(j:h.get? C=some (excClassObj nm q C N bs bm hdct sn sub ab col dd k0 k1 k2 k3 k5 newId))(v:h.Ns N mN)(H:mN "__init__"=some (.ref fI))(m:h.get? fI=some s)(n:s.cls=.type "function")(z:∀h' e,Heap.MadeExcOf h h' e (.ref C) rest->wpAny (model prog w) A (call (.ref fI) (.ref e::rest)) (λr p=>r=.none/\Q (.done (.ret (.ref e))) p) E ⟨h',g,d,t,os⟩)(hrest:rest.length<=sizeLine:=by size_fits):wpAny (model prog w) A (Builtin.«type.__call__» ⟨.ref C::rest,[]⟩) Q E ⟨h,g,d,t,os⟩:=by
 repeat(first|with_reducible refine auq j ?_|with_reducible refine wpAny_madeBy_exc j ?_|wp_step)
 refine codeAny_call_builtin_code (Code.quiet_builtin _ F.quiet) (wpAny_check_new_subT F T j ?_);refine codeAny_exc_new_subT F T j ?_ hrest;show wpAny _ _ _ _ _ _;have a:=arf {cls:=.ref C,data:=.fields #[.ref h.objs.size,.none,.none,.none,.bool false,.none]} (arf {cls:=.type "tuple",data:=.seq rest.toArray} j);have c:=arf {cls:=.ref C,data:=.fields #[.ref h.objs.size,.none,.none,.none,.bool false,.none]} (arf {cls:=.type "tuple",data:=.seq rest.toArray} m);have i:((h.push {cls:=.type "tuple",data:=.seq rest.toArray}).push {cls:=.ref C,data:=.fields #[.ref h.objs.size,.none,.none,.none,.bool false,.none]}).Ns N mN:=let⟨o,D,y,e,r⟩:=v;aen o D y (arf _ (arf _ e)) r;have f:((h.push {cls:=.type "tuple",data:=.seq rest.toArray}).push {cls:=.ref C,data:=.fields #[.ref h.objs.size,.none,.none,.none,.bool false,.none]}).get? (h.objs.size+1)=some {cls:=.ref C,data:=.fields #[.ref h.objs.size,.none,.none,.none,.bool false,.none]}:=by heap_get
 have l:(Value.ref C::bm).contains (.ref C)=true:=by simp
 have k:=T.keeps (h':=(h.push {cls:=.type "tuple",data:=.seq rest.toArray}).push {cls:=.ref C,data:=.fields #[.ref h.objs.size,.none,.none,.none,.bool false,.none]}) λb o e=>arf _ (arf _ e);unfold isInstance;repeat(first|with_reducible refine auq f ?_|(with_reducible refine at5 a ?_;rw[l])|wp_step)
 show wpAny _ _ (typeLookup (.ref C) _) _ _ _;refine wpAny_typeLookup_tail a i k F.mroIs F.init.lookup ?_;rw[H];refine asl (ard ?_);unfold bindSpecial;refine ard (wpAny_typeOf (T:="function") ⟨_,c,n⟩ ?_);rw[arj (by decide)];refine arp (ard (arI (z _ (h.objs.size+1) ⟨λb o G=>arf _ (arf _ G),asj (ato _),h.objs.size,f,asj (arn _),?_⟩) (λr p I=>?_) λ_ _ x=>x));.exact arf _ (Heap.get?_push_at rfl rfl)
 .obtain⟨rfl,u⟩:=I;wp_walk;exact u
def aay(F:ExcBaseFacts B newId initId bmB)(T:OwnTail h bmB bm){mN:Str->Option Value}{rest:List Value}{fI:Addr}{i:Obj}{Q:Value->Shared->Prop}(a:h.get? C=some (excClassObj nm q C N bs bm hdct sn sub ab col dd k0 k1 k2 k3 k5 newId))(j:h.Ns N mN)(n:mN "__init__"=some (.ref fI))(c:h.get? fI=some i)(f:i.cls=.type "function")(m:∀b e,Heap.MadeExcOf h b e (.ref C) rest->wpAny (model prog w) (A.under (.builtin "type.__call__" ⟨.ref C::rest,[]⟩)) (call (.ref fI) (.ref e::rest)) (λr k=>r=.none/\Q (.ref e) k) E ⟨b,g,d,t,os⟩)(hrest:rest.length<=sizeLine:=by size_fits):wpAny (model prog w) A (call (.ref C) rest) Q E ⟨h,g,d,t,os⟩:=by
 have p:=tc_lookup;have o:=tc_bind (.ref C);have s:(⟨h,g,d,t,os⟩:Shared).TypeIs (.ref C) "type":=⟨_,a,rfl⟩;refine as7 (codeAny_of_tree ?_);show wpAny _ _ (callAny (.ref C) _) _ _ _;repeat(any_goals(first|assumption|with_reducible refine auq a ?_|wp_step))
 refine⟨rfl,?_⟩;refine codeAny_call_builtin_at (Code.quiet_builtin _ (by decide+kernel)) entry_typeCall (wpAny_check_type_call_sub a (mC (hrest:=hrest) F T a j n c f λb e l=>?_));exact m b e l
end
end L2
namespace L2
open PySem PySem.Spec PyProof.Rows
open PySem.W(findIn mroIn findObj specialIn takesIn clsIn hasDictIn looks_findIn looks_mroIn looks_find InstAt)
def lz(a):refuseLoop a "__setattr__" gf=pure ():=by kernel_rfl
structure ExcS(K:W.Frag)(C:Addr):Prop where
 k:ExcK K C
 m:∃cd,clsIn K C=some cd/\cd.hasDict=true/\(cd.mro=.ref C::gf\/∃D:Addr,cd.mro=.ref C::.ref D::gf)sa:findIn K (.ref C) "__setattr__"=some (some (.builtin "object.__setattr__"))
section
variable{prog:Program}{w:World}{A:Around}{E:Value->Shared->Prop}{s:Shared}{K:W.Frag}{x C:Addr}{ox:Obj}{od:Option Obj}{name:Str}{v:Value}{R:Result->Shared->Prop}
def acm{tk}(k:ExcS K C)(X:K.In s.heap)(I:InstAt s.heap x ox C od)(j:findIn K (.ref C) name=some none)(h:∀b,wpAny (model prog w) A.in1 (Builtin.ObjectAttr.storeInOwnDict (.ref x) (.ref C) (.str name tk) name v b) (λfin a=>match fin with|.done f=>R (.ok f) a|.again c'=>c'.quiet=true/\codeAny (model prog w) A c' R a) (λe a=>R (.error e) a) s):codeAny (model prog w) A (.call (.builtin "object.__setattr__") ⟨[.ref x,.str name tk,v],[]⟩) R s:=by
 have SF:=PySem.F.store_object;refine ju k.m λc d _ g=>?_;refine atk SF.slot.plain SF.entry (@W.check_slot (model prog w) _ _ s "object.__setattr__" "object" "__setattr__" (.ref x) _ [] _ SF.kind SF.split (I.type.andThen (looks_mroIn X k.k.mo)) (SF.args (.ref x) _ v) ?_);have i:W.Looks (model prog w) s.heap (mroOf (.ref C)) c.mro:=(auj X d).andThen .now;rw[W.osa_eq,refuse_eq];refine ard (ard (I.type.here (ard (i.here ?_))));rw[show refuseLoop (.ref x) "__setattr__" c.mro=pure ()from by
 rcases g with e|⟨D,e⟩;.rw[e,auP,lz]
 .rw[e,auP,auP,lz]];refine arp (ard (I.type.here (ard ((looks_findIn X j).here (ard (arp ?_))))));exact h _
def rp{a0 Q}(k:ExcS K C)(X:K.In s.heap)(a:s.heap.get? x=some (dS C none a0))(G:findIn K (.ref C) name=some none)(h:∀d,Heap.SameBut s.heap.objs.size ((s.heap.push W.emptyDict).update x λo:Obj=>{o with dict:=some s.heap.objs.size}) d->d.Ns1 s.heap.objs.size (λy=>if y=name then some v else none)->Q () {s with heap:=d,toks:=s.toks+2}):wpAny (model prog w) A (setAttr (.ref x) name v) Q E s:=by have I:InstAt s.heap x (dS C none a0) C none:=⟨a,rfl,rfl,True.intro⟩;refine W.set_plain X I k.sa (acm (s:={s with toks:=s.toks+1}) k X I G λb=>?_);refine ju k.m λH p D _=>?_;unfold Builtin.ObjectAttr.storeInOwnDict;refine ard (arp (ard (ard (at9 a (ard (W.Looks.here (s:={s with toks:=s.toks+1}) (auj X p) ?_))))));rw[D];rw[arl (by decide)];have m:=arf (h:=s.heap) W.emptyDict a;have hd1:(s.heap.push W.emptyDict).get? s.heap.objs.size=some W.emptyDict:=aru s.heap rfl;have q:s.heap.objs.size≠x:=ar8 (ars a);refine ard (wpAny_alloc (ard (wpAny_update (o:=dS C none a0) m (arp ?_))));have j:∀b,b≠x->((s.heap.push W.emptyDict).update x λo:Obj=>{o with dict:=some s.heap.objs.size}).get? b=(s.heap.push W.emptyDict).get? b:=λb z=>arU _ _ (arz z);have g:=(j _ q).trans hd1;have t:((s.heap.push W.emptyDict).update x λo:Obj=>{o with dict:=some s.heap.objs.size}).Ns s.heap.objs.size λ_=>none:=vc W.emptyDict #[] _ g rfl (λe a=>absurd a (by simp)) λ_=>rfl;unfold Builtin.ObjectAttr.storeInDict;refine ard (arp (ard ?_));refine wpAny_nsSet1 (auo t) λd c i=>?_;refine aaH (c.count (ns:=[name]) (aun name v λy B=>absurd rfl B)) λJ r u f l n=>?_;refine ard (auz f (by rw[l];exact auA (arq n (by rw[arw,asC,ata];omega))) ?_);exact arp (h _ i c)
def uK{a0 d m ns Q}(k:ExcS K C)(X:K.In s.heap)(p:s.heap.get? x=some (dS C (some d) a0))(o:s.heap.Ns1 d m)(D:findIn K (.ref C) name=some none)(hw:PySem.Within m ns)(hz:ns.length<=100)(h:∀f,Heap.SameBut d s.heap f->f.Ns1 d (λy=>if y=name then some v else m y)->Q () {s with heap:=f,toks:=s.toks+2}):wpAny (model prog w) A (setAttr (.ref x) name v) Q E s:=by refine xh (id o) λj r q e _=>?_;have I:InstAt s.heap x (dS C (some d) a0) C (some j):=⟨p,rfl,rfl,e⟩;refine W.set_plain X I k.sa (acm k X I D λb=>?_);refine ju k.m λG t B _=>?_;unfold Builtin.ObjectAttr.storeInOwnDict;refine ard (arp (ard (ard (at9 p (ard (W.Looks.here (s:={s with toks:=s.toks+1}) (auj X t) ?_))))));rw[B,arl (by decide)];refine arp (a:=some d) ?_;unfold Builtin.ObjectAttr.storeInDict;refine ard (arp (ard ?_));refine wpAny_nsSet1 o λf c i=>?_;refine aaH (c.count (aun name v hw)) λH u z g l n=>?_;refine ard (auz g (by rw[l];exact auA (arq n (by rw[arw,ata];omega))) ?_);exact arp (h _ i c)
end
end L2
namespace L2
open PySem PySem.Spec PyProof.Rows
section
variable{prog:Program}{w:World}{A:Around}{E:Value->Shared->Prop}{h:Heap}{g:Array GenState}{d:Drawn}{t:Nat}{os:OsState}
variable{nm q:Str}{C N:Addr}{bs bm bmB:List Value}{hdct:Bool}{sn:List Str}{sub:List Value}{ab:Bool}{col:Option Bool}{dd:Option Addr}{k0 k1 k2 k3 k5:Option Value}{B newId initId:String}
def ad9(F:ExcBaseFacts B newId initId bmB)(T:OwnTail h bmB bm){e:Addr}{dx:Option Addr}{a0:Value}{rest:List Value}{Q:Value->Shared->Prop}(i:h.get? C=some (excClassObj nm q C N bs bm hdct sn sub ab col dd k0 k1 k2 k3 k5 newId))(c:h.get? e=some (dS C dx a0))(hrest:rest.length<=sizeLine)(f:Q .none ⟨(h.push {cls:=.type "tuple",data:=.seq rest.toArray}).update e (Obj.mapFields λx=>x.setIfInBounds 0 (Value.ref h.objs.size)),g,d,t,os⟩):wpAny (model prog w) A (call (.builtin initId) (.ref e::rest)) Q E ⟨h,g,d,t,os⟩:=by
 refine as7 (atk F.init.plain F.initEntry (wpAny_check_init_subT F T i c rfl ?_));wp_walk;have fin:∀b:Shared,b=⟨(h.push {cls:=.type "tuple",data:=.seq rest.toArray}).update e (Obj.mapFields λx=>x.setIfInBounds 0 (Value.ref h.objs.size)),g,d,t,os⟩->Q .none b:=λb z=>by subst z;exact f
 have go:∀v:Value,wpAny (model prog w) A.in1 (match v with|.ref a=>letGo [v]|x=>pure ()) (λ_ b=>b=⟨(h.push {cls:=.type "tuple",data:=.seq rest.toArray}).update e (Obj.mapFields λx=>x.setIfInBounds 0 (Value.ref h.objs.size)),g,d,t,os⟩) (λ_ _=>False) ⟨(h.push {cls:=.type "tuple",data:=.seq rest.toArray}).update e (Obj.mapFields λx=>x.setIfInBounds 0 (Value.ref h.objs.size)),g,d,t,os⟩:=λv=>by cases v<;>first|exact arp rfl|(wp_walk;rfl)
 refine arI (go _) (λ_ b z=>arp (fin b z)) λ_ _ z=>z.elim
end
end L2
namespace L2
open PySem PySem.Spec PyProof.Rows
open PySem.W(findIn InstAt)
def gT(d:Addr)(fs:List (Str×V))(h:Heap):Prop:=∃a,h.Ns1 d a/\(∀f,vi (fs.lookup f) (a f))/\PySem.Within a (fs.map (·.1))
def agE{P w H h e C dx a0}(a:h.get? e=some (dS C dx a0)):dh P w H h e (.ext (lZ e C dx a0)):=⟨a,⟨_,a⟩,λ_ _ q k=>k _ q⟩
def v7{P w H h d fs}(b:gT d fs h):dh P w H h d (.ext (gT d fs)):=by
 refine⟨b,?_,λl m⟨a,f,r,j⟩k=>⟨a,?_,r,j⟩⟩;.obtain⟨a,⟨o,_,_,e,_⟩,_⟩:=b;exact⟨o,e⟩
 .refine xh f λo i g e c=>?_;exact aen o i g (k _ e) c
section
variable{X:Cx}{pins:List (Addr×Obj)}{σ:St}{H:Hp}{s:Shared}{e C:Addr}{f:Str}{A:Around}{E:Value->Shared->Prop}
def yL(I:Inv X pins σ H s){dx a0}(q:H e=some (.ext (lZ e C dx a0))):s.heap.get? e=some (dS C dx a0):=(I.hok e _ q).1
def yZ{y u Q a0}(k:ExcS X.K C)(I:Inv X pins σ H s)(q:H e=some (.ext (lZ e C none a0)))(J:findIn X.K (.ref C) f=some none)(R:RelV y u)(h:∀d D,H d=none->d≠e->Inv X pins σ (upd (upd H d (.ext (gT d [(f,y)]))) e (.ext (lZ e C (some d) a0))) D->Q () D):wpAny (model X.prog X.w) A (setAttr (.ref e) f u) Q E s:=by
 have c:=yL I q;refine rp k I.kIn c J λh' t j=>h s.heap.objs.size _ (I.hok.fresh (arn _)) (ar8 (ars c)) ?_;have p:=ar8 (ars c);have v:=arf (h:=s.heap) W.emptyDict c;have hd1:(s.heap.push W.emptyDict).get? s.heap.objs.size=some W.emptyDict:=aru s.heap rfl;have P:(s.heap.push W.emptyDict).Ns s.heap.objs.size λ_=>none:=vc W.emptyDict #[] _ hd1 rfl (λe c=>absurd c (by simp)) λ_=>rfl;have N:=I.laid (a:=s.heap.objs.size) (o:=.ext (gT s.heap.objs.size [])) (h':=s.heap.push W.emptyDict) (t':=s.toks) (λb u q=>arf _ q) (arn _) (v7 ⟨_,auo P,λ_=>True.intro,λy S=>absurd rfl S⟩);have m:=asf (h:=s.heap.push W.emptyDict) (λo:Obj=>{o with dict:=some s.heap.objs.size}) v rfl;have B:∀b,b≠e->((s.heap.push W.emptyDict).update e λo:Obj=>{o with dict:=some s.heap.objs.size}).get? b=(s.heap.push W.emptyDict).get? b:=λb l=>arU _ _ (arz l);have T:upd H s.heap.objs.size (.ext (gT s.heap.objs.size [])) e=some (.ext (lZ e C none a0)):=by rw[ag (arz p)];exact q
 have O:=N.write (x:=e) (e:=e) (o:=.ext (lZ e C (some s.heap.objs.size) a0)) (t':=s.toks) (by rw[T];exact True.intro) (.inl rfl) (λb u l q=>(B b l).trans q) ⟨_,m⟩ (agE (a0:=a0) m);have r:∃o,h'.get? s.heap.objs.size=some o:=let⟨o,_,_,M,_⟩:=j;⟨o,M⟩;have G:=O.write (x:=s.heap.objs.size) (e:=s.heap.objs.size) (o:=.ext (gT s.heap.objs.size [(f,y)])) (h':=h') (t':=s.toks+2) (by rw[ag p,aj];exact True.intro) (.inl rfl) (λb u l q=>(t.2 b l).trans q) r (v7 ⟨_,j,λg=>by
 by_cases z:g=f;.rw[arj z,z];simp only[List.lookup,beq_self_eq_true];exact R
 .rw[arl z,show([(f,y)]:List (Str×V)).lookup g=none from by simp[List.lookup,ar4.mpr z]];exact True.intro,λg K=>by
  by_cases z:g=f;.rw[z];exact arD
  .exact absurd (arl z) K⟩);have w:upd (upd (upd H s.heap.objs.size (.ext (gT s.heap.objs.size []))) e (.ext (lZ e C (some s.heap.objs.size) a0))) s.heap.objs.size (.ext (gT s.heap.objs.size [(f,y)]))=upd (upd H s.heap.objs.size (.ext (gT s.heap.objs.size [(f,y)]))) e (.ext (lZ e C (some s.heap.objs.size) a0)):=by
  funext b;unfold upd;by_cases i:b=s.heap.objs.size;.rw[arj i,arl (by rw[i];exact p),arj i]
  .rw[arl i];by_cases n:b=e;.rw[arj n,arj n]
   .rw[arl n,arl n,arl i,arl i]
 rw[w]at G;exact G
def aaT{y u d fs Q a0}(k:ExcS X.K C)(I:Inv X pins σ H s)(q:H e=some (.ext (lZ e C (some d) a0)))(p:H d=some (.ext (gT d fs)))(N:d≠e)(t:findIn X.K (.ref C) f=some none)(J:RelV y u)(P:fs.length<=50)(B:fs.lookup f=none)(h:∀m,Inv X pins σ (upd H d (.ext (gT d (fs++[(f,y)])))) m->Q () m):wpAny (model X.prog X.w) A (setAttr (.ref e) f u) Q E s:=by
 have x:=yL I q;refine ju (I.hok d _ p).1 λO G r n=>?_;refine uK k I.kIn x G t n (by rw[arB];omega) λK l a=>h _ ?_;have j:∃o,K.get? d=some o:=let⟨o,_,_,c,_⟩:=a;⟨o,c⟩;refine I.write (by rw[p];exact True.intro) (.inl rfl) (λb u D q=>(l.2 b D).trans q) j (v7 ⟨_,a,λg=>?_,λg w=>?_⟩)
 .have M:(fs++[(f,y)]).lookup g=match fs.lookup g with|some v=>some v|none=>([(f,y)]:List (Str×V)).lookup g:=by grind
  rw[M];by_cases z:g=f;.rw[arj z,z,B];simp only[List.lookup,beq_self_eq_true];exact J
  .have i:=r g;rw[arl z];cases c:fs.lookup g with|some v=>rw[c]at i;exact i|none=>rw[c]at i;rw[show[(f,y)].lookup g=none from by simp[List.lookup,ar4.mpr z]];exact i
 .rw[atY];by_cases z:g=f;.rw[z];exact arE _ arD
  .exact ar6 _ (n g λy=>w (by grind))
end
section
variable{X:Cx}{e:Expr}{es:List Expr}{pos:Pos}{ta:TE}{ts:List TE}
def ajH(ta:TE):TE:=λb H Q=>ta b H λx a=>(∃i:Int,x=.int i/\i.natAbs.log2<1920/\Q (.str (toString i)) a)\/∃y:Str,x=.str y/\y.length<=sizeLine/\Q (.str y) a
def tG(g:PE X e ta):PE X (.FormattedValue e (-1) none pos) (ajH ta):=by
 intro a s l H Q I h;refine atL (thn (g a s l H _ I h) λu m b=>?_);refine l5 b λx c d f q=>?_;rcases q with⟨i,rfl,k,q⟩|⟨y,rfl,j,q⟩;.obtain⟨t,rfl⟩:=f;exact PyProof.Rows.formatField_int_small k (iG (.str _) c (d.tok _) ⟨_,rfl⟩ q)
 .obtain⟨t,rfl⟩:=f;exact PyProof.Rows.formatField_str (λn tk=>iG (.str y) c (d.tok tk) ⟨_,rfl⟩ q) j
def tJ:List TE->Str->TE|[],acc=>λa H Q=>acc.length<=sizeLine/\Q (.str acc) H|t::ts,acc=>λa H Q=>t a H λx b=>∃y:Str,x=.str y/\(acc++y).length<=sizeLine/\tJ ts (acc++y) a b Q
theorem pW:∀{es ts},Paired (PE X) es ts->∀b a s(σ:St)H Q,Inv X a σ H s->tJ ts b σ H Q->wpAny (model X.prog X.w) X.A (joinParts b (es.map λe=>eval e X.env)) (EP X a σ Q) X.xe s|[],[],_,b,a,s,σ,H,Q,I,h=>PyProof.Rows.joinParts_nil (iG (.str _) H (I.tok _) ⟨_,rfl⟩ h.2) h.1|e::es,t::ts,.cons p ps,b,a,s,σ,H,Q,I,h=>by refine PyProof.Rows.joinParts_cons (thn (p _ s σ H _ I h) λu j c=>?_);obtain⟨x,d,f,g,y,ex,i,q⟩:=c;subst ex;obtain⟨t,rfl⟩:=g;exact⟨i,pW ps _ _ _ σ d Q f q⟩
def qJ{b a es}(d:Paired (PE X) (b::a::es) ts)(f:evalEach es X.env=es.map λe=>eval e X.env:=by rfl):PE X (.JoinedStr (b::a::es) pos) (tJ ts Str.empty):=by intro c s g H Q I h;refine PyProof.Rows.JoinedStr_many ?_;rw[f];exact pW d _ _ s g H Q I h
end
set_option tactic.hygienic true in
def zO{K h N a n v}(X:K.In h)(G:h.Ns N a)(e:W.nsIn K N n=some (some v)):a n=some v:=by
 refine aeh G λo p m g i _ f=>?_;unfold W.nsIn at e;split at e
 .rename_i c d j k l q;have:=X _ _ q;rw[g]at this;cases this;cases i;split at e;.rename_i r b;cases e;rw[<-f];unfold nsFind findBy;rw[<-aud,b];rfl
  .split at e<;>cases e
 .cases e
def aq5(h:Heap)(C fI:Addr):Prop:=∃(b:List Value)(N:Addr)(nm k:Str)(bs:List Value)(n:Bool)(l:List Str)(sub:List Value)(d:Bool)(a:Option Bool)(j:Option Addr)(m i g e f:Option Value)(c:Str->Option Value),h.get? C=some (excClassObj nm k C N bs b n l sub d a j m i g e f "ValueError.__new__")/\h.Ns N c/\c "__init__"=some (.ref fI)/\OwnTail h gf b
def wY{K:W.Frag}{h:Heap}{C fI:Addr}(X:K.In h)(q:oD K C (some (.ref fI))):aq5 h C fI:=q.out X λe r nm m bs p n sub d b l o k j f i g a c t=>⟨e,r,nm,m,bs,p,n,sub,d,b,l,o,k,j,f,i,_,g,.of_isNs (W.isNs_of_in X a),zO X (.of_isNs (W.isNs_of_in X a)) c,t⟩
section
variable{X:Cx}{e:Expr}{es:List Expr}{x:Str}{np apos pos:Pos}{t:TA}{C D fI:Addr}
def xG(C:Addr)(t:TA):TE:=λg H Q=>t g H λf b=>∃ex c d y,f=[.ref ex,.str y]/\b ex=some (.ext (lZ ex C c d))/\∀a,b a=none->a≠ex->Q .non (upd (upd b a (.tup [.str y])) ex (.ext (lZ ex C c (.ref a))))
def md{pl}(U:Gl X x)(hm:X.mg x=some (.ref D))(hr:W.readsIn X.K D (.type "type")=true)(Y:W.findCls X.K (.ref D) (.type "type") "__init__"=some (.val (.builtin "ValueError.__init__")))(hs:W.specialIn X.K (.ref D) "__getattribute__"=some (some (.builtin "type.__getattribute__")))(P:oD X.K C (some (.ref fI)))(ha:PA X (e::es) t)(p:Dbg x:=by decide)(A:SE X e es:=by rfl)(v:BT X pos es:=by rfl)(ht:eval (.Call (.Attribute (.Name x np) "__init__" apos) (e::es) [] pos) X.env=(do
   let M <-eval (.Name x np) X.env
   standAt apos.atName let(f,first)<-holding [M] (getMethod M "__init__" pl)callWith pos f first (backTo pos (starEach (e::es) X.env)) (backToKw pos (keywordEach [] X.env))):=by rfl):PE X (.Call (.Attribute (.Name x np) "__init__" apos) (e::es) [] pos) (xG C t):=by
 intro j s σ H Q I h;refine auJ (pl:=pl) (dZ I U hm ?_ p) ht;refine W.method_cls I.kIn hs (W.cls_value I.kIn hr Y rfl ?_);have I0:=I.tok (s.toks+1);refine atW (thn (ha pos j _ σ H _ I0 h) λus Z z=>?_) A v;obtain⟨vs,H1,n,r1,ex,dx,a0,y,ev,K,S⟩:=z;subst ev;obtain⟨m,c,rfl,O,G⟩:∃m c,us=m::c/\RelV (.ref ex) m/\Vals [.str y] c:=by cases r1 with|cons a b=>exact⟨_,_,rfl,a,b⟩
 cases show m=Value.ref ex from O;have w:=yL n K;obtain⟨bm,N,nm,qn,bs,hd,sn,sub,ab,R,dd,k0,k1,k2,k3,k5,mN,r,hN,_,T⟩:=wY n.kIn P;have i:c.length<=sizeLine:=by rw[<-G.length];exact show 1<=sizeLine by decide
 obtain⟨l,g,d,tk,os⟩:=Z;have E:=ar8 (ars w);refine ad9 asT T r w i ⟨.non,_,?_,rfl,S l.objs.size (n.hok.fresh (arn _)) E⟩;have B:=arf (h:=l) {cls:=.type "tuple",data:=.seq c.toArray} w;have J:=n.laid (a:=l.objs.size) (o:=.tup [.str y]) (h':=l.push {cls:=.type "tuple",data:=.seq c.toArray}) (t':=tk) (λb u q=>arf _ q) (arn _) ⟨show 1<=sizeLine by decide,c,G,⟨_,aru _ rfl,rfl,_,rfl⟩⟩;have k:=asf (Obj.mapFields λx=>x.setIfInBounds 0 (Value.ref l.objs.size)) B rfl;exact J.write (x:=ex) (e:=ex) (t':=tk) (by rw[ag (arz E),K];exact True.intro) (.inl rfl) (λb u hb q=>by rw[arU _ _ (arz hb)];exact q) ⟨_,k⟩ (agE k)
end
end L2
set_option autoImplicit true
set_option relaxedAutoImplicit true
namespace L2
open PySem PySem.Spec PyProof.Rows
open PySem.W(findIn InstAt)
section
variable{prog:Program}{w:World}{A:Around}{E:Value->Shared->Prop}{s:Shared}{env:Env}
variable{nm q:Str}{C N:Addr}{bs bm bmB:List Value}{hdct:Bool}{sn:List Str}{sub:List Value}{ab:Bool}{col:Option Bool}{dd:Option Addr}{k0 k1 k2 k3 k5:Option Value}{B newId initId:String}
def ExB(C:Addr)(h:Heap):Prop:=∃nm q N bs bm hdct sn sub ab col dd k0 k1 k2 k3 k5 newId,bm.contains (.type "BaseException")=true/\h.get? C=some (excClassObj nm q C N bs bm hdct sn sub ab col dd k0 k1 k2 k3 k5 newId)
def am5(F:ExcBaseFacts B newId initId bmB){mN fI x I c i}{Z:Value->Shared->Prop}(m:bm.contains (.type "BaseException")=true)(j:(backTo c (starEach i env)).any (·.1)=false)(U:mN "__init__"=some (.ref fI))(h:wpAny (model prog w) A (eval (.Name x I) env) (λf k=>f=.ref C/\wpAny (model prog w) A (evalArgs (.ref C) true (backTo c (starEach i env)) []) (λa b=>a.kw=[]/\a.pos.length<=sizeLine/\b.heap.get? C=some (excClassObj nm q C N bs bm hdct sn sub ab col dd k0 k1 k2 k3 k5 newId)/\b.heap.Ns N mN/\OwnTail b.heap bmB bm/\(∃G,b.heap.get? fI=some G/\G.cls=.type "function")/\∀t e,Heap.MadeExcOf b.heap t e (.ref C) a.pos->wpAny (model prog w) (A.under (.builtin "type.__call__" ⟨.ref C::a.pos,[]⟩)) (call (.ref fI) (.ref e::a.pos)) (λr l=>r=.none/\l.heap.get? C=some (excClassObj nm q C N bs bm hdct sn sub ab col dd k0 k1 k2 k3 k5 newId)/\∃p n,l.heap.get? e=some (dS C p n)/\Z (.ref e) l) E {b with heap:=t}) E k) E s):wpAny (model prog w) A (eval (.Call (.Name x I) i [] c) env) (λv l=>∃e p n,v=.ref e/\ExB C l.heap/\l.heap.get? e=some (dS C p n)/\Z (.ref e) l) E s:=by refine wpAny_Call_ofName (arI h (λf k g=>?_) λ_ _ x=>x);obtain⟨rfl,g⟩:=g;refine ard (asl (arI g (λa b d=>ard (asQ ?_)) λ_ _ x=>x));obtain⟨J,H⟩:=a;obtain⟨D,o,K,O,T,⟨G,u,y⟩,d⟩:=d;obtain rfl:H=[]:=D;simp only[j];refine ard (wpAny_keeperOf_exc K ?_);refine ard (aay (hrest:=o) F T K O U u y λt e R=>arI (d t e R) (λr l M=>⟨M.1,ard (asl (wpAny_point (arp ?_)))⟩) λ_ _ z=>z);obtain⟨_,P,p,n,S,Q⟩:=M;exact⟨e,p,n,rfl,⟨_,_,_,_,_,_,_,_,_,_,_,_,_,_,_,_,_,m,P⟩,S,Q⟩
def zA{x pos Q}(k:A.handled=none)(h:wpAny (model prog w) A (eval x env) (λv b=>∃e g d,v=.ref e/\ExB C b.heap/\b.heap.get? e=some (dS C g d)/\E (.ref e) b) E s):wpAny (model prog w) A (exec (.Raise (some x) none pos) env) Q E s:=by
 rw[arm_exec_Raise];refine ard (asQ (ard (ard (arI h (λv f a=>ard (asQ (arp ?_))) λ_ _ x=>x))));obtain⟨e,g,d,rfl,⟨nm,q,N,bs,bm,hdct,sn,sub,ab,col,dd,k0,k1,k2,k3,k5,newId,m,j⟩,l,i⟩:=a;have c:(Value.ref C::bm).contains (.type "BaseException")=true:=by grind
 repeat(first|(with_reducible refine at5 j ?_;rw[c])|wp_step)
 exact wpAny_raiseNew_none k i
end
section
variable{X:Cx}{o value:Expr}{f:Str}{pos pos':Pos}{ta tv:TE}{C:Addr}
def sX1(C:Addr)(ta tv:TE)(f:Str):TS:=λD b H=>tv b H λy g=>ta b g λx a=>∃e c,x=.ref e/\a e=some (.ext (lZ e C none c))/\∀d,a d=none->d≠e->D.nx b (upd (upd a d (.ext (gT d [(f,y)]))) e (.ext (lZ e C (some d) c)))
def sX2(C:Addr)(ta tv:TE)(f:Str):TS:=λD b H=>tv b H λy g=>ta b g λx a=>∃e d fs c,x=.ref e/\a e=some (.ext (lZ e C (some d) c))/\a d=some (.ext (gT d fs))/\d≠e/\fs.length<=50/\fs.lookup f=none/\D.nx b (upd a d (.ext (gT d (fs++[(f,y)]))))
def ae0(k:ExcS X.K C)(i:findIn X.K (.ref C) f=some none)(p:PE X o ta)(t:PE X value tv)(w:swapsWith value (some (.Attribute o f pos')) pos.line X.env=pure false):PS X (.Assign [.Attribute o f pos'] value pos) (sX1 C ta tv f):=by intro c s b H D I h;refine as4 (thn (t _ s b H _ I h) λu M⟨y,E,l,v,q⟩=>thn (p _ _ b _ _ l q) λG J a=>?_) w;obtain⟨x,N,m,z,e,B,ex,g,n⟩:=a;subst ex;obtain rfl:=z;exact yZ k m g i v λd K A j r=>⟨b,_,r,n d A j⟩
def alh(k:ExcS X.K C)(i:findIn X.K (.ref C) f=some none)(t:PE X o ta)(w:PE X value tv)(B:swapsWith value (some (.Attribute o f pos')) pos.line X.env=pure false):PS X (.Assign [.Attribute o f pos'] value pos) (sX2 C ta tv f):=by intro c s b H D I h;refine as4 (thn (w _ s b H _ I h) λu O⟨y,J,l,A,q⟩=>thn (t _ _ b _ _ l q) λK M a=>?_) B;obtain⟨x,P,n,E,e,d,fs,G,ex,g,z,j,p,m,r⟩:=a;subst ex;obtain rfl:=E;exact aaT k n g z j i A p m λN v=>⟨b,_,v,r⟩
end
noncomputable def del(H:Hp)(e:Addr):Hp:=λb=>if b=e then none else H b
section
variable{X:Cx}{pins:List (Addr×Obj)}{σ:St}{H:Hp}{s:Shared}{e d:Addr}{fs:List (Str×V)}
def Inv.ahL{φ}(I:Inv X pins σ H s)(q:H e=some (.ext φ)):Inv X pins σ (del H e) s:=by
 have none_of:∀{b},H b=none->del H e b=none:=λ{b}h=>by unfold del;split<;>first|rfl|exact h
 have keep:∀{b o},H b=some o->(∀r,o≠.ext r)->del H e b=some o:=λ{b o}h n=>by unfold del;rw[arl λz=>by grind];exact h
 refine⟨I.ok,I.os,I.bare,⟨I.base.keep,I.base.slot,λb o f i g=>none_of (I.base.free b o f i g),I.base.there,λb j h=>keep (I.base.tups b j h) (λ_ z=>by cases z),λb o u h=>keep (I.base.frzs b o u h) (λ_ z=>by cases z),λb m h=>?_⟩,I.loc,I.cell,none_of I.free,λx c h=>none_of (I.freeC x c h),λp k=>?_,λb u h=>?_,I.len⟩;.obtain⟨a,t⟩:=I.base.tbls b m h;exact⟨a,keep t λ_ z=>by cases z⟩
 .refine ag6 (I.pin p k) λf i g=>?_;exact⟨f,none_of i,g⟩
 .have l:=by
   unfold del at h;split at h;.cases h
   .exact h
  exact(I.hok b u l).vd (λ_ _ _ z=>z) (λc z=>keep z λ_ y=>by cases y) λc j z=>keep z λ_ y=>by cases y
def Inv.akx (I:Inv X pins σ H s)(g:FpX X pins H e)(new:φ s.heap/\(∃o,s.heap.get? e=some o)/\∀h i,φ h->(∀o,h.get? e=some o->i.get? e=some o)->φ i):Inv X pins σ (upd H e (.ext φ)) s:=by
 have f:∀b u,H b=some u->b≠e:=λb u q z=>by rw[z,g.1]at q;cases q
 have:=I.aeL (H':=upd H e (.ext φ)) (d':=s.drawn) (t':=s.toks) (λb a=>by rw[arW.mp a];exact⟨g.2.2.2.1,g.2.1,g.2.2.2.2.1,g.2.2.2.2.2⟩) (λb o _ _ _ q _=>q) (λb o _ _ _ q _=>⟨o.slots,q⟩) (λb o a _ n=>by rw[ag λz=>a (by grind)];exact n) (λb o _ q=>⟨o,q⟩) (λb k q=>by rw[ag (f b _ q)];exact q) (λb o u q=>by rw[ag (f b _ q)];exact q) (λb l q=>⟨#[],by rw[ag (f b _ q),q];simp⟩) (λm j=>j) (λb u q=>by
   by_cases a:b=e;.subst a;rw[aj]at q;cases q;exact new
   .rw[ag a]at q;exact(I.hok b u q).vd (λ_ _ _ z=>z) (λc z=>by rw[ag (f c _ z)];exact z) λc k z=>by rw[ag (f c _ z)];exact z) I.bare;exact this
theorem Inv.xd(I:Inv X pins σ H s)(q:H d=some (.ext (gT d fs))):Inv X pins σ (upd H d (.xd fs)) s:=by obtain⟨b,a,r,g⟩:=(I.hok d _ q).1;have f:∃u,s.heap.get? d=some u:=let⟨o,_,_,c,_⟩:=a;⟨o,c⟩;exact I.write (by rw[q];exact True.intro) (.inl rfl) (λ_ _ _ z=>z) f ⟨b,a,r⟩
end
def spG(C:Addr)(b:List Str)(L:Nat)(G:List V->Hp->Prop):Sp:=λf H Q _=>∃e ws c,f=.ref e::ws/\ws.length=b.length/\H e=some (.ext (lZ e C none c))/\G ws H/\∀a y d,H a=none->y.length<=L->upd H a (.tup [.str y]) d=none->d≠e->Q .non (upd (upd (upd H a (.tup [.str y])) d (.ext (gT d (b.zip ws)))) e (.ext (lZ e C (some d) (.ref a))))
def agq(ws:List V)(_:Hp):Prop:=∀w∈ws,∃i:Int,w=.int i/\i.natAbs.log2<100
abbrev spI(C:Addr)(a:List Str):Sp:=spG C a 50000 agq
section
variable{X:Cx}{t:TA}{x:Str}{C fI:Addr}{fd:FuncData}{ps fl:List Str}{k:Nat}{np cpos pos:Pos}{e:Expr}{es:List Expr}
def yp{G L}(hg:Gl X x)(hm:X.mg x=some (.ref C))(q:oD X.K C (some (.ref fI)))(a3:W.typeIn X.K (.ref fI)=some (.type "function"))(F:FnOk X.prog X.w X.K X.mg X.base CX0 k fI fd ps (spG C fl L G))(gm:∀ws H b o,H b=none->G ws H->G ws (upd H b o))(hr:Room (k+1) X.A)(hb:Binds X.K fd ps [])(ha:PA X (e::es) t){pins s σ H}{Z:Value->Shared->Prop}{R:List V->Hp->Prop}(I:Inv X pins σ H s)(h:t σ H R)(hR:∀f E,R f E->f.length=fl.length/\G f E/\fl.length<=50/\∀s e d c y,E c=none->y.length<=L->upd E c (.tup [.str y]) d=none->d≠e->Inv X pins σ (upd (upd E c (.tup [.str y])) d (.xd (fl.zip f))) s->s.heap.get? e=some (dS C (some d) (.ref c))->FpX X pins (upd (upd E c (.tup [.str y])) d (.xd (fl.zip f))) e->Z (.ref e) s)(hd:Dbg x:=by decide)(he:SE X e es:=by rfl)(l:BT X cpos es:=by rfl):wpAny (model X.prog X.w) X.A (eval (.Call (.Name x np) (e::es) [] cpos) X.env) (λv U=>∃e dx a0,v=.ref e/\ExB C U.heap/\U.heap.get? e=some (dS C dx a0)/\Z (.ref e) U) X.xe s:=by
 obtain⟨bm,N,nm,qn,bs,hdct,sn,sub,ab,col,dd,k0,k1,k2,k3,k5,mN,hC,hN,hi,T⟩:=wY I.mod.kin q;refine gb (arP.mp a3) λoI a5 a2=>?_;refine am5 (C:=C) (nm:=nm) (q:=qn) (N:=N) (bs:=bs) (bm:=bm) (hdct:=hdct) (sn:=sn) (sub:=sub) (ab:=ab) (col:=col) (dd:=dd) (k0:=k0) (k1:=k1) (k2:=k2) (k3:=k3) (k5:=k5) asT (mN:=mN) (fI:=fI) (T.hasType asT.hasBase) (by rw[he];show(false||(backTo cpos (starEach es X.env)).any (·.1))=false;rw[l];rfl) hi (dZ I hg hm ⟨rfl,?_⟩ hd);have hA:=ha cpos pins s σ H _ I h;rw[he]at hA⊢;refine Calls.evalArgs_plain (thn hA λB s2⟨f,i,A,r2,Q⟩=>⟨rfl,?_,A.bk _ _ hC,hN.keeps A.bk,T.keeps A.bk,⟨oI,A.bk _ _ (I.mod.kin _ _ a5),a2⟩,λh' a hx=>?_⟩);.rw[<-r2.length,(hR _ _ Q).1];exact arq (hR _ _ Q).2.2.1 (by decide)
 obtain⟨hl,a4,a6,Q⟩:=hR _ _ Q;refine ju hx.there λg h1 h2 h3=>?_;have hH:i a=none:=by cases z:i a with|none=>rfl|some u=>obtain⟨o,ho⟩:=i6 (A.hok a u z);rw[hx.new]at ho;cases ho
 have J:=A.kept (t':=s2.toks) hx.keeps;have fp:∀M,M a=none->FpX X pins M a:=λM hn=>A.fpX hx.new hn;have J2:Inv X pins σ (upd i a (.ext (lZ a C none (.ref g)))) {s2 with heap:=h'}:=J.akx (fp i hH) ⟨h1,⟨_,h1⟩,λ_ _ z k=>k _ z⟩;have r3:Vals (V.ref a::f) (Value.ref a::B):=.cons rfl r2;let Q':VK:=λv M=>v=.non/\∃c y d,upd i a (.ext (lZ a C none (.ref g))) c=none/\y.length<=L/\upd (upd i a (.ext (lZ a C none (.ref g)))) c (.tup [.str y]) d=none/\d≠a/\M=upd (upd (upd (upd i a (.ext (lZ a C none (.ref g)))) c (.tup [.str y])) d (.ext (gT d (fl.zip f)))) a (.ext (lZ a C (some d) (.ref c)));have sp:spG C fl L G (V.ref a::f) (upd i a (.ext (lZ a C none (.ref g)))) Q' λ_ _ _=>False:=⟨a,f,_,rfl,hl,aj,gm _ _ _ _ hH a4,λc y d w K P z4=>⟨rfl,c,y,d,w,K,P,z4,rfl⟩⟩;have O:(Value.ref a::B).length=ps.length:=by rw[<-r3.length];exact F.len _ _ _ _ sp
 have S:=hb {s2 with heap:=h'} (Value.ref a::B) J2.kIn (by rw[ar2];exact O);rw[ar2]at S;refine as7 (att (F.run _ X.stack _ _ ⟨Value.ref a::B,[]⟩ (Value.ref a::B) _ Q' (λ_ _ _=>False) (hr.make C B []) trivial (J2.anG.make C B []) S r3 sp) λr U p=>?_);cases r with|error e'=>exact False.elim p|ok fl'=>cases fl' with|next|brk|cont=>exact False.elim p|ret u=>
   obtain⟨v,M,I3,rv,ev,c,y,d,m,hy,j,D,eH⟩:=J2.after p;subst ev eH;have n:c≠a:=λz=>by rw[z,aj]at m;cases m
   have a1:d≠c:=λz=>by rw[z,aj]at j;cases j
   have Y:=yL I3 (e:=a) (C:=C) (dx:=some d) aj;refine⟨rv,I3.bk _ _ hC,some d,_,Y,?_⟩;have I4:=I3.xd (d:=d) (fs:=fl.zip f) (by rw[ag D,aj]);have I5:=I4.ahL (e:=a) (φ:=lZ a C (some d) (.ref c)) (by rw[ag (arz D),aj]);have eH:del (upd (upd (upd (upd (upd i a (.ext (lZ a C none (.ref g)))) c (.tup [.str y])) d (.ext (gT d (fl.zip f)))) a (.ext (lZ a C (some d) (.ref c)))) d (.xd (fl.zip f))) a=upd (upd i c (.tup [.str y])) d (.xd (fl.zip f)):=by
    funext b;unfold del;by_cases w:b=a;.rw[arj w,w,ag (arz D),ag (arz n),hH]
    .rw[arl w];by_cases K:b=d;.rw[K,aj,aj]
     .rw[ag K,ag w,ag K,ag K];by_cases P:b=c;.rw[P,aj,aj]
      .rw[ag P,ag P,ag w]
   rw[eH]at I5;refine Q U a d c y (by rwa[ag n]at m) hy (by rw[ag a1]at j⊢;rwa[ag D]at j) D I5 Y (fp _ (by rw[ag (arz D),ag (arz n)];exact hH))
def ahU(X:Cx)(C:Addr)(fl:List Str)(t:TA):TS:=λ_ g H=>t g H λf b=>f.length=fl.length/\agq f b/\fl.length<=50/\∀a s e d c y,b c=none->y.length<=50000->upd b c (.tup [.str y]) d=none->d≠e->Thr X a g (upd (upd b c (.tup [.str y])) d (.xd (fl.zip f))) s e C (some d,.ref c,.none) .none none->X.xe (.ref e) s
def ab2(o:X.calm=true)(g:Gl X x)(v:X.mg x=some (.ref C))(q:oD X.K C (some (.ref fI)))(f:W.typeIn X.K (.ref fI)=some (.type "function"))(F:FnOk X.prog X.w X.K X.mg X.base CX0 k fI fd ps (spI C fl))(K:Room (k+1) X.A)(n:Binds X.K fd ps [])(u:PA X (e::es) t)(G:Dbg x:=by decide)(c:SE X e es:=by rfl)(a:BT X cpos es:=by rfl):PS X (.Raise (some (.Call (.Name x np) (e::es) [] cpos)) none pos) (ahU X C fl t):=λb s O H D I h=>zA (C:=C) (I.ok.hd o) (yp g v q f F (λ_ _ _ _ _ z=>z) K n u I h (λN M⟨A,l,j,E⟩=>⟨A,l,j,λs e d m y i p r w J c B=>E b s e d m y i p r w ⟨J,⟨_,_,c,rfl,rfl,rfl,rfl,rfl,rfl⟩,B,λt z=>by cases z⟩⟩) G c a)
end
end L2
namespace L2
open PySem PySem.Spec PyProof.Rows
section
variable{X:Cx}
inductive TyW(K:W.Frag)(H:Hp):V->Value->Prop where|non:TyW K H .non (.type "NoneType")|bl(x:Bool):TyW K H (.bl x) (.type "bool")|int(i:Int):TyW K H (.int i) (.type "int")|str(x:Str):TyW K H (.str x) (.type "str")|lst{a:Addr}{xs:List V}(e:SqL K H a xs):TyW K H (.ref a) (.type "list")|tup{a:Addr}{xs:List V}(e:SqT K H a xs):TyW K H (.ref a) (.type "tuple")
def acL:MtR X "list.count" λx g H Q=>∃n y d b,g=[y]/\IsD X.K H n y d/\IsD X.K H (n+1) x (.list b)/\X.A.units+1+n<cLine/\Q (.int (b.countP λz=>PyData.eqv z d:Nat)) H:=by
 intro h s N H x g v J Q I B l⟨n,y,d,b,e,A,C,E,q⟩;subst e;obtain⟨u,rfl,j⟩:=vals1 l;obtain⟨⟨K,i⟩,p,G⟩:=I.reads n d y u A j;obtain⟨⟨bs,k⟩,f,M⟩:=I.reads _ _ x v C B;have f:PyData.canLayAll0 b=true:=by simpa[PyData.canLay0]using f
 cases k with|@list a o its m ds' as' h1 h2 h3 h4=>
 obtain⟨cl,w,D,r⟩:=o;cases h2;cases h3;have c:=SeqAt.readsAll_map b _ _ f h4;refine atA F.slot_list_count ⟨_,h1,rfl⟩ F.entry_list_count (F.args_list_count_2 _ _) (SeqAt.list_countAt a its m w r u λz=>PyData.eqv (SeqAt.readOf s.heap z) d) ⟨h1,SeqAt.items_eqAt h4 i f p (by have:=atj (PyData.depthAll b) d.depth;omega),?_⟩;have t:(its.toList.countP λz=>PyData.eqv (SeqAt.readOf s.heap z) d)=b.countP λz=>PyData.eqv z d:=by rw[<-c,List.countP_map];rfl
 rw[t];exact⟨.int _,H,I.tok _,⟨_,rfl⟩,q⟩
def akB(t:TA):TE:=λb H Q=>t b H λc a=>∃j:Int,c=[.int j]/\-2^62<=j/\j<2^62/\∀r,a r=none->Q (.ref r) (upd a r (.rng 0 j))
def acg{a:Expr}{ta:TA}{p pos:Pos}(g:Gl X "range")(l:X.mg "range"=none)(i:PA X [a] ta)(n:starEach [a] X.env=[(false,eval a X.env)]:=by rfl):PE X (.Call (.Name "range" p) [a] [] pos) (akB ta):=by intro c s w H Q I h;refine Call_ (lF I g l auS (asi (thn (i pos c s w H _ I h) λy m d=>?_) n rfl));obtain⟨z,x,f,k,r⟩:=d;obtain⟨j,rfl,_,_,q⟩:=r;obtain⟨u,rfl,v⟩:=vals1 k;obtain⟨t,rfl⟩:=v;exact call_range_1 ⟨.ref m.heap.objs.size,_,f.laid (o:=.rng 0 j) (λb o e=>arf _ e) (arn _) ⟨_,_,_,aru _ rfl⟩,rfl,q _ (f.hok.fresh (arn _))⟩
def rR(z:X.calm=true):ba X (.type "list") λj H Q=>∃(r:Addr)(n:Nat),j=[.ref r]/\H r=some (.rng 0 n)/\n<=1000/\∀l,H l=none->Q (.ref l) (upd H l (.lst ((List.range n).map λi=>.int (i:Nat)))):=by
 intro m s D H j c Q I r h;obtain⟨a,n,rfl,C,w,q⟩:=h;obtain⟨u,rfl,B⟩:=vals1 r;cases show u=Value.ref a from B;obtain⟨t,u,v,e⟩:=show dh X.prog X.w H s.heap a (.rng 0 n)from I.hok a _ C;refine call_list_range (n:=n) (I.ok.hd z) e (small_one (by omega) (by omega) (by omega) (by omega)) (by rw[rangeSize_one];split<;>omega) (by omega) λE tk d p y A b=>?_;refine⟨.ref s.heap.objs.size,_,I.laid (t':=tk) (o:=.lst ((List.range n).map λi=>.int (i:Nat))) y (arn _) ⟨?_,d.toList,p,?_,by simpa using A⟩,rfl,q _ (I.hok.fresh (arn _))⟩;.rw[arB,List.length_range];exact arq w (by decide)
 .have go:∀(c:List Value)(k:Nat),(∀(i:Nat)(v:Value),c[i]?=some v->∃t,v=.int ((k+i:Nat):Int) t)->Vals ((List.range' k c.length).map λi=>V.int (i:Nat)) c:=by intro c;induction c with|nil=>intro k _;exact .nil|cons u c ih=>
    intro k g;rw[arw,List.range'_succ,arv];refine .cons ?_ (ih (k+1) λi v f=>?_);.obtain⟨t,e⟩:=g 0 u rfl;exact⟨t,by simpa using e⟩
    .obtain⟨t,e⟩:=g (i+1) v (by simpa using f);exact⟨t,by rw[e];congr 1;omega⟩
  have x:d.toList.length=n:=by simpa using b.1
  have:=go d.toList 0 λi v f=>by obtain⟨t,e⟩:=b.2 i v (by simpa using f);exact⟨t,by rw[e];congr 1;omega⟩
  rw[x]at this;rw[List.range_eq_range'];exact this
end
def Itd(a:Addr)(od:Obj)(kvs:List (Key×V)):It:=⟨λi H=>H a=some (.frz od (.dK kvs))/\i<kvs.length,λi H x b=>b=H/\∃p,kvs[i]?=some p/\x=kV p.1,λi H=>H a=some (.frz od (.dK kvs))/\kvs.length<=i⟩
section
variable{X:Cx}{pins:List (Addr×Obj)}{σ:St}{H:Hp}{s:Shared}{a:Addr}{kvs:List (Key×V)}{od:Obj}
def Inv.apu(I:Inv X pins σ H s)(e:H a=some (.frz od (.dK kvs))):(a==sysModules)=false/\∃c b d,KV kvs c/\od.data=.dict b d/\s.heap.DictAt (bP X.prog X.w) a c d:=by obtain⟨g,z,m,c,f,o,b,d,i,k,h,l,j,n⟩:=I.hok a _ e;rw[g]at i;cases i;exact⟨m,c,b,d,f,h,od,b,g,k,h,l,j,n⟩
def KV.get{kvs:List (Key×V)}{vs:List (Key×Value)}(r:KV kvs vs){i:Nat}{p:Key×V}(e:kvs[i]?=some p):∃q:Key×Value,vs[i]?=some q/\p.1=q.1/\RelV p.2 q.2:=by unfold KV at r;induction r generalizing i with|nil=>simp at e|cons h t ih=>cases i with|zero=>simp at e;subst e;exact⟨_,rfl,h⟩|succ i=>simpa using ih (by simpa using e)
end
def abi{P:Program}{w:World}{K:W.Frag}{tg:Expr}(a it:Addr)(od:Obj)(kvs:List (Key×V))(ep:Nat)(hep:∃es,od.data=.dict es ep):Turn P w K tg (Itd a od kvs) [it] it λi h=>h.IsKeyIter it a i kvs.length ep where
 mem:=by simp
 obj:=λi h st b hb=>by
  have e:b=it:=by simpa using hb
  subst e;obtain⟨o,e,c,d⟩:=st;exact⟨o,e,λv z=>by rw[d]at z;cases z⟩
 keep:=λi h h' st k=>st.at λo e=>k it (by simp) o e;item:=by intro X hP hw hK i pins s σ H E hc I hf st hg;subst hP hw hK;obtain⟨hq,hi⟩:=hg;obtain⟨hd,vs,es,ep',rel,hdat,hat⟩:=I.apu hq;obtain⟨es',he⟩:=hep;rw[hdat]at he;cases he;obtain⟨q,hx,hk,rq⟩:=rel.get (art hi);obtain⟨k,v⟩:=q;obtain⟨f0,f1,f2,f3,f4,f5⟩:=hf it (by simp);have hl:=rel.length;refine wpAny_pyNext_dict_item (show s.heap.IsKeyIter it a i vs.length ep by rw[<-hl];exact st) hat hx λkey h' hkey st' sb=>?_;have I1:Inv X pins σ H {s with heap:=h'}:=I.turned (t':=s.toks) (λb o hb e=>(sb.2 b hb).trans e) f0 f1 f3 f4 f5;obtain⟨o,e,c,d⟩:=id st';refine⟨key,rfl,z5 (s:={s with heap:=h'}) e c d (by decide) ⟨kV kvs[i].1,H,I1,?_,⟨rfl,kvs[i],art hi,rfl⟩,by rw[hl];exact st',λb hb=>(hf b hb).1⟩⟩;rw[hk];exact abT hkey
 done:=by intro X hP hw hK i pins s σ H E hc I hf st hg;subst hP hw hK;obtain⟨hq,hi⟩:=hg;obtain⟨hd,vs,es,ep',rel,hdat,hat⟩:=I.apu hq;obtain⟨es',he⟩:=hep;rw[hdat]at he;cases he;obtain⟨f0,f1,f2,f3,f4,f5⟩:=hf it (by simp);have hl:=rel.length;exact wpAny_pyNext_dict_end (I.ok.hd hc) (show s.heap.IsKeyIter it a i vs.length ep by rw[<-hl];exact st) hat (by simp;omega) λh' eb=>⟨rfl,I.turned (t':=s.toks) (λb o hb e=>eb b o hb e) f0 f1 f3 f4 f5⟩
 self:=λ_ _ _ _ _ st h=>wpAny_pyIter_keyiter st h
def aqX(d:TE):TI:=λe H R=>d e H λx c=>∃a od b,x=.ref a/\c a=some (.frz od (.dK b))/\R (Itd a od b) c
def ace{X y l n}(B:PE X l n):PI X y l (aqX n):=by
 intro d s C H R I h;refine thn (B d s C H _ I h) λv i g=>?_;refine l5 g λx p f r z=>?_;refine aaH z λa od k e u q=>?_;subst e;cases r;obtain⟨A,D,w,t,m,c,j⟩:=f.apu u;refine wpAny_pyIter_dict A j (aj5 i.heap.objs.size [i.heap.objs.size] _ _ p rfl (f.kept λb o e=>arf _ e) (abi a _ od k t ⟨w,c⟩) ⟨_,aru _ rfl,rfl,by rw[m.length];rfl⟩ (λb E=>?_) q);have e:b=i.heap.objs.size:=by grind
 subst e;exact f.ajR (arn _) (f.hok.fresh (arn _))
def Inv.amD{X pins}{σ:St}{H s a kvs}(I:Inv X pins σ H s)(e:H a=some (.dK kvs)):∃od,Inv X pins σ (upd H a (.frz od (.dK kvs))) s/\∀o u,X.H₀ a≠some (.frz o u):=by have ob:=I.hok a _ e;obtain⟨z,h,d,b,o,g,f,c,r⟩:=id ob;refine⟨o,rJ  I (by rw[e];exact True.intro) (Heap.SameBut.refl ..) ⟨o,c⟩ ⟨c,z,h,d,b,o,g,f,c,r⟩,λi u z=>?_⟩;have:=I.base.frzs a _ u z;rw[e]at this;cases this
def Inv.adk{X pins}{σ:St}{H s a kvs od}(I:Inv X pins σ H s)(e:H a=some (.frz od (.dK kvs)))(k:∀o u,X.H₀ a≠some (.frz o u)):Inv X pins σ (upd H a (.dK kvs)) s:=by
 have ob:=I.hok a _ e;have f:∀{b:Addr},H b=none->upd H a (.dK kvs) b=none:=λ{b}z=>by rw[ag λq=>by rw[q,e]at z;cases z];exact z
 refine⟨I.ok,I.os,I.bare,⟨I.base.keep,I.base.slot,λb o q n v=>f (I.base.free b o q n v),I.base.there,λb g q=>?_,λb o u q=>?_,λb m q=>?_⟩,I.loc,I.cell,f I.free,λx c q=>f (I.freeC x c q),λp j=>?_,λb u q=>?_,I.len⟩;.have z:=I.base.tups b g q;rw[ag λy=>by rw[y,e]at z;cases z];exact z
 .have z:=I.base.frzs b o u q;rw[ag λy=>by rw[y]at q;exact k _ _ q];exact z
 .obtain⟨d,z⟩:=I.base.tbls b m q;exact⟨d,by rw[ag λy=>by rw[y,e]at z;cases z];exact z⟩
 .refine ag6 (I.pin p j) λl w t=>?_;exact⟨l,f w,t⟩
 .have i:∀{b:Addr}{u:HO},dh X.prog X.w H s.heap b u->dh X.prog X.w (upd H a (.dK kvs)) s.heap b u:=λ{b u}x=>x.vd (λ_ _ _ q=>q) (λc r=>by rw[ag λy=>by rw[y,e]at r;cases r];exact r) λc g r=>by rw[ag λy=>by rw[y,e]at r;cases r];exact r
  by_cases h:b=a;.subst h;rw[aj]at q;cases q;exact i ob.2
  .rw[ag h]at q;exact i (I.hok b u q)
section
variable{X:Cx}{pins:List (Addr×Obj)}{σ:St}{H:Hp}{s:Shared}{e Ce A B C D:Addr}{dx:DX}{fl:Value}{T:Addr}{a b c d:Str}{pa pb pc pd pos:Pos}
def ai9{k}{Q:Value->Shared->Prop}{E:Value->Shared->Prop}(I:Inv X pins σ H s)(j:Gl X a/\X.mg a=some (.ref A))(g:Gl X b/\X.mg b=some (.ref B))(f:Gl X c/\X.mg c=some (.ref C))(i:Gl X d/\X.mg d=some (.ref D))(h:Q (.ref s.heap.objs.size) {s with heap:=s.heap.push {cls:=.type "tuple",data:=.seq [Value.ref A,.ref B,.ref C,.ref D].toArray}})(m:Dbg a:=by decide)(l:Dbg b:=by decide)(o:Dbg c:=by decide)(dd:Dbg d:=by decide):wpAny (model X.prog X.w) X.A (eval (.Tuple [.Name a pa,.Name b pb,.Name c pc,.Name d pd] k pos) X.env) Q E s:=by refine wpAny_Tuple_spliced ?_;refine as6 (dZ I j.1 j.2 (as6 (dZ I g.1 g.2 (as6 (dZ I f.1 f.2 (as6 (dZ I i.1 i.2 (Calls.spliced_nil ⟨show 4<=sizeLine by decide,h⟩) dd)) o)) l)) m)
theorem Thr.push(t:Thr X pins σ H s e Ce dx fl (some T))(o):Thr X pins σ H {s with heap:=s.heap.push o} e Ce dx fl (some T):=⟨t.inv.kept λb u q=>arf _ q,t.trc.keeps λb u _ q=>arf _ q,t.fe,t.fT⟩
end
section
variable{prog:Program}{w:World}{A:Around}{E:Value->Shared->Prop}{s:Shared}
def rE:entryFor table "proto.unchain"=some Builtin.«proto.unchain»:=entryFor_of_tree (by kernel_rfl)
def qH{α:Type}{e h:Addr}{g j:Obj}{a b:Array Value}{Q:α->Shared->Prop}(n:A.handled=some (.ref h))(i:s.heap.get? e=some g)(d:g.data=.fields a)(hsz:2<a.size)(o:s.heap.get? h=some j)(c:j.data=.fields b)(k:b[2]?=some .none)(l:h≠e)(m:E (.ref e) {s with heap:=s.heap.update e (Obj.mapFields (·.setIfInBounds 2 (.ref h)))}):wpAny (model prog w) A (raiseNew (α:=α) (.ref e)) Q E s:=by
 simp only[raiseNew];refine ard (wpAny_handled ?_);rw[n];have f:(Value.ref h !=Value.ref e)=true:=by simpa using l
 show wpAny _ _ (if(Value.ref h !=Value.ref e)=true then _ else _) _ _ _;rw[arj f];refine ard (asl (wpAny_runValue (codeAny_builtin rE ?_)));show wpAny _ _ (field (.ref h) 2 >>=_) _ _ s;refine ard (arR o c k ?_);refine ard (arp (arp ?_));unfold updateField;refine ard (ard (wpAny_load i ?_));rw[d];show wpAny _ _ (if 2<a.size then _ else _) _ _ _;rw[arj hsz];exact wpAny_update i (wpAny_throw m)
end
end L2
set_option autoImplicit true
set_option relaxedAutoImplicit true
namespace L2
open PySem PySem.Spec PyProof.Rows
open PySem.W(findIn InstAt mroIn)
section
variable{prog:Program}{w:World}{A:Around}{E:Value->Shared->Prop}{s:Shared}{env:Env}{C Ch h e:Addr}
def yK{a:Obj}{vs k}{Q:Value->Shared->Prop}(B:s.heap.get? e=some a)(j:a.cls=.ref C)(p:a.data=.fields vs)(n:ExB C s.heap)(o:Q (.ref e) s):wpAny (model prog w) A (excFromValue (.ref e) k) Q E s:=by
 obtain⟨nm,q,N,bs,m,i,J,sub,t,l,H,K,G,D,y,z,f,I,r⟩:=n;have b:(Value.ref C::m).contains (.type "BaseException")=true:=by grind
 obtain⟨c,d,u,x⟩:=a;cases j;cases p;obtain⟨v,g,d,tk,os⟩:=s;unfold excFromValue isExcClass;repeat(first|(with_reducible refine at5 r ?_;rw[b])|wp_step)
 exact o
def vL{x c pos Q}(hh:A.handled=some (.ref h))(h1:wpAny (model prog w) A (eval x env) (λv d=>∃e l k,v=.ref e/\ExB C d.heap/\d.heap.get? e=some (dS C l k)/\wpAny (model prog w) A (eval c env) (λcv a=>cv=.ref h/\ExB C a.heap/\a.heap.get? e=some (dS C l k)/\h≠e/\ExB Ch a.heap/\(∃m j,a.heap.get? h=some m/\m.cls=.ref Ch/\m.data=.fields j/\j[2]?=some .none)/\∀K,(∀b o,b≠e->a.heap.get? b=some o->K.get? b=some o)->K.get? e=some {cls:=.ref C,dict:=l,data:=.fields #[k,.none,.ref h,.ref h,.bool true,.none]}->E (.ref e) {a with heap:=K}) E d) E s):wpAny (model prog w) A (exec (.Raise (some x) (some c) pos) env) Q E s:=by
 rw[arm_exec_Raise];refine ard (asQ (ard (ard (arI h1 (λv d p=>ard (asQ (arp ?_))) λ_ _ x=>x))));obtain⟨e,l,k,rfl,_,_,h2⟩:=p;refine ard (asl (ard (arI h2 (λv a n=>ard (asQ (arp (ard (arp ?_))))) λ_ _ x=>x)));obtain⟨rfl,S,u,M,D,⟨m,j,ho,B,t,H⟩,hE⟩:=n;refine ard (asl (yK u rfl rfl S ?_));dsimp only;rw[arl (by simp)];refine ard (asl (yK ho B t D ?_));refine ard (asY u rfl (by simp) ?_);have e1:=asf (Obj.mapFields (·.setIfInBounds 3 (Value.ref h))) u rfl;refine ard (asY e1 rfl (by simp) ?_);have e2:=asf (Obj.mapFields (·.setIfInBounds 4 (Value.bool true))) e1 rfl;have G:∀b o,b≠e->a.heap.get? b=some o->((a.heap.update e (Obj.mapFields (·.setIfInBounds 3 (Value.ref h)))).update e (Obj.mapFields (·.setIfInBounds 4 (Value.bool true)))).get? b=some o:=λb o i q=>by rw[arU _ _ (arz i),arU _ _ (arz i)];exact q
 have J:ExB C ((a.heap.update e (Obj.mapFields (·.setIfInBounds 3 (Value.ref h)))).update e (Obj.mapFields (·.setIfInBounds 4 (Value.bool true)))):=by obtain⟨nm,q,N,bs,O,g,sn,sub,X,r,dd,T,Z,Y,P,R,f,i,y⟩:=S;exact⟨nm,q,N,bs,O,g,sn,sub,X,r,dd,T,Z,Y,P,R,f,i,G C _ (λz=>by subst z;rw[u]at y;cases y) y⟩
 obtain⟨nm,q,N,bs,O,g,sn,sub,X,r,dd,T,Z,Y,P,R,f,i,y⟩:=J;have I:=G h m M ho;have U:((a.heap.update e (Obj.mapFields (·.setIfInBounds 3 (Value.ref h)))).update e (Obj.mapFields (·.setIfInBounds 4 (Value.bool true)))).get? e=some {cls:=.ref C,dict:=l,data:=.fields #[k,.none,.none,.ref h,.bool true,.none]}:=e2;generalize(a.heap.update e (Obj.mapFields (·.setIfInBounds 3 (Value.ref h)))).update e (Obj.mapFields (·.setIfInBounds 4 (Value.bool true)))=hp at *;dsimp only;unfold isType;repeat(first|wp_step)
 refine qH (s:={a with heap:=hp}) hh U rfl (by simp) I t H M (hE _ (λb o i q=>?_) (asf _ U rfl));rw[arU _ _ (arz i)];exact G b o i q
end
section
variable{prog:Program}{w:World}{A:Around}{E:Value->Shared->Prop}{s:Shared}{K:W.Frag}{x C t0:Addr}{ox:Obj}{od:Option Obj}
structure StrK(K:W.Frag)(C:Addr):Prop where
 fm:findIn K (.ref C) "__format__"=some (some (.builtin "object.__format__"))st:findIn K (.ref C) "__str__"=some (some (.builtin "BaseException.__str__"))mo:mroIn K C (.type "object")=some true
 mb:mroIn K C (.type "BaseException")=some true
def ai5{m:Str}{tk:Tok}{vs:Array Value}{Q:Value->Shared->Prop}(k:StrK K C)(d:A.in1.units<cLine)(X:K.In s.heap)(I:InstAt s.heap x ox C od)(f:ox.data=.fields vs)(e:vs[0]?=some (.ref t0))(g:s.heap.TupAt t0 [.str m tk])(b:Q (.str m tk) {s with toks:=s.toks+1}):wpAny (model prog w) A (formatField (.ref x) Str.empty) Q E s:=by
 refine W.kfo_field X I k.fm k.mo (W.kfo_obj (s:={s with toks:=s.toks+1}) d (W.kfo_special X I k.st auu.str.bind ?_));refine as7 (atk auu.str.plain PySem.F.entry_bexc_str (W.check_slot (i:="BaseException.__str__") (owner:="BaseException") (n:="__str__") (by decide+kernel) (by decide+kernel) (I.type.andThen (W.looks_mroIn X k.mb)) (PySem.F.args_bexc_str _) ?_));have h:∀{M:Model}{A:Around}{Q:Value×List Value->Shared->Prop}{E},Q (.ref t0,[.str m tk]) {s with toks:=s.toks+1}->wpAny M A (Builtin.BaseException.bexcArgs (.ref x)) Q E {s with toks:=s.toks+1}:=λ{M A Q E}b=>by obtain⟨j,k,c,_,a⟩:=g;unfold Builtin.BaseException.bexcArgs;exact ard (arR (s:={s with toks:=s.toks+1}) I.at_ f e (ard (auO c a (arp b))))
 unfold Builtin.«BaseException.__str__»;repeat(first|with_reducible refine h ?_|wp_step)
 exact⟨_,rfl,_,_,rfl,_,_,rfl,b⟩
end
end L2
set_option autoImplicit true
set_option relaxedAutoImplicit true
namespace L2
open PySem PySem.Spec PyProof.Rows
open PySem.W(findIn InstAt mroIn)
section
variable{X:Cx}{pins:List (Addr×Obj)}{σ:St}{H:Hp}{s:Shared}{e C:Addr}{dx:DX}{fl:Value}{T:Addr}{x n:Str}{hpos:Pos}{E:Value->Shared->Prop}
def amb{i:Nat}{x v pos Q}(I:Inv X pins σ H s)(f:X.N[i]?=some x)(c:X.env.scope.names.lookup x=some .local)(e:σ[i]?=some (some v))(h:∀u,RelV v u->Q u s)(j:Dbg x):wpAny (model X.prog X.w) X.A (eval (.Name x pos) X.env) Q E s:=by
 obtain⟨m,d,b⟩:=I.loc;obtain⟨u,r,l⟩:=b i x v f e (.inl c);rcases l with⟨a,g⟩|⟨a,_⟩;.exact auR (wpAny_loadName_local I.ok.kind a d g (h u r)) j
 .have:X.env.kindOf x=some _:=c;rw[this]at a;rcases a with z|z<;>cases z
def Thr.gone{i}(t:Thr X pins σ H s e C dx fl (some T))(d:X.N.Nodup)(g:X.N[i]?=some n)(f:X.env.scope.names.lookup n=some .local){Q}(h:∀c,Thr X pins (σ.set i none) H c e C dx fl (some T)->Q () c){A}:wpAny (model X.prog X.w) A (do bindName X.env n .none;unbindBehindTheSuite X.env n hpos) Q E s:=ub t.inv d g f λc I k=>h _ ⟨I,t.trc.keeps λb o a q=>(k b (by
 rcases a with rfl|a;.exact t.fe.2.1
 .exact(t.fT b a).2.1)).trans q,t.fe,t.fT⟩
def Thr.aq1(t:Thr X pins σ H s e C dx fl (some T)){M A b}(h:∀c a,Thr X pins σ H {s with heap:=c} e C dx a (some T)->E (.ref e) {s with heap:=c}):cameBackBy M A b E (.ref e) s:=by obtain⟨g,o,p,q,v,f,m,l,k,i,r,d,u⟩:=id t.trc;exact ard (arR f k i.1 (t.wD λc a j _=>h _ _ j))
end
end L2
set_option autoImplicit true
set_option relaxedAutoImplicit true
namespace L2
open PySem PySem.Spec PyProof.Rows
open PySem.W(findIn InstAt mroIn)
def ExB.of{K h C fI}(X:K.In h)(q:oD K C (some (.ref fI))):ExB C h:=by obtain⟨d,N,nm,k,bs,a,m,sub,b,c,j,l,i,g,e,f,p,n,o,r,T⟩:=wY X q;exact⟨nm,k,N,bs,d,_,m,_,b,_,j,l,i,g,e,f,_,T.hasType asT.hasBase,n⟩
section
variable{X:Cx}{pins:List (Addr×Obj)}{σ:St}{H:Hp}{s:Shared}{e Ce C fI fIe:Addr}{dx:DX}{fl:Value}{T:Addr}{xB n cn:Str}{hpos rpos cpos np p1 p2 p3:Pos}{fd:FuncData}{ps fls:List Str}{k i ci L:Nat}{G:List V->Hp->Prop}{v1:V}{Q:Flow->Shared->Prop}
def z0{tx}{vs:List Value}(t:Thr X pins σ H s e Ce dx fl (some T))(Y:∀Q E,Q (.ref s.heap.objs.size) {s with heap:=s.heap.push {cls:=.type "tuple",data:=.seq vs.toArray}}->wpAny (model X.prog X.w) (X.A.mark (some (.ref e))) (eval tx X.env) Q E s)(hx:∀{M h},X.K.In h->W.Looks M h (typeOf (.ref e)) (.ref Ce)->h.get? s.heap.objs.size=some {cls:=.type "tuple",data:=.seq vs.toArray}->W.Looks M h (excMatches (.ref e) (.ref s.heap.objs.size)) true)(hs:X.stack=X.env::X.outer)(hf:X.env.frame=some X.env.locals)(hN:X.N.Nodup)(O:X.N[i]?=some n)(D:X.env.scope.names.lookup n=some .local)(b5:X.N[ci]?=some cn)(S:X.env.scope.names.lookup cn=some .local)(a6:i≠ci)(e1:σ[ci]?=some (some v1))(a4:dx.2.2=.none)(qe:oD X.K Ce (some (.ref fIe)))(hg:Gl X xB)(hm:X.mg xB=some (.ref C))(q:oD X.K C (some (.ref fI)))(U:W.typeIn X.K (.ref fI)=some (.type "function"))(F:FnOk X.prog X.w X.K X.mg X.base CX0 k fI fd ps (spG C fls L G))(gm:∀ws H b o,H b=none->G ws H->G ws (upd H b o))(hr:Room (k+1) (X.A.mark (some (.ref e))))(hb:Binds X.K fd ps [])(b3:fls.length=2)(hG:G [v1,.ref e] (upd H e (.ext (excAt e Ce dx))))(fin:∀s' c d a y fl T2,upd H e (.ext (excAt e Ce dx)) a=none->upd (upd H e (.ext (excAt e Ce dx))) a (.tup [.str y]) d=none->Thr X pins (σ.set i none) (upd (upd (upd H e (.ext (excAt e Ce dx))) a (.tup [.str y])) d (.xd (fls.zip [v1,.ref e]))) s' c C (some d,.ref a,.ref e) fl (some T2)->X.xe (.ref c) s')(hd1:Dbg xB)(A:Dbg n)(a7:Dbg cn)(a3:(n=="__classdict__")=false)(a9:(cn=="__classdict__")=false):wpAny (model X.prog X.w) X.A (handleBy (.ref e) X.env [.ExceptHandler (some tx) (some n) [.Raise (some (.Call (.Name xB np) [.Name cn p1,.Name n p2] [] cpos)) (some (.Name n p3)) rpos] hpos]) Q X.xe s:=by
 have t':=t.push {cls:=.type "tuple",data:=.seq vs.toArray};refine wpAny_handleBy_cons (codeAny_handlers_test (Y _ _ ?_)) (by intro q;cases q);refine(hx t'.inv.kIn t'.ty (aru _ rfl)).here ?_;refine aut (t'.uH λh' t5=>?_);have J:=t5.known;have a8:i<σ.length:=by rw[t.inv.len];exact(ari.mp O).1
 refine jC (X:=X.sui e) (J.sui e) hN O (Or.inl D) (v:=.ref e) (u:=.ref e) rfl (λs2 J2 _=>?_) (Or.inr D);have a1:(σ.set i (some (V.ref e)))[ci]?=some (some v1):=by rw[arh a6];exact e1
 have a2:(σ.set i (some (V.ref e)))[i]?=some (some (.ref e)):=ark a8;refine auy (vL (C:=C) (Ch:=Ce) (h:=e) rfl ?_);have b2:PA (X.sui e) [.Name cn p1,.Name n p2] (gR (eF ci) (gR (eF i) xE)):=aN (acf b5 (.inl S) a7 a9) (aN (acf O (.inl D) A a3) cz);refine arI (yp (X:=X.sui e) (Z:=λv l=>∃c d a y,v=.ref c/\upd H e (.ext (excAt e Ce dx)) a=none/\upd (upd H e (.ext (excAt e Ce dx))) a (.tup [.str y]) d=none/\Inv (X.sui e) pins (σ.set i (some (.ref e))) (upd (upd (upd H e (.ext (excAt e Ce dx))) a (.tup [.str y])) d (.xd (fls.zip [v1,.ref e]))) l/\l.heap.get? c=some (dS C (some d) (.ref a))/\FpX (X.sui e) pins (upd (upd (upd H e (.ext (excAt e Ce dx))) a (.tup [.str y])) d (.xd (fls.zip [v1,.ref e]))) c) (R:=λvs H1=>vs=[v1,.ref e]/\H1=upd H e (.ext (excAt e Ce dx))) hg hm q U F gm hr hb b2 J2 ⟨v1,a1,.ref e,a2,rfl,rfl⟩ (λvs H1⟨z1,z2⟩=>?_) hd1) (λv l h3=>?_) λ_ _ z=>z.elim;.subst z1 z2;exact⟨b3.symm,hG,by omega,λs c d a y g y2 j y4 I x N=>⟨c,d,a,y,rfl,g,j,I,x,N⟩⟩
 obtain⟨c,b7,a0,rfl,hB,x,c2,d,a,y,ez,g,j,P,B,N⟩:=h3;cases ez;rw[x]at B;cases B;refine⟨c,some d,.ref a,rfl,hB,x,amb P O D a2 (λu r=>?_) A⟩;cases show u=Value.ref e from r;have ne:e≠c:=λz=>by
  have:=N.1;rw[<-z]at this;have p:e≠a:=λw=>by rw[<-w,aj]at g;cases g
  have nd:e≠d:=λw=>by rw[<-w,ag p,aj]at j;cases j
  rw[ag nd,ag p,aj]at this;cases this
 have b0:upd (upd (upd H e (.ext (excAt e Ce dx))) a (.tup [.str y])) d (.xd (fls.zip [v1,.ref e])) e=some (.ext (excAt e Ce dx)):=by
  have p:e≠a:=λw=>by rw[<-w,aj]at g;cases g
  have nd:e≠d:=λw=>by rw[<-w,ag p,aj]at j;cases j
  rw[ag nd,ag p,aj]
 obtain⟨⟨oh,b4,g1,g2,g3,g4,g5,_⟩,_⟩:=P.hok e _ b0;refine⟨rfl,hB,x,ne,ExB.of P.kIn qe,⟨oh,b4,g1,g2,g4,by rw[g5,a4]⟩,λh6 k6 e6=>?_⟩;have I6:Inv (X.sui e) pins (σ.set i (some (.ref e))) _ {l with heap:=h6}:=P.ani (ch:=[c]) (λb hb=>by rw[arW.mp hb];exact N) (λb o q hc _=>k6 b o (λz=>hc (by rw[z];exact arD)) q) λb o q hc _=>⟨o.slots,k6 b o (λz=>hc (by rw[z];exact arD)) q⟩;have t6:Thr (X.sui e) pins (σ.set i (some (.ref e))) _ {l with heap:=h6} c C (some d,.ref a,.ref e) .none none:=⟨I6,⟨_,_,e6,rfl,rfl,rfl,rfl,rfl,rfl⟩,N,λt z=>by cases z⟩;refine t6.note hs hf λh7 T7 c1 t7=>t7.gone hN O D λs8 t8=>t8.pass λh9 b8 t9=>t9.note hs hf λb9 b1 b6 a5=>a5.aq1 λc0 K f=>?_;have m:=f.inv;rw[List.set_set]at m;exact fin _ c d a y K b1 g j ⟨t.inv.back m,f.trc,f.fe,f.fT⟩
end
end L2
namespace WL
open PySem
inductive W where|non|bl(b:Bool)|int(i:Int)|str(x:Str)|ty(n:String)|tup(xs:List W)|lst(xs:List W)/-- a dict that is read alone: its keys,its values;a class of the text;an exception: its class,its fields -/|dic(ks vs:List W)|cls(c:String)|exc(c:String)(fs:List W)/-- an object that is made: its class,its fields -/|ins(c:String)(fs:List W)/-- a thing that is written,by its place alone -/|id(a:Nat)
inductive Res(α:Type)where|ok(a:α)|ex(c:W)|bad
noncomputable def Res.bind{α b}:Res α->(α->Res b)->Res b|.ok a,f=>f a|.ex c,_=>.ex c|.bad,_=>.bad
inductive Sl where|no|va(w:W)|ow(ws:List W)|od(ks vs:List W)|ob
abbrev Ws:=List Sl
abbrev EF:=Ws->Res W
abbrev TF:=Ws->Res Bool
abbrev AF:=Ws->Res (List W)
abbrev LF:=Ws->Res (List W)
abbrev GF:=W->Ws->Res Ws
inductive Out where|nx(σ:Ws)|rt(w:W)|bk(σ:Ws)|ct(σ:Ws)|ex(c:W)(σ:Ws)|bad
abbrev SF:=Ws->Out
mutual def eqv:W->W->Bool|.non,.non=>true|.bl a,.bl b=>a==b|.bl a,.int j=>(if a then 1 else 0)==j|.int i,.bl b=>i==if b then 1 else 0|.int i,.int j=>i==j|.str x,.str y=>x==y|.lst xs,.lst ys=>aaO xs ys|.tup xs,.tup ys=>aaO xs ys|_,_=>false def aaO:List W->List W->Bool|[],[]=>true|x::xs,y::ys=>eqv x y&&aaO xs ys|_,_=>false end
mutual def okD:Nat->W->Bool|_,.non=>true|_,.bl _=>true|_,.int _=>true|_,.str x=>x.cps.all (.<0x110000)|_,.ty _=>false|n,.tup xs=>lV n xs|n,.lst xs=>lV n xs|_,.dic _ _=>false|_,.cls _=>false|_,.exc _ _=>false|_,.ins _ _=>false|_,.id _=>false def lV:Nat->List W->Bool|0,_=>false|_+1,[]=>true|n+1,x::xs=>okD n x&&lV (n+1) xs end
noncomputable def abH:W->W->Bool|.non,.non=>true|.non,.int _=>true|.int _,.non=>true|.non,.bl _=>true|.bl _,.non=>true|.non,.str _=>true|.str _,.non=>true|.int _,.int _=>true|.bl _,.bl _=>true|.str _,.str _=>true|.int _,.str _=>true|.str _,.int _=>true|.bl _,.str _=>true|.str _,.bl _=>true|_,_=>false
def oEq(x y:W):Res W:=if abH x y then .ok (.bl (eqv x y))else if okD 50 x&&okD 50 y then .ok (.bl (eqv x y))else .bad
def oNe(x y:W):Res W:=if abH x y then .ok (.bl !eqv x y)else if okD 50 x&&okD 50 y then .ok (.bl !eqv x y)else .bad
noncomputable def f9(x:W):List W->Bool|[]=>false|y::ys=>eqv y x||f9 x ys
def oIn(x:W):W->Res W|.lst ys=>if okD 50 x&&lV 51 ys then .ok (.bl (f9 x ys))else .bad|.tup ys=>if okD 50 x&&lV 51 ys then .ok (.bl (f9 x ys))else .bad|_=>.bad
def fO(x:W):W->Res W|.lst ys=>if okD 50 x&&lV 51 ys then .ok (.bl !f9 x ys)else .bad|.tup ys=>if okD 50 x&&lV 51 ys then .ok (.bl !f9 x ys)else .bad|_=>.bad
noncomputable def lim:Nat:=1000000
def iN:W->W->Res W|.int i,.int j=>.ok (.int (i+j))|.lst xs,.lst ys=>if xs.length+ys.length<=lim then .ok (.lst (xs++ys))else .bad|.tup xs,.tup ys=>if xs.length+ys.length<=lim then .ok (.tup (xs++ys))else .bad|_,_=>.bad
noncomputable def zN:W->W->Res W|.int i,.int j=>.ok (.int (i-j))|_,_=>.bad
noncomputable def me:W->W->Res W|.int i,.int j=>if -2^64<i/\i<2^64\/-2^64<j/\j<2^64 then .ok (.int (i*j))else .bad|_,_=>.bad
noncomputable def oDiv:W->W->Res W|.int i,.int j=>if 0<j/\j<10^100 then .ok (.int (i/j))else .bad|_,_=>.bad
noncomputable def oMod:W->W->Res W|.int i,.int j=>if 0<j then .ok (.int (i%j))else .bad|_,_=>.bad
noncomputable def pQ:W->Res W|.int i=>.ok (.int (-i))|_=>.bad
noncomputable def oLt:W->W->Res W|.int i,.int j=>.ok (.bl (decide (i<j)))|_,_=>.bad
noncomputable def oLe:W->W->Res W|.int i,.int j=>.ok (.bl (decide (i<=j)))|_,_=>.bad
noncomputable def oGt:W->W->Res W|.int i,.int j=>.ok (.bl (decide (j<i)))|_,_=>.bad
noncomputable def iE:W->Bool|.non=>true|_=>false
noncomputable def isB(b:Bool):W->Bool|.bl c=>b==c|_=>false
def oIs(x:W):W->Res W|.non=>.ok (.bl (iE x))|.bl b=>.ok (.bl (isB b x))|_=>.bad
def nL(x:W):W->Res W|.non=>.ok (.bl !iE x)|.bl b=>.ok (.bl !isB b x)|_=>.bad
noncomputable def ixN(n:Nat)(i:Int):Option Nat:=if 0<=i then if i<n then some i.toNat else none else if -(n:Int)<=i then some (i+n).toNat else none
def atI{α:Type}(xs:List α)(i:Int):Option α:=(ixN xs.length i).bind λj=>xs[j]?
noncomputable def ofO{α}:Option α->Res α|some a=>.ok a|none=>.bad
@[simp]def anq{α}(a:α):ofO (some a)=.ok a:=(rfl)
noncomputable def rM(k:Str):List W->List W->Option W|.str x::ks,v::vs=>if x==k then some v else rM k ks vs|_,_=>none
def oIx:W->W->Res W|.lst xs,.int i=>ofO (atI xs i)|.tup xs,.int i=>ofO (atI xs i)|.dic ks vs,.str k=>ofO (rM k ks vs)|_,_=>.bad
noncomputable def sIx(n d:Nat):Option Int->Nat|none=>d|some v=>if v<0 then(v+(n:Int)).toNat else min v.toNat n
def cut{α:Type}(xs:List α)(lo a:Option Int):List α:=(xs.drop (sIx xs.length 0 lo)).take (sIx xs.length xs.length a-sIx xs.length 0 lo)
def oSl:W->Option Int->Option Int->Res W|.lst xs,lo,hi=>.ok (.lst (cut xs lo hi))|.tup xs,lo,hi=>if sIx xs.length 0 lo=0/\sIx xs.length xs.length hi=xs.length then .bad else .ok (.tup (cut xs lo hi))|_,_,_=>.bad
noncomputable def lQ:List W->Res W|[.lst xs]=>.ok (.int xs.length)|[.tup xs]=>.ok (.int xs.length)|_=>.bad
noncomputable def ir:List W->Res W|[.lst xs]=>.ok (.tup xs)|[.tup xs]=>.ok (.tup xs)|_=>.bad
noncomputable def w9:List W->Res W|[.lst xs]=>.ok (.lst xs)|[.tup xs]=>.ok (.lst xs)|_=>.bad
noncomputable def ajW:List W->Res W|[.int i]=>.ok (.int (if i<0 then -i else i))|_=>.bad
noncomputable def aaB:List W->Res W|[.int i,.int j]=>.ok (.int (if j>i then j else i))|_=>.bad
noncomputable def aju:List W->Res W|[.bl b]=>.ok (.int (if b then 1 else 0))|[.int i]=>.ok (.int i)|_=>.bad
noncomputable def allB:List W->Option Bool|[]=>some true|.bl b::xs=>(allB xs).map λc=>b&&c|_=>none
def af8:List W->Res W
|[.lst xs]=>match allB xs with|some b=>.ok (.bl b)|none=>.bad
|_=>.bad
noncomputable def oU:W->String|.non=>"NoneType"|.bl _=>"bool"|.int _=>"int"|.str _=>"str"|.ty _=>"type"|.tup _=>"tuple"|.lst _=>"list"|.dic _ _=>"dict"|.cls _=>"type"|.exc _ _=>"exception"|.ins _ _=>"object"|.id _=>"object"
def isK(w:W)(t:String):Option Bool:=match w with|.ty _=>none|.dic _ _=>none|.cls _=>none|.exc _ _=>none|.ins _ _=>none|.id _=>none|_=>if["int","bool","str","list","tuple"].contains t then some (oU w==t||oU w=="bool"&&t=="int")else none
def cK:List W->Res W
|[x,.ty t]=>match isK x t with|some b=>.ok (.bl b)|none=>.bad
|_=>.bad
noncomputable def aq(i:Nat):EF:=λa=>match a[i]? with|some (.va w)=>.ok w|_=>.bad
noncomputable def eC(w:W):EF:=λ_=>.ok w
def eOp(r:W->W->Res W)(a b:EF):EF:=λc=>(a c).bind λx=>(b c).bind λy=>r x y
def eUn(r:W->Res W)(a:EF):EF:=λb=>(a b).bind r
def lJ(r e:W->W->Res W)(a b c:EF):EF:=λd=>(a d).bind λx=>(b d).bind λy=>(r x y).bind λz=>match z with|.bl true=>(c d).bind λw=>e y w|.bl false=>.ok (.bl false)|_=>.bad
noncomputable def toB:W->Res Bool|.bl b=>.ok b|_=>.bad
def tB(e:EF):TF:=λa=>(e a).bind toB
def abr(a b:TF):TF:=λc=>(a c).bind λx=>match x with|true=>b c|false=>.ok false
def tOr(a b:TF):TF:=λc=>(a c).bind λx=>match x with|true=>.ok true|false=>b c
def vv(a:TF):TF:=λb=>(a b).bind λx=>.ok !x
def aaP(a b:EF):EF:=λc=>(a c).bind λx=>match x with|.bl true=>b c|.bl false=>.ok (.bl false)|_=>.bad
def amM(a:EF):EF:=λc=>(a c).bind λx=>match x with|.bl b=>.ok (.bl !b)|_=>.bad
def eIf(t:TF)(a b:EF):EF:=λc=>(t c).bind λx=>match x with|true=>a c|false=>b c
noncomputable def au:AF:=λ_=>.ok []
def ae(e:EF)(a:AF):AF:=λb=>(e b).bind λx=>(a b).bind λc=>.ok (x::c)
def cQ(a:AF):EF:=λc=>(a c).bind λb=>if b.length<=lim then .ok (.tup b)else .bad
def oC(a:AF):EF:=λc=>(a c).bind λb=>if b.length<=lim then .ok (.lst b)else .bad
def az(f:List W->Res W)(a:AF):EF:=λb=>(a b).bind λws=>match f ws with|.ok w=>.ok w|_=>.bad
def eBi(f:List W->Res W)(a:AF):EF:=λb=>(a b).bind f
def rG(T:String)(r:W->List W->Res W)(o:EF)(a:AF):EF:=λb=>(o b).bind λx=>if oU x==T then(a b).bind λws=>r x ws else .bad
noncomputable def idx(x:W):Nat->List W->Option Nat|_,[]=>none|k,y::ys=>if eqv y x then some k else idx x (k+1) ys
def pS:W->List W->Res W|.lst ys,[x]=>if okD 50 x&&lV 51 ys&&decide (ys.length<=lim)then match idx x 0 ys with|some k=>.ok (.int k)|none=>.bad else .bad|_,_=>.bad
noncomputable def jD:List W->Option (List W×List W)|[]=>some ([],[])|.str k::v::r=>(jD r).map λp=>(.str k::p.1,v::p.2)|_=>none
noncomputable def fU:List W->Bool|[]=>true|.str k::ks=>!(ks.any λx=>match x with|.str y=>y==k|_=>true)&&fU ks|_=>false
noncomputable def pNo:Ws->Res (Option Int):=λ_=>.ok none
def nz(e:EF):Ws->Res (Option Int):=λa=>(e a).bind λx=>match x with|.int i=>.ok (some i)|_=>.bad
def eSl(e:EF)(lo b:Ws->Res (Option Int)):EF:=λa=>(e a).bind λx=>(lo a).bind λl=>(b a).bind λh=>oSl x l h
noncomputable def itemsOf:W->Res (List W)|.lst xs=>.ok xs|.tup xs=>.ok xs|_=>.bad
@[simp]def aiZ(xs):itemsOf (.lst xs)=.ok xs:=(rfl)
@[simp]def aiY(xs):itemsOf (.tup xs)=.ok xs:=(rfl)
def rT(e:EF):LF:=λa=>(e a).bind itemsOf
noncomputable def rng(lo:Int)(n:Nat):List W:=(List.range n).map λi=>.int (lo+(i:Nat))
def jd(e:EF):LF:=λa=>(e a).bind λx=>match x with|.int j=>if -2^62<=j/\j<2^62 then .ok (rng 0 j.toNat)else .bad|_=>.bad
def wy(e b:EF):LF:=λa=>(e a).bind λx=>(b a).bind λy=>match x,y with|.int i,.int j=>if -2^62<=i/\i<2^62/\-2^62<=j/\j<2^62 then .ok (rng i (j-i).toNat)else .bad|_,_=>.bad
noncomputable def fD:Nat->List W->List W|_,[]=>[]|k,x::xs=>.tup [.int k,x]::fD (k+1) xs
def wz(e:EF):LF:=λa=>(e a).bind λx=>match x with|.tup xs=>.ok (fD 0 xs)|.lst xs=>.ok (fD 0 xs)|_=>.bad
noncomputable def aA(i:Nat):GF:=λw a=>.ok (a.set i (.va w))
abbrev GsF:=List W->Ws->Res Ws
noncomputable def vh:GsF:=λws a=>match ws with|[]=>.ok a|_=>.bad
noncomputable def di(g:GF)(a:GsF):GsF:=λws b=>match ws with|w::r=>(match g w b with|.ok σ'=>(match a r σ' with|.ok σ2=>.ok σ2|_=>.bad)|_=>.bad)|[]=>.bad
noncomputable def vg(a:GsF):GF:=λw b=>match w with|.tup ws=>a ws b|_=>.bad
def arb(i:Nat)(e:EF):GF:=λw a=>match a[i]? with
|some (.ow ws)=>match e a with|.ok (.int k)=>(match ixN ws.length k with|some j=>.ok (a.set i (.ow (ws.set j w)))|none=>.bad)|_=>.bad
|_=>.bad
noncomputable def bG(g:GF)(t:TF)(e:EF)(σ:Ws):List W->Res (List W)|[]=>.ok []|x::xs=>(g x σ).bind λa=>(t a).bind λb=>match b with|true=>(e a).bind λy=>(bG g t e σ xs).bind λc=>.ok (y::c)|false=>bG g t e σ xs
noncomputable def iZ:TF:=λ_=>.ok true
def afv(k:Nat)(it:LF)(g:GF)(t:TF)(e:EF):LF:=λb=>(it b).bind λa=>if a.length<=lim then match bG g t e (List.replicate k .no++b) a with|.ok ys=>.ok ys|_=>.bad else .bad
def fZ(k:Nat)(it:LF)(g:GF)(t:TF)(e:EF):EF:=λb=>(afv k it g t e b).bind λa=>.ok (.lst a)
noncomputable def frz(i:Nat)(σ:Ws):Ws:=match σ[i]? with|some (.ow ws)=>σ.set i (.va (.lst ws))|some (.od ks vs)=>σ.set i (.va (.dic ks vs))|_=>σ
mutual def plain:W->Bool|.tup xs=>jM xs|.lst _=>false|.dic _ _=>false|.exc _ _=>false|.ins _ _=>false|.id _=>false|_=>true def jM:List W->Bool|[]=>true|x::xs=>plain x&&jM xs end
def anI(i:Nat)(e:EF):EF:=λa=>match e (frz i a)with|.ok w=>if plain w then .ok w else .bad|_=>.bad
def ane(i:Nat)(t:TF):TF:=λa=>match t (frz i a)with|.ok b=>.ok b|_=>.bad
noncomputable def sNx:SF:=λa=>.nx a
noncomputable def aH(a b:SF):SF:=λc=>match a c with|.nx σ'=>b σ'|o=>o
noncomputable def ofR{α}(σ:Ws)(r:Res α)(f:α->Out):Out:=match r with|.ok a=>f a|.ex c=>.ex c σ|.bad=>.bad
def cP(i:Nat)(e:EF):SF:=λa=>ofR a (e a) λw=>.nx (a.set i (.va w))
def ko(i:Nat)(l:LF):SF:=λa=>ofR a (l a) λws=>.nx (a.set i (.ow ws))
def aft(a:AF):LF:=λc=>(a c).bind λb=>if b.length<=lim then .ok b else .bad
def ame(e:EF):LF:=λa=>(e a).bind itemsOf
def anA(e b:EF):LF:=λa=>(e a).bind λx=>(b a).bind λy=>match x,y with|.lst xs,.lst ys=>if xs.length+ys.length<=lim then .ok (xs++ys)else .bad|_,_=>.bad
def aox(e:EF)(g:GF):SF:=λa=>ofR a (e a) λw=>ofR a (g w a) λb=>.nx b
def sIf(t:TF)(a b:SF):SF:=λc=>ofR c (t c) λx=>match x with|true=>a c|false=>b c
def bf(e:EF):SF:=λa=>ofR a (e a) λw=>.rt w
def aei(i:Nat)(e:EF):SF:=λa=>match a[i]? with|some (.ow ws)=>ofR a (e a) λw=>if ws.length<lim then .nx (a.set i (.ow (ws++[w])))else .bad|_=>.bad
def zt(i:Nat)(t:SF):SF:=λa=>t (frz i a)
noncomputable def forL(g:GF)(b:SF):List W->Ws->Out|[],σ=>.nx σ|x::xs,σ=>ofR σ (g x σ) λa=>match b a with|.nx σ2=>forL g b xs σ2|.ct σ2=>forL g b xs σ2|.bk σ2=>.nx σ2|o=>o
def pP(it:LF)(g:GF)(b:SF):SF:=λa=>ofR a (it a) λc=>forL g b c a
noncomputable def rA:List String:=["FloorError","NotEven","NoCall","NoName","NoProgram","TooMany","NoPairs","NoRow","Blind","Out","Meet","Broken"]
noncomputable def pq(nm d:String):Bool:=nm==d||d=="FloorError"
noncomputable def fieldsOf(nm:String):List Str:=if nm=="Blind"then["who"]else if nm=="Out"then["who"]else if nm=="Meet"then["one","other"]else if nm=="Broken"then["at","why"]else[]
def jk(d:String):W->Bool|.exc nm _=>pq nm d|_=>false
noncomputable def lT:SF:=λ_=>.bad
def dk(f:List W->Res W)(a:AF):EF:=λb=>(a b).bind f
def hOut(d:String)(h:SF)(c:W)(σ:Ws):Out:=if jk d c then match h σ with|.ex _ _=>.bad|o=>o else .bad
def nY(d:String)(i:Nat)(h:SF)(c:W)(σ:Ws):Out:=if jk d c then match h (σ.set i (.va c))with|.nx σ2=>.nx (σ2.set i .no)|.rt w=>.rt w|_=>.bad else .bad
def sV(b:SF)(d:String)(i:Nat)(h:SF):SF:=λa=>match b a with|.ex c σ'=>nY d i h c σ'|o=>o
noncomputable def lY(c:String):List Str:=if c=="Book"then["calls"]else if c=="Search"then["goal","most","rows","seen"]else if c=="PairedFloor"then["floor","pairs","middles"]else if c=="Run"then["book","floors"]else[]
noncomputable def run(n:Nat)(t:SF)(ws:List W):Res W:=match t (ws.map .va++List.replicate (n-ws.length) .no)with|.rt w=>.ok w|.nx _=>.ok .non|.ex c _=>.ex c|_=>.bad
def yV:List W->Res W|[.exc nm _,.cls d]=>.ok (.bl (pq nm d))|[.exc _ _,.ty "ValueError"]=>.ok (.bl true)|_=>.bad
@[simp]def anL(nm d:String)(fs:List W):yV [.exc nm fs,.cls d]=.ok (.bl (pq nm d)):=rfl
@[simp]def apR(nm:String)(fs:List W):yV [.exc nm fs,.ty "ValueError"]=.ok (.bl true):=rfl
noncomputable def mR:W->Bool|.int i=>decide (i.natAbs.log2<100)|_=>false
def kq(nm:String)(a:AF):SF:=λb=>ofR b (a b) λws=>if ws.length=(fieldsOf nm).length/\ws.all mR=true then .ex (.exc nm ws) b else .bad
def iz(nm:String)(a:AF)(σ:Ws):kq nm a σ=ofR σ (a σ) λws=>if ws.length=(fieldsOf nm).length/\ws.all mR=true then .ex (.exc nm ws) σ else .bad:=(rfl)
def apv(f:Str):W->Res W
|.exc nm fs=>match((fieldsOf nm).zip fs).lookup f with|some w=>.ok w|none=>.bad
|_=>.bad
def agW(a:EF)(f:Str):EF:=λb=>(a b).bind (apv f)
noncomputable def vf(σ:Ws):Ws:=σ.map λs=>match s with|.ow _=>.no|.od _ _=>.no|s=>s
def ac0(k:Nat)(it:LF)(g:GF)(t:TF)(e:EF):LF:=λb=>(it b).bind λa=>if a.length<=lim then bG g t e (List.replicate k .no++vf b) a else .bad
def adC(k:Nat)(it:LF)(g:GF)(t:TF)(e:EF):EF:=λb=>(ac0 k it g t e b).bind λa=>.ok (.lst a)
def uv(k:Nat)(it:LF)(g:GF)(t:TF)(e:EF)(σ:Ws):ac0 k it g t e σ=(it σ).bind λa=>if a.length<=lim then bG g t e (List.replicate k .no++vf σ) a else .bad:=(rfl)
def uN(k:Nat)(it:LF)(g:GF)(t:TF)(e:EF)(σ:Ws):adC k it g t e σ=(ac0 k it g t e σ).bind λa=>.ok (.lst a):=(rfl)
noncomputable def anP:List W->List W->List W|x::xs,y::ys=>.tup [x,y]::anP xs ys|_,_=>[]
def ara(a b:EF):LF:=λc=>(a c).bind λx=>(b c).bind λy=>match x,y with|.lst xs,.lst ys=>if xs.length=ys.length then .ok (anP xs ys)else .bad|.tup xs,.tup ys=>if xs.length=ys.length then .ok (anP xs ys)else .bad|_,_=>.bad
noncomputable def cnt(x:W):List W->Nat|[]=>0|y::ys=>cnt x ys+if eqv y x then 1 else 0
def pT:W->List W->Res W|.lst ys,[x]=>if okD 50 x&&lV 51 ys then .ok (.int (cnt x ys))else .bad|_,_=>.bad
def eLR(e:EF):EF:=λa=>(e a).bind λx=>match x with|.int j=>if 0<=j/\j<=1000 then .ok (.lst (rng 0 j.toNat))else .bad|_=>.bad
mutual def eZ:W->List (List W)|.tup xs=>cy xs|.lst xs=>xs::cy xs|_=>[]def cy:List W->List (List W)|[]=>[]|x::xs=>eZ x++cy xs end
mutual def aZ:W->Bool|.tup xs=>bI xs|.lst xs=>bI xs|.dic _ _=>false|.cls _=>false|.exc _ _=>false|.ins _ _=>false|.id _=>false|_=>true def bI:List W->Bool|[]=>true|x::xs=>aZ x&&bI xs end
noncomputable def aoC:Out->Out|.rt w=>.rt w|_=>.bad
def jJ(t:TF)(a b:SF):SF:=λc=>ofR c (t c) λx=>match x with|true=>aoC (a c)|false=>b c
end WL
namespace SF
open PySem PySem.Builtin PySem.Builtin.Str PySem.StrLaws
noncomputable def lW(sub:List Nat)(k:Nat):Nat->Nat->List Nat->List Nat|_,_,[]=>[]|i,free,c::l=>if Nat.ble free i&&sub.isPrefixOf (c::l)then i::lW sub k (i+1) (i+k) l else lW sub k (i+1) free l
noncomputable def ag0(xs:List Nat)(k:Nat):Nat->List Nat->List Str|st,[]=>[⟨(xs.drop st).toArray⟩]|st,c::cs=>⟨((xs.drop st).take (c-st)).toArray⟩::ag0 xs k (c+k) cs
def abu(x y:Str)(i:Nat)(a:y.length≠0):i+y.length<=x.length/\subAt x y i=true↔y.cps.toList.isPrefixOf (x.cps.toList.drop i)=true:=by
 obtain⟨e⟩:=x;obtain⟨d⟩:=y;simp only[Str.length]at a⊢;unfold subAt;simp only[Str.length,asB];rw[arX,List.prefix_iff_eq_take,<-asz,asW];simp only[asH,asw];constructor;.rintro⟨f,c⟩;rw[<-c];simp[auQ];try omega
 .intro h;have b:=asZ List.length h;simp at b;refine⟨by omega,?_⟩;rw[auQ];rw[h];simp;try omega
theorem acx(x y:Str)(f:y.length≠0):∀(m i free:Nat)(a:Array Nat),i+m=x.length+1->a.size<=i->(forIn (List.range' i m) (a,free) (occBody x y x.length (x.length+1))).run.fst.toList=a.toList++lW y.cps.toList y.length i free (x.cps.toList.drop i)
|0,i,free,a,hm,ha=>by
  have:x.cps.toList.drop i=[]:=by rw[asX];exact arq (ato _) (auB hm.symm)
  rw[this];simp[lW]|m+1,i,free,a,hm,ha=>by
  have l:=abu x y i f;rw[List.range'_succ,List.forIn_cons];have h:a.size<x.length+1:=hm▸auf ha (Nat.lt_add_of_pos_right (Nat.succ_pos m));have d:=(Nat.succ_add_eq_add_succ i m).trans hm;by_cases c:free<=i/\y.cps.toList.isPrefixOf (x.cps.toList.drop i)=true
  .have k:=l.mpr c.2;have j:occBody x y x.length (x.length+1) i (a,free)=pure (ForInStep.yield (a.push i,i+y.length)):=by unfold occBody;rw[arj ⟨⟨⟨h,c.1⟩,k.1⟩,k.2⟩]
   rw[j];have b:i<x.cps.toList.length:=aro (Nat.lt_add_of_pos_right (Nat.pos_of_ne_zero f)) k.1;have g:=acx x y f m (i+1) (i+y.length) (a.push i) d (by rw[Array.size_push];exact Nat.succ_le_succ ha);have e:x.cps.toList.drop i=x.cps.toList[i]::x.cps.toList.drop (i+1):=arF b;rw[e]at c⊢;simp only[lW,c.2,atm.mpr c.1,Bool.and_self,asI];refine Eq.trans g ?_;simp
  .have j:occBody x y x.length (x.length+1) i (a,free)=pure (ForInStep.yield (a,free)):=by unfold occBody;rw[arl];rintro⟨⟨⟨_,p⟩,r⟩,o⟩;exact c ⟨p,l.mp ⟨r,o⟩⟩
   rw[j];have g:=acx x y f m (i+1) free a d (Nat.le_succ_of_le ha);refine Eq.trans g ?_;by_cases b:i<x.cps.toList.length
   .have e:x.cps.toList.drop i=x.cps.toList[i]::x.cps.toList.drop (i+1):=arF b;rw[e]at c⊢;have:(Nat.ble free i&&y.cps.toList.isPrefixOf (x.cps.toList[i]::x.cps.toList.drop (i+1)))=false:=by rw[asu];intro z;rw[ary,atm]at z;exact c z
    simp only[lW,this,asq,atb]
   .have q:x.cps.toList.drop i=[]:=asX.mpr (auH b);have n:x.cps.toList.drop (i+1)=[]:=asX.mpr (Nat.le_succ_of_le (auH b));rw[q,n];simp[lW]
def yf(x y:Str)(a:y.length≠0):occurrences x y 0 x.length (x.length+1)=lW y.cps.toList y.length 0 0 x.cps.toList:=by rw[StrLaws.occ_eq];have:=acx x y a (x.length+1) 0 0 #[] (Nat.zero_add _) (arn _);simpa using this
theorem ya(x:Str)(k:Nat):∀(a:List Nat)(st:Nat),((st::a.map (.+k)).zip (a++[x.length])).map (λ(p:Nat×Nat)=>strSub x p.1 p.2)=ag0 x.cps.toList k st a|[],st=>by simp only[as1,aso,auh,List.zip_nil_right,arv,ag0,List.zip_nil_left];congr 1;unfold strSub;congr 1;apply asz.mp;rw[asW];simp[asw,Str.length,atM]|c::a,st=>by have b:=ya x k a (c+k);simp only[arv,arJ,auh,ag0];rw[<-b];congr 1;unfold strSub;congr 1;apply asz.mp;rw[asW,asw];first|rfl|(rw[auQ];done)|skip
def fL(x y:Str):List Str:=match lW y.cps.toList y.length 0 0 x.cps.toList with|[]=>[x]|c::cs=>ag0 x.cps.toList y.length 0 (c::cs)
def zh(x y:Str)(d:y.length≠0)(f:strKind y=1):Txt.split x y=fL x y:=by
 unfold Txt.split fL;rw[yf x y d];have a:decide (strKind x<strKind y)=false:=by
  rw[f];unfold PySem.Builtin.Str.strKind;split;.rfl
  .split<;>rfl
 rw[a];cases e:lW y.cps.toList y.length 0 0 x.cps.toList with|nil=>simp|cons c cs=>
  have g:¬x.length<y.length:=λz=>by have b:=yf x y d;rw[e]at b;have:=occ_spec x y 0 x.length (x.length+1) c (by rw[b];simp);omega
  simp only[ash g,Bool.or_self,asq,atb,aur];exact ya x y.length (c::cs) 0
noncomputable def nU(a:List Nat):List Str->List Nat|[]=>[]|[x]=>x.cps.toList|x::y::r=>x.cps.toList++(a++nU a (y::r))
theorem ac7(b:Str):∀(r:List Str)(a:Array Nat),(r.foldl (λa p=>a++b.cps++p.cps) a).toList=a.toList++match r with|[]=>[]|_=>b.cps.toList++nU b.cps.toList r
|[],a=>by simp|[x],a=>by simp[nU]|x::y::r,a=>by have:=ac7 b (y::r) (a++b.cps++x.cps);rw[atZ,this];simp[nU]
def ac8(a:Str)(ys:List Str):Txt.join a ys=⟨(nU a.cps.toList ys).toArray⟩:=by unfold Txt.join glued;congr 1;apply asz.mp;cases ys with|nil=>simp[nU,Str.empty]|cons x r=>have:=ac7 a r x.cps;simp only[List.drop_succ_cons,asJ,List.headD_cons];rw[this];cases r with|nil|cons y r=>simp[nU]
end SF
namespace WL
open PySem
def aq9:W->W->Res W|.str x,.str y=>if x.length+y.length<=lim then .ok (.str (x++y))else .bad|_,_=>.bad
def aq7:W->W->Res W|.lst xs,.int k=>if -1000000<=k/\k<=1000000/\xs.length*k.toNat<=lim then .ok (.lst (List.replicate k.toNat xs).flatten)else .bad|.tup xs,.int k=>if xs≠[]/\k≠1/\-1000000<=k/\k<=1000000/\xs.length*k.toNat<=lim then .ok (.tup (List.replicate k.toNat xs).flatten)else .bad|_,_=>.bad
noncomputable def arc:List W->Res W|[.int i]=>if i.natAbs.log2<1920 then .ok (.str (toString i))else .bad|_=>.bad
def fQ:W->List W->Res W|.str x,[.str y]=>if y.length≠0/\Builtin.Str.strKind y=1/\x.length<=lim then .ok (.lst ((SF.fL x y).map .str))else .bad|_,_=>.bad
noncomputable def gu:W->List W->Res W|.str x,[.str y]=>.ok (.bl (Txt.startswith x y))|_,_=>.bad
def uo:W->List W->Res W|.str x,[.str y]=>if y.length≠0/\x.length<=lim then .ok (.tup [.str (Txt.partition x y).1,.str (Txt.partition x y).2.1,.str (Txt.partition x y).2.2])else .bad|_,_=>.bad
noncomputable def strsOf:List W->Option (List Str)|[]=>some []|.str x::r=>(strsOf r).map (x::.)|_=>none
def lX:W->List W->Res W
|.str x,[.lst ws]=>match strsOf ws with|some ys=>if(ys.map (·.length)).sum+ys.length*x.length<=lim then .ok (.str ⟨(SF.nU x.cps.toList ys).toArray⟩)else .bad|none=>.bad
|_,_=>.bad
def ua:W->W->Res W|.str x,.int i=>if 0<=i/\x.length<=lim then .ok (.str (Txt.slice x (some i) none))else .bad|_,_=>.bad
noncomputable def abS(lo st:Int)(n:Nat):List W:=(List.range n).map λi=>.int (lo+(i:Nat)*st)
def zZ(a b:EF):LF:=λc=>(a c).bind λx=>(b c).bind λy=>match x,y with|.int i,.int j=>if -2^60<=i/\i<2^60/\-2^60<=j/\j<2^60 then .ok (abS i 2 ((j-i+1)/2).toNat)else .bad|_,_=>.bad
noncomputable def l3:List W->Res W|[.int i]=>if i.natAbs.log2<1920 then .ok (.str (toString i))else .bad|[.str x]=>.ok (.str x)|_=>.bad
noncomputable def aaL:W->Bool|.str _=>true|.int _=>true|.non=>true|_=>false
noncomputable def zX:W->W->Bool|.str x,.str y=>x==y|.int i,.int j=>i==j|.non,.non=>true|_,_=>false
def afX(k:W)(ks:List W):Bool:=ks.any λx=>zX x k
noncomputable def afW(k v:W):List W->List W->List W|k'::ks,v'::vs=>(if zX k' k then v else v')::afW k v ks vs|_,_=>[]
def putK(ks:List W)(k:W):List W:=if afX k ks then ks else ks++[k]
def ale(ks us:List W)(k v:W):List W:=if afX k ks then afW k v ks us else us++[v]
def putD(i:Nat)(ks us:List W)(k v:W)(σ:Ws):Out:=if aaL k=true/\ks.length<lim then .nx (σ.set i (.od (putK ks k) (ale ks us k v)))else .bad
def dt(i:Nat)(c b:EF):SF:=λa=>match a[i]? with|some (.od ks us)=>ofR a (c a) λv=>ofR a (b a) λk=>putD i ks us k v a|_=>.bad
noncomputable def ajQ(i:Nat):LF:=λa=>match a[i]? with|some (.va (.dic ks _))=>.ok ks|_=>.bad
def aaC:List W->Res W|[.str x]=>if x.length<=lim then .ok (.int x.length)else .bad|[.dic ks _]=>.ok (.int ks.length)|ws=>lQ ws
def ajN(x y:W):Res W:=match x,y with|.str a,.str b=>.ok (.bl !(Builtin.Str.occurrences b a 0 b.length 1).isEmpty)|_,.str _=>.bad|x,y=>oIn x y
noncomputable def signs(x:Str):List W:=x.cps.toList.map λc=>.str ⟨#[c]⟩
def aqr(e:EF):LF:=λa=>(e a).bind λw=>match w with|.str x=>if x.cps.all (.<128)=true then .ok (signs x)else .bad|_=>.bad
end WL
namespace WL
def xt(tv:EF):EF:=λa=>tv (vf (a.take 3))
def acR(tv:EF):SF:=pP (ajQ 1) (aA 2) (dt 3 (xt tv) (aq 2))
noncomputable def anH:Out->Res W
|.nx σ=>match(σ[3]?:Option Sl)with|some (.od ks us)=>.ok (.dic ks us)|_=>.bad
|.ex c _=>.ex c|_=>.bad
noncomputable def clr(σ:Ws):Ws:=σ.map λs=>match s with|.va w=>.va w|_=>.no
def anw(tv:EF)(σ:Ws):Res W:=match(σ[0]?:Option Sl)with|some .ob=>if σ.length=3 then anH (acR tv (clr σ++[.od [] []]))else .bad|_=>.bad
def aqb(b a:SF)(tv:EF):List W->Res W
|[w]=>match aH b a [.ob,.va w,.no]with|.nx σ=>anw tv σ|.ex c _=>.ex c|_=>.bad
|_=>.bad
end WL
namespace WL
open PySem
def yM(c:String)(f:List W->Res W)(a:AF):EF:=λd=>(a d).bind λws=>(f ws).bind λb=>.ok (.ins c [b])
noncomputable def aqu(c:String):W->Res W|.ins c' [w]=>if c'==c then .ok w else .bad|_=>.bad
def adB(c:String)(e:EF):EF:=λa=>(e a).bind (aqu c)
noncomputable def isI(c:String):W->Bool|.ins c' [_]=>c'==c|_=>false
def gO(c:String)(f:List W->Res W)(o:EF)(a:AF):EF:=λb=>(o b).bind λx=>if isI c x then(a b).bind λws=>f (x::ws)else .bad
def aq8(x y:W):Res W:=match y with|.dic ks _=>if aaL x=true then .ok (.bl (afX x ks))else .bad|_=>ajN x y
def nJ(x y:W):Res W:=match y with|.dic ks _=>if aaL x=true then .ok (.bl !afX x ks)else .bad|_=>fO x y
def ov:List W->Res W|[.dic ks _]=>if ks.length<=lim then .ok (.lst ks)else .bad|ws=>w9 ws
noncomputable def aar(k:W):List W->List W->Option W|k'::ks,v::vs=>if zX k' k then some v else aar k ks vs|_,_=>none
def ajL(x y:W):Res W:=match x with|.dic ks us=>if aaL y=true then ofO (aar y ks us)else .bad|_=>oIx x y
end WL
namespace WL
open PySem PyProof.Rows PySem.Spec
noncomputable def leS(a b:Str):Bool:=!ltCps b.cps.toList a.cps.toList
def vA(l:List Str):List Str:=l.mergeSort leS
def lO:List W->Res W
|[.lst ws]=>match strsOf ws with|some ss=>if ss.length<64 then .ok (.lst ((vA ss).map .str))else .bad|none=>.bad
|_=>.bad
def q0(a b:Str):leS a b=true↔a.cps.toList<=b.cps.toList:=by unfold leS;rw[ltCps_eq];simp[List.not_lt]
def ur(a b c:Str)(e:leS a b=true)(d:leS b c=true):leS a c=true:=by rw[q0]at *;exact List.le_trans e d
def acX(a b:Str):(leS a b||leS b a)=true:=by rw[at0,q0,q0];exact List.le_total _ _
def afq{a b:Str}(d:leS a b=true)(c:leS b a=true):a=b:=by rw[q0]at *;have:=List.le_antisymm d c;cases a;cases b;congr 1;exact asz.mp this
theorem qD:∀(r:List Str)(x:Str),risingS x r=true->∀y∈r,leS x y=true
|[],_,_,_,a=>nomatch a|z::r,x,h,y,a=>by
 have b:(leS x z&&risingS z r)=true:=h;rw[ary]at b;rcases arx.mp a with rfl|a;.exact b.1
 .exact ur _ _ _ b.1 (qD r z b.2 y a)
def sY:∀(r:List Str)(x:Str),risingS x r=true->sortedS r=true|[],_,_=>rfl|z::r,x,h=>by have a:(leS x z&&risingS z r)=true:=h;rw[ary]at a;exact a.2
theorem mQ:∀(b a:List Str),sortedS b=true->sortedS a=true->b.Perm a->b=a
|[],a,_,_,p=>by simpa using p|x::r1,[],_,_,p=>by simpa using p|x::r1,y::r2,h1,h2,p=>by
  have d:=qD r1 x h1;have c:=qD r2 y h2;have e:x=y:=by
   rcases arx.mp (p.mem_iff.mp (arD ..):x∈y::r2)with z|z;.exact z
   .rcases arx.mp (p.mem_iff.mpr (arD ..):y∈x::r1)with w|w;.exact w.symm
    .exact afq (d y w) (c x z)
  subst e;rw[mQ r1 r2 (sY r1 x h1) (sY r2 x h2) (List.Perm.cons_inv p)]
def zi(l:List Str):(vA l).Perm l:=List.mergeSort_perm l leS
def sC(l:List Str):sortedS (vA l)=true:=by refine sortedS_of_pairwise _ ?_;have:=List.pairwise_mergeSort (le:=leS) ur acX l;refine this.imp λ{a b}h=>?_;unfold leS at h;simpa using h
def ki{l a:List Str}(p:a.Perm l)(h:sortedS a=true):a=vA l:=mQ _ _ h (sC l) (p.trans (zi l).symm)
end WL
namespace WL
open PySem
def lP:List W->Res W|[.dic ks _]=>lO [.lst ks]|ws=>lO ws
def aq0:W->Bool|.dic ks us=>bI ks&&bI us|_=>false
def apF(l:LF):Out->Res W|.nx σ=>(l σ).bind λa=>.ok (.lst a)|.ex c _=>.ex c|_=>.bad
def agy(n:Nat)(t:SF)(l:LF):List W->Res W:=λws=>apF l (t (ws.map .va++List.replicate (n-ws.length) .no))
noncomputable def asL:W->Res (List W)|.lst xs=>.ok xs|_=>.bad
def agP(e:EF):LF:=λa=>(e a).bind λx=>match x with|.dic _ _=>(lP [x]).bind asL|_=>.bad
inductive OX(S:Type)where|nx(σ:Ws)(s:S)|bk(σ:Ws)(s:S)|ct(σ:Ws)(s:S)|rt(w:W)(s:S)|ex(c:W)(σ:Ws)|bad
abbrev RF(S:Type):=Ws->S->OX S
variable{S:Type}
noncomputable def rX(t:SF):RF S:=λa s=>match t a with|.nx σ'=>.nx σ' s|.bk σ'=>.bk σ' s|.ct σ'=>.ct σ' s|.rt w=>.rt w s|.ex c σ'=>.ex c σ'|.bad=>.bad
noncomputable def aaJ(a b:RF S):RF S:=λc s=>match a c s with|.nx σ' s'=>b σ' s'|o=>o
noncomputable def seen(adr:S->Nat)(val:S->W)(j:Nat)(σ:Ws)(s:S):Option Ws:=match σ[j]? with|some (.va (.id b))=>if b=adr s then some (σ.set j (.va (val s)))else none|_=>none
def xT(adr:S->Nat)(val:S->W)(j:Nat)(t:TF)(σ:Ws)(s:S):Res Bool:=match seen adr val j σ s with|some σ'=>t σ'|none=>.bad
noncomputable def aj8(r:Res Bool)(a b:OX S):OX S:=match r with|.ok true=>a|.ok false=>b|_=>.bad
def xIf(t:Ws->S->Res Bool)(a b:RF S):RF S:=λc s=>aj8 (t c s) (a c s) (b c s)
noncomputable def ap4(t:Ws->S->Res Bool)(b:RF S):Nat->Ws->S->OX S|0,_,_=>.bad|n+1,σ,s=>aj8 (t σ s) (match b σ s with|.nx σ' s'=>ap4 t b n σ' s'|.ct σ' s'=>ap4 t b n σ' s'|.bk σ' s'=>.nx σ' s'|o=>o) (.nx σ s)
noncomputable def ml(k:Nat)(b:RF S):List W->Ws->S->OX S|[],σ,s=>.nx σ s|x::xs,σ,s=>match b (σ.set k (.va x)) s with|.nx σ2 s2=>ml k b xs σ2 s2|.ct σ2 s2=>ml k b xs σ2 s2|.bk σ2 s2=>.nx σ2 s2|o=>o
def aj7(adr:S->Nat)(val:S->W)(j i:Nat)(e:EF):RF S:=λa s=>match seen adr val j a s with
|some σ'=>match e σ' with|.ok w=>if plain w=true then .nx (a.set i (.va w)) s else .bad|_=>.bad
|none=>.bad
noncomputable def runM(n:Nat)(t:RF S):List W->S->OX S:=λws s=>t (ws.map .va++List.replicate (n-ws.length) .no) s
noncomputable def ofM(σ:Ws):OX S->OX S|.nx _ s'=>.nx σ s'|.rt _ s'=>.nx σ s'|.ex c _=>.ex c σ|_=>.bad
structure Sr where
 a:Nat
 d:Nat
 goal:W
 most:W
 rows:List W
 seen:List (List (List Int))
def at_(j:Nat)(σ:Ws)(s:Sr)(o:OX Sr):OX Sr:=match(σ[j]?:Option Sl)with|some (.va (.id b))=>if b=s.a then o else .bad|_=>.bad
noncomputable def ai6(c:String)(n:Nat):W->Res W|.ins c' ws=>if c'==c then match ws[n]? with|some w=>.ok w|none=>.bad else .bad|_=>.bad
def jY(c:String)(n:Nat)(e:EF):EF:=λa=>(e a).bind (ai6 c n)
structure Rn where
 a:Nat
 r:Nat
 book:W
 floors:List W
def Rn.val(s:Rn):W:=.ins "Run" [s.book,.lst s.floors]
def Rn.ajG(s:Rn):W:=.ins "Run" [s.book,.id s.r]
noncomputable def tuh:List W->Bool|.tup _::_=>true|_=>false
variable{S:Type}
def aaV(adr:S->Nat)(val:S->W)(j i:Nat)(e:EF):RF S:=λa s=>match seen adr val j a s with
|some σ'=>match e σ' with|.ok w=>.nx (a.set i (.va w)) s|_=>.bad
|none=>.bad
def ahi(it:LF)(k:Nat)(b:RF S):RF S:=λa s=>match it a with|.ok xs=>ml k b xs a s|_=>.bad
abbrev AXF(S:Type):=Ws->S->Res (List W)
noncomputable def axN:AXF S:=λ_ _=>.ok []
def axP(e:EF)(a:AXF S):AXF S:=λb s=>(e b).bind λx=>(a b s).bind λc=>.ok (x::c)
def gU(j:Nat)(d:List W->Rn->OX Rn)(a:AXF Rn):RF Rn:=λc s=>match c[j]? with|some (.va (.id b))=>if b=s.a then match a c s with|.ok ws=>ofM c (d (.id b::ws) s)|_=>.bad else .bad|_=>.bad
noncomputable def isC(a:List String):W->Bool|.exc nm _=>a.contains nm|_=>false
def vj(b:List String)(ci:Nat)(e:EF):RF Rn:=λa s=>match seen Rn.a Rn.val 0 a s with
|some σ'=>(match e σ' with
 |.ok w=>if plain w=true/\s.floors.length<lim then .nx a {s with floors:=s.floors++[w]}else .bad|.ex c=>match a[ci]? with|some (.va w)=>if mR w=true/\isC b c=true then .ex (.exc "Broken" [w,c]) (List.replicate a.length .no)else .bad|_=>.bad
 |.bad=>.bad)|none=>.bad
def aaW(j:Nat)(e:EF):RF Rn:=λa s=>match seen Rn.a Rn.val j a s with
|some σ'=>match e σ' with|.ok w=>.rt w s|_=>.bad
|none=>.bad
def yY(t:RF Rn)(σ:Ws)(j:Nat)(b d:W)(o:Res W):Prop:=∀a r:Nat,match t (σ.set j (.va (.id a))) ⟨a,r,b,[d]⟩with|.rt w _=>o=.ok w|.ex c σ'=>o=.ex c/\σ'.length=σ.length|_=>False
noncomputable def i3(j:Nat)(b:AF)(t:RF Rn):SF:=λa=>match b a with|.ok [wb,wf]=>@dite _ (∃o:Res W,yY t a j wb wf o) (Classical.propDecidable _) (λh=>match Classical.choose h with|.ok w=>.rt w|.ex c=>.ex c (List.replicate a.length .no)|.bad=>.bad) λ_=>.bad|_=>.bad
def agw(i:Nat)(a:AF):SF:=λb=>ofR b (a b) λc=>match jD c with|some (ks,vs)=>if fU ks&&decide (ks.length<=15)then .nx (b.set i (.od ks vs))else .bad|none=>.bad
def aby(i:Nat)(a:List W)(s:SF)(σ:Ws):Option Sl->Out|some (.va (.tup [_,.lst us]))=>@ite _ (bI us=true/\us∉cy a/\us.length<lim) (Classical.propDecidable _) (s (σ.set i .no)) .bad|_=>.bad
def qz(i:Nat)(b:List W)(s:SF):SF:=λa=>aby i b s a a[i]?
def lOf(e:EF):LF:=λa=>(e a).bind asL
def aos(t:TF)(b:SF):SF:=λa=>ofR a (t a) λx=>match x with|true=>.bk a|false=>b a
noncomputable def aaK(a b:SF):SF:=λd=>match a d with|.nx σ'=>b σ'|.ex c σ'=>.ex c σ'|.rt w=>.rt w|_=>.bad
noncomputable def goT(n:Nat)(t:SF)(ws:List W):Out:=t (ws.map .va++List.replicate (n-ws.length) .no)
noncomputable def aeF(j:Nat)(z:Str):Out->Res W
|.bk σ=>match σ[j]? with|some (.ow xs)=>.ok (.tup [.str z,.lst xs])|_=>.bad
|.rt w=>.ok w|_=>.bad
def ze(i j:Nat)(z:Str)(s:SF)(σ:Ws):Out->Out
|.bk σ'=>match σ'[j]? with|some (.ow xs)=>if bI xs=true/\cy xs=[]then s (σ.set i (.va (.tup [.str z,.lst xs])))else .bad|_=>.bad
|.rt w=>if aZ w=true/\eZ w=[]then s (σ.set i (.va w))else .bad|_=>.bad
def abN(i j:Nat)(z:Str)(g:List W->Out)(a:AF)(s:List W->SF):SF:=λb=>ofR b (a b) λws=>ze i j z (s []) b (g ws)
end WL
namespace L2
open PySem PySem.Spec PyProof.Rows
def av.rd{H H'}(e:av H H'){a u}(q:Rd H a u):Rd H' a u:=q.imp (e _ _) λ⟨o,z⟩=>⟨o,e _ _ z⟩
end L2
namespace WS
open PySem PySem.Spec PyProof.Rows L2
open WL(Res Sl Ws EF TF AF LF GF GsF SF Out OX RF Rn AXF)
abbrev VW:=WL.W
def ExcAt(K:W.Frag)(nm:String)(C:Addr):Prop:=nm∈WL.rA/\W.nsIn K mainGlobals (Str.ofString nm)=some (some (.ref C))
mutual def RW(K:W.Frag)(H:Hp):VW->V->Prop|.non,v=>v=.non|.bl b,v=>v=.bl b|.int i,v=>v=.int i|.str x,v=>v=.str x|.ty n,v=>v=.ty n|.tup ws,v=>∃a vs,v=.ref a/\SqT K H a vs/\RWs K H ws vs|.lst ws,v=>∃a vs,v=.ref a/\SqL K H a vs/\RWs K H ws vs|.dic ks vs,v=>∃a kvs,v=.ref a/\Rd H a (.dK kvs)/\RWs K H ks (kvs.map λp=>kV p.1)/\RWs K H vs (kvs.map λp=>p.2)|.cls d,v=>∃a,v=.ref a/\ExcAt K d a|.exc nm fs,v=>∃a C dx,v=.ref a/\H a=some (.ext (excAt a C dx))/\ExcAt K nm C/\∃fvs:List (Str×V),fvs.map (·.1)=WL.fieldsOf nm/\RWs K H fs (fvs.map (·.2))/\(fvs=[]/\dx.1=none\/∃d,dx.1=some d/\H d=some (.xd fvs))|.ins c fs,v=>∃a C dx,∃fvs:List (Str×V),v=.ref a/\H a=some (.ins C dx fvs)/\W.nsIn K mainGlobals (Str.ofString c)=some (some (.ref C))/\fvs.map (·.1)=WL.lY c/\fvs≠[]/\RWs K H fs (fvs.map (·.2))|.id a,v=>v=.ref a def RWs(K:W.Frag)(H:Hp):List VW->List V->Prop|[],vs=>vs=[]|w::ws,vs=>∃v r,vs=v::r/\RW K H w v/\RWs K H ws r end
section
variable{K:W.Frag}{H H':Hp}
mutual theorem RW.via(ht:∀a xs,SqT K H a xs->SqT K H' a xs)(hl:∀a xs,SqL K H a xs->SqL K H' a xs)(hd:∀a kvs,Rd H a (.dK kvs)->Rd H' a (.dK kvs))(he:∀a φ,H a=some (.ext φ)->H' a=some (.ext φ))(hx:∀a fs,H a=some (.xd fs)->H' a=some (.xd fs))(hi:∀a C dx fs,fs≠[]->H a=some (.ins C dx fs)->H' a=some (.ins C dx fs)):∀(w:VW)(v:V),RW K H w v->RW K H' w v|.non,_,h=>by simpa only[RW]using h|.bl _,_,h=>by simpa only[RW]using h|.int _,_,h=>by simpa only[RW]using h|.str _,_,h=>by simpa only[RW]using h|.ty _,_,h=>by simpa only[RW]using h|.tup ws,_,h=>by obtain⟨a,vs,e,q,r⟩:=h;exact⟨a,vs,e,ht a vs q,RWs.via ht hl hd he hx hi ws vs r⟩|.lst ws,_,h=>by simp only[RW]at h⊢;obtain⟨a,vs,e,q,r⟩:=h;exact⟨a,vs,e,hl a vs q,RWs.via ht hl hd he hx hi ws vs r⟩|.dic ks vs,_,h=>by simp only[RW]at h⊢;obtain⟨a,kvs,e,q,r1,r2⟩:=h;exact⟨a,kvs,e,hd a kvs q,RWs.via ht hl hd he hx hi ks _ r1,RWs.via ht hl hd he hx hi vs _ r2⟩|.cls _,_,h=>by simpa only[RW]using h|.id _,_,h=>by simpa only[RW]using h|.exc nm fs,_,h=>by simp only[RW]at h⊢;obtain⟨a,C,dx,e,q,c,fvs,f1,f2,f3⟩:=h;exact⟨a,C,dx,e,he _ _ q,c,fvs,f1,RWs.via ht hl hd he hx hi fs _ f2,f3.imp (λz=>z) λ⟨d,z1,z2⟩=>⟨d,z1,hx _ _ z2⟩⟩|.ins c fs,_,h=>by simp only[RW]at h⊢;obtain⟨a,C,dx,fvs,e,q,c1,c2,c3,r⟩:=h;exact⟨a,C,dx,fvs,e,hi _ _ _ _ c3 q,c1,c2,c3,RWs.via ht hl hd he hx hi fs _ r⟩theorem RWs.via(ht:∀a xs,SqT K H a xs->SqT K H' a xs)(hl:∀a xs,SqL K H a xs->SqL K H' a xs)(hd:∀a kvs,Rd H a (.dK kvs)->Rd H' a (.dK kvs))(he:∀a φ,H a=some (.ext φ)->H' a=some (.ext φ))(hx:∀a fs,H a=some (.xd fs)->H' a=some (.xd fs))(hi:∀a C dx fs,fs≠[]->H a=some (.ins C dx fs)->H' a=some (.ins C dx fs)):∀(ws:List VW)(vs:List V),RWs K H ws vs->RWs K H' ws vs|[],_,h=>by simpa only[RWs]using h|w::ws,_,h=>by simp only[RWs]at h⊢;obtain⟨v,r,e,q,t⟩:=h;exact⟨v,r,e,RW.via ht hl hd he hx hi w v q,RWs.via ht hl hd he hx hi ws r t⟩end
def RW.keep(e:av H H'){w v}(h:RW K H w v):RW K H' w v:=RW.via (λ_ _ q=>e.tup q) (λ_ _ q=>e.seq q) (λ_ _ q=>e.rd q) (λ_ _ q=>e _ _ q) (λ_ _ q=>e _ _ q) (λ_ _ _ _ _ q=>e _ _ q) w v h
def RWs.keep(e:av H H'){ws vs}(h:RWs K H ws vs):RWs K H' ws vs:=RWs.via (λ_ _ q=>e.tup q) (λ_ _ q=>e.seq q) (λ_ _ q=>e.rd q) (λ_ _ q=>e _ _ q) (λ_ _ q=>e _ _ q) (λ_ _ _ _ _ q=>e _ _ q) _ _ h
mutual theorem RW.less(ht:∀a xs,SqT K H a xs->SqT K H' a xs):∀(w:VW)(v:V),WL.plain w=true->RW K H w v->RW K H' w v|.non,_,_,h=>by simpa only[RW]using h|.bl _,_,_,h=>by simpa only[RW]using h|.int _,_,_,h=>by simpa only[RW]using h|.str _,_,_,h=>by simpa only[RW]using h|.ty _,_,_,h=>by simpa only[RW]using h|.tup ws,_,p,h=>by obtain⟨a,vs,e,q,r⟩:=h;exact⟨a,vs,e,ht a vs q,RWs.less ht ws vs (by assumption) r⟩|.lst ws,_,p,_=>by cases p|.dic _ _,_,p,_=>by cases p|.cls _,_,_,h=>by simpa only[RW]using h|.id _,_,_,h=>by simpa only[RW]using h|.exc _ _,_,p,_=>by cases p|.ins _ _,_,p,_=>by cases p theorem RWs.less(ht:∀a xs,SqT K H a xs->SqT K H' a xs):∀(ws:List VW)(vs:List V),WL.jM ws=true->RWs K H ws vs->RWs K H' ws vs|[],_,_,h=>by simpa only[RWs]using h|w::ws,_,p,h=>by simp only[RWs]at h⊢;have p:=asr.mp p;obtain⟨v,r,e,q,t⟩:=h;exact⟨v,r,e,RW.less ht w v p.1 q,RWs.less ht ws r p.2 t⟩end
theorem RWs.length:∀{ws vs},RWs K H ws vs->ws.length=vs.length|[],_,h=>by subst h;rfl|w::ws,_,h=>by obtain⟨v,r,rfl,_,t⟩:=h;simp [RWs.length t]
theorem RWs.get:∀{ws:List VW}{vs:List V}{i:Nat}{w:VW},RWs K H ws vs->ws[i]?=some w->∃v,vs[i]?=some v/\RW K H w v|[],_,_,_,_,e=>by simp at e|x::ws,_,0,w,h,e=>by simp only[RWs]at h;obtain⟨v,r,rfl,q,_⟩:=h;simp at e;subst e;exact⟨v,rfl,q⟩|x::ws,_,i+1,w,h,e=>by simp only[RWs]at h;obtain⟨v,r,rfl,_,t⟩:=h;obtain⟨u,a,b⟩:=RWs.get t (by simpa using e);exact⟨u,by simpa using a,b⟩
def RWs.get':∀{ws:List VW}{vs:List V}{i:Nat}{v:V},RWs K H ws vs->vs[i]?=some v->∃w,ws[i]?=some w/\RW K H w v:=λ{ws vs i v}h e=>by have c:=h.length;have d:i<vs.length:=(ari.mp e).1;obtain⟨f,a,b⟩:=RWs.get (w:=ws[i]) h (art (by omega));rw[e]at a;cases a;exact⟨_,art (by omega),b⟩
theorem RWs.app:∀{ws b vs a},RWs K H ws vs->RWs K H b a->RWs K H (ws++b) (vs++a)|[],_,_,_,h,h'=>by subst h;exact h'|w::ws,_,_,_,h,h'=>by obtain⟨v,r,rfl,q,t⟩:=h;exact⟨v,_,rfl,q,RWs.app t h'⟩
def RWs.one{w v}(h:RW K H w v):RWs K H [w] [v]:=by exact⟨v,[],rfl,h,rfl⟩
def RWs.cons{w v ws vs}(h:RW K H w v)(t:RWs K H ws vs):RWs K H (w::ws) (v::vs):=by exact⟨v,vs,rfl,h,t⟩
theorem RWs.drop:∀{ws vs}n,RWs K H ws vs->RWs K H (ws.drop n) (vs.drop n)|_,_,0,h=>by grind|[],_,n+1,h=>by subst h;simp[RWs]|w::ws,_,n+1,h=>by obtain⟨v,r,rfl,_,t⟩:=h;simpa using RWs.drop n t
theorem RWs.take:∀{ws vs}n,RWs K H ws vs->RWs K H (ws.take n) (vs.take n)|_,_,0,h=>rfl|[],_,n+1,h=>by subst h;simp[RWs]|w::ws,_,n+1,h=>by obtain⟨v,r,rfl,q,t⟩:=h;exact⟨v,_,rfl,q,RWs.take n t⟩
theorem RWs.set{w:VW}{v:V}(hw:RW K H w v):∀{ws:List VW}{vs:List V}(n:Nat),RWs K H ws vs->RWs K H (ws.set n w) (vs.set n v)|[],_,n,h=>by simp only[RWs]at h;subst h;simp[RWs]|x::ws,_,0,h=>by simp only[RWs]at h;obtain⟨u,r,rfl,q,t⟩:=h;simp only[arM,RWs];exact⟨v,r,rfl,hw,t⟩|x::ws,_,n+1,h=>by simp only[RWs]at h;obtain⟨u,r,rfl,q,t⟩:=h;simp only[arY,RWs];exact⟨u,_,rfl,q,RWs.set hw n t⟩
theorem RWs.cut{ws vs}(h:RWs K H ws vs)(lo a):RWs K H (WL.cut ws lo a) (ajT vs lo a):=by unfold WL.cut ajT;rw[<-h.length];exact(h.drop _).take _
def RWs.ints(ns:List Int):RWs K H (ns.map .int) (ns.map V.int):=by induction ns with|nil=>simp[RWs]|cons n ns ih=>exact⟨_,_,rfl,rfl,ih⟩
end
def NF:HO->Prop|.frz _ _=>False|.ins _ _ []=>False|_=>True
structure Bx where
 K:W.Frag
 H0:Hp
 F0:Hp
 xp:VW->Ws->Hp->Prop
 mono:∀c σ F F',av F F'->xp c σ F->xp c σ F'
structure RB(B:Bx)(F H:Hp):Prop where
 sub:av F H
 base:av B.H0 H
 fz0:av B.F0 F
 fr:∀a o,F a=some o->B.F0 a=some o\/B.H0 a=none/\NF o
def IsO:Sl->Prop|.od _ _=>True|.ob=>True|_=>False
structure OD(K:W.Frag)(H0:Hp)(σ:Ws)(σV:L2.St)(F H:Hp):Prop where
 od:∀(i:Nat)(ks us:List VW),σ[i]?=some (.od ks us)->∃a kvs,σV[i]?=some (some (.ref a))/\F a=none/\H0 a=none/\H a=some (.dK kvs)/\RWs K F ks (kvs.map λp=>kV p.1)/\RWs K F us (kvs.map λp=>p.2)ad:∀(i j:Nat)(ks us ks' us':List VW)(a:Addr),i≠j->σ[i]?=some (.od ks us)->σ[j]?=some (.od ks' us')->σV[i]?=some (some (.ref a))->σV[j]?=some (some (.ref a))->False
 ob:∀i:Nat,σ[i]?=some .ob->∃a C dx,σV[i]?=some (some (.ref a))/\F a=some (.ins C dx [])
def OD.via{K B A l σ σ' k g F w H H'}(R:OD K A σ k F H)(Y:B=K)(f:Nat->Nat)(N:∀i j,f i=f j->i=j\/∀c d,σ'[i]?≠some (.od c d))(h:∀i v,IsO v->σ'[i]?=some v->σ[f i]?=some v/\g[i]?=k[f i]?)(s:av F w)(n:∀i(c d:List VW)a b,σ'[i]?=some (.od c d)->k[f i]?=some (some (.ref a))->H a=some (.dK b)->F a=none->A a=none->w a=none/\l a=none/\H' a=some (.dK b)):OD B l σ' g w H':=by
 subst Y;refine⟨λi c d e=>?_,λi j c d o m a y D E M I=>?_,λi e=>?_⟩;.obtain⟨q,t⟩:=h i (.od c d) trivial e;refine agf (R.od (f i) c d q) λa b p u Q U T O=>?_;refine ag6 (n i c d a b e p U u Q) λS Z J=>?_;exact ajD a b (t.trans p) S Z J (T.keep s) (O.keep s)
 .obtain⟨r,X⟩:=h i (.od c d) trivial D;obtain⟨x,G⟩:=h j (.od o m) trivial E;refine R.ad _ (f j) c d o m a (λz=>?_) r x (X.symm.trans M) (G.symm.trans I);rcases N i j z with z|z;.exact y z
  .exact z _ _ D
 .obtain⟨q,t⟩:=h i .ob trivial e;refine xh (R.ob (f i) q) λa C P p u=>?_;exact⟨a,C,P,t.trans p,s _ _ u⟩
structure RS(B:Bx)(σ:Ws)(σV:L2.St)(F H:Hp):Prop where
 rb:RB B F H
 len:σ.length=σV.length
 va:∀(i:Nat)(w:VW),σ[i]?=some (.va w)->∃v,σV[i]?=some (some v)/\RW B.K F w v
 ow:∀(i:Nat)(ws:List VW),σ[i]?=some (.ow ws)->∃a vs,σV[i]?=some (some (.ref a))/\F a=none/\B.H0 a=none/\H a=some (.lst vs)/\RWs B.K F ws vs
 ap:∀(i j:Nat)(ws ws':List VW)(a:Addr),i≠j->σ[i]?=some (.ow ws)->σ[j]?=some (.ow ws')->σV[i]?=some (some (.ref a))->σV[j]?=some (some (.ref a))->False
 dd:OD B.K B.H0 σ σV F H
def RS.aje{B σ c F H d H'}(R:RS B σ c F H)(s:av F d)(n:∀a b,H a=some (.dK b)->F a=none->d a=none/\H' a=some (.dK b)):OD B.K B.H0 σ c d H':=R.dd.via rfl _ (λ_ _ z=>.inl z) (λ_ _ _ e=>⟨e,rfl⟩) s λ_ _ _ a b _ _ f g h=>⟨(n a _ f g).1,h,(n a _ f g).2⟩
def RS.ajS{B σ c F H g H'}(R:RS B σ c F H)(i){sl}(r:¬IsO sl)(x)(s:av F g)(n:∀j(f d:List VW)a b,i≠j->σ[j]?=some (.od f d)->c[j]?=some (some (.ref a))->H a=some (.dK b)->F a=none->g a=none/\H' a=some (.dK b)):OD B.K B.H0 (σ.set i sl) (c.set i x) g H':=by
 have h:∀{j:Nat}{s':Sl},IsO s'->(σ.set i sl)[j]?=some s'->i≠j:=λ{j s'}t e z=>by
  subst z;have v:i<σ.length:=by have:=(ari.mp e).1;simpa using this
  rw[ark v]at e;exact r (arK e▸t)
 refine R.dd.via rfl id (λ_ _ z=>.inl z) (λj f d e=>?_) s λj f d a b e o m u p=>?_;.have:=h d e;rw[arh this]at e;exact⟨e,by rw[arh this];rfl⟩
 .have k:=h (s':=.od f d) trivial e;rw[arh k]at e;obtain⟨l,q⟩:=n j f d a b k e o m u;exact⟨l,p,q⟩
def set_same{a:L2.St}{i x}(e:a[i]?=some x):a.set i x=a:=by
 apply List.ext_getElem?;intro j;by_cases b:i=j;.subst b;rw[ark (ari.mp e).1,e]
 .rw[arh b]
structure Ext(F H F' H':Hp):Prop where
 same:av F F'
 rs:∀B σ σV,RS B σ σV F H->RS B σ σV F' H'
 rb:∀B,RB B F H->RB B F' H'
 own:∀a o,H a=some o->H' a=some o/\(F a=none->F' a=none)
structure Gr(F H F' H':Hp):Prop where
 f:av F F'
 h:av H H'
 nf:∀a o,H a=some o->F a=none->F' a=none
theorem Gr.refl{F H}:Gr F H F H:=⟨av.refl _,av.refl _,λ_ _ _ z=>z⟩
theorem Gr.trans{F H d c g f}(a:Gr F H d c)(b:Gr d c g f):Gr F H g f:=⟨a.f.trans b.f,a.h.trans b.h,λx o e z=>b.nf x o (a.h x o e) (a.nf x o e z)⟩
def Ext.gr{F H b H'}(e:Ext F H b H'):Gr F H b H':=⟨e.same,λa o q=>(e.own a o q).1,λa o q=>(e.own a o q).2⟩
section
variable{B:Bx}{σ:Ws}{σV:L2.St}{F H:Hp}
def Gr.new{p}(c:F p=none)(b:H p=none)(o):Gr F H (upd F p o) (upd H p o):=⟨ay c o,ay b o,λa u e z=>by rw[ag (aL e b)];exact z⟩
theorem Ext.refl(F H):Ext F H F H:=⟨av.refl _,λ_ _ _ h=>h,λ_ h=>h,λ_ _ h=>⟨h,λz=>z⟩⟩
theorem Ext.trans{d c f e:Hp}(a:Ext F H d c)(b:Ext d c f e):Ext F H f e:=⟨a.same.trans b.same,λB σ σV h=>b.rs B σ σV (a.rs B σ σV h),λB h=>b.rb B (a.rb B h),λx o h=>⟨(b.own x o (a.own x o h).1).1,λz=>(b.own x o (a.own x o h).1).2 ((a.own x o h).2 z)⟩⟩
def RB.new(R:RB B F H){p}(d:H p=none)(o)(f:NF o:=by trivial):RB B (upd F p o) (upd H p o):=by
 refine⟨λb u e=>?_,λb u e=>?_,R.fz0.trans (ay (R.sub.free d) o),λa u e=>?_⟩
 .by_cases c:b=p;.subst c;rw[aj]at e⊢;exact e
  .rw[ag c]at e⊢;exact R.sub b u e
 .exact ay d o b u (R.base b u e)
 .by_cases c:a=p;.subst c;rw[aj]at e;cases e;exact .inr ⟨R.base.free d,f⟩
  .rw[ag c]at e;exact R.fr a u e
theorem RS.new(R:RS B σ σV F H){p}(b:H p=none)(o)(n:NF o:=by trivial):RS B σ σV (upd F p o) (upd H p o):=by
 have f:=R.rb.sub.free b;refine⟨R.rb.new b o n,R.len,λi w e=>?_,λi ws e=>?_,R.ap,R.aje (ay f o) λa q d j=>⟨by rw[ag (aL d b)];exact j,by rw[ag (aL d b)];exact d⟩⟩;.obtain⟨v,c,g⟩:=R.va i w e;exact⟨v,c,g.keep (ay f o)⟩
 .refine oz (R.ow i _ e) λa k c g r m l=>?_;have h:a≠p:=λz=>by grind
  exact aaI a k c (by rw[ag h];exact g) r (by rw[ag h];exact m) (l.keep (ay f o))
theorem Ext.new{p}(f:F p=none)(c:H p=none)(o)(b:NF o:=by trivial):Ext F H (upd F p o) (upd H p o):=⟨ay f o,λ_ _ _ R=>R.new c o b,λ_ R=>R.new c o b,λa u e=>by
 have d:a≠p:=λz=>by grind
 exact⟨by rw[ag d];exact e,λz=>by rw[ag d];exact z⟩⟩
def RS.ajO(R:RS B σ σV F H){p}(c:H p=none)(o):RS B σ σV F (upd H p o):=by refine⟨⟨λb u e=>ay c o b u (R.rb.sub b u e),λb u e=>ay c o b u (R.rb.base b u e),R.rb.fz0,R.rb.fr⟩,R.len,R.va,λi ws e=>?_,R.ap,R.aje (av.refl _) λa l d f=>⟨f,by rw[ag (aL d c)];exact d⟩⟩;refine oz (R.ow i _ e) λa g k n m j h=>?_;exact⟨a,g,k,n,m,ay c o _ _ j,h⟩
def RS.grow(R:RS B σ σV F H){c H'}(g:Gr F H c H')(o:RB B c H'):RS B σ σV c H':=by
 refine⟨o,R.len,λi w e=>?_,λi ws e=>?_,R.ap,R.aje g.f λa m h j=>⟨g.nf a _ h j,g.h a _ h⟩⟩;.obtain⟨v,b,d⟩:=R.va i w e;exact⟨v,b,d.keep g.f⟩
 .refine oz (R.ow i _ e) λa k b d n f l=>?_;exact⟨a,k,b,g.nf a _ f d,n,g.h a _ f,l.keep g.f⟩
theorem RS.set(R:RS B σ σV F H){i:Nat}{w:VW}{v:V}(hw:RW B.K F w v):RS B (σ.set i (.va w)) (σV.set i (some v)) F H:=by
 have r:=R.len;refine⟨R.rb,by simp[r],λj u e=>?_,λj ws e=>?_,λj k ws g a h d c m l=>?_,R.ajS i (sl:=.va w) (λz=>z) _ (av.refl _) λ_ _ _ _ _ _ _ _ q n=>⟨n,q⟩⟩
 .by_cases f:i=j
  .subst f;have b:i<σ.length:=by have:=(ari.mp e).1;simpa using this
   rw[ark b]at e;cases e;exact⟨v,ark (by omega),hw⟩
  .rw[arh f]at e⊢;exact R.va j u e
 .by_cases f:i=j
  .subst f;have b:i<σ.length:=by have:=(ari.mp e).1;simpa using this
   rw[ark b]at e;cases e
  .rw[arh f]at e⊢;exact R.ow j ws e
 .have o:i≠j:=λz=>by
   subst z;have b:i<σ.length:=by have:=(ari.mp d).1;simpa using this
   rw[ark b]at d;cases d
  have p:i≠k:=λz=>by
   subst z;have b:i<σ.length:=by have:=(ari.mp c).1;simpa using this
   rw[ark b]at c;cases c
  rw[arh o]at d m;rw[arh p]at c l;exact R.ap j k ws g a h d c m l
def RS.aqK(R:RS B σ σV F H){i:Nat}{ws:List VW}{vs:List V}{a:Addr}(A:F a=none)(w:B.H0 a=none)(v:H a=some (.lst vs))(hw:RWs B.K F ws vs)(s:∀(j:Nat)(c:List VW),j≠i->σ[j]?=some (.ow c)->σV[j]?≠some (some (.ref a))):RS B (σ.set i (.ow ws)) (σV.set i (some (.ref a))) F H:=by
 have x:=R.len;have g:∀{j:Nat}{c:List VW},(σ.set i (.ow ws))[j]?=some (.ow c)->i=j->c=ws/\(σV.set i (some (V.ref a)))[j]?=some (some (.ref a)):=λ{j c}e z=>by
  subst z;have r:i<σ.length:=by have:=(ari.mp e).1;simpa using this
  rw[ark r]at e;cases e;exact⟨rfl,ark (by omega)⟩
 refine⟨R.rb,by simp[x],λj u e=>?_,λj c e=>?_,λj k c n b o q h p m=>?_,R.ajS i (sl:=.ow ws) (λz=>z) _ (av.refl _) λ_ _ _ _ _ _ _ _ y t=>⟨t,y⟩⟩
 .by_cases d:i=j
  .subst d;have r:i<σ.length:=by have:=(ari.mp e).1;simpa using this
   rw[ark r]at e;cases e
  .rw[arh d]at e⊢;exact R.va j u e
 .by_cases d:i=j;.obtain⟨rfl,f⟩:=g e d;exact⟨a,vs,f,A,w,v,hw⟩
  .rw[arh d]at e⊢;exact R.ow j c e
 .by_cases d:i=j;.obtain⟨_,f⟩:=g q d;rw[p]at f;cases f;have l:i≠k:=λz=>o (d.symm.trans z);rw[arh l]at h m;exact s k n (arz l) h m
  .rw[arh d]at q p;by_cases l:i=k;.obtain⟨_,f⟩:=g h l;rw[m]at f;cases f;exact s j c (arz d) q p
   .rw[arh l]at h m;exact R.ap j k c n b o q h p m
def RS.write(R:RS B σ σV F H){i}{ws us:List VW}{vs h a}(e:σ[i]?=some (.ow ws))(l:σV[i]?=some (some (.ref a)))(v:F a=none)(s:B.H0 a=none)(y:H a=some (.lst vs))(A:RWs B.K F us h):RS B (σ.set i (.ow us)) σV F (upd H a (.lst h)):=by
 have t:i<σ.length:=(ari.mp e).1;refine⟨⟨λb u q=>by rw[ag ((λb o q z=>by subst z;rw[v]at q;cases q) b u q)];exact R.rb.sub b u q,λb u q=>by
  have f:b≠a:=λz=>by subst z;rw[s]at q;cases q
  rw[ag f];exact R.rb.base b u q,R.rb.fz0,R.rb.fr⟩,by simp[R.len],λj w q=>?_,λj d q=>?_,λj k d E b p Q x D C=>?_,by
 have S:=R.ajS (H':=upd H a (.lst h)) i (sl:=.ow us) (λz=>z) (some (.ref a)) (av.refl _) λ_ _ _ b G _ _ _ n K=>⟨K,by
   have f:b≠a:=λz=>by subst z;rw[y]at n;cases n
   rw[ag f];exact n⟩;rwa[set_same l]at S⟩
 .by_cases c:i=j;.subst c;rw[ark t]at q;cases q
  .rw[arh c]at q;exact R.va j w q
 .by_cases c:i=j;.subst c;rw[ark t]at q;cases q;exact aaI a h l v s aj A
  .rw[arh c]at q;refine oz (R.ow j d q) λb g r J I P O=>?_;have f:b≠a:=λz=>by subst z;exact R.ap i j ws d b c e q l r
   exact aaI b g r J I (by rw[ag f];exact P) O
 .have back:∀{j:Nat}{d:List VW},(σ.set i (.ow us))[j]?=some (.ow d)->∃g,σ[j]?=some (.ow g):=λ{j d}q=>by
   by_cases c:i=j;.subst c;exact⟨ws,e⟩
   .rw[arh c]at q;exact⟨d,q⟩
  obtain⟨g,N⟩:=back Q;obtain⟨m,M⟩:=back x;exact R.ap j k g m b p N M D C
def RS.aqt(R:RS B σ σV F H){i:Nat}{sl:Sl}{a:Addr}{o:HO}{w:VW}(e:σ[i]?=some sl)(A:σV[i]?=some (some (.ref a)))(hF:F a=none)(Y:B.H0 a=none)(C:H a=some o)(T:NF o)(hw:RW B.K (upd F a o) w (.ref a))(P:∀(j:Nat)(ws:List VW),i≠j->σ[j]?=some (.ow ws)->σV[j]?≠some (some (.ref a)))(S:∀(j:Nat)(r x:List VW),i≠j->σ[j]?=some (.od r x)->σV[j]?≠some (some (.ref a))):RS B (σ.set i (.va w)) σV (upd F a o) H:=by
 have m:i<σ.length:=(ari.mp e).1;have s:av F (upd F a o):=ay hF _;refine⟨⟨λb u q=>?_,R.rb.base,R.rb.fz0.trans s,λb u q=>?_⟩,by simp[R.len],λj G q=>?_,λj g q=>?_,λj k g p b y l f E D=>?_,by
 have hd:=R.ajS i (sl:=.va w) (λz=>z) (some (.ref a)) s λj r x b J c I Q q1 M=>⟨by
  have n:b≠a:=λz=>by subst z;exact S j r x c I Q
  rw[ag n];exact M,q1⟩;rwa[set_same A]at hd⟩
 .by_cases d:b=a;.subst d;rw[aj]at q;cases q;exact C
  .rw[ag d]at q;exact R.rb.sub b u q
 .by_cases d:b=a;.subst d;rw[aj]at q;cases q;exact .inr ⟨Y,T⟩
  .rw[ag d]at q;exact R.rb.fr b u q
 .by_cases c:i=j;.subst c;rw[ark m]at q;cases q;exact⟨.ref a,A,hw⟩
  .rw[arh c]at q;obtain⟨v,h,t⟩:=R.va j G q;exact⟨v,h,t.keep s⟩
 .by_cases c:i=j;.subst c;rw[ark m]at q;cases q
  .rw[arh c]at q;obtain⟨b,N,h,t,K,Z,U⟩:=R.ow j g q;have n:b≠a:=λz=>by subst z;exact P j g c q h
   exact⟨b,N,h,by rw[ag n];exact t,K,Z,U.keep s⟩
 .have O:i≠j:=λz=>by subst z;rw[ark m]at l;cases l
  have X:i≠k:=λz=>by subst z;rw[ark m]at f;cases f
  rw[arh O]at l;rw[arh X]at f;exact R.ap j k g p b y l f E D
def Ow1:HO->Prop|.lst _=>True|.dK _=>True|_=>False
theorem RS.frz(R:RS B σ σV F H)(i):∃s,av F s/\RS B (WL.frz i σ) σV s H/\(s=F/\WL.frz i σ=σ\/∃a o w,s=upd F a o/\Ow1 o/\F a=none/\WL.frz i σ=σ.set i (.va w)/\σV[i]?=some (some (.ref a))/\H a=some o/\B.H0 a=none):=by cases e:σ[i]? with
|none=>
 have c:WL.frz i σ=σ:=by unfold WL.frz;rw[e]
 rw[c];exact⟨F,av.refl _,R,.inl ⟨rfl,rfl⟩⟩
|some sl=>cases sl with|no=>
  have c:WL.frz i σ=σ:=by unfold WL.frz;rw[e]
  rw[c];exact⟨F,av.refl _,R,.inl ⟨rfl,rfl⟩⟩|va w=>
  have c:WL.frz i σ=σ:=by unfold WL.frz;rw[e]
  rw[c];exact⟨F,av.refl _,R,.inl ⟨rfl,rfl⟩⟩|ob=>
  have c:WL.frz i σ=σ:=by unfold WL.frz;rw[e]
  rw[c];exact⟨F,av.refl _,R,.inl ⟨rfl,rfl⟩⟩|ow ws=>
  have c:WL.frz i σ=σ.set i (.va (.lst ws)):=by unfold WL.frz;rw[e]
  rw[c];obtain⟨a,u,g,d,m,f,v⟩:=R.ow i ws e;refine⟨upd F a (.lst u),ay d _,R.aqt e g d m f trivial (by simp only[RW];exact⟨a,u,rfl,SqL.of aj,v.keep (ay d _)⟩) (λj y p q z=>R.ap i j ws y a p e q g z) λj r h p q z=>?_,.inr ⟨a,_,_,rfl,trivial,d,rfl,g,f,m⟩⟩;obtain⟨b,l,k,_,_,n,_⟩:=R.dd.od j r h q;rw[z]at k;cases k;rw[f]at n;cases n|od r h=>
  have c:WL.frz i σ=σ.set i (.va (.dic r h)):=by unfold WL.frz;rw[e]
  rw[c];obtain⟨a,l,g,d,m,f,v,A⟩:=R.dd.od i r h e;refine⟨_,ay d _,R.aqt e g d m f trivial (by simp only[RW];exact⟨a,l,rfl,.inl aj,v.keep (ay d _),A.keep (ay d _)⟩) (λj y p q z=>?_) λj t x p q z=>R.dd.ad i j r h t x a p e q g z,.inr ⟨a,_,_,rfl,trivial,d,rfl,g,f,m⟩⟩;obtain⟨b,u,k,_,_,n,_⟩:=R.ow j y q;rw[z]at k;cases k;rw[f]at n;cases n
def RS.aqa(R:RS B σ σV F H){i:Nat}{ks us:List VW}{kvs:List (Key×V)}{a:Addr}(M:F a=none)(J:B.H0 a=none)(y:H a=some (.dK kvs))(x:RWs B.K F ks (kvs.map λp=>kV p.1))(A:RWs B.K F us (kvs.map λp=>p.2))(w:∀(j:Nat)(q o:List VW),j≠i->σ[j]?=some (.od q o)->σV[j]?≠some (some (.ref a))):RS B (σ.set i (.od ks us)) (σV.set i (some (.ref a))) F H:=by
 have D:=R.len;have c:∀{j:Nat}{v:Sl},(σ.set i (.od ks us))[j]?=some v->i=j->v=.od ks us/\(σV.set i (some (V.ref a)))[j]?=some (some (.ref a)):=λ{j v}e z=>by
  subst z;have K:i<σ.length:=by have:=(ari.mp e).1;simpa using this
  rw[ark K]at e;exact⟨(arK e).symm,ark (by omega)⟩
 refine⟨R.rb,by simp[D],λj u e=>?_,λj s e=>?_,λj k s t b l h f n m=>?_,λj q o e=>?_,λj k C us1 E us2 b l h f n m=>?_,λj e=>?_⟩
 .by_cases d:i=j;.cases(c e d).1
  .rw[arh d]at e⊢;exact R.va j u e
 .by_cases d:i=j;.cases(c e d).1
  .rw[arh d]at e⊢;exact R.ow j s e
 .have G:i≠j:=λz=>by cases(c h z).1
  have I:i≠k:=λz=>by cases(c f z).1
  rw[arh G]at h n;rw[arh I]at f m;exact R.ap j k s t b l h f n m
 .by_cases d:i=j;.obtain⟨h,f⟩:=c e d;cases h;exact⟨a,kvs,f,M,J,y,x,A⟩
  .rw[arh d]at e⊢;exact R.dd.od j q o e
 .by_cases d:i=j;.have r:=(c h d).2;rw[n]at r;cases r;have g:i≠k:=λz=>l (d.symm.trans z);rw[arh g]at f m;exact w k _ _ (arz g) f m
  .rw[arh d]at h n;by_cases g:i=k;.have r:=(c f g).2;rw[m]at r;cases r;exact w j _ _ (arz d) h n
   .rw[arh g]at f m;exact R.dd.ad j k _ _ _ _ b l h f n m
 .have d:i≠j:=λz=>by cases(c e z).1
  rw[arh d]at e⊢;exact R.dd.ob j e
def RS.agh(R:RS B σ σV F H){i:Nat}{ks us f us2:List VW}{kvs c:List (Key×V)}{a:Addr}(e:σ[i]?=some (.od ks us))(M:σV[i]?=some (some (.ref a)))(O:F a=none)(N:B.H0 a=none)(Q:H a=some (.dK kvs))(P:RWs B.K F f (c.map λp=>kV p.1))(S:RWs B.K F us2 (c.map λp=>p.2)):RS B (σ.set i (.od f us2)) σV F (upd H a (.dK c)):=by
 have m:i<σ.length:=(ari.mp e).1;have nF:∀b o,F b=some o->b≠a:=λb o q z=>by subst z;rw[O]at q;cases q
 refine⟨⟨λb u q=>by rw[ag (nF b u q)];exact R.rb.sub b u q,λb u q=>by
 have n:b≠a:=λz=>by subst z;rw[N]at q;cases q
 rw[ag n];exact R.rb.base b u q,R.rb.fz0,R.rb.fr⟩,by simp[R.len],λj w q=>?_,λj C q=>?_,λj k C D b g l h v t=>?_,λj I A q=>?_,λj k T us1 U us3 b g l h v t=>?_,λj q=>?_⟩
 .by_cases d:i=j;.subst d;rw[ark m]at q;cases q
  .rw[arh d]at q;exact R.va j w q
 .by_cases d:i=j;.subst d;rw[ark m]at q;cases q
  .rw[arh d]at q;obtain⟨b,J,s,G,E,r,K⟩:=R.ow j C q;have n:b≠a:=λz=>by subst z;rw[Q]at r;cases r
   exact⟨b,J,s,G,E,by rw[ag n];exact r,K⟩
 .have Y:i≠j:=λz=>by subst z;rw[ark m]at l;cases l
  have n2:i≠k:=λz=>by subst z;rw[ark m]at h;cases h
  rw[arh Y]at l;rw[arh n2]at h;exact R.ap j k C D b g l h v t
 .by_cases d:i=j;.subst d;rw[ark m]at q;cases q;exact⟨a,c,M,O,N,aj,P,S⟩
  .rw[arh d]at q;obtain⟨b,J,s,G,E,r,K⟩:=R.dd.od j I A q;have n:b≠a:=λz=>by subst z;exact R.dd.ad i j _ _ _ _ b d e q M s
   exact⟨b,J,s,G,E,by rw[ag n];exact r,K⟩
 .have back:∀{j:Nat}{x y:List VW},(σ.set i (.od f us2))[j]?=some (.od x y)->∃Z y',σ[j]?=some (.od Z y'):=λ{j x y}q=>by
   by_cases d:i=j;.subst d;exact⟨_,_,e⟩
   .rw[arh d]at q;exact⟨_,_,q⟩
  obtain⟨_,_,g1⟩:=back l;obtain⟨_,_,X⟩:=back h;exact R.dd.ad j k _ _ _ _ b g g1 X v t
 .have d:i≠j:=λz=>by subst z;rw[ark m]at q;cases q
  rw[arh d]at q;exact R.dd.ob j q
end
end WS
set_option autoImplicit true
set_option relaxedAutoImplicit true
namespace WS
open PySem PySem.Spec PyProof.Rows L2
open WL(Res Sl Ws EF TF AF LF GF GsF SF Out OX RF Rn AXF)
section
variable{X:Cx}{e:Expr}{es:List Expr}{st:Stmt}{sts:List Stmt}
def PE.imp{t t'}(h:PE X e t)(f:∀a H Q,t' a H Q->t a H Q):PE X e t':=λb s a H Q I q=>h _ s a H Q I (f a H Q q)
def PT.imp{t t'}(h:PT X e t)(f:∀a H Q,t' a H Q->t a H Q):PT X e t':=λb s a H Q I q=>h _ s a H Q I (f a H Q q)
def PW.imp{t t'}(h:PW X e t)(f:∀a H Q,t' a H Q->t a H Q):PW X e t':=λc b s a H Q I q=>h _ _ s a H Q I (f a H Q q)
def PA.imp{t t'}(h:PA X es t)(f:∀a H Q,t' a H Q->t a H Q):PA X es t':=λpos b s a H Q I q=>h _ _ s a H Q I (f a H Q q)
def PS.imp{t t'}(h:PS X st t)(f:∀D a H,t' D a H->t D a H):PS X st t':=λb s a H D I q=>h _ s a H D I (f D a H q)
def PSs.imp{t t'}(h:PSs X sts t)(f:∀D a H,t' D a H->t D a H):PSs X sts t':=λb s a H D I q=>h _ s a H D I (f D a H q)
def PG.imp{t t'}(h:PG X e t)(f:∀v a H Q,t' v a H Q->t v a H Q):PG X e t':=λb s a H v u Q I r q=>h _ s a H v u Q I r (f v a H Q q)
def PGs.imp{t t'}(h:PGs X es t)(f:∀v a H Q,t' v a H Q->t v a H Q):PGs X es t':=λb s a H v u Q I r q=>h _ s a H v u Q I r (f v a H Q q)
def PI.imp{b t t'}(h:PI X b e t)(f:∀a H Q,t' a H Q->t a H Q):PI X b e t':=λc s a H Q I q=>h _ s a H Q I (f a H Q q)
def PO.imp{o t t'}(h:PO X o t)(f:∀a H Q,t' a H Q->t a H Q):PO X o t':=λb s a H Q I q=>h _ s a H Q I (f a H Q q)
end
def Rq(B:Bx)(σ:Ws)(F:Hp){α}(r:Res α)(k:α->Prop):Prop:=match r with|.ok a=>k a|.ex c=>B.xp c σ F|.bad=>False
theorem Rq.mono{B σ F b α r}{k k':α->Prop}(s:av F b)(h:Rq B σ F r k)(f:∀a,k a->k' a):Rq B σ b r k':=by cases r with|ok a=>exact f a h|ex c=>exact B.mono c σ F _ s h|bad=>exact h
theorem Rq.bind{B σ F α b r}{g:α->Res b}{k}(h:Rq B σ F (r.bind g) k):Rq B σ F r λa=>Rq B σ F (g a) k:=by cases r with|ok a|ex c|bad=>exact h
def lo(B:Bx)(t:EF):TE:=λa H Q=>∃b F,RS B b a F H/\Rq B b F (t b) λw=>∀v d c,RS B b a c d->Gr F H c d->RW B.K c w v->Q v d
def loT(B:Bx)(t:TF):TT:=λa H Q=>∃c F,RS B c a F H/\Rq B c F (t c) λb=>∀d e,RS B c a e d->Gr F H e d->Q b d
def loA(B:Bx)(t:AF):TA:=λa H Q=>∃b F,RS B b a F H/\Rq B b F (t b) λws=>∀e d c,RS B b a c d->Gr F H c d->RWs B.K c ws e->Q e d
def loO(B:Bx)(t:Ws->Res (Option Int)):TO:=λa H Q=>∃b F,RS B b a F H/\Rq B b F (t b) λo=>∀c d,RS B b a d c->Gr F H d c->Q o c
def loL(B:Bx)(t:LF):TE:=λb H Q=>∃c F,RS B c b F H/\Rq B c F (t c) λws=>∀a f e d,RS B c b d e->Gr F H d e->d a=none->B.H0 a=none->e a=some (.lst f)->RWs B.K d ws f->(∀(j:Nat)(g:List VW),c[j]?=some (.ow g)->b[j]?≠some (some (.ref a)))->Q (.ref a) e
structure Gm(m:Bool)(F H F' H':Hp):Prop where
 f:av F F'
 nf:∀a o,H a=some o->F a=none->F' a=none
 th:∀a o,H a=some o->∃o',H' a=some o'
 h:m=true->av H H'
theorem Gm.refl{m F H}:Gm m F H F H:=⟨av.refl _,λ_ _ _ z=>z,λ_ o e=>⟨o,e⟩,λ_=>av.refl _⟩
theorem Gm.trans{m F H f d i h}(a:Gm m F H f d)(b:Gm m f d i h):Gm m F H i h:=⟨a.f.trans b.f,λx o e z=>by obtain⟨j,c⟩:=a.th x o e;exact b.nf x _ c (a.nf x o e z),λx o e=>by obtain⟨j,c⟩:=a.th x o e;exact b.th x _ c,λg=>(a.h g).trans (b.h g)⟩
def loG(m:Bool)(B:Bx)(g:GF):TG:=λv d H Q=>∃e F w,RS B e d F H/\RW B.K F w v/\Rq B e F (g w e) λb=>∀a c f,RS B b a f c->Gm m F H f c->Q a c
def anz(m:Bool)(B:Bx)(g:GsF):TGs:=λh d H Q=>∃e F ws,RS B e d F H/\RWs B.K F ws h/\Rq B e F (g ws e) λb=>∀a c f,RS B b a f c->Gm m F H f c->Q a c
def Oq(B:Bx)(D:Ends)(F:Hp)(o:Out):Prop:=match o with|.nx σ'=>∀a d b,RS B σ' a b d->av F b->D.nx a d|.bk σ'=>∀a d b,RS B σ' a b d->av F b->D.bk a d|.ct σ'=>∀a d b,RS B σ' a b d->av F b->D.ct a d|.rt w=>∀v d b,RB B b d->av F b->RW B.K b w v->D.rt v d|.ex c σ'=>B.xp c σ' F|.bad=>False
def loS(B:Bx)(t:SF):TS:=λD a H=>∃b F,RS B b a F H/\Oq B D F (t b)
theorem Oq.mono{B D F a o}(s:av F a)(h:Oq B D F o):Oq B D a o:=by cases o with|nx σ|bk σ|ct σ|rt w=>exact λb H G R z=>h _ H G R (s.trans z)|ex c σ=>exact B.mono c σ F _ s h|bad=>exact h
theorem Oq.ofR    (h:Oq B D F (WL.ofR σ r f)):Rq B σ F r λa=>Oq B D F (f a):=by cases r with|ok a|ex c|bad=>exact h
def Eq1(F H:Hp)(K:W.Frag)(r:Res VW)(Q:VK):Prop:=match r with|.ok w=>∀v a b,Ext F H a b->RW K a w v->Q v b|_=>False
def lo2(K:W.Frag)(r:VW->VW->Res VW):R2:=λx y H Q=>∃F wx a,av F H/\RW K F wx x/\RW K F a y/\Eq1 F H K (r wx a) Q
def lo1(K:W.Frag)(r:VW->Res VW):V->Hp->VK->Prop:=λx H Q=>∃F wx,av F H/\RW K F wx x/\Eq1 F H K (r wx) Q
def loN(K:W.Frag)(r:List VW->Res VW):List V->Hp->VK->Prop:=λa H Q=>∃F ws,av F H/\RWs K F ws a/\Eq1 F H K (r ws) Q
def Calm(r:VW->VW->Res VW):Prop:=∀x y c,r x y≠.ex c
def OpR.imp{X f r a}(h:OpR X f r)(g:∀x y H Q,a x y H Q->r x y H Q):OpR X f a:=λb s e H x y v u Q I d c q=>h _ s e H x y v u Q I d c (g x y H Q q)
def UnR.imp{X f r a}(h:UnR X f r)(g:∀x H Q,a x H Q->r x H Q):UnR X f a:=λb s d H x v Q I c q=>h _ s d H x v Q I c (g x H Q q)
def ba.imp{X f r b}(h:ba X f r)(g:∀a H Q,b a H Q->r a H Q):ba X f b:=λc s e H a i Q I d q=>h _ s e H _ _ Q I d (g _ H Q q)
def IxR.imp{X r c}(h:IxR X r)(g:∀x y H Q,c x y H Q->r x y H Q):IxR X c:=λb a d s j H x y v u Q I i e q f=>h _ _ _ s j H x y v u Q I i e (g x y H Q q) f
def SlR.imp{X r d}(h:SlR X r)(g:∀x a b H Q,d x a b H Q->r x a b H Q):SlR X d:=λe s i H x v k m lo l j Q I f a b c q=>h _ s i H x v _ _ _ _ _ Q I f a b c (g x _ _ H Q q)
section
variable{X:Cx}{B:Bx}{e a b c:Expr}{es:List Expr}{pos:Pos}{ta tb tc:EF}{K:W.Frag}
set_option tactic.hygienic true in
def akf{i}(h:PE X e (eF i)):PE X e (lo B (WL.aq i)):=PE.imp h λg H Q d=>by
 refine dU d λj F R q=>?_;simp [WL.aq]at q;split at q;.rename_i w e;obtain⟨v,f,r⟩:=R.va i w e;exact⟨v,f,q v H F R Gr.refl r⟩
 .exact q.elim
def ahB (h:PE X e (tC v))(r:∀F,RW B.K F w v):PE X e (lo B (WL.eC w)):=PE.imp h λf H Q d=>by obtain⟨g,F,R,q⟩:=d;exact q v H F R Gr.refl (r F)
def ai{i j pos}:PE X (.Constant (.int i) j pos) (lo B (WL.eC (.int i))):=ahB acj λ_=>rfl
def vp{i j pos}:PE X (.Constant (.bool i) j pos) (lo B (WL.eC (.bl i))):=ahB aoK λ_=>rfl
def dj{j pos}:PE X (.Constant .none j pos) (lo B (WL.eC .non)):=ahB agD λ_=>rfl
def ar{x j pos}:PE X (.Constant (.str x) j pos) (lo B (WL.eC (.str x))):=ahB iM λ_=>rfl
def afo (cm:Calm r)(f:∀x y H Q,lo2 B.K r x y H Q->rV x y H Q):∀d H Q,lo B (WL.eOp r ta tb) d H Q->tOp rV (lo B ta) (lo B tb) d H Q:=by intro d H Q⟨h,F,R,q⟩;have q:=Rq.bind q;refine eh h F R (Rq.mono (av.refl _) q λx p C t k o j l=>eh h k o (Rq.mono j.f (Rq.bind p) λy g u A m R2 i s=>f _ _ _ _ (vc m x y R2.rb.sub (l.keep i.f) s ?_)));cases e:r x y with|ok w=>rw[e]at g;exact λv D z E n=>g v _ _ (E.rs B h _ R2) ((j.trans i).trans E.gr) n|ex c=>exact(cm x y c e).elim|bad=>rw[e]at g;exact g
def aB (cm:Calm r)(h:OpR X (binaryOp op) (lo2 B.K r))(f:PE X a (lo B ta))(d:PE X b (lo B tb)):PE X (.BinOp a op b pos) (lo B (WL.eOp r ta tb)):=PE.imp (alo h f d) (afo cm λ_ _ _ _ q=>q)
def cR (cm:Calm r)(h:OpR X (compareOp op) (lo2 B.K r))(g:PE X a (lo B ta))(f:PE X b (lo B tb))(d:behindInMarks op b=false):PE X (.Compare a [op] [b] pos) (lo B (WL.eOp r ta tb)):=PE.imp (aio h g f d) (afo cm λ_ _ _ _ q=>q)
def akg (cm:Calm r)(h:IxR X (lo2 B.K r))(g:PE X a (lo B ta))(f:PE X b (lo B tb))(d:kT b):PE X (.Subscript a b pos) (lo B (WL.eOp r ta tb)):=PE.imp (ail h g f d) (afo cm λ_ _ _ _ q=>q)
def jv (cm:∀x c,r x≠.ex c)(h:UnR X (unaryOp op) (lo1 B.K r))(k:PE X a (lo B ta)):PE X (.UnaryOp op a pos) (lo B (WL.eUn r ta)):=PE.imp (aoI h k) λm H Q f=>by refine dU f λi F R q=>?_;have q:=Rq.bind q;refine⟨i,F,R,Rq.mono (av.refl _) q λx d t p j g o l=>⟨j,x,g.rb.sub,l,?_⟩⟩;cases e:r x with|ok w=>rw[e]at d;exact λv u s E n=>d v _ _ (E.rs B i _ g) (o.trans E.gr) n|ex c=>exact(cm x c e).elim|bad=>rw[e]at d;exact d
def wm:∀d H Q,loT B (WL.tB t) d H Q->ahS (lo B t) d H Q:=by
 intro d H Q⟨j,F,R,q⟩;have q:=Rq.bind q;refine eh j F R (Rq.mono (av.refl _) q λx f m k l i g h=>?_);cases x<;>first|exact f.elim|skip
 exact⟨_,h,f _ _ i g⟩
def bE (cm:Calm r)(h:OpR X (compareOp op) (lo2 B.K r))(i:PE X a (lo B ta))(d:PE X b (lo B tb))(f:behindInMarks op b=false):PT X (.Compare a [op] [b] pos) (loT B (WL.tB (WL.eOp r ta tb))):=PT.imp (aif h i d f) λg H Q q=>afo cm (λ_ _ _ _ q=>q) _ H _ (wm _ H Q q)
def fF (h:PE X e (lo B t))(f:∀d,isTrue e X.env d=(do let v <-d;standAt e.pos;holding [v] (truthy v)):=by intro _;rfl):PT X e (loT B (WL.tB t)):=PT.imp (alf h f) wm
def yv (cm:Calm r)(p:Calm r'):∀d H Q,lo B (WL.lJ r r' ta tb tc) d H Q->abo (lo2 B.K r) (lo2 B.K r') (lo B ta) (lo B tb) (lo B tc) d H Q:=by intro d H Q⟨f,F,R,q⟩;have q:=Rq.bind q;refine eh f F R (Rq.mono (av.refl _) q λx o v1 Y O J m S=>?_);have o:=Rq.bind o;refine eh f O J (Rq.mono m.f o λy i v2 H2 I R2 l t=>?_);refine vc I x y R2.rb.sub (S.keep l.f) t ?_;unfold Eq1;cases e:r x y with|ex c=>exact(cm x y c e).elim|bad=>rw[e]at i;exact i|ok z=>rw[e]at i;intro Z C P g T;have h:=i;cases z with
 |bl k=>refine⟨k,T,?_⟩;cases k with|false=>exact h (.bl false) P C (g.rs B f d R2) ((m.trans l).trans g.gr) (by simp[RW])|true=>have h:=Rq.bind (show Rq B f F ((tc f).bind λw=>r' y w) _ from h);refine eh f C (g.rs B f d R2) (Rq.mono ((m.trans l).trans g.gr).f h λw j v4 H4 U s A M=>?_);refine vc U y w s.rb.sub ((t.keep g.same).keep A.f) M ?_;unfold Eq1;cases n:r' y w with|ex c=>exact(p y w c n).elim|bad=>rw[n]at j;exact j|ok u=>rw[n]at j;exact λv N G D E=>j v G N (D.rs B f d s) ((((m.trans l).trans g.gr).trans A).trans D.gr) E
 |_=>exact h.elim
def xm (cm:Calm r)(f:Calm r')(i:OpR X (compareOp op) (lo2 B.K r))(d:OpR X (compareOp op') (lo2 B.K r'))(k:PE X a (lo B ta))(h:PE X b (lo B tb))(g:PE X c (lo B tc))(j:lastMarks [op,op'] [b,c]=false:=by with_unfolding_all rfl):PE X (.Compare a [op,op'] [b,c] pos) (lo B (WL.lJ r r' ta tb tc)):=PE.imp (ae9 i d k h g j) (yv cm f)
def aeq (cm:Calm r)(f:Calm r')(i:OpR X (compareOp op) (lo2 B.K r))(d:OpR X (compareOp op') (lo2 B.K r'))(l:PE X a (lo B ta))(h:PE X b (lo B tb))(g:PE X c (lo B tc))(j:lastMarks [op,op'] [b,c]=false:=by with_unfolding_all rfl):PT X (.Compare a [op,op'] [b,c] pos) (loT B (WL.tB (WL.lJ r r' ta tb tc))):=PT.imp (aeZ i d l h g j) λk H Q q=>yv cm f _ H _ (wm _ H Q q)
variable{uA uB:TF}{rest:List Expr}
def mn(d:PT X a (loT B uA)):PW X (.BoolOp .And [a] pos) (loT B uA):=aie d
def mm(d:PT X a (loT B uA)):PW X (.BoolOp .Or [a] pos) (loT B uA):=alc d
def o9(k:PT X a (loT B uA))(o:PW X (.BoolOp .And (b::rest) pos) (loT B uB)):PW X (.BoolOp .And (a::b::rest) pos) (loT B (WL.abr uA uB)):=PW.imp (ald k o) λl H Q d=>by refine dU d λi F R q=>?_;have q:=Rq.bind q;refine⟨i,F,R,Rq.mono (av.refl _) q λx h p j g f=>?_⟩;cases x with|true=>exact⟨i,j,g,Rq.mono f.f h λb m r s R2 n=>m _ _ R2 (f.trans n)⟩|false=>exact h _ _ g f
def vk(k:PT X a (loT B uA))(o:PW X (.BoolOp .Or (b::rest) pos) (loT B uB)):PW X (.BoolOp .Or (a::b::rest) pos) (loT B (WL.tOr uA uB)):=PW.imp (aoH k o) λl H Q d=>by refine dU d λi F R q=>?_;have q:=Rq.bind q;refine⟨i,F,R,Rq.mono (av.refl _) q λx h p j g f=>?_⟩;cases x with|false=>exact⟨i,j,g,Rq.mono f.f h λb m r s R2 n=>m _ _ R2 (f.trans n)⟩|true=>exact h _ _ g f
def iH(g:PT X a (loT B uA)):PT X (.UnaryOp .Not a pos) (loT B (WL.vv uA)):=PT.imp (alg g) λh H Q d=>by obtain⟨i,F,R,q⟩:=d;have q:=Rq.bind q;exact⟨i,F,R,Rq.mono (av.refl _) q λx f=>f⟩
def my{op}(h:PE X a (lo B ta)):PE X (.BoolOp op [a] pos) (lo B ta):=alp h
def kX(l:PE X a (lo B ta))(r:PE X (.BoolOp .And (b::rest) pos) (lo B tb)):PE X (.BoolOp .And (a::b::rest) pos) (lo B (WL.aaP ta tb)):=PE.imp (alr l r) λn H Q d=>by refine dU d λi F R q=>?_;have q:=Rq.bind q;refine eh i F R (Rq.mono (av.refl _) q λx g v t j h f m=>?_);cases x with
|bl k=>refine⟨k,m,?_⟩;cases k with|true=>exact eh i j h (Rq.mono f.f g λb o u w y R2 p s=>o _ _ _ R2 (f.trans p) s)|false=>exact g _ _ _ h f (rfl)
|_=>exact g.elim
def agj(g:PE X a (lo B ta)):PE X (.UnaryOp .Not a pos) (lo B (WL.amM ta)):=PE.imp (alq g) λi H Q d=>by refine dU d λm F R q=>?_;have q:=Rq.bind q;refine⟨m,F,R,Rq.mono (av.refl _) q λx f v n o j l h=>?_⟩;cases x with|bl k=>exact⟨k,h,f _ _ _ j l (rfl)⟩|_=>exact f.elim
def akh(h:PT X c (loT B uA))(j:PE X a (lo B ta))(o:PE X b (lo B tb)):PE X (.IfExp c a b pos) (lo B (WL.eIf uA ta tb)):=PE.imp (ae7 h j o) λk H Q d=>by refine dU d λg F R q=>?_;have q:=Rq.bind q;refine eh g F R (Rq.mono (av.refl _) q λx p s i m f=>?_);cases x with|true|false=>exact⟨g,i,m,Rq.mono f.f p λb l t u v R2 n r=>l _ _ _ R2 (f.trans n) r⟩
variable{tas:AF}
def ah:PA X [] (loA B WL.au):=PA.imp cz λf H Q d=>by obtain⟨g,F,R,q⟩:=d;exact q _ H F R Gr.refl (rfl)
def aiU:∀d H Q,loA B (WL.ae ta tas) d H Q->gR (lo B ta) (loA B tas) d H Q:=λd H Q g=>by refine dU g λk F R q=>?_;have q:=Rq.bind q;refine eh k F R (Rq.mono (av.refl _) q λx h v p l n j m=>?_);have h:=Rq.bind h;exact eh k l n (Rq.mono j.f h λu f r s t R2 i o=>f _ _ _ R2 (j.trans i) (.cons (m.keep i.f) o))
def aa(g:PE X e (lo B ta))(d:PA X es (loA B tas))(f:SE X e es:=by rfl):PA X (e::es) (loA B (WL.ae ta tas)):=PA.imp (aN g d f) aiU
def eQ:WL.lim<=sizeLine:=by decide
def aF{l}(h:PA X es (loA B tas)):PE X (.Tuple es l pos) (lo B (WL.cQ tas)):=PE.imp (agC h) λn H Q g=>by
 refine dU g λs F R q=>?_;have q:=Rq.bind q;refine⟨s,F,R,Rq.mono (av.refl _) q λr f m t u i o k=>?_⟩;by_cases j:r.length<=WL.lim;.rw[arj j]at f;exact⟨by rw[<-k.length];exact arq j eQ,λp d=>f _ _ _ (i.new d _) (o.trans (Gr.new (i.rb.sub.free d) d _)) (by exact iG p m rfl (SqT.of aj) (k.keep (ay (i.rb.sub.free d) _)))⟩
 .rw[arl j]at f;exact f.elim
def al5:∀d H Q,lo B (WL.oC tas) d H Q->aoh (loA B tas) d H Q:=λd H Q h=>by
 refine dU h λo F R q=>?_;have q:=Rq.bind q;refine⟨o,F,R,Rq.mono (av.refl _) q λn g l r s i m k=>?_⟩;by_cases j:n.length<=WL.lim;.rw[arj j]at g;exact⟨by rw[<-k.length];exact arq j eQ,λp f=>g _ _ _ (i.new f _) (m.trans (Gr.new (i.rb.sub.free f) f _)) (by exact iG p l rfl (SqL.of aj) (k.keep (ay (i.rb.sub.free f) _)))⟩
 .rw[arl j]at g;exact g.elim
def fb(h:PA X es (loA B tas)):PE X (.List es pos) (lo B (WL.oC tas)):=PE.imp (aci h) al5
def ajP{σ d F l g xs vs p}{Q:VK}(i:RS B σ d l g){H}(s:Gr F H l g)(r:RWs B.K l xs vs)(f:g p=none)(q:∀a vs h k,RS B σ d k h->Gr F H k h->k a=none->B.H0 a=none->h a=some (.lst vs)->RWs B.K k xs vs->(∀(j:Nat)(m:List VW),σ[j]?=some (.ow m)->d[j]?≠some (some (.ref a)))->Q (.ref a) h):Q (.ref p) (upd g p (.lst vs)):=q p _ _ _ (i.ajO f _) (s.trans ⟨av.refl _,ay f _,λ_ _ _ z=>z⟩) (i.rb.sub.free f) (i.rb.base.free f) aj r λj m e z=>by refine oz (i.ow j _ e) λa v o w u n t=>?_;rw[z]at o;cases o;rw[f]at n;cases n
def mw(h:PA X es (loA B tas)):PE X (.List es pos) (loL B (WL.aft tas)):=PE.imp (aci h) λk H Q f=>by
 refine dU f λo F R q=>?_;have q:=Rq.bind q;refine⟨o,F,R,Rq.mono (av.refl _) q λn d t r s l m i=>?_⟩;by_cases g:n.length<=WL.lim;.rw[arj g]at d;exact⟨by rw[<-i.length];exact arq g eQ,λp j=>ajP l m i j d⟩
 .rw[arl g]at d;exact d.elim
def api (cm:∀g c,r g≠.ex c):∀d H Q,lo B (WL.eBi r tas) d H Q->tCB (loN B.K r) (loA B tas) d H Q:=by intro d H Q⟨i,F,R,q⟩;have q:=Rq.bind q;refine eh i F R (Rq.mono (av.refl _) q λg f o n j h m k=>⟨j,g,h.rb.sub,k,?_⟩);cases e:r _ with|ok w=>rw[e]at f;exact λv s p E l=>f v _ _ (E.rs B i _ h) (m.trans E.gr) l|ex c=>exact(cm _ c e).elim|bad=>rw[e]at f;exact f
def akl (cm:∀d c,r d≠.ex c)(h:PE X e (tCB (loN B.K r) (loA B tas))):PE X e (lo B (WL.eBi r tas)):=PE.imp h (api cm)
def vm:PO X none (loO B WL.pNo):=PO.imp ab8 λf H Q d=>by obtain⟨g,F,R,q⟩:=d;exact q H F R Gr.refl
def mv(h:PE X e (lo B ta)):PO X (some e) (loO B (WL.nz ta)):=PO.imp (ab7 h) λj H Q d=>by refine dU d λm F R q=>?_;have q:=Rq.bind q;refine⟨m,F,R,Rq.mono (av.refl _) q λx f v n o k l g=>?_⟩;cases x with|int i=>exact⟨i,g,f _ _ k l⟩|_=>exact f.elim
def aqp(K:W.Frag):V->Option Int->Option Int->Hp->VK->Prop:=λx l h H Q=>∃F wx,av F H/\RW K F wx x/\Eq1 F H K (WL.oSl wx l h) Q
variable{l u:Option Expr}{tl tu:Ws->Res (Option Int)}{p2:Pos}
def ahz(M:SlR X (aqp B.K))(r:PE X e (lo B ta))(z:PO X l (loO B tl))(p:PO X u (loO B tu)):PE X (.Subscript e (.Slice l u none p2) pos) (lo B (WL.eSl ta tl tu)):=PE.imp (qI M r z p) λk H Q h=>by refine dU h λg F R q=>?_;have q:=Rq.bind q;refine eh g F R (Rq.mono (av.refl _) q λx y v O C t j D=>eh g C t (Rq.mono j.f (Rq.bind y) λlo m S s R2 i=>?_));refine eh g s R2 (Rq.mono (j.trans i).f (Rq.bind m) λN d P I o n=>?_);refine⟨I,x,o.rb.sub,(D.keep i.f).keep n.f,?_⟩;cases f:WL.oSl x lo N with|ok w=>rw[f]at d;exact λv G J E A=>d v J G (E.rs B g k o) (((j.trans i).trans n).trans E.gr) A|ex c=>cases x<;>simp[WL.oSl]at f;split at f<;>cases f|bad=>rw[f]at d;exact d
def lend  (R:RS B σ σV F H)(x:Hp)(M:av F x)(Y:x=F/\WL.frz i σ=σ\/∃a o w,x=upd F a o/\Ow1 o/\F a=none/\WL.frz i σ=σ.set i (.va w)/\σV[i]?=some (some (.ref a))/\H a=some o/\B.H0 a=none)(R2:RS B (WL.frz i σ) σV F2 H2)(f:Gr x H F2 H2):∃E,RS B σ σV E H2/\Gr F H E H2/\∀w v,WL.plain w=true->RW B.K F2 w v->RW B.K E w v:=by
 rcases Y with⟨rfl,A⟩|⟨a,ow,wa,rfl,k,C,A,y,hH,h0⟩;.rw[A]at R2;exact⟨F2,R2,f,λ_ _ _ h=>h⟩
 .rw[A]at R2;have n:=f.f _ _ aj;have r:av F λb=>if b=a then none else F2 b:=λb o q=>by
   have m:b≠a:=λz=>by subst z;rw[C]at q;cases q
   show(if b=a then none else F2 b)=some o;rw[arl m];exact f.f b o (M b o q)
  have p:∀b o,(if b=a then none else F2 b)=some o->b≠a/\F2 b=some o:=λb o q=>by
   by_cases d:b=a;.rw[arj d]at q;cases q
   .rw[arl d]at q;exact⟨d,q⟩
  refine⟨λb=>if b=a then none else F2 b,⟨⟨λb o q=>R2.rb.sub b o (p b o q).2,R2.rb.base,R.rb.fz0.trans r,λb o q=>R2.rb.fr b o (p b o q).2⟩,R.len,λj w q=>?_,λj t q=>?_,R.ap,?_⟩,⟨r,f.h,λb o q z=>?_⟩,λw v Z h=>?_⟩;.obtain⟨v,g,I⟩:=R.va j w q;exact⟨v,g,I.keep r⟩
  .obtain⟨b,zs,g,I,Q,g4,U⟩:=R.ow j t q;refine⟨b,zs,g,?_,Q,f.h b _ g4,U.keep r⟩;by_cases d:b=a;.exact arj d
   .show(if b=a then none else F2 b)=none;rw[arl d];have G:i≠j:=λz=>by subst z;rw[y]at g;cases g;exact d rfl
    obtain⟨T,S,s,D,_⟩:=R2.ow j t (by rw[arh G];exact q);rw[g]at s;cases s;exact D
  .refine R.dd.via rfl id (λ_ _ z=>.inl z) (λ_ _ _ e=>⟨e,rfl⟩) r λj P t b O N J q1 q2 q3=>⟨?_,q3,f.h b _ q1⟩;by_cases d:b=a;.exact arj d
   .show(if b=a then none else F2 b)=none;rw[arl d];have G:i≠j:=λz=>by subst z;rw[show σV[i]?=_ from J]at y;cases y;exact d rfl
    obtain⟨T,S,s,D,_⟩:=R2.dd.od j P t (by rw[arh G];exact N);rw[show σV[j]?=_ from J]at s;cases s;exact D
  .show(if b=a then none else F2 b)=none;by_cases d:b=a;.exact arj d
   .rw[arl d];exact f.nf b o q (by rw[ag d];exact z)
  .refine RW.less (λc xs q=>?_) w v Z h;rcases q with(q|⟨o,q⟩)|q
   .refine .inl (.inl ?_);have m:c≠a:=λz=>by subst z;rw[n]at q;cases q;exact k
    show(if c=a then none else F2 c)=_;rw[arl m];exact q
   .refine .inl (.inr ⟨o,?_⟩);have m:c≠a:=λz=>by subst z;rw[n]at q;cases q;exact k
    show(if c=a then none else F2 c)=_;rw[arl m];exact q
   .exact .inr q
def akk (h:PE X e (lo B ta)):PE X e (lo B (WL.anI i ta)):=PE.imp h λo H Q g=>by
 refine dU g λj F R q=>?_;refine ju (R.frz i) λm t p x=>?_;refine eh _ m p ?_;have q:Rq B j F (match ta _ with|.ok w=>if WL.plain w then .ok w else .bad|_=>.bad) _:=q
 cases f:ta _ with|ok w=>
 rw[f]at q;intro v z A R2 r y;refine ju (lend R _ t x R2 r) λC s n k=>?_;have q:Rq B j F (if WL.plain w=true then .ok w else .bad) _:=q;by_cases d:WL.plain w=true;.rw[arj d]at q;exact q v _ _ s n (k w v d y)
 .rw[arl d]at q;exact q.elim|ex c=>rw[f]at q;exact q.elim|bad=>rw[f]at q;exact q
def aj9 (h:PT X e (loT B uA)):PT X e (loT B (WL.ane i uA)):=PT.imp h λm H Q f=>by refine dU f λt F R q=>?_;refine ju (R.frz i) λg r o s=>?_;refine eh _ g o ?_;have q:Rq B t F (match uA _ with|.ok b=>.ok b|_=>.bad) _:=q;cases d:uA _ with|ok w=>rw[d]at q;intro v x R2 n;refine ju (lend R _ r s R2 n) λy p j k=>?_;exact q _ _ p j|ex c=>rw[d]at q;exact q.elim|bad=>rw[d]at q;exact q
end
mutual def toD:VW->PyData|.non=>.none|.bl b=>.bool b|.int i=>.int i|.str x=>.str x|.ty _=>.none|.tup xs=>.tuple (oA xs)|.lst xs=>.list (oA xs)|.dic _ _=>.none|.cls _=>.none|.exc _ _=>.none|.ins _ _=>.none|.id _=>.none def oA:List VW->List PyData|[]=>[]|x::xs=>toD x::oA xs end
mutual theorem RW.isD{K:W.Frag}{H:Hp}:∀(n:Nat)(w:VW)(v:V),WL.okD n w=true->RW K H w v->IsD K H n v (toD w)
|n,.non,v,_,h=>by cases n<;>exact h|n,.bl b,v,_,h=>by cases n<;>exact h|n,.int i,v,_,h=>by cases n<;>exact h|n,.str x,v,o,h=>by cases n<;>exact⟨h,o⟩|n,.tup xs,v,o,h=>by obtain⟨a,vs,e,q,r⟩:=h;cases n with|zero=>cases xs<;>cases o|succ n=>exact⟨a,vs,e,q,RWs.isD n xs _ o r⟩
|n,.lst xs,v,o,h=>by obtain⟨a,vs,e,q,r⟩:=h;cases n with|zero=>cases xs<;>cases o|succ n=>exact⟨a,vs,e,q,RWs.isD n xs vs o r⟩theorem RWs.isD{K:W.Frag}{H:Hp}:∀(n:Nat)(ws:List VW)(vs:List V),WL.lV (n+1) ws=true->RWs K H ws vs->Paired (IsD K H n) vs (oA ws)|n,[],vs,_,h=>by simp only[RWs]at h;subst h;exact .nil|n,w::ws,vs,o,h=>by simp only[RWs]at h;obtain⟨v,r,rfl,q,t⟩:=h;have o:=asr.mp o;exact .cons (RW.isD n w v o.1 q) (RWs.isD n ws r o.2 t)end
mutual theorem kJ:∀(n m:Nat)(x y:VW),WL.okD n x=true->WL.okD m y=true->PyData.eqv (toD x) (toD y)=WL.eqv x y
|n,m,.tup xs,y,h1,h2=>by cases y with|tup ys=>exact rB n m xs ys h1 h2|_=>first|rfl|cases h2
|n,m,.lst xs,y,h1,h2=>by cases y with|lst ys=>exact rB n m xs ys h1 h2|_=>first|rfl|cases h2
|n,m,.ty _,_,h1,_=>by cases h1|n,m,.non,y,_,h2=>by cases y<;>first|rfl|cases h2
|n,m,.bl b,y,_,h2=>by cases y<;>rfl|n,m,.int b,y,_,h2=>by cases y<;>first|rfl|cases h2
|n,m,.str b,y,_,h2=>by cases y<;>first|rfl|cases h2 theorem rB:∀(n m:Nat)(xs ys:List VW),WL.lV n xs=true->WL.lV m ys=true->PyData.eqvAll (oA xs) (oA ys)=WL.aaO xs ys|n,m,[],ys,_,_=>by cases ys<;>rfl|n,m,x::xs,ys,h1,h2=>by cases ys with|nil=>rfl|cons y ys=>cases n with|zero=>cases h1|succ n=>cases m with|zero=>cases h2|succ m=>have h1:=asr.mp h1;have h2:=asr.mp h2;show(PyData.eqv _ _&&PyData.eqvAll _ _)=(_&&_);rw[kJ n m x y h1.1 h2.1,rB (n+1) (m+1) xs ys h1.2 h2.2]end
theorem xb{n m}{x:VW}(a:WL.okD n x=true):∀{ys:List VW},WL.lV m ys=true->((oA ys).any λz=>PyData.eqv z (toD x))=WL.f9 x ys|[],_=>rfl|y::ys,h=>by cases m with|zero=>cases h|succ m=>have h:=asr.mp h;simp [oA,WL.f9];rw[kJ m n y x h.1 a,xb a h.2]
section
variable{X:Cx}{K:W.Frag}
def eq1{F H w Q v}(q:Eq1 F H K (.ok w) Q)(r:RW K F w v):Q v H:=q v F H (Ext.refl F H) r
def afP{F H}{ws:List VW}{vs Q}(s:av F H)(q:Eq1 F H K (.ok (.lst ws)) Q)(r:RWs K F ws vs){p}(a:H p=none):Q (.ref p) (upd H p (.lst vs)):=q _ _ _ (Ext.new (s.free a) a _) (by exact⟨p,vs,rfl,SqL.of aj,r.keep (ay (s.free a) _)⟩)
def anF{F H}{ws:List VW}{vs Q}(s:av F H)(q:Eq1 F H K (.ok (.tup ws)) Q)(r:RWs K F ws vs){p}(a:H p=none):Q (.ref p) (upd H p (.tup vs)):=q _ _ _ (Ext.new (s.free a) a _) (by exact⟨p,vs,rfl,SqT.of aj,r.keep (ay (s.free a) _)⟩)
def acr:OpR X (binaryOp .Add) λx y H Q=>∃l b f g,x=.ref l/\y=.ref b/\SqL X.K H l f/\SqL X.K H b g/\f.length+g.length<=sizeLine/\∀p,H p=none->Q (.ref p) (upd H p (.lst (f++g))):=by
 intro C s σ H x y v u Q I S P h;refine anQ h λl b f g i w J G U q=>?_;subst i w;cases S;cases P;refine ju (I.list J) λc r E _=>?_;refine ju (I.list G) λa A m _=>?_;obtain⟨⟨cls,O,z,N⟩,D,M,n,T⟩:=E.isList;obtain⟨⟨B,j,data2,o⟩,d,t,R,k⟩:=m.isList;subst M T t k;have e:c.toArray++a.toArray=(c++a).toArray:=by simp
 have Y:=r.length;have Z:=A.length;refine auF ⟨_,D,rfl⟩ ⟨_,d,rfl⟩ noFill_list_add seq_list_add PySem.F.slot_list_add PySem.F.entry_list_add (PySem.F.args_list_add_2 _ _) (list_addW l b c.toArray a.toArray n R O j N o (by grind)) ⟨D,d,?_⟩;rw[e];exact iG (.ref _) _ (I.apk (r.append A) (by grind)) rfl (q _ I.fresh)
def afc:OpR X (binaryOp .Add) λx y H Q=>∃a b o,x=.ref a/\y=.ref b/\SqT X.K H a []/\SqT X.K H b o/\Q (.ref b) H:=by intro m s R H x y v u Q I M G h;refine am8 h λa b o d i O z q=>?_;subst d i;cases M;cases G;refine ju (I.tuple O) λt r A _=>?_;refine ju (I.tuple z) λj P D _=>?_;cases r;obtain⟨⟨cls,E,k,C⟩,p,B,n,N⟩:=id A;obtain⟨⟨l,w,data2,f⟩,c,g,J,e⟩:=id D;subst B N g e;exact auF ⟨_,p,rfl⟩ ⟨_,c,rfl⟩ auG seq_tuple_add atJ atD (atu _ _) (tuple_addW0 a b _ _ n J E _ C f (rfl)) ⟨p,c,⟨.ref b,H,I,rfl,q⟩⟩
set_option tactic.hygienic true in
def w_add(z:X.K=K):OpR X (binaryOp .Add) (lo2 K WL.iN):=by
 subst z;refine OpR.imp (alB.or (acr.or (ait.or afc))) λx y H Q u=>?_;obtain⟨F,wx,A,s,h,f,q⟩:=u;unfold WL.iN at q;split at q;.simp only[RW]at h f;exact .inl ⟨_,_,h,f,q _ F H (Ext.refl F H) (by simp[RW])⟩
 rotate_left
 .rename_i l j;simp only[RW]at h f;obtain⟨a,e,rfl,m,g⟩:=h;obtain⟨b,d,rfl,k,i⟩:=f;by_cases c:l.length+j.length<=WL.lim
  .rw[arj c]at q;have n:=g.length;have o:=i.length;have r:e.length+d.length<=sizeLine:=by rw[<-n,<-o];exact arq c eQ
   by_cases w:e=[];.subst w;have:l=[]:=List.length_eq_zero_iff.mp n;subst this;refine .inr (.inr (.inr ⟨a,b,d,rfl,rfl,s.tup m,s.tup k,?_⟩));exact eq1 q (by simp only[RW,aso];exact⟨b,d,rfl,k,i⟩)
   .refine .inr (.inr (.inl ⟨a,b,e,d,rfl,rfl,s.tup m,s.tup k,w,r,λv=>?_,λv p t=>?_⟩));.subst v;have:j=[]:=List.length_eq_zero_iff.mp o;subst this;exact eq1 q (by simp only[RW,ar2];exact⟨a,e,rfl,m,g⟩)
    .exact anF s q (g.app i) t
  .rw[arl c]at q;exact q.elim
 .exact q.elim
 .rename_i l j;simp only[RW]at h f;obtain⟨a,e,rfl,m,g⟩:=h;obtain⟨b,d,rfl,k,i⟩:=f;by_cases c:l.length+j.length<=WL.lim;.rw[arj c]at q;have q:Eq1 F H X.K (.ok (.lst (l++j))) Q:=q;have n:=g.length;have o:=i.length;exact .inr (.inl ⟨a,b,e,d,rfl,rfl,s.seq m,s.seq k,by rw[<-n,<-o];exact arq c eQ,λp t=>afP s q (g.app i) t⟩)
  .rw[arl c]at q;exact q.elim
def aP:Calm WL.iN:=λx y c h=>by unfold WL.iN at h;split at h<;>first|(cases h)|(split at h<;>cases h)
def ahH{f C g r}(h:OpR X f (rI C g))(k:∀x y w,r x y=.ok w->∃i j,x=.int i/\y=.int j/\C i j/\∀F,RW K F w (g i j))(cm:Calm r):OpR X f (lo2 K r):=by refine OpR.imp h λx y H Q b=>?_;refine aeh b λF wx p s n m q=>?_;cases e:r _ _ with|bad=>rw[e]at q;exact q.elim|ex c=>exact(cm _ _ _ e).elim|ok w=>refine kU (k _ _ w e) λi j a d l o=>?_;subst a d;rw[e]at q;exact ahb i j n m l (eq1 q (o F))
def xq{f g r}(h:OpR X f (rI0 g))(k:∀x y w,r x y=.ok w->∃i j,x=.int i/\y=.int j/\∀F,RW K F w (g i j))(cm:Calm r):OpR X f (lo2 K r):=by refine OpR.imp h λx y H Q b=>?_;refine aeh b λF wx o s m l q=>?_;cases e:r _ _ with|bad=>rw[e]at q;exact q.elim|ex c=>exact(cm _ _ _ e).elim|ok w=>refine l5 (k _ _ w e) λi j a d n=>?_;subst a d;rw[e]at q;exact⟨i,j,m,l,eq1 q (n F)⟩
def fo:Calm WL.zN:=λx y c h=>by unfold WL.zN at h;split at h<;>cases h
def bw:Calm WL.me:=λx y c h=>by unfold WL.me at h;split at h<;>first|(cases h)|(split at h<;>cases h)
def bH:Calm WL.oDiv:=λx y c h=>by unfold WL.oDiv at h;split at h<;>first|(cases h)|(split at h<;>cases h)
def aE:Calm WL.oMod:=λx y c h=>by unfold WL.oMod at h;split at h<;>first|(cases h)|(split at h<;>cases h)
def kN:Calm WL.oLt:=λx y c h=>by unfold WL.oLt at h;split at h<;>cases h
def jl:Calm WL.oLe:=λx y c h=>by unfold WL.oLe at h;split at h<;>cases h
def kP:Calm WL.oGt:=λx y c h=>by unfold WL.oGt at h;split at h<;>cases h
def w_sub:OpR X (binaryOp .Sub) (lo2 K WL.zN):=xq als (λx y w e=>by unfold WL.zN at e;split at e<;>cases e;exact⟨_,_,rfl,rfl,λF=>rfl⟩) fo
def w_mul:OpR X (binaryOp .Mult) (lo2 K WL.me):=ahH alv (λx y w e=>by
 unfold WL.me at e;split at e<;>first|(cases e)|skip
 split at e;.rename_i a;cases e;exact⟨_,_,rfl,rfl,a,λF=>rfl⟩
 .cases e) bw
def afb:OpR X (binaryOp .FloorDiv) (rI (λ_ j=>0<j/\j<10^100) λi j=>.int (i/j)):=opI λi j _ _ _ _ _ a q=>by
 have c:(0:Int)<j:=a.1;have d:j<10^100:=a.2;refine floordiv_int (by omega) (by rw[Int.fdiv_eq_ediv_of_nonneg i (by omega)];exact q) (.inl (PyProof.noPylong_of_log2 ?_));have b:j.natAbs<10^100:=by omega
 have:j.natAbs.log2<400:=(Nat.log2_lt (by omega)).mpr (aro b (by decide+kernel));omega
def w_div:OpR X (binaryOp .FloorDiv) (lo2 K WL.oDiv):=ahH afb (λx y w e=>by
 unfold WL.oDiv at e;split at e<;>first|(cases e)|skip
 split at e;.rename_i a;cases e;exact⟨_,_,rfl,rfl,a,λF=>rfl⟩
 .cases e) bH
def w_mod:OpR X (binaryOp .Mod) (lo2 K WL.oMod):=ahH alw (λx y w e=>by
 unfold WL.oMod at e;split at e<;>first|(cases e)|skip
 split at e;.rename_i a;cases e;exact⟨_,_,rfl,rfl,a,λF=>rfl⟩
 .cases e) aE
def w_lt:OpR X (compareOp .Lt) (lo2 K WL.oLt):=xq aoM (λx y w e=>by unfold WL.oLt at e;split at e<;>cases e;exact⟨_,_,rfl,rfl,λF=>rfl⟩) kN
def ajF:OpR X (compareOp .LtE) (lo2 K WL.oLe):=xq aoN (λx y w e=>by unfold WL.oLe at e;split at e<;>cases e;exact⟨_,_,rfl,rfl,λF=>rfl⟩) jl
def akr:OpR X (compareOp .Gt) (lo2 K WL.oGt):=xq aoO (λx y w e=>by unfold WL.oGt at e;split at e<;>cases e;exact⟨_,_,rfl,rfl,λF=>rfl⟩) kP
def jw:UnR X (unaryOp .USub) (lo1 K WL.pQ):=UnR.imp akv λx H Q a=>by
 refine l5 a λF wx s b q=>?_;cases wx<;>first|exact q.elim|skip
 exact⟨_,b,q _ F H (Ext.refl F H) (rfl)⟩
def bW:∀x c,WL.pQ x≠.ex c:=λx c h=>by cases x<;>simp[WL.pQ]at h
def abG{F}{x y:VW}{v u}(h:WL.abH x y=true)(b:RW K F x v)(a:RW K F y u):aor v u=true/\decide (v=u)=WL.eqv x y:=by
 cases x<;>first|(cases h)|skip
 all_goals cases y<;>first|(cases h;done)|(subst b;subst a;exact⟨rfl,by first|rfl|exact wG|exact adK|exact wF ⟩)
def calm_eq:Calm WL.oEq:=λx y c h=>by simp only[WL.oEq]at h;split at h<;>first|(cases h)|(split at h<;>cases h)
def ajr:Calm WL.oNe:=λx y c h=>by simp only[WL.oNe]at h;split at h<;>first|(cases h)|(split at h<;>cases h)
def w_eq(g:X.K=K)(i:X.A.units+64<cLine):OpR X (compareOp .Eq) (lo2 K WL.oEq):=by
 subst g;refine OpR.imp (aoP.or alA) λx y H Q a=>?_;refine aeh a λF wx c s d b q=>?_;simp only[WL.oEq]at q;split at q;.rename_i h;obtain⟨e,f⟩:=abG h d b;exact .inl ⟨e,eq1 q (by simp[RW,f])⟩
 .split at q;.rename_i h;rw[ary]at h;refine .inr (vc 50 _ _ (RW.isD _ _ x h.1 (d.keep s)) (RW.isD 50 c y h.2 (b.keep s)) (by omega) ?_);rw[kJ 50 50 wx c h.1 h.2];exact eq1 q (rfl)
  .exact q.elim
def aqG(g:X.K=K)(i:X.A.units+64<cLine):OpR X (compareOp .NotEq) (lo2 K WL.oNe):=by
 subst g;refine OpR.imp (aoL.or alu) λx y H Q a=>?_;refine aeh a λF wx c s d b q=>?_;simp only[WL.oNe]at q;split at q;.rename_i h;obtain⟨e,f⟩:=abG h d b;exact .inl ⟨e,eq1 q (by simp[RW,f])⟩
 .split at q;.rename_i h;rw[ary]at h;refine .inr (vc 50 _ _ (RW.isD _ _ x h.1 (d.keep s)) (RW.isD 50 c y h.2 (b.keep s)) (by omega) ?_);rw[kJ 50 50 wx c h.1 h.2];exact eq1 q (rfl)
  .exact q.elim
def om:Calm WL.oIn:=λx y c h=>by cases y<;>simp only[WL.oIn]at h<;>first|(cases h)|(split at h<;>cases h)
def eI:Calm WL.fO:=λx y c h=>by cases y<;>simp only[WL.fO]at h<;>first|(cases h)|(split at h<;>cases h)
set_option tactic.hygienic true
def akq(g:X.K=K)(i:X.A.units+64<cLine):OpR X (compareOp .In) (lo2 K WL.oIn):=by
 subst g;refine OpR.imp alz λx y H Q a=>?_;refine aeh a λF wx e s f d q=>?_;cases e<;>simp only[WL.oIn]at q<;>first|exact q.elim|skip
 all_goals
 rename_i b;by_cases h:(WL.okD 50 wx&&WL.lV 51 b)=true;.rw[arj h]at q;rw[ary]at h;have c:=RW.isD 51 _ y (by exact h.2) (d.keep s);refine vc 50 _ (oA b) (RW.isD 50 wx x h.1 (f.keep s)) (by first|exact .inl c|exact .inr c) (by omega) ?_;rw[xb h.1 h.2];exact eq1 q (rfl)
 .rw[arl h]at q;exact q.elim
def j7(g:X.K=K)(i:X.A.units+64<cLine):OpR X (compareOp .NotIn) (lo2 K WL.fO):=by
 subst g;refine OpR.imp aco λx y H Q a=>?_;refine aeh a λF wx e s f d q=>?_;cases e<;>simp only[WL.fO]at q<;>first|exact q.elim|skip
 all_goals
 rename_i b;by_cases h:(WL.okD 50 wx&&WL.lV 51 b)=true;.rw[arj h]at q;rw[ary]at h;have c:=RW.isD 51 _ y (by exact h.2) (d.keep s);refine vc 50 _ (oA b) (RW.isD 50 wx x h.1 (f.keep s)) (by first|exact .inl c|exact .inr c) (by omega) ?_;rw[xb h.1 h.2];exact eq1 q (rfl)
 .rw[arl h]at q;exact q.elim
set_option tactic.hygienic false
def yA{F w v}(r:RW K F w v):decide (v=V.non)=WL.iE w:=by cases w;all_goals first|(subst r;rfl)|(refine dU r λa d b _=>?_;subst b;rfl)|(obtain⟨a,rfl,_⟩:=r;rfl)|(refine xh r λa C c b _=>?_;subst b;rfl)|(refine am7 r λa C c l b _=>?_;subst b;rfl)
def aly:OpR X (compareOp .Is) λx y H Q=>∃b,y=.bl b/\Q (.bl (decide (x=.bl b))) H:=by
 intro d s f H x y v u Q I a e h;obtain⟨b,rfl,q⟩:=h;cases e;refine wpAny_is_plain ?_ (aV I q ?_);.cases x<;>(obtain⟨t,rfl⟩:=a;rfl)
 .cases x with|bl c=>cases a;cases b<;>cases c<;>rfl|_=>(obtain⟨t,rfl⟩:=a;cases b<;>rfl)
def acp:OpR X (compareOp .IsNot) λx y H Q=>∃b,y=.bl b/\Q (.bl !decide (x=.bl b)) H:=by
 intro d s f H x y v u Q I a e h;obtain⟨b,rfl,q⟩:=h;cases e;refine wpAny_isNot_plain ?_ (aV I q ?_);.cases x<;>(obtain⟨t,rfl⟩:=a;rfl)
 .cases x with|bl c=>cases a;cases b<;>cases c<;>rfl|_=>(obtain⟨t,rfl⟩:=a;cases b<;>rfl)
set_option tactic.hygienic true in
def agS{F w v b}(r:RW K F w v):decide (v=V.bl b)=WL.isB b w:=by cases w;all_goals first|(subst r;cases b<;>first|rfl|(rename_i c;cases c<;>rfl))|(refine dU r λa f d _=>?_;subst d;cases b<;>rfl)|(obtain⟨a,rfl,_⟩:=r;cases b<;>rfl)|(refine xh r λa C e d _=>?_;subst d;cases b<;>rfl)|(refine am7 r λa C e l d _=>?_;subst d;cases b<;>rfl)
def oj:Calm WL.oIs:=λx y c h=>by cases y<;>simp[WL.oIs]at h
def kO:Calm WL.nL:=λx y c h=>by cases y<;>simp[WL.nL]at h
def w_is:OpR X (compareOp .Is) (lo2 K WL.oIs):=by
 refine OpR.imp (alx.or aly) λx y H Q a=>?_;refine aeh a λF wx d s c b q=>?_;cases d<;>first|exact q.elim|skip
 .exact .inl ⟨b,eq1 q (by simp[RW,yA c])⟩
 .exact .inr ⟨_,b,eq1 q (by simp[RW,agS c])⟩
def vr:OpR X (compareOp .IsNot) (lo2 K WL.nL):=by
 refine OpR.imp (ais.or acp) λx y H Q a=>?_;refine aeh a λF wx d s c b q=>?_;cases d<;>first|exact q.elim|skip
 .exact .inl ⟨b,eq1 q (by simp[RW,yA c])⟩
 .exact .inr ⟨_,b,eq1 q (by simp[RW,agS c])⟩
def am1{F ws vs i w}(r:RWs K F ws vs)(h:WL.atI ws i=some w):∃v,L2.atI vs i=some v/\RW K F w v:=by unfold WL.atI at h;cases e:WL.ixN _ i with|none=>rw[e]at h;cases h|some j=>rw[e]at h;obtain⟨v,a,b⟩:=r.get h;refine⟨v,?_,b⟩;unfold L2.atI;rw[<-r.length,show L2.ixN _ i=some j from e];exact a
def ad3:Calm WL.oIx:=λx y c h=>by
 unfold WL.oIx at h;split at h<;>first|(cases h)|skip
 all_goals revert h;first|(cases WL.atI _ _<;>simp[WL.ofO];done)|(cases WL.rM _ _ _<;>simp[WL.ofO])
theorem adF{F}(k)(w:VW):∀{kvs:List (Key×V)}{ks vs},RWs K F ks (kvs.map λp=>kV p.1)->RWs K F vs (kvs.map λp=>p.2)->WL.rM k ks vs=some w->∃v,qh kvs (Sum.inr k)=some v/\RW K F w v
|[],ks,vs,r1,r2,e=>by cases ks with|nil=>simp[WL.rM]at e|cons x ks=>simp[RWs]at r1
|p::kvs,ks,vs,r1,r2,e=>by cases ks with|nil=>simp[WL.rM]at e|cons x ks=>
 cases vs with|nil=>cases x<;>cases e|cons y vs=>obtain⟨q,s,m,a,j⟩:=r1;obtain⟨o,r,d,c,g⟩:=r2;cases m;cases d;cases x with|str x=>
     simp only[RW]at a;have b:p.1=Sum.inr x:=by cases b:p.1 with|inl i=>rw[b]at a;cases i<;>exact absurd a (by simp[kV])|inr z=>rw[b]at a;simp only[kV]at a;cases a;rfl
     simp only[WL.rM]at e;by_cases h:x=k;.subst h;simp at e;subst e;exact⟨p.2,en b,c⟩
     .have n:(x==k)=false:=by simpa using h
      rw[n]at e;obtain⟨v,l,f⟩:=adF k w j g (by simpa using e);exact⟨v,by rw[er λz=>h (by rw[b]at z;exact Sum.inr.inj z)];exact l,f⟩|_=>simp[WL.rM]at e
set_option tactic.hygienic true in
def ap5(m:X.K=K):IxR X (lo2 K WL.oIx):=by
 subst m;refine IxR.imp ((aiW.or agR).or ac9) λx y H Q g=>?_;obtain⟨F,wx,u,s,j,h,q⟩:=g;unfold WL.oIx at q;split at q;rotate_left 2;.rename_i t b k;obtain⟨a,n,rfl,d,l,r⟩:=j;cases e:WL.rM k t b with|none=>rw[e]at q;exact q.elim|some w=>rw[e]at q;obtain⟨v,c,f⟩:=adF k w l r e;exact .inr ⟨a,_,Sum.inr k,v,rfl,h,s.rd d,c,eq1 q f⟩
 .exact q.elim
 all_goals rename_i o i;obtain⟨a,b,rfl,d,p⟩:=j;cases e:WL.atI o i with|none=>rw[e]at q;exact q.elim|some w=>rw[e]at q;obtain⟨v,c,f⟩:=am1 p e;first|exact .inl (.inl ⟨a,b,i,v,rfl,h,s.seq d,c,eq1 q f⟩)|exact .inl (.inr ⟨a,b,i,v,rfl,h,s.tup d,c,eq1 q f⟩)
def anZ(i:X.K=K):SlR X (aqp K):=by
 subst i;have j:WL.sIx=HT.sIx:=rfl;refine SlR.imp (abB.or akK) λx lo h H Q e=>?_;refine l5 e λF wx s g q=>?_;cases wx<;>simp [WL.oSl]at q<;>first|exact q.elim|skip
 .obtain⟨a,d,rfl,f,b⟩:=g;split at q;.exact q.elim
  .rename_i hw;rw[j,b.length]at hw;exact .inr (ahb a d rfl (s.tup f) hw λp c=>anF s q (b.cut lo h) c)
 .obtain⟨a,d,rfl,f,b⟩:=g;exact .inl (iG a d rfl (s.seq f) λp c=>afP s q (b.cut lo h) c)
def bF{F w xs}(r:RWs K F [w] xs):∃v,xs=[v]/\RW K F w v:=by obtain⟨v,t,rfl,h,rfl⟩:=r;exact⟨v,rfl,h⟩
def two_of{F w b xs}(r:RWs K F [w,b] xs):∃v a,xs=[v,a]/\RW K F w v/\RW K F b a:=by obtain⟨v,t,rfl,h,a,d,rfl,c,rfl⟩:=r;exact⟨v,a,rfl,h,c⟩
def gW(f:X.K=K):ba X (.builtin "len") (loN K WL.lQ):=by
 subst f;refine ba.imp uX λg H Q c=>?_;refine l5 c λF ws s r q=>?_;unfold WL.lQ at q;split at q;.obtain⟨v,rfl,h⟩:=bF r;obtain⟨a,b,rfl,e,d⟩:=h;exact⟨a,b,rfl,.inl (s.seq e),eq1 q (by simp[RW,d.length])⟩
 .obtain⟨v,rfl,h⟩:=bF r;obtain⟨a,b,rfl,e,d⟩:=h;exact⟨a,b,rfl,.inr (s.tup e),eq1 q (by simp[RW,d.length])⟩
 .exact q.elim
def j6(g:X.K=K):ba X (.type "tuple") (loN K WL.ir):=by
 subst g;refine ba.imp rQ λk H Q d=>?_;refine l5 d λF ws s r q=>?_;unfold WL.ir at q;split at q;.obtain⟨v,rfl,h⟩:=bF r;refine l5 h λa c b e f=>?_;subst b;exact⟨a,c,rfl,.inl ⟨s.seq e,λl i=>anF s q f i⟩⟩
 .refine gb (bF r) λv b h=>?_;subst b;have j:=h;refine l5 h λa c b e f=>?_;subst b;exact⟨a,c,rfl,.inr ⟨s.tup e,eq1 q j⟩⟩
 .exact q.elim
def agl(g:X.K=K):ba X (.type "list") (loN K WL.w9):=by
 subst g;refine ba.imp lK λi H Q c=>?_;refine l5 c λF ws s r q=>?_;unfold WL.w9 at q;split at q;.obtain⟨v,rfl,h⟩:=bF r;obtain⟨a,b,rfl,e,d⟩:=h;exact⟨a,b,rfl,.inl (s.seq e),λl f=>afP s q d f⟩
 .obtain⟨v,rfl,h⟩:=bF r;obtain⟨a,b,rfl,e,d⟩:=h;exact⟨a,b,rfl,.inr (s.tup e),λl f=>afP s q d f⟩
 .exact q.elim
set_option tactic.hygienic true in
def akt:ba X (.builtin "abs") (loN K WL.ajW):=ba.imp af4 λb H Q a=>by
 refine l5 a λF ws s r q=>?_;unfold WL.ajW at q;split at q;.rename_i i;obtain⟨v,rfl,h⟩:=bF r;subst h;exact⟨i,rfl,eq1 q (rfl)⟩
 .exact q.elim
def ako(d:X.calm=true):ba X (.builtin "max") (loN K WL.aaB):=ba.imp (ad5 d) λi H Q b=>by refine l5 b λF ws s r q=>?_;cases e:WL.aaB _ with|bad|ex c=>rw[e]at q;exact q.elim|ok w=>
 unfold WL.aaB at e;split at e;.refine l5 (two_of r) λv g a h f=>?_;subst a;subst h f;exact⟨_,_,rfl,eq1 q (rfl)⟩
 .cases e
def akp:ba X (.type "int") (loN K WL.aju):=ba.imp ad6 λb H Q a=>by obtain⟨F,ws,s,r,q⟩:=a;cases e:WL.aju ws with|bad|ex c=>rw[e]at q;exact q.elim|ok w=>
 rw[e]at q;unfold WL.aju at e;split at e;.cases e;obtain⟨v,rfl,h⟩:=bF r;simp only[RW]at h;subst h;exact .inr ⟨_,rfl,eq1 q (by simp[RW])⟩
 .cases e;obtain⟨v,rfl,h⟩:=bF r;simp only[RW]at h;subst h;exact .inl ⟨_,rfl,eq1 q (by simp[RW])⟩
 .cases e
noncomputable def aqH:VW->Value|.non=>.type "NoneType"|.bl _=>.type "bool"|.int _=>.type "int"|.str _=>.type "str"|.ty _=>.type "type"|.tup _=>.type "tuple"|.lst _=>.type "list"|.dic _ _=>.type "dict"|.cls _=>.type "type"|.exc _ _=>.none|.ins _ _=>.none|.id _=>.none
def amf{w:VW}{t b}(h:WL.isK w t=some b):W.kitOne K (aqH w) (.type t)=some b:=by
 have c:=by
  cases w<;>first|(cases h;done)|(change(if _ then _ else _)=_ at h)
  all_goals
  split at h;.rename_i a;simpa using a
  .cases h
 cases w<;>rcases c with rfl|rfl|rfl|rfl|rfl<;>first|(cases h;done)|(rw[<-h];rfl)
def al1{F H a vs}(s:av F H)(h:SqL K F a vs):TyOf K H (.ref a) (.type "list")\/∃o b n,K.lookup a=some o/\o.cls=.type "list"/\o.dict=none/\o.data=.seq b n:=by
 rcases h with(h|⟨o,h⟩)|⟨o,b,n,c,f,d,e,_⟩;.exact .inl (.lst (s _ _ h))
 .exact .inl (.frz (s _ _ h))
 .exact .inr (vc o _ n c f d e)
def uY:ba X (.builtin "isinstance") λc H Q=>∃a o T b,c=[.ref a,.ty T]/\X.K.lookup a=some o/\o.cls=.type "list"/\W.kitOne X.K (.type "list") (.type T)=some b/\Q (.bl b) H:=by intro d s m H c k Q I r h;obtain⟨a,o,T,b,rfl,g,f,e,q⟩:=h;obtain⟨u,l,rfl,j,i⟩:=vals2 r;cases i;cases j;exact asA W.kitx_list I.kIn ⟨o,I.kIn a o g,f⟩ e (λz=>nomatch z) λtk=>⟨.bl b,H,I.tok _,rfl,q⟩
set_option tactic.hygienic true in
def gc(y:X.K=K):ba X (.builtin "isinstance") (loN K WL.cK):=by subst y;refine ba.imp (w6.or uY) λA H Q f=>?_;obtain⟨F,ws,s,r,q⟩:=f;cases e:WL.cK ws with|bad|ex c=>rw[e]at q;exact q.elim|ok w=>
  rw[e]at q;unfold WL.cK at e;split at e
  .rename_i x t;split at e;.rename_i b j;cases e;obtain⟨v,D,rfl,h,z⟩:=two_of r;subst z;have d:=amf (K:=X.K) j;have fin:Q (.bl b) H:=eq1 q (by simp[RW]);cases x with|non=>simp only[RW]at h;subst h;exact .inl ⟨_,t,_,b,rfl,.inl .non,d,fin⟩|bl k=>simp only[RW]at h;subst h;exact .inl ⟨_,t,_,b,rfl,.inl (.bl k),d,fin⟩|int k=>simp only[RW]at h;subst h;exact .inl ⟨_,t,_,b,rfl,.inl (.int k),d,fin⟩|str k=>simp only[RW]at h;subst h;exact .inl ⟨_,t,_,b,rfl,.inl (.str k),d,fin⟩|ty k|dic _ _|cls _|exc _ _|ins _ _|id _=>cases j|tup ys=>obtain⟨a,i,rfl,g,m⟩:=h;exact .inl ⟨_,t,_,b,rfl,.inr ⟨a,i,rfl,rfl,s.tup g⟩,d,fin⟩|lst ys=>
     obtain⟨a,i,rfl,g,m⟩:=h;rcases al1 s g with ty|⟨o,l,n,p,u,B,C⟩;.exact .inl ⟨_,t,_,b,rfl,.inl ty,d,fin⟩
     .exact .inr ⟨a,o,t,b,rfl,p,u,d,fin⟩
   .cases e
  .cases e
theorem xx:∀a,oA a=a.map toD|[]=>rfl|x::a=>by simp [oA,xx _]
def bx:∀a c,WL.lQ a≠.ex c:=λa c h=>by unfold WL.lQ at h;split at h<;>cases h
def eG:∀a c,WL.ir a≠.ex c:=λa c h=>by unfold WL.ir at h;split at h<;>cases h
def uU:∀a c,WL.w9 a≠.ex c:=λa c h=>by unfold WL.w9 at h;split at h<;>cases h
def yU:∀a c,WL.ajW a≠.ex c:=λa c h=>by unfold WL.ajW at h;split at h<;>cases h
def ad2:∀a c,WL.aaB a≠.ex c:=λa c h=>by unfold WL.aaB at h;split at h<;>cases h
def ad4:∀a c,WL.aju a≠.ex c:=λa c h=>by unfold WL.aju at h;split at h<;>cases h
def cJ:∀a c,WL.cK a≠.ex c:=λa c h=>by
 unfold WL.cK at h;split at h;.split at h<;>cases h
 .cases h
end
structure Walk(K:W.Frag)(J:It)(xs:List VW)(F:Hp):Prop where
 go:∀(i:Nat)(x:VW),xs[i]?=some x->∀F1 H1:Hp,av F F1->av F1 H1->J.go i H1/\∀v H2,J.yld i H1 v H2->∃F2,Ext F1 H1 F2 H2/\RW K F2 x v
 stop:∀F1 H1:Hp,av F F1->av F1 H1->J.stop xs.length H1
def loI(B:Bx)(it:LF):TI:=λa H R=>∃b F,RS B b a F H/\Rq B b F (it b) λe=>∀J d c,RS B b a c d->Gr F H c d->Walk B.K J e c->R J d
def aa8{K a xs vs F}(h:SqL K F a vs)(r:RWs K F xs vs):Walk K (Itl K a) xs F:=by refine⟨λi x e f j b c=>?_,λf j b c=>⟨vs,c.seq (b.seq h),by rw[r.length];exact arn _⟩⟩;refine gb (r.get e) λv g l=>?_;refine⟨⟨vs,v,c.seq (b.seq h),g⟩,λu m d=>?_⟩;obtain⟨k,y⟩:=d;subst k;have:=y _ (c.seq (b.seq h));rw[g]at this;cases this;exact⟨f,Ext.refl _ _,l.keep b⟩
def aeC{K a xs vs F}(h:SqT K F a vs)(r:RWs K F xs vs):Walk K (Itt K a) xs F:=by refine⟨λi x e f j b c=>?_,λf j b c=>⟨vs,c.tup (b.tup h),by rw[r.length];exact arn _⟩⟩;refine gb (r.get e) λv g l=>?_;refine⟨⟨vs,v,c.tup (b.tup h),g⟩,λu m d=>?_⟩;obtain⟨k,y⟩:=d;subst k;have:=y _ (c.tup (b.tup h));rw[g]at this;cases this;exact⟨f,Ext.refl _ _,l.keep b⟩
def abR(lo)(n):(WL.rng lo n).length=n:=by simp[WL.rng]
def xo{K lo n F}:Walk K (Itr lo n) (WL.rng lo n) F:=by
 refine⟨λi x e b d f h=>?_,λb d f h=>by rw[abR];exact arn n⟩;have c:=by have:=(ari.mp e).1;rwa[abR]at this
 refine⟨c,λv j a=>?_⟩;obtain⟨g,y⟩:=a;subst g y;refine⟨b,Ext.refl _ _,?_⟩;simp only[WL.rng,arL,at6 c]at e;have e:=arK e;subst e;simp[RW]
theorem rD:∀(xs:List VW)(k i:Nat),(WL.fD k xs)[i]?=xs[i]?.map λx=>.tup [.int (k+i:Nat),x]|[],_,_=>rfl|x::xs,k,0=>rfl|x::xs,k,i+1=>by simp only[WL.fD,List.getElem?_cons_succ];rw[rD _ _ i];congr 1;funext y;congr 4;omega
theorem rC:∀(xs:List VW)k,(WL.fD k xs).length=xs.length|[],_=>rfl|x::xs,k=>by simp [WL.fD,rC _ _]
def aa9{K a xs vs F}(h:SqT K F a vs)(r:RWs K F xs vs):Walk K (Ite K a) (WL.fD 0 xs) F:=by refine⟨λi x e n m c b=>?_,λn m c b=>⟨vs,b.tup (c.tup h),by rw[rC,r.length];exact arn _⟩⟩;rw[rD]at e;cases f:xs[i]? with|none=>rw[f]at e;cases e|some y=>rw[f]at e;obtain⟨v,k,q⟩:=r.get f;have e:=arK e;subst e;refine⟨⟨vs,v,b.tup (c.tup h),k⟩,λu t d=>?_⟩;refine ju d λp s j o=>?_;subst s;obtain⟨z,g,rfl⟩:=o vs (b.tup (c.tup h));rw[k]at g;cases g;have l:=b.free j;refine⟨_,Ext.new l j _,p,_,rfl,SqT.of aj,?_⟩;simp only[RWs,RW];refine⟨_,_,rfl,?_,_,_,rfl,(q.keep c).keep (ay l _),rfl⟩;simp
def y7{K a xs vs F}(h:SqL K F a vs)(r:RWs K F xs vs):Walk K (anO K a) (WL.fD 0 xs) F:=by refine⟨λi x e n m c b=>?_,λn m c b=>⟨vs,b.seq (c.seq h),by rw[rC,r.length];exact arn _⟩⟩;rw[rD]at e;cases f:xs[i]? with|none=>rw[f]at e;cases e|some y=>rw[f]at e;obtain⟨v,k,q⟩:=r.get f;have e:=arK e;subst e;refine⟨⟨vs,v,b.seq (c.seq h),k⟩,λu t d=>?_⟩;refine ju d λp s j o=>?_;subst s;obtain⟨z,g,rfl⟩:=o _ (b.seq (c.seq h));rw[k]at g;cases g;have l:=b.free j;refine⟨_,Ext.new l j _,p,_,rfl,SqT.of aj,?_⟩;simp only[RWs,RW];refine⟨_,_,rfl,?_,_,_,rfl,(q.keep c).keep (ay l _),rfl⟩;simp
section
variable{X:Cx}{B:Bx}{e tg:Expr}{pos:Pos}{ta tb:EF}{g:GF}{b:SF}
def tSq(K:W.Frag)(f:TE):TI:=λh H R=>f h H λx c=>∃a,x=.ref a/\((∃d,SqL K c a d)/\R (Itl K a) c\/(∃d,SqT K c a d)/\R (Itt K a) c)
def aij{pins}{σ:L2.St}{c R d x v}(f:Inv X pins σ c d)(m:RelV x v)(q:∃a,x=.ref a/\((∃h,SqL X.K c a h)/\R (Itl X.K a) c\/(∃h,SqT X.K c a h)/\R (Itt X.K a) c)):wpAny (model X.prog X.w) X.A (pyIter v) (PIE X pins σ tg R) X.xe d:=by
 obtain⟨a,e,n⟩:=q;subst e;cases m;have k:∀b∈[d.heap.objs.size],yX X pins c b:=λb s=>by
  have e:b=d.heap.objs.size:=by grind
  subst e;exact f.ajR (arn _) (f.hok.fresh (arn _))
 rcases n with⟨⟨h,j⟩,q⟩|⟨⟨h,j⟩,q⟩;.obtain⟨i,r,p,l⟩:=f.list j;exact wpAny_pyIter_list p.isList (aj5 d.heap.objs.size [d.heap.objs.size] _ _ c rfl (f.kept λb o e=>arf _ e) (abh a _) ⟨_,aru _ rfl,rfl,rfl⟩ k q)
 .obtain⟨i,r,p,l⟩:=f.tuple j;exact wpAny_pyIter_tuple p (aj5 d.heap.objs.size [d.heap.objs.size] _ _ c rfl (f.kept λb o e=>arf _ e) (y9 a _) ⟨_,aru _ rfl,rfl,rfl⟩ k q)
def alm{l c}(j:PE X l c):PI X tg l (tSq X.K c):=λd s k H R I h=>thn (j _ s k H _ I h) λv n a=>by refine l5 a λx m f i q=>?_;exact aij f i q
def aiS{K}(f:K=B.K):∀c H R,loI B (WL.rT ta) c H R->tSq K (lo B ta) c H R:=λc H R j=>by refine dU j λs F r q=>?_;have q:=Rq.bind q;refine eh s F r (Rq.mono (av.refl _) q λx l v p m h n o=>?_);cases x with|lst xs=>obtain⟨a,i,rfl,d,k⟩:=o;refine⟨a,rfl,.inl ⟨⟨i,by rw[f];exact h.rb.sub.seq d⟩,?_⟩⟩;rw[f];exact l _ _ m h n (aa8 d k)|tup xs=>obtain⟨a,i,rfl,d,k⟩:=o;refine⟨a,rfl,.inr ⟨⟨i,by rw[f];exact h.rb.sub.tup d⟩,?_⟩⟩;rw[f];exact l _ p m h n (aeC d k)|_=>exact(l).elim
def fH(a:X.K=B.K)(h:PE X e (lo B ta)):PI X tg e (loI B (WL.rT ta)):=PI.imp (alm h) (aiS a)
def iR{a p pos}(u:Gl X "range")(A:X.mg "range"=none)(h:PE X a (lo B ta))(G:starEach [a] X.env=[(false,eval a X.env)]:=by rfl)(r:starEach [a] X.env=(false,eval a X.env)::starEach [] X.env:=by rfl):PI X tg (.Call (.Name "range" p) [a] [] pos) (loI B (WL.jd ta)):=PI.imp (acd u A (aa h ah r) G) λm H R n=>by
 refine dU n λd F E q=>?_;have q:=Rq.bind q;have w:Rq B d F (WL.ae ta WL.au d) λws=>∀k l o,RS B d m o l->Gr F H o l->RWs B.K o ws k->∃j:Int,k=[.int j]/\-2^62<=j/\j<2^62/\R (Itr 0 j.toNat) l:=by show Rq B d F ((ta d).bind λx=>.ok [x]) _;cases e:ta d with
 |ok x=>
   rw[e]at q;intro k s t D y z;refine gb (bF z) λv i C=>?_;subst i
   cases x with|int j=>
    subst C;have q:Rq B d F (if -2^62<=j/\j<2^62 then .ok (WL.rng 0 j.toNat)else .bad) _:=q;by_cases f:-2^62<=j/\j<2^62;.rw[arj f]at q;exact⟨j,rfl,f.1,f.2,q _ s t D y xo⟩
    .rw[arl f]at q;exact q.elim|_=>exact(q).elim
 |ex c=>rw[e]at q;exact q|bad=>rw[e]at q;exact q
 exact eh d F E w
def aa4{a c p pos}(A:Gl X "range")(N:X.mg "range"=none)(h:PE X a (lo B ta))(h':PE X c (lo B tb))(P:starEach [a,c] X.env=[(false,eval a X.env),(false,eval c X.env)]:=by rfl)(o:starEach [c] X.env=[(false,eval c X.env)]:=by rfl)(r:starEach [a,c] X.env=(false,eval a X.env)::starEach [c] X.env:=by rfl)(f:starEach [c] X.env=(false,eval c X.env)::starEach [] X.env:=by rfl):PI X tg (.Call (.Name "range" p) [a,c] [] pos) (loI B (WL.wy ta tb)):=PI.imp (acb A N (aa h (aa h' ah f) r) P o) λt H R n=>by
 refine dU n λd F D q=>?_;have q:=Rq.bind q;have J:Rq B d F (WL.ae ta (WL.ae tb WL.au) d) λws=>∀l s u,RS B d t u s->Gr F H u s->RWs B.K u ws l->∃i j:Int,l=[.int i,.int j]/\(-2^62<=i/\i<2^62/\-2^62<=j/\j<2^62)/\R (Itr i (j-i).toNat) s:=by show Rq B d F ((ta d).bind λx=>((tb d).bind _).bind λE=>.ok (x::E)) _;cases e:ta d with
 |ok x=>rw[e]at q;have q:=Rq.bind q;cases m:tb d with
  |ok y=>rw[m]at q;intro l z I C K M;refine l5 (two_of M) λv Q k O G=>?_;subst k;cases x with
   |int i=>cases y with|int j=>
      subst O G;have q:Rq B d F (if -2^62<=i/\i<2^62/\-2^62<=j/\j<2^62 then .ok (WL.rng i (j-i).toNat)else .bad) _:=q;by_cases w:-2^62<=i/\i<2^62/\-2^62<=j/\j<2^62;.rw[arj w]at q;exact⟨i,j,rfl,w,q _ z I C K xo⟩
      .rw[arl w]at q;exact q.elim|_=>exact(q).elim
   |_=>exact(q).elim
  |ex c=>rw[m]at q;exact q|bad=>rw[m]at q;exact q
 |ex c=>rw[e]at q;exact q|bad=>rw[e]at q;exact q
 exact eh d F D J
def vn{l es k C p pos}(d:X.K=B.K)(u:Gl X "enumerate")(w:X.mg "enumerate"=none)(h:PE X l (lo B ta))(A:starEach [l] X.env=[(false,eval l X.env)]:=by rfl):PI X (.Tuple es k C) (.Call (.Name "enumerate" p) [l] [] pos) (loI B (WL.wz ta)):=PI.imp (vO u w h A) λy H R j=>by refine dU j λD F z q=>?_;have q:=Rq.bind q;refine eh D F z (Rq.mono (av.refl _) q λx n v o r f s t=>?_);cases x with|tup xs=>obtain⟨a,i,rfl,c,m⟩:=t;refine⟨a,rfl,.inl ⟨⟨i,by rw[d];exact f.rb.sub.tup c⟩,?_⟩⟩;rw[d];exact n _ o r f s (aa9 c m)|lst xs=>obtain⟨a,i,rfl,c,m⟩:=t;refine⟨a,rfl,.inr ⟨⟨i,by rw[d];exact f.rb.sub.seq c⟩,?_⟩⟩;rw[d];exact n _ o r f s (y7 c m)|_=>exact(n).elim
variable{m:Bool}{es:List Expr}{gs:GsF}
def ahx{i}(h:PG X e (L2.aA i)):PG X e (loG m B (WL.aA i)):=PG.imp h λv c H Q a=>by obtain⟨d,F,w,R,r,q⟩:=a;exact q _ H F (R.set r) Gm.refl
def mx:PGs X [] (anz m B WL.vh):=PGs.imp aik λd c H Q a=>by refine aaH a λf F ws R r q=>?_;cases ws with|nil=>exact⟨r,q _ H F R Gm.refl⟩|cons w ws=>exact(q).elim
def dC(y:PG X e (loG m B g))(u:PGs X es (anz m B gs))(z:(assignEach (e::es) X.env).map (·.2)=assign e X.env::(assignEach es X.env).map (·.2):=by rfl):PGs X (e::es) (anz m B (WL.di g gs)):=PGs.imp (ae5 y u z) λC s H Q h=>by refine aaH h λa F ws R r q=>?_;cases ws with|nil=>exact(q).elim|cons w ws=>obtain⟨v,t,rfl,r,rt⟩:=r;refine⟨v,t,rfl,a,F,w,R,r,?_⟩;have q:Rq B a F (match g w a with|.ok σ'=>(match gs _ σ' with|.ok σ2=>.ok σ2|_=>.bad)|_=>.bad) _:=q;cases f:g w a with|bad=>rw[f]at q;exact q|ex c=>rw[f]at q;exact q.elim|ok σ1=>rw[f]at q;intro j A n x i;have q:Rq B a F (match gs ws σ1 with|.ok σ2=>.ok _|_=>.bad) _:=q;refine aha σ1 n ws x (rt.keep i.f) ?_;cases d:gs ws σ1 with|bad=>rw[d]at q;exact q|ok σ2=>rw[d]at q;exact λk o p R2 l=>q _ o p R2 (i.trans l)|ex c=>rw[d]at q;exact q.elim
def rY{k n}(y:X.K=B.K)(s:X.calm=true)(h:PGs X es (anz m B gs))(t:(assignEach es X.env).length=n)(A:∀ws d f,gs ws d=.ok f->ws.length=n)(C:∀ws d c,gs ws d≠.ex c)(o:(assignEach es X.env).findIdx? (·.1)=none:=by rfl):PG X (.Tuple es k pos) (loG m B (WL.vg gs)):=PG.imp (aln s h t o) λv x H Q l=>by refine aaH l λd F w R r q=>?_;cases w with
|tup ws=>refine l5 r λa u i z p=>?_;subst i;have q:Rq B d F (gs _ d) _:=q;refine⟨a,u,rfl,by rw[y];exact R.rb.sub.tup z,?_,d,F,ws,R,p,q⟩;cases j:gs _ d with|ok f=>rw[<-p.length];exact A _ _ _ j|ex c=>exact(C _ _ _ j).elim|bad=>rw[j]at q;exact q.elim
|_=>exact(q).elim
def uC:∀ws c a,WL.vh ws c=.ok a->ws.length=0:=λws c a h=>by cases ws<;>simp[WL.vh]at h;rfl
def fB{n}(h:∀ws d a,gs ws d=.ok a->ws.length=n):∀ws d a,WL.di g gs ws d=.ok a->ws.length=n+1:=λws d a q=>by cases ws with|nil=>simp[WL.di]at q|cons w ws=>have q:(match g w d with|.ok _=>(match gs _ _ with|.ok _=>Res.ok _|_=>.bad)|_=>.bad)=.ok _:=q;cases f:g w d with
 |ok σ1=>rw[f]at q;have q:(match gs ws _ with|.ok σ2=>Res.ok _|_=>.bad)=.ok _:=q;cases i:gs ws σ1 with|ok σ2=>simp[h _ _ _ i]|ex c|bad=>rw[i]at q;cases q
 |ex c=>rw[f]at q;cases q|bad=>rw[f]at q;cases q
def kD:∀ws a c,WL.di g gs ws a≠.ex c:=λws a c q=>by cases ws with|nil=>simp[WL.di]at q|cons w ws=>have q:(match g w a with|.ok _=>(match gs _ _ with|.ok _=>Res.ok _|_=>.bad)|_=>.bad)=.ex c:=q;cases d:g w a with|ok σ1=>rw[d]at q;have q:(match gs _ _ with|.ok σ2=>Res.ok _|_=>.bad)=.ex c:=q;cases f:gs _ _<;>rw[f]at q<;>cases q|ex c=>rw[d]at q;cases q|bad=>rw[d]at q;cases q
def amC(h:∀ws a c,gs ws a≠.ex c):∀w a c,WL.vg gs w a≠.ex c:=λw a c q=>by cases w<;>simp [WL.vg]at q<;>exact h _ _ _ q
abbrev Bx.calm(B:Bx):Bx:=⟨B.K,B.H0,B.F0,λ_ _ _=>False,λ_ _ _ _ _ h=>h⟩
def RS.aky{σ a F H}(R:RS B σ a F H):RS B.calm σ a F H:=⟨⟨R.rb.sub,R.rb.base,R.rb.fz0,R.rb.fr⟩,R.len,R.va,R.ow,R.ap,R.dd⟩
def RB.alH{F H}(R:RB B.calm F H):RB B F H:=⟨R.sub,R.base,R.fz0,R.fr⟩
def RS.ahead{σ:Ws}{f:L2.St}{F H:Hp}(R:RS B σ f F H)(k:Nat):RS B (List.replicate k .no++σ) (List.replicate k none++f) F H:=by
 have c:∀{i:Nat}{q:Sl},(List.replicate k Sl.no++σ)[i]?=some q->q≠.no->k<=i/\σ[i-k]?=some q:=λ{i q}e M=>by
  by_cases d:i<k;.rw[arO (by simpa using d)]at e;rw[asF,arj d]at e;exact absurd (arK e).symm M
  .rw[arQ (by simp;omega)]at e;simp only[asN]at e;exact⟨by omega,e⟩
 have p:∀{i:Nat}{x:Option V},k<=i->f[i-k]?=some x->(List.replicate k none++f)[i]?=some x:=λ{i x}d e=>by rw[arQ (by simp;omega)];simpa using e
 have r:∀{i:Nat}{x:Option V},k<=i->(List.replicate k none++f)[i]?=some x->f[i-k]?=some x:=λ{i x}d e=>by rw[arQ (by simp;omega)]at e;simpa using e
 refine⟨R.rb,by simp[R.len],λi w e=>?_,λi ws e=>?_,λi j ws y a J o h t s=>?_,λi D G e=>?_,λi j D G E u a J o h t s=>?_,λi e=>?_⟩;rotate_left 3;.obtain⟨d,e⟩:=c e (by intro z;cases z);obtain⟨a,A,l,n⟩:=R.dd.od _ D G e;exact⟨a,A,p d l,n⟩
 .obtain⟨d,o⟩:=c o (by intro z;cases z);obtain⟨I,h⟩:=c h (by intro z;cases z);exact R.dd.ad _ _ D G E u a (by omega) o h (r d t) (r I s)
 .obtain⟨d,e⟩:=c e (by intro z;cases z);obtain⟨a,C,N,l,n⟩:=R.dd.ob _ e;exact⟨a,C,N,p d l,n⟩
 .obtain⟨d,e⟩:=c e (by intro z;cases z);obtain⟨v,l,n⟩:=R.va _ w e;exact⟨v,p d l,n⟩
 .obtain⟨d,e⟩:=c e (by intro z;cases z);obtain⟨a,K,l,n⟩:=R.ow _ ws e;exact⟨a,K,p d l,n⟩
 .obtain⟨d,o⟩:=c o (by intro z;cases z);obtain⟨I,h⟩:=c h (by intro z;cases z);exact R.ap _ _ ws y a (by omega) o h (r d t) (r I s)
def RS.forget{σ σ' c F H}(R:RS B σ c F H)(t:σ'.length=σ.length)(h:∀(i:Nat)d,σ'[i]?=some d->d≠.no->σ[i]?=some d):RS B σ' c F H:=⟨R.rb,by rw[t];exact R.len,λi w e=>R.va i w (h i _ e (by simp)),λi ws e=>R.ow i ws (h i _ e (by simp)),λi j ws f a k q n=>R.ap i j ws f a k (h i _ q (by simp)) (h j _ n (by simp)),R.dd.via rfl id (λ_ _ z=>.inl z) (λi d o e=>⟨h i _ e (by intro z;subst z;exact o),rfl⟩) (av.refl _) λ_ _ _ a r _ _ s l p=>⟨l,p,s⟩⟩
def Keeps(k:Nat)(g:GF):Prop:=∀w c a,g w c=.ok a->a.length=c.length/\∀j:Nat,k<=j->a[j]?=c[j]?
def bj{k i}(h:i<k):Keeps k (WL.aA i):=λw d a e=>by cases e;exact⟨by simp,λj c=>by grind⟩
end
end WS
set_option autoImplicit true
set_option relaxedAutoImplicit true
namespace WS
open PySem PySem.Spec PyProof.Rows L2
open WL(Res Sl Ws EF TF AF LF GF GsF SF Out OX RF Rn AXF)
section
variable{X:Cx}{B:Bx}{e tg iter:Expr}{pos:Pos}{ta tb:EF}{tt:TF}{it:LF}{g:GF}{b:SF}{k:Nat}
def afZ   (hg:Keeps k g)(R1:RS B σ σV F1 H1)(wk:Walk B.K J xs F1)(hx:xs.length<=WL.lim)(hc:WL.bG g tt ta (List.replicate k .no++σ) xs=.ok all)(fin:∀n l h,RB B l h->Gr F1 H1 l h->RWs B.K l all n->∀D,h D=none->Q (.ref D) (upd h D (.lst n))):p9 (av H1) J (loG true B.calm g) (loT B.calm tt) (lo B.calm ta) (List.replicate k none++σV) H1 Q:=by
 refine⟨λi m n q h=>m=xs.length-i/\i<=xs.length/\n.length<=i/\∃l d rest,RS B.calm (List.replicate k .no++σ) q l h/\Gr F1 H1 l h/\RWs B.K l d n/\WL.bG g tt ta (List.replicate k .no++σ) (xs.drop i)=.ok rest/\d++rest=all,⟨xs.length,rfl,arZ _,arZ _,F1,[],all,(R1.aky).ahead k,Gr.refl,by simp[RWs],by simpa using hc,rfl⟩,?_⟩;rintro i m n q h⟨rfl,hi,S,l,d,rest,I,t,P,a,f⟩;refine⟨t.h,auf (arq S (arq hi hx)) (by decide),?_⟩;by_cases r:i<xs.length;.have hd:=arF r;rw[hd]at a;obtain⟨go,yl⟩:=wk.go i xs[i] (art r) l h t.f I.rb.sub;refine .inr ⟨go,λs C z=>s.length<=i+1/\∃x d rest,RS B.calm (List.replicate k .no++σ) C x z/\Gr F1 H1 x z/\RWs B.K x d s/\WL.bG g tt ta (List.replicate k .no++σ) (xs.drop (i+1))=.ok rest/\d++rest=all,λs C z⟨a1,a2⟩=>⟨xs.length-(i+1),by omega,rfl,r,a1,a2⟩,λv z hy=>?_⟩;obtain⟨x,U,r2⟩:=yl v z hy;simp only[WL.bG]at a;cases A:g xs[i] (List.replicate k .no++σ)with|bad=>rw[A]at a;cases a|ex c=>rw[A]at a;cases a|ok σ1=>
   rw[A]at a;obtain⟨kl,kk⟩:=hg _ _ _ A;refine⟨_,x,xs[i],U.rs _ _ _ I,r2,?_⟩;rw[A];intro p H3 F3 R3 R;have back:∀{w K:Hp},RS B.calm σ1 p w K->RS B.calm (List.replicate k .no++σ) p w K:=λ{w K}G=>G.forget kl.symm λj sl O ne=>by
    by_cases Y:j<k;.rw[arO (by simpa using Y),asF,arj Y]at O;exact absurd (arK O).symm ne
    .rw[kk j (by omega)];exact O
   have o:=U.gr.trans ⟨R.f,R.h rfl,R.nf⟩;have a:((tt σ1).bind λb=>match b with|true=>(ta σ1).bind λy=>(WL.bG g tt ta (List.replicate k .no++σ) (xs.drop (i+1))).bind λn=>.ok (y::n)|false=>WL.bG g tt ta (List.replicate k .no++σ) (xs.drop (i+1)))=.ok rest:=a;cases E:tt σ1 with|bad=>rw[E]at a;cases a|ex c=>rw[E]at a;cases a|ok b=>rw[E]at a;refine⟨σ1,F3,R3,?_⟩;rw[E];intro K w G M;cases b with|false=>rw[arl arG];exact⟨by omega,w,d,rest,back G,t.trans (o.trans M),P.keep (o.trans M).f,a,f⟩|true=>rw[arj rfl];have a:=a;cases H:ta σ1 with|bad=>rw[H]at a;cases a|ex c=>rw[H]at a;cases a|ok y=>rw[H]at a;refine⟨σ1,w,G,?_⟩;rw[H];intro u H5 F5 R5 T r5;have a:=a;cases N:WL.bG g tt ta (List.replicate k .no++σ) (xs.drop (i+1))with|bad=>rw[N]at a;cases a|ex c=>rw[N]at a;cases a|ok zs=>rw[N]at a;cases a;exact⟨by rw[ar7,atQ];omega,F5,d++[y],zs,back R5,t.trans ((o.trans M).trans T),(P.keep ((o.trans M).trans T).f).app (.one r5),rfl,by rw[<-f];simp⟩
 .have ei:i=xs.length:=by omega
  subst ei;rw[as2]at a;simp only[WL.bG]at a;cases a;rw[ar2]at f;subst f;exact .inl ⟨wk.stop l h t.f I.rb.sub,λD Z=>fin n l h I.rb.alH t P D Z⟩
def acT(o:Keeps k g):∀a H Q,lo B (WL.fZ k it g tt ta) a H Q->ahY k (loI B it) (loG true B.calm g) (loT B.calm tt) (lo B.calm ta) a H Q:=by
 intro a H Q⟨s,F,R,q⟩;have q:=Rq.bind (Rq.bind q);refine⟨s,F,R,Rq.mono (av.refl _) q λl d J t u j p wk=>?_⟩;by_cases h:l.length<=WL.lim;.rw[arj h]at d;cases e:WL.bG g tt ta _ l with|bad|ex c=>rw[e]at d;exact(d).elim|ok all=>rw[e]at d;refine p9.w (afZ o j wk h e λn w v i m r D f=>?_);exact d (.ref D) _ _ ((j.grow m i).new f _) (p.trans (m.trans (Gr.new (i.sub.free f) f _))) (by exact iG D n rfl (SqL.of aj) (r.keep (ay (i.sub.free f) _)))
 .rw[arl h]at d;exact(d).elim
variable{scope:Scope}{ts:List Str}{elt:Expr}{ifs:List Expr}
def fJ:agb X [] (loT B WL.iZ):=λc s f H Q I a=>by obtain⟨d,F,R,q⟩:=a;exact ae2 _ s f H Q I (q H F R Gr.refl)
def eK(L:CompLook X scope)(f:X.calm=true)(h:ts.length=k)(l:Keeps k g)(n:PI X tg iter (loI B it))(j:∀C c a d,PG (X.comp scope C ts c a d) tg (loG true B.calm g))(o:∀C c a d,agb (X.comp scope C ts c a d) ifs (loT B.calm tt))(m:∀C c a d,PE (X.comp scope C ts c a d) elt (lo B.calm ta))(i:∀x,foldedSetIterable iter X.env x=pure x:=by intro _;rfl):PE X (.ListComp elt [⟨tg,iter,ifs,0⟩] scope pos) (lo B (WL.fZ k it g tt ta)):=by subst h;exact PE.imp (ae6 L f n j o m i) (acT l)
def aht (C:X.K=B.K)(E:Gl X x)(J:X.mg x=none)(G:bootBuiltins x=some (.type "list"))(h:PE X e (lo B ta))(D:x≠"__name__":=by decide)(n:Dbg x:=by decide)(z:starEach [e] X.env=(false,eval e X.env)::starEach [] X.env:=by rfl)(t:BT X pos []:=by rfl):PE X (.Call (.Name x p) [e] [] pos) (loL B (WL.ame ta)):=PE.imp (ny lK E J G (aa h ah z) D n z t) λK H Q m=>by refine dU m λf F R q=>?_;have q:=Rq.bind q;refine eh f F R ?_;show Rq B f F ((ta f).bind λx=>.ok [x]) _;cases y:ta f with|bad|ex c=>rw[y]at q;exact q|ok w=>rw[y]at q;intro O M N d u I;refine gb (bF I) λv i A=>?_;subst i;cases w with|lst xs=>obtain⟨a,j,rfl,r,o⟩:=A;exact⟨a,j,rfl,.inl (by rw[C];exact d.rb.sub.seq r),λl s=>ajP d u o s q⟩|tup xs=>obtain⟨a,j,rfl,r,o⟩:=A;exact⟨a,j,rfl,.inr (by rw[C];exact d.rb.sub.tup r),λl s=>ajP d u o s q⟩|_=>exact(q).elim
def agi (t:X.K=B.K)(I:PE X a (lo B ta))(C:PE X c (lo B tb)):PE X (.BinOp a .Add c pos) (loL B (WL.anA ta tb)):=PE.imp (alo acr I C) λJ H Q h=>by obtain⟨l,F,R,q⟩:=h;have q:=Rq.bind q;refine⟨l,F,R,Rq.mono (av.refl _) q λx i v N G z r s=>?_⟩;have i:=Rq.bind i;refine⟨l,G,z,Rq.mono r.f i λy d O S P R2 j n=>?_⟩;cases x with
|lst xs=>cases y with|lst ys=>
   simp only[RW]at s n;obtain⟨a,w,rfl,M,m⟩:=s;obtain⟨b,E,rfl,K,o⟩:=n;have d:Rq B l F (if xs.length+ys.length<=WL.lim then .ok (xs++ys)else .bad) _:=d;by_cases f:xs.length+ys.length<=WL.lim;.rw[arj f]at d;have A:=m.length;have D:=o.length;exact⟨a,b,w,E,rfl,rfl,by rw[t];exact R2.rb.sub.seq (j.f.seq M),by rw[t];exact R2.rb.sub.seq K,by rw[<-A,<-D];exact arq f eQ,λp u=>ajP R2 (r.trans j) ((m.keep j.f).app o) u d⟩
   .rw[arl f]at d;exact d.elim|_=>exact(d).elim
|_=>exact(d).elim
variable{st:Stmt}{rest:List Stmt}{s1 s2:SF}{i:Nat}
def ax:PSs X [] (loS B WL.sNx):=PSs.imp vN λD c H a=>by obtain⟨d,F,R,q⟩:=a;exact q _ H F R (av.refl _)
def al4:∀D a H,loS B (WL.aH s1 s2) D a H->ahT (loS B s1) (loS B s2) D a H:=λD a H d=>by refine dU d λf F R q=>?_;refine eh f F R ?_;have q:Oq B D F (match s1 f with|.nx _=>s2 _|o=>o):=q;cases e:s1 f with|nx σ'=>rw[e]at q;exact λh m l j s=>⟨_,l,j,Oq.mono s q⟩|bk σ'|ct σ'|rt w|ex c σ'|bad=>rw[e]at q;exact q
def ak(a:PS X st (loS B s1))(c:PSs X rest (loS B s2)):PSs X (st::rest) (loS B (WL.aH s1 s2)):=PSs.imp (aT a c) al4
def ao(a:PS X st (loS B s1)):PSs X [st] (loS B s1):=cT a
def aw(c:PE X e (lo B ta)):PS X (.Return (some e) pos) (loS B (WL.bf ta)):=PS.imp (tD c) λD d H a=>by obtain⟨j,F,R,q⟩:=a;have q:=Oq.ofR q;exact⟨j,F,R,Rq.mono (av.refl _) q λw f v l m h g r=>f v _ _ h.rb g.f r⟩
def aM (l:PT X c (loT B tt))(o:PSs X a (loS B s1))(n:PSs X d (loS B s2)):PS X (.If c a d pos) (loS B (WL.sIf tt s1 s2)):=PS.imp (ab3 l o n) λD r H f=>by refine dU f λh F R q=>?_;have q:=Oq.ofR q;refine eh h F R (Rq.mono (av.refl _) q λx m s p j g=>?_);cases x with|true|false=>exact⟨h,p,j,Oq.mono g.f m⟩
def agN (f:∀a H Q,lo B ta a H Q->tV a H Q):∀D a H,loS B (WL.cP i ta) D a H->ajI tV (L2.aA i) D a H:=λD a H c=>by obtain⟨j,F,R,q⟩:=c;have q:=Oq.ofR q;exact f _ _ _ ⟨j,F,R,Rq.mono (av.refl _) q λw d v l m h g r=>d _ _ _ (h.set r) g.f⟩
def aiT (f:∀c H Q,loL B l c H Q->tV c H Q):∀D c H,loS B (WL.ko i l) D c H->ajI tV (L2.aA i) D c H:=λD c H d=>by refine dU d λt F R q=>?_;have q:=Oq.ofR q;exact f _ _ _ (eh t F R (Rq.mono (av.refl _) q λws n a v w x o g s p h r m=>n _ _ _ (o.aqK s p h r λj u _ e=>m j _ e) g.f))
def akb (c:X.N.Nodup)(j:X.N[i]?=some x)(f:Loc X.env.scope x)(d:PE X e (lo B ta))(a:swapsWith e (some (.Name x pos')) pos.line X.env=pure false:=by rfl)(h:FL X x:=by first|exact .inl rfl|exact .inr rfl|assumption):PS X (.Assign [.Name x pos'] e pos) (loS B (WL.cP i ta)):=PS.imp (nv c j f d a h) (agN λ_ _ _ q=>q)
def fq  (c:X.N.Nodup)(j:X.N[i]?=some x)(f:Loc X.env.scope x)(d:PE X e (loL B l))(a:swapsWith e (some (.Name x pos')) pos.line X.env=pure false:=by rfl)(h:FL X x:=by first|exact .inl rfl|exact .inr rfl|assumption):PS X (.Assign [.Name x pos'] e pos) (loS B (WL.ko i l)):=PS.imp (nv c j f d a h) (aiT λ_ _ _ q=>q)
def ahk (m:X.N.Nodup)(h:X.N[i]?=some y)(q:X.env.scope.names.lookup y=some .local)(f:swapsWith (.ListComp elt [⟨tg,iter,ifs,0⟩] scope pos) (some (.Name y py)) spos.line X.env=pure true)(L:CompLook X scope)(j:X.calm=true)(l:ts.length=k)(n:Keeps k g)(s:PI X tg iter (loI B it))(p:∀C c a d,PG (X.comp scope C ts c a d) tg (loG true B.calm g))(t:∀C c a d,agb (X.comp scope C ts c a d) ifs (loT B.calm tt))(r:∀C c a d,PE (X.comp scope C ts c a d) elt (lo B.calm ta))(o:∀x,foldedSetIterable iter X.env x=pure x:=by intro _;rfl):PS X (.Assign [.Name y py] (.ListComp elt [⟨tg,iter,ifs,0⟩] scope pos) spos) (loS B (WL.cP i (WL.fZ k it g tt ta))):=by subst l;exact PS.imp (tr m h q f L j s p t r o) (agN (acT n))
def akc(n:PE X e (lo B ta))(l:PG X tg (loG false B g))(E:∀w a c,g w a≠.ex c)(t:swapsWithSole [tg] e pos.line X.env=pure false:=by rfl)(hw:swappedStores [tg] e X.env=pure none:=by rfl)(x:(assignEach [tg] X.env).map (·.2)=[assign tg X.env]:=by rfl):PS X (.Assign [tg] e pos) (loS B (WL.aox ta g)):=PS.imp (ali n l t hw x) λD o H d=>by refine dU d λa F R q=>?_;have q:=Oq.ofR q;exact eh a F R (Rq.mono (av.refl _) q λw p v z y s f r=>aha a y w s r (Rq.mono f.f (Oq.ofR p) λm u h A C R2 j=>u _ _ _ R2 (f.f.trans j.f)))
def mr(E:X.K=B.K)(h:PS X st (sy (tBM X.K "list" nr (eF i) (gR (lo B ta) xE)))):PS X st (loS B (WL.aei i ta)):=PS.imp h λD n H o=>by refine dU o λc F R q=>?_;have q:Oq B D F (match c[i]? with|some (.ow ws)=>WL.ofR c (ta c) _|_=>.bad):=q;cases f:c[i]? with|none=>rw[f]at q;exact q.elim|some sl=>rw[f]at q;cases sl with|no|va _|od _ _|ob=>exact q.elim|ow ws=>
   refine oz (R.ow i ws f) λa r t A z m s=>?_;have q:=Oq.ofR q;refine⟨.ref a,t,.inl ⟨rfl,r,SqL.of m⟩,c,F,R,Rq.mono (av.refl _) q λw j v C u y d x=>?_⟩;by_cases l:ws.length<WL.lim;.rw[arj l]at j;have p:=d.h a _ m;exact ana a r v rfl rfl p (by rw[<-s.length];exact aro l eQ) (j n _ u (y.write f t (d.nf a _ m A) z p ((s.keep d.f).app (.one x))) d.f)
   .rw[arl l]at j;exact(j).elim
def iI(h:PS X st (loS B s1)):PS X st (loS B (WL.zt i s1)):=PS.imp h λD d H a=>by refine dU a λj F R q=>?_;refine ju (R.frz i) λc s f _=>?_;exact⟨_,c,f,Oq.mono s q⟩
def al6:∀D o H,loS B (WL.pP it g b) D o H->ap8 (loI B it) (loG false B g) (loS B b) D o H:=λD o H I=>by
 refine dU I λQ F R q=>?_;have q:=Oq.ofR q;refine eh Q F R (Rq.mono (av.refl _) q λh Y J H1 N U g1 wk=>?_);refine⟨λi m d x=>m=h.length-i/\i<=h.length/\∃j n,RS B j d n x/\av N n/\Oq B D n (WL.forL g b (h.drop i) j),⟨h.length,rfl,arZ _,Q,N,U,av.refl _,by rw[asJ];exact Oq.mono g1.f Y⟩,?_⟩;rintro i m d x⟨rfl,a0,j,n,C,G,r⟩;by_cases p:i<h.length;.have hd:=arF p;rw[hd]at r;obtain⟨go,S⟩:=wk.go i h[i] (art p) n x G C.rb.sub;refine .inr ⟨go,_,λa O h2=>⟨h.length-(i+1),by omega,rfl,p,h2⟩,λv O hy=>?_⟩;refine gb (S v O hy) λT K Z=>?_;have r:=Oq.ofR r;refine aha j T h[i] (K.rs _ _ _ C) Z (Rq.mono K.same r λz f M H3 P R3 g3=>?_);refine eh z P R3 ?_;have u:=K.same.trans g3.f;cases A:b z with|nx a|ct a=>rw[A]at f;exact λl E y t s=>⟨a,y,t,(G.trans u).trans s,Oq.mono (u.trans s) f⟩|bk a=>rw[A]at f;exact λl E y t s=>f l E y t (u.trans s)|rt w=>rw[A]at f;exact λv4 E y t s=>f v4 E y t (u.trans s)|ex c a=>rw[A]at f;exact B.mono c a n P u f|bad=>rw[A]at f;exact f
 .have ei:i=h.length:=by omega
  subst ei;rw[as2]at r;exact .inl ⟨wk.stop n x G C.rb.sub,r d x n C (av.refl _)⟩
def fG (d:PassesOwn (model X.prog X.w) X.A X.env X.xe)(a:X.calm=true)(j:PI X tg iter (loI B it))(f:PG X tg (loG false B g))(h:PSs X body (loS B b))(c:∀x,foldedSetIterable iter X.env x=pure x:=by intro _;rfl):PS X (.For tg iter body [] pos) (loS B (WL.pP it g b)):=PS.imp (xX d a j f h c) al6
end
def spW(K:W.Frag)(n:Nat)(f:List VW->Res VW):Sp:=λd H Q _=>∃F ws,av F H/\RWs K F ws d/\ws.length=n/\match f ws with|.ok w=>∀v c b,av F b->av b c->av H c->(∀a o,b a=some o->F a=some o\/H a=none/\NF o)->RW K b w v->Q v c|_=>False
section
variable{K:W.Frag}
theorem RS.start{N F H ws vs}(s:av F H)(r:RWs K F ws vs)(B:ws.length<=N.length):RS ⟨K,H,F,λ_ _ _=>False,λ_ _ _ _ _ h=>h⟩ (ws.map .va++List.replicate (N.length-ws.length) .no) (L2.start N vs) F H:=by
 have p:=r.length;have b:∀{i:Nat}{c:Sl},(ws.map Sl.va++List.replicate (N.length-ws.length) Sl.no)[i]?=some c->c≠.no->∃u,ws[i]?=some u/\c=.va u:=λ{i c}e A=>by grind
 refine⟨⟨s,av.refl _,av.refl _,λa o h=>.inl h⟩,by simp[L2.start,p],λi u e=>?_,λi d e=>?_,λi j d f a k g n _ _=>?_,λi t d e=>?_,λi j t d m f a k g n _ _=>?_,λi e=>?_⟩;rotate_left 3;.refine gb (b e (by intro z;cases z)) λx ex h=>?_;cases h
 .obtain⟨x,ex,h⟩:=b g (by intro z;cases z);cases h
 .obtain⟨x,ex,h⟩:=b e (by intro z;cases z);cases h
 .refine gb (b e (by intro z;cases z)) λx ex h=>?_;cases h;obtain⟨v,l,y⟩:=r.get ex;refine⟨v,?_,y⟩;have q:i<vs.length:=(ari.mp l).1;unfold L2.start;rw[arO (by simpa using q),arL,l];rfl
 .obtain⟨x,ex,h⟩:=b e (by intro z;cases z);cases h
 .obtain⟨x,ex,h⟩:=b g (by intro z;cases z);cases h
end
section
variable{X:Cx}{B:Bx}{k:Nat}{f:Addr}{fd:FuncData}{ps:List Str}{fn:List VW->Res VW}{x:Str}{p pos:Pos}{e:Expr}{es:List Expr}{tas:AF}{n:Nat}
def acV(M:X.K=B.K){E}(C:∀g ws,tas g=.ok ws->ws.length=n):∀b H Q,lo B (WL.az fn tas) b H Q->ahZ (spW X.K n fn) [] E (loA B tas) b H Q:=by intro b H Q⟨g,F,R,q⟩;have q:=Rq.bind q;refine eh g F R ?_;cases j:tas g with|bad|ex c=>rw[j]at q;exact q|ok ws=>rw[j]at q;intro P O A d J K;rw[ar2,M];refine ahb A ws d.rb.sub K (C g ws j) ?_;have i:Rq B g F (match fn ws with|.ok w=>.ok w|_=>.bad) _:=q;cases s:fn ws with
|bad|ex c=>rw[s]at i;exact i.elim
|ok w=>rw[s]at i;intro v r h u D t fr G;have y:Gr A _ h r:=⟨u,t,λa o N l=>by cases m:h a with|none=>rfl|some o2=>
  rcases fr a o2 m with z|z;.rw[l]at z;cases z
  .rw[N]at z;cases z.1⟩;have I:RB B h r:=⟨D,d.rb.base.trans t,d.rb.fz0.trans u,λa o m=>by
  rcases fr a o m with z|z;.exact d.rb.fr a o z
  .exact .inr ⟨d.rb.base.free z.1,z.2⟩⟩;exact i v r h (d.grow y I) (J.trans y) G
def vo(o:X.K=B.K)(F:FnOk X.prog X.w X.K X.mg X.base CX0 k f fd ps (spW X.K n fn))(m:Room k X.A)(g:Gl X x)(l:X.mg x=some (.ref f))(c:W.keepIn X.K (.ref f)=true)(h:Binds X.K fd ps [])(i:PA X (e::es) (loA B tas))(d:∀q ws,tas q=.ok ws->ws.length=n)(a:Dbg x:=by decide)(j:SE X e es:=by rfl)(b:BT X pos es:=by rfl):PE X (.Call (.Name x p) (e::es) [] pos) (lo B (WL.az fn tas)):=PE.imp (ack F m g l c h .nil aiq i a j b) (acV o d)
def aeB(l:X.K=B.K)(F:FnOk X.prog X.w X.K X.mg X.base CX0 k f fd ps (spW X.K 0 fn))(j:Room k X.A)(c:Gl X x)(g:X.mg x=some (.ref f))(b:W.keepIn X.K (.ref f)=true)(d:Binds X.K fd ps [])(a:Dbg x:=by decide):PE X (.Call (.Name x p) [] [] pos) (lo B (WL.az fn WL.au)):=PE.imp (afa F j c g b d .nil aiq a) λi H Q q=>by have h:=acV (E:=E0) l λm ws e=>by cases e;rfl _ H Q q;refine dU h λm F R h=>?_;exact h _ H F R Gr.refl (rfl)
def iu:∀a(ws:List VW),WL.au a=.ok ws->ws.length=0:=λa ws e=>by cases e;rfl
def de (h:∀a(ws:List VW),tas a=.ok ws->ws.length=n):∀a(ws:List VW),WL.ae t tas a=.ok ws->ws.length=n+1:=λa ws q=>by have q:(t a).bind _=.ok _:=q;cases d:t a with|bad|ex c=>rw[d]at q;cases q|ok x=>rw[d]at q;cases b:tas a with|bad|ex c=>rw[b]at q;cases q|ok xs=>rw[b]at q;cases q;simp[h a _ b]
end
def abz(K:W.Frag):Sp:=λd H Q _=>∃(a:Addr)(b:List Int),d=[.ref a]/\SqL K H a (b.map V.int)/\b.length<=63/\∀c,Q (.bl true) c
def amc{P w K i b k f g ps j}(G:FnOk P w K i b CX0 k f g ps (spW K 1 j))(h:∀d:List Int,d.length<=63->j [.lst (d.map .int)]=.ok (.bl true)):FnOk P w K i b CX0 k f g ps (abz K):=G.imp λn H Q E c=>by refine kU c λa d e l m q=>?_;subst e;refine⟨H,[.lst _],av.refl _,.one (by exact⟨a,_,rfl,l,RWs.ints _⟩),rfl,?_⟩;rw[h _ m];intro v o p _ _ _ _ r;subst r;exact q _
section
variable{X:Cx}{K:W.Frag}
def rP:∀a c,WL.af8 a≠.ex c:=λa c h=>by
 unfold WL.af8 at h;split at h;.split at h<;>cases h
 .cases h
theorem aee{F}:∀{xs vs b},RWs K F xs vs->WL.allB xs=some b->∃bs:List Bool,vs=bs.map V.bl/\bs.all id=b|[],vs,b,r,e=>by subst r;cases e;exact⟨[],rfl,rfl⟩|x::xs,vs,b,r,e=>by obtain⟨v,t,rfl,q,s⟩:=r;cases x with
 |bl k=>simp only[WL.allB]at e;cases a:WL.allB xs with|none=>rw[a]at e;cases e|some c=>rw[a]at e;cases e;obtain⟨bs,rfl,h⟩:=aee s a;subst q;exact⟨k::bs,rfl,by simp only[List.all_cons,id,h]⟩
 |_=>simp[WL.allB]at e
set_option tactic.hygienic true in
def w_all(i:X.calm=true)(j:X.K=K):ba X (.builtin "all") (loN K WL.af8):=by subst j;refine ba.imp (ad7 i) λo H Q g=>?_;refine l5 g λF ws s r q=>?_;cases e:WL.af8 _ with|bad|ex c=>rw[e]at q;exact q.elim|ok w=>
  rw[e]at q;unfold WL.af8 at e;split at e
  .split at e;.rename_i b k;cases e;obtain⟨v,rfl,h⟩:=bF r;refine l5 h λa n d m l=>?_;subst d;obtain⟨bs,rfl,f⟩:=aee l k;subst f;exact⟨a,bs,rfl,s.seq m,eq1 q (rfl)⟩
   .cases e
  .cases e
end
section
variable{X:Cx}{B:Bx}{K:W.Frag}{o e:Expr}{to:EF}{tas:AF}{pos apos cpos:Pos}
theorem uy:∀{ys:List VW}{x:VW}{j k:Nat}{n m:Nat},WL.okD n x=true->WL.lV m ys=true->WL.idx x j ys=some k->∃i,k=j+i/\aef (λz=>PyData.eqv z (toD x)) (oA ys) i|[],_,_,_,_,_,_,_,e=>by simp[WL.idx]at e|y::ys,x,j,k,n,m,hx,a,e=>by cases m with|zero=>cases a|succ m=>
   have a:=asr.mp a;simp only[WL.idx]at e;have f:=kJ m n y x a.1 hx;by_cases h:WL.eqv y x=true;.rw[arj h]at e;cases e;refine⟨0,rfl,⟨toD y,rfl,by show PyData.eqv (toD y) (toD x)=true;rw[f];exact h⟩,λm d g=>absurd g (Nat.not_lt_zero _)⟩
   .rw[arl h]at e;obtain⟨i,rfl,⟨d,p,r⟩,q⟩:=uy hx a.2 e;refine⟨i+1,by omega,⟨d,by simpa[oA]using p,r⟩,λb l g c=>?_⟩;cases b with|zero=>simp[oA]at c;subst c;show PyData.eqv (toD y) (toD x)=false;rw[f];simpa using h|succ b=>exact q b l (by omega) (by simpa[oA]using c)
set_option tactic.hygienic true in
def aeu{x:Expr}(t:X.K=B.K)(hu:X.A.units+64<cLine)(ho:PE X o (lo B to))(U:PA X [x] (loA B tas))(g:attributeBase o "index" X.env (eval o X.env)=eval o X.env:=by rfl)(j:((backTo cpos (starEach [x] X.env)).all (λx=>!x.1)&&(backToKw cpos (keywordEach [] X.env)).all (λx=>x.1.isSome)&&decide (([x]:List Expr).length+([]:List Keyword).length+(if([]:List Keyword).isEmpty then 0 else 1)<30))=true:=by rfl)(f:(apos.endLine==cpos.line)=true:=by rfl)(hs:starEach [x] X.env=(false,eval x X.env)::starEach [] X.env:=by rfl)(d:BT X cpos []:=by rfl):PE X (.Call (.Attribute o "index" apos) [x] [] cpos) (lo B (WL.rG "list" WL.pS to tas)):=PE.imp (i4 arS PySem.F.slot_list_index PySem.F.type_list_index acK ho U g j f hs d) λZ H Q r=>by obtain⟨p,F,R,q⟩:=r;have q:=Rq.bind q;refine⟨p,F,R,Rq.mono (av.refl _) q λw n v H1 T A D s=>?_⟩;cases w with
 |lst ys=>have n:=Rq.bind (show Rq B p F ((tas p).bind λws=>WL.pS (.lst ys) ws) _ from n);have y:=s;simp only[RW]at s;obtain⟨a,M,rfl,qa,ra⟩:=s;refine⟨.inl ⟨rfl,M,by rw[t];exact A.rb.sub.seq qa⟩,p,T,A,Rq.mono D.f n λws m us Y N R2 C P=>?_⟩;cases em:WL.pS (.lst ys) ws with
  |bad=>rw[em]at m;exact m.elim|ex c=>
    unfold WL.pS at em;split at em
    .split at em;.split at em<;>cases em
     .cases em
    .cases em|ok z=>
    rw[em]at m;unfold WL.pS at em;split at em
    .rename_i e1 e2 a0 E O;cases O;split at em
     .rename_i b;rw[ary,ary]at b;obtain⟨b,l⟩:=b;split at em
      .rename_i k J;cases em;obtain⟨u,rfl,S⟩:=bF P;obtain⟨i,G,fa⟩:=uy b.1 b.2 J;have G:k=i:=by omega
       subst G;have sub:=R2.rb.sub;have I:=RW.isD 51 (.lst ys) (.ref a) b.2 ((y.keep C.f).keep sub);have h:(oA ys).length<=1000000:=by rw[xx,arB];exact atH l
       refine⟨50,u,toD E,oA ys,k,rfl,by rw[t];exact RW.isD 50 E u b.1 (S.keep sub),by rw[t];exact I,by omega,fa,h,?_⟩;exact m (.int k) Y N R2 (D.trans C) (by simp[RW])
      .cases em
     .cases em
    .cases em
 |_=>exact(show False from n).elim
def adI{P w K l c x b st f g N ps k m}(u:Fun K x b st f g)(S:FnScope N ps (af st))(t:ps.length=m):FnOk P w K l c CX0 k f g ps (spW K m λ_=>.bad):=⟨λj H Q E a=>by refine kU a λ_ _ _ _ _ h=>?_;exact h.elim,λA d s H i n j Q E y p q v r a=>by refine kU a λ_ _ _ _ _ h=>?_;exact h.elim⟩
noncomputable def aga:List (EF×EF)->AF|[]=>WL.au|p::ps=>WL.ae p.1 (WL.ae p.2 (aga ps))
def PD(X:Cx)(B:Bx)(pos:Pos)(keys:List (Option Expr))(b:List Expr)(a:AF):Prop:=∃c:List (EF×EF),PPs X pos keys b (c.map λp=>(lo B p.1,lo B p.2))/\a=aga c
def akm:PD X B pos [] [] WL.au:=⟨[],aih,rfl⟩
def qf{k v:Expr}{ks:List (Option Expr)}{vs:List Expr}{tk tv:EF}{a:AF}(b:PE X k (lo B tk))(c:PE X v (lo B tv))(f:PD X B pos ks vs a):PD X B pos (some k::ks) (v::vs) (WL.ae tk (WL.ae tv a)):=by obtain⟨d,h,rfl⟩:=f;exact⟨(tk,tv)::d,ae1 b c h,rfl⟩
theorem yb{σ:Ws}{b:L2.St}:∀(ps:List (EF×EF)){F H:Hp}(R:RS B σ b F H){k:List VW->Prop}(q:Rq B σ F (aga ps σ) k){Q:List (V×V)->Hp->Prop}(c:∀ws a d f,k ws->RS B σ b d f->Gr F H d f->RWs B.K d ws (a.flatMap λp=>[p.1,p.2])->Q a f),xD (ps.map λp=>(lo B p.1,lo B p.2)) b H Q|[],F,H,R,k,q,Q,c=>c [] [] F H q R Gr.refl (by simp[RWs])|p::ps,F,H,R,k,q,Q,c=>by have q:=Rq.bind (show Rq B σ F ((p.1 σ).bind λx=>(WL.ae p.2 (aga ps) σ).bind λu=>.ok (x::u)) k from q);refine⟨σ,F,R,Rq.mono (av.refl _) q λx h n G w t l D=>?_⟩;have h:=Rq.bind (Rq.bind h);refine⟨σ,w,t,Rq.mono l.f h λy g m f d R2 j v=>?_⟩;have g:=Rq.bind g;refine yb ps R2 (Rq.mono (l.f.trans j.f) g λ_ z=>z) λws a r A s C i E=>?_;refine c (x::y::ws) ((n,m)::a) r A s C ((l.trans j).trans i) ?_;show RWs B.K r (x::y::ws) (n::m::a.flatMap λp=>[p.1,p.2]);exact .cons ((D.keep j.f).keep i.f) (.cons (v.keep i.f) E)
theorem sA{F:Hp}:∀{ws ks vs:List VW}{a:List (V×V)},WL.jD ws=some (ks,vs)->RWs K F ws (a.flatMap λp=>[p.1,p.2])->∃b:List (Key×V),a=b.map (λd=>(kV d.1,d.2))/\RWs K F ks (b.map λp=>kV p.1)/\RWs K F vs (b.map λp=>p.2)
|[],ks,vs,a,e,r=>by simp only[WL.jD]at e;cases e;cases a with|nil=>exact⟨[],rfl,by simp[RWs],by simp[RWs]⟩|cons p a=>simp[RWs]at r
|[w],ks,vs,a,e,r=>by cases w<;>simp[WL.jD]at e|w::u::ws,ks,vs,a,e,r=>by cases w with
 |str k=>simp only[WL.jD]at e;cases c:WL.jD ws with|none=>rw[c]at e;cases e|some p=>rw[c]at e;cases e;cases a with|nil=>simp[RWs]at r|cons pv a=>obtain⟨i,f⟩:=pv;have r:RWs K F (.str k::u::ws) (i::f::a.flatMap λp=>[p.1,p.2]):=r;simp only[RWs]at r;obtain⟨v,t,m,g,q,s,n,h,r⟩:=r;cases m;cases n;obtain⟨b,rfl,l,j⟩:=sA c r;simp only[RW]at g;subst g;exact⟨(Sum.inr k,f)::b,rfl,.cons (by simp[RW,kV]) l,.cons h j⟩
 |_=>simp[WL.jD]at e
theorem nN:∀(kvs a:List (Key×V)),(∀p∈kvs,qh a p.1=none)->kvs.Pairwise (λp q=>p.1≠q.1)->jP a kvs=a++kvs
|[],a,_,_=>by simp[jP]|p::kvs,a,h,hp=>by
 rw[List.pairwise_cons]at hp;show jP (putK a p.1 p.2) kvs=_;rw[aeY _ (h p (by simp)),nN kvs _ (λq b=>?_) hp.2];.simp
 .rw[sf _ _ _ _ (h p (by simp)),arl (arz (hp.1 q b))];exact h q (by simp[b])
theorem yW{F:Hp}:∀{ks:List VW}{kvs:List (Key×V)},WL.fU ks=true->RWs K F ks (kvs.map λp=>kV p.1)->kvs.Pairwise λp q=>p.1≠q.1
|[],kvs,_,r=>by cases kvs with|nil=>exact .nil|cons p kvs=>simp[RWs]at r
|w::ks,kvs,h,r=>by cases kvs with|nil=>simp[RWs]at r|cons p kvs=>simp only[arv,RWs]at r;obtain⟨v,t,e,q,r⟩:=r;cases e;cases w with
 |str k=>
  simp only[WL.fU,ary]at h;refine List.pairwise_cons.mpr ⟨λg d=>?_,yW h.2 r⟩;simp only[RW]at q;intro z;rw[z]at q;have f:∃w∈ks,RW K F w (kV g.1):=by have:kV g.1∈kvs.map λp=>kV p.1:=arC.mpr ⟨g,d,rfl⟩;obtain⟨i,n,m⟩:=List.getElem_of_mem this;obtain⟨w,c,l⟩:=RWs.get' r (art n);rw[m]at l;exact⟨w,atV c,l⟩
  obtain⟨w,hw,a⟩:=f;rw[q]at a;have c:=h.1;simp only[Bool.not_eq_true',List.any_eq_false]at c;have:=c w hw;cases w with|str y=>simp only[RW]at a;cases a;simp at this|non=>simp[RW]at a|bl b=>simp[RW]at a|int i=>simp[RW]at a|ty i=>simp[RW]at a|tup i=>simp[RW]at a|lst i=>simp[RW]at a|dic i j=>simp[RW]at a|cls i=>simp[RW]at a|exc i j=>simp[RW]at a|ins i j=>simp[RW]at a|id i=>simp[RW]at a
 |_=>simp[WL.fU]at h
def agU{F}:∀k u,WL.rM k [] []=some u->∃v,List.lookup k []=some v/\RW K F u v:=λk u h=>by simp[WL.rM]at h
def ia{F x b a}{ks vs:List VW}{kvs}(d:RW K F b a)(h:∀k u,WL.rM k ks vs=some u->∃v,kvs.lookup k=some v/\RW K F u v):∀k u,WL.rM k (.str x::ks) (b::vs)=some u->∃v,List.lookup k ((x,a)::kvs)=some v/\RW K F u v:=λk u e=>by
 simp only[WL.rM]at e;by_cases f:x=k;.subst f;simp at e;subst e;exact⟨a,by simp,d⟩
 .obtain⟨v,g,c⟩:=h k u (by grind);exact⟨v,by grind,c⟩
def aki{a i f a0 kvs}{ks vs:List VW}(A:X.K=B.K)(l:PE X a (tC (.ref a0)))(D:aeg X.w X.K a0 kvs)(x:PE X i (lo B f))(p:∀F k w,WL.rM k ks vs=some w->∃v,kvs.lookup k=some v/\RW B.K F w v)(s:kT i):PE X (.Subscript a i pos) (lo B (WL.eOp WL.oIx (WL.eC (.dic ks vs)) f)):=PE.imp (ail (afx D) l x s) λn H Q d=>by refine dU d λc F R q=>?_;have q:=Rq.bind (show Rq B c F ((f c).bind _) _ from q);refine eh c F R (Rq.mono (av.refl _) q λy b v h g r j m=>?_);cases y with
 |str k=>have b:Rq B c F (WL.ofO _) _:=b;cases e:WL.rM k ks vs with|none=>rw[e]at b;exact b.elim|some w=>rw[e]at b;refine gb (p g k w e) λu t z=>?_;exact⟨rfl,k,u,m,t,b u h g r j z⟩
 |_=>exact(b).elim
end
end WS
set_option autoImplicit true
set_option relaxedAutoImplicit true
namespace WS
open PySem PySem.Spec PyProof.Rows L2
open WL(Res Sl Ws EF TF AF LF GF GsF SF Out OX RF Rn AXF)
def AX(F:Hp)(nm:String)(dx:DX):Prop:=WL.fieldsOf nm=[]\/nm="Broken"\/dx.2.2=.none/\∃a y,dx.2.1=.ref a/\F a=some (.tup [.str y])/\y.length<=50000
def AX.via{F c nm dx}(h:AX F nm dx)(k:∀a b,F a=some (.tup b)->c a=some (.tup b)):AX c nm dx:=h.imp id λh=>h.imp id λ⟨g,e,y,d,i,f⟩=>⟨g,e,y,d,k _ _ i,f⟩
def XR(K:W.Frag)(F:Hp):VW->Addr->DX->Prop|.exc nm fs,C,dx=>ExcAt K nm C/\∃a:List (Str×V),a.map (·.1)=WL.fieldsOf nm/\RWs K F fs (a.map (·.2))/\(a=[]/\dx.1=none\/∃d,dx.1=some d/\F d=some (.xd a))/\AX F nm dx|_,_,_=>False
theorem XR.keep{K F b}(s:av F b){c C dx}(h:XR K F c C dx):XR K b c C dx:=by cases c with|exc nm fs=>obtain⟨k,i,m,l,f,e⟩:=h;exact⟨k,_,m,l.keep s,f.imp (λz=>z) λa=>by obtain⟨d,g,j⟩:=a;exact⟨d,g,s _ _ j⟩,e.via λ_ _ z=>s _ _ z⟩|_=>exact h
def XR.is{K F c C dx}(h:XR K F c C dx):∃nm fs,c=.exc nm fs/\ExcAt K nm C:=by cases c with|exc nm fs=>exact⟨nm,fs,rfl,h.1⟩|_=>exact h.elim
def XW(X:Cx)(B:Bx):Prop:=∀(b:List (Addr×Obj))(a:L2.St)(H:Hp)(s:Shared)(f:Ws)(F:Hp)(c:VW),RS B f a F H->B.xp c f F->∀(e C:Addr)(d:DX)(T:Option Addr)(g:Value),Thr X b a H s e C d g T->XR X.K F c C d->X.xe (.ref e) s
abbrev Bx.oE(B:Bx)(a:VW->Ws->Hp->Prop)(mono:∀c d F b,av F b->a c d F->a c d b):Bx:=⟨B.K,B.H0,B.F0,a,mono⟩
abbrev Bx.never(B:Bx):Bx:=B.oE (λ_ _ _=>False) λ_ _ _ _ _ h=>h
def qb (h:∀c a F,¬B.xp c a F):XW X B:=λ_ _ _ _ a F c _ q=>(h c a F q).elim
section
variable{B B':Bx}{σ:Ws}{σV:L2.St}{F H:Hp}
def RB.box(R:RB B F H)(c:B'.H0=B.H0)(b:B'.F0=B.F0):RB B' F H:=⟨R.sub,c▸R.base,b▸R.fz0,λa o e=>by rw[c,b];exact R.fr a o e⟩
theorem RS.box(R:RS B σ σV F H)(b:B'.K=B.K)(a:B'.H0=B.H0)(c:B'.F0=B.F0):RS B' σ σV F H:=⟨R.rb.box a c,R.len,λi w e=>by rw[b];exact R.va i w e,λi ws e=>by rw[b,a];exact R.ow i _ e,R.ap,by rw[b,a];exact R.dd⟩
end
section
variable{X:Cx}{B:Bx}{k:Nat}{f:Addr}{fd:FuncData}{ps:List Str}{fn:List VW->Res VW}{x:Str}{p pos:Pos}{e:Expr}{es:List Expr}{tas:AF}{n:Nat}{st:Stmt}
def spX(K:W.Frag)(n:Nat)(f:List VW->Res VW):Sp:=λh H Q E=>∃F ws,av F H/\RWs K F ws h/\ws.length=n/\match f ws with|.ok w=>∀v d b,av F b->av b d->av H d->(∀a o,b a=some o->F a=some o\/H a=none/\NF o)->RW K b w v->Q v d|.ex c=>∀C g d b,av F b->av b d->av H d->(∀a o,b a=some o->F a=some o\/H a=none/\NF o)->XR K b c C g->E (.ref C) g d|.bad=>False
def RS.ext3{σ i d c b h}(j:RS B σ i d c)(r:av d b)(s:av b h)(q:av c h)(fr:∀a o,b a=some o->d a=some o\/c a=none/\NF o):Gr d c b h/\RS B σ i b h:=by
 have g:Gr d c b h:=⟨r,q,λa o t l=>by cases m:b a with|none=>rfl|some o2=>
  rcases fr a o2 m with z|z;.rw[l]at z;cases z
  .rw[t]at z;cases z.1⟩;exact⟨g,j.grow g ⟨s,j.rb.base.trans q,j.rb.fz0.trans r,λa o m=>(fr a o m).elim (λz=>j.rb.fr a o z) λz=>.inr ⟨j.rb.base.free z.1,z.2⟩⟩⟩
def qp{σ b F H l o ws vs us Q}(K:X.K=B.K)(S:XW X B)(A:RS B σ b l o)(g:Gr F H l o)(r:RWs B.K l ws vs)(O:ws.length=n)(q:Rq B σ F (fn ws) λw=>∀v h I,RS B σ b I h->Gr F H I h->RW B.K I w v->Q v h)(M:us=vs):∃E:XK,spX X.K n fn us o Q E/\∀a s e C i T h,Thr X a b h s e C i .none (some T)->E (.ref C) i h->X.xe (.ref e) s:=by
 rw[K,M];refine⟨λC i m=>∃u d c,C=.ref u/\RS B σ b d m/\B.xp c σ d/\XR B.K d c u i,⟨l,ws,A.rb.sub,r,O,?_⟩,λa s e C i T h t⟨u,d,c,P,R2,R,G⟩=>?_⟩;.cases y:fn ws with|bad=>rw[y]at q;exact q.elim|ok w=>rw[y]at q;intro v m d j z D fr N;obtain⟨J,R2⟩:=A.ext3 j z D fr;exact q v m d R2 (g.trans J) N|ex c=>rw[y]at q;intro C i m d j z D fr G;obtain⟨J,R2⟩:=A.ext3 j z D fr;exact⟨C,d,c,rfl,R2,B.mono c σ F d (g.f.trans j) q,G⟩
 .cases P;exact S a b h s σ d c R2 R e C i (some T) _ t (by rw[K];exact G)
def afp(l:X.K=B.K)(j:XW X B)(g:∀b ws,tas b=.ok ws->ws.length=n):∀a H Q,lo B (WL.dk fn tas) a H Q->abp X (spX X.K n fn) [] (loA B tas) a H Q:=by intro a H Q⟨b,F,R,q⟩;have q:=Rq.bind q;refine eh b F R ?_;cases d:tas b with|bad|ex c=>rw[d]at q;exact q|ok ws=>rw[d]at q;exact λs o r m h i=>qp l j m h i (g b ws d) q (ar2 _)
def aeA(q:X.K=B.K)(l:XW X B)(F:FnOk X.prog X.w X.K X.mg X.base (CXX X.prog X.w) k f fd ps (spX X.K n fn))(o:Room k X.A)(g:Gl X x)(m:X.mg x=some (.ref f))(c:W.keepIn X.K (.ref f)=true)(h:Binds X.K fd ps [])(i:PA X (e::es) (loA B tas))(d:∀r ws,tas r=.ok ws->ws.length=n)(a:Dbg x:=by decide)(j:SE X e es:=by rfl)(b:BT X pos es:=by rfl):PE X (.Call (.Name x p) (e::es) [] pos) (lo B (WL.dk fn tas)):=PE.imp (qK F o g m c h .nil i a j b) (afp q l d)
def eJ:PS X st (loS B WL.lT):=λb s c H D I a=>by obtain⟨d,F,R,q⟩:=a;exact(q).elim
theorem Oq.box  (g:B'.K=B.K)(d:B'.H0=B.H0)(b:B'.F0=B.F0)(l:∀c a,o=.ex c a->B'.xp c a F)(h:Oq B D F o):Oq B' D F o:=by cases o with|nx a|bk a|ct a=>exact λm j i R s=>h _ _ _ (R.box g.symm d.symm b.symm) s|rt w=>exact λv j i R s r=>h v _ _ (R.box d.symm b.symm) s (by grind)|ex c a=>exact l c a rfl|bad=>exact h
def Oq.aq2{f:VW->Ws->Out}(g:B'.K=B.K)(d:B'.H0=B.H0)(b:B'.F0=B.F0)(i:∀c a,Oq B D F (f c a)->B'.xp c a F)(h:Oq B D F (match o with|.ex c a=>f c a|o=>o)):Oq B' D F o:=by cases o with|ex c a=>exact i c a h|_=>exact Oq.box g d b (λ_ _ z=>by cases z) h
end
section
variable{P:Program}{w:World}{K:W.Frag}{mg:Str->Option Value}{base:Heap}
def rH{x a st f I N ps k m n}{C:List VW->Res VW}(t)(R:Fun K x a st f I)(S:FnScope N ps (af st))(J:N.length=n)(g:ps.length=m)(o:WL.run n t=C)(T:ps.length<=N.length)(h:∀d A b s H E B,B.K=K->Room k (A.deeper (envOfC a (af st) s.heap.objs.size f d))->XW (dG CX0 P w K mg base N a (af st) f d A b s H E).nox B->PassesOwn (model P w) (A.deeper (envOfC a (af st) s.heap.objs.size f d)) (envOfC a (af st) s.heap.objs.size f d) (λ_ _=>False)->PSs (dG CX0 P w K mg base N a (af st) f d A b s H E).nox (aD st) (loS B t)):FnOk P w K mg base CX0 (k+1) f I ps (spW K m C):=by subst J g o;refine R.ok S (λM H Q E i=>by refine kU i λF ws _ r D _=>?_;rw[<-r.length];exact D) λd A b s H M Q E U i=>?_;refine kU i λF ws O r D g=>?_;refine⟨_,h d A b s H E _ rfl U (qb λ_ _ _ z=>z) PassesOwn.never,_,F,RS.start O r (by omega),?_⟩;unfold WL.run at g;cases e:t _ with|rt w=>rw[e]at g;exact λv q y p l j=>g v q y l p.sub p.base p.fr j|nx σ'=>rw[e]at g;exact λG q y u l=>g .non q y l u.rb.sub u.rb.base u.rb.fr (rfl)|bk σ'|ct σ'|ex c σ'|bad=>rw[e]at g;exact g.elim
def ajg{x b st f X N ps k m n}{M:List VW->Res VW}(t)(Fn:Fun K x b st f X)(S:FnScope N ps (af st))(hn:N.length=n)(g:ps.length=m)(D:WL.run n t=M)(a0:ps.length<=N.length)(h:∀d A a s H E B,B.K=K->Room k (A.deeper (envOfC b (af st) s.heap.objs.size f d))->XW (dG (CXX P w) P w K mg base N b (af st) f d A a s H E) B->PassesOwn (model P w) (dG (CXX P w) P w K mg base N b (af st) f d A a s H E).A (dG (CXX P w) P w K mg base N b (af st) f d A a s H E).env (dG (CXX P w) P w K mg base N b (af st) f d A a s H E).xe->PSs (dG (CXX P w) P w K mg base N b (af st) f d A a s H E) (aD st) (loS B t)):FnOk P w K mg base (CXX P w) (k+1) f X ps (spX K m M):=by subst hn g D;refine age Fn.ex λoc od kV a1 pm an d ct a3 y lk G=>?_;subst y;refine uD lk G S (λvs H Q E p=>by refine kU p λF ws _ r O _=>?_;rw[<-r.length];exact O) λA a s H vs Q E hr _ p=>?_;refine kU p λF ws sm r O g=>?_;let Y:Bx:=⟨K,H,F,λ_ _ _=>False,λ_ _ _ _ _ h=>h⟩;let B1:Bx:=Y.oE (λc _ u=>∀C l j i,av u i->RB Y i j->XR K i c C l->E (.ref C) l j) λc σ u F2 s h C l j i o=>h C l j i (s.trans o);refine⟨_,h d A a s H E B1 rfl hr (λU a2 Z s1 σ u c R1 xp e C l T fl t I=>jb t (xp C l Z u (av.refl _) (R1.rb.box rfl rfl) I)) asU,_,F,(RS.start sm r (by omega)).box rfl rfl rfl,?_⟩;unfold WL.run at g;cases e:t _ with|rt w=>rw[e]at g;exact λv j i q o z=>g v j i o q.sub q.base q.fr z|nx σ'=>rw[e]at g;exact λR j i J o=>g .non j i o J.rb.sub J.rb.base J.rb.fr (rfl)|bk σ'|ct σ'=>rw[e]at g;exact g.elim|ex c σ'=>rw[e]at g;exact λC l j i o q I=>g C l j i o q.sub q.base q.fr I|bad=>rw[e]at g;exact g.elim
end
def ou:bootBuiltins "ValueError"=some (.type "ValueError"):=by decide+kernel
structure Exc1(K:W.Frag)(FE Ca:Addr):Prop where
 ty:W.typeIn K (.ref Ca)=some (.type "type")mro:(W.clsIn K Ca).map (·.mro)=some (.ref Ca::gf)/\Ca=FE\/(W.clsIn K Ca).map (·.mro)=some (.ref Ca::.ref FE::gf)ga:W.findIn K (.ref Ca) "__getattribute__"=some (some (.builtin "BaseException.__getattribute__"))gn:W.findIn K (.ref Ca) "__getattr__"=some none
 cl:W.findIn K (.ref Ca) "__class__"=some (some (.builtin "object.__class__"))
structure ExcAll(K:W.Frag):Prop where
 k:∀nm Ca,ExcAt K nm Ca->ExcK K Ca
 is:∀nm Ca d D,ExcAt K nm Ca->ExcAt K d D->W.kitOne K (.ref Ca) (.ref D)=some (WL.pq nm d)ve:∀nm Ca,ExcAt K nm Ca->W.kitOne K (.ref Ca) (.type "ValueError")=some true
 ex:∀nm Ca d D,ExcAt K nm Ca->ExcAt K d D->W.exmOne K (.ref Ca) (.ref D)=some (WL.pq nm d)
def all_nil{α:Type}{P:α->Prop}:∀p∈[],P p:=λ_ h=>nomatch h
def all_cons{α:Type}{P:α->Prop}{a l}(h:P a)(t:∀p∈l,P p):∀p∈a::l,P p:=λp b=>(arx.mp b).elim (λe=>e▸h) (t p)
section
variable{K:W.Frag}{FE:Addr}{tab:List (String×Addr)}
theorem mE:∀{tab:List (String×Addr)},(tab.map (·.1)).Nodup->(tab.map (·.2)).Nodup->∀p∈tab,∀q∈tab,p.1=q.1↔p.2=q.2
|[],_,_,p,hp,_,_=>nomatch hp|a::l,h1,h2,p,hp,q,hq=>by
 rw[arv,asM]at h1 h2;rcases arx.mp hp with z|c<;>rcases arx.mp hq with y|b;.rw[z,y];exact⟨λ_=>rfl,λ_=>rfl⟩
 .subst z;exact⟨λe=>absurd (e▸atp b) h1.1,λe=>absurd (e▸atp b) h2.1⟩
 .subst y;exact⟨λe=>absurd (e▸atp c) h1.1,λe=>absurd (e▸atp c) h2.1⟩
 .exact mE h1.2 h2.2 p c q b
def adx(r:("FloorError",FE)∈tab)(q:∀p∈tab,W.nsIn K mainGlobals (Str.ofString p.1)=some (some (.ref p.2))/\Exc1 K FE p.2)(x:∀nm∈WL.rA,nm∈tab.map (·.1)\/W.nsIn K mainGlobals (Str.ofString nm)=some none)(l:(tab.map (·.1)).Nodup)(n:(tab.map (·.2)).Nodup)(v:W.specialIn K (.builtin "object.__class__") "__get__"=some (some (.builtin "getset_descriptor.__get__")))(o:W.takesIn K (.builtin "object.__class__")=some true):ExcAll K:=by
 have b:∀nm a,ExcAt K nm a->(nm,a)∈tab/\Exc1 K FE a:=λnm a⟨f,c⟩=>by grind
 have k:∀nm a,ExcAt K nm a->∃i,W.clsIn K a=some i/\(i.mro=.ref a::gf/\a=FE\/i.mro=.ref a::.ref FE::gf):=λnm a h=>by
  rcases(b nm a h).2.mro with⟨e,z⟩|e;.obtain⟨i,f,c⟩:=arP.mp e;exact⟨i,f,.inl ⟨c,z⟩⟩
  .obtain⟨i,f,c⟩:=arP.mp e;exact⟨i,f,.inr c⟩
 have j:∀nm a T,ExcAt K nm a->Value.type T∈gf->W.mroIn K a (.type T)=some true:=λnm a T h s=>by
  obtain⟨i,f,c⟩:=k nm a h;unfold W.mroIn;rw[f,atl];rcases c with⟨c,_⟩|c<;>rw[c]<;>simp only[aur,asq,atb,Option.some.injEq,List.contains_eq_mem,asV,arx];.exact .inr (by simpa using s)
  .exact .inr (.inr (by simpa using s))
 have sub:∀nm a d D,ExcAt K nm a->ExcAt K d D->W.mroIn K a (.ref D)=some (WL.pq nm d):=λnm a d D h g=>by
  refine gb (k nm a h) λi f c=>?_;have t:=mE l n _ (b nm a h).1 _ (b d D g).1;have u:=mE l n _ r _ (b d D g).1;have w:=mE l n _ r _ (b nm a h).1;dsimp only at t u w;unfold W.mroIn;rw[f,atl];have e:WL.pq nm d=decide (a=D\/FE=D):=by unfold WL.pq;rw[asn];simp only[at0,asB,asV];exact or_congr t (by rw[eq_comm];exact u)
  rw[e];rcases c with⟨c,z⟩|c<;>rw[c]<;>simp only[aur,asq,atb,Option.some.injEq,List.contains_eq_mem];.subst z;congr 1;simp[eq_comm]
  .congr 1;simp[eq_comm]
 have cls:∀nm a d D,ExcAt K nm a->ExcAt K d D->W.kitCls K (.ref a) (.ref D)=some (WL.pq nm d):=λnm a d D h g=>by obtain⟨i,f,_⟩:=k d D g;unfold W.kitCls;dsimp only;rw[arj (by rw[f,(b d D g).2.ty];rfl)];exact sub nm a d D h g
 refine⟨λnm a h=>?_,λnm a d D h g=>?_,λnm a h=>?_,λnm a d D h g=>?_⟩;.obtain⟨i,f,_⟩:=k nm a h;have m:=(b nm a h).2;exact⟨by rw[f];rfl,m.ga,m.gn,j nm a _ h (by simp),j nm a _ h (by simp),m.cl,v,o⟩
 .unfold W.kitOne;by_cases e:(Value.ref a==Value.ref D)=true;.rw[arj e];have e:=Value.ref.inj (asB.mp e);subst e;have:=(mE l n _ (b nm a h).1 _ (b d a g).1).mpr rfl;dsimp only at this;subst this;simp[WL.pq]
  .rw[arl e];exact cls nm a d D h g
 .unfold W.kitOne;rw[arl (by intro z;cases asB.mp z)];unfold W.kitCls;dsimp only;rw[arj (by decide+kernel)];exact j nm a _ h (by simp)
 .unfold W.exmOne;rw[arj (by rw[show W.subIn K (.ref D) (.type "BaseException")=W.mroIn K D (.type "BaseException")from rfl,j d D _ g (by simp)];rfl)];exact cls nm a d D h g
end
section
variable{X:Cx}{K:W.Frag}
def adu{F H:Hp}{a C:Addr}{dx:DX}{b:List (Str×V)}{pins:List (Addr×Obj)}{σ:L2.St}{s:Shared}(I:Inv X pins σ H s)(i:av F H)(k:F a=some (.ext (excAt a C dx)))(n:b=[]/\dx.1=none\/∃d,dx.1=some d/\F d=some (.xd b)):∃j od,W.InstAt s.heap a j C od/\j.dict=dx.1:=by
 obtain⟨⟨f,o,h,g,e,l⟩,_⟩:=I.hok a _ (i _ _ k);have c:W.notCls f=true:=by unfold W.notCls;rw[l.1]
 rcases n with⟨_,z⟩|⟨d,z,q⟩;.exact⟨f,none,⟨h,g,c,by rw[e,z];trivial⟩,e⟩
 .obtain⟨od,m⟩:=i6 (I.hok d _ (i _ _ q));exact⟨f,some od,⟨h,g,c,by rw[e,z];exact m⟩,e⟩
set_option tactic.hygienic true in
def vq(J:X.K=K)(k:ExcAll X.K):ba X (.builtin "isinstance") (loN K WL.yV):=by
 subst J;intro c s P H R A Q I r⟨F,ws,p,f,q⟩;have go:∀nm fs i b,ws=[.exc nm fs,i]->WL.yV ws=.ok (.bl b)->(∀C v,ExcAt X.K nm C->RW X.K F i v->∀u,RelV v u->W.kitOne X.K (.ref C) u=some b)->wpAny (model X.prog X.w) X.A (call (.builtin "isinstance") A) (EP X c P Q) X.xe s:=λnm fs i b M n o=>by subst M;rw[n]at q;obtain⟨v,O,rfl,h,N⟩:=two_of f;obtain⟨u,G,rfl,E,y⟩:=vals2 r;simp only[RW]at h;obtain⟨a,C,S,rfl,x,l,t,_,_,B⟩:=h;obtain⟨w,od,T,_⟩:=adu I p x B;cases show u=Value.ref a from E;have fin:Q (.bl b) H:=eq1 q (by simp[RW]);exact asA (afw (k.k nm C l)) I.kIn ⟨w,od,T⟩ (o C O l N G y) (λz=>nomatch z) λtk=>⟨.bl b,H,I.tok tk,rfl,fin⟩
 unfold WL.yV at q;split at q;.rename_i nm fs d;exact go nm fs (.cls d) _ rfl rfl λC v j e u g=>by simp only[RW]at e;obtain⟨D,rfl,m⟩:=e;cases show u=Value.ref D from g;exact k.is nm C d D j m
 .rename_i nm fs;exact go nm fs (.ty "ValueError") _ rfl rfl λC v j e u g=>by simp only[RW]at e;subst e;cases show u=Value.type "ValueError"from g;exact k.ve nm C j
 .exact q.elim
def gF:∀a c,WL.yV a≠.ex c:=λa c h=>by unfold WL.yV at h;split at h<;>cases h
end
section
variable{B:Bx}{σ:Ws}{σV:L2.St}{F H:Hp}
def RS.akN(R:RS B σ σV F H)(i:Nat):RS B (σ.set i .no) (σV.set i none) F H:=by
 have s:=R.len;have b:∀{j:Nat}{w:Sl},(σ.set i .no)[j]?=some w->w≠.no->i≠j:=λ{j w}e n z=>by
  subst z;have t:i<σ.length:=by have:=(ari.mp e).1;simpa using this
  rw[ark t]at e;cases e;exact n rfl
 refine⟨R.rb,by simp[s],λj u e=>?_,λj ws e=>?_,λj k ws f a d g c m l=>?_,R.ajS i (sl:=.no) (λz=>z) _ (av.refl _) λ_ _ _ _ _ _ _ _ r o=>⟨o,r⟩⟩;.have h:=b e (by intro z;cases z);rw[arh h]at e⊢;exact R.va j u e
 .have h:=b e (by intro z;cases z);rw[arh h]at e⊢;exact R.ow j ws e
 .have p:=b g (by intro z;cases z);have q:=b c (by intro z;cases z);rw[arh p]at g m;rw[arh q]at c l;exact R.ap j k ws f a d g c m l
end
section
variable{X:Cx}{B:Bx}{x n:Str}{pos np hpos:Pos}
def xj{y g:List Stmt}{b0:Stmt}{C:Addr}{d:String}{i:Nat}{tb th:SF}(hK:X.K=B.K)(hs:X.stack=X.env::X.outer)(hf:X.env.frame=some X.env.locals)(hN:X.N.Nodup)(hi:X.N[i]?=some n)(hl:X.env.scope.names.lookup n=some .local)(hg:Gl X x)(hm:X.mg x=some (.ref C))(hc:∀nm Ca,ExcAt X.K nm Ca->W.exmOne X.K (.ref Ca) (.ref C)=some (WL.pq nm d))(hb:∀(E:Value->Shared->Prop)(pn:List (Addr×Obj))(B':Bx),B'.K=X.K->XW (X.tri E pn) B'->PassesOwn (model X.prog X.w) X.A X.env E->PSs (X.tri E pn) y (loS B' tb))(hh:∀(e:Addr)(B':Bx),B'.K=X.K->XW (X.sui e) B'->PSs (X.sui e) (b0::g) (loS B' th))(hd:Dbg x:=by decide):PS X (.Try y [.ExceptHandler (some (.Name x np)) (some n) (b0::g) hpos] [] [] pos) (loS B (WL.sV tb d i th)):=by
 intro a s a5 H D I⟨σ,F,R,q⟩;refine wpAny_Try_except ?_;let E':Value->Shared->Prop:=λe Y=>wpAny (model X.prog X.w) X.A (noteFrame e X.env) (λ_ a1=>wpAny (model X.prog X.w) X.A (setFlight e none) (λ_ a0=>wpAny (model X.prog X.w) X.A (handleBy e X.env [.ExceptHandler (some (.Name x np)) (some n) (b0::g) hpos]) (SP X a D) X.xe a0) X.xe a1) X.xe Y;let B1:Bx:=B.oE (λc b N=>Oq B D N (WL.nY d i th c b)) λc b N a6 s h=>Oq.mono s h;have xw:XW (X.tri E' (X.pn++a)) B1:=by
  intro a3 m H1 s1 j G c R1 f e p K T Q t xr;have t2:Thr X a m H1 s1 e p K Q T:=t.iS;obtain⟨nm,fs,rfl,ce⟩:=xr.is;have f:Oq B D G (WL.nY d i th (.exc nm fs) j):=f;have ex:=hc nm p ce
  cases A:WL.pq nm d with|false=>
   have:WL.nY d i th (.exc nm fs) j=.bad:=by simp[WL.nY,WL.jk,A]
   rw[this]at f;exact f.elim|true=>
   have hO:WL.nY d i th (.exc nm fs) j=match th (j.set i (.va (.exc nm fs)))with|.nx σ2=>.nx (σ2.set i .no)|.rt w=>.rt w|_=>.bad:=by unfold WL.nY;rw[show WL.jk d (.exc nm fs)=true from A];rfl
   rw[hO]at f;rw[A]at ex;refine t2.note hs hf λh' T' _ t3=>t3.uH λa7 t4=>adi t4 hg hm ex (λh3 t5=>?_) hd;have J:=t5.known;have he:H1 e=none:=t5.fe.1;have U:RS B j m G H1:=R1.box rfl rfl rfl;have R2:=U.new he (.ext (excAt e p K));have hF:G e=none:=U.rb.sub.free he;have sF:av G (upd G e (.ext (excAt e p K))):=ay hF _;have a4:RW B.K (upd G e (.ext (excAt e p K))) (.exc nm fs) (.ref e):=by obtain⟨z1,a2,z2,z3,z4⟩:=xr.keep sF;simp only[RW];rw[<-hK];exact⟨e,p,K,rfl,aj,z1,a2,z2,z3,z4.1⟩
   let B2:Bx:=B.never;have P:=hh e B2 hK.symm (qb λ_ _ _ z=>z);let D2:Ends:=⟨λk l=>D.nx (k.set i none) l,D.rt,λ_ _=>False,λ_ _=>False⟩;refine jC (X:=X.sui e) (J.sui e) hN hi (Or.inl hl) (v:=.ref e) (u:=.ref e) rfl (λs2 J2 _=>?_) (Or.inr hl);have R3:RS B2 (j.set i (.va (.exc nm fs))) (m.set i (some (.ref e))) (upd G e (.ext (excAt e p K))) (upd H1 e (.ext (excAt e p K))):=(R2.set (i:=i) a4).box rfl rfl rfl;refine arI (P a _ _ _ D2 J2 ⟨_,_,R3,?_⟩) (λQ s3 h=>?_) λ_ _ z=>z;.cases S:th (j.set i (.va (.exc nm fs)))with|ex c2 σ2=>rw[S]at f;exact f.elim|nx σ2=>rw[S]at f;exact λk l N R' O=>f (k.set i none) l N ((RS.box (B:=B2) (B':=B) R' rfl rfl rfl).akN i) (sF.trans O)|bk σ2|ct σ2=>rw[S]at f;exact f.elim|rt w=>rw[S]at f;exact λv l N R' O r=>f v l N (RB.box (B:=B2) (B':=B) R' rfl rfl) (sF.trans O) r|bad=>rw[S]at f;exact f
   .cases Q with|next=>obtain⟨b,l,Z,M⟩:=h;exact yn (J.back Z) hN hi hl λO I2=>⟨_,l,I2,M⟩|brk=>obtain⟨b,l,Z,M⟩:=h;exact M.elim|cont=>obtain⟨b,l,Z,M⟩:=h;exact M.elim|ret u=>obtain⟨v,b,l,Z,r,M⟩:=h;exact yn (J.back Z) hN hi hl λO I2=>⟨v,_,l,I2,r,M⟩
 have P:=hb E' (X.pn++a) B1 hK.symm xw PassesOwn.looking;refine arI (P [] s a5 H D (I.tri E') ⟨σ,F,R.box rfl rfl rfl,?_⟩) (λQ O h=>?_) λ_ _ z=>z;.have q:Oq B D F (match tb σ with|.ex c b=>WL.nY d i th c b|o=>o):=q;exact Oq.aq2 (B:=B) (B':=B1) rfl rfl rfl (λ_ _ z=>z) q
 .have h:=SP.iS h;cases Q with|next=>exact atq h|_=>exact h
end
end WS
namespace WS
open PySem PySem.Spec PyProof.Rows L2
def akj{X:Cx}{B:Bx}{x:Str}{nm:String}{C:Addr}{pos:Pos}(e:X.K=B.K)(a:Gl X x)(c:X.mg x=some (.ref C))(d:ExcAt X.K nm C)(b:Dbg x:=by decide):PE X (.Name x pos) (lo B (WL.eC (.cls nm))):=ahB (vQ (v:=.ref C) a c rfl b) λF=>by simp only[RW];rw[<-e];exact⟨C,rfl,d⟩
end WS
namespace WS
open PySem PySem.Spec PyProof.Rows L2
open WL(Res Sl Ws EF TF AF LF GF GsF SF Out OX RF Rn AXF)
section
variable{σ:L2.St}{H:Hp}
def Part(t:TE)(σ:L2.St)(H:Hp):Prop:=∀Q:VK,(∀y:Str,y.length<=1000->Q (.str y) H)->t σ H Q
def lA{y}(h:y.length<=1000):Part (tC (.str y)) σ H:=λQ k=>k y h
def tH{i n}(h:σ[i]?=some (some (.int n)))(a:n.natAbs.log2<100):Part (ajH (eF i)) σ H:=λQ k=>⟨_,h,.inl ⟨n,rfl,aro a (by simp),k _ (by have e:=int_text_length_le (by simp) a;rw[PySem.ofString_length];omega)⟩⟩
theorem ahW{Q}:∀b a,a.length+1000*b.length<=100000->(∀t∈b,Part t σ H)->(∀y,y.length<=a.length+1000*b.length->Q (.str y) H)->tJ b a σ H Q|[],a,hl,_,k=>⟨by rw[ata];omega,k _ (by simp)⟩|t::b,a,hl,hp,k=>hp t arD _ λy f=>by rw[arw]at hl;have e:(a++y).length=a.length+y.length:=atO ..;exact⟨y,rfl,by rw[ata];omega,ahW b _ (by omega) (λt c=>hp t (arH _ c)) λz d=>k z (by rw[arw];omega)⟩
end
section
variable{P:Program}{w:World}{K:W.Frag}{mg:Str->Option Value}{base:Heap}
def an4{G:Hp}{e d a b c}:upd (upd (upd G e a) d b) e c=upd (upd G d b) e c:=by
 funext z;by_cases f:z=e;.rw[f,aj,aj]
 .rw[ag f,ag f];by_cases g:z=d;.rw[g,aj,aj]
  .rw[ag g,ag g,ag f]
def ap6{G:Hp}{e d:Addr}{a b c}(h:d≠e):upd (upd (upd G d a) e b) d c=upd (upd G d c) e b:=by
 funext z;by_cases f:z=d;.rw[f,aj,ag h,aj]
 .rw[ag f];by_cases g:z=e;.rw[g,aj,aj]
  .rw[ag g,ag g,ag f,ag f]
def yB{g p a b st f C r k ts}(I:Fun K "__init__" g st f r)(S:FnScope [a,b] [a,b] (af st))(G:ts.length<=50)(x:∀u H n,u[1]?=some (some (.int n))->n.natAbs.log2<100->∀t∈ts,Part t u H)(h:∀i A c s H E,Room k (A.deeper (envOfC g (af st) s.heap.objs.size f i))->PSs (dG CX0 P w K mg base [a,b] g (af st) f i A c s H E).nox (aD st) (ahT (sy (xG C (gR (eF 0) (gR (tJ ts Str.empty) xE)))) (sX1 C (eF 0) (eF 1) p))):FnOk P w K mg base CX0 (k+1) f r [a,b] (spI C [p]):=by refine I.ok S λB H Q E j=>by obtain⟨e,ws,_,l,m,_⟩:=j;rw[l,arw,m];rfl λi A c s H B Q E O j=>?_;obtain⟨e,ws,v,l,m,D,R,q⟩:=j;subst l;obtain⟨w1,rfl⟩:=List.length_eq_one_iff.mp m;obtain⟨n,rfl,z⟩:=R w1 arD;refine⟨_,h i A c s H E O,?_⟩;refine⟨.ref e,rfl,ahW ts _ (by have:Str.empty.length=0:=rfl;omega) (x _ H n rfl z) λy M=>⟨e,none,v,y,rfl,D,λJ T U=>?_⟩⟩;refine⟨.int n,rfl,.ref e,rfl,e,_,rfl,aj,λd N o=>?_⟩;have:=q J y d T (arq M (by have:Str.empty.length=0:=rfl;omega)) (by rwa[ag o]at N) o;rw[<-an4]at this;exact this
def afD{i r u a b c st f C B k ts}(T:Fun K "__init__" i st f B)(S:FnScope [a,b,c] [a,b,c] (af st))(R:u≠r)(O:ts.length<=50)(I:∀z H n m,z[1]?=some (some (.int n))->z[2]?=some (some (.int m))->n.natAbs.log2<100->m.natAbs.log2<100->∀t∈ts,Part t z H)(h:∀j A g s H E,Room k (A.deeper (envOfC i (af st) s.heap.objs.size f j))->PSs (dG CX0 P w K mg base [a,b,c] i (af st) f j A g s H E).nox (aD st) (ahT (sy (xG C (gR (eF 0) (gR (tJ ts Str.empty) xE)))) (ahT (sX1 C (eF 0) (eF 1) r) (sX2 C (eF 0) (eF 2) u)))):FnOk P w K mg base CX0 (k+1) f B [a,b,c] (spI C [r,u]):=by
 refine T.ok S λM H Q E l=>by obtain⟨e,ws,_,v,x,_⟩:=l;rw[v,arw,x];rfl λj A g s H M Q E hr l=>?_;obtain⟨e,ws,G,v,x,N,D,q⟩:=l;subst v;obtain⟨w1,p,rfl⟩:∃w1 p,ws=[w1,p]:=by match ws,x with|[w1,p],_=>exact⟨w1,p,rfl⟩
 obtain⟨n,rfl,J⟩:=D w1 arD;obtain⟨m,rfl,X⟩:=D p (arH _ arD);refine⟨_,h j A g s H E hr,?_⟩;refine⟨.ref e,rfl,ahW ts _ (by have:Str.empty.length=0:=rfl;omega) (I _ H n m rfl rfl J X) λy Y=>⟨e,none,G,y,rfl,N,λU ht nt=>?_⟩⟩;refine⟨.int n,rfl,.ref e,rfl,e,_,rfl,aj,λd Z o=>?_⟩;refine⟨.int m,rfl,.ref e,rfl,e,d,[(r,.int n)],_,rfl,aj,by rw[ag o,aj],o,by simp,by simp[List.lookup,ar4.mpr R],?_⟩;have:=q U y d ht (arq Y (by have:Str.empty.length=0:=rfl;omega)) (by rwa[ag o]at Z) o;show Q .non (upd _ d _);rw[ap6 o,an4];exact this
end
section
variable{X:Cx}{B:Bx}{k:Nat}{fI C:Addr}{fd:FuncData}{ps:List Str}{x:Str}{pos np cpos:Pos}{e:Expr}{es:List Expr}{tas:AF}{nm:String}
theorem ade{K F}:∀{ws vs},RWs K F ws vs->ws.all WL.mR=true->∀v∈vs,∃i,v=.int i/\i.natAbs.log2<100
|[],vs,h,_,v,a=>by subst h;cases a|w::ws,vs,h,ha,v,a=>by
 obtain⟨d,r,rfl,b,c⟩:=h;rw[List.all_cons,ary]at ha;rcases arx.mp a with rfl|a;.cases w with|int i=>subst b;exact⟨i,rfl,atH ha.1⟩|_=>cases ha.1
 .exact ade c ha.2 v a
def aaY(S:X.K=B.K)(U:XW X B)(M:X.calm=true)(A:Gl X x)(Q:X.mg x=some (.ref C))(q:oD X.K C (some (.ref fI)))(l:W.typeIn X.K (.ref fI)=some (.type "function"))(F:FnOk X.prog X.w X.K X.mg X.base CX0 k fI fd ps (spI C (WL.fieldsOf nm)))(Y:Room (k+1) X.A)(J:Binds X.K fd ps [])(K:ExcAt X.K nm C)(G:(WL.fieldsOf nm).length<=50)(O:PA X (e::es) (loA B tas))(b:Dbg x:=by decide)(E:SE X e es:=by rfl)(a:BT X cpos es:=by rfl):PS X (.Raise (some (.Call (.Name x np) (e::es) [] cpos)) none pos) (loS B (WL.kq nm tas)):=PS.imp (ab2 M A Q q l F Y J O b E a) λD n H j=>by
 refine dU j λo F R q=>?_;have q:=Oq.ofR q;refine eh o F R (Rq.mono (av.refl _) q λws g i Z F1 r N m=>?_);by_cases h:ws.length=(WL.fieldsOf nm).length/\ws.all WL.mR=true
 .rw[arj h]at g;have c:i.length=(WL.fieldsOf nm).length:=by rw[<-m.length];exact h.1
  refine⟨c,ade m h.2,G,λf s e d u y w T b ne t=>?_⟩;have R2:=r.new w (.tup [.str y]);have I:=ay (r.rb.sub.free w) (.tup [.str y]);have v:=I.trans (ay (R2.rb.sub.free b) (.xd ((WL.fieldsOf nm).zip i)));have P:u≠d:=λz=>by rw[<-z,aj]at b;cases b
  refine U f n _ s o _ (.exc nm ws) (R2.new b _) (B.mono _ o F _ (N.f.trans v) g) e C _ none _ t ⟨K,(WL.fieldsOf nm).zip i,?_,?_,.inr ⟨d,rfl,aj⟩,.inr (.inr ⟨rfl,u,y,rfl,by rw[ag P,aj],T⟩)⟩;.rw[List.map_fst_zip (by omega)]
  .rw[List.map_snd_zip (by omega),S];exact m.keep v
 .rw[arl h]at g;exact(show False from g).elim
end
section
variable{X:Cx}{B:Bx}{o:Expr}{f:Str}{pos:Pos}{ta:EF}
theorem yt{f:Str}{v:V}:∀{l:List (Str×V)},l.lookup f=some v->f∈l.map (·.1)|[],h=>by simp at h|(a,b)::l,h=>by rw[ar9]at h;cases z:f==a with|true=>rw[arv,asB.mp z];exact arD|false=>rw[z]at h;exact arH _ (yt h)
theorem xg{K:W.Frag}{F:Hp}{f:Str}{w:VW}:∀{l:List Str}{ws:List VW}{c:List (Str×V)},c.map (·.1)=l->RWs K F ws (c.map (·.2))->(l.zip ws).lookup f=some w->∃v,c.lookup f=some v/\RW K F w v|[],ws,c,_,_,h=>by simp at h|a::l,[],c,_,_,h=>by simp at h|a::l,w0::ws,[],h,_,_=>by simp at h|a::l,w0::ws,(b,v0)::c,d,h2,h3=>by simp only[arv,asp]at d;obtain⟨rfl,d⟩:=d;simp only[arv,RWs]at h2;obtain⟨v,r,e,i,g⟩:=h2;simp only[asp]at e;obtain⟨rfl,rfl⟩:=e;rw[auh,ar9]at h3;rw[ar9];cases z:f==b with|true=>rw[z]at h3;cases h3;exact⟨v0,rfl,i⟩|false=>rw[z]at h3;exact xg d g h3
def rZ(U:X.K=B.K)(hA:ExcAll X.K)(hn:∀nm C,ExcAt X.K nm C->f∈WL.fieldsOf nm->W.findIn X.K (.ref C) f=some none/\W.hasDictIn X.K C=true)(he:PE X o (lo B ta))(hb:attributeBase o f X.env (eval o X.env)=eval o X.env):PE X (.Attribute o f pos) (lo B (WL.agW ta f)):=by intro i s e H Q I⟨n,F,R,q⟩;have q:=Rq.bind q;refine aeb hb (thn (he i s e H _ I ⟨n,F,R,Rq.mono (av.refl _) q λw qw v P g R' N r'=>show∃w g,RS B n e g P/\RW B.K g w v/\Rq B n g (WL.apv f w) λt=>∀m b c,RS B n e c b->Gr g P c b->RW B.K c t m->Q m b from⟨w,g,R',r',Rq.mono N.f qw λt k m b c y p=>k m b c y (N.trans p)⟩⟩) λu s1⟨x,K,l,rx,w,F1,A,S,h⟩=>?_);cases w with
|exc nm fs=>dsimp only[WL.apv]at h;cases D:((WL.fieldsOf nm).zip fs).lookup f with|none=>rw[D]at h;exact h.elim|some t=>
   rw[D]at h;simp only[RW]at S;obtain⟨a,C,dx,rfl,Z,O,Y,M,h4,h5⟩:=S;cases show u=Value.ref a from rx;obtain⟨v,G,rv⟩:=xg M h4 D;have j:f∈WL.fieldsOf nm:=by rw[<-M];exact yt G
   rcases h5 with⟨rfl,_⟩|⟨d,e5,hd⟩;.simp at G
   have z:=A.rb.sub _ _ hd;obtain⟨mA,hN,r⟩:=l.hok d _ z;obtain⟨od,ho,E⟩:=uq hN;obtain⟨⟨oe,es,g1,g2,g3,g4⟩,_⟩:=l.hok a _ (A.rb.sub _ _ Z);have T:W.InstAt s1.heap a oe C (some od):=⟨g1,g2,by unfold W.notCls;rw[g4.1],by rw[g3,e5];exact ho⟩;obtain⟨u,hu,J⟩:=vi.some_of (v:=v) (o:=mA f) (by rw[<-G];exact r f);obtain⟨n1,n2⟩:=hn nm C (by rw[U];exact O) j;refine afO (hA.k nm C (by rw[U];exact O)) l.kIn T (W.findObj_own n2 n1 rfl (by rw[E,hu])) (uz J) ?_;exact⟨v,K,l.tok _,J,h v K F1 A Gr.refl rv⟩
|_=>exact h.elim
end
end WS
namespace WS
open PySem PySem.Spec PyProof.Rows L2
section
variable{K:W.Frag}{a:Addr}{f nm:Str}
def rz{C b n}(x:ExcAll K)(h:ExcAt K n C)(m:(W.clsIn K C).map (·.mro)=some (.ref C::.ref b::gf))(i:W.hasDictIn K C=true)(e:W.findIn K (.ref C) "__setattr__"=some (some (.builtin "object.__setattr__"))):ExcS K C:=by obtain⟨k,c,l⟩:=arP.mp m;obtain⟨g,d,j⟩:=W.any_some i;rw[c]at d;cases d;exact⟨x.k n C h,⟨k,c,j,.inr ⟨b,l⟩⟩,e⟩
def FA(K:W.Frag)(f:Str)(nm:String):Prop:=f∈WL.fieldsOf nm->∀b,W.nsIn K mainGlobals (Str.ofString nm)=some (some (.ref b))->W.findIn K (.ref b) f=some none/\W.hasDictIn K b=true
def eS{nm:String}(h:¬f∈WL.fieldsOf nm):FA K f nm:=λz=>absurd z h
def yI{nm:String}(e:W.nsIn K mainGlobals (Str.ofString nm)=some (some (.ref a)))(b:W.findIn K (.ref a) f=some none)(c:W.hasDictIn K a=true):FA K f nm:=λ_ d h=>by have:=e.symm.trans h;cases this;exact⟨b,c⟩
def gw{nm:String}(e:W.nsIn K mainGlobals (Str.ofString nm)=some none):FA K f nm:=λ_ b h=>by have:=e.symm.trans h;cases this
def apy(m:FA K f "FloorError")(n:FA K f "NotEven")(r:FA K f "NoCall")(q:FA K f "NoName")(j:FA K f "NoProgram")(i:FA K f "TooMany")(l:FA K f "NoPairs")(k:FA K f "NoRow")(o:FA K f "Blind")(p:FA K f "Out")(e:FA K f "Meet")(g:FA K f "Broken"):∀nm C,ExcAt K nm C->f∈WL.fieldsOf nm->W.findIn K (.ref C) f=some none/\W.hasDictIn K C=true:=λnm c⟨h,b⟩d=>by
 simp only[WL.rA,arx,ar5,atc]at h;rcases h with rfl|rfl|rfl|rfl|rfl|rfl|rfl|rfl|rfl|rfl|rfl|rfl;.exact m d c b
 .exact n d c b
 .exact r d c b
 .exact q d c b
 .exact j d c b
 .exact i d c b
 .exact l d c b
 .exact k d c b
 .exact o d c b
 .exact p d c b
 .exact e d c b
 .exact g d c b
end
end WS
namespace WS
open PySem PySem.Spec PyProof.Rows L2
open WL(Res Sl Ws EF TF AF LF GF GsF SF Out OX RF Rn AXF)
section
variable{X:Cx}{B:Bx}{e tg iter elt:Expr}{pos:Pos}{ta:EF}{tt:TF}{it:LF}{g:GF}{k:Nat}{scope:Scope}{ts:List Str}{ifs:List Expr}
def adX{σ E t A J xs Q}(hg:Keeps k g)(R1:RS B σ E t A)(wk:Walk B.K J xs t)(hx:xs.length<=WL.lim)(T:WL.bG g tt ta (List.replicate k .no++σ) xs≠.bad)(ex:∀c,WL.bG g tt ta (List.replicate k .no++σ) xs=.ex c->∀Y f,av t f->B.xp c Y f)(fin:∀all,WL.bG g tt ta (List.replicate k .no++σ) xs=.ok all->∀s f l,RB B f l->Gr t A f l->RWs B.K f all s->∀D,l D=none->Q (.ref D) (upd l D (.lst s))):aaG J (loG true B g) (loT B tt) (lo B ta) (List.replicate k none++E) A Q:=by
 refine⟨λi m s p l=>m=xs.length-i/\i<=xs.length/\s.length<=i/\∃f d,RS B (List.replicate k .no++σ) p f l/\Gr t A f l/\RWs B.K f d s/\WL.bG g tt ta (List.replicate k .no++σ) xs=(WL.bG g tt ta (List.replicate k .no++σ) (xs.drop i)).bind λr=>.ok (d++r),⟨xs.length,rfl,arZ _,arZ _,t,[],R1.ahead k,Gr.refl,by simp[RWs],?_⟩,?_⟩;.rw[asJ];cases WL.bG g tt ta (List.replicate k .no++σ) xs<;>rfl
 rintro i m s p l⟨rfl,hi,Z,f,d,K,o,S,a⟩;refine⟨auf (arq Z (arq hi hx)) (by decide),?_⟩;by_cases q:i<xs.length;.have hd:=arF q;rw[hd]at a;obtain⟨go,yl⟩:=wk.go i xs[i] (art q) f l o.f K.rb.sub;refine .inr ⟨go,λx H C=>x.length<=i+1/\∃z d,RS B (List.replicate k .no++σ) H z C/\Gr t A z C/\RWs B.K z d x/\WL.bG g tt ta (List.replicate k .no++σ) xs=(WL.bG g tt ta (List.replicate k .no++σ) (xs.drop (i+1))).bind λr=>.ok (d++r),λx H C⟨a1,a2⟩=>⟨xs.length-(i+1),by omega,rfl,q,a1,a2⟩,λv C hy=>?_⟩;refine gb (yl v C hy) λz E2 r2=>?_;have P:=o.f.trans E2.same;simp only[WL.bG]at a;refine aha _ z xs[i] (E2.rs _ _ _ K) r2 ?_;cases M:g xs[i] (List.replicate k .no++σ)with|bad=>rw[M]at a;exact(T a).elim|ex c=>rw[M]at a;exact ex c a _ z P|ok σ1=>
   rw[M]at a;obtain⟨kl,kk⟩:=hg _ _ _ M;intro n H3 F3 R3 U;have back:∀{w N:Hp},RS B σ1 n w N->RS B (List.replicate k .no++σ) n w N:=λ{w N}I=>I.forget kl.symm λj sl ej ne=>by grind
   have h:=E2.gr.trans ⟨U.f,U.h rfl,U.nf⟩;have a:WL.bG g tt ta (List.replicate k .no++σ) xs=((tt σ1).bind _).bind λr=>.ok (d++r):=a;refine eh σ1 F3 R3 ?_;cases O:tt σ1 with|bad=>rw[O]at a;exact(T a).elim|ex c=>rw[O]at a;exact ex c a _ F3 (o.f.trans h.f)|ok b=>rw[O]at a;intro N w I G;cases b with|false=>rw[arl arG];exact⟨by omega,w,d,back I,o.trans (h.trans G),S.keep (h.trans G).f,a⟩|true=>rw[arj rfl];have a:=a;refine eh σ1 w I ?_;cases R:ta σ1 with|bad=>rw[R]at a;exact(T a).elim|ex c=>rw[R]at a;exact ex c a _ w (o.f.trans (h.trans G).f)|ok y=>rw[R]at a;intro u H5 F5 R5 g5 r5;refine⟨by rw[ar7,atQ];omega,F5,d++[y],back R5,o.trans ((h.trans G).trans g5),(S.keep ((h.trans G).trans g5).f).app (.one r5),?_⟩;rw[a];cases WL.bG g tt ta (List.replicate k .no++σ) (xs.drop (i+1))with|ok zs=>show Res.ok _=Res.ok _;rw[asv];rfl|ex c|bad=>rfl
 .have ei:i=xs.length:=by omega
  subst ei;rw[as2]at a;have a:WL.bG g tt ta (List.replicate k .no++σ) xs=.ok (d++[]):=a;rw[ar2]at a;exact .inl ⟨wk.stop f l o.f K.rb.sub,λD hD=>fin d a s f l K.rb o S D hD⟩
theorem RS.vf{B' σ h F H}(R:RS B σ h F H)(p:B'.K=B.K)(r:B'.H0=H)(m:B'.F0=F):RS B' (WL.vf σ) h F H:=by
 have b:∀{i:Nat}{f:Sl},(WL.vf σ)[i]?=some f->(∀w,f=.va w->σ[i]?=some (.va w))/\(∀ws,f≠.ow ws)/\(∀d c,f≠.od d c)/\(f=.ob->σ[i]?=some .ob):=λ{i f}e=>by unfold WL.vf at e;rw[arL]at e;cases n:σ[i]? with|none=>rw[n]at e;cases e|some s0=>rw[n]at e;have e:=arK e;subst e;cases s0 with|no=>exact⟨λw z=>(by cases z),λws z=>(by cases z),λd c z=>(by cases z),λz=>by cases z⟩|va w=>exact⟨λs z=>by grind,λws z=>(by cases z),λd c z=>(by cases z),λz=>by cases z⟩|ow ws|od d c=>exact⟨λw z=>(by cases z),λws z=>(by cases z),λd c z=>(by cases z),λz=>by cases z⟩|ob=>exact⟨λw z=>(by cases z),λws z=>(by cases z),λd c z=>(by cases z),λz=>rfl⟩
 refine⟨⟨R.rb.sub,r▸av.refl _,m▸av.refl _,λa o e=>.inl (m▸e)⟩,by rw[<-R.len];simp[WL.vf],λi w e=>?_,λi ws e=>((b e).2.1 ws rfl).elim,λi j ws q a _ l=>((b l).2.1 ws rfl).elim,λi d c e=>((b e).2.2.1 d c rfl).elim,λi j d c _ _ a _ l=>((b l).2.2.1 d c rfl).elim,λi e=>R.dd.ob i ((b e).2.2.2 rfl)⟩;rw[p];exact R.va i w ((b e).1 w rfl)
def afH{B' f d b H'}(c:RB B' b H')(i:B'.H0=d)(h:B'.F0=f):Gr f d b H':=by subst i h;refine⟨c.fz0,c.base,λa o l m=>?_⟩;cases j:b a with|none=>rfl|some o2=>
 rcases c.fr a _ j with z|z;.rw[m]at z;cases z
 .rw[l]at z;cases z.1
def abU{B' σ c f d h H'}(R:RS B σ c f d)(b:RB B' h H')(j:B'.H0=d)(i:B'.F0=f):RB B h H':=by
 subst j i;refine⟨b.sub,R.rb.base.trans b.base,R.rb.fz0.trans b.fz0,λa o e=>?_⟩;rcases b.fr a o e with z|z;.exact R.rb.fr a o z
 .exact .inr ⟨R.rb.base.free z.1,z.2⟩
def aez(c1:X.stack=X.env::X.outer)(c0:X.env.frame=some X.env.locals)(hK:X.K=B.K)(hx:XW X B)(L:CompLook X scope)(hc:X.calm=true)(hk:ts.length=k)(hg:Keeps k g)(hi:PI X tg iter (loI B it))(b2:∀C j i G E u,u.K=X.K->XW ((X.comp scope C ts j i G).tri E []) u->PG ((X.comp scope C ts j i G).tri E []) tg (loG true u g))(b1:∀C j i G E u,u.K=X.K->XW ((X.comp scope C ts j i G).tri E []) u->agb ((X.comp scope C ts j i G).tri E []) ifs (loT u tt))(b4:∀C j i G E u,u.K=X.K->XW ((X.comp scope C ts j i G).tri E []) u->PE ((X.comp scope C ts j i G).tri E []) elt (lo u ta))(hs:∀x,foldedSetIterable iter X.env x=pure x:=by intro _;rfl):PE X (.ListComp elt [⟨tg,iter,ifs,0⟩] scope pos) (lo B (WL.adC k it g tt ta)):=by
 subst hk;intro pins s d H Q I⟨Z,F,R,q⟩;have S:CompScope X scope ts:=L.scope;have a3:closureFor scope X.env=pure (dc X.env.cells scope.names []):=gD λy hy hf=>by obtain⟨c,hc⟩:=I.ok.has y.1 (S.free y hy hf);rw[hc];rfl
 have q:=Rq.bind (Rq.bind q);rw[eval_ListComp];refine atw (use:=none) rfl hs a3 S.kind S.names (thn (hi pins s d H (λJ H1=>∃F1 xs,RS B Z d F1 H1/\Gr F H F1 H1/\Walk B.K J xs F1/\Rq B Z F (if xs.length<=WL.lim then WL.bG g tt ta (List.replicate ts.length .no++WL.vf Z) xs else .bad) λys=>∀v a A,RS B Z d A a->Gr F H A a->RW B.K A (.lst ys) v->Q v a) I ⟨Z,F,R,Rq.mono (av.refl _) q λxs P J H1 F1 R1 g1 wk=>⟨F1,xs,R1,g1,wk,?_⟩⟩) λxv s1 h1=>thn h1 λc8 s2 h2=>?_);.exact P
 obtain⟨it,G,tn,J,H2,e,Y,T,b6,f2,F1,xs,R1,g1,wk,P⟩:=h2;subst e;by_cases a5:xs.length<=WL.lim
 .rw[arj a5]at P;let u:Bx:=⟨B.K,H2,F1,λc _ A=>B.xp c Z A,λc _ A c2 sm h=>B.mono c Z A c2 sm h⟩;let EC:Addr->Value->Shared->Prop:=λC v K=>∃(e Ce:Addr)(dx:DX)(fl:Value)(T:Option Addr)(M:L2.St)(a A:Hp)(c:VW),v=.ref e/\Thr (X.comp scope C ts s2 H2 G) [] M a K e Ce dx fl T/\RB u A a/\B.xp c Z A/\XR X.K A c Ce dx;have xw:∀C,XW ((X.comp scope C ts s2 H2 G).tri (EC C) []) u:=λC b7 M a K b5 A c R' xp e Ce dx T fl t xr=>⟨e,Ce,dx,fl,T,M,a,A,c,rfl,Thr.iS (X:=X.comp scope C ts s2 H2 G) (pins:=[]) t,R'.rb,xp,xr⟩;have hW:aaG J (loG true u g) (loT u tt) (lo u ta) (List.replicate ts.length none++d) H2 Q:=by
   refine adX hg (R1.vf rfl rfl rfl) wk a5 (λz=>by rw[z]at P;exact P) (λc z b5 A sm=>?_) λall z ys A a rb g' r D hD=>?_;.rw[z]at P;exact B.mono c Z F A (g1.f.trans sm) P
   .rw[z]at P;have N:RB B A a:=abU R1 rb rfl rfl;have R':=R1.grow g' N;exact P (.ref D) _ _ (R'.new hD _) (g1.trans (g'.trans (Gr.new (N.sub.free hD) hD _))) (by simp only[RW];exact⟨D,ys,rfl,SqL.of aj,r.keep (ay (N.sub.free hD) _)⟩)
  refine kL (Q:=Q) (RR:=λc4 C=>compPost (model X.prog X.w) X.A X.xe none (EP X pins d Q) c4 C) S EC (λ_ _ _=>hc) (λC=>b2 C s2 H2 G (EC C) u hK.symm (xw C)) (λC=>b1 C s2 H2 G (EC C) u hK.symm (xw C)) (λC=>b4 C s2 H2 G (EC C) u hK.symm (xw C)) Y T b6 f2 hW.c ?_ ?_;.intro C D a K m ys c3 hC hD hn b8 I' q;refine⟨m,hn,λh' a0=>?_⟩;have a1:C≠X.env.locals:=ar8 (aro Y.lt hC);have c6:Inv X pins d (upd a D (.lst ys)) {K with heap:=h'}:=I'.turned (t':=K.toks) (it:=C) (λb o n e=>(a0.2 b n).trans e) (by rw[ag c3];exact b8) a1 (.inr (arq Y.sz hC)) (λx c e=>by obtain⟨v,q⟩:=Y.cell x c e;exact arA (aro q.lt hC)) λp l=>arA (aro (ars (Y.pin p l).1) hC);exact⟨.ref D,_,c6,rfl,q⟩
  .rintro C D _ K hC⟨e,Ce,dx,fl,T,M,a,A,c,rfl,t,rb,xp,xr⟩;have J':Inv X pins d a K:=Y.ajs (ch:=G) t.inv.os t.inv.base t.inv.hok t.inv.bare λb n=>⟨(f2 b n).2.2.2.1,(f2 b n).2.1,(f2 b n).2.2.2.2.1,(f2 b n).2.2.2.2.2⟩;obtain⟨m,a7,_⟩:=t.inv.loc;obtain⟨U,es,ep,c5,a9⟩:=id a7;have a4:a C=none:=t.inv.free;have a1:C≠X.env.locals:=ar8 (aro Y.lt hC);have a6:s2.heap.get? C=none:=asj hC;have fC:FpX X pins a C:=Y.fpX a6 a4;have a2:∀v,U.data≠.cell v:=λv z=>by obtain⟨hd,_⟩:=a9;rw[hd]at z;cases z
   have J2:Inv X (pins++[(C,U)]) d a K:=J'.hY λp l=>by
    rcases arN.mp l with l|l;.exact J'.pin p (arE _ l)
    .obtain rfl:p=(C,U):=by simpa using l
     exact⟨c5,a4,a1,fC.2.2.1,a2⟩
   have O:∀b,FpX (X.comp scope C ts s2 H2 G) [] a b->FpX X pins a b/\b≠C:=λb z=>by
    refine⟨?_,z.2.1⟩;rcases z.2.2.2.1 with n|n;.have f:=f2 b n;exact⟨z.1,f.2.1,f.2.2.1,f.2.2.2.1.imp (λw=>w) λw=>asj w,f.2.2.2.2.1,f.2.2.2.2.2⟩
    .exact Y.fpX n z.1
   have a8:∀b,FpX X pins a b->b≠C->FpX X (pins++[(C,U)]) a b:=λb z ne=>⟨z.1,z.2.1,z.2.2.1,z.2.2.2.1,z.2.2.2.2.1,λp l=>by
    rcases arN.mp l with l|l;.exact z.2.2.2.2.2 p (ar6 _ l)
    .rcases arN.mp l with l|l;.exact z.2.2.2.2.2 p (arE _ l)
     .obtain rfl:p=(C,U):=by simpa using l
      exact arz ne⟩;have te:=O e t.fe;have t1:Thr X (pins++[(C,U)]) d a K e Ce dx fl T:=⟨J2,t.trc,a8 e te.1 te.2,λb n=>a8 b (O b (t.fT b n)).1 (O b (t.fT b n)).2⟩;refine t1.note c1 c0 λb0 T1 b9 t2=>?_;have pC:=(t2.inv.pin (C,U) (by simp)).1;refine⟨m,⟨U,es,ep,pC,a9⟩,λh' a0 c7 _=>?_⟩;have drop:∀b,FpX X (pins++[(C,U)]) a b->FpX X pins a b/\b≠C:=λb z=>⟨⟨z.1,z.2.1,z.2.2.1,z.2.2.2.1,z.2.2.2.2.1,λp l=>by
    rcases arN.mp l with l|l;.exact z.2.2.2.2.2 p (ar6 _ l)
    .exact z.2.2.2.2.2 p (arE _ (ar6 _ l))⟩,λw=>z.2.2.2.2.2 (C,U) (by simp) w.symm⟩;have J3:Inv X pins d a {K with heap:=b0}:=t2.inv.hY λp l=>t2.inv.pin p (arE _ (ar6 _ l));have J4:Inv X pins d a {K with heap:=h'}:=Inv.turned (s:={K with heap:=b0}) (t':=K.toks) (it:=C) J3 (λb o n e=>(a0.2 b n).trans e) a4 a1 (.inr (arq Y.sz hC)) fC.2.2.2.2.1 fC.2.2.2.2.2;have t3:Thr X pins d a {K with heap:=h'} e Ce dx b9 (some T1):=⟨J4,t2.trc.keeps λb o n q=>(a0.2 b (by
    rcases n with rfl|n;.exact(drop _ t2.fe).2
    .exact(drop b (t2.fT b n)).2)).trans q,(drop e t2.fe).1,λb n=>(drop b (t2.fT b n)).1⟩;refine t3.pass λc9 b3 t4=>?_;have N:RB B A a:=abU R1 rb rfl rfl;exact hx pins d a _ Z A c (R1.grow (afH rb rfl rfl) N) xp e Ce dx (some T1) b3 t4 xr
 .rw[arl a5]at P;exact(P).elim
end
section
variable{X:Cx}{B:Bx}{K:W.Frag}{o:Expr}{to:EF}{tas:AF}{apos cpos:Pos}
theorem adY:∀{ys:List VW}{x:VW}{n m:Nat},WL.okD n x=true->WL.lV m ys=true->((oA ys).countP λz=>PyData.eqv z (toD x))=WL.cnt x ys|[],_,_,_,_,_=>by simp[oA,WL.cnt]|y::ys,x,n,m,hx,a=>by cases m with|zero=>cases a|succ m=>have a:=asr.mp a;have b:=kJ m n y x a.1 hx;simp only[oA,List.countP_cons,WL.cnt,b,adY hx a.2]
set_option tactic.hygienic true in
def aev{x:Expr}(n:X.K=B.K)(hu:X.A.units+64<cLine)(T:PE X o (lo B to))(M:PA X [x] (loA B tas))(g:attributeBase o "count" X.env (eval o X.env)=eval o X.env:=by rfl)(h:((backTo cpos (starEach [x] X.env)).all (λx=>!x.1)&&(backToKw cpos (keywordEach [] X.env)).all (λx=>x.1.isSome)&&decide (([x]:List Expr).length+([]:List Keyword).length+(if([]:List Keyword).isEmpty then 0 else 1)<30))=true:=by rfl)(f:(apos.endLine==cpos.line)=true:=by rfl)(S:starEach [x] X.env=(false,eval x X.env)::starEach [] X.env:=by rfl)(d:BT X cpos []:=by rfl):PE X (.Call (.Attribute o "count" apos) [x] [] cpos) (lo B (WL.rG "list" WL.pT to tas)):=PE.imp (i4 arS PySem.F.slot_list_count PySem.F.type_list_count acL T M g h f S d) λO H Q l=>by obtain⟨k,F,R,q⟩:=l;have q:=Rq.bind q;refine⟨k,F,R,Rq.mono (av.refl _) q λw j v Y J r t m=>?_⟩;cases w with
 |lst ys=>have j:=Rq.bind (show Rq B k F ((tas k).bind λws=>WL.pT (.lst ys) ws) _ from j);have p:=m;simp only[RW]at m;obtain⟨a,C,rfl,U,ra⟩:=m;refine⟨.inl ⟨rfl,C,by rw[n];exact r.rb.sub.seq U⟩,k,J,r,Rq.mono t.f j λws i us N D R2 s G=>?_⟩;cases em:WL.pT (.lst ys) ws with
  |bad=>rw[em]at i;exact i.elim|ex c=>
    unfold WL.pT at em;split at em;.split at em<;>cases em
    .cases em|ok z=>
    rw[em]at i;unfold WL.pT at em;split at em
    .rename_i e1 Z P y E;cases E;split at em;.rename_i b;rw[ary]at b;cases em;obtain⟨u,rfl,I⟩:=bF G;have sub:=R2.rb.sub;have A:=RW.isD 51 (.lst ys) (.ref a) b.2 ((p.keep s.f).keep sub);refine⟨50,u,toD y,oA ys,rfl,by rw[n];exact RW.isD 50 y u b.1 (I.keep sub),by rw[n];exact A,by omega,?_⟩;rw[adY b.1 b.2];exact i (.int _) N D R2 (t.trans s) (by simp[RW])
     .cases em
    .cases em
 |_=>exact(show False from j).elim
end
section
variable{X:Cx}{B:Bx}{ta:EF}
def aa5{a:Expr}{p t pos b:Pos}(hK:X.K=B.K)(P:X.calm=true)(O:Gl X "list")(Y:X.mg "list"=none)(C:Gl X "range")(k:X.mg "range"=none)(h:PE X a (lo B ta))(Z:starEach [a] X.env=[(false,eval a X.env)]:=by rfl)(y:starEach [a] X.env=(false,eval a X.env)::starEach [] X.env:=by rfl)(N:("list":Str)≠"__name__":=by decide)(s:(("list":Str)==("__debug__":Str))=false:=by decide)(G:starEach [Expr.Call (.Name "range" t) [a] [] b] X.env=(false,eval (.Call (.Name "range" t) [a] [] b) X.env)::starEach [] X.env:=by rfl)(E:BT X pos []:=by rfl):PE X (.Call (.Name "list" p) [.Call (.Name "range" t) [a] [] b] [] pos) (lo B (WL.eLR ta)):=PE.imp (ny (rR P) O Y auK (aN (acg C k (aa h ah y) Z) cz G) N s G E) λz H Q o=>by
  obtain⟨d,F,R,q⟩:=o;have q:=Rq.bind q;have S:Rq B d F (WL.ae ta WL.au d) λws=>∀m f g,RS B d z g f->Gr F H g f->RWs B.K g ws m->∃j:Int,m=[.int j]/\-2^62<=j/\j<2^62/\∀r,f r=none->∃(J:Addr)(n:Nat),[V.ref r]=[V.ref J]/\upd f r (.rng 0 j) J=some (.rng 0 n)/\n<=1000/\∀l,upd f r (.rng 0 j) l=none->Q (.ref l) (upd (upd f r (.rng 0 j)) l (.lst ((List.range n).map λi=>V.int (i:Nat)))):=by show Rq B d F ((ta d).bind λx=>.ok [x]) _;cases e:ta d with
 |ok x=>
    rw[e]at q;intro m H1 F1 I T U;obtain⟨v,rfl,K⟩:=bF U
    cases x with|int j=>
     simp only[RW]at K;subst K;have q:Rq B d F (if 0<=j/\j<=1000 then Res.ok (WL.W.lst (WL.rng 0 j.toNat))else .bad) _:=q;by_cases M:0<=j/\j<=1000
     .rw[arj M]at q;refine⟨j,rfl,by omega,by omega,λr D=>⟨r,j.toNat,rfl,?_,by omega,λl w=>?_⟩⟩;.rw[aj];congr 2;omega
      .have A:=I.rb.sub.free D;have R2:=I.new D (.rng 0 j);have u:=R2.rb.sub.free w;refine q (.ref l) _ _ (R2.new w _) ((T.trans (Gr.new A D _)).trans (Gr.new u w _)) ?_;simp only[RW];refine⟨l,_,rfl,SqL.of aj,?_⟩;have go:∀(g:Hp)(is:List Nat),RWs B.K g (is.map λi=>WL.W.int (0+(i:Nat))) (is.map λi=>V.int (i:Nat)):=λg is=>by induction is with|nil=>simp[RWs]|cons i is ih=>simp only[arv,RWs,RW];exact⟨_,_,rfl,by simp,ih⟩
       exact go _ _
     .rw[arl M]at q;exact q.elim|_=>exact(show False from q).elim
 |ex c=>rw[e]at q;exact q|bad=>rw[e]at q;exact q
  exact⟨d,F,R,S⟩
end
section
variable{X:Cx}{B:Bx}{k:Nat}{f:Addr}{fd:FuncData}{ps:List Str}{fn:List VW->Res VW}{x:Str}{p pos:Pos}{e:Expr}{es:List Expr}{tas:AF}{n:Nat}{dws:List VW}{dvs:List V}{ds:List Value}
def acU(l:X.K=B.K)(r:XW X B)(o:∀F,RWs B.K F dws dvs)(h:∀b ws,tas b=.ok ws->ws.length+dws.length=n):∀a H Q,lo B (WL.dk (λws=>fn (ws++dws)) tas) a H Q->abp X (spX X.K n fn) dvs (loA B tas) a H Q:=by intro a H Q⟨b,F,R,q⟩;have q:=Rq.bind q;refine eh b F R ?_;cases d:tas b with|bad|ex c=>rw[d]at q;exact q|ok ws=>rw[d]at q;exact λt s g m i j=>qp l r m i (j.app (o g)) (by rw[ar7];exact h b ws d) q rfl
def aa6(m:X.K=B.K)(r:XW X B)(F:FnOk X.prog X.w X.K X.mg X.base (CXX X.prog X.w) k f fd ps (spX X.K n fn))(s:Room k X.A)(h:Gl X x)(l:X.mg x=some (.ref f))(d:W.keepIn X.K (.ref f)=true)(o:Binds X.K fd ps ds)(b:Vals dvs ds)(q:∀F,RWs B.K F dws dvs)(i:PA X (e::es) (loA B tas))(g:∀t ws,tas t=.ok ws->ws.length+dws.length=n)(a:Dbg x:=by decide)(j:SE X e es:=by rfl)(c:BT X pos es:=by rfl):PE X (.Call (.Name x p) (e::es) [] pos) (lo B (WL.dk (λws=>fn (ws++dws)) tas)):=PE.imp (qK F s h l d o b i a j c) (acU m r q g)
end
structure FunD(K:W.Frag)(x qual:Str)(st:Stmt)(f:Addr)(fd:FuncData)(dV:Value):Prop where ex:∃(oc:Value)(od:Option Addr)(kV doc pm:Value)(an:Option Addr)(cdv ct:Value)(osl:Array (Option Value)),fd=W.fnOf x qual (bC st) (aD st) (af st) dV kV doc pm an cdv ct/\K.lookup f=some ⟨oc,od,.func fd,osl⟩/\W.codeIn K cdv qual=true
section
variable{P:Program}{w:World}{K:W.Frag}{mg:Str->Option Value}{base:Heap}
def ai2{x a st f j e od g h kV d i b ct}(l:K.lookup f=some ⟨j,od,.func (W.fnOf x a (bC st) (aD st) (af st) e kV d i g b ct),h⟩)(c:W.codeIn K b a=true):FunD K x a st f (W.fnOf x a (bC st) (aD st) (af st) e kV d i g b ct) e:=⟨j,od,kV,_,i,g,_,ct,_,rfl,l,c⟩
def FunD.binds{x a st f T i ps ds o items n}(F:FunD K x a st f i (.ref T))(m:K.lookup T=some o)(r:o.data=.seq items n)(h:∀kV b l j c ct d,(d++ds).length=ps.length->∃k,bindArgs (W.fnOf x a (bC st) (aD st) (af st) (.ref T) kV b l j c ct) ⟨d,[]⟩=seqItems? (.ref T)>>=k/\k (some items)=pure (ps.zip (d++ds))):Binds K i ps ds:=by refine age F.ex λz od kV b l j c ct t e y q=>?_;subst e;intro s d g u;obtain⟨k,p,v⟩:=h _ _ _ _ _ _ _ u;exact BindsTo.of_defaults rfl (g _ _ m) r p v
def yQ{x b st f R dV N ps k m n}{M:List VW->Res VW}(t)(Fn:FunD K x b st f R dV)(S:FnScope N ps (af st))(hn:N.length=n)(g:ps.length=m)(z:WL.run n t=M)(a0:ps.length<=N.length)(h:∀d A a s H E B,B.K=K->Room k (A.deeper (envOfC b (af st) s.heap.objs.size f d))->XW (dG (CXX P w) P w K mg base N b (af st) f d A a s H E) B->PassesOwn (model P w) (dG (CXX P w) P w K mg base N b (af st) f d A a s H E).A (dG (CXX P w) P w K mg base N b (af st) f d A a s H E).env (dG (CXX P w) P w K mg base N b (af st) f d A a s H E).xe->PSs (dG (CXX P w) P w K mg base N b (af st) f d A a s H E) (aD st) (loS B t)):FnOk P w K mg base (CXX P w) (k+1) f R ps (spX K m M):=by subst hn g z;refine age Fn.ex λoc od kV a1 pm an d ct a2 y lk I=>?_;subst y;refine uD lk I S (λvs H Q E o=>by refine kU o λF ws _ r X _=>?_;rw[<-r.length];exact X) λA a s H vs Q E hr _ o=>?_;refine kU o λF ws sm r X g=>?_;let U:Bx:=⟨K,H,F,λ_ _ _=>False,λ_ _ _ _ _ h=>h⟩;let Y:Bx:=U.oE (λc _ u=>∀C l j i,av u i->RB U i j->XR K i c C l->E (.ref C) l j) λc σ u F2 s h C l j i p=>h C l j i (s.trans p);refine⟨_,h d A a s H E Y rfl hr (λO a3 H1 s1 σ u c R1 xp e C l T fl t J=>jb t (xp C l H1 u (av.refl _) (R1.rb.box rfl rfl) J)) asU,_,F,(RS.start sm r (by omega)).box (B':=Y) rfl rfl rfl,?_⟩;unfold WL.run at g;cases e:t _ with|rt w=>rw[e]at g;exact λv j i q p G=>g v j i p q.sub q.base q.fr G|nx σ'=>rw[e]at g;exact λZ j i D p=>g .non j i p D.rb.sub D.rb.base D.rb.fr (by simp[RW])|bk σ'|ct σ'=>rw[e]at g;exact g.elim|ex c σ'=>rw[e]at g;exact λC l j i p q J=>g C l j i p q.sub q.base q.fr J|bad=>rw[e]at g;exact g.elim
end
section
variable{P:List Value->Prop}
def us0(h:P []):∀a,a.length=0->P a:=λa e=>by grind
def us1(h:∀c,P [c]):∀b,b.length=1->P b:=λb e=>by cases b with|nil=>cases e|cons a t=>exact us0 (P:=λt=>P _) (h a) t (atx e)
def us2(h:∀d c,P [d,c]):∀b,b.length=2->P b:=λb e=>by cases b with|nil=>cases e|cons a t=>exact us1 (P:=λt=>P _) (λc=>h a _) t (atx e)
def us3(h:∀f d c,P [f,d,c]):∀b,b.length=3->P b:=λb e=>by cases b with|nil=>cases e|cons a t=>exact us2 (P:=λt=>P _) (λd c=>h a _ _) t (atx e)
def us4(h:∀g d c f,P [g,d,c,f]):∀b,b.length=4->P b:=λb e=>by cases b with|nil=>cases e|cons a t=>exact us3 (P:=λt=>P _) (λd c f=>h a _ _ _) t (atx e)
def us5(h:∀i g c f d,P [i,g,c,f,d]):∀b,b.length=5->P b:=λb e=>by cases b with|nil=>cases e|cons a t=>exact us4 (P:=λt=>P _) (λg c f d=>h a _ _ _ _) t (atx e)
def us6(h:∀j i c g d f,P [j,i,c,g,d,f]):∀b,b.length=6->P b:=λb e=>by cases b with|nil=>cases e|cons a t=>exact us5 (P:=λt=>P _) (λi c g d f=>h a _ _ _ _ _) t (atx e)
end
def AtD(K:W.Frag)(nm:Str)(st:Stmt):Prop:=∃(f:Addr)(a:FuncData),Fun K nm nm st f a/\W.nsIn K mainGlobals nm=some (some (.ref f))
def AtE(K:W.Frag)(nm:Str)(st:Stmt)(ds:Array Value):Prop:=∃(f T:Addr)(a:FuncData)(d:Option Addr)(n:Nat)(b:Array (Option Value)),FunD K nm nm st f a (.ref T)/\W.nsIn K mainGlobals nm=some (some (.ref f))/\W.keepIn K (.ref f)=true/\K.lookup T=some ⟨.type "tuple",d,.seq ds n,b⟩
def Cal(P:Program)(w:World)(K:W.Frag)(c:Str->Option Value)(a:Heap)(CX:CXT)(k:Nat)(nm:Str)(ps:List Str)(ds:List Value)(sp:Sp):Prop:=∃(f:Addr)(b:FuncData),FnOk P w K c a CX k f b ps sp/\c nm=some (.ref f)/\W.keepIn K (.ref f)=true/\Binds K b ps []/\Binds K b ps ds
section
variable{P:Program}{w:World}{K:W.Frag}{mg:Str->Option Value}{base:Heap}{CX:CXT}{k:Nat}{nm:Str}{ps:List Str}{sp:Sp}{st:Stmt}
def apU{f i od g e kV d h b ct}(a:W.nsIn K mainGlobals nm=some (some (.ref f)))(l:K.lookup f=some ⟨i,od,.func (W.fnOf nm nm (bC st) (aD st) (af st) .none kV d h g b ct),e⟩)(c:W.codeIn K b nm=true)(q:W.keepIn K (.ref f)=true):AtD K nm st:=⟨f,_,adj l c q,a⟩
def am2{f T j od h d g sl kV e i b ct ds n}(a:W.nsIn K mainGlobals nm=some (some (.ref f)))(l:K.lookup f=some ⟨j,od,.func (W.fnOf nm nm (bC st) (aD st) (af st) (.ref T) kV e i h b ct),g⟩)(c:W.codeIn K b nm=true)(q:W.keepIn K (.ref f)=true)(t:K.lookup T=some ⟨.type "tuple",d,.seq ds n,sl⟩):AtE K nm st ds:=⟨f,T,_,d,n,sl,ai2 l c,a,q,t⟩
def AtD.cal(D:AtD K nm st)(l:∀nm v,W.nsIn K mainGlobals nm=some (some v)->mg nm=some v)(g:∀kV c j i e ct d,d.length=ps.length->bindArgs (W.fnOf nm nm (bC st) (aD st) (af st) .none kV c j i e ct) ⟨d,[]⟩=pure (ps.zip d))(h:∀f b,Fun K nm nm st f b->FnOk P w K mg base CX k f b ps sp):Cal P w K mg base CX k nm ps [] sp:=by obtain⟨f,b,F,a⟩:=D;exact⟨f,b,h f _ F,l _ _ a,F.kp,F.binds g,F.binds g⟩
def AtD.aqC(D:AtD K nm st)(i:∀nm v,W.nsIn K mainGlobals nm=some (some v)->mg nm=some v)(g:∀kV c l j e ct d,d.length=ps.length->bindArgs (W.fnOf nm nm (bC st) (aD st) (af st) .none kV c l j e ct) ⟨d,[]⟩=pure (ps.zip d))(h:∀f b,Fun K nm nm st f b->mg nm=some (.ref f)->Binds K b ps []->FnOk P w K mg base CX k f b ps sp):Cal P w K mg base CX k nm ps [] sp:=by obtain⟨f,b,F,a⟩:=D;exact⟨f,b,h f _ F (i _ _ a) (F.binds g),i _ _ a,F.kp,F.binds g,F.binds g⟩
def AtE.cal{ds}(D:AtE K nm st ds.toArray)(l:∀nm v,W.nsIn K mainGlobals nm=some (some v)->mg nm=some v)(o:∀T kV b j i e ct c,(c++[]).length=ps.length->∃k,bindArgs (W.fnOf nm nm (bC st) (aD st) (af st) (.ref T) kV b j i e ct) ⟨c,[]⟩=seqItems? (.ref T)>>=k/\k (some ds.toArray)=pure (ps.zip (c++[])))(p:∀T kV b j i e ct c,(c++ds).length=ps.length->∃k,bindArgs (W.fnOf nm nm (bC st) (aD st) (af st) (.ref T) kV b j i e ct) ⟨c,[]⟩=seqItems? (.ref T)>>=k/\k (some ds.toArray)=pure (ps.zip (c++ds)))(h:∀f g m,FunD K nm nm st f g m->FnOk P w K mg base CX k f g ps sp):Cal P w K mg base CX k nm ps ds sp:=by obtain⟨f,T,g,d,n,r,F,a,q,t⟩:=D;exact⟨f,g,h f _ _ F,l _ _ a,q,F.binds t rfl (o T),F.binds t rfl (p T)⟩
end
section
variable{X:Cx}{B:Bx}{k j:Nat}{ps:List Str}{ds:List Value}{fn:List VW->Res VW}{x:Str}{p pos:Pos}{e:Expr}{es:List Expr}{tas:AF}{n:Nat}{dws:List VW}{dvs:List V}
def cl(o:B.K=X.K)(r:Room j X.A)(C:Cal X.prog X.w X.K X.mg X.base CX0 k x ps ds (spW X.K n fn))(i:PA X (e::es) (loA B tas))(d:k<=j:=by decide)(g:∀s ws,tas s=.ok ws->ws.length=n:=by repeat first|exact iu|apply de)(h:Gl X x:=by rfl)(a:Dbg x:=by decide)(l:SE X e es:=by rfl)(c:BT X pos es:=by rfl):PE X (.Call (.Name x p) (e::es) [] pos) (lo B (WL.az fn tas)):=by refine oz C λf t G m q b _=>?_;exact vo o.symm G (r.mono d) h m q b i g a l c
def cl0(d:B.K=X.K)(h:Room j X.A)(C:Cal X.prog X.w X.K X.mg X.base CX0 k x ps ds (spW X.K 0 fn))(c:k<=j:=by decide)(g:Gl X x:=by rfl)(a:Dbg x:=by decide):PE X (.Call (.Name x p) [] [] pos) (lo B (WL.az fn WL.au)):=by obtain⟨f,i,G,m,q,b,_⟩:=C;exact aeB d.symm G (h.mono c) g m q b a
def clX(o:B.K=X.K)(s:Room j X.A)(r:XW X B)(C:Cal X.prog X.w X.K X.mg X.base (CXX X.prog X.w) k x ps ds (spX X.K n fn))(i:PA X (e::es) (loA B tas))(d:k<=j:=by decide)(g:∀t ws,tas t=.ok ws->ws.length=n:=by repeat first|exact iu|apply de)(h:Gl X x:=by rfl)(a:Dbg x:=by decide)(l:SE X e es:=by rfl)(c:BT X pos es:=by rfl):PE X (.Call (.Name x p) (e::es) [] pos) (lo B (WL.dk fn tas)):=by refine oz C λf u G m q b _=>?_;exact aeA o.symm r G (s.mono d) h m q b i g a l c
def clD(r:B.K=X.K)(u:Room j X.A)(t:XW X B)(C:Cal X.prog X.w X.K X.mg X.base (CXX X.prog X.w) k x ps ds (spX X.K n fn))(c:Vals dvs ds)(s:∀F,RWs B.K F dws dvs)(l:PA X (e::es) (loA B tas))(h:∀v ws,tas v=.ok ws->ws.length+dws.length=n)(g:k<=j:=by decide)(i:Gl X x:=by rfl)(a:Dbg x:=by decide)(o:SE X e es:=by rfl)(d:BT X pos es:=by rfl):PE X (.Call (.Name x p) (e::es) [] pos) (lo B (WL.dk (λws=>fn (ws++dws)) tas)):=by refine oz C λf w G m q _ b=>?_;exact aa6 r.symm t G (u.mono g) i m q b c s l h a o d
end
def am0{a}{ps:List Str}(h:bindArgs a ⟨[],[]⟩=pure (ps.zip []))(us)(e:us.length=0):bindArgs a ⟨us,[]⟩=pure (ps.zip us):=by grind
def bind1{b}{ps:List Str}(h:∀a,bindArgs b ⟨[a],[]⟩=pure (ps.zip [a]))(us)(e:us.length=1):bindArgs b ⟨us,[]⟩=pure (ps.zip us):=us1 (P:=λus=>bindArgs _ ⟨us,[]⟩=pure _) h _ e
def aaA{b}{ps:List Str}(h:∀a c,bindArgs b ⟨[a,c],[]⟩=pure (ps.zip [a,c]))(us)(e:us.length=2):bindArgs b ⟨us,[]⟩=pure (ps.zip us):=us2 (P:=λus=>bindArgs _ ⟨us,[]⟩=pure _) h _ e
def u6{c}{ps:List Str}(h:∀a d b,bindArgs c ⟨[a,d,b],[]⟩=pure (ps.zip [a,d,b]))(us)(e:us.length=3):bindArgs c ⟨us,[]⟩=pure (ps.zip us):=us3 (P:=λus=>bindArgs _ ⟨us,[]⟩=pure _) h _ e
def af5{c}{ps:List Str}(h:∀a f b d,bindArgs c ⟨[a,f,b,d],[]⟩=pure (ps.zip [a,f,b,d]))(us)(e:us.length=4):bindArgs c ⟨us,[]⟩=pure (ps.zip us):=us4 (P:=λus=>bindArgs _ ⟨us,[]⟩=pure _) h _ e
def amZ{d}{ps:List Str}(h:∀a g b f c,bindArgs d ⟨[a,g,b,f,c],[]⟩=pure (ps.zip [a,g,b,f,c]))(us)(e:us.length=5):bindArgs d ⟨us,[]⟩=pure (ps.zip us):=us5 (P:=λus=>bindArgs _ ⟨us,[]⟩=pure _) h _ e
def amY{f}{ps:List Str}(h:∀a i b g c d,bindArgs f ⟨[a,i,b,g,c,d],[]⟩=pure (ps.zip [a,i,b,g,c,d]))(us)(e:us.length=6):bindArgs f ⟨us,[]⟩=pure (ps.zip us):=us6 (P:=λus=>bindArgs _ ⟨us,[]⟩=pure _) h _ e
def ud2{b T it ds}{ps:List Str}(h:∀a c,∃k,bindArgs b ⟨[a,c],[]⟩=seqItems? (.ref T)>>=k/\k (some it)=pure (ps.zip ([a,c]++ds)))(us)(e:us.length=2):∃k,bindArgs b ⟨us,[]⟩=seqItems? (.ref T)>>=k/\k (some it)=pure (ps.zip (us++ds)):=us2 (P:=λus=>∃k,bindArgs _ ⟨us,[]⟩=seqItems? _ >>=k/\k _=pure (ps.zip (us++ds))) h _ e
def ud3{c T it ds}{ps:List Str}(h:∀a d b,∃k,bindArgs c ⟨[a,d,b],[]⟩=seqItems? (.ref T)>>=k/\k (some it)=pure (ps.zip ([a,d,b]++ds)))(us)(e:us.length=3):∃k,bindArgs c ⟨us,[]⟩=seqItems? (.ref T)>>=k/\k (some it)=pure (ps.zip (us++ds)):=us3 (P:=λus=>∃k,bindArgs _ ⟨us,[]⟩=seqItems? _ >>=k/\k _=pure (ps.zip (us++ds))) h _ e
def cm{k}{A:Around}{a}(r:Room k (A.deeper a))(h:40<=k:=by first|decide|omega|exact arq (show 40<=_ by decide) (as3 _ _)):A.handled.isNone=true:=r.calm h
section
variable{X:Cx}{B:Bx}{a b e:Expr}{ta tb:EF}{pos:Pos}{x:Str}
def va(i)(g:X.N[i]?=some x:=by rfl)(d:Vis X.env.scope x:=by first|exact Or.inl rfl|exact Or.inr (Or.inl rfl)|exact Or.inr (Or.inr rfl))(f:Dbg x:=by decide)(c:(x=="__classdict__")=false:=by decide):PE X (.Name x pos) (lo B (WL.aq i)):=akf (pv i g d f c)
def wx(d:B.K=X.K)(g:PE X a (lo B ta))(f:PE X b (lo B tb))(c:kT b:=by exact λ_ _=>rfl):PE X (.Subscript a b pos) (lo B (WL.eOp WL.oIx ta tb)):=akg ad3 (ap5 d.symm) g f c
def wk{v u w}(g:B.K=X.K)(f:X.mg x=some u)(r:RelV v u)(hw:∀F,RW X.K F w v)(c:Gl X x:=by rfl)(d:Dbg x:=by decide):PE X (.Name x pos) (lo B (WL.eC w)):=ahB (vQ c f r d) (by grind)
def wty{T}(f:X.mg x=none)(c:bootBuiltins x=some (.type T))(h:Gl X x:=by rfl)(g:x≠"__name__":=by decide)(d:Dbg x:=by decide):PE X (.Name x pos) (lo B (WL.eC (.ty T))):=ahB (aoJ h f c g d) λ_=>rfl
def wcl{nm:String}{C:Addr}(g:B.K=X.K)(d:X.mg x=some (.ref C))(f:ExcAt X.K nm C)(h:Gl X x:=by rfl)(c:Dbg x:=by decide):PE X (.Name x pos) (lo B (WL.eC (.cls nm))):=akj g.symm h d f c
def gx{i d a0 kvs}{ks vs:List VW}{p}(c:B.K=X.K)(g:X.mg x=some (.ref a0))(D:aeg X.w X.K a0 kvs)(h:∀F k w,WL.rM k ks vs=some w->∃v,kvs.lookup k=some v/\RW X.K F w v)(m:PE X i (lo B d))(f:Gl X x:=by rfl)(j:kT i:=by exact λ_ _=>rfl)(l:Dbg x:=by decide):PE X (.Subscript (.Name x p) i pos) (lo B (WL.eOp WL.oIx (WL.eC (.dic ks vs)) d)):=aki c.symm (vQ f g rfl l) D m (by rw[c];exact h) j
def we2(c:B.K=X.K)(d:X.A.units+64<cLine)(g:PE X a (lo B ta))(f:PE X b (lo B tb)):PT X (.Compare a [.Eq] [b] pos) (loT B (WL.tB (WL.eOp WL.oEq ta tb))):=bE calm_eq (w_eq c.symm d) g f (aS _)
def wn2(c:B.K=X.K)(d:X.A.units+64<cLine)(g:PE X a (lo B ta))(f:PE X b (lo B tb)):PT X (.Compare a [.NotEq] [b] pos) (loT B (WL.tB (WL.eOp WL.oNe ta tb))):=bE ajr (aqG c.symm d) g f (aS _)
def wS(i){c}(f:X.N.Nodup)(g:PE X e (lo B ta))(k:X.N[i]?=some x:=by rfl)(h:Loc X.env.scope x:=by first|exact Or.inl rfl|exact Or.inr rfl)(d:swapsWith e (some (.Name x c)) pos.line X.env=pure false:=by rfl)(j:FL X x:=by first|exact .inl rfl|exact .inr rfl|assumption):PS X (.Assign [.Name x c] e pos) (loS B (WL.cP i ta)):=akb f k h g d j
def gN(i){b}(g:X.N.Nodup:=by exact yj rfl)(c:X.N[i]?=some x:=by rfl)(d:Loc X.env.scope x:=by first|exact Or.inl rfl|exact Or.inr rfl)(f:FL X x:=by first|exact .inl rfl|exact .inr rfl|assumption):PG X (.Name x pos) (loG b B (WL.aA i)):=ahx (vP g c d f)
end
section
variable{X:Cx}{B:Bx}{r:List VW->Res VW}{tas:AF}{x:Str}{e:Expr}{es:List Expr}{p pos:Pos}{id:String}
def wB(cm:∀f c,r f≠.ex c)(d:ba X (.builtin id) (loN B.K r))(l:X.mg x=none)(j:bootBuiltins x=some (.builtin id))(i:PA X (e::es) (loA B tas))(h:Gl X x:=by rfl)(g:x≠"__name__":=by decide)(b:Dbg x:=by decide)(k:SE X e es:=by rfl)(a:BT X pos es:=by rfl):PE X (.Call (.Name x p) (e::es) [] pos) (lo B (WL.eBi r tas)):=akl cm (x9 d h l j i g b k a)
def wT(cm:∀f c,r f≠.ex c)(d:ba X (.type id) (loN B.K r))(l:X.mg x=none)(j:bootBuiltins x=some (.type id))(i:PA X (e::es) (loA B tas))(h:Gl X x:=by rfl)(g:x≠"__name__":=by decide)(b:Dbg x:=by decide)(k:SE X e es:=by rfl)(a:BT X pos es:=by rfl):PE X (.Call (.Name x p) (e::es) [] pos) (lo B (WL.eBi r tas)):=akl cm (ny d h l j i g b k a)
def ajC(P:Program)(w:World)(K:W.Frag)(c:Str->Option Value)(a:Heap)(fI:Addr)(ps:List Str)(sp:Sp):Prop:=∃b:FuncData,FnOk P w K c a CX0 1 fI b ps sp/\Binds K b ps []
def rI{j C fI ps nm i c}(m:B.K=X.K)(n:Room j X.A)(s:XW X B)(f:X.calm=true)(k:X.mg x=some (.ref C))(q:oD X.K C (some (.ref fI)))(d:W.typeIn X.K (.ref fI)=some (.type "function"))(I:ajC X.prog X.w X.K X.mg X.base fI ps (spI C (WL.fieldsOf nm)))(u:ExcAt X.K nm C)(v:PA X (e::es) (loA B tas))(t:2<=j:=by decide)(g:Gl X x:=by rfl)(l:(WL.fieldsOf nm).length<=50:=by decide)(o:Dbg x:=by decide)(h:SE X e es:=by rfl)(a:BT X c es:=by rfl):PS X (.Raise (some (.Call (.Name x i) (e::es) [] c)) none pos) (loS B (WL.kq nm tas)):=by obtain⟨w,F,b⟩:=I;exact aaY m.symm s f g k q d F (n.mono t) b u l v o h a
end
section
variable{K:W.Frag}
def akH{a d n sl vs xs}(l:K.lookup a=some ⟨.type "tuple",d,.seq vs n,sl⟩)(c:Vals xs vs.toList)(b:vs.size<=sizeLine):∀H,SqT K H a xs:=λ_=>.inr ⟨_,_,_,l,rfl,rfl,b,c⟩
def amw{f a st j od h e kV d i b ct}(l:K.lookup f=some ⟨j,od,.func (W.fnOf "__init__" a (bC st) (aD st) (af st) .none kV d i h b ct),e⟩)(c:W.codeIn K b a=true)(q:W.keepIn K (.ref f)=true):∃g,Fun K "__init__" a st f g:=⟨_,adj l c q⟩
def rh{P w i b f a st ps sp}(D:∃c,Fun K "__init__" a st f c)(k:∀kV d l j g ct e,e.length=ps.length->bindArgs (W.fnOf "__init__" a (bC st) (aD st) (af st) .none kV d l j g ct) ⟨e,[]⟩=pure (ps.zip e))(h:∀c,Fun K "__init__" a st f c->FnOk P w K i b CX0 1 f c ps sp):ajC P w K i b f ps sp:=by obtain⟨c,F⟩:=D;exact⟨c,h _ F,F.binds k⟩
def afN{nm a}(b:W.nsIn K mainGlobals (Str.ofString nm)=some (some (.ref a)))(c:W.typeIn K (.ref a)=some (.type "type"))(d:(W.clsIn K a).map (·.mro)=some (.ref a::gf))(e:W.findIn K (.ref a) "__getattribute__"=some (some (.builtin "BaseException.__getattribute__")))(f:W.findIn K (.ref a) "__getattr__"=some none)(g:W.findIn K (.ref a) "__class__"=some (some (.builtin "object.__class__"))):W.nsIn K mainGlobals (Str.ofString (nm,a).1)=some (some (.ref (nm,a).2))/\Exc1 K a (nm,a).2:=⟨b,c,.inl ⟨d,rfl⟩,e,f,g⟩
def ai8{nm a b}(h:W.nsIn K mainGlobals (Str.ofString nm)=some (some (.ref a)))(c:W.typeIn K (.ref a)=some (.type "type"))(d:(W.clsIn K a).map (·.mro)=some (.ref a::.ref b::gf))(e:W.findIn K (.ref a) "__getattribute__"=some (some (.builtin "BaseException.__getattribute__")))(f:W.findIn K (.ref a) "__getattr__"=some none)(g:W.findIn K (.ref a) "__class__"=some (some (.builtin "object.__class__"))):W.nsIn K mainGlobals (Str.ofString (nm,a).1)=some (some (.ref (nm,a).2))/\Exc1 K b (nm,a).2:=⟨h,c,.inr d,e,f,g⟩
end
def amd{P w K i k n st o ps}(D:AtD K "law" st)(y:∀nm v,W.nsIn K mainGlobals nm=some (some v)->i nm=some v)(l:i "law"=some (.ref o)){x}(t:∀kV d p m g ct v,bindArgs (W.fnOf "law" "law" (bC st) (aD st) (af st) .none kV d p m g ct) ⟨[v],[]⟩=pure [(x,v)])(h:∀b f c,Fun K "law" "law" st f c->FnOk P w K i b CX0 k f c ps (spW K 1 n))(u:∀q:List Int,q.length<=63->n [.lst (q.map .int)]=.ok (.bl true)):∃c,(∀s v,BindsTo s c ⟨[v],[]⟩ [(x,v)])/\∀b,K.In b->b.Ns mainGlobals i->FnOk P w K i b CX0 k o c ps (abz K):=by refine dU D λf c F a=>?_;have e:=l.symm.trans (y _ _ a);cases e;refine⟨c,λs v=>?_,λb _ _=>amc (h _ _ _ F) u⟩;refine age F.ex λB od kV d p m g ct z j A r=>?_;subst j;exact .of_eq (t _ _ _ _ _ _ v)
noncomputable def noL(K:W.Frag):Bool:=K.all λp=>match p.2.cls with|.type n=>n !="list"|_=>true
theorem agM:∀{K:W.Frag},noL K=true->∀{a:Addr}{o:Obj},K.lookup a=some o->o.cls≠.type "list"
|[],_,a,o,e=>by simp at e|(b,u)::K,h,a,o,e=>by
 simp only[noL,List.all_cons,ary]at h;rw[ar9]at e;split at e;.cases e;intro z;have c:=h.1;rw[z]at c;simp at c
 .exact agM h.2 e
def SqL.here{K:W.Frag}{F:Hp}{a:Addr}{vs:List V}(h:noL K=true)(q:SqL K F a vs):Rd F a (.lst vs):=by
 rcases q with q|⟨o,d,n,c,b,_⟩;.exact q
 .exact absurd b (agM h c)
noncomputable def uni(G b:Hp):Hp:=λa=>match G a with|some o=>some o|none=>b a
def ahN{G b:Hp}:av G (uni G b):=λa o e=>by unfold uni;rw[e]
def ahM{G b F:Hp}(h:av G F)(h':av b F):av b (uni G b):=λa o e=>by unfold uni;cases c:G a with|none=>exact e|some u=>rw[<-h a u c,h' a o e]
def abf{G c:Hp}{a:Addr}{o:HO}(e:uni G c a=some o):G a=some o\/G a=none/\c a=some o:=by unfold uni at e;cases b:G a with|none=>rw[b]at e;exact .inr ⟨rfl,e⟩|some u=>rw[b]at e;exact .inl e
def abe{G b F:Hp}(h:av G F)(h':av b F):av (uni G b) F:=λa o e=>by
 rcases abf e with e|⟨_,e⟩;.exact h a o e
 .exact h' a o e
def abd{G b:Hp}{a:Addr}{u:HO}(e:Rd (uni G b) a u):Rd G a u\/Rd b a u:=by
 rcases e with e|⟨o,e⟩
 .rcases abf e with e|⟨_,e⟩;.exact .inl (.inl e)
  .exact .inr (.inl e)
 .rcases abf e with e|⟨_,e⟩;.exact .inl (.inr ⟨o,e⟩)
  .exact .inr (.inr ⟨o,e⟩)
noncomputable def one(a:Addr)(o:HO):Hp:=λb=>if b=a then some o else none
def tK{a b:Addr}{o u:HO}(e:one a o b=some u):b=a/\u=o:=by
 unfold one at e;split at e;.rename_i h;cases e;exact⟨h,rfl⟩
 .cases e
def one_le{a:Addr}{o:HO}{F:Hp}(h:F a=some o):av (one a o) F:=λb u e=>by obtain⟨rfl,rfl⟩:=tK e;exact h
def yc{a:Addr}{o:HO}:one a o a=some o:=arj rfl
section
variable{K:W.Frag}{F:Hp}
def Sm(K:W.Frag)(F G:Hp)(c:List (List VW)):Prop:=∀a b,Rd G a (.lst b)->∃l∈c,RWs K F l b
def kr{a:Addr}{u:HO}(h:Rd (λ_=>none) a u):False:=by rcases h with h|⟨_,h⟩<;>cases h
mutual theorem small:∀(w:VW)(v:V),WL.aZ w=true->RW K F w v->∃G,av G F/\RW K G w v/\Sm K F G (WL.eZ w)
|.non,v,_,h=>⟨λ_=>none,λ_ _ e=>(by cases e),by simpa only[RW]using h,λ_ _ e=>(kr e).elim⟩|.bl _,v,_,h=>⟨λ_=>none,λ_ _ e=>(by cases e),by simpa only[RW]using h,λ_ _ e=>(kr e).elim⟩|.int _,v,_,h=>⟨λ_=>none,λ_ _ e=>(by cases e),by simpa only[RW]using h,λ_ _ e=>(kr e).elim⟩|.str _,v,_,h=>⟨λ_=>none,λ_ _ e=>(by cases e),by simpa only[RW]using h,λ_ _ e=>(kr e).elim⟩|.ty _,v,_,h=>⟨λ_=>none,λ_ _ e=>(by cases e),by simpa only[RW]using h,λ_ _ e=>(kr e).elim⟩|.tup ws,v,f,h=>by
  simp only[RW]at h;obtain⟨a,vs,rfl,q,r⟩:=h;obtain⟨G,s,rg,sm⟩:=xK ws vs (by simpa only[WL.aZ]using f) r;rcases q with q|q
  .obtain⟨x,ex,hx⟩:∃x,F a=some x/\(x=.tup vs\/∃o,x=.frz o (.tup vs)):=by
    rcases q with q|⟨o,q⟩;.exact⟨_,q,.inl rfl⟩
    .exact⟨_,q,.inr ⟨o,rfl⟩⟩
   have s1:av (one a x) F:=one_le ex;refine⟨uni G (one a x),abe s s1,?_,λb us e=>?_⟩
   .simp only[RW];refine⟨a,vs,rfl,.inl ?_,rg.keep ahN⟩;have e:=ahM s s1 a x yc;rcases hx with rfl|⟨o,rfl⟩;.exact .inl e
    .exact .inr ⟨o,e⟩
   .rcases abd e with e|e;.simpa only[WL.eZ]using sm b us e
    .rcases e with e|⟨o,e⟩;.obtain⟨_,rfl⟩:=tK e;rcases hx with z|⟨o,z⟩<;>cases z
     .obtain⟨_,rfl⟩:=tK e;rcases hx with z|⟨o,z⟩<;>cases z
  .exact⟨G,s,by simp only[RW];exact⟨a,vs,rfl,.inr q,rg⟩,by simpa only[WL.eZ]using sm⟩|.lst ws,v,f,h=>by
  simp only[RW]at h;obtain⟨a,vs,rfl,q,r⟩:=h;obtain⟨G,s,rg,sm⟩:=xK ws vs (by simpa only[WL.aZ]using f) r;have up:Sm K F G (WL.eZ (.lst ws)):=λb us e=>by obtain⟨l,hl,hr⟩:=sm b us e;exact⟨l,by simp only[WL.eZ];exact arH _ hl,hr⟩
  rcases q with q|q
  .obtain⟨x,ex,hx⟩:∃x,F a=some x/\(x=.lst vs\/∃o,x=.frz o (.lst vs)):=by
    rcases q with q|⟨o,q⟩;.exact⟨_,q,.inl rfl⟩
    .exact⟨_,q,.inr ⟨o,rfl⟩⟩
   have s1:av (one a x) F:=one_le ex;refine⟨uni G (one a x),abe s s1,?_,λb us e=>?_⟩
   .simp only[RW];refine⟨a,vs,rfl,.inl ?_,rg.keep ahN⟩;have e:=ahM s s1 a x yc;rcases hx with rfl|⟨o,rfl⟩;.exact .inl e
    .exact .inr ⟨o,e⟩
   .rcases abd e with e|e;.exact up b us e
    .have e2:us=vs:=by
      rcases e with e|⟨o,e⟩;.obtain⟨_,z⟩:=tK e;rcases hx with y|⟨o,y⟩<;>rw[y]at z<;>cases z;rfl
      .obtain⟨_,z⟩:=tK e;rcases hx with y|⟨o,y⟩<;>rw[y]at z<;>cases z;rfl
     subst e2;exact⟨ws,by simp[WL.eZ],r⟩
  .exact⟨G,s,by simp only[RW];exact⟨a,vs,rfl,.inr q,rg⟩,up⟩|.dic _ _,_,f,_=>by simp[WL.aZ]at f|.cls _,_,f,_=>by simp[WL.aZ]at f|.exc _ _,_,f,_=>by simp[WL.aZ]at f|.ins _ _,_,f,_=>by simp[WL.aZ]at f|.id _,_,f,_=>by simp[WL.aZ]at f theorem xK:∀(ws:List VW)(vs:List V),WL.bI ws=true->RWs K F ws vs->∃G,av G F/\RWs K G ws vs/\Sm K F G (WL.cy ws)
|[],vs,_,h=>⟨λ_=>none,λ_ _ e=>(by cases e),by simpa only[RWs]using h,λ_ _ e=>(kr e).elim⟩|w::ws,vs,f,h=>by
  simp only[RWs]at h;obtain⟨v,r,rfl,h1,h2⟩:=h;simp only[WL.bI,ary]at f;obtain⟨G1,s1,r1,m1⟩:=small w v f.1 h1;obtain⟨G2,s2,r2,m2⟩:=xK ws r f.2 h2;refine⟨uni G1 G2,abe s1 s2,.cons (r1.keep ahN) (r2.keep (ahM s1 s2)),λb us e=>?_⟩;simp only[WL.cy,arN];rcases abd e with e|e;.obtain⟨l,hl,hr⟩:=m1 b us e;exact⟨l,.inl hl,hr⟩
  .obtain⟨l,hl,hr⟩:=m2 b us e;exact⟨l,.inr hl,hr⟩end
mutual theorem ai7:∀(w:VW),WL.aZ w=true->∀l∈WL.eZ w,WL.bI l=true
|.tup ws,f,l,h=>mi ws (by simpa only[WL.aZ]using f) l (by simpa only[WL.eZ]using h)|.lst ws,f,l,h=>by
 simp only[WL.eZ,arx]at h;simp only[WL.aZ]at f;rcases h with rfl|h;.exact f
 .exact mi ws f l h|.non,_,l,h=>by simp[WL.eZ]at h|.bl _,_,l,h=>by simp[WL.eZ]at h|.int _,_,l,h=>by simp[WL.eZ]at h|.str _,_,l,h=>by simp[WL.eZ]at h|.ty _,_,l,h=>by simp[WL.eZ]at h|.dic _ _,f,_,_=>by simp[WL.aZ]at f|.cls _,f,_,_=>by simp[WL.aZ]at f|.exc _ _,f,_,_=>by simp[WL.aZ]at f|.ins _ _,f,_,_=>by simp[WL.aZ]at f|.id _,f,_,_=>by simp[WL.aZ]at f theorem mi:∀(ws:List VW),WL.bI ws=true->∀l∈WL.cy ws,WL.bI l=true
|[],_,l,h=>by simp[WL.cy]at h|w::ws,f,l,h=>by
 simp only[WL.bI,ary]at f;simp only[WL.cy,arN]at h;rcases h with h|h;.exact ai7 w f.1 l h
 .exact mi ws f.2 l h end
end
section
variable{X:Cx}{pins:List (Addr×Obj)}{σV:L2.St}{H:Hp}{s:Shared}
def acE(I:Inv X pins σV H s){a:Addr}{xs ys:List V}(h:SqT X.K H a xs)(h':SqL X.K H a ys):False:=by obtain⟨_,_,⟨o,e,c,_⟩,_⟩:=I.tuple h;obtain⟨_,_,⟨g,f,d,b,_⟩,_⟩:=I.list h';rw[e]at d;cases d;rw[c]at b;exact absurd b (by decide)
mutual theorem RW.det(I:Inv X pins σV H s):∀(w w':VW)(v:V),WL.aZ w=true->WL.aZ w'=true->RW X.K H w v->RW X.K H w' v->w=w'
|.non,w',v,_,f',h,h'=>by cases w'<;>simp_all[RW,WL.aZ]|.bl _,w',v,_,f',h,h'=>by cases w'<;>simp_all[RW,WL.aZ]|.int _,w',v,_,f',h,h'=>by cases w'<;>simp_all[RW,WL.aZ]|.str _,w',v,_,f',h,h'=>by cases w'<;>simp_all[RW,WL.aZ]|.ty _,w',v,_,f',h,h'=>by cases w'<;>simp_all[RW,WL.aZ]|.tup ws,w',v,f,f',h,h'=>by simp only[RW]at h;obtain⟨a,vs,rfl,q,r⟩:=h;cases w' with|tup ws'=>simp only[RW]at h';obtain⟨a',vs',e,q',r'⟩:=h';cases e;cases I.mD q q';rw[RWs.det I ws ws' vs (by simpa only[WL.aZ]using f) (by simpa only[WL.aZ]using f') r r']|lst ws'=>simp only[RW]at h';obtain⟨a',vs',e,q',r'⟩:=h';cases e;exact(acE I q q').elim|dic _ _=>simp[WL.aZ]at f'|cls _=>simp[WL.aZ]at f'|exc _ _=>simp[WL.aZ]at f'|ins _ _=>simp[WL.aZ]at f'|id _=>simp[WL.aZ]at f'|_=>simp[RW]at h'
|.lst ws,w',v,f,f',h,h'=>by simp only[RW]at h;obtain⟨a,vs,rfl,q,r⟩:=h;cases w' with|lst ws'=>simp only[RW]at h';obtain⟨a',vs',e,q',r'⟩:=h';cases e;cases I.qZ q q';rw[RWs.det I ws ws' vs (by simpa only[WL.aZ]using f) (by simpa only[WL.aZ]using f') r r']|tup ws'=>simp only[RW]at h';obtain⟨a',vs',e,q',r'⟩:=h';cases e;exact(acE I q' q).elim|dic _ _=>simp[WL.aZ]at f'|cls _=>simp[WL.aZ]at f'|exc _ _=>simp[WL.aZ]at f'|ins _ _=>simp[WL.aZ]at f'|id _=>simp[WL.aZ]at f'|_=>simp[RW]at h'
|.dic _ _,_,_,f,_,_,_=>by simp[WL.aZ]at f|.cls _,_,_,f,_,_,_=>by simp[WL.aZ]at f|.exc _ _,_,_,f,_,_,_=>by simp[WL.aZ]at f|.ins _ _,_,_,f,_,_,_=>by simp[WL.aZ]at f|.id _,_,_,f,_,_,_=>by simp[WL.aZ]at f theorem RWs.det(I:Inv X pins σV H s):∀(ws ws':List VW)(vs:List V),WL.bI ws=true->WL.bI ws'=true->RWs X.K H ws vs->RWs X.K H ws' vs->ws=ws'
|[],ws',vs,_,_,h,h'=>by simp only[RWs]at h;subst h;cases ws' with|nil=>rfl|cons w ws'=>simp[RWs]at h'
|w::ws,ws',vs,f,f',h,h'=>by simp only[RWs]at h;obtain⟨v,r,rfl,h1,h2⟩:=h;cases ws' with|nil=>simp[RWs]at h'|cons w' ws'=>simp only[RWs]at h';obtain⟨v',r',e,h1',h2'⟩:=h';cases e;simp only[WL.bI,ary]at f f';rw[RW.det I w w' v f.1 f'.1 h1 h1',RWs.det I ws ws' r f.2 f'.2 h2 h2']end
end
section
variable{X:Cx}{B:Bx}{σ:Ws}{σV:L2.St}{F H:Hp}
def RS.drop(R:RS B σ σV F H)(i:Nat)(x:Option V):RS B (σ.set i .no) (σV.set i x) F H:=by
 have c:∀{j:Nat}{sl:Sl},(σ.set i .no)[j]?=some sl->sl≠.no->i≠j/\σ[j]?=some sl:=λ{j sl}e p=>by
  by_cases b:i=j
  .subst b;have r:i<σ.length:=by have:=(ari.mp e).1;simpa using this
   rw[ark r]at e;cases e;exact absurd rfl p
  .rw[arh b]at e;exact⟨b,e⟩
 refine⟨R.rb,by simp[R.len],λj w e=>?_,λj ws e=>?_,λj k ws g a f h d m l=>?_,R.ajS i (sl:=.no) (λz=>z) _ (av.refl _) λ_ _ _ _ _ _ _ _ q n=>⟨n,q⟩⟩;.obtain⟨b,e⟩:=c e (by intro z;cases z);rw[arh b];exact R.va j w e
 .obtain⟨b,e⟩:=c e (by intro z;cases z);rw[arh b];exact R.ow j ws e
 .obtain⟨b,h⟩:=c h (by intro z;cases z);obtain⟨o,d⟩:=c d (by intro z;cases z);rw[arh b]at m;rw[arh o]at l;exact R.ap j k ws g a f h d m l
def RS.away(R:RS B σ σV F H){a:Addr}(o:HO)(x:F a=none)(q:B.H0 a=none)(k:∀(j:Nat)(ws:List VW),σ[j]?=some (Sl.ow ws)->σV[j]?≠some (some (V.ref a)))(d:∀(j:Nat)(g f:List VW),σ[j]?=some (Sl.od g f)->σV[j]?≠some (some (V.ref a))):RS B σ σV F (upd H a o):=by
 refine⟨⟨λb u e=>?_,λb u e=>?_,R.rb.fz0,R.rb.fr⟩,R.len,R.va,λj ws e=>?_,R.ap,R.dd.via rfl id (λ_ _ z=>.inl z) (λ_ _ _ e=>⟨e,rfl⟩) (av.refl _) λj g f b t r m w i s=>⟨i,s,by
  have c:b≠a:=λz=>by subst z;exact d j g f r m
  rw[ag c];exact w⟩⟩
 .have c:b≠a:=λz=>by subst z;rw[x]at e;cases e
  rw[ag c];exact R.rb.sub b u e
 .have c:b≠a:=λz=>by subst z;rw[q]at e;cases e
  rw[ag c];exact R.rb.base b u e
 .obtain⟨b,l,h,y,v,p,n⟩:=R.ow j ws e;have c:b≠a:=λz=>by subst z;exact k j ws e h
  exact⟨b,l,h,y,v,by rw[ag c];exact p,n⟩
structure Mid(B:Bx)(i:Nat)(as:List VW)(σ:Ws)(σV:L2.St)(F H F0:Hp):Prop where
 rs:RS B σ σV F H
 old:RS B (σ.set i .no) σV F0 H
 sub:av F0 F
 fl:WL.bI as=true
 tl:∃(Fa Fr:Hp)(w:VW)(v:V),σ[i]?=some (.va w)/\σV[i]?=some (some v)/\av Fr F/\RW B.K Fr w v/\Sm B.K F Fa (WL.cy as)/\∀a o,Fr a=some o->Fa a=some o\/F0 a=none/\B.H0 a=none/\NF o
theorem Mid.grow{i:Nat}{d:List VW}{c b H':Hp}(m:Mid B i d σ σV F H c)(k:RS B σ σV b H')(g:Gr F H b H'):Mid B i d σ σV b H' c:=by obtain⟨n,Fr,w,v,o,f,s,r,j,fr⟩:=m.tl;refine⟨k,m.old.grow ⟨av.refl _,g.h,λ_ _ _ z=>z⟩ ⟨m.old.rb.sub.trans g.h,m.old.rb.base.trans g.h,m.old.rb.fz0,m.old.rb.fr⟩,m.sub.trans g.f,m.fl,n,Fr,w,v,o,f,s.trans g.f,r,λa h e=>?_,fr⟩;obtain⟨l,p,q⟩:=j a h e;exact⟨l,p,q.keep g.f⟩
def Mid.at{i:Nat}{b:List VW}{c:Hp}(m:Mid B i b σ σV F H c){pins:List (Addr×Obj)}{s:Shared}(e:B.K=X.K)(d:noL X.K=true)(I:Inv X pins σV H s){f Fr:Hp}(t:av Fr F)(n:Sm B.K F f (WL.cy b))(fr:∀a o,Fr a=some o->f a=some o\/c a=none/\B.H0 a=none/\NF o){a:Addr}{ws:List VW}{vs:List V}(q:SqL B.K Fr a vs)(r:RWs B.K Fr ws vs)(k:WL.bI ws=true)(h:ws∉WL.cy b):Fr a=some (.lst vs)/\c a=none/\B.H0 a=none:=by
 have no:¬Rd f a (.lst vs):=λz=>by obtain⟨l,g,u⟩:=n a vs z;refine h ?_;have j:RWs X.K H ws vs:=e▸(r.keep t).keep m.rs.rb.sub;have p:RWs X.K H l vs:=e▸u.keep m.rs.rb.sub;rw[RWs.det I ws l vs k (mi b m.fl l g) j p];exact g
 rcases SqL.here (e▸d) q with q|⟨o,q⟩
 .rcases fr a _ q with z|z;.exact(no (.inl z)).elim
  .exact⟨q,z.1,z.2.1⟩
 .rcases fr a _ q with z|z;.exact(no (.inr ⟨o,z⟩)).elim
  .exact z.2.2.elim
def loM(B:Bx)(i:Nat)(b:List VW)(t:SF):TS:=λD σV H=>∃σ F a,Mid B i b σ σV F H a/\Oq B D a (t σ)
variable{i:Nat}{as:List VW}{s1 s2:SF}{st:Stmt}{sts rest:List Stmt}{tt:TF}{pos:Pos}
def ahr(h:PSs X sts (loS B s1)):PSs X sts (loM B i as s1):=PSs.imp h λD σV H a=>by obtain⟨σ,F,b,m,q⟩:=a;exact⟨σ,F,m.rs,Oq.mono m.sub q⟩
def xk{c:Expr}{a:List Stmt}(k:PT X c (loT B tt))(l:PSs X a (loS B s1))(u:PSs X rest (loM B i as s2)):PSs X (.If c a [] pos::rest) (loM B i as (WL.jJ tt s1 s2)):=PSs.imp (aT (ab3 k l vN) u) λD σV H d=>by obtain⟨σ,F,h,m,q⟩:=d;have q:=Oq.ofR q;refine⟨σ,F,m.rs,Rq.mono m.sub q λx b n f j g=>?_⟩;cases x with
|true=>rw[arj rfl];refine⟨σ,f,j,?_⟩;have b:Oq B D h (WL.aoC (s1 σ)):=b;cases e:s1 σ with|rt w=>rw[e]at b;exact λv o p t s r=>(show∀v n f,_ from b) v o p t ((m.sub.trans g.f).trans s) r|nx σ'|bk σ'|ct σ'|ex c σ'|bad=>rw[e]at b;exact(show False from b).elim
|false=>rw[arl arG];exact⟨σ,f,h,m.grow j g,b⟩
def anV{c:Expr}{a d:List Stmt}(k:PT X c (loT B tt))(l:PSs X a (loM B i as s1))(n:PSs X d (loM B i as s2)):PS X (.If c a d pos) (loM B i as (WL.sIf tt s1 s2)):=PS.imp (ab3 k l n) λD σV H e=>by obtain⟨σ,F,b,m,q⟩:=e;have q:=Oq.ofR q;refine⟨σ,F,m.rs,Rq.mono m.sub q λx h o j f g=>?_⟩;cases x with|true=>rw[arj rfl];exact⟨σ,j,b,m.grow f g,show Oq B D b (s1 σ)from h⟩|false=>rw[arl arG];exact⟨σ,j,b,m.grow f g,show Oq B D b (s2 σ)from h⟩
def ahs(g:PS X st (loM B i as s1))(j:PSs X rest (loS B s2)):PSs X (st::rest) (loM B i as (WL.aH s1 s2)):=PSs.imp (aT g j) λD σV H a=>by obtain⟨σ,F,b,m,q⟩:=a;refine⟨σ,F,b,m,?_⟩;have q:Oq B D b (match s1 σ with|.nx σ'=>s2 σ'|o=>o):=q;cases e:s1 σ with|nx σ'=>rw[e]at q;exact λd k h f s=>⟨σ',h,f,Oq.mono s q⟩|bk σ'|ct σ'|rt w|ex c σ'|bad=>rw[e]at q;exact q
end
end WS
namespace WS
open PySem PySem.Spec PyProof.Rows L2 PySem.Builtin PySem.Builtin.Str
open WL(Res Sl Ws EF TF AF LF GF GsF SF Out OX RF Rn AXF)
section
variable{X:Cx}{B:Bx}{K:W.Frag}
def al8(K:W.Frag)(r:VW->List VW->Res VW):V->List V->Hp->VK->Prop:=λx a H Q=>∃F w ws,av F H/\RW K F w x/\RWs K F ws a/\Eq1 F H K (r w ws) Q
def qc{e g tas r}(cm:∀w ws c,r w ws≠.ex c)(h:PE X e (tBM X.K "str" (al8 B.K r) (lo B g) (loA B tas))):PE X e (lo B (WL.rG "str" r g tas)):=PE.imp h λb H Q d=>by refine dU d λf F R q=>?_;have q:=Rq.bind q;refine eh f F R (Rq.mono (av.refl _) q λw j v y l p i n=>?_);cases w with
|str x=>subst n;refine⟨rfl,f,l,p,Rq.mono i.f (Rq.bind j) λws a A C o R2 k t=>?_⟩;refine vc o (.str x) ws R2.rb.sub (by simp[RW]) t ?_;cases em:r (.str x) ws with|bad=>rw[em]at a;exact a.elim|ex c=>exact absurd em (cm _ _ c)|ok z=>rw[em]at a;exact λv s m ex u=>a v m s (ex.rs B f b R2) ((i.trans k).trans ex.gr) u
|_=>exact(j).elim
theorem sd:∀tk a,Vals (a.map V.str) (strsFrom tk a)|_,[]=>.nil|tk,y::a=>.cons ⟨tk,rfl⟩ (sd _ _)
theorem ma{F}:∀a:List Str,RWs K F (a.map WL.W.str) (a.map V.str)|[]=>rfl|y::a=>by exact⟨_,_,rfl,rfl,ma _⟩
def aat:∀w ws c,WL.fQ w ws≠.ex c:=λw ws c h=>by
 unfold WL.fQ at h;split at h;.split at h<;>cases h
 .cases h
set_option tactic.hygienic true in
def afl:MtR X "str.split" (al8 K WL.fQ):=by intro g s M H x O v P Q I G k⟨F,w,ws,m,p,D,q⟩;cases e:WL.fQ w ws with|bad|ex c=>rw[e]at q;exact q.elim|ok z=>
  rw[e]at q;unfold WL.fQ at e;split at e
  .split at e
   .rename_i a b E;refine ag6 E λy A n=>?_;cases e;simp only[RW]at p;subst p;refine gb (bF D) λN j r=>?_;subst j;simp only[RW]at r;subst r;obtain⟨t,rfl⟩:=G;obtain⟨u,rfl,⟨t',rfl⟩⟩:=vals1 k;have f:(b.length==0)=false:=by simpa using y
    have J:a.length<=sizeLine:=arq n eQ;have C:a.length+2<=sizeLine:=arq (Nat.add_le_add_right n 2) (by decide);have l:(partsBetween a (occurrences a b 0 a.length (a.length+1)) b.length).length<=sizeLine:=by have i:=StrLaws.occ_length_le a b 0 a.length (a.length+1);rw[length_partsBetween];omega
    have q:Eq1 F H K (.ok (.lst ((Txt.split a b).map .str))) Q:=by rw[SF.zh a b y A];exact q
    have one:Txt.split a b=[a]->∃v o,Inv X g M o _/\RelV v (.ref s.heap.objs.size)/\Q v o:=λi=>by rw[i]at q;exact(iG (.ref _) _ (I.apk (t':=s.toks) (ys:=[.str a]) (its:=[.str a t]) (.cons ⟨_,rfl⟩ .nil) (show 1<=sizeLine by decide)) rfl (afP m q (ma [a]) I.fresh))
    cases d:decide (a.length<b.length)||decide (strKind a<strKind b)
    .cases h:(occurrences a b 0 a.length (a.length+1)).isEmpty;.refine atA atd (atX _ _ _) atE (aty _ _) (meets_str_split_sep a b t t' d f h J l) ?_;have i:Txt.split a b=partsBetween a _ b.length:=(arl (at7 d)).trans (arl (at7 h));rw[i]at q;exact iG (.ref _) _ (I.apk (sd _ _) (by rw[arB];exact l)) rfl (afP m q (ma _) I.fresh)
     .refine atA atd (atX _ _ _) atE (aty _ _) (meets_str_split_not_found a b t t' d f h) ?_;exact one ((arl (at7 d)).trans (arj h))
    .refine atA atd (atX _ _ _) atE (aty _ _) (meets_str_split_cannot_occur a b t t' d) ?_;exact one (arj d)
   .cases e
  .cases e
def w4:∀w ws c,WL.gu w ws≠.ex c:=λw ws c h=>by unfold WL.gu at h;split at h<;>cases h
def acJ:MtR X "str.startswith" (al8 K WL.gu):=by intro d s o H x m v j Q I h b⟨F,w,ws,l,f,i,q⟩;cases e:WL.gu w _ with|bad|ex c=>rw[e]at q;exact q.elim|ok z=>
 unfold WL.gu at e;split at e;.subst f;refine gb (bF i) λk a g=>?_;subst a;subst g;obtain⟨t,rfl⟩:=h;obtain⟨u,rfl,⟨n,rfl⟩⟩:=vals1 b;exact SC.startswith (iG (.bl _) H I rfl (eq1 q (rfl)))
 .cases e
def ad1:∀w ws c,WL.uo w ws≠.ex c:=λw ws c h=>by
 unfold WL.uo at h;split at h;.split at h<;>cases h
 .cases h
set_option tactic.hygienic true in
def aiJ:MtR X "str.partition" (al8 K WL.uo):=by intro g s R H x T v U Q I O l⟨F,w,ws,E,A,G,q⟩;cases e:WL.uo w ws with|bad|ex c=>rw[e]at q;exact q.elim|ok z=>
  rw[e]at q;unfold WL.uo at e;split at e
  .split at e
   .rename_i a b N;obtain⟨M,J⟩:=N;cases e;simp only[RW]at A;subst A;refine gb (bF G) λS k C=>?_;subst k;simp only[RW]at C;subst C;obtain⟨t,rfl⟩:=O;obtain⟨u,rfl,⟨t',rfl⟩⟩:=vals1 l;have j:(b.length==0)=false:=by simpa using M
    have P:a.length<=sizeLine:=arq J eQ;have m:∀(f h d:Str)(D n p:Tok)(tk:Nat),Eq1 F H K _ Q->∃v y,Inv X g R y {s with heap:=s.heap.push {cls:=.type "tuple",data:=.seq _},toks:=tk}/\RelV v (.ref s.heap.objs.size)/\Q v y:=λf h d D n p tk q=>by refine(iG (.ref _) _ (I.laid (t':=tk) (o:=.tup [.str f,.str h,.str d]) (λb ob q=>arf _ q) (arn _) ?_) rfl (anF E q (vs:=[.str f,.str h,.str d]) (ma [f,h,d]) I.fresh));exact⟨show 3<=sizeLine by decide,[.str f D,.str h n,.str d p],.cons ⟨_,rfl⟩ (.cons ⟨_,rfl⟩ (.cons ⟨_,rfl⟩ .nil)),_,aru _ rfl,rfl,0,rfl⟩
    refine atA aum (atX _ _ _) PySem.F.entry_str_partition (PySem.F.args_str_partition_2 _ _) (meets_str_partition a b t t' j P) ?_;unfold Txt.partition at q;revert q;cases occurrences a b 0 a.length 1 with|nil|cons i r=>intro q;exact m _ _ _ _ _ _ _ q
   .cases e
  .cases e
theorem xH{F:Hp}:∀{ws:List VW}{ys:List Str}{vs:List V}{its:List Value},WL.strsOf ws=some ys->RWs K F ws vs->Vals vs its->StrsAre its ys|[],ys,vs,its,e,r,h=>by cases e;simp only[RWs]at r;subst r;cases h;exact .nil|w::ws,ys,vs,its,e,r,h=>by cases w with
 |str x=>simp only[WL.strsOf]at e;obtain⟨a,c,rfl⟩:=arP.mp e;simp only[RWs,RW]at r;obtain⟨v,b,rfl,rfl,d⟩:=r;cases h with|cons h1 h2=>obtain⟨t,rfl⟩:=h1;exact .cons x t (xH c d h2)
 |_=>simp[WL.strsOf]at e
def aax:∀w ws c,WL.lX w ws≠.ex c:=λw ws c h=>by
 unfold WL.lX at h;split at h
 .split at h;.split at h<;>cases h
  .cases h
 .cases h
set_option tactic.hygienic true in
def aiK(y:X.K=K):MtR X "str.join" (al8 K WL.lX):=by intro d s R H x J v M Q I C b⟨F,w,ws,j,f,m,q⟩;cases e:WL.lX w ws with|bad|ex c=>rw[e]at q;exact q.elim|ok z=>
  rw[e]at q;unfold WL.lX at e;split at e
  .split at e
   .split at e;.rename_i a P N h n;cases e;simp only[RW]at f;subst f;obtain⟨E,rfl,g⟩:=bF m;simp only[RW]at g;obtain⟨p,G,rfl,A,D⟩:=g;obtain⟨t,rfl⟩:=C;obtain⟨u,rfl,o⟩:=vals1 b;cases o;obtain⟨i,r,l,_⟩:=I.list (y▸j.seq A);refine PyProof.Rows.join_list l.isList (xH h D r) (arq n (by decide)) λO k=>?_;rw[SF.ac8];exact⟨.str _,H,I.tok k,⟨_,rfl⟩,eq1 q (by simp[RW])⟩
    .cases e
   .cases e
  .cases e
def aqT(K:W.Frag):V->Option Int->Option Int->Hp->VK->Prop:=λx l h H Q=>∃F wx i,av F H/\RW K F wx x/\l=some i/\h=none/\Eq1 F H K (WL.ua wx (.int i)) Q
def akL:SlR X (aqT K):=by intro d s C H x v w A lo y o Q I j g h f⟨F,wx,i,p,r,n,b,q⟩;subst n b;cases h with|int i ti=>cases f;cases e:WL.ua wx (.int i)with|bad|ex c=>rw[e]at q;exact q.elim|ok z=>rw[e]at q;cases wx with
 |str a=>
   subst r;obtain⟨t,rfl⟩:=j;unfold WL.ua at e;dsimp only at e;split at e;.rename_i b;cases e;refine⟨"str",_,PySem.F.slot_str_getitem.lookup,atX _ _ _,wpAny_getItem_str_slice (l:=some (i,ti)) (u:=none) (st:=none) g rfl ?_⟩;exact post_val_or_str ⟨arq (Txt.slice_le a _ _) (arq b.2 eQ),λm k=>iG (.str (Txt.slice a (some i) none)) H (I.tok k) ⟨m,rfl⟩ (eq1 q (by simp[RW]))⟩
   .cases e|_=>cases e
def ahy{a b ta tb t pos}(n:PE X a (lo B ta))(u:PE X b (lo B tb)):PE X (.Subscript a (.Slice (some b) none none t) pos) (lo B (WL.eOp WL.ua ta tb)):=PE.imp (qI (akL (K:=B.K)) n (ab7 u) ab8) λf H Q g=>by refine dU g λj F R q=>?_;have q:=Rq.bind q;refine eh j F R (Rq.mono (av.refl _) q λx h v D m s l o=>?_);have h:=Rq.bind h;refine eh j m s (Rq.mono l.f h λy e G I p R2 k A=>?_);cases y with
 |int i=>refine⟨i,A,p,x,i,R2.rb.sub,o.keep k.f,rfl,rfl,?_⟩;cases d:WL.ua x (.int i)with
  |ok w=>rw[d]at e;exact λv r z E C=>e v z r (E.rs B j f R2) ((l.trans k).trans E.gr) C|ex c=>
    unfold WL.ua at d;split at d;.split at d<;>cases d
    .cases d|bad=>rw[d]at e;exact e
 |_=>cases x<;>exact(e).elim
end
end WS
namespace L2
open PySem PySem.Spec PyProof.Rows
noncomputable def anN(lo:Int)(n:Nat):It:=⟨λi _=>i<n,λi H x a=>a=H/\x=.int (lo+(i:Nat)*2),λi _=>n<=i⟩
def vu{P:Program}{w:World}{K:W.Frag}{tg:Expr}(it:Addr)(lo:Int)(n:Nat):Turn P w K tg (anN lo n) [it] it λi h=>IsRangeIter h it (lo+(i:Nat)*2) ((n:Int)-(i:Nat)) 2 where
 mem:=by simp
 obj:=λi h st b hb=>by
  have e:b=it:=by simpa using hb
  subst e;exact⟨_,st,λv z=>by have z':Data.fields _=Data.cell v:=z;cases z'⟩
 keep:=λi h h' st k=>k it (by simp) _ st;item:=by intro X hP hw hK i pins s σ H E hc I hf st hg;subst hP hw hK;obtain⟨f0,f1,f2,f3,f4,f5⟩:=hf it (by simp);have W:=Walks.range (prog:=X.prog) (w:=X.w) (I.ok.hd hc) it lo 2 n;refine W.item i s _ _ hg st λv h' tk hv st' kk=>?_;obtain⟨t,rfl⟩:=hv;have I1:Inv X pins σ H {s with heap:=h',toks:=tk}:=I.turned (λb o hb e=>kk b o (by simpa using hb) e) f0 f1 f3 f4 f5;exact⟨_,rfl,z5 (s:={s with heap:=h',toks:=tk}) (n:="range_iterator") st' rfl rfl (by decide) ⟨.int (lo+i*2),H,I1,⟨t,rfl⟩,⟨rfl,rfl⟩,st',λb hb=>(hf b hb).1⟩⟩
 done:=by intro X hP hw hK i pins s σ H E hc I hf st hg;subst hP hw hK;obtain⟨f0,f1,f2,f3,f4,f5⟩:=hf it (by simp);exact wpAny_pyNext_range_end (I.ok.hd hc) st (by have:n<=i:=hg;omega) λh' eb=>⟨rfl,I.turned (t':=s.toks) (λb o hb e=>eb b o hb e) f0 f1 f3 f4 f5⟩
 self:=λ_ _ _ _ _ st h=>wpAny_pyIter_rangeiter st h
def jK(a b):Builtin.Range.rangeSize a b 2=((b-a+1)/2).toNat:=by unfold Builtin.Range.rangeSize;split<;>omega
def abA{a b}(f:-2^60<=a)(c:a<2^60)(e:-2^60<=b)(d:b<2^60):Builtin.Range.small a b 2=true:=by unfold Builtin.Range.small;rw[jK];simp only[Builtin.Range.rangeFitsLong,ary,at0,asV,show(2:Int)>0 by decide,asI];omega
section
variable{X:Cx}{tg:Expr}
def abV{pins}{σ:St}{H s R E lo a t u v tk}(I:Inv X pins σ H s)(h:-2^60<=lo)(g:lo<2^60)(k:-2^60<=a)(f:a<2^60)(q:R (anN lo ((a-lo+1)/2).toNat) H):wpAny (model X.prog X.w) X.A (pyIter (.ref s.heap.objs.size)) (PIE X pins σ tg R) E {s with heap:=s.heap.push {cls:=.type "range",data:=.fields #[.int lo t,.int a u,.int 2 v]},toks:=tk}:=by
 refine wpAny_pyIter_range (IsRange.new ..) (abA h g k f) ?_;have c:Inv X pins σ H {s with heap:=s.heap.push {cls:=.type "range",data:=.fields #[.int lo t,.int a u,.int 2 v]},toks:=tk}:=I.kept λb o e=>arf _ e;refine⟨_,_,_,_,H,rfl,c.kept (t':=tk) λb o e=>arf _ e,vu _ lo ((a-lo+1)/2).toNat,?_,λb j=>?_,q⟩
 .have i:lo+((0:Nat):Int)*2=lo:=by simp
  have d:((((a-lo+1)/2).toNat:Nat):Int)-((0:Nat):Int)=Builtin.Range.rangeSize lo a 2:=by rw[jK];simp
  rw[i,d];exact aru _ rfl
 .have e:b=(s.heap.push {cls:=.type "range",data:=.fields #[.int lo t,.int a u,.int 2 v]}).objs.size:=by simpa using j
  subst e;exact c.ajR (arn _) (c.hok.fresh (arn _))
def zZ(ta:TA):TI:=λb H R=>ta b H λc a=>∃i j:Int,c=[.int i,.int j,.int 2]/\(-2^60<=i/\i<2^60/\-2^60<=j/\j<2^60)/\R (anN i ((j-i+1)/2).toNat) a
def aca{a b c ta p pos}(m:Gl X "range")(v:X.mg "range"=none)(n:PA X [a,b,c] ta)(E:starEach [a,b,c] X.env=[(false,eval a X.env),(false,eval b X.env),(false,eval c X.env)]:=by rfl)(f:starEach [b,c] X.env=[(false,eval b X.env),(false,eval c X.env)]:=by rfl):PI X tg (.Call (.Name "range" p) [a,b,c] [] pos) (zZ ta):=by intro k s z H R I h;refine Call_ (lF I m v auS (asi (thn (n _ _ s z H _ I h) λB D d=>?_) (by grind) (by rw[f];rfl)));obtain⟨C,A,o,u,g⟩:=d;obtain⟨i,j,e,⟨g,l,y,x⟩,q⟩:=g;subst e;cases u with|cons r rr=>cases rr with|cons r' rr=>cases rr with|cons r'' rr=>cases rr;obtain⟨t,rfl⟩:=r;obtain⟨G,rfl⟩:=r';obtain⟨w,rfl⟩:=r'';exact call_range_3 (by decide) (abV o g l y x q) (Or.inl (PyProof.noPylong_small (by omega)))
end
end L2
namespace WS
open PySem PySem.Spec PyProof.Rows L2 PySem.Builtin PySem.Builtin.Str
open WL(Res Sl Ws EF TF AF LF GF GsF SF Out OX RF Rn AXF)
section
variable{X:Cx}{B:Bx}{K:W.Frag}{tg:Expr}{ta tb:EF}
def aa7{lo n F}:Walk K (anN lo n) (WL.abS lo 2 n) F:=by
 refine⟨λi x e b d f j=>?_,λb d f j=>by show n<=(WL.abS _ 2 n).length;simp[WL.abS]⟩;have c:=by have:=(ari.mp e).1;simpa[WL.abS]using this
 simp [WL.abS,at6 c]at e;cases e;refine⟨c,λu k a=>?_⟩;obtain⟨h,g⟩:=a;subst h g;exact⟨b,Ext.refl _ _,rfl⟩
def ahv{a c b p pos d}(o:Gl X "range")(I:X.mg "range"=none)(h:PE X a (lo B ta))(h':PE X c (lo B tb))(N:starEach [a,c,.Constant (.int 2) b d] X.env=[(false,eval a X.env),(false,eval c X.env),(false,eval (.Constant (.int 2) b d) X.env)]:=by rfl)(g:starEach [c,.Constant (.int 2) b d] X.env=[(false,eval c X.env),(false,eval (.Constant (.int 2) b d) X.env)]:=by rfl)(u:starEach [a,c,.Constant (.int 2) b d] X.env=(false,eval a X.env)::starEach [c,.Constant (.int 2) b d] X.env:=by rfl)(A:starEach [c,.Constant (.int 2) b d] X.env=(false,eval c X.env)::starEach [.Constant (.int 2) b d] X.env:=by rfl)(w:starEach [.Constant (.int 2) b d] X.env=(false,eval (.Constant (.int 2) b d) X.env)::starEach [] X.env:=by rfl):PI X tg (.Call (.Name "range" p) [a,c,.Constant (.int 2) b d] [] pos) (loI B (WL.zZ ta tb)):=PI.imp (aca o I (aN h (aN h' (aN acj cz w) A) u) N g) λM H R f=>by refine dU f λm F t q=>?_;have q:=Rq.bind q;refine eh m F t (Rq.mono (av.refl _) q λx j v O D s n E=>?_);have j:=Rq.bind j;refine eh m D s (Rq.mono n.f j λy e P G r R2 C z=>?_);cases x with
|int i=>cases y with|int k=>
   have e:Rq B m F (if -2^60<=i/\i<2^60/\-2^60<=k/\k<2^60 then Res.ok _ else .bad) _:=e;subst E z;by_cases l:-2^60<=i/\i<2^60/\-2^60<=k/\k<2^60;.rw[arj l]at e;exact iG i k rfl l ((show∀J Q S,_ from e) _ G r R2 (n.trans C) aa7)
   .rw[arl l]at e;exact(show False from e).elim|_=>exact(show False from e).elim
|_=>exact(show False from e).elim
end
section
variable{X:Cx}{B:Bx}{K:W.Frag}{o x:Expr}{to:EF}{tas:AF}{apos cpos:Pos}
def l6(h:X.K=B.K)(f:PE X o (lo B to))(g:PA X [x] (loA B tas))(c:attributeBase o "split" X.env (eval o X.env)=eval o X.env:=by rfl)(d:((backTo cpos (starEach [x] X.env)).all (λx=>!x.1)&&(backToKw cpos (keywordEach [] X.env)).all (λx=>x.1.isSome)&&decide ([x].length+([]:List Keyword).length+(if([]:List Keyword).isEmpty then 0 else 1)<30))=true:=by rfl)(b:(apos.endLine==cpos.line)=true:=by rfl)(e:starEach [x] X.env=(false,eval x X.env)::starEach [] X.env:=by rfl)(a:BT X cpos []:=by rfl):PE X (.Call (.Attribute o "split" apos) [x] [] cpos) (lo B (WL.rG "str" WL.fQ to tas)):=qc aat (i4 ate atd PySem.F.type_str_split afl f g c d b e a)
def aa1(h:X.K=B.K)(f:PE X o (lo B to))(g:PA X [x] (loA B tas))(c:attributeBase o "startswith" X.env (eval o X.env)=eval o X.env:=by rfl)(d:((backTo cpos (starEach [x] X.env)).all (λx=>!x.1)&&(backToKw cpos (keywordEach [] X.env)).all (λx=>x.1.isSome)&&decide ([x].length+([]:List Keyword).length+(if([]:List Keyword).isEmpty then 0 else 1)<30))=true:=by rfl)(b:(apos.endLine==cpos.line)=true:=by rfl)(e:starEach [x] X.env=(false,eval x X.env)::starEach [] X.env:=by rfl)(a:BT X cpos []:=by rfl):PE X (.Call (.Attribute o "startswith" apos) [x] [] cpos) (lo B (WL.rG "str" WL.gu to tas)):=qc w4 (i4 ate PySem.F.slot_str_startswith PySem.F.type_str_startswith acJ f g c d b e a)
def ahq(h:X.K=B.K)(f:PE X o (lo B to))(g:PA X [x] (loA B tas))(c:attributeBase o "partition" X.env (eval o X.env)=eval o X.env:=by rfl)(d:((backTo cpos (starEach [x] X.env)).all (λx=>!x.1)&&(backToKw cpos (keywordEach [] X.env)).all (λx=>x.1.isSome)&&decide ([x].length+([]:List Keyword).length+(if([]:List Keyword).isEmpty then 0 else 1)<30))=true:=by rfl)(b:(apos.endLine==cpos.line)=true:=by rfl)(e:starEach [x] X.env=(false,eval x X.env)::starEach [] X.env:=by rfl)(a:BT X cpos []:=by rfl):PE X (.Call (.Attribute o "partition" apos) [x] [] cpos) (lo B (WL.rG "str" WL.uo to tas)):=qc ad1 (i4 ate aum PySem.F.type_str_partition aiJ f g c d b e a)
def aa3(g:X.K=B.K)(f:PE X o (lo B to))(h:PA X [x] (loA B tas))(c:attributeBase o "join" X.env (eval o X.env)=eval o X.env:=by rfl)(d:((backTo cpos (starEach [x] X.env)).all (λx=>!x.1)&&(backToKw cpos (keywordEach [] X.env)).all (λx=>x.1.isSome)&&decide (([x]:List Expr).length+([]:List Keyword).length+(if([]:List Keyword).isEmpty then 0 else 1)<30))=true:=by rfl)(b:(apos.endLine==cpos.line)=true:=by rfl)(e:starEach [x] X.env=(false,eval x X.env)::starEach [] X.env:=by rfl)(a:BT X cpos []:=by rfl):PE X (.Call (.Attribute o "join" apos) [x] [] cpos) (lo B (WL.rG "str" WL.lX to tas)):=qc aax (i4 ate PySem.F.slot_str_join PySem.F.type_str_join (aiK g) f h c d b e a)
end
section
def jq(x y:Str):(x++y).length=x.length+y.length:=by show(x.cps++y.cps).size=_;rw[Array.size_append];rfl
end
section
variable{X:Cx}{K:W.Frag}
def uT:∀a c,WL.l3 a≠.ex c:=λa c h=>by
 unfold WL.l3 at h;split at h;.split at h<;>cases h
 .cases h
 .cases h
set_option tactic.hygienic true in
def agk:ba X (.type "str") (loN K WL.l3):=by intro d s k H j g Q I r⟨F,ws,h,a,q⟩;cases e:WL.l3 ws with|bad|ex c=>rw[e]at q;exact q.elim|ok w=>
  rw[e]at q;unfold WL.l3 at e;split at e
  .split at e;.rename_i i f;cases e;obtain⟨v,rfl,b⟩:=bF a;simp only[RW]at b;subst b;obtain⟨u,rfl,⟨t,rfl⟩⟩:=vals1 r;exact PySem.P.str_of_int f ⟨.str (toString i),H,I.tok _,⟨_,rfl⟩,eq1 q (by simp[RW])⟩
   .cases e
  .rename_i x;cases e;obtain⟨v,rfl,b⟩:=bF a;simp only[RW]at b;subst b;obtain⟨u,rfl,⟨t,rfl⟩⟩:=vals1 r;exact PySem.P.str_of_str ⟨.str x,H,I,⟨_,rfl⟩,eq1 q (by simp[RW])⟩
  .cases e
end
end WS
namespace WS
open PySem PySem.Spec PyProof.Rows L2
open WL(Res Sl Ws EF TF AF LF GF GsF SF Out OX RF Rn AXF)
section
variable{B:Bx}{σ:Ws}{σV:L2.St}{F H:Hp}{a:Addr}{kvs:List (Key×V)}{od:Obj}{K:W.Frag}
noncomputable abbrev zD(od:Obj)(kvs:List (Key×V)):HO:=.frz od (.dK kvs)
def aoF(e:F a=some (.dK kvs)){b l}(h:Rd F b (.dK l)):Rd (upd F a (zD od kvs)) b (.dK l):=by
 by_cases c:b=a;.subst c;rcases h with h|⟨o,h⟩<;>rw[e]at h<;>cases h;exact .inr ⟨od,aj⟩
 .unfold Rd;rw[ag c];exact h
def aoE(e:F a=some (zD od kvs)){b l}(h:Rd F b (.dK l)):Rd (upd F a (.dK kvs)) b (.dK l):=by
 by_cases c:b=a;.subst c;rcases h with h|⟨o,h⟩<;>rw[e]at h<;>cases h;exact .inl aj
 .unfold Rd;rw[ag c];exact h
def ago{o o'}(e:F a=some o)(c:∀xs,o≠.tup xs)(d:∀ob xs,o≠.frz ob (.tup xs)){b xs}(h:SqT K F b xs):SqT K (upd F a o') b xs:=by
 rcases h with(h|⟨ob,h⟩)|h;.exact .inl (.inl (by rw[ag λz=>by grind];exact h))
 .exact .inl (.inr ⟨ob,by rw[ag λz=>by grind];exact h⟩)
 .exact .inr h
def agp{o o'}(e:F a=some o)(c:∀xs,o≠.lst xs)(d:∀ob xs,o≠.frz ob (.lst xs)){b xs}(h:SqL K F b xs):SqL K (upd F a o') b xs:=by
 rcases h with(h|⟨ob,h⟩)|h;.exact .inl (.inl (by rw[ag λz=>by grind];exact h))
 .exact .inl (.inr ⟨ob,by rw[ag λz=>by grind];exact h⟩)
 .exact .inr h
def RWs.fz(e:F a=some (.dK kvs)){ws vs}(h:RWs K F ws vs):RWs K (upd F a (zD od kvs)) ws vs:=RWs.via (λ_ _ q=>ago e (λ_ z=>nomatch z) (λ_ _ z=>nomatch z) q) (λ_ _ q=>agp e (λ_ z=>nomatch z) (λ_ _ z=>nomatch z) q) (λ_ _ q=>aoF e q) (λb c q=>by rw[ag λz=>by grind];exact q) (λb c q=>by rw[ag λz=>by grind];exact q) (λb _ _ _ _ q=>by rw[ag λz=>by grind];exact q) _ _ h
def RWs.th(e:F a=some (zD od kvs)){ws vs}(h:RWs K F ws vs):RWs K (upd F a (.dK kvs)) ws vs:=RWs.via (λ_ _ q=>ago e (λ_ z=>nomatch z) (λ_ _ z=>nomatch z) q) (λ_ _ q=>agp e (λ_ z=>nomatch z) (λ_ _ z=>nomatch z) q) (λ_ _ q=>aoE e q) (λb c q=>by rw[ag λz=>by grind];exact q) (λb c q=>by rw[ag λz=>by grind];exact q) (λb _ _ _ _ q=>by rw[ag λz=>by grind];exact q) _ _ h
def RW.one{w v}(h:RWs K F [w] [v]):RW K F w v:=by obtain⟨_,_,e,q,_⟩:=h;cases e;exact q
theorem RW.fz(e:F a=some (.dK kvs)){w v}(h:RW K F w v):RW K (upd F a (zD od kvs)) w v:=RW.one (RWs.fz e (RWs.one h))
theorem RW.th(e:F a=some (zD od kvs)){w v}(h:RW K F w v):RW K (upd F a (.dK kvs)) w v:=RW.one (RWs.th e (RWs.one h))
theorem XR.th(e:F a=some (zD od kvs)){c C dx}(h:XR K F c C dx):XR K (upd F a (.dK kvs)) c C dx:=by cases c with|exc nm fs=>obtain⟨m,k,o,n,i,g⟩:=h;exact⟨m,_,o,n.th e,i.imp id λf=>by obtain⟨d,j,l⟩:=f;exact⟨d,j,by rw[ag λz=>by grind];exact l⟩,g.via λb _ q=>by rw[ag λz=>by grind];exact q⟩|_=>exact h.elim
def abK{F d o o'}(s:av (upd F a o) d):av (upd F a o') (upd d a o'):=λb u e=>by
 by_cases c:b=a;.subst c;rw[aj]at e⊢;exact e
 .rw[ag c]at e⊢;exact s b u (by rw[ag c];exact e)
def xu{F o}(e:F a=some o):upd F a o=F:=by
 funext b;by_cases c:b=a;.subst c;rw[aj,e]
 .rw[ag c]
def Bx.fz(B:Bx)(a:Addr)(od:Obj)(kvs:List (Key×V)):Bx:=⟨B.K,upd B.H0 a (zD od kvs),upd B.F0 a (zD od kvs),λc σ F=>B.xp c σ (upd F a (.dK kvs)),λc σ F f s h=>B.mono c σ _ _ (λb u e=>by
 by_cases d:b=a;.subst d;rw[aj]at e⊢;exact e
 .rw[ag d]at e⊢;exact s b u e) h⟩
theorem RS.fz(R:RS B σ σV F H)(e:F a=some (.dK kvs)):RS (B.fz a od kvs) σ σV (upd F a (zD od kvs)) (upd H a (zD od kvs)):=by
 refine⟨⟨λb u q=>?_,λb u q=>?_,λb u q=>?_,λb u q=>?_⟩,R.len,λi w q=>?_,λi ws q=>?_,R.ap,λi p k q=>?_,R.dd.ad,λi q=>?_⟩
 .by_cases c:b=a;.subst c;rw[aj]at q⊢;exact q
  .rw[ag c]at q⊢;exact R.rb.sub b u q
 .by_cases c:b=a;.subst c;exact(show upd B.H0 b (zD od kvs) b=some u from q)▸by rw[aj,aj]
  .have q:upd B.H0 a (zD od kvs) b=some u:=q;rw[ag c]at q⊢;exact R.rb.base b u q
 .by_cases c:b=a;.subst c;exact(show upd B.F0 b (zD od kvs) b=some u from q)▸by rw[aj,aj]
  .have q:upd B.F0 a (zD od kvs) b=some u:=q;rw[ag c]at q⊢;exact R.rb.fz0 b u q
 .by_cases c:b=a;.subst c;rw[aj]at q;exact .inl (by show upd B.F0 b (zD od kvs) b=_;rw[aj];exact q)
  .rw[ag c]at q;rcases R.rb.fr b u q with z|z;.exact .inl (by show upd B.F0 a (zD od kvs) b=_;rw[ag c];exact z)
   .exact .inr ⟨by show upd B.H0 a (zD od kvs) b=_;rw[ag c];exact z.1,z.2⟩
 .obtain⟨v,f,d⟩:=R.va i w q;exact⟨v,f,d.fz e⟩
 .refine oz (R.ow i ws q) λb m f d j h g=>?_;have c:b≠a:=λz=>by rw[z,e]at d;cases d
  exact aaI b m f (by rw[ag c];exact d) (by show upd B.H0 a (zD od kvs) b=_;rw[ag c];exact j) (by rw[ag c];exact h) (g.fz e)
 .refine agf (R.dd.od i p k q) λb l f d j h g n=>?_;have c:b≠a:=λz=>by rw[z,e]at d;cases d
  exact ajD b l f (by rw[ag c];exact d) (by show upd B.H0 a (zD od kvs) b=_;rw[ag c];exact j) (by rw[ag c];exact h) (g.fz e) (n.fz e)
 .refine xh (R.dd.ob i q) λb C o f d=>?_;exact aen b C o f (by rw[ag λz=>by rw[z,e]at d;cases d];exact d)
def Was(B:Bx)(a:Addr)(kvs:List (Key×V)):Prop:=(B.F0 a=some (.dK kvs)\/B.H0 a=none/\B.F0 a=none)/\(B.H0 a=none\/B.H0 a=some (.dK kvs))
def RB.was(R:RB B F H)(e:F a=some (.dK kvs)):Was B a kvs:=by
 constructor
 .rcases R.fr a _ e with z|z;.exact .inl z
  .cases q:B.F0 a with|none=>exact .inr ⟨z.1,rfl⟩|some u=>have:=R.fz0 a u q;rw[e]at this;cases this;exact .inl rfl
 .cases q:B.H0 a with|none=>exact .inl rfl|some u=>have:=R.base a u q;rw[R.sub a _ e]at this;cases this;exact .inr rfl
def RB.th(R:RB (B.fz a od kvs) F H)(w:Was B a kvs):F a=some (zD od kvs)/\H a=some (zD od kvs)/\RB B (upd F a (.dK kvs)) (upd H a (.dK kvs)):=by
 have e:=R.fz0 a _ (by show upd B.F0 a (zD od kvs) a=_;rw[aj]);refine⟨e,R.sub a _ e,λb u q=>?_,λb u q=>?_,λb u q=>?_,λb u q=>?_⟩
 .by_cases c:b=a;.subst c;rw[aj]at q⊢;exact q
  .rw[ag c]at q⊢;exact R.sub b u q
 .by_cases c:b=a
  .subst c;rcases w.2 with z|z<;>rw[z]at q;.cases q
   .rw[aj];exact q
  .rw[ag c];exact R.base b u (by show upd B.H0 a (zD od kvs) b=_;rw[ag c];exact q)
 .by_cases c:b=a
  .subst c;rcases w.1 with z|⟨_,z⟩<;>rw[z]at q;.rw[aj];exact q
   .cases q
  .rw[ag c];exact R.fz0 b u (by show upd B.F0 a _ b=_;rw[ag c];exact q)
 .by_cases c:b=a
  .subst c;rw[aj]at q;cases q;rcases w.1 with z|⟨z,_⟩;.exact .inl z
   .exact .inr ⟨z,trivial⟩
  .rw[ag c]at q;rcases R.fr b u q with z|z;.exact .inl (by have:upd B.F0 a (zD od kvs) b=some u:=z;rwa[ag c]at this)
   .exact .inr ⟨by have:upd B.H0 a (zD od kvs) b=none:=z.1;rwa[ag c]at this,z.2⟩
theorem RS.th(R:RS (B.fz a od kvs) σ σV F H)(w:Was B a kvs):RS B σ σV (upd F a (.dK kvs)) (upd H a (.dK kvs)):=by
 refine ag6 (R.rb.th w) λe s p=>?_;refine⟨p,R.len,λi w q=>?_,λi ws q=>?_,R.ap,λi r k q=>?_,R.dd.ad,λi q=>?_⟩;.obtain⟨v,d,c⟩:=R.va i w q;exact⟨v,d,c.th e⟩
 .refine oz (R.ow i ws q) λb m d c j h g=>?_;have f:b≠a:=λz=>by grind
  exact aaI b m d (by rw[ag f];exact c) (by have:upd B.H0 a (zD od kvs) b=none:=j;rwa[ag f]at this) (by rw[ag f];exact h) (g.th e)
 .refine agf (R.dd.od i r k q) λb l d c j h g n=>?_;have f:b≠a:=λz=>by grind
  exact ajD b l d (by rw[ag f];exact c) (by have:upd B.H0 a (zD od kvs) b=none:=j;rwa[ag f]at this) (by rw[ag f];exact h) (g.th e) (n.th e)
 .refine xh (R.dd.ob i q) λb C o d c=>?_;exact⟨b,C,o,d,by rw[ag λz=>by rw[z,e]at c;cases c];exact c⟩
end
section
variable{X:Cx}{B:Bx}{a:Addr}{kvs:List (Key×V)}{od:Obj}
def akz{pins c H s e C dx T f}(t:Thr X pins c H s e C dx f T)(q:H a=some (zD od kvs))(g:∀o u,X.H₀ a≠some (.frz o u)):Thr X pins c (upd H a (.dK kvs)) s e C dx f T:=by
 have d:∀{b},FpX X _ H b->FpX X pins (upd H a (.dK kvs)) b:=λ{b}h=>by obtain⟨j,k⟩:=h;exact⟨by rw[ag λz=>by grind];exact j,k⟩
 exact⟨t.inv.adk q g,t.trc,d t.fe,λu i=>d (t.fT u i)⟩
theorem XW.fz(k:XW X B)(w:Was B a kvs)(f:∀o u,X.H₀ a≠some (.frz o u)):XW X (B.fz a od kvs):=λb h H s l F c R i e C n T m t g=>by obtain⟨j,d,_⟩:=R.rb.th w;exact k _ _ _ s l _ c (R.th w) i e C _ T _ (akz t d f) (g.th j)
def amL(D:Ends)(a:Addr)(od:Obj)(kvs:List (Key×V)):Ends:=⟨λb H=>H a=some (zD od kvs)/\D.nx b (upd H a (.dK kvs)),λv H=>H a=some (zD od kvs)/\D.rt v (upd H a (.dK kvs)),λb H=>H a=some (zD od kvs)/\D.bk b (upd H a (.dK kvs)),λb H=>H a=some (zD od kvs)/\D.ct b (upd H a (.dK kvs))⟩
def akI{pins D}(c:∀o u,X.H₀ a≠some (.frz o u))(f)(s)(h:SP X pins (amL D a od kvs) f s):SP X pins D f s:=by cases f with|next|brk|cont=>obtain⟨b,H,I,e,q⟩:=h;exact⟨b,_,I.adk e c,q⟩|ret u=>refine aeh h λv b H I r e q=>?_;exact aha v b _ (I.adk e c) r q
theorem Oq.fz{D F}(e:F a=some (.dK kvs))(w:Was B a kvs){o}(h:Oq B D F o):Oq (B.fz a od kvs) (amL D a od kvs) (upd F a (zD od kvs)) o:=by
 have bk:∀{b},av (upd F a (zD od kvs)) b->av F _:=λs=>by have:=abK (o':=.dK kvs) s;rwa[xu e]at this
 cases o with|nx σ|bk σ|ct σ=>exact λd H G R z=>⟨(R.rb.th w).2.1,h _ _ _ (R.th w) (bk z)⟩|rt u=>exact λv H G R z r=>⟨(R.th w).2.1,h v _ _ (R.th w).2.2 (bk z) (r.th (R.th w).1)⟩|ex c σ=>show B.xp c σ _;rw[abc,xu e];exact h|bad=>exact h
variable{tg l:Expr}{body:List Stmt}{g:GF}{b:SF}{i:Nat}{pos:Pos}
def r6{K ks F}(h:F a=some (zD od kvs))(r:RWs K F ks (kvs.map λp=>kV p.1)):Walk K (Itd a od kvs) ks F:=by have q:=r.length;rw[arB]at q;refine⟨λi x e j m d f=>?_,λj m d f=>⟨f _ _ (d _ _ h),by omega⟩⟩;refine gb (r.get e) λv c o=>?_;rw[arL,arP]at c;obtain⟨p,c,rfl⟩:=c;refine⟨⟨f _ _ (d _ _ h),(ari.mp c).1⟩,λu s⟨n,t,k,y⟩=>?_⟩;subst n y;rw[c]at k;cases k;exact⟨j,Ext.refl _ _,o.keep d⟩
def ahm(hK:X.K=B.K)(hp:PassesOwn (model X.prog X.w) X.A X.env X.xe)(hc:X.calm=true)(hx:XW X B)(hl:PE X l (eF i))(hg:∀e,PG X tg (loG false e g))(hb:∀e,e.K=X.K->XW X e->PSs X body (loS e b))(hs:∀x,foldedSetIterable l X.env x=pure x:=by intro _;rfl):PS X (.For tg l body [] pos) (loS B (WL.pP (WL.ajQ i) g b)):=by
 intro d s o H D I⟨σ,F,R,q⟩;have y:=Oq.ofR q;have E:∀(e:Bx)(T:Ends)(d:List (Addr×Obj))(s:Shared)(H' K:Hp)(n us:List VW)(a:Addr)(od:Obj)(kvs:List (Key×V)),e.K=X.K->XW X e->Inv X d o H' s->RS e σ o K H'->o[i]?=some (some (.ref a))->K a=some (zD od kvs)->RWs e.K K n (kvs.map λp=>kV p.1)->Oq e T K (WL.forL g b n σ)->wpAny (model X.prog X.w) X.A (exec (.For tg l body [] pos) X.env) (SP X d T) X.xe s:=by
  intro e T d s H' K n us a od kvs a1 a2 I' R' O Z rk q';refine xX (wi:=λo H R=>∃J,R J H/\J=Itd a od kvs/\o[i]?=some (some (.ref a))/\H a=some (zD od kvs)) hp hc (PI.imp (ace hl) λo H R a0=>by obtain⟨J,r,ej,O,Z⟩:=a0;exact⟨.ref a,O,a,od,kvs,rfl,Z,by rw[<-ej];exact r⟩) (hg e) (hb e a1 a2) hs d s o H' T I' ?_;refine⟨_,?_,rfl,O,R'.rb.sub _ _ Z⟩;have wk:=r6 Z rk;refine⟨λj m u Q=>m=n.length-j/\j<=n.length/\∃z G,RS e z u G Q/\av K G/\Oq e T G (WL.forL g b (n.drop j) z),⟨n.length,rfl,arZ _,σ,K,R',av.refl _,by rw[asJ];exact q'⟩,?_⟩;rintro j m u Q⟨rfl,hj,z,G,R1,s1,k⟩;by_cases M:j<n.length;.have hd:=arF M;rw[hd]at k;obtain⟨go,yl⟩:=wk.go j n[j] (art M) G Q s1 R1.rb.sub;refine .inr ⟨go,_,λt H2 h2=>⟨n.length-(j+1),by omega,rfl,M,h2⟩,λv H2 hy=>?_⟩;obtain⟨F2,E2,r2⟩:=yl v H2 hy;have k:=Oq.ofR k;refine⟨z,F2,n[j],E2.rs _ _ _ R1,r2,Rq.mono E2.same k λY k a3 H3 F3 R3 g3=>?_⟩;refine⟨Y,F3,R3,?_⟩;have P:=E2.same.trans g3.f;cases A:b Y with|nx t|ct t=>rw[A]at k;exact λC H4 U S N=>⟨t,U,S,(s1.trans P).trans N,Oq.mono (P.trans N) k⟩|bk t=>rw[A]at k;exact λC H4 U S N=>k C H4 U S (P.trans N)|rt w=>rw[A]at k;exact λv4 H4 U S N=>k v4 H4 U S (P.trans N)|ex c t=>rw[A]at k;exact e.mono c t G F3 P k|bad=>rw[A]at k;exact k
  .have ei:j=n.length:=by omega
   subst ei;rw[as2]at k;exact .inl ⟨wk.stop G Q s1 R1.rb.sub,k u Q G R1 (av.refl _)⟩
 unfold WL.ajQ at y;cases A:σ[i]? with|none=>rw[A]at y;exact(y).elim|some sl=>rw[A]at y;cases sl with
 |va w=>cases w with|dic n us=>
    have y:=y;obtain⟨v,O,r2⟩:=R.va i _ A;simp only[RW]at r2;obtain⟨a,kvs,rfl,rd,rk,ru⟩:=r2;rcases rd with rd|⟨od,rd⟩;.obtain⟨od,I',hn⟩:=I.amD (R.rb.sub _ _ rd);have w:=R.rb.was rd;exact thn (E (B.fz a od kvs) (amL D a od kvs) d s _ _ n us a od kvs hK.symm (hx.fz w hn) I' (R.fz rd) O aj (rk.fz rd) (y.fz rd w)) λf s h=>akI hn f s h
    .exact E B D d s H F n us a od kvs hK.symm hx I R O rd rk y|_=>exact(y).elim
 |_=>exact(y).elim
end
end WS
namespace PySem
def Heap.IsStrIter.at{h h':Heap}{a ty x t i}(y:h.IsStrIter a ty x t i)(e:∀o,h.get? a=some o->h'.get? a=some o):h'.IsStrIter a ty x t i:=let⟨o,b,r⟩:=y;⟨o,e _ b,r⟩
end PySem
namespace L2
open PySem PySem.Spec PyProof.Rows
noncomputable def Its(x:Str):It:=⟨λi _=>i<x.cps.size,λi H v a=>a=H/\∃c,x.cps[i]?=some c/\v=.str ⟨#[c]⟩,λi _=>x.cps.size<=i⟩
def zd{P:Program}{w:World}{K:W.Frag}{tg:Expr}(it:Addr)(x:Str)(t:Tok):Turn P w K tg (Its x) [it] it λi h=>h.IsStrIter it "str_ascii_iterator" x t i where
 mem:=by simp
 obj:=λi h st b hb=>by
  have e:b=it:=by simpa using hb
  subst e;obtain⟨o,e,c,d⟩:=st;exact⟨o,e,λv z=>by rw[d]at z;cases z⟩
 keep:=λi h h' st k=>st.at λo e=>k it (by simp) o e;item:=by intro X hP hw hK i pins s σ H E hc I hf st hg;subst hP hw hK;have hg:i<x.cps.size:=hg;obtain⟨f0,f1,f2,f3,f4,f5⟩:=hf it (by simp);refine wpAny_pyNext_ascii_item st (c:=x.cps[i]) (auv hg) λh' st' sb=>?_;have I1:Inv X pins σ H {s with heap:=h',toks:=s.toks+1}:=I.turned (t':=s.toks+1) (λb o hb e=>(sb.2 b hb).trans e) f0 f1 f3 f4 f5;obtain⟨o,e,c,d⟩:=id st';exact⟨_,rfl,z5 (s:={s with heap:=h',toks:=s.toks+1}) e c d (by decide) ⟨.str ⟨#[x.cps[i]]⟩,H,I1,⟨_,rfl⟩,⟨rfl,_,auv hg,rfl⟩,st',λb hb=>(hf b hb).1⟩⟩
 done:=by intro X hP hw hK i pins s σ H E hc I hf st hg;subst hP hw hK;have hg:x.cps.size<=i:=hg;obtain⟨f0,f1,f2,f3,f4,f5⟩:=hf it (by simp);exact wpAny_pyNext_ascii_end (I.ok.hd hc) st (Array.getElem?_eq_none hg) λh' eb=>⟨rfl,I.turned (t':=s.toks) (λb o hb e=>eb b o hb e) f0 f1 f3 f4 f5⟩
 self:=λA i s Q E st h=>by refine wpAny_pyIter_slot st.typeIs at1 (asx at1 st.typeIs F.entry_str_ascii_iterator_iter ?_ (F.args_str_ascii_iterator_iter_1 _));show wpAny _ _ (ret (.ref it)) _ _ s;exact arp ⟨_,rfl,"str_ascii_iterator",_,st.typeIs,F.slot_str_ascii_iterator_next.lookup,h⟩
def aqW(b:TE):TI:=λc H R=>b c H λv a=>∃x:Str,v=.str x/\x.cps.all (.<128)=true/\R (Its x) a
def ae4{X k l g}(n:PE X l g):PI X k l (aqW g):=by
 intro a s m H R I h;refine thn (n a s m H _ I h) λv f d=>?_;obtain⟨z,i,c,j,x,e,p,q⟩:=d;subst e;obtain⟨t,rfl⟩:=j;refine wpAny_pyIter_ascii p (aj5 f.heap.objs.size [f.heap.objs.size] _ _ i rfl (c.kept λb o e=>arf _ e) (zd _ x t) ⟨_,aru _ rfl,rfl,rfl⟩ (λb r=>?_) q);have e:b=f.heap.objs.size:=by grind
 subst e;exact c.ajR (arn _) (c.hok.fresh (arn _))
def o4{X}:ba X (.builtin "len") λc H Q=>∃a b,c=[.ref a]/\Rd H a (.dK b)/\Q (.int b.length) H:=by
 intro d s l H c f Q I i⟨a,_,e,rd,q⟩;subst e;obtain⟨u,rfl,j⟩:∃u,f=[u]/\RelV (.ref a) u:=by cases i with|cons h t=>cases t;exact⟨_,rfl,h⟩
 cases j;exact apM I rd λt k g=>⟨.int _,H,g,⟨t,rfl⟩,q⟩
end L2
namespace WS
open PySem PySem.Spec PyProof.Rows L2
open WL(Res Sl Ws EF TF AF LF GF GsF SF Out OX RF Rn AXF)
section
variable{X:Cx}{B:Bx}{K:W.Frag}
def akd{C e:Expr}{ta:EF}(h:PE X e (lo B ta)):PI X C e (loI B (WL.aqr ta)):=PI.imp (ae4 h) λA H R b=>by
 obtain⟨l,F,t,q⟩:=b;have q:=Rq.bind q;refine⟨l,F,t,Rq.mono (av.refl _) q λx a v m u p w k=>?_⟩
 cases x with|str x=>
  simp only[RW]at k;have a:Rq B l F (if x.cps.all (.<128)=true then Res.ok (WL.signs x)else .bad) _:=a;by_cases f:x.cps.all (.<128)=true
  .rw[arj f]at a;refine⟨x,k,f,(show∀J G I,_ from a) _ m u p w ⟨λi y e g z s r=>?_,λg z s r=>by show x.cps.size<=(WL.signs x).length;simp[WL.signs]⟩⟩;unfold WL.signs at e;rw[arL,arP]at e;obtain⟨c,e,rfl⟩:=e;have D:i<x.cps.size:=by have:=(ari.mp e).1;simpa using this
   refine⟨D,λv E d=>?_⟩;obtain⟨o,n,j,y⟩:=d;subst o y;have:c=n:=by rw[atU]at e;rw[e]at j;exact arK j
   subst this;exact⟨g,Ext.refl _ _,by simp[RW]⟩
  .rw[arl f]at a;exact(show False from a).elim|_=>exact(show False from a).elim
def uV:∀a c,WL.aaC a≠.ex c:=λa c h=>by
 unfold WL.aaC at h;split at h;.split at h<;>cases h
 .cases h
 .exact bx _ _ h
set_option tactic.hygienic true in
def agm(j:X.K=K):ba X (.builtin "len") (loN K WL.aaC):=by
 intro b s g H k d Q I f⟨F,ws,i,r,q⟩;unfold WL.aaC at q;split at q
 .split at q;.rename_i x m;obtain⟨v,rfl,h⟩:=bF r;exact uW b s g H _ d Q I f ⟨x,by rw[h],arq m eQ,eq1 q (rfl)⟩
  .exact q.elim
 .obtain⟨v,rfl,h⟩:=bF r;refine kU h λa e c rd l _=>?_;subst c;have:=l.length;exact o4 _ s g H _ d Q I f ⟨a,e,rfl,i.rd rd,eq1 q (by simp[RW,this])⟩
 .exact gW j b s g H k d Q I f ⟨F,_,i,r,q⟩
def af1:Calm WL.ajN:=λx y c h=>by
 unfold WL.ajN at h;split at h;.cases h
 .cases h
 .exact om _ _ _ h
set_option tactic.hygienic true in
def an1(k:X.K=K)(i:X.A.units+64<cLine):OpR X (compareOp .In) (lo2 K WL.ajN):=by
 intro g s h H x y v u Q I e d⟨F,wx,l,j,c,f,q⟩;unfold WL.ajN at q;split at q;.rename_i a b;exact acq _ s h H x y v u Q I e d ⟨a,b,c,f,eq1 q (rfl)⟩
 .exact q.elim
 .exact akq k i _ s h H x y v u Q I e d (vc F _ _ j c f q)
noncomputable def kW:Key->VW|.inl none=>.non|.inl (some i)=>.int i|.inr z=>.str z
def pV{F x a}(h:RW K F x (kV a)):x=kW a:=by rcases a with(_|i)|z<;>cases x<;>simp only[kV,RW,reduceCtorEq,false_and,exists_false]at h<;>cases h<;>rfl
def q5{F x y}:∀{a b},RW K F x (kV a)->RW K F y (kV b)->WL.zX x y=decide (a=b):=by intro a b c d;rw[pV c,pV d,asn];rcases a with(_|i)|z<;>rcases b with(_|j)|e<;>simp[WL.zX,kW]
set_option tactic.hygienic true in
def yy{F}{k:VW}{v}(b:WL.aaL k=true)(r:RW K F k v):∃a,v=kV a:=by
 cases k<;>simp [WL.aaL]at b;.exact⟨.inl none,r⟩
 .rename_i i;exact⟨.inl (some i),r⟩
 .rename_i x;exact⟨.inr x,r⟩
theorem wV{F k a}(b:RW K F k (kV a)):∀{kvs:List (Key×V)}{ks},RWs K F ks (kvs.map λp=>kV p.1)->WL.afX k ks=kvs.any λc=>decide (c.1=a)
|[],ks,r=>by cases ks with|nil=>rfl|cons x ks=>simp[RWs]at r
|p::kvs,ks,r=>by cases ks with|nil=>simp[RWs]at r|cons x ks=>obtain⟨g,h,e,f,d⟩:=r;cases e;show(WL.zX x k||WL.afX k _)=_;rw[q5 f b,wV b d];rfl
theorem adV{F k w a v}(f:RW K F k (kV a))(g:RW K F w v):∀{kvs:List (Key×V)}{ks us},RWs K F ks (kvs.map λp=>kV p.1)->RWs K F us (kvs.map λp=>p.2)->RWs K F ks ((kvs.map λb=>if b.1=a then(b.1,v)else b).map λp=>kV p.1)/\RWs K F (WL.afW k w ks us) ((kvs.map λb=>if b.1=a then(b.1,v)else b).map λp=>p.2)
|[],ks,us,r1,r2=>by cases ks with
 |nil=>cases us with|nil=>exact⟨r1,r2⟩|cons _ _=>simp[RWs]at r2
 |cons x ks=>simp[RWs]at r1
|p::kvs,ks,us,r1,r2=>by cases ks with|nil=>simp[RWs]at r1|cons x ks=>cases us with|nil=>simp[RWs]at r2|cons y us=>
    obtain⟨r,t,o,c,n⟩:=r1;obtain⟨q,s,l,j,m⟩:=r2;cases o;cases l;obtain⟨d,i⟩:=adV f g n m;have e:=q5 c f;unfold WL.afW;rw[e];by_cases h:p.1=a;.rw[atg h,arj rfl];simp only[arv,arj h];exact⟨.cons c d,.cons g i⟩
    .rw[ash h,arl arG];simp only[arv,arl h];exact⟨.cons c d,.cons j i⟩
def ab1{F k w a v}(b:RW K F k (kV a))(e:RW K F w v){kvs ks us}(c:RWs K F ks (kvs.map λp=>kV p.1))(d:RWs K F us (kvs.map λp=>p.2)):RWs K F (WL.putK ks k) ((putK kvs a v).map λp=>kV p.1)/\RWs K F (WL.ale ks us k w) ((putK kvs a v).map λp=>p.2):=by
 unfold WL.putK WL.ale L2.putK;rw[wV b c];by_cases h:(kvs.any λf=>decide (f.1=a))=true;.rw[arj h,arj h,arj h];exact adV b e c d
 .rw[arl h,arl h,arl h,atY,atY];exact⟨c.app (.one b),d.app (.one e)⟩
variable{i:Nat}{pos pos':Pos}
def gV{o p b tv tk}(E:X.A.units+1<cLine)(ho:PE X o (eF i))(hi:PE X p (lo B tk))(S:PE X b (lo B tv))(Z:swapsWith b (some (.Subscript o p pos')) pos.line X.env=pure false:=by rfl):PS X (.Assign [.Subscript o p pos'] b pos) (loS B (WL.dt i tv tk)):=PS.imp (ab5 E ho hi S Z) λD n H h=>by refine dU h λd F R q=>?_;have q:Oq B D F (match d[i]? with|some (.od ks us)=>WL.ofR d (tv d) _|_=>.bad):=q;cases f:d[i]? with|none=>rw[f]at q;exact q.elim|some sl=>
 rw[f]at q;cases sl with|od ks us=>
   have q:=Oq.ofR q;refine⟨d,F,R,Rq.mono (av.refl _) q λw l v H1 Q s z T=>?_⟩;refine dU (s.dd.od i ks us f) λa M m _=>?_;refine⟨.ref a,m,?_⟩;have l:=Oq.ofR l;refine⟨d,Q,s,Rq.mono z.f l λk c y H2 J R2 u t=>?_⟩;refine agf (R2.dd.od i ks us f) λa' e A U I C r O=>?_;rw[m]at A;cases A;have c:Oq B D F (if WL.aaL k=true/\ks.length<WL.lim then .nx _ else .bad):=c;by_cases g:WL.aaL k=true/\ks.length<WL.lim
   .rw[arj g]at c;obtain⟨G,rfl⟩:=yy g.1 t;have N:e.length<sizeLine:=by have:=r.length;rw[arB]at this;rw[<-this];exact aro g.2 eQ
    obtain⟨P,Y⟩:=ab1 t (T.keep u.f) r O;exact⟨a,_,rfl,aj0.k C N,c n _ J (R2.agh f m U I C P Y) (z.f.trans u.f)⟩
   .rw[arl g]at c;exact c.elim|_=>exact q.elim
end
end WS
set_option autoImplicit true
set_option relaxedAutoImplicit true
namespace L2
open PySem PySem.Spec PyProof.Rows
section
variable{X:Cx}{k:Nat}{f C:Addr}{fd:FuncData}{ps:List Str}{sp:Sp}{dvs:List V}{ds:List Value}{x:Str}{p pos:Pos}{e:Expr}{es:List Expr}{t:TA}
def agn(X:Cx)(C:Addr)(sp:Sp)(dvs:List V)(t:TA):TE:=λi H Q=>t i H λj d=>∀x c,d x=none->d c=none->c≠x->∃E:XK,sp (.ref x::(j++dvs)) (upd (upd d c (.own x)) x (.ins C c [])) (λv l=>v=.non/\Q (.ref x) l) E/\∀b s e h a T g,Thr X b i g s e h a .none (some T)->E (.ref h) a g->X.xe (.ref e) s
def xZ(M:Mk X.K C f)(F:FnOk X.prog X.w X.K X.mg X.base (CXX X.prog X.w) k f fd ps sp)(hr:Room (k+1) X.A)(z:Gl X x)(U:X.mg x=some (.ref C))(J:Binds X.K fd ps ds)(hd:Vals dvs ds)(P:PA X (e::es) t)(i:Dbg x:=by decide)(B:SE X e es:=by rfl)(m:BT X pos es:=by rfl):PE X (.Call (.Name x p) (e::es) [] pos) (agn X C sp dvs t):=by
 intro b S σ y Q j Y;refine asK (dZ j z U ?_ i);refine auD j.ok.mod.kin M.kp (thn (P pos b S σ y _ j Y) λc s⟨A,H,I,r,h⟩=>⟨I.kIn,?_⟩) B m;obtain⟨E,o,hx⟩:=h (s.heap.objs.size+1) s.heap.objs.size (I.hok.fresh (ato _)) (I.hok.fresh (arn _)) (arA (auC _));have d:=Inv.made (C:=C) I;have n:Vals (V.ref (s.heap.objs.size+1)::(A++dvs)) (Value.ref (s.heap.objs.size+1)::(c++ds)):=.cons rfl (r.append hd);have N:=by have e:=n.length;rw[F.len _ _ _ _ o]at e;exact e.symm
 refine as7 (afm I.kIn M.makes M.init (asB.mp M.fn) (att (F.run _ X.stack _ _ _ (Value.ref (s.heap.objs.size+1)::(c++ds)) _ _ E (hr.make C c []) trivial (d.anG.make C c []) (J _ (Value.ref (s.heap.objs.size+1)::c) d.kIn N) n o) λr D a=>?_));cases r with|error e=>obtain⟨w,G,g,T,l,rfl,t,q⟩:=d.thrown a;exact hx b D w G g T l t q|ok fl=>cases fl with|ret u=>obtain⟨v,l,R,O,K,Z⟩:=d.after a;subst K;exact⟨O,⟨V.ref (s.heap.objs.size+1),l,R,rfl,Z⟩⟩|next=>exact False.elim a|brk=>exact False.elim a|cont=>exact False.elim a
end
end L2
namespace WS
open PySem PySem.Spec PyProof.Rows L2
open WL(Res Sl Ws EF TF AF LF GF GsF SF Out OX RF Rn AXF)
section
variable{B B1:Bx}{σ:Ws}{σV:L2.St}{F H F' H':Hp}
def RB.aeT(R:RB B1 F' H')(d:B1.H0=H)(c:B1.F0=F)(b:RB B F H):RB B F' H':=by
 subst d c;refine⟨R.sub,b.base.trans R.base,b.fz0.trans R.fz0,λa o e=>?_⟩;rcases R.fr a o e with z|z;.exact b.fr a o z
 .exact .inr ⟨b.base.free z.1,z.2⟩
theorem RS.aeT(R:RS B1 σ σV F' H')(d:B1.K=B.K)(h:B1.H0=H)(m:B1.F0=F)(k:RB B F H):RS B σ σV F' H':=by
 refine⟨R.rb.aeT h m k,R.len,λi w e=>?_,λi ws e=>?_,R.ap,λi q p e=>?_,R.dd.ad,R.dd.ob⟩;.obtain⟨v,b,c⟩:=R.va i w e;exact⟨v,b,d▸c⟩
 .refine oz (R.ow i _ e) λa n b c j g f=>?_;exact aaI a n b c (k.base.free (h▸j)) g (d▸f)
 .refine agf (R.dd.od i _ _ e) λa l b c j g f o=>?_;exact ajD a l b c (k.base.free (h▸j)) g (d▸f) (d▸o)
def RS.front (R:RS B σ (σV++r) F H)(I:σV.length=k):RS B (σ.take k) σV F H:=by
 subst I;have b:∀{i:Nat}{n:Sl},(σ.take σV.length)[i]?=some n->σ[i]?=some n/\(σV++r)[i]?=σV[i]?:=λ{i n}e=>by
  have z:i<σV.length:=by have:=(ari.mp e).1;rw[as0]at this;omega
  rw[auE z]at e;exact⟨e,arO z⟩
 have s:=R.len;refine⟨R.rb,by rw[as0,s,ar7];omega,λi w e=>?_,λi ws e=>?_,λi j ws q a o c d p m=>?_,λi y x e=>?_,λi j y x A E a o c d p m=>?_,λi e=>?_⟩;.obtain⟨c,d⟩:=b e;obtain⟨v,f,h⟩:=R.va i w c;exact⟨v,d▸f,h⟩
 .obtain⟨c,d⟩:=b e;obtain⟨a,D,f,h⟩:=R.ow i ws c;exact⟨a,D,d▸f,h⟩
 .obtain⟨c,g⟩:=b c;obtain⟨u,t⟩:=b d;exact R.ap i j ws q a o c u (g.trans p) (t.trans m)
 .obtain⟨c,d⟩:=b e;obtain⟨a,l,f,h⟩:=R.dd.od i y x c;exact⟨a,l,d▸f,h⟩
 .obtain⟨c,g⟩:=b c;obtain⟨u,t⟩:=b d;exact R.dd.ad i j _ _ _ _ a o c u (g.trans p) (t.trans m)
 .obtain⟨c,d⟩:=b e;obtain⟨a,C,G,f,h⟩:=R.dd.ob i c;exact⟨a,C,G,d▸f,h⟩
def RS.snoc(R:RS B σ σV F H):RS B (σ++[.no]) (σV++[none]) F H:=by
 have b:∀{i:Nat}{m:Sl},(σ++[Sl.no])[i]?=some m->m≠.no->σ[i]?=some m/\(σV++[none])[i]?=σV[i]?:=λ{i m}e k=>by
  by_cases y:i<σ.length;.rw[arO y]at e;exact⟨e,arO (by rw[<-R.len];exact y)⟩
  .rw[arQ (by omega)]at e;cases t:i-σ.length with|zero=>rw[t]at e;cases e;exact(k rfl).elim|succ n=>rw[t]at e;cases e
 refine⟨R.rb,by simp[R.len],λi w e=>?_,λi ws e=>?_,λi j ws q a k c d p o=>?_,λi x u e=>?_,λi j x u A E a k c d p o=>?_,λi e=>?_⟩;.obtain⟨c,d⟩:=b e λz=>nomatch z;obtain⟨v,f,h⟩:=R.va i w c;exact⟨v,d.trans f,h⟩
 .obtain⟨c,d⟩:=b e λz=>nomatch z;refine dU (R.ow i ws c) λa D f h=>?_;exact⟨a,D,d.trans f,h⟩
 .obtain⟨c,g⟩:=b c λz=>nomatch z;obtain⟨s,r⟩:=b d λz=>nomatch z;exact R.ap i j ws q a k c s (g.symm.trans p) (r.symm.trans o)
 .obtain⟨c,d⟩:=b e λz=>nomatch z;refine dU (R.dd.od i x u c) λa l f h=>?_;exact eh a l (d.trans f) h
 .obtain⟨c,g⟩:=b c λz=>nomatch z;obtain⟨s,r⟩:=b d λz=>nomatch z;exact R.dd.ad i j _ _ _ _ a k c s (g.symm.trans p) (r.symm.trans o)
 .obtain⟨c,d⟩:=b e λz=>nomatch z;refine xh (R.dd.ob i c) λa C G f h=>?_;exact⟨a,C,G,d.trans f,h⟩
structure Ex(f:Str)(x C dx d:Addr)(σV:L2.St)(F H:Hp):Prop where
 sl:σV[0]?=some (some (.ref x))F:F x=none
 H:H x=some (.ins C dx [(f,.ref d)])
def Oq4(B:Bx)(f:Str)(x C dx:Addr)(D:Ends)(F:Hp):Out->Prop|.nx σ'=>∀a d H' F',a.length=3->RS B σ' (a++[some (.ref d)]) F' H'->Ex f x C dx d a F' H'->av F F'->D.nx a H'|.ex c σ'=>B.xp c σ' F|_=>False
def aqo(B:Bx)(f:Str)(x C dx:Addr)(t:SF):TS:=λD σV H=>∃σ d F,σV.length=3/\RS B σ (σV++[some (.ref d)]) F H/\Ex f x C dx d σV F H/\Oq4 B f x C dx D F (t σ)
theorem Oq4.mono{f x C dx D F F' o}(s:av F F')(h:Oq4 B f x C dx D F o):Oq4 B f x C dx D F' o:=by cases o with|nx σ=>exact λσV d H G a R ex z=>h _ d H G a R ex (s.trans z)|ex c σ=>exact B.mono c σ F _ s h|_=>exact h
end
section
variable{X:Cx}{B:Bx}{f:Str}{x C dx:Addr}{self texts name value tg:Expr}{tv:EF}{ap sp apos pos:Pos}
def ahl(hK:X.K=B.K)(hx:XW X B)(Q:∀c a P F,B.xp c a F->B.xp c P F)(hu:X.A.units+1<cLine)(i:PE X self (eF 0))(h:PE X name (eF 2))(hv:∀u,u.K=X.K->XW X u->PE X value (lo u tv))(hb:attributeBase self f X.env (eval self X.env)=eval self X.env)(cl:Cls X.K C)(na:bO X.K C f)(r:swapsWith value (some (.Subscript (.Attribute self f ap) name sp)) apos.line X.env=pure false):PS X (.Assign [.Subscript (.Attribute self f ap) name sp] value apos) (aqo B f x C dx (WL.dt 3 (WL.xt tv) (WL.aq 2))):=by intro g s b H D I⟨a,d,F,K,R,ex,q⟩;have q:Oq4 B f x C dx D F (match(a[3]?:Option Sl)with|some (.od ks us)=>WL.ofR a (WL.xt tv a) _|_=>.bad):=q;cases o:a[3]? with|none=>rw[o]at q;exact(q).elim|some sl=>rw[o]at q;cases sl with
 |od ks us=>
   have q:=q;let M:Bx:=⟨B.K,H,F,B.xp,B.mono⟩;have N:XW X M:=λg b H1 s a F1 c E xp e C dx T fl t xr=>hx g b H1 s a F1 c (E.aeT rfl rfl rfl R.rb) xp e C dx T fl t xr;have E:RS M (WL.vf (a.take 3)) b F H:=(R.front K).vf rfl rfl rfl;have d3:(b++[some (V.ref d)])[3]?=some (some (.ref d)):=by rw[arQ (by omega),K];rfl
   refine ab5 hu (x8 i hb) h (hv M hK.symm N) r g s b H D I ?_;refine eh _ F E ?_;have q:Oq4 B f x C dx D F (WL.ofR a (tv (WL.vf (a.take 3))) λv=>WL.ofR a (WL.aq 2 a) λk=>WL.putD 3 ks us k v a):=q;cases A:tv (WL.vf (a.take 3))with|bad=>rw[A]at q;exact q|ex c=>rw[A]at q;exact Q c _ _ F q|ok w=>rw[A]at q;intro v H2 F2 R2 n r2;have q:=q;have j:=n.h _ _ ex.H;refine⟨.ref x,ex.sl,x,C,dx,[(f,.ref d)],.ref d,rfl,j,cl,na,by simp[List.lookup],?_⟩;have O:=R.grow n (R2.rb.aeT rfl rfl R.rb);cases G:a[2]? with|none=>unfold WL.aq at q;rw[G]at q;exact(q).elim|some sl=>
     unfold WL.aq at q
     rw[G]at q;cases sl with|va k=>
      have q:Oq4 B f x C dx D F (if WL.aaL k=true/\ks.length<WL.lim then .nx (a.set 3 (.od (WL.putK ks k) (WL.ale ks us k w)))else .bad):=q;refine gb (O.va 2 k G) λy U Y=>?_;rw[arO (by omega)]at U;refine⟨y,U,?_⟩;by_cases m:WL.aaL k=true/\ks.length<WL.lim
      .rw[arj m]at q;obtain⟨a0,rfl⟩:=yy m.1 Y;refine agf (O.dd.od 3 ks us o) λa' J Z k2 k3 p S k6=>?_;rw[d3]at Z;cases Z;have l:J.length<sizeLine:=by have:=S.length;rw[arB]at this;rw[<-this];exact aro m.2 eQ
       obtain⟨p1,p2⟩:=ab1 Y r2 S k6;refine⟨d,_,rfl,aj0.k p l,q b d _ F2 K (O.agh o d3 k2 k3 p p1 p2) ⟨ex.sl,?_,?_⟩ n.f⟩;.exact n.nf x _ ex.H ex.F
       .rw[ag λz=>by rw[<-z,j]at p;cases p];exact j
      .rw[arl m]at q;exact(q).elim|_=>exact(q).elim
 |_=>exact(q).elim
theorem Oq4.fz   (e:F a=some (.dK kvs))(w:Was B a kvs)(b:x≠a)(h:Oq4 B f x C dx D F o):Oq4 (B.fz a od kvs) f x C dx (amL D a od kvs) (upd F a (zD od kvs)) o:=by
 have bk:∀{g},av (upd F a (zD od kvs)) g->av F _:=λs=>by have:=abK (o':=.dK kvs) s;rwa[xu e]at this
 cases o with|nx σ=>exact λj d H G i R ex z=>⟨(R.rb.th w).2.1,h _ d _ _ i (R.th w) ⟨ex.sl,by rw[ag b];exact ex.F,by rw[ag b];exact ex.H⟩ (bk z)⟩|ex c σ=>show B.xp c σ _;rw[abc,xu e];exact h|_=>exact h
set_option tactic.hygienic true in
def xR  :(∀a,WL.dt i ev ek σ≠.ct a)/\∀a,WL.dt i ev ek σ≠.bk a:=by
 unfold WL.dt;split;.cases ev σ with
 |ok v=>cases ek σ with|ok k=>rename_i b d _;show(∀a,(if WL.aaL k=true/\b.length<WL.lim then Out.nx _ else .bad)≠.ct a)/\∀a,(if WL.aaL k=true/\b.length<WL.lim then Out.nx _ else .bad)≠.bk a;split<;>exact⟨λ_ z=>(by cases z),λ_ z=>by grind⟩|ex c=>exact⟨λ_ z=>(by cases z),λ_ z=>by cases z⟩|bad=>exact⟨λ_ z=>(by cases z),λ_ z=>by cases z⟩
 |ex c=>exact⟨λ_ z=>(by cases z),λ_ z=>by cases z⟩|bad=>exact⟨λ_ z=>(by cases z),λ_ z=>by cases z⟩
 .exact⟨λ_ z=>(by cases z),λ_ z=>by grind⟩
def ahn(hK:X.K=B.K)(hp:PassesOwn (model X.prog X.w) X.A X.env X.xe)(hc:X.calm=true)(hx:XW X B)(a2:∀c y b F,B.xp c y F->B.xp c b F)(hu:X.A.units+1<cLine)(a5:PE X texts (eF 1))(P:PE X self (eF 0))(S:PE X name (eF 2))(hg:PG X tg (L2.aA 2))(hv:∀t,t.K=X.K->XW X t->PE X value (lo t tv))(hb:attributeBase self f X.env (eval self X.env)=eval self X.env)(cl:Cls X.K C)(na:bO X.K C f)(a8:swapsWith value (some (.Subscript (.Attribute self f ap) name sp)) apos.line X.env=pure false)(hs:∀x,foldedSetIterable texts X.env x=pure x:=by intro _;rfl):PS X (.For tg texts [.Assign [.Subscript (.Attribute self f ap) name sp] value apos] [] pos) (aqo B f x C dx (WL.acR tv)):=by
 intro g s u H D I⟨y,d,F,hl,R,ex,q⟩;have M:∀(t:Bx)(Y:Ends)(g:List (Addr×Obj))(s:Shared)(H' O:Hp)(l:List VW)(a:Addr)(od:Obj)(e:List (Key×V)),t.K=X.K->XW X t->(∀c y b F,t.xp c y F->t.xp c b F)->Inv X g u H' s->RS t y (u++[some (.ref d)]) O H'->Ex f x C dx d u O H'->u[1]?=some (some (.ref a))->O a=some (zD od e)->RWs t.K O l (e.map λp=>kV p.1)->Oq4 t f x C dx Y O (WL.forL (WL.aA 2) (WL.dt 3 (WL.xt tv) (WL.aq 2)) l y)->wpAny (model X.prog X.w) X.A (exec (.For tg texts [.Assign [.Subscript (.Attribute self f ap) name sp] value apos] [] pos) X.env) (SP X g Y) X.xe s:=by
  intro t Y g s H' O l a od e a4 a6 a1 I' R' b0 Q e3 rk q';refine xX (wi:=λu H R=>∃J,R J H/\J=Itd a od e/\u[1]?=some (some (.ref a))/\H a=some (zD od e)) hp hc (PI.imp (ace a5) λu H R a3=>by obtain⟨J,r,ej,Q,e3⟩:=a3;exact⟨.ref a,Q,a,od,e,rfl,e3,by rw[<-ej];exact r⟩) hg (cT (ahl (x:=x) (dx:=dx) a4.symm a6 a1 hu P S hv hb cl na a8)) hs g s u H' Y I' ?_;refine⟨_,?_,rfl,Q,R'.rb.sub _ _ e3⟩;have wk:=r6 e3 rk;refine⟨λj m n U=>m=l.length-j/\j<=l.length/\∃b Z A,n.length=3/\RS t b (n++[some (.ref Z)]) A U/\Ex f x C dx Z n A U/\av O A/\Oq4 t f x C dx Y A (WL.forL (WL.aA 2) (WL.dt 3 (WL.xt tv) (WL.aq 2)) (l.drop j) b),⟨l.length,rfl,arZ _,y,d,O,hl,R',b0,av.refl _,by rw[asJ];exact q'⟩,?_⟩;rintro j m n U⟨rfl,hj,b,Z,A,a0,R1,K,s1,E⟩;by_cases G:j<l.length
  .have hd:=arF G;rw[hd]at E;obtain⟨go,yl⟩:=wk.go j l[j] (art G) A U s1 R1.rb.sub;refine .inr ⟨go,_,λk H2 h2=>⟨l.length-(j+1),by omega,rfl,G,h2⟩,λv H2 hy=>?_⟩;obtain⟨e4,p,e5,e6⟩:=hy;subst e4 e6;have hr:RW t.K A l[j] (kV p.1):=by obtain⟨v',h1,h2⟩:=rk.get (art G);rw[arL,e5]at h1;cases h1;exact h2.keep s1
   have R2:RS t (b.set 2 (.va l[j])) (n.set 2 (some (kV p.1))++[some (.ref Z)]) A H2:=by have:=R1.set (i:=2) hr;rwa[List.set_append_left _ _ (by omega)]at this
   refine⟨b.set 2 (.va l[j]),Z,A,by rw[auL];exact a0,R2,⟨by rw[arh (by decide)];exact K.sl,K.F,K.H⟩,?_⟩;have E:Oq4 t f x C dx Y A (match WL.dt 3 (WL.xt tv) (WL.aq 2) (b.set 2 (.va l[j]))with|.nx k=>WL.forL (WL.aA 2) (WL.dt 3 (WL.xt tv) (WL.aq 2)) (l.drop (j+1)) k|.ct k=>WL.forL (WL.aA 2) (WL.dt 3 (WL.xt tv) (WL.aq 2)) (l.drop (j+1)) k|.bk k=>.nx k|o=>o):=E;cases N:WL.dt 3 (WL.xt tv) (WL.aq 2) (b.set 2 (.va l[j]))with|nx k=>rw[N]at E;exact λb1 d4 H4 F4 a9 R4 a7 s4=>⟨k,d4,F4,a9,R4,a7,s1.trans s4,Oq4.mono s4 E⟩|ex c k|bad|rt w=>rw[N]at E;exact E|ct k=>exact(xR.1 _ N).elim|bk k=>exact(xR.2 _ N).elim
  .have ei:j=l.length:=by omega
   subst ei;rw[as2]at E;exact .inl ⟨wk.stop A U s1 R1.rb.sub,E n Z U A a0 R1 K (av.refl _)⟩
 have q:Oq4 B f x C dx D F (WL.ofR y (WL.ajQ 1 y) λxs=>WL.forL (WL.aA 2) (WL.dt 3 (WL.xt tv) (WL.aq 2)) xs y):=q;unfold WL.ajQ at q;cases N:y[1]? with|none=>rw[N]at q;exact(q).elim|some sl=>rw[N]at q;cases sl with
 |va w=>cases w with|dic l us=>
    have q:=q;obtain⟨v,Q,r2⟩:=R.va 1 _ N;rw[arO (by omega)]at Q;simp only[RW]at r2;obtain⟨a,e,rfl,rd,rk,ru⟩:=r2;rcases rd with rd|⟨od,rd⟩
    .obtain⟨od,I',hn⟩:=I.amD (R.rb.sub _ _ rd);have w:=R.rb.was rd;have T:x≠a:=λz=>by have:=ex.F;rw[z,rd]at this;cases this
     exact thn (M (B.fz a od e) (amL D a od e) g s _ _ l a od e hK.symm (hx.fz w hn) (λc y b F h=>a2 c y b _ h) I' (R.fz rd) ⟨ex.sl,by rw[ag T];exact ex.F,by rw[ag T];exact ex.H⟩ Q aj (rk.fz rd) (q.fz rd w T)) λf s h=>akI hn f s h
    .exact M B D g s H F l a od e hK.symm hx a2 I R ex Q rd rk q|_=>exact(q).elim
 |_=>exact(q).elim
end
noncomputable def je(H:Hp)(x:Addr):Hp:=λb=>if b=x then none else H b
def cG{H x b}(h:b≠x):je H x b=H b:=arl h
def nX :je H x x=none:=arj rfl
def ri{H x b o}(h:je H x b=some o):b≠x/\H b=some o:=by
 by_cases a:b=x;.subst a;rw[nX]at h;cases h
 .rw[cG a]at h;exact⟨a,h⟩
def afE  (h:F x=none):je (upd F x o) x=F:=by
 funext b;by_cases a:b=x;.subst a;rw[nX,h]
 .rw[cG a,ag a]
def adf (s:av F F'):av (je F x) (je F' x):=λb o e=>by obtain⟨c,a⟩:=ri e;rw[cG c];exact s b o a
section
variable{K:W.Frag}{F:Hp}{x:Addr}{C dx:Addr}
def RWs.ama{a}(h:∀b o,F b=some o->a b=some o\/∃C dx,o=.ins C dx []){ws vs}(r:RWs K F ws vs):RWs K a ws vs:=by
 have k:∀{b}{o:HO},F b=some o->(∀C dx,o≠.ins C dx [])->a b=some o:=λ{b o}e n=>by grind
 refine RWs.via (λb d q=>?_) (λb d q=>?_) (λb g q=>?_) (λb f q=>k q λ_ _ z=>nomatch z) (λb f q=>k q λ_ _ z=>nomatch z) (λb C dx l j q=>k q λi c z=>by grind) ws vs r
 .rcases q with(q|⟨o,q⟩)|q;.exact .inl (.inl (k q λ_ _ z=>nomatch z))
  .exact .inl (.inr ⟨o,k q λ_ _ z=>nomatch z⟩)
  .exact .inr q
 .rcases q with(q|⟨o,q⟩)|q;.exact .inl (.inl (k q λ_ _ z=>nomatch z))
  .exact .inl (.inr ⟨o,k q λ_ _ z=>nomatch z⟩)
  .exact .inr q
 .rcases q with q|⟨o,q⟩;.exact .inl (k q λ_ _ z=>nomatch z)
  .exact .inr ⟨o,k q λ_ _ z=>nomatch z⟩
def RWs.out(e:F x=some (.ins C dx [])){ws vs}(r:RWs K F ws vs):RWs K (je F x) ws vs:=r.ama λb o q=>by
 by_cases a:b=x;.subst a;rw[e]at q;cases q;exact .inr ⟨_,_,rfl⟩
 .exact .inl (by rw[cG a];exact q)
theorem XR.out(e:F x=some (.ins C dx [])){c f g}(h:XR K F c f g):XR K (je F x) c f g:=by cases c with|exc nm fs=>obtain⟨n,l,p,o,j,i⟩:=h;exact⟨n,_,p,o.out e,j.imp id λa=>by obtain⟨d,k,m⟩:=a;exact⟨d,k,by rw[cG λz=>by grind];exact m⟩,i.via λb _ q=>by rw[cG λz=>by grind];exact q⟩|_=>exact h.elim
end
section
variable{B B1:Bx}{σ:Ws}{σV:L2.St}{F H F1 H1:Hp}{x C dx:Addr}
def RB.out(R:RB B1 F H)(d:B1.H0=H1)(c:B1.F0=upd F1 x (.ins C dx []))(h:F1 x=none)(g:B.H0=je H1 x)(f:B.F0=F1):RB B (je F x) H:=by
 refine⟨λb o e=>R.sub b o (ri e).2,λb o e=>?_,λb o e=>?_,λb o e=>?_⟩;.rw[g]at e;exact R.base b o (by rw[d];exact(ri e).2)
 .rw[f]at e;have a:b≠x:=λz=>by grind
  rw[cG a];exact R.fz0 b o (by rw[c,ag a];exact e)
 .obtain⟨a,e⟩:=ri e;rw[g,f];rcases R.fr b o e with z|z;.rw[c,ag a]at z;exact .inl z
  .exact .inr ⟨by rw[cG a,<-d];exact z.1,z.2⟩
theorem RS.clr(R:RS B1 σ σV F H)(l:B1.K=B.K)(o:F x=some (.ins C dx []))(p:RB B (je F x) H):RS B (WL.clr σ) σV (je F x) H:=by
 have b:∀{i:Nat}{d},(WL.clr σ)[i]?=some d->d=.no\/∃w,d=.va w/\σ[i]?=some (.va w):=λ{i d}e=>by unfold WL.clr at e;rw[arL]at e;cases g:σ[i]? with|none=>rw[g]at e;cases e|some s0=>rw[g]at e;have e:=arK e;subst e;cases s0 with|va w=>exact .inr ⟨w,rfl,rfl⟩|_=>exact .inl rfl
 refine⟨p,by rw[<-R.len];simp[WL.clr],λi w e=>?_,λi ws e=>?_,λi j ws m a _ f=>?_,λi q h e=>?_,λi j q h _ _ a _ f=>?_,λi e=>?_⟩
 .rcases b e with z|⟨c,z,k⟩;.cases z
  .cases z;obtain⟨v,n,r⟩:=R.va i w k;exact⟨v,n,by rw[<-l];exact RW.one ((RWs.one r).out o)⟩
 .rcases b e with z|⟨c,z,_⟩<;>cases z
 .rcases b f with z|⟨c,z,_⟩<;>cases z
 .rcases b e with z|⟨c,z,_⟩<;>cases z
 .rcases b f with z|⟨c,z,_⟩<;>cases z
 .rcases b e with z|⟨c,z,_⟩<;>cases z
end
def adZ{σ:Ws}{j:Nat}:(∀ws,(WL.clr σ)[j]?≠some (.ow ws))/\∀b a,(WL.clr σ)[j]?≠some (.od b a):=by unfold WL.clr;rw[arL];cases σ[j]? with|none=>exact⟨λ_ z=>(by cases z),λ_ _ z=>by cases z⟩|some s=>cases s<;>exact⟨λ_ z=>(by cases z),λ_ _ z=>by cases z⟩
def ajB(K:W.Frag)(f:Str)(x dx C:Addr)(F H:Hp)(Q:VK)(E:XK):Res VW->Prop|.ok wd=>∀e a d,H d=none->av F a->av a e->(∀b o,b≠x->H b=some o->e b=some o)->e x=some (.ins C dx [(f,.ref d)])->a x=none->(∀b o,a b=some o->F b=some o\/(b=x\/H b=none)/\NF o)->RW K a wd (.ref d)->Q .non e|.ex c=>∀h g e a,av F a->av a e->(∀b o,b≠x->H b=some o->e b=some o)->(∀b o,a b=some o->F b=some o\/(b=x\/H b=none)/\NF o)->XR K a c h g->E (.ref h) g e|.bad=>False
def spB(K:W.Frag)(f:Str)(d:List VW->Res VW):Sp:=λc H Q E=>∃x b C F w v,c=[.ref x,v]/\H x=some (.ins C b [])/\Cls K C/\bO K C f/\F x=none/\(∀a C b,F a≠some (.ins C b []))/\av F H/\RW K F w v/\ajB K f x b C F H Q E (d [w])
section
variable{P:Program}{w:World}{K:W.Frag}{mg:Str->Option Value}{base:Heap}
def afB{nm a0 m st f fd n0 n1 n2 k}{fn:List VW->Res VW}{s1 s2 N l G name D tg p0 p1 p2 p3 p4 p5 p6}(t1 t2)(tv)(Fn:Fun K nm a0 st f fd)(S:FnScope [n0,n1,n2] [n0,n1] (af st))(c8:WL.aqb t1 t2 tv=fn)(d9:aD st=[s1,s2,.Assign [.Attribute N m p0] (.Dict [] [] p1) p2,.For tg G [.Assign [.Subscript (.Attribute l m p3) name p4] D p5] [] p6])(h:∀a4 A y s H E X,X=dG (CXX P w) P w K mg base [n0,n1,n2] a0 (af st) f a4 A y s H E->Room k X.A->PassesOwn (model P w) X.A X.env X.xe->(∀B,B.K=K->XW X B->PS X s1 (loS B t1)/\PS X s2 (loS B t2)/\PE X D (lo B tv))/\PE X N (eF 0)/\PE X l (eF 0)/\PE X G (eF 1)/\PE X name (eF 2)/\PG X tg (L2.aA 2)/\X.calm=true/\attributeBase l m X.env (eval l X.env)=eval l X.env/\swapsWith (.Dict [] [] p1) (some (.Attribute N m p0)) p2.line X.env=pure false/\swapsWith D (some (.Subscript (.Attribute l m p3) name p4)) p5.line X.env=pure false/\∀x,foldedSetIterable G X.env x=pure x):FnOk P w K mg base (CXX P w) (k+1) f fd [n0,n1] (spB K m fn):=by
 subst c8;obtain⟨oc,od,f5,f4,pm,an,a4,ct,f2,rfl,lk,d2⟩:=Fn.ex;refine uD lk d2 S λvs H Q E a5=>by obtain⟨x,dx,C,F,w,v,e,_⟩:=a5;rw[e];rfl λA y s H vs Q E hr _ a5=>?_;obtain⟨x,dx,C,F,w',v,e,hH,cl,na,hF,e6,sm,r,g⟩:=a5;subst e;obtain⟨X,eX⟩:∃X,X=dG (CXX P w) P w K mg base [n0,n1,n2] a0 (af st) f a4 A y s H E:=⟨_,rfl⟩;rw[<-eX];have b5:Room k X.A:=by rw[eX];exact hr
 have Z:X.K=K:=by rw[eX];rfl
 have b1:PassesOwn (model P w) X.A X.env X.xe:=by rw[eX];exact asU
 obtain⟨hB,a6,a2,d7,b2,hg,hc,d5,d0,c7,d6⟩:=h a4 A y s H E X eX b5 b1;let Bz:Bx:=⟨K,je H x,F,λ_ _ _=>False,λ_ _ _ _ _ h=>h⟩;let Y:Bx:=Bz.oE (λc _ M=>∀C dx H' U,av M U->RB Bz U H'->XR K U c C dx->E (.ref C) dx H') λc O M F2 s h C dx H' U s'=>h C dx H' U (s.trans s');have e0:XW X Y:=λc1 e9 H1 s1 O M c R1 xp e C dx T m t xr=>by subst eX;exact jb t (xp C dx H1 M (av.refl _) (R1.rb.box rfl rfl) xr)
 let F0:Hp:=upd F x (.ins C dx []);let B1:Bx:=⟨K,H,F0,λc O M=>Y.xp c O (je M x),λc O M F2 s h=>Y.mono c O _ _ (adf s) h⟩;have b7:∀{M H1:Hp},RB B1 M H1->M x=some (.ins C dx [])/\RB Y (je M x) H1:=λ{M H1}R=>⟨R.fz0 x _ aj,R.out rfl rfl hF rfl rfl⟩;have e7:XW X B1:=λc1 e9 H1 s1 O M c R1 xp e Ce a8 T m t xr=>by obtain⟨z1,z2⟩:=b7 R1.rb;subst eX;exact jb t (xp Ce a8 H1 _ (av.refl _) (z2.box rfl rfl) (xr.out z1))
 obtain⟨h1,h2,_⟩:=hB B1 rfl e7;have hu:X.A.units+1<cLine:=by have:=b5.un;omega
 have h4:=ahn (X:=X) (B:=Y) (f:=m) (x:=x) (C:=C) (dx:=dx) (tv:=tv) (ap:=p3) (sp:=p4) (apos:=p5) (pos:=p6) Z (by rw[eX]at b1⊢;exact b1) hc e0 (λc O f6 F h=>h) hu d7 a2 b2 hg (λB' hk hx=>(hB B' (hk.trans Z) hx).2.2) d5 (Z▸cl) (Z▸na) c7 d6;have b4:aD st=[s1,s2,.Assign [.Attribute N m p0] (.Dict [] [] p1) p2,.For tg G [.Assign [.Subscript (.Attribute l m p3) name p4] D p5] [] p6]:=d9;rw[b4];have d3:av F0 H:=λb o e=>by
  by_cases I:b=x;.subst I;have:upd F b (.ins C dx []) b=some o:=e;rw[aj]at this;cases this;exact hH
  .have:upd F x (.ins C dx []) b=some o:=e;rw[ag I]at this;exact sm b o this
 have R0:RS B1 [.ob,.va w',.no] (L2.start [n0,n1,n2] [.ref x,v]) F0 H:=by
  refine⟨⟨d3,av.refl _,av.refl _,λa o e=>.inl e⟩,rfl,λi u e=>?_,λi u e=>?_,λi j u u' a _ e1 _ _ _=>?_,λi u u' e=>?_,λi j u u' _ _ a _ e1 _ _ _=>?_,λi e=>?_⟩;.rcases i with _|_|_|i<;>cases e;exact⟨v,rfl,r.keep (ay hF _)⟩
  .rcases i with _|_|_|i<;>cases e
  .rcases i with _|_|_|i<;>cases e1
  .rcases i with _|_|_|i<;>cases e
  .rcases i with _|_|_|i<;>cases e1
  .rcases i with _|_|_|i<;>cases e;exact⟨x,C,dx,rfl,aj⟩
 have g:ajB K m x dx C F H Q E (match WL.aH t1 t2 [.ob,.va w',.no]with|.nx O=>WL.anw tv O|.ex c _=>.ex c|_=>.bad):=g;have c3:∀{U H':Hp},RB Bz U H'->∀b o,U b=some o->F b=some o\/(b=x\/H b=none)/\NF o:=λ{U H'}rb b o e=>by
  rcases rb.fr b o e with z|z;.exact .inl z
  .refine .inr ⟨?_,z.2⟩;by_cases I:b=x;.exact .inl I
   .have z1:je H x b=none:=z.1;rw[cG I]at z1;exact .inr z1
 have c2:∀{U H':Hp},RB Bz U H'->∀b o,b≠x->H b=some o->H' b=some o:=λ{U H'}rb b o I e=>rb.base b o (by show je H x b=_;rw[cG I];exact e);have a1:∀{c:VW}{O:Ws},ajB K m x dx C F H Q E (.ex c)->Y.xp c O F:=λ{c O}q Ce a8 H' U s' rb xr=>q Ce a8 H' U s' rb.sub (c2 rb) (c3 rb) xr;have b9:je F0 x=F:=afE hF;refine⟨_,aT h1 (aT h2 (aT (ab4 a6 ae8 d0) (cT h4))),?_⟩;refine⟨_,F0,R0,?_⟩;unfold WL.aH at g;cases e1:t1 [.ob,.va w',.no]with|bk _|ct _|rt _|bad=>rw[e1]at g;exact g.elim|ex c σ1=>rw[e1]at g;show Y.xp c σ1 (je F0 x);rw[b9];exact a1 g|nx σ1=>
  rw[e1]at g;intro f1 H1 M R1 s1;refine⟨σ1,M,R1,?_⟩;have g:ajB K m x dx C F H Q E (match t2 σ1 with|.nx O=>WL.anw tv O|.ex c _=>.ex c|_=>.bad):=g
  cases e2:t2 σ1 with|bk _|ct _|rt _|bad=>rw[e2]at g;exact g.elim|ex c σ2=>
   rw[e2]at g;refine Y.mono c σ2 F _ (λb o e=>?_) (a1 g);have I:b≠x:=λz=>by rw[z,hF]at e;cases e
   rw[cG I];exact s1 b o (by show upd F x _ b=_;rw[ag I];exact e)|nx σ2=>rw[e2]at g;intro J H2 F2 R2 s2;have g:ajB K m x dx C F H Q E (match(σ2[0]?:Option Sl)with|some .ob=>if σ2.length=3 then WL.anH (WL.acR tv (WL.clr σ2++[.od [] []]))else .bad|_=>.bad):=g;cases e3:σ2[0]? with|none=>rw[e3]at g;exact g.elim|some sl=>rw[e3]at g;cases sl with
 |ob=>
     have g:ajB K m x dx C F H Q E (if σ2.length=3 then WL.anH (WL.acR tv (WL.clr σ2++[.od [] []]))else .bad):=g;by_cases a3:σ2.length=3;rotate_left;.rw[arl a3]at g;exact g.elim
     rw[arj a3]at g;obtain⟨b8,d4⟩:=b7 R2.rb;have l0:J[0]?=some (some (.ref x)):=by
      obtain⟨a,Ca,f3,g1,g2⟩:=R2.dd.ob 0 e3;rcases R2.rb.fr a _ g2 with z|z
      .by_cases ha:a=x;.subst ha;exact g1
       .have z:upd F x (.ins C dx []) a=_:=z;rw[ag ha]at z;exact(e6 _ _ _ z).elim
      .exact z.2.elim
     have c4:H2 x=some (.ins C dx []):=R2.rb.sub _ _ b8;have c6:J.length=3:=by rw[<-R2.len];exact a3
     have R3:RS Y (WL.clr σ2) J (je F2 x) H2:=R2.clr rfl b8 d4;intro p hp;have b3:p≠x:=λz=>by rw[z,c4]at hp;cases hp
     refine⟨.ref x,l0,x,C,dx,[],rfl,by rw[ag (arz b3)];exact c4,Z▸cl,Z▸na,by decide,?_⟩;have R4:RS Y (WL.clr σ2) J (je F2 x) (upd (upd H2 p (.dK [])) x (.ins C dx [(m,.ref p)])):=(R3.ajO hp (.dK [])).away _ nX nX (λj ws e=>(adZ.1 ws e).elim) λj ks us e=>(adZ.2 ks us e).elim;have e8:je F2 x p=none:=by rw[cG b3];exact R2.rb.sub.free hp
     have d8:upd (upd H2 p (.dK [])) x (.ins C dx [(m,.ref p)]) p=some (.dK []):=by rw[ag b3,aj]
     have c9:Y.H0 p=none:=R3.rb.base.free hp;have c0:(WL.clr σ2).length=3:=by rw[<-a3];simp[WL.clr]
     have R5:RS Y (WL.clr σ2++[.od [] []]) (J++[some (.ref p)]) (je F2 x) (upd (upd H2 p (.dK [])) x (.ins C dx [(m,.ref p)])):=by
      have:=R4.snoc.aqa (i:=3) (ks:=[]) (us:=[]) e8 c9 d8 (by simp[RWs]) (by simp[RWs]) λj ks us hj ej hv=>by
       by_cases f7:j<3;.rw[arO (by omega)]at ej;exact(adZ.2 ks us ej).elim
       .rw[arQ (by omega),c0]at ej;cases hz:j-3 with|zero=>exact hj (by omega)|succ n=>rw[hz]at ej;cases ej
      rw[List.set_append_right _ _ (by omega),List.set_append_right _ _ (by omega),c0,c6]at this;exact this
     have b6:av F (je F2 x):=λb o e=>by
      have I:b≠x:=λz=>by rw[z,hF]at e;cases e
      rw[cG I];exact s2 b o (s1 b o (by show upd F x _ b=_;rw[ag I];exact e))
     refine⟨_,p,je F2 x,c6,R5,⟨l0,nX,aj⟩,?_⟩;cases e4:WL.acR tv (WL.clr σ2++[.od [] []])with|bk _|ct _|rt _|bad=>rw[e4]at g;exact g|ex c σ3=>rw[e4]at g;exact Y.mono c σ3 F _ b6 (a1 g)|nx σ3=>rw[e4]at g;intro f0 d H3 F3 d1 R6 b0 s6;have g:ajB K m x dx C F H Q E (match(σ3[3]?:Option Sl)with|some (.od ks us)=>.ok (.dic ks us)|_=>.bad):=g;cases e5:σ3[3]? with
   |none=>rw[e5]at g;exact g.elim
    |some sl=>rw[e5]at g;cases sl with|od ks us=>
        obtain⟨a,a7,k1,k2,k3,k4,k5,k6⟩:=R6.dd.od 3 ks us e5;rw[arQ (by omega),d1]at k1;cases k1;have a9:d≠x:=λz=>by rw[z,b0.H]at k4;cases k4
        have sD:av F3 (upd F3 d (.dK a7)):=ay k2 _;have c5:RB Bz F3 H3:=R6.rb.box rfl rfl;refine g H3 (upd F3 d (.dK a7)) d (by have k3:je H x d=none:=k3;rw[cG a9]at k3;exact k3) ((b6.trans s6).trans sD) (λb o e=>?_) (c2 c5) b0.H (by rw[ag (arz a9)];exact b0.F) (λb o e=>?_) (by simp only[RW];exact⟨d,a7,rfl,.inl aj,k5.keep sD,k6.keep sD⟩)
        .by_cases I:b=d;.subst I;rw[aj]at e;cases e;exact k4
         .rw[ag I]at e;exact R6.rb.sub b o e
        .by_cases I:b=d;.subst I;rw[aj]at e;cases e;have k3:je H x b=none:=k3;rw[cG a9]at k3;exact .inr ⟨.inr k3,trivial⟩
         .rw[ag I]at e;exact c3 c5 b o e|_=>exact g.elim
  |_=>exact g.elim
end
noncomputable def noI(F:Hp):Hp:=λb=>match F b with|some (.ins _ _ [])=>none|o=>o
def ym{F b o}(h:noI F b=some o):F b=some o:=by
 unfold noI at h;split at h;.cases h
 .exact h
set_option tactic.hygienic true in
def alR{F b o}(h:F b=some o):noI F b=some o\/∃C a,o=.ins C a []:=by
 unfold noI;rw[h];split;.rename_i C a e;cases e;exact .inr ⟨C,a,rfl⟩
 .exact .inl rfl
noncomputable def jo(F a:Hp):Hp:=λb=>match F b with|some o=>some o|none=>a b
def ams{F a b o}(h:F b=some o):jo F a b=some o:=by unfold jo;rw[h]
def amr{F a b}(h:F b=none):jo F a b=a b:=by unfold jo;rw[h]
def am6(P:Program)(w:World)(K:W.Frag)(c:Str->Option Value)(a:Heap)(k:Nat)(fI:Addr)(ps:List Str)(sp:Sp):Prop:=∃b:FuncData,FnOk P w K c a (CXX P w) k fI b ps sp/\Binds K b ps []
def yC{P:Program}{w:World}{K:W.Frag}{i:Str->Option Value}{b:Heap}{k:Nat}{f:Addr}{a:Str}{st:Stmt}{ps:List Str}{sp:Sp}(D:∃c,Fun K "__init__" a st f c)(l:∀(kV d m:Value)(j:Option Addr)(g ct:Value)(e:List Value),e.length=ps.length->bindArgs (W.fnOf "__init__" a (bC st) (aD st) (af st) .none kV d m j g ct) ⟨e,[]⟩=pure (ps.zip e))(h:∀c:FuncData,Fun K "__init__" a st f c->FnOk P w K i b (CXX P w) k f c ps sp):am6 P w K i b k f ps sp:=by obtain⟨c,F⟩:=D;exact⟨c,h c F,F.binds l⟩
def un1{n:Nat}(h:n+64<cLine):n+1<cLine:=by omega
end WS
namespace L2
open PySem PySem.Spec PyProof.Rows
section
variable{X:Cx}{k:Nat}{f C:Addr}{fd:FuncData}{ps:List Str}{sp:Sp}{dvs:List V}{ds:List Value}{m:Str}{apos pos:Pos}{o e:Expr}{es:List Expr}{ta:TE}{t:TA}
def xF(X:Cx)(C:Addr)(m:Str)(sp:Sp)(dvs:List V)(ta:TE)(t:TA):TE:=λd H Q=>ta d H λx g=>∃a n fs,x=.ref a/\g a=some (.ins C n fs)/\fs.lookup m=none/\t d g λj l=>∃E:XK,sp (x::(j++dvs)) l Q E/\∀c s e i b T h,Thr X c d h s e i b .none (some T)->E (.ref i) b h->X.xe (.ref e) s
def xY{pl}(A:PE X o ta)(c:Cls X.K C)(v:Meth X.K C m f)(F:FnOk X.prog X.w X.K X.mg X.base (CXX X.prog X.w) k f fd ps sp)(O:Room k X.A)(D:Binds X.K fd ps ds)(M:Vals dvs ds)(J:PA X (e::es) t)(g:SE X e es:=by rfl)(i:BT X pos es:=by rfl)(P:eval (.Call (.Attribute o m apos) (e::es) [] pos) X.env=(do
  let n <-eval o X.env
  standAt apos.atName let(f,first)<-holding [n] (getMethod n m pl)callWith pos f first (backTo pos (starEach (e::es) X.env)) (backToKw pos (keywordEach [] X.env))):=by rfl):PE X (.Call (.Attribute o m apos) (e::es) [] pos) (xF X C m sp dvs ta t):=by intro b s w H Q I h;refine auJ (thn (A b s w H _ I h) λu B d=>?_) P;obtain⟨x,y,j,K,a,S,fs,ex,z,l,q⟩:=d;subst ex;obtain rfl:=K;exact pX j z c v l (auD  I.ok.mod.kin v.kp (thn (J pos b B w y _ j q) λT R⟨vs,U,p,r,E,G,N⟩=>⟨p.kIn,vK (vs:=.ref a::vs) F O D M N p (.cons rfl r) G⟩) g i)
def ach{pl}(r:PE X o ta)(c:Cls X.K C)(g:Meth X.K C m f)(F:FnOk X.prog X.w X.K X.mg X.base (CXX X.prog X.w) k f fd ps sp)(A:Room k X.A)(v:Binds X.K fd ps ds)(y:Vals dvs ds)(B:eval (.Call (.Attribute o m apos) [] [] pos) X.env=(do
  let i <-eval o X.env
  standAt apos.atName let(f,first)<-holding [i] (getMethod i m pl)callWith pos f first (backTo pos (starEach [] X.env)) (backToKw pos (keywordEach [] X.env))):=by rfl):PE X (.Call (.Attribute o m apos) [] [] pos) (xF X C m sp dvs ta xE):=by intro j s D H Q I h;refine auJ (thn (r _ s D H _ I h) λu J d=>?_) B;obtain⟨x,G,b,w,a,K,fs,ex,p,l,q⟩:=d;subst ex;obtain rfl:=w;refine pX b p c g l ?_;refine gb q λE n z=>?_;exact W.callWith_K0 b.kIn g.kp (vK (vs:=[.ref a]) F A v y z b (.cons rfl .nil) n)
end
end L2
namespace WS
open PySem PySem.Spec PyProof.Rows L2
open WL(Res Sl Ws EF TF AF LF GF GsF SF Out OX RF Rn AXF)
section
variable{B:Bx}{σ:Ws}{σV:L2.St}{F H:Hp}{x:Addr}{o:HO}
def RS.aq3(R:RS B σ σV F H)(A:F x=none)(r:B.H0 x=none)(k:H x=some o)(p:NF o)(D:∀l,o≠.lst l)(nd:∀l,o≠.dK l):RS B σ σV (upd F x o) H:=by
 have s:av F (upd F x o):=ay A _;refine⟨⟨λb u q=>?_,R.rb.base,R.rb.fz0.trans s,λb u q=>?_⟩,R.len,λi w q=>?_,λi ws q=>?_,R.ap,λi y j q=>?_,R.dd.ad,λi q=>?_⟩
 .by_cases d:b=x;.subst d;rw[aj]at q;cases q;exact k
  .rw[ag d]at q;exact R.rb.sub b u q
 .by_cases d:b=x;.subst d;rw[aj]at q;cases q;exact .inr ⟨r,p⟩
  .rw[ag d]at q;exact R.rb.fr b u q
 .obtain⟨v,c,e⟩:=R.va i w q;exact⟨v,c,e.keep s⟩
 .refine oz (R.ow i ws q) λa m c e h g f=>?_;have d:a≠x:=λz=>by grind
  exact aaI a m c (by rw[ag d];exact e) h g (f.keep s)
 .refine agf (R.dd.od i y j q) λa l c e h g f n=>?_;exact ajD a l c (by rw[ag λz=>by grind];exact e) h g (f.keep s) (n.keep s)
 .refine xh (R.dd.ob i q) λa C t c e=>?_;exact aen a C t c (s _ _ e)
end
section
variable{X:Cx}{B:Bx}{fl x:Str}{c:String}{C f:Addr}{fd:FuncData}{ps:List Str}{k:Nat}{fn:List VW->Res VW}{e:Expr}{es:List Expr}{tas:AF}{p pos:Pos}
def aey(hK:X.K=B.K)(hx:XW X B)(M:Mk X.K C f)(cl:Cls X.K C)(na:bO X.K C fl)(a7:W.nsIn X.K mainGlobals (Str.ofString c)=some (some (.ref C)))(a8:WL.lY c=[fl])(G:FnOk X.prog X.w X.K X.mg X.base (CXX X.prog X.w) k f fd ps (spB X.K fl fn))(hr:Room (k+1) X.A)(hg:Gl X x)(hm:X.mg x=some (.ref C))(hb:Binds X.K fd ps [])(ha:PA X (e::es) (loA B tas))(hn:∀A ws,tas A=.ok ws->ws.length=1:=by repeat first|exact iu|apply de)(a1:Dbg x:=by decide)(he:SE X e es:=by rfl)(a4:BT X pos es:=by rfl):PE X (.Call (.Name x p) (e::es) [] pos) (lo B (WL.yM c fn tas)):=PE.imp (xZ M G hr hg hm hb .nil ha a1 he a4) λK H Q a0=>by obtain⟨A,F,R,q⟩:=a0;have q:=Rq.bind q;refine⟨A,F,R,?_⟩;cases ea:tas A with|bad|ex c=>rw[ea]at q;exact q|ok ws=>
 rw[ea]at q;have hl:=hn A ws ea;obtain⟨w,rfl⟩:∃w,ws=[w]:=by match ws,hl with|[w],_=>exact⟨w,rfl⟩
 have q:=Rq.bind (show Rq B A F ((fn [w]).bind λwd=>Res.ok (WL.W.ins c [wd])) _ from q);intro vs E h l g1 r1 x r m a2 a9;obtain⟨v,rfl,r3⟩:=bF r1;rw[ar2];have hc:∀b o,E b=some o->b≠x/\b≠r/\upd (upd E r (.own x)) x (.ins C r []) b=some o:=λb o z=>by
  have N:b≠x:=λy=>by rw[y,m]at z;cases z
  have I:b≠r:=λy=>by rw[y,a2]at z;cases z
  exact⟨N,I,by rw[ag N,ag I];exact z⟩
 have ext:∀{g j:Hp},av (noI h) g->av g j->(∀b o,b≠x->upd (upd E r (.own x)) x (.ins C r []) b=some o->j b=some o)->(∀b o,g b=some o->noI h b=some o\/(b=x\/upd (upd E r (.own x)) x (.ins C r []) b=none)/\NF o)->Gr h E (jo h g) j/\RB B (jo h g) j/\av g (jo h g):=λ{g j}s1 O S fr=>by
  have sH:av E j:=λb o z=>S b o (hc b o z).1 (hc b o z).2.2;have Y:∀b o,g b=some o->h b=none->E b=none/\NF o:=λb o z n=>by
   rcases fr b o z with y|⟨y,nf⟩;.rw[ym y]at n;cases n
   .refine⟨?_,nf⟩;rcases y with y|y;.rw[y];exact m
    .cases i:E b with|none=>rfl|some u=>rw[(hc b u i).2.2]at y;cases y
  refine⟨⟨λb o z=>ams z,sH,λb o z n=>?_⟩,⟨λb o z=>?_,l.rb.base.trans sH,λb o z=>ams (l.rb.fz0 b o z),λb o z=>?_⟩,λb o z=>?_⟩;.rw[amr n];cases e2:g b with|none=>rfl|some u=>rw[(Y b u e2 n).1]at z;cases z
  .cases i:h b with|some u=>rw[ams i]at z;cases z;exact sH b _ (l.rb.sub b _ i)|none=>rw[amr i]at z;exact O b o z
  .cases i:h b with|some u=>rw[ams i]at z;cases z;exact l.rb.fr b _ i|none=>rw[amr i]at z;obtain⟨N,I⟩:=Y b o z i;exact .inr ⟨l.rb.base.free N,I⟩
  .cases i:h b with|none=>rw[amr i];exact z|some u=>have N:=sH b _ (l.rb.sub b _ i);have I:=O b o z;rw[N]at I;cases I;exact ams i
 have Z:h x=none:=l.rb.sub.free m;refine⟨λP D j=>∃Ca g c,P=.ref Ca/\RS B A K g j/\B.xp c A g/\XR B.K g c Ca D,?_,λU s e P D T H' t⟨Ca,g,c,ec,R2,xp,xr⟩=>?_⟩
 .refine⟨x,r,C,noI h,w,v,rfl,aj,cl,na,?_,λa Ca da z=>?_,λb o z=>?_,?_,?_⟩;.cases i:noI h x with|none=>rfl|some u=>have:=l.rb.sub x _ (ym i);rw[m]at this;cases this
  .have:=ym z;unfold noI at z;rw[this]at z;cases z
  .exact(hc b o (l.rb.sub b o (ym z))).2.2
  .rw[hK];exact RW.one ((RWs.one r3).ama λb o z=>alR z)
  .cases ef:fn [w]with|bad=>rw[ef]at q;exact q|ok wd=>
    rw[ef]at q;intro j g d _ s1 O S a6 a5 fr a3;obtain⟨J,rb,sj⟩:=ext s1 O S fr;have fx:jo h g x=none:=by rw[amr Z];exact a5
    have R3:RS B A K (upd (jo h g) x (.ins C r [(fl,.ref d)])) j:=(l.grow J rb).aq3 fx (l.rb.base.free m) a6 trivial (λ_ z=>nomatch z) λ_ z=>nomatch z;refine⟨rfl,(show∀v H' F',_ from q) (.ref x) j _ R3 (g1.trans ⟨J.f.trans (ay fx _),J.h,λb o z n=>?_⟩) ?_⟩;.rw[ag (hc b o z).1];exact J.nf b o z n
    .simp only[RW];refine⟨x,C,r,[(fl,.ref d)],rfl,aj,hK▸a7,a8.symm,by simp,RWs.one ?_⟩;exact(show RW B.K g wd (.ref d)from hK▸a3).keep (sj.trans (ay fx _))|ex c=>rw[ef]at q;intro P D j g s1 O S fr xr;obtain⟨J,rb,sj⟩:=ext s1 O S fr;exact⟨P,jo h g,c,rfl,l.grow J rb,B.mono c A F _ (g1.f.trans J.f) q,(hK▸xr).keep sj⟩
 .cases ec;exact hx U K H' s A g c R2 xp e P D (some T) _ t (by rw[hK];exact xr)
set_option tactic.hygienic true in
def ahA{o u}(N:X.K=B.K)(I:W.nsIn X.K mainGlobals (Str.ofString c)=some (some (.ref C)))(cl:Cls X.K C)(D:bO X.K C fl)(n:WL.lY c=[fl])(P:PE X o (lo B u))(G:attributeBase o fl X.env (eval o X.env)=eval o X.env:=by rfl):PE X (.Attribute o fl pos) (lo B (WL.adB c u)):=PE.imp (x8 P G) λM H Q m=>by
 refine dU m λS F R q=>?_;have q:=Rq.bind q;refine eh S F R (Rq.mono (av.refl _) q λy h v A z t J K=>?_);unfold WL.aqu at h;split at h
 .rename_i T w;split at h
  .rename_i b;have b:=eq_of_beq b;subst b;refine anQ K λa U E i l O s j _ r=>?_;subst l;rw[<-N,I]at s;cases s;rw[n]at j;obtain⟨d,rfl,r⟩:∃d,i=[(fl,d)]/\RWs B.K z [w] [d]:=by match i,j,r with
 |[(g,d)],j,r=>
     have:g=fl:=by simpa using j
     subst this;exact⟨d,rfl,r⟩
   exact aj5 a C E _ d rfl (t.rb.sub _ _ O) cl D (by simp[List.lookup]) (h d A z t J (RW.one r))
  .exact(h).elim
 .exact(h).elim
def yu{o:Expr}{D m n}(J:X.K=B.K)(Y:XW X B)(S:W.nsIn X.K mainGlobals (Str.ofString c)=some (some (.ref C)))(t:WL.lY c=[fl])(s:(m==fl)=false)(M:∀g ws,tas g=.ok ws->ws.length+1=n):∀d H Q,lo B (WL.gO c fn D tas) d H Q->xF X C m (spX X.K n fn) [] (lo B D) (loA B tas) d H Q:=by
 intro d H Q⟨g,F,R,q⟩;have q:=Rq.bind q;refine⟨g,F,R,Rq.mono (av.refl _) q λy b v H0 u A K E=>?_⟩;by_cases h:WL.isI c y=true
 .rw[arj h]at b;obtain⟨z,rfl⟩:∃z,y=.ins c [z]:=by
   unfold WL.isI at h;split at h;.rw[eq_of_beq h];exact⟨_,rfl⟩
   .cases h
  have i:=E;simp only[RW]at i;refine anQ i λa C' P r l U w O _ _=>?_;subst l;rw[<-J,S]at w;cases w;rw[t]at O;obtain⟨I,rfl⟩:∃I,r=[(fl,I)]:=by simp_all
  refine⟨a,P,_,rfl,A.rb.sub _ _ U,by simp[List.lookup,s],g,u,A,?_⟩;cases j:tas g with|bad=>rw[j]at b;exact b|ex c=>rw[j]at b;exact B.mono c g F u K.f b|ok ws=>rw[j]at b;exact λvs Z F1 N G T=>qp J Y N (K.trans G) (.cons (E.keep G.f) T) (by rw[arw];exact M g ws j) b (by rw[ar2])
 .rw[arl h]at b;exact(show False from b).elim
end
end WS
namespace L2
open PySem PySem.Spec PyProof.Rows
section
variable{X:Cx}
def tI(c:X.A.units+1<cLine):OpR X (compareOp .NotIn) λx y H Q=>∃a o,y=.ref a/\aqD H a x o/\Q (.bl !o.isSome) H:=by intro b s j H x y v u Q I h f⟨a,o,e,g,q⟩;subst e;cases f;exact ajj c I g h λi d=>⟨.bl _,H,d,rfl,q⟩
end
end L2
namespace WS
open PySem PySem.Spec PyProof.Rows L2
open WL(Res Sl Ws EF TF AF LF GF GsF SF Out OX RF Rn AXF)
section
variable{X:Cx}{K:W.Frag}
def w5:Calm WL.nJ:=λx y c h=>by
 unfold WL.nJ at h;split at h;.split at h<;>cases h
 .exact eI _ _ _ h
def amB{F k a}(b:RW K F k (kV a)){kvs ks}(r:RWs K F ks (kvs.map λp=>kV p.1)):WL.afX k ks=(qh kvs a).isSome:=by rw[wV b r,l7]
def aeD(n:X.K=K)(f:X.A.units+64<cLine):OpR X (compareOp .NotIn) (lo2 K WL.nJ):=by
 intro k s l H x y v u Q I i h⟨F,wx,p,g,d,j,q⟩;unfold WL.nJ at q;split at q
 .split at q;.rename_i m;obtain⟨c,rfl⟩:=yy m d;refine kU j λa e b rd o _=>?_;subst b;rw[amB d o]at q;exact tI (un1 f) _ s l H _ _ v u Q I i h ⟨a,_,rfl,.inl ⟨e,c,g.rd rd,rfl,rfl⟩,eq1 q (rfl)⟩
  .exact q.elim
 .exact j7 n f _ s l H x y v u Q I i h (vc F _ _ g d j q)
theorem yP{F k a}(b:RW K F k (kV a))(w:VW):∀{kvs ks us},RWs K F ks (kvs.map λp=>kV p.1)->RWs K F us (kvs.map λp=>p.2)->WL.aar k ks us=some w->∃v,qh kvs a=some v/\RW K F w v
|[],ks,us,r1,r2,e=>by cases ks with|nil=>cases e|cons x ks=>simp[RWs]at r1
|p::kvs,ks,us,r1,r2,e=>by cases ks with|nil=>cases e|cons x ks=>cases us with|nil=>cases e|cons y us=>
  obtain⟨o,r,l,m,j⟩:=r1;obtain⟨n,q,f,c,i⟩:=r2;cases l;cases f;unfold WL.aar at e;rw[q5 m b]at e;by_cases h:p.1=a;.rw[atg h]at e;cases e;exact⟨_,en h,c⟩
  .rw[ash h]at e;obtain⟨v,g,d⟩:=yP b w j i e;exact⟨v,by rw[er h];exact g,d⟩
def af0:Calm WL.ajL:=λx y c h=>by
 unfold WL.ajL at h;split at h
 .split at h;.revert h;cases WL.aar _ _ _<;>simp[WL.ofO]
  .cases h
 .exact ad3 _ _ _ h
set_option tactic.hygienic true in
def an0(G:X.K=K):IxR X (lo2 K WL.ajL):=by
 intro g f i s n H x y v u Q I m k⟨F,wx,p,h,j,d,q⟩l;unfold WL.ajL at q;split at q
 .rename_i C E;split at q;.rename_i o;obtain⟨b,rfl⟩:=yy o d;obtain⟨a,c,rfl,rd,t,A⟩:=j;cases e:WL.aar p C E with|none=>rw[e]at q;exact q.elim|some w=>rw[e]at q;obtain⟨z,r,D⟩:=yP d w t A e;exact ac9 _ _ _ s n H _ _ v u Q I m k ⟨a,c,b,z,rfl,rfl,h.rd rd,r,eq1 q D⟩ l
  .exact q.elim
 .exact ap5 G _ _ _ s n H x y v u Q I m k ⟨F,_,_,h,j,d,q⟩ l
end
end WS
namespace L2
open PySem PySem.Spec PyProof.Rows
theorem kh:∀{ss:List Str}{us:List Value},Vals (ss.map V.str) us->StrsAre us ss|[],_,r=>by cases r;exact .nil|x::ss,_,r=>by rw[arv]at r;cases r with|cons h t=>obtain⟨k,rfl⟩:=show∃t,_=Value.str x t from h;exact .cons x k (kh t)
theorem kA:∀{us:List Value}{ss:List Str},StrsAre us ss->Vals (ss.map V.str) us|_,_,.nil=>.nil|_,_,.cons y t r=>.cons ⟨t,rfl⟩ (kA r)
def l2{X:Cx}:ba X (.builtin "sorted") λj H Q=>∃p g,j=[.ref p]/\SqL X.K H p (g.map V.str)/\g.length<64/\∀l c,H l=none->List.Perm c g->sortedS c=true->Q (.ref l) (upd H l (.lst (c.map V.str))):=by
 intro n s G H j y Q I C⟨p,g,e,A,k,q⟩;subst e;obtain⟨u,rfl,x⟩:∃u,y=[u]/\RelV (.ref p) u:=by cases C with|cons h t=>cases t;exact⟨_,rfl,h⟩
 cases show u=Value.ref p from x;obtain⟨d,m,v,E⟩:=I.list A;have B:=kh m;have f:d.length<64:=by rw[<-m.length,arB];exact k
 refine sorted_strs v.isList B f λout c D i w=>?_;obtain⟨e,r⟩:=sortedAll_at s.heap d out;refine⟨.ref (s.heap.objs.size+1),_,I.laid (a:=s.heap.objs.size+1) (o:=.lst (c.map V.str)) (t':=s.toks) (λb o z=>sortedAll_old z) (ato _) ⟨?_,out.toList,e,kA D,?_⟩,rfl,q _ c (I.hok.fresh (ato _)) i w⟩;.rw[arB,i.length_eq];exact arq (ats k) (by decide)
 .rw[r]
end L2
namespace WS
open PySem PySem.Spec PyProof.Rows L2
open WL(Res Sl Ws EF TF AF LF GF GsF SF Out OX RF Rn AXF)
section
variable{X:Cx}{K:W.Frag}
set_option tactic.hygienic true
theorem jB{F:Hp}:∀{ws:List VW}{ss:List Str}{vs:List V},WL.strsOf ws=some ss->RWs K F ws vs->vs=ss.map V.str
|[],_,_,e,r=>by cases e;simpa[RWs]using r|w::ws,ss,vs,e,r=>by
 simp only[RWs]at r;obtain⟨v,c,rfl,q,t⟩:=r;cases w<;>simp only[WL.strsOf]at e<;>first|(cases e;done)|skip
 rename_i x;obtain⟨a,b,rfl⟩:=arP.mp e;simp only[RW]at q;rw[q,jB b t];rfl
set_option tactic.hygienic false
theorem qB{F:Hp}:∀(ss:List Str),RWs K F (ss.map WL.W.str) (ss.map V.str)|[]=>by simp[RWs]|x::ss=>.cons (by simp[RW]) (qB ss)
def aau:∀a c,WL.lO a≠.ex c:=λa c h=>by
 unfold WL.lO at h;split at h
 .split at h;.split at h<;>cases h
  .cases h
 .cases h
set_option tactic.hygienic true in
def ahE(i:X.K=K):ba X (.builtin "sorted") (loN K WL.lO):=by
 subst i;refine ba.imp l2 λw H Q b=>?_;obtain⟨F,ws,s,r,q⟩:=b;unfold WL.lO at q;split at q
 .rename_i t;split at q
  .rename_i d k;split at q;.rename_i o;obtain⟨v,rfl,h⟩:=bF r;simp only[RW]at h;obtain⟨a,u,rfl,p,m⟩:=h;have n:=jB k m;subst n;refine⟨a,d,rfl,s.seq p,o,λl c g f j=>?_⟩;have e:=WL.ki f j;subst e;exact afP s q (qB _) g
   .exact q.elim
  .exact q.elim
 .exact q.elim
end
end WS
namespace L2
open PySem PySem.Spec PyProof.Rows
theorem vt:∀{xs:List V}{us:List Value},us.length=xs.length->(∀(i:Nat)(x:V)(u:Value),xs[i]?=some x->us[i]?=some u->RelV x u)->Vals xs us|[],[],_,_=>.nil|[],_::_,h,_=>by simp at h|_::_,[],h,_=>by simp at h|x::xs,u::us,h,k=>.cons (k 0 x u rfl rfl) (vt (by simpa using h) λi y v b a=>k (i+1) y v (by simpa using b) (by simpa using a))
def o3{X:Cx}(K:X.calm=true):ba X (.type "list") λg H Q=>∃a kvs,g=[.ref a]/\Rd H a (.dK kvs)/\∀l,H l=none->Q (.ref l) (upd H l (.lst (kvs.map λp=>kV p.1))):=by
 intro m s Y H g N Q I S⟨a,kvs,e,rd,q⟩;subst e;obtain⟨u,rfl,J⟩:∃u,N=[u]/\RelV (.ref a) u:=by cases S with|cons h t=>cases t;exact⟨_,rfl,h⟩
 cases show u=Value.ref a from J;obtain⟨z,T,E,c,P⟩:=aac I.hok rd;obtain⟨ep,f⟩:=P.dictAt;have j:=c.length;refine W.kdl_call (W.kdl_dict (knd:=bP X.prog X.w) (kvs:=E) (ep:=ep) T) (I.ok.hd K) f (by rw[<-j];exact z) λU tk b B C R A=>?_;refine⟨.ref s.heap.objs.size,_,I.laid (a:=s.heap.objs.size) (o:=.lst (kvs.map λp=>kV p.1)) (t':=tk) C (arn _) ⟨by rw[arB];exact z,b.toList,B,vt ?_ ?_,?_⟩,rfl,q _ (I.hok.fresh (arn _))⟩;.rw[asH,arB,j];exact A.1
 .intro i x v w D;rw[arL,arP]at w;obtain⟨p,d,rfl⟩:=w;obtain⟨k,y,O,M⟩:=A.2 i v (by rw[<-atU];exact D);obtain⟨r,n,G,_⟩:=c.get d;rw[O]at n;cases n;rw[G];exact abT M
 .rw[Array.toArray_toList];exact R
end L2
namespace WS
open PySem PySem.Spec PyProof.Rows L2
open WL(Res Sl Ws EF TF AF LF GF GsF SF Out OX RF Rn AXF)
section
variable{X:Cx}{K:W.Frag}
def aaw:∀a c,WL.ov a≠.ex c:=λa c h=>by
 unfold WL.ov at h;split at h;.split at h<;>cases h
 .exact uU _ _ h
set_option tactic.hygienic true in
def ahG(i:X.calm=true)(m:X.K=K):ba X (.type "list") (loN K WL.ov):=by
 intro b s g H n e Q I f⟨F,ws,c,r,q⟩;unfold WL.ov at q;split at q
 .rename_i p k;split at q;.obtain⟨v,rfl,h⟩:=bF r;simp only[RW]at h;obtain⟨a,d,rfl,rd,o,_⟩:=h;exact o3 i b s g H _ e Q I f ⟨a,d,rfl,c.rd rd,λl j=>afP c q o j⟩
  .exact q.elim
 .exact agl m b s g H n e Q I f ⟨F,_,c,r,q⟩
end
end WS
namespace L2
open PySem PySem.Spec PyProof.Rows PySem.Calls
def gP{X}(hc:X.calm=true):ba X (.builtin "sorted") λN H Q=>∃a kvs,∃w,N=[.ref a]/\Rd H a (.dK kvs)/\(kvs.map λp=>kV p.1)=w.map V.str/\w.length<64/\∀l c,H l=none->List.Perm c w->sortedS c=true->Q (.ref l) (upd H l (.lst (c.map V.str))):=by
 intro n s σ H N us Q I rx⟨a,kvs,w,e,rd,D,C,q⟩;subst e;obtain⟨u,rfl,ru⟩:∃u,us=[u]/\RelV (.ref a) u:=by cases rx with|cons h t=>cases t;exact⟨_,rfl,h⟩
 cases show u=Value.ref a from ru;obtain⟨z,hd,vs,B,dd⟩:=aac I.hok rd;obtain⟨ep,K⟩:=dd.dictAt;have T:=B.length;refine call_function_entry kind_sorted plain_sorted entry_sorted (args_sorted1 _) ?_;unfold Builtin.«sorted»;refine ard (m:=checkCount "sorted" 1 1 _) (arp ?_);refine ard (W.kdu_collect (A:=X.A.in1) (W.kdl_dict (knd:=bP X.prog X.w) (kvs:=vs) (ep:=ep) hd) (I.ok.hd hc) K (by rw[<-T];exact z) λj tk d hk hi=>?_);have f:Vals (w.map V.str) d.toList:=by
  rw[<-D];refine vt ?_ ?_;.rw[asH,arB,T];exact hi.1
  .intro i x v P e2;rw[arL,arP]at P;obtain⟨p,E,rfl⟩:=P;refine dU (hi.2 i v (by rw[<-atU];exact e2)) λk y g1 g2=>?_;refine ju (B.get E) λr Z r2 _=>?_;rw[g1]at Z;cases Z;rw[r2];exact abT g2
 have M:=kh f;have G:d.toList.length<64:=by rw[<-f.length,arB];exact C
 refine ard (wpAny_newList ?_ (by rw[ata];omega));have g:(j.push (seqObj "list" d.toList.toArray 0)).get? j.objs.size=some (seqObj "list" d.toList.toArray 0):=aru _ rfl;refine ard (asl (asx (s:={s with heap:=j.push (seqObj "list" d.toList.toArray 0),toks:=tk}) slot_list_sort ⟨_,g,rfl⟩ entry_list_sort (list_sort_treeK strKind_oneLt g M.keysOf (λY U rest e=>keyKind_strs (by rw[<-e];exact M)) G λJ a1 a2=>⟨_,rfl,?_⟩) (args_list_sort _)));refine ju (sorted_out_str M a1 a2) λc b1 O b3=>?_;obtain⟨e,he⟩:=sortedHeap_at (out:=(arrOf J).map (·.2)) g;have R:Inv X n σ H {s with heap:=j,toks:=tk}:=I.kept (t':=tk) hk;refine arp ⟨_,rfl,.ref j.objs.size,_,R.laid (a:=j.objs.size) (o:=.lst (c.map V.str)) (t':=tk) (λb o z=>?_) (arn _) ⟨?_,_,e,kA b1,?_⟩,rfl,q _ c (R.hok.fresh (arn _)) O b3⟩;.have S:=ars z;rw[sortedHeap_old (arA S) (by rw[size_push'];exact Nat.lt_succ_of_lt S)];exact arf _ z
 .rw[arB,O.length_eq];exact arq (ats C) (by decide)
 .rw[he]
end L2
namespace WS
open PySem PySem.Spec PyProof.Rows L2
open WL(Res Sl Ws EF TF AF LF GF GsF SF Out OX RF Rn AXF)
section
variable{X:Cx}{K:W.Frag}
def aav:∀a c,WL.lP a≠.ex c:=λa c h=>by unfold WL.lP at h;split at h<;>exact aau _ _ h
set_option tactic.hygienic true in
def ahF(w:X.calm=true)(x:X.K=K):ba X (.builtin "sorted") (loN K WL.lP):=by
 intro b s i H n f Q I g⟨F,ws,c,r,q⟩;unfold WL.lP at q;split at q
 .rename_i A m;unfold WL.lO at q;dsimp only at q;split at q
  .rename_i u z;split at q;.rename_i p;obtain⟨v,rfl,h⟩:=bF r;simp only[RW]at h;obtain⟨a,d,rfl,rd,o,_⟩:=h;refine gP w b s i H _ f Q I g ⟨a,d,u,rfl,c.rd rd,jB z o,p,λl t k j y=>?_⟩;have e:=WL.ki j y;subst e;exact afP c q (qB _) k
   .exact q.elim
  .exact q.elim
 .exact ahE x b s i H n f Q I g ⟨F,_,c,r,q⟩
end
def spO(K:W.Frag)(n:Nat)(f:List VW->Res VW):Sp:=λi H Q E=>∃F ws,av F H/\RWs K F ws i/\ws.length=n/\match f ws with|.ok w=>∃g,w=.lst g/\∀a e d b,av F b->av b d->av H d->(∀a o,b a=some o->F a=some o\/H a=none/\NF o)->b a=none->H a=none->d a=some (.lst e)->RWs K b g e->Q (.ref a) d|.ex c=>∀C h d b,av F b->av b d->av H d->(∀a o,b a=some o->F a=some o\/H a=none/\NF o)->XR K b c C h->E (.ref C) h d|.bad=>False
def OqO(B:Bx)(D:Ends)(F:Hp)(l:LF):Out->Prop|.nx σ'=>Rq B σ' F (l σ') λws=>∀a e d b,RB B b d->av F b->b a=none->B.H0 a=none->d a=some (.lst e)->RWs B.K b ws e->D.rt (.ref a) d|.ex c σ'=>B.xp c σ' F|_=>False
def apj(B:Bx)(t:SF)(l:LF):TS:=λD a H=>∃b F,RS B b a F H/\OqO B D F l (t b)
section
variable{X:Cx}{B:Bx}{t:SF}{l:LF}{e:Expr}{s1:Stmt}{pos:Pos}
def aaX(b:PE X e (loL B l)):PSs X [.Return (some e) pos] (apj B WL.sNx l):=PSs.imp (cT (tD b)) λD d H⟨m,F,R,q⟩=>⟨m,F,R,Rq.mono (av.refl _) q λw f a n o p h g i k j c _=>f a _ _ _ h.rb g.f i k j c⟩
def aer(f:PS X s1 (loS B t))(k:PE X e (loL B l)):PSs X [s1,.Return (some e) pos] (apj B t l):=PSs.imp (aT f (cT (tD k))) λD m H d=>by refine dU d λj F R q=>?_;refine eh j F R ?_;cases b:t j with|nx σ'=>rw[b]at q;exact λi x s p h=>eh _ s p (Rq.mono h q λw o a v y z R2 g f u r n _=>o a _ _ _ R2.rb (h.trans g.f) f u r n)|ex c σ'=>rw[b]at q;exact q|rt _=>rw[b]at q;exact q.elim|bk _=>rw[b]at q;exact q.elim|ct _=>rw[b]at q;exact q.elim|bad=>rw[b]at q;exact q.elim
end
section
variable{P:Program}{w:World}{K:W.Frag}{mg:Str->Option Value}{base:Heap}
def adG{x d st f Z N ps k m n}{X:List VW->Res VW}(t)(l)(Fn:Fun K x d st f Z)(S:FnScope N ps (af st))(hn:N.length=n)(g:ps.length=m)(J:WL.agy n t l=X)(a0:ps.length<=N.length)(h:∀i A b s H E B,B.K=K->Room k (A.deeper (envOfC d (af st) s.heap.objs.size f i))->XW (dG (CXX P w) P w K mg base N d (af st) f i A b s H E) B->PassesOwn (model P w) (dG (CXX P w) P w K mg base N d (af st) f i A b s H E).A (dG (CXX P w) P w K mg base N d (af st) f i A b s H E).env (dG (CXX P w) P w K mg base N d (af st) f i A b s H E).xe->PSs (dG (CXX P w) P w K mg base N d (af st) f i A b s H E) (aD st) (apj B t l)):FnOk P w K mg base (CXX P w) (k+1) f Z ps (spO K m X):=by subst hn g J;refine age Fn.ex λoc od kV a1 pm an i ct a2 I lk R=>?_;subst I;refine uD lk R S (λO H Q E v=>by refine kU v λF ws _ r hl _=>?_;rw[<-r.length];exact hl) λA b s H O Q E hr _ v=>?_;refine kU v λF ws sm r hl g=>?_;let B0:Bx:=⟨K,H,F,λ_ _ _=>False,λ_ _ _ _ _ h=>h⟩;let U:Bx:=B0.oE (λc _ G=>∀C o u j,av G j->RB B0 j u->XR K j c C o->E (.ref C) o u) λc σ G F2 s h C o u j y=>h C o u j (s.trans y);refine⟨_,h i A b s H E U rfl hr (λY a3 H1 s1 σ G c R1 xp e C o T fl t D=>jb t (xp C o H1 G (av.refl _) (R1.rb.box rfl rfl) D)) asU,_,F,(RS.start sm r (by omega)).box (B':=U) rfl rfl rfl,?_⟩;unfold WL.agy at g;cases e:t _ with
|nx σ'=>rw[e]at g;unfold WL.apF at g;dsimp only at g;show Rq U σ' F (l σ') _;cases M:l σ' with|bad=>rw[M]at g;exact g.elim|ex c=>rw[M]at g;exact λC o u j y p D=>(show∀C o u j,_ from g) C o u j y p.sub p.base p.fr D|ok xs=>rw[M]at g;obtain⟨z,ex,q⟩:∃z,WL.W.lst xs=.lst z/\_:=g;cases ex;exact λa O u j p y h1 h2 h3 h4=>q a O u j y p.sub p.base p.fr h1 h2 h3 h4
|ex c σ'=>rw[e]at g;exact λC o u j y p D=>g C o u j y p.sub p.base p.fr D|rt _=>rw[e]at g;exact g.elim|bk σ'=>rw[e]at g;exact g.elim|ct σ'=>rw[e]at g;exact g.elim|bad=>rw[e]at g;exact g.elim
def aeS{n t l}{ws:List VW}{w:VW}(h:WL.agy n t l ws=.ok w):∃a,w=.lst a:=by
 unfold WL.agy WL.apF at h;split at h;.revert h;cases l _ with|ok a=>intro h;exact⟨a,(Res.ok.inj h).symm⟩|ex c|bad=>intro h;cases h
 .cases h
 .cases h
def FnOk.ofO{f p ps k m g}(F:FnOk P w K mg base (CXX P w) k f p ps (spO K m g))(A:∀ws w,g ws=.ok w->∃j,w=.lst j):FnOk P w K mg base (CXX P w) k f p ps (spX K m g):=F.imp λG H Q E i=>by refine kU i λF ws x B y h=>?_;refine ahb F ws x B y ?_;cases e:g ws with|bad|ex c=>rw[e]at h;exact h|ok w=>
   rw[e]at h;obtain⟨j,rfl⟩:=A ws w e;refine⟨j,rfl,λa n C D v t u fr q s l r=>h _ C (upd D a (.lst n)) (v.trans (ay q _)) (λb o z=>?_) u (λb o z=>?_) ?_⟩
   .by_cases d:b=a;.subst d;rw[aj]at z;cases z;exact l
    .rw[ag d]at z;exact t b o z
   .by_cases d:b=a;.subst d;rw[aj]at z;cases z;exact .inr ⟨s,trivial⟩
    .rw[ag d]at z;exact fr b o z
   .exact⟨a,n,rfl,SqL.of aj,r.keep (ay q _)⟩
end
section
variable{X:Cx}{B:Bx}{x:Str}{c:String}{e:Expr}{es:List Expr}{p pos:Pos}
def aew{ta}(A:X.calm=true)(J:X.mg x=none)(G:bootBuiltins x=some (.builtin "sorted"))(h:PE X e (lo B ta))(y:Gl X x:=by rfl)(g:x≠"__name__":=by decide)(j:Dbg x:=by decide)(s:starEach [e] X.env=(false,eval e X.env)::starEach [] X.env:=by rfl)(o:BT X pos []:=by rfl):PE X (.Call (.Name x p) [e] [] pos) (loL B (WL.agP ta)):=PE.imp (x9 (gP A) y J G (aa h ah s) g j s o) λK H Q i=>by refine dU i λd F R q=>?_;have q:=Rq.bind q;refine eh d F R ?_;show Rq B d F ((ta d).bind λx=>.ok [x]) _;cases r:ta d with|bad|ex c=>rw[r]at q;exact q|ok w=>rw[r]at q;intro P O S t E I;refine gb (bF I) λv b M=>?_;subst b;cases w with
 |dic ks us=>refine kU M λa m b rd z _=>?_;subst b;have q:Rq B d F ((match WL.strsOf ks with|some ss=>if ss.length<64 then Res.ok _ else .bad|none=>.bad).bind WL.asL) _:=q;cases es:WL.strsOf ks with|none=>rw[es]at q;exact q.elim|some ss=>
     rw[es]at q;dsimp only at q;by_cases n:ss.length<64;.rw[arj n]at q;refine ana a m ss rfl (t.rb.sub.rd rd) (jB es z) n λl D g u N=>?_;have e:=WL.ki u N;subst e;exact ajP t E (qB _) g q
     .rw[arl n]at q;exact q.elim
 |_=>exact(show False from q).elim
end
def xf(P:Program)(w:World)(K:W.Frag)(c:Str->Option Value)(a:Heap)(k:Nat)(C f:Addr)(m:Str)(ps:List Str)(sp:Sp):Prop:=Meth K C m f/\∃b:FuncData,FnOk P w K c a (CXX P w) k f b ps sp/\Binds K b ps []
def alX{K f nm a st j od h e kV d i b ct}(l:K.lookup f=some ⟨j,od,.func (W.fnOf nm a (bC st) (aD st) (af st) .none kV d i h b ct),e⟩)(c:W.codeIn K b a=true)(q:W.keepIn K (.ref f)=true):∃g,Fun K nm a st f g:=⟨_,adj l c q⟩
def qW{P w K i b k C f nm a st ps sp}(M:Meth K C nm f)(D:∃c,Fun K nm a st f c)(l:∀kV d m j g ct e,e.length=ps.length->bindArgs (W.fnOf nm a (bC st) (aD st) (af st) .none kV d m j g ct) ⟨e,[]⟩=pure (ps.zip e))(h:∀c,Fun K nm a st f c->FnOk P w K i b (CXX P w) k f c ps sp):xf P w K i b k C f nm ps sp:=by obtain⟨c,F⟩:=D;exact⟨M,c,h _ F,F.binds l⟩
def xf.x{P w K c a k m n C f nm ps t l}(h:xf P w K c a k C f nm ps (spO K m (WL.agy n t l))):xf P w K c a k C f nm ps (spX K m (WL.agy n t l)):=by obtain⟨M,d,F,b⟩:=h;exact⟨M,d,FnOk.ofO F λws w e=>aeS e,b⟩
section
variable{X:Cx}{B:Bx}{a b e o:Expr}{ta tb to:EF}{pos apos p:Pos}{x fl m:Str}{es:List Expr}{tas:AF}{j k n:Nat}{C f g:Addr}{ps:List Str}{fn:List VW->Res VW}{c:String}{pl:Sem Bool}
def wxD(l:B.K=X.K)(r:PE X a (lo B ta))(q:PE X b (lo B tb))(h:kT b:=by exact λ_ _=>rfl):PE X (.Subscript a b pos) (lo B (WL.eOp WL.ajL ta tb)):=akg af0 (an0 l.symm) r q h
def flI(r:B.K=X.K)(q:W.nsIn X.K mainGlobals (Str.ofString c)=some (some (.ref C)))(cl:Cls X.K C)(t:bO X.K C fl)(l:PE X o (lo B to))(h:WL.lY c=[fl]:=by rfl)(s:attributeBase o fl X.env (eval o X.env)=eval o X.env:=by rfl):PE X (.Attribute o fl pos) (lo B (WL.adB c to)):=ahA r.symm q cl t h l s
def mkI(y:B.K=X.K)(E:Room j X.A)(A:XW X B)(M:Mk X.K C f)(cl:Cls X.K C)(z:bO X.K C fl)(D:W.nsIn X.K mainGlobals (Str.ofString c)=some (some (.ref C)))(G:am6 X.prog X.w X.K X.mg X.base k f ps (spB X.K fl fn))(w:X.mg x=some (.ref C))(u:PA X (e::es) (loA B tas))(r:k+1<=j:=by decide)(s:∀H ws,tas H=.ok ws->ws.length=1:=by repeat first|exact iu|apply de)(l:WL.lY c=[fl]:=by rfl)(t:Gl X x:=by rfl)(h:Dbg x:=by decide)(v:SE X e es:=by rfl)(q:BT X pos es:=by rfl):PE X (.Call (.Name x p) (e::es) [] pos) (lo B (WL.yM c fn tas)):=by obtain⟨I,F,b⟩:=G;exact aey y.symm A M cl z D l F (E.mono r) t w b u s h v q
def aqQ(D:B.K=X.K)(hr:Room j X.A)(hx:XW X B)(N:W.nsIn X.K mainGlobals (Str.ofString c)=some (some (.ref C)))(cl:Cls X.K C)(G:xf X.prog X.w X.K X.mg X.base k C g m ps (spX X.K 1 fn))(Z:PE X o (lo B to))(w:k<=j:=by decide)(s:WL.lY c=[fl]:=by rfl)(l:(m==fl)=false:=by decide)(ht:eval (.Call (.Attribute o m apos) [] [] pos) X.env=(do
  let t <-eval o X.env
  standAt apos.atName let(f,first)<-holding [t] (getMethod t m pl)callWith pos f first (backTo pos (starEach [] X.env)) (backToKw pos (keywordEach [] X.env))):=by rfl):PE X (.Call (.Attribute o m apos) [] [] pos) (lo B (WL.gO c fn to WL.au)):=by obtain⟨M,fd,F,b⟩:=G;refine PE.imp (ach Z cl M F (hr.mono w) b .nil ht) λr H Q q=>?_;refine dU (yu (o:=o) D.symm hx N s l (n:=1) λu ws e=>by cases e;rfl r H Q q) λu h R q=>?_;refine eh u h R (Rq.mono (av.refl _) q λy A v z h E g0 P=>?_);obtain⟨a,J,fs,I,O,K,T,Y,U,S⟩:=A v _ h E g0 P;exact vc a J fs I O K (S [] z Y U Gr.refl (rfl))
def meI(w:B.K=X.K)(D:Room j X.A)(z:XW X B)(A:W.nsIn X.K mainGlobals (Str.ofString c)=some (some (.ref C)))(cl:Cls X.K C)(G:xf X.prog X.w X.K X.mg X.base k C g m ps (spX X.K n fn))(y:PE X o (lo B to))(v:PA X (e::es) (loA B tas))(u:∀H ws,tas H=.ok ws->ws.length+1=n)(t:k<=j:=by decide)(h:WL.lY c=[fl]:=by rfl)(q:(m==fl)=false:=by decide)(l:SE X e es:=by rfl)(r:BT X pos es:=by rfl)(E:eval (.Call (.Attribute o m apos) (e::es) [] pos) X.env=(do
  let s <-eval o X.env
  standAt apos.atName let(f,first)<-holding [s] (getMethod s m pl)callWith pos f first (backTo pos (starEach (e::es) X.env)) (backToKw pos (keywordEach [] X.env))):=by rfl):PE X (.Call (.Attribute o m apos) (e::es) [] pos) (lo B (WL.gO c fn to tas)):=by obtain⟨M,I,F,b⟩:=G;exact PE.imp (xY y cl M F (D.mono t) b .nil v l r E) (yu (o:=o) w.symm z A h q u)
end
noncomputable def adr:List (Addr×Addr)->List Addr|[]=>[]|(b,c)::r=>b::c::adr r
section
variable{F H:Hp}
open Classical in noncomputable def fzS(F H:Hp)(l:List Addr):Hp:=λx=>if x∈l then H x else F x
def iO{l:List Addr}{x:Addr}(h:x∈l):fzS F H l x=H x:=arj h
def bQ{l:List Addr}{x:Addr}(h:x∉l):fzS F H l x=F x:=arl h
end
section
variable{B:Bx}{l:List Addr}{σ:Ws}{σV:L2.St}{F H F' H':Hp}
abbrev ot(B:Bx)(H:Hp)(l:List Addr):Bx:=⟨B.K,fzS B.H0 H l,B.F0,B.xp,B.mono⟩
def RS.inS(R:RS B σ σV F H)(v:∀x∈l,F x=none)(ap:∀(k:Nat)(ws:List VW)x,σ[k]?=some (.ow ws)->σV[k]?=some (some (.ref x))->x∉l)(ad:∀x∈l,∀(k:Nat)(d c:List VW),σ[k]?=some (.od d c)->σV[k]?≠some (some (.ref x))):RS (ot B H l) σ σV F H:=by
 refine⟨⟨R.rb.sub,λx o q=>?_,R.rb.fz0,λx o q=>?_⟩,R.len,R.va,λk ws e=>?_,R.ap,R.dd.via rfl id (λ_ _ z=>.inl z) (λ_ _ _ e=>⟨e,rfl⟩) (av.refl _) λk d c b r i j t g p=>⟨g,?_,t⟩⟩
 .have q:fzS B.H0 H l x=some o:=q;by_cases a:x∈l;.rw[iO a]at q;exact q
  .rw[bQ a]at q;exact R.rb.base x o q
 .rcases R.rb.fr x o q with z|z;.exact .inl z
  .refine .inr ⟨?_,z.2⟩;show fzS B.H0 H l x=none;rw[bQ λa=>by grind];exact z.1
 .refine oz (R.ow k ws e) λb h f u s n m=>?_;refine aaI b h f u ?_ n m;show fzS B.H0 H l b=none;rw[bQ (ap k ws b e f)];exact s
 .show fzS B.H0 H l b=none;rw[bQ λa=>ad b a k d c i j];exact p
def RS.anl(R:RS (ot B H l) σ σV F' H')(r:∀x∈l,B.H0 x=none)(u:∀x∈l,∃o,H x=some o):RS B σ σV F' H':=by
 have n:∀{x},fzS B.H0 H l x=none->B.H0 x=none:=λ{x}z=>by
  by_cases a:x∈l;.exact r x a
  .rw[bQ a]at z;exact z
 refine⟨⟨R.rb.sub,λx o q=>?_,R.rb.fz0,λx o q=>?_⟩,R.len,R.va,λk ws e=>?_,R.ap,R.dd.via rfl id (λ_ _ z=>.inl z) (λ_ _ _ e=>⟨e,rfl⟩) (av.refl _) λk y t b i v w p c h=>⟨c,n h,p⟩⟩;.refine R.rb.base x o (show fzS _ H l x=some o from ?_);rw[bQ λa=>by grind];exact q
 .rcases R.rb.fr x o q with z|z;.exact .inl z
  .exact .inr ⟨n z.1,z.2⟩
 .refine oz (R.ow k ws e) λb d j s m g f=>?_;exact aaI b d j s (n m) g f
def nA(c:∀x∈l,∃o,H x=some o){x}(h:fzS B.H0 H l x=none):x∉l:=λa=>by obtain⟨o,b⟩:=c x a;rw[iO a,b]at h;cases h
end
def mq{X:Cx}{B:Bx}{ss:List Stmt}:PSs X ss (loS B WL.lT):=λb s c H D I a=>by obtain⟨d,F,R,q⟩:=a;exact(show False from q).elim
structure Rsc(S:Type)where
 adr:S->Addr
 rel:W.Frag->S->List Addr->Hp->Hp->Prop
 mono:∀{K s l F H F' H'},rel K s l F H->av F F'->(∀x∈l,∀o,H x=some o->H' x=some o)->rel K s l F' H'
 there:∀{K s l F H},rel K s l F H->∀x∈l,∃o,H x=some o/\NF o/\∀xs,o≠.tup xs
 val:S->VW
 fz:∀{K s l F H a od kvs},rel K s l F H->(∀x∈l,F x=none)->F a=some (.dK kvs)->rel K s l (upd F a (zD od kvs)) (upd H a (zD od kvs))th:∀{K s l F H a od kvs},rel K s l F H->(∀x∈l,F x=none)->F a=some (zD od kvs)->rel K s l (upd F a (.dK kvs)) (upd H a (.dK kvs))rw:∀{K s l F H F'},rel K s l F H->av F F'->(∀x∈l,∀o,H x=some o->F' x=some o)->RW K F' (val s) (.ref (adr s))
variable{S:Type}
structure RX(M:Rsc S)(B:Bx)(s:S)(l:List Addr)(σ:Ws)(σV:L2.St)(F H:Hp):Prop where
 rs:RS (ot B H l) σ σV F H
 fr:∀x∈l,F x=none/\B.H0 x=none
 re:M.rel B.K s l F H
def OqX(M:Rsc S)(B:Bx)(D:Ends)(F:Hp):OX S->Prop|.nx σ' s'=>∀a d b e,RX M B s' e σ' a b d->av F b->D.nx a d|.bk σ' s'=>∀a d b e,RX M B s' e σ' a b d->av F b->D.bk a d|.ct σ' s'=>∀a d b e,RX M B s' e σ' a b d->av F b->D.ct a d|.rt w s'=>∀v d b e,RB (ot B d e) b d->(∀x∈e,b x=none/\B.H0 x=none)->M.rel B.K s' e b d->av F b->RW B.K b w v->D.rt v d|.ex c σ'=>B.xp c σ' F|.bad=>False
def loX(M:Rsc S)(B:Bx)(t:RF S):TS:=λD a H=>∃b F s l,RX M B s l b a F H/\OqX M B D F (t b s)
section
variable{M:Rsc S}{B:Bx}{s:S}{l:List Addr}{σ:Ws}{σV:L2.St}{F H F' H':Hp}{D:Ends}{X:Cx}
theorem OqX.mono(k:av F F'){o}(h:OqX M B D F o):OqX M B D F' o:=by cases o with|nx σ s|bk σ s|ct σ s=>exact λσV H G l R z=>h _ H G l R (k.trans z)|rt w s=>exact λv H G l R r q z=>h v H G l R r q (k.trans z)|ex c σ=>exact B.mono c σ F _ k h|bad=>exact h
theorem RX.there(R:RX M B s l σ σV F H):∀x∈l,∃o,H x=some o:=λx a=>let⟨o,h,_⟩:=M.there R.re x a;⟨o,h⟩
def ac4(c:∀x∈l,∃o,H x=some o)(b:RB (ot B H l) F' H'):∀x∈l,∀o,H x=some o->H' x=some o:=λx a o q=>b.base x o (by show fzS _ H l x=some o;rw[iO a];exact q)
def ag1(c:∀x∈l,∃o,H x=some o)(k:∀x∈l,∀o,H x=some o->H' x=some o):ot B H l=ot B H' l:=by
 have:fzS B.H0 H l=fzS B.H0 H' l:=by
  funext x;by_cases a:x∈l;.obtain⟨o,b⟩:=c x a;rw[iO a,iO a,b,k x a o b]
  .rw[bQ a,bQ a]
 simp [ot,this]
def adl(c:∀x∈l,∃o,H x=some o)(g:∀x∈l,F x=none)(b:av B.F0 F)(f:RB (ot B H l) F' H'):∀x∈l,F' x=none:=λx a=>by cases e:F' x with|none=>rfl|some o=>
 rcases f.fr x o e with z|⟨z,_⟩;.have:=b x o z;rw[g x a]at this;cases this
 .have z:fzS _ H l x=none:=z;obtain⟨u,d⟩:=c x a;rw[iO a,d]at z;cases z
def RX.next(R:RX M B s l σ σV F H){σ' a}(b:RS (ot B H l) σ' a F' H')(k:av F F'):RX M B s l σ' a F' H':=by have c:=ac4 R.there b.rb;refine⟨?_,λx d=>⟨adl (B:=B) R.there (λy e=>(R.fr y e).1) R.rs.rb.fz0 b.rb x d,(R.fr x d).2⟩,M.mono R.re k c⟩;rw[<-ag1 R.there c];exact b
def XW.inS(e:XW X B)(b:∀x∈l,B.H0 x=none)(d:∀x∈l,∃o,H x=some o):XW X (ot B H l):=λa σV H' f σ F c R q=>e _ _ _ _ σ F c (R.anl b d) q
variable{st:Stmt}{rest ss:List Stmt}{t:SF}{t1 t2:RF S}
def acn(R:RX M B s l σ σV F H)(q:OqX M B D F (WL.rX t σ s)):Oq (ot B H l) D F (t σ):=by unfold WL.rX at q;cases e:t σ with|nx σ'|bk σ'=>rw[e]at q;exact λa H' F' b k=>q _ H' _ l (R.next b k) k|ct σ'=>rw[e]at q;exact λa H' F' b k=>q _ H' F' l (R.next b k) k|rt w=>rw[e]at q;intro v H' F' d k r;have f:=ac4 R.there d;refine q v H' F' l (by rw[<-ag1 R.there f];exact d) (λx g=>⟨adl (B:=B) R.there (λy h=>(R.fr y h).1) R.rs.rb.fz0 d x g,(R.fr x g).2⟩) (M.mono R.re k f) k r|ex c σ'|bad=>rw[e]at q;exact q
def ahg(d:B.K=X.K)(b:XW X B)(h:∀a,a.K=X.K->XW X a->PS X st (loS a t)):PS X st (loX M B (WL.rX t)):=by intro c e σV H D I⟨σ,F,s,l,R,q⟩;exact h (ot B H l) d (XW.inS b (λx b=>(R.fr x b).2) R.there) _ _ _ H D I ⟨σ,F,R.rs,acn R q⟩
def aeo(d:B.K=X.K)(c:XW X B)(h:∀b:Bx,b.K=X.K->XW X b->PSs X ss (loS b t)):PSs X ss (loX M B (WL.rX t)):=by intro a e σV H D I⟨σ,F,s,l,R,q⟩;exact h (ot B H l) d (XW.inS c (λx c=>(R.fr x c).2) R.there) a e σV H D I ⟨σ,F,R.rs,acn R q⟩
def xi(h:PS X st (loX M B t1)):PSs X [st] (loX M B t1):=cT h
def aaU(f:PS X st (loX M B t1))(h:PSs X rest (loX M B t2)):PSs X (st::rest) (loX M B (WL.aaJ t1 t2)):=PSs.imp (aT f h) λD σV H a=>by refine am7 a λσ F s l R q=>?_;refine ap3 σ F s l R ?_;have q:OqX M B D F (match t1 σ s with|.nx σ' s'=>t2 _ _|o=>o):=q;cases b:t1 σ s with|nx σ' s'=>rw[b]at q;exact λd H' F' g e k=>ap3 _ F' s' g e (OqX.mono k q)|bk σ' s'|ct σ' s'|rt w s'|ex c σ'|bad=>rw[b]at q;exact q
end
variable{S:Type}
section
variable{M:Rsc S}{B:Bx}{s:S}{l:List Addr}{σ σ1:Ws}{σV:L2.St}{F H:Hp}{D:Ends}{X:Cx}{j:Nat}
set_option tactic.hygienic true in
def RX.frz(R:RX M B s l σ σV F H)(e:WL.seen M.adr M.val j σ s=some σ1):av F (fzS F H l)/\RS B σ1 σV (fzS F H l) H:=by
 have p:=R.there;have k:av F (fzS F H l):=λx o q=>by rw[bQ λz=>by rw[(R.fr x z).1]at q;cases q];exact q
 have c:RS B σ σV F H:=R.rs.anl (λx a=>(R.fr x a).2) p;have K:RB B (fzS F H l) H:=⟨λx o q=>by
  by_cases a:x∈l;.rw[iO a]at q;exact q
  .rw[bQ a]at q;exact c.rb.sub x o q,c.rb.base,c.rb.fz0.trans k,λx o q=>by
  by_cases a:x∈l;.rw[iO a]at q;refine ju (M.there R.re x a) λu C Q _=>?_;rw[C]at q;cases q;exact .inr ⟨(R.fr x a).2,Q⟩
  .rw[bQ a]at q;exact c.rb.fr x o q⟩;have out:∀{b:Addr},(ot B H l).H0 b=none->b∉l:=λ{b}z=>nA (B:=B) p z;have t:RS B σ σV (fzS F H l) H:=by
  refine⟨K,c.len,λi w q=>?_,λi ws q=>?_,c.ap,c.dd.via rfl id (λ_ _ z=>.inl z) (λ_ _ _ q=>⟨q,rfl⟩) k λi N P b G ei m Z O U=>⟨?_,U,Z⟩⟩;.obtain⟨v,d,g⟩:=c.va i w q;exact⟨v,d,g.keep k⟩
  .refine oz (R.rs.ow i ws q) λb vs d g J h4 h5=>?_;refine oz (c.ow i ws q) λy n f g2 h Y T=>?_;rw[d]at f;cases f;exact aaI b n d (by rw[bQ (out J)];exact g) h Y (T.keep k)
  .refine kU (R.rs.dd.od i N P ei) λy r f _ h _=>?_;have f:σV[i]?=some (some (.ref y)):=f;have m:σV[i]?=some (some (.ref b)):=m;rw[m]at f;cases f;rw[bQ (out h)];exact O
 refine⟨k,?_⟩;unfold WL.seen at e;split at e
 .rename_i b E;split at e
  .rename_i I;cases e;subst I;obtain⟨v,d,g⟩:=t.va j _ E;subst g;have hj:σV.set j (some (.ref (M.adr s)))=σV:=by
    apply List.ext_getElem?;intro i;by_cases A:j=i;.subst A;rw[ark (ari.mp d).1,d]
    .rw[arh A]
   have:=t.set (i:=j) (w:=M.val s) (v:=.ref (M.adr s)) (M.rw R.re k λx a o q=>by rw[iO a];exact q);rw[hj]at this;exact this
  .cases e
 .cases e
open Classical in theorem RX.back(R:RX M B s l σ σV F H){σ' d c}(i:RS B σ' σV d c)(g:Gr (fzS F H l) H d c):∃b,Gr F H b c/\(∀x o,d x=some o->x∉l->b x=some o)/\RX M B s l σ σV b c:=by
 let b:Hp:=λx=>if x∈l then none else d x;have e:∀{x:Addr},x∈l->b x=none:=λh=>arj h;have je:∀{x:Addr},x∉l->b x=d x:=λh=>arl h;have f:Gr F H b c:=⟨λx o q=>by
 have a:x∉l:=λz=>by rw[(R.fr x z).1]at q;cases q
 rw[je a];exact g.f x o (by rw[bQ a];exact q),g.h,λx o q n=>by
 by_cases a:x∈l;.exact e a
 .rw[je a];exact g.nf x o q (by rw[bQ a];exact n)⟩;have sub:av b d:=λx o q=>by grind
 have k:RB (ot B H l) b c:=⟨sub.trans i.rb.sub,R.rs.rb.base.trans g.h,R.rs.rb.fz0.trans f.f,λx o q=>by
 by_cases a:x∈l;.rw[e a]at q;cases q
 .rcases i.rb.fr x o (sub x o q)with z|⟨z,n⟩;.exact .inl z
  .exact .inr ⟨by show fzS B.H0 H l x=none;rw[bQ a];exact z,n⟩⟩;exact⟨b,f,λx o q a=>by rw[je a];exact q,R.next (R.rs.grow f k) f.f⟩
variable{c:Expr}{tt:TF}{ss ss':List Stmt}{t1 t2:RF S}{pos:Pos}
set_option tactic.hygienic true in
def aqE{D v}(R:RX M B s l σ σV F H)(e:WL.xT M.adr M.val j tt σ s=.ok v)(h:∀a d,Gr F H d a->RX M B s l σ σV d a->D v a):loT B tt σV H D:=by
 unfold WL.xT at e;split at e;.rename_i σ1 i;obtain⟨k,n⟩:=R.frz i;refine⟨_,_,n,?_⟩;rw[e];intro a d R2 g;refine ju (R.back R2 g) λo f _ m=>?_;exact h _ _ f m
 .cases e
def OqX.ifB{r d a}(h:OqX M B D F (WL.aj8 r d a)):∃v,r=.ok v/\OqX M B D F (if v=true then d else a):=by cases r with
|ok v=>cases v with|true|false=>exact⟨_,rfl,h⟩
|ex c|bad=>exact(h).elim
def anU(d:PT X c (loT B tt))(g:PSs X ss (loX M B t1))(i:PSs X ss' (loX M B t2)):PS X (.If c ss ss' pos) (loX M B (WL.xIf (WL.xT M.adr M.val j tt) t1 t2)):=PS.imp (ab3 d g i) λD σV H a=>by refine am7 a λσ F s l R q=>?_;refine gb (OqX.ifB q) λv k q=>?_;refine aqE R k λm e f h=>?_;cases v with|true|false=>exact⟨σ,e,s,l,h,OqX.mono f.f q⟩
end
variable{S:Type}
section
variable{M:Rsc S}{B:Bx}{s:S}{l:List Addr}{σ:Ws}{σV:L2.St}{F H F' H':Hp}{D:Ends}{X:Cx}{i j:Nat}{e:Expr}{te:EF}{x:Str}{pos pos':Pos}
def acW(R:RX M B s l σ σV F H){b f c:Hp}(g:Gr (fzS F H l) H b c)(sub:av b c)(h:∀y o,b y=some o->y∉l->f y=some o){w:VW}{v:V}(p:WL.plain w=true)(r:RW B.K b w v):RW B.K f w v:=by
 refine RW.less (λa k q=>?_) w v p r;have d:∀{o:HO},b a=some o->(o=.tup k\/∃ob u,o=.frz ob u)->a∉l:=λ{o}q z A=>by
  obtain⟨u,n,t,C⟩:=M.there R.re a A;have m:=sub a o q;rw[g.h a u n]at m;cases m;rcases z with rfl|⟨ob,E,rfl⟩;.exact C k rfl
  .exact t
 rcases q with(q|⟨o,q⟩)|q;.exact .inl (.inl (h a _ q (d q (.inl rfl))))
 .exact .inl (.inr ⟨o,h a _ q (d q (.inr ⟨_,_,rfl⟩))⟩)
 .exact .inr q
set_option tactic.hygienic true in
def aj6(t:X.N.Nodup)(h:PE X e (lo B te))(E:X.N[i]?=some x:=by rfl)(C:Loc X.env.scope x:=by first|exact Or.inl rfl|exact Or.inr rfl)(z:swapsWith e (some (.Name x pos')) pos.line X.env=pure false:=by rfl)(n:FL X x:=by first|exact .inl rfl|exact .inr rfl|assumption):PS X (.Assign [.Name x pos'] e pos) (loX M B (WL.aj7 M.adr M.val j i te)):=PS.imp (nv t E C h z n) λD σV H a=>by
 obtain⟨σ,F,s,l,R,q⟩:=a;unfold WL.aj7 at q;split at q
 .rename_i y A;obtain⟨k,o⟩:=R.frz A;split at q
  .rename_i w G;split at q;.rename_i hw;refine⟨_,_,o,?_⟩;rw[G];intro v f I R2 c u;obtain⟨m,r,g,b⟩:=R.back R2 c;have p:=acW R c R2.rb.sub g hw u;exact(show∀d H' F' J,_ from q) _ f m l ⟨b.rs.set p,b.fr,b.re⟩ r.f
   .exact(show False from q).elim
  .exact(show False from q).elim
 .exact(show False from q).elim
end
variable{S:Type}
section
variable{M:Rsc S}{B:Bx}{s s':S}{l:List Addr}{σ:Ws}{σV:L2.St}{F H:Hp}
def RX.write(R:RX M B s l σ σV F H){x}(g:x∈l){o}(m:M.rel B.K s' l F (upd H x o)):RX M B s' l σ σV F (upd H x o):=by
 have i:=R.there;have nw:∀(k:Nat)(ws)(y:Addr),σ[k]?=some (.ow ws)->σV[k]?=some (some (.ref y))->y∉l:=λk ws y a c=>by refine kU (R.rs.ow k ws a) λb _ d _ j _=>?_;rw[c]at d;cases d;exact nA (B:=B) i j
 have nd:∀y∈l,∀(k:Nat)(h f:List VW),σ[k]?=some _->σV[k]?≠some (some (.ref y)):=λy e k h f a c=>by refine kU (R.rs.dd.od k h f a) λb _ d _ j _=>?_;rw[c]at d;cases d;exact nA (B:=B) i j e
 exact⟨((R.rs.anl (λy e=>(R.fr y e).2) i).away o (R.fr x g).1 (R.fr x g).2 (λk ws a c=>nw k ws x a c g) λk h f a=>nd x g k h f a).inS (λy e=>(R.fr y e).1) nw nd,R.fr,m⟩
end
open Classical in noncomputable def hol(l:List Addr)(H:Hp):Hp:=λx=>if x∈l then none else H x
def amy{l H x}(h:x∈l):hol l H x=none:=arj h
def kC{l H x}(h:x∉l):hol l H x=H x:=arl h
def spM(M:Rsc S)(K:W.Frag)(n:Nat)(f:List VW->S->OX S):Sp:=λh H Q E=>∃F ws s l,av F H/\RWs K F ws h/\ws.length=n/\M.rel K s l F H/\(∀x∈l,F x=none)/\match f ws s with|.rt w s'=>∀v d b e,av F b->av b d->av (hol l H) d->(∀x∈e,b x=none/\hol l H x=none)->M.rel K s' e b d->(∀a o,b a=some o->F a=some o\/hol l H a=none/\NF o)->RW K b w v->Q v d|.nx _ s'=>∀d b e,av F b->av b d->av (hol l H) d->(∀x∈e,b x=none/\hol l H x=none)->M.rel K s' e b d->(∀a o,b a=some o->F a=some o\/hol l H a=none/\NF o)->Q .non d|.ex c _=>∀C g d b,av F b->av b d->av (hol l H) d->(∀a o,b a=some o->F a=some o\/hol l H a=none/\NF o)->XR K b c C g->E (.ref C) g d|_=>False
section
variable{P:Program}{w:World}{K:W.Frag}{mg:Str->Option Value}{base:Heap}{M:Rsc S}
def adH{x d st f fd N ps k m n}{fn:List VW->S->OX S}(t)(Fn:Fun K x d st f fd)(Sc:FnScope N ps (af st))(hn:N.length=n)(p:ps.length=m)(Y:WL.runM n t=fn)(a3:ps.length<=N.length)(h:∀g A b s H E B,B.K=K->Room k (A.deeper (envOfC d (af st) s.heap.objs.size f g))->XW (dG (CXX P w) P w K mg base N d (af st) f g A b s H E) B->PassesOwn (model P w) (dG (CXX P w) P w K mg base N d (af st) f g A b s H E).A (dG (CXX P w) P w K mg base N d (af st) f g A b s H E).env (dG (CXX P w) P w K mg base N d (af st) f g A b s H E).xe->PSs (dG (CXX P w) P w K mg base N d (af st) f g A b s H E) (aD st) (loX M B t)):FnOk P w K mg base (CXX P w) (k+1) f fd ps (spM M K m fn):=by
 subst hn p Y;obtain⟨oc,od,kV,a4,pm,an,g,ct,a5,rfl,lk,Z⟩:=Fn.ex;refine uD lk Z Sc (λvs H Q E J=>by obtain⟨F,ws,_,_,_,r,hl,_⟩:=J;rw[<-r.length];exact hl) λA b s H vs Q E hr _ J=>?_;obtain⟨F,ws,th,l,sm,r,hl,re,hF,p⟩:=J;let B0:Bx:=⟨K,hol l H,F,λ_ _ _=>False,λ_ _ _ _ _ h=>h⟩;let U:Bx:=B0.oE (λc _ X=>∀C I i j,av X j->RB B0 j i->XR K j c C I->E (.ref C) I i) λc σ X F2 s h C I i j R=>h C I i j (s.trans R);have e0:fzS (hol l H) H l=H:=by
  funext y;by_cases G:y∈l;.rw[iO G]
  .rw[bQ G,kC G]
 have R0:RX M U th l (ws.map .va++List.replicate (N.length-ws.length) .no) (L2.start N vs) F H:=⟨(RS.start (N:=N) sm r (by omega)).box (B':=ot U H l) rfl e0 rfl,λy G=>⟨hF y G,amy G⟩,re⟩;refine⟨_,h g A b s H E U rfl hr (λa1 a6 H1 s1 σ X c R1 xp e C I T fl t xr=>jb t (xp C I H1 X (av.refl _) (R1.rb.box rfl rfl) xr)) asU,_,F,th,l,R0,?_⟩;have bs:∀{j i:Hp}{u:List Addr},RB (ot U i u) j i->(∀y∈u,j y=none/\U.H0 y=none)->av (hol l H) i/\∀a o,j a=some o->F a=some o\/hol l H a=none/\NF o:=λ{j i u}D fr=>⟨λy o q=>by
 have G:y∉u:=λz=>by rw[show hol l H y=none from(fr y z).2]at q;cases q
 exact D.base y o (by show fzS (hol l H) i u y=some o;rw[bQ G];exact q),λy o q=>by
 rcases D.fr y o q with z|⟨z,nf⟩;.exact .inl z
 .have G:y∉u:=λz2=>by rw[(fr y z2).1]at q;cases q
  have z:fzS (hol l H) i u y=none:=z;rw[bQ G]at z;exact .inr ⟨z,nf⟩⟩;unfold WL.runM at p;cases e:t (ws.map .va++List.replicate (N.length-ws.length) .no) th with|rt w R=>rw[e]at p;exact λv i j u D fr a0 k r'=>p v i j u k D.sub (bs D fr).1 fr a0 (bs D fr).2 r'|nx σ' R=>rw[e]at p;exact λa2 i j u O k=>p i j u k O.rs.rb.sub (bs O.rs.rb O.fr).1 O.fr O.re (bs O.rs.rb O.fr).2|bk σ' R|ct σ' R=>rw[e]at p;exact p.elim|ex c σ'=>rw[e]at p;exact λC I i j k D xr=>p C I i j k D.sub D.base D.fr xr|bad=>rw[e]at p;exact p.elim
end
variable{S:Type}
section
variable{M:Rsc S}{B:Bx}{s s':S}{l l':List Addr}{σ:Ws}{σV:L2.St}{F H F' H':Hp}
def RX.out(R:RX M B s l σ σV F H)(k1:av F F')(k2:av F' H')(k3:av (hol l H) H')(r:∀a o,F' a=some o->F a=some o\/hol l H a=none/\NF o):RS B σ σV F' H'/\∀a,hol l H a=none->B.H0 a=none:=by
 have g:=R.there;have c:RS B σ σV F H:=R.rs.anl (λy T=>(R.fr y T).2) g;have p:∀a,hol l H a=none->B.H0 a=none:=λa z=>by
  by_cases t:a∈l;.exact(R.fr a t).2
  .rw[kC t]at z;exact c.rb.base.free z
 have vd:∀{b:Addr}{o:HO},H b=some o->F b=none->b∉l->F' b=none/\H' b=some o:=λ{b o}m E n=>by refine⟨?_,k3 b o (by rw[kC n];exact m)⟩;cases e:F' b with|none=>rfl|some u=>
   rcases r b u e with z|⟨z,_⟩;.rw[E]at z;cases z
   .rw[kC n,m]at z;cases z
 refine⟨⟨⟨k2,λx o q=>k3 x o ?_,c.rb.fz0.trans k1,λa o q=>?_⟩,c.len,λi w q=>?_,λi ws q=>?_,c.ap,c.dd.via rfl id (λ_ _ z=>.inl z) (λ_ _ _ q=>⟨q,rfl⟩) k1 λi G J b C X k U I Q=>?_⟩,p⟩;.rw[kC λz=>by rw[(R.fr x z).2]at q;cases q];exact c.rb.base x o q
 .rcases r a o q with z|⟨z,P⟩;.exact c.rb.fr a o z
  .exact .inr ⟨p a z,P⟩
 .obtain⟨v,f,j⟩:=c.va i w q;exact⟨v,f,j.keep k1⟩
 .refine oz (c.ow i ws q) λb A f j D O K=>?_;refine kU (R.rs.ow i ws q) λN _ d _ h _=>?_;rw[f]at d;cases d;have:=vd O j (nA (B:=B) g h);exact aaI b A f this.1 D this.2 (K.keep k1)
 .refine kU (R.rs.dd.od i G J X) λN _ d _ h _=>?_;have k:σV[i]?=some (some (.ref b)):=k;rw[k]at d;cases d;have:=vd U I (nA (B:=B) g h);exact⟨this.1,Q,this.2⟩
def RX.hand(R:RX M B s l σ σV F H)(k1:av F F')(k2:av F' H')(k3:av (hol l H) H')(fr:∀x∈l',F' x=none/\hol l H x=none)(v:M.rel B.K s' l' F' H')(t:∀a o,F' a=some o->F a=some o\/hol l H a=none/\NF o):RX M B s' l' σ σV F' H':=by
 obtain⟨p,q⟩:=R.out k1 k2 k3 t;have j:=R.there;have k:∀{b}{o},H b=some o->b∉l->b∉l':=λ{b o}r n z=>by have:=(fr b z).2;rw[kC n,r]at this;cases this
 refine⟨p.inS (λx c=>(fr x c).1) (λi ws x f e=>?_) λx c i u m f e=>?_,λx c=>⟨(fr x c).1,q x (fr x c).2⟩,v⟩;.refine oz (R.rs.ow i ws f) λb _ d _ h g _=>?_;rw[e]at d;cases d;exact k g (nA j h)
 .refine oz (R.rs.dd.od i u m f) λb _ d _ h g _=>?_;rw[e]at d;cases d;exact k g (nA j h) c
end
end WS
set_option autoImplicit true
set_option relaxedAutoImplicit true
namespace WS
open PySem PySem.Spec PyProof.Rows L2
open WL(Res Sl Ws EF TF AF LF GF GsF SF Out OX RF Rn AXF)
theorem acS :∀{fs:List (Str×V)}{n:Nat},(fs.map (·.1)).Nodup->fs[n]?=some (f,v)->fs.lookup f=some v
|[],_,_,e=>by simp at e|(g,u)::fs,0,_,e=>by grind|(g,u)::fs,n+1,nd,e=>by
 simp only[arv,asM]at nd;have a:=by simpa using e
 have b:(f==g)=false:=ar4.mpr λz=>nd.1 (z▸arC.mpr ⟨(f,v),atV a,rfl⟩);simp only[List.lookup,b];exact acS nd.2 a
def aiQ:∀{fs:List (Str×V)},f∉fs.map (·.1)->fs.lookup f=none|[],_=>rfl|(g,u)::fs,h=>by grind
section
variable{X:Cx}{B:Bx}{fl:Str}{c:String}{C:Addr}{n:Nat}{o:Expr}{to:EF}{pos:Pos}
set_option tactic.hygienic true in
def qd(P:X.K=B.K)(K:W.nsIn X.K mainGlobals (Str.ofString c)=some (some (.ref C)))(cl:Cls X.K C)(G:bO X.K C fl)(nd:(WL.lY c).Nodup)(p:(WL.lY c)[n]?=some fl)(T:PE X o (lo B to))(J:attributeBase o fl X.env (eval o X.env)=eval o X.env:=by rfl):PE X (.Attribute o fl pos) (lo B (WL.jY c n to)):=PE.imp (x8 T J) λO H Q j=>by
 obtain⟨Y,F,R,q⟩:=j;have q:=Rq.bind q;refine⟨Y,F,R,Rq.mono (av.refl _) q λy b v A M x N i=>?_⟩;unfold WL.ai6 at b;split at b
 .rename_i Z ws;split at b
  .rename_i d;have d:=eq_of_beq d;subst d;split at b
   .rename_i w U;simp only[RW]at i;obtain⟨a,C',I,E,rfl,S,s,z,_,r⟩:=i;rw[<-P,K]at s;cases s;obtain⟨v1,h,i⟩:=r.get U;rw[arL,arP]at h;obtain⟨⟨g,u⟩,t,rfl⟩:=h;have D:g=fl:=by have:=asZ (λl=>l[n]?) z;simp only[arL,t,p,Option.map_some]at this;exact arK this
    subst D;exact⟨a,C,I,_,u,rfl,x.rb.sub _ _ S,cl,G,acS (by rw[z];exact nd) t,b u A M x N i⟩
   .exact(b).elim
  .exact(b).elim
 .exact(b).elim
end
section
variable{B:Bx}{σ:Ws}{σV:L2.St}{F H:Hp}{i j:Nat}
def RS.blank(R:RS B σ σV F H):RS B (List.replicate σ.length .no) σV F H:=by
 have no:∀{i:Nat}{b:Sl},(List.replicate σ.length Sl.no)[i]?=some b->b=.no:=λ{i b}e=>by
  rw[asF]at e;split at e;.exact(arK e).symm
  .cases e
 refine⟨R.rb,by rw[asN];exact R.len,λi w e=>(nomatch no e),λi ws e=>(nomatch no e),λi j ws h a _ e _ _ _=>(nomatch no e),λi f d e=>(nomatch no e),λi j f d c g a _ e _ _ _=>(nomatch no e),λi e=>nomatch no e⟩
end
section
variable{P:Program}{w:World}{K:W.Frag}{mg:Str->Option Value}{base:Heap}{k m n:Nat}{nm:Str}{ps N:List Str}{st:Stmt}{fn:List VW->Res VW}
abbrev MgA(K:W.Frag)(mg:Str->Option Value):Prop:=∀nm v,W.nsIn K mainGlobals nm=some (some v)->mg nm=some v
abbrev BdA(nm:Str)(ps:List Str)(st:Stmt):Prop:=∀(kV a e:Value)(d:Option Addr)(c ct:Value)(b:List Value),b.length=ps.length->bindArgs (W.fnOf nm nm (bC st) (aD st) (af st) .none kV a e d c ct) ⟨b,[]⟩=pure (ps.zip b)
def AtD.dN(D:AtD K nm st)(o:MgA K mg)(t)(S:FnScope N ps (af st))(h:∀{e f A g s H E B},B.K=K->Room k (A.deeper (envOfC nm (af st) s.heap.objs.size f e))->XW (dG CX0 P w K mg base N nm (af st) f e A g s H E).nox B->PassesOwn (model P w) (A.deeper (envOfC nm (af st) s.heap.objs.size f e)) (envOfC nm (af st) s.heap.objs.size f e) (λ_ _=>False)->PSs (dG CX0 P w K mg base N nm (af st) f e A g s H E).nox (aD st) (loS B t))(r:BdA nm ps st:=by intro _ _ _ _ _ _ u h;first|exact bind1 (by intros;rfl) u h|exact aaA (by intros;rfl) u h|exact u6 (by intros;rfl) u h|exact af5 (by intros;rfl) u h|exact am0 (by intros;rfl) u h|exact amZ (by intros;rfl) u h|exact amY (by intros;rfl) u h)(l:N.length=n:=by rfl)(p:ps.length=m:=by rfl)(j:WL.run n t=fn:=by rfl)(i:ps.length<=N.length:=by decide):Cal P w K mg base CX0 (k+1) nm ps [] (spW K m fn):=D.cal o r λ_ _ q=>rH t q S l p j i λ_ _ _ _ _ _ _ a b c d=>h a b c d
def AtD.dX(D:AtD K nm st)(o:MgA K mg)(t)(S:FnScope N ps (af st))(h:∀{g f A e s H E B},B.K=K->Room k (A.deeper (envOfC nm (af st) s.heap.objs.size f g))->XW (dG (CXX P w) P w K mg base N nm (af st) f g A e s H E) B->PassesOwn (model P w) (dG (CXX P w) P w K mg base N nm (af st) f g A e s H E).A (dG (CXX P w) P w K mg base N nm (af st) f g A e s H E).env (dG (CXX P w) P w K mg base N nm (af st) f g A e s H E).xe->PSs (dG (CXX P w) P w K mg base N nm (af st) f g A e s H E) (aD st) (loS B t))(r:BdA nm ps st:=by intro _ _ _ _ _ _ u h;first|exact bind1 (by intros;rfl) u h|exact aaA (by intros;rfl) u h|exact u6 (by intros;rfl) u h|exact af5 (by intros;rfl) u h|exact am0 (by intros;rfl) u h|exact amZ (by intros;rfl) u h|exact amY (by intros;rfl) u h)(l:N.length=n:=by rfl)(p:ps.length=m:=by rfl)(j:WL.run n t=fn:=by rfl)(i:ps.length<=N.length:=by decide):Cal P w K mg base (CXX P w) (k+1) nm ps [] (spX K m fn):=D.cal o r λ_ _ q=>ajg t q S l p j i λ_ _ _ _ _ _ _ a b c d=>h a b c d
end
section
variable{X:Cx}{B:Bx}{x:Str}{pos:Pos}
def wki{i q}{w:VW}(d:B.K=X.K)(c:X.mg x=some (.int i q))(hw:w=.int i:=by rfl)(a:Gl X x:=by rfl)(b:Dbg x:=by decide):PE X (.Name x pos) (lo B (WL.eC w)):=by subst hw;exact wk d c ⟨_,rfl⟩ (v:=.int i) (λF=>rfl) a b
end
end WS
set_option autoImplicit true
set_option relaxedAutoImplicit true
namespace WS
open PySem PySem.Spec PyProof.Rows L2
open WL(Res Sl Ws EF TF AF LF GF GsF SF Out OX RF Rn AXF)
def aaF(K:W.Frag)(H:Hp)(h:Addr)(y:Str):Prop:=∃C a d b t,H h=some (.ext (excAt h C a))/\StrK K C/\a.1=some d/\H d=some (.xd b)/\a.2.1=.ref t/\H t=some (.tup [.str y])
def aaF.mono{K H H' h y}(q:aaF K H h y)(s:av H H'):aaF K H' h y:=by obtain⟨C,c,d,j,t,b,i,e,g,f,a⟩:=q;exact⟨C,c,d,_,t,s _ _ b,i,e,s _ _ g,f,s _ _ a⟩
def ahX(K:W.Frag)(ta:TE):TE:=λb H Q=>ta b H λx a=>∃h y,x=.ref h/\aaF K a h y/\Q (.str y) a
def aim{X e pos ta k}(v:Room k X.A)(o:PE X e ta):PE X (.FormattedValue e (-1) none pos) (ahX X.K ta):=by
 intro f s Z H Q I h;refine atL (thn (o f s Z H _ I h) λu z i=>?_);obtain⟨x,l,c,U,a,y,rfl,⟨C,dx,d,p,t,A,J,D,P,O,w⟩,q⟩:=i;cases U;obtain⟨⟨M,vs,N,K,G,j,g5,B⟩,_⟩:=c.hok a _ A;obtain⟨od,Y⟩:=i6 (c.hok d _ P);obtain⟨_,g,r,S,E,m,n,R⟩:=c.hok t _ w;obtain⟨tk,rfl⟩:∃tk,g=[.str y tk]:=by cases r with|cons a b=>cases b with|nil=>obtain⟨tk,rfl⟩:=a;exact⟨tk,rfl⟩
 have T:W.InstAt z.heap a M C (some od):=⟨N,K,by unfold W.notCls;rw[j],by rw[G,D];exact Y⟩;exact ai5 (tk:=tk) J (by have:=v.un;show X.A.units+_<_;omega) c.kIn T j (by rw[B,O]) ⟨S,n,E,m,R⟩ ⟨.str y,l,c.tok _,⟨_,rfl⟩,q⟩
def aex(K:W.Frag)(ws:List V)(H:Hp):Prop:=∃n h y,ws=[.int n,.ref h]/\n.natAbs.log2<100/\aaF K H h y/\y.length<=50000
theorem aex.mono{K}(ws)(H)(b)(o)(c:H b=none)(q:aex K ws H):aex K ws (upd H b o):=by obtain⟨n,h,y,e,a,f,d⟩:=q;exact⟨n,h,y,e,a,f.mono (ay c _),d⟩
def akD{σ H Q K c1 c2 n d y}(o:c1.length<=1000)(l:c2.length<=1000)(p:σ[1]?=some (some (.int n)))(i:n.natAbs.log2<100)(h:σ[2]?=some (some (.ref d)))(j:aaF K H d y)(v:y.length<=50000)(k:∀z,z.length<=100000->Q (.str z) H):tJ [tC (.str c1),ajH (eF 1),tC (.str c2),ahX K (eF 2)] Str.empty σ H Q:=by
 have s:Str.empty.length=0:=rfl;have r:100000<=sizeLine:=by decide
 have f:Part (tC (.str c1)) σ H:=lA o;have e:Part (ajH (eF 1)) σ H:=tH p i;have g:Part (tC (.str c2)) σ H:=lA l;generalize tC (.str c1)=t1 at f⊢;generalize ajH (eF 1)=t2 at e⊢;generalize tC (.str c2)=t3 at g⊢;refine f _ λa A=>?_;have m:(Str.empty++a).length=Str.empty.length+a.length:=atO ..;refine⟨a,rfl,by omega,e _ λb x=>?_⟩;have q:(Str.empty++a++b).length=(Str.empty++a).length+b.length:=atO ..;refine⟨b,rfl,by omega,g _ λc w=>?_⟩;have u:(Str.empty++a++b++c).length=(Str.empty++a++b).length+c.length:=atO ..;refine⟨c,rfl,by omega,.ref d,h,d,y,rfl,j,?_⟩;have t:(Str.empty++a++b++c++y).length=(Str.empty++a++b++c).length+y.length:=atO ..;exact⟨y,rfl,by omega,by omega,k _ (by omega)⟩
section
variable{P:Program}{w:World}{K:W.Frag}{mg:Str->Option Value}{base:Heap}
def afC{i o p a b c st f C u k c1 c2}(M:Fun K "__init__" i st f u)(S:FnScope [a,b,c] [a,b,c] (af st))(I:p≠o)(O:c1.length<=1000)(T:c2.length<=1000)(h:∀j A g s H E,Room k (A.deeper (envOfC i (af st) s.heap.objs.size f j))->PSs (dG CX0 P w K mg base [a,b,c] i (af st) f j A g s H E).nox (aD st) (ahT (sy (xG C (gR (eF 0) (gR (tJ [tC (.str c1),ajH (eF 1),tC (.str c2),ahX K (eF 2)] Str.empty) xE)))) (ahT (sX1 C (eF 0) (eF 1) o) (sX2 C (eF 0) (eF 2) p)))):FnOk P w K mg base CX0 (k+1) f u [a,b,c] (spG C [o,p] 100000 (aex K)):=by refine M.ok S λD H Q E l=>by obtain⟨e,ws,_,r,t,_⟩:=l;rw[r,arw,t];rfl λj A g s H D Q E J l=>?_;obtain⟨e,ws,v,r,t,G,⟨n,X,y,ew,B,R,U⟩,q⟩:=l;subst r ew;refine⟨_,h j A g s H E J,?_⟩;refine⟨.ref e,rfl,akD O T rfl B rfl R U λz x=>⟨e,none,v,z,rfl,G,λN Z nt=>?_⟩⟩;refine⟨.int n,rfl,.ref e,rfl,e,_,rfl,aj,λd Y m=>?_⟩;refine⟨.ref X,rfl,.ref e,rfl,e,d,[(o,.int n)],_,rfl,aj,by rw[ag m,aj],m,by simp,by simp[List.lookup,ar4.mpr I],?_⟩;have:=q N _ d Z x (by rwa[ag m]at Y) m;rw[ap6 m,an4];exact this
end
end WS
set_option autoImplicit true
set_option relaxedAutoImplicit true
namespace WS
open PySem PySem.Spec PyProof.Rows L2
open WL(Res Sl Ws EF TF AF LF GF GsF SF Out OX RF Rn AXF)
noncomputable abbrev rfs(b:V)(r:Addr):List (Str×V):=[("book",b),("floors",.ref r)]
def zx{b r}:(rfs b r).lookup ("floors":Str)=some (V.ref r):=rfl
structure RRel(K:W.Frag)(s:Rn)(F H:Hp)(C dx:Addr)(b:V)(vs:List V):Prop where
 ns:W.nsIn K mainGlobals (Str.ofString "Run")=some (some (.ref C))at_:F s.a=some (.ins C dx (rfs b s.r))bo:RW K F s.book b
 ro:H s.r=some (.lst vs)rs:RWs K F s.floors vs
def aqc(K:W.Frag)(s:Rn)(l:List Addr)(F H:Hp):Prop:=∃C a b c,l=[s.r]/\RRel K s F H C a b c
def rnM:Rsc Rn where
 adr:=Rn.a;rel:=aqc;val:=Rn.val;mono:=λh0_ k h=>by obtain⟨C,dx,b,vs,el,R⟩:=h0_;subst el;exact⟨C,dx,b,vs,rfl,R.ns,k _ _ R.at_,R.bo.keep k,h _ (by simp) _ R.ro,R.rs.keep k⟩
 there:=λh0_ x hx=>by obtain⟨C,dx,b,vs,el,R⟩:=h0_;subst el;rw[arW.mp hx];exact⟨_,R.ro,trivial,λ_ z=>nomatch z⟩
 fz:=λ{K s l F H a od kvs}h0_ hF e=>by
  obtain⟨C,dx,b,vs,el,R⟩:=h0_;subst el;have n1:s.r≠a:=λz=>by have:=hF s.r (by simp);rw[z,e]at this;cases this
  have n3:s.a≠a:=λz=>by have:=R.at_;rw[z,e]at this;cases this
  exact⟨C,dx,b,vs,rfl,R.ns,by rw[ag n3];exact R.at_,R.bo.fz e,by rw[ag n1];exact R.ro,R.rs.fz e⟩
 th:=λ{K s l F H a od kvs}h0_ hF e=>by
  obtain⟨C,dx,b,vs,el,R⟩:=h0_;subst el;have n1:s.r≠a:=λz=>by have:=hF s.r (by simp);rw[z,e]at this;cases this
  have n3:s.a≠a:=λz=>by have:=R.at_;rw[z,e]at this;cases this
  exact⟨C,dx,b,vs,rfl,R.ns,by rw[ag n3];exact R.at_,R.bo.th e,by rw[ag n1];exact R.ro,R.rs.th e⟩
 rw:=λ{K s l F H F'}h0_ k h=>by obtain⟨C,dx,b,vs,el,R⟩:=h0_;subst el;unfold WL.Rn.val;simp only[RW,RWs];exact⟨s.a,C,dx,rfs b s.r,rfl,k _ _ R.at_,R.ns,rfl,List.cons_ne_nil _ _,b,_,rfl,R.bo.keep k,.ref s.r,_,rfl,⟨s.r,vs,rfl,SqL.of (h _ (by simp) _ R.ro),R.rs.keep k⟩,rfl⟩
section
variable{B:Bx}{s:Rn}{l:List Addr}{σ:Ws}{σV:L2.St}{F H:Hp}{D:Ends}{X:Cx}{i j:Nat}{e:Expr}{es:List Expr}{te:EF}{pos pos':Pos}{x:Str}{a:AXF Rn}
def aia{K}(h:aqc K s l F H):RW K F s.ajG (.ref s.a):=by obtain⟨C,c,b,f,d,R⟩:=h;exact⟨_,C,c,_,rfl,R.at_,R.ns,rfl,List.cons_ne_nil _ _,b,_,rfl,R.bo,_,_,rfl,rfl,rfl⟩
set_option tactic.hygienic true
def RX.view(R:RX rnM B s l σ σV F H){c}(e:WL.seen Rn.a Rn.ajG j σ s=some c):RS (ot B H l) c σV F H:=by
 unfold WL.seen at e;split at e
 .rename_i b d;split at e;.rename_i g;cases e;subst g;obtain⟨v,f,h⟩:=R.rs.va j _ d;subst h;have:=R.rs.set (i:=j) (aia R.re);rw[set_same f]at this;exact this
  .cases e
 .cases e
def ahf(t:B.K=X.K)(z:XW X B)(n:X.N.Nodup)(o:∀c,c.K=X.K->XW X c->PE X e (lo c te))(E:X.N[i]?=some x:=by rfl)(g:Loc X.env.scope x:=by first|exact Or.inl rfl|exact Or.inr rfl)(y:swapsWith e (some (.Name x pos')) pos.line X.env=pure false:=by rfl)(r:FL X x:=by first|exact .inl rfl|exact .inr rfl|assumption):PS X (.Assign [.Name x pos'] e pos) (loX rnM B (WL.aaV Rn.a Rn.ajG j i te)):=by
 intro b C σV H D I⟨σ,F,s,l,R,q⟩;refine nv n E g (o (ot B H l) t (z.inS (λx g=>(R.fr x g).2) R.there)) y r b C σV H D I ?_;unfold WL.aaV at q;split at q
 .rename_i f A;split at q;.rename_i w G;refine⟨f,F,R.view A,?_⟩;rw[G];intro v h m u d p;have R2:=R.next (R.rs.grow d u.rb) d.f;exact q _ h m l ⟨R2.rs.set p,R2.fr,R2.re⟩ d.f
  .exact(q).elim
 .exact(q).elim
set_option tactic.hygienic false
def al9(M:Rsc S)(B:Bx)(a:AXF S):TA:=λσV H Q=>∃σ F s l ws,RX M B s l σ σV F H/\a σ s=.ok ws/\∀d b c,RX M B s l σ σV c b->Gr F H c b->RWs B.K c ws d->Q d b
def agg:PA X [] (al9 rnM B WL.axN):=PA.imp cz λσV H Q⟨σ,F,s,l,ws,R,e,h⟩=>by cases e;exact h _ H F R Gr.refl rfl
def aY{α b}{r:Res α}{f:α->Res b}{y}(h:r.bind f=.ok y):∃x,r=.ok x/\f x=.ok y:=by cases r with|ok x=>exact⟨x,rfl,h⟩|_=>cases h
def ajE(r:B.K=X.K)(o:∀c,c.K=X.K->PE X e (lo c te))(A:PA X es (al9 rnM B a))(G:SE X e es:=by rfl):PA X (e::es) (al9 rnM B (WL.axP te a)):=by intro pos d y σV H Q I⟨σ,F,s,l,ws,R,q,h⟩;obtain⟨w,J,q⟩:=aY q;obtain⟨b,m,q⟩:=aY q;cases q;refine aN (o (ot B H l) r) A G _ _ y σV H Q I ⟨σ,F,R.rs,?_⟩;rw[J];exact λv K z t g C=>⟨σ,z,s,l,b,R.next t g.f,m,λn E p R2 f u=>h _ E p R2 (g.trans f) ⟨v,n,rfl,C.keep f.f,u⟩⟩
end
end WS
set_option autoImplicit true
set_option relaxedAutoImplicit true
namespace WS
open PySem PySem.Spec PyProof.Rows L2
open WL(Res Sl Ws EF TF AF LF GF GsF SF Out OX RF Rn AXF)
section
variable{M:Rsc S}{B:Bx}{σ:Ws}{σV:L2.St}{F H:Hp}{D:Ends}{X:Cx}{k:Nat}{tg e:Expr}{body:List Stmt}{b:RF S}{it:LF}{pos:Pos}
set_option tactic.hygienic true in
def ahh(hK:B.K=X.K)(hp:PassesOwn (model X.prog X.w) X.A X.env X.xe)(hc:X.calm=true)(hi:∀U,U.K=X.K->PI X tg e (loI U it))(hg:PG X tg (L2.aA k))(hb:PSs X body (loX M B b))(hs:∀x,foldedSetIterable e X.env x=pure x:=by intro _;rfl):PS X (.For tg e body [] pos) (loX M B (WL.ahi it k b)):=by
 intro y sh σV H D I⟨σ,F,s,l,R,q⟩;unfold WL.ahi at q;split at q
 .rename_i g ex;refine xX hp hc (hi (ot B H l) hK) hg hb hs y sh σV H D I ⟨σ,F,R.rs,?_⟩;rw[ex];intro J H0 Y R0 g0 wk;refine⟨λj m d t=>m=g.length-j/\j<=g.length/\∃f i r z,RX M B r z f d i t/\av Y i/\OqX M B D i (WL.ml k b (g.drop j) f r),⟨g.length,rfl,arZ _,σ,Y,s,l,R.next R0 g0.f,av.refl _,by rw[asJ];exact OqX.mono g0.f q⟩,?_⟩;rintro j m d t⟨rfl,hj,f,i,r,z,u,P,h⟩;by_cases p:j<g.length;.rw[arF p]at h;obtain⟨go,yl⟩:=wk.go j g[j] (art p) i t P u.rs.rb.sub;refine .inr ⟨go,_,λa N h2=>⟨g.length-(j+1),by omega,rfl,p,h2⟩,λv N hy=>?_⟩;obtain⟨K,Q,r2⟩:=yl v N hy;have R2:RX M B r z f d K N:=u.next (Q.rs _ _ _ u.rs) Q.same;refine⟨f.set k (.va g[j]),K,r,z,⟨R2.rs.set r2,R2.fr,R2.re⟩,?_⟩;have h:OqX M B D i (match b (f.set k (.va g[j])) r with|.nx a s2=>WL.ml k b (g.drop (j+1)) a s2|.ct a s2=>WL.ml k b (g.drop (j+1)) a s2|.bk a s2=>.nx a s2|o=>o):=h;have A:av i K:=Q.same;cases C:b (f.set k (.va g[j])) r with|nx a s2|ct a s2=>rw[C]at h;exact λn Z O T G E=>⟨a,O,s2,T,G,(P.trans A).trans E,OqX.mono (A.trans E) h⟩|bk a s2=>rw[C]at h;exact λn Z O T G E=>(show∀d H' F' l',_ from h) n Z O T G (A.trans E)|rt w s2|ex c a=>rw[C]at h;exact OqX.mono (D:=D) A h|bad=>rw[C]at h;exact h
  .have ei:j=g.length:=by omega
   subst ei;rw[as2]at h;exact .inl ⟨wk.stop i t P u.rs.rb.sub,(show∀d H' F' l',_ from h) d t i z u (av.refl _)⟩
 .exact(show False from q).elim
end
section
variable{B:Bx}{s:Rn}{l:List Addr}{σ:Ws}{σV:L2.St}{F H:Hp}{D:Ends}{X:Cx}{j n:Nat}{f C:Addr}{fn:List VW->Rn->OX Rn}{a:AXF Rn}{e o:Expr}{es:List Expr}{m:Str}{apos cpos pos:Pos}
set_option tactic.hygienic true in
def aep(J:B.K=X.K)(hx:XW X B)(a0:W.nsIn X.K mainGlobals (Str.ofString "Run")=some (some (.ref C)))(U:m∉WL.lY "Run")(cl:Cls X.K C)(ho:PE X o (eF j))(ha:PA X (e::es) (al9 rnM B a))(hn:∀σ s ws,a σ s=.ok ws->ws.length+1=n)(Q:∀t,PA X (e::es) t->PE X (.Call (.Attribute o m apos) (e::es) [] cpos) (xF X C m (spM rnM X.K n fn) [] (eF j) t))(hs:swapsWith (.Call (.Attribute o m apos) (e::es) [] cpos) none pos.line X.env=pure false:=by rfl):PS X (.Expr (.Call (.Attribute o m apos) (e::es) [] cpos) pos) (loX rnM B (WL.gU j fn a)):=by
 intro K sh σV H D I⟨σ,F,s,l,R,q⟩;refine cU (Q _ ha) hs K sh σV H D I ?_;unfold WL.gU at q;split at q
 .rename_i b eb;split at q
  .rename_i Z;subst Z;split at q
   .rename_i ws ew;obtain⟨v,h1,Y⟩:=R.rs.va j _ eb;have Y:v=.ref s.a:=Y;subst Y;obtain⟨C',dx,b,us,el,S⟩:=R.re;have:=S.ns;rw[J,a0]at this;cases this;refine⟨_,h1,s.a,dx,_,rfl,R.rs.rb.sub _ _ S.at_,aiQ (by exact U),σ,F,s,l,ws,R,ew,?_⟩;intro vs H1 F1 h g1 r1;rw[ar2];refine⟨λCv p u=>∃M g c d,Cv=.ref M/\RS B d σV g u/\B.xp c d g/\XR X.K g c M p,⟨F1,.id s.a::ws,s,l,h.rs.rb.sub,.cons (by simp only[RW]) (J▸r1),by rw[arw];exact hn σ s ws ew,J▸h.re,λx hx=>(h.fr x hx).1,?_⟩,?_⟩;.cases A:fn (.id s.a::ws) s with|nx d G=>rw[A]at q;exact λu g P y N E fr re O=>(show∀a1 u g P,_ from q) σV u g P (h.hand y N E fr (J▸re) O) (g1.f.trans y)|rt w G=>rw[A]at q;exact λv u g P y N E fr re O r=>q σV u g P (h.hand y N E fr (J▸re) O) (g1.f.trans y)|ex c d=>rw[A]at q;intro M p u g y N E O xr;have q:B.xp c σ F:=q;exact⟨M,g,c,σ,rfl,(h.out y N E O).1,B.mono c σ F g (g1.f.trans y) q,xr⟩|bk d G=>rw[A]at q;exact(show False from q).elim|ct d G=>rw[A]at q;exact(show False from q).elim|bad=>rw[A]at q;exact(show False from q).elim
    .rintro z G e' C' p T u t⟨M,g,c,d,ec,R',xp,xr⟩;cases ec;exact hx z σV u G d g c R' xp e' C' p (some T) .none t xr
   .exact(show False from q).elim
  .exact(show False from q).elim
 .exact(show False from q).elim
end
end WS
set_option autoImplicit true
set_option relaxedAutoImplicit true
namespace WS
open PySem PySem.Spec PyProof.Rows L2
open WL(Res Sl Ws EF TF AF LF GF GsF SF Out OX RF Rn AXF)
section
variable{B:Bx}{X:Cx}{i ci k:Nat}{te:EF}{st:Stmt}{A1 A2 A3 A4 CB fI:Addr}{x1 x2 x3 x4 xB n cn:Str}{p1 p2 p3 p4 tp q1 q2 q3 np cpos rpos hpos pos:Pos}{ps:List Str}{fd:FuncData}
set_option tactic.hygienic true in
def ahe{ec cs}(c4:∀nm∈cs,nm≠"Broken"/\WL.fieldsOf nm≠[])(hB:B.K=X.K)(hx:XW X B)(hr:Room 39 X.A)(hs:X.stack=X.env::X.outer)(hf:X.env.frame=some X.env.locals)(hN:X.N.Nodup)(hi:X.N[i]?=some n)(hl:X.env.scope.names.lookup n=some .local)(b6:X.N[ci]?=some cn)(b9:X.env.scope.names.lookup cn=some .local)(c6:i≠ci)(h0:0≠ci)(g1:Gl X x1/\X.mg x1=some (.ref A1))(K:Gl X x2/\X.mg x2=some (.ref A2))(g3:Gl X x3/\X.mg x3=some (.ref A3))(g4:Gl X x4/\X.mg x4=some (.ref A4))(hc:∀nm Ca,ExcAt X.K nm Ca->nm∈cs->W.exmAny X.K (.ref Ca) [.ref A1,.ref A2,.ref A3,.ref A4]=some true/\StrK X.K Ca/\∃M,oD X.K Ca (some (.ref M)))(hR:∀C,W.nsIn X.K mainGlobals (Str.ofString "Run")=some (some (.ref C))->Cls X.K C/\bO X.K C "floors")(hg:Gl X xB)(hm:X.mg xB=some (.ref CB))(q:oD X.K CB (some (.ref fI)))(a6:W.typeIn X.K (.ref fI)=some (.type "function"))(b3:ExcAt X.K "Broken" CB)(G:FnOk X.prog X.w X.K X.mg X.base CX0 k fI fd ps (spG CB ["at","why"] 100000 (aex X.K)))(hk:k+1<=39)(hb:Binds X.K fd ps [])(c7:∀E pn B',B'.K=X.K->XW (X.tri E pn) B'->PS (X.tri E pn) st (sy (tBM X.K "list" nr (aoi X.K (eF 0) "floors") (gR (lo B' te) xE))))(d1:Dbg x1:=by decide)(d2:Dbg x2:=by decide)(d3:Dbg x3:=by decide)(d4:Dbg x4:=by decide)(d5:Dbg xB:=by decide)(d6:Dbg n:=by decide)(d7:Dbg cn:=by decide)(d8:(n=="__classdict__")=false:=by decide)(d9:(cn=="__classdict__")=false:=by decide):PS X (.Try [st] [.ExceptHandler (some (.Tuple [.Name x1 p1,.Name x2 p2,.Name x3 p3,.Name x4 p4] ec tp)) (some n) [.Raise (some (.Call (.Name xB np) [.Name cn q1,.Name n q2] [] cpos)) (some (.Name n q3)) rpos] hpos] [] [] pos) (loX rnM B (WL.vj cs ci te)):=by
 intro g sh J H D I⟨σ,F,s,l,R,a⟩;refine wpAny_Try_except ?_;unfold WL.vj at a;split at a;case h_2=>exact(show False from a).elim
 rename_i m j;obtain⟨kz,R1⟩:=R.frz j;have e0:σ[0]?=some (.va (.id s.a))/\m=σ.set 0 (.va s.val):=by
  unfold WL.seen at j;split at j
  .rename_i b eb;split at j;.rename_i hb;cases j;rw[hb]at eb;exact⟨eb,rfl⟩
   .cases j
  .cases j
 let E':Value->Shared->Prop:=λe O=>wpAny (model X.prog X.w) X.A (noteFrame e X.env) (λ_ U=>wpAny (model X.prog X.w) X.A (setFlight e none) (λ_ a4=>wpAny (model X.prog X.w) X.A (handleBy e X.env [.ExceptHandler (some (.Tuple [.Name x1 p1,.Name x2 p2,.Name x3 p3,.Name x4 p4] ec tp)) (some n) [.Raise (some (.Call (.Name xB np) [.Name cn q1,.Name n q2] [] cpos)) (some (.Name n q3)) rpos] hpos]) (SP X g D) X.xe a4) X.xe U) X.xe O;let B1:Bx:=B.oE (λc Z F'=>Z=m/\te m=.ex c/\av (fzS F H l) F') λc Z F' e4 s h=>⟨h.1,h.2.1,h.2.2.trans s⟩;have xw:XW (X.tri E' (X.pn++g)) B1:=by
  intro c2 x N s1 A F1 c R2 xp e u r T fl t xr;obtain⟨rfl,b7,kF⟩:=xp;rw[b7]at a;have t2:Thr X g x N s1 e u r fl T:=t.iS;obtain⟨nm,fs,rfl,ce⟩:=xr.is;dsimp only at a;split at a;case h_2=>exact(show False from a).elim
  rename_i w ew;split at a;case isFalse=>exact(show False from a).elim
  rename_i hw;have hC:nm∈cs:=List.contains_iff_mem.mp hw.2;obtain⟨a5,sk,M,qe⟩:=hc nm u ce hC;have f:RS B A x F1 N:=R2.box rfl rfl rfl;have a7:A[ci]?=some (.va w):=by rw[e0.2,arh h0];exact ew
  obtain⟨v1,b5,c9⟩:=f.va ci w a7;obtain⟨p,rfl,b4⟩:∃p,w=.int p/\p.natAbs.log2<100:=by have:=hw.1;cases w with|int p=>exact⟨p,rfl,atH this⟩|_=>cases this
  cases show v1=.int p from c9;obtain⟨e5,b8,a8,e6,c0,d0⟩:=id xr;obtain⟨nb,nf⟩:=c4 nm hC;obtain⟨a9,t0,y0,a1,a2,a3⟩:=(d0.resolve_left nf).resolve_left nb;obtain⟨b0,b1,b2⟩:=c0.resolve_left λz=>nf (by rw[<-a8,z.1];rfl);have he:N e=none:=t2.fe.1;have kH:=ay he (.ext (excAt e u r));have c5:F1 e=none:=f.rb.sub.free he;have c3:=ay c5 (.ext (excAt e u r));refine t2.note hs hf λh' T' _ t3=>t3.uH λe7 t4=>z0 (vs:=[.ref A1,.ref A2,.ref A3,.ref A4]) (G:=aex X.K) t4 (λQ E h=>ai9 (X:=X.sui e) (t4.inv.sui e) g1 K g3 g4 h d1 d2 d3 d4) (λkI ty hp=>W.exm_tup4 kI ty hp a5) hs hf hN hi hl b6 b9 c6 b5 a9 qe hg hm q a6 G (λws H b o=>aex.mono ws H b o) ((hr.sui (arn _)).mono hk) hb rfl ⟨p,e,y0,rfl,b4,⟨u,r,b0,b8,t0,aj,sk,b1,kH _ _ (f.rb.sub _ _ b2),a1,kH _ _ (f.rb.sub _ _ a2)⟩,a3⟩ (λs' e2 d ta y c1 T2 z1 z2 t5=>?_) d5 d6 d7 d8 d9;have Ra:=(f.new he (.ext (excAt e u r))).new z1 (.tup [.str y]);have Rb:=((Ra.new z2 (.xd (List.zip [("at":Str),"why"] [.int p,.ref e]))).akN i).blank;have k3:=c3.trans ((ay ((f.new he (.ext (excAt e u r))).rb.sub.free z1) (.tup [.str y])).trans (ay (Ra.rb.sub.free z2) (.xd (List.zip [("at":Str),"why"] [.int p,.ref e]))));have Y:(A.set i .no).length=σ.length:=by rw[auL,e0.2,auL]
  rw[Y]at Rb;refine hx g _ _ s' _ _ (.exc "Broken" [.int p,.exc nm fs]) Rb (B.mono _ _ F _ (kz.trans (kF.trans k3)) a) e2 CB _ (some T2) c1 t5 ⟨b3,[("at",.int p),("why",.ref e)],rfl,?_,.inr ⟨d,rfl,aj⟩,.inr (.inl rfl)⟩;have nt:e≠ta:=λw=>by rw[<-w,aj]at z1;cases z1
  have nd:e≠d:=λw=>by rw[<-w,ag nt,aj]at z2;cases z2
  refine⟨.int p,_,rfl,by simp only[RW],.ref e,_,rfl,?_,rfl⟩;obtain⟨y1,a0,y2,y3,y4,y5⟩:=xr.keep k3;simp only[RW];exact⟨e,u,r,rfl,by rw[ag nd,ag nt,aj],y1,a0,y2,y3,y4⟩
 have P:=cT (c7 E' (X.pn++g) B1 hB xw);refine arI (P [] sh J H D (I.tri E') ?_) (λfl s' h=>?_) λ_ _ z=>z;.obtain⟨v0,e1,c8⟩:=R.rs.va 0 _ e0.1;cases show v0=.ref s.a from c8;obtain⟨C,r,bb,vs,el,S⟩:=R.re;obtain⟨cl,na⟩:=hR C (hB▸S.ns);refine⟨.ref s.a,e1,s.a,C,r,_,.ref s.r,rfl,R.rs.rb.sub _ _ S.at_,cl,na,zx,.inl ⟨rfl,vs,SqL.of S.ro⟩,m,fzS F H l,R1.box rfl rfl rfl,?_⟩;cases et:te m with|bad=>rw[et]at a;exact(show False from a).elim|ex c=>exact⟨rfl,et,av.refl _⟩|ok w=>
   rw[et]at a;dsimp only at a;split at a
   .rename_i hw;intro v N F1 R2 gg r1;have f:RS B m J F1 N:=R2.box rfl rfl rfl;obtain⟨F2,K,hk,R3⟩:=R.back f gg;have r2:=acW R gg R2.rb.sub hk hw.1 r1;refine⟨s.r,vs,v,rfl,rfl,gg.h _ _ S.ro,by rw[<-S.rs.length];exact aro hw.2 eQ,?_⟩;have hr:s.r∈l:=by rw[el];simp
    refine(show∀e3 H' F' l',_ from a) J _ F2 l (R3.write hr ?_) K.f;exact⟨C,r,bb,vs++[v],el,S.ns,K.f _ _ S.at_,S.bo.keep K.f,aj,(S.rs.keep K.f).app (.one r2)⟩
   .exact(show False from a).elim
 .have h:=SP.iS h;cases fl with|next=>exact atq h|_=>exact h
end
end WS
set_option autoImplicit true
set_option relaxedAutoImplicit true
namespace WS
open PySem PySem.Spec PyProof.Rows L2
open WL(Res Sl Ws EF TF AF LF GF GsF SF Out OX RF Rn AXF)
def anf(K:W.Frag):Sp:=λd H Q E=>∃x C c b g,d=[.ref x,b,g]/\H x=some (.ins C c [])/\(Cls K C/\bO K C "book"/\bO K C "floors")/\∀r a,H r=none->a x=some (.ins C c (rfs b r))->a r=some (.lst [g])->(∀y,y≠x->y≠r->a y=H y)->Q .non a
section
variable{P:Program}{w:World}{K:W.Frag}{mg:Str->Option Value}{base:Heap}
def afA{nm c st f D n l m k B v}(M:Fun K nm c st f D)(R:FnScope [n,l,m] [n,l,m] (af st))(p:aD st=[B,v])(h:∀i A a s H E X,X=dG (CXX P w) P w K mg base [n,l,m] c (af st) f i A a s H E->PS X B (aou K (eF 0) (eF 1) "book")/\PS X v (aou K (eF 0) (aoh (gR (eF 2) xE)) "floors")):FnOk P w K mg base (CXX P w) (k+1) f D [n,l,m] (anf K):=by
 obtain⟨oc,od,Y,U,pm,an,i,ct,a0,rfl,G,q⟩:=M.ex;refine uD G q R λJ H Q E d=>by obtain⟨x,C,t,b,g,e,_⟩:=d;rw[e];rfl λA a s H J Q E o _ d=>?_;obtain⟨x,C,t,b,g,e,I,⟨cl,a1,N⟩,hq⟩:=d;subst e;obtain⟨O,T⟩:=h i A a s H E _ rfl;rw[p];refine⟨_,aT O (cT T),?_⟩;have S:tq ("book":Str) b []=[(("book":Str),b)]:=rfl;have Z:∀r:Addr,tq ("floors":Str) (V.ref r) [(("book":Str),b)]=rfs b r:=λ_=>rfl;refine⟨b,rfl,.ref x,rfl,x,C,t,[],rfl,I,cl,a1,by decide,?_⟩;rw[S];refine⟨g,rfl,show 1<=sizeLine by decide,λr o=>?_⟩;have j:x≠r:=λz=>by rw[<-z,aj]at o;cases o
 refine⟨.ref x,rfl,x,C,t,[("book",b)],rfl,by rw[ag j];exact aj,cl,N,by simp,?_⟩;rw[Z];refine hq r _ (by rwa[ag (arz j)]at o) aj (by rw[ag (arz j),aj]) λy u b2=>?_;rw[ag u,ag b2,ag u]
end
section
variable{X:Cx}{B:Bx}{C g:Addr}{k jr j n:Nat}{m:Str}{ps:List Str}{fn:List VW->Rn->OX Rn}{e o:Expr}{es:List Expr}{a:AXF Rn}{apos cpos pos:Pos}{pl:Sem Bool}
def xmR(v:B.K=X.K)(z:Room jr X.A)(x:XW X B)(y:W.nsIn X.K mainGlobals (Str.ofString "Run")=some (some (.ref C)))(cl:Cls X.K C)(G:xf X.prog X.w X.K X.mg X.base k C g m ps (spM rnM X.K n fn))(p:PE X o (eF j))(u:PA X (e::es) (al9 rnM B a))(r:∀D s ws,a D s=.ok ws->ws.length+1=n)(q:k<=jr:=by decide)(h:m∉WL.lY "Run":=by decide)(d:SE X e es:=by rfl)(i:BT X cpos es:=by rfl)(A:eval (.Call (.Attribute o m apos) (e::es) [] cpos) X.env=(do
  let l <-eval o X.env
  standAt apos.atName let(f,first)<-holding [l] (getMethod l m pl)callWith cpos f first (backTo cpos (starEach (e::es) X.env)) (backToKw cpos (keywordEach [] X.env))):=by rfl)(w:swapsWith (.Call (.Attribute o m apos) (e::es) [] cpos) none pos.line X.env=pure false:=by rfl):PS X (.Expr (.Call (.Attribute o m apos) (e::es) [] cpos) pos) (loX rnM B (WL.gU j fn a)):=by obtain⟨M,E,F,b⟩:=G;exact aep v x y h cl p u r (λt c=>xY p cl M F (z.mono q) b .nil c d i A) w
def ai1{c}(d:W.nsIn X.K mainGlobals (Str.ofString "Run")=some (some (.ref C)))(cl:Cls X.K C)(f:bO X.K C c):∀b,W.nsIn X.K mainGlobals (Str.ofString "Run")=some (some (.ref b))->Cls X.K b/\bO X.K b c:=λb h=>by grind
end
end WS
set_option autoImplicit true
set_option relaxedAutoImplicit true
namespace WS
open PySem PySem.Spec PyProof.Rows L2
open WL(Res Sl Ws EF TF AF LF GF GsF SF Out OX RF Rn AXF)
def amA{P:String->Addr->Prop}{K}:∀nm a,ExcAt K nm a->nm∈[]->P nm a:=λ_ _ _ z=>nomatch z
def wA{P:Addr->Prop}{K c A b}(e:ExcAt K c A)(p:P A)(h:∀nm a,ExcAt K nm a->nm∈b->P a):∀nm a,ExcAt K nm a->nm∈c::b->P a:=λnm a d f=>by
 rcases arx.mp f with z|z;.subst z;have:=e.2.symm.trans d.2;cases this;exact p
 .exact h _ _ d z
def apz{K d a f g nm i j e c b}(x:ExcAll K)(h:ExcAt K nm b)(n:ExcAt K i d)(k:ExcAt K j a)(o:ExcAt K e f)(l:ExcAt K c g)(m:(WL.pq nm i||(WL.pq nm j||(WL.pq nm e||(WL.pq nm c||false))))=true):W.exmAny K (.ref b) [.ref d,.ref a,.ref f,.ref g]=some true:=by simp only[W.exmAny,x.ex _ _ _ _ h n,x.ex _ _ _ _ h k,x.ex _ _ _ _ h o,x.ex _ _ _ _ h l];rw[m]
def ag2:∀a(s:S)ws,WL.axN a s=.ok ws->ws.length=0:=λa s ws e=>by cases e;rfl
def ajX{f}{a:AXF S}(h:∀b s ws,a b s=.ok ws->ws.length=n):∀b s ws,WL.axP f a b s=.ok ws->ws.length=n+1:=λb s ws e=>by obtain⟨w,_,e⟩:=aY e;obtain⟨d,c,e⟩:=aY e;cases e;rw[arw,h b s _ c]
section
variable{B:Bx}{X:Cx}{i ci jr:Nat}{te:EF}{st:Stmt}{A1 A2 A3 A4 CB fI C:Addr}{x1 x2 x3 x4 xB n cn:Str}{p1 p2 p3 p4 tp q1 q2 q3 np cpos rpos hpos pos:Pos}{ps:List Str}
def xtb{O h}(t:B.K=X.K)(hr:Room jr X.A)(hx:XW X B)(M:X.N.Nodup)(N:X.mg x1=some (.ref A1))(K:X.mg x2=some (.ref A2))(I:X.mg x3=some (.ref A3))(Y:X.mg x4=some (.ref A4))(J:∀nm a,ExcAt X.K nm a->nm∈h->W.exmAny X.K (.ref a) [.ref A1,.ref A2,.ref A3,.ref A4]=some true/\StrK X.K a/\∃l,oD X.K a (some (.ref l)))(D:W.nsIn X.K mainGlobals (Str.ofString "Run")=some (some (.ref C)))(cl:Cls X.K C)(u:bO X.K C "floors")(P:X.mg xB=some (.ref CB))(q:oD X.K CB (some (.ref fI)))(f:W.typeIn X.K (.ref fI)=some (.type "function"))(k:ExcAt X.K "Broken" CB)(G:ajC X.prog X.w X.K X.mg X.base fI ps (spG CB ["at","why"] 100000 (aex X.K)))(d:∀E o c,c.K=X.K->XW (X.tri E o) c->PS (X.tri E o) st (sy (tBM X.K "list" nr (aoi X.K (eF 0) "floors") (gR (lo c te) xE))))(T:X.stack=X.env::X.outer:=by rfl)(s:X.env.frame=some X.env.locals:=by rfl)(hj:39<=jr:=by decide)(hi:X.N[i]?=some n:=by rfl)(A:X.env.scope.names.lookup n=some .local:=by rfl)(m:X.N[ci]?=some cn:=by rfl)(e:X.env.scope.names.lookup cn=some .local:=by rfl)(g:i≠ci:=by decide)(S:0≠ci:=by decide)(Z:Gl X x1:=by rfl)(z:Gl X x2:=by rfl)(y:Gl X x3:=by rfl)(l4:Gl X x4:=by rfl)(H:Gl X xB:=by rfl)(j:∀nm∈h,nm≠"Broken"/\WL.fieldsOf nm≠[]:=by decide)(x:Dbg x1:=by decide)(d2:Dbg x2:=by decide)(R:Dbg x3:=by decide)(r:Dbg x4:=by decide)(v:Dbg xB:=by decide)(w:Dbg n:=by decide)(Q:Dbg cn:=by decide)(p:(n=="__classdict__")=false:=by decide)(U:(cn=="__classdict__")=false:=by decide):PS X (.Try [st] [.ExceptHandler (some (.Tuple [.Name x1 p1,.Name x2 p2,.Name x3 p3,.Name x4 p4] O tp)) (some n) [.Raise (some (.Call (.Name xB np) [.Name cn q1,.Name n q2] [] cpos)) (some (.Name n q3)) rpos] hpos] [] [] pos) (loX rnM B (WL.vj h ci te)):=by obtain⟨fd,F,b⟩:=G;exact ahe j t hx (hr.mono hj) T s M hi A m e g S ⟨Z,N⟩ ⟨z,K⟩ ⟨y,I⟩ ⟨l4,Y⟩ J (ai1 D cl u) H P q f k F (by decide) b d x d2 R r v w Q p U
end
end WS
set_option autoImplicit true
set_option relaxedAutoImplicit true
namespace WS
open PySem PySem.Spec PyProof.Rows L2
open WL(Res Sl Ws EF TF AF LF GF GsF SF Out OX RF Rn AXF)
section
variable{X:Cx}{B:Bx}{i:Nat}{x:Str}{pos pos' dpos:Pos}
def aes{keys c a}(T:X.N.Nodup)(hi:X.N[i]?=some x)(hx:Loc X.env.scope x)(h:PD X B dpos keys c a)(l:keys.all (·.isSome)=true:=by rfl)(S:keys.length=c.length:=by rfl)(C:keys≠[]:=by intro z;cases z)(A:keys.length<=15:=by decide)(hs:swapsWith (.Dict keys c dpos) (some (.Name x pos')) pos.line X.env=pure false:=by rfl)(O:FL X x:=by first|exact .inl rfl|exact .inr rfl|assumption):PS X (.Assign [.Name x pos'] (.Dict keys c dpos) pos) (loS B (WL.agw i a)):=by obtain⟨ps,N,rfl⟩:=h;refine PS.imp (nv T hi hx (ain N l S C A) hs O) λD r H⟨M,F,R,q⟩=>?_;intro p m;have q:=Oq.ofR q;have Z:=R.rb.sub.free m;have u:=R.rb.base.free m;refine yb ps (R.ajO m (.dK [])) q λws a0 J U g R2 y Q=>?_;have n:J p=none:=y.nf p _ aj Z;have G:U p=some (.dK []):=y.h p _ aj;cases e:WL.jD ws with|none=>rw[e]at g;exact(show False from g).elim|some kv=>
  obtain⟨k,vs⟩:=kv;rw[e]at g;obtain⟨d,rfl,v,P⟩:=sA e Q;dsimp only at g;by_cases s:(WL.fU k&&decide (k.length<=15))=true
  .rw[arj s]at g;rw[ary]at s;have Y:jP [] d=d:=by rw[nN d [] (λ_ _=>rfl) (yW s.1 v)];rfl
   refine⟨G,d,rfl,?_,?_⟩;.have:=v.length;rw[arB]at this;have:=atH s.2;omega
   .rw[Y];have nw:∀(j:Nat)(f:List VW),M[j]?=some (Sl.ow f)->r[j]?≠some (some (V.ref p)):=λj f w E=>by obtain⟨b,_,o,_,_,t,_⟩:=R.ow j f w;rw[E]at o;cases o;rw[m]at t;cases t
    have nd:∀(j:Nat)(k f:List VW),M[j]?=some (Sl.od k f)->r[j]?≠some (some (V.ref p)):=λj k f w E=>by obtain⟨b,I,o,_,_,t,_⟩:=R.dd.od j k f w;rw[E]at o;cases o;rw[m]at t;cases t
    exact(show∀K H' F',_ from g) _ _ J ((R2.away (.dK d) n u nw nd).aqa n u aj v P λj k f _=>nd j k f) y.f
  .rw[arl s]at g;exact(show False from g).elim
end
section
variable{X:Cx}{B:Bx}{i:Nat}{as:List VW}{st:Stmt}{rest:List Stmt}{s1:SF}
set_option tactic.hygienic true in
def aa2(J:B.K=X.K)(A:noL X.K=true)(h2:PS X st (sy (tBM X.K "list" nr (tOp (aqf X.K) (eF i) (tC (.int 1))) (gR (tC .non) xE))))(U:PSs X rest (loS B s1)):PSs X (st::rest) (loM B i as (WL.qz i as s1)):=by
 intro g s e H D I⟨k,F,E,m,q⟩;refine aT h2 U g s e H D I ?_;obtain⟨Fa,Fr,w,v,e1,O,n,r,Q,fr⟩:=m.tl;have q:Oq B D E (WL.aby i as s1 k k[i]?):=q;rw[e1]at q;unfold WL.aby at q;split at q
 .rename_i w0 d ew;cases ew;by_cases C:WL.bI d=true/\d∉WL.cy as/\d.length<WL.lim
  .rw[arj C]at q;obtain⟨P,n1,N⟩:=C;simp only[RW,RWs]at r;obtain⟨o,S,rfl,Z,T,r0,rfl,_,v1,r0,rfl,⟨a,G,rfl,q1,M⟩,rfl⟩:=r;obtain⟨K,g2,g3⟩:=m.at J A I n Q fr q1 M P n1;have p:H a=some (.lst G):=m.rs.rb.sub _ _ (n _ _ K);have Y:G.length<sizeLine:=by rw[<-M.length];exact aro N eQ
   have nw:∀(j:Nat)(ws:List VW),(k.set i .no)[j]?=some (Sl.ow ws)->e[j]?≠some (some (V.ref a)):=λj ws l y=>by
    have hj:i≠j:=λz=>by grind
    rw[arh hj]at l;obtain⟨b',a1,c,h,_⟩:=m.rs.ow j ws l;rw[y]at c;cases c;rw[n _ _ K]at h;cases h
   have nd:∀{b:Addr}{u:List V},H b=some (.lst u)->∀(j:Nat)(t d:List VW),(k.set i .no)[j]?=some (Sl.od t d)->e[j]?≠some (some (V.ref b)):=λ{b u}R j t d l y=>by obtain⟨b',_,c,_,_,f,_⟩:=m.old.dd.od j t d l;rw[y]at c;cases c;rw[R]at f;cases f
   have x:SqT X.K H o [T,.ref a]:=J▸m.rs.rb.sub.tup (n.tup Z);refine⟨.ref o,O,o,_,1,.ref a,rfl,rfl,x,by simp[L2.atI,L2.ixN],.inl ⟨rfl,_,SqL.of p⟩,a,_,.non,rfl,rfl,p,Y,k.set i .no,E,?_,q⟩;exact m.old.away _ g2 g3 nw (nd p)
  .rw[arl C]at q;exact(show False from q).elim
 .exact(show False from q).elim
end
end WS
set_option autoImplicit true
set_option relaxedAutoImplicit true
namespace WS
open PySem PySem.Spec PyProof.Rows L2
open WL(Res Sl Ws EF TF AF LF GF GsF SF Out OX RF Rn AXF)
def ajZ(B:Bx)(D:Ends)(F:Hp)(us:List VW):Prop:=∀a d c b,RB B b c->av F b->b a=none->B.H0 a=none->c a=some (.lst d)->RWs B.K b us d->D.rt (.ref a) c
section
variable{B:Bx}{D:Ends}{F F':Hp}
def ajZ.mono{us}(k:av F F')(h:ajZ B D F us):ajZ B D F' us:=λa c d G b s=>h a _ _ G b (k.trans s)
def OqQ(B:Bx)(D:Ends)(F:Hp):Out->Prop|.rt w=>∃a,w=.lst a/\ajZ B D F a|.ex c σ'=>B.xp c σ' F|_=>False
def OqN(B:Bx)(D:Ends)(F:Hp):OX Rn->Prop|.rt w _=>∃a,w=.lst a/\ajZ B D F a|.ex c σ'=>B.xp c σ' F|_=>False
theorem OqN.mono(k:av F F'){o}(h:OqN B D F o):OqN B D F' o:=by cases o with|rt w s=>obtain⟨a,e,h⟩:=h;exact⟨a,e,h.mono k⟩|ex c σ=>exact B.mono c σ F _ k h|_=>exact h
end
def loQ(B:Bx)(t:SF):TS:=λD a H=>∃b F,RS B b a F H/\OqQ B D F (t b)
def al7(B:Bx)(t:RF Rn):TS:=λD a H=>∃b F s l,RX rnM B s l b a F H/\OqN B D F (t b s)
section
variable{X:Cx}{B:Bx}{st s1:Stmt}{rest:List Stmt}{t1 t2 t:RF Rn}{te:EF}{j:Nat}{C:Addr}{as:AF}
def ahc(h:PS X st (loX rnM B t1))(o:PSs X rest (al7 B t2))(m:∀b s w a,t1 b s≠.rt w a):PSs X (st::rest) (al7 B (WL.aaJ t1 t2)):=PSs.imp (aT h o) λD f H⟨b,F,s,l,R,q⟩=>by refine⟨b,F,s,l,R,?_⟩;unfold WL.aaJ at q;cases d:t1 b s with|nx σ' a=>rw[d]at q;exact λe p i n g k=>⟨_,i,a,n,g,OqN.mono k q⟩|bk σ' a|ct σ' a=>rw[d]at q;exact q.elim|rt w a=>exact(m b s w _ d).elim|ex c σ'|bad=>rw[d]at q;exact q
set_option tactic.hygienic true
def ahd(h:PS X st (aoc (loL B (WL.lOf te)))):PSs X [st] (al7 B (WL.aaW j te)):=PSs.imp (cT h) λD m H⟨x,F,s,l,R,q⟩=>by
 unfold WL.aaW at q;split at q
 .rename_i b p;split at q;.rename_i w v;obtain⟨e,rfl,q⟩:=q;obtain⟨k,n⟩:=R.frz p;refine⟨b,_,n,?_⟩;rw[show WL.lOf te b=.ok e by unfold WL.lOf;rw[v];rfl];exact λa i d f R2 c u o g r _=>q a i d f R2.rb (k.trans c.f) u o g r
  .exact(q).elim
 .exact(q).elim
def y6(hB:B.K=X.K)(hx:XW X B)(a5:W.nsIn X.K mainGlobals (Str.ofString "Run")=some (some (.ref C)))(a1:Cls X.K C/\bO X.K C "book"/\bO X.K C "floors")(h1:PS X s1 (ajI (agn X C (anf X.K) [] (loA B as)) (L2.aA j)))(h2:∀B',B'.K=X.K->XW X B'->PSs X rest (al7 B' t)):PSs X (s1::rest) (loQ B (WL.i3 j as t)):=by
 let B1:Bx:=B.oE (λc m F=>B.xp c (List.replicate m.length .no) F) λc m F F' s h=>B.mono c _ F F' s h;have xw:XW X B1:=λK l H s m F c R xp e C i T fl t xr=>hx K l H s _ F c (RS.blank (R.box rfl rfl rfl)) xp e C i T fl t xr;refine PSs.imp (aT h1 (h2 B1 hB xw)) λD l H a0=>?_;obtain⟨m,F,R,q⟩:=a0;refine⟨m,F,R,?_⟩;unfold WL.i3 at q;split at q
 .rename_i wb wf ea;rw[ea];split at q
  .rename_i hh;have d:=Classical.choose_spec hh;intro Q H1 N G A r1 x i M a2 O;obtain⟨n,u,rfl,rb,rf⟩:∃n u,Q=[n,u]/\RW B.K N wb n/\RW B.K N wf u:=by simp only[RWs]at r1;obtain⟨v,r,rfl,h,v',r',rfl,h',rfl⟩:=r1;exact⟨v,v',rfl,h,h'⟩
   refine⟨λ_ _ _=>False,⟨x,C,i,n,u,rfl,aj,a1,λr Z J a4 P ho=>⟨rfl,?_⟩⟩,λ_ _ _ _ _ _ _ _ z=>z.elim⟩;have E:r≠x:=λz=>by rw[z,aj]at J;cases J
   have o:r≠i:=λz=>by rw[z,ag O,aj]at J;cases J
   have f:H1 r=none:=by rw[ag E,ag o]at J;exact J
   let p:Hp:=upd N x (.ins C i (rfs n r));have eH:Z=upd (upd (upd H1 i (.own x)) x (.ins C i (rfs n r))) r (.lst [u]):=by
    funext b;by_cases b2:b=r;.subst b2;rw[aj,P]
    .rw[ag b2];by_cases Y:b=x;.subst Y;rw[aj,a4]
     .rw[ag Y,ho b Y b2,ag Y]
   have a3:=G.rb.sub.free M;have k2:av N p:=ay a3 _;have R2:RS B m l p Z:=by have Ra:=(G.ajO a2 (.own x)).new (by rw[ag (arz O)];exact M) (.ins C i (rfs n r)) trivial;have Rb:=Ra.ajO (by rw[ag E,ag o];exact f) (.lst [u]);rw[eH];exact Rb
   have S:p r=none:=by show upd N x _ r=none;rw[ag E];exact G.rb.sub.free f
   have inl:∀y∈[r],y=r:=λy g=>arW.mp g;have R3:RS (ot B1 Z [r]) m l p Z:=by
    refine RS.inS (R2.box rfl rfl rfl) (λy g=>by rw[inl y g];exact S) (λk ws y e1 e2 g=>?_) λy g k ks I e1 e2=>?_;.obtain⟨b,Q,A,_,_,U,_⟩:=G.ow k ws e1;rw[e2]at A;cases A;rw[inl y g,f]at U;cases U
    .obtain⟨b,Q,A,_,_,U,_⟩:=G.dd.od k ks I e1;rw[e2]at A;cases A;rw[inl y g,f]at U;cases U
   refine⟨m.set j (.va (.id x)),p,⟨x,r,wb,[wf]⟩,[r],⟨R3.set (by simp only[RW]),λy g=>⟨by rw[inl y g];exact S,by rw[inl y g];exact G.rb.base.free f⟩,C,i,n,[u],rfl,hB▸a5,aj,rb.keep k2,P,.one (rf.keep k2)⟩,?_⟩;have d:=d x r;have k3:=A.f.trans k2;cases et:t (m.set j (.va (.id x))) ⟨x,r,wb,[wf]⟩with|rt w s'=>rw[et]at d;have d:=d;rw[d]at q;obtain⟨I,e,q⟩:=show∃I,w=.lst I/\ajZ B D F I from q;exact⟨I,e,λa Q H3 F3 rb k4=>q a Q H3 F3 (rb.box rfl rfl) (k3.trans k4)⟩|ex c σ'=>rw[et]at d;obtain⟨d,hl⟩:=d;rw[d]at q;show B.xp c (List.replicate σ'.length .no) p;rw[hl];exact B.mono c _ F p k3 q|nx _ _|bk _ _|ct _ _|bad=>rw[et]at d;exact d.elim
  .exact(q).elim
 .exact(q).elim
set_option tactic.hygienic false
end
section
variable{X:Cx}{B:Bx}{l u:Option Expr}{ta:EF}{tl tu:Ws->Res (Option Int)}{e:Expr}{es:List Expr}{tas:AF}{p p2 pos:Pos}{f:Addr}{fd:FuncData}{ps:List Str}{ds:List Value}{k n j:Nat}{fn:List VW->Res VW}{x:Str}
def anW(M:X.K=B.K)(A:PE X e (lo B ta))(G:PO X l (loO B tl))(y:PO X u (loO B tu)):PE X (.Subscript e (.Slice l u none p2) pos) (loL B (WL.lOf (WL.eSl ta tl tu))):=PE.imp (qI (aeN M) A G y) λK H Q g=>by
 refine dU g λb F R q=>?_;have q:=Rq.bind (by
   have:WL.lOf (WL.eSl ta tl tu) b=(ta b).bind λx=>((tl b).bind λl=>(tu b).bind λh=>WL.oSl x l h).bind WL.asL:=by show((ta b).bind _).bind _=_;cases ta b<;>rfl
   rw[<-this];exact q);refine eh b F R (Rq.mono (av.refl _) q λx o v O I D m J=>?_);have o:=Rq.bind (by
  have:((tl b).bind λl=>(tu b).bind λh=>WL.oSl x l h).bind WL.asL=(tl b).bind λl=>((tu b).bind λh=>WL.oSl x l h).bind WL.asL:=by cases tl b<;>rfl
  rw[<-this];exact o);refine eh b I D (Rq.mono m.f o λlo d S C R2 i=>?_);have d:=Rq.bind (show Rq B b F ((tu b).bind λh=>(WL.oSl x lo h).bind WL.asL) _ from by
   have:((tu b).bind λh=>WL.oSl x lo h).bind WL.asL=(tu b).bind λh=>(WL.oSl x lo h).bind WL.asL:=by cases tu b<;>rfl
   rw[<-this];exact d);refine eh b C R2 (Rq.mono (m.trans i).f d λt c P T s r=>?_);cases x with|lst xs=>obtain⟨a,z,rfl,N,E⟩:=(J.keep i.f).keep r.f;exact⟨a,z,rfl,s.rb.sub.seq N,λp w=>ajP s ((m.trans i).trans r) (E.cut lo t) w c⟩|tup xs=>refine(show False from ?_).elim;have:Rq B b F ((WL.oSl (.tup xs) lo t).bind WL.asL) _:=c;unfold WL.oSl at this;dsimp only at this;split at this<;>exact this|_=>exact(show False from c).elim
def clO(P:B.K=X.K)(hr:Room j X.A)(hx:XW X B)(C:Cal X.prog X.w X.K X.mg X.base (CXX X.prog X.w) k x ps ds (spO X.K n fn))(ha:PA X (e::es) (loA B tas))(hk:k<=j:=by decide)(hn:∀d ws,tas d=.ok ws->ws.length=n:=by repeat first|exact iu|apply de)(hg:Gl X x:=by rfl)(I:Dbg x:=by decide)(he:SE X e es:=by rfl)(N:BT X pos es:=by rfl):PE X (.Call (.Name x p) (e::es) [] pos) (loL B (WL.lOf (WL.dk fn tas))):=by obtain⟨f,fd,G,hm,hq,b,_⟩:=C;refine PE.imp (qK G (hr.mono hk) hg hm hq b .nil ha I he N) λm H Q⟨d,F,R,q⟩=>⟨d,F,R,?_⟩;have q:Rq B d F (((tas d).bind fn).bind WL.asL) _:=q;cases y:tas d with|bad|ex c=>rw[y]at q;exact q|ok ws=>
 rw[y]at q;have q:Rq B d F ((fn ws).bind WL.asL) _:=q;intro vs H1 F1 h Y r1;rw[ar2,<-P];refine⟨λC r v=>∃z g c,C=.ref z/\RS B d m g v/\B.xp c d g/\XR B.K g c z r,⟨F1,ws,h.rb.sub,r1,hn d ws y,?_⟩,λi s e C r T H' t⟨z,g,c,ec,R2,xp,K⟩=>?_⟩;.cases A:fn ws with
 |bad=>rw[A]at q;exact q.elim|ok w=>rw[A]at q;cases w with|lst xs=>refine⟨xs,rfl,λa us v g o E J fr hF O M r2=>?_⟩;obtain⟨U,R2⟩:=h.ext3 o E J fr;refine q a us v g R2 (Y.trans U) hF (h.rb.base.free O) M r2 λj D ej hv=>?_;obtain⟨b,zs,S,_,_,Z,_⟩:=h.ow j D ej;rw[hv]at S;cases S;rw[O]at Z;cases Z|_=>exact(show False from q).elim
 |ex c=>rw[A]at q;intro C r v g o E J fr K;obtain⟨U,R2⟩:=h.ext3 o E J fr;exact⟨C,g,c,rfl,R2,B.mono c d F g (Y.f.trans o) q,K⟩
 .cases ec;exact hx i m H' s d g c R2 xp e C r (some T) _ t (by rw[<-P];exact K)
end
end WS
set_option autoImplicit true
set_option relaxedAutoImplicit true
namespace WS
open PySem PySem.Spec PyProof.Rows L2
open WL(Res Sl Ws EF TF AF LF GF GsF SF Out OX RF Rn AXF)
structure NewT(K:W.Frag)(H0 F' H':Hp)(z:Str)(a p:Addr)(us:List V):Prop where
 fa:F' a=none
 ha:H0 a=none
 fp:F' p=none
 hp:H0 p=none
 ne:p≠a
 la:H' a=some (.lst us)tp:H' p=some (.tup [.str z,.ref a])
def OqT(B:Bx)(D:Ends)(F:Hp)(j:Nat)(z:Str):Out->Prop|.bk σ=>∃f,σ[j]?=some (.ow f)/\∀a p e d b,RB B b d->av F b->NewT B.K B.H0 b d z a p e->RWs B.K b f e->D.rt (.ref p) d|.rt w=>∀v d b,RB B b d->av F b->RW B.K b w v->D.rt v d|.ex c σ'=>B.xp c σ' F|_=>False
theorem OqT.mono{B D F d j z}(k:av F d){o}(h:OqT B D F j z o):OqT B D d j z o:=by cases o with|bk σ=>obtain⟨g,e,h⟩:=h;exact⟨g,e,λa p i f G b s=>h a p _ _ G b (k.trans s)⟩|rt w=>exact λv f G b s=>h v _ G b (k.trans s)|ex c σ=>exact B.mono c σ F _ k h|_=>exact h
def aiV(B:Bx)(j:Nat)(z:Str)(t:SF):TS:=λD a H=>∃b F,RS B b a F H/\OqT B D F j z (t b)
section
variable{X:Cx}{B:Bx}{st ret:Stmt}{rest:List Stmt}{t1 t2:SF}{tt:TF}{c:Expr}{pos:Pos}{j:Nat}{z:Str}
def vl(f:PS X st (loS B t1))(i:PSs X rest (aiV B j z t2)):PSs X (st::rest) (aiV B j z (WL.aaK t1 t2)):=PSs.imp (aT f i) λD h H⟨b,F,R,q⟩=>by refine⟨b,F,R,?_⟩;unfold WL.aaK at q;cases e:t1 b with|nx σ'=>rw[e]at q;exact λa l g d k=>⟨_,g,d,OqT.mono k q⟩|bk σ'|ct σ'=>rw[e]at q;exact(q).elim|rt w|ex c σ'|bad=>rw[e]at q;exact q
def aka(n:PT X c (loT B tt))(d:PS X ret (aoc (ap7 (gR (tC (.str z)) (gR (eF j) xE)))))(h:PSs X rest (aiV B j z t2)):PSs X (.If c [ret] [] pos::rest) (aiV B j z (WL.aos tt t2)):=PSs.imp (aT (ab3 n (cT d) vN) h) λD u H⟨i,F,R,q⟩=>by refine⟨i,F,R,?_⟩;unfold WL.aos at q;cases e:tt i with|bad|ex c=>rw[e]at q;exact q|ok b=>rw[e]at q;intro y k f l;cases b with|false=>exact⟨i,k,f,OqT.mono l.f q⟩|true=>
 obtain⟨v,r,q⟩:=q;obtain⟨a,o,w,h,x,t,s⟩:=f.ow j v r;refine⟨.ref a,w,(by decide:(2:Nat)<=sizeLine),λp g=>?_⟩;have m:p≠a:=λz=>by grind
 exact q a p o _ k (f.ajO g _).rb l.f ⟨h,x,f.rb.sub.free g,f.rb.base.free g,m,by rw[ag (arz m)];exact t,aj⟩ s
def ahj(h:PSs X rest (loS B t1)):PSs X rest (aiV B j z (WL.aaK t1 WL.lT)):=PSs.imp h λD b H⟨a,F,R,q⟩=>by refine⟨a,F,R,?_⟩;unfold WL.aaK at q;cases e:t1 a with|nx σ'|bk σ'|ct σ'=>rw[e]at q;exact(q).elim|rt w|ex c σ'|bad=>rw[e]at q;exact q
end
def spT(K:W.Frag)(n j:Nat)(z:Str)(g:List VW->Out):Sp:=λf H Q _=>∃F ws,av F H/\RWs K F ws f/\ws.length=n/\match g ws with|.bk σ=>∃e,σ[j]?=some (.ow e)/\∀a p d c b,av F b->av b c->av H c->(∀a o,b a=some o->F a=some o\/H a=none/\NF o)->NewT K H b c z a p d->RWs K b e d->Q (.ref p) c|.rt w=>∀v c b,av F b->av b c->av H c->(∀a o,b a=some o->F a=some o\/H a=none/\NF o)->RW K b w v->Q v c|_=>False
section
variable{P:Program}{w:World}{K:W.Frag}{mg:Str->Option Value}{base:Heap}
def ajh{x b st f I N ps k m n j z}{g:List VW->Out}(t)(U:Fun K x b st f I)(S:FnScope N ps (af st))(M:N.length=n)(l:ps.length=m)(O:WL.goT n t=g)(Y:ps.length<=N.length)(h:∀i A d s H E B,B.K=K->Room k (A.deeper (envOfC b (af st) s.heap.objs.size f i))->XW (dG CX0 P w K mg base N b (af st) f i A d s H E).nox B->PassesOwn (model P w) (A.deeper (envOfC b (af st) s.heap.objs.size f i)) (envOfC b (af st) s.heap.objs.size f i) (λ_ _=>False)->PSs (dG CX0 P w K mg base N b (af st) f i A d s H E).nox (aD st) (aiV B j z t)):FnOk P w K mg base CX0 (k+1) f I ps (spT K m j z g):=by subst M l O;refine U.ok S (λR H Q E o=>by obtain⟨F,ws,_,r,G,_⟩:=o;rw[<-r.length];exact G) λi A d s H R Q E hr o=>?_;obtain⟨F,ws,T,r,G,l⟩:=o;refine⟨_,h i A d s H E _ rfl hr (qb λ_ _ _ z=>z) PassesOwn.never,_,F,RS.start T r (by omega),?_⟩;unfold WL.goT at l;cases e:t _ with|rt w=>rw[e]at l;exact λv C D q y u=>l v C D y q.sub q.base q.fr u|bk σ=>rw[e]at l;obtain⟨X,J,l⟩:=l;exact⟨X,J,λa p Z C D q y nt r=>l a p Z C D y q.sub q.base q.fr nt r⟩|nx σ'|ct σ'|ex c σ'|bad=>rw[e]at l;exact l.elim
theorem NewT.rw{K H b H' z a p us xs}(n:NewT K H b H' z a p us)(r:RWs K b xs us):RW K (upd (upd b a (.lst us)) p (.tup [.str z,.ref a])) (.tup [.str z,.lst xs]) (.ref p):=by have c:av (upd b a (.lst us)) (upd _ p (.tup [.str z,.ref a])):=ay (by rw[ag n.ne];exact n.fp) _;exact⟨p,_,rfl,SqT.of aj,_,_,rfl,rfl,_,_,rfl,⟨a,us,rfl,SqL.of (c _ _ aj),(r.keep (ay n.fa _)).keep c⟩,rfl⟩
def NewT.le{K H c H' z a p us}(n:NewT K H c H' z a p us)(s:av c H'):av c (upd (upd c a (.lst us)) p (.tup [.str z,.ref a]))/\av (upd (upd c a (.lst us)) p (.tup [.str z,.ref a])) H':=by
 refine⟨(ay n.fa _).trans (ay (by rw[ag n.ne];exact n.fp) _),λb o e=>?_⟩;by_cases f:b=p;.subst f;rw[aj]at e;cases e;exact n.tp
 .rw[ag f]at e;by_cases d:b=a;.subst d;rw[aj]at e;cases e;exact n.la
  .rw[ag d]at e;exact s b o e
theorem NewT.fr{K H c H' z a p us}{F:Hp}(n:NewT K H c H' z a p us)(fr:∀a o,c a=some o->F a=some o\/H a=none/\NF o):∀b o,(upd (upd c a (.lst us)) p (.tup [.str z,.ref a])) b=some o->F b=some o\/H b=none/\NF o:=λb o e=>by
 by_cases d:b=p;.subst d;rw[aj]at e;cases e;exact .inr ⟨n.hp,trivial⟩
 .rw[ag d]at e;by_cases f:b=a;.subst f;rw[aj]at e;cases e;exact .inr ⟨n.ha,trivial⟩
  .rw[ag f]at e;exact fr b o e
def FnOk.ofT{f h ps k m j z g}(F:FnOk P w K mg base CX0 k f h ps (spT K m j z g)):FnOk P w K mg base CX0 k f h ps (spW K m λws=>WL.aeF j z (g ws)):=F.imp λA H Q E d=>by obtain⟨F,ws,u,x,v,b⟩:=d;refine⟨F,ws,u,x,v,?_⟩;dsimp at b;unfold WL.aeF at b;cases e:g _ with
 |rt w=>rw[e]at b;exact b|bk σ=>rw[e]at b;dsimp at b;cases c:σ[j]? with|none=>rw[c]at b;exact b.elim|some sl=>rw[c]at b;cases sl with|ow xs=>refine⟨xs,c,λa p y i B t o q fr n r=>?_⟩;obtain⟨s,l⟩:=n.le o;exact b _ i _ (t.trans s) l q (n.fr fr) (n.rw r)|_=>exact b.elim
 |_=>rw[e]at b;exact b.elim
theorem Cal.ofT{k nm ps ds m j z g}(C:Cal P w K mg base CX0 k nm ps ds (spT K m j z g)):Cal P w K mg base CX0 k nm ps ds (spW K m λws=>WL.aeF j z (g ws)):=by obtain⟨f,a,G,h⟩:=C;exact⟨f,a,FnOk.ofT G,h⟩
def aji{x d st f U N ps k m n}{O:List VW->Res VW}(t)(Fn:Fun K x d st f U)(S:FnScope N ps (af st))(hn:N.length=n)(i:ps.length=m)(D:WL.run n t=O)(a0:ps.length<=N.length)(h:∀g A b s H E B,B.K=K->Room k (A.deeper (envOfC d (af st) s.heap.objs.size f g))->XW (dG (CXX P w) P w K mg base N d (af st) f g A b s H E) B->PassesOwn (model P w) (dG (CXX P w) P w K mg base N d (af st) f g A b s H E).A (dG (CXX P w) P w K mg base N d (af st) f g A b s H E).env (dG (CXX P w) P w K mg base N d (af st) f g A b s H E).xe->PSs (dG (CXX P w) P w K mg base N d (af st) f g A b s H E) (aD st) (loQ B t)):FnOk P w K mg base (CXX P w) (k+1) f U ps (spO K m O):=by subst hn i D;refine age Fn.ex λoc od kV a1 pm an g ct a2 y lk I=>?_;subst y;refine uD lk I S (λG H Q E p=>by refine kU p λF ws _ r Y _=>?_;rw[<-r.length];exact Y) λA b s H G Q E hr _ p=>?_;refine kU p λF ws sm r Y i=>?_;let X:Bx:=⟨K,H,F,λ_ _ _=>False,λ_ _ _ _ _ h=>h⟩;let Z:Bx:=X.oE (λc _ v=>∀C l o j,av v j->RB X j o->XR K j c C l->E (.ref C) l o) λc σ v F2 s h C l o j u=>h C l o j (s.trans u);refine⟨_,h g A b s H E Z rfl hr (λR a3 H1 s1 σ v c R1 xp e C l T fl t J=>jb t (xp C l H1 v (av.refl _) (R1.rb.box rfl rfl) J)) asU,_,F,(RS.start sm r (by omega)).box (B':=Z) rfl rfl rfl,?_⟩;unfold WL.run at i;cases e:t _ with|rt w=>rw[e]at i;obtain⟨M,rfl,i⟩:=i;exact⟨M,rfl,λa G o j q u h1 h2 h3 h4=>i a G o j u q.sub q.base q.fr h1 h2 h3 h4⟩|ex c σ'=>rw[e]at i;exact λC l o j u q J=>i C l o j u q.sub q.base q.fr J|nx σ'=>rw[e]at i;obtain⟨M,z,_⟩:=i;cases z|bk σ'|ct σ'|bad=>rw[e]at i;exact i.elim
end
section
variable{X:Cx}{B:Bx}{i j n jr k:Nat}{z x y:Str}{g:List VW->Out}{tas:AF}{s:List VW->SF}{e:Expr}{es:List Expr}{ps:List Str}{ds:List Value}{rest:List Stmt}{p pos pos' apos:Pos}
def aet(hB:B.K=X.K)(hr:Room jr X.A)(C:Cal X.prog X.w X.K X.mg X.base CX0 k x ps ds (spT X.K n j z g))(hN:X.N.Nodup)(hi:X.N[i]?=some y)(hy:Loc X.env.scope y)(ha:PA X (e::es) (loA B tas))(hrest:PSs X rest (loM B i [] (s [])))(hk:k<=jr:=by decide)(hn:∀h ws,tas h=.ok ws->ws.length=n:=by repeat first|exact iu|apply de)(hg:Gl X x:=by rfl)(a0:Dbg x:=by decide)(he:SE X e es:=by rfl)(a1:BT X pos es:=by rfl)(hs:swapsWith (.Call (.Name x p) (e::es) [] pos) (some (.Name y pos')) apos.line X.env=pure false:=by rfl)(hf:X.fn y=true\/X.env.scope.names.lookup y=some .local:=by first|exact .inl rfl|exact .inr rfl|assumption):PSs X (.Assign [.Name y pos'] (.Call (.Name x p) (e::es) [] pos) apos::rest) (loS B (WL.abN i j z g tas s)):=by
 obtain⟨f,fd,G,hm,hq,b,_⟩:=C;intro K s0 E H D I⟨h,F,R,q⟩;refine aT (nv hN hi hy (ack G (hr.mono hk) hg hm hq b .nil aiq ha a0 he a1) hs hf) hrest K s0 E H D I ?_;have Q:i<E.length:=by rw[I.len];exact(ari.mp hi).1
 have q:=Oq.ofR q;refine⟨h,F,R,?_⟩;cases ea:tas h with|bad|ex c=>rw[ea]at q;exact q|ok ws=>
 rw[ea]at q;intro vs Y O t g1 r1;rw[ar2,<-hB];have d:Oq B D F (WL.ze i j z (s []) h (g ws)):=q;have P:i<h.length:=by rw[t.len];exact Q
 refine⟨O,ws,t.rb.sub,r1,hn h ws ea,?_⟩;-- what is told,in a small part
 have N:∀(w:VW)(v:V)(Fa Fr m r:Hp),Oq B D F (s [] (h.set i (.va w)))->av O m->av m r->av Y r->(∀a o,m a=some o->O a=some o\/Y a=none/\NF o)->av Fr m->RW B.K Fr w v->Sm B.K m Fa []->(∀a o,Fr a=some o->Fa a=some o\/Y a=none/\NF o)->loM B i [] (s []) D (E.set i (some v)) r:=λw v Fa Fr m r qs k1 k2 Z fr k4 M sm a2=>by
  obtain⟨g2,R2⟩:=t.ext3 k1 k2 Z fr;have R3:RS B h E O r:=t.grow ⟨av.refl _,Z,λ_ _ _ z=>z⟩ ⟨t.rb.sub.trans Z,t.rb.base.trans Z,t.rb.fz0,t.rb.fr⟩;refine⟨h.set i (.va w),m,O,⟨R2.set (M.keep k4),by rw[List.set_set];exact R3.drop i (some v),k1,rfl,Fa,Fr,w,v,ark P,ark Q,k4,M,sm,λa o e=>?_⟩,Oq.mono g1.f qs⟩;rcases a2 a o e with z|z;.exact .inl z
  .exact .inr ⟨t.rb.sub.free z.1,t.rb.base.free z.1,z.2⟩
 cases ef:g ws with
|rt w=>
  rw[ef]at d;have d:Oq B D F (if WL.aZ w=true/\WL.eZ w=[]then s [] (h.set i (.va w))else .bad):=d;by_cases A:WL.aZ w=true/\WL.eZ w=[];.rw[arj A]at d;intro v r m t1 t2 t3 fr M;obtain⟨J,U,ra,T⟩:=small w v A.1 M;rw[A.2]at T;exact N w v J J m r d t1 t2 t3 fr U ra T λa o e=>.inl e
  .rw[arl A]at d;exact(show False from d).elim|bk σ'=>rw[ef]at d;cases e2:σ'[j]? with|none=>unfold WL.ze at d;dsimp only at d;rw[e2]at d;exact(show False from d).elim|some sl=>
   unfold WL.ze at d
   dsimp only at d;rw[e2]at d;cases sl with|ow xs=>
    refine⟨xs,e2,λa p us r m t1 t2 t3 fr u M=>?_⟩;have d:Oq B D F (if WL.bI xs=true/\WL.cy xs=[]then s [] (h.set i (.va (.tup [.str z,.lst xs])))else .bad):=d;by_cases A:WL.bI xs=true/\WL.cy xs=[]
    .rw[arj A]at d;obtain⟨J,U,ra,T⟩:=xK xs us A.1 M;rw[A.2]at T;obtain⟨k1,k2⟩:=u.le t2;have na:∀b,m b=none->J b=none:=λb hb=>by cases e:J b with|none=>rfl|some o=>rw[U b o e]at hb;cases hb
     have S:NewT B.K Y J r z a p us:=⟨na a u.fa,u.ha,na p u.fp,u.hp,u.ne,u.la,u.tp⟩;refine N _ _ J _ _ r d (t1.trans k1) k2 t3 (u.fr fr) (λb o e=>?_) (S.rw ra) (λb vs e=>?_) λb o e=>?_
     .by_cases b1:b=p;.subst b1;rw[aj]at e⊢;exact e
      .rw[ag b1]at e⊢;by_cases b2:b=a;.subst b2;rw[aj]at e⊢;exact e
       .rw[ag b2]at e⊢;exact U b o e
     .obtain⟨l,hl,_⟩:=T b vs e;cases hl
     .exact S.fr (F:=J) (λ_ _ e=>.inl e) b o e
    .rw[arl A]at d;exact(show False from d).elim|_=>exact(show False from d).elim
|nx _|ct _|ex _ _|bad=>rw[ef]at d;exact(show False from d).elim
end
end WS
set_option autoImplicit true
set_option relaxedAutoImplicit true
namespace WS
open PySem PySem.Spec PyProof.Rows L2
open WL(Res Sl Ws EF TF AF LF GF GsF SF Out OX RF Rn AXF)
section
variable{P:Program}{w:World}{K:W.Frag}{mg:Str->Option Value}{base:Heap}{nm z:Str}{st:Stmt}{N ps:List Str}{k m n j:Nat}{fn:List VW->Res VW}{g:List VW->Out}
def AtD.dQ(D:AtD K nm st)(p:MgA K mg)(t)(S:FnScope N ps (af st))(h:∀{e f A d s H E B},B.K=K->Room k (A.deeper (envOfC nm (af st) s.heap.objs.size f e))->XW (dG (CXX P w) P w K mg base N nm (af st) f e A d s H E) B->PSs (dG (CXX P w) P w K mg base N nm (af st) f e A d s H E) (aD st) (loQ B t))(v:BdA nm ps st:=by intro _ _ _ _ _ _ u h;exact u6 (by intros;rfl) u h)(o:N.length=n:=by rfl)(q:ps.length=m:=by rfl)(l:WL.run n t=fn:=by rfl)(i:ps.length<=N.length:=by decide):Cal P w K mg base (CXX P w) (k+1) nm ps [] (spO K m fn):=D.cal p v λ_ _ r=>aji t r S o q l i λ_ _ _ _ _ _ _ a b c _=>h a b c
def AtD.dT(D:AtD K nm st)(o:MgA K mg)(t)(S:FnScope N ps (af st))(h:∀{d f A c s H E B},B.K=K->Room k (A.deeper (envOfC nm (af st) s.heap.objs.size f d))->PSs (dG CX0 P w K mg base N nm (af st) f d A c s H E).nox (aD st) (aiV B j z t))(r:BdA nm ps st:=by intro _ _ _ _ _ _ u h;exact u6 (by intros;rfl) u h)(l:N.length=n:=by rfl)(p:ps.length=m:=by rfl)(i:WL.goT n t=g:=by rfl)(e:ps.length<=N.length:=by decide):Cal P w K mg base CX0 (k+1) nm ps [] (spT K m j z g):=D.cal o r λ_ _ q=>ajh t q S l p i e λ_ _ _ _ _ _ _ a b _ _=>h a b
end
section
variable{X:Cx}{B:Bx}{C:Addr}{j jr:Nat}{e:Expr}{es:List Expr}{tas:AF}{ps:List Str}{pos cpos:Pos}
def acC{d a}:∀c s w b,WL.gU j d a c s≠.rt w b:=λc s w b h=>by
 unfold WL.gU at h;split at h
 .split at h
  .split at h;.unfold WL.ofM at h;split at h<;>cases h
   .cases h
  .cases h
 .cases h
def aqF{l k a x rest t p c}(r:B.K=X.K)(A:Room jr X.A)(z:XW X B)(v:X.N.Nodup)(D:X.N[j]?=some a)(f:Loc X.env.scope a)(M:Mk X.K C l)(s:W.nsIn X.K mainGlobals (Str.ofString "Run")=some (some (.ref C)))(h:Cls X.K C/\bO X.K C "book"/\bO X.K C "floors")(G:am6 X.prog X.w X.K X.mg X.base k l ps (anf X.K))(w:X.mg x=some (.ref C))(E:PA X (e::es) (loA B tas))(u:∀d,d.K=X.K->XW X d->PSs X rest (al7 d t))(m:k+1<=jr:=by decide)(n:Gl X x:=by rfl)(g:Dbg x:=by decide)(o:SE X e es:=by rfl)(i:BT X cpos es:=by rfl)(y:swapsWith (.Call (.Name x p) (e::es) [] cpos) (some (.Name a c)) pos.line X.env=pure false:=by rfl)(q:X.fn a=true\/X.env.scope.names.lookup a=some .local:=by first|exact .inl rfl|exact .inr rfl|assumption):PSs X (.Assign [.Name a c] (.Call (.Name x p) (e::es) [] cpos) pos::rest) (loQ B (WL.i3 j tas t)):=by exact gb G λH F b=>y6 r z s h (nv v D f (xZ M F (A.mono m) n w b .nil E g o i) y q) u
end
noncomputable def rmK:List V->List (Key×V)|[a,b,c]=>[(.inr "left",a),(.inr "at",b),(.inr "cells",c)]|_=>[]
structure RR(B:Bx)(z:Addr)(j:Nat)(σ:Ws)(σV:L2.St)(F H:Hp):Prop where
 rs:RS B (σ.set j .no) σV F H
 zs:σV[j]?=some (some (.ref z))nf:F z=none
 n0:B.H0 z=none
 apd:∀(k:Nat)(ks us:List VW),(σ.set j .no)[k]?=some (.od ks us)->σV[k]?≠some (some (.ref z))rm:∃st vs,σ[j]?=some (.ow st)/\vs.length=3/\H z=some (.dK (rmK vs))/\RWs B.K F st vs
section
variable{B:Bx}{z:Addr}{j:Nat}{σ:Ws}{σV:L2.St}{F H:Hp}
def alJ{i j sl}(d:i≠j)(b:¬IsO sl){k}{ks us:List VW}(q:((σ.set i sl).set j .no)[k]?=some (.od ks us)):i≠k/\(σ.set j .no)[k]?=some (.od ks us):=by
 rw[List.set_comm _ _ d]at q;have a:i≠k:=λe=>by
  subst e;by_cases c:i<(σ.set j .no).length;.rw[ark c]at q;cases q;exact b trivial
  .rw[List.getElem?_eq_none (by grind)]at q;cases q
 rw[arh a]at q;exact⟨a,q⟩
theorem RR.set(R:RR B z j σ σV F H){i w v}(a:i≠j)(hw:RW B.K F w v):RR B z j (σ.set i (.va w)) (σV.set i (some v)) F H:=by refine kU R.rm λst f e g d r=>?_;exact⟨by rw[List.set_comm _ _ a];exact R.rs.set hw,by rw[arh a];exact R.zs,R.nf,R.n0,λk h b q=>by obtain⟨c,q⟩:=alJ (sl:=.va w) a (λz=>z) q;rw[arh c];exact R.apd k _ b q,st,f,by grind,g,d,r⟩
def RR.own(R:RR B z j σ σV F H){i}{ws:List VW}(a:i≠j)(e:σ[i]?=some (.ow ws)):(σ.set j .no)[i]?=some (.ow ws):=by grind
end
end WS
namespace WL
open PySem
section
variable{α β:Type}
@[simp]def aY(a)(f:α->Res β):(Res.ok a).bind f=f a:=(rfl)
@[simp]def apP(c)(f:α->Res β):(Res.ex c).bind f=.ex c:=(rfl)
@[simp]def anJ(p:Prop)[Decidable p](a b:Res α)(f:α->Res β):(if p then a else b).bind f=if p then a.bind f else b.bind f:=by split<;>rfl
@[simp]def cV(σ)(a)(f:α->Out):ofR σ (.ok a) f=f a:=(rfl)
@[simp]def aql(σ)(c)(f):ofR σ (.ex c:Res α) f=.ex c σ:=(rfl)
@[simp]def aoY(σ)(f):ofR σ (.bad:Res α) f=.bad:=(rfl)
@[simp]def aoX(σ)(p)[Decidable p](a b)(f:α->Out):ofR σ (if p then a else b) f=if p then ofR σ a f else ofR σ b f:=by grind
end
@[simp]def aaN{α:Type}(a)(l:List α):(a::l)[0]?=some a:=(rfl)
@[simp]def aaM{α:Type}(a)(l:List α)(n):(a::l)[n+1]?=l[n]?:=(rfl)
noncomputable def apr:Option Sl->Res W|some (.va w)=>.ok w|_=>.bad
@[simp]def ed(w):apr (some (.va w))=.ok w:=(rfl)
@[simp]def ee(i:Nat)(σ:Ws):aq i σ=apr σ[i]?:=by unfold aq apr;split<;>simp_all
@[simp]def afQ(w)(σ):eC w σ=.ok w:=(rfl)
@[simp]def jX(r)(a b)(σ):eOp r a b σ=(a σ).bind λx=>(b σ).bind λy=>r x y:=(rfl)
@[simp]def aqx(r)(a)(σ):eUn r a σ=(a σ).bind r:=(rfl)
noncomputable def chB(z:W)(k:Res W):Res W:=match z with|.bl true=>k|.bl false=>.ok (.bl false)|_=>.bad
@[simp]def aqA(b)(k):chB (.bl b) k=if b=true then k else .ok (.bl false):=by cases b<;>rfl
@[simp]def amN(r d:W->W->Res W)(a b c:EF)(σ:Ws):lJ r d a b c σ=(a σ).bind λx=>(b σ).bind λy=>(r x y).bind λz=>chB z ((c σ).bind λw=>d y w):=by unfold lJ chB;rfl
@[simp]def si(b):toB (.bl b)=.ok b:=(rfl)
@[simp]def abq(e)(σ):tB e σ=(e σ).bind toB:=(rfl)
@[simp]def aol(a b)(σ):abr a b σ=(a σ).bind λx=>if x=true then b σ else .ok false:=by unfold abr;congr 1;funext x;cases x<;>rfl
@[simp]def akC(a b)(σ):tOr a b σ=(a σ).bind λx=>if x=true then .ok true else b σ:=by unfold tOr;congr 1;funext x;cases x<;>rfl
@[simp]def aoe(a)(σ):vv a σ=(a σ).bind λx=>.ok !x:=(rfl)
set_option tactic.hygienic true
@[simp]def ajd(a b)(σ):aaP a b σ=(a σ).bind λx=>(toB x).bind λy=>if y=true then b σ else .ok (.bl false):=by
 unfold aaP;congr 1;funext x;cases x<;>try rfl
 rename_i k;cases k<;>rfl
set_option tactic.hygienic false
@[simp]def apH(a)(σ):amM a σ=(a σ).bind λx=>(toB x).bind λy=>.ok (.bl !y):=by unfold amM;congr 1;funext x;cases x<;>rfl
@[simp]def aqz(t)(a b)(σ):eIf t a b σ=(t σ).bind λx=>if x=true then a σ else b σ:=by unfold eIf;congr 1;funext x;cases x<;>rfl
@[simp]def eg(σ):au σ=.ok []:=(rfl)
@[simp]def dI(e)(a)(σ):ae e a σ=(e σ).bind λx=>(a σ).bind λb=>.ok (x::b):=(rfl)
@[simp]def apG(a)(σ):cQ a σ=(a σ).bind λb=>if b.length<=lim then .ok (.tup b)else .bad:=(rfl)
@[simp]def apI(a)(σ):oC a σ=(a σ).bind λb=>if b.length<=lim then .ok (.lst b)else .bad:=(rfl)
@[simp]def acZ(a)(σ):aft a σ=(a σ).bind λb=>if b.length<=lim then .ok b else .bad:=(rfl)
noncomputable def oZ{α}:Res α->Res α|.ok a=>.ok a|_=>.bad
@[simp]def gG{α}(a:α):oZ (.ok a)=.ok a:=(rfl)
@[simp]def gB(f)(a)(σ):az f a σ=(a σ).bind λws=>oZ (f ws):=by unfold az;congr 1;funext ws;cases f _<;>rfl
@[simp]def adD(f)(a)(σ):dk f a σ=(a σ).bind f:=(rfl)
@[simp]def adE(f)(a)(σ):eBi f a σ=(a σ).bind f:=(rfl)
@[simp]def ajc(T:String)(r:W->List W->Res W)(o:EF)(a:AF)(σ:Ws):rG T r o a σ=(o σ).bind λx=>if oU x==T then(a σ).bind λws=>r x ws else .bad:=(rfl)
@[simp]def ac1(x:Str):oU (.str x)="str":=(rfl)
@[simp]def aqh(σ):pNo σ=.ok none:=(rfl)
noncomputable def toI:W->Res (Option Int)|.int i=>.ok (some i)|_=>.bad
@[simp]def an9(i):toI (.int i)=.ok (some i):=(rfl)
@[simp]def ank(e:EF)(σ:Ws):nz e σ=(e σ).bind toI:=by unfold nz;congr 1
@[simp]def aqy(e)(lo a)(σ):eSl e lo a σ=(e σ).bind λx=>(lo σ).bind λl=>(a σ).bind λh=>oSl x l h:=(rfl)
@[simp]def afh(i j):iN (.int i) (.int j)=.ok (.int (i+j)):=(rfl)
@[simp]def anv(xs ys:List W):iN (.lst xs) (.lst ys)=if xs.length+ys.length<=lim then .ok (.lst (xs++ys))else .bad:=(rfl)
@[simp]def anr(i j):zN (.int i) (.int j)=.ok (.int (i-j)):=(rfl)
def qR(i j):me (.int i) (.int j)=if -2^64<i/\i<2^64\/-2^64<j/\j<2^64 then .ok (.int (i*j))else .bad:=(rfl)
def nK{i}(j)(b:-18446744073709551616<i)(a:i<18446744073709551616):me (.int i) (.int j)=.ok (.int (i*j)):=by rw[qR,arj];exact .inl ⟨by omega,by omega⟩
def alK(i){j}(b:-18446744073709551616<j)(a:j<18446744073709551616):me (.int i) (.int j)=.ok (.int (i*j)):=by rw[qR,arj];exact .inr ⟨by omega,by omega⟩
@[simp]def anu(i j):oDiv (.int i) (.int j)=if 0<j/\j<10^100 then .ok (.int (i/j))else .bad:=(rfl)
@[simp]def ant(i j):oMod (.int i) (.int j)=if 0<j then .ok (.int (i%j))else .bad:=(rfl)
@[simp]def ans(i):pQ (.int i)=.ok (.int (-i)):=(rfl)
@[simp]def ao2(i j):oLt (.int i) (.int j)=.ok (.bl (decide (i<j))):=(rfl)
@[simp]def ao3(i j):oLe (.int i) (.int j)=.ok (.bl (decide (i<=j))):=(rfl)
@[simp]def ao7(i j:Int):oGt (.int i) (.int j)=.ok (.bl (decide (j<i))):=(rfl)
@[simp] def ao9 (i j:Int):oEq (.int i) (.int j)=.ok (.bl (decide (i=j))):=by show Res.ok (W.bl (i==j))=_;rw[ati]
@[simp] theorem ao1 (i j:Int):oNe (.int i) (.int j)=.ok (.bl (!decide (i=j))):=by show Res.ok (W.bl !(i==j))=_;rw[ati]
@[simp] theorem aiH (j ):oEq .non (.int j)=.ok (.bl false):=(rfl)
@[simp]def aqn(a b:Bool):oEq (.bl a) (.bl b)=.ok (.bl (a==b)):=rfl
@[simp]def aqm(a b:Bool):oNe (.bl a) (.bl b)=.ok (.bl (a !=b)):=rfl
@[simp]def ao6(x):oIs x .non=.ok (.bl (iE x)):=(rfl)
@[simp]def ajM(x):nL x .non=.ok (.bl !iE x):=(rfl)
@[simp]def amu:iE .non=true:=(rfl)
@[simp]def amv(i):iE (.int i)=false:=(rfl)
@[simp]def kB(xs)(i):oIx (.lst xs) (.int i)=ofO (atI xs i):=(rfl)
@[simp]def acz(xs)(i):oIx (.tup xs) (.int i)=ofO (atI xs i):=(rfl)
@[simp]def aoZ(xs)(l h):oSl (.lst xs) l h=.ok (.lst (cut xs l h)):=(rfl)
def jm{α}(xs:List α)(k:Nat):atI xs k=xs[k]?:=by
 unfold atI ixN;by_cases h:k<xs.length;.rw[arj (by simp),arj (by omega)];simp
 .rw[arj (by simp),arl (by omega)];simp;omega
@[simp]def apV{α}(xs:List α)(k):atI xs no_index(@OfNat.ofNat Int k _)=xs[k]?:=jm _ k
def ag4{α}(xs:List α){i}(h:0<=i):atI xs i=xs[i.toNat]?:=by have e:=jm xs i.toNat;rwa[Int.toNat_of_nonneg h]at e
@[simp]def af7(xs):lQ [.lst xs]=.ok (.int xs.length):=(rfl)
@[simp]def anK(xs):lQ [.tup xs]=.ok (.int xs.length):=(rfl)
@[simp]def ajU(xs):ir [.lst xs]=.ok (.tup xs):=(rfl)
@[simp]def aea(xs):w9 [.lst xs]=.ok (.lst xs):=(rfl)
@[simp]def apS(b:Bool):aju [.bl b]=.ok (.int (if b then 1 else 0)):=(rfl)
noncomputable def oB(o:Option Bool):Res W:=match o with|some b=>.ok (.bl b)|none=>.bad
@[simp]def apa(b):oB (some b)=.ok (.bl b):=(rfl)
@[simp]def ajV(x:W)(t:String):cK [x,.ty t]=oB (isK x t):=by cases h:isK x t<;>simp[cK,oB,h]
@[simp]def apT(xs):af8 [.lst xs]=oB (allB xs):=rfl
@[simp]def apq(e)(σ):rT e σ=(e σ).bind itemsOf:=(rfl)
def aoB:W->Res (List W)|.int j=>if -2^62<=j/\j<2^62 then .ok (rng 0 j.toNat)else .bad|_=>.bad
@[simp]def xU(j):aoB (.int j)=if -2^62<=j/\j<2^62 then .ok (rng 0 j.toNat)else .bad:=(rfl)
@[simp]def yD(e:EF)(σ:Ws):jd e σ=(e σ).bind aoB:=by unfold jd aoB;congr 1
def aoA:W->W->Res (List W)|.int i,.int j=>if -2^62<=i/\i<2^62/\-2^62<=j/\j<2^62 then .ok (rng i (j-i).toNat)else .bad|_,_=>.bad
@[simp]def anh(i j):aoA (.int i) (.int j)=if -2^62<=i/\i<2^62/\-2^62<=j/\j<2^62 then .ok (rng i (j-i).toNat)else .bad:=(rfl)
@[simp]def anB(e a:EF)(σ:Ws):wy e a σ=(e σ).bind λx=>(a σ).bind λy=>aoA x y:=by unfold wy aoA;congr 1
def ajb:W->Res (List W)|.tup xs=>.ok (fD 0 xs)|.lst xs=>.ok (fD 0 xs)|_=>.bad
@[simp]def amK(xs):ajb (.lst xs)=.ok (fD 0 xs):=(rfl)
@[simp]def anC(e:EF)(σ:Ws):wz e σ=(e σ).bind ajb:=by unfold wz ajb;congr 1
@[simp] def ajJ (lo ) (n ):(rng lo n).length=n:=by simp[rng]
theorem nj (lo ) (n i ) (x ) (h:(rng lo n)[i]?=some x):i<n/\x=.int (lo+i):=by
  have a  := by
    have:=(ari.mp h).1
    simpa using this
  simp only[rng,arL,at6 a] at h
  exact⟨a,(arK h).symm⟩
@[simp]def jS(i)(w)(σ):aA i w σ=.ok (σ.set i (.va w)):=(rfl)
@[simp]def yF(σ):vh [] σ=.ok σ:=(rfl)
@[simp]def pY(g)(b)(w)(r)(σ):di g b (w::r) σ=(oZ (g w σ)).bind λd=>oZ (b r d):=by show(match g w σ with|.ok _=>(match b r _ with|.ok _=>Res.ok _|_=>.bad)|_=>.bad)=_;cases g w σ with|ok a=>simp ;cases b r a<;>rfl|ex c|bad=>rfl
@[simp]def yE(a)(ws)(σ):vg a (.tup ws) σ=a ws σ:=(rfl)
def aqJ(σ:Ws)(i:Nat)(ws:List W)(w:W):Res W->Res Ws
|.ok (.int k)=>match ixN ws.length k with|some j=>.ok (σ.set i (.ow (ws.set j w)))|none=>.bad
|_=>.bad
def aq6(σ:Ws)(i:Nat)(w:W)(r:Res W):Option Sl->Res Ws|some (.ow ws)=>aqJ σ i ws w r|_=>.bad
noncomputable def apt(σ:Ws)(i:Nat):Option Sl->Ws|some (.ow ws)=>σ.set i (.va (.lst ws))|some (.od ks vs)=>σ.set i (.va (.dic ks vs))|_=>σ
@[simp]def aqs(i:Nat)(σ:Ws):frz i σ=apt σ i σ[i]?:=by unfold frz apt;split<;>simp_all
@[simp]def aps(σ)(i)(ws):apt σ i (some (.ow ws))=σ.set i (.va (.lst ws)):=(rfl)
def plR:Res W->Res W|.ok w=>if plain w then .ok w else .bad|_=>.bad
@[simp]def aqg(w):plR (.ok w)=if plain w=true then .ok w else .bad:=(rfl)
@[simp]def apJ(i:Nat)(e:EF)(σ:Ws):anI i e σ=plR (e (frz i σ)):=by unfold anI plR;cases e (frz i σ)<;>rfl
@[simp]def aok(i)(t)(σ):ane i t σ=oZ (t (frz i σ)):=by unfold ane oZ;cases t _<;>rfl
@[simp]def alk(i):plain (.int i)=true:=(rfl)
@[simp]def alj(xs:List W):plain (.tup xs)=jM xs:=(rfl)
@[simp]def ajK:jM []=true:=(rfl)
@[simp]def aii(x:W)(xs:List W):jM (x::xs)=(plain x&&jM xs):=(rfl)
def zC(xs):jM xs=true↔∀x∈xs,plain x=true:=by induction xs with|nil=>simp|cons x xs ih=>simp[ih]
@[simp]def aob(σ:Ws):iZ σ=.ok true:=(rfl)
@[simp]def afu(k)(it)(g)(t)(e)(σ):afv k it g t e σ=(it σ).bind λa=>if a.length<=lim then oZ (bG g t e (List.replicate k .no++σ) a)else .bad:=by unfold afv;congr 1;funext a;cases bG g t e _ _<;>rfl
@[simp]def mj(k)(it)(g)(t)(e)(σ):fZ k it g t e σ=(afv k it g t e σ).bind λa=>.ok (.lst a):=(rfl)
noncomputable def aeP(o:Out)(b:SF):Out:=match o with|.nx σ'=>b σ'|o=>o
@[simp]def g9(σ)(b):aeP (.nx σ) b=b σ:=(rfl)
@[simp]def aop(w)(b):aeP (.rt w) b=.rt w:=(rfl)
@[simp]def ang(p)[Decidable p](x y)(b):aeP (if p then x else y) b=if p then aeP x b else aeP y b:=by grind
@[simp]def gp(a b)(σ):aH a b σ=aeP (a σ) b:=(rfl)
@[simp]def akS(σ):sNx σ=.nx σ:=(rfl)
@[simp]def qA(i)(e)(σ):cP i e σ=ofR σ (e σ) λw=>.nx (σ.set i (.va w)):=(rfl)
@[simp]def xQ(i)(l)(σ):ko i l σ=ofR σ (l σ) λws=>.nx (σ.set i (.ow ws)):=(rfl)
@[simp]def aow(e:EF)(g:GF)(σ:Ws):aox e g σ=ofR σ (e σ) λw=>ofR σ (g w σ) λa=>.nx a:=(rfl)
@[simp]def xS(t)(a b)(σ):sIf t a b σ=ofR σ (t σ) λx=>if x=true then a σ else b σ:=by unfold sIf;congr 1;funext x;cases x<;>rfl
@[simp]def ah8(e)(σ):bf e σ=ofR σ (e σ) λw=>.rt w:=(rfl)
def apX(σ:Ws)(i:Nat)(r:Res W):Option Sl->Out|some (.ow ws)=>ofR σ r λw=>if ws.length<lim then .nx (σ.set i (.ow (ws++[w])))else .bad|_=>.bad
@[simp]def aoy(i:Nat)(e:EF)(σ:Ws):aei i e σ=apX σ i (e σ) σ[i]?:=by unfold aei apX;split<;>simp_all
@[simp]def apW(σ)(i)(r)(ws):apX σ i r (some (.ow ws))=ofR σ r λw=>if ws.length<lim then .nx (σ.set i (.ow (ws++[w])))else .bad:=(rfl)
@[simp]def aot(i)(t)(σ):zt i t σ=t (frz i σ):=(rfl)
@[simp]def abO(it)(g)(b)(σ):pP it g b σ=ofR σ (it σ) λa=>forL g b a σ:=(rfl)
@[simp]def aoq(c)(σ)(b):aeP (.ex c σ) b=.ex c σ:=(rfl)
@[simp]def ajp(d nm)(fs):jk d (.exc nm fs)=pq nm d:=(rfl)
noncomputable def anc(o:Out)(k:W->Ws->Out):Out:=match o with|.ex c σ=>k c σ|o=>o
@[simp]def an7(σ)(k):anc (.nx σ) k=.nx σ:=(rfl)
@[simp]def an8(c)(σ)(k):anc (.ex c σ) k=k c σ:=(rfl)
@[simp]def akR(b:SF)(d:String)(i:Nat)(h:SF)(σ:Ws):sV b d i h σ=anc (b σ) (nY d i h):=by unfold sV anc;rfl
noncomputable def ajv(i:Nat)(o:Out):Out:=match o with|.nx σ2=>.nx (σ2.set i .no)|.rt w=>.rt w|_=>.bad
@[simp]def anM(i:Nat)(σ:Ws):ajv i (.nx σ)=.nx (σ.set i .no):=(rfl)
@[simp]def anD(d:String)(i:Nat)(h:SF)(c:W)(σ:Ws):nY d i h c σ=if jk d c then ajv i (h (σ.set i (.va c)))else .bad:=by unfold nY ajv;rfl
noncomputable def fin:Out->Res W|.rt w=>.ok w|.nx _=>.ok .non|.ex c _=>.ex c|_=>.bad
@[simp]def aqv(w):fin (.rt w)=.ok w:=(rfl)
@[simp]def aqw(c)(σ):fin (.ex c σ)=.ex c:=(rfl)
@[simp]def apw(p:Prop)[Decidable p](x y:Out):fin (if p then x else y)=if p then fin x else fin y:=by split<;>rfl
@[simp]def run_eq(n:Nat)(t:SF)(ws:List W):run n t ws=fin (t (ws.map .va++List.replicate (n-ws.length) .no)):=by unfold run fin;rfl
@[simp]def agO:lim=1000000:=(rfl)
noncomputable def aiO(o:Out)(k:SF):Out:=match o with|.nx σ2=>k σ2|.ct σ2=>k σ2|.bk σ2=>.nx σ2|o=>o
@[simp]def yr(σ)(k):aiO (.nx σ) k=k σ:=(rfl)
@[simp]def anx(w)(k):aiO (.rt w) k=.rt w:=(rfl)
def cA(g)(b)(x)(xs)(σ):forL g b (x::xs) σ=ofR σ (g x σ) λa=>aiO (b a) (forL g b xs):=rfl
@[simp]def anE(g)(b)(σ):forL g b [] σ=.nx σ:=(rfl)
theorem rj{g b}:∀{xs}(P:Nat->Ws->Prop){σ},P 0 σ->(∀i x σ,xs[i]?=some x->P i σ->∃d,g x σ=.ok d/\∃c,b d=.nx c/\P (i+1) c)->∃a,forL g b xs σ=.nx a/\P xs.length a|[],P,σ,h0,_=>⟨σ,rfl,h0⟩|x::xs,P,σ,h0,hs=>by obtain⟨d,j,c,e,l⟩:=hs 0 x σ rfl h0;obtain⟨a,h,k⟩:=rj (xs:=xs) _ l λi y σ m f=>hs (i+1) y σ (by grind) f;exact⟨_,by simp [forL,j,e];exact h,k⟩
theorem wC{g b}:∀{xs}(P:Nat->Ws->Prop)(R:Nat->W->Prop){σ},P 0 σ->(∀i x σ,xs[i]?=some x->P i σ->∃c,g x σ=.ok c/\((∃d,b c=.nx d/\P (i+1) d)\/∃w,b c=.rt w/\R i w))->(∃a,forL g b xs σ=.nx a/\P xs.length a)\/∃i w,i<xs.length/\forL g b xs σ=.rt w/\R i w
|[],P,R,σ,h0,_=>.inl ⟨σ,rfl,h0⟩|x::xs,P,R,σ,h0,hs=>by
 obtain⟨c,f,h⟩:=hs 0 x σ rfl h0;rcases h with⟨d,e,j⟩|⟨w,e,j⟩
 .rcases wC (xs:=xs) _ _ j λi y σ l k=>hs (i+1) y σ (by simpa using l) k with⟨a,e3,h3⟩|⟨i,w,hi,e3,h3⟩;.exact .inl ⟨a,by simp only[forL,f,e,cV];exact e3,h3⟩
  .exact .inr ⟨i+1,w,by simpa using hi,by simp only[forL,f,e,cV];exact e3,h3⟩
 .exact .inr ⟨0,w,by simp,by simp only[forL,f,e,cV],j⟩
theorem ik{g t e σ}{i:Type}{emb f}:∀{xs:List i},(∀x∈xs,∃a,g (emb x) σ=.ok a/\t a=.ok true/\e a=.ok (f x))->bG g t e σ (xs.map emb)=.ok (xs.map f)|[],_=>rfl|x::xs,h=>by obtain⟨a,c,j,d⟩:=h x (by simp);have b:=ik (xs:=xs) λy k=>h y (by grind);simp [bG,c,j,d,b]
end WL
namespace ML
open PySem WL
abbrev S3:=Int×Int×Int
noncomputable def stW(p:S3):W:=.tup [.int p.1,.int p.2.1,.int p.2.2]
noncomputable def spW(p:Int×Int):W:=.tup [.int p.1,.int p.2]
def flW(f:List S3):W:=.tup (f.map stW)
noncomputable def vx(p:S3):Int×Int:=(p.1,p.2.1)
@[simp]def aoW(n:Nat)(i:Int):okD n (.int i)=true:=(rfl)
@[simp]def aoU(n:Nat)(xs:List W):okD n (.tup xs)=lV n xs:=(rfl)
@[simp]def aoV(n:Nat)(xs:List W):okD n (.lst xs)=lV n xs:=(rfl)
@[simp]def anp(n:Nat):lV (n+1) []=true:=(rfl)
@[simp]def acv(n:Nat)(x:W)(xs:List W):lV (n+1) (x::xs)=(okD n x&&lV (n+1) xs):=(rfl)
@[simp]def apD(a b:Str):eqv (.str a) (.str b)=(a==b):=(rfl)
@[simp]def apE(a b:Int):eqv (.int a) (.int b)=(a==b):=(rfl)
@[simp]def apC(a b:List W):eqv (.tup a) (.tup b)=aaO a b:=(rfl)
@[simp]def apA:aaO [] []=true:=(rfl)
@[simp]def apB(x:W)(xs:List W):aaO (x::xs) []=false:=(rfl)
@[simp]def aja(x y:W)(xs ys:List W):aaO (x::xs) (y::ys)=(eqv x y&&aaO xs ys):=(rfl)
@[simp] def aqk (n:Nat) (p:Int×Int):okD (n+1) (spW p)=true:=by simp[spW]
@[simp] theorem aqj (n:Nat) (p:S3):okD (n+1) (stW p)=true:=by simp[stW]
theorem iA (n ):∀ a,(∀ x∈a,okD n x=true)->lV (n+1) a=true
  | [],_=>rfl
  | x::a,h=>by simp;exact⟨h x (by simp),iA n _ λy b=>h y (by grind)⟩
@[simp]def alG(n)(f):okD (n+2) (flW f)=true:=by exact iA _ _ λx a=>by obtain⟨p,_,rfl⟩:=arC.mp a;simp
def amJ(p q):eqv (spW p) (spW q)=decide (p=q):=by obtain⟨a,b⟩:=p;obtain⟨c,d⟩:=q;rw[asn];simp[spW]
@[simp]def agJ(p q):oEq (spW p) (spW q)=.ok (.bl (decide (p=q))):=by have:abH (spW p) (spW q)=false:=rfl;simp[oEq,this,amJ]
@[simp] def anj (p:S3):plain (stW p)=true:=by simp[stW]
@[simp] theorem ab9 (f:List S3):jM (f.map stW)=true:=(zC _).mpr λx a=>by
  obtain⟨p,_,rfl⟩:=arC.mp a
  simp
def alL{f p k}(h0:0<=k)(h:f[k.toNat]?=some p):oIx (flW f) (.int k)=.ok (stW p):=by simp[flW,ag4 _ h0,h]
noncomputable def sfp(p:S3)(m n:Int):Int×Int:=if p.2.2=0 then(p.1+n,p.2.1+m)else if p.2.2=1 then(p.1-m,p.2.1+n)else if p.2.2=2 then(p.1-n,p.2.1-m)else(p.1+m,p.2.1-n)
mutual theorem eqv_refl:∀(n:Nat)(x:W),okD n x=true->eqv x x=true|_,.non,_=>rfl|_,.bl _,_=>by show(_==_)=_;simp|_,.int _,_=>by simp|_,.str _,_=>by simp|_,.ty _,h=>by cases h|n,.tup xs,h=>by exact n7 n xs (by assumption)|n,.lst xs,h=>by exact n7 n xs (by assumption)|_,.dic _ _,h=>by cases h|_,.cls _,h=>by cases h|_,.exc _ _,h=>by cases h|_,.ins _ _,h=>by cases h|_,.id _,h=>by cases h theorem n7:∀(n:Nat)(xs:List W),lV n xs=true->aaO xs xs=true|_,[],_=>rfl|0,_::_,h=>by cases h|n+1,x::xs,h=>by simp only[acv,ary]at h;simp only[aja,ary];exact⟨eqv_refl n x h.1,n7 (n+1) xs h.2⟩end
def yg{x}(h:okD 50 x=true):oNe x x=.ok (.bl false):=by unfold oNe;simp[h,eqv_refl _ x h]
def yh{x:W}(h:okD 50 x=true):oEq x x=.ok (.bl true):=by unfold oEq;simp[h,eqv_refl 50 x h]
theorem toNat_inj{a b:Char}(h:a.toNat=b.toNat):a=b:=Char.ext (UInt32.toNat_inj.mp h)
@[simp]def tZ(a b):(Str.ofString a=Str.ofString b)=(a=b):=by
 apply propext;constructor
 .intro h;rw[atN,atN]at h;have c:a.toList.map Char.toNat=b.toList.map Char.toNat:=by grind
  exact String.toList_inj.mp (List.map_inj_right (λ_ _=>toNat_inj)|>.mp c)
 .intro h;rw[h]
@[simp]def agG(a b):(Str.ofString a==Str.ofString b)=(a==b):=by rw[asn];simp
def ajo(c:Char):c.toNat<0x110000:=by have h:=c.valid;have a:c.toNat=c.val.toNat:=rfl;omega
@[simp]def aiB(n)(a):okD n (.str (Str.ofString a))=true:=by show(Str.ofString a).cps.all _=true;simp only[atN];simp only[List.all_toArray,List.all_map,arV,Function.comp,asV];intro c _;exact ajo c
@[simp] def ao8 (a b:Str):oEq (.str a) (.str b)=.ok (.bl (decide (a=b))):=by show Res.ok (W.bl (a==b))=_;rw[ati]
@[simp] theorem ao0 (a b:Str):oNe (.str a) (.str b)=.ok (.bl (!decide (a=b))):=by show Res.ok (W.bl !(a==b))=_;rw[ati]
theorem i7 (x ) (ys ):oIn x (.tup ys)=if okD 50 x&&lV 51 ys then .ok (.bl (f9 x ys)) else .bad:=(rfl)
@[simp] def ajY (x:W):f9 x []=false:=by simp[f9]
@[simp] theorem ajw (x y:W) (ys:List W):f9 x (y::ys)=(eqv y x || f9 x ys):=by simp[f9]
theorem aiG (xs:List W) (n:Int) (k:Nat) (hk:xs.length=k) (h0:0<k):∃ x∈xs,oIx (.lst xs) (.int (n%k))=.ok x:=by
  have a:=Int.emod_nonneg n (b:=(k:Int)) (by omega)
  have b:=Int.emod_lt_of_pos n (b:=(k:Int)) (by omega)
  have c:(n%(k:Int)).toNat<xs.length:=by omega
  exact⟨xs[(n%(k:Int)).toNat],asy c,by rw[kB,ag4 _ a,art c];rfl⟩
def acy{ws:List String}(n:Int)(k:Nat)(b:ws.length=k)(a:0<k):∃w∈ws,oIx (.lst (ws.map λ(w:String)=>.str (Str.ofString w))) (.int (n%k))=.ok (.str w):=by obtain⟨x,c,e⟩:=aiG (ws.map λ(w:String)=>.str (Str.ofString w)) n k (by simp[b]) a;obtain⟨w,hw,rfl⟩:=arC.mp c;exact⟨w,hw,e⟩
noncomputable def onW:Option Nat->W|none=>.non|some k=>.int k
@[simp]def ano:onW none=.non:=(rfl)
@[simp]def anm(k):onW (some k)=.int k:=(rfl)
noncomputable def x6(n:Nat):Int:=((n%36%6:Nat):Int)-3
inductive What where|none|any|same|left|about|right|partner|opposite
inductive Lone where|head|side|lefts|rights|inward|outward|sideways
noncomputable def What.w:What->String|.none=>"none"|.any=>"any"|.same=>"same"|.left=>"left"|.about=>"about"|.right=>"right"|.partner=>"partner"|.opposite=>"opposite"
noncomputable def Lone.w:Lone->String|.head=>"head"|.side=>"side"|.lefts=>"lefts"|.rights=>"rights"|.inward=>"inward"|.outward=>"outward"|.sideways=>"sideways"
inductive Tst where|lone(l:Lone)|at(a r:Int)(w:What)|inner(n:Int)
def Tst.W:Tst->WL.W|.lone l=>.tup [.str l.w]|.at a r w=>.tup [.str "at",.int a,.int r,.str w.w]|.inner n=>.tup [.str "inner",.int n]
def tsW(a:Bool)(t:Tst):WL.W:=if a then .tup [.str "not",t.W]else t.W
noncomputable def far(s:Int×Int):Int:=if(if s.2<0 then -s.2 else s.2)>if s.1<0 then -s.1 else s.1 then if s.2<0 then -s.2 else s.2 else if s.1<0 then -s.1 else s.1
inductive Go where|ahead|back|left|right
inductive Tn where|left|right|about
noncomputable def Go.w:Go->String|.ahead=>"ahead"|.back=>"back"|.left=>"left"|.right=>"right"
noncomputable def Tn.w:Tn->String|.left=>"left"|.right=>"right"|.about=>"about"
inductive Stp where|go(g:Go)(n:Int)|turn(t:Tn)
def Stp.W:Stp->WL.W|.go g n=>.tup [.str g.w,.int n]|.turn t=>.tup [.str "turn",.str t.w]
def Stp.Ok:Stp->Prop|.go _ n=>1<=n/\n<=9|.turn _=>True
structure Rl where ts:List (Bool×Tst)ss:Option (List Stp)
def tsL(ts:List (Bool×Tst)):WL.W:=.tup (ts.map λp=>tsW p.1 p.2)
def ssW:Option (List Stp)->WL.W|none=>.tup [.tup [.str "stay"]]|some l=>.tup (l.map Stp.W)
def Rl.W(r:Rl):WL.W:=.tup [tsL r.ts,ssW r.ss]
def clW(c:List Rl):WL.W:=.lst (c.map Rl.W)
@[simp]def ao5(r:Rl):oIx r.W (.int 0)=.ok (tsL r.ts):=(rfl)
@[simp]def ao4(r:Rl):oIx r.W (.int 1)=.ok (ssW r.ss):=(rfl)
def alM{c}{k:Nat}(a):oIx (clW c) (.int k)=.ok c[k].W:=by simp[clW,jm,a]
def Fac(p:S3):Prop:=0<=p.2.2/\p.2.2<4
noncomputable def zV(w:List S3):S3:=w.getLastD (0,0,0)
def ahC(w:List S3):W:=.lst (w.map stW)
noncomputable def aej{α}:List (Res α)->Res (List α)|[]=>.ok []|r::rs=>r.bind λx=>(aej rs).bind λa=>.ok (x::a)
theorem jZ{g t e σ}{f:Type}{emb h}:∀{xs:List f},(∀x∈xs,∃a,g (emb x) σ=.ok a/\t a=.ok true/\e a=h x)->bG g t e σ (xs.map emb)=aej (xs.map h)|[],_=>rfl|x::xs,hh=>by obtain⟨a,c,i,d⟩:=hh x (by simp);have b:=jZ (xs:=xs) λy j=>hh y (by grind);simp [bG,c,i,d,aej,b]
def uu{w}(h:w≠[]):zV w∈w:=by cases w with|nil=>exact absurd rfl h|cons x xs=>exact List.getLast_mem h
def j1{α}(xs:List α):atI xs (-1)=xs.getLast?:=by unfold atI ixN;cases xs with|nil=>rfl|cons x xs=>
 have h:¬0 <=-1:=by omega
 rw[arl h];have a:-((x::xs).length:Int)<=-1:=by grind
 rw[arj a];simp only[atl,List.getLast?_eq_getElem?];congr 1;omega
end ML
namespace SG
open PySem SF
noncomputable def jn(a:List Nat):List (List Nat)->List Nat|[]=>[]|[x]=>x|x::y::r=>x++(a++jn a (y::r))
def ag5(sub a r:List Nat):Prop:=∀j,j<a.length->sub.isPrefixOf ((a++r).drop j)=false
theorem v8(sub:List Nat)(k:Nat):∀(a r:List Nat)(i free:Nat),ag5 sub a r->lW sub k i free (a++r)=lW sub k (i+a.length) free r
|[],r,i,free,_=>by simp|c::a,r,i,free,h=>by
 have b:=h 0 (by simp);simp only[arJ,asJ]at b;have d:=v8 sub k a r (i+1) free λj e=>by have:=h (j+1) (by simp;omega);simpa using this
 simp only[arJ,lW,b,Bool.and_false,asq,atb,d,arw];congr 1;omega
theorem ye(sub:List Nat)(k:Nat):∀(a r:List Nat)(i free:Nat),i+a.length<=free->lW sub k i free (a++r)=lW sub k (i+a.length) free r
|[],r,i,free,_=>by simp|c::a,r,i,free,h=>by
 have d:Nat.ble free i=false:=by rw[asu];intro z;rw[atm]at z;simp at h;omega
 have b:=ye sub k a r (i+1) free (by simp at h;omega);simp only[arJ,lW,d,Bool.false_and,asq,atb,b,arw];congr 1;omega
def aiF(sub r:List Nat)(i:Nat)(e:sub≠[]):lW sub sub.length i i (sub++r)=i::lW sub sub.length (i+sub.length) (i+sub.length) r:=by cases sub with|nil=>exact absurd rfl e|cons c t=>
 have b:(c::t).isPrefixOf (c::(t++r))=true:=by rw[arX];exact⟨r,rfl⟩
 have d:Nat.ble i i=true:=by rw[atm];exact arn _
 have a:=ye (c::t) (c::t).length t r (i+1) (i+(c::t).length) (by simp;omega);simp only[arJ,lW,b,d,Bool.and_self,asI,a];congr 2;simp;omega
noncomputable def pos(k:Nat):Nat->List (List Nat)->List Nat|_,[]=>[]|_,[_]=>[]|i,p::q::ps=>(i+p.length)::pos k (i+p.length+k) (q::ps)
def Good(sub:List Nat):List (List Nat)->Prop|[]=>True|[p]=>ag5 sub p []|p::q::ps=>ag5 sub p (sub++jn sub (q::ps))/\Good sub (q::ps)
theorem agH{sub:List Nat}(d:sub≠[]):∀(ps:List (List Nat))(i:Nat),Good sub ps->lW sub sub.length i i (jn sub ps)=pos sub.length i ps
|[],i,_=>by simp[jn,lW,pos]|[p],i,h=>by have:=v8 sub sub.length p [] i i h;simp only[ar2]at this;simp only[jn,pos,this,lW]|p::q::ps,i,h=>by
 have free:∀(l:List Nat)(a b:Nat),b<=a->lW sub sub.length a b (sub++l)=lW sub sub.length a a (sub++l):=λl a b g=>by cases sub with|nil=>exact absurd rfl d|cons c t=>
  have f:Nat.ble b a=true:=by rw[atm];exact g
  have k:Nat.ble a a=true:=by rw[atm];exact arn _
  have e:(c::t).isPrefixOf (c::(t++l))=true:=by rw[arX];exact⟨l,rfl⟩
  simp only[arJ,lW,f,k,e,Bool.and_self,asI]
 have j:=v8 sub sub.length p (sub++jn sub (q::ps)) i i h.1;simp only[jn,pos];rw[j,free _ _ _ (by omega),aiF sub _ _ d,agH d (q::ps) (i+p.length+sub.length) h.2]
theorem agZ{sub:List Nat}:∀(ps:List (List Nat))(pre:List Nat),ps≠[]->ag0 (pre++jn sub ps) sub.length pre.length (pos sub.length pre.length ps)=ps.map λp=>⟨p.toArray⟩
|[],pre,h=>absurd rfl h|[p],pre,_=>by simp[jn,pos,ag0]|p::q::ps,pre,_=>by
 have a:=agZ (sub:=sub) (q::ps) (pre++p++sub) (by simp);have e:pre++jn sub (p::q::ps)=pre++p++sub++jn sub (q::ps):=by simp[jn]
 have b:(pre++p++sub).length=pre.length+p.length+sub.length:=by simp;omega
 rw[b]at a;simp only[pos,ag0,arv];rw[asp];refine⟨?_,?_⟩;.rw[e];simp[asv]
 .rw[e];exact a
def aeM{sub:List Nat}(b:sub≠[])(ps:List (List Nat))(a:ps≠[])(h:Good sub ps):fL ⟨(jn sub ps).toArray⟩ ⟨sub.toArray⟩=ps.map λp=>⟨p.toArray⟩:=by have e:=agH b ps 0 h;have c:=agZ (sub:=sub) ps [] a;unfold fL;simp only[Str.length,asb];simp only[aso,asC]at c;match ps,a,h,e,c with|[p],_,_,e,c=>simp only[pos]at e;rw[e];simp[jn]|p::q::ps,_,_,e,c=>rw[e];simp only[pos]at c⊢;exact c
theorem yz(a:List Nat):∀b:List Str,nU a b=jn a (b.map (·.cps.toList))|[]=>rfl|[x]=>rfl|x::y::r=>by have c:=yz a (y::r);simp only[nU,jn,arv]at c⊢;rw[c]
theorem agQ(a:List Nat):∀(xs ys:List (List Nat)),xs≠[]->ys≠[]->jn a (xs++ys)=jn a xs++(a++jn a ys)|[],_,h,_=>absurd rfl h|[x],y::ys,_,_=>rfl|[x],[],_,h=>absurd rfl h|x::z::xs,ys,_,h=>by have b:=agQ a (z::xs) ys (by simp) h;simp only[arJ,jn]at b⊢;rw[b];simp
def no_space{a:List Nat}(h:32∉a)(r:List Nat):ag5 [32] a r:=λj b=>by rw[asu];intro z;rw[arX]at z;rw[asD (by omega),arF b]at z;obtain⟨t,e⟩:=z;simp only[arJ,aso,asp]at e;exact h (e.1▸asy b)
def agL{c:Nat}(f:c≠32){a:List Nat}(h:c∉a){r:List Nat}(i:r=[]\/∃t,r=32::t):ag5 [32,c,32] a r:=λj g=>by
 rw[asu];intro z;rw[arX]at z;rw[asD (by omega),arF g]at z;obtain⟨t,e⟩:=z;simp only[arJ,aso,asp]at e;have b:=e.2;by_cases d:j+1<a.length;.rw[arF d]at b;simp only[arJ,asp]at b;exact h (b.1▸asy d)
 .rw[asX.mpr (by omega)]at b;rcases i with rfl|⟨k,rfl⟩;.simp at b
  .simp at b;exact f b.1
def aaa{a v t:List Nat}(c:32∉a)(b:32∉v)(d:t=[]\/∃u,t=32::u)(h:∃r,a++[32]++r=v++t):a=v:=by obtain⟨r,e⟩:=h;induction a generalizing v with
|nil=>cases v with|nil=>rfl|cons x v=>simp at e;exact absurd (e.1▸arD) b
|cons x a ih=>cases v with|nil=>
  rcases d with rfl|⟨u,rfl⟩;.simp at e
  .simp at e;exact absurd (e.1▸arD) c|cons y v=>simp only[arJ,asp]at e;rw[e.1,ih (v:=v) (λz=>c (arH _ z)) (λz=>b (arH _ z)) e.2]
theorem aa0{a:List Nat}(b:32∉a){r:List Nat}(d:r=[]\/∃t,r=32::t):∀(ws:List (List Nat)),(∀w∈ws,32∉w)->∀j,j<(jn [32] ws).length->(∃q,32::(a++[32])++q=(jn [32] ws++r).drop j)->a∈ws
|[],_,j,hj,_=>by simp[jn]at hj|[w],hw,j,hj,⟨q,e⟩=>by simp only[jn]at hj e;rw[asD (by omega),arF hj]at e;simp only[arJ,asp]at e;exact absurd (e.1▸asy hj) (hw w (by simp))|w::v::ws,hw,j,hj,⟨q,e⟩=>by
  simp only[jn]at hj e;by_cases c:j<w.length;.rw[asv,asD (by omega),arF c]at e;simp only[arJ,asp]at e;exact absurd (e.1▸asy c) (hw w (by simp))
  .have l:(w++([32]++jn [32] (v::ws))++r).drop j=(32::(jn [32] (v::ws)++r)).drop (j-w.length):=by rw[asv,List.drop_append,asX.mpr (by omega)];simp
   rw[l]at e;by_cases k:j=w.length
   .rw[k,Nat.sub_self,asJ]at e;simp only[arJ,asp]at e;have e:=e.2;obtain⟨t,f,i⟩:∃t,jn [32] (v::ws)++r=v++t/\(t=[]\/∃u,t=32::u):=by cases ws with|nil=>exact⟨r,rfl,d⟩|cons u ws=>exact⟨32::(jn [32] (u::ws)++r),by simp[jn],.inr ⟨_,rfl⟩⟩
    rw[f]at e;have:=aaa b (hw v (by simp)) i ⟨q,e⟩;rw[this];simp
   .have g:j-w.length=j-w.length-1+1:=by omega
    rw[g,List.drop_succ_cons]at e;refine arH _ (aa0 b d (v::ws) (λx h=>hw x (arH _ h)) (j-w.length-1) ?_ ⟨q,e⟩);simp at hj;omega
def alQ{ws:List (List Nat)}(h:∀w∈ws,32∉w)(b:[97,110,100]∉ws){r:List Nat}(d:r=[]\/∃t,r=32::t):ag5 [32,97,110,100,32] (jn [32] ws) r:=λj c=>by rw[asu];intro z;rw[arX]at z;obtain⟨q,e⟩:=z;exact b (aa0 (a:=[97,110,100]) (by decide) d ws h j c ⟨q,e⟩)
theorem mh{sub:List Nat}{c:Nat}(a:∃t,sub=c::t):∀(ps:List (List Nat)),(∀p∈ps,∀r,(r=[]\/∃t,r=c::t)->ag5 sub p r)->Good sub ps|[],_=>trivial|[p],h=>h p (by simp) [] (.inl rfl)|p::q::ps,h=>by obtain⟨t,e⟩:=a;exact⟨h p (by simp) _ (.inr ⟨t++jn sub (q::ps),by rw[e];rfl⟩),mh ⟨t,e⟩ (q::ps) λx b=>h x (arH _ b)⟩
end SG
namespace SG
open PySem SF PySem.StrLaws PySem.Builtin PySem.Builtin.Str
def ag3(x y:List Nat)(a:y≠[])(i:Nat):At ⟨x.toArray⟩ ⟨y.toArray⟩ x.length i↔y.isPrefixOf (x.drop i)=true:=by have:=abu ⟨x.toArray⟩ ⟨y.toArray⟩ i (by simpa[Str.length]using a);simpa[At,Str.length]using this
def air(a y b:List Nat)(j:y≠[])(h:ag5 y a (y++b)):Txt.partition ⟨(a++(y++b)).toArray⟩ ⟨y.toArray⟩=(⟨a.toArray⟩,⟨y.toArray⟩,⟨b.toArray⟩):=by
 have c:At ⟨(a++(y++b)).toArray⟩ ⟨y.toArray⟩ (a++(y++b)).length a.length:=by rw[ag3 _ _ j,arX,List.drop_left];exact⟨b,rfl⟩
 have k:(⟨(a++(y++b)).toArray⟩:Str).length=(a++(y++b)).length:=by simp[Str.length]
 have g:=occ_head ⟨(a++(y++b)).toArray⟩ ⟨y.toArray⟩ 1 (arn _);rw[k]at g;unfold Txt.partition;rw[k];rcases g with⟨_,no⟩|⟨i,r,e,f,no⟩;.exact absurd c (no _)
 .rw[e];have l:i=a.length:=by
   rcases Nat.lt_trichotomy i a.length with d|d|d;.have:=h i d;rw[ag3 _ _ j]at f;rw[this]at f;cases f
   .exact d
   .exact absurd c (no _ d)
  subst l;show(strSub _ 0 a.length,_,strSub _ (a.length+_) _)=_;unfold strSub;simp only[Prod.mk.injEq];refine⟨?_,trivial,?_⟩;.congr 1;apply asz.mp;rw[asW];simp[asw]
  .congr 1;apply asz.mp;rw[asW];simp[asw,Str.length];rw[show a.length+(y.length+b.length)-(a.length+y.length)=b.length by omega,List.take_length]
def pw(x y:List Nat)(a:y≠[]):Txt.startswith ⟨x.toArray⟩ ⟨y.toArray⟩=y.isPrefixOf x:=by have:=abu ⟨x.toArray⟩ ⟨y.toArray⟩ 0 (by simpa[Str.length]using a);rw[asn];unfold Txt.startswith;rw[ary,asV];simpa using this
def akJ(a b:Nat)(l:List Nat):Txt.slice ⟨(a::b::l).toArray⟩ (some 2) none=⟨l.toArray⟩:=by
 have e:Txt.slice ⟨(a::b::l).toArray⟩ (some 2) none=sliceText ⟨(a::b::l).toArray⟩ (some ((2:Nat):Int)) (some ((l.length+2:Nat):Int)):=by
  unfold Txt.slice sliceText;have c:(⟨(a::b::l).toArray⟩:Str).length=l.length+2:=by simp[Str.length]
  rw[c,sliceIdx_none_hi];rfl
 rw[e,sliceText_nat _ (by omega) (by simp[Str.length])];simp
def J(a:Str)(ws:List Str):Str:=⟨(nU a.cps.toList ws).toArray⟩
def agc(a:Str)(ws:List Str):J a ws=⟨(jn a.cps.toList (ws.map (·.cps.toList))).toArray⟩:=by unfold J;rw[yz]
def dm(x:Str):(⟨x.cps.toList.toArray⟩:Str)=x:=by cases x;rfl
def vz(a:Str)(b:a.cps.toList≠[])(ws:List Str)(hw:ws≠[])(h:Good a.cps.toList (ws.map (·.cps.toList))):fL (J a ws) a=ws:=by
 have:=aeM b (ws.map (·.cps.toList)) (by simpa using hw) h;rw[dm]at this;rw[agc,this,at3];conv=>rhs;rw[<-List.map_id ws]
 exact List.map_congr_left λx _=>dm x
def xc(a:Str)(xs ys:List Str)(b:xs≠[])(c:ys≠[]):J a (xs++ys)=J a xs++a++J a ys:=by rw[agc,agc,agc,atY,agQ _ _ _ (by simpa using b) (by simpa using c)];show _=(⟨_++_++_⟩:Str);congr 1;apply asz.mp;simp
def vb(a x:Str):J a [x]=x:=dm x
def ap0(a:Str):∀ws:List Str,(J a ws).length<=(ws.map (·.length)).sum+ws.length*a.length:=by intro ws;rw[agc];show(jn _ _).toArray.size<=_;rw[asb];induction ws with|nil=>simp[jn]|cons x ws ih=>cases ws with|nil=>simp[jn,Str.length]|cons y ws=>simp only[arv,jn,ar7,List.sum_cons,arw]at ih⊢;simp only[Str.length,asH]at ih⊢;rw[auN,Nat.one_mul];omega
end SG
namespace K45
open PySem WL
noncomputable def cg:W:=.int 8
noncomputable def kS:W:=.int 200
noncomputable def kR:W:=.tup [.tup [.int 0,.int 1],.tup [.int (-1),.int 0],.tup [.int 0,.int (-1)],.tup [.int 1,.int 0]]
noncomputable def p8:W:=.int 4
noncomputable def eA:W:=.dic [.str "same",.str "left",.str "about",.str "right"] [.int 0,.int 1,.int 2,.int 3]
noncomputable def j0:W:=.tup [.str "inward",.str "outward",.str "sideways"]
noncomputable def iq:W:=.dic [.str "ahead",.str "back",.str "left",.str "right"] [.tup [.int 1,.int 0],.tup [.int (-1),.int 0],.tup [.int 0,.int (-1)],.tup [.int 0,.int 1]]
noncomputable def gH:W:=.int 400
noncomputable def lN:W:=.int 12
noncomputable def lL:W:=.int 6
noncomputable def lM:W:=.int 8
noncomputable def bJ:W:=.int 9
noncomputable def iP:W:=.int 200
noncomputable def iQ:W:=.int 9
noncomputable def rS:W:=.tup [.str "none",.str "any",.str "same",.str "left",.str "about",.str "right",.str "partner",.str "opposite"]
noncomputable def ip:W:=.tup [.str "head",.str "side",.str "lefts",.str "rights",.str "inward",.str "outward",.str "sideways"]
noncomputable def dH:W:=.tup [.str "ahead",.str "back",.str "left",.str "right"]
noncomputable def kQ:W:=.tup [.str "left",.str "right",.str "about"]
noncomputable def u0:W:=.int 60
noncomputable def o5:W:=.int 8
noncomputable def oo:W:=.str "abcdefghijklmnopqrstuvwxyz"
noncomputable def ad8:W:=.tup [.str "times",.str "heads",.str "sides",.str "lefts",.str "rights",.str "inner",.str "couples"]
def su:SF:=aH (sIf (tOr (vv (tB (eBi cK (ae (aq 0) (ae (eC (.ty "str")) au))))) (vv (tB (lJ oLe oLe (eC (.int 1)) (eBi aaC (ae (aq 0) au)) (eC o5))))) (bf (eC (.bl false))) sNx) (bf (aaP (eOp fO (aq 0) (eC ad8)) (eBi af8 (ae (fZ 1 (aqr (aq 0)) (aA 0) iZ (eOp ajN (aq 0) (eC oo))) au))))
def uJ:List W->Res W:=run 1 su
def jR:SF:=sIf (tB (eOp oEq (eBi l3 (ae (aq 3) au)) (aq 0))) (bf (aq 3)) sNx
def mG:SF:=aH (pP (wy (aq 1) (eOp iN (aq 2) (eC (.int 1)))) (aA 3) jR) (bf (eC .non))
def eU:List W->Res W:=run 4 mG
def gi:SF:=aH (cP 3 (az eU (ae (aq 0) (ae (aq 1) (ae (aq 2) au))))) (aH (sIf (tB (eOp oIs (aq 3) (eC .non))) lT sNx) (bf (aq 3)))
def aU:List W->Res W:=run 4 gi
def iV:SF:=aH (sIf (abr (tB (eOp oEq (aq 0) (eC (.str "turn")))) (tB (eOp oIn (aq 1) (eC kQ)))) (bf (cQ (ae (aq 0) (ae (aq 1) au)))) sNx) (aH (sIf (tB (eOp fO (aq 0) (eC dH))) lT sNx) (bf (cQ (ae (aq 0) (ae (az aU (ae (aq 1) (ae (eC (.int 1)) (ae (eC iQ) au)))) au)))))
def cb:List W->Res W:=run 2 iV
def gZ:SF:=aH (sIf (tB (eOp oEq (aq 0) (eC (.str "stay")))) (bf (cQ (ae (cQ (ae (eC (.str "stay")) au)) au))) sNx) (aH (cP 1 (rG "str" fQ (aq 0) (ae (eC (.str " ")) au))) (aH (sIf (tOr (tB (eOp oNe (eOp oMod (eBi lQ (ae (aq 1) au)) (eC (.int 2))) (eC (.int 0)))) (tB (eOp oGt (eBi lQ (ae (aq 1) au)) (eOp me (eC (.int 2)) (eC lM))))) lT sNx) (bf (eBi ir (ae (fZ 1 (zZ (eC (.int 0)) (eBi lQ (ae (aq 1) au))) (aA 0) iZ (az cb (ae (eOp oIx (aq 2) (aq 0)) (ae (eOp oIx (aq 2) (eOp iN (aq 0) (eC (.int 1)))) au)))) au)))))
def dP:List W->Res W:=run 2 gZ
def jx:SF:=aH (sIf (tOr (tB (eOp oNe (eBi lQ (ae (aq 0) au)) (eC (.int 4)))) (tB (eOp fO (eOp oIx (aq 0) (eC (.int 3))) (eC rS)))) lT sNx) (aH (cP 1 (az aU (ae (eOp oIx (aq 0) (eC (.int 1))) (ae (eUn pQ (eC bJ)) (ae (eC bJ) au))))) (aH (cP 2 (az aU (ae (eOp oIx (aq 0) (eC (.int 2))) (ae (eUn pQ (eC bJ)) (ae (eC bJ) au))))) (aH (sIf (abr (tB (eOp oEq (aq 1) (eC (.int 0)))) (tB (eOp oEq (aq 2) (eC (.int 0))))) lT sNx) (bf (cQ (ae (eC (.str "at")) (ae (aq 1) (ae (aq 2) (ae (eOp oIx (aq 0) (eC (.int 3))) au)))))))))
def ic:List W->Res W:=run 3 jx
def g6:SF:=aH (sIf (tB (eOp oNe (eBi lQ (ae (aq 0) au)) (eC (.int 2)))) lT sNx) (bf (cQ (ae (eC (.str "inner")) (ae (az aU (ae (eOp oIx (aq 0) (eC (.int 1))) (ae (eC (.int 0)) (ae (eC iP) au)))) au))))
def ib:List W->Res W:=run 1 g6
def ck:SF:=aH (sIf (tB (eOp oEq (eOp oIx (aq 0) (eC (.int 0))) (eC (.str "at")))) (bf (az ic (ae (aq 0) au))) sNx) (aH (sIf (tB (eOp oEq (eOp oIx (aq 0) (eC (.int 0))) (eC (.str "inner")))) (bf (az ib (ae (aq 0) au))) sNx) (aH (sIf (tOr (tB (eOp oNe (eBi lQ (ae (aq 0) au)) (eC (.int 1)))) (tB (eOp fO (eOp oIx (aq 0) (eC (.int 0))) (eC ip)))) lT sNx) (bf (cQ (ae (eOp oIx (aq 0) (eC (.int 0))) au)))))
def bq:List W->Res W:=run 1 ck
def eM:SF:=aH (cP 1 (rG "str" fQ (aq 0) (ae (eC (.str " ")) au))) (aH (sIf (abr (tB (eOp oGt (eBi lQ (ae (aq 1) au)) (eC (.int 1)))) (tB (eOp oEq (eOp oIx (aq 1) (eC (.int 0))) (eC (.str "not"))))) (bf (cQ (ae (eC (.str "not")) (ae (az bq (ae (eSl (aq 1) (nz (eC (.int 1))) pNo) au)) au)))) sNx) (bf (az bq (ae (aq 1) au))))
def cH:List W->Res W:=run 2 eM
def gY:SF:=aH (cP 1 (rG "str" fQ (aq 0) (ae (eC (.str " and ")) au))) (aH (sIf (tB (eOp oGt (eBi lQ (ae (aq 1) au)) (eC lL))) lT sNx) (bf (eBi ir (ae (fZ 1 (rT (aq 1)) (aA 0) iZ (az cH (ae (aq 0) au))) au))))
def fk:List W->Res W:=run 2 gY
def gh:SF:=aH (sIf (tB (rG "str" gu (aq 0) (ae (eC (.str "> ")) au))) (bf (cQ (ae (cQ au) (ae (az dP (ae (eOp ua (aq 0) (eC (.int 2))) au)) au)))) sNx) (aH (cP 1 (rG "str" uo (aq 0) (ae (eC (.str " > ")) au))) (aH (sIf (tB (eOp oEq (eOp oIx (aq 1) (eC (.int 1))) (eC (.str "")))) lT sNx) (bf (cQ (ae (az fk (ae (eOp oIx (aq 1) (eC (.int 0))) au)) (ae (az dP (ae (eOp oIx (aq 1) (eC (.int 2))) au)) au))))))
def dv:List W->Res W:=run 2 gh
def iW:SF:=aH (sIf (vv (tB (eBi cK (ae (aq 0) (ae (eC (.ty "str")) au))))) lT sNx) (aH (cP 1 (rG "str" fQ (aq 0) (ae (eC (.str " ; ")) au))) (aH (sIf (tB (eOp oGt (eBi lQ (ae (aq 1) au)) (eC lN))) lT sNx) (bf (fZ 1 (rT (aq 1)) (aA 0) iZ (az dv (ae (aq 0) au))))))
def aQ:List W->Res W:=run 2 iW
def yx:SF:=sIf (vv (tB (az uJ (ae (aq 2) au)))) lT sNx
def qo:SF:=sIf (tB (eOp oGt (eBi aaC (ae (aq 1) au)) (eC u0))) lT sNx
def qm:SF:=pP (ajQ 1) (aA 2) yx
def iT:EF:=az aQ (ae (eOp oIx (aq 1) (aq 2)) au)
def yJ:List W->Res W:=aqb qo qm iT
def gj(a:List W->Res W):SF:=aH (sIf (tB (eOp oEq (eOp oIx (aq 0) (eC (.int 0))) (eC (.str "not")))) (bf (eOp iN (oC (ae (eC (.str "not")) au)) (az a (ae (eOp oIx (aq 0) (eC (.int 1))) au)))) sNx) (bf (fZ 1 (rT (aq 0)) (aA 0) iZ (eBi l3 (ae (aq 0) au))))
noncomputable def aR:Nat->List W->Res W|0=>λ_=>.bad|n+1=>run 1 (gj (aR n))
def aO:SF:=aH (sIf (ane 1 (tB (eOp oNe (aq 1) (oC au)))) (aei 1 (eC (.str "and"))) sNx) (zt 1 (ko 1 (anA (aq 1) (az (aR 2) (ae (aq 2) au)))))
def aG:SF:=zt 1 (ko 1 (anA (aq 1) (az (aR 2) (ae (aq 3) au))))
def dW:SF:=aH (ko 1 (aft au)) (aH (pP (rT (eOp oIx (aq 0) (eC (.int 0)))) (aA 2) aO) (aH (aei 1 (eC (.str ">"))) (aH (pP (rT (eOp oIx (aq 0) (eC (.int 1)))) (aA 3) aG) (zt 1 (bf (aq 1))))))
def bT:List W->Res W:=run 4 dW
def ka:SF:=bf (rG "str" lX (eC (.str " ; ")) (ae (fZ 1 (rT (aq 0)) (aA 0) iZ (rG "str" lX (eC (.str " ")) (ae (az bT (ae (aq 0) au)) au))) au))
def cM:List W->Res W:=run 1 ka
def g7:SF:=bf (eOp oMod (eOp me (eOp iN (eOp oMod (aq 0) (eC (.int 2147483647))) (eC (.int 7919))) (eOp iN (eC (.int 48271)) (eOp me (eOp me (eC (.int 69621)) (aq 1)) (aq 1)))) (eC (.int 2147483629)))
def aC:List W->Res W:=run 2 g7
def ph:SF:=aH (cP 1 (eOp oMod (aq 0) (eC (.int 12)))) (aH (cP 0 (eOp oDiv (aq 0) (eC (.int 12)))) (aH (cP 2 (cQ (ae (eOp oIx (oC (ae (eC (.str "head")) (ae (eC (.str "side")) (ae (eC (.str "lefts")) (ae (eC (.str "rights")) (ae (eC (.str "inward")) (ae (eC (.str "outward")) (ae (eC (.str "sideways")) au)))))))) (eOp oMod (aq 0) (eC (.int 7)))) au))) (aH (sIf (tB (eOp oLt (aq 1) (eC (.int 5)))) (aH (cP 3 (eOp zN (eOp oMod (aq 0) (eC (.int 19))) (eC (.int 9)))) (aH (cP 4 (eOp zN (eOp oMod (eOp oDiv (aq 0) (eC (.int 19))) (eC (.int 19))) (eC (.int 9)))) (aH (cP 5 (oC (ae (eC (.str "none")) (ae (eC (.str "any")) (ae (eC (.str "same")) (ae (eC (.str "left")) (ae (eC (.str "about")) (ae (eC (.str "right")) (ae (eC (.str "partner")) (ae (eC (.str "opposite")) au)))))))))) (cP 2 (cQ (ae (eC (.str "at")) (ae (eOp iN (aq 3) (eBi aju (ae (aaP (eOp oEq (aq 3) (eC (.int 0))) (eOp oEq (aq 4) (eC (.int 0)))) au))) (ae (aq 4) (ae (eOp oIx (aq 5) (eOp oMod (eOp oDiv (aq 0) (eC (.int 361))) (eC (.int 8)))) au))))))))) sNx) (aH (sIf (tB (eOp oEq (aq 1) (eC (.int 5)))) (cP 2 (cQ (ae (eC (.str "inner")) (ae (eOp oIx (oC (ae (eOp oMod (aq 0) (eC (.int 5))) (ae (eOp oMod (aq 0) (eC (.int 201))) au))) (eOp oMod (eOp oDiv (aq 0) (eC (.int 201))) (eC (.int 2)))) au)))) sNx) (aH (sIf (tB (eOp oEq (eOp oMod (eOp oDiv (aq 0) (eC (.int 7000))) (eC (.int 3))) (eC (.int 1)))) (cP 2 (cQ (ae (eC (.str "not")) (ae (aq 2) au)))) sNx) (bf (aq 2)))))))
def iD:List W->Res W:=run 6 ph
def cp:SF:=aH (sIf (tB (eOp oEq (eOp oMod (aq 0) (eC (.int 3))) (eC (.int 0)))) (bf (cQ (ae (eC (.str "turn")) (ae (eOp oIx (oC (ae (eC (.str "left")) (ae (eC (.str "right")) (ae (eC (.str "about")) au)))) (eOp oMod (eOp oDiv (aq 0) (eC (.int 3))) (eC (.int 3)))) au)))) sNx) (bf (cQ (ae (eOp oIx (oC (ae (eC (.str "ahead")) (ae (eC (.str "back")) (ae (eC (.str "left")) (ae (eC (.str "right")) au))))) (eOp oMod (eOp oDiv (aq 0) (eC (.int 3))) (eC (.int 4)))) (ae (eOp iN (eC (.int 1)) (eOp oMod (eOp oDiv (aq 0) (eC (.int 12))) (eC (.int 9)))) au))))
def bV:List W->Res W:=run 1 cp
def dO:SF:=aei 3 (az iD (ae (az aC (ae (aq 0) (ae (eOp iN (eOp iN (eOp me (eC (.int 20)) (aq 1)) (eC (.int 1))) (aq 4)) au))) au))
def dJ:SF:=aei 5 (az bV (ae (az aC (ae (aq 0) (ae (eOp iN (eOp iN (eOp me (eC (.int 20)) (aq 1)) (eC (.int 8))) (aq 4)) au))) au))
def iv:SF:=aH (cP 2 (az aC (ae (aq 0) (ae (eOp me (eC (.int 20)) (aq 1)) au)))) (aH (ko 3 (aft au)) (aH (pP (jd (eOp oIx (oC (ae (eC (.int 0)) (ae (eC (.int 1)) (ae (eC (.int 1)) (ae (eC (.int 2)) (ae (eC (.int 3)) (ae (eC (.int 6)) au))))))) (eOp oMod (aq 2) (eC (.int 6))))) (aA 4) dO) (aH (ko 5 (aft au)) (aH (pP (jd (eOp oIx (oC (ae (eC (.int 1)) (ae (eC (.int 1)) (ae (eC (.int 2)) (ae (eC (.int 3)) (ae (eC (.int 8)) au)))))) (eOp oMod (eOp oDiv (aq 2) (eC (.int 6))) (eC (.int 5))))) (aA 4) dJ) (aH (sIf (tB (eOp oEq (eOp oMod (eOp oDiv (aq 2) (eC (.int 30))) (eC (.int 6))) (eC (.int 1)))) (ko 5 (aft (ae (cQ (ae (eC (.str "stay")) au)) au))) sNx) (zt 5 (zt 3 (bf (cQ (ae (eBi ir (ae (aq 3) au)) (ae (eBi ir (ae (aq 5) au)) au)))))))))))
def bt:List W->Res W:=run 6 iv
def eu:SF:=aH (sIf (tB (eOp oLt (aq 1) (eBi lQ (ae (aq 0) au)))) (bf (eOp oIx (aq 0) (aq 1))) sNx) (bf (eC (.int 0)))
def aI:List W->Res W:=run 2 eu
def mH:SF:=aH (agw 1 (ae (eC (.str "spin")) (ae (eC (.str "> turn left")) (ae (eC (.str "rest")) (ae (eC (.str "> stay")) (ae (eC (.str "walk")) (ae (eC (.str "> ahead 1")) (ae (eC (.str "off")) (ae (eC (.str "> back 1")) au))))))))) (aH (dt 1 (eC (.str "lefts > right 2 ; > left 2")) (eC (.str "swap"))) (aH (dt 1 (eC (.str "head > ahead 1 back 1 ; > turn about turn about")) (eC (.str "bow"))) (aH (dt 1 (eC (.str "at 2 0 none > ahead 1 ; > turn right")) (eC (.str "look"))) (aH (dt 1 (eC (.str "inner 2 > back 1 ; > stay")) (eC (.str "near"))) (aH (dt 1 (eC (.str "head and lefts > turn left")) (eC (.str "deaf"))) (aH (dt 1 (eC (.str "> back 9 back 9 back 9")) (eC (.str "far"))) (aH (dt 1 (az cM (ae (fZ 1 (jd (eC (.int 2))) (aA 0) iZ (az bt (ae (az aI (ae (aq 1) (ae (eC (.int 1)) au))) (ae (aq 0) au)))) au)) (eC (.str "wild"))) (aH (dt 1 (az cM (ae (oC (ae (az bt (ae (az aI (ae (aq 0) (ae (eC (.int 2)) au))) (ae (eC (.int 0)) au))) (ae (cQ (ae (cQ au) (ae (cQ (ae (cQ (ae (eC (.str "turn")) (ae (eC (.str "left")) au))) au)) au))) au))) au)) (eC (.str "odd"))) (zt 1 (bf (aq 1)))))))))))
def cI:List W->Res W:=run 2 mH
def cZ:SF:=aH (cP 5 (eOp oMod (eOp iN (eOp oDiv (aq 2) (eC (.int 3))) (eOp me (eC (.int 3)) (aq 4))) (eC (.int 25)))) (aH (cP 6 (eOp iN (eC (.int 1)) (eOp oMod (eOp oDiv (aq 2) (eC (.int 75))) (eC (.int 2))))) (aei 3 (cQ (ae (eOp me (aq 6) (eOp zN (eOp oMod (aq 5) (eC (.int 5))) (eC (.int 2)))) (ae (eOp me (aq 6) (eOp zN (eOp oDiv (aq 5) (eC (.int 5))) (eC (.int 2)))) (ae (eOp oMod (az aC (ae (aq 2) (ae (eOp iN (eC (.int 1)) (aq 4)) au))) (eC (.int 4))) au))))))
def gk:SF:=aH (cP 1 (cQ (ae (cQ (ae (eUn pQ (eC (.int 1))) (ae (eUn pQ (eC (.int 3))) (ae (eC (.int 0)) au)))) (ae (cQ (ae (eC (.int 1)) (ae (eUn pQ (eC (.int 3))) (ae (eC (.int 0)) au)))) (ae (cQ (ae (eC (.int 3)) (ae (eUn pQ (eC (.int 1))) (ae (eC (.int 1)) au)))) (ae (cQ (ae (eC (.int 3)) (ae (eC (.int 1)) (ae (eC (.int 1)) au)))) (ae (cQ (ae (eC (.int 1)) (ae (eC (.int 3)) (ae (eC (.int 2)) au)))) (ae (cQ (ae (eUn pQ (eC (.int 1))) (ae (eC (.int 3)) (ae (eC (.int 2)) au)))) (ae (cQ (ae (eUn pQ (eC (.int 3))) (ae (eC (.int 1)) (ae (eC (.int 3)) au)))) (ae (cQ (ae (eUn pQ (eC (.int 3))) (ae (eUn pQ (eC (.int 1))) (ae (eC (.int 3)) au)))) au)))))))))) (aH (cP 2 (az aC (ae (az aI (ae (aq 0) (ae (eC (.int 0)) au))) (ae (eC (.int 0)) au)))) (aH (sIf (tB (eOp oLt (eOp oMod (aq 2) (eC (.int 3))) (eC (.int 2)))) (bf (aq 1)) sNx) (aH (ko 3 (aft au)) (aH (pP (jd (eC (.int 8))) (aA 4) cZ) (zt 3 (bf (eBi ir (ae (aq 3) au))))))))
def eV:List W->Res W:=run 7 gk
def mI:SF:=aH (cP 0 (oC (ae (eC (.str "spin")) (ae (eC (.str "rest")) (ae (eC (.str "walk")) (ae (eC (.str "off")) (ae (eC (.str "swap")) (ae (eC (.str "bow")) (ae (eC (.str "look")) (ae (eC (.str "near")) (ae (eC (.str "spin")) (ae (eC (.str "rest")) (ae (eC (.str "walk")) (ae (eC (.str "off")) au)))))))))))))) (bf (eOp iN (aq 0) (oC (ae (eC (.str "swap")) (ae (eC (.str "bow")) (ae (eC (.str "look")) (ae (eC (.str "near")) (ae (eC (.str "odd")) (ae (eC (.str "deaf")) (ae (eC (.str "far")) (ae (eC (.str "wild")) au)))))))))))
def ji:List W->Res W:=run 1 mI
def sq:SF:=bf (cQ (ae (eOp oIx (aq 0) (eC (.int 0))) (ae (eOp oIx (aq 0) (eC (.int 1))) au)))
def eT:List W->Res W:=run 1 sq
def bg:SF:=sIf (tB (eOp oEq (az eT (ae (eOp oIx (aq 0) (aq 1)) au)) (az eT (ae (eOp oIx (aq 0) (aq 2)) au)))) (bf (cQ (ae (aq 1) (ae (aq 2) au)))) sNx
def bh:SF:=pP (wy (eOp iN (aq 1) (eC (.int 1))) (eBi lQ (ae (aq 0) au))) (aA 2) bg
def cS:SF:=aH (pP (jd (eBi lQ (ae (aq 0) au))) (aA 1) bh) (bf (eC .non))
def cf:List W->Res W:=run 3 cS
def iy:SF:=aH (cP 1 (az cf (ae (aq 0) au))) (aH (sIf (tB (eOp nL (aq 1) (eC .non))) (kq "Meet" (ae (eOp oIx (aq 1) (eC (.int 0))) (ae (eOp oIx (aq 1) (eC (.int 1))) au))) sNx) (bf (eBi ir (ae (aq 0) au))))
def dz:List W->Res W:=run 2 iy
def fR:SF:=sIf (tB (eOp oEq (az eT (ae (aq 3) au)) (aq 1))) (bf (aq 2)) sNx
def xA:SF:=aH (pP (wz (aq 0)) (vg (di (aA 2) (di (aA 3) vh))) fR) (bf (eC .non))
def rn:List W->Res W:=run 4 xA
def iU:SF:=aH (cP 3 (eOp oIx (eC kR) (eOp oIx (aq 0) (eC (.int 2))))) (aH (cP 4 (eOp iN (eOp me (eOp oIx (aq 3) (eC (.int 0))) (aq 1)) (eOp me (eOp oIx (aq 3) (eC (.int 1))) (aq 2)))) (aH (cP 5 (eOp zN (eOp me (eOp oIx (aq 3) (eC (.int 1))) (aq 1)) (eOp me (eOp oIx (aq 3) (eC (.int 0))) (aq 2)))) (bf (cQ (ae (eOp iN (eOp oIx (aq 0) (eC (.int 0))) (aq 4)) (ae (eOp iN (eOp oIx (aq 0) (eC (.int 1))) (aq 5)) au))))))
def du:List W->Res W:=run 6 iU
def mF:SF:=bf (eIf (tB (eOp oEq (eOp oMod (aq 0) (eC (.int 2))) (eC (.int 0)))) (eOp iN (aq 0) (eC (.int 1))) (eOp zN (aq 0) (eC (.int 1))))
def jU:List W->Res W:=run 1 mF
def j8:SF:=bf (eOp oMod (eOp iN (aq 0) (eOp oDiv (eC cg) (eC (.int 2)))) (eC cg))
def iC:List W->Res W:=run 1 j8
def eL:SF:=bf (eOp oMod (eOp iN (aq 0) (eOp oIx (eC eA) (aq 1))) (eC p8))
def bZ:List W->Res W:=run 2 eL
def j9:SF:=aH (sIf (tB (eOp oIs (aq 2) (eC .non))) (bf (eOp oEq (aq 3) (eC (.str "none")))) sNx) (aH (sIf (tB (eOp oIn (aq 3) (cQ (ae (eC (.str "none")) (ae (eC (.str "any")) au))))) (bf (eOp oEq (aq 3) (eC (.str "any")))) sNx) (bf (eOp oEq (eOp oIx (eOp oIx (aq 1) (aq 2)) (eC (.int 2))) (az bZ (ae (eOp oIx (aq 0) (eC (.int 2))) (ae (aq 3) au))))))
def jh:List W->Res W:=run 4 j9
def sr:SF:=aH (cP 3 (eOp oIx (aq 0) (aq 1))) (aH (cP 4 (eOp oIx (aq 2) (eC (.int 3)))) (aH (cP 5 (az rn (ae (aq 0) (ae (az du (ae (aq 3) (ae (eOp oIx (aq 2) (eC (.int 1))) (ae (eOp oIx (aq 2) (eC (.int 2))) au)))) au)))) (aH (sIf (tB (eOp oEq (aq 4) (eC (.str "partner")))) (bf (eOp oEq (aq 5) (az jU (ae (aq 1) au)))) sNx) (aH (sIf (tB (eOp oEq (aq 4) (eC (.str "opposite")))) (bf (eOp oEq (aq 5) (az iC (ae (aq 1) au)))) sNx) (bf (az jh (ae (aq 3) (ae (aq 0) (ae (aq 5) (ae (aq 4) au))))))))))
def pZ:List W->Res W:=run 6 sr
def pk:SF:=bf (eBi aaB (ae (eBi ajW (ae (eOp oIx (aq 0) (eC (.int 0))) au)) (ae (eBi ajW (ae (eOp oIx (aq 0) (eC (.int 1))) au)) au)))
def fY:List W->Res W:=run 1 pk
def qk:SF:=aH (cP 1 (az fY (ae (az eT (ae (aq 0) au)) au))) (aH (cP 2 (az fY (ae (az du (ae (aq 0) (ae (eC (.int 1)) (ae (eC (.int 0)) au)))) au))) (aH (sIf (tB (eOp oEq (aq 2) (aq 1))) (bf (eC (.str "sideways"))) sNx) (bf (eIf (tB (eOp oLt (aq 2) (aq 1))) (eC (.str "inward")) (eC (.str "outward"))))))
def n6:List W->Res W:=run 3 qk
def mJ:SF:=bf (eOp oEq (eOp oMod (eOp oDiv (aq 0) (eC (.int 2))) (eC (.int 2))) (eC (.int 0)))
def jV:List W->Res W:=run 1 mJ
def sv:SF:=bf (eOp oEq (eOp oMod (aq 0) (eC (.int 2))) (eC (.int 0)))
def n5:List W->Res W:=run 1 sv
def jA:SF:=aH (sIf (tB (eOp oIn (aq 1) (cQ (ae (eC (.str "head")) (ae (eC (.str "side")) au))))) (bf (eOp oEq (az jV (ae (aq 0) au)) (eOp oEq (aq 1) (eC (.str "head"))))) sNx) (bf (eOp oEq (az n5 (ae (aq 0) au)) (eOp oEq (aq 1) (eC (.str "lefts")))))
def ig:List W->Res W:=run 2 jA
def iY(a:List W->Res W):SF:=aH (cP 3 (eOp oIx (aq 2) (eC (.int 0)))) (aH (sIf (tB (eOp oEq (aq 3) (eC (.str "not")))) (bf (amM (az a (ae (aq 0) (ae (aq 1) (ae (eOp oIx (aq 2) (eC (.int 1))) au)))))) sNx) (aH (sIf (tB (eOp oEq (aq 3) (eC (.str "at")))) (bf (az pZ (ae (aq 0) (ae (aq 1) (ae (aq 2) au))))) sNx) (aH (sIf (tB (eOp oEq (aq 3) (eC (.str "inner")))) (bf (eOp oLe (az fY (ae (az eT (ae (eOp oIx (aq 0) (aq 1)) au)) au)) (eOp oIx (aq 2) (eC (.int 1))))) sNx) (aH (sIf (tB (eOp oIn (aq 3) (eC j0))) (bf (eOp oEq (az n6 (ae (eOp oIx (aq 0) (aq 1)) au)) (aq 3))) sNx) (bf (az ig (ae (aq 1) (ae (aq 3) au))))))))
noncomputable def dy:Nat->List W->Res W|0=>λ_=>.bad|n+1=>run 4 (iY (dy n))
def dM:SF:=sIf (tB (eBi af8 (ae (fZ 1 (rT (eOp oIx (aq 4) (eC (.int 0)))) (aA 0) iZ (az (dy 2) (ae (aq 1) (ae (aq 2) (ae (aq 0) au))))) au))) (bf (aq 3)) sNx
def pf:SF:=aH (pP (wz (aq 2)) (vg (di (aA 3) (di (aA 4) vh))) dM) (bf (eC .non))
def kG:List W->Res W:=run 5 pf
def eE:SF:=aH (sIf (abr (tB (eOp nL (aq 3) (eC .non))) (tB (eOp fO (aq 1) (aq 3)))) (bf (cQ au)) sNx) (aH (cP 4 (az kG (ae (aq 0) (ae (aq 1) (ae (aq 2) au))))) (aH (sIf (tB (eOp oIs (aq 4) (eC .non))) (kq "Blind" (ae (aq 1) au)) sNx) (bf (eOp oIx (eOp oIx (aq 2) (aq 4)) (eC (.int 1))))))
def bp:List W->Res W:=run 5 eE
def ix:SF:=bf (aaP (eBi cK (ae (aq 0) (ae (eC (.ty "int")) au))) (amM (eBi cK (ae (aq 0) (ae (eC (.ty "bool")) au)))))
def fV:List W->Res W:=run 1 ix
def kc:SF:=bf (aaP (az fV (ae (aq 0) au)) (lJ oLe oLe (eUn pQ (eC kS)) (aq 0) (eC kS)))
def fX:List W->Res W:=run 1 kc
def iX:SF:=bf (aaP (az fV (ae (aq 0) au)) (lJ oLe oLt (eC (.int 0)) (aq 0) (eBi lQ (ae (eC kR) au))))
def gz:List W->Res W:=run 1 iX
def kb:SF:=aH (sIf (tOr (vv (tB (eBi cK (ae (aq 0) (ae (eC (.ty "tuple")) au))))) (tB (eOp oNe (eBi lQ (ae (aq 0) au)) (eC (.int 3))))) (bf (eC (.bl false))) sNx) (bf (aaP (az fX (ae (eOp oIx (aq 0) (eC (.int 0))) au)) (aaP (az fX (ae (eOp oIx (aq 0) (eC (.int 1))) au)) (az gz (ae (eOp oIx (aq 0) (eC (.int 2))) au)))))
def fW:List W->Res W:=run 1 kb
def bY:SF:=sIf (vv (tB (eBi af8 (ae (fZ 1 (rT (eSl (aq 2) (nz (eC (.int 1))) pNo)) (aA 0) iZ (az fW (ae (aq 0) au))) au)))) (kq "Out" (ae (aq 1) au)) sNx
def jz:SF:=aH (pP (wz (aq 0)) (vg (di (aA 1) (di (aA 2) vh))) bY) (bf (aq 0))
def eW:List W->Res W:=run 3 jz
def dE:SF:=aH (sIf (tB (eOp oEq (eOp oIx (aq 1) (eC (.int 0))) (eC (.str "turn")))) (bf (cQ (ae (eOp oIx (aq 0) (eC (.int 0))) (ae (eOp oIx (aq 0) (eC (.int 1))) (ae (az bZ (ae (eOp oIx (aq 0) (eC (.int 2))) (ae (eOp oIx (aq 1) (eC (.int 1))) au))) au))))) sNx) (aH (cP 2 (eOp oIx (eC iq) (eOp oIx (aq 1) (eC (.int 0))))) (aH (cP 3 (az du (ae (aq 0) (ae (eOp me (eOp oIx (aq 2) (eC (.int 0))) (eOp oIx (aq 1) (eC (.int 1)))) (ae (eOp me (eOp oIx (aq 2) (eC (.int 1))) (eOp oIx (aq 1) (eC (.int 1)))) au))))) (bf (cQ (ae (eOp oIx (aq 3) (eC (.int 0))) (ae (eOp oIx (aq 3) (eC (.int 1))) (ae (eOp oIx (aq 0) (eC (.int 2))) au)))))))
def cB:List W->Res W:=run 4 dE
def fS:SF:=sIf (tB (eOp oNe (eOp oIx (aq 3) (eC (.int 0))) (eC (.str "stay")))) (aei 2 (anI 2 (az cB (ae (eOp oIx (aq 2) (eUn pQ (eC (.int 1)))) (ae (aq 3) au))))) sNx
def qj:SF:=aH (ko 2 (aft (ae (aq 0) au))) (aH (pP (rT (aq 1)) (aA 3) fS) (zt 2 (bf (aq 2))))
def gy:List W->Res W:=run 4 qj
def xC:SF:=aH (cP 3 (adC 1 (jd (eC cg)) (aA 0) iZ (dk bp (ae (aq 1) (ae (aq 0) (ae (aq 2) (ae (aq 3) au))))))) (bf (dk eW (ae (fZ 1 (jd (eC cg)) (aA 0) iZ (az gy (ae (eOp oIx (aq 1) (aq 0)) (ae (eOp oIx (aq 4) (aq 0)) au)))) au)))
def uI:List W->Res W:=run 4 xC
def l8:SF:=bf (dk dz (ae (fZ 1 (rT (dk uI (ae (aq 0) (ae (aq 1) (ae (aq 2) au))))) (aA 0) iZ (eOp oIx (aq 0) (eUn pQ (eC (.int 1))))) au))
def cx:List W->Res W:=run 3 l8
def pj:SF:=aH (cP 1 (oC (ae (eBi yV (ae (aq 0) (ae (eC (.cls "Blind")) au))) (ae (eBi yV (ae (aq 0) (ae (eC (.cls "Out")) au))) (ae (eBi yV (ae (aq 0) (ae (eC (.cls "Meet")) au))) (ae (eBi yV (ae (aq 0) (ae (eC (.cls "NoPairs")) au))) au)))))) (aH (sIf (tB (eOp oNe (rG "list" pT (aq 1) (ae (eC (.bl true)) au)) (eC (.int 1)))) lT sNx) (aH (cP 2 (rG "list" pS (aq 1) (ae (eC (.bl true)) au))) (aH (sIf (tB (eOp oEq (aq 2) (eC (.int 2)))) (bf (cQ (ae (eC (.str "meet")) (ae (agW (aq 0) "one") (ae (agW (aq 0) "other") au))))) sNx) (aH (sIf (tB (eOp oEq (aq 2) (eC (.int 3)))) lT sNx) (bf (cQ (ae (eOp oIx (oC (ae (eC (.str "blind")) (ae (eC (.str "out")) au))) (aq 2)) (ae (agW (aq 0) "who") au))))))))
def cN:List W->Res W:=run 3 pj
def dD:SF:=cP 3 (dk (λws=>cx (ws++[.non])) (ae (aq 0) (ae (aq 1) au)))
def ft:SF:=cP 2 (aq 4)
def ff:SF:=aH (cP 2 (eC .non)) (aH (cP 3 (eC .non)) (aH (sV dD "FloorError" 4 ft) (aH (sIf (tB (eOp oIs (aq 2) (eC .non))) (bf (cQ (ae (aq 3) (ae (eC .non) au)))) sNx) (bf (cQ (ae (eC .non) (ae (az cN (ae (aq 2) au)) au)))))))
def cO:List W->Res W:=run 5 ff
def mO:SF:=sIf (tOr (vv (tB (eBi cK (ae (aq 1) (ae (eC (.ty "str")) au))))) (tB (eOp nJ (aq 1) (adB "Book" (aq 0))))) lT sNx
def nR:LF:=ame (eOp ajL (adB "Book" (aq 0)) (aq 1))
def br:List W->Res W:=agy 2 mO nR
def cF:SF:=aH (aox (az cO (ae (aq 1) (ae (gO "Book" br (aq 0) (ae (aq 5) au)) au))) (vg (di (aA 6) (di (aA 7) vh)))) (aH (sIf (tB (eOp nL (aq 7) (eC .non))) (zt 3 (bf (cQ (ae (eC (.str "broken")) (ae (eBi lQ (ae (aq 3) au)) (ae (aq 7) au)))))) sNx) (aH (cP 1 (aq 6)) (aei 3 (aq 1))))
def jy:SF:=aH (ko 3 (aft au)) (aH (pP (rT (aq 2)) (vg (di (aA 4) (di (aA 5) vh))) cF) (zt 3 (bf (cQ (ae (eC (.str "floors")) (ae (aq 3) au))))))
def ie:List W->Res W:=run 8 jy
def fu:SF:=aH (sIf (vv (tB (aq 3))) (bf (dk cx (ae (aq 0) (ae (aq 1) (ae (aq 2) au))))) sNx) lT
def cC:List W->Res W:=run 4 fu
def mL:RF Rn:=aaJ (aj7 Rn.a Rn.val 0 4 (eOp zN (eBi lQ (ae (jY "Run" 1 (aq 0)) au)) (eC (.int 1)))) (aaJ (rX (sIf (tB (eOp oEq (aq 4) (eC gH))) lT sNx)) (aaJ (aaV Rn.a Rn.ajG 0 5 (gO "Book" br (jY "Run" 0 (aq 0)) (ae (aq 1) au))) (vj ["Blind","Out","Meet"] 4 (dk cC (ae (eOp oIx (jY "Run" 1 (aq 0)) (eUn pQ (eC (.int 1)))) (ae (aq 5) (ae (aq 2) (ae (aq 3) au))))))))
def gA:List W->Rn->OX Rn:=runM 7 mL
def bu:RF Rn:=xIf (xT Rn.a Rn.val 0 (tB (eOp oEq (eOp oIx (aq 4) (eC (.int 0))) (eC (.str "call"))))) (gU 0 gA (axP (eOp oIx (aq 4) (eC (.int 1))) (axP (aq 2) (axP (aq 3) axN)))) (rX lT)
def mK:RF Rn:=ahi (rT (aq 1)) 4 bu
def eY:List W->Rn->OX Rn:=runM 6 mK
def ahP:SF:=i3 3 (ae (aq 0) (ae (aq 1) au)) (aaJ (gU 3 eY (axP (aq 2) (axP (eLR (eC cg)) (axP (eC (.bl false)) axN)))) (aaW 3 (eSl (jY "Run" 1 (aq 3)) (nz (eC (.int 1))) pNo)))
def adt:List W->Res W:=run 4 ahP
def fc:SF:=ko 4 (lOf (dk adt (ae (aq 0) (ae (aq 1) (ae (aq 2) au)))))
def gX:SF:=cP 3 (aq 5)
def fK:SF:=aaK (cP 3 (eC .non)) (aaK (cP 4 (eC .non)) (aaK (sV fc "FloorError" 5 gX) (aos (tB (eOp oIs (aq 3) (eC .non))) (aaK (aH (sIf (abr (tB (eBi yV (ae (aq 3) (ae (eC (.cls "Broken")) au)))) (abr (tB (eBi yV (ae (aq 3) (ae (eC (.ty "ValueError")) au)))) (vv (tB (eBi yV (ae (aq 3) (ae (eC (.cls "TooMany")) au))))))) (bf (cQ (ae (eC (.str "broken")) (ae (agW (aq 3) "at") (ae (az cN (ae (agW (aq 3) "why") au)) au))))) sNx) lT) lT))))
def cw:List W->Out:=goT 6 fK
def dw:List W->Res W:=λws=>aeF 4 "floors" (cw ws)
def kY:SF:=sNx
def lG:LF:=agP (adB "Book" (aq 0))
def dR:List W->Res W:=agy 1 kY lG
def aeI:SF:=aH (cP 1 (yM "Book" yJ (ae (az cI (ae (aq 0) au)) au))) (aH (cP 2 (az eV (ae (aq 0) au))) (aH (cP 3 (az ji au)) (aH (cP 4 (fZ 1 (rT (eSl (aq 0) (nz (eC (.int 3))) (nz (eC (.int 53))))) (aA 0) iZ (cQ (ae (eC (.str "call")) (ae (eOp oIx (aq 4) (eOp oMod (az aC (ae (aq 0) (ae (eC (.int 40)) au))) (eC (.int 20)))) au))))) (aH (cP 5 (eBi w9 (ae (aq 4) au))) (aH (cP 6 (az ie (ae (aq 1) (ae (aq 2) (ae (aq 4) au))))) (abN 7 4 "floors" cw (ae (aq 1) (ae (aq 2) (ae (aq 5) au))) λa=>jJ (tOr (tB (eOp oNe (aq 7) (aq 6))) (tB (eOp oNe (aq 5) (aq 4)))) (bf (eC (.bl false))) (aH (sIf (tB (eOp oEq (eOp oIx (aq 7) (eC (.int 0))) (eC (.str "floors")))) (jJ (vv (tB (eBi cK (ae (eOp oIx (aq 7) (eC (.int 1))) (ae (eC (.ty "list")) au))))) (bf (eC (.bl false))) (qz 7 a sNx)) sNx) (bf (aaP (eOp oEq (az dw (ae (aq 1) (ae (aq 2) (ae (aq 5) au)))) (aq 6)) (eOp oEq (gO "Book" dR (aq 1) au) (eBi lP (ae (eBi ov (ae (az cI (ae (aq 0) au)) au)) au))))))))))))
def afM:List W->Res W:=run 8 aeI
end K45
namespace K45
open PySem WL ML
abbrev OkB(r:Res W):Prop:=∃b,r=.ok (.bl b)
def ah3(p)(m n)(h:Fac p):du [stW p,.int m,.int n]=.ok (spW (sfp p m n)):=by
 obtain⟨x,y,f⟩:=p;have r:f=0\/f=1\/f=2\/f=3:=by have b:0<=f:=h.1;have a:f<4:=h.2;omega
 rcases r with rfl|rfl|rfl|rfl<;>simp(disch:=omega)[du,iU,stW,spW,sfp,kR,nK,List.replicate]<;>omega
def dn(p):eT [stW p]=.ok (spW (vx p)):=rfl
theorem xl(F)(s):∀(f:List S3)k b a,∃o,fin (aeP (forL (vg (di (aA 2) (di (aA 3) vh))) fR (fD k (f.map stW)) [.va F,.va (spW s),b,a]) (bf (eC .non)))=.ok (onW o)/\∀i,o=some i->i<k+f.length
|[],k,b,a=>⟨none,by simp[fD],λ_ h=>by cases h⟩|p::f,k,b,a=>by
 simp only[arv,fD,cA];by_cases h:vx p=s;.exact⟨some k,by simp[fR,dn,h],λi e=>by cases e;simp⟩
 .obtain⟨o,c,d⟩:=xl F s f (k+1) (.va (.int k)) (.va (stW p));refine⟨o,?_,λi e=>by grind⟩;simp[fR,dn,h]at c⊢;exact c
def ake(f)(s):∃o,rn [flW f,spW s]=.ok (onW o)/\∀i,o=some i->i<f.length:=by obtain⟨o,h,a⟩:=xl _ s f 0 _ _;exact⟨o,h,λi e=>by grind⟩
def jj(s):fY [spW s]=.ok (.int (far s)):=rfl
def ajf(p)(h:Fac p):∃w:String,n6 [stW p]=.ok (.str w):=by
 have a:=ah3 p 1 0 h;by_cases b:far (sfp p 1 0)=far (vx p);.exact⟨"sideways",by simp[n6,qk,List.replicate,dn,jj,a,b]⟩
 .exact⟨if far (sfp p 1 0)<far (vx p)then"inward"else"outward",by by_cases c:far (sfp p 1 0)<far (vx p)<;>simp[n6,qk,List.replicate,dn,jj,a,b,c]⟩
def sg(f)(w:String)(q)(h:oIx eA (.str w)=.ok (.int q)):bZ [.int f,.str w]=.ok (.int ((f+q)%4)):=by simp[bZ,eL,h,p8]
def adp{f}{k:Nat}(a:k<f.length):oIx (flW f) (.int k)=.ok (stW (f.getD k (0,0,0))):=by refine alL (by simp) ?_;rw[aup,asm,art a];rfl
def ado{f:List S3}{k}(a:k<f.length):f.getD k (0,0,0)∈f:=by grind
def aiP(f)(p)(o)(w:What)(h:∀k,o=some k->k<f.length)(hw:w≠.partner)(c:w≠.opposite):OkB (jh [stW p,flW f,onW o,.str w.w]):=by cases o with|none=>exact⟨decide (w.w="none"),by simp[jh,j9,List.replicate]⟩|some k=>
 have d:=adp (h k rfl);by_cases b:"none"=w.w;.exact⟨false,by simp[jh,j9,List.replicate,i7,<-b]⟩
 by_cases a:"any"=w.w;.exact⟨true,by simp[jh,j9,List.replicate,i7,<-a]⟩
 obtain⟨q,e⟩:∃q,oIx eA (.str w.w)=.ok (.int q):=by cases w<;>first|exact absurd rfl b|exact absurd rfl a|exact absurd rfl hw|exact absurd rfl c|exact⟨_,rfl⟩
 have g:=sg p.2.2 w.w q e;generalize f.getD k (0,0,0)=r at *;refine⟨decide (r.2.2=(p.2.2+q)%4),?_⟩;simp[jh,j9,List.replicate,i7,stW,b,a]at d⊢;simp[d,g]
def agK(o)(i):OkB (oEq (onW o) (.int i)):=by cases o<;>simp[OkB]
def akO(f)(s:∀p∈f,Fac p)(d:Nat)(n:d<f.length)(a r)(w):OkB (pZ [flW f,.int d,(Tst.at a r w).W]):=by
 have k:=adp n;have c:=ah3 (f.getD d (0,0,0)) a r (s _ (ado n));obtain⟨o,j,m⟩:=ake f (sfp (f.getD d (0,0,0)) a r);have u:=aiP f (f.getD d (0,0,0)) o w m;generalize f.getD d (0,0,0)=p at *;by_cases w1:w=.partner;.subst w1;obtain⟨i,g⟩:∃i,jU [.int d]=.ok (.int i):=⟨if(d:Int)%2=0 then d+1 else d-1,by by_cases h:(d:Int)%2=0<;>simp[jU,mF,h]⟩;obtain⟨b,l⟩:=agK o i;exact⟨b,by simp[pZ,sr,List.replicate,Tst.W,What.w,k,c,j,g,l]⟩
 by_cases e:w=.opposite
 .subst e;have g:iC [.int d]=.ok (.int ((d+4)%8)):=by simp[iC,j8,cg]
  obtain⟨b,l⟩:=agK o ((d+4)%8);exact⟨b,by simp[pZ,sr,List.replicate,Tst.W,What.w,k,c,j,g,l]⟩
 obtain⟨b,v⟩:=u w1 e;have q:¬w.w="partner":=by cases w<;>first|decide|exact absurd rfl w1
 have t:¬w.w="opposite":=by cases w<;>first|decide|exact absurd rfl e
 exact⟨b,by simp[pZ,sr,List.replicate,Tst.W,k,c,j,v,q,t]⟩
def akG(d)(w:String):OkB (ig [.int d,.str w]):=by
 have a:jV [.int d]=.ok (.bl (decide (d/2%2=0))):=by simp[jV,mJ]
 have b:n5 [.int d]=.ok (.bl (decide (d%2=0))):=rfl;by_cases h:"head"=w\/"side"=w;.exact⟨_,by simp[ig,jA,i7,a,h];rfl⟩
 .exact⟨_,by simp[ig,jA,i7,b,h];rfl⟩
def agT(n)(f)(o:∀p∈f,Fac p)(d:Nat)(c:d<f.length)(t:Tst):OkB (dy (n+1) [flW f,.int d,t.W]):=by have j:=adp c;cases t with|«at» a r w=>obtain⟨b,i⟩:=akO f o d c a r w;simp[Tst.W]at i;exact⟨b,by simp[dy,iY,Tst.W,List.replicate,i]⟩|inner m=>exact⟨_,by simp[dy,iY,Tst.W,List.replicate,j,dn,jj];rfl⟩|lone l=>
 obtain⟨w,s⟩:=ajf _ (o _ (ado c));obtain⟨b,q⟩:=akG d l.w;generalize f.getD d (0,0,0)=p at *;have g:¬l.w="not":=by cases l<;>decide
 have e:¬l.w="at":=by cases l<;>decide
 have k:¬l.w="inner":=by cases l<;>decide
 by_cases h:"inward"=l.w\/"outward"=l.w\/"sideways"=l.w;.exact⟨decide (w=l.w),by simp[dy,iY,Tst.W,List.replicate,i7,j0,g,e,k,h,j,s]⟩
 .exact⟨b,by simp[dy,iY,Tst.W,List.replicate,i7,j0,g,e,k,h,q]⟩
def ai0(f)(c:∀p∈f,Fac p)(d:Nat)(a:d<f.length)(g)(t):OkB (dy 2 [flW f,.int d,tsW g t]):=by cases g with|false=>exact agT 1 f c d a t|true=>obtain⟨b,h⟩:=agT 0 f c d a t;simp only[tsW,asI];rw[show dy 2=run 4 _ from rfl];exact⟨!b,by simp[iY,h]⟩
theorem ajy:∀{vs},(∀v∈vs,∃b,v=.bl b)->∃b,allB vs=some b|[],_=>⟨_,rfl⟩|v::vs,h=>by obtain⟨b,rfl⟩:=h v (by simp);obtain⟨c,e⟩:=ajy (vs:=vs) λx a=>h x (by grind);exact⟨b&&c,by simp[allB,e]⟩
theorem ah9{P Q:W->Prop}:∀{l},(∀r∈l,(∃v,r=.ok v/\P v)\/∃c,r=.ex c/\Q c)->(∃a,aej l=.ok a/\a.length=l.length/\∀v∈a,P v)\/∃c,aej l=.ex c/\Q c
|[],_=>.inl ⟨[],rfl,rfl,by simp⟩|r::l,h=>by
 rcases h r (by simp)with⟨v,rfl,i⟩|⟨c,rfl,b⟩
 .rcases ah9 (l:=l) λx d=>h x (by simp[d])with⟨a,e,g,f⟩|⟨c,e,b⟩;.exact .inl ⟨v::a,by simp[aej,e],by simp[g],λx d=>by grind⟩
  .exact .inr ⟨c,by simp[aej,e],b⟩
 .exact .inr ⟨c,rfl,b⟩
def agA{P:W->Prop}{l}(h:∀r∈l,∃v,r=.ok v/\P v):∃a,aej l=.ok a/\a.length=l.length/\∀v∈a,P v:=by
 rcases ah9 (Q:=λ_=>False) λr b=>.inl (h r b)with h|⟨_,_,h⟩;.exact h
 .exact h.elim
def adW{f:Type}{emb}{σ:Ws}{e}{P:W->Prop}{xs:List f}(h:∀x∈xs,∃v,e (.va (emb x)::σ)=.ok v/\P v):∃d,bG (aA 0) iZ e (.no::σ) (xs.map emb)=.ok d/\d.length=xs.length/\∀v∈d,P v:=by
 rw[jZ λx _=>⟨_,rfl,rfl,rfl⟩];obtain⟨d,a,b,c⟩:=agA (P:=P) (l:=xs.map λx=>e (.va (emb x)::σ)) λr g=>by grind
 exact⟨d,a,by rw[b,arB],c⟩
theorem sX(f)(q:∀p∈f,Fac p)(d:Nat)(t:d<f.length)(C):∀(c:List Rl)(j:∀r∈c,r.ts.length<=100)k l m,∃o,fin (aeP (forL (vg (di (aA 3) (di (aA 4) vh))) dM (fD k (c.map Rl.W)) [.va (flW f),.va (.int d),.va C,l,m]) (bf (eC .non)))=.ok (onW o)/\∀i,o=some i->i<k+c.length
|[],_,k,l,m=>⟨none,by simp[fD],λ_ h=>by cases h⟩|r::c,j,k,l,m=>by
 simp only[arv,fD,cA];obtain⟨o,n,w⟩:=sX f q d t C c (λr x=>j r (by simp[x])) (k+1) (.va (.int k)) (.va r.W);have s:r.ts.length<=1000000:=by have:=j r (by simp);omega
 obtain⟨y,a,-,u⟩:=adW (xs:=r.ts) (emb:=λp=>tsW p.1 p.2) (e:=az (dy 2) (ae (aq 1) (ae (aq 2) (ae (aq 0) au)))) (σ:=[.va (flW f),.va (.int d),.va C,.va (.int k),.va r.W]) (P:=λv=>∃b,v=.bl b) λp _=>by obtain⟨b,h⟩:=ai0 f q d t p.1 p.2;exact⟨_,by simp[h],b,rfl⟩
 obtain⟨b,g⟩:=ajy u;cases b;.refine⟨o,?_,λi e=>by have:=w i e;simp;omega⟩;simp[dM,tsL,s,List.replicate,a,g]at n⊢;exact n
 .exact⟨some k,by simp[dM,tsL,s,List.replicate,a,g],λi e=>by cases e;simp⟩
def gQ(c:List Rl):Prop:=∀r∈c,r.ts.length<=100/\∀l,r.ss=some l->l.length<=100
def zw(f)(g:∀p∈f,Fac p)(d:Nat)(b:d<f.length){c}(a:gQ c):∃o,kG [flW f,.int d,clW c]=.ok (onW o)/\∀i,o=some i->i<c.length:=by obtain⟨o,h,k⟩:=sX f g d b _ c (λr j=>(a r j).1) 0 _ _;exact⟨o,h,λi e=>by grind⟩
def g8{n:Nat}(h:n<1000):mR (.int n)=true:=by
 simp [mR];by_cases z:n=0;.rw[z];decide
 .rw[Nat.log2_lt z];exact aro h (by simp)
abbrev ALL:W:=.lst (rng 0 8)
def Ref(c:W):Prop:=(∃d:Nat,d<8/\(c=.exc "Blind" [.int d]\/c=.exc "Out" [.int d]))\/∃i j:Nat,i<8/\j<8/\c=.exc "Meet" [.int i,.int j]
def ajA(v:W):Prop:=∃s:Option (List Stp),v=ssW s/\∀l,s=some l->l.length<=100
def abw(f)(q:f.length=8)(j:∀p∈f,Fac p){c}(g:gQ c)(d:Nat)(m:d<8):bp [flW f,.int d,clW c,ALL]=bp [flW f,.int d,clW c,.non]/\((∃v,bp [flW f,.int d,clW c,.non]=.ok v/\ajA v)\/∃x,bp [flW f,.int d,clW c,.non]=.ex x/\Ref x):=by
 obtain⟨o,e,l⟩:=zw f j d (by omega) g;have h:=g8 (n:=d) (by omega);have a:fO (.int d) ALL=.ok (.bl false):=by rcases d with _|_|_|_|_|_|_|_|d<;>first|omega|rfl
 cases o with|none=>exact⟨by simp[bp,eE,List.replicate,iE,a,e,iz,WL.fieldsOf,h],.inr ⟨_,by simp[bp,eE,List.replicate,iE,e,iz,WL.fieldsOf,h],.inl ⟨d,m,.inl rfl⟩⟩⟩|some k=>have b:=l k rfl;have i:=alM b;exact⟨by simp[bp,eE,List.replicate,iE,a,e,i,b],.inl ⟨_,by simp[bp,eE,List.replicate,iE,e,i,b],_,rfl,(g _ (asy b)).2⟩⟩
def af6(p)(h:Fac p)(s:Stp):∃q,cB [stW p,s.W]=.ok (stW q)/\Fac q:=by cases s with|go g n=>
 obtain⟨a,b,f,j,i⟩:∃a b:Int,oIx iq (.str g.w)=.ok (.tup [.int a,.int b])/\(-2<a/\a<2)/\-2<b/\b<2:=by cases g<;>exact⟨_,_,rfl,by decide,by decide⟩
 have c:=ah3 p (a*n) (b*n) h;have d:¬g.w="turn":=by cases g<;>decide
 refine⟨((sfp p (a*n) (b*n)).1,(sfp p (a*n) (b*n)).2,p.2.2),?_,h⟩;generalize sfp p (a*n) (b*n)=P at *;simp only[stW,spW]at c;simp(disch:=omega)[cB,dE,List.replicate,Stp.W,f,nK,d,stW,c]|turn t=>
 obtain⟨q,e⟩:∃q,oIx eA (.str t.w)=.ok (.int q):=by cases t<;>exact⟨_,rfl⟩
 refine⟨(p.1,p.2.1,(p.2.2+q)%4),?_,?_⟩;.simp[cB,dE,List.replicate,Stp.W,sg _ _ q e,stW]
 .unfold Fac;simp only;omega
def zg(s:Stp):∃w:String,oIx s.W (.int 0)=.ok (.str w)/\w≠"stay":=by cases s with|go g n=>cases g<;>exact⟨_,rfl,by decide⟩|turn t=>exact⟨_,rfl,by grind⟩
def aaE(v:W):Prop:=∃w:List S3,v=ahC w/\w≠[]/\w.length<=1000/\∀p∈w,Fac p
theorem xn(P S):∀(l:List Stp)w o,w≠[]->(∀p∈w,Fac p)->w.length+l.length<=1000->∃b f,forL (aA 3) fS (l.map Stp.W) [.va P,.va S,.ow (w.map stW),o]=.nx [.va P,.va S,.ow (b.map stW),f]/\aaE (ahC b)
|[],w,o,hw,hf,hl=>⟨w,o,rfl,w,rfl,hw,hl,hf⟩|s::l,w,o,hw,hf,hl=>by
 obtain⟨x,j,h⟩:=zg s;obtain⟨q,e,m⟩:=af6 _ (hf _ (uu hw)) s;obtain⟨b,f,g,c⟩:=xn P S l (w++[q]) (.va s.W) (by simp) λp k=>by grind (by simp at hl⊢;omega);refine⟨b,f,?_,c⟩;have a:atI (w.map stW) (-1)=some (stW (zV w)):=by rw[j1,List.getLast?_map,asE hw];rw[zV,auw,asE hw];rfl
 have d:w.length<1000000:=by simp at hl;omega
 simp only[arv,cA];have i:fS [.va P,.va S,.ow (w.map stW),.va s.W]=.nx [.va P,.va S,.ow ((w++[q]).map stW),.va s.W]:=by simp[fS,j,h,a,e,d]
 simp only[jS,arY,arM,cV,i];exact g
def anY(p)(h:Fac p){v}(c:ajA v):∃u,gy [stW p,v]=.ok u/\aaE u:=by obtain⟨s,rfl,d⟩:=c;cases s with|none=>exact⟨ahC [p],rfl,[p],rfl,by simp,by simp,by simpa using h⟩|some l=>obtain⟨b,f,e,a⟩:=xn (stW p) (ssW (some l)) l [p] .no (by simp) (by simpa using h) (by grind);simp[ssW]at e;exact⟨ahC b,by simp[gy,qj,List.replicate,ssW,e,ahC],a⟩
def ah0(p)(h:Fac p):OkB (fW [stW p]):=by
 obtain⟨a,f⟩:=h;obtain⟨x,y,k⟩:=p;simp only at a f;have i:gz [.int k]=.ok (.bl true):=by simp[gz,iX,fV,ix,isK,oU,kR,a,f]
 have c:∀z:Int,OkB (fX [.int z]):=λz=>by by_cases j:-200<=z<;>exact⟨_,by simp[fX,kc,fV,ix,isK,oU,kS,j];rfl⟩
 obtain⟨b,e⟩:=c x;obtain⟨d,g⟩:=c y;refine⟨b&&d,?_⟩;cases b<;>cases d<;>simp[fW,kb,isK,oU,stW,i,e,g]
theorem uw(A):∀h k l i,(∀v∈h,aaE v)->k+h.length<=8->(∃o m,forL (vg (di (aA 1) (di (aA 2) vh))) bY (fD k h) [.va A,l,i]=.nx [.va A,o,m])\/∃c σ,forL (vg (di (aA 1) (di (aA 2) vh))) bY (fD k h) [.va A,l,i]=.ex c σ/\Ref c
|[],k,l,i,_,_=>.inl ⟨l,i,rfl⟩|v::h,k,l,i,hf,hk=>by
  have q:=uw A h (k+1) (.va (.int k)) (.va v) (λw hw=>hf w (by simp[hw])) (by simp at hk⊢;omega);obtain⟨w,rfl,-,u,hw⟩:=hf v (by simp);have g:cut (w.map stW) (some 1) none=(w.drop 1).map stW:=by simp[cut,sIx,List.map_drop];cases w with|nil=>simp|cons x xs=>simp[atM]
  obtain⟨t,a,-,j⟩:=adW (xs:=w.drop 1) (emb:=stW) (e:=az fW (ae (aq 0) au)) (σ:=[.va A,.va (.int k),.va (.lst (w.map stW))]) (P:=λv=>∃b,v=.bl b) λp r=>by obtain⟨b,e⟩:=ah0 p (hw p (List.mem_of_mem_drop r));exact⟨_,by simp[e],b,rfl⟩
  obtain⟨b,d⟩:=ajy j;have f:(w.drop 1).length<=1000000:=by simp;omega
  have s:=g8 (n:=k) (by simp at hk;omega);simp only[fD,cA];have e:ahC w=.lst (w.map stW):=rfl;rw[e]at q⊢;generalize w.drop 1=v at *;cases b
  .refine .inr ⟨_,[.va A,.va (.int k),.va (.lst (w.map stW))],?_,.inl ⟨k,by simp at hk;omega,.inr rfl⟩⟩;have j:bY [.va A,.va (.int k),.va (.lst (w.map stW))]=.ex (.exc "Out" [.int k]) [.va A,.va (.int k),.va (.lst (w.map stW))]:=by simp[bY,g,f,List.replicate,a,d,iz,WL.fieldsOf,s]
   simp only[yE,pY,jS,gG,aY,arY,arM,yF,cV,j];rfl
  .have j:bY [.va A,.va (.int k),.va (.lst (w.map stW))]=.nx [.va A,.va (.int k),.va (.lst (w.map stW))]:=by simp[bY,g,f,List.replicate,a,d]
   simp only[yE,pY,jS,gG,aY,arY,arM,yF,cV,j];exact q
def amo{vs}(h:∀v∈vs,aaE v)(b:vs.length=8):eW [.lst vs]=.ok (.lst vs)\/∃c,eW [.lst vs]=.ex c/\Ref c:=by
 rcases uw (.lst vs) vs 0 .no .no h (by omega)with⟨f,d,e⟩|⟨c,g,e,a⟩;.exact .inl (by simp[eW,jz,e])
 .exact .inr ⟨c,by simp[eW,jz,run_eq,e],a⟩
def ads(σ)(r):fin (ofR σ r λw=>.rt w)=r:=by cases r<;>rfl
abbrev Sm(a:W):Prop:=a=.non\/a=ALL
def aqd:(List.range 8).map (λi:Nat=>W.int (0+i))=rng 0 8:=rfl
def akn(f)(w:f.length=8)(n:∀p∈f,Fac p){c}(s:gQ c):∃R,(∀a,Sm a->uI [flW f,clW c,a]=R)/\((∃b,R=.ok (.lst b)/\b.length=8/\∀v∈b,aaE v)\/∃x,R=.ex x/\Ref x):=by
 have t:∀a,Sm a->bG (aA 0) iZ (dk bp (ae (aq 1) (ae (aq 0) (ae (aq 2) (ae (aq 3) au))))) [.no,.va (flW f),.va (clW c),.va a,.no] (rng 0 8)=aej ((List.range 8).map λd:Nat=>bp [flW f,.int d,clW c,.non]):=λa m=>by
  rw[<-aqd];refine jZ λd g=>⟨_,rfl,rfl,?_⟩;have e:=(abw f w n s d (asd.mp g)).1;simp only[atz,adD,dI,eg,ee,arM,aaM,aaN,ed,aY];rcases m with rfl|rfl;.rfl
  .exact e
 rcases ah9 (P:=ajA) (Q:=Ref) (l:=(List.range 8).map λd:Nat=>bp [flW f,.int d,clW c,.non]) λr o=>by obtain⟨d,g,rfl⟩:=arC.mp o;exact(abw f w n s d (asd.mp g)).2 with⟨b,e,hvl,hv⟩|⟨x,e,hx⟩
 .simp at hvl;have C:∀a,bG (aA 0) iZ (az gy (ae (eOp oIx (aq 1) (aq 0)) (ae (eOp oIx (aq 4) (aq 0)) au))) [.no,.va (flW f),.va (clW c),.va a,.va (.lst b)] (rng 0 8)=aej ((List.range 8).map λd:Nat=>oZ (gy [stW (f.getD d (0,0,0)),b.getD d .non])):=λa=>by
   rw[<-aqd];refine jZ λd g=>⟨_,rfl,rfl,?_⟩;have g:=asd.mp g;have A:=adp (f:=f) (k:=d) (by omega);have y:oIx (.lst b) (.int d)=.ok (b.getD d .non):=by rw[kB,jm,asm,art (by omega)];rfl
   simp only[atz,gB,jX,dI,eg,ee,arM,aaM,aaN,ed,aY,A,y]
  obtain⟨ws,B,i,hw⟩:=agA (P:=aaE) (l:=(List.range 8).map λd:Nat=>oZ (gy [stW (f.getD d (0,0,0)),b.getD d .non])) λr o=>by obtain⟨d,g,rfl⟩:=arC.mp o;have g:=asd.mp g;obtain⟨u,e,z⟩:=anY _ (n _ (ado (show d<f.length by omega))) (hv (b.getD d .non) (by rw[asm,art (show d<b.length by omega)];exact asy _));exact⟨u,by rw[e];rfl,z⟩
  simp at i;refine⟨eW [.lst ws],λa m=>?_,?_⟩;.have j:=t a m;have q:=C a;rw[e]at j;rw[B]at q;simp[uI,xC,List.replicate,cg,uN,uv,vf,j,q,ads]
  .rcases amo hw i with e|h;.exact .inl ⟨ws,e,i,hw⟩
   .exact .inr h
 .refine⟨.ex x,λa m=>?_,.inr ⟨x,rfl,hx⟩⟩;have j:=t a m;rw[e]at j;simp[uI,xC,List.replicate,cg,uN,uv,vf,j]
def acM(f:List S3)(m:f.length=8):∃w,cf [.lst (f.map stW)]=.ok w/\(w=.non\/∃i j:Nat,i<8/\j<8/\w=.tup [.int i,.int j]):=by
 have r:∀k:Nat,k<8->oIx (.lst (f.map stW)) (.int k)=.ok (stW (f.getD k (0,0,0))):=λk A=>adp (f:=f) (by omega);have h:=wC (g:=aA 1) (b:=bh) (xs:=rng 0 8) (σ:=[.va (.lst (f.map stW)),.no,.no]) (λi a=>∃o c,a=[.va (.lst (f.map stW)),o,c]) (λ_ w=>∃i j:Nat,i<8/\j<8/\w=.tup [.int i,.int j]) ⟨_,_,rfl⟩ (by
   rintro i x σ n⟨o,c,rfl⟩;obtain⟨s,rfl⟩:=nj _ _ _ _ n;refine⟨_,rfl,?_⟩;rw[atz];have d:=wC (g:=aA 2) (b:=bg) (xs:=rng (i+1) (8-(i+1))) (σ:=[.va (.lst (f.map stW)),.va (.int i),c]) (λj a=>∃c,a=[.va (.lst (f.map stW)),.va (.int i),c]) (λ_ w=>∃i j:Nat,i<8/\j<8/\w=.tup [.int i,.int j]) ⟨_,rfl⟩ (by
     rintro j x σ n⟨c,rfl⟩;obtain⟨B,rfl⟩:=nj _ _ _ _ n;refine⟨_,rfl,?_⟩;rw[show(i:Int)+1+(j:Nat)=((i+1+j:Nat):Int)by omega];have q:=r i s;have p:=r (i+1+j) (by omega);by_cases h:vx (f.getD i (0,0,0))=vx (f.getD (i+1+j) (0,0,0));.refine .inr ⟨_,?_,i,i+1+j,s,by omega,rfl⟩;simp only[bg];rw[xS];simp only[abq,jX,gB,dI,eg,ee,arY,arM,aaM,aaN,ed,aY,q,p,dn,gG,agJ,si,cV,h,decide_true,asI];simp
     .refine .inl ⟨[.va (.lst (f.map stW)),.va (.int i),.va (.int ((i+1+j:Nat):Int))],?_,_,rfl⟩;simp only[bg];rw[xS];simp only[abq,jX,gB,dI,eg,ee,arY,arM,aaM,aaN,ed,aY,q,p,dn,gG,agJ,si,cV,h,decide_false];simp);have z:bh [.va (.lst (f.map stW)),.va (.int i),c]=forL (aA 2) bg (rng (i+1) (8-(i+1))) [.va (.lst (f.map stW)),.va (.int i),c]:=by
    have y:(i:Int)+1<4611686018427387904:=by omega
    have v:-4611686018427387904<=(i:Int)+1:=by omega
    have u:(8-((i:Int)+1)).toNat=8-(i+1):=by omega
    show pP _ _ _ _=_;simp[m,y,v,u]
   show(∃a,bh [.va (.lst (f.map stW)),.va (.int i),c]=_/\_)\/∃w,bh [.va (.lst (f.map stW)),.va (.int i),c]=_/\_;rw[z];rcases d with⟨a,e,t,rfl⟩|⟨j,w,_,e,l⟩;.exact .inl ⟨_,e,_,_,rfl⟩
   .exact .inr ⟨w,e,l⟩);rcases h with⟨a,e,o,c,rfl⟩|⟨i,w,_,e,l⟩;.exact⟨.non,by simp[cf,cS,List.replicate,m,e],.inl rfl⟩
 .exact⟨w,by simp[cf,cS,List.replicate,m,e],.inr l⟩
def z8(f)(b:f.length=8):dz [.lst (f.map stW)]=.ok (flW f)\/∃x,dz [.lst (f.map stW)]=.ex x/\Ref x:=by
 obtain⟨w,e,rfl|⟨i,j,d,c,rfl⟩⟩:=acM f b;.exact .inl (by simp[dz,iy,List.replicate,e,flW])
 .have a:=g8 (n:=i) (by omega);have g:=g8 (n:=j) (by omega);exact .inr ⟨_,by simp[dz,iy,List.replicate,e,iE,iz,WL.fieldsOf,a,g],.inr ⟨i,j,d,c,rfl⟩⟩
def Flo(w:W):Prop:=∃f:List S3,w=flW f/\f.length=8/\∀p∈f,Fac p
def afS{w}(hw:Flo w){c}(t:gQ c):∃R,(∀b,Sm b->cx [w,clW c,b]=R)/\((∃v,R=.ok v/\Flo v)\/∃x,R=.ex x/\Ref x):=by
 obtain⟨f,rfl,A,l⟩:=hw;obtain⟨R,m,⟨d,rfl,i,r⟩|⟨x,rfl,B⟩⟩:=akn f A l t
 .obtain⟨g,u,y,q⟩:∃g:List S3,(∀s,bG (aA 0) iZ (eOp oIx (aq 0) (eUn pQ (eC (.int 1)))) (.no::s) d=.ok (g.map stW))/\g.length=d.length/\∀p∈g,Fac p:=by clear m i;induction d with|nil=>exact⟨[],λ_=>rfl,rfl,by simp⟩|cons v d ih=>
    obtain⟨w,rfl,hw,-,l⟩:=r v (by simp);obtain⟨g,e,z,C⟩:=ih λv n=>r v (by simp[n]);refine⟨zV w::g,λs=>?_,by simp[z],λp j=>?_⟩
    .have a:oIx (ahC w) (.int (-1))=.ok (stW (zV w)):=by show ofO (atI (w.map stW) (-1))=_;rw[j1,List.getLast?_map,asE hw,zV,auw,asE hw];rfl
     simp[bG,a,e]
    .rcases arx.mp j with rfl|j;.exact l _ (uu hw)
     .exact C p j
  have k:d.length<=1000000:=by omega
  refine⟨dz [.lst (g.map stW)],λb o=>?_,?_⟩;.simp[cx,l8,m b o,k,List.replicate,u,ads]
  .rcases z8 g (by omega)with e|h;.exact .inl ⟨_,e,g,rfl,by omega,q⟩
   .exact .inr h
 .exact⟨.ex x,λb o=>by simp[cx,l8,m b o],.inr ⟨x,rfl,B⟩⟩
def amg{x}(h:Ref x):∃k,cN [x]=.ok k/\iE k=false/\okD 49 k=true/\aZ k=true/\eZ k=[]:=by
 rcases h with⟨d,-,rfl|rfl⟩|⟨i,j,-,-,rfl⟩;.exact⟨.tup [.str "blind",.int d],by kernel_rfl,rfl,by simp,rfl,rfl⟩
 .exact⟨.tup [.str "out",.int d],by kernel_rfl,rfl,by simp,rfl,rfl⟩
 .exact⟨.tup [.str "meet",.int i,.int j],rfl,rfl,by simp,rfl,rfl⟩
def ak5{x}(h:Ref x):isC ["Blind","Out","Meet"] x=true/\jk "FloorError" x=true/\iE x=false:=by rcases h with⟨d,-,rfl|rfl⟩|⟨i,j,-,-,rfl⟩<;>exact⟨rfl,rfl,rfl⟩
section
variable{a r:Nat}{l:List W}{w sm c v x k D its:W}{nm:Str}
def apl(h:cx [w,c,.non]=.ok v):cO [w,c]=.ok (.tup [v,.non]):=by simp[cO,ff,dD,h]
def apm(h:cx [w,c,.non]=.ex x)(b:Ref x)(e:cN [x]=.ok k):cO [w,c]=.ok (.tup [.non,k]):=by obtain⟨-,g,f⟩:=ak5 b;rcases b with⟨d,-,rfl|rfl⟩|⟨i,j,-,-,rfl⟩<;>simp[cO,ff,dD,ft,h,pq,f,e]
noncomputable abbrev BB(D:W):W:=.ins "Book" [D]
def amO(b:br [BB D,.str nm]=.ok c)(h:cx [w,c,.non]=.ok v)(e:plain v=true)(d:l.length<=100){o6 o7}:cF [.va (BB D),.va w,.va its,.ow l,.va (.str "call"),.va (.str nm),o6,o7]=.nx [.va (BB D),.va v,.va its,.ow (l++[v]),.va (.str "call"),.va (.str nm),.va v,.va .non]:=by
 have z:l.length<1000000:=by omega
 simp[cF,gO,isI,b,apl h,z]
def amP(b:br [BB D,.str nm]=.ok c)(h:cx [w,c,.non]=.ex x)(d:Ref x)(e:cN [x]=.ok k)(f:iE k=false){o6 o7}:cF [.va (BB D),.va w,.va its,.ow l,.va (.str "call"),.va (.str nm),o6,o7]=.rt (.tup [.str "broken",.int l.length,k]):=by simp[cF,gO,isI,b,apm h d e,f]
noncomputable abbrev DS(a:Nat)(nm:Str)(sm:W)(b x5:Sl):Ws:=[.va (.id a),.va (.str nm),.va sm,.va (.bl false),b,x5,.no]
def amS:aj7 Rn.a Rn.val 0 4 (eOp zN (eBi lQ (ae (jY "Run" 1 (aq 0)) au)) (eC (.int 1))) (DS a nm sm .no .no) ⟨a,r,BB D,l++[w]⟩=.nx (DS a nm sm (.va (.int l.length)) .no) ⟨a,r,BB D,l++[w]⟩:=by simp[aj7,seen,jY,ai6,Rn.val]
def agY(b:br [BB D,.str nm]=.ok c)(h:l.length<400):gA [.id a,.str nm,sm,.bl false] ⟨a,r,BB D,l++[w]⟩=vj ["Blind","Out","Meet"] 4 (dk cC (ae (eOp oIx (jY "Run" 1 (aq 0)) (eUn pQ (eC (.int 1)))) (ae (aq 5) (ae (aq 2) (ae (aq 3) au))))) (DS a nm sm (.va (.int l.length)) (.va c)) ⟨a,r,BB D,l++[w]⟩:=by
 show aaJ _ _ (DS a nm sm .no .no) _=_;unfold aaJ;rw[amS];have e:¬(l.length:Int)=400:=by omega
 have d:rX (sIf (tB (eOp oEq (aq 4) (eC gH))) lT sNx) (DS a nm sm (.va (.int l.length)) .no) (⟨a,r,BB D,l++[w]⟩:Rn)=.nx (DS a nm sm (.va (.int l.length)) .no) ⟨a,r,BB D,l++[w]⟩:=by simp[rX,gH,e]
 have f:aaV Rn.a Rn.ajG 0 5 (gO "Book" br (jY "Run" 0 (aq 0)) (ae (aq 1) au)) (DS a nm sm (.va (.int l.length)) .no) ⟨a,r,BB D,l++[w]⟩=.nx (DS a nm sm (.va (.int l.length)) (.va c)) ⟨a,r,BB D,l++[w]⟩:=by simp[aaV,seen,jY,ai6,Rn.ajG,gO,isI,b]
 simp only[aaJ,d,f]
def u7(R)(b:cx [w,c,sm]=R):cC [w,c,sm,.bl false]=R:=by cases R<;>simp[cC,fu,b]<;>rfl
abbrev GS(a:Nat)(w1:W)(b x5:Sl):Ws:=[.va (.id a),.va w1,.va ALL,.va (.bl false),b,x5]
noncomputable abbrev cal(x:Str):W:=.tup [.str "call",.str x]
def acY{fs x5}:bu (GS a its (.va (cal nm)) x5) ⟨a,r,BB D,fs⟩=ofM (GS a its (.va (cal nm)) x5) (gA [.id a,.str nm,ALL,.bl false] ⟨a,r,BB D,fs⟩):=by show aj8 _ _ _=_;rw[show xT _ Rn.val 0 _ _ _=.ok true by simp[xT,seen]];rw[show∀A B,aj8 _ A B=A from λ_ _=>rfl];simp[gU,axP,axN]
def akU{x5}(b:br [BB D,.str nm]=.ok c)(h:l.length<400)(d:cx [w,c,ALL]=.ok v)(e:plain v=true):bu (GS a its (.va (cal nm)) x5) ⟨a,r,BB D,l++[w]⟩=.nx (GS a its (.va (cal nm)) x5) ⟨a,r,BB D,l++[w]++[v]⟩:=by
 rw[acY,agY b h];have z:l.length+1<1000000:=by omega
 simp[vj,seen,jY,ai6,Rn.val,j1,u7 _ d,e,z,ofM]
def aoz{x5}(b:br [BB D,.str nm]=.ok c)(h:l.length<400)(d:cx [w,c,ALL]=.ex x)(e:Ref x):bu (GS a its (.va (cal nm)) x5) ⟨a,r,BB D,l++[w]⟩=.ex (.exc "Broken" [.int l.length,x]) (GS a its (.va (cal nm)) x5):=by rw[acY,agY b h];have z:=g8 (n:=l.length) (by omega);simp[vj,seen,jY,ai6,Rn.val,j1,u7 _ d,z,(ak5 e).1,ofM]
end
noncomputable def xlp{S}(o:OX S)(f:Ws->S->OX S):OX S:=match o with|.nx σ s=>f σ s|.ct σ s=>f σ s|.bk σ s=>.nx σ s|o=>o
def o8{S}(k)(b:RF S)(x xs σ s):ml k b (x::xs) σ s=xlp (b (σ.set k (.va x)) s) (ml k b xs):=rfl
def Nm(D:W)(nm:Str):Prop:=∃c,br [BB D,.str nm]=.ok (clW c)/\gQ c
def tE{w}(h:Flo w):plain w=true:=by obtain⟨f,rfl,-,-⟩:=h;exact ab9 f
abbrev Due(D its:W)(ns:List Str)(w:W)(l:List W)(a b o6 o7:Sl):Out:=forL (vg (di (aA 4) (di (aA 5) vh))) cF (ns.map cal) [.va (BB D),.va w,.va its,.ow l,a,b,o6,o7]
abbrev Rgo(D its:W)(ns:List Str)(a r:Nat)(fs:List W)(b:Sl):OX Rn:=ml 4 bu (ns.map cal) (GS a its b .no) ⟨a,r,BB D,fs⟩
theorem both{D its F}:∀d w l b,(∀n∈d,Nm D n)->F::l=b++[w]->Flo w->(∀v∈l,Flo v)->l.length+d.length<=60->(∃fs,(∀v∈fs,Flo v)/\(∀f e o6 o7,∃G H J M K,Due D its d w l f e o6 o7=.nx [.va (BB D),.va G,.va its,.ow fs,H,J,M,K])/\(∀a r g,∃A,Rgo D its d a r (F::l) g=.nx A ⟨a,r,BB D,F::fs⟩)/\fs.length<=60)\/∃(n:Nat)(x k:W),Ref x/\cN [x]=.ok k/\(okD 49 k=true/\aZ k=true/\eZ k=[])/\(∀f e o6 o7,Due D its d w l f e o6 o7=.rt (.tup [.str "broken",.int n,k]))/\∀a r g,∃A,Rgo D its d a r (F::l) g=.ex (.exc "Broken" [.int n,x]) A
|[],w,l,b,_,_,_,hl,hn=>.inl ⟨l,hl,λf e o6 o7=>⟨w,f,e,o6,o7,rfl⟩,λa r g=>⟨_,rfl⟩,hn⟩|nm::d,w,l,b,hn,hp,hw,hl,hlen=>by
  obtain⟨c,j,ok⟩:=hn nm (by simp);have z:b.length=l.length:=by have:=asZ List.length hp;simpa using this.symm
  have s:l.length+(d.length+1)<=60:=hlen;obtain⟨R,o,⟨v,rfl,m⟩|⟨x,rfl,p⟩⟩:=afS hw ok
  .have I:=o .non (.inl rfl);have N:=o ALL (.inr rfl);have E:∀f e o6 o7,Due D its (nm::d) w l f e o6 o7=Due D its d v (l++[v]) (.va (.str "call")) (.va (.str nm)) (.va v) (.va .non):=λf e o6 o7=>by have:=amO (its:=its) (l:=l) j I (tE m) (by omega) (o6:=o6) (o7:=o7);simp[Due,cA,this]
   have B:∀a r g,Rgo D its (nm::d) a r (F::l) g=Rgo D its d a r (F::(l++[v])) (.va (cal nm)):=λa r g=>by have:=akU (a:=a) (r:=r) (its:=its) (x5:=.no) (l:=b) j (by omega) N (tE m);rw[<-hp]at this;show ml _ _ _ _ _=_;rw[arv,o8];show xlp (bu (GS a its (.va (cal nm)) .no) _) _=_;rw[this];rfl
   rcases both d v (l++[v]) (F::l) (λn h=>hn n (by simp[h])) rfl m (λu i=>by
    rcases arN.mp i with i|i;.exact hl u i
    .rw[arW.mp i];exact m) (by simp;omega)with⟨fs,h1,h2,h3,h6⟩|⟨n,y,k,h1,h2,h3,h4,h5⟩;.exact .inl ⟨fs,h1,λf e o6 o7=>by rw[E];exact h2 _ _ _ _,λa r g=>by rw[B];exact h3 _ _ _,h6⟩
   .exact .inr ⟨n,y,k,h1,h2,h3,λf e o6 o7=>by rw[E];exact h4 _ _ _ _,λa r g=>by rw[B];exact h5 _ _ _⟩
  .obtain⟨k,C,q,t⟩:=amg p;refine .inr ⟨l.length,x,k,p,C,t,λf e o6 o7=>?_,λa r g=>⟨GS a its (.va (cal nm)) .no,?_⟩⟩;.have:=amP (its:=its) (l:=l) j (o .non (.inl rfl)) p C q (o6:=o6) (o7:=o7);simp[Due,cA,this]
   .have:=aoz (a:=a) (r:=r) (its:=its) (x5:=.no) (l:=b) j (by omega) (o ALL (.inr rfl)) p;rw[<-hp,z]at this;show ml _ _ _ _ _=_;rw[arv,o8];show xlp (bu (GS a its (.va (cal nm)) .no) _) _=_;rw[this];rfl
noncomputable def aqN(σ:Ws):Res W->Out|.ok w=>.rt w|.ex c=>.ex c (List.replicate σ.length .no)|.bad=>.bad
def aeG{i t σ j d g o}(k:i σ=.ok [d,g])(h:yY t σ j d g o):i3 j i t σ=aqN σ o:=by
 unfold i3;rw[k];have f:∃o,yY t σ j d g o:=⟨o,h⟩;dsimp ;rw[dif_pos f];have e:Classical.choose f=o:=by have b:=Classical.choose_spec f 0 0;have a:=h 0 0;cases e:t _ _ with|rt w s=>rw[e]at b a;rw[a];exact b|ex c σ'=>rw[e]at b a;rw[a.1];exact b.1|_=>rw[e]at a;exact a.elim
 rw[e];cases o<;>rfl
section
variable{D F c:W}{ns:List Str}{fs:List W}
abbrev ITS(ns:List Str):W:=.lst (ns.map cal)
def go_eq{a r}:eY [.id a,ITS ns,ALL,.bl false] ⟨a,r,BB D,[F]⟩=Rgo D (ITS ns) ns a r [F] .no:=rfl
def abP{o}(h:∀a r,(∃b fs,Rgo D (ITS ns) ns a r [F] .no=.nx b ⟨a,r,BB D,F::fs⟩/\o=.ok (.lst fs))\/∃c b,Rgo D (ITS ns) ns a r [F] .no=.ex c b/\o=.ex c):adt [BB D,F,ITS ns]=o:=by
 have q:yY (aaJ (gU 3 eY (axP (aq 2) (axP (eLR (eC cg)) (axP (eC (.bl false)) axN)))) (aaW 3 (eSl (jY "Run" 1 (aq 3)) (nz (eC (.int 1))) pNo))) [.va (BB D),.va F,.va (ITS ns),.no] 3 (BB D) F o:=by
  intro a r;have d:∀b,eLR (eC cg) b=.ok ALL:=λb=>rfl;have f:gU 3 eY (axP (aq 2) (axP (eLR (eC cg)) (axP (eC (.bl false)) axN))) [.va (BB D),.va F,.va (ITS ns),.va (.id a)] ⟨a,r,BB D,[F]⟩=ofM [.va (BB D),.va F,.va (ITS ns),.va (.id a)] (Rgo D (ITS ns) ns a r [F] .no):=by rw[<-go_eq];simp[gU,axP,axN,d]
  unfold aaJ;simp only[arY,arM,f];rcases h a r with⟨b,fs,e,rfl⟩|⟨c,b,e,rfl⟩
  .have g:cut (F::fs) (some 1) none=fs:=by simp[cut,sIx]
   rw[e];simp[ofM,aaW,seen,jY,ai6,Rn.val,g]
  .rw[e];exact⟨rfl,rfl⟩
 show run 4 ahP _=_;rw[run_eq];show fin (i3 3 _ _ [.va (BB D),.va F,.va (ITS ns),.no])=_;rw[aeG rfl q];cases o<;>rfl
end
def aiD{w}(h:Flo w)(n):okD (n+2) w=true:=by obtain⟨f,rfl,-,-⟩:=h;exact alG n f
theorem adn:∀f:List S3,bI (f.map stW)=true/\cy (f.map stW)=[]|[]=>⟨rfl,rfl⟩|p::f=>adn f
theorem yH:∀{vs},(∀v∈vs,Flo v)->bI vs=true/\cy vs=[]|[],_=>⟨rfl,rfl⟩|v::vs,h=>by obtain⟨f,rfl,-,-⟩:=h v (by simp);have a:=adn f;have b:=yH (vs:=vs) λu c=>h u (by grind);exact⟨by show(bI _&&bI vs)=true;rw[a.1,b.1];rfl,by show cy _++cy vs=[];rw[a.2,b.2];rfl⟩
def kj{a b σ σ'}(h:a σ=.nx σ'):aaK a b σ=b σ':=by unfold aaK;rw[h]
def ah5{a b σ w}(h:a σ=.rt w):aaK a b σ=.rt w:=by unfold aaK;rw[h]
section
variable{D F:W}{ns:List Str}
abbrev TS(D F:W)(ns:List Str)(b a:Sl):Ws:=[.va (BB D),.va F,.va (ITS ns),b,a,.no]
def aqY{fs}(h:adt [BB D,F,ITS ns]=.ok (.lst fs)):cw [BB D,F,ITS ns]=.bk (TS D F ns (.va .non) (.ow fs)):=by
 rw[show cw _=fK _ from rfl];refine(kj (σ':=TS D F ns (.va .non) .no) ?_).trans ((kj (σ':=TS D F ns (.va .non) (.va .non)) ?_).trans ((kj (σ':=TS D F ns (.va .non) (.ow fs)) ?_).trans ?_));.rfl
 .rfl
 .simp[fc,lOf,h,asL]
 .rfl
def aqZ{n x k}(h:adt [BB D,F,ITS ns]=.ex (.exc "Broken" [n,x]))(c:cN [x]=.ok k):cw [BB D,F,ITS ns]=.rt (.tup [.str "broken",n,k]):=by
 rw[show cw [BB D,F,ITS ns]=fK (TS D F ns .no .no)from rfl,fK];have d:iE (.exc "Broken" [n,x])=false:=rfl;have b:agW (aq 3) "at" (TS D F ns (.va (.exc "Broken" [n,x])) (.va .non))=.ok n:=rfl;have a:agW (aq 3) "why" (TS D F ns (.va (.exc "Broken" [n,x])) (.va .non))=.ok x:=rfl;refine(kj (σ':=TS D F ns (.va .non) .no) ?_).trans ((kj (σ':=TS D F ns (.va .non) (.va .non)) ?_).trans ((kj (σ':=TS D F ns (.va (.exc "Broken" [n,x])) (.va .non)) ?_).trans ?_));.rfl
 .rfl
 .simp[fc,gX,lOf,h,pq]
 refine ah5 ?_;simp[b,a,c,pq]
end
def afR{D F ns}(d:∀n∈ns,Nm D n)(g:Flo F)(h:ns.length<=60):∃T,ie [BB D,F,ITS ns]=.ok T/\dw [BB D,F,ITS ns]=.ok T/\okD 50 T=true/\((∃fs b,T=.tup [.str "floors",.lst fs]/\cw [BB D,F,ITS ns]=.bk b/\b[4]?=some (.ow fs)/\(bI fs=true/\cy fs=[])/\fs.length<=60)\/∃n k,T=.tup [.str "broken",n,k]/\cw [BB D,F,ITS ns]=.rt T/\aZ T=true/\eZ T=[]):=by
 rcases both (F:=F) (its:=ITS ns) ns F [] [] d rfl g (by simp) (by simpa using h)with⟨fs,h1,h2,h3,h6⟩|⟨n,x,k,h1,h2,⟨h3,h6,h7⟩,h4,h5⟩;.obtain⟨l,m,i,p,j,e⟩:=h2 .no .no .no .no;have c:=aqY (abP (o:=.ok (.lst fs)) λa r=>.inl (let⟨b,e⟩:=h3 a r .no;⟨b,fs,e,rfl⟩));refine⟨.tup [.str "floors",.lst fs],by simp[ie,jy,List.replicate,e],by unfold dw;rw[c];rfl,?_,.inl ⟨fs,_,rfl,c,rfl,yH h1,h6⟩⟩;have:=iA 48 fs λv f=>aiD (h1 v f) 46;simpa using this
 .have e:=h4 .no .no .no .no;have c:=aqZ (abP (o:=.ex (.exc "Broken" [.int n,x])) λa r=>.inr (let⟨b,e⟩:=h5 a r .no;⟨_,b,e,rfl⟩)) h2;refine⟨.tup [.str "broken",.int n,k],by simp[ie,jy,List.replicate,e],by unfold dw;rw[c];rfl,by simp[h3],.inr ⟨.int n,k,rfl,c,?_,?_⟩⟩;.show(aZ k&&true)=true;rw[h6];rfl
  .show eZ k++[]=[];rw[h7];rfl
def tw:Tst->List Str|.lone l=>[l.w]|.at a r w=>["at",toString a,toString r,w.w]|.inner n=>["inner",toString n]
def nw(p:Bool×Tst):List Str:=if p.1 then("not":Str)::tw p.2 else tw p.2
def sw:Stp->List Str|.go g n=>[g.w,toString n]|.turn t=>["turn",t.w]
noncomputable def okW(w:Str):Bool:=(w.cps.toList.all λc=>c !=32&&c !=59&&c !=62&&Nat.ble c 127)&&Nat.ble w.length 10&&Nat.ble 1 w.length&&w.cps.toList !=[97,110,100]
set_option maxRecDepth 1000000 in theorem aix:((List.range 210).all λj=>okW (toString (Int.ofNat j-9)))=true:=by decide+kernel
def yd{k}(a:-9<=k)(b:k<=200):okW (toString k)=true:=by
 have h:=arV.mp aix (k+9).toNat (asd.mpr (by omega));have e:Int.ofNat (k+9).toNat-9=k:=by grind
 rw[e]at h;exact h
def amX(lo a k:Int):Bool:=match eU [.str (toString k:Str),.int lo,.int a]with|.ok (.int j)=>j==k|_=>false
set_option maxRecDepth 1000000 in theorem ape:((List.range 19).all λj=>amX (-9) 9 (Int.ofNat j-9))=true:=by decide+kernel
def abQ(i:Int):Bool:=(List.range 21).all λj=>amX 0 200 (i*21+Int.ofNat j)||Nat.blt 200 (i*21+Int.ofNat j).toNat
set_option maxRecDepth 1000000 in theorem ak4:abQ 0=true:=by decide+kernel
set_option maxRecDepth 1000000 in theorem ak3:abQ 1=true:=by decide+kernel
set_option maxRecDepth 1000000 in theorem ak2:abQ 2=true:=by decide+kernel
set_option maxRecDepth 1000000 in theorem ak1:abQ 3=true:=by decide+kernel
set_option maxRecDepth 1000000 in theorem ak0:abQ 4=true:=by decide+kernel
set_option maxRecDepth 1000000 in theorem akZ:abQ 5=true:=by decide+kernel
set_option maxRecDepth 1000000 in theorem akY:abQ 6=true:=by decide+kernel
set_option maxRecDepth 1000000 in theorem akX:abQ 7=true:=by decide+kernel
set_option maxRecDepth 1000000 in theorem akW:abQ 8=true:=by decide+kernel
set_option maxRecDepth 1000000 in theorem akV:abQ 9=true:=by decide+kernel
def apc{i}(a:0<=i)(b:i<=9):abQ i=true:=by
 have h:i=0\/i=1\/i=2\/i=3\/i=4\/i=5\/i=6\/i=7\/i=8\/i=9:=by omega
 rcases h with rfl|rfl|rfl|rfl|rfl|rfl|rfl|rfl|rfl|rfl;.exact ak4
 .exact ak3
 .exact ak2
 .exact ak1
 .exact ak0
 .exact akZ
 .exact akY
 .exact akX
 .exact akW
 .exact akV
set_option maxRecDepth 1000000 in theorem apb:((List.range 9).all λj=>amX 1 9 (Int.ofNat j+1))=true:=by decide+kernel
set_option tactic.hygienic true in
def wZ{lo a k}(h:amX lo a k=true):eU [.str (toString k),.int lo,.int a]=.ok (.int k):=by
 unfold amX at h;split at h;.rename_i j e;rw[e,eq_of_beq h]
 .cases h
def qG{lo a k}(h:eU [.str (toString k),.int lo,.int a]=.ok (.int k)):aU [.str (toString k),.int lo,.int a]=.ok (.int k):=by generalize toString k=s at *;simp[aU,gi,h]
def agB{k}(a:-9<=k)(b:k<=9):aU [.str (toString k),.int (-9),.int 9]=.ok (.int k):=by
 have h:=arV.mp ape (k+9).toNat (asd.mpr (by omega));have e:Int.ofNat (k+9).toNat-9=k:=by grind
 rw[e]at h;exact qG (wZ h)
def ak7{k}(a:0<=k)(b:k<=200):aU [.str (toString k),.int 0,.int 200]=.ok (.int k):=by
 have h:=arV.mp (apc (i:=k/21) (by omega) (by omega)) (k%21).toNat (asd.mpr (by omega));have e:k/21*21+Int.ofNat (k%21).toNat=k:=by grind
 rw[e,at0]at h;rcases h with h|h;.exact qG (wZ h)
 .have:201<=k.toNat:=by simpa[Nat.blt]using h
  omega
def ak6{k}(a:1<=k)(b:k<=9):aU [.str (toString k),.int 1,.int 9]=.ok (.int k):=by
 have h:=arV.mp apb (k-1).toNat (asd.mpr (by omega));have e:Int.ofNat (k-1).toNat+1=k:=by grind
 rw[e]at h;exact qG (wZ h)
structure TOk(t:Tst):Prop where at':∀a r w,t=.at a r w->-9<=a/\a<=9/\-9<=r/\r<=9/\¬(a=0/\r=0)inner:∀n,t=.inner n->0<=n/\n<=200
def aiy(l:Lone):okW l.w=true:=by cases l<;>decide+kernel
def aiu(l:What):okW l.w=true:=by cases l<;>decide+kernel
def aoS(l:Go):okW l.w=true:=by cases l<;>decide+kernel
def aoR(l:Tn):okW l.w=true:=by cases l<;>decide+kernel
def alC{t}(h:TOk t):∀w∈tw t,okW w=true:=by
 cases t with|lone l=>intro w hw;simp[tw]at hw;subst hw;exact aiy l|«at» a r w=>
 obtain⟨c,d,e,f,_⟩:=h.at' a r w rfl;intro x b;simp only[tw,arx,ar5,atc]at b;rcases b with rfl|rfl|rfl|rfl;.decide+kernel
 .exact yd c (by omega)
 .exact yd e (by omega)
 .exact aiu w|inner n=>
 obtain⟨c,d⟩:=h.inner n rfl;intro x b;simp only[tw,arx,ar5,atc]at b;rcases b with rfl|rfl;.decide+kernel
 .exact yd (by omega) d
def vU{p}(h:TOk p.2):∀w∈nw p,okW w=true:=by
 intro w hw;unfold nw at hw;split at hw
 .rcases arx.mp hw with rfl|hw;.decide+kernel
  .exact alC h w hw
 .exact alC h w hw
def afd{s}(h:s.Ok):∀w∈sw s,okW w=true:=by
 cases s with|go g n=>
 obtain⟨b,c⟩:=h;intro x a;simp only[sw,arx,ar5,atc]at a;rcases a with rfl|rfl;.exact aoS g
 .exact yd (by omega) (by omega)|turn t=>
 intro x a;simp [sw,atc]at a;rcases a with rfl|rfl;.decide+kernel
 .exact aoR t
def oN{w}(h:okW w=true):(32∉w.cps.toList/\59∉w.cps.toList/\62∉w.cps.toList)/\w.length<=10/\1<=w.length/\w.cps.toList≠[97,110,100]:=by unfold okW at h;simp only[ary,atm,arV,bne_iff_ne,ne_eq]at h;obtain⟨⟨⟨a,c⟩,d⟩,b⟩:=h;exact⟨⟨λz=>(a _ z).1.1.1 rfl,λz=>(a _ z).1.1.2 rfl,λz=>(a _ z).1.2 rfl⟩,c,d,b⟩
def aoT{w}(h:okW w=true)(n):okD n (.str w)=true:=by unfold okW at h;simp only[ary,atm,arV]at h;obtain⟨⟨⟨b,f⟩,d⟩,e⟩:=h;show w.cps.all _=true;rw[<-Array.all_toList,arV];intro c a;have:=(b c a).2;exact atg (by omega)
def tw_ne(t):tw t≠[]:=by cases t<;>simp[tw]
def acA(p):nw p≠[]:=by
 unfold nw;split;.simp
 .exact tw_ne _
def tw_len(t):(tw t).length<=4:=by cases t<;>simp[tw]
def acB(p):(nw p).length<=5:=by have:=tw_len p.2;unfold nw;split<;>simp<;>omega
def l9{x y}(c:y.cps.toList≠[])(a:Builtin.Str.strKind y=1)(b:x.length<=1000000):fQ (.str x) [.str y]=.ok (.lst ((SF.fL x y).map .str)):=by exact arj ⟨λz=>c (by simp[Str.length]at z;simp[z]),a,b⟩
theorem strs_map:∀ws,strsOf (ws.map .str)=some ws|[]=>rfl|w::ws=>by simp[strsOf,strs_map _]
theorem abt(M):∀ws:List Str,(∀w∈ws,w.length<=M)->(ws.map (·.length)).sum<=ws.length*M|[],_=>by simp|w::ws,h=>by have:=abt M ws λx a=>h x (by simp[a]);have:=h w (by simp);simp [arv,List.sum_cons,arw,auN];omega
def ac6{x ws}(M N)(h:∀w∈ws,w.length<=M)(a:ws.length<=N)(c:N*M+N*x.length<=1000000):lX (.str x) [.lst (ws.map .str)]=.ok (.str (SG.J x ws)):=by have b:=abt M _ h;have e:ws.length*M<=N*M:=atn _ a;have d:ws.length*x.length<=N*x.length:=atn _ a;show(match strsOf _ with|some ys=>if(ys.map _).sum+ys.length*x.length<=lim then Res.ok _ else .bad|none=>.bad)=_;rw[strs_map];exact arj (show _<=1000000 by omega)
def am4{x ws}(M N)(h:∀w∈ws,w.length<=M)(a:ws.length<=N):(SG.J x ws).length<=N*M+N*x.length:=by have b:=SG.ap0 x ws;have c:=abt M _ h;have e:ws.length*M<=N*M:=atn _ a;have d:ws.length*x.length<=N*x.length:=atn _ a;omega
def yR:(" ":Str).cps.toList=[32]:=rfl
def wW:(" and ":Str).cps.toList=[32,97,110,100,32]:=rfl
def rN:(" ; ":Str).cps.toList=[32,59,32]:=rfl
def yS:(" > ":Str).cps.toList=[32,62,32]:=rfl
def og:("> ":Str).cps.toList=[62,32]:=rfl
def mP{ws}(hw:ws≠[])(h:∀w∈ws,okW w=true):SF.fL (SG.J " " ws) " "=ws:=by refine SG.vz _ (by rw[yR];simp) _ hw (SG.mh ⟨[],rfl⟩ _ λp a r _=>?_);obtain⟨w,hw,rfl⟩:=arC.mp a;exact SG.no_space (oN (h w hw)).1.1 r
def zy{t}(h:TOk t):bq [.lst ((tw t).map .str)]=.ok t.W:=by
 cases t with|lone l=>cases l<;>kernel_rfl|«at» a r w=>
  obtain⟨c,f,k,o,m⟩:=h.at' a r w rfl;have e:=agB c f;have i:=agB k o;have d:oEq (.str "at") (.str "at")=.ok (.bl true):=by kernel_rfl
  have b:fO (.str (w.w:Str)) rS=.ok (.bl false):=by cases w<;>kernel_rfl
  simp only[tw,Tst.W,arv,as1];generalize(toString a:Str)=A at *;generalize(toString r:Str)=R at *;generalize(w.w:Str)=S at *;have j:ic [.lst [.str "at",.str A,.str R,.str S]]=.ok (.tup [.str "at",.int a,.int r,.str S]):=by
   by_cases g:a=0;.have q:¬r=0:=λz=>m ⟨g,z⟩;simp[ic,jx,List.replicate,b,bJ,e,i,g,q]at e⊢
   .simp[ic,jx,List.replicate,b,bJ,e,i,g]
  simp[bq,ck,List.replicate,d,j]|inner n=>
  obtain⟨c,f⟩:=h.inner n rfl;have p:=ak7 c f;have d:oEq (.str "inner") (.str "at")=.ok (.bl false):=by kernel_rfl
  have b:oEq (.str "inner") (.str "inner")=.ok (.bl true):=by kernel_rfl
  simp only[tw,Tst.W,arv,as1];generalize(toString n:Str)=A at *;simp[bq,ck,List.replicate,d,b,ib,g6,iP,p]
def tt(p:Bool×Tst):Str:=SG.J " " (nw p)
def ahO{p}(h:TOk p.2):(tt p).length<=60:=by have:=am4 (x:=" ") _ 5 (λw hw=>(oN (vU h w hw)).2.1) (acB p);rw[show(" ":Str).length=1 by decide+kernel]at this;unfold tt;omega
def aqq:Builtin.Str.strKind " "=1:=by decide+kernel
def apn:Builtin.Str.strKind " and "=1:=by decide+kernel
def amq:Builtin.Str.strKind " ; "=1:=by decide+kernel
def sZ{p}(h:TOk p.2):cH [.str (tt p)]=.ok (tsW p.1 p.2):=by
 have c:=l9 (x:=tt p) (y:=" ") (by rw[yR];simp) aqq (by have:=ahO h;omega);rw[show SF.fL (tt p) " "=nw p from mP (acA p) (vU h)]at c;have f:=zy h;obtain⟨b,t⟩:=p;generalize tt (b,t)=T at *;have m:oEq (.str "not") (.str "not")=.ok (.bl true):=by kernel_rfl
 cases b with|true=>
 have e:nw (true,t)=("not":Str)::tw t:=rfl;rw[e]at c;have d:0<(tw t).length:=at8.mpr (tw_ne t);have k:cut (.str ("not":Str)::(tw t).map W.str) (some 1) none=(tw t).map .str:=by simp[cut,sIx,atM]
 simp only[arv]at c;simp[cH,eM,List.replicate,c,d,m,k,f,tsW];omega|false=>
 have e:nw (false,t)=tw t:=rfl;rw[e]at c;obtain⟨g,i,j⟩:∃g:Str,(tw t)[0]?=some g/\¬g=("not":Str):=by cases t with|lone l=>exact⟨_,rfl,by cases l<;>decide+kernel⟩|«at» a r w=>exact⟨_,rfl,by decide+kernel⟩|inner n=>exact⟨_,rfl,by decide+kernel⟩
 by_cases d:(1:Int)<(tw t).length;.simp[cH,eM,List.replicate,c,d,j,i,f,tsW]
 .simp[cH,eM,List.replicate,c,d,j,i,f,tsW]
def vy{ts}(b:ts≠[])(h:∀p∈ts,TOk p.2):SF.fL (SG.J " and " (ts.map tt)) " and "=ts.map tt:=by
 refine SG.vz _ (by rw[wW];simp) _ (by simpa using b) ?_;rw[wW];refine SG.mh (c:=32) ⟨_,rfl⟩ _ λp f r i=>?_;obtain⟨w,hw,rfl⟩:=arC.mp f;obtain⟨q,d,rfl⟩:=arC.mp hw;have e:(tt q).cps.toList=SG.jn [32] ((nw q).map (·.cps.toList)):=by unfold tt;rw[SG.agc,yR]
 rw[e];refine SG.alQ (λx g=>?_) (λz=>?_) i;.obtain⟨y,a,rfl⟩:=arC.mp g;exact(oN (vU (h q d) y a)).1.1
 .obtain⟨y,a,e⟩:=arC.mp z;exact(oN (vU (h q d) y a)).2.2.2 e
def amW{f}{i:Type}{emb g σ e}{xs:List i}(c:xs.length<=1000000)(h:∀x∈xs,f [emb x]=.ok (g x))(b:(e σ).bind itemsOf=.ok (xs.map emb)):fZ 1 (rT e) (aA 0) iZ (az f (ae (aq 0) au)) σ=.ok (.lst (xs.map g)):=by have a:=ik (g:=aA 0) (t:=iZ) (e:=az f (ae (aq 0) au)) (σ:=.no::σ) (emb:=emb) (f:=g) (xs:=xs) λx d=>⟨_,rfl,rfl,by simp[h x d]⟩;simp[b,c,a,List.replicate]
def qE{ts}(d:ts≠[])(l:ts.length<=6)(h:∀p∈ts,TOk p.2):fk [.str (SG.J " and " (ts.map tt))]=.ok (tsL ts):=by
 have c:=am4 (x:=" and ") (ws:=ts.map tt) 60 6 (λw hw=>by obtain⟨p,a,rfl⟩:=arC.mp hw;exact ahO (h p a)) (by simpa using l);rw[show(" and ":Str).length=5 by decide+kernel]at c;have b:=l9 (x:=SG.J " and " (ts.map tt)) (y:=" and ") (by rw[wW];simp) apn (by omega);rw[vy d h]at b;generalize SG.J " and " (ts.map tt)=T at *;have i:¬(6:Int)<ts.length:=by omega
 rw[at3]at b;have k:=amW (f:=cH) (g:=λp=>tsW p.1 p.2) (xs:=ts) (σ:=[.va (.str T),.va (.lst (ts.map λp=>W.str (tt p)))]) (by omega) (e:=aq 1) (λp a=>sZ (h p a)) rfl;have j:fQ (.str T) [.str " and "]=.ok (.lst (ts.map λp=>W.str (tt p))):=b;simp[fk,gY,List.replicate,j,lL,i,tsL,k,-mj]
def hQ{s}(h:s.Ok):∃u v,sw s=[u,v]/\cb [.str u,.str v]=.ok s.W:=by cases s with|go g n=>
 obtain⟨b,e⟩:=h;have d:=ak6 b e;have c:oEq (.str (g.w:Str)) (.str "turn")=.ok (.bl false):=by cases g<;>kernel_rfl
 have a:fO (.str (g.w:Str)) dH=.ok (.bl false):=by cases g<;>kernel_rfl
 refine⟨g.w,toString n,rfl,?_⟩;simp only[Stp.W];generalize(toString n:Str)=A at *;simp[cb,iV,List.replicate,c,a,iQ,d]|turn t=>exact⟨"turn",t.w,rfl,by cases t<;>kernel_rfl⟩
theorem jT:∀{ss:List Stp},(∀s∈ss,s.Ok)->(ss.flatMap sw).length=2*ss.length|[],_=>rfl|s::ss,h=>by obtain⟨u,v,e,_⟩:=hQ (h s (by simp));have:=jT (ss:=ss) λx a=>h x (by grind);simp[e,this];omega
theorem yG:∀{ss:List Stp},(∀s∈ss,s.Ok)->∀i s,ss[i]?=some s->∃u v,(ss.flatMap sw)[2*i]?=some u/\(ss.flatMap sw)[2*i+1]?=some v/\cb [.str u,.str v]=.ok s.W
|[],_,i,s,e=>by simp at e|x::ss,h,0,s,e=>by simp at e;subst e;obtain⟨u,v,e,r⟩:=hQ (h x (by simp));exact⟨u,v,by simp[atf,e],by simp[atf,e],r⟩|x::ss,h,i+1,s,e=>by
 obtain⟨u,v,c,b,r⟩:=yG (ss:=ss) (λy d=>h y (by simp[d])) i s (by simpa using e);obtain⟨g,f,a,_⟩:=hQ (h x (by simp));refine⟨u,v,?_,?_,r⟩;.rw[atf,a,show 2*(i+1)=2*i+1+1 by omega];simpa using c
 .rw[atf,a,show 2*(i+1)+1=2*i+1+1+1 by omega];simpa using b
def stx:Option (List Stp)->Str|none=>"stay"|some ss=>SG.J " " (ss.flatMap sw)
structure SOk(o:Option (List Stp)):Prop where h:∀ss,o=some ss->ss≠[]/\ss.length<=8/\∀s∈ss,s.Ok
def abv{o}(h:SOk o):(stx o).length<=200:=by cases o with|none=>decide+kernel|some ss=>obtain⟨_,c,a⟩:=h.h ss rfl;have d:=jT a;have:=am4 (x:=" ") _ 16 (λw hw=>by obtain⟨s,b,hw⟩:=atP.mp hw;exact(oN (afd (a s b) w hw)).2.1) (by omega);rw[show(" ":Str).length=1 by decide+kernel]at this;show(SG.J " " _).length<=200;omega
def agI(x y):oEq (.str x) (.str y)=.ok (.bl (x==y)):=rfl
def qF{o}(h:SOk o):dP [.str (stx o)]=.ok (ssW o):=by cases o with|none=>kernel_rfl|some ss=>
  obtain⟨m,X,k⟩:=h.h ss rfl;have d:=jT k;have B:0<ss.length:=at8.mpr m;have A:ss.flatMap sw≠[]:=λz=>by rw[z]at d;simp at d;omega
  have l:∀w∈ss.flatMap sw,okW w=true:=λw hw=>by obtain⟨s,j,hw⟩:=atP.mp hw;exact afd (k s j) w hw
  have b:SF.fL (stx (some ss)) " "=ss.flatMap sw:=mP A l;have H:=abv h;have n:(stx (some ss)==("stay":Str))=false:=by
   rw[asu];intro z;have z:stx (some ss)=("stay":Str):=eq_of_beq z;rw[z]at b;have:(SF.fL ("stay":Str) " ").length=1:=by decide+kernel
   rw[b]at this;omega
  have j:=l9 (x:=stx (some ss)) (y:=" ") (by rw[yR];simp) aqq (by omega);rw[b]at j;have C:=agI (stx (some ss)) "stay";rw[n]at C;generalize stx (some ss)=T at *;have S:(((ss.flatMap sw).length:Int)-0+1)/2=ss.length:=by rw[d];omega
  have J:-(2^60:Int)<=0/\(0:Int)<2^60/\-(2^60:Int)<=((ss.flatMap sw).length:Int)/\((ss.flatMap sw).length:Int)<2^60:=by omega
  have c:zZ (eC (.int 0)) (eBi lQ (ae (aq 1) au)) [.va (.str T),.va (.lst ((ss.flatMap sw).map .str))]=.ok (abS 0 2 ss.length):=by show((eC (.int 0)) _:Res W).bind _=_;simp only[afQ,aY,adE,dI,eg,ee,aaM,aaN,ed,af7,arB];rw[arj J,S];simp
  have a:=ik (g:=aA 0) (t:=iZ) (e:=az cb (ae (eOp oIx (aq 2) (aq 0)) (ae (eOp oIx (aq 2) (eOp iN (aq 0) (eC (.int 1)))) au))) (σ:=[.no,.va (.str T),.va (.lst ((ss.flatMap sw).map .str))]) (emb:=λi:Nat=>W.int (0+(i:Nat)*2)) (f:=λi:Nat=>(ss[i]?.map Stp.W).getD .non) (xs:=List.range ss.length) λi c=>⟨_,rfl,rfl,by
    have c:i<ss.length:=asd.mp c;obtain⟨u,v,P,E,r⟩:=yG k i ss[i] (art c);have O:(0:Int)+(i:Nat)*2=((2*i:Nat):Int):=by omega
    have N:((2*i:Nat):Int)+1=((2*i+1:Nat):Int):=by omega
    have R:oIx (.lst ((ss.flatMap sw).map .str)) (.int ((2*i:Nat):Int))=.ok (.str u):=by rw[kB,jm,arL,P];rfl
    have I:oIx (.lst ((ss.flatMap sw).map .str)) (.int ((2*i+1:Nat):Int))=.ok (.str v):=by rw[kB,jm,arL,E];rfl
    rw[O];simp only[gB,gG,dI,eg,jX,ee,afQ,aaM,aaN,ed,aY,arM,afh,N,R,I,r,art c,Option.map_some,Option.getD_some]⟩;have M:(List.range ss.length).map (λi:Nat=>(ss[i]?.map Stp.W).getD .non)=ss.map Stp.W:=by
   apply List.ext_getElem;.simp
   .intro i U K;have:i<ss.length:=by simpa using K
    simp[this]
  rw[M]at a;have Q:fZ 1 (zZ (eC (.int 0)) (eBi lQ (ae (aq 1) au))) (aA 0) iZ (az cb (ae (eOp oIx (aq 2) (aq 0)) (ae (eOp oIx (aq 2) (eOp iN (aq 0) (eC (.int 1)))) au))) [.va (.str T),.va (.lst ((ss.flatMap sw).map .str))]=.ok (.lst (ss.map Stp.W)):=by
   have D:(abS 0 2 ss.length).length<=1000000:=by simp[abS];omega
   have p:bG (aA 0) iZ (az cb (ae (eOp oIx (aq 2) (aq 0)) (ae (eOp oIx (aq 2) (eOp iN (aq 0) (eC (.int 1)))) au))) [.no,.va (.str T),.va (.lst ((ss.flatMap sw).map .str))] (abS 0 2 ss.length)=.ok (ss.map Stp.W):=a;simp only[mj,afu,c,aY];rw[arj (show(abS 0 2 ss.length).length<=lim from D)];simp only[List.replicate,arJ,aso];rw[p];rfl
  have q:((ss.flatMap sw).length:Int)%2=0:=by rw[d];omega
  have G:¬(2*8:Int)<(ss.flatMap sw).length:=by rw[d];omega
  generalize ss.flatMap sw=fl at *;simp only[dP,gZ,run_eq,arv,as1,arw,asC,List.replicate,arJ,aso,gp,xS,abq,jX,ee,afQ,aaM,aaN,ed,aY,C,si,cV,asq,atb,akS,g9,qA,ajc,ac1,dI,eg,arY,arM];simp[j,q,G,lM,qR,-mj];rw[arl (by omega),Q];simp[ssW]
structure ROk(r:Rl):Prop where ts:∀p∈r.ts,TOk p.2nt:r.ts.length<=6ss:SOk r.ss
def rtx(r:Rl):Str:=if r.ts=[]then("> ":Str)++stx r.ss else SG.J " and " (r.ts.map tt)++(" > ":Str)++stx r.ss
def dA(x y:Str):(x++y).cps.toList=x.cps.toList++y.cps.toList:=by show(x.cps++y.cps).toList=_;simp
def jq(x y:Str):(x++y).length=x.length+y.length:=by show(x.cps++y.cps).size=_;rw[Array.size_append];rfl
theorem zY(c)(a)(d:c∉a):∀b,(∀p∈b,c∉p)->c∉SG.jn a b|[],_=>by simp[SG.jn]|[p],hp=>by simpa[SG.jn]using hp p (by simp)|p::q::b,hp=>by simp only[SG.jn,arN,not_or];exact⟨hp p (by simp),d,zY c a d _ λx e=>hp x (by simp[e])⟩
def alN{p}(h:TOk p.2):62 ∉(tt p).cps.toList/\59 ∉(tt p).cps.toList:=by
 unfold tt;rw[SG.agc];refine⟨zY _ _ (by decide) _ λx a=>?_,zY _ _ (by decide) _ λx a=>?_⟩;.obtain⟨y,b,rfl⟩:=arC.mp a;exact(oN (vU h y b)).1.2.2
 .obtain⟨y,b,rfl⟩:=arC.mp a;exact(oN (vU h y b)).1.2.1
def yk{ts:List (Bool×Tst)}(h:∀p∈ts,TOk p.2):62 ∉(SG.J " and " (ts.map tt)).cps.toList/\59 ∉(SG.J " and " (ts.map tt)).cps.toList:=by
 rw[SG.agc];refine⟨zY 62 _ (by decide) _ λx b=>?_,zY _ _ (by decide) _ λx b=>?_⟩;.obtain⟨w,hw,rfl⟩:=arC.mp b;obtain⟨q,a,rfl⟩:=arC.mp hw;exact(alN (h q a)).1
 .obtain⟨w,hw,rfl⟩:=arC.mp b;obtain⟨q,a,rfl⟩:=arC.mp hw;exact(alN (h q a)).2
def v9{ts:List (Bool×Tst)}(h:∀p∈ts,TOk p.2):62 ∉(SG.J " and " (ts.map tt)).cps.toList:=(yk h).1
def alO{o}(h:SOk o):59 ∉(stx o).cps.toList:=by cases o with|none=>decide+kernel|some ss=>obtain⟨_,_,a⟩:=h.h _ rfl;show 59 ∉(SG.J _ _).cps.toList;rw[SG.agc];refine zY _ _ (by decide) _ λx c=>?_;obtain⟨w,hw,rfl⟩:=arC.mp c;obtain⟨s,b,hw⟩:=atP.mp hw;exact(oN (afd (a s b) w hw)).1.2.1
def xy{ts:List (Bool×Tst)}(h:∀p∈ts,TOk p.2)(c:ts.length<=6):(SG.J " and " (ts.map tt)).length<=400:=by have a:=am4 (x:=" and ") (ws:=ts.map tt) _ 6 (λw hw=>by obtain⟨p,b,rfl⟩:=arC.mp hw;exact ahO (h p b)) (by grind);rw[show(" and ":Str).length=5 by decide+kernel]at a;omega
def abx{x}(h:62∉x.cps.toList)(y):gu (.str (x++" > "++y)) [.str "> "]=.ok (.bl false):=by have e:=SG.pw (x++" > "++y).cps.toList ("> ":Str).cps.toList (by rw[og];simp);show Res.ok _=_;rw[e,og,dA,dA,yS];congr 2;rw[asu];intro z;rw[arX]at z;obtain⟨t,e⟩:=z;cases a:x.cps.toList with|nil=>rw[a]at e;simp at e|cons c r=>rw[a]at e h;simp at e;exact h (e.1▸arD)
def s9{r}(h:ROk r):dv [.str (rtx r)]=.ok r.W:=by
 have b:=qF h.ss;have m:=abv h.ss;unfold rtx;by_cases c:r.ts=[]
 .rw[arj c];have d:gu (.str (("> ":Str)++stx r.ss)) [.str "> "]=.ok (.bl true):=by
   have e:=SG.pw (("> ":Str)++stx r.ss).cps.toList ("> ":Str).cps.toList (by rw[og];simp);rw[SG.dm,SG.dm]at e;show Res.ok (W.bl (Txt.startswith _ _))=_;have l:("> ":Str).cps.toList.isPrefixOf (("> ":Str).cps.toList++(stx r.ss).cps.toList)=true:=by rw[arX];exact⟨_,rfl⟩
   rw[e,dA,l]
  have g:ua (.str (("> ":Str)++stx r.ss)) (.int 2)=.ok (.str (stx r.ss)):=by
   have e:("> ":Str)++stx r.ss=⟨(62::32::(stx r.ss).cps.toList).toArray⟩:=by rw[<-SG.dm (("> ":Str)++stx r.ss),dA,og];rfl
   have a:(("> ":Str)++stx r.ss).length<=1000000:=by rw[jq,show("> ":Str).length=2 by decide+kernel];omega
   show(if(0:Int)<=2/\(("> ":Str)++stx r.ss).length<=lim then Res.ok (W.str (Txt.slice (("> ":Str)++stx r.ss) (some 2) none))else .bad)=_;rw[arj ⟨by decide,a⟩,e,SG.akJ,SG.dm]
  generalize("> ":Str)++stx r.ss=T at *;simp[dv,gh,List.replicate,d,g,b,Rl.W,tsL,c]
 .rw[arl c];have i:=v9 h.ts;have n:=xy h.ts h.nt;have f:=qE c h.nt h.ts;have d:=abx i (stx r.ss);have g:uo (.str (SG.J " and " (r.ts.map tt)++(" > ":Str)++stx r.ss)) [.str " > "]=.ok (.tup [.str (SG.J " and " (r.ts.map tt)),.str " > ",.str (stx r.ss)]):=by
   have a:(SG.J " and " (r.ts.map tt)++(" > ":Str)++stx r.ss).length<=1000000:=by rw[jq,jq,show(" > ":Str).length=3 by decide+kernel];omega
   have e:=SG.air (SG.J " and " (r.ts.map tt)).cps.toList (" > ":Str).cps.toList (stx r.ss).cps.toList (by rw[yS];simp) (by rw[yS];exact SG.agL (by decide) i (.inr ⟨_,rfl⟩));have k:SG.J " and " (r.ts.map tt)++(" > ":Str)++stx r.ss=⟨((SG.J " and " (r.ts.map tt)).cps.toList++((" > ":Str).cps.toList++(stx r.ss).cps.toList)).toArray⟩:=by rw[<-SG.dm (SG.J " and " (r.ts.map tt)++(" > ":Str)++stx r.ss),dA,dA,asv]
   rw[SG.dm,SG.dm,SG.dm,<-k]at e;show(if(" > ":Str).length≠0/\(SG.J " and " (r.ts.map tt)++(" > ":Str)++stx r.ss).length<=lim then Res.ok (W.tup [.str (Txt.partition (SG.J " and " (r.ts.map tt)++(" > ":Str)++stx r.ss) " > ").1,.str (Txt.partition (SG.J " and " (r.ts.map tt)++(" > ":Str)++stx r.ss) " > ").2.1,.str (Txt.partition (SG.J " and " (r.ts.map tt)++(" > ":Str)++stx r.ss) " > ").2.2])else .bad)=_;rw[arj ⟨by decide+kernel,a⟩,e]
  have j:oEq (.str " > ") (.str "")=.ok (.bl false):=by kernel_rfl
  generalize SG.J " and " (r.ts.map tt)++(" > ":Str)++stx r.ss=T at *;generalize SG.J " and " (r.ts.map tt)=T1 at *;simp[dv,gh,List.replicate,d,g,j,b,f,Rl.W]
def agz{r}(h:ROk r):(rtx r).length<=700:=by
 have a:=abv h.ss;have b:=xy h.ts h.nt;unfold rtx;split;.rw[jq,show("> ":Str).length=2 by decide+kernel];omega
 .rw[jq,jq,show(" > ":Str).length=3 by decide+kernel];omega
def alP{r}(h:ROk r):59 ∉(rtx r).cps.toList:=by
 have a:=alO h.ss;unfold rtx;split;.rw[dA,og];simp[a]
 .rw[dA,dA,yS];simp[a,(yk h.ts).2]
def ctx(c:List Rl):Str:=SG.J " ; " (c.map rtx)
def amV{c}(d:c.length<=12)(h:∀r∈c,ROk r):(ctx c).length<=10000:=by have a:=am4 (x:=" ; ") (ws:=c.map rtx) _ 12 (λw hw=>by obtain⟨p,b,rfl⟩:=arC.mp hw;exact agz (h p b)) (by grind);rw[show(" ; ":Str).length=3 by decide+kernel]at a;unfold ctx;omega
def tf{c}(b:c≠[])(s:c.length<=12)(h:∀r∈c,ROk r):aQ [.str (ctx c)]=.ok (clW c):=by
 have n:=amV s h;have k:=l9 (x:=ctx c) (y:=" ; ") (by rw[rN];simp) amq (by omega);have d:SF.fL (ctx c) " ; "=c.map rtx:=by refine SG.vz _ (by rw[rN];simp) _ (by simpa using b) ?_;rw[rN];refine SG.mh (c:=32) ⟨[59,32],rfl⟩ _ λp m r i=>?_;obtain⟨w,hw,rfl⟩:=arC.mp m;obtain⟨q,o,rfl⟩:=arC.mp hw;exact SG.agL (by decide) (alP (h q o)) i
 rw[d,at3]at k;generalize ctx c=T at *;have a:¬(12:Int)<c.length:=by omega
 have l:=amW (f:=dv) (emb:=λr:Rl=>W.str (rtx r)) (g:=Rl.W) (xs:=c) (σ:=[.va (.str T),.va (.lst (c.map λr=>W.str (rtx r)))]) (by omega) (e:=aq 1) (λr i=>s9 (h r i)) rfl;have j:fQ (.str T) [.str " ; "]=.ok (.lst (c.map λr=>W.str (rtx r))):=k;simp[aQ,iW,List.replicate,j,lN,a,clW,isK,oU,l,-mj]
def aeK{i}(a:-1000<=i)(b:i<=1000):l3 [.int i]=.ok (.str (toString i)):=by
 refine arj ?_;by_cases z:i.natAbs=0;.rw[z];decide
 .rw[Nat.log2_lt z];exact aro (by omega) (Nat.pow_le_pow_right (by omega) (show 10<=1920 by decide))
def tz:Tst->List (W×Str)|.lone l=>[(.str l.w,l.w)]|.at a r w=>[(.str "at","at"),(.int a,toString a),(.int r,toString r),(.str w.w,w.w)]|.inner n=>[(.str "inner","inner"),(.int n,toString n)]
def sz:Stp->List (W×Str)|.go g n=>[(.str g.w,g.w),(.int n,toString n)]|.turn t=>[(.str "turn","turn"),(.str t.w,t.w)]
def an6(t):t.W=.tup ((tz t).map (·.1))/\tw t=(tz t).map (·.2):=by cases t<;>exact⟨rfl,rfl⟩
def ap9(t):t.W=.tup ((sz t).map (·.1))/\sw t=(sz t).map (·.2):=by cases t<;>exact⟨rfl,rfl⟩
def an5{t}(h:TOk t):∀x∈tz t,l3 [x.1]=.ok (.str x.2):=by cases t with
|lone l=>intro x b;simp[tz]at b;subst b;rfl|«at» a r w=>
 obtain⟨c,d,e,f,_⟩:=h.at' a r w rfl;intro x b;simp only[tz,arx,ar5,atc]at b;rcases b with rfl|rfl|rfl|rfl;.rfl
 .exact aeK (by omega) (by omega)
 .exact aeK (by omega) (by omega)
 .rfl|inner n=>
 obtain⟨c,d⟩:=h.inner n rfl;intro x b;simp only[tz,arx,ar5,atc]at b;rcases b with rfl|rfl;.rfl
 .exact aeK (by omega) (by omega)
def aon{t}(h:t.Ok):∀x∈sz t,l3 [x.1]=.ok (.str x.2):=by
 cases t with|go g n=>
 obtain⟨b,c⟩:=h;intro x a;simp only[sz,arx,ar5,atc]at a;rcases a with rfl|rfl;.rfl
 .exact aeK (by omega) (by omega)|turn t=>intro x a;simp [sz]at a;rcases a with rfl|rfl<;>rfl
def mu(n){xs:List (W×Str)}{a}(b:oIx (.tup (xs.map (·.1))) (.int 0)=.ok (.str a))(i:¬a="not")(h:∀x∈xs,l3 [x.1]=.ok (.str x.2))(l:xs.length<=10):aR (n+1) [.tup (xs.map (·.1))]=.ok (.lst ((xs.map (·.2)).map .str)):=by
 have c:=ik (g:=aA 0) (t:=iZ) (e:=eBi l3 (ae (aq 0) au)) (σ:=[.no,.va (.tup (xs.map (·.1)))]) (emb:=λx:W×Str=>x.1) (f:=λx=>W.str x.2) (xs:=xs) λx k=>⟨_,rfl,rfl,by simp[h x k]⟩;have d:xs.length<=1000000:=by omega
 have j:(xs.map (·.2)).map W.str=xs.map λx=>W.str x.2:=by rw[at3];rfl
 rw[j];simp only[acz]at b;simp only[aR,run_eq];simp only[gj,arv,as1,arw,asC,Nat.reduceAdd,Nat.reduceSub,List.replicate,arJ,aso,gp,xS,abq,jX,ee,afQ,aaM,aaN,ed,aY,acz,b,agI];have e:(a==("not":Str))=false:=by simpa using i
 simp[e,d,c,List.replicate]
def aaZ(n){t}(h:TOk t):aR (n+1) [t.W]=.ok (.lst ((tw t).map .str)):=by
 obtain⟨b,c,d⟩:∃b,oIx t.W (.int 0)=.ok (.str b)/\¬b=("not":Str):=by cases t with|lone l=>exact⟨_,rfl,by cases l<;>decide+kernel⟩|«at» a r w=>exact⟨_,rfl,by decide+kernel⟩|inner n=>exact⟨_,rfl,by decide+kernel⟩
 rw[(an6 t).1]at c⊢;rw[(an6 t).2];exact mu n c d (an5 h) (by have:=tw_len t;rw[(an6 t).2]at this;simp at this;omega)
def aho(n){t}(h:t.Ok):aR (n+1) [t.W]=.ok (.lst ((sw t).map .str)):=by
 obtain⟨a,b,c⟩:∃a:Str,oIx t.W (.int 0)=.ok (.str a)/\¬a="not":=by cases t with|go g n=>exact⟨_,rfl,by cases g<;>decide+kernel⟩|turn t=>exact⟨_,rfl,by decide+kernel⟩
 rw[(ap9 t).1]at b⊢;rw[(ap9 t).2];exact mu n b c (aon h) (by cases t<;>simp[sz])
def ahp{p}(h:TOk p.2):aR 2 [tsW p.1 p.2]=.ok (.lst ((nw p).map .str)):=by obtain⟨b,t⟩:=p;cases b with|false=>exact aaZ 1 h|true=>
 have d:=aaZ 0 h;have a:oEq (.str "not") (.str "not")=.ok (.bl true):=by kernel_rfl
 have e:=tw_len t;have c:(tw t).length+1<=1000000:=by omega
 show run 1 _ [.tup _]=.ok (.lst ((("not":Str)::tw t).map .str));simp[gj,List.replicate,a,d,Nat.add_comm,c]
def sws:Option (List Stp)->List Str|none=>["stay"]|some ss=>ss.flatMap sw
def aoo(o):SG.J " " (sws o)=stx o:=by cases o with|none=>exact SG.vb _ _|some ss=>rfl
def stp(a:List Str)(p:Bool×Tst):List Str:=(if a=[]then a else a++[("and":Str)])++nw p
def iw(ts:List (Bool×Tst)):List Str:=ts.foldl stp []
def apZ(a x y)(r):SG.J a ((x++a++y)::r)=SG.J a (x::y::r):=by
 have b:SG.J a [x,y]=x++a++y:=by rw[show[x,y]=[x]++[y]from rfl,SG.xc _ _ _ (by simp) (by simp),SG.vb,SG.vb]
 cases r with|nil=>rw[SG.vb,b]|cons z r=>rw[show(x++a++y)::z::r=[x++a++y]++z::r from rfl,SG.xc _ _ _ (by simp) (by simp),SG.vb];rw[show x::y::z::r=[x,y]++z::r from rfl,SG.xc _ _ _ (by simp) (by simp),b]
def ajx:" "++"and"++" "=(" and ":Str):=rfl
def u9(x y z:Str):x++y++z=x++(y++z):=by rw[<-SG.dm (x++y++z),<-SG.dm (x++(y++z)),dA,dA,dA,dA,asv]
theorem amt:∀(ts:List (Bool×Tst))a,a≠[]->SG.J " " (ts.foldl stp a)=SG.J " and " (SG.J " " a::ts.map tt)
|[],a,_=>(SG.vb _ _).symm|p::ts,a,h=>by
 have c:stp a p=a++([("and":Str)]++nw p):=by unfold stp;rw[arl h,asv]
 have b:stp a p≠[]:=by rw[c];simp[h]
 rw[atZ,amt ts _ b,c,SG.xc _ _ _ h (by simp),SG.xc _ _ _ (by simp) (acA p),SG.vb,arv,<-apZ];congr 2;show SG.J " " a++(" ":Str)++(("and":Str)++(" ":Str)++tt p)=SG.J " " a++(" and ":Str)++tt p;rw[<-ajx];simp only[u9]
def aqV{ts}(h:ts≠[]):SG.J " " (iw ts)=SG.J " and " (ts.map tt):=by cases ts with|nil=>exact absurd rfl h|cons p ts=>show SG.J _ (ts.foldl _ _)=_;rw[show stp _ p=nw p from rfl,amt _ _ (acA p)];rfl
def apo:∀{ts},ts≠[]->iw ts≠[]
|[],h=>absurd rfl h|p::ts,_=>by
 have go:∀(ts:List _)(a),a≠[]->ts.foldl stp a≠[]:=by intro ts;induction ts with|nil=>intro a h;exact h|cons q ts ih=>intro a h;exact ih _ (by unfold stp;simp[acA])
 exact go ts _ (acA p)
def af9(r:Rl):List Str:=iw r.ts++([(">":Str)]++sws r.ss)
def akF{o}(h:SOk o):sws o≠[]:=by cases o with|none=>simp[sws]|some ss=>obtain⟨a,_,c⟩:=h.h _ rfl;intro z;have b:=jT c;have z:ss.flatMap _=[]:=z;rw[z]at b;have:=at8.mpr a;simp at b;omega
def am3{r}(h:ROk r):SG.J " " (af9 r)=rtx r:=by
 have b:SG.J " " ([(">":Str)]++sws r.ss)=(">":Str)++(" ":Str)++stx r.ss:=by rw[SG.xc _ _ _ (by simp) (akF h.ss),SG.vb,aoo]
 unfold af9 rtx;by_cases a:r.ts=[];.rw[arj a,a];congr 1
 .rw[arl a,SG.xc _ _ _ (apo a) (by simp),b,aqV a];have:(" > ":Str)=(" ":Str)++((">":Str)++(" ":Str)):=rfl;rw[this];simp only[u9]
structure WOk(ws:List Str)(n:Nat):Prop where
 d:∀w∈ws,okD 49 (.str w)=true
 l:∀w∈ws,w.length<=10n:ws.length<=n
theorem afy:∀(ts:List (Bool×Tst))b n,(∀p∈ts,TOk p.2)->WOk b n->WOk (ts.foldl stp b) (n+ts.length*6)
|[],b,n,_,h=>by simpa using h|p::ts,b,n,hp,h=>by
  have e:=hp p (by simp);have hw:=vU e;have f:=acB p;have:WOk (stp b p) (n+6):=by
   unfold stp;refine⟨λw a=>?_,λw a=>?_,?_⟩
   .rcases arN.mp a with a|a
    .split at a;.exact h.d w a
     .rcases arN.mp a with a|a;.exact h.d w a
      .simp at a;subst a;decide+kernel
    .exact aoT (hw w a) 49
   .rcases arN.mp a with a|a
    .split at a;.exact h.l w a
     .rcases arN.mp a with a|a;.exact h.l w a
      .simp at a;subst a;decide+kernel
    .exact(oN (hw w a)).2.1
   .have:=h.n;split<;>simp<;>omega
  have c:=afy ts (stp b p) (n+6) (λq d=>hp q (by simp[d])) this;rw[atZ];refine⟨c.d,c.l,?_⟩;have:=c.n;simp only[arw,auN,Nat.one_mul];omega
def acH{ws}(h:∀w∈ws,okD 49 (.str w)=true):oNe (.lst (ws.map .str)) (.lst [])=.ok (.bl !decide (ws=[])):=by
 have b:okD 50 (.lst (ws.map .str))=true:=by exact iA 49 _ λx c=>by grind
 have a:okD 50 (.lst [])=true:=rfl;unfold oNe;rw[arl (by simp[abH]),b,a];cases ws with|nil=>simp[eqv,aaO]|cons w ws=>simp[eqv,aaO]
def aqB:W->W->Res (List W)|.lst xs,.lst ys=>if xs.length+ys.length<=lim then .ok (xs++ys)else .bad|_,_=>.bad
def nS(e a)(σ):anA e a σ=(e σ).bind λx=>(a σ).bind λy=>aqB x y:=rfl
def oi(xs ys):aqB (.lst xs) (.lst ys)=if xs.length+ys.length<=lim then .ok (xs++ys)else .bad:=rfl
theorem al3(R)(d):∀(ts:List (Bool×Tst))a n g,(∀p∈ts,TOk p.2)->WOk a n->n+ts.length*6<=100->∃c,forL (aA 2) aO (ts.map λp=>tsW p.1 p.2) [.va R,.ow (a.map .str),g,d]=.nx [.va R,.ow ((ts.foldl stp a).map .str),c,d]
|[],a,n,g,_,_,_=>⟨g,rfl⟩|p::ts,a,n,g,hp,h,hn=>by
  have hw:=ahp (hp p (by simp));have b:=acH h.d;have r:WOk (stp a p) (n+6):=by simpa using afy [p] a n (by simpa using hp p (by simp)) h
  obtain⟨c,l⟩:=al3 R d ts (stp a p) (n+6) (.va (tsW p.1 p.2)) (λq o=>hp q (by simp[o])) r (by simp only[arw,auN,Nat.one_mul]at hn;omega);refine⟨c,?_⟩;have k:=h.n;have j:=acB p;rw[arv,cA,atZ];have e:aO [.va R,.ow (a.map .str),.va (tsW p.1 p.2),d]=.nx [.va R,.ow ((stp a p).map .str),.va (tsW p.1 p.2),d]:=by
   by_cases i:a=[]
   .subst i;have f:(nw p).length<=1000000:=by omega
    simp[aO,nS,oi,hw,stp,f]at b⊢;simp[b,nS,oi,hw,f]
   .have f:a.length<1000000:=by omega
    have m:a.length+1+(nw p).length<=1000000:=by simp at hn;omega
    rw[ash i]at b;simp[aO,nS,oi,b,hw,stp,i,f,m]
  simp only[jS,cV,arY,arM,e,yr];exact l
theorem al2(R)(c):∀(ss:List Stp)a e,(∀s∈ss,s.Ok)->a.length+2*ss.length<=200->∃b,forL (aA 3) aG (ss.map Stp.W) [.va R,.ow (a.map .str),c,e]=.nx [.va R,.ow ((a++ss.flatMap sw).map .str),c,b]
|[],a,e,_,_=>⟨e,by simp⟩|s::ss,a,e,hs,hl=>by
 have hw:aR 2 [s.W]=.ok (.lst ((sw s).map .str)):=aho 1 (hs s (by simp));have f:(sw s).length=2:=by cases s<;>rfl
 obtain⟨b,h⟩:=al2 R c ss (a++sw s) (.va s.W) (λq g=>hs q (by simp[g])) (by simp[f]at hl⊢;omega);refine⟨b,?_⟩;rw[arv,cA,atf,<-asv];have d:aG [.va R,.ow (a.map .str),c,.va s.W]=.nx [.va R,.ow ((a++sw s).map .str),c,.va s.W]:=by
  have z:a.length+(sw s).length<=1000000:=by omega
  simp[aG,nS,oi,hw,z]
 simp only[jS,cV,arY,arM,d,yr];exact h
def qC{r}(h:ROk r):bT [r.W]=.ok (.lst ((af9 r).map .str)):=by
 obtain⟨d,i⟩:=al3 r.W .no r.ts [] 0 .no h.ts ⟨by simp,by simp,by simp⟩ (by have:=h.nt;omega);have k:=afy r.ts [] 0 h.ts ⟨by simp,by simp,by simp⟩;have q:=k.n;have l:=h.nt;have i:forL (aA 2) aO (r.ts.map λp=>tsW p.1 p.2) [.va r.W,.ow [],.no,.no]=.nx [.va r.W,.ow ((iw r.ts).map .str),d,.no]:=i;have n:(iw r.ts).length<=36:=by unfold iw;omega
 have g:(iw r.ts).length<1000000:=by omega
 obtain⟨c,j⟩:∃c,forL (aA 3) aG (match ssW r.ss with|.tup b=>b|_=>[]) [.va r.W,.ow ((iw r.ts++[(">":Str)]).map .str),d,.no]=.nx [.va r.W,.ow ((af9 r).map .str),d,c]:=by
  cases a:r.ss with|none=>
   refine⟨.va (.tup [.str "stay"]),?_⟩;have hw:aR 2 [.tup [.str "stay"]]=.ok (.lst [.str "stay"]):=by kernel_rfl
   have z:(iw r.ts).length+1+1<=1000000:=by omega
   show forL (aA 3) aG [.tup [.str "stay"]] _=_;simp[cA,aG,nS,oi,hw,af9,a,sws,z]|some ss=>obtain⟨t,u,o⟩:=h.ss.h ss a;obtain⟨c,e⟩:=al2 r.W d ss (iw r.ts++[(">":Str)]) .no o (by simp;omega);refine⟨c,?_⟩;show forL (aA 3) aG (ss.map Stp.W) _=_;rw[e];simp[af9,a,sws]
 have f:∃b,ssW r.ss=.tup b:=by cases r.ss<;>exact⟨_,rfl⟩
 obtain⟨b,f⟩:=f;rw[f]at j;have m:oIx r.W (.int 0)=.ok (.tup (r.ts.map λp=>tsW p.1 p.2)):=rfl;have s:oIx r.W (.int 1)=.ok (.tup b):=by rw[<-f];rfl
 generalize r.W=R at *;generalize af9 r=A at *;generalize iw r.ts=I at *;simp[bT,dW,List.replicate,m,i,g];simp at j;simp[s,j]
def wo{c}(u:c.length<=12)(h:∀r∈c,ROk r):cM [clW c]=.ok (.str (ctx c)):=by
 have hw:∀r∈c,lX (.str " ") [.lst ((af9 r).map .str)]=.ok (.str (rtx r)):=λr b=>by
  have b:=h r b;rw[<-am3 b];have d:=afy r.ts [] 0 b.ts ⟨by simp,by simp,by simp⟩;have l:=b.nt;have o:=d.n;refine ac6 10 60 (λw hw=>?_) ?_ (by rw[show(" ":Str).length=1 by decide+kernel];decide)
  .rcases arN.mp hw with hw|hw;.exact d.l w hw
   .rcases arN.mp hw with hw|hw;.simp at hw;subst hw;decide+kernel
    .cases a:r.ss with|none=>rw[a]at hw;simp[sws]at hw;subst hw;decide+kernel|some ss=>rw[a]at hw;obtain⟨_,_,j⟩:=b.ss.h ss a;obtain⟨s,q,hw⟩:=atP.mp hw;exact(oN (afd (j s q) w hw)).2.1
  .have:(sws r.ss).length<=16:=by cases a:r.ss with|none=>simp[sws]|some ss=>obtain⟨_,v,j⟩:=b.ss.h ss a;have:=jT j;show(ss.flatMap sw).length<=16;omega
   unfold af9 iw;simp;omega
 have k:=ik (g:=aA 0) (t:=iZ) (e:=rG "str" lX (eC (.str " ")) (ae (az bT (ae (aq 0) au)) au)) (σ:=[.no,.va (clW c)]) (emb:=Rl.W) (f:=λr=>W.str (rtx r)) (xs:=c) λr b=>⟨_,rfl,rfl,by simp[qC (h r b),hw r b]⟩;have i:=ac6 (x:=" ; ") (ws:=c.map rtx) 700 12 (λw hw=>by obtain⟨p,n,rfl⟩:=arC.mp hw;exact agz (h p n)) (by simpa using u) (by rw[show(" ; ":Str).length=3 by decide+kernel];decide);rw[at3]at i;have i:lX (.str " ; ") [.lst (c.map λr=>W.str (rtx r))]=.ok (.str (ctx c)):=i;have m:c.length<=1000000:=by omega
 generalize ctx c=T at *;simp only[clW]at k;simp[cM,ka,List.replicate,clW,m,k,i]
def fP(c)(k:Nat)(e:k<=1000):∃m,aC [.int c,.int k]=.ok (.int m)/\0<=m:=by obtain⟨a,b,f,d⟩:∃a:Int,c%2147483647+7919=a/\0<=a/\a<18446744073709551616:=⟨_,rfl,by omega,by omega⟩;refine⟨_,by simp(disch:=omega)[aC,g7,b,nK,alK];exact rfl,by omega⟩
def aiR(n):∃l:Lone,oIx (.lst [.str "head",.str "side",.str "lefts",.str "rights",.str "inward",.str "outward",.str "sideways"]) (.int (n%7))=.ok (.str l.w):=by
 have h:n%7=0\/n%7=1\/n%7=2\/n%7=3\/n%7=4\/n%7=5\/n%7=6:=by omega
 rcases h with h|h|h|h|h|h|h<;>rw[h];.exact⟨.head,rfl⟩
 .exact⟨.side,rfl⟩
 .exact⟨.lefts,rfl⟩
 .exact⟨.rights,rfl⟩
 .exact⟨.inward,rfl⟩
 .exact⟨.outward,rfl⟩
 .exact⟨.sideways,rfl⟩
def ahw(n):∃l:What,oIx (.lst [.str "none",.str "any",.str "same",.str "left",.str "about",.str "right",.str "partner",.str "opposite"]) (.int (n%8))=.ok (.str l.w):=by
 have h:n%8=0\/n%8=1\/n%8=2\/n%8=3\/n%8=4\/n%8=5\/n%8=6\/n%8=7:=by omega
 rcases h with h|h|h|h|h|h|h|h<;>rw[h];.exact⟨.none,rfl⟩
 .exact⟨.any,rfl⟩
 .exact⟨.same,rfl⟩
 .exact⟨.left,rfl⟩
 .exact⟨.about,rfl⟩
 .exact⟨.right,rfl⟩
 .exact⟨.partner,rfl⟩
 .exact⟨.opposite,rfl⟩
def ahK{i e σ w}(h:e σ=.ok w):cP i e σ=.nx (σ.set i (.va w)):=by show ofR σ (e σ) _=_;rw[h];rfl
def ahJ{a σ xs}(h:a σ=.ok xs)(b:Nat.ble xs.length lim=true:=by rfl):cQ a σ=.ok (.tup xs):=by show(a σ).bind _=_;rw[h];exact arj (Nat.le_of_ble_eq_true b)
def mB{e σ x xs}{a:AF}(h:e σ=.ok x)(b:a σ=.ok xs):ae e a σ=.ok (x::xs):=by show(e σ).bind _=_;rw[h];show(a σ).bind _=_;rw[b];rfl
def an3{r a b σ x y z}(d:a σ=.ok x)(c:b σ=.ok y)(h:r x y=.ok z):eOp r a b σ=.ok z:=by show(a σ).bind _=_;rw[d];show(b σ).bind _=_;rw[c];exact h
def oG{a b:SF}{σ σ'}(h:a σ=.nx σ'):aH a b σ=b σ':=by show(match a σ with|.nx σ'=>b σ'|o=>o)=_;rw[h]
def anb{t:TF}{b:Bool}{a c:SF}{σ}(h:t σ=.ok b):sIf t a c σ=if b=true then a σ else c σ:=by show ofR σ (t σ) _=_;rw[h];cases b<;>rfl
def an2{n t ws}:WL.run n t ws=fin (t (ws.map .va++List.replicate (n-ws.length) .no)):=by unfold WL.run;cases t (ws.map .va++List.replicate (n-ws.length) .no)<;>rfl
def wq(n)(D:0<=n):∃p:Bool×Tst,iD [.int n]=.ok (tsW p.1 p.2)/\TOk p.2:=by
 obtain⟨m,s,C⟩:∃m:Int,n/12=m/\0<=m:=⟨_,rfl,by omega⟩;obtain⟨l,z⟩:=aiR m;obtain⟨w,hw⟩:=ahw (m/361);obtain⟨i,A,x,y⟩:∃i:Int,oIx (.lst [.int (m%5),.int (m%201)]) (.int (m/201%2))=.ok (.int i)/\0<=i/\i<=200:=by
  have d:m/201%2=0\/m/201%2=1:=by omega
  rcases d with d|d<;>rw[d]<;>exact⟨_,rfl,by omega,by omega⟩
 have a:∀(t:Tst)(k:Int)(f q g:Sl),fin (aH (sIf (tB (eOp oEq (eOp oMod (eOp oDiv (aq 0) (eC (.int 7000))) (eC (.int 3))) (eC (.int 1)))) (cP 2 (cQ (ae (eC (.str "not")) (ae (aq 2) au)))) sNx) (bf (aq 2)) [.va (.int m),.va (.int k),.va t.W,f,q,g])=.ok (tsW (m/7000%3==1) t):=λt k f q g=>by unfold aH;rw[anb (b:=m/7000%3==1) rfl];cases m/7000%3==1<;>rfl
 have v:iD [.int n]=_:=(an2.trans (asZ fin ((oG (σ':=[.va (.int n),.va (.int (n%12)),.no,.no,.no,.no]) rfl).trans ((oG (σ':=[.va (.int m),.va (.int (n%12)),.no,.no,.no,.no]) (by rw[<-s];rfl)).trans (oG (ahK (ahJ (mB (an3 rfl rfl z) rfl))))))));rw[v];generalize n%12=k;show∃p:Bool×Tst,fin (aH _ (aH _ (aH _ _)) [.va (.int m),.va (.int k),.va (Tst.lone l).W,.no,.no,.no])=_/\_;rw[oG (σ':=if k<5 then[.va (.int m),.va (.int k),.va (Tst.at (m%19-9+if m%19-9=0/\m/19%19-9=0 then 1 else 0) (m/19%19-9) w).W,.va (.int (m%19-9)),.va (.int (m/19%19-9)),.va (.lst [.str "none",.str "any",.str "same",.str "left",.str "about",.str "right",.str "partner",.str "opposite"])]else[.va (.int m),.va (.int k),.va (Tst.lone l).W,.no,.no,.no])]
 .by_cases c:k<5;.rw[arj c,oG (show sIf _ _ _ _=.nx _ from(anb (b:=k==5) rfl).trans (by rw[ar4.mpr (show k≠5 by omega)];rfl))];refine⟨(_,.at _ _ w),a _ k _ _ _,⟨λh r j e=>?_,λn e=>by cases e⟩⟩;cases e;split<;>omega
  .rw[arl c];by_cases o:k=5;.subst o;refine⟨(_,.inner i),(asZ fin (oG (b:=aH _ _) (σ':=[.va (.int m),.va (.int 5),.va (Tst.inner i).W,.no,.no,.no]) (show cP 2 (cQ (ae _ (ae (eOp _ _ _) au))) _=_ from ahK (ahJ (mB rfl (mB (an3 rfl rfl A) rfl)))))).trans (a (.inner i) 5 _ _ _),⟨λh r j e=>(by cases e),λn e=>by cases e;exact⟨x,y⟩⟩⟩
   .rw[oG (show sIf _ _ _ _=.nx _ from(anb (b:=k==5) rfl).trans (by rw[ar4.mpr o];rfl))];exact⟨(_,.lone l),a (.lone l) k _ _ _,⟨λh r j e=>(by cases e),λn e=>by cases e⟩⟩
 .rw[anb (b:=decide (k<5)) rfl];by_cases c:k<5;.rw[arj (atg c),arj c];refine(oG rfl).trans ((oG rfl).trans ((oG rfl).trans (ahK (ahJ (mB rfl (mB ?_ (mB rfl (mB (an3 rfl rfl hw) rfl))))))));show eOp iN _ _ _=_;by_cases B:m%19-9=0<;>by_cases u:m/19%19-9=0<;>simp[B,u]
  .rw[arl (by simpa using c),arl c];rfl
def wu(n)(b:0<=n):∃s:Stp,bV [.int n]=.ok s.W/\s.Ok:=by
 by_cases a:n%3=0
 .have h:n/3%3=0\/n/3%3=1\/n/3%3=2:=by omega
  rcases h with h|h|h;.exact⟨.turn .left,by simp[bV,cp,List.replicate,a,h,Stp.W,Tn.w],trivial⟩
  .exact⟨.turn .right,by simp[bV,cp,List.replicate,a,h,Stp.W,Tn.w],trivial⟩
  .exact⟨.turn .about,by simp[bV,cp,List.replicate,a,h,Stp.W,Tn.w],trivial⟩
 .have h:n/3%4=0\/n/3%4=1\/n/3%4=2\/n/3%4=3:=by omega
  rcases h with h|h|h|h;.exact⟨.go .ahead (1+n/12%9),by simp[bV,cp,List.replicate,a,h,Stp.W,Go.w],by show 1<=_/\_;omega⟩
  .exact⟨.go .back (1+n/12%9),by simp[bV,cp,List.replicate,a,h,Stp.W,Go.w],by show 1<=_/\_;omega⟩
  .exact⟨.go .left (1+n/12%9),by simp[bV,cp,List.replicate,a,h,Stp.W,Go.w],by show 1<=_/\_;omega⟩
  .exact⟨.go .right (1+n/12%9),by simp[bV,cp,List.replicate,a,h,Stp.W,Go.w],by show 1<=_/\_;omega⟩
def zv(c)(k:Nat)(C:k<=20)(N)(l):∀j,j<=6->∃(ts:List (Bool×Tst))(a:Sl),forL (aA 4) dO (rng 0 j) [.va (.int c),.va (.int k),.va N,.ow [],.no,l]=.nx [.va (.int c),.va (.int k),.va N,.ow (ts.map λp=>tsW p.1 p.2),a,l]/\ts.length=j/\∀p∈ts,TOk p.2:=by
 intro j D;have h:=rj (g:=aA 4) (b:=dO) (xs:=rng 0 j) (λi e=>i<=j->∃(ts:List (Bool×Tst))(a:Sl),e=[.va (.int c),.va (.int k),.va N,.ow (ts.map λp=>tsW p.1 p.2),a,l]/\ts.length=i/\∀p∈ts,TOk p.2) (λ_=>⟨[],.no,rfl,rfl,by simp⟩) ?_;.obtain⟨e,u,y⟩:=h;obtain⟨ts,a,rfl,v,A⟩:=y (by simp);exact⟨ts,a,u,by simpa using v,A⟩
 .intro i w G hw s;obtain⟨E,rfl⟩:=nj _ _ _ _ hw;obtain⟨ts,a,rfl,x,n⟩:=s (by omega);obtain⟨m,em,z⟩:=fP c (20*k+1+i) (by omega);obtain⟨p,t,o⟩:=wq m z;have B:(20:Int)*k+1+(0+i)=((20*k+1+i:Nat):Int):=by omega
  have r:ts.length<1000000:=by omega
  refine⟨_,rfl,[.va (.int c),.va (.int k),.va N,.ow ((ts++[p]).map λp=>tsW p.1 p.2),.va (.int (0+i)),l],?_,λ_=>⟨ts++[p],_,rfl,by simp[x],λq f=>?_⟩⟩
  .have d:aC [.int c,.int (20*(k:Int)+1+(0+(i:Int)))]=.ok (.int m):=by rw[B];exact em
   simp only[atz]at d⊢;simp(disch:=omega)[dO,nK,d,t,r]
  .rcases arN.mp f with f|f;.exact n q f
   .rw[arW.mp f];exact o
def zu(c)(k:Nat)(G:k<=20)(N T:W)(n)(d):∀j,j<=8->∃(ss:List Stp)(a:Sl),forL (aA 4) dJ (rng 0 j) [.va (.int c),.va (.int k),.va N,n,d,.ow []]=.nx [.va (.int c),.va (.int k),.va N,n,a,.ow (ss.map Stp.W)]/\ss.length=j/\∀s∈ss,s.Ok:=by
 intro j H;have h:=rj (g:=aA 4) (b:=dJ) (xs:=rng 0 j) (σ:=[.va (.int c),.va (.int k),.va N,n,d,.ow []]) (λi l=>i<=j->∃(ss:List Stp)(a:Sl),l=[.va (.int c),.va (.int k),.va N,n,a,.ow (ss.map Stp.W)]/\ss.length=i/\∀s∈ss,s.Ok) (λ_=>⟨[],d,rfl,rfl,by simp⟩) ?_;.obtain⟨l,y,B⟩:=h;obtain⟨e,d,rfl,z,D⟩:=B (by simp);exact⟨e,d,y,by simpa using z,D⟩
 .intro i w σ hw v;obtain⟨I,rfl⟩:=nj _ _ _ _ hw;obtain⟨e,d,rfl,A,r⟩:=v (by omega);obtain⟨m,em,C⟩:=fP c (20*k+8+i) (by omega);obtain⟨p,x,t⟩:=wu m C;have E:(20:Int)*k+8+(0+i)=((20*k+8+i:Nat):Int):=by omega
  have u:e.length<1000000:=by omega
  refine⟨_,rfl,[.va (.int c),.va (.int k),.va N,n,.va (.int (0+i)),.ow ((e++[p]).map Stp.W)],?_,λ_=>⟨e++[p],_,rfl,by simp[A],λq o=>?_⟩⟩
  .have f:aC [.int c,.int (20*(k:Int)+8+(0+(i:Int)))]=.ok (.int m):=by rw[E];exact em
   simp only[atz]at f⊢;simp(disch:=omega)[dJ,nK,f,x,u]
  .rcases arN.mp o with o|o;.exact r q o
   .rw[arW.mp o];exact t
def jc(c)(k:Nat)(u:k<=20):∃r,bt [.int c,.int k]=.ok r.W/\ROk r:=by
 obtain⟨m,em,O⟩:=fP c (20*k) (by omega);have q:aC [.int c,.int (20*(k:Int))]=.ok (.int m):=by rw[show(20:Int)*k=((20*k:Nat):Int)by omega];exact em
 obtain⟨f,s,M⟩:∃j:Nat,oIx (.lst [.int 0,.int 1,.int 1,.int 2,.int 3,.int 6]) (.int (m%6))=.ok (.int j)/\j<=6:=by
  have h:m%6=0\/m%6=1\/m%6=2\/m%6=3\/m%6=4\/m%6=5:=by omega
  rcases h with h|h|h|h|h|h<;>rw[h];.exact⟨0,rfl,by omega⟩
  .exact⟨1,rfl,by omega⟩
  .exact⟨1,rfl,by omega⟩
  .exact⟨2,rfl,by omega⟩
  .exact⟨3,rfl,by omega⟩
  .exact⟨6,rfl,by omega⟩
 obtain⟨d,o,N,J⟩:∃j:Nat,oIx (.lst [.int 1,.int 1,.int 2,.int 3,.int 8]) (.int (m/6%5))=.ok (.int j)/\j<=8/\1<=j:=by
  have h:m/6%5=0\/m/6%5=1\/m/6%5=2\/m/6%5=3\/m/6%5=4:=by omega
  rcases h with h|h|h|h|h<;>rw[h];.exact⟨1,rfl,by omega,by omega⟩
  .exact⟨1,rfl,by omega,by omega⟩
  .exact⟨2,rfl,by omega,by omega⟩
  .exact⟨3,rfl,by omega,by omega⟩
  .exact⟨8,rfl,by omega,by omega⟩
 obtain⟨l,a,A,C,tok⟩:=zv c k u (.int m) .no f M;obtain⟨x,G,w,n,t⟩:=zu c k u (.int m) .non (.ow (l.map λp=>tsW p.1 p.2)) a d N;have K:(f:Int).toNat=f:=by omega
 have I:(d:Int).toNat=d:=by omega
 have E:-(2^62:Int)<=(f:Int)/\(f:Int)<2^62:=by omega
 have D:-(2^62:Int)<=(d:Int)/\(d:Int)<2^62:=by omega
 have y:∀b a g,jd (eOp oIx (oC (ae (eC (.int 0)) (ae (eC (.int 1)) (ae (eC (.int 1)) (ae (eC (.int 2)) (ae (eC (.int 3)) (ae (eC (.int 6)) au))))))) (eOp oMod (aq 2) (eC (.int 6)))) [.va (.int c),.va (.int k),.va (.int m),b,a,g]=.ok (rng 0 f):=λb a g=>by
  have e:eOp oIx (oC (ae (eC (.int 0)) (ae (eC (.int 1)) (ae (eC (.int 1)) (ae (eC (.int 2)) (ae (eC (.int 3)) (ae (eC (.int 6)) au))))))) (eOp oMod (aq 2) (eC (.int 6))) [.va (.int c),.va (.int k),.va (.int m),b,a,g]=.ok (.int f):=by rw[<-s];simp
  rw[yD,e,aY,xU,arj E,K]
 have B:∀b a g,jd (eOp oIx (oC (ae (eC (.int 1)) (ae (eC (.int 1)) (ae (eC (.int 2)) (ae (eC (.int 3)) (ae (eC (.int 8)) au)))))) (eOp oMod (eOp oDiv (aq 2) (eC (.int 6))) (eC (.int 5)))) [.va (.int c),.va (.int k),.va (.int m),b,a,g]=.ok (rng 0 d):=λb a g=>by
  have e:eOp oIx (oC (ae (eC (.int 1)) (ae (eC (.int 1)) (ae (eC (.int 2)) (ae (eC (.int 3)) (ae (eC (.int 8)) au)))))) (eOp oMod (eOp oDiv (aq 2) (eC (.int 6))) (eC (.int 5))) [.va (.int c),.va (.int k),.va (.int m),b,a,g]=.ok (.int d):=by rw[<-o];simp
  rw[yD,e,aY,xU,arj D,I]
 have v:az aC (ae (aq 0) (ae (eOp me (eC (.int 20)) (aq 1)) au)) [.va (.int c),.va (.int k),.no,.no,.no,.no]=.ok (.int m):=by simp(disch:=omega)[nK,q]
 by_cases i:m/30%6=1;.refine⟨⟨l,none⟩,?_,⟨tok,show l.length<=6 by omega,⟨λx e=>by cases e⟩⟩⟩;simp only[bt,iv,run_eq,arv,as1,arw,asC,Nat.reduceAdd,Nat.reduceSub,List.replicate,arJ,aso,gp,qA,v,cV,g9,arY,arM,xQ,acZ,eg,aY,agO,arZ,asI,abO,y,A,B,w];simp[i,Rl.W,tsL,ssW]
 .refine⟨⟨l,some x⟩,?_,⟨tok,show l.length<=6 by omega,⟨λH e=>by cases e;exact⟨λz=>by rw[z]at n;simp at n;omega,by omega,t⟩⟩⟩⟩;simp only[bt,iv,run_eq,arv,as1,arw,asC,Nat.reduceAdd,Nat.reduceSub,List.replicate,arJ,aso,gp,qA,v,cV,g9,arY,arM,xQ,acZ,eg,aY,agO,arZ,asI,abO,y,A,B,w];simp[i,Rl.W,tsL,ssW]
def apO(c:List Rl):Bool:=c.all λr=>decide (r.ts.length<=100)&&r.ss.elim true λl=>decide (l.length<=100)
def call_of{c}(h:apO c=true):gQ c:=λr a=>by have:=arV.mp h r a;rw[ary,asV]at this;exact⟨this.1,λl e=>by grind⟩
def af3{c}(h:∀r∈c,ROk r):gQ c:=λr a=>⟨by have:=(h r a).nt;omega,λl e=>by have:=((h r a).ss.h l e).2.1;omega⟩
noncomputable def BL(a od:Str)(c1 c2:List Rl):List (Str×Str×List Rl):=[("spin","> turn left",[⟨[],some [.turn .left]⟩]),("rest","> stay",[⟨[],none⟩]),("walk","> ahead 1",[⟨[],some [.go .ahead 1]⟩]),("off","> back 1",[⟨[],some [.go .back 1]⟩]),("swap","lefts > right 2 ; > left 2",[⟨[(false,.lone .lefts)],some [.go .right 2]⟩,⟨[],some [.go .left 2]⟩]),("bow","head > ahead 1 back 1 ; > turn about turn about",[⟨[(false,.lone .head)],some [.go .ahead 1,.go .back 1]⟩,⟨[],some [.turn .about,.turn .about]⟩]),("look","at 2 0 none > ahead 1 ; > turn right",[⟨[(false,.at 2 0 .none)],some [.go .ahead 1]⟩,⟨[],some [.turn .right]⟩]),("near","inner 2 > back 1 ; > stay",[⟨[(false,.inner 2)],some [.go .back 1]⟩,⟨[],none⟩]),("deaf","head and lefts > turn left",[⟨[(false,.lone .head),(false,.lone .lefts)],some [.turn .left]⟩]),("far","> back 9 back 9 back 9",[⟨[],some [.go .back 9,.go .back 9,.go .back 9]⟩]),("wild",a,c1),("odd",od,c2)]
section
variable{wt od:Str}{c1 c2:List Rl}
abbrev KK:List W:=(BL default default [] []).map λp=>.str p.1
abbrev VV(wt od:Str):List W:=(BL wt od [] []).map λp=>.str p.2.1
abbrev DD(c1 c2:List Rl):W:=.dic KK ((BL default default c1 c2).map λp=>clW p.2.2)
def zz(d k:W):Res W:=(oIx d k).bind λu=>aQ [u]
def val_eq{d k v aks avs}(h:zz d k=.ok v):xt iT [.no,.va d,.va k,.od aks avs]=.ok v:=by show(az aQ _) [.no,.va d,.va k]=_;unfold zz at h;simp only[gB,dI,eg,jX,ee,aaM,aaN,ed,aY];cases e:oIx d k with|ok u=>rw[e,aY]at h;simp [h]|_=>rw[e]at h;cases h
noncomputable def apart:List W->List (Str×W)->Bool|_,[]=>true|aks,p::ps=>!afX (.str p.1) aks&&apart (aks++[.str p.1]) ps
theorem u1(d):∀a s aks avs,aks.length+a.length<=1000->apart aks a=true->(∀p∈a,zz d (.str p.1)=.ok p.2)->∃c,forL (aA 2) (dt 3 (xt iT) (aq 2)) (a.map λp=>.str p.1) [.no,.va d,s,.od aks avs]=.nx [.no,.va d,c,.od (aks++a.map λp=>.str p.1) (avs++a.map λp=>p.2)]
|[],s,aks,avs,_,_,_=>⟨s,by simp⟩|p::a,s,aks,avs,hl,b,h=>by
 have b:(!afX (.str p.1) aks&&apart (aks++[.str p.1]) a)=true:=b;rw[ary,Bool.not_eq_true']at b;obtain⟨c,g⟩:=u1 d a (.va (.str p.1)) (aks++[.str p.1]) (avs++[p.2]) (by simp at hl⊢;omega) b.2 λq f=>h q (by simp[f]);refine⟨c,?_⟩;have j:=val_eq (aks:=aks) (avs:=avs) (h p (by simp));have i:aks.length<1000000:=by simp at hl;omega
 have e:dt 3 (xt iT) (aq 2) [.no,.va d,.va (.str p.1),.od aks avs]=.nx [.no,.va d,.va (.str p.1),.od (aks++[.str p.1]) (avs++[p.2])]:=by show ofR _ (xt iT _) _=_;rw[j,cV];show putD _ _ _ _ _ _=_;unfold putD putK ale;rw[arj ⟨rfl,i⟩,b.1];rfl
 rw[arv,cA];show ofR _ (.ok ([.no,.va d,.va (.str p.1),.od aks avs]:Ws)) _=_;rw[cV,e];simpa using g
def aeU(c:aQ [.str wt]=.ok (clW c1))(d:aQ [.str od]=.ok (clW c2)):∀p∈(BL wt od c1 c2).map λp=>(p.1,clW p.2.2),zz (.dic KK (VV wt od)) (.str p.1)=.ok p.2:=by
 intro p b;obtain⟨q,a,rfl⟩:=arC.mp b;simp only[BL,arx,ar5,atc]at a;rcases a with rfl|rfl|rfl|rfl|rfl|rfl|rfl|rfl|rfl|rfl|rfl|rfl;iterate 10 kernel_rfl
 .exact(show zz _ _=(Res.ok (W.str wt)).bind λu=>aQ [u]by kernel_rfl).trans c
 .exact(show zz _ _=(Res.ok (W.str od)).bind λu=>aQ [u]by kernel_rfl).trans d
def afj:aH qo qm [.ob,.va (.dic KK (VV wt od)),.no]=.nx [.ob,.va (.dic KK (VV wt od)),.va (.str "odd")]:=by kernel_rfl
def ajt(a:aQ [.str wt]=.ok (clW c1))(b:aQ [.str od]=.ok (clW c2)):yJ [.dic KK (VV wt od)]=.ok (DD c1 c2):=by obtain⟨d,e⟩:=u1 (.dic KK (VV wt od)) _ (.va (.str "odd")) [] [] (by simp[BL]) (by kernel_rfl) (aeU a b);show(match aH qo qm _ with|.nx σ=>anw iT σ|.ex c _=>.ex c|_=>.bad)=_;rw[afj];show anH (forL (aA 2) _ KK [.no,.va (.dic KK (VV wt od)),.va (.str "odd"),.od [] []])=_;rw[show KK=((BL wt od c1 c2).map λp=>(p.1,clW p.2.2)).map λp=>.str p.1 from rfl]at e⊢;rw[e];rfl
def alS(b:gQ c1)(d:gQ c2){x:Str}(c:W.str x∈KK):Nm (DD c1 c2) x:=by obtain⟨p,a,e⟩:=arC.mp (show W.str x∈(BL default default c1 c2).map λp=>.str p.1 from c);cases e;refine⟨p.2.2,?_⟩;simp only[BL,arx,ar5,atc]at a;rcases a with rfl|rfl|rfl|rfl|rfl|rfl|rfl|rfl|rfl|rfl|rfl|rfl<;>refine⟨by kernel_rfl,?_⟩<;>first|exact b|exact d|exact call_of rfl
end
def rO(ns:List Int)(k:Nat):∃c,aI [.lst (ns.map .int),.int k]=.ok (.int c):=by
 by_cases h:k<ns.length
 .have e:oIx (.lst (ns.map .int)) (.int k)=.ok (.int ns[k]):=by simp[oIx,atI,ixN,h]
  exact⟨ns[k],by simp[aI,eu,h,e]⟩
 .exact⟨0,by simp[aI,eu,List.replicate,h]⟩
abbrev EW:EF:=az cM (ae (fZ 1 (jd (eC (.int 2))) (aA 0) iZ (az bt (ae (az aI (ae (aq 1) (ae (eC (.int 1)) au))) (ae (aq 0) au)))) au)
abbrev EO:EF:=az cM (ae (oC (ae (az bt (ae (az aI (ae (aq 0) (ae (eC (.int 2)) au))) (ae (eC (.int 0)) au))) (ae (cQ (ae (cQ au) (ae (cQ (ae (cQ (ae (eC (.str "turn")) (ae (eC (.str "left")) au))) au)) au))) au))) au)
def Drawn(E:EF)(S:W):Prop:=∃(x:Str)(c:List Rl),(∀s,E [.va S,s]=.ok (.str x))/\aQ [.str x]=.ok (clW c)/\gQ c
def yN{E S c}(b:c≠[])(d:c.length<=12)(a:∀r∈c,ROk r)(h:∀s,E [.va S,s]=oZ (cM [clW c])):Drawn E S:=⟨_,c,λs=>by rw[h,wo d a];rfl,tf b d a,af3 a⟩
def ahu(ns:List Int):Drawn EW (.lst (ns.map .int)):=by
 obtain⟨z,e⟩:=rO ns 1;obtain⟨a,d,h⟩:=jc z 0 (by decide);obtain⟨f,b,i⟩:=jc z 1 (by decide);have e:aI [.lst (ns.map .int),.int 1]=.ok (.int z):=e;have d:bt [.int z,.int 0]=.ok a.W:=d;have b:bt [.int z,.int 1]=.ok f.W:=b;refine yN (c:=[a,f]) (by simp) (by simp) (by simp[h,i]) λs=>?_;have g:bG (aA 0) iZ (az bt (ae (az aI (ae (aq 1) (ae (eC (.int 1)) au))) (ae (aq 0) au))) [.no,.va (.lst (ns.map .int)),s] (rng 0 2)=.ok [a.W,f.W]:=by show bG _ _ _ _ [.int 0,.int 1]=_;simp[bG,e,d,b]
 simp[g,List.replicate,clW]
def alI(ns:List Int):Drawn EO (.lst (ns.map .int)):=by
 obtain⟨z,e⟩:=rO ns 2;obtain⟨d,a,f⟩:=jc z 0 (by decide);have e:aI [.lst (ns.map .int),.int 2]=.ok (.int z):=e;have a:bt [.int z,.int 0]=.ok d.W:=a;refine yN (c:=[d,⟨[],some [.turn .left]⟩]) (by simp) (by simp) (λr b=>?_) λs=>?_
 .rcases arx.mp b with rfl|b;.exact f
  .rw[arW.mp b];exact{ts:=λp g=>(by cases g),nt:=by simp,ss:=⟨λss h=>by cases h;exact⟨by simp,by simp,λs i=>by rw[arW.mp i];trivial⟩⟩}
 .simp[e,a,clW,Rl.W,tsL,ssW,Stp.W,Tn.w]
def aeH(ns:List Int):∃a od b c,cI [.lst (ns.map .int)]=.ok (.dic KK (VV a od))/\yJ [.dic KK (VV a od)]=.ok (DD b c)/\gQ b/\gQ c:=by
 obtain⟨a,b,g,j,d⟩:=ahu ns;obtain⟨od,c,f,h,k⟩:=alI ns;refine⟨a,od,b,c,?_,ajt j h,d,k⟩;generalize W.lst (ns.map .int)=S at *;have e:dt 1 EW (eC (.str "wild")) [.va S,.od (KK.take 10) ((VV a od).take 10)]=.nx [.va S,.od (KK.take 11) ((VV a od).take 11)]:=by show ofR _ (EW _) _=_;rw[g];kernel_rfl
 have l:dt 1 EO (eC (.str "odd")) [.va S,.od (KK.take 11) ((VV a od).take 11)]=.nx [.va S,.od KK (VV a od)]:=by show ofR _ (EO _) _=_;rw[f];kernel_rfl
 have i:cI [S]=fin (aH (dt 1 EW (eC (.str "wild"))) (aH (dt 1 EO (eC (.str "odd"))) (zt 1 (bf (aq 1)))) [.va S,.od (KK.take 10) ((VV a od).take 10)]):=by kernel_rfl
 rw[i,gp,e,g9,gp,l,g9];rfl
def z7(S a)(m)(i:Nat)(h:i<8)(fs)(g:fs.length<=100)(f o6):∃p b c,Fac p/\cZ [.va S,.va a,.va (.int m),.ow (fs.map stW),.va (.int i),f,o6]=.nx [.va S,.va a,.va (.int m),.ow ((fs++[p]).map stW),.va (.int i),b,c]:=by
 obtain⟨q,e,-⟩:=fP m (1+i) (by omega);have e:aC [.int m,.int (1+(i:Int))]=.ok (.int q):=by rw[<-e];simp
 have d:fs.length<1000000:=by omega
 refine⟨((1+m/75%2)*((m/3+3*i)%25%5-2),(1+m/75%2)*((m/3+3*i)%25/5-2),q%4),.va (.int ((m/3+3*i)%25)),.va (.int (1+m/75%2)),⟨by simp only;omega,by simp only;omega⟩,?_⟩;simp(disch:=omega)[cZ,nK,e,d,stW]
def afK(ns:List Int):∃F,eV [.lst (ns.map .int)]=.ok F/\Flo F:=by
 obtain⟨z,e⟩:=rO ns 0;have e:aI [.lst (ns.map .int),.int 0]=.ok (.int z):=e;obtain⟨m,d,-⟩:=fP z 0 (by decide);have d:aC [.int z,.int 0]=.ok (.int m):=d;generalize W.lst (ns.map .int)=S at *;let a:List S3:=[(-1,-3,0),(1,-3,0),(3,-1,1),(3,1,1),(1,3,2),(-1,3,2),(-3,1,3),(-3,-1,3)];by_cases h:m%3<2;.refine⟨flW a,by simp[eV,gk,List.replicate,e,d,h,flW,a,stW],a,rfl,rfl,λp f=>?_⟩;simp only[a,arx,ar5,atc]at f;rcases f with rfl|rfl|rfl|rfl|rfl|rfl|rfl|rfl<;>exact⟨by decide,by decide⟩
 .obtain⟨u,r,fs,n,j,k,rfl,o,l⟩:=rj (g:=aA 4) (b:=cZ) (xs:=rng 0 8) (σ:=[.va S,.va (flW a),.va (.int m),.ow [],.no,.no,.no]) (λi σ=>∃(fs:List S3)(n j k:Sl),σ=[.va S,.va (flW a),.va (.int m),.ow (fs.map stW),n,j,k]/\fs.length=i/\∀p∈fs,Fac p) ⟨[],_,_,_,rfl,rfl,by simp⟩ (by
    rintro i x σ v⟨fs,n,j,k,rfl,o,l⟩;obtain⟨w,rfl⟩:=nj _ _ _ _ v;obtain⟨p,s,t,f,e⟩:=z7 S (flW a) m i w fs (by omega) j k;refine⟨_,rfl,_,by rw[atz];exact e,fs++[p],_,_,_,rfl,by simp[o],λq c=>?_⟩;rcases arN.mp c with c|c;.exact l q c
    .rw[arW.mp c];exact f);refine⟨flW fs,?_,fs,rfl,by simpa using o,l⟩;simp[flW,a,stW]at r;simp[eV,gk,List.replicate,e,d,h,r,flW,stW]
def afY(ns)(a b):cut (ns.map W.int) a b=(cut ns a b).map .int:=by unfold cut;rw[arB,<-List.map_drop,<-List.map_take]
def ajn(ns:List Int):(cut ns (some 3) (some 53)).length<=50:=by unfold cut sIx;dsimp only;rw[arl (by grind),arl (by grind),as0];omega
noncomputable def CW:List String:=["spin","rest","walk","off","swap","bow","look","near","spin","rest","walk","off","swap","bow","look","near","odd","deaf","far","wild"]
def af2:ji []=.ok (.lst (CW.map λw=>.str (Str.ofString w))):=rfl
def cw_in:∀w∈CW,W.str (Str.ofString w)∈KK:=by intro w hw;simp only[CW,arx]at hw;simp only[KK,BL,arv,arx,W.str.injEq,tZ];grind
theorem aed:∀{vs},(∀v∈vs,∃x,v=cal x/\W.str x∈KK)->∃a:List Str,vs=a.map cal/\∀x∈a,W.str x∈KK|[],_=>⟨[],rfl,by simp⟩|v::vs,h=>by obtain⟨x,rfl,e⟩:=h v (by simp);obtain⟨a,rfl,b⟩:=aed (vs:=vs) λu c=>h u (by grind);exact⟨x::a,rfl,λy d=>by grind⟩
def afz(ns:List Int)(b f d x5 x6 x7):∃xs,(∀x∈xs,W.str x∈KK)/\xs.length<=60/\fZ 1 (rT (eSl (aq 0) (nz (eC (.int 3))) (nz (eC (.int 53))))) (aA 0) iZ (cQ (ae (eC (.str "call")) (ae (eOp oIx (aq 4) (eOp oMod (az aC (ae (aq 0) (ae (eC (.int 40)) au))) (eC (.int 20)))) au))) [.va (.lst (ns.map .int)),b,f,.va (.lst (CW.map λw=>.str (Str.ofString w))),d,x5,x6,x7]=.ok (ITS xs):=by
 have l:=ajn ns;obtain⟨k,e,h,i⟩:=adW (xs:=cut ns (some 3) (some 53)) (emb:=W.int) (e:=cQ (ae (eC (.str "call")) (ae (eOp oIx (aq 4) (eOp oMod (az aC (ae (aq 0) (ae (eC (.int 40)) au))) (eC (.int 20)))) au))) (σ:=[.va (.lst (ns.map .int)),b,f,.va (.lst (CW.map λ(w:String)=>.str (Str.ofString w))),d,x5,x6,x7]) (P:=λv=>∃x,v=cal x/\W.str x∈KK) λc _=>by obtain⟨q,e,-⟩:=fP c 40 (by decide);have e:aC [.int c,.int 40]=.ok (.int q):=e;obtain⟨w,hw,a⟩:=acy (ws:=CW) q 20 rfl (by decide);have a:oIx (.lst (CW.map λ(w:String)=>.str (Str.ofString w))) (.int (q%20))=.ok (.str w):=a;generalize CW.map (λ(w:String)=>W.str (Str.ofString w))=L at *;exact⟨cal w,by simp[e,a,-kB],w,rfl,cw_in w hw⟩
 obtain⟨xs,rfl,j⟩:=aed i;refine⟨xs,j,by rw[arB]at h;omega,?_⟩;have g:(cut ns (some 3) (some 53)).length<=1000000:=by omega
 generalize CW.map (λ(w:String)=>W.str (Str.ofString w))=L at *;simp[afY,g,List.replicate,e,-kB]
def sW(t)(a b)(σ):jJ t a b σ=ofR σ (t σ) λx=>if x=true then aoC (a σ)else b σ:=by unfold jJ;congr 1;funext x;cases x<;>rfl
abbrev SK:List Str:=(BL default default [] []).map λp=>p.1
def ah1:lO [.lst KK]=.ok (.lst ((vA SK).map .str)):=rfl
def agF{x}(h:W.str x∈KK)(n):okD n (.str x)=true:=by simp [BL]at h;rcases h with rfl|rfl|rfl|rfl|rfl|rfl|rfl|rfl|rfl|rfl|rfl|rfl<;>exact aiB n _
def aiA:okD 50 (.lst ((vA SK).map .str))=true:=iA _ _ λv b=>by obtain⟨x,c,rfl⟩:=arC.mp b;exact agF (arC.mpr (by obtain⟨p,a,e⟩:=arC.mp (List.mem_mergeSort.mp c);exact⟨p,a,by grind⟩)) _
def aiC{ns}(h:∀x∈ns,W.str x∈KK):okD 50 (ITS ns)=true:=iA _ _ λv a=>by obtain⟨x,b,rfl⟩:=arC.mp a;have:=agF (h x b) 48;simp[this]
section
variable{S D F T:W}{L:List W}{c1 c2:List Rl}{wt od:Str}{xs:List Str}
abbrev LS(S D F:W)(L:List W)(xs:List Str)(T:W)(x7:Sl):Ws:=[.va S,.va (BB D),.va F,.va (.lst L),.va (ITS xs),.va (ITS xs),.va T,x7]
def afk{x7}:gO "Book" dR (aq 1) au (LS S (DD c1 c2) F L xs T x7)=.ok (.lst ((vA SK).map .str)):=rfl
def last_eq(x7)(f:dw [BB (DD c1 c2),F,ITS xs]=.ok T)(h:okD 50 T=true)(g:cI [S]=.ok (.dic KK (VV wt od))):bf (aaP (eOp oEq (az dw (ae (aq 1) (ae (aq 2) (ae (aq 5) au)))) (aq 6)) (eOp oEq (gO "Book" dR (aq 1) au) (eBi lP (ae (eBi ov (ae (az cI (ae (aq 0) au)) au)) au)))) (LS S (DD c1 c2) F L xs T x7)=.rt (.bl true):=by have a:=afk (S:=S) (F:=F) (L:=L) (xs:=xs) (T:=T) (x7:=x7) (c1:=c1) (c2:=c2);have b:ov [.dic KK (VV wt od)]=.ok _:=rfl;have c:lP [.lst KK]=.ok _:=ah1;have d:=yh aiA;have e:=yh h;simp only[ah8,ajd,jX,gB,adE,dI,eg,ee,aaM,aaN,ed,aY,f,g,gG,a,b,c,d,e,si,asI,cV]
end
def afr:∀b:List Int,b.length<=63->afM [.lst (b.map .int)]=.ok (.bl true):=by
 intro b _;obtain⟨I,od,f,h,o,C,M,K⟩:=aeH b;obtain⟨F,v,N⟩:=afK b;obtain⟨a,l,g,B⟩:=afz b (.va (BB (DD f h))) (.va F) .no .no .no .no;obtain⟨T,E,O,j,A⟩:=afR (D:=DD f h) (λn s=>alS M K (l n s)) N g;have m:=λL u=>last_eq (S:=.lst (b.map .int)) (L:=L) u O j o;have G:=yg j;have J:=yg (aiC l);have t:=af2;generalize W.lst (b.map .int)=S at *;generalize CW.map (λ(w:String)=>W.str (Str.ofString w))=L at *;generalize W.dic KK (VV I od)=X at *;generalize DD f h=D at *;rw[show afM [S]=fin (aeI [.va S,.no,.no,.no,.no,.no,.no,.no])from rfl,aeI];simp only[gp,g9,qA,yM,gB,adE,dI,eg,ee,aaM,aaN,ed,aY,gG,o,C,v,t,B,aea,E,cV,arY,arM];have i:∀(x y:SF),jJ (tOr (tB (eOp oNe (aq 7) (aq 6))) (tB (eOp oNe (aq 5) (aq 4)))) x y (LS S D F L a T (.va T))=y (LS S D F L a T (.va T)):=λx y=>by rw[sW];simp only[akC,abq,jX,ee,aaM,aaN,ed,aY,G,J,si,cV,asq,atb]
 have p:(ae (aq 1) (ae (aq 2) (ae (aq 5) au))) (LS S D F L a T .no)=.ok [BB D,F,ITS a]:=by simp
 unfold abN;rw[p,cV];rcases A with⟨fs,Q,rfl,e,r,c,P⟩|⟨n,k,rfl,e,c⟩
 .have q:fs.length<1000000:=by omega
  rw[e];unfold ze;dsimp only;rw[r];dsimp only;rw[arj c];show fin (jJ _ _ _ (LS S D F L a (.tup [.str "floors",.lst fs]) (.va (.tup [.str "floors",.lst fs]))))=_;rw[i,gp];have d:sIf (tB (eOp oEq (eOp oIx (aq 7) (eC (.int 0))) (eC (.str "floors")))) (jJ (vv (tB (eBi cK (ae (eOp oIx (aq 7) (eC (.int 1))) (ae (eC (.ty "list")) au))))) (bf (eC (.bl false))) (qz 7 [] sNx)) sNx (LS S D F L a (.tup [.str "floors",.lst fs]) (.va (.tup [.str "floors",.lst fs])))=.nx (LS S D F L a (.tup [.str "floors",.lst fs]) .no):=by
   have H:qz 7 [] sNx (LS S D F L a (.tup [.str "floors",.lst fs]) (.va (.tup [.str "floors",.lst fs])))=.nx (LS S D F L a (.tup [.str "floors",.lst fs]) .no):=by show@ite _ (bI fs=true/\fs∉cy []/\fs.length<lim) (Classical.propDecidable _) _ _=_;rw[arj ⟨c.1,λz=>(by cases z),q⟩];rfl
   simp[sW,isK,oU,H]
  rw[d,g9];rw[m];rfl
 .rw[e];unfold ze;dsimp only;rw[arj c];show fin (jJ _ _ _ (LS S D F L a (.tup [.str "broken",n,k]) (.va (.tup [.str "broken",n,k]))))=_;rw[i,gp];have d:∀x,sIf (tB (eOp oEq (eOp oIx (aq 7) (eC (.int 0))) (eC (.str "floors")))) x sNx (LS S D F L a (.tup [.str "broken",n,k]) (.va (.tup [.str "broken",n,k])))=.nx (LS S D F L a (.tup [.str "broken",n,k]) (.va (.tup [.str "broken",n,k]))):=λx=>by simp
  rw[d,g9];rw[m];rfl
end K45
namespace PySem.W.Fast
def tw15403699455246338405:=0
def tw1357076859107671074:=0
def tw18015484007417593533:=0
def tw2977411638590739099:=0
def tw4778719675626486274:=0
def tw16305938747951979010:=0
def tw1645930157231524871:=0
def tw2973624898194557238:=0
def tw7241784724152948013:=0
def tw15132255871805385999:=0
def tw12337906609988891034:=0
def tw9784317047364690036:=0
def tw16682631909648260294:=0
def tw12002914544532076438:=0
def tw12302609440593841723:=0
def tw12034355379703621881:=0
def tw13726531782028260682:=0
def tw4522237625581915729:=0
def tw10323327796768762773:=0
def tw3254072247234179014:=0
def tw1894246423793516749:=0
def tw2559050893536916622:=0
def tw14512760053715247929:=0
def tw8487521419969107147:=0
def tw2057458530387352238:=0
def tw11689848162615784508:=0
def tw5704545469062575206:=0
def tw8869478515294851079:=0
def tw17685739358890982088:=0
def tw1524526688401758192:=0
def tw15854135285315805652:=0
def tw7266433954991690229:=0
def tw15839813588757744058:=0
def tw11293789738614572050:=0
def tw752214220717693175:=0
def tw4404270138771195806:=0
def tw12258750520985281965:=0
def tw3637405447601255184:=0
def tw12672036136874567708:=0
def tw7926595093597852685:=0
def tw11645138071144614754:=0
def tw1178099605203246254:=0
def tw5214665667339514526:=0
def tw2039510932286673975:=0
def tw6466550789200122258:=0
def tw1626810595383140512:=0
def tw1566343224221783563:=0
def tw3371433708221035124:=0
def tw6272664695048902497:=0
def tw10768455488351739782:=0
def tw12842689036222342826:=0
def tw10276692946014081660:=0
def tw4730948884304921832:=0
def tw17332885752981794140:=0
def tw6916189576062077635:=0
def tw7041512299292752808:=0
def tw5647405002893040935:=0
def tw7908576906998299968:=0
def tw2271367666088103493:=0
def tw4617917525773886255:=0
def tw15661695690359875015:=0
def tw14140946518082211760:=0
def tw1124463394642895060:=0
def tw11341213955083881101:=0
def tw766417167396463834:=0
def tw13998129970905077135:=0
def tw7250113067798252899:=0
def tw13467457558744831316:=0
def tw2763625038919380642:=0
def tw5174387370172592169:=0
def tw17275731723972322552:=0
def tw6830661440184183080:=0
def tw10576852086739521713:=0
def tw15200490478078327888:=0
def tw7601710858280417474:=0
def tw15626459999110391801:=0
def tw16224786092930289087:=0
def tw2754943575651804582:=0
def tw6149730084966325131:=0
def tw14708968859781575423:=0
def tw3824519585466911937:=0
def tw14212573910391415838:=0
def tw15367009053192760400:=0
def tw12773154406919940439:=0
def tw2290840460612153301:=0
def tw4548597182199342879:=0
def tw11688006186310622703:=0
def tw1062139210083478962:=0
def tw7962698097066164122:=0
def tw9420447056359368671:=0
def tw11768322151027260682:=0
def tw7955462114235775127:=0
def tw12729933347858958066:=0
def tw12461337857036501874:=0
def tw16629167481669240451:=0
def tw14927954446584249013:=0
def tw9264204888039636642:=0
def tw17777154790062179327:=0
def tw9241007329693598247:=0
def tw5215536163035564563:=0
def tw6536557197225680659:=0
def tw7597914447341361117:=0
def tw184234799801990396:=0
def tw2132163954556394047:=0
def tw12303516549684535618:=0
def tw10284532968804514140:=0
def tw2146644346544410614:=0
def tw9411250840982099482:=0
def tw3715811139944225617:=0
def tw16047384291373536286:=0
def tw8782708871153990303:=0
def tw5866674585713093521:=0
def tw15489871872124643425:=0
def tw2087369383197361491:=0
def tw4324188334449650544:=0
def tw9615265537883960400:=0
def tw6023934383127151807:=0
def tw3385314506552998115:=0
def tw10559600818192245567:=0
def tw14631525053927601733:=0
def tw13238797730046329173:=0
def tw1852963001618596967:=0
def tw16266235017918335120:=0
def tw13038437921084802108:=0
def tw12633641543206254855:=0
def tw16560559507216513429:=0
def tw14516099498204961420:=0
def tw7420247196162566701:=0
def tw15510583393395191925:=0
def tw16790916496307826807:=0
def tw7582508855496602598:=0
def tw2125803315873563787:=0
def tw4688985574399118155:=0
def tw5816405682503818529:=0
def tw10678599873087814476:=0
def tw1396010869206033039:=0
def tw11513802121646429974:=0
def tw12108396284828302243:=0
def tw1075050037557252015:=0
def tw11558612219460988204:=0
def tw3363818511388404102:=0
def tw11961690472011179822:=0
def tw2050006622671057208:=0
def tw8167755755870021314:=0
def tw16270022104497346419:=0
def tw6752988110408974180:=0
def tw7584899339893185566:=0
def tw10246713913577313850:=0
def tw9508810593937984014:=0
def tw14003690966081895615:=0
def tw11316784843607065297:=0
def tw2794368809151326784:=0
def tw16077445334765249463:=0
def tw15002426321912674951:=0
def tw5513176568990227220:=0
def tw10056054270352691277:=0
def tw10478675757813325367:=0
def tw18433423050857194345:=0
def tw5181287130752668241:=0
def tw7360554828136463845:=0
def tw2806644061635585942:=0
def tw18150827011038427474:=0
def tw934861254206441550:=0
def tw11972533983977187117:=0
def tw14271577586900188817:=0
def tw17969868333479545871:=0
def tw17799200614557876353:=0
def tw11356015500759435046:=0
def tw11441166468202747164:=0
def tw16341749294828479605:=0
def tw6003383805241449126:=0
def tw17992902209561758110:=0
def tw5517757192630581828:=0
def tw11412690949317556591:=0
def tw17974362695634858635:=0
def tw10813366927490193314:=0
def tw18428774738251226778:=0
def tw18401473472526306417:=0
def tw142498764431521084:=0
def tw10105454516566635328:=0
def tw6730813654905313439:=0
def tw16242994332332354434:=0
def tw3157589372934105143:=0
def tw8604211304183601144:=0
def tw14330924674690758576:=0
def tw1634702597269882043:=0
def tw3826494539257743647:=0
def tw14637766429566656936:=0
def tw4900280579537348529:=0
def tw9260330558567397664:=0
def tw4905334756725807334:=0
def tw12579701098600026443:=0
def tw9626504221811859866:=0
def tw2631036371889007763:=0
def tw18310580157109122578:=0
def tw9400909775934051395:=0
def tw10870082368891528916:=0
def tw12680927425806391282:=0
def tw15018933919168012502:=0
def tw10980145326430966587:=0
def tw16546239510047315914:=0
def tw10066604876571673165:=0
def tw13481558462660426909:=0
def tw8098122357833234888:=0
def tw3235172409671583005:=0
def tw13717801412330254963:=0
def tw2893448885986112270:=0
def tw13195956955900742547:=0
def tw8100503969086324749:=0
def tw17087124131246063965:=0
def tw5114797979834869555:=0
def tw11848921478821648140:=0
def tw16896693823769356009:=0
def tw4276136973367267335:=0
def tw16373621013131087520:=0
def tw18165606436229200085:=0
def tw18308322214512803279:=0
def tw15927634436309892726:=0
def tw4552238144807653878:=0
def tw7679220690026570680:=0
def tw17259715113886076825:=0
def tw3289502703082188210:=0
def tw17659649646205071482:=0
def tw2115808752000497013:=0
def tw7543202204462020899:=0
def tw12400919201091900643:=0
def tw8075706771025692486:=0
def tw660797937103828372:=0
def tw12311655283659101638:=0
def tw734828057371185722:=0
def tw12851924750773498039:=0
def tw12813936295839879436:=0
def tw15914651204215020051:=0
def tw17673383606552400593:=0
def tw1494274591490027712:=0
def tw17063173913094082209:=0
def tw8415926632867209517:=0
def tw9763461345740063310:=0
def tw12524320244486917073:=0
def tw3033145356079951633:=0
def tw563144605586821518:=0
def tw1396202805277667649:=0
def tw11800126406242297864:=0
def tw657832305981397260:=0
def tw18111108536804563550:=0
def tw9791506113866661792:=0
def tw3227535327796540030:=0
def tw16441509769289555918:=0
def tw13005125432950114513:=0
def tw9465772832971250284:=0
def tw107674716015001059:=0
def tw9214721772660755539:=0
def tw17699965499118923351:=0
def tw11299565304965833810:=0
def tw181005404830530663:=0
def tw16692894709989136806:=0
def tw10282474503663480763:=0
def tw12584187384856085390:=0
def tw2448390863726273437:=0
def tw9407952439849552673:=0
def tw17897027586776242763:=0
def tw14461203770311597128:=0
def tw4253528990641042326:=0
def tw15647413293114228118:=0
def tw9224733247702622822:=0
def tw2524354302034122836:=0
def tw16558268163471804249:=0
def tw469202887664311049:=0
def tw1520064588967979271:=0
def tw17056468064861358859:=0
def tw14236309732185184796:=0
def tw7308214334355882120:=0
def tw14148128629166150885:=0
def tw11283230806365037612:=0
def tw18388179943875101780:=0
def tw16359287244829330381:=0
def tw17095542769315116080:=0
def tw14973787080446414429:=0
def tw7442239702533471241:=0
def tw13294840822869083835:=0
def tw6855518138705105650:=0
def tw2966222229374491682:=0
def tw135321175570375822:=0
def tw3583605408936587099:=0
def tw11926825449255901759:=0
def tw4009354043445212589:=0
def tw17177423428672040412:=0
def tw14565501154903113355:=0
def tw5926296345713602283:=0
def tw980653510347982315:=0
def tw4132624775771107285:=0
def tw8423368667276862896:=0
def tw14148761640393917029:=0
def tw3474540911056604210:=0
def tw17805128746138404426:=0
def tw4075411950622194537:=0
def tw876223875235200414:=0
def tw10865433033329506925:=0
def tw4869784627502558300:=0
def tw1709221844833869247:=0
def tw3588478803427649265:=0
def tw17137618261789535382:=0
def tw14352774661777582117:=0
def tw11923062074953989211:=0
def tw9156070173837409391:=0
def tw591458381249726105:=0
def tw11010046927184878741:=0
def tw7988794031506775969:=0
def tw13604544496277712204:=0
def tw800443090350469377:=0
def tw11420475725510856106:=0
def tw16359648071162827274:=0
def tw7046543545500237812:=0
def tw949557902300842277:=0
def tw1063312161015035792:=0
def tw1923261999882978303:=0
def tw16253012391310523287:=0
def tw3927254972216476896:=0
def tw16010842710224277399:=0
def tw6127175112354496749:=0
def tw2094626263392264582:=0
def tw6085820305863834340:=0
def tw11430378706965222519:=0
def tw5014199278505403487:=0
def tw5886965156664301614:=0
def tw11165416986403306174:=0
def tw15914202178377490772:=0
def tw5713598259855980376:=0
def tw5576891695861531894:=0
def tw14205141041647390624:=0
def tw13932153304969144215:=0
def tw16074378512073884476:=0
def tw17692728033933733165:=0
def tw15373456900473515061:=0
def tw10974314807444081998:=0
def tw1105599465165600867:=0
def tw16447914894004556805:=0
def tw2239770114077004306:=0
def tw7226544053116622846:=0
def tw17403428858012943115:=0
def tw14642236810496552455:=0
def tw17452822667405121004:=0
def tw11533395096734343339:=0
def tw6114295622195476528:=0
def tw12373802948040570544:=0
def tw3975885771414496757:=0
def tw10978295701163927966:=0
def tw914831893882580043:=0
def tw13499467115577539315:=0
def tw3198762994362249174:=0
def tw5965217964888310581:=0
def tw4740169737416532558:=0
def tw6577635597368861868:=0
def tw2484869994060284247:=0
def tw15516832363650499587:=0
def tw6901729936501940340:=0
def tw15128344672664123044:=0
def tw17152629269687835350:=0
def tw10185413389090122883:=0
def tw10629530329435301414:=0
def tw15356446151215280358:=0
def tw15664310709962392639:=0
def tw16966271371847822318:=0
def tw3214492593404902369:=0
def tw16282015449872909513:=0
def tw9504387027810694889:=0
def tw4725473093691500981:=0
def tw12776522691954130357:=0
def tw16383710719848527876:=0
def tw12015774245080755774:=0
def tw17049361432946195659:=0
def tw1753642315687208825:=0
def tw7029557249145437303:=0
def tw12691135643322684142:=0
def tw8055122240096613026:=0
def tw5510917981926996549:=0
def tw16220018626955806175:=0
def tw9516684570328038354:=0
def tw2398521446792652968:=0
def tw10611291193285665019:=0
def tw12261720738805966521:=0
def tw1746829346418818704:=0
def tw11911585062814310834:=0
def tw3899546394603168254:=0
def tw3555057789164778436:=0
def tw4959247484282462377:=0
def tw3405762682918148325:=0
def tw12355861617660297369:=0
def tw4250346822883834038:=0
def tw3972065023144233312:=0
def tw18078266153217516963:=0
def tw9309581685104871860:=0
def tw14413958283314375665:=0
def tw12097512272032920885:=0
def tw8099535877462310752:=0
def tw13040658725322299377:=0
def tw13578326651592933483:=0
def tw6969675404062319978:=0
def tw12247927580939848959:=0
def tw10783276983540925139:=0
def tw10388388718749436921:=0
def tw4024414312891343922:=0
def tw17329647240087391372:=0
def tw9748496616352810579:=0
def tw15743323026667276923:=0
def tw13352058716754074511:=0
def tw1431863486606883096:=0
def tw16037319175901541028:=0
def tw12625563529274598510:=0
def tw4796127137814682537:=0
def tw14806557091533255824:=0
def tw12693848672867653865:=0
def tw11821233681086544887:=0
def tw12224855770536855423:=0
def tw10738293938520745402:=0
def tw17711846304345783386:=0
def tw3241818492596870642:=0
def tw5937705532493957028:=0
def tw9220865801337355468:=0
def tw337521620047019613:=0
def tw12144956533850077265:=0
def tw4588779568221617222:=0
def tw4107888625299530912:=0
def tw3804381084963456536:=0
def tw15650535422832203361:=0
def tw13500479757733728038:=0
def tw1836929933313109287:=0
def tw3963505695185238117:=0
def tw14085379275042796258:=0
def tw9538653024648096123:=0
def tw5582781895447090839:=0
def tw5787522038855329196:=0
def tw7557440988648046972:=0
def tw11152050727286890304:=0
def tw15722058914477706526:=0
def tw11464938371510728556:=0
def tw5732033428074622784:=0
def tw285916898090550818:=0
def tw5148289863312431509:=0
def tw14549708318792943448:=0
def tw16734685992368522172:=0
def tw14442394936824681196:=0
def tw1565453030235494:=0
def tw18398862788664536636:=0
def tw4900046125722444669:=0
def tw4276939737837089235:=0
def tw15620812025265611272:=0
def tw806444263344396285:=0
def tw10820427916017676956:=0
def tw15776262059052447829:=0
end PySem.W.Fast
namespace K45
open PySem PySem.Spec PyProof.Rows L2 WS
open WL(Res Sl Ws EF TF AF LF GF GsF SF Out RF OX Rn AXF)
seal L2.PE L2.PS L2.PSs L2.PA L2.PT L2.PW L2.PG L2.PGs L2.PI L2.PO L2.agb L2.PC
def top(i:Nat):Stmt:=PySem.Challenge.pw_squarecall_k45_calls_in_turn.main.body.getD i (.Pass ⟨0,0,0,0⟩)
local macro_rules|`(tactic|trivial)=>`(tactic|exact⟨rfl,rfl,rfl,by decide+kernel,rfl,by decide+kernel,by decide+kernel⟩)
noncomputable def fE:Stmt->List Stmt|.ClassDef _ _ _ b _ _ _ _ _ _ _=>b|_=>[]
abbrev xM:Stmt:=(fE (top 6)).getD 0 (.Pass ⟨0,0,0,0⟩)
def abF:FnScope ["self","who"] ["self","who"] (af xM):=by trivial
abbrev sG:Stmt:=(fE (top 9)).getD 0 (.Pass ⟨0,0,0,0⟩)
def zk:FnScope ["self","at","why"] ["self","at","why"] (af sG):=by trivial
abbrev abC:Stmt:=(fE (top 8)).getD 0 (.Pass ⟨0,0,0,0⟩)
def aeQ:FnScope ["self","one","other"] ["self","one","other"] (af abC):=by trivial
abbrev ags:Stmt:=(fE (top 7)).getD 0 (.Pass ⟨0,0,0,0⟩)
def ah6:FnScope ["self","who"] ["self","who"] (af ags):=by trivial
abbrev sS:Stmt:=top 92
def zp:FnScope ["thing"] ["thing"] (af sS):=by trivial
abbrev m6:Stmt:=top 65
def k9:FnScope ["word","least","most","number"] ["word","least","most"] (af m6):=by trivial
abbrev jH:Stmt:=top 77
def iJ:FnScope ["word","least","most","number"] ["word","least","most"] (af jH):=by trivial
abbrev mZ:Stmt:=top 83
def sI:FnScope ["word","more"] ["word","more"] (af mZ):=by trivial
abbrev lq:Stmt:=top 84
def jF:FnScope ["text","words"] ["text"] (af lq):=by trivial
abbrev sN:Stmt:=top 78
def km:FnScope ["words","ahead","right"] ["words"] (af sN):=by trivial
abbrev lr:Stmt:=top 79
def qt:FnScope ["words"] ["words"] (af lr):=by trivial
abbrev fM:Stmt:=top 80
def jG:FnScope ["words"] ["words"] (af fM):=by trivial
abbrev mY:Stmt:=top 81
def kZ:FnScope ["text","words"] ["text"] (af mY):=by trivial
abbrev lp:Stmt:=top 82
def jE:FnScope ["text","texts"] ["text"] (af lp):=by trivial
abbrev m3:Stmt:=top 85
def k7:FnScope ["text","parts"] ["text"] (af m3):=by trivial
abbrev m5:Stmt:=top 86
def k8:FnScope ["text","texts"] ["text"] (af m5):=by trivial
abbrev abD:Stmt:=(fE (top 93)).getD 0 (.Pass ⟨0,0,0,0⟩)
def vI:FnScope ["self","texts","name"] ["self","texts"] (af abD):=by trivial
abbrev i2:Stmt:=top 100
def lb:FnScope ["_law_parts"] ["_law_parts"] (af i2):=by trivial
abbrev gL:Stmt:=top 101
def bc:FnScope ["_law_rule_here","_law_words_here","_law_test_here","_law_step_here"] ["_law_rule_here"] (af gL):=by trivial
abbrev pF:Stmt:=top 102
def vC:FnScope ["_law_rules"] ["_law_rules"] (af pF):=by trivial
abbrev lu:Stmt:=top 96
def qu:FnScope ["_law_cell","_law_k"] ["_law_cell","_law_k"] (af lu):=by trivial
abbrev pG:Stmt:=top 97
def bA:FnScope ["_law_number_here","_law_kind_here","_law_test_here","_law_ahead","_law_right","_law_seen"] ["_law_number_here"] (af pG):=by trivial
abbrev pH:Stmt:=top 98
def vD:FnScope ["_law_number_here"] ["_law_number_here"] (af pH):=by trivial
abbrev pI:Stmt:=top 99
def cE:FnScope ["_law_cell","_law_k","_law_number_here","_law_tests","_law_j","_law_steps"] ["_law_cell","_law_k"] (af pI):=by trivial
abbrev jI:Stmt:=top 95
def oJ:FnScope ["_law_script","_law_k"] ["_law_script","_law_k"] (af jI):=by trivial
abbrev m7:Stmt:=top 104
def lg:FnScope ["_law_script","_law_texts_here"] ["_law_script"] (af m7):=by trivial
abbrev m8:Stmt:=top 103
def bX:FnScope ["_law_script","_law_home","_law_base","_law_floor_here","_law_k","_law_at","_law_size"] ["_law_script"] (af m8):=by trivial
abbrev m9:Stmt:=top 105
def lh:FnScope ["_law_some"] [] (af m9):=by trivial
abbrev sM:Stmt:=top 18
def zl:FnScope ["stand"] ["stand"] (af sM):=by trivial
abbrev hJ:Stmt:=top 19
def dY:FnScope ["stands","one","other"] ["stands"] (af hJ):=by trivial
abbrev pN:Stmt:=top 20
def mV:FnScope ["stands","meeting"] ["stands"] (af pN):=by trivial
abbrev xN:Stmt:=top 22
def mS:FnScope ["floor","spot","dancer","stand"] ["floor","spot"] (af xN):=by trivial
abbrev mX:Stmt:=top 21
def fg:FnScope ["stand","ahead","right","step","east","north"] ["stand","ahead","right"] (af mX):=by trivial
abbrev sO:Stmt:=top 23
def zm:FnScope ["dancer"] ["dancer"] (af sO):=by trivial
abbrev pB:Stmt:=top 24
def vB:FnScope ["dancer"] ["dancer"] (af pB):=by trivial
abbrev hI:Stmt:=top 28
def lS:FnScope ["facing","way"] ["facing","way"] (af hI):=by trivial
abbrev abL:Stmt:=top 35
def aeR:FnScope ["own","stands","who","what"] ["own","stands","who","what"] (af abL):=by trivial
abbrev agv:Stmt:=top 36
def qr:FnScope ["floor","dancer","test","own","what","who"] ["floor","dancer","test"] (af agv):=by trivial
abbrev pO:Stmt:=top 33
def vH:FnScope ["spot"] ["spot"] (af pO):=by trivial
abbrev abM:Stmt:=top 34
def qx:FnScope ["stand","before","behind"] ["stand"] (af abM):=by trivial
abbrev sU:Stmt:=top 31
def zr:FnScope ["dancer"] ["dancer"] (af sU):=by trivial
abbrev sT:Stmt:=top 32
def zq:FnScope ["dancer"] ["dancer"] (af sT):=by trivial
abbrev sR:Stmt:=top 37
def zo:FnScope ["dancer","word"] ["dancer","word"] (af sR):=by trivial
abbrev vJ:Stmt:=top 38
def qv:FnScope ["floor","dancer","test","word"] ["floor","dancer","test"] (af vJ):=by trivial
abbrev pA:Stmt:=top 39
def i0:FnScope ["floor","dancer","call","place","rule"] ["floor","dancer","call"] (af pA):=by trivial
abbrev pz:Stmt:=top 42
def mU:FnScope ["floor","dancer","call","some","place"] ["floor","dancer","call","some"] (af pz):=by trivial
abbrev pK:Stmt:=top 14
def vE:FnScope ["thing"] ["thing"] (af pK):=by trivial
abbrev pM:Stmt:=top 15
def vG:FnScope ["thing"] ["thing"] (af pM):=by trivial
abbrev nc:Stmt:=top 16
def sJ:FnScope ["thing"] ["thing"] (af nc):=by trivial
abbrev pL:Stmt:=top 17
def vF:FnScope ["thing"] ["thing"] (af pL):=by trivial
abbrev sQ:Stmt:=top 45
def kn:FnScope ["told","dancer","way"] ["told"] (af sQ):=by trivial
abbrev iK:Stmt:=top 43
def eN:FnScope ["stand","step","going","spot"] ["stand","step"] (af iK):=by trivial
abbrev xO:Stmt:=top 44
def mT:FnScope ["stand","steps","way","step"] ["stand","steps"] (af xO):=by trivial
abbrev agu:Stmt:=top 46
def abI:FnScope ["floor","call","some","steps"] ["floor","call","some"] (af agu):=by trivial
abbrev xP:Stmt:=top 47
def abJ:FnScope ["floor","call","some"] ["floor","call","some"] (af xP):=by trivial
abbrev pJ:Stmt:=top 106
def i1:FnScope ["_law_e","_law_some","_law_at"] ["_law_e"] (af pJ):=by trivial
abbrev lx:Stmt:=top 108
def cq:FnScope ["_law_floor_here","_law_rules","_law_error","_law_found","_law_e"] ["_law_floor_here","_law_rules"] (af lx):=by trivial
abbrev ni:Stmt:=(fE (top 93)).getD 2 (.Pass ⟨0,0,0,0⟩)
def sL:FnScope ["self","name"] ["self","name"] (af ni):=by trivial
abbrev sP:Stmt:=top 109
def dr:FnScope ["_law_book","_law_floor_here","_law_items","_law_floors","_law_word","_law_name","_law_found","_law_kind_here"] ["_law_book","_law_floor_here","_law_items"] (af sP):=by trivial
abbrev agr:Stmt:=(fE (top 62)).getD 0 (.Pass ⟨0,0,0,0⟩)
def akP:FnScope ["self","book","floor"] ["self","book","floor"] (af agr):=by trivial
abbrev iL:Stmt:=top 61
def mW:FnScope ["floor","call","some","paired"] ["floor","call","some","paired"] (af iL):=by trivial
abbrev nh:Stmt:=(fE (top 62)).getD 1 (.Pass ⟨0,0,0,0⟩)
def fh:FnScope ["self","name","some","paired","count","call","refusal"] ["self","name","some","paired"] (af nh):=by trivial
abbrev ng:Stmt:=(fE (top 62)).getD 3 (.Pass ⟨0,0,0,0⟩)
def ll:FnScope ["self","items","some","paired","item","again"] ["self","items","some","paired"] (af ng):=by trivial
abbrev akQ:Stmt:=top 63
def agt:FnScope ["book","floor","items","course"] ["book","floor","items"] (af akQ):=by trivial
abbrev pE:Stmt:=top 107
def dq:FnScope ["_law_book","_law_floor_here","_law_items","_law_error","_law_found","_law_e"] ["_law_book","_law_floor_here","_law_items"] (af pE):=by trivial
abbrev ly:Stmt:=(fE (top 93)).getD 1 (.Pass ⟨0,0,0,0⟩)
def qy:FnScope ["self"] ["self"] (af ly):=by trivial
abbrev ah7:Stmt:=top 110
def lj:FnScope ["_law_script","_law_book","_law_floor_here","_law_calls_here","_law_items","_law_handed","_law_due_here","_law_found"] ["_law_script"] (af ah7):=by trivial
structure Txt(w:World)(K:W.Frag)(mg:Str->Option Value)(nu kx:Tok)(jt j5 j4 j3 j2:Addr)(ku:Tok)(eB gK dg bN bM bL bK:Addr)(gq hV hT hU eO fv fw:Tok)(js cj bD dB:Addr)(hX fy jL:Tok)(oy aK gI gJ bz df bS aW aX bR gv eR jf n4 jg nZ fm_Book_call fm_Run_dance fm_Run_go_on fm_Book_names:Addr):Prop where
 mgA:∀nm v,W.nsIn K mainGlobals nm=some (some v)->mg nm=some v
 h8:mg "DANCERS"=some (.int 8 nu)pR:mg "FARTHEST"=some (.int 200 kx)acO:mg "STEPS"=some (.ref jt)ahR:∀H:Hp,SqT K H jt [.ref j5,.ref j4,.ref j3,.ref j2]abn:∀H:Hp,SqT K H j5 [.int 0,.int 1]abm:∀H:Hp,SqT K H j4 [.int (-1),.int 0]abl:∀H:Hp,SqT K H j3 [.int 0,.int (-1)]abk:∀H:Hp,SqT K H j2 [.int 1,.int 0]zU:mg "QUARTERS"=some (.int 4 ku)qX:mg "QUARTERS_OF"=some (.ref eB)ql:aeg w K eB [("same",.int 0),("left",.int 1),("about",.int 2),("right",.int 3)]afn:mg "DRIFTS"=some (.ref gK)aeJ:∀H:Hp,SqT K H gK [.str "inward",.str "outward",.str "sideways"]nO:mg "GOINGS_dances"=some (.ref dg)mM:aeg w K dg [("ahead",.ref bN),("back",.ref bM),("left",.ref bL),("right",.ref bK)]kg:∀H:Hp,SqT K H bN [.int 1,.int 0]kf:∀H:Hp,SqT K H bM [.int (-1),.int 0]ke:∀H:Hp,SqT K H bL [.int 0,.int (-1)]kd:∀H:Hp,SqT K H bK [.int 0,.int 1]qY:mg "MOST_DANCED"=some (.int 400 gq)uj:mg "MOST_RULES"=some (.int 12 hV)uh:mg "MOST_TESTS"=some (.int 6 hT)ui:mg "MOST_STEPS"=some (.int 8 hU)cY:mg "FARTHEST_SEEN"=some (.int 9 eO)oP:mg "WIDEST_INNER"=some (.int 200 fv)oQ:mg "LONGEST_STEP"=some (.int 9 fw)aiM:mg "WHATS"=some (.ref js)ahQ:∀H:Hp,SqT K H js [.str "none",.str "any",.str "same",.str "left",.str "about",.str "right",.str "partner",.str "opposite"]um:mg "LONE_WORDS"=some (.ref cj)sx:∀H:Hp,SqT K H cj [.str "head",.str "side",.str "lefts",.str "rights",.str "inward",.str "outward",.str "sideways"]oS:mg "GOINGS_rules"=some (.ref bD)oH:∀H:Hp,SqT K H bD [.str "ahead",.str "back",.str "left",.str "right"]zT:mg "TURNINGS"=some (.ref dB)zf:∀H:Hp,SqT K H dB [.str "left",.str "right",.str "about"]uk:mg "MOST_CALLS"=some (.int 60 hX)oR:mg "LONGEST_NAME"=some (.int 8 fy)acQ:mg "LETTERS"=some (.str "abcdefghijklmnopqrstuvwxyz" jL)alZ:mg "KEPT"=some (.ref oy)akA:∀H:Hp,SqT K H oy [.str "times",.str "heads",.str "sides",.str "lefts",.str "rights",.str "inner",.str "couples"]nl:WS.noL K=true
 uf:mg "ValueError"=none
 alV:mg "abs"=none
 aiI:mg "all"=none
 alU:mg "bool"=none
 i9:mg "enumerate"=none
 alT:mg "int"=none
 aJ:mg "isinstance"=none
 gS:mg "len"=none
 ue:mg "list"=none
 apg:mg "max"=none
 eP:mg "range"=none
 yo:mg "sorted"=none
 acI:mg "str"=none
 i8:mg "tuple"=none
 cL:mg "FloorError"=some (.ref aK)lI:ExcAt K "FloorError" aK
 acN:mg "TooMany"=some (.ref gI)adA:ExcAt K "TooMany" gI
 ug:mg "NoPairs"=some (.ref gJ)jW:ExcAt K "NoPairs" gJ
 wj:mg "Blind"=some (.ref bz)ij:ExcAt K "Blind" bz
 aiN:mg "Out"=some (.ref df)uM:ExcAt K "Out" df
 acP:mg "Meet"=some (.ref bS)lH:ExcAt K "Meet" bS
 yq:mg "Broken"=some (.ref aW)rF:ExcAt K "Broken" aW
 xs:ExcAll K
 apx:∀nm C,ExcAt K nm C->("at":Str)∈WL.fieldsOf nm->W.findIn K (.ref C) "at"=some none/\W.hasDictIn K C=true
 amI:∀nm C,ExcAt K nm C->("one":Str)∈WL.fieldsOf nm->W.findIn K (.ref C) "one"=some none/\W.hasDictIn K C=true
 afL:∀nm C,ExcAt K nm C->("other":Str)∈WL.fieldsOf nm->W.findIn K (.ref C) "other"=some none/\W.hasDictIn K C=true
 amH:∀nm C,ExcAt K nm C->("who":Str)∈WL.fieldsOf nm->W.findIn K (.ref C) "who"=some none/\W.hasDictIn K C=true
 amG:∀nm C,ExcAt K nm C->("why":Str)∈WL.fieldsOf nm->W.findIn K (.ref C) "why"=some none/\W.hasDictIn K C=true
 am9:W.findIn K (.ref bz) "__init__"=some (some (.ref gv))afJ:∃fd,Fun K "__init__" "Blind.__init__" xM gv fd
 vM:oD K bz (some (.ref gv))aeX:W.typeIn K (.ref gv)=some (.type "function")aem:(W.clsIn K bz).map (·.mro)=some (.ref bz::.ref aK::gf)ael:W.hasDictIn K bz=true
 aek:W.findIn K (.ref bz) "__setattr__"=some (some (.builtin "object.__setattr__"))ud:W.findIn K (.ref bz) "who"=some none
 aj4:W.findIn K (.ref aW) "__init__"=some (some (.ref eR))adm:∃fd,Fun K "__init__" "Broken.__init__" sG eR fd
 xW:oD K aW (some (.ref eR))abZ:W.typeIn K (.ref eR)=some (.type "function")aaS:(W.clsIn K aW).map (·.mro)=some (.ref aW::.ref aK::gf)aaR:W.hasDictIn K aW=true
 aaQ:W.findIn K (.ref aW) "__setattr__"=some (some (.builtin "object.__setattr__"))uc:W.findIn K (.ref aW) "at"=some none
 qU:W.findIn K (.ref aW) "why"=some none
 anT:W.findIn K (.ref bS) "__init__"=some (some (.ref jf))ai3:∃fd,Fun K "__init__" "Meet.__init__" abC jf fd
 ab0:oD K bS (some (.ref jf))aic:W.typeIn K (.ref jf)=some (.type "function")ag9:(W.clsIn K bS).map (·.mro)=some (.ref bS::.ref aK::gf)ag8:W.hasDictIn K bS=true
 ag7:W.findIn K (.ref bS) "__setattr__"=some (some (.builtin "object.__setattr__"))we:W.findIn K (.ref bS) "one"=some none
 qT:W.findIn K (.ref bS) "other"=some none
 ap2:W.findIn K (.ref df) "__init__"=some (some (.ref n4))amF:∃fd,Fun K "__init__" "Out.__init__" ags n4 fd
 aid:oD K df (some (.ref n4))alb:W.typeIn K (.ref n4)=some (.type "function")aj3:(W.clsIn K df).map (·.mro)=some (.ref df::.ref aK::gf)aj2:W.hasDictIn K df=true
 aj1:W.findIn K (.ref df) "__setattr__"=some (some (.builtin "object.__setattr__"))zQ:W.findIn K (.ref df) "who"=some none
 aeO:StrK K bz
 akM:StrK K df
 ah2:StrK K bS
 rd:W.readsIn K aK (.type "type")=true
 rf:W.findCls K (.ref aK) (.type "type") "__init__"=some (.val (.builtin "ValueError.__init__"))rs:W.specialIn K (.ref aK) "__getattribute__"=some (some (.builtin "type.__getattribute__"))al0:mg "Book"=some (.ref aX)z1_Book:W.makesIn K aX=true
 z2_Book:W.findIn K (.ref aX) "__init__"=some (some (.ref jg))ai4:∃fd,Fun K "__init__" "Book.__init__" abD jg fd
 z3_Book:W.isFn K (.ref jg)=true
 z4_Book:W.keepIn K (.ref aX)=true
 z5_Book:W.plainGet K aX Str.empty=true
 z6_Book:W.hasDictIn K aX=true
 z7_Book:W.plainOver K aX=true
 z8_Book:W.findIn K (.ref aX) "__setattr__"=some (some (.builtin "object.__setattr__"))qV:bO K aX "calls"oq:W.nsIn K mainGlobals (Str.ofString "Book")=some (some (.ref aX))aph:mg "Run"=some (.ref bR)z1_Run:W.makesIn K bR=true
 z2_Run:W.findIn K (.ref bR) "__init__"=some (some (.ref nZ))amE:∃fd,Fun K "__init__" "Run.__init__" agr nZ fd
 z3_Run:W.isFn K (.ref nZ)=true
 z4_Run:W.keepIn K (.ref bR)=true
 z5_Run:W.plainGet K bR Str.empty=true
 z6_Run:W.hasDictIn K bR=true
 z7_Run:W.plainOver K bR=true
 z8_Run:W.findIn K (.ref bR) "__setattr__"=some (some (.builtin "object.__setattr__"))nM:bO K bR "book"cW:bO K bR "floors"uZ:W.nsIn K mainGlobals (Str.ofString "Run")=some (some (.ref bR))y1_Book_call:W.findIn K (.ref aX) "call"=some (some (.ref fm_Book_call))y2_Book_call:W.isFn K (.ref fm_Book_call)=true
 y3_Book_call:W.keepIn K (.ref fm_Book_call)=true
 uG:∃fd,Fun K "call" "Book.call" ni fm_Book_call fd
 y1_Run_dance:W.findIn K (.ref bR) "dance"=some (some (.ref fm_Run_dance))y2_Run_dance:W.isFn K (.ref fm_Run_dance)=true
 y3_Run_dance:W.keepIn K (.ref fm_Run_dance)=true
 uF:∃fd,Fun K "dance" "Run.dance" nh fm_Run_dance fd
 y1_Run_go_on:W.findIn K (.ref bR) "go_on"=some (some (.ref fm_Run_go_on))y2_Run_go_on:W.isFn K (.ref fm_Run_go_on)=true
 y3_Run_go_on:W.keepIn K (.ref fm_Run_go_on)=true
 uE:∃fd,Fun K "go_on" "Run.go_on" ng fm_Run_go_on fd
 y1_Book_names:W.findIn K (.ref aX) "names"=some (some (.ref fm_Book_names))y2_Book_names:W.isFn K (.ref fm_Book_names)=true
 y3_Book_names:W.keepIn K (.ref fm_Book_names)=true
 rl:∃fd,Fun K "names" "Book.names" ly fm_Book_names fd
 adS:AtD K "is_name" sS
 wM:AtD K "number_of" m6
 rK:AtD K "read_number" jH
 wJ:AtD K "read_step" mZ
 uP:AtD K "read_steps" lq
 adN:AtD K "read_at" sN
 uQ:AtD K "read_inner" lr
 kK:AtD K "read_plain_test" fM
 wI:AtD K "read_test" mY
 uO:AtD K "read_tests" lp
 wK:AtD K "read_rule" m3
 wL:AtD K "read_call" m5
 wN:AtD K "_law_words" i2
 l1:AtD K "_law_rule_words" gL
 aah:AtD K "_law_text" pF
 uR:AtD K "_law_number" lu
 aai:AtD K "_law_test" pG
 aaj:AtD K "_law_step" pH
 aak:AtD K "_law_rule" pI
 rL:AtD K "_law_cell_at" jI
 wO:AtD K "_law_texts" m7
 wQ:AtD K "_law_floor" m8
 wR:AtD K "_law_calls" m9
 adL:AtD K "spot_of" sM
 n9:AtD K "first_meeting" hJ
 aap:AtD K "floor_of" pN
 afT:AtD K "who_at" xN
 wH:AtD K "spot_from" mX
 adO:AtD K "partner" sO
 aaf:AtD K "opposite" pB
 n8:AtD K "turned_facing" hI
 ajk:AtD K "looks" abL
 amU:AtD K "sees" agv
 aaq:AtD K "distance" pO
 ajm:AtD K "drift" abM
 adU:AtD K "is_head" sU
 adT:AtD K "is_left" sT
 adR:AtD K "is_such" sR
 ajl:AtD K "holds" vJ
 aae:AtD K "rule_for" pA
 aad:AtD K "steps_of" pz
 aam:AtD K "is_whole" pK
 aao:AtD K "is_place" pM
 wU:AtD K "is_facing" nc
 aan:AtD K "is_stand" pL
 adQ:AtD K "kept_in" sQ
 oX:AtD K "stand_behind" iK
 afU:AtD K "way_of" xO
 amT:AtE K "ways" agu #[.none]afV:AtE K "danced" xP #[.none]aal:AtD K "_law_kind" pJ
 uS:AtD K "_law_danced" lx
 adP:AtD K "_law_due" sP
 oY:AtD K "floor_behind" iL
 apL:AtD K "run" akQ
 aag:AtD K "_law_told" pE
 apN:AtD K "law" ah7
variable{P:Program}{w:World}{K:W.Frag}{mg:Str->Option Value}{base:Heap}{nu kx:Tok}{jt j5 j4 j3 j2:Addr}{ku:Tok}{eB gK dg bN bM bL bK:Addr}{gq hV hT hU eO fv fw:Tok}{js cj bD dB:Addr}{hX fy jL:Tok}{oy aK gI gJ bz df bS aW aX bR gv eR jf n4 jg nZ fm_Book_call fm_Run_dance fm_Run_go_on fm_Book_names:Addr}
def abW:RelV (.ref jt) (.ref jt):=rfl
def aeV:RelV (.ref gK) (.ref gK):=rfl
def aib:RelV (.ref js) (.ref js):=rfl
def tj:RelV (.ref cj) (.ref cj):=rfl
def oK:RelV (.ref bD) (.ref bD):=rfl
def zB:RelV (.ref dB) (.ref dB):=rfl
def abX:RelV (.str "abcdefghijklmnopqrstuvwxyz") (.str "abcdefghijklmnopqrstuvwxyz" jL):=⟨_,rfl⟩
def ak9:RelV (.ref oy) (.ref oy):=rfl
variable(T:Txt w K mg nu kx jt j5 j4 j3 j2 ku eB gK dg bN bM bL bK gq hV hT hU eO fv fw js cj bD dB hX fy jL oy aK gI gJ bz df bS aW aX bR gv eR jf n4 jg nZ fm_Book_call fm_Run_dance fm_Run_go_on fm_Book_names)
include T
theorem aba:∀F,RW K F kR (.ref jt):=λF=>by simp only[RW,RWs,kR];exact⟨_,_,rfl,T.ahR F,⟨_,_,rfl,⟨_,_,rfl,T.abn F,⟨_,_,rfl,rfl,⟨_,_,rfl,rfl,rfl⟩⟩⟩,⟨_,_,rfl,⟨_,_,rfl,T.abm F,⟨_,_,rfl,rfl,⟨_,_,rfl,rfl,rfl⟩⟩⟩,⟨_,_,rfl,⟨_,_,rfl,T.abl F,⟨_,_,rfl,rfl,⟨_,_,rfl,rfl,rfl⟩⟩⟩,⟨_,_,rfl,⟨_,_,rfl,T.abk F,⟨_,_,rfl,rfl,⟨_,_,rfl,rfl,rfl⟩⟩⟩,rfl⟩⟩⟩⟩⟩
theorem qg:∀F k u,WL.rM k [.str "same",.str "left",.str "about",.str "right"] [.int 0,.int 1,.int 2,.int 3]=some u->∃v,List.lookup k [(("same":Str),(.int 0:V)),(("left":Str),(.int 1:V)),(("about":Str),(.int 2:V)),(("right":Str),(.int 3:V))]=some v/\RW K F u v:=λF=>ia (by simp[RW]) (ia (by simp[RW]) (ia (by simp[RW]) (ia (by simp[RW]) agU)))
theorem aeE:∀F,RW K F j0 (.ref gK):=λF=>by simp only[RW,RWs,j0];exact⟨_,_,rfl,T.aeJ F,⟨_,_,rfl,rfl,⟨_,_,rfl,rfl,⟨_,_,rfl,rfl,rfl⟩⟩⟩⟩
theorem mz:∀F k u,WL.rM k [.str "ahead",.str "back",.str "left",.str "right"] [.tup [.int 1,.int 0],.tup [.int (-1),.int 0],.tup [.int 0,.int (-1)],.tup [.int 0,.int 1]]=some u->∃v,List.lookup k [(("ahead":Str),(.ref bN:V)),(("back":Str),(.ref bM:V)),(("left":Str),(.ref bL:V)),(("right":Str),(.ref bK:V))]=some v/\RW K F u v:=λF=>ia (by simp only[RW,RWs];exact⟨_,_,rfl,T.kg F,⟨_,_,rfl,rfl,⟨_,_,rfl,rfl,rfl⟩⟩⟩) (ia (by simp only[RW,RWs];exact⟨_,_,rfl,T.kf F,⟨_,_,rfl,rfl,⟨_,_,rfl,rfl,rfl⟩⟩⟩) (ia (by simp only[RW,RWs];exact⟨_,_,rfl,T.ke F,⟨_,_,rfl,rfl,⟨_,_,rfl,rfl,rfl⟩⟩⟩) (ia (by simp only[RW,RWs];exact⟨_,_,rfl,T.kd F,⟨_,_,rfl,rfl,⟨_,_,rfl,rfl,rfl⟩⟩⟩) agU)))
theorem ahI:∀F,RW K F rS (.ref js):=λF=>by simp only[RW,RWs,rS];exact⟨_,_,rfl,T.ahQ F,⟨_,_,rfl,rfl,⟨_,_,rfl,rfl,⟨_,_,rfl,rfl,⟨_,_,rfl,rfl,⟨_,_,rfl,rfl,⟨_,_,rfl,rfl,⟨_,_,rfl,rfl,⟨_,_,rfl,rfl,rfl⟩⟩⟩⟩⟩⟩⟩⟩⟩
theorem r9:∀F,RW K F ip (.ref cj):=λF=>by simp only[RW,RWs,ip];exact⟨_,_,rfl,T.sx F,⟨_,_,rfl,rfl,⟨_,_,rfl,rfl,⟨_,_,rfl,rfl,⟨_,_,rfl,rfl,⟨_,_,rfl,rfl,⟨_,_,rfl,rfl,⟨_,_,rfl,rfl,rfl⟩⟩⟩⟩⟩⟩⟩⟩
theorem oF:∀F,RW K F dH (.ref bD):=λF=>by simp only[RW,RWs,dH];exact⟨_,_,rfl,T.oH F,⟨_,_,rfl,rfl,⟨_,_,rfl,rfl,⟨_,_,rfl,rfl,⟨_,_,rfl,rfl,rfl⟩⟩⟩⟩⟩
theorem y8:∀F,RW K F kQ (.ref dB):=λF=>by simp only[RW,RWs,kQ];exact⟨_,_,rfl,T.zf F,⟨_,_,rfl,rfl,⟨_,_,rfl,rfl,⟨_,_,rfl,rfl,rfl⟩⟩⟩⟩
theorem abb:∀F,RW K F oo (.str "abcdefghijklmnopqrstuvwxyz"):=λF=>by simp[RW,oo]
theorem aku:∀F,RW K F ad8 (.ref oy):=λF=>by simp only[RW,RWs,ad8];exact⟨_,_,rfl,T.akA F,⟨_,_,rfl,rfl,⟨_,_,rfl,rfl,⟨_,_,rfl,rfl,⟨_,_,rfl,rfl,⟨_,_,rfl,rfl,⟨_,_,rfl,rfl,⟨_,_,rfl,rfl,rfl⟩⟩⟩⟩⟩⟩⟩⟩
theorem aeW:ExcS K bz:=rz T.xs T.ij T.aem T.ael T.aek
theorem qO:ajC P w K mg base gv ["self","who"] (spI bz ["who"]):=rh T.afJ (λ_ _ _ _ _ _ c g=>aaA (λ_ _=>rfl) c g) λh b=>yB b abF (by decide) (λ_ _ _ d f=>all_cons (lA (by decide)) (all_cons (tH d f) all_nil)) λe A a s H E hr=>aT (cU (md (by rfl) T.cL T.rd T.rf T.rs T.vM (aN (pv 0) (aN (qJ (.cons iM (.cons (tG (pv 1)) .nil))) cz)))) (cT (ae0 (aeW T) T.ud (pv 0) (pv 1) rfl))
theorem tm:ExcS K aW:=rz T.xs T.rF T.aaS T.aaR T.aaQ
theorem oM:ajC P w K mg base eR ["self","at","why"] (spG aW ["at","why"] 100000 (aex K)):=rh T.adm (λ_ _ _ _ _ _ c e=>u6 (λ_ _ _=>rfl) c e) λf b=>afC b zk (by decide) (by decide) (by decide) λd A a s H E hr=>aT (cU (md (by rfl) T.cL T.rd T.rf T.rs T.xW (aN (pv 0) (aN (qJ (.cons iM (.cons (tG (pv 1)) (.cons iM (.cons (aim hr (pv 2)) .nil))))) cz)))) (aT (ae0 (tm T) T.uc (pv 0) (pv 1) rfl) (cT (alh (tm T) T.qU (pv 0) (pv 2) rfl)))
theorem abY:ExcS K bS:=rz T.xs T.lH T.ag9 T.ag8 T.ag7
theorem tT:ajC P w K mg base jf ["self","one","other"] (spI bS ["one","other"]):=rh T.ai3 (λ_ _ _ _ _ _ b h=>u6 (λ_ _ _=>rfl) b h) λj d=>afD d aeQ (by decide) (by decide) (λ_ _ _ _ e i f g=>all_cons (lA (by decide)) (all_cons (tH e f) (all_cons (lA (by decide)) (all_cons (tH i g) (all_cons (lA (by decide)) all_nil))))) λc A a s H E hr=>aT (cU (md (by rfl) T.cL T.rd T.rf T.rs T.ab0 (aN (pv 0) (aN (qJ (.cons iM (.cons (tG (pv 1)) (.cons iM (.cons (tG (pv 2)) (.cons iM .nil)))))) cz)))) (aT (ae0 (abY T) T.we (pv 0) (pv 1) rfl) (cT (alh (abY T) T.qT (pv 0) (pv 2) rfl)))
theorem ala:ExcS K df:=rz T.xs T.uM T.aj3 T.aj2 T.aj1
theorem vZ:ajC P w K mg base n4 ["self","who"] (spI df ["who"]):=rh T.amF (λ_ _ _ _ _ _ c g=>aaA (λ_ _=>rfl) c g) λh b=>yB b ah6 (by decide) (λ_ _ _ d f=>all_cons (lA (by decide)) (all_cons (tH d f) (all_cons (lA (by decide)) all_nil))) λe A a s H E hr=>aT (cU (md (by rfl) T.cL T.rd T.rf T.rs T.aid (aN (pv 0) (aN (qJ (.cons iM (.cons (tG (pv 1)) (.cons iM .nil)))) cz)))) (cT (ae0 (ala T) T.zQ (pv 0) (pv 1) rfl))
theorem aiL:Mk K aX jg:=⟨T.z1_Book,T.z2_Book,T.z3_Book,T.z4_Book⟩
theorem gC:Cls K aX:=⟨T.z5_Book,T.z6_Book,T.z7_Book,T.z8_Book⟩
theorem alW:Mk K bR nZ:=⟨T.z1_Run,T.z2_Run,T.z3_Run,T.z4_Run⟩
theorem il:Cls K bR:=⟨T.z5_Run,T.z6_Run,T.z7_Run,T.z8_Run⟩
theorem zK:Cal P w K mg base CX0 41 "is_name" ["thing"] [] (spW K 1 uJ):=T.adS.dN T.mgA su zp λhB hr hx hp=>(ak (aM (PW.pt (vk (iH (fF (wB cJ (gc hB.symm) T.aJ ar3 (aa (va 0) (aa (wty T.acI boot_str) ah))))) (mm (iH (aeq jl jl ajF ajF ai (wB uV (agm hB.symm) T.gS arT (aa (va 0) ah)) (wki hB T.oR)))))) (ao (aw vp)) ax) (ao (aw (kX (cR eI (j7 hB.symm hr.units) (va 0) (wk hB T.alZ ak9 (aku T)) (by rfl)) (my (wB rP (w_all (cm hr) hB.symm) T.aiI boot_all (aa (eK (ts:=["sign"]) ⟨rfl,rfl,rfl,rfl,rfl⟩ (cm hr) rfl (bj (by decide)) (akd (va 0)) (λ_ _ _ _=>gN 0) (λ_ _ _ _=>fJ) λ_ _ _ _=>cR af1 (an1 hB.symm hr.units) (va 0) (wk hB T.acQ abX (abb T)) (by rfl)) ah)))))))
theorem tP:Cal P w K mg base CX0 41 "number_of" ["word","least","most"] [] (spW K 3 eU):=T.wM.dN T.mgA mG k9 λhB hr hx hp=>ak (fG hp (cm hr) (aa4 (by rfl) T.eP (va 1) (aB aP (w_add hB.symm) (va 2) ai)) (gN 3 k9.nd) (show PSs _ _ (loS _ K45.jR)from ao (aM (we2 hB hr.units (wT uT agk T.acI boot_str (aa (va 3) ah)) (va 0)) (ao (aw (va 3))) ax))) (ao (aw dj))
theorem dF:Cal P w K mg base CX0 42 "read_number" ["word","least","most"] [] (spW K 3 aU):=T.rK.dN T.mgA gi iJ λhB hr hx hp=>ak (wS 3 iJ.nd (cl hB hr (tP T) (aa (va 0) (aa (va 1) (aa (va 2) ah))))) (ak (aM (bE oj w_is (va 3) dj (aS _)) (ao eJ) ax) (ao (aw (va 3))))
theorem tM:Cal P w K mg base CX0 43 "read_step" ["word","more"] [] (spW K 2 cb):=T.wJ.dN T.mgA iV sI λhB hr hx hp=>ak (aM (PW.pt (o9 (we2 hB hr.units (va 0) ar) (mn (bE om (akq hB.symm hr.units) (va 1) (wk hB T.zT zB (y8 T)) (by rfl))))) (ao (aw (aF (aa (va 0) (aa (va 1) ah))))) ax) (ak (aM (bE eI (j7 hB.symm hr.units) (va 0) (wk hB T.oS oK (oF T)) (by rfl)) (ao eJ) ax) (ao (aw (aF (aa (va 0) (aa (cl hB hr (dF T) (aa (va 1) (aa ai (aa (wki hB T.oQ) ah)))) ah))))))
theorem jN:Cal P w K mg base CX0 44 "read_steps" ["text"] [] (spW K 1 dP):=T.uP.dN T.mgA gZ jF λhB hr hx hp=>(ak (aM (we2 hB hr.units (va 0) ar) (ao (aw (aF (aa (aF (aa ar ah)) ah)))) ax) (ak (wS 1 jF.nd (l6 hB.symm (va 0) (aa ar ah))) (ak (aM (PW.pt (vk (wn2 hB hr.units (aB aE w_mod (wB bx (gW hB.symm) T.gS arT (aa (va 1) ah)) ai) ai) (mm (bE kP akr (wB bx (gW hB.symm) T.gS arT (aa (va 1) ah)) (aB bw w_mul ai (wki hB T.ui)) (aS _))))) (ao eJ) ax) (ao (aw (wT eG (j6 hB.symm) T.i8 atB (aa (eK (ts:=["place"]) ⟨rfl,rfl,rfl,rfl,rfl⟩ (cm hr) rfl (bj (by decide)) (ahv (by rfl) T.eP ai (wB bx (gW hB.symm) T.gS arT (aa (va 1) ah))) (λ_ _ _ _=>gN 0) (λ_ _ _ _=>fJ) λ_ _ _ _=>cl hB hr (tM T) (aa (wx hB (va 2) (va 0)) (aa (wx hB (va 2) (aB aP (w_add hB.symm) (va 0) ai)) ah))) ah)))))))
theorem zF:Cal P w K mg base CX0 43 "read_at" ["words"] [] (spW K 1 ic):=T.adN.dN T.mgA jx km λhB hr hx hp=>ak (aM (PW.pt (vk (wn2 hB hr.units (wB bx (gW hB.symm) T.gS arT (aa (va 0) ah)) ai) (mm (bE eI (j7 hB.symm hr.units) (wx hB (va 0) ai) (wk hB T.aiM aib (ahI T)) (by rfl))))) (ao eJ) ax) (ak (wS 1 km.nd (cl hB hr (dF T) (aa (wx hB (va 0) ai) (aa (jv bW jw (wki hB T.cY)) (aa (wki hB T.cY) ah))))) (ak (wS 2 km.nd (cl hB hr (dF T) (aa (wx hB (va 0) ai) (aa (jv bW jw (wki hB T.cY)) (aa (wki hB T.cY) ah))))) (ak (aM (PW.pt (o9 (we2 hB hr.units (va 1) ai) (mn (we2 hB hr.units (va 2) ai)))) (ao eJ) ax) (ao (aw (aF (aa ar (aa (va 1) (aa (va 2) (aa (wx hB (va 0) ai) ah))))))))))
theorem qM:Cal P w K mg base CX0 43 "read_inner" ["words"] [] (spW K 1 ib):=T.uQ.dN T.mgA g6 qt λhB hr hx hp=>ak (aM (wn2 hB hr.units (wB bx (gW hB.symm) T.gS arT (aa (va 0) ah)) ai) (ao eJ) ax) (ao (aw (aF (aa ar (aa (cl hB hr (dF T) (aa (wx hB (va 0) ai) (aa ai (aa (wki hB T.oP) ah)))) ah)))))
theorem fj:Cal P w K mg base CX0 44 "read_plain_test" ["words"] [] (spW K 1 bq):=T.kK.dN T.mgA ck jG λhB hr hx hp=>ak (aM (we2 hB hr.units (wx hB (va 0) ai) ar) (ao (aw (cl hB hr (zF T) (aa (va 0) ah)))) ax) (ak (aM (we2 hB hr.units (wx hB (va 0) ai) ar) (ao (aw (cl hB hr (qM T) (aa (va 0) ah)))) ax) (ak (aM (PW.pt (vk (wn2 hB hr.units (wB bx (gW hB.symm) T.gS arT (aa (va 0) ah)) ai) (mm (bE eI (j7 hB.symm hr.units) (wx hB (va 0) ai) (wk hB T.um tj (r9 T)) (by rfl))))) (ao eJ) ax) (ao (aw (aF (aa (wx hB (va 0) ai) ah))))))
theorem tL:Cal P w K mg base CX0 45 "read_test" ["text"] [] (spW K 1 cH):=T.wI.dN T.mgA eM kZ λhB hr hx hp=>ak (wS 1 kZ.nd (l6 hB.symm (va 0) (aa ar ah))) (ak (aM (PW.pt (o9 (bE kP akr (wB bx (gW hB.symm) T.gS arT (aa (va 1) ah)) ai (aS _)) (mn (we2 hB hr.units (wx hB (va 1) ai) ar)))) (ao (aw (aF (aa ar (aa (cl hB hr (fj T) (aa (ahz (anZ hB.symm) (va 1) (mv ai) vm) ah)) ah))))) ax) (ao (aw (cl hB hr (fj T) (aa (va 1) ah)))))
theorem qL:Cal P w K mg base CX0 46 "read_tests" ["text"] [] (spW K 1 fk):=T.uO.dN T.mgA gY jE λhB hr hx hp=>(ak (wS 1 jE.nd (l6 hB.symm (va 0) (aa ar ah))) (ak (aM (bE kP akr (wB bx (gW hB.symm) T.gS arT (aa (va 1) ah)) (wki hB T.uh) (aS _)) (ao eJ) ax) (ao (aw (wT eG (j6 hB.symm) T.i8 atB (aa (eK (ts:=["test"]) ⟨rfl,rfl,rfl,rfl,rfl⟩ (cm hr) rfl (bj (by decide)) (fH hB.symm (va 1)) (λ_ _ _ _=>gN 0) (λ_ _ _ _=>fJ) λ_ _ _ _=>cl hB hr (tL T) (aa (va 0) ah)) ah))))))
theorem tN:Cal P w K mg base CX0 47 "read_rule" ["text"] [] (spW K 1 dv):=T.wK.dN T.mgA gh k7 λhB hr hx hp=>ak (aM (fF (aa1 hB.symm (va 0) (aa ar ah))) (ao (aw (aF (aa (aF ah) (aa (cl hB hr (jN T) (aa (ahy (va 0) ai) ah)) ah))))) ax) (ak (wS 1 k7.nd (ahq hB.symm (va 0) (aa ar ah))) (ak (aM (we2 hB hr.units (wx hB (va 1) ai) ar) (ao eJ) ax) (ao (aw (aF (aa (cl hB hr (qL T) (aa (wx hB (va 1) ai) ah)) (aa (cl hB hr (jN T) (aa (wx hB (va 1) ai) ah)) ah)))))))
theorem tO:Cal P w K mg base CX0 48 "read_call" ["text"] [] (spW K 1 aQ):=T.wL.dN T.mgA iW k8 λhB hr hx hp=>(ak (aM (iH (fF (wB cJ (gc hB.symm) T.aJ ar3 (aa (va 0) (aa (wty T.acI boot_str) ah))))) (ao eJ) ax) (ak (wS 1 k8.nd (l6 hB.symm (va 0) (aa ar ah))) (ak (aM (bE kP akr (wB bx (gW hB.symm) T.gS arT (aa (va 1) ah)) (wki hB T.uj) (aS _)) (ao eJ) ax) (ao (aw (eK (ts:=["rule"]) ⟨rfl,rfl,rfl,rfl,rfl⟩ (cm hr) rfl (bj (by decide)) (fH hB.symm (va 1)) (λ_ _ _ _=>gN 0) (λ_ _ _ _=>fJ) λ_ _ _ _=>cl hB hr (tN T) (aa (va 0) ah)))))))
theorem aiz:am6 P w K mg base 49 jg ["self","texts"] (spB K "calls" yJ):=yC T.ai4 (λ_ _ _ _ _ _ b f=>aaA (λ_ _=>rfl) b f) λg e=>by refine afB qo qm iT e vI rfl rfl ?_;intro c A a s H E X d hr hp;subst d;exact⟨λB hB hx=>⟨aM (bE kP akr (wB uV (agm hB.symm) T.gS arT (aa (va 1) ah)) (wki hB T.uk) (aS _)) (ao eJ) ax,ahm hB.symm hp (cm hr) hx (pv 1) (λ_=>gN 2 vI.nd) λB hB hx=>show PSs _ _ (loS _ K45.yx)from ao (aM (iH (fF (cl hB hr (zK T) (aa (va 2) ah)))) (ao eJ) ax),cl hB hr (tO T) (aa (wx hB (va 1) (va 2)) ah)⟩,pv 0,pv 0,pv 1,pv 2,vP vI.nd rfl (Or.inl rfl),cm hr,rfl,rfl,rfl,λ_=>rfl⟩
theorem jO{f:Addr}{c:FuncData}(b:Fun K "_law_words" "_law_words" i2 f c)(g:mg "_law_words"=some (.ref f))(e:Binds K c ["_law_parts"] []):∀n:Nat,FnOk P w K mg base CX0 (40+n) f c ["_law_parts"] (spW K 1 (aR n))|0=>adI b lb rfl|n+1=>have a:=jO b g e n;rH (gj (aR n)) b lb rfl rfl rfl (by decide) λh A d s H E B hB hr hx hp=>(ak (aM (we2 hB hr.units (wx hB (va 0) ai) ar) (ao (aw (aB aP (w_add hB.symm) (fb (aa ar ah)) (vo hB.symm a (hr.mono (arn _)) (by rfl) g b.kp e (aa (wx hB (va 0) ai) ah) (de iu))))) ax) (ao (aw (eK (ts:=["_law_part"]) ⟨rfl,rfl,rfl,rfl,rfl⟩ (cm hr) rfl (bj (by decide)) (fH hB.symm (va 0)) (λ_ _ _ _=>gN 0) (λ_ _ _ _=>fJ) λ_ _ _ _=>wT uT agk T.acI boot_str (aa (va 0) ah)))))
theorem lB:Cal P w K mg base CX0 42 "_law_words" ["_law_parts"] [] (spW K 1 (aR 2)):=T.wN.aqC T.mgA (λ_ _ _ _ _ _ d c=>bind1 (λ_=>rfl) d c) λ_ _ b e a=>jO T b e a 2
theorem ky:Cal P w K mg base CX0 43 "_law_rule_words" ["_law_rule_here"] [] (spW K 1 bT):=T.l1.dN T.mgA dW bc λhB hr hx hp=>(ak (fq (i:=1) bc.nd rfl (Or.inl rfl) (mw ah)) (ak (fG hp (cm hr) (fH hB.symm (wx hB (va 0) ai)) (gN 2 bc.nd) (show PSs _ _ (loS _ K45.aO)from(ak (aM (aj9 (i:=1) (wn2 hB hr.units (va 1) (fb ah))) (ao (mr hB.symm (cU (i4 arS ar0 ar1 cX (pv 1) (aN ar cz))))) ax) (ao (iI (i:=1) (fq (i:=1) bc.nd rfl (Or.inl rfl) (agi hB.symm (va 1) (cl hB hr (lB T) (aa (va 2) ah))))))))) (ak (mr hB.symm (cU (i4 arS ar0 ar1 cX (pv 1) (aN ar cz)))) (ak (fG hp (cm hr) (fH hB.symm (wx hB (va 0) ai)) (gN 3 bc.nd) (show PSs _ _ (loS _ K45.aG)from(ao (iI (i:=1) (fq (i:=1) bc.nd rfl (Or.inl rfl) (agi hB.symm (va 1) (cl hB hr (lB T) (aa (va 3) ah)))))))) (ao (iI (i:=1) (aw (va 1))))))))
theorem nC:Cal P w K mg base CX0 44 "_law_text" ["_law_rules"] [] (spW K 1 cM):=T.aah.dN T.mgA ka vC λhB hr hx hp=>(ao (aw (aa3 hB.symm ar (aa (eK (ts:=["_law_rule_here"]) ⟨rfl,rfl,rfl,rfl,rfl⟩ (cm hr) rfl (bj (by decide)) (fH hB.symm (va 0)) (λ_ _ _ _=>gN 0) (λ_ _ _ _=>fJ) λ_ _ _ _=>aa3 hB.symm ar (aa (cl hB hr (ky T) (aa (va 0) ah)) ah)) ah))))
theorem cu:Cal P w K mg base CX0 1 "_law_number" ["_law_cell","_law_k"] [] (spW K 2 aC):=T.uR.dN T.mgA g7 qu λhB hr hx hp=>ao (aw (aB aE w_mod (aB bw w_mul (aB aP (w_add hB.symm) (aB aE w_mod (va 0) ai) ai) (aB aP (w_add hB.symm) ai (aB bw w_mul (aB bw w_mul ai (va 1)) (va 1)))) ai))
theorem vW:Cal P w K mg base CX0 1 "_law_test" ["_law_number_here"] [] (spW K 1 iD):=T.aai.dN T.mgA ph bA λhB hr hx hp=>ak (wS 1 bA.nd (aB aE w_mod (va 0) ai)) (ak (wS 0 bA.nd (aB bH w_div (va 0) ai)) (ak (wS 2 bA.nd (aF (aa (wx hB (fb (aa ar (aa ar (aa ar (aa ar (aa ar (aa ar (aa ar ah)))))))) (aB aE w_mod (va 0) ai)) ah))) (ak (aM (bE kN w_lt (va 1) ai (aS _)) (ak (wS 3 bA.nd (aB fo w_sub (aB aE w_mod (va 0) ai) ai)) (ak (wS 4 bA.nd (aB fo w_sub (aB aE w_mod (aB bH w_div (va 0) ai) ai) ai)) (ak (wS 5 bA.nd (fb (aa ar (aa ar (aa ar (aa ar (aa ar (aa ar (aa ar (aa ar ah)))))))))) (ao (wS 2 bA.nd (aF (aa ar (aa (aB aP (w_add hB.symm) (va 3) (wT ad4 akp T.alT boot_int (aa (kX (cR calm_eq (w_eq hB.symm hr.units) (va 3) ai (aS _)) (my (cR calm_eq (w_eq hB.symm hr.units) (va 4) ai (aS _)))) ah))) (aa (va 4) (aa (wx hB (va 5) (aB aE w_mod (aB bH w_div (va 0) ai) ai)) ah)))))))))) ax) (ak (aM (we2 hB hr.units (va 1) ai) (ao (wS 2 bA.nd (aF (aa ar (aa (wx hB (fb (aa (aB aE w_mod (va 0) ai) (aa (aB aE w_mod (va 0) ai) ah))) (aB aE w_mod (aB bH w_div (va 0) ai) ai)) ah))))) ax) (ak (aM (we2 hB hr.units (aB aE w_mod (aB bH w_div (va 0) ai) ai) ai) (ao (wS 2 bA.nd (aF (aa ar (aa (va 2) ah))))) ax) (ao (aw (va 2))))))))
theorem vX:Cal P w K mg base CX0 1 "_law_step" ["_law_number_here"] [] (spW K 1 bV):=T.aaj.dN T.mgA cp vD λhB hr hx hp=>ak (aM (we2 hB hr.units (aB aE w_mod (va 0) ai) ai) (ao (aw (aF (aa ar (aa (wx hB (fb (aa ar (aa ar (aa ar ah)))) (aB aE w_mod (aB bH w_div (va 0) ai) ai)) ah))))) ax) (ao (aw (aF (aa (wx hB (fb (aa ar (aa ar (aa ar (aa ar ah))))) (aB aE w_mod (aB bH w_div (va 0) ai) ai)) (aa (aB aP (w_add hB.symm) ai (aB aE w_mod (aB bH w_div (va 0) ai) ai)) ah)))))
theorem nD:Cal P w K mg base CX0 41 "_law_rule" ["_law_cell","_law_k"] [] (spW K 2 bt):=T.aak.dN T.mgA iv cE λhB hr hx hp=>(ak (wS 2 cE.nd (cl hB hr (cu T) (aa (va 0) (aa (aB bw w_mul ai (va 1)) ah)))) (ak (fq (i:=3) cE.nd rfl (Or.inl rfl) (mw ah)) (ak (fG hp (cm hr) (iR (by rfl) T.eP (wx hB (fb (aa ai (aa ai (aa ai (aa ai (aa ai (aa ai ah))))))) (aB aE w_mod (va 2) ai))) (gN 4 cE.nd) (show PSs _ _ (loS _ K45.dO)from ao (mr hB.symm (cU (i4 arS ar0 ar1 cX (pv 3) (aN (cl hB hr (vW T) (aa (cl hB hr (cu T) (aa (va 0) (aa (aB aP (w_add hB.symm) (aB aP (w_add hB.symm) (aB bw w_mul ai (va 1)) ai) (va 4)) ah))) ah)) cz)))))) (ak (fq (i:=5) cE.nd rfl (Or.inl rfl) (mw ah)) (ak (fG hp (cm hr) (iR (by rfl) T.eP (wx hB (fb (aa ai (aa ai (aa ai (aa ai (aa ai ah)))))) (aB aE w_mod (aB bH w_div (va 2) ai) ai))) (gN 4 cE.nd) (show PSs _ _ (loS _ K45.dJ)from ao (mr hB.symm (cU (i4 arS ar0 ar1 cX (pv 5) (aN (cl hB hr (vX T) (aa (cl hB hr (cu T) (aa (va 0) (aa (aB aP (w_add hB.symm) (aB aP (w_add hB.symm) (aB bw w_mul ai (va 1)) ai) (va 4)) ah))) ah)) cz)))))) (ak (aM (we2 hB hr.units (aB aE w_mod (aB bH w_div (va 2) ai) ai) ai) (ao (fq (i:=5) cE.nd rfl (Or.inl rfl) (mw (aa (aF (aa ar ah)) ah)))) ax) (ao (iI (i:=5) (iI (i:=3) (aw (aF (aa (wT eG (j6 hB.symm) T.i8 atB (aa (va 3) ah)) (aa (wT eG (j6 hB.symm) T.i8 atB (aa (va 5) ah)) ah)))))))))))))
theorem fA:Cal P w K mg base CX0 1 "_law_cell_at" ["_law_script","_law_k"] [] (spW K 2 aI):=T.rL.dN T.mgA eu oJ λhB hr hx hp=>ak (aM (bE kN w_lt (va 1) (wB bx (gW hB.symm) T.gS arT (aa (va 0) ah)) (aS _)) (ao (aw (wx hB (va 0) (va 1)))) ax) (ao (aw ai))
theorem lC:Cal P w K mg base CX0 45 "_law_texts" ["_law_script"] [] (spW K 1 cI):=T.wO.dN T.mgA mH lg λhB hr hx hp=>(ak (aes (i:=1) lg.nd rfl (Or.inl rfl) (qf ar ar (qf ar ar (qf ar ar (qf ar ar akm))))) (ak (gV (i:=1) (un1 hr.units) (pv 1) ar ar) (ak (gV (i:=1) (un1 hr.units) (pv 1) ar ar) (ak (gV (i:=1) (un1 hr.units) (pv 1) ar ar) (ak (gV (i:=1) (un1 hr.units) (pv 1) ar ar) (ak (gV (i:=1) (un1 hr.units) (pv 1) ar ar) (ak (gV (i:=1) (un1 hr.units) (pv 1) ar ar) (ak (gV (i:=1) (un1 hr.units) (pv 1) ar (cl hB hr (nC T) (aa (eK (ts:=["_law_k"]) ⟨rfl,rfl,rfl,rfl,rfl⟩ (cm hr) rfl (bj (by decide)) (iR (by rfl) T.eP ai) (λ_ _ _ _=>gN 0) (λ_ _ _ _=>fJ) λ_ _ _ _=>cl hB hr (nD T) (aa (cl hB hr (fA T) (aa (va 1) (aa ai ah))) (aa (va 0) ah))) ah))) (ak (gV (i:=1) (un1 hr.units) (pv 1) ar (cl hB hr (nC T) (aa (fb (aa (cl hB hr (nD T) (aa (cl hB hr (fA T) (aa (va 0) (aa ai ah))) (aa ai ah))) (aa (aF (aa (aF ah) (aa (aF (aa (aF (aa ar (aa ar ah))) ah)) ah))) ah))) ah))) (ao (iI (i:=1) (aw (va 1)))))))))))))
theorem tQ:Cal P w K mg base CX0 41 "_law_floor" ["_law_script"] [] (spW K 1 eV):=T.wQ.dN T.mgA gk bX λhB hr hx hp=>(ak (wS 1 bX.nd (aF (aa (aF (aa (jv bW jw ai) (aa (jv bW jw ai) (aa ai ah)))) (aa (aF (aa ai (aa (jv bW jw ai) (aa ai ah)))) (aa (aF (aa ai (aa (jv bW jw ai) (aa ai ah)))) (aa (aF (aa ai (aa ai (aa ai ah)))) (aa (aF (aa ai (aa ai (aa ai ah)))) (aa (aF (aa (jv bW jw ai) (aa ai (aa ai ah)))) (aa (aF (aa (jv bW jw ai) (aa ai (aa ai ah)))) (aa (aF (aa (jv bW jw ai) (aa (jv bW jw ai) (aa ai ah)))) ah)))))))))) (ak (wS 2 bX.nd (cl hB hr (cu T) (aa (cl hB hr (fA T) (aa (va 0) (aa ai ah))) (aa ai ah)))) (ak (aM (bE kN w_lt (aB aE w_mod (va 2) ai) ai (aS _)) (ao (aw (va 1))) ax) (ak (fq (i:=3) bX.nd rfl (Or.inl rfl) (mw ah)) (ak (fG hp (cm hr) (iR (by rfl) T.eP ai) (gN 4 bX.nd) (show PSs _ _ (loS _ K45.cZ)from ak (wS 5 bX.nd (aB aE w_mod (aB aP (w_add hB.symm) (aB bH w_div (va 2) ai) (aB bw w_mul ai (va 4))) ai)) (ak (wS 6 bX.nd (aB aP (w_add hB.symm) ai (aB aE w_mod (aB bH w_div (va 2) ai) ai))) (ao (mr hB.symm (cU (i4 arS ar0 ar1 cX (pv 3) (aN (aF (aa (aB bw w_mul (va 6) (aB fo w_sub (aB aE w_mod (va 5) ai) ai)) (aa (aB bw w_mul (va 6) (aB fo w_sub (aB bH w_div (va 5) ai) ai)) (aa (aB aE w_mod (cl hB hr (cu T) (aa (va 2) (aa (aB aP (w_add hB.symm) ai (va 4)) ah))) ai) ah)))) cz)))))))) (ao (iI (i:=3) (aw (wT eG (j6 hB.symm) T.i8 atB (aa (va 3) ah))))))))))
theorem tR:Cal P w K mg base CX0 1 "_law_calls" [] [] (spW K 0 ji):=T.wR.dN T.mgA mI lh λhB hr hx hp=>ak (wS 0 lh.nd (fb (aa ar (aa ar (aa ar (aa ar (aa ar (aa ar (aa ar (aa ar (aa ar (aa ar (aa ar (aa ar ah)))))))))))))) (ao (aw (aB aP (w_add hB.symm) (va 0) (fb (aa ar (aa ar (aa ar (aa ar (aa ar (aa ar (aa ar (aa ar ah))))))))))))
theorem fN:Cal P w K mg base CX0 1 "spot_of" ["stand"] [] (spW K 1 eT):=T.adL.dN T.mgA sq zl λhB hr hx hp=>ao (aw (aF (aa (wx hB (va 0) ai) (aa (wx hB (va 0) ai) ah))))
theorem lU:Cal P w K mg base CX0 41 "first_meeting" ["stands"] [] (spW K 1 cf):=T.n9.dN T.mgA cS dY λhB hr hx hp=>ak (fG hp (cm hr) (iR (by rfl) T.eP (wB bx (gW hB.symm) T.gS arT (aa (va 0) ah))) (gN 1 dY.nd) (show PSs _ _ (loS _ K45.bh)from ao (fG hp (cm hr) (aa4 (by rfl) T.eP (aB aP (w_add hB.symm) (va 1) ai) (wB bx (gW hB.symm) T.gS arT (aa (va 0) ah))) (gN 2 dY.nd) (show PSs _ _ (loS _ K45.bg)from ao (aM (we2 hB hr.units (cl hB hr (fN T) (aa (wx hB (va 0) (va 1)) ah)) (cl hB hr (fN T) (aa (wx hB (va 0) (va 2)) ah))) (ao (aw (aF (aa (va 1) (aa (va 2) ah))))) ax))))) (ao (aw dj))
theorem v5:Cal P w K mg base (CXX P w) 42 "floor_of" ["stands"] [] (spX K 1 dz):=T.aap.dX T.mgA iy mV λhB hr hx hp=>ak (wS 1 mV.nd (cl hB hr (lU T) (aa (va 0) ah))) (ak (aM (bE kO vr (va 1) dj (aS _)) (ao (rI hB hr hx (cm hr) T.acP T.ab0 T.aic (tT T) T.lH (aa (wx hB (va 1) ai) (aa (wx hB (va 1) ai) ah)))) ax) (ao (aw (wT eG (j6 hB.symm) T.i8 atB (aa (va 0) ah)))))
theorem acs:Cal P w K mg base CX0 41 "who_at" ["floor","spot"] [] (spW K 2 rn):=T.afT.dN T.mgA xA mS λhB hr hx hp=>ak (fG hp (cm hr) (vn hB.symm (by rfl) T.i9 (va 0)) (rY hB.symm (cm hr) (dC (gN 2 mS.nd) (dC (gN 3 mS.nd) mx)) rfl (fB (fB uC)) kD) (show PSs _ _ (loS _ K45.fR)from ao (aM (we2 hB hr.units (cl hB hr (fN T) (aa (va 3) ah)) (va 1)) (ao (aw (va 2))) ax))) (ao (aw dj))
theorem hZ:Cal P w K mg base CX0 1 "spot_from" ["stand","ahead","right"] [] (spW K 3 du):=T.wH.dN T.mgA iU fg λhB hr hx hp=>ak (wS 3 fg.nd (wx hB (wk hB T.acO abW (aba T)) (wx hB (va 0) ai))) (ak (wS 4 fg.nd (aB aP (w_add hB.symm) (aB bw w_mul (wx hB (va 3) ai) (va 1)) (aB bw w_mul (wx hB (va 3) ai) (va 2)))) (ak (wS 5 fg.nd (aB fo w_sub (aB bw w_mul (wx hB (va 3) ai) (va 1)) (aB bw w_mul (wx hB (va 3) ai) (va 2)))) (ao (aw (aF (aa (aB aP (w_add hB.symm) (wx hB (va 0) ai) (va 4)) (aa (aB aP (w_add hB.symm) (wx hB (va 0) ai) (va 5)) ah)))))))
theorem zG:Cal P w K mg base CX0 1 "partner" ["dancer"] [] (spW K 1 jU):=T.adO.dN T.mgA mF zm λhB hr hx hp=>ao (aw (akh (we2 hB hr.units (aB aE w_mod (va 0) ai) ai) (aB aP (w_add hB.symm) (va 0) ai) (aB fo w_sub (va 0) ai)))
theorem vT:Cal P w K mg base CX0 1 "opposite" ["dancer"] [] (spW K 1 iC):=T.aaf.dN T.mgA j8 vB λhB hr hx hp=>ao (aw (aB aE w_mod (aB aP (w_add hB.symm) (va 0) (aB bH w_div (wki hB T.h8) ai)) (wki hB T.h8)))
theorem gM:Cal P w K mg base CX0 1 "turned_facing" ["facing","way"] [] (spW K 2 bZ):=T.n8.dN T.mgA eL lS λhB hr hx hp=>ao (aw (aB aE w_mod (aB aP (w_add hB.symm) (va 0) (gx hB T.qX T.ql (qg T) (va 1))) (wki hB T.zU)))
theorem afe:Cal P w K mg base CX0 2 "looks" ["own","stands","who","what"] [] (spW K 4 jh):=T.ajk.dN T.mgA j9 aeR λhB hr hx hp=>ak (aM (bE oj w_is (va 2) dj (aS _)) (ao (aw (cR calm_eq (w_eq hB.symm hr.units) (va 3) ar (aS _)))) ax) (ak (aM (bE om (akq hB.symm hr.units) (va 3) (aF (aa ar (aa ar ah))) (by rfl)) (ao (aw (cR calm_eq (w_eq hB.symm hr.units) (va 3) ar (aS _)))) ax) (ao (aw (cR calm_eq (w_eq hB.symm hr.units) (wx hB (wx hB (va 1) (va 2)) ai) (cl hB hr (gM T) (aa (wx hB (va 0) ai) (aa (va 3) ah))) (aS _)))))
theorem aiw:Cal P w K mg base CX0 42 "sees" ["floor","dancer","test"] [] (spW K 3 pZ):=T.amU.dN T.mgA sr qr λhB hr hx hp=>ak (wS 3 qr.nd (wx hB (va 0) (va 1))) (ak (wS 4 qr.nd (wx hB (va 2) ai)) (ak (wS 5 qr.nd (cl hB hr (acs T) (aa (va 0) (aa (cl hB hr (hZ T) (aa (va 3) (aa (wx hB (va 2) ai) (aa (wx hB (va 2) ai) ah)))) ah)))) (ak (aM (we2 hB hr.units (va 4) ar) (ao (aw (cR calm_eq (w_eq hB.symm hr.units) (va 5) (cl hB hr (zG T) (aa (va 1) ah)) (aS _)))) ax) (ak (aM (we2 hB hr.units (va 4) ar) (ao (aw (cR calm_eq (w_eq hB.symm hr.units) (va 5) (cl hB hr (vT T) (aa (va 1) ah)) (aS _)))) ax) (ao (aw (cl hB hr (afe T) (aa (va 3) (aa (va 0) (aa (va 5) (aa (va 4) ah)))))))))))
theorem i5:Cal P w K mg base CX0 41 "distance" ["spot"] [] (spW K 1 fY):=T.aaq.dN T.mgA pk vH λhB hr hx hp=>ao (aw (wB ad2 (ako (cm hr)) T.apg boot_max (aa (wB yU akt T.alV boot_abs (aa (wx hB (va 0) ai) ah)) (aa (wB yU akt T.alV boot_abs (aa (wx hB (va 0) ai) ah)) ah))))
theorem afg:Cal P w K mg base CX0 42 "drift" ["stand"] [] (spW K 1 n6):=T.ajm.dN T.mgA qk qx λhB hr hx hp=>ak (wS 1 qx.nd (cl hB hr (i5 T) (aa (cl hB hr (fN T) (aa (va 0) ah)) ah))) (ak (wS 2 qx.nd (cl hB hr (i5 T) (aa (cl hB hr (hZ T) (aa (va 0) (aa ai (aa ai ah)))) ah))) (ak (aM (we2 hB hr.units (va 2) (va 1)) (ao (aw ar)) ax) (ao (aw (akh (bE kN w_lt (va 2) (va 1) (aS _)) ar ar)))))
theorem zM:Cal P w K mg base CX0 1 "is_head" ["dancer"] [] (spW K 1 jV):=T.adU.dN T.mgA mJ zr λhB hr hx hp=>ao (aw (cR calm_eq (w_eq hB.symm hr.units) (aB aE w_mod (aB bH w_div (va 0) ai) ai) ai (aS _)))
theorem zL:Cal P w K mg base CX0 1 "is_left" ["dancer"] [] (spW K 1 n5):=T.adT.dN T.mgA sv zq λhB hr hx hp=>ao (aw (cR calm_eq (w_eq hB.symm hr.units) (aB aE w_mod (va 0) ai) ai (aS _)))
theorem zJ:Cal P w K mg base CX0 2 "is_such" ["dancer","word"] [] (spW K 2 ig):=T.adR.dN T.mgA jA zo λhB hr hx hp=>ak (aM (bE om (akq hB.symm hr.units) (va 1) (aF (aa ar (aa ar ah))) (by rfl)) (ao (aw (cR calm_eq (w_eq hB.symm hr.units) (cl hB hr (zM T) (aa (va 0) ah)) (cR calm_eq (w_eq hB.symm hr.units) (va 1) ar (aS _)) (aS _)))) ax) (ao (aw (cR calm_eq (w_eq hB.symm hr.units) (cl hB hr (zL T) (aa (va 0) ah)) (cR calm_eq (w_eq hB.symm hr.units) (va 1) ar (aS _)) (aS _))))
theorem tY{f:Addr}{d:FuncData}(b:Fun K "holds" "holds" vJ f d)(g:mg "holds"=some (.ref f))(e:Binds K d ["floor","dancer","test"] []):∀n:Nat,FnOk P w K mg base CX0 (42+n) f d ["floor","dancer","test"] (spW K 3 (dy n))|0=>adI b qv rfl|n+1=>have a:=tY b g e n;rH (iY (dy n)) b qv rfl rfl rfl (by decide) λh A c s H E B hB hr hx hp=>(ak (wS 3 qv.nd (wx hB (va 2) ai)) (ak (aM (we2 hB hr.units (va 3) ar) (ao (aw (agj (vo hB.symm a (hr.mono (arn _)) (by rfl) g b.kp e (aa (va 0) (aa (va 1) (aa (wx hB (va 2) ai) ah))) (de (de (de iu))))))) ax) (ak (aM (we2 hB hr.units (va 3) ar) (ao (aw (cl hB hr (aiw T) (aa (va 0) (aa (va 1) (aa (va 2) ah))) (arq (by decide) (as3 _ _))))) ax) (ak (aM (we2 hB hr.units (va 3) ar) (ao (aw (cR jl ajF (cl hB hr (i5 T) (aa (cl hB hr (fN T) (aa (wx hB (va 0) (va 1)) ah) (arq (by decide) (as3 _ _))) ah) (arq (by decide) (as3 _ _))) (wx hB (va 2) ai) (aS _)))) ax) (ak (aM (bE om (akq hB.symm hr.units) (va 3) (wk hB T.afn aeV (aeE T)) (by rfl)) (ao (aw (cR calm_eq (w_eq hB.symm hr.units) (cl hB hr (afg T) (aa (wx hB (va 0) (va 1)) ah) (arq (by decide) (as3 _ _))) (va 3) (aS _)))) ax) (ao (aw (cl hB hr (zJ T) (aa (va 1) (aa (va 3) ah)) (arq (by decide) (as3 _ _))))))))))
theorem aff:Cal P w K mg base CX0 44 "holds" ["floor","dancer","test"] [] (spW K 3 (dy 2)):=T.ajl.aqC T.mgA (λ_ _ _ _ _ _ d c=>u6 (λ_ _ _=>rfl) d c) λ_ _ b e a=>tY T b e a 2
theorem vS:Cal P w K mg base CX0 45 "rule_for" ["floor","dancer","call"] [] (spW K 3 kG):=T.aae.dN T.mgA pf i0 λhB hr hx hp=>(ak (fG hp (cm hr) (vn hB.symm (by rfl) T.i9 (va 2)) (rY hB.symm (cm hr) (dC (gN 3 i0.nd) (dC (gN 4 i0.nd) mx)) rfl (fB (fB uC)) kD) (show PSs _ _ (loS _ K45.dM)from(ao (aM (fF (wB rP (w_all (cm hr) hB.symm) T.aiI boot_all (aa (eK (ts:=["test"]) ⟨rfl,rfl,rfl,rfl,rfl⟩ (cm hr) rfl (bj (by decide)) (fH hB.symm (wx hB (va 4) ai)) (λ_ _ _ _=>gN 0) (λ_ _ _ _=>fJ) λ_ _ _ _=>cl hB hr (aff T) (aa (va 1) (aa (va 2) (aa (va 0) ah)))) ah))) (ao (aw (va 3))) ax)))) (ao (aw dj)))
theorem vR:Cal P w K mg base (CXX P w) 46 "steps_of" ["floor","dancer","call","some"] [] (spX K 4 bp):=T.aad.dX T.mgA eE mU λhB hr hx hp=>ak (aM (PW.pt (o9 (bE kO vr (va 3) dj (aS _)) (mn (bE eI (j7 hB.symm hr.units) (va 1) (va 3) (by rfl))))) (ao (aw (aF ah))) ax) (ak (wS 4 mU.nd (cl hB hr (vS T) (aa (va 0) (aa (va 1) (aa (va 2) ah))))) (ak (aM (bE oj w_is (va 4) dj (aS _)) (ao (rI hB hr hx (cm hr) T.wj T.vM T.aeX (qO T) T.ij (aa (va 1) ah))) ax) (ao (aw (wx hB (wx hB (va 2) (va 4)) ai)))))
theorem nG:Cal P w K mg base CX0 1 "is_whole" ["thing"] [] (spW K 1 fV):=T.aam.dN T.mgA ix vE λhB hr hx hp=>ao (aw (kX (wB cJ (gc hB.symm) T.aJ ar3 (aa (va 0) (aa (wty T.alT boot_int) ah))) (my (agj (wB cJ (gc hB.symm) T.aJ ar3 (aa (va 0) (aa (wty T.alU boot_bool) ah)))))))
theorem nH:Cal P w K mg base CX0 2 "is_place" ["thing"] [] (spW K 1 fX):=T.aao.dN T.mgA kc vG λhB hr hx hp=>ao (aw (kX (cl hB hr (nG T) (aa (va 0) ah)) (my (xm jl jl ajF ajF (jv bW jw (wki hB T.pR)) (va 0) (wki hB T.pR)))))
theorem tS:Cal P w K mg base CX0 2 "is_facing" ["thing"] [] (spW K 1 gz):=T.wU.dN T.mgA iX sJ λhB hr hx hp=>ao (aw (kX (cl hB hr (nG T) (aa (va 0) ah)) (my (xm jl kN ajF w_lt ai (va 0) (wB bx (gW hB.symm) T.gS arT (aa (wk hB T.acO abW (aba T)) ah))))))
theorem vY:Cal P w K mg base CX0 3 "is_stand" ["thing"] [] (spW K 1 fW):=T.aan.dN T.mgA kb vF λhB hr hx hp=>ak (aM (PW.pt (vk (iH (fF (wB cJ (gc hB.symm) T.aJ ar3 (aa (va 0) (aa (wty T.i8 atB) ah))))) (mm (wn2 hB hr.units (wB bx (gW hB.symm) T.gS arT (aa (va 0) ah)) ai)))) (ao (aw vp)) ax) (ao (aw (kX (cl hB hr (nH T) (aa (wx hB (va 0) ai) ah)) (kX (cl hB hr (nH T) (aa (wx hB (va 0) ai) ah)) (my (cl hB hr (tS T) (aa (wx hB (va 0) ai) ah)))))))
theorem zI:Cal P w K mg base (CXX P w) 41 "kept_in" ["told"] [] (spX K 1 eW):=T.adQ.dX T.mgA jz kn λhB hr hx hp=>(ak (fG hp (cm hr) (vn hB.symm (by rfl) T.i9 (va 0)) (rY hB.symm (cm hr) (dC (gN 1 kn.nd) (dC (gN 2 kn.nd) mx)) rfl (fB (fB uC)) kD) (show PSs _ _ (loS _ K45.bY)from(ao (aM (iH (fF (wB rP (w_all (cm hr) hB.symm) T.aiI boot_all (aa (eK (ts:=["stand"]) ⟨rfl,rfl,rfl,rfl,rfl⟩ (cm hr) rfl (bj (by decide)) (fH hB.symm (ahz (anZ hB.symm) (va 2) (mv ai) vm)) (λ_ _ _ _=>gN 0) (λ_ _ _ _=>fJ) λ_ _ _ _=>cl hB hr (vY T) (aa (va 0) ah)) ah)))) (ao (rI hB hr hx (cm hr) T.aiN T.aid T.alb (vZ T) T.uM (aa (va 1) ah))) ax)))) (ao (aw (va 0))))
theorem nB:Cal P w K mg base CX0 2 "stand_behind" ["stand","step"] [] (spW K 2 cB):=T.oX.dN T.mgA dE eN λhB hr hx hp=>ak (aM (we2 hB hr.units (wx hB (va 1) ai) ar) (ao (aw (aF (aa (wx hB (va 0) ai) (aa (wx hB (va 0) ai) (aa (cl hB hr (gM T) (aa (wx hB (va 0) ai) (aa (wx hB (va 1) ai) ah))) ah)))))) ax) (ak (wS 2 eN.nd (gx hB T.nO T.mM (mz T) (wx hB (va 1) ai))) (ak (wS 3 eN.nd (cl hB hr (hZ T) (aa (va 0) (aa (aB bw w_mul (wx hB (va 2) ai) (wx hB (va 1) ai)) (aa (aB bw w_mul (wx hB (va 2) ai) (wx hB (va 1) ai)) ah))))) (ao (aw (aF (aa (wx hB (va 3) ai) (aa (wx hB (va 3) ai) (aa (wx hB (va 0) ai) ah))))))))
theorem acu:Cal P w K mg base CX0 41 "way_of" ["stand","steps"] [] (spW K 2 gy):=T.afU.dN T.mgA qj mT λhB hr hx hp=>(ak (fq (i:=2) mT.nd rfl (Or.inl rfl) (mw (aa (va 0) ah))) (ak (fG hp (cm hr) (fH hB.symm (va 1)) (gN 3 mT.nd) (show PSs _ _ (loS _ K45.fS)from(ao (aM (wn2 hB hr.units (wx hB (va 3) ai) ar) (ao (mr hB.symm (cU (i4 arS ar0 ar1 cX (pv 2) (aN (akk (i:=2) (cl hB hr (nB T) (aa (wx hB (va 2) (jv bW jw ai)) (aa (va 3) ah)))) cz))))) ax)))) (ao (iI (i:=2) (aw (va 2))))))
theorem aiv:Cal P w K mg base (CXX P w) 47 "ways" ["floor","call","some"] [.none] (spX K 3 uI):=T.amT.cal (ps:=["floor","call","some"]) (ds:=[.none]) T.mgA (λ_ _ _ _ _ _ _ b c=>ud3 (λ_ _ _=>⟨_,rfl,rfl⟩) b (by simpa using c)) (λ_ _ _ _ _ _ _ b c=>ud2 (λ_ _=>⟨_,rfl,rfl⟩) b (by simpa using c)) λ_ _ _ d=>yQ xC d abI rfl rfl rfl (by decide) λe A a s H E B hB hr hx hp=>(ak (wS 3 abI.nd (aez rfl rfl hB.symm hx (ts:=["dancer"]) ⟨rfl,rfl,rfl,rfl,rfl⟩ (cm hr) rfl (bj (by decide)) (iR (by rfl) T.eP (wki hB T.h8)) (λ_ _ _ _ _ B hB hx=>gN 0) (λ_ _ _ _ _ B hB hx=>fJ) λ_ _ _ _ _ B hB hx=>clX hB hr hx (vR T) (aa (va 1) (aa (va 0) (aa (va 2) (aa (va 3) ah)))))) (ao (aw (clX hB hr hx (zI T) (aa (eK (ts:=["dancer"]) ⟨rfl,rfl,rfl,rfl,rfl⟩ (cm hr) rfl (bj (by decide)) (iR (by rfl) T.eP (wki hB T.h8)) (λ_ _ _ _=>gN 0) (λ_ _ _ _=>fJ) λ_ _ _ _=>cl hB hr (acu T) (aa (wx hB (va 1) (va 0)) (aa (wx hB (va 4) (va 0)) ah))) ah)))))
theorem tU:Cal P w K mg base (CXX P w) 48 "danced" ["floor","call","some"] [.none] (spX K 3 cx):=T.afV.cal (ps:=["floor","call","some"]) (ds:=[.none]) T.mgA (λ_ _ _ _ _ _ _ b c=>ud3 (λ_ _ _=>⟨_,rfl,rfl⟩) b (by simpa using c)) (λ_ _ _ _ _ _ _ b c=>ud2 (λ_ _=>⟨_,rfl,rfl⟩) b (by simpa using c)) λ_ _ _ d=>yQ l8 d abJ rfl rfl rfl (by decide) λe A a s H E B hB hr hx hp=>(ao (aw (clX hB hr hx (v5 T) (aa (eK (ts:=["way"]) ⟨rfl,rfl,rfl,rfl,rfl⟩ (cm hr) rfl (bj (by decide)) (fH hB.symm (clX hB hr hx (aiv T) (aa (va 0) (aa (va 1) (aa (va 2) ah))))) (λ_ _ _ _=>gN 0) (λ_ _ _ _=>fJ) λ_ _ _ _=>wx hB (va 0) (jv bW jw ai)) ah))))
theorem nE:Cal P w K mg base CX0 1 "_law_kind" ["_law_e"] [] (spW K 1 cN):=T.aal.dN T.mgA pj i1 λhB hr hx hp=>ak (wS 1 i1.nd (fb (aa (wB gF (vq hB.symm T.xs) T.aJ ar3 (aa (va 0) (aa (wcl hB T.wj T.ij) ah))) (aa (wB gF (vq hB.symm T.xs) T.aJ ar3 (aa (va 0) (aa (wcl hB T.aiN T.uM) ah))) (aa (wB gF (vq hB.symm T.xs) T.aJ ar3 (aa (va 0) (aa (wcl hB T.acP T.lH) ah))) (aa (wB gF (vq hB.symm T.xs) T.aJ ar3 (aa (va 0) (aa (wcl hB T.ug T.jW) ah))) ah)))))) (ak (aM (wn2 hB hr.units (aev hB.symm hr.units (va 1) (aa vp ah)) ai) mq ax) (ak (wS 2 i1.nd (aeu hB.symm hr.units (va 1) (aa vp ah))) (ak (aM (we2 hB hr.units (va 2) ai) (ao (aw (aF (aa ar (aa (rZ hB.symm T.xs T.amI (va 0) rfl) (aa (rZ hB.symm T.xs T.afL (va 0) rfl) ah)))))) ax) (ak (aM (we2 hB hr.units (va 2) ai) mq ax) (ao (aw (aF (aa (wx hB (fb (aa ar (aa ar ah))) (va 2)) (aa (rZ hB.symm T.xs T.amH (va 0) rfl) ah)))))))))
theorem qN:Cal P w K mg base CX0 49 "_law_danced" ["_law_floor_here","_law_rules"] [] (spW K 2 cO):=T.uS.dN T.mgA ff cq λhB hr hx hp=>(ak (wS 2 cq.nd dj) (ak (wS 3 cq.nd dj) (ak (xj (tb:=K45.dD) (th:=K45.ft) (i:=4) hB.symm rfl rfl cq.nd rfl rfl (by rfl) T.cL (λnm a h=>T.xs.ex nm a _ _ h T.lI) (λ_ _ B hB hx hp=>(ao (wS 3 cq.nd (clD (dws:=[.non]) (dvs:=[.non]) hB hr hx (tU T) (.cons rfl .nil) λ_=>by simp[RWs,RW] (aa (va 0) (aa (va 1) ah)) λc ws z=>by rw[(de (de iu)) c ws z];rfl)))) λb B hB hx=>have hr:=hr.sui (v:=some (.ref b)) (by decide);ao (wS 2 cq.nd (va 4))) (ak (aM (bE oj w_is (va 2) dj (aS _)) (ao (aw (aF (aa (va 3) (aa dj ah))))) ax) (ao (aw (aF (aa dj (aa (cl hB hr (nE T) (aa (va 2) ah)) ah)))))))))
theorem qQ:xf P w K mg base 41 aX fm_Book_call "call" ["self","name"] (spO K 2 br):=qW ⟨T.y1_Book_call,T.y2_Book_call,T.y3_Book_call⟩ T.uG (λ_ _ _ _ _ _ b e=>aaA (λ_ _=>rfl) b e) λf d=>adG mO nR d sL rfl rfl rfl (by decide) λc A a s H E B hB hr hx hp=>aer (aM (PW.pt (vk (iH (fF (wB cJ (gc hB.symm) T.aJ ar3 (aa (va 1) (aa (wty T.acI boot_str) ah))))) (mm (bE w5 (aeD hB.symm hr.units) (va 1) (flI hB T.oq (gC T) T.qV (va 0)) (by rfl))))) (ao eJ) ax) (aht hB.symm (by rfl) T.ue auK (wxD hB (flI hB T.oq (gC T) T.qV (va 0)) (va 1)))
theorem lD:xf P w K mg base 41 aX fm_Book_call "call" ["self","name"] (spX K 2 br):=xf.x (qQ T)
theorem zH:Cal P w K mg base CX0 50 "_law_due" ["_law_book","_law_floor_here","_law_items"] [] (spW K 3 ie):=T.adP.dN T.mgA jy dr λhB hr hx hp=>(ak (fq (i:=3) dr.nd rfl (Or.inl rfl) (mw ah)) (ak (fG hp (cm hr) (fH hB.symm (va 2)) (rY hB.symm (cm hr) (dC (gN 4 dr.nd) (dC (gN 5 dr.nd) mx)) rfl (fB (fB uC)) kD) (show PSs _ _ (loS _ K45.cF)from(ak (akc (cl hB hr (qN T) (aa (va 1) (aa (meI hB hr hx T.oq (gC T) (lD T) (va 0) (aa (va 5) ah) λa ws z=>by rw[(de iu) a ws z]) ah))) (rY hB.symm (cm hr) (dC (gN 6 dr.nd) (dC (gN 7 dr.nd) mx)) rfl (fB (fB uC)) kD) (amC kD)) (ak (aM (bE kO vr (va 7) dj (aS _)) (ao (iI (i:=3) (aw (aF (aa ar (aa (wB bx (gW hB.symm) T.gS arT (aa (va 3) ah)) (aa (va 7) ah))))))) ax) (ak (wS 1 dr.nd (va 6)) (ao (mr hB.symm (cU (i4 arS ar0 ar1 cX (pv 3) (aN (va 1) cz)))))))))) (ao (iI (i:=3) (aw (aF (aa ar (aa (va 3) ah))))))))
theorem alF:am6 P w K mg base 41 nZ ["self","book","floor"] (anf K):=yC T.amE (λ_ _ _ _ _ _ c e=>u6 (λ_ _ _=>rfl) c e) λg b=>afA b akP rfl λd A a s H E X f=>by subst f;exact⟨ab4 (pv 0) (pv 1) rfl,ab4 (pv 0) (aci (aN (pv 2) cz)) rfl⟩
theorem nI:Cal P w K mg base (CXX P w) 49 "floor_behind" ["floor","call","some","paired"] [] (spX K 4 cC):=T.oY.dX T.mgA fu mW λhB hr hx hp=>ak (aM (iH (fF (va 3))) (ao (aw (clX hB hr hx (tU T) (aa (va 0) (aa (va 1) (aa (va 2) ah)))))) ax) mq
theorem tX:xf P w K mg base 50 bR fm_Run_dance "dance" ["self","name","some","paired"] (spM rnM K 4 gA):=qW ⟨T.y1_Run_dance,T.y2_Run_dance,T.y3_Run_dance⟩ T.uF (λ_ _ _ _ _ _ b e=>af5 (λ_ _ _ _=>rfl) b e) λg d=>adH mL d fh rfl rfl rfl (by decide) λc A a s H E B hB hr hx hp=>(aaU (aj6 (M:=rnM) (j:=0) (i:=4) fh.nd (aB fo w_sub (wB bx (gW hB.symm) T.gS arT (aa (qd (n:=1) hB.symm T.uZ (il T) T.cW (by decide) rfl (va 0)) ah)) ai)) (aaU (ahg hB hx λB hB hx=>aM (we2 hB hr.units (va 4) (wki hB T.qY)) (ao eJ) ax) (aaU (ahf (j:=0) (i:=5) hB hx fh.nd λB hB hx=>(meI hB hr hx T.oq (gC T) (lD T) (qd (n:=0) hB.symm T.uZ (il T) T.nM (by decide) rfl (va 0)) (aa (va 1) ah) λf ws z=>by rw[(de iu) f ws z])) (xi (xtb (ci:=4) (i:=6) hB hr hx fh.nd T.wj T.aiN T.acP T.ug (wA T.ij ⟨apz T.xs T.ij T.ij T.uM T.lH T.jW rfl,T.aeO,_,T.vM⟩ (wA T.uM ⟨apz T.xs T.uM T.ij T.uM T.lH T.jW rfl,T.akM,_,T.aid⟩ (wA T.lH ⟨apz T.xs T.lH T.ij T.uM T.lH T.jW rfl,T.ah2,_,T.ab0⟩ amA))) T.uZ (il T) T.cW T.yq T.xW T.abZ T.rF (oM T) λ_ _ B hB hx=>(cU (i4 arS ar0 ar1 cX (x8 (pv 0) rfl) (aN (clX hB hr hx (nI T) (aa (wx hB (qd (n:=1) hB.symm T.uZ (il T) T.cW (by decide) rfl (va 0)) (jv bW jw ai)) (aa (va 5) (aa (va 2) (aa (va 3) ah))))) cz))))))))
theorem tW:xf P w K mg base 51 bR fm_Run_go_on "go_on" ["self","items","some","paired"] (spM rnM K 4 eY):=qW ⟨T.y1_Run_go_on,T.y2_Run_go_on,T.y3_Run_go_on⟩ T.uE (λ_ _ _ _ _ _ b e=>af5 (λ_ _ _ _=>rfl) b e) λg d=>adH mK d ll rfl rfl rfl (by decide) λc A a s H E B hB hr hx hp=>(xi (ahh hB hp (cm hr) (λB hB=>fH hB.symm (va 1)) (vP ll.nd rfl (Or.inl rfl)) (show PSs _ _ (loX _ _ K45.bu)from(xi (anU (M:=rnM) (j:=0) (we2 hB hr.units (wx hB (va 4) ai) ar) (xi (xmR hB hr hx T.uZ (il T) (tX T) (pv 0) (ajE hB (λB hB=>wx hB (va 4) ai) (ajE hB (λB hB=>va 2) (ajE hB (λB hB=>va 3) agg))) λf s ws z=>by rw[(ajX (ajX (ajX ag2))) f s ws z])) (aeo hB hx λB hB hx=>mq))))))
theorem alD:Cal P w K mg base (CXX P w) 52 "run" ["book","floor","items"] [] (spO K 3 adt):=T.apL.dQ T.mgA ahP agt λhB hr hx=>(aqF (j:=3) hB hr hx agt.nd rfl (Or.inl rfl) (alW T) T.uZ ⟨il T,T.nM,T.cW⟩ (alF T) T.aph (aa (va 0) (aa (va 1) ah)) λB hB hx=>(ahc (xmR hB hr hx T.uZ (il T) (tW T) (pv 3) (ajE hB (λB hB=>va 2) (ajE hB (λB hB=>aa5 hB.symm (cm hr) (by rfl) T.ue (by rfl) T.eP (wki hB T.h8)) (ajE hB (λB hB=>vp) agg))) λa s ws z=>by rw[(ajX (ajX (ajX ag2))) a s ws z]) (ahd (j:=3) (tD (anW hB.symm (qd (n:=1) hB.symm T.uZ (il T) T.cW (by decide) rfl (va 3)) (mv ai) vm))) acC))
theorem lE:Cal P w K mg base CX0 53 "_law_told" ["_law_book","_law_floor_here","_law_items"] [] (spT K 3 4 "floors" cw):=T.aag.dT T.mgA fK dq λhB hr=>(vl (wS 3 dq.nd dj) (vl (wS 4 dq.nd dj) (vl (xj (tb:=K45.fc) (th:=K45.gX) (i:=5) hB.symm rfl rfl dq.nd rfl rfl (by rfl) T.cL (λnm a h=>T.xs.ex nm a _ _ h T.lI) (λ_ _ B hB hx hp=>(ao (fq (i:=4) dq.nd rfl (Or.inl rfl) (clO hB hr hx (alD T) (aa (va 0) (aa (va 1) (aa (va 2) ah))))))) λb B hB hx=>have hr:=hr.sui (v:=some (.ref b)) (by decide);ao (wS 3 dq.nd (va 5))) (aka (bE oj w_is (va 3) dj (aS _)) (tD (agC (aN iM (aN (pv 4) cz)))) (ahj (ak (aM (PW.pt (o9 (fF (wB gF (vq hB.symm T.xs) T.aJ ar3 (aa (va 3) (aa (wcl hB T.yq T.rF) ah)))) (o9 (fF (wB gF (vq hB.symm T.xs) T.aJ ar3 (aa (va 3) (aa (wty T.uf ou) ah)))) (mn (iH (fF (wB gF (vq hB.symm T.xs) T.aJ ar3 (aa (va 3) (aa (wcl hB T.acN T.adA) ah))))))))) (ao (aw (aF (aa ar (aa (rZ hB.symm T.xs T.apx (va 3) rfl) (aa (cl hB hr (nE T) (aa (rZ hB.symm T.xs T.amG (va 3) rfl) ah)) ah)))))) ax) mq))))))
theorem vV:Cal P w K mg base CX0 53 "_law_told" ["_law_book","_law_floor_here","_law_items"] [] (spW K 3 dw):=Cal.ofT (lE T)
theorem oO:xf P w K mg base 41 aX fm_Book_names "names" ["self"] (spO K 1 dR):=qW ⟨T.y1_Book_names,T.y2_Book_names,T.y3_Book_names⟩ T.rl (λ_ _ _ _ _ _ b e=>bind1 (λ_=>rfl) b e) λf d=>adG kY lG d qy rfl rfl rfl (by decide) λc A a s H E B hB hr hx hp=>aaX (aew (cm hr) T.yo boot_sorted (flI hB T.oq (gC T) T.qV (va 0)))
theorem qP:xf P w K mg base 41 aX fm_Book_names "names" ["self"] (spX K 1 dR):=xf.x (oO T)
theorem alE{f:Addr}{b:FuncData}(c:Fun K "law" "law" ah7 f b):FnOk P w K mg base CX0 54 f b ["_law_script"] (spW K 1 afM):=rH aeI c lj rfl rfl rfl (by decide) λd A a s H E B hB hr hx hp=>(ak (wS 1 lj.nd (mkI hB hr hx (aiL T) (gC T) T.qV T.oq (aiz T) T.al0 (aa (cl hB hr (lC T) (aa (va 0) ah)) ah))) (ak (wS 2 lj.nd (cl hB hr (tQ T) (aa (va 0) ah))) (ak (wS 3 lj.nd (cl0 hB hr (tR T))) (ak (ahk (i:=4) lj.nd rfl rfl (by rfl) (ts:=["_law_cell"]) ⟨rfl,rfl,rfl,rfl,rfl⟩ (cm hr) rfl (bj (by decide)) (fH hB.symm (ahz (anZ hB.symm) (va 0) (mv ai) (mv ai))) (λ_ _ _ _=>gN 0) (λ_ _ _ _=>fJ) λ_ _ _ _=>aF (aa ar (aa (wx hB (va 4) (aB aE w_mod (cl hB hr (cu T) (aa (va 0) (aa ai ah))) ai)) ah))) (ak (wS 5 lj.nd (wT uU (agl hB.symm) T.ue auK (aa (va 4) ah))) (ak (wS 6 lj.nd (cl hB hr (zH T) (aa (va 1) (aa (va 2) (aa (va 4) ah))))) (aet (i:=7) hB hr (lE T) lj.nd rfl (Or.inl rfl) (aa (va 1) (aa (va 2) (aa (va 5) ah))) (xk (PW.pt (vk (wn2 hB hr.units (va 7) (va 6)) (mm (wn2 hB hr.units (va 5) (va 4))))) (ao (aw vp)) (ahs (anV (we2 hB hr.units (wx hB (va 7) ai) ar) (xk (iH (fF (wB cJ (gc hB.symm) T.aJ ar3 (aa (wx hB (va 7) ai) (aa (wty T.ue auK) ah))))) (ao (aw vp)) (aa2 hB T.nl (cU (i4 arS ar0 ar1 cX (ail agR (pv 7) acj λ_ _=>rfl) (aN agD cz))) ax)) (ahr ax)) (ao (aw (kX (cR calm_eq (w_eq hB.symm hr.units) (cl hB hr (vV T) (aa (va 1) (aa (va 2) (aa (va 5) ah)))) (va 6) (aS _)) (my (cR calm_eq (w_eq hB.symm hr.units) (aqQ hB hr hx T.oq (gC T) (qP T) (va 1)) (wB aav (ahF (cm hr) hB.symm) T.yo boot_sorted (aa (wT aaw (ahG (cm hr) hB.symm) T.ue auK (aa (cl hB hr (lC T) (aa (va 0) ah)) ah)) ah)) (aS _)))))))))))))))
theorem all_mk(a:∀e:List Int,e.length<=63->afM [.lst (e.map .int)]=.ok (.bl true)){l:W.OpenLaw}{d:Addr}(b:mg "law"=some (.ref d)):∃c:FuncData,(∀(s:Shared)(v:Value),BindsTo s c ⟨[v],[]⟩ [("_law_script",v)])/\∀base:Heap,K.In base->base.Ns mainGlobals mg->FnOk l.prog w K mg base CX0 54 d c ["_law_script"] (WS.abz K):=amd T.apN T.mgA b (λ_ _ _ _ _ _ _=>rfl) (λ_ _ _ f=>alE T f) a
omit T
def walk{l:W.OpenLaw}{r:Program}{b:List Str}{o:(Str->Option Value)->Heap->Prop}{i:World->Heap->Prop}{d:DefRec}{K:Params->W.Frag}(j:l.most=some 63)(c:d.params.defaults=[])(p:∀(w:World)(h:Heap),i w h->(K w.params).In h)(F:∀(w:World)(mg:Str->Option Value)(g:Addr)(h:Heap),(K w.params).In h->h.Ns mainGlobals mg->mg d.name=some (.ref g)->∃e:FuncData,(∀(s:Shared)(u:Value),BindsTo s e ⟨[u],[]⟩ [("_law_script",u)])/\∀base:Heap,(K w.params).In base->base.Ns mainGlobals mg->FnOk l.prog w (K w.params) mg base CX0 54 g e ["_law_script"] (WS.abz (K w.params))):W.WalkO r b o i l.row.toRowW d [] λf m=>PySem.call f m:=L2.ahD (n:=63) (k:=54) (x:="_law_script") (CX:=λ_=>CX0) (sp:=λw=>WS.abz (K w.params)) j (by decide) c ⟨λ_=>rfl,by decide,by decide,rfl⟩ p F (λ_ _ a v t _ q=>⟨a,v,rfl,q,t,λ_=>rfl⟩) λ_ _ _ _ _ z=>z
end K45
open PySem PySem.W PyProof.Rows
set_option maxRecDepth 100000 in
set_option maxHeartbeats 0 in
theorem PySem.Challenge.cw_squarecall_k45_calls_in_turn_holds : PySem.Challenge.rw_squarecall_k45_calls_in_turn.Holds := by
 w_on;o_law;k_head;(case hw=>w_witness2)
 k_fill
 refine K45.walk (l:=PySem.Challenge.rw_squarecall_k45_calls_in_turn) rfl rfl (λw h Y=>W.kIn_of Y) ?F
 case F =>
 intro w mg fa h KX G hmg
 refine' K45.all_mk ?T K45.afr hmg
 case T =>
  constructor<;>first|(exact WS.apU (by k_is) (by k_is) (by k_is) (by k_is))|(exact WS.am2 (by k_is) (by k_is) (by k_is) (by k_is) (by k_is))|(exact WS.akH (by k_is) (by repeat first|exact .nil|exact .cons rfl .nil|exact .cons ⟨_,rfl⟩ .nil|refine .cons rfl ?_|refine .cons ⟨_,rfl⟩ ?_) (by decide))|(exact WS.adx (tab:=[("FloorError",_),("NoCall",_),("NoName",_),("TooMany",_),("NoPairs",_),("Blind",_),("Out",_),("Meet",_),("Broken",_)]) (.head _) (by(refine WS.all_cons (WS.afN (by first|k_is|exact rfl) (by first|k_is|exact rfl) (by first|k_is|exact rfl) (by first|k_is|exact rfl) (by first|k_is|exact rfl) (by first|k_is|exact rfl)) ?_);(iterate 8 (refine WS.all_cons (WS.ai8 (by first|k_is|exact rfl) (by first|k_is|exact rfl) (by first|k_is|exact rfl) (by first|k_is|exact rfl) (by first|k_is|exact rfl) (by first|k_is|exact rfl)) ?_));exact WS.all_nil) ((WS.all_cons (.inl (by simp)) (WS.all_cons (.inr (by k_is)) (WS.all_cons (.inl (by simp)) (WS.all_cons (.inl (by simp)) (WS.all_cons (.inr (by k_is)) (WS.all_cons (.inl (by simp)) (WS.all_cons (.inl (by simp)) (WS.all_cons (.inr (by k_is)) (WS.all_cons (.inl (by simp)) (WS.all_cons (.inl (by simp)) (WS.all_cons (.inl (by simp)) (WS.all_cons (.inl (by simp)) WS.all_nil))))))))))))) (show (["FloorError","NoCall","NoName","TooMany","NoPairs","Blind","Out","Meet","Broken"]:List String).Nodup from by decide) (by decide) (by first|k_is|exact rfl) (by first|k_is|exact rfl))|(exact WS.apy (WS.eS (by decide)) (WS.gw (by k_is)) (WS.eS (by decide)) (WS.eS (by decide)) (WS.gw (by k_is)) (WS.eS (by decide)) (WS.eS (by decide)) (WS.gw (by k_is)) (WS.eS (by decide)) (WS.eS (by decide)) (WS.eS (by decide)) (WS.yI (by first|k_is|exact rfl) (by first|k_is|exact rfl) (by first|k_is|exact rfl)))|(exact WS.apy (WS.eS (by decide)) (WS.gw (by k_is)) (WS.eS (by decide)) (WS.eS (by decide)) (WS.gw (by k_is)) (WS.eS (by decide)) (WS.eS (by decide)) (WS.gw (by k_is)) (WS.eS (by decide)) (WS.eS (by decide)) (WS.yI (by first|k_is|exact rfl) (by first|k_is|exact rfl) (by first|k_is|exact rfl)) (WS.eS (by decide)))|(exact WS.apy (WS.eS (by decide)) (WS.gw (by k_is)) (WS.eS (by decide)) (WS.eS (by decide)) (WS.gw (by k_is)) (WS.eS (by decide)) (WS.eS (by decide)) (WS.gw (by k_is)) (WS.yI (by first|k_is|exact rfl) (by first|k_is|exact rfl) (by first|k_is|exact rfl)) (WS.yI (by first|k_is|exact rfl) (by first|k_is|exact rfl) (by first|k_is|exact rfl)) (WS.eS (by decide)) (WS.eS (by decide)))|(exact WS.amw (by k_is) (by k_is) (by k_is))|(exact WS.alX (by k_is) (by k_is) (by k_is))|(exact λ_ _=>W.mg_of KX G)|(refine W.mg_of KX G ?_;k_is)|(refine W.mg_none_of KX G ?_;k_is)|(exact⟨_,_,by k_is,by exact .cons ⟨⟨_,rfl⟩,rfl,⟨_,rfl⟩⟩ (.cons ⟨⟨_,rfl⟩,rfl,⟨_,rfl⟩⟩ (.cons ⟨⟨_,rfl⟩,rfl,⟨_,rfl⟩⟩ (.cons ⟨⟨_,rfl⟩,rfl,⟨_,rfl⟩⟩ (.nil))))⟩)|(exact⟨_,_,by k_is,by exact .cons ⟨⟨_,rfl⟩,rfl,rfl⟩ (.cons ⟨⟨_,rfl⟩,rfl,rfl⟩ (.cons ⟨⟨_,rfl⟩,rfl,rfl⟩ (.cons ⟨⟨_,rfl⟩,rfl,rfl⟩ (.nil))))⟩)|(refine⟨by decide,?_⟩;k_is)|(exact L2.oD.mk (by k_is) (by kernel_rfl))|(exact L2.StrK.mk (by first|k_is|exact rfl) (by first|k_is|exact rfl) (by first|k_is|exact rfl) (by first|k_is|exact rfl))|(show W.findIn _ _ _=_;first|k_is|exact rfl)|(first|kernel_rfl|exact rfl)|(k_is)|(exact rfl)

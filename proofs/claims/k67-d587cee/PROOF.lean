import PyProof.Rows.All
import Wide.All
import OpenK.AllK
import Wide.FinOn
import Lean
import PyProof.EqAt
import PyProof.EqKinds
import PyProof.TupleCall
import KE.KRevIter
import KE.KTryMore
import KE.KDictList
import KE.KEqDict
import KE.KDictSum
import KE.KIntText
import PySem.Challenge.RW_squarecall_k67_whole_way_home
set_option linter.all false
open PySem renaming wpAny_bind->arJ,wpAny_pure->arR,boot_len->asb,wpAny_mono->asi,wpAny_field->asw,mem_of_lookup->asB,wpAny_truthy_bool->asI,wpAny_call_entry->asR,wpAny_specialOf->as4,wpAny_holding->as9,wpAny_callSpecial?_slot->atd,wpAny_seqItems->atg,wpAny_Call_Name_kw->atl,wpAny_passesOwn->atm,plainObj_wpAny_Assign_Attribute->atz,wpAny_execs_nil->atD,wpAny_setField_rec->atG,wpAny_newObj_type->atM,wpAny_callSpecialIfBoundUnlessNone?_slot->atW,wpAny_forIn_list->atX,wpAny_isInstance->atY,sizeLine_eq->at0,codeAny_mono->at9,wpAny_comprehension_free->auc,typeIs_str->auj,call_meets->auk,wpAny_setField->aul,wpAny_pyIter_enum->aup,wpAny_letGo->auu,wpAny_standAt->auz,plainId_quiet->auA,isSubtype_tuple_tuple->auH,wpAny_call->auM,wpAny_updateSeq->auQ,wpAny_tryCatch->auX,wpAny_tupleItemsOf->au1,wpAny_letOwnedTupleGo_enum->au8,wpAny_pyIter_list->ave,wpAny_loadPart_at->avf,wpAny_rule->avj,wpAny_lookBehind->avo,pastItsLine_dict->avp,concat_meets->avs,noFill_tuple_add->avt,codeAny_builtin->avC,typeIs_none->avH,wpAny_loadPart->avI,refuseLoop_ref->avJ
open PySem.Heap renaming get?_push_of_some->arK,lt_size->arV,get?_push_size->arW,get?_update_other->ar9,get?_none_of_le->asD,get?_update_self->asN,size_push->aui
open List renaming getElem?_eq_some_iff->arL,getElem?_set_ne->arN,getElem?_eq_getElem->arQ,getElem?_set_self->arT,getElem?_append_left->arX,map_cons->arZ,length_cons->ar1,getElem?_map->ar3,mem_cons->ar4,getD_eq_getElem?_getD->ar5,length_map->ar7,getElem?_append_right->ar8,mem_append_right->asa,mem_map->ase,mem_cons_self->ash,append_nil->asl,length_append->asm,mem_singleton->asn,mem_cons_of_mem->asp,mem_append->ass,drop_eq_getElem_cons->asu,mem_of_getElem?->asv,all_eq_true->asx,mem_append_left->asz,cons_append->asA,size_toArray->asC,length_take->asG,append_assoc->asJ,mem_range->asK,map_map->asM,set_cons_zero->asP,getElem_mem->asS,filterMap_cons->asU,getElem?_eq_none_iff->asV,flatMap_cons->asX,map_append->asZ,nil_append->as0,lookup_cons->as2,set_cons_succ->as3,nodup_cons->as5,getLast?_eq_some_getLast->ata,take_append_of_le_length->atb,getElem?_replicate->atc,prefix_refl->ati,find?_cons_of_neg->atk,length_replicate->atn,not_mem_nil->atv,map_nil->atw,drop_length->atx,length_eq_zero_iff->atB,mem_filterMap->atE,length_nil->atH,getLast?_map->atP,drop_zero->atU,extract_eq_drop_take'->atZ,getElem?_range->at1,mem_map_of_mem->at3,flatMap_append->at4,find?_cons->at5,getLastD_eq_getLast?->at7,zip_cons_cons->aud,reverse_cons->auo,ext_getElem?->auq,take_of_length_le->auv,length_singleton->auF,singleton_append->auJ,drop_eq_nil_iff->auT,map_congr_left->auW,prefix_append->au4,getElem?_take->au5,isEmpty_cons->avh,pairwise_iff_getElem->avm,getElem?_take_of_lt->avr,length_drop->avu,all_map->avx,mem_flatMap->avy,length_filterMap_le->avA,of_mem_zip->avB,drop_take->avK
open Nat renaming le_refl->arP,lt_of_lt_of_le->arS,le_trans->arU,ne_of_lt->ar0,zero_le->asr,ne_of_gt->asE,lt_irrefl->asT,le_add_right->ath,lt_succ_self->att,le_succ->atJ,lt_of_lt_of_eq->aub,lt_of_le_of_lt->aue,min_le_right->auB,le_of_not_lt->auC,le_of_lt->auK,le_of_eq->auL,lt_succ_of_lt->avd,le_succ_of_le->avg,not_lt->avk,zero_add->avv,sub_self->avz,not_lt_zero->avF,le_antisymm->avG
open Ne renaming symm->arY
open Bool renaming false_ne_true->ar2,and_eq_true->asj,eq_iff_iff->asq,and_eq_true_iff->asF,false_eq_true->asO,beq_eq_decide_eq->atV,or_eq_true->avE
open Option.some renaming inj->asd,injEq->avi
open Option renaming map_eq_some_iff->asf,isSome_iff_exists->atu,bind_some->auE
open PySem.F renaming plainAttrs_list->asQ,excBase_ValueError->as1,slot_list_append->as6,type_list_append->as7,plain_min_loop->atf,slot_NoneType_hash->atp,slot_tuple_iterator_next->atq,slot_str_split->atL,slot_enumerate_next->atR,args_tuple_add_2->aua,args_str_split_2->auh,entry_tuple_add->aum,entry_str_split->aun,slot_tuple_hash->aur,slot_tuple_add->aut,plainAttrs_str->auw,slot_tuple_eq->auR,slot_str_ascii_iterator_iter->auU,args_tuple_iterator_next_1->auY,entry_tuple_iterator_next->au0,slot_str_partition->au9,slot_dict_getitem->avl,entry_min_loop->avw
open PyProof.Rows renaming callWith_type1->asY,boot_isinstance->ato,slot_tuple_getitem->atA,callWith_builtin1->auN,boot_tuple->avn
open PySem.W renaming kia_one->as8,looks_clsIn->au7,callWith_K->avq,methodCall_KW->avD
open Array renaming getElem?_eq_some_iff->atr,length_toList->aty,getElem?_toList->atQ,getElem?_eq_getElem->at6,toList_inj->auD,toList_extract->auS,find?_toList->auZ,forIn_toList->au2
open PySem.Obj renaming data_mapFields->atF,isFreed_of_fields->auG
open Int renaming toNat_natCast->atN,sub_eq_add_neg->au3
open PySem.PassesOwn renaming leaving->atO
open PySem.Calls renaming spliced_cons->at8,evalArgs_plain->auO,Name_function_global->au6
open Nat.succ renaming inj->auf
open PySem.Str renaming ofString_eq_toList->auy
open Classical renaming choose_spec->auI
open PySem.Around renaming under_plainId->auP
open List.IsPrefix renaming eq_of_length->ava
open PySem.Within renaming cons->avb
open PySem.Heap.Ns1 renaming of_empty->avc
def arM:=@if_pos
def arO:=@if_neg
def ar6:=@decide_eq_false
def aso:=@decide_eq_true
def asy:=@decide_eq_true_eq
def asH:=@beq_eq_false_iff_ne
def asW:=@if_false
def ate:=@if_true
def atj:=@beq_iff_eq
def ats:=@congrArg
def aus:=@of_decide_eq_true
def auV:=@ne_true_of_eq_false
noncomputable section
set_option compiler.extract_closed false
set_option tactic.hygienic false
set_option autoImplicit true
set_option relaxedAutoImplicit true
def ag0{p q r:Prop}{C:Prop}(h:p/\q/\r)(K:p->q->r->C):C:=let⟨h0,h1,h2⟩:=h;K h0 h1 h2
def anF{p q r s:Prop}{C:Prop}(h:p/\q/\r/\s)(K:p->q->r->s->C):C:=let⟨h0,h1,h2,h3⟩:=h;K h0 h1 h2 h3
def anE{p q r s t:Prop}{C:Prop}(h:p/\q/\r/\s/\t)(K:p->q->r->s->t->C):C:=let⟨h0,h1,h2,h3,h4⟩:=h;K h0 h1 h2 h3 h4
def de{p q:α->Prop}{C:Prop}(h:∃a,p a/\q a)(K:∀a,p a->q a->C):C:=let⟨a,h0,h1⟩:=h;K a h0 h1
def ju{p q r:α->Prop}{C:Prop}(h:∃a,p a/\q a/\r a)(K:∀a,p a->q a->r a->C):C:=let⟨a,h0,h1,h2⟩:=h;K a h0 h1 h2
def dc{p q:α->β->Prop}{C:Prop}(h:∃a b,p a b/\q a b)(K:∀a b,p a b->q a b->C):C:=let⟨a,b,h0,h1⟩:=h;K a b h0 h1
def dP{p q:α->β->Prop}(a b)(h0:p a b)(h1:q a b):∃a b,p a b/\q a b:=⟨a,b,h0,h1⟩
def iH{p q r:α->β->Prop}{C:Prop}(h:∃a b,p a b/\q a b/\r a b)(K:∀a b,p a b->q a b->r a b->C):C:=let⟨a,b,h0,h1,h2⟩:=h;K a b h0 h1 h2
def fD{p q r:α->β->Prop}(a b)(h0:p a b)(h1:q a b)(h2:r a b):∃a b,p a b/\q a b/\r a b:=⟨a,b,h0,h1,h2⟩
def my{p q r s:α->β->Prop}{C:Prop}(h:∃a b,p a b/\q a b/\r a b/\s a b)(K:∀a b,p a b->q a b->r a b->s a b->C):C:=let⟨a,b,h0,h1,h2,h3⟩:=h;K a b h0 h1 h2 h3
def aeW{p q r s:α->β->Prop}(a b)(h0:p a b)(h1:q a b)(h2:r a b)(h3:s a b):∃a b,p a b/\q a b/\r a b/\s a b:=⟨a,b,h0,h1,h2,h3⟩
def ke{p q r s t:α->β->Prop}{C:Prop}(h:∃a b,p a b/\q a b/\r a b/\s a b/\t a b)(K:∀a b,p a b->q a b->r a b->s a b->t a b->C):C:=let⟨a,b,h0,h1,h2,h3,h4⟩:=h;K a b h0 h1 h2 h3 h4
def zm{p q r s t:α->β->Prop}(a b)(h0:p a b)(h1:q a b)(h2:r a b)(h3:s a b)(h4:t a b):∃a b,p a b/\q a b/\r a b/\s a b/\t a b:=⟨a,b,h0,h1,h2,h3,h4⟩
def agZ{p q r s t u:α->β->Prop}{C:Prop}(h:∃a b,p a b/\q a b/\r a b/\s a b/\t a b/\u a b)(K:∀a b,p a b->q a b->r a b->s a b->t a b->u a b->C):C:=let⟨a,b,h0,h1,h2,h3,h4,h5⟩:=h;K a b h0 h1 h2 h3 h4 h5
def ag2{p q r s t u:α->β->Prop}(a b)(h0:p a b)(h1:q a b)(h2:r a b)(h3:s a b)(h4:t a b)(h5:u a b):∃a b,p a b/\q a b/\r a b/\s a b/\t a b/\u a b:=⟨a,b,h0,h1,h2,h3,h4,h5⟩
def vh{p q:α->β->γ->Prop}{C:Prop}(h:∃a b c,p a b c/\q a b c)(K:∀a b c,p a b c->q a b c->C):C:=let⟨a,b,c,h0,h1⟩:=h;K a b c h0 h1
def aeL{p q:α->β->γ->Prop}(a b c)(h0:p a b c)(h1:q a b c):∃a b c,p a b c/\q a b c:=⟨a,b,c,h0,h1⟩
def zl{p q r:α->β->γ->Prop}{C:Prop}(h:∃a b c,p a b c/\q a b c/\r a b c)(K:∀a b c,p a b c->q a b c->r a b c->C):C:=let⟨a,b,c,h0,h1,h2⟩:=h;K a b c h0 h1 h2
def ag1{p q r:α->β->γ->Prop}(a b c)(h0:p a b c)(h1:q a b c)(h2:r a b c):∃a b c,p a b c/\q a b c/\r a b c:=⟨a,b,c,h0,h1,h2⟩
def qz{p q r s:α->β->γ->Prop}{C:Prop}(h:∃a b c,p a b c/\q a b c/\r a b c/\s a b c)(K:∀a b c,p a b c->q a b c->r a b c->s a b c->C):C:=let⟨a,b,c,h0,h1,h2,h3⟩:=h;K a b c h0 h1 h2 h3
def oU{p q r s:α->β->γ->Prop}(a b c)(h0:p a b c)(h1:q a b c)(h2:r a b c)(h3:s a b c):∃a b c,p a b c/\q a b c/\r a b c/\s a b c:=⟨a,b,c,h0,h1,h2,h3⟩
def akK{p q r s t:α->β->γ->Prop}{C:Prop}(h:∃a b c,p a b c/\q a b c/\r a b c/\s a b c/\t a b c)(K:∀a b c,p a b c->q a b c->r a b c->s a b c->t a b c->C):C:=let⟨a,b,c,h0,h1,h2,h3,h4⟩:=h;K a b c h0 h1 h2 h3 h4
def aki{p q r s t:α->β->γ->Prop}(a b c)(h0:p a b c)(h1:q a b c)(h2:r a b c)(h3:s a b c)(h4:t a b c):∃a b c,p a b c/\q a b c/\r a b c/\s a b c/\t a b c:=⟨a,b,c,h0,h1,h2,h3,h4⟩
def agY{p q:α->β->γ->δ->Prop}{C:Prop}(h:∃a b c d,p a b c d/\q a b c d)(K:∀a b c d,p a b c d->q a b c d->C):C:=let⟨a,b,c,d,h0,h1⟩:=h;K a b c d h0 h1
def anH{p q:α->β->γ->δ->Prop}(a b c d)(h0:p a b c d)(h1:q a b c d):∃a b c d,p a b c d/\q a b c d:=⟨a,b,c,d,h0,h1⟩
def anD{p q r s t u:α->β->γ->δ->Prop}{C:Prop}(h:∃a b c d,p a b c d/\q a b c d/\r a b c d/\s a b c d/\t a b c d/\u a b c d)(K:∀a b c d,p a b c d->q a b c d->r a b c d->s a b c d->t a b c d->u a b c d->C):C:=let⟨a,b,c,d,h0,h1,h2,h3,h4,h5⟩:=h;K a b c d h0 h1 h2 h3 h4 h5
def akO{p q r s t u:α->β->γ->δ->ε->Prop}(a b c d e)(h0:p a b c d e)(h1:q a b c d e)(h2:r a b c d e)(h3:s a b c d e)(h4:t a b c d e)(h5:u a b c d e):∃a b c d e,p a b c d e/\q a b c d e/\r a b c d e/\s a b c d e/\t a b c d e/\u a b c d e:=⟨a,b,c,d,e,h0,h1,h2,h3,h4,h5⟩
def akJ{p q:α->β->γ->δ->ε->ζ->η->Prop}{C:Prop}(h:∃a b c d e f g,p a b c d e f g/\q a b c d e f g)(K:∀a b c d e f g,p a b c d e f g->q a b c d e f g->C):C:=let⟨a,b,c,d,e,f,g,h0,h1⟩:=h;K a b c d e f g h0 h1
def ahW{p q r:α->β->γ->δ->ε->ζ->η->θ->ι->Prop}{C:Prop}(h:∃a b c d e f g i j,p a b c d e f g i j/\q a b c d e f g i j/\r a b c d e f g i j)(K:∀a b c d e f g i j,p a b c d e f g i j->q a b c d e f g i j->r a b c d e f g i j->C):C:=let⟨a,b,c,d,e,f,g,i,j,h0,h1,h2⟩:=h;K a b c d e f g i j h0 h1 h2
set_option Elab.async false
set_option linter.all false
set_option maxRecDepth 100000
namespace L2
open PySem PySem.Spec PyProof.Rows
abbrev Key:=Sum (Option Int) Str
noncomputable def mh:Int:=0xFCA86420
def adt{prog w A E s Q}(h:Q mh {s with toks:=s.toks+1}):wpAny (model prog w) A (pyHash .none) Q E s:=by unfold pyHash;refine arJ ?_;refine arR ?_;refine arJ (as4 (avH s) atp.lookup ?_);refine arJ (as4 (avH s) atp.lookup ?_);refine arJ (atW (avH s) atp (asR atp (avH s) PySem.F.entry_NoneType_hash (wpAny_ret_mkInt ?_) (PySem.F.args_NoneType_hash_1 _)));show wpAny _ _ (if(decide (-(2:Int)^63<=mh)&&decide (mh<2^63))=true then _ else _) Q E _;rw[arM (by decide)];exact arR h
noncomputable def aal:Key->Value->Bool|.inl (some k),v=>Value.isInt k v|.inl none,.none=>true|.inl none,_=>false|.inr x,v=>Value.isStrOf x v
def ars(w:World):Key->Int|.inl (some k)=>hashInt k|.inl none=>mh|.inr x=>hashStr w x
def bC:∀{k v},aal k v=true->(∃i t,k=Sum.inl (some i)/\v=Value.int i t)\/(∃x t,k=Sum.inr x/\v=Value.str x t)\/k=Sum.inl none/\v=.none
|.inl (some i),v,h=>by obtain⟨t,e⟩:=Value.isInt_shape  h;exact .inl ⟨i,t,rfl,e⟩|.inl none,v,h=>by cases v<;>first|exact .inr (.inr ⟨rfl,rfl⟩)|exact nomatch h
|.inr x,v,h=>by obtain⟨t,e⟩:=Value.isStrOf_shape  h;exact .inr (.inl ⟨x,t,rfl,e⟩)
def ade(i)(t):aal (.inl (some i)) (.int i t)=true:=by simp[aal,Value.isInt]
def adb(x)(t):aal (.inr x) (.str x t)=true:=by simp[aal,Value.isStrOf]
def amK(a b):decide ((Sum.inl (some a):Key)=Sum.inl (some b))=(a==b):=by grind
def amH(a b):decide ((Sum.inr a:Key)=Sum.inr b)=decide (a=b):=by simp
def key_is(a)(b):decide ((Sum.inl (some a):Key)=Sum.inr b)=false:=ar6 λq=>nomatch q
def amL(a):decide ((Sum.inl (some a):Key)=Sum.inl none)=false:=ar6 λq=>nomatch q
def amG(a)(b):decide ((Sum.inr a:Key)=Sum.inl (some b))=false:=ar6 λq=>nomatch q
def amF(a):decide ((Sum.inr a:Key)=Sum.inl none)=false:=ar6 λq=>nomatch q
def amJ(a):decide ((Sum.inl none:Key)=Sum.inl (some a))=false:=ar6 λq=>nomatch q
def amI(a):decide ((Sum.inl none:Key)=Sum.inr a)=false:=ar6 λq=>nomatch q
def cy(prog:Program)(w:World):PySem.KeyKind prog w Key where
 is:=aal;hash:=ars w;inj:=λv a b ha hb=>by rcases bC ha with⟨i,t,rfl,rfl⟩|⟨x,t,rfl,rfl⟩|⟨rfl,rfl⟩<;>rcases bC hb with⟨j,u,rfl,e⟩|⟨y,u,rfl,e⟩|⟨rfl,e⟩<;>(cases e;try rfl)
 byValue:=λk v h=>by rcases bC h with⟨i,t,rfl,rfl⟩|⟨x,t,rfl,rfl⟩|⟨rfl,rfl⟩<;>rfl
 pyHash:=λhv h=>by
  rcases bC hv with⟨i,t,rfl,rfl⟩|⟨x,t,rfl,rfl⟩|⟨rfl,rfl⟩;.exact wpAny_pyHash_int h
  .exact wpAny_pyHash_str h
  .exact adt h
 eqBool:=λhu hv h=>by
  rcases bC hu with⟨i,t,rfl,rfl⟩|⟨x,t,rfl,rfl⟩|⟨rfl,rfl⟩
  .rcases bC hv with⟨j,u,rfl,rfl⟩|⟨y,u,rfl,rfl⟩|⟨rfl,rfl⟩;.rw[amK]at h;exact wpAny_eqBool_int h
   .rw[key_is]at h;exact SeqAt.EqAt.int_str i t y u _ _ _ _ h
   .rw[amL]at h;exact SeqAt.EqAt.int_none i t _ _ _ _ h
  .rcases bC hv with⟨j,u,rfl,rfl⟩|⟨y,u,rfl,rfl⟩|⟨rfl,rfl⟩;.rw[amG]at h;exact SeqAt.EqAt.str_int x t j u _ _ _ _ h
   .rw[amH]at h;exact wpAny_eqBool_str h
   .rw[amF]at h;exact SeqAt.EqAt.str_none x t _ _ _ _ h
  .rcases bC hv with⟨j,u,rfl,rfl⟩|⟨y,u,rfl,rfl⟩|⟨rfl,rfl⟩;.rw[amJ]at h;exact SeqAt.EqAt.none_int j u _ _ _ _ h
   .rw[amI]at h;exact SeqAt.EqAt.none_str y u _ _ _ _ h
   .rw[aso rfl]at h;unfold eqBool;rw[arM (show(Value.none==Value.none)=true from rfl)];exact arJ (avj (arR h))
 «strs»:=λk x t v h=>by
  rcases bC h with⟨i,u,rfl,e⟩|⟨y,u,rfl,e⟩|⟨_,e⟩;.exact nomatch e
  .injection e with e1 _;subst e1;cases v<;>rfl
  .exact nomatch e
def wh(prog)(w)(i)(t):(cy prog w).is (.inl (some i)) (.int i t)=true:=ade i t
def we(prog)(w)(x)(t):(cy prog w).is (.inr x) (.str x t)=true:=adb x t
inductive V where|non|bl(b:Bool)|int(i:Int)|str(x:Str)|byt(b:Array UInt8)|flt(b:UInt64)|ref(a:Addr)|ty(n:String)deriving DecidableEq
def RelV:V->Value->Prop|.non,u=>u=Value.none|.bl b,u=>u=Value.bool b|.int i,u=>∃t,u=Value.int i t|.str x,u=>∃t,u=Value.str x t|.byt b,u=>∃t,u=Value.bytes b t|.flt b,u=>∃t,u=Value.float b t|.ref a,u=>u=Value.ref a|.ty n,u=>u=Value.type n
abbrev Vals:List V->List Value->Prop:=Paired RelV
theorem Vals.length{xs us}(r:Vals xs us):xs.length=us.length:=Paired.length r
theorem Vals.get:∀{xs:List V}{us:List Value}{i:Nat}{x:V},Vals xs us->xs[i]?=some x->∃u,us[i]?=some u/\RelV x u|_,_,_,_,.nil,e=>by simp at e|_,_,0,_,.cons r _,e=>by simp at e;subst e;exact⟨_,rfl,r⟩|_,_,i+1,x,.cons _ t,e=>by obtain⟨u,b,a⟩:=Vals.get (i:=i) (x:=x) t (by simpa using e);exact⟨u,by simpa using b,a⟩
theorem Vals.set{x:V}{u:Value}(r:RelV x u):∀{xs:List V}{us:List Value}(i:Nat),Vals xs us->Vals (xs.set i x) (us.set i u)|_,_,_,.nil=>.nil|_,_,0,.cons _ t=>.cons r t|_,_,i+1,.cons q t=>.cons q (Vals.set r i t)
theorem Vals.append:∀{xs ys us ws},Vals xs us->Vals ys ws->Vals (xs++ys) (us++ws)|_,_,_,_,.nil,s=>s|_,_,_,_,.cons r t,s=>.cons r (Vals.append t s)
theorem Vals.take:∀{xs us}n,Vals xs us->Vals (xs.take n) (us.take n)|_,_,0,_=>.nil|_,_,_+1,.nil=>.nil|_,_,n+1,.cons r t=>.cons r (Vals.take n t)
theorem Vals.drop:∀{xs us}n,Vals xs us->Vals (xs.drop n) (us.drop n)|_,_,0,r=>r|_,_,_+1,.nil=>.nil|_,_,n+1,.cons _ t=>Vals.drop n t
def xC:Option V->Option Value->Prop|some v,some u=>RelV v u|none,none=>True|_,_=>False
def KV{a}:List (a×V)->List (a×Value)->Prop:=Paired λ(p:a×V)(q:a×Value)=>p.1=q.1/\RelV p.2 q.2
noncomputable def kV:Key->V|.inl (some i)=>.int i|.inl none=>.non|.inr x=>.str x
inductive HO where/-- a list -/|lst(xs:List V)/-- a tuple (never changes) -/|tup(xs:List V)/-- a dict whose keys are ints and texts;one whose keys are tuples of ints and texts (the empty one is both) -/|dK(kvs:List (Key×V))|dT(kvs:List (List Key×V))/-- a set of ints: its members,its size -/|set(S:Int->Bool)(n:Nat)/-- an instance of the class at C,its dict at dx,its attributes -/|ins(C dx:Addr)(fs:List (Str×V))/-- the dict of the instance at x -/|own(x:Addr)/-- the dict of an exception -/|xd(fs:List (Str×V))/-- a bound method,f of x -/|met(f x:Addr)/-- a range object lo,lo+1,.. below hi -/|rng(lo hi:Int)/-- a thing that is known to the object (the script;a dict while a loop walks it): read,never written while it is so -/|frz(o:Obj)(u:HO)/-- a code object's table -/|tbl(ps:Array Value)/-- any other thing,by what is true of its one object (a def of one's own: SetO a S n:=HO.ext λh => ..) -/|ext(φ:Heap->Prop)
abbrev Hp:=Addr->Option HO
noncomputable def upd(H:Hp)(a:Addr)(o:HO):Hp:=λb=>if b=a then some o else H b
def ao{H a o}:upd H a o a=some o:=by unfold upd;rw[arM rfl]
def ag{H a b o}(h:b≠a):upd H a o b=H b:=by unfold upd;rw[arO h]
def vt{H a o u}:upd (upd H a o) a u=upd H a u:=by funext b;unfold upd;split<;>rfl
def apE{H:Hp}{a b o u}(h:H a=some o)(h':H b=some u)(d:o≠u):a≠b:=by grind
def aP{H:Hp}{a b o}(h:H a=some o)(h':H b=none):a≠b:=by grind
section
variable(P:Program)(w:World)
def cL(H:Hp)(h:Heap)(a:Addr):HO->Prop|.lst c=>c.length<=sizeLine/\∃(b:List Value)(n:Nat),Vals c b/\h.get? a=some {cls:=.type "list",data:=.seq b.toArray n}|.tup c=>c.length<=sizeLine/\∃b:List Value,Vals c b/\IsTup h a b.toArray|.dK kvs=>kvs.length<=sizeLine/\(a==sysModules)=false/\∃i,KV kvs i/\h.DictOf (cy P w) a i|.dT kvs=>kvs.length<=sizeLine/\(a==sysModules)=false/\∃c:List (List Key×Addr×Value),Paired (λ(p:List Key×V)(q:List Key×Addr×Value)=>p.1=q.1/\H q.2.1=some (.tup (p.1.map kV))/\RelV p.2 q.2.2) kvs c/\∃o j k,h.get? a=some o/\o.ExactDict/\o.data=.dict j k/\j.toList=c.map (entryOfKey (tupleKind (cy P w)))/\(c.map (·.1)).Nodup|.set S n=>h.SetOf (intKind P w) a S n|.ins C dx fs=>H dx=some (.own a)/\fs.length<=1000/\dx≠a/\h.get? a=some (W.instObj C dx)/\∃d,h.Ns1 dx d/\(∀f,xC (fs.lookup f) (d f))/\PySem.Within d (fs.map (·.1))|.own _=>∃o,h.get? a=some o|.xd fs=>∃d,h.Ns1 a d/\∀f,xC (fs.lookup f) (d f)|.rng lo hi=>∃t u v,h.get? a=some {cls:=.type "range",data:=.fields #[.int lo t,.int hi u,.int 1 v]}|.frz o u=>h.get? a=some o/\cL H h a u|.tbl ps=>h.get? a=some {cls:=.none,data:=.fields ps}|.met f x=>h.get? a=some (W.methodObj (.ref f) (.ref x))|.ext φ=>φ h/\(∃o,h.get? a=some o)/\∀g e:Heap,φ g->(∀o,g.get? a=some o->e.get? a=some o)->φ e
def HOk(H:Hp)(h:Heap):Prop:=∀a o,H a=some o->cL P w H h a o
end
section
variable{P:Program}{w:World}{H H':Hp}{h h':Heap}{a:Addr}{o:HO}
theorem cL.lt(x:cL P w H h a o):a<h.objs.size:=by cases o with|lst xs=>obtain⟨_,_,_,_,e⟩:=x;exact arV e|tup xs=>obtain⟨_,_,_,p⟩:=x;exact p.lt|dK kvs|dT kvs=>obtain⟨_,_,_,_,o,_,_,e,_⟩:=x;exact arV e|set S n=>obtain⟨o,_,_,_,e,_⟩:=x;exact arV e|ins C dx fs=>obtain⟨_,_,_,e,_⟩:=x;exact arV e|own y=>obtain⟨_,e⟩:=x;exact arV e|xd fs=>obtain⟨_,⟨_,_,_,e,_⟩,_⟩:=x;exact arV e|rng lo hi=>obtain⟨_,_,_,e⟩:=x;exact arV e|frz ob u=>obtain⟨e,_⟩:=x;exact arV e|tbl ps|met f y=>exact arV x|ext φ=>obtain⟨_,⟨_,e⟩,_⟩:=x;exact arV e
theorem Paired.an6{g e F G}:∀{c:List g}{d:List e},Paired F c d->(∀a b,F a b->G a b)->Paired G c d|_,_,.nil,_=>.nil|_,_,.cons r t,f=>.cons (f _ _ r) (Paired.an6 t f)
def cL.vy(x:cL P w H h a o)(k:∀b u,b=a\/H b=some (.own a)->h.get? b=some u->h'.get? b=some u)(E:∀b,H b=some (.own a)->H' b=some (.own a))(A:∀b l,H b=some (.tup l)->H' b=some (.tup l)):cL P w H' h' a o:=by induction o with|lst l=>obtain⟨z,j,n,r,e⟩:=x;exact⟨z,j,n,r,k _ _ (.inl rfl) e⟩|tup l=>obtain⟨z,j,r,ob,e,c⟩:=x;exact⟨z,j,r,ob,k _ _ (.inl rfl) e,c⟩|dK kvs=>obtain⟨z,y,B,r,ob,g,i,e,c⟩:=x;exact⟨z,y,B,r,ob,g,i,k _ _ (.inl rfl) e,c⟩|dT kvs=>obtain⟨z,y,l,r,ob,g,i,e,c⟩:=x;exact⟨z,y,l,Paired.an6 r λp q z=>⟨z.1,A _ _ z.2.1,z.2.2⟩,ob,g,i,k _ _ (.inl rfl) e,c⟩|set S n=>obtain⟨ob,g,i,t,e,c⟩:=x;exact⟨ob,g,i,t,k _ _ (.inl rfl) e,c⟩|ins C dx fs=>obtain⟨d,z,s,e,m,⟨od,g,i,D,c⟩,r⟩:=x;exact⟨E _ d,z,s,k _ _ (.inl rfl) e,m,⟨od,g,i,k _ _ (.inr d) D,c⟩,r⟩|own y=>obtain⟨ob,e⟩:=x;exact⟨ob,k _ _ (.inl rfl) e⟩|xd fs=>obtain⟨m,⟨od,g,i,e,c⟩,r⟩:=x;exact⟨m,⟨od,g,i,k _ _ (.inl rfl) e,c⟩,r⟩|rng lo hi=>obtain⟨t,u,v,e⟩:=x;exact⟨t,u,v,k _ _ (.inl rfl) e⟩|frz ob u ih=>obtain⟨e,q⟩:=x;exact⟨k _ _ (.inl rfl) e,ih q⟩|tbl ps=>have e:=x;exact k a _ (.inl rfl) e|met f y=>have e:=x;exact k a _ (.inl rfl) e|ext φ=>obtain⟨p,⟨o,e⟩,st⟩:=x;exact⟨st _ _ p λo q=>k _ _ (.inl rfl) q,⟨o,k _ _ (.inl rfl) e⟩,st⟩
theorem HOk.lt(x:HOk P w H h)(e:H a=some o):a<h.objs.size:=(x a o e).lt
def HOk.fresh(x:HOk P w H h)(e:h.objs.size<=a):H a=none:=by cases q:H a with|none=>rfl|some u=>exact absurd (arS (x.lt q) e) (asT _)
def HOk.kept(x:HOk P w H h)(k:∀b u,h.get? b=some u->h'.get? b=some u):HOk P w H h':=λa o e=>(x a o e).vy (λb u _ q=>k b u q) (λ_ q=>q) λ_ _ q=>q
def HOk.laid(x:HOk P w H h)(k:∀b u,h.get? b=some u->h'.get? b=some u)(g:h.objs.size<=a)(new:cL P w (upd H a o) h' a o):HOk P w (upd H a o) h':=λb u e=>by
 have f:=x.fresh g;by_cases d:b=a;.subst d;rw[ao]at e;cases e;exact new
 .rw[ag d]at e;exact(x b u e).vy (λc v _ q=>k c v q) (λc q=>by rw[ag (aP q f)];exact q) λc i q=>by rw[ag (aP q f)];exact q
end
def Rd(H:Hp)(a:Addr)(u:HO):Prop:=H a=some u\/∃o,H a=some (.frz o u)
def Rd.ok{P w H h a u}(r:Rd H a u)(x:HOk P w H h):cL P w H h a u:=by
 rcases r with r|⟨o,r⟩;.exact x a u r
 .obtain⟨_,q⟩:=x a _ r;exact q
def Mut:Option HO->Prop|some (.lst _)=>True|some (.dK _)=>True|some (.dT _)=>True|some (.set _ _)=>True|some (.ins _ _ _)=>True|some (.ext _)=>True|_=>False
section
variable{P:Program}{w:World}{H:Hp}{h h':Heap}{x e:Addr}{o':HO}
def HOk.write(ok:HOk P w H h)(f:Mut (H x))(n:e=x\/H e=some (.own x))(k:∀b u,b≠e->h.get? b=some u->h'.get? b=some u)(g:∃u,h'.get? e=some u)(new:cL P w (upd H x o') h' x o'):HOk P w (upd H x o') h':=λb u q=>by
 have a:∀c y,H c=some (.own y)->c≠x:=λc y r z=>by subst z;rw[r]at f;exact f
 by_cases i:b=x;.subst i;rw[ao]at q;cases q;exact new
 .rw[ag i]at q;by_cases j:b=e
  .have l:H b=some (.own x):=by grind
   rw[q]at l;cases l;obtain⟨v,o⟩:=g;exact⟨v,by grind⟩
  .refine(ok b u q).vy (λc v d r=>k c v ?_ r) (λc r=>by rw[ag (a c b r)];exact r) λc m r=>by rw[ag ((λc m r z=>by subst z;rw[r]at f;exact f) c m r)];exact r
   rcases d with rfl|d;.exact j
   .rintro rfl;rcases n with z|z;.exact a c b d z
    .rw[d]at z;cases z;exact i rfl
end
structure Un(fs ex:List Addr)(H H':Hp)(h h':Heap):Prop where
 keep:∀b o,h.get? b=some o->H b=none->b∉fs->b∉ex->h'.get? b=some o
 slot:∀b o,h.get? b=some o->H b=none->b∈fs->b∉ex->∃sl,h'.get? b=some {o with slots:=sl}free:∀b o,h.get? b=some o->H b=none->b∉ex->H' b=none
 there:∀b o,h.get? b=some o->b∉ex->∃o',h'.get? b=some o'
 tups:∀b xs,H b=some (.tup xs)->H' b=some (.tup xs)frzs:∀b o u,H b=some (.frz o u)->H' b=some (.frz o u)tbls:∀b ps,H b=some (.tbl ps)->∃more,H' b=some (.tbl (ps++more))
section
variable{fs fs' ex ex':List Addr}{H H1 H2:Hp}{h h1 h2 h':Heap}{a x e:Addr}{o:HO}
def Un.any(u:Un fs ex H H1 h h1){b ob}(q:h.get? b=some ob)(n:H b=none)(d:b∉ex):∃f,h1.get? b=some {ob with slots:=f}:=by
 by_cases c:b∈fs;.exact u.slot b _ q n c d
 .exact⟨_,u.keep b _ q n c d⟩
def Un.kept(k:∀b u,h.get? b=some u->h'.get? b=some u):Un fs ex H H h h':=⟨λb ob q _ _ _=>k b ob q,λb ob q _ _ _=>⟨ob.slots,k b ob q⟩,λ_ _ _ n _=>n,λb ob q _=>⟨ob,k b ob q⟩,λ_ _ q=>q,λ_ _ _ q=>q,λ_ c q=>⟨#[],by rw[q];simp⟩⟩
def Un.refl:Un fs ex H H h h:=Un.kept λ_ _ q=>q
def Un.laid(k:∀b u,h.get? b=some u->h'.get? b=some u)(hp:h.objs.size<=a)(hn:H a=none):Un fs ex H (upd H a o) h h' where
 keep:=λb u q _ _ _=>k b u q;slot:=λb u q _ _ _=>⟨u.slots,k b u q⟩;free:=λb u q n _=>by rw[ag (ar0 (arS (arV q) hp))];exact n
 there:=λb u q _=>⟨u,k b u q⟩;tups:=λb xs q=>by rw[ag (aP q hn)];exact q
 frzs:=λb u xs q=>by rw[ag (aP q hn)];exact q
 tbls:=λb ps q=>⟨#[],by rw[ag (aP q hn),q];simp⟩
def Un.write(i:Mut (H x))(p:e=x\/H e=some (.own x))(k:∀b u,b≠e->h.get? b=some u->h'.get? b=some u)(f:∃u,h'.get? e=some u):Un fs ex H (upd H x o) h h':=by
 have j:∀b,H b=none->b≠x:=λb n z=>by subst z;rw[n]at i;exact i
 have g:∀b,H b=none->b≠e:=λb n z=>by grind
 have d:∀b u,H b=some u->¬Mut (some u)->b≠x:=λb u q m z=>by grind
 refine⟨λb u q n _ _=>k b u (g b n) q,λb u q n _ _=>⟨u.slots,k b u (g b n) q⟩,λb u q n _=>by rw[ag (j b n)];exact n,λb u q _=>?_,λb l q=>by rw[ag (d b _ q λz=>z)];exact q,λb u l q=>by rw[ag (d b _ q λz=>z)];exact q,λb r q=>⟨#[],by rw[ag (d b _ q λz=>z),q];simp⟩⟩;by_cases c:b=e;.subst c;exact f
 .exact⟨u,k b u c q⟩
end
noncomputable def trk(h:Heap)(H:Hp):List Addr:=(List.range h.objs.size).filter λa=>(H a).isSome
def agx(h:Heap)(H:Hp):Heap:=W.hideAll h (trk h H)
def ads(h)(H):(agx h H).objs.size=h.objs.size:=W.hideAll_size _ _
def agw{h H b o}(e:h.get? b=some o)(n:H b=none):(agx h H).get? b=some o:=W.hideAll_get _ e λa=>by have q:=(List.mem_filter.mp a).2;rw[n]at q;simp at q
def ajl{h H b o}(e:(agx h H).get? b=some o):h.get? b=some o/\H b=none:=by have a:=W.of_hideAll _ e;refine⟨a,?_⟩;cases q:H b with|none=>rfl|some x=>have z:(agx h H).get? b=none:=W.hideAll_none _ (List.mem_filter.mpr ⟨asK.mpr (arV a),by grind⟩);rw[z]at e;cases e
noncomputable def akf(g h:Heap)(L:Addr):List (Addr×Obj):=(List.range h.objs.size).filterMap λa=>if a=L\/(g.get? a).isSome=true then none else(h.get? a).map λo=>(a,o)
def rest(g h:Heap)(L d:Addr):List (Addr×Obj):=(akf g h L).filter λp=>decide (p.1≠d)
structure Mod(K:W.Frag)(mg:Str->Option Value)(base:Heap):Prop where
 kin:K.In base
 glob:base.Ns mainGlobals mg
 blt:∃mb,base.Ns builtinsNs mb/\∀x:Str,x≠"__name__"->mb x=bootBuiltins x
 nolimit:base.NoLimit
structure Cx where
 prog:Program
 w:World
 K:W.Frag
 mg:Str->Option Value
 base:Heap
 A:Around
 N:List Str
 s₀:Shared
 H₀:Hp
 env:Env
 outer:List Env
 stack:List Env
 ex:List Addr
 fn:Str->Bool
 calm:Bool
 pn:List (Addr×Obj)xe:Value->Shared->Prop
noncomputable def frs(l:List Env):List Addr:=l.filterMap (·.frame)
abbrev Cx.fs(X:Cx):List Addr:=frs X.outer
def Vis(a:Scope)(x:Str):Prop:=a.names.lookup x=some .local\/a.names.lookup x=some .cell\/a.names.lookup x=some .free
def Loc(a:Scope)(x:Str):Prop:=a.names.lookup x=some .local\/a.names.lookup x=some .cell
def Look(a:Env)(h:Heap)(m:Str->Option Value)(x:Str)(u:Value):Prop:=a.kindOf x=some .local/\m x=some u\/(a.kindOf x=some .cell\/a.kindOf x=some .free)/\∃c,a.cells.lookup x=some c/\h.IsCell c (some u)
abbrev Dbg(x:Str):Prop:=(x==("__debug__":Str))=false
abbrev SE(X:Cx)(e:Expr)(es:List Expr):Prop:=starEach (e::es) X.env=(false,eval e X.env)::starEach es X.env
abbrev BT(X:Cx)(p:Pos)(es:List Expr):Prop:=(backTo p (starEach es X.env)).any (·.1)=false
abbrev FL(X:Cx)(x:Str):Prop:=X.fn x=true\/X.env.scope.names.lookup x=some .local
structure Cx.Ok(X:Cx):Prop where
 mod:Mod X.K X.mg X.base
 kind:X.env.scope.kind=.function
 glob:X.env.globals=mainGlobals
 blt:X.env.builtins=builtinsNs
 above:X.s₀.heap.objs.size<=X.env.locals
 inj:∀x y c,X.env.cells.lookup x=some c->X.env.cells.lookup y=some c->x=y
 has:∀x,X.env.kindOf x=some .cell\/X.env.kindOf x=some .free->∃c,X.env.cells.lookup x=some c
 cab:∀x c,X.fn x=true->X.env.cells.lookup x=some c->X.s₀.heap.objs.size<=c
 hd:X.calm=true->X.A.handled=none
 frames:X.A.frames=some X.stack
 stk:X.stack=X.outer\/X.stack=X.env::X.outer/\X.env.frame=some X.env.locals
 exf:∀b∈X.ex,b≠X.env.locals/\∀x c,X.env.cells.lookup x=some c->c≠b
 bs:∀b o,X.base.get? b=some o->X.s₀.heap.get? b=some o/\X.H₀ b=none
 bsz:X.base.objs.size<=X.s₀.heap.objs.size
 noex:∀b o,X.base.get? b=some o->b∉X.ex
 exfs:∀b∈X.ex,b∉X.fs
 r9:X.s₀.heap.FunFrames X.base X.outer
 frf:∀b∈X.fs,X.H₀ b=none
structure Inv(X:Cx)(pins:List (Addr×Obj))(σ:List (Option V))(H:Hp)(s:Shared):Prop where
 ok:X.Ok
 os:s.os=X.s₀.os
 bare:AllBare s.gens
 base:Un X.fs X.ex X.H₀ H X.s₀.heap s.heap
 loc:∃m,s.heap.Ns X.env.locals m/\∀(i:Nat)(x:Str)(v:V),X.N[i]?=some x->σ[i]?=some (some v)->Vis X.env.scope x->∃u,RelV v u/\Look X.env s.heap m x u
 cell:∀x c,X.env.cells.lookup x=some c->∃v,s.heap.IsCell c v
 free:H X.env.locals=none
 freeC:∀x c,X.env.cells.lookup x=some c->H c=none
 pin:∀p∈X.pn++pins,s.heap.get? p.1=some p.2/\H p.1=none/\p.1≠X.env.locals/\p.1∉X.fs/\∀v,p.2.data≠.cell v
 hok:HOk X.prog X.w H s.heap
 len:σ.length=X.N.length
section
variable{X:Cx}{pins:List (Addr×Obj)}{σ:List (Option V)}{H H':Hp}{s:Shared}{h':Heap}
def Cx.Ok.arp(ok:X.Ok){b o}(e:X.base.get? b=some o):b∉X.fs:=λa=>by have:=(ok.r9.mem a).1;rw[e]at this;cases this
theorem Inv.bs(I:Inv X pins σ H s):∀b o,X.base.get? b=some o->s.heap.get? b=some o/\H b=none:=λb o e=>⟨I.base.keep b o (I.ok.bs b o e).1 (I.ok.bs b o e).2 (I.ok.arp e) (I.ok.noex b o e),I.base.free b o (I.ok.bs b o e).1 (I.ok.bs b o e).2 (I.ok.noex b o e)⟩
def Inv.bk(I:Inv X pins σ H s):∀b o,X.base.get? b=some o->s.heap.get? b=some o:=λb o e=>(I.bs b o e).1
theorem Inv.mod(I:Inv X pins σ H s):Mod X.K X.mg X.base:=I.ok.mod
def Inv.kIn(I:Inv X pins σ H s):X.K.In s.heap:=I.ok.mod.kin.keeps I.bk
theorem Inv.lt(I:Inv X pins σ H s):X.env.locals<s.heap.objs.size:=let⟨_,a,_⟩:=I.loc;a.lt
def Inv.sz(I:Inv X pins σ H s):X.s₀.heap.objs.size<=s.heap.objs.size:=arU I.ok.above (auK I.lt)
def Inv.aro(I:Inv X pins σ H s){a:Addr}(h:s.heap.objs.size<=a):a∉X.fs:=λb=>by obtain⟨_,o,c,_⟩:=I.ok.r9.mem b;exact absurd (arS (arV c) (arU I.sz h)) (asT _)
def Inv.cne(I:Inv X pins σ H s):∀x c,X.env.cells.lookup x=some c->c≠X.env.locals:=λx c e z=>by obtain⟨v,o,f,d⟩:=I.cell x c e;obtain⟨m,⟨h,g,i,b,a,_⟩,_⟩:=I.loc;rw[z,b]at f;cases f;rw[a]at d;cases d
theorem Inv.r9(I:Inv X pins σ H s):s.heap.FunFrames X.base X.outer:=by
 have all:∀(l),(∀b∈frs l,b∈X.fs)->X.s₀.heap.FunFrames X.base l->s.heap.FunFrames X.base l:=by intro l;induction l with|nil=>intro _ _;trivial|cons env r ih=>intro f j;obtain⟨k,⟨L,o,a,h,m,g⟩,i⟩:=j;have d:=f L (by unfold frs;rw[asU,a];exact ash);obtain⟨n,e⟩:=I.base.slot L o m (I.ok.frf L d) d λz=>I.ok.exfs L z d;exact⟨k,aeW L _ a h e g,ih (λb c=>f b (by unfold frs;rw[asU,a];exact asp _ c)) i⟩
 exact all _ (λ_ c=>c) I.ok.r9
theorem Inv.stack(I:Inv X pins σ H s):s.heap.FunFrames X.base X.stack:=by
 rcases I.ok.stk with e|⟨e,b⟩;.rw[e];exact I.r9
 .rw[e];obtain⟨m,a,_⟩:=I.loc;exact .cons (by rw[I.ok.kind];decide) b a (asD (arU I.ok.bsz I.ok.above)) I.r9
def Inv.xU(I:Inv X pins σ H s):∀b∈frs X.stack,b∈X.env.locals::X.fs:=λb a=>by
 rcases I.ok.stk with e|⟨e,c⟩;.rw[e]at a;exact asp _ a
 .rw[e]at a;unfold frs at a;rw[asU,c]at a;exact a
def Inv.vw(I:Inv X pins σ H s):∀b∈frs X.stack,H b=none:=λb a=>by
 rcases ar4.mp (I.xU b a)with e|a;.rw[e];exact I.free
 .obtain⟨_,o,c,_⟩:=I.ok.r9.mem a;exact I.base.free b o c (I.ok.frf b a) λz=>I.ok.exfs b z a
def Inv.afw{g' t' d'}{ch:List Addr}(I:Inv X pins σ H s)(f:∀b∈ch,(b∈X.ex\/X.s₀.heap.get? b=none)/\b≠X.env.locals/\(∀x c,X.env.cells.lookup x=some c->c≠b)/\∀p∈X.pn++pins,p.1≠b)(keep:∀b o,b≠X.env.locals->b∉X.fs->b∉ch->s.heap.get? b=some o->H b=none->h'.get? b=some o)(y:∀b o,b≠X.env.locals->b∈X.fs->b∉ch->s.heap.get? b=some o->H b=none->∃R,h'.get? b=some {o with slots:=R})(free:∀b o,b∉ch->s.heap.get? b=some o->H b=none->H' b=none)(there:∀b o,b∉ch->s.heap.get? b=some o->∃J,h'.get? b=some J)(C:∀b w,H b=some (.tup w)->H' b=some (.tup w))(G:∀b o u,H b=some (.frz o u)->H' b=some (.frz o u))(M:∀b N,H b=some (.tbl N)->∃E,H' b=some (.tbl (N++E)))(ns:∀m,s.heap.Ns X.env.locals m->h'.Ns X.env.locals m)(P:HOk X.prog X.w H' h')(Z:AllBare g'):Inv X pins σ H' {s with heap:=h',gens:=g',drawn:=d',toks:=t'}:=by
 have D:∀b o,X.s₀.heap.get? b=some o->b≠X.env.locals:=λb o e=>ar0 (arS (arV e) I.ok.above);have t:∀b o,X.s₀.heap.get? b=some o->b∉X.ex->b∉ch:=λb o e a A=>by
  rcases(f b A).1 with z|z;.exact a z
  .rw[z]at e;cases e
 have h:∀x c,X.env.cells.lookup x=some c->∀v,s.heap.IsCell c v->h'.IsCell c v:=λx c e v⟨o,B,O⟩=>by
  have g:c∉ch:=λz=>(f c z).2.2.1 x c e rfl;by_cases U:c∈X.fs;.obtain⟨R,q⟩:=y c o (I.cne x c e) U g B (I.freeC x c e);exact⟨_,q,O⟩
  .exact⟨o,keep c o (I.cne x c e) U g B (I.freeC x c e),O⟩
 refine⟨I.ok,I.os,Z,⟨λb o e n A a=>?_,λb o e n A a=>?_,λb o e n a=>?_,λb o e a=>?_,λb w e=>C b w (I.base.tups b w e),λb o w e=>G b o w (I.base.frzs b o w e),λb N e=>?_⟩,?_,λx c e=>?_,?_,λx c e=>?_,λp Y=>?_,P,I.len⟩;.exact keep b o (D b o e) A (t b o e a) (I.base.keep b o e n A a) (I.base.free b o e n a)
 .obtain⟨R,j⟩:=I.base.slot b o e n A a;obtain⟨Q,K⟩:=y b _ (D b o e) A (t b o e a) j (I.base.free b o e n a);exact⟨Q,K⟩
 .obtain⟨J,j⟩:=I.base.there b o e a;exact free b J (t b o e a) j (I.base.free b o e n a)
 .obtain⟨J,j⟩:=I.base.there b o e a;exact there b J (t b o e a) j
 .obtain⟨m1,j⟩:=I.base.tbls b N e;obtain⟨m2,K⟩:=M b _ j;exact⟨m1++m2,by rw[K,Array.append_assoc]⟩
 .refine de I.loc λm hn hl=>?_;refine⟨m,ns m hn,λi x v j K e3=>?_⟩;obtain⟨u,r,l⟩:=hl i x v j K e3;refine⟨u,r,?_⟩;rcases l with l|⟨k,c,e,z⟩;.exact .inl l
  .exact .inr ⟨k,c,e,h x c e _ z⟩
 .obtain⟨v,z⟩:=I.cell x c e;exact⟨v,h x c e v z⟩
 .obtain⟨m,⟨o,_,_,B,_⟩,_⟩:=I.loc;exact free _ o (λz=>(f _ z).2.1 rfl) B I.free
 .obtain⟨v,o,B,O⟩:=I.cell x c e;exact free c o (λz=>(f c z).2.2.1 x c e rfl) B (I.freeC x c e)
 .refine anE (I.pin p Y) λe n S T d=>?_;have g:p.1∉ch:=λz=>(f p.1 z).2.2.2 p Y rfl;exact⟨keep p.1 p.2 S T g e n,free p.1 p.2 g e n,S,T,d⟩
def Inv.step{g' t' d' h' H'}{ch:List Addr}(I:Inv X pins σ H s)(a:∀b∈ch,(b∈X.ex\/X.s₀.heap.objs.size<=b)/\b≠X.env.locals/\(∀x c,X.env.cells.lookup x=some c->c≠b)/\∀p∈X.pn++pins,p.1≠b):=I.afw (g':=g') (t':=t') (d':=d') (h':=h') (H':=H') λb d=>⟨(a b d).1.imp_right asD,(a b d).2⟩
def Inv.un{t'}(I:Inv X pins σ H s)(u:Un X.fs [] H H' s.heap h')(d:HOk X.prog X.w H' h'):Inv X pins σ H' {s with heap:=h',toks:=t'}:=by obtain⟨m,⟨o,t,v,f,r⟩,_⟩:=id I.loc;obtain⟨q,h⟩:=u.any f I.free (by simp);exact I.step (ch:=[]) (λ_ z=>nomatch z) (λb o _ c _ e n=>u.keep b o e n c (by simp)) (λb o _ c _ e n=>u.slot b o e n c (by simp)) (λb o _ e n=>u.free b o e n (by simp)) (λb o _ e=>u.there b o e (by simp)) u.tups u.frzs u.tbls (λl g=>by refine vh g λp j k a i=>?_;rw[f]at a;cases a;exact aeL _ _ _ h i) d I.bare
def Inv.call{g' t' d' ch}(I:Inv X pins σ H s)(u:Un (frs X.stack) ch H H' s.heap h')(h:HOk X.prog X.w H' h')(j:AllBare g')(f:∀b∈ch,(b∈X.ex\/X.s₀.heap.objs.size<=b)/\b≠X.env.locals/\(∀x c,X.env.cells.lookup x=some c->c≠b)/\∀p∈X.pn++pins,p.1≠b):Inv X pins σ H' {s with heap:=h',gens:=g',drawn:=d',toks:=t'}:=by obtain⟨m,⟨o,B,C,i,r⟩,_⟩:=id I.loc;obtain⟨A,g⟩:=u.any i I.free λz=>(f _ z).2.1 rfl;exact I.step f (λb o g l a e n=>u.keep b o e n (λz=>(ar4.mp (I.xU b z)).elim g l) a) (λb o _ _ a e n=>u.any e n a) (λb o a e n=>u.free b o e n a) (λb o a e=>u.there b o e a) u.tups u.frzs u.tbls (λw k=>by refine vh k λy t v d q=>?_;rw[i]at d;cases d;exact aeL _ _ _ g q) h j
def Inv.turned{t' it}(I:Inv X pins σ H s)(k:∀b o,b≠it->s.heap.get? b=some o->h'.get? b=some o)(A:H it=none)(f:it≠X.env.locals)(h:it∈X.ex\/X.s₀.heap.objs.size<=it)(g:∀x c,X.env.cells.lookup x=some c->c≠it)(y:∀p∈X.pn++pins,p.1≠it):Inv X pins σ H {s with heap:=h',toks:=t'}:=by
 have d:∀b u,H b=some u->b≠it:=λb u e z=>by grind
 refine I.step (g':=s.gens) (ch:=[it]) (λb l=>?_) (λb o _ _ a e _=>k b o (λz=>a (by simp[z])) e) (λb o _ _ a e _=>⟨o.slots,k b o (λz=>a (by simp[z])) e⟩) (λ_ _ _ _ n=>n) (λb o a e=>⟨o,k b o (λz=>a (by simp[z])) e⟩) (λ_ _ e=>e) (λ_ _ _ e=>e) (λb B e=>⟨#[],by rw[e];simp⟩) (λm i=>?_) (λb u e=>?_) I.bare
 .have e:b=it:=by simpa using l
  subst e;exact⟨h,f,g,y⟩
 .refine vh i λo t w j r=>?_;exact aeL o t w (k _ o (arY f) j) r
 .refine(I.hok b u e).vy (λc v a q=>k c v ?_ q) (λ_ q=>q) λ_ _ q=>q;rcases a with z|z;.rw[z];exact d b u e
  .exact d c _ z
def Inv.tok(I:Inv X pins σ H s)(t):Inv X pins σ H {s with toks:=t}:=I.un  Un.refl I.hok
theorem Inv.kept{t'}(I:Inv X pins σ H s)(k:∀b u,s.heap.get? b=some u->h'.get? b=some u):Inv X pins σ H {s with heap:=h',toks:=t'}:=I.un (Un.kept k) (I.hok.kept k)
theorem Inv.laid{a:Addr}{o t'}(I:Inv X pins σ H s)(k:∀b u,s.heap.get? b=some u->h'.get? b=some u)(c:s.heap.objs.size<=a)(new:cL X.prog X.w (upd H a o) h' a o):Inv X pins σ (upd H a o) {s with heap:=h',toks:=t'}:=I.un (Un.laid k c (I.hok.fresh c)) (I.hok.laid k c new)
theorem Inv.write{x e o t'}(I:Inv X pins σ H s)(d:Mut (H x))(c:e=x\/H e=some (.own x))(k:∀b u,b≠e->s.heap.get? b=some u->h'.get? b=some u)(a:∃u,h'.get? e=some u)(new:cL X.prog X.w (upd H x o) h' x o):Inv X pins σ (upd H x o) {s with heap:=h',toks:=t'}:=I.un (Un.write d c k a) (I.hok.write d c k a new)
def Inv.gZ{a}(I:Inv X pins σ H s)(h:∀p∈a,s.heap.get? p.1=some p.2/\H p.1=none/\p.1≠X.env.locals/\p.1∉X.fs/\∀v,p.2.data≠.cell v):Inv X a σ H s:=⟨I.ok,I.os,I.bare,I.base,I.loc,I.cell,I.free,I.freeC,λp b=>(ass.mp b).elim (λz=>I.pin p (asz _ z)) (h p),I.hok,I.len⟩
def yy{N:List Str}(d:N.Nodup){i j:Nat}{x}(a:N[i]?=some x)(b:N[j]?=some x):i=j:=by obtain⟨g,e⟩:=arL.mp a;obtain⟨f,c⟩:=arL.mp b;exact(List.getElem_inj d).mp (e.trans c.symm)
def sM{M A E i x v u Q}(I:Inv X pins σ H s)(hN:X.N.Nodup)(R:X.N[i]?=some x)(w:Loc X.env.scope x)(r:RelV v u)(h:∀s',Inv X pins (σ.set i (some v)) H s'->(∃a,Heap.SameBut a s.heap s'.heap/\(a=X.env.locals\/X.env.cells.lookup x=some a))->Q () s')(hf:FL X x:=by first|exact .inl rfl|exact .inr rfl|assumption):wpAny M A (storeName X.env x u) Q E s:=by
 refine de (id I.loc) λm hn hl=>?_;have S:(X.env.scope.kind==.class||X.env.scope.kind==.module&&X.env.locals !=X.env.globals)=false:=by rw[I.ok.kind];rfl
 have D:i<σ.length:=by rw[I.len];exact(arL.mp R).1
 have cne:=I.cne;have l:∀{a:Addr}{h':Heap},(∃o,s.heap.get? a=some o/\H a=none)->Heap.SameBut a s.heap h'->HOk X.prog X.w H h':=λ{a h'}ha f b ob e=>by
  obtain⟨_,_,B⟩:=ha;refine(I.hok b ob e).vy (λc Z t q=>(f.2 c ?_).trans q) (λ_ q=>q) λ_ _ q=>q;rintro rfl;rcases t with rfl|t;.rw[B]at e;cases e
  .rw[B]at t;cases t
 rcases w with N|N
 .refine wpAny_storeName_local N hn (λh' a1 f=>?_) S;obtain⟨oL,_,_,a0,_⟩:=id hn;refine h _ ⟨I.ok,I.os,I.bare,⟨λb o e n G w=>?_,λb o e n G w=>?_,I.base.free,λb o e w=>?_,I.base.tups,I.base.frzs,I.base.tbls⟩,⟨_,a1,λj y v' g C e3=>?_⟩,λy c e=>?_,I.free,I.freeC,λp hp=>?_,l ⟨oL,a0,I.free⟩ f,by simpa using I.len⟩ ⟨_,f,.inl rfl⟩;.exact(f.2 b (ar0 (arS (arV e) I.ok.above))).trans (I.base.keep b o e n G w)
  .obtain⟨sl,g⟩:=I.base.slot b o e n G w;exact⟨sl,(f.2 b (ar0 (arS (arV e) I.ok.above))).trans g⟩
  .obtain⟨o',g⟩:=I.base.there b o e w;exact⟨o',(f.2 b (ar0 (arS (arV e) I.ok.above))).trans g⟩
  .by_cases J:j=i;.subst J;rw[R]at g;cases g;rw[arT D]at C;cases C;exact⟨u,r,.inl ⟨N,by simp⟩⟩
   .rw[arN (arY J)]at C;obtain⟨u',r',q⟩:=hl j y v' g C e3;refine⟨u',r',?_⟩;rcases q with⟨k,e⟩|⟨k,c,e,z⟩;.refine .inl ⟨k,?_⟩;have:y≠x:=λe=>J (yy hN g (e▸R));simp[this,e]
    .exact .inr ⟨k,c,e,z.sameBut f (cne y c e)⟩
  .obtain⟨Z,z⟩:=I.cell y c e;exact⟨Z,z.sameBut f (cne y c e)⟩
  .refine anE (I.pin p hp) λe n Y nf d=>?_;exact⟨(f.2 p.1 Y).trans e,n,Y,nf,d⟩
 .have K:X.fn x=true:=by grind
  obtain⟨c,t⟩:=I.ok.has x (.inl N);obtain⟨Z,z⟩:=I.cell x c t;refine wpAny_storeName_cell I.ok.kind N t z λh' P f=>?_;refine de (id z) λoc T O=>?_;refine h {s with heap:=h'} ⟨I.ok,I.os,I.bare,⟨λb o e n G w=>?_,λb o e n G w=>?_,I.base.free,λb o e w=>?_,I.base.tups,I.base.frzs,I.base.tbls⟩,⟨m,hn.sameBut f (arY (cne x c t)),λj y v' g C e3=>?_⟩,λy c' e=>?_,I.free,I.freeC,λp hp=>?_,l ⟨oc,T,I.freeC x c t⟩ f,by simpa using I.len⟩ ⟨c,f,.inr t⟩;.exact(f.2 b (ar0 (arS (arV e) (I.ok.cab x c K t)))).trans (I.base.keep b o e n G w)
  .obtain⟨sl,g⟩:=I.base.slot b o e n G w;exact⟨sl,(f.2 b (ar0 (arS (arV e) (I.ok.cab x c K t)))).trans g⟩
  .obtain⟨o',g⟩:=I.base.there b o e w;exact⟨o',(f.2 b (ar0 (arS (arV e) (I.ok.cab x c K t)))).trans g⟩
  .by_cases J:j=i;.subst J;rw[R]at g;cases g;rw[arT D]at C;cases C;exact⟨u,r,.inr ⟨.inl N,c,t,P⟩⟩
   .rw[arN (arY J)]at C;obtain⟨u',r',q⟩:=hl j y v' g C e3;refine⟨u',r',?_⟩;rcases q with q|⟨k,c',e,z'⟩;.exact .inl q
    .refine .inr ⟨k,c',e,z'.sameBut f ?_⟩;rintro rfl;exact J (yy hN g (I.ok.inj _ _ _ e t▸R))
  .by_cases U:c'=c;.subst U;exact⟨_,P⟩
   .obtain⟨w2,z2⟩:=I.cell y c' e;exact⟨w2,z2.sameBut f U⟩
  .refine anE (I.pin p hp) λe n Y nf d=>?_;refine⟨(f.2 p.1 ?_).trans e,n,Y,nf,d⟩;intro q;rw[q,T]at e;have q':oc=p.2:=asd e;exact d Z (by rw[<-q'];exact O)
def qM{M A E i x v u Q}(I:Inv X pins σ H s)(e:X.N.Nodup)(c:X.N[i]?=some x)(f:Loc X.env.scope x)(r:RelV v u)(h:∀a,Inv X pins (σ.set i (some v)) H a->Q () a)(d:FL X x:=by first|exact .inl rfl|exact .inr rfl|assumption):wpAny M A (storeName X.env x u) Q E s:=sM I e c f r (λa b _=>h _ b) d
def Inv.aka{s' ch}(I:Inv X pins σ H s)(g:s'.os=s.os)(u:Un (frs X.stack) ch H H' s.heap s'.heap)(d:HOk X.prog X.w H' s'.heap)(f:AllBare s'.gens)(a:∀b∈ch,(b∈X.ex\/X.s₀.heap.objs.size<=b)/\b≠X.env.locals/\(∀x c,X.env.cells.lookup x=some c->c≠b)/\∀p∈X.pn++pins,p.1≠b):Inv X pins σ H' s':=by obtain⟨h',h,k,j,i⟩:=s';have e:=g;subst e;exact I.call  u d f a
end
abbrev XK:=Value->Option Addr->Hp->Prop
abbrev St:=List (Option V)
abbrev VK:=V->Hp->Prop
abbrev TE:=St->Hp->VK->Prop
abbrev TT:=St->Hp->(Bool->Hp->Prop)->Prop
abbrev TA:=St->Hp->(List V->Hp->Prop)->Prop
structure Ends where
 nx:St->Hp->Prop
 rt:VK
 bk:St->Hp->Prop:=λ_ _=>False
 ct:St->Hp->Prop:=λ_ _=>False
abbrev TS:=Ends->St->Hp->Prop
def EP(X:Cx)(pins:List (Addr×Obj))(σ:St)(Q:VK)(u:Value)(s':Shared):Prop:=∃v a,Inv X pins σ a s'/\RelV v u/\Q v a
def TP(X:Cx)(pins:List (Addr×Obj))(σ:St)(Q:Bool->Hp->Prop)(b:Bool)(s':Shared):Prop:=∃a,Inv X pins σ a s'/\Q b a
def AP(X:Cx)(pins:List (Addr×Obj))(σ:St)(Q:List V->Hp->Prop)(us:List Value)(s':Shared):Prop:=∃a b,Inv X pins σ b s'/\Vals a us/\Q a b
def SP(X:Cx)(pins:List (Addr×Obj))(D:Ends)(f:Flow)(s':Shared):Prop:=match f with|.next=>∃a b,Inv X pins a b s'/\D.nx a b|.brk=>∃a b,Inv X pins a b s'/\D.bk a b|.cont=>∃a b,Inv X pins a b s'/\D.ct a b|.ret u=>∃v a b,Inv X pins a b s'/\RelV v u/\D.rt v b
def PE(X:Cx)(e:Expr)(t:TE):Prop:=∀(a:List (Addr×Obj))(s:Shared)(b:St)(H:Hp)(Q:VK),Inv X a b H s->t b H Q->wpAny (model X.prog X.w) X.A (eval e X.env) (EP X a b Q) X.xe s
def PT(X:Cx)(e:Expr)(t:TT):Prop:=∀(a:List (Addr×Obj))(s:Shared)(b:St)(H:Hp)(Q:Bool->Hp->Prop),Inv X a b H s->t b H Q->wpAny (model X.prog X.w) X.A (isTrue e X.env (eval e X.env)) (TP X a b Q) X.xe s
def PW(X:Cx)(e:Expr)(t:TT):Prop:=∀(b:Sem Value)(a:List (Addr×Obj))(s:Shared)(c:St)(H:Hp)(Q:Bool->Hp->Prop),Inv X a c H s->t c H Q->wpAny (model X.prog X.w) X.A (isTrue e X.env b) (TP X a c Q) X.xe s
def PW.pt{X e t}(h:PW X e t):PT X e t:=h _
def PA(X:Cx)(es:List Expr)(t:TA):Prop:=∀(c:Pos)(a:List (Addr×Obj))(s:Shared)(b:St)(H:Hp)(Q:List V->Hp->Prop),Inv X a b H s->t b H Q->wpAny (model X.prog X.w) X.A (spliced (backTo c (starEach es X.env))) (AP X a b Q) X.xe s
def PS(X:Cx)(st:Stmt)(t:TS):Prop:=∀(a:List (Addr×Obj))(s:Shared)(b:St)(H:Hp)(D:Ends),Inv X a b H s->t D b H->wpAny (model X.prog X.w) X.A (exec st X.env) (SP X a D) X.xe s
def PSs(X:Cx)(st:List Stmt)(t:TS):Prop:=∀(a:List (Addr×Obj))(s:Shared)(b:St)(H:Hp)(D:Ends),Inv X a b H s->t D b H->wpAny (model X.prog X.w) X.A (execs st X.env) (SP X a D) X.xe s
def thn{d t}{Q b:d->Shared->Prop}{M A E s}(h:wpAny M A t Q E s)(c:∀a s,Q a s->b a s):wpAny M A t b E s:=asi h c λ_ _ x=>x
section
variable{X:Cx}
def fE(i:Nat):TE:=λa H Q=>∃v,a[i]?=some (some v)/\Q v H
def tC(v:V):TE:=λ_ H Q=>Q v H
def alR{i x pos}(o:X.N[i]?=some x)(q:Vis X.env.scope x)(d:Dbg x:=by decide)(f:(x=="__classdict__")=false:=by decide):PE X (.Name x pos) (fE i):=by
 intro j s p H Q I h;refine de h λv e h=>?_;refine de I.loc λm k t=>?_;obtain⟨u,r,l⟩:=t i x v o e q;have fin:EP X _ p Q u s:=⟨v,H,I,r,h⟩;rcases l with⟨b,n⟩|⟨b,c,g,a⟩;.exact wpAny_Name (wpAny_loadName_local I.ok.kind b k n fin) d
 .rcases b with b|b;.exact wpAny_Name (wpAny_loadName_cell I.ok.kind b g a fin) d
  .exact wpAny_Name (wpAny_loadName_free I.ok.kind b g a fin f) d
def aht{i j pos}:PE X (.Constant (.int i) j pos) (tC (.int i)):=λ_ _ _ H _ I h=>wpAny_Constant_int ⟨.int i,H,I.tok _,⟨_,rfl⟩,h⟩
def alX{b j pos}:PE X (.Constant (.bool b) j pos) (tC (.bl b)):=λ_ _ _ H _ I h=>Constant_bool ⟨.bl b,H,I,rfl,h⟩
def alV{j pos}:PE X (.Constant .none j pos) (tC .non):=λ_ _ _ H _ I h=>Constant_none ⟨.non,H,I,rfl,h⟩
def nI{x j pos}:PE X (.Constant (.str x) j pos) (tC (.str x)):=λ_ _ _ H _ I h=>Calls.Constant_str ⟨.str x,H,I.tok _,⟨_,rfl⟩,h⟩
def Gl(X:Cx)(x:Str):Prop:=X.env.kindOf x=some .globalImplicit
def dH{E pins s}{σ:St}{H x u pos Q}(I:Inv X pins σ H s)(a:Gl X x)(c:X.mg x=some u)(h:Q u s)(b:Dbg x:=by decide):wpAny (model X.prog X.w) X.A (eval (.Name x pos) X.env) Q E s:=au6 I.ok.kind a (Calls.loadGlobal_global (by rw[I.ok.glob];exact I.mod.glob.keeps I.bk) c h) b
def n9{E pins s}{σ:St}{H x u pos Q}(I:Inv X pins σ H s)(b:Gl X x)(e:X.mg x=none)(g:bootBuiltins x=some u)(h:Q u s)(f:x≠"__name__":=by decide)(c:Dbg x:=by decide):wpAny (model X.prog X.w) X.A (eval (.Name x pos) X.env) Q E s:=by obtain⟨i,d,a⟩:=I.mod.blt;exact au6 I.ok.kind b (Calls.loadGlobal_builtin (by rw[I.ok.glob];exact I.mod.glob.keeps I.bk) e (by rw[I.ok.blt];exact d.keeps I.bk) ((a x f).trans g) h) c
def acs{x v u pos}(a:Gl X x)(c:X.mg x=some u)(r:RelV v u)(b:Dbg x:=by decide):PE X (.Name x pos) (tC v):=λ_ _ _ H _ I h=>dH I a c ⟨v,H,I,r,h⟩ b
def ajc{x v u pos}(b:Gl X x)(d:X.mg x=none)(a:bootBuiltins x=some u)(r:RelV v u)(e:x≠"__name__":=by decide)(c:Dbg x:=by decide):PE X (.Name x pos) (tC v):=λ_ _ _ H _ I h=>n9 I b d a ⟨v,H,I,r,h⟩ e c
variable{a b:Expr}{ta tb:TE}{pos:Pos}
def PC(X:Cx)(op:CmpOp)(a b:Expr)(t:TE):Prop:=∀(c:List (Addr×Obj))(s:Shared)(f:St)(H:Hp)(Q:VK),Inv X c f H s->t f H Q->wpAny (model X.prog X.w) X.A (eval a X.env) (λv d=>wpAny (model X.prog X.w) X.A (eval b X.env) (λu e=>wpAny (model X.prog X.w) X.A (compareOp op v u) (EP X c f Q) X.xe e) X.xe d) X.xe s
def af5(b:Expr){op:CmpOp}(h:op≠.In)(d:op≠.NotIn):behindInMarks op b=false:=by
 have e:(op==CmpOp.In)=false:=by cases op<;>first|rfl|exact absurd rfl h
 have c:(op==CmpOp.NotIn)=false:=by cases op<;>first|rfl|exact absurd rfl d
 cases b<;>first|rfl|(show(_&&(_||_)&&_)=false;simp[e,c])
def tB(t:TE):TT:=λd H Q=>t d H λx e=>∃c,x=.bl c/\Q c e
def alI{e t}(h:PE X e t)(m:∀c,isTrue e X.env c=(do let v <-c;standAt e.pos;holding [v] (truthy v)):=by intro _;rfl):PT X e (tB t):=by intro f s k H Q I hw;refine isTrue_plain (thn (h _ s k H _ I hw) λv n⟨x,g,j,l,i⟩=>?_) (m _);obtain⟨d,rfl,q⟩:=i;cases l;exact asI ⟨g,j,q⟩
variable{tA tB':TT}{rest:List Expr}
def aaT(t u:TT):TT:=λd H Q=>t d H λc e=>if c=true then u d e Q else Q false e
def tOr(t u:TT):TT:=λd H Q=>t d H λc e=>if c=true then Q true e else u d e Q
def xS(t:TT):TT:=λd H Q=>t d H λc e=>Q (!c) e
def ai2(g:PT X a tA):PW X (.BoolOp .And [a] pos) tA:=by intro j d s f H Q I h;refine isTrue_and (thn (g _ s f H Q I h) λc i e=>?_);cases c with|true=>exact isTrue_and_nil e|false=>exact e
def alF(g:PT X a tA):PW X (.BoolOp .Or [a] pos) tA:=by intro j d s f H Q I h;refine isTrue_or (thn (g _ s f H Q I h) λc i e=>?_);cases c with|false=>exact isTrue_or_nil e|true=>exact e
def alG(k:PT X a tA)(j:PW X (.BoolOp .And (b::rest) pos) tB'):PW X (.BoolOp .And (a::b::rest) pos) (aaT tA tB'):=by intro m f s d H Q I h;refine isTrue_and (thn (k _ s d H _ I h) λc l⟨i,g,e⟩=>?_);cases c with|true=>exact j _ _ _ d _ Q g e|false=>exact⟨i,g,e⟩
def ao4(k:PT X a tA)(j:PW X (.BoolOp .Or (b::rest) pos) tB'):PW X (.BoolOp .Or (a::b::rest) pos) (tOr tA tB'):=by intro m f s d H Q I h;refine isTrue_or (thn (k _ s d H _ I h) λc l⟨i,g,e⟩=>?_);cases c with|true=>exact⟨i,g,e⟩|false=>exact j _ _ _ d _ Q g e
def alJ(e:PT X a tA):PT X (.UnaryOp .Not a pos) (xS tA):=by intro c s d H Q I h;exact isTrue_not (e _ s d H _ I h)
def aoL(ta tb:TE):TE:=λd H Q=>ta d H λx e=>∃c,x=.bl c/\if c=true then tb d e Q else Q (.bl false) e
def aoG(ta:TE):TE:=λd H Q=>ta d H λx e=>∃c,x=.bl c/\Q (.bl !c) e
def alT{op t}(h:PE X a t):PE X (.BoolOp op [a] pos) t:=λc s d H Q I hw=>BoolOp_one (h _ s d H Q I hw)
def alY(l:PE X a ta)(k:PE X (.BoolOp .And (b::rest) pos) tb):PE X (.BoolOp .And (a::b::rest) pos) (aoL ta tb):=by intro e s g H Q I h;refine BoolOp_and (thn (l _ s g H _ I h) λv m⟨x,i,f,j,d⟩=>?_);obtain⟨c,rfl,d⟩:=d;cases j;refine asI ?_;cases c with|true=>exact k _ _ g _ Q f d|false=>exact⟨.bl _,i,f,rfl,d⟩
def alU(k:PE X a ta):PE X (.UnaryOp .Not a pos) (aoG ta):=by intro e s i H Q I h;refine UnaryOp_ (thn (k _ s i H _ I h) λv l⟨x,f,g,j,d⟩=>?_);obtain⟨c,rfl,d⟩:=d;cases j;exact not_of (asI ⟨.bl _,f,g,rfl,d⟩)
def tIf(t:TT)(ta tb:TE):TE:=λd H Q=>t d H λc e=>if c=true then ta d e Q else tb d e Q
def afQ{c}(j:PT X c tA)(l:PE X a ta)(k:PE X b tb):PE X (.IfExp c a b pos) (tIf tA ta tb):=by intro i s e H Q I h;refine wpAny_IfExp (thn (j _ s e H _ I h) λd m⟨n,g,f⟩=>?_);cases d with|true=>exact l _ _ e _ Q g f|false=>exact k _ _ e _ Q g f
end
def SqL(K:W.Frag)(H:Hp)(a:Addr)(xs:List V):Prop:=Rd H a (.lst xs)\/∃(o:Obj)(b:Array Value)(n:Nat),K.lookup a=some o/\o.cls=.type "list"/\o.dict=none/\o.data=.seq b n/\b.size<=sizeLine/\Vals xs b.toList
def SqT(K:W.Frag)(H:Hp)(a:Addr)(xs:List V):Prop:=Rd H a (.tup xs)\/∃(o:Obj)(b:Array Value)(n:Nat),K.lookup a=some o/\o.cls=.type "tuple"/\o.data=.seq b n/\b.size<=sizeLine/\Vals xs b.toList
noncomputable def arC:Value->Option V|.none=>some .non|.bool b=>some (.bl b)|.int i _=>some (.int i)|.str x _=>some (.str x)|.bytes b _=>some (.byt b)|.float b _=>some (.flt b)|.ref a=>some (.ref a)|.type n=>some (.ty n)|_=>none
def RelV.abs{x u}(r:RelV x u):arC u=some x:=by cases x with|non|bl _=>cases r;rfl|int _|str _|byt _|flt _=>obtain⟨t,rfl⟩:=r;rfl|ref _|ty _=>cases r;rfl
def RelV.inj{x y u}(r:RelV x u)(q:RelV y u):x=y:=asd (r.abs.symm.trans q.abs)
theorem Vals.inj:∀{xs ys us},Vals xs us->Vals ys us->xs=ys|_,_,_,.nil,.nil=>rfl|_,_,_,.cons r t,.cons r' t'=>by rw[r.inj r',Vals.inj t t']
section
variable{X:Cx}{pins:List (Addr×Obj)}{σ:St}{H:Hp}{s:Shared}{a:Addr}{xs ys:List V}
def SqL.of{K}(h:H a=some (.lst xs)):SqL K H a xs:=.inl (.inl h)
def SqT.of{K}(h:H a=some (.tup xs)):SqT K H a xs:=.inl (.inl h)
def Inv.list(I:Inv X pins σ H s)(h:SqL X.K H a xs):∃b,Vals xs b/\PlainL s.heap a b.toArray/\xs.length<=sizeLine:=by
 rcases h with h|⟨o,b,n,f,c,d,i,g,r⟩;.obtain⟨z,b,n,r,e⟩:=h.ok I.hok;exact⟨_,r,aeW _ n e rfl rfl rfl,z⟩
 .refine⟨_,r,aeW o n (I.kIn a o f) c d (by omega),?_⟩;have e:=r.length;simp  at e;omega
def Inv.tuple(I:Inv X pins σ H s)(h:SqT X.K H a xs):∃b,Vals xs b/\IsTup s.heap a b.toArray/\xs.length<=sizeLine:=by
 rcases h with h|⟨o,b,n,d,c,g,f,r⟩;.obtain⟨z,b,r,p⟩:=h.ok I.hok;exact⟨_,r,p,z⟩
 .refine⟨_,r,⟨o,I.kIn a o d,c,n,by omega⟩,?_⟩;have e:=r.length;simp  at e;omega
def Inv.yG(I:Inv X pins σ H s)(h:SqL X.K H a xs)(h':SqL X.K H a ys):xs=ys:=by
 obtain⟨c,r,⟨o,n,e,_,_,d⟩,_⟩:=I.list h;obtain⟨b,f,⟨g,j,i,_,_,k⟩,_⟩:=I.list h';have:c=b:=by grind
 subst this;exact r.inj f
def Inv.sy(I:Inv X pins σ H s)(h:SqT X.K H a xs)(h':SqT X.K H a ys):xs=ys:=by
 obtain⟨c,r,⟨o,e,_,n,d⟩,_⟩:=I.tuple h;obtain⟨b,f,⟨g,i,_,j,k⟩,_⟩:=I.tuple h';have:c=b:=by grind
 subst this;exact r.inj f
end
abbrev Cx.pJ(X:Cx)(E:Value->Shared->Prop):Cx:={X with xe:=E}
abbrev Cx.nox(X:Cx):Cx:=X.pJ λ_ _=>False
theorem Cx.Ok.pJ{X:Cx}(ok:X.Ok)(E):(X.pJ E).Ok:=⟨ok.mod,ok.kind,ok.glob,ok.blt,ok.above,ok.inj,ok.has,ok.cab,ok.hd,ok.frames,ok.stk,ok.exf,ok.bs,ok.bsz,ok.noex,ok.exfs,ok.r9,ok.frf⟩
def Cx.Ok.pM{X:Cx}{E}(ok:(X.pJ E).Ok):X.Ok:=⟨ok.mod,ok.kind,ok.glob,ok.blt,ok.above,ok.inj,ok.has,ok.cab,ok.hd,ok.frames,ok.stk,ok.exf,ok.bs,ok.bsz,ok.noex,ok.exfs,ok.r9,ok.frf⟩
section
variable{X:Cx}{pins:List (Addr×Obj)}{σ:St}{H:Hp}{s:Shared}{E:Value->Shared->Prop}
theorem Inv.pJ(I:Inv X pins σ H s)(E):Inv (X.pJ E) pins σ H s:=⟨I.ok.pJ E,I.os,I.bare,I.base,I.loc,I.cell,I.free,I.freeC,I.pin,I.hok,I.len⟩
theorem Inv.pM(I:Inv (X.pJ E) pins σ H s):Inv X pins σ H s:=⟨I.ok.pM,I.os,I.bare,I.base,I.loc,I.cell,I.free,I.freeC,I.pin,I.hok,I.len⟩
theorem SP.pM{D f s'}(h:SP (X.pJ E) pins D f s'):SP X pins D f s':=by cases f with|next|brk|cont=>obtain⟨a,b,I,q⟩:=h;exact⟨_,b,I.pM,q⟩|ret u=>refine zl h λv a b I r q=>?_;exact⟨v,_,b,I.pM,r,q⟩
theorem PSs.nox{st t}(h:PSs X.nox st t):PSs X st t:=λpins s σ H D I hw=>asi (h _ s σ H D (I.pJ _) hw) (λ_ _ q=>q.pM) λ_ _ z=>False.elim z
end
section
variable{X:Cx}{st:Stmt}{rest:List Stmt}{t u:TS}{e:Expr}{te:TE}{pos:Pos}
def aoH:TS:=λD a H=>D.nx a H
def ali(t u:TS):TS:=λD a H=>t {D with nx:=u D} a H
def ace:PSs X [] aoH:=λ_ _ a H _ I h=>atD ⟨a,H,I,h⟩
def bT(i:PS X st t)(g:PSs X rest u):PSs X (st::rest) (ali t u):=by intro a s b H D I h;refine wpAny_execs_cons (thn (i _ s b H _ I h) λf j q=>?_);cases f with|next=>obtain⟨c,k,d,q⟩:=q;exact g _ _ _ _ D d q|ret v=>exact q|brk=>exact q|cont=>exact q
def ft(c:PS X st t):PSs X [st] t:=by intro a s b H D I h;refine wpAny_execs_cons (thn (c _ s b H D I h) λf d q=>?_);cases f with|next=>exact atD q|ret v|brk|cont=>exact q
def aoJ:TS:=λD a H=>D.ct a H
def vL:PS X (.Continue pos) aoJ:=λ_ _ a H _ I h=>wpAny_Continue ⟨a,H,I,h⟩
def Inv.quiet{pins}{σ:St}{H s}(I:Inv X pins σ H s):interactive X.env=false:=by simp[interactive,I.ok.kind]
def zB(te:TE):TS:=λD a H=>te a H λ_ b=>D.nx a b
def fu(f:PE X e te)(d:swapsWith e none pos.line X.env=pure false:=by rfl):PS X (.Expr e pos) (zB te):=by intro b s a H D I h;exact wpAny_Expr_any (thn (f _ s a H _ I h) λv j⟨x,c,i,k,g⟩=>⟨a,c,i,g⟩) I.quiet d
def aqv(te:TE):TS:=λD a H=>te a H D.rt
def acf(f:PE X e te):PS X (.Return (some e) pos) (aqv te):=by intro b s a H D I h;exact wpAny_Return_some (thn (f _ s a H _ I h) λv j⟨x,c,i,d,g⟩=>⟨x,a,c,i,d,g⟩)
def aoD:TS:=λD _ H=>D.rt .non H
def ai4:PS X (.Return none pos) aoD:=λ_ _ a H _ I h=>wpAny_Return_none ⟨.non,a,H,I,rfl,h⟩
def ard(c:TT)(t u:TS):TS:=λD a H=>c a H λb d=>if b=true then t D a d else u D a d
def ai5{c a b k}(l:PT X c k)(n:PSs X a t)(m:PSs X b u):PS X (.If c a b pos) (ard k t u):=by intro i s f H D I h;refine wpAny_If (thn (l _ s f H _ I h) λd p⟨o,j,g⟩=>?_);cases d with|true=>exact n _ _ f _ D j g|false=>exact m _ _ f _ D j g
end
abbrev TG:=V->St->Hp->(St->Hp->Prop)->Prop
abbrev TGs:=List V->St->Hp->(St->Hp->Prop)->Prop
def PG(X:Cx)(a:Expr)(t:TG):Prop:=∀(b:List (Addr×Obj))(s:Shared)(d:St)(H:Hp)(v:V)(u:Value)(Q:St->Hp->Prop),Inv X b d H s->RelV v u->t v d H Q->wpAny (model X.prog X.w) X.A (assign a X.env u) (λ_ f=>∃c e,Inv X b c e f/\Q c e) X.xe s
def PGs(X:Cx)(ts:List Expr)(t:TGs):Prop:=∀(a:List (Addr×Obj))(s:Shared)(d:St)(H:Hp)(c:List V)(f:List Value)(Q:St->Hp->Prop),Inv X a d H s->Vals c f->t c d H Q->wpAny (model X.prog X.w) X.A (assignInOrder ((assignEach ts X.env).map (·.2)) f) (λ_ g=>∃b e,Inv X a b e g/\Q b e) X.xe s
abbrev TIp:=V->V->Hp->VK->Prop
def PIp(X:Cx)(op:Operator)(t:TIp):Prop:=∀(a:List (Addr×Obj))(s:Shared)(b:St)(H:Hp)(x y:V)(v u:Value)(Q:VK),Inv X a b H s->RelV x v->RelV y u->t x y H Q->wpAny (model X.prog X.w) X.A (inplaceOp op v u) (EP X a b Q) X.xe s
section
variable{X:Cx}{pos:Pos}
def ax(i:Nat):TG:=λv a H Q=>Q (a.set i (some v)) H
def vO{i x}(b:X.N.Nodup)(d:X.N[i]?=some x)(f:Loc X.env.scope x)(e:FL X x:=by first|exact .inl rfl|exact .inr rfl|assumption):PG X (.Name x pos) (ax i):=by intro a s g H v u Q I r h;exact wpAny_assign_Name (qM I b d f r (λj c=>⟨_,H,c,h⟩) e)
def r6:TGs:=λa b H Q=>a=[]/\Q b H
def cz(t:TG)(u:TGs):TGs:=λb c H Q=>∃v r,b=v::r/\t v c H λa d=>u r a d Q
def ai9:PGs X [] r6:=by intro a s b H c d Q I r h;obtain⟨e,h⟩:=h;exact assignInOrder_nil ⟨b,H,I,h⟩
def afO{e es t u}(c:PG X e t)(b:PGs X es u)(g:(assignEach (e::es) X.env).map (·.2)=assign e X.env::(assignEach es X.env).map (·.2):=by rfl):PGs X (e::es) (cz t u):=by intro a s i H m l Q I r h;obtain⟨v,o,j,h⟩:=h;subst j;cases r with|cons r rr=>rw[g];exact assignInOrder_cons (thn (c _ s i H _ _ _ I r h) λ_ n⟨_,k,f,d⟩=>b _ _ _ _ _ _ Q f rr d)
def r0(K:W.Frag)(n:Nat)(t:TGs):TG:=λv c H Q=>∃a b,v=.ref a/\SqT K H a b/\b.length=n/\t b c H Q
def alQ{es k t n}(f:X.calm=true)(h:PGs X es t)(i:(assignEach es X.env).length=n:=by rfl)(c:(assignEach es X.env).findIdx? (·.1)=none:=by rfl):PG X (.Tuple es k pos) (r0 X.K n t):=by intro d s m H v u Q I r hw;obtain⟨a,B,p,g,x,hw⟩:=hw;subst p;cases r;refine ju (I.tuple g) λq w l z=>?_;refine assign_Tuple_tuple (I.ok.hd f) l (by simp[i,<-x,w.length]) c λA y=>?_;have j:=I.kept (t':=s.toks) λb o e=>y b o (ar0 (arV e)) e;exact h _ _ m H _ _ Q j (by grind) hw
def akn(b:TE)(g:TG):TS:=λD a H=>b a H λx c=>g x a c D.nx
def alL{a e d g}(n:PE X e d)(f:PG X a g)(l:swapsWithSole [a] e pos.line X.env=pure false:=by rfl)(hw:swappedStores [a] e X.env=pure none:=by rfl)(i:(assignEach [a] X.env).map (·.2)=[assign a X.env]:=by rfl):PS X (.Assign [a] e pos) (akn d g):=by intro b s c H D I h;refine wpAny_Assign_stores (thn (n _ s c H _ I h) λv p⟨x,o,k,m,j⟩=>?_) l hw;rw[i];exact thn (f _ _ c _ x v _ k m j) λ_ r q=>q
def tI{i x e c a}(m:X.N.Nodup)(l:X.N[i]?=some x)(q:Loc X.env.scope x)(p:PE X e c)(j:swapsWith e (some (.Name x a)) pos.line X.env=pure false:=by rfl)(k:FL X x:=by first|exact .inl rfl|exact .inr rfl|assumption):PS X (.Assign [.Name x a] e pos) (akn c (ax i)):=by intro b s n H D I h;exact wpAny_Assign_Name (thn (p _ s n H _ I h) λv t⟨y,d,g,o,f⟩=>qM g m l q o (λu r=>⟨_,d,r,f⟩) k) j
def arf(i:Nat)(d:TE)(e:TIp):TS:=λD a H=>∃x,a[i]?=some (some x)/\d a H λy b=>e x y b λz c=>D.nx (a.set i (some z)) c
def alK{i x e q op A j}(G:X.N.Nodup)(p:X.N[i]?=some x)(n:Loc X.env.scope x)(he:PE X e q)(O:PIp X op A)(E:FL X x:=by first|exact .inl rfl|exact .inr rfl|assumption):PS X (.AugAssign (.Name x j) op e pos) (arf i q A):=by
 intro a s t H D I h;refine de h λv K h=>?_;refine de I.loc λm T hl=>?_;have o:Vis X.env.scope x:=by rcases n with k|k;exact .inl k;exact .inr (.inl k)
 refine de (hl i x v p K o) λu r l=>?_;refine wpAny_AugAssign_Name ?_;have go:wpAny (model X.prog X.w) X.A (eval e X.env) (λw g=>wpAny (model X.prog X.w) X.A (inplaceOp op u w) (λr f=>wpAny (model X.prog X.w) X.A (storeName X.env x r) (λ_=>SP X a D .next) X.xe f) X.xe g) X.xe s:=by refine thn (he a s t H _ I h) λw Y⟨y,R,U,J,B⟩=>?_;exact thn (O a Y t R v y u w _ U r J B) λz s2⟨zv,S,N,Z,M⟩=>qM N G p n Z (λs3 P=>⟨_,S,P,M⟩) E
 rcases l with⟨b,C⟩|⟨b,c,Q,d⟩;.exact wpAny_loadName_local I.ok.kind b T C go
 .rcases b with b|b;.exact wpAny_loadName_cell I.ok.kind b Q d go
  .rcases n with k|k;.have:X.env.scope.names.lookup x=some .free:=b;rw[k]at this;cases this
   .have:X.env.scope.names.lookup x=some .free:=b;rw[k]at this;cases this
def ipI(f:Int->Int->Int):TIp:=λx y H Q=>∃i j,x=.int i/\y=.int j/\Q (.int (f i j)) H
def amR:PIp X .Add (ipI λi j=>i+j):=by intro a s f H x y v u Q I c e h;refine iH h λi j d b q=>?_;subst d;subst b;obtain⟨t,rfl⟩:=c;obtain⟨g,rfl⟩:=e;exact iadd_int (fD (.int _) H (I.tok _) ⟨_,rfl⟩ q)
end
section
variable{X:Cx}{pos:Pos}
def alh(c:TT)(tb:TS):TS:=λD a H=>∃W:Nat->St->Hp->Prop,(∃m,W m a H)/\∀m a H,W m a H->c a H λb e=>if b=true then∃N:St->Hp->Prop,(∀d g,N d g->∃f,f<m/\W f d g)/\tb {D with nx:=N,ct:=N,bk:=D.nx} a e else D.nx a e
def yc{c e A tb}(z:PassesOwn (model X.prog X.w) X.A X.env X.xe)(J:PT X c A)(B:PSs X e tb):PS X (.While c e [] pos) (alh A tb):=by intro x s M H D I h;obtain⟨W,⟨E,G⟩,turn⟩:=h;refine wpAny_While (codeAny_whileLoop (λn Q=>∃g y,Inv X _ g y Q/\W n g y) ?_ E ⟨M,H,I,G⟩);rintro n O⟨d,u,K,C⟩;refine atm z (thn (J _ O d u _ K (turn n d u C)) λb P⟨w,t,k⟩=>?_);cases b with
|true=>refine de k λN r k=>?_;refine atm z (thn (B _ P d w _ t k) λf R j=>?_);cases f with|next=>obtain⟨a,i,o,l⟩:=j;obtain⟨q,m,p⟩:=r a i l;exact⟨q,m,a,i,o,p⟩|cont=>obtain⟨a,i,o,l⟩:=j;obtain⟨q,m,p⟩:=r a i l;exact⟨q,m,a,i,o,p⟩|brk=>exact j|ret v=>exact j
|false=>exact atD ⟨d,w,t,k⟩
end
structure It where
 go:Nat->Hp->Prop
 yld:Nat->Hp->V->Hp->Prop
 stop:Nat->Hp->Prop
def zk(X:Cx)(pins:List (Addr×Obj))(H:Hp)(b:Addr):Prop:=H b=none/\b≠X.env.locals/\b∉X.fs/\(b∈X.ex\/X.s₀.heap.objs.size<=b)/\(∀x c,X.env.cells.lookup x=some c->c≠b)/\∀p∈X.pn++pins,p.1≠b
def Inv.aky{X:Cx}{pins:List (Addr×Obj)}{σ:St}{H H':Hp}{s:Shared}{b:Addr}(I:Inv X pins σ H s)(a:s.heap.objs.size<=b)(d:H' b=none):zk X pins H' b:=by
 refine⟨d,asE (arS I.lt a),I.aro a,.inr (arU I.sz a),λx c e z=>?_,λp f z=>?_⟩;.obtain⟨v,q⟩:=I.cell x c e;exact absurd (arS q.lt (by rw[z];exact a)) (asT _)
 .exact absurd (arS (arV (I.pin p f).1) (by rw[z];exact a)) (asT _)
structure Turn(P:Program)(w:World)(K:W.Frag)(tg:Expr)(J:It)(fp:List Addr)(it:Addr)(tn:Nat->Heap->Prop)(cl:Cx->Hp->Prop:=λX _=>X.calm=true):Prop where
 mem:it∈fp
 obj:∀i h,tn i h->∀b∈fp,∃o,h.get? b=some o/\∀v,o.data≠.cell v
 keep:∀i h h',tn i h->(∀b∈fp,∀o,h.get? b=some o->h'.get? b=some o)->tn i h'
 item:∀(X:Cx),X.prog=P->X.w=w->X.K=K->∀(i:Nat)(pins:List (Addr×Obj))(s:Shared)(σ:St)(H:Hp)(E:Value->Shared->Prop),cl X H->Inv X pins σ H s->(∀b∈fp,zk X pins H b)->tn i s.heap->J.go i H->wpAny (model P w) X.A (pyNext (.ref it)) (λr s1=>∃u,r=some u/\wpAny (model P w) X.A (letOwnedTupleGo tg (.ref it) u) (λ_ s2=>∃x H',Inv X pins σ H' s2/\RelV x u/\J.yld i H x H'/\tn (i+1) s2.heap/\∀b∈fp,H' b=none) E s1) E s
 done:∀(X:Cx),X.prog=P->X.w=w->X.K=K->∀(i:Nat)(pins:List (Addr×Obj))(s:Shared)(σ:St)(H:Hp)(E:Value->Shared->Prop),cl X H->Inv X pins σ H s->(∀b∈fp,zk X pins H b)->tn i s.heap->J.stop i H->wpAny (model P w) X.A (pyNext (.ref it)) (λr s1=>r=none/\Inv X pins σ H s1) E s
 self:∀(A:Around)(i:Nat)(s:Shared)(Q:Value->Shared->Prop)(E:Value->Shared->Prop),tn i s.heap->Q (.ref it) s->wpAny (model P w) A (pyIter (.ref it)) Q E s
abbrev TI:=St->Hp->(It->Hp->Prop)->Prop
def PIE(X:Cx)(pins:List (Addr×Obj))(σ:St)(h:Expr)(R:It->Hp->Prop)(c:Value)(f:Shared):Prop:=∃(d:Addr)(g:List Addr)(e:Nat->Heap->Prop)(J:It)(a:Hp),c=.ref d/\Inv X pins σ a f/\Turn X.prog X.w X.K h J g d e/\e 0 f.heap/\(∀b∈g,zk X pins a b)/\R J a
def PI(X:Cx)(e b:Expr)(wi:TI):Prop:=∀(a:List (Addr×Obj))(s:Shared)(c:St)(H:Hp)(R:It->Hp->Prop),Inv X a c H s->wi c H R->wpAny (model X.prog X.w) X.A (eval b X.env) (λv d=>wpAny (model X.prog X.w) X.A (pyIter v) (PIE X a c e R) X.xe d) X.xe s
def aap{M A E s b it u o n vs Q}(e:s.heap.get? it=some o)(c:o.cls=.type n)(d:o.data=.fields vs)(f:["enumerate","zip","dict_itemiterator","dict_reverseitemiterator","odict_iterator","itertools.zip_longest","itertools.pairwise"].contains n=false)(a:Q () s):wpAny M A (letOwnedTupleGo b (.ref it) u) Q E s:=by cases b<;>first|exact arR a|(cases u<;>first|exact arR a| (refine arJ (wpAny_load e ?_);rw[c,d];show wpAny M A (if(["enumerate","zip","dict_itemiterator","dict_reverseitemiterator","odict_iterator","itertools.zip_longest","itertools.pairwise"].contains n&&vs[0]?==some (rawInt _))=true then _ else _) Q E s;rw[arO (by grind)];exact arR a))
noncomputable def Itl(K:W.Frag)(a:Addr):It:=⟨λi H=>∃b x,SqL K H a b/\b[i]?=some x,λi H x c=>c=H/\∀b,SqL K H a b->b[i]?=some x,λi H=>∃b,SqL K H a b/\b.length<=i⟩
noncomputable def Itt(K:W.Frag)(a:Addr):It:=⟨λi H=>∃b x,SqT K H a b/\b[i]?=some x,λi H x c=>c=H/\∀b,SqT K H a b->b[i]?=some x,λi H=>∃b,SqT K H a b/\b.length<=i⟩
noncomputable def Itr(lo:Int)(n:Nat):It:=⟨λi _=>i<n,λi H x a=>a=H/\x=.int (lo+i),λi _=>n<=i⟩
def abn{P:Program}{w:World}{K:W.Frag}{tg:Expr}(a it:Addr):Turn P w K tg (Itl K a) [it] it λi h=>h.IsListIter it a i where
 mem:=by simp
 obj:=λi h st b hb=>by
  have e:b=it:=by simpa using hb
  subst e;obtain⟨o,e,c,d⟩:=st;exact⟨o,e,λv z=>by rw[d]at z;cases z⟩
 keep:=λi h h' st k=>st.at λo e=>k it (by simp) o e;item:=by intro X hP hw hK i pins s σ H E hc I hf st hg;subst hP hw hK;obtain⟨xs,x,hq,hx⟩:=hg;obtain⟨its,rv,p,hz⟩:=I.list hq;obtain⟨u,hu,ru⟩:=rv.get hx;obtain⟨f0,f1,f2,f3,f4,f5⟩:=hf it (by simp);refine wpAny_pyNext_list_item st p.isList (x:=u) (by simpa using hu) λh' st' sb=>?_;have I1:Inv X pins σ H {s with heap:=h'}:=I.turned (t':=s.toks) (λb o hb e=>(sb.2 b hb).trans e) f0 f1 f3 f4 f5;obtain⟨o,e,c,d⟩:=id st';exact⟨u,rfl,aap (s:={s with heap:=h'}) e c d (by decide) ⟨x,H,I1,ru,⟨rfl,λys hy=>by rw[I.yG hy hq];exact hx⟩,st',λb hb=>(hf b hb).1⟩⟩
 done:=by intro X hP hw hK i pins s σ H E hc I hf st hg;subst hP hw hK;obtain⟨xs,hq,hx⟩:=hg;obtain⟨its,rv,p,hz⟩:=I.list hq;obtain⟨f0,f1,f2,f3,f4,f5⟩:=hf it (by simp);have hl:=rv.length;exact wpAny_pyNext_list_end (I.ok.hd hc) st p.isList (by simp;omega) λh' eb=>⟨rfl,I.turned (t':=s.toks) (λb o hb e=>eb b o hb e) f0 f1 f3 f4 f5⟩
 self:=λ_ _ _ _ _ st h=>wpAny_pyIter_listiter st h
def zu{P:Program}{w:World}{K:W.Frag}{tg:Expr}(a it:Addr):Turn P w K tg (Itt K a) [it] it λi h=>h.IsTupleIter it a i where
 mem:=by simp
 obj:=λi h st b hb=>by
  have e:b=it:=by simpa using hb
  subst e;obtain⟨o,e,c,d⟩:=st;exact⟨o,e,λv z=>by rw[d]at z;cases z⟩
 keep:=λi h h' st k=>st.at λo e=>k it (by simp) o e;item:=by intro X hP hw hK i pins s σ H E hc I hf st hg;subst hP hw hK;obtain⟨xs,x,hq,hx⟩:=hg;obtain⟨its,rv,p,hz⟩:=I.tuple hq;obtain⟨u,hu,ru⟩:=rv.get hx;obtain⟨f0,f1,f2,f3,f4,f5⟩:=hf it (by simp);refine wpAny_pyNext_tuple_item st (show s.heap.IsTuple a its.toArray from p) (x:=u) (by simpa using hu) λh' st' sb=>?_;have I1:Inv X pins σ H {s with heap:=h'}:=I.turned (t':=s.toks) (λb o hb e=>(sb.2 b hb).trans e) f0 f1 f3 f4 f5;obtain⟨o,e,c,d⟩:=id st';exact⟨u,rfl,aap (s:={s with heap:=h'}) e c d (by decide) ⟨x,H,I1,ru,⟨rfl,λys hy=>by rw[I.sy hy hq];exact hx⟩,st',λb hb=>(hf b hb).1⟩⟩
 done:=by intro X hP hw hK i pins s σ H E hc I hf st hg;subst hP hw hK;obtain⟨xs,hq,hx⟩:=hg;obtain⟨its,rv,p,hz⟩:=I.tuple hq;obtain⟨f0,f1,f2,f3,f4,f5⟩:=hf it (by simp);have hl:=rv.length;exact wpAny_pyNext_tuple_end (I.ok.hd hc) st (show s.heap.IsTuple a its.toArray from p) (by simp;omega) λh' eb=>⟨rfl,I.turned (t':=s.toks) (λb o hb e=>eb b o hb e) f0 f1 f3 f4 f5⟩
 self:=λ_ _ _ _ _ st h=>wpAny_pyIter_tupleiter st h
def zw{P:Program}{w:World}{K:W.Frag}{tg:Expr}(it:Addr)(lo:Int)(n:Nat):Turn P w K tg (Itr lo n) [it] it λi h=>IsRangeIter h it (lo+(i:Nat)*1) ((n:Int)-(i:Nat)) 1 where
 mem:=by simp
 obj:=λi h st b hb=>by
  have e:b=it:=by simpa using hb
  subst e;exact⟨_,st,λv z=>by have z':Data.fields _=Data.cell v:=z;cases z'⟩
 keep:=λi h h' st k=>k it (by simp) _ st;item:=by intro X hP hw hK i pins s σ H E hc I hf st hg;subst hP hw hK;obtain⟨f0,f1,f2,f3,f4,f5⟩:=hf it (by simp);have W:=Walks.range (prog:=X.prog) (w:=X.w) (I.ok.hd hc) it lo 1 n;refine W.item i s _ _ hg st λv h' tk hv st' kk=>?_;obtain⟨t,rfl⟩:=hv;have I1:Inv X pins σ H {s with heap:=h',toks:=tk}:=I.turned (λb o hb e=>kk b o (by simpa using hb) e) f0 f1 f3 f4 f5;refine⟨_,rfl,aap (s:={s with heap:=h',toks:=tk}) (n:="range_iterator") st' rfl rfl (by decide) ⟨.int (lo+i),H,I1,⟨t,?_⟩,⟨rfl,rfl⟩,st',λb hb=>(hf b hb).1⟩⟩;rw[Int.mul_one]
 done:=by intro X hP hw hK i pins s σ H E hc I hf st hg;subst hP hw hK;obtain⟨f0,f1,f2,f3,f4,f5⟩:=hf it (by simp);exact wpAny_pyNext_range_end (I.ok.hd hc) st (by have:n<=i:=hg;omega) λh' eb=>⟨rfl,I.turned (t':=s.toks) (λb o hb e=>eb b o hb e) f0 f1 f3 f4 f5⟩
 self:=λ_ _ _ _ _ st h=>wpAny_pyIter_rangeiter st h
section
variable{X:Cx}{tg:Expr}
def ya{pins}{σ:St}{H s R E lo a t u v tk}(I:Inv X pins σ H s)(f:-2^62<=lo)(d:lo<2^62)(k:-2^62<=a)(g:a<2^62)(q:R (Itr lo (a-lo).toNat) H):wpAny (model X.prog X.w) X.A (pyIter (.ref s.heap.objs.size)) (PIE X pins σ tg R) E {s with heap:=s.heap.push {cls:=.type "range",data:=.fields #[.int lo t,.int a u,.int 1 v]},toks:=tk}:=by
 refine wpAny_pyIter_range (IsRange.new ..) (small_one f d k g) ?_;have c:Inv X pins σ H {s with heap:=s.heap.push {cls:=.type "range",data:=.fields #[.int lo t,.int a u,.int 1 v]},toks:=tk}:=I.kept λb o e=>arK _ e;refine⟨_,_,_,_,H,rfl,c.kept (t':=tk) λb o e=>arK _ e,zw _ lo _,?_,λb i=>?_,q⟩
 .have j:lo+((0:Nat):Int)*1=lo:=by simp
  have h:(((a-lo).toNat:Nat):Int)-((0:Nat):Int)=Builtin.Range.rangeSize lo a 1:=by rw[rangeSize_one];split<;>omega
  rw[j,h];exact arW _ rfl
 .have e:b=(s.heap.push {cls:=.type "range",data:=.fields #[.int lo t,.int a u,.int 1 v]}).objs.size:=by simpa using i
  subst e;exact c.aky (arP _) (c.hok.fresh (arP _))
def kN(ta:TA):TI:=λb H R=>ta b H λa c=>∃j:Int,a=[.int j]/\-2^62<=j/\j<2^62/\R (Itr 0 j.toNat) c
def uo(ta:TA):TI:=λb H R=>ta b H λa c=>∃i j:Int,a=[.int i,.int j]/\(-2^62<=i/\i<2^62/\-2^62<=j/\j<2^62)/\R (Itr i (j-i).toNat) c
def acp{a ta p pos}(d:Gl X "range")(f:X.mg "range"=none)(n:PA X [a] ta)(i:starEach [a] X.env=[(false,eval a X.env)]:=by rfl):PI X tg (.Call (.Name "range" p) [a] [] pos) (kN ta):=by intro c s k H R I h;refine Call_ (n9 I d f boot_range (asY (thn (n _ _ s k H _ I h) λu w⟨v,o,g,l,b⟩=>?_) i rfl));obtain⟨j,e,b,m,q⟩:=b;subst e;cases l with|cons r rr=>cases rr;obtain⟨t,rfl⟩:=r;exact call_range_1 (ya g (by omega) (by omega) b m (by grind))
def aco{a b ta p pos}(g:Gl X "range")(l:X.mg "range"=none)(w:PA X [a,b] ta)(z:starEach [a,b] X.env=[(false,eval a X.env),(false,eval b X.env)]:=by rfl)(c:starEach [b] X.env=[(false,eval b X.env)]:=by rfl):PI X tg (.Call (.Name "range" p) [a,b] [] pos) (uo ta):=by intro f s o H R I h;refine Call_ (n9 I g l boot_range (asY (thn (w pos _ s o H _ I h) λy B⟨A,x,m,u,d⟩=>?_) (by grind) (by rw[c];rfl)));obtain⟨i,j,e,⟨d,v,k,n⟩,q⟩:=d;subst e;cases u with|cons r rr=>cases rr with|cons r' rr=>cases rr;obtain⟨t,rfl⟩:=r;obtain⟨C,rfl⟩:=r';exact call_range_2 (ya m d v k n q)
def aqx(wi:TI)(g:TG)(tb:TS):TS:=λD a H=>wi a H λJ f=>∃W:Nat->Nat->St->Hp->Prop,(∃m,W 0 m a f)/\∀i m a H,W i m a H->J.stop i H/\D.nx a H\/J.go i H/\∃N:St->Hp->Prop,(∀b c,N b c->∃e,e<m/\W (i+1) e b c)/\∀x c,J.yld i H x c->g x a c λd h=>tb {D with nx:=N,ct:=N,bk:=D.nx} d h
noncomputable def tL(a:List Addr)(h:Heap):List (Addr×Obj):=a.filterMap λb=>(h.get? b).map λo=>(b,o)
def ig{a h b o}(c:b∈a)(e:h.get? b=some o):(b,o)∈tL a h:=atE.mpr ⟨b,c,by grind⟩
def acF{a h p}(f:p∈tL a h):p.1∈a/\h.get? p.1=some p.2:=by obtain⟨b,c,e⟩:=atE.mp f;cases q:h.get? b with|none=>rw[q]at e;cases e|some o=>rw[q]at e;have d:=asd e;subst d;exact⟨c,q⟩
def Inv.pinned{pins}{σ:St}{H s a}(I:Inv X pins σ H s)(j:∀b∈a,zk X pins H b)(l:∀b∈a,∃o,s.heap.get? b=some o/\∀v,o.data≠.cell v):Inv X (pins++tL a s.heap) σ H s:=I.gZ λp k=>(ass.mp k).elim (λz=>I.pin p (asa _ z)) λz=>by obtain⟨f,e⟩:=acF z;refine anF (j _ f) λg h i _=>?_;refine de (l _ f) λo c d=>?_;rw[e]at c;cases c;exact⟨e,g,h,i,d⟩
def Inv.qI{pins pl}{σ:St}{H s}(I:Inv X (pins++pl) σ H s):Inv X pins σ H s:=I.gZ λp a=>I.pin p (asa _ (asz _ a))
def yd{j z wi g tb pos}(M:PassesOwn (model X.prog X.w) X.A X.env X.xe)(hc:X.calm=true)(hi:PI X tg j wi)(hg:PG X tg g)(q:PSs X z tb)(hs:∀x,foldedSetIterable j X.env x=pure x:=by intro _;rfl):PS X (.For tg j z [] pos) (aqx wi g tb):=by
 intro a s σ H D I h;refine wpAny_For (thn (hi a s σ H _ I h) λv s1 h1=>thn h1 λa0 s2 h2=>?_) hs;obtain⟨it,K,tn,J,H2,e,I2,T,Q,f2,W,⟨m0,w0⟩,turn⟩:=h2;subst e;-- what stays true of the iterator's objects through the loop
 have l:∀{w:Hp},(∀b∈K,w b=none)->∀b∈K,zk X a w b:=λhn b q=>⟨hn b q,(f2 b q).2⟩;refine codeAny_forLoop_any (λn s'=>∃i p w,Inv X a p w s'/\tn i s'.heap/\(∀b∈K,w b=none)/\W i n p w) ?_ m0 (oU 0 σ H2 I2 Q (λb q=>(f2 b q).1) w0);rintro n s3⟨i,k,O,I3,G,C,w3⟩;rcases turn i n k O w3 with⟨E,qn⟩|⟨go,N,hN,step⟩;.refine atm M (thn (T.done X rfl rfl rfl i a s3 k O X.xe hc I3 (l C) G E) λr s4⟨R,I4⟩=>?_);subst R;exact atD ⟨k,O,I4,qn⟩
 .refine atm M (thn (T.item X rfl rfl rfl i a s3 k O X.xe hc I3 (l C) G go) λr s4⟨u,R,h4⟩=>?_);subst R;refine atm M (thn h4 λ_ s5⟨x,H5,I5,r5,y5,B,P⟩=>?_);have S:=I5.pinned (l P) (T.obj _ _ B);refine atm M (thn (hg _ s5 k H5 x u _ S r5 (step x H5 y5)) λ_ s6⟨U,H6,I6,q6⟩=>?_);refine atm M (thn (q _ s6 U H6 _ I6 q6) λf Z A=>?_);have again:∀{c:St}{t:Hp},Inv X (a++tL K s5.heap) c t Z->N c t->∃m,m<n/\∃i p w,Inv X a p w Z/\tn i Z.heap/\(∀b∈K,w b=none)/\W i m p w:=λ{c t}y Y=>by refine de (hN c t Y) λm' hm w7=>?_;refine⟨m',hm,i+1,c,t,y.qI,T.keep _ _ _ B λb q o e=>(y.pin (b,o) (asa _ (asa _ (ig q e)))).1,λb q=>?_,w7⟩;obtain⟨o,e,d⟩:=T.obj _ _ B b q;exact(y.pin (b,o) (asa _ (asa _ (ig q e)))).2.1
  cases f with|next|cont=>obtain⟨c,t,y,Y⟩:=A;exact again y Y|brk=>refine dc A λc t y A=>?_;exact⟨c,t,y.qI,A⟩|ret v=>refine zl A λx7 c t y r7 A=>?_;exact ag1 x7 c t y.qI r7 A
end
abbrev R2:=V->V->Hp->VK->Prop
def OpR(X:Cx)(f:Value->Value->Sem Value)(r:R2):Prop:=∀(a:List (Addr×Obj))(s:Shared)(b:St)(H:Hp)(x y:V)(v u:Value)(Q:VK),Inv X a b H s->RelV x v->RelV y u->r x y H Q->wpAny (model X.prog X.w) X.A (f v u) (EP X a b Q) X.xe s
def UnR(X:Cx)(f:Value->Sem Value)(r:V->Hp->VK->Prop):Prop:=∀(a:List (Addr×Obj))(s:Shared)(b:St)(H:Hp)(x:V)(v:Value)(Q:VK),Inv X a b H s->RelV x v->r x H Q->wpAny (model X.prog X.w) X.A (f v) (EP X a b Q) X.xe s
def bG(X:Cx)(f:Value)(r:List V->Hp->VK->Prop):Prop:=∀(a:List (Addr×Obj))(s:Shared)(b:St)(H:Hp)(d:List V)(c:List Value)(Q:VK),Inv X a b H s->Vals d c->r d H Q->wpAny (model X.prog X.w) X.A (call f c) (EP X a b Q) X.xe s
def tOp(r:R2)(ta tb:TE):TE:=λa H Q=>ta a H λx b=>tb a b λy c=>r x y c Q
def tUn(r:V->Hp->VK->Prop)(ta:TE):TE:=λa H Q=>ta a H λx b=>r x b Q
def rI(C:Int->Int->Prop)(g:Int->Int->V):R2:=λx y H Q=>∃i j,x=.int i/\y=.int j/\C i j/\Q (g i j) H
def rI0(g:Int->Int->V):R2:=λx y H Q=>∃i j,x=.int i/\y=.int j/\Q (g i j) H
def rU(g:Int->V):V->Hp->VK->Prop:=λx H Q=>∃i,x=.int i/\Q (g i) H
section
variable{X:Cx}{a b c:Expr}{ta tb tc:TE}{pos:Pos}
def aqf(r:PE X a ta)(o:PE X b tb){pins s}{σ:St}{H}{R:V->V->Hp->Prop}(I:Inv X pins σ H s)(h:ta σ H λx j=>tb σ j λy d=>R x y d){Q}{f:Value->Value->Sem Value}(m:∀v u i x y d,Inv X pins σ d i->RelV x v->RelV y u->R x y d->wpAny (model X.prog X.w) X.A (f v u) Q X.xe i):wpAny (model X.prog X.w) X.A (eval a X.env) (λv e=>wpAny (model X.prog X.w) X.A (eval b X.env) (λu g=>wpAny (model X.prog X.w) X.A (f v u) Q X.xe g) X.xe e) X.xe s:=by exact thn (r _ s σ H _ I h) λv w⟨x,j,l,n,k⟩=>thn (o _ _ σ _ _ l k) λu i⟨y,d,t,p,q⟩=>m v u _ x y _ t n p q
def ao9{op r}(l:OpR X (binaryOp op) r)(i:PE X a ta)(g:PE X b tb):PE X (.BinOp a op b pos) (tOp r ta tb):=by intro d s f H Q I h;exact wpAny_BinOp (aqf i g I h λv u n x y m k e j q=>l _ _ f _ x y v u Q k e j q)
def ao7{op r}(g:UnR X (unaryOp op) r)(j:PE X a ta):PE X (.UnaryOp op a pos) (tUn r ta):=by intro e s d H Q I h;exact UnaryOp_ (thn (j _ s d H _ I h) λv l⟨x,m,k,f,i⟩=>g _ _ d _ x v Q k f i)
def opI{f C}{g:Int->Int->Int}(rule:∀i j t u s Q E,C i j->Q (.int (g i j) s.toks) {s with toks:=s.toks+1}->wpAny (model X.prog X.w) X.A (f (.int i t) (.int j u)) Q E s):OpR X f (rI C λi j=>.int (g i j)):=by intro k s o H x y v u Q I m n h;refine my h λi j d e l q=>?_;subst d e;obtain⟨t,rfl⟩:=m;obtain⟨p,rfl⟩:=n;exact rule i j t _ s _ _ l (fD (.int _) H (I.tok _) ⟨_,rfl⟩ q)
def aqJ{f}{g:Int->Int->Int}(rule:∀i j t u s Q E,Q (.int (g i j) s.toks) {s with toks:=s.toks+1}->wpAny (model X.prog X.w) X.A (f (.int i t) (.int j u)) Q E s):OpR X f (rI0 λi j=>.int (g i j)):=by intro k s n H x y v u Q I l m h;refine iH h λi j d e q=>?_;subst d e;obtain⟨t,rfl⟩:=l;obtain⟨o,rfl⟩:=m;exact rule i j t _ s _ _ (fD (.int _) H (I.tok _) ⟨_,rfl⟩ q)
def anT{f}{g:Int->Int->Bool}(rule:∀i j t u s Q E,Q (.bool (g i j)) s->wpAny (model X.prog X.w) X.A (f (.int i t) (.int j u)) Q E s):OpR X f (rI0 λi j=>.bl (g i j)):=by intro d s l H x y v u Q I e k h;obtain⟨i,j,rfl,rfl,q⟩:=h;obtain⟨t,rfl⟩:=e;obtain⟨m,rfl⟩:=k;exact rule i j t _ s _ _ ⟨.bl _,H,I,rfl,q⟩
def aqo(i j:Int):Prop:=-2^64<i/\i<2^64\/-2^64<j/\j<2^64
def aqo.ok{i j}(h:aqo i j):IntMulOk i j:=by
 rcases h with⟨e,d⟩|⟨e,d⟩;.exact .of_left (intBits_le_64 e d)
 .exact .of_right (intBits_le_64 e d)
def ama:OpR X (binaryOp .Add) (rI0 λi j=>.int (i+j)):=aqJ λ_ _ _ _ _ _ _ q=>add_int q
def al1:OpR X (binaryOp .Sub) (rI0 λi j=>.int (i-j)):=aqJ λ_ _ _ _ _ _ _ q=>sub_int q
def al3:OpR X (binaryOp .Mult) (rI aqo λi j=>.int (i*j)):=opI λ_ _ _ _ _ _ _ d q=>mul_int q d.ok
def al4:OpR X (binaryOp .Mod) (rI (λ_ j=>0<j) λi j=>.int (i%j)):=opI λi j _ _ _ _ _ d q=>by have e:(0:Int)<j:=d;exact mod_int' (by omega) (by rw[Int.fmod_eq_emod_of_nonneg i (by omega)];exact q)
def unI{f}{g:Int->Int}(rule:∀i t s Q E,Q (.int (g i) s.toks) {s with toks:=s.toks+1}->wpAny (model X.prog X.w) X.A (f (.int i t)) Q E s):UnR X f (rU λi=>.int (g i)):=by intro d s j H x v Q I e h;obtain⟨i,rfl,q⟩:=h;obtain⟨t,rfl⟩:=e;exact rule i t s _ _ ⟨.int _,H,I.tok _,⟨_,rfl⟩,q⟩
def ak9:UnR X (unaryOp .USub) (rU λi=>.int (-i)):=unI λ_ _ _ _ _ q=>neg_int q
end
noncomputable def aoP:V->V->Bool|.non,.non=>true|.non,.int _=>true|.int _,.non=>true|.non,.bl _=>true|.bl _,.non=>true|.non,.str _=>true|.str _,.non=>true|.int _,.int _=>true|.bl _,.bl _=>true|.str _,.str _=>true|.byt _,.byt _=>true|.int _,.str _=>true|.str _,.int _=>true|.bl _,.str _=>true|.str _,.bl _=>true|_,_=>false
def rEq:R2:=λx y H Q=>aoP x y=true/\Q (.bl (decide (x=y))) H
def rNe:R2:=λx y H Q=>aoP x y=true/\Q (.bl !decide (x=y)) H
def wQ{i j:Int}:decide (V.int i=V.int j)=(i==j):=by rw[asq];simp
def adZ{i j:Bool}:decide (V.bl i=V.bl j)=(i==j):=by rw[asq];simp
def wO{i j:Str}:decide (V.str i=V.str j)=(i==j):=by rw[asq];simp
def adY{i j}:decide (V.byt i=V.byt j)=(i.toList==j.toList):=by rw[asq];cases i;cases j;simp
section
variable{X:Cx}{a b c:Expr}{ta tb tc:TE}{pos:Pos}
def ba{pins}{σ:St}{H s Q k k'}(I:Inv X pins σ H s)(q:Q (.bl k) H)(e:k=k'):EP X pins σ Q (.bool k') s:=by subst e;exact⟨.bl k,H,I,rfl,q⟩
def apg:OpR X (compareOp .Eq) rEq:=by intro k s l H x y v u Q I g d h;obtain⟨f,q⟩:=h;cases x with
|non=>cases g;cases y with|non=>cases d;exact PySem.EqNone.eq_none_none (ba I q (by simp))|bl j=>cases d;exact PySem.EqNone.eq_none_bool (ba I q (by simp))|int j=>obtain⟨e,rfl⟩:=d;exact PySem.EqNone.eq_none_int (ba I q (by simp))|str j=>obtain⟨e,rfl⟩:=d;exact PySem.EqNone.eq_none_str (ba I q (by simp))|_=>exact absurd (show false=true from f) ar2
|bl i=>cases g;cases y with|non=>cases d;exact PySem.EqNone.eq_bool_none (ba I q (by simp))|bl j=>cases d;exact eq_bool (ba I q adZ)|str j=>obtain⟨e,rfl⟩:=d;exact PySem.EqMixed.eq_bool_str (ba I q (by simp))|_=>exact absurd (show false=true from f) ar2
|int i=>obtain⟨t,rfl⟩:=g;cases y with|non=>cases d;exact PySem.EqNone.eq_int_none (ba I q (by simp))|int j=>obtain⟨e,rfl⟩:=d;exact eq_int (ba I q wQ)|str j=>obtain⟨e,rfl⟩:=d;exact PySem.EqMixed.eq_int_str (ba I q (by simp))|_=>exact absurd (show false=true from f) ar2
|str i=>obtain⟨t,rfl⟩:=g;cases y with|non=>cases d;exact PySem.EqNone.eq_str_none (ba I q (by simp))|bl j=>cases d;exact PySem.EqMixed.eq_str_bool (ba I q (by simp))|int j=>obtain⟨e,rfl⟩:=d;exact PySem.EqMixed.eq_str_int (ba I q (by simp))|str j=>obtain⟨e,rfl⟩:=d;exact eq_str (ba I q wO)|_=>exact absurd (show false=true from f) ar2
|byt i=>obtain⟨t,rfl⟩:=g;cases y with|byt j=>obtain⟨e,rfl⟩:=d;exact W.eq_bytes (ba I q adY)|_=>exact absurd (show false=true from f) ar2
|_=>cases y<;>exact absurd (show false=true from f) ar2
def apb:OpR X (compareOp .NotEq) rNe:=by intro k s l H x y v u Q I g d h;obtain⟨f,q⟩:=h;cases x with
|non=>cases g;cases y with|non=>cases d;exact PySem.EqNone.ne_none_none (ba I q (by simp))|bl j=>cases d;exact PySem.EqNone.ne_none_bool (ba I q (by simp))|int j=>obtain⟨e,rfl⟩:=d;exact PySem.EqNone.ne_none_int (ba I q (by simp))|str j=>obtain⟨e,rfl⟩:=d;exact PySem.EqNone.ne_none_str (ba I q (by simp))|_=>exact absurd (show false=true from f) ar2
|bl i=>cases g;cases y with|non=>cases d;exact PySem.EqNone.ne_bool_none (ba I q (by simp))|bl j=>cases d;exact ne_bool (ba I q (ats not adZ))|str j=>obtain⟨e,rfl⟩:=d;exact PySem.EqMixed.ne_bool_str (ba I q (by simp))|_=>exact absurd (show false=true from f) ar2
|int i=>obtain⟨t,rfl⟩:=g;cases y with|non=>cases d;exact PySem.EqNone.ne_int_none (ba I q (by simp))|int j=>obtain⟨e,rfl⟩:=d;exact ne_int (ba I q (ats not wQ))|str j=>obtain⟨e,rfl⟩:=d;exact PySem.EqMixed.ne_int_str (ba I q (by simp))|_=>exact absurd (show false=true from f) ar2
|str i=>obtain⟨t,rfl⟩:=g;cases y with|non=>cases d;exact PySem.EqNone.ne_str_none (ba I q (by simp))|bl j=>cases d;exact PySem.EqMixed.ne_str_bool (ba I q (by simp))|int j=>obtain⟨e,rfl⟩:=d;exact PySem.EqMixed.ne_str_int (ba I q (by simp))|str j=>obtain⟨e,rfl⟩:=d;exact ne_str (ba I q (ats not wO))|_=>exact absurd (show false=true from f) ar2
|byt i=>obtain⟨t,rfl⟩:=g;cases y with|byt j=>obtain⟨e,rfl⟩:=d;exact W.ne_bytes (ba I q (ats not adY))|_=>exact absurd (show false=true from f) ar2
|_=>cases y<;>exact absurd (show false=true from f) ar2
def apc:OpR X (compareOp .Lt) (rI0 λi j=>.bl (decide (i<j))):=anT λ_ _ _ _ _ _ _ q=>lt_int q
def apd:OpR X (compareOp .LtE) (rI0 λi j=>.bl (decide (i<=j))):=anT λ_ _ _ _ _ _ _ q=>le_int q
def ape:OpR X (compareOp .Gt) (rI0 λi j=>.bl (decide (j<i))):=anT λ_ _ _ _ _ _ _ q=>gt_int q
def apf:OpR X (compareOp .GtE) (rI0 λi j=>.bl (decide (j<=i))):=anT λ_ _ _ _ _ _ _ q=>ge_int q
def acz:OpR X (compareOp .In) λx y H Q=>∃i j,x=.str i/\y=.str j/\Q (.bl !(Builtin.Str.occurrences j i 0 j.length 1).isEmpty) H:=by intro d s g H x y v u Q I e f h;obtain⟨i,j,rfl,rfl,q⟩:=h;obtain⟨t,rfl⟩:=e;obtain⟨k,rfl⟩:=f;exact in_str (ba I q rfl)
def al5:OpR X (compareOp .Is) λx y H Q=>y=.non/\Q (.bl (decide (x=.non))) H:=by intro d s g H x y v u Q I e f h;obtain⟨rfl,q⟩:=h;cases f;refine is_none_gen (ba I q ?_);cases x<;>(obtain⟨t,rfl⟩:=e;rfl)
def aje:OpR X (compareOp .IsNot) λx y H Q=>y=.non/\Q (.bl !decide (x=.non)) H:=by intro d s g H x y v u Q I e f h;obtain⟨rfl,q⟩:=h;cases f;refine isnot_none_gen (ba I q ?_);cases x<;>(obtain⟨t,rfl⟩:=e;rfl)
def OpR.or{f r e}(h:OpR X f r)(h':OpR X f e):OpR X f λx y H Q=>r x y H Q\/e x y H Q:=by
 intro j s d H x y v u Q I g i q;rcases q with q|q;.exact h _ s d H x y v u Q I g i q
 .exact h' _ s d H x y v u Q I g i q
def aT(b){op}(h:op≠.In:=by decide)(d:op≠.NotIn:=by decide):behindInMarks op b=false:=af5 b h d
def aja{op r}(m:OpR X (compareOp op) r)(j:PE X a ta)(i:PE X b tb)(f:behindInMarks op b=false):PE X (.Compare a [op] [b] pos) (tOp r ta tb):=by intro d s g H Q I h;exact wpAny_Compare1 (aqf j i I h λv u o x y n l e k q=>m _ _ g _ x y v u Q l e k q) f
def afv(t:TE):TT:=λd H Q=>t d H λx e=>∃k,x=.bl k/\Q k e
def acd{op r}(C:OpR X (compareOp op) r)(A:PE X a ta)(t:PE X b tb)(l:behindInMarks op b=false):PT X (.Compare a [op] [b] pos) (afv (tOp r ta tb)):=by intro f s d H Q I h;refine wpAny_isTrue_Compare1 (thn (A _ s d H _ I h) λv G⟨x,D,m,n,i⟩=>thn (t _ _ d _ _ m i) λu J⟨y,E,B,q,w⟩=>thn (C _ _ d _ x y v u _ B n q w) λc K⟨z,p,g,o,k,e,j⟩=>?_) l;subst e;cases o;exact asI ⟨p,g,j⟩
def abA(r g:R2)(ta tb tc:TE):TE:=λd H Q=>ta d H λx f=>tb d f λy h=>r x y h λz e=>∃k,z=.bl k/\if k=true then tc d e λj i=>g y j i Q else Q (.bl false) e
def afS{op g r m}(P:OpR X (compareOp op) r)(j:OpR X (compareOp g) m)(K:PE X a ta)(E:PE X b tb)(R:PE X c tc)(A:lastMarks [op,g] [b,c]=false:=by with_unfolding_all rfl):PE X (.Compare a [op,g] [b,c] pos) (abA r m ta tb tc):=by intro f s i H Q I h;refine Compare_chain (thn (K _ s i H _ I h) λv Z⟨x,S,Y,D,w⟩=>chain_link (thn (E _ Z i S _ Y w) λu s2⟨y,U,O,p,G⟩=>thn (P _ s2 i U x y v u _ O D p G) λd J⟨z,o,n,r3,k,e,l⟩=>?_)) A;subst e;cases r3;refine asI ?_;cases k with|false=>exact ite_ff ⟨.bl _,o,n,rfl,l⟩|true=>exact ite_tt (chain_last (thn (R f J i o _ n l) λC q⟨M,N,T,t,B⟩=>j f q i N y M u C Q T p t B))
def afJ{op g r m}(R:OpR X (compareOp op) r)(j:OpR X (compareOp g) m)(M:PE X a ta)(G:PE X b tb)(S:PE X c tc)(B:lastMarks [op,g] [b,c]=false:=by with_unfolding_all rfl):PT X (.Compare a [op,g] [b,c] pos) (afv (abA r m ta tb tc)):=by intro f s i H Q I h;refine isTrue_chain (thn (M f s i H _ I h) λv s1⟨x,T,I1,E,A⟩=>test_link (thn (G _ s1 i T _ I1 A) λu s2⟨y,Y,O,p,J⟩=>thn (R _ s2 i Y x y v u _ O E p J) λd K⟨z,o,n,r3,k,e,l⟩=>?_)) B;subst e;cases r3;refine asI ?_;cases k with|false=>obtain⟨k',e',Z⟩:=l;cases e';exact ite_ff ⟨o,n,Z⟩|true=>refine ite_tt (test_last (thn (S _ K i o _ n l) λD t⟨P,N,U,w,C⟩=>thn (j f t i N y P u D _ U p w C) λd' s5⟨z2,H5,I5,q,k2,e2,q5⟩=>?_));subst e2;cases q;exact asI ⟨H5,I5,q5⟩
def ue:sizeLine<2^63:=by decide
def vals1{x us}(r:Vals [x] us):∃u,us=[u]/\RelV x u:=by cases r with|cons r1 r2=>cases r2;exact⟨_,rfl,r1⟩
def vals2{x y us}(r:Vals [x,y] us):∃u d,us=[u,d]/\RelV x u/\RelV y d:=by cases r with|cons r1 r2=>cases r2 with|cons r3 r4=>cases r4;exact⟨_,_,rfl,r1,r3⟩
def agT:bG X (.builtin "abs") λd H Q=>∃i,d=[.int i]/\Q (.int (if i<0 then -i else i)) H:=by intro e s g H d f Q I r h;obtain⟨i,rfl,q⟩:=h;obtain⟨u,rfl,t,rfl⟩:=vals1 r;exact call_abs_int λu tk=>fD (.int _) H (I.tok _) ⟨_,rfl⟩ q
def aew(l:X.calm=true):bG X (.builtin "max") λf H Q=>∃i j,f=[.int i,.int j]/\Q (.int (if j>i then j else i)) H:=by
 intro g s p H f m Q I r h;refine dc h λi j e q=>?_;subst e;obtain⟨u,o,rfl,⟨t,rfl⟩,⟨v,rfl⟩⟩:=vals2 r;refine max_two_ints (I.ok.hd l) λn tk k=>fD _ H (I.kept k) ?_ q;by_cases d:j>i;.rw[arM d,arM d];exact⟨_,rfl⟩
 .rw[arO d,arO d];exact⟨_,rfl⟩
end
structure ObjM(h:Heap)(x dx C:Addr)(mA:Str->Option Value):Prop where
 obj:h.get? x=some (W.instObj C dx)ns:h.Ns1 dx mA
 ne:dx≠x
def ac1{h:Heap}{dx d}(n:h.Ns1 dx d):∃od,h.get? dx=some od/\∀b,W.lookIn b od=some (d b):=by
 refine akK n λo f p m g l _ i=>?_;refine⟨o,m,λb=>?_⟩;have e:=i b;unfold nsFind findBy at e;rw[<-auZ]at e;unfold W.lookIn;rw[g];dsimp ;split;.rename_i y q;rw[q]at e;exact ats _ e
 .rename_i q;rw[q]at e;have a:f.toList.any (·.refKey)=false:=by rw[List.any_eq_false];intro y k;obtain⟨z,t,c⟩:=l y (Array.mem_toList_iff.mp k);simp[DictEntry.refKey,c]
  have j:¬f.toList.any (·.refKey)=true:=by grind
  rw[arO j];exact ats _ e
def ObjM.look{h x dx C b}(I:ObjM h x dx C b):∃od,W.InstAt h x (W.instObj C dx) C (some od)/\∀a,W.lookIn a od=some (b a):=let⟨od,d,c⟩:=ac1 I.ns;⟨od,⟨I.obj,rfl,rfl,d⟩,c⟩
section
variable{prog:Program}{w:World}{A:Around}{E:Value->Shared->Prop}{s:Shared}{K:W.Frag}{x dx C f:Addr}{mA:Str->Option Value}{name:Str}{v:Value}
def get_map{a Q}(X:K.In s.heap)(I:ObjM s.heap x dx C mA)(c:W.plainGet K C name=true)(d:W.hasDictIn K C=true)(e:W.findIn K (.ref C) name=some none)(g:mA name=some v)(b:W.handedIn v=true)(h:Q v {s with toks:=s.toks+1}):wpAny (model prog w) A (getAttr (.ref x) name a) Q E s:=by obtain⟨od,J,i⟩:=I.look;exact W.get_value X J (W.plainGet_of c).1 (W.findObj_own d e rfl (by grind)) b h
def agz{pl Q}(X:K.In s.heap)(I:ObjM s.heap x dx C mA)(a:W.plainGet K C name=true)(e:W.findIn K (.ref C) name=some (some (.ref f)))(d:W.isFn K (.ref f)=true)(b:mA name=none)(h:Q (.ref f,[.ref x]) s):wpAny (model prog w) A (getMethod (.ref x) name pl) Q E s:=by obtain⟨od,J,c⟩:=I.look;exact W.method_fn X J (W.plainGet_of a).1 (W.plainGet_of a).2 e (atj.mp d) (by show(W.lookIn _ _).map _=some _;rw[c,b];rfl) h
def aiL{ns Q}(X:K.In s.heap)(I:ObjM s.heap x dx C mA)(o:W.findIn K (.ref C) "__setattr__"=some (some (.builtin "object.__setattr__")))(t:W.plainOver K C=true)(p:W.takerIn K C name=some none)(m:W.hasDictIn K C=true)(hw:PySem.Within mA ns)(hsz:ns.length<=sizeLine)(h:∀e,ObjM e x dx C (λy=>if y=name then some v else mA y)->Heap.SameBut dx s.heap e->Q () {s with heap:=e,toks:=s.toks+2}):wpAny (model prog w) A (setAttr (.ref x) name v) Q E s:=by refine de I.look λod J z=>?_;refine W.set_plain X J o (W.osa_open (s:={s with toks:=s.toks+1}) (r:=none) X J t p λb=>?_);refine de (W.any_some m) λB l j=>?_;refine arJ (arR (arJ (arJ (avI I.obj (arJ (W.Looks.here (au7 X l) ?_))))));rw[j];refine arR (a:=some dx) (arJ (arR (arJ ?_)));refine wpAny_nsSet1 I.ns λe d c=>?_;refine zl (d.count (avb name v hw)) λu n q k i g=>?_;refine arJ (avo k (by rw[i];exact avp (arU g (by rw[ar1];omega))) ?_);exact arR (h _ ⟨(c.2 _ (arY I.ne)).trans I.obj,d,I.ne⟩ c)
def aga{R vs a}(X:K.In s.heap)(b:W.makesIn K C=true)(d:W.findIn K (.ref C) "__init__"=some (some (.ref f)))(c:W.typeIn K (.ref f)=some (.type "function"))(h:codeAny (model prog w) (A.under (.builtin "type.__call__" ⟨.ref C::vs,a⟩)) (.call (.ref f) ⟨.ref (s.heap.objs.size+1)::vs,a⟩) (W.InitBack (s.heap.objs.size+1) R) {s with heap:=(s.heap.push W.emptyDict).push (W.instObj C s.heap.objs.size)}):codeAny (model prog w) A (.call (.ref C) ⟨vs,a⟩) R s:=by exact W.make_core (W.makes_of X b) (W.looks_findIn X d) (λself=>W.bind_fn X _ c) (.inl rfl) h
end
noncomputable def qX(f:Str)(v:V):List (Str×V)->List (Str×V)|[]=>[(f,v)]|(g,x)::r=>if g=f then(g,v)::r else(g,x)::qX f v r
theorem n6(f g)(v):∀fs,(qX f v fs).lookup g=if g=f then some v else fs.lookup g
|[]=>by
 show List.lookup g [(f,v)]=_;by_cases h:g=f;.simp only[List.lookup,atj.mpr h,arM h]
 .simp only[List.lookup,asH.mpr h,arO h]|(k,x)::r=>by
  have b:=n6 f g v r;rw[show qX f v ((k,x)::r)=if k=f then(k,v)::r else(k,x)::qX f v r from rfl];by_cases a:k=f
  .rw[arM a];by_cases h:g=k;.have c:(g==k)=true:=atj.mpr h;simp only[List.lookup,c,arM (h.trans a)]
   .simp only[List.lookup,asH.mpr h,arO λe:g=f=>h (e.trans a.symm)]
  .rw[arO a];by_cases h:g=k;.simp only[List.lookup,atj.mpr h,arO λe:g=f=>a (h.symm.trans e)]
   .simp only[List.lookup,asH.mpr h];exact b
theorem oi(f)(v):∀fs,f∈(qX f v fs).map (·.1)/\∀g,g∈fs.map (·.1)->g∈(qX f v fs).map (·.1)
|[]=>⟨by simp[qX],λg h=>by simp at h⟩|(k,x)::r=>by
  obtain⟨c,b⟩:=oi f v r;rw[show qX f v _=if k=f then(k,v)::r else(k,x)::qX f v r from rfl];by_cases a:k=f;.subst a;exact⟨by simp,λg h=>by simpa using h⟩
  .rw[arO a];refine⟨?_,λg h=>?_⟩;.exact asp _ c
   .rcases ar4.mp h with e|e;.exact ar4.mpr (.inl e)
    .exact asp _ (b g e)
theorem n8(f)(v):∀fs,(qX f v fs).length<=fs.length+1
|[]=>by simp[qX]|(k,x)::r=>by
 have b:=n8 f v r;rw[show qX f v _=if k=f then(k,v)::r else(k,x)::qX f v r from rfl];by_cases a:k=f;.rw[arM a,ar1,ar1];omega
 .rw[arO a,ar1,ar1];omega
def xC.some_of{v o}(r:xC (some v) o):∃u,o=some u/\RelV v u:=by cases o with|none=>exact(r).elim|some u=>exact⟨u,rfl,r⟩
def xC.none_of{o}(r:xC none o):o=none:=by cases o with|none=>rfl|some u=>exact(r).elim
def adu{v u}(r:RelV v u):W.handedIn u=true:=by cases v with|non|bl b=>cases r;rfl|int i|str x|byt b|flt b=>obtain⟨t,e⟩:=r;cases e;rfl|ref a|ty n=>cases r;rfl
section
variable{P:Program}{w:World}{H H':Hp}{h h':Heap}{a C dx:Addr}{fs fs':List (Str×V)}
def rB(c:HOk P w H h)(e:H a=some (.ins C dx fs)):∃b,ObjM h a dx C b/\(∀f,xC (fs.lookup f) (b f))/\PySem.Within b (fs.map (·.1))/\fs.length<=1000/\H dx=some (.own a):=by obtain⟨d,z,g,ob,b,n,r,q⟩:=c a _ e;exact⟨b,⟨ob,n,g⟩,r,q,z,d⟩
end
structure Cls(K:W.Frag)(C:Addr):Prop where
 pg:W.plainGet K C Str.empty=true
 hd:W.hasDictIn K C=true
 po:W.plainOver K C=true
 sa:W.findIn K (.ref C) "__setattr__"=some (some (.builtin "object.__setattr__"))
def Cls.get{K C}(c:Cls K C)(f):W.plainGet K C f=true:=c.pg
def aW(K:W.Frag)(C:Addr)(f:Str):Prop:=W.findIn K (.ref C) f=some none
def aW.aoC{K C f}(n:aW K C f):W.takerIn K C f=some none:=by unfold W.takerIn;rw[n];rfl
structure Meth(K:W.Frag)(C:Addr)(m:Str)(f:Addr):Prop where
 at_:W.findIn K (.ref C) m=some (some (.ref f))fn:W.isFn K (.ref f)=true
 kp:W.keepIn K (.ref f)=true
section
variable{X:Cx}{pins:List (Addr×Obj)}{σ:St}{H:Hp}{s:Shared}{a C dx:Addr}{fs:List (Str×V)}{f:Str}{v:V}{A:Around}{E:Value->Shared->Prop}
def aaq{b Q}(I:Inv X pins σ H s)(e:H a=some (.ins C dx fs))(c:Cls X.K C)(n:aW X.K C f)(l:fs.lookup f=some v)(h:∀u g,Inv X pins σ H g->RelV v u->Q u g):wpAny (model X.prog X.w) A (getAttr (.ref a) f b) Q E s:=by obtain⟨i,O,r,_,_,_⟩:=rB I.hok e;obtain⟨u,j,d⟩:=xC.some_of (v:=v) (o:=i f) (by grind);exact get_map I.kIn O (c.get f) c.hd n j (adu d) (h u _ (I.tok _) d)
def qo{m g pl Q}(I:Inv X pins σ H s)(e:H a=some (.ins C dx fs))(c:Cls X.K C)(k:Meth X.K C m g)(l:fs.lookup m=none)(h:Q (.ref g,[.ref a]) s):wpAny (model X.prog X.w) A (getMethod (.ref a) m pl) Q E s:=by obtain⟨b,O,r,_,_,_⟩:=rB I.hok e;exact agz I.kIn O (c.get m) k.at_ k.fn (xC.none_of (by grind)) h
def zH{y u Q}(I:Inv X pins σ H s)(e:H a=some (.ins C dx fs))(c:Cls X.K C)(n:aW X.K C f)(K:fs.length<1000)(J:RelV y u)(h:∀j,Inv X pins σ (upd H a (.ins C dx (qX f y fs))) j->Q () j):wpAny (model X.prog X.w) A (setAttr (.ref a) f u) Q E s:=by
 obtain⟨B,O,r,i,_,k⟩:=rB I.hok e;have p:(fs.map (·.1)).length<=sizeLine:=by rw[ar7,at0];omega
 refine aiL I.kIn O c.sa c.po n.aoC c.hd i p λw d G=>h _ ?_;have m:∃o,w.get? dx=some o:=let⟨o,_,_,t,_⟩:=d.ns;⟨o,t⟩;refine I.write (x:=a) (e:=dx) (by rw[e];exact True.intro) (.inr k) (λb q D z=>(G.2 b D).trans z) m ⟨by rw[ag O.ne];exact k,?_,O.ne,d.obj,_,d.ns,λg=>?_,λg l=>?_⟩;.have:=n8 f y fs;omega
 .rw[n6];by_cases q:g=f;.rw[arM q,arM q];exact J
  .rw[arO q,arO q];exact r g
 .by_cases q:g=f;.rw[q];exact(oi f y fs).1
  .refine(oi f y fs).2 g (i g λz=>l ?_);show(if g=f then some u else B g)=none;rw[arO q];exact z
def Inv.made(I:Inv X pins σ H s):Inv X pins σ (upd (upd H s.heap.objs.size (.own (s.heap.objs.size+1))) (s.heap.objs.size+1) (.ins C s.heap.objs.size [])) {s with heap:=(s.heap.push W.emptyDict).push (W.instObj C s.heap.objs.size)}:=by
 have c:(s.heap.push W.emptyDict).get? s.heap.objs.size=some W.emptyDict:=arW s.heap rfl;have g:=by have:=arW (s.heap.push W.emptyDict) (o:=W.instObj C s.heap.objs.size) rfl;rwa[aui]at this
 have j:=I.laid (o:=.own (s.heap.objs.size+1)) (t':=s.toks) (λb u q=>arK _ q) (arP _) ⟨_,c⟩;refine j.laid  (λb u q=>arK _ q) (auL (aui _ _)) ?_;have d:s.heap.objs.size≠s.heap.objs.size+1:=ar0 (att _);refine⟨by rw[ag d,ao],asr _,d,g,_,(avc (oU W.emptyDict #[] _ c rfl (λe h=>absurd h (by simp)) λ_=>rfl)).at λo q=>arK _ q,λ_=>True.intro,λy i=>absurd rfl i⟩
def akd{prog w b e f pos s Q}(d:attributeBase e f b (eval e b)=eval e b)(h:wpAny (model prog w) A (eval e b) (λo c=>wpAny (model prog w) A (getAttr o f true) Q E c) E s):wpAny (model prog w) A (eval (.Attribute e f pos) b) Q E s:=Attribute_any_ h (by rw[arm_eval_Attribute,d])
end
def alk(K:W.Frag)(ta:TE)(f:Str):TE:=λc H Q=>ta c H λx b=>∃a C d fs v,x=.ref a/\b a=some (.ins C d fs)/\Cls K C/\aW K C f/\fs.lookup f=some v/\Q v b
def alw(K:W.Frag)(ta tv:TE)(f:Str):TS:=λD b H=>tv b H λy e=>ta b e λx c=>∃a C d fs,x=.ref a/\c a=some (.ins C d fs)/\Cls K C/\aW K C f/\fs.length<1000/\D.nx b (upd c a (.ins C d (qX f y fs)))
section
variable{X:Cx}{o e value:Expr}{f:Str}{pos pos' tpos:Pos}{ta tv:TE}
def nJ(r:PE X e ta)(p:attributeBase e f X.env (eval e X.env)=eval e X.env):PE X (.Attribute e f pos) (alk X.K ta f):=by intro b s m H Q I h;refine akd p (thn (r _ s m H _ I h) λu w⟨x,d,j,g,a,C,A,fs,v,ex,k,c,n,l,q⟩=>?_);subst ex;obtain rfl:=g;exact aaq j k c n l λy z t i=>⟨v,d,t,i,q⟩
def tK(m:PE X o ta)(v:PE X value tv)(i:swapsWith value (some (.Attribute o f pos')) pos.line X.env=pure false):PS X (.Assign [.Attribute o f pos'] value pos) (alw X.K ta tv f):=by intro d s b H D I h;refine atz (thn (v _ s b H _ I h) λu G⟨y,B,t,w,q⟩=>thn (m _ _ b _ _ t q) λz J⟨x,E,p,g,a,C,K,fs,ex,j,c,n,l,k⟩=>?_) i;subst ex;obtain rfl:=g;exact zH p j c n l w λA r=>⟨b,_,r,k⟩
end
section
variable{X:Cx}{pins:List (Addr×Obj)}{σ:St}{H:Hp}{s:Shared}{A:Around}{E:Value->Shared->Prop}{Q:Value->Shared->Prop}{c:Value}{b:Bool}
inductive TyOf(K:W.Frag)(H:Hp):V->Value->Prop where|non:TyOf K H .non (.type "NoneType")|bl(x:Bool):TyOf K H (.bl x) (.type "bool")|int(i:Int):TyOf K H (.int i) (.type "int")|str(x:Str):TyOf K H (.str x) (.type "str")|flt(x:UInt64):TyOf K H (.flt x) (.type "float")|lst{a:Addr}{xs:List V}(e:H a=some (.lst xs)):TyOf K H (.ref a) (.type "list")|frz{a:Addr}{o:Obj}{xs:List V}(e:H a=some (.frz o (.lst xs))):TyOf K H (.ref a) (.type "list")|tup{a:Addr}{xs:List V}(e:H a=some (.tup xs)):TyOf K H (.ref a) (.type "tuple")|dK{a:Addr}{kvs:List (Key×V)}(e:H a=some (.dK kvs)):TyOf K H (.ref a) (.type "dict")|dT{a:Addr}{kvs:List (List Key×V)}(e:H a=some (.dT kvs)):TyOf K H (.ref a) (.type "dict")|ins{a C dx:Addr}{fs:List (Str×V)}(e:H a=some (.ins C dx fs))(cl:Cls K C)(ha:W.findIn K (.ref C) "__class__"=some (some (.builtin "object.__class__")))(hn:W.specialIn K (.builtin "object.__class__") "__get__"=some (some (.builtin "getset_descriptor.__get__")))(htk:W.takesIn K (.builtin "object.__class__")=some true)(hm:W.mroIn K C (.type "object")=some true):TyOf K H (.ref a) (.ref C)
def adj{x u t}(I:Inv X pins σ H s)(d:RelV x u)(ty:TyOf X.K H x t)(e:W.kitOne X.K t c=some b)(h:∀tk,Q (.bool b) {s with toks:=tk}):wpAny (model X.prog X.w) A (call (.builtin "isinstance") [u,c]) Q E s:=by cases ty with|non=>cases show u=Value.none from d;exact as8 W.kitx_none I.kIn True.intro e (λz=>nomatch z) h|bl y=>cases show u=Value.bool y from d;exact as8 W.kitx_bool I.kIn True.intro e (λz=>nomatch z) h|int i=>obtain⟨t,q⟩:=show∃t,u=Value.int i t from d;cases q;exact as8 W.kitx_int I.kIn True.intro e (λz=>nomatch z) h|str y=>obtain⟨t,q⟩:=show∃t,u=Value.str y t from d;cases q;exact as8 W.kitx_str I.kIn True.intro e (λz=>nomatch z) h|flt y=>obtain⟨t,q⟩:=show∃t,u=Value.float y t from d;cases q;exact as8 W.kitx_float I.kIn True.intro e (λz=>nomatch z) h|@lst a j ea=>cases show u=Value.ref a from d;obtain⟨_,_,n,_,f⟩:=I.hok a _ ea;exact as8 W.kitx_list I.kIn ⟨_,f,rfl⟩ e (λz=>nomatch z) h|@frz a ob j ea=>cases show u=Value.ref a from d;obtain⟨_,_,_,n,_,f⟩:=I.hok a _ ea;exact as8 W.kitx_list I.kIn ⟨_,f,rfl⟩ e (λz=>nomatch z) h|@tup a j ea=>cases show u=Value.ref a from d;obtain⟨_,_,_,p⟩:=show cL X.prog X.w H s.heap a (.tup j)from I.hok a _ ea;refine ju p λo f g _=>?_;exact as8 W.kitx_tuple I.kIn ⟨o,f,g⟩ e (λz=>nomatch z) h|@dK a kvs ea=>cases show u=Value.ref a from d;obtain⟨_,_,m,_,p⟩:=I.hok a _ ea;refine zl p λo k l f g _=>?_;exact as8 W.kitx_dict I.kIn ⟨o,f,g.1⟩ e (λz=>nomatch z) h|@dT a kvs ea=>cases show u=Value.ref a from d;obtain⟨_,_,j,_,o,k,l,f,g,_⟩:=show cL X.prog X.w H s.heap a (.dT kvs)from I.hok a _ ea;exact as8 W.kitx_dict I.kIn ⟨o,f,g.1⟩ e (λz=>nomatch z) h|@ins a C dx fs ea cl ha hn htk hm=>cases show u=Value.ref a from d;refine de (rB I.hok ea) λr O _=>?_;obtain⟨od,J,_⟩:=O.look;exact as8 (W.kitx_own (cl.get _) cl.hd ha hn htk hm) I.kIn J e (λz=>nomatch z) h
end
structure Room(k:Nat)(A:Around):Prop where
 hd:40<=k->A.handled=none
 dp:A.depth+3*k+5<recursionLimit
 un:A.units+16*k+200<cLine
 gd:A.guards=some []
def Room.mono{j k A}(r:Room k A)(h:j<=k):Room j A:=⟨λz=>r.hd (by omega),by have:=r.dp;omega,by have:=r.un;omega,r.gd⟩
theorem Room.deeper{k A}(r:Room (k+1) A)(a):Room k (A.deeper a):=⟨λz=>r.hd (by omega),by have:=r.dp;show A.depth+1+3*k+5<_;omega,by have:=r.un;show A.units+3+16*k+200<_;omega,r.gd⟩
def aai{A:Around}{C us a}:(A.under (.builtin "type.__call__" ⟨.ref C::us,a⟩)).depth=A.depth+1:=by rfl
def aah{A:Around}{C us a}:(A.under (.builtin "type.__call__" ⟨.ref C::us,a⟩)).units=A.units+1:=rfl
def Room.make{k A}(r:Room (k+1) A)(C)(us)(a):Room k (A.under (.builtin "type.__call__" ⟨.ref C::us,a⟩)):=⟨λz=>r.hd (by omega),by have:=r.dp;rw[aai];omega,by have:=r.un;rw[aah];omega,r.gd⟩
def Room.calm{k}{A:Around}{a}(r:Room k (A.deeper a))(h:40<=k):A.handled.isNone=true:=by rw[show A.handled=none from r.hd h];rfl
def Room.sui{k A v}(r:Room k A)(h:39<=k):Room 39 (A.mark v):=⟨λz=>by omega,by have:=r.dp;show A.depth+3*39+5<_;omega,by have:=r.un;show A.units+16*39+200<_;omega,r.gd⟩
theorem Room.depth{k A}(r:Room k A):A.depth<recursionLimit:=by have:=r.dp;omega
theorem Room.units{k A}(r:Room k A):A.units+64<cLine:=by have:=r.un;omega
def abz:TA:=λ_ H Q=>Q [] H
def m6(ta:TE)(e:TA):TA:=λa H Q=>ta a H λx b=>e a b λd c=>Q (x::d) c
section
variable{X:Cx}{e:Expr}{es:List Expr}{te:TE}{t:TA}{pos:Pos}
def eW:PA X [] abz:=λ_ _ _ _ H Q I h=>Calls.spliced_nil ⟨[],H,I,.nil,h⟩
def bV(m:PE X e te)(g:PA X es t)(i:SE X e es:=by rfl):PA X (e::es) (m6 te t):=by intro pos a s b H Q I h;rw[i];exact at8 (thn (m _ s b H _ I h) λu r⟨x,o,f,j,d⟩=>thn (g _ _ _ b _ _ f d) λp v⟨q,c,n,k,l⟩=>fD _ c n (.cons j k) l)
def arc(t:TA):TE:=λc H Q=>t c H λb a=>b.length<=sizeLine/\∀p,a p=none->Q (.ref p) (upd a p (.tup b))
def aoI(t:TA):TE:=λc H Q=>t c H λb a=>b.length<=sizeLine/\∀p,a p=none->Q (.ref p) (upd a p (.lst b))
def alS{i}(h:PA X es t):PE X (.Tuple es i pos) (arc t):=by intro a s g H Q I d;refine wpAny_Tuple_spliced (thn (h _ _ s g H _ I d) λf l⟨k,j,c,r,z,q⟩=>⟨by rw[<-r.length];exact z,.ref _,_,c.laid (λb u e=>arK _ e) (arP _) ?_,rfl,q _ (c.hok.fresh (arP _))⟩);exact⟨z,f,r,⟨_,arW _ rfl,rfl,_,rfl⟩⟩
def acr(h:PA X es t):PE X (.List es pos) (aoI t):=by intro a s g H Q I d;refine wpAny_List_spliced (thn (h _ _ s g H _ I d) λf k⟨j,i,c,r,z,q⟩=>⟨by rw[<-r.length];exact z,.ref _,_,c.laid (λb u e=>arK _ e) (arP _) ?_,rfl,q _ (c.hok.fresh (arP _))⟩);exact⟨z,f,0,r,arW _ rfl⟩
end
abbrev Sp:=List V->Hp->VK->XK->Prop
abbrev CXT:=List Env->Hp->Shared->XK->Value->Shared->Prop
structure Env0(P:Program)(w:World)(K:W.Frag)(mg:Str->Option Value)(base:Heap)(A:Around)(outer:List Env)(s:Shared)(H:Hp):Prop where
 frames:A.frames=some outer
 mod:Mod K mg base
 bs:∀b o,base.get? b=some o->s.heap.get? b=some o/\H b=none
 bsz:base.objs.size<=s.heap.objs.size
 r9:s.heap.FunFrames base outer
 frf:∀b∈frs outer,H b=none
 hok:HOk P w H s.heap
 bare:AllBare s.gens
def CE(a:List Env)(P:Program)(w:World)(H:Hp)(s:Shared)(Q:VK)(u:Value)(s':Shared):Prop:=∃v b,s'.os=s.os/\AllBare s'.gens/\Un (frs a) [] H b s.heap s'.heap/\HOk P w b s'.heap/\RelV v u/\Q v b
def CR(CX:CXT)(a:List Env)(P:Program)(w:World)(H:Hp)(s:Shared)(Q:VK)(E:XK)(r:Result)(s':Shared):Prop:=match r with|.ok (.ret u)=>CE a P w H s Q u s'|.ok _=>False|.error e=>CX a H s E e s'
structure FnOk(P:Program)(w:World)(K:W.Frag)(mg:Str->Option Value)(base:Heap)(CX:CXT)(k:Nat)(f:Addr)(fd:FuncData)(ps:List Str)(sp:Sp)(hn:Around->Hp->Prop:=λ_ _=>True):Prop where
 len:∀vs H Q E,sp vs H Q E->vs.length=ps.length
 run:∀(A:Around)(outer:List Env)(s:Shared)(H:Hp)(args:Args)(us:List Value)(vs:List V)(Q:VK)(E:XK),Room k A->hn A H->Env0 P w K mg base A outer s H->BindsTo s fd args (ps.zip us)->Vals vs us->sp vs H Q E->codeAny (model P w) A (.call (.ref f) args) (CR CX outer P w H s Q E) s
def FnOk.imp{P w K i a CX k f e ps sp b}(F:FnOk P w K i a CX k f e ps sp)(h:∀c H Q E,b c H Q E->sp c H Q E):FnOk P w K i a CX k f e ps b:=⟨λc H Q E q=>F.len _ H Q E (h _ _ _ _ q),λA d s H g r c Q E l m p o n j=>F.run A _ s H _ _ _ Q E l m p o n (h _ _ _ _ j)⟩
def Env0.make{P w K c b A a s H}(e:Env0 P w K c b A a s H)(C)(us)(d):Env0 P w K c b (A.under (.builtin "type.__call__" ⟨.ref C::us,d⟩)) a s H:=⟨by exact e.frames,e.mod,e.bs,e.bsz,e.r9,e.frf,e.hok,e.bare⟩
section
variable{X:Cx}{pins:List (Addr×Obj)}{σ:St}{H:Hp}{s s':Shared}
def Inv.aoi(I:Inv X pins σ H s):Env0 X.prog X.w X.K X.mg X.base X.A X.stack s H:=⟨I.ok.frames,I.ok.mod,I.bs,arU I.ok.bsz I.sz,I.stack,I.vw,I.hok,I.bare⟩
def Inv.after{Q u}(I:Inv X pins σ H s)(h:CE X.stack X.prog X.w H s Q u s'):EP X pins σ Q u s':=by refine agZ h λv f os a un c r q=>?_;obtain⟨i,g,d,t,e⟩:=s';obtain rfl:=os;exact fD v f (I.call   un c a λb z=>absurd z (by simp)) r q
end
def aiF(sp:Sp)(dvs:List V)(E:XK)(t:TA):TE:=λb H Q=>t b H λa c=>sp (a++dvs) c Q E
def Binds(K:W.Frag)(b:FuncData)(ps:List Str)(ds:List Value):Prop:=∀(s:Shared)(a:List Value),K.In s.heap->(a++ds).length=ps.length->BindsTo s b ⟨a,[]⟩ (ps.zip (a++ds))
def Binds.all{K b ps}(h:∀a,a.length=ps.length->bindArgs b ⟨a,[]⟩=pure (ps.zip a)):Binds K b ps []:=λs a _ c=>by rw[asl]at c⊢;exact .of_eq (h _ c)
def Passes(CX:CXT)(X:Cx)(E:XK):Prop:=∀(a:List (Addr×Obj))(c:St)(H:Hp)(s:Shared)(e:Value)(b:Shared),Inv X a c H s->CX X.stack H s E e b->X.xe e b
section
variable{X:Cx}{CX:CXT}{k:Nat}{f C:Addr}{fd:FuncData}{ps:List Str}{sp:Sp}{dvs:List V}{ds:List Value}{E:XK}{x m:Str}{p pos apos:Pos}{e o:Expr}{es:List Expr}{ta:TE}{t:TA}
def aho{b pins}{σ:St}{H s Q us vs}(F:FnOk X.prog X.w X.K X.mg X.base CX k f fd ps sp b)(g:Room k X.A)(j:Binds X.K fd ps ds)(d:Vals dvs ds)(n:Passes CX X E)(I:Inv X pins σ H s)(r:Vals vs us)(h:sp (vs++dvs) H Q E)(i:b X.A H:=by exact trivial):wpAny (model X.prog X.w) X.A (call (.ref f) us) (EP X pins σ Q) X.xe s:=by
 have c:=r.append d;have l:(us++ds).length=ps.length:=by rw[<-c.length];exact F.len _ _ _ _ h
 refine auM (at9 (F.run _ _ s H _ _ _ Q E g i I.aoi (j s _ I.kIn l) c h) λr q a=>?_);cases r with|error e=>exact n _ σ H s e _ I a|ok fl=>cases fl with|ret u=>exact I.after a|next|brk|cont=>exact False.elim a
def ajb(F:FnOk X.prog X.w X.K X.mg X.base CX k f fd ps sp)(l:Room k X.A)(g:Gl X x)(j:X.mg x=some (.ref f))(z:W.keepIn X.K (.ref f)=true)(u:Binds X.K fd ps ds)(i:Vals dvs ds)(y:Passes CX X E)(w:PA X (e::es) t)(b:Dbg x:=by decide)(v:SE X e es:=by rfl)(a:BT X pos es:=by rfl):PE X (.Call (.Name x p) (e::es) [] pos) (aiF sp dvs E t):=by intro c s n H Q I h;exact atl (dH I g j (avq I.ok.mod.kin z (thn (w _ _ s n H _ I h) λB G⟨D,A,d,r,q⟩=>⟨d.kIn,aho F l u i y d r q⟩) v a) b)
def afT(F:FnOk X.prog X.w X.K X.mg X.base CX k f fd ps sp)(i:Room k X.A)(c:Gl X x)(g:X.mg x=some (.ref f))(n:W.keepIn X.K (.ref f)=true)(j:Binds X.K fd ps ds)(d:Vals dvs ds)(l:Passes CX X E)(a:Dbg x:=by decide):PE X (.Call (.Name x p) [] [] pos) (aiF sp dvs E abz):=by intro b s q H Q I h;exact atl (dH I c g (W.callWith_K0 I.kIn n (aho F i j d l I .nil h)) a)
structure Mk(K:W.Frag)(C f:Addr):Prop where
 makes:W.makesIn K C=true
 init:W.findIn K (.ref C) "__init__"=some (some (.ref f))fn:W.isFn K (.ref f)=true
 kp:W.keepIn K (.ref C)=true
end
structure FnScope(N P:List Str)(sc:Scope):Prop where
 kind:sc.kind=.function
 co:sc.isCoroutine=false
 gen:sc.isGenerator=false
 nd:N.Nodup
 pre:N.take P.length=P
 par:∀x∈P,sc.names.lookup x=some .local\/sc.names.lookup x=some .cell
 nofree:∀y∈sc.names,y.2≠.free
theorem u3{kindOf x}:∀{binds m},(∀v,(x,v)∉binds)->bindL kindOf binds m x=m x
|[],_,_=>rfl|(n,v)::r,m,h=>by
 unfold bindL;rw[u3 λw hw=>h w (asp _ hw)];split
 .have:x≠n:=by grind
  simp[this]
 .rfl
theorem u5{kindOf x}:∀{binds m},(∀v,(x,v)∉binds)->bindC kindOf binds m x=m x
|[],_,_=>rfl|(n,v)::r,m,h=>by
 unfold bindC;rw[u5 λw hw=>h w (asp _ hw)];split;.rfl
 .have:x≠n:=by grind
  simp[this]
theorem u4{kindOf:Str->Option NameKind}{x:Str}{v:Value}:∀{P:List Str}{vs:List Value}{i:Nat}{m:Str->Option Value},P.Nodup->P[i]?=some x->vs[i]?=some v->kindOf x=some .local->bindL kindOf (P.zip vs) m x=some v|[],_,_,_,_,h,_,_=>by simp at h|_::_,[],_,_,_,_,h,_=>by simp at h|p::P,w::vs,0,m,nd,h1,h2,hk=>by simp at h1 h2;subst h1;subst h2;show bindL kindOf ((p,w)::P.zip vs) m p=_;unfold bindL;rw[u3 λv a=>(as5.mp nd).1 (avB a).1,arM hk];simp|p::P,w::vs,i+1,m,nd,h1,h2,hk=>by show bindL kindOf ((p,w)::P.zip vs) m x=_;unfold bindL;exact u4 (i:=i) (as5.mp nd).2 (by simpa using h1) (by simpa using h2) hk
theorem u6{kindOf x v}:∀{P:List Str}{vs}{i:Nat}{m},P.Nodup->P[i]?=some x->vs[i]?=some v->kindOf x≠some .local->bindC kindOf (P.zip vs) m x=some v|[],_,_,_,_,h,_,_=>by simp at h|_::_,[],_,_,_,_,h,_=>by simp at h|p::P,w::vs,0,m,nd,h1,h2,hk=>by simp at h1 h2;subst h1;subst h2;show bindC kindOf ((p,w)::P.zip vs) m p=_;unfold bindC;rw[u5 λv a=>(as5.mp nd).1 (avB a).1,arO hk];simp|p::P,w::vs,i+1,m,nd,h1,h2,hk=>by unfold bindC;exact u6 (i:=i) (as5.mp nd).2 (by simpa using h1) (by grind) hk
noncomputable def start(N:List Str)(vs:List V):St:=vs.map some++List.replicate (N.length-vs.length) none
noncomputable def fA(CX:CXT)(P:Program)(w:World)(K:W.Frag)(mg:Str->Option Value)(base:Heap)(N:List Str)(qual:Str)(scope:Scope)(f:Addr)(cd:Value)(A:Around)(outer:List Env)(s:Shared)(H:Hp)(E:XK):Cx where prog:=P;w:=w;K:=K;mg:=mg;base:=base;A:=A.deeper (envOfC qual scope s.heap.objs.size f cd);N:=N;s₀:=s;H₀:=H;env:=envOfC qual scope s.heap.objs.size f cd;outer:=outer;stack:=envOfC qual scope s.heap.objs.size f cd::outer;ex:=[];calm:=A.handled.isNone;fn:=λ_=>true;pn:=[];xe:=λe s'=>wpAny (model P w) (A.deeper (envOfC qual scope s.heap.objs.size f cd)) (leaving (envOfC qual scope s.heap.objs.size f cd) e) (λ_ s''=>CX outer H s E e s'') (λe' s''=>CX outer H s E e' s'') s'
def za{a:Scope}{n x}(h:a.names.lookup x=some .cell):∃c,(cellsFrom n a.names []).lookup x=some c:=by exact atu.mp (W.cellsFrom_some _ n _ (.inl h))
def adk{CX P w K M l N ps g scope f I A d s O H E us vs}(S:FnScope N ps scope)(m:Env0 P w K M l A d s H)(Y:vs.length=ps.length)(r:Vals vs us)(x:InCallC s s.heap.objs.size (bindL (envOfC g scope s.heap.objs.size f I).kindOf (ps.zip us) λ_=>none) (cellsFrom (s.heap.objs.size+1) scope.names []) (bindC (envOfC g scope s.heap.objs.size f I).kindOf (ps.zip us) λ_=>none) O):Inv (fA CX P w K M l N g scope f I A d s H E) [] (start N vs) H O:=by
 have T:ps.length<=N.length:=by have:=ats List.length S.pre;rw[asG]at this;omega
 refine dc x.done λD tk J R=>?_;subst J;have o:∀b:Addr,b ∉(fA CX P w K M l N g scope f I A d s H E).ex:=λb z=>absurd (show b∈([]:List Addr)from z) (by simp);refine⟨⟨m.mod,S.kind,rfl,rfl,arP _,λy z c D j=>?_,λy B=>?_,λy c _ h=>?_,λz=>Option.isNone_iff_eq_none.mp z,Around.frames_deeper m.frames,.inr ⟨rfl,rfl⟩,λb z=>absurd z (o b),m.bs,m.bsz,λb _ _=>o b,λb z=>absurd z (o b),m.r9,m.frf⟩,rfl,m.bare,Un.kept R,⟨_,x.toInCall.ns,λi y v D j Z=>?_⟩,λy c h=>⟨_,x.cell y c h⟩,m.hok.fresh (arP _),λy c h=>?_,λp C=>absurd (show p∈([]:List (Addr×Obj))from C) (by simp),m.hok.kept R,?_⟩;.exact name_of_addr x.apart (asB D) (asB j)
 .rcases B with B|B;.exact za B
  .exact absurd rfl (S.nofree _ (asB B))
 .exact auK (x.above y c (asB h))
 .have G:i<vs.length:=by
   unfold start at j;by_cases G:i<vs.length;.exact G
   .rw[ar8 (by simpa using G)]at j;rw[atc]at j;split at j<;>cases j
  have X:vs[i]?=some v:=by unfold start at j;rw[arX (by simpa using G),ar3]at j;cases e:vs[i]? with|none=>rw[e]at j;cases j|some a=>rw[e]at j;cases j;rfl
  refine de (r.get X) λu Q U=>?_;have C:ps[i]?=some y:=by rw[<-S.pre,avr (by omega)];exact D
  have t:ps.Nodup:=by rw[<-S.pre];exact S.nd.sublist (List.take_sublist _ _)
  refine⟨u,U,?_⟩;rcases S.par y (asv C)with k|k;.exact .inl ⟨k,u4 t C Q k⟩
  .obtain⟨c,e⟩:=za (n:=s.heap.objs.size+1) k;refine .inr ⟨.inl k,c,e,?_⟩;have q:=x.cell y c e;rw[u6 t C Q (by show scope.names.lookup y≠_;rw[k];decide)]at q;exact q
 .exact m.hok.fresh (auK (x.above y c (asB h)))
 .unfold start;show _=N.length;rw[asm,ar7,atn];omega
def wH{CX P w K M g k f name c h i scope dV kV G pm d ct oc X od R N ps sp}(lk:K.lookup f=some ⟨oc,od,.func (W.fnOf name c h i scope dV kV G pm X d ct),R⟩)(U:W.codeIn K d c=true)(S:FnScope N ps scope)(len:∀l H Q E,sp l H Q E->l.length=ps.length){hn}(p:∀A a s H l Q E,Room k (A.deeper (envOfC c scope s.heap.objs.size f d))->hn A H->sp l H Q E->∃t,PSs (fA CX P w K M g N c scope f d A a s H E) i t/\t {nx:=λ_ m=>Q .non m,rt:=Q} (start N l) H):FnOk P w K M g CX (k+1) f (W.fnOf name c h i scope dV kV G pm X d ct) ps sp hn:=by
 refine⟨len,λA a s H Y us l Q E hr hN C hb r D=>?_⟩;have Z:K.In s.heap:=C.mod.kin.keeps λb o e=>(C.bs b o e).1;have lim:s.heap.NoLimit:=C.mod.nolimit.keeps λb o e=>(C.bs b o e).1;have z:∀y∈ps.zip us,scope.names.lookup y.1=some .local\/scope.names.lookup y.1=some .cell/\((cellsFrom (s.heap.objs.size+1) scope.names []).lookup y.1).isSome=true:=λ⟨n,v⟩hy=>by
  rcases S.par n (avB hy).1 with q|q;.exact .inl q
  .exact .inr ⟨q,W.cellsFrom_some _ _ _ (.inl q)⟩
 refine codeAny_call_function hr.depth (Z _ _ lk) rfl S.co S.gen rfl (W.codeRec_of Z U) (hb _ _ _ _ ?_);refine wpAny_newFunctionEnv_cells S.kind z λa0 he s1 x=>?_;subst he;refine⟨lim.keeps x.toInCall.keep,codeAny_func ?_⟩;refine de (p A a s H l Q E (hr.deeper _) hN D) λt ht hq=>?_;have I:Inv (fA CX P w K M g N c scope f d A a s H E) [] (start N l) H s1:=adk S C (len _ _ _ _ D) r x;refine asi (ht [] s1 (start N l) H _ I hq) (λfl T B=>?_) λe T B=>B;have fin:∀{j:St}{m:Hp}{v:V}{u:Value},Inv (fA CX P w K M g N c scope f d A a s H E) [] j m T->RelV v u->Q v m->CE a P w H s Q u T:=λ{j m v u}J O q=>ag2 v m J.os J.bare J.base J.hok O q;cases fl with|ret u=>refine zl B λv j m J O q=>?_;exact fin J O q|next=>obtain⟨j,m,J,q⟩:=B;exact fin (v:=V.non) (u:=Value.none) J rfl q|brk=>obtain⟨_,_,_,q⟩:=B;exact False.elim q|cont=>obtain⟨_,_,_,q⟩:=B;exact False.elim q
section
variable{X:Cx}{x:Str}{p pos:Pos}{e:Expr}{es:List Expr}{t:TA}{id T:String}{r:List V->Hp->VK->Prop}
def tCB(r:List V->Hp->VK->Prop)(t:TA):TE:=λb H Q=>t b H λa c=>r a c Q
def ym(f:bG X (.builtin id) r)(g:Gl X x)(k:X.mg x=none)(n:bootBuiltins x=some (.builtin id))(q:PA X (e::es) t)(j:x≠"__name__":=by decide)(b:Dbg x:=by decide)(o:SE X e es:=by rfl)(a:BT X pos es:=by rfl):PE X (.Call (.Name x p) (e::es) [] pos) (tCB r t):=by intro c s d H Q I h;exact atl (n9 I g k n (auN (thn (q _ _ s d H _ I h) λv y⟨w,u,l,m,i⟩=>f _ _ d _ _ _ Q l m i) o a) j b)
def jQ(f:bG X (.type T) r)(g:Gl X x)(k:X.mg x=none)(n:bootBuiltins x=some (.type T))(q:PA X (e::es) t)(j:x≠"__name__":=by decide)(b:Dbg x:=by decide)(o:SE X e es:=by rfl)(a:BT X pos es:=by rfl):PE X (.Call (.Name x p) (e::es) [] pos) (tCB r t):=by intro c s d H Q I h;exact atl (n9 I g k n (asY (thn (q _ _ s d H _ I h) λv y⟨w,u,l,m,i⟩=>f _ _ d _ _ _ Q l m i) o a) j b)
end
end L2
namespace HT
open PySem PyProof.Rows
def x9(A)(s)(a)(t)(c)(u)(prog)(w)(E)(Q)(h:Q (.bool (decide (a<c))) s):wpAny (model prog w) A (richCompare .Lt (.int a t) (.int c u)) Q E s:=PyProof.Rows.lt_int h
section
open PySem.SeqAt
open PySem.AutoSeq1(wpAny_loadPart')
open PySem.MeetsSeq PySem.MeetsSeq2 PySem.MeetsSeq3
end
section
variable{prog:Program}{w:World}{A:Around}{E:Value->Shared->Prop}{s:Shared}
def aj7{t b:Addr}{vs ws:List Value}{Q:Value->Shared->Prop}(r:IsTup s.heap t vs.toArray)(u:IsTup s.heap b ws.toArray)(o:vs≠[])(q:ws=[]->Q (.ref t) s)(p:ws≠[]->Q (.ref s.heap.objs.size) {s with heap:=s.heap.push {cls:=.type "tuple",data:=.seq (vs++ws).toArray}})(hsz:vs.length+ws.length<=sizeLine):wpAny (model prog w) A (binaryOp .Add (.ref t) (.ref b)) Q E s:=by
 obtain⟨⟨cls,dd,data,l⟩,h,i,n,j⟩:=id r;obtain⟨⟨m,g,data2,d⟩,a,c,k,f⟩:=id u;simp only at i j c f;subst i j c f;have e:vs.toArray++ws.toArray=(vs++ws).toArray:=by simp
 by_cases hw:ws=[];.exact avs ⟨_,h,rfl⟩ ⟨_,a,rfl⟩ avt seq_tuple_add aut aum (aua _ _) (tuple_addW1 t b vs.toArray ws.toArray n k dd g l d (by simpa using o) (by simp[hw])) ⟨h,a,q hw⟩
 .refine avs ⟨_,h,rfl⟩ ⟨_,a,rfl⟩ avt seq_tuple_add aut aum (aua _ _) (tuple_addW2 t b vs.toArray ws.toArray n k dd g l d (by simpa using o) (by simpa using hw) (by rw[asC,asC];exact hsz)) ⟨h,a,?_⟩;rw[e];exact p hw
noncomputable def sIx(n d:Nat):Option Int->Nat|none=>d|some v=>if v<0 then(v+(n:Int)).toNat else min v.toNat n
def alv(n d)(b:d<=n)(o):sIx n d o<=n:=by cases o with|none=>exact b|some v=>
 show(if v<0 then(v+n).toNat else min _ n)<=n;by_cases a:v<0;.rw[arM a];omega
 .rw[arO a];exact auB _ _
def ael(v)(n d:Nat):(if v<0 then max (v+(n:Int)) 0 else min v n)=(sIx n d (some v):Nat):=by
 show(if v<0 then max _ 0 else min v n)=if v<0 then(v+n).toNat else min _ n;by_cases a:v<0;.simp only[arM a];omega
 .simp [arO a];omega
def aaQ(lo a)(n:Nat):Builtin.Slice.sliceAdjust lo a 1 n=((sIx n 0 lo:Int),(sIx n n a:Int)):=by
 refine Prod.ext ?_ ?_;.cases lo with|none=>rfl|some v=>exact ael v n 0
 .cases a with|none=>rfl|some v=>exact ael v n n
def zX(i j:Nat):Builtin.Slice.slicePlaces (i:Int) (j:Int) 1=j-i:=by
 unfold Builtin.Slice.slicePlaces;have a:(1:Int)>0:=by omega
 simp only[a,ate,Int.ediv_one];split<;>omega
def pR{v o Q}(p:IsPart v o)(h:Q o s):wpAny (model prog w) A (Builtin.Slice.slicePartIndex v) Q E s:=by cases p with|none=>exact slicePart_none h|int i t=>exact slicePart_int h
def lW{sl d e lo c n}{Q:Int×Int×Nat->Shared->Prop}(g:s.heap.IsSliceOf sl d e .none)(pl:IsPart d lo)(f:IsPart e c)(h:Q ((sIx n 0 lo:Nat),1,sIx n n c-sIx n 0 lo) s):wpAny (model prog w) A (Builtin.Slice.sliceApplied (.ref sl) (pure n)) Q E s:=by refine ju (id g) λos a i b=>?_;refine arJ (arJ (asw a b (x:=d) rfl (arJ (asw a b (x:=e) rfl (arJ (asw a b rfl (arR ?_)))))));refine arJ (slicePart_none ?_);refine arJ (pR pl (arJ (pR f (arJ (arR ?_)))));show wpAny _ _ (match Builtin.Slice.sliceAdjust lo c 1 (n:Int)with|(lo,c)=>pure (lo,(1:Int),Builtin.Slice.slicePlaces lo c 1)) _ _ s;rw[aaQ lo c n];show wpAny _ _ (pure _) _ _ s;rw[zX];exact arR h
def afM(xs:Array Value)(i k:Nat):((List.range k).filterMap λ(m:Nat)=>xs[((i:Int)+(m:Int)*1).toNat]?).toArray=((xs.toList.drop i).take k).toArray:=by
 have e:(λ(m:Nat)=>xs[((i:Int)+(m:Int)*1).toNat]?)=λm=>xs[i+m]?:=by
  funext m;have:((i:Int)+(m:Int)*1).toNat=i+m:=by omega
  rw[this]
 rw[e];have:=pick_run xs i k;rw[List.filterMap_map]at this;have a:((λx=>xs[x]?)∘λx=>i+x)=λm=>xs[i+m]?:=rfl;rw[a]at this;rw[this]
def kQ{t sl items i j lo a Q}(c:IsTup s.heap t items)(k:s.heap.IsSliceOf sl i j .none)(pl:IsPart i lo)(l:IsPart j a)(hw:¬(sIx items.size 0 lo=0/\sIx items.size items.size a=items.size))(h:Q (.ref s.heap.objs.size) {s with heap:=s.heap.push {cls:=.type "tuple",data:=.seq ((items.toList.drop (sIx items.size 0 lo)).take (sIx items.size items.size a-sIx items.size 0 lo)).toArray}})(hsz:items.size<=sizeLine):wpAny (model prog w) A (getItem (.ref t) (.ref sl)) Q E s:=by
 have b:sizeOk (.seq ((items.toList.drop (sIx items.size 0 lo)).take (sIx items.size items.size a-sIx items.size 0 lo)).toArray):=by show((items.toList.drop (sIx items.size 0 lo)).take (sIx items.size items.size a-sIx items.size 0 lo)).toArray.size<=sizeLine;rw[asC,asG,avu,aty];omega
 have o:sIx items.size items.size a<=items.size:=alv _ _ (arP _) a;refine ju (id k) λos d e n=>?_;have g:s.TypeIs (.ref sl) "slice":=⟨os,d,e⟩;unfold getItem;try with_reducible refine as9 ?_
 first|refine arJ (arR ?_)|skip
 refine arJ (wpAny_sequenceKey c.typeIs (by decide) ?_);refine arJ (atd (name:=Str.ofString "__getitem__") c.typeIs atA (asR atA c.typeIs entry_tuple_getitem ?_ (args_tuple_getitem _ _)));show wpAny _ _ (Builtin.Tuple.tupleItemsOf (.ref t)>>=_) _ _ s;refine arJ (tupleItemsOf_ c ?_);refine arJ (wpAny_typeOf g ?_);rw[arM (by decide)];refine arJ (lW k pl l ?_);have f:¬(((sIx items.size 0 lo:Nat):Int)==0&&(1:Int)==1&&sIx items.size items.size a-sIx items.size 0 lo==items.size)=true:=by grind
 show wpAny _ _ (if(((sIx items.size 0 lo:Nat):Int)==0&&(1:Int)==1&&sIx items.size items.size a-sIx items.size 0 lo==items.size)=true then _ else _) _ _ s;rw[arO f,afM];exact arJ (m:=Builtin.Tuple.tupleExact _) (atM (arR ⟨_,rfl,arR h⟩) b)
end
end HT
namespace L2
open PySem PySem.Spec PyProof.Rows
abbrev TO:=St->Hp->(Option Int->Hp->Prop)->Prop
def PO(X:Cx)(e:Option Expr)(t:TO):Prop:=∀(a:List (Addr×Obj))(s:Shared)(b:St)(H:Hp)(Q:Option Int->Hp->Prop),Inv X a b H s->t b H Q->wpAny (model X.prog X.w) X.A (evalPart e X.env) (λu d=>∃o c,Inv X a b c d/\IsPart u o/\Q o c) X.xe s
def aiC:TO:=λ_ H Q=>Q none H
def aoE(t:TE):TO:=λa H Q=>t a H λx b=>∃i,x=.int i/\Q (some i) b
section
variable{X:Cx}{e:Expr}{te:TE}{lo hi:Option Expr}{tl th:TO}{pos p2:Pos}
def ack:PO X none aiC:=by intro a s b H Q I h;exact arR ⟨_,H,I,.none,h⟩
def acj(h:PE X e te):PO X (some e) (aoE te):=by intro a s f H Q I hw;refine thn (h _ s f H _ I hw) λu j⟨x,b,d,g,c⟩=>?_;obtain⟨i,rfl,q⟩:=c;obtain⟨t,rfl⟩:=g;exact⟨_,b,d,.int i t,q⟩
def SlR(X:Cx)(r:V->Option Int->Option Int->Hp->VK->Prop):Prop:=∀(a:List (Addr×Obj))(s:Shared)(b:St)(H:Hp)(x:V)(v d f:Value)(lo hi:Option Int)(c:Addr)(Q:VK),Inv X a b H s->RelV x v->s.heap.IsSliceOf c d f .none->IsPart d lo->IsPart f hi->r x lo hi H Q->∃T id,typeLookup (.type T) "__getitem__"=pure (some (.builtin id))/\s.TypeIs v T/\wpAny (model X.prog X.w) X.A (getItem v (.ref c)) (EP X a b Q) X.xe s
def SlR.or{r g}(h:SlR X r)(h':SlR X g):SlR X λx lo hi H Q=>r x lo hi H Q\/g x lo hi H Q:=by
 intro b s f H x v i j lo hi k Q I a d pl c q;rcases q with q|q;.exact h _ s f H x v _ _ _ _ _ Q I a d pl c q
 .exact h' _ s f H x v _ _ _ _ _ Q I a d pl c q
def tSl(r:V->Option Int->Option Int->Hp->VK->Prop)(te:TE)(tl th:TO):TE:=λa H Q=>te a H λx b=>tl a b λl d=>th a d λu c=>r x l u c Q
def yf{r}(D:SlR X r)(K:PE X e te)(M:PO X lo tl)(N:PO X hi th):PE X (.Subscript e (.Slice lo hi none p2) pos) (tSl r te tl th):=by intro a s c H Q I h;refine Subscript_ (thn (K a s c H _ I h) λv G⟨x,z,C,p,m⟩=>wpAny_Slice (thn (M a G c z _ C m) λf J⟨l,B,w,pl,t⟩=>thn (N a J c B _ w t) λg d⟨u,i,y,o,n⟩=>arR ?_));have A:Inv X a c i {d with heap:=d.heap.push {cls:=.type "slice",data:=.fields #[f,g,.none]}}:=y.kept λb ob q=>arK _ q;refine iH (D a _ c i x v f g l u d.heap.objs.size Q A p (Heap.IsSliceOf.new ..) pl o n) λT id k E j=>?_;exact tail_any E k j (rfl)
def akB(xs:List V)(lo hi:Option Int):List V:=(xs.drop (HT.sIx xs.length 0 lo)).take (HT.sIx xs.length xs.length hi-HT.sIx xs.length 0 lo)
def oO(xs)(lo hi):(akB xs lo hi).length<=xs.length:=by unfold akB;rw[asG,avu];omega
def ark(K:W.Frag):V->Option Int->Option Int->Hp->VK->Prop:=λx lo hi H Q=>∃a b,x=.ref a/\SqT K H a b/\¬(HT.sIx b.length 0 lo=0/\HT.sIx b.length b.length hi=b.length)/\∀p,H p=none->Q (.ref p) (upd H p (.tup (akB b lo hi)))
def alp:SlR X (ark X.K):=by
 intro i s u H x v p t lo hi w Q I l n pl m h;refine my h λa g f o hw q=>?_;subst f;cases l;refine ju (I.tuple o) λd r j k=>?_;have c:d.toArray.size=g.length:=by rw[asC];exact r.length.symm
 refine fD "tuple" _ atA.lookup j.typeIs ?_;refine HT.kQ j n pl m (by grind) ?_ (by omega);rw[c];refine(fD (.ref s.heap.objs.size) _ (I.laid (t':=s.toks) (λb ob q=>arK _ q) (arP _) ?_) rfl (q _ (I.hok.fresh (arP _))));exact⟨arU (oO g lo hi) k,_,(r.drop _).take _,IsTup.new _ _⟩
def ao3(K:W.Frag):R2:=λx y H Q=>∃a b d c,x=.ref a/\y=.ref b/\SqT K H a d/\SqT K H b c/\d≠[]/\d.length+c.length<=sizeLine/\(c=[]->Q (.ref a) H)/\(c≠[]->∀p,H p=none->Q (.ref p) (upd H p (.tup (d++c))))
def Vals.v8{xs us}(r:Vals xs us):us=[]↔ xs=[]:=by cases r with|nil|cons _ _=>simp
def ajf:OpR X (binaryOp .Add) (ao3 X.K):=by intro i s D H x y v u Q I k C h;obtain⟨a,b,l,A,rfl,rfl,p,m,r,f,j,n⟩:=h;cases k;cases C;obtain⟨B,d,t,_⟩:=I.tuple p;obtain⟨g,c,p2,_⟩:=I.tuple m;refine HT.aj7 t p2 (λz=>r (d.v8.mp z)) (λz=>⟨.ref a,H,I,rfl,j (c.v8.mp z)⟩) (λz=>?_) (by rw[<-d.length,<-c.length];exact f);refine⟨.ref s.heap.objs.size,_,I.laid (t':=s.toks) (o:=.tup (l++A)) (λb ob q=>arK _ q) (arP _) ?_,rfl,n (λw=>z (c.v8.mpr w)) _ (I.hok.fresh (arP _))⟩;exact⟨by rw[asm];exact f,_,d.append c,IsTup.new _ _⟩
end
noncomputable def ixN(n:Nat)(i:Int):Option Nat:=if 0<=i then if i<n then some i.toNat else none else if -(n:Int)<=i then some (i+n).toNat else none
def atI{a:Type}(xs:List a)(i:Int):Option a:=(ixN xs.length i).bind λj=>xs[j]?
def ajB{n i j}(h:ixN n i=some j):seqIndex? i n=some j/\j<n/\-n<=i/\i<n:=by
 unfold ixN at h;by_cases b:0<=i
 .rw[arM b]at h;by_cases a:i<n;.rw[arM a]at h;have e:=asd h;exact⟨by rw[seqIndex_of b a,e],by omega,by omega,a⟩
  .rw[arO a]at h;cases h
 .rw[arO b]at h;by_cases a:-(n:Int)<=i;.rw[arM a]at h;have e:=asd h;exact⟨by rw[seqIndex_neg (by omega) a,e],by omega,a,by omega⟩
  .rw[arO a]at h;cases h
def xt{f xs i}{v:f}(h:atI xs i=some v):∃j,seqIndex? i xs.length=some j/\xs[j]?=some v/\j<xs.length/\-xs.length<=i/\i<xs.length:=by unfold atI at h;cases e:ixN xs.length i with|none=>rw[e]at h;cases h|some j=>rw[e]at h;refine anF (ajB e) λb a d c=>?_;exact⟨j,b,h,a,d,c⟩
def h8{a:Type}{xs:List a}{j:Nat}{v:a}(h:xs[j]?=some v):atI xs (j:Int)=some v:=by
 have b:j<xs.length:=(arL.mp h).1;have e:ixN xs.length (j:Int)=some j:=by unfold ixN;rw[arM (by omega),arM (by omega)];simp
 unfold atI;rw[e];exact h
def iC{a:Type}(xs:List a)(v:a):atI (xs++[v]) (-1)=some v:=by
 have b:(xs++[v]).length=xs.length+1:=by simp
 have e:ixN (xs++[v]).length (-1)=some xs.length:=by unfold ixN;rw[b,arO (by decide),arM (by omega)];congr 1;omega
 unfold atI;rw[e];show(xs++[v])[xs.length]?=some v;simp
def lr(b:Expr):Prop:=∀o i,subscripted b false o i=operate [o,i] (getItem o i)
def IxR(X:Cx)(r:R2):Prop:=∀(c a:Expr)(b:List (Addr×Obj))(s:Shared)(d:St)(H:Hp)(x y:V)(v u:Value)(Q:VK),Inv X b d H s->RelV x v->RelV y u->r x y H Q->subscripted a false v u=operate [v,u] (getItem v u)->wpAny (model X.prog X.w) X.A (subscriptTail c a v u) (EP X b d Q) X.xe s
def MtR(X:Cx)(id:String)(r:V->List V->Hp->VK->Prop):Prop:=∀(a:List (Addr×Obj))(s:Shared)(b:St)(H:Hp)(x:V)(d:List V)(v:Value)(c:List Value)(Q:VK),Inv X a b H s->RelV x v->Vals d c->r x d H Q->wpAny (model X.prog X.w) X.A (call (.builtin id) (v::c)) (EP X a b Q) X.xe s
section
variable{X:Cx}{a b:Expr}{ta tb:TE}{pos:Pos}
def IxR.or{r j}(h:IxR X r)(h':IxR X j):IxR X λx y H Q=>r x y H Q\/j x y H Q:=by
 intro d c f s i H x y v u Q I e k q g;rcases q with q|q;.exact h _ _ _ s i H x y v u Q I e k q g
 .exact h' _ _ _ s i H x y v u Q I e k q g
def MtR.or{id:String}{r f:V->List V->Hp->VK->Prop}(h:MtR X id r)(h':MtR X id f):MtR X id λx d H Q=>r x d H Q\/f x d H Q:=by
 intro c s e H x d v i Q I g j q;rcases q with q|q;.exact h c s e H x d v i Q I g j q
 .exact h' c s e H x d v i Q I g j q
def alW{r}(f:IxR X r)(j:PE X a ta)(i:PE X b tb)(e:lr b):PE X (.Subscript a b pos) (tOp r ta tb):=by intro c s g H Q I h;exact Subscript_ (aqf j i I h λv u n x y m l d k q=>f a b _ _ g _ x y v u Q l d k q (e _ _))
def aqG(K:W.Frag):R2:=λx y H Q=>∃p c i v,x=.ref p/\y=.int i/\SqL K H p c/\atI c i=some v/\Q v H
def aqE(K:W.Frag):R2:=λx y H Q=>∃p c i v,x=.ref p/\y=.int i/\SqT K H p c/\atI c i=some v/\Q v H
def aqF:R2:=λx y H Q=>∃z i c,x=.str z/\y=.int i/\z.length<=sizeLine/\atI z.cps.toList i=some c/\Q (.str ⟨#[c]⟩) H
def adh:IxR X (aqG X.K):=by
 intro f e c s A H x y v u Q I C N h m;obtain⟨p,P,i,z,rfl,rfl,D,J,q⟩:=h;cases C;obtain⟨t,rfl⟩:=N;obtain⟨k,r,pl,O⟩:=I.list D;obtain⟨j,d,B,S,E,G⟩:=xt J;obtain⟨w,o,l⟩:=r.get B;have K:=r.length;have R:=ue;have fin:EP X c A Q w s:=⟨z,H,I,l,q⟩;by_cases n:0<=i
 .have g:i.toNat=j:=by rw[seqIndex_of n G]at d;exact asd d
  exact item_listR pl.isList n (by omega) (by rw[g];simpa using o) fin m
 .have g:(i+(k.toArray.size:Int)).toNat=j:=by rw[seqIndex_neg (by omega) E]at d;rw[asC,<-K];exact asd d
  exact subscriptTail_builtinR (x:=w) pl.isList.typeIs slot_list_getitem.lookup (wpAny_getItem_list_neg (Q:=λr M=>r=w/\EP X c A Q r M) pl.isList (by omega) (by rw[asC]<;>omega) (by omega) (by rw[g];simpa using o) ⟨rfl,fin⟩) m
def ahJ:IxR X (aqE X.K):=by intro d c f s K H x y v u Q I k A h l;obtain⟨p,D,i,z,rfl,rfl,m,o,q⟩:=h;cases k;obtain⟨t,rfl⟩:=A;obtain⟨n,r,pl,C⟩:=I.tuple m;obtain⟨j,B,g,O,J,M⟩:=xt o;obtain⟨w,E,e⟩:=r.get g;have N:=r.length;have G:=ue;exact subscriptTail_builtinR pl.typeIs slot_tuple_getitem.lookup (getItem_tuple (j:=j) pl (by omega) (by omega) (by grind) (by grind) ⟨rfl,⟨z,H,I,e,q⟩⟩) l
def amO:IxR X aqF:=by
 intro e d g s G H x y v u Q I l B h m;obtain⟨z,i,c,rfl,rfl,C,w,q⟩:=h;obtain⟨t,rfl⟩:=l;obtain⟨D,rfl⟩:=B;obtain⟨j,f,k,J,o,r⟩:=xt w;have A:z.cps.toList.length=z.length:=by simp[Str.length]
 rw[A]at f o r;have E:=ue;exact tail_any (auj s z t) slot_str_getitem.lookup (getItem_str (c:=c) (by have n:decide (i < -(2^63:Int))=false:=ar6 (by omega);have p:decide (i ≥ 2^63)=false:=ar6 (by omega);rw[n,p,Bool.or_false]) (by rw[f];simpa using k) ⟨.str ⟨#[c]⟩,H,I.tok _,⟨_,rfl⟩,q⟩) m
def rIx(K:W.Frag):R2:=λx y H Q=>aqG K x y H Q\/aqE K x y H Q\/aqF x y H Q
def adg:IxR X (rIx X.K):=adh.or (ahJ.or amO)
def sR(lo c)(n):(sliceBounds lo c none n).1=(HT.sIx n 0 lo:Nat)/\(sliceBounds lo c none n).2.1=(HT.sIx n n c:Nat)/\(sliceBounds lo c none n).2.2=1:=by
 refine⟨?_,?_,rfl⟩;.cases lo with|none=>simp[sliceBounds,HT.sIx]|some i=>
  simp only[sliceBounds,HT.sIx,Option.getD_none,show(1:Int)>0 by decide,ate];by_cases h:i<0;.simp only[h,ate]<;>omega
  .simp only[h,asW]<;>omega
 .cases c with|none=>simp[sliceBounds,HT.sIx]|some i=>
  simp only[sliceBounds,HT.sIx,Option.getD_none,show(1:Int)>0 by decide,ate];by_cases h:i<0;.simp only[h,ate]<;>omega
  .simp only[h,asW]<;>omega
def qP(its:List Value)(lo c):slicePick its.toArray lo c none=((its.drop (HT.sIx its.length 0 lo)).take (HT.sIx its.length its.length c-HT.sIx its.length 0 lo)).toArray:=by obtain⟨f,d,e⟩:=sR _ _ _;unfold slicePick;rw[f,d,e];simp only[sliceRange_one,pick_run,asC]
def arl(K:W.Frag):V->Option Int->Option Int->Hp->VK->Prop:=λx lo d H Q=>∃a c,x=.ref a/\SqL K H a c/\∀p,H p=none->Q (.ref p) (upd H p (.lst (akB c lo d)))
def aiJ:SlR X (arl X.K):=by intro e s u H x v p t lo m w Q I i l pl k h;refine iH h λa j d o q=>?_;subst d;cases i;refine ju (I.list o) λn r f g=>?_;have c:=r.length;refine fD "list" _ slot_list_getitem.lookup f.isList.typeIs (wpAny_getItem_list_slice f.isList l pl k .none (by simp) ?_ (by grind));rw[qP,<-c];refine fD (.ref s.heap.objs.size) _ (I.laid (λb ob q=>arK _ q) (arP _) ?_) rfl (q _ (I.hok.fresh (arP _)));exact⟨arU (oO j lo m) g,_,0,(r.drop _).take _,arW _ rfl⟩
def uX:bG X (.builtin "len") λj H Q=>∃p c,j=[.ref p]/\(SqL X.K H p c\/SqT X.K H p c)/\Q (.int c.length) H:=by
 intro k s t H j o Q I r h;refine iH h λp c i d q=>?_;subst i;obtain⟨u,rfl,m⟩:=vals1 r;cases m;have n:=ue;rcases d with d|d;.obtain⟨g,f,pl,l⟩:=I.list d;have e:=f.length;exact Calls.call_len_list pl.isList (by grind) ⟨.int c.length,H,I.tok _,⟨s.toks+1,by grind⟩,q⟩
 .obtain⟨g,f,pl,l⟩:=I.tuple d;have e:=f.length;exact len_tuple pl (by grind) ⟨.int c.length,H,I.tok _,⟨s.toks+1,by grind⟩,q⟩
def uW:bG X (.builtin "len") λd H Q=>∃z,d=[.str z]/\z.length<=sizeLine/\Q (.int z.length) H:=by intro e s j H d i Q I r h;refine ju h λz c f q=>?_;subst c;obtain⟨u,rfl,t,rfl⟩:=vals1 r;have g:=ue;exact len_str (by omega) (fD (.int _) H (I.tok _) ⟨_,rfl⟩ q)
def bG.or{f r e}(h:bG X f r)(h':bG X f e):bG X f λc H Q=>r c H Q\/e c H Q:=by
 intro i s d H c j Q I g q;rcases q with q|q;.exact h _ s d H _ _ Q I g q
 .exact h' _ s d H _ _ Q I g q
def lT:bG X (.type "list") λA H Q=>∃p g,A=[.ref p]/\(SqL X.K H p g\/SqT X.K H p g)/\∀l,H l=none->Q (.ref l) (upd H l (.lst g)):=by
 intro t s D H A E Q I r h;refine iH h λp g z m q=>?_;subst z;obtain⟨u,rfl,C⟩:=vals1 r;cases C;have fin:∀(c:List Value),Vals g c->g.length<=sizeLine->∀(d:Heap)(i:Nat),(∀b B,s.heap.get? b=some B->d.get? b=some B)->d.get? s.heap.objs.size=some _->EP X t D Q _ _:=λc f k d i v e=>(fD (.ref s.heap.objs.size) _ (I.laid (t':=s.toks) v (arP _) (show cL X.prog X.w _ d _ (.lst g)from⟨k,c,i,f,e⟩)) rfl (q _ (I.hok.fresh (arP _))));rcases m with m|m;.obtain⟨c,f,pl,k⟩:=I.list m;have j:=f.length;obtain⟨o,x,y,n,w⟩:=pl.isList;exact call_list_seq p (.inl rfl) x y w (λd i v e=>fin c f k d i v e) (by grind)
 .obtain⟨c,f,pl,k⟩:=I.tuple m;have j:=f.length;obtain⟨o,x,y,n,w⟩:=pl;exact call_list_seq p (.inr rfl) x y w (λd i v e=>fin c f k d i v e) (by grind)
def rW:bG X (.type "tuple") λk H Q=>∃p c,k=[.ref p]/\((SqL X.K H p c/\∀l,H l=none->Q (.ref l) (upd H l (.tup c)))\/SqT X.K H p c/\Q (.ref p) H):=by
 intro m s z H k x Q I r h;obtain⟨p,c,rfl,h⟩:=h;obtain⟨u,rfl,t⟩:=vals1 r;cases t;rcases h with⟨f,q⟩|⟨f,q⟩;.obtain⟨d,g,pl,j⟩:=I.list f;have i:=g.length;refine call_tuple_list pl.isList (λy w=>?_) (by grind);have n:=I.kept (t':=s.toks) w;have v:=n.laid (t':=s.toks) (λb o e=>arK _ e) (arP _) (show cL _ X.w _ _ _ (.tup c)from⟨j,d,g,IsTup.new _ _⟩);exact fD (.ref _) _ v rfl (q _ (n.hok.fresh (arP _)))
 .obtain⟨d,g,pl,j⟩:=I.tuple f;exact call_tuple_same pl (fD (.ref p) H I rfl q)
def tyV(K:W.Frag)(T:String)(x:V)(H:Hp):Prop:=match x with|.str _=>T="str"|.int _=>T="int"|.ref p=>(T="list"/\∃d,SqL K H p d)\/(T="tuple"/\∃o,K.lookup p=some o/\o.cls=.type "tuple"/\o.dict=none)\/T="dict"/\((∃c,H p=some (.dK c))\/∃c,H p=some (.dT c))\/T="set"/\∃S n,H p=some (.set S n)|_=>False
def ala{pins}{σ:St}{H s T x v}(I:Inv X pins σ H s)(r:RelV x v)(ty:tyV X.K T x H):
 s.TypeIs v T/\∀a,v=.ref a->∃ob,s.heap.get? a=some ob/\ob.dict=none:=by cases x with|str z=>obtain⟨t,rfl⟩:=r;cases show T="str"from ty;exact⟨auj s z t,λ_ e=>nomatch e⟩|int i=>obtain⟨t,rfl⟩:=r;cases show T="int"from ty;exact⟨typeIs_int s i t,λ_ e=>nomatch e⟩|ref p=>
  cases r;rcases ty with⟨rfl,m,k⟩|⟨rfl,o,d,j,f⟩|⟨rfl,d⟩|⟨rfl,S,n,d⟩;.obtain⟨l,_,pl,_⟩:=I.list k;refine⟨pl.isList.typeIs,λa e=>?_⟩;cases e;obtain⟨o,n,e,c,f,_⟩:=pl;exact⟨o,e,f⟩
  .refine⟨⟨o,I.kIn p o d,j⟩,λa e=>?_⟩;cases e;exact⟨o,I.kIn _ o d,f⟩
  .have z:∃o,s.heap.get? p=some o/\o.ExactDict:=by
    rcases d with⟨g,d⟩|⟨g,d⟩;.obtain⟨_,_,_,_,o,_,_,e,ex,_⟩:=I.hok p _ d;exact⟨o,e,ex⟩
    .obtain⟨_,_,_,_,o,_,_,e,ex,_⟩:=I.hok p _ d;exact⟨o,e,ex⟩
   obtain⟨o,e,ex⟩:=z;refine⟨⟨o,e,ex.1⟩,λa h=>?_⟩;cases h;exact⟨o,e,ex.2.1⟩
  .obtain⟨o,_,_,_,e,ex,_⟩:=I.hok p _ d;refine⟨⟨o,e,ex.1⟩,λa h=>?_⟩;cases h;exact⟨o,e,ex.2.1⟩|_=>exact False.elim ty
def tBM(K:W.Frag)(T:String)(r:V->List V->Hp->VK->Prop)(f:TE)(t:TA):TE:=λc H Q=>f c H λx d=>tyV K T x d/\t c d λg e=>r x g e Q
variable{o e:Expr}{es:List Expr}{to:TE}{t:TA}{name:Str}{apos cpos:Pos}{T id:String}{r:V->List V->Hp->VK->Prop}
def o6(J:PlainAttrs T)(i:Slot T name id)(k:typeOf (.builtin id)=pure (.type "method_descriptor"))(A:MtR X id r)(P:PE X o to)(N:PA X (e::es) t)(g:attributeBase o name X.env (eval o X.env)=eval o X.env:=by rfl)(j:((backTo cpos (starEach (e::es) X.env)).all (λx=>!x.1)&&(backToKw cpos (keywordEach [] X.env)).all (λx=>x.1.isSome)&&decide ((e::es).length+([]:List Keyword).length+(if([]:List Keyword).isEmpty then 0 else 1)<30))=true:=by rfl)(f:(apos.endLine==cpos.line)=true:=by rfl)(C:SE X e es:=by rfl)(d:BT X cpos es:=by rfl):PE X (.Call (.Attribute o name apos) (e::es) [] cpos) (tBM X.K T r to t):=by intro c s l H Q I h;refine wpAny_Call_method_late g j f rfl (thn (P c s l H _ I h) λv E⟨x,u,m,n,ty,z⟩=>?_);obtain⟨w,q⟩:=ala m n ty;refine⟨T,id,J,i,k,w,q,?_⟩;have p:=N cpos c E l u _ m z;rw[C]at p⊢;refine Calls.callWith_builtin (by show(false||(backTo cpos (starEach es X.env)).any (·.1))=false;rw[d]<;>rfl) (auO ?_);exact thn p λB G⟨D,y,O,K,M⟩=>A c G l y x D v B Q O n K M
end
def MtM(X:Cx)(id:String)(r:V->List V->Hp->VK->Prop):Prop:=∀(a:List (Addr×Obj))(s:Shared)(b:St)(H:Hp)(x:V)(d:List V)(v:Value)(c:List Value)(Q:VK),Inv X a b H s->RelV x v->Vals d c->r x d H Q->wpAny (model X.prog X.w) X.A (call (.builtin id) (v::c)) (EP X a b Q) X.xe s
def Vals.one:∀{x us},Vals [x] us->∃u,us=[u]/\RelV x u|_,_,.cons r .nil=>⟨_,rfl,r⟩
theorem Vals.eraseIdx:∀{xs us}i,Vals xs us->Vals (xs.eraseIdx i) (us.eraseIdx i)|_,_,_,.nil=>.nil|_,_,0,.cons _ t=>t|_,_,i+1,.cons r t=>.cons r (Vals.eraseIdx i t)
theorem Vals.reverse{xs:List V}{us:List Value}(h:Vals xs us):Vals xs.reverse us.reverse:=by induction h with|nil=>exact .nil|cons r t ih=>rw[auo,auo];exact Vals.append ih (.cons r .nil)
theorem uf{a:Type}:∀(l:List a)i,(l.eraseIdx i).length<=l.length|[],_=>arP _|_::_,0=>atJ _|_::r,i+1=>Nat.succ_le_succ (uf r i)
section
variable{X:Cx}{pins:List (Addr×Obj)}{σ:St}{H:Hp}{s:Shared}{l b:Addr}{xs ys zs:List V}
def Inv.aqR{its its':List Value}{n f t'}(I:Inv X pins σ H s)(a:H l=some (.lst xs))(e:s.heap.get? l=some {cls:=.type "list",data:=.seq its.toArray n})(c:f its.toArray=its'.toArray)(d:Vals ys its')(hz:ys.length<=sizeLine):Inv X pins σ (upd H l (.lst ys)) {s with heap:=s.heap.update l (Obj.mapSeq f),toks:=t'}:=by have q:=PySem.IsL.update e f;rw[c]at q;refine I.write (by rw[a];exact trivial) (.inl rfl) (λi u g h=>(ar9 _ _ (arY g)).trans h) ⟨_,q⟩ ?_;exact⟨hz,_,_,d,q⟩
def Inv.apK{its t'}(I:Inv X pins σ H s)(a:Vals ys its)(hz:ys.length<=sizeLine):Inv X pins σ (upd H s.heap.objs.size (.lst ys)) {s with heap:=s.heap.push {cls:=.type "list",data:=.seq its.toArray},toks:=t'}:=I.laid (λ_ _ q=>arK _ q) (arP _) ⟨hz,_,0,a,arW _ rfl⟩
theorem Inv.fresh(I:Inv X pins σ H s):H s.heap.objs.size=none:=I.hok.fresh (arP _)
def Inv.aqQ(I:Inv X pins σ H s)(c:H l=some (.lst xs)):xs.length<=sizeLine/\∃a n,Vals xs a/\xs.length=a.length/\s.heap.get? l=some {cls:=.type "list",data:=.seq a.toArray n}:=by obtain⟨z,a,n,r,e⟩:=I.hok l _ c;exact⟨z,_,n,r,r.length,e⟩
end
section
variable{X:Cx}
def qW:V->List V->Hp->VK->Prop:=λx b H Q=>∃l a y,x=.ref l/\b=[y]/\H l=some (.lst a)/\a.length<sizeLine/\Q .non (upd H l (.lst (a++[y])))
def g9:MtM X "list.append" qW:=by intro d s t H x p v m Q I f j h;refine akK h λl o y b a c k q=>?_;subst b a;cases f;obtain⟨u,rfl,g⟩:=j.one;obtain⟨z,i,n,r,w,e⟩:=I.aqQ c;refine auk F.slot_list_append ⟨_,e,rfl⟩ F.entry_list_append (F.args_list_append_2 _ _) (PySem.list_append l _ n u (by grind)) ⟨e,.non,_,I.aqR c e (by simp) (r.append (.cons g .nil)) ?_,rfl,q⟩;rw[asm,auF];omega
def ahr:V->List V->Hp->VK->Prop:=λx b H Q=>∃l a i k y,x=.ref l/\b=[.int i]/\H l=some (.lst a)/\-2^63<=i/\i<2^63/\seqIndex? i a.length=some k/\a[k]?=some y/\Q y (upd H l (.lst (a.eraseIdx k)))
def af9:MtM X "list.pop" ahr:=by
 intro d s G H x E v D Q I j o h;obtain⟨l,m,i,k,y,rfl,rfl,c,g,f,C,A,q⟩:=h;cases j;obtain⟨u,rfl,p⟩:=o.one;obtain⟨t,rfl⟩:=p;obtain⟨z,a,n,r,B,e⟩:=I.aqQ c;obtain⟨w,hw,b⟩:=r.get A;refine auk F.slot_list_pop ⟨_,e,rfl⟩ F.entry_list_pop (F.args_list_pop_2 _ _) (MeetsSeq.list_pop_at l a.toArray n i t k w (fitsIndex_both g f) (by rw[asC,<-B];exact C) (by rw[<-atQ];exact hw) (by rw[asC];omega)) ⟨e,?_⟩;refine⟨y,_,I.aqR (its':=a.eraseIdx k) c e ?_ (r.eraseIdx k) ?_,b,q⟩;.show a.toArray.eraseIdxIfInBounds k=(a.eraseIdx k).toArray;rw[List.eraseIdxIfInBounds_toArray]
 .have:=uf m k;omega
end
end L2
namespace Att
open PySem PySem.W PySem.Calls PyProof.Rows
def om{P h}:∀c d,WellAll P h d (c.map WData.int)->IntsAre d c:=by intro c;induction c with|nil=>intro d w;cases w;exact .nil|cons n c ih=>intro d w;cases w with|cons a b=>cases a;exact .cons _ _ (ih _ b)
def abO{l:OpenLaw}{n}(t:l.most=some n){P h args c}(b:l.row.toRowW.claim.pre args=true)(i:WellAll P h c args):∃a m e,c=[Value.ref a]/\args=[WData.list (e.map WData.int)]/\h.get? a=some {cls:=.type "list",data:=.seq m.toArray}/\IntsAre m e/\e.length<=n:=by
 have k:l.pre.holds [] {args:=args}=true:=(pre_splitW b).2;refine iH (hasAllW_cons (pre_splitW b).1) λd r j s p=>?_;subst j;obtain rfl:=hasAllW_nil p;obtain⟨v,rfl,u⟩:=hasW_list s;obtain⟨e,rfl⟩:=items_int u;have f:e.length<=n:=by
  unfold OpenLaw.pre at k;have g:=by have g:=(holds_andW k).1;rw[t]at g;exact g
  have o:=condW_of g (w_not (w_lt w_lit (w_len_list (w_arg rfl))));rw[ar7]at o;refine auC λq=>?_;(simp at o;omega)
 cases i with|cons w1 w2=>cases w2;cases w1 with|list ho hall=>exact aki _ _ e rfl rfl ho (om e _ hall) f
def aci(l:OpenLaw)(a):l.row.toRowW.claim.post a (.bool true) a=true:=postW_of (rfl) (w_eq_bool (w_res rfl) w_lit) rfl
def xo{l:OpenLaw}{n q e M I d}(Z:l.most=some n)(y:d.params.defaults=[])(call:∀w c b v z k o E u h a j t,Ground q e [] M w c v z b.heap->I w b.heap->b.heap.get? k=some o->o.data=.func (docDef d.name d.params d.body d.scope E u h)->b.heap.CodeRec u d.name->v d.name=some (.ref k)->b.heap.get? a=some {cls:=.type "list",data:=.seq j.toArray}->IntsAre j t->t.length<=n->b.gens=#[]->codeAny (model l.prog w) callerA (.call (.ref k) ⟨[.ref a],[]⟩) (λr x=>r=.ok (.ret (.bool true))/\OldK b.heap x.heap/\x.os=b.os/\AllBare x.gens) b):WalkO q e M I l.row.toRowW d [] λf j=>PySem.call f j:=by intro w c b v z G Y k o E u h T kV S Q D J B P H K as s N a0 A X;obtain rfl:T=.none:=Dflts.none J y;obtain rfl:kV=.none:=Dflts.noKw J;refine akK (abO Z s A) λa j t i C p g m=>?_;subst i C;refine enter_call (at9 (call w c b v z k o E u h a j t G Y S (fd_plain Q) D B p g m P) λr x U=>?_);refine anF U λi O h3 h4=>?_;subst i;exact⟨.inl (aki _ (.bool true) [] rfl (λ_=>rfl) (.bool true) (aci l _) λ_=>⟨List.Pairwise.nil,λ_ R=>nomatch R⟩),O,h3,h4⟩
end Att
namespace L2
open PySem PySem.Spec PyProof.Rows
theorem sx:∀{vs ns},IntsAre vs ns->Vals (ns.map V.int) vs|_,_,.nil=>.nil|_,_,.cons n t h=>.cons ⟨t,rfl⟩ (sx h)
def aqm(H:Hp):Prop:=∀b,H b=none\/∃o a,H b=some (.frz o (.lst a))
def agk{P w K I O CX k T a fd x sp c vs ns}(KX:K.In c.heap)(J:c.heap.Ns mainGlobals I)(g:c.heap.Ns builtinsNs O)(X:∀x:Str,x≠"__name__"->O x=bootBuiltins x)(G:c.heap.NoLimit)(hg:c.gens=#[])(U:c.heap.get? a=some {cls:=.type "list",data:=.seq vs.toArray})(hi:IntsAre vs ns)(hl:ns.length<=sizeLine)(hr:Room k callerA)(F:∀i,K.In i->i.Ns mainGlobals I->FnOk P w K I i CX k T fd [x] sp)(t:∀s u,BindsTo s fd ⟨[u],[]⟩ [(x,u)])(Y:∀H,aqm H->SqL K H a (ns.map V.int)->sp [.ref a] H (λv _=>v=.bl true) λ_ _ _=>False)(Q:∀H e j,CX [] H c (λ_ _ _=>False) e j->False):codeAny (model P w) callerA (.call (.ref T) ⟨[.ref a],[]⟩) (λr j=>r=.ok (.ret (.bool true))/\OldK c.heap j.heap/\j.os=c.os/\AllBare j.gens) c:=by
 have rv:=sx hi;have y:=hi.length;-- from an abstract heap in which nothing but the script may be tracked
 have p:∀H:Hp,aqm H->SqL K H a (ns.map V.int)->HOk P w H c.heap->(∀b,H b≠none->b=a)->(H a≠none->K.lookup a=none)->codeAny (model P w) callerA (.call (.ref T) ⟨[.ref a],[]⟩) (λr j=>r=.ok (.ret (.bool true))/\OldK c.heap j.heap/\j.os=c.os/\AllBare j.gens) c:=by
  intro H hO hS D hA hK;have f:∀{b:Addr}{o:Obj},c.heap.get? b=some o->H b=none->(agx c.heap H).get? b=some o:=λe n=>agw e n;have R:∀{b:Addr}{o:Obj}{M:Array DictEntry}{N:Nat},c.heap.get? b=some o->o.data=.dict M N->H b=none:=λ{b o M N}e d=>by grind
  have l:∀{b:Addr}{m:Str->Option Value},c.heap.Ns b m->(agx c.heap H).Ns b m:=λ{b m}⟨o,M,N,e,d,r⟩=>⟨o,M,N,f e (R e d),d,r⟩;have C:K.In (agx c.heap H):=λb o e=>f (KX b o e) (by cases q:H b with|none=>rfl|some u=>have e':b=a:=hA b (by rw[q];simp);subst e';rw[hK (by rw[q];simp)]at e;cases e);have hM:Mod K I (agx c.heap H):=⟨C,l J,⟨O,l g,X⟩,let⟨mc,h1,h2⟩:=G;⟨mc,l h1,h2⟩⟩;have e0:Env0 P w K I (agx c.heap H) callerA [] c H:=⟨rfl,hM,λb o e=>ajl e,auL (ads _ _),trivial,λb g=>absurd (show b∈([]:List Addr)from g) (by simp),D,.of_eq hg⟩;refine at9 ((F _ C (l J)).run callerA [] c H ⟨[.ref a],[]⟩ [.ref a] [.ref a] _ _ hr trivial e0 (t c (.ref a)) (.cons rfl .nil) (Y H hO hS)) λr j h=>?_;cases r with|error e=>exact(Q H e j h).elim|ok fl=>cases fl with|next|brk|cont=>exact False.elim h|ret u=>obtain⟨v,H',os,B,un,A,r',q⟩:=h;have q':v=.bl true:=q;subst q';obtain rfl:u=Value.bool true:=r';refine⟨rfl,OldK.of_keep λb o e=>?_,os,B⟩;cases q:H b with|none=>exact un.keep b o e q (by intro z;exact absurd (show b∈([]:List Addr)from z) (by simp)) (by simp)|some u=>
     rcases hO b with z|⟨ob,xs,z⟩;.rw[q]at z;cases z
     .have z2:=un.frzs b ob _ z;obtain⟨Z,_⟩:=D b _ z;obtain⟨e2,_⟩:=A b _ z2;rw[e]at Z;cases Z;exact e2
 cases S:K.lookup a with|some o=>-- the script is one of the module's own objects
 have e:=KX a o S;rw[U]at e;cases e;refine p (λ_=>none) (λ_=>.inl rfl) (.inr ⟨_,vs.toArray,_,S,rfl,rfl,rfl,by rw[asC,y];exact hl,by simpa using rv⟩) (λb u z=>by have E:(none:Option HO)=some u:=z;cases E) (λb z=>absurd rfl z) λz=>absurd rfl z|none=>
  refine p (λb=>if b=a then some (.frz {cls:=.type "list",data:=.seq vs.toArray} (.lst (ns.map V.int)))else none) (λb=>?_) (.inl (.inr ⟨{cls:=.type "list",data:=.seq vs.toArray},arM rfl⟩)) (λb u z=>?_) (λb z=>?_) λ_=>S
  .by_cases g:b=a;.exact .inr ⟨_,_,arM g⟩
   .exact .inl (arO g)
  .by_cases g:b=a;.have E:=(arM g).symm.trans z;cases E;subst g;exact⟨U,by rw[ar7];exact hl,vs,_,rv,U⟩
   .have E:=(arO g).symm.trans z;cases E
  .by_cases g:b=a;.exact g
   .exact absurd (arO g) z
def aiq{l:W.OpenLaw}{n k q i R J d}{K:Params->W.Frag}{CX:World->CXT}{sp:World->Sp}{x}(T:l.most=some n)(z:n<=sizeLine)(y:d.params.defaults=[])(X:Room k callerA)(Q:∀w h,J w h->(K w.params).In h)(F:∀w j r h,(K w.params).In h->h.Ns mainGlobals j->j d.name=some (.ref r)->∃C,(∀s u,BindsTo s C ⟨[u],[]⟩ [(x,u)])/\∀b,(K w.params).In b->b.Ns mainGlobals j->FnOk l.prog w (K w.params) j b (CX w) k r C [x] (sp w))(D:∀w H a(t:List Int),t.length<=n->aqm H->SqL (K w.params) H a (t.map V.int)->sp w [.ref a] H (λv _=>v=.bl true) λ_ _ _=>False)(B:∀w H s e E,CX w [] H s (λ_ _ _=>False) e E->False):W.WalkO q i R J l.row.toRowW d [] λf N=>PySem.call f N:=by refine Att.xo T y λw M p j mb r o pm cd Z a N t G Y ho hd a0 A m g c O=>?_;have I:=Q w _ Y;refine de (F w j r _ I G.T.g A) λC P hF=>?_;exact agk I G.T.g G.T.b G.T.builtins G.T.nolimit O m g (arU c z) X hF P (λH U S=>D w H a t c U S) λH e E=>B w H p e E
noncomputable def bE(s:Stmt):Arguments:=match s with|.FunctionDef _ a _ _ _ _ _ _ _ _=>a|_=>{posonlyargs:=[],args:=[],vararg:=none,kwonlyargs:=[],kw_defaults:=[],kwarg:=none,defaults:=[]}
noncomputable def aL(s:Stmt):List Stmt:=match s with|.FunctionDef _ _ b _ _ _ _ _ _ _=>b|_=>[]
noncomputable def af(s:Stmt):Scope:=match s with|.FunctionDef _ _ _ _ _ _ sc _ _ _=>sc|_=>{kind:=.function,names:=[],isGenerator:=false,isCoroutine:=false}
abbrev CX0:CXT:=λ_ _ _ _ _ _=>False
abbrev E0:XK:=λ_ _ _=>False
def alZ{X}:Passes CX0 X E0:=λ_ _ _ _ _ _ _ h=>h.elim
structure Fun(K:W.Frag)(x qual:Str)(st:Stmt)(f:Addr)(fd:FuncData):Prop where
 ex:∃(oc:Value)(od:Option Addr)(kV doc pm:Value)(an:Option Addr)(cdv ct:Value)(osl:Array (Option Value)),fd=W.fnOf x qual (bE st) (aL st) (af st) .none kV doc pm an cdv ct/\K.lookup f=some ⟨oc,od,.func fd,osl⟩/\W.codeIn K cdv qual=true
 kp:W.keepIn K (.ref f)=true
section
variable{P:Program}{w:World}{K:W.Frag}{mg:Str->Option Value}{base:Heap}
def Fun.ok{x b st f l N ps k sp}(F:Fun K x b st f l)(S:FnScope N ps (af st))(len:∀e H Q E,sp e H Q E->e.length=ps.length)(d:∀c A a s H e Q E,Room k (A.deeper (envOfC b (af st) s.heap.objs.size f c))->sp e H Q E->∃t,PSs (fA CX0 P w K mg base N b (af st) f c A a s H E).nox (aL st) t/\t {nx:=λ_ r=>Q .non r,rt:=Q} (start N e) H):FnOk P w K mg base CX0 (k+1) f l ps sp:=by refine ahW F.ex λv od kV p y u c ct n j m i=>?_;subst j;refine wH m i S len λA a s H e Q E o _ g=>?_;obtain⟨t,h,q⟩:=d _ A _ s H _ Q E o g;exact⟨t,h.nox,q⟩
def Fun.binds{x a st f i ps}(F:Fun K x a st f i)(h:∀kV c j g b ct d,d.length=ps.length->bindArgs (W.fnOf x a (bE st) (aL st) (af st) .none kV c j g b ct) ⟨d,[]⟩=pure (ps.zip d)):Binds K i ps []:=by refine ahW F.ex λn od kV c j g b ct k e m l=>?_;subst e;exact .all (h _ _ _ _ _ _)
def adA{x a st f i od e g kV d h b ct}(l:K.lookup f=some ⟨i,od,.func (W.fnOf x a (bE st) (aL st) (af st) .none kV d h e b ct),g⟩)(c:W.codeIn K b a=true)(k:W.keepIn K (.ref f)=true):Fun K x a st f (W.fnOf x a (bE st) (aL st) (af st) .none kV d h e b ct):=⟨⟨i,od,kV,_,h,e,_,ct,_,rfl,l,c⟩,k⟩
end
section
variable{X:Cx}
def pv(i){x pos}(b:X.N[i]?=some x:=by rfl)(c:Vis X.env.scope x:=by first|exact Or.inl rfl|exact Or.inr (Or.inl rfl)|exact Or.inr (Or.inr rfl))(d:Dbg x:=by decide)(a:(x=="__classdict__")=false:=by decide):PE X (.Name x pos) (fE i):=alR b c d a
end
def av(H H':Hp):Prop:=∀b o,H b=some o->H' b=some o
def av.refl(H):av H H:=λ_ _ h=>h
def av.trans{H d e}(a:av H d)(b:av d e):av H e:=λc o h=>b c o (a c o h)
def av.free{H H'}(e:av H H'){l}(h:H' l=Option.none):H l=Option.none:=by cases q:H l with|none=>rfl|some o=>rw[e l o q]at h;cases h
def av.seq{K H H' a xs}(e:av H H')(h:SqL K H a xs):SqL K H' a xs:=by
 rcases h with(h|⟨o,h⟩)|h;.exact .inl (.inl (e _ _ h))
 .exact .inl (.inr ⟨o,e _ _ h⟩)
 .exact .inr h
end L2
set_option maxHeartbeats 4000000
namespace FM
noncomputable def nx(x:Int):Int:=if x=200 then -200 else x+1
noncomputable def xk(x:Int):Nat->Int|0=>x|k+1=>nx (xk x k)
abbrev S3:=Int×Int×Int
noncomputable def tq(p:S3):S3:=(-p.2.1,p.1,(p.2.2+1)%4)
noncomputable def tqn:Nat->S3->S3|0,p=>p|n+1,p=>tq (tqn n p)
noncomputable def lt(q:Int)(p:S3):S3:=let r:=q%4;if r=0 then(p.1,p.2.1,(p.2.2+q)%4)else if r=1 then(0-p.2.1,p.1,(p.2.2+q)%4)else if r=2 then(0-p.1,0-p.2.1,(p.2.2+q)%4)else(p.2.1,0-p.1,(p.2.2+q)%4)
def Good(p:S3):Prop:=-200<=p.1/\p.1<=200/\-200<=p.2.1/\p.2.1<=200/\0<=p.2.2/\p.2.2<4
def mP(a b)(p):tqn a (tqn b p)=tqn (a+b) p:=by induction a with|zero=>rw[avv];rfl|succ a ih=>rw[Nat.succ_add];simp [tqn,ih]
def aqu(p)(h:Good p):tqn 4 p=p:=by obtain⟨x,y,f⟩:=p;obtain⟨_,_,_,_,d,a⟩:=h;have b:0<=f:=d;have c:f<4:=a;simp[tqn,tq];omega
def aiw(p)(h:Good p):Good (tq p):=by simp only[Good,tq]at *;omega
def afj(n)(p)(h:Good p):Good (tqn n p):=by induction n with|zero=>exact h|succ n ih=>exact aiw _ ih
theorem hE{f}:∀(l:List S3),(∀p∈l,f p=p)->l.map f=l|[],_=>rfl|p::l,h=>by rw[arZ,h p ash,hE l λq a=>h q (asp _ a)]
theorem fb{f g:S3->S3}:∀(l:List S3),(∀p∈l,f p=g p)->l.map f=l.map g|[],_=>rfl|p::l,h=>by rw[arZ,arZ,h p ash,fb l λq a=>h q (asp _ a)]
abbrev S3B:=Int×Int×Int
noncomputable def lx:List Int->List Int->Bool|[],[]=>false|[],_::_=>true|_::_,[]=>false|x::xs,y::ys=>if x=y then lx xs ys else decide (x<y)
theorem acU:∀a,lx a a=false|[]=>rfl|x::xs=>by simp [lx];exact acU _
theorem ahB:∀a b,lx a b=false->lx b a=false->a=b
|[],[],_,_=>rfl|[],_::_,h,_=>by simp[lx]at h|_::_,[],_,h=>by simp[lx]at h|x::xs,y::ys,h1,h2=>by
 simp only[lx]at h1 h2;by_cases e:x=y;.subst e;simp  at h1 h2;rw[ahB xs ys h1 h2]
 .have c:¬y=x:=λz=>e z.symm;simp [e,c]at h1 h2;omega
theorem yC:∀a b c,lx a b=true->lx b c=true->lx a c=true
|[],[],_,h,_=>by omega|[],_::_,[],_,h=>by simp[lx]at h|[],_::_,_::_,_,_=>rfl|_::_,[],_,h,_=>by simp[lx]at h|_::_,_::_,[],_,h=>by simp[lx]at h|x::xs,y::ys,z::zs,h1,h2=>by
  simp only[lx]at h1 h2⊢;by_cases e:x=y
  .subst e;simp only[ate]at h1;by_cases d:x=z;.subst d;simp only[ate]at h2⊢;exact yC xs ys zs h1 h2
   .simp only[d,asW]at h2⊢;exact h2
  .simp only[e,asW,asy]at h1;by_cases d:y=z;.subst d;simp only[e,asW,asy];exact h1
   .simp only[d,asW,asy]at h2;have f:¬x=z:=by omega
    simp only[f,asW,asy];omega
noncomputable def flat:List S3B->List Int|[]=>[]|p::l=>p.1::p.2.1::p.2.2::flat l
theorem yU:∀f g,flat f=flat g->f=g|[],[],_=>rfl|[],_::_,h=>by simp[flat]at h|_::_,[],h=>by simp[flat]at h|p::f,q::g,h=>by obtain⟨d,e,k⟩:=q;simp [flat]at h;obtain⟨b,a,i,c⟩:=h;subst b a i;rw[yU f g c]
noncomputable def pick(fs:Nat->List S3B):Nat->List S3B|0=>fs 0|k+1=>if lx (flat (fs (k+1))) (flat (pick fs k))=true then fs (k+1)else pick fs k
theorem gi(fs):∀k,∃i,i<=k/\pick fs k=fs i
|0=>⟨0,arP _,rfl⟩|k+1=>by
 simp [pick];split;.exact⟨_,arP _,rfl⟩
 .obtain⟨i,a,e⟩:=gi _ k;exact⟨i,by omega,e⟩
theorem qY(fs):∀k i,i<=k->lx (flat (fs i)) (flat (pick fs k))=false
|0,i,hi=>by
  have:i=0:=by omega
  subst this;exact acU _|k+1,i,hi=>by
  simp [pick];split
  .rename_i a;by_cases e:i=k+1;.subst e;exact acU _
   .cases q:lx _ _ with|false=>rfl|true=>have z:=yC _ _ _ q a;rw[qY fs k i (by omega)]at z;cases z
  .rename_i a;by_cases e:i=k+1;.subst e;simpa using a
   .exact qY fs k i (by omega)
def acm{fs c k}(l:∀i,i<=k->∃j,j<=k/\fs i=c j)(h:∀i,i<=k->∃j,j<=k/\c i=fs j):pick fs k=pick c k:=by obtain⟨i,o,n⟩:=gi fs k;obtain⟨j,p,m⟩:=gi c k;obtain⟨q,g,f⟩:=l i o;obtain⟨r,d,e⟩:=h j p;have a:=qY fs k _ d;have b:=qY c k _ g;rw[<-e,<-m]at a;rw[<-f,<-n]at b;exact yU _ _ (ahB _ _ b a)
noncomputable def best(a:Nat->Nat->Bool):Nat->Nat|0=>0|k+1=>if a (k+1) (best a k)then k+1 else best a k
theorem xj(a):∀k,best a k<=k|0=>arP _|k+1=>by simp [best];have:=xj a k;split<;>omega
theorem tM{fs a n}(h:∀i j,i<=n->j<=n->a i j=lx (flat (fs i)) (flat (fs j))):∀k,k<=n->pick fs k=fs (best a k)|0,_=>rfl|k+1,hk=>by have b:=xj a k;simp [pick,best,tM h k (by omega),h _ (best a k) hk (by omega)];split<;>rfl
def abr{f:List S3B}(b:∀p∈f,Good p):∀k,f.map (tqn k)=f.map (tqn (k%4)):=by
 intro k;apply fb;intro p a;have e:k=k%4+4*(k/4):=by omega
 have all:∀j,tqn (4*j) p=p:=by intro j;induction j with|zero=>rfl|succ j ih=>rw[Nat.mul_succ,Nat.add_comm,<-mP,ih,aqu p (b p a)]
 have z:tqn (k%4) (tqn (4*(k/4)) p)=tqn k p:=by rw[mP,<-e]
 rw[<-z,all]
def oq{f:List S3B}(a:∀p∈f,Good p)(q)(c:q<=3):pick (λi=>(f.map (tqn q)).map (tqn i)) 3=pick (λi=>f.map (tqn i)) 3:=by
 have e:∀i,(f.map (tqn q)).map _=f.map _:=λi=>by rw[asM,<-abr a (i+q)];apply fb;intro p _;exact mP i q p
 refine acm (λi b=>⟨_,by omega,e i⟩) λi b=>⟨(i+(4-q))%4,by omega,?_⟩;rw[e];congr 2;omega
end FM
set_option autoImplicit true
set_option relaxedAutoImplicit true
namespace L2
open PySem PySem.Spec PyProof.Rows
noncomputable def cW(a:List (Str×Addr)):List (Str×NameKind)->List (Str×Addr)->List (Str×Addr)|[],acc=>acc|(n,k)::r,acc=>if k==.free then match a.lookup n with|some c=>cW a r ((n,c)::acc)|none=>cW a r acc else cW a r acc
def gy (h:∀y∈scope.names,y.2=.free->(env.cells.lookup y.1).isSome=true):closureFor scope env=pure (cW env.cells scope.names []):=by
 have all:∀(a:List (Str×NameKind))(b:List (Str×Addr)),(∀y∈a,y.2=.free->(env.cells.lookup y.1).isSome=true)->(forIn a b λ(x:Str×NameKind)r=>match x with|(name,kind)=>if(kind==NameKind.free)=true then do let c <-cellOf env name;pure (ForInStep.yield ((name,c)::r))else pure (ForInStep.yield r))=pure (cW env.cells a b):=by intro a;induction a with|nil=>intro b _;rfl|cons y r ih=>
   intro b l;obtain⟨n,k⟩:=y;rw[List.forIn_cons];have j:=λd=>ih d λz m=>l z (asp _ m);by_cases g:(k==NameKind.free)=true
   .have f:k=.free:=by simpa using g
    obtain⟨c,i⟩:=atu.mp (l (n,k) ash f);have o:cellOf env n=pure c:=by unfold cellOf;rw[i]
    simp only[cW,g,ate,i];rw[o];simpa using j ((n,c)::b)
   .simp only[cW,g,asW];simpa using j b
 have e:=all scope.names [] h;unfold closureFor;(simpa using e)
theorem cB :∀b a,(cW cells b a).lookup x=some c->a.lookup x=some c\/cells.lookup x=some c
|[],a,h=>.inl h|(n,k)::r,a,h=>by
 unfold cW at h;split at h;.cases e:cells.lookup n with|none=>rw[e]at h;exact cB r _ h|some d=>
  rw[e]at h;rcases cB r _ h with q|q
  .rw[as2]at q;split at q;.exact .inr (by grind)
   .exact .inl q
  .exact .inr q
 .exact cB r _ h
theorem gz :∀b(a:List (Str×Addr)),(a.lookup x).isSome=true->((cW cells b a).lookup x).isSome=true
|[],a,h=>h|(n,k)::r,a,h=>by
 unfold cW;split;.cases e:cells.lookup n with|none=>exact gz r _ h|some d=>
  refine gz r _ ?_;rw[as2];split;.rfl
  .exact h
 .exact gz r _ h
theorem k9 :∀a f,(x,NameKind.free)∈a->(cells.lookup x).isSome=true->((cW cells a f).lookup x).isSome=true
|(n,k)::r,f,g,b=>by
 rcases ar4.mp g with e|g;.cases e;obtain⟨c,b⟩:=atu.mp b;unfold cW;simp only[b];refine gz r _ ?_;simp
 .unfold cW;split;.cases e:cells.lookup n with|none|some d=>exact k9 r _ g b
  .exact k9 r _ g b
theorem bU{a:Env}{x}:∀{b:List (Str×NameKind)}{k},(b.map λ(n,k)=>if k==NameKind.free&&a.scope.kind==.function&&a.kindOf n==some .cell then(n,NameKind.cell)else(n,k)).lookup x=some k->b.lookup x=some k\/k=.cell/\b.lookup x=some .free
|[],_,h=>by simp at h|(n,k0)::r,k,h=>by
  have g:=@bU a x r k;have c:List.lookup x ((if(k0==NameKind.free&&a.scope.kind==.function&&a.kindOf n==some .cell)=true then(n,NameKind.cell)else(n,k0))::r.map λ(n,k)=>if k==NameKind.free&&a.scope.kind==.function&&a.kindOf n==some .cell then(n,NameKind.cell)else(n,k))=some k:=h
  cases e:x==n with|true=>
   rw[as2,e];by_cases d:(k0==NameKind.free&&a.scope.kind==.function&&a.kindOf n==some .cell)=true
   .rw[arM d,as2,e]at c;have f:k0=.free:=by simp only[asj]at d;simpa using d.1.1
    cases c;exact .inr ⟨rfl,by rw[f]⟩
   .rw[arO d,as2,e]at c;exact .inl c|false=>
   rw[as2,e];by_cases d:(k0==NameKind.free&&a.scope.kind==.function&&a.kindOf n==some .cell)=true;.rw[arM d,as2,e]at c;exact g c
   .rw[arO d,as2,e]at c;exact g c
section
variable{X:Cx}{pins:List (Addr×Obj)}{σ:St}{H:Hp}{s:Shared}
def HOk.abq{P w h a o}(x:HOk P w H h)(f:H a=none)(new:cL P w (upd H a o) h a o):HOk P w (upd H a o) h:=λb u e=>by
 by_cases d:b=a;.subst d;rw[ao]at e;cases e;exact new
 .rw[ag d]at e;exact(x b u e).vy (λc v _ q=>q) (λc q=>by rw[ag (aP q f)];exact q) λc g q=>by rw[ag (aP q f)];exact q
theorem Inv.abq (I:Inv X pins σ H s)(hn:H a=none)(ha:X.s₀.heap.objs.size<=a)(hL:a≠X.env.locals)(hc:∀x c,X.env.cells.lookup x=some c->c≠a)(hp:∀p∈X.pn++pins,p.1≠a)(new:cL X.prog X.w (upd H a o) s.heap a o):Inv X pins σ (upd H a o) s where
 ok:=I.ok;os:=I.os;bare:=I.bare;base:=⟨I.base.keep,I.base.slot,λb u q n hx=>by rw[ag (ar0 (arS (arV q) ha))];exact I.base.free b u q n hx,I.base.there,λb xs q=>by have z:=I.base.tups b xs q;rw[ag (aP z hn)];exact z,λb u v q=>by have z:=I.base.frzs b u v q;rw[ag (aP z hn)];exact z,λb ps q=>by obtain⟨more,z⟩:=I.base.tbls b ps q;exact⟨more,by rw[ag (aP z hn)];exact z⟩⟩;loc:=I.loc;cell:=I.cell;free:=by rw[ag (arY hL)];exact I.free
 freeC:=λx c e=>by rw[ag (hc x c e)];exact I.freeC x c e
 pin:=λp hp'=>by obtain⟨e,n,r⟩:=I.pin p hp';exact⟨e,by rw[ag (hp p hp')];exact n,r⟩
 hok:=I.hok.abq hn new;len:=I.len
end
abbrev Cx.tri(X:Cx)(E:Value->Shared->Prop)(pn:List (Addr×Obj)):Cx:={X with xe:=E,pn:=pn}
theorem Cx.Ok.tri{X:Cx}(ok:X.Ok)(E)(a):(X.tri E a).Ok:=⟨ok.mod,ok.kind,ok.glob,ok.blt,ok.above,ok.inj,ok.has,ok.cab,ok.hd,ok.frames,ok.stk,ok.exf,ok.bs,ok.bsz,ok.noex,ok.exfs,ok.r9,ok.frf⟩
section
variable{X:Cx}{pins:List (Addr×Obj)}{σ:St}{H:Hp}{s:Shared}
theorem Inv.tri(I:Inv X pins σ H s)(E:Value->Shared->Prop):Inv (X.tri E (X.pn++pins)) [] σ H s:=⟨I.ok.tri E _,I.os,I.bare,I.base,I.loc,I.cell,I.free,I.freeC,λp a=>I.pin p (by simpa using a),I.hok,I.len⟩
end
noncomputable def hd1(y:Str):Str:=⟨y.cps.push 32⟩
def hid(scope:Scope)(y:Str):Str:=match scope.names.lookup y with|some .local=>hd1 y|_=>y
set_option tactic.hygienic true
def amW (h:hid scope y=x):x=hd1 y/\scope.names.lookup y=some .local\/x=y/\scope.names.lookup y≠some .local:=by
 unfold hid at h;split at h;.rename_i e;exact .inl ⟨h.symm,e⟩
 .rename_i e;exact .inr ⟨h.symm,e⟩
set_option tactic.hygienic false
abbrev Cx.comp(X:Cx)(scope:Scope)(C:Addr)(ts:List Str)(b:Shared)(a:Hp)(c:List Addr):Cx:={X with N:=ts++X.N.map (hid scope),s₀:=b,H₀:=a,env:=compEnvC scope (cW X.env.cells scope.names []) C X.env,outer:=X.stack,stack:=X.stack,ex:=c,fn:=λ_=>false,pn:=[],xe:=λ_ _=>False}
structure CompLook(X:Cx)(scope:Scope):Prop where
 kind:scope.kind=.function
 nocell:scope.names.all λy=>y.2!=.cell=true
 names:scope.names.all λy=>y.2!=.local||scope.names.lookup y.1==some .local=true
 free:scope.names.all λy=>y.2!=.free||X.env.scope.names.lookup y.1==some .cell||X.env.scope.names.lookup y.1==some .free=true
 apart:(scope.names.all λy=>(scope.names.lookup (hd1 y.1)).isNone)=true
structure CompScope(X:Cx)(scope:Scope)(ts:List Str):Prop where
 kind:scope.kind=.function
 nocell:∀y∈scope.names,y.2≠.cell
 names:∀y∈scope.names,y.2=.local->scope.names.lookup y.1=some .local
 free:∀y∈scope.names,y.2=.free->X.env.scope.names.lookup y.1=some .cell\/X.env.scope.names.lookup y.1=some .free
 apart:∀y∈scope.names,scope.names.lookup (hd1 y.1)=none
theorem CompLook.scope{X:Cx}{scope:Scope}{ts:List Str}(L:CompLook X scope):CompScope X scope ts where
 kind:=L.kind;nocell:=λy hy=>by simpa using asx.mp L.nocell y hy
 names:=λy hy e=>by have h:=asx.mp L.names y hy;rw[e]at h;simpa using h
 free:=λy hy e=>by have h:=asx.mp L.free y hy;rw[e]at h;simpa using h
 apart:=λy hy=>by simpa using asx.mp L.apart y hy
noncomputable def acK:List Str->Bool|[]=>true|x::r=>!(r.any λy=>decide (y=x))&&acK r
theorem yx:∀{N},acK N=true->N.Nodup|[],_=>List.nodup_nil|x::r,h=>by simp [acK]at h;exact as5.mpr ⟨λa=>h.1 x a rfl,yx h.2⟩
section
variable{X:Cx}{pins:List (Addr×Obj)}{σ:St}{H:Hp}{s:Shared}
def xb{scope:Scope}{ts:List Str}{C:Addr}{fp:List Addr}(S:CompScope X scope ts)(I:Inv X pins σ H s)(hf:∀b∈fp,zk X pins H b)(hfl:∀b∈fp,b<s.heap.objs.size)(hC:s.heap.objs.size<=C):(X.comp scope C ts s H fp).Ok where
 mod:=I.ok.mod;kind:=S.kind;glob:=I.ok.glob;blt:=I.ok.blt;above:=hC;inj:=λx y c e1 e2=>by have q1:=(cB scope.names [] e1).resolve_left (by simp);have q2:=(cB scope.names [] e2).resolve_left (by simp);exact I.ok.inj x y c q1 q2
 has:=λx hx=>by
  have hx':scope.names.lookup x=some .free:=by
   rcases hx with hx|hx
   .rcases bU hx with q|⟨_,q⟩;.exact absurd rfl (S.nocell _ (asB q))
    .exact q
   .rcases bU hx with q|⟨q,_⟩;.exact q
    .cases q
  have hm:=asB hx';obtain⟨c,hc⟩:=I.ok.has x (S.free _ hm rfl);exact atu.mp (k9 scope.names [] hm (by rw[hc];rfl))
 cab:=λx c h _=>by cases h
 hd:=I.ok.hd;frames:=I.ok.frames;stk:=.inl rfl;exf:=λb hb=>⟨ar0 (arS (hfl b hb) hC),λx c e=>by have q:=(cB scope.names [] e).resolve_left (by simp);exact(hf b hb).2.2.2.2.1 x c q⟩;bs:=I.bs;bsz:=arU I.ok.bsz I.sz;noex:=λb o e hb=>by
  rcases(hf b hb).2.2.2.1 with z|z;.exact I.ok.noex b o e z
  .exact absurd (arS (arV e) (arU I.ok.bsz z)) (asT _)
 exfs:=λb hb z=>by
  rcases ar4.mp (I.xU b z)with e|e;.exact(hf b hb).2.1 e
  .exact(hf b hb).2.2.1 e
 r9:=I.stack;frf:=I.vw
def aaE{scope:Scope}{ts:List Str}{C:Addr}{fp:List Addr}{s4:Shared}(S:CompScope X scope ts)(I:Inv X pins σ H s)(hf:∀b∈fp,zk X pins H b)(hfl:∀b∈fp,b<s.heap.objs.size)(hC:s.heap.objs.size<=C)(ho:s4.os=s.os)(hg:s4.gens=s.gens)(hk:∀b o,s.heap.get? b=some o->s4.heap.get? b=some o){m:Str->Option Value}(hn:s4.heap.Ns C m):Inv (X.comp scope C ts s H fp) [] (List.replicate ts.length none++σ) H s4 where
 ok:=xb S I hf hfl hC;os:=ho;bare:=by rw[hg];exact I.bare
 base:=Un.kept hk;loc:=⟨m,hn,λi x v e1 e2 e3=>by
  have hi:ts.length<=i:=by
   rcases Nat.lt_or_ge i ts.length with h|h;.rw[arX (by simpa using h),atc]at e2;simp[h]at e2
   .exact h
  rw[ar8 (by simpa using hi)]at e2;rw[ar8 hi]at e1;simp only[atn]at e2;rw[ar3]at e1;obtain⟨y,ey,hy⟩:=asf.mp e1;have hv:scope.names.lookup x≠none:=by
   rcases e3 with q|q|q;.rcases bU q with q|⟨_,q⟩<;>(rw[q];exact nofun)
   .rcases bU q with q|⟨_,q⟩<;>(rw[q];exact nofun)
   .rcases bU q with q|⟨_,q⟩<;>(rw[q];exact nofun)
  have hxy:x=y/\scope.names.lookup y≠some .local:=by
   rcases amW hy with z|z;.exact absurd (by rw[z.1];exact S.apart _ (asB z.2)) hv
   .exact z
  have e1:X.N[i-ts.length]?=some x:=by rw[ey,hxy.1]
  have hap:scope.names.lookup x≠some .local:=by rw[hxy.1];exact hxy.2
  have hfree:scope.names.lookup x=some .free:=by
   rcases e3 with q|q|q
   .rcases bU q with q|⟨q,_⟩;.exact absurd q hap
    .cases q
   .rcases bU q with q|⟨_,q⟩;.exact absurd rfl (S.nocell _ (asB q))
    .exact q
   .rcases bU q with q|⟨q,_⟩;.exact q
    .cases q
  have hm:=asB hfree;have hk0:=S.free _ hm rfl;obtain⟨m0,_,hl⟩:=I.loc;obtain⟨u,r,l⟩:=hl (i-ts.length) x v e1 e2 (hk0.elim (λq=>.inr (.inl q)) λq=>.inr (.inr q));refine⟨u,r,?_⟩;rcases l with⟨kl,_⟩|⟨_,c,ec,z⟩
  .exfalso;have kl':X.env.scope.names.lookup x=some .local:=kl;rcases hk0 with q|q;.rw[q]at kl';cases kl'
   .rw[q]at kl';cases kl'
  .have kk:(X.comp scope C ts s H fp).env.kindOf x=some .cell\/(X.comp scope C ts s H fp).env.kindOf x=some .free:=by
    rcases e3 with q|q|q
    .rcases bU q with q|⟨q,_⟩;.exact absurd q hap
     .cases q
    .exact .inl q
    .exact .inr q
   obtain⟨c',ec'⟩:=(xb S I hf hfl hC).has x kk;have ec2:=(cB scope.names [] ec').resolve_left (by simp);rw[ec]at ec2;cases ec2;obtain⟨o,ho',hd⟩:=z;exact .inr ⟨kk,c,ec',o,hk _ o ho',hd⟩⟩;cell:=λx c e=>by have q:=(cB scope.names [] e).resolve_left (by simp);obtain⟨v,o,ho',hd⟩:=I.cell x c q;exact⟨v,o,hk _ o ho',hd⟩
 free:=I.hok.fresh hC;freeC:=λx c e=>I.freeC x c ((cB scope.names [] e).resolve_left (by simp));pin:=λp hp=>by cases hp
 hok:=I.hok.kept hk;len:=by rw[asm,asm,atn,I.len,ar7]
end
section
variable{prog:Program}{w:World}{A:Around}{R:Result->Shared->Prop}{s:Shared}
def iG{u b z C scope pos it D a}(I:Nat->Shared->Prop)(turn:∀n s,I n s->wpAny (model prog w) A (pyNext it) (λr f=>match r with|none=>R (.ok .next) f|some v=>wpAny (model prog w) A (letOwnedTupleGo b it v) (λ_ j=>wpAny (model prog w) A (assign b a v) (λ_ p=>wpAny (model prog w) A (forIn C true λc r=>if r=true then do let ok <-isTrue c a (eval c a);pure (ForInStep.yield ok)else pure (ForInStep.yield r)) (λok g=>if ok=true then wpAny (model prog w) A (eval u a) (λx k=>wpAny (model prog w) A (call (.builtin "list.append") [D,x]) (λ_ q=>∃m,m<n/\I m q) (notedBy (model prog w) A a λe i=>R (.error e) i) k) (notedBy (model prog w) A a λe i=>R (.error e) i) g else∃m,m<n/\I m g) (notedBy (model prog w) A a λe i=>R (.error e) i) p) (notedBy (model prog w) A a λe i=>R (.error e) i) j) (notedBy (model prog w) A a λe i=>R (.error e) i) f) (notedBy (model prog w) A a λe i=>R (.error e) i) s)(n)(h:I n s):codeAny (model prog w) A (.compLoop (.ListComp u [⟨b,z,C,0⟩] scope pos) 0 it D a) R s:=by refine codeAny_loop rfl I (λn s G=>wpAny_noted ?_) n h;rw[compTurn_list];refine arJ (auz (arJ (asi (turn n s G) (λr f l=>?_) λ_ _ d=>d)));cases r with|none=>exact arR l|some v=>refine arJ (asi l (λ_ j t=>?_) λ_ _ d=>d);refine arJ (asi t (λ_ p E=>arJ (asi E (λok g o=>?_) λ_ _ d=>d)) λ_ _ d=>d);cases ok with|false=>exact arR ⟨rfl,o⟩|true=>exact arJ (arJ (asi o (λx k B=>arJ (asi B (λ_ q y=>arR (arR ⟨rfl,y⟩)) λ_ _ d=>d)) λ_ _ d=>d))
end
def agX(X:Cx)(b:List Expr)(t:TT):Prop:=∀(a:List (Addr×Obj))(s:Shared)(d:St)(H:Hp)(Q:Bool->Hp->Prop),Inv X a d H s->t d H Q->wpAny (model X.prog X.w) X.A (forIn b true λc r=>if r=true then do let ok <-isTrue c X.env (eval c X.env);pure (ForInStep.yield ok)else pure (ForInStep.yield r)) (TP X a d Q) X.xe s
def kz:TT:=λ_ H Q=>Q true H
def afL:agX X [] kz:=λa s b H Q I h=>wpAny_tests_nil ⟨H,I,h⟩
def aaR(J:It)(g:TG)(q:TT)(p:TE)(h:St)(n:Hp)(F:V->Hp->Prop):Prop:=∃W:Nat->Nat->List V->St->Hp->Prop,(∃m,W 0 m [] h n)/\∀i m c j H,W i m c j H->c.length<sizeLine/\((J.stop i H/\∀D,H D=none->F (.ref D) (upd H D (.lst c)))\/J.go i H/\∃N:List V->St->Hp->Prop,(∀e d f,N e d f->∃l,l<m/\W (i+1) l e d f)/\∀x f,J.yld i H x f->g x j f λa o=>q a o λb k=>if b=true then p a k λy r=>N (c++[y]) a r else N c a k)
def qy(c:Hp->Prop)(J:It)(g:TG)(r:TT)(q:TE)(j:St)(o:Hp)(F:V->Hp->Prop):Prop:=∃W:Nat->Nat->List V->St->Hp->Prop,(∃m,W 0 m [] j o)/\∀i m d k H,W i m d k H->c H/\d.length<sizeLine/\((J.stop i H/\∀D,H D=none->F (.ref D) (upd H D (.lst d)))\/J.go i H/\∃N:List V->St->Hp->Prop,(∀f e h,N f e h->∃n,n<m/\W (i+1) n f e h)/\∀x h,J.yld i H x h->g x k h λa p=>r a p λb l=>if b=true then q a l λy s=>N (d++[y]) a s else N d a l)
theorem qy.w    (h:qy c J g tt te σ0 H1 F):aaR J g tt te σ0 H1 F:=by obtain⟨W,a,t⟩:=h;exact⟨W,a,λi m d b H w=>(t i m _ b H w).2⟩
theorem aaR.c    (h:aaR J g tt te σ0 H1 F):qy (λ_=>True) J g tt te σ0 H1 F:=by obtain⟨W,a,t⟩:=h;exact⟨W,a,λi m c b H w=>⟨trivial,t i m _ b H w⟩⟩
def aiE(k:Nat)(wi:TI)(g:TG)(d:TT)(c:TE):TE:=λa H Q=>wi a H λJ b=>aaR J g d c (List.replicate k none++a) b Q
section
variable{X:Cx}{tg elt iter:Expr}{ifs:List Expr}{scope:Scope}{ts:List Str}{wi:TI}{g:TG}{tt:TT}{te:TE}
def k8{pins}{σ:St}{H j pos it k tn J}{Q:VK}{RR:Value->Addr->Result->Shared->Prop}{E}(S:CompScope X scope ts){cl cc}(G:Addr->Value->Shared->Prop)(c9:∀C U,cc U->cl ((X.comp scope C ts j H k).tri (G C) []) U)(hg:∀C,PG ((X.comp scope C ts j H k).tri (G C) []) tg g)(ht:∀C,agX ((X.comp scope C ts j H k).tri (G C) []) ifs tt)(he:∀C,PE ((X.comp scope C ts j H k).tri (G C) []) elt te)(I:Inv X pins σ H j)(T:Turn X.prog X.w X.K tg J k it tn cl)(st:tn 0 j.heap)(hf:∀b∈k,zk X pins H b)(hW:qy cc J g tt te (List.replicate ts.length none++σ) H Q)(fin:∀(C D:Addr)U B m Z,C≠D->j.heap.objs.size<=C->j.heap.objs.size<=D->B.heap.Ns C m->U C=none->Inv X pins σ (upd U D (.lst Z)) B->Q (.ref D) (upd U D (.lst Z))->RR (.ref D) C (.ok .next) B)(hx:∀(C D:Addr)e B,j.heap.objs.size<=C->G C e B->notedBy (model X.prog X.w) X.A (compEnvC scope (cW X.env.cells scope.names []) C X.env) (λe B=>RR (.ref D) C (.error e) B) e B):wpAny (model X.prog X.w) X.A (newList []) (λc7 M=>wpAny (model X.prog X.w) X.A (newFunctionEnv scope X.env.globals (cW X.env.cells scope.names []) [] X.env.qual none .none (some X.env)) (λa5 c1=>codeAny (model X.prog X.w) X.A (.compStart (.ListComp elt [⟨tg,iter,ifs,0⟩] scope pos) 0 (.ref it) c7 {a5 with scope:=relabel scope X.env}) (RR c7 a5.locals) c1) E M) E j:=by
 refine atM (wpAny_newFunctionEnv S.nocell (by intro y hy;simp at hy) (λO A s=>?_) S.kind);dsimp only at A s⊢;generalize hH2:j.heap.push {cls:=.type "list",dict:=none,data:=.seq ([]:List Value).toArray}=H2 at A s⊢;have a8:H2.objs.size=j.heap.objs.size+1:=by rw[<-hH2,aui]
 have b0:j.heap.objs.size≠H2.objs.size:=by rw[a8];exact ar0 (att _)
 have t:j.heap.objs.size<=H2.objs.size:=by rw[a8];exact atJ _
 have a7:∀b o,j.heap.get? b=some o->O.get? b=some o:=λb o e=>s.extBut b o (by rw[a8];exact ar0 (avd (arV e))) (arK _ (hH2▸arK _ e));have b9:O.PlainList j.heap.objs.size #[]:=⟨_,s.extBut _ _ b0 (arK _ (hH2▸arW _ rfl))⟩;have b6:∀b∈k,b<j.heap.objs.size:=λb l=>by obtain⟨o,e,_⟩:=T.obj _ _ st b l;exact arV e
 generalize hCdef:H2.objs.size=C at *;generalize hDdef:j.heap.objs.size=D at *;have b7:D∉k:=λhm=>asT _ (b6 _ hm);have a3:((X.comp scope C ts j H k).tri (G C) []).Ok:=(xb S I hf (by rw[hDdef];exact b6) (by rw[hDdef];exact t)).tri _ _;have a0:∀x c,((X.comp scope C ts j H k).tri (G C) []).env.cells.lookup x=some c->c<D:=λx c e=>by have q:=(cB scope.names [] e).resolve_left (by simp);obtain⟨v,z⟩:=I.cell x c q;rw[<-hDdef];exact z.lt
 have a1:∀{U:Hp}{pl:List (Addr×Obj)},(∀b∈k,U b=none)->(∀p∈pl,p.1∉k)->∀b∈k,zk ((X.comp scope C ts j H k).tri (G C) []) pl U b:=λhn K b l=>⟨hn b l,(a3.exf b l).1,a3.exfs b l,.inl l,(a3.exf b l).2,λp e4 z=>K p (by simpa using e4) (z▸l)⟩;obtain⟨W,⟨m0,w0⟩,turn⟩:=hW;have a4:∀M:Shared,M={j with heap:=O,toks:=j.toks+([]:List (Str×Value)).length}->codeAny (model X.prog X.w) X.A (.compLoop (.ListComp elt [⟨tg,iter,ifs,0⟩] scope pos) 0 (.ref it) (.ref D) (compEnvC scope (cW X.env.cells scope.names []) C X.env)) (RR (.ref D) C) M:=by
  rintro M rfl;have d2:Inv (X.comp scope C ts j H k) [] (List.replicate ts.length none++σ) H {j with heap:=O,toks:=j.toks+([]:List (Str×Value)).length}:=aaE S I hf (by rw[hDdef];exact b6) (by rw[hDdef];exact t) rfl rfl a7 A;have I0:Inv ((X.comp scope C ts j H k).tri (G C) []) [] (List.replicate ts.length none++σ) H {j with heap:=O,toks:=j.toks+([]:List (Str×Value)).length}:=d2.tri _;refine iG (λn B=>∃i Z c6 U h,Inv ((X.comp scope C ts j H k).tri (G C) []) [] c6 U B/\tn i B.heap/\(∀b∈k,U b=none)/\B.heap.PlainList D h/\Vals Z h.toList/\U D=none/\W i n Z c6 U) ?_ m0 ⟨0,[],_,H,#[],I0,T.keep _ _ _ st λb _ o e=>a7 b o e,λb l=>(hf b l).1,b9,.nil,I.hok.fresh (by rw[hDdef];exact arP _),w0⟩;rintro n s3⟨i,Z,Y,H3,h,I3,d1,c8,d6,v3,d3,w3⟩;obtain⟨c4,d7,a9⟩:=turn i n Z Y H3 w3;obtain⟨R,eD⟩:=id d6;have c3:∀v,({cls:=.type "list",data:=.seq h R}:Obj).data≠.cell v:=λv z=>by cases z
  have a2:=b0;have a6:D ∉((X.comp scope C ts j H k).tri (G C) []).fs:=λl=>by obtain⟨_,o,ho,_⟩:=a3.r9.mem l;exact absurd (aub (arV ho) hDdef) (asT _)
  rcases a9 with⟨d0,qn⟩|⟨go,N,hN,step⟩;.-- the end
   have b5:Inv ((X.comp scope C ts j H k).tri (G C) []) [(D,{cls:=.type "list",data:=.seq h R})] Y H3 s3:=I3.gZ λp K=>by
    obtain rfl:p=(D,({cls:=.type "list",data:=.seq h R}:Obj)):=by simpa using K
    exact⟨eD,d3,a2,a6,c3⟩
   refine asi (T.done ((X.comp scope C ts j H k).tri (G C) []) rfl rfl rfl i _ s3 Y H3 (λ_ _=>False) (c9 C H3 c4) b5 (a1 c8 λp K=>by
    obtain rfl:p=(D,({cls:=.type "list",data:=.seq h R}:Obj)):=by simpa using K
    exact b7) d1 d0) (λr s4⟨hr,I4⟩=>?_) λ_ _ f=>f.elim;subst hr;have pD:=(I4.pin (D,{cls:=.type "list",data:=.seq h R}) (by simp)).1;obtain⟨m4,d5,_⟩:=I4.loc;have I5:=I.aka I4.os I4.base I4.hok I4.bare λb l=>⟨(hf b l).2.2.2.1,(hf b l).2.1,(hf b l).2.2.2.2.1,(hf b l).2.2.2.2.2⟩;have e2:=asE (aub I.lt hDdef);have e0:∀x c,X.env.cells.lookup x=some c->c≠D:=λx c e=>by obtain⟨v,z⟩:=I.cell x c e;exact ar0 (aub z.lt hDdef)
   have e5:∀p∈X.pn++pins,p.1≠D:=λp K=>ar0 (aub (arV (I.pin p K).1) hDdef);have new:cL X.prog X.w (upd H3 D (.lst Z)) s4.heap D (.lst Z):=⟨auK d7,h.toList,R,v3,by simpa using pD⟩;have I6:=I5.abq d3 (by rw[<-hDdef];exact I.sz) e2 e0 e5 new;exact fin C D H3 s4 m4 Z (arY b0) t (arP _) d5 I4.free I6 (qn D d3)
  .-- a turn
   have b5:Inv ((X.comp scope C ts j H k).tri (G C) []) [(D,{cls:=.type "list",data:=.seq h R})] Y H3 s3:=I3.gZ λp K=>by
    obtain rfl:p=(D,({cls:=.type "list",data:=.seq h R}:Obj)):=by simpa using K
    exact⟨eD,d3,a2,a6,c3⟩
   have c0:∀p∈[((D,{cls:=.type "list",data:=.seq h R}):Addr×Obj)],p.1∉k:=λp K=>by
    obtain rfl:p=(D,({cls:=.type "list",data:=.seq h R}:Obj)):=by simpa using K
    exact b7
   refine asi (T.item ((X.comp scope C ts j H k).tri (G C) []) rfl rfl rfl i _ s3 Y H3 (λ_ _=>False) (c9 C H3 c4) b5 (a1 c8 c0) d1 go) (λr s4 w=>?_) λ_ _ f=>f.elim;obtain⟨u,hr,h4⟩:=w;subst hr;refine asi h4 (λ_ s5 w=>?_) λ_ _ f=>f.elim;obtain⟨x,H5,I5,r5,y5,b8,d9⟩:=w;have d4:=I5.pinned (a1 d9 c0) (T.obj _ _ b8);have back:∀{c2:St}{H7:Hp}{s7:Shared},Inv ((X.comp scope C ts j H k).tri (G C) []) ([(D,{cls:=.type "list",data:=.seq h R})]++tL k s5.heap) c2 H7 s7->tn (i+1) s7.heap/\(∀b∈k,H7 b=none)/\s7.heap.get? D=some {cls:=.type "list",data:=.seq h R}/\H7 D=none:=λ{c2 H7 s7}I7=>by have pD:=I7.pin (D,({cls:=.type "list",data:=.seq h R}:Obj)) (asa _ (asz _ ash));refine⟨T.keep _ _ _ b8 λb l o e=>(I7.pin (b,o) (asa _ (asa _ (ig l e)))).1,λb l=>?_,pD.1,pD.2.1⟩;obtain⟨o,e,d⟩:=T.obj _ _ b8 b l;exact(I7.pin (b,o) (asa _ (asa _ (ig l e)))).2.1
   refine asi (hg C _ s5 Y H5 x u _ d4 r5 (step x H5 y5)) (λ_ s6 w=>?_) λe B f=>hx C D e B t f;obtain⟨P,H6,I6,q6⟩:=w;refine asi (ht C _ s6 P H6 _ I6 q6) (λb s7 w=>?_) λe B f=>hx C D e B t f;obtain⟨H7,I7,q7⟩:=w;cases b with|false=>obtain⟨m',hm,w7⟩:=hN _ _ _ (by simpa using q7);obtain⟨b1,b2,b3,b4⟩:=back I7;exact⟨m',hm,i+1,Z,P,H7,h,I7.gZ λp K=>absurd K atv,b1,b2,⟨R,b3⟩,v3,b4,w7⟩|true=>
    have e3:te P H7 λy H4=>N (Z++[y]) P H4:=by simpa using q7
    refine asi (he C _ s7 P H7 _ I7 e3) (λu8 s8 w=>?_) λe B f=>hx C D e B t f;obtain⟨y,H8,I8,r8,q8⟩:=w;obtain⟨m',hm,w8⟩:=hN _ _ _ q8;obtain⟨b1,b2,b3,b4⟩:=back I8;have e6:h.size<=sizeLine:=by have e1:=v3.length;simp only[aty]at e1;omega
    refine wpAny_list_append_plain ⟨R,b3⟩ λh9 d8 c5=>?_;have I9:Inv ((X.comp scope C ts j H k).tri (G C) []) [] P H8 {s8 with heap:=h9}:=(I8.gZ λp K=>absurd K atv).turned (λb o l e=>(c5.2 b l).trans e) b4 a2 (.inr (auL hDdef)) (λx c e=>ar0 (a0 x c e)) λp K=>absurd K atv;refine⟨m',hm,i+1,Z++[y],P,H8,h.push u8,I9,T.keep _ _ _ b1 λb l o e=>(c5.2 b λz=>b7 (z▸l)).trans e,b2,d8,?_,b4,w8⟩;simpa using v3.append (.cons r8 .nil)
 exact codeAny_compStart_list (a4 _ rfl) (T.self _ 0 _ _ _ (T.keep _ _ _ st λb _ o e=>a7 b o e) (a4 _ rfl))
def afP (L:CompLook X scope)(u:X.calm=true)(P:PI X tg iter wi)(K:∀C d a i,PG (X.comp scope C ts d a i) tg g)(ht:∀C d a i,agX (X.comp scope C ts d a i) ifs tt)(he:∀C d a i,PE (X.comp scope C ts d a i) elt te)(N:∀x,foldedSetIterable iter X.env x=pure x:=by intro _;rfl):PE X (.ListComp elt [⟨tg,iter,ifs,0⟩] scope pos) (aiE ts.length wi g tt te):=by
 intro k s σ H Q I h;have S:CompScope X scope ts:=L.scope;have f:=gy λy Z O=>by obtain⟨c,u⟩:=I.ok.has y.1 (S.free y Z O);rw[u];rfl
 rw[eval_ListComp];refine auc rfl N f S.kind S.names (thn (P k s σ H _ I h) λxv s1 M=>thn M λa0 s2 E=>?_);obtain⟨it,i,tn,J,H2,e,j,T,A,f2,G⟩:=E;subst e;refine k8 S _ (λ_ _ _=>u) (λC=>K C _ _ _) (λC=>ht C _ _ _) (λC=>he C _ _ _) j T A f2 G.c ?_ λ_ _ _ _ _ z=>z.elim;intro C D H' s' m ys w l hD Y r U q;refine⟨m,Y,λh' n=>?_⟩;have t:=asE (arS j.lt l);have B:=U.turned (t':=s'.toks) (λb o R e=>(n.2 b R).trans e) (by rw[ag w];exact r) t (.inr (arU j.sz l)) (λx c e=>by obtain⟨v,q⟩:=j.cell x c e;exact ar0 (arS q.lt l)) λp hp=>ar0 (arS (arV (j.pin p hp).1) l);exact⟨.ref D,_,B,rfl,q⟩
def tH  (hN:X.N.Nodup)(P:X.N[i]?=some y)(w:X.env.scope.names.lookup y=some .local)(N:swapsWith (.ListComp elt [⟨tg,iter,ifs,0⟩] scope pos) (some (.Name y py)) spos.line X.env=pure true)(L:CompLook X scope)(E:X.calm=true)(hi:PI X tg iter wi)(hg:∀C f d n,PG (X.comp scope C ts f d n) tg g)(ht:∀C f d n,agX (X.comp scope C ts f d n) ifs tt)(he:∀C f d n,PE (X.comp scope C ts f d n) elt te)(hs:∀x,foldedSetIterable iter X.env x=pure x:=by intro _;rfl):PS X (.Assign [.Name y py] (.ListComp elt [⟨tg,iter,ifs,0⟩] scope pos) spos) (akn (aiE ts.length wi g tt te) (ax i)):=by
 intro t s σ H Dn I h;have S:CompScope X scope ts:=L.scope;have k:=gy λy w Y=>by obtain⟨c,E⟩:=I.ok.has y.1 (S.free y w Y);rw[E];rfl
 rw[exec_Assign_Name_used _ _ _ _ N];refine arJ (auz (arJ ?_));refine arJ (asi (auc rfl hs k S.kind S.names (thn (hi t s σ H _ I h) λxv s1 U=>thn U λa0 s2 R=>?_)) (λ_ s' hq=>arR (arR hq)) λ_ _ e=>e);obtain⟨it,n,tn,J,H2,e,l,T,K,f2,hW⟩:=R;subst e;refine k8 S (λ_ _ _=>False) (λ_ _ _=>E) (λC=>hg C _ _ _) (λC=>ht C _ _ _) (λC=>he C _ _ _) l T K f2 hW.c ?_ λ_ _ _ _ _ z=>z.elim;intro C D H' s' m ys G r hD hn B I' q;have u:=asE (arS l.lt r);refine wpAny_assign_Name (sM I' hN P (.inl w) (show RelV (.ref D) (.ref D)from rfl) (λO Q j=>?_) (.inr w));obtain⟨a,j,ha⟩:=j;have M:a≠C:=by
  rcases ha with e|e;.rw[e];exact arY u
  .obtain⟨v,q⟩:=l.cell y a e;exact ar0 (arS q.lt r)
 refine⟨m,hn.sameBut j (arY M),λh' A=>?_⟩;have Z:=Q.turned (t':=O.toks) (λb o hb e=>(A.2 b hb).trans e) (by rw[ag G];exact B) u (.inr (arU l.sz r)) (λx c e=>by obtain⟨v,q⟩:=l.cell x c e;exact ar0 (arS q.lt r)) λp hp=>ar0 (arS (arV (l.pin p hp).1) r);exact⟨_,_,Z,q⟩
end
def IsD(K:W.Frag)(H:Hp):Nat->V->PyData->Prop|_,x,.none=>x=.non|_,x,.bool b=>x=.bl b|_,x,.int i=>x=.int i|_,x,.str z=>x=.str z/\PyData.strOk z=true|_,_,.dict _=>False|0,_,.tuple _=>False|0,_,.list _=>False|n+1,x,.tuple ds=>∃a c,x=.ref a/\SqT K H a c/\Paired (IsD K H n) c ds|n+1,x,.list ds=>∃a c,x=.ref a/\SqL K H a c/\Paired (IsD K H n) c ds
section
variable{X:Cx}{pins:List (Addr×Obj)}{σ:St}{H:Hp}{s:Shared}
theorem nF{h n R}(one:∀x d u,R x d->RelV x u->(∃a,Reads h u d a)/\d.canLay0=true/\d.depth<=n):∀{xs ds us},Paired R xs ds->Vals xs us->(∃a,ReadsAll h us ds a)/\PyData.canLayAll0 ds=true/\PyData.depthAll ds<=n
|_,_,_,.nil,.nil=>⟨⟨_,.nil⟩,rfl,asr _⟩|_,_,_,.cons r t,.cons q t'=>by
 obtain⟨⟨a,c⟩,f,g⟩:=one _ _ _ r q;obtain⟨⟨bs,e⟩,b,i⟩:=nF one t t';refine⟨⟨_,.cons c e⟩,?_,?_⟩;.simp[PyData.canLayAll0,f,b]
 .simp [PyData.depthAll];omega
def Inv.reads(I:Inv X pins σ H s):∀n d x u,IsD X.K H n x d->RelV x u->(∃j,Reads s.heap u d j)/\d.canLay0=true/\d.depth<=n:=by intro n;induction n with
|zero=>intro d x u h r;cases d with|none=>subst h;cases r;exact⟨⟨_,.none⟩,rfl,asr _⟩|bool b=>subst h;cases r;exact⟨⟨_,.bool b⟩,rfl,asr _⟩|int i=>subst h;obtain⟨t,rfl⟩:=r;exact⟨⟨_,.int i t⟩,rfl,asr _⟩|str z=>obtain⟨rfl,c⟩:=h;obtain⟨t,rfl⟩:=r;exact⟨⟨_,.str z t⟩,by simpa[PyData.canLay0]using c,asr _⟩|dict kvs|tuple ds|list ds=>exact h.elim
|succ n ih=>intro d x u h r;cases d with|none=>subst h;cases r;exact⟨⟨_,.none⟩,rfl,asr _⟩|bool b=>subst h;cases r;exact⟨⟨_,.bool b⟩,rfl,asr _⟩|int i=>subst h;obtain⟨t,rfl⟩:=r;exact⟨⟨_,.int i t⟩,rfl,asr _⟩|str z=>obtain⟨rfl,c⟩:=h;obtain⟨t,rfl⟩:=r;exact⟨⟨_,.str z t⟩,by simpa[PyData.canLay0]using c,asr _⟩|dict kvs=>exact h.elim|tuple ds=>obtain⟨a,y,rfl,f,q⟩:=h;cases r;obtain⟨l,m,⟨o,w,e,k,g⟩,c⟩:=I.tuple f;obtain⟨⟨j,p⟩,v,A⟩:=nF (λx d u=>ih d x u) q m;exact⟨⟨_,.tuple w e g (by simpa using p)⟩,by simpa[PyData.canLay0]using v,by simp only[PyData.depth];omega⟩|list ds=>obtain⟨a,y,rfl,f,q⟩:=h;cases r;obtain⟨l,m,pl,c⟩:=I.list f;obtain⟨o,w,e,k,g⟩:=pl.isList;obtain⟨⟨j,p⟩,v,A⟩:=nF (λx d u=>ih d x u) q m;exact⟨⟨_,.list w e g (by simpa using p)⟩,by simpa[PyData.canLay0]using v,by simp only[PyData.depth];omega⟩
end
def av.tup{K H H' a xs}(e:av H H')(h:SqT K H a xs):SqT K H' a xs:=by
 rcases h with(h|⟨o,h⟩)|h;.exact .inl (.inl (e _ _ h))
 .exact .inl (.inr ⟨o,e _ _ h⟩)
 .exact .inr h
section
variable{X:Cx}
def al9:OpR X (compareOp .Eq) λx y H Q=>∃n d e,IsD X.K H n x d/\IsD X.K H n y e/\X.A.units+n<cLine/\Q (.bl (PyData.eqv d e)) H:=by intro a s m H x y v u Q I b k⟨n,d,e,i,f,r,q⟩;obtain⟨⟨l,g⟩,j,o⟩:=I.reads n d x v i b;obtain⟨⟨bs,h⟩,c,p⟩:=I.reads n e y u f k;exact SeqAt.compareEq_reads g h j c (by omega) (fD (.bl _) H I rfl q)
def al2:OpR X (compareOp .NotEq) λx y H Q=>∃n d e,IsD X.K H n x d/\IsD X.K H n y e/\X.A.units+n<cLine/\Q (.bl !PyData.eqv d e) H:=by intro a s m H x y v u Q I b k⟨n,d,e,i,f,r,q⟩;obtain⟨⟨l,g⟩,j,o⟩:=I.reads n d x v i b;obtain⟨⟨bs,h⟩,c,p⟩:=I.reads n e y u f k;exact SeqAt.compareNe_reads g h j c (by omega) (fD (.bl _) H I rfl q)
def al8:OpR X (compareOp .In) λx y H Q=>∃n d a,IsD X.K H n x d/\(IsD X.K H (n+1) y (.list a)\/IsD X.K H (n+1) y (.tuple a))/\X.A.units+1+n<cLine/\Q (.bl (a.any λz=>PyData.eqv z d)) H:=by
 intro f s o H x y v u Q I j i⟨n,d,a,l,b,r,q⟩;obtain⟨⟨m,g⟩,h,p⟩:=I.reads n d x v l j;rcases b with b|b;.obtain⟨⟨bs,e⟩,c,k⟩:=I.reads _ _ y u b i;exact SeqAt.in_list_reads e g (by simpa[PyData.canLay0]using c) h (by have:=auB (PyData.depthAll a) d.depth;omega) ⟨.bl _,H,I,rfl,q⟩
 .obtain⟨⟨bs,e⟩,c,k⟩:=I.reads _ _ y u b i;exact SeqAt.in_tuple_reads e g (by simpa[PyData.canLay0]using c) h (by have:=auB (PyData.depthAll a) d.depth;omega) ⟨.bl _,H,I,rfl,q⟩
def acx:OpR X (compareOp .NotIn) λx y H Q=>∃n d b,IsD X.K H n x d/\(IsD X.K H (n+1) y (.list b)\/IsD X.K H (n+1) y (.tuple b))/\X.A.units+1+n<cLine/\Q (.bl !b.any λz=>PyData.eqv z d) H:=by
 intro e s o H x y v u Q I i h⟨n,d,b,l,a,r,q⟩;obtain⟨⟨m,f⟩,g,p⟩:=I.reads n d x v l i;rcases a with a|a;.obtain⟨⟨bs,c⟩,j,k⟩:=I.reads _ _ y u a h;exact SeqAt.notIn_list_reads c f (by assumption) g (by omega) ⟨.bl _,H,I,rfl,q⟩
 .obtain⟨⟨bs,c⟩,j,k⟩:=I.reads _ _ y u a h;exact SeqAt.notIn_tuple_reads c f (by assumption) g (by grind) ⟨.bl _,H,I,rfl,q⟩
def ao8{x T pos}(b:Gl X x)(e:X.mg x=none)(a:bootBuiltins x=some (.type T))(d:x≠"__name__":=by decide)(c:Dbg x:=by decide):PE X (.Name x pos) (tC (.ty T)):=ajc b e a rfl d c
def TyV(K:W.Frag)(H:Hp)(x:V)(t:Value):Prop:=TyOf K H x t\/∃a b,x=.ref a/\t=.type "tuple"/\SqT K H a b
def xh:bG X (.builtin "isinstance") λd H Q=>∃x T t b,d=[x,.ty T]/\TyV X.K H x t/\W.kitOne X.K t (.type T)=some b/\Q (.bl b) H:=by
 intro f s v H d n Q I r h;obtain⟨x,T,t,b,rfl,ty,e,q⟩:=h;obtain⟨u,m,rfl,c,l⟩:=vals2 r;cases l;rcases ty with ty|⟨a,p,rfl,rfl,j⟩;.exact adj I c ty e λtk=>⟨.bl b,H,I.tok _,rfl,q⟩
 .cases c;obtain⟨k,_,⟨o,i,g,_⟩,_⟩:=I.tuple j;exact as8 W.kitx_tuple I.kIn ⟨o,i,g⟩ e (λz=>nomatch z) λtk=>⟨.bl b,H,I.tok _,rfl,q⟩
end
abbrev St3:=Int×Int×Int
noncomputable def stD(p:St3):PyData:=.tuple [.int p.1,.int p.2.1,.int p.2.2]
def flD(f:List St3):PyData:=.tuple (f.map stD)
noncomputable def spD(p:Int×Int):PyData:=.tuple [.int p.1,.int p.2]
section
variable{K:W.Frag}{H H':Hp}{v:V}{p:St3}{f:List St3}{x y:Int}
theorem qd{a b R}:∀{l:List a}{m:List b},Paired R l m->l.length=m.length|_,_,.nil=>rfl|_,_,.cons _ t=>by rw[ar1,ar1,qd t]
theorem nK{c d:Type}{R:c->d->Prop}:∀{l:List c}{m:List d}{i:Nat}{a:c},Paired R l m->l[i]?=some a->∃b,m[i]?=some b/\R a b|_,_,_,_,.nil,e=>by simp at e|_,_,0,_,.cons r _,e=>by simp at e;subst e;exact⟨_,rfl,r⟩|_,_,i+1,a,.cons _ t,e=>by obtain⟨b,h,g⟩:=nK (i:=i) (a:=a) t (by simpa using e);exact⟨b,by simpa using h,g⟩
end
def y0(p q:St3):PyData.eqv (stD p) (stD q)=decide (p=q):=by obtain⟨a,b,c⟩:=p;obtain⟨d,e,f⟩:=q;simp only[stD,PyData.eqv,PyData.eqvAll,Bool.and_true];rw[asq];simp[Prod.ext_iff]
def ahQ(p q:Int×Int):PyData.eqv (spD p) (spD q)=decide (p=q):=by obtain⟨a,b⟩:=p;obtain⟨d,e⟩:=q;simp only[spD,PyData.eqv,PyData.eqvAll,Bool.and_true];rw[asq];simp[Prod.ext_iff]
theorem uH:∀f g:List St3,PyData.eqvAll (f.map stD) (g.map stD)=decide (f=g)|[],[]=>by simp[PyData.eqvAll]|[],_::_=>by simp[PyData.eqvAll]|_::_,[]=>by simp[PyData.eqvAll]|p::f,q::g=>by simp only[arZ,PyData.eqvAll,y0,uH f g];rw[asq];simp
def uG(f g:List St3):PyData.eqv (flD f) (flD g)=decide (f=g):=by simp only[flD,PyData.eqv];exact uH f g
def az{H p}(h:H p=none)(o):av H (upd H p o):=λb u q=>by rw[ag (aP q h)];exact q
end L2
set_option autoImplicit true
set_option relaxedAutoImplicit true
namespace L2
open PySem PySem.Spec PyProof.Rows
def akH(A:Around)(s:Shared)(y x:Value)(b:Bool):Prop:=∀(a:Program)(w:World)(E:Value->Shared->Prop)(Q:Value->Shared->Prop),Q (.bool b) s->wpAny (model a w) A (richCompare .Lt y x) Q E s
noncomputable def ahE:List (Bool×Bool)->Bool->Bool|[],t=>t|(e,l)::r,t=>if e=true then ahE r t else l
abbrev zj(A:Around)(s:Shared)(p:Value×Value)(q:Bool×Bool):Prop:=SeqAt.EqAt A s p.1 p.2 q.1/\(q.1=false->akH A s p.1 p.2 q.2)
section
open PySem.AutoSeq1(wpAny_loadPart')
open PySem.MeetsSeq PySem.MeetsSeq2 PySem.MeetsSeq3 PySem.SeqAt
def abp(l b)(its its2)(n G)(dd C)(sl o):Meets (Builtin.«tuple.__lt__» ⟨[.ref l,.ref b],[]⟩) λA R s=>s.heap.get? l=some {cls:=.type "tuple",dict:=dd,data:=.seq its n,slots:=sl}/\s.heap.get? b=some {cls:=.type "tuple",dict:=C,data:=.seq its2 G,slots:=o}/\∃k,Paired (zj A.in1 s) (its.toList.zip its2.toList) k/\R (.ok (.ret (.bool (ahE k (decide (its.size<its2.size)))))) s:=.of_wp λi w A R s h=>by
 obtain⟨z,g,d,tk,os⟩:=s;obtain⟨I,D,k,E,h⟩:=h;have K:=AutoSeq1.sub_tuple_tuple;wp_walk using wpAny_loadPart' I,wpAny_loadPart' D,atX _ (λrest c B=>c.1=none/\B=⟨z,g,d,tk,os⟩/\∃f,Paired (zj A.in1 ⟨z,g,d,tk,os⟩) rest f/\R (.ok (.ret (.bool (ahE f (decide (its.size<its2.size)))))) ⟨z,g,d,tk,os⟩) _;case turn=>rintro⟨y,x⟩rest c B⟨u,rfl,f,m,j⟩;cases m with|@cons a q l1 l2 r t=>obtain⟨e,lt⟩:=q;obtain⟨H,v⟩:=r;refine arJ (H i w _ _ ?_);cases e with|true=>wp_walk;exact⟨rfl,rfl,_,t,j⟩|false=>simp only[ahE,asO,asW]at j;have p:=v rfl i w;wp_walk using p;exact⟨_,rfl,by simpa using j⟩
 case fin=>rintro⟨M,J⟩B⟨u,rfl,f,m,j⟩;simp only at u;subst u;cases m;simp only[ahE]at j;wp_walk;exact⟨_,rfl,by simpa[Builtin.Tuple.tupleCompareSizes]using j⟩
 case h=>exact⟨rfl,rfl,k,E,h⟩
def akH.tuples   (q:IsTup s.heap l its)(p:IsTup s.heap b its2)(r:A.units<cLine)(k:Paired (zj A.in1 s) (its.toList.zip its2.toList) qs):akH A s (.ref l) (.ref b) (ahE qs (decide (its.size<its2.size))):=λf w E Q h=>by obtain⟨⟨cls,dd,g,v⟩,i,j,n,m⟩:=id q;obtain⟨⟨e,t,data2,o⟩,a,c,u,d⟩:=id p;subst j m c d;exact richCompare_meets_room ⟨_,i,rfl⟩ ⟨_,a,rfl⟩ PySem.F.slot_tuple_lt PySem.F.entry_tuple_lt (PySem.F.args_tuple_lt_2 _ _) (abp l b _ _ n _ _ _ _ _) ⟨i,a,qs,k,⟨(λx=>nomatch x),h⟩⟩ r
end
mutual noncomputable def ltv:PyData->PyData->Bool|.int i,.int j=>decide (i<j)|.tuple xs,.tuple ys=>qi xs ys|_,_=>false noncomputable def qi:List PyData->List PyData->Bool|[],[]=>false|[],_::_=>true|_::_,[]=>false|x::xs,y::ys=>if PyData.eqv x y=true then qi xs ys else ltv x y end
mutual noncomputable def aei:PyData->PyData->Bool|.int _,.int _=>true|.tuple xs,.tuple ys=>ix xs ys|_,_=>false noncomputable def ix:List PyData->List PyData->Bool|x::xs,y::ys=>aei x y&&ix xs ys|_,_=>true end
noncomputable def anC:List PyData->List PyData->List (Bool×Bool)|x::xs,y::ys=>(PyData.eqv x y,ltv x y)::anC xs ys|_,_=>[]
theorem qh:∀b a,qi b a=ahE (anC b a) (decide (b.length<a.length))|[],[]=>rfl|[],_::_=>rfl|_::_,[]=>rfl|x::b,y::a=>by simp [qi,anC,ahE,qh _ _]
theorem n4  (one:∀d e a b j bs,d.depth<=n->Reads s.heap a d j->Reads s.heap b e bs->d.canLay0=true->e.canLay0=true->aei d e=true->akH A s a b (ltv d e))(m:A.units+n<cLine):∀g h l k j bs,PyData.depthAll g<=n->ReadsAll s.heap l g j->ReadsAll s.heap k h bs->PyData.canLayAll0 g=true->PyData.canLayAll0 h=true->ix g h=true->Paired (zj A s) (l.zip k) (anC g h)|[],_,_,_,_,_,_,r,_,_,_,_=>by cases r;exact .nil|_::_,[],_,_,_,_,_,r,r',_,_,_=>by cases r';rw[List.zip_nil_right];exact .nil|x::g,y::h,_,_,_,_,hd,r,r',c1,c2,c3=>by cases r with|cons ra rr=>cases r' with|cons rb rr'=>
  have f:=by simpa[PyData.canLayAll0]using c1
  have c:=by simpa[PyData.canLayAll0]using c2
  have i:=by simpa[ix]using c3
  simp only[PyData.depthAll]at hd;rw[aud];refine .cons ⟨SeqAt.eqAt_reads x y A s _ _ _ _ ra rb f.1 c.1 (by omega),λ_=>one x y _ _ _ _ (by omega) ra rb f.1 c.1 i.1⟩ ?_;exact n4 one m g h _ _ _ _ (by omega) rr rr' f.2 c.2 i.2
def aak:∀n d e A s a b q bs,d.depth<=n->Reads s.heap a d q->Reads s.heap b e bs->d.canLay0=true->e.canLay0=true->aei d e=true->A.units+n<cLine->akH A s a b (ltv d e):=by intro n;induction n with
|zero=>intro d e A s a b q bs m r g x v f y;cases r with
 |int i t=>cases g with|int j u=>exact λc w E Q h=>HT.x9 A s i t j u c w E Q h|_=>cases f
 |tuple h1 h2 h3 h4=>cases m|_=>cases f
|succ n ih=>intro d e A s a b q bs m r g x v f y;cases r with
 |int i t=>cases g with|int j u=>exact λc w E Q h=>HT.x9 A s i t j u c w E Q h|_=>cases f
 |@tuple l o vs k xs as₁ h1 h2 h3 h4=>cases g with|@tuple l' o' vs' k' ys bs₁ k1 k2 k3 k4=>
    have D:vs.size=xs.length:=by simpa using SeqAt.ReadsAll.length _ _ _ h4
    have C:vs'.size=ys.length:=by simpa using SeqAt.ReadsAll.length _ _ _ k4
    have p:=Nat.add_right_comm A.units n 1▸y;have B:=n4 (n:=n) (A:=A.in1) (s:=s) (λd e a b q bs m r g x v f=>ih d e A.in1 s a b q bs m r g x v f p) p xs ys _ _ _ _ (by simp only[PyData.depth]at m;omega) h4 k4 x v f;have z:=akH.tuples (A:=A) (s:=s) (l:=l) (b:=l') (its:=vs) (its2:=vs') ⟨o,h1,h2,k,h3⟩ ⟨o',k1,k2,k',k3⟩ (by omega) B;rw[D,C]at z;simpa only[ltv,qh]using z|_=>cases f
 |_=>cases f
mutual theorem kF{h h':Heap}(k:∀b o,h.get? b=some o->h'.get? b=some o):∀(d:PyData)(v:Value)(as:List Addr),d.canLay0=true->Reads h v d as->Reads h' v d as
|.none,_,_,_,r=>by cases r;exact .none|.bool b,_,_,_,r=>by cases r;exact .bool _|.int i,_,_,_,r=>by cases r;exact .int _ _|.str z,_,_,_,r=>by cases r;exact .str _ _|.dict _,_,_,c,_=>by simp[PyData.canLay0]at c|.tuple xs,_,_,c,r=>by cases r with|tuple h1 h2 h3 h4=>exact .tuple (k _ _ h1) h2 h3 (gh k xs _ _ (by simpa[PyData.canLay0]using c) h4)
|.list xs,_,_,c,r=>by cases r with|list h1 h2 h3 h4=>exact .list (k _ _ h1) h2 h3 (gh k xs _ _ (by assumption) h4)theorem gh{h h':Heap}(k:∀b o,h.get? b=some o->h'.get? b=some o):∀(ds:List PyData)(vs:List Value)(as:List Addr),PyData.canLayAll0 ds=true->ReadsAll h vs ds as->ReadsAll h' vs ds as
|[],_,_,_,r=>by cases r;exact .nil|d::ds,_,_,c,r=>by
 have c':d.canLay0=true/\PyData.canLayAll0 ds=true:=by simpa[PyData.canLayAll0]using c
 cases r with|cons r1 r2=>exact .cons (kF k d _ _ c'.1 r1) (gh k ds _ _ c'.2 r2)end
section
variable{prog:Program}{w:World}{A:Around}{R:Result->Shared->Prop}{I:Addr}{fp wr:List Addr}{n:Nat}{P:Nat->Value->Prop}{St:Nat->Heap->Prop}
def aqn(prog:Program)(w:World)(A:Around)(d:Heap)(P:Nat->Value->Prop)(e:Nat->Nat->Bool):Prop:=∀i j c a(s:Shared)(Q:Value->Shared->Prop)(E:Value->Shared->Prop),P i c->P j a->(∀b o,d.get? b=some o->s.heap.get? b=some o)->Q (.bool (e i j)) s->wpAny (model prog w) A (richCompare .Lt c a) Q E s
def acQ(W:Walks prog w A.in1 I fp wr n P St)(t){C}(y:aqn prog w A.in1 C P t)(O:∀b∈wr,C.get? b=none)(S)(D:S∉fp)(Q:C.get? S=none):∀k j s g c,n-(j+1)=k->j+1<=n->St (j+1) s.heap->P (argBest t j) g->(∀b o,C.get? b=some o->s.heap.get? b=some o)->s.heap.get? S=some {cls:=.type "list",dict:=none,data:=.seq #[g,g] c,slots:=#[]}->(∀v Z tk,P (argBest t (n-1)) v->(∀b o,b∉wr->b≠S->s.heap.get? b=some o->Z.get? b=some o)->R (.ok (.ret v)) {s with heap:=Z,toks:=tk})->codeAny (model prog w) A (.builtin "min.loop" ⟨[.ref I,.none,.ref S],[]⟩) R s:=by
 have Y:S∉wr:=λh=>D (W.sub _ h);have u:(toString "min"++toString ".loop":String)="min.loop":=by decide
 intro k;induction k with|zero=>
 intro j s g c hk hj st H U B G;have E:j+1=n:=by omega
 refine avC avw ?_;rw[auP atf _];show wpAny _ A.in1 (seqItems? (.ref S)>>=_) _ _ s;refine arJ (atg B rfl ?_);show wpAny _ A.in1 (tryCatch (pyNext (.ref I)) _ >>=_) _ _ s;refine arJ (auX (W.done s _ _ (E▸st) λT tk m=>?_));have f:=m S _ Y B;show wpAny _ A.in1 (updateSeq S (λ_=>#[])>>=_) _ _ _;refine arJ ?_;refine auQ f rfl (arJ (auu (arR ?_)));exact G g _ tk (by rw[<-E];exact H) λb o r a e=>(ar9 _ _ (arY a)).trans (m b o r e)|succ k ih=>
 intro j s g c hk hj st H U B G;have p:j+1<n:=by omega
 refine avC avw ?_;rw[auP atf _];show wpAny _ A.in1 (seqItems? (.ref S)>>=_) _ _ s;refine arJ (atg B rfl ?_);refine arJ (auX (W.item (j+1) s _ _ p st λv T tk X x m=>?_));have f:=m S _ Y B;have N:∀b o,C.get? b=some o->T.get? b=some o:=λb o e=>m b o (λr=>by rw[O b r]at e;cases e) (U b o e);show wpAny _ A.in1 (tryCatch (holding [v,v] (richCompare .Lt v g >>=_)) _ >>=_) _ _ _;refine arJ (auX (as9 (arJ (y (j+1) (argBest t j) v g _ _ _ X H N ?_))));refine arJ (as9 (asI ?_));refine arJ (auu (arR ?_));cases r:t (j+1) (argBest t j)with|true=>simp only[ate];refine arJ ?_;refine auQ f rfl (arJ (auu ?_));rw[u];have nS:∀b,b∈fp->¬S=b:=λb q z=>D (by rw[z];exact q);refine arR ⟨auA atf _,ih (j+1) _ v _ (by omega) p (W.frame _ _ _ x λb q o e=>(ar9 _ _ (nS b q)).trans e) (by simp only[argBest,r,ate];exact X) (λb o e=>(ar9 _ _ λz:S=b=>by rw[<-z,Q]at e;cases e).trans (N b o e)) (asN _ f rfl) λK J l i M=>?_⟩;exact G K J l i λb o d a e=>M b o d a ((ar9 _ _ (arY a)).trans (m b o d e))|false=>simp only[asO,asW];refine arJ (auu ?_);rw[u];refine arR ⟨auA atf _,ih (j+1) _ g c (by omega) p x (by simp only[argBest,r,asO,asW];exact H) N f λK J l i M=>?_⟩;exact G K J l i λb o d a e=>M b o d a (m b o d e)
def aaf(W:Walks prog w A.in1 I fp wr n P St)(x){m}(i:aqn prog w A.in1 m P x)(j:∀b∈wr,m.get? b=none)(S)(d:S∉fp)(k:m.get? S=none)(B:0<n){s c}(st:St 0 s.heap)(k0:∀b o,m.get? b=some o->s.heap.get? b=some o)(y:s.heap.get? S=some {cls:=.type "list",dict:=none,data:=.seq #[] c,slots:=#[]})(K:∀v C tk,P (argBest x (n-1)) v->(∀b o,b∉wr->b≠S->s.heap.get? b=some o->C.get? b=some o)->R (.ok (.ret v)) {s with heap:=C,toks:=tk}):codeAny (model prog w) A (.builtin "min.loop" ⟨[.ref I,.none,.ref S],[]⟩) R s:=by
 have M:S∉wr:=λh=>d (W.sub _ h);have q:(toString "min"++toString ".loop":String)="min.loop":=by decide
 refine avC avw ?_;rw[auP atf _];show wpAny _ A.in1 (seqItems? (.ref S)>>=_) _ _ s;refine arJ (atg y rfl ?_);refine arJ (auX (W.item 0 s _ _ B st λv O tk E t u=>?_));have l:=u S _ M y;show wpAny _ A.in1 (updateSeq S (λ_=>#[v,v])>>=_) _ _ _;refine arJ ?_;refine auQ l rfl ?_;rw[q];have N:∀b,b∈fp->¬S=b:=λb a z=>d (by rw[z];exact a);refine arR ⟨auA atf _,acQ W x i j S d k _ 0 _ v _ rfl B (W.frame _ _ _ t λb a o e=>(ar9 _ _ (N b a)).trans e) E (λb o e=>(ar9 _ _ λz:S=b=>by rw[<-z,k]at e;cases e).trans ((λb o e=>u b o (λH=>by rw[j b H]at e;cases e) (k0 b o e)) b o e)) (asN _ l rfl) λG D r p J=>?_⟩;exact K G D r p λb o g f e=>J b o g f ((ar9 _ _ (arY f)).trans (u b o g e))
end
section
variable{X:Cx}
def aev(hc:X.calm=true):bG X (.builtin "min") λxs H Q=>∃l m n c,xs=[.ref l]/\SqL X.K H l m/\0<m.length/\Paired (IsD X.K H n) m c/\(∀d∈c,∀e∈c,aei d e=true)/\X.A.units+1+n<cLine/\∀y,m[argBest (λi j=>ltv (c.getD i .none) (c.getD j .none)) (m.length-1)]?=some y->Q y H:=by
 intro B s σ H xs us Q I r h;obtain⟨l,m,n,c,rfl,hq,a1,hp,Y,hu,q⟩:=h;obtain⟨u,rfl,rx⟩:=vals1 r;cases rx;obtain⟨f,U,pl,hz⟩:=I.list hq;have hl:=U.length;have a2:=qd hp;have K:(toString "min"++toString ".loop":String)="min.loop":=by decide
 refine call_function_tree F.kind_min F.plain_min F.entry_min (F.args_min1 _) ?_;show wpAny _ X.A.in1 (Builtin.Builtins.bindParams "min" ["key","default"] 0 ⟨[],[]⟩>>=_) _ _ s;refine arJ (wpAny_of_eq (show Builtin.Builtins.bindParams "min" ["key","default"] 0 ⟨[],[]⟩=pure [none,none]from rfl) ?_);refine arJ (arR ?_);refine arJ (ave pl.isList ?_);refine arJ (atM ?_);rw[K];have ll:l<s.heap.objs.size:=by obtain⟨o,_,Z,_⟩:=pl;exact arV Z
 have fresh:∀a,s.heap.objs.size<=a->s.heap.get? a=none:=λa ha=>by cases e:s.heap.get? a with|none=>rfl|some o=>exact absurd (arV e) (avk.mpr ha)
 have t:(s.heap.push {cls:=.type "list_iterator",data:=.fields #[.ref l,.int 0 0]}).objs.size=s.heap.objs.size+1:=aui ..;have p:∀(i:Nat)(v:Value),f.toArray[i]?=some v->∃d x,c[i]?=some d/\Reads s.heap v d x/\d.canLay0=true/\d.depth<=n:=λi v hv=>by
  have E:f[i]?=some v:=by simpa using hv
  have C:i<m.length:=by have:=(arL.mp E).1;omega
  obtain⟨u,g,N⟩:=U.get (arQ C);rw[E]at g;cases g;obtain⟨d,G,rd⟩:=nK hp (arQ C);obtain⟨⟨x,T⟩,J,S⟩:=I.reads n d _ _ rd N;exact⟨d,x,G,T,J,S⟩
 have W:=Walks.list (prog:=X.prog) (w:=X.w) (A:=X.A.in1) (show X.A.in1.handled=none from I.ok.hd hc) s.heap.objs.size l (ar0 ll) f.toArray;have z:aqn X.prog X.w X.A.in1 s.heap (λi v=>f.toArray[i]?=some v) λi j=>ltv (c.getD i .none) (c.getD j .none):=by
  intro i j vi vj s' Q' E' pi pj kk M;obtain⟨d,x,G,T,J,S⟩:=p i vi pi;obtain⟨e,bs,he,rb,c2,d2⟩:=p j vj pj;have ed:c.getD i .none=d:=by rw[ar5,G];rfl
  have ee:c.getD j .none=e:=by rw[ar5,he];rfl
  dsimp only at M;rw[ed,ee]at M;exact aak n d e X.A.in1 s' vi vj x bs S (kF kk d vi x J T) (kF kk e vj bs c2 rb) J c2 (Y d (asv G) e (asv he)) (by show X.A.units+1+n<cLine;exact hu) X.prog X.w E' Q' M
 refine arR ⟨auA atf _,aaf W _ z (λb R=>by
  have e:b=s.heap.objs.size:=by simpa using R
  rw[e];exact fresh _ (arP _)) (s.heap.push {cls:=.type "list_iterator",data:=.fields #[.ref l,.int 0 0]}).objs.size (λhm=>?_) (fresh _ (by rw[t];exact atJ _)) (by simp;omega) ⟨⟨_,arK _ (arW _ rfl),rfl,rfl⟩,?_⟩ (λb o e=>arK _ (arK _ e)) (arW _ rfl) λv h' tk hP hk=>?_⟩
 .rw[t]at hm;have P:s.heap.objs.size+1=s.heap.objs.size\/s.heap.objs.size+1=l:=by simpa using hm
  rcases P with h|h;.exact absurd h (Nat.succ_ne_self _)
  .exact absurd ll (by rw[<-h];exact avk.mpr (atJ _))
 .obtain⟨o,k,Z,O,a3,a0⟩:=pl;exact⟨o,arK _ (arK _ Z),O,k,a0⟩
 .have D:f[argBest (λi j=>ltv (c.getD i .none) (c.getD j .none)) (m.length-1)]?=some v:=by
   have e:f.toArray.size-1=m.length-1:=by simp;omega
   rw[e]at hP;simpa using hP
  have C:argBest (λi j=>ltv (c.getD i .none) (c.getD j .none)) (m.length-1)<m.length:=by have:=(arL.mp D).1;omega
  obtain⟨u,g,N⟩:=U.get (arQ C);rw[D]at g;cases g;have Ik:Inv X B σ H {s with heap:=h',toks:=tk}:=I.kept λb o e=>hk b o (by
    intro R;have e':b=s.heap.objs.size:=by simpa using R
    exact absurd (arV e) (by rw[e'];exact asT _)) (by rw[t];exact ar0 (avd (arV e))) (arK _ (arK _ e));exact⟨_,H,Ik,N,q _ (arQ C)⟩
end
theorem yD:∀(a b c d:List Int),a.length=b.length->FM.lx (a++c) (b++d)=if a=b then FM.lx c d else FM.lx a b
|[],[],_,_,_=>by simp|[],_::_,_,_,h=>by simp at h|_::_,[],_,_,h=>by simp at h|x::a,y::b,c,d,h=>by
 have f:=yD a b c d (by simpa using h);simp only[asA,FM.lx,f,List.cons.injEq];by_cases e:x=y;.simp[e]
 .simp[e]
end L2
set_option autoImplicit true
set_option relaxedAutoImplicit true
namespace L2
open PySem PySem.Spec PyProof.Rows
section
variable{prog:Program}{w:World}{A:Around}{E:Value->Shared->Prop}{s:Shared}
def aac{it t i its x Q}(hit:s.heap.IsTupleIter it t i)(h:s.heap.IsTuple t its)(j:its[i]?=some x)(g:∀c,c.IsTupleIter it t (i+1)->Heap.SameBut it s.heap c->Q x {s with heap:=c}):wpAny (model prog w) A (Builtin.SmallTypes.nextOf (.ref it)) Q E s:=by refine ju (id hit) λo b f a=>?_;obtain⟨k,e,_,l,d⟩:=h;unfold Builtin.SmallTypes.nextOf;refine arJ (atd hit.typeIs atq (asR atq hit.typeIs au0 ?_ (auY _)));show wpAny _ _ (field (.ref it) 0 >>=_) _ _ s;refine arJ (asw b a (x:=.ref t) rfl ?_);refine arJ (asw b a (x:=.int i 0) rfl ?_);refine arJ (atg e d ?_);simp only[atN,j];refine arJ (aul b a (by simp) (arR ⟨x,rfl,arR (g _ ?_ (Heap.SameBut.update ..))⟩));exact⟨_,asN _ b (auG (atF a _)),(Obj.cls_mapFields ..).trans f,by rw[atF a];simp[rawInt]⟩
def acL  (h:A.handled=none)(hit:s.heap.IsTupleIter it t i)(k:s.heap.IsTuple t its)(j:its[i]?=none)(l:∀f e,Heap.ExtBut it s.heap f->(∃o,f.get? e=some o/\o.cls=.type "StopIteration")->E (.ref e) {s with heap:=f}):wpAny (model prog w) A (Builtin.SmallTypes.nextOf (.ref it)) Q E s:=by refine ju (id hit) λo g n b=>?_;obtain⟨p,d,_,q,c⟩:=k;unfold Builtin.SmallTypes.nextOf;refine arJ (atd hit.typeIs atq (asR atq hit.typeIs au0 ?_ (auY _)));show wpAny _ _ (field (.ref it) 0 >>=_) _ _ s;refine arJ (asw g b (x:=.ref t) rfl ?_);refine arJ (asw g b (x:=.int i 0) rfl ?_);refine arJ (atg d c ?_);simp only[atN,j];refine arJ (avj (arJ (aul g b (by simp) ?_)));refine arJ ?_;refine arJ (m:=firstArgMember _ _) (wpAny_of_eq (a:=Value.none) (rfl) ?_);refine atM ?_ (by size_fits);refine arJ (wpAny_handled ?_);rw[h];refine arJ (arR (wpAny_throw ?_));exact l _ _ (((Heap.SameBut.update ..).extBut.push _).push _) ⟨_,arW _ rfl,rfl⟩
def aas{e it t}{i:Nat}{its x c Q}(z:IsEnum s.heap e it i c)(hit:s.heap.IsTupleIter it t i)(ht:s.heap.IsTuple t its)(hx:its[i]?=some x)(a:e≠it)(Y:∀p,IsEnumOut p e it (i+1) x s.heap.objs.size->p.IsTupleIter it t (i+1)->p.get? s.heap.objs.size=some {cls:=.type "tuple",data:=.seq #[.int i s.toks,x]}->(∀b o,b≠e->b≠it->s.heap.get? b=some o->p.get? b=some o)->Q (some (.ref s.heap.objs.size)) {s with heap:=p,toks:=s.toks+1}):wpAny (model prog w) A (pyNext (.ref e)) Q E s:=by
 have U:s.TypeIs (.ref e) "enumerate":=⟨_,z,rfl⟩;unfold pyNext;refine arJ (wpAny_attempt (atd (name:=Str.ofString "__next__") U atR (asR atR U F.entry_enumerate_next ?_ (F.args_enumerate_next_1 _))));obtain⟨j,g,d,tk,os⟩:=s;show wpAny _ _ (field (.ref e) 2 >>=_) _ _ _;refine arJ (asw z rfl (x:=.ref it) rfl ?_);refine arJ (aac hit ht hx λh M q=>?_);replace q:Heap.SameBut it j h:=q;have J:IsEnum h e it i c:=(q.2 e a).trans z;show wpAny _ _ (field (.ref e) 3 >>=_) _ _ ⟨h,g,d,tk,os⟩;refine arJ (asw J rfl (x:=rawInt i) rfl ?_);show wpAny _ _ (field (.ref e) 4 >>=_) _ _ ⟨h,g,d,tk,os⟩;refine arJ (asw J rfl (x:=.none) rfl ?_);show wpAny _ _ (mkInt i >>=_) _ _ ⟨h,g,d,tk,os⟩;refine arJ (wpAny_mkInt ?_);refine arJ (atG J (by simp) λy R u=>?_);replace u:Heap.SameBut e h y:=u;replace R:IsEnum y e it ((i:Int)+1) c:=R;show wpAny _ _ (setField (.ref e) 4 .none >>=_) _ _ ⟨y,g,d,tk+1,os⟩;refine arJ (atG R (by simp) λk G l=>?_);replace l:Heap.SameBut e y k:=l;replace G:IsEnum k e it ((i:Int)+1) c:=G;show wpAny _ _ (newTuple [.int i tk,x]>>=_) _ _ ⟨k,g,d,tk+1,os⟩;refine arJ (wpAny_newTuple ?_);have B:IsEnum (k.push {cls:=.type "tuple",data:=.seq #[.int i tk,x]}) e it ((i:Int)+1) c:=arK _ G;generalize q4:k.push {cls:=.type "tuple",data:=.seq #[.int i tk,x]}=h4 at B;have X:k.objs.size=j.objs.size:=by rw[l.1,u.1,q.1]
 have O:=arV z;have Z:h4.get? j.objs.size=some {cls:=.type "tuple",data:=.seq #[.int i tk,x]}:=by rw[<-q4,<-X];exact arW _ rfl
 have k4:∀b o,b≠e->b≠it->j.get? b=some o->h4.get? b=some o:=λb o f P I=>by rw[<-q4];exact arK _ (l.extBut b o f (u.extBut b o f (q.extBut b o P I)))
 have T:h4.IsTupleIter it t (i+1):=by rw[<-q4];refine de ((M.extBut u.extBut (arY a)).extBut l.extBut (arY a)) λo ho r=>?_;exact⟨o,arK _ ho,r⟩
 show wpAny _ _ (Builtin.SmallTypes.ownedTupleIsFree (.ref e)>>=_) _ _ ⟨h4,g,d,tk+1,os⟩;rw[X];refine arJ ?_;unfold Builtin.SmallTypes.ownedTupleIsFree;refine arJ (asw B rfl (x:=.none) rfl (arR ?_));simp only[ate];refine arJ (avj ?_);refine arJ (asw B rfl (x:=c) rfl ?_);refine arJ (atG B (by simp) λS H m=>?_);replace m:Heap.SameBut e h4 S:=m;replace H:IsEnum S e it ((i:Int)+1) x:=H;refine arJ ?_;unfold Builtin.SmallTypes.ownedTupleHandOut;refine arJ (atG H (by simp) λD K n=>?_);replace n:Heap.SameBut e S D:=n;replace K:IsEnumOut D e it ((i:Int)+1) x j.objs.size:=K;refine atG K (by simp) λN C v=>?_;replace v:Heap.SameBut e D N:=v;replace C:IsEnumOut N e it ((i:Int)+1) x j.objs.size:=C;refine arJ (auu (arR ⟨_,rfl,arR (Y N C ?_ ?_ ?_)⟩));.exact((T.extBut m.extBut (arY a)).extBut n.extBut (arY a)).extBut v.extBut (arY a)
 .exact v.extBut _ _ (asE O) (n.extBut _ _ (asE O) (m.extBut _ _ (asE O) Z))
 .exact λb o f P I=>v.extBut b o f (n.extBut b o f (m.extBut b o f (k4 b o f P I)))
def adO{e it t}{i:Nat}{its c Q}(h:A.handled=none)(f:IsEnum s.heap e it i c)(hit:s.heap.IsTupleIter it t i)(k:s.heap.IsTuple t its)(m:its[i]?=none)(j:∀a,Heap.ExtBut it s.heap a->Q none {s with heap:=a}):wpAny (model prog w) A (pyNext (.ref e)) Q E s:=by have d:s.TypeIs (.ref e) "enumerate":=⟨_,f,rfl⟩;refine arJ (wpAny_attempt (atd d atR (asR atR d F.entry_enumerate_next ?_ (F.args_enumerate_next_1 _))));show wpAny _ _ (field (.ref e) 2 >>=_) _ _ _;refine arJ (asw f rfl rfl ?_);refine arJ (acL h hit k m λa x l b=>?_);refine de b λo n g=>?_;refine arJ (atY ⟨o,n,g⟩ isSubtype_stop ?_);exact arR (j _ l)
end
section
open PySem.AutoSeq1(wpAny_loadPart')
set_option tactic.hygienic true
def adN(l)(its)(n)(a)(sl):Meets (Builtin.«enumerate.__new__» ⟨[.type "enumerate",.ref l],[]⟩) λ_ R s=>s.heap.get? l=some {cls:=.type "tuple",dict:=a,data:=.seq its n,slots:=sl}/\R (.ok (.ret (.ref (s.heap.push {cls:=.type "tuple_iterator",data:=.fields #[.ref l,.int 0 0]}).objs.size))) {s with heap:=(s.heap.push {cls:=.type "tuple_iterator",data:=.fields #[.ref l,.int 0 0]}).push {cls:=.type "enumerate",data:=.fields #[.none,.bool false,.ref s.heap.objs.size,rawInt 0,.none,.none]}}:=.of_wp λd w A R s h=>by obtain⟨c,h⟩:=h;have e:=sub_enumerate;have f:Heap.IsTuple _ l its:=⟨_,c,rfl,n,rfl⟩;wp_walk using wpAny_loadPart' c;refine wpAny_stack_any λst=>arR ?_;generalize Builtin.SmallTypes.calledThroughType.match_1 (λ_=>Bool) _ _ _=b;cases b<;>(wp_walk using wpAny_loadPart' c,wpAny_pyIter_tuple f;exact⟨_,rfl,h⟩)
set_option tactic.hygienic false
variable{prog:Program}{w:World}{A:Around}{E:Value->Shared->Prop}{s:Shared}
def aaI{l its Q}(m:s.heap.IsTuple l its)(h:∀a,IsEnum a (s.heap.objs.size+1) s.heap.objs.size 0 .none->a.IsTupleIter s.heap.objs.size l 0->(∀b o,s.heap.get? b=some o->a.get? b=some o)->Q (.ref (s.heap.objs.size+1)) {s with heap:=a}):wpAny (model prog w) A (call (.type "enumerate") [.ref l]) Q E s:=by
 obtain⟨⟨c,e,q,k⟩,p,d,n,j⟩:=m;replace d:c=.type "tuple":=d;subst d j;refine callType_new F.called_enumerate (by decide) (F.typeCall_enumerate_1 _) (F.newCall_enumerate_1 _) (λf=>F.args_object_init_2 f _) F.entry_enumerate_new (adN l its n e k) ⟨p,?_⟩;have g:(s.heap.push {cls:=.type "tuple_iterator",data:=.fields #[.ref l,.int 0 0]}).objs.size=s.heap.objs.size+1:=aui ..;show _/\_;rw[g];have i:=by have z:=arW (s.heap.push {cls:=.type "tuple_iterator",data:=.fields #[.ref l,.int 0 0]}) (o:={cls:=.type "enumerate",data:=.fields #[.none,.bool false,.ref s.heap.objs.size,rawInt 0,.none,.none]}) rfl;rw[g]at z;exact z
 exact⟨⟨_,i,rfl⟩,h _ i ⟨_,arK _ (arW _ rfl),rfl,rfl⟩ λb o x=>arK _ (arK _ x)⟩
end
def Inv.abm    (I:Inv X pins σ H s)(k:∀c o,c≠a->c≠b->s.heap.get? c=some o->h'.get? c=some o)(g:zk X pins H a)(h:zk X pins H b):Inv X pins σ H {s with heap:=h',toks:=t'}:=by
 have i:∀c u,H c=some u->c≠a/\c≠b:=λc u e=>⟨aP e g.1,aP e h.1⟩;have f:∀{c:Addr},c∉[a,b]->c≠a/\c≠b:=λ{c}d=>⟨λz=>d (by simp[z]),λz=>d (by simp[z])⟩;refine I.step (d':=s.drawn) (λc d=>?_) (λc o _ _ d e _=>k c o (f d).1 (f d).2 e) (λc o _ _ d e _=>⟨o.slots,k c o (f d).1 (f d).2 e⟩) (λ_ _ _ _ n=>n) (λc o d e=>⟨o,k c o (f d).1 (f d).2 e⟩) (λ_ _ e=>e) (λ_ _ _ e=>e) (λc y e=>⟨#[],by rw[e];simp⟩) (λm p=>?_) (λc u e=>?_) I.bare
 .have l:c=a\/c=b:=by simpa using d
  rcases l with rfl|rfl;.exact⟨g.2.2.2.1,g.2.1,g.2.2.2.2.1,g.2.2.2.2.2⟩
  .exact⟨h.2.2.2.1,h.2.1,h.2.2.2.2.1,h.2.2.2.2.2⟩
 .refine vh p λo w x t r=>?_;exact aeL o w x (k _ o (arY g.2.1) (arY h.2.1) t) r
 .refine(I.hok c u e).vy (λj v d q=>k j v ?_ ?_ q) (λ_ q=>q) λ_ _ q=>q
  .rcases d with z|z;.rw[z];exact(i c u e).1
   .exact(i j _ z).1
  .rcases d with z|z;.rw[z];exact(i c u e).2
   .exact(i j _ z).2
def Ite(K:W.Frag)(a:Addr):It:=⟨λi H=>∃b x,SqT K H a b/\b[i]?=some x,λi H x c=>∃p,x=.ref p/\H p=none/\∀b,SqT K H a b->∃y,b[i]?=some y/\c=upd H p (.tup [.int i,y]),λi H=>∃b,SqT K H a b/\b.length<=i⟩
def zx{P:Program}{w:World}{K:W.Frag}{es:List Expr}{k:Nat}{pos:Pos}(a e it:Addr)(hne:e≠it):Turn P w K (.Tuple es k pos) (Ite K a) [e,it] e λi h=>(∃old,IsEnum h e it i old)/\h.IsTupleIter it a i where
 mem:=by simp
 obj:=λi h st b hb=>by
  obtain⟨⟨old,he⟩,o,ho,hc,hd⟩:=st;have hb':b=e\/b=it:=by simpa using hb
  rcases hb' with rfl|rfl;.exact⟨_,he,λv z=>by cases z⟩
  .exact⟨o,ho,λv z=>by rw[hd]at z;cases z⟩
 keep:=λi h h' st kk=>by obtain⟨⟨old,he⟩,o,ho,r⟩:=st;exact⟨⟨old,kk e (by simp) _ he⟩,o,kk it (by simp) o ho,r⟩
 item:=by
  intro X hP hw hK i pins s σ H E hc I hf st hg;subst hP hw hK;obtain⟨⟨old,he⟩,hit⟩:=st;obtain⟨xs,x,hq,hx⟩:=hg;obtain⟨its,rv,p,hz⟩:=I.tuple hq;obtain⟨u,hu,ru⟩:=rv.get hx;have fe:=hf e (by simp);have fi:=hf it (by simp);refine aas he hit (show s.heap.IsTuple a its.toArray from p) (x:=u) (by simpa using hu) hne λh' eo it' tp kp=>?_;have I1:=I.abm (t':=s.toks+1) kp fe fi;have hfr:=I.hok.fresh (arP _);have hnT:∀b o,s.heap.get? b=some o->b≠s.heap.objs.size:=λb o q=>ar0 (arV q);have I2:Inv X pins σ (upd H s.heap.objs.size (.tup [.int i,x])) {s with heap:=h',toks:=s.toks+1}:=by
   refine I1.abq hfr I.sz (asE I.lt) (λy c q=>?_) (λpp hp=>hnT _ _ (I.pin pp hp).1) ⟨by show 2<=sizeLine;decide,[.int i s.toks,u],.cons ⟨_,rfl⟩ (.cons ru .nil),?_⟩;.obtain⟨v,z⟩:=I.cell y c q;exact ar0 z.lt
   .exact⟨_,tp,rfl,0,rfl⟩
  refine⟨_,rfl,au8 (s:={s with heap:=h',toks:=s.toks+1}) eo λh2 e2 s2=>?_⟩;have hTe:=arY (hnT _ _ he);obtain⟨o1,ho1,_⟩:=hit;have hTi:=arY (hnT _ _ ho1);refine⟨.ref s.heap.objs.size,upd H s.heap.objs.size (.tup [.int i,x]),?_,rfl,⟨_,rfl,hfr,λys hy=>⟨x,by rw[I.sy hy hq];exact hx,rfl⟩⟩,⟨⟨_,e2⟩,?_⟩,λb hb=>?_⟩;.exact I2.turned (t':=s.toks+1) (it:=e) (λb o hb q=>(s2.2 b hb).trans q) (by rw[ag (arY hTe)];exact fe.1) fe.2.1 fe.2.2.2.1 fe.2.2.2.2.1 fe.2.2.2.2.2
  .exact it'.extBut s2.extBut (arY hne)
  .have hb':b=e\/b=it:=by simpa using hb
   rcases hb' with rfl|rfl;.rw[ag (arY hTe)];exact fe.1
   .rw[ag (arY hTi)];exact fi.1
 done:=by intro X hP hw hK i pins s σ H E hc I hf st hg;subst hP hw hK;obtain⟨⟨old,he⟩,hit⟩:=st;obtain⟨xs,hq,hx⟩:=hg;obtain⟨its,rv,p,hz⟩:=I.tuple hq;have fi:=hf it (by simp);have hl:=rv.length;exact adO (I.ok.hd hc) he hit (show s.heap.IsTuple a its.toArray from p) (by simp;omega) λh' eb=>⟨rfl,I.turned (t':=s.toks) (λb o hb q=>eb b o hb q) fi.1 fi.2.1 fi.2.2.2.1 fi.2.2.2.2.1 fi.2.2.2.2.2⟩
 self:=λ_ _ _ _ _ h0_ h=>by obtain⟨⟨_,he⟩,_⟩:=h0_;exact aup he h
section
variable{X:Cx}
def wA(K:W.Frag)(d:TE):TI:=λc H R=>d c H λx b=>∃a,x=.ref a/\(∃e,SqT K b a e)/\R (Ite K a) b
end
end L2
namespace L2
open PySem PySem.Spec PyProof.Rows
section
variable{κ:Type}[DecidableEq κ]
noncomputable def xN(kvs:List (κ×V))(k:κ):Option V:=(kvs.find? λa=>decide (a.1=k)).map (·.2)
noncomputable def putK(kvs:List (κ×V))(k:κ)(v:V):List (κ×V):=if(kvs.any λa=>decide (a.1=k))=true then kvs.map λa=>if a.1=k then(a.1,v)else a else kvs++[(k,v)]
def jy{p r}{k:κ}(e:p.1=k):xN (p::r) k=some p.2:=by simp[xN,e]
def jz{p r}{k:κ}(e:¬p.1=k):xN (p::r) k=xN r k:=by simp[xN,e]
theorem qH(k):∀a:List (κ×V),(a.any λb=>decide (b.1=k))=(xN a k).isSome
|[]=>rfl|p::r=>by
 rw[List.any_cons];by_cases e:p.1=k;.simp [jy e,aso e]
 .rw[jz e,ar6 e];exact qH k r
def n7(kvs)(k:κ)(v):(putK kvs k v).length<=kvs.length+1:=by
 unfold putK;split;.rw[ar7];omega
 .rw[asm,ar1,atH];omega
def xC.oj{o u}(r:xC o u):o.isSome=u.isSome:=by cases o with
|none=>cases u with|none=>rfl|some _=>exact(r).elim
|some _=>cases u with|none=>exact(r).elim|some _=>rfl
def KV.val{kvs vs}(r:KV kvs vs)(k:κ):xC (xN kvs k) (valueAt vs k):=by induction r with|nil=>exact True.intro|@cons p q ps qs h t ih=>
 obtain⟨a,c⟩:=h;by_cases e:p.1=k
 .have b:valueAt (q::qs) k=some q.2:=by simp[valueAt,a.symm.trans e]
  rw[jy e,b];exact c
 .have d:¬q.1=k:=λz=>e (a.trans z);have b:valueAt (q::qs) k=valueAt qs k:=by simp[valueAt,d]
  rw[jz e,b];exact ih
theorem KV.any{kvs vs}(r:KV kvs vs)(k:κ):(kvs.any λa=>decide (a.1=k))=vs.any λa=>decide (a.1=k):=by induction r with|nil=>rfl|cons h t ih=>rw[List.any_cons,List.any_cons,ih,h.1]
def KV.aoY{kvs vs}(r:KV kvs vs)(k:κ){y u}(d:RelV y u):KV (kvs.map λa=>if a.1=k then(a.1,y)else a) (vs.map λa=>if a.1=k then(a.1,u)else a):=by induction r with|nil=>exact .nil|@cons p q ps qs h t ih=>
 rw[arZ,arZ];refine .cons ?_ ih;obtain⟨b,c⟩:=h;by_cases e:p.1=k;.rw[arM e,arM (b.symm.trans e)];exact⟨b,d⟩
 .rw[arO e,arO λz=>e (b.trans z)];exact⟨b,c⟩
def KV.put{kvs vs}(r:KV kvs vs)(k:κ){y u}(a:RelV y u):KV (putK kvs k y) (stored vs k u):=by
 unfold putK stored;rw[r.any k];by_cases e:(vs.any λb=>decide (b.1=k))=true;.rw[arM e,arM e];exact r.aoY k a
 .rw[arO e,arO e];exact Paired.snoc r ⟨rfl,a⟩
theorem KV.length{kvs}{vs:List (κ×Value)}(r:KV kvs vs):kvs.length=vs.length:=Paired.length r
end
def agn{P w}:∀{k u},RelV (kV k) u->(cy P w).is k u=true|.inl (some i),u,r=>by obtain⟨t,e⟩:=r;subst e;exact wh P w i t|.inl none,u,r=>by cases r;rfl|.inr x,u,r=>by obtain⟨t,e⟩:=r;subst e;exact we P w x t
def ahp{P w k u}(h:(cy P w).is k u=true):RelV (kV k) u:=by
 rcases bC h with⟨i,t,rfl,rfl⟩|⟨x,t,rfl,rfl⟩|⟨rfl,rfl⟩;.exact⟨t,rfl⟩
 .exact⟨t,rfl⟩
 .rfl
theorem uk{P w}:∀{ks us},Vals (ks.map kV) us->ItemsAre (cy P w) ks us|[],_,r=>by cases r;exact .nil|k::ks,_,r=>by cases r with|cons h t=>exact .cons (agn h) (uk t)
abbrev KT(H:Hp):List (List Key×V)->List (List Key×Addr×Value)->Prop:=Paired λp q=>p.1=q.1/\H q.2.1=some (.tup (p.1.map kV))/\RelV p.2 q.2.2
def KT.val{H kvs xs}(r:KT H kvs xs)(k):xC (xN kvs k) ((atKey xs k).map (·.2)):=by induction r with|nil=>exact True.intro|@cons p q ps qs h t ih=>
 refine ag0 h λa _ c=>?_;by_cases e:p.1=k
 .have b:atKey (q::qs) k=some q.2:=by simp[atKey,a.symm.trans e]
  rw[jy e,b];exact c
 .have d:¬q.1=k:=λz=>e (a.trans z);have b:atKey (q::qs) k=atKey qs k:=by simp[atKey,d]
  rw[jz e,b];exact ih
def KT.aoY{H kvs xs}(r:KT H kvs xs)(k){y u}(f:RelV y u):KT H (kvs.map λb=>if b.1=k then(b.1,y)else b) (xs.map (putAt k u)):=by induction r with|nil=>exact .nil|@cons p q ps qs h t ih=>
 rw[arZ];refine .cons ?_ ih;refine ag0 h λa c d=>?_;unfold putAt;by_cases e:p.1=k;.rw[arM e,arM (a.symm.trans e)];exact⟨a,c,f⟩
 .rw[arO e,arO λz=>e (a.trans z)];exact⟨a,c,d⟩
def KT.put{H kvs xs}(r:KT H kvs xs)(k){b y u}(c:H b=some (.tup (k.map kV)))(a:RelV y u):KT H (putK kvs k y) (storedH xs k b u):=by
 have e:(kvs.any λd=>decide (d.1=k))=(atKey xs k).isSome:=by rw[qH,(r.val k).oj,Option.isSome_map]
 unfold putK storedH;rw[e];by_cases q:(atKey xs k).isSome=true;.rw[arM q,arM q];exact r.aoY k a
 .rw[arO q,arO q];exact Paired.snoc r ⟨rfl,c,a⟩
def KT.keeps{H H' kvs xs}(r:KT H kvs xs)(c:∀b a,H b=some (.tup a)->H' b=some (.tup a)):KT H' kvs xs:=Paired.an6 r λ_ _ z=>⟨z.1,c _ _ z.2.1,z.2.2⟩
section
variable{P:Program}{w:World}{H:Hp}{h:Heap}{a:Addr}
def aly{u}(ok:HOk P w H h)(e:Rd H a u):cL P w H h a u:=e.ok ok
def adU{kvs}(ok:HOk P w H h)(e:Rd H a (.dK kvs)):kvs.length<=sizeLine/\(a==sysModules)=false/\∃b,KV kvs b/\h.DictOf (cy P w) a b:=aly ok e
def ap8{kvs}(ok:HOk P w H h)(e:H a=some (.dK kvs)):kvs.length<=sizeLine/\(a==sysModules)=false/\∃b,KV kvs b/\h.DictOf (cy P w) a b:=adU ok (.inl e)
def ql{ks}(ok:HOk P w H h)(e:H a=some (.tup (ks.map kV))):(tupleKind (cy P w)).is h ks a:=by obtain⟨_,d,r,o,c,b,n,f⟩:=ok a _ e;exact⟨o,_,n,c,b,f,by simpa using uk r⟩
def anf{kvs}(ok:HOk P w H h)(e:Rd H a (.dT kvs)):kvs.length<=sizeLine/\(a==sysModules)=false/\∃c,KT H kvs c/\h.DictOfH (tupleKind (cy P w)) a c:=by
 obtain⟨z,y,c,r,o,i,k,f,d,n,g,j⟩:=aly ok e;refine⟨z,y,c,r,o,i,k,f,d,n,g,λx b=>?_,j⟩;have all:∀{l}{m},KT H l m->∀x∈m,(tupleKind (cy P w)).is h x.1 x.2.1:=by intro l m q;induction q with|nil=>intro x b;exact nomatch b|@cons p q ps qs hq t ih=>
   intro x b;rcases ar4.mp b with e|b;.exact ql ok (by grind)
   .exact ih x b
 exact all r x b
def ap6{kvs}(ok:HOk P w H h)(e:H a=some (.dT kvs)):kvs.length<=sizeLine/\(a==sysModules)=false/\∃b,KT H kvs b/\h.DictOfH (tupleKind (cy P w)) a b:=anf ok (.inl e)
end
def aq8(H:Hp)(a:Addr)(y:V)(r:Option V):Prop:=(∃c k,Rd H a (.dK c)/\y=kV k/\r=xN c k)\/∃c k b,Rd H a (.dT c)/\y=.ref b/\H b=some (.tup (k.map kV))/\r=xN c k
def akI(H:Hp)(a:Addr)(y v:V)(H':Hp):Prop:=(∃c k,H a=some (.dK c)/\y=kV k/\c.length<sizeLine/\H'=upd H a (.dK (putK c k v)))\/∃c k b,H a=some (.dT c)/\y=.ref b/\H b=some (.tup (k.map kV))/\c.length<sizeLine/\H'=upd H a (.dT (putK c k v))
theorem akI.k{H a kvs k v}(e:H a=some (.dK kvs))(b:kvs.length<sizeLine):akI H a (kV k) v (upd H a (.dK (putK kvs k v))):=.inl ⟨_,k,e,rfl,b,rfl⟩
section
variable{X:Cx}{pins:List (Addr×Obj)}{σ:St}{H:Hp}{s:Shared}{a:Addr}{y v:V}{u r:Value}{o:Option V}{A:Around}{E:Value->Shared->Prop}
def Inv.big(I:Inv X pins σ H s):sysModules<s.heap.objs.size:=by exact Nat.lt_trans (by decide) (I.mod.glob.keeps I.bk).lt
def ajY{Q}(n:A.units+1<cLine)(I:Inv X pins σ H s)(g:aq8 H a y o)(m:RelV y u)(h:∀j,Inv X pins σ H j->Q (.bool !o.isSome) j):wpAny (model X.prog X.w) A (compareOp .NotIn u (.ref a)) Q E s:=by
 rcases g with⟨f,k,e,i,l⟩|⟨f,k,b,e,i,p,l⟩;.subst i;obtain⟨z,d,w,c,dd⟩:=adU I.hok e;refine wpAny_notIn_of (agn m) d dd.mapOf ?_;rw[<-(c.val k).oj,<-l];exact h _ (I.tok _)
 .subst i;cases m;obtain⟨z,d,t,c,dd⟩:=anf I.hok e;refine wpAny_notIn_heap (tupleKind_room_in1 n) (ql I.hok p) d dd ?_;have q:=(c.val k).oj;rw[Option.isSome_map]at q;rw[<-q,<-l];exact h _ (I.tok _)
def rO{h' t' ob}(I:Inv X pins σ H s)(e:Mut (H a))(f:Heap.SameBut a s.heap h')(d:∃q,h'.get? a=some q)(new:cL X.prog X.w (upd H a ob) h' a ob):Inv X pins σ (upd H a ob) {s with heap:=h',toks:=t'}:=I.write  e (.inl rfl) (λb q c z=>(f.2 b c).trans z) d new
def anh{P w H' h' kvs vs}(z:kvs.length<=sizeLine)(c:(a==sysModules)=false)(b:KV kvs vs)(dd:h'.DictOf (cy P w) a vs):cL P w H' h' a (.dK kvs):=⟨z,c,vs,b,dd⟩
def ad5{H' Q}(U:A.units+1<cLine)(I:Inv X pins σ H s)(g:akI H a y v H')(K:RelV y u)(C:RelV v r)(h:∀J,Inv X pins σ H' J->Q () J):wpAny (model X.prog X.w) A (setItem (.ref a) u r) Q E s:=by
 rcases g with⟨d,k,e,w,l,t⟩|⟨d,k,b,e,w,D,l,t⟩
 .subst w t;obtain⟨z,m,R,f,dd⟩:=ap8 I.hok e;have n:R.length<=sizeLine:=by rw[<-f.length];exact z
  have x:(putK d k v).length<=sizeLine:=by have:=n7 d k v;omega
  refine wpAny_setItem_pairs (hsz:=n) (agn K) dd λG i p=>h _ ?_;have T:∃q,G.get? a=some q:=let⟨q,_,_,j,_⟩:=i;⟨q,j⟩;exact rO I (by rw[e];exact True.intro) p T (anh x m (f.put k C) i)
 .subst w t;cases K;obtain⟨z,m,N,f,dd⟩:=ap6 I.hok e;have n:N.length<=sizeLine:=by rw[<-Paired.length f];exact z
  have x:(putK d k v).length<=sizeLine:=by have:=n7 d k v;omega
  refine wpAny_setItem_heap (hsz:=n) (tupleKind_room_in1 U) (ql I.hok D) dd λG i p=>h _ ?_;obtain⟨q,O,Y,j,M,Z,P,_,S⟩:=i;refine rO I (by rw[e];exact True.intro) p ⟨q,j⟩ ⟨x,m,_,(f.put k D C).keeps λc ys B=>?_,q,O,Y,j,M,Z,P,S⟩;rw[ag (apE B e λz=>nomatch z)];exact B
end
section
variable{X:Cx}{pins:List (Addr×Obj)}{σ:St}{H:Hp}{s:Shared}{a:Addr}{kvs:List (Key×V)}{k:Key}{u:Value}{A:Around}{E:Value->Shared->Prop}
def ap9{Q}(I:Inv X pins σ H s)(e:Rd H a (.dK kvs))(h:∀t c,Inv X pins σ H c->Q (.int kvs.length t) c):wpAny (model X.prog X.w) A (call (.builtin "len") [.ref a]) Q E s:=by obtain⟨z,d,f,b,dd⟩:=adU I.hok e;refine call_len_dict d dd (by rw[<-b.length];rw[at0]at z;omega) ?_;rw[<-b.length];exact h _ _ (I.tok _)
end
def aoU(g ty tv:TE):TS:=λD b H=>tv b H λv d=>g b d λx f=>ty b f λy e=>∃a c,x=.ref a/\akI e a y v c/\D.nx b c
section
variable{X:Cx}{o i e value:Expr}{pos pos' tpos:Pos}{td ty tv:TE}
def ach(C:X.A.units+1<cLine)(t:PE X o td)(l:PE X i ty)(B:PE X value tv)(k:swapsWith value (some (.Subscript o i pos')) pos.line X.env=pure false):PS X (.Assign [.Subscript o i pos'] value pos) (aoU td ty tv):=by intro c s b H D I h;refine wpAny_Assign_Subscript (thn (B _ s b H _ I h) λr O⟨v,K,A,m,d⟩=>thn (t _ _ b _ _ A d) λu P⟨x,M,q,j,n⟩=>thn (l _ _ b _ _ q n) λN J⟨y,Q,w,E,a,p,ex,g,f⟩=>?_) k;subst ex;obtain rfl:=j;exact ad5 C w g E m λG z=>⟨b,p,z,f⟩
end
def agJ{P w H}(h:Heap)(a:sysModules<h.objs.size):cL P w H (h.push {cls:=.type "dict",data:=.dict #[]}) h.objs.size (.dK []):=⟨asr _,asH.mpr (arY (ar0 a)),[],.nil,Heap.DictOf.new h⟩
def alm:TE:=λ_ H Q=>∀p,H p=none->Q (.ref p) (upd H p (.dK []))
section
variable{X:Cx}{pos:Pos}
def yj:PE X (.Dict [] [] pos) alm:=λa s b H Q I h=>wpAny_Dict_empty ⟨.ref _,_,I.laid  (λ_ _ q=>arK _ q) (arP _) (agJ _ I.big),rfl,h _ (I.hok.fresh (arP _))⟩
end
def Itd(a:Addr)(od:Obj)(kvs:List (Key×V)):It:=⟨λi H=>H a=some (.frz od (.dK kvs))/\i<kvs.length,λi H x b=>b=H/\∃p,kvs[i]?=some p/\x=kV p.1,λi H=>H a=some (.frz od (.dK kvs))/\kvs.length<=i⟩
section
variable{X:Cx}{pins:List (Addr×Obj)}{σ:St}{H:Hp}{s:Shared}{a:Addr}{kvs:List (Key×V)}{od:Obj}
def Inv.am5(I:Inv X pins σ H s)(e:H a=some (.frz od (.dK kvs))):(a==sysModules)=false/\∃b c d,KV kvs b/\od.data=.dict c d/\s.heap.DictAt (cy X.prog X.w) a b d:=by obtain⟨h,z,j,b,f,o,c,d,g,n,i,k,m,l⟩:=I.hok a _ e;rw[h]at g;cases g;exact⟨j,b,c,d,f,i,od,c,h,n,i,k,m,l⟩
def KV.get{kvs:List (Key×V)}{vs:List (Key×Value)}(r:KV kvs vs){i:Nat}{p:Key×V}(e:kvs[i]?=some p):∃q:Key×Value,vs[i]?=some q/\p.1=q.1/\RelV p.2 q.2:=by unfold KV at r;induction r generalizing i with|nil=>simp at e|cons h t ih=>cases i with|zero=>simp at e;subst e;exact⟨_,rfl,h⟩|succ i=>simpa using ih (by simpa using e)
end
def abo{P:Program}{w:World}{K:W.Frag}{tg:Expr}(a it:Addr)(od:Obj)(kvs:List (Key×V))(ep:Nat)(hep:∃es,od.data=.dict es ep):Turn P w K tg (Itd a od kvs) [it] it λi h=>h.IsKeyIter it a i kvs.length ep where
 mem:=by simp
 obj:=λi h st b hb=>by
  have e:b=it:=by simpa using hb
  subst e;obtain⟨o,e,c,d⟩:=st;exact⟨o,e,λv z=>by rw[d]at z;cases z⟩
 keep:=λi h h' st k=>st.at λo e=>k it (by simp) o e;item:=by intro X hP hw hK i pins s σ H E hc I hf st hg;subst hP hw hK;obtain⟨hq,hi⟩:=hg;obtain⟨hd,vs,es,ep',rel,hdat,hat⟩:=I.am5 hq;obtain⟨es',he⟩:=hep;rw[hdat]at he;cases he;obtain⟨q,hx,hk,rq⟩:=rel.get (arQ hi);obtain⟨k,v⟩:=q;obtain⟨f0,f1,f2,f3,f4,f5⟩:=hf it (by simp);have hl:=rel.length;refine wpAny_pyNext_dict_item (show s.heap.IsKeyIter it a i vs.length ep by rw[<-hl];exact st) hat hx λkey h' hkey st' sb=>?_;have I1:Inv X pins σ H {s with heap:=h'}:=I.turned (t':=s.toks) (λb o hb e=>(sb.2 b hb).trans e) f0 f1 f3 f4 f5;obtain⟨o,e,c,d⟩:=id st';refine⟨key,rfl,aap (s:={s with heap:=h'}) e c d (by decide) ⟨kV kvs[i].1,H,I1,?_,⟨rfl,kvs[i],arQ hi,rfl⟩,by rw[hl];exact st',λb hb=>(hf b hb).1⟩⟩;rw[hk];exact ahp hkey
 done:=by intro X hP hw hK i pins s σ H E hc I hf st hg;subst hP hw hK;obtain⟨hq,hi⟩:=hg;obtain⟨hd,vs,es,ep',rel,hdat,hat⟩:=I.am5 hq;obtain⟨es',he⟩:=hep;rw[hdat]at he;cases he;obtain⟨f0,f1,f2,f3,f4,f5⟩:=hf it (by simp);have hl:=rel.length;exact wpAny_pyNext_dict_end (I.ok.hd hc) (show s.heap.IsKeyIter it a i vs.length ep by rw[<-hl];exact st) hat (by simp;omega) λh' eb=>⟨rfl,I.turned (t':=s.toks) (λb o hb e=>eb b o hb e) f0 f1 f3 f4 f5⟩
 self:=λ_ _ _ _ _ st h=>wpAny_pyIter_keyiter st h
def aru(e:TE):TI:=λd H R=>e d H λx c=>∃a od b,x=.ref a/\c a=some (.frz od (.dK b))/\R (Itd a od b) c
def vN{X w l n}(B:PE X l n):PI X w l (aru n):=by
 intro c s y H R I h;refine thn (B c s y H _ I h) λv m g=>?_;refine iH g λx r f z u=>?_;refine zl u λa od j e p q=>?_;subst e;cases z;obtain⟨t,D,A,C,k,d,i⟩:=f.am5 p;refine wpAny_pyIter_dict t i (akO m.heap.objs.size [m.heap.objs.size] _ _ r rfl (f.kept λb o e=>arK _ e) (abo a _ od j C ⟨A,d⟩) ⟨_,arW _ rfl,rfl,by rw[k.length];rfl⟩ (λb E=>?_) q);have e:b=m.heap.objs.size:=by grind
 subst e;exact f.aky (arP _) (f.hok.fresh (arP _))
def Inv.ajJ{X pins}{σ:St}{H s a kvs}(I:Inv X pins σ H s)(e:H a=some (.dK kvs)):∃od,Inv X pins σ (upd H a (.frz od (.dK kvs))) s/\∀o u,X.H₀ a≠some (.frz o u):=by have ob:=I.hok a _ e;obtain⟨z,d,f,c,o,g,h,b,r⟩:=id ob;refine⟨o,rO  I (by rw[e];exact True.intro) (Heap.SameBut.refl ..) ⟨o,b⟩ ⟨b,z,d,f,c,o,g,h,b,r⟩,λi u z=>?_⟩;have:=I.base.frzs a _ u z;rw[e]at this;cases this
def Inv.adB{X pins}{σ:St}{H s a kvs od}(I:Inv X pins σ H s)(e:H a=some (.frz od (.dK kvs)))(l:∀o u,X.H₀ a≠some (.frz o u)):Inv X pins σ (upd H a (.dK kvs)) s:=by
 have ob:=I.hok a _ e;have f:∀{b:Addr},H b=none->upd H a (.dK kvs) b=none:=λ{b}z=>by rw[ag λq=>by rw[q,e]at z;cases z];exact z
 refine⟨I.ok,I.os,I.bare,⟨I.base.keep,I.base.slot,λb o q n m=>f (I.base.free b o q n m),I.base.there,λb g q=>?_,λb o u q=>?_,λb w q=>?_⟩,I.loc,I.cell,f I.free,λx c q=>f (I.freeC x c q),λp t=>?_,λb u q=>?_,I.len⟩;.have z:=I.base.tups b g q;rw[ag λy=>by rw[y,e]at z;cases z];exact z
 .have z:=I.base.frzs b o u q;rw[ag λy=>by rw[y]at q;exact l _ _ q];exact z
 .obtain⟨d,z⟩:=I.base.tbls b w q;exact⟨d,by rw[ag λy=>by rw[y,e]at z;cases z];exact z⟩
 .refine ag0 (I.pin p t) λk j v=>?_;exact⟨k,f j,v⟩
 .have i:∀{b:Addr}{u:HO},cL X.prog X.w H s.heap b u->cL X.prog X.w (upd H a (.dK kvs)) s.heap b u:=λ{b u}x=>x.vy (λ_ _ _ q=>q) (λc r=>by rw[ag λy=>by rw[y,e]at r;cases r];exact r) λc g r=>by rw[ag λy=>by rw[y,e]at r;cases r];exact r
  by_cases h:b=a;.subst h;rw[ao]at q;cases q;exact i ob.2
  .rw[ag h]at q;exact i (I.hok b u q)
def aos(K:W.Frag)(a:Addr):It:=⟨λi H=>∃b x,SqL K H a b/\b[i]?=some x,λi H x c=>∃p,x=.ref p/\H p=none/\∀b,SqL K H a b->∃y,b[i]?=some y/\c=upd H p (.tup [.int i,y]),λi H=>∃b,SqL K H a b/\b.length<=i⟩
def zy{P:Program}{w:World}{K:W.Frag}{es:List Expr}{k:Nat}{pos:Pos}(a e it:Addr)(hne:e≠it):Turn P w K (.Tuple es k pos) (aos K a) [e,it] e λi h=>(∃old,IsEnum h e it i old)/\h.IsListIter it a i where
 mem:=by simp
 obj:=λi h st b hb=>by
  obtain⟨⟨old,he⟩,o,ho,hc,hd⟩:=st;have hb':b=e\/b=it:=by simpa using hb
  rcases hb' with rfl|rfl;.exact⟨_,he,λv z=>by cases z⟩
  .exact⟨o,ho,λv z=>by rw[hd]at z;cases z⟩
 keep:=λi h h' st kk=>by obtain⟨⟨old,he⟩,o,ho,r⟩:=st;exact⟨⟨old,kk e (by simp) _ he⟩,o,kk it (by simp) o ho,r⟩
 item:=by
  intro X hP hw hK i pins s σ H E hc I hf st hg;subst hP hw hK;obtain⟨⟨old,he⟩,hit⟩:=st;obtain⟨xs,x,hq,hx⟩:=hg;obtain⟨its,rv,p,hz⟩:=I.list hq;obtain⟨u,hu,ru⟩:=rv.get hx;have fe:=hf e (by simp);have fi:=hf it (by simp);refine wpAny_pyNext_enum_item he hit p.isList (x:=u) (by simpa using hu) hne λh' eo it' tp _ kp=>?_;have I1:Inv X pins σ H {s with heap:=h',toks:=s.toks+1}:=I.abm (t':=s.toks+1) kp fe fi;have hfr:H s.heap.objs.size=none:=I.hok.fresh (arP _);have hnT:∀b o,s.heap.get? b=some o->b≠s.heap.objs.size:=λb o q=>ar0 (arV q);have I2:Inv X pins σ (upd H s.heap.objs.size (.tup [.int i,x])) {s with heap:=h',toks:=s.toks+1}:=by
   refine I1.abq hfr I.sz (asE I.lt) (λy c q=>?_) (λpp hp=>hnT _ _ (I.pin pp hp).1) ⟨by show 2<=sizeLine;decide,[.int i s.toks,u],.cons ⟨_,rfl⟩ (.cons ru .nil),?_⟩;.obtain⟨v,z⟩:=I.cell y c q;exact ar0 z.lt
   .exact⟨_,tp,rfl,0,rfl⟩
  refine⟨_,rfl,au8 (s:={s with heap:=h',toks:=s.toks+1}) eo λh2 e2 s2=>?_⟩;have hTe:s.heap.objs.size≠e:=arY (hnT _ _ he);obtain⟨o1,ho1,_⟩:=hit;have hTi:s.heap.objs.size≠it:=arY (hnT _ _ ho1);refine⟨.ref s.heap.objs.size,upd H s.heap.objs.size (.tup [.int i,x]),?_,rfl,⟨_,rfl,hfr,λys hy=>⟨x,by rw[I.yG hy hq];exact hx,rfl⟩⟩,⟨⟨_,e2⟩,?_⟩,λb hb=>?_⟩;.exact I2.turned (t':=s.toks+1) (it:=e) (λb o hb q=>(s2.2 b hb).trans q) (by rw[ag (arY hTe)];exact fe.1) fe.2.1 fe.2.2.2.1 fe.2.2.2.2.1 fe.2.2.2.2.2
  .exact it'.extBut s2.extBut (arY hne)
  .have hb':b=e\/b=it:=by simpa using hb
   rcases hb' with rfl|rfl;.rw[ag (arY hTe)];exact fe.1
   .rw[ag (arY hTi)];exact fi.1
 done:=by intro X hP hw hK i pins s σ H E hc I hf st hg;subst hP hw hK;obtain⟨⟨old,he⟩,hit⟩:=st;obtain⟨xs,hq,hx⟩:=hg;obtain⟨its,rv,p,hz⟩:=I.list hq;have fi:=hf it (by simp);have hl:=rv.length;exact wpAny_pyNext_enum_end (I.ok.hd hc) he hit p.isList (by simp;omega) λh' eb=>⟨rfl,I.turned (t':=s.toks) (λb o hb q=>eb b o hb q) fi.1 fi.2.1 fi.2.2.2.1 fi.2.2.2.2.1 fi.2.2.2.2.2⟩
 self:=λ_ _ _ _ _ h0_ h=>by obtain⟨⟨_,he⟩,_⟩:=h0_;exact aup he h
section
variable{X:Cx}
def amU(K:W.Frag)(e:TE):TI:=λd H R=>e d H λx b=>∃a,x=.ref a/\((∃c,SqT K b a c)/\R (Ite K a) b\/(∃c,SqL K b a c)/\R (aos K a) b)
def vM{l:Expr}{r:TE}{es:List Expr}{k:Nat}{O p pos:Pos}(E:Gl X "enumerate")(J:X.mg "enumerate"=none)(T:PE X l r)(B:starEach [l] X.env=[(false,eval l X.env)]:=by rfl):PI X (.Tuple es k O) (.Call (.Name "enumerate" p) [l] [] pos) (amU X.K r):=by intro g s S H R I h;have N:PA X [l] (m6 r abz):=bV T eW (by unfold SE;rw[B];rfl);refine Call_ (n9 I E J boot_enumerate (asY (thn (N pos g s S H (λz f=>match z with|[x]=>∃a,x=.ref a/\((∃j,SqT X.K f a j)/\R (Ite X.K a) f\/(∃j,SqL X.K f a j)/\R (aos X.K a) f)|_=>False) I h) λU c t=>?_) B rfl));obtain⟨z,f,i,v,d⟩:=t;match z,d,v with
|[x],d,v=>
  obtain⟨a,rfl,d⟩:=d;obtain⟨u,rfl,P⟩:=vals1 v;cases P;have C:c.heap.objs.size+1≠c.heap.objs.size:=Nat.succ_ne_self _;have D:∀b∈[c.heap.objs.size+1,c.heap.objs.size],zk X g f b:=λb K=>by
   have w:b=c.heap.objs.size+1\/b=c.heap.objs.size:=by simpa using K
   have m:c.heap.objs.size<=b:=by
    rcases w with e|e;.rw[e];exact atJ _
    .rw[e];exact arP _
   exact i.aky m (i.hok.fresh m)
  rcases d with⟨⟨j,y⟩,q⟩|⟨⟨j,y⟩,q⟩;.obtain⟨n,M,p,G⟩:=i.tuple y;refine aaI (show c.heap.IsTuple a n.toArray from p) λQ o hit A=>aup o ?_;exact⟨c.heap.objs.size+1,[c.heap.objs.size+1,c.heap.objs.size],_,_,f,rfl,i.kept (t':=c.toks) A,zx a _ _ C,⟨⟨_,o⟩,hit⟩,D,q⟩
  .obtain⟨n,M,p,G⟩:=i.list y;refine call_enumerate_list p.isList λQ o hit _ A=>aup o ?_;exact⟨c.heap.objs.size+1,[c.heap.objs.size+1,c.heap.objs.size],_,_,f,rfl,i.kept (t':=c.toks) A,zy a _ _ C,⟨⟨_,o⟩,hit⟩,D,q⟩|[],d,_=>exact d.elim|_::_::_,d,_=>exact d.elim
end
section
variable{X:Cx}
theorem nG{h:Heap}:∀{us:List Value}{ds:List PyData}{as:List Addr},ReadsAll h us ds as->us.length=ds.length|_,_,_,.nil=>rfl|_,_,_,.cons _ t=>by rw[ar1,ar1,nG t]
def aeH(p:PyData->Bool)(ds:List PyData)(k:Nat):Prop:=(∃d,ds[k]?=some d/\p d=true)/\∀m d,m<k->ds[m]?=some d->p d=false
def acN:MtR X "list.index" λx t H Q=>∃n y d b k,t=[y]/\IsD X.K H n y d/\IsD X.K H (n+1) x (.list b)/\X.A.units+1+n<cLine/\aeH (λz=>PyData.eqv z d) b k/\b.length<=1000000/\Q (.int k) H:=by
 intro r s Y H x t v U Q I C E⟨n,y,d,b,k,e,N,J,hu,⟨⟨T,h,B⟩,l⟩,hl,q⟩;subst e;obtain⟨u,rfl,M⟩:=vals1 E;obtain⟨⟨R,D⟩,K,S⟩:=I.reads n d y u N M;obtain⟨⟨bs,G⟩,j,Z⟩:=I.reads _ _ x v J C;have j:PyData.canLayAll0 b=true:=by simpa[PyData.canLay0]using j
 cases G with|@list a o its m ds' as' h1 h2 h3 h4=>
 obtain⟨cl,dd,dt,O⟩:=o;cases h2;cases h3;have f:=SeqAt.readsAll_map b _ _ j h4;have c:=nG h4;have g:∀m(i:m<its.size),b[m]?=some (SeqAt.readOf s.heap its[m]):=λm i=>by rw[<-f,ar3];simp[i]
 have A:k<its.size:=by have:=(arL.mp h).1;have:its.toList.length=b.length:=c;simp at this;omega
 have w:=g k A;rw[h]at w;have P:its.size<=1000000:=by have:its.toList.length=b.length:=c;simp at this;omega
 refine auk F.slot_list_index ⟨_,h1,rfl⟩ F.entry_list_index (F.args_list_index_2 _ _) (SeqAt.list_indexAt a its m dd O u (λz=>PyData.eqv (SeqAt.readOf s.heap z) d) k A (by omega) ?_ λm i p=>?_) ⟨h1,SeqAt.items_eqAt h4 D j K (by have:=auB (PyData.depthAll b) d.depth;omega),⟨.int k,H,I.tok _,⟨_,rfl⟩,q⟩⟩;.show PyData.eqv (SeqAt.readOf s.heap its[k]) d=true;rw[<-asd w];exact B
 .exact l m _ p (g m i)
def aex(O:X.calm=true):bG X (.builtin "all") λB H Q=>∃(l:Addr)(bs:List Bool),B=[.ref l]/\SqL X.K H l (bs.map V.bl)/\Q (.bl (bs.all id)) H:=by
 intro G s σ H B us Q I r h;obtain⟨l,bs,rfl,P,q⟩:=h;obtain⟨u,rfl,J⟩:=vals1 r;cases J;obtain⟨a,C,pl,hz⟩:=I.list P;have U:=C.length;have M:l<s.heap.objs.size:=by obtain⟨o,_,m,_⟩:=pl;exact arV m
 have j:∀(i:Nat)(v:Value),a.toArray[i]?=some v->∃b,bs[i]?=some b/\v=Value.bool b:=λi v T=>by
  have f:a[i]?=some v:=by simpa using T
  have c:i<(bs.map V.bl).length:=by have:=(arL.mp f).1;omega
  obtain⟨u,d,E⟩:=C.get (arQ c);rw[f]at d;cases d;have y:i<bs.length:=by simpa using c
  refine⟨bs[i],arQ y,?_⟩;rw[List.getElem_map]at E;exact E
 refine call_all_walk (ave pl.isList ⟨s.heap.objs.size,_,_,_,_,_,λi=>bs.getD i false,rfl,Walks.list (prog:=X.prog) (w:=X.w) (A:=X.A.in1) (show X.A.in1.handled=none from I.ok.hd O) s.heap.objs.size l (ar0 M) a.toArray,⟨⟨_,arW _ rfl,rfl,rfl⟩,?_⟩,?_,λh' tk Z=>?_⟩);.obtain⟨o,k,m,x,S,n⟩:=pl;exact⟨o,arK _ m,x,k,n⟩
 .intro i v Y N E' K g;obtain⟨b,p,rfl⟩:=j i v K;have g:N (bs.getD i false) Y:=g;rw[ar5,p]at g;exact asI g
 .have e:(List.range a.toArray.size).all (λi=>bs.getD i false)=bs.all id:=by
   have t:a.toArray.size=bs.length:=by simp at U⊢;omega
   rw[t,asq,asx,asx];constructor;.intro h b j;obtain⟨i,c,rfl⟩:=List.getElem_of_mem j;have:=h i (asK.mpr c);rw[ar5,arQ c]at this;exact this
   .intro h i c;have c:=asK.mp c;rw[ar5,arQ c];exact h _ (asS c)
  rw[e];exact⟨.bl _,H,I.kept λb o D=>Z b o (by
  intro z;have R:b=s.heap.objs.size:=by simpa using z
  exact absurd (arV D) (by rw[R];exact asT _)) (arK _ D),rfl,q⟩
def adi:IxR X λx y H Q=>∃a b k v,x=.ref a/\y=kV k/\Rd H a (.dK b)/\xN b k=some v/\Q v H:=by intro d c h s t H x y v u Q I i n⟨a,_,k,z,ex,m,e,l,q⟩j;subst ex m;cases i;obtain⟨w,o,r,f,dd⟩:=adU I.hok e;refine de (xC.some_of (by rw[<-l];exact f.val k)) λp hw g=>?_;exact tail_any dd.typeIs avl.lookup (wpAny_getItem_of (agn n) dd.mapOf hw (fD z H (I.tok _) g q)) j
def aeK(w:World)(K:W.Frag)(a:Addr)(kvs:List (Str×V)):Prop:=∃b n,K.lookup a=some ⟨.type "dict",none,.dict b n,#[]⟩/\Paired (λ(p:Str×V)(e:DictEntry)=>(∃t,e.key=.str p.1 t)/\e.hash=PyData.keyHash w.params p.1/\RelV p.2 e.val) kvs b.toList
theorem qk{w:World}:∀{kvs es},Paired (λ(p:Str×V)e=>(∃t,e.key=.str p.1 t)/\e.hash=PyData.keyHash w.params p.1/\RelV p.2 e.val) kvs es->W.KeysLit w.params es|_,_,.nil=>trivial|_,_,.cons ⟨⟨t,e1⟩,e2,_⟩ r=>⟨⟨_,t,e1,e2⟩,qk r⟩
theorem adF{w:World}(k)(v):∀{kvs es},Paired (λp(e:DictEntry)=>(∃t,e.key=.str p.1 t)/\e.hash=PyData.keyHash w.params p.1/\RelV p.2 e.val) kvs es->kvs.lookup k=some v->∃e,es.find? (λe=>Value.isStrOf k e.key)=some e/\RelV v e.val
|_,_,.nil,h=>by simp at h|_,_,.cons (a:=p) (b:=e) ⟨⟨t,e1⟩,e2,rv⟩ r,h=>by
 by_cases f:k=p.1;.obtain⟨d,j⟩:=p;subst f;simp[List.lookup]at h;subst h;exact⟨e,by simp[List.find?,e1,Value.isStrOf],rv⟩
 .obtain⟨d,j⟩:=p;have c:(k==d)=false:=by simpa using f
  simp only[List.lookup,c]at h;refine de (adF k v r h) λl i g=>?_;refine⟨l,?_,g⟩;rw[at5,e1];have:Value.isStrOf k (.str d t)=false:=by simp[Value.isStrOf];exact λz=>f z.symm
  rw[this];exact i
def ago{a0 kvs}(D:aeK X.w X.K a0 kvs):IxR X λx y H Q=>x=.ref a0/\∃k v,y=.str k/\kvs.lookup k=some v/\Q v H:=by intro b a d s r H x y v u Q I h o⟨ex,k,z,m,l,q⟩i;subst ex m;cases h;obtain⟨t,rfl⟩:=o;refine dc D λw n j p=>?_;refine de (adF k z p l) λe g f=>?_;have c:=W.mapOf_K (prog:=X.prog) I.kIn j (qk p);refine tail_any c.typeIs avl.lookup (wpAny_getItem_of (strKind_is _ _ k t) c ?_ (fD z H (I.tok _) f q)) i;unfold findBy;rw[<-auZ,g];rfl
end
end L2
set_option autoImplicit true
set_option relaxedAutoImplicit true
namespace L2
open PySem PySem.Spec PyProof.Rows
def V12(vs:Array Value)(v:Value):Prop:=vs[1]?=some v/\vs[2]?=some .none
def Trc(h:Heap)(e C:Addr)(dx:Option Addr)(f:Value):Option Addr->Prop|none=>∃a b,h.get? e=some a/\a.cls=.ref C/\a.dict=dx/\a.data=.fields b/\V12 b .none|some T=>T≠e/\∃a b d c,h.get? e=some a/\a.cls=.ref C/\a.dict=dx/\a.data=.fields b/\V12 b (.ref T)/\h.get? T=some d/\d.data=.fields c/\c[3]?=some f
def Trc.there{h e C dx j T}(t:Trc h e C dx j T):∃a b,h.get? e=some a/\a.cls=.ref C/\a.dict=dx/\a.data=.fields b/\b[2]?=some .none:=by cases T with|none=>refine ke t λa b f c i g d=>?_;exact⟨a,b,f,c,i,g,d.2⟩|some T=>obtain⟨_,a,b,_,_,f,c,i,g,d,_⟩:=t;exact zm a b f c i g d.2
def Trc.keeps{h h' e C dx f T}(t:Trc h e C dx f T)(k:∀b o,b=e\/T=some b->h.get? b=some o->h'.get? b=some o):Trc h' e C dx f T:=by cases T with|none=>refine dc t λd c a r=>?_;exact⟨d,c,k _ _ (.inl rfl) a,r⟩|some T=>obtain⟨i,d,c,m,j,a,g,q,n,p,l,r⟩:=t;exact⟨i,d,c,m,j,k _ _ (.inl rfl) a,g,q,n,p,k _ _ (.inr rfl) l,r⟩
def Obj.pz(f)(o:Obj):(o.mapFields f).dict=o.dict:=by obtain⟨c,d,a,b⟩:=o;cases a<;>rfl
section
variable{M:Model}{A:Around}{E:Value->Shared->Prop}{s:Shared}
def uI{v g d L e C B vs head i Q}(K:A.frames=some (g::d))(P:s.heap.FunFrames v (g::d))(S:g.frame=some L)(O:s.heap.get? e=some B)(H:B.data=.fields vs)(hsz:1<vs.size)(u:vs[2]?=some .none)(h:∀G N,(∀b o,s.heap.get? b=some o->b≠e->b∉frs (g::d)->G.get? b=some o)->(∀b o,s.heap.get? b=some o->b∈frs (g::d)->∃J,G.get? b=some {o with slots:=J})->s.heap.objs.size<=N->Trc G e C B.dict (rawInt L) (some N)->Q () {s with heap:=G})(T:B.cls=.ref C):wpAny M A (do let a <-frameOf g;let pl <-entryPlaceOf L i;let b <-EntryCells.newEntry head a .none (rawInt L) .none pl;setField (.ref e) 1 b) Q E s:=by
 have m:e ∉(g::d).filterMap (·.frame):=λR=>by obtain⟨_,o,D,I⟩:=P.mem R;rw[O]at D;injection D with D;subst D;exact I vs H
 refine arJ (wpAny_frameOf_fun K P S λc f=>?_);refine arJ (wpAny_entryPlaceOf λpl w=>?_);unfold EntryCells.newEntry newFields;refine arJ (atM ?_ (w.sizeOk5 _ _ _ _ _));have l:c.get? e=some B:=(f.2.1 e m).trans O;have j:=arK {cls:=.type "traceback",dict:=none,data:=.fields ([head,.ref L,.none,rawInt L,.none]++if pl.isEmpty then List.replicate 6 Value.none else pl).toArray} l;refine aul j H hsz ?_;have y:=asE (arV l);have k:=atF H (·.setIfInBounds 1 (Value.ref c.objs.size));have p:=asN (Obj.mapFields (·.setIfInBounds 1 (Value.ref c.objs.size))) j (auG k);have r:=(ar9 (c.push {cls:=.type "traceback",dict:=none,data:=.fields ([head,.ref L,.none,rawInt L,.none]++if pl.isEmpty then List.replicate 6 Value.none else pl).toArray}) (Obj.mapFields (·.setIfInBounds 1 (Value.ref c.objs.size))) (arY y)).trans (arW c rfl);have keep:∀b o,b≠e->c.get? b=some o->((c.push {cls:=.type "traceback",dict:=none,data:=.fields ([head,.ref L,.none,rawInt L,.none]++if pl.isEmpty then List.replicate 6 Value.none else pl).toArray}).update e (Obj.mapFields (·.setIfInBounds 1 (Value.ref c.objs.size)))).get? b=some o:=λb o t x=>by rw[ar9 _ _ (arY t)];exact arK _ x
 refine h _ c.objs.size (λb o x t n=>keep b o t ((f.2.1 b n).trans x)) (λb o x n=>?_) ?_ ?_;.obtain⟨J,q⟩:=f.2.2 b o x;exact⟨J,keep b _ (λz=>m (z▸n)) q⟩
 .rw[f.1];exact arP _
 .exact⟨y,_,_,_,_,p,(Obj.cls_mapFields _ _).trans T,Obj.pz _ _,k,⟨by simp[hsz],by rw[Array.getElem?_setIfInBounds];simpa using u⟩,r,rfl,by first|(simp;done)|(rcases w with rfl|⟨_,_,_,_,_,_,_,rfl⟩<;>simp)⟩
def yw{n d a L e C dx S T Q}(u:A.frames=some (d::a))(P:s.heap.FunFrames n (d::a))(y:d.frame=some L)(U:Trc s.heap e C dx S T)(J:(S==rawInt L)=false)(h:∀i l,(∀b o,s.heap.get? b=some o->b≠e->T≠some b->b∉frs (d::a)->i.get? b=some o)->(∀b o,s.heap.get? b=some o->b∈frs (d::a)->∃Z,i.get? b=some {o with slots:=Z})->s.heap.objs.size<=l->Trc i e C dx (rawInt L) (some l)->Q () {s with heap:=i}):wpAny M A (noteFrame (.ref e) d) Q E s:=by unfold noteFrame;simp only[y];cases T with|none=>refine ke U λoe N t H k m j=>?_;refine arJ (asw t m j.1 ?_);rw[arO (by decide)];subst k;exact uI u P y t m (atr.mp j.1).1 j.2 (λi l B D O x=>h i l (λb o f v _ I=>B b o f v I) D O x) H|some T=>
 obtain⟨K,oe,N,oT,ts,t,H,k,m,j,R,p,X⟩:=U;subst k;refine arJ (asw t m j.1 ?_);rw[arM (by simp)];refine arJ (asw R p X ?_);rw[arO (by rw[J];exact ar2)];refine arJ (aul R p (atr.mp X).1 ?_);have other:∀b,b≠T->(s.heap.update T (Obj.mapFields (·.setIfInBounds 3 Value.none))).get? b=s.heap.get? b:=λb f=>ar9 _ _ (arY f);have c:∀b o,s.heap.get? b=some o->(∀N,o.data≠.fields N)->b≠T:=λb o f g q=>by grind
 have w:∀b∈frs (d::a),b≠T:=λb f=>by obtain⟨_,o,Y,g⟩:=P.mem f;exact c b o Y g
 refine uI u (P.of_keeps λb o f g=>⟨o,(other b (c b o f g)).trans f,rfl⟩) y ((other e (arY K)).trans t) m (atr.mp j.1).1 j.2 (λi l B D O x=>h i l (λb o f v nT I=>?_) (λb o f r=>?_) ?_ x) H;.have G:b≠T:=λz=>nT (by rw[z]);exact B b o ((other b G).trans f) v I
 .exact D b o ((other b (w b r)).trans f) r
 .rw[<-Heap.size_after_update ..];exact O
def acJ{a}{L e C T:Addr}{dx d Q}(l:a.frame=some L)(k:Trc s.heap e C dx d (some T))(c:(d==rawInt L)=true)(h:Q () s):wpAny M A (noteFrame (.ref e) a) Q E s:=by unfold noteFrame;simp only[l];obtain⟨j,u,t,r,q,m,p,n,f,g,i,b,o⟩:=k;refine arJ (asw m f g.1 (arJ (asw i b o ?_)));rw[arM c];exact arR h
def aar   (r:Trc s.heap e C dx fl (some T))(h:∀g,(∀b o,s.heap.get? b=some o->b≠T->g.get? b=some o)->Trc g e C dx (fr.elim .none λf=>rawInt f) (some T)->Q () {s with heap:=g}):wpAny M A (setFlight (.ref e) fr) Q E s:=by obtain⟨d,u,t,x,w,n,p,j,k,l,m,c,v⟩:=r;have a:=(atr.mp v).1;have other:∀b,b≠T->(s.heap.update T (Obj.mapFields (·.setIfInBounds 3 (fr.elim Value.none λf=>rawInt f)))).get? b=s.heap.get? b:=λb i=>ar9 _ _ (arY i);exact arJ (asw n k l.1 (aul m c a (h _ (λb o i q=>(other b q).trans i) ⟨d,u,t,_,_,(other e (arY d)).trans n,p,j,k,l,asN _ m (auG (atF c _)),atF c _,by simp[a]⟩)))
end
def nV{P w H h a o}(x:cL P w H h a o):∃ob,h.get? a=some ob:=by cases o with|lst xs=>obtain⟨_,_,_,_,e⟩:=x;exact⟨_,e⟩|tup xs=>obtain⟨_,_,_,o,e,_⟩:=x;exact⟨_,e⟩|dK kvs|dT kvs=>obtain⟨_,_,_,_,o,_,_,e,_⟩:=x;exact⟨_,e⟩|set S n=>obtain⟨o,_,_,_,e,_⟩:=x;exact⟨_,e⟩|ins C dx fs=>obtain⟨_,_,_,e,_⟩:=x;exact⟨_,e⟩|own y=>exact x|xd fs=>obtain⟨_,⟨_,_,_,e,_⟩,_⟩:=x;exact⟨_,e⟩|rng lo hi=>obtain⟨_,_,_,e⟩:=x;exact⟨_,e⟩|frz ob u=>obtain⟨e,_⟩:=x;exact⟨_,e⟩|tbl ps|met f y=>exact⟨_,x⟩|ext φ=>obtain⟨_,e,_⟩:=x;exact e
def FpX(X:Cx)(pins:List (Addr×Obj))(H:Hp)(b:Addr):Prop:=H b=none/\b≠X.env.locals/\b∉X.fs/\(b∈X.ex\/X.s₀.heap.get? b=none)/\(∀x c,X.env.cells.lookup x=some c->c≠b)/\∀p∈X.pn++pins,p.1≠b
structure Thr(X:Cx)(pins:List (Addr×Obj))(σ:St)(H:Hp)(s:Shared)(e C:Addr)(dx:Option Addr)(fl:Value)(T:Option Addr):Prop where
 inv:Inv X pins σ H s
 trc:Trc s.heap e C dx fl T
 fe:FpX X pins H e
 fT:∀t,T=some t->FpX X pins H t
section
variable{X:Cx}{pins:List (Addr×Obj)}{σ:St}{H:Hp}{s:Shared}{e C:Addr}{dx:Option Addr}{fl:Value}{T:Option Addr}
def Inv.fpX{H'}(I:Inv X pins σ H s){b}(d:s.heap.get? b=none)(h:H' b=none):FpX X pins H' b:=by
 refine⟨h,λz=>?_,λz=>?_,?_,λx c i z=>?_,λp j z=>?_⟩;.obtain⟨m,⟨o,l,n,a,_⟩,_⟩:=I.loc;rw[<-z,d]at a;cases a
 .obtain⟨_,o,a,_⟩:=I.r9.mem z;rw[d]at a;cases a
 .by_cases g:b∈X.ex;.exact .inl g
  .refine .inr ?_;cases q:X.s₀.heap.get? b with|none=>rfl|some o=>obtain⟨k,f⟩:=I.base.there b o q g;rw[d]at f;cases f
 .obtain⟨v,o,a,_⟩:=I.cell x c i;rw[z,d]at a;cases a
 .have:=(I.pin p j).1;rw[z,d]at this;cases this
def Inv.ao0(I:Inv X pins σ H s){ch:List Addr}{h'}(d:∀b∈ch,FpX X pins H b)(k:∀b o,s.heap.get? b=some o->b∉ch->b∉frs X.stack->h'.get? b=some o)(f:∀b o,s.heap.get? b=some o->b∉ch->b∈frs X.stack->∃j,h'.get? b=some {o with slots:=j}):Inv X pins σ H {s with heap:=h'}:=by
 have any:=λb o q a=>by
  by_cases g:b∈frs X.stack;.exact f b o q a g
  .exact⟨o.slots,k b o q a g⟩
 have trk:∀b u,H b=some u->b∉ch/\b∉frs X.stack:=λb u q=>⟨(λz=>by rw[(d b z).1]at q;cases q),λz=>by rw[I.vw b z]at q;cases q⟩;refine I.afw (λb g=>⟨(d b g).2.2.2.1,(d b g).2.1,(d b g).2.2.2.2.1,(d b g).2.2.2.2.2⟩) (λb o i h a q _=>k b o q a ((λb i h z=>(ar4.mp (I.xU b z)).elim i h) b i h)) (λb o _ _ a q _=>any b o q a) (λ_ _ _ _ n=>n) (λb o a q=>let⟨j,z⟩:=any b o q a;⟨_,z⟩) (λ_ _ q=>q) (λ_ _ _ q=>q) (λb y q=>⟨#[],by rw[q];simp⟩) (λm l=>?_) (λb u q=>?_) I.bare;.refine vh l λo t x p r=>?_;obtain⟨j,w⟩:=any _ o p λz=>(d _ z).2.1 rfl;exact aeL _ t x w r
 .refine(I.hok b u q).vy (λc v a z=>?_) (λ_ z=>z) λ_ _ z=>z;rcases a with rfl|a;.exact k c v z (trk c u q).1 (trk c u q).2
  .exact k c v z (trk c _ a).1 (trk c _ a).2
variable{M:Model}{E:Value->Shared->Prop}{Q:Unit->Shared->Prop}
def Thr.note(t:Thr X pins σ H s e C dx fl T)(g:X.stack=X.env::X.outer)(u:X.env.frame=some X.env.locals)(h:∀j k y,Thr X pins σ H {s with heap:=j} e C dx y (some k)->Q () {s with heap:=j}):wpAny M X.A (noteFrame (.ref e) X.env) Q E s:=by
 have I:=t.inv;have i:=I.stack;rw[g]at i;have l:(fl==rawInt X.env.locals)=false->wpAny M X.A (noteFrame (.ref e) X.env) Q E s:=λc=>by
  refine yw (by rw[<-g];exact I.ok.frames) i u t.trc c λj k v x m r=>h j k (rawInt X.env.locals) ?_;have f:=I.hok.fresh m;have w:∀b∈e::T.toList,FpX X pins H b:=λb a=>by
   rcases ar4.mp a with rfl|a;.exact t.fe
   .exact t.fT b (by grind)
  have d:∀b,b∉e::T.toList->b≠e/\T≠some b:=λb a=>⟨λz=>a (by rw[z];exact ash),λz=>a (by rw[z];simp)⟩;have p:=I.ao0 w (λb o q n a=>v b o q (d b n).1 (d b n).2 (by rw[<-g];exact a)) λb o q _ a=>x b o q (by rw[<-g];exact a);exact⟨p,r,t.fe,λb a=>by cases a;exact I.fpX (asD m) f⟩
 cases T with|none=>exact(show Thr X pins σ H s e C dx .none none->_ from λt=>by
   have c:((.none:Value)==rawInt X.env.locals)=false:=by simp[rawInt]
   refine yw (by rw[<-g];exact I.ok.frames) i u t.trc c λj k v x m r=>h j k (rawInt X.env.locals) ?_;have f:=I.hok.fresh m;have p:=I.ao0 (λb a=>by rw[asn.mp a];exact t.fe) (λb o q n a=>v b o q (λz=>n (by rw[z];exact ash)) (by intro z;cases z) (by rw[<-g];exact a)) λb o q _ a=>x b o q (by rw[<-g];exact a);exact⟨p,r,t.fe,λb a=>by cases a;exact I.fpX (asD m) f⟩) ⟨t.inv,t.trc,t.fe,t.fT⟩|some T0=>cases c:fl==rawInt X.env.locals with|false=>exact l c|true=>exact acJ u t.trc c (h s.heap T0 fl t)
def Thr.adE{T fr}(t:Thr X pins σ H s e C dx fl (some T))(h:∀c a,Thr X pins σ H {s with heap:=c} e C dx a (some T)->(fr=none->a=.none)->Q () {s with heap:=c}){A}:wpAny M A (setFlight (.ref e) fr) Q E s:=by exact aar t.trc λc f i=>h c _ ⟨t.inv.ao0 (λb g=>by rw[asn.mp g];exact t.fT T rfl) (λb o q d _=>f b o q λz=>d (by grind)) λb o q d _=>⟨o.slots,f b o q λz=>d (by grind)⟩,i,t.fe,t.fT⟩ λz=>by grind
def Thr.uv{T}(t:Thr X pins σ H s e C dx fl (some T))(h:∀a,Thr X pins σ H {s with heap:=a} e C dx .none (some T)->Q () {s with heap:=a}){A}:wpAny M A (setFlight (.ref e) none) Q E s:=t.adE λa c b z=>h _ (z rfl▸b)
def Thr.pass{j T a d Q}(t:Thr X pins σ H s e C dx fl (some T))(h:∀c b,Thr X pins σ H {s with heap:=c} e C dx b (some T)->E (.ref e) {s with heap:=c}){A}:wpAny M A (PySem.passOn a (.ref e) d:Sem j) Q E s:=by obtain⟨k,v,u,r,p,l,o,n,f,g,q,i,w⟩:=id t.trc;exact arJ (asw l f g.1 (arJ (t.adE λc b m _=>wpAny_throw (h _ _ m))))
end
def CXX(P:Program)(w:World):CXT:=λa H s E e c=>∃d C f T b,e=.ref d/\c.os=s.os/\AllBare c.gens/\Un (frs a) [] H b s.heap c.heap/\HOk P w b c.heap/\Trc c.heap d C f .none (some T)/\s.heap.get? d=none/\s.heap.get? T=none/\b d=none/\b T=none/\E (.ref C) f b
section
variable{X:Cx}{pins:List (Addr×Obj)}{σ:St}{H:Hp}{s s':Shared}{e:Value}{E:XK}
def Inv.thrown(I:Inv X pins σ H s)(h:CXX X.prog X.w X.stack H s E e s'):∃a C d T c,e=.ref a/\Thr X pins σ c s' a C d .none (some T)/\E (.ref C) d c:=by obtain⟨a,C,d,T,c,rfl,m,k,un,f,n,l,j,i,g,q⟩:=h;exact⟨a,C,d,T,c,rfl,⟨I.aka m un f k λb z=>absurd z (by simp),n,I.fpX l i,λt z=>by cases z;exact I.fpX j g⟩,q⟩
end
def kK{P w K j d N g scope f h A a s H E pins σ H' s' e C dx T k}(t:Thr (fA (CXX P w) P w K j d N g scope f h A a s H E) pins σ H' s' e C dx k T)(q:E (.ref C) dx H'):(fA (CXX P w) P w K j d N g scope f h A a s H E).xe (.ref e) s':=by
 refine arJ (t.note rfl rfl λn i _ l=>l.uv λm c=>?_);have I:=c.inv;have new:∀b,FpX (fA (CXX P w) P w K j d N g scope f h A a s H E) pins H' b->s.heap.get? b=none:=λb z=>by
  rcases z.2.2.2.1 with z|z;.exact absurd (show b∈[]from z) (by simp)
  .exact z
 exact⟨e,C,dx,i,H',rfl,I.os,I.bare,I.base,I.hok,c.trc,new e c.fe,new i (c.fT i rfl),c.fe.1,(c.fT i rfl).1,q⟩
section
variable{X:Cx}{k:Nat}{f:Addr}{fd:FuncData}{ps:List Str}{sp:Sp}{dvs:List V}{ds:List Value}{x:Str}{p pos:Pos}{e:Expr}{es:List Expr}{t:TA}
def abB(X:Cx)(sp:Sp)(dvs:List V)(t:TA):TE:=λb H Q=>t b H λg h=>∃E:XK,sp (g++dvs) h Q E/\∀a s e C d T c,Thr X a b c s e C d .none (some T)->E (.ref C) d c->X.xe (.ref e) s
def vI    (F:FnOk X.prog X.w X.K X.mg X.base (CXX X.prog X.w) k f fd ps sp)(j:Room k X.A)(m:Binds X.K fd ps ds)(i:Vals dvs ds)(o:∀a s e C c T b,Thr X a σ b s e C c .none (some T)->E (.ref C) c b->X.xe (.ref e) s)(I:Inv X a σ H s)(r:Vals vs us)(h:sp (vs++dvs) H Q E):wpAny (model X.prog X.w) X.A (call (.ref f) us) (EP X a σ Q) X.xe s:=by
 have g:=r.append i;have n:(us++ds).length=ps.length:=by rw[<-g.length];exact F.len _ _ _ _ h
 refine auM (at9 (F.run _ _ s H _ _ _ Q E j trivial I.aoi (m s us I.kIn n) g h) λr v d=>?_);cases r with|error e=>obtain⟨l,C,c,T,b,rfl,t,q⟩:=I.thrown d;exact o _ v l C c T b t q|ok fl=>cases fl with|ret u=>exact I.after d|next|brk|cont=>exact False.elim d
def yk(F:FnOk X.prog X.w X.K X.mg X.base (CXX X.prog X.w) k f fd ps sp)(l:Room k X.A)(g:Gl X x)(j:X.mg x=some (.ref f))(w:W.keepIn X.K (.ref f)=true)(n:Binds X.K fd ps ds)(i:Vals dvs ds)(u:PA X (e::es) t)(b:Dbg x:=by decide)(o:SE X e es:=by rfl)(a:BT X pos es:=by rfl):PE X (.Call (.Name x p) (e::es) [] pos) (abB X sp dvs t):=by intro c s m H Q I h;exact atl (dH I g j (avq I.ok.mod.kin w (thn (u _ _ s m H _ I h) λz B⟨A,y,d,r,E,q,v⟩=>⟨d.kIn,vI F l n i v d r q⟩) o a) b)
end
section
variable{X:Cx}{t:TA}{x:Str}{C:Addr}{np cpos pos:Pos}{e:Expr}{es:List Expr}
noncomputable abbrev gb:List Value:=[.type "ValueError",.type "Exception",.type "BaseException",.type "object"]
def alj(X:Cx)(C:Addr)(t:TA):TS:=λ_ b H=>t b H λc d=>c.length<=sizeLine/\∀a s e,Thr X a b d s e C none .none none->X.xe (.ref e) s
def vc(K:W.Frag)(C:Addr)(r:Option Value):Prop:=∃c a l n bs d g sub k b dd f j m i h,K.lookup C=some (excClassObj l n C a bs c d g sub k b dd f j m i h "ValueError.__new__")/\(W.tailIn K gb c&&W.nsOkIn K a&&W.nsIn K a "__init__"==some r)=true
def vc.mk{K C r bm ns nm b bs a sn sub ab col dd k0 k1 k2 k3 k5}(h:K.lookup C=some (excClassObj nm b C ns bs bm a sn sub ab col dd k0 k1 k2 k3 k5 "ValueError.__new__"))(q:(W.tailIn K gb bm&&W.nsOkIn K ns&&W.nsIn K ns "__init__"==some r)=true):vc K C r:=⟨_,_,_,_,_,_,_,_,_,_,_,_,_,_,_,_,h,q⟩
def vc.out{K:W.Frag}{h:Heap}{r}{P:Prop}(X:K.In h)(q:vc K C r)(k:∀c b n p bs d g sub m a dd f l o j i,h.get? C=some (excClassObj n p C b bs c d g sub m a dd f l o j i "ValueError.__new__")->W.nsOkIn K b=true->W.nsIn K b "__init__"=some r->OwnTail h gb c->P):P:=by obtain⟨c,b,n,p,bs,d,g,sub,m,a,dd,f,l,o,j,i,s,q⟩:=q;simp only[asj,atj]at q;exact k _ _ _ _ _ _ _ _ _ _ _ _ _ _ _ _ (X _ _ s) q.1.2 q.2 (W.tail_of_in X q.1.1)
set_option tactic.hygienic true
def anp{K:W.Frag}{h:Heap}{d:Str->Option Value}(X:K.In h)(e:d x=some (.ref C))(q:vc K C none):OwnCls x C gb "ValueError.__new__" d h:=q.out X λo p r u bs f j sub n c dd i m s l k g a b t=>⟨e,o,p,r,u,bs,f,j,sub,n,c,dd,i,m,s,l,k,_,g,.of_isNs (W.isNs_of_in X a),W.nsMap_none_of_in X a b,t⟩
set_option tactic.hygienic false
def afK(G:X.calm=true)(p:Gl X x)(i:X.mg x=some (.ref C))(q:vc X.K C none)(E:PA X (e::es) t)(r:Dbg x:=by decide)(l:SE X e es:=by rfl)(a:BT X cpos es:=by rfl):PS X (.Raise (some (.Call (.Name x np) (e::es) [] cpos)) none pos) (alj X C t):=by
 intro b s J H D I h;obtain⟨n,N,nm,P,bs,hdct,sn,sub,ab,col,dd,k0,k1,k2,k3,k5,mN,w,A,g,T⟩:=(anp (x:=x) I.mod.kin i q).obj;refine wpAny_Raise_call_subT (C:=C) (nm:=nm) (q:=P) (N:=N) (bs:=bs) (bm:=n) (hdct:=hdct) (sn:=sn) (sub:=sub) (ab:=ab) (col:=col) (dd:=dd) (k0:=k0) (k1:=k1) (k2:=k2) (k3:=k3) (k5:=k5) as1 (mN:=mN) (T.hasType as1.hasBase) (I.ok.hd G) (by rw[l];show(false||(backTo cpos _).any (·.1))=false;rw[a];rfl) g (dH I p i ⟨rfl,?_⟩ r);have m:=E cpos b s J H _ I h;rw[l]at m⊢;refine auO (thn m λR K⟨U,k,c,M,O,B⟩=>⟨rfl,by rw[<-M.length];exact O,c.bk _ _ w,A.keeps c.bk,T.keeps c.bk,λS d f=>?_⟩);refine ju f.there λZ v Q Y=>?_;have y:k d=none:=by cases z:k d with|none=>rfl|some u=>obtain⟨o,j⟩:=nV (c.hok d u z);rw[f.new]at j;cases j
 refine B b _ d ⟨c.kept (t':=K.toks) f.keeps,ag2 _ _ v rfl rfl rfl rfl rfl,c.fpX f.new y,λt z=>by cases z⟩
end
abbrev Cx.sui(X:Cx)(e:Addr):Cx:={X with A:=X.A.mark (some (.ref e)),calm:=false,xe:=λ_ _=>False}
def Cx.Ok.iZ{X:Cx}{E a}(ok:(X.tri E a).Ok):X.Ok:=⟨ok.mod,ok.kind,ok.glob,ok.blt,ok.above,ok.inj,ok.has,ok.cab,ok.hd,ok.frames,ok.stk,ok.exf,ok.bs,ok.bsz,ok.noex,ok.exfs,ok.r9,ok.frf⟩
theorem Cx.Ok.sui{X:Cx}(ok:X.Ok)(e):(X.sui e).Ok:=⟨ok.mod,ok.kind,ok.glob,ok.blt,ok.above,ok.inj,ok.has,ok.cab,λz=>by grind,ok.frames,ok.stk,ok.exf,ok.bs,ok.bsz,ok.noex,ok.exfs,ok.r9,ok.frf⟩
section
variable{X:Cx}{pins pins':List (Addr×Obj)}{σ:St}{H:Hp}{s:Shared}{E:Value->Shared->Prop}
theorem Inv.iZ(I:Inv (X.tri E (X.pn++pins)) pins' σ H s):Inv X pins σ H s:=⟨I.ok.iZ,I.os,I.bare,I.base,I.loc,I.cell,I.free,I.freeC,λp a=>I.pin p (asz _ a),I.hok,I.len⟩
theorem Inv.sui(I:Inv X pins σ H s)(e):Inv (X.sui e) pins σ H s:=⟨I.ok.sui e,I.os,I.bare,I.base,I.loc,I.cell,I.free,I.freeC,I.pin,I.hok,I.len⟩
def Inv.back(I:Inv X pins σ H s){e}{a:St}{H' s'}(J:Inv (X.sui e) pins a H' s'):Inv X pins a H' s':=⟨I.ok,J.os,J.bare,J.base,J.loc,J.cell,J.free,J.freeC,J.pin,J.hok,J.len⟩
def FpX.iZ{b}(h:FpX (X.tri E (X.pn++pins)) pins' H b):FpX X pins H b:=⟨h.1,h.2.1,h.2.2.1,h.2.2.2.1,h.2.2.2.2.1,λp a=>h.2.2.2.2.2 p (asz _ a)⟩
theorem Thr.iZ{e C dx a T}(t:Thr (X.tri E (X.pn++pins)) pins' σ H s e C dx a T):Thr X pins σ H s e C dx a T:=⟨t.inv.iZ,t.trc,t.fe.iZ,λb c=>(t.fT b c).iZ⟩
theorem SP.iZ{D f s'}(h:SP (X.tri E (X.pn++pins)) pins' D f s'):SP X pins D f s':=by cases f with|next|brk|cont=>obtain⟨a,b,I,q⟩:=h;exact⟨_,b,I.iZ,q⟩|ret u=>refine zl h λv a b I r q=>?_;exact ag1 v _ b I.iZ r q
theorem SP.back(I:Inv X pins σ H s){e D f s'}(h:SP (X.sui e) pins D f s'):SP X pins D f s':=by cases f with|next|brk|cont=>obtain⟨a,b,J,q⟩:=h;exact⟨_,b,I.back J,q⟩|ret u=>refine zl h λv a b J r q=>?_;exact ag1 v _ b (I.back J) r q
end
section
variable{X:Cx}{pins:List (Addr×Obj)}{σ:St}{H:Hp}{s:Shared}{e Ce C:Addr}{dx:Option Addr}{fl:Value}{T:Addr}{x n:Str}{np hpos:Pos}{b0:Stmt}{suite:List Stmt}{Q:Flow->Shared->Prop}{E:Value->Shared->Prop}
def Thr.ty(t:Thr X pins σ H s e Ce dx fl (some T)){M}:W.Looks M s.heap (typeOf (.ref e)) (.ref Ce):=by obtain⟨d,c,b,a,_,_⟩:=t.trc.there;exact a▸(W.Looks.ld b).andThen .now
def wD(t:Thr X pins σ H s e Ce dx fl (some T))(b:Gl X x)(d:X.mg x=some (.ref C))(g:W.exmOne X.K (.ref Ce) (.ref C)=some true)(k:∀a,Thr X pins σ H {s with heap:=a} e Ce dx .none (some T)->wpAny (model X.prog X.w) (X.A.mark (some (.ref e))) (execs (b0::suite) X.env) Q (λ_ _=>False) {s with heap:=a})(c:Dbg x:=by decide):wpAny (model X.prog X.w) X.A (handleBy (.ref e) X.env [.ExceptHandler (some (.Name x np)) none (b0::suite) hpos]) Q E s:=by exact wpAny_handleBy_cons (codeAny_handlers_test (dH (t.inv.sui e) b d ((W.exm_one t.inv.kIn t.ty g).here (codeAny_handlers_suite (t.uv λa f=>asi (k a f) (λ_ _ q=>q) λ_ _ z=>z.elim))) c)) (by intro q;cases q)
def excAt(a C:Addr)(dx:Option Addr)(h:Heap):Prop:=∃b c,h.get? a=some b/\b.cls=.ref C/\b.dict=dx/\b.data=.fields c/\c[2]?=some .none
end
end L2
namespace L2
open PySem PySem.Spec PyProof.Rows
open PySem.W(findIn mroIn findObj specialIn takesIn clsIn hasDictIn KitX looks_findIn looks_mroIn looks_find)
section
variable{prog:Program}{w:World}{A:Around}{E:Value->Shared->Prop}{s:Shared}{K:W.Frag}{x D:Addr}{ox:Obj}{od:Option Obj}{name:Str}
structure ExcK(K:W.Frag)(D:Addr):Prop where
 cls:(clsIn K D).isSome=true
 ga:findIn K (.ref D) "__getattribute__"=some (some (.builtin "BaseException.__getattribute__"))gn:findIn K (.ref D) "__getattr__"=some none
 mb:mroIn K D (.type "BaseException")=some true
 mo:mroIn K D (.type "object")=some true
 cl:findIn K (.ref D) "__class__"=some (some (.builtin "object.__class__"))hn:specialIn K (.builtin "object.__class__") "__get__"=some (some (.builtin "getset_descriptor.__get__"))tk:takesIn K (.builtin "object.__class__")=some true
end
end L2
namespace L2
open PySem PySem.Spec PyProof.Rows
noncomputable abbrev gK(C:Addr)(dx:Option Addr)(a0:Value):Obj:={cls:=.ref C,dict:=dx,data:=.fields #[a0,.none,.none,.none,.bool false,.none]}
def kX(e C:Addr)(dx:Option Addr)(h:Heap):Prop:=∃a,h.get? e=some (gK C dx a)
section
variable{prog:Program}{w:World}{A:Around}{E:Value->Shared->Prop}{env:Env}
variable{nm q:Str}{C N:Addr}{bs bm bmB:List Value}{hdct:Bool}{sn:List Str}{sub:List Value}{ab:Bool}{col:Option Bool}{dd:Option Addr}{k0 k1 k2 k3 k5:Option Value}{B newId initId:String}
def o3{s x Q}(c:bm.contains (.type "BaseException")=true)(j:A.handled=none)(h:wpAny (model prog w) A x (λv a=>∃e i g,v=.ref e/\a.heap.get? C=some (excClassObj nm q C N bs bm hdct sn sub ab col dd k0 k1 k2 k3 k5 newId)/\a.heap.get? e=some (gK C i g)/\E (.ref e) a) E s):wpAny (model prog w) A (raiseStmt env (some x) none) Q E s:=by
 have d:(Value.ref C::bm).contains (.type "BaseException")=true:=by grind
 refine arJ (asi h (λv a b=>?_) λ_ _ x=>x);refine qz b λe i g f k m l=>?_;subst f;repeat(first |(with_reducible refine wpAny_isSubtype_exc k ?_;rw[d])|wp_step)
 exact wpAny_raiseNew_none j l
variable{h:Heap}{g:Array GenState}{d:Drawn}{t:Nat}{os:OsState}
def mM(F:ExcBaseFacts B newId initId bmB)(T:OwnTail h bmB bm){mN:Str->Option Value}{rest:List Value}{fI:Addr}{s:Obj}{Q:Fin->Shared->Prop}(j:h.get? C=some (excClassObj nm q C N bs bm hdct sn sub ab col dd k0 k1 k2 k3 k5 newId))(v:h.Ns N mN)(D:mN "__init__"=some (.ref fI))(m:h.get? fI=some s)(l:s.cls=.type "function")(u:∀h' e,Heap.MadeExcOf h h' e (.ref C) rest->wpAny (model prog w) A (call (.ref fI) (.ref e::rest)) (λr p=>r=.none/\Q (.done (.ret (.ref e))) p) E ⟨h',g,d,t,os⟩)(hrest:rest.length<=sizeLine:=by size_fits):wpAny (model prog w) A (Builtin.«type.__call__» ⟨.ref C::rest,[]⟩) Q E ⟨h,g,d,t,os⟩:=by
 repeat(first|with_reducible refine avf j ?_|with_reducible refine wpAny_madeBy_exc j ?_|wp_step)
 refine codeAny_call_builtin_code (Code.quiet_builtin _ F.quiet) (wpAny_check_new_subT F T j ?_);refine codeAny_exc_new_subT F T j ?_ hrest;show wpAny _ _ _ _ _ _;have a:=arK {cls:=.ref C,data:=.fields #[.ref h.objs.size,.none,.none,.none,.bool false,.none]} (arK {cls:=.type "tuple",data:=.seq rest.toArray} j);have c:=arK {cls:=.ref C,data:=.fields #[.ref h.objs.size,.none,.none,.none,.bool false,.none]} (arK {cls:=.type "tuple",data:=.seq rest.toArray} m);have i:((h.push {cls:=.type "tuple",data:=.seq rest.toArray}).push {cls:=.ref C,data:=.fields #[.ref h.objs.size,.none,.none,.none,.bool false,.none]}).Ns N mN:=let⟨o,H,I,e,r⟩:=v;aeL o H I (arK _ (arK _ e)) r;have f:((h.push {cls:=.type "tuple",data:=.seq rest.toArray}).push {cls:=.ref C,data:=.fields #[.ref h.objs.size,.none,.none,.none,.bool false,.none]}).get? (h.objs.size+1)=some {cls:=.ref C,data:=.fields #[.ref h.objs.size,.none,.none,.none,.bool false,.none]}:=by heap_get
 have n:(Value.ref C::bm).contains (.ref C)=true:=by simp
 have k:=T.keeps (h':=(h.push {cls:=.type "tuple",data:=.seq rest.toArray}).push {cls:=.ref C,data:=.fields #[.ref h.objs.size,.none,.none,.none,.bool false,.none]}) λb o e=>arK _ (arK _ e);unfold isInstance;repeat(first|with_reducible refine avf f ?_|(with_reducible refine wpAny_isSubtype_exc a ?_;rw[n])|wp_step)
 show wpAny _ _ (typeLookup (.ref C) _) _ _ _;refine wpAny_typeLookup_tail a i k F.mroIs F.init.lookup ?_;rw[D];refine as9 (arJ ?_);unfold bindSpecial;refine arJ (wpAny_typeOf (T:="function") ⟨_,c,l⟩ ?_);rw[arM (by decide)];refine arR (arJ (asi (u _ (h.objs.size+1) ⟨λb o G=>arK _ (arK _ G),asD (atJ _),h.objs.size,f,asD (arP _),?_⟩) (λr p z=>?_) λ_ _ x=>x));.exact arK _ (Heap.get?_push_at rfl rfl)
 .obtain⟨rfl,y⟩:=z;wp_walk;exact y
def aaH(F:ExcBaseFacts B newId initId bmB)(T:OwnTail h bmB bm){mN:Str->Option Value}{rest:List Value}{fI:Addr}{i:Obj}{Q:Value->Shared->Prop}(a:h.get? C=some (excClassObj nm q C N bs bm hdct sn sub ab col dd k0 k1 k2 k3 k5 newId))(l:h.Ns N mN)(m:mN "__init__"=some (.ref fI))(c:h.get? fI=some i)(f:i.cls=.type "function")(j:∀b e,Heap.MadeExcOf h b e (.ref C) rest->wpAny (model prog w) (A.under (.builtin "type.__call__" ⟨.ref C::rest,[]⟩)) (call (.ref fI) (.ref e::rest)) (λr n=>r=.none/\Q (.ref e) n) E ⟨b,g,d,t,os⟩)(hrest:rest.length<=sizeLine:=by size_fits):wpAny (model prog w) A (call (.ref C) rest) Q E ⟨h,g,d,t,os⟩:=by
 have p:=tc_lookup;have s:=tc_bind (.ref C);have o:(⟨h,g,d,t,os⟩:Shared).TypeIs (.ref C) "type":=⟨_,a,rfl⟩;refine auM (codeAny_of_tree ?_);show wpAny _ _ (callAny (.ref C) _) _ _ _;repeat(any_goals(first|assumption|with_reducible refine avf a ?_|wp_step))
 refine⟨rfl,?_⟩;refine codeAny_call_builtin_at (Code.quiet_builtin _ (by decide+kernel)) entry_typeCall (wpAny_check_type_call_sub a (mM (hrest:=hrest) F T a l m c f λb e k=>?_));exact j b e k
end
end L2
namespace L2
open PySem PySem.Spec PyProof.Rows
open PySem.W(findIn mroIn findObj specialIn takesIn clsIn hasDictIn looks_findIn looks_mroIn looks_find InstAt)
def lM(self):refuseLoop self "__setattr__" gb=pure ():=by kernel_rfl
structure ExcS(K:W.Frag)(C:Addr):Prop where
 k:ExcK K C
 m:∃cd,clsIn K C=some cd/\cd.hasDict=true/\(cd.mro=.ref C::gb\/∃D:Addr,cd.mro=.ref C::.ref D::gb)sa:findIn K (.ref C) "__setattr__"=some (some (.builtin "object.__setattr__"))
section
variable{prog:Program}{w:World}{A:Around}{E:Value->Shared->Prop}{s:Shared}{K:W.Frag}{x C:Addr}{ox:Obj}{od:Option Obj}{name:Str}{v:Value}{R:Result->Shared->Prop}
def acw{tk}(k:ExcS K C)(X:K.In s.heap)(I:InstAt s.heap x ox C od)(j:findIn K (.ref C) name=some none)(h:∀b,wpAny (model prog w) A.in1 (Builtin.ObjectAttr.storeInOwnDict (.ref x) (.ref C) (.str name tk) name v b) (λfin a=>match fin with|.done f=>R (.ok f) a|.again c'=>c'.quiet=true/\codeAny (model prog w) A c' R a) (λe a=>R (.error e) a) s):codeAny (model prog w) A (.call (.builtin "object.__setattr__") ⟨[.ref x,.str name tk,v],[]⟩) R s:=by
 have SF:=PySem.F.store_object;refine ju k.m λc d _ i=>?_;refine codeAny_call_builtin SF.slot.plain SF.entry (@W.check_slot (model prog w) _ _ s "object.__setattr__" "object" "__setattr__" (.ref x) _ [] _ SF.kind SF.split (I.type.andThen (looks_mroIn X k.k.mo)) (SF.args (.ref x) _ v) ?_);have g:W.Looks (model prog w) s.heap (mroOf (.ref C)) c.mro:=(au7 X d).andThen .now;rw[W.osa_eq,refuse_eq];refine arJ (arJ (I.type.here (arJ (g.here ?_))));rw[show refuseLoop (.ref x) "__setattr__" c.mro=pure ()from by
 rcases i with e|⟨D,e⟩;.rw[e,avJ,lM]
 .rw[e,avJ,avJ,lM]];refine arR (arJ (I.type.here (arJ ((looks_findIn X j).here (arJ (arR ?_))))));exact h _
def rK{a0 Q}(k:ExcS K C)(X:K.In s.heap)(a:s.heap.get? x=some (gK C none a0))(G:findIn K (.ref C) name=some none)(h:∀d,Heap.SameBut s.heap.objs.size ((s.heap.push W.emptyDict).update x λo:Obj=>{o with dict:=some s.heap.objs.size}) d->d.Ns1 s.heap.objs.size (λy=>if y=name then some v else none)->Q () {s with heap:=d,toks:=s.toks+2}):wpAny (model prog w) A (setAttr (.ref x) name v) Q E s:=by have I:InstAt s.heap x (gK C none a0) C none:=⟨a,rfl,rfl,True.intro⟩;refine W.set_plain X I k.sa (acw (s:={s with toks:=s.toks+1}) k X I G λb=>?_);refine ju k.m λJ p q _=>?_;unfold Builtin.ObjectAttr.storeInOwnDict;refine arJ (arR (arJ (arJ (avI a (arJ (W.Looks.here (s:={s with toks:=s.toks+1}) (au7 X p) ?_))))));rw[q];rw[arO (by decide)];have n:=arK (h:=s.heap) W.emptyDict a;have hd1:(s.heap.push W.emptyDict).get? s.heap.objs.size=some W.emptyDict:=arW s.heap rfl;have r:s.heap.objs.size≠x:=asE (arV a);refine arJ (wpAny_alloc (arJ (wpAny_update (o:=gK C none a0) n (arR ?_))));have l:∀b,b≠x->((s.heap.push W.emptyDict).update x λo:Obj=>{o with dict:=some s.heap.objs.size}).get? b=(s.heap.push W.emptyDict).get? b:=λb D=>ar9 _ _ (arY D);have j:=(l _ r).trans hd1;have t:((s.heap.push W.emptyDict).update x λo:Obj=>{o with dict:=some s.heap.objs.size}).Ns s.heap.objs.size λ_=>none:=oU W.emptyDict #[] _ j rfl (λe a=>absurd a (by simp)) λ_=>rfl;unfold Builtin.ObjectAttr.storeInDict;refine arJ (arR (arJ ?_));refine wpAny_nsSet1 (avc t) λd c f=>?_;refine zl (c.count (ns:=[name]) (avb name v λy z=>absurd rfl z)) λH u B m i g=>?_;refine arJ (avo m (by rw[i];exact avp (arU g (by rw[ar1,atH,at0];omega))) ?_);exact arR (h _ f c)
def uE{a0 d m ns Q}(k:ExcS K C)(X:K.In s.heap)(r:s.heap.get? x=some (gK C (some d) a0))(p:s.heap.Ns1 d m)(B:findIn K (.ref C) name=some none)(hw:PySem.Within m ns)(hz:ns.length<=100)(h:∀f,Heap.SameBut d s.heap f->f.Ns1 d (λy=>if y=name then some v else m y)->Q () {s with heap:=f,toks:=s.toks+2}):wpAny (model prog w) A (setAttr (.ref x) name v) Q E s:=by refine vh (id p) λg o q c _=>?_;have I:InstAt s.heap x (gK C (some d) a0) C (some g):=⟨r,rfl,rfl,c⟩;refine W.set_plain X I k.sa (acw k X I B λb=>?_);refine ju k.m λH t u _=>?_;unfold Builtin.ObjectAttr.storeInOwnDict;refine arJ (arR (arJ (arJ (avI r (arJ (W.Looks.here (s:={s with toks:=s.toks+1}) (au7 X t) ?_))))));rw[u,arO (by decide)];refine arR (a:=some d) ?_;unfold Builtin.ObjectAttr.storeInDict;refine arJ (arR (arJ ?_));refine wpAny_nsSet1 p λf e i=>?_;refine zl (e.count (avb name v hw)) λG z D n l j=>?_;refine arJ (avo n (by rw[l];exact avp (arU j (by rw[ar1,at0];omega))) ?_);exact arR (h _ i e)
end
end L2
namespace L2
open PySem PySem.Spec PyProof.Rows
section
variable{prog:Program}{w:World}{A:Around}{E:Value->Shared->Prop}{h:Heap}{g:Array GenState}{d:Drawn}{t:Nat}{os:OsState}
variable{nm q:Str}{C N:Addr}{bs bm bmB:List Value}{hdct:Bool}{sn:List Str}{sub:List Value}{ab:Bool}{col:Option Bool}{dd:Option Addr}{k0 k1 k2 k3 k5:Option Value}{B newId initId:String}
def aez(F:ExcBaseFacts B newId initId bmB)(T:OwnTail h bmB bm){e:Addr}{dx:Option Addr}{a0:Value}{rest:List Value}{Q:Value->Shared->Prop}(l:h.get? C=some (excClassObj nm q C N bs bm hdct sn sub ab col dd k0 k1 k2 k3 k5 newId))(k:h.get? e=some (gK C dx a0))(hrest:rest.length<=sizeLine)(f:∀i m,(∀b o,b≠e->h.get? b=some o->i.get? b=some o)->i.get? e=some (gK C dx m)->Q .none ⟨i,g,d,t,os⟩):wpAny (model prog w) A (call (.builtin initId) (.ref e::rest)) Q E ⟨h,g,d,t,os⟩:=by
 refine auM (codeAny_call_builtin F.init.plain F.initEntry (wpAny_check_init_subT F T l k rfl ?_));wp_walk;have j:=arK (h:=h) {cls:=.type "tuple",data:=.seq rest.toArray} k;have fin:∀c:Shared,c=⟨(h.push {cls:=.type "tuple",data:=.seq rest.toArray}).update e (Obj.mapFields λx=>x.setIfInBounds 0 (Value.ref h.objs.size)),g,d,t,os⟩->Q .none c:=λc z=>by
  subst z;refine f _ (.ref h.objs.size) (λb o n f=>?_) ?_;.rw[ar9 _ _ (arY n)];exact arK _ f
  .rw[asN _ j rfl];rfl
 have go:∀v:Value,wpAny (model prog w) A.in1 (match v with|.ref a=>letGo [v]|x=>pure ()) (λ_ c=>c=⟨(h.push {cls:=.type "tuple",data:=.seq rest.toArray}).update e (Obj.mapFields λx=>x.setIfInBounds 0 (Value.ref h.objs.size)),g,d,t,os⟩) (λ_ _=>False) ⟨(h.push {cls:=.type "tuple",data:=.seq rest.toArray}).update e (Obj.mapFields λx=>x.setIfInBounds 0 (Value.ref h.objs.size)),g,d,t,os⟩:=λv=>by cases v<;>first|exact arR rfl|(wp_walk;rfl)
 refine asi (go _) (λ_ c z=>arR (fin c z)) λ_ _ z=>z.elim
end
end L2
namespace L2
open PySem PySem.Spec PyProof.Rows
open PySem.W(findIn InstAt)
def fy(d:Addr)(fs:List (Str×V))(h:Heap):Prop:=∃a,h.Ns1 d a/\(∀f,xC (fs.lookup f) (a f))/\PySem.Within a (fs.map (·.1))
def ahu{P w H h e C dx a0}(b:h.get? e=some (gK C dx a0)):cL P w H h e (.ext (kX e C dx)):=⟨⟨a0,b⟩,⟨_,b⟩,λ_ _⟨a,q⟩k=>⟨a,k _ q⟩⟩
def vZ{P w H h d fs}(a:fy d fs h):cL P w H h d (.ext (fy d fs)):=by
 refine⟨a,?_,λm l⟨b,f,r,i⟩k=>⟨b,?_,r,i⟩⟩;.obtain⟨b,⟨o,_,_,e,_⟩,_⟩:=a;exact⟨o,e⟩
 .refine vh f λo g j e c=>?_;exact aeL o g j (k _ e) c
section
variable{X:Cx}{pins:List (Addr×Obj)}{σ:St}{H:Hp}{s:Shared}{e C:Addr}{f:Str}{A:Around}{E:Value->Shared->Prop}
def yY(I:Inv X pins σ H s){dx}(q:H e=some (.ext (kX e C dx))):∃a,s.heap.get? e=some (gK C dx a):=(I.hok e _ q).1
def zo{y u Q}(k:ExcS X.K C)(I:Inv X pins σ H s)(q:H e=some (.ext (kX e C none)))(O:findIn X.K (.ref C) f=some none)(T:RelV y u)(h:∀d G,H d=none->d≠e->Inv X pins σ (upd (upd H d (.ext (fy d [(f,y)]))) e (.ext (kX e C (some d)))) G->Q () G):wpAny (model X.prog X.w) A (setAttr (.ref e) f u) Q E s:=by
 obtain⟨a0,c⟩:=yY I q;refine rK k I.kIn c O λh' r m=>h s.heap.objs.size _ (I.hok.fresh (arP _)) (asE (arV c)) ?_;have t:=asE (arV c);have w:=arK (h:=s.heap) W.emptyDict c;have hd1:(s.heap.push W.emptyDict).get? s.heap.objs.size=some W.emptyDict:=arW s.heap rfl;have M:(s.heap.push W.emptyDict).Ns s.heap.objs.size λ_=>none:=oU W.emptyDict #[] _ hd1 rfl (λe c=>absurd c (by simp)) λ_=>rfl;have R:=I.laid (a:=s.heap.objs.size) (o:=.ext (fy s.heap.objs.size [])) (h':=s.heap.push W.emptyDict) (t':=s.toks) (λb u q=>arK _ q) (arP _) (vZ ⟨_,avc M,λ_=>True.intro,λy S=>absurd rfl S⟩);have j:=asN (h:=s.heap.push W.emptyDict) (λo:Obj=>{o with dict:=some s.heap.objs.size}) w rfl;have v:∀b,b≠e->((s.heap.push W.emptyDict).update e λo:Obj=>{o with dict:=some s.heap.objs.size}).get? b=(s.heap.push W.emptyDict).get? b:=λb l=>ar9 _ _ (arY l);have K:upd H s.heap.objs.size (.ext (fy s.heap.objs.size [])) e=some (.ext (kX e C none)):=by rw[ag (arY t)];exact q
 have N:=R.write (x:=e) (e:=e) (o:=.ext (kX e C (some s.heap.objs.size))) (t':=s.toks) (by rw[K];exact True.intro) (.inl rfl) (λb u l q=>(v b l).trans q) ⟨_,j⟩ (ahu (a0:=a0) j);have p:∃o,h'.get? s.heap.objs.size=some o:=let⟨o,_,_,P,_⟩:=m;⟨o,P⟩;have D:=N.write (x:=s.heap.objs.size) (e:=s.heap.objs.size) (o:=.ext (fy s.heap.objs.size [(f,y)])) (h':=h') (t':=s.toks+2) (by rw[ag t,ao];exact True.intro) (.inl rfl) (λb u l q=>(r.2 b l).trans q) p (vZ ⟨_,m,λg=>by
 by_cases z:g=f;.rw[arM z,z];simp only[List.lookup,beq_self_eq_true];exact T
 .rw[arO z,show([(f,y)]:List (Str×V)).lookup g=none from by simp[List.lookup,asH.mpr z]];exact True.intro,λg J=>by
  by_cases z:g=f;.rw[z];exact ash
  .exact absurd (arO z) J⟩);have B:upd (upd (upd H s.heap.objs.size (.ext (fy s.heap.objs.size []))) e (.ext (kX e C (some s.heap.objs.size)))) s.heap.objs.size (.ext (fy s.heap.objs.size [(f,y)]))=upd (upd H s.heap.objs.size (.ext (fy s.heap.objs.size [(f,y)]))) e (.ext (kX e C (some s.heap.objs.size))):=by
  funext b;unfold upd;by_cases i:b=s.heap.objs.size;.rw[arM i,arO (by rw[i];exact t),arM i]
  .rw[arO i];by_cases n:b=e;.rw[arM n,arM n]
   .rw[arO n,arO n,arO i,arO i]
 rw[B]at D;exact D
def aaV{y u d fs Q}(k:ExcS X.K C)(I:Inv X pins σ H s)(q:H e=some (.ext (kX e C (some d))))(m:H d=some (.ext (fy d fs)))(N:d≠e)(G:findIn X.K (.ref C) f=some none)(M:RelV y u)(R:fs.length<=50)(x:fs.lookup f=none)(h:∀p,Inv X pins σ (upd H d (.ext (fy d (fs++[(f,y)])))) p->Q () p):wpAny (model X.prog X.w) A (setAttr (.ref e) f u) Q E s:=by
 obtain⟨O,K⟩:=yY I q;refine ju (I.hok d _ m).1 λP B r n=>?_;refine uE k I.kIn K B G n (by rw[ar7];omega) λJ l a=>h _ ?_;have j:∃o,J.get? d=some o:=let⟨o,_,_,i,_⟩:=a;⟨o,i⟩;refine I.write (by rw[m];exact True.intro) (.inl rfl) (λb u D q=>(l.2 b D).trans q) j (vZ ⟨_,a,λg=>?_,λg t=>?_⟩)
 .have w:(fs++[(f,y)]).lookup g=match fs.lookup g with|some v=>some v|none=>([(f,y)]:List (Str×V)).lookup g:=by grind
  rw[w];by_cases z:g=f;.rw[arM z,z,x];simp only[List.lookup,beq_self_eq_true];exact M
  .have c:=r g;rw[arO z];cases i:fs.lookup g with|some v=>rw[i]at c;exact c|none=>rw[i]at c;rw[show[(f,y)].lookup g=none from by simp[List.lookup,asH.mpr z]];exact c
 .rw[asZ];by_cases z:g=f;.rw[z];exact asa _ ash
  .exact asz _ (n g λy=>t (by grind))
end
section
variable{X:Cx}{e:Expr}{es:List Expr}{pos:Pos}{ta:TE}{ts:List TE}
def aqy(ta:TE):TE:=λb H Q=>ta b H λx a=>(∃i:Int,x=.int i/\i.natAbs.log2<1920/\Q (.str (toString i)) a)\/∃y:Str,x=.str y/\y.length<=sizeLine/\Q (.str y) a
def yi(l:PE X e ta):PE X (.FormattedValue e (-1) none pos) (aqy ta):=by
 intro a s k H Q I h;refine PyProof.Rows.FormattedValue_plain (thn (l a s k H _ I h) λu m b=>?_);refine iH b λx c f d q=>?_;rcases q with⟨i,rfl,j,q⟩|⟨y,rfl,g,q⟩;.obtain⟨t,rfl⟩:=d;exact PyProof.Rows.formatField_int_small j (fD (.str _) c (f.tok _) ⟨_,rfl⟩ q)
 .obtain⟨t,rfl⟩:=d;exact PyProof.Rows.formatField_str (λn tk=>fD (.str y) c (f.tok tk) ⟨_,rfl⟩ q) g
def tJ:List TE->Str->TE|[],acc=>λa H Q=>acc.length<=sizeLine/\Q (.str acc) H|t::ts,acc=>λa H Q=>t a H λx b=>∃y:Str,x=.str y/\(acc++y).length<=sizeLine/\tJ ts (acc++y) a b Q
theorem qm:∀{es ts},Paired (PE X) es ts->∀b a s(σ:St)H Q,Inv X a σ H s->tJ ts b σ H Q->wpAny (model X.prog X.w) X.A (joinParts b (es.map λe=>eval e X.env)) (EP X a σ Q) X.xe s|[],[],_,b,a,s,σ,H,Q,I,h=>PyProof.Rows.joinParts_nil (fD (.str _) H (I.tok _) ⟨_,rfl⟩ h.2) h.1|e::es,t::ts,.cons p ps,b,a,s,σ,H,Q,I,h=>by refine PyProof.Rows.joinParts_cons (thn (p _ s σ H _ I h) λu j c=>?_);obtain⟨x,d,g,f,y,ex,i,q⟩:=c;subst ex;obtain⟨t,rfl⟩:=f;exact⟨i,qm ps _ _ _ σ d Q g q⟩
def vP{b a es}(g:Paired (PE X) (b::a::es) ts)(f:evalEach es X.env=es.map λe=>eval e X.env:=by rfl):PE X (.JoinedStr (b::a::es) pos) (tJ ts Str.empty):=by intro c s d H Q I h;refine PyProof.Rows.JoinedStr_many ?_;rw[f];exact qm g _ _ s d H Q I h
end
set_option tactic.hygienic true
def aab{K h N a n v}(X:K.In h)(G:h.Ns N a)(e:W.nsIn K N n=some (some v)):a n=some v:=by
 refine qz G λo l p j b _ f=>?_;unfold W.nsIn at e;split at e
 .rename_i c d i r k q;have:=X _ _ q;rw[j]at this;cases this;cases b;split at e;.rename_i m g;cases e;rw[<-f];unfold nsFind findBy;rw[<-auZ,g];rfl
  .split at e<;>cases e
 .cases e
set_option tactic.hygienic false
def arD(h:Heap)(C fI:Addr):Prop:=∃(c:List Value)(N:Addr)(l n:Str)(bs:List Value)(d:Bool)(f:List Str)(sub:List Value)(k:Bool)(a:Option Bool)(dd:Option Addr)(e j m i g:Option Value)(b:Str->Option Value),h.get? C=some (excClassObj l n C N bs c d f sub k a dd e j m i g "ValueError.__new__")/\h.Ns N b/\b "__init__"=some (.ref fI)/\OwnTail h gb c
set_option tactic.hygienic true
def aej{K:W.Frag}{h:Heap}{C fI:Addr}(X:K.In h)(q:vc K C (some (.ref fI))):arD h C fI:=q.out X λm n o r bs d f sub l c dd e k p j i g a b t=>⟨m,n,o,r,bs,d,f,sub,l,c,dd,e,k,p,j,i,_,g,.of_isNs (W.isNs_of_in X a),aab X (.of_isNs (W.isNs_of_in X a)) b,t⟩
set_option tactic.hygienic false
section
variable{X:Cx}{e:Expr}{es:List Expr}{x:Str}{np apos pos:Pos}{t:TA}{C D fI:Addr}
def abD(C:Addr)(t:TA):TE:=λc H Q=>t c H λb a=>∃ex d rest,b=.ref ex::rest/\rest.length<=100/\a ex=some (.ext (kX ex C d))/\Q .non a
def qZ{pl}(hg:Gl X x)(hm:X.mg x=some (.ref D))(Z:W.readsIn X.K D (.type "type")=true)(P:W.findCls X.K (.ref D) (.type "type") "__init__"=some (.val (.builtin "ValueError.__init__")))(hs:W.specialIn X.K (.ref D) "__getattribute__"=some (some (.builtin "type.__getattribute__")))(G:vc X.K C (some (.ref fI)))(ha:PA X (e::es) t)(n:Dbg x:=by decide)(v:SE X e es:=by rfl)(w:BT X pos es:=by rfl)(ht:eval (.Call (.Attribute (.Name x np) "__init__" apos) (e::es) [] pos) X.env=(do
  let B <-eval (.Name x np) X.env
  standAt apos.atName let(f,first)<-holding [B] (getMethod B "__init__" pl)callWith pos f first (backTo pos (starEach (e::es) X.env)) (backToKw pos (keywordEach [] X.env))):=by rfl):PE X (.Call (.Attribute (.Name x np) "__init__" apos) (e::es) [] pos) (abD C t):=by
 intro k s σ H Q I h;refine avD (pl:=pl) (dH I hg hm ?_ n) ht;refine W.method_cls I.kIn hs (W.cls_value I.kIn Z P rfl ?_);have K:=I.tok (s.toks+1);refine auN (thn (ha pos k _ σ H _ K h) λus s1 m=>?_) v w;obtain⟨vs,r,y,R,ex,E,rest,O,hl,p,M⟩:=m;subst O;obtain⟨l,c,rfl,Y,rr⟩:∃l c,us=l::c/\RelV (.ref ex) l/\Vals rest c:=by cases R with|cons a b=>exact⟨_,_,rfl,a,b⟩
 cases show l=Value.ref ex from Y;obtain⟨a0,he⟩:=yY y p;obtain⟨bm,N,nm,qn,bs,hd,sn,sub,ab,S,dd,k0,k1,k2,k3,k5,mN,A,hN,_,T⟩:=aej y.kIn G;have i:c.length<=sizeLine:=by rw[<-rr.length];exact arU hl (by decide)
 obtain⟨hh,g,d,tk,os⟩:=s1;refine aez as1 T A he i λh' a1 hk j=>⟨.non,r,?_,rfl,M⟩;have J:=y.write (x:=ex) (e:=ex) (o:=.ext (kX ex C E)) (h':=h') (t':=tk) (by rw[p];exact True.intro) (.inl rfl) (λb u hb q=>hk b u hb q) ⟨_,j⟩ (ahu j);have U:upd r ex (.ext (kX ex C E))=r:=by
  funext b;by_cases z:b=ex;.rw[z,ao,p]
  .rw[ag z]
 rw[U]at J;exact J
end
end L2
set_option autoImplicit true
set_option relaxedAutoImplicit true
namespace L2
open PySem PySem.Spec PyProof.Rows
open PySem.W(findIn InstAt)
section
variable{prog:Program}{w:World}{A:Around}{E:Value->Shared->Prop}{s:Shared}{env:Env}
variable{nm q:Str}{C N:Addr}{bs bm bmB:List Value}{hdct:Bool}{sn:List Str}{sub:List Value}{ab:Bool}{col:Option Bool}{dd:Option Addr}{k0 k1 k2 k3 k5:Option Value}{B newId initId:String}
def vb(F:ExcBaseFacts B newId initId bmB){mN fI x M i pos c Q}(l:bm.contains (.type "BaseException")=true)(R:A.handled=none)(j:(backTo i (starEach c env)).any (·.1)=false)(U:mN "__init__"=some (.ref fI))(h:wpAny (model prog w) A (eval (.Name x M) env) (λf k=>f=.ref C/\wpAny (model prog w) A (evalArgs (.ref C) true (backTo i (starEach c env)) []) (λa b=>a.kw=[]/\a.pos.length<=sizeLine/\b.heap.get? C=some (excClassObj nm q C N bs bm hdct sn sub ab col dd k0 k1 k2 k3 k5 newId)/\b.heap.Ns N mN/\OwnTail b.heap bmB bm/\(∃I,b.heap.get? fI=some I/\I.cls=.type "function")/\∀o e,Heap.MadeExcOf b.heap o e (.ref C) a.pos->wpAny (model prog w) (A.under (.builtin "type.__call__" ⟨.ref C::a.pos,[]⟩)) (call (.ref fI) (.ref e::a.pos)) (λr p=>r=.none/\p.heap.get? C=some (excClassObj nm q C N bs bm hdct sn sub ab col dd k0 k1 k2 k3 k5 newId)/\∃H D,p.heap.get? e=some (gK C H D)/\E (.ref e) p) E {b with heap:=o}) E k) E s):wpAny (model prog w) A (exec (.Raise (some (.Call (.Name x M) c [] i)) none pos) env) Q E s:=by rw[arm_exec_Raise];refine arJ (auz (o3 (C:=C) (nm:=nm) (q:=q) (N:=N) (bs:=bs) (bm:=bm) (hdct:=hdct) (sn:=sn) (sub:=sub) (ab:=ab) (col:=col) (dd:=dd) (k0:=k0) (k1:=k1) (k2:=k2) (k3:=k3) (k5:=k5) (newId:=newId) l R (arJ (asi (wpAny_Call_ofName (asi h (λf k g=>?_) λ_ _ x=>x)) (λv P n=>arJ (auz (arR n))) λ_ _ x=>x))));obtain⟨rfl,g⟩:=g;refine arJ (as9 (asi g (λa b d=>arJ (auz ?_)) λ_ _ x=>x));obtain⟨K,y⟩:=a;obtain⟨t,m,J,X,T,⟨I,u,G⟩,d⟩:=d;obtain rfl:y=[]:=t;simp only[j];refine arJ (wpAny_keeperOf_exc J ?_);refine arJ (aaH (hrest:=m) F T J X U u G λo e S=>asi (d o e S) (λr p O=>⟨O.1,arJ (as9 (wpAny_point (arR ?_)))⟩) λ_ _ z=>z);obtain⟨_,h3,H,D,Y,Z⟩:=O;exact oU e H D rfl h3 Y Z
end
section
variable{X:Cx}{o value:Expr}{f:Str}{pos pos':Pos}{ta tv:TE}{C:Addr}
def sX1(C:Addr)(ta tv:TE)(f:Str):TS:=λD a H=>tv a H λy c=>ta a c λx b=>∃e,x=.ref e/\b e=some (.ext (kX e C none))/\∀d,b d=none->d≠e->D.nx a (upd (upd b d (.ext (fy d [(f,y)]))) e (.ext (kX e C (some d))))
def sX2(C:Addr)(ta tv:TE)(f:Str):TS:=λD a H=>tv a H λy c=>ta a c λx b=>∃e d fs,x=.ref e/\b e=some (.ext (kX e C (some d)))/\b d=some (.ext (fy d fs))/\d≠e/\fs.length<=50/\fs.lookup f=none/\D.nx a (upd b d (.ext (fy d (fs++[(f,y)]))))
def ai3(k:ExcS X.K C)(m:findIn X.K (.ref C) f=some none)(w:PE X o ta)(t:PE X value tv)(p:swapsWith value (some (.Attribute o f pos')) pos.line X.env=pure false):PS X (.Assign [.Attribute o f pos'] value pos) (sX1 C ta tv f):=by intro c s b H D I h;refine atz (thn (t _ s b H _ I h) λu G⟨y,B,n,z,q⟩=>thn (w _ _ b _ _ n q) λJ K a=>?_) p;obtain⟨x,E,A,l,e,ex,r,v⟩:=a;subst ex;obtain rfl:=l;exact zo k A r m z λd M i j g=>⟨b,_,g,v d i j⟩
def ao6(k:ExcS X.K C)(w:findIn X.K (.ref C) f=some none)(r:PE X o ta)(A:PE X value tv)(j:swapsWith value (some (.Attribute o f pos')) pos.line X.env=pure false):PS X (.Assign [.Attribute o f pos'] value pos) (sX2 C ta tv f):=by intro c s b H D I h;refine atz (thn (A _ s b H _ I h) λu N⟨y,K,z,E,q⟩=>thn (r _ _ b _ _ z q) λG O a=>?_) j;obtain⟨x,M,t,i,e,d,fs,ex,l,n,g,B,m,p⟩:=a;subst ex;obtain rfl:=i;exact aaV k t l n g w E B m λJ v=>⟨b,_,v,p⟩
end
noncomputable def del(H:Hp)(e:Addr):Hp:=λb=>if b=e then none else H b
section
variable{X:Cx}{pins:List (Addr×Obj)}{σ:St}{H:Hp}{s:Shared}{e C d:Addr}{fs:List (Str×V)}
def Inv.abk{φ}(I:Inv X pins σ H s)(q:H e=some (.ext φ)):Inv X pins σ (del H e) s:=by
 have none_of:∀{b},H b=none->del H e b=none:=λ{b}h=>by unfold del;split<;>first|rfl|exact h
 have keep:∀{b o},H b=some o->(∀k,o≠.ext k)->del H e b=some o:=λ{b o}h n=>by unfold del;rw[arO λz=>by grind];exact h
 refine⟨I.ok,I.os,I.bare,⟨I.base.keep,I.base.slot,λb o g f i=>none_of (I.base.free b o g f i),I.base.there,λb j h=>keep (I.base.tups b j h) (λ_ z=>by cases z),λb o u h=>keep (I.base.frzs b o u h) (λ_ z=>by cases z),λb t h=>?_⟩,I.loc,I.cell,none_of I.free,λx c h=>none_of (I.freeC x c h),λp r=>?_,λb u h=>?_,I.len⟩;.obtain⟨a,l⟩:=I.base.tbls b t h;exact⟨a,keep l λ_ z=>by cases z⟩
 .refine ag0 (I.pin p r) λg f i=>?_;exact⟨g,none_of f,i⟩
 .have m:=by
   unfold del at h;split at h;.cases h
   .exact h
  exact(I.hok b u m).vy (λ_ _ _ z=>z) (λc z=>keep z λ_ y=>by cases y) λc j z=>keep z λ_ y=>by cases y
def Inv.alb (I:Inv X pins σ H s)(g:FpX X pins H e)(new:φ s.heap/\(∃o,s.heap.get? e=some o)/\∀i h,φ i->(∀o,i.get? e=some o->h.get? e=some o)->φ h):Inv X pins σ (upd H e (.ext φ)) s:=by
 have f:∀b u,H b=some u->b≠e:=λb u q z=>by rw[z,g.1]at q;cases q
 have:=I.afw (H':=upd H e (.ext φ)) (d':=s.drawn) (t':=s.toks) (λb a=>by rw[asn.mp a];exact⟨g.2.2.2.1,g.2.1,g.2.2.2.2.1,g.2.2.2.2.2⟩) (λb o _ _ _ q _=>q) (λb o _ _ _ q _=>⟨o.slots,q⟩) (λb o a _ n=>by rw[ag λz=>a (by grind)];exact n) (λb o _ q=>⟨o,q⟩) (λb k q=>by rw[ag (f b _ q)];exact q) (λb o u q=>by rw[ag (f b _ q)];exact q) (λb l q=>⟨#[],by rw[ag (f b _ q),q];simp⟩) (λm j=>j) (λb u q=>by
   by_cases a:b=e;.subst a;rw[ao]at q;cases q;exact new
   .rw[ag a]at q;exact(I.hok b u q).vy (λ_ _ _ z=>z) (λc z=>by rw[ag (f c _ z)];exact z) λc k z=>by rw[ag (f c _ z)];exact z) I.bare;exact this
theorem Inv.xd(I:Inv X pins σ H s)(q:H d=some (.ext (fy d fs))):Inv X pins σ (upd H d (.xd fs)) s:=by obtain⟨b,a,r,g⟩:=(I.hok d _ q).1;have c:∃u,s.heap.get? d=some u:=let⟨o,_,_,f,_⟩:=a;⟨o,f⟩;exact I.write (by rw[q];exact True.intro) (.inl rfl) (λ_ _ _ z=>z) c ⟨b,a,r⟩
end
def spI(C:Addr)(a:List Str):Sp:=λb H Q _=>∃e ws,b=.ref e::ws/\ws.length=a.length/\H e=some (.ext (kX e C none))/\(∀w∈ws,∃i:Int,w=.int i/\i.natAbs.log2<100)/\∀d,H d=none->d≠e->Q .non (upd (upd H d (.ext (fy d (a.zip ws)))) e (.ext (kX e C (some d))))
section
variable{X:Cx}{t:TA}{x:Str}{C fI:Addr}{fd:FuncData}{ps fl:List Str}{k:Nat}{np cpos pos:Pos}{e:Expr}{es:List Expr}
def aiB(X:Cx)(C:Addr)(fl:List Str)(t:TA):TS:=λ_ c H=>t c H λb f=>b.length=fl.length/\(∀w∈b,∃i:Int,w=.int i/\i.natAbs.log2<100)/\fl.length<=50/\∀a s e d,f d=none->d≠e->Thr X a c (upd f d (.xd (fl.zip b))) s e C (some d) .none none->X.xe (.ref e) s
def acg(hc:X.calm=true)(hg:Gl X x)(hm:X.mg x=some (.ref C))(q:vc X.K C (some (.ref fI)))(a1:W.typeIn X.K (.ref fI)=some (.type "function"))(F:FnOk X.prog X.w X.K X.mg X.base CX0 k fI fd ps (spI C fl))(hr:Room (k+1) X.A)(hb:Binds X.K fd ps [])(ha:PA X (e::es) t)(M:Dbg x:=by decide)(he:SE X e es:=by rfl)(i:BT X cpos es:=by rfl):PS X (.Raise (some (.Call (.Name x np) (e::es) [] cpos)) none pos) (aiB X C fl t):=by
 intro f s σ H D I h;obtain⟨bm,N,nm,qn,bs,hdct,sn,sub,ab,col,dd,k0,k1,k2,k3,k5,mN,hC,hN,hi,T⟩:=aej I.mod.kin q;refine de (asf.mp a1) λoI O a2=>?_;refine vb (C:=C) (nm:=nm) (q:=qn) (N:=N) (bs:=bs) (bm:=bm) (hdct:=hdct) (sn:=sn) (sub:=sub) (ab:=ab) (col:=col) (dd:=dd) (k0:=k0) (k1:=k1) (k2:=k2) (k3:=k3) (k5:=k5) as1 (mN:=mN) (fI:=fI) (T.hasType as1.hasBase) (I.ok.hd hc) (by rw[he];show(false||(backTo cpos (starEach es X.env)).any (·.1))=false;rw[i];rfl) hi (dH I hg hm ⟨rfl,?_⟩ M);have hA:=ha cpos f s σ H _ I h;rw[he]at hA⊢;refine auO (thn hA λn s2⟨j,g,m,r2,hl,Q,Y,q2⟩=>⟨rfl,?_,m.bk _ _ hC,hN.keeps m.bk,T.keeps m.bk,⟨oI,m.bk _ _ (I.mod.kin _ _ O),a2⟩,λh' c K=>?_⟩);.rw[<-r2.length,hl];exact arU Y (by decide)
 refine ju K.there λta h1 h2 h3=>?_;have P:g c=none:=by cases z:g c with|none=>rfl|some u=>obtain⟨o,ho⟩:=nV (m.hok c u z);rw[K.new]at ho;cases ho
 have J:=m.kept (t':=s2.toks) K.keeps;have fp:∀w,w c=none->FpX X f w c:=λw hn=>m.fpX K.new hn;have R:Inv X f σ (upd g c (.ext (kX c C none))) {s2 with heap:=h'}:=J.alb (fp g P) ⟨⟨_,h1⟩,⟨_,h1⟩,λ_ _⟨a,z⟩k=>⟨a,k _ z⟩⟩;have r3:Vals (V.ref c::j) (Value.ref c::n):=.cons rfl r2;let Q':VK:=λv w=>v=.non/\∃d,upd g c (.ext (kX c C none)) d=none/\d≠c/\w=upd (upd (upd g c (.ext (kX c C none))) d (.ext (fy d (fl.zip j)))) c (.ext (kX c C (some d)));have sp:spI C fl (V.ref c::j) (upd g c (.ext (kX c C none))) Q' λ_ _ _=>False:=zm c j rfl hl ao Q λd M l=>⟨rfl,d,M,l,rfl⟩;have A:(Value.ref c::n).length=ps.length:=by rw[<-r3.length];exact F.len _ _ _ _ sp
 have G:=hb {s2 with heap:=h'} (Value.ref c::n) R.kIn (by rw[asl];exact A);rw[asl]at G;refine auM (at9 (F.run _ X.stack _ _ ⟨Value.ref c::n,[]⟩ (Value.ref c::n) _ Q' (λ_ _ _=>False) (hr.make C n []) trivial (R.aoi.make C n []) G r3 sp) λr s' p=>?_);cases r with|error e'=>exact False.elim p|ok fl'=>cases fl' with|next|brk|cont=>exact False.elim p|ret u=>
   obtain⟨v,w,S,rv,ev,d,a3,l,U⟩:=R.after p;subst ev U;have Z:g d=none:=by rwa[ag l]at a3
   obtain⟨a0,E⟩:=yY S (e:=c) (C:=C) (dx:=some d) ao;refine⟨rv,S.bk _ _ hC,some d,a0,E,q2 f s' c d Z l ?_⟩;have I4:=S.xd (d:=d) (fs:=fl.zip j) (by rw[ag l,ao]);have I5:=I4.abk (e:=c) (φ:=kX c C (some d)) (by rw[ag (arY l),ao]);have U:del (upd (upd (upd (upd g c (.ext (kX c C none))) d (.ext (fy d (fl.zip j)))) c (.ext (kX c C (some d)))) d (.xd (fl.zip j))) c=upd g d (.xd (fl.zip j)):=by
    funext b;unfold del upd;by_cases y:b=c;.rw[arM y,arO (by rw[y];exact arY l),y,P]
    .rw[arO y];by_cases B:b=d;.rw[arM B,arM B]
     .rw[arO B,arO B,arO y,arO B,arO y]
   rw[U]at I5;exact⟨I5,ag2 _ _ E rfl rfl rfl rfl rfl,fp _ (by rw[ag (arY l)];exact P),λt z=>by cases z⟩
end
end L2
namespace PySem
open Sem(wp)
def F.af4:typeLookup (.type "list_reverseiterator") "__len__"=pure none:=by kernel_rfl
def F.ajF:typeLookup (.type "list_reverseiterator") "__length_hint__"=pure (some (.builtin "list_reverseiterator.__length_hint__")):=by kernel_rfl
section
variable{prog:Program}{w:World}{A:Around}{E:Value->Shared->Prop}{s:Shared}{R:Result->Shared->Prop}
variable{I:Addr}{fp wr:List Addr}{G:Array GenState->Array GenState->Prop}{n:Nat}{P:Nat->Value->Prop}{St:Nat->Shared->Prop}
def rY{Q}(W:WalksS prog w A.in1.in1 I fp wr G n P St)(t:∀i s,St i s->s.TypeIs (.ref I) "list_reverseiterator")(C:St 0 s)(v:∀b∈fp,b<s.heap.objs.size)(M:I∈fp)(J:n<=sizeLine)(K:∀q c z,Moved (s.heap.objs.size::wr) G {s with heap:=s.heap.push {cls:=.type "list",data:=.seq #[]}} q->q.heap.get? s.heap.objs.size=some {cls:=.type "list",dict:=none,data:=.seq c z,slots:=#[]}->ItemsOf P c n->Q (.ref s.heap.objs.size) q):wpAny (model prog w) A (call (.type "list") [.ref I]) Q E s:=by
 have j:s.heap.objs.size∉fp:=λx=>asT _ (v _ x);have y:s.heap.objs.size≠I:=λe=>j (e▸M);refine callType_codes (Q₁:=λm f=>m=.ref s.heap.objs.size/\f={s with heap:=s.heap.push {cls:=.type "list",data:=.seq #[]}}) F.called_list (F.typeCall_list_1 _) F.entry_list_init (code_list_new _ ⟨rfl,rfl⟩) λm f k=>?_;obtain⟨rfl,rfl⟩:=k;have u:(s.heap.push {cls:=.type "list",data:=.seq #[]}).get? s.heap.objs.size=some {cls:=.type "list",data:=.seq #[]}:=arW _ rfl;have d:=W.frame 0 s _ s.toks C (arP _) λb _ o e=>arK {cls:=.type "list",data:=.seq #[]} e;refine⟨⟨_,u,rfl⟩,F.args_list_init_2 _ _,?_⟩;refine arJ ?_;unfold Builtin.List.listItems;refine arJ (atg u rfl (arR ?_));refine arJ (auQ u rfl ?_);have g:=asN (Obj.mapSeq λ_=>(#[]:Array Value)) u rfl;have p:∀b o,b≠s.heap.objs.size->(s.heap.push {cls:=.type "list",data:=.seq #[]}).get? b=some o->((s.heap.push {cls:=.type "list",data:=.seq #[]}).update s.heap.objs.size (Obj.mapSeq λ_=>(#[]:Array Value))).get? b=some o:=λb o l e=>(ar9 _ _ (arY l)).trans e;refine arJ (auu ?_);have a:=W.frame 0 _ _ s.toks d (arP _) λb l o e=>p b o (λh=>j (h▸l)) e;unfold Builtin.List.listExtendWith;refine arJ (wpAny_typeOf (t 0 _ a) ?_);have H:Builtin.List.listSameRef (.ref s.heap.objs.size) (.ref I)=false:=by simp[Builtin.List.listSameRef,y]
 have D:(Value.type "list_reverseiterator"==Value.type "list")=false:=by decide
 have N:(Value.type "list_reverseiterator"==Value.type "tuple")=false:=by decide
 simp only[H,D,N,Bool.or_false,asO,asW];refine arJ (W.self 0 _ _ _ a ?_);refine arJ (as9 ?_);unfold Builtin.List.listLengthHint;refine arJ (as4 (t 0 _ a) F.af4 ?_);refine arJ (as4 (t 0 _ a) F.ajF ?_);generalize hid:("list_reverseiterator.__length_hint__":String)=id0;wp_delta;rw[show splitId id0=some ("list_reverseiterator","__length_hint__")from by subst hid;decide+kernel];subst hid;refine arJ (atY (b:=true) (t 0 _ a) (by rw[isSubtype_type];kernel_rfl) ?_);refine arR ?_;rw[arO (by decide)];refine arR ⟨auA F.plain_extend_loop _,codeAny_extend_loopS W J _ j _ n 0 _ _ _ rfl (asr _) a g (ItemsOf.nil P) λq c z x B r=>?_⟩;exact⟨rfl,K q c z (Moved.trans W.gtrans ((Moved.refl W.grefl).then_heap (arP _) λb o l e=>p b o (λh=>l (h▸ash)) e) x) B r⟩
end
end PySem
namespace L2
open PySem PySem.Spec PyProof.Rows
section
variable{X:Cx}{pins:List (Addr×Obj)}{σ:St}{H:Hp}{s:Shared}
def Inv.aoZ(I:Inv X pins σ H s){ch:List Addr}{h'}{l:Addr}{o t'}(a:∀b∈ch,FpX X pins H b)(g:s.heap.objs.size<=l)(k:∀b u,s.heap.get? b=some u->b∉ch->h'.get? b=some u)(new:cL X.prog X.w (upd H l o) h' l o):Inv X pins σ (upd H l o) {s with heap:=h',toks:=t'}:=by
 have x:=I.hok.fresh g;have h:∀b u,s.heap.get? b=some u->b≠l:=λb u q z=>by rw[z]at q;exact absurd (arV q) (avk.mpr g)
 have f:∀b u,H b=some u->b∉ch/\b≠l:=λb u q=>⟨(λz=>by rw[(a b z).1]at q;cases q),λz=>by grind⟩;refine I.afw (g':=s.gens) (d':=s.drawn) (t':=t') (ch:=ch) (λb e=>⟨(a b e).2.2.2.1,(a b e).2.1,(a b e).2.2.2.2.1,(a b e).2.2.2.2.2⟩) (λb u _ _ d q _=>k b u q d) (λb u _ _ d q _=>⟨u.slots,k b u q d⟩) λb u _ q n=>by rw[ag (h b u q)];exact n
  (λb u d q=>⟨u,k b u q d⟩) (λb j q=>by rw[ag (f b _ q).2];exact q) (λb u v q=>by rw[ag (f b _ q).2];exact q) (λb y q=>⟨#[],by rw[ag (f b _ q).2,q];simp⟩) (λm i=>?_) (λb u q=>?_) I.bare;.refine vh i λu t w p r=>?_;exact aeL u t w (k _ _ p λz=>(a _ z).2.1 rfl) r
 .by_cases e:b=l;.subst e;rw[ao]at q;cases q;exact new
  .rw[ag e]at q;refine(I.hok b u q).vy (λc v d z=>?_) (λc z=>by rw[ag (f c _ z).2];exact z) λc j z=>by rw[ag (f c _ z).2];exact z
   rcases d with rfl|d;.exact k c v z (f c u q).1
   .exact k c v z (f c _ d).1
def agW(X:Cx)(r l:Addr)(n:Nat):HO:=.ext λh=>h.IsRevIter r l ((n:Int)-1)/\r≠X.env.locals/\r∉X.fs/\(r∈X.ex\/X.s₀.heap.get? r=none)/\∀x c,X.env.cells.lookup x=some c->c≠r
def rX:bG X (.type "reversed") λf H Q=>∃p c,f=[.ref p]/\SqL X.K H p c/\∀r,H r=none->r≠p->Q (.ref r) (upd H r (agW X r p c.length)):=by intro pins s σ H f v Q I r h;refine iH h λp c d j q=>?_;subst d;obtain⟨u,rfl,g⟩:=vals1 r;cases g;refine ju (I.list j) λl i pl t=>?_;have a:=I.fpX (asD (arP _)) (I.hok.fresh (arP _));refine call_reversed_list pl.isList (fD (.ref s.heap.objs.size) _ (I.laid (o:=agW X s.heap.objs.size p c.length) (λb o e=>arK _ e) (arP _) ⟨⟨⟨_,arW _ rfl,rfl,?_⟩,a.2.1,a.2.2.1,a.2.2.2.1,a.2.2.2.2.1⟩,⟨_,arW _ rfl⟩,λn m x k=>⟨x.1.at k,x.2⟩⟩) rfl (q _ (I.hok.fresh (arP _)) λz=>by obtain⟨o,e,_⟩:=pl.isList;rw[<-z]at e;exact absurd (arV e) (asT _)));simp [revObj,asC,i.length]
def pE(R:X.calm=true):bG X (.type "list") λG H Q=>∃r p k,G=[.ref r]/\H r=some (agW X r p k.length)/\SqL X.K H p k/\r≠p/\∀l,H l=none->Q (.ref l) (upd (del H r) l (.lst k.reverse)):=by
 intro pins s σ H G us Q I P h;refine akK h λr p k B v S y q=>?_;subst B;obtain⟨u,rfl,O⟩:=vals1 P;cases O;refine ju (I.list S) λd K pl D=>?_;have c:=K.length;obtain⟨⟨hit,U,Y,f3,f4⟩,_,_⟩:=I.hok r _ v;have f:d.toArray.size=k.length:=by simp[c]
 have W:=(Walks.listRev (prog:=X.prog) (w:=X.w) (A:=X.A.in1.in1) (I.ok.hd R) r p (arY y) d.toArray).toS;have n:FpX X pins (del H r) r:=⟨arM rfl,U,Y,f3,f4,λp hp z=>by have:=(I.pin p hp).2.1;rw[z,v]at this;cases this⟩;refine rY W (λi s x=>x.2.1.typeIs) ⟨asr _,by rw[f];simpa using hit,pl.isList⟩ (λb j=>?_) (by simp) (by rw[f];exact D) λs' a Z E m g=>?_
 .rcases ar4.mp j with rfl|j;.obtain⟨o,e,_⟩:=hit;exact arV e
  .rw[asn.mp j];obtain⟨o,e,_⟩:=pl.isList;exact arV e
 .have T:=Moved.eq_with E;rw[T];have hv:Vals k.reverse a.toList:=by
   have t:a.toList=d.reverse:=by
    apply auq;intro i;have M:=g.1;by_cases J:i<d.length;.have C:a[i]?=some (a[i]'(by rw[M,f,c];exact J)):=at6 _;have N:=g.2 i _ C;rw[atQ,C,<-N,List.getElem?_reverse J];simp
    .rw[List.getElem?_eq_none (by rw[aty,M,f,c];omega),List.getElem?_eq_none (by rw[List.length_reverse];omega)]
   rw[t];exact K.reverse
  exact(fD (.ref s.heap.objs.size) _ ((I.abk v).aoZ (ch:=[r]) (o:=.lst k.reverse) (λb j=>by rw[asn.mp j];exact n) (arP _) (λb u e j=>E.heap b u (λz=>by
   rcases ar4.mp z with z|z;.rw[z]at e;exact absurd (arV e) (asT _)
   .exact j z) (arK _ e)) ⟨by rw[List.length_reverse];exact D,a.toList,Z,hv,by simpa using m⟩) rfl (q _ (I.hok.fresh (arP _))))
end
section
variable{X:Cx}
inductive TyW(K:W.Frag)(H:Hp):V->Value->Prop where|non:TyW K H .non (.type "NoneType")|bl(x:Bool):TyW K H (.bl x) (.type "bool")|int(i:Int):TyW K H (.int i) (.type "int")|str(x:Str):TyW K H (.str x) (.type "str")|lst{a:Addr}{xs:List V}(e:SqL K H a xs):TyW K H (.ref a) (.type "list")|tup{a:Addr}{xs:List V}(e:SqT K H a xs):TyW K H (.ref a) (.type "tuple")
end
section
variable{X:Cx}{pins:List (Addr×Obj)}{σ:St}{H:Hp}{s:Shared}{e Ce A B C D:Addr}{dx:Option Addr}{fl:Value}{T:Addr}{a b c d n:Str}{pa pb pc pd pos hpos:Pos}{b0:Stmt}{suite:List Stmt}
def agE{l Q E}(I:Inv X pins σ H s)(i:Gl X a/\X.mg a=some (.ref A))(g:Gl X b/\X.mg b=some (.ref B))(f:Gl X c/\X.mg c=some (.ref C))(h:Q (.ref s.heap.objs.size) {s with heap:=s.heap.push {cls:=.type "tuple",data:=.seq [Value.ref A,.ref B,.ref C].toArray}})(j:Dbg a:=by decide)(k:Dbg b:=by decide)(m:Dbg c:=by decide):wpAny (model X.prog X.w) X.A (eval (.Tuple [.Name a pa,.Name b pb,.Name c pc] l pos) X.env) Q E s:=by refine wpAny_Tuple_spliced (at8 (dH I i.1 i.2 (at8 (dH I g.1 g.2 (at8 (dH I f.1 f.2 (Calls.spliced_nil ⟨show 3<=sizeLine by decide,h⟩) m)) k)) j))
theorem Thr.push(t:Thr X pins σ H s e Ce dx fl (some T))(o):Thr X pins σ H {s with heap:=s.heap.push o} e Ce dx fl (some T):=⟨t.inv.kept λb u q=>arK _ q,t.trc.keeps λb u _ q=>arK _ q,t.fe,t.fT⟩
variable{Q:Flow->Shared->Prop}{E:Value->Shared->Prop}
def uq{j}{vs:List Value}(t:Thr X pins σ H s e Ce dx fl (some T))(g:∀Q E,Q (.ref s.heap.objs.size) {s with heap:=s.heap.push {cls:=.type "tuple",data:=.seq vs.toArray}}->wpAny (model X.prog X.w) (X.A.mark (some (.ref e))) (eval j X.env) Q E s)(m:∀{M h},X.K.In h->W.Looks M h (typeOf (.ref e)) (.ref Ce)->h.get? s.heap.objs.size=some {cls:=.type "tuple",data:=.seq vs.toArray}->W.Looks M h (excMatches (.ref e) (.ref s.heap.objs.size)) true)(k:∀f,Thr X pins σ H {s with heap:=f} e Ce dx .none (some T)->wpAny (model X.prog X.w) (X.A.mark (some (.ref e))) (execs (b0::suite) X.env) Q (λ_ _=>False) {s with heap:=f}):wpAny (model X.prog X.w) X.A (handleBy (.ref e) X.env [.ExceptHandler (some j) none (b0::suite) hpos]) Q E s:=by have i:=t.push {cls:=.type "tuple",data:=.seq vs.toArray};refine wpAny_handleBy_cons (codeAny_handlers_test (g _ _ ((m i.inv.kIn i.ty (arW _ rfl)).here ?_))) (by intro q;cases q);exact codeAny_handlers_suite (i.uv λf l=>asi (k f l) (λ_ _ q=>q) λ_ _ z=>z.elim)
end
end L2
set_option autoImplicit true
set_option relaxedAutoImplicit true
namespace K2
open PySem
section
variable{prog:Program}{w:World}{K:Type}[DecidableEq K](I:HeapKind prog w K)
def Its(h:Heap):List K->List Value->Prop|[],vs=>vs=[]|k::ks,vs=>∃b a,vs=.ref b::a/\I.is h k b/\Its h ks a
def Is(h:Heap)(ks:List K)(a:Addr):Prop:=∃o b n,h.get? a=some o/\o.cls=.type "tuple"/\o.data=.seq b n/\Its I h ks b.toList
noncomputable def ajG(ks:List K):Int:=reduceHash (Builtin.Tuple.tupleHashOf (ks.map I.hash))
noncomputable def adT(ks:List K):Nat:=(ks.map I.draws).sum+1
variable{I}
theorem Its.same{h}:∀{x y vs},Its I h x vs->Its I h y vs->x=y
|[],y,vs,c,a=>by cases c;cases y with|nil=>rfl|cons=>obtain⟨_,_,e,_⟩:=a;cases e
|_::_,y,vs,c,a=>by obtain⟨b,d,rfl,i,c⟩:=c;cases y with|nil=>cases a|cons=>obtain⟨_,_,e,j,a⟩:=a;cases e;rw[I.inj i j,Its.same c a]
theorem Its.move{h h' d o es ep}(e:h.get? d=some o)(a:o.data=.dict es ep)(c:Heap.SameBut d h h'):∀{x vs},Its I h x vs->Its I h' x vs|[],_,q=>q|_::_,_,q=>by obtain⟨b,f,rfl,i,q⟩:=q;exact⟨b,f,rfl,I.keeps i e a c,q.move e a c⟩
def Is.ty{s:Shared}{ks a}(x:Is I s.heap ks a):s.TypeIs (.ref a) "tuple":=let⟨o,_,_,c,b,_⟩:=x;⟨o,c,b⟩
theorem Is.same{h a x y}(k:Is I h x a)(g:Is I h y a):x=y:=by refine qz k λo i n e _ d j=>?_;refine qz g λl m p b _ c f=>?_;rw[e]at b;cases b;rw[d]at c;cases c;exact j.same f
variable{A:Around}{E:Value->Shared->Prop}{s:Shared}
def amX{ks a Q}(u:A.units<cLine)(r:I.room A.in1)(x:Is I s.heap ks a)(h:Q (ajG I ks) {s with toks:=s.toks+adT I ks}):wpAny (model prog w) A (PySem.pyHash (.ref a)) Q E s:=by
 have ty:=x.ty;refine qz x λo i n y _ q t=>?_;unfold PySem.pyHash;first|unfold pyHashByItsType|skip
 first|refine arJ (wpAny_cRoomFor_or (.inr u) ?_)|skip
 refine arJ (as4 ty aur.lookup ?_);refine arJ (as4 ty aur.lookup ?_);refine arJ (atW ty aur (asR aur ty F.entry_tuple_hash ?_ (F.args_tuple_hash_1 _)));show wpAny _ _ (Builtin.Tuple.tupleItemsOf (.ref a)>>=_) _ _ s;refine arJ (au1 y q (arJ ?_));rw[<-au2];refine atX _ (λrest(b:Array Int)p=>∃d f,ks=d++f/\Its I s.heap f rest/\b.toList=d.map I.hash/\p={s with toks:=s.toks+(d.map I.draws).sum}) _ ?_ ?_ _ _ (aeW [] ks rfl t rfl rfl);.rintro v rest b p⟨d,f,rfl,g,l,rfl⟩;cases f with|nil=>cases g|cons k f=>
   refine iH g λc _ e z g=>?_;cases e;refine arJ (I.pyHash r z ?_);have m:(b.push (I.hash k)).toList=(d++[k]).map I.hash:=by simp[l]
   have j:({s with toks:=s.toks+(d.map I.draws).sum+I.draws k}:Shared)={s with toks:=s.toks+((d++[k]).map I.draws).sum}:=by simp[Nat.add_assoc]
   exact arR (aeW (d++[k]) f (by simp) g m j)
 .rintro b p⟨d,f,rfl,g,l,rfl⟩;cases f with|cons _ _=>refine dc g λ_ _ e _=>?_;cases e|nil=>
   rw[asl]at h;show wpAny _ _ (retInt (Builtin.Tuple.tupleHashOf b.toList)) _ _ _;rw[l];have j:({s with toks:=s.toks+adT I d}:Shared)={s with toks:=s.toks+(d.map I.draws).sum+1}:=rfl;rw[j]at h;refine wpAny_ret_mkInt ?_;unfold ajG reduceHash at h;show wpAny _ _ (if(decide (-(2:Int)^63<=Builtin.Tuple.tupleHashOf (d.map I.hash))&&decide (Builtin.Tuple.tupleHashOf (d.map I.hash)<2^63))=true then _ else _) Q E _;split at h;.rename_i c;rw[arM c];exact arR h
   .rename_i c;rw[arO c];exact arJ (avj (arR h))
def ajQ{x y a b P}(U:I.room A)(R:Is I s.heap x a)(O:Is I s.heap y b)(h:P (.done (.ret (.bool (decide (x=y))))) s):wpAny (model prog w) A (Builtin.«tuple.__eq__» ⟨[.ref a,.ref b],[]⟩) P E s:=by
 have T:=O.ty;refine qz R λoa t Z G _ D C=>?_;refine qz O λob z X M _ H J=>?_;show wpAny _ _ (isInstance (.ref b) (.type "tuple")>>=_) _ _ s;refine arJ (atY T auH ?_);refine arJ (au1 G D (arJ (au1 M H (arJ ?_))));refine atX _ (λrest r B=>r.1=none/\B=s/\∃k j m n,rest=List.zip m n/\Its I s.heap k m/\Its I s.heap j n/\decide (k=j)=decide (x=y)/\(m.length==n.length)=(t.size==z.size)) _ ?_ ?_ _ _ ⟨rfl,rfl,x,y,t.toList,z.toList,rfl,C,J,rfl,by simp⟩;.rintro⟨u,v⟩rest r B⟨o,rfl,k,j,m,n,p,f,e,g,i⟩;cases k with|nil=>cases f;simp at p|cons k1 k=>obtain⟨c,m,rfl,S,f⟩:=f;cases j with|nil=>cases e;simp at p|cons k2 j=>
    obtain⟨d,n,rfl,Q,e⟩:=e;simp only[aud,List.cons.injEq,Prod.mk.injEq]at p;obtain⟨⟨rfl,rfl⟩,rfl⟩:=p;refine arJ (I.eqBool U S Q ?_);by_cases N:k1=k2;.subst N;rw[aso rfl];simp only[Bool.not_true,asO,asW];refine arR ⟨rfl,rfl,k,j,m,n,rfl,f,e,?_,by simpa using i⟩;rw[<-g];simp
    .rw[ar6 N];simp only[Bool.not_false,ate];rw[show decide (x=y)=false by rw[<-g];simp[N]]at h;exact arJ (arR (arR (arR h)))
 .rintro⟨Y,r2⟩B⟨o,rfl,k,j,m,n,p,f,e,g,i⟩;simp only at o;subst o;have q:(t.size==z.size)=decide (x=y):=by rw[<-g,<-i];cases k with
 |nil=>cases f;cases j with|nil=>cases e;rfl|cons=>refine dc e λ_ _ l _=>?_;subst l;simp
 |cons=>obtain⟨_,_,rfl,_⟩:=f;cases j with|nil=>cases e;simp|cons=>refine dc e λ_ _ l _=>?_;subst l;cases p
  refine arR ?_;show P (.done (.ret (.bool (t.size==z.size)))) B;rw[q];exact h
def ary{x y a b Q}(g:A.units<cLine)(i:I.room A.in1)(d:Is I s.heap x a)(f:Is I s.heap y b)(h:Q (decide (x=y)) s):wpAny (model prog w) A (PySem.eqBool (.ref a) (.ref b)) Q E s:=by
 unfold PySem.eqBool;try with_reducible refine as9 ?_
 by_cases c:(Value.ref a==Value.ref b)=true
 .rw[arM c];have e:a=b:=by grind
  subst e;obtain rfl:=d.same f;exact arJ (avj (arR (by grind)))
 .rw[arO c];exact arJ (wpAny_richCompare_same_room d.ty f.ty auR (asR auR d.ty F.entry_tuple_eq (ajQ i d f ⟨_,rfl,(λe=>nomatch e),asI h⟩) (F.args_tuple_eq_2 _ _)) g)
def ai0{ks a Q}(l:∀{k c P},I.is s.heap k c->P true s->wpAny (model prog w) A (eqIsQuiet 7 (.ref c)) P E s)(x:Is I s.heap ks a)(h:Q true s):wpAny (model prog w) A (eqIsQuiet 8 (.ref a)) Q E s:=by
 have ty:=x.ty;refine qz x λo g n p _ j m=>?_;unfold eqIsQuiet;refine arJ (as4 ty auR.lookup (arJ (atY ty auH ?_)));refine arJ (atg p j (arJ ?_));rw[<-au2];refine atX _ (λrest r i=>r.1=none/\i=s/\∃b,Its I s.heap b rest) _ ?_ ?_ _ _ ⟨rfl,rfl,ks,m⟩;.rintro v rest r i⟨d,rfl,b,f⟩;cases b with|nil=>cases f|cons k b=>refine iH f λc _ e q f=>?_;cases e;refine arJ (l q ?_);exact arR ⟨rfl,rfl,b,f⟩
 .rintro⟨t,u⟩i⟨d,rfl,_⟩;subst d;exact arR h
theorem Is.move{h h' ks a d o es ep}(x:Is I h ks a)(l:h.get? d=some o)(f:o.data=.dict es ep)(c:Heap.SameBut d h h'):Is I h' ks a:=by refine qz x λi b n g e k j=>?_;exact oU i _ n ((c.2 a λz=>by grind).trans g) e k (j.move l f c)
def alB{ks a Q}(x:IsTupleKey (intKind prog w) s.heap ks a)(h:Q true s):wpAny (model prog w) A (eqIsQuiet 7 (.ref a)) Q E s:=by
 have ty:=x.typeIs;refine qz x λo c n j _ f g=>?_;unfold eqIsQuiet;refine arJ (as4 ty auR.lookup ?_);refine arJ (atY ty auH ?_);refine arJ (atg j f (arJ ?_));rw[<-au2];refine atX _ (λrest r d=>r.1=none/\d=s/\∀v∈rest,carriedByValue v=true) _ ?_ ?_ _ _ ⟨rfl,rfl,g.byValue⟩;.rintro v rest r d⟨b,rfl,e⟩;rw[eqIsQuiet_byValue _ (e v (by simp))];exact arR ⟨rfl,rfl,λu i=>e u (by simp[i])⟩
 .rintro⟨k,l⟩d⟨b,rfl,_⟩;subst b;exact arR h
end
def cS(prog:Program)(w:World):HeapKind prog w (List (List Int))where is:=Is (tupleKind (intKind prog w));hash:=ajG (tupleKind (intKind prog w));draws:=adT (tupleKind (intKind prog w));room:=λA=>A.units<cLine/\A.in1.units<cLine;inj:=λx y=>x.same y;keeps:=λx ho hd hs=>x.move ho hd hs;pyHash:=λhu x h=>amX hu.1 hu.2 x h;eqBool:=λhu x y h=>ary hu.1 hu.2 x y h;quiet:=λx h=>ai0 (λq p=>alB q p) x h
end K2
set_option autoImplicit true
set_option relaxedAutoImplicit true
namespace L2
open PySem PySem.Spec PyProof.Rows
abbrev aeS:=List (List Int)
def fde(P:Program)(w:World)(x:aeS×Addr):DictEntry:=entryOfKey (K2.cS P w) (x.1,x.2,Value.bool true)
def FD(P:Program)(w:World)(d:Addr)(xs:List (aeS×Addr)):HO:=.ext λh=>xs.length<=sizeLine/\(d==sysModules)=false/\(xs.map (·.1)).Nodup/\∃o a b,h.get? d=some o/\o.ExactDict/\o.data=.dict a b/\a.toList=xs.map (fde P w)
def FD.ok   (j:xs.length<=sizeLine)(g:(d==sysModules)=false)(n:(xs.map (·.1)).Nodup)(f:∃o a c,h.get? d=some o/\o.ExactDict/\o.data=.dict a c/\a.toList=xs.map (fde P w)):cL P w H h d (FD P w d xs):=⟨⟨j,g,n,f⟩,let⟨o,_,_,e,_⟩:=f;⟨o,e⟩,λq p b k=>by obtain⟨l,i,m,o,a,c,e,r⟩:=b;exact⟨l,i,m,o,a,c,k o e,r⟩⟩
def FD.of   (ok:HOk P w H h)(e:H d=some (FD P w d xs))(n:∀x∈xs,(K2.cS P w).is h x.1 x.2):xs.length<=sizeLine/\(d==sysModules)=false/\h.DictOfH (K2.cS P w) d (xs.map λx=>(x.1,x.2,Value.bool true)):=by
 obtain⟨⟨b,a,l,o,j,k,g,p,c,f⟩,_⟩:=ok d _ e;refine⟨b,a,o,j,k,g,p,c,?_,λx m=>?_,?_⟩;.rw[f,asM];rfl
 .obtain⟨y,i,rfl⟩:=ase.mp m;exact n y i
 .rw[asM];exact l
def ana{xs:List (aeS×Addr)}{k}:(atKey (xs.map λx=>(x.1,x.2,Value.bool true)) k).isSome=decide (k∈xs.map (·.1)):=by induction xs with|nil=>rfl|cons x xs ih=>
 unfold atKey at ih⊢;rw[arZ,at5];by_cases h:x.1=k;.subst h;simp
 .have a:k≠x.1:=λz=>h z.symm;simp only[h,decide_false,arZ,ar4,a,false_or];rw[ih]
def FKy(K:W.Frag)(H:Hp)(k:aeS)(a:Addr):Prop:=∃bs:List Addr,SqT K H a (bs.map V.ref)/\Paired (λ(x:List Int)(b:Addr)=>SqT K H b (x.map V.int)) k bs
section
variable{X:Cx}{pins:List (Addr×Obj)}{σ:St}{H:Hp}{s:Shared}{d a:Addr}{k:aeS}{xs:List (aeS×Addr)}{A:Around}{E:Value->Shared->Prop}
def adH(b:A.units+2<cLine):(K2.cS X.prog X.w).room A.in1:=by
 refine⟨?_,?_⟩;.show A.units+1<cLine;omega
 .omega
def apT{Q}(f:A.units+2<cLine)(I:Inv X pins σ H s)(e:H d=some (FD X.prog X.w d xs))(i:(K2.cS X.prog X.w).is s.heap k a)(g:∀x∈xs,(K2.cS X.prog X.w).is s.heap x.1 x.2)(h:∀b,Inv X pins σ H b->Q (.bool (decide (k∈xs.map (·.1)))) b):wpAny (model X.prog X.w) A (compareOp .In (.ref a) (.ref d)) Q E s:=by obtain⟨_,c,dd⟩:=FD.of I.hok e g;refine wpAny_in_heap (adH f) i c dd ?_;rw[ana];exact h _ (I.tok _)
def am9{Q:Unit->Shared->Prop}(r:A.units+2<cLine)(I:Inv X pins σ H s)(e:H d=some (FD X.prog X.w d xs))(w:(K2.cS X.prog X.w).is s.heap k a)(v:∀x∈xs,(K2.cS X.prog X.w).is s.heap x.1 x.2)(n:k∉xs.map (·.1))(hz:xs.length<sizeLine)(h:∀j,Inv X pins σ (upd H d (FD X.prog X.w d (xs++[(k,a)]))) j->Q () j):wpAny (model X.prog X.w) A (setItem (.ref d) (.ref a) (.bool true)) Q E s:=by
 obtain⟨_,m,dd⟩:=FD.of I.hok e v;have b:atKey (xs.map λx=>(x.1,x.2,Value.bool true)) k=none:=by have:=ana (xs:=xs) (k:=k);rw[ar6 n]at this;cases q:atKey (xs.map λx=>(x.1,x.2,Value.bool true)) k with|none=>rfl|some _=>rw[q]at this;cases this
 refine wpAny_setItem_heap (adH r) w dd λy c o=>h _ ?_;obtain⟨q,p,t,f,l,u,g,_,i⟩:=c;rw[storedH_new b]at g i;refine rO I (by rw[e];exact True.intro) o ⟨q,f⟩ (FD.ok (by rw[asm];exact hz) m ?_ ⟨q,p,t,f,l,u,?_⟩);.simpa[asZ,Function.comp_def]using i
 .rw[g];simp[fde,Function.comp_def]
def yV(I:Inv X pins σ H s)(f:FKy X.K H k a):(K2.cS X.prog X.w).is s.heap k a:=by
 refine de f λbs h r=>?_;obtain⟨e,w,⟨o,l,j,n,y⟩,_⟩:=I.tuple h;refine oU o e.toArray n l j y ?_;have C:∀(x:List Int)(c),Vals (x.map V.int) c->ItemsAre (intKind X.prog X.w) x c:=by intro x;induction x with|nil=>intro c q;cases q;exact .nil|cons i x ih=>intro c q;cases q with|cons q1 q2=>obtain⟨t,rfl⟩:=q1;refine .cons ?_ (ih _ q2);simp[intKind,Value.isInt]
 have:∀(k:aeS)(bs:List Addr)(c:List Value),Paired (λx(b:Addr)=>SqT X.K H b (x.map V.int)) k bs->Vals (bs.map V.ref) c->K2.Its (tupleKind (intKind X.prog X.w)) s.heap k c:=by intro k bs c r;induction r generalizing c with|nil=>intro q;cases q;rfl|@cons x b k bs h t ih=>intro q;cases q with|cons q1 q2=>cases q1;obtain⟨g,u,⟨m,v,B,z,p⟩,_⟩:=I.tuple h;exact fD _ _ rfl (oU m g.toArray z v B p (by grind)) (ih _ q2)
 simpa using this k bs e r w
end
section
variable{X:Cx}{o i value:Expr}{td ty tv:TE}{pos pos':Pos}
def alx(td ty:TE)(P:Program)(w:World)(K:W.Frag):TS:=λD e H=>td e H λx f=>ty e f λy c=>∃d a b k,x=.ref d/\y=.ref a/\c d=some (FD P w d b)/\FKy K c k a/\(∀x∈b,FKy K c x.1 x.2)/\k∉b.map (·.1)/\b.length<sizeLine/\D.nx e (upd c d (FD P w d (b++[(k,a)])))
def ai6(S:X.A.units+2<cLine)(E:PE X o td)(w:PE X i ty)(P:PE X value (tC (.bl true)))(t:swapsWith value (some (.Subscript o i pos')) pos.line X.env=pure false:=by rfl):PS X (.Assign [.Subscript o i pos'] value pos) (alx td ty X.prog X.w X.K):=by intro b s c H D I h;refine wpAny_Assign_Subscript (thn (P b s c H _ I (show tC _ c H λv l=>v=.bl _/\l=H from⟨rfl,rfl⟩)) λr O⟨v,l,N,z,n⟩=>?_) t;obtain⟨rfl,rfl⟩:=n;refine thn (E b O c _ _ N h) λu Q⟨x,K,C,q,A⟩=>thn (w b Q c K _ C A) λiv Z g=>?_;obtain⟨y,H3,f,G,d,a,Y,k,ex,R,e,T,B,M,m,p⟩:=g;subst ex R;obtain rfl:=q;obtain rfl:=G;obtain rfl:=z;exact am9 S f e (yV f T) (λx j=>yV f (B x j)) M m λU J=>⟨c,_,J,p⟩
def al7(m:X.A.units+2<cLine):OpR X (compareOp .In) (λx y H Q=>∃d a b k,x=.ref a/\y=.ref d/\H d=some (FD X.prog X.w d b)/\FKy X.K H k a/\(∀x∈b,FKy X.K H x.1 x.2)/\Q (.bl (decide (k∈b.map (·.1)))) H):=by intro f s r H x y v u Q I j g⟨d,a,b,k,ex,l,e,p,n,q⟩;subst ex l;obtain rfl:=j;obtain rfl:=g;exact apT m I e (yV I p) (λx c=>yV I (n x c)) λt h=>fD (.bl _) H h rfl q
end
def ahf(P:Program)(w:World):TE:=λ_ H Q=>∀p,H p=none->Q (.ref p) (upd H p (FD P w p []))
def afR :PE X (.Dict [] [] pos) (ahf X.prog X.w):=λa s b H Q I h=>wpAny_Dict_empty ⟨.ref _,_,I.laid (o:=FD _ _ _ []) (λ_ _ q=>arK _ q) (arP _) (FD.ok (asr _) (asH.mpr (arY (ar0 I.big))) List.nodup_nil ⟨_,_,0,arW _ rfl,⟨rfl,rfl,rfl⟩,rfl,rfl⟩),rfl,h _ (I.hok.fresh (arP _))⟩
end L2
namespace WL
open PySem
inductive W where|non|bl(b:Bool)|int(i:Int)|str(x:Str)|ty(n:String)|tup(xs:List W)|lst(xs:List W)/-- a dict that is read alone: its keys,its values;a class of the text;an exception: its class,its fields -/|dic(ks vs:List W)|cls(c:String)|exc(c:String)(fs:List W)/-- an object that is made: its class,its fields -/|ins(c:String)(fs:List W)/-- a thing that is written,by its place alone -/|id(a:Nat)
inductive Res(α:Type)where|ok(a:α)|ex(c:W)|bad
noncomputable def Res.bind{b d}:Res b->(b->Res d)->Res d|.ok a,f=>f a|.ex c,_=>.ex c|.bad,_=>.bad
inductive Sl where|no|va(w:W)|ow(ws:List W)|od(ks vs:List W)|ob
abbrev Ws:=List Sl
abbrev EF:=Ws->Res W
abbrev TF:=Ws->Res Bool
abbrev AF:=Ws->Res (List W)
abbrev LF:=Ws->Res (List W)
abbrev GF:=W->Ws->Res Ws
inductive Out where|nx(σ:Ws)|rt(w:W)|bk(σ:Ws)|ct(σ:Ws)|ex(c:W)(σ:Ws)|bad
abbrev SF:=Ws->Out
mutual def eqv:W->W->Bool|.non,.non=>true|.bl a,.bl b=>a==b|.bl a,.int j=>(if a then 1 else 0)==j|.int i,.bl b=>i==if b then 1 else 0|.int i,.int j=>i==j|.str x,.str y=>x==y|.lst xs,.lst ys=>aeO xs ys|.tup xs,.tup ys=>aeO xs ys|_,_=>false def aeO:List W->List W->Bool|[],[]=>true|x::xs,y::ys=>eqv x y&&aeO xs ys|_,_=>false end
mutual def okD:Nat->W->Bool|_,.non=>true|_,.bl _=>true|_,.int _=>true|_,.str x=>x.cps.all (.<0x110000)|_,.ty _=>false|n,.tup xs=>gL n xs|n,.lst xs=>gL n xs|_,.dic _ _=>false|_,.cls _=>false|_,.exc _ _=>false|_,.ins _ _=>false|_,.id _=>false def gL:Nat->List W->Bool|0,_=>false|_+1,[]=>true|n+1,x::xs=>okD n x&&gL (n+1) xs end
noncomputable def zI:W->W->Bool|.non,.non=>true|.non,.int _=>true|.int _,.non=>true|.non,.bl _=>true|.bl _,.non=>true|.non,.str _=>true|.str _,.non=>true|.int _,.int _=>true|.bl _,.bl _=>true|.str _,.str _=>true|.int _,.str _=>true|.str _,.int _=>true|.bl _,.str _=>true|.str _,.bl _=>true|_,_=>false
def oEq(x y:W):Res W:=if zI x y then .ok (.bl (eqv x y))else if okD 50 x&&okD 50 y then .ok (.bl (eqv x y))else .bad
def oNe(x y:W):Res W:=if zI x y then .ok (.bl !eqv x y)else if okD 50 x&&okD 50 y then .ok (.bl !eqv x y)else .bad
noncomputable def dO(x:W):List W->Bool|[]=>false|y::ys=>eqv y x||dO x ys
def oIn(x:W):W->Res W|.lst ys=>if okD 50 x&&gL 51 ys then .ok (.bl (dO x ys))else .bad|.tup ys=>if okD 50 x&&gL 51 ys then .ok (.bl (dO x ys))else .bad|_=>.bad
def g8(x:W):W->Res W|.lst ys=>if okD 50 x&&gL 51 ys then .ok (.bl !dO x ys)else .bad|.tup ys=>if okD 50 x&&gL 51 ys then .ok (.bl !dO x ys)else .bad|_=>.bad
noncomputable def lim:Nat:=1000000
def fF:W->W->Res W|.int i,.int j=>.ok (.int (i+j))|.lst xs,.lst ys=>if xs.length+ys.length<=lim then .ok (.lst (xs++ys))else .bad|.tup xs,.tup ys=>if xs.length+ys.length<=lim then .ok (.tup (xs++ys))else .bad|_,_=>.bad
noncomputable def acH:W->W->Res W|.int i,.int j=>.ok (.int (i-j))|_,_=>.bad
noncomputable def vf:W->W->Res W|.int i,.int j=>if -2^64<i/\i<2^64\/-2^64<j/\j<2^64 then .ok (.int (i*j))else .bad|_,_=>.bad
noncomputable def oDiv:W->W->Res W|.int i,.int j=>if 0<j/\j<10^100 then .ok (.int (i/j))else .bad|_,_=>.bad
noncomputable def oMod:W->W->Res W|.int i,.int j=>if 0<j then .ok (.int (i%j))else .bad|_,_=>.bad
noncomputable def yt:W->Res W|.int i=>.ok (.int (-i))|_=>.bad
noncomputable def oLt:W->W->Res W|.int i,.int j=>.ok (.bl (decide (i<j)))|_,_=>.bad
noncomputable def oLe:W->W->Res W|.int i,.int j=>.ok (.bl (decide (i<=j)))|_,_=>.bad
noncomputable def oGt:W->W->Res W|.int i,.int j=>.ok (.bl (decide (j<i)))|_,_=>.bad
noncomputable def oGe:W->W->Res W|.int i,.int j=>.ok (.bl (decide (j<=i)))|_,_=>.bad
noncomputable def kM:W->Bool|.non=>true|_=>false
noncomputable def isB(b:Bool):W->Bool|.bl c=>b==c|_=>false
def oIs(x:W):W->Res W|.non=>.ok (.bl (kM x))|.bl b=>.ok (.bl (isB b x))|_=>.bad
def eZ(x:W):W->Res W|.non=>.ok (.bl !kM x)|.bl b=>.ok (.bl !isB b x)|_=>.bad
noncomputable def ixN(n:Nat)(i:Int):Option Nat:=if 0<=i then if i<n then some i.toNat else none else if -(n:Int)<=i then some (i+n).toNat else none
def atI{a:Type}(xs:List a)(i:Int):Option a:=(ixN xs.length i).bind λj=>xs[j]?
noncomputable def ofO{b}:Option b->Res b|some a=>.ok a|none=>.bad
@[simp]def anY{b}(a:b):ofO (some a)=.ok a:=(rfl)
noncomputable def oV(k:Str):List W->List W->Option W|.str x::ks,v::vs=>if x==k then some v else oV k ks vs|_,_=>none
def oIx:W->W->Res W|.lst xs,.int i=>ofO (atI xs i)|.tup xs,.int i=>ofO (atI xs i)|.dic ks vs,.str k=>ofO (oV k ks vs)|_,_=>.bad
noncomputable def sIx(n d:Nat):Option Int->Nat|none=>d|some v=>if v<0 then(v+(n:Int)).toNat else min v.toNat n
def cut{a:Type}(xs:List a)(lo b:Option Int):List a:=(xs.drop (sIx xs.length 0 lo)).take (sIx xs.length xs.length b-sIx xs.length 0 lo)
def oSl:W->Option Int->Option Int->Res W|.lst xs,lo,hi=>.ok (.lst (cut xs lo hi))|.tup xs,lo,hi=>if sIx xs.length 0 lo=0/\sIx xs.length xs.length hi=xs.length then .bad else .ok (.tup (cut xs lo hi))|_,_,_=>.bad
noncomputable def iB:List W->Res W|[.lst xs]=>.ok (.int xs.length)|[.tup xs]=>.ok (.int xs.length)|_=>.bad
noncomputable def iU:List W->Res W|[.lst xs]=>.ok (.tup xs)|[.tup xs]=>.ok (.tup xs)|_=>.bad
noncomputable def xn:List W->Res W|[.lst xs]=>.ok (.lst xs)|[.tup xs]=>.ok (.lst xs)|_=>.bad
noncomputable def akF:List W->Res W|[.int i]=>.ok (.int (if i<0 then -i else i))|_=>.bad
noncomputable def aaN:List W->Res W|[.int i,.int j]=>.ok (.int (if j>i then j else i))|_=>.bad
noncomputable def allB:List W->Option Bool|[]=>some true|.bl b::xs=>(allB xs).map λc=>b&&c|_=>none
def agU:List W->Res W
|[.lst xs]=>match allB xs with|some b=>.ok (.bl b)|none=>.bad
|_=>.bad
noncomputable def rz:W->String|.non=>"NoneType"|.bl _=>"bool"|.int _=>"int"|.str _=>"str"|.ty _=>"type"|.tup _=>"tuple"|.lst _=>"list"|.dic _ _=>"dict"|.cls _=>"type"|.exc _ _=>"exception"|.ins _ _=>"object"|.id _=>"object"
def isK(w:W)(t:String):Option Bool:=match w with|.ty _=>none|.dic _ _=>none|.cls _=>none|.exc _ _=>none|.ins _ _=>none|.id _=>none|_=>if["int","bool","str","list","tuple"].contains t then some (rz w==t||rz w=="bool"&&t=="int")else none
def cY:List W->Res W
|[x,.ty t]=>match isK x t with|some b=>.ok (.bl b)|none=>.bad
|_=>.bad
mutual def ltW:W->W->Bool|.int i,.int j=>decide (i<j)|.tup xs,.tup ys=>aju xs ys|_,_=>false def aju:List W->List W->Bool|[],[]=>false|[],_::_=>true|_::_,[]=>false|x::xs,y::ys=>if eqv x y then aju xs ys else ltW x y end
mutual def ahS:W->W->Bool|.int _,.int _=>true|.tup xs,.tup ys=>aaF xs ys|_,_=>false def aaF:List W->List W->Bool|x::xs,y::ys=>ahS x y&&aaF xs ys|_,_=>true end
noncomputable def aeR(a:Nat->Nat->Bool):Nat->Nat|0=>0|k+1=>if a (k+1) (aeR a k)then k+1 else aeR a k
def minOf(ys:List W):Res W:=if 0<ys.length/\gL 51 ys=true/\(ys.all λx=>ys.all λy=>ahS x y)=true then ofO ys[aeR (λi j=>ltW (ys.getD i .non) (ys.getD j .non)) (ys.length-1)]? else .bad
def aaM:List W->Res W|[.lst ys]=>minOf ys|_=>.bad
noncomputable def aj(i:Nat):EF:=λa=>match a[i]? with|some (.va w)=>.ok w|_=>.bad
noncomputable def eC(w:W):EF:=λ_=>.ok w
def eOp(r:W->W->Res W)(a b:EF):EF:=λc=>(a c).bind λx=>(b c).bind λy=>r x y
def eUn(r:W->Res W)(a:EF):EF:=λb=>(a b).bind r
def lS(r e:W->W->Res W)(a b c:EF):EF:=λd=>(a d).bind λx=>(b d).bind λy=>(r x y).bind λz=>match z with|.bl true=>(c d).bind λw=>e y w|.bl false=>.ok (.bl false)|_=>.bad
noncomputable def toB:W->Res Bool|.bl b=>.ok b|_=>.bad
def tB(e:EF):TF:=λa=>(e a).bind toB
def aaT(a b:TF):TF:=λc=>(a c).bind λx=>match x with|true=>b c|false=>.ok false
def tOr(a b:TF):TF:=λc=>(a c).bind λx=>match x with|true=>.ok true|false=>b c
def xS(a:TF):TF:=λb=>(a b).bind λx=>.ok !x
def aeP(a b:EF):EF:=λc=>(a c).bind λx=>match x with|.bl true=>b c|.bl false=>.ok (.bl false)|_=>.bad
def anc(a:EF):EF:=λc=>(a c).bind λx=>match x with|.bl b=>.ok (.bl !b)|_=>.bad
def eIf(t:TF)(a b:EF):EF:=λc=>(t c).bind λx=>match x with|true=>a c|false=>b c
noncomputable def au:AF:=λ_=>.ok []
def ae(e:EF)(a:AF):AF:=λb=>(e b).bind λx=>(a b).bind λc=>.ok (x::c)
def lR(a:AF):EF:=λc=>(a c).bind λb=>if b.length<=lim then .ok (.tup b)else .bad
def px(a:AF):EF:=λc=>(a c).bind λb=>if b.length<=lim then .ok (.lst b)else .bad
def ay(f:List W->Res W)(a:AF):EF:=λb=>(a b).bind λws=>match f ws with|.ok w=>.ok w|_=>.bad
def eBi(f:List W->Res W)(a:AF):EF:=λb=>(a b).bind f
def uL(T:String)(r:W->List W->Res W)(o:EF)(a:AF):EF:=λb=>(o b).bind λx=>if rz x==T then(a b).bind λws=>r x ws else .bad
noncomputable def idx(x:W):Nat->List W->Option Nat|_,[]=>none|k,y::ys=>if eqv y x then some k else idx x (k+1) ys
def iR:W->List W->Res W|.lst ys,[x]=>if okD 50 x&&gL 51 ys&&decide (ys.length<=lim)then match idx x 0 ys with|some k=>.ok (.int k)|none=>.bad else .bad|_,_=>.bad
noncomputable def pNo:Ws->Res (Option Int):=λ_=>.ok none
def q0(e:EF):Ws->Res (Option Int):=λa=>(e a).bind λx=>match x with|.int i=>.ok (some i)|_=>.bad
def eSl(e:EF)(lo b:Ws->Res (Option Int)):EF:=λa=>(e a).bind λx=>(lo a).bind λl=>(b a).bind λh=>oSl x l h
noncomputable def itemsOf:W->Res (List W)|.lst xs=>.ok xs|.tup xs=>.ok xs|_=>.bad
@[simp]def ajD(xs):itemsOf (.lst xs)=.ok xs:=(rfl)
@[simp]def ajC(xs):itemsOf (.tup xs)=.ok xs:=(rfl)
def rZ(e:EF):LF:=λa=>(e a).bind itemsOf
noncomputable def rng(lo:Int)(n:Nat):List W:=(List.range n).map λi=>.int (lo+(i:Nat))
def kN(e:EF):LF:=λa=>(e a).bind λx=>match x with|.int j=>if -2^62<=j/\j<2^62 then .ok (rng 0 j.toNat)else .bad|_=>.bad
def uo(e b:EF):LF:=λa=>(e a).bind λx=>(b a).bind λy=>match x,y with|.int i,.int j=>if -2^62<=i/\i<2^62/\-2^62<=j/\j<2^62 then .ok (rng i (j-i).toNat)else .bad|_,_=>.bad
noncomputable def fW:Nat->List W->List W|_,[]=>[]|k,x::xs=>.tup [.int k,x]::fW (k+1) xs
def wA(e:EF):LF:=λa=>(e a).bind λx=>match x with|.tup xs=>.ok (fW 0 xs)|.lst xs=>.ok (fW 0 xs)|_=>.bad
noncomputable def ax(i:Nat):GF:=λw a=>.ok (a.set i (.va w))
abbrev GsF:=List W->Ws->Res Ws
noncomputable def r6:GsF:=λws a=>match ws with|[]=>.ok a|_=>.bad
noncomputable def cz(g:GF)(b:GsF):GsF:=λws a=>match ws with|w::r=>(match g w a with|.ok σ'=>(match b r σ' with|.ok σ2=>.ok σ2|_=>.bad)|_=>.bad)|[]=>.bad
noncomputable def r0(b:GsF):GF:=λw a=>match w with|.tup ws=>b ws a|_=>.bad
def arH(i:Nat)(e:EF):GF:=λw a=>match a[i]? with
|some (.ow ws)=>match e a with|.ok (.int k)=>(match ixN ws.length k with|some j=>.ok (a.set i (.ow (ws.set j w)))|none=>.bad)|_=>.bad
|_=>.bad
noncomputable def bH(g:GF)(t:TF)(e:EF)(σ:Ws):List W->Res (List W)|[]=>.ok []|x::xs=>(g x σ).bind λa=>(t a).bind λb=>match b with|true=>(e a).bind λy=>(bH g t e σ xs).bind λc=>.ok (y::c)|false=>bH g t e σ xs
noncomputable def kz:TF:=λ_=>.ok true
def agm(k:Nat)(it:LF)(g:GF)(t:TF)(e:EF):LF:=λa=>(it a).bind λb=>if b.length<=lim then match bH g t e (List.replicate k .no++a) b with|.ok ys=>.ok ys|_=>.bad else .bad
def hY(k:Nat)(it:LF)(g:GF)(t:TF)(e:EF):EF:=λa=>(agm k it g t e a).bind λb=>.ok (.lst b)
noncomputable def frz(i:Nat)(σ:Ws):Ws:=match σ[i]? with|some (.ow ws)=>σ.set i (.va (.lst ws))|some (.od ks vs)=>σ.set i (.va (.dic ks vs))|_=>σ
mutual def plain:W->Bool|.tup xs=>jP xs|.lst _=>false|.dic _ _=>false|.exc _ _=>false|.ins _ _=>false|.id _=>false|_=>true def jP:List W->Bool|[]=>true|x::xs=>plain x&&jP xs end
def akA(i:Nat)(e:EF):EF:=λa=>match e (frz i a)with|.ok w=>if plain w then .ok w else .bad|_=>.bad
noncomputable def sNx:SF:=λa=>.nx a
noncomputable def aJ(a b:SF):SF:=λc=>match a c with|.nx σ'=>b σ'|o=>o
noncomputable def ofR{b}(σ:Ws)(r:Res b)(f:b->Out):Out:=match r with|.ok a=>f a|.ex c=>.ex c σ|.bad=>.bad
def bo(i:Nat)(e:EF):SF:=λa=>ofR a (e a) λw=>.nx (a.set i (.va w))
def tx(i:Nat)(l:LF):SF:=λa=>ofR a (l a) λws=>.nx (a.set i (.ow ws))
def akw(a:AF):LF:=λc=>(a c).bind λb=>if b.length<=lim then .ok b else .bad
def amB(e:EF):LF:=λa=>(e a).bind itemsOf
def aqB(e:EF)(g:GF):SF:=λa=>ofR a (e a) λw=>ofR a (g w a) λb=>.nx b
def sIf(t:TF)(a b:SF):SF:=λc=>ofR c (t c) λx=>match x with|true=>a c|false=>b c
def bq(e:EF):SF:=λa=>ofR a (e a) λw=>.rt w
noncomputable def aiS:SF:=λ_=>.rt .non
def aiW(e:EF):SF:=λa=>ofR a (e a) λ_=>.nx a
noncomputable def sCt:SF:=λa=>.ct a
def ako(i:Nat)(e:EF):SF:=λa=>match a[i]? with|some (.ow ws)=>ofR a (e a) λw=>if ws.length<lim then .nx (a.set i (.ow (ws++[w])))else .bad|_=>.bad
def ahn(i:Nat)(t:SF):SF:=λa=>t (frz i a)
noncomputable def forL(g:GF)(b:SF):List W->Ws->Out|[],σ=>.nx σ|x::xs,σ=>ofR σ (g x σ) λa=>match b a with|.nx σ2=>forL g b xs σ2|.ct σ2=>forL g b xs σ2|.bk σ2=>.nx σ2|o=>o
def nE(it:LF)(g:GF)(b:SF):SF:=λa=>ofR a (it a) λc=>forL g b c a
noncomputable def jw(c:TF)(b:SF):Nat->Ws->Out|0,_=>.bad|n+1,σ=>ofR σ (c σ) λx=>match x with
 |true=>match b σ with|.nx σ2=>jw c b n σ2|.ct σ2=>jw c b n σ2|.bk σ2=>.nx σ2|o=>o
 |false=>.nx σ
def abW(n:Ws->Nat)(c:TF)(b:SF):SF:=λa=>jw c b (n a) a
noncomputable def yZ:List String:=["FloorError","NotEven","NoCall","NoName","NoProgram","TooMany","NoPairs","NoRow","Blind","Out","Meet","Broken"]
noncomputable def md(nm d:String):Bool:=nm==d||d=="FloorError"
noncomputable def fieldsOf(nm:String):List Str:=if nm=="Blind"then["who"]else if nm=="Out"then["who"]else if nm=="Meet"then["one","other"]else if nm=="Broken"then["at","why"]else[]
def la(d:String):W->Bool|.exc nm _=>md nm d|_=>false
noncomputable def vH:SF:=λ_=>.bad
def ahm(nm:String)(a:AF):SF:=λb=>ofR b (a b) λws=>if ws.length<=100 then .ex (.exc nm []) b else .bad
def bS(f:List W->Res W)(a:AF):EF:=λb=>(a b).bind f
def hOut(d:String)(h:SF)(c:W)(σ:Ws):Out:=if la d c then match h σ with|.ex _ _=>.bad|o=>o else .bad
def aiR(b:SF)(d:String)(h:SF):SF:=λa=>match b a with|.ex c σ'=>hOut d h c σ'|o=>o
noncomputable def l6(c:String):List Str:=if c=="Book"then["calls"]else if c=="Search"then["goal","most","rows","seen"]else[]
noncomputable def run(n:Nat)(t:SF)(ws:List W):Res W:=match t (ws.map .va++List.replicate (n-ws.length) .no)with|.rt w=>.ok w|.nx _=>.ok .non|.ex c _=>.ex c|_=>.bad
def aq7:List W->Res W|[.exc nm _,.cls d]=>.ok (.bl (md nm d))|[.exc _ _,.ty "ValueError"]=>.ok (.bl true)|_=>.bad
@[simp]def aoq(nm d:String)(fs:List W):aq7 [.exc nm fs,.cls d]=.ok (.bl (md nm d)):=rfl
@[simp]def aqg(nm:String)(fs:List W):aq7 [.exc nm fs,.ty "ValueError"]=.ok (.bl true):=rfl
noncomputable def lB:W->Bool|.int i=>decide (i.natAbs.log2<100)|_=>false
def ja(nm:String)(a:AF):SF:=λb=>ofR b (a b) λws=>if ws.length=(fieldsOf nm).length/\ws.all lB=true then .ex (.exc nm ws) b else .bad
def kD(nm:String)(a:AF)(σ:Ws):ja nm a σ=ofR σ (a σ) λws=>if ws.length=(fieldsOf nm).length/\ws.all lB=true then .ex (.exc nm ws) σ else .bad:=(rfl)
noncomputable def vg(σ:Ws):Ws:=σ.map λs=>match s with|.ow _=>.no|.od _ _=>.no|s=>s
def ac8(k:Nat)(it:LF)(g:GF)(t:TF)(e:EF):LF:=λa=>(it a).bind λb=>if b.length<=lim then bH g t e (List.replicate k .no++vg a) b else .bad
def adR(k:Nat)(it:LF)(g:GF)(t:TF)(e:EF):EF:=λa=>(ac8 k it g t e a).bind λb=>.ok (.lst b)
def ui(k:Nat)(it:LF)(g:GF)(t:TF)(e:EF)(σ:Ws):ac8 k it g t e σ=(it σ).bind λa=>if a.length<=lim then bH g t e (List.replicate k .no++vg σ) a else .bad:=(rfl)
def uN(k:Nat)(it:LF)(g:GF)(t:TF)(e:EF)(σ:Ws):adR k it g t e σ=(ac8 k it g t e σ).bind λa=>.ok (.lst a):=(rfl)
noncomputable def dd:List (List Int)->List (List Int):=List.foldl (λa k=>if k∈a then a else k::a) []
mutual def apR:W->Bool|.tup xs=>uw xs|.lst xs=>uw xs|.dic _ _=>false|.cls _=>false|.exc _ _=>false|.ins _ _=>false|.id _=>false|_=>true def uw:List W->Bool|[]=>true|x::xs=>apR x&&uw xs end
end WL
namespace SF
open PySem PySem.Builtin PySem.Builtin.Str PySem.StrLaws
noncomputable def aeN(sub:List Nat)(k:Nat):Nat->Nat->List Nat->List Nat|_,_,[]=>[]|i,free,c::l=>if Nat.ble free i&&sub.isPrefixOf (c::l)then i::aeN sub k (i+1) (i+k) l else aeN sub k (i+1) free l
noncomputable def anl(xs:List Nat)(k:Nat):Nat->List Nat->List Str|st,[]=>[⟨(xs.drop st).toArray⟩]|st,c::cs=>⟨((xs.drop st).take (c-st)).toArray⟩::anl xs k (c+k) cs
def aln(x y:Str)(i:Nat)(c:y.length≠0):i+y.length<=x.length/\subAt x y i=true↔y.cps.toList.isPrefixOf (x.cps.toList.drop i)=true:=by
 obtain⟨e⟩:=x;obtain⟨f⟩:=y;simp only[Str.length]at c⊢;unfold subAt;simp only[Str.length,atj];rw[List.isPrefixOf_iff_prefix,List.prefix_iff_eq_take,<-auD,auS];simp only[aty,atZ];constructor;.rintro⟨d,a⟩;rw[<-a];simp[avK];try omega
 .intro h;have b:=ats List.length h;simp at b;refine⟨by omega,?_⟩;rw[avK];rw[h];simp;try omega
theorem acG(x y:Str)(f:y.length≠0):∀(m i free:Nat)(a:Array Nat),i+m=x.length+1->a.size<=i->(forIn (List.range' i m) (a,free) (occBody x y x.length (x.length+1))).run.fst.toList=a.toList++aeN y.cps.toList y.length i free (x.cps.toList.drop i)
|0,i,free,a,hm,ha=>by
  have:x.cps.toList.drop i=[]:=by rw[auT];exact arU (atJ _) (auL hm.symm)
  rw[this];simp[aeN]|m+1,i,free,a,hm,ha=>by
  have l:=aln x y i f;rw[List.range'_succ,List.forIn_cons];have j:a.size<x.length+1:=hm▸aue ha (Nat.lt_add_of_pos_right (Nat.succ_pos m));have d:=(Nat.succ_add_eq_add_succ i m).trans hm;by_cases c:free<=i/\y.cps.toList.isPrefixOf (x.cps.toList.drop i)=true
  .have g:=l.mpr c.2;have k:occBody x y x.length (x.length+1) i (a,free)=pure (ForInStep.yield (a.push i,i+y.length)):=by unfold occBody;rw[arM ⟨⟨⟨j,c.1⟩,g.1⟩,g.2⟩]
   rw[k];have b:i<x.cps.toList.length:=arS (Nat.lt_add_of_pos_right (Nat.pos_of_ne_zero f)) g.1;have h:=acG x y f m (i+1) (i+y.length) (a.push i) d (by rw[Array.size_push];exact Nat.succ_le_succ ha);have e:x.cps.toList.drop i=x.cps.toList[i]::x.cps.toList.drop (i+1):=asu b;rw[e]at c⊢;simp only[aeN,c.2,Nat.ble_eq.mpr c.1,Bool.and_self,ate];refine Eq.trans h ?_;simp
  .have k:occBody x y x.length (x.length+1) i (a,free)=pure (ForInStep.yield (a,free)):=by unfold occBody;rw[arO];rintro⟨⟨⟨_,n⟩,r⟩,o⟩;exact c ⟨n,l.mp ⟨r,o⟩⟩
   rw[k];have h:=acG x y f m (i+1) free a d (avg ha);refine Eq.trans h ?_;by_cases b:i<x.cps.toList.length
   .have e:x.cps.toList.drop i=x.cps.toList[i]::x.cps.toList.drop (i+1):=asu b;rw[e]at c⊢;have:(Nat.ble free i&&y.cps.toList.isPrefixOf (x.cps.toList[i]::x.cps.toList.drop (i+1)))=false:=by rw[Bool.eq_false_iff];intro z;rw[asj,Nat.ble_eq]at z;exact c z
    simp only[aeN,this,asO,asW]
   .have q:x.cps.toList.drop i=[]:=auT.mpr (auC b);have p:x.cps.toList.drop (i+1)=[]:=auT.mpr (avg (auC b));rw[q,p];simp[aeN]
def yr(x y:Str)(a:y.length≠0):occurrences x y 0 x.length (x.length+1)=aeN y.cps.toList y.length 0 0 x.cps.toList:=by rw[StrLaws.occ_eq];have:=acG x y a (x.length+1) 0 0 #[] (avv _) (arP _);simpa using this
theorem yn(x:Str)(k:Nat):∀(a:List Nat)(st:Nat),((st::a.map (.+k)).zip (a++[x.length])).map (λ(p:Nat×Nat)=>strSub x p.1 p.2)=anl x.cps.toList k st a|[],st=>by simp only[atw,as0,aud,List.zip_nil_right,arZ,anl,List.zip_nil_left];congr 1;unfold strSub;congr 1;apply auD.mp;rw[auS];simp[atZ,Str.length,auv]|c::a,st=>by have b:=yn x k a (c+k);simp only[arZ,asA,aud,anl];rw[<-b];congr 1;unfold strSub;congr 1;apply auD.mp;rw[auS,atZ];first|rfl|(rw[avK];done)|skip
def abH(x y:Str):List Str:=match aeN y.cps.toList y.length 0 0 x.cps.toList with|[]=>[x]|c::cs=>anl x.cps.toList y.length 0 (c::cs)
def zE(x y:Str)(d:y.length≠0)(g:strKind y=1):Txt.split x y=abH x y:=by
 unfold Txt.split abH;rw[yr x y d];have a:decide (strKind x<strKind y)=false:=by
  rw[g];unfold PySem.Builtin.Str.strKind;split;.rfl
  .split<;>rfl
 rw[a];cases e:aeN y.cps.toList y.length 0 0 x.cps.toList with|nil=>simp|cons c cs=>
  have f:¬x.length<y.length:=λz=>by have b:=yr x y d;rw[e]at b;have:=occ_spec x y 0 x.length (x.length+1) c (by rw[b];simp);omega
  simp only[ar6 f,Bool.or_self,asO,asW,avh];exact yn x y.length (c::cs) 0
end SF
namespace WL
open PySem
def ajn:W->W->Res W|.str x,.str y=>if x.length+y.length<=lim then .ok (.str (x++y))else .bad|_,_=>.bad
def arF:W->W->Res W|.lst xs,.int k=>if -1000000<=k/\k<=1000000/\xs.length*k.toNat<=lim then .ok (.lst (List.replicate k.toNat xs).flatten)else .bad|.tup xs,.int k=>if xs≠[]/\k≠1/\-1000000<=k/\k<=1000000/\xs.length*k.toNat<=lim then .ok (.tup (List.replicate k.toNat xs).flatten)else .bad|_,_=>.bad
noncomputable def arI:List W->Res W|[.int i]=>if i.natAbs.log2<1920 then .ok (.str (toString i))else .bad|_=>.bad
def iQ:W->List W->Res W|.str x,[.str y]=>if y.length≠0/\Builtin.Str.strKind y=1/\x.length<=lim then .ok (.lst ((SF.abH x y).map .str))else .bad|_,_=>.bad
noncomputable def jf:W->List W->Res W|.str x,[.str y]=>.ok (.bl (Txt.startswith x y))|_,_=>.bad
def ud:W->List W->Res W|.str x,[.str y]=>if y.length≠0/\x.length<=lim then .ok (.tup [.str (Txt.partition x y).1,.str (Txt.partition x y).2.1,.str (Txt.partition x y).2.2])else .bad|_,_=>.bad
noncomputable def strsOf:List W->Option (List Str)|[]=>some []|.str x::r=>(strsOf r).map (x::.)|_=>none
def v5:W->W->Res W|.str x,.int i=>if 0<=i/\x.length<=lim then .ok (.str (Txt.slice x (some i) none))else .bad|_,_=>.bad
noncomputable def akq(lo st:Int)(n:Nat):List W:=(List.range n).map λi=>.int (lo+(i:Nat)*st)
def ags(a b:EF):LF:=λc=>(a c).bind λx=>(b c).bind λy=>match x,y with|.int i,.int j=>if -2^60<=i/\i<2^60/\-2^60<=j/\j<2^60 then .ok (akq i 2 ((j-i+1)/2).toNat)else .bad|_,_=>.bad
noncomputable def arw:W->Res W|.int i=>if i.natAbs<1000 then .ok (.int i)else .bad|.str x=>if x.length<=1000 then .ok (.str x)else .bad|_=>.bad
noncomputable def shL:List W->Option Nat|[]=>some 3|.str x::r=>(shL r).map (.+(10*x.length+4))|.int i::r=>if i.natAbs<1000 then(shL r).map (.+12)else none|_=>none
def shC(ws:List W):Bool:=gL 51 ws&&match shL ws with|some n=>decide (n<=80000)|none=>false
def arv:W->Res W|.str x=>if x.length<=5000/\(x.cps.toList.all λc=>Nat.ble c 1114111)=true then .ok (.str x)else .bad|.lst ws=>if shC ws=true then .ok (.lst ws)else .bad|.int i=>if i.natAbs<1000 then .ok (.int i)else .bad|.non=>.ok .non|.tup ws=>if shC ws=true then .ok (.tup ws)else .bad|.bl b=>.ok (.bl b)|_=>.bad
def eFf(e:EF):EF:=λa=>(e a).bind arw
def eFr(e:EF):EF:=λa=>(e a).bind arv
noncomputable def aaL:List W->Res W|[.int i]=>if i.natAbs.log2<1920 then .ok (.str (toString i))else .bad|[.str x]=>.ok (.str x)|_=>.bad
noncomputable def apa:W->Res W|.str y=>if y.length<=100000 then .ok (.str y)else .bad|_=>.bad
def ePt(e:EF):EF:=λa=>(e a).bind apa
noncomputable def aaU:W->Bool|.str _=>true|.int _=>true|.non=>true|_=>false
noncomputable def wu:W->W->Bool|.str x,.str y=>x==y|.int i,.int j=>i==j|.non,.non=>true|_,_=>false
def aeQ(k:W)(ks:List W):Bool:=ks.any λx=>wu x k
noncomputable def agO(k v:W):List W->List W->List W|k'::ks,v'::vs=>(if wu k' k then v else v')::agO k v ks vs|_,_=>[]
noncomputable def aiT(i:Nat):SF:=λa=>.nx (a.set i (.od [] []))
def putK(ks:List W)(k:W):List W:=if aeQ k ks then ks else ks++[k]
def alH(ks us:List W)(k v:W):List W:=if aeQ k ks then agO k v ks us else us++[v]
def putD(i:Nat)(ks us:List W)(k v:W)(σ:Ws):Out:=if aaU k=true/\ks.length<lim then .nx (σ.set i (.od (putK ks k) (alH ks us k v)))else .bad
def jb(i:Nat)(c b:EF):SF:=λa=>match a[i]? with|some (.od ks us)=>ofR a (c a) λv=>ofR a (b a) λk=>putD i ks us k v a|_=>.bad
noncomputable def akx(i:Nat):LF:=λa=>match a[i]? with|some (.va (.dic ks _))=>.ok ks|_=>.bad
def aaO:List W->Res W|[.str x]=>if x.length<=lim then .ok (.int x.length)else .bad|[.dic ks _]=>.ok (.int ks.length)|ws=>iB ws
def aku(x y:W):Res W:=match x,y with|.str a,.str b=>.ok (.bl !(Builtin.Str.occurrences b a 0 b.length 1).isEmpty)|_,.str _=>.bad|x,y=>oIn x y
noncomputable def signs(x:Str):List W:=x.cps.toList.map λc=>.str ⟨#[c]⟩
def aqV(e:EF):LF:=λa=>(e a).bind λw=>match w with|.str x=>if x.cps.all (.<128)=true then .ok (signs x)else .bad|_=>.bad
end WL
namespace WL
def aeM(tv:EF):EF:=λa=>tv (vg (a.take 3))
def acY(tv:EF):SF:=nE (akx 1) (ax 2) (jb 3 (aeM tv) (aj 2))
noncomputable def apY:Out->Res W
|.nx σ=>match(σ[3]?:Option Sl)with|some (.od ks us)=>.ok (.dic ks us)|_=>.bad
|.ex c _=>.ex c|_=>.bad
noncomputable def clr(σ:Ws):Ws:=σ.map λs=>match s with|.va w=>.va w|_=>.no
def apI(tv:EF)(σ:Ws):Res W:=match(σ[0]?:Option Sl)with|some .ob=>if σ.length=3 then apY (acY tv (clr σ++[.od [] []]))else .bad|_=>.bad
def aqC(b a:SF)(tv:EF):List W->Res W
|[w]=>match aJ b a [.ob,.va w,.no]with|.nx σ=>apI tv σ|.ex c _=>.ex c|_=>.bad
|_=>.bad
end WL
namespace WL
open PySem
def uM(c:String)(f:List W->Res W)(a:AF):EF:=λb=>(a b).bind λws=>(f ws).bind λd=>.ok (.ins c [d])
noncomputable def aqY(c:String):W->Res W|.ins c' [w]=>if c'==c then .ok w else .bad|_=>.bad
def agF(c:String)(e:EF):EF:=λa=>(e a).bind (aqY c)
noncomputable def isI(c:String):W->Bool|.ins c' [_]=>c'==c|_=>false
def iT(c:String)(f:List W->Res W)(o:EF)(a:AF):EF:=λb=>(o b).bind λx=>if isI c x then(a b).bind λws=>f (x::ws)else .bad
def arG(x y:W):Res W:=match y with|.dic ks _=>if aaU x=true then .ok (.bl (aeQ x ks))else .bad|_=>aku x y
def nW(x y:W):Res W:=match y with|.dic ks _=>if aaU x=true then .ok (.bl !aeQ x ks)else .bad|_=>g8 x y
def aq6:List W->Res W|[.dic ks _]=>if ks.length<=lim then .ok (.lst ks)else .bad|ws=>xn ws
noncomputable def aaD(k:W):List W->List W->Option W|k'::ks,v::vs=>if wu k' k then some v else aaD k ks vs|_,_=>none
def aks(x y:W):Res W:=match x with|.dic ks us=>if aaU y=true then ofO (aaD y ks us)else .bad|_=>oIx x y
end WL
namespace WL
open PySem PyProof.Rows PySem.Spec
noncomputable def leS(a b:Str):Bool:=!ltCps b.cps.toList a.cps.toList
def abJ(l:List Str):List Str:=l.mergeSort leS
def ze:List W->Res W
|[.lst ws]=>match strsOf ws with|some ss=>if ss.length<64 then .ok (.lst ((abJ ss).map .str))else .bad|none=>.bad
|_=>.bad
def rp(a b:Str):leS a b=true↔a.cps.toList<=b.cps.toList:=by unfold leS;rw[ltCps_eq];simp[List.not_lt]
def ug(a b c:Str)(e:leS a b=true)(d:leS b c=true):leS a c=true:=by rw[rp]at *;exact List.le_trans e d
def ac5(a b:Str):(leS a b||leS b a)=true:=by rw[avE,rp,rp];exact List.le_total _ _
def agi{a b:Str}(d:leS a b=true)(c:leS b a=true):a=b:=by rw[rp]at *;have:=List.le_antisymm d c;cases a;cases b;congr 1;exact auD.mp this
theorem qV:∀(r:List Str)(x:Str),risingS x r=true->∀y∈r,leS x y=true
|[],_,_,_,a=>nomatch a|z::r,x,h,y,a=>by
 have b:(leS x z&&risingS z r)=true:=h;rw[asj]at b;rcases ar4.mp a with rfl|a;.exact b.1
 .exact ug _ _ _ b.1 (qV r z b.2 y a)
def tF:∀(r:List Str)(x:Str),risingS x r=true->sortedS r=true|[],_,_=>rfl|z::r,x,h=>by have a:(leS x z&&risingS z r)=true:=h;rw[asj]at a;exact a.2
theorem m9:∀(b a:List Str),sortedS b=true->sortedS a=true->b.Perm a->b=a
|[],a,_,_,p=>by simpa using p|x::r1,[],_,_,p=>by simpa using p|x::r1,y::r2,h1,h2,p=>by
  have d:=qV r1 x h1;have c:=qV r2 y h2;have e:x=y:=by
   rcases ar4.mp (p.mem_iff.mp (ash ..):x∈y::r2)with z|z;.exact z
   .rcases ar4.mp (p.mem_iff.mpr (ash ..):y∈x::r1)with w|w;.exact w.symm
    .exact agi (d y w) (c x z)
  subst e;rw[m9 r1 r2 (tF r1 x h1) (tF r2 x h2) (List.Perm.cons_inv p)]
def ic(l:List Str):(abJ l).Perm l:=List.mergeSort_perm l leS
def sQ(l:List Str):sortedS (abJ l)=true:=by refine sortedS_of_pairwise _ ?_;have:=List.pairwise_mergeSort (le:=leS) ug ac5 l;refine this.imp λ{a b}h=>?_;unfold leS at h;simpa using h
def zG{l a:List Str}(p:a.Perm l)(h:sortedS a=true):a=abJ l:=m9 _ _ h (sQ l) (p.trans (ic l).symm)
end WL
namespace WL
open PySem
def zf:List W->Res W|[.dic ks _]=>ze [.lst ks]|ws=>ze ws
def arx:W->Bool|.dic ks us=>uw ks&&uw us|_=>false
def apX(l:LF):Out->Res W|.nx σ=>(l σ).bind λa=>.ok (.lst a)|.ex c _=>.ex c|_=>.bad
def aiX(n:Nat)(t:SF)(l:LF):List W->Res W:=λws=>apX l (t (ws.map .va++List.replicate (n-ws.length) .no))
noncomputable def asL:W->Res (List W)|.lst xs=>.ok xs|_=>.bad
def ac7(e:EF):LF:=λa=>(e a).bind λx=>match x with|.dic _ _=>(zf [x]).bind asL|_=>.bad
noncomputable def af3:W->W->Res W|.int i,.int j=>.ok (.int (i+j))|_,_=>.bad
noncomputable def inner:List W->Option (List W)
|.tup ts::_=>match ts.getLast? with|some (.lst us)=>some us|_=>none
|_=>none
abbrev Fs:=List (W×List W)
inductive KO where|nx(σ:Ws)(fs:Fs)|rt(w:W)|bad
abbrev KF:=Ws->Fs->KO
end WL
namespace WL
end WL
namespace WL
open PySem
def j5(ds:List String):W->Bool|.exc nm _=>ds.any (md nm)|_=>false
def pq(ds:List String)(h:SF)(c:W)(σ:Ws):Out:=if j5 ds c then match h σ with|.ex _ _=>.bad|o=>o else .bad
def zQ(b:SF)(ds:List String)(h:SF):SF:=λa=>match b a with|.ex c σ'=>pq ds h c σ'|o=>o
inductive OX(S:Type)where|nx(σ:Ws)(s:S)|bk(σ:Ws)(s:S)|ct(σ:Ws)(s:S)|rt(w:W)(s:S)|ex(c:W)(σ:Ws)|bad
abbrev RF(S:Type):=Ws->S->OX S
variable{S:Type}
noncomputable def kf(t:SF):RF S:=λa s=>match t a with|.nx σ'=>.nx σ' s|.bk σ'=>.bk σ' s|.ct σ'=>.ct σ' s|.rt w=>.rt w s|.ex c σ'=>.ex c σ'|.bad=>.bad
noncomputable def mB(a b:RF S):RF S:=λc s=>match a c s with|.nx σ' s'=>b σ' s'|o=>o
noncomputable def xNx:RF S:=λa s=>.nx a s
noncomputable def seen(adr:S->Nat)(val:S->W)(j:Nat)(σ:Ws)(s:S):Option Ws:=match σ[j]? with|some (.va (.id b))=>if b=adr s then some (σ.set j (.va (val s)))else none|_=>none
def xT(adr:S->Nat)(val:S->W)(j:Nat)(t:TF)(σ:Ws)(s:S):Res Bool:=match seen adr val j σ s with|some σ'=>t σ'|none=>.bad
noncomputable def ae0(r:Res Bool)(a b:OX S):OX S:=match r with|.ok true=>a|.ok false=>b|_=>.bad
def xIf(t:Ws->S->Res Bool)(a b:RF S):RF S:=λc s=>ae0 (t c s) (a c s) (b c s)
noncomputable def aaY(t:Ws->S->Res Bool)(b:RF S):Nat->Ws->S->OX S|0,_,_=>.bad|n+1,σ,s=>ae0 (t σ s) (match b σ s with|.nx σ' s'=>aaY t b n σ' s'|.ct σ' s'=>aaY t b n σ' s'|.bk σ' s'=>.nx σ' s'|o=>o) (.nx σ s)
noncomputable def iW(k:Nat)(b:RF S):List W->Ws->S->OX S|[],σ,s=>.nx σ s|x::xs,σ,s=>match b (σ.set k (.va x)) s with|.nx σ2 s2=>iW k b xs σ2 s2|.ct σ2 s2=>iW k b xs σ2 s2|.bk σ2 s2=>.nx σ2 s2|o=>o
def ah6(i k:Nat)(b:RF S):RF S:=λa s=>match a[i]? with|some (.va (.dic ks _))=>iW k b ks a s|_=>.bad
def akR(adr:S->Nat)(val:S->W)(j i:Nat)(e:EF):RF S:=λa s=>match seen adr val j a s with
|some σ'=>match e σ' with|.ok w=>if plain w=true then .nx (a.set i (.va w)) s else .bad|_=>.bad
|none=>.bad
noncomputable def runM(n:Nat)(t:RF S):List W->S->OX S:=λws s=>t (ws.map .va++List.replicate (n-ws.length) .no) s
noncomputable def ofM(σ:Ws):OX S->OX S|.nx _ s'=>.nx σ s'|.rt _ s'=>.nx σ s'|.ex c _=>.ex c σ|_=>.bad
def gM(adr:S->Nat)(j:Nat)(d:List W->S->OX S)(a:AF):RF S:=λc s=>match c[j]? with|some (.va (.id b))=>if b=adr s then match a c with|.ok ws=>ofM c (d (.id b::ws) s)|_=>.bad else .bad|_=>.bad
structure Sr where
 a:Nat
 d:Nat
 goal:W
 most:W
 rows:List W
 seen:List (List (List Int))
noncomputable def adn:List W->Option (List Int)|[]=>some []|.int i::ws=>(adn ws).map (i::.)|_=>none
noncomputable def amC:List W->Option (List (List Int))|[]=>some []|.tup ws::r=>(adn ws).bind λx=>(amC r).map (x::.)|_=>none
def kyW:W->Option (List (List Int))|.tup ws=>amC ws|_=>none
def Sr.val(s:Sr):W:=.ins "Search" [s.goal,s.most,.lst s.rows,.id s.d]
def at_(j:Nat)(σ:Ws)(s:Sr)(o:OX Sr):OX Sr:=match(σ[j]?:Option Sl)with|some (.va (.id b))=>if b=s.a then o else .bad|_=>.bad
def xIn(i:Nat)(σ:Ws)(s:Sr):Res Bool:=match(σ[0]?:Option Sl)with|some (.va (.id b))=>if b=s.a then match(σ[i]?:Option Sl)with|some (.va w)=>(match kyW w with|some k=>.ok (decide (k∈s.seen))|none=>.bad)|_=>.bad else .bad|_=>.bad
def zp(i:Nat):RF Sr:=λa s=>at_ 0 a s (match(a[i]?:Option Sl)with|some (.va w)=>(match kyW w with|some k=>if k∉s.seen/\s.seen.length<lim then .nx a {s with seen:=s.seen++[k]}else .bad|none=>.bad)|_=>.bad)
def ah7(e:EF):RF Sr:=λa s=>at_ 0 a s (match e a with|.ok w=>if s.rows.length<lim then .nx a {s with rows:=s.rows++[w]}else .bad|_=>.bad)
noncomputable def am8(c:String)(n:Nat):W->Res W|.ins c' ws=>if c'==c then match ws[n]? with|some w=>.ok w|none=>.bad else .bad|_=>.bad
def kZ(c:String)(n:Nat)(e:EF):EF:=λa=>(e a).bind (am8 c n)
noncomputable def isN(c:String):W->Bool|.ins c' _=>c'==c|_=>false
def iS(c:String)(d:List W->Res W)(o:EF)(a:AF):EF:=λb=>(o b).bind λy=>if isN c y=true then(a b).bind λws=>d (y::ws)else .bad
def aou(j:Nat):RF Sr:=λa s=>at_ j a s (.rt (.lst s.rows) s)
def Comes(t:RF Sr)(σ:Ws)(j:Nat)(wg wm:W)(o:Res W):Prop:=∀a d:Nat,match t (σ.set j (.va (.id a))) ⟨a,d,wg,wm,[],[]⟩with|.rt w _=>o=.ok w|.ex c σ'=>o=.ex c/\σ'.length=σ.length|_=>False
noncomputable def jM(j:Nat)(as:AF)(t:RF Sr):SF:=λa=>match as a with|.ok [wg,wm]=>@dite _ (∃o:Res W,Comes t a j wg wm o) (Classical.propDecidable _) (λh=>match Classical.choose h with|.ok w=>.rt w|.ex c=>.ex c (List.replicate a.length .no)|.bad=>.bad) λ_=>.bad|_=>.bad
noncomputable def aiU(i:Nat)(t:SF):SF:=λa=>match(a[i]?:Option Sl)with|some (.od ks us)=>t (a.set i (.va (.dic ks us)))|_=>.bad
noncomputable def aaa:W->W->Res W|.str x,.int n=>if 2<=n/\n<=100/\0<x.length/\x.length*n.toNat<=5000 then .ok (.str ⟨(List.replicate n.toNat x.cps).foldl (.++.) #[]⟩)else .bad|_,_=>.bad
def kE(i j:Nat)(e:EF):SF:=λa=>match(a[i]?:Option Sl),(a[j]?:Option Sl)with
|some (.ow xs),some (.ow ys)=>match e a with|.ok (.int n)=>if i≠j/\0<=n/\n<ys.length/\ys.length<=lim/\xs.length<lim then match ys[n.toNat]? with|some y=>.nx ((a.set j (.ow (ys.eraseIdx n.toNat))).set i (.ow (xs++[y])))|none=>.bad else .bad|_=>.bad
|_,_=>.bad
def aqD:W->Res W|.lst xs=>if xs.length<=lim then .ok (.lst xs.reverse)else .bad|_=>.bad
def ajU(e:EF):EF:=λa=>(e a).bind aqD
end WL
namespace L2
open PySem PySem.Spec PyProof.Rows
def av.rd{H H'}(e:av H H'){a u}(q:Rd H a u):Rd H' a u:=q.imp (e _ _) λ⟨o,z⟩=>⟨o,e _ _ z⟩
end L2
namespace WS
open PySem PySem.Spec PyProof.Rows L2
open WL(Res Sl Ws EF TF AF LF GF GsF SF Out Fs KO KF OX RF Sr)
abbrev VW:=WL.W
def ExcAt(K:W.Frag)(nm:String)(C:Addr):Prop:=nm∈WL.yZ/\W.nsIn K mainGlobals (Str.ofString nm)=some (some (.ref C))
mutual def RW(K:W.Frag)(H:Hp):VW->V->Prop|.non,v=>v=.non|.bl b,v=>v=.bl b|.int i,v=>v=.int i|.str x,v=>v=.str x|.ty n,v=>v=.ty n|.tup ws,v=>∃a vs,v=.ref a/\SqT K H a vs/\RWs K H ws vs|.lst ws,v=>∃a vs,v=.ref a/\SqL K H a vs/\RWs K H ws vs|.dic ks vs,v=>∃a kvs,v=.ref a/\Rd H a (.dK kvs)/\RWs K H ks (kvs.map λp=>kV p.1)/\RWs K H vs (kvs.map λp=>p.2)|.cls d,v=>∃a,v=.ref a/\ExcAt K d a|.exc nm fs,v=>∃a C dx,v=.ref a/\H a=some (.ext (excAt a C dx))/\ExcAt K nm C/\∃fvs:List (Str×V),fvs.map (·.1)=WL.fieldsOf nm/\RWs K H fs (fvs.map (·.2))/\(fvs=[]/\dx=none\/∃d,dx=some d/\H d=some (.xd fvs))|.ins c fs,v=>∃a C dx,∃fvs:List (Str×V),v=.ref a/\H a=some (.ins C dx fvs)/\W.nsIn K mainGlobals (Str.ofString c)=some (some (.ref C))/\fvs.map (·.1)=WL.l6 c/\fvs≠[]/\RWs K H fs (fvs.map (·.2))|.id a,v=>v=.ref a def RWs(K:W.Frag)(H:Hp):List VW->List V->Prop|[],vs=>vs=[]|w::ws,vs=>∃v r,vs=v::r/\RW K H w v/\RWs K H ws r end
section
variable{K:W.Frag}{H H':Hp}
mutual theorem RW.via(ht:∀a xs,SqT K H a xs->SqT K H' a xs)(hl:∀a xs,SqL K H a xs->SqL K H' a xs)(hd:∀a kvs,Rd H a (.dK kvs)->Rd H' a (.dK kvs))(he:∀a φ,H a=some (.ext φ)->H' a=some (.ext φ))(hx:∀a fs,H a=some (.xd fs)->H' a=some (.xd fs))(hi:∀a C dx fs,fs≠[]->H a=some (.ins C dx fs)->H' a=some (.ins C dx fs)):∀(w:VW)(v:V),RW K H w v->RW K H' w v|.non,_,h=>by simpa only[RW]using h|.bl _,_,h=>by simpa only[RW]using h|.int _,_,h=>by simpa only[RW]using h|.str _,_,h=>by simpa only[RW]using h|.ty _,_,h=>by simpa only[RW]using h|.tup ws,_,h=>by obtain⟨a,vs,e,q,r⟩:=h;exact⟨a,vs,e,ht a vs q,RWs.via ht hl hd he hx hi ws vs r⟩|.lst ws,_,h=>by simp only[RW]at h⊢;obtain⟨a,vs,e,q,r⟩:=h;exact⟨a,vs,e,hl a vs q,RWs.via ht hl hd he hx hi ws vs r⟩|.dic ks vs,_,h=>by simp only[RW]at h⊢;obtain⟨a,kvs,e,q,r1,r2⟩:=h;exact⟨a,kvs,e,hd a kvs q,RWs.via ht hl hd he hx hi ks _ r1,RWs.via ht hl hd he hx hi vs _ r2⟩|.cls _,_,h=>by simpa only[RW]using h|.id _,_,h=>by simpa only[RW]using h|.exc nm fs,_,h=>by simp only[RW]at h⊢;obtain⟨a,C,dx,e,q,c,fvs,f1,f2,f3⟩:=h;exact⟨a,C,dx,e,he _ _ q,c,fvs,f1,RWs.via ht hl hd he hx hi fs _ f2,f3.imp (λz=>z) λ⟨d,z1,z2⟩=>⟨d,z1,hx _ _ z2⟩⟩|.ins c fs,_,h=>by simp only[RW]at h⊢;obtain⟨a,C,dx,fvs,e,q,c1,c2,c3,r⟩:=h;exact⟨a,C,dx,fvs,e,hi _ _ _ _ c3 q,c1,c2,c3,RWs.via ht hl hd he hx hi fs _ r⟩theorem RWs.via(ht:∀a xs,SqT K H a xs->SqT K H' a xs)(hl:∀a xs,SqL K H a xs->SqL K H' a xs)(hd:∀a kvs,Rd H a (.dK kvs)->Rd H' a (.dK kvs))(he:∀a φ,H a=some (.ext φ)->H' a=some (.ext φ))(hx:∀a fs,H a=some (.xd fs)->H' a=some (.xd fs))(hi:∀a C dx fs,fs≠[]->H a=some (.ins C dx fs)->H' a=some (.ins C dx fs)):∀(ws:List VW)(vs:List V),RWs K H ws vs->RWs K H' ws vs|[],_,h=>by simpa only[RWs]using h|w::ws,_,h=>by simp only[RWs]at h⊢;obtain⟨v,r,e,q,t⟩:=h;exact⟨v,r,e,RW.via ht hl hd he hx hi w v q,RWs.via ht hl hd he hx hi ws r t⟩end
def RW.keep(e:av H H'){w v}(h:RW K H w v):RW K H' w v:=RW.via (λ_ _ q=>e.tup q) (λ_ _ q=>e.seq q) (λ_ _ q=>e.rd q) (λ_ _ q=>e _ _ q) (λ_ _ q=>e _ _ q) (λ_ _ _ _ _ q=>e _ _ q) w v h
def RWs.keep(e:av H H'){ws vs}(h:RWs K H ws vs):RWs K H' ws vs:=RWs.via (λ_ _ q=>e.tup q) (λ_ _ q=>e.seq q) (λ_ _ q=>e.rd q) (λ_ _ q=>e _ _ q) (λ_ _ q=>e _ _ q) (λ_ _ _ _ _ q=>e _ _ q) _ _ h
mutual theorem RW.less(ht:∀a xs,SqT K H a xs->SqT K H' a xs):∀(w:VW)(v:V),WL.plain w=true->RW K H w v->RW K H' w v|.non,_,_,h=>by simpa only[RW]using h|.bl _,_,_,h=>by simpa only[RW]using h|.int _,_,_,h=>by simpa only[RW]using h|.str _,_,_,h=>by simpa only[RW]using h|.ty _,_,_,h=>by simpa only[RW]using h|.tup ws,_,p,h=>by obtain⟨a,vs,e,q,r⟩:=h;exact⟨a,vs,e,ht a vs q,RWs.less ht ws vs (by assumption) r⟩|.lst ws,_,p,_=>by cases p|.dic _ _,_,p,_=>by cases p|.cls _,_,_,h=>by simpa only[RW]using h|.id _,_,_,h=>by simpa only[RW]using h|.exc _ _,_,p,_=>by cases p|.ins _ _,_,p,_=>by cases p theorem RWs.less(ht:∀a xs,SqT K H a xs->SqT K H' a xs):∀(ws:List VW)(vs:List V),WL.jP ws=true->RWs K H ws vs->RWs K H' ws vs|[],_,_,h=>by simpa only[RWs]using h|w::ws,_,p,h=>by simp only[RWs]at h⊢;have p:=asF.mp p;obtain⟨v,r,e,q,t⟩:=h;exact⟨v,r,e,RW.less ht w v p.1 q,RWs.less ht ws r p.2 t⟩end
theorem RWs.length:∀{ws vs},RWs K H ws vs->ws.length=vs.length|[],_,h=>by subst h;rfl|w::ws,_,h=>by obtain⟨v,r,rfl,_,t⟩:=h;simp [RWs.length t]
theorem RWs.get:∀{ws:List VW}{vs:List V}{i:Nat}{w:VW},RWs K H ws vs->ws[i]?=some w->∃v,vs[i]?=some v/\RW K H w v|[],_,_,_,_,e=>by simp at e|x::ws,_,0,w,h,e=>by simp only[RWs]at h;obtain⟨v,r,rfl,q,_⟩:=h;simp at e;subst e;exact⟨v,rfl,q⟩|x::ws,_,i+1,w,h,e=>by simp only[RWs]at h;obtain⟨v,r,rfl,_,t⟩:=h;obtain⟨u,b,a⟩:=RWs.get t (by simpa using e);exact⟨u,by simpa using b,a⟩
theorem RWs.app:∀{ws b vs a},RWs K H ws vs->RWs K H b a->RWs K H (ws++b) (vs++a)|[],_,_,_,h,h'=>by subst h;exact h'|w::ws,_,_,_,h,h'=>by obtain⟨v,r,rfl,q,t⟩:=h;exact⟨v,_,rfl,q,RWs.app t h'⟩
def RWs.one{w v}(h:RW K H w v):RWs K H [w] [v]:=by exact⟨v,[],rfl,h,rfl⟩
def RWs.cons{w v ws vs}(h:RW K H w v)(t:RWs K H ws vs):RWs K H (w::ws) (v::vs):=by exact⟨v,vs,rfl,h,t⟩
theorem RWs.drop:∀{ws vs}n,RWs K H ws vs->RWs K H (ws.drop n) (vs.drop n)|_,_,0,h=>by grind|[],_,n+1,h=>by subst h;simp[RWs]|w::ws,_,n+1,h=>by obtain⟨v,r,rfl,_,t⟩:=h;simpa using RWs.drop n t
theorem RWs.take:∀{ws vs}n,RWs K H ws vs->RWs K H (ws.take n) (vs.take n)|_,_,0,h=>rfl|[],_,n+1,h=>by subst h;simp[RWs]|w::ws,_,n+1,h=>by obtain⟨v,r,rfl,q,t⟩:=h;exact⟨v,_,rfl,q,RWs.take n t⟩
theorem RWs.set{w:VW}{v:V}(hw:RW K H w v):∀{ws:List VW}{vs:List V}(n:Nat),RWs K H ws vs->RWs K H (ws.set n w) (vs.set n v)|[],_,n,h=>by simp only[RWs]at h;subst h;simp[RWs]|x::ws,_,0,h=>by simp only[RWs]at h;obtain⟨u,r,rfl,q,t⟩:=h;simp only[asP,RWs];exact⟨v,r,rfl,hw,t⟩|x::ws,_,n+1,h=>by simp only[RWs]at h;obtain⟨u,r,rfl,q,t⟩:=h;simp only[as3,RWs];exact⟨u,_,rfl,q,RWs.set hw n t⟩
theorem RWs.cut{ws vs}(h:RWs K H ws vs)(lo a):RWs K H (WL.cut ws lo a) (akB vs lo a):=by unfold WL.cut akB;rw[<-h.length];exact(h.drop _).take _
def RWs.ints(ns:List Int):RWs K H (ns.map .int) (ns.map V.int):=by induction ns with|nil=>simp[RWs]|cons n ns ih=>exact⟨_,_,rfl,rfl,ih⟩
end
def NF:HO->Prop|.frz _ _=>False|.ins _ _ []=>False|_=>True
structure Bx where
 K:W.Frag
 H0:Hp
 F0:Hp
 xp:VW->Ws->Hp->Prop
 mono:∀c σ F F',av F F'->xp c σ F->xp c σ F'
structure RB(B:Bx)(F H:Hp):Prop where
 sub:av F H
 base:av B.H0 H
 fz0:av B.F0 F
 fr:∀a o,F a=some o->B.F0 a=some o\/B.H0 a=none/\NF o
def IsO:Sl->Prop|.od _ _=>True|.ob=>True|_=>False
structure OD(K:W.Frag)(H0:Hp)(σ:Ws)(σV:L2.St)(F H:Hp):Prop where
 od:∀(i:Nat)(ks us:List VW),σ[i]?=some (.od ks us)->∃a kvs,σV[i]?=some (some (.ref a))/\F a=none/\H0 a=none/\H a=some (.dK kvs)/\RWs K F ks (kvs.map λp=>kV p.1)/\RWs K F us (kvs.map λp=>p.2)ad:∀(i j:Nat)(ks us ks' us':List VW)(a:Addr),i≠j->σ[i]?=some (.od ks us)->σ[j]?=some (.od ks' us')->σV[i]?=some (some (.ref a))->σV[j]?=some (some (.ref a))->False
 ob:∀i:Nat,σ[i]?=some .ob->∃a C dx,σV[i]?=some (some (.ref a))/\F a=some (.ins C dx [])
def OD.via{K A D p σ g l k F F' H H'}(R:OD K D σ l F H)(I:A=K)(f:Nat->Nat)(J:∀i j,f i=f j->i=j\/∀c d,g[i]?≠some (.od c d))(h:∀i y,IsO y->g[i]?=some y->σ[f i]?=some y/\k[i]?=l[f i]?)(s:av F F')(n:∀i(c d:List VW)a b,g[i]?=some (.od c d)->l[f i]?=some (some (.ref a))->H a=some (.dK b)->F a=none->D a=none->F' a=none/\p a=none/\H' a=some (.dK b)):OD A p g k F' H':=by
 subst I;refine⟨λi c d e=>?_,λi j c d o m a x B P O Q=>?_,λi e=>?_⟩;.obtain⟨w,t⟩:=h i (.od c d) trivial e;refine agZ (R.od (f i) c d w) λa b q r X N T G=>?_;refine ag0 (n i c d a b e q N r X) λU S E=>?_;exact ag2 a b (t.trans q) U S E (T.keep s) (G.keep s)
 .obtain⟨u,M⟩:=h i (.od c d) trivial B;obtain⟨v,Y⟩:=h j (.od o m) trivial P;refine R.ad _ (f j) c d o m a (λz=>?_) u v (M.symm.trans O) (Y.symm.trans Q);rcases J i j z with z|z;.exact x z
  .exact z _ _ B
 .obtain⟨w,t⟩:=h i .ob trivial e;refine vh (R.ob (f i) w) λa C Z q r=>?_;exact⟨a,C,Z,t.trans q,s _ _ r⟩
structure RS(B:Bx)(σ:Ws)(σV:L2.St)(F H:Hp):Prop where
 rb:RB B F H
 len:σ.length=σV.length
 va:∀(i:Nat)(w:VW),σ[i]?=some (.va w)->∃v,σV[i]?=some (some v)/\RW B.K F w v
 ow:∀(i:Nat)(ws:List VW),σ[i]?=some (.ow ws)->∃a vs,σV[i]?=some (some (.ref a))/\F a=none/\B.H0 a=none/\H a=some (.lst vs)/\RWs B.K F ws vs
 ap:∀(i j:Nat)(ws ws':List VW)(a:Addr),i≠j->σ[i]?=some (.ow ws)->σ[j]?=some (.ow ws')->σV[i]?=some (some (.ref a))->σV[j]?=some (some (.ref a))->False
 dd:OD B.K B.H0 σ σV F H
def RS.ajV{B σ c F H F' H'}(R:RS B σ c F H)(s:av F F')(n:∀a b,H a=some (.dK b)->F a=none->F' a=none/\H' a=some (.dK b)):OD B.K B.H0 σ c F' H':=R.dd.via rfl _ (λ_ _ z=>.inl z) (λ_ _ _ e=>⟨e,rfl⟩) s λ_ _ _ a b _ _ f d g=>⟨(n a _ f d).1,g,(n a _ f d).2⟩
def RS.ang{B σ c F H F' H'}(R:RS B σ c F H)(i){sl}(m:¬IsO sl)(x)(s:av F F')(n:∀j(f d:List VW)a b,i≠j->σ[j]?=some (.od f d)->c[j]?=some (some (.ref a))->H a=some (.dK b)->F a=none->F' a=none/\H' a=some (.dK b)):OD B.K B.H0 (σ.set i sl) (c.set i x) F' H':=by
 have g:∀{j:Nat}{s':Sl},IsO s'->(σ.set i sl)[j]?=some s'->i≠j:=λ{j s'}u e z=>by
  subst z;have o:i<σ.length:=by have:=(arL.mp e).1;simpa using this
  rw[arT o]at e;exact m (asd e▸u)
 refine R.dd.via rfl id (λ_ _ z=>.inl z) (λj f d e=>?_) s λj f d a b e q l r k=>?_;.have:=g d e;rw[arN this]at e;exact⟨e,by rw[arN this];rfl⟩
 .have h:=g (s':=.od f d) trivial e;rw[arN h]at e;obtain⟨t,p⟩:=n j f d a b h e q l r;exact⟨t,k,p⟩
def set_same{a:L2.St}{i x}(e:a[i]?=some x):a.set i x=a:=by
 apply auq;intro j;by_cases b:i=j;.subst b;rw[arT (arL.mp e).1,e]
 .rw[arN b]
structure Ext(F H F' H':Hp):Prop where
 same:av F F'
 rs:∀B σ σV,RS B σ σV F H->RS B σ σV F' H'
 rb:∀B,RB B F H->RB B F' H'
 own:∀a o,H a=some o->H' a=some o/\(F a=none->F' a=none)
structure Gr(F H F' H':Hp):Prop where
 f:av F F'
 h:av H H'
 nf:∀a o,H a=some o->F a=none->F' a=none
theorem Gr.refl{F H}:Gr F H F H:=⟨av.refl _,av.refl _,λ_ _ _ z=>z⟩
theorem Gr.trans{F H c d g f}(a:Gr F H c d)(b:Gr c d g f):Gr F H g f:=⟨a.f.trans b.f,a.h.trans b.h,λx o e z=>b.nf x o (a.h x o e) (a.nf x o e z)⟩
def Ext.gr{F H F' H'}(e:Ext F H F' H'):Gr F H F' H':=⟨e.same,λa o q=>(e.own a o q).1,λa o q=>(e.own a o q).2⟩
section
variable{B:Bx}{σ:Ws}{σV:L2.St}{F H:Hp}
def Gr.new{p}(c:F p=none)(b:H p=none)(o):Gr F H (upd F p o) (upd H p o):=⟨az c o,az b o,λa u e z=>by rw[ag (aP e b)];exact z⟩
theorem Ext.refl(F H):Ext F H F H:=⟨av.refl _,λ_ _ _ h=>h,λ_ h=>h,λ_ _ h=>⟨h,λz=>z⟩⟩
def RB.new(R:RB B F H){p}(d:H p=none)(o)(f:NF o:=by trivial):RB B (upd F p o) (upd H p o):=by
 refine⟨λb u e=>?_,λb u e=>?_,R.fz0.trans (az (R.sub.free d) o),λa u e=>?_⟩
 .by_cases c:b=p;.subst c;rw[ao]at e⊢;exact e
  .rw[ag c]at e⊢;exact R.sub b u e
 .exact az d o b u (R.base b u e)
 .by_cases c:a=p;.subst c;rw[ao]at e;cases e;exact .inr ⟨R.base.free d,f⟩
  .rw[ag c]at e;exact R.fr a u e
theorem RS.new(R:RS B σ σV F H){p}(b:H p=none)(o)(q:NF o:=by trivial):RS B σ σV (upd F p o) (upd H p o):=by
 have g:=R.rb.sub.free b;refine⟨R.rb.new b o q,R.len,λi w e=>?_,λi ws e=>?_,R.ap,R.ajV (az g o) λa k f n=>⟨by rw[ag (aP f b)];exact n,by rw[ag (aP f b)];exact f⟩⟩;.obtain⟨v,d,c⟩:=R.va i w e;exact⟨v,d,c.keep (az g o)⟩
 .refine ke (R.ow i _ e) λa l d c r j m=>?_;have h:a≠p:=λz=>by grind
  exact zm a l d (by rw[ag h];exact c) r (by rw[ag h];exact j) (m.keep (az g o))
theorem Ext.new{p}(f:F p=none)(d:H p=none)(o)(c:NF o:=by trivial):Ext F H (upd F p o) (upd H p o):=⟨az f o,λ_ _ _ R=>R.new d o c,λ_ R=>R.new d o c,λa u e=>by
 have b:a≠p:=λz=>by grind
 exact⟨by rw[ag b];exact e,λz=>by rw[ag b];exact z⟩⟩
def RS.akv(R:RS B σ σV F H){p}(c:H p=none)(o):RS B σ σV F (upd H p o):=by refine⟨⟨λb u e=>az c o b u (R.rb.sub b u e),λb u e=>az c o b u (R.rb.base b u e),R.rb.fz0,R.rb.fr⟩,R.len,R.va,λi ws e=>?_,R.ap,R.ajV (av.refl _) λa j d m=>⟨m,by rw[ag (aP d c)];exact d⟩⟩;refine ke (R.ow i _ e) λa k g f n h l=>?_;exact⟨a,k,g,f,n,az c o _ _ h,l⟩
def RS.grow(R:RS B σ σV F H){F' H'}(g:Gr F H F' H')(l:RB B F' H'):RS B σ σV F' H':=by
 refine⟨l,R.len,λi w e=>?_,λi ws e=>?_,R.ap,R.ajV g.f λa h d m=>⟨g.nf a _ d m,g.h a _ d⟩⟩;.obtain⟨v,c,b⟩:=R.va i w e;exact⟨v,c,b.keep g.f⟩
 .refine ke (R.ow i _ e) λa j c b n f k=>?_;exact⟨a,j,c,g.nf a _ f b,n,g.h a _ f,k.keep g.f⟩
theorem RS.set(R:RS B σ σV F H){i:Nat}{w:VW}{v:V}(hw:RW B.K F w v):RS B (σ.set i (.va w)) (σV.set i (some v)) F H:=by
 have q:=R.len;refine⟨R.rb,by simp[q],λj u e=>?_,λj ws e=>?_,λj k ws h a g d c l m=>?_,R.ang i (sl:=.va w) (λz=>z) _ (av.refl _) λ_ _ _ _ _ _ _ _ n p=>⟨p,n⟩⟩
 .by_cases f:i=j
  .subst f;have b:i<σ.length:=by have:=(arL.mp e).1;simpa using this
   rw[arT b]at e;cases e;exact⟨v,arT (by omega),hw⟩
  .rw[arN f]at e⊢;exact R.va j u e
 .by_cases f:i=j
  .subst f;have b:i<σ.length:=by have:=(arL.mp e).1;simpa using this
   rw[arT b]at e;cases e
  .rw[arN f]at e⊢;exact R.ow j ws e
 .have r:i≠j:=λz=>by
   subst z;have b:i<σ.length:=by have:=(arL.mp d).1;simpa using this
   rw[arT b]at d;cases d
  have o:i≠k:=λz=>by
   subst z;have b:i<σ.length:=by have:=(arL.mp c).1;simpa using this
   rw[arT b]at c;cases c
  rw[arN r]at d l;rw[arN o]at c m;exact R.ap j k ws h a g d c l m
def RS.arj(R:RS B σ σV F H){i:Nat}{ws:List VW}{vs:List V}{a:Addr}(x:F a=none)(v:B.H0 a=none)(w:H a=some (.lst vs))(hw:RWs B.K F ws vs)(s:∀(j:Nat)(c:List VW),j≠i->σ[j]?=some (.ow c)->σV[j]?≠some (some (.ref a))):RS B (σ.set i (.ow ws)) (σV.set i (some (.ref a))) F H:=by
 have y:=R.len;have g:∀{j:Nat}{c:List VW},(σ.set i (.ow ws))[j]?=some (.ow c)->i=j->c=ws/\(σV.set i (some (V.ref a)))[j]?=some (some (.ref a)):=λ{j c}e z=>by
  subst z;have r:i<σ.length:=by have:=(arL.mp e).1;simpa using this
  rw[arT r]at e;cases e;exact⟨rfl,arT (by omega)⟩
 refine⟨R.rb,by simp[y],λj u e=>?_,λj c e=>?_,λj k c h b l q m p n=>?_,R.ang i (sl:=.ow ws) (λz=>z) _ (av.refl _) λ_ _ _ _ _ _ _ _ t A=>⟨A,t⟩⟩
 .by_cases d:i=j
  .subst d;have r:i<σ.length:=by have:=(arL.mp e).1;simpa using this
   rw[arT r]at e;cases e
  .rw[arN d]at e⊢;exact R.va j u e
 .by_cases d:i=j;.obtain⟨rfl,f⟩:=g e d;exact⟨a,vs,f,x,v,w,hw⟩
  .rw[arN d]at e⊢;exact R.ow j c e
 .by_cases d:i=j;.obtain⟨_,f⟩:=g q d;rw[p]at f;cases f;have o:i≠k:=λz=>l (d.symm.trans z);rw[arN o]at m n;exact s k h (arY o) m n
  .rw[arN d]at q p;by_cases o:i=k;.obtain⟨_,f⟩:=g m o;rw[n]at f;cases f;exact s j c (arY d) q p
   .rw[arN o]at m n;exact R.ap j k c h b l q m p n
def RS.write(R:RS B σ σV F H){i}{ws us:List VW}{vs zs a}(e:σ[i]?=some (.ow ws))(l:σV[i]?=some (some (.ref a)))(t:F a=none)(s:B.H0 a=none)(A:H a=some (.lst vs))(P:RWs B.K F us zs):RS B (σ.set i (.ow us)) σV F (upd H a (.lst zs)):=by
 have r:i<σ.length:=(arL.mp e).1;refine⟨⟨λb u q=>by rw[ag ((λb o q z=>by subst z;rw[t]at q;cases q) b u q)];exact R.rb.sub b u q,λb u q=>by
  have f:b≠a:=λz=>by subst z;rw[s]at q;cases q
  rw[ag f];exact R.rb.base b u q,R.rb.fz0,R.rb.fr⟩,by simp[R.len],λj w q=>?_,λj d q=>?_,λj k d I b m D M K N=>?_,by
 have x:=R.ang (H':=upd H a (.lst zs)) i (sl:=.ow us) (λz=>z) (some (.ref a)) (av.refl _) λ_ _ _ b y _ _ _ h E=>⟨E,by
   have f:b≠a:=λz=>by subst z;rw[A]at h;cases h
   rw[ag f];exact h⟩;rwa[set_same l]at x⟩
 .by_cases c:i=j;.subst c;rw[arT r]at q;cases q
  .rw[arN c]at q;exact R.va j w q
 .by_cases c:i=j;.subst c;rw[arT r]at q;cases q;exact zm a zs l t s ao P
  .rw[arN c]at q;refine ke (R.ow j d q) λb g p v Q J O=>?_;have f:b≠a:=λz=>by subst z;exact R.ap i j ws d b c e q l p
   exact zm b g p v Q (by rw[ag f];exact J) O
 .have back:∀{j:Nat}{d:List VW},(σ.set i (.ow us))[j]?=some (.ow d)->∃g,σ[j]?=some (.ow g):=λ{j d}q=>by
   by_cases c:i=j;.subst c;exact⟨ws,e⟩
   .rw[arN c]at q;exact⟨d,q⟩
  obtain⟨g,C⟩:=back D;obtain⟨n,G⟩:=back M;exact R.ap j k g n b m C G K N
def RS.aqX(R:RS B σ σV F H){i:Nat}{sl:Sl}{a:Addr}{o:HO}{w:VW}(e:σ[i]?=some sl)(A:σV[i]?=some (some (.ref a)))(Z:F a=none)(P:B.H0 a=none)(J:H a=some o)(N:NF o)(hw:RW B.K (upd F a o) w (.ref a))(nO:∀(j:Nat)(ws:List VW),i≠j->σ[j]?=some (.ow ws)->σV[j]?≠some (some (.ref a)))(O:∀(j:Nat)(p t:List VW),i≠j->σ[j]?=some (.od p t)->σV[j]?≠some (some (.ref a))):RS B (σ.set i (.va w)) σV (upd F a o) H:=by
 have h:i<σ.length:=(arL.mp e).1;have s:av F (upd F a o):=az Z _;refine⟨⟨λb u q=>?_,R.rb.base,R.rb.fz0.trans s,λb u q=>?_⟩,by simp[R.len],λj K q=>?_,λj f q=>?_,λj k f x b y l m T Y=>?_,by
 have C:=R.ang i (sl:=.va w) (λz=>z) (some (.ref a)) s λj p t b G c E X D M=>⟨by
  have n:b≠a:=λz=>by subst z;exact O j p t c E X
  rw[ag n];exact M,D⟩;rwa[set_same A]at C⟩
 .by_cases d:b=a;.subst d;rw[ao]at q;cases q;exact J
  .rw[ag d]at q;exact R.rb.sub b u q
 .by_cases d:b=a;.subst d;rw[ao]at q;cases q;exact .inr ⟨P,N⟩
  .rw[ag d]at q;exact R.rb.fr b u q
 .by_cases c:i=j;.subst c;rw[arT h]at q;cases q;exact⟨.ref a,A,hw⟩
  .rw[arN c]at q;obtain⟨v,g,r⟩:=R.va j K q;exact⟨v,g,r.keep s⟩
 .by_cases c:i=j;.subst c;rw[arT h]at q;cases q
  .rw[arN c]at q;obtain⟨b,S,g,r,Q,I,g5⟩:=R.ow j f q;have n:b≠a:=λz=>by subst z;exact nO j f c q g
   exact⟨b,S,g,by rw[ag n];exact r,Q,I,g5.keep s⟩
 .have n1:i≠j:=λz=>by subst z;rw[arT h]at l;cases l
  have U:i≠k:=λz=>by subst z;rw[arT h]at m;cases m
  rw[arN n1]at l;rw[arN U]at m;exact R.ap j k f x b y l m T Y
def Ow1:HO->Prop|.lst _=>True|.dK _=>True|_=>False
theorem RS.frz(R:RS B σ σV F H)(i):∃s,av F s/\RS B (WL.frz i σ) σV s H/\(s=F/\WL.frz i σ=σ\/∃a o w,s=upd F a o/\Ow1 o/\F a=none/\WL.frz i σ=σ.set i (.va w)/\σV[i]?=some (some (.ref a))/\H a=some o/\B.H0 a=none):=by cases e:σ[i]? with
|none=>
 have c:WL.frz i σ=σ:=by unfold WL.frz;rw[e]
 rw[c];exact⟨F,av.refl _,R,.inl ⟨rfl,rfl⟩⟩
|some sl=>cases sl with|no=>
  have c:WL.frz i σ=σ:=by unfold WL.frz;rw[e]
  rw[c];exact⟨F,av.refl _,R,.inl ⟨rfl,rfl⟩⟩|va w=>
  have c:WL.frz i σ=σ:=by unfold WL.frz;rw[e]
  rw[c];exact⟨F,av.refl _,R,.inl ⟨rfl,rfl⟩⟩|ob=>
  have c:WL.frz i σ=σ:=by unfold WL.frz;rw[e]
  rw[c];exact⟨F,av.refl _,R,.inl ⟨rfl,rfl⟩⟩|ow ws=>
  have c:WL.frz i σ=σ.set i (.va (.lst ws)):=by unfold WL.frz;rw[e]
  rw[c];obtain⟨a,x,f,d,n,g,y⟩:=R.ow i ws e;refine⟨upd F a (.lst x),az d _,R.aqX e f d n g trivial (by simp only[RW];exact⟨a,x,rfl,SqL.of ao,y.keep (az d _)⟩) (λj v r q z=>R.ap i j ws v a r e q f z) λj p h r q z=>?_,.inr ⟨a,_,_,rfl,trivial,d,rfl,f,g,n⟩⟩;obtain⟨b,k,m,_,_,l,_⟩:=R.dd.od j p h q;rw[z]at m;cases m;rw[g]at l;cases l|od p h=>
  have c:WL.frz i σ=σ.set i (.va (.dic p h)):=by unfold WL.frz;rw[e]
  rw[c];obtain⟨a,k,f,d,n,g,y,A⟩:=R.dd.od i p h e;refine⟨_,az d _,R.aqX e f d n g trivial (by simp only[RW];exact⟨a,k,rfl,.inl ao,y.keep (az d _),A.keep (az d _)⟩) (λj v r q z=>?_) λj u t r q z=>R.dd.ad i j p h u t a r e q f z,.inr ⟨a,_,_,rfl,trivial,d,rfl,f,g,n⟩⟩;obtain⟨b,x,m,_,_,l,_⟩:=R.ow j v q;rw[z]at m;cases m;rw[g]at l;cases l
def RS.aqz(R:RS B σ σV F H){i:Nat}{ks us:List VW}{kvs:List (Key×V)}{a:Addr}(E:F a=none)(C:B.H0 a=none)(y:H a=some (.dK kvs))(M:RWs B.K F ks (kvs.map λp=>kV p.1))(J:RWs B.K F us (kvs.map λp=>p.2))(w:∀(j:Nat)(o n:List VW),j≠i->σ[j]?=some (.od o n)->σV[j]?≠some (some (.ref a))):RS B (σ.set i (.od ks us)) (σV.set i (some (.ref a))) F H:=by
 have G:=R.len;have c:∀{j:Nat}{v:Sl},(σ.set i (.od ks us))[j]?=some v->i=j->v=.od ks us/\(σV.set i (some (V.ref a)))[j]?=some (some (.ref a)):=λ{j v}e z=>by
  subst z;have A:i<σ.length:=by have:=(arL.mp e).1;simpa using this
  rw[arT A]at e;exact⟨(asd e).symm,arT (by omega)⟩
 refine⟨R.rb,by simp[G],λj u e=>?_,λj s e=>?_,λj k s t b l h g q m=>?_,λj o n e=>?_,λj k K us1 x us2 b l h g q m=>?_,λj e=>?_⟩
 .by_cases d:i=j;.cases(c e d).1
  .rw[arN d]at e⊢;exact R.va j u e
 .by_cases d:i=j;.cases(c e d).1
  .rw[arN d]at e⊢;exact R.ow j s e
 .have I:i≠j:=λz=>by cases(c h z).1
  have D:i≠k:=λz=>by cases(c g z).1
  rw[arN I]at h q;rw[arN D]at g m;exact R.ap j k s t b l h g q m
 .by_cases d:i=j;.obtain⟨h,g⟩:=c e d;cases h;exact⟨a,kvs,g,E,C,y,M,J⟩
  .rw[arN d]at e⊢;exact R.dd.od j o n e
 .by_cases d:i=j;.have r:=(c h d).2;rw[q]at r;cases r;have f:i≠k:=λz=>l (d.symm.trans z);rw[arN f]at g m;exact w k _ _ (arY f) g m
  .rw[arN d]at h q;by_cases f:i=k;.have r:=(c g f).2;rw[m]at r;cases r;exact w j _ _ (arY d) h q
   .rw[arN f]at g m;exact R.dd.ad j k _ _ _ _ b l h g q m
 .have d:i≠j:=λz=>by cases(c e z).1
  rw[arN d]at e⊢;exact R.dd.ob j e
def RS.ag7(R:RS B σ σV F H){i:Nat}{ks us f us2:List VW}{kvs c:List (Key×V)}{a:Addr}(e:σ[i]?=some (.od ks us))(M:σV[i]?=some (some (.ref a)))(O:F a=none)(N:B.H0 a=none)(P:H a=some (.dK kvs))(hk:RWs B.K F f (c.map λp=>kV p.1))(Z:RWs B.K F us2 (c.map λp=>p.2)):RS B (σ.set i (.od f us2)) σV F (upd H a (.dK c)):=by
 have h:i<σ.length:=(arL.mp e).1;have U:∀b o,F b=some o->b≠a:=λb o q z=>by subst z;rw[O]at q;cases q
 refine⟨⟨λb u q=>by rw[ag (U b u q)];exact R.rb.sub b u q,λb u q=>by
 have n:b≠a:=λz=>by subst z;rw[N]at q;cases q
 rw[ag n];exact R.rb.base b u q,R.rb.fz0,R.rb.fr⟩,by simp[R.len],λj w q=>?_,λj A q=>?_,λj k A D b g l m G I=>?_,λj C t q=>?_,λj k a0 us1 a1 us3 b g l m G I=>?_,λj q=>?_⟩
 .by_cases d:i=j;.subst d;rw[arT h]at q;cases q
  .rw[arN d]at q;exact R.va j w q
 .by_cases d:i=j;.subst d;rw[arT h]at q;cases q
  .rw[arN d]at q;obtain⟨b,E,s,v,K,r,J⟩:=R.ow j A q;have n:b≠a:=λz=>by subst z;rw[P]at r;cases r
   exact⟨b,E,s,v,K,by rw[ag n];exact r,J⟩
 .have Y:i≠j:=λz=>by subst z;rw[arT h]at l;cases l
  have X:i≠k:=λz=>by subst z;rw[arT h]at m;cases m
  rw[arN Y]at l;rw[arN X]at m;exact R.ap j k A D b g l m G I
 .by_cases d:i=j;.subst d;rw[arT h]at q;cases q;exact⟨a,c,M,O,N,ao,hk,Z⟩
  .rw[arN d]at q;obtain⟨b,E,s,v,K,r,J⟩:=R.dd.od j C t q;have n:b≠a:=λz=>by subst z;exact R.dd.ad i j _ _ _ _ b d e q M s
   exact⟨b,E,s,v,K,by rw[ag n];exact r,J⟩
 .have back:∀{j:Nat}{x y:List VW},(σ.set i (.od f us2))[j]?=some (.od x y)->∃x' S,σ[j]?=some (.od x' S):=λ{j x y}q=>by
   by_cases d:i=j;.subst d;exact⟨_,_,e⟩
   .rw[arN d]at q;exact⟨_,_,q⟩
  obtain⟨_,_,Q⟩:=back l;obtain⟨_,_,T⟩:=back m;exact R.dd.ad j k _ _ _ _ b g Q T G I
 .have d:i≠j:=λz=>by subst z;rw[arT h]at q;cases q
  rw[arN d]at q;exact R.dd.ob j q
end
end WS
set_option autoImplicit true
set_option relaxedAutoImplicit true
namespace WS
open PySem PySem.Spec PyProof.Rows L2
open WL(Res Sl Ws EF TF AF LF GF GsF SF Out Fs KO KF OX RF Sr)
section
variable{X:Cx}{e:Expr}{es:List Expr}{st:Stmt}{sts:List Stmt}
def PE.imp{t t'}(h:PE X e t)(f:∀a H Q,t' a H Q->t a H Q):PE X e t':=λb s a H Q I q=>h _ s a H Q I (f a H Q q)
def PT.imp{t t'}(h:PT X e t)(f:∀a H Q,t' a H Q->t a H Q):PT X e t':=λb s a H Q I q=>h _ s a H Q I (f a H Q q)
def PW.imp{t t'}(h:PW X e t)(f:∀a H Q,t' a H Q->t a H Q):PW X e t':=λc b s a H Q I q=>h _ _ s a H Q I (f a H Q q)
def PA.imp{t t'}(h:PA X es t)(f:∀a H Q,t' a H Q->t a H Q):PA X es t':=λc b s a H Q I q=>h _ _ s a H Q I (f a H Q q)
def PS.imp{t t'}(h:PS X st t)(f:∀D a H,t' D a H->t D a H):PS X st t':=λb s a H D I q=>h _ s a H D I (f D a H q)
def PSs.imp{t t'}(h:PSs X sts t)(f:∀D a H,t' D a H->t D a H):PSs X sts t':=λb s a H D I q=>h _ s a H D I (f D a H q)
def PG.imp{t t'}(h:PG X e t)(f:∀v a H Q,t' v a H Q->t v a H Q):PG X e t':=λb s a H v u Q I r q=>h _ s a H v u Q I r (f v a H Q q)
def PGs.imp{t t'}(h:PGs X es t)(f:∀v a H Q,t' v a H Q->t v a H Q):PGs X es t':=λb s a H v u Q I r q=>h _ s a H v u Q I r (f v a H Q q)
def PI.imp{c t t'}(h:PI X c e t)(f:∀a H Q,t' a H Q->t a H Q):PI X c e t':=λb s a H Q I q=>h _ s a H Q I (f a H Q q)
def PO.imp{o t t'}(h:PO X o t)(f:∀a H Q,t' a H Q->t a H Q):PO X o t':=λb s a H Q I q=>h _ s a H Q I (f a H Q q)
end
def Rq(B:Bx)(σ:Ws)(F:Hp){b}(r:Res b)(k:b->Prop):Prop:=match r with|.ok a=>k a|.ex c=>B.xp c σ F|.bad=>False
theorem Rq.mono{B σ F F' b r}{k k':b->Prop}(s:av F F')(h:Rq B σ F r k)(f:∀a,k a->k' a):Rq B σ F' r k':=by cases r with|ok a=>exact f a h|ex c=>exact B.mono c σ F _ s h|bad=>exact h
theorem Rq.bind{B σ F d b r}{g:d->Res b}{k}(h:Rq B σ F (r.bind g) k):Rq B σ F r λa=>Rq B σ F (g a) k:=by cases r with|ok a|ex c|bad=>exact h
def lo(B:Bx)(t:EF):TE:=λa H Q=>∃b F,RS B b a F H/\Rq B b F (t b) λw=>∀v d c,RS B b a c d->Gr F H c d->RW B.K c w v->Q v d
def loT(B:Bx)(t:TF):TT:=λa H Q=>∃c F,RS B c a F H/\Rq B c F (t c) λb=>∀d e,RS B c a e d->Gr F H e d->Q b d
def loA(B:Bx)(t:AF):TA:=λa H Q=>∃b F,RS B b a F H/\Rq B b F (t b) λws=>∀e d c,RS B b a c d->Gr F H c d->RWs B.K c ws e->Q e d
def loO(B:Bx)(t:Ws->Res (Option Int)):TO:=λa H Q=>∃b F,RS B b a F H/\Rq B b F (t b) λo=>∀c d,RS B b a d c->Gr F H d c->Q o c
def loL(B:Bx)(t:LF):TE:=λb H Q=>∃c F,RS B c b F H/\Rq B c F (t c) λws=>∀a f e d,RS B c b d e->Gr F H d e->d a=none->B.H0 a=none->e a=some (.lst f)->RWs B.K d ws f->(∀(j:Nat)(g:List VW),c[j]?=some (.ow g)->b[j]?≠some (some (.ref a)))->Q (.ref a) e
structure Gm(m:Bool)(F H F' H':Hp):Prop where
 f:av F F'
 nf:∀a o,H a=some o->F a=none->F' a=none
 th:∀a o,H a=some o->∃o',H' a=some o'
 h:m=true->av H H'
theorem Gm.refl{m F H}:Gm m F H F H:=⟨av.refl _,λ_ _ _ z=>z,λ_ o e=>⟨o,e⟩,λ_=>av.refl _⟩
theorem Gm.trans{m F H d f i g}(a:Gm m F H d f)(b:Gm m d f i g):Gm m F H i g:=⟨a.f.trans b.f,λx o e z=>by obtain⟨j,c⟩:=a.th x o e;exact b.nf x _ c (a.nf x o e z),λx o e=>by obtain⟨j,c⟩:=a.th x o e;exact b.th x _ c,λh=>(a.h h).trans (b.h h)⟩
def loG(m:Bool)(B:Bx)(g:GF):TG:=λv e H Q=>∃c F w,RS B c e F H/\RW B.K F w v/\Rq B c F (g w c) λb=>∀a d f,RS B b a f d->Gm m F H f d->Q a d
def aoa(m:Bool)(B:Bx)(g:GsF):TGs:=λh e H Q=>∃c F ws,RS B c e F H/\RWs B.K F ws h/\Rq B c F (g ws c) λb=>∀a d f,RS B b a f d->Gm m F H f d->Q a d
def Oq(B:Bx)(D:Ends)(F:Hp)(o:Out):Prop:=match o with|.nx σ'=>∀a d b,RS B σ' a b d->av F b->D.nx a d|.bk σ'=>∀a d b,RS B σ' a b d->av F b->D.bk a d|.ct σ'=>∀a d b,RS B σ' a b d->av F b->D.ct a d|.rt w=>∀v d b,RB B b d->av F b->RW B.K b w v->D.rt v d|.ex c σ'=>B.xp c σ' F|.bad=>False
def loS(B:Bx)(t:SF):TS:=λD a H=>∃b F,RS B b a F H/\Oq B D F (t b)
theorem Oq.mono{B D F F' o}(s:av F F')(h:Oq B D F o):Oq B D F' o:=by cases o with|nx σ|bk σ|ct σ|rt w=>exact λa H G R z=>h _ H G R (s.trans z)|ex c σ=>exact B.mono c σ F _ s h|bad=>exact h
theorem Oq.ofR    (h:Oq B D F (WL.ofR σ r f)):Rq B σ F r λa=>Oq B D F (f a):=by cases r with|ok a|ex c|bad=>exact h
def Eq1(F H:Hp)(K:W.Frag)(r:Res VW)(Q:VK):Prop:=match r with|.ok w=>∀v a b,Ext F H a b->RW K a w v->Q v b|_=>False
def lo2(K:W.Frag)(r:VW->VW->Res VW):R2:=λx y H Q=>∃F wx a,av F H/\RW K F wx x/\RW K F a y/\Eq1 F H K (r wx a) Q
def lo1(K:W.Frag)(r:VW->Res VW):V->Hp->VK->Prop:=λx H Q=>∃F wx,av F H/\RW K F wx x/\Eq1 F H K (r wx) Q
def loN(K:W.Frag)(r:List VW->Res VW):List V->Hp->VK->Prop:=λa H Q=>∃F ws,av F H/\RWs K F ws a/\Eq1 F H K (r ws) Q
def Calm(r:VW->VW->Res VW):Prop:=∀x y c,r x y≠.ex c
def OpR.imp{X f r b}(h:OpR X f r)(g:∀x y H Q,b x y H Q->r x y H Q):OpR X f b:=λa s d H x y v u Q I c e q=>h _ s d H x y v u Q I c e (g x y H Q q)
def UnR.imp{X f r a}(h:UnR X f r)(g:∀x H Q,a x H Q->r x H Q):UnR X f a:=λb s c H x v Q I d q=>h _ s c H x v Q I d (g x H Q q)
def bG.imp{X f r b}(h:bG X f r)(g:∀a H Q,b a H Q->r a H Q):bG X f b:=λc s d H a i Q I e q=>h _ s d H _ _ Q I e (g _ H Q q)
def IxR.imp{X r d}(h:IxR X r)(g:∀x y H Q,d x y H Q->r x y H Q):IxR X d:=λb a c s i H x y v u Q I e j q f=>h _ _ _ s i H x y v u Q I e j (g x y H Q q) f
def SlR.imp{X r e}(h:SlR X r)(g:∀x a b H Q,e x a b H Q->r x a b H Q):SlR X e:=λd s i H x v j k lo l m Q I f a b c q=>h _ s i H x v _ _ _ _ _ Q I f a b c (g x _ _ H Q q)
section
variable{X:Cx}{B:Bx}{e a b c:Expr}{es:List Expr}{pos:Pos}{ta tb tc:EF}{K:W.Frag}
set_option tactic.hygienic true
def akX{i}(h:PE X e (fE i)):PE X e (lo B (WL.aj i)):=PE.imp h λg H Q d=>by
 refine dc d λj F R q=>?_;simp [WL.aj]at q;split at q;.rename_i w e;obtain⟨v,f,r⟩:=R.va i w e;exact⟨v,f,q v H F R Gr.refl r⟩
 .exact q.elim
set_option tactic.hygienic false
def akj (h:PE X e (tC v))(r:∀F,RW B.K F w v):PE X e (lo B (WL.eC w)):=PE.imp h λf H Q d=>by obtain⟨g,F,R,q⟩:=d;exact q v H F R Gr.refl (r F)
def aq{i j pos}:PE X (.Constant (.int i) j pos) (lo B (WL.eC (.int i))):=akj aht λ_=>rfl
def vr{i j pos}:PE X (.Constant (.bool i) j pos) (lo B (WL.eC (.bl i))):=akj alX λ_=>rfl
def cw{j pos}:PE X (.Constant .none j pos) (lo B (WL.eC .non)):=akj alV λ_=>rfl
def aF{x j pos}:PE X (.Constant (.str x) j pos) (lo B (WL.eC (.str x))):=akj nI λ_=>rfl
def age (cm:Calm r)(f:∀x y H Q,lo2 B.K r x y H Q->rV x y H Q):∀d H Q,lo B (WL.eOp r ta tb) d H Q->tOp rV (lo B ta) (lo B tb) d H Q:=by intro d H Q⟨h,F,R,q⟩;have q:=Rq.bind q;refine dP h F R (Rq.mono (av.refl _) q λx s D t k p i m=>dP h k p (Rq.mono i.f (Rq.bind s) λy g C z l R2 j o=>f _ _ _ _ (oU l x y R2.rb.sub (m.keep j.f) o ?_)));cases e:r x y with|ok w=>rw[e]at g;exact λv u A E n=>g v _ _ (E.rs B h _ R2) ((i.trans j).trans E.gr) n|ex c=>exact(cm x y c e).elim|bad=>rw[e]at g;exact g
def aM (cm:Calm r)(h:OpR X (binaryOp op) (lo2 B.K r))(d:PE X a (lo B ta))(f:PE X b (lo B tb)):PE X (.BinOp a op b pos) (lo B (WL.eOp r ta tb)):=PE.imp (ao9 h d f) (age cm λ_ _ _ _ q=>q)
def cN (cm:Calm r)(h:OpR X (compareOp op) (lo2 B.K r))(d:PE X a (lo B ta))(f:PE X b (lo B tb))(g:behindInMarks op b=false):PE X (.Compare a [op] [b] pos) (lo B (WL.eOp r ta tb)):=PE.imp (aja h d f g) (age cm λ_ _ _ _ q=>q)
def akY (cm:Calm r)(h:IxR X (lo2 B.K r))(d:PE X a (lo B ta))(f:PE X b (lo B tb))(g:lr b):PE X (.Subscript a b pos) (lo B (WL.eOp r ta tb)):=PE.imp (alW h d f g) (age cm λ_ _ _ _ q=>q)
def si (cm:∀x c,r x≠.ex c)(h:UnR X (unaryOp op) (lo1 B.K r))(o:PE X a (lo B ta)):PE X (.UnaryOp op a pos) (lo B (WL.eUn r ta)):=PE.imp (ao7 h o) λk H Q f=>by refine dc f λg F R q=>?_;have q:=Rq.bind q;refine⟨g,F,R,Rq.mono (av.refl _) q λx d u p j i l m=>⟨j,x,i.rb.sub,m,?_⟩⟩;cases e:r x with|ok w=>rw[e]at d;exact λv s t E n=>d v _ _ (E.rs B g _ i) (l.trans E.gr) n|ex c=>exact(cm x c e).elim|bad=>rw[e]at d;exact d
def wj:∀d H Q,loT B (WL.tB t) d H Q->afv (lo B t) d H Q:=by
 intro d H Q⟨g,F,R,q⟩;have q:=Rq.bind q;refine dP g F R (Rq.mono (av.refl _) q λx f m l k j h i=>?_);cases x<;>first|exact f.elim|skip
 exact⟨_,i,f _ _ j h⟩
def bg (cm:Calm r)(h:OpR X (compareOp op) (lo2 B.K r))(g:PE X a (lo B ta))(d:PE X b (lo B tb))(f:behindInMarks op b=false):PT X (.Compare a [op] [b] pos) (loT B (WL.tB (WL.eOp r ta tb))):=PT.imp (acd h g d f) λi H Q q=>age cm (λ_ _ _ _ q=>q) _ H _ (wj _ H Q q)
def fG (h:PE X e (lo B t))(f:∀d,isTrue e X.env d=(do let v <-d;standAt e.pos;holding [v] (truthy v)):=by intro _;rfl):PT X e (loT B (WL.tB t)):=PT.imp (alI h f) wj
def yF (cm:Calm r)(n:Calm r'):∀d H Q,lo B (WL.lS r r' ta tb tc) d H Q->abA (lo2 B.K r) (lo2 B.K r') (lo B ta) (lo B tb) (lo B tc) d H Q:=by intro d H Q⟨f,F,R,q⟩;have q:=Rq.bind q;refine dP f F R (Rq.mono (av.refl _) q λx p Z H1 E T j J=>?_);have p:=Rq.bind p;refine dP f E T (Rq.mono j.f p λy m v2 H2 M R2 l D=>?_);refine oU M x y R2.rb.sub (J.keep l.f) D ?_;unfold Eq1;cases e:r x y with|ex c=>exact(cm x y c e).elim|bad=>rw[e]at m;exact m|ok z=>rw[e]at m;intro v3 s P g O;have h:=m;cases z with
 |bl k=>refine⟨k,O,?_⟩;cases k with|false=>exact h (.bl false) P s (g.rs B f d R2) ((j.trans l).trans g.gr) (by simp[RW])|true=>have h:=Rq.bind (show Rq B f F ((tc f).bind λw=>r' y w) _ from h);refine dP f s (g.rs B f d R2) (Rq.mono ((j.trans l).trans g.gr).f h λw i v4 Y S C t I=>?_);refine oU S y w C.rb.sub ((D.keep g.same).keep t.f) I ?_;unfold Eq1;cases o:r' y w with|ex c=>exact(n y w c o).elim|bad=>rw[o]at i;exact i|ok u=>rw[o]at i;exact λv U N A G=>i v N U (A.rs B f d C) ((((j.trans l).trans g.gr).trans t).trans A.gr) G
 |_=>exact h.elim
def xI (cm:Calm r)(d:Calm r')(g:OpR X (compareOp op) (lo2 B.K r))(f:OpR X (compareOp op') (lo2 B.K r'))(k:PE X a (lo B ta))(i:PE X b (lo B tb))(h:PE X c (lo B tc))(j:lastMarks [op,op'] [b,c]=false:=by with_unfolding_all rfl):PE X (.Compare a [op,op'] [b,c] pos) (lo B (WL.lS r r' ta tb tc)):=PE.imp (afS g f k i h j) (yF cm d)
def ae1 (cm:Calm r)(d:Calm r')(g:OpR X (compareOp op) (lo2 B.K r))(f:OpR X (compareOp op') (lo2 B.K r'))(k:PE X a (lo B ta))(i:PE X b (lo B tb))(h:PE X c (lo B tc))(j:lastMarks [op,op'] [b,c]=false:=by with_unfolding_all rfl):PT X (.Compare a [op,op'] [b,c] pos) (loT B (WL.tB (WL.lS r r' ta tb tc))):=PT.imp (afJ g f k i h j) λl H Q q=>yF cm d _ H _ (wj _ H Q q)
variable{uA uB:TF}{rest:List Expr}
def kg(d:PT X a (loT B uA)):PW X (.BoolOp .And [a] pos) (loT B uA):=ai2 d
def mC(d:PT X a (loT B uA)):PW X (.BoolOp .Or [a] pos) (loT B uA):=alF d
def mD(o:PT X a (loT B uA))(m:PW X (.BoolOp .And (b::rest) pos) (loT B uB)):PW X (.BoolOp .And (a::b::rest) pos) (loT B (WL.aaT uA uB)):=PW.imp (alG o m) λl H Q d=>by refine dc d λg F R q=>?_;have q:=Rq.bind q;refine⟨g,F,R,Rq.mono (av.refl _) q λx i p j h f=>?_⟩;cases x with|true=>exact⟨g,j,h,Rq.mono f.f i λb k r s R2 n=>k _ _ R2 (f.trans n)⟩|false=>exact i _ _ h f
def sd(o:PT X a (loT B uA))(m:PW X (.BoolOp .Or (b::rest) pos) (loT B uB)):PW X (.BoolOp .Or (a::b::rest) pos) (loT B (WL.tOr uA uB)):=PW.imp (ao4 o m) λl H Q d=>by refine dc d λg F R q=>?_;have q:=Rq.bind q;refine⟨g,F,R,Rq.mono (av.refl _) q λx i p j h f=>?_⟩;cases x with|false=>exact⟨g,j,h,Rq.mono f.f i λb k r s R2 n=>k _ _ R2 (f.trans n)⟩|true=>exact i _ _ h f
def iI(g:PT X a (loT B uA)):PT X (.UnaryOp .Not a pos) (loT B (WL.xS uA)):=PT.imp (alJ g) λi H Q d=>by obtain⟨f,F,R,q⟩:=d;have q:=Rq.bind q;exact⟨f,F,R,Rq.mono (av.refl _) q λx h=>h⟩
def pK{op}(h:PE X a (lo B ta)):PE X (.BoolOp op [a] pos) (lo B ta):=alT h
def mH(s:PE X a (lo B ta))(o:PE X (.BoolOp .And (b::rest) pos) (lo B tb)):PE X (.BoolOp .And (a::b::rest) pos) (lo B (WL.aeP ta tb)):=PE.imp (alY s o) λm H Q d=>by refine dc d λh F R q=>?_;have q:=Rq.bind q;refine dP h F R (Rq.mono (av.refl _) q λx g v t j i f n=>?_);cases x with
|bl k=>refine⟨k,n,?_⟩;cases k with|true=>exact dP h j i (Rq.mono f.f g λb l y u w R2 p r=>l _ _ _ R2 (f.trans p) r)|false=>exact g _ _ _ i f (rfl)
|_=>exact g.elim
def aha(l:PE X a (lo B ta)):PE X (.UnaryOp .Not a pos) (lo B (WL.anc ta)):=PE.imp (alU l) λg H Q d=>by refine dc d λh F R q=>?_;have q:=Rq.bind q;refine⟨h,F,R,Rq.mono (av.refl _) q λx f v o n m i j=>?_⟩;cases x with|bl k=>exact⟨k,j,f _ _ _ m i (rfl)⟩|_=>exact f.elim
def aim(h:PT X c (loT B uA))(o:PE X a (lo B ta))(l:PE X b (lo B tb)):PE X (.IfExp c a b pos) (lo B (WL.eIf uA ta tb)):=PE.imp (afQ h o l) λk H Q d=>by refine dc d λf F R q=>?_;have q:=Rq.bind q;refine dP f F R (Rq.mono (av.refl _) q λx r s i p g=>?_);cases x with|true|false=>exact⟨f,i,p,Rq.mono g.f r λb j v t u R2 m n=>j _ _ _ R2 (g.trans m) n⟩
variable{tas:AF}
def ai:PA X [] (loA B WL.au):=PA.imp eW λf H Q d=>by obtain⟨g,F,R,q⟩:=d;exact q _ H F R Gr.refl (rfl)
def ajx:∀d H Q,loA B (WL.ae ta tas) d H Q->m6 (lo B ta) (loA B tas) d H Q:=λd H Q g=>by refine dc g λi F R q=>?_;have q:=Rq.bind q;refine dP i F R (Rq.mono (av.refl _) q λx h v p l o j m=>?_);have h:=Rq.bind h;exact dP i l o (Rq.mono j.f h λs f u r t R2 k n=>f _ _ _ R2 (j.trans k) (.cons (m.keep k.f) n))
def aa(d:PE X e (lo B ta))(f:PA X es (loA B tas))(g:SE X e es:=by rfl):PA X (e::es) (loA B (WL.ae ta tas)):=PA.imp (bV d f g) ajx
def dM:WL.lim<=sizeLine:=by decide
def bY{s}(h:PA X es (loA B tas)):PE X (.Tuple es s pos) (lo B (WL.lR tas)):=PE.imp (alS h) λm H Q g=>by
 refine dc g λo F R q=>?_;have q:=Rq.bind q;refine⟨o,F,R,Rq.mono (av.refl _) q λl f n u t j r k=>?_⟩;by_cases i:l.length<=WL.lim;.rw[arM i]at f;exact⟨by rw[<-k.length];exact arU i dM,λp d=>f _ _ _ (j.new d _) (r.trans (Gr.new (j.rb.sub.free d) d _)) (by exact fD p n rfl (SqT.of ao) (k.keep (az (j.rb.sub.free d) _)))⟩
 .rw[arO i]at f;exact f.elim
def amv:∀d H Q,lo B (WL.px tas) d H Q->aoI (loA B tas) d H Q:=λd H Q h=>by
 refine dc h λn F R q=>?_;have q:=Rq.bind q;refine⟨n,F,R,Rq.mono (av.refl _) q λl f m s r j o k=>?_⟩;by_cases i:l.length<=WL.lim;.rw[arM i]at f;exact⟨by rw[<-k.length];exact arU i dM,λp g=>f _ _ _ (j.new g _) (o.trans (Gr.new (j.rb.sub.free g) g _)) (by exact fD p m rfl (SqL.of ao) (k.keep (az (j.rb.sub.free g) _)))⟩
 .rw[arO i]at f;exact f.elim
def dy(h:PA X es (loA B tas)):PE X (.List es pos) (lo B (WL.px tas)):=PE.imp (acr h) amv
def an5{σ d F l g xs vs p}{Q:VK}(k:RS B σ d l g){H}(r:Gr F H l g)(s:RWs B.K l xs vs)(f:g p=none)(q:∀a vs i h,RS B σ d h i->Gr F H h i->h a=none->B.H0 a=none->i a=some (.lst vs)->RWs B.K h xs vs->(∀(j:Nat)(n:List VW),σ[j]?=some (.ow n)->d[j]?≠some (some (.ref a)))->Q (.ref a) i):Q (.ref p) (upd g p (.lst vs)):=q p _ _ _ (k.akv f _) (r.trans ⟨av.refl _,az f _,λ_ _ _ z=>z⟩) (k.rb.sub.free f) (k.rb.base.free f) ao s λj n e z=>by refine ke (k.ow j _ e) λa u m t w o v=>?_;rw[z]at m;cases m;rw[f]at o;cases o
def xF(h:PA X es (loA B tas)):PE X (.List es pos) (loL B (WL.akw tas)):=PE.imp (acr h) λk H Q f=>by
 refine dc f λl F R q=>?_;have q:=Rq.bind q;refine⟨l,F,R,Rq.mono (av.refl _) q λj d t s r o m i=>?_⟩;by_cases g:j.length<=WL.lim;.rw[arM g]at d;exact⟨by rw[<-i.length];exact arU g dM,λp n=>an5 o m i n d⟩
 .rw[arO g]at d;exact d.elim
def apJ (cm:∀g c,r g≠.ex c):∀d H Q,lo B (WL.eBi r tas) d H Q->tCB (loN B.K r) (loA B tas) d H Q:=by intro d H Q⟨h,F,R,q⟩;have q:=Rq.bind q;refine dP h F R (Rq.mono (av.refl _) q λg f p n j i k l=>⟨j,g,i.rb.sub,l,?_⟩);cases e:r _ with|ok w=>rw[e]at f;exact λv o s E m=>f v _ _ (E.rs B h _ i) (k.trans E.gr) m|ex c=>exact(cm _ c e).elim|bad=>rw[e]at f;exact f
def ak0 (cm:∀d c,r d≠.ex c)(h:PE X e (tCB (loN B.K r) (loA B tas))):PE X e (lo B (WL.eBi r tas)):=PE.imp h (apJ cm)
def vm:PO X none (loO B WL.pNo):=PO.imp ack λf H Q d=>by obtain⟨g,F,R,q⟩:=d;exact q H F R Gr.refl
def mF(h:PE X e (lo B ta)):PO X (some e) (loO B (WL.q0 ta)):=PO.imp (acj h) λg H Q d=>by refine dc d λj F R q=>?_;have q:=Rq.bind q;refine⟨j,F,R,Rq.mono (av.refl _) q λx f v o n m k l=>?_⟩;cases x with|int i=>exact⟨i,l,f _ _ m k⟩|_=>exact f.elim
def aqT(K:W.Frag):V->Option Int->Option Int->Hp->VK->Prop:=λx l h H Q=>∃F wx,av F H/\RW K F wx x/\Eq1 F H K (WL.oSl wx l h) Q
variable{l u:Option Expr}{tl tu:Ws->Res (Option Int)}{p2:Pos}
def ae9(D:SlR X (aqT B.K))(G:PE X e (lo B ta))(I:PO X l (loO B tl))(M:PO X u (loO B tu)):PE X (.Subscript e (.Slice l u none p2) pos) (lo B (WL.eSl ta tl tu)):=PE.imp (yf D G I M) λi H Q j=>by refine dc j λg F R q=>?_;have q:=Rq.bind q;refine dP g F R (Rq.mono (av.refl _) q λx C v O p N k y=>dP g p N (Rq.mono k.f (Rq.bind C) λlo h P A R2 m=>?_));refine dP g A R2 (Rq.mono (k.trans m).f (Rq.bind h) λt d S r n o=>?_);refine⟨r,x,n.rb.sub,(y.keep m.f).keep o.f,?_⟩;cases f:WL.oSl x lo t with|ok w=>rw[f]at d;exact λv J z E s=>d v z J (E.rs B g i n) (((k.trans m).trans o).trans E.gr) s|ex c=>cases x<;>simp[WL.oSl]at f;split at f<;>cases f|bad=>rw[f]at d;exact d
def lend  (R:RS B σ σV F H)(t:Hp)(s1:av F t)(U:t=F/\WL.frz i σ=σ\/∃a o w,t=upd F a o/\Ow1 o/\F a=none/\WL.frz i σ=σ.set i (.va w)/\σV[i]?=some (some (.ref a))/\H a=some o/\B.H0 a=none)(R2:RS B (WL.frz i σ) σV F2 H2)(f:Gr t H F2 H2):∃y,RS B σ σV y H2/\Gr F H y H2/\∀w v,WL.plain w=true->RW B.K F2 w v->RW B.K y w v:=by
 rcases U with⟨rfl,A⟩|⟨a,ow,wa,rfl,r,D,A,C,hH,h0⟩;.rw[A]at R2;exact⟨F2,R2,f,λ_ _ _ h=>h⟩
 .rw[A]at R2;have s:=f.f _ _ ao;have n:av F λb=>if b=a then none else F2 b:=λb o q=>by
   have k:b≠a:=λz=>by subst z;rw[D]at q;cases q
   show(if b=a then none else F2 b)=some o;rw[arO k];exact f.f b o (s1 b o q)
  have p:∀b o,(if b=a then none else F2 b)=some o->b≠a/\F2 b=some o:=λb o q=>by
   by_cases d:b=a;.rw[arM d]at q;cases q
   .rw[arO d]at q;exact⟨d,q⟩
  refine⟨λb=>if b=a then none else F2 b,⟨⟨λb o q=>R2.rb.sub b o (p b o q).2,R2.rb.base,R.rb.fz0.trans n,λb o q=>R2.rb.fr b o (p b o q).2⟩,R.len,λj w q=>?_,λj x q=>?_,R.ap,?_⟩,⟨n,f.h,λb o q z=>?_⟩,λw v pw h=>?_⟩;.obtain⟨v,g,I⟩:=R.va j w q;exact⟨v,g,I.keep n⟩
  .obtain⟨b,S,g,I,Z,P,g5⟩:=R.ow j x q;refine⟨b,S,g,?_,Z,f.h b _ P,g5.keep n⟩;by_cases d:b=a;.exact arM d
   .show(if b=a then none else F2 b)=none;rw[arO d];have G:i≠j:=λz=>by subst z;rw[C]at g;cases g;exact d rfl
    obtain⟨T,ys,m,E,_⟩:=R2.ow j x (by rw[arN G];exact q);rw[g]at m;cases m;exact E
  .refine R.dd.via rfl id (λ_ _ z=>.inl z) (λ_ _ _ e=>⟨e,rfl⟩) n λj Y x b Q O J M q2 N=>⟨?_,N,f.h b _ M⟩;by_cases d:b=a;.exact arM d
   .show(if b=a then none else F2 b)=none;rw[arO d];have G:i≠j:=λz=>by subst z;rw[show σV[i]?=_ from J]at C;cases C;exact d rfl
    obtain⟨T,ys,m,E,_⟩:=R2.dd.od j Y x (by rw[arN G];exact O);rw[show σV[j]?=_ from J]at m;cases m;exact E
  .show(if b=a then none else F2 b)=none;by_cases d:b=a;.exact arM d
   .rw[arO d];exact f.nf b o q (by rw[ag d];exact z)
  .refine RW.less (λc xs q=>?_) w v pw h;rcases q with(q|⟨o,q⟩)|q
   .refine .inl (.inl ?_);have k:c≠a:=λz=>by subst z;rw[s]at q;cases q;exact r
    show(if c=a then none else F2 c)=_;rw[arO k];exact q
   .refine .inl (.inr ⟨o,?_⟩);have k:c≠a:=λz=>by subst z;rw[s]at q;cases q;exact r
    show(if c=a then none else F2 c)=_;rw[arO k];exact q
   .exact .inr q
def ahb (h:PE X e (lo B ta)):PE X e (lo B (WL.akA i ta)):=PE.imp h λo H Q d=>by
 refine dc d λj F R q=>?_;refine ju (R.frz i) λm p y t=>?_;refine dP _ m y ?_;have q:Rq B j F (match ta _ with|.ok w=>if WL.plain w then .ok w else .bad|_=>.bad) _:=q
 cases f:ta _ with|ok w=>
 rw[f]at q;intro v A C R2 r s;refine ju (lend R _ p t R2 r) λz n x k=>?_;have q:Rq B j F (if WL.plain w=true then .ok w else .bad) _:=q;by_cases g:WL.plain w=true;.rw[arM g]at q;exact q v _ _ n x (k w v g s)
 .rw[arO g]at q;exact q.elim|ex c=>rw[f]at q;exact q.elim|bad=>rw[f]at q;exact q
end
mutual def toD:VW->PyData|.non=>.none|.bl b=>.bool b|.int i=>.int i|.str x=>.str x|.ty _=>.none|.tup xs=>.tuple (kj xs)|.lst xs=>.list (kj xs)|.dic _ _=>.none|.cls _=>.none|.exc _ _=>.none|.ins _ _=>.none|.id _=>.none def kj:List VW->List PyData|[]=>[]|x::xs=>toD x::kj xs end
mutual theorem RW.isD{K:W.Frag}{H:Hp}:∀(n:Nat)(w:VW)(v:V),WL.okD n w=true->RW K H w v->IsD K H n v (toD w)
|n,.non,v,_,h=>by cases n<;>exact h|n,.bl b,v,_,h=>by cases n<;>exact h|n,.int i,v,_,h=>by cases n<;>exact h|n,.str x,v,o,h=>by cases n<;>exact⟨h,o⟩|n,.tup xs,v,o,h=>by obtain⟨a,vs,e,q,r⟩:=h;cases n with|zero=>cases xs<;>cases o|succ n=>exact⟨a,vs,e,q,RWs.isD n xs _ o r⟩
|n,.lst xs,v,o,h=>by obtain⟨a,vs,e,q,r⟩:=h;cases n with|zero=>cases xs<;>cases o|succ n=>exact⟨a,vs,e,q,RWs.isD n xs vs o r⟩theorem RWs.isD{K:W.Frag}{H:Hp}:∀(n:Nat)(ws:List VW)(vs:List V),WL.gL (n+1) ws=true->RWs K H ws vs->Paired (IsD K H n) vs (kj ws)|n,[],vs,_,h=>by simp only[RWs]at h;subst h;exact .nil|n,w::ws,vs,o,h=>by simp only[RWs]at h;obtain⟨v,r,rfl,q,t⟩:=h;have o:=asF.mp o;exact .cons (RW.isD n w v o.1 q) (RWs.isD n ws r o.2 t)end
mutual theorem kY:∀(n m:Nat)(x y:VW),WL.okD n x=true->WL.okD m y=true->PyData.eqv (toD x) (toD y)=WL.eqv x y
|n,m,.tup xs,y,h1,h2=>by cases y with|tup ys=>exact rL n m xs ys h1 h2|_=>first|rfl|cases h2
|n,m,.lst xs,y,h1,h2=>by cases y with|lst ys=>exact rL n m xs ys h1 h2|_=>first|rfl|cases h2
|n,m,.ty _,_,h1,_=>by cases h1|n,m,.non,y,_,h2=>by cases y<;>first|rfl|cases h2
|n,m,.bl b,y,_,h2=>by cases y<;>rfl|n,m,.int b,y,_,h2=>by cases y<;>first|rfl|cases h2
|n,m,.str b,y,_,h2=>by cases y<;>first|rfl|cases h2 theorem rL:∀(n m:Nat)(xs ys:List VW),WL.gL n xs=true->WL.gL m ys=true->PyData.eqvAll (kj xs) (kj ys)=WL.aeO xs ys|n,m,[],ys,_,_=>by cases ys<;>rfl|n,m,x::xs,ys,h1,h2=>by cases ys with|nil=>rfl|cons y ys=>cases n with|zero=>cases h1|succ n=>cases m with|zero=>cases h2|succ m=>have h1:=asF.mp h1;have h2:=asF.mp h2;show(PyData.eqv _ _&&PyData.eqvAll _ _)=(_&&_);rw[kY n m x y h1.1 h2.1,rL (n+1) (m+1) xs ys h1.2 h2.2]end
theorem xu{n m}{x:VW}(a:WL.okD n x=true):∀{ys:List VW},WL.gL m ys=true->((kj ys).any λz=>PyData.eqv z (toD x))=WL.dO x ys|[],_=>rfl|y::ys,h=>by cases m with|zero=>cases h|succ m=>have h:=asF.mp h;simp [kj,WL.dO];rw[kY m n y x h.1 a,xu a h.2]
section
variable{X:Cx}{K:W.Frag}
def eq1{F H w Q v}(q:Eq1 F H K (.ok w) Q)(r:RW K F w v):Q v H:=q v F H (Ext.refl F H) r
def akz{F H}{ws:List VW}{vs Q}(s:av F H)(q:Eq1 F H K (.ok (.lst ws)) Q)(r:RWs K F ws vs){p}(a:H p=none):Q (.ref p) (upd H p (.lst vs)):=q _ _ _ (Ext.new (s.free a) a _) (by exact⟨p,vs,rfl,SqL.of ao,r.keep (az (s.free a) _)⟩)
def aoh{F H}{ws:List VW}{vs Q}(s:av F H)(q:Eq1 F H K (.ok (.tup ws)) Q)(r:RWs K F ws vs){p}(a:H p=none):Q (.ref p) (upd H p (.tup vs)):=q _ _ _ (Ext.new (s.free a) a _) (by exact⟨p,vs,rfl,SqT.of ao,r.keep (az (s.free a) _)⟩)
def ajg:OpR X (binaryOp .Add) λx y H Q=>∃l b f g,x=.ref l/\y=.ref b/\SqL X.K H l f/\SqL X.K H b g/\f.length+g.length<=sizeLine/\∀p,H p=none->Q (.ref p) (upd H p (.lst (f++g))):=by
 intro C s Y H x y v u Q I G N h;refine anD h λl b f g t m R J U q=>?_;subst t m;cases G;cases N;refine ju (I.list R) λc r pl _=>?_;refine ju (I.list J) λa D o _=>?_;obtain⟨⟨cls,dd,A,P⟩,B,M,n,E⟩:=pl.isList;obtain⟨⟨z,w,data2,i⟩,d,j,O,k⟩:=o.isList;subst M E j k;have e:c.toArray++a.toArray=(c++a).toArray:=by simp
 have T:=r.length;have S:=D.length;refine avs ⟨_,B,rfl⟩ ⟨_,d,rfl⟩ noFill_list_add seq_list_add PySem.F.slot_list_add PySem.F.entry_list_add (PySem.F.args_list_add_2 _ _) (list_addW l b c.toArray a.toArray n O dd w P i (by grind)) ⟨B,d,?_⟩;rw[e];exact fD (.ref _) _ (I.apK (r.append D) (by grind)) rfl (q _ I.fresh)
def afX:OpR X (binaryOp .Add) λx y H Q=>∃a b o,x=.ref a/\y=.ref b/\SqT X.K H a []/\SqT X.K H b o/\Q (.ref b) H:=by intro p s O H x y v u Q I w C h;refine akK h λa b o i g A z q=>?_;subst i g;cases w;cases C;refine ju (I.tuple A) λM r E _=>?_;refine ju (I.tuple z) λm P D _=>?_;cases r;obtain⟨⟨cls,dd,k,J⟩,l,B,n,t⟩:=id E;obtain⟨⟨j,N,data2,d⟩,c,e,G,f⟩:=id D;subst B t e f;exact avs ⟨_,l,rfl⟩ ⟨_,c,rfl⟩ avt seq_tuple_add aut aum (aua _ _) (tuple_addW0 a b _ _ n G dd _ J d (rfl)) ⟨l,c,⟨.ref b,H,I,rfl,q⟩⟩
set_option tactic.hygienic true
def w_add(z:X.K=K):OpR X (binaryOp .Add) (lo2 K WL.fF):=by
 subst z;refine OpR.imp (ama.or (ajg.or (ajf.or afX))) λx y H Q r=>?_;obtain⟨F,wx,A,s,d,i,q⟩:=r;unfold WL.fF at q;split at q;.simp only[RW]at d i;exact .inl ⟨_,_,d,i,q _ F H (Ext.refl F H) (by simp[RW])⟩
 rotate_left
 .rename_i l m;simp only[RW]at d i;obtain⟨a,f,rfl,j,g⟩:=d;obtain⟨b,e,rfl,k,h⟩:=i;by_cases c:l.length+m.length<=WL.lim
  .rw[arM c]at q;have o:=g.length;have n:=h.length;have t:f.length+e.length<=sizeLine:=by rw[<-o,<-n];exact arU c dM
   by_cases v:f=[];.subst v;have:l=[]:=atB.mp o;subst this;refine .inr (.inr (.inr ⟨a,b,e,rfl,rfl,s.tup j,s.tup k,?_⟩));exact eq1 q (by simp only[RW,as0];exact⟨b,e,rfl,k,h⟩)
   .refine .inr (.inr (.inl ⟨a,b,f,e,rfl,rfl,s.tup j,s.tup k,v,t,λw=>?_,λw p u=>?_⟩));.subst w;have:m=[]:=atB.mp n;subst this;exact eq1 q (by simp only[RW,asl];exact⟨a,f,rfl,j,g⟩)
    .exact aoh s q (g.app h) u
  .rw[arO c]at q;exact q.elim
 .exact q.elim
 .rename_i l m;simp only[RW]at d i;obtain⟨a,f,rfl,j,g⟩:=d;obtain⟨b,e,rfl,k,h⟩:=i;by_cases c:l.length+m.length<=WL.lim;.rw[arM c]at q;have q:Eq1 F H X.K (.ok (.lst (l++m))) Q:=q;have o:=g.length;have n:=h.length;exact .inr (.inl ⟨a,b,f,e,rfl,rfl,s.seq j,s.seq k,by rw[<-o,<-n];exact arU c dM,λp u=>akz s q (g.app h) u⟩)
  .rw[arO c]at q;exact q.elim
set_option tactic.hygienic false
def aI:Calm WL.fF:=λx y c h=>by unfold WL.fF at h;split at h<;>first|(cases h)|(split at h<;>cases h)
def air{f C g r}(h:OpR X f (rI C g))(k:∀x y w,r x y=.ok w->∃i j,x=.int i/\y=.int j/\C i j/\∀F,RW K F w (g i j))(cm:Calm r):OpR X f (lo2 K r):=by refine OpR.imp h λx y H Q a=>?_;refine qz a λF wx p s m o q=>?_;cases e:r _ _ with|bad=>rw[e]at q;exact q.elim|ex c=>exact(cm _ _ _ e).elim|ok w=>refine my (k _ _ w e) λi j b d l n=>?_;subst b d;rw[e]at q;exact aeW i j m o l (eq1 q (n F))
def sr{f g r}(h:OpR X f (rI0 g))(k:∀x y w,r x y=.ok w->∃i j,x=.int i/\y=.int j/\∀F,RW K F w (g i j))(cm:Calm r):OpR X f (lo2 K r):=by refine OpR.imp h λx y H Q a=>?_;refine qz a λF wx o s l n q=>?_;cases e:r _ _ with|bad=>rw[e]at q;exact q.elim|ex c=>exact(cm _ _ _ e).elim|ok w=>refine iH (k _ _ w e) λi j b d m=>?_;subst b d;rw[e]at q;exact⟨i,j,l,n,eq1 q (m F)⟩
def iA:Calm WL.acH:=λx y c h=>by unfold WL.acH at h;split at h<;>cases h
def dR:Calm WL.vf:=λx y c h=>by unfold WL.vf at h;split at h<;>first|(cases h)|(split at h<;>cases h)
def fg:Calm WL.oDiv:=λx y c h=>by unfold WL.oDiv at h;split at h<;>first|(cases h)|(split at h<;>cases h)
def br:Calm WL.oMod:=λx y c h=>by unfold WL.oMod at h;split at h<;>first|(cases h)|(split at h<;>cases h)
def lb:Calm WL.oLt:=λx y c h=>by unfold WL.oLt at h;split at h<;>cases h
def jm:Calm WL.oLe:=λx y c h=>by unfold WL.oLe at h;split at h<;>cases h
def jn:Calm WL.oGt:=λx y c h=>by unfold WL.oGt at h;split at h<;>cases h
def aet:Calm WL.oGe:=λx y c h=>by unfold WL.oGe at h;split at h<;>cases h
def w_sub:OpR X (binaryOp .Sub) (lo2 K WL.acH):=sr al1 (λx y w e=>by unfold WL.acH at e;split at e<;>cases e;exact⟨_,_,rfl,rfl,λF=>rfl⟩) iA
def w_mul:OpR X (binaryOp .Mult) (lo2 K WL.vf):=air al3 (λx y w e=>by
 unfold WL.vf at e;split at e<;>first|(cases e)|skip
 split at e;.rename_i a;cases e;exact⟨_,_,rfl,rfl,a,λF=>rfl⟩
 .cases e) dR
def afW:OpR X (binaryOp .FloorDiv) (rI (λ_ j=>0<j/\j<10^100) λi j=>.int (i/j)):=opI λi j _ _ _ _ _ a q=>by
 have d:(0:Int)<j:=a.1;have c:j<10^100:=a.2;refine floordiv_int (by omega) (by rw[Int.fdiv_eq_ediv_of_nonneg i (by omega)];exact q) (.inl (PyProof.noPylong_of_log2 ?_));have b:j.natAbs<10^100:=by omega
 have:j.natAbs.log2<400:=(Nat.log2_lt (by omega)).mpr (arS b (by decide+kernel));omega
def w_div:OpR X (binaryOp .FloorDiv) (lo2 K WL.oDiv):=air afW (λx y w e=>by
 unfold WL.oDiv at e;split at e<;>first|(cases e)|skip
 split at e;.rename_i a;cases e;exact⟨_,_,rfl,rfl,a,λF=>rfl⟩
 .cases e) fg
def w_mod:OpR X (binaryOp .Mod) (lo2 K WL.oMod):=air al4 (λx y w e=>by
 unfold WL.oMod at e;split at e<;>first|(cases e)|skip
 split at e;.rename_i a;cases e;exact⟨_,_,rfl,rfl,a,λF=>rfl⟩
 .cases e) br
def w_lt:OpR X (compareOp .Lt) (lo2 K WL.oLt):=sr apc (λx y w e=>by unfold WL.oLt at e;split at e<;>cases e;exact⟨_,_,rfl,rfl,λF=>rfl⟩) lb
def akk:OpR X (compareOp .LtE) (lo2 K WL.oLe):=sr apd (λx y w e=>by unfold WL.oLe at e;split at e<;>cases e;exact⟨_,_,rfl,rfl,λF=>rfl⟩) jm
def akm:OpR X (compareOp .Gt) (lo2 K WL.oGt):=sr ape (λx y w e=>by unfold WL.oGt at e;split at e<;>cases e;exact⟨_,_,rfl,rfl,λF=>rfl⟩) jn
def ara:OpR X (compareOp .GtE) (lo2 K WL.oGe):=sr apf (λx y w e=>by unfold WL.oGe at e;split at e<;>cases e;exact⟨_,_,rfl,rfl,λF=>rfl⟩) aet
def sk:UnR X (unaryOp .USub) (lo1 K WL.yt):=UnR.imp ak9 λx H Q a=>by
 refine iH a λF wx s b q=>?_;cases wx<;>first|exact q.elim|skip
 exact⟨_,b,q _ F H (Ext.refl F H) (rfl)⟩
def ff:∀x c,WL.yt x≠.ex c:=λx c h=>by cases x<;>simp[WL.yt]at h
def abQ{F}{x y:VW}{v u}(h:WL.zI x y=true)(a:RW K F x v)(b:RW K F y u):aoP v u=true/\decide (v=u)=WL.eqv x y:=by
 cases x<;>first|(cases h)|skip
 all_goals cases y<;>first|(cases h;done)|(subst a;subst b;exact⟨rfl,by first|rfl|exact wQ|exact adZ|exact wO ⟩)
def calm_eq:Calm WL.oEq:=λx y c h=>by simp only[WL.oEq]at h;split at h<;>first|(cases h)|(split at h<;>cases h)
def aj8:Calm WL.oNe:=λx y c h=>by simp only[WL.oNe]at h;split at h<;>first|(cases h)|(split at h<;>cases h)
def w_eq(g:X.K=K)(i:X.A.units+64<cLine):OpR X (compareOp .Eq) (lo2 K WL.oEq):=by
 subst g;refine OpR.imp (apg.or al9) λx y H Q a=>?_;refine qz a λF wx d s b c q=>?_;simp only[WL.oEq]at q;split at q;.rename_i h;obtain⟨f,e⟩:=abQ h b c;exact .inl ⟨f,eq1 q (by simp[RW,e])⟩
 .split at q;.rename_i h;rw[asj]at h;refine .inr (oU 50 _ _ (RW.isD _ _ x h.1 (b.keep s)) (RW.isD 50 d y h.2 (c.keep s)) (by omega) ?_);rw[kY 50 50 wx d h.1 h.2];exact eq1 q (rfl)
  .exact q.elim
def aq9(g:X.K=K)(i:X.A.units+64<cLine):OpR X (compareOp .NotEq) (lo2 K WL.oNe):=by
 subst g;refine OpR.imp (apb.or al2) λx y H Q a=>?_;refine qz a λF wx d s b c q=>?_;simp only[WL.oNe]at q;split at q;.rename_i h;obtain⟨f,e⟩:=abQ h b c;exact .inl ⟨f,eq1 q (by simp[RW,e])⟩
 .split at q;.rename_i h;rw[asj]at h;refine .inr (oU 50 _ _ (RW.isD _ _ x h.1 (b.keep s)) (RW.isD 50 d y h.2 (c.keep s)) (by omega) ?_);rw[kY 50 50 wx d h.1 h.2];exact eq1 q (rfl)
  .exact q.elim
def lg:Calm WL.oIn:=λx y c h=>by cases y<;>simp only[WL.oIn]at h<;>first|(cases h)|(split at h<;>cases h)
def dY:Calm WL.g8:=λx y c h=>by cases y<;>simp only[WL.g8]at h<;>first|(cases h)|(split at h<;>cases h)
set_option tactic.hygienic true
def akl(d:X.K=K)(i:X.A.units+64<cLine):OpR X (compareOp .In) (lo2 K WL.oIn):=by
 subst d;refine OpR.imp al8 λx y H Q a=>?_;refine qz a λF wx g s e f q=>?_;cases g<;>simp only[WL.oIn]at q<;>first|exact q.elim|skip
 all_goals
 rename_i b;by_cases h:(WL.okD 50 wx&&WL.gL 51 b)=true;.rw[arM h]at q;rw[asj]at h;have c:=RW.isD 51 _ y (by exact h.2) (f.keep s);refine oU 50 _ (kj b) (RW.isD 50 wx x h.1 (e.keep s)) (by first|exact .inl c|exact .inr c) (by omega) ?_;rw[xu h.1 h.2];exact eq1 q (rfl)
 .rw[arO h]at q;exact q.elim
def kh(d:X.K=K)(i:X.A.units+64<cLine):OpR X (compareOp .NotIn) (lo2 K WL.g8):=by
 subst d;refine OpR.imp acx λx y H Q a=>?_;refine qz a λF wx g s e f q=>?_;cases g<;>simp only[WL.g8]at q<;>first|exact q.elim|skip
 all_goals
 rename_i b;by_cases h:(WL.okD 50 wx&&WL.gL 51 b)=true;.rw[arM h]at q;rw[asj]at h;have c:=RW.isD 51 _ y (by exact h.2) (f.keep s);refine oU 50 _ (kj b) (RW.isD 50 wx x h.1 (e.keep s)) (by first|exact .inl c|exact .inr c) (by omega) ?_;rw[xu h.1 h.2];exact eq1 q (rfl)
 .rw[arO h]at q;exact q.elim
set_option tactic.hygienic false
def yK{F w v}(r:RW K F w v):decide (v=V.non)=WL.kM w:=by cases w;all_goals first|(subst r;rfl)|(refine dc r λa d b _=>?_;subst b;rfl)|(obtain⟨a,rfl,_⟩:=r;rfl)|(refine vh r λa C c b _=>?_;subst b;rfl)|(refine agY r λa C c l b _=>?_;subst b;rfl)
def al6:OpR X (compareOp .Is) λx y H Q=>∃b,y=.bl b/\Q (.bl (decide (x=.bl b))) H:=by
 intro d s f H x y v u Q I a e h;obtain⟨b,rfl,q⟩:=h;cases e;refine wpAny_is_plain ?_ (ba I q ?_);.cases x<;>(obtain⟨t,rfl⟩:=a;rfl)
 .cases x with|bl c=>cases a;cases b<;>cases c<;>rfl|_=>(obtain⟨t,rfl⟩:=a;cases b<;>rfl)
def acy:OpR X (compareOp .IsNot) λx y H Q=>∃b,y=.bl b/\Q (.bl !decide (x=.bl b)) H:=by
 intro d s f H x y v u Q I a e h;obtain⟨b,rfl,q⟩:=h;cases e;refine wpAny_isNot_plain ?_ (ba I q ?_);.cases x<;>(obtain⟨t,rfl⟩:=a;rfl)
 .cases x with|bl c=>cases a;cases b<;>cases c<;>rfl|_=>(obtain⟨t,rfl⟩:=a;cases b<;>rfl)
set_option tactic.hygienic true
def ahK{F w v b}(r:RW K F w v):decide (v=V.bl b)=WL.isB b w:=by cases w;all_goals first|(subst r;cases b<;>first|rfl|(rename_i c;cases c<;>rfl))|(refine dc r λa f d _=>?_;subst d;cases b<;>rfl)|(obtain⟨a,rfl,_⟩:=r;cases b<;>rfl)|(refine vh r λa C e d _=>?_;subst d;cases b<;>rfl)|(refine agY r λa C e l d _=>?_;subst d;cases b<;>rfl)
set_option tactic.hygienic false
def rS:Calm WL.oIs:=λx y c h=>by cases y<;>simp[WL.oIs]at h
def di:Calm WL.eZ:=λx y c h=>by cases y<;>simp[WL.eZ]at h
def w_is:OpR X (compareOp .Is) (lo2 K WL.oIs):=by
 refine OpR.imp (al5.or al6) λx y H Q a=>?_;refine qz a λF wx d s b c q=>?_;cases d<;>first|exact q.elim|skip
 .exact .inl ⟨c,eq1 q (by simp[RW,yK b])⟩
 .exact .inr ⟨_,c,eq1 q (by simp[RW,ahK b])⟩
def iY:OpR X (compareOp .IsNot) (lo2 K WL.eZ):=by
 refine OpR.imp (aje.or acy) λx y H Q a=>?_;refine qz a λF wx d s b c q=>?_;cases d<;>first|exact q.elim|skip
 .exact .inl ⟨c,eq1 q (by simp[RW,yK b])⟩
 .exact .inr ⟨_,c,eq1 q (by simp[RW,ahK b])⟩
def anv{F ws vs i w}(r:RWs K F ws vs)(h:WL.atI ws i=some w):∃v,L2.atI vs i=some v/\RW K F w v:=by unfold WL.atI at h;cases e:WL.ixN _ i with|none=>rw[e]at h;cases h|some j=>rw[e]at h;obtain⟨v,b,a⟩:=r.get h;refine⟨v,?_,a⟩;unfold L2.atI;rw[<-r.length,show L2.ixN _ i=some j from e];exact b
def aes:Calm WL.oIx:=λx y c h=>by
 unfold WL.oIx at h;split at h<;>first|(cases h)|skip
 all_goals revert h;first|(cases WL.atI _ _<;>simp[WL.ofO];done)|(cases WL.oV _ _ _<;>simp[WL.ofO])
theorem adV{F}(k)(w:VW):∀{kvs:List (Key×V)}{ks vs},RWs K F ks (kvs.map λp=>kV p.1)->RWs K F vs (kvs.map λp=>p.2)->WL.oV k ks vs=some w->∃v,xN kvs (Sum.inr k)=some v/\RW K F w v
|[],ks,vs,r1,r2,e=>by cases ks with|nil=>simp[WL.oV]at e|cons x ks=>simp[RWs]at r1
|p::kvs,ks,vs,r1,r2,e=>by cases ks with|nil=>simp[WL.oV]at e|cons x ks=>
 cases vs with|nil=>cases x<;>cases e|cons y vs=>obtain⟨s,o,l,a,j⟩:=r1;obtain⟨r,q,g,n,m⟩:=r2;cases l;cases g;cases x with|str x=>
     simp only[RW]at a;have b:p.1=Sum.inr x:=by cases b:p.1 with|inl i=>rw[b]at a;cases i<;>exact absurd a (by simp[kV])|inr z=>rw[b]at a;simp only[kV]at a;cases a;rfl
     simp only[WL.oV]at e;by_cases h:x=k;.subst h;simp at e;subst e;exact⟨p.2,jy b,n⟩
     .have f:(x==k)=false:=by simpa using h
      rw[f]at e;obtain⟨v,d,c⟩:=adV k w j m (by simpa using e);exact⟨v,by rw[jz λz=>h (by rw[b]at z;exact Sum.inr.inj z)];exact d,c⟩|_=>simp[WL.oV]at e
set_option tactic.hygienic true
def aqt(n:X.K=K):IxR X (lo2 K WL.oIx):=by
 subst n;refine IxR.imp ((adh.or ahJ).or adi) λx y H Q g=>?_;obtain⟨F,wx,u,s,j,h,q⟩:=g;unfold WL.oIx at q;split at q;rotate_left 2;.rename_i t f k;obtain⟨a,l,rfl,c,o,r⟩:=j;cases e:WL.oV k t f with|none=>rw[e]at q;exact q.elim|some w=>rw[e]at q;obtain⟨v,d,b⟩:=adV k w o r e;exact .inr ⟨a,_,Sum.inr k,v,rfl,h,s.rd c,d,eq1 q b⟩
 .exact q.elim
 all_goals rename_i m i;obtain⟨a,f,rfl,c,p⟩:=j;cases e:WL.atI m i with|none=>rw[e]at q;exact q.elim|some w=>rw[e]at q;obtain⟨v,d,b⟩:=anv p e;first|exact .inl (.inl ⟨a,f,i,v,rfl,h,s.seq c,d,eq1 q b⟩)|exact .inl (.inr ⟨a,f,i,v,rfl,h,s.tup c,d,eq1 q b⟩)
set_option tactic.hygienic false
def anI(j:X.K=K):SlR X (aqT K):=by
 subst j;have i:WL.sIx=HT.sIx:=rfl;refine SlR.imp (aiJ.or alp) λx lo h H Q d=>?_;refine iH d λF wx s g q=>?_;cases wx<;>simp [WL.oSl]at q<;>first|exact q.elim|skip
 .obtain⟨a,e,rfl,c,b⟩:=g;split at q;.exact q.elim
  .rename_i hw;rw[i,b.length]at hw;exact .inr (aeW a e rfl (s.tup c) hw λp f=>aoh s q (b.cut lo h) f)
 .obtain⟨a,e,rfl,c,b⟩:=g;exact .inl (fD a e rfl (s.seq c) λp f=>akz s q (b.cut lo h) f)
def cx{F w xs}(r:RWs K F [w] xs):∃v,xs=[v]/\RW K F w v:=by obtain⟨v,t,rfl,h,rfl⟩:=r;exact⟨v,rfl,h⟩
def two_of{F w b xs}(r:RWs K F [w,b] xs):∃v a,xs=[v,a]/\RW K F w v/\RW K F b a:=by obtain⟨v,t,rfl,h,a,d,rfl,c,rfl⟩:=r;exact⟨v,a,rfl,h,c⟩
def eO(f:X.K=K):bG X (.builtin "len") (loN K WL.iB):=by
 subst f;refine bG.imp uX λg H Q c=>?_;refine iH c λF ws s r q=>?_;unfold WL.iB at q;split at q;.obtain⟨v,rfl,h⟩:=cx r;obtain⟨a,d,rfl,b,e⟩:=h;exact⟨a,d,rfl,.inl (s.seq b),eq1 q (by simp[RW,e.length])⟩
 .obtain⟨v,rfl,h⟩:=cx r;obtain⟨a,d,rfl,b,e⟩:=h;exact⟨a,d,rfl,.inr (s.tup b),eq1 q (by simp[RW,e.length])⟩
 .exact q.elim
def qF(i:X.K=K):bG X (.type "tuple") (loN K WL.iU):=by
 subst i;refine bG.imp rW λk H Q d=>?_;refine iH d λF ws s r q=>?_;unfold WL.iU at q;split at q;.obtain⟨v,rfl,h⟩:=cx r;refine iH h λa e b c f=>?_;subst b;exact⟨a,e,rfl,.inl ⟨s.seq c,λl j=>aoh s q f j⟩⟩
 .refine de (cx r) λv b h=>?_;subst b;have g:=h;refine iH h λa e b c f=>?_;subst b;exact⟨a,e,rfl,.inr ⟨s.tup c,eq1 q g⟩⟩
 .exact q.elim
def ak5(g:X.K=K):bG X (.type "list") (loN K WL.xn):=by
 subst g;refine bG.imp lT λi H Q c=>?_;refine iH c λF ws s r q=>?_;unfold WL.xn at q;split at q;.obtain⟨v,rfl,h⟩:=cx r;obtain⟨a,d,rfl,b,e⟩:=h;exact⟨a,d,rfl,.inl (s.seq b),λl f=>akz s q e f⟩
 .obtain⟨v,rfl,h⟩:=cx r;obtain⟨a,d,rfl,b,e⟩:=h;exact⟨a,d,rfl,.inr (s.tup b),λl f=>akz s q e f⟩
 .exact q.elim
set_option tactic.hygienic true
def ak7:bG X (.builtin "abs") (loN K WL.akF):=bG.imp agT λb H Q a=>by
 refine iH a λF ws s r q=>?_;unfold WL.akF at q;split at q;.rename_i i;obtain⟨v,rfl,h⟩:=cx r;subst h;exact⟨i,rfl,eq1 q (rfl)⟩
 .exact q.elim
set_option tactic.hygienic false
def ak4(d:X.calm=true):bG X (.builtin "max") (loN K WL.aaN):=bG.imp (aew d) λi H Q a=>by refine iH a λF ws s r q=>?_;cases e:WL.aaN _ with|bad|ex c=>rw[e]at q;exact q.elim|ok w=>
 unfold WL.aaN at e;split at e;.refine iH (two_of r) λv g b h f=>?_;subst b;subst h f;exact⟨_,_,rfl,eq1 q (rfl)⟩
 .cases e
noncomputable def arb:VW->Value|.non=>.type "NoneType"|.bl _=>.type "bool"|.int _=>.type "int"|.str _=>.type "str"|.ty _=>.type "type"|.tup _=>.type "tuple"|.lst _=>.type "list"|.dic _ _=>.type "dict"|.cls _=>.type "type"|.exc _ _=>.none|.ins _ _=>.none|.id _=>.none
def amD{w:VW}{t b}(h:WL.isK w t=some b):W.kitOne K (arb w) (.type t)=some b:=by
 have c:=by
  cases w<;>first|(cases h;done)|(change(if _ then _ else _)=_ at h)
  all_goals
  split at h;.rename_i a;simpa using a
  .cases h
 cases w<;>rcases c with rfl|rfl|rfl|rfl|rfl<;>first|(cases h;done)|(rw[<-h];rfl)
def amt{F H a vs}(s:av F H)(h:SqL K F a vs):TyOf K H (.ref a) (.type "list")\/∃o b n,K.lookup a=some o/\o.cls=.type "list"/\o.dict=none/\o.data=.seq b n:=by
 rcases h with(h|⟨o,h⟩)|⟨o,b,n,d,c,f,e,_⟩;.exact .inl (.lst (s _ _ h))
 .exact .inl (.frz (s _ _ h))
 .exact .inr (oU o _ n d c f e)
def uY:bG X (.builtin "isinstance") λc H Q=>∃a o T b,c=[.ref a,.ty T]/\X.K.lookup a=some o/\o.cls=.type "list"/\W.kitOne X.K (.type "list") (.type T)=some b/\Q (.bl b) H:=by intro d s m H c k Q I r h;obtain⟨a,o,T,b,rfl,j,f,e,q⟩:=h;obtain⟨u,l,rfl,i,g⟩:=vals2 r;cases g;cases i;exact as8 W.kitx_list I.kIn ⟨o,I.kIn a o j,f⟩ e (λz=>nomatch z) λtk=>⟨.bl b,H,I.tok _,rfl,q⟩
set_option tactic.hygienic true
def f9(p:X.K=K):bG X (.builtin "isinstance") (loN K WL.cY):=by subst p;refine bG.imp (xh.or uY) λA H Q g=>?_;obtain⟨F,ws,s,r,q⟩:=g;cases e:WL.cY ws with|bad|ex c=>rw[e]at q;exact q.elim|ok w=>
  rw[e]at q;unfold WL.cY at e;split at e
  .rename_i x t;split at e;.rename_i b i;cases e;obtain⟨v,B,rfl,h,y⟩:=two_of r;subst y;have d:=amD (K:=X.K) i;have fin:Q (.bl b) H:=eq1 q (by simp[RW]);cases x with|non=>simp only[RW]at h;subst h;exact .inl ⟨_,t,_,b,rfl,.inl .non,d,fin⟩|bl k=>simp only[RW]at h;subst h;exact .inl ⟨_,t,_,b,rfl,.inl (.bl k),d,fin⟩|int k=>simp only[RW]at h;subst h;exact .inl ⟨_,t,_,b,rfl,.inl (.int k),d,fin⟩|str k=>simp only[RW]at h;subst h;exact .inl ⟨_,t,_,b,rfl,.inl (.str k),d,fin⟩|ty k|dic _ _|cls _|exc _ _|ins _ _|id _=>cases i|tup ys=>obtain⟨a,j,rfl,f,u⟩:=h;exact .inl ⟨_,t,_,b,rfl,.inr ⟨a,j,rfl,rfl,s.tup f⟩,d,fin⟩|lst ys=>
     obtain⟨a,j,rfl,f,u⟩:=h;rcases amt s f with ty|⟨o,z,n,m,l,D,C⟩;.exact .inl ⟨_,t,_,b,rfl,.inl ty,d,fin⟩
     .exact .inr ⟨a,o,t,b,rfl,m,l,d,fin⟩
   .cases e
  .cases e
set_option tactic.hygienic false
mutual theorem acV:∀(n m:Nat)(x y:VW),WL.okD n x=true->WL.okD m y=true->ltv (toD x) (toD y)=WL.ltW x y
|n,m,.tup _,y,h1,h2=>by cases y with|tup ys=>exact yE n m _ ys h1 h2|_=>rfl
|n,m,.int _,y,_,h2=>by cases y<;>rfl|n,m,.non,y,_,h2=>rfl|n,m,.bl _,y,_,h2=>rfl|n,m,.str _,y,_,h2=>rfl|n,m,.lst _,y,_,h2=>rfl theorem yE:∀(n m:Nat)(xs ys:List VW),WL.gL n xs=true->WL.gL m ys=true->qi (kj xs) (kj ys)=WL.aju xs ys|n,m,[],ys,_,_=>by cases ys<;>rfl|n,m,x::xs,ys,h1,h2=>by cases ys with|nil=>rfl|cons y ys=>cases n with|zero=>cases h1|succ n=>cases m with|zero=>cases h2|succ m=>have h1:=asF.mp h1;have h2:=asF.mp h2;show(if PyData.eqv _ _ then qi _ _ else ltv _ _)=if _ then _ else _;rw[kY n m x y h1.1 h2.1,acV n m x y h1.1 h2.1,yE (n+1) (m+1) xs ys h1.2 h2.2]end
mutual theorem aeh:∀(x y:VW),WL.ahS x y=true->aei (toD x) (toD y)=true
|.tup _,y,h=>by cases y with|tup ys=>exact y8 _ _ h|_=>cases h
|.int _,y,h=>by cases y<;>first|(cases h;done)|rfl theorem y8:∀(xs ys:List VW),WL.aaF xs ys=true->ix (kj xs) (kj ys)=true|[],_,_=>rfl|_::_,[],_=>rfl|x::xs,y::ys,h=>by simp only[WL.aaF,asj]at h;simp only[kj,ix,asj];exact⟨aeh x y h.1,y8 xs ys h.2⟩end
theorem l9:∀a,kj a=a.map toD|[]=>rfl|x::a=>by simp [kj,l9 _]
theorem aeA{b a n}(h:∀i j,i<=n->j<=n->b i j=a i j):∀k,k<=n->argBest b k=WL.aeR a k/\WL.aeR a k<=k|0,_=>⟨rfl,arP _⟩|k+1,hk=>by obtain⟨e,l⟩:=aeA h k (by omega);simp only[argBest,WL.aeR,e,h _ (WL.aeR a k) hk (by omega)];refine⟨trivial,?_⟩;split<;>omega
theorem yq{n}:∀{xs:List VW},WL.gL (n+1) xs=true->∀x∈xs,WL.okD n x=true
|[],_,x,a=>by grind|y::ys,h,x,a=>by
 have h:=asF.mp h;rcases ar4.mp a with rfl|a;.exact h.1
 .exact yq h.2 x a
def af2{a}(o:Option a)(c:VW):WL.ofO o≠.ex c:=by cases o<;>simp[WL.ofO]
set_option tactic.hygienic true
def ak3(O:X.calm=true)(J:X.K=K)(hu:X.A.units+64<cLine):bG X (.builtin "min") (loN K WL.aaM):=by
 subst J;refine bG.imp (aev O) λY H Q o=>?_;obtain⟨F,ws,s,r,q⟩:=o;unfold WL.aaM at q;split at q
 .rename_i b;obtain⟨v,rfl,h⟩:=cx r;simp only[RW]at h;obtain⟨a,B,rfl,E,n⟩:=h;unfold WL.minOf at q;split at q
  .rename_i G;obtain⟨Z,t,U⟩:=G;have S:=n.length;have w:∀x∈b,WL.okD 50 x=true:=yq t;have p:∀x∈b,∀y∈b,WL.ahS x y=true:=λx l y c=>by grind
   refine⟨a,B,50,kj b,rfl,s.seq E,by omega,RWs.isD 50 b B t (n.keep s),?_,by omega,λy c=>?_⟩;.rw[l9];intro d D e R;obtain⟨x,l,rfl⟩:=ase.mp D;obtain⟨y,c,rfl⟩:=ase.mp R;exact aeh x y (p x l y c)
   .have M:∀i j,i<=b.length-1->j<=b.length-1->ltv ((kj b).getD i .none) ((kj b).getD j .none)=WL.ltW (b.getD i .non) (b.getD j .non):=λi j z N=>by
     have A:∀i,i<=b.length-1->∃x∈b,(kj b).getD i .none=toD x/\b.getD i .non=x:=λi z=>by
      have f:i<b.length:=by omega
      refine⟨b[i],asS f,?_,?_⟩;.rw[l9,ar5,ar3,arQ f];rfl
      .rw[ar5,arQ f];rfl
     obtain⟨x,l,m,C⟩:=A i z;obtain⟨y,c,I,T⟩:=A j N;rw[m,C,I,T,acV 50 50 x y (w x l) (w y c)]
    obtain⟨m,C⟩:=aeA M (b.length-1) (arP _);rw[<-S,m]at c;have k:WL.aeR (λi j=>WL.ltW (b.getD i .non) (b.getD j .non)) (b.length-1)<b.length:=by omega
    rw[arQ k]at q;obtain⟨u,g,P⟩:=n.get (arQ k);rw[c]at g;cases g;exact eq1 q P
  .exact q.elim
 .exact q.elim
set_option tactic.hygienic false
def aep:∀a c,WL.aaM a≠.ex c:=λa c h=>by
 unfold WL.aaM at h;split at h
 .unfold WL.minOf at h;split at h;.exact af2 _ _ h
  .cases h
 .cases h
def aV:∀a c,WL.iB a≠.ex c:=λa c h=>by unfold WL.iB at h;split at h<;>cases h
def iz:∀a c,WL.iU a≠.ex c:=λa c h=>by unfold WL.iU at h;split at h<;>cases h
def aer:∀a c,WL.xn a≠.ex c:=λa c h=>by unfold WL.xn at h;split at h<;>cases h
def zc:∀a c,WL.akF a≠.ex c:=λa c h=>by unfold WL.akF at h;split at h<;>cases h
def aeq:∀a c,WL.aaN a≠.ex c:=λa c h=>by unfold WL.aaN at h;split at h<;>cases h
def cH:∀a c,WL.cY a≠.ex c:=λa c h=>by
 unfold WL.cY at h;split at h;.split at h<;>cases h
 .cases h
end
structure Walk(K:W.Frag)(J:It)(xs:List VW)(F:Hp):Prop where
 go:∀(i:Nat)(x:VW),xs[i]?=some x->∀F1 H1:Hp,av F F1->av F1 H1->J.go i H1/\∀v H2,J.yld i H1 v H2->∃F2,Ext F1 H1 F2 H2/\RW K F2 x v
 stop:∀F1 H1:Hp,av F F1->av F1 H1->J.stop xs.length H1
def loI(B:Bx)(it:LF):TI:=λa H R=>∃b F,RS B b a F H/\Rq B b F (it b) λe=>∀J d c,RS B b a c d->Gr F H c d->Walk B.K J e c->R J d
def abf{K a xs vs F}(h:SqL K F a vs)(r:RWs K F xs vs):Walk K (Itl K a) xs F:=by refine⟨λi x e f j b c=>?_,λf j b c=>⟨vs,c.seq (b.seq h),by rw[r.length];exact arP _⟩⟩;refine de (r.get e) λv g l=>?_;refine⟨⟨vs,v,c.seq (b.seq h),g⟩,λu m d=>?_⟩;obtain⟨k,y⟩:=d;subst k;have:=y _ (c.seq (b.seq h));rw[g]at this;cases this;exact⟨f,Ext.refl _ _,l.keep b⟩
def aff{K a xs vs F}(h:SqT K F a vs)(r:RWs K F xs vs):Walk K (Itt K a) xs F:=by refine⟨λi x e f j b c=>?_,λf j b c=>⟨vs,c.tup (b.tup h),by rw[r.length];exact arP _⟩⟩;refine de (r.get e) λv g l=>?_;refine⟨⟨vs,v,c.tup (b.tup h),g⟩,λu m d=>?_⟩;obtain⟨k,y⟩:=d;subst k;have:=y _ (c.tup (b.tup h));rw[g]at this;cases this;exact⟨f,Ext.refl _ _,l.keep b⟩
def ab4(lo)(n):(WL.rng lo n).length=n:=by simp[WL.rng]
def xK{K lo n F}:Walk K (Itr lo n) (WL.rng lo n) F:=by
 refine⟨λi x e b f g h=>?_,λb f g h=>by rw[ab4];exact arP n⟩;have c:=by have:=(arL.mp e).1;rwa[ab4]at this
 refine⟨c,λv j a=>?_⟩;obtain⟨d,y⟩:=a;subst d y;refine⟨b,Ext.refl _ _,?_⟩;simp only[WL.rng,ar3,at1 c]at e;have e:=asd e;subst e;simp[RW]
theorem rN:∀(xs:List VW)(k i:Nat),(WL.fW k xs)[i]?=xs[i]?.map λx=>.tup [.int (k+i:Nat),x]|[],_,_=>rfl|x::xs,k,0=>rfl|x::xs,k,i+1=>by simp only[WL.fW,List.getElem?_cons_succ];rw[rN _ _ i];congr 1;funext y;congr 4;omega
theorem rM:∀(xs:List VW)k,(WL.fW k xs).length=xs.length|[],_=>rfl|x::xs,k=>by simp [WL.fW,rM _ _]
def abg{K a xs vs F}(h:SqT K F a vs)(r:RWs K F xs vs):Walk K (Ite K a) (WL.fW 0 xs) F:=by refine⟨λi x e m n b c=>?_,λm n b c=>⟨vs,c.tup (b.tup h),by rw[rM,r.length];exact arP _⟩⟩;rw[rN]at e;cases f:xs[i]? with|none=>rw[f]at e;cases e|some y=>rw[f]at e;obtain⟨v,j,q⟩:=r.get f;have e:=asd e;subst e;refine⟨⟨vs,v,c.tup (b.tup h),j⟩,λu t d=>?_⟩;refine ju d λp s l o=>?_;subst s;obtain⟨z,g,rfl⟩:=o vs (c.tup (b.tup h));rw[j]at g;cases g;have k:=c.free l;refine⟨_,Ext.new k l _,p,_,rfl,SqT.of ao,?_⟩;simp only[RWs,RW];refine⟨_,_,rfl,?_,_,_,rfl,(q.keep b).keep (az k _),rfl⟩;simp
def zr{K a xs vs F}(h:SqL K F a vs)(r:RWs K F xs vs):Walk K (aos K a) (WL.fW 0 xs) F:=by refine⟨λi x e m n b c=>?_,λm n b c=>⟨vs,c.seq (b.seq h),by rw[rM,r.length];exact arP _⟩⟩;rw[rN]at e;cases f:xs[i]? with|none=>rw[f]at e;cases e|some y=>rw[f]at e;obtain⟨v,j,q⟩:=r.get f;have e:=asd e;subst e;refine⟨⟨vs,v,c.seq (b.seq h),j⟩,λu t d=>?_⟩;refine ju d λp s l o=>?_;subst s;obtain⟨z,g,rfl⟩:=o _ (c.seq (b.seq h));rw[j]at g;cases g;have k:=c.free l;refine⟨_,Ext.new k l _,p,_,rfl,SqT.of ao,?_⟩;simp only[RWs,RW];refine⟨_,_,rfl,?_,_,_,rfl,(q.keep b).keep (az k _),rfl⟩;simp
section
variable{X:Cx}{B:Bx}{e tg iter:Expr}{pos:Pos}{ta tb:EF}{it:LF}{g:GF}{b:SF}
def tSq(K:W.Frag)(h:TE):TI:=λf H R=>h f H λx c=>∃a,x=.ref a/\((∃d,SqL K c a d)/\R (Itl K a) c\/(∃d,SqT K c a d)/\R (Itt K a) c)
def ai8{pins}{σ:L2.St}{c R d x v}(f:Inv X pins σ c d)(n:RelV x v)(q:∃a,x=.ref a/\((∃h,SqL X.K c a h)/\R (Itl X.K a) c\/(∃h,SqT X.K c a h)/\R (Itt X.K a) c)):wpAny (model X.prog X.w) X.A (pyIter v) (PIE X pins σ tg R) X.xe d:=by
 obtain⟨a,e,m⟩:=q;subst e;cases n;have k:∀b∈[d.heap.objs.size],zk X pins c b:=λb s=>by
  have e:b=d.heap.objs.size:=by grind
  subst e;exact f.aky (arP _) (f.hok.fresh (arP _))
 rcases m with⟨⟨h,i⟩,q⟩|⟨⟨h,i⟩,q⟩;.obtain⟨j,r,p,l⟩:=f.list i;exact ave p.isList (akO d.heap.objs.size [d.heap.objs.size] _ _ c rfl (f.kept λb o e=>arK _ e) (abn a _) ⟨_,arW _ rfl,rfl,rfl⟩ k q)
 .obtain⟨j,r,p,l⟩:=f.tuple i;exact wpAny_pyIter_tuple p (akO d.heap.objs.size [d.heap.objs.size] _ _ c rfl (f.kept λb o e=>arK _ e) (zu a _) ⟨_,arW _ rfl,rfl,rfl⟩ k q)
def alP{l c}(j:PE X l c):PI X tg l (tSq X.K c):=λd s f H R I h=>thn (j _ s f H _ I h) λv m a=>by refine iH a λx n k i q=>?_;exact ai8 k i q
def ajv{K}(f:K=B.K):∀c H R,loI B (WL.rZ ta) c H R->tSq K (lo B ta) c H R:=λc H R i=>by refine dc i λs F r q=>?_;have q:=Rq.bind q;refine dP s F r (Rq.mono (av.refl _) q λx j v p m h n o=>?_);cases x with|lst xs=>obtain⟨a,k,rfl,d,l⟩:=o;refine⟨a,rfl,.inl ⟨⟨k,by rw[f];exact h.rb.sub.seq d⟩,?_⟩⟩;rw[f];exact j _ _ m h n (abf d l)|tup xs=>obtain⟨a,k,rfl,d,l⟩:=o;refine⟨a,rfl,.inr ⟨⟨k,by rw[f];exact h.rb.sub.tup d⟩,?_⟩⟩;rw[f];exact j _ p m h n (aff d l)|_=>exact(j).elim
def eQ(a:X.K=B.K)(h:PE X e (lo B ta)):PI X tg e (loI B (WL.rZ ta)):=PI.imp (alP h) (ajv a)
def gO{a p pos}(w:Gl X "range")(y:X.mg "range"=none)(h:PE X a (lo B ta))(A:starEach [a] X.env=[(false,eval a X.env)]:=by rfl)(i:starEach [a] X.env=(false,eval a X.env)::starEach [] X.env:=by rfl):PI X tg (.Call (.Name "range" p) [a] [] pos) (loI B (WL.kN ta)):=PI.imp (acp w y (aa h ai i) A) λm H R l=>by
 refine dc l λd F C q=>?_;have q:=Rq.bind q;have u:Rq B d F (WL.ae ta WL.au d) λws=>∀n o k,RS B d m k o->Gr F H k o->RWs B.K k ws n->∃j:Int,n=[.int j]/\-2^62<=j/\j<2^62/\R (Itr 0 j.toNat) o:=by show Rq B d F ((ta d).bind λx=>.ok [x]) _;cases e:ta d with
 |ok x=>
   rw[e]at q;intro n t s G z D;refine de (cx D) λv r E=>?_;subst r
   cases x with|int j=>
    subst E;have q:Rq B d F (if -2^62<=j/\j<2^62 then .ok (WL.rng 0 j.toNat)else .bad) _:=q;by_cases f:-2^62<=j/\j<2^62;.rw[arM f]at q;exact⟨j,rfl,f.1,f.2,q _ t s G z xK⟩
    .rw[arO f]at q;exact q.elim|_=>exact(q).elim
 |ex c=>rw[e]at q;exact q|bad=>rw[e]at q;exact q
 exact dP d F C u
def aa9{a c p pos}(A:Gl X "range")(C:X.mg "range"=none)(h:PE X a (lo B ta))(h':PE X c (lo B tb))(G:starEach [a,c] X.env=[(false,eval a X.env),(false,eval c X.env)]:=by rfl)(m:starEach [c] X.env=[(false,eval c X.env)]:=by rfl)(k:starEach [a,c] X.env=(false,eval a X.env)::starEach [c] X.env:=by rfl)(f:starEach [c] X.env=(false,eval c X.env)::starEach [] X.env:=by rfl):PI X tg (.Call (.Name "range" p) [a,c] [] pos) (loI B (WL.uo ta tb)):=PI.imp (aco A C (aa h (aa h' ai f) k) G m) λn H R r=>by
 refine dc r λd F M q=>?_;have q:=Rq.bind q;have K:Rq B d F (WL.ae ta (WL.ae tb WL.au) d) λws=>∀t u l,RS B d n l u->Gr F H l u->RWs B.K l ws t->∃i j:Int,t=[.int i,.int j]/\(-2^62<=i/\i<2^62/\-2^62<=j/\j<2^62)/\R (Itr i (j-i).toNat) u:=by show Rq B d F ((ta d).bind λx=>((tb d).bind _).bind λD=>.ok (x::D)) _;cases e:ta d with
 |ok x=>rw[e]at q;have q:=Rq.bind q;cases s:tb d with
  |ok y=>rw[s]at q;intro t J z P E I;refine iH (two_of I) λv Q w N O=>?_;subst w;cases x with
   |int i=>cases y with|int j=>
      subst N O;have q:Rq B d F (if -2^62<=i/\i<2^62/\-2^62<=j/\j<2^62 then .ok (WL.rng i (j-i).toNat)else .bad) _:=q;by_cases o:-2^62<=i/\i<2^62/\-2^62<=j/\j<2^62;.rw[arM o]at q;exact⟨i,j,rfl,o,q _ J z P E xK⟩
      .rw[arO o]at q;exact q.elim|_=>exact(q).elim
   |_=>exact(q).elim
  |ex c=>rw[s]at q;exact q|bad=>rw[s]at q;exact q
 |ex c=>rw[e]at q;exact q|bad=>rw[e]at q;exact q
 exact dP d F M K
def vn{l es k D p pos}(d:X.K=B.K)(u:Gl X "enumerate")(w:X.mg "enumerate"=none)(h:PE X l (lo B ta))(z:starEach [l] X.env=[(false,eval l X.env)]:=by rfl):PI X (.Tuple es k D) (.Call (.Name "enumerate" p) [l] [] pos) (loI B (WL.wA ta)):=PI.imp (vM u w h z) λy H R i=>by refine dc i λC F A q=>?_;have q:=Rq.bind q;refine dP C F A (Rq.mono (av.refl _) q λx n v r o f s t=>?_);cases x with|tup xs=>obtain⟨a,j,rfl,c,m⟩:=t;refine⟨a,rfl,.inl ⟨⟨j,by rw[d];exact f.rb.sub.tup c⟩,?_⟩⟩;rw[d];exact n _ r o f s (abg c m)|lst xs=>obtain⟨a,j,rfl,c,m⟩:=t;refine⟨a,rfl,.inr ⟨⟨j,by rw[d];exact f.rb.sub.seq c⟩,?_⟩⟩;rw[d];exact n _ r o f s (zr c m)|_=>exact(n).elim
variable{m:Bool}{es:List Expr}{gs:GsF}
def aij{i}(h:PG X e (L2.ax i)):PG X e (loG m B (WL.ax i)):=PG.imp h λv c H Q a=>by obtain⟨d,F,w,R,r,q⟩:=a;exact q _ H F (R.set r) Gm.refl
def mG:PGs X [] (aoa m B WL.r6):=PGs.imp ai9 λd c H Q a=>by refine zl a λf F ws R r q=>?_;cases ws with|nil=>exact⟨r,q _ H F R Gm.refl⟩|cons w ws=>exact(q).elim
def cM(o:PG X e (loG m B g))(l:PGs X es (aoa m B gs))(y:(assignEach (e::es) X.env).map (·.2)=assign e X.env::(assignEach es X.env).map (·.2):=by rfl):PGs X (e::es) (aoa m B (WL.cz g gs)):=PGs.imp (afO o l y) λC x H Q d=>by refine zl d λa F ws R r q=>?_;cases ws with|nil=>exact(q).elim|cons w ws=>obtain⟨v,t,rfl,r,rt⟩:=r;refine⟨v,t,rfl,a,F,w,R,r,?_⟩;have q:Rq B a F (match g w a with|.ok σ'=>(match gs _ σ' with|.ok σ2=>.ok σ2|_=>.bad)|_=>.bad) _:=q;cases f:g w a with|bad=>rw[f]at q;exact q|ex c=>rw[f]at q;exact q.elim|ok σ1=>rw[f]at q;intro j A n s i;have q:Rq B a F (match gs ws σ1 with|.ok σ2=>.ok _|_=>.bad) _:=q;refine ag1 σ1 n ws s (rt.keep i.f) ?_;cases h:gs ws σ1 with|bad=>rw[h]at q;exact q|ok σ2=>rw[h]at q;exact λk p u R2 z=>q _ p u R2 (i.trans z)|ex c=>rw[h]at q;exact q.elim
def sg{k n}(y:X.K=B.K)(s:X.calm=true)(h:PGs X es (aoa m B gs))(u:(assignEach es X.env).length=n)(A:∀ws d f,gs ws d=.ok f->ws.length=n)(C:∀ws d c,gs ws d≠.ex c)(l:(assignEach es X.env).findIdx? (·.1)=none:=by rfl):PG X (.Tuple es k pos) (loG m B (WL.r0 gs)):=PG.imp (alQ s h u l) λv x H Q i=>by refine zl i λd F w R r q=>?_;cases w with
|tup ws=>refine iH r λa z o t p=>?_;subst o;have q:Rq B d F (gs _ d) _:=q;refine⟨a,z,rfl,by rw[y];exact R.rb.sub.tup t,?_,d,F,ws,R,p,q⟩;cases j:gs _ d with|ok f=>rw[<-p.length];exact A _ _ _ j|ex c=>exact(C _ _ _ j).elim|bad=>rw[j]at q;exact q.elim
|_=>exact(q).elim
def ur:∀ws c a,WL.r6 ws c=.ok a->ws.length=0:=λws c a h=>by cases ws<;>simp[WL.r6]at h;rfl
def eG{n}(h:∀ws d a,gs ws d=.ok a->ws.length=n):∀ws d a,WL.cz g gs ws d=.ok a->ws.length=n+1:=λws d a q=>by cases ws with|nil=>simp[WL.cz]at q|cons w ws=>have q:(match g w d with|.ok _=>(match gs _ _ with|.ok _=>Res.ok _|_=>.bad)|_=>.bad)=.ok _:=q;cases f:g w d with
 |ok σ1=>rw[f]at q;have q:(match gs ws _ with|.ok σ2=>Res.ok _|_=>.bad)=.ok _:=q;cases i:gs ws σ1 with|ok σ2=>simp[h _ _ _ i]|ex c|bad=>rw[i]at q;cases q
 |ex c=>rw[f]at q;cases q|bad=>rw[f]at q;cases q
def kP:∀ws a c,WL.cz g gs ws a≠.ex c:=λws a c q=>by cases ws with|nil=>simp[WL.cz]at q|cons w ws=>have q:(match g w a with|.ok _=>(match gs _ _ with|.ok _=>Res.ok _|_=>.bad)|_=>.bad)=.ex c:=q;cases d:g w a with|ok σ1=>rw[d]at q;have q:(match gs _ _ with|.ok σ2=>Res.ok _|_=>.bad)=.ex c:=q;cases f:gs _ _<;>rw[f]at q<;>cases q|ex c=>rw[d]at q;cases q|bad=>rw[d]at q;cases q
def amZ(h:∀ws a c,gs ws a≠.ex c):∀w a c,WL.r0 gs w a≠.ex c:=λw a c q=>by cases w<;>simp [WL.r0]at q<;>exact h _ _ _ q
abbrev Bx.calm(B:Bx):Bx:=⟨B.K,B.H0,B.F0,λ_ _ _=>False,λ_ _ _ _ _ h=>h⟩
def RS.ald{σ a F H}(R:RS B σ a F H):RS B.calm σ a F H:=⟨⟨R.rb.sub,R.rb.base,R.rb.fz0,R.rb.fr⟩,R.len,R.va,R.ow,R.ap,R.dd⟩
def RB.amc{F H}(R:RB B.calm F H):RB B F H:=⟨R.sub,R.base,R.fz0,R.fr⟩
def RS.ahead{σ:Ws}{f:L2.St}{F H:Hp}(R:RS B σ f F H)(k:Nat):RS B (List.replicate k .no++σ) (List.replicate k none++f) F H:=by
 have c:∀{i:Nat}{q:Sl},(List.replicate k Sl.no++σ)[i]?=some q->q≠.no->k<=i/\σ[i-k]?=some q:=λ{i q}e K=>by
  by_cases d:i<k;.rw[arX (by simpa using d)]at e;rw[atc,arM d]at e;exact absurd (asd e).symm K
  .rw[ar8 (by simp;omega)]at e;simp only[atn]at e;exact⟨by omega,e⟩
 have p:∀{i:Nat}{x:Option V},k<=i->f[i-k]?=some x->(List.replicate k none++f)[i]?=some x:=λ{i x}d e=>by rw[ar8 (by simp;omega)];simpa using e
 have r:∀{i:Nat}{x:Option V},k<=i->(List.replicate k none++f)[i]?=some x->f[i-k]?=some x:=λ{i x}d e=>by rw[ar8 (by simp;omega)]at e;simpa using e
 refine⟨R.rb,by simp[R.len],λi w e=>?_,λi ws e=>?_,λi j ws J a E n o G I=>?_,λi u D e=>?_,λi j u D A s a E n o G I=>?_,λi e=>?_⟩;rotate_left 3;.obtain⟨d,e⟩:=c e (by intro z;cases z);obtain⟨a,t,l,h⟩:=R.dd.od _ u D e;exact⟨a,t,p d l,h⟩
 .obtain⟨d,n⟩:=c n (by intro z;cases z);obtain⟨y,o⟩:=c o (by intro z;cases z);exact R.dd.ad _ _ u D A s a (by omega) n o (r d G) (r y I)
 .obtain⟨d,e⟩:=c e (by intro z;cases z);obtain⟨a,C,N,l,h⟩:=R.dd.ob _ e;exact⟨a,C,N,p d l,h⟩
 .obtain⟨d,e⟩:=c e (by intro z;cases z);obtain⟨v,l,h⟩:=R.va _ w e;exact⟨v,p d l,h⟩
 .obtain⟨d,e⟩:=c e (by intro z;cases z);obtain⟨a,M,l,h⟩:=R.ow _ ws e;exact⟨a,M,p d l,h⟩
 .obtain⟨d,n⟩:=c n (by intro z;cases z);obtain⟨y,o⟩:=c o (by intro z;cases z);exact R.ap _ _ ws J a (by omega) n o (r d G) (r y I)
def RS.forget{σ c d F H}(R:RS B σ d F H)(u:c.length=σ.length)(h:∀(i:Nat)f,c[i]?=some f->f≠.no->σ[i]?=some f):RS B c d F H:=⟨R.rb,by rw[u];exact R.len,λi w e=>R.va i w (h i _ e (by simp)),λi ws e=>R.ow i ws (h i _ e (by simp)),λi j ws l a k s r=>R.ap i j ws l a k (h i _ s (by simp)) (h j _ r (by simp)),R.dd.via rfl id (λ_ _ z=>.inl z) (λi f q e=>⟨h i _ e (by intro z;subst z;exact q),rfl⟩) (av.refl _) λ_ _ _ a p _ _ n t o=>⟨t,o,n⟩⟩
def Keeps(k:Nat)(g:GF):Prop:=∀w c a,g w c=.ok a->a.length=c.length/\∀j:Nat,k<=j->a[j]?=c[j]?
def bp{k i}(h:i<k):Keeps k (WL.ax i):=λw c a e=>by cases e;exact⟨by simp,λj d=>by grind⟩
end
end WS
set_option autoImplicit true
set_option relaxedAutoImplicit true
namespace WS
open PySem PySem.Spec PyProof.Rows L2
open WL(Res Sl Ws EF TF AF LF GF GsF SF Out Fs KO KF OX RF Sr)
section
variable{X:Cx}{B:Bx}{e tg iter:Expr}{pos:Pos}{ta tb:EF}{tt:TF}{it:LF}{g:GF}{b:SF}{k:Nat}
def agQ   (hg:Keeps k g)(R1:RS B σ σV F1 H1)(wk:Walk B.K J xs F1)(hx:xs.length<=WL.lim)(hc:WL.bH g tt ta (List.replicate k .no++σ) xs=.ok all)(fin:∀o h l,RB B h l->Gr F1 H1 h l->RWs B.K h all o->∀D,l D=none->Q (.ref D) (upd l D (.lst o))):qy (av H1) J (loG true B.calm g) (loT B.calm tt) (lo B.calm ta) (List.replicate k none++σV) H1 Q:=by
 refine⟨λi m o p l=>m=xs.length-i/\i<=xs.length/\o.length<=i/\∃h d rest,RS B.calm (List.replicate k .no++σ) p h l/\Gr F1 H1 h l/\RWs B.K h d o/\WL.bH g tt ta (List.replicate k .no++σ) (xs.drop i)=.ok rest/\d++rest=all,⟨xs.length,rfl,asr _,asr _,F1,[],all,(R1.ald).ahead k,Gr.refl,by simp[RWs],by simpa using hc,rfl⟩,?_⟩;rintro i m o p l⟨rfl,hi,P,h,d,rest,E,t,O,a,f⟩;refine⟨t.h,aue (arU P (arU hi hx)) (by decide),?_⟩;by_cases r:i<xs.length;.have hd:=asu r;rw[hd]at a;obtain⟨go,yl⟩:=wk.go i xs[i] (arQ r) h l t.f E.rb.sub;refine .inr ⟨go,λs x A=>s.length<=i+1/\∃C d rest,RS B.calm (List.replicate k .no++σ) x C A/\Gr F1 H1 C A/\RWs B.K C d s/\WL.bH g tt ta (List.replicate k .no++σ) (xs.drop (i+1))=.ok rest/\d++rest=all,λs x A⟨a1,a2⟩=>⟨xs.length-(i+1),by omega,rfl,r,a1,a2⟩,λv A hy=>?_⟩;obtain⟨C,U,r2⟩:=yl v A hy;simp only[WL.bH]at a;cases z:g xs[i] (List.replicate k .no++σ)with|bad=>rw[z]at a;cases a|ex c=>rw[z]at a;cases a|ok σ1=>
   rw[z]at a;obtain⟨kl,kk⟩:=hg _ _ _ z;refine⟨_,C,xs[i],U.rs _ _ _ E,r2,?_⟩;rw[z];intro q H3 F3 R3 R;have back:∀{w I:Hp},RS B.calm σ1 q w I->RS B.calm (List.replicate k .no++σ) q w I:=λ{w I}K=>K.forget kl.symm λj sl N ne=>by
    by_cases T:j<k;.rw[arX (by simpa using T),atc,arM T]at N;exact absurd (asd N).symm ne
    .rw[kk j (by omega)];exact N
   have n:=U.gr.trans ⟨R.f,R.h rfl,R.nf⟩;have a:((tt σ1).bind λb=>match b with|true=>(ta σ1).bind λy=>(WL.bH g tt ta (List.replicate k .no++σ) (xs.drop (i+1))).bind λo=>.ok (y::o)|false=>WL.bH g tt ta (List.replicate k .no++σ) (xs.drop (i+1)))=.ok rest:=a;cases M:tt σ1 with|bad=>rw[M]at a;cases a|ex c=>rw[M]at a;cases a|ok b=>rw[M]at a;refine⟨σ1,F3,R3,?_⟩;rw[M];intro I w K H;cases b with|false=>rw[arO ar2];exact⟨by omega,w,d,rest,back K,t.trans (n.trans H),O.keep (n.trans H).f,a,f⟩|true=>rw[arM rfl];have a:=a;cases G:ta σ1 with|bad=>rw[G]at a;cases a|ex c=>rw[G]at a;cases a|ok y=>rw[G]at a;refine⟨σ1,w,K,?_⟩;rw[G];intro u H5 F5 R5 Y Z;have a:=a;cases S:WL.bH g tt ta (List.replicate k .no++σ) (xs.drop (i+1))with|bad=>rw[S]at a;cases a|ex c=>rw[S]at a;cases a|ok zs=>rw[S]at a;cases a;exact⟨by rw[asm,auF];omega,F5,d++[y],zs,back R5,t.trans ((n.trans H).trans Y),(O.keep ((n.trans H).trans Y).f).app (.one Z),rfl,by rw[<-f];simp⟩
 .have ei:i=xs.length:=by omega
  subst ei;rw[atx]at a;simp only[WL.bH]at a;cases a;rw[asl]at f;subst f;exact .inl ⟨wk.stop h l t.f E.rb.sub,λD hD=>fin o h l E.rb.amc t O D hD⟩
def ac2(n:Keeps k g):∀a H Q,lo B (WL.hY k it g tt ta) a H Q->aiE k (loI B it) (loG true B.calm g) (loT B.calm tt) (lo B.calm ta) a H Q:=by
 intro a H Q⟨s,F,R,q⟩;have q:=Rq.bind (Rq.bind q);refine⟨s,F,R,Rq.mono (av.refl _) q λj d J u t m o wk=>?_⟩;by_cases i:j.length<=WL.lim;.rw[arM i]at d;cases e:WL.bH g tt ta _ j with|bad|ex c=>rw[e]at d;exact(d).elim|ok all=>rw[e]at d;refine qy.w (agQ n m wk i e λp v w h l r D f=>?_);exact d (.ref D) _ _ ((m.grow l h).new f _) (o.trans (l.trans (Gr.new (h.sub.free f) f _))) (by exact fD D p rfl (SqL.of ao) (r.keep (az (h.sub.free f) _)))
 .rw[arO i]at d;exact(d).elim
variable{scope:Scope}{ts:List Str}{elt:Expr}{ifs:List Expr}
def fH:agX X [] (loT B WL.kz):=λc s f H Q I a=>by obtain⟨d,F,R,q⟩:=a;exact afL _ s f H Q I (q H F R Gr.refl)
def dZ(L:CompLook X scope)(f:X.calm=true)(m:ts.length=k)(i:Keeps k g)(o:PI X tg iter (loI B it))(j:∀C c a d,PG (X.comp scope C ts c a d) tg (loG true B.calm g))(h:∀C c a d,agX (X.comp scope C ts c a d) ifs (loT B.calm tt))(l:∀C c a d,PE (X.comp scope C ts c a d) elt (lo B.calm ta))(n:∀x,foldedSetIterable iter X.env x=pure x:=by intro _;rfl):PE X (.ListComp elt [⟨tg,iter,ifs,0⟩] scope pos) (lo B (WL.hY k it g tt ta)):=by subst m;exact PE.imp (afP L f o j h l n) (ac2 i)
def aif (z:X.K=B.K)(D:Gl X x)(G:X.mg x=none)(K:bootBuiltins x=some (.type "list"))(h:PE X e (lo B ta))(E:x≠"__name__":=by decide)(s:Dbg x:=by decide)(C:starEach [e] X.env=(false,eval e X.env)::starEach [] X.env:=by rfl)(n:BT X pos []:=by rfl):PE X (.Call (.Name x p) [e] [] pos) (loL B (WL.amB ta)):=PE.imp (jQ lT D G K (aa h ai C) E s C n) λI H Q j=>by refine dc j λd F R q=>?_;have q:=Rq.bind q;refine dP d F R ?_;show Rq B d F ((ta d).bind λx=>.ok [x]) _;cases u:ta d with|bad|ex c=>rw[u]at q;exact q|ok w=>rw[u]at q;intro O N M f y J;refine de (cx J) λv t A=>?_;subst t;cases w with|lst xs=>obtain⟨a,m,rfl,i,o⟩:=A;exact⟨a,m,rfl,.inl (by rw[z];exact f.rb.sub.seq i),λl r=>an5 f y o r q⟩|tup xs=>obtain⟨a,m,rfl,i,o⟩:=A;exact⟨a,m,rfl,.inr (by rw[z];exact f.rb.sub.tup i),λl r=>an5 f y o r q⟩|_=>exact(q).elim
variable{st:Stmt}{sts rest:List Stmt}{s1 s2:SF}{i:Nat}
def aw:PSs X [] (loS B WL.sNx):=PSs.imp ace λD c H a=>by obtain⟨d,F,R,q⟩:=a;exact q _ H F R (av.refl _)
def amu:∀D a H,loS B (WL.aJ s1 s2) D a H->ali (loS B s1) (loS B s2) D a H:=λD a H f=>by refine dc f λd F R q=>?_;refine dP d F R ?_;have q:Oq B D F (match s1 d with|.nx _=>s2 _|o=>o):=q;cases e:s1 d with|nx σ'=>rw[e]at q;exact λh m j l s=>⟨_,j,l,Oq.mono s q⟩|bk σ'|ct σ'|rt w|ex c σ'|bad=>rw[e]at q;exact q
def ah(c:PS X st (loS B s1))(a:PSs X rest (loS B s2)):PSs X (st::rest) (loS B (WL.aJ s1 s2)):=PSs.imp (bT c a) amu
def ak(a:PS X st (loS B s1)):PSs X [st] (loS B s1):=ft a
def vl:PS X (.Continue pos) (loS B WL.sCt):=PS.imp vL λD c H a=>by obtain⟨d,F,R,q⟩:=a;exact q _ H F R (av.refl _)
def aid(l:PE X e (lo B ta))(f:swapsWith e none pos.line X.env=pure false:=by rfl):PS X (.Expr e pos) (loS B (WL.aiW ta)):=PS.imp (fu l f) λD d H a=>by obtain⟨h,F,R,q⟩:=a;have q:=Oq.ofR q;exact⟨h,F,R,Rq.mono (av.refl _) q λw j v n m c g r=>j _ _ _ c g.f⟩
def ar(j:PE X e (lo B ta)):PS X (.Return (some e) pos) (loS B (WL.bq ta)):=PS.imp (acf j) λD d H a=>by obtain⟨f,F,R,q⟩:=a;have q:=Oq.ofR q;exact⟨f,F,R,Rq.mono (av.refl _) q λw h v m l c g r=>h v _ _ c.rb g.f r⟩
def aa1:PS X (.Return none pos) (loS B WL.aiS):=PS.imp ai4 λD c H a=>by obtain⟨d,F,R,q⟩:=a;exact q _ H F R.rb (av.refl _) (rfl)
def aZ (j:PT X c (loT B tt))(o:PSs X a (loS B s1))(l:PSs X d (loS B s2)):PS X (.If c a d pos) (loS B (WL.sIf tt s1 s2)):=PS.imp (ai5 j o l) λD r H f=>by refine dc f λh F R q=>?_;have q:=Oq.ofR q;refine dP h F R (Rq.mono (av.refl _) q λx p s m n g=>?_);cases x with|true|false=>exact⟨h,m,n,Oq.mono g.f p⟩
def ahD (f:∀a H Q,lo B ta a H Q->tV a H Q):∀D a H,loS B (WL.bo i ta) D a H->akn tV (L2.ax i) D a H:=λD a H c=>by obtain⟨h,F,R,q⟩:=c;have q:=Oq.ofR q;exact f _ _ _ ⟨h,F,R,Rq.mono (av.refl _) q λw j v m l d g r=>j _ _ _ (d.set r) g.f⟩
def ajw (f:∀c H Q,loL B l c H Q->tV c H Q):∀D c H,loS B (WL.tx i l) D c H->akn tV (L2.ax i) D c H:=λD c H d=>by refine dc d λp F R q=>?_;have q:=Oq.ofR q;exact f _ _ _ (dP p F R (Rq.mono (av.refl _) q λws t a w x u m g s n o r h=>t _ _ _ (m.arj s n o r λj v _ e=>h j _ e) g.f))
def akT (a:X.N.Nodup)(j:X.N[i]?=some x)(f:Loc X.env.scope x)(c:PE X e (lo B ta))(h:swapsWith e (some (.Name x pos')) pos.line X.env=pure false:=by rfl)(d:FL X x:=by first|exact .inl rfl|exact .inr rfl|assumption):PS X (.Assign [.Name x pos'] e pos) (loS B (WL.bo i ta)):=PS.imp (tI a j f c h d) (ahD λ_ _ _ q=>q)
def mE  (a:X.N.Nodup)(j:X.N[i]?=some x)(f:Loc X.env.scope x)(c:PE X e (loL B l))(h:swapsWith e (some (.Name x pos')) pos.line X.env=pure false:=by rfl)(d:FL X x:=by first|exact .inl rfl|exact .inr rfl|assumption):PS X (.Assign [.Name x pos'] e pos) (loS B (WL.tx i l)):=PS.imp (tI a j f c h d) (ajw λ_ _ _ q=>q)
def ah9 (r:X.N.Nodup)(h:X.N[i]?=some y)(p:X.env.scope.names.lookup y=some .local)(f:swapsWith (.ListComp elt [⟨tg,iter,ifs,0⟩] scope pos) (some (.Name y py)) spos.line X.env=pure true)(L:CompLook X scope)(j:X.calm=true)(t:ts.length=k)(m:Keeps k g)(q:PI X tg iter (loI B it))(n:∀C c a d,PG (X.comp scope C ts c a d) tg (loG true B.calm g))(l:∀C c a d,agX (X.comp scope C ts c a d) ifs (loT B.calm tt))(s:∀C c a d,PE (X.comp scope C ts c a d) elt (lo B.calm ta))(o:∀x,foldedSetIterable iter X.env x=pure x:=by intro _;rfl):PS X (.Assign [.Name y py] (.ListComp elt [⟨tg,iter,ifs,0⟩] scope pos) spos) (loS B (WL.bo i (WL.hY k it g tt ta))):=by subst t;exact PS.imp (tH r h p f L j q n l s o) (ahD (ac2 m))
def akU(x:PE X e (lo B ta))(j:PG X tg (loG false B g))(E:∀w a c,g w a≠.ex c)(p:swapsWithSole [tg] e pos.line X.env=pure false:=by rfl)(hw:swappedStores [tg] e X.env=pure none:=by rfl)(m:(assignEach [tg] X.env).map (·.2)=[assign tg X.env]:=by rfl):PS X (.Assign [tg] e pos) (loS B (WL.aqB ta g)):=PS.imp (alL x j p hw m) λD o H d=>by refine dc d λa F R q=>?_;have q:=Oq.ofR q;exact dP a F R (Rq.mono (av.refl _) q λw u v C l n h r=>ag1 a l w n r (Rq.mono h.f (Oq.ofR u) λt s f z A R2 y=>s _ _ _ R2 (h.f.trans y.f)))
def aa6(E:X.K=B.K)(h:PS X st (zB (tBM X.K "list" qW (fE i) (m6 (lo B ta) abz)))):PS X st (loS B (WL.ako i ta)):=PS.imp h λD o H l=>by refine dc l λc F R q=>?_;have q:Oq B D F (match c[i]? with|some (.ow ws)=>WL.ofR c (ta c) _|_=>.bad):=q;cases d:c[i]? with|none=>rw[d]at q;exact q.elim|some sl=>rw[d]at q;cases sl with|no|va _|od _ _|ob=>exact q.elim|ow ws=>
   refine ke (R.ow i ws d) λa s p u z n t=>?_;have q:=Oq.ofR q;refine⟨.ref a,p,.inl ⟨rfl,s,SqL.of n⟩,c,F,R,Rq.mono (av.refl _) q λw j v C x A f y=>?_⟩;by_cases m:ws.length<WL.lim;.rw[arM m]at j;have r:=f.h a _ n;exact aki a s v rfl rfl r (by rw[<-t.length];exact arS m dM) (j o _ x (A.write d p (f.nf a _ n u) z r ((t.keep f.f).app (.one y))) f.f)
   .rw[arO m]at j;exact(j).elim
def sf(h:PS X st (loS B s1)):PS X st (loS B (WL.ahn i s1)):=PS.imp h λD d H a=>by refine dc a λj F R q=>?_;refine ju (R.frz i) λc s f _=>?_;exact⟨_,c,f,Oq.mono s q⟩
def amw:∀D o H,loS B (WL.nE it g b) D o H->aqx (loI B it) (loG false B g) (loS B b) D o H:=λD o H G=>by
 refine dc G λQ F R q=>?_;have q:=Oq.ofR q;refine dP Q F R (Rq.mono (av.refl _) q λh qx J H1 M R1 Z wk=>?_);refine⟨λi m d y=>m=h.length-i/\i<=h.length/\∃j l,RS B j d l y/\av M l/\Oq B D l (WL.forL g b (h.drop i) j),⟨h.length,rfl,asr _,Q,M,R1,av.refl _,by rw[atU];exact Oq.mono Z.f qx⟩,?_⟩;rintro i m d y⟨rfl,a0,j,l,C,K,s⟩;by_cases p:i<h.length;.have T:=asu p;rw[T]at s;obtain⟨go,U⟩:=wk.go i h[i] (arQ p) l y K C.rb.sub;refine .inr ⟨go,_,λa O S=>⟨h.length-(i+1),by omega,rfl,p,S⟩,λv O hy=>?_⟩;refine de (U v O hy) λF2 I r2=>?_;have s:=Oq.ofR s;refine ag1 j F2 h[i] (I.rs _ _ _ C) r2 (Rq.mono I.same s λz f P H3 N Y g3=>?_);refine dP z N Y ?_;have u:=I.same.trans g3.f;cases t:b z with|nx a|ct a=>rw[t]at f;exact λn E A x r=>⟨a,A,x,(K.trans u).trans r,Oq.mono (u.trans r) f⟩|bk a=>rw[t]at f;exact λn E A x r=>f n E A x (u.trans r)|rt w=>rw[t]at f;exact λv4 E A x r=>f v4 E A x (u.trans r)|ex c a=>rw[t]at f;exact B.mono c a l N u f|bad=>rw[t]at f;exact f
 .have ei:i=h.length:=by omega
  subst ei;rw[atx]at s;exact .inl ⟨wk.stop l y K C.rb.sub,s d y l C (av.refl _)⟩
def dJ (f:PassesOwn (model X.prog X.w) X.A X.env X.xe)(a:X.calm=true)(j:PI X tg iter (loI B it))(c:PG X tg (loG false B g))(d:PSs X body (loS B b))(h:∀x,foldedSetIterable iter X.env x=pure x:=by intro _;rfl):PS X (.For tg iter body [] pos) (loS B (WL.nE it g b)):=PS.imp (yd f a j c d h) amw
def ae4  (P:PassesOwn (model X.prog X.w) X.A X.env X.xe)(G:PT X c (loT B tt))(N:PSs X body (loS B b)):PS X (.While c body [] pos) (loS B (WL.abW n tt b)):=PS.imp (yc P G N) λD M H y=>by refine dc y λA F R q=>?_;refine⟨λm d C=>∃a j,RS B a d j C/\Oq B D j (WL.jw tt b m a),⟨n A,A,F,R,q⟩,?_⟩;rintro m d C⟨a,j,K,t⟩;cases m with|zero=>exact(t).elim|succ m=>have t:=Oq.ofR t;refine dP a j K (Rq.mono (av.refl _) t λx f J v E p=>?_);cases x with|false=>rw[arO ar2];exact f d J v E p.f|true=>refine⟨_,λz Q I=>⟨m,att m,I⟩,a,v,E,?_⟩;cases r:b a with|nx σ2|ct σ2=>rw[r]at f;exact λh u s l o=>⟨σ2,s,l,Oq.mono (p.f.trans o) f⟩|bk σ2=>rw[r]at f;exact λh u s l o=>f h u s l (p.f.trans o)|rt w=>rw[r]at f;exact λO u s l o=>f O u s l (p.f.trans o)|ex c σ2=>rw[r]at f;exact B.mono c σ2 j v p.f f|bad=>rw[r]at f;exact f
end
def spW(K:W.Frag)(n:Nat)(f:List VW->Res VW):Sp:=λd H Q _=>∃F ws,av F H/\RWs K F ws d/\ws.length=n/\match f ws with|.ok w=>∀v c b,av F b->av b c->av H c->(∀a o,b a=some o->F a=some o\/H a=none/\NF o)->RW K b w v->Q v c|_=>False
section
variable{P:Program}{w:World}{K:W.Frag}{mg:Str->Option Value}{base:Heap}
theorem RS.start{N F H ws vs}(s:av F H)(r:RWs K F ws vs)(B:ws.length<=N.length):RS ⟨K,H,F,λ_ _ _=>False,λ_ _ _ _ _ h=>h⟩ (ws.map .va++List.replicate (N.length-ws.length) .no) (L2.start N vs) F H:=by
 have p:=r.length;have b:∀{i:Nat}{c:Sl},(ws.map Sl.va++List.replicate (N.length-ws.length) Sl.no)[i]?=some c->c≠.no->∃u,ws[i]?=some u/\c=.va u:=λ{i c}e A=>by grind
 refine⟨⟨s,av.refl _,av.refl _,λa o h=>.inl h⟩,by simp[L2.start,p],λi u e=>?_,λi f e=>?_,λi j f d a g k n _ _=>?_,λi y f e=>?_,λi j y f m d a g k n _ _=>?_,λi e=>?_⟩;rotate_left 3;.refine de (b e (by intro z;cases z)) λx ex h=>?_;cases h
 .obtain⟨x,ex,h⟩:=b k (by intro z;cases z);cases h
 .obtain⟨x,ex,h⟩:=b e (by intro z;cases z);cases h
 .refine de (b e (by intro z;cases z)) λx ex h=>?_;cases h;obtain⟨v,l,t⟩:=r.get ex;refine⟨v,?_,t⟩;have q:i<vs.length:=(arL.mp l).1;unfold L2.start;rw[arX (by simpa using q),ar3,l];rfl
 .obtain⟨x,ex,h⟩:=b e (by intro z;cases z);cases h
 .obtain⟨x,ex,h⟩:=b k (by intro z;cases z);cases h
end
section
variable{X:Cx}{B:Bx}{k:Nat}{f:Addr}{fd:FuncData}{ps:List Str}{fn:List VW->Res VW}{x:Str}{p pos:Pos}{e:Expr}{es:List Expr}{tas:AF}{n:Nat}
def ac4(G:X.K=B.K){E}(K:∀d ws,tas d=.ok ws->ws.length=n):∀b H Q,lo B (WL.ay fn tas) b H Q->aiF (spW X.K n fn) [] E (loA B tas) b H Q:=by intro b H Q⟨d,F,R,q⟩;have q:=Rq.bind q;refine dP d F R ?_;cases l:tas d with|bad|ex c=>rw[l]at q;exact q|ok ws=>rw[l]at q;intro P O s g C I;rw[asl,G];refine aeW s ws g.rb.sub I (K d ws l) ?_;have h:Rq B d F (match fn ws with|.ok w=>.ok w|_=>.bad) _:=q;cases A:fn ws with
|bad|ex c=>rw[A]at h;exact h.elim
|ok w=>rw[A]at h;intro v m i y M t fr N;have u:Gr s _ i m:=⟨y,t,λa o D j=>by cases r:i a with|none=>rfl|some o2=>
  rcases fr a o2 r with z|z;.rw[j]at z;cases z
  .rw[D]at z;cases z.1⟩;have J:RB B i m:=⟨M,g.rb.base.trans t,g.rb.fz0.trans y,λa o r=>by
  rcases fr a o r with z|z;.exact g.rb.fr a o z
  .exact .inr ⟨g.rb.base.free z.1,z.2⟩⟩;exact h v m i (g.grow u J) (C.trans u) N
def abc(h:X.K=B.K)(F:FnOk X.prog X.w X.K X.mg X.base CX0 k f fd ps (spW X.K n fn))(q:Room k X.A)(d:Gl X x)(j:X.mg x=some (.ref f))(o:W.keepIn X.K (.ref f)=true)(g:Binds X.K fd ps [])(m:PA X (e::es) (loA B tas))(l:∀c ws,tas c=.ok ws->ws.length=n)(a:Dbg x:=by decide)(i:SE X e es:=by rfl)(b:BT X pos es:=by rfl):PE X (.Call (.Name x p) (e::es) [] pos) (lo B (WL.ay fn tas)):=PE.imp (ajb F q d j o g .nil alZ m a i b) (ac4 h l)
def afd(g:X.K=B.K)(F:FnOk X.prog X.w X.K X.mg X.base CX0 k f fd ps (spW X.K 0 fn))(i:Room k X.A)(c:Gl X x)(j:X.mg x=some (.ref f))(l:W.keepIn X.K (.ref f)=true)(d:Binds X.K fd ps [])(a:Dbg x:=by decide):PE X (.Call (.Name x p) [] [] pos) (lo B (WL.ay fn WL.au)):=PE.imp (afT F i c j l d .nil alZ a) λm H Q q=>by have h:=ac4 (E:=E0) g λb ws e=>by cases e;rfl _ H Q q;refine dc h λb F R h=>?_;exact h _ H F R Gr.refl (rfl)
def dE:∀a(ws:List VW),WL.au a=.ok ws->ws.length=0:=λa ws e=>by cases e;rfl
def aH (h:∀a(ws:List VW),tas a=.ok ws->ws.length=n):∀a(ws:List VW),WL.ae t tas a=.ok ws->ws.length=n+1:=λa ws q=>by have q:(t a).bind _=.ok _:=q;cases d:t a with|bad|ex c=>rw[d]at q;cases q|ok x=>rw[d]at q;cases b:tas a with|bad|ex c=>rw[b]at q;cases q|ok xs=>rw[b]at q;cases q;simp[h a _ b]
end
def abI(K:W.Frag):Sp:=λc H Q _=>∃(a:Addr)(b:List Int),c=[.ref a]/\SqL K H a (b.map V.int)/\b.length<=63/\∀d,Q (.bl true) d
def amz{P w K j b k f g ps i}(G:FnOk P w K j b CX0 k f g ps (spW K 1 i))(h:∀d:List Int,d.length<=63->i [.lst (d.map .int)]=.ok (.bl true)):FnOk P w K j b CX0 k f g ps (abI K):=G.imp λo H Q E c=>by refine my c λa d e l m q=>?_;subst e;refine⟨H,[.lst _],av.refl _,.one (by exact⟨a,_,rfl,l,RWs.ints _⟩),rfl,?_⟩;rw[h _ m];intro v p n _ _ _ _ r;subst r;exact q _
section
variable{X:Cx}{K:W.Frag}
def rT:∀a c,WL.agU a≠.ex c:=λa c h=>by
 unfold WL.agU at h;split at h;.split at h<;>cases h
 .cases h
theorem aeC{F}:∀{xs vs b},RWs K F xs vs->WL.allB xs=some b->∃bs:List Bool,vs=bs.map V.bl/\bs.all id=b|[],vs,b,r,e=>by subst r;cases e;exact⟨[],rfl,rfl⟩|x::xs,vs,b,r,e=>by obtain⟨v,t,rfl,q,s⟩:=r;cases x with
 |bl k=>simp only[WL.allB]at e;cases a:WL.allB xs with|none=>rw[a]at e;cases e|some c=>rw[a]at e;cases e;obtain⟨bs,rfl,h⟩:=aeC s a;subst q;exact⟨k::bs,rfl,by simp only[List.all_cons,id,h]⟩
 |_=>simp[WL.allB]at e
set_option tactic.hygienic true
def w_all(i:X.calm=true)(k:X.K=K):bG X (.builtin "all") (loN K WL.agU):=by subst k;refine bG.imp (aex i) λn H Q f=>?_;refine iH f λF ws s r q=>?_;cases e:WL.agU _ with|bad|ex c=>rw[e]at q;exact q.elim|ok w=>
  rw[e]at q;unfold WL.agU at e;split at e
  .split at e;.rename_i b l;cases e;obtain⟨v,rfl,h⟩:=cx r;refine iH h λa o g j m=>?_;subst g;obtain⟨bs,rfl,d⟩:=aeC m l;subst d;exact⟨a,bs,rfl,s.seq j,eq1 q (rfl)⟩
   .cases e
  .cases e
set_option tactic.hygienic false
end
section
variable{X:Cx}{B:Bx}{K:W.Frag}{o e:Expr}{es:List Expr}{to ta:EF}{tas:AF}{pos apos cpos:Pos}
theorem um:∀{ys:List VW}{x:VW}{j k:Nat}{n m:Nat},WL.okD n x=true->WL.gL m ys=true->WL.idx x j ys=some k->∃i,k=j+i/\aeH (λz=>PyData.eqv z (toD x)) (kj ys) i|[],_,_,_,_,_,_,_,e=>by simp[WL.idx]at e|y::ys,x,j,k,n,m,hx,a,e=>by cases m with|zero=>cases a|succ m=>
   have a:=asF.mp a;simp only[WL.idx]at e;have g:=kY m n y x a.1 hx;by_cases h:WL.eqv y x=true;.rw[arM h]at e;cases e;refine⟨0,rfl,⟨toD y,rfl,by show PyData.eqv (toD y) (toD x)=true;rw[g];exact h⟩,λm d f=>absurd f (avF _)⟩
   .rw[arO h]at e;obtain⟨i,rfl,⟨d,p,l⟩,q⟩:=um hx a.2 e;refine⟨i+1,by omega,⟨d,by simpa[kj]using p,l⟩,λc r f b=>?_⟩;cases c with|zero=>simp[kj]at b;subst b;show PyData.eqv (toD y) (toD x)=false;rw[g];simpa using h|succ c=>exact q c r (by omega) (by simpa[kj]using b)
set_option tactic.hygienic true
def ae6{x:Expr}(r:X.K=B.K)(hu:X.A.units+64<cLine)(U:PE X o (lo B to))(T:PA X [x] (loA B tas))(f:attributeBase o "index" X.env (eval o X.env)=eval o X.env:=by rfl)(l:((backTo cpos (starEach [x] X.env)).all (λx=>!x.1)&&(backToKw cpos (keywordEach [] X.env)).all (λx=>x.1.isSome)&&decide (([x]:List Expr).length+([]:List Keyword).length+(if([]:List Keyword).isEmpty then 0 else 1)<30))=true:=by rfl)(g:(apos.endLine==cpos.line)=true:=by rfl)(P:starEach [x] X.env=(false,eval x X.env)::starEach [] X.env:=by rfl)(d:BT X cpos []:=by rfl):PE X (.Call (.Attribute o "index" apos) [x] [] cpos) (lo B (WL.uL "list" WL.iR to tas)):=PE.imp (o6 asQ PySem.F.slot_list_index PySem.F.type_list_index acN U T f l g P d) λO H Q t=>by obtain⟨n,F,R,q⟩:=t;have q:=Rq.bind q;refine⟨n,F,R,Rq.mono (av.refl _) q λw p v H1 I E A s=>?_⟩;cases w with
 |lst ys=>have p:=Rq.bind (show Rq B n F ((tas n).bind λws=>WL.iR (.lst ys) ws) _ from p);have y:=s;simp only[RW]at s;obtain⟨a,vs,rfl,M,ra⟩:=s;refine⟨.inl ⟨rfl,vs,by rw[r];exact E.rb.sub.seq M⟩,n,I,E,Rq.mono A.f p λws m us Y F2 R2 D r2=>?_⟩;cases em:WL.iR (.lst ys) ws with
  |bad=>rw[em]at m;exact m.elim|ex c=>
    unfold WL.iR at em;split at em
    .split at em;.split at em<;>cases em
     .cases em
    .cases em|ok z=>
    rw[em]at m;unfold WL.iR at em;split at em
    .rename_i e1 e2 a0 G N;cases N;split at em
     .rename_i b;rw[asj,asj]at b;obtain⟨b,j⟩:=b;split at em
      .rename_i k hk;cases em;obtain⟨u,rfl,Z⟩:=cx r2;obtain⟨i,C,J⟩:=um b.1 b.2 hk;have C:k=i:=by omega
       subst C;have sub:=R2.rb.sub;have S:=RW.isD 51 (.lst ys) (.ref a) b.2 ((y.keep D.f).keep sub);have h:(kj ys).length<=1000000:=by rw[l9,ar7];exact aus j
       refine⟨50,u,toD G,kj ys,k,rfl,by rw[r];exact RW.isD 50 G u b.1 (Z.keep sub),by rw[r];exact S,by omega,J,h,?_⟩;exact m (.int k) Y F2 R2 (A.trans D) (by simp[RW])
      .cases em
     .cases em
    .cases em
 |_=>exact(show False from p).elim
set_option tactic.hygienic false
def ajX{P w K j b x c st f g N ps k m}(r:Fun K x c st f g)(S:FnScope N ps (af st))(n:ps.length=m):FnOk P w K j b CX0 k f g ps (spW K m λ_=>.bad):=⟨λl H Q E a=>by refine my a λ_ _ _ _ _ h=>?_;exact h.elim,λA d s H i p l Q E q t y v u a=>by refine my a λ_ _ _ _ _ h=>?_;exact h.elim⟩
def ahP{F}:∀k u,WL.oV k [] []=some u->∃v,List.lookup k []=some v/\RW K F u v:=λk u h=>by simp[WL.oV]at h
def hI{F x b a}{ks vs:List VW}{kvs}(c:RW K F b a)(h:∀k u,WL.oV k ks vs=some u->∃v,kvs.lookup k=some v/\RW K F u v):∀k u,WL.oV k (.str x::ks) (b::vs)=some u->∃v,List.lookup k ((x,a)::kvs)=some v/\RW K F u v:=λk u e=>by
 simp only[WL.oV]at e;by_cases f:x=k;.subst f;simp at e;subst e;exact⟨a,by simp,c⟩
 .obtain⟨v,g,d⟩:=h k u (by grind);exact⟨v,by grind,d⟩
def akZ{a i f a0 kvs}{ks vs:List VW}(A:X.K=B.K)(t:PE X a (tC (.ref a0)))(D:aeK X.w X.K a0 kvs)(r:PE X i (lo B f))(x:∀F k w,WL.oV k ks vs=some w->∃v,kvs.lookup k=some v/\RW B.K F w v)(p:lr i):PE X (.Subscript a i pos) (lo B (WL.eOp WL.oIx (WL.eC (.dic ks vs)) f)):=PE.imp (alW (ago D) t r p) λn H Q d=>by refine dc d λc F R q=>?_;have q:=Rq.bind (show Rq B c F ((f c).bind _) _ from q);refine dP c F R (Rq.mono (av.refl _) q λy b v j g z m s=>?_);cases y with
 |str k=>have b:Rq B c F (WL.ofO _) _:=b;cases e:WL.oV k ks vs with|none=>rw[e]at b;exact b.elim|some w=>rw[e]at b;refine de (x g k w e) λu l h=>?_;exact⟨rfl,k,u,s,l,b u j g z m h⟩
 |_=>exact(b).elim
end
end WS
set_option autoImplicit true
set_option relaxedAutoImplicit true
namespace WS
open PySem PySem.Spec PyProof.Rows L2
open WL(Res Sl Ws EF TF AF LF GF GsF SF Out Fs KO KF OX RF Sr)
def XR(K:W.Frag)(F:Hp):VW->Addr->Option Addr->Prop|.exc nm fs,C,dx=>ExcAt K nm C/\∃a:List (Str×V),a.map (·.1)=WL.fieldsOf nm/\RWs K F fs (a.map (·.2))/\(a=[]/\dx=none\/∃d,dx=some d/\F d=some (.xd a))|_,_,_=>False
theorem XR.keep{K F F'}(s:av F F'){c C dx}(h:XR K F c C dx):XR K F' c C dx:=by cases c with|exc nm fs=>obtain⟨g,f,b,j,i⟩:=h;exact⟨g,_,b,j.keep s,i.imp (λz=>z) λa=>by obtain⟨d,e,k⟩:=a;exact⟨d,e,s _ _ k⟩⟩|_=>exact h
def XR.is{K F c C dx}(h:XR K F c C dx):∃a fs,c=.exc a fs/\ExcAt K a C:=by cases c with|exc a fs=>exact⟨a,fs,rfl,h.1⟩|_=>exact h.elim
def XW(X:Cx)(B:Bx):Prop:=∀(a:List (Addr×Obj))(b:L2.St)(H:Hp)(s:Shared)(d:Ws)(F:Hp)(c:VW),RS B d b F H->B.xp c d F->∀(e C:Addr)(f T:Option Addr)(g:Value),Thr X a b H s e C f g T->XR X.K F c C f->X.xe (.ref e) s
abbrev Bx.pJ(B:Bx)(a:VW->Ws->Hp->Prop)(mono:∀c b F d,av F d->a c b F->a c b d):Bx:=⟨B.K,B.H0,B.F0,a,mono⟩
abbrev Bx.never(B:Bx):Bx:=B.pJ (λ_ _ _=>False) λ_ _ _ _ _ h=>h
def qA (h:∀c a F,¬B.xp c a F):XW X B:=λ_ _ _ _ a F c _ q=>(h c a F q).elim
section
variable{B B':Bx}{σ:Ws}{σV:L2.St}{F H:Hp}
def RB.box(R:RB B F H)(c:B'.H0=B.H0)(b:B'.F0=B.F0):RB B' F H:=⟨R.sub,c▸R.base,b▸R.fz0,λa o e=>by rw[c,b];exact R.fr a o e⟩
theorem RS.box(R:RS B σ σV F H)(b:B'.K=B.K)(a:B'.H0=B.H0)(c:B'.F0=B.F0):RS B' σ σV F H:=⟨R.rb.box a c,R.len,λi w e=>by rw[b];exact R.va i w e,λi ws e=>by rw[b,a];exact R.ow i _ e,R.ap,by rw[b,a];exact R.dd⟩
end
section
variable{X:Cx}{B:Bx}{k:Nat}{f:Addr}{fd:FuncData}{ps:List Str}{fn:List VW->Res VW}{x:Str}{p pos np hpos cpos:Pos}{e:Expr}{es:List Expr}{tas:AF}{n:Nat}{st:Stmt}
def spX(K:W.Frag)(n:Nat)(f:List VW->Res VW):Sp:=λh H Q E=>∃F ws,av F H/\RWs K F ws h/\ws.length=n/\match f ws with|.ok w=>∀v d b,av F b->av b d->av H d->(∀a o,b a=some o->F a=some o\/H a=none/\NF o)->RW K b w v->Q v d|.ex c=>∀C g d b,av F b->av b d->av H d->(∀a o,b a=some o->F a=some o\/H a=none/\NF o)->XR K b c C g->E (.ref C) g d|.bad=>False
def RS.ext3{σ i c d b h}(j:RS B σ i c d)(q:av c b)(t:av b h)(r:av d h)(fr:∀a o,b a=some o->c a=some o\/d a=none/\NF o):Gr c d b h/\RS B σ i b h:=by
 have g:Gr c d b h:=⟨q,r,λa o s l=>by cases m:b a with|none=>rfl|some o2=>
  rcases fr a o2 m with z|z;.rw[l]at z;cases z
  .rw[s]at z;cases z.1⟩;exact⟨g,j.grow g ⟨t,j.rb.base.trans r,j.rb.fz0.trans q,λa o m=>(fr a o m).elim (λz=>j.rb.fr a o z) λz=>.inr ⟨j.rb.base.free z.1,z.2⟩⟩⟩
def me{σ a F H j z ws vs us Q}(J:X.K=B.K)(N:XW X B)(I:RS B σ a j z)(g:Gr F H j z)(r:RWs B.K j ws vs)(P:ws.length=n)(q:Rq B σ F (fn ws) λw=>∀v h o,RS B σ a o h->Gr F H o h->RW B.K o w v->Q v h)(R:us=vs):∃E:XK,spX X.K n fn us z Q E/\∀b s e C i T h,Thr X b a h s e C i .none (some T)->E (.ref C) i h->X.xe (.ref e) s:=by
 rw[J,R];refine⟨λC i l=>∃u d c,C=.ref u/\RS B σ a d l/\B.xp c σ d/\XR B.K d c u i,⟨j,ws,I.rb.sub,r,P,?_⟩,λb s e C i T h t⟨u,d,c,M,R2,S,G⟩=>?_⟩;.cases A:fn ws with|bad=>rw[A]at q;exact q.elim|ok w=>rw[A]at q;intro v l d m D y fr O;obtain⟨K,R2⟩:=I.ext3 m D y fr;exact q v l d R2 (g.trans K) O|ex c=>rw[A]at q;intro C i l d m D y fr G;obtain⟨K,R2⟩:=I.ext3 m D y fr;exact⟨C,d,c,rfl,R2,B.mono c σ F d (g.f.trans m) q,G⟩
 .cases M;exact N b a h s σ d c R2 S e C i (some T) _ t (by rw[J];exact G)
def agh(l:X.K=B.K)(j:XW X B)(h:∀b ws,tas b=.ok ws->ws.length=n):∀a H Q,lo B (WL.bS fn tas) a H Q->abB X (spX X.K n fn) [] (loA B tas) a H Q:=by intro a H Q⟨b,F,R,q⟩;have q:=Rq.bind q;refine dP b F R ?_;cases d:tas b with|bad|ex c=>rw[d]at q;exact q|ok ws=>rw[d]at q;exact λo s r m i g=>me l j m i g (h b ws d) q (asl _)
def afc(h:X.K=B.K)(o:XW X B)(F:FnOk X.prog X.w X.K X.mg X.base (CXX X.prog X.w) k f fd ps (spX X.K n fn))(r:Room k X.A)(d:Gl X x)(j:X.mg x=some (.ref f))(q:W.keepIn X.K (.ref f)=true)(g:Binds X.K fd ps [])(m:PA X (e::es) (loA B tas))(l:∀c ws,tas c=.ok ws->ws.length=n)(a:Dbg x:=by decide)(i:SE X e es:=by rfl)(b:BT X pos es:=by rfl):PE X (.Call (.Name x p) (e::es) [] pos) (lo B (WL.bS fn tas)):=PE.imp (yk F r d j q g .nil m a i b) (agh h o l)
def eP:PS X st (loS B WL.vH):=λb s c H D I a=>by obtain⟨d,F,R,q⟩:=a;exact(q).elim
def ae5 (J:X.K=B.K)(G:XW X B)(l:X.calm=true)(o:Gl X x)(v:X.mg x=some (.ref C))(q:vc X.K C none)(u:ExcAt X.K nm C)(y:WL.fieldsOf nm=[])(E:PA X (e::es) (loA B tas))(r:Dbg x:=by decide)(A:SE X e es:=by rfl)(a:BT X cpos es:=by rfl):PS X (.Raise (some (.Call (.Name x np) (e::es) [] cpos)) none pos) (loS B (WL.ahm nm tas)):=PS.imp (afK l o v q E r A a) λD g H d=>by
 refine dc d λh F R q=>?_;have q:=Oq.ofR q;refine dP h F R (Rq.mono (av.refl _) q λws c K m j I w z=>?_);by_cases i:ws.length<=100;.rw[arM i]at c;exact⟨by rw[<-z.length];exact arU i (by decide),λb s e t=>G b g m s h j _ I (B.mono _ h F j w.f c) e C none none _ t ⟨u,[],by rw[y];rfl,by simp[RWs],.inl ⟨rfl,rfl⟩⟩⟩
 .rw[arO i]at c;exact(c).elim
theorem Oq.box  (l:B'.K=B.K)(d:B'.H0=B.H0)(b:B'.F0=B.F0)(j:∀c a,o=.ex c a->B'.xp c a F)(h:Oq B D F o):Oq B' D F o:=by cases o with|nx a|bk a|ct a=>exact λm i g R s=>h _ _ _ (R.box l.symm d.symm b.symm) s|rt w=>exact λv i g R s r=>h v _ _ (R.box d.symm b.symm) s (by grind)|ex c a=>exact j c a rfl|bad=>exact h
def Oq.aol{f:VW->Ws->Out}(i:B'.K=B.K)(d:B'.H0=B.H0)(b:B'.F0=B.F0)(g:∀c a,Oq B D F (f c a)->B'.xp c a F)(h:Oq B D F (match o with|.ex c a=>f c a|o=>o)):Oq B' D F o:=by cases o with|ex c a=>exact g c a h|_=>exact Oq.box i d b (λ_ _ z=>by cases z) h
def ag6{j a Q C d tb th}(Y:X.K=B.K)(hs:X.stack=X.env::X.outer)(hf:X.env.frame=some X.env.locals)(hg:Gl X x)(hm:X.mg x=some (.ref C))(hc:∀l U,ExcAt X.K l U->W.exmOne X.K (.ref U) (.ref C)=some (WL.md l d))(hb:∀E S B',B'.K=X.K->XW (X.tri E S) B'->PassesOwn (model X.prog X.w) X.A X.env E->PSs (X.tri E S) j (loS B' tb))(hh:∀e B',B'.K=X.K->XW (X.sui e) B'->PSs (X.sui e) (Q::a) (loS B' th))(hd:Dbg x:=by decide):PS X (.Try j [.ExceptHandler (some (.Name x np)) none (Q::a) hpos] [] [] pos) (loS B (WL.aiR tb d th)):=by
 intro b s G H D I⟨σ,F,R,q⟩;refine wpAny_Try_except ?_;let O:Value->Shared->Prop:=λe w=>wpAny (model X.prog X.w) X.A (noteFrame e X.env) (λ_ y=>wpAny (model X.prog X.w) X.A (setFlight e none) (λ_ v=>wpAny (model X.prog X.w) X.A (handleBy e X.env [.ExceptHandler (some (.Name x np)) none (Q::a) hpos]) (SP X b D) X.xe v) X.xe y) X.xe w;let K:Bx:=B.pJ (λc g F'=>Oq B D F' (WL.hOut d th c g)) λc g F' a0 s h=>Oq.mono s h;have xw:XW (X.tri O (X.pn++b)) K:=by
  intro N u H1 s1 i F1 c R1 r e Ce dx T A t xr;have t2:=t.iZ;refine dc xr.is λl fs M ce=>?_;subst M;have r:Oq B D F1 _:=r;have ex:=hc l Ce ce
  cases m:WL.md l d with|false=>
  have:WL.hOut d th (.exc l fs) i=.bad:=by simp[WL.hOut,WL.la,m]
  rw[this]at r;exact r.elim|true=>
   have hO:WL.hOut d th (.exc l fs) i=match th i with|.ex _ _=>.bad|o=>o:=by unfold WL.hOut;rw[show WL.la d (.exc l fs)=true from m];rfl
   rw[hO]at r;rw[m]at ex;refine t2.note hs hf λh' T' _ t3=>t3.uv λa1 t4=>wD t4 hg hm ex (λh3 t5=>?_) hd;have J:=t5.inv;let Z:Bx:=B.never;have P:=hh e Z Y.symm (qA λ_ _ _ z=>z);refine asi (P b _ u H1 D (J.sui e) ⟨i,F1,R1.box rfl rfl rfl,?_⟩) (λA s' h=>SP.back J h) λ_ _ z=>z;exact Oq.aol (B:=B) (B':=Z) (f:=λ_ _=>.bad) rfl rfl rfl (λ_ _ z=>(show False from z).elim) r
 have P:=hb O (X.pn++b) K Y.symm xw PassesOwn.looking;refine asi (P [] s G H D (I.tri O) ⟨σ,F,R.box rfl rfl rfl,?_⟩) (λA s' h=>?_) λ_ _ z=>z;.have q:Oq B D F (match tb σ with|.ex c g=>WL.hOut d th c g|o=>o):=q;exact Oq.aol (B:=B) (B':=K) rfl rfl rfl (λ_ _ z=>z) q
 .have h:=SP.iZ h;cases A with|next=>exact atD h|_=>exact h
end
section
variable{P:Program}{w:World}{K:W.Frag}{mg:Str->Option Value}{base:Heap}
def wN{x a st f D N ps k m n}{G:List VW->Res VW}(t)(R:Fun K x a st f D)(S:FnScope N ps (af st))(M:N.length=n)(g:ps.length=m)(p:WL.run n t=G)(J:ps.length<=N.length)(h:∀d A b s H E B,B.K=K->Room k (A.deeper (envOfC a (af st) s.heap.objs.size f d))->XW (fA CX0 P w K mg base N a (af st) f d A b s H E).nox B->PassesOwn (model P w) (A.deeper (envOfC a (af st) s.heap.objs.size f d)) (envOfC a (af st) s.heap.objs.size f d) (λ_ _=>False)->PSs (fA CX0 P w K mg base N a (af st) f d A b s H E).nox (aL st) (loS B t)):FnOk P w K mg base CX0 (k+1) f D ps (spW K m G):=by subst M g p;refine R.ok S (λT H Q E i=>by refine my i λF ws _ r I _=>?_;rw[<-r.length];exact I) λd A b s H T Q E O i=>?_;refine my i λF ws U r I g=>?_;refine⟨_,h d A b s H E _ rfl O (qA λ_ _ _ z=>z) PassesOwn.never,_,F,RS.start U r (by omega),?_⟩;unfold WL.run at g;cases e:t _ with|rt w=>rw[e]at g;exact λv q j o u y=>g v q j u o.sub o.base o.fr y|nx σ'=>rw[e]at g;exact λC q j l u=>g .non q j u l.rb.sub l.rb.base l.rb.fr (rfl)|bk σ'|ct σ'|ex c σ'|bad=>rw[e]at g;exact g.elim
def adW{x b st f O N ps k m n}{R:List VW->Res VW}(t)(Fn:Fun K x b st f O)(S:FnScope N ps (af st))(hn:N.length=n)(g:ps.length=m)(z:WL.run n t=R)(a0:ps.length<=N.length)(h:∀d A a s H E B,B.K=K->Room k (A.deeper (envOfC b (af st) s.heap.objs.size f d))->XW (fA (CXX P w) P w K mg base N b (af st) f d A a s H E) B->PassesOwn (model P w) (fA (CXX P w) P w K mg base N b (af st) f d A a s H E).A (fA (CXX P w) P w K mg base N b (af st) f d A a s H E).env (fA (CXX P w) P w K mg base N b (af st) f d A a s H E).xe->PSs (fA (CXX P w) P w K mg base N b (af st) f d A a s H E) (aL st) (loS B t)):FnOk P w K mg base (CXX P w) (k+1) f O ps (spX K m R):=by subst hn g z;refine ahW Fn.ex λoc od kV a2 pm an d ct a1 J lk G=>?_;subst J;refine wH lk G S (λvs H Q E p=>by refine my p λF ws _ r Y _=>?_;rw[<-r.length];exact Y) λA a s H vs Q E hr _ p=>?_;refine my p λF ws sm r Y g=>?_;let X:Bx:=⟨K,H,F,λ_ _ _=>False,λ_ _ _ _ _ h=>h⟩;let B1:Bx:=X.pJ (λc _ u=>∀C l j i,av u i->RB X i j->XR K i c C l->E (.ref C) l j) λc σ u F2 s h C l j i q=>h C l j i (s.trans q);refine⟨_,h d A a s H E B1 rfl hr (λU Z H1 s1 σ u c R1 xp e C l T fl t I=>kK t (xp C l H1 u (av.refl _) (R1.rb.box rfl rfl) I)) atO,_,F,(RS.start sm r (by omega)).box rfl rfl rfl,?_⟩;unfold WL.run at g;cases e:t _ with|rt w=>rw[e]at g;exact λv j i o q D=>g v j i q o.sub o.base o.fr D|nx σ'=>rw[e]at g;exact λM j i y q=>g .non j i q y.rb.sub y.rb.base y.rb.fr (rfl)|bk σ'|ct σ'=>rw[e]at g;exact g.elim|ex c σ'=>rw[e]at g;exact λC l j i q o I=>g C l j i q o.sub o.base o.fr I|bad=>rw[e]at g;exact g.elim
end
structure Exc1(K:W.Frag)(FE Ca:Addr):Prop where
 ty:W.typeIn K (.ref Ca)=some (.type "type")mro:(W.clsIn K Ca).map (·.mro)=some (.ref Ca::gb)/\Ca=FE\/(W.clsIn K Ca).map (·.mro)=some (.ref Ca::.ref FE::gb)ga:W.findIn K (.ref Ca) "__getattribute__"=some (some (.builtin "BaseException.__getattribute__"))gn:W.findIn K (.ref Ca) "__getattr__"=some none
 cl:W.findIn K (.ref Ca) "__class__"=some (some (.builtin "object.__class__"))
structure ExcAll(K:W.Frag):Prop where
 k:∀nm Ca,ExcAt K nm Ca->ExcK K Ca
 is:∀nm Ca d D,ExcAt K nm Ca->ExcAt K d D->W.kitOne K (.ref Ca) (.ref D)=some (WL.md nm d)ve:∀nm Ca,ExcAt K nm Ca->W.kitOne K (.ref Ca) (.type "ValueError")=some true
 ex:∀nm Ca d D,ExcAt K nm Ca->ExcAt K d D->W.exmOne K (.ref Ca) (.ref D)=some (WL.md nm d)
def all_nil{a:Type}{P:a->Prop}:∀p∈[],P p:=λ_ h=>nomatch h
def all_cons{c:Type}{P:c->Prop}{a l}(h:P a)(t:∀p∈l,P p):∀p∈a::l,P p:=λp b=>(ar4.mp b).elim (λe=>e▸h) (t p)
section
variable{K:W.Frag}{FE:Addr}{tab:List (String×Addr)}
theorem mQ:∀{tab:List (String×Addr)},(tab.map (·.1)).Nodup->(tab.map (·.2)).Nodup->∀p∈tab,∀q∈tab,p.1=q.1↔p.2=q.2
|[],_,_,p,hp,_,_=>nomatch hp|a::l,h1,h2,p,hp,q,hq=>by
 rw[arZ,as5]at h1 h2;rcases ar4.mp hp with z|b<;>rcases ar4.mp hq with y|c;.rw[z,y];exact⟨λ_=>rfl,λ_=>rfl⟩
 .subst z;exact⟨λe=>absurd (e▸at3 c) h1.1,λe=>absurd (e▸at3 c) h2.1⟩
 .subst y;exact⟨λe=>absurd (e▸at3 b) h1.1,λe=>absurd (e▸at3 b) h2.1⟩
 .exact mQ h1.2 h2.2 p b q c
def adK(t:("FloorError",FE)∈tab)(u:∀p∈tab,W.nsIn K mainGlobals (Str.ofString p.1)=some (some (.ref p.2))/\Exc1 K FE p.2)(y:∀b∈WL.yZ,b∈tab.map (·.1)\/W.nsIn K mainGlobals (Str.ofString b)=some none)(o:(tab.map (·.1)).Nodup)(n:(tab.map (·.2)).Nodup)(x:W.specialIn K (.builtin "object.__class__") "__get__"=some (some (.builtin "getset_descriptor.__get__")))(q:W.takesIn K (.builtin "object.__class__")=some true):ExcAll K:=by
 have c:∀b a,ExcAt K b a->(b,a)∈tab/\Exc1 K FE a:=λb a⟨i,f⟩=>by grind
 have k:∀b a,ExcAt K b a->∃j,W.clsIn K a=some j/\(j.mro=.ref a::gb/\a=FE\/j.mro=.ref a::.ref FE::gb):=λb a h=>by
  rcases(c b a h).2.mro with⟨e,z⟩|e;.obtain⟨j,i,f⟩:=asf.mp e;exact⟨j,i,.inl ⟨f,z⟩⟩
  .obtain⟨j,i,f⟩:=asf.mp e;exact⟨j,i,.inr f⟩
 have l:∀b a T,ExcAt K b a->Value.type T∈gb->W.mroIn K a (.type T)=some true:=λb a T h r=>by
  obtain⟨j,i,f⟩:=k b a h;unfold W.mroIn;rw[i,auE];rcases f with⟨f,_⟩|f<;>rw[f]<;>simp only[avh,asO,asW,avi,List.contains_eq_mem,asy,ar4];.exact .inr (by simpa using r)
  .exact .inr (.inr (by simpa using r))
 have sub:∀b a d D,ExcAt K b a->ExcAt K d D->W.mroIn K a (.ref D)=some (WL.md b d):=λb a d D h g=>by
  refine de (k b a h) λj i f=>?_;have v:=mQ o n _ (c b a h).1 _ (c d D g).1;have s:=mQ o n _ t _ (c d D g).1;have w:=mQ o n _ t _ (c b a h).1;dsimp only at v s w;unfold W.mroIn;rw[i,auE];have e:WL.md b d=decide (a=D\/FE=D):=by unfold WL.md;rw[asq];simp only[avE,atj,asy];exact or_congr v (by rw[eq_comm];exact s)
  rw[e];rcases f with⟨f,z⟩|f<;>rw[f]<;>simp only[avh,asO,asW,avi,List.contains_eq_mem];.subst z;congr 1;simp[eq_comm]
  .congr 1;simp[eq_comm]
 have cls:∀b a d D,ExcAt K b a->ExcAt K d D->W.kitCls K (.ref a) (.ref D)=some (WL.md b d):=λb a d D h g=>by obtain⟨j,i,_⟩:=k d D g;unfold W.kitCls;dsimp only;rw[arM (by rw[i,(c d D g).2.ty];rfl)];exact sub b a d D h g
 refine⟨λb a h=>?_,λb a d D h g=>?_,λb a h=>?_,λb a d D h g=>?_⟩;.obtain⟨j,i,_⟩:=k b a h;have m:=(c b a h).2;exact⟨by rw[i];rfl,m.ga,m.gn,l b a _ h (by simp),l b a _ h (by simp),m.cl,x,q⟩
 .unfold W.kitOne;by_cases e:(Value.ref a==Value.ref D)=true;.rw[arM e];have e:=Value.ref.inj (atj.mp e);subst e;have:=(mQ o n _ (c b a h).1 _ (c d a g).1).mpr rfl;dsimp only at this;subst this;simp[WL.md]
  .rw[arO e];exact cls b a d D h g
 .unfold W.kitOne;rw[arO (by intro z;cases atj.mp z)];unfold W.kitCls;dsimp only;rw[arM (by decide+kernel)];exact l b a _ h (by simp)
 .unfold W.exmOne;rw[arM (by rw[show W.subIn K (.ref D) (.type "BaseException")=W.mroIn K D (.type "BaseException")from rfl,l d D _ g (by simp)];rfl)];exact cls b a d D h g
end
end WS
namespace WS
open PySem PySem.Spec PyProof.Rows L2
end WS
namespace WS
open PySem PySem.Spec PyProof.Rows L2
open WL(Res Sl Ws EF TF AF LF GF GsF SF Out Fs KO KF OX RF Sr)
section
variable{σ:L2.St}{H:Hp}
def Part(t:TE)(σ:L2.St)(H:Hp):Prop:=∀Q:VK,(∀y:Str,y.length<=1000->Q (.str y) H)->t σ H Q
def qc{y}(h:y.length<=1000):Part (tC (.str y)) σ H:=λQ k=>k y h
def yo{i n}(h:σ[i]?=some (some (.int n)))(a:n.natAbs.log2<100):Part (aqy (fE i)) σ H:=λQ k=>⟨_,h,.inl ⟨n,rfl,arS a (by simp),k _ (by have e:=int_text_length_le (by simp) a;rw[PySem.ofString_length];omega)⟩⟩
theorem aiD{Q}:∀b a,a.length+1000*b.length<=100000->(∀t∈b,Part t σ H)->(∀y,Q (.str y) H)->tJ b a σ H Q|[],a,hl,_,k=>⟨by rw[at0];omega,k _⟩|t::b,a,hl,hp,k=>hp t ash _ λy d=>by rw[ar1]at hl;have e:(a++y).length=a.length+y.length:=strLen_append ..;exact⟨y,rfl,by rw[at0];omega,aiD b _ (by omega) (λt c=>hp t (asp _ c)) k⟩
end
section
variable{P:Program}{w:World}{K:W.Frag}{mg:Str->Option Value}{base:Heap}
def yM{g p a b st f C o k ts}(I:Fun K "__init__" g st f o)(S:FnScope [a,b] [a,b] (af st))(N:ts.length<=50)(M:∀r H n,r[1]?=some (some (.int n))->n.natAbs.log2<100->∀t∈ts,Part t r H)(h:∀i A c s H E,Room k (A.deeper (envOfC g (af st) s.heap.objs.size f i))->PSs (fA CX0 P w K mg base [a,b] g (af st) f i A c s H E).nox (aL st) (ali (zB (abD C (m6 (fE 0) (m6 (tJ ts Str.empty) abz)))) (sX1 C (fE 0) (fE 1) p))):FnOk P w K mg base CX0 (k+1) f o [a,b] (spI C [p]):=by refine I.ok S λJ H Q E j=>by refine iH j λe ws l m _=>?_;rw[l,ar1,m];rfl λi A c s H J Q E G j=>?_;refine ke j λe ws l m u z q=>?_;subst l;obtain⟨B,rfl⟩:=List.length_eq_one_iff.mp m;obtain⟨n,rfl,D⟩:=z B ash;refine⟨_,h i A c s H E G,?_⟩;refine⟨.ref e,rfl,aiD ts _ (by have:Str.empty.length=0:=rfl;omega) (M _ H n rfl D) λy=>oU e none [.str y] rfl (by simp) u ?_⟩;exact⟨.int n,rfl,.ref e,rfl,e,rfl,u,λd v x=>q d v x⟩
def agr{i o v a b c st f C M k ts}(Z:Fun K "__init__" i st f M)(S:FnScope [a,b,c] [a,b,c] (af st))(T:v≠o)(a0:ts.length<=50)(hp:∀G H n m,G[1]?=some (some (.int n))->G[2]?=some (some (.int m))->n.natAbs.log2<100->m.natAbs.log2<100->∀t∈ts,Part t G H)(h:∀j A g s H E,Room k (A.deeper (envOfC i (af st) s.heap.objs.size f j))->PSs (fA CX0 P w K mg base [a,b,c] i (af st) f j A g s H E).nox (aL st) (ali (zB (abD C (m6 (fE 0) (m6 (tJ ts Str.empty) abz)))) (ali (sX1 C (fE 0) (fE 1) o) (sX2 C (fE 0) (fE 2) v)))):FnOk P w K mg base CX0 (k+1) f M [a,b,c] (spI C [o,v]):=by
 refine Z.ok S λvs H Q E l=>by refine iH l λe ws D I _=>?_;rw[D,ar1,I];rfl λj A g s H vs Q E Y l=>?_;refine ke l λe ws D I N J q=>?_;subst D;obtain⟨u,r,rfl⟩:∃u r,ws=[u,r]:=by match ws,I with|[u,r],_=>exact⟨u,r,rfl⟩
 obtain⟨n,rfl,X⟩:=J u ash;obtain⟨m,rfl,R⟩:=J r (asp _ ash);refine⟨_,h j A g s H E Y,?_⟩;refine⟨.ref e,rfl,aiD ts _ (by have:Str.empty.length=0:=rfl;omega) (hp _ H n m rfl rfl X R) λy=>oU e none [.str y] rfl (by simp) N ?_⟩;refine⟨.int n,rfl,.ref e,rfl,e,rfl,N,λd O x=>?_⟩;refine⟨.int m,rfl,.ref e,rfl,e,d,[(o,.int n)],rfl,ao,by rw[ag x,ao],x,by simp,by simp[List.lookup,asH.mpr T],?_⟩;have:=q d O x;have U:upd (upd (upd H d (.ext (fy d [(o,.int n)]))) e (.ext (kX e C (some d)))) d (.ext (fy d ([(o,.int n)]++[(v,.int m)])))=upd (upd H d (.ext (fy d ([o,v].zip [.int n,.int m])))) e (.ext (kX e C (some d))):=by
  funext z;unfold upd;by_cases p:z=d;.rw[arM p,arO (by rw[p];exact x),arM p];rfl
  .rw[arO p];by_cases B:z=e;.rw[arM B,arM B]
   .rw[arO B,arO B,arO p,arO p]
 show Q .non (upd _ d _);rw[U];exact this
end
section
variable{X:Cx}{B:Bx}{k:Nat}{fI C:Addr}{fd:FuncData}{ps:List Str}{x:Str}{p pos np cpos:Pos}{e:Expr}{es:List Expr}{tas:AF}{nm:String}
theorem adm{K F}:∀{ws vs},RWs K F ws vs->ws.all WL.lB=true->∀v∈vs,∃i,v=.int i/\i.natAbs.log2<100
|[],vs,h,_,v,a=>by subst h;cases a|w::ws,vs,h,ha,v,a=>by
 obtain⟨d,r,rfl,c,b⟩:=h;rw[List.all_cons,asj]at ha;rcases ar4.mp a with rfl|a;.cases w with|int i=>subst c;exact⟨i,rfl,aus ha.1⟩|_=>cases ha.1
 .exact adm b ha.2 v a
def aa2(E:X.K=B.K)(K:XW X B)(M:X.calm=true)(w:Gl X x)(z:X.mg x=some (.ref C))(q:vc X.K C (some (.ref fI)))(n:W.typeIn X.K (.ref fI)=some (.type "function"))(F:FnOk X.prog X.w X.K X.mg X.base CX0 k fI fd ps (spI C (WL.fieldsOf nm)))(N:Room (k+1) X.A)(I:Binds X.K fd ps [])(y:ExcAt X.K nm C)(G:(WL.fieldsOf nm).length<=50)(J:PA X (e::es) (loA B tas))(f:Dbg x:=by decide)(P:SE X e es:=by rfl)(a:BT X cpos es:=by rfl):PS X (.Raise (some (.Call (.Name x np) (e::es) [] cpos)) none pos) (loS B (WL.ja nm tas)):=PS.imp (acg M w z q n F N I J f P a) λD j H m=>by
 refine dc m λr F R q=>?_;have q:=Oq.ofR q;refine dP r F R (Rq.mono (av.refl _) q λws g o S i v A l=>?_);by_cases h:ws.length=(WL.fieldsOf nm).length/\ws.all WL.lB=true
 .rw[arM h]at g;have b:o.length=(WL.fieldsOf nm).length:=by rw[<-l.length];exact h.1
  refine⟨b,adm l h.2,G,λc s e d f Q t=>?_⟩;have O:i d=none:=v.rb.sub.free f;have u:av i (upd i d (.xd ((WL.fieldsOf nm).zip o))):=az O _;refine K c j _ s r _ (.exc nm ws) (v.new f _) (B.mono _ r F _ (A.f.trans u) g) e C (some d) none _ t ⟨y,(WL.fieldsOf nm).zip o,?_,?_,.inr ⟨d,rfl,ao⟩⟩;.rw[List.map_fst_zip (by omega)]
  .rw[List.map_snd_zip (by omega),E];exact l.keep u
 .rw[arO h]at g;exact(show False from g).elim
end
end WS
namespace WS
open PySem PySem.Spec PyProof.Rows L2
section
variable{K:W.Frag}{a:Addr}{f nm:Str}
def wL{C b n}(x:ExcAll K)(h:ExcAt K n C)(m:(W.clsIn K C).map (·.mro)=some (.ref C::.ref b::gb))(g:W.hasDictIn K C=true)(i:W.findIn K (.ref C) "__setattr__"=some (some (.builtin "object.__setattr__"))):ExcS K C:=by obtain⟨k,c,e⟩:=asf.mp m;obtain⟨l,d,j⟩:=W.any_some g;rw[c]at d;cases d;exact⟨x.k n C h,⟨k,c,j,.inr ⟨b,e⟩⟩,i⟩
end
end WS
namespace WS
open PySem PySem.Spec PyProof.Rows L2
open WL(Res Sl Ws EF TF AF LF GF GsF SF Out Fs KO KF OX RF Sr)
section
variable{X:Cx}{B:Bx}{e tg iter elt:Expr}{pos:Pos}{ta tb:EF}{tt:TF}{it:LF}{g:GF}{k:Nat}{scope:Scope}{ts:List Str}{ifs:List Expr}
def aeg{σ C q G J xs Q}(hg:Keeps k g)(R1:RS B σ C q G)(wk:Walk B.K J xs q)(hx:xs.length<=WL.lim)(S:WL.bH g tt ta (List.replicate k .no++σ) xs≠.bad)(ex:∀c,WL.bH g tt ta (List.replicate k .no++σ) xs=.ex c->∀R f,av q f->B.xp c R f)(fin:∀all,WL.bH g tt ta (List.replicate k .no++σ) xs=.ok all->∀t f l,RB B f l->Gr q G f l->RWs B.K f all t->∀D,l D=none->Q (.ref D) (upd l D (.lst t))):aaR J (loG true B g) (loT B tt) (lo B ta) (List.replicate k none++C) G Q:=by
 refine⟨λi m t n l=>m=xs.length-i/\i<=xs.length/\t.length<=i/\∃f d,RS B (List.replicate k .no++σ) n f l/\Gr q G f l/\RWs B.K f d t/\WL.bH g tt ta (List.replicate k .no++σ) xs=(WL.bH g tt ta (List.replicate k .no++σ) (xs.drop i)).bind λr=>.ok (d++r),⟨xs.length,rfl,asr _,asr _,q,[],R1.ahead k,Gr.refl,by simp[RWs],?_⟩,?_⟩;.rw[atU];cases WL.bH g tt ta (List.replicate k .no++σ) xs<;>rfl
 rintro i m t n l⟨rfl,hi,T,f,d,I,o,P,a⟩;refine⟨aue (arU T (arU hi hx)) (by decide),?_⟩;by_cases s:i<xs.length;.have hd:=asu s;rw[hd]at a;obtain⟨go,yl⟩:=wk.go i xs[i] (arQ s) f l o.f I.rb.sub;refine .inr ⟨go,λw E H=>w.length<=i+1/\∃z d,RS B (List.replicate k .no++σ) E z H/\Gr q G z H/\RWs B.K z d w/\WL.bH g tt ta (List.replicate k .no++σ) xs=(WL.bH g tt ta (List.replicate k .no++σ) (xs.drop (i+1))).bind λr=>.ok (d++r),λw E H⟨a1,a2⟩=>⟨xs.length-(i+1),by omega,rfl,s,a1,a2⟩,λv H hy=>?_⟩;refine de (yl v H hy) λz U r2=>?_;have a0:=o.f.trans U.same;simp only[WL.bH]at a;refine ag1 _ z xs[i] (U.rs _ _ _ I) r2 ?_;cases K:g xs[i] (List.replicate k .no++σ)with|bad=>rw[K]at a;exact(S a).elim|ex c=>rw[K]at a;exact ex c a _ z a0|ok σ1=>
   rw[K]at a;obtain⟨kl,kk⟩:=hg _ _ _ K;intro p H3 F3 R3 Y;have back:∀{x M:Hp},RS B σ1 p x M->RS B (List.replicate k .no++σ) p x M:=λ{x M}N=>N.forget kl.symm λj sl ej ne=>by grind
   have h:=U.gr.trans ⟨Y.f,Y.h rfl,Y.nf⟩;have a:WL.bH g tt ta (List.replicate k .no++σ) xs=((tt σ1).bind _).bind λr=>.ok (d++r):=a;refine dP σ1 F3 R3 ?_;cases Z:tt σ1 with|bad=>rw[Z]at a;exact(S a).elim|ex c=>rw[Z]at a;exact ex c a _ F3 (o.f.trans h.f)|ok b=>rw[Z]at a;intro M x N A;cases b with|false=>rw[arO ar2];exact⟨by omega,x,d,back N,o.trans (h.trans A),P.keep (h.trans A).f,a⟩|true=>rw[arM rfl];have a:=a;refine dP σ1 x N ?_;cases O:ta σ1 with|bad=>rw[O]at a;exact(S a).elim|ex c=>rw[O]at a;exact ex c a _ x (o.f.trans (h.trans A).f)|ok y=>rw[O]at a;intro u H5 F5 R5 g5 r5;refine⟨by rw[asm,auF];omega,F5,d++[y],back R5,o.trans ((h.trans A).trans g5),(P.keep ((h.trans A).trans g5).f).app (.one r5),?_⟩;rw[a];cases WL.bH g tt ta (List.replicate k .no++σ) (xs.drop (i+1))with|ok zs=>show Res.ok _=Res.ok _;rw[asJ];rfl|ex c|bad=>rfl
 .have ei:i=xs.length:=by omega
  subst ei;rw[atx]at a;have a:WL.bH g tt ta (List.replicate k .no++σ) xs=.ok (d++[]):=a;rw[asl]at a;exact .inl ⟨wk.stop f l o.f I.rb.sub,λD hD=>fin d a t f l I.rb o P D hD⟩
theorem RS.vg{B' σ h F H}(R:RS B σ h F H)(q:B'.K=B.K)(p:B'.H0=H)(m:B'.F0=F):RS B' (WL.vg σ) h F H:=by
 have b:∀{i:Nat}{f:Sl},(WL.vg σ)[i]?=some f->(∀w,f=.va w->σ[i]?=some (.va w))/\(∀ws,f≠.ow ws)/\(∀d c,f≠.od d c)/\(f=.ob->σ[i]?=some .ob):=λ{i f}e=>by unfold WL.vg at e;rw[ar3]at e;cases n:σ[i]? with|none=>rw[n]at e;cases e|some s0=>rw[n]at e;have e:=asd e;subst e;cases s0 with|no=>exact⟨λw z=>(by cases z),λws z=>(by cases z),λd c z=>(by cases z),λz=>by cases z⟩|va w=>exact⟨λs z=>by grind,λws z=>(by cases z),λd c z=>(by cases z),λz=>by cases z⟩|ow ws|od d c=>exact⟨λw z=>(by cases z),λws z=>(by cases z),λd c z=>(by cases z),λz=>by cases z⟩|ob=>exact⟨λw z=>(by cases z),λws z=>(by cases z),λd c z=>(by cases z),λz=>rfl⟩
 refine⟨⟨R.rb.sub,p▸av.refl _,m▸av.refl _,λa o e=>.inl (m▸e)⟩,by rw[<-R.len];simp[WL.vg],λi w e=>?_,λi ws e=>((b e).2.1 ws rfl).elim,λi j ws r a _ l=>((b l).2.1 ws rfl).elim,λi d c e=>((b e).2.2.1 d c rfl).elim,λi j d c _ _ a _ l=>((b l).2.2.1 d c rfl).elim,λi e=>R.dd.ob i ((b e).2.2.2 rfl)⟩;rw[q];exact R.va i w ((b e).1 w rfl)
def agy{B' c d F' H'}(b:RB B' F' H')(j:B'.H0=d)(i:B'.F0=c):Gr c d F' H':=by subst j i;refine⟨b.fz0,b.base,λa o l h=>?_⟩;cases f:F' a with|none=>rfl|some o2=>
 rcases b.fr a _ f with z|z;.rw[h]at z;cases z
 .rw[l]at z;cases z.1
def ab5{B' σ c d f F' H'}(R:RS B σ c d f)(b:RB B' F' H')(i:B'.H0=f)(h:B'.F0=d):RB B F' H':=by
 subst i h;refine⟨b.sub,R.rb.base.trans b.base,R.rb.fz0.trans b.fz0,λa o e=>?_⟩;rcases b.fr a o e with z|z;.exact R.rb.fr a o z
 .exact .inr ⟨R.rb.base.free z.1,z.2⟩
def afb(b9:X.stack=X.env::X.outer)(c0:X.env.frame=some X.env.locals)(hK:X.K=B.K)(hx:XW X B)(L:CompLook X scope)(hc:X.calm=true)(hk:ts.length=k)(hg:Keeps k g)(hi:PI X tg iter (loI B it))(b3:∀C j i G E u,u.K=X.K->XW ((X.comp scope C ts j i G).tri E []) u->PG ((X.comp scope C ts j i G).tri E []) tg (loG true u g))(b4:∀C j i G E u,u.K=X.K->XW ((X.comp scope C ts j i G).tri E []) u->agX ((X.comp scope C ts j i G).tri E []) ifs (loT u tt))(b2:∀C j i G E u,u.K=X.K->XW ((X.comp scope C ts j i G).tri E []) u->PE ((X.comp scope C ts j i G).tri E []) elt (lo u ta))(hs:∀x,foldedSetIterable iter X.env x=pure x:=by intro _;rfl):PE X (.ListComp elt [⟨tg,iter,ifs,0⟩] scope pos) (lo B (WL.adR k it g tt ta)):=by
 subst hk;intro pins s d H Q I⟨Y,F,R,q⟩;have S:CompScope X scope ts:=L.scope;have a4:closureFor scope X.env=pure (cW X.env.cells scope.names []):=gy λy hy hf=>by obtain⟨c,hc⟩:=I.ok.has y.1 (S.free y hy hf);rw[hc];rfl
 have q:=Rq.bind (Rq.bind q);rw[eval_ListComp];refine auc (use:=none) rfl hs a4 S.kind S.names (thn (hi pins s d H (λJ H1=>∃F1 xs,RS B Y d F1 H1/\Gr F H F1 H1/\Walk B.K J xs F1/\Rq B Y F (if xs.length<=WL.lim then WL.bH g tt ta (List.replicate ts.length .no++WL.vg Y) xs else .bad) λys=>∀v a A,RS B Y d A a->Gr F H A a->RW B.K A (.lst ys) v->Q v a) I ⟨Y,F,R,Rq.mono (av.refl _) q λxs O J H1 F1 R1 g1 wk=>⟨F1,xs,R1,g1,wk,?_⟩⟩) λxv s1 h1=>thn h1 λc9 s2 h2=>?_);.exact O
 obtain⟨it,G,tn,J,H2,e,U,T,b6,f2,F1,xs,R1,g1,wk,O⟩:=h2;subst e;by_cases a2:xs.length<=WL.lim
 .rw[arM a2]at O;let u:Bx:=⟨B.K,H2,F1,λc _ A=>B.xp c Y A,λc _ A c5 sm h=>B.mono c Y A c5 sm h⟩;let EC:Addr->Value->Shared->Prop:=λC v K=>∃(e Ce:Addr)(dx:Option Addr)(fl:Value)(T:Option Addr)(M:L2.St)(a A:Hp)(c:VW),v=.ref e/\Thr (X.comp scope C ts s2 H2 G) [] M a K e Ce dx fl T/\RB u A a/\B.xp c Y A/\XR X.K A c Ce dx;have xw:∀C,XW ((X.comp scope C ts s2 H2 G).tri (EC C) []) u:=λC c1 M a K c3 A c R' xp e Ce dx T fl t xr=>⟨e,Ce,dx,fl,T,M,a,A,c,rfl,Thr.iZ (X:=X.comp scope C ts s2 H2 G) (pins:=[]) t,R'.rb,xp,xr⟩;have hW:aaR J (loG true u g) (loT u tt) (lo u ta) (List.replicate ts.length none++d) H2 Q:=by
   refine aeg hg (R1.vg rfl rfl rfl) wk a2 (λz=>by rw[z]at O;exact O) (λc z c3 A sm=>?_) λall z ys A a rb g' r D hD=>?_;.rw[z]at O;exact B.mono c Y F A (g1.f.trans sm) O
   .rw[z]at O;have N:RB B A a:=ab5 R1 rb rfl rfl;have R':=R1.grow g' N;exact O (.ref D) _ _ (R'.new hD _) (g1.trans (g'.trans (Gr.new (N.sub.free hD) hD _))) (by simp only[RW];exact⟨D,ys,rfl,SqL.of ao,r.keep (az (N.sub.free hD) _)⟩)
  refine k8 (Q:=Q) (RR:=λc4 C=>compPost (model X.prog X.w) X.A X.xe none (EP X pins d Q) c4 C) S EC (λ_ _ _=>hc) (λC=>b3 C s2 H2 G (EC C) u hK.symm (xw C)) (λC=>b4 C s2 H2 G (EC C) u hK.symm (xw C)) (λC=>b2 C s2 H2 G (EC C) u hK.symm (xw C)) U T b6 f2 hW.c ?_ ?_;.intro C D a K m ys b5 hC hD hn b1 I' q;refine⟨m,hn,λh' a0=>?_⟩;have a1:C≠X.env.locals:=asE (arS U.lt hC);have c6:Inv X pins d (upd a D (.lst ys)) {K with heap:=h'}:=I'.turned (t':=K.toks) (it:=C) (λb o n e=>(a0.2 b n).trans e) (by rw[ag b5];exact b1) a1 (.inr (arU U.sz hC)) (λx c e=>by obtain⟨v,q⟩:=U.cell x c e;exact ar0 (arS q.lt hC)) λp l=>ar0 (arS (arV (U.pin p l).1) hC);exact⟨.ref D,_,c6,rfl,q⟩
  .rintro C D _ K hC⟨e,Ce,dx,fl,T,M,a,A,c,rfl,t,rb,xp,xr⟩;have J':Inv X pins d a K:=U.aka (ch:=G) t.inv.os t.inv.base t.inv.hok t.inv.bare λb n=>⟨(f2 b n).2.2.2.1,(f2 b n).2.1,(f2 b n).2.2.2.2.1,(f2 b n).2.2.2.2.2⟩;obtain⟨m,b0,_⟩:=t.inv.loc;obtain⟨Z,es,ep,c2,a8⟩:=id b0;have a3:a C=none:=t.inv.free;have a1:C≠X.env.locals:=asE (arS U.lt hC);have a7:s2.heap.get? C=none:=asD hC;have fC:FpX X pins a C:=U.fpX a7 a3;have a5:∀v,Z.data≠.cell v:=λv z=>by obtain⟨hd,_⟩:=a8;rw[hd]at z;cases z
   have J2:Inv X (pins++[(C,Z)]) d a K:=J'.gZ λp l=>by
    rcases ass.mp l with l|l;.exact J'.pin p (asa _ l)
    .obtain rfl:p=(C,Z):=by simpa using l
     exact⟨c2,a3,a1,fC.2.2.1,a5⟩
   have P:∀b,FpX (X.comp scope C ts s2 H2 G) [] a b->FpX X pins a b/\b≠C:=λb z=>by
    refine⟨?_,z.2.1⟩;rcases z.2.2.2.1 with n|n;.have f:=f2 b n;exact⟨z.1,f.2.1,f.2.2.1,f.2.2.2.1.imp (λw=>w) λw=>asD w,f.2.2.2.2.1,f.2.2.2.2.2⟩
    .exact U.fpX n z.1
   have a6:∀b,FpX X pins a b->b≠C->FpX X (pins++[(C,Z)]) a b:=λb z ne=>⟨z.1,z.2.1,z.2.2.1,z.2.2.2.1,z.2.2.2.2.1,λp l=>by
    rcases ass.mp l with l|l;.exact z.2.2.2.2.2 p (asz _ l)
    .rcases ass.mp l with l|l;.exact z.2.2.2.2.2 p (asa _ l)
     .obtain rfl:p=(C,Z):=by simpa using l
      exact arY ne⟩;have te:=P e t.fe;have t1:Thr X (pins++[(C,Z)]) d a K e Ce dx fl T:=⟨J2,t.trc,a6 e te.1 te.2,λb n=>a6 b (P b (t.fT b n)).1 (P b (t.fT b n)).2⟩;refine t1.note b9 c0 λa9 T1 b8 t2=>?_;have pC:=(t2.inv.pin (C,Z) (by simp)).1;refine⟨m,⟨Z,es,ep,pC,a8⟩,λh' a0 c7 _=>?_⟩;have drop:∀b,FpX X (pins++[(C,Z)]) a b->FpX X pins a b/\b≠C:=λb z=>⟨⟨z.1,z.2.1,z.2.2.1,z.2.2.2.1,z.2.2.2.2.1,λp l=>by
    rcases ass.mp l with l|l;.exact z.2.2.2.2.2 p (asz _ l)
    .exact z.2.2.2.2.2 p (asa _ (asz _ l))⟩,λw=>z.2.2.2.2.2 (C,Z) (by simp) w.symm⟩;have J3:Inv X pins d a {K with heap:=a9}:=t2.inv.gZ λp l=>t2.inv.pin p (asa _ (asz _ l));have J4:Inv X pins d a {K with heap:=h'}:=Inv.turned (s:={K with heap:=a9}) (t':=K.toks) (it:=C) J3 (λb o n e=>(a0.2 b n).trans e) a3 a1 (.inr (arU U.sz hC)) fC.2.2.2.2.1 fC.2.2.2.2.2;have t3:Thr X pins d a {K with heap:=h'} e Ce dx b8 (some T1):=⟨J4,t2.trc.keeps λb o n q=>(a0.2 b (by
    rcases n with rfl|n;.exact(drop _ t2.fe).2
    .exact(drop b (t2.fT b n)).2)).trans q,(drop e t2.fe).1,λb n=>(drop b (t2.fT b n)).1⟩;refine t3.pass λc8 b7 t4=>?_;have N:RB B A a:=ab5 R1 rb rfl rfl;exact hx pins d a _ Y A c (R1.grow (agy rb rfl rfl) N) xp e Ce dx (some T1) b7 t4 xr
 .rw[arO a2]at O;exact(O).elim
end
section
variable{X:Cx}{B:Bx}{ta tb:EF}
theorem RWs.rev{K:W.Frag}{F:Hp}:∀{xs:List VW}{vs:List V},RWs K F xs vs->RWs K F xs.reverse vs.reverse|[],vs,r=>by simp only[RWs]at r;subst r;simp[RWs]|x::xs,vs,r=>by simp only[RWs]at r;obtain⟨v,t,rfl,h,a⟩:=r;rw[auo,auo];exact(RWs.rev a).app (.one h)
end
section
variable{X:Cx}{B:Bx}{k:Nat}{f:Addr}{fd:FuncData}{ps:List Str}{fn:List VW->Res VW}{x:Str}{p pos:Pos}{e:Expr}{es:List Expr}{tas:AF}{n:Nat}{dws:List VW}{dvs:List V}{ds:List Value}
def ac3(l:X.K=B.K)(o:XW X B)(h:∀F,RWs B.K F dws dvs)(i:∀b ws,tas b=.ok ws->ws.length+dws.length=n):∀a H Q,lo B (WL.bS (λws=>fn (ws++dws)) tas) a H Q->abB X (spX X.K n fn) dvs (loA B tas) a H Q:=by intro a H Q⟨b,F,R,q⟩;have q:=Rq.bind q;refine dP b F R ?_;cases d:tas b with|bad|ex c=>rw[d]at q;exact q|ok ws=>rw[d]at q;exact λt s g r j m=>me l o r j (m.app (h g)) (by rw[asm];exact i b ws d) q rfl
def abb(l:X.K=B.K)(s:XW X B)(F:FnOk X.prog X.w X.K X.mg X.base (CXX X.prog X.w) k f fd ps (spX X.K n fn))(j:Room k X.A)(d:Gl X x)(h:X.mg x=some (.ref f))(t:W.keepIn X.K (.ref f)=true)(o:Binds X.K fd ps ds)(b:Vals dvs ds)(g:∀F,RWs B.K F dws dvs)(r:PA X (e::es) (loA B tas))(i:∀m ws,tas m=.ok ws->ws.length+dws.length=n)(c:Dbg x:=by decide)(q:SE X e es:=by rfl)(a:BT X pos es:=by rfl):PE X (.Call (.Name x p) (e::es) [] pos) (lo B (WL.bS (λws=>fn (ws++dws)) tas)):=PE.imp (yk F j d h t o b r c q a) (ac3 l s g i)
end
structure FunD(K:W.Frag)(x qual:Str)(st:Stmt)(f:Addr)(fd:FuncData)(dV:Value):Prop where ex:∃(oc:Value)(od:Option Addr)(kV doc pm:Value)(an:Option Addr)(cdv ct:Value)(osl:Array (Option Value)),fd=W.fnOf x qual (bE st) (aL st) (af st) dV kV doc pm an cdv ct/\K.lookup f=some ⟨oc,od,.func fd,osl⟩/\W.codeIn K cdv qual=true
section
variable{P:Program}{w:World}{K:W.Frag}{mg:Str->Option Value}{base:Heap}
def ajI{x a st f j e od g h kV d i b ct}(l:K.lookup f=some ⟨j,od,.func (W.fnOf x a (bE st) (aL st) (af st) e kV d i g b ct),h⟩)(c:W.codeIn K b a=true):FunD K x a st f (W.fnOf x a (bE st) (aL st) (af st) e kV d i g b ct) e:=⟨j,od,kV,_,i,g,_,ct,_,rfl,l,c⟩
def FunD.binds{x a st f T j ps ds o items n}(F:FunD K x a st f j (.ref T))(r:K.lookup T=some o)(t:o.data=.seq items n)(h:∀kV c l i b ct d,(d++ds).length=ps.length->∃k,bindArgs (W.fnOf x a (bE st) (aL st) (af st) (.ref T) kV c l i b ct) ⟨d,[]⟩=seqItems? (.ref T)>>=k/\k (some items)=pure (ps.zip (d++ds))):Binds K j ps ds:=by refine ahW F.ex λz od kV c l i b ct q e y v=>?_;subst e;intro s d g u;obtain⟨k,p,m⟩:=h _ _ _ _ _ _ _ u;exact BindsTo.of_defaults rfl (g _ _ r) t p m
def mj{x b st f O dV N ps k m n}{X:List VW->Res VW}(t)(Fn:FunD K x b st f O dV)(S:FnScope N ps (af st))(hn:N.length=n)(g:ps.length=m)(z:WL.run n t=X)(a1:ps.length<=N.length)(h:∀d A a s H E B,B.K=K->Room k (A.deeper (envOfC b (af st) s.heap.objs.size f d))->XW (fA (CXX P w) P w K mg base N b (af st) f d A a s H E) B->PassesOwn (model P w) (fA (CXX P w) P w K mg base N b (af st) f d A a s H E).A (fA (CXX P w) P w K mg base N b (af st) f d A a s H E).env (fA (CXX P w) P w K mg base N b (af st) f d A a s H E).xe->PSs (fA (CXX P w) P w K mg base N b (af st) f d A a s H E) (aL st) (loS B t)):FnOk P w K mg base (CXX P w) (k+1) f O ps (spX K m X):=by subst hn g z;refine ahW Fn.ex λoc od kV a2 pm an d ct a3 G lk D=>?_;subst G;refine wH lk D S (λvs H Q E q=>by refine my q λF ws _ r Z _=>?_;rw[<-r.length];exact Z) λA a s H vs Q E hr _ q=>?_;refine my q λF ws sm r Z g=>?_;let Y:Bx:=⟨K,H,F,λ_ _ _=>False,λ_ _ _ _ _ h=>h⟩;let M:Bx:=Y.pJ (λc _ u=>∀C l j i,av u i->RB Y i j->XR K i c C l->E (.ref C) l j) λc σ u F2 s h C l j i p=>h C l j i (s.trans p);refine⟨_,h d A a s H E M rfl hr (λR a0 H1 s1 σ u c R1 xp e C l T fl t I=>kK t (xp C l H1 u (av.refl _) (R1.rb.box rfl rfl) I)) atO,_,F,(RS.start sm r (by omega)).box (B':=M) rfl rfl rfl,?_⟩;unfold WL.run at g;cases e:t _ with|rt w=>rw[e]at g;exact λv j i o p J=>g v j i p o.sub o.base o.fr J|nx σ'=>rw[e]at g;exact λU j i y p=>g .non j i p y.rb.sub y.rb.base y.rb.fr (by simp[RW])|bk σ'|ct σ'=>rw[e]at g;exact g.elim|ex c σ'=>rw[e]at g;exact λC l j i p o I=>g C l j i p o.sub o.base o.fr I|bad=>rw[e]at g;exact g.elim
end
section
variable{P:List Value->Prop}
def us0(h:P []):∀a,a.length=0->P a:=λa e=>by grind
def us1(h:∀c,P [c]):∀b,b.length=1->P b:=λb e=>by cases b with|nil=>cases e|cons a t=>exact us0 (P:=λt=>P _) (h a) t (auf e)
def us2(h:∀d c,P [d,c]):∀b,b.length=2->P b:=λb e=>by cases b with|nil=>cases e|cons a t=>exact us1 (P:=λt=>P _) (λc=>h a _) t (auf e)
def us3(h:∀f d c,P [f,d,c]):∀b,b.length=3->P b:=λb e=>by cases b with|nil=>cases e|cons a t=>exact us2 (P:=λt=>P _) (λd c=>h a _ _) t (auf e)
def us4(h:∀g f d c,P [g,f,d,c]):∀b,b.length=4->P b:=λb e=>by cases b with|nil=>cases e|cons a t=>exact us3 (P:=λt=>P _) (λf d c=>h a _ _ _) t (auf e)
def us5(h:∀i f c g d,P [i,f,c,g,d]):∀b,b.length=5->P b:=λb e=>by cases b with|nil=>cases e|cons a t=>exact us4 (P:=λt=>P _) (λf c g d=>h a _ _ _ _) t (auf e)
def us6(h:∀j f c i d g,P [j,f,c,i,d,g]):∀b,b.length=6->P b:=λb e=>by cases b with|nil=>cases e|cons a t=>exact us5 (P:=λt=>P _) (λf c i d g=>h a _ _ _ _ _) t (auf e)
end
def AtD(K:W.Frag)(nm:Str)(st:Stmt):Prop:=∃(f:Addr)(a:FuncData),Fun K nm nm st f a/\W.nsIn K mainGlobals nm=some (some (.ref f))
def AtE(K:W.Frag)(nm:Str)(st:Stmt)(ds:Array Value):Prop:=∃(f T:Addr)(b:FuncData)(d:Option Addr)(n:Nat)(a:Array (Option Value)),FunD K nm nm st f b (.ref T)/\W.nsIn K mainGlobals nm=some (some (.ref f))/\W.keepIn K (.ref f)=true/\K.lookup T=some ⟨.type "tuple",d,.seq ds n,a⟩
def Cal(P:Program)(w:World)(K:W.Frag)(c:Str->Option Value)(a:Heap)(CX:CXT)(k:Nat)(nm:Str)(ps:List Str)(ds:List Value)(sp:Sp):Prop:=∃(f:Addr)(b:FuncData),FnOk P w K c a CX k f b ps sp/\c nm=some (.ref f)/\W.keepIn K (.ref f)=true/\Binds K b ps []/\Binds K b ps ds
section
variable{P:Program}{w:World}{K:W.Frag}{mg:Str->Option Value}{base:Heap}{CX:CXT}{k:Nat}{nm:Str}{ps:List Str}{sp:Sp}{st:Stmt}
def aqi{f h od g e kV d i b ct}(a:W.nsIn K mainGlobals nm=some (some (.ref f)))(l:K.lookup f=some ⟨h,od,.func (W.fnOf nm nm (bE st) (aL st) (af st) .none kV d i g b ct),e⟩)(c:W.codeIn K b nm=true)(q:W.keepIn K (.ref f)=true):AtD K nm st:=⟨f,_,adA l c q,a⟩
def anw{f T i od h d e sl kV g j b ct ds n}(a:W.nsIn K mainGlobals nm=some (some (.ref f)))(l:K.lookup f=some ⟨i,od,.func (W.fnOf nm nm (bE st) (aL st) (af st) (.ref T) kV g j h b ct),e⟩)(c:W.codeIn K b nm=true)(q:W.keepIn K (.ref f)=true)(t:K.lookup T=some ⟨.type "tuple",d,.seq ds n,sl⟩):AtE K nm st ds:=⟨f,T,_,d,n,sl,ajI l c,a,q,t⟩
def AtD.cal(D:AtD K nm st)(j:∀nm v,W.nsIn K mainGlobals nm=some (some v)->mg nm=some v)(g:∀kV c l i d ct e,e.length=ps.length->bindArgs (W.fnOf nm nm (bE st) (aL st) (af st) .none kV c l i d ct) ⟨e,[]⟩=pure (ps.zip e))(h:∀f b,Fun K nm nm st f b->FnOk P w K mg base CX k f b ps sp):Cal P w K mg base CX k nm ps [] sp:=by obtain⟨f,b,F,a⟩:=D;exact⟨f,b,h f _ F,j _ _ a,F.kp,F.binds g,F.binds g⟩
def AtD.arA(D:AtD K nm st)(i:∀nm v,W.nsIn K mainGlobals nm=some (some v)->mg nm=some v)(c:∀kV d l j e ct g,g.length=ps.length->bindArgs (W.fnOf nm nm (bE st) (aL st) (af st) .none kV d l j e ct) ⟨g,[]⟩=pure (ps.zip g))(h:∀f b,Fun K nm nm st f b->mg nm=some (.ref f)->Binds K b ps []->FnOk P w K mg base CX k f b ps sp):Cal P w K mg base CX k nm ps [] sp:=by obtain⟨f,b,F,a⟩:=D;exact⟨f,b,h f _ F (i _ _ a) (F.binds c),i _ _ a,F.kp,F.binds c,F.binds c⟩
def AtE.cal{ds}(D:AtE K nm st ds.toArray)(p:∀nm v,W.nsIn K mainGlobals nm=some (some v)->mg nm=some v)(o:∀T kV e j i b ct c,(c++[]).length=ps.length->∃k,bindArgs (W.fnOf nm nm (bE st) (aL st) (af st) (.ref T) kV e j i b ct) ⟨c,[]⟩=seqItems? (.ref T)>>=k/\k (some ds.toArray)=pure (ps.zip (c++[])))(m:∀T kV e j i b ct c,(c++ds).length=ps.length->∃k,bindArgs (W.fnOf nm nm (bE st) (aL st) (af st) (.ref T) kV e j i b ct) ⟨c,[]⟩=seqItems? (.ref T)>>=k/\k (some ds.toArray)=pure (ps.zip (c++ds)))(h:∀f g l,FunD K nm nm st f g l->FnOk P w K mg base CX k f g ps sp):Cal P w K mg base CX k nm ps ds sp:=by obtain⟨f,T,g,d,n,r,F,a,q,t⟩:=D;exact⟨f,g,h f _ _ F,p _ _ a,q,F.binds t rfl (o T),F.binds t rfl (m T)⟩
end
section
variable{X:Cx}{B:Bx}{k j:Nat}{ps:List Str}{ds:List Value}{fn:List VW->Res VW}{x:Str}{p pos:Pos}{e:Expr}{es:List Expr}{tas:AF}{n:Nat}{dws:List VW}{dvs:List V}
def cl(i:B.K=X.K)(h:Room j X.A)(C:Cal X.prog X.w X.K X.mg X.base CX0 k x ps ds (spW X.K n fn))(r:PA X (e::es) (loA B tas))(s:k<=j:=by decide)(g:∀l ws,tas l=.ok ws->ws.length=n:=by repeat first|exact dE|apply aH)(d:Gl X x:=by rfl)(c:Dbg x:=by decide)(o:SE X e es:=by rfl)(a:BT X pos es:=by rfl):PE X (.Call (.Name x p) (e::es) [] pos) (lo B (WL.ay fn tas)):=by refine ke C λf t G m q b _=>?_;exact abc i.symm G (h.mono s) d m q b r g c o a
def cl0(d:B.K=X.K)(g:Room j X.A)(C:Cal X.prog X.w X.K X.mg X.base CX0 k x ps ds (spW X.K 0 fn))(h:k<=j:=by decide)(c:Gl X x:=by rfl)(a:Dbg x:=by decide):PE X (.Call (.Name x p) [] [] pos) (lo B (WL.ay fn WL.au)):=by obtain⟨f,i,G,m,q,b,_⟩:=C;exact afd d.symm G (g.mono h) c m q b a
def clX(i:B.K=X.K)(h:Room j X.A)(s:XW X B)(C:Cal X.prog X.w X.K X.mg X.base (CXX X.prog X.w) k x ps ds (spX X.K n fn))(r:PA X (e::es) (loA B tas))(t:k<=j:=by decide)(g:∀l ws,tas l=.ok ws->ws.length=n:=by repeat first|exact dE|apply aH)(d:Gl X x:=by rfl)(c:Dbg x:=by decide)(o:SE X e es:=by rfl)(a:BT X pos es:=by rfl):PE X (.Call (.Name x p) (e::es) [] pos) (lo B (WL.bS fn tas)):=by refine ke C λf u G m q b _=>?_;exact afc i.symm s G (h.mono t) d m q b r g c o a
def clD(o:B.K=X.K)(l:Room j X.A)(u:XW X B)(C:Cal X.prog X.w X.K X.mg X.base (CXX X.prog X.w) k x ps ds (spX X.K n fn))(c:Vals dvs ds)(h:∀F,RWs B.K F dws dvs)(t:PA X (e::es) (loA B tas))(i:∀r ws,tas r=.ok ws->ws.length+dws.length=n)(v:k<=j:=by decide)(g:Gl X x:=by rfl)(d:Dbg x:=by decide)(s:SE X e es:=by rfl)(a:BT X pos es:=by rfl):PE X (.Call (.Name x p) (e::es) [] pos) (lo B (WL.bS (λws=>fn (ws++dws)) tas)):=by refine ke C λf w G m q _ b=>?_;exact abb o.symm u G (l.mono v) g m q b c h t i d s a
end
def ant{a}{ps:List Str}(h:bindArgs a ⟨[],[]⟩=pure (ps.zip []))(us)(e:us.length=0):bindArgs a ⟨us,[]⟩=pure (ps.zip us):=by grind
def bind1{a}{ps:List Str}(h:∀b,bindArgs a ⟨[b],[]⟩=pure (ps.zip [b]))(us)(e:us.length=1):bindArgs a ⟨us,[]⟩=pure (ps.zip us):=us1 (P:=λus=>bindArgs _ ⟨us,[]⟩=pure _) h _ e
def aaK{a}{ps:List Str}(h:∀c b,bindArgs a ⟨[c,b],[]⟩=pure (ps.zip [c,b]))(us)(e:us.length=2):bindArgs a ⟨us,[]⟩=pure (ps.zip us):=us2 (P:=λus=>bindArgs _ ⟨us,[]⟩=pure _) h _ e
def aaJ{b}{ps:List Str}(h:∀d c a,bindArgs b ⟨[d,c,a],[]⟩=pure (ps.zip [d,c,a]))(us)(e:us.length=3):bindArgs b ⟨us,[]⟩=pure (ps.zip us):=us3 (P:=λus=>bindArgs _ ⟨us,[]⟩=pure _) h _ e
def ans{b}{ps:List Str}(h:∀d c a f,bindArgs b ⟨[d,c,a,f],[]⟩=pure (ps.zip [d,c,a,f]))(us)(e:us.length=4):bindArgs b ⟨us,[]⟩=pure (ps.zip us):=us4 (P:=λus=>bindArgs _ ⟨us,[]⟩=pure _) h _ e
def akc{c}{ps:List Str}(h:∀f d a g b,bindArgs c ⟨[f,d,a,g,b],[]⟩=pure (ps.zip [f,d,a,g,b]))(us)(e:us.length=5):bindArgs c ⟨us,[]⟩=pure (ps.zip us):=us5 (P:=λus=>bindArgs _ ⟨us,[]⟩=pure _) h _ e
def anr{c}{ps:List Str}(h:∀f d a i b g,bindArgs c ⟨[f,d,a,i,b,g],[]⟩=pure (ps.zip [f,d,a,i,b,g]))(us)(e:us.length=6):bindArgs c ⟨us,[]⟩=pure (ps.zip us):=us6 (P:=λus=>bindArgs _ ⟨us,[]⟩=pure _) h _ e
def ud2{a T it ds}{ps:List Str}(h:∀c b,∃k,bindArgs a ⟨[c,b],[]⟩=seqItems? (.ref T)>>=k/\k (some it)=pure (ps.zip ([c,b]++ds)))(us)(e:us.length=2):∃k,bindArgs a ⟨us,[]⟩=seqItems? (.ref T)>>=k/\k (some it)=pure (ps.zip (us++ds)):=us2 (P:=λus=>∃k,bindArgs _ ⟨us,[]⟩=seqItems? _ >>=k/\k _=pure (ps.zip (us++ds))) h _ e
def ud3{b T it ds}{ps:List Str}(h:∀d c a,∃k,bindArgs b ⟨[d,c,a],[]⟩=seqItems? (.ref T)>>=k/\k (some it)=pure (ps.zip ([d,c,a]++ds)))(us)(e:us.length=3):∃k,bindArgs b ⟨us,[]⟩=seqItems? (.ref T)>>=k/\k (some it)=pure (ps.zip (us++ds)):=us3 (P:=λus=>∃k,bindArgs _ ⟨us,[]⟩=seqItems? _ >>=k/\k _=pure (ps.zip (us++ds))) h _ e
def ud4{b T it ds}{ps:List Str}(h:∀d c a f,∃k,bindArgs b ⟨[d,c,a,f],[]⟩=seqItems? (.ref T)>>=k/\k (some it)=pure (ps.zip ([d,c,a,f]++ds)))(us)(e:us.length=4):∃k,bindArgs b ⟨us,[]⟩=seqItems? (.ref T)>>=k/\k (some it)=pure (ps.zip (us++ds)):=us4 (P:=λus=>∃k,bindArgs _ ⟨us,[]⟩=seqItems? _ >>=k/\k _=pure (ps.zip (us++ds))) h _ e
def ud5{c T it ds}{ps:List Str}(h:∀f d a g b,∃k,bindArgs c ⟨[f,d,a,g,b],[]⟩=seqItems? (.ref T)>>=k/\k (some it)=pure (ps.zip ([f,d,a,g,b]++ds)))(us)(e:us.length=5):∃k,bindArgs c ⟨us,[]⟩=seqItems? (.ref T)>>=k/\k (some it)=pure (ps.zip (us++ds)):=us5 (P:=λus=>∃k,bindArgs _ ⟨us,[]⟩=seqItems? _ >>=k/\k _=pure (ps.zip (us++ds))) h _ e
def cm{k}{A:Around}{a}(r:Room k (A.deeper a))(h:40<=k:=by first|decide|omega|exact arU (show 40<=_ by decide) (ath _ _)):A.handled.isNone=true:=r.calm h
section
variable{X:Cx}{B:Bx}{a b e:Expr}{ta tb:EF}{pos:Pos}{x:Str}
def va(i)(d:X.N[i]?=some x:=by rfl)(f:Vis X.env.scope x:=by first|exact Or.inl rfl|exact Or.inr (Or.inl rfl)|exact Or.inr (Or.inr rfl))(g:Dbg x:=by decide)(c:(x=="__classdict__")=false:=by decide):PE X (.Name x pos) (lo B (WL.aj i)):=akX (pv i d f g c)
def wx(g:B.K=X.K)(c:PE X a (lo B ta))(d:PE X b (lo B tb))(f:lr b:=by exact λ_ _=>rfl):PE X (.Subscript a b pos) (lo B (WL.eOp WL.oIx ta tb)):=akY aes (aqt g.symm) c d f
def wk{v u w}(g:B.K=X.K)(f:X.mg x=some u)(r:RelV v u)(hw:∀F,RW X.K F w v)(c:Gl X x:=by rfl)(d:Dbg x:=by decide):PE X (.Name x pos) (lo B (WL.eC w)):=akj (acs c f r d) (by grind)
def wty{T}(g:X.mg x=none)(c:bootBuiltins x=some (.type T))(d:Gl X x:=by rfl)(h:x≠"__name__":=by decide)(f:Dbg x:=by decide):PE X (.Name x pos) (lo B (WL.eC (.ty T))):=akj (ao8 d g c h f) λ_=>rfl
def gx{i d a0 kvs}{ks vs:List VW}{p}(c:B.K=X.K)(h:X.mg x=some (.ref a0))(D:aeK X.w X.K a0 kvs)(m:∀F k w,WL.oV k ks vs=some w->∃v,kvs.lookup k=some v/\RW X.K F w v)(l:PE X i (lo B d))(f:Gl X x:=by rfl)(j:lr i:=by exact λ_ _=>rfl)(g:Dbg x:=by decide):PE X (.Subscript (.Name x p) i pos) (lo B (WL.eOp WL.oIx (WL.eC (.dic ks vs)) d)):=akZ c.symm (acs f h rfl g) D l (by rw[c];exact m) j
def we2(d:B.K=X.K)(g:X.A.units+64<cLine)(c:PE X a (lo B ta))(f:PE X b (lo B tb)):PT X (.Compare a [.Eq] [b] pos) (loT B (WL.tB (WL.eOp WL.oEq ta tb))):=bg calm_eq (w_eq d.symm g) c f (aT _)
def wn2(d:B.K=X.K)(g:X.A.units+64<cLine)(c:PE X a (lo B ta))(f:PE X b (lo B tb)):PT X (.Compare a [.NotEq] [b] pos) (loT B (WL.tB (WL.eOp WL.oNe ta tb))):=bg aj8 (aq9 d.symm g) c f (aT _)
def wS(i){c}(d:X.N.Nodup)(f:PE X e (lo B ta))(k:X.N[i]?=some x:=by rfl)(h:Loc X.env.scope x:=by first|exact Or.inl rfl|exact Or.inr rfl)(j:swapsWith e (some (.Name x c)) pos.line X.env=pure false:=by rfl)(g:FL X x:=by first|exact .inl rfl|exact .inr rfl|assumption):PS X (.Assign [.Name x c] e pos) (loS B (WL.bo i ta)):=akT d k h f j g
def gN(i){b}(c:X.N.Nodup:=by exact yx rfl)(f:X.N[i]?=some x:=by rfl)(d:Loc X.env.scope x:=by first|exact Or.inl rfl|exact Or.inr rfl)(g:FL X x:=by first|exact .inl rfl|exact .inr rfl|assumption):PG X (.Name x pos) (loG b B (WL.ax i)):=aij (vO c f d g)
end
section
variable{X:Cx}{B:Bx}{r:List VW->Res VW}{tas:AF}{x:Str}{e:Expr}{es:List Expr}{p pos:Pos}{id:String}
def wB(cm:∀l c,r l≠.ex c)(d:bG X (.builtin id) (loN B.K r))(j:X.mg x=none)(f:bootBuiltins x=some (.builtin id))(k:PA X (e::es) (loA B tas))(g:Gl X x:=by rfl)(i:x≠"__name__":=by decide)(a:Dbg x:=by decide)(h:SE X e es:=by rfl)(b:BT X pos es:=by rfl):PE X (.Call (.Name x p) (e::es) [] pos) (lo B (WL.eBi r tas)):=ak0 cm (ym d g j f k i a h b)
def wT(cm:∀l c,r l≠.ex c)(d:bG X (.type id) (loN B.K r))(j:X.mg x=none)(f:bootBuiltins x=some (.type id))(k:PA X (e::es) (loA B tas))(g:Gl X x:=by rfl)(i:x≠"__name__":=by decide)(a:Dbg x:=by decide)(h:SE X e es:=by rfl)(b:BT X pos es:=by rfl):PE X (.Call (.Name x p) (e::es) [] pos) (lo B (WL.eBi r tas)):=ak0 cm (jQ d g j f k i a h b)
def anA(P:Program)(w:World)(K:W.Frag)(c:Str->Option Value)(a:Heap)(fI:Addr)(ps:List Str)(sp:Sp):Prop:=∃b:FuncData,FnOk P w K c a CX0 1 fI b ps sp/\Binds K b ps []
def rI{j C fI ps nm n c}(m:B.K=X.K)(l:Room j X.A)(u:XW X B)(f:X.calm=true)(k:X.mg x=some (.ref C))(q:vc X.K C (some (.ref fI)))(d:W.typeIn X.K (.ref fI)=some (.type "function"))(I:anA X.prog X.w X.K X.mg X.base fI ps (spI C (WL.fieldsOf nm)))(i:ExcAt X.K nm C)(t:PA X (e::es) (loA B tas))(v:2<=j:=by decide)(g:Gl X x:=by rfl)(o:(WL.fieldsOf nm).length<=50:=by decide)(h:Dbg x:=by decide)(s:SE X e es:=by rfl)(a:BT X c es:=by rfl):PS X (.Raise (some (.Call (.Name x n) (e::es) [] c)) none pos) (loS B (WL.ja nm tas)):=by obtain⟨w,F,b⟩:=I;exact aa2 m.symm u f g k q d F (l.mono v) b i o t h s a
end
section
variable{K:W.Frag}
def alo{a d n sl vs xs}(l:K.lookup a=some ⟨.type "tuple",d,.seq vs n,sl⟩)(b:Vals xs vs.toList)(c:vs.size<=sizeLine):∀H,SqT K H a xs:=λ_=>.inr ⟨_,_,_,l,rfl,rfl,c,b⟩
def amS{f a st i od h d kV e j b ct}(l:K.lookup f=some ⟨i,od,.func (W.fnOf "__init__" a (bE st) (aL st) (af st) .none kV e j h b ct),d⟩)(c:W.codeIn K b a=true)(q:W.keepIn K (.ref f)=true):∃g,Fun K "__init__" a st f g:=⟨_,adA l c q⟩
def wz{P w i b f a st ps sp}(D:∃c,Fun K "__init__" a st f c)(k:∀kV g l j d ct e,e.length=ps.length->bindArgs (W.fnOf "__init__" a (bE st) (aL st) (af st) .none kV g l j d ct) ⟨e,[]⟩=pure (ps.zip e))(h:∀c,Fun K "__init__" a st f c->FnOk P w K i b CX0 1 f c ps sp):anA P w K i b f ps sp:=by obtain⟨c,F⟩:=D;exact⟨c,h _ F,F.binds k⟩
def agD{nm a}(b:W.nsIn K mainGlobals (Str.ofString nm)=some (some (.ref a)))(c:W.typeIn K (.ref a)=some (.type "type"))(d:(W.clsIn K a).map (·.mro)=some (.ref a::gb))(e:W.findIn K (.ref a) "__getattribute__"=some (some (.builtin "BaseException.__getattribute__")))(f:W.findIn K (.ref a) "__getattr__"=some none)(g:W.findIn K (.ref a) "__class__"=some (some (.builtin "object.__class__"))):W.nsIn K mainGlobals (Str.ofString (nm,a).1)=some (some (.ref (nm,a).2))/\Exc1 K a (nm,a).2:=⟨b,c,.inl ⟨d,rfl⟩,e,f,g⟩
def ajO{nm a b}(h:W.nsIn K mainGlobals (Str.ofString nm)=some (some (.ref a)))(c:W.typeIn K (.ref a)=some (.type "type"))(d:(W.clsIn K a).map (·.mro)=some (.ref a::.ref b::gb))(e:W.findIn K (.ref a) "__getattribute__"=some (some (.builtin "BaseException.__getattribute__")))(f:W.findIn K (.ref a) "__getattr__"=some none)(g:W.findIn K (.ref a) "__class__"=some (some (.builtin "object.__class__"))):W.nsIn K mainGlobals (Str.ofString (nm,a).1)=some (some (.ref (nm,a).2))/\Exc1 K b (nm,a).2:=⟨h,c,.inr d,e,f,g⟩
end
def amA{P w K g k p st m ps}(D:AtD K "law" st)(t:∀q v,W.nsIn K mainGlobals q=some (some v)->g q=some v)(j:g "law"=some (.ref m)){x}(u:∀kV i r n d ct v,bindArgs (W.fnOf "law" "law" (bE st) (aL st) (af st) .none kV i r n d ct) ⟨[v],[]⟩=pure [(x,v)])(h:∀b f c,Fun K "law" "law" st f c->FnOk P w K g b CX0 k f c ps (spW K 1 p))(z:∀o:List Int,o.length<=63->p [.lst (o.map .int)]=.ok (.bl true)):∃c,(∀s v,BindsTo s c ⟨[v],[]⟩ [(x,v)])/\∀b,K.In b->b.Ns mainGlobals g->FnOk P w K g b CX0 k m c ps (abI K):=by refine dc D λf c F a=>?_;have e:=j.symm.trans (t _ _ a);cases e;refine⟨c,λs v=>?_,λb _ _=>amz (h _ _ _ F) z⟩;refine ahW F.ex λC od kV i r n d ct y l B A=>?_;subst l;exact .of_eq (u _ _ _ _ _ _ v)
noncomputable def one(a:Addr)(o:HO):Hp:=λb=>if b=a then some o else none
section
variable{X:Cx}{B:Bx}{σ:Ws}{σV:L2.St}{F H:Hp}
def RS.drop(R:RS B σ σV F H)(i:Nat)(x:Option V):RS B (σ.set i .no) (σV.set i x) F H:=by
 have c:∀{j:Nat}{sl:Sl},(σ.set i .no)[j]?=some sl->sl≠.no->i≠j/\σ[j]?=some sl:=λ{j sl}e n=>by
  by_cases b:i=j
  .subst b;have p:i<σ.length:=by have:=(arL.mp e).1;simpa using this
   rw[arT p]at e;cases e;exact absurd rfl n
  .rw[arN b]at e;exact⟨b,e⟩
 refine⟨R.rb,by simp[R.len],λj w e=>?_,λj ws e=>?_,λj k ws h a d g f l m=>?_,R.ang i (sl:=.no) (λz=>z) _ (av.refl _) λ_ _ _ _ _ _ _ _ o q=>⟨q,o⟩⟩;.obtain⟨b,e⟩:=c e (by intro z;cases z);rw[arN b];exact R.va j w e
 .obtain⟨b,e⟩:=c e (by intro z;cases z);rw[arN b];exact R.ow j ws e
 .obtain⟨b,g⟩:=c g (by intro z;cases z);obtain⟨r,f⟩:=c f (by intro z;cases z);rw[arN b]at l;rw[arN r]at m;exact R.ap j k ws h a d g f l m
def RS.away(R:RS B σ σV F H){a:Addr}(o:HO)(w:F a=none)(r:B.H0 a=none)(m:∀(j:Nat)(ws:List VW),σ[j]?=some (Sl.ow ws)->σV[j]?≠some (some (V.ref a)))(f:∀(j:Nat)(g d:List VW),σ[j]?=some (Sl.od g d)->σV[j]?≠some (some (V.ref a))):RS B σ σV F (upd H a o):=by
 refine⟨⟨λb u e=>?_,λb u e=>?_,R.rb.fz0,R.rb.fr⟩,R.len,R.va,λj ws e=>?_,R.ap,R.dd.via rfl id (λ_ _ z=>.inl z) (λ_ _ _ e=>⟨e,rfl⟩) (av.refl _) λj g d b q n t k x l=>⟨x,l,by
  have c:b≠a:=λz=>by subst z;exact f j g d n t
  rw[ag c];exact k⟩⟩
 .have c:b≠a:=λz=>by subst z;rw[w]at e;cases e
  rw[ag c];exact R.rb.sub b u e
 .have c:b≠a:=λz=>by subst z;rw[r]at e;cases e
  rw[ag c];exact R.rb.base b u e
 .obtain⟨b,s,h,i,y,p,v⟩:=R.ow j ws e;have c:b≠a:=λz=>by subst z;exact m j ws e h
  exact⟨b,s,h,i,y,by rw[ag c];exact p,v⟩
variable{i:Nat}{as:List VW}{s1 s2:SF}{st:Stmt}{sts rest:List Stmt}{tt:TF}{pos:Pos}
end
end WS
namespace WS
open PySem PySem.Spec PyProof.Rows L2 PySem.Builtin PySem.Builtin.Str
open WL(Res Sl Ws EF TF AF LF GF GsF SF Out Fs KO KF OX RF Sr)
section
variable{X:Cx}{B:Bx}{K:W.Frag}
def zb:Calm WL.ajn:=λx y c h=>by
 unfold WL.ajn at h;split at h;.split at h<;>cases h
 .cases h
set_option tactic.hygienic true
def ak6:OpR X (binaryOp .Add) (lo2 K WL.ajn):=by intro d s m H x y v u Q I f k⟨F,wx,g,l,h,i,q⟩;cases e:WL.ajn wx g with|bad|ex c=>rw[e]at q;exact q.elim|ok w=>
  rw[e]at q;unfold WL.ajn at e;split at e
  .split at e;.rename_i a b j;cases e;subst h i;obtain⟨t,rfl⟩:=f;obtain⟨n,rfl⟩:=k;exact PyProof.Rows.add_str (λo tk=>fD (.str (a++b)) H (I.tok tk) ⟨_,rfl⟩ (eq1 q (rfl))) (arU j dM)
   .cases e
  .cases e
set_option tactic.hygienic false
def an9(K:W.Frag)(r:VW->List VW->Res VW):V->List V->Hp->VK->Prop:=λx a H Q=>∃F w ws,av F H/\RW K F w x/\RWs K F ws a/\Eq1 F H K (r w ws) Q
def vq{e j tas r}(cm:∀w ws c,r w ws≠.ex c)(h:PE X e (tBM X.K "str" (an9 B.K r) (lo B j) (loA B tas))):PE X e (lo B (WL.uL "str" r j tas)):=PE.imp h λd H Q b=>by refine dc b λf F R q=>?_;have q:=Rq.bind q;refine dP f F R (Rq.mono (av.refl _) q λw i v y k t g n=>?_);cases w with
|str x=>subst n;refine⟨rfl,f,k,t,Rq.mono g.f (Rq.bind i) λws a C A m R2 u p=>?_⟩;refine oU m (.str x) ws R2.rb.sub (by simp[RW]) p ?_;cases em:r (.str x) ws with|bad=>rw[em]at a;exact a.elim|ex c=>exact absurd em (cm _ _ c)|ok z=>rw[em]at a;exact λv l o ex s=>a v o l (ex.rs B f d R2) ((g.trans u).trans ex.gr) s
|_=>exact(i).elim
theorem sv:∀tk a,Vals (a.map V.str) (strsFrom tk a)|_,[]=>.nil|tk,y::a=>.cons ⟨tk,rfl⟩ (sv _ _)
theorem mf{F}:∀a:List Str,RWs K F (a.map WL.W.str) (a.map V.str)|[]=>rfl|y::a=>by exact⟨_,_,rfl,rfl,mf _⟩
def aaG:∀w ws c,WL.iQ w ws≠.ex c:=λw ws c h=>by
 unfold WL.iQ at h;split at h;.split at h<;>cases h
 .cases h
set_option tactic.hygienic true
def af8:MtR X "str.split" (an9 K WL.iQ):=by intro g s E H x N v O Q I C k⟨F,w,ws,y,l,G,q⟩;cases e:WL.iQ w ws with|bad|ex c=>rw[e]at q;exact q.elim|ok z=>
  rw[e]at q;unfold WL.iQ at e;split at e
  .split at e
   .rename_i a b A;refine ag0 A λn J r=>?_;cases e;simp only[RW]at l;subst l;refine de (cx G) λP j o=>?_;subst j;simp only[RW]at o;subst o;obtain⟨t,rfl⟩:=C;obtain⟨u,rfl,⟨t',rfl⟩⟩:=vals1 k;have f:(b.length==0)=false:=by simpa using n
    have D:a.length<=sizeLine:=arU r dM;have M:a.length+2<=sizeLine:=arU (Nat.add_le_add_right r 2) (by decide);have m:(partsBetween a (occurrences a b 0 a.length (a.length+1)) b.length).length<=sizeLine:=by have i:=StrLaws.occ_length_le a b 0 a.length (a.length+1);rw[length_partsBetween];omega
    have q:Eq1 F H K (.ok (.lst ((Txt.split a b).map .str))) Q:=by rw[SF.zE a b n J];exact q
    have one:Txt.split a b=[a]->∃v p,Inv X g E p _/\RelV v (.ref s.heap.objs.size)/\Q v p:=λi=>by rw[i]at q;exact(fD (.ref _) _ (I.apK (t':=s.toks) (ys:=[.str a]) (its:=[.str a t]) (.cons ⟨_,rfl⟩ .nil) (show 1<=sizeLine by decide)) rfl (akz y q (mf [a]) I.fresh))
    cases d:decide (a.length<b.length)||decide (strKind a<strKind b)
    .cases h:(occurrences a b 0 a.length (a.length+1)).isEmpty;.refine auk atL (auj _ _ _) aun (auh _ _) (meets_str_split_sep a b t t' d f h D m) ?_;have i:Txt.split a b=partsBetween a _ b.length:=(arO (auV d)).trans (arO (auV h));rw[i]at q;exact fD (.ref _) _ (I.apK (sv _ _) (by rw[ar7];exact m)) rfl (akz y q (mf _) I.fresh)
     .refine auk atL (auj _ _ _) aun (auh _ _) (meets_str_split_not_found a b t t' d f h) ?_;exact one ((arO (auV d)).trans (arM h))
    .refine auk atL (auj _ _ _) aun (auh _ _) (meets_str_split_cannot_occur a b t t' d) ?_;exact one (arM d)
   .cases e
  .cases e
set_option tactic.hygienic false
def xf:∀w ws c,WL.jf w ws≠.ex c:=λw ws c h=>by unfold WL.jf at h;split at h<;>cases h
def acM:MtR X "str.startswith" (an9 K WL.jf):=by intro d s m H x l v k Q I f b⟨F,w,ws,j,g,i,q⟩;cases e:WL.jf w _ with|bad|ex c=>rw[e]at q;exact q.elim|ok z=>
 unfold WL.jf at e;split at e;.subst g;refine de (cx i) λo a h=>?_;subst a;subst h;obtain⟨t,rfl⟩:=f;obtain⟨u,rfl,⟨n,rfl⟩⟩:=vals1 b;exact SC.startswith (fD (.bl _) H I rfl (eq1 q (rfl)))
 .cases e
def aeo:∀w ws c,WL.ud w ws≠.ex c:=λw ws c h=>by
 unfold WL.ud at h;split at h;.split at h<;>cases h
 .cases h
set_option tactic.hygienic true
def ajp:MtR X "str.partition" (an9 K WL.ud):=by intro g s M H x R v S Q I E l⟨F,w,ws,P,m,N,q⟩;cases e:WL.ud w ws with|bad|ex c=>rw[e]at q;exact q.elim|ok z=>
  rw[e]at q;unfold WL.ud at e;split at e
  .split at e
   .rename_i a b D;obtain⟨J,O⟩:=D;cases e;simp only[RW]at m;subst m;refine de (cx N) λT k p=>?_;subst k;simp only[RW]at p;subst p;obtain⟨t,rfl⟩:=E;obtain⟨u,rfl,⟨t',rfl⟩⟩:=vals1 l;have j:(b.length==0)=false:=by simpa using J
    have G:a.length<=sizeLine:=arU O dM;have lay:∀(f d h:Str)(n C y:Tok)(tk:Nat),Eq1 F H K _ Q->∃v A,Inv X g M A {s with heap:=s.heap.push {cls:=.type "tuple",data:=.seq _},toks:=tk}/\RelV v (.ref s.heap.objs.size)/\Q v A:=λf d h n C y tk q=>by refine(fD (.ref _) _ (I.laid (t':=tk) (o:=.tup [.str f,.str d,.str h]) (λb ob q=>arK _ q) (arP _) ?_) rfl (aoh P q (vs:=[.str f,.str d,.str h]) (mf [f,d,h]) I.fresh));exact⟨show 3<=sizeLine by decide,[.str f n,.str d C,.str h y],.cons ⟨_,rfl⟩ (.cons ⟨_,rfl⟩ (.cons ⟨_,rfl⟩ .nil)),_,arW _ rfl,rfl,0,rfl⟩
    refine auk au9 (auj _ _ _) PySem.F.entry_str_partition (PySem.F.args_str_partition_2 _ _) (meets_str_partition a b t t' j G) ?_;unfold Txt.partition at q;revert q;cases occurrences a b 0 a.length 1 with|nil|cons i r=>intro q;exact lay _ _ _ _ _ _ _ q
   .cases e
  .cases e
set_option tactic.hygienic false
def arq(K:W.Frag):V->Option Int->Option Int->Hp->VK->Prop:=λx l h H Q=>∃F wx i,av F H/\RW K F wx x/\l=some i/\h=none/\Eq1 F H K (WL.v5 wx (.int i)) Q
def alq:SlR X (arq K):=by intro d s y H x v n p lo w A Q I f h pl g⟨F,wx,i,o,r,j,b,q⟩;subst j b;cases pl with|int i ti=>cases g;cases e:WL.v5 wx (.int i)with|bad|ex c=>rw[e]at q;exact q.elim|ok z=>rw[e]at q;cases wx with
 |str a=>
   subst r;obtain⟨t,rfl⟩:=f;unfold WL.v5 at e;dsimp only at e;split at e;.rename_i b;cases e;refine⟨"str",_,PySem.F.slot_str_getitem.lookup,auj _ _ _,wpAny_getItem_str_slice (l:=some (i,ti)) (u:=none) (st:=none) h rfl ?_⟩;exact post_val_or_str ⟨arU (Txt.slice_le a _ _) (arU b.2 dM),λm k=>fD (.str (Txt.slice a (some i) none)) H (I.tok k) ⟨m,rfl⟩ (eq1 q (by simp[RW]))⟩
   .cases e|_=>cases e
def aik{a b ta tb o pos}(z:PE X a (lo B ta))(s:PE X b (lo B tb)):PE X (.Subscript a (.Slice (some b) none none o) pos) (lo B (WL.eOp WL.v5 ta tb)):=PE.imp (yf (alq (K:=B.K)) z (acj s) ack) λg H Q f=>by refine dc f λh F R q=>?_;have q:=Rq.bind q;refine dP h F R (Rq.mono (av.refl _) q λx j v D m C k r=>?_);have j:=Rq.bind j;refine dP h m C (Rq.mono k.f j λy e I G p R2 l t=>?_);cases y with
 |int i=>refine⟨i,t,p,x,i,R2.rb.sub,r.keep l.f,rfl,rfl,?_⟩;cases d:WL.v5 x (.int i)with
  |ok w=>rw[d]at e;exact λv u A E n=>e v A u (E.rs B h g R2) ((k.trans l).trans E.gr) n|ex c=>
    unfold WL.v5 at d;split at d;.split at d<;>cases d
    .cases d|bad=>rw[d]at e;exact e
 |_=>cases x<;>exact(e).elim
end
end WS
namespace L2
open PySem PySem.Spec PyProof.Rows
noncomputable def aor(lo:Int)(n:Nat):It:=⟨λi _=>i<n,λi H x a=>a=H/\x=.int (lo+(i:Nat)*2),λi _=>n<=i⟩
def vv{P:Program}{w:World}{K:W.Frag}{tg:Expr}(it:Addr)(lo:Int)(n:Nat):Turn P w K tg (aor lo n) [it] it λi h=>IsRangeIter h it (lo+(i:Nat)*2) ((n:Int)-(i:Nat)) 2 where
 mem:=by simp
 obj:=λi h st b hb=>by
  have e:b=it:=by simpa using hb
  subst e;exact⟨_,st,λv z=>by have z':Data.fields _=Data.cell v:=z;cases z'⟩
 keep:=λi h h' st k=>k it (by simp) _ st;item:=by intro X hP hw hK i pins s σ H E hc I hf st hg;subst hP hw hK;obtain⟨f0,f1,f2,f3,f4,f5⟩:=hf it (by simp);have W:=Walks.range (prog:=X.prog) (w:=X.w) (I.ok.hd hc) it lo 2 n;refine W.item i s _ _ hg st λv h' tk hv st' kk=>?_;obtain⟨t,rfl⟩:=hv;have I1:Inv X pins σ H {s with heap:=h',toks:=tk}:=I.turned (λb o hb e=>kk b o (by simpa using hb) e) f0 f1 f3 f4 f5;exact⟨_,rfl,aap (s:={s with heap:=h',toks:=tk}) (n:="range_iterator") st' rfl rfl (by decide) ⟨.int (lo+i*2),H,I1,⟨t,rfl⟩,⟨rfl,rfl⟩,st',λb hb=>(hf b hb).1⟩⟩
 done:=by intro X hP hw hK i pins s σ H E hc I hf st hg;subst hP hw hK;obtain⟨f0,f1,f2,f3,f4,f5⟩:=hf it (by simp);exact wpAny_pyNext_range_end (I.ok.hd hc) st (by have:n<=i:=hg;omega) λh' eb=>⟨rfl,I.turned (t':=s.toks) (λb o hb e=>eb b o hb e) f0 f1 f3 f4 f5⟩
 self:=λ_ _ _ _ _ st h=>wpAny_pyIter_rangeiter st h
def jN(a b):Builtin.Range.rangeSize a b 2=((b-a+1)/2).toNat:=by unfold Builtin.Range.rangeSize;split<;>omega
def abK{a b}(e:-2^60<=a)(c:a<2^60)(f:-2^60<=b)(d:b<2^60):Builtin.Range.small a b 2=true:=by unfold Builtin.Range.small;rw[jN];simp only[Builtin.Range.rangeFitsLong,asj,avE,asy,show(2:Int)>0 by decide,ate];omega
section
variable{X:Cx}{tg:Expr}
def ab6{pins}{σ:St}{H s R E lo a t u v tk}(I:Inv X pins σ H s)(f:-2^60<=lo)(d:lo<2^60)(k:-2^60<=a)(g:a<2^60)(q:R (aor lo ((a-lo+1)/2).toNat) H):wpAny (model X.prog X.w) X.A (pyIter (.ref s.heap.objs.size)) (PIE X pins σ tg R) E {s with heap:=s.heap.push {cls:=.type "range",data:=.fields #[.int lo t,.int a u,.int 2 v]},toks:=tk}:=by
 refine wpAny_pyIter_range (IsRange.new ..) (abK f d k g) ?_;have c:Inv X pins σ H {s with heap:=s.heap.push {cls:=.type "range",data:=.fields #[.int lo t,.int a u,.int 2 v]},toks:=tk}:=I.kept λb o e=>arK _ e;refine⟨_,_,_,_,H,rfl,c.kept (t':=tk) λb o e=>arK _ e,vv _ lo ((a-lo+1)/2).toNat,?_,λb i=>?_,q⟩
 .have j:lo+((0:Nat):Int)*2=lo:=by simp
  have h:((((a-lo+1)/2).toNat:Nat):Int)-((0:Nat):Int)=Builtin.Range.rangeSize lo a 2:=by rw[jN];simp
  rw[j,h];exact arW _ rfl
 .have e:b=(s.heap.push {cls:=.type "range",data:=.fields #[.int lo t,.int a u,.int 2 v]}).objs.size:=by simpa using i
  subst e;exact c.aky (arP _) (c.hok.fresh (arP _))
def ags(ta:TA):TI:=λb H R=>ta b H λa c=>∃i j:Int,a=[.int i,.int j,.int 2]/\(-2^60<=i/\i<2^60/\-2^60<=j/\j<2^60)/\R (aor i ((j-i+1)/2).toNat) c
def acn{a b c ta p pos}(l:Gl X "range")(n:X.mg "range"=none)(z:PA X [a,b,c] ta)(C:starEach [a,b,c] X.env=[(false,eval a X.env),(false,eval b X.env),(false,eval c X.env)]:=by rfl)(f:starEach [b,c] X.env=[(false,eval b X.env),(false,eval c X.env)]:=by rfl):PI X tg (.Call (.Name "range" p) [a,b,c] [] pos) (ags ta):=by intro k s v H R I h;refine Call_ (n9 I l n boot_range (asY (thn (z _ _ s v H _ I h) λB E d=>?_) (by grind) (by rw[f];rfl)));obtain⟨D,A,o,w,g⟩:=d;obtain⟨i,j,e,⟨g,y,m,u⟩,q⟩:=g;subst e;cases w with|cons r rr=>cases rr with|cons r' rr=>cases rr with|cons r'' rr=>cases rr;obtain⟨t,rfl⟩:=r;obtain⟨G,rfl⟩:=r';obtain⟨x,rfl⟩:=r'';exact call_range_3 (by decide) (ab6 o g y m u q) (Or.inl (PyProof.noPylong_small (by omega)))
end
end L2
namespace WS
open PySem PySem.Spec PyProof.Rows L2 PySem.Builtin PySem.Builtin.Str
open WL(Res Sl Ws EF TF AF LF GF GsF SF Out Fs KO KF OX RF Sr)
section
variable{X:Cx}{B:Bx}{K:W.Frag}{tg:Expr}{ta tb:EF}
def abe{lo n F}:Walk K (aor lo n) (WL.akq lo 2 n) F:=by
 refine⟨λi x e b f g h=>?_,λb f g h=>by show n<=(WL.akq _ 2 n).length;simp[WL.akq]⟩;have c:=by have:=(arL.mp e).1;simpa[WL.akq]using this
 simp [WL.akq,at1 c]at e;cases e;refine⟨c,λu k a=>?_⟩;obtain⟨j,d⟩:=a;subst j d;exact⟨b,Ext.refl _ _,rfl⟩
def aih{a c d p pos b}(s:Gl X "range")(u:X.mg "range"=none)(h:PE X a (lo B ta))(h':PE X c (lo B tb))(z:starEach [a,c,.Constant (.int 2) d b] X.env=[(false,eval a X.env),(false,eval c X.env),(false,eval (.Constant (.int 2) d b) X.env)]:=by rfl)(g:starEach [c,.Constant (.int 2) d b] X.env=[(false,eval c X.env),(false,eval (.Constant (.int 2) d b) X.env)]:=by rfl)(t:starEach [a,c,.Constant (.int 2) d b] X.env=(false,eval a X.env)::starEach [c,.Constant (.int 2) d b] X.env:=by rfl)(o:starEach [c,.Constant (.int 2) d b] X.env=(false,eval c X.env)::starEach [.Constant (.int 2) d b] X.env:=by rfl)(M:starEach [.Constant (.int 2) d b] X.env=(false,eval (.Constant (.int 2) d b) X.env)::starEach [] X.env:=by rfl):PI X tg (.Call (.Name "range" p) [a,c,.Constant (.int 2) d b] [] pos) (loI B (WL.ags ta tb)):=PI.imp (acn s u (bV h (bV h' (bV aht eW M) o) t) z g) λw H R j=>by refine dc j λm F G q=>?_;have q:=Rq.bind q;refine dP m F G (Rq.mono (av.refl _) q λx l v P r N n A=>?_);have l:=Rq.bind l;refine dP m r N (Rq.mono n.f l λy e S D E R2 C I=>?_);cases x with
|int i=>cases y with|int k=>
   have e:Rq B m F (if -2^60<=i/\i<2^60/\-2^60<=k/\k<2^60 then Res.ok _ else .bad) _:=e;subst A I;by_cases f:-2^60<=i/\i<2^60/\-2^60<=k/\k<2^60;.rw[arM f]at e;exact fD i k rfl f ((show∀J Q O,_ from e) _ D E R2 (n.trans C) abe)
   .rw[arO f]at e;exact(show False from e).elim|_=>exact(show False from e).elim
|_=>exact(show False from e).elim
end
section
variable{X:Cx}{B:Bx}{K:W.Frag}{o x:Expr}{to:EF}{tas:AF}{apos cpos:Pos}
def l8(h:X.K=B.K)(e:PE X o (lo B to))(f:PA X [x] (loA B tas))(b:attributeBase o "split" X.env (eval o X.env)=eval o X.env:=by rfl)(d:((backTo cpos (starEach [x] X.env)).all (λx=>!x.1)&&(backToKw cpos (keywordEach [] X.env)).all (λx=>x.1.isSome)&&decide ([x].length+([]:List Keyword).length+(if([]:List Keyword).isEmpty then 0 else 1)<30))=true:=by rfl)(c:(apos.endLine==cpos.line)=true:=by rfl)(g:starEach [x] X.env=(false,eval x X.env)::starEach [] X.env:=by rfl)(a:BT X cpos []:=by rfl):PE X (.Call (.Attribute o "split" apos) [x] [] cpos) (lo B (WL.uL "str" WL.iQ to tas)):=vq aaG (o6 auw atL PySem.F.type_str_split af8 e f b d c g a)
def aa7(h:X.K=B.K)(e:PE X o (lo B to))(f:PA X [x] (loA B tas))(b:attributeBase o "startswith" X.env (eval o X.env)=eval o X.env:=by rfl)(d:((backTo cpos (starEach [x] X.env)).all (λx=>!x.1)&&(backToKw cpos (keywordEach [] X.env)).all (λx=>x.1.isSome)&&decide ([x].length+([]:List Keyword).length+(if([]:List Keyword).isEmpty then 0 else 1)<30))=true:=by rfl)(c:(apos.endLine==cpos.line)=true:=by rfl)(g:starEach [x] X.env=(false,eval x X.env)::starEach [] X.env:=by rfl)(a:BT X cpos []:=by rfl):PE X (.Call (.Attribute o "startswith" apos) [x] [] cpos) (lo B (WL.uL "str" WL.jf to tas)):=vq xf (o6 auw PySem.F.slot_str_startswith PySem.F.type_str_startswith acM e f b d c g a)
def aa8(h:X.K=B.K)(e:PE X o (lo B to))(f:PA X [x] (loA B tas))(b:attributeBase o "partition" X.env (eval o X.env)=eval o X.env:=by rfl)(d:((backTo cpos (starEach [x] X.env)).all (λx=>!x.1)&&(backToKw cpos (keywordEach [] X.env)).all (λx=>x.1.isSome)&&decide ([x].length+([]:List Keyword).length+(if([]:List Keyword).isEmpty then 0 else 1)<30))=true:=by rfl)(c:(apos.endLine==cpos.line)=true:=by rfl)(g:starEach [x] X.env=(false,eval x X.env)::starEach [] X.env:=by rfl)(a:BT X cpos []:=by rfl):PE X (.Call (.Attribute o "partition" apos) [x] [] cpos) (lo B (WL.uL "str" WL.ud to tas)):=vq aeo (o6 auw au9 PySem.F.type_str_partition ajp e f b d c g a)
end
section
variable{X:Cx}{B:Bx}
inductive PJ(X:Cx)(B:Bx):List Expr->AF->Prop where|nil:PJ X B [] WL.au|c{x:Str}{j:Nat}{pos:Pos}{es:List Expr}{t:AF}(h:PJ X B es t)(hl:x.length<=1000):PJ X B (.Constant (.str x) j pos::es) t|f{e:Expr}{pos:Pos}{es:List Expr}{ta:EF}{t:AF}(he:PE X e (lo B ta))(h:PJ X B es t):PJ X B (.FormattedValue e (-1) none pos::es) (WL.ae (WL.eFf ta) t)|r{e:Expr}{pos:Pos}{es:List Expr}{ta:EF}{t:AF}(hK:X.K=B.K)(hu:X.A.units+64<cLine)(hg:X.A.guards=some [])(he:PE X e (lo B ta))(h:PJ X B es t):PJ X B (.FormattedValue e 114 none pos::es) (WL.ae (WL.eFr ta) t)
end
end WS
namespace L2
open PySem PySem.Spec PyProof.Rows PySem.Builtin
end L2
namespace WS
open PySem PySem.Spec PyProof.Rows L2 PySem.Builtin PySem.Builtin.Str
open WL(Res Sl Ws EF TF AF LF GF GsF SF Out Fs KO KF OX RF Sr)
section
variable{X:Cx}{B:Bx}{K:W.Frag}
def aem:∀a c,WL.aaL a≠.ex c:=λa c h=>by
 unfold WL.aaL at h;split at h;.split at h<;>cases h
 .cases h
 .cases h
set_option tactic.hygienic true
def ak1:bG X (.type "str") (loN K WL.aaL):=by intro d s k H j h Q I r⟨F,ws,g,b,q⟩;cases e:WL.aaL ws with|bad|ex c=>rw[e]at q;exact q.elim|ok w=>
  rw[e]at q;unfold WL.aaL at e;split at e
  .split at e;.rename_i i f;cases e;obtain⟨v,rfl,a⟩:=cx b;simp only[RW]at a;subst a;obtain⟨u,rfl,⟨t,rfl⟩⟩:=vals1 r;exact PySem.P.str_of_int f ⟨.str (toString i),H,I.tok _,⟨_,rfl⟩,eq1 q (by simp[RW])⟩
   .cases e
  .rename_i x;cases e;obtain⟨v,rfl,a⟩:=cx b;simp only[RW]at a;subst a;obtain⟨u,rfl,⟨t,rfl⟩⟩:=vals1 r;exact PySem.P.str_of_str ⟨.str x,H,I,⟨_,rfl⟩,eq1 q (by simp[RW])⟩
  .cases e
set_option tactic.hygienic false
inductive PF(X:Cx)(B:Bx):List Expr->AF->Prop where|nil:PF X B [] WL.au|c{x:Str}{j:Nat}{pos:Pos}{es:List Expr}{t:AF}(h:PF X B es t)(hl:x.length<=1000):PF X B (.Constant (.str x) j pos::es) (WL.ae (WL.eC (.str x)) t)|f{e:Expr}{pos:Pos}{es:List Expr}{ta:EF}{t:AF}(he:PE X e (lo B ta))(h:PF X B es t):PF X B (.FormattedValue e (-1) none pos::es) (WL.ae (WL.ePt ta) t)
end
end WS
namespace WS
open PySem PySem.Spec PyProof.Rows L2
open WL(Res Sl Ws EF TF AF LF GF GsF SF Out Fs KO KF OX RF Sr)
section
variable{B:Bx}{σ:Ws}{σV:L2.St}{F H:Hp}{a:Addr}{kvs:List (Key×V)}{od:Obj}{K:W.Frag}
noncomputable abbrev zD(od:Obj)(kvs:List (Key×V)):HO:=.frz od (.dK kvs)
def ao2(e:F a=some (.dK kvs)){b l}(h:Rd F b (.dK l)):Rd (upd F a (zD od kvs)) b (.dK l):=by
 by_cases c:b=a;.subst c;rcases h with h|⟨o,h⟩<;>rw[e]at h<;>cases h;exact .inr ⟨od,ao⟩
 .unfold Rd;rw[ag c];exact h
def ao1(e:F a=some (zD od kvs)){b l}(h:Rd F b (.dK l)):Rd (upd F a (.dK kvs)) b (.dK l):=by
 by_cases c:b=a;.subst c;rcases h with h|⟨o,h⟩<;>rw[e]at h<;>cases h;exact .inl ao
 .unfold Rd;rw[ag c];exact h
def xV{o o'}(e:F a=some o)(d:∀xs,o≠.tup xs)(c:∀ob xs,o≠.frz ob (.tup xs)){b xs}(h:SqT K F b xs):SqT K (upd F a o') b xs:=by
 rcases h with(h|⟨ob,h⟩)|h;.exact .inl (.inl (by rw[ag λz=>by grind];exact h))
 .exact .inl (.inr ⟨ob,by rw[ag λz=>by grind];exact h⟩)
 .exact .inr h
def ahh{o o'}(e:F a=some o)(d:∀xs,o≠.lst xs)(c:∀ob xs,o≠.frz ob (.lst xs)){b xs}(h:SqL K F b xs):SqL K (upd F a o') b xs:=by
 rcases h with(h|⟨ob,h⟩)|h;.exact .inl (.inl (by rw[ag λz=>by grind];exact h))
 .exact .inl (.inr ⟨ob,by rw[ag λz=>by grind];exact h⟩)
 .exact .inr h
def RWs.fz(e:F a=some (.dK kvs)){ws vs}(h:RWs K F ws vs):RWs K (upd F a (zD od kvs)) ws vs:=RWs.via (λ_ _ q=>xV e (λ_ z=>nomatch z) (λ_ _ z=>nomatch z) q) (λ_ _ q=>ahh e (λ_ z=>nomatch z) (λ_ _ z=>nomatch z) q) (λ_ _ q=>ao2 e q) (λb c q=>by rw[ag λz=>by grind];exact q) (λb c q=>by rw[ag λz=>by grind];exact q) (λb _ _ _ _ q=>by rw[ag λz=>by grind];exact q) _ _ h
def RWs.th(e:F a=some (zD od kvs)){ws vs}(h:RWs K F ws vs):RWs K (upd F a (.dK kvs)) ws vs:=RWs.via (λ_ _ q=>xV e (λ_ z=>nomatch z) (λ_ _ z=>nomatch z) q) (λ_ _ q=>ahh e (λ_ z=>nomatch z) (λ_ _ z=>nomatch z) q) (λ_ _ q=>ao1 e q) (λb c q=>by rw[ag λz=>by grind];exact q) (λb c q=>by rw[ag λz=>by grind];exact q) (λb _ _ _ _ q=>by rw[ag λz=>by grind];exact q) _ _ h
def RW.one{w v}(h:RWs K F [w] [v]):RW K F w v:=by obtain⟨_,_,e,q,_⟩:=h;cases e;exact q
theorem RW.fz(e:F a=some (.dK kvs)){w v}(h:RW K F w v):RW K (upd F a (zD od kvs)) w v:=RW.one (RWs.fz e (RWs.one h))
theorem RW.th(e:F a=some (zD od kvs)){w v}(h:RW K F w v):RW K (upd F a (.dK kvs)) w v:=RW.one (RWs.th e (RWs.one h))
theorem XR.th(e:F a=some (zD od kvs)){c C dx}(h:XR K F c C dx):XR K (upd F a (.dK kvs)) c C dx:=by cases c with|exc nm fs=>obtain⟨j,i,f,l,k⟩:=h;exact⟨j,_,f,l.th e,k.imp id λb=>by obtain⟨d,g,m⟩:=b;exact⟨d,g,by rw[ag λz=>by grind];exact m⟩⟩|_=>exact h.elim
def vF{F F' o o'}(s:av (upd F a o) F'):av (upd F a o') (upd F' a o'):=λb u e=>by
 by_cases c:b=a;.subst c;rw[ao]at e⊢;exact e
 .rw[ag c]at e⊢;exact s b u (by rw[ag c];exact e)
def pL{F o}(e:F a=some o):upd F a o=F:=by
 funext b;by_cases c:b=a;.subst c;rw[ao,e]
 .rw[ag c]
def Bx.fz(B:Bx)(a:Addr)(od:Obj)(kvs:List (Key×V)):Bx:=⟨B.K,upd B.H0 a (zD od kvs),upd B.F0 a (zD od kvs),λc σ F=>B.xp c σ (upd F a (.dK kvs)),λc σ F f s h=>B.mono c σ _ _ (λb u e=>by
 by_cases d:b=a;.subst d;rw[ao]at e⊢;exact e
 .rw[ag d]at e⊢;exact s b u e) h⟩
theorem RS.fz(R:RS B σ σV F H)(e:F a=some (.dK kvs)):RS (B.fz a od kvs) σ σV (upd F a (zD od kvs)) (upd H a (zD od kvs)):=by
 refine⟨⟨λb u q=>?_,λb u q=>?_,λb u q=>?_,λb u q=>?_⟩,R.len,λi w q=>?_,λi ws q=>?_,R.ap,λi p m q=>?_,R.dd.ad,λi q=>?_⟩
 .by_cases c:b=a;.subst c;rw[ao]at q⊢;exact q
  .rw[ag c]at q⊢;exact R.rb.sub b u q
 .by_cases c:b=a;.subst c;exact(show upd B.H0 b (zD od kvs) b=some u from q)▸by rw[ao,ao]
  .have q:upd B.H0 a (zD od kvs) b=some u:=q;rw[ag c]at q⊢;exact R.rb.base b u q
 .by_cases c:b=a;.subst c;exact(show upd B.F0 b (zD od kvs) b=some u from q)▸by rw[ao,ao]
  .have q:upd B.F0 a (zD od kvs) b=some u:=q;rw[ag c]at q⊢;exact R.rb.fz0 b u q
 .by_cases c:b=a;.subst c;rw[ao]at q;exact .inl (by show upd B.F0 b (zD od kvs) b=_;rw[ao];exact q)
  .rw[ag c]at q;rcases R.rb.fr b u q with z|z;.exact .inl (by show upd B.F0 a (zD od kvs) b=_;rw[ag c];exact z)
   .exact .inr ⟨by show upd B.H0 a (zD od kvs) b=_;rw[ag c];exact z.1,z.2⟩
 .obtain⟨v,f,d⟩:=R.va i w q;exact⟨v,f,d.fz e⟩
 .refine ke (R.ow i ws q) λb n f d j g h=>?_;have c:b≠a:=λz=>by rw[z,e]at d;cases d
  exact zm b n f (by rw[ag c];exact d) (by show upd B.H0 a (zD od kvs) b=_;rw[ag c];exact j) (by rw[ag c];exact g) (h.fz e)
 .refine agZ (R.dd.od i p m q) λb l f d j g h k=>?_;have c:b≠a:=λz=>by rw[z,e]at d;cases d
  exact ag2 b l f (by rw[ag c];exact d) (by show upd B.H0 a (zD od kvs) b=_;rw[ag c];exact j) (by rw[ag c];exact g) (h.fz e) (k.fz e)
 .refine vh (R.dd.ob i q) λb C o f d=>?_;exact aeL b C o f (by rw[ag λz=>by rw[z,e]at d;cases d];exact d)
def Was(B:Bx)(a:Addr)(kvs:List (Key×V)):Prop:=(B.F0 a=some (.dK kvs)\/B.H0 a=none/\B.F0 a=none)/\(B.H0 a=none\/B.H0 a=some (.dK kvs))
def RB.was(R:RB B F H)(e:F a=some (.dK kvs)):Was B a kvs:=by
 constructor
 .rcases R.fr a _ e with z|z;.exact .inl z
  .cases q:B.F0 a with|none=>exact .inr ⟨z.1,rfl⟩|some u=>have:=R.fz0 a u q;rw[e]at this;cases this;exact .inl rfl
 .cases q:B.H0 a with|none=>exact .inl rfl|some u=>have:=R.base a u q;rw[R.sub a _ e]at this;cases this;exact .inr rfl
def RB.th(R:RB (B.fz a od kvs) F H)(w:Was B a kvs):F a=some (zD od kvs)/\H a=some (zD od kvs)/\RB B (upd F a (.dK kvs)) (upd H a (.dK kvs)):=by
 have e:=R.fz0 a _ (by show upd B.F0 a (zD od kvs) a=_;rw[ao]);refine⟨e,R.sub a _ e,λb u q=>?_,λb u q=>?_,λb u q=>?_,λb u q=>?_⟩
 .by_cases c:b=a;.subst c;rw[ao]at q⊢;exact q
  .rw[ag c]at q⊢;exact R.sub b u q
 .by_cases c:b=a
  .subst c;rcases w.2 with z|z<;>rw[z]at q;.cases q
   .rw[ao];exact q
  .rw[ag c];exact R.base b u (by show upd B.H0 a (zD od kvs) b=_;rw[ag c];exact q)
 .by_cases c:b=a
  .subst c;rcases w.1 with z|⟨_,z⟩<;>rw[z]at q;.rw[ao];exact q
   .cases q
  .rw[ag c];exact R.fz0 b u (by show upd B.F0 a _ b=_;rw[ag c];exact q)
 .by_cases c:b=a
  .subst c;rw[ao]at q;cases q;rcases w.1 with z|⟨z,_⟩;.exact .inl z
   .exact .inr ⟨z,trivial⟩
  .rw[ag c]at q;rcases R.fr b u q with z|z;.exact .inl (by have:upd B.F0 a (zD od kvs) b=some u:=z;rwa[ag c]at this)
   .exact .inr ⟨by have:upd B.H0 a (zD od kvs) b=none:=z.1;rwa[ag c]at this,z.2⟩
theorem RS.th(R:RS (B.fz a od kvs) σ σV F H)(w:Was B a kvs):RS B σ σV (upd F a (.dK kvs)) (upd H a (.dK kvs)):=by
 refine ag0 (R.rb.th w) λe s o=>?_;refine⟨o,R.len,λi w q=>?_,λi ws q=>?_,R.ap,λi r m q=>?_,R.dd.ad,λi q=>?_⟩;.obtain⟨v,d,c⟩:=R.va i w q;exact⟨v,d,c.th e⟩
 .refine ke (R.ow i ws q) λb n d c j g h=>?_;have f:b≠a:=λz=>by grind
  exact zm b n d (by rw[ag f];exact c) (by have:upd B.H0 a (zD od kvs) b=none:=j;rwa[ag f]at this) (by rw[ag f];exact g) (h.th e)
 .refine agZ (R.dd.od i r m q) λb l d c j g h k=>?_;have f:b≠a:=λz=>by grind
  exact ag2 b l d (by rw[ag f];exact c) (by have:upd B.H0 a (zD od kvs) b=none:=j;rwa[ag f]at this) (by rw[ag f];exact g) (h.th e) (k.th e)
 .refine vh (R.dd.ob i q) λb C p d c=>?_;exact⟨b,C,p,d,by rw[ag λz=>by rw[z,e]at c;cases c];exact c⟩
end
section
variable{X:Cx}{B:Bx}{a:Addr}{kvs:List (Key×V)}{od:Obj}
def ale{pins c H s e C dx T d}(t:Thr X pins c H s e C dx d T)(q:H a=some (zD od kvs))(j:∀o u,X.H₀ a≠some (.frz o u)):Thr X pins c (upd H a (.dK kvs)) s e C dx d T:=by
 have f:∀{b},FpX X _ H b->FpX X pins (upd H a (.dK kvs)) b:=λ{b}h=>by obtain⟨i,g⟩:=h;exact⟨by rw[ag λz=>by grind];exact i,g⟩
 exact⟨t.inv.adB q j,t.trc,f t.fe,λu k=>f (t.fT u k)⟩
theorem XW.fz(k:XW X B)(w:Was B a kvs)(d:∀o u,X.H₀ a≠some (.frz o u)):XW X (B.fz a od kvs):=λb f H s g F c R j e C n T m t l=>by obtain⟨i,h,_⟩:=R.rb.th w;exact k _ _ _ s g _ c (R.th w) j e C _ T _ (ale t h d) (l.th i)
def ajS(D:Ends)(a:Addr)(od:Obj)(kvs:List (Key×V)):Ends:=⟨λb H=>H a=some (zD od kvs)/\D.nx b (upd H a (.dK kvs)),λv H=>H a=some (zD od kvs)/\D.rt v (upd H a (.dK kvs)),λb H=>H a=some (zD od kvs)/\D.bk b (upd H a (.dK kvs)),λb H=>H a=some (zD od kvs)/\D.ct b (upd H a (.dK kvs))⟩
def aiH{pins D}(c:∀o u,X.H₀ a≠some (.frz o u))(f)(s)(h:SP X pins (ajS D a od kvs) f s):SP X pins D f s:=by cases f with|next|brk|cont=>obtain⟨b,H,I,e,q⟩:=h;exact⟨b,_,I.adB e c,q⟩|ret u=>refine qz h λv b H I r e q=>?_;exact ag1 v b _ (I.adB e c) r q
theorem Oq.fz{D F}(e:F a=some (.dK kvs))(w:Was B a kvs){o}(h:Oq B D F o):Oq (B.fz a od kvs) (ajS D a od kvs) (upd F a (zD od kvs)) o:=by
 have bk:∀{b},av (upd F a (zD od kvs)) b->av F _:=λs=>by have:=vF (o':=.dK kvs) s;rwa[pL e]at this
 cases o with|nx σ|bk σ|ct σ=>exact λd H G R z=>⟨(R.rb.th w).2.1,h _ _ _ (R.th w) (bk z)⟩|rt u=>exact λv H G R z r=>⟨(R.th w).2.1,h v _ _ (R.th w).2.2 (bk z) (r.th (R.th w).1)⟩|ex c σ=>show B.xp c σ _;rw[vt,pL e];exact h|bad=>exact h
variable{tg l:Expr}{body:List Stmt}{g:GF}{b:SF}{i:Nat}{pos:Pos}
def mJ{K ks F}(h:F a=some (zD od kvs))(r:RWs K F ks (kvs.map λp=>kV p.1)):Walk K (Itd a od kvs) ks F:=by have q:=r.length;rw[ar7]at q;refine⟨λi x e j m d f=>?_,λj m d f=>⟨f _ _ (d _ _ h),by omega⟩⟩;refine de (r.get e) λv c o=>?_;rw[ar3,asf]at c;obtain⟨p,c,rfl⟩:=c;refine⟨⟨f _ _ (d _ _ h),(arL.mp c).1⟩,λu t⟨n,s,k,y⟩=>?_⟩;subst n y;rw[c]at k;cases k;exact⟨j,Ext.refl _ _,o.keep d⟩
def aib(hK:X.K=B.K)(hp:PassesOwn (model X.prog X.w) X.A X.env X.xe)(hc:X.calm=true)(hx:XW X B)(hl:PE X l (fE i))(hg:∀k,PG X tg (loG false k g))(hb:∀k,k.K=X.K->XW X k->PSs X body (loS k b))(hs:∀x,foldedSetIterable l X.env x=pure x:=by intro _;rfl):PS X (.For tg l body [] pos) (loS B (WL.nE (WL.akx i) g b)):=by
 intro d s n H D I⟨Z,F,R,q⟩;have y:=Oq.ofR q;have C:∀(k:Bx)(T:Ends)(d:List (Addr×Obj))(s:Shared)(H' M:Hp)(o us:List VW)(a:Addr)(od:Obj)(kvs:List (Key×V)),k.K=X.K->XW X k->Inv X d n H' s->RS k Z n M H'->n[i]?=some (some (.ref a))->M a=some (zD od kvs)->RWs k.K M o (kvs.map λp=>kV p.1)->Oq k T M (WL.forL g b o Z)->wpAny (model X.prog X.w) X.A (exec (.For tg l body [] pos) X.env) (SP X d T) X.xe s:=by
  intro k T d s H' M o us a od kvs a0 a2 I' R' N e3 rk q';refine yd (wi:=λn H R=>∃J,R J H/\J=Itd a od kvs/\n[i]?=some (some (.ref a))/\H a=some (zD od kvs)) hp hc (PI.imp (vN hl) λn H R a1=>by obtain⟨J,r,ej,N,e3⟩:=a1;exact⟨.ref a,N,a,od,kvs,rfl,e3,by rw[<-ej];exact r⟩) (hg k) (hb k a0 a2) hs d s n H' T I' ?_;refine⟨_,?_,rfl,N,R'.rb.sub _ _ e3⟩;have wk:=mJ e3 rk;refine⟨λj m u Q=>m=o.length-j/\j<=o.length/\∃A E,RS k A u E Q/\av M E/\Oq k T E (WL.forL g b (o.drop j) A),⟨o.length,rfl,asr _,Z,M,R',av.refl _,by rw[atU];exact q'⟩,?_⟩;rintro j m u Q⟨rfl,hj,A,E,R1,s1,e⟩;by_cases K:j<o.length;.have hd:=asu K;rw[hd]at e;obtain⟨go,yl⟩:=wk.go j o[j] (arQ K) E Q s1 R1.rb.sub;refine .inr ⟨go,_,λt H2 h2=>⟨o.length-(j+1),by omega,rfl,K,h2⟩,λv H2 hy=>?_⟩;obtain⟨F2,E2,r2⟩:=yl v H2 hy;have e:=Oq.ofR e;refine⟨A,F2,o[j],E2.rs _ _ _ R1,r2,Rq.mono E2.same e λU e a3 H3 F3 R3 g3=>?_⟩;refine⟨U,F3,R3,?_⟩;have P:=E2.same.trans g3.f;cases z:b U with|nx t|ct t=>rw[z]at e;exact λG H4 Y S O=>⟨t,Y,S,(s1.trans P).trans O,Oq.mono (P.trans O) e⟩|bk t=>rw[z]at e;exact λG H4 Y S O=>e G H4 Y S (P.trans O)|rt w=>rw[z]at e;exact λv4 H4 Y S O=>e v4 H4 Y S (P.trans O)|ex c t=>rw[z]at e;exact k.mono c t E F3 P e|bad=>rw[z]at e;exact e
  .have ei:j=o.length:=by omega
   subst ei;rw[atx]at e;exact .inl ⟨wk.stop E Q s1 R1.rb.sub,e u Q E R1 (av.refl _)⟩
 unfold WL.akx at y;cases z:Z[i]? with|none=>rw[z]at y;exact(y).elim|some sl=>rw[z]at y;cases sl with
 |va w=>cases w with|dic o us=>
    have y:=y;obtain⟨v,N,r2⟩:=R.va i _ z;simp only[RW]at r2;obtain⟨a,kvs,rfl,rd,rk,ru⟩:=r2;rcases rd with rd|⟨od,rd⟩;.obtain⟨od,I',hn⟩:=I.ajJ (R.rb.sub _ _ rd);have w:=R.rb.was rd;exact thn (C (B.fz a od kvs) (ajS D a od kvs) d s _ _ o us a od kvs hK.symm (hx.fz w hn) I' (R.fz rd) N ao (rk.fz rd) (y.fz rd w)) λf s h=>aiH hn f s h
    .exact C B D d s H F o us a od kvs hK.symm hx I R N rd rk y|_=>exact(y).elim
 |_=>exact(y).elim
end
end WS
namespace PySem
def Heap.IsStrIter.at{h h':Heap}{a ty x t i}(y:h.IsStrIter a ty x t i)(e:∀o,h.get? a=some o->h'.get? a=some o):h'.IsStrIter a ty x t i:=let⟨o,b,r⟩:=y;⟨o,e _ b,r⟩
end PySem
namespace L2
open PySem PySem.Spec PyProof.Rows
noncomputable def Its(x:Str):It:=⟨λi _=>i<x.cps.size,λi H v a=>a=H/\∃c,x.cps[i]?=some c/\v=.str ⟨#[c]⟩,λi _=>x.cps.size<=i⟩
def zz{P:Program}{w:World}{K:W.Frag}{tg:Expr}(it:Addr)(x:Str)(t:Tok):Turn P w K tg (Its x) [it] it λi h=>h.IsStrIter it "str_ascii_iterator" x t i where
 mem:=by simp
 obj:=λi h st b hb=>by
  have e:b=it:=by simpa using hb
  subst e;obtain⟨o,e,c,d⟩:=st;exact⟨o,e,λv z=>by rw[d]at z;cases z⟩
 keep:=λi h h' st k=>st.at λo e=>k it (by simp) o e;item:=by intro X hP hw hK i pins s σ H E hc I hf st hg;subst hP hw hK;have hg:i<x.cps.size:=hg;obtain⟨f0,f1,f2,f3,f4,f5⟩:=hf it (by simp);refine wpAny_pyNext_ascii_item st (c:=x.cps[i]) (at6 hg) λh' st' sb=>?_;have I1:Inv X pins σ H {s with heap:=h',toks:=s.toks+1}:=I.turned (t':=s.toks+1) (λb o hb e=>(sb.2 b hb).trans e) f0 f1 f3 f4 f5;obtain⟨o,e,c,d⟩:=id st';exact⟨_,rfl,aap (s:={s with heap:=h',toks:=s.toks+1}) e c d (by decide) ⟨.str ⟨#[x.cps[i]]⟩,H,I1,⟨_,rfl⟩,⟨rfl,_,at6 hg,rfl⟩,st',λb hb=>(hf b hb).1⟩⟩
 done:=by intro X hP hw hK i pins s σ H E hc I hf st hg;subst hP hw hK;have hg:x.cps.size<=i:=hg;obtain⟨f0,f1,f2,f3,f4,f5⟩:=hf it (by simp);exact wpAny_pyNext_ascii_end (I.ok.hd hc) st (Array.getElem?_eq_none hg) λh' eb=>⟨rfl,I.turned (t':=s.toks) (λb o hb e=>eb b o hb e) f0 f1 f3 f4 f5⟩
 self:=λA i s Q E st h=>by refine wpAny_pyIter_slot st.typeIs auU (asR auU st.typeIs F.entry_str_ascii_iterator_iter ?_ (F.args_str_ascii_iterator_iter_1 _));show wpAny _ _ (ret (.ref it)) _ _ s;exact arR ⟨_,rfl,"str_ascii_iterator",_,st.typeIs,F.slot_str_ascii_iterator_next.lookup,h⟩
def art(b:TE):TI:=λa H R=>b a H λv c=>∃x:Str,v=.str x/\x.cps.all (.<128)=true/\R (Its x) c
def afN{X j l g}(n:PE X l g):PI X j l (art g):=by
 intro a s k H R I h;refine thn (n a s k H _ I h) λv f c=>?_;obtain⟨z,i,d,m,x,e,p,q⟩:=c;subst e;obtain⟨t,rfl⟩:=m;refine wpAny_pyIter_ascii p (akO f.heap.objs.size [f.heap.objs.size] _ _ i rfl (d.kept λb o e=>arK _ e) (zz _ x t) ⟨_,arW _ rfl,rfl,rfl⟩ (λb r=>?_) q);have e:b=f.heap.objs.size:=by grind
 subst e;exact d.aky (arP _) (d.hok.fresh (arP _))
def pF{X}:bG X (.builtin "len") λc H Q=>∃a b,c=[.ref a]/\Rd H a (.dK b)/\Q (.int b.length) H:=by
 intro d s k H c i Q I g⟨a,_,e,rd,q⟩;subst e;obtain⟨u,rfl,j⟩:∃u,i=[u]/\RelV (.ref a) u:=by cases g with|cons h t=>cases t;exact⟨_,rfl,h⟩
 cases j;exact ap9 I rd λt l f=>⟨.int _,H,f,⟨t,rfl⟩,q⟩
end L2
namespace WS
open PySem PySem.Spec PyProof.Rows L2
open WL(Res Sl Ws EF TF AF LF GF GsF SF Out Fs KO KF OX RF Sr)
section
variable{X:Cx}{B:Bx}{K:W.Frag}
def akV{r e:Expr}{ta:EF}(h:PE X e (lo B ta)):PI X r e (loI B (WL.aqV ta)):=PI.imp (afN h) λo H R f=>by
 obtain⟨l,F,u,q⟩:=f;have q:=Rq.bind q;refine⟨l,F,u,Rq.mono (av.refl _) q λx a v s m D n j=>?_⟩
 cases x with|str x=>
  simp only[RW]at j;have a:Rq B l F (if x.cps.all (.<128)=true then Res.ok (WL.signs x)else .bad) _:=a;by_cases d:x.cps.all (.<128)=true
  .rw[arM d]at a;refine⟨x,j,d,(show∀J G E,_ from a) _ s m D n ⟨λi y e k t z C=>?_,λk t z C=>by show x.cps.size<=(WL.signs x).length;simp[WL.signs]⟩⟩;unfold WL.signs at e;rw[ar3,asf]at e;obtain⟨c,e,rfl⟩:=e;have p:i<x.cps.size:=by have:=(arL.mp e).1;simpa using this
   refine⟨p,λv I b=>?_⟩;obtain⟨w,A,g,y⟩:=b;subst w y;have:c=A:=by rw[atQ]at e;rw[e]at g;exact asd g
   subst this;exact⟨k,Ext.refl _ _,by simp[RW]⟩
  .rw[arO d]at a;exact(show False from a).elim|_=>exact(show False from a).elim
def uV:∀a c,WL.aaO a≠.ex c:=λa c h=>by
 unfold WL.aaO at h;split at h;.split at h<;>cases h
 .cases h
 .exact aV _ _ h
set_option tactic.hygienic true
def ahc(l:X.K=K):bG X (.builtin "len") (loN K WL.aaO):=by
 intro b s f H k d Q I c⟨F,ws,i,r,q⟩;unfold WL.aaO at q;split at q
 .split at q;.rename_i x m;obtain⟨v,rfl,h⟩:=cx r;exact uW b s f H _ d Q I c ⟨x,by rw[h],arU m dM,eq1 q (rfl)⟩
  .exact q.elim
 .obtain⟨v,rfl,h⟩:=cx r;refine my h λa e g rd j _=>?_;subst g;have:=j.length;exact pF _ s f H _ d Q I c ⟨a,e,rfl,i.rd rd,eq1 q (by simp[RW,this])⟩
 .exact eO l b s f H k d Q I c ⟨F,_,i,r,q⟩
set_option tactic.hygienic false
def agS:Calm WL.aku:=λx y c h=>by
 unfold WL.aku at h;split at h;.cases h
 .cases h
 .exact lg _ _ _ h
set_option tactic.hygienic true
def aox(j:X.K=K)(k:X.A.units+64<cLine):OpR X (compareOp .In) (lo2 K WL.aku):=by
 intro d s e H x y v u Q I c h⟨F,wx,l,i,f,g,q⟩;unfold WL.aku at q;split at q;.rename_i a b;exact acz _ s e H x y v u Q I c h ⟨a,b,f,g,eq1 q (rfl)⟩
 .exact q.elim
 .exact akl j k _ s e H x y v u Q I c h (oU F _ _ i f g q)
set_option tactic.hygienic false
noncomputable def kW:Key->VW|.inl none=>.non|.inl (some i)=>.int i|.inr z=>.str z
def ql{F x a}(h:RW K F x (kV a)):x=kW a:=by rcases a with(_|i)|z<;>cases x<;>simp only[kV,RW,reduceCtorEq,false_and,exists_false]at h<;>cases h<;>rfl
def rA{F x y}:∀{a b},RW K F x (kV a)->RW K F y (kV b)->WL.wu x y=decide (a=b):=by intro a b d c;rw[ql d,ql c,asq];rcases a with(_|i)|z<;>rcases b with(_|j)|e<;>simp[WL.wu,kW]
set_option tactic.hygienic true
def yJ{F}{k:VW}{v}(b:WL.aaU k=true)(r:RW K F k v):∃a,v=kV a:=by
 cases k<;>simp [WL.aaU]at b;.exact⟨.inl none,r⟩
 .rename_i i;exact⟨.inl (some i),r⟩
 .rename_i x;exact⟨.inr x,r⟩
set_option tactic.hygienic false
theorem xa{F k a}(b:RW K F k (kV a)):∀{kvs:List (Key×V)}{ks},RWs K F ks (kvs.map λp=>kV p.1)->WL.aeQ k ks=kvs.any λd=>decide (d.1=a)
|[],ks,r=>by cases ks with|nil=>rfl|cons x ks=>simp[RWs]at r
|p::kvs,ks,r=>by cases ks with|nil=>simp[RWs]at r|cons x ks=>obtain⟨h,g,e,f,c⟩:=r;cases e;show(WL.wu x k||WL.aeQ k _)=_;rw[rA f b,xa b c];rfl
theorem aee{F k w a v}(g:RW K F k (kV a))(i:RW K F w v):∀{kvs:List (Key×V)}{ks us},RWs K F ks (kvs.map λp=>kV p.1)->RWs K F us (kvs.map λp=>p.2)->RWs K F ks ((kvs.map λb=>if b.1=a then(b.1,v)else b).map λp=>kV p.1)/\RWs K F (WL.agO k w ks us) ((kvs.map λb=>if b.1=a then(b.1,v)else b).map λp=>p.2)
|[],ks,us,r1,r2=>by cases ks with
 |nil=>cases us with|nil=>exact⟨r1,r2⟩|cons _ _=>simp[RWs]at r2
 |cons x ks=>simp[RWs]at r1
|p::kvs,ks,us,r1,r2=>by cases ks with|nil=>simp[RWs]at r1|cons x ks=>cases us with|nil=>simp[RWs]at r2|cons y us=>
    obtain⟨t,q,m,c,l⟩:=r1;obtain⟨s,r,j,o,n⟩:=r2;cases m;cases j;obtain⟨f,d⟩:=aee g i l n;have e:=rA c g;unfold WL.agO;rw[e];by_cases h:p.1=a;.rw[aso h,arM rfl];simp only[arZ,arM h];exact⟨.cons c f,.cons i d⟩
    .rw[ar6 h,arO ar2];simp only[arZ,arO h];exact⟨.cons c f,.cons o d⟩
def acb{F k w a v}(c:RW K F k (kV a))(e:RW K F w v){kvs ks us}(b:RWs K F ks (kvs.map λp=>kV p.1))(d:RWs K F us (kvs.map λp=>p.2)):RWs K F (WL.putK ks k) ((putK kvs a v).map λp=>kV p.1)/\RWs K F (WL.alH ks us k w) ((putK kvs a v).map λp=>p.2):=by
 unfold WL.putK WL.alH L2.putK;rw[xa c b];by_cases h:(kvs.any λf=>decide (f.1=a))=true;.rw[arM h,arM h,arM h];exact aee c e b d
 .rw[arO h,arO h,arO h,asZ,asZ];exact⟨b.app (.one c),d.app (.one e)⟩
variable{i j:Nat}{pos pos':Pos}{x:Str}
def aa4{a}(r:X.N.Nodup)(n:X.N[i]?=some x)(u:Loc X.env.scope x)(m:swapsWith (.Dict [] [] a) (some (.Name x pos')) pos.line X.env=pure false:=by rfl)(o:FL X x:=by first|exact .inl rfl|exact .inr rfl|assumption):PS X (.Assign [.Name x pos'] (.Dict [] [] a) pos) (loS B (WL.aiT i)):=PS.imp (tI r n u yj m o) λD k H d=>by refine dc d λv F R q=>?_;intro p c;refine q _ _ F ((R.akv c _).aqz (R.rb.sub.free c) (R.rb.base.free c) ao (rfl) (rfl) λj t h _ g s=>?_) (av.refl _);refine ke (R.dd.od j t h g) λb l f _ _ e _=>?_;rw[s]at f;cases f;rw[c]at e;cases e
def aa3{o m b tv tk}(hu:X.A.units+1<cLine)(P:PE X o (fE i))(M:PE X m (lo B tk))(Y:PE X b (lo B tv))(J:swapsWith b (some (.Subscript o m pos')) pos.line X.env=pure false:=by rfl):PS X (.Assign [.Subscript o m pos'] b pos) (loS B (WL.jb i tv tk)):=PS.imp (ach hu P M Y J) λD l H p=>by refine dc p λd F R q=>?_;have q:Oq B D F (match d[i]? with|some (.od ks us)=>WL.ofR d (tv d) _|_=>.bad):=q;cases e:d[i]? with|none=>rw[e]at q;exact q.elim|some sl=>
 rw[e]at q;cases sl with|od ks us=>
   have q:=Oq.ofR q;refine⟨d,F,R,Rq.mono (av.refl _) q λw n v H1 E C r N=>?_⟩;refine dc (C.dd.od i ks us e) λa I h _=>?_;refine⟨.ref a,h,?_⟩;have n:=Oq.ofR n;refine⟨d,E,C,Rq.mono r.f n λk c y H2 T R2 z A=>?_⟩;refine agZ (R2.dd.od i ks us e) λa' f u O U t s Z=>?_;rw[h]at u;cases u;have c:Oq B D F (if WL.aaU k=true/\ks.length<WL.lim then .nx _ else .bad):=c;by_cases g:WL.aaU k=true/\ks.length<WL.lim
   .rw[arM g]at c;obtain⟨G,rfl⟩:=yJ g.1 A;have hl:f.length<sizeLine:=by have:=s.length;rw[ar7]at this;rw[<-this];exact arS g.2 dM
    obtain⟨S,Q⟩:=acb A (N.keep z.f) s Z;exact⟨a,_,rfl,akI.k t hl,c l _ T (R2.ag7 e h O U t S Q) (r.f.trans z.f)⟩
   .rw[arO g]at c;exact c.elim|_=>exact q.elim
end
end WS
set_option autoImplicit true
set_option relaxedAutoImplicit true
namespace L2
open PySem PySem.Spec PyProof.Rows
section
variable{X:Cx}{k:Nat}{f C:Addr}{fd:FuncData}{ps:List Str}{sp:Sp}{dvs:List V}{ds:List Value}{x:Str}{p pos:Pos}{e:Expr}{es:List Expr}{t:TA}
def ahe(X:Cx)(C:Addr)(sp:Sp)(dvs:List V)(t:TA):TE:=λh H Q=>t h H λl d=>∀x c,d x=none->d c=none->c≠x->∃E:XK,sp (.ref x::(l++dvs)) (upd (upd d c (.own x)) x (.ins C c [])) (λv j=>v=.non/\Q (.ref x) j) E/\∀b s e g a T i,Thr X b h i s e g a .none (some T)->E (.ref g) a i->X.xe (.ref e) s
def yh(M:Mk X.K C f)(F:FnOk X.prog X.w X.K X.mg X.base (CXX X.prog X.w) k f fd ps sp)(U:Room (k+1) X.A)(w:Gl X x)(A:X.mg x=some (.ref C))(J:Binds X.K fd ps ds)(y:Vals dvs ds)(N:PA X (e::es) t)(l:Dbg x:=by decide)(he:SE X e es:=by rfl)(j:BT X pos es:=by rfl):PE X (.Call (.Name x p) (e::es) [] pos) (ahe X C sp dvs t):=by
 intro b B σ Z Q i R;refine atl (dH i w A ?_ l);refine avq i.ok.mod.kin M.kp (thn (N pos b B σ Z _ i R) λc s⟨Y,H,I,r,h⟩=>⟨I.kIn,?_⟩) he j;obtain⟨E,n,O⟩:=h (s.heap.objs.size+1) s.heap.objs.size (I.hok.fresh (atJ _)) (I.hok.fresh (arP _)) (ar0 (att _));have d:=Inv.made (C:=C) I;have o:Vals (V.ref (s.heap.objs.size+1)::(Y++dvs)) (Value.ref (s.heap.objs.size+1)::(c++ds)):=.cons rfl (r.append y);have hl:=by have e:=o.length;rw[F.len _ _ _ _ n]at e;exact e.symm
 refine auM (aga I.kIn M.makes M.init (atj.mp M.fn) (at9 (F.run _ X.stack _ _ _ (Value.ref (s.heap.objs.size+1)::(c++ds)) _ _ E (U.make C c []) trivial (d.aoi.make C c []) (J _ (Value.ref (s.heap.objs.size+1)::c) d.kIn hl) o n) λr s' a=>?_));cases r with|error e=>obtain⟨G,S,g,T,m,rfl,t,q⟩:=d.thrown a;exact O b s' G S g T m t q|ok fl=>cases fl with|ret u=>obtain⟨v,m,P,K,D,z⟩:=d.after a;subst D;exact⟨K,⟨V.ref (s.heap.objs.size+1),m,P,rfl,z⟩⟩|next=>exact False.elim a|brk=>exact False.elim a|cont=>exact False.elim a
end
end L2
namespace WS
open PySem PySem.Spec PyProof.Rows L2
open WL(Res Sl Ws EF TF AF LF GF GsF SF Out Fs KO KF OX RF Sr)
section
variable{B B1:Bx}{σ:Ws}{σV:L2.St}{F H F' H':Hp}
def RB.afF(R:RB B1 F' H')(d:B1.H0=H)(c:B1.F0=F)(b:RB B F H):RB B F' H':=by
 subst d c;refine⟨R.sub,b.base.trans R.base,b.fz0.trans R.fz0,λa o e=>?_⟩;rcases R.fr a o e with z|z;.exact b.fr a o z
 .exact .inr ⟨b.base.free z.1,z.2⟩
theorem RS.afF(R:RS B1 σ σV F' H')(d:B1.K=B.K)(f:B1.H0=H)(m:B1.F0=F)(j:RB B F H):RS B σ σV F' H':=by
 refine⟨R.rb.afF f m j,R.len,λi w e=>?_,λi ws e=>?_,R.ap,λi q p e=>?_,R.dd.ad,R.dd.ob⟩;.obtain⟨v,c,b⟩:=R.va i w e;exact⟨v,c,d▸b⟩
 .refine ke (R.ow i _ e) λa o c b k g h=>?_;exact zm a o c b (j.base.free (f▸k)) g (d▸h)
 .refine agZ (R.dd.od i _ _ e) λa l c b k g h n=>?_;exact ag2 a l c b (j.base.free (f▸k)) g (d▸h) (d▸n)
def RS.front (R:RS B σ (σV++r) F H)(G:σV.length=k):RS B (σ.take k) σV F H:=by
 subst G;have b:∀{i:Nat}{q:Sl},(σ.take σV.length)[i]?=some q->σ[i]?=some q/\(σV++r)[i]?=σV[i]?:=λ{i q}e=>by
  have y:i<σV.length:=by have:=(arL.mp e).1;rw[asG]at this;omega
  rw[avr y]at e;exact⟨e,arX y⟩
 have n:=R.len;refine⟨R.rb,by rw[asG,n,asm];omega,λi w e=>?_,λi ws e=>?_,λi j ws u a m c d p s=>?_,λi z x e=>?_,λi j z x D A a m c d p s=>?_,λi e=>?_⟩;.obtain⟨c,d⟩:=b e;obtain⟨v,g,f⟩:=R.va i w c;exact⟨v,d▸g,f⟩
 .obtain⟨c,d⟩:=b e;obtain⟨a,E,g,f⟩:=R.ow i ws c;exact⟨a,E,d▸g,f⟩
 .obtain⟨c,h⟩:=b c;obtain⟨o,t⟩:=b d;exact R.ap i j ws u a m c o (h.trans p) (t.trans s)
 .obtain⟨c,d⟩:=b e;obtain⟨a,l,g,f⟩:=R.dd.od i z x c;exact⟨a,l,d▸g,f⟩
 .obtain⟨c,h⟩:=b c;obtain⟨o,t⟩:=b d;exact R.dd.ad i j _ _ _ _ a m c o (h.trans p) (t.trans s)
 .obtain⟨c,d⟩:=b e;obtain⟨a,C,I,g,f⟩:=R.dd.ob i c;exact⟨a,C,I,d▸g,f⟩
def RS.snoc(R:RS B σ σV F H):RS B (σ++[.no]) (σV++[none]) F H:=by
 have b:∀{i:Nat}{m:Sl},(σ++[Sl.no])[i]?=some m->m≠.no->σ[i]?=some m/\(σV++[none])[i]?=σV[i]?:=λ{i m}e k=>by
  by_cases x:i<σ.length;.rw[arX x]at e;exact⟨e,arX (by rw[<-R.len];exact x)⟩
  .rw[ar8 (by omega)]at e;cases t:i-σ.length with|zero=>rw[t]at e;cases e;exact(k rfl).elim|succ n=>rw[t]at e;cases e
 refine⟨R.rb,by simp[R.len],λi w e=>?_,λi ws e=>?_,λi j ws s a k c d p q=>?_,λi y u e=>?_,λi j y u D A a k c d p q=>?_,λi e=>?_⟩;.obtain⟨c,d⟩:=b e λz=>nomatch z;obtain⟨v,g,f⟩:=R.va i w c;exact⟨v,d.trans g,f⟩
 .obtain⟨c,d⟩:=b e λz=>nomatch z;refine dc (R.ow i ws c) λa E g f=>?_;exact⟨a,E,d.trans g,f⟩
 .obtain⟨c,h⟩:=b c λz=>nomatch z;obtain⟨o,r⟩:=b d λz=>nomatch z;exact R.ap i j ws s a k c o (h.symm.trans p) (r.symm.trans q)
 .obtain⟨c,d⟩:=b e λz=>nomatch z;refine dc (R.dd.od i y u c) λa l g f=>?_;exact dP a l (d.trans g) f
 .obtain⟨c,h⟩:=b c λz=>nomatch z;obtain⟨o,r⟩:=b d λz=>nomatch z;exact R.dd.ad i j _ _ _ _ a k c o (h.symm.trans p) (r.symm.trans q)
 .obtain⟨c,d⟩:=b e λz=>nomatch z;refine vh (R.dd.ob i c) λa C G g f=>?_;exact⟨a,C,G,d.trans g,f⟩
structure Ex(f:Str)(x C dx d:Addr)(σV:L2.St)(F H:Hp):Prop where
 sl:σV[0]?=some (some (.ref x))F:F x=none
 H:H x=some (.ins C dx [(f,.ref d)])
def Oq4(B:Bx)(f:Str)(x C dx:Addr)(D:Ends)(F:Hp):Out->Prop|.nx σ'=>∀a d H' F',a.length=3->RS B σ' (a++[some (.ref d)]) F' H'->Ex f x C dx d a F' H'->av F F'->D.nx a H'|.ex c σ'=>B.xp c σ' F|_=>False
def aqS(B:Bx)(f:Str)(x C dx:Addr)(t:SF):TS:=λD σV H=>∃σ d F,σV.length=3/\RS B σ (σV++[some (.ref d)]) F H/\Ex f x C dx d σV F H/\Oq4 B f x C dx D F (t σ)
theorem Oq4.mono{f x C dx D F F' o}(s:av F F')(h:Oq4 B f x C dx D F o):Oq4 B f x C dx D F' o:=by cases o with|nx σ=>exact λσV d H G a R ex z=>h _ d H G a R ex (s.trans z)|ex c σ=>exact B.mono c σ F _ s h|_=>exact h
end
section
variable{X:Cx}{B:Bx}{f:Str}{x C dx:Addr}{self texts name value tg:Expr}{tv:EF}{ap sp apos pos:Pos}
def aia(hK:X.K=B.K)(hx:XW X B)(G:∀c a E F,B.xp c a F->B.xp c E F)(hu:X.A.units+1<cLine)(h:PE X self (fE 0))(i:PE X name (fE 2))(hv:∀N,N.K=X.K->XW X N->PE X value (lo N tv))(hb:attributeBase self f X.env (eval self X.env)=eval self X.env)(cl:Cls X.K C)(na:aW X.K C f)(M:swapsWith value (some (.Subscript (.Attribute self f ap) name sp)) apos.line X.env=pure false):PS X (.Assign [.Subscript (.Attribute self f ap) name sp] value apos) (aqS B f x C dx (WL.jb 3 (WL.aeM tv) (WL.aj 2))):=by intro g s b H D I⟨a,d,F,P,R,ex,q⟩;have q:Oq4 B f x C dx D F (match(a[3]?:Option Sl)with|some (.od ks us)=>WL.ofR a (WL.aeM tv a) _|_=>.bad):=q;cases n:a[3]? with|none=>rw[n]at q;exact(q).elim|some sl=>rw[n]at q;cases sl with
 |od ks us=>
   have q:=q;let K:Bx:=⟨B.K,H,F,B.xp,B.mono⟩;have J:XW X K:=λg b H1 s a F1 c Q xp e C dx T fl t xr=>hx g b H1 s a F1 c (Q.afF rfl rfl rfl R.rb) xp e C dx T fl t xr;have Q:RS K (WL.vg (a.take 3)) b F H:=(R.front P).vg rfl rfl rfl;have d3:(b++[some (V.ref d)])[3]?=some (some (.ref d)):=by rw[ar8 (by omega),P];rfl
   refine ach hu (nJ h hb) i (hv K hK.symm J) M g s b H D I ?_;refine dP _ F Q ?_;have q:Oq4 B f x C dx D F (WL.ofR a (tv (WL.vg (a.take 3))) λv=>WL.ofR a (WL.aj 2 a) λk=>WL.putD 3 ks us k v a):=q;cases O:tv (WL.vg (a.take 3))with|bad=>rw[O]at q;exact q|ex c=>rw[O]at q;exact G c _ _ F q|ok w=>rw[O]at q;intro v H2 F2 R2 o r2;have q:=q;have j:=o.h _ _ ex.H;refine⟨.ref x,ex.sl,x,C,dx,[(f,.ref d)],.ref d,rfl,j,cl,na,by simp[List.lookup],?_⟩;have A:=R.grow o (R2.rb.afF rfl rfl R.rb);cases r:a[2]? with|none=>unfold WL.aj at q;rw[r]at q;exact(q).elim|some sl=>
     unfold WL.aj at q
     rw[r]at q;cases sl with|va k=>
      have q:Oq4 B f x C dx D F (if WL.aaU k=true/\ks.length<WL.lim then .nx (a.set 3 (.od (WL.putK ks k) (WL.alH ks us k w)))else .bad):=q;refine de (A.va 2 k r) λy U S=>?_;rw[arX (by omega)]at U;refine⟨y,U,?_⟩;by_cases p:WL.aaU k=true/\ks.length<WL.lim
      .rw[arM p]at q;obtain⟨a0,rfl⟩:=yJ p.1 S;refine agZ (A.dd.od 3 ks us n) λa' u Z k2 k3 m Y k6=>?_;rw[d3]at Z;cases Z;have l:u.length<sizeLine:=by have:=Y.length;rw[ar7]at this;rw[<-this];exact arS p.2 dM
       obtain⟨p1,p2⟩:=acb S r2 Y k6;refine⟨d,_,rfl,akI.k m l,q b d _ F2 P (A.ag7 n d3 k2 k3 m p1 p2) ⟨ex.sl,?_,?_⟩ o.f⟩;.exact o.nf x _ ex.H ex.F
       .rw[ag λz=>by rw[<-z,j]at m;cases m];exact j
      .rw[arO p]at q;exact(q).elim|_=>exact(q).elim
 |_=>exact(q).elim
theorem Oq4.fz   (e:F a=some (.dK kvs))(w:Was B a kvs)(b:x≠a)(h:Oq4 B f x C dx D F o):Oq4 (B.fz a od kvs) f x C dx (ajS D a od kvs) (upd F a (zD od kvs)) o:=by
 have bk:∀{g},av (upd F a (zD od kvs)) g->av F _:=λs=>by have:=vF (o':=.dK kvs) s;rwa[pL e]at this
 cases o with|nx σ=>exact λj d H G i R ex z=>⟨(R.rb.th w).2.1,h _ d _ _ i (R.th w) ⟨ex.sl,by rw[ag b];exact ex.F,by rw[ag b];exact ex.H⟩ (bk z)⟩|ex c σ=>show B.xp c σ _;rw[vt,pL e];exact h|_=>exact h
set_option tactic.hygienic true
def x5  :(∀a,WL.jb i ev ek σ≠.ct a)/\∀a,WL.jb i ev ek σ≠.bk a:=by
 unfold WL.jb;split;.cases ev σ with
 |ok v=>cases ek σ with|ok k=>rename_i b d _;show(∀a,(if WL.aaU k=true/\b.length<WL.lim then Out.nx _ else .bad)≠.ct a)/\∀a,(if WL.aaU k=true/\b.length<WL.lim then Out.nx _ else .bad)≠.bk a;split<;>exact⟨λ_ z=>(by cases z),λ_ z=>by grind⟩|ex c=>exact⟨λ_ z=>(by cases z),λ_ z=>by cases z⟩|bad=>exact⟨λ_ z=>(by cases z),λ_ z=>by cases z⟩
 |ex c=>exact⟨λ_ z=>(by cases z),λ_ z=>by cases z⟩|bad=>exact⟨λ_ z=>(by cases z),λ_ z=>by cases z⟩
 .exact⟨λ_ z=>(by cases z),λ_ z=>by grind⟩
set_option tactic.hygienic false
def aic(hK:X.K=B.K)(hp:PassesOwn (model X.prog X.w) X.A X.env X.xe)(hc:X.calm=true)(hx:XW X B)(a0:∀c y b F,B.xp c y F->B.xp c b F)(hu:X.A.units+1<cLine)(a6:PE X texts (fE 1))(P:PE X self (fE 0))(T:PE X name (fE 2))(hg:PG X tg (L2.ax 2))(hv:∀u,u.K=X.K->XW X u->PE X value (lo u tv))(hb:attributeBase self f X.env (eval self X.env)=eval self X.env)(cl:Cls X.K C)(na:aW X.K C f)(a9:swapsWith value (some (.Subscript (.Attribute self f ap) name sp)) apos.line X.env=pure false)(hs:∀x,foldedSetIterable texts X.env x=pure x:=by intro _;rfl):PS X (.For tg texts [.Assign [.Subscript (.Attribute self f ap) name sp] value apos] [] pos) (aqS B f x C dx (WL.acY tv)):=by
 intro k s t H D I⟨y,d,F,hl,R,ex,q⟩;have N:∀(u:Bx)(Y:Ends)(k:List (Addr×Obj))(s:Shared)(H' O:Hp)(l:List VW)(a:Addr)(od:Obj)(e:List (Key×V)),u.K=X.K->XW X u->(∀c y b F,u.xp c y F->u.xp c b F)->Inv X k t H' s->RS u y (t++[some (.ref d)]) O H'->Ex f x C dx d t O H'->t[1]?=some (some (.ref a))->O a=some (zD od e)->RWs u.K O l (e.map λp=>kV p.1)->Oq4 u f x C dx Y O (WL.forL (WL.ax 2) (WL.jb 3 (WL.aeM tv) (WL.aj 2)) l y)->wpAny (model X.prog X.w) X.A (exec (.For tg texts [.Assign [.Subscript (.Attribute self f ap) name sp] value apos] [] pos) X.env) (SP X k Y) X.xe s:=by
  intro u Y k s H' O l a od e a4 b0 a2 I' R' a7 S e3 rk q';refine yd (wi:=λt H R=>∃J,R J H/\J=Itd a od e/\t[1]?=some (some (.ref a))/\H a=some (zD od e)) hp hc (PI.imp (vN a6) λt H R a8=>by obtain⟨J,r,ej,S,e3⟩:=a8;exact⟨.ref a,S,a,od,e,rfl,e3,by rw[<-ej];exact r⟩) hg (ft (aia (x:=x) (dx:=dx) a4.symm b0 a2 hu P T hv hb cl na a9)) hs k s t H' Y I' ?_;refine⟨_,?_,rfl,S,R'.rb.sub _ _ e3⟩;have wk:=mJ e3 rk;refine⟨λj m n U=>m=l.length-j/\j<=l.length/\∃b Z A,n.length=3/\RS u b (n++[some (.ref Z)]) A U/\Ex f x C dx Z n A U/\av O A/\Oq4 u f x C dx Y A (WL.forL (WL.ax 2) (WL.jb 3 (WL.aeM tv) (WL.aj 2)) (l.drop j) b),⟨l.length,rfl,asr _,y,d,O,hl,R',a7,av.refl _,by rw[atU];exact q'⟩,?_⟩;rintro j m n U⟨rfl,hj,b,Z,A,a1,R1,K,s1,E⟩;by_cases G:j<l.length
  .have hd:=asu G;rw[hd]at E;obtain⟨go,yl⟩:=wk.go j l[j] (arQ G) A U s1 R1.rb.sub;refine .inr ⟨go,_,λg H2 h2=>⟨l.length-(j+1),by omega,rfl,G,h2⟩,λv H2 hy=>?_⟩;obtain⟨e4,p,e5,e6⟩:=hy;subst e4 e6;have hr:RW u.K A l[j] (kV p.1):=by obtain⟨v',h1,h2⟩:=rk.get (arQ G);rw[ar3,e5]at h1;cases h1;exact h2.keep s1
   have R2:RS u (b.set 2 (.va l[j])) (n.set 2 (some (kV p.1))++[some (.ref Z)]) A H2:=by have:=R1.set (i:=2) hr;rwa[List.set_append_left _ _ (by omega)]at this
   refine⟨b.set 2 (.va l[j]),Z,A,by rw[List.length_set];exact a1,R2,⟨by rw[arN (by decide)];exact K.sl,K.F,K.H⟩,?_⟩;have E:Oq4 u f x C dx Y A (match WL.jb 3 (WL.aeM tv) (WL.aj 2) (b.set 2 (.va l[j]))with|.nx g=>WL.forL (WL.ax 2) (WL.jb 3 (WL.aeM tv) (WL.aj 2)) (l.drop (j+1)) g|.ct g=>WL.forL (WL.ax 2) (WL.jb 3 (WL.aeM tv) (WL.aj 2)) (l.drop (j+1)) g|.bk g=>.nx g|o=>o):=E;cases M:WL.jb 3 (WL.aeM tv) (WL.aj 2) (b.set 2 (.va l[j]))with|nx g=>rw[M]at E;exact λb1 d4 H4 F4 a5 R4 a3 s4=>⟨g,d4,F4,a5,R4,a3,s1.trans s4,Oq4.mono s4 E⟩|ex c g|bad|rt w=>rw[M]at E;exact E|ct g=>exact(x5.1 _ M).elim|bk g=>exact(x5.2 _ M).elim
  .have ei:j=l.length:=by omega
   subst ei;rw[atx]at E;exact .inl ⟨wk.stop A U s1 R1.rb.sub,E n Z U A a1 R1 K (av.refl _)⟩
 have q:Oq4 B f x C dx D F (WL.ofR y (WL.akx 1 y) λxs=>WL.forL (WL.ax 2) (WL.jb 3 (WL.aeM tv) (WL.aj 2)) xs y):=q;unfold WL.akx at q;cases M:y[1]? with|none=>rw[M]at q;exact(q).elim|some sl=>rw[M]at q;cases sl with
 |va w=>cases w with|dic l us=>
    have q:=q;obtain⟨v,S,r2⟩:=R.va 1 _ M;rw[arX (by omega)]at S;simp only[RW]at r2;obtain⟨a,e,rfl,rd,rk,ru⟩:=r2;rcases rd with rd|⟨od,rd⟩
    .obtain⟨od,I',hn⟩:=I.ajJ (R.rb.sub _ _ rd);have w:=R.rb.was rd;have Q:x≠a:=λz=>by have:=ex.F;rw[z,rd]at this;cases this
     exact thn (N (B.fz a od e) (ajS D a od e) k s _ _ l a od e hK.symm (hx.fz w hn) (λc y b F h=>a0 c y b _ h) I' (R.fz rd) ⟨ex.sl,by rw[ag Q];exact ex.F,by rw[ag Q];exact ex.H⟩ S ao (rk.fz rd) (q.fz rd w Q)) λf s h=>aiH hn f s h
    .exact N B D k s H F l a od e hK.symm hx a0 I R ex S rd rk q|_=>exact(q).elim
 |_=>exact(q).elim
end
noncomputable def jg(H:Hp)(x:Addr):Hp:=λb=>if b=x then none else H b
def cR{H x b}(h:b≠x):jg H x b=H b:=arO h
def oo :jg H x x=none:=arM rfl
def rC{H x b o}(h:jg H x b=some o):b≠x/\H b=some o:=by
 by_cases a:b=x;.subst a;rw[oo]at h;cases h
 .rw[cR a]at h;exact⟨a,h⟩
def agu  (h:F x=none):jg (upd F x o) x=F:=by
 funext b;by_cases a:b=x;.subst a;rw[oo,h]
 .rw[cR a,ag a]
def ado (s:av F F'):av (jg F x) (jg F' x):=λb o e=>by obtain⟨c,a⟩:=rC e;rw[cR c];exact s b o a
section
variable{K:W.Frag}{F:Hp}{x:Addr}{C dx:Addr}
def RWs.amx{F'}(h:∀b o,F b=some o->F' b=some o\/∃C dx,o=.ins C dx []){ws vs}(r:RWs K F ws vs):RWs K F' ws vs:=by
 have k:∀{b}{o:HO},F b=some o->(∀C dx,o≠.ins C dx [])->F' b=some o:=λ{b o}e n=>by grind
 refine RWs.via (λb c q=>?_) (λb c q=>?_) (λb f q=>?_) (λb d q=>k q λ_ _ z=>nomatch z) (λb d q=>k q λ_ _ z=>nomatch z) (λb C dx l i q=>k q λg a z=>by grind) ws vs r
 .rcases q with(q|⟨o,q⟩)|q;.exact .inl (.inl (k q λ_ _ z=>nomatch z))
  .exact .inl (.inr ⟨o,k q λ_ _ z=>nomatch z⟩)
  .exact .inr q
 .rcases q with(q|⟨o,q⟩)|q;.exact .inl (.inl (k q λ_ _ z=>nomatch z))
  .exact .inl (.inr ⟨o,k q λ_ _ z=>nomatch z⟩)
  .exact .inr q
 .rcases q with q|⟨o,q⟩;.exact .inl (k q λ_ _ z=>nomatch z)
  .exact .inr ⟨o,k q λ_ _ z=>nomatch z⟩
def RWs.out(e:F x=some (.ins C dx [])){ws vs}(r:RWs K F ws vs):RWs K (jg F x) ws vs:=r.amx λb o q=>by
 by_cases a:b=x;.subst a;rw[e]at q;cases q;exact .inr ⟨_,_,rfl⟩
 .exact .inl (by rw[cR a];exact q)
theorem XR.out(e:F x=some (.ins C dx [])){c f b}(h:XR K F c f b):XR K (jg F x) c f b:=by cases c with|exc nm fs=>obtain⟨k,j,g,m,l⟩:=h;exact⟨k,_,g,m.out e,l.imp id λa=>by obtain⟨d,i,n⟩:=a;exact⟨d,i,by rw[cR λz=>by grind];exact n⟩⟩|_=>exact h.elim
end
section
variable{B B1:Bx}{σ:Ws}{σV:L2.St}{F H F1 H1:Hp}{x C dx:Addr}
def RB.out(R:RB B1 F H)(f:B1.H0=H1)(c:B1.F0=upd F1 x (.ins C dx []))(h:F1 x=none)(g:B.H0=jg H1 x)(d:B.F0=F1):RB B (jg F x) H:=by
 refine⟨λb o e=>R.sub b o (rC e).2,λb o e=>?_,λb o e=>?_,λb o e=>?_⟩;.rw[g]at e;exact R.base b o (by rw[f];exact(rC e).2)
 .rw[d]at e;have a:b≠x:=λz=>by grind
  rw[cR a];exact R.fz0 b o (by rw[c,ag a];exact e)
 .obtain⟨a,e⟩:=rC e;rw[g,d];rcases R.fr b o e with z|z;.rw[c,ag a]at z;exact .inl z
  .exact .inr ⟨by rw[cR a,<-f];exact z.1,z.2⟩
theorem RS.clr(R:RS B1 σ σV F H)(r:B1.K=B.K)(p:F x=some (.ins C dx []))(n:RB B (jg F x) H):RS B (WL.clr σ) σV (jg F x) H:=by
 have b:∀{i:Nat}{d},(WL.clr σ)[i]?=some d->d=.no\/∃w,d=.va w/\σ[i]?=some (.va w):=λ{i d}e=>by unfold WL.clr at e;rw[ar3]at e;cases g:σ[i]? with|none=>rw[g]at e;cases e|some s0=>rw[g]at e;have e:=asd e;subst e;cases s0 with|va w=>exact .inr ⟨w,rfl,rfl⟩|_=>exact .inl rfl
 refine⟨n,by rw[<-R.len];simp[WL.clr],λi w e=>?_,λi ws e=>?_,λi j ws q a _ f=>?_,λi o m e=>?_,λi j o m _ _ a _ f=>?_,λi e=>?_⟩
 .rcases b e with z|⟨c,z,l⟩;.cases z
  .cases z;obtain⟨v,k,h⟩:=R.va i w l;exact⟨v,k,by rw[<-r];exact RW.one ((RWs.one h).out p)⟩
 .rcases b e with z|⟨c,z,_⟩<;>cases z
 .rcases b f with z|⟨c,z,_⟩<;>cases z
 .rcases b e with z|⟨c,z,_⟩<;>cases z
 .rcases b f with z|⟨c,z,_⟩<;>cases z
 .rcases b e with z|⟨c,z,_⟩<;>cases z
end
def aek{σ:Ws}{j:Nat}:(∀ws,(WL.clr σ)[j]?≠some (.ow ws))/\∀b a,(WL.clr σ)[j]?≠some (.od b a):=by unfold WL.clr;rw[ar3];cases σ[j]? with|none=>exact⟨λ_ z=>(by cases z),λ_ _ z=>by cases z⟩|some s=>cases s<;>exact⟨λ_ z=>(by cases z),λ_ _ z=>by cases z⟩
def akh(K:W.Frag)(f:Str)(x dx C:Addr)(F H:Hp)(Q:VK)(E:XK):Res VW->Prop|.ok wd=>∀e a d,H d=none->av F a->av a e->(∀b o,b≠x->H b=some o->e b=some o)->e x=some (.ins C dx [(f,.ref d)])->a x=none->(∀b o,a b=some o->F b=some o\/(b=x\/H b=none)/\NF o)->RW K a wd (.ref d)->Q .non e|.ex c=>∀h g e a,av F a->av a e->(∀b o,b≠x->H b=some o->e b=some o)->(∀b o,a b=some o->F b=some o\/(b=x\/H b=none)/\NF o)->XR K a c h g->E (.ref h) g e|.bad=>False
def spB(K:W.Frag)(f:Str)(d:List VW->Res VW):Sp:=λc H Q E=>∃x b C F w v,c=[.ref x,v]/\H x=some (.ins C b [])/\Cls K C/\aW K C f/\F x=none/\(∀a C b,F a≠some (.ins C b []))/\av F H/\RW K F w v/\akh K f x b C F H Q E (d [w])
section
variable{P:Program}{w:World}{K:W.Frag}{mg:Str->Option Value}{base:Heap}
def agq{nm a1 m st f fd n0 n1 n2 k}{fn:List VW->Res VW}{s1 s2 self l I name y tg p0 p1 p2 p3 p4 p5 p6}(t1 t2)(tv)(Fn:Fun K nm a1 st f fd)(S:FnScope [n0,n1,n2] [n0,n1] (af st))(d0:WL.aqC t1 t2 tv=fn)(c8:aL st=[s1,s2,.Assign [.Attribute self m p0] (.Dict [] [] p1) p2,.For tg I [.Assign [.Subscript (.Attribute l m p3) name p4] y p5] [] p6])(h:∀a2 A G s H E X,X=fA (CXX P w) P w K mg base [n0,n1,n2] a1 (af st) f a2 A G s H E->Room k X.A->PassesOwn (model P w) X.A X.env X.xe->(∀B,B.K=K->XW X B->PS X s1 (loS B t1)/\PS X s2 (loS B t2)/\PE X y (lo B tv))/\PE X self (fE 0)/\PE X l (fE 0)/\PE X I (fE 1)/\PE X name (fE 2)/\PG X tg (L2.ax 2)/\X.calm=true/\attributeBase l m X.env (eval l X.env)=eval l X.env/\swapsWith (.Dict [] [] p1) (some (.Attribute self m p0)) p2.line X.env=pure false/\swapsWith y (some (.Subscript (.Attribute l m p3) name p4)) p5.line X.env=pure false/\∀x,foldedSetIterable I X.env x=pure x):FnOk P w K mg base (CXX P w) (k+1) f fd [n0,n1] (spB K m fn):=by
 subst d0;obtain⟨oc,od,f3,f5,pm,an,a2,ct,f7,rfl,lk,d4⟩:=Fn.ex;refine wH lk d4 S λvs H Q E b3=>by obtain⟨x,dx,C,F,w,v,e,_⟩:=b3;rw[e];rfl λA G s H vs Q E hr _ b3=>?_;obtain⟨x,dx,C,F,w',v,e,hH,cl,na,hF,d6,sm,r,g⟩:=b3;subst e;obtain⟨X,eX⟩:∃X,X=fA (CXX P w) P w K mg base [n0,n1,n2] a1 (af st) f a2 A G s H E:=⟨_,rfl⟩;rw[<-eX];have b9:Room k X.A:=by rw[eX];exact hr
 have U:X.K=K:=by rw[eX];rfl
 have a6:PassesOwn (model P w) X.A X.env X.xe:=by rw[eX];exact atO
 obtain⟨hB,a9,a3,d9,a5,hg,hc,d5,e0,e7,d7⟩:=h a2 A G s H E X eX b9 a6;let Bz:Bx:=⟨K,jg H x,F,λ_ _ _=>False,λ_ _ _ _ _ h=>h⟩;let Y:Bx:=Bz.pJ (λc _ M=>∀C dx Z O,av M O->RB Bz O Z->XR K O c C dx->E (.ref C) dx Z) λc N M F2 s h C dx Z O s'=>h C dx Z O (s.trans s');have c9:XW X Y:=λc1 c7 H1 s1 N M c R1 xp e C dx T m t xr=>by subst eX;exact kK t (xp C dx H1 M (av.refl _) (R1.rb.box rfl rfl) xr)
 let F0:Hp:=upd F x (.ins C dx []);let B1:Bx:=⟨K,H,F0,λc N M=>Y.xp c N (jg M x),λc N M F2 s h=>Y.mono c N _ _ (ado s) h⟩;have c5:∀{M H1:Hp},RB B1 M H1->M x=some (.ins C dx [])/\RB Y (jg M x) H1:=λ{M H1}R=>⟨R.fz0 x _ ao,R.out rfl rfl hF rfl rfl⟩;have d2:XW X B1:=λc1 c7 H1 s1 N M c R1 xp e Ce b2 T m t xr=>by obtain⟨z1,z2⟩:=c5 R1.rb;subst eX;exact kK t (xp Ce b2 H1 _ (av.refl _) (z2.box rfl rfl) (xr.out z1))
 obtain⟨h1,h2,_⟩:=hB B1 rfl d2;have hu:X.A.units+1<cLine:=by have:=b9.un;omega
 have h4:=aic (X:=X) (B:=Y) (f:=m) (x:=x) (C:=C) (dx:=dx) (tv:=tv) (ap:=p3) (sp:=p4) (apos:=p5) (pos:=p6) U (by rw[eX]at a6⊢;exact a6) hc c9 (λc N f6 F h=>h) hu d9 a3 a5 hg (λB' hk hx=>(hB B' (hk.trans U) hx).2.2) d5 (U▸cl) (U▸na) e7 d7;have c3:aL st=[s1,s2,.Assign [.Attribute self m p0] (.Dict [] [] p1) p2,.For tg I [.Assign [.Subscript (.Attribute l m p3) name p4] y p5] [] p6]:=c8;rw[c3];have d1:av F0 H:=λb o e=>by
  by_cases D:b=x;.subst D;have:upd F b (.ins C dx []) b=some o:=e;rw[ao]at this;cases this;exact hH
  .have:upd F x (.ins C dx []) b=some o:=e;rw[ag D]at this;exact sm b o this
 have R0:RS B1 [.ob,.va w',.no] (L2.start [n0,n1,n2] [.ref x,v]) F0 H:=by
  refine⟨⟨d1,av.refl _,av.refl _,λa o e=>.inl e⟩,rfl,λi u e=>?_,λi u e=>?_,λi j u u' a _ e1 _ _ _=>?_,λi u u' e=>?_,λi j u u' _ _ a _ e1 _ _ _=>?_,λi e=>?_⟩;.rcases i with _|_|_|i<;>cases e;exact⟨v,rfl,r.keep (az hF _)⟩
  .rcases i with _|_|_|i<;>cases e
  .rcases i with _|_|_|i<;>cases e1
  .rcases i with _|_|_|i<;>cases e
  .rcases i with _|_|_|i<;>cases e1
  .rcases i with _|_|_|i<;>cases e;exact⟨x,C,dx,rfl,ao⟩
 have g:akh K m x dx C F H Q E (match WL.aJ t1 t2 [.ob,.va w',.no]with|.nx N=>WL.apI tv N|.ex c _=>.ex c|_=>.bad):=g;have b4:∀{O Z:Hp},RB Bz O Z->∀b o,O b=some o->F b=some o\/(b=x\/H b=none)/\NF o:=λ{O Z}rb b o e=>by
  rcases rb.fr b o e with z|z;.exact .inl z
  .refine .inr ⟨?_,z.2⟩;by_cases D:b=x;.exact .inl D
   .have z1:jg H x b=none:=z.1;rw[cR D]at z1;exact .inr z1
 have b5:∀{O Z:Hp},RB Bz O Z->∀b o,b≠x->H b=some o->Z b=some o:=λ{O Z}rb b o D e=>rb.base b o (by show jg H x b=_;rw[cR D];exact e);have a0:∀{c:VW}{N:Ws},akh K m x dx C F H Q E (.ex c)->Y.xp c N F:=λ{c N}q Ce b2 Z O s' rb xr=>q Ce b2 Z O s' rb.sub (b5 rb) (b4 rb) xr;have b7:jg F0 x=F:=agu hF;refine⟨_,bT h1 (bT h2 (bT (tK a9 yj e0) (ft h4))),?_⟩;refine⟨_,F0,R0,?_⟩;unfold WL.aJ at g;cases e1:t1 [.ob,.va w',.no]with|bk _|ct _|rt _|bad=>rw[e1]at g;exact g.elim|ex c σ1=>rw[e1]at g;show Y.xp c σ1 (jg F0 x);rw[b7];exact a0 g|nx σ1=>
  rw[e1]at g;intro f0 H1 M R1 s1;refine⟨σ1,M,R1,?_⟩;have g:akh K m x dx C F H Q E (match t2 σ1 with|.nx N=>WL.apI tv N|.ex c _=>.ex c|_=>.bad):=g
  cases e2:t2 σ1 with|bk _|ct _|rt _|bad=>rw[e2]at g;exact g.elim|ex c σ2=>
   rw[e2]at g;refine Y.mono c σ2 F _ (λb o e=>?_) (a0 g);have D:b≠x:=λz=>by rw[z,hF]at e;cases e
   rw[cR D];exact s1 b o (by show upd F x _ b=_;rw[ag D];exact e)|nx σ2=>rw[e2]at g;intro J H2 F2 R2 s2;have g:akh K m x dx C F H Q E (match(σ2[0]?:Option Sl)with|some .ob=>if σ2.length=3 then WL.apY (WL.acY tv (WL.clr σ2++[.od [] []]))else .bad|_=>.bad):=g;cases e3:σ2[0]? with|none=>rw[e3]at g;exact g.elim|some sl=>rw[e3]at g;cases sl with
 |ob=>
     have g:akh K m x dx C F H Q E (if σ2.length=3 then WL.apY (WL.acY tv (WL.clr σ2++[.od [] []]))else .bad):=g;by_cases a4:σ2.length=3;rotate_left;.rw[arO a4]at g;exact g.elim
     rw[arM a4]at g;obtain⟨c2,e9⟩:=c5 R2.rb;have l0:J[0]?=some (some (.ref x)):=by
      obtain⟨a,Ca,f2,g1,g2⟩:=R2.dd.ob 0 e3;rcases R2.rb.fr a _ g2 with z|z
      .by_cases ha:a=x;.subst ha;exact g1
       .have z:upd F x (.ins C dx []) a=_:=z;rw[ag ha]at z;exact(d6 _ _ _ z).elim
      .exact z.2.elim
     have b8:H2 x=some (.ins C dx []):=R2.rb.sub _ _ c2;have c4:J.length=3:=by rw[<-R2.len];exact a4
     have R3:RS Y (WL.clr σ2) J (jg F2 x) H2:=R2.clr rfl c2 e9;intro p hp;have a8:p≠x:=λz=>by rw[z,b8]at hp;cases hp
     refine⟨.ref x,l0,x,C,dx,[],rfl,by rw[ag (arY a8)];exact b8,U▸cl,U▸na,by decide,?_⟩;have R4:RS Y (WL.clr σ2) J (jg F2 x) (upd (upd H2 p (.dK [])) x (.ins C dx [(m,.ref p)])):=(R3.akv hp (.dK [])).away _ oo oo (λj ws e=>(aek.1 ws e).elim) λj ks us e=>(aek.2 ks us e).elim;have d3:jg F2 x p=none:=by rw[cR a8];exact R2.rb.sub.free hp
     have d8:upd (upd H2 p (.dK [])) x (.ins C dx [(m,.ref p)]) p=some (.dK []):=by rw[ag a8,ao]
     have e8:Y.H0 p=none:=R3.rb.base.free hp;have c6:(WL.clr σ2).length=3:=by rw[<-a4];simp[WL.clr]
     have R5:RS Y (WL.clr σ2++[.od [] []]) (J++[some (.ref p)]) (jg F2 x) (upd (upd H2 p (.dK [])) x (.ins C dx [(m,.ref p)])):=by
      have:=R4.snoc.aqz (i:=3) (ks:=[]) (us:=[]) d3 e8 d8 (by simp[RWs]) (by simp[RWs]) λj ks us hj ej hv=>by
       by_cases f4:j<3;.rw[arX (by omega)]at ej;exact(aek.2 ks us ej).elim
       .rw[ar8 (by omega),c6]at ej;cases hz:j-3 with|zero=>exact hj (by omega)|succ n=>rw[hz]at ej;cases ej
      rw[List.set_append_right _ _ (by omega),List.set_append_right _ _ (by omega),c6,c4]at this;exact this
     have b6:av F (jg F2 x):=λb o e=>by
      have D:b≠x:=λz=>by rw[z,hF]at e;cases e
      rw[cR D];exact s2 b o (s1 b o (by show upd F x _ b=_;rw[ag D];exact e))
     refine⟨_,p,jg F2 x,c4,R5,⟨l0,oo,ao⟩,?_⟩;cases e4:WL.acY tv (WL.clr σ2++[.od [] []])with|bk _|ct _|rt _|bad=>rw[e4]at g;exact g|ex c σ3=>rw[e4]at g;exact Y.mono c σ3 F _ b6 (a0 g)|nx σ3=>rw[e4]at g;intro f1 d H3 F3 e6 R6 b1 s6;have g:akh K m x dx C F H Q E (match(σ3[3]?:Option Sl)with|some (.od ks us)=>.ok (.dic ks us)|_=>.bad):=g;cases e5:σ3[3]? with
   |none=>rw[e5]at g;exact g.elim
    |some sl=>rw[e5]at g;cases sl with|od ks us=>
        obtain⟨a,a7,k1,k2,k3,k4,k5,k6⟩:=R6.dd.od 3 ks us e5;rw[ar8 (by omega),e6]at k1;cases k1;have b0:d≠x:=λz=>by rw[z,b1.H]at k4;cases k4
        have sD:av F3 (upd F3 d (.dK a7)):=az k2 _;have c0:RB Bz F3 H3:=R6.rb.box rfl rfl;refine g H3 (upd F3 d (.dK a7)) d (by have k3:jg H x d=none:=k3;rw[cR b0]at k3;exact k3) ((b6.trans s6).trans sD) (λb o e=>?_) (b5 c0) b1.H (by rw[ag (arY b0)];exact b1.F) (λb o e=>?_) (by simp only[RW];exact⟨d,a7,rfl,.inl ao,k5.keep sD,k6.keep sD⟩)
        .by_cases D:b=d;.subst D;rw[ao]at e;cases e;exact k4
         .rw[ag D]at e;exact R6.rb.sub b o e
        .by_cases D:b=d;.subst D;rw[ao]at e;cases e;have k3:jg H x b=none:=k3;rw[cR b0]at k3;exact .inr ⟨.inr k3,trivial⟩
         .rw[ag D]at e;exact b4 c0 b o e|_=>exact g.elim
  |_=>exact g.elim
end
noncomputable def noI(F:Hp):Hp:=λb=>match F b with|some (.ins _ _ [])=>none|o=>o
def yz{F b o}(h:noI F b=some o):F b=some o:=by
 unfold noI at h;split at h;.cases h
 .exact h
set_option tactic.hygienic true
def amg{F b o}(h:F b=some o):noI F b=some o\/∃C a,o=.ins C a []:=by
 unfold noI;rw[h];split;.rename_i C a e;cases e;exact .inr ⟨C,a,rfl⟩
 .exact .inl rfl
set_option tactic.hygienic false
noncomputable def jo(F F':Hp):Hp:=λb=>match F b with|some o=>some o|none=>F' b
def amN{F F' b o}(h:F b=some o):jo F F' b=some o:=by unfold jo;rw[h]
def amM{F F' b}(h:F b=none):jo F F' b=F' b:=by unfold jo;rw[h]
def anB(P:Program)(w:World)(K:W.Frag)(c:Str->Option Value)(a:Heap)(k:Nat)(fI:Addr)(ps:List Str)(sp:Sp):Prop:=∃b:FuncData,FnOk P w K c a (CXX P w) k fI b ps sp/\Binds K b ps []
def yN{P:Program}{w:World}{K:W.Frag}{i:Str->Option Value}{b:Heap}{k:Nat}{f:Addr}{a:Str}{st:Stmt}{ps:List Str}{sp:Sp}(D:∃c,Fun K "__init__" a st f c)(l:∀(kV g m:Value)(j:Option Addr)(d ct:Value)(e:List Value),e.length=ps.length->bindArgs (W.fnOf "__init__" a (bE st) (aL st) (af st) .none kV g m j d ct) ⟨e,[]⟩=pure (ps.zip e))(h:∀c:FuncData,Fun K "__init__" a st f c->FnOk P w K i b (CXX P w) k f c ps sp):anB P w K i b k f ps sp:=by obtain⟨c,F⟩:=D;exact⟨c,h c F,F.binds l⟩
def un1{n:Nat}(h:n+64<cLine):n+1<cLine:=by omega
end WS
namespace L2
open PySem PySem.Spec PyProof.Rows
section
variable{X:Cx}{k:Nat}{f C:Addr}{fd:FuncData}{ps:List Str}{sp:Sp}{dvs:List V}{ds:List Value}{m:Str}{apos pos:Pos}{o e:Expr}{es:List Expr}{ta:TE}{t:TA}
def sJ(X:Cx)(C:Addr)(m:Str)(sp:Sp)(dvs:List V)(ta:TE)(t:TA):TE:=λd H Q=>ta d H λx g=>∃a n fs,x=.ref a/\g a=some (.ins C n fs)/\fs.lookup m=none/\t d g λl j=>∃E:XK,sp (x::(l++dvs)) j Q E/\∀c s e h b T i,Thr X c d i s e h b .none (some T)->E (.ref h) b i->X.xe (.ref e) s
def yg{pl}(P:PE X o ta)(c:Cls X.K C)(j:Meth X.K C m f)(F:FnOk X.prog X.w X.K X.mg X.base (CXX X.prog X.w) k f fd ps sp)(M:Room k X.A)(B:Binds X.K fd ps ds)(y:Vals dvs ds)(G:PA X (e::es) t)(i:SE X e es:=by rfl)(g:BT X pos es:=by rfl)(N:eval (.Call (.Attribute o m apos) (e::es) [] pos) X.env=(do
  let n <-eval o X.env
  standAt apos.atName let(f,first)<-holding [n] (getMethod n m pl)callWith pos f first (backTo pos (starEach (e::es) X.env)) (backToKw pos (keywordEach [] X.env))):=by rfl):PE X (.Call (.Attribute o m apos) (e::es) [] pos) (sJ X C m sp dvs ta t):=by intro b s w H Q I h;refine avD (thn (P b s w H _ I h) λu O d=>?_) N;obtain⟨x,K,v,z,a,U,fs,ex,A,l,q⟩:=d;subst ex;obtain rfl:=z;exact qo v A c j l (avq  I.ok.mod.kin j.kp (thn (G pos b O w K _ v q) λS T⟨vs,R,p,r,E,D,J⟩=>⟨p.kIn,vI (vs:=.ref a::vs) F M B y J p (.cons rfl r) D⟩) i g)
def acq{pl}(A:PE X o ta)(c:Cls X.K C)(g:Meth X.K C m f)(F:FnOk X.prog X.w X.K X.mg X.base (CXX X.prog X.w) k f fd ps sp)(r:Room k X.A)(z:Binds X.K fd ps ds)(n:Vals dvs ds)(w:eval (.Call (.Attribute o m apos) [] [] pos) X.env=(do
  let j <-eval o X.env
  standAt apos.atName let(f,first)<-holding [j] (getMethod j m pl)callWith pos f first (backTo pos (starEach [] X.env)) (backToKw pos (keywordEach [] X.env))):=by rfl):PE X (.Call (.Attribute o m apos) [] [] pos) (sJ X C m sp dvs ta abz):=by intro i s y H Q I h;refine avD (thn (A _ s y H _ I h) λu J b=>?_) w;obtain⟨x,G,d,p,a,K,fs,ex,v,l,q⟩:=b;subst ex;obtain rfl:=p;refine qo d v c g l ?_;refine de q λE B D=>?_;exact W.callWith_K0 d.kIn g.kp (vI (vs:=[.ref a]) F r z n D d (.cons rfl .nil) B)
end
end L2
namespace WS
open PySem PySem.Spec PyProof.Rows L2
open WL(Res Sl Ws EF TF AF LF GF GsF SF Out Fs KO KF OX RF Sr)
section
variable{B:Bx}{σ:Ws}{σV:L2.St}{F H:Hp}{x:Addr}{o:HO}
def RS.arB(R:RS B σ σV F H)(r:F x=none)(k:B.H0 x=none)(n:H x=some o)(y:NF o)(D:∀l,o≠.lst l)(nd:∀l,o≠.dK l):RS B σ σV (upd F x o) H:=by
 have s:av F (upd F x o):=az r _;refine⟨⟨λb u q=>?_,R.rb.base,R.rb.fz0.trans s,λb u q=>?_⟩,R.len,λi w q=>?_,λi ws q=>?_,R.ap,λi A m q=>?_,R.dd.ad,λi q=>?_⟩
 .by_cases e:b=x;.subst e;rw[ao]at q;cases q;exact n
  .rw[ag e]at q;exact R.rb.sub b u q
 .by_cases e:b=x;.subst e;rw[ao]at q;cases q;exact .inr ⟨k,y⟩
  .rw[ag e]at q;exact R.rb.fr b u q
 .obtain⟨v,d,c⟩:=R.va i w q;exact⟨v,d,c.keep s⟩
 .refine ke (R.ow i ws q) λa p d c h f g=>?_;have e:a≠x:=λz=>by grind
  exact zm a p d (by rw[ag e];exact c) h f (g.keep s)
 .refine agZ (R.dd.od i A m q) λa l d c h f g j=>?_;exact ag2 a l d (by rw[ag λz=>by grind];exact c) h f (g.keep s) (j.keep s)
 .refine vh (R.dd.ob i q) λa C t d c=>?_;exact aeL a C t d (s _ _ c)
end
section
variable{X:Cx}{B:Bx}{fl x:Str}{c:String}{C f:Addr}{fd:FuncData}{ps:List Str}{k:Nat}{fn:List VW->Res VW}{e:Expr}{es:List Expr}{tas:AF}{p pos pos':Pos}
def afa(S:X.K=B.K)(hx:XW X B)(M:Mk X.K C f)(cl:Cls X.K C)(na:aW X.K C fl)(b0:W.nsIn X.K mainGlobals (Str.ofString c)=some (some (.ref C)))(a4:WL.l6 c=[fl])(G:FnOk X.prog X.w X.K X.mg X.base (CXX X.prog X.w) k f fd ps (spB X.K fl fn))(hr:Room (k+1) X.A)(hg:Gl X x)(hm:X.mg x=some (.ref C))(hb:Binds X.K fd ps [])(ha:PA X (e::es) (loA B tas))(hn:∀m ws,tas m=.ok ws->ws.length=1:=by repeat first|exact dE|apply aH)(a3:Dbg x:=by decide)(he:SE X e es:=by rfl)(a8:BT X pos es:=by rfl):PE X (.Call (.Name x p) (e::es) [] pos) (lo B (WL.uM c fn tas)):=PE.imp (yh M G hr hg hm hb .nil ha a3 he a8) λJ H Q a9=>by obtain⟨m,F,R,q⟩:=a9;have q:=Rq.bind q;refine⟨m,F,R,?_⟩;cases ea:tas m with|bad|ex c=>rw[ea]at q;exact q|ok ws=>
 rw[ea]at q;have hl:=hn m ws ea;obtain⟨w,rfl⟩:∃w,ws=[w]:=by match ws,hl with|[w],_=>exact⟨w,rfl⟩
 have q:=Rq.bind (show Rq B m F ((fn [w]).bind λwd=>Res.ok (WL.W.ins c [wd])) _ from q);intro vs E i l g1 r1 x A r a5 b1;obtain⟨v,rfl,r3⟩:=cx r1;rw[asl];have Z:∀b o,E b=some o->b≠x/\b≠A/\upd (upd E A (.own x)) x (.ins C A []) b=some o:=λb o z=>by
  have N:b≠x:=λy=>by rw[y,r]at z;cases z
  have I:b≠A:=λy=>by rw[y,a5]at z;cases z
  exact⟨N,I,by rw[ag N,ag I];exact z⟩
 have ext:∀{g j:Hp},av (noI i) g->av g j->(∀b o,b≠x->upd (upd E A (.own x)) x (.ins C A []) b=some o->j b=some o)->(∀b o,g b=some o->noI i b=some o\/(b=x\/upd (upd E A (.own x)) x (.ins C A []) b=none)/\NF o)->Gr i E (jo i g) j/\RB B (jo i g) j/\av g (jo i g):=λ{g j}s1 O U fr=>by
  have sH:av E j:=λb o z=>U b o (Z b o z).1 (Z b o z).2.2;have a1:∀b o,g b=some o->i b=none->E b=none/\NF o:=λb o z n=>by
   rcases fr b o z with y|⟨y,nf⟩;.rw[yz y]at n;cases n
   .refine⟨?_,nf⟩;rcases y with y|y;.rw[y];exact r
    .cases h:E b with|none=>rfl|some u=>rw[(Z b u h).2.2]at y;cases y
  refine⟨⟨λb o z=>amN z,sH,λb o z n=>?_⟩,⟨λb o z=>?_,l.rb.base.trans sH,λb o z=>amN (l.rb.fz0 b o z),λb o z=>?_⟩,λb o z=>?_⟩;.rw[amM n];cases e2:g b with|none=>rfl|some u=>rw[(a1 b u e2 n).1]at z;cases z
  .cases h:i b with|some u=>rw[amN h]at z;cases z;exact sH b _ (l.rb.sub b _ h)|none=>rw[amM h]at z;exact O b o z
  .cases h:i b with|some u=>rw[amN h]at z;cases z;exact l.rb.fr b _ h|none=>rw[amM h]at z;obtain⟨N,I⟩:=a1 b o z h;exact .inr ⟨l.rb.base.free N,I⟩
  .cases h:i b with|none=>rw[amM h];exact z|some u=>have N:=sH b _ (l.rb.sub b _ h);have I:=O b o z;rw[N]at I;cases I;exact amN h
 have Y:i x=none:=l.rb.sub.free r;refine⟨λP D j=>∃Ca g c,P=.ref Ca/\RS B m J g j/\B.xp c m g/\XR B.K g c Ca D,?_,λa0 s e P D T H' t⟨Ca,g,c,ec,R2,xp,xr⟩=>?_⟩
 .refine⟨x,A,C,noI i,w,v,rfl,ao,cl,na,?_,λa Ca da z=>?_,λb o z=>?_,?_,?_⟩;.cases h:noI i x with|none=>rfl|some u=>have:=l.rb.sub x _ (yz h);rw[r]at this;cases this
  .have:=yz z;unfold noI at z;rw[this]at z;cases z
  .exact(Z b o (l.rb.sub b o (yz z))).2.2
  .rw[S];exact RW.one ((RWs.one r3).amx λb o z=>amg z)
  .cases ef:fn [w]with|bad=>rw[ef]at q;exact q|ok wd=>
    rw[ef]at q;intro j g d _ s1 O U a6 a2 fr a7;obtain⟨K,rb,sj⟩:=ext s1 O U fr;have fx:jo i g x=none:=by rw[amM Y];exact a2
    have R3:RS B m J (upd (jo i g) x (.ins C A [(fl,.ref d)])) j:=(l.grow K rb).arB fx (l.rb.base.free r) a6 trivial (λ_ z=>nomatch z) λ_ z=>nomatch z;refine⟨rfl,(show∀v H' F',_ from q) (.ref x) j _ R3 (g1.trans ⟨K.f.trans (az fx _),K.h,λb o z n=>?_⟩) ?_⟩;.rw[ag (Z b o z).1];exact K.nf b o z n
    .simp only[RW];refine⟨x,C,A,[(fl,.ref d)],rfl,ao,S▸b0,a4.symm,by simp,RWs.one ?_⟩;exact(show RW B.K g wd (.ref d)from S▸a7).keep (sj.trans (az fx _))|ex c=>rw[ef]at q;intro P D j g s1 O U fr xr;obtain⟨K,rb,sj⟩:=ext s1 O U fr;exact⟨P,jo i g,c,rfl,l.grow K rb,B.mono c m F _ (g1.f.trans K.f) q,(S▸xr).keep sj⟩
 .cases ec;exact hx a0 J H' s m g c R2 xp e P D (some T) _ t (by rw[S];exact xr)
set_option tactic.hygienic true
def ain{o u}(G:X.K=B.K)(A:W.nsIn X.K mainGlobals (Str.ofString c)=some (some (.ref C)))(cl:Cls X.K C)(M:aW X.K C fl)(m:WL.l6 c=[fl])(N:PE X o (lo B u))(J:attributeBase o fl X.env (eval o X.env)=eval o X.env:=by rfl):PE X (.Attribute o fl pos) (lo B (WL.agF c u)):=PE.imp (nJ N J) λE H Q l=>by
 refine dc l λP F R q=>?_;have q:=Rq.bind q;refine dP P F R (Rq.mono (av.refl _) q λy h v O s z D I=>?_);unfold WL.aqY at h;split at h
 .rename_i U w;split at h
  .rename_i d;have d:=eq_of_beq d;subst d;refine anD I λa T S i n K t j _ r=>?_;subst n;rw[<-G,A]at t;cases t;rw[m]at j;obtain⟨b,rfl,r⟩:∃b,i=[(fl,b)]/\RWs B.K s [w] [b]:=by match i,j,r with
 |[(g,b)],j,r=>
     have:g=fl:=by simpa using j
     subst this;exact⟨b,rfl,r⟩
   exact akO a C S _ b rfl (z.rb.sub _ _ K) cl M (by simp[List.lookup]) (h b O s z D (RW.one r))
  .exact(h).elim
 .exact(h).elim
set_option tactic.hygienic false
def agg{o:Expr}{J m n}(w:X.K=B.K)(S:XW X B)(M:W.nsIn X.K mainGlobals (Str.ofString c)=some (some (.ref C)))(s:WL.l6 c=[fl])(l:(m==fl)=false)(T:∀g ws,tas g=.ok ws->ws.length+1=n):∀d H Q,lo B (WL.iT c fn J tas) d H Q->sJ X C m (spX X.K n fn) [] (lo B J) (loA B tas) d H Q:=by
 intro d H Q⟨g,F,R,q⟩;have q:=Rq.bind q;refine⟨g,F,R,Rq.mono (av.refl _) q λy b v H0 E G z K=>?_⟩;by_cases h:WL.isI c y=true
 .rw[arM h]at b;obtain⟨D,rfl⟩:∃D,y=.ins c [D]:=by
   unfold WL.isI at h;split at h;.rw[eq_of_beq h];exact⟨_,rfl⟩
   .cases h
  have i:=K;simp only[RW]at i;refine anD i λa C' U r t P I N _ _=>?_;subst t;rw[<-w,M]at I;cases I;rw[s]at N;obtain⟨A,rfl⟩:∃A,r=[(fl,A)]:=by simp_all
  refine⟨a,U,_,rfl,G.rb.sub _ _ P,by simp[List.lookup,l],g,E,G,?_⟩;cases j:tas g with|bad=>rw[j]at b;exact b|ex c=>rw[j]at b;exact B.mono c g F E z.f b|ok ws=>rw[j]at b;exact λvs H1 Z Y u O=>me w S Y (z.trans u) (.cons (K.keep u.f) O) (by rw[ar1];exact T g ws j) b (by rw[asl])
 .rw[arO h]at b;exact(show False from b).elim
end
end WS
namespace L2
open PySem PySem.Spec PyProof.Rows
section
variable{X:Cx}
def tO(f:X.A.units+1<cLine):OpR X (compareOp .NotIn) λx y H Q=>∃a o,y=.ref a/\aq8 H a x o/\Q (.bl !o.isSome) H:=by intro b s i H x y v u Q I d h⟨a,o,e,g,q⟩;subst e;cases h;exact ajY f I g d λj c=>⟨.bl _,H,c,rfl,q⟩
end
end L2
namespace WS
open PySem PySem.Spec PyProof.Rows L2
open WL(Res Sl Ws EF TF AF LF GF GsF SF Out Fs KO KF OX RF Sr)
section
variable{X:Cx}{B:Bx}{K:W.Frag}
def xg:Calm WL.nW:=λx y c h=>by
 unfold WL.nW at h;split at h;.split at h<;>cases h
 .exact dY _ _ _ h
def amY{F k a}(b:RW K F k (kV a)){kvs ks}(r:RWs K F ks (kvs.map λp=>kV p.1)):WL.aeQ k ks=(xN kvs a).isSome:=by rw[xa b r,qH]
def afg(n:X.K=K)(k:X.A.units+64<cLine):OpR X (compareOp .NotIn) (lo2 K WL.nW):=by
 intro h s i H x y v u Q I g l⟨F,wx,p,f,e,j,q⟩;unfold WL.nW at q;split at q
 .split at q;.rename_i o;obtain⟨b,rfl⟩:=yJ o e;refine my j λa d c rd m _=>?_;subst c;rw[amY e m]at q;exact tO (un1 k) _ s i H _ _ v u Q I g l ⟨a,_,rfl,.inl ⟨d,b,f.rd rd,rfl,rfl⟩,eq1 q (rfl)⟩
  .exact q.elim
 .exact kh n k _ s i H x y v u Q I g l (oU F _ _ f e j q)
theorem y7{F k a}(b:RW K F k (kV a))(w:VW):∀{kvs ks us},RWs K F ks (kvs.map λp=>kV p.1)->RWs K F us (kvs.map λp=>p.2)->WL.aaD k ks us=some w->∃v,xN kvs a=some v/\RW K F w v
|[],ks,us,r1,r2,e=>by cases ks with|nil=>cases e|cons x ks=>simp[RWs]at r1
|p::kvs,ks,us,r1,r2,e=>by cases ks with|nil=>cases e|cons x ks=>cases us with|nil=>cases e|cons y us=>
  obtain⟨r,n,i,c,g⟩:=r1;obtain⟨q,o,f,l,j⟩:=r2;cases i;cases f;unfold WL.aaD at e;rw[rA c b]at e;by_cases h:p.1=a;.rw[aso h]at e;cases e;exact⟨_,jy h,l⟩
  .rw[ar6 h]at e;obtain⟨v,d,m⟩:=y7 b w g j e;exact⟨v,by rw[jz h];exact d,m⟩
def agR:Calm WL.aks:=λx y c h=>by
 unfold WL.aks at h;split at h
 .split at h;.revert h;cases WL.aaD _ _ _<;>simp[WL.ofO]
  .cases h
 .exact aes _ _ _ h
set_option tactic.hygienic true
def aow(t:X.K=K):IxR X (lo2 K WL.aks):=by
 intro c b l s m H x y v u Q I h k⟨F,wx,G,n,j,g,q⟩i;unfold WL.aks at q;split at q
 .rename_i A C;split at q;.rename_i E;obtain⟨d,rfl⟩:=yJ E g;obtain⟨a,f,rfl,rd,r,D⟩:=j;cases e:WL.aaD G A C with|none=>rw[e]at q;exact q.elim|some w=>rw[e]at q;obtain⟨z,p,o⟩:=y7 g w r D e;exact adi _ _ _ s m H _ _ v u Q I h k ⟨a,f,d,z,rfl,rfl,n.rd rd,p,eq1 q o⟩ i
  .exact q.elim
 .exact aqt t _ _ _ s m H x y v u Q I h k ⟨F,_,_,n,j,g,q⟩ i
set_option tactic.hygienic false
variable{i:Nat}{pos pos':Pos}{x:Str}
end
end WS
namespace L2
open PySem PySem.Spec PyProof.Rows
theorem pQ:∀{a:List Str}{us:List Value},Vals (a.map V.str) us->StrsAre us a|[],_,r=>by cases r;exact .nil|x::a,_,r=>by rw[arZ]at r;cases r with|cons h t=>obtain⟨k,rfl⟩:=show∃t,_=Value.str x t from h;exact .cons x k (pQ t)
theorem qe:∀{us:List Value}{a:List Str},StrsAre us a->Vals (a.map V.str) us|_,_,.nil=>.nil|_,_,.cons y t r=>.cons ⟨t,rfl⟩ (qe r)
end L2
namespace WS
open PySem PySem.Spec PyProof.Rows L2
open WL(Res Sl Ws EF TF AF LF GF GsF SF Out Fs KO KF OX RF Sr)
section
variable{X:Cx}{K:W.Frag}
set_option tactic.hygienic true
theorem sL{F:Hp}:∀{ws:List VW}{a:List Str}{vs:List V},WL.strsOf ws=some a->RWs K F ws vs->vs=a.map V.str
|[],_,_,e,r=>by cases e;simpa[RWs]using r|w::ws,a,vs,e,r=>by
 simp only[RWs]at r;obtain⟨v,d,rfl,q,t⟩:=r;cases w<;>simp only[WL.strsOf]at e<;>first|(cases e;done)|skip
 rename_i x;obtain⟨b,c,rfl⟩:=asf.mp e;simp only[RW]at q;rw[q,sL c t];rfl
set_option tactic.hygienic false
theorem abZ{F:Hp}:∀(a:List Str),RWs K F (a.map WL.W.str) (a.map V.str)|[]=>by simp[RWs]|x::a=>.cons (by simp[RW]) (abZ a)
end
end WS
namespace L2
open PySem PySem.Spec PyProof.Rows
theorem abj:∀{xs:List V}{us:List Value},us.length=xs.length->(∀(i:Nat)(x:V)(u:Value),xs[i]?=some x->us[i]?=some u->RelV x u)->Vals xs us|[],[],_,_=>.nil|[],_::_,h,_=>by simp at h|_::_,[],h,_=>by simp at h|x::xs,u::us,h,k=>.cons (k 0 x u rfl rfl) (abj (by simpa using h) λi y v b a=>k (i+1) y v (by simpa using b) (by simpa using a))
end L2
namespace WS
open PySem PySem.Spec PyProof.Rows L2
open WL(Res Sl Ws EF TF AF LF GF GsF SF Out Fs KO KF OX RF Sr)
end WS
namespace L2
open PySem PySem.Spec PyProof.Rows PySem.Calls
def l7{X}(hc:X.calm=true):bG X (.builtin "sorted") λT H Q=>∃a kvs,∃n,T=[.ref a]/\Rd H a (.dK kvs)/\(kvs.map λp=>kV p.1)=n.map V.str/\n.length<64/\∀l c,H l=none->List.Perm c n->sortedS c=true->Q (.ref l) (upd H l (.lst (c.map V.str))):=by
 intro B s σ H T us Q I rx⟨a,kvs,n,e,rd,E,w,q⟩;subst e;obtain⟨u,rfl,ru⟩:∃u,us=[u]/\RelV (.ref a) u:=by cases rx with|cons h t=>cases t;exact⟨_,rfl,h⟩
 cases show u=Value.ref a from ru;obtain⟨z,hd,vs,C,dd⟩:=adU I.hok rd;obtain⟨ep,K⟩:=dd.dictAt;have hl:=C.length;refine call_function_entry kind_sorted plain_sorted entry_sorted (args_sorted1 _) ?_;unfold Builtin.«sorted»;refine arJ (m:=checkCount "sorted" 1 1 _) (arR ?_);refine arJ (W.kdu_collect (A:=X.A.in1) (W.kdl_dict (knd:=cy X.prog X.w) (kvs:=vs) (ep:=ep) hd) (I.ok.hd hc) K (by rw[<-hl];exact z) λj tk d hk U=>?_);have f:Vals (n.map V.str) d.toList:=by
  rw[<-E];refine abj ?_ ?_;.rw[aty,ar7,hl];exact U.1
  .intro i x v O e2;rw[ar3,asf]at O;obtain⟨p,J,rfl⟩:=O;refine dc (U.2 i v (by rw[<-atQ];exact e2)) λk y g1 g2=>?_;refine ju (C.get J) λr N r2 _=>?_;rw[g1]at N;cases N;rw[r2];exact ahp g2
 have G:=pQ f;have D:d.toList.length<64:=by rw[<-f.length,ar7];exact w
 refine arJ (wpAny_newList ?_ (by rw[at0];omega));have g:(j.push (seqObj "list" d.toList.toArray 0)).get? j.objs.size=some (seqObj "list" d.toList.toArray 0):=arW _ rfl;refine arJ (as9 (asR (s:={s with heap:=j.push (seqObj "list" d.toList.toArray 0),toks:=tk}) slot_list_sort ⟨_,g,rfl⟩ entry_list_sort (list_sort_treeK strKind_oneLt g G.keysOf (λP R rest e=>keyKind_strs (by rw[<-e];exact G)) D λM a1 a2=>⟨_,rfl,?_⟩) (args_list_sort _)));refine ju (sorted_out_str G a1 a2) λc b1 S b3=>?_;obtain⟨e,he⟩:=sortedHeap_at (out:=(arrOf M).map (·.2)) g;have Z:Inv X B σ H {s with heap:=j,toks:=tk}:=I.kept (t':=tk) hk;refine arR ⟨_,rfl,.ref j.objs.size,_,Z.laid (a:=j.objs.size) (o:=.lst (c.map V.str)) (t':=tk) (λb o z=>?_) (arP _) ⟨?_,_,e,qe b1,?_⟩,rfl,q _ c (Z.hok.fresh (arP _)) S b3⟩;.have Y:=arV z;rw[sortedHeap_old (ar0 Y) (by rw[size_push'];exact avd Y)];exact arK _ z
 .rw[ar7,S.length_eq];exact arU (auK w) (by decide)
 .rw[he]
end L2
namespace WS
open PySem PySem.Spec PyProof.Rows L2
open WL(Res Sl Ws EF TF AF LF GF GsF SF Out Fs KO KF OX RF Sr)
def spO(K:W.Frag)(n:Nat)(f:List VW->Res VW):Sp:=λi H Q E=>∃F ws,av F H/\RWs K F ws i/\ws.length=n/\match f ws with|.ok w=>∃g,w=.lst g/\∀a e d b,av F b->av b d->av H d->(∀a o,b a=some o->F a=some o\/H a=none/\NF o)->b a=none->H a=none->d a=some (.lst e)->RWs K b g e->Q (.ref a) d|.ex c=>∀C h d b,av F b->av b d->av H d->(∀a o,b a=some o->F a=some o\/H a=none/\NF o)->XR K b c C h->E (.ref C) h d|.bad=>False
def OqO(B:Bx)(D:Ends)(F:Hp)(l:LF):Out->Prop|.nx σ'=>Rq B σ' F (l σ') λws=>∀a e d b,RB B b d->av F b->b a=none->B.H0 a=none->d a=some (.lst e)->RWs B.K b ws e->D.rt (.ref a) d|.ex c σ'=>B.xp c σ' F|_=>False
def aqU(B:Bx)(t:SF)(l:LF):TS:=λD a H=>∃b F,RS B b a F H/\OqO B D F l (t b)
section
variable{X:Cx}{B:Bx}{t:SF}{l:LF}{e:Expr}{s1:Stmt}{pos:Pos}
def ae2(f:PS X s1 (loS B t))(s:PE X e (loL B l)):PSs X [s1,.Return (some e) pos] (aqU B t l):=PSs.imp (bT f (ft (acf s))) λD p H d=>by refine dc d λi F R q=>?_;refine dP i F R ?_;cases b:t i with|nx σ'=>rw[b]at q;exact λh z m n j=>dP _ m n (Rq.mono j q λw r a y v x R2 g f k u o _=>r a _ _ _ R2.rb (j.trans g.f) f k u o)|ex c σ'=>rw[b]at q;exact q|rt _=>rw[b]at q;exact q.elim|bk _=>rw[b]at q;exact q.elim|ct _=>rw[b]at q;exact q.elim|bad=>rw[b]at q;exact q.elim
end
section
variable{P:Program}{w:World}{K:W.Frag}{mg:Str->Option Value}{base:Heap}
def ajW{x d st f X N ps k m n}{Z:List VW->Res VW}(t)(l)(Fn:Fun K x d st f X)(S:FnScope N ps (af st))(hn:N.length=n)(g:ps.length=m)(J:WL.aiX n t l=Z)(a1:ps.length<=N.length)(h:∀i A b s H E B,B.K=K->Room k (A.deeper (envOfC d (af st) s.heap.objs.size f i))->XW (fA (CXX P w) P w K mg base N d (af st) f i A b s H E) B->PassesOwn (model P w) (fA (CXX P w) P w K mg base N d (af st) f i A b s H E).A (fA (CXX P w) P w K mg base N d (af st) f i A b s H E).env (fA (CXX P w) P w K mg base N d (af st) f i A b s H E).xe->PSs (fA (CXX P w) P w K mg base N d (af st) f i A b s H E) (aL st) (aqU B t l)):FnOk P w K mg base (CXX P w) (k+1) f X ps (spO K m Z):=by subst hn g J;refine ahW Fn.ex λoc od kV a2 pm an i ct a3 U lk R=>?_;subst U;refine wH lk R S (λM H Q E y=>by refine my y λF ws _ r hl _=>?_;rw[<-r.length];exact hl) λA b s H M Q E hr _ y=>?_;refine my y λF ws sm r hl g=>?_;let B0:Bx:=⟨K,H,F,λ_ _ _=>False,λ_ _ _ _ _ h=>h⟩;let I:Bx:=B0.pJ (λc _ G=>∀C u p j,av G j->RB B0 j p->XR K j c C u->E (.ref C) u p) λc σ G F2 s h C u p j v=>h C u p j (s.trans v);refine⟨_,h i A b s H E I rfl hr (λY a0 H1 s1 σ G c R1 xp e C u T fl t D=>kK t (xp C u H1 G (av.refl _) (R1.rb.box rfl rfl) D)) atO,_,F,(RS.start sm r (by omega)).box (B':=I) rfl rfl rfl,?_⟩;unfold WL.aiX at g;cases e:t _ with
|nx σ'=>rw[e]at g;unfold WL.apX at g;dsimp only at g;show Rq I σ' F (l σ') _;cases O:l σ' with|bad=>rw[O]at g;exact g.elim|ex c=>rw[O]at g;exact λC u p j v o D=>(show∀C u p j,_ from g) C u p j v o.sub o.base o.fr D|ok xs=>rw[O]at g;obtain⟨z,ex,q⟩:∃z,WL.W.lst xs=.lst z/\_:=g;cases ex;exact λa M p j o v h1 h2 h3 h4=>q a M p j v o.sub o.base o.fr h1 h2 h3 h4
|ex c σ'=>rw[e]at g;exact λC u p j v o D=>g C u p j v o.sub o.base o.fr D|rt _=>rw[e]at g;exact g.elim|bk σ'=>rw[e]at g;exact g.elim|ct σ'=>rw[e]at g;exact g.elim|bad=>rw[e]at g;exact g.elim
def afD{n t l}{ws:List VW}{w:VW}(h:WL.aiX n t l ws=.ok w):∃a,w=.lst a:=by
 unfold WL.aiX WL.apX at h;split at h;.revert h;cases l _ with|ok a=>intro h;exact⟨a,(Res.ok.inj h).symm⟩|ex c|bad=>intro h;cases h
 .cases h
 .cases h
def FnOk.ofO{f n ps k m h}(F:FnOk P w K mg base (CXX P w) k f n ps (spO K m h))(C:∀ws w,h ws=.ok w->∃i,w=.lst i):FnOk P w K mg base (CXX P w) k f n ps (spX K m h):=F.imp λG H Q E l=>by refine my l λF ws u s D g=>?_;refine aeW F ws u s D ?_;cases e:h ws with|bad|ex c=>rw[e]at g;exact g|ok w=>
   rw[e]at g;obtain⟨i,rfl⟩:=C ws w e;refine⟨i,rfl,λa p B t y A x fr q v j r=>g _ B (upd t a (.lst p)) (y.trans (az q _)) (λb o z=>?_) x (λb o z=>?_) ?_⟩
   .by_cases d:b=a;.subst d;rw[ao]at z;cases z;exact j
    .rw[ag d]at z;exact A b o z
   .by_cases d:b=a;.subst d;rw[ao]at z;cases z;exact .inr ⟨v,trivial⟩
    .rw[ag d]at z;exact fr b o z
   .exact⟨a,p,rfl,SqL.of ao,r.keep (az q _)⟩
end
section
variable{X:Cx}{B:Bx}{fl x:Str}{c:String}{C f:Addr}{fd:FuncData}{ps:List Str}{k:Nat}{fn:List VW->Res VW}{e:Expr}{es:List Expr}{tas:AF}{p pos pos':Pos}
def ae7{ta}(J:X.calm=true)(z:X.mg x=none)(K:bootBuiltins x=some (.builtin "sorted"))(h:PE X e (lo B ta))(u:Gl X x:=by rfl)(n:x≠"__name__":=by decide)(j:Dbg x:=by decide)(s:starEach [e] X.env=(false,eval e X.env)::starEach [] X.env:=by rfl)(i:BT X pos []:=by rfl):PE X (.Call (.Name x p) [e] [] pos) (loL B (WL.ac7 ta)):=PE.imp (ym (l7 J) u z K (aa h ai s) n j s i) λD H Q m=>by refine dc m λd F R q=>?_;have q:=Rq.bind q;refine dP d F R ?_;show Rq B d F ((ta d).bind λx=>.ok [x]) _;cases r:ta d with|bad|ex c=>rw[r]at q;exact q|ok w=>rw[r]at q;intro S P O t A G;refine de (cx G) λv b M=>?_;subst b;cases w with
 |dic ks us=>refine my M λa g b rd y _=>?_;subst b;have q:Rq B d F ((match WL.strsOf ks with|some ss=>if ss.length<64 then Res.ok _ else .bad|none=>.bad).bind WL.asL) _:=q;cases es:WL.strsOf ks with|none=>rw[es]at q;exact q.elim|some ss=>
     rw[es]at q;dsimp only at q;by_cases o:ss.length<64;.rw[arM o]at q;refine aki a g ss rfl (t.rb.sub.rd rd) (sL es y) o λl I n N E=>?_;have e:=WL.zG N E;subst e;exact an5 t A (abZ _) n q
     .rw[arO o]at q;exact q.elim
 |_=>exact(show False from q).elim
end
def aaS(P:Program)(w:World)(K:W.Frag)(c:Str->Option Value)(a:Heap)(k:Nat)(C f:Addr)(m:Str)(ps:List Str)(sp:Sp):Prop:=Meth K C m f/\∃b:FuncData,FnOk P w K c a (CXX P w) k f b ps sp/\Binds K b ps []
def aml{K f nm a st i od h d kV e j b ct}(l:K.lookup f=some ⟨i,od,.func (W.fnOf nm a (bE st) (aL st) (af st) .none kV e j h b ct),d⟩)(c:W.codeIn K b a=true)(q:W.keepIn K (.ref f)=true):∃g,Fun K nm a st f g:=⟨_,adA l c q⟩
def rl{P w K i b k C f nm a st ps sp}(M:Meth K C nm f)(D:∃c,Fun K nm a st f c)(l:∀kV g m j d ct e,e.length=ps.length->bindArgs (W.fnOf nm a (bE st) (aL st) (af st) .none kV g m j d ct) ⟨e,[]⟩=pure (ps.zip e))(h:∀c,Fun K nm a st f c->FnOk P w K i b (CXX P w) k f c ps sp):aaS P w K i b k C f nm ps sp:=by obtain⟨c,F⟩:=D;exact⟨M,c,h _ F,F.binds l⟩
def aaS.x{P w K c a k m n C f nm ps t l}(h:aaS P w K c a k C f nm ps (spO K m (WL.aiX n t l))):aaS P w K c a k C f nm ps (spX K m (WL.aiX n t l)):=by obtain⟨M,d,F,b⟩:=h;exact⟨M,d,FnOk.ofO F λws w e=>afD e,b⟩
section
variable{X:Cx}{B:Bx}{a b e o:Expr}{ta tb to:EF}{pos pos' cpos apos p:Pos}{x fl m nx_:Str}{es:List Expr}{tas:AF}{i j k n d:Nat}{C f g:Addr}{ps:List Str}{fn:List VW->Res VW}{c:String}{pl:Sem Bool}
def wxD(r:B.K=X.K)(h:PE X a (lo B ta))(l:PE X b (lo B tb))(q:lr b:=by exact λ_ _=>rfl):PE X (.Subscript a b pos) (lo B (WL.eOp WL.aks ta tb)):=akY agR (aow r.symm) h l q
def flI(s:B.K=X.K)(r:W.nsIn X.K mainGlobals (Str.ofString c)=some (some (.ref C)))(cl:Cls X.K C)(t:aW X.K C fl)(l:PE X o (lo B to))(h:WL.l6 c=[fl]:=by rfl)(q:attributeBase o fl X.env (eval o X.env)=eval o X.env:=by rfl):PE X (.Attribute o fl pos) (lo B (WL.agF c to)):=ain s.symm r cl t h l q
def mkI(w:B.K=X.K)(v:Room j X.A)(D:XW X B)(M:Mk X.K C f)(cl:Cls X.K C)(H:aW X.K C fl)(s:W.nsIn X.K mainGlobals (Str.ofString c)=some (some (.ref C)))(G:anB X.prog X.w X.K X.mg X.base k f ps (spB X.K fl fn))(t:X.mg x=some (.ref C))(A:PA X (e::es) (loA B tas))(E:k+1<=j:=by decide)(u:∀y ws,tas y=.ok ws->ws.length=1:=by repeat first|exact dE|apply aH)(l:WL.l6 c=[fl]:=by rfl)(r:Gl X x:=by rfl)(q:Dbg x:=by decide)(z:SE X e es:=by rfl)(h:BT X pos es:=by rfl):PE X (.Call (.Name x p) (e::es) [] pos) (lo B (WL.uM c fn tas)):=by obtain⟨I,F,b⟩:=G;exact afa w.symm D M cl H s l F (v.mono E) r t b A u q z h
def meI(w:B.K=X.K)(v:Room j X.A)(D:XW X B)(t:W.nsIn X.K mainGlobals (Str.ofString c)=some (some (.ref C)))(cl:Cls X.K C)(G:aaS X.prog X.w X.K X.mg X.base k C g m ps (spX X.K n fn))(H:PE X o (lo B to))(A:PA X (e::es) (loA B tas))(u:∀z ws,tas z=.ok ws->ws.length+1=n)(E:k<=j:=by decide)(l:WL.l6 c=[fl]:=by rfl)(q:(m==fl)=false:=by decide)(r:SE X e es:=by rfl)(h:BT X pos es:=by rfl)(y:eval (.Call (.Attribute o m apos) (e::es) [] pos) X.env=(do
  let s <-eval o X.env
  standAt apos.atName let(f,first)<-holding [s] (getMethod s m pl)callWith pos f first (backTo pos (starEach (e::es) X.env)) (backToKw pos (keywordEach [] X.env))):=by rfl):PE X (.Call (.Attribute o m apos) (e::es) [] pos) (lo B (WL.iT c fn to tas)):=by obtain⟨M,I,F,b⟩:=G;exact PE.imp (yg H cl M F (v.mono E) b .nil A r h y) (agg (o:=o) w.symm D t l q u)
end
section
variable{X:Cx}{B:Bx}{e:Expr}{te:EF}{i:Nat}{x:Str}{pos pos':Pos}
def aie(t:X.N.Nodup)(u:PE X e (lo B te))(r:X.N[i]?=some x:=by rfl)(z:Loc X.env.scope x:=by first|exact Or.inl rfl|exact Or.inr rfl)(s:FL X x:=by first|exact .inl rfl|exact .inr rfl|assumption):PS X (.AugAssign (.Name x pos') .Add e pos) (loS B (WL.bo i (WL.eOp WL.af3 (WL.aj i) te))):=PS.imp (alK t r z u amR s) λD p H c=>by
 obtain⟨d,F,R,q⟩:=c;have q:=Rq.bind (Oq.ofR q);unfold WL.aj at q;split at q;.rename_i w n;obtain⟨v,m,g⟩:=R.va i w n;have q:=Rq.bind (show Rq B d F ((te d).bind λy=>WL.af3 w y) _ from q);refine⟨v,m,d,F,R,Rq.mono (av.refl _) q λy f G l k A o j=>?_⟩;cases w with
 |int a=>cases y with|int b=>simp only[RW]at g j;subst g j;exact⟨a,b,rfl,rfl,(show∀h E C,_ from f) _ l k (A.set (by simp[RW])) o.f⟩|_=>exact(show False from f).elim
 |_=>exact(show False from f).elim
 .exact q.elim
end
def Frs(K:W.Frag)(F H:Hp):List (Addr×Addr)->Fs->Prop|[],[]=>True|(b,c)::r,(h,is)::fs=>(∃d a,H b=some (.lst [d,.ref c])/\H c=some (.lst a)/\RW K F h d/\RWs K F is a)/\Frs K F H r fs|_,_=>False
noncomputable def adr:List (Addr×Addr)->List Addr|[]=>[]|(b,c)::r=>b::c::adr r
structure Stk(B:Bx)(F H:Hp)(a:Addr)(r:List (Addr×Addr))(fs:Fs):Prop where
 top:H a=some (.lst (r.reverse.map λp=>.ref p.1))frs:Frs B.K F H r fs
 nd:(a::adr r).Nodup
 own:∀x∈a::adr r,F x=none/\B.H0 x=none
section
variable{B:Bx}{a:Addr}{r:List (Addr×Addr)}{fs:Fs}{F H F' H':Hp}
structure RK(B:Bx)(j:Nat)(a:Addr)(g:List (Nat×Addr))(r:List (Addr×Addr))(fs:Fs)(σ:Ws)(σV:L2.St)(F H:Hp):Prop where
 rs:RS B σ σV F H
 no:σ[j]?=some .no
 at_:σV[j]?=some (some (.ref a))st:Stk B F H a r fs
 ap:∀(k:Nat)(ws:List VW)(x:Addr),σ[k]?=some (.ow ws)->σV[k]?=some (some (.ref x))->x∉a::adr r
 fx:∀p∈g,σV[p.1]?=some (some (.ref p.2))
variable{g:List (Nat×Addr)}{j:Nat}{σ:Ws}{σV:L2.St}
open Classical in noncomputable def fzS(F H:Hp)(l:List Addr):Hp:=λx=>if x∈l then H x else F x
def eI{l:List Addr}{x:Addr}(h:x∈l):fzS F H l x=H x:=arM h
def aX{l:List Addr}{x:Addr}(h:x∉l):fzS F H l x=F x:=arO h
end
section
variable{B:Bx}{g:List (Nat×Addr)}{j:Nat}{a:Addr}{r:List (Addr×Addr)}{fs:Fs}{σ:Ws}{σV:L2.St}{F H F' H':Hp}{D:Ends}
def am4{g:List (Nat×Addr)}{σV:L2.St}{i:Nat}{v:Option V}(h:∀p∈g,σV[p.1]?=some (some (.ref p.2)))(c:∀p∈g,p.1≠i):∀p∈g,(σV.set i v)[p.1]?=some (some (.ref p.2)):=λp b=>by rw[arN (arY (c p b))];exact h p b
theorem RK.set(R:RK B j a g r fs σ σV F H){i:Nat}{w:VW}{v:V}(e:i≠j)(f:∀p∈g,p.1≠i)(hw:RW B.K F w v):RK B j a g r fs (σ.set i (.va w)) (σV.set i (some v)) F H:=by
 refine⟨R.rs.set hw,by rw[arN e];exact R.no,by rw[arN e];exact R.at_,R.st,λk ws x b c=>?_,am4 R.fx f⟩;by_cases d:i=k
 .subst d;have h:i<σ.length:=by have:=(arL.mp b).1;simpa using this
  rw[arT h]at b;cases b
 .rw[arN d]at b c;exact R.ap k ws x b c
end
section
variable{B:Bx}{l:List Addr}{σ:Ws}{σV:L2.St}{F H F' H':Hp}
abbrev kd(B:Bx)(H:Hp)(l:List Addr):Bx:=⟨B.K,fzS B.H0 H l,B.F0,B.xp,B.mono⟩
def RS.inS(R:RS B σ σV F H)(v:∀x∈l,F x=none)(ap:∀(k:Nat)(ws:List VW)x,σ[k]?=some (.ow ws)->σV[k]?=some (some (.ref x))->x∉l)(ad:∀x∈l,∀(k:Nat)(d c:List VW),σ[k]?=some (.od d c)->σV[k]?≠some (some (.ref x))):RS (kd B H l) σ σV F H:=by
 refine⟨⟨R.rb.sub,λx o q=>?_,R.rb.fz0,λx o q=>?_⟩,R.len,R.va,λk ws e=>?_,R.ap,R.dd.via rfl id (λ_ _ z=>.inl z) (λ_ _ _ e=>⟨e,rfl⟩) (av.refl _) λk d c b n g r i t j=>⟨t,?_,i⟩⟩
 .have q:fzS B.H0 H l x=some o:=q;by_cases a:x∈l;.rw[eI a]at q;exact q
  .rw[aX a]at q;exact R.rb.base x o q
 .rcases R.rb.fr x o q with z|z;.exact .inl z
  .refine .inr ⟨?_,z.2⟩;show fzS B.H0 H l x=none;rw[aX λa=>by grind];exact z.1
 .refine ke (R.ow k ws e) λb p f h u m s=>?_;refine zm b p f h ?_ m s;show fzS B.H0 H l b=none;rw[aX (ap k ws b e f)];exact u
 .show fzS B.H0 H l b=none;rw[aX λa=>ad b a k d c g r];exact j
def RS.al0(R:RS (kd B H l) σ σV F' H')(r:∀x∈l,B.H0 x=none)(v:∀x∈l,∃o,H x=some o):RS B σ σV F' H':=by
 have n:∀{x},fzS B.H0 H l x=none->B.H0 x=none:=λ{x}z=>by
  by_cases a:x∈l;.exact r x a
  .rw[aX a]at z;exact z
 refine⟨⟨R.rb.sub,λx o q=>?_,R.rb.fz0,λx o q=>?_⟩,R.len,R.va,λk ws e=>?_,R.ap,R.dd.via rfl id (λ_ _ z=>.inl z) (λ_ _ _ e=>⟨e,rfl⟩) (av.refl _) λk y u b i t w f p g=>⟨p,n g,f⟩⟩;.refine R.rb.base x o (show fzS _ H l x=some o from ?_);rw[aX λa=>by grind];exact q
 .rcases R.rb.fr x o q with z|z;.exact .inl z
  .exact .inr ⟨n z.1,z.2⟩
 .refine ke (R.ow k ws e) λb j d c s h m=>?_;exact zm b j d c (n s) h m
def nL(b:∀x∈l,∃o,H x=some o){x}(h:fzS B.H0 H l x=none):x∉l:=λa=>by obtain⟨o,c⟩:=b x a;rw[eI a,c]at h;cases h
end
section
variable{P:Program}{w:World}{K:W.Frag}{mg:Str->Option Value}{base:Heap}
open Classical in end
end WS
namespace WS
open PySem PySem.Spec PyProof.Rows L2
open WL(Res Sl Ws EF TF AF LF GF GsF SF Out Fs KO KF OX RF Sr)
section
variable{X:Cx}{B:Bx}{pos hpos:Pos}
def ah8{n b b0 N M O j g k A u x p1 p2 p3 tp ec tb th}(hK:X.K=B.K)(hs:X.stack=X.env::X.outer)(hf:X.env.frame=some X.env.locals)(g1:Gl X A/\X.mg A=some (.ref N))(g2:Gl X u/\X.mg u=some (.ref M))(g3:Gl X x/\X.mg x=some (.ref O))(hc:∀d K,ExcAt X.K d K->W.exmOne X.K (.ref K) (.ref N)=some (WL.md d j)/\W.exmOne X.K (.ref K) (.ref M)=some (WL.md d g)/\W.exmOne X.K (.ref K) (.ref O)=some (WL.md d k))(hb:∀E pn B',B'.K=X.K->XW (X.tri E pn) B'->PassesOwn (model X.prog X.w) X.A X.env E->PSs (X.tri E pn) n (loS B' tb))(hh:∀e B',B'.K=X.K->XW (X.sui e) B'->PSs (X.sui e) (b0::b) (loS B' th))(e1:Dbg A:=by decide)(e2:Dbg u:=by decide)(e3:Dbg x:=by decide):PS X (.Try n [.ExceptHandler (some (.Tuple [.Name A p1,.Name u p2,.Name x p3] ec tp)) none (b0::b) hpos] [] [] pos) (loS B (WL.zQ tb [j,g,k] th)):=by
 intro a s S H D I⟨σ,F,R,q⟩;refine wpAny_Try_except ?_;let E':Value->Shared->Prop:=λe y=>wpAny (model X.prog X.w) X.A (noteFrame e X.env) (λ_ C=>wpAny (model X.prog X.w) X.A (setFlight e none) (λ_ v=>wpAny (model X.prog X.w) X.A (handleBy e X.env [.ExceptHandler (some (.Tuple [.Name A p1,.Name u p2,.Name x p3] ec tp)) none (b0::b) hpos]) (SP X a D) X.xe v) X.xe C) X.xe y;let Y:Bx:=B.pJ (λc m F'=>Oq B D F' (WL.pq [j,g,k] th c m)) λc m F' a1 s h=>Oq.mono s h;have xw:XW (X.tri E' (X.pn++a)) Y:=by intro a0 p H1 s1 l F1 c R1 r e U dx T G t xr;have t2:Thr X a p H1 s1 e U dx G T:=t.iZ;refine dc xr.is λd fs Z ce=>?_;subst Z;have r:Oq B D F1 (WL.pq [j,g,k] th (.exc d fs) l):=r;have ex:=hc d U ce;cases i:[j,g,k].any (WL.md d)with
 |false=>
  have:WL.pq [j,g,k] th (.exc d fs) l=.bad:=by unfold WL.pq;rw[show WL.j5 [j,g,k] (.exc d fs)=false from i];rfl
  rw[this]at r;exact r.elim|true=>
   have hO:WL.pq [j,g,k] th (.exc d fs) l=match th l with|.ex _ _=>.bad|o=>o:=by unfold WL.pq;rw[show WL.j5 [j,g,k] (.exc d fs)=true from i];rfl
   rw[hO]at r;have w:W.exmAny X.K (.ref U) [.ref N,.ref M,.ref O]=some true:=by refine ag0 ex λy1 y2 y3=>?_;have i:(WL.md d j||(WL.md d g||(WL.md d k||false)))=true:=i;simp only[W.exmAny,y1,y2,y3];rw[i]
   refine t2.note hs hf λh' T' _ t3=>t3.uv λa2 t4=>uq (vs:=[.ref N,.ref M,.ref O]) t4 (λQ E h=>agE (X:=X.sui e) (t4.inv.sui e) g1 g2 g3 h e1 e2 e3) (λkI ty hp=>W.exm_tup3 kI ty hp w) λh3 t5=>?_;have J:=t5.inv;let B2:Bx:=B.never;have P:=hh e B2 hK.symm (qA λ_ _ _ z=>z);refine asi (P a _ p H1 D (J.sui e) ⟨l,F1,R1.box rfl rfl rfl,?_⟩) (λG s' h=>SP.back J h) λ_ _ z=>z;exact Oq.aol (B:=B) (B':=B2) (f:=λ_ _=>.bad) rfl rfl rfl (λ_ _ z=>(show False from z).elim) r
 have P:=hb E' (X.pn++a) Y hK.symm xw PassesOwn.looking;refine asi (P [] s S H D (I.tri E') ⟨σ,F,R.box rfl rfl rfl,?_⟩) (λG s' h=>?_) λ_ _ z=>z;.have q:Oq B D F (match tb σ with|.ex c m=>WL.pq [j,g,k] th c m|o=>o):=q;exact Oq.aol (B:=B) (B':=Y) rfl rfl rfl (λ_ _ z=>z) q
 .have h:=SP.iZ h;cases G with|next=>exact atD h|_=>exact h
end
structure Rsc(S:Type)where
 adr:S->Addr
 rel:W.Frag->S->List Addr->Hp->Hp->Prop
 mono:∀{K s l F H F' H'},rel K s l F H->av F F'->(∀x∈l,∀o,H x=some o->H' x=some o)->rel K s l F' H'
 there:∀{K s l F H},rel K s l F H->∀x∈l,∃o,H x=some o/\NF o/\∀xs,o≠.tup xs
 val:S->VW
 fz:∀{K s l F H a od kvs},rel K s l F H->(∀x∈l,F x=none)->F a=some (.dK kvs)->rel K s l (upd F a (zD od kvs)) (upd H a (zD od kvs))th:∀{K s l F H a od kvs},rel K s l F H->(∀x∈l,F x=none)->F a=some (zD od kvs)->rel K s l (upd F a (.dK kvs)) (upd H a (.dK kvs))rw:∀{K s l F H F'},rel K s l F H->av F F'->(∀x∈l,∀o,H x=some o->F' x=some o)->RW K F' (val s) (.ref (adr s))
variable{S:Type}
structure RX(M:Rsc S)(B:Bx)(s:S)(l:List Addr)(σ:Ws)(σV:L2.St)(F H:Hp):Prop where
 rs:RS (kd B H l) σ σV F H
 fr:∀x∈l,F x=none/\B.H0 x=none
 re:M.rel B.K s l F H
def OqX(M:Rsc S)(B:Bx)(D:Ends)(F:Hp):OX S->Prop|.nx σ' s'=>∀a d b e,RX M B s' e σ' a b d->av F b->D.nx a d|.bk σ' s'=>∀a d b e,RX M B s' e σ' a b d->av F b->D.bk a d|.ct σ' s'=>∀a d b e,RX M B s' e σ' a b d->av F b->D.ct a d|.rt w s'=>∀v d b e,RB (kd B d e) b d->(∀x∈e,b x=none/\B.H0 x=none)->M.rel B.K s' e b d->av F b->RW B.K b w v->D.rt v d|.ex c σ'=>B.xp c σ' F|.bad=>False
def loX(M:Rsc S)(B:Bx)(t:RF S):TS:=λD a H=>∃b F s l,RX M B s l b a F H/\OqX M B D F (t b s)
section
variable{M:Rsc S}{B:Bx}{s:S}{l:List Addr}{σ:Ws}{σV:L2.St}{F H F' H':Hp}{D:Ends}{X:Cx}
theorem OqX.mono(k:av F F'){o}(h:OqX M B D F o):OqX M B D F' o:=by cases o with|nx σ s|bk σ s|ct σ s=>exact λσV H G l R z=>h _ H G l R (k.trans z)|rt w s=>exact λv H G l R r q z=>h v H G l R r q (k.trans z)|ex c σ=>exact B.mono c σ F _ k h|bad=>exact h
theorem RX.there(R:RX M B s l σ σV F H):∀x∈l,∃o,H x=some o:=λx a=>let⟨o,h,_⟩:=M.there R.re x a;⟨o,h⟩
def adf(c:∀x∈l,∃o,H x=some o)(b:RB (kd B H l) F' H'):∀x∈l,∀o,H x=some o->H' x=some o:=λx a o q=>b.base x o (by show fzS _ H l x=some o;rw[eI a];exact q)
def ahT(c:∀x∈l,∃o,H x=some o)(k:∀x∈l,∀o,H x=some o->H' x=some o):kd B H l=kd B H' l:=by
 have:fzS B.H0 H l=fzS B.H0 H' l:=by
  funext x;by_cases a:x∈l;.obtain⟨o,b⟩:=c x a;rw[eI a,eI a,b,k x a o b]
  .rw[aX a,aX a]
 simp [kd,this]
def adC(g:∀x∈l,∃o,H x=some o)(c:∀x∈l,F x=none)(b:av B.F0 F)(d:RB (kd B H l) F' H'):∀x∈l,F' x=none:=λx a=>by cases e:F' x with|none=>rfl|some o=>
 rcases d.fr x o e with z|⟨z,_⟩;.have:=b x o z;rw[c x a]at this;cases this
 .have z:fzS _ H l x=none:=z;obtain⟨u,f⟩:=g x a;rw[eI a,f]at z;cases z
def RX.next(R:RX M B s l σ σV F H){b a}(c:RS (kd B H l) b a F' H')(k:av F F'):RX M B s l b a F' H':=by have e:=adf R.there c.rb;refine⟨?_,λx d=>⟨adC (B:=B) R.there (λy f=>(R.fr y f).1) R.rs.rb.fz0 c.rb x d,(R.fr x d).2⟩,M.mono R.re k e⟩;rw[<-ahT R.there e];exact c
def XW.inS(e:XW X B)(b:∀x∈l,B.H0 x=none)(d:∀x∈l,∃o,H x=some o):XW X (kd B H l):=λa σV H' f σ F c R q=>e _ _ _ _ σ F c (R.al0 b d) q
variable{st:Stmt}{rest ss:List Stmt}{t:SF}{t1 t2:RF S}
def ajd(R:RX M B s l σ σV F H)(q:OqX M B D F (WL.kf t σ s)):Oq (kd B H l) D F (t σ):=by unfold WL.kf at q;cases e:t σ with|nx σ'|bk σ'=>rw[e]at q;exact λa H' F' b k=>q _ H' _ l (R.next b k) k|ct σ'=>rw[e]at q;exact λa H' F' b k=>q _ H' F' l (R.next b k) k|rt w=>rw[e]at q;intro v H' F' d k r;have g:=adf R.there d;refine q v H' F' l (by rw[<-ahT R.there g];exact d) (λx f=>⟨adC (B:=B) R.there (λy h=>(R.fr y h).1) R.rs.rb.fz0 d x f,(R.fr x f).2⟩) (M.mono R.re k g) k r|ex c σ'|bad=>rw[e]at q;exact q
def iV(d:B.K=X.K)(a:XW X B)(h:∀b,b.K=X.K->XW X b->PS X st (loS b t)):PS X st (loX M B (WL.kf t)):=by intro c e σV H D I⟨σ,F,s,l,R,q⟩;exact h (kd B H l) d (XW.inS a (λx a=>(R.fr x a).2) R.there) _ _ _ H D I ⟨σ,F,R.rs,ajd R q⟩
def aaW:PSs X [] (loX M B WL.xNx):=PSs.imp ace λD σV H a=>by obtain⟨σ,F,s,l,R,q⟩:=a;exact q _ H F l R (av.refl _)
def mz(h:PS X st (loX M B t1)):PSs X [st] (loX M B t1):=ft h
def lu(f:PS X st (loX M B t1))(e:PSs X rest (loX M B t2)):PSs X (st::rest) (loX M B (WL.mB t1 t2)):=PSs.imp (bT f e) λD σV H a=>by refine agY a λσ F s l R q=>?_;refine anH σ F s l R ?_;have q:OqX M B D F (match t1 σ s with|.nx σ' s'=>t2 _ _|o=>o):=q;cases d:t1 σ s with|nx σ' s'=>rw[d]at q;exact λb H' F' h g k=>anH _ F' s' h g (OqX.mono k q)|bk σ' s'|ct σ' s'|rt w s'|ex c σ'|bad=>rw[d]at q;exact q
end
variable{S:Type}
section
variable{M:Rsc S}{B:Bx}{s:S}{l:List Addr}{σ σ1:Ws}{σV:L2.St}{F H F' H':Hp}{D:Ends}{X:Cx}{j:Nat}
set_option tactic.hygienic true
def RX.frz(R:RX M B s l σ σV F H)(e:WL.seen M.adr M.val j σ s=some σ1):av F (fzS F H l)/\RS B σ1 σV (fzS F H l) H:=by
 have p:=R.there;have k:av F (fzS F H l):=λx o q=>by rw[aX λz=>by rw[(R.fr x z).1]at q;cases q];exact q
 have c:RS B σ σV F H:=R.rs.al0 (λx a=>(R.fr x a).2) p;have N:RB B (fzS F H l) H:=⟨λx o q=>by
  by_cases a:x∈l;.rw[eI a]at q;exact q
  .rw[aX a]at q;exact c.rb.sub x o q,c.rb.base,c.rb.fz0.trans k,λx o q=>by
  by_cases a:x∈l;.rw[eI a]at q;refine ju (M.there R.re x a) λu hu P _=>?_;rw[hu]at q;cases q;exact .inr ⟨(R.fr x a).2,P⟩
  .rw[aX a]at q;exact c.rb.fr x o q⟩;have out:∀{b:Addr},(kd B H l).H0 b=none->b∉l:=λ{b}z=>nL (B:=B) p z;have A:RS B σ σV (fzS F H l) H:=by
  refine⟨N,c.len,λi w q=>?_,λi ws q=>?_,c.ap,c.dd.via rfl id (λ_ _ z=>.inl z) (λ_ _ _ q=>⟨q,rfl⟩) k λi T Y b G J m C O E=>⟨?_,E,C⟩⟩;.obtain⟨v,d,g⟩:=c.va i w q;exact⟨v,d,g.keep k⟩
  .refine ke (R.rs.ow i ws q) λb vs d g h3 h4 h5=>?_;refine ke (c.ow i ws q) λt n f g2 h I Z=>?_;rw[d]at f;cases f;exact zm b n d (by rw[aX (out h3)];exact g) h I (Z.keep k)
  .refine my (R.rs.dd.od i T Y J) λt y f _ h _=>?_;have f:σV[i]?=some (some (.ref t)):=f;have m:σV[i]?=some (some (.ref b)):=m;rw[m]at f;cases f;rw[aX (out h)];exact O
 refine⟨k,?_⟩;unfold WL.seen at e;split at e
 .rename_i b Q;split at e
  .rename_i K;cases e;subst K;obtain⟨v,d,g⟩:=A.va j _ Q;subst g;have U:σV.set j (some (.ref (M.adr s)))=σV:=by
    apply auq;intro i;by_cases r:j=i;.subst r;rw[arT (arL.mp d).1,d]
    .rw[arN r]
   have:=A.set (i:=j) (w:=M.val s) (v:=.ref (M.adr s)) (M.rw R.re k λx a o q=>by rw[eI a];exact q);rw[U]at this;exact this
  .cases e
 .cases e
set_option tactic.hygienic false
open Classical in theorem RX.back(R:RX M B s l σ σV F H){i c d}(k:RS B i σV c d)(f:Gr (fzS F H l) H c d):∃b,Gr F H b d/\(∀x o,c x=some o->x∉l->b x=some o)/\RX M B s l σ σV b d:=by
 let b:Hp:=λx=>if x∈l then none else c x;have e:∀{x:Addr},x∈l->b x=none:=λh=>arM h;have jg:∀{x:Addr},x∉l->b x=c x:=λh=>arO h;have g:Gr F H b d:=⟨λx o q=>by
 have a:x∉l:=λz=>by rw[(R.fr x z).1]at q;cases q
 rw[jg a];exact f.f x o (by rw[aX a];exact q),f.h,λx o q n=>by
 by_cases a:x∈l;.exact e a
 .rw[jg a];exact f.nf x o q (by rw[aX a];exact n)⟩;have sub:av b c:=λx o q=>by grind
 have m:RB (kd B H l) b d:=⟨sub.trans k.rb.sub,R.rs.rb.base.trans f.h,R.rs.rb.fz0.trans g.f,λx o q=>by
 by_cases a:x∈l;.rw[e a]at q;cases q
 .rcases k.rb.fr x o (sub x o q)with z|⟨z,n⟩;.exact .inl z
  .exact .inr ⟨by show fzS B.H0 H l x=none;rw[aX a];exact z,n⟩⟩;exact⟨b,g,λx o q a=>by rw[jg a];exact q,R.next (R.rs.grow g m) g.f⟩
variable{c:Expr}{tt:TF}{st:Stmt}{ss ss':List Stmt}{t1 t2 b:RF S}{pos:Pos}
set_option tactic.hygienic true
def aqq{D v}(R:RX M B s l σ σV F H)(e:WL.xT M.adr M.val j tt σ s=.ok v)(h:∀a d,Gr F H d a->RX M B s l σ σV d a->D v a):loT B tt σV H D:=by
 unfold WL.xT at e;split at e;.rename_i σ1 f;obtain⟨k,m⟩:=R.frz f;refine⟨_,_,m,?_⟩;rw[e];intro a d R2 i;refine ju (R.back R2 i) λo n _ g=>?_;exact h _ _ n g
 .cases e
set_option tactic.hygienic false
def OqX.ifB{r d a}(h:OqX M B D F (WL.ae0 r d a)):∃v,r=.ok v/\OqX M B D F (if v=true then d else a):=by cases r with
|ok v=>cases v with|true|false=>exact⟨_,rfl,h⟩
|ex c|bad=>exact(h).elim
def akQ(d:PT X c (loT B tt))(i:PSs X ss (loX M B t1))(h:PSs X ss' (loX M B t2)):PS X (.If c ss ss' pos) (loX M B (WL.xIf (WL.xT M.adr M.val j tt) t1 t2)):=PS.imp (ai5 d i h) λD σV H a=>by refine agY a λσ F s l R q=>?_;refine de (OqX.ifB q) λv f q=>?_;refine aqq R f λm e g k=>?_;cases v with|true|false=>exact⟨σ,e,s,l,k,OqX.mono g.f q⟩
def aeX{n}(J:PassesOwn (model X.prog X.w) X.A X.env X.xe)(G:PT X c (loT B tt))(E:PSs X ss (loX M B b)):PS X (.While c ss [] pos) (loX M B (WL.aaY (WL.xT M.adr M.val j tt) b n)):=PS.imp (yc J G E) λD σV H p=>by obtain⟨σ,F,s,l,R,q⟩:=p;refine⟨λm d H'=>∃f F' g i,RX M B g i f d F' H'/\OqX M B D F' (WL.aaY (WL.xT M.adr M.val j tt) b m f g),⟨n,σ,F,s,l,R,q⟩,?_⟩;rintro m d H'⟨f,F',g,i,A,a⟩;cases m with|zero=>exact(show False from a).elim|succ m=>obtain⟨v,C,a⟩:=OqX.ifB a;refine aqq A C λI x h y=>?_;cases v with|false=>rw[arO ar2]at a⊢;exact a d I x i y h.f|true=>rw[arM rfl]at a⊢;refine⟨_,λe r z=>⟨m,att m,z⟩,f,x,g,i,y,?_⟩;cases k:b f g with|nx σ2 s2|ct σ2 s2=>rw[k]at a;exact λe r t u R2 o=>⟨σ2,t,s2,u,R2,OqX.mono (h.f.trans o) a⟩|bk σ2 s2=>rw[k]at a;exact λe r t u R2 o=>a e r t u R2 (h.f.trans o)|rt w s2|ex c σ2=>rw[k]at a;exact OqX.mono (D:=D) h.f a|bad=>rw[k]at a;exact a
end
variable{S:Type}
section
variable{M:Rsc S}{B:Bx}{s:S}{l:List Addr}{σ:Ws}{σV:L2.St}{F H F' H':Hp}{D:Ends}{X:Cx}{i j:Nat}{e:Expr}{te:EF}{x:Str}{pos pos':Pos}
def ajy(R:RX M B s l σ σV F H){b k d:Hp}(g:Gr (fzS F H l) H b d)(sub:av b d)(h:∀y o,b y=some o->y∉l->k y=some o){w:VW}{v:V}(p:WL.plain w=true)(r:RW B.K b w v):RW B.K k w v:=by
 refine RW.less (λa f q=>?_) w v p r;have m:∀{o:HO},b a=some o->(o=.tup f\/∃ob u,o=.frz ob u)->a∉l:=λ{o}q z C=>by
  obtain⟨u,t,A,n⟩:=M.there R.re a C;have c:=sub a o q;rw[g.h a u t]at c;cases c;rcases z with rfl|⟨ob,E,rfl⟩;.exact n f rfl
  .exact A
 rcases q with(q|⟨o,q⟩)|q;.exact .inl (.inl (h a _ q (m q (.inl rfl))))
 .exact .inl (.inr ⟨o,h a _ q (m q (.inr ⟨_,_,rfl⟩))⟩)
 .exact .inr q
set_option tactic.hygienic true
def akP(m:X.N.Nodup)(C:PE X e (lo B te))(g:X.N[i]?=some x:=by rfl)(p:Loc X.env.scope x:=by first|exact Or.inl rfl|exact Or.inr rfl)(f:swapsWith e (some (.Name x pos')) pos.line X.env=pure false:=by rfl)(h:FL X x:=by first|exact .inl rfl|exact .inr rfl|assumption):PS X (.Assign [.Name x pos'] e pos) (loX M B (WL.akR M.adr M.val j i te)):=PS.imp (tI m g p C f h) λD σV H b=>by
 obtain⟨σ,F,s,l,R,q⟩:=b;unfold WL.akR at q;split at q
 .rename_i z o;obtain⟨k,G⟩:=R.frz o;split at q
  .rename_i w u;split at q;.rename_i hw;refine⟨_,_,G,?_⟩;rw[u];intro v t I R2 d n;obtain⟨y,r,E,a⟩:=R.back R2 d;have A:=ajy R d R2.rb.sub E hw n;exact(show∀c H' F' J,_ from q) _ t y l ⟨a.rs.set A,a.fr,a.re⟩ r.f
   .exact(show False from q).elim
  .exact(show False from q).elim
 .exact(show False from q).elim
set_option tactic.hygienic false
end
variable{S:Type}
section
variable{M:Rsc S}{B:Bx}{s s':S}{l:List Addr}{σ:Ws}{σV:L2.St}{F H:Hp}
def RX.write(R:RX M B s l σ σV F H){x}(h:x∈l){o}(n:M.rel B.K s' l F (upd H x o)):RX M B s' l σ σV F (upd H x o):=by
 have i:=R.there;have m:∀(k:Nat)(ws)(y:Addr),σ[k]?=some (.ow ws)->σV[k]?=some (some (.ref y))->y∉l:=λk ws y a e=>by refine my (R.rs.ow k ws a) λb _ c _ j _=>?_;rw[e]at c;cases c;exact nL (B:=B) i j
 have nd:∀y∈l,∀(k:Nat)(g f:List VW),σ[k]?=some _->σV[k]?≠some (some (.ref y)):=λy d k g f a e=>by refine my (R.rs.dd.od k g f a) λb _ c _ j _=>?_;rw[e]at c;cases c;exact nL (B:=B) i j d
 exact⟨((R.rs.al0 (λy d=>(R.fr y d).2) i).away o (R.fr x h).1 (R.fr x h).2 (λk ws a e=>m k ws x a e h) λk g f a=>nd x h k g f a).inS (λy d=>(R.fr y d).1) m nd,R.fr,n⟩
end
open Classical in noncomputable def hol(l:List Addr)(H:Hp):Hp:=λx=>if x∈l then none else H x
def amV{l H x}(h:x∈l):hol l H x=none:=arM h
def kO{l H x}(h:x∉l):hol l H x=H x:=arO h
def spM(M:Rsc S)(K:W.Frag)(n:Nat)(f:List VW->S->OX S):Sp:=λh H Q E=>∃F ws s l,av F H/\RWs K F ws h/\ws.length=n/\M.rel K s l F H/\(∀x∈l,F x=none)/\match f ws s with|.rt w s'=>∀v d b e,av F b->av b d->av (hol l H) d->(∀x∈e,b x=none/\hol l H x=none)->M.rel K s' e b d->(∀a o,b a=some o->F a=some o\/hol l H a=none/\NF o)->RW K b w v->Q v d|.nx _ s'=>∀d b e,av F b->av b d->av (hol l H) d->(∀x∈e,b x=none/\hol l H x=none)->M.rel K s' e b d->(∀a o,b a=some o->F a=some o\/hol l H a=none/\NF o)->Q .non d|.ex c _=>∀C g d b,av F b->av b d->av (hol l H) d->(∀a o,b a=some o->F a=some o\/hol l H a=none/\NF o)->XR K b c C g->E (.ref C) g d|_=>False
section
variable{P:Program}{w:World}{K:W.Frag}{mg:Str->Option Value}{base:Heap}{M:Rsc S}
def adX{x d st f fd N ps k m n}{fn:List VW->S->OX S}(t)(Fn:Fun K x d st f fd)(Sc:FnScope N ps (af st))(hn:N.length=n)(p:ps.length=m)(Z:WL.runM n t=fn)(a4:ps.length<=N.length)(h:∀g A b s H E B,B.K=K->Room k (A.deeper (envOfC d (af st) s.heap.objs.size f g))->XW (fA (CXX P w) P w K mg base N d (af st) f g A b s H E) B->PassesOwn (model P w) (fA (CXX P w) P w K mg base N d (af st) f g A b s H E).A (fA (CXX P w) P w K mg base N d (af st) f g A b s H E).env (fA (CXX P w) P w K mg base N d (af st) f g A b s H E).xe->PSs (fA (CXX P w) P w K mg base N d (af st) f g A b s H E) (aL st) (loX M B t)):FnOk P w K mg base (CXX P w) (k+1) f fd ps (spM M K m fn):=by
 subst hn p Z;obtain⟨oc,od,kV,a5,pm,an,g,ct,a6,rfl,lk,a0⟩:=Fn.ex;refine wH lk a0 Sc (λvs H Q E O=>by obtain⟨F,ws,_,_,_,r,hl,_⟩:=O;rw[<-r.length];exact hl) λA b s H vs Q E hr _ O=>?_;obtain⟨F,ws,th,l,sm,r,hl,re,hF,p⟩:=O;let B0:Bx:=⟨K,hol l H,F,λ_ _ _=>False,λ_ _ _ _ _ h=>h⟩;let R:Bx:=B0.pJ (λc _ X=>∀C I i j,av X j->RB B0 j i->XR K j c C I->E (.ref C) I i) λc σ X F2 s h C I i j U=>h C I i j (s.trans U);have e0:fzS (hol l H) H l=H:=by
  funext y;by_cases G:y∈l;.rw[eI G]
  .rw[aX G,kO G]
 have R0:RX M R th l (ws.map .va++List.replicate (N.length-ws.length) .no) (L2.start N vs) F H:=⟨(RS.start (N:=N) sm r (by omega)).box (B':=kd R H l) rfl e0 rfl,λy G=>⟨hF y G,amV G⟩,re⟩;refine⟨_,h g A b s H E R rfl hr (λa1 a3 H1 s1 σ X c R1 xp e C I T fl t xr=>kK t (xp C I H1 X (av.refl _) (R1.rb.box rfl rfl) xr)) atO,_,F,th,l,R0,?_⟩;have bs:∀{j i:Hp}{u:List Addr},RB (kd R i u) j i->(∀y∈u,j y=none/\R.H0 y=none)->av (hol l H) i/\∀a o,j a=some o->F a=some o\/hol l H a=none/\NF o:=λ{j i u}D fr=>⟨λy o q=>by
 have G:y∉u:=λz=>by rw[show hol l H y=none from(fr y z).2]at q;cases q
 exact D.base y o (by show fzS (hol l H) i u y=some o;rw[aX G];exact q),λy o q=>by
 rcases D.fr y o q with z|⟨z,nf⟩;.exact .inl z
 .have G:y∉u:=λz2=>by rw[(fr y z2).1]at q;cases q
  have z:fzS (hol l H) i u y=none:=z;rw[aX G]at z;exact .inr ⟨z,nf⟩⟩;unfold WL.runM at p;cases e:t (ws.map .va++List.replicate (N.length-ws.length) .no) th with|rt w U=>rw[e]at p;exact λv i j u D fr Y k r'=>p v i j u k D.sub (bs D fr).1 fr Y (bs D fr).2 r'|nx σ' U=>rw[e]at p;exact λa2 i j u J k=>p i j u k J.rs.rb.sub (bs J.rs.rb J.fr).1 J.fr J.re (bs J.rs.rb J.fr).2|bk σ' U|ct σ' U=>rw[e]at p;exact p.elim|ex c σ'=>rw[e]at p;exact λC I i j k D xr=>p C I i j k D.sub D.base D.fr xr|bad=>rw[e]at p;exact p.elim
end
variable{S:Type}
section
variable{M:Rsc S}{B:Bx}{s s':S}{l l':List Addr}{σ:Ws}{σV:L2.St}{F H F' H':Hp}
def RX.out(R:RX M B s l σ σV F H)(k1:av F F')(k2:av F' H')(k3:av (hol l H) H')(r:∀a o,F' a=some o->F a=some o\/hol l H a=none/\NF o):RS B σ σV F' H'/\∀a,hol l H a=none->B.H0 a=none:=by
 have h:=R.there;have c:RS B σ σV F H:=R.rs.al0 (λy Q=>(R.fr y Q).2) h;have t:∀a,hol l H a=none->B.H0 a=none:=λa z=>by
  by_cases p:a∈l;.exact(R.fr a p).2
  .rw[kO p]at z;exact c.rb.base.free z
 have vy:∀{b:Addr}{o:HO},H b=some o->F b=none->b∉l->F' b=none/\H' b=some o:=λ{b o}n P m=>by refine⟨?_,k3 b o (by rw[kO m];exact n)⟩;cases e:F' b with|none=>rfl|some u=>
   rcases r b u e with z|⟨z,_⟩;.rw[P]at z;cases z
   .rw[kO m,n]at z;cases z
 refine⟨⟨⟨k2,λx o q=>k3 x o ?_,c.rb.fz0.trans k1,λa o q=>?_⟩,c.len,λi w q=>?_,λi ws q=>?_,c.ap,c.dd.via rfl id (λ_ _ z=>.inl z) (λ_ _ _ q=>⟨q,rfl⟩) k1 λi K N b D E k A I C=>?_⟩,t⟩;.rw[kO λz=>by rw[(R.fr x z).2]at q;cases q];exact c.rb.base x o q
 .rcases r a o q with z|⟨z,J⟩;.exact c.rb.fr a o z
  .exact .inr ⟨t a z,J⟩
 .obtain⟨v,f,g⟩:=c.va i w q;exact⟨v,f,g.keep k1⟩
 .refine ke (c.ow i ws q) λb T f g X O U=>?_;refine my (R.rs.ow i ws q) λG _ d _ j _=>?_;rw[f]at d;cases d;have:=vy O g (nL (B:=B) h j);exact zm b T f this.1 X this.2 (U.keep k1)
 .refine my (R.rs.dd.od i K N E) λG _ d _ j _=>?_;have k:σV[i]?=some (some (.ref b)):=k;rw[k]at d;cases d;have:=vy A I (nL (B:=B) h j);exact⟨this.1,C,this.2⟩
def RX.hand(R:RX M B s l σ σV F H)(k1:av F F')(k2:av F' H')(k3:av (hol l H) H')(fr:∀x∈l',F' x=none/\hol l H x=none)(p:M.rel B.K s' l' F' H')(u:∀a o,F' a=some o->F a=some o\/hol l H a=none/\NF o):RX M B s' l' σ σV F' H':=by
 obtain⟨v,m⟩:=R.out k1 k2 k3 u;have k:=R.there;have j:∀{b}{o},H b=some o->b∉l->b∉l':=λ{b o}r q z=>by have:=(fr b z).2;rw[kO q,r]at this;cases this
 refine⟨v.inS (λx c=>(fr x c).1) (λi ws x h g=>?_) λx c i t n h g=>?_,λx c=>⟨(fr x c).1,m x (fr x c).2⟩,p⟩;.refine ke (R.rs.ow i ws h) λb _ d _ e f _=>?_;rw[g]at d;cases d;exact j f (nL k e)
 .refine ke (R.rs.dd.od i t n h) λb _ d _ e f _=>?_;rw[g]at d;cases d;exact j f (nL k e) c
variable{X:Cx}{D:Ends}{j k n:Nat}{f C:Addr}{fd:FuncData}{ps:List Str}{fn:List VW->S->OX S}{tas:AF}{e o:Expr}{es:List Expr}{m:Str}{apos cpos pos:Pos}
set_option tactic.hygienic true
def ah2(i:B.K=X.K)(Q:XW X B)(cl:Cls X.K C)(hm:Meth X.K C m f)(G:FnOk X.prog X.w X.K X.mg X.base (CXX X.prog X.w) k f fd ps (spM M X.K n fn))(hr:Room k X.A)(hb:Binds X.K fd ps [])(E:∀s l F H,av F H->M.rel X.K s l F H->∃Z fs,H (M.adr s)=some (.ins C Z fs)/\fs.lookup m=none)(ho:PE X o (fE j))(ha:∀B',B'.K=X.K->PA X (e::es) (loA B' tas))(hn:∀σ ws,tas σ=.ok ws->ws.length+1=n)(P:∀t,PA X (e::es) t->PE X (.Call (.Attribute o m apos) (e::es) [] cpos) (sJ X C m (spM M X.K n fn) [] (fE j) t))(hs:swapsWith (.Call (.Attribute o m apos) (e::es) [] cpos) none pos.line X.env=pure false:=by rfl):PS X (.Expr (.Call (.Attribute o m apos) (e::es) [] cpos) pos) (loX M B (WL.gM M.adr j fn tas)):=by
 intro J sh σV H D I⟨σ,F,s,l,R,q⟩;refine fu (P _ (ha (kd B H l) i)) hs J sh σV H D I ?_;unfold WL.gM at q;split at q
 .rename_i b eb;split at q
  .rename_i O;subst O;split at q
   .rename_i ws ew;obtain⟨v,h1,h2⟩:=R.rs.va j _ eb;subst h2;obtain⟨Z,fs,hi,hl⟩:=E s l F H R.rs.rb.sub (i▸R.re);refine⟨_,h1,M.adr s,Z,fs,rfl,hi,hl,σ,F,R.rs,?_⟩;rw[ew];intro vs H1 F1 R1 N r1;have d:RX M B s l σ σV F1 H1:=R.next R1 N.f;have a1:X.K=B.K:=i.symm;rw[asl];refine⟨λCv g H'=>∃y F' c a,Cv=.ref y/\RS B a σV F' H'/\B.xp c a F'/\XR X.K F' c y g,⟨F1,.id (M.adr s)::ws,s,l,R1.rb.sub,.cons (by simp only[RW]) (i▸r1),by rw[ar1];exact hn σ ws ew,i▸d.re,λx Q=>(d.fr x Q).1,?_⟩,?_⟩;.cases u:fn (.id (M.adr s)::ws) s with|nx a s'=>rw[u]at q;exact λH' F' l' h z K fr U A=>(show∀a0 H' F' l',_ from q) σV H' F' l' (d.hand h z K fr (i▸U) A) (N.f.trans h)|rt w s'=>rw[u]at q;exact λv H' F' l' h z K fr U A r=>q σV H' F' l' (d.hand h z K fr (i▸U) A) (N.f.trans h)|ex c a=>rw[u]at q;intro y g H' F' h z K A Y;have q:B.xp c σ F:=q;refine⟨y,F',c,σ,rfl,?_,B.mono c σ F F' (N.f.trans h) q,Y⟩;exact(d.out h z K A).1|bk a s'=>rw[u]at q;exact(show False from q).elim|ct a s'=>rw[u]at q;exact(show False from q).elim|bad=>rw[u]at q;exact(show False from q).elim
    .rintro p s' e' C' g T H' t⟨y,F',c,a,ec,R',xp,Y⟩;cases ec;exact Q p σV H' s' a F' c R' xp e' C' g (some T) .none t Y
   .exact(show False from q).elim
  .exact(show False from q).elim
 .exact(show False from q).elim
set_option tactic.hygienic false
end
variable{S:Type}
section
variable{M:Rsc S}{B:Bx}{s:S}{l:List Addr}{σ:Ws}{σV:L2.St}{F H:Hp}{a:Addr}{kvs:List (Key×V)}{od:Obj}
theorem RX.fz(R:RX M B s l σ σV F H)(e:F a=some (.dK kvs)):RX M (B.fz a od kvs) s l σ σV (upd F a (zD od kvs)) (upd H a (zD od kvs)):=by
 have d:∀x∈l,x≠a:=λx b z=>by rw[z]at b;rw[(R.fr a b).1]at e;cases e
 have f:(kd B H l).fz a od kvs=kd (B.fz a od kvs) (upd H a (zD od kvs)) l:=by
  have:upd (fzS B.H0 H l) a (zD od kvs)=fzS (upd B.H0 a (zD od kvs)) (upd H a (zD od kvs)) l:=by
   funext x;by_cases b:x∈l;.rw[ag (d x b),eI b,eI b,ag (d x b)]
   .rw[aX b];by_cases c:x=a;.subst c;rw[ao,ao]
    .rw[ag c,ag c,aX b]
  simp [Bx.fz,this]
 refine⟨f▸R.rs.fz e,λx b=>⟨?_,?_⟩,M.fz R.re (λx b=>(R.fr x b).1) e⟩;.rw[ag (d x b)];exact(R.fr x b).1
 .show upd B.H0 a _ x=none;rw[ag (d x b)];exact(R.fr x b).2
def ahq(f:RB (kd (B.fz a od kvs) H l) F H)(fr:∀x∈l,F x=none/\(B.fz a od kvs).H0 x=none)(h:M.rel B.K s l F H)(w:Was B a kvs):F a=some (zD od kvs)/\H a=some (zD od kvs)/\kd (B.fz a od kvs) H l=(kd B (upd H a (.dK kvs)) l).fz a od kvs/\Was (kd B (upd H a (.dK kvs)) l) a kvs/\(∀x∈l,upd F a (.dK kvs) x=none/\B.H0 x=none)/\M.rel B.K s l (upd F a (.dK kvs)) (upd H a (.dK kvs)):=by
 have e:=f.fz0 a _ (by show upd B.F0 a (zD od kvs) a=_;rw[ao]);have d:∀x∈l,x≠a:=λx b z=>by grind
 have g:a∉l:=λz=>d a z rfl;refine⟨e,f.sub a _ e,?_,⟨w.1.imp id λz=>⟨?_,z.2⟩,?_⟩,λx b=>⟨?_,?_⟩,M.th h (λx b=>(fr x b).1) e⟩
 .have:fzS (upd B.H0 a (zD od kvs)) H l=upd (fzS B.H0 (upd H a (.dK kvs)) l) a (zD od kvs):=by
   funext x;by_cases b:x∈l;.rw[ag (d x b),eI b,eI b,ag (d x b)]
   .rw[aX b];by_cases c:x=a;.subst c;rw[ao,ao]
    .rw[ag c,ag c,aX b]
  simp only[kd,Bx.fz,this]
 .show fzS B.H0 _ l a=none;rw[aX g];exact z.1
 .show fzS B.H0 _ l a=none\/fzS B.H0 _ l a=_;rw[aX g];exact w.2
 .rw[ag (d x b)];exact(fr x b).1
 .have:=(fr x b).2;have this:upd B.H0 a (zD od kvs) x=none:=this;rwa[ag (d x b)]at this
theorem RX.th(R:RX M (B.fz a od kvs) s l σ σV F H)(w:Was B a kvs):F a=some (zD od kvs)/\H a=some (zD od kvs)/\RX M B s l σ σV (upd F a (.dK kvs)) (upd H a (.dK kvs)):=by obtain⟨d,c,e,g,fr,f⟩:=ahq R.rs.rb R.fr R.re w;have b:=R.rs;rw[e]at b;exact⟨d,c,b.th g,fr,f⟩
theorem OqX.fz{D}(e:F a=some (.dK kvs))(w:Was B a kvs){o}(h:OqX M B D F o):OqX M (B.fz a od kvs) (ajS D a od kvs) (upd F a (zD od kvs)) o:=by
 have bk:∀{g},av (upd F a (zD od kvs)) g->av F _:=λs=>by have:=vF (o':=.dK kvs) s;rwa[pL e]at this
 cases o with|nx σ s|bk σ s|ct σ s=>exact λσV H G l R z=>⟨(R.th w).2.1,h _ _ _ l (R.th w).2.2 (bk z)⟩|rt u s=>intro v H G l d fr i z r;obtain⟨m,k,n,j,f,b⟩:=ahq d fr i w;rw[n]at d;exact⟨k,h v _ _ l (d.th j).2.2 f b (bk z) (r.th m)⟩|ex c σ=>show B.xp c σ _;rw[vt,pL e];exact h|bad=>exact h
variable{X:Cx}{tg e:Expr}{body:List Stmt}{b:RF S}{i k:Nat}{pos:Pos}
set_option tactic.hygienic true
def ah4(hK:B.K=X.K)(hp:PassesOwn (model X.prog X.w) X.A X.env X.xe)(hc:X.calm=true)(hx:XW X B)(hl:PE X e (fE i))(hg:PG X tg (L2.ax k))(hb:∀u,u.K=X.K->XW X u->PSs X body (loX M u b))(hs:∀x,foldedSetIterable e X.env x=pure x:=by intro _;rfl):PS X (.For tg e body [] pos) (loX M B (WL.ah6 i k b)):=by
 intro n K σV H D I⟨σ,F,s,l,R,q⟩;have E:∀(u:Bx)(O:Ends)(n:List (Addr×Obj))(K:Shared)(U A:Hp)(g:List VW)(a:Addr)(od:Obj)(kvs:List (Key×V)),u.K=X.K->XW X u->Inv X n σV U K->RX M u s l σ σV A U->σV[i]?=some (some (.ref a))->A a=some (zD od kvs)->RWs u.K A g (kvs.map λp=>kV p.1)->OqX M u O A (WL.iW k b g σ s)->wpAny (model X.prog X.w) X.A (exec (.For tg e body [] pos) X.env) (SP X n O) X.xe K:=by
  intro u O n K U A g a od kvs a0 a2 I' R' T e3 rk q';refine yd (wi:=λσV H R=>∃J,R J H/\J=Itd a od kvs/\σV[i]?=some (some (.ref a))/\H a=some (zD od kvs)) hp hc (PI.imp (vN hl) λσV H R a1=>by obtain⟨J,r,ej,T,e3⟩:=a1;exact⟨.ref a,T,a,od,kvs,rfl,e3,by rw[<-ej];exact r⟩) hg (hb u a0 a2) hs n K σV U O I' ?_;refine⟨_,?_,rfl,T,R'.rs.rb.sub _ _ e3⟩;have wk:Walk u.K (Itd a od kvs) g A:=mJ e3 rk;refine⟨λj m t Y=>m=g.length-j/\j<=g.length/\∃y C P Z,RX M u P Z y t C Y/\av A C/\OqX M u O C (WL.iW k b (g.drop j) y P),⟨g.length,rfl,asr _,σ,A,s,l,R',av.refl _,by rw[atU];exact q'⟩,?_⟩;rintro j m t Y⟨rfl,hj,y,C,P,Z,R1,k1,z⟩;by_cases N:j<g.length;.have hd:g.drop j=g[j]::g.drop (j+1):=asu N;rw[hd]at z;obtain⟨go,yl⟩:=wk.go j g[j] (arQ N) C Y k1 R1.rs.rb.sub;refine .inr ⟨go,_,λd H2 h2=>⟨g.length-(j+1),by omega,rfl,N,h2⟩,λv H2 hy=>?_⟩;obtain⟨F2,E2,r2⟩:=yl v H2 hy;have R2:RX M u P Z y t F2 H2:=R1.next (E2.rs _ _ _ R1.rs) E2.same;refine⟨y.set k (.va g[j]),F2,P,Z,⟨R2.rs.set r2,R2.fr,R2.re⟩,?_⟩;have z:OqX M u O C (match b (y.set k (.va g[j])) P with|.nx d s2=>WL.iW k b (g.drop (j+1)) d s2|.ct d s2=>WL.iW k b (g.drop (j+1)) d s2|.bk d s2=>.nx d s2|o=>o):=z;have k3:av C F2:=E2.same;cases Q:b (y.set k (.va g[j])) P with|nx d s2|ct d s2=>rw[Q]at z;exact λG H4 F4 l4 R4 k4=>⟨d,F4,s2,l4,R4,(k1.trans k3).trans k4,OqX.mono (k3.trans k4) z⟩|bk d s2=>rw[Q]at z;exact λG H4 F4 l4 R4 k4=>(show∀t U A l',_ from z) G H4 F4 l4 R4 (k3.trans k4)|rt w s2|ex c d=>rw[Q]at z;exact OqX.mono (D:=O) k3 z|bad=>rw[Q]at z;exact z
  .have ei:j=g.length:=by omega
   subst ei;rw[atx]at z;exact .inl ⟨wk.stop C Y k1 R1.rs.rb.sub,(show∀t U A l',_ from z) t Y C Z R1 (av.refl _)⟩
 unfold WL.ah6 at q;split at q
 .rename_i g us Q;obtain⟨v,T,r2⟩:=R.rs.va i _ Q;simp only[RW]at r2;obtain⟨a,kvs,rfl,rd,rk,ru⟩:=r2;rcases rd with rd|⟨od,rd⟩;.obtain⟨od,I',hn⟩:=I.ajJ (R.rs.rb.sub _ _ rd);have R0:RB B F H:=(R.rs.al0 (λx hx=>(R.fr x hx).2) R.there).rb;have w:=R0.was rd;exact thn (E (B.fz a od kvs) (ajS D a od kvs) n K _ _ g a od kvs hK (hx.fz w hn) I' (R.fz rd) T ao (rk.fz rd) (q.fz rd w)) λf s h=>aiH hn f s h
  .exact E B D n K H F g a od kvs hK hx I R T rd rk q
 .exact(show False from q).elim
set_option tactic.hygienic false
end
end WS
set_option autoImplicit true
set_option relaxedAutoImplicit true
namespace L2
open PySem PySem.Spec PyProof.Rows WS
section
variable{K:W.Frag}{F F' H:Hp}
def FKy.via{k a}(h:FKy K F k a)(s:∀b c,SqT K F b c->SqT K F' b c):FKy K F' k a:=by obtain⟨bs,e,d⟩:=h;exact⟨bs,s _ _ e,Paired.an6 d λ_ _ z=>s _ _ z⟩
def FKy.keep{k a}(h:FKy K F k a)(s:av F F'):FKy K F' k a:=h.via λ_ _ z=>s.tup z
end
end L2
namespace WS
open PySem PySem.Spec PyProof.Rows L2
open WL(Res Sl Ws EF TF AF LF GF GsF SF Out Fs KO KF OX RF Sr)
section
variable{K:W.Frag}{F F' H:Hp}
theorem adl:∀{ws:List VW}{x vs},WL.adn ws=some x->RWs K F ws vs->vs=x.map V.int|[],_,_,e,r=>by cases e;rw[r];rfl|.int i::ws,_,_,e,r=>by simp [WL.adn]at e;obtain⟨y,e,rfl⟩:=e;obtain⟨_,a,rfl,rfl,h⟩:=r;rw[arZ,adl e h]|.non::_,_,_,e,_|.bl _::_,_,_,e,_|.str _::_,_,_,e,_|.ty _::_,_,_,e,_|.tup _::_,_,_,e,_|.lst _::_,_,_,e,_|.dic _ _::_,_,_,e,_|.cls _::_,_,_,e,_|.exc _ _::_,_,_,e,_|.ins _ _::_,_,_,e,_|.id _::_,_,_,e,_=>by cases e
theorem ac9:∀{ws:List VW}{x:aeS}{vs},WL.amC ws=some x->RWs K F ws vs->∃bs,vs=bs.map V.ref/\Paired (λx b=>SqT K F b (x.map V.int)) x bs|[],_,_,e,r=>by cases e;exact⟨[],r,.nil⟩|.tup us::ws,_,_,e,r=>by simp [WL.amC,Option.bind_eq_some_iff]at e;obtain⟨y,g,z,d,rfl⟩:=e;obtain⟨_,i,rfl,⟨a,vs,rfl,f,c⟩,h⟩:=r;obtain⟨bs,rfl,p⟩:=ac9 d h;refine⟨_,rfl,.cons ?_ p⟩;rw[<-adl g c];exact f|.int _::_,_,_,e,_|.non::_,_,_,e,_|.bl _::_,_,_,e,_|.str _::_,_,_,e,_|.ty _::_,_,_,e,_|.lst _::_,_,_,e,_|.dic _ _::_,_,_,e,_|.cls _::_,_,_,e,_|.exc _ _::_,_,_,e,_|.ins _ _::_,_,_,e,_|.id _::_,_,_,e,_=>by cases e
def ahI{w:VW}{k:aeS}{v}(e:WL.kyW w=some k)(r:RW K F w v):∃a,v=.ref a/\FKy K F k a:=by
 unfold WL.kyW at e;split at e;.refine iH r λa f b d c=>?_;subst b;obtain⟨bs,rfl,p⟩:=ac9 e c;exact⟨a,rfl,bs,d,p⟩
 .cases e
end
noncomputable abbrev sfs(g m:V)(r d:Addr):List (Str×V):=[("goal",g),("most",m),("rows",.ref r),("seen",.ref d)]
def xY{g m r d}:(sfs g m r d).lookup ("seen":Str)=some (V.ref d):=rfl
def xZ :(sfs g m r d).lookup ("rows":Str)=some (V.ref r):=rfl
structure SRel(P:Program)(w:World)(K:W.Frag)(s:Sr)(F H:Hp)(C dx r:Addr)(g m:V)(vs:List V)(xs:List (aeS×Addr)):Prop where
 ns:W.nsIn K mainGlobals (Str.ofString "Search")=some (some (.ref C))at_:F s.a=some (.ins C dx (sfs g m r s.d))go:RW K F s.goal g
 mo:RW K F s.most m
 ro:H r=some (.lst vs)rs:RWs K F s.rows vs
 se:H s.d=some (FD P w s.d xs)ks:xs.map (·.1)=s.seen
 ky:∀x∈xs,FKy K F x.1 x.2
def ari(P:Program)(w:World)(K:W.Frag)(s:Sr)(l:List Addr)(F H:Hp):Prop:=∃C c r g m a b,l=[r,s.d]/\SRel P w K s F H C c r g m a b
def srM(P:Program)(w:World):Rsc Sr where
 adr:=Sr.a;rel:=ari P w;val:=Sr.val;mono:=λh0_ k h=>by obtain⟨C,dx,r,g,m,vs,xs,el,R⟩:=h0_;subst el;exact⟨C,dx,r,g,m,vs,xs,rfl,R.ns,k _ _ R.at_,R.go.keep k,R.mo.keep k,h r (by simp) _ R.ro,R.rs.keep k,h _ (by simp) _ R.se,R.ks,λx hx=>(R.ky x hx).keep k⟩
 there:=λh0_ x hx=>by
  obtain⟨C,dx,r,g,m,vs,xs,el,R⟩:=h0_;subst el;simp only[ar4,atv,or_false]at hx;rcases hx with rfl|rfl;.exact⟨_,R.ro,trivial,λ_ z=>nomatch z⟩
  .exact⟨_,R.se,trivial,λ_ z=>nomatch z⟩
 fz:=λ{K s l F H a od kvs}h0_ hF e=>by
  obtain⟨C,dx,r,g,m,vs,xs,el,R⟩:=h0_;subst el;have n1:r≠a:=λz=>by have:=hF r (by simp);rw[z,e]at this;cases this
  have n2:s.d≠a:=λz=>by have:=hF s.d (by simp);rw[z,e]at this;cases this
  have n3:s.a≠a:=λz=>by have:=R.at_;rw[z,e]at this;cases this
  exact⟨C,dx,r,g,m,vs,xs,rfl,R.ns,by rw[ag n3];exact R.at_,R.go.fz e,R.mo.fz e,by rw[ag n1];exact R.ro,R.rs.fz e,by rw[ag n2];exact R.se,R.ks,λx hx=>(R.ky x hx).via λ_ _ q=>xV e (λ_ z=>nomatch z) (λ_ _ z=>nomatch z) q⟩
 th:=λ{K s l F H a od kvs}h0_ hF e=>by
  obtain⟨C,dx,r,g,m,vs,xs,el,R⟩:=h0_;subst el;have n1:r≠a:=λz=>by have:=hF r (by simp);rw[z,e]at this;cases this
  have n2:s.d≠a:=λz=>by have:=hF s.d (by simp);rw[z,e]at this;cases this
  have n3:s.a≠a:=λz=>by have:=R.at_;rw[z,e]at this;cases this
  exact⟨C,dx,r,g,m,vs,xs,rfl,R.ns,by rw[ag n3];exact R.at_,R.go.th e,R.mo.th e,by rw[ag n1];exact R.ro,R.rs.th e,by rw[ag n2];exact R.se,R.ks,λx hx=>(R.ky x hx).via λ_ _ q=>xV e (λ_ z=>nomatch z) (λ_ _ z=>nomatch z) q⟩
 rw:=λ{K s l F H F'}h0_ k h=>by obtain⟨C,dx,r,g,m,vs,xs,el,R⟩:=h0_;subst el;unfold WL.Sr.val;simp only[RW,RWs];exact⟨s.a,C,dx,sfs g m r s.d,rfl,k _ _ R.at_,R.ns,rfl,List.cons_ne_nil _ _,g,_,rfl,R.go.keep k,m,_,rfl,R.mo.keep k,.ref r,_,rfl,⟨r,vs,rfl,SqL.of (h r (by simp) _ R.ro),R.rs.keep k⟩,.ref s.d,_,rfl,rfl,rfl⟩
section
variable{P:Program}{w:World}{B:Bx}{s:Sr}{l:List Addr}{σ:Ws}{σV:L2.St}{F H:Hp}{D:Ends}{X:Cx}{i j:Nat}{st:Stmt}{c:Expr}{ss ss':List Stmt}{t1 t2:RF Sr}{pos:Pos}
set_option tactic.hygienic true
theorem OqX.at_{M o}(q:OqX M B D F (WL.at_ j σ s o)):σ[j]?=some (.va (.id s.a))/\OqX M B D F o:=by
 unfold WL.at_ at q;split at q
 .rename_i b e;split at q;.rename_i a;subst a;exact⟨e,q⟩
  .exact(q).elim
 .exact(q).elim
set_option tactic.hygienic false
def RX.self{M}(R:RX M B s l σ σV F H)(e:σ[j]?=some (.va (.id s.a))):σV[j]?=some (some (.ref s.a)):=by obtain⟨v,b,a⟩:=R.rs.va j _ e;rw[b,a]
abbrev arn(P:Program)(w:World)(K:W.Frag):R2:=λx y H Q=>∃d a b k,x=.ref a/\y=.ref d/\H d=some (FD P w d b)/\FKy K H k a/\(∀x∈b,FKy K H x.1 x.2)/\Q (.bl (decide (k∈b.map (·.1)))) H
set_option tactic.hygienic true
def ah3(o:B.K=X.K)(p:∀C,W.nsIn X.K mainGlobals (Str.ofString "Search")=some (some (.ref C))->Cls X.K C/\aW X.K C "seen")(K:PT X c (afv (tOp (arn X.prog X.w X.K) (fE i) (alk X.K (fE 0) "seen"))))(G:PSs X ss (loX (srM X.prog X.w) B t1))(h:PSs X ss' (loX (srM X.prog X.w) B t2)):PS X (.If c ss ss' pos) (loX (srM X.prog X.w) B (WL.xIf (WL.xIn i) t1 t2)):=PS.imp (ai5 K G h) λD σV H n=>by
 refine agY n λσ F s l R q=>?_;refine de (OqX.ifB q) λv d q=>?_;unfold WL.xIn at d;split at d
 .rename_i b z;split at d
  .rename_i h;subst h;split at d
   .rename_i Y E;split at d
    .rename_i k t;cases d;have M:=R.self z;refine de (R.rs.va i _ E) λT y u=>?_;refine de (ahI t u) λa e N=>?_;subst e;refine akJ R.re λC Q r g m U A e S=>?_;subst e;obtain⟨cl,J⟩:=p C (o▸S.ns);have O:=λx I=>o▸(S.ky x I).keep R.rs.rb.sub;refine⟨.ref a,y,.ref s.a,M,s.a,C,Q,_,.ref s.d,rfl,R.rs.rb.sub _ _ S.at_,cl,J,xY,s.d,a,A,k,rfl,rfl,S.se,o▸FKy.keep N R.rs.rb.sub,O,_,rfl,?_⟩;rw[S.ks];by_cases f:k∈s.seen;.rw[aso f]at q⊢;exact⟨σ,F,s,_,R,q⟩
     .rw[ar6 f]at q⊢;exact⟨σ,F,s,_,R,q⟩
    .cases d
   .cases d
  .cases d
 .cases d
def ah1(n:B.K=X.K)(o:∀C,W.nsIn X.K mainGlobals (Str.ofString "Search")=some (some (.ref C))->Cls X.K C/\aW X.K C "seen")(h:PS X st (alx (alk X.K (fE 0) "seen") (fE i) X.prog X.w X.K)):PS X st (loX (srM X.prog X.w) B (WL.zp i)):=PS.imp h λD σV H e=>by
 refine agY e λσ F s l R q=>?_;obtain⟨J,q⟩:=OqX.at_ q;split at q
 .rename_i U K;split at q
  .rename_i k A;split at q
   .rename_i v;have N:=R.self J;refine de (R.rs.va i _ K) λT I E=>?_;refine de (ahI A E) λa p t=>?_;subst p;refine akJ R.re λC y r g m O d u S=>?_;obtain⟨cl,M⟩:=o C (n▸S.ns);have Q:d.length=s.seen.length:=by rw[<-S.ks,ar7]
    refine⟨.ref s.a,N,s.a,C,y,_,.ref s.d,rfl,R.rs.rb.sub _ _ S.at_,cl,M,xY,.ref a,I,s.d,a,d,k,rfl,rfl,S.se,n▸FKy.keep t R.rs.rb.sub,λx b=>n▸(S.ky x b).keep R.rs.rb.sub,by rw[S.ks];exact v.1,by rw[Q];exact arS v.2 dM,?_⟩;have G:s.d∈l:=by rw[u];simp
    have f:r≠s.d:=λz=>by have:=S.ro;rw[z,S.se]at this;cases this
    refine q σV _ F l (R.write G ?_) (av.refl _);refine⟨C,y,r,g,m,O,d++[(k,a)],u,S.ns,S.at_,S.go,S.mo,by rw[ag f];exact S.ro,S.rs,ao,by rw[asZ,S.ks];rfl,λx b=>?_⟩;rcases ass.mp b with b|b;.exact S.ky x b
    .rw[asn.mp b];exact t
   .exact(q).elim
  .exact(q).elim
 .exact(q).elim
set_option tactic.hygienic false
def ah5{k}(p:B.K=X.K)(e:∀C,W.nsIn X.K mainGlobals (Str.ofString "Search")=some (some (.ref C))->Cls X.K C/\aW X.K C "rows")(h:∀o,o.K=X.K->PS X st (zB (tBM X.K "list" qW (alk X.K (fE 0) "rows") (m6 (lo o k) abz)))):PS X st (loX (srM X.prog X.w) B (WL.ah7 k)):=by
 intro b A σV H D I⟨σ,F,s,l,R,q⟩;refine h (kd B H l) p b A σV H D I ?_;obtain⟨E,q⟩:=OqX.at_ q;split at q
 .rename_i w O;split at q
  .rename_i y;have N:=R.self E;refine akJ R.re λC t r g m f G n S=>?_;obtain⟨cl,M⟩:=e C (p▸S.ns);refine⟨.ref s.a,N,s.a,C,t,_,.ref r,rfl,R.rs.rb.sub _ _ S.at_,cl,M,xZ,.inl ⟨rfl,f,SqL.of S.ro⟩,σ,F,R.rs,?_⟩;rw[O];intro v U u T a J;have R2:=R.next T a.f;refine aki r f v rfl rfl (a.h _ _ S.ro) (by rw[<-S.rs.length];exact arS y dM) ?_;have Q:r∈l:=by rw[n];simp
   have d:s.d≠r:=λz=>by have:=S.ro;rw[<-z,S.se]at this;cases this
   refine q σV _ u l (R2.write Q ?_) a.f;exact⟨C,t,r,g,m,f++[v],G,n,S.ns,a.f _ _ S.at_,S.go.keep a.f,S.mo.keep a.f,ao,(S.rs.keep a.f).app (.one J),by rw[ag d];exact a.h _ _ S.se,S.ks,λx K=>(S.ky x K).keep a.f⟩
  .exact(q).elim
 .exact(q).elim
end
end WS
set_option autoImplicit true
set_option relaxedAutoImplicit true
namespace WS
open PySem PySem.Spec PyProof.Rows L2
open WL(Res Sl Ws EF TF AF LF GF GsF SF Out Fs KO KF OX RF Sr)
theorem ac0 :∀{fs:List (Str×V)}{n:Nat},(fs.map (·.1)).Nodup->fs[n]?=some (f,v)->fs.lookup f=some v
|[],_,_,e=>by simp at e|(g,u)::fs,0,_,e=>by grind|(g,u)::fs,n+1,nd,e=>by
 simp only[arZ,as5]at nd;have a:=by simpa using e
 have b:(f==g)=false:=asH.mpr λz=>nd.1 (z▸ase.mpr ⟨(f,v),asv a,rfl⟩);simp only[List.lookup,b];exact ac0 nd.2 a
def acZ:∀{fs:List (Str×V)},f∉fs.map (·.1)->fs.lookup f=none|[],_=>rfl|(g,u)::fs,h=>by grind
section
variable{X:Cx}{B:Bx}{fl m:Str}{c:String}{C f:Addr}{fd:FuncData}{ps:List Str}{k n:Nat}{fn:List VW->Res VW}{e o:Expr}{es:List Expr}{to:EF}{tas:AF}{pos:Pos}
set_option tactic.hygienic true
def iX(J:X.K=B.K)(E:W.nsIn X.K mainGlobals (Str.ofString c)=some (some (.ref C)))(cl:Cls X.K C)(O:aW X.K C fl)(nd:(WL.l6 c).Nodup)(p:(WL.l6 c)[n]?=some fl)(N:PE X o (lo B to))(K:attributeBase o fl X.env (eval o X.env)=eval o X.env:=by rfl):PE X (.Attribute o fl pos) (lo B (WL.kZ c n to)):=PE.imp (nJ N K) λI H Q j=>by
 obtain⟨U,F,R,q⟩:=j;have q:=Rq.bind q;refine⟨U,F,R,Rq.mono (av.refl _) q λy b v P A z G i=>?_⟩;unfold WL.am8 at b;split at b
 .rename_i c' ws;split at b
  .rename_i d;have d:=eq_of_beq d;subst d;split at b
   .rename_i w T;simp only[RW]at i;obtain⟨a,C',Y,S,rfl,M,t,s,_,r⟩:=i;rw[<-J,E]at t;cases t;obtain⟨Z,h,i⟩:=r.get T;rw[ar3,asf]at h;obtain⟨⟨g,x⟩,u,rfl⟩:=h;have D:g=fl:=by have:=ats (λl=>l[n]?) s;simp only[ar3,u,p,Option.map_some]at this;exact asd this
    subst D;exact⟨a,C,Y,_,x,rfl,z.rb.sub _ _ M,cl,O,ac0 (by rw[s];exact nd) u,b x P A z G i⟩
   .exact(b).elim
  .exact(b).elim
 .exact(b).elim
set_option tactic.hygienic false
def agf (s:X.K=B.K)(J:XW X B)(D:W.nsIn X.K mainGlobals (Str.ofString c)=some (some (.ref C)))(l:m∉WL.l6 c)(M:∀g ws,tas g=.ok ws->ws.length+1=n):∀d H Q,lo B (WL.iS c fn to tas) d H Q->sJ X C m (spX X.K n fn) [] (lo B to) (loA B tas) d H Q:=by
 intro d H Q⟨g,F,R,q⟩;have q:=Rq.bind q;refine⟨g,F,R,Rq.mono (av.refl _) q λy b v Y w x t A=>?_⟩;by_cases h:WL.isN c y=true
 .rw[arM h]at b;have b:=Rq.bind b;obtain⟨u,rfl⟩:∃u,y=.ins c u:=by
   unfold WL.isN at h;split at h;.rw[eq_of_beq h];exact⟨_,rfl⟩
   .cases h
  have i:=A;simp only[RW]at i;refine anD i λa T N K p I z E _ _=>?_;subst p;rw[<-s,D]at z;cases z;refine⟨a,N,_,rfl,x.rb.sub _ _ I,acZ (by rw[E];exact l),g,w,x,?_⟩;cases j:tas g with|bad=>rw[j]at b;exact b|ex c=>rw[j]at b;exact B.mono c g F w t.f b|ok ws=>rw[j]at b;exact λU S P O r G=>me s J O (t.trans r) (.cons (A.keep r.f) G) (by rw[ar1];exact M g ws j) b (by rw[asl])
 .rw[arO h]at b;exact(b).elim
def aqP  (K:B.K=X.K)(J:Room j X.A)(A:XW X B)(t:W.nsIn X.K mainGlobals (Str.ofString c)=some (some (.ref C)))(cl:Cls X.K C)(G:aaS X.prog X.w X.K X.mg X.base k C g m ps (spX X.K 1 fn))(D:PE X o (lo B to))(U:k<=j:=by decide)(d:m∉WL.l6 c:=by decide)(N:eval (.Call (.Attribute o m apos) [] [] pos) X.env=(do
  let i <-eval o X.env
  standAt apos.atName let(f,first)<-holding [i] (getMethod i m pl)callWith pos f first (backTo pos (starEach [] X.env)) (backToKw pos (keywordEach [] X.env))):=by rfl):PE X (.Call (.Attribute o m apos) [] [] pos) (lo B (WL.iS c fn to WL.au)):=by obtain⟨M,fd,F,b⟩:=G;refine PE.imp (acq D cl M F (J.mono U) b .nil N) λw H Q q=>?_;refine dc (agf K.symm A t d λl ws e=>by cases e;rfl _ H Q q) λl h R q=>?_;refine dP l h R (Rq.mono (av.refl _) q λy P v O h I x S=>?_);obtain⟨a,Y,fs,s,p,T,z,r,u,E⟩:=P v _ h I x S;exact oU a Y fs s p T (E [] O r u Gr.refl (rfl))
end
section
variable{S:Type}{M:Rsc S}{B:Bx}{s:S}{l:List Addr}{σ:Ws}{σV:L2.St}{F H F' H':Hp}{D:Ends}{X:Cx}{j:Nat}{st:Stmt}{rest:List Stmt}{t1 t2:RF S}
def OqE(B:Bx)(D:Ends)(F:Hp):OX S->Prop|.rt w _=>∀v H' F',RB B F' H'->av F F'->RW B.K F' w v->D.rt v H'|.ex c σ'=>B.xp c σ' F|_=>False
def loE(M:Rsc S)(B:Bx)(t:RF S):TS:=λD σV H=>∃σ F s l,RX M B s l σ σV F H/\OqE B D F (t σ s)
theorem OqE.mono(k:av F F'){o:OX S}(h:OqE B D F o):OqE B D F' o:=by cases o with|rt w s=>exact λv H G a z r=>h v H G a (k.trans z) r|ex c σ=>exact B.mono c σ F _ k h|_=>exact h
def alz(a:RB (kd B H l) F H)(fr:∀x∈l,F x=none/\B.H0 x=none):RB B F H:=by
 refine⟨a.sub,λx o q=>?_,a.fz0,λx o q=>?_⟩;.exact a.base x o (by show fzS _ H l x=some o;rw[aX λz=>by grind];exact q)
 .rcases a.fr x o q with z|⟨z,b⟩;.exact .inl z
  .have z:fzS _ H l x=none:=z;rw[aX λc=>by grind]at z;exact .inr ⟨z,b⟩
def vk(g:PS X st (loX M B t1))(f:PSs X rest (loE M B t2)):PSs X (st::rest) (loE M B (WL.mB t1 t2)):=PSs.imp (bT g f) λD σV H b=>by refine agY b λσ F s l R q=>?_;refine anH σ F s l R ?_;have q:OqE B D F (match t1 σ s with|.nx σ' s'=>t2 σ' s'|o=>o):=q;cases a:t1 σ s with|nx σ' s'=>rw[a]at q;exact λd H' F' e h k=>anH σ' F' s' e h (OqE.mono k q)|bk σ' s'|ct σ' s'=>rw[a]at q;exact q.elim|rt w s'=>rw[a]at q;exact λv H' F' e i fr m k r=>q v _ _ (alz i fr) k r|ex c σ'|bad=>rw[a]at q;exact q
end
section
variable{B:Bx}{s:Sr}{l:List Addr}{σ:Ws}{σV:L2.St}{F H F' H':Hp}{D:Ends}{X:Cx}{i j:Nat}{st:Stmt}{rest:List Stmt}{t:RF Sr}{ts:SF}
def ah0(o:B.K=X.K)(c:∀C,W.nsIn X.K mainGlobals (Str.ofString "Search")=some (some (.ref C))->Cls X.K C/\aW X.K C "rows")(h:PS X st (aqv (alk X.K (fE j) "rows"))):PSs X [st] (loE (srM X.prog X.w) B (WL.aou j)):=PSs.imp (ft h) λD σV H a=>by
 refine agY a λσ F s l R q=>?_;have q:OqE B D F (WL.at_ j σ s _):=q;have:σ[j]?=some (.va (.id s.a))/\OqE B D F (.rt (.lst s.rows) s):=by
  unfold WL.at_ at q;split at q
  .rename_i b e;split at q;.rename_i u;subst u;exact⟨e,q⟩
   .exact(q).elim
  .exact(q).elim
 obtain⟨d,q⟩:=this;have f:=R.self d;obtain⟨k,x⟩:=R.frz (by unfold WL.seen;rw[d];exact arM rfl);refine akJ R.re λC v r g m p y n S=>?_;obtain⟨cl,w⟩:=c C (o▸S.ns);refine⟨.ref s.a,f,s.a,C,v,_,.ref r,rfl,R.rs.rb.sub _ _ S.at_,cl,w,xZ,?_⟩;refine q (.ref r) H _ x.rb k ?_;simp only[RW];exact fD r p rfl (SqL.of (by rw[eI (by rw[n];simp)];exact S.ro)) (S.rs.keep k)
def RS.blank(R:RS B σ σV F H):RS B (List.replicate σ.length .no) σV F H:=by
 have no:∀{i:Nat}{b:Sl},(List.replicate σ.length Sl.no)[i]?=some b->b=.no:=λ{i b}e=>by
  rw[atc]at e;split at e;.exact(asd e).symm
  .cases e
 refine⟨R.rb,by rw[atn];exact R.len,λi w e=>(nomatch no e),λi ws e=>(nomatch no e),λi j ws h a _ e _ _ _=>(nomatch no e),λi g f e=>(nomatch no e),λi j g f d c a _ e _ _ _=>(nomatch no e),λi e=>nomatch no e⟩
def RS.am5(R:RS B σ σV F H){ks us:List VW}(e:σ[i]?=some (.od ks us)):∃F',RS B (σ.set i (.va (.dic ks us))) σV F' H/\av F F':=by
 obtain⟨a,f,g,h,O,E,M,I⟩:=R.dd.od i ks us e;have c:=R.drop i (some (.ref a));have A:=set_same g;rw[A]at c;have s:av F (upd F a (.dK f)):=az h _;have J:i<σ.length:=(arL.mp e).1;have Q:RS B (σ.set i .no) σV (upd F a (.dK f)) H:=by
  refine⟨⟨λb u q=>?_,c.rb.base,c.rb.fz0.trans s,λb u q=>?_⟩,c.len,λi w q=>?_,λi ws q=>?_,c.ap,λk r o q=>?_,c.dd.ad,λi q=>?_⟩
  .by_cases d:b=a;.subst d;rw[ao]at q;cases q;exact E
   .rw[ag d]at q;exact c.rb.sub b u q
  .by_cases d:b=a;.subst d;rw[ao]at q;cases q;exact .inr ⟨O,trivial⟩
   .rw[ag d]at q;exact c.rb.fr b u q
  .obtain⟨v,g,h⟩:=c.va i w q;exact⟨v,g,h.keep s⟩
  .obtain⟨b,K,n,p,x,m,y⟩:=c.ow i ws q;have d:b≠a:=λz=>by rw[z,E]at m;cases m
   exact⟨b,K,n,by rw[ag d];exact p,x,m,y.keep s⟩
  .obtain⟨b,l,n,p,x,m,y,N⟩:=c.dd.od k r o q;have G:i≠k:=λz=>by subst z;rw[arT J]at q;cases q
   have d:b≠a:=λz=>by subst z;rw[arN G]at q;exact R.dd.ad i k _ _ _ _ b G e q g n
   exact⟨b,l,n,by rw[ag d];exact p,x,m,y.keep s,N.keep s⟩
  .obtain⟨b,C,P,g,h⟩:=c.dd.ob i q;exact⟨b,C,P,g,s _ _ h⟩
 have R2:=Q.set (i:=i) (w:=.dic ks us) (by simp only[RW];exact⟨a,f,rfl,.inl ao,M.keep s,I.keep s⟩);rw[A,List.set_set]at R2;exact⟨_,R2,s⟩
set_option tactic.hygienic true
def ae3(h:PSs X rest (loS B ts)):PSs X rest (loS B (WL.aiU i ts)):=PSs.imp h λD σV H a=>by
 obtain⟨σ,F,R,q⟩:=a;unfold WL.aiU at q;split at q;.rename_i d c e;obtain⟨F',b,k⟩:=R.am5 e;exact⟨_,F',b,Oq.mono k q⟩
 .exact(q).elim
set_option tactic.hygienic false
end
def anN(P:Program)(w:World)(K:W.Frag):Sp:=λe H Q E=>∃x C c g m,e=[.ref x,g,m]/\H x=some (.ins C c [])/\(Cls K C/\aW K C "goal"/\aW K C "most"/\aW K C "rows"/\aW K C "seen")/\∀r d a,H r=none->H d=none->r≠d->a x=some (.ins C c (sfs g m r d))->a r=some (.lst [])->a d=some (FD P w d [])->(∀b,b≠x->b≠r->b≠d->a b=H b)->Q .non a
section
variable{P:Program}{w:World}{K:W.Frag}{mg:Str->Option Value}{base:Heap}
def agp{nm j st f M u y v k N O J I}(Fn:Fun K nm j st f M)(Sc:FnScope [u,y,v] [u,y,v] (af st))(D:aL st=[N,O,J,I])(h:∀l A a s H E X,X=fA (CXX P w) P w K mg base [u,y,v] j (af st) f l A a s H E->PS X N (alw K (fE 0) (fE 1) "goal")/\PS X O (alw K (fE 0) (fE 2) "most")/\PS X J (alw K (fE 0) (aoI abz) "rows")/\PS X I (alw K (fE 0) (ahf P w) "seen")):FnOk P w K mg base (CXX P w) (k+1) f M [u,y,v] (anN P w K):=by
 obtain⟨oc,od,U,a5,pm,an,l,ct,a0,rfl,lk,G⟩:=Fn.ex;refine wH lk G Sc λvs H Q E o=>by obtain⟨x,C,t,g,m,e,_⟩:=o;rw[e];rfl λA a s H vs Q E q _ o=>?_;obtain⟨x,C,t,g,m,e,hH,⟨cl,a1,T,a3,Y⟩,hq⟩:=o;subst e;obtain⟨S,R,h3,h4⟩:=h l A a s H E _ rfl;rw[D];refine⟨_,bT S (bT R (bT h3 (ft h4))),?_⟩;have p1:qX ("goal":Str) g []=[(("goal":Str),g)]:=rfl;have p2:qX ("most":Str) m [(("goal":Str),g)]=[(("goal":Str),g),("most",m)]:=rfl;have p3:∀r:Addr,qX ("rows":Str) (V.ref r) [(("goal":Str),g),("most",m)]=[(("goal":Str),g),("most",m),("rows",.ref r)]:=λ_=>rfl;have p4:∀r d:Addr,qX ("seen":Str) (V.ref d) [(("goal":Str),g),("most",m),("rows",.ref r)]=sfs g m r d:=λ_ _=>rfl;refine⟨g,rfl,.ref x,rfl,x,C,t,[],rfl,hH,cl,a1,by decide,?_⟩;rw[p1];refine⟨m,rfl,.ref x,rfl,x,C,t,[("goal",g)],rfl,ao,cl,T,by simp,?_⟩;rw[p2];refine⟨by decide,λr q=>?_⟩;have c:x≠r:=λz=>by rw[<-z,ao]at q;cases q
 refine⟨.ref x,rfl,x,C,t,[("goal",g),("most",m)],rfl,by rw[ag c];exact ao,cl,a3,by simp,?_⟩;rw[p3];intro d p;have i:x≠d:=λz=>by rw[<-z,ao]at p;cases p
 have n:r≠d:=λz=>by rw[<-z,ag (arY c),ao]at p;cases p
 refine⟨.ref x,rfl,x,C,t,_,rfl,by rw[ag i];exact ao,cl,Y,by simp,?_⟩;rw[p4];refine hq r d _ ?_ ?_ n ao ?_ ?_ λb B Z b3=>?_;.rw[ag (arY c),ag (arY c)]at q;exact q
 .rw[ag (arY i),ag (arY n),ag (arY i),ag (arY i)]at p;exact p
 .rw[ag (arY c),ag n,ag (arY c),ao]
 .rw[ag (arY i),ao]
 .rw[ag B,ag b3,ag B,ag Z,ag B,ag B]
end
section
variable{X:Cx}{B:Bx}{j:Nat}{C:Addr}{s1:Stmt}{rest:List Stmt}{as:AF}{t:RF Sr}
set_option tactic.hygienic true
def aa0(hB:B.K=X.K)(hx:XW X B)(a8:W.nsIn X.K mainGlobals (Str.ofString "Search")=some (some (.ref C)))(a7:Cls X.K C/\aW X.K C "goal"/\aW X.K C "most"/\aW X.K C "rows"/\aW X.K C "seen")(h1:PS X s1 (akn (ahe X C (anN X.prog X.w X.K) [] (loA B as)) (L2.ax j)))(h2:∀B',B'.K=X.K->XW X B'->PSs X rest (loE (srM X.prog X.w) B' t)):PSs X (s1::rest) (loS B (WL.jM j as t)):=by
 let B1:Bx:=B.pJ (λc l F=>B.xp c (List.replicate l.length .no) F) λc l F F' s h=>B.mono c _ F F' s h;have xw:XW X B1:=λQ i H s l F c R xp e C g T fl t xr=>hx Q i H s _ F c (RS.blank (R.box rfl rfl rfl)) xp e C g T fl t xr;refine PSs.imp (bT h1 (h2 B1 hB xw)) λD i H a6=>?_;obtain⟨l,F,R,q⟩:=a6;refine⟨l,F,R,?_⟩;unfold WL.jM at q;split at q
 .rename_i wg wm ea;rw[ea];split at q
  .rename_i hh;have a:=auI hh;intro vs P U M A r1 x g Z a2 G;obtain⟨n,o,rfl,rg,rm⟩:∃n o,vs=[n,o]/\RW B.K U wg n/\RW B.K U wm o:=by simp only[RWs]at r1;obtain⟨v,r,rfl,h,v',r',rfl,h',rfl⟩:=r1;exact⟨v,v',rfl,h,h'⟩
   refine⟨λ_ _ _=>False,⟨x,C,g,n,o,rfl,ao,a7,λr d H' J I a3 a4 a0 S ho=>⟨rfl,?_⟩⟩,λ_ _ _ _ _ _ _ _ z=>z.elim⟩;have N:r≠x:=λz=>by rw[z,ao]at J;cases J
   have m:d≠x:=λz=>by rw[z,ao]at I;cases I
   have u:r≠g:=λz=>by rw[z,ag G,ao]at J;cases J
   have p:d≠g:=λz=>by rw[z,ag G,ao]at I;cases I
   have a5:P r=none:=by rw[ag N,ag u]at J;exact J
   have hd1:P d=none:=by rw[ag m,ag p]at I;exact I
   let E:Hp:=upd U x (.ins C g (sfs n o r d));have eH:H'=upd (upd (upd (upd P g (.own x)) x (.ins C g (sfs n o r d))) r (.lst [])) d (FD X.prog X.w d []):=by
    funext b;by_cases b1:b=d;.subst b1;rw[ao,S]
    .rw[ag b1];by_cases b2:b=r;.subst b2;rw[ao,a0]
     .rw[ag b2];by_cases b3:b=x;.subst b3;rw[ao,a4]
      .rw[ag b3,ho b b3 b2 b1,ag b3]
   have a1:=M.rb.sub.free Z;have k2:av U E:=az a1 _;have R2:RS B l i E H':=by have Ra:=(M.akv a2 (.own x)).new (by rw[ag (arY G)];exact Z) (.ins C g (sfs n o r d)) trivial;have Rb:=Ra.akv (by rw[ag N,ag u];exact a5) (.lst []);have Rc:=Rb.akv (by rw[ag (arY a3),ag m,ag p];exact hd1) (FD X.prog X.w d []);rw[eH];exact Rc
   have O:∀{y:Addr},y≠x->P y=none->E y=none:=λ{y}h1 h2=>by show upd U x _ y=none;rw[ag h1];exact M.rb.sub.free h2
   have inl:∀y∈[r,d],y≠x/\P y=none:=λy f=>by grind
   have R3:RS (kd B1 H' [r,d]) l i E H':=by
    refine RS.inS (R2.box rfl rfl rfl) (λy f=>O (inl y f).1 (inl y f).2) (λk ws y e1 e2 f=>?_) λy f k ks us e1 e2=>?_;.obtain⟨b,vs,A,_,_,Y,_⟩:=M.ow k ws e1;rw[e2]at A;cases A;rw[(inl y f).2]at Y;cases Y
    .obtain⟨b,vs,A,_,_,Y,_⟩:=M.dd.od k ks us e1;rw[e2]at A;cases A;rw[(inl y f).2]at Y;cases Y
   refine⟨l.set j (.va (.id x)),E,⟨x,d,wg,wm,[],[]⟩,[r,d],⟨R3.set (by simp only[RW]),λy f=>⟨O (inl y f).1 (inl y f).2,M.rb.base.free (inl y f).2⟩,C,g,r,n,o,[],[],rfl,hB▸a8,ao,rg.keep k2,rm.keep k2,a0,by simp[RWs],S,rfl,λ_ z=>nomatch z⟩,?_⟩;have a:=a x d;have k3:=A.f.trans k2;cases K:t (l.set j (.va (.id x))) ⟨x,d,wg,wm,[],[]⟩with|rt w s'=>rw[K]at a;have a:=a;rw[a]at q;exact λv H3 F3 rb k4 r=>q v H3 F3 (rb.box rfl rfl) (k3.trans k4) r|ex c σ'=>rw[K]at a;obtain⟨a,hl⟩:=a;rw[a]at q;show B.xp c (List.replicate σ'.length .no) E;rw[hl];exact B.mono c _ F E k3 q|nx _ _=>rw[K]at a;exact a.elim|bk _ _=>rw[K]at a;exact a.elim|ct _ _=>rw[K]at a;exact a.elim|bad=>rw[K]at a;exact a.elim
  .exact(q).elim
 .exact(q).elim
set_option tactic.hygienic false
end
theorem x8(x):∀n(a:Array Nat),((List.replicate n x).foldl (.++.) a).size=a.size+x.size*n|0,a=>rfl|n+1,a=>by rw[List.replicate_succ,List.foldl_cons,x8 x n,Array.size_append,Nat.mul_succ];omega
section
variable{X:Cx}{K:W.Frag}
def aen:Calm WL.aaa:=λx y c h=>by
 unfold WL.aaa at h;split at h;.split at h<;>cases h
 .cases h
set_option tactic.hygienic true
def ak2:OpR X (binaryOp .Mult) (lo2 K WL.aaa):=by intro d s A H x y v u Q I g j⟨F,wx,l,D,b,f,q⟩;cases e:WL.aaa wx l with|bad|ex c=>rw[e]at q;exact q.elim|ok w=>
  rw[e]at q;unfold WL.aaa at e;split at e
  .split at e
   .rename_i a n i;cases e;simp only[RW]at b f;subst b f;obtain⟨t,rfl⟩:=g;obtain⟨r,rfl⟩:=j;refine anF i λo m C h=>?_;have k:5000<=sizeLine:=by decide
    refine PySem.P.mul_str ?_ (λ_ _=>?_) (λ_ _=>?_) ?_;.rw[ar6 (by omega),ar6 (by omega)];rfl
    .have B:(a.length:Int)<=5000:=by have:a.length*1<=a.length*n.toNat:=Nat.mul_le_mul_left _ (by omega);omega
     have p:(5000:Int)<=(2^63-1)/n:=by exact Int.le_ediv_of_mul_le (by omega) (by omega)
     omega
    .unfold Builtin.Str.tooLong;exact ar6 (by omega)
    .rw[arO (by omega),arO (by grind)];refine⟨?_,fD (.str _) H (I.tok _) ⟨_,rfl⟩ (eq1 q (by simp[RW]))⟩;have:=x8 a.cps n.toNat #[];have z:a.cps.size*n.toNat<=5000:=h;simp only[Str.length,this,Array.size_empty];omega
   .cases e
  .cases e
set_option tactic.hygienic false
end
theorem RWs.erase{K F}:∀{ws vs}i,RWs K F ws vs->RWs K F (ws.eraseIdx i) (vs.eraseIdx i)|[],_,i,h=>by subst h;simp[RWs]|w::ws,_,0,h=>by obtain⟨v,r,rfl,_,h⟩:=h;exact h|w::ws,_,i+1,h=>by obtain⟨v,r,rfl,a,h⟩:=h;exact⟨v,_,rfl,a,RWs.erase i h⟩
section
variable{X:Cx}{B:Bx}{i j:Nat}{st:Stmt}{te:EF}
set_option tactic.hygienic true
def aa5(h:PS X st (zB (tBM X.K "list" qW (fE i) (m6 (tBM X.K "list" ahr (fE j) (m6 (lo B te) abz)) abz)))):PS X st (loS B (WL.kE i j te)):=PS.imp h λD s H x=>by
 refine dc x λI F R q=>?_;unfold WL.kE at q;split at q
 .rename_i r k t o;split at q
  .rename_i n en;split at q
   .rename_i K;refine anE K λe U M h2 h3=>?_;split at q
    .rename_i y ey;refine ke (R.ow i r t) λa us A N Z m E=>?_;refine ke (R.ow j k o) λb l C O T u p=>?_;have f:a≠b:=λz=>by subst z;exact R.ap i j r k a e t o A C
     refine⟨.ref a,A,.inl ⟨rfl,us,SqL.of m⟩,.ref b,C,.inl ⟨rfl,l,SqL.of u⟩,I,F,R,?_⟩;rw[en];intro v H1 J R1 c Q;subst Q;have hl:=p.length;have g:=c.h b _ u;have d:=c.h a _ m;refine de ((p.keep c.f).get ey) λG hy ry=>?_;have S:WL.lim<=2^62:=by decide
     refine⟨b,l,n,n.toNat,G,rfl,rfl,g,by omega,by omega,?_,hy,a,us,G,rfl,rfl,by rw[ag f];exact d,by rw[<-E.length];exact arS h3 dM,?_⟩
     .have Y:¬n<0:=by omega
      have hv:n<(l.length:Int):=by rw[<-hl];exact M
      simp[seqIndex?,Y,U,hv]
     .have R2:=R1.write o C (c.nf b _ u O) T g (us:=k.eraseIdx n.toNat) (zs:=l.eraseIdx n.toNat) ((p.keep c.f).erase n.toNat);have w:(I.set j (.ow (k.eraseIdx n.toNat)))[i]?=some (.ow r):=by rw[arN (arY e)];exact t
      have P:=R2.write w A (c.nf a _ m N) Z (by rw[ag f];exact d) ((E.keep c.f).app (.one ry));exact q s _ J P c.f
    .exact(show False from q).elim
   .exact(show False from q).elim
  .exact(show False from q).elim
 .exact(show False from q).elim
set_option tactic.hygienic false
end
section
variable{X:Cx}{B:Bx}{C g:Addr}{k jr j n:Nat}{m:Str}{ps:List Str}{fn:List VW->Sr->OX Sr}{e o:Expr}{es:List Expr}{tas:AF}{apos cpos pos:Pos}{pl:Sem Bool}
def xm(I:B.K=X.K)(u:Room jr X.A)(A:XW X B)(x:W.nsIn X.K mainGlobals (Str.ofString "Search")=some (some (.ref C)))(cl:Cls X.K C)(G:aaS X.prog X.w X.K X.mg X.base k C g m ps (spM (srM X.prog X.w) X.K n fn))(p:PE X o (fE j))(z:∀q,q.K=X.K->PA X (e::es) (loA q tas))(D:∀K ws,tas K=.ok ws->ws.length+1=n)(v:k<=jr:=by decide)(d:m∉WL.l6 "Search":=by decide)(h:SE X e es:=by rfl)(c:BT X cpos es:=by rfl)(J:eval (.Call (.Attribute o m apos) (e::es) [] cpos) X.env=(do
  let i <-eval o X.env
  standAt apos.atName let(f,first)<-holding [i] (getMethod i m pl)callWith cpos f first (backTo cpos (starEach (e::es) X.env)) (backToKw cpos (keywordEach [] X.env))):=by rfl)(y:swapsWith (.Call (.Attribute o m apos) (e::es) [] cpos) none pos.line X.env=pure false:=by rfl):PS X (.Expr (.Call (.Attribute o m apos) (e::es) [] cpos) pos) (loX (srM X.prog X.w) B (WL.gM WL.Sr.a j fn tas)):=by obtain⟨M,P,F,b⟩:=G;refine ah2 I A cl M F (u.mono v) b (λs l F H w E=>?_) p z D (λt a=>yg p cl M F (u.mono v) b .nil a h c J) y;refine akJ E λR N r g U T O Q S=>?_;have:=S.ns;rw[x]at this;cases this;exact⟨N,_,w _ _ S.at_,acZ (by exact d)⟩
def wth{q r a x rest t p c}(J:B.K=X.K)(I:Room jr X.A)(H:XW X B)(D:X.N.Nodup)(z:X.N[j]?=some a)(l:Loc X.env.scope a)(M:Mk X.K C q)(v:W.nsIn X.K mainGlobals (Str.ofString "Search")=some (some (.ref C)))(i:Cls X.K C/\aW X.K C "goal"/\aW X.K C "most"/\aW X.K C "rows"/\aW X.K C "seen")(G:anB X.prog X.w X.K X.mg X.base r q ps (anN X.prog X.w X.K))(w:X.mg x=some (.ref C))(E:PA X (e::es) (loA B tas))(s:∀h,h.K=X.K->XW X h->PSs X rest (loE (srM X.prog X.w) h t))(N:r+1<=jr:=by decide)(u:Gl X x:=by rfl)(f:Dbg x:=by decide)(K:SE X e es:=by rfl)(d:BT X cpos es:=by rfl)(y:swapsWith (.Call (.Name x p) (e::es) [] cpos) (some (.Name a c)) pos.line X.env=pure false:=by rfl)(A:X.fn a=true\/X.env.scope.names.lookup a=some .local:=by first|exact .inl rfl|exact .inr rfl|assumption):PSs X (.Assign [.Name a c] (.Call (.Name x p) (e::es) [] cpos) pos::rest) (loS B (WL.jM j tas t)):=by refine de G λO F b=>?_;exact aa0 J H v i (tI D z l (yh M F (I.mono N) u w b .nil E f K d) y A) s
def yO{b}(c:W.nsIn X.K mainGlobals (Str.ofString "Search")=some (some (.ref C)))(cl:Cls X.K C)(d:aW X.K C b):∀a,W.nsIn X.K mainGlobals (Str.ofString "Search")=some (some (.ref a))->Cls X.K a/\aW X.K a b:=λa h=>by grind
def un2{n}(h:n+64<cLine):n+2<cLine:=by omega
end
section
variable{P:Program}{w:World}{K:W.Frag}{mg:Str->Option Value}{base:Heap}{k m n:Nat}{nm:Str}{ps N:List Str}{st:Stmt}{fn:List VW->Res VW}
abbrev MgA(K:W.Frag)(mg:Str->Option Value):Prop:=∀nm v,W.nsIn K mainGlobals nm=some (some v)->mg nm=some v
abbrev BdA(nm:Str)(ps:List Str)(st:Stmt):Prop:=∀(kV a e:Value)(d:Option Addr)(b ct:Value)(c:List Value),c.length=ps.length->bindArgs (W.fnOf nm nm (bE st) (aL st) (af st) .none kV a e d b ct) ⟨c,[]⟩=pure (ps.zip c)
def AtD.dN(D:AtD K nm st)(l:MgA K mg)(t)(S:FnScope N ps (af st))(h:∀{e f A g s H E B},B.K=K->Room k (A.deeper (envOfC nm (af st) s.heap.objs.size f e))->XW (fA CX0 P w K mg base N nm (af st) f e A g s H E).nox B->PassesOwn (model P w) (A.deeper (envOfC nm (af st) s.heap.objs.size f e)) (envOfC nm (af st) s.heap.objs.size f e) (λ_ _=>False)->PSs (fA CX0 P w K mg base N nm (af st) f e A g s H E).nox (aL st) (loS B t))(r:BdA nm ps st:=by intro _ _ _ _ _ _ u h;first|exact bind1 (by intros;rfl) u h|exact aaK (by intros;rfl) u h|exact aaJ (by intros;rfl) u h|exact ans (by intros;rfl) u h|exact ant (by intros;rfl) u h|exact akc (by intros;rfl) u h|exact anr (by intros;rfl) u h)(p:N.length=n:=by rfl)(o:ps.length=m:=by rfl)(i:WL.run n t=fn:=by rfl)(j:ps.length<=N.length:=by decide):Cal P w K mg base CX0 (k+1) nm ps [] (spW K m fn):=D.cal l r λ_ _ q=>wN t q S p o i j λ_ _ _ _ _ _ _ a b c d=>h a b c d
def AtD.dX(D:AtD K nm st)(l:MgA K mg)(t)(S:FnScope N ps (af st))(h:∀{g f A e s H E B},B.K=K->Room k (A.deeper (envOfC nm (af st) s.heap.objs.size f g))->XW (fA (CXX P w) P w K mg base N nm (af st) f g A e s H E) B->PassesOwn (model P w) (fA (CXX P w) P w K mg base N nm (af st) f g A e s H E).A (fA (CXX P w) P w K mg base N nm (af st) f g A e s H E).env (fA (CXX P w) P w K mg base N nm (af st) f g A e s H E).xe->PSs (fA (CXX P w) P w K mg base N nm (af st) f g A e s H E) (aL st) (loS B t))(r:BdA nm ps st:=by intro _ _ _ _ _ _ u h;first|exact bind1 (by intros;rfl) u h|exact aaK (by intros;rfl) u h|exact aaJ (by intros;rfl) u h|exact ans (by intros;rfl) u h|exact ant (by intros;rfl) u h|exact akc (by intros;rfl) u h|exact anr (by intros;rfl) u h)(p:N.length=n:=by rfl)(o:ps.length=m:=by rfl)(i:WL.run n t=fn:=by rfl)(j:ps.length<=N.length:=by decide):Cal P w K mg base (CXX P w) (k+1) nm ps [] (spX K m fn):=D.cal l r λ_ _ q=>adW t q S p o i j λ_ _ _ _ _ _ _ a b c d=>h a b c d
end
section
variable{X:Cx}{B:Bx}{x:Str}{pos:Pos}
def wki{i q}{w:VW}(d:B.K=X.K)(c:X.mg x=some (.int i q))(hw:w=.int i:=by rfl)(a:Gl X x:=by rfl)(b:Dbg x:=by decide):PE X (.Name x pos) (lo B (WL.eC w)):=by subst hw;exact wk d c ⟨_,rfl⟩ (v:=.int i) (λF=>rfl) a b
end
section
variable{X:Cx}{B:Bx}{ta:EF}
def boot_reversed:bootBuiltins "reversed"=some (.type "reversed"):=by rfl
def ail{a p m pos d}(hK:X.K=B.K)(hc:X.calm=true)(hg:Gl X "list")(hm:X.mg "list"=none)(M:Gl X "reversed")(D:X.mg "reversed"=none)(h:PE X a (lo B ta))(s:starEach [a] X.env=(false,eval a X.env)::starEach [] X.env:=by rfl)(t:BT X d []:=by rfl)(hn:("list":Str)≠"__name__":=by decide)(I:("list"==("__debug__":Str))=false:=by decide)(U:starEach [Expr.Call (.Name "reversed" m) [a] [] d] X.env=(false,eval (.Call (.Name "reversed" m) [a] [] d) X.env)::starEach [] X.env:=by rfl)(G:BT X pos []:=by rfl):PE X (.Call (.Name "list" p) [.Call (.Name "reversed" m) [a] [] d] [] pos) (lo B (WL.ajU ta)):=PE.imp (jQ (pE hc) hg hm boot_list (bV (jQ rX M D boot_reversed (aa h ai s) (by decide) (by decide) s t) eW U) hn I U G) λE H Q⟨i,F,R,q⟩=>by
  have q:=Rq.bind q;have q':Rq B i F (WL.ae ta WL.au i) λws=>∀N j C,RS B i E C j->Gr F H C j->RWs B.K C ws N->∃p f,N=[.ref p]/\SqL X.K j p f/\∀r,j r=none->r≠p->∃u m o,[V.ref r]=[V.ref u]/\upd j r (agW X r p f.length) u=some (agW X u m (List.length o))/\SqL X.K (upd j r (agW X r p f.length)) m o/\u≠m/\∀l,upd j r (agW X r p f.length) l=none->Q (.ref l) (upd (del (upd j r (agW X r p f.length)) u) l (.lst o.reverse)):=by show Rq B i F ((ta i).bind λx=>.ok [x]) _;cases e:ta i with
 |ok x=>
    rw[e]at q;intro N y F1 O g1 r1;refine de (cx r1) λv n T=>?_;subst n
    cases x with|lst xs=>
     simp only[RW]at T;refine iH T λb f n qa ra=>?_;subst n;have q:Rq B i F (if xs.length<=WL.lim then Res.ok (WL.W.lst xs.reverse)else .bad) _:=q;by_cases P:xs.length<=WL.lim
     .rw[arM P]at q;have Y:SqL X.K y b f:=by rw[hK];exact O.rb.sub.seq qa
      refine fD b f rfl Y λr S J=>aki r b f rfl ao ((az S _).seq Y) J λl A=>?_;have K:l≠r:=λz=>by rw[z,ao]at A;cases A
      have k:y l=none:=by rw[ag K]at A;exact A
      have Z:del (upd y r (agW X r b f.length)) r=y:=by
       funext c;unfold del;by_cases g:c=r;.rw[arM g,g,S]
       .rw[arO g,ag g]
      rw[Z];have w:=O.rb.sub.free k;refine q (.ref l) _ _ (O.new k _) (g1.trans (Gr.new w k _)) ?_;simp only[RW];exact fD l _ rfl (SqL.of ao) (ra.keep (az w _)).rev
     .rw[arO P]at q;exact q.elim|_=>exact(show False from q).elim
 |ex c=>rw[e]at q;exact q|bad=>rw[e]at q;exact q
  exact dP i F R q'
end
end WS
namespace WL
open PySem
section
variable{α β:Type}
@[simp]def cI(a)(f:α->Res β):(Res.ok a).bind f=f a:=(rfl)
@[simp]def aqe(c)(f:α->Res β):(Res.ex c).bind f=.ex c:=(rfl)
@[simp]def aon(f:α->Res β):(Res.bad:Res α).bind f=.bad:=(rfl)
@[simp]def aom(p:Prop)[Decidable p](a b:Res α)(f:α->Res β):(if p then a else b).bind f=if p then a.bind f else b.bind f:=by split<;>rfl
@[simp]def jW(σ)(a)(f:α->Out):ofR σ (.ok a) f=f a:=(rfl)
@[simp]def aqM(σ)(c)(f):ofR σ (.ex c:Res α) f=.ex c σ:=(rfl)
@[simp]def apl(σ)(f):ofR σ (.bad:Res α) f=.bad:=(rfl)
@[simp]def apk(σ)(p)[Decidable p](a b)(f:α->Out):ofR σ (if p then a else b) f=if p then ofR σ a f else ofR σ b f:=by grind
end
@[simp]def aof{b:Type}(a)(l:List b):(a::l)[0]?=some a:=(rfl)
@[simp]def aoe{b:Type}(a)(l:List b)(n):(a::l)[n+1]?=l[n]?:=(rfl)
noncomputable def apO:Option Sl->Res W|some (.va w)=>.ok w|_=>.bad
@[simp]def rE(w):apO (some (.va w))=.ok w:=(rfl)
@[simp]def oG(i:Nat)(σ:Ws):aj i σ=apO σ[i]?:=by unfold aj apO;split<;>simp_all
@[simp]def ap3(w)(σ):eC w σ=.ok w:=(rfl)
@[simp]def y4(r)(a b)(σ):eOp r a b σ=(a σ).bind λx=>(b σ).bind λy=>r x y:=(rfl)
@[simp]def aq1(r)(a)(σ):eUn r a σ=(a σ).bind r:=(rfl)
noncomputable def chB(z:W)(k:Res W):Res W:=match z with|.bl true=>k|.bl false=>.ok (.bl false)|_=>.bad
@[simp]def aq5(b)(k):chB (.bl b) k=if b=true then k else .ok (.bl false):=by cases b<;>rfl
@[simp]def ane(r d:W->W->Res W)(a b c:EF)(σ:Ws):lS r d a b c σ=(a σ).bind λx=>(b σ).bind λy=>(r x y).bind λz=>chB z ((c σ).bind λw=>d y w):=by unfold lS chB;rfl
@[simp]def ahd(b):toB (.bl b)=.ok b:=(rfl)
@[simp]def abC(e)(σ):tB e σ=(e σ).bind toB:=(rfl)
@[simp]def aoK(a b)(σ):aaT a b σ=(a σ).bind λx=>if x=true then b σ else .ok false:=by unfold aaT;congr 1;funext x;cases x<;>rfl
@[simp]def aqw(a b)(σ):tOr a b σ=(a σ).bind λx=>if x=true then .ok true else b σ:=by unfold tOr;congr 1;funext x;cases x<;>rfl
@[simp]def aoF(a)(σ):xS a σ=(a σ).bind λx=>.ok !x:=(rfl)
set_option tactic.hygienic true
@[simp]def ap5(a b)(σ):aeP a b σ=(a σ).bind λx=>(toB x).bind λy=>if y=true then b σ else .ok (.bl false):=by
 unfold aeP;congr 1;funext x;cases x<;>try rfl
 rename_i k;cases k<;>rfl
set_option tactic.hygienic false
@[simp]def ap0(a)(σ):anc a σ=(a σ).bind λx=>(toB x).bind λy=>.ok (.bl !y):=by unfold anc;congr 1;funext x;cases x<;>rfl
@[simp]def aq3(t)(a b)(σ):eIf t a b σ=(t σ).bind λx=>if x=true then a σ else b σ:=by unfold eIf;congr 1;funext x;cases x<;>rfl
@[simp]def lq(σ):au σ=.ok []:=(rfl)
@[simp]def iD(e)(a)(σ):ae e a σ=(e σ).bind λx=>(a σ).bind λb=>.ok (x::b):=(rfl)
@[simp]def apZ(a)(σ):lR a σ=(a σ).bind λb=>if b.length<=lim then .ok (.tup b)else .bad:=(rfl)
@[simp]def ap2(a)(σ):px a σ=(a σ).bind λb=>if b.length<=lim then .ok (.lst b)else .bad:=(rfl)
@[simp]def apL(a)(σ):akw a σ=(a σ).bind λb=>if b.length<=lim then .ok b else .bad:=(rfl)
noncomputable def aeu{b}:Res b->Res b|.ok a=>.ok a|_=>.bad
@[simp]def gA{b}(a:b):aeu (.ok a)=.ok a:=(rfl)
@[simp]def j3(f)(a)(σ):ay f a σ=(a σ).bind λws=>aeu (f ws):=by unfold ay;congr 1;funext ws;cases f _<;>rfl
@[simp]def adS(f)(a)(σ):bS f a σ=(a σ).bind f:=(rfl)
@[simp]def aq4(f)(a)(σ):eBi f a σ=(a σ).bind f:=(rfl)
@[simp]def ap1(T:String)(r:W->List W->Res W)(o:EF)(a:AF)(σ:Ws):uL T r o a σ=(o σ).bind λx=>if rz x==T then(a σ).bind λws=>r x ws else .bad:=(rfl)
@[simp]def amE(xs:List W):rz (.lst xs)="list":=(rfl)
@[simp]def acI(ks vs)(k):oIx (.dic ks vs) (.str k)=ofO (oV k ks vs):=(rfl)
@[simp]def aqI(σ):pNo σ=.ok none:=(rfl)
noncomputable def toI:W->Res (Option Int)|.int i=>.ok (some i)|_=>.bad
@[simp]def aoB(i):toI (.int i)=.ok (some i):=(rfl)
@[simp]def anS(e:EF)(σ:Ws):q0 e σ=(e σ).bind toI:=by unfold q0;congr 1
@[simp]def aq2(e)(lo a)(σ):eSl e lo a σ=(e σ).bind λx=>(lo σ).bind λl=>(a σ).bind λh=>oSl x l h:=(rfl)
@[simp]def an4(i j):fF (.int i) (.int j)=.ok (.int (i+j)):=(rfl)
@[simp]def an3(xs ys:List W):fF (.lst xs) (.lst ys)=if xs.length+ys.length<=lim then .ok (.lst (xs++ys))else .bad:=(rfl)
@[simp]def anZ(i j):acH (.int i) (.int j)=.ok (.int (i-j)):=(rfl)
def yv(i j):vf (.int i) (.int j)=if -2^64<i/\i<2^64\/-2^64<j/\j<2^64 then .ok (.int (i*j))else .bad:=(rfl)
def ahx{i}(j)(b:-18446744073709551616<i)(a:i<18446744073709551616):vf (.int i) (.int j)=.ok (.int (i*j)):=by rw[yv,arM];exact .inl ⟨by omega,by omega⟩
def amd(i){j}(b:-18446744073709551616<j)(a:j<18446744073709551616):vf (.int i) (.int j)=.ok (.int (i*j)):=by rw[yv,arM];exact .inr ⟨by omega,by omega⟩
@[simp]def an2(i j):oDiv (.int i) (.int j)=if 0<j/\j<10^100 then .ok (.int (i/j))else .bad:=(rfl)
@[simp]def an1(i j):oMod (.int i) (.int j)=if 0<j then .ok (.int (i%j))else .bad:=(rfl)
@[simp]def an0(i):yt (.int i)=.ok (.int (-i)):=(rfl)
@[simp]def apr(i j):oLt (.int i) (.int j)=.ok (.bl (decide (i<j))):=(rfl)
@[simp]def aps(i j):oLe (.int i) (.int j)=.ok (.bl (decide (i<=j))):=(rfl)
@[simp]def apx(i j:Int):oGt (.int i) (.int j)=.ok (.bl (decide (j<i))):=(rfl)
@[simp]def apy(i j):oGe (.int i) (.int j)=.ok (.bl (decide (j<=i))):=(rfl)
@[simp] def apA (i j:Int):oEq (.int i) (.int j)=.ok (.bl (decide (i=j))):=by show Res.ok (W.bl (i==j))=_;rw[atV]
@[simp] theorem apq (i j:Int):oNe (.int i) (.int j)=.ok (.bl (!decide (i=j))):=by show Res.ok (W.bl !(i==j))=_;rw[atV]
@[simp] theorem ajm (j ):oEq .non (.int j)=.ok (.bl false):=(rfl)
@[simp]def apo:oNe .non .non=.ok (.bl false):=(rfl)
@[simp]def aqO(a b:Bool):oEq (.bl a) (.bl b)=.ok (.bl (a==b)):=rfl
@[simp]def aqN(a b:Bool):oNe (.bl a) (.bl b)=.ok (.bl (a !=b)):=rfl
@[simp]def apw(x):oIs x .non=.ok (.bl (kM x)):=(rfl)
@[simp]def akt(x):eZ x .non=.ok (.bl !kM x):=(rfl)
@[simp]def amP:kM .non=true:=(rfl)
@[simp]def amQ(i):kM (.int i)=false:=(rfl)
@[simp]def v7(xs)(i):oIx (.lst xs) (.int i)=ofO (atI xs i):=(rfl)
@[simp]def apt(xs)(i):oIx (.tup xs) (.int i)=ofO (atI xs i):=(rfl)
@[simp]def apm(xs)(l h):oSl (.lst xs) l h=.ok (.lst (cut xs l h)):=(rfl)
def h8{a}(xs:List a)(k:Nat):atI xs k=xs[k]?:=by
 unfold atI ixN;by_cases h:k<xs.length;.rw[arM (by simp),arM (by omega)];simp
 .rw[arM (by simp),arO (by omega)];simp;omega
@[simp]def aqj{a}(xs:List a)(k):atI xs no_index(@OfNat.ofNat Int k _)=xs[k]?:=h8 _ k
def ahU{a}(xs:List a){i}(h:0<=i):atI xs i=xs[i.toNat]?:=by have e:=h8 xs i.toNat;rwa[Int.toNat_of_nonneg h]at e
@[simp]def aop(xs):iB [.lst xs]=.ok (.int xs.length):=(rfl)
@[simp]def aoo(xs):iB [.tup xs]=.ok (.int xs.length):=(rfl)
@[simp]def akD(xs):iU [.lst xs]=.ok (.tup xs):=(rfl)
@[simp]def akC(xs):iU [.tup xs]=.ok (.tup xs):=(rfl)
@[simp]def anu(xs):xn [.lst xs]=.ok (.lst xs):=(rfl)
noncomputable def oB(o:Option Bool):Res W:=match o with|some b=>.ok (.bl b)|none=>.bad
@[simp]def apB(b):oB (some b)=.ok (.bl b):=(rfl)
@[simp]def akE(x:W)(t:String):cY [x,.ty t]=oB (isK x t):=by cases h:isK x t<;>simp[cY,oB,h]
@[simp]def aqh(xs):agU [.lst xs]=oB (allB xs):=rfl
@[simp]def apM(e)(σ):rZ e σ=(e σ).bind itemsOf:=(rfl)
def aoX:W->Res (List W)|.int j=>if -2^62<=j/\j<2^62 then .ok (rng 0 j.toNat)else .bad|_=>.bad
@[simp]def afE(j):aoX (.int j)=if -2^62<=j/\j<2^62 then .ok (rng 0 j.toNat)else .bad:=(rfl)
@[simp]def agt(e:EF)(σ:Ws):kN e σ=(e σ).bind aoX:=by unfold kN aoX;congr 1
def aoW:W->W->Res (List W)|.int i,.int j=>if -2^62<=i/\i<2^62/\-2^62<=j/\j<2^62 then .ok (rng i (j-i).toNat)else .bad|_,_=>.bad
@[simp]def anR(i j):aoW (.int i) (.int j)=if -2^62<=i/\i<2^62/\-2^62<=j/\j<2^62 then .ok (rng i (j-i).toNat)else .bad:=(rfl)
@[simp]def aoc(e a:EF)(σ:Ws):uo e a σ=(e σ).bind λx=>(a σ).bind λy=>aoW x y:=by unfold uo aoW;congr 1
def ajR:W->Res (List W)|.tup xs=>.ok (fW 0 xs)|.lst xs=>.ok (fW 0 xs)|_=>.bad
@[simp]def anb(xs):ajR (.lst xs)=.ok (fW 0 xs):=(rfl)
@[simp]def aod(e:EF)(σ:Ws):wA e σ=(e σ).bind ajR:=by unfold wA ajR;congr 1
@[simp] def zT (lo ) (n ):(rng lo n).length=n:=by simp[rng]
theorem vK (lo ) (n i ) (x ) (h:(rng lo n)[i]?=some x):i<n/\x=.int (lo+i):=by
  have a  := by
    have:=(arL.mp h).1
    simpa using this
  simp only[rng,ar3,at1 a] at h
  exact⟨a,(asd h).symm⟩
@[simp]def rF(i)(w)(σ):ax i w σ=.ok (σ.set i (.va w)):=(rfl)
@[simp]def yT(σ):r6 [] σ=.ok σ:=(rfl)
@[simp]def qp(g)(b)(w)(r)(σ):cz g b (w::r) σ=(aeu (g w σ)).bind λd=>aeu (b r d):=by show(match g w σ with|.ok _=>(match b r _ with|.ok _=>Res.ok _|_=>.bad)|_=>.bad)=_;cases g w σ with|ok a=>simp ;cases b r a<;>rfl|ex c|bad=>rfl
@[simp]def yS(a)(ws)(σ):r0 a (.tup ws) σ=a ws σ:=(rfl)
def arh(σ:Ws)(i:Nat)(ws:List W)(w:W):Res W->Res Ws
|.ok (.int k)=>match ixN ws.length k with|some j=>.ok (σ.set i (.ow (ws.set j w)))|none=>.bad
|_=>.bad
def arE(σ:Ws)(i:Nat)(w:W)(r:Res W):Option Sl->Res Ws|some (.ow ws)=>arh σ i ws w r|_=>.bad
noncomputable def apQ(σ:Ws)(i:Nat):Option Sl->Ws|some (.ow ws)=>σ.set i (.va (.lst ws))|some (.od ks vs)=>σ.set i (.va (.dic ks vs))|_=>σ
@[simp]def aqW(i:Nat)(σ:Ws):frz i σ=apQ σ i σ[i]?:=by unfold frz apQ;split<;>simp_all
@[simp]def apP(σ)(i)(ws):apQ σ i (some (.ow ws))=σ.set i (.va (.lst ws)):=(rfl)
def plR:Res W->Res W|.ok w=>if plain w then .ok w else .bad|_=>.bad
@[simp]def aqH(w):plR (.ok w)=if plain w=true then .ok w else .bad:=(rfl)
@[simp]def ap4(i:Nat)(e:EF)(σ:Ws):akA i e σ=plR (e (frz i σ)):=by unfold akA plR;cases e (frz i σ)<;>rfl
@[simp]def alO(i):plain (.int i)=true:=(rfl)
@[simp]def alN(xs:List W):plain (.tup xs)=jP xs:=(rfl)
@[simp]def akr:jP []=true:=(rfl)
@[simp]def ai7(x:W)(xs:List W):jP (x::xs)=(plain x&&jP xs):=(rfl)
def zW(xs):jP xs=true↔∀x∈xs,plain x=true:=by induction xs with|nil=>simp|cons x xs ih=>simp[ih]
@[simp]def aob(k)(it)(g)(t)(e)(σ):agm k it g t e σ=(it σ).bind λa=>if a.length<=lim then aeu (bH g t e (List.replicate k .no++σ) a)else .bad:=by unfold agm;congr 1;funext a;cases bH g t e _ _<;>rfl
@[simp]def aoj(k)(it)(g)(t)(e)(σ):hY k it g t e σ=(agm k it g t e σ).bind λa=>.ok (.lst a):=(rfl)
noncomputable def sT(o:Out)(b:SF):Out:=match o with|.nx σ'=>b σ'|o=>o
@[simp]def gg(σ)(b):sT (.nx σ) b=b σ:=(rfl)
@[simp]def aoN(w)(b):sT (.rt w) b=.rt w:=(rfl)
@[simp]def anO(p)[Decidable p](x y)(b):sT (if p then x else y) b=if p then sT x b else sT y b:=by grind
@[simp]def fj(a b)(σ):aJ a b σ=sT (a σ) b:=(rfl)
@[simp]def aqA(σ):sNx σ=.nx σ:=(rfl)
@[simp]def abX(i)(e)(σ):bo i e σ=ofR σ (e σ) λw=>.nx (σ.set i (.va w)):=(rfl)
@[simp]def anP(i)(l)(σ):tx i l σ=ofR σ (l σ) λws=>.nx (σ.set i (.ow ws)):=(rfl)
@[simp]def abY(t)(a b)(σ):sIf t a b σ=ofR σ (t σ) λx=>if x=true then a σ else b σ:=by unfold sIf;congr 1;funext x;cases x<;>rfl
@[simp]def aoR(e)(σ):bq e σ=ofR σ (e σ) λw=>.rt w:=(rfl)
@[simp]def anQ(e)(σ):aiW e σ=ofR σ (e σ) λ_=>.nx σ:=(rfl)
def aql(σ:Ws)(i:Nat)(r:Res W):Option Sl->Out|some (.ow ws)=>ofR σ r λw=>if ws.length<lim then .nx (σ.set i (.ow (ws++[w])))else .bad|_=>.bad
@[simp]def aoV(i:Nat)(e:EF)(σ:Ws):ako i e σ=aql σ i (e σ) σ[i]?:=by unfold ako aql;split<;>simp_all
@[simp]def aqk(σ)(i)(r)(ws):aql σ i r (some (.ow ws))=ofR σ r λw=>if ws.length<lim then .nx (σ.set i (.ow (ws++[w])))else .bad:=(rfl)
@[simp]def aoT(i)(t)(σ):ahn i t σ=t (frz i σ):=(rfl)
@[simp]def aiV(it)(g)(b)(σ):nE it g b σ=ofR σ (it σ) λa=>forL g b a σ:=(rfl)
@[simp]def alr(n)(c)(b)(σ):abW n c b σ=jw c b (n σ) σ:=(rfl)
@[simp]def aoO(c)(σ)(b):sT (.ex c σ) b=.ex c σ:=(rfl)
@[simp]def aj6(d nm)(fs):la d (.exc nm fs)=md nm d:=(rfl)
noncomputable def anJ(o:Out)(k:W->Ws->Out):Out:=match o with|.ex c σ=>k c σ|o=>o
@[simp]def aoz(σ)(k):anJ (.nx σ) k=.nx σ:=(rfl)
@[simp]def aoA(c)(σ)(k):anJ (.ex c σ) k=k c σ:=(rfl)
@[simp]def aoQ(b:SF)(d:String)(h:SF)(σ:Ws):aiR b d h σ=anJ (b σ) (hOut d h):=by unfold aiR anJ;rfl
noncomputable def apD(o:Out):Out:=match o with|.ex _ _=>.bad|o=>o
@[simp]def apC(σ):apD (.nx σ)=.nx σ:=(rfl)
@[simp]def apN(d:String)(h:SF)(c:W)(σ:Ws):hOut d h c σ=if la d c then apD (h σ)else .bad:=by unfold hOut apD;rfl
noncomputable def fin:Out->Res W|.rt w=>.ok w|.nx _=>.ok .non|.ex c _=>.ex c|_=>.bad
@[simp]def aqZ(w):fin (.rt w)=.ok w:=(rfl)
@[simp]def aq0(c)(σ):fin (.ex c σ)=.ex c:=(rfl)
@[simp]def apS(p:Prop)[Decidable p](x y:Out):fin (if p then x else y)=if p then fin x else fin y:=by split<;>rfl
@[simp]def run_eq(n:Nat)(t:SF)(ws:List W):run n t ws=fin (t (ws.map .va++List.replicate (n-ws.length) .no)):=by unfold run fin;rfl
@[simp]def yH:lim=1000000:=(rfl)
noncomputable def n5(o:Out)(k:SF):Out:=match o with|.nx σ2=>k σ2|.ct σ2=>k σ2|.bk σ2=>.nx σ2|o=>o
@[simp]def an8(σ)(k):n5 (.nx σ) k=k σ:=(rfl)
@[simp]def an7(w)(k):n5 (.rt w) k=.rt w:=(rfl)
def vp(c)(b)(n)(σ):jw c b (n+1) σ=ofR σ (c σ) λx=>if x=true then n5 (b σ) (jw c b n)else .nx σ:=by
 show ofR σ _ _=_;congr 1;funext x;cases x;.rfl
 .cases b σ<;>rfl
def eJ(g)(b)(x)(xs)(σ):forL g b (x::xs) σ=ofR σ (g x σ) λa=>n5 (b a) (forL g b xs):=rfl
@[simp]def aog(g)(b)(σ):forL g b [] σ=.nx σ:=(rfl)
theorem rG{g b}:∀{xs}(P:Nat->Ws->Prop){σ},P 0 σ->(∀i x σ,xs[i]?=some x->P i σ->∃d,g x σ=.ok d/\∃c,b d=.nx c/\P (i+1) c)->∃a,forL g b xs σ=.nx a/\P xs.length a|[],P,σ,h0,_=>⟨σ,rfl,h0⟩|x::xs,P,σ,h0,hs=>by obtain⟨d,j,c,h,e⟩:=hs 0 x σ rfl h0;obtain⟨a,f,k⟩:=rG (xs:=xs) _ e λi y σ m l=>hs (i+1) y σ (by grind) l;exact⟨_,by simp [forL,j,h];exact f,k⟩
theorem wG{g b}:∀{xs}(P:Nat->Ws->Prop)(R:Nat->W->Prop){σ},P 0 σ->(∀i x σ,xs[i]?=some x->P i σ->∃c,g x σ=.ok c/\((∃d,b c=.nx d/\P (i+1) d)\/∃w,b c=.rt w/\R i w))->(∃a,forL g b xs σ=.nx a/\P xs.length a)\/∃i w,i<xs.length/\forL g b xs σ=.rt w/\R i w
|[],P,R,σ,h0,_=>.inl ⟨σ,rfl,h0⟩|x::xs,P,R,σ,h0,hs=>by
 obtain⟨c,j,h⟩:=hs 0 x σ rfl h0;rcases h with⟨d,e,f⟩|⟨w,e,f⟩
 .rcases wG (xs:=xs) _ _ f λi y σ k l=>hs (i+1) y σ (by simpa using k) l with⟨a,e3,h3⟩|⟨i,w,hi,e3,h3⟩;.exact .inl ⟨a,by simp only[forL,j,e,jW];exact e3,h3⟩
  .exact .inr ⟨i+1,w,by simpa using hi,by simp only[forL,j,e,jW];exact e3,h3⟩
 .exact .inr ⟨0,w,by simp,by simp only[forL,j,e,jW],f⟩
theorem cV{g t e σ}{i:Type}{emb f}:∀{xs:List i},(∀x∈xs,∃a,g (emb x) σ=.ok a/\t a=.ok true/\e a=.ok (f x))->bH g t e σ (xs.map emb)=.ok (xs.map f)|[],_=>rfl|x::xs,h=>by obtain⟨a,d,c,j⟩:=h x (by simp);have b:=cV (xs:=xs) λy k=>h y (by grind);simp [bH,d,c,j,b]
end WL
namespace ML
open PySem WL
abbrev S3:=Int×Int×Int
noncomputable def stW(p:S3):W:=.tup [.int p.1,.int p.2.1,.int p.2.2]
noncomputable def spW(p:Int×Int):W:=.tup [.int p.1,.int p.2]
def flW(f:List S3):W:=.tup (f.map stW)
noncomputable def bh(p:S3):Int×Int:=(p.1,p.2.1)
@[simp]def apj(n:Nat)(i:Int):okD n (.int i)=true:=(rfl)
@[simp]def aph(n:Nat)(xs:List W):okD n (.tup xs)=gL n xs:=(rfl)
@[simp]def anW(n:Nat):gL (n+1) []=true:=(rfl)
@[simp]def acD(n:Nat)(x:W)(xs:List W):gL (n+1) (x::xs)=(okD n x&&gL (n+1) xs):=(rfl)
@[simp]def apW(a b:Str):eqv (.str a) (.str b)=(a==b):=(rfl)
@[simp]def ajP(a b:Int):eqv (.int a) (.int b)=(a==b):=(rfl)
@[simp]def apV(a b:List W):eqv (.tup a) (.tup b)=aeO a b:=(rfl)
@[simp]def apU:aeO [] []=true:=(rfl)
@[simp]def adM(x y:W)(xs ys:List W):aeO (x::xs) (y::ys)=(eqv x y&&aeO xs ys):=(rfl)
def ahC(a b):ltW (.tup a) (.tup b)=aju a b:=(rfl)
def acX(x y a b):aju (x::a) (y::b)=if eqv x y then aju a b else ltW x y:=(rfl)
def amr(i j):ltW (.int i) (.int j)=decide (i<j):=(rfl)
@[simp] def aqL (n:Nat) (p:Int×Int):okD (n+1) (spW p)=true:=by simp[spW]
@[simp] theorem aqK (n:Nat) (p:S3):okD (n+1) (stW p)=true:=by simp[stW]
theorem ie (n ):∀ a,(∀ x∈a,okD n x=true)->gL (n+1) a=true
  | [],_=>rfl
  | x::a,h=>by simp;exact⟨h x (by simp),ie n _ λy b=>h y (by grind)⟩
@[simp]def acE(n)(f):okD (n+2) (flW f)=true:=by exact ie _ _ λx a=>by obtain⟨p,_,rfl⟩:=ase.mp a;simp
def ahQ(p q):eqv (spW p) (spW q)=decide (p=q):=by obtain⟨a,b⟩:=p;obtain⟨c,d⟩:=q;rw[asq];simp[spW]
def y0(p q):eqv (stW p) (stW q)=decide (p=q):=by obtain⟨a,b,e⟩:=p;obtain⟨c,d,k⟩:=q;rw[asq];simp[stW]
theorem adL:∀f g:List S3,aeO (f.map stW) (g.map stW)=decide (f=g)|[],[]=>rfl|[],_::_=>rfl|_::_,[]=>rfl|p::f,q::g=>by simp only[arZ,adM,y0,adL f g];simp
def uG(f g):eqv (flW f) (flW g)=decide (f=g):=by simp [flW,adL]
@[simp]def ahz(p q):oEq (spW p) (spW q)=.ok (.bl (decide (p=q))):=by have:zI (spW p) (spW q)=false:=rfl;simp[oEq,this,ahQ]
@[simp]def amf(p q:List S3):oEq (flW p) (flW q)=.ok (.bl (decide (p=q))):=by have:zI (flW p) (flW q)=false:=rfl;simp[oEq,this,uG]
@[simp] def ye (p:S3):plain (stW p)=true:=by simp[stW]
@[simp] theorem alM (f:List S3):jP (f.map stW)=true:=(zW _).mpr λx a=>by
  obtain⟨p,_,rfl⟩:=ase.mp a
  simp
def ahy{f p k}(h0:0<=k)(h:f[k.toNat]?=some p):oIx (flW f) (.int k)=.ok (stW p):=by simp[flW,ahU _ h0,h]
noncomputable def sfp(p:S3)(m n:Int):Int×Int:=if p.2.2=0 then(p.1+n,p.2.1+m)else if p.2.2=1 then(p.1-m,p.2.1+n)else if p.2.2=2 then(p.1-n,p.2.1-m)else(p.1+m,p.2.1-n)
noncomputable def aii(s:Int×Int):Nat->List S3->W|_,[]=>.non|k,p::f=>if bh p=s then .int k else aii s (k+1) f
def aY(f:List S3):Nat->List S3:=λi=>f.map (FM.tqn i)
def amq(p q):ltW (stW p) (stW q)=FM.lx [p.1,p.2.1,p.2.2] [q.1,q.2.1,q.2.2]:=by simp only[stW,ahC,acX,amr,FM.lx,ajP,atj];rfl
theorem yD:∀(a b c d:List Int),a.length=b.length->FM.lx (a++c) (b++d)=if a=b then FM.lx c d else FM.lx a b
|[],[],c,d,_=>by simp|[],_::_,_,_,h=>by simp at h|_::_,[],_,_,h=>by simp at h|x::a,y::b,c,d,h=>by
 have f:=yD a b c d (by simpa using h);simp only[asA,FM.lx,f];by_cases e:x=y;.subst e;simp
 .simp[e]
theorem acW:∀f g:List S3,aju (f.map stW) (g.map stW)=FM.lx (FM.flat f) (FM.flat g)|[],[]=>rfl|[],_::_=>rfl|_::_,[]=>rfl|p::f,q::g=>by have h:=yD [p.1,p.2.1,p.2.2] [q.1,q.2.1,q.2.2] (FM.flat f) (FM.flat g) rfl;simp  at h;simp [acX,FM.flat,y0,acW f g,amq,h];obtain⟨a,b,c⟩:=p;obtain⟨d,e,k⟩:=q;simp
def ams(f g):ltW (flW f) (flW g)=FM.lx (FM.flat f) (FM.flat g):=by simp [flW,ahC,acW]
theorem y9:∀f g:List S3,aaF (f.map stW) (g.map stW)=true|[],_=>rfl|_::_,[]=>rfl|p::f,q::g=>by simp[aaF,stW,ahS,y9 f g]
def aj3(f g):ahS (flW f) (flW g)=true:=by simp [flW,ahS,y9]
theorem u9(a):∀k,aeR a k=FM.best a k|0=>rfl|k+1=>by simp [aeR,FM.best,u9 _ k]
def acP(f):minOf [flW (aY f 0),flW (aY f 1),flW (aY f 2),flW (aY f 3)]=.ok (flW (FM.pick (aY f) 3)):=by
 have h:gL 51 [flW (aY f 0),flW (aY f 1),flW (aY f 2),flW (aY f 3)]=true:=by simp[gL]
 have e:([flW (aY f 0),flW (aY f 1),flW (aY f 2),flW (aY f 3)].all λx=>[flW (aY f 0),flW (aY f 1),flW (aY f 2),flW (aY f 3)].all λy=>ahS x y)=true:=by simp[aj3]
 unfold minOf;rw[arM ⟨by simp,h,e⟩];have g:∀i j,i<=3->j<=3->(λi j=>ltW ([flW (aY f 0),flW (aY f 1),flW (aY f 2),flW (aY f 3)].getD i .non) ([flW (aY f 0),flW (aY f 1),flW (aY f 2),flW (aY f 3)].getD j .non)) i j=FM.lx _ _:=λi j c k=>by
  have d:∀i:Nat,i<=3->[flW (aY f 0),flW (aY f 1),flW (aY f 2),flW (aY f 3)].getD i .non=flW (aY f i):=λi c=>by match i,c with|0,_=>rfl|1,_=>rfl|2,_=>rfl|3,_=>rfl
  show ltW _ _=_;rw[d i c,d j k,ams]
 have l:=FM.tM (fs:=aY f) (n:=3) g 3 (by decide);have a:=FM.xj (λi j=>ltW ([flW (aY f 0),flW (aY f 1),flW (aY f 2),flW (aY f 3)].getD i .non) ([flW (aY f 0),flW (aY f 1),flW (aY f 2),flW (aY f 3)].getD j .non)) 3;rw[l,u9];show ofO [flW (aY f 0),flW (aY f 1),flW (aY f 2),flW (aY f 3)][FM.best _ 3]?=_;generalize FM.best _ 3=b at a⊢;match b,a with|0,_=>rfl|1,_=>rfl|2,_=>rfl|3,_=>rfl
def aeD{f g:List S3}(a:∀p∈f,FM.Good p)(c:∀p∈g,FM.Good p):FM.pick (aY f) 3=FM.pick (aY g) 3↔∃q,q<=3/\f.map (FM.tqn q)=g:=by
 constructor
 .intro h;obtain⟨i,n,k⟩:=FM.gi (aY f) 3;obtain⟨j,o,d⟩:=FM.gi (aY g) 3;have e:f.map (FM.tqn i)=g.map (FM.tqn j):=by rw[k,d]at h;exact h
  refine⟨(i+(4-j))%4,by omega,?_⟩;rw[<-FM.abr a];have l:(f.map (FM.tqn i)).map (FM.tqn (4-j))=g:=by rw[e,asM];refine FM.hE g λp m=>?_;show FM.tqn (4-j) (FM.tqn j p)=p;rw[FM.mP,show 4-j+j=4 by omega];exact FM.aqu p (c p m)
  rw[<-l,asM];refine FM.fb f λp _=>?_;show _=FM.tqn (4-j) (FM.tqn i p);rw[FM.mP,Nat.add_comm]
 .rintro⟨q,b,rfl⟩;exact(FM.oq a q b).symm
mutual theorem eqv_refl:∀(n:Nat)(x:W),okD n x=true->eqv x x=true|_,.non,_=>rfl|_,.bl _,_=>by show(_==_)=_;simp|_,.int _,_=>by simp|_,.str _,_=>by simp|_,.ty _,h=>by cases h|n,.tup xs,h=>by exact oF n xs (by assumption)|n,.lst xs,h=>by exact oF n xs (by assumption)|_,.dic _ _,h=>by cases h|_,.cls _,h=>by cases h|_,.exc _ _,h=>by cases h|_,.ins _ _,h=>by cases h|_,.id _,h=>by cases h theorem oF:∀(n:Nat)(xs:List W),gL n xs=true->aeO xs xs=true|_,[],_=>rfl|0,_::_,h=>by cases h|n+1,x::xs,h=>by simp only[acD,asj]at h;simp only[adM,asj];exact⟨eqv_refl n x h.1,oF (n+1) xs h.2⟩end
def yu{x}(h:okD 50 x=true):oNe x x=.ok (.bl false):=by unfold oNe;simp[h,eqv_refl _ x h]
theorem toNat_inj{a b:Char}(h:a.toNat=b.toNat):a=b:=Char.ext (UInt32.toNat_inj.mp h)
@[simp]def ahv(a b):(Str.ofString a=Str.ofString b)=(a=b):=by
 apply propext;constructor
 .intro h;rw[auy,auy]at h;have c:a.toList.map Char.toNat=b.toList.map Char.toNat:=by grind
  exact String.toList_inj.mp (List.map_inj_right (λ_ _=>toNat_inj)|>.mp c)
 .intro h;rw[h]
@[simp]def ahw(a b):(Str.ofString a==Str.ofString b)=(a==b):=by rw[asq];simp
def aj4(c:Char):c.toNat<0x110000:=by have h:=c.valid;have a:c.toNat=c.val.toNat:=rfl;omega
@[simp]def api(n)(a):okD n (.str (Str.ofString a))=true:=by show(Str.ofString a).cps.all _=true;simp only[auy];simp only[List.all_toArray,avx,asx,Function.comp,asy];intro c _;exact aj4 c
@[simp] def apz (a b:Str):oEq (.str a) (.str b)=.ok (.bl (decide (a=b))):=by show Res.ok (W.bl (a==b))=_;rw[atV]
@[simp] theorem apn (a b:Str):oNe (.str a) (.str b)=.ok (.bl (!decide (a=b))):=by show Res.ok (W.bl !(a==b))=_;rw[atV]
theorem nX (x ) (ys ):oIn x (.tup ys)=if okD 50 x&&gL 51 ys then .ok (.bl (dO x ys)) else .bad:=(rfl)
@[simp] def akG (x:W):dO x []=false:=by simp[dO]
@[simp] theorem ake (x y:W) (ys:List W):dO x (y::ys)=(eqv y x || dO x ys):=by simp[dO]
noncomputable def xH (s:Int×Int):Nat->List S3->Option Nat
  | _,[]=>none
  | k,p::f=>if bh p=s then some k else xH s (k+1) f
noncomputable def onW:Option Nat->W|none=>.non|some k=>.int k
@[simp]def anV:onW none=.non:=(rfl)
@[simp]def anU(k):onW (some k)=.int k:=(rfl)
theorem ag9(s):∀k f,aii s k f=onW (xH s k f)|_,[]=>rfl|k,p::f=>by simp [aii,xH,ag9 s _ f];split<;>rfl
theorem vo(s):∀k f i,xH s k f=some i->k<=i/\i<k+f.length
|_,[],_,h=>by simp[xH]at h|k,p::f,i,h=>by
 simp [xH]at h;split at h;.cases h;simp
 .have:=vo s _ f i h;simp ;omega
inductive What where|none|any|same|left|about|right|partner|opposite
inductive Lone where|head|side|lefts|rights|inward|outward|sideways
noncomputable def What.w:What->String|.none=>"none"|.any=>"any"|.same=>"same"|.left=>"left"|.about=>"about"|.right=>"right"|.partner=>"partner"|.opposite=>"opposite"
noncomputable def Lone.w:Lone->String|.head=>"head"|.side=>"side"|.lefts=>"lefts"|.rights=>"rights"|.inward=>"inward"|.outward=>"outward"|.sideways=>"sideways"
inductive Tst where|lone(l:Lone)|at(a r:Int)(w:What)|inner(n:Int)
def Tst.W:Tst->WL.W|.lone l=>.tup [.str l.w]|.at a r w=>.tup [.str "at",.int a,.int r,.str w.w]|.inner n=>.tup [.str "inner",.int n]
def tsW(neg:Bool)(t:Tst):WL.W:=if neg then .tup [.str "not",t.W]else t.W
noncomputable def far(s:Int×Int):Int:=if(if s.2<0 then -s.2 else s.2)>if s.1<0 then -s.1 else s.1 then if s.2<0 then -s.2 else s.2 else if s.1<0 then -s.1 else s.1
noncomputable def cv(f:List S3)(k:Nat):Int:=(f.getD k (0,0,0)).2.2
def i6(f:List S3)(d:Nat)(p:S3)(w:What):Option Nat->Bool
|none=>match w with|.none=>true|_=>false
|some k=>match w with|.none=>false|.any=>true|.same=>decide (cv f k=p.2.2)|.left=>decide (cv f k=(p.2.2+1)%4)|.about=>decide (cv f k=(p.2.2+2)%4)|.right=>decide (cv f k=(p.2.2+3)%4)|.partner=>decide ((k:Int)=if(d:Int)%2=0 then(d:Int)+1 else d-1)|.opposite=>decide ((k:Int)=(d+4)%8)
def jh(f:List S3)(d:Nat)(p:S3):Tst->Bool|.lone .head=>decide ((d:Int)/2%2=0)|.lone .side=>!decide ((d:Int)/2%2=0)|.lone .lefts=>decide ((d:Int)%2=0)|.lone .rights=>!decide ((d:Int)%2=0)|.lone .inward=>decide (far (sfp p 1 0)<far (bh p))|.lone .outward=>decide (far (bh p)<far (sfp p 1 0))|.lone .sideways=>decide (far (sfp p 1 0)=far (bh p))|.inner n=>decide (far (bh p)<=n)|.at a r w=>i6 f d p w (xH (sfp p a r) 0 f)
inductive Go where|ahead|back|left|right
inductive Tn where|left|right|about
noncomputable def Go.w:Go->String|.ahead=>"ahead"|.back=>"back"|.left=>"left"|.right=>"right"
noncomputable def Tn.w:Tn->String|.left=>"left"|.right=>"right"|.about=>"about"
inductive Stp where|go(g:Go)(n:Int)|turn(t:Tn)
def Stp.W:Stp->WL.W|.go g n=>.tup [.str g.w,.int n]|.turn t=>.tup [.str "turn",.str t.w]
structure Rl where ts:List (Bool×Tst)ss:Option (List Stp)
def tsL(ts:List (Bool×Tst)):WL.W:=.tup (ts.map λp=>tsW p.1 p.2)
def ssW:Option (List Stp)->WL.W|none=>.tup [.tup [.str "stay"]]|some l=>.tup (l.map Stp.W)
def Rl.W(r:Rl):WL.W:=.tup [tsL r.ts,ssW r.ss]
def clW(c:List Rl):WL.W:=.lst (c.map Rl.W)
def ajk{ι:Type}(n)(g)(l:List ι)(h:∀x∈l,okD n (g x)=true):gL (n+1) (l.map g)=true:=ie n _ λx a=>by grind
@[simp]def apv(r:Rl):oIx r.W (.int 0)=.ok (tsL r.ts):=(rfl)
@[simp]def apu(r:Rl):oIx r.W (.int 1)=.ok (ssW r.ss):=(rfl)
def ame{c}{k:Nat}(a):oIx (clW c) (.int k)=.ok c[k].W:=by simp[clW,h8,a]
noncomputable def ami(g b:Bool):Bool:=if g then !b else b
def zS(f:List S3)(d:Nat)(r:Rl):Bool:=r.ts.all λp=>ami p.1 (jh f d (f.getD d (0,0,0)) p.2)
noncomputable def jc(f:List S3)(d:Nat):Nat->List Rl->Option Nat|_,[]=>none|k,r::c=>if zS f d r then some k else jc f d (k+1) c
theorem qU(f)(d):∀k c i,jc f d k c=some i->k<=i/\i<k+c.length
|_,[],_,h=>by simp[jc]at h|k,r::c,i,h=>by
 simp [jc]at h;split at h;.cases h;simp
 .have:=qU f d _ c i h;simp ;omega
def zg(l:List Bool):allB (l.map .bl)=some (l.all id):=by induction l with|nil=>rfl|cons b l ih=>simp[allB,ih]
abbrev jt(f:List S3):Prop:=f.Pairwise λp r=>bh p≠bh r
def aiG{p q:S3}(h:bh (FM.tq p)=bh (FM.tq q)):bh p=bh q:=by obtain⟨a,b,c⟩:=p;obtain⟨d,e,k⟩:=q;simp only[bh,FM.tq,Prod.mk.injEq]at h⊢;omega
def afz(k:Nat):∀{p q:S3},bh (FM.tqn k p)=bh (FM.tqn k q)->bh p=bh q:=by induction k with|zero=>intro p q h;exact h|succ k ih=>intro p q h;exact ih (aiG h)
def aeB{f:List S3}(h:jt f)(k:Nat):jt (f.map (FM.tqn k)):=by rw[jt,List.pairwise_map];exact h.imp λa e=>a (afz k e)
inductive Met(f:List S3):W->Prop|none:jt f->Met f .non|two(i j:Nat):i<j->j<f.length->bh (f.getD i (0,0,0))=bh (f.getD j (0,0,0))->(∀a b,a<i->a<b->b<f.length->bh (f.getD a (0,0,0))≠bh (f.getD b (0,0,0)))->(∀b,i<b->b<j->bh (f.getD i (0,0,0))≠bh (f.getD b (0,0,0)))->Met f (.tup [.int i,.int j])
def agV{f}(h:∀a b,a<b->b<f.length->bh (f.getD a (0,0,0))≠bh (f.getD b (0,0,0))):jt f:=by rw[jt,avm];intro i j e d c;have:=h i j c d;simpa[e,d]using this
def ml{f}(h:jt f){a b}(c:a<b)(e:b<f.length):bh (f.getD a (0,0,0))≠bh (f.getD b (0,0,0)):=by
 rw[jt,avm]at h;have d:a<f.length:=by omega
 have:=h a b d e c;simpa[d,e]using this
def qN(p:S3):Stp->S3|.go .ahead n=>((sfp p n 0).1,(sfp p n 0).2,p.2.2)|.go .back n=>((sfp p (-n) 0).1,(sfp p (-n) 0).2,p.2.2)|.go .left n=>((sfp p 0 (-n)).1,(sfp p 0 (-n)).2,p.2.2)|.go .right n=>((sfp p 0 n).1,(sfp p 0 n).2,p.2.2)|.turn .left=>(p.1,p.2.1,(p.2.2+1)%4)|.turn .about=>(p.1,p.2.1,(p.2.2+2)%4)|.turn .right=>(p.1,p.2.1,(p.2.2+3)%4)
noncomputable def i5(p:S3):List Stp->List S3|[]=>[p]|s::l=>p::i5 (qN p s) l
def jR(p:S3):Option (List Stp)->List S3|none=>[p]|some l=>i5 p l
def Fac(p:S3):Prop:=0<=p.2.2/\p.2.2<4
def m8(p)(s)(h:Fac p):Fac (qN p s):=by obtain⟨b,a⟩:=h;cases s with|go g n=>cases g<;>exact⟨b,a⟩|turn t=>cases t<;>(constructor<;>simp [qN]<;>omega)
theorem sP:∀l p,Fac p->∀q∈i5 p l,Fac q
|[],p,h,q,a=>by simp [i5]at a;rw[a];exact h|s::l,p,h,q,a=>by
 simp [i5]at a;rcases a with rfl|a;.exact h
 .exact sP l _ (m8 p s h) q a
def tN(s)(p)(h:Fac p):∀q∈jR p s,Fac q:=by cases s with|none=>intro q a;simp only[jR,asn]at a;rw[a];exact h|some l=>exact sP l p h
theorem sO:∀l p,(i5 p l).length=l.length+1|[],p=>rfl|s::l,p=>by simp[i5,sO l]
def zF:∀l p,∃t,i5 p l=p::t|[],p=>⟨[],rfl⟩|s::l,p=>⟨_,rfl⟩
def zZ(s)(p):∃t,jR p s=p::t:=by cases s with|none=>exact⟨[],rfl⟩|some l=>exact zF l p
noncomputable def inB(p:S3):Bool:=decide (-200<=p.1)&&decide (p.1<=200)&&(decide (-200<=p.2.1)&&decide (p.2.1<=200))
noncomputable def gm(w:List S3):S3:=w.getLastD (0,0,0)
def qE(w:List S3):W:=.lst (w.map stW)
def lU(ws:List (List S3)):W:=.lst (ws.map qE)
noncomputable def smW:Option (List Nat)->W|none=>.non|some l=>.lst (l.map λk:Nat=>.int k)
noncomputable def aok(a:Option (List Nat))(d:Nat):Bool:=match a with|none=>true|some l=>l.contains d
def lV(f:List S3)(c:List Rl)(a:Option (List Nat))(d:Nat):Option (Option (List Stp)):=if aok a d then(jc f d 0 c).map λk=>(c.getD k ⟨[],none⟩).ss else some (some [])
def bZ(f:List S3)(c:List Rl)(a:Option (List Nat)):List (List S3):=(List.range 8).map λd=>jR (f.getD d (0,0,0)) ((lV f c a d).getD none)
noncomputable def vd:Nat->List (List S3)->Option Nat|_,[]=>none|k,w::ws=>if(w.drop 1).all inB then vd (k+1) ws else some k
noncomputable def exN(nm:String)(d:Nat):W:=.exc nm [.int d]
def iE(f:List S3)(c:List Rl)(a:Option (List Nat)):Res (List (List S3)):=match(List.range 8).find? λd=>(lV f c a d).isNone with|some d=>.ex (exN "Blind" d)|none=>match vd 0 (bZ f c a)with|some d=>.ex (exN "Out" d)|none=>.ok (bZ f c a)
noncomputable def akp{a}:List (Res a)->Res (List a)|[]=>.ok []|r::rs=>r.bind λx=>(akp rs).bind λb=>.ok (x::b)
theorem uU{g t e σ}{f:Type}{emb h}:∀{xs:List f},(∀x∈xs,∃a,g (emb x) σ=.ok a/\t a=.ok true/\e a=h x)->bH g t e σ (xs.map emb)=akp (xs.map h)|[],_=>rfl|x::xs,hh=>by obtain⟨a,d,c,i⟩:=hh x (by simp);have b:=uU (xs:=xs) λy j=>hh y (by grind);simp [bH,d,c,i,akp,b]
noncomputable def stR{b:Type}(k:b->W)(x:W):Option b->Res W|some a=>.ok (k a)|none=>.ex x
noncomputable def stN{b:Type}(k:b->W):Option b->W|some a=>k a|none=>.non
@[simp]def anK{b}(k)(x)(a:b):stR k x (some a)=.ok (k a):=(rfl)
@[simp]def anL{a}(k:a->W)(x):stR k x none=.ex x:=(rfl)
@[simp]def anM{b}(k)(a:b):stN k (some a)=k a:=(rfl)
theorem tE{c b:Type}{h:b->Option c}{k}{x:b->W}:∀(l:List b),akp (l.map λi=>stR k (x i) (h i))=(l.find? λi=>(h i).isNone).elim (.ok (l.map λi=>stN k (h i))) λi=>.ex (x i)|[]=>rfl|i::l=>by simp [akp,at5];cases e:h i with|none=>simp|some a=>rw[tE l];cases l.find? _<;>rfl
def ac6{w}(h:w≠[]):gm w∈w:=by cases w with|nil=>exact absurd rfl h|cons x xs=>exact List.getLast_mem h
def iC{a}(xs:List a):atI xs (-1)=xs.getLast?:=by unfold atI ixN;cases xs with|nil=>rfl|cons x xs=>
 have h:¬0 <=-1:=by omega
 rw[arO h];have b:-((x::xs).length:Int)<=-1:=by grind
 rw[arM b];simp only[auE,List.getLast?_eq_getElem?];congr 1;omega
def getD_mem{f:List S3}{d:Nat}(h:d<f.length):f.getD d (0,0,0)∈f:=by rw[ar5,arQ h];exact asS h
def ae8{f:List S3}{s:Int×Int}{k:Nat}(h:xH s 0 f=some k):k<f.length:=by have:=vo s 0 f k h;omega
noncomputable def rot(s:Int×Int):Int×Int:=(-s.2,s.1)
def aiY{s t}:rot s=rot t↔s=t:=by obtain⟨a,b⟩:=s;obtain⟨c,d⟩:=t;simp only[rot,Prod.mk.injEq];omega
def alc(p)(h:Fac p):Fac (FM.tq p):=by constructor<;>simp [FM.tq]<;>omega
def jD(p:S3):bh (FM.tq p)=rot (bh p):=rfl
def abN(p)(h:Fac p)(m n):sfp (FM.tq p) m n=rot (sfp p m n):=by
 obtain⟨x,y,f⟩:=p;obtain⟨a,b⟩:=h;have r:f=0\/f=1\/f=2\/f=3:=by grind
 rcases r with rfl|rfl|rfl|rfl<;>simp[sfp,FM.tq,rot]<;>omega
def adI(s:Int×Int):far (rot s)=far s:=by obtain⟨a,b⟩:=s;simp only[far,rot];by_cases e:a<0<;>by_cases d:b<0<;>by_cases c:-b<0<;>simp only[e,d,c,ate,asW]<;>(repeat' split)<;>omega
def afy(p)(h:Fac p)(s):qN (FM.tq p) s=FM.tq (qN p s):=by cases s with|go g n=>cases g<;>simp [qN,abN p h]<;>rfl|turn t=>cases t<;>simp[qN,FM.tq]<;>omega
theorem xW:∀l p,Fac p->i5 (FM.tq p) l=(i5 p l).map FM.tq|[],p,_=>rfl|s::l,p,h=>by simp [i5,afy p h s,xW l _ (m8 p s h)]
def afV(s)(p)(h:Fac p):jR (FM.tq p) s=(jR p s).map FM.tq:=by cases s with|none=>rfl|some l=>exact xW l p h
def amT(p:S3):inB (FM.tq p)=inB p:=by obtain⟨x,y,f⟩:=p;show(decide (-200 <=-y)&&decide (-y<=200)&&(decide (-200<=x)&&decide (x<=200)))=(decide _&&decide _&&(decide _&&decide _));rw[asq];simp only[asj,asy];constructor<;>omega
theorem ag8(s):∀f j,xH (rot s) j (f.map FM.tq)=xH s j f
|[],_=>rfl|p::f,j=>by
 simp [xH,jD,ag8 s f _];by_cases h:bh p=s;.rw[arM h,arM (by rw[h])]
 .rw[arO h,arO λe=>h (aiY.mp e)]
def wF{f:List S3}{d:Nat}(h:d<f.length):(f.map FM.tq).getD d (0,0,0)=FM.tq (f.getD d (0,0,0)):=by rw[ar5,ar3,ar5,arQ h];rfl
def aiN{f:List S3}(a:∀p∈f,Fac p){d:Nat}(h:d<f.length)(w:What)(o:Option Nat)(m:∀k,o=some k->k<f.length):i6 (f.map FM.tq) d (FM.tq (f.getD d (0,0,0))) w o=i6 f d (f.getD d (0,0,0)) w o:=by cases o with|none=>rfl|some k=>
 have b:=m k rfl;have i:cv (f.map FM.tq) k=(cv f k+1)%4:=by unfold cv;rw[wF b];rfl
 have n:0<=cv f k/\cv f k<4:=a _ (getD_mem b);have g:=a _ (getD_mem h);have c:(FM.tq (f.getD d (0,0,0))).2.2=((f.getD d (0,0,0)).2.2+1)%4:=rfl;generalize f.getD d (0,0,0)=p at *;obtain⟨q,e⟩:=n;obtain⟨l,j⟩:=g;cases w<;>simp only[i6,i,c]<;>first|rfl|(rw[asq];simp only[asy];omega)
def ajE{f}(e:∀p∈f,Fac p){d}(b:d<f.length)(t):jh (f.map FM.tq) d ((f.map FM.tq).getD d (0,0,0)) t=jh f d (f.getD d (0,0,0)) t:=by rw[wF b];have c:=e _ (getD_mem b);cases t with|«at» a r w=>simp only[jh,abN _ c,ag8,aiN e b w _ λk h=>ae8 h]|inner n=>simp only[jh,jD,adI]|lone l=>cases l<;>simp only[jh,abN _ c,jD,adI]
theorem x6{f}(b:∀p∈f,Fac p){d}(a:d<f.length):∀c k,jc (f.map FM.tq) d k c=jc f d k c
|[],_=>rfl|r::c,k=>by
 have e:zS (f.map FM.tq) d r=zS f d r:=by unfold zS;congr 1;funext p;rw[ajE b a]
 simp [jc,e,x6 b a c]
def ahg{f}(e:∀p∈f,Fac p){d}(b:d<f.length)(c)(a):lV (f.map FM.tq) c a d=lV f c a d:=by unfold lV;rw[x6 e b]
def afU{f}(h:f.length=8)(e:∀p∈f,Fac p)(c)(b):bZ (f.map FM.tq) c b=(bZ f c b).map (List.map FM.tq):=by
 unfold bZ;rw[asM];refine auW λd g=>?_;have a:d<f.length:=by grind
 rw[wF a,ahg e a,afV _ _ (e _ (getD_mem a))];rfl
theorem acv:∀ws k,vd k (ws.map (List.map FM.tq))=vd k ws
|[],_=>rfl|w::ws,k=>by
 have e:((w.map FM.tq).drop 1).all inB=(w.drop 1).all inB:=by rw[<-List.map_drop,avx];congr 1;funext p;exact amT p
 simp only[arZ,vd,e,acv _ _]
def aio{f}(i:f.length=8)(g:∀p∈f,Fac p)(c)(a):iE (f.map FM.tq) c a=(iE f c a).bind λws=>.ok (ws.map (List.map FM.tq)):=by
 unfold iE;have e:=by
  have:∀l:List Nat,(∀d∈l,d<8)->(l.find? λd=>(lV (f.map FM.tq) c a d).isNone)=l.find? λd=>(lV f c a d).isNone:=λl=>by induction l with|nil=>intro _;rfl|cons x l ih=>intro h;rw[at5,at5,ahg g (by simp_all),ih λd b=>h d (by grind)]
  exact this _ λd b=>asK.mp b
 rw[e,afU i g,acv];cases(List.range 8).find? _ with|some d=>rfl|none=>cases vd 0 _<;>rfl
def aiv(k)(p)(h:Fac p):Fac (FM.tqn k p):=by induction k with|zero=>exact h|succ k ih=>exact alc _ ih
def afe(k){f}(e:f.length=8)(i:∀p∈f,Fac p)(c)(a):iE (f.map (FM.tqn k)) c a=(iE f c a).bind λws=>.ok (ws.map (List.map (FM.tqn k))):=by induction k with
|zero=>
 have b:f.map (FM.tqn 0)=f:=FM.hE f λp _=>rfl;have d:∀ws:List _,ws.map (List.map (FM.tqn 0))=ws:=λws=>by
  have:List.map (FM.tqn 0)=id:=by funext w;exact FM.hE w λp _=>rfl
  rw[this,List.map_id]
 rw[b];cases iE f c a with|ok ws=>simp only[cI,d]|ex x|bad=>rfl
|succ k ih=>
 have b:f.map (FM.tqn (k+1))=(f.map (FM.tqn k)).map FM.tq:=by rw[asM];rfl
 rw[b,aio (by simp[e]) λp g=>by obtain⟨r,h,rfl⟩:=ase.mp g;exact aiv k r (i r h),ih];cases iE f c a with|ok ws=>simp only[cI,asM];congr 1;refine auW λw _=>?_;show(w.map (FM.tqn k)).map FM.tq=_;rw[asM];rfl|ex x=>rfl|bad=>rfl
def agl(k){w:List S3}(h:w≠[]):gm (w.map (FM.tqn k))=FM.tqn k (gm w):=by unfold gm;rw[at7,at7,atP,ata h];rfl
end ML
namespace K67
open PySem WL
noncomputable def fX:W:=.tup [.tup [.int (-1),.int (-3),.int 0],.tup [.int 1,.int (-3),.int 0],.tup [.int 3,.int (-1),.int 1],.tup [.int 3,.int 1,.int 1],.tup [.int 1,.int 3,.int 2],.tup [.int (-1),.int 3,.int 2],.tup [.int (-3),.int 1,.int 3],.tup [.int (-3),.int (-1),.int 3]]
noncomputable def fY:W:=.int 8
noncomputable def lp:W:=.int 200
noncomputable def lj:W:=.tup [.tup [.int 0,.int 1],.tup [.int (-1),.int 0],.tup [.int 0,.int (-1)],.tup [.int 1,.int 0]]
noncomputable def dj:W:=.int 4
noncomputable def j6:W:=.dic [.str "same",.str "left",.str "about",.str "right"] [.int 0,.int 1,.int 2,.int 3]
noncomputable def j7:W:=.tup [.str "inward",.str "outward",.str "sideways"]
noncomputable def h7:W:=.dic [.str "ahead",.str "back",.str "left",.str "right"] [.tup [.int 1,.int 0],.tup [.int (-1),.int 0],.tup [.int 0,.int (-1)],.tup [.int 0,.int 1]]
noncomputable def u1:W:=.int 12
noncomputable def uZ:W:=.int 6
noncomputable def u0:W:=.int 8
noncomputable def cX:W:=.int 9
noncomputable def pG:W:=.int 200
noncomputable def pH:W:=.int 9
noncomputable def xi:W:=.tup [.str "none",.str "any",.str "same",.str "left",.str "about",.str "right",.str "partner",.str "opposite"]
noncomputable def h6:W:=.tup [.str "head",.str "side",.str "lefts",.str "rights",.str "inward",.str "outward",.str "sideways"]
noncomputable def fB:W:=.tup [.str "ahead",.str "back",.str "left",.str "right"]
noncomputable def lh:W:=.tup [.str "left",.str "right",.str "about"]
noncomputable def u2:W:=.int 60
noncomputable def pI:W:=.int 8
noncomputable def oP:W:=.str "abcdefghijklmnopqrstuvwxyz"
noncomputable def aey:W:=.tup [.str "times",.str "heads",.str "sides",.str "lefts",.str "rights",.str "inner",.str "couples"]
def sE:SF:=aJ (sIf (tOr (xS (tB (eBi cY (ae (aj 0) (ae (eC (.ty "str")) au))))) (xS (tB (lS oLe oLe (eC (.int 1)) (eBi aaO (ae (aj 0) au)) (eC pI))))) (bq (eC (.bl false))) sNx) (bq (aeP (eOp g8 (aj 0) (eC aey)) (eBi agU (ae (hY 1 (aqV (aj 0)) (ax 0) kz (eOp aku (aj 0) (eC oP))) au))))
def uC:List W->Res W:=run 1 sE
def jY:SF:=sIf (tB (eOp oEq (eBi aaL (ae (aj 3) au)) (aj 0))) (bq (aj 3)) sNx
def mX:SF:=aJ (nE (uo (aj 1) (eOp fF (aj 2) (eC (.int 1)))) (ax 3) jY) (bq (eC .non))
def oA:List W->Res W:=run 4 mX
def jA:SF:=aJ (bo 3 (ay oA (ae (aj 0) (ae (aj 1) (ae (aj 2) au))))) (aJ (sIf (tB (eOp oIs (aj 3) (eC .non))) vH sNx) (bq (aj 3)))
def cT:List W->Res W:=run 4 jA
def mS:SF:=aJ (sIf (aaT (tB (eOp oEq (aj 0) (eC (.str "turn")))) (tB (eOp oIn (aj 1) (eC lh)))) (bq (lR (ae (aj 0) (ae (aj 1) au)))) sNx) (aJ (sIf (tB (eOp g8 (aj 0) (eC fB))) vH sNx) (bq (lR (ae (aj 0) (ae (ay cT (ae (aj 1) (ae (eC (.int 1)) (ae (eC pH) au)))) au)))))
def ov:List W->Res W:=run 2 mS
def lz:SF:=aJ (sIf (tB (eOp oEq (aj 0) (eC (.str "stay")))) (bq (lR (ae (lR (ae (eC (.str "stay")) au)) au))) sNx) (aJ (bo 1 (uL "str" iQ (aj 0) (ae (eC (.str " ")) au))) (aJ (sIf (tOr (tB (eOp oNe (eOp oMod (eBi iB (ae (aj 1) au)) (eC (.int 2))) (eC (.int 0)))) (tB (eOp oGt (eBi iB (ae (aj 1) au)) (eOp vf (eC (.int 2)) (eC u0))))) vH sNx) (bq (eBi iU (ae (hY 1 (ags (eC (.int 0)) (eBi iB (ae (aj 1) au))) (ax 0) kz (ay ov (ae (eOp oIx (aj 2) (aj 0)) (ae (eOp oIx (aj 2) (eOp fF (aj 0) (eC (.int 1)))) au)))) au)))))
def hJ:List W->Res W:=run 2 lz
def sC:SF:=aJ (sIf (tOr (tB (eOp oNe (eBi iB (ae (aj 0) au)) (eC (.int 4)))) (tB (eOp g8 (eOp oIx (aj 0) (eC (.int 3))) (eC xi)))) vH sNx) (aJ (bo 1 (ay cT (ae (eOp oIx (aj 0) (eC (.int 1))) (ae (eUn yt (eC cX)) (ae (eC cX) au))))) (aJ (bo 2 (ay cT (ae (eOp oIx (aj 0) (eC (.int 2))) (ae (eUn yt (eC cX)) (ae (eC cX) au))))) (aJ (sIf (aaT (tB (eOp oEq (aj 1) (eC (.int 0)))) (tB (eOp oEq (aj 2) (eC (.int 0))))) vH sNx) (bq (lR (ae (eC (.str "at")) (ae (aj 1) (ae (aj 2) (ae (eOp oIx (aj 0) (eC (.int 3))) au)))))))))
def uz:List W->Res W:=run 3 sC
def lA:SF:=aJ (sIf (tB (eOp oNe (eBi iB (ae (aj 0) au)) (eC (.int 2)))) vH sNx) (bq (lR (ae (eC (.str "inner")) (ae (ay cT (ae (eOp oIx (aj 0) (eC (.int 1))) (ae (eC (.int 0)) (ae (eC pG) au)))) au))))
def lQ:List W->Res W:=run 1 lA
def fL:SF:=aJ (sIf (tB (eOp oEq (eOp oIx (aj 0) (eC (.int 0))) (eC (.str "at")))) (bq (ay uz (ae (aj 0) au))) sNx) (aJ (sIf (tB (eOp oEq (eOp oIx (aj 0) (eC (.int 0))) (eC (.str "inner")))) (bq (ay lQ (ae (aj 0) au))) sNx) (aJ (sIf (tOr (tB (eOp oNe (eBi iB (ae (aj 0) au)) (eC (.int 1)))) (tB (eOp g8 (eOp oIx (aj 0) (eC (.int 0))) (eC h6)))) vH sNx) (bq (lR (ae (eOp oIx (aj 0) (eC (.int 0))) au)))))
def dh:List W->Res W:=run 1 fL
def mR:SF:=aJ (bo 1 (uL "str" iQ (aj 0) (ae (eC (.str " ")) au))) (aJ (sIf (aaT (tB (eOp oGt (eBi iB (ae (aj 1) au)) (eC (.int 1)))) (tB (eOp oEq (eOp oIx (aj 1) (eC (.int 0))) (eC (.str "not"))))) (bq (lR (ae (eC (.str "not")) (ae (ay dh (ae (eSl (aj 1) (q0 (eC (.int 1))) pNo) au)) au)))) sNx) (bq (ay dh (ae (aj 1) au))))
def ou:List W->Res W:=run 2 mR
def ly:SF:=aJ (bo 1 (uL "str" iQ (aj 0) (ae (eC (.str " and ")) au))) (aJ (sIf (tB (eOp oGt (eBi iB (ae (aj 1) au)) (eC uZ))) vH sNx) (bq (eBi iU (ae (hY 1 (rZ (aj 1)) (ax 0) kz (ay ou (ae (aj 0) au))) au))))
def lP:List W->Res W:=run 2 ly
def mT:SF:=aJ (sIf (tB (uL "str" jf (aj 0) (ae (eC (.str "> ")) au))) (bq (lR (ae (lR au) (ae (ay hJ (ae (eOp v5 (aj 0) (eC (.int 2))) au)) au)))) sNx) (aJ (bo 1 (uL "str" ud (aj 0) (ae (eC (.str " > ")) au))) (aJ (sIf (tB (eOp oEq (eOp oIx (aj 1) (eC (.int 1))) (eC (.str "")))) vH sNx) (bq (lR (ae (ay lP (ae (eOp oIx (aj 1) (eC (.int 0))) au)) (ae (ay hJ (ae (eOp oIx (aj 1) (eC (.int 2))) au)) au))))))
def oy:List W->Res W:=run 2 mT
def mU:SF:=aJ (sIf (xS (tB (eBi cY (ae (aj 0) (ae (eC (.ty "str")) au))))) vH sNx) (aJ (bo 1 (uL "str" iQ (aj 0) (ae (eC (.str " ; ")) au))) (aJ (sIf (tB (eOp oGt (eBi iB (ae (aj 1) au)) (eC u1))) vH sNx) (bq (hY 1 (rZ (aj 1)) (ax 0) kz (ay oy (ae (aj 0) au))))))
def oz:List W->Res W:=run 2 mU
def yI:SF:=sIf (xS (tB (ay uC (ae (aj 2) au)))) vH sNx
def abF:SF:=sIf (tB (eOp oGt (eBi aaO (ae (aj 1) au)) (eC u2))) vH sNx
def abE:SF:=nE (akx 1) (ax 2) yI
def abl:EF:=ay oz (ae (eOp oIx (aj 1) (aj 2)) au)
def uD:List W->Res W:=aqC abF abE abl
def jZ:SF:=aJ (aqB (uL "str" ud (aj 2) (ae (eC (.str ":")) au)) (r0 (cz (ax 3) (cz (ax 4) (cz (ax 5) r6))))) (jb 1 (aj 5) (aj 3))
def mY:SF:=aJ (bo 0 (px (ae (eC (.str "about:> turn about")) (ae (eC (.str "lt:> turn left")) (ae (eC (.str "walk:at 2 0 none > ahead 2")) au))))) (aJ (bo 0 (eOp fF (aj 0) (px (ae (eC (.str "swap:at 0 2 same > right 2 ; at 0 -2 same > left 2 ; > stay")) au)))) (aJ (bo 0 (eOp fF (aj 0) (px (ae (eC (.str "cross:at 6 0 about > ahead 6 ; at 2 0 about > ahead 2 ; > stay")) au)))) (aJ (bo 0 (eOp fF (aj 0) (px (ae (eC (.str "hin:head and inward > ahead 2 ; > stay")) (ae (eC (.str "hout:head and inner 1 > back 2 ; > stay")) au))))) (aJ (bo 0 (eOp fF (aj 0) (px (ae (eC (.str "face:lefts > turn right ; > turn left")) au)))) (aJ (bo 0 (eOp fF (aj 0) (px (ae (eC (.str "pass:at 2 0 any and not at 4 0 any > ahead 4 ; at 2 0 none > ahead 2 ; > stay")) au)))) (aJ (bo 0 (eOp fF (aj 0) (px (ae (eC (.str "side:side and at 0 2 same > right 1 ahead 2 left 1 ; > stay")) au)))) (aJ (bo 0 (eOp fF (aj 0) (px (ae (eC (.str "ring:outward > turn left ahead 2 ; inward > right 2 turn left ; > turn left")) au)))) (aJ (bo 0 (eOp fF (aj 0) (px (ae (eC (.str "back:inner 3 and not inner 1 > back 2 ; > turn about")) au)))) (aJ (bo 0 (eOp fF (aj 0) (px (ae (eC (.str "meet:at 0 2 partner > right 1 ; at 0 -2 partner > left 1 turn left ; > stay")) au)))) (aJ (bo 0 (eOp fF (aj 0) (px (ae (eC (.str "own:at 0 2 partner > turn left ; at 0 -2 partner > turn right ; > stay")) au)))) (aJ (bo 0 (eOp fF (aj 0) (px (ae (eOp ajn (eOp ajn (eC (.str "off:outward >")) (eOp aaa (eC (.str " ahead 9")) (eC (.int 8)))) (eC (.str " ; > turn about"))) au)))) (aJ (aiT 1) (aJ (nE (rZ (aj 0)) (ax 2) jZ) (ahn 1 (bq (aj 1))))))))))))))))
def cg:List W->Res W:=run 6 mY
def gf:SF:=aJ (sIf (tB (eOp oLt (aj 1) (eBi iB (ae (aj 0) au)))) (bq (eOp oIx (aj 0) (aj 1))) sNx) (bq (eC (.int 0)))
def bw:List W->Res W:=run 2 gf
def gk:SF:=aJ (kE 3 2 (akA 2 (eOp oMod (aj 0) (eBi iB (ae (aj 2) au))))) (bo 0 (eOp oDiv (aj 0) (eC (.int 14))))
def i2:SF:=aJ (tx 2 (ac7 (ay cg au))) (aJ (tx 3 (akw au)) (aJ (nE (kN (aj 1)) (ax 4) gk) (ahn 3 (bq (aj 3)))))
def eM:List W->Res W:=run 5 i2
def sA:SF:=bq (lR (ae (eOp oIx (aj 0) (eC (.int 0))) (ae (eOp oIx (aj 0) (eC (.int 1))) au)))
def eL:List W->Res W:=run 1 sA
def aQ:SF:=sIf (tB (eOp oEq (ay eL (ae (eOp oIx (aj 0) (aj 1)) au)) (ay eL (ae (eOp oIx (aj 0) (aj 2)) au)))) (bq (lR (ae (aj 1) (ae (aj 2) au)))) sNx
def cu:SF:=nE (uo (eOp fF (aj 1) (eC (.int 1))) (eBi iB (ae (aj 0) au))) (ax 2) aQ
def cO:SF:=aJ (nE (kN (eBi iB (ae (aj 0) au))) (ax 1) cu) (bq (eC .non))
def bL:List W->Res W:=run 3 cO
def ib:SF:=aJ (bo 1 (ay bL (ae (aj 0) au))) (aJ (sIf (tB (eOp eZ (aj 1) (eC .non))) (ja "Meet" (ae (eOp oIx (aj 1) (eC (.int 0))) (ae (eOp oIx (aj 1) (eC (.int 1))) au))) sNx) (bq (eBi iU (ae (aj 0) au))))
def dW:List W->Res W:=run 2 ib
def fP:SF:=sIf (tB (eOp oEq (ay eL (ae (aj 3) au)) (aj 1))) (bq (aj 2)) sNx
def xQ:SF:=aJ (nE (wA (aj 0)) (r0 (cz (ax 2) (cz (ax 3) r6))) fP) (bq (eC .non))
def mi:List W->Res W:=run 4 xQ
def i0:SF:=aJ (bo 3 (eOp oIx (eC lj) (eOp oIx (aj 0) (eC (.int 2))))) (aJ (bo 4 (eOp fF (eOp vf (eOp oIx (aj 3) (eC (.int 0))) (aj 1)) (eOp vf (eOp oIx (aj 3) (eC (.int 1))) (aj 2)))) (aJ (bo 5 (eOp acH (eOp vf (eOp oIx (aj 3) (eC (.int 1))) (aj 1)) (eOp vf (eOp oIx (aj 3) (eC (.int 0))) (aj 2)))) (bq (lR (ae (eOp fF (eOp oIx (aj 0) (eC (.int 0))) (aj 4)) (ae (eOp fF (eOp oIx (aj 0) (eC (.int 1))) (aj 5)) au))))))
def cE:List W->Res W:=run 6 i0
def mW:SF:=bq (eIf (tB (eOp oEq (eOp oMod (aj 0) (eC (.int 2))) (eC (.int 0)))) (eOp fF (aj 0) (eC (.int 1))) (eOp acH (aj 0) (eC (.int 1))))
def j1:List W->Res W:=run 1 mW
def pO:SF:=bq (eOp oMod (eOp fF (aj 0) (eOp oDiv (eC fY) (eC (.int 2)))) (eC fY))
def kT:List W->Res W:=run 1 pO
def eg:SF:=bq (eOp oMod (eOp fF (aj 0) (eOp oIx (eC j6) (aj 1))) (eC dj))
def bK:List W->Res W:=run 2 eg
def kn:SF:=aJ (sIf (tB (eOp oIs (aj 2) (eC .non))) (bq (eOp oEq (aj 3) (eC (.str "none")))) sNx) (aJ (sIf (tB (eOp oIn (aj 3) (lR (ae (eC (.str "none")) (ae (eC (.str "any")) au))))) (bq (eOp oEq (aj 3) (eC (.str "any")))) sNx) (bq (eOp oEq (eOp oIx (eOp oIx (aj 1) (aj 2)) (eC (.int 2))) (ay bK (ae (eOp oIx (aj 0) (eC (.int 2))) (ae (aj 3) au))))))
def hU:List W->Res W:=run 4 kn
def abt:SF:=aJ (bo 3 (eOp oIx (aj 0) (aj 1))) (aJ (bo 4 (eOp oIx (aj 2) (eC (.int 3)))) (aJ (bo 5 (ay mi (ae (aj 0) (ae (ay cE (ae (aj 3) (ae (eOp oIx (aj 2) (eC (.int 1))) (ae (eOp oIx (aj 2) (eC (.int 2))) au)))) au)))) (aJ (sIf (tB (eOp oEq (aj 4) (eC (.str "partner")))) (bq (eOp oEq (aj 5) (ay j1 (ae (aj 1) au)))) sNx) (aJ (sIf (tB (eOp oEq (aj 4) (eC (.str "opposite")))) (bq (eOp oEq (aj 5) (ay kT (ae (aj 1) au)))) sNx) (bq (ay hU (ae (aj 3) (ae (aj 0) (ae (aj 5) (ae (aj 4) au))))))))))
def yW:List W->Res W:=run 6 abt
def pP:SF:=bq (eBi aaN (ae (eBi akF (ae (eOp oIx (aj 0) (eC (.int 0))) au)) (ae (eBi akF (ae (eOp oIx (aj 0) (eC (.int 1))) au)) au)))
def fV:List W->Res W:=run 1 pP
def qK:SF:=aJ (bo 1 (ay fV (ae (ay eL (ae (aj 0) au)) au))) (aJ (bo 2 (ay fV (ae (ay cE (ae (aj 0) (ae (eC (.int 1)) (ae (eC (.int 0)) au)))) au))) (aJ (sIf (tB (eOp oEq (aj 2) (aj 1))) (bq (eC (.str "sideways"))) sNx) (bq (eIf (tB (eOp oLt (aj 2) (aj 1))) (eC (.str "inward")) (eC (.str "outward"))))))
def kU:List W->Res W:=run 3 qK
def sG:SF:=bq (eOp oEq (eOp oMod (eOp oDiv (aj 0) (eC (.int 2))) (eC (.int 2))) (eC (.int 0)))
def oD:List W->Res W:=run 1 sG
def sF:SF:=bq (eOp oEq (eOp oMod (aj 0) (eC (.int 2))) (eC (.int 0)))
def oC:List W->Res W:=run 1 sF
def mZ:SF:=aJ (sIf (tB (eOp oIn (aj 1) (lR (ae (eC (.str "head")) (ae (eC (.str "side")) au))))) (bq (eOp oEq (ay oD (ae (aj 0) au)) (eOp oEq (aj 1) (eC (.str "head"))))) sNx) (bq (eOp oEq (ay oC (ae (aj 0) au)) (eOp oEq (aj 1) (eC (.str "lefts")))))
def hX:List W->Res W:=run 2 mZ
def i4(a:List W->Res W):SF:=aJ (bo 3 (eOp oIx (aj 2) (eC (.int 0)))) (aJ (sIf (tB (eOp oEq (aj 3) (eC (.str "not")))) (bq (anc (ay a (ae (aj 0) (ae (aj 1) (ae (eOp oIx (aj 2) (eC (.int 1))) au)))))) sNx) (aJ (sIf (tB (eOp oEq (aj 3) (eC (.str "at")))) (bq (ay yW (ae (aj 0) (ae (aj 1) (ae (aj 2) au))))) sNx) (aJ (sIf (tB (eOp oEq (aj 3) (eC (.str "inner")))) (bq (eOp oLe (ay fV (ae (ay eL (ae (eOp oIx (aj 0) (aj 1)) au)) au)) (eOp oIx (aj 2) (eC (.int 1))))) sNx) (aJ (sIf (tB (eOp oIn (aj 3) (eC j7))) (bq (eOp oEq (ay kU (ae (eOp oIx (aj 0) (aj 1)) au)) (aj 3))) sNx) (bq (ay hX (ae (aj 1) (ae (aj 3) au))))))))
noncomputable def cG:Nat->List W->Res W|0=>λ_=>.bad|n+1=>run 4 (i4 (cG n))
def dC:SF:=sIf (tB (eBi agU (ae (hY 1 (rZ (eOp oIx (aj 4) (eC (.int 0)))) (ax 0) kz (ay (cG 2) (ae (aj 1) (ae (aj 2) (ae (aj 0) au))))) au))) (bq (aj 3)) sNx
def pN:SF:=aJ (nE (wA (aj 2)) (r0 (cz (ax 3) (cz (ax 4) r6))) dC) (bq (eC .non))
def ir:List W->Res W:=run 5 pN
def fK:SF:=aJ (sIf (aaT (tB (eOp eZ (aj 3) (eC .non))) (tB (eOp g8 (aj 1) (aj 3)))) (bq (lR au)) sNx) (aJ (bo 4 (ay ir (ae (aj 0) (ae (aj 1) (ae (aj 2) au))))) (aJ (sIf (tB (eOp oIs (aj 4) (eC .non))) (ja "Blind" (ae (aj 1) au)) sNx) (bq (eOp oIx (eOp oIx (aj 2) (aj 4)) (eC (.int 1))))))
def dg:List W->Res W:=run 5 fK
def ia:SF:=bq (aeP (eBi cY (ae (aj 0) (ae (eC (.ty "int")) au))) (anc (eBi cY (ae (aj 0) (ae (eC (.ty "bool")) au)))))
def fQ:List W->Res W:=run 1 ia
def kq:SF:=bq (aeP (ay fQ (ae (aj 0) au)) (lS oLe oLe (eUn yt (eC lp)) (aj 0) (eC lp)))
def fU:List W->Res W:=run 1 kq
def i3:SF:=bq (aeP (ay fQ (ae (aj 0) au)) (lS oLe oLt (eC (.int 0)) (aj 0) (eBi iB (ae (eC lj) au))))
def gu:List W->Res W:=run 1 i3
def ko:SF:=aJ (sIf (tOr (xS (tB (eBi cY (ae (aj 0) (ae (eC (.ty "tuple")) au))))) (tB (eOp oNe (eBi iB (ae (aj 0) au)) (eC (.int 3))))) (bq (eC (.bl false))) sNx) (bq (aeP (ay fU (ae (eOp oIx (aj 0) (eC (.int 0))) au)) (aeP (ay fU (ae (eOp oIx (aj 0) (eC (.int 1))) au)) (ay gu (ae (eOp oIx (aj 0) (eC (.int 2))) au)))))
def fR:List W->Res W:=run 1 ko
def cf:SF:=sIf (xS (tB (eBi agU (ae (hY 1 (rZ (eSl (aj 2) (q0 (eC (.int 1))) pNo)) (ax 0) kz (ay fR (ae (aj 0) au))) au)))) (ja "Out" (ae (aj 1) au)) sNx
def jB:SF:=aJ (nE (wA (aj 0)) (r0 (cz (ax 1) (cz (ax 2) r6))) cf) (bq (aj 0))
def hV:List W->Res W:=run 3 jB
def dr:SF:=aJ (sIf (tB (eOp oEq (eOp oIx (aj 1) (eC (.int 0))) (eC (.str "turn")))) (bq (lR (ae (eOp oIx (aj 0) (eC (.int 0))) (ae (eOp oIx (aj 0) (eC (.int 1))) (ae (ay bK (ae (eOp oIx (aj 0) (eC (.int 2))) (ae (eOp oIx (aj 1) (eC (.int 1))) au))) au))))) sNx) (aJ (bo 2 (eOp oIx (eC h7) (eOp oIx (aj 1) (eC (.int 0))))) (aJ (bo 3 (ay cE (ae (aj 0) (ae (eOp vf (eOp oIx (aj 2) (eC (.int 0))) (eOp oIx (aj 1) (eC (.int 1)))) (ae (eOp vf (eOp oIx (aj 2) (eC (.int 1))) (eOp oIx (aj 1) (eC (.int 1)))) au))))) (bq (lR (ae (eOp oIx (aj 3) (eC (.int 0))) (ae (eOp oIx (aj 3) (eC (.int 1))) (ae (eOp oIx (aj 0) (eC (.int 2))) au)))))))
def cA:List W->Res W:=run 4 dr
def dU:SF:=sIf (tB (eOp oNe (eOp oIx (aj 3) (eC (.int 0))) (eC (.str "stay")))) (ako 2 (akA 2 (ay cA (ae (eOp oIx (aj 2) (eUn yt (eC (.int 1)))) (ae (aj 3) au))))) sNx
def ma:SF:=aJ (tx 2 (akw (ae (aj 0) au))) (aJ (nE (rZ (aj 1)) (ax 3) dU) (ahn 2 (bq (aj 2))))
def iq:List W->Res W:=run 4 ma
def xR:SF:=aJ (bo 3 (adR 1 (kN (eC fY)) (ax 0) kz (bS dg (ae (aj 1) (ae (aj 0) (ae (aj 2) (ae (aj 3) au))))))) (bq (bS hV (ae (hY 1 (kN (eC fY)) (ax 0) kz (ay iq (ae (eOp oIx (aj 1) (aj 0)) (ae (eOp oIx (aj 4) (aj 0)) au)))) au)))
def uy:List W->Res W:=run 4 xR
def jC:SF:=bq (bS dW (ae (hY 1 (rZ (bS uy (ae (aj 0) (ae (aj 1) (ae (aj 2) au))))) (ax 0) kz (eOp oIx (aj 0) (eUn yt (eC (.int 1))))) au))
def cC:List W->Res W:=run 3 jC
def m5:SF:=sIf (tOr (xS (tB (eBi cY (ae (aj 1) (ae (eC (.ty "str")) au))))) (tB (eOp nW (aj 1) (agF "Book" (aj 0))))) vH sNx
def oh:LF:=amB (eOp aks (agF "Book" (aj 0)) (aj 1))
def bD:List W->Res W:=aiX 2 m5 oh
def dq:SF:=bo 3 (bS (λws=>cC (ws++[.non])) (ae (aj 1) (ae (iT "Book" bD (aj 0) (ae (aj 2) au)) au)))
def fh:SF:=bo 3 (eC .non)
def eS:SF:=aJ (bo 3 (eC .non)) (aJ (aiR dq "FloorError" fh) (bq (aj 3)))
def cK:List W->Res W:=run 4 eS
def iJ:SF:=bq (lR (ae (eUn yt (eOp oIx (aj 0) (eC (.int 1)))) (ae (eOp oIx (aj 0) (eC (.int 0))) (ae (eOp oMod (eOp fF (eOp oIx (aj 0) (eC (.int 2))) (eC (.int 1))) (eC dj)) au))))
def dv:List W->Res W:=run 1 iJ
def il:SF:=bo 2 (eBi iU (ae (hY 1 (rZ (aj 2)) (ax 0) kz (ay dv (ae (aj 0) au))) au))
def qJ:SF:=aJ (bo 2 (aj 0)) (aJ (nE (kN (eOp oMod (aj 1) (eC dj))) (ax 3) il) (bq (aj 2)))
def dw:List W->Res W:=run 4 qJ
def cQ:SF:=aJ (bo 5 (ay cK (ae (aj 0) (ae (aj 3) (ae (eOp oIx (aj 1) (eOp oMod (aj 4) (eBi iB (ae (aj 1) au)))) au))))) (sIf (tB (eOp eZ (aj 5) (eC .non))) (bo 3 (aj 5)) sNx)
def i1:SF:=aJ (bo 3 (eC fX)) (aJ (nE (rZ (eSl (aj 2) (q0 (eC (.int 2))) (q0 (eC (.int 6))))) (ax 4) cQ) (bq (ay dw (ae (aj 3) (ae (eOp oMod (ay bw (ae (aj 2) (ae (eC (.int 2)) au))) (eC (.int 4))) au)))))
def gq:List W->Res W:=run 6 i1
def gc:SF:=bq (eOp oIn (aj 0) (hY 1 (kN (eC (.int 4))) (ax 0) kz (ay dw (ae (eC fX) (ae (aj 0) au)))))
def cU:List W->Res W:=run 1 gc
def aK:SF:=aJ (bo 10 (ay cK (ae (aj 0) (ae (aj 8) (ae (aj 9) au))))) (sIf (tB (eOp eZ (aj 10) (eC .non))) (ako 6 (lR (ae (eOp fF (aj 7) (px (ae (aj 9) au))) (ae (aj 10) au)))) sNx)
def aC:SF:=aJ (sIf (tB (ay cU (ae (aj 8) au))) (bq (aj 7)) sNx) (nE (rZ (aj 2)) (ax 9) aK)
def aR:SF:=aJ (tx 6 (akw au)) (aJ (nE (rZ (aj 4)) (r0 (cz (ax 7) (cz (ax 8) r6))) aC) (ahn 6 (bo 4 (aj 6))))
def eu:SF:=aJ (bo 4 (px (ae (lR (ae (px au) (ae (aj 1) au))) au))) (aJ (nE (kN (eOp fF (aj 3) (eC (.int 1)))) (ax 5) aR) (bq (eC .non)))
def ck:List W->Res W:=run 11 eu
def abu:SF:=bq (eBi aaM (ae (hY 1 (kN (eC dj)) (ax 0) kz (ay dw (ae (aj 1) (ae (aj 0) au)))) au))
def gJ:List W->Res W:=run 1 abu
def eT:RF Sr:=mB (kf (bo 5 (ay gJ (ae (aj 1) au)))) (mB (xIf (xIn 5) (kf aiS) xNx) (mB (xIf (xT Sr.a Sr.val 0 (tB (eOp oGe (eBi iB (ae (kZ "Search" 2 (aj 0)) au)) (kZ "Search" 1 (aj 0))))) (kf (ahm "TooMany" (ae (eC (.str "more floors are come to than are asked for")) au))) xNx) (mB (zp 5) (ah7 (lR (ae (aj 5) (ae (aj 2) (ae (aj 3) (ae (aj 4) au)))))))))
def bR:List W->Sr->OX Sr:=runM 6 eT
def dF:SF:=bq (eOp oEq (eOp oIx (eOp oIx (kZ "Search" 2 (aj 0)) (eUn yt (eC (.int 1)))) (eC (.int 0))) (kZ "Search" 0 (aj 0)))
def aG:List W->Res W:=run 1 dF
def aN:SF:=bo 5 (bS (λws=>cC (ws++[.non])) (ae (eOp oIx (aj 3) (eC (.int 0))) (ae (eOp oIx (aj 2) (aj 4)) au)))
def bW:SF:=sCt
def aA:RF Sr:=mB (kf (zQ aN ["Blind","Out","Meet"] bW)) (mB (gM Sr.a 0 bR (ae (aj 5) (ae (eOp fF (eOp oIx (aj 3) (eC (.int 1))) (eC (.int 1))) (ae (aj 1) (ae (aj 4) au))))) (xIf (xT Sr.a Sr.val 0 (tB (iS "Search" aG (aj 0) au))) (kf aiS) xNx))
def gD:RF Sr:=mB (akR Sr.a Sr.val 0 3 (eOp oIx (kZ "Search" 2 (aj 0)) (aj 1))) (ah6 2 4 aA)
def bf:List W->Sr->OX Sr:=runM 6 gD
def bB:SF:=jb 6 (iT "Book" bD (aj 1) (ae (aj 7) au)) (aj 7)
def bA:RF Sr:=mB (gM Sr.a 8 bf (ae (aj 9) (ae (aj 6) au))) (kf (bo 9 (eOp af3 (aj 9) (eC (.int 1)))))
def aE:TF:=aaT (tB (eOp oLt (aj 9) (eBi iB (ae (kZ "Search" 2 (aj 8)) au)))) (aaT (tB (eOp oLt (eOp oIx (eOp oIx (kZ "Search" 2 (aj 8)) (aj 9)) (eC (.int 1))) (aj 4))) (xS (tB (iS "Search" aG (aj 8) au))))
def eR:SF:=aJ (aiT 6) (aJ (nE (rZ (aj 3)) (ax 7) bB) (aiU 6 (jM 8 (ae (aj 0) (ae (aj 5) au)) (mB (gM Sr.a 8 bR (ae (aj 2) (ae (eC (.int 0)) (ae (eC .non) (ae (eC .non) au))))) (mB (kf (bo 9 (eC (.int 0)))) (mB (aaY (xT Sr.a Sr.val 8 aE) bA 3000) (aou 8)))))))
def bu:List W->Res W:=run 10 eR
def dD:SF:=aJ (ako 2 (eOp oIx (eOp oIx (aj 0) (aj 1)) (eC (.int 3)))) (bo 1 (eOp oIx (eOp oIx (aj 0) (aj 1)) (eC (.int 2))))
def cJ:TF:=tB (eOp eZ (eOp oIx (eOp oIx (aj 0) (aj 1)) (eC (.int 2))) (eC .non))
noncomputable def lO:Ws->Nat:=λ_=>3000
def km:SF:=aJ (tx 2 (akw au)) (aJ (abW lO cJ dD) (ahn 2 (bq (ajU (aj 2)))))
def iu:List W->Res W:=run 3 km
def fJ:SF:=aJ (bo 5 (ay gJ (ae (eC fX) au))) (aJ (bo 6 (bS bu (ae (aj 5) (ae (aj 0) (ae (aj 1) (ae (aj 2) (ae (aj 3) (ae (aj 4) au)))))))) (bq (eIf (tB (eOp oEq (eOp oIx (eOp oIx (aj 6) (eUn yt (eC (.int 1)))) (eC (.int 0))) (aj 5))) (ay iu (ae (aj 6) (ae (eOp acH (eBi iB (ae (aj 6) au)) (eC (.int 1))) au))) (eC .non))))
def bc:List W->Res W:=run 7 fJ
def mV:SF:=bq (bS bu (ae (eC .non) (ae (aj 0) (ae (aj 1) (ae (aj 2) (ae (aj 3) (ae (aj 4) au)))))))
def hQ:List W->Res W:=run 5 mV
def bJ:SF:=aiW (bS bc (ae (aj 0) (ae (aj 1) (ae (aj 2) (ae (aj 3) (ae (eOp acH (aj 6) (eC (.int 1))) au))))))
def bI:SF:=bo 7 (eC (.bl true))
def et:SF:=aJ (bo 5 (hY 1 (rZ (bS (λws=>hQ (ws++[.int 2000])) (ae (aj 0) (ae (aj 1) (ae (aj 2) (ae (aj 3) au)))))) (ax 0) kz (eOp oIx (aj 0) (eC (.int 0))))) (aJ (bo 6 (eBi iB (ae (aj 5) au))) (aJ (sIf (tB (eOp eZ (aj 4) (eC .non))) (bo 6 (eOp fF (uL "list" iR (aj 5) (ae (ay gJ (ae (eC fX) au)) au)) (eC (.int 1)))) sNx) (aJ (sIf (tB (eOp oNe (bS bc (ae (aj 0) (ae (aj 1) (ae (aj 2) (ae (aj 3) (ae (aj 6) au)))))) (aj 4))) (bq (eC (.bl false))) sNx) (aJ (bo 7 (eOp oEq (aj 6) (eC (.int 1)))) (aJ (sIf (tB (eOp oGt (aj 6) (eC (.int 1)))) (aiR bJ "TooMany" bI) sNx) (bq (aj 7)))))))
def cj:List W->Res W:=run 8 et
def kL:SF:=bo 6 (bS (λws=>cC (ws++[.non])) (ae (aj 6) (ae (iT "Book" bD (aj 1) (ae (aj 10) au)) au)))
def aiy:SF:=aJ (bo 1 (uM "Book" uD (ae (ay cg au) au))) (aJ (bo 2 (eOp oMod (eOp vf (ay bw (ae (aj 0) (ae (eC (.int 0)) au))) (eC (.int 69621))) (eC (.int 2147483629)))) (aJ (bo 3 (ay eM (ae (eOp oDiv (aj 2) (eC (.int 4))) (ae (eOp fF (eC (.int 1)) (eOp oMod (aj 2) (eC (.int 4)))) au)))) (aJ (bo 4 (ay bw (ae (aj 0) (ae (eC (.int 1)) au)))) (aJ (bo 5 (eOp oMod (aj 4) (eC (.int 4)))) (aJ (sIf (tB (eOp oEq (eOp oMod (eOp oDiv (aj 4) (eC (.int 4))) (eC (.int 4))) (eC (.int 1)))) (aJ (bo 3 (eSl (aj 3) pNo (q0 (eOp fF (eC (.int 1)) (eOp oMod (eOp oDiv (aj 2) (eC (.int 60))) (eC (.int 2))))))) (bo 5 (eOp fF (eC (.int 4)) (eOp oMod (eOp oDiv (aj 4) (eC (.int 16))) (eOp oIx (px (ae (eC (.int 9)) (ae (eC (.int 2)) au))) (eOp acH (eBi iB (ae (aj 3) au)) (eC (.int 1)))))))) sNx) (aJ (bo 6 (ay gq (ae (aj 1) (ae (aj 3) (ae (aj 0) au))))) (aJ (bo 7 (ay ck (ae (aj 1) (ae (aj 6) (ae (aj 3) (ae (aj 5) au)))))) (aJ (bo 8 (eBi xn (ae (aj 3) au))) (aJ (bo 9 (bS (λws=>bc (ws++[.int 2000])) (ae (aj 1) (ae (aj 6) (ae (aj 8) (ae (aj 5) au)))))) (aJ (sIf (tOr (tB (eOp oNe (aj 9) (aj 7))) (tOr (tB (eOp oNe (aj 8) (aj 3))) (aaT (tB (eOp eZ (aj 7) (eC .non))) (xS (tB (eBi cY (ae (aj 9) (ae (eC (.ty "list")) au)))))))) (bq (eC (.bl false))) sNx) (aJ (sIf (xS (tB (bS cj (ae (aj 1) (ae (aj 6) (ae (aj 3) (ae (aj 5) (ae (aj 7) au)))))))) (bq (eC (.bl false))) sNx) (aJ (sIf (tB (eOp oIs (aj 9) (eC .non))) (bq (eC (.bl true))) sNx) (aJ (nE (rZ (aj 9)) (ax 10) kL) (bq (aeP (ay cU (ae (aj 6) au)) (eOp oEq (bS (λws=>bc (ws++[.int 2000])) (ae (aj 1) (ae (aj 6) (ae (aj 3) (ae (eC (.int 0)) au))))) (px au)))))))))))))))))
def agC:List W->Res W:=run 11 aiy
end K67
namespace K67
open PySem WL ML
def xc(ns:List Int)(k)(a:0<=k):bw [.lst (ns.map .int),.int k]=.ok (.int (ns.getD k.toNat 0)):=by obtain⟨n,rfl⟩:∃n:Nat,k=n:=⟨k.toNat,by omega⟩;by_cases h:n<ns.length<;>simp[bw,gf,h,h8]
def aoy(p):dv [stW p]=.ok (stW (FM.tq p)):=rfl
def mO(f)(n)(r:f.length<=100):dw [flW f,.int n]=.ok (flW (f.map (FM.tqn (n%4).toNat))):=by
 obtain⟨d,h,o,rfl⟩:=rG (g:=ax 3) (b:=il) (xs:=rng 0 (n%4).toNat) (λi d=>∃o,d=[.va (flW f),.va (.int n),.va (flW (f.map (FM.tqn i))),o]) ⟨.no,by rw[FM.hE (f:=FM.tqn 0) f λp _=>rfl]⟩ (by
   rintro i w q hw⟨o,rfl⟩;obtain⟨m,rfl⟩:=vK _ _ _ _ hw;have e:bH (ax 0) kz (ay dv (ae (aj 0) au)) [.no,.va (flW f),.va (.int n),.va (flW (f.map (FM.tqn i))),.va (.int (0+i))] ((f.map (FM.tqn i)).map stW)=.ok ((f.map (FM.tqn i)).map λp=>stW (FM.tq p)):=cV λp _=>⟨_,rfl,rfl,by simp[aoy]⟩;have j:f.length<=1000000:=by omega
   simp only[flW]at e⊢;simp at e;simp[il,List.replicate,j,e];intro a b c _;rfl);simp at h;have l:-4611686018427387904<=n%4:=by omega
 have k:n%4<4611686018427387904:=by omega
 simp[dw,qJ,dj,List.replicate,l,k,h]
def ajK(f)(d:f.length<=100):gJ [flW f]=.ok (flW (FM.pick (aY f) 3)):=by
 have a:bH (ax 0) kz (ay dw (ae (aj 1) (ae (aj 0) au))) [.no,.va (flW f)] ([0,1,2,3].map λi:Nat=>.int i)=.ok ([0,1,2,3].map λi:Nat=>flW (aY f i)):=cV λi c=>⟨_,rfl,rfl,by
  have e:((i:Int)%4).toNat=i:=by simp at c;omega
  simp[mO f i d,e,aY]⟩;have b:rng 0 4=[0,1,2,3].map λi:Nat=>W.int i:=rfl;have g:=acP f;simp at a b;simp[gJ,abu,dj,List.replicate,b,a,aaM,g]
def aiK(p)(m n)(g:0<=p.2.2)(h:p.2.2<4):cE [stW p,.int m,.int n]=.ok (spW (sfp p m n)):=by
 obtain⟨x,y,f⟩:=p;have r:f=0\/f=1\/f=2\/f=3:=by grind
 obtain⟨a,b,c,i,d,e⟩:∃a b:Int,oIx lj (.int f)=.ok (.tup [.int a,.int b])/\(-2<a/\a<2)/\(-2<b/\b<2)/\sfp (x,y,f) m n=(x+(a*m+b*n),y+(b*m-a*n)):=by
  rcases r with rfl|rfl|rfl|rfl;.exact⟨0,1,rfl,by decide,by decide,by simp[sfp]⟩
  .exact⟨-1,0,rfl,by decide,by decide,by simp[sfp,au3]⟩
  .exact⟨0,-1,rfl,by decide,by decide,by simp[sfp,au3]⟩
  .exact⟨1,0,rfl,by decide,by decide,by simp[sfp,au3]⟩
 rw[e];simp(disch:=omega)[cE,i0,stW,spW,c,ahx,List.replicate]
def df(p):eL [stW p]=.ok (spW (bh p)):=rfl
theorem xG(F)(s):∀f k a b,fin (sT (forL (r0 (cz (ax 2) (cz (ax 3) r6))) fP (fW k (f.map stW)) [.va F,.va (spW s),a,b]) (bq (eC .non)))=.ok (aii s k f)
|[],k,a,b=>rfl|p::f,k,a,b=>by
 simp [fW,eJ];by_cases h:bh p=s;.simp[fP,df,h,aii]
 .have c:=xG F s f (k+1) (.va (.int k)) (.va (stW p));simp[fP,df,h,aii]at c⊢;exact c
def akW(f)(s):mi [flW f,spW s]=.ok (aii s 0 f):=by exact xG _ s f 0 _ _
def zY(d):j1 [.int d]=.ok (.int (if d%2=0 then d+1 else d-1)):=by by_cases h:d%2=0<;>simp[j1,mW,h]
def vQ(d):kT [.int d]=.ok (.int ((d+4)%8)):=rfl
def aao(d):oD [.int d]=.ok (.bl (decide (d/2%2=0))):=rfl
def aan(d):oC [.int d]=.ok (.bl (decide (d%2=0))):=rfl
def jl(s):fV [spW s]=.ok (.int (far s)):=rfl
def agH(p)(e:0<=p.2.2)(c:p.2.2<4):kU [stW p]=.ok (.str (if far (sfp p 1 0)=far (bh p)then"sideways"else if far (sfp p 1 0)<far (bh p)then"inward"else"outward")):=by
 have b:=aiK p 1 0 e c;by_cases a:far (sfp p 1 0)=far (bh p);.simp[kU,qK,df,jl,b,a]
 .by_cases d:far (sfp p 1 0)<far (bh p)<;>simp[kU,qK,df,jl,b,a,d]
def gC(f)(w)(q)(h:w="same"/\q=0\/w="left"/\q=1\/w="about"/\q=2\/w="right"/\q=3):bK [.int f,.str w]=.ok (.int ((f+q)%4)):=by
 have e:oIx j6 (.str w)=.ok (.int q):=by rcases h with⟨rfl,rfl⟩|⟨rfl,rfl⟩|⟨rfl,rfl⟩|⟨rfl,rfl⟩<;>rfl
 simp[bK,eg,e,dj]
def agB{f}{k:Nat}(a:k<f.length):oIx (flW f) (.int k)=.ok (stW (f.getD k (0,0,0))):=by refine ahy (by simp) ?_;rw[atN,ar5,arQ a];rfl
def ik(f)(p)(h:0<=p.2.2)(i:p.2.2<4)(k:Nat)(g:k<f.length)(w)(q)(hw:w="same"/\q=0\/w="left"/\q=1\/w="about"/\q=2\/w="right"/\q=3){b}(c:decide ((f.getD k (0,0,0)).2.2=(p.2.2+q)%4)=b):hU [stW p,flW f,.int k,.str w]=.ok (.bl b):=by
 have a:=agB g;have d:¬"none"=w:=by grind
 have e:¬"any"=w:=by grind
 subst c;generalize f.getD k _=r at *;simp[hU,kn,List.replicate,nX,stW,d,e]at a⊢;simp[a,gC p.2.2 w q hw]
def agd(f)(p)(a:0<=p.2.2)(b:p.2.2<4)(o)(w)(d)(h:∀k,o=some k->k<f.length)(hw:w≠.partner)(c:w≠.opposite):hU [stW p,flW f,onW o,.str w.w]=.ok (.bl (i6 f d p w o)):=by cases o with|none=>cases w<;>simp[hU,kn,List.replicate,What.w,i6]|some k=>
 cases w;case none=>simp[hU,kn,List.replicate,What.w,i6,nX]
 case any=>simp[hU,kn,List.replicate,What.w,i6,nX]
 case partner=>exact absurd rfl hw
 case opposite=>exact absurd rfl c
 all_goals first|exact ik f p a b k (h k rfl) _ 0 (.inl ⟨rfl,rfl⟩) (by simp[i6,cv];omega)|exact ik f p a b k (h k rfl) _ 1 (.inr (.inl ⟨rfl,rfl⟩)) (by simp[i6,cv])|exact ik f p a b k (h k rfl) _ 2 (.inr (.inr (.inl ⟨rfl,rfl⟩))) (by simp[i6,cv])|exact ik f p a b k (h k rfl) _ 3 (.inr (.inr (.inr ⟨rfl,rfl⟩))) (by simp[i6,cv])
def aiM(f)(n:∀p∈f,0<=p.2.2/\p.2.2<4)(d:Nat)(b:d<f.length)(a r)(w):yW [flW f,.int d,(Tst.at a r w).W]=.ok (.bl (i6 f d (f.getD d (0,0,0)) w (xH (sfp (f.getD d (0,0,0)) a r) 0 f))):=by
 have y:f.getD d (0,0,0)∈f:=by rw[ar5,arQ b];exact asS b
 obtain⟨h,j⟩:=n _ y;have u:=agB b;have s:=aiK (f.getD d (0,0,0)) a r h j;have i:=akW f (sfp (f.getD d (0,0,0)) a r);rw[ag9]at i;have lt:=vo (sfp (f.getD d (0,0,0)) a r) 0 f;have e:∀k,xH (sfp (f.getD d (0,0,0)) a r) 0 f=some k->k<f.length:=λk z=>by have:=lt k z;omega
 have l:=agd f (f.getD d (0,0,0)) h j _ w d e;generalize f.getD d (0,0,0)=p at *;generalize hw:xH (sfp p a r) 0 f=o at *;have m(t:SF):aJ (bo 3 (eOp oIx (aj 0) (aj 1))) (aJ (bo 4 (eOp oIx (aj 2) (eC (.int 3)))) (aJ (bo 5 (ay mi (ae (aj 0) (ae (ay cE (ae (aj 3) (ae (eOp oIx (aj 2) (eC (.int 1))) (ae (eOp oIx (aj 2) (eC (.int 2))) au)))) au)))) t)) [.va (flW f),.va (.int d),.va (Tst.at a r w).W,.no,.no,.no]=t [.va (flW f),.va (.int d),.va (Tst.at a r w).W,.va (stW p),.va (.str w.w),.va (onW o)]:=by simp[Tst.W,u,s,i]
 simp only[yW,abt,run_eq,arZ,atw,ar1,atH,List.replicate,asA,as0];rw[m];by_cases g:w=.partner;.subst g;cases o<;>simp[What.w,i6,zY]
 by_cases c:w=.opposite;.subst c;cases o<;>simp[What.w,i6,vQ]
 have v:=l g c;have x:¬w.w="partner":=by cases w<;>first|decide|exact absurd rfl g
 have q:¬w.w="opposite":=by cases w<;>first|decide|exact absurd rfl c
 simp[v,x,q]
def ip(d)(w)(b)(h:w="head"/\b=decide (d/2%2=0)\/w="side"/\b=!decide (d/2%2=0)\/w="lefts"/\b=decide (d%2=0)\/w="rights"/\b=!decide (d%2=0)):hX [.int d,.str w]=.ok (.bl b):=by rcases h with⟨rfl,rfl⟩|⟨rfl,rfl⟩|⟨rfl,rfl⟩|⟨rfl,rfl⟩<;>simp[hX,mZ,nX,aao,aan]
def ahM(n)(f)(j:∀p∈f,0<=p.2.2/\p.2.2<4)(d:Nat)(g:d<f.length)(t):cG (n+1) [flW f,.int d,t.W]=.ok (.bl (jh f d (f.getD d (0,0,0)) t)):=by
 have J:f.getD d (0,0,0)∈f:=by rw[ar5,arQ g];exact asS g
 obtain⟨C,h⟩:=j _ J;have o:=agB g;cases t with|«at» a r w=>have k:=aiM f j d g a r w;simp[Tst.W]at k;simp[cG,i4,Tst.W,List.replicate,k,jh]|inner n=>simp[cG,i4,Tst.W,List.replicate,o,df,jl,jh]|lone l=>
  have i:=agH _ C h;generalize f.getD d (0,0,0)=p at *;have c:∀(w:String)(b:Bool),¬w="not"->¬w="at"->¬w="inner"->¬"inward"=w->¬"outward"=w->¬"sideways"=w->hX [.int d,.str w]=.ok (.bl b)->cG (n+1) [flW f,.int d,.tup [.str w]]=.ok (.bl b):=λw b I E s z G u e=>by simp[cG,i4,List.replicate,nX,j7,I,E,s,z,G,u,e]
  have m:∀(D w:Str)(b:Bool),kU [stW p]=.ok (.str D)->oIn (.str w) j7=.ok (.bl true)->oEq (.str w) (.str "not")=.ok (.bl false)->oEq (.str w) (.str "at")=.ok (.bl false)->oEq (.str w) (.str "inner")=.ok (.bl false)->(D==w)=b->cG (n+1) [flW f,.int d,.tup [.str w]]=.ok (.bl b):=λD w b v q K h H y=>by
   have x:oEq (.str D) (.str w)=.ok (.bl b):=by rw[<-y];rfl
   simp[cG,i4,List.replicate,q,K,h,H,o,v,x]
  cases l;case head=>exact c "head" _ (by decide) (by decide) (by decide) (by decide) (by decide) (by decide) (ip d "head" _ (Or.inl ⟨rfl,rfl⟩))
  case side=>exact c "side" _ (by decide) (by decide) (by decide) (by decide) (by decide) (by decide) (ip d "side" _ (Or.inr (Or.inl ⟨rfl,rfl⟩)))
  case lefts=>exact c "lefts" _ (by decide) (by decide) (by decide) (by decide) (by decide) (by decide) (ip d "lefts" _ (Or.inr (Or.inr (Or.inl ⟨rfl,rfl⟩))))
  case rights=>exact c "rights" _ (by decide) (by decide) (by decide) (by decide) (by decide) (by decide) (ip d "rights" _ (Or.inr (Or.inr (Or.inr ⟨rfl,rfl⟩))))
  all_goals
   refine m _ _ _ i (by kernel_rfl) (by kernel_rfl) (by kernel_rfl) (by kernel_rfl) ?_;clear m c i;simp only[jh];generalize far (sfp p 1 0)=A at *;generalize far (bh p)=B at *;rcases Int.lt_trichotomy A B with st|st|st
   .rw[arO (by omega),arM st];first|rw[aso (by omega)]|rw[ar6 (by omega)]
    rfl
   .rw[arM st];first|rw[aso (by omega)]|rw[ar6 (by omega)]
    rfl
   .rw[arO (by omega),arO (by omega)];first|rw[aso (by omega)]|rw[ar6 (by omega)]
    rfl
def agv(f)(b:∀p∈f,0<=p.2.2/\p.2.2<4)(d:Nat)(a:d<f.length)(g)(t):cG 2 [flW f,.int d,tsW g t]=.ok (.bl (if g then !jh f d (f.getD d (0,0,0)) t else jh f d (f.getD d (0,0,0)) t)):=by cases g with|false=>exact ahM 1 f b d a t|true=>have h:=ahM 0 f b d a t;simp [tsW];rw[show cG 2=run 4 _ from rfl];simp[i4,h]
theorem tD(f)(l:∀p∈f,0<=p.2.2/\p.2.2<4)(d:Nat)(j:d<f.length)(C):∀c(i:∀r∈c,r.ts.length<=100)k e g,fin (sT (forL (r0 (cz (ax 3) (cz (ax 4) r6))) dC (fW k (c.map Rl.W)) [.va (flW f),.va (.int d),.va C,e,g]) (bq (eC .non)))=.ok (onW (jc f d k c))
|[],_,k,e,g=>by simp[fW,jc]|r::c,i,k,e,g=>by
 simp only[arZ,fW,eJ];have m:=tD f l d j C c (λr o=>i r (by simp[o])) (k+1) (.va (.int k)) (.va r.W);have n:r.ts.length<=1000000:=by grind
 have a:bH (ax 0) kz (ay (cG 2) (ae (aj 1) (ae (aj 2) (ae (aj 0) au)))) [.no,.va (flW f),.va (.int d),.va C,.va (.int k),.va r.W] (r.ts.map λp=>tsW p.1 p.2)=.ok (r.ts.map λp=>.bl (ami p.1 (jh f d (f.getD d (0,0,0)) p.2))):=cV λp _=>⟨_,rfl,rfl,by have h:=agv f l d j p.1 p.2;simp at h;simp[h,ami]⟩;have b:allB (r.ts.map λp=>.bl (ami p.1 (jh f d (f.getD d (0,0,0)) p.2)))=some (zS f d r):=by have:=zg (r.ts.map λp=>ami p.1 (jh f d (f.getD d (0,0,0)) p.2));simp only[asM,avx]at this;exact this
 by_cases h:zS f d r=true;.simp at a b;simp[dC,tsL,n,List.replicate,a,b,h,jc]
 .simp at a b;simp[dC,tsL,n,List.replicate,a,b,h,jc]at m⊢;exact m
def vJ(f)(e:∀p∈f,0<=p.2.2/\p.2.2<4)(d:Nat)(b:d<f.length)(c)(a:∀r∈c,r.ts.length<=100):ir [flW f,.int d,clW c]=.ok (onW (jc f d 0 c)):=by exact tD f e d b _ c a 0 _ _
def ab3{lo n i x}(h:(rng lo n)[i]?=some x):i<n/\x=.int (lo+i):=vK _ n i x h
def adg{f S}(a:S=flW f\/S=.lst (f.map stW)){k}(b:k<f.length):oIx S (.int k)=.ok (stW (f.getD k (0,0,0))):=by
 have e:f[k]?=some (f.getD k (0,0,0)):=by grind
 rcases a with rfl|rfl;.exact ahy (by simp) (by exact e)
 .rw[v7,h8,ar3,e];rfl
def wo{f S}(a:S=flW f\/S=.lst (f.map stW)):iB [S]=.ok (.int f.length):=by rcases a with rfl|rfl<;>simp[flW]
def bb{n:Nat}(h:n<=100):(n:Int)<4611686018427387904/\-4611686018427387904<=(n:Int):=by omega
def dI(f)(C:f.length<=100)(S)(r:S=flW f\/S=.lst (f.map stW)):∃w,bL [S]=.ok w/\Met f w:=by
 have h:=wG (g:=ax 1) (b:=cu) (xs:=rng 0 f.length) (σ:=[.va S,.no,.no]) (λi d=>(∃o c,d=[.va S,o,c])/\∀a b,a<i->a<b->b<f.length->bh (f.getD a (0,0,0))≠bh (f.getD b (0,0,0))) (λi w=>Met f w) ⟨⟨_,_,rfl⟩,λa b h=>absurd h (avF _)⟩ (by
   rintro i x σ v⟨⟨o,c,rfl⟩,q⟩;obtain⟨y,rfl⟩:=ab3 v;refine⟨_,rfl,?_⟩;have m:=wG (g:=ax 2) (b:=aQ) (xs:=rng (i+1) (f.length-(i+1))) (σ:=[.va S,.va (.int (0+i)),c]) (λj d=>(∃c,d=[.va S,.va (.int (0+i)),c])/\∀b,i<b->b<i+1+j->bh (f.getD i (0,0,0))≠bh (f.getD b (0,0,0))) (λj w=>Met f w) ⟨⟨_,rfl⟩,λb n l=>absurd l (avk.mpr n)⟩ (by
     rintro j x σ v⟨⟨c,rfl⟩,m⟩;obtain⟨J,rfl⟩:=ab3 v;refine⟨_,rfl,?_⟩;have z:=adg r y;have p:=Nat.add_lt_of_lt_sub' J;have B:=adg r p;have I:(0:Int)+(i:Nat)=((i:Nat):Int):=Int.zero_add _;have G:(i:Int)+1+(j:Nat)=((i+1+j:Nat):Int):=rfl;rw[I,G];by_cases h:bh (f.getD i (0,0,0))=bh (f.getD (i+1+j) (0,0,0));.refine .inr ⟨.tup [.int i,.int ((i+1+j:Nat):Int)],?_,Met.two i (i+1+j) (arS (att i) (ath ..)) p h (λa b=>q a b) λb n l=>m b n l⟩;simp only[aQ];rw[abY];simp only[abC,y4,j3,iD,lq,oG,as3,asP,aoe,aof,rE,cI,z,B,df,gA,ahz,ahd,jW,h,decide_true,ate];simp
     .refine .inl ⟨[.va S,.va (.int i),.va (.int ((i+1+j:Nat):Int))],?_,⟨_,rfl⟩,λb n l=>?_⟩;.simp only[aQ];rw[abY];simp only[abC,y4,j3,iD,lq,oG,as3,asP,aoe,aof,rE,cI,z,B,df,gA,ahz,ahd,jW,h,decide_false];simp
      .by_cases s:b<i+1+j;.exact m b n s
       .have:b=i+1+j:=avG (Nat.le_of_lt_succ l) (avk.mp s);rw[this];exact h);have M:∀o,ofR o (uo (eOp fF (aj 1) (eC (.int 1))) (eBi iB (ae (aj 0) au)) [.va S,.va (.int (0+i)),c]) (λxs=>forL (ax 2) aQ xs [.va S,.va (.int (0+i)),c])=forL (ax 2) aQ (rng (i+1) (f.length-(i+1))) [.va S,.va (.int (0+i)),c]:=λo=>by have t:=bb C;have D:(i:Int)+1<4611686018427387904/\-4611686018427387904<=(i:Int)+1:=bb (arU y C);have E:((f.length:Int)-((i:Int)+1)).toNat=f.length-(i+1):=Int.toNat_sub f.length (i+1);simp[wo r,t,D,E]
   have s:cu (([.va S,o,c]:Ws).set 1 (.va (.int (0+i))))=forL (ax 2) aQ (rng (i+1) (f.length-(i+1))) [.va S,.va (.int (0+i)),c]:=by show nE _ _ _ _=_;rw[aiV];exact M _
   rw[s];rcases m with⟨d,e,⟨K,rfl⟩,k⟩|⟨j,w,_,e,u⟩
   .refine .inl ⟨_,e,⟨_,_,rfl⟩,λa b n l N=>?_⟩;by_cases H:a<i;.exact q a b H l N
    .have:a=i:=by omega
     subst this;exact k b l (by simp;omega)
   .exact .inr ⟨w,e,u⟩);have t:(f.length:Int)<4611686018427387904:=by omega
 have A:-4611686018427387904<=(f.length:Int):=by omega
 rcases h with⟨d,e,⟨o,c,rfl⟩,k⟩|⟨i,w,_,e,u⟩;.refine⟨.non,?_,.none (agV λa b n l=>k a b (by simp;omega) n l)⟩;simp[bL,cO,List.replicate,wo r,t,A,e]
 .refine⟨w,?_,u⟩;simp[bL,cO,List.replicate,wo r,t,A,e]
def j0(f)(b:f.length<=100)(S)(a:S=flW f\/S=.lst (f.map stW))(c:jt f):bL [S]=.ok .non:=by obtain⟨w,e,m⟩:=dI f b S a;cases m with|none _=>exact e|two i j hij hj h _ _=>exact absurd h (ml c hij hj)
def wI(f:List S3)(c:f.length<=100)(S:W)(a:S=flW f\/S=.lst (f.map stW))(b:jt f):dW [S]=.ok (flW f):=by have e:=j0 f c S a b;rcases a with rfl|rfl<;>simp[dW,ib,List.replicate,e,flW]at e⊢<;>simp[e]
def m7(p)(h:Fac p)(s):cA [stW p,s.W]=.ok (stW (qN p s)):=by obtain⟨j,k⟩:=h;cases s with|go g n=>
 obtain⟨a,b,f,m,l,c⟩:∃a b:Int,oIx h7 (.str g.w)=.ok (.tup [.int a,.int b])/\(-2<a/\a<2)/\(-2<b/\b<2)/\qN p (.go g n)=((sfp p (a*n) (b*n)).1,(sfp p (a*n) (b*n)).2,p.2.2):=by
  cases g;.exact⟨1,0,rfl,by decide,by decide,by simp[qN]⟩
  .exact⟨-1,0,rfl,by decide,by decide,by simp[qN]⟩
  .exact⟨0,-1,rfl,by decide,by decide,by simp[qN]⟩
  .exact⟨0,1,rfl,by decide,by decide,by simp[qN]⟩
 have d:=aiK p (a*n) (b*n) j k;have i:¬g.w="turn":=by cases g<;>decide
 rw[c];generalize sfp p (a*n) (b*n)=P at *;simp only[stW,spW]at d;simp(disch:=omega)[cA,dr,List.replicate,Stp.W,f,ahx,i,stW,d]|turn t=>
 obtain⟨q,e,c⟩:∃q:Int,bK [.int p.2.2,.str t.w]=.ok (.int ((p.2.2+q)%4))/\qN p (.turn t)=(p.1,p.2.1,(p.2.2+q)%4):=by
  cases t;.exact⟨_,gC _ _ 1 (.inr (.inl ⟨rfl,rfl⟩)),rfl⟩
  .exact⟨_,rfl,rfl⟩
  .exact⟨_,rfl,rfl⟩
 rw[c];simp[cA,dr,List.replicate,Stp.W,e,stW]
def zC(s:Stp):∃w:String,oIx s.W (.int 0)=.ok (.str w)/\w≠"stay":=by cases s with|go g n=>cases g<;>exact⟨_,rfl,by decide⟩|turn t=>exact⟨_,rfl,by decide⟩
def ye(p):plain (stW p)=true:=rfl
theorem xJ(P S):∀l p a o,Fac p->a.length+l.length<999999->∃d,forL (ax 3) dU (l.map Stp.W) [.va P,.va S,.ow ((a++[p]).map stW),o]=.nx [.va P,.va S,.ow ((a++i5 p l).map stW),d]
|[],p,a,o,_,_=>⟨o,rfl⟩|s::l,p,a,o,h,hl=>by
 obtain⟨w,hw,i⟩:=zC s;have e:=m7 p h s;obtain⟨d,f⟩:=xJ P S l (qN p s) (a++[p]) (.va s.W) (m8 p s h) (by simp at hl⊢;omega);refine⟨d,?_⟩;have b:atI ((a++[p]).map stW) (-1)=some (stW p):=by rw[iC];simp
 have c:((a++[p]).map stW).length<1000000:=by grind
 have j:=ye (qN p s);simp only[arZ,eJ];have g:dU [.va P,.va S,.ow ((a++[p]).map stW),.va s.W]=.nx [.va P,.va S,.ow ((a++[p]++[qN p s]).map stW),.va s.W]:=by simp at b c;simp[dU,hw,i,b,e,j,c]
 simp only[rF,as3,asP,jW,g];simp only[i5];rw[show a++p::i5 (qN p s) l=a++[p]++i5 (qN p s) l from by simp];exact f
def abd(p)(h:Fac p)(s)(a:∀l,s=some l->l.length<=100):iq [stW p,ssW s]=.ok (qE (jR p s)):=by cases s with|none=>simp[iq,ma,ssW,eJ,dU,qE,jR]|some l=>obtain⟨b,e⟩:=xJ (stW p) (ssW (some l)) l p [] .no h (by grind);simp[ssW]at e;simp[iq,ma,ssW,e,qE,jR]
def wy(p)(h:Fac p):fR [stW p]=.ok (.bl (inB p)):=by
 obtain⟨e,f⟩:=h;obtain⟨x,y,k⟩:=p;have d:gu [.int k]=.ok (.bl true):=by simp[gu,i3,fQ,ia,isK,rz,lj,e,f]
 have c:∀z:Int,fU [.int z]=.ok (.bl (decide (-200<=z)&&decide (z<=200))):=λz=>by by_cases b:-200<=z<;>by_cases a:z<=200<;>simp[fU,kq,fQ,ia,isK,rz,lp,b,a]
 simp only[inB];by_cases b:(decide (-200<=x)&&decide (x<=200))=true<;>by_cases a:(decide (-200<=y)&&decide (y<=200))=true<;>simp[fR,ko,isK,rz,stW,d,c,b,a]at b a⊢<;>simp[b,a]
theorem uj(A):∀ws k g l,(∀w∈ws,∀p∈w,Fac p)->(∀w∈ws,w.length<=1000)->k+ws.length<=900->match vd k ws with|some d=>∃i,forL (r0 (cz (ax 1) (cz (ax 2) r6))) cf (fW k (ws.map qE)) [.va A,g,l]=.ex (exN "Out" d) i|none=>∃n m,forL (r0 (cz (ax 1) (cz (ax 2) r6))) cf (fW k (ws.map qE)) [.va A,g,l]=.nx [.va A,n,m]
|[],k,g,l,_,_,_=>⟨g,l,rfl⟩|w::ws,k,g,l,hf,hl,hk=>by
  have q:=uj A ws (k+1) (.va (.int k)) (.va (qE w)) (λw hw=>hf w (by simp[hw])) (λw hw=>hl w (by simp[hw])) (by simp at hk⊢;omega);have f:cut (w.map stW) (some 1) none=(w.drop 1).map stW:=by simp[cut,sIx,List.map_drop];cases w with|nil=>simp|cons x xs=>simp[auv]
  have a:bH (ax 0) kz (ay fR (ae (aj 0) au)) [.no,.va A,.va (.int k),.va (qE w)] ((w.drop 1).map stW)=.ok ((w.drop 1).map λp=>.bl (inB p)):=cV λp r=>⟨_,rfl,rfl,by have e:=wy p (hf w (by simp) p (List.mem_of_mem_drop r));simp[e]⟩;have b:allB ((w.drop 1).map λp=>.bl (inB p))=some ((w.drop 1).all inB):=by have:=zg ((w.drop 1).map inB);simp only[asM,avx]at this;exact this
  have c:((w.drop 1).map stW).length<=1000000:=by have:=hl w (by simp);simp;omega
  have s:lB (.int k)=true:=by
   simp only[lB,asy,Int.natAbs_natCast];by_cases z:k=0;.rw[z];decide
   .rw[Nat.log2_lt z];exact arS (show k<1000 by simp at hk;omega) (by decide)
  simp only[vd,arZ,fW,eJ];have e:qE w=.lst (w.map stW):=rfl;generalize w.drop 1=v at *;rw[ar7]at c;by_cases h:v.all inB=true
  .rw[arM h];have j:cf [.va A,.va (.int k),.va (qE w)]=.nx [.va A,.va (.int k),.va (qE w)]:=by rw[h]at b;rw[e]at a⊢;simp[cf,f,c,List.replicate,a,b]
   simp only[yS,qp,rF,gA,cI,as3,asP,yT,jW,j];exact q
  .rw[arO h];have o:v.all inB=false:=by simpa using h
   have j:∃i,cf [.va A,.va (.int k),.va (qE w)]=.ex (exN "Out" k) i:=by rw[o]at b;rw[e]at a⊢;simp[cf,f,c,List.replicate,a,b,kD,WL.fieldsOf,s,exN]
   obtain⟨i,j⟩:=j;refine⟨i,?_⟩;simp only[yS,qp,rF,gA,cI,as3,asP,yT,jW,j];rfl
def aam(ws)(b:∀w∈ws,∀p∈w,Fac p)(a:∀w∈ws,w.length<=1000)(i:ws.length<=800):hV [lU ws]=match vd 0 ws with|some d=>.ex (exN "Out" d)|none=>.ok (lU ws):=by have h:=uj (lU ws) _ 0 .no .no b a (by omega);cases e:vd 0 _ with|some d=>rw[e]at h;obtain⟨c,h⟩:=h;simp[lU]at h;simp[hV,jB,lU,h]|none=>rw[e]at h;obtain⟨g,f,h⟩:=h;simp[lU]at h;simp[hV,jB,lU,h]
def nc{n:Nat}(h:n<1000):lB (.int n)=true:=by
 simp [lB];by_cases z:n=0;.rw[z];decide
 .rw[Nat.log2_lt z];exact arS h (by simp)
theorem qw(d:Nat):∀l:List Nat,dO (.int d) (l.map λk:Nat=>.int k)=l.contains d|[]=>rfl|k::l=>by simp [qw d l];congr 1;rw[asq];simp;omega
def af1(n)(l:List Nat):gL (n+1) (l.map λk:Nat=>.int k)=true:=ajk n _ _ λ_ _=>rfl
def vx(f)(v:∀p∈f,Fac p)(c)(q:∀r∈c,r.ts.length<=100)(b)(d:Nat)(s:d<f.length)(u:d<900):dg [flW f,.int d,clW c,smW b]=stR ssW (exN "Blind" d) (lV f c b d):=by
 have i:=vJ f v d s c q;have g:=qU f d 0 c;have x:=nc (n:=d) (by omega);have go:aok b d=true->fin (aJ (bo 4 (ay ir (ae (aj 0) (ae (aj 1) (ae (aj 2) au))))) (aJ (sIf (tB (eOp oIs (aj 4) (eC .non))) (ja "Blind" (ae (aj 1) au)) sNx) (bq (eOp oIx (eOp oIx (aj 2) (aj 4)) (eC (.int 1))))) [.va (flW f),.va (.int d),.va (clW c),.va (smW b),.no])=stR ssW (exN "Blind" d) (lV f c b d):=λe=>by unfold lV;rw[arM e];generalize jc f d 0 c=o at *;cases o with|none=>simp[i,kD,WL.fieldsOf,x,exN]|some k=>
   have m:k<c.length:=by have:=g k rfl;omega
   have y:=ame m;simp[i,y,m]
 cases b with|none=>rw[<-go rfl];simp[dg,fK,List.replicate,smW]|some l=>
  have a:g8 (.int d) (.lst (l.map λk:Nat=>.int k))=.ok (.bl !l.contains d):=by show(if(okD 50 (.int d)&&gL 51 (l.map λk:Nat=>W.int k))=true then Res.ok _ else .bad)=_;rw[arM (by rw[af1];simp),qw]
  by_cases h:l.contains d=true;.rw[<-go h];have w:smW (some l)=.lst (l.map λk:Nat=>.int k):=rfl;rw[h]at a;rw[w];simp only[dg,fK,run_eq];simp[List.replicate,kM,a]
  .have j:l.contains d=false:=by simpa using h
   rw[j]at a;have t:lV f c (some l) d=some (some []):=by unfold lV;rw[arO (by simpa[aok]using j)]
   rw[t];simp[dg,fK,List.replicate,smW,kM,a,ssW]
def aip(f)(K:f.length=8)(B:∀p∈f,Fac p)(c)(E:∀r∈c,r.ts.length<=100)(H:∀r∈c,∀l,r.ss=some l->l.length<=100)(b):uy [flW f,clW c,smW b]=(iE f c b).bind λws=>.ok (lU ws):=by
 have v:∀d,d<8->f.getD d (0,0,0)∈f:=λd n=>by
  have x:d<f.length:=by omega
  rw[ar5,arQ x];exact asS x
 have y:∀d l,lV f c b d=some (some l)->l.length<=100:=λd l h=>by
  unfold lV at h;by_cases q:aok b d=true;.rw[arM q]at h;cases z:jc f d 0 c with|none=>rw[z]at h;cases h|some k=>
    rw[z]at h;have t:=(qU f d 0 c k z).2;rw[avv]at t;have e:c.getD k ⟨[],none⟩=c[k]:=by rw[ar5,arQ t];rfl
    simp only[Option.map_some,avi,e]at h;exact H c[k] (asS t) l h
  .rw[arO q]at h;cases h;simp
 have a:bH (ax 0) kz (bS dg (ae (aj 1) (ae (aj 0) (ae (aj 2) (ae (aj 3) au))))) [.no,.va (flW f),.va (clW c),.va (smW b),.no] ((List.range 8).map λi:Nat=>.int (0+(i:Nat)))=akp ((List.range 8).map λd=>stR ssW (exN "Blind" d) (lV f c b d)):=uU λd n=>⟨_,rfl,rfl,by have o:d<8:=asK.mp n;have e:=vx f B c E b d (by omega) (by omega);simp only[Int.zero_add];simp only[adS,iD,lq,oG,asP,aoe,aof,rE,cI];exact e⟩;rw[tE]at a;rw[show(List.range 8).map (λi:Nat=>W.int (0+(i:Nat)))=rng 0 8 from rfl]at a;unfold iE;cases g:(List.range 8).find? λd=>(lV f c b d).isNone with|some d=>rw[g]at a;simp only[Option.elim]at a;simp[uy,xR,List.replicate,fY,uN,ui,vg,a]|none=>
  rw[g]at a;simp only[Option.elim]at a;have m:∀d,d<8->∃s,lV f c b d=some s:=λd n=>by have:=List.find?_eq_none.mp g d (asK.mpr n);cases e:lV f c b d with|none=>rw[e]at this;exact absurd rfl this|some s=>exact⟨s,rfl⟩
  have j:bH (ax 0) kz (ay iq (ae (eOp oIx (aj 1) (aj 0)) (ae (eOp oIx (aj 4) (aj 0)) au))) [.no,.va (flW f),.va (clW c),.va (smW b),.va (.lst ((List.range 8).map λi=>stN ssW (lV f c b i)))] ((List.range 8).map λi:Nat=>.int (0+(i:Nat)))=.ok ((List.range 8).map λd=>qE (jR (f.getD d (0,0,0)) ((lV f c b d).getD none))):=cV λd n=>⟨_,rfl,rfl,by
    have o:d<8:=asK.mp n;obtain⟨s,u⟩:=m d o;have J:=agB (f:=f) (k:=d) (by omega);have I:=abd (f.getD d (0,0,0)) (B _ (v d o)) s λl e=>y d l (by rw[u,e]);have G:oIx (.lst ((List.range 8).map λi=>stN ssW (lV f c b i))) (.int d)=.ok (ssW s):=by rw[v7,h8,ar3,at1 o];simp[u]
    simp only[Int.zero_add];simp only[j3,y4,iD,lq,oG,asP,aoe,aof,rE,cI,J,G,I,gA,u,Option.getD_some]⟩;rw[show(List.range 8).map (λi:Nat=>W.int (0+(i:Nat)))=rng 0 8 from rfl]at j;have t:=aam (bZ f c b) (λw hw=>by obtain⟨d,n,rfl⟩:=ase.mp hw;exact tN _ _ (B _ (v d (asK.mp n)))) λw hw=>by obtain⟨d,n,rfl⟩:=ase.mp hw;obtain⟨s,u⟩:=m d (asK.mp n);rw[u];cases s with|none=>simp[jR]|some l=>have:=y d l u;simp[jR,sO];omega (by simp[bZ]);have C:lU (bZ f c b)=.lst ((List.range 8).map λd=>qE (jR (f.getD d (0,0,0)) ((lV f c b d).getD none))):=by simp only[lU,bZ,asM];rfl
  rw[<-show W.lst _=_ from C.symm]at t;have D:=t;generalize hA:(List.range 8).map (λi=>stN ssW (lV f c b i))=A at *;generalize hB:(List.range 8).map (λd=>qE (jR (f.getD d (0,0,0)) ((lV f c b d).getD none)))=Bq at *;simp only[uy,xR,run_eq,arZ,atw,ar1,atH,List.replicate,asA,as0,fj,abX,uN,ui,agt,ap3,fY,cI,afE];simp[vg,a,j,t];rw[<-C];cases vd 0 (bZ f c b)<;>simp
def aag{f w b}(h:Met f w)(h':Met f b):w=b:=by cases h with
|none a=>cases h' with|none _=>rfl|two i j hij hj h _ _=>exact absurd h (ml a hij hj)
|two i j hij hj h p1 p2=>cases h' with|none a=>exact absurd h (ml a hij hj)|two i' j' hij' hj' h' q1 q2=>
   have d:i=i':=by
    rcases Nat.lt_trichotomy i _ with z|z|z;.exact absurd h (q1 i j z hij hj)
    .exact z
    .exact absurd h' (p1 _ _ z hij' hj')
   subst d;have c:j=j':=by
    rcases Nat.lt_trichotomy j _ with z|z|z;.exact absurd h (q2 j hij z)
    .exact z
    .exact absurd h' (p2 _ hij' z)
   subst c;rfl
theorem acu:∀k ws,vd k ws=none->∀w∈ws,(w.drop 1).all inB=true
|_,[],_,w,hw=>by grind|k,x::ws,h,w,hw=>by
 simp [vd]at h;split at h
 .rename_i a;rcases ar4.mp hw with rfl|hw;.exact a
  .exact acu _ _ h w hw
 .cases h
def ajA(w)(hw:w≠[]):oIx (qE w) (.int (-1))=.ok (stW (gm w)):=by have e:qE w=.lst _:=rfl;rw[e,v7,iC,atP,gm,at7,ata hw];rfl
def qj(A)(ws:List (List S3))(h:∀w∈ws,w≠[]):bH (ax 0) kz (eOp oIx (aj 0) (eUn yt (eC (.int 1)))) (.no::A) (ws.map qE)=.ok ((ws.map gm).map stW):=by have:=cV (g:=ax 0) (t:=kz) (e:=eOp oIx (aj 0) (eUn yt (eC (.int 1)))) (σ:=.no::A) (emb:=qE) (f:=λw=>stW (gm w)) (xs:=ws) λw hw=>⟨_,rfl,rfl,by simp[ajA w (h w hw)]⟩;rw[this,asM];rfl
def rJ(f)(h:f.length<=100)(i j:Nat)(a:Met f (.tup [.int i,.int j]))(S)(g:S=flW f\/S=.lst (f.map stW)):dW [S]=.ex (.exc "Meet" [.int i,.int j]):=by
 obtain⟨w,e,m⟩:=dI f h S g;have b:i<f.length/\j<f.length:=by cases a with|two i' j' h1 h2 _ _ _=>omega
 have hw:=aag m a;subst hw;have c:=nc (n:=i) (by omega);have d:=nc (n:=j) (by omega);simp[dW,ib,e,kD,WL.fieldsOf,c,d,kM]
def ap7(f)(u:f.length=8)(t:∀p∈f,Fac p)(c)(n:∀r∈c,r.ts.length<=100)(s:∀r∈c,∀l,r.ss=some l->l.length<=100):(∀x,iE f c none=.ex x->cC [flW f,clW c,.non]=.ex x)/\∀ws g,iE f c none=.ok ws->(∀w∈ws,w≠[])->ws.map gm=g->g.length=8->(jt g->cC [flW f,clW c,.non]=.ok (flW g))/\∀i j:Nat,Met g (.tup [.int i,.int j])->cC [flW f,clW c,.non]=.ex (.exc "Meet" [.int i,.int j]):=by
 have a:=aip f u t c n s none;rw[show smW none=.non from rfl]at a;refine⟨λx e=>?_,λws g e d m v=>⟨λq=>?_,λi j o=>?_⟩⟩;.rw[e]at a;simp at a;simp[cC,jC,List.replicate,a]
 .rw[e,cI]at a;have b:=λA=>qj A ws d;have h:=wI g (by omega) _ (.inr rfl) q;rw[m]at b;have k:ws.length<=1000000:=by grind
  simp only[lU]at a;simp[cC,jC,List.replicate,a,b,h,k]
 .rw[e,cI]at a;have b:=λA=>qj A ws d;have h:=rJ g (by omega) i j o (.lst (g.map stW)) (.inr rfl);rw[m]at b;have k:ws.length<=1000000:=by grind
  simp only[lU]at a;simp[cC,jC,List.replicate,a,b,h,k]
structure G8(f:List S3):Prop where len:f.length=8good:∀p∈f,FM.Good p
def G8.fac{f}(h:G8 f):∀p∈f,Fac p:=λp a=>(h.good p a).2.2.2.2
def dnc(f:List S3)(c:List Rl):Option (List S3):=match iE f c none with|.ok ws=>@ite _ (jt (ws.map gm)) (Classical.propDecidable _) (some (ws.map gm)) none|_=>none
def Ref(x:W):Prop:=∃fs,x=.exc "Blind" fs\/x=.exc "Out" fs\/x=.exc "Meet" fs
def ajH{p}(h:inB p=true)(a:Fac p):FM.Good p:=by simp [inB]at h;exact⟨h.1.1,h.1.2,h.2.1,h.2.2,a.1,a.2⟩
def qb{f}(g:G8 f){c}(l:vd 0 (bZ f c none)=none):(∀w∈bZ f c none,w≠[])/\G8 ((bZ f c none).map gm):=by
 have b:∀w∈bZ f c none,w≠[]/\FM.Good (gm w):=λw hw=>by
  have j:=acu 0 _ l w hw;obtain⟨d,h,rfl⟩:=ase.mp hw;have h:d<f.length:=by rw[g.len];exact asK.mp h
  have e:f.getD d (0,0,0)∈f:=by grind
  have a:=tN ((lV f c none d).getD none) _ (g.fac _ e);obtain⟨t,k⟩:=zZ _ _;rw[k]at j a⊢;refine⟨by simp,?_⟩;have i:=ac6 (w:=f.getD d (0,0,0)::t) (by simp);rcases ar4.mp i with z|z;.rw[z];exact g.good _ e
  .exact ajH (asx.mp j _ z) (a _ i)
 refine⟨λw hw=>(b w hw).1,by simp[bZ],λp e=>?_⟩;obtain⟨w,hw,rfl⟩:=ase.mp e;exact(b w hw).2
structure COk(c:List Rl):Prop where ts:∀r∈c,r.ts.length<=100ss:∀r∈c,∀l,r.ss=some l->l.length<=100
def mI(f)(c):(∃d,iE f c none=.ex (exN "Blind" d))\/(∃d,iE f c none=.ex (exN "Out" d))\/iE f c none=.ok (bZ f c none)/\vd 0 (bZ f c none)=none:=by unfold iE;cases(List.range 8).find? _ with|some d=>exact .inl ⟨d,rfl⟩|none=>cases e:vd 0 _ with|some d=>exact .inr (.inl ⟨d,rfl⟩)|none=>exact .inr (.inr ⟨rfl,rfl⟩)
def uO{f}(n:G8 f){c}(o:COk c):(∃g,dnc f c=some g/\cC [flW f,clW c,.non]=.ok (flW g)/\G8 g)\/dnc f c=none/\∃x,Ref x/\cC [flW f,clW c,.non]=.ex x:=by
 obtain⟨p,q⟩:=ap7 f n.len n.fac c o.ts o.ss;rcases mI f c with⟨d,e⟩|⟨d,e⟩|⟨e,t⟩;.exact .inr ⟨by unfold dnc;rw[e],_,⟨_,.inl rfl⟩,p _ e⟩
 .exact .inr ⟨by unfold dnc;rw[e],_,⟨_,.inr (.inl rfl)⟩,p _ e⟩
 .obtain⟨l,k⟩:=qb n t;obtain⟨r,s⟩:=q _ _ e l rfl k.len;refine de (dI ((bZ f c none).map gm) (by have:=k.len;omega) _ (.inl rfl)) λw _ m=>?_;have u:dnc f c=@ite _ (jt ((bZ f c none).map gm)) (Classical.propDecidable _) (some ((bZ f c none).map gm)) none:=by unfold dnc;rw[e]
  cases m with|none a=>exact .inl ⟨_,by grind,r a,k⟩|two i j hij hj h a b=>exact .inr ⟨by rw[u,arO λz=>ml z hij hj h],_,⟨_,.inr (.inr rfl)⟩,s i j (.two i j hij hj h a b)⟩
def fm(f:List S3):List S3:=FM.pick (aY f) 3
def am7{f}(h:G8 f):gJ [flW f]=.ok (flW (fm f)):=ajK f (by have:=h.len;omega)
def G8.turn{f}(h:G8 f)(k):G8 (f.map (FM.tqn k)):=⟨by rw[ar7];exact h.len,λp a=>by obtain⟨r,b,rfl⟩:=ase.mp a;exact FM.afj k r (h.good r b)⟩
theorem G8.fm{f}(h:G8 f):G8 (fm f):=by obtain⟨i,_,e⟩:=FM.gi _ 3;unfold K67.fm;rw[e];exact h.turn i
def ajN{f}(h:G8 f)(q)(a:q<=3):fm (f.map (FM.tqn q))=fm f:=FM.oq h.good q a
def afi{f}(h:G8 f)(n):∃q,q<=3/\dw [flW f,.int n]=.ok (flW (f.map (FM.tqn q))):=⟨_,by omega,mO f n (by have:=h.len;omega)⟩
noncomputable def CS:List (Str×List Rl):=[("about",[⟨[],some [.turn .about]⟩]),("lt",[⟨[],some [.turn .left]⟩]),("walk",[⟨[(false,.at 2 0 .none)],some [.go .ahead 2]⟩]),("swap",[⟨[(false,.at 0 2 .same)],some [.go .right 2]⟩,⟨[(false,.at 0 (-2) .same)],some [.go .left 2]⟩,⟨[],none⟩]),("cross",[⟨[(false,.at 6 0 .about)],some [.go .ahead 6]⟩,⟨[(false,.at 2 0 .about)],some [.go .ahead 2]⟩,⟨[],none⟩]),("hin",[⟨[(false,.lone .head),(false,.lone .inward)],some [.go .ahead 2]⟩,⟨[],none⟩]),("hout",[⟨[(false,.lone .head),(false,.inner 1)],some [.go .back 2]⟩,⟨[],none⟩]),("face",[⟨[(false,.lone .lefts)],some [.turn .right]⟩,⟨[],some [.turn .left]⟩]),("pass",[⟨[(false,.at 2 0 .any),(true,.at 4 0 .any)],some [.go .ahead 4]⟩,⟨[(false,.at 2 0 .none)],some [.go .ahead 2]⟩,⟨[],none⟩]),("side",[⟨[(false,.lone .side),(false,.at 0 2 .same)],some [.go .right 1,.go .ahead 2,.go .left 1]⟩,⟨[],none⟩]),("ring",[⟨[(false,.lone .outward)],some [.turn .left,.go .ahead 2]⟩,⟨[(false,.lone .inward)],some [.go .right 2,.turn .left]⟩,⟨[],some [.turn .left]⟩]),("back",[⟨[(false,.inner 3),(true,.inner 1)],some [.go .back 2]⟩,⟨[],some [.turn .about]⟩]),("meet",[⟨[(false,.at 0 2 .partner)],some [.go .right 1]⟩,⟨[(false,.at 0 (-2) .partner)],some [.go .left 1,.turn .left]⟩,⟨[],none⟩]),("own",[⟨[(false,.at 0 2 .partner)],some [.turn .left]⟩,⟨[(false,.at 0 (-2) .partner)],some [.turn .right]⟩,⟨[],none⟩]),("off",[⟨[(false,.lone .outward)],some (List.replicate 8 (.go .ahead 9))⟩,⟨[],some [.turn .about]⟩])]
def TXS:W:=match cg []with|.ok w=>w|_=>.non
def KN:List W:=CS.map λp=>.str p.1
def VC:List W:=CS.map λp=>clW p.2
def BK:W:=.ins "Book" [.dic KN VC]
def xP:cg []=.ok TXS:=by kernel_rfl
def akb:uD [TXS]=.ok (.dic KN VC):=by kernel_rfl
def aoM:zf [TXS]=ze [.lst KN]:=by kernel_rfl
def aj9:∀p∈CS,bD [BK,.str p.1]=.ok (clW p.2):=by intro p a;simp [CS]at a;rcases a with rfl|rfl|rfl|rfl|rfl|rfl|rfl|rfl|rfl|rfl|rfl|rfl|rfl|rfl|rfl<;>kernel_rfl
def ano:(CS.all λp=>p.2.all λr=>decide (r.ts.length<=100)&&match r.ss with|none=>true|some l=>decide (l.length<=100))=true:=by decide+kernel
def aef{p}(b:p∈CS):COk p.2:=by
 have h:=asx.mp (asx.mp ano p b);refine⟨λr a=>?_,λr a l e=>?_⟩;.have:=h r a;simp  at this;exact this.1
 .have:=h r a;rw[e]at this;simp  at this;exact this.2
def aj2:(CS.all λp=>p.1.cps.all (.<0x110000))=true:=by decide+kernel
def anm{p}(a:p∈CS)(n):okD n (.str p.1)=true:=by have:=asx.mp aj2 p a;exact this
def aqb:(CS.map (·.1)).Nodup:=by decide+kernel
def sN:List Str:=abJ (CS.map (·.1))
def aiI:ze [.lst KN]=.ok (.lst (sN.map .str)):=rfl
def alu:sN.length=15:=by have:=(ic (CS.map (·.1))).length_eq;exact this
def aoS:sN.Nodup:=(ic _).nodup_iff.mpr aqb
def als{x}(h:x∈sN):∃p∈CS,p.1=x:=by obtain⟨p,a,e⟩:=ase.mp ((ic _).mem_iff.mp h);exact⟨p,a,e⟩
def adQ(c)(f)(o)(a)(σ):iT c f o a σ=(o σ).bind λx=>if isI c x then(a σ).bind λws=>f (x::ws)else .bad:=rfl
def ajr{p}(c:p∈CS){o a σ}(h:o σ=.ok BK)(b:a σ=.ok (.str p.1)):iT "Book" bD o (ae a au) σ=.ok (clW p.2):=by rw[adQ,h];rw[iD,b];exact aj9 p c
def opW:Option (List S3)->W|none=>.non|some g=>flW g
def u7{p}(b:p∈CS){f}(i:G8 f):cK [BK,flW f,.str p.1]=.ok (opW (dnc f p.2)):=by
 have m:∀c,iT _ bD (aj 0) (ae (aj 2) au) [.va BK,.va (flW f),.va (.str p.1),c]=.ok _:=λc=>ajr b (by simp) (by simp);rcases uO i (aef b)with⟨g,e,a,_⟩|⟨e,x,h,a⟩;.rw[e];simp[cK,eS,dq,m,a,opW]
 .rw[e];have d:la "FloorError" x=true:=by obtain⟨fs,rfl|rfl|rfl⟩:=h<;>simp[md]
  simp[cK,eS,dq,fh,List.replicate,m,a,opW,d]
def j4{p}(b:p∈CS){f g}(c:G8 f)(h:dnc f p.2=some g):G8 g:=by
 rcases uO c (aef b)with⟨d,e,_,a⟩|⟨e,_⟩;.rw[e]at h;cases h;exact a
 .rw[e]at h;cases h
noncomputable def HM:List S3:=[(-1,-3,0),(1,-3,0),(3,-1,1),(3,1,1),(1,3,2),(-1,3,2),(-3,1,3),(-3,-1,3)]
def wC:G8 HM:=⟨rfl,by intro p a;simp [HM]at a;rcases a with rfl|rfl|rfl|rfl|rfl|rfl|rfl|rfl<;>simp[FM.Good]⟩
def agP(ns)(a b):cut (ns.map W.int) a b=(cut ns a b).map .int:=by unfold cut;rw[ar7,<-List.map_drop,<-List.map_take]
def yL(f):kM (flW f)=false:=rfl
theorem uF{b c:Type}(f:b->c):∀(l:List b)n,(l.map f).eraseIdx n=(l.eraseIdx n).map f|[],_=>rfl|_::_,0=>rfl|a::l,n+1=>ats _ (uF f l n)
theorem qr{b:Type}:∀{l:List b}{n}h,(l[n]::l.eraseIdx n).Perm l|a::l,0,_=>.refl _|a::l,n+1,h=>((List.Perm.swap a _ _).trans (List.Perm.cons a (qr (l:=l) _)))
def zR{i j e σ xs ys}{n:Nat}{y}(c:σ[i]?=some (.ow xs))(f:σ[j]?=some (.ow ys))(d:e σ=.ok (.int n))(a:i≠j)(b:ys[n]?=some y)(h:ys.length<=1000)(g:xs.length<=1000):kE i j e σ=.nx ((σ.set j (.ow (ys.eraseIdx n))).set i (.ow (xs++[y]))):=by have k:=(arL.mp b).1;unfold kE;rw[c,f];rw[d];dsimp only;rw[arM ⟨a,by omega,by omega,by rw[yH];omega,by rw[yH];omega⟩,atN,b]
theorem yp:∀{l},(∀x∈l,x∈sN)->∃a:List (Str×List Rl),a.map (·.1)=l/\∀p∈a,p∈CS|[],_=>⟨[],rfl,λ_ h=>nomatch h⟩|x::l,h=>by obtain⟨p,f,rfl⟩:=als (h x (by simp));obtain⟨a,e,c⟩:=yp (l:=l) λy d=>h y (by grind);exact⟨p::a,by grind,λq b=>by grind⟩
structure NL(l:List (Str×List Rl)):Prop where
 mem:∀p∈l,p∈CS
 nd:(l.map (·.1)).Nodup
noncomputable def nmW(l:List (Str×List Rl)):List W:=l.map λp=>.str p.1
noncomputable def arz:W->Bool|.dic _ _=>true|_=>false
def uh(z:Int)(m:Nat)(G:m<=4):∃l,NL l/\l.length=m/\eM [.int z,.int m]=.ok (.lst (nmW l)):=by
 obtain⟨o,h,d,c,f,t,q,u,rfl⟩:=rG (g:=ax 4) (b:=gk) (xs:=rng 0 m) (λi o=>∃(d c:List Str)(f:Int)(t:Sl),(d++c).Perm sN/\d.length=i/\o=[.va (.int f),.va (.int m),.ow (c.map .str),.ow (d.map .str),t]) (σ:=[.va (.int z),.va (.int m),.ow (sN.map .str),.ow [],.no]) ⟨[],sN,z,.no,.refl _,rfl,rfl⟩ (by
   rintro i w σ hw⟨d,c,f,t,q,u,rfl⟩;obtain⟨H,rfl⟩:=vK _ _ _ _ hw;have A:c.length=15-i:=by have:=q.length_eq;rw[asm,alu]at this;omega
   have k:(0:Int)<c.length:=by omega
   obtain⟨n,B⟩:∃n:Nat,f%(c.length:Int)=n:=⟨(f%(c.length:Int)).toNat,by have:=Int.emod_nonneg f (b:=c.length) (by omega);omega⟩;have p:n<c.length:=by have:=Int.emod_lt_of_pos f k;omega
   refine⟨_,rfl,[.va (.int (f/14)),.va (.int m),.ow ((c.eraseIdx n).map .str),.ow ((d++[c[n]]).map .str),.va (.int (0+i))],?_,d++[c[n]],c.eraseIdx n,f/14,_,?_,by simp[u],rfl⟩;.have e:=zR (i:=3) (j:=2) (e:=akA 2 (eOp oMod (aj 0) (eBi iB (ae (aj 2) au)))) (σ:=[.va (.int f),.va (.int m),.ow (c.map .str),.ow (d.map .str),.va (.int (0+i))]) (xs:=d.map .str) (ys:=c.map .str) (n:=n) (y:=.str c[n]) rfl rfl (by simp[show 0<c.length by omega,B]) (by decide) (by simp[p]) (by simp;omega) (by simp;omega);show sT (kE 3 2 _ [.va (.int f),.va (.int m),.ow (c.map .str),.ow (d.map .str),.va (.int (0+i))]) _=_;rw[e];simp[uF]
   .refine List.Perm.trans ?_ q;rw[asJ];exact List.Perm.append_left d (qr p));have v:(d++c).Nodup:=q.nodup_iff.mpr aoS;obtain⟨l,s,r⟩:=yp (l:=d) λx E=>q.mem_iff.mp (ass.mpr (.inl E));have C:d.map W.str=nmW l:=by rw[<-s,asM];rfl
 refine⟨l,⟨r,by rw[s];exact(List.nodup_append.mp v).1⟩,by have:=ats List.length s;rw[ar7]at this;rw[this,u,zT],?_⟩;have b:-4611686018427387904<=(m:Int)/\(m:Int)<4611686018427387904:=by omega
 have D:ac7 (ay cg au) [.va (.int z),.va (.int m),.no,.no,.no]=.ok (sN.map .str):=by
  show((ay cg au [.va (.int z),.va (.int m),.no,.no,.no]).bind λx=>match x with|.dic _ _=>(zf [x]).bind asL|_=>.bad)=_;rw[j3,lq,cI,xP,gA,cI];have e:arz TXS=true:=by kernel_rfl
  have st:=aoM;generalize TXS=T at e st⊢;cases T with|dic a b=>show(zf [.dic a b]).bind asL=_;rw[st,aiI];rfl|_=>cases e
 simp[eM,i2,List.replicate,D,b,h,C]
structure Row where
 f:List S3
 d:Nat
 p:W
 n:W
def Row.w(r:Row):W:=.tup [flW r.f,.int r.d,r.p,r.n]
structure Row.Ok(r:Row):Prop where
 g:G8 r.f
 p:r.p=.non\/∃i:Int,r.p=.int i
 n:r.n=.non\/∃q∈CS,r.n=.str q.1
def Row.Ok.pl{r:Row}(h:r.Ok):plain r.w=true:=by
 have b:plain r.p=true:=by rcases h.p with e|⟨i,e⟩<;>rw[e]<;>rfl
 have a:plain r.n=true:=by rcases h.n with e|⟨q,d,e⟩<;>rw[e]<;>rfl
 have c:plain (flW r.f)=true:=by simp[flW]
 simp[Row.w,b,a,c]
def lay(rs:List Row)(o:Option (List S3))(d:Nat)(p n:W):List Row:=match o with|none=>rs|some g=>if fm g∈rs.map (·.f)then rs else rs++[⟨fm g,d,p,n⟩]
noncomputable def ext(pl:Nat)(f:List S3)(d:Nat):List (Str×List Rl)->List Row->List Row|[],rs=>rs|q::l,rs=>ext pl f d l (lay rs (dnc f q.2) (d+1) (.int pl) (.str q.1))
def og(rs)(o)(d)(p n):lay rs o d p n=rs\/∃g,o=some g/\fm g∉rs.map (·.f)/\lay rs o d p n=rs++[⟨fm g,d,p,n⟩]:=by cases o with|none=>exact .inl rfl|some g=>
 by_cases h:fm g∈rs.map (·.f);.exact .inl (arM h)
 .exact .inr ⟨g,rfl,h,arO h⟩
theorem adJ(pl)(f)(j:G8 f)(d):∀l(_:∀p∈l,p∈CS)a,∃b,ext pl f d l a=a++b/\b.length<=l.length/\∀r∈b,r.d=d+1/\r.Ok
|[],_,a=>⟨[],by simp[ext],by simp,λ_ h=>nomatch h⟩|q::l,hl,a=>by
 obtain⟨b,e,n,i⟩:=adJ pl f j d l (λp m=>hl p (by simp[m])) (lay a _ (d+1) (.int pl) (.str q.1));rcases og a _ (d+1) (.int pl) (.str q.1)with z|⟨g,k,_,z⟩;.rw[z]at e;exact⟨b,by rw[ext,z,e],by simp;omega,i⟩
 .rw[z]at e;refine⟨⟨fm g,d+1,.int pl,.str q.1⟩::b,by rw[ext,z,e];simp,by simp;omega,λr c=>?_⟩;rcases ar4.mp c with rfl|c;.exact⟨rfl,(j4 (hl q (by simp)) j k).fm,.inr ⟨_,rfl⟩,.inr ⟨q,hl q (by simp),rfl⟩⟩
  .exact i r c
noncomputable def go(L:Nat)(l:List (Str×List Rl)):Nat->Nat->List Row->Option (List Row)|0,_,_=>none|n+1,pl,rs=>match rs[pl]? with|none=>some rs|some r=>if r.d<L then go L l n (pl+1) (ext pl r.f r.d l rs)else some rs
noncomputable def gS(b:Nat):Nat->Nat|0=>1|k+1=>1+b*gS b k
def am2(b k):1<=gS b k:=by cases k<;>simp[gS]
noncomputable def wt(b L:Nat):List Row->Nat|[]=>0|r::rs=>gS b (L-r.d)+wt b L rs
theorem ag5(b L):∀c a,wt b L (c++a)=wt b L c+wt b L a|[],a=>by simp[wt]|r::c,a=>by simp [wt,ag5 b L _ _];omega
theorem ag3(b L k):∀a,(∀r∈a,r.d=k)->wt b L a=a.length*gS b (L-k)|[],_=>by simp[wt]|r::a,h=>by rw[wt,h r (by simp),ag3 b L k _ λx c=>h x (by grind),ar1,Nat.add_mul];omega
theorem ag4(b L):∀a,a.length<=wt b L a|[]=>by simp|r::a=>by have:=ag4 b L a;have:=am2 b (L-r.d);simp [wt];omega
theorem adw{L l}(j:∀p∈l,p∈CS){B}:∀n pl a,(∀r∈a,r.Ok)->pl<=a.length->pl+wt l.length L (a.drop pl)<=B->B<n+pl->∃R,go L l n pl a=some R/\R.length<=B/\(∀r∈R,r.Ok)/\a <+:R
|0,pl,a,_,hp,hB,hn=>by grind|n+1,pl,a,hr,hp,hB,hn=>by
 have b:a.length<=B:=by have:=ag4 l.length L (a.drop pl);rw[avu]at this;omega
 cases e:a[pl]? with|none=>exact⟨a,by simp[go,e],b,hr,ati _⟩|some r=>
   have d:=(arL.mp e).1;by_cases i:r.d<L
   .have f:=asv e;obtain⟨c,u,q,o⟩:=adJ pl r.f (hr r f).g r.d l j a;have h:a.drop pl=r::a.drop (pl+1):=by rw[asu d];congr 1;exact(arL.mp e).2
    obtain⟨k,y⟩:∃k,L-r.d=k+1:=⟨L-r.d-1,by omega⟩;have g:L-(r.d+1)=k:=by omega
    rw[h,wt,y,gS]at hB;have hw:=ag3 l.length L (r.d+1) c λx m=>(o x m).1;rw[g]at hw;have z:c.length*gS l.length k<=l.length*gS l.length k:=Nat.mul_le_mul_right _ q;obtain⟨R,v,t,s,w⟩:=adw (L:=L) (B:=B) j n (pl+1) (a++c) λx m=>by grind (by simp;omega) (by rw[List.drop_append_of_le_length (by omega),ag5];omega) (by omega);refine⟨R,?_,t,s,(au4 a c).trans w⟩;rw[go,e];dsimp only;rw[arM i,u];exact v
   .exact⟨a,by simp[go,e,i],b,hr,ati _⟩
theorem ahV(f):∀l:List (List S3),dO (flW f) (l.map flW)=decide (f∈l)|[]=>rfl|p::l=>by simp [uG,ahV f l];rw[asq];simp ;exact or_congr eq_comm Iff.rfl
def wq(rs)(o)(d)(p n):rs.length<=(lay rs o d p n).length/\(lay rs o d p n).length<=rs.length+1:=by rcases og _ o d p n with z|⟨g,_,_,z⟩<;>rw[z]<;>simp
def amy{rs q}(b:q∈CS){f}(e:G8 f){d i}(h:∀r∈rs,r.Ok):∀r∈lay rs (dnc f q.2) d (.int i) (.str q.1),r.Ok:=by
 rcases og _ _ d _ _ with z|⟨g,c,_,z⟩<;>rw[z];.exact h
 .intro r a;rcases ass.mp a with a|a;.exact h r a
  .rw[asn.mp a];exact⟨(j4 b e c).fm,.inr ⟨_,rfl⟩,.inr ⟨q,b,rfl⟩⟩
def ab1{rs:List Row}{pl:Nat}{r}(e:rs[pl]?=some r):atI (rs.map Row.w) pl=some r.w:=by rw[h8,ar3,e];rfl
def lY(f:List S3):Row:=⟨fm f,0,.non,.non⟩
def ab2{f}(h:G8 f):∀r∈[lY f],r.Ok:=λr a=>by rw[asn.mp a];exact⟨h.fm,.inl rfl,.inl rfl⟩
noncomputable def xq(o:OX Sr)(b:RF Sr):OX Sr:=match o with|.nx σ s=>b σ s|o=>o
def cD(a b)(σ)(s):mB a b σ s=xq (a σ s) b:=by unfold mB xq;cases a σ s<;>rfl
def qB(σ)(s)(b):xq (.nx σ s) b=b σ s:=rfl
noncomputable def ao5(o:Out)(s:Sr):OX Sr:=match o with|.nx σ'=>.nx σ' s|.bk σ'=>.bk σ' s|.ct σ'=>.ct σ' s|.rt w=>.rt w s|.ex c σ'=>.ex c σ'|.bad=>.bad
def qC(t)(σ)(s):kf t σ s=ao5 (t σ) s:=rfl
def aaZ(t)(a b)(σ)(s:Sr):xIf t a b σ s=ae0 (t σ s) (a σ s) (b σ s):=rfl
def qD(c)(a b:OX Sr):ae0 (.ok c) a b=if c=true then a else b:=by cases c<;>rfl
noncomputable def ky(f:List S3):List (List Int):=f.map λp=>[p.1,p.2.1,p.2.2]
def ada(f):kyW (flW f)=some (ky f):=by show amC _=some _;induction f with|nil=>rfl|cons p f ih=>show(adn _).bind _=_;rw[ih];rfl
theorem ahH:∀{f g},ky f=ky g->f=g|[],[],_=>rfl|[],_::_,h=>nomatch h|_::_,[],h=>nomatch h|(a,b,c)::f,(a',b',c')::g,h=>by simp [ky]at h;obtain⟨⟨rfl,rfl,rfl⟩,h⟩:=h;rw[ahH  h]
def ahG(f)(rs:List Row):ky f∈rs.map (λr=>ky r.f)↔ f∈rs.map (·.f):=by
 constructor;.intro h;obtain⟨r,a,e⟩:=ase.mp h;exact ase.mpr ⟨r,a,ahH e⟩
 .intro h;obtain⟨r,a,e⟩:=ase.mp h;exact ase.mpr ⟨r,a,by rw[e]⟩
def SR(gl:Option (List S3))(a d m:Nat)(rs:List Row):Sr:=⟨a,d,opW gl,.int m,rs.map Row.w,rs.map λr=>ky r.f⟩
def hit(gl:Option (List S3))(rs:List Row):Bool:=match gl,rs.getLast? with|some g,some r=>decide (r.f=g)|_,_=>false
def gv(c)(n)(e)(σ):kZ c n e σ=(e σ).bind (am8 c n):=rfl
def ji(n)(ws):am8 "Search" n (.ins "Search" ws)=ofO ws[n]?:=by unfold am8;simp only ;cases ws[n]?<;>rfl
section
variable{gl:Option (List S3)}{a d m:Nat}{rs:List Row}{g:List S3}{dp:Nat}{p n:W}
def aeZ{j t σ}(h:σ[j]?=some (.va (.id a))):xT Sr.a Sr.val j t σ (SR gl a d m rs)=t (σ.set j (.va (.ins "Search" [opW gl,.int m,.lst (rs.map Row.w),.id d]))):=by unfold xT seen;rw[h];show(match if a=a then some _ else none with|some σ'=>t σ'|none=>.bad)=_;rw[arM rfl];rfl
def akS{σ}(b:σ[0]?=some (.va (.id a)))(c:σ[5]?=some (.va (flW g))):xIn 5 σ (SR gl a d m rs)=.ok (decide (g∈rs.map (·.f))):=by unfold xIn;rw[b];show(if a=a then _ else _)=_;rw[arM rfl,c];dsimp ;rw[ada];show Res.ok _=_;congr 1;rw[decide_eq_decide];exact ahG g _
def ajz(j:G8 g):bR [.id a,flW g,.int dp,p,n] (SR gl a d m rs)=if fm g∈rs.map (·.f)then .rt .non (SR gl a d m rs)else if m<=rs.length then .ex (.exc "TooMany" []) [.va (.id a),.va (flW g),.va (.int dp),.va p,.va n,.va (flW (fm g))]else if rs.length<1000000 then .nx [.va (.id a),.va (flW g),.va (.int dp),.va p,.va n,.va (flW (fm g))] (SR gl a d m (rs++[⟨fm g,dp,p,n⟩]))else .bad:=by
 have l:=am7 j;show eT [.va (.id a),.va (flW g),.va (.int dp),.va p,.va n,.no] (SR gl a d m rs)=_;unfold eT;have o:bo 5 (ay gJ (ae (aj 1) au)) [.va (.id a),.va (flW g),.va (.int dp),.va p,.va n,.no]=.nx [.va (.id a),.va (flW g),.va (.int dp),.va p,.va n,.va (flW (fm g))]:=by simp[l]
 rw[cD,qC,o];show xq (OX.nx _ _) _=_;rw[qB,cD,aaZ,akS (g:=fm g) rfl rfl,qD];by_cases c:fm g∈rs.map (·.f);.rw[arM c,aso c,arM rfl];rfl
 rw[arO c,ar6 c,arO ar2];show xq (OX.nx _ _) _=_;rw[qB,cD,aaZ,aeZ (a:=a) rfl];have i:(tB (eOp oGe (eBi iB (ae (kZ "Search" 2 (aj 0)) au)) (kZ "Search" 1 (aj 0)))) [.va (.ins "Search" [opW gl,.int m,.lst (rs.map Row.w),.id d]),.va (flW g),.va (.int dp),.va p,.va n,.va (flW (fm g))]=.ok (decide (m<=rs.length)):=by simp[gv,ji]
 show xq (ae0 ((tB _) [.va (.ins "Search" [opW gl,.int m,.lst (rs.map Row.w),.id d]),.va (flW g),.va (.int dp),.va p,.va n,.va (flW (fm g))]) _ _) _=_;rw[i,qD];by_cases f:m<=rs.length;.rw[arM f,aso f,arM rfl];rfl
 rw[arO f,ar6 f,arO ar2];show xq (OX.nx _ _) _=_;rw[qB,cD];by_cases e:rs.length<1000000
 .rw[arM e];have b:rs.length<lim:=e;have h:zp 5 [.va (.id a),.va (flW g),.va (.int dp),.va p,.va n,.va (flW (fm g))] (SR gl a d m rs)=.nx [.va (.id a),.va (flW g),.va (.int dp),.va p,.va n,.va (flW (fm g))] {SR gl a d m rs with seen:=rs.map (λr=>ky r.f)++[ky (fm g)]}:=by unfold zp at_;show(if a=a then _ else _)=_;rw[arM rfl];show(match kyW (flW (fm g))with|some k=>_|none=>_)=_;rw[ada];dsimp only;rw[arM ⟨by show ky (fm g)∉rs.map λr=>ky r.f;rw[ahG];exact c,by show(rs.map λr=>ky r.f).length<lim;rw[ar7];exact b⟩];rfl
  rw[h,qB];unfold ah7 at_;show(if a=a then _ else _)=_;rw[arM rfl];have q:(lR (ae (aj 5) (ae (aj 2) (ae (aj 3) (ae (aj 4) au))))) [.va (.id a),.va (flW g),.va (.int dp),.va p,.va n,.va (flW (fm g))]=.ok (.tup [flW (fm g),.int dp,p,n]):=by simp
  rw[q];dsimp only;rw[arM (by show(rs.map Row.w).length<lim;rw[ar7];exact b)];simp[SR,Row.w]
 .rw[arO e];have b:¬rs.length<lim:=e;have h:zp 5 [.va (.id a),.va (flW g),.va (.int dp),.va p,.va n,.va (flW (fm g))] (SR gl a d m rs)=.bad:=by unfold zp at_;show(if a=a then _ else _)=_;rw[arM rfl];show(match kyW (flW (fm g))with|some k=>_|none=>_)=_;rw[ada];dsimp only;rw[arO λz=>by have:=z.2;simp only[SR,ar7]at this;exact b this]
  rw[h];rfl
def aaP(h:rs≠[]):aG [.ins "Search" [opW gl,.int m,.lst (rs.map Row.w),.id d]]=.ok (.bl (hit gl rs)):=by
 obtain⟨r,b⟩:∃r,rs.getLast?=some r:=⟨_,ata h⟩;have e:atI (rs.map Row.w) (-1)=some r.w:=by rw[iC,atP,b];rfl
 have c:oEq (flW r.f) (opW gl)=.ok (.bl (hit gl rs)):=by unfold hit;rw[b];cases gl with|none=>have:zI (flW r.f) .non=false:=rfl;show oEq (flW r.f) .non=_;unfold oEq;rw[arO (by rw[this];exact ar2),arM (by rw[acE 48];rfl)];rfl|some g=>exact amf _ _
 simp[aG,dF,gv,ji,e,Row.w,c]
end
def VL(l:List (Str×List Rl)):List W:=l.map λp=>clW p.2
def DW(l:List (Str×List Rl)):W:=.dic (nmW l) (VL l)
theorem adz:∀{l},(l.map (·.1)).Nodup->∀{q},q∈l->oV q.1 (nmW l) (VL l)=some (clW q.2)
|[],_,_,h=>nomatch h|p::l,hn,q,a=>by
 rw[arZ,as5]at hn;show(if(p.1==q.1)=true then some _ else oV _ _ _)=_;rcases ar4.mp a with rfl|a;.rw[arM (by simp)]
 .rw[arO λz=>hn.1 (ase.mpr ⟨q,a,(eq_of_beq z).symm⟩)];exact adz hn.2 a
noncomputable def TS(a pl:Nat)(D rw:W)(b o5:Sl):Ws:=[.va (.id a),.va (.int pl),.va D,.va rw,b,o5]
noncomputable abbrev TMX:W:=.exc "TooMany" []
noncomputable def xl(o:OX Sr)(k:RF Sr):OX Sr:=match o with|.nx σ2 s2=>k σ2 s2|.ct σ2 s2=>k σ2 s2|.bk σ2 s2=>.nx σ2 s2|o=>o
def zq(k)(b)(x)(xs)(σ)(s):iW k b (x::xs) σ s=xl (b (σ.set k (.va x)) s) (iW k b xs):=by rw[iW];cases b _ s<;>rfl
def aeY(t)(b)(n)(σ)(s):aaY t b (n+1) σ s=ae0 (t σ s) (xl (b σ s) (aaY t b n)) (.nx σ s):=by rw[aaY];cases b σ s<;>rfl
section
variable{gl:Option (List S3)}{a d m:Nat}{l:List (Str×List Rl)}{pl:Nat}{r:Row}
def zd{j:Nat}{σ:Ws}{rs:List Row}{g:List S3}{dp:Nat}{p n:W}{as:AF}(h:σ[j]?=some (.va (.id a)))(k:as σ=.ok [flW g,.int dp,p,n])(i:G8 g)(hz:rs.length<900000):gM Sr.a j bR as σ (SR gl a d m rs)=(let b:=lay rs (some g) dp p n;if b.length<=m\/b.length=rs.length then .nx σ (SR gl a d m b)else .ex TMX σ):=by
 unfold gM;rw[h];show(if a=a then _ else _)=_;rw[arM rfl,k];show ofM σ (bR [.id a,flW g,.int dp,p,n] (SR gl a d m rs))=_;rw[ajz i];by_cases c:fm g∈rs.map (·.f);.have e:lay rs (some g) dp p n=rs:=arM c;rw[arM c];dsimp only;rw[e,arM (.inr rfl)];rfl
 .have e:lay rs (some g) dp p n=rs++[⟨fm g,dp,p,n⟩]:=arO c;rw[arO c];dsimp only;rw[e];by_cases f:m<=rs.length;.rw[arM f,arO (by simp;omega)];rfl
  .rw[arO f,arM (by omega),arM (.inl (by simp;omega))];rfl
def adv{rs}(h:rs≠[]){j σ}(b:σ[j]?=some (.va (.id a))):xT Sr.a Sr.val j (tB (iS "Search" aG (aj j) au)) σ (SR gl a d m rs)=.ok (hit gl rs):=by
 rw[aeZ b];have e:iS "Search" aG (aj j) au (σ.set j (.va (.ins "Search" [opW gl,.int m,.lst (rs.map Row.w),.id d])))=.ok (.bl (hit gl rs)):=by unfold iS;rw[oG,arT (arL.mp b).1];show(if isN "Search" (.ins "Search" [opW gl,.int m,.lst (rs.map Row.w),.id d])=true then aG _ else .bad)=_;rw[arM (by simp[isN]),aaP h]
 rw[abC,e];rfl
def ahF{rs o d p n}(h:rs≠[]):lay rs o d p n≠[]:=λe=>by have:=(wq rs o d p n).1;exact h (atB.mp (by grind))
noncomputable def kc(gl:Option (List S3))(pl:Nat)(f:List S3)(d:Nat):List (Str×List Rl)->List Row->List Row|[],rs=>rs|q::l,rs=>match dnc f q.2 with|none=>kc gl pl f d l rs|some g=>if hit gl (lay rs (some g) (d+1) (.int pl) (.str q.1))=true then lay rs (some g) (d+1) (.int pl) (.str q.1)else kc gl pl f d l (lay rs (some g) (d+1) (.int pl) (.str q.1))
theorem iw:∀l b,b.length<=(kc gl pl r.f r.d l b).length
|[],b=>arP _|q::l,b=>by
 unfold kc;split;.exact iw l _
 .split;.exact(wq ..).1
  .exact arU (wq ..).1 (iw l _)
def ait{q}(i:q∈l)(k:NL l)(v:r.Ok){rs}(h:rs≠[])(hz:rs.length<900000)(z:rs.length<=m){g}(e:dnc r.f q.2=some g)(o5):aA (TS a pl (DW l) r.w (.va (.str q.1)) o5) (SR gl a d m rs)=(let b:=lay rs (some g) (r.d+1) (.int pl) (.str q.1);if b.length<=m then if hit gl b=true then .rt .non (SR gl a d m b)else .nx (TS a pl (DW l) r.w (.va (.str q.1)) (.va (flW g))) (SR gl a d m b)else .ex TMX (TS a pl (DW l) r.w (.va (.str q.1)) (.va (flW g)))):=by
 have y:oIx (DW l) (.str q.1)=.ok (clW q.2):=by rw[DW,acI,adz k.nd i];rfl
 have s:oIx r.w (.int 0)=.ok (flW r.f):=rfl;have x:oIx r.w (.int 1)=.ok (.int r.d):=rfl;rcases uO v.g (aef (k.mem q i))with⟨A,f,w,o⟩|⟨f,_⟩
 .rw[e]at f;cases f;have u:zQ aN ["Blind","Out","Meet"] bW (TS a pl (DW l) r.w (.va (.str q.1)) o5)=.nx (TS a pl (DW l) r.w (.va (.str q.1)) (.va (flW g))):=by
   have:aN (TS a pl (DW l) r.w (.va (.str q.1)) o5)=.nx (TS a pl (DW l) r.w (.va (.str q.1)) (.va (flW g))):=by simp[aN,TS,s,y,w]
   unfold zQ;rw[this]
  have t:=zd (gl:=gl) (a:=a) (d:=d) (m:=m) (j:=0) (σ:=TS a pl (DW l) r.w (.va (.str q.1)) (.va (flW g))) (rs:=rs) (g:=g) (dp:=r.d+1) (p:=.int pl) (n:=.str q.1) (as:=ae (aj 5) (ae (eOp fF (eOp oIx (aj 3) (eC (.int 1))) (eC (.int 1))) (ae (aj 1) (ae (aj 4) au)))) rfl (by simp[TS,x]) o hz;unfold aA;rw[cD,qC,u];show xq (OX.nx _ _) _=_;rw[qB,cD,t];by_cases c:(lay rs (some g) (r.d+1) (.int pl) (.str q.1)).length<=m;.rw[arM (.inl c),arM c,qB,aaZ,adv (ahF h) rfl,qD];rfl
  .rw[arO (by omega),arO c];rfl
 .rw[e]at f;cases f
def aiu{q}(b:q∈l)(f:NL l)(j:r.Ok){rs}(e:dnc r.f q.2=none)(o5):aA (TS a pl (DW l) r.w (.va (.str q.1)) o5) (SR gl a d m rs)=.ct (TS a pl (DW l) r.w (.va (.str q.1)) o5) (SR gl a d m rs):=by
 have n:oIx (DW l) (.str q.1)=.ok (clW q.2):=by rw[DW,acI,adz f.nd b];rfl
 have h:oIx r.w (.int 0)=.ok _:=rfl;rcases uO j.g (aef (f.mem q b))with⟨p,c,_⟩|⟨_,x,o,k⟩;.rw[e]at c;cases c
 .have i:zQ aN ["Blind","Out","Meet"] bW (TS a pl (DW l) r.w (.va (.str q.1)) o5)=.ct (TS a pl (DW l) r.w (.va (.str q.1)) o5):=by
   have:aN (TS a pl (DW l) r.w (.va (.str q.1)) o5)=.ex x (TS a pl (DW l) r.w (.va (.str q.1)) o5):=by simp[aN,TS,h,n,k]
   have g:j5 ["Blind","Out","Meet"] x=true:=by obtain⟨fs,rfl|rfl|rfl⟩:=o<;>simp[j5,md]
   unfold zQ;rw[this];show pq _ _ _ _=_;unfold pq;rw[arM g];rfl
  unfold aA;rw[cD,qC,i];rfl
theorem vu(t:NL l)(o:r.Ok):∀c(_:∀q∈c,q∈l)b(_:b≠[])(_:(kc gl pl r.f r.d c b).length<900000)(_:b.length<=m)k j,((kc gl pl r.f r.d c b).length<=m->(∃i,iW 4 aA (nmW c) (TS a pl (DW l) r.w k j) (SR gl a d m b)=.nx i (SR gl a d m (kc gl pl r.f r.d c b)))\/iW 4 aA (nmW c) (TS a pl (DW l) r.w k j) (SR gl a d m b)=.rt .non (SR gl a d m (kc gl pl r.f r.d c b)))/\(m<(kc gl pl r.f r.d c b).length->∃i,iW 4 aA (nmW c) (TS a pl (DW l) r.w k j) (SR gl a d m b)=.ex TMX i)
|[],_,b,_,_,hm,k,j=>⟨λ_=>.inl ⟨_,rfl⟩,λh=>absurd h (by show¬m<b.length;omega)⟩|q::c,hs,b,hne,hz,hm,k,j=>by
 have ex:∀s,iW 4 aA (nmW (q::c)) (TS a pl (DW l) r.w k j) s=xl (aA (TS a pl (DW l) r.w (.va (.str q.1)) j) s) _:=λs=>zq ..
 have v:b.length<900000:=aue (iw (gl:=gl) (q::c) b) hz;rw[ex];cases e:dnc r.f q.2 with|none=>
   have u:kc gl pl r.f r.d (q::c) b=kc gl pl r.f r.d c b:=by rw[kc,e]
   rw[u]at hz⊢;rw[aiu (hs q (by simp)) t o e];exact vu t o c (λp w=>hs p (by simp[w])) b hne hz hm _ _|some g=>
   have u:kc gl pl r.f r.d (q::c) b=if hit gl (lay b (some g) (r.d+1) (.int pl) (.str q.1))=true then lay b (some g) (r.d+1) (.int pl) (.str q.1)else kc gl pl r.f r.d c (lay b (some g) (r.d+1) (.int pl) (.str q.1)):=by rw[kc,e]
   rw[u]at hz⊢;rw[ait (hs q (by simp)) t o hne v hm e];dsimp only;have x:=iw (gl:=gl) (pl:=pl) (r:=r) c (lay b (some g) (r.d+1) (.int pl) (.str q.1));by_cases n:hit gl (lay b (some g) (r.d+1) (.int pl) (.str q.1))=true
   .rw[arM n]at hz⊢;by_cases f:(lay b (some g) (r.d+1) (.int pl) (.str q.1)).length<=m;.rw[arM f,arM n];exact⟨λ_=>.inr rfl,λh=>by omega⟩
    .rw[arO f];exact⟨λh=>absurd h f,λ_=>⟨_,rfl⟩⟩
   .rw[arO n]at hz⊢;by_cases f:(lay b (some g) (r.d+1) (.int pl) (.str q.1)).length<=m;.rw[arM f,arO n];exact vu t o c (λp w=>hs p (by simp[w])) _ (ahF hne) hz f _ _
    .rw[arO f];exact⟨λh=>by omega,λ_=>⟨_,rfl⟩⟩
def aix(s:NL l){rs}(c:∀r∈rs,r.Ok)(e:rs[pl]?=some r)(hz:(kc gl pl r.f r.d l rs).length<900000)(n:rs.length<=m):((kc gl pl r.f r.d l rs).length<=m->(∃b,bf [.id a,.int pl,DW l] (SR gl a d m rs)=.nx b (SR gl a d m (kc gl pl r.f r.d l rs)))\/bf [.id a,.int pl,DW l] (SR gl a d m rs)=.rt .non (SR gl a d m (kc gl pl r.f r.d l rs)))/\(m<(kc gl pl r.f r.d l rs).length->∃b,bf [.id a,.int pl,DW l] (SR gl a d m rs)=.ex TMX b):=by
 have f:=c r (asv e);obtain⟨i,g⟩:=vu (gl:=gl) (a:=a) (d:=d) (m:=m) (pl:=pl) s f l (λ_ h=>h) rs (λz=>by rw[z]at e;cases e) hz n .no .no;have q:akR Sr.a Sr.val 0 3 (eOp oIx (kZ "Search" 2 (aj 0)) (aj 1)) [.va (.id a),.va (.int pl),.va (DW l),.no,.no,.no] (SR gl a d m rs)=.nx (TS a pl (DW l) r.w .no .no) (SR gl a d m rs):=by
  have j:seen Sr.a Sr.val 0 [.va (.id a),.va (.int pl),.va (DW l),.no,.no,.no] (SR gl a d m rs)=some [.va (.ins "Search" [opW gl,.int m,.lst (rs.map Row.w),.id d]),.va (.int pl),.va (DW l),.no,.no,.no]:=arM rfl;have k:eOp oIx (kZ "Search" 2 (aj 0)) (aj 1) [.va (.ins "Search" [opW gl,.int m,.lst (rs.map Row.w),.id d]),.va (.int pl),.va (DW l),.no,.no,.no]=.ok r.w:=by have o:=ab1 e;simp[gv,ji,o]
  unfold akR;rw[j];dsimp only;rw[k];dsimp only;rw[arM f.pl];rfl
 have p:bf [.id a,.int pl,DW l] (SR gl a d m rs)=iW 4 aA (nmW l) (TS a pl (DW l) r.w .no .no) (SR gl a d m rs):=by show mB _ _ [.va (.id a),.va (.int pl),.va (DW l),.no,.no,.no] (SR gl a d m rs)=_;rw[cD,q];rfl
 rw[p];exact⟨i,g⟩
end
def afk{j as t σ wg wm w}(c:as σ=.ok [wg,wm])(h:∀a d,∃s,t (σ.set j (.va (.id a))) ⟨a,d,wg,wm,[],[]⟩=.rt w s):jM j as t σ=.rt w:=by have H:∃o,Comes t σ j _ _ o:=⟨_,λa d=>by obtain⟨s,e⟩:=h a d;rw[e]⟩;unfold jM;rw[c];dsimp ;rw[dif_pos H];have b:=auI H 0 0;obtain⟨s,e⟩:=h 0 0;rw[e]at b;rw[b]
def afl{j as t σ wg wm c}(i:as σ=.ok [wg,wm])(h:∀a d,∃b,t (σ.set j (.va (.id a))) ⟨a,d,wg,wm,[],[]⟩=.ex c b/\b.length=σ.length):jM j as t σ=.ex c (List.replicate σ.length .no):=by have H:∃o,Comes t σ j _ _ o:=⟨_,λa d=>by refine de (h a d) λs e g=>?_;rw[e];exact⟨rfl,g⟩⟩;unfold jM;rw[i];dsimp ;rw[dif_pos H];have f:=auI H 0 0;refine de (h 0 0) λs e _=>?_;rw[e]at f;rw[f.1]
theorem ahO(x):∀l,aeQ (.str x) (nmW l)=l.any λp=>p.1==x|[]=>rfl|p::l=>by show(wu _ _||aeQ _ (nmW l))=_;rw[ahO x l];rfl
def CS0(gl:Option (List S3))(F N:W)(L m:Nat)(c o7 o8 o9:Sl):Ws:=[.va (opW gl),.va BK,.va F,.va N,.va (.int L),.va (.int m),c,o7,o8,o9]
theorem qu{gl F N L m o8 o9}:∀rest a c,a.length+rest.length<=900->(∀p∈rest,p∈CS)->((a++rest).map (·.1)).Nodup->∃b,forL (ax 7) bB (nmW rest) (CS0 gl F N L m (.od (nmW a) (VL a)) c o8 o9)=.nx (CS0 gl F N L m (.od (nmW (a++rest)) (VL (a++rest))) b o8 o9)
|[],a,c,_,_,_=>⟨c,by rw[asl];rfl⟩|q::rest,a,c,hl,hc,hn=>by
 obtain⟨b,f⟩:=qu (gl:=gl) (F:=F) (N:=N) (L:=L) (m:=m) (o8:=o8) (o9:=o9) rest (a++[q]) (.va (.str q.1)) (by simp at hl⊢;omega) (λp d=>hc p (by simp[d])) (by rw[asJ];exact hn);refine⟨b,?_⟩;show n5 (bB (CS0 gl F N L m (.od (nmW a) (VL a)) (.va (.str q.1)) o8 o9)) (forL (ax 7) bB (nmW rest))=_;have em:iT "Book" bD (aj 1) (ae (aj 7) au) (CS0 gl F N L m (.od (nmW a) (VL a)) (.va (.str q.1)) o8 o9)=.ok (clW q.2):=ajr (hc q (by simp)) rfl rfl;have g:aeQ (.str q.1) (nmW a)=false:=by rw[ahO,Bool.eq_false_iff];intro z;obtain⟨p,d,e⟩:=List.any_eq_true.mp z;rw[asZ,List.nodup_append]at hn;exact hn.2.2 p.1 (ase.mpr ⟨p,d,rfl⟩) q.1 (by simp) (eq_of_beq e)
 have h:bB (CS0 gl F N L m (.od (nmW a) (VL a)) (.va (.str q.1)) o8 o9)=.nx (CS0 gl F N L m (.od (nmW (a++[q])) (VL (a++[q]))) (.va (.str q.1)) o8 o9):=by show ofR _ _ (λv=>putD 6 (nmW a) (VL a) (.str q.1) v _)=_;rw[em];show putD 6 (nmW a) (VL a) (.str q.1) (clW q.2) _=_;unfold putD putK alH;rw[arM ⟨rfl,by rw[yH];simp[nmW]at hl⊢;omega⟩,g];simp[CS0,nmW,VL]
 rw[h];rw[asJ]at f;exact f
section
variable{gl:Option (List S3)}{a d m:Nat}{l:List (Str×List Rl)}{L:Nat}{F N:W}{o7:Sl}
noncomputable def goG(gl:Option (List S3))(L:Nat)(l:List (Str×List Rl)):Nat->Nat->List Row->Option (List Row)|0,_,_=>none|n+1,pl,rs=>match rs[pl]? with|none=>some rs|some r=>if r.d<L/\hit gl rs=false then goG gl L l n (pl+1) (kc gl pl r.f r.d l rs)else some rs
theorem adx:∀n pl b R,goG gl L l n pl b=some R->b.length<=R.length
|0,_,_,_,h=>nomatch h|n+1,pl,b,R,h=>by
 unfold goG at h;split at h;.cases h;exact arP _
 .split at h;.exact arU (iw ..) (adx n _ _ _ h)
  .cases h;exact arP _
set_option tactic.hygienic true
theorem wK{pl f}(b:G8 f){d}:∀{l}(_:∀p∈l,p∈CS){rs},(∀r∈rs,r.Ok)->∀r∈kc gl pl f d l rs,r.Ok
|[],_,_,h=>h|q::l,hl,rs,h=>by
 unfold kc;split;.exact wK b (λp i=>hl p (by grind)) h
 .rename_i g e;have c:∀r∈lay rs (some g) (d+1) (.int pl) (.str q.1),r.Ok:=by rw[<-e];exact amy (hl q (by simp)) b h
  split;.exact c
  .exact wK b (λp i=>hl p (by grind)) c
set_option tactic.hygienic false
theorem aba(v:NL l){R}(I:R.length<900000):∀n pl b(_:∀r∈b,r.Ok)(_:b≠[])(_:pl<=b.length)(_:b.length<=m)(_:goG gl L l n pl b=some R),(R.length<=m->∃i:Nat,aaY (xT Sr.a Sr.val 8 aE) bA n (CS0 gl F N L m (.va (DW l)) o7 (.va (.id a)) (.va (.int pl))) (SR gl a d m b)=.nx (CS0 gl F N L m (.va (DW l)) o7 (.va (.id a)) (.va (.int i))) (SR gl a d m R))/\(m<R.length->∃c,aaY (xT Sr.a Sr.val 8 aE) bA n (CS0 gl F N L m (.va (DW l)) o7 (.va (.id a)) (.va (.int pl))) (SR gl a d m b)=.ex TMX c/\c.length=10)
|0,_,_,_,_,_,_,h=>nomatch h|n+1,pl,b,hr,hne,hp,hm,h=>by
  rw[aeY,aeZ (a:=a) rfl];have f:iS "Search" aG (aj 8) au (CS0 gl F N L m (.va (DW l)) o7 (.va (.ins "Search" [opW gl,.int m,.lst (b.map Row.w),.id d])) (.va (.int pl)))=.ok (.bl (hit gl b)):=by have z:=adv (gl:=gl) (a:=a) (d:=d) (m:=m) hne (j:=8) (σ:=CS0 gl F N L m (.va (DW l)) o7 (.va (.id a)) (.va (.int pl))) rfl;rw[aeZ (a:=a) rfl,abC]at z;have z:(iS "Search" aG (aj 8) au (CS0 gl F N L m (.va (DW l)) o7 (.va (.ins "Search" [opW gl,.int m,.lst (b.map Row.w),.id d])) (.va (.int pl)))).bind toB=.ok (hit gl b):=z;generalize iS "Search" aG (aj 8) au (CS0 gl F N L m (.va (DW l)) o7 (.va (.ins "Search" [opW gl,.int m,.lst (b.map Row.w),.id d])) (.va (.int pl)))=y at z;cases y with
 |ok w=>cases w<;>first|(cases z;rfl)|cases z
 |_=>cases z
  show(R.length<=m->∃i:Nat,ae0 (aE (CS0 gl F N L m (.va (DW l)) o7 (.va (.ins "Search" [opW gl,.int m,.lst (b.map Row.w),.id d])) (.va (.int pl)))) _ _=_)/\(m<R.length->∃c,ae0 (aE (CS0 gl F N L m (.va (DW l)) o7 (.va (.ins "Search" [opW gl,.int m,.lst (b.map Row.w),.id d])) (.va (.int pl)))) _ _=_/\_)
  unfold goG at h;cases e:b[pl]? with|none=>
   rw[e]at h;have C:¬pl<b.length:=by have:=asV.mp e;omega
   have k:aE (CS0 gl F N L m (.va (DW l)) o7 (.va (.ins "Search" [opW gl,.int m,.lst (b.map Row.w),.id d])) (.va (.int pl)))=.ok false:=by simp[aE,CS0,gv,ji,C]
   rw[k];cases h;exact⟨λ_=>⟨pl,rfl⟩,λz=>by omega⟩|some r=>
   rw[e]at h;dsimp only at h;have g:=(arL.mp e).1;have s:=ab1 e;by_cases o:r.d<L/\hit gl b=false
   .rw[arM o]at h;have A:=(hr r (asv e)).g;have G:=adx n _ _ _ h;have q:=iw (gl:=gl) (pl:=pl) (r:=r) l b;have k:aE (CS0 gl F N L m (.va (DW l)) o7 (.va (.ins "Search" [opW gl,.int m,.lst (b.map Row.w),.id d])) (.va (.int pl)))=.ok true:=by simp only[CS0]at f;simp[aE,CS0,gv,ji,g,s,Row.w,o.1,f,o.2]
    rw[k,qD,arM rfl];obtain⟨E,H⟩:=aix (gl:=gl) (a:=a) (d:=d) (m:=m) v hr e (by omega) hm;have x:bA (CS0 gl F N L m (.va (DW l)) o7 (.va (.id a)) (.va (.int pl))) (SR gl a d m b)=xq (ofM (CS0 gl F N L m (.va (DW l)) o7 (.va (.id a)) (.va (.int pl))) (bf [.id a,.int pl,DW l] (SR gl a d m b))) (kf (bo 9 (eOp af3 (aj 9) (eC (.int 1))))):=by unfold bA;rw[cD];congr 1;unfold gM;exact arM rfl
    by_cases p:(kc gl pl r.f r.d l b).length<=m;.have D:=aba v I n (pl+1) _ (wK A v.mem hr) (λz=>hne (atB.mp (by rw[z]at q;simpa using q))) (by omega) p h;rw[x];rcases E p with⟨c,t⟩|t<;>rw[t]<;>exact D
    .obtain⟨c,t⟩:=H (by omega);refine⟨λz=>by omega,λ_=>⟨CS0 gl F N L m (.va (DW l)) o7 (.va (.id a)) (.va (.int pl)),?_,rfl⟩⟩;rw[x,t];rfl
   .rw[arO o]at h;have k:aE (CS0 gl F N L m (.va (DW l)) o7 (.va (.ins "Search" [opW gl,.int m,.lst (b.map Row.w),.id d])) (.va (.int pl)))=.ok false:=by
     by_cases hd1:r.d<L
     .have u:hit gl b=true:=by cases B:hit gl b with|true=>rfl|false=>exact absurd ⟨hd1,B⟩ o
      simp only[CS0]at f;simp[aE,CS0,gv,ji,g,s,Row.w,hd1,f,u]
     .simp[aE,CS0,gv,ji,g,s,Row.w,hd1]
    rw[k];cases h;exact⟨λ_=>⟨pl,rfl⟩,λz=>by omega⟩
end
def ab0{gl f}(r:G8 f){l}(b:NL l)(x:l.length<=100){L m:Nat}{R}(u:goG gl L l 3000 0 [lY f]=some R)(y:R.length<900000)(k:1<=m):bu [opW gl,BK,flW f,.lst (nmW l),.int L,.int m]=if R.length<=m then .ok (.lst (R.map Row.w))else .ex TMX:=by
 obtain⟨o7,q⟩:=qu (gl:=gl) (F:=flW f) (N:=.lst (nmW l)) (L:=L) (m:=m) (o8:=.no) (o9:=.no) l [] .no (by simp;omega) b.mem b.nd;rw[as0]at q;have o:∀a d,gM Sr.a 8 bR (ae (aj 2) (ae (eC (.int 0)) (ae (eC .non) (ae (eC .non) au)))) (CS0 gl (flW f) (.lst (nmW l)) L m (.va (DW l)) o7 (.va (.id a)) .no) (SR gl a d m [])=.nx (CS0 gl (flW f) (.lst (nmW l)) L m (.va (DW l)) o7 (.va (.id a)) .no) (SR gl a d m [lY f]):=λa d=>by
  rw[zd (g:=f) (dp:=0) (p:=.non) (n:=.non) rfl rfl r (by simp)];have v:lay [] (some f) 0 .non .non=[lY f]:=by simp[lay,lY]
  dsimp only;rw[v,arM (.inl (by simpa using k))]
 have hw:=λa d=>aba (gl:=gl) (a:=a) (d:=d) (m:=m) (F:=flW f) (N:=.lst (nmW l)) (o7:=o7) b y 3000 0 [lY f] (ab2 r) (by simp) (by simp) (by simpa using k) u;have h:bu [opW gl,BK,flW f,.lst (nmW l),.int L,.int m]=if R.length<=m then .ok (.lst (R.map Row.w))else .ex TMX:=by
  have j:bu [opW gl,BK,flW f,.lst (nmW l),.int L,.int m]=fin (jM 8 (ae (aj 0) (ae (aj 5) au)) (mB (gM Sr.a 8 bR (ae (aj 2) (ae (eC (.int 0)) (ae (eC .non) (ae (eC .non) au))))) (mB (kf (bo 9 (eC (.int 0)))) (mB (aaY (xT Sr.a Sr.val 8 aE) bA 3000) (aou 8)))) (CS0 gl (flW f) (.lst (nmW l)) L m (.va (DW l)) o7 .no .no)):=by unfold bu;rw[run_eq];show fin (eR [.va (opW gl),.va BK,.va (flW f),.va (.lst (nmW l)),.va (.int L),.va (.int m),.no,.no,.no,.no])=_;unfold eR;rw[fj];show fin (sT (forL (ax 7) bB (nmW l) (CS0 gl (flW f) (.lst (nmW l)) L m (.od (nmW []) (VL [])) .no .no .no)) _)=_;rw[q];rfl
  rw[j];by_cases e:R.length<=m;.rw[arM e,afk (w:=.lst (R.map Row.w)) (wg:=opW gl) (wm:=.int m) rfl λa d=>by obtain⟨s,t⟩:=(hw a d).1 e;refine⟨SR gl a d m R,?_⟩;show mB _ _ (CS0 gl (flW f) (.lst (nmW l)) L m (.va (DW l)) o7 (.va (.id a)) .no) (SR gl a d m [])=_;rw[cD,o,qB,cD];show mB _ _ (CS0 gl (flW f) (.lst (nmW l)) L m (.va (DW l)) o7 (.va (.id a)) (.va (.int (0:Nat)))) (SR gl a d m [lY f])=_;rw[cD,t,qB];exact arM rfl];rfl
  .rw[arO e,afl (c:=TMX) (wg:=opW gl) (wm:=.int m) rfl λa d=>by refine de ((hw a d).2 (by omega)) λi t b=>?_;refine⟨i,?_,b⟩;show mB _ _ (CS0 gl (flW f) (.lst (nmW l)) L m (.va (DW l)) o7 (.va (.id a)) .no) (SR gl a d m [])=_;rw[cD,o,qB,cD];show mB _ _ (CS0 gl (flW f) (.lst (nmW l)) L m (.va (DW l)) o7 (.va (.id a)) (.va (.int (0:Nat)))) (SR gl a d m [lY f])=_;rw[cD,t];rfl];rfl
 exact h
section
variable{N Φ:Type}[DecidableEq Φ](c:Φ->N->Option Φ)(l:List N)
noncomputable def ddS(s:List Φ):List (List N×Φ)->List (List N×Φ)|[]=>[]|x::xs=>if x.2∈s then ddS s xs else x::ddS (s++[x.2]) xs
noncomputable def chS(x:List N×Φ):List (List N×Φ):=l.filterMap λn=>(c x.2 n).map λy=>(x.1++[n],y)
omit[DecidableEq Φ]in theorem anq(x y)(h:x.2=y.2):(chS c l x).map (·.2)=(chS c l y).map (·.2):=by unfold chS;rw[h];induction l with|nil=>rfl|cons n l ih=>simp [asU];cases c _ n with|none=>exact ih|some z=>simp [ih]
variable{c l}
theorem ad2:∀(xs:List (List N×Φ))(s:List Φ)(φ:Φ),φ∈s++(ddS s xs).map (·.2)↔ φ∈s\/φ∈xs.map (·.2)
|[],s,φ=>by simp[ddS]|x::xs,s,φ=>by
  unfold ddS;split
  .rename_i h;rw[ad2 xs s φ];simp only[arZ,ar4];constructor
   .rintro(a|a);.exact .inl a
    .exact .inr (.inr a)
   .rintro(a|rfl|a);.exact .inl a
    .exact .inl h
    .exact .inr a
  .have b:=ad2 xs (s++[x.2]) φ;simp only[arZ,asJ,auJ,ass,ar4,atv,or_false]at b⊢;rw[b];constructor
   .rintro((a|a)|a);.exact .inl a
    .exact .inr (.inl a)
    .exact .inr (.inr a)
   .rintro(a|a|a);.exact .inl (.inl a)
    .exact .inl (.inr a)
    .exact .inr a
theorem oH:∀(xs ys:List (List N×Φ))s,ddS s (xs++ys)=ddS s xs++ddS (s++(ddS s xs).map (·.2)) ys
|[],ys,s=>by simp[ddS]|x::xs,ys,s=>by
 by_cases h:x.2∈s
 .have e:∀a,ddS s (x::a)=ddS s a:=λa=>by rw[ddS,arM h]
  rw[asA,e,e,oH _ ys s]
 .have e:∀a,ddS s (x::a)=x::ddS _ a:=λa=>by rw[ddS,arO h]
  rw[asA,e,e,oH xs ys _];simp
theorem ad1:∀(xs:List (List N×Φ))(s:List Φ),(∀x∈xs,x.2∈s)->ddS s xs=[]|[],_,_=>rfl|x::xs,s,h=>by unfold ddS;rw[arM (h x (by simp))];exact ad1 xs s λy a=>h y (by simp[a])
theorem ad3:∀X s t,(∀x,x.2∈t->∀y∈chS c l x,y.2∈s)->ddS s (X.flatMap (chS c l))=ddS s ((ddS t X).flatMap (chS c l))
|[],_,_,_=>rfl|x::X,s,t,h=>by
  rw[asX,oH];by_cases b:x.2∈t
  .have e:ddS t (x::X)=ddS t X:=by rw[ddS,arM b]
   rw[e,ad1 _ s (h x b)];simp only[atw,asl,as0];exact ad3 X s t h
  .have e:ddS t (x::X)=x::ddS (t++[x.2]) X:=by rw[ddS,arO b]
   rw[e,asX,oH];congr 1;refine ad3 X _ _ λy a z d=>?_;rw[ad2];rcases ass.mp a with a|a;.exact .inl (h y a z d)
   .have f:y.2=x.2:=by grind
    rw[<-anq c l y x f];exact .inr (ase.mpr ⟨z,d,rfl⟩)
theorem wR(q:Φ->Bool):∀(xs:List (List N×Φ))s,(∀b∈s,q b=false)->(ddS s xs).find? (λx=>q x.2)=xs.find? λx=>q x.2
|[],_,_=>rfl|x::xs,s,h=>by
 unfold ddS;by_cases d:q x.2=true;.rw[arO λz=>by grind];simp[d]
 .have a:=by omega
  split;.rw[atk (by simp[a]),wR q xs s h]
  .rw[atk (by omega),atk (by omega),wR q xs _ λb e=>by grind]
variable(c l)(r:Φ)
noncomputable def VS:Nat->List (List N×Φ)|0=>[([],r)]|k+1=>(VS k).flatMap (chS c l)
noncomputable def ES:Nat->List (List N×Φ)|0=>[([],r)]|k+1=>ES k++VS c l r (k+1)
def TS_(k:Nat):List (List N×Φ):=ddS [] (ES c l r k)
def GS(X:List (List N×Φ)):List (List N×Φ):=([],r)::ddS [r] (X.flatMap (chS c l))
omit[DecidableEq Φ]in theorem xE:∀k,ES c l r (k+1)=([],r)::(ES c l r k).flatMap (chS c l)|0=>rfl|k+1=>by rw[ES,xE k,VS,asA];rw[<-at4,<-ES,xE k]
def xA:TS_ c l r 0=[([],r)]:=rfl
def oS(k):TS_ c l r (k+1)=GS c l r (TS_ c l r k):=by unfold TS_ GS;rw[xE,ddS,arO (by simp)];congr 1;exact ad3 _ _ _ λ_ h=>nomatch h
def xD{X Y}(h:X <+:Y):GS c l r X <+:GS c l r Y:=by obtain⟨Z,rfl⟩:=h;unfold GS;rw[at4,oH];exact List.prefix_cons_inj _|>.mpr (au4 _ _)
def aeG(X):[([],r)]<+:GS c l r X:=⟨_,rfl⟩
theorem zi:∀k,TS_ c l r k <+:TS_ c l r (k+1)|0=>by exact aeG c l r _|k+1=>by rw[oS,oS c l r _];exact xD c l r (zi k)
omit[DecidableEq Φ]in theorem aeE:∀k x,x∈VS c l r k->x.1.length=k|0,x,h=>by simp [VS]at h;rw[h];rfl|k+1,x,h=>by obtain⟨y,b,d⟩:=avy.mp h;obtain⟨n,_,a⟩:=atE.mp d;obtain⟨z,_,rfl⟩:=asf.mp a;simp[aeE k y b]
theorem ad0:∀(xs:List (List N×Φ))s,∀x∈ddS s xs,x∈xs
|[],_,_,h=>h|y::xs,s,x,h=>by
 unfold ddS at h;split at h;.exact asp _ (ad0 _ s x h)
 .rcases ar4.mp h with rfl|h;.exact ash ..
  .exact asp _ (ad0 _ _ x h)
def xB(k):∃a,TS_ c l r (k+1)=TS_ c l r k++a/\∀x∈a,x.1.length=k+1:=by unfold TS_;rw[ES,oH];exact⟨_,rfl,λx b=>aeE c l r _ x (ad0 _ _ x b)⟩
theorem akg:∀k x,x∈TS_ c l r k->x.1.length<=k
|0,x,h=>by rw[xA,asn]at h;rw[h];exact arP _|k+1,x,h=>by
 obtain⟨b,e,a⟩:=xB c l r k;rw[e]at h;rcases ass.mp h with h|h;.exact avg (akg k x h)
 .exact auL (a x h)
noncomputable def gE(L:Nat):Nat->Nat->List (List N×Φ)->Option (List (List N×Φ))|0,_,_=>none|n+1,p,xs=>match xs[p]? with|none=>some xs|some x=>if x.1.length<L then gE L n (p+1) (xs++ddS (xs.map (·.2)) (chS c l x))else some xs
theorem am3{L}:∀n p xs R,xs=GS c l r (xs.take p)->p<=xs.length->xs <+:TS_ c l r L->(∀x∈xs.take p,x.1.length<L)->gE c l L n p xs=some R->R=TS_ c l r L
|0,_,_,_,_,_,_,_,h=>nomatch h|n+1,p,xs,R,hx,hp,hT,hlt,h=>by
  unfold gE at h;-- where T's rows of fewer names end
  have cut:∀q:Nat,q<=xs.length->(∀x∈xs.take q,x.1.length<L)->L≠0->xs.take q <+:TS_ c l r (L-1):=λq hq hl h0=>by
   obtain⟨nw,e,hn⟩:=xB c l r (L-1);rw[show L-1+1=L by omega]at e hn;have hpre:xs.take q <+:TS_ c l r L:=(List.take_prefix q xs).trans hT;rw[e]at hpre;by_cases hle:q<=(TS_ c l r (L-1)).length
   .obtain⟨Z,hZ⟩:=hpre;have:xs.take q=(TS_ c l r (L-1)).take q:=by have h1:=ats (List.take q) hZ;rw[atb (by rw[asG];omega),atb hle,List.take_take,Nat.min_self]at h1;exact h1
    rw[this];exact List.take_prefix _ _
   .exfalso;obtain⟨Z,hZ⟩:=hpre;have hlen:(TS_ c l r (L-1)).length<(xs.take q).length:=by rw[asG];omega
    have g:(xs.take q)[(TS_ c l r (L-1)).length]?=nw[0]?:=by
     have h1:(xs.take q++Z)[(TS_ c l r (L-1)).length]?=(TS_ c l r (L-1)++nw)[(TS_ c l r (L-1)).length]?:=by rw[hZ]
     rw[arX hlen,ar8 (arP _),avz]at h1;exact h1
    rw[arQ hlen]at g;have m1:=hl _ (asS hlen);have m2:=hn _ (asv g.symm);omega
  have whole:(∀k,TS_ c l r k <+:xs)->xs=TS_ c l r L:=λhk=>by have h1:=hk L;exact ava hT (avG hT.length_le h1.length_le)
  cases e:xs[p]? with
 |none=>rw[e]at h;cases h;have hpl:p=xs.length:=avG hp (asV.mp e);refine whole λk=>?_;induction k with|zero=>rw[xA,hx];exact aeG c l r _|succ k ih=>rw[oS,hx,hpl,List.take_length];exact xD c l r ih
 |some x=>
   rw[e]at h;dsimp only at h;have hlp:=(arL.mp e).1;have htk:xs.take (p+1)=xs.take p++[x]:=by rw[List.take_succ,e];rfl
   split at h
   .rename_i hd;have hl2:∀y∈xs.take (p+1),y.1.length<L:=λy hy=>by
     rw[htk]at hy;rcases ass.mp hy with hy|hy;.exact hlt y hy
     .rw[asn.mp hy];exact hd
    have hG:xs++ddS (xs.map (·.2)) (chS c l x)=GS c l r (xs.take (p+1)):=by
     rw[htk];unfold GS;rw[at4,oH];have e1:xs=([],r)::ddS [r] ((xs.take p).flatMap (chS c l)):=hx;rw[<-asA,<-e1];congr 1;simp only[asX,List.flatMap_nil,asl];congr 1;conv=>lhs;rw[e1]
     rfl
    refine am3 n (p+1) _ R ?_ (by rw[asm];omega) ?_ ?_ h;.rw[atb (by omega)];exact hG
    .rw[hG];have:=xD c l r (cut (p+1) (by omega) hl2 (by omega));rw[<-oS,show L-1+1=L by omega]at this;exact this
    .rw[atb (by omega)];exact hl2
   .rename_i hd;cases h;by_cases h0:L=0
    .subst h0;have hp0:xs.take p=[]:=by cases hq:xs.take p with|nil=>rfl|cons y ys=>exact absurd (hlt y (by rw[hq];simp)) (by omega)
     rw[hp0]at hx;rw[hx,xA];rfl
    .have h1:=cut p (by omega) hlt h0;-- nothing of fewer names is left
     have h2:(TS_ c l r (L-1)).length<=p:=by
      refine auC λhlt2=>hd ?_;obtain⟨nw,e2,_⟩:=xB c l r (L-1);rw[show L-1+1=L by omega]at e2;obtain⟨Z,hZ⟩:=hT;have g:(xs++Z)[p]?=(TS_ c l r (L-1)++nw)[p]?:=by rw[hZ,e2]
      rw[arX hlp,arX hlt2,e]at g;have:=akg c l r (L-1) x (asv g.symm);omega
     have h3:xs.take p=TS_ c l r (L-1):=ava h1 (by have:=h1.length_le;rw[asG]at this⊢;omega);rw[hx,h3,<-oS,show L-1+1=L by omega]
end
theorem oE(pl)(f)(d):∀l a,kc none pl f d l a=ext pl f d l a|[],a=>rfl|q::l,a=>by rw[kc,ext];cases dnc f _ with|none=>exact oE _ f d l _|some g=>exact oE _ f d l _
theorem yR(L)(l):∀n pl a,goG none L l n pl a=go L l n pl a|0,_,_=>rfl|n+1,pl,a=>by rw[goG,go];cases a[pl]? with|none=>rfl|some r=>
  dsimp ;by_cases h:r.d<L;.rw[arM ⟨h,rfl⟩,arM h,oE,yR L l n]
  .rw[arO λz=>h z.1,arO h]
theorem wJ(pl)(f)(d):∀l a,a <+:ext pl f d l a
|[],a=>ati _|q::l,a=>by
 refine List.IsPrefix.trans ?_ (wJ _ f d l _);rcases og _ _ _ _ _ with z|⟨g,_,_,z⟩<;>rw[z];.exact ati _
 .exact au4 _ _
theorem yP(L)(l):∀n pl a R,go L l n pl a=some R->a <+:R
|0,_,_,_,h=>nomatch h|n+1,pl,a,R,h=>by
 unfold go at h;split at h;.cases h;exact ati _
 .split at h;.exact(wJ ..).trans (yP L l n _ _ _ h)
  .cases h;exact ati _
noncomputable def upTo(g:List S3):List Row->List Row|[]=>[]|r::rs=>if r.f=g then[r]else r::upTo g rs
section
variable{g:List S3}
def xO{rs nw:List Row}(h:∀r∈rs,r.f≠g):upTo g (rs++nw)=rs++upTo g nw:=by induction rs with|nil=>rfl|cons r rs ih=>rw[asA,upTo,arO (h r (by simp)),ih λx a=>h x (by simp[a])];rfl
def mL{rs}(h:∀r∈rs,r.f≠g):upTo g rs=rs:=by have:=xO (nw:=[]) h;simpa[upTo]using this
def ki{rs more r}(h:∀r∈rs,r.f≠g)(a:r.f=g):upTo g (rs++r::more)=rs++[r]:=by rw[xO h,upTo,arM a]
def ahN{rs}(h:∀r∈rs,r.f≠g):hit (some g) rs=false:=by unfold hit;cases e:rs.getLast? with|none=>rfl|some r=>exact ar6 (h r (List.mem_of_getLast? e))
def adq(rs)(r):hit (some g) (rs++[r])=decide (r.f=g):=by unfold hit;rw[List.getLast?_concat]
theorem qO:∀(xs:List Row),(∀r∈xs,r.f≠g)\/∃A x B,xs=A++x::B/\(∀r∈A,r.f≠g)/\x.f=g
|[]=>.inl λ_ h=>nomatch h|r::xs=>by
 by_cases h:r.f=g;.exact .inr ⟨[],r,xs,rfl,λ_ h=>(nomatch h),h⟩
 .rcases qO xs with z|⟨A,x,B,e,c,a⟩;.exact .inl λy b=>by grind
  .exact .inr ⟨r::A,x,B,by rw[e];rfl,λy b=>by grind,a⟩
theorem j2(pl)(f)(d):∀l a,(∀r∈a,r.f≠g)->kc (some g) pl f d l a=upTo g (ext pl f d l a)|[],a,h=>(mL h).symm|q::l,a,h=>by rw[kc,ext];cases e:dnc f q.2 with|none=>exact j2 pl f d l a h|some x=>
   dsimp only;rcases og a (some x) (d+1) _ _ with z|⟨y,_,_,z⟩<;>rw[z];.rw[arO (by rw[ahN h];exact ar2)];exact j2 pl f d l a h
   .rw[adq];by_cases c:fm y=g;.rw[arM (aso c)];obtain⟨j,i⟩:=wJ pl f d l _;rw[<-i,asJ];exact(ki h c).symm
    .rw[arO (by grind)];refine j2 pl f d l _ λr b=>?_;rcases ass.mp b with b|b;.exact h r b
     .rw[asn.mp b];exact c
theorem yQ(L)(l):∀n pl a R,(∀r∈a,r.f≠g)->go L l n pl a=some R->goG (some g) L l n pl a=some (upTo g R)|0,_,_,_,_,h=>nomatch h|n+1,pl,a,R,hn,h=>by rw[goG];rw[go]at h;cases e:a[pl]? with|none=>rw[e]at h;cases h;rw[mL hn]|some r=>
   rw[e]at h;dsimp only at h⊢;by_cases b:r.d<L
   .rw[arM b]at h;rw[arM ⟨b,ahN hn⟩,j2 _ _ _ _ _ hn];rcases qO _ with z|⟨A,x,B,ex,d,c⟩;.rw[mL z];exact yQ L l n _ _ _ z h
    .obtain⟨f,em⟩:=yP L l n _ _ _ h;rw[ex]at em⊢;rw[ki d c];have i:upTo g R=A++[x]:=by rw[<-em,asJ];exact ki d c
     rw[i];cases n with|zero=>cases h|succ n=>rw[goG];cases(A++[x])[pl+1]? with|none=>rfl|some y=>dsimp only;rw[arO λz=>by rw[adq,aso c]at z;exact absurd z.2 (by decide)]
   .rw[arO b]at h;cases h;rw[arO λz=>b z.1,mL hn]
def ady{f L l n R}(h:go L l n 0 [lY f]=some R):goG (some g) L l n 0 [lY f]=some (upTo g R):=by
 by_cases a:(lY f).f=g
 .obtain⟨b,em⟩:=yP L l n _ _ _ h;have c:upTo g R=[lY f]:=by rw[<-em];exact ki (rs:=[]) (λ_ h=>nomatch h) a
  rw[c];cases n with|zero=>cases h|succ n=>
   rw[goG];have:hit (some g) [lY f]=true:=by exact aso a
   simp[this]
 .exact yQ L l n 0 _ R λr d=>by grind h
end
abbrev NM_:=Str×List Rl
def cF(φ:List S3)(q:NM_):Option (List S3):=(dnc φ q.2).map fm
structure RE(rs:List Row)(xs:List (List NM_×List S3)):Prop where
 len:rs.length=xs.length
 at_:∀(i:Nat)(r:Row)(x:List NM_×List S3),rs[i]?=some r->xs[i]?=some x->r.f=x.2/\r.d=x.1.length/\(x.1=[]/\r.p=.non\/∃(j:Nat)(y:List NM_×List S3)(q:NM_),j<i/\xs[j]?=some y/\x.1=y.1++[q]/\r.p=.int j/\r.n=.str q.1)
def RE.aY{rs xs}(h:RE rs xs):rs.map (·.f)=xs.map (·.2):=by apply auq;intro i;rw[ar3,ar3];cases e:rs[i]? with
|none=>
 have:xs[i]?=none:=by rw[asV,<-h.len];exact asV.mp e
 rw[this];rfl|some r=>have a:=(arL.mp e).1;have ex:xs[i]?=some (xs[i]'(by rw[<-h.len];exact a)):=arQ _;rw[ex];show some r.f=some _;rw[(h.at_ i r _ e ex).1]
def RE.snoc{rs:List Row}{xs:List (List NM_×List S3)}(h:RE rs xs){j:Nat}{y:List NM_×List S3}(e:xs[j]?=some y)(q:NM_)(φ:List S3):RE (rs++[⟨φ,y.1.length+1,.int j,.str q.1⟩]) (xs++[(y.1++[q],φ)]):=by
 have g:=(arL.mp e).1;refine⟨by simp[h.len],λi r x a ex=>?_⟩;by_cases f:i<rs.length
 .rw[arX f]at a;rw[arX (by rw[<-h.len];exact f)]at ex;obtain⟨m,l,b⟩:=h.at_ i r x a ex;refine⟨m,l,?_⟩;rcases b with b|⟨k,z,p,n,d,b⟩;.exact .inl b
  .exact .inr ⟨k,z,p,n,by rw[arX (arL.mp d).1];exact d,b⟩
 .have c:i=rs.length:=by have:=(arL.mp a).1;simp at this;omega
  subst c;rw[ar8 (arP _),avz]at a;rw[h.len,ar8 (arP _),avz]at ex;cases a;cases ex;exact⟨rfl,by simp,.inr ⟨j,y,q,by rw[h.len];exact g,by rw[arX g];exact e,rfl,rfl,rfl⟩⟩
theorem yX{pl r x}:∀(l:List NM_)a b,RE a b->a[pl]?=some r->b[pl]?=some x->RE (ext pl r.f r.d l a) (b++ddS (b.map (·.2)) (chS cF l x))
|[],a,b,h,_,_=>by rw[show chS cF [] x=[]from rfl,show ddS (b.map (·.2)) []=[]from rfl,asl];exact h|q::l,a,b,h,er,ex=>by
  obtain⟨n,m,_⟩:=h.at_ pl r x er ex;have c:cF x.2 q=(dnc r.f q.2).map fm:=by rw[cF,n]
  rw[ext];have e:chS cF (q::l) x=match cF x.2 q with|none=>chS cF l x|some ψ=>(x.1++[q],ψ)::chS cF l x:=by unfold chS;rw[asU];cases cF x.2 q<;>rfl
  rw[e];cases k:dnc r.f q.2 with|none=>rw[k]at c;rw[c];exact yX l a b h er ex|some g=>
   rw[k]at c;rw[c];show RE _ (b++ddS (b.map (·.2)) ((x.1++[q],fm g)::chS cF l x));by_cases d:fm g∈a.map (·.f);.have f:lay a (some g) (r.d+1) (.int pl) (.str q.1)=a:=arM d;rw[f,ddS,arM (by rw[<-h.aY];exact d)];exact yX l a b h er ex
   .have f:lay a (some g) (r.d+1) (.int pl) (.str q.1)=a++[⟨fm g,r.d+1,.int pl,.str q.1⟩]:=arO d;rw[f,ddS,arO (by rw[<-h.aY];exact d)];have i:=h.snoc ex q (fm g);rw[<-m]at i;have j:=yX l _ _ i (by rw[arX (arL.mp er).1];exact er) (by rw[arX (arL.mp ex).1];exact ex);rw[asJ,auJ,asZ]at j;exact j
theorem am1{L}{l:List NM_}:∀n pl b a R,RE b a->go L l n pl b=some R->∃d,gE cF l L n pl a=some d/\RE R d
|0,_,_,_,_,_,h=>nomatch h|n+1,pl,b,a,R,hR,h=>by
 rw[go]at h
 cases e:b[pl]? with|none=>
   rw[e]at h;cases h;have:a[pl]?=none:=by rw[asV,<-hR.len];exact asV.mp e
   exact⟨a,by rw[gE,this],hR⟩|some r=>
   rw[e]at h;have j:=(arL.mp e).1;have ex:a[pl]?=some (a[pl]'(by rw[<-hR.len];exact j)):=arQ _;generalize a[pl]'(by grind)=x at ex;obtain⟨_,f,_⟩:=hR.at_ pl r x e ex;dsimp only at h;by_cases c:r.d<L;.rw[arM c]at h;obtain⟨d,i,g⟩:=am1 n (pl+1) _ _ R (yX l b a hR e ex) h;refine⟨d,?_,g⟩;rw[gE,ex];dsimp only;rw[arM (by rw[<-f];exact c)];exact i
   .rw[arO c]at h;cases h;refine⟨a,?_,hR⟩;rw[gE,ex];dsimp only;rw[arO (by rw[<-f];exact c)]
theorem aeF{c}{l:List NM_}{r:List S3}:∀k,TS_ c l r 0 <+:TS_ c l r k|0=>ati _|k+1=>(aeF k).trans (zi c l r k)
def am0{f L}{l:List NM_}{n R}(h:go L l n 0 [lY f]=some R):RE R (TS_ cF l (fm f) L):=by have e:RE [lY f] [([],fm f)]:=⟨rfl,λi r x a ex=>by cases i with|zero=>cases a;cases ex;exact⟨rfl,rfl,.inl ⟨rfl,rfl⟩⟩|succ i=>simp at a⟩;obtain⟨d,c,b⟩:=am1 n 0 _ _ R e h;have:=am3 _ l _ n 0 [([],fm f)] d (rfl) (by simp) (by exact aeF L) (λ_ h=>nomatch h) c;rw[<-this];exact b
def abG(k){p q}(h:bh p=bh q):bh (FM.tqn k p)=bh (FM.tqn k q):=by induction k with|zero=>exact h|succ k ih=>show bh (FM.tq _)=bh (FM.tq _);rw[jD,jD,ih]
def agI{f}(l:G8 f)(k)(c):dnc (f.map (FM.tqn k)) c=(dnc f c).map λg=>g.map (FM.tqn k):=by
 have hw:=afe k l.len l.fac c none;unfold dnc;rw[hw];rcases mI f c with⟨d,e⟩|⟨d,e⟩|⟨e,n⟩;.rw[e];rfl
 .rw[e];rfl
 .rw[e];obtain⟨j,_⟩:=qb l n;have m:((bZ f c none).map (List.map (FM.tqn k))).map gm=((bZ f c none).map gm).map (FM.tqn k):=by exact auW λw hw=>agl k (j w hw)
  simp only[cI];rw[m];by_cases i:jt ((bZ f c none).map gm);.rw[arM (aeB i k),arM i];rfl
  .rw[arO λz=>i (by rw[jt,List.pairwise_map]at z;exact z.imp λ{a b}h e=>h (abG k e)),arO i];rfl
def aqd{f}(a:G8 f){q:NM_}(b:q∈CS):cF (fm f) q=(dnc f q.2).map fm:=by obtain⟨i,d,e⟩:=FM.gi _ 3;have e:fm f=f.map _:=e;rw[cF,e,agI a];cases c:dnc f _ with|none=>rfl|some g=>show some _=some _;rw[ajN (j4 b a c) i d]
def dN0(f:List S3)(q:NM_):Option (List S3):=dnc f q.2
def fmE(x:List NM_×List S3):List NM_×List S3:=(x.1,fm x.2)
section
variable{l:List NM_}(hl:∀p∈l,p∈CS)
include hl
theorem aj5{x}(d:G8 x.2):∀y∈chS dN0 l x,G8 y.2:=λy c=>by obtain⟨q,a,e⟩:=atE.mp c;obtain⟨g,b,rfl⟩:=asf.mp e;exact j4 (hl q a) d b
theorem xy{f}(a:G8 f):∀k,∀x∈VS dN0 l f k,G8 x.2|0,x,h=>by rw[VS,asn]at h;rw[h];exact a|k+1,x,h=>by obtain⟨y,c,b⟩:=avy.mp h;exact aj5 hl (xy a k y c) x b
theorem aqc{x}(f:G8 x.2):(chS dN0 l x).map fmE=chS cF l (fmE x):=by
 have c:∀a,(∀p∈a,p∈CS)->(chS dN0 a x).map _=chS cF a _:=λa=>by induction a with|nil=>intro _;rfl|cons q a b=>intro h;have e:=aqd f (h q (by simp));have b:=b λp i=>h p (by grind);unfold chS at b⊢;rw[asU,asU];have d:cF (fmE x).2 q=(dN0 _ q).map _:=e;rw[d];cases dN0 _ q with|none=>exact b|some g=>show fmE _::_=_;rw[b];rfl
 exact c l hl
theorem anx{f}(c:G8 f):∀k,(VS dN0 l f k).map fmE=VS cF l (fm f) k
|0=>rfl|k+1=>by
 rw[VS,VS,<-anx c k,List.map_flatMap,List.flatMap_map];have b:∀a:List _,(∀x∈a,G8 x.2)->a.flatMap (λx=>(chS _ l x).map _)=a.flatMap λx=>chS cF l (fmE x):=λa=>by induction a with|nil=>intro _;rfl|cons x a ih=>intro h;rw[asX,asX,aqc hl (h x (by simp)),ih λy d=>h y (by grind)]
 exact b _ (xy hl c k)
theorem anz{f}(a:G8 f):∀k,(ES dN0 l f k).map fmE=ES cF l (fm f) k|0=>rfl|k+1=>by rw[ES,ES,asZ,anz a k,anx hl a _]
omit hl in theorem zh(f):∀k,(VS dN0 l f k).length<=l.length^k
|0=>arP _|k+1=>by
 have h:=zh f k;have b:∀a:List _,(a.flatMap (chS dN0 l)).length<=a.length*l.length:=λa=>by induction a with|nil=>simp|cons x a ih=>have:(chS dN0 l x).length<=l.length:=avA ..;rw[asX,asm,ar1,Nat.add_mul];omega
 exact arU (b _) (Nat.mul_le_mul_right _ h)
end
def adp{g}(m:G8 g):cU [flW g]=.ok (.bl (decide (fm g=fm HM))):=by
 have c:bH (ax 0) kz (ay dw (ae (eC fX) (ae (aj 0) au))) [.no,.va (flW g)] ([0,1,2,3].map λi:Nat=>.int i)=.ok ([0,1,2,3].map λi:Nat=>flW (HM.map (FM.tqn i))):=cV λi n=>⟨_,rfl,rfl,by
   have e:((i:Int)%4).toNat=i:=by simp at n;omega
   have b:=mO HM i (by decide);rw[e]at b;have b:dw [fX,.int i]=_:=b;simp[b]⟩;have d:rng 0 4=[0,1,2,3].map λi:Nat=>W.int i:=by simp[rng,List.range_succ]
 have a:oIn (flW g) (.lst ([HM.map (FM.tqn 0),HM.map (FM.tqn 1),HM.map (FM.tqn 2),HM.map (FM.tqn 3)].map flW))=.ok (.bl (decide (fm g=fm HM))):=by
  have h:gL 51 ([HM.map (FM.tqn 0),HM.map (FM.tqn 1),HM.map (FM.tqn 2),HM.map (FM.tqn 3)].map flW)=true:=ie 50 _ λx o=>by obtain⟨p,_,rfl⟩:=ase.mp o;simp
  show(if(okD 50 (flW g)&&gL 51 _)=true then Res.ok (W.bl (dO (flW g) _))else .bad)=_;rw[arM (by rw[h,acE 48];rfl),ahV];congr 2;rw[decide_eq_decide];have k:=aeD (f:=HM) (g:=g) wC.good m.good;constructor
  .intro j;refine(k.mpr ?_).symm;simp only[ar4,atv,or_false]at j;rcases j with e|e|e|e;.exact⟨0,by omega,e.symm⟩
   .exact⟨1,by omega,e.symm⟩
   .exact⟨2,by omega,e.symm⟩
   .exact⟨3,by omega,e.symm⟩
  .intro e;obtain⟨q,l,e⟩:=k.mp e.symm;rw[<-e];match q,l with|0,_=>simp|1,_=>simp|2,_=>simp|3,_=>simp
 simp only[arZ,atw]at c d a;simp at c d;simp[cU,gc,List.replicate,d,c];rw[a];rfl
def rD:gJ [fX]=.ok (flW (fm HM)):=am7 wC
theorem qf{R xs}(h:RE R xs):∀n i x a,i<n->xs[i]?=some x->a.length+i<900000->∃j,jw cJ dD n [.va (.lst (R.map Row.w)),.va (.int i),.ow a]=.nx [.va (.lst (R.map Row.w)),.va (.int j),.ow (a++(nmW x.1).reverse)]
|0,_,_,_,hn,_,_=>absurd hn (avF _)|n+1,i,x,a,hn,hx,hz=>by
  have l:=(arL.mp hx).1;have e:R[i]?=some (R[i]'(by rw[h.len];exact l)):=arQ _;generalize R[i]'(by rw[h.len];exact l)=r at e;obtain⟨_,_,v⟩:=h.at_ i r x e hx;have f:=ab1 e;have c:oIx r.w (.int 2)=.ok r.p:=rfl;have d:oIx r.w (.int 3)=.ok r.n:=rfl;rw[vp];rcases v with⟨g,b⟩|⟨j,y,q,w,p,g,b,o⟩;.rw[g];simp[cJ,f,c,b,nmW]
  .obtain⟨k,s⟩:=qf h n j y (a++[.str q.1]) (by omega) p (by simp;omega);refine⟨k,?_⟩;have m:cJ [.va (.lst (R.map Row.w)),.va (.int i),.ow a]=.ok true:=by simp[cJ,f,c,b]
   have u:a.length<1000000:=by omega
   have t:dD [.va (.lst (R.map Row.w)),.va (.int i),.ow a]=.nx [.va (.lst (R.map Row.w)),.va (.int j),.ow (a++[.str q.1])]:=by simp[dD,f,c,d,b,o,u]
   rw[m,t];show jw _ _ n _=_;rw[s,g];simp[nmW]
def v9{R xs}(h:RE R xs){i:Nat}{x}(b:xs[i]?=some x)(c:i<3000)(d:x.1.length<=1000):iu [.lst (R.map Row.w),.int i]=.ok (.lst (nmW x.1)):=by
 obtain⟨j,e⟩:=qf h _ i x [] c b (by grind);have a:(nmW x.1).length<=1000000:=by simp[nmW];omega
 simp[iu,km,lO,e,ajU,aqD,a]
def pW(x:List NM_×List S3):W:=.tup [.lst (nmW x.1),flW x.2]
def fS(F N:W)(L:Nat)(rows:W)(o5:Sl)(b:List (List NM_×List S3))(o7 o8 o9 a:Sl):Ws:=[.va BK,.va F,.va N,.va (.int L),.va rows,o5,.ow (b.map pW),o7,o8,o9,a]
section
variable{F N rows:W}{L:Nat}{o5:Sl}
theorem aov{x}(u:G8 x.2)(d:x.1.length<=1000):∀(l:List NM_)(_:∀p∈l,p∈CS)b(_:b.length+l.length<=900000)n a,∃i f,forL (ax 9) aK (nmW l) (fS F N L rows o5 b (.va (.lst (nmW x.1))) (.va (flW x.2)) n a)=.nx (fS F N L rows o5 (b++chS dN0 l x) (.va (.lst (nmW x.1))) (.va (flW x.2)) i f)
|[],_,b,_,n,a=>⟨n,a,by rw[show chS dN0 [] x=[]from rfl,asl];rfl⟩|q::l,hl,b,hz,n,a=>by
  have m:=u7 (hl q (by simp)) u;show∃i f,n5 (aK (fS F N L rows o5 b (.va (.lst (nmW x.1))) (.va (flW x.2)) (.va (.str q.1)) a)) (forL (ax 9) aK (nmW l))=_;have c:chS dN0 (q::l) x=match dnc x.2 q.2 with|none=>chS dN0 l x|some g=>(x.1++[q],g)::chS dN0 l x:=by unfold chS;rw[asU];have k:dN0 x.2 q=dnc x.2 q.2:=rfl;rw[k];cases dnc x.2 q.2<;>rfl
  have r:(nmW x.1).length+1<=1000000:=by simp[nmW];omega
  simp only[ar1]at hz;cases k:dnc x.2 q.2 with
 |none=>
   rw[k]at m c;obtain⟨o,h,j⟩:=aov u d l (λp t=>hl p (by simp[t])) b (by omega) (.va (.str q.1)) (.va .non);refine⟨o,h,?_⟩;have e:aK (fS F N L rows o5 b (.va (.lst (nmW x.1))) (.va (flW x.2)) (.va (.str q.1)) a)=.nx (fS F N L rows o5 b (.va (.lst (nmW x.1))) (.va (flW x.2)) (.va (.str q.1)) (.va .non)):=by simp[aK,fS,m,opW]
   rw[e,c];exact j|some g=>
   rw[k]at m c;obtain⟨o,h,j⟩:=aov u d l (λp t=>hl p (by simp[t])) (b++[(x.1++[q],g)]) (by simp;omega) (.va (.str q.1)) (.va (flW g));refine⟨o,h,?_⟩;have s:b.length<1000000:=by omega
   have e:aK (fS F N L rows o5 b (.va (.lst (nmW x.1))) (.va (flW x.2)) (.va (.str q.1)) a)=.nx (fS F N L rows o5 (b++[(x.1++[q],g)]) (.va (.lst (nmW x.1))) (.va (flW x.2)) (.va (.str q.1)) (.va (flW g))):=by
    have v:nmW (x.1++[q])=nmW x.1++[.str q.1]:=by simp[nmW]
    simp[aK,fS,m,opW,yL,r,s,pW,v]
   rw[e,c];rw[asJ,auJ]at j;exact j
def iF(x:List NM_×List S3):Bool:=decide (fm x.2=fm HM)
theorem aqr{l:List NM_}(z:∀p∈l,p∈CS)(w:N=.lst (nmW l)):∀(xs:List (List NM_×List S3))(_:∀x∈xs,G8 x.2/\x.1.length<=1000)b(_:b.length+xs.length*l.length<=800000)(_:l.length<=1000)n k c a,(∀x,xs.find? iF=some x->forL (r0 (cz (ax 7) (cz (ax 8) r6))) aC (xs.map pW) (fS F N L rows o5 b n k c a)=.rt (.lst (nmW x.1)))/\(xs.find? iF=none->∃j i m d,forL (r0 (cz (ax 7) (cz (ax 8) r6))) aC (xs.map pW) (fS F N L rows o5 b n k c a)=.nx (fS F N L rows o5 (b++xs.flatMap (chS dN0 l)) j i m d))
|[],_,b,_,_,n,k,c,a=>⟨(λ_ h=>nomatch h),λ_=>⟨n,k,c,a,by simp⟩⟩|x::xs,hx,b,hz,hl2,n,k,c,a=>by
  obtain⟨u,f⟩:=hx x (by simp);have q:=adp u;rw[ar1,Nat.add_mul]at hz;have A:∀r:Ws,r.length=11->r0 (cz (ax 7) (cz (ax 8) r6)) (pW x) r=.ok ((r.set 7 (.va (.lst (nmW x.1)))).set 8 (.va (flW x.2))):=λr _=>by simp[pW]
  rw[arZ,eJ,A _ rfl];show(∀y,_->n5 (aC (fS F N L rows o5 b (.va (.lst (nmW x.1))) (.va (flW x.2)) c a)) _=_)/\(_->∃j i m d,n5 (aC (fS F N L rows o5 b (.va (.lst (nmW x.1))) (.va (flW x.2)) c a)) _=_);by_cases o:iF x=true
  .rw[show decide (fm x.2=fm HM)=true from o]at q;have e:aC (fS F N L rows o5 b (.va (.lst (nmW x.1))) (.va (flW x.2)) c a)=.rt (.lst (nmW x.1)):=by simp[aC,fS,q]
   rw[e,List.find?_cons_of_pos o];exact⟨λy s=>by cases s;rfl,λh=>nomatch h⟩
  .have t:iF x=false:=by simpa using o
   rw[show decide (fm x.2=fm HM)=false from t]at q;obtain⟨v,g,B⟩:=aov (F:=F) (N:=N) (rows:=rows) (L:=L) (o5:=o5) u f l z b (by omega) c a;have e:aC (fS F N L rows o5 b (.va (.lst (nmW x.1))) (.va (flW x.2)) c a)=.nx (fS F N L rows o5 (b++chS dN0 l x) (.va (.lst (nmW x.1))) (.va (flW x.2)) v g):=by rw[<-B];subst w;simp[aC,fS,q]
   rw[e,atk o];have D:(chS dN0 l x).length<=l.length:=avA ..;have C:=aqr z w xs (λy s=>hx y (by simp[s])) (b++chS dN0 l x) (by rw[asm];omega) hl2 (.va (.lst (nmW x.1))) (.va (flW x.2)) v g;rw[asX,<-asJ];exact C
end
theorem aqs{F f}(t:G8 f){l:List NM_}(r:∀p∈l,p∈CS)(m:l.length<=1000){L:Nat}:∀n k(_:∀j,j<=k+n->l.length^j<=700)(_:k+n<=900)o5 g d b c a,(∀x,((List.range' k n).flatMap (VS dN0 l f)).find? iF=some x->forL (ax 5) aR ((List.range' k n).map λi=>.int (0+(i:Nat))) [.va BK,.va F,.va (.lst (nmW l)),.va (.int L),.va (.lst ((VS dN0 l f k).map pW)),o5,g,d,b,c,a]=.rt (.lst (nmW x.1)))/\(((List.range' k n).flatMap (VS dN0 l f)).find? iF=none->∃o,forL (ax 5) aR ((List.range' k n).map λi=>.int (0+(i:Nat))) [.va BK,.va F,.va (.lst (nmW l)),.va (.int L),.va (.lst ((VS dN0 l f k).map pW)),o5,g,d,b,c,a]=.nx o)|0,k,_,_,o5,g,d,b,c,a=>⟨(λ_ h=>nomatch h),λ_=>⟨_,rfl⟩⟩|n+1,k,hp,hk,o5,g,d,b,c,a=>by have s:(VS dN0 l f k).length*l.length<=700*1000:=Nat.mul_le_mul ((λj v=>arU (zh f j) (hp j v)) k (by omega)) m;obtain⟨C,z⟩:=aqr (F:=F) (N:=.lst (nmW l)) (rows:=.lst ((VS dN0 l f k).map pW)) (L:=L) (o5:=.va (.int (0+(k:Nat)))) r rfl (VS dN0 l f k) (λx u=>⟨xy r t k x u,by rw[aeE dN0 l f k x u];omega⟩) [] (by simp;omega) m d b c a;rw[List.range'_succ,arZ,eJ,asX,List.find?_append];show(∀x,_->n5 (aR [.va BK,.va F,.va (.lst (nmW l)),.va (.int L),.va (.lst ((VS dN0 l f k).map pW)),.va (.int (0+(k:Nat))),g,d,b,c,a]) _=_)/\(_->∃o,n5 (aR [.va BK,.va F,.va (.lst (nmW l)),.va (.int L),.va (.lst ((VS dN0 l f k).map pW)),.va (.int (0+(k:Nat))),g,d,b,c,a]) _=_);have A:aR [.va BK,.va F,.va (.lst (nmW l)),.va (.int L),.va (.lst ((VS dN0 l f k).map pW)),.va (.int (0+(k:Nat))),g,d,b,c,a]=sT (forL _ aC ((VS dN0 l f k).map pW) (fS F (.lst (nmW l)) L (.lst ((VS dN0 l f k).map pW)) (.va (.int (0+(k:Nat)))) [] d b c a)) (ahn 6 (bo 4 (aj 6))):=rfl;rw[A];cases w:(VS dN0 l f k).find? iF with|some x=>rw[C x w];exact⟨λy H=>by cases H;rfl,λh=>nomatch h⟩|none=>obtain⟨E,D,G,q,e⟩:=z w;rw[e,as0];have B:=aqs (F:=F) t r m (L:=L) n (k+1) (λj v=>hp j (by omega)) (by omega) (.va (.int (0+(k:Nat)))) (.va (.lst ((VS dN0 l f (k+1)).map pW))) E D G q;exact B
theorem aeJ(c)(l:List NM_)(f:List S3):∀L,(List.range' 0 (L+1)).flatMap (VS c l f)=ES c l f L|0=>rfl|L+1=>by rw[List.range'_concat,at4,aeJ c l f L,ES];simp
def jv(f:List S3)(l:List NM_)(L:Nat):W:=match(ES dN0 l f L).find? iF with|some x=>.lst (nmW x.1)|none=>.non
def ux{f:List S3}(k:G8 f){l:List NM_}(n:∀p∈l,p∈CS)(a:l.length<=1000){L:Nat}(o:∀j,j<=L+1->l.length^j<=700)(q:L<=800):ck [BK,flW f,.lst (nmW l),.int L]=.ok (jv f l L):=by
 obtain⟨d,c⟩:=aqs (F:=flW f) k n a (L:=L) (L+1) 0 (λj r=>o j (by omega)) (by omega) .no .no .no .no .no .no;rw[aeJ]at d c;have h:rng 0 (L+1)=(List.range' 0 (L+1)).map λi=>.int (0+(i:Nat)):=by unfold rng;rw[List.range_eq_range']
 have b:-4611686018427387904<=(L:Int)+1/\(L:Int)+1<4611686018427387904:=by omega
 have g:((L:Int)+1).toNat=L+1:=by omega
 have go:ck [BK,flW f,.lst (nmW l),.int L]=fin (sT (forL (ax 5) aR ((List.range' 0 (L+1)).map λi=>.int (0+(i:Nat))) [.va BK,.va (flW f),.va (.lst (nmW l)),.va (.int L),.va (.lst ((VS dN0 l f 0).map pW)),.no,.no,.no,.no,.no,.no]) (bq (eC .non))):=by rw[<-h];simp[ck,eu,List.replicate,b,g,VS,pW,nmW]
 rw[go];unfold jv;cases e:(ES dN0 l f L).find? iF with|some x=>rw[d x e];rfl|none=>obtain⟨m,z⟩:=c e;rw[z];rfl
theorem adG{b:Type}{q}:∀{xs:List b}{i:Nat}{y},xs[i]?=some y->q y=true->(∀j z,j<i->xs[j]?=some z->q z=false)->xs.find? q=some y|[],_,_,h,_,_=>by simp at h|x::xs,0,y,h,hq,_=>by grind|x::xs,i+1,y,h,hq,hn=>by rw[atk (by simp[hn 0 x _ rfl])];exact adG  h hq λj z c a=>hn (j+1) z (by omega) a
abbrev gH:List S3:=fm HM
def agG{f}(c:G8 f){l:List NM_}(a:∀p∈l,p∈CS)(L):((ES dN0 l f L).find? iF).map fmE=(TS_ cF l (fm f) L).find? λx=>decide (x.2=gH):=by unfold TS_;rw[wR (λb=>decide (b=gH)) _ [] (λ_ h=>nomatch h),<-anz a c,List.find?_map];rfl
theorem RE.take{R:List Row}{xs:List (List NM_×List S3)}(h:RE R xs)(n:Nat):RE (R.take n) (xs.take n):=⟨by rw[asG,asG,h.len],λi r x b ex=>by
 rw[au5]at b ex;split at b
 .rename_i g;rw[arM g]at ex;obtain⟨d,c,a⟩:=h.at_ i r x b ex;refine⟨d,c,?_⟩;rcases a with a|⟨j,y,q,e,f,a⟩;.exact .inl a
  .exact .inr ⟨j,y,q,e,by rw[au5,arM (by omega)];exact f,a⟩
 .cases b⟩
def qq{f l L x}(h:(ES dN0 l f L).find? iF=some x):x∈ES dN0 l f L/\fm x.2=gH:=⟨List.mem_of_find?_eq_some h,aus (show iF x=true from List.find?_some h)⟩
section
variable{f:List S3}(hf:G8 f){l:List NM_}(hl:NL l){L:Nat}{R:List Row}(hg:go L l 3000 0 [lY f]=some R)
include hf hl hg
theorem jx:(∀r∈R,r.f≠gH)/\(ES dN0 l f L).find? iF=none/\upTo gH R=R\/∃A x B y,R=A++x::B/\(∀r∈A,r.f≠gH)/\x.f=gH/\upTo gH R=A++[x]/\(ES dN0 l f L).find? iF=some y/\∃z,(TS_ cF l (fm f) L)[A.length]?=some z/\z.1=y.1:=by
 have c:=am0 hg;have d:=agG hf hl.mem L;rcases qO (g:=gH) R with z|⟨A,x,B,e,k,i⟩
 .refine .inl ⟨z,?_,mL z⟩;have:(TS_ cF l (fm f) L).find? (λx=>decide (x.2=gH))=none:=by
   rw[List.find?_eq_none];intro y t;have:y.2∈R.map (·.f):=by rw[c.aY];exact ase.mpr ⟨y,t,rfl⟩
   obtain⟨r,n,u⟩:=ase.mp this;simp only[asy];rw[<-u];exact z r n
  rw[this]at d;simpa using d
 .have p:R[A.length]?=some x:=by rw[e,ar8 (arP _),avz];rfl
  have b:=(arL.mp p).1;have h:(TS_ cF l (fm f) L)[A.length]?=some ((TS_ cF l (fm f) L)[A.length]'(by rw[<-c.len];exact b)):=arQ _;generalize(TS_ cF l (fm f) L)[A.length]'(by rw[<-c.len];exact b)=z at h;have q:=(c.at_ _ x z p h).1;have a:(TS_ cF l (fm f) L).find? (λx=>decide (x.2=gH))=some z:=by
   refine adG h (aso (by rw[<-q];exact i)) λj w o hw=>ar6 ?_;have s:R[j]?=some (A[j]'o):=by rw[e,arX o];exact arQ _
   rw[<-(c.at_ j _ w s hw).1];exact k _ (asS o)
  rw[a]at d;refine de (asf.mp d) λy v m=>?_;exact .inr ⟨A,x,B,y,e,k,i,by rw[e];exact ki k i,v,z,h,by rw[<-m];rfl⟩
theorem fZ(t:l.length<=100)(u:R.length<=1000)(M:L<=800){m:Nat}(I:1<=m):bc [BK,flW f,.lst (nmW l),.int L,.int m]=if(upTo gH R).length<=m then .ok (jv f l L)else .ex TMX:=by
 have J:=am0 hg;have b:(upTo gH R).length<=1000:=by
  rcases jx hf hl hg with⟨_,_,e⟩|⟨A,x,B,y,p,_,_,e,_⟩;.rw[e];exact u
  .rw[e];rw[p]at u;simp at u⊢;omega
 have a:=ab0 hf hl t (m:=m) (ady (g:=gH) hg) (by omega) I;have a:bu [flW gH,BK,flW f,.lst (nmW l),.int L,.int m]=_:=a;by_cases v:(upTo gH R).length<=m
 .rw[arM v]at a⊢;rcases jx hf hl hg with⟨C,h,e⟩|⟨A,x,B,y,p,C,h,e,K,z,w,G⟩
  .have i:jv f l L=.non:=by unfold jv;rw[h]
   rw[e]at a;have o:R≠[]:=λz=>by have:=yP L l 3000 _ _ _ hg;rw[z]at this;exact absurd this.length_le (by simp)
   obtain⟨r,c⟩:∃r,R.getLast?=some r:=⟨_,ata o⟩;have d:atI (R.map Row.w) (-1)=some r.w:=by rw[iC,atP,c];rfl
   have k:oIx r.w (.int 0)=.ok (flW r.f):=rfl;have H:¬r.f=gH:=C r (List.mem_of_getLast? c);rw[i];simp[bc,fJ,List.replicate,rD,a,d,k,H]
  .have i:jv f l L=.lst (nmW y.1):=by unfold jv;rw[K]
   rw[e]at a;have d:atI ((A++[x]).map Row.w) (-1)=some x.w:=by rw[iC,atP,List.getLast?_concat];rfl
   have k:oIx x.w (.int 0)=.ok (flW x.f):=rfl;have n:RE (A++[x]) ((TS_ cF l (fm f) L).take (A.length+1)):=by have:=J.take (A.length+1);rw[p,List.take_append,auv (by omega),show A.length+1-A.length=1 by omega]at this;exact this
   have j:((TS_ cF l (fm f) L).take (A.length+1))[A.length]?=some z:=by rw[au5,arM (by omega)];exact w
   have E:z.1.length<=L:=akg cF l (fm f) L z (asv w);have q:=v9 n j (by rw[e]at b;simp at b;omega) (by omega);rw[G]at q;have s:(((A++[x]).map Row.w).length:Int)-1=A.length:=by simp
   rw[i];simp only[asZ,arZ,atw]at a d q s;have D:((A.length+1:Nat):Int)-1=A.length:=by omega
   simp[bc,fJ,List.replicate,rD,a,d,k,h,q]
 .rw[arO v]at a⊢;simp[bc,fJ,List.replicate,rD,a]
end
theorem ahL{g}:∀{A x}{B:List Row}k,(∀r∈A,r.f≠g)->x.f=g->idx (flW g) k ((A++x::B).map λr=>flW r.f)=some (k+A.length)|[],x,B,k,_,hx=>by show(if eqv _ (flW g)then some k else _)=_;rw[uG,arM (aso hx)];rfl|r::A,x,B,k,h,hx=>by show(if eqv (flW r.f) (flW g)then some k else idx (flW g) (k+1) ((A++x::B).map _))=_;rw[uG,arO (by grind),ahL (k+1) (λy a=>h y (by simp[a])) hx];simp;omega
def zU{f}(e:G8 f){l:List NM_}(d:NL l)(b:l.length<=100){L R}(c:go L l 3000 0 [lY f]=some R)(g:R.length<=1000):hQ [BK,flW f,.lst (nmW l),.int L,.int 2000]=.ok (.lst (R.map Row.w)):=by have a:=ab0 e d b (m:=2000) (by rw[yR];exact c) (by omega) (by simp);rw[arM (by omega)]at a;have a:bu [.non,BK,flW f,.lst _,.int L,.int 2000]=_:=a;simp[hQ,mV,a]
def amh{l:List NM_}(h:∀p∈l,p∈CS):okD 50 (.lst (nmW l))=true:=by exact ie _ _ λx a=>by obtain⟨p,b,rfl⟩:=ase.mp a;exact anm (h p b) _
theorem aeI{c l f}:∀{L}{x:List NM_×List S3},x∈ES c l f L->∃k,k<=L/\x∈VS c l f k
|0,x,h=>⟨0,arP _,h⟩|L+1,x,h=>by
 rcases ass.mp h with h|h;.obtain⟨k,b,a⟩:=aeI h;exact⟨k,by omega,a⟩
 .exact⟨_,arP _,h⟩
theorem xx{l f}:∀{k x},x∈VS dN0 l f k->(∀q∈x.1,q∈l)/\x.1.foldlM (λj q=>dN0 j q) f=some x.2
|0,x,h=>by rw[VS,asn]at h;rw[h];exact⟨(λ_ h=>nomatch h),rfl⟩|k+1,x,h=>by
 obtain⟨y,i,n⟩:=avy.mp h;obtain⟨q,c,e⟩:=atE.mp n;obtain⟨g,m,rfl⟩:=asf.mp e;obtain⟨d,b⟩:=xx i;refine⟨λp a=>?_,?_⟩
 .rcases ass.mp a with a|a;.exact d p a
  .rw[asn.mp a];exact c
 .rw[List.foldlM_append,b];simp only[Option.bind_eq_bind,auE,List.foldlM_cons];rw[m];rfl
theorem qt{S N0 N C Le D H FD}:∀(p:List NM_)(_:∀q∈p,q∈CS)f g(_:G8 f)(_:p.foldlM (λt q=>dN0 t q) f=some g)a,G8 g/\∃b,forL (ax 10) kL (nmW p) [.va S,.va BK,.va N0,.va N,.va C,.va Le,.va (flW f),.va D,.va H,.va FD,a]=.nx [.va S,.va BK,.va N0,.va N,.va C,.va Le,.va (flW g),.va D,.va H,.va FD,b]
|[],_,f,g,hf,h,a=>by cases h;exact⟨hf,a,rfl⟩|q::p,hp,f,g,hf,h,a=>by
  have i:=hp q (by simp);rw[List.foldlM_cons]at h;obtain⟨d,j,h⟩:=Option.bind_eq_some_iff.mp h;rcases uO hf (aef i)with⟨u,c,r,k⟩|⟨c,_⟩
  .rw[show dnc f q.2=some d from j]at c;cases c;obtain⟨l,n,o⟩:=qt (S:=S) (N0:=N0) (N:=N) (C:=C) (Le:=Le) (D:=D) (H:=H) (FD:=FD) p (λx s=>hp x (by simp[s])) d g k h _;refine⟨l,n,?_⟩;have m:iT "Book" bD (aj 1) (ae (aj 10) au) [.va S,.va BK,.va N0,.va N,.va C,.va Le,.va (flW f),.va D,.va H,.va FD,.va (.str q.1)]=.ok (clW q.2):=ajr i (by simp) (by simp);have e:kL [.va S,.va BK,.va N0,.va N,.va C,.va Le,.va (flW f),.va D,.va H,.va FD,.va (.str q.1)]=.nx [.va S,.va BK,.va N0,.va N,.va C,.va Le,.va (flW d),.va D,.va H,.va FD,.va (.str q.1)]:=by simp[kL,m,r]
   show n5 (kL [.va S,.va BK,.va N0,.va N,.va C,.va Le,.va (flW f),.va D,.va H,.va FD,.va (.str q.1)]) _=_;rw[e];exact o
  .rw[show dnc f q.2=some d from j]at c;cases c
def afx(ns:List Int){l:List NM_}(y:NL l)(o:l≠[]):∃f,G8 f/\gq [BK,.lst (nmW l),.lst (ns.map .int)]=.ok (flW f):=by
 have a:0<l.length:=List.length_pos_iff.mpr o;have c:(0:Int)<(l.length:Int):=by omega
 have k:(nmW l).length=l.length:=by simp[nmW]
 obtain⟨j,h,f,d,p,t,rfl⟩:=rG (g:=ax 4) (b:=cQ) (xs:=(cut ns (some 2) (some 6)).map W.int) (λ_ j=>∃f,G8 f/\∃p t,j=[.va BK,.va (.lst (nmW l)),.va (.lst (ns.map .int)),.va (flW f),p,t]) (σ:=[.va BK,.va (.lst (nmW l)),.va _,.va fX,.no,.no]) ⟨HM,wC,_,_,rfl⟩ (by
   rintro i w σ hw⟨f,d,p,t,rfl⟩;obtain⟨z,_,rfl⟩:=ase.mp (asv hw);have x:=Int.emod_nonneg z (b:=l.length) (by omega);have A:=Int.emod_lt_of_pos z c;have e:(z%(l.length:Int)).toNat<l.length:=by omega
   have r:atI (nmW l) (z%(l.length:Int))=some (.str l[(z%(l.length:Int)).toNat].1):=by rw[ahU _ x];unfold nmW;rw[ar3,arQ e];rfl
   have m:=y.mem _ (asS e);generalize l[(z%(l.length:Int)).toNat]=q at r m;have n:=u7 m d;cases s:dnc f q.2 with|none=>rw[s]at n;refine⟨_,rfl,[.va BK,.va (.lst (nmW l)),.va (.lst (ns.map .int)),.va (flW f),.va (.int z),.va .non],?_,f,d,_,_,rfl⟩;simp[cQ,k,a,r,n,opW]|some g=>rw[s]at n;refine⟨_,rfl,[.va BK,.va (.lst (nmW l)),.va (.lst (ns.map .int)),.va (flW g),.va (.int z),.va (flW g)],?_,g,j4 m d s,_,_,rfl⟩;simp[cQ,k,a,r,n,opW,yL]);have u:=xc ns 2 (by decide);refine de (afi d (ns.getD 2 0%4)) λq m v=>?_;refine⟨_,d.turn q,?_⟩;simp at u v;simp[gq,i1,List.replicate,agP,h,u,v]
def y6(f){l:List NM_}(c:∀p∈l,p∈CS)(L):jv f l L=.non\/∃x,(ES dN0 l f L).find? iF=some x/\jv f l L=.lst (nmW x.1)/\∀q∈x.1,q∈CS:=by unfold jv;cases e:(ES _ l f L).find? _ with|none=>exact .inl rfl|some x=>obtain⟨b,_⟩:=qq e;obtain⟨k,_,d⟩:=aeI b;exact .inr ⟨x,rfl,rfl,λq a=>c q ((xx d).1 q a)⟩
def ahR(f){l:List NM_}(a:∀p∈l,p∈CS)(L):oNe (jv f l L) (jv f l L)=.ok (.bl false):=by
 rcases y6 f a L with e|⟨x,_,e,h⟩<;>rw[e];.rfl
 .exact yu (amh h)
def ajs{f}(o:G8 f){l:List NM_}(i:NL l)(d:l.length<=100){L R}(j:go L l 3000 0 [lY f]=some R)(C:R.length<=1000)(n:1<=R.length)(J:L<=800):cj [BK,flW f,.lst (nmW l),.int L,jv f l L]=.ok (.bl true):=by
 have M:=zU o i d j C;have c:∀A:List Sl,bH (ax 0) kz (eOp oIx (aj 0) (eC (.int 0))) (.no::A) (R.map Row.w)=.ok (R.map λr=>flW r.f):=λA=>cV λr _=>⟨_,rfl,rfl,by have S:oIx r.w (.int 0)=.ok (flW r.f):=rfl;simp[S]⟩;have H:R.length<=1000000:=by omega
 have K:=ahR f i.mem L;have a:∀(m:Nat),(upTo gH R).length=m->1<=m->∀b:W,fin (aJ (sIf (tB (eOp oNe (bS bc (ae (aj 0) (ae (aj 1) (ae (aj 2) (ae (aj 3) (ae (aj 6) au)))))) (aj 4))) (bq (eC (.bl false))) sNx) (aJ (bo 7 (eOp oEq (aj 6) (eC (.int 1)))) (aJ (sIf (tB (eOp oGt (aj 6) (eC (.int 1)))) (aiR bJ "TooMany" bI) sNx) (bq (aj 7)))) [.va BK,.va (flW f),.va (.lst (nmW l)),.va (.int L),.va (jv f l L),.va b,.va (.int m),.no])=.ok (.bl true):=λm Y E b=>by
  have h:=fZ o i j d C J (m:=m) E;rw[arM (by omega)]at h;by_cases n:m=1;.subst n;have h:bc [BK,flW f,.lst (nmW l),.int L,.int 1]=.ok (jv f l L):=h;simp[h,K]
  .have G:=fZ o i j d C J (m:=m-1) (by omega);rw[arO (by omega),show((m-1:Nat):Int)=(m:Int)-1 by omega]at G;have D:1<m:=by omega
   simp[h,K,n,D,bJ,bI,G,md];omega
 have z:cj [BK,flW f,.lst (nmW l),.int L,jv f l L]=fin (sT (sIf (tB (eOp eZ (aj 4) (eC .non))) (bo 6 (eOp fF (uL "list" iR (aj 5) (ae (ay gJ (ae (eC fX) au)) au)) (eC (.int 1)))) sNx [.va BK,.va (flW f),.va (.lst (nmW l)),.va (.int L),.va (jv f l L),.va (.lst (R.map λr=>flW r.f)),.va (.int R.length),.no]) (aJ (sIf (tB (eOp oNe (bS bc (ae (aj 0) (ae (aj 1) (ae (aj 2) (ae (aj 3) (ae (aj 6) au)))))) (aj 4))) (bq (eC (.bl false))) sNx) (aJ (bo 7 (eOp oEq (aj 6) (eC (.int 1)))) (aJ (sIf (tB (eOp oGt (aj 6) (eC (.int 1)))) (aiR bJ "TooMany" bI) sNx) (bq (aj 7)))))):=by
  simp only[cj,et,run_eq,arZ,atw,ar1,atH,List.replicate,asA,as0];rw[fj];have N:bo 5 (hY 1 (rZ (bS (λws=>hQ (ws++[.int 2000])) (ae (aj 0) (ae (aj 1) (ae (aj 2) (ae (aj 3) au)))))) (ax 0) kz (eOp oIx (aj 0) (eC (.int 0)))) [.va BK,.va (flW f),.va (.lst (nmW l)),.va (.int L),.va (jv f l L),.no,.no,.no]=.nx [.va BK,.va (flW f),.va (.lst (nmW l)),.va (.int L),.va (jv f l L),.va (.lst (R.map λr=>flW r.f)),.no,.no]:=by simp[M,H,List.replicate,c]
  rw[N,gg,fj];have P:bo 6 (eBi iB (ae (aj 5) au)) [.va BK,.va (flW f),.va (.lst (nmW l)),.va (.int L),.va (jv f l L),.va (.lst (R.map λr=>flW r.f)),.no,.no]=.nx [.va BK,.va (flW f),.va (.lst (nmW l)),.va (.int L),.va (jv f l L),.va (.lst (R.map λr=>flW r.f)),.va (.int R.length),.no]:=by simp
  rw[P,gg,fj]
 rw[z];rcases jx o i j with⟨_,s,e⟩|⟨A,x,B,y,O,s,X,e,T,_⟩
 .have t:jv f l L=.non:=by unfold jv;rw[s]
  have v:∀q:Ws,aj 4 q=.ok .non->sIf (tB (eOp eZ (aj 4) (eC .non))) (bo 6 (eOp fF (uL "list" iR (aj 5) (ae (ay gJ (ae (eC fX) au)) au)) (eC (.int 1)))) sNx q=.nx q:=λq U=>by rw[abY,abC,y4,U];simp
  rw[v _ (by rw[t];rfl),gg];exact a R.length (by rw[e]) n _
 .have t:jv f l L=.lst (nmW y.1):=by unfold jv;rw[T]
  have w:gL 51 (R.map λr=>flW r.f)=true:=ie 50 _ λx Q=>by obtain⟨p,_,rfl⟩:=ase.mp Q;simp
  have u:iR (.lst (R.map λr=>flW r.f)) [flW gH]=.ok (.int A.length):=by show(if(okD 50 (flW gH)&&gL 51 (R.map λr=>flW r.f)&&decide ((R.map λr=>flW r.f).length<=lim))=true then match idx (flW gH) 0 (R.map λr=>flW r.f)with|some k=>Res.ok (W.int k)|none=>.bad else .bad)=_;have I:=ahL (g:=gH) (A:=A) (x:=x) (B:=B) 0 s X;rw[<-O,avv]at I;rw[arM (by rw[w,acE 48,aso (by rw[ar7,yH];exact H)];rfl),I]
  have v:sIf (tB (eOp eZ (aj 4) (eC .non))) (bo 6 (eOp fF (uL "list" iR (aj 5) (ae (ay gJ (ae (eC fX) au)) au)) (eC (.int 1)))) sNx [.va BK,.va (flW f),.va (.lst (nmW l)),.va (.int L),.va (jv f l L),.va (.lst (R.map λr=>flW r.f)),.va (.int R.length),.no]=.nx [.va BK,.va (flW f),.va (.lst (nmW l)),.va (.int L),.va (jv f l L),.va (.lst (R.map λr=>flW r.f)),.va (.int ((A.length+1:Nat):Int)),.no]:=by rw[t];simp[kM,rD,u]
  rw[v,gg];exact a (A.length+1) (by rw[e];simp) (by omega) _
def afA(b L)(h:b<=4/\L<=3\/b<=1/\L<=12\/b<=2/\L<=5):gS b L<=1000:=by
 have d:((List.range 5).all λb=>(List.range 4).all λL=>decide (gS b L<=1000))=true:=rfl;have f:((List.range 2).all λb=>(List.range 13).all λL=>decide (gS b L<=1000))=true:=rfl;have a:((List.range 3).all λb=>(List.range 6).all λL=>decide (gS b L<=1000))=true:=rfl;have go:∀m n,((List.range m).all λb=>(List.range n).all λL=>decide (gS b L<=1000))=true->b<m->L<n->gS b L<=1000:=λm n h e c=>by have:=asx.mp (asx.mp h b (asK.mpr e)) L (asK.mpr c);exact aus this
 rcases h with h|h|h;.exact go _ _ d (by omega) (by omega)
 .exact go _ _ f (by omega) (by omega)
 .exact go _ _ a (by omega) (by omega)
def agj(ns:List Int)(hn:ns.length<=63):agC [.lst (ns.map .int)]=.ok (.bl true):=by
 have c0:=xc ns 0 (by decide);have c1:=xc ns 1 (by decide);obtain⟨z,hz⟩:∃z:Int,ns.getD (0:Int).toNat 0*69621%2147483629=z:=⟨_,rfl⟩;obtain⟨c,hc⟩:∃c:Int,ns.getD (1:Int).toNat 0=c:=⟨_,rfl⟩;obtain⟨k,hk⟩:∃k:Nat,1+z%4=k:=⟨(1+z%4).toNat,by omega⟩;obtain⟨d,v,u,en⟩:=uh (z/4) k (by omega);rw[<-hk]at en;rw[hc]at c1;have em:uM "Book" uD (ae (ay cg au) au) [.va (.lst (ns.map .int)),.no,.no,.no,.no,.no,.no,.no,.no,.no,.no]=.ok BK:=by unfold uM;rw[iD,j3,lq,cI,xP,gA];show(uD [TXS]).bind (λwd=>Res.ok (W.ins "Book" [wd]))=_;rw[akb];rfl
 obtain⟨l,L,n,a1,hb,K⟩:∃(l:List (Str×List Rl))(L:Nat),NL l/\l≠[]/\(l.length<=4/\L<=3\/l.length<=1/\L<=12\/l.length<=2/\L<=5)/\sT (bo 5 (eOp oMod (aj 4) (eC (.int 4))) [.va (.lst (ns.map .int)),.va BK,.va (.int z),.va (.lst (nmW d)),.va (.int c),.no,.no,.no,.no,.no,.no]) (sIf (tB (eOp oEq (eOp oMod (eOp oDiv (aj 4) (eC (.int 4))) (eC (.int 4))) (eC (.int 1)))) (aJ (bo 3 (eSl (aj 3) pNo (q0 (eOp fF (eC (.int 1)) (eOp oMod (eOp oDiv (aj 2) (eC (.int 60))) (eC (.int 2))))))) (bo 5 (eOp fF (eC (.int 4)) (eOp oMod (eOp oDiv (aj 4) (eC (.int 16))) (eOp oIx (px (ae (eC (.int 9)) (ae (eC (.int 2)) au))) (eOp acH (eBi iB (ae (aj 3) au)) (eC (.int 1)))))))) sNx)=.nx [.va (.lst (ns.map .int)),.va BK,.va (.int z),.va (.lst (nmW l)),.va (.int c),.va (.int L),.no,.no,.no,.no,.no]:=by
  by_cases g:c/4%4=1
  .obtain⟨j,hj⟩:∃j:Nat,1+z/60%2=j:=⟨(1+z/60%2).toNat,by omega⟩;have s:cut (nmW d) none (some (1+z/60%2))=nmW (d.take j):=by
    rw[hj];have:¬(j:Int)<0:=by omega
    simp only[cut,sIx,arO this,atN,atU,Nat.sub_zero,nmW,ar7,List.map_take];rw[List.take_eq_take_iff];simp
   have a3:(d.take j).length=1\/(d.take j).length=2:=by rw[asG];omega
   have M:NL (d.take j):=⟨λp hp=>v.mem p (List.mem_of_mem_take hp),by rw[List.map_take];exact v.nd.sublist (List.take_sublist ..)⟩;have r:(nmW (d.take j)).length=(d.take j).length:=by simp[nmW]
   rcases a3 with I|I;.obtain⟨L,q⟩:∃L:Nat,4+c/16%9=L:=⟨(4+c/16%9).toNat,by omega⟩;refine⟨d.take j,L,M,λz=>by rw[z]at I;simp at I,.inr (.inl ⟨by omega,by omega⟩),?_⟩;rw[<-q];rw[I]at r;simp[g,s,r]
   .obtain⟨L,q⟩:∃L:Nat,4+c/16%2=L:=⟨(4+c/16%2).toNat,by omega⟩;refine⟨d.take j,L,M,λz=>by rw[z]at I;simp at I,.inr (.inr ⟨by omega,by omega⟩),?_⟩;rw[<-q];rw[I]at r;simp[g,s,r]
  .obtain⟨L,q⟩:∃L:Nat,c%4=L:=⟨(c%4).toNat,by omega⟩;refine⟨d,L,v,λz=>by rw[z]at u;simp at u;omega,.inl ⟨by omega,by omega⟩,?_⟩;rw[<-q];simp[g]
 obtain⟨f,J,ef⟩:=afx ns n a1;have a8:=afA l.length L hb;have G:l.length<=100:=by omega
 have q:L<=800:=by omega
 have hp:∀j,j<=L+1->l.length^j<=700:=λj hj=>by
  have mono:∀a b i k:Nat,a<=b->1<=b->i<=k->a^i<=b^k:=λa b i k g O h3=>arU (Nat.pow_le_pow_left g i) (Nat.pow_le_pow_right O h3);rcases hb with⟨g,O⟩|⟨g,O⟩|⟨g,O⟩;.exact arU (mono _ 4 j 4 g (by omega) (by omega)) (by decide)
  .exact arU (mono _ 1 j 13 g (by omega) (by omega)) (by decide)
  .exact arU (mono _ 2 j 6 g (by omega) (by omega)) (by decide)
 have P:=ux J n.mem (by omega) hp q;obtain⟨R,Z,U,g3,g4⟩:=adw (L:=L) (l:=l) n.mem (B:=1000) 3000 0 [lY f] (ab2 J) (by simp) (by simp[wt,lY];exact a8) (by omega);have a0:1<=R.length:=by have:=g4.length_le;simpa using this
 have w:=fZ J n Z G U q (m:=2000) (by omega);rw[arM (by
  rcases jx J n Z with⟨_,_,e⟩|⟨A,x,B,y,e1,_,_,e,_⟩;.rw[e];omega
  .rw[e];rw[e1]at U;simp at U⊢;omega)]at w;have w:bc [BK,flW f,.lst (nmW l),.int L,.int 2000]=.ok (jv f l L):=w;have o:=ajs J n G Z U a0 q;have dn:=ahR f n.mem L;have dN:=yu (amh n.mem);have e2:bo 2 (eOp oMod (eOp vf (ay bw (ae (aj 0) (ae (eC (.int 0)) au))) (eC (.int 69621))) (eC (.int 2147483629))) [.va (.lst (ns.map .int)),.va BK,.no,.no,.no,.no,.no,.no,.no,.no,.no]=.nx [.va (.lst (ns.map .int)),.va BK,.va (.int z),.no,.no,.no,.no,.no,.no,.no,.no]:=by rw[<-hz];simp(disch:=omega)[c0,amd]
 have e3:bo 3 (ay eM (ae (eOp oDiv (aj 2) (eC (.int 4))) (ae (eOp fF (eC (.int 1)) (eOp oMod (aj 2) (eC (.int 4)))) au))) [.va (.lst (ns.map .int)),.va BK,.va (.int z),.no,.no,.no,.no,.no,.no,.no,.no]=.nx [.va (.lst (ns.map .int)),.va BK,.va (.int z),.va (.lst (nmW d)),.no,.no,.no,.no,.no,.no,.no]:=by simp[en]
 have e4:bo 4 (ay bw (ae (aj 0) (ae (eC (.int 1)) au))) [.va (.lst (ns.map .int)),.va BK,.va (.int z),.va (.lst (nmW d)),.no,.no,.no,.no,.no,.no,.no]=.nx [.va (.lst (ns.map .int)),.va BK,.va (.int z),.va (.lst (nmW d)),.va (.int c),.no,.no,.no,.no,.no,.no]:=by simp[c1]
 have sq:∀(a b t:SF)(T:Ws),aJ a (aJ b t) T=sT (sT (a T) b) t:=λa b t T=>by rw[fj];cases a T<;>rfl
 simp only[agC,aiy,run_eq,arZ,atw,ar1,atH,List.replicate,asA,as0];rw[fj,abX,em];simp only[jW,as3,asP,gg];rw[fj,e2,gg,fj,e3,gg,fj,e4,gg,sq,K,gg];rcases y6 f n.mem L with X|⟨x,hx,X,hq⟩;.rw[X]at w P o dn;simp[ef,P,w,dN,o]
 .rw[X]at w P o dn;obtain⟨a6,E⟩:=qq hx;obtain⟨k,_,hk⟩:=aeI a6;obtain⟨_,a2⟩:=xx hk;obtain⟨hg,a9,ed⟩:=qt (S:=.lst (ns.map .int)) (N0:=.int z) (N:=.lst (nmW l)) (C:=.int c) (Le:=.int L) (D:=.lst (nmW x.1)) (H:=.lst (nmW l)) (FD:=.lst (nmW x.1)) x.1 hq f x.2 J a2 .no;have eh:=adp hg;rw[aso E]at eh;have g0:go 0 l 3000 0 [lY x.2]=some [lY x.2]:=by simp[go,lY]
  have Q:=fZ hg n g0 G (by simp) (by omega) (m:=2000) (by omega);have hu:upTo gH [lY x.2]=[lY x.2]:=ki (rs:=[]) (more:=[]) (λ_ h=>nomatch h) E;have a4:jv x.2 l 0=.lst []:=by unfold jv;have:(ES dN0 l x.2 0).find? iF=some ([],x.2):=List.find?_cons_of_pos (aso E);rw[this];rfl
  rw[hu,arM (by simp),a4]at Q;have Q:bc [BK,flW x.2,.lst (nmW l),.int 0,.int 2000]=.ok (.lst []):=Q;have a7:oEq (.lst []) (.lst [])=.ok (.bl true):=rfl;have Y:isK (.lst (nmW x.1)) "list"=some true:=by simp[isK,rz]
  have a5:kM (.lst (nmW x.1))=false:=rfl;simp[ef,P,w,dn,dN,o,Y,a5,ed,eh,Q,a7]
end K67
namespace PySem.W.Fast
def tw5017971658722738255:=0
def tw17546393921997542450:=0
def tw18247597521555287469:=0
def tw15111311716327430822:=0
def tw13886654521107377555:=0
def tw10099217432413455223:=0
def tw9391685718548519950:=0
def tw3595214050171564868:=0
def tw9892849757508775964:=0
def tw11703518714470753388:=0
def tw15138713113611721280:=0
def tw9218190556393816753:=0
def tw1589966354012502975:=0
def tw9620860232665356814:=0
def tw8069169784186177993:=0
def tw1075128342171294356:=0
def tw16627025096396336590:=0
def tw2449805182229986136:=0
def tw18328259528007602428:=0
def tw12253421314216474655:=0
def tw15776195098107138031:=0
def tw15214655000205304351:=0
def tw3984862993635993697:=0
def tw5617220950164852795:=0
def tw11981128990531050120:=0
def tw10616857424912410135:=0
def tw17301026966317784063:=0
def tw138677568654902238:=0
def tw17010612889395095000:=0
def tw6363527799713184288:=0
def tw8853984165174029656:=0
def tw8699787514238096194:=0
def tw15240183663148974589:=0
def tw4138859100083502465:=0
def tw5251739866335689058:=0
def tw10753575616468824017:=0
def tw1385700409788632414:=0
def tw12399909660101246042:=0
def tw5985219163927090561:=0
def tw16797475216372608914:=0
def tw17423778492002441468:=0
def tw15060810180549490538:=0
def tw14879346659796374821:=0
def tw16873272080283368991:=0
def tw2783329905739405252:=0
def tw6152371850513776333:=0
def tw2366099526058335809:=0
def tw13855160038782756657:=0
def tw9451155189665845458:=0
def tw8608951727876361025:=0
def tw17552355509351987489:=0
def tw15331982080259466766:=0
def tw12636783654878906400:=0
def tw14433975087647170990:=0
def tw2821589884937871922:=0
def tw277680093491702050:=0
def tw2412277027210634019:=0
def tw3906924885041802899:=0
def tw12786864579412681801:=0
def tw5315802395387999:=0
def tw10284023378557471785:=0
def tw11760885741088022363:=0
def tw7368787603404366824:=0
def tw15367028316762798732:=0
def tw15878158971902395355:=0
def tw11847437917169623766:=0
def tw17923726080716644154:=0
def tw2912795540590396306:=0
def tw13105499309962496004:=0
def tw12855112902023832226:=0
def tw14491061139538997873:=0
def tw6646800173854909484:=0
def tw7616084722328214668:=0
def tw18274710720694824402:=0
def tw7914367653861303982:=0
def tw6088000862323219937:=0
def tw16062054353658663591:=0
def tw14862983398413952229:=0
def tw9085679646291931743:=0
def tw458322754023205222:=0
def tw2073875463939944634:=0
def tw8238520639169397905:=0
def tw3365290787480523186:=0
def tw2422174965898970690:=0
def tw16890225788395089179:=0
def tw14193493829773906405:=0
def tw16589396449360428508:=0
def tw12195680444777276512:=0
def tw10006836382403331631:=0
def tw11866402883248093461:=0
def tw8572480138090546870:=0
def tw5766415271604493438:=0
def tw15198057178527305886:=0
def tw535570635746917698:=0
def tw14409700168810115342:=0
def tw11584808444536198725:=0
def tw18252165903034805334:=0
def tw14156389782038569125:=0
def tw6475462305314977477:=0
def tw2830550807096545499:=0
def tw364186104835575810:=0
def tw2778009923474493510:=0
def tw2575986730246297606:=0
def tw10824633958007416735:=0
def tw8830074955587842482:=0
def tw17294202562750998755:=0
def tw2282530501293195019:=0
def tw11029344961136158135:=0
def tw6401185439378584934:=0
def tw9791438049373399015:=0
def tw16383750987701484375:=0
def tw15046507720655262159:=0
def tw14673094903793939577:=0
def tw8664810698998947845:=0
def tw10484989742103745264:=0
def tw12065198852051890945:=0
def tw874731674574211593:=0
def tw15638187168931985506:=0
def tw16569681016143090386:=0
def tw3836928346748199503:=0
def tw194705829085102873:=0
def tw3758331001424019822:=0
def tw996343392654866938:=0
def tw13812485500160149612:=0
def tw7393107820495812481:=0
def tw4781192355803566492:=0
def tw5716328318295397192:=0
def tw15396921128732951574:=0
def tw16565704061314557178:=0
def tw7420851745048101081:=0
def tw8865847114247338646:=0
def tw8410567958988351930:=0
def tw5339138688066645479:=0
def tw5559535537923719766:=0
def tw6646470094362586368:=0
def tw9234162334236087426:=0
def tw14781563306837327202:=0
def tw14173403876328354119:=0
def tw14636024370382174394:=0
def tw3949110798025333737:=0
def tw2409009278465869326:=0
def tw6571182482268140642:=0
def tw4403721015171141604:=0
def tw1055508723913742187:=0
def tw11725289203349896495:=0
def tw158414794362946494:=0
def tw8427683978590864786:=0
def tw11219149371075107674:=0
def tw17923887452476377225:=0
def tw7945274558032781329:=0
def tw14140863215254924856:=0
def tw6771768520682602712:=0
def tw15561869635725135399:=0
def tw367406362649271795:=0
def tw12853391633603279276:=0
def tw9927264946674224489:=0
def tw14158836062899103221:=0
def tw10596624090467761539:=0
def tw4667511513490211178:=0
def tw18054104975704702870:=0
def tw8797140247725423325:=0
def tw2576146757745192790:=0
def tw7349896907326454733:=0
def tw2278752930075359678:=0
def tw198937328836894487:=0
def tw3699911093678257484:=0
def tw6144596451607982092:=0
def tw3300973239143350117:=0
def tw5748261327730193206:=0
def tw16928983654539944236:=0
def tw3639616411230289828:=0
def tw5806017146019182823:=0
def tw5504646640010714043:=0
def tw10790199207501370343:=0
def tw5762697574483774299:=0
def tw11430065268273661980:=0
def tw6130285849421264991:=0
def tw12685092926156420870:=0
def tw6737294809182266018:=0
def tw6960452025059146975:=0
def tw12853651332969977370:=0
def tw574571168589311647:=0
def tw16485762603735446129:=0
def tw12395749603083222739:=0
def tw10029859905416406980:=0
def tw9762067195437966538:=0
def tw769732676329041896:=0
def tw15493172256957187106:=0
def tw12576224150131211463:=0
def tw3864736658796150033:=0
def tw12434539015119381931:=0
def tw5603752346484124533:=0
def tw6342431059494026753:=0
def tw6356880429697603143:=0
def tw2468847378692369758:=0
def tw1354015671373711041:=0
def tw2185996156724541916:=0
def tw9719462296084135992:=0
def tw1094305558321347399:=0
def tw2473595324677374388:=0
def tw13391313571117697084:=0
def tw10386921009904949491:=0
def tw17327470197450782339:=0
def tw10256388655114251266:=0
def tw11952868957583173399:=0
def tw10699389169822395499:=0
def tw6271021621591239710:=0
def tw14874312454473557376:=0
def tw11675996053047618225:=0
def tw7204990799232514996:=0
def tw11052305897254682599:=0
def tw8440151564382684442:=0
def tw12975639205486796544:=0
def tw1888488802317626245:=0
def tw813887410775416115:=0
def tw991315074639435558:=0
def tw14061452088171105126:=0
def tw648749942290916635:=0
def tw1482061150952572930:=0
def tw3949051495981765383:=0
def tw2331685390945151943:=0
def tw7494256375024864714:=0
def tw5951861952136043109:=0
def tw4703085403870913445:=0
def tw10547533949572583932:=0
def tw4984339620168806767:=0
def tw15043799944234585237:=0
def tw18283798900317376235:=0
def tw9629580426113474794:=0
def tw16945854609753933088:=0
def tw2099581699705359555:=0
def tw1566244408420079512:=0
def tw5722107093472341778:=0
def tw10065780714134206698:=0
def tw14796981076873249916:=0
def tw12966731315432156949:=0
def tw12019824509205367864:=0
def tw15308091533394174200:=0
def tw169147210321921345:=0
def tw5313652624852497496:=0
def tw9683008868015257669:=0
def tw14815286120761059066:=0
def tw15490500078819977230:=0
def tw5150980930316095569:=0
def tw13529912285883689703:=0
def tw11685954718748602947:=0
def tw16408970811430878165:=0
def tw691856814033331163:=0
def tw7084415899773201680:=0
def tw16062790266918169964:=0
def tw3977761715114190143:=0
def tw12114526156856966336:=0
def tw15257162156613616408:=0
def tw869463182669617102:=0
def tw11890318546489820547:=0
def tw3187712519497988115:=0
def tw4310421831514370138:=0
def tw3478408710112843814:=0
def tw5674077454132426765:=0
def tw5792219502306089130:=0
def tw7710922610931424662:=0
def tw13723751797085240515:=0
def tw8592521601589617225:=0
def tw15170534044357840711:=0
def tw601298931384317166:=0
def tw1750912709817417591:=0
def tw9769728406258128422:=0
def tw18029197881931808479:=0
def tw13725914802756542234:=0
def tw14723847909237967856:=0
def tw15117985704095766135:=0
def tw11103043812229456500:=0
def tw12036882193767234564:=0
def tw444024776869191231:=0
def tw8723392294006663192:=0
def tw6066822054970647485:=0
def tw15769296693935869787:=0
def tw14555146878928349952:=0
def tw8974308701485671169:=0
def tw9327860669133846148:=0
def tw910372588409363855:=0
def tw12704366769706757761:=0
def tw9511493383993458421:=0
def tw13580009064335893577:=0
def tw5178662411701733828:=0
def tw12265047626953456338:=0
def tw12146391323306559480:=0
def tw11163024363101032592:=0
def tw7664876215796127096:=0
def tw14265267205752462982:=0
def tw7582247629955253377:=0
def tw2894021848733002420:=0
def tw14857114080662493589:=0
def tw12238052280224157662:=0
def tw2944871300860597848:=0
def tw4502462327218152292:=0
def tw4882293710154076480:=0
def tw667187677740120613:=0
def tw16152839599571199525:=0
def tw7802615438528121945:=0
def tw15370189209101328937:=0
def tw82397651697972864:=0
def tw8252310372141543614:=0
def tw7842064876497003254:=0
def tw8248301732062991765:=0
def tw16099787014364753999:=0
def tw11225322795314079060:=0
def tw18124279389282740452:=0
def tw13534889951169077022:=0
def tw3250421686631636336:=0
def tw16385114402779815040:=0
def tw16608549258625223165:=0
def tw8887298093818117405:=0
def tw13915735428180878734:=0
def tw9013367888039732990:=0
def tw10925918153769695606:=0
def tw10914274825870881342:=0
def tw339374998410652421:=0
def tw8095674678728158788:=0
def tw11332331626982783416:=0
def tw2739427668851364591:=0
def tw15340288354741763482:=0
def tw15269265237898526723:=0
def tw15168427576085521545:=0
def tw5073232537602993186:=0
def tw12480949713579378303:=0
def tw7543177457880622966:=0
def tw1116936499395931400:=0
def tw14569823663900765325:=0
def tw8129919404459489696:=0
def tw17360453405030777519:=0
def tw11047650150194740415:=0
def tw16123995594918747168:=0
def tw18031996429919665482:=0
def tw100093082901517191:=0
def tw7064025077921592657:=0
def tw7189856605187310489:=0
def tw12763434725104023919:=0
def tw17190846688706369345:=0
def tw2174452675488196688:=0
def tw16080943842953325438:=0
def tw17961113772507686143:=0
def tw14482851972993057238:=0
def tw9329405802332176825:=0
def tw1481691999738781042:=0
def tw14541541382385784426:=0
def tw1119279646783922471:=0
def tw2935664421498018189:=0
def tw3097640091807546640:=0
end PySem.W.Fast
namespace K67
open PySem PySem.Spec PyProof.Rows L2 WS
open WL(Res Sl Ws EF TF AF LF GF GsF SF Out RF OX Sr)
seal L2.PE L2.PS L2.PSs L2.PA L2.PT L2.PW L2.PG L2.PGs L2.PI L2.PO L2.agX L2.PC
def top(i:Nat):Stmt:=PySem.Challenge.pw_squarecall_k67_whole_way_home.main.body.getD i (.Pass ⟨0,0,0,0⟩)
local macro_rules|`(tactic|trivial)=>`(tactic|exact⟨rfl,rfl,rfl,by decide+kernel,rfl,by decide+kernel,by decide+kernel⟩)
noncomputable def gw:Stmt->List Stmt|.ClassDef _ _ _ b _ _ _ _ _ _ _=>b|_=>[]
abbrev xX:Stmt:=(gw (top 5)).getD 0 (.Pass ⟨0,0,0,0⟩)
def abP:FnScope ["self","who"] ["self","who"] (af xX):=by trivial
abbrev abL:Stmt:=(gw (top 7)).getD 0 (.Pass ⟨0,0,0,0⟩)
def afB:FnScope ["self","one","other"] ["self","one","other"] (af abL):=by trivial
abbrev ahi:Stmt:=(gw (top 6)).getD 0 (.Pass ⟨0,0,0,0⟩)
def aiO:FnScope ["self","who"] ["self","who"] (af ahi):=by trivial
abbrev tm:Stmt:=top 84
def zN:FnScope ["thing"] ["thing"] (af tm):=by trivial
abbrev ny:Stmt:=top 57
def lF:FnScope ["word","least","most","number"] ["word","least","most"] (af ny):=by trivial
abbrev jJ:Stmt:=top 69
def iK:FnScope ["word","least","most","number"] ["word","least","most"] (af jJ):=by trivial
abbrev nt:Stmt:=top 75
def sU:FnScope ["word","more"] ["word","more"] (af nt):=by trivial
abbrev lI:Stmt:=top 76
def jG:FnScope ["text","words"] ["text"] (af lI):=by trivial
abbrev sY:Stmt:=top 70
def kA:FnScope ["words","ahead","right"] ["words"] (af sY):=by trivial
abbrev lJ:Stmt:=top 71
def qR:FnScope ["words"] ["words"] (af lJ):=by trivial
abbrev fM:Stmt:=top 72
def jH:FnScope ["words"] ["words"] (af fM):=by trivial
abbrev nr:Stmt:=top 73
def lC:FnScope ["text","words"] ["text"] (af nr):=by trivial
abbrev lH:Stmt:=top 74
def jF:FnScope ["text","texts"] ["text"] (af lH):=by trivial
abbrev nu:Stmt:=top 77
def lD:FnScope ["text","parts"] ["text"] (af nu):=by trivial
abbrev nv:Stmt:=top 78
def lE:FnScope ["text","texts"] ["text"] (af nv):=by trivial
abbrev abM:Stmt:=(gw (top 85)).getD 0 (.Pass ⟨0,0,0,0⟩)
def vE:FnScope ["self","texts","name"] ["self","texts"] (af abM):=by trivial
abbrev nz:Stmt:=top 88
def aB:FnScope ["_law_some","_law_texts_here","_law_one","_law_name","_law_mark","_law_text"] [] (af nz):=by trivial
abbrev jL:Stmt:=top 87
def oZ:FnScope ["_law_script","_law_k"] ["_law_script","_law_k"] (af jL):=by trivial
abbrev nB:Stmt:=top 89
def dA:FnScope ["_law_number","_law_many","_law_names_here","_law_found","_law_k"] ["_law_number","_law_many"] (af nB):=by trivial
abbrev sX:Stmt:=top 17
def zJ:FnScope ["stand"] ["stand"] (af sX):=by trivial
abbrev gT:Stmt:=top 18
def dG:FnScope ["stands","one","other"] ["stands"] (af gT):=by trivial
abbrev p8:Stmt:=top 19
def nk:FnScope ["stands","meeting"] ["stands"] (af p8):=by trivial
abbrev x1:Stmt:=top 21
def ng:FnScope ["floor","spot","dancer","stand"] ["floor","spot"] (af x1):=by trivial
abbrev nq:Stmt:=top 20
def eU:FnScope ["stand","ahead","right","step","east","north"] ["stand","ahead","right"] (af nq):=by trivial
abbrev s9:Stmt:=top 22
def zL:FnScope ["dancer"] ["dancer"] (af s9):=by trivial
abbrev pV:Stmt:=top 23
def vz:FnScope ["dancer"] ["dancer"] (af pV):=by trivial
abbrev gP:Stmt:=top 27
def lX:FnScope ["facing","way"] ["facing","way"] (af gP):=by trivial
abbrev abU:Stmt:=top 37
def afC:FnScope ["own","stands","who","what"] ["own","stands","who","what"] (af abU):=by trivial
abbrev ahk:Stmt:=top 38
def qQ:FnScope ["floor","dancer","test","own","what","who"] ["floor","dancer","test"] (af ahk):=by trivial
abbrev p9:Stmt:=top 35
def vD:FnScope ["spot"] ["spot"] (af p9):=by trivial
abbrev abV:Stmt:=top 36
def qT:FnScope ["stand","before","behind"] ["stand"] (af abV):=by trivial
abbrev tw:Stmt:=top 33
def zP:FnScope ["dancer"] ["dancer"] (af tw):=by trivial
abbrev tr:Stmt:=top 34
def zO:FnScope ["dancer"] ["dancer"] (af tr):=by trivial
abbrev tj:Stmt:=top 39
def zM:FnScope ["dancer","word"] ["dancer","word"] (af tj):=by trivial
abbrev vG:Stmt:=top 40
def qS:FnScope ["floor","dancer","test","word"] ["floor","dancer","test"] (af vG):=by trivial
abbrev pU:Stmt:=top 41
def i8:FnScope ["floor","dancer","call","place","rule"] ["floor","dancer","call"] (af pU):=by trivial
abbrev pT:Stmt:=top 44
def nj:FnScope ["floor","dancer","call","some","place"] ["floor","dancer","call","some"] (af pT):=by trivial
abbrev pY:Stmt:=top 13
def vA:FnScope ["thing"] ["thing"] (af pY):=by trivial
abbrev p7:Stmt:=top 14
def vC:FnScope ["thing"] ["thing"] (af p7):=by trivial
abbrev nC:Stmt:=top 15
def sV:FnScope ["thing"] ["thing"] (af nC):=by trivial
abbrev pZ:Stmt:=top 16
def vB:FnScope ["thing"] ["thing"] (af pZ):=by trivial
abbrev tf:Stmt:=top 47
def kB:FnScope ["told","dancer","way"] ["told"] (af tf):=by trivial
abbrev iM:Stmt:=top 45
def ez:FnScope ["stand","step","going","spot"] ["stand","step"] (af iM):=by trivial
abbrev x2:Stmt:=top 46
def nh:FnScope ["stand","steps","way","step"] ["stand","steps"] (af x2):=by trivial
abbrev ahj:Stmt:=top 48
def abR:FnScope ["floor","call","some","steps"] ["floor","call","some"] (af ahj):=by trivial
abbrev x4:Stmt:=top 49
def abS:FnScope ["floor","call","some"] ["floor","call","some"] (af x4):=by trivial
abbrev nD:Stmt:=(gw (top 85)).getD 2 (.Pass ⟨0,0,0,0⟩)
def sW:FnScope ["self","name"] ["self","name"] (af nD):=by trivial
abbrev lK:Stmt:=top 90
def dQ:FnScope ["_law_book","_law_floor","_law_name","_law_found"] ["_law_book","_law_floor","_law_name"] (af lK):=by trivial
abbrev iL:Stmt:=top 28
def ni:FnScope ["stand"] ["stand"] (af iL):=by trivial
abbrev x3:Stmt:=top 29
def jE:FnScope ["floor","quarters","result","quarter"] ["floor","quarters"] (af x3):=by trivial
abbrev nA:Stmt:=top 93
def dz:FnScope ["_law_book","_law_names_here","_law_script","_law_floor","_law_cell","_law_behind_here"] ["_law_book","_law_names_here","_law_script"] (af nA):=by trivial
abbrev jK:Stmt:=top 91
def oY:FnScope ["_law_floor"] ["_law_floor"] (af jK):=by trivial
abbrev gR:Stmt:=top 92
def aO:FnScope ["_law_book","_law_floor","_law_names_here","_law_length","_law_rows","_law_k","_law_longer","_law_row","_law_here","_law_name","_law_behind_here"] ["_law_book","_law_floor","_law_names_here","_law_length"] (af gR):=by trivial
abbrev ahl:Stmt:=top 30
def aiP:FnScope ["floor"] ["floor"] (af ahl):=by trivial
abbrev sS:Stmt:=(gw (top 51)).getD 0 (.Pass ⟨0,0,0,0⟩)
def abT:FnScope ["self","goal","most"] ["self","goal","most"] (af sS):=by trivial
abbrev lL:Stmt:=(gw (top 51)).getD 2 (.Pass ⟨0,0,0,0⟩)
def jI:FnScope ["self","floor","depth","parent","name","own"] ["self","floor","depth","parent","name"] (af lL):=by trivial
abbrev gG:Stmt:=(gw (top 51)).getD 1 (.Pass ⟨0,0,0,0⟩)
def kC:FnScope ["self"] ["self"] (af gG):=by trivial
abbrev gF:Stmt:=(gw (top 51)).getD 3 (.Pass ⟨0,0,0,0⟩)
def cq:FnScope ["self","place","calls","row","name","floor"] ["self","place","calls"] (af gF):=by trivial
abbrev lG:Stmt:=top 52
def cp:FnScope ["goal","book","floor","names","length","most","calls","name","search","place"] ["goal","book","floor","names","length","most"] (af lG):=by trivial
abbrev pX:Stmt:=top 53
def i9:FnScope ["rows","place","names"] ["rows","place"] (af pX):=by trivial
abbrev pS:Stmt:=top 55
def i7:FnScope ["book","floor","names","length","most","goal","rows"] ["book","floor","names","length","most"] (af pS):=by trivial
abbrev sZ:Stmt:=top 54
def zK:FnScope ["book","floor","names","length","most"] ["book","floor","names","length","most"] (af sZ):=by trivial
abbrev gQ:Stmt:=top 94
def bt:FnScope ["_law_book","_law_floor","_law_names_here","_law_length","_law_due","_law_rows","_law_most","_law_refused"] ["_law_book","_law_floor","_law_names_here","_law_length","_law_due"] (af gQ):=by trivial
abbrev aiQ:Stmt:=top 95
def eV:FnScope ["_law_script","_law_book","_law_number","_law_names_here","_law_cell","_law_length","_law_floor","_law_due","_law_handed","_law_found","_law_name"] ["_law_script"] (af aiQ):=by trivial
structure Txt(w:World)(K:W.Frag)(mg:Str->Option Value)(oR mx mw mv mu mr mq mn mm:Addr)(nH kH:Tok)(js kb ka j9 j8:Addr)(kG:Tok)(dS gB cZ bQ bP bO bN:Addr)(gX gU gW eB fk fo:Tok)(jq cn bF dm:Addr)(gY fq jO:Tok)(oQ aU eN bM dk bX bz gp jj ot jk fm_Book_call fm_Search_lay fm_Search_at_goal fm_Search_take_up:Addr)(dB eA:Tok)(aD eK:Addr):Prop where
 mgA:∀nm v,W.nsIn K mainGlobals nm=some (some v)->mg nm=some v
 yB:mg "HOME"=some (.ref oR)alg:∀H:Hp,SqT K H oR [.ref mx,.ref mw,.ref mv,.ref mu,.ref mr,.ref mq,.ref mn,.ref mm]aft:∀H:Hp,SqT K H mx [.int (-1),.int (-3),.int 0]afs:∀H:Hp,SqT K H mw [.int 1,.int (-3),.int 0]afr:∀H:Hp,SqT K H mv [.int 3,.int (-1),.int 1]afq:∀H:Hp,SqT K H mu [.int 3,.int 1,.int 1]afp:∀H:Hp,SqT K H mr [.int 1,.int 3,.int 2]afo:∀H:Hp,SqT K H mq [.int (-1),.int 3,.int 2]afn:∀H:Hp,SqT K H mn [.int (-3),.int 1,.int 3]afm:∀H:Hp,SqT K H mm [.int (-3),.int (-1),.int 3]jX:mg "DANCERS"=some (.int 8 nH)qg:mg "FARTHEST"=some (.int 200 kH)acR:mg "STEPS"=some (.ref js)aiA:∀H:Hp,SqT K H js [.ref kb,.ref ka,.ref j9,.ref j8]aby:∀H:Hp,SqT K H kb [.int 0,.int 1]abx:∀H:Hp,SqT K H ka [.int (-1),.int 0]abw:∀H:Hp,SqT K H j9 [.int 0,.int (-1)]abv:∀H:Hp,SqT K H j8 [.int 1,.int 0]ij:mg "QUARTERS"=some (.int 4 kG)rn:mg "QUARTERS_OF"=some (.ref dS)qL:aeK w K dS [("same",.int 0),("left",.int 1),("about",.int 2),("right",.int 3)]agc:mg "DRIFTS"=some (.ref gB)afu:∀H:Hp,SqT K H gB [.str "inward",.str "outward",.str "sideways"]nZ:mg "GOINGS_dances"=some (.ref cZ)m3:aeK w K cZ [("ahead",.ref bQ),("back",.ref bP),("left",.ref bO),("right",.ref bN)]kx:∀H:Hp,SqT K H bQ [.int 1,.int 0]kv:∀H:Hp,SqT K H bP [.int (-1),.int 0]ku:∀H:Hp,SqT K H bO [.int 0,.int (-1)]kr:∀H:Hp,SqT K H bN [.int 0,.int 1]ua:mg "MOST_RULES"=some (.int 12 gX)t8:mg "MOST_TESTS"=some (.int 6 gU)t9:mg "MOST_STEPS"=some (.int 8 gW)cP:mg "FARTHEST_SEEN"=some (.int 9 eB)pe:mg "WIDEST_INNER"=some (.int 200 fk)pf:mg "LONGEST_STEP"=some (.int 9 fo)ajt:mg "WHATS"=some (.ref jq)aiz:∀H:Hp,SqT K H jq [.str "none",.str "any",.str "same",.str "left",.str "about",.str "right",.str "partner",.str "opposite"]uc:mg "LONE_WORDS"=some (.ref cn)sI:∀H:Hp,SqT K H cn [.str "head",.str "side",.str "lefts",.str "rights",.str "inward",.str "outward",.str "sideways"]pk:mg "GOINGS_rules"=some (.ref bF)oX:∀H:Hp,SqT K H bF [.str "ahead",.str "back",.str "left",.str "right"]aaj:mg "TURNINGS"=some (.ref dm)zA:∀H:Hp,SqT K H dm [.str "left",.str "right",.str "about"]ub:mg "MOST_CALLS"=some (.int 60 gY)ph:mg "LONGEST_NAME"=some (.int 8 fq)acS:mg "LETTERS"=some (.str "abcdefghijklmnopqrstuvwxyz" jO)amn:mg "KEPT"=some (.ref oQ)alf:∀H:Hp,SqT K H oQ [.str "times",.str "heads",.str "sides",.str "lefts",.str "rights",.str "inner",.str "couples"]amk:mg "abs"=none
 ajo:mg "all"=none
 amj:mg "bool"=none
 je:mg "enumerate"=none
 apH:mg "int"=none
 cb:mg "isinstance"=none
 eF:mg "len"=none
 yA:mg "list"=none
 apG:mg "max"=none
 apF:mg "min"=none
 eE:mg "range"=none
 aae:mg "reversed"=none
 af7:mg "sorted"=none
 af6:mg "str"=none
 nY:mg "tuple"=none
 fc:mg "FloorError"=some (.ref aU)uK:ExcAt K "FloorError" aU
 t7:mg "TooMany"=some (.ref eN)uJ:ExcAt K "TooMany" eN
 aaX:vc K eN none
 acT:mg "Blind"=some (.ref bM)wM:ExcAt K "Blind" bM
 amm:mg "Out"=some (.ref dk)ajT:ExcAt K "Out" dk
 ahA:mg "Meet"=some (.ref bX)adP:ExcAt K "Meet" bX
 xs:ExcAll K
 anG:W.findIn K (.ref bM) "__init__"=some (some (.ref gp))agA:∃fd,Fun K "__init__" "Blind.__init__" xX gp fd
 aca:vc K bM (some (.ref gp))afI:W.typeIn K (.ref gp)=some (.type "function")aeV:(W.clsIn K bM).map (·.mro)=some (.ref bM::.ref aU::gb)aeU:W.hasDictIn K bM=true
 aeT:W.findIn K (.ref bM) "__setattr__"=some (some (.builtin "object.__setattr__"))t6:W.findIn K (.ref bM) "who"=some none
 aot:W.findIn K (.ref bX) "__init__"=some (some (.ref jj))ajL:∃fd,Fun K "__init__" "Meet.__init__" abL jj fd
 ahs:vc K bX (some (.ref jj))ai1:W.typeIn K (.ref jj)=some (.type "function")ahZ:(W.clsIn K bX).map (·.mro)=some (.ref bX::.ref aU::gb)ahY:W.hasDictIn K bX=true
 ahX:W.findIn K (.ref bX) "__setattr__"=some (some (.builtin "object.__setattr__"))wb:W.findIn K (.ref bX) "one"=some none
 rj:W.findIn K (.ref bX) "other"=some none
 aqp:W.findIn K (.ref dk) "__init__"=some (some (.ref ot))am6:∃fd,Fun K "__init__" "Out.__init__" ahi ot fd
 alE:vc K dk (some (.ref ot))alD:W.typeIn K (.ref ot)=some (.type "function")akN:(W.clsIn K dk).map (·.mro)=some (.ref dk::.ref aU::gb)akM:W.hasDictIn K dk=true
 akL:W.findIn K (.ref dk) "__setattr__"=some (some (.builtin "object.__setattr__"))aad:W.findIn K (.ref dk) "who"=some none
 rd:W.readsIn K aU (.type "type")=true
 rf:W.findCls K (.ref aU) (.type "type") "__init__"=some (.val (.builtin "ValueError.__init__"))rs:W.specialIn K (.ref aU) "__getattribute__"=some (some (.builtin "type.__getattribute__"))amo:mg "Book"=some (.ref bz)z1_Book:W.makesIn K bz=true
 z2_Book:W.findIn K (.ref bz) "__init__"=some (some (.ref jk))ajM:∃fd,Fun K "__init__" "Book.__init__" abM jk fd
 z3_Book:W.isFn K (.ref jk)=true
 z4_Book:W.keepIn K (.ref bz)=true
 z5_Book:W.plainGet K bz Str.empty=true
 z6_Book:W.hasDictIn K bz=true
 z7_Book:W.plainOver K bz=true
 z8_Book:W.findIn K (.ref bz) "__setattr__"=some (some (.builtin "object.__setattr__"))wc:aW K bz "calls"qv:W.nsIn K mainGlobals (Str.ofString "Book")=some (some (.ref bz))agb:mg "Search"=some (.ref aD)z1_Search:W.makesIn K aD=true
 z2_Search:W.findIn K (.ref aD) "__init__"=some (some (.ref eK))adD:∃fd,Fun K "__init__" "Search.__init__" sS eK fd
 z3_Search:W.isFn K (.ref eK)=true
 z4_Search:W.keepIn K (.ref aD)=true
 z5_Search:W.plainGet K aD Str.empty=true
 z6_Search:W.hasDictIn K aD=true
 z7_Search:W.plainOver K aD=true
 z8_Search:W.findIn K (.ref aD) "__setattr__"=some (some (.builtin "object.__setattr__"))iP:aW K aD "goal"iO:aW K aD "most"bj:aW K aD "rows"fw:aW K aD "seen"bx:W.nsIn K mainGlobals (Str.ofString "Search")=some (some (.ref aD))y1_Book_call:W.findIn K (.ref bz) "call"=some (some (.ref fm_Book_call))y2_Book_call:W.isFn K (.ref fm_Book_call)=true
 y3_Book_call:W.keepIn K (.ref fm_Book_call)=true
 uu:∃fd,Fun K "call" "Book.call" nD fm_Book_call fd
 y1_Search_lay:W.findIn K (.ref aD) "lay"=some (some (.ref fm_Search_lay))y2_Search_lay:W.isFn K (.ref fm_Search_lay)=true
 y3_Search_lay:W.keepIn K (.ref fm_Search_lay)=true
 rH:∃fd,Fun K "lay" "Search.lay" lL fm_Search_lay fd
 y1_Search_at_goal:W.findIn K (.ref aD) "at_goal"=some (some (.ref fm_Search_at_goal))y2_Search_at_goal:W.isFn K (.ref fm_Search_at_goal)=true
 y3_Search_at_goal:W.keepIn K (.ref fm_Search_at_goal)=true
 kS:∃fd,Fun K "at_goal" "Search.at_goal" gG fm_Search_at_goal fd
 y1_Search_take_up:W.findIn K (.ref aD) "take_up"=some (some (.ref fm_Search_take_up))y2_Search_take_up:W.isFn K (.ref fm_Search_take_up)=true
 y3_Search_take_up:W.keepIn K (.ref fm_Search_take_up)=true
 kR:∃fd,Fun K "take_up" "Search.take_up" gF fm_Search_take_up fd
 aeb:AtD K "is_name" tm
 wZ:AtD K "number_of" ny
 rP:AtD K "read_number" jJ
 wW:AtD K "read_step" nt
 uR:AtD K "read_steps" lI
 ad6:AtD K "read_at" sY
 uS:AtD K "read_inner" lJ
 k7:AtD K "read_plain_test" fM
 wV:AtD K "read_test" nr
 uQ:AtD K "read_tests" lH
 wX:AtD K "read_rule" nu
 wY:AtD K "read_call" nv
 w4:AtD K "_law_texts" nz
 rR:AtD K "_law_cell_at" jL
 w6:AtD K "_law_names" nB
 ad4:AtD K "spot_of" sX
 oN:AtD K "first_meeting" gT
 aaB:AtD K "floor_of" p8
 agK:AtD K "who_at" x1
 wU:AtD K "spot_from" nq
 ad8:AtD K "partner" s9
 aaw:AtD K "opposite" pV
 oJ:AtD K "turned_facing" gP
 ajZ:AtD K "looks" abU
 anj:AtD K "sees" ahk
 aaC:AtD K "distance" p9
 aj1:AtD K "drift" abV
 aed:AtD K "is_head" tw
 aec:AtD K "is_left" tr
 aea:AtD K "is_such" tj
 aj0:AtD K "holds" vG
 aav:AtD K "rule_for" pU
 aau:AtD K "steps_of" pT
 aay:AtD K "is_whole" pY
 aaA:AtD K "is_place" p7
 w9:AtD K "is_facing" nC
 aaz:AtD K "is_stand" pZ
 ad9:AtD K "kept_in" tf
 pB:AtD K "stand_behind" iM
 agL:AtD K "way_of" x2
 ani:AtE K "ways" ahj #[.none]agN:AtE K "danced" x4 #[.none]uT:AtD K "_law_behind" lK
 pA:AtD K "turned_stand" iL
 agM:AtD K "turned" x3
 w5:AtD K "_law_start" nA
 rQ:AtD K "_law_is_home" jK
 oM:AtD K "_law_first_way" gR
 ank:AtD K "form" ahl
 uP:AtD K "rows_up_to" lG
 aax:AtD K "names_to" pX
 aat:AtE K "way_home" pS #[.int 2000 dB]ad7:AtE K "reached" sZ #[.int 2000 eA]oK:AtD K "_law_many_rows" gQ
 aqa:AtD K "law" aiQ
variable{P:Program}{w:World}{K:W.Frag}{mg:Str->Option Value}{base:Heap}{oR mx mw mv mu mr mq mn mm:Addr}{nH kH:Tok}{js kb ka j9 j8:Addr}{kG:Tok}{dS gB cZ bQ bP bO bN:Addr}{gX gU gW eB fk fo:Tok}{jq cn bF dm:Addr}{gY fq jO:Tok}{oQ aU eN bM dk bX bz gp jj ot jk fm_Book_call fm_Search_lay fm_Search_at_goal fm_Search_take_up:Addr}{dB eA:Tok}{aD eK:Addr}
def yb:RelV (.ref oR) (.ref oR):=rfl
def ab7:RelV (.ref js) (.ref js):=rfl
def afG:RelV (.ref gB) (.ref gB):=rfl
def aiZ:RelV (.ref jq) (.ref jq):=rfl
def tG:RelV (.ref cn) (.ref cn):=rfl
def o4:RelV (.ref bF) (.ref bF):=rfl
def zV:RelV (.ref dm) (.ref dm):=rfl
def ab8:RelV (.str "abcdefghijklmnopqrstuvwxyz") (.str "abcdefghijklmnopqrstuvwxyz" jO):=⟨_,rfl⟩
def alA:RelV (.ref oQ) (.ref oQ):=rfl
variable(T:Txt w K mg oR mx mw mv mu mr mq mn mm nH kH js kb ka j9 j8 kG dS gB cZ bQ bP bO bN gX gU gW eB fk fo jq cn bF dm gY fq jO oQ aU eN bM dk bX bz gp jj ot jk fm_Book_call fm_Search_lay fm_Search_at_goal fm_Search_take_up dB eA aD eK)
include T
theorem xM:∀F,RW K F fX (.ref oR):=λF=>by simp only[RW,RWs,fX];exact⟨_,_,rfl,T.alg F,_,_,rfl,⟨_,_,rfl,T.aft F,_,_,rfl,rfl,_,_,rfl,rfl,_,_,rfl,rfl,rfl⟩,_,_,rfl,⟨_,_,rfl,T.afs F,_,_,rfl,rfl,_,_,rfl,rfl,_,_,rfl,rfl,rfl⟩,_,_,rfl,⟨_,_,rfl,T.afr F,_,_,rfl,rfl,_,_,rfl,rfl,_,_,rfl,rfl,rfl⟩,_,_,rfl,⟨_,_,rfl,T.afq F,_,_,rfl,rfl,_,_,rfl,rfl,_,_,rfl,rfl,rfl⟩,_,_,rfl,⟨_,_,rfl,T.afp F,_,_,rfl,rfl,_,_,rfl,rfl,_,_,rfl,rfl,rfl⟩,_,_,rfl,⟨_,_,rfl,T.afo F,_,_,rfl,rfl,_,_,rfl,rfl,_,_,rfl,rfl,rfl⟩,_,_,rfl,⟨_,_,rfl,T.afn F,_,_,rfl,rfl,_,_,rfl,rfl,_,_,rfl,rfl,rfl⟩,_,_,rfl,⟨_,_,rfl,T.afm F,_,_,rfl,rfl,_,_,rfl,rfl,_,_,rfl,rfl,rfl⟩,rfl⟩
theorem abh:∀F,RW K F lj (.ref js):=λF=>by simp only[RW,RWs,lj];exact⟨_,_,rfl,T.aiA F,_,_,rfl,⟨_,_,rfl,T.aby F,_,_,rfl,rfl,_,_,rfl,rfl,rfl⟩,_,_,rfl,⟨_,_,rfl,T.abx F,_,_,rfl,rfl,_,_,rfl,rfl,rfl⟩,_,_,rfl,⟨_,_,rfl,T.abw F,_,_,rfl,rfl,_,_,rfl,rfl,rfl⟩,_,_,rfl,⟨_,_,rfl,T.abv F,_,_,rfl,rfl,_,_,rfl,rfl,rfl⟩,rfl⟩
theorem qG:∀F k u,WL.oV k [.str "same",.str "left",.str "about",.str "right"] [.int 0,.int 1,.int 2,.int 3]=some u->∃v,List.lookup k [(("same":Str),(.int 0:V)),(("left":Str),(.int 1:V)),(("about":Str),(.int 2:V)),(("right":Str),(.int 3:V))]=some v/\RW K F u v:=λF=>hI (by simp[RW]) (hI (by simp[RW]) (hI (by simp[RW]) (hI (by simp[RW]) ahP)))
theorem afh:∀F,RW K F j7 (.ref gB):=λF=>by simp only[RW,RWs,j7];exact⟨_,_,rfl,T.afu F,_,_,rfl,rfl,_,_,rfl,rfl,_,_,rfl,rfl,rfl⟩
theorem mK:∀F k u,WL.oV k [.str "ahead",.str "back",.str "left",.str "right"] [.tup [.int 1,.int 0],.tup [.int (-1),.int 0],.tup [.int 0,.int (-1)],.tup [.int 0,.int 1]]=some u->∃v,List.lookup k [(("ahead":Str),(.ref bQ:V)),(("back":Str),(.ref bP:V)),(("left":Str),(.ref bO:V)),(("right":Str),(.ref bN:V))]=some v/\RW K F u v:=λF=>hI (by simp only[RW,RWs];exact⟨_,_,rfl,T.kx F,⟨_,_,rfl,rfl,⟨_,_,rfl,rfl,rfl⟩⟩⟩) (hI (by simp only[RW,RWs];exact⟨_,_,rfl,T.kv F,⟨_,_,rfl,rfl,⟨_,_,rfl,rfl,rfl⟩⟩⟩) (hI (by simp only[RW,RWs];exact⟨_,_,rfl,T.ku F,⟨_,_,rfl,rfl,⟨_,_,rfl,rfl,rfl⟩⟩⟩) (hI (by simp only[RW,RWs];exact⟨_,_,rfl,T.kr F,⟨_,_,rfl,rfl,⟨_,_,rfl,rfl,rfl⟩⟩⟩) ahP)))
theorem ais:∀F,RW K F xi (.ref jq):=λF=>by simp only[RW,RWs,xi];exact⟨_,_,rfl,T.aiz F,_,_,rfl,rfl,_,_,rfl,rfl,_,_,rfl,rfl,_,_,rfl,rfl,_,_,rfl,rfl,_,_,rfl,rfl,_,_,rfl,rfl,_,_,rfl,rfl,rfl⟩
theorem su:∀F,RW K F h6 (.ref cn):=λF=>by simp only[RW,RWs,h6];exact⟨_,_,rfl,T.sI F,_,_,rfl,rfl,_,_,rfl,rfl,_,_,rfl,rfl,_,_,rfl,rfl,_,_,rfl,rfl,_,_,rfl,rfl,_,_,rfl,rfl,rfl⟩
theorem oW:∀F,RW K F fB (.ref bF):=λF=>by simp only[RW,RWs,fB];exact⟨_,_,rfl,T.oX F,_,_,rfl,rfl,_,_,rfl,rfl,_,_,rfl,rfl,_,_,rfl,rfl,rfl⟩
theorem zt:∀F,RW K F lh (.ref dm):=λF=>by simp only[RW,RWs,lh];exact⟨_,_,rfl,T.zA F,_,_,rfl,rfl,_,_,rfl,rfl,_,_,rfl,rfl,rfl⟩
theorem abi:∀F,RW K F oP (.str "abcdefghijklmnopqrstuvwxyz"):=λF=>by simp[RW,oP]
theorem ak8:∀F,RW K F aey (.ref oQ):=λF=>by simp only[RW,RWs,aey];exact⟨_,_,rfl,T.alf F,_,_,rfl,rfl,_,_,rfl,rfl,_,_,rfl,rfl,_,_,rfl,rfl,_,_,rfl,rfl,_,_,rfl,rfl,_,_,rfl,rfl,rfl⟩
theorem afH:ExcS K bM:=wL T.xs T.wM T.aeV T.aeU T.aeT
theorem rh:anA P w K mg base gp ["self","who"] (spI bM ["who"]):=wz T.agA (λ_ _ _ _ _ _ f d=>aaK (λ_ _=>rfl) f d) λh b=>yM b abP (by decide) (λ_ _ _ c g=>all_cons (qc (by decide)) (all_cons (yo c g) all_nil)) λe A a s H E hr=>bT (fu (qZ (by rfl) T.fc T.rd T.rf T.rs T.aca (bV (pv 0) (bV (vP (.cons nI (.cons (yi (pv 1)) .nil))) eW)))) (ft (ai3 (afH T) T.t6 (pv 0) (pv 1) rfl))
theorem ab9:ExcS K bX:=wL T.xs T.adP T.ahZ T.ahY T.ahX
theorem tY:anA P w K mg base jj ["self","one","other"] (spI bX ["one","other"]):=wz T.ajL (λ_ _ _ _ _ _ f h=>aaJ (λ_ _ _=>rfl) f h) λj g=>agr g afB (by decide) (by decide) (λ_ _ _ _ c b i d=>all_cons (qc (by decide)) (all_cons (yo c i) (all_cons (qc (by decide)) (all_cons (yo b d) (all_cons (qc (by decide)) all_nil))))) λe A a s H E hr=>bT (fu (qZ (by rfl) T.fc T.rd T.rf T.rs T.ahs (bV (pv 0) (bV (vP (.cons nI (.cons (yi (pv 1)) (.cons nI (.cons (yi (pv 2)) (.cons nI .nil)))))) eW)))) (bT (ai3 (ab9 T) T.wb (pv 0) (pv 1) rfl) (ft (ao6 (ab9 T) T.rj (pv 0) (pv 2) rfl)))
theorem alC:ExcS K dk:=wL T.xs T.ajT T.akN T.akM T.akL
theorem vW:anA P w K mg base ot ["self","who"] (spI dk ["who"]):=wz T.am6 (λ_ _ _ _ _ _ f d=>aaK (λ_ _=>rfl) f d) λh b=>yM b aiO (by decide) (λ_ _ _ c g=>all_cons (qc (by decide)) (all_cons (yo c g) (all_cons (qc (by decide)) all_nil))) λe A a s H E hr=>bT (fu (qZ (by rfl) T.fc T.rd T.rf T.rs T.alE (bV (pv 0) (bV (vP (.cons nI (.cons (yi (pv 1)) (.cons nI .nil)))) eW)))) (ft (ai3 (alC T) T.aad (pv 0) (pv 1) rfl))
theorem ajq:Mk K bz jk:=⟨T.z1_Book,T.z2_Book,T.z3_Book,T.z4_Book⟩
theorem iy:Cls K bz:=⟨T.z5_Book,T.z6_Book,T.z7_Book,T.z8_Book⟩
theorem acO:Mk K aD eK:=⟨T.z1_Search,T.z2_Search,T.z3_Search,T.z4_Search⟩
theorem aS:Cls K aD:=⟨T.z5_Search,T.z6_Search,T.z7_Search,T.z8_Search⟩
theorem z7:Cal P w K mg base CX0 41 "is_name" ["thing"] [] (spW K 1 uC):=T.aeb.dN T.mgA sE zN λhB hr hx hp=>(ah (aZ (PW.pt (sd (iI (fG (wB cH (f9 hB.symm) T.cb ato (aa (va 0) (aa (wty T.af6 boot_str) ai))))) (mC (iI (ae1 jm jm akk akk aq (wB uV (ahc hB.symm) T.eF asb (aa (va 0) ai)) (wki hB T.ph)))))) (ak (ar vr)) aw) (ak (ar (mH (cN dY (kh hB.symm hr.units) (va 0) (wk hB T.amn alA (ak8 T)) (by rfl)) (pK (wB rT (w_all (cm hr) hB.symm) T.ajo boot_all (aa (dZ (ts:=["sign"]) ⟨rfl,rfl,rfl,rfl,rfl⟩ (cm hr) rfl (bp (by decide)) (akV (va 0)) (λ_ _ _ _=>gN 0) (λ_ _ _ _=>fH) λ_ _ _ _=>cN agS (aox hB.symm hr.units) (va 0) (wk hB T.acS ab8 (abi T)) (by rfl)) ai)))))))
theorem tT:Cal P w K mg base CX0 41 "number_of" ["word","least","most"] [] (spW K 3 oA):=T.wZ.dN T.mgA mX lF λhB hr hx hp=>ah (dJ hp (cm hr) (aa9 (by rfl) T.eE (va 1) (aM aI (w_add hB.symm) (va 2) aq)) (gN 3 lF.nd) (show PSs _ _ (loS _ K67.jY)from ak (aZ (we2 hB hr.units (wT aem ak1 T.af6 boot_str (aa (va 3) ai)) (va 0)) (ak (ar (va 3))) aw))) (ak (ar cw))
theorem du:Cal P w K mg base CX0 42 "read_number" ["word","least","most"] [] (spW K 3 cT):=T.rP.dN T.mgA jA iK λhB hr hx hp=>ah (wS 3 iK.nd (cl hB hr (tT T) (aa (va 0) (aa (va 1) (aa (va 2) ai))))) (ah (aZ (bg rS w_is (va 3) cw (aT _)) (ak eP) aw) (ak (ar (va 3))))
theorem tQ:Cal P w K mg base CX0 43 "read_step" ["word","more"] [] (spW K 2 ov):=T.wW.dN T.mgA mS sU λhB hr hx hp=>ah (aZ (PW.pt (mD (we2 hB hr.units (va 0) aF) (kg (bg lg (akl hB.symm hr.units) (va 1) (wk hB T.aaj zV (zt T)) (by rfl))))) (ak (ar (bY (aa (va 0) (aa (va 1) ai))))) aw) (ah (aZ (bg dY (kh hB.symm hr.units) (va 0) (wk hB T.pk o4 (oW T)) (by rfl)) (ak eP) aw) (ak (ar (bY (aa (va 0) (aa (cl hB hr (du T) (aa (va 1) (aa aq (aa (wki hB T.pf) ai)))) ai))))))
theorem jT:Cal P w K mg base CX0 44 "read_steps" ["text"] [] (spW K 1 hJ):=T.uR.dN T.mgA lz jG λhB hr hx hp=>(ah (aZ (we2 hB hr.units (va 0) aF) (ak (ar (bY (aa (bY (aa aF ai)) ai)))) aw) (ah (wS 1 jG.nd (l8 hB.symm (va 0) (aa aF ai))) (ah (aZ (PW.pt (sd (wn2 hB hr.units (aM br w_mod (wB aV (eO hB.symm) T.eF asb (aa (va 1) ai)) aq) aq) (mC (bg jn akm (wB aV (eO hB.symm) T.eF asb (aa (va 1) ai)) (aM dR w_mul aq (wki hB T.t9)) (aT _))))) (ak eP) aw) (ak (ar (wT iz (qF hB.symm) T.nY avn (aa (dZ (ts:=["place"]) ⟨rfl,rfl,rfl,rfl,rfl⟩ (cm hr) rfl (bp (by decide)) (aih (by rfl) T.eE aq (wB aV (eO hB.symm) T.eF asb (aa (va 1) ai))) (λ_ _ _ _=>gN 0) (λ_ _ _ _=>fH) λ_ _ _ _=>cl hB hr (tQ T) (aa (wx hB (va 2) (va 0)) (aa (wx hB (va 2) (aM aI (w_add hB.symm) (va 0) aq)) ai))) ai)))))))
theorem z0:Cal P w K mg base CX0 43 "read_at" ["words"] [] (spW K 1 uz):=T.ad6.dN T.mgA sC kA λhB hr hx hp=>ah (aZ (PW.pt (sd (wn2 hB hr.units (wB aV (eO hB.symm) T.eF asb (aa (va 0) ai)) aq) (mC (bg dY (kh hB.symm hr.units) (wx hB (va 0) aq) (wk hB T.ajt aiZ (ais T)) (by rfl))))) (ak eP) aw) (ah (wS 1 kA.nd (cl hB hr (du T) (aa (wx hB (va 0) aq) (aa (si ff sk (wki hB T.cP)) (aa (wki hB T.cP) ai))))) (ah (wS 2 kA.nd (cl hB hr (du T) (aa (wx hB (va 0) aq) (aa (si ff sk (wki hB T.cP)) (aa (wki hB T.cP) ai))))) (ah (aZ (PW.pt (mD (we2 hB hr.units (va 1) aq) (kg (we2 hB hr.units (va 2) aq)))) (ak eP) aw) (ak (ar (bY (aa aF (aa (va 1) (aa (va 2) (aa (wx hB (va 0) aq) ai))))))))))
theorem q9:Cal P w K mg base CX0 43 "read_inner" ["words"] [] (spW K 1 lQ):=T.uS.dN T.mgA lA qR λhB hr hx hp=>ah (aZ (wn2 hB hr.units (wB aV (eO hB.symm) T.eF asb (aa (va 0) ai)) aq) (ak eP) aw) (ak (ar (bY (aa aF (aa (cl hB hr (du T) (aa (wx hB (va 0) aq) (aa aq (aa (wki hB T.pe) ai)))) ai)))))
theorem eY:Cal P w K mg base CX0 44 "read_plain_test" ["words"] [] (spW K 1 dh):=T.k7.dN T.mgA fL jH λhB hr hx hp=>ah (aZ (we2 hB hr.units (wx hB (va 0) aq) aF) (ak (ar (cl hB hr (z0 T) (aa (va 0) ai)))) aw) (ah (aZ (we2 hB hr.units (wx hB (va 0) aq) aF) (ak (ar (cl hB hr (q9 T) (aa (va 0) ai)))) aw) (ah (aZ (PW.pt (sd (wn2 hB hr.units (wB aV (eO hB.symm) T.eF asb (aa (va 0) ai)) aq) (mC (bg dY (kh hB.symm hr.units) (wx hB (va 0) aq) (wk hB T.uc tG (su T)) (by rfl))))) (ak eP) aw) (ak (ar (bY (aa (wx hB (va 0) aq) ai))))))
theorem tP:Cal P w K mg base CX0 45 "read_test" ["text"] [] (spW K 1 ou):=T.wV.dN T.mgA mR lC λhB hr hx hp=>ah (wS 1 lC.nd (l8 hB.symm (va 0) (aa aF ai))) (ah (aZ (PW.pt (mD (bg jn akm (wB aV (eO hB.symm) T.eF asb (aa (va 1) ai)) aq (aT _)) (kg (we2 hB hr.units (wx hB (va 1) aq) aF)))) (ak (ar (bY (aa aF (aa (cl hB hr (eY T) (aa (ae9 (anI hB.symm) (va 1) (mF aq) vm) ai)) ai))))) aw) (ak (ar (cl hB hr (eY T) (aa (va 1) ai)))))
theorem q3:Cal P w K mg base CX0 46 "read_tests" ["text"] [] (spW K 1 lP):=T.uQ.dN T.mgA ly jF λhB hr hx hp=>(ah (wS 1 jF.nd (l8 hB.symm (va 0) (aa aF ai))) (ah (aZ (bg jn akm (wB aV (eO hB.symm) T.eF asb (aa (va 1) ai)) (wki hB T.t8) (aT _)) (ak eP) aw) (ak (ar (wT iz (qF hB.symm) T.nY avn (aa (dZ (ts:=["test"]) ⟨rfl,rfl,rfl,rfl,rfl⟩ (cm hr) rfl (bp (by decide)) (eQ hB.symm (va 1)) (λ_ _ _ _=>gN 0) (λ_ _ _ _=>fH) λ_ _ _ _=>cl hB hr (tP T) (aa (va 0) ai)) ai))))))
theorem tR:Cal P w K mg base CX0 47 "read_rule" ["text"] [] (spW K 1 oy):=T.wX.dN T.mgA mT lD λhB hr hx hp=>ah (aZ (fG (aa7 hB.symm (va 0) (aa aF ai))) (ak (ar (bY (aa (bY ai) (aa (cl hB hr (jT T) (aa (aik (va 0) aq) ai)) ai))))) aw) (ah (wS 1 lD.nd (aa8 hB.symm (va 0) (aa aF ai))) (ah (aZ (we2 hB hr.units (wx hB (va 1) aq) aF) (ak eP) aw) (ak (ar (bY (aa (cl hB hr (q3 T) (aa (wx hB (va 1) aq) ai)) (aa (cl hB hr (jT T) (aa (wx hB (va 1) aq) ai)) ai)))))))
theorem tS:Cal P w K mg base CX0 48 "read_call" ["text"] [] (spW K 1 oz):=T.wY.dN T.mgA mU lE λhB hr hx hp=>(ah (aZ (iI (fG (wB cH (f9 hB.symm) T.cb ato (aa (va 0) (aa (wty T.af6 boot_str) ai))))) (ak eP) aw) (ah (wS 1 lE.nd (l8 hB.symm (va 0) (aa aF ai))) (ah (aZ (bg jn akm (wB aV (eO hB.symm) T.eF asb (aa (va 1) ai)) (wki hB T.ua) (aT _)) (ak eP) aw) (ak (ar (dZ (ts:=["rule"]) ⟨rfl,rfl,rfl,rfl,rfl⟩ (cm hr) rfl (bp (by decide)) (eQ hB.symm (va 1)) (λ_ _ _ _=>gN 0) (λ_ _ _ _=>fH) λ_ _ _ _=>cl hB hr (tR T) (aa (va 0) ai)))))))
theorem ajj:anB P w K mg base 49 jk ["self","texts"] (spB K "calls" uD):=yN T.ajM (λ_ _ _ _ _ _ c f=>aaK (λ_ _=>rfl) c f) λg d=>by refine agq abF abE abl d vE rfl rfl ?_;intro b A a s H E X e hr hp;subst e;exact⟨λB hB hx=>⟨aZ (bg jn akm (wB uV (ahc hB.symm) T.eF asb (aa (va 1) ai)) (wki hB T.ub) (aT _)) (ak eP) aw,aib hB.symm hp (cm hr) hx (pv 1) (λ_=>gN 2 vE.nd) λB hB hx=>show PSs _ _ (loS _ K67.yI)from ak (aZ (iI (fG (cl hB hr (z7 T) (aa (va 2) ai)))) (ak eP) aw),cl hB hr (tS T) (aa (wx hB (va 1) (va 2)) ai)⟩,pv 0,pv 0,pv 1,pv 2,vO vE.nd rfl (Or.inl rfl),cm hr,rfl,rfl,rfl,λ_=>rfl⟩
theorem lN:Cal P w K mg base CX0 41 "_law_texts" [] [] (spW K 0 cg):=T.w4.dN T.mgA mY aB λhB hr hx hp=>(ah (wS 0 aB.nd (dy (aa aF (aa aF (aa aF ai))))) (ah (wS 0 aB.nd (aM aI (w_add hB.symm) (va 0) (dy (aa aF ai)))) (ah (wS 0 aB.nd (aM aI (w_add hB.symm) (va 0) (dy (aa aF ai)))) (ah (wS 0 aB.nd (aM aI (w_add hB.symm) (va 0) (dy (aa aF (aa aF ai))))) (ah (wS 0 aB.nd (aM aI (w_add hB.symm) (va 0) (dy (aa aF ai)))) (ah (wS 0 aB.nd (aM aI (w_add hB.symm) (va 0) (dy (aa aF ai)))) (ah (wS 0 aB.nd (aM aI (w_add hB.symm) (va 0) (dy (aa aF ai)))) (ah (wS 0 aB.nd (aM aI (w_add hB.symm) (va 0) (dy (aa aF ai)))) (ah (wS 0 aB.nd (aM aI (w_add hB.symm) (va 0) (dy (aa aF ai)))) (ah (wS 0 aB.nd (aM aI (w_add hB.symm) (va 0) (dy (aa aF ai)))) (ah (wS 0 aB.nd (aM aI (w_add hB.symm) (va 0) (dy (aa aF ai)))) (ah (wS 0 aB.nd (aM aI (w_add hB.symm) (va 0) (dy (aa (aM zb ak6 (aM zb ak6 aF (aM aen ak2 aF aq)) aF) ai)))) (ah (aa4 (i:=1) aB.nd rfl (Or.inl rfl)) (ah (dJ hp (cm hr) (eQ hB.symm (va 0)) (gN 2 aB.nd) (show PSs _ _ (loS _ K67.jZ)from(ah (akU (aa8 hB.symm (va 2) (aa aF ai)) (sg hB.symm (cm hr) (cM (gN 3 aB.nd) (cM (gN 4 aB.nd) (cM (gN 5 aB.nd) mG))) rfl (eG (eG (eG ur))) kP) (amZ kP)) (ak (aa3 (i:=1) (un1 hr.units) (pv 1) (va 3) (va 5)))))) (ak (sf (i:=1) (ar (va 1))))))))))))))))))
theorem fv:Cal P w K mg base CX0 1 "_law_cell_at" ["_law_script","_law_k"] [] (spW K 2 bw):=T.rR.dN T.mgA gf oZ λhB hr hx hp=>ah (aZ (bg lb w_lt (va 1) (wB aV (eO hB.symm) T.eF asb (aa (va 0) ai)) (aT _)) (ak (ar (wx hB (va 0) (va 1)))) aw) (ak (ar aq))
theorem tW:Cal P w K mg base CX0 42 "_law_names" ["_law_number","_law_many"] [] (spW K 2 eM):=T.w6.dN T.mgA i2 dA λhB hr hx hp=>(ah (mE (i:=2) dA.nd rfl (Or.inl rfl) (ae7 (cm hr) T.af7 boot_sorted (cl0 hB hr (lN T)))) (ah (mE (i:=3) dA.nd rfl (Or.inl rfl) (xF ai)) (ah (dJ hp (cm hr) (gO (by rfl) T.eE (va 1)) (gN 4 dA.nd) (show PSs _ _ (loS _ K67.gk)from(ah (aa5 (i:=3) (j:=2) (fu (o6 asQ as6 as7 g9 (pv 3) (bV (o6 asQ PySem.F.slot_list_pop PySem.F.type_list_pop af9 (pv 2) (bV (ahb (i:=2) (aM br w_mod (va 0) (wB aV (eO hB.symm) T.eF asb (aa (va 2) ai)))) eW)) eW)))) (ak (wS 0 dA.nd (aM fg w_div (va 0) aq)))))) (ak (sf (i:=3) (ar (va 3)))))))
theorem fN:Cal P w K mg base CX0 1 "spot_of" ["stand"] [] (spW K 1 eL):=T.ad4.dN T.mgA sA zJ λhB hr hx hp=>ak (ar (bY (aa (wx hB (va 0) aq) (aa (wx hB (va 0) aq) ai))))
theorem l5:Cal P w K mg base CX0 41 "first_meeting" ["stands"] [] (spW K 1 bL):=T.oN.dN T.mgA cO dG λhB hr hx hp=>ah (dJ hp (cm hr) (gO (by rfl) T.eE (wB aV (eO hB.symm) T.eF asb (aa (va 0) ai))) (gN 1 dG.nd) (show PSs _ _ (loS _ K67.cu)from ak (dJ hp (cm hr) (aa9 (by rfl) T.eE (aM aI (w_add hB.symm) (va 1) aq) (wB aV (eO hB.symm) T.eF asb (aa (va 0) ai))) (gN 2 dG.nd) (show PSs _ _ (loS _ K67.aQ)from ak (aZ (we2 hB hr.units (cl hB hr (fN T) (aa (wx hB (va 0) (va 1)) ai)) (cl hB hr (fN T) (aa (wx hB (va 0) (va 2)) ai))) (ak (ar (bY (aa (va 1) (aa (va 2) ai))))) aw))))) (ak (ar cw))
theorem vY:Cal P w K mg base (CXX P w) 42 "floor_of" ["stands"] [] (spX K 1 dW):=T.aaB.dX T.mgA ib nk λhB hr hx hp=>ah (wS 1 nk.nd (cl hB hr (l5 T) (aa (va 0) ai))) (ah (aZ (bg di iY (va 1) cw (aT _)) (ak (rI hB hr hx (cm hr) T.ahA T.ahs T.ai1 (tY T) T.adP (aa (wx hB (va 1) aq) (aa (wx hB (va 1) aq) ai)))) aw) (ak (ar (wT iz (qF hB.symm) T.nY avn (aa (va 0) ai)))))
theorem acA:Cal P w K mg base CX0 41 "who_at" ["floor","spot"] [] (spW K 2 mi):=T.agK.dN T.mgA xQ ng λhB hr hx hp=>ah (dJ hp (cm hr) (vn hB.symm (by rfl) T.je (va 0)) (sg hB.symm (cm hr) (cM (gN 2 ng.nd) (cM (gN 3 ng.nd) mG)) rfl (eG (eG ur)) kP) (show PSs _ _ (loS _ K67.fP)from ak (aZ (we2 hB hr.units (cl hB hr (fN T) (aa (va 3) ai)) (va 1)) (ak (ar (va 2))) aw))) (ak (ar cw))
theorem g6:Cal P w K mg base CX0 1 "spot_from" ["stand","ahead","right"] [] (spW K 3 cE):=T.wU.dN T.mgA i0 eU λhB hr hx hp=>ah (wS 3 eU.nd (wx hB (wk hB T.acR ab7 (abh T)) (wx hB (va 0) aq))) (ah (wS 4 eU.nd (aM aI (w_add hB.symm) (aM dR w_mul (wx hB (va 3) aq) (va 1)) (aM dR w_mul (wx hB (va 3) aq) (va 2)))) (ah (wS 5 eU.nd (aM iA w_sub (aM dR w_mul (wx hB (va 3) aq) (va 1)) (aM dR w_mul (wx hB (va 3) aq) (va 2)))) (ak (ar (bY (aa (aM aI (w_add hB.symm) (wx hB (va 0) aq) (va 4)) (aa (aM aI (w_add hB.symm) (wx hB (va 0) aq) (va 5)) ai)))))))
theorem z4:Cal P w K mg base CX0 1 "partner" ["dancer"] [] (spW K 1 j1):=T.ad8.dN T.mgA mW zL λhB hr hx hp=>ak (ar (aim (we2 hB hr.units (aM br w_mod (va 0) aq) aq) (aM aI (w_add hB.symm) (va 0) aq) (aM iA w_sub (va 0) aq)))
theorem vT:Cal P w K mg base CX0 1 "opposite" ["dancer"] [] (spW K 1 kT):=T.aaw.dN T.mgA pO vz λhB hr hx hp=>ak (ar (aM br w_mod (aM aI (w_add hB.symm) (va 0) (aM fg w_div (wki hB T.jX) aq)) (wki hB T.jX)))
theorem gI:Cal P w K mg base CX0 1 "turned_facing" ["facing","way"] [] (spW K 2 bK):=T.oJ.dN T.mgA eg lX λhB hr hx hp=>ak (ar (aM br w_mod (aM aI (w_add hB.symm) (va 0) (gx hB T.rn T.qL (qG T) (va 1))) (wki hB T.ij)))
theorem afY:Cal P w K mg base CX0 2 "looks" ["own","stands","who","what"] [] (spW K 4 hU):=T.ajZ.dN T.mgA kn afC λhB hr hx hp=>ah (aZ (bg rS w_is (va 2) cw (aT _)) (ak (ar (cN calm_eq (w_eq hB.symm hr.units) (va 3) aF (aT _)))) aw) (ah (aZ (bg lg (akl hB.symm hr.units) (va 3) (bY (aa aF (aa aF ai))) (by rfl)) (ak (ar (cN calm_eq (w_eq hB.symm hr.units) (va 3) aF (aT _)))) aw) (ak (ar (cN calm_eq (w_eq hB.symm hr.units) (wx hB (wx hB (va 1) (va 2)) aq) (cl hB hr (gI T) (aa (wx hB (va 0) aq) (aa (va 3) ai))) (aT _)))))
theorem aji:Cal P w K mg base CX0 42 "sees" ["floor","dancer","test"] [] (spW K 3 yW):=T.anj.dN T.mgA abt qQ λhB hr hx hp=>ah (wS 3 qQ.nd (wx hB (va 0) (va 1))) (ah (wS 4 qQ.nd (wx hB (va 2) aq)) (ah (wS 5 qQ.nd (cl hB hr (acA T) (aa (va 0) (aa (cl hB hr (g6 T) (aa (va 3) (aa (wx hB (va 2) aq) (aa (wx hB (va 2) aq) ai)))) ai)))) (ah (aZ (we2 hB hr.units (va 4) aF) (ak (ar (cN calm_eq (w_eq hB.symm hr.units) (va 5) (cl hB hr (z4 T) (aa (va 1) ai)) (aT _)))) aw) (ah (aZ (we2 hB hr.units (va 4) aF) (ak (ar (cN calm_eq (w_eq hB.symm hr.units) (va 5) (cl hB hr (vT T) (aa (va 1) ai)) (aT _)))) aw) (ak (ar (cl hB hr (afY T) (aa (va 3) (aa (va 0) (aa (va 5) (aa (va 4) ai)))))))))))
theorem jd:Cal P w K mg base CX0 41 "distance" ["spot"] [] (spW K 1 fV):=T.aaC.dN T.mgA pP vD λhB hr hx hp=>ak (ar (wB aeq (ak4 (cm hr)) T.apG boot_max (aa (wB zc ak7 T.amk boot_abs (aa (wx hB (va 0) aq) ai)) (aa (wB zc ak7 T.amk boot_abs (aa (wx hB (va 0) aq) ai)) ai))))
theorem af0:Cal P w K mg base CX0 42 "drift" ["stand"] [] (spW K 1 kU):=T.aj1.dN T.mgA qK qT λhB hr hx hp=>ah (wS 1 qT.nd (cl hB hr (jd T) (aa (cl hB hr (fN T) (aa (va 0) ai)) ai))) (ah (wS 2 qT.nd (cl hB hr (jd T) (aa (cl hB hr (g6 T) (aa (va 0) (aa aq (aa aq ai)))) ai))) (ah (aZ (we2 hB hr.units (va 2) (va 1)) (ak (ar aF)) aw) (ak (ar (aim (bg lb w_lt (va 2) (va 1) (aT _)) aF aF)))))
theorem z9:Cal P w K mg base CX0 1 "is_head" ["dancer"] [] (spW K 1 oD):=T.aed.dN T.mgA sG zP λhB hr hx hp=>ak (ar (cN calm_eq (w_eq hB.symm hr.units) (aM br w_mod (aM fg w_div (va 0) aq) aq) aq (aT _)))
theorem z8:Cal P w K mg base CX0 1 "is_left" ["dancer"] [] (spW K 1 oC):=T.aec.dN T.mgA sF zO λhB hr hx hp=>ak (ar (cN calm_eq (w_eq hB.symm hr.units) (aM br w_mod (va 0) aq) aq (aT _)))
theorem z6:Cal P w K mg base CX0 2 "is_such" ["dancer","word"] [] (spW K 2 hX):=T.aea.dN T.mgA mZ zM λhB hr hx hp=>ah (aZ (bg lg (akl hB.symm hr.units) (va 1) (bY (aa aF (aa aF ai))) (by rfl)) (ak (ar (cN calm_eq (w_eq hB.symm hr.units) (cl hB hr (z9 T) (aa (va 0) ai)) (cN calm_eq (w_eq hB.symm hr.units) (va 1) aF (aT _)) (aT _)))) aw) (ak (ar (cN calm_eq (w_eq hB.symm hr.units) (cl hB hr (z8 T) (aa (va 0) ai)) (cN calm_eq (w_eq hB.symm hr.units) (va 1) aF (aT _)) (aT _))))
theorem tZ{f:Addr}{d:FuncData}(b:Fun K "holds" "holds" vG f d)(g:mg "holds"=some (.ref f))(e:Binds K d ["floor","dancer","test"] []):∀n:Nat,FnOk P w K mg base CX0 (42+n) f d ["floor","dancer","test"] (spW K 3 (cG n))|0=>ajX b qS rfl|n+1=>have a:=tZ b g e n;wN (i4 (cG n)) b qS rfl rfl rfl (by decide) λh A c s H E B hB hr hx hp=>(ah (wS 3 qS.nd (wx hB (va 2) aq)) (ah (aZ (we2 hB hr.units (va 3) aF) (ak (ar (aha (abc hB.symm a (hr.mono (arP _)) (by rfl) g b.kp e (aa (va 0) (aa (va 1) (aa (wx hB (va 2) aq) ai))) (aH (aH (aH dE))))))) aw) (ah (aZ (we2 hB hr.units (va 3) aF) (ak (ar (cl hB hr (aji T) (aa (va 0) (aa (va 1) (aa (va 2) ai))) (arU (by decide) (ath _ _))))) aw) (ah (aZ (we2 hB hr.units (va 3) aF) (ak (ar (cN jm akk (cl hB hr (jd T) (aa (cl hB hr (fN T) (aa (wx hB (va 0) (va 1)) ai) (arU (by decide) (ath _ _))) ai) (arU (by decide) (ath _ _))) (wx hB (va 2) aq) (aT _)))) aw) (ah (aZ (bg lg (akl hB.symm hr.units) (va 3) (wk hB T.agc afG (afh T)) (by rfl)) (ak (ar (cN calm_eq (w_eq hB.symm hr.units) (cl hB hr (af0 T) (aa (wx hB (va 0) (va 1)) ai) (arU (by decide) (ath _ _))) (va 3) (aT _)))) aw) (ak (ar (cl hB hr (z6 T) (aa (va 1) (aa (va 3) ai)) (arU (by decide) (ath _ _))))))))))
theorem afZ:Cal P w K mg base CX0 44 "holds" ["floor","dancer","test"] [] (spW K 3 (cG 2)):=T.aj0.arA T.mgA (λ_ _ _ _ _ _ a e=>aaJ (λ_ _ _=>rfl) a e) λ_ _ d c b=>tZ T d c b 2
theorem vS:Cal P w K mg base CX0 45 "rule_for" ["floor","dancer","call"] [] (spW K 3 ir):=T.aav.dN T.mgA pN i8 λhB hr hx hp=>(ah (dJ hp (cm hr) (vn hB.symm (by rfl) T.je (va 2)) (sg hB.symm (cm hr) (cM (gN 3 i8.nd) (cM (gN 4 i8.nd) mG)) rfl (eG (eG ur)) kP) (show PSs _ _ (loS _ K67.dC)from(ak (aZ (fG (wB rT (w_all (cm hr) hB.symm) T.ajo boot_all (aa (dZ (ts:=["test"]) ⟨rfl,rfl,rfl,rfl,rfl⟩ (cm hr) rfl (bp (by decide)) (eQ hB.symm (wx hB (va 4) aq)) (λ_ _ _ _=>gN 0) (λ_ _ _ _=>fH) λ_ _ _ _=>cl hB hr (afZ T) (aa (va 1) (aa (va 2) (aa (va 0) ai)))) ai))) (ak (ar (va 3))) aw)))) (ak (ar cw)))
theorem vR:Cal P w K mg base (CXX P w) 46 "steps_of" ["floor","dancer","call","some"] [] (spX K 4 dg):=T.aau.dX T.mgA fK nj λhB hr hx hp=>ah (aZ (PW.pt (mD (bg di iY (va 3) cw (aT _)) (kg (bg dY (kh hB.symm hr.units) (va 1) (va 3) (by rfl))))) (ak (ar (bY ai))) aw) (ah (wS 4 nj.nd (cl hB hr (vS T) (aa (va 0) (aa (va 1) (aa (va 2) ai))))) (ah (aZ (bg rS w_is (va 4) cw (aT _)) (ak (rI hB hr hx (cm hr) T.acT T.aca T.afI (rh T) T.wM (aa (va 1) ai))) aw) (ak (ar (wx hB (wx hB (va 2) (va 4)) aq)))))
theorem nQ:Cal P w K mg base CX0 1 "is_whole" ["thing"] [] (spW K 1 fQ):=T.aay.dN T.mgA ia vA λhB hr hx hp=>ak (ar (mH (wB cH (f9 hB.symm) T.cb ato (aa (va 0) (aa (wty T.apH boot_int) ai))) (pK (aha (wB cH (f9 hB.symm) T.cb ato (aa (va 0) (aa (wty T.amj boot_bool) ai)))))))
theorem nR:Cal P w K mg base CX0 2 "is_place" ["thing"] [] (spW K 1 fU):=T.aaA.dN T.mgA kq vC λhB hr hx hp=>ak (ar (mH (cl hB hr (nQ T) (aa (va 0) ai)) (pK (xI jm jm akk akk (si ff sk (wki hB T.qg)) (va 0) (wki hB T.qg)))))
theorem tX:Cal P w K mg base CX0 2 "is_facing" ["thing"] [] (spW K 1 gu):=T.w9.dN T.mgA i3 sV λhB hr hx hp=>ak (ar (mH (cl hB hr (nQ T) (aa (va 0) ai)) (pK (xI jm lb akk w_lt aq (va 0) (wB aV (eO hB.symm) T.eF asb (aa (wk hB T.acR ab7 (abh T)) ai))))))
theorem vV:Cal P w K mg base CX0 3 "is_stand" ["thing"] [] (spW K 1 fR):=T.aaz.dN T.mgA ko vB λhB hr hx hp=>ah (aZ (PW.pt (sd (iI (fG (wB cH (f9 hB.symm) T.cb ato (aa (va 0) (aa (wty T.nY avn) ai))))) (mC (wn2 hB hr.units (wB aV (eO hB.symm) T.eF asb (aa (va 0) ai)) aq)))) (ak (ar vr)) aw) (ak (ar (mH (cl hB hr (nR T) (aa (wx hB (va 0) aq) ai)) (mH (cl hB hr (nR T) (aa (wx hB (va 0) aq) ai)) (pK (cl hB hr (tX T) (aa (wx hB (va 0) aq) ai)))))))
theorem z5:Cal P w K mg base (CXX P w) 41 "kept_in" ["told"] [] (spX K 1 hV):=T.ad9.dX T.mgA jB kB λhB hr hx hp=>(ah (dJ hp (cm hr) (vn hB.symm (by rfl) T.je (va 0)) (sg hB.symm (cm hr) (cM (gN 1 kB.nd) (cM (gN 2 kB.nd) mG)) rfl (eG (eG ur)) kP) (show PSs _ _ (loS _ K67.cf)from(ak (aZ (iI (fG (wB rT (w_all (cm hr) hB.symm) T.ajo boot_all (aa (dZ (ts:=["stand"]) ⟨rfl,rfl,rfl,rfl,rfl⟩ (cm hr) rfl (bp (by decide)) (eQ hB.symm (ae9 (anI hB.symm) (va 2) (mF aq) vm)) (λ_ _ _ _=>gN 0) (λ_ _ _ _=>fH) λ_ _ _ _=>cl hB hr (vV T) (aa (va 0) ai)) ai)))) (ak (rI hB hr hx (cm hr) T.amm T.alE T.alD (vW T) T.ajT (aa (va 1) ai))) aw)))) (ak (ar (va 0))))
theorem nP:Cal P w K mg base CX0 2 "stand_behind" ["stand","step"] [] (spW K 2 cA):=T.pB.dN T.mgA dr ez λhB hr hx hp=>ah (aZ (we2 hB hr.units (wx hB (va 1) aq) aF) (ak (ar (bY (aa (wx hB (va 0) aq) (aa (wx hB (va 0) aq) (aa (cl hB hr (gI T) (aa (wx hB (va 0) aq) (aa (wx hB (va 1) aq) ai))) ai)))))) aw) (ah (wS 2 ez.nd (gx hB T.nZ T.m3 (mK T) (wx hB (va 1) aq))) (ah (wS 3 ez.nd (cl hB hr (g6 T) (aa (va 0) (aa (aM dR w_mul (wx hB (va 2) aq) (wx hB (va 1) aq)) (aa (aM dR w_mul (wx hB (va 2) aq) (wx hB (va 1) aq)) ai))))) (ak (ar (bY (aa (wx hB (va 3) aq) (aa (wx hB (va 3) aq) (aa (wx hB (va 0) aq) ai))))))))
theorem acB:Cal P w K mg base CX0 41 "way_of" ["stand","steps"] [] (spW K 2 iq):=T.agL.dN T.mgA ma nh λhB hr hx hp=>(ah (mE (i:=2) nh.nd rfl (Or.inl rfl) (xF (aa (va 0) ai))) (ah (dJ hp (cm hr) (eQ hB.symm (va 1)) (gN 3 nh.nd) (show PSs _ _ (loS _ K67.dU)from(ak (aZ (wn2 hB hr.units (wx hB (va 3) aq) aF) (ak (aa6 hB.symm (fu (o6 asQ as6 as7 g9 (pv 2) (bV (ahb (i:=2) (cl hB hr (nP T) (aa (wx hB (va 2) (si ff sk aq)) (aa (va 3) ai)))) eW))))) aw)))) (ak (sf (i:=2) (ar (va 2))))))
theorem ajh:Cal P w K mg base (CXX P w) 47 "ways" ["floor","call","some"] [.none] (spX K 3 uy):=T.ani.cal (ps:=["floor","call","some"]) (ds:=[.none]) T.mgA (λ_ _ _ _ _ _ _ c b=>ud3 (λ_ _ _=>⟨_,rfl,rfl⟩) c (by simpa using b)) (λ_ _ _ _ _ _ _ c b=>ud2 (λ_ _=>⟨_,rfl,rfl⟩) c (by simpa using b)) λ_ _ _ d=>mj xR d abR rfl rfl rfl (by decide) λe A a s H E B hB hr hx hp=>(ah (wS 3 abR.nd (afb rfl rfl hB.symm hx (ts:=["dancer"]) ⟨rfl,rfl,rfl,rfl,rfl⟩ (cm hr) rfl (bp (by decide)) (gO (by rfl) T.eE (wki hB T.jX)) (λ_ _ _ _ _ B hB hx=>gN 0) (λ_ _ _ _ _ B hB hx=>fH) λ_ _ _ _ _ B hB hx=>clX hB hr hx (vR T) (aa (va 1) (aa (va 0) (aa (va 2) (aa (va 3) ai)))))) (ak (ar (clX hB hr hx (z5 T) (aa (dZ (ts:=["dancer"]) ⟨rfl,rfl,rfl,rfl,rfl⟩ (cm hr) rfl (bp (by decide)) (gO (by rfl) T.eE (wki hB T.jX)) (λ_ _ _ _=>gN 0) (λ_ _ _ _=>fH) λ_ _ _ _=>cl hB hr (acB T) (aa (wx hB (va 1) (va 0)) (aa (wx hB (va 4) (va 0)) ai))) ai)))))
theorem nU:Cal P w K mg base (CXX P w) 48 "danced" ["floor","call","some"] [.none] (spX K 3 cC):=T.agN.cal (ps:=["floor","call","some"]) (ds:=[.none]) T.mgA (λ_ _ _ _ _ _ _ c b=>ud3 (λ_ _ _=>⟨_,rfl,rfl⟩) c (by simpa using b)) (λ_ _ _ _ _ _ _ c b=>ud2 (λ_ _=>⟨_,rfl,rfl⟩) c (by simpa using b)) λ_ _ _ e=>mj jC e abS rfl rfl rfl (by decide) λd A a s H E B hB hr hx hp=>(ak (ar (clX hB hr hx (vY T) (aa (dZ (ts:=["way"]) ⟨rfl,rfl,rfl,rfl,rfl⟩ (cm hr) rfl (bp (by decide)) (eQ hB.symm (clX hB hr hx (ajh T) (aa (va 0) (aa (va 1) (aa (va 2) ai))))) (λ_ _ _ _=>gN 0) (λ_ _ _ _=>fH) λ_ _ _ _=>wx hB (va 0) (si ff sk aq)) ai))))
theorem ri:aaS P w K mg base 41 bz fm_Book_call "call" ["self","name"] (spO K 2 bD):=rl ⟨T.y1_Book_call,T.y2_Book_call,T.y3_Book_call⟩ T.uu (λ_ _ _ _ _ _ c e=>aaK (λ_ _=>rfl) c e) λf d=>ajW m5 oh d sW rfl rfl rfl (by decide) λb A a s H E B hB hr hx hp=>ae2 (aZ (PW.pt (sd (iI (fG (wB cH (f9 hB.symm) T.cb ato (aa (va 1) (aa (wty T.af6 boot_str) ai))))) (mC (bg xg (afg hB.symm hr.units) (va 1) (flI hB T.qv (iy T) T.wc (va 0)) (by rfl))))) (ak eP) aw) (aif hB.symm (by rfl) T.yA boot_list (wxD hB (flI hB T.qv (iy T) T.wc (va 0)) (va 1)))
theorem g7:aaS P w K mg base 41 bz fm_Book_call "call" ["self","name"] (spX K 2 bD):=aaS.x (ri T)
theorem jU:Cal P w K mg base CX0 49 "_law_behind" ["_law_book","_law_floor","_law_name"] [] (spW K 3 cK):=T.uT.dN T.mgA eS dQ λhB hr hx hp=>(ah (wS 3 dQ.nd cw) (ah (ag6 (tb:=K67.dq) (th:=K67.fh) hB.symm rfl rfl (by rfl) T.fc (λb d h=>T.xs.ex b d _ _ h T.uK) (λ_ _ B hB hx hp=>(ak (wS 3 dQ.nd (clD (dws:=[.non]) (dvs:=[.non]) hB hr hx (nU T) (.cons rfl .nil) λ_=>by simp[RWs,RW] (aa (va 1) (aa (meI hB hr hx T.qv (iy T) (g7 T) (va 0) (aa (va 2) ai) λa ws z=>by rw[(aH dE) a ws z]) ai)) λa ws z=>by rw[(aH (aH dE)) a ws z];rfl)))) λc B hB hx=>have hr:=hr.sui (v:=some (.ref c)) (by decide);ak (wS 3 dQ.nd cw)) (ak (ar (va 3)))))
theorem nM:Cal P w K mg base CX0 1 "turned_stand" ["stand"] [] (spW K 1 dv):=T.pA.dN T.mgA iJ ni λhB hr hx hp=>ak (ar (bY (aa (si ff sk (wx hB (va 0) aq)) (aa (wx hB (va 0) aq) (aa (aM br w_mod (aM aI (w_add hB.symm) (wx hB (va 0) aq) aq) (wki hB T.ij)) ai)))))
theorem nN:Cal P w K mg base CX0 41 "turned" ["floor","quarters"] [] (spW K 2 dw):=T.agM.dN T.mgA qJ jE λhB hr hx hp=>(ah (wS 2 jE.nd (va 0)) (ah (dJ hp (cm hr) (gO (by rfl) T.eE (aM br w_mod (va 1) (wki hB T.ij))) (gN 3 jE.nd) (show PSs _ _ (loS _ K67.il)from(ak (wS 2 jE.nd (wT iz (qF hB.symm) T.nY avn (aa (dZ (ts:=["stand"]) ⟨rfl,rfl,rfl,rfl,rfl⟩ (cm hr) rfl (bp (by decide)) (eQ hB.symm (va 2)) (λ_ _ _ _=>gN 0) (λ_ _ _ _=>fH) λ_ _ _ _=>cl hB hr (nM T) (aa (va 0) ai)) ai)))))) (ak (ar (va 2)))))
theorem tU:Cal P w K mg base CX0 50 "_law_start" ["_law_book","_law_names_here","_law_script"] [] (spW K 3 gq):=T.w5.dN T.mgA i1 dz λhB hr hx hp=>ah (wS 3 dz.nd (wk hB T.yB yb (xM T))) (ah (dJ hp (cm hr) (eQ hB.symm (ae9 (anI hB.symm) (va 2) (mF aq) (mF aq))) (gN 4 dz.nd) (show PSs _ _ (loS _ K67.cQ)from ah (wS 5 dz.nd (cl hB hr (jU T) (aa (va 0) (aa (va 3) (aa (wx hB (va 1) (aM br w_mod (va 4) (wB aV (eO hB.symm) T.eF asb (aa (va 1) ai)))) ai))))) (ak (aZ (bg di iY (va 5) cw (aT _)) (ak (wS 3 dz.nd (va 5))) aw)))) (ak (ar (cl hB hr (nN T) (aa (va 3) (aa (aM br w_mod (cl hB hr (fv T) (aa (va 2) (aa aq ai))) aq) ai))))))
theorem iN:Cal P w K mg base CX0 42 "_law_is_home" ["_law_floor"] [] (spW K 1 cU):=T.rQ.dN T.mgA gc oY λhB hr hx hp=>(ak (ar (cN lg (akl hB.symm hr.units) (va 0) (dZ (ts:=["_law_k"]) ⟨rfl,rfl,rfl,rfl,rfl⟩ (cm hr) rfl (bp (by decide)) (gO (by rfl) T.eE aq) (λ_ _ _ _=>gN 0) (λ_ _ _ _=>fH) λ_ _ _ _=>cl hB hr (nN T) (aa (wk hB T.yB yb (xM T)) (aa (va 0) ai))) (by rfl))))
theorem l3:Cal P w K mg base CX0 50 "_law_first_way" ["_law_book","_law_floor","_law_names_here","_law_length"] [] (spW K 4 ck):=T.oM.dN T.mgA eu aO λhB hr hx hp=>(ah (wS 4 aO.nd (dy (aa (bY (aa (dy ai) (aa (va 1) ai))) ai))) (ah (dJ hp (cm hr) (gO (by rfl) T.eE (aM aI (w_add hB.symm) (va 3) aq)) (gN 5 aO.nd) (show PSs _ _ (loS _ K67.aR)from(ah (mE (i:=6) aO.nd rfl (Or.inl rfl) (xF ai)) (ah (dJ hp (cm hr) (eQ hB.symm (va 4)) (sg hB.symm (cm hr) (cM (gN 7 aO.nd) (cM (gN 8 aO.nd) mG)) rfl (eG (eG ur)) kP) (show PSs _ _ (loS _ K67.aC)from ah (aZ (fG (cl hB hr (iN T) (aa (va 8) ai))) (ak (ar (va 7))) aw) (ak (dJ hp (cm hr) (eQ hB.symm (va 2)) (gN 9 aO.nd) (show PSs _ _ (loS _ K67.aK)from ah (wS 10 aO.nd (cl hB hr (jU T) (aa (va 0) (aa (va 8) (aa (va 9) ai))))) (ak (aZ (bg di iY (va 10) cw (aT _)) (ak (aa6 hB.symm (fu (o6 asQ as6 as7 g9 (pv 6) (bV (bY (aa (aM aI (w_add hB.symm) (va 7) (dy (aa (va 9) ai))) (aa (va 10) ai))) eW))))) aw))))))) (ak (sf (i:=6) (wS 4 aO.nd (va 6)))))))) (ak (ar cw))))
theorem vX:Cal P w K mg base CX0 42 "form" ["floor"] [] (spW K 1 gJ):=T.ank.dN T.mgA abu aiP λhB hr hx hp=>(ak (ar (wB aep (ak3 (cm hr) hB.symm hr.units) T.apF boot_min (aa (dZ (ts:=["quarters"]) ⟨rfl,rfl,rfl,rfl,rfl⟩ (cm hr) rfl (bp (by decide)) (gO (by rfl) T.eE (wki hB T.ij)) (λ_ _ _ _=>gN 0) (λ_ _ _ _=>fH) λ_ _ _ _=>cl hB hr (nN T) (aa (va 1) (aa (va 0) ai))) ai))))
theorem acC:anB P w K mg base 41 eK ["self","goal","most"] (anN P w K):=yN T.adD (λ_ _ _ _ _ _ e c=>aaJ (λ_ _ _=>rfl) e c) λg f=>agp f abT rfl λd A a s H E X b=>by subst b;exact⟨tK (pv 0) (pv 1) rfl,tK (pv 0) (pv 2) rfl,tK (pv 0) (acr eW) rfl,tK (pv 0) afR rfl⟩
theorem jV:aaS P w K mg base 43 aD fm_Search_lay "lay" ["self","floor","depth","parent","name"] (spM (srM P w) K 5 bR):=rl ⟨T.y1_Search_lay,T.y2_Search_lay,T.y3_Search_lay⟩ T.rH (λ_ _ _ _ _ _ c e=>akc (λ_ _ _ _ _=>rfl) c e) λf d=>adX eT d jI rfl rfl rfl (by decide) λb A a s H E B hB hr hx hp=>(lu (iV hB hx λB hB hx=>wS 5 jI.nd (cl hB hr (vX T) (aa (va 1) ai))) (lu (ah3 (i:=5) hB (yO T.bx (aS T) T.fw) (acd (al7 (un2 hr.units)) (pv 5) (nJ (pv 0) rfl) (by rfl)) (mz (iV hB hx λB hB hx=>aa1)) aaW) (lu (akQ (j:=0) (bg aet ara (wB aV (eO hB.symm) T.eF asb (aa (iX (n:=2) hB.symm T.bx (aS T) T.bj (by decide) rfl (va 0)) ai)) (iX (n:=1) hB.symm T.bx (aS T) T.iO (by decide) rfl (va 0)) (aT _)) (mz (iV hB hx λB hB hx=>ae5 hB.symm hx (cm hr) (by rfl) T.t7 T.aaX T.uJ rfl (aa aF ai))) aaW) (lu (ah1 hB (yO T.bx (aS T) T.fw) (ai6 (un2 hr.units) (nJ (pv 0) rfl) (pv 5) alX)) (mz (ah5 hB (yO T.bx (aS T) T.bj) λB hB=>fu (o6 asQ as6 as7 g9 (nJ (pv 0) rfl) (bV (bY (aa (va 5) (aa (va 2) (aa (va 3) (aa (va 4) ai))))) eW))))))))
theorem fO:aaS P w K mg base 41 aD fm_Search_at_goal "at_goal" ["self"] (spX K 1 aG):=rl ⟨T.y1_Search_at_goal,T.y2_Search_at_goal,T.y3_Search_at_goal⟩ T.kS (λ_ _ _ _ _ _ c e=>bind1 (λ_=>rfl) c e) λf d=>adW dF d kC rfl rfl rfl (by decide) λb A a s H E B hB hr hx hp=>(ak (ar (cN calm_eq (w_eq hB.symm hr.units) (wx hB (wx hB (iX (n:=2) hB.symm T.bx (aS T) T.bj (by decide) rfl (va 0)) (si ff sk aq)) aq) (iX (n:=0) hB.symm T.bx (aS T) T.iP (by decide) rfl (va 0)) (aT _))))
theorem kJ:aaS P w K mg base 49 aD fm_Search_take_up "take_up" ["self","place","calls"] (spM (srM P w) K 3 bf):=rl ⟨T.y1_Search_take_up,T.y2_Search_take_up,T.y3_Search_take_up⟩ T.kR (λ_ _ _ _ _ _ f k=>aaJ (λ_ _ _=>rfl) f k) λm g=>adX gD g cq rfl rfl rfl (by decide) λe A c s H E B hB hr hx hp=>(lu (akP (j:=0) (i:=3) cq.nd (wx hB (iX (n:=2) hB.symm T.bx (aS T) T.bj (by decide) rfl (va 0)) (va 1))) (mz (ah4 hB hp (cm hr) hx (pv 2) (vO cq.nd rfl (Or.inl rfl)) λB hB hx=>(show PSs _ _ (loX _ _ K67.aA)from(lu (iV hB hx λB hB hx=>(ah8 (tb:=K67.aN) (th:=K67.bW) hB.symm rfl rfl ⟨by rfl,T.acT⟩ ⟨by rfl,T.amm⟩ ⟨by rfl,T.ahA⟩ (λd a h=>⟨T.xs.ex d a _ _ h T.wM,T.xs.ex d a _ _ h T.ajT,T.xs.ex d a _ _ h T.adP⟩) (λ_ _ B hB hx hp=>(ak (wS 5 cq.nd (clD (dws:=[.non]) (dvs:=[.non]) hB hr hx (nU T) (.cons rfl .nil) λ_=>by simp[RWs,RW] (aa (wx hB (va 3) aq) (aa (wx hB (va 2) (va 4)) ai)) λb ws z=>by rw[(aH (aH dE)) b ws z];rfl)))) λl B hB hx=>ak vl)) (lu (xm hB hr hx T.bx (aS T) (jV T) (pv 0) (λB hB=>aa (va 5) (aa (aM aI (w_add hB.symm) (wx hB (va 3) aq) aq) (aa (va 1) (aa (va 4) ai)))) λb ws z=>by rw[(aH (aH (aH (aH dE)))) b ws z]) (mz (akQ (j:=0) (fG (aqP hB hr hx T.bx (aS T) (fO T) (va 0))) (mz (iV hB hx λB hB hx=>aa1)) aaW))))))))
theorem jS:Cal P w K mg base (CXX P w) 50 "rows_up_to" ["goal","book","floor","names","length","most"] [] (spX K 6 bu):=T.uP.dX T.mgA eR cp λhB hr hx hp=>(ah (aa4 (i:=6) cp.nd rfl (Or.inl rfl)) (ah (dJ hp (cm hr) (eQ hB.symm (va 3)) (gN 7 cp.nd) (show PSs _ _ (loS _ K67.bB)from(ak (aa3 (i:=6) (un1 hr.units) (pv 6) (va 7) (meI hB hr hx T.qv (iy T) (g7 T) (va 1) (aa (va 7) ai) λa ws z=>by rw[(aH dE) a ws z]))))) (ae3 (i:=6) (wth (j:=8) hB hr hx cp.nd rfl (Or.inl rfl) (acO T) T.bx ⟨aS T,T.iP,T.iO,T.bj,T.fw⟩ (acC T) T.agb (aa (va 0) (aa (va 5) ai)) λB hB hx=>(vk (xm hB hr hx T.bx (aS T) (jV T) (pv 8) (λB hB=>aa (va 2) (aa aq (aa cw (aa cw ai)))) λa ws z=>by rw[(aH (aH (aH (aH dE)))) a ws z]) (vk (iV hB hx λB hB hx=>wS 9 cp.nd aq) (vk (aeX (j:=8) hp (show PT _ _ (loT _ K67.aE)from(PW.pt (mD (bg lb w_lt (va 9) (wB aV (eO hB.symm) T.eF asb (aa (iX (n:=2) hB.symm T.bx (aS T) T.bj (by decide) rfl (va 8)) ai)) (aT _)) (mD (bg lb w_lt (wx hB (wx hB (iX (n:=2) hB.symm T.bx (aS T) T.bj (by decide) rfl (va 8)) (va 9)) aq) (va 4) (aT _)) (kg (iI (fG (aqP hB hr hx T.bx (aS T) (fO T) (va 8))))))))) (show PSs _ _ (loX _ _ K67.bA)from(lu (xm hB hr hx T.bx (aS T) (kJ T) (pv 8) (λB hB=>aa (va 9) (aa (va 6) ai)) λa ws z=>by rw[(aH (aH dE)) a ws z]) (mz (iV hB hx λB hB hx=>(aie (i:=9) cp.nd aq)))))) (ah0 hB (yO T.bx (aS T) T.bj) (acf (nJ (pv 8) rfl))))))))))
theorem vU:Cal P w K mg base CX0 41 "names_to" ["rows","place"] [] (spW K 2 iu):=T.aax.dN T.mgA km i9 λhB hr hx hp=>(ah (mE (i:=2) i9.nd rfl (Or.inl rfl) (xF ai)) (ah (ae4 hp (show PT _ _ (loT _ K67.cJ)from bg di iY (wx hB (wx hB (va 0) (va 1)) aq) cw (aT _)) (show PSs _ _ (loS _ K67.dD)from ah (aa6 hB.symm (fu (o6 asQ as6 as7 g9 (pv 2) (bV (wx hB (wx hB (va 0) (va 1)) aq) eW)))) (ak (wS 1 i9.nd (wx hB (wx hB (va 0) (va 1)) aq))))) (ak (sf (i:=2) (ar (ail hB.symm (cm hr) (by rfl) T.yA (by rfl) T.aae (va 2)))))))
theorem gj:Cal P w K mg base (CXX P w) 51 "way_home" ["book","floor","names","length","most"] [.int 2000 dB] (spX K 5 bc):=T.aat.cal (ps:=["book","floor","names","length","most"]) (ds:=[.int 2000 dB]) T.mgA (λ_ _ _ _ _ _ _ c b=>ud5 (λ_ _ _ _ _=>⟨_,rfl,rfl⟩) c (by simpa using b)) (λ_ _ _ _ _ _ _ c b=>ud4 (λ_ _ _ _=>⟨_,rfl,rfl⟩) c (by simpa using b)) λ_ _ _ e=>mj fJ e i7 rfl rfl rfl (by decide) λd A a s H E B hB hr hx hp=>ah (wS 5 i7.nd (cl hB hr (vX T) (aa (wk hB T.yB yb (xM T)) ai))) (ah (wS 6 i7.nd (clX hB hr hx (jS T) (aa (va 5) (aa (va 0) (aa (va 1) (aa (va 2) (aa (va 3) (aa (va 4) ai)))))))) (ak (ar (aim (we2 hB hr.units (wx hB (wx hB (va 6) (si ff sk aq)) aq) (va 5)) (cl hB hr (vU T) (aa (va 6) (aa (aM iA w_sub (wB aV (eO hB.symm) T.eF asb (aa (va 6) ai)) aq) ai))) cw))))
theorem z3:Cal P w K mg base (CXX P w) 51 "reached" ["book","floor","names","length","most"] [.int 2000 eA] (spX K 5 hQ):=T.ad7.cal (ps:=["book","floor","names","length","most"]) (ds:=[.int 2000 eA]) T.mgA (λ_ _ _ _ _ _ _ c b=>ud5 (λ_ _ _ _ _=>⟨_,rfl,rfl⟩) c (by simpa using b)) (λ_ _ _ _ _ _ _ c b=>ud4 (λ_ _ _ _=>⟨_,rfl,rfl⟩) c (by simpa using b)) λ_ _ _ e=>mj mV e zK rfl rfl rfl (by decide) λd A a s H E B hB hr hx hp=>ak (ar (clX hB hr hx (jS T) (aa cw (aa (va 0) (aa (va 1) (aa (va 2) (aa (va 3) (aa (va 4) ai))))))))
theorem lZ:Cal P w K mg base (CXX P w) 52 "_law_many_rows" ["_law_book","_law_floor","_law_names_here","_law_length","_law_due"] [] (spX K 5 cj):=T.oK.dX T.mgA et bt λhB hr hx hp=>(ah (ah9 (i:=5) bt.nd rfl rfl (by rfl) (ts:=["_law_row"]) ⟨rfl,rfl,rfl,rfl,rfl⟩ (cm hr) rfl (bp (by decide)) (eQ hB.symm (clD (dws:=[.int 2000]) (dvs:=[.int 2000]) hB hr hx (z3 T) (.cons ⟨_,rfl⟩ .nil) λ_=>by simp[RWs,RW] (aa (va 0) (aa (va 1) (aa (va 2) (aa (va 3) ai)))) λa ws z=>by rw[(aH (aH (aH (aH dE)))) a ws z];rfl)) (λ_ _ _ _=>gN 0) (λ_ _ _ _=>fH) λ_ _ _ _=>wx hB (va 0) aq) (ah (wS 6 bt.nd (wB aV (eO hB.symm) T.eF asb (aa (va 5) ai))) (ah (aZ (bg di iY (va 4) cw (aT _)) (ak (wS 6 bt.nd (aM aI (w_add hB.symm) (ae6 hB.symm hr.units (va 5) (aa (cl hB hr (vX T) (aa (wk hB T.yB yb (xM T)) ai)) ai)) aq))) aw) (ah (aZ (wn2 hB hr.units (clX hB hr hx (gj T) (aa (va 0) (aa (va 1) (aa (va 2) (aa (va 3) (aa (va 6) ai)))))) (va 4)) (ak (ar vr)) aw) (ah (wS 7 bt.nd (cN calm_eq (w_eq hB.symm hr.units) (va 6) aq (aT _))) (ah (aZ (bg jn akm (va 6) aq (aT _)) (ak (ag6 (tb:=K67.bJ) (th:=K67.bI) hB.symm rfl rfl (by rfl) T.t7 (λb d h=>T.xs.ex b d _ _ h T.uJ) (λ_ _ B hB hx hp=>ak (aid (clX hB hr hx (gj T) (aa (va 0) (aa (va 1) (aa (va 2) (aa (va 3) (aa (aM iA w_sub (va 6) aq) ai)))))))) λc B hB hx=>have hr:=hr.sui (v:=some (.ref c)) (by decide);ak (wS 7 bt.nd vr))) aw) (ak (ar (va 7)))))))))
theorem amb{f:Addr}{c:FuncData}(d:Fun K "law" "law" aiQ f c):FnOk P w K mg base CX0 53 f c ["_law_script"] (spW K 1 agC):=wN aiy d eV rfl rfl rfl (by decide) λe A b s H E B hB hr hx hp=>(ah (wS 1 eV.nd (mkI hB hr hx (ajq T) (iy T) T.wc T.qv (ajj T) T.amo (aa (cl0 hB hr (lN T)) ai))) (ah (wS 2 eV.nd (aM br w_mod (aM dR w_mul (cl hB hr (fv T) (aa (va 0) (aa aq ai))) aq) aq)) (ah (wS 3 eV.nd (cl hB hr (tW T) (aa (aM fg w_div (va 2) aq) (aa (aM aI (w_add hB.symm) aq (aM br w_mod (va 2) aq)) ai)))) (ah (wS 4 eV.nd (cl hB hr (fv T) (aa (va 0) (aa aq ai)))) (ah (wS 5 eV.nd (aM br w_mod (va 4) aq)) (ah (aZ (we2 hB hr.units (aM br w_mod (aM fg w_div (va 4) aq) aq) aq) (ah (wS 3 eV.nd (ae9 (anI hB.symm) (va 3) vm (mF (aM aI (w_add hB.symm) aq (aM br w_mod (aM fg w_div (va 2) aq) aq))))) (ak (wS 5 eV.nd (aM aI (w_add hB.symm) aq (aM br w_mod (aM fg w_div (va 4) aq) (wx hB (dy (aa aq (aa aq ai))) (aM iA w_sub (wB aV (eO hB.symm) T.eF asb (aa (va 3) ai)) aq))))))) aw) (ah (wS 6 eV.nd (cl hB hr (tU T) (aa (va 1) (aa (va 3) (aa (va 0) ai))))) (ah (wS 7 eV.nd (cl hB hr (l3 T) (aa (va 1) (aa (va 6) (aa (va 3) (aa (va 5) ai)))))) (ah (wS 8 eV.nd (wT aer (ak5 hB.symm) T.yA boot_list (aa (va 3) ai))) (ah (wS 9 eV.nd (clD (dws:=[.int 2000]) (dvs:=[.int 2000]) hB hr hx (gj T) (.cons ⟨_,rfl⟩ .nil) λ_=>by simp[RWs,RW] (aa (va 1) (aa (va 6) (aa (va 8) (aa (va 5) ai)))) λa ws z=>by rw[(aH (aH (aH (aH dE)))) a ws z];rfl)) (ah (aZ (PW.pt (sd (wn2 hB hr.units (va 9) (va 7)) (sd (wn2 hB hr.units (va 8) (va 3)) (mC (PW.pt (mD (bg di iY (va 7) cw (aT _)) (kg (iI (fG (wB cH (f9 hB.symm) T.cb ato (aa (va 9) (aa (wty T.yA boot_list) ai)))))))))))) (ak (ar vr)) aw) (ah (aZ (iI (fG (clX hB hr hx (lZ T) (aa (va 1) (aa (va 6) (aa (va 3) (aa (va 5) (aa (va 7) ai)))))))) (ak (ar vr)) aw) (ah (aZ (bg rS w_is (va 9) cw (aT _)) (ak (ar vr)) aw) (ah (dJ hp (cm hr) (eQ hB.symm (va 9)) (gN 10 eV.nd) (show PSs _ _ (loS _ K67.kL)from(ak (wS 6 eV.nd (clD (dws:=[.non]) (dvs:=[.non]) hB hr hx (nU T) (.cons rfl .nil) λ_=>by simp[RWs,RW] (aa (va 6) (aa (meI hB hr hx T.qv (iy T) (g7 T) (va 1) (aa (va 10) ai) λa ws z=>by rw[(aH dE) a ws z]) ai)) λa ws z=>by rw[(aH (aH dE)) a ws z];rfl))))) (ak (ar (mH (cl hB hr (iN T) (aa (va 6) ai)) (pK (cN calm_eq (w_eq hB.symm hr.units) (clD (dws:=[.int 2000]) (dvs:=[.int 2000]) hB hr hx (gj T) (.cons ⟨_,rfl⟩ .nil) λ_=>by simp[RWs,RW] (aa (va 1) (aa (va 6) (aa (va 3) (aa aq ai)))) λa ws z=>by rw[(aH (aH (aH (aH dE)))) a ws z];rfl) (dy ai) (aT _))))))))))))))))))))
theorem all_mk(a:∀e:List Int,e.length<=63->agC [.lst (e.map .int)]=.ok (.bl true)){l:W.OpenLaw}{c:Addr}(b:mg "law"=some (.ref c)):∃d:FuncData,(∀(s:Shared)(v:Value),BindsTo s d ⟨[v],[]⟩ [("_law_script",v)])/\∀base:Heap,K.In base->base.Ns mainGlobals mg->FnOk l.prog w K mg base CX0 53 c d ["_law_script"] (WS.abI K):=amA T.aqa T.mgA b (λ_ _ _ _ _ _ _=>rfl) (λ_ _ _ f=>amb T f) a
omit T
def walk{l:W.OpenLaw}{p:Program}{b:List Str}{j:(Str->Option Value)->Heap->Prop}{i:World->Heap->Prop}{d:DefRec}{K:Params->W.Frag}(o:l.most=some 63)(c:d.params.defaults=[])(v:∀(w:World)(h:Heap),i w h->(K w.params).In h)(F:∀(w:World)(mg:Str->Option Value)(e:Addr)(h:Heap),(K w.params).In h->h.Ns mainGlobals mg->mg d.name=some (.ref e)->∃g:FuncData,(∀(s:Shared)(u:Value),BindsTo s g ⟨[u],[]⟩ [("_law_script",u)])/\∀base:Heap,(K w.params).In base->base.Ns mainGlobals mg->FnOk l.prog w (K w.params) mg base CX0 53 e g ["_law_script"] (WS.abI (K w.params))):W.WalkO p b j i l.row.toRowW d [] λf q=>PySem.call f q:=L2.aiq (n:=63) (k:=53) (x:="_law_script") (CX:=λ_=>CX0) (sp:=λw=>WS.abI (K w.params)) o (by decide) c ⟨λ_=>rfl,by decide,by decide,rfl⟩ v F (λ_ _ a r t _ m=>⟨a,r,rfl,m,t,λ_=>rfl⟩) λ_ _ _ _ _ z=>z
end K67
open PySem PySem.W PyProof.Rows
set_option maxRecDepth 100000 in
set_option maxHeartbeats 0 in
theorem PySem.Challenge.cw_squarecall_k67_whole_way_home_holds : PySem.Challenge.rw_squarecall_k67_whole_way_home.Holds := by
 w_on;o_law;k_head;(case hw=>w_witness2)
 k_fill
 refine K67.walk (l:=PySem.Challenge.rw_squarecall_k67_whole_way_home) rfl rfl (λw h Y=>W.kIn_of Y) ?F
 case F =>
 intro w mg fa h KX G hmg
 refine' K67.all_mk ?T K67.agj hmg
 case T =>
  constructor<;>first|(exact WS.aqi (by k_is) (by k_is) (by k_is) (by k_is))|(exact WS.anw (by k_is) (by k_is) (by k_is) (by k_is) (by k_is))|(exact WS.alo (by k_is) (by repeat first|exact .nil|exact .cons rfl .nil|exact .cons ⟨_,rfl⟩ .nil|refine .cons rfl ?_|refine .cons ⟨_,rfl⟩ ?_) (by decide))|(exact WS.adK (tab:=[("FloorError",_),("NoCall",_),("NoName",_),("TooMany",_),("Blind",_),("Out",_),("Meet",_)]) (.head _) (by(refine WS.all_cons (WS.agD (by first|k_is|exact rfl) (by first|k_is|exact rfl) (by first|k_is|exact rfl) (by first|k_is|exact rfl) (by first|k_is|exact rfl) (by first|k_is|exact rfl)) ?_);(iterate 6 (refine WS.all_cons (WS.ajO (by first|k_is|exact rfl) (by first|k_is|exact rfl) (by first|k_is|exact rfl) (by first|k_is|exact rfl) (by first|k_is|exact rfl) (by first|k_is|exact rfl)) ?_));exact WS.all_nil) ((WS.all_cons (.inl (by simp)) (WS.all_cons (.inr (by k_is)) (WS.all_cons (.inl (by simp)) (WS.all_cons (.inl (by simp)) (WS.all_cons (.inr (by k_is)) (WS.all_cons (.inl (by simp)) (WS.all_cons (.inr (by k_is)) (WS.all_cons (.inr (by k_is)) (WS.all_cons (.inl (by simp)) (WS.all_cons (.inl (by simp)) (WS.all_cons (.inl (by simp)) (WS.all_cons (.inr (by k_is)) WS.all_nil))))))))))))) (show (["FloorError","NoCall","NoName","TooMany","Blind","Out","Meet"]:List String).Nodup from by decide) (by decide) (by first|k_is|exact rfl) (by first|k_is|exact rfl))|(exact WS.amS (by k_is) (by k_is) (by k_is))|(exact WS.aml (by k_is) (by k_is) (by k_is))|(exact λ_ _=>W.mg_of KX G)|(refine W.mg_of KX G ?_;k_is)|(refine W.mg_none_of KX G ?_;k_is)|(exact⟨_,_,by k_is,by exact .cons ⟨⟨_,rfl⟩,rfl,⟨_,rfl⟩⟩ (.cons ⟨⟨_,rfl⟩,rfl,⟨_,rfl⟩⟩ (.cons ⟨⟨_,rfl⟩,rfl,⟨_,rfl⟩⟩ (.cons ⟨⟨_,rfl⟩,rfl,⟨_,rfl⟩⟩ (.nil))))⟩)|(exact⟨_,_,by k_is,by exact .cons ⟨⟨_,rfl⟩,rfl,rfl⟩ (.cons ⟨⟨_,rfl⟩,rfl,rfl⟩ (.cons ⟨⟨_,rfl⟩,rfl,rfl⟩ (.cons ⟨⟨_,rfl⟩,rfl,rfl⟩ (.nil))))⟩)|(refine⟨by decide,?_⟩;k_is)|(exact L2.vc.mk (by k_is) (by kernel_rfl))|(show W.findIn _ _ _=_;first|k_is|exact rfl)|(k_is)|(exact rfl)

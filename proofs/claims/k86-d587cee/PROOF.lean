import PyProof.Rows.All
import Wide.All
import OpenK.AllK
import Wide.FinOn
import Lean
import PyProof.EqAt
import PyProof.EqKinds
import PyProof.TupleCall
import PyProof.ExcStr
import PyProof.ExcStrAll.ValueError
import KE.KTryMore
import PyProof.DictWalks
import PyProof.DictIter
import PySem.Str
import PyProof.StrLawsIn
import PyProof.Rows.StrNews2
import PyProof.Rows.StrLawsPart
import PyProof.Rows.StrJoin2
import PyProof.Rows.SortStr
import KE.KSortTup
import PyProof.Rows.Range3
import PyProof.StrLoop
import KE.KDictList
import KE.KDictSum
import KE.KIntText
import PyProof.TableCode
import PySem.Challenge.RW_squarecall_k86_rows_refused
set_option bootstrap.genMatcherCode false
set_option linter.all false
open PySem renaming wpAny_bind->ao3,wpAny_pure->ao7,wpAny_mono->apn,wpAny_field->apx,mem_of_lookup->apN,wpAny_holding->apO,wpAny_truthy_bool->apS,wpAny_call_entry->ap3,wpAny_Call_Name_kw->ap5,wpAny_callSpecial?_slot->aqa,wpAny_execs_nil->aqd,wpAny_passesOwn->aqe,wpAny_standAt->aqi,wpAny_call->aqm,sizeLine_eq->aqo,wpAny_setField->aqp,plainObj_wpAny_Assign_Attribute->aqs,wpAny_setField_rec->aqx,wpAny_newObj_type->aqC,codeAny_mono->aqE,wpAny_seqItems->aqF,call_meets->aqM,codeAny_call_builtin->aqN,wpAny_comprehension_free->aqW,typeIs_str->aq4,wpAny_pyIter_enum->aq8,strLen_append->arc,wpAny_loadName_local->arl,codeAny_builtin->arp,wpAny_isSubtype_exc->ary,wpAny_loadPart->arB,wpAny_tryCatch->arC,boot_len->arF,wpAny_letGo->arG,plainId_quiet->arN,wpAny_attempt->arO,wpAny_letOwnedTupleGo_enum->arP,wpAny_pyIter_list->arU,wpAny_loadPart_at->arV,codeAny_handlers_suite_as->arZ,wpAny_execs_cons->ar5,wpAny_lookBehind->ar6,pastItsLine_dict->ar7,concat_meets->asb,noFill_tuple_add->asd,wpAny_Try_except->asi,wpAny_updateSeq->aso,typeIs_none->ass,refuseLoop_ref->asu,wpAny_Name->asw
open PySem.Heap renaming get?_push_of_some->ao4,lt_size->ape,get?_push_size->apg,get?_update_other->apl,get?_update_self->apF,get?_none_of_le->apW,size_push->aq3
open List renaming getElem?_set_ne->ao5,getElem?_eq_some_iff->ao8,getElem?_set_self->apc,getElem?_eq_getElem->apf,length_cons->apj,mem_append_right->apm,mem_cons->apq,getElem?_append_left->apt,mem_cons_self->apu,length_map->apv,getElem?_append_right->apy,getElem?_map->apz,map_cons->apA,size_toArray->apB,append_nil->apE,mem_append_left->apH,drop_eq_getElem_cons->apI,lookup_cons->apL,getD_eq_getElem?_getD->apP,mem_cons_of_mem->apQ,length_append->apR,all_eq_true->apY,mem_singleton->apZ,getElem?_replicate->ap9,not_mem_nil->aqb,nodup_cons->aqf,length_replicate->aqg,mem_of_getElem?->aqn,drop_length->aqr,mem_append->aqu,pairwise_cons->aqy,drop_zero->aqH,length_take->aqK,extract_eq_drop_take'->aqQ,mem_map_of_mem->aqT,zip_cons_cons->aqX,mem_range->aq2,getElem?_cons_succ->aq6,all_cons->arb,length_singleton->arf,drop_eq_nil_iff->art,length_set->arw,filterMap_cons->arx,set_cons_succ->arJ,isEmpty_cons->arW,getLast?_eq_getElem?->ar3,getElem?_take_of_lt->asa,mem_map->ash,cons_ne_nil->asm,of_mem_zip->asn,length_nil->asp,map_append->asq,drop_take->asv
open Nat renaming le_refl->ao6,le_trans->apb,lt_of_lt_of_le->apd,ne_of_lt->api,zero_le->apC,ne_of_gt->apK,lt_irrefl->ap8,le_succ->aqz,lt_succ_self->aqJ,lt_of_lt_of_eq->aqV,lt_of_le_of_lt->aqZ,min_le_right->ard,le_of_lt->ark,lt_succ_of_lt->arT,ble_eq->ar1,le_of_eq->ar8,le_of_not_lt->ase,le_add_right->asl
open Ne renaming symm->aph
open Bool renaming and_eq_true->apk,false_ne_true->apo,and_eq_true_iff->apD,false_eq_true->ap6,eq_iff_iff->ap7,beq_eq_decide_eq->arj,or_eq_true->aru
open Option renaming map_eq_some_iff->apr,isSome_iff_exists->apT,bind_some->aqO
open Option.some renaming inj->aps
open PyProof.Rows renaming boot_isinstance->apw,formatField_str->apU,callWith_type1->apV,slot_tuple_getitem->aqt,boot_str->aq1,FormattedValue_plain->ara,callWith_builtin1->arn,boot_tuple->ar4,boot_range->asx
open PySem.F renaming plainAttrs_list->apG,excBase_ValueError->apX,slot_list_append->ap0,type_list_append->ap1,plain_min_loop->aqc,slot_NoneType_hash->aqh,slot_tuple_iterator_next->aqj,slot_str_split->aqA,plainAttrs_str->aqB,slot_enumerate_next->aqG,args_tuple_add_2->aqU,args_str_split_2->aq0,entry_tuple_add->aq5,entry_str_split->aq7,slot_tuple_add->aq9,slot_str_ascii_iterator_iter->arv,args_tuple_iterator_next_1->arD,entry_tuple_iterator_next->arI,slot_str_partition->arQ,slot_dict_getitem->arY,excStr_ValueError->ar0,entry_min_loop->asf
open PySem.W renaming kia_one->ap4,looks_clsIn->arM,callWith_K->ar9,methodCall_KW->asr
open Array renaming getElem?_eq_some_iff->aqk,toList_inj->aqP,length_toList->aqS,getElem?_toList->arh,toList_extract->ars,getElem?_setIfInBounds->arE,find?_toList->arH,getElem?_eq_getElem->ar2
open PySem.Calls renaming spliced_cons->aqv,evalArgs_plain->aro,Name_function_global->arL
open PySem.Obj renaming data_mapFields->aqw,isFreed_of_fields->ari
open PySem.PassesOwn renaming leaving->aqD
open Classical renaming choose_spec->aqI
open PySem.Code renaming quiet_builtin->aqY
open PySem.Around renaming under_plainId->arq
open PySem.Paired renaming length->arK
open PySem.Within renaming cons->arR
open PySem.Heap.Ns1 renaming of_empty->arS
open Nat.succ renaming inj->asj
def ao9:=@if_neg
def apa:=@if_pos
def apJ:=@decide_eq_false
def apM:=@beq_eq_false_iff_ne
def ap2:=@beq_iff_eq
def aql:=@of_decide_eq_true
def aqq:=@congrArg
def aqL:=@if_false
def aqR:=@if_true
def arz:=@ne_true_of_eq_false
def arA:=@decide_eq_true
def arX:=@decide_eq_true_eq
noncomputable section
set_option compiler.extract_closed false
set_option tactic.hygienic false
set_option autoImplicit true
set_option relaxedAutoImplicit true
def agz{p q r:Prop}{C:Prop}(h:p/\q/\r)(K:p->q->r->C):C:=let⟨h0,h1,h2⟩:=h;K h0 h1 h2
def alN{p q r s:Prop}{C:Prop}(h:p/\q/\r/\s)(K:p->q->r->s->C):C:=let⟨h0,h1,h2,h3⟩:=h;K h0 h1 h2 h3
def alM{p q r s t:Prop}{C:Prop}(h:p/\q/\r/\s/\t)(K:p->q->r->s->t->C):C:=let⟨h0,h1,h2,h3,h4⟩:=h;K h0 h1 h2 h3 h4
def eM{p q:α->Prop}{C:Prop}(h:∃a,p a/\q a)(K:∀a,p a->q a->C):C:=let⟨a,h0,h1⟩:=h;K a h0 h1
def jV{p q r:α->Prop}{C:Prop}(h:∃a,p a/\q a/\r a)(K:∀a,p a->q a->r a->C):C:=let⟨a,h0,h1,h2⟩:=h;K a h0 h1 h2
def dv{p q:α->β->Prop}{C:Prop}(h:∃a b,p a b/\q a b)(K:∀a b,p a b->q a b->C):C:=let⟨a,b,h0,h1⟩:=h;K a b h0 h1
def dI{p q:α->β->Prop}(a b)(h0:p a b)(h1:q a b):∃a b,p a b/\q a b:=⟨a,b,h0,h1⟩
def oC{p q r:α->β->Prop}{C:Prop}(h:∃a b,p a b/\q a b/\r a b)(K:∀a b,p a b->q a b->r a b->C):C:=let⟨a,b,h0,h1,h2⟩:=h;K a b h0 h1 h2
def iH{p q r:α->β->Prop}(a b)(h0:p a b)(h1:q a b)(h2:r a b):∃a b,p a b/\q a b/\r a b:=⟨a,b,h0,h1,h2⟩
def oE{p q r s:α->β->Prop}{C:Prop}(h:∃a b,p a b/\q a b/\r a b/\s a b)(K:∀a b,p a b->q a b->r a b->s a b->C):C:=let⟨a,b,h0,h1,h2,h3⟩:=h;K a b h0 h1 h2 h3
def afA{p q r s:α->β->Prop}(a b)(h0:p a b)(h1:q a b)(h2:r a b)(h3:s a b):∃a b,p a b/\q a b/\r a b/\s a b:=⟨a,b,h0,h1,h2,h3⟩
def oA{p q r s t:α->β->Prop}{C:Prop}(h:∃a b,p a b/\q a b/\r a b/\s a b/\t a b)(K:∀a b,p a b->q a b->r a b->s a b->t a b->C):C:=let⟨a,b,h0,h1,h2,h3,h4⟩:=h;K a b h0 h1 h2 h3 h4
def aah{p q r s t:α->β->Prop}(a b)(h0:p a b)(h1:q a b)(h2:r a b)(h3:s a b)(h4:t a b):∃a b,p a b/\q a b/\r a b/\s a b/\t a b:=⟨a,b,h0,h1,h2,h3,h4⟩
def afz{p q r s t u:α->β->Prop}{C:Prop}(h:∃a b,p a b/\q a b/\r a b/\s a b/\t a b/\u a b)(K:∀a b,p a b->q a b->r a b->s a b->t a b->u a b->C):C:=let⟨a,b,h0,h1,h2,h3,h4,h5⟩:=h;K a b h0 h1 h2 h3 h4 h5
def aif{p q r s t u:α->β->Prop}(a b)(h0:p a b)(h1:q a b)(h2:r a b)(h3:s a b)(h4:t a b)(h5:u a b):∃a b,p a b/\q a b/\r a b/\s a b/\t a b/\u a b:=⟨a,b,h0,h1,h2,h3,h4,h5⟩
def wN{p q:α->β->γ->Prop}{C:Prop}(h:∃a b c,p a b c/\q a b c)(K:∀a b c,p a b c->q a b c->C):C:=let⟨a,b,c,h0,h1⟩:=h;K a b c h0 h1
def adM{p q:α->β->γ->Prop}(a b c)(h0:p a b c)(h1:q a b c):∃a b c,p a b c/\q a b c:=⟨a,b,c,h0,h1⟩
def aag{p q r:α->β->γ->Prop}{C:Prop}(h:∃a b c,p a b c/\q a b c/\r a b c)(K:∀a b c,p a b c->q a b c->r a b c->C):C:=let⟨a,b,c,h0,h1,h2⟩:=h;K a b c h0 h1 h2
def agA{p q r:α->β->γ->Prop}(a b c)(h0:p a b c)(h1:q a b c)(h2:r a b c):∃a b c,p a b c/\q a b c/\r a b c:=⟨a,b,c,h0,h1,h2⟩
def adC{p q r s:α->β->γ->Prop}{C:Prop}(h:∃a b c,p a b c/\q a b c/\r a b c/\s a b c)(K:∀a b c,p a b c->q a b c->r a b c->s a b c->C):C:=let⟨a,b,c,h0,h1,h2,h3⟩:=h;K a b c h0 h1 h2 h3
def r9{p q r s:α->β->γ->Prop}(a b c)(h0:p a b c)(h1:q a b c)(h2:r a b c)(h3:s a b c):∃a b c,p a b c/\q a b c/\r a b c/\s a b c:=⟨a,b,c,h0,h1,h2,h3⟩
def ak7{p q r s t:α->β->γ->Prop}{C:Prop}(h:∃a b c,p a b c/\q a b c/\r a b c/\s a b c/\t a b c)(K:∀a b c,p a b c->q a b c->r a b c->s a b c->t a b c->C):C:=let⟨a,b,c,h0,h1,h2,h3,h4⟩:=h;K a b c h0 h1 h2 h3 h4
def ala{p q r s t:α->β->γ->Prop}(a b c)(h0:p a b c)(h1:q a b c)(h2:r a b c)(h3:s a b c)(h4:t a b c):∃a b c,p a b c/\q a b c/\r a b c/\s a b c/\t a b c:=⟨a,b,c,h0,h1,h2,h3,h4⟩
def aiE{p q:α->β->γ->δ->Prop}{C:Prop}(h:∃a b c d,p a b c d/\q a b c d)(K:∀a b c d,p a b c d->q a b c d->C):C:=let⟨a,b,c,d,h0,h1⟩:=h;K a b c d h0 h1
def ak9{p q:α->β->γ->δ->Prop}(a b c d)(h0:p a b c d)(h1:q a b c d):∃a b c d,p a b c d/\q a b c d:=⟨a,b,c,d,h0,h1⟩
def aiD{p q r s t u:α->β->γ->δ->Prop}{C:Prop}(h:∃a b c d,p a b c d/\q a b c d/\r a b c d/\s a b c d/\t a b c d/\u a b c d)(K:∀a b c d,p a b c d->q a b c d->r a b c d->s a b c d->t a b c d->u a b c d->C):C:=let⟨a,b,c,d,h0,h1,h2,h3,h4,h5⟩:=h;K a b c d h0 h1 h2 h3 h4 h5
def aiG{p q r s t u:α->β->γ->δ->ε->Prop}(a b c d e)(h0:p a b c d e)(h1:q a b c d e)(h2:r a b c d e)(h3:s a b c d e)(h4:t a b c d e)(h5:u a b c d e):∃a b c d e,p a b c d e/\q a b c d e/\r a b c d e/\s a b c d e/\t a b c d e/\u a b c d e:=⟨a,b,c,d,e,h0,h1,h2,h3,h4,h5⟩
def aok{p q r s t u v w:α->β->γ->δ->ε->ζ->Prop}{C:Prop}(h:∃a b c d e f,p a b c d e f/\q a b c d e f/\r a b c d e f/\s a b c d e f/\t a b c d e f/\u a b c d e f/\v a b c d e f/\w a b c d e f)(K:∀a b c d e f,p a b c d e f->q a b c d e f->r a b c d e f->s a b c d e f->t a b c d e f->u a b c d e f->v a b c d e f->w a b c d e f->C):C:=let⟨a,b,c,d,e,f,h0,h1,h2,h3,h4,h5,h6,h7⟩:=h;K a b c d e f h0 h1 h2 h3 h4 h5 h6 h7
def aol{p q r s t u v w:α->β->γ->δ->ε->ζ->Prop}(a b c d e f)(h0:p a b c d e f)(h1:q a b c d e f)(h2:r a b c d e f)(h3:s a b c d e f)(h4:t a b c d e f)(h5:u a b c d e f)(h6:v a b c d e f)(h7:w a b c d e f):∃a b c d e f,p a b c d e f/\q a b c d e f/\r a b c d e f/\s a b c d e f/\t a b c d e f/\u a b c d e f/\v a b c d e f/\w a b c d e f:=⟨a,b,c,d,e,f,h0,h1,h2,h3,h4,h5,h6,h7⟩
def afy{p q r:α->β->γ->δ->ε->ζ->η->θ->ι->Prop}{C:Prop}(h:∃a b c d e f g i j,p a b c d e f g i j/\q a b c d e f g i j/\r a b c d e f g i j)(K:∀a b c d e f g i j,p a b c d e f g i j->q a b c d e f g i j->r a b c d e f g i j->C):C:=let⟨a,b,c,d,e,f,g,i,j,h0,h1,h2⟩:=h;K a b c d e f g i j h0 h1 h2
set_option Elab.async false
set_option linter.all false
set_option maxRecDepth 100000
namespace L2
open PySem PySem.Spec PyProof.Rows
abbrev Key:=Sum (Option Int) Str
noncomputable def l9:Int:=0xFCA86420
def acw{prog w A E s Q}(h:Q l9 {s with toks:=s.toks+1}):wpAny (model prog w) A (pyHash .none) Q E s:=by unfold pyHash;refine ao3 ?_;refine ao7 ?_;refine ao3 (wpAny_specialOf (ass s) aqh.lookup ?_);refine ao3 (wpAny_specialOf (ass s) aqh.lookup ?_);refine ao3 (wpAny_callSpecialIfBoundUnlessNone?_slot (ass s) aqh (ap3 aqh (ass s) PySem.F.entry_NoneType_hash (wpAny_ret_mkInt ?_) (PySem.F.args_NoneType_hash_1 _)));show wpAny _ _ (if(decide (-(2:Int)^63<=l9)&&decide (l9<2^63))=true then _ else _) Q E _;rw[apa (by decide)];exact ao7 h
noncomputable def zB:Key->Value->Bool|.inl (some k),v=>Value.isInt k v|.inl none,.none=>true|.inl none,_=>false|.inr x,v=>Value.isStrOf x v
def aoQ(w:World):Key->Int|.inl (some k)=>hashInt k|.inl none=>l9|.inr x=>hashStr w x
def bu:∀{k v},zB k v=true->(∃i t,k=Sum.inl (some i)/\v=Value.int i t)\/(∃x t,k=Sum.inr x/\v=Value.str x t)\/k=Sum.inl none/\v=.none
|.inl (some i),v,h=>by obtain⟨t,e⟩:=Value.isInt_shape  h;exact .inl ⟨i,t,rfl,e⟩|.inl none,v,h=>by cases v<;>first|exact .inr (.inr ⟨rfl,rfl⟩)|exact nomatch h
|.inr x,v,h=>by obtain⟨t,e⟩:=Value.isStrOf_shape  h;exact .inr (.inl ⟨x,t,rfl,e⟩)
def acg(i)(t):zB (.inl (some i)) (.int i t)=true:=by simp[zB,Value.isInt]
def acf(x)(t):zB (.inr x) (.str x t)=true:=by simp[zB,Value.isStrOf]
def akj(a b):decide ((Sum.inl (some a):Key)=Sum.inl (some b))=(a==b):=by grind
def akg(a b):decide ((Sum.inr a:Key)=Sum.inr b)=decide (a=b):=by simp
def key_is(a)(b):decide ((Sum.inl (some a):Key)=Sum.inr b)=false:=apJ λq=>nomatch q
def akk(a):decide ((Sum.inl (some a):Key)=Sum.inl none)=false:=apJ λq=>nomatch q
def akf(a)(b):decide ((Sum.inr a:Key)=Sum.inl (some b))=false:=apJ λq=>nomatch q
def ake(a):decide ((Sum.inr a:Key)=Sum.inl none)=false:=apJ λq=>nomatch q
def aki(a):decide ((Sum.inl none:Key)=Sum.inl (some a))=false:=apJ λq=>nomatch q
def akh(a):decide ((Sum.inl none:Key)=Sum.inr a)=false:=apJ λq=>nomatch q
def bE(prog:Program)(w:World):PySem.KeyKind prog w Key where
 is:=zB;hash:=aoQ w;inj:=λv a b ha hb=>by rcases bu ha with⟨i,t,rfl,rfl⟩|⟨x,t,rfl,rfl⟩|⟨rfl,rfl⟩<;>rcases bu hb with⟨j,u,rfl,e⟩|⟨y,u,rfl,e⟩|⟨rfl,e⟩<;>(cases e;try rfl)
 byValue:=λk v h=>by rcases bu h with⟨i,t,rfl,rfl⟩|⟨x,t,rfl,rfl⟩|⟨rfl,rfl⟩<;>rfl
 pyHash:=λhv h=>by
  rcases bu hv with⟨i,t,rfl,rfl⟩|⟨x,t,rfl,rfl⟩|⟨rfl,rfl⟩;.exact wpAny_pyHash_int h
  .exact wpAny_pyHash_str h
  .exact acw h
 eqBool:=λhu hv h=>by
  rcases bu hu with⟨i,t,rfl,rfl⟩|⟨x,t,rfl,rfl⟩|⟨rfl,rfl⟩
  .rcases bu hv with⟨j,u,rfl,rfl⟩|⟨y,u,rfl,rfl⟩|⟨rfl,rfl⟩;.rw[akj]at h;exact wpAny_eqBool_int h
   .rw[key_is]at h;exact SeqAt.EqAt.int_str i t y u _ _ _ _ h
   .rw[akk]at h;exact SeqAt.EqAt.int_none i t _ _ _ _ h
  .rcases bu hv with⟨j,u,rfl,rfl⟩|⟨y,u,rfl,rfl⟩|⟨rfl,rfl⟩;.rw[akf]at h;exact SeqAt.EqAt.str_int x t j u _ _ _ _ h
   .rw[akg]at h;exact wpAny_eqBool_str h
   .rw[ake]at h;exact SeqAt.EqAt.str_none x t _ _ _ _ h
  .rcases bu hv with⟨j,u,rfl,rfl⟩|⟨y,u,rfl,rfl⟩|⟨rfl,rfl⟩;.rw[aki]at h;exact SeqAt.EqAt.none_int j u _ _ _ _ h
   .rw[akh]at h;exact SeqAt.EqAt.none_str y u _ _ _ _ h
   .rw[arA rfl]at h;unfold eqBool;rw[apa (show(Value.none==Value.none)=true from rfl)];exact ao3 (wpAny_rule (ao7 h))
 «strs»:=λk x t v h=>by
  rcases bu h with⟨i,u,rfl,e⟩|⟨y,u,rfl,e⟩|⟨_,e⟩;.exact nomatch e
  .injection e with e1 _;subst e1;cases v<;>rfl
  .exact nomatch e
def vC(prog)(w)(i)(t):(bE prog w).is (.inl (some i)) (.int i t)=true:=acg i t
def vB(prog)(w)(x)(t):(bE prog w).is (.inr x) (.str x t)=true:=acf x t
inductive V where|non|bl(b:Bool)|int(i:Int)|str(x:Str)|byt(b:Array UInt8)|flt(b:UInt64)|ref(a:Addr)|ty(n:String)deriving DecidableEq
def RelV:V->Value->Prop|.non,u=>u=Value.none|.bl b,u=>u=Value.bool b|.int i,u=>∃t,u=Value.int i t|.str x,u=>∃t,u=Value.str x t|.byt b,u=>∃t,u=Value.bytes b t|.flt b,u=>∃t,u=Value.float b t|.ref a,u=>u=Value.ref a|.ty n,u=>u=Value.type n
abbrev Vals:List V->List Value->Prop:=Paired RelV
theorem Vals.length{xs us}(r:Vals xs us):xs.length=us.length:=arK r
theorem Vals.get:∀{xs:List V}{us:List Value}{i:Nat}{x:V},Vals xs us->xs[i]?=some x->∃u,us[i]?=some u/\RelV x u|_,_,_,_,.nil,e=>by simp at e|_,_,0,_,.cons r _,e=>by simp at e;subst e;exact⟨_,rfl,r⟩|_,_,i+1,x,.cons _ t,e=>by obtain⟨u,b,a⟩:=Vals.get (i:=i) (x:=x) t (by simpa using e);exact⟨u,by simpa using b,a⟩
theorem Vals.append:∀{xs ys us ws},Vals xs us->Vals ys ws->Vals (xs++ys) (us++ws)|_,_,_,_,.nil,s=>s|_,_,_,_,.cons r t,s=>.cons r (Vals.append t s)
theorem Vals.take:∀{xs us}n,Vals xs us->Vals (xs.take n) (us.take n)|_,_,0,_=>.nil|_,_,_+1,.nil=>.nil|_,_,n+1,.cons r t=>.cons r (Vals.take n t)
theorem Vals.drop:∀{xs us}n,Vals xs us->Vals (xs.drop n) (us.drop n)|_,_,0,r=>r|_,_,_+1,.nil=>.nil|_,_,n+1,.cons _ t=>Vals.drop n t
def u3:Option V->Option Value->Prop|some v,some u=>RelV v u|none,none=>True|_,_=>False
def KV{a}:List (a×V)->List (a×Value)->Prop:=Paired λ(p:a×V)(q:a×Value)=>p.1=q.1/\RelV p.2 q.2
noncomputable def kV:Key->V|.inl (some i)=>.int i|.inl none=>.non|.inr x=>.str x
inductive HO where/-- a list -/|lst(xs:List V)/-- a tuple (never changes) -/|tup(xs:List V)/-- a dict whose keys are ints and texts;one whose keys are tuples of ints and texts (the empty one is both) -/|dK(kvs:List (Key×V))|dT(kvs:List (List Key×V))/-- a set of ints: its members,its size -/|set(S:Int->Bool)(n:Nat)/-- an instance of the class at C,its dict at dx,its attributes -/|ins(C dx:Addr)(fs:List (Str×V))/-- the dict of the instance at x -/|own(x:Addr)/-- the dict of an exception -/|xd(fs:List (Str×V))/-- a bound method,f of x -/|met(f x:Addr)/-- a range object lo,lo+1,.. below hi -/|rng(lo hi:Int)/-- a thing that is known to the object (the script;a dict while a loop walks it): read,never written while it is so -/|frz(o:Obj)(u:HO)/-- a code object's table -/|tbl(ps:Array Value)/-- a code object's table as TabAt tells -/|tab(ps:Array Value)/-- any other thing,by what is true of its one object (a def of one's own: SetO a S n:=HO.ext λh => ..) -/|ext(φ:Heap->Prop)
abbrev Hp:=Addr->Option HO
noncomputable def upd(H:Hp)(a:Addr)(o:HO):Hp:=λb=>if b=a then some o else H b
def ah{H a o}:upd H a o a=some o:=by unfold upd;rw[apa rfl]
def ae{H a b o}(h:b≠a):upd H a o b=H b:=by unfold upd;rw[ao9 h]
def aaO{H a o u}:upd (upd H a o) a u=upd H a u:=by funext b;unfold upd;split<;>rfl
def amH{H:Hp}{a b o u}(h:H a=some o)(h':H b=some u)(d:o≠u):a≠b:=by grind
def aL{H:Hp}{a b o}(h:H a=some o)(h':H b=none):a≠b:=by grind
def TabAt(H:Hp)(h:Heap)(a:Addr)(ps:Array Value):Prop:=h.get? a=some {cls:=.none,data:=.fields #[]}\/∃(c:Addr)(q:Str)(t:Tok),H c=some (.own a)/\ps[2]?=some (.str q t)/\h.get? a=some {cls:=.none,data:=.fields #[ps.getD 0 .none,ps.getD 1 .none,.ref c]}/\h.CodeRec (.ref c) q
section
variable(P:Program)(w:World)
def cL(H:Hp)(h:Heap)(a:Addr):HO->Prop|.lst c=>c.length<=sizeLine/\∃(b:List Value)(n:Nat),Vals c b/\h.get? a=some {cls:=.type "list",data:=.seq b.toArray n}|.tup c=>c.length<=sizeLine/\∃b:List Value,Vals c b/\IsTup h a b.toArray|.dK kvs=>kvs.length<=sizeLine/\(a==sysModules)=false/\∃j,KV kvs j/\h.DictOf (bE P w) a j|.dT kvs=>kvs.length<=sizeLine/\(a==sysModules)=false/\∃c:List (List Key×Addr×Value),Paired (λ(p:List Key×V)(q:List Key×Addr×Value)=>p.1=q.1/\H q.2.1=some (.tup (p.1.map kV))/\RelV p.2 q.2.2) kvs c/\∃o e k,h.get? a=some o/\o.ExactDict/\o.data=.dict e k/\e.toList=c.map (entryOfKey (tupleKind (bE P w)))/\(c.map (·.1)).Nodup|.set S n=>h.SetOf (intKind P w) a S n|.ins C dx fs=>H dx=some (.own a)/\fs.length<=1000/\dx≠a/\h.get? a=some (W.instObj C dx)/\∃d,h.Ns1 dx d/\(∀f,u3 (fs.lookup f) (d f))/\PySem.Within d (fs.map (·.1))|.own _=>∃o,h.get? a=some o|.xd fs=>∃d,h.Ns1 a d/\∀f,u3 (fs.lookup f) (d f)|.rng lo hi=>∃t u v,h.get? a=some {cls:=.type "range",data:=.fields #[.int lo t,.int hi u,.int 1 v]}|.frz o u=>h.get? a=some o/\cL H h a u|.tbl ps=>h.get? a=some {cls:=.none,data:=.fields ps}|.tab ps=>TabAt H h a ps|.met f x=>h.get? a=some (W.methodObj (.ref f) (.ref x))|.ext φ=>φ h/\(∃o,h.get? a=some o)/\∀g i:Heap,φ g->(∀o,g.get? a=some o->i.get? a=some o)->φ i
def HOk(H:Hp)(h:Heap):Prop:=∀a o,H a=some o->cL P w H h a o
end
section
variable{P:Program}{w:World}{H H':Hp}{h h':Heap}{a:Addr}{o:HO}
theorem cL.lt(x:cL P w H h a o):a<h.objs.size:=by cases o with|lst xs=>obtain⟨_,_,_,_,e⟩:=x;exact ape e|tup xs=>obtain⟨_,_,_,p⟩:=x;exact p.lt|dK kvs|dT kvs=>obtain⟨_,_,_,_,o,_,_,e,_⟩:=x;exact ape e|set S n=>obtain⟨o,_,_,_,e,_⟩:=x;exact ape e|ins C dx fs=>obtain⟨_,_,_,e,_⟩:=x;exact ape e|own y=>obtain⟨_,e⟩:=x;exact ape e|xd fs=>obtain⟨_,⟨_,_,_,e,_⟩,_⟩:=x;exact ape e|rng lo hi=>obtain⟨_,_,_,e⟩:=x;exact ape e|frz ob u=>obtain⟨e,_⟩:=x;exact ape e|tbl ps|met f y=>exact ape x|tab ps=>rcases x with e|⟨_,_,_,_,_,e,_⟩<;>exact ape e|ext φ=>obtain⟨_,⟨_,e⟩,_⟩:=x;exact ape e
theorem Paired.amL{α e F G}:∀{c:List α}{d:List e},Paired F c d->(∀a b,F a b->G a b)->Paired G c d|_,_,.nil,_=>.nil|_,_,.cons r t,f=>.cons (f _ _ r) (Paired.amL t f)
def cL.u0(x:cL P w H h a o)(k:∀b u,b=a\/H b=some (.own a)->h.get? b=some u->h'.get? b=some u)(D:∀b,H b=some (.own a)->H' b=some (.own a))(G:∀b l,H b=some (.tup l)->H' b=some (.tup l)):cL P w H' h' a o:=by
 induction o with|lst l=>obtain⟨z,j,n,r,e⟩:=x;exact⟨z,j,n,r,k _ _ (.inl rfl) e⟩|tup l=>obtain⟨z,j,r,ob,e,c⟩:=x;exact⟨z,j,r,ob,k _ _ (.inl rfl) e,c⟩|dK kvs=>obtain⟨z,y,A,r,ob,g,i,e,c⟩:=x;exact⟨z,y,A,r,ob,g,i,k _ _ (.inl rfl) e,c⟩|dT kvs=>obtain⟨z,y,l,r,ob,g,i,e,c⟩:=x;exact⟨z,y,l,Paired.amL r λp q z=>⟨z.1,G _ _ z.2.1,z.2.2⟩,ob,g,i,k _ _ (.inl rfl) e,c⟩|set S n=>obtain⟨ob,g,i,t,e,c⟩:=x;exact⟨ob,g,i,t,k _ _ (.inl rfl) e,c⟩|ins C dx fs=>obtain⟨d,z,M,e,s,⟨od,g,i,m,c⟩,r⟩:=x;exact⟨D _ d,z,M,k _ _ (.inl rfl) e,s,⟨od,g,i,k _ _ (.inr d) m,c⟩,r⟩|own y=>obtain⟨ob,e⟩:=x;exact⟨ob,k _ _ (.inl rfl) e⟩|xd fs=>obtain⟨s,⟨od,g,i,e,c⟩,r⟩:=x;exact⟨s,⟨od,g,i,k _ _ (.inl rfl) e,c⟩,r⟩|rng lo hi=>obtain⟨t,u,v,e⟩:=x;exact⟨t,u,v,k _ _ (.inl rfl) e⟩|frz ob u ih=>obtain⟨e,q⟩:=x;exact⟨k _ _ (.inl rfl) e,ih q⟩|tab ps=>
 rcases x with e|⟨c,q,t,B,N,e,c2,E,A,K,m,J,I⟩;.exact .inl (k a _ (.inl rfl) e)
 .cases m;exact .inr ⟨c,q,t,D c B,N,k a _ (.inl rfl) e,c,E,A,K,rfl,k c _ (.inr B) J,I⟩|tbl ps=>have e:=x;exact k a _ (.inl rfl) e|met f y=>have e:=x;exact k a _ (.inl rfl) e|ext φ=>obtain⟨p,⟨o,e⟩,st⟩:=x;exact⟨st _ _ p λo q=>k _ _ (.inl rfl) q,⟨o,k _ _ (.inl rfl) e⟩,st⟩
theorem HOk.lt(x:HOk P w H h)(e:H a=some o):a<h.objs.size:=(x a o e).lt
def HOk.fresh(x:HOk P w H h)(e:h.objs.size<=a):H a=none:=by cases q:H a with|none=>rfl|some u=>exact absurd (apd (x.lt q) e) (ap8 _)
def HOk.kept(x:HOk P w H h)(k:∀b u,h.get? b=some u->h'.get? b=some u):HOk P w H h':=λa o e=>(x a o e).u0 (λb u _ q=>k b u q) (λ_ q=>q) λ_ _ q=>q
def HOk.laid(x:HOk P w H h)(k:∀b u,h.get? b=some u->h'.get? b=some u)(g:h.objs.size<=a)(new:cL P w (upd H a o) h' a o):HOk P w (upd H a o) h':=λb u e=>by
 have d:=x.fresh g;by_cases f:b=a;.subst f;rw[ah]at e;cases e;exact new
 .rw[ae f]at e;exact(x b u e).u0 (λc v _ q=>k c v q) (λc q=>by rw[ae (aL q d)];exact q) λc i q=>by rw[ae (aL q d)];exact q
end
def Rd(H:Hp)(a:Addr)(u:HO):Prop:=H a=some u\/∃o,H a=some (.frz o u)
def Rd.ok{P w H h a u}(r:Rd H a u)(x:HOk P w H h):cL P w H h a u:=by
 rcases r with r|⟨o,r⟩;.exact x a u r
 .obtain⟨_,q⟩:=x a _ r;exact q
def Mut:Option HO->Prop|some (.lst _)=>True|some (.dK _)=>True|some (.dT _)=>True|some (.set _ _)=>True|some (.ins _ _ _)=>True|some (.ext _)=>True|_=>False
section
variable{P:Program}{w:World}{H:Hp}{h h':Heap}{x e:Addr}{o':HO}
def HOk.write(ok:HOk P w H h)(d:Mut (H x))(n:e=x\/H e=some (.own x))(k:∀b u,b≠e->h.get? b=some u->h'.get? b=some u)(g:∃u,h'.get? e=some u)(new:cL P w (upd H x o') h' x o'):HOk P w (upd H x o') h':=λb u q=>by
 have a:∀c y,H c=some (.own y)->c≠x:=λc y r z=>by subst z;rw[r]at d;exact d
 by_cases j:b=x;.subst j;rw[ah]at q;cases q;exact new
 .rw[ae j]at q;by_cases i:b=e
  .have l:H b=some (.own x):=by grind
   rw[q]at l;cases l;obtain⟨v,o⟩:=g;exact⟨v,by grind⟩
  .refine(ok b u q).u0 (λc v f r=>k c v ?_ r) (λc r=>by rw[ae (a c b r)];exact r) λc m r=>by rw[ae ((λc m r z=>by subst z;rw[r]at d;exact d) c m r)];exact r
   rcases f with rfl|f;.exact i
   .rintro rfl;rcases n with z|z;.exact a c b f z
    .rw[f]at z;cases z;exact j rfl
end
structure Un(fs ex:List Addr)(H H':Hp)(h h':Heap):Prop where
 keep:∀b o,h.get? b=some o->H b=none->b∉fs->b∉ex->h'.get? b=some o
 slot:∀b o,h.get? b=some o->H b=none->b∈fs->b∉ex->∃sl,h'.get? b=some {o with slots:=sl}free:∀b o,h.get? b=some o->H b=none->b∉ex->H' b=none
 there:∀b o,h.get? b=some o->b∉ex->∃o',h'.get? b=some o'
 tups:∀b xs,H b=some (.tup xs)->H' b=some (.tup xs)frzs:∀b o u,H b=some (.frz o u)->H' b=some (.frz o u)tbls:∀b ps,H b=some (.tbl ps)->∃more,H' b=some (.tbl (ps++more))
section
variable{fs ex:List Addr}{H H1:Hp}{h h1 h':Heap}{a x e:Addr}{o:HO}
def Un.any(u:Un fs ex H H1 h h1){b ob}(q:h.get? b=some ob)(n:H b=none)(c:b∉ex):∃f,h1.get? b=some {ob with slots:=f}:=by
 by_cases d:b∈fs;.exact u.slot b _ q n d c
 .exact⟨_,u.keep b _ q n d c⟩
def Un.kept(k:∀b u,h.get? b=some u->h'.get? b=some u):Un fs ex H H h h':=⟨λb ob q _ _ _=>k b ob q,λb ob q _ _ _=>⟨ob.slots,k b ob q⟩,λ_ _ _ n _=>n,λb ob q _=>⟨ob,k b ob q⟩,λ_ _ q=>q,λ_ _ _ q=>q,λ_ c q=>⟨#[],by rw[q];simp⟩⟩
def Un.refl:Un fs ex H H h h:=Un.kept λ_ _ q=>q
def Un.laid(k:∀b u,h.get? b=some u->h'.get? b=some u)(hp:h.objs.size<=a)(hn:H a=none):Un fs ex H (upd H a o) h h' where
 keep:=λb u q _ _ _=>k b u q;slot:=λb u q _ _ _=>⟨u.slots,k b u q⟩;free:=λb u q n _=>by rw[ae (api (apd (ape q) hp))];exact n
 there:=λb u q _=>⟨u,k b u q⟩;tups:=λb xs q=>by rw[ae (aL q hn)];exact q
 frzs:=λb u xs q=>by rw[ae (aL q hn)];exact q
 tbls:=λb ps q=>⟨#[],by rw[ae (aL q hn),q];simp⟩
def Un.write(g:Mut (H x))(m:e=x\/H e=some (.own x))(k:∀b u,b≠e->h.get? b=some u->h'.get? b=some u)(f:∃u,h'.get? e=some u):Un fs ex H (upd H x o) h h':=by
 have j:∀b,H b=none->b≠x:=λb n z=>by subst z;rw[n]at g;exact g
 have i:∀b,H b=none->b≠e:=λb n z=>by grind
 have d:∀b u,H b=some u->¬Mut (some u)->b≠x:=λb u q p z=>by grind
 refine⟨λb u q n _ _=>k b u (i b n) q,λb u q n _ _=>⟨u.slots,k b u (i b n) q⟩,λb u q n _=>by rw[ae (j b n)];exact n,λb u q _=>?_,λb l q=>by rw[ae (d b _ q λz=>z)];exact q,λb u l q=>by rw[ae (d b _ q λz=>z)];exact q,λb r q=>⟨#[],by rw[ae (d b _ q λz=>z),q];simp⟩⟩;by_cases c:b=e;.subst c;exact f
 .exact⟨u,k b u c q⟩
end
noncomputable def trk(h:Heap)(H:Hp):List Addr:=(List.range h.objs.size).filter λa=>(H a).isSome
def ae1(h:Heap)(H:Hp):Heap:=W.hideAll h (trk h H)
def acu(h)(H):(ae1 h H).objs.size=h.objs.size:=W.hideAll_size _ _
def ae0{h H b o}(e:h.get? b=some o)(n:H b=none):(ae1 h H).get? b=some o:=W.hideAll_get _ e λa=>by have q:=(List.mem_filter.mp a).2;rw[n]at q;simp at q
def ahz{h H b o}(e:(ae1 h H).get? b=some o):h.get? b=some o/\H b=none:=by have a:=W.of_hideAll _ e;refine⟨a,?_⟩;cases q:H b with|none=>rfl|some x=>have z:(ae1 h H).get? b=none:=W.hideAll_none _ (List.mem_filter.mpr ⟨aq2.mpr (ape a),by grind⟩);rw[z]at e;cases e
structure Mod(K:W.Frag)(mg:Str->Option Value)(base:Heap):Prop where
 kin:K.In base
 glob:base.Ns mainGlobals mg
 blt:∃mb,base.Ns builtinsNs mb/\∀x:Str,x≠"__name__"->mb x=bootBuiltins x
 nolimit:base.NoLimit
structure Cx where
 prog:Program
 w:World
 K:W.Frag
 mg:Str->Option Value
 base:Heap
 A:Around
 N:List Str
 s₀:Shared
 H₀:Hp
 env:Env
 outer:List Env
 stack:List Env
 ex:List Addr
 fn:Str->Bool
 calm:Bool
 pn:List (Addr×Obj)xe:Value->Shared->Prop
noncomputable def frs(l:List Env):List Addr:=l.filterMap (·.frame)
abbrev Cx.fs(X:Cx):List Addr:=frs X.outer
def Vis(a:Scope)(x:Str):Prop:=a.names.lookup x=some .local\/a.names.lookup x=some .cell\/a.names.lookup x=some .free
def Loc(a:Scope)(x:Str):Prop:=a.names.lookup x=some .local\/a.names.lookup x=some .cell
def Look(a:Env)(h:Heap)(m:Str->Option Value)(x:Str)(u:Value):Prop:=a.kindOf x=some .local/\m x=some u\/(a.kindOf x=some .cell\/a.kindOf x=some .free)/\∃c,a.cells.lookup x=some c/\h.IsCell c (some u)
abbrev Dbg(x:Str):Prop:=(x==("__debug__":Str))=false
abbrev SE(X:Cx)(e:Expr)(es:List Expr):Prop:=starEach (e::es) X.env=(false,eval e X.env)::starEach es X.env
abbrev BT(X:Cx)(p:Pos)(es:List Expr):Prop:=(backTo p (starEach es X.env)).any (·.1)=false
abbrev FL(X:Cx)(x:Str):Prop:=X.fn x=true\/X.env.scope.names.lookup x=some .local
structure Cx.Ok(X:Cx):Prop where
 mod:Mod X.K X.mg X.base
 kind:X.env.scope.kind=.function
 glob:X.env.globals=mainGlobals
 blt:X.env.builtins=builtinsNs
 above:X.s₀.heap.objs.size<=X.env.locals
 inj:∀x y c,X.env.cells.lookup x=some c->X.env.cells.lookup y=some c->x=y
 has:∀x,X.env.kindOf x=some .cell\/X.env.kindOf x=some .free->∃c,X.env.cells.lookup x=some c
 cab:∀x c,X.fn x=true->X.env.cells.lookup x=some c->X.s₀.heap.objs.size<=c
 hd:X.calm=true->X.A.handled=none
 frames:X.A.frames=some X.stack
 stk:X.stack=X.outer\/X.stack=X.env::X.outer/\X.env.frame=some X.env.locals
 exf:∀b∈X.ex,b≠X.env.locals/\∀x c,X.env.cells.lookup x=some c->c≠b
 bs:∀b o,X.base.get? b=some o->X.s₀.heap.get? b=some o/\X.H₀ b=none
 bsz:X.base.objs.size<=X.s₀.heap.objs.size
 noex:∀b o,X.base.get? b=some o->b∉X.ex
 exfs:∀b∈X.ex,b∉X.fs
 sf:X.s₀.heap.FunFrames X.base X.outer
 frf:∀b∈X.fs,X.H₀ b=none
structure Inv(X:Cx)(pins:List (Addr×Obj))(σ:List (Option V))(H:Hp)(s:Shared):Prop where
 ok:X.Ok
 os:s.os=X.s₀.os
 bare:AllBare s.gens
 base:Un X.fs X.ex X.H₀ H X.s₀.heap s.heap
 loc:∃m,s.heap.Ns X.env.locals m/\∀(i:Nat)(x:Str)(v:V),X.N[i]?=some x->σ[i]?=some (some v)->Vis X.env.scope x->∃u,RelV v u/\Look X.env s.heap m x u
 cell:∀x c,X.env.cells.lookup x=some c->∃v,s.heap.IsCell c v
 free:H X.env.locals=none
 freeC:∀x c,X.env.cells.lookup x=some c->H c=none
 pin:∀p∈X.pn++pins,s.heap.get? p.1=some p.2/\H p.1=none/\p.1≠X.env.locals/\p.1∉X.fs/\∀v,p.2.data≠.cell v
 hok:HOk X.prog X.w H s.heap
 len:σ.length=X.N.length
section
variable{X:Cx}{pins:List (Addr×Obj)}{σ:List (Option V)}{H H':Hp}{s:Shared}{h':Heap}
def Cx.Ok.aoM(ok:X.Ok){b o}(e:X.base.get? b=some o):b∉X.fs:=λa=>by have:=(ok.sf.mem a).1;rw[e]at this;cases this
theorem Inv.bs(I:Inv X pins σ H s):∀b o,X.base.get? b=some o->s.heap.get? b=some o/\H b=none:=λb o e=>⟨I.base.keep b o (I.ok.bs b o e).1 (I.ok.bs b o e).2 (I.ok.aoM e) (I.ok.noex b o e),I.base.free b o (I.ok.bs b o e).1 (I.ok.bs b o e).2 (I.ok.noex b o e)⟩
def Inv.bk(I:Inv X pins σ H s):∀b o,X.base.get? b=some o->s.heap.get? b=some o:=λb o e=>(I.bs b o e).1
theorem Inv.mod(I:Inv X pins σ H s):Mod X.K X.mg X.base:=I.ok.mod
def Inv.kIn(I:Inv X pins σ H s):X.K.In s.heap:=I.ok.mod.kin.keeps I.bk
theorem Inv.lt(I:Inv X pins σ H s):X.env.locals<s.heap.objs.size:=let⟨_,a,_⟩:=I.loc;a.lt
def Inv.sz(I:Inv X pins σ H s):X.s₀.heap.objs.size<=s.heap.objs.size:=apb I.ok.above (ark I.lt)
def Inv.aoL(I:Inv X pins σ H s){a:Addr}(h:s.heap.objs.size<=a):a∉X.fs:=λc=>by obtain⟨_,o,b,_⟩:=I.ok.sf.mem c;exact absurd (apd (ape b) (apb I.sz h)) (ap8 _)
def Inv.cne(I:Inv X pins σ H s):∀x c,X.env.cells.lookup x=some c->c≠X.env.locals:=λx c e z=>by obtain⟨v,o,f,d⟩:=I.cell x c e;obtain⟨m,⟨i,g,h,a,b,_⟩,_⟩:=I.loc;rw[z,a]at f;cases f;rw[b]at d;cases d
theorem Inv.sf(I:Inv X pins σ H s):s.heap.FunFrames X.base X.outer:=by
 have all:∀(l),(∀b∈frs l,b∈X.fs)->X.s₀.heap.FunFrames X.base l->s.heap.FunFrames X.base l:=by intro l;induction l with|nil=>intro _ _;trivial|cons env r ih=>intro f g;obtain⟨m,⟨L,o,d,i,k,j⟩,h⟩:=g;have c:=f L (by unfold frs;rw[arx,d];exact apu);obtain⟨n,e⟩:=I.base.slot L o k (I.ok.frf L c) c λz=>I.ok.exfs L z c;exact⟨m,afA L _ d i e j,ih (λb a=>f b (by unfold frs;rw[arx,d];exact apQ _ a)) h⟩
 exact all _ (λ_ a=>a) I.ok.sf
theorem Inv.stack(I:Inv X pins σ H s):s.heap.FunFrames X.base X.stack:=by
 rcases I.ok.stk with e|⟨e,b⟩;.rw[e];exact I.sf
 .rw[e];obtain⟨m,a,_⟩:=I.loc;exact .cons (by rw[I.ok.kind];decide) b a (apW (apb I.ok.bsz I.ok.above)) I.sf
def Inv.xA(I:Inv X pins σ H s):∀b∈frs X.stack,b∈X.env.locals::X.fs:=λb a=>by
 rcases I.ok.stk with e|⟨e,c⟩;.rw[e]at a;exact apQ _ a
 .rw[e]at a;unfold frs at a;rw[arx,c]at a;exact a
def Inv.vf(I:Inv X pins σ H s):∀b∈frs X.stack,H b=none:=λb a=>by
 rcases apq.mp (I.xA b a)with e|a;.rw[e];exact I.free
 .obtain⟨_,o,c,_⟩:=I.ok.sf.mem a;exact I.base.free b o c (I.ok.frf b a) λz=>I.ok.exfs b z a
def Inv.ad6{g' t' d'}{ch:List Addr}(I:Inv X pins σ H s)(f:∀b∈ch,(b∈X.ex\/X.s₀.heap.get? b=none)/\b≠X.env.locals/\(∀x c,X.env.cells.lookup x=some c->c≠b)/\∀p∈X.pn++pins,p.1≠b)(keep:∀b o,b≠X.env.locals->b∉X.fs->b∉ch->s.heap.get? b=some o->H b=none->h'.get? b=some o)(w:∀b o,b≠X.env.locals->b∈X.fs->b∉ch->s.heap.get? b=some o->H b=none->∃R,h'.get? b=some {o with slots:=R})(free:∀b o,b∉ch->s.heap.get? b=some o->H b=none->H' b=none)(there:∀b o,b∉ch->s.heap.get? b=some o->∃G,h'.get? b=some G)(M:∀b y,H b=some (.tup y)->H' b=some (.tup y))(E:∀b o u,H b=some (.frz o u)->H' b=some (.frz o u))(J:∀b N,H b=some (.tbl N)->∃K,H' b=some (.tbl (N++K)))(ns:∀m,s.heap.Ns X.env.locals m->h'.Ns X.env.locals m)(O:HOk X.prog X.w H' h')(hg:AllBare g'):Inv X pins σ H' {s with heap:=h',gens:=g',drawn:=d',toks:=t'}:=by
 have D:∀b o,X.s₀.heap.get? b=some o->b≠X.env.locals:=λb o e=>api (apd (ape e) I.ok.above);have j:∀b o,X.s₀.heap.get? b=some o->b∉X.ex->b∉ch:=λb o e a A=>by
  rcases(f b A).1 with z|z;.exact a z
  .rw[z]at e;cases e
 have g:∀x c,X.env.cells.lookup x=some c->∀v,s.heap.IsCell c v->h'.IsCell c v:=λx c e v⟨o,B,P⟩=>by
  have h:c∉ch:=λz=>(f c z).2.2.1 x c e rfl;by_cases S:c∈X.fs;.obtain⟨R,q⟩:=w c o (I.cne x c e) S h B (I.freeC x c e);exact⟨_,q,P⟩
  .exact⟨o,keep c o (I.cne x c e) S h B (I.freeC x c e),P⟩
 refine⟨I.ok,I.os,hg,⟨λb o e n A a=>?_,λb o e n A a=>?_,λb o e n a=>?_,λb o e a=>?_,λb y e=>M b y (I.base.tups b y e),λb o y e=>E b o y (I.base.frzs b o y e),λb N e=>?_⟩,?_,λx c e=>?_,?_,λx c e=>?_,λp T=>?_,O,I.len⟩;.exact keep b o (D b o e) A (j b o e a) (I.base.keep b o e n A a) (I.base.free b o e n a)
 .obtain⟨R,t⟩:=I.base.slot b o e n A a;obtain⟨Q,C⟩:=w b _ (D b o e) A (j b o e a) t (I.base.free b o e n a);exact⟨Q,C⟩
 .obtain⟨G,t⟩:=I.base.there b o e a;exact free b G (j b o e a) t (I.base.free b o e n a)
 .obtain⟨G,t⟩:=I.base.there b o e a;exact there b G (j b o e a) t
 .obtain⟨m1,t⟩:=I.base.tbls b N e;obtain⟨m2,C⟩:=J b _ t;exact⟨m1++m2,by rw[C,Array.append_assoc]⟩
 .refine eM I.loc λm hn Z=>?_;refine⟨m,ns m hn,λi x v t C e3=>?_⟩;obtain⟨u,r,l⟩:=Z i x v t C e3;refine⟨u,r,?_⟩;rcases l with l|⟨k,c,e,z⟩;.exact .inl l
  .exact .inr ⟨k,c,e,g x c e _ z⟩
 .obtain⟨v,z⟩:=I.cell x c e;exact⟨v,g x c e v z⟩
 .obtain⟨m,⟨o,_,_,B,_⟩,_⟩:=I.loc;exact free _ o (λz=>(f _ z).2.1 rfl) B I.free
 .obtain⟨v,o,B,P⟩:=I.cell x c e;exact free c o (λz=>(f c z).2.2.1 x c e rfl) B (I.freeC x c e)
 .refine alM (I.pin p T) λe n Y U d=>?_;have h:p.1∉ch:=λz=>(f p.1 z).2.2.2 p T rfl;exact⟨keep p.1 p.2 Y U h e n,free p.1 p.2 h e n,Y,U,d⟩
def Inv.step{g' t' d' h' H'}{ch:List Addr}(I:Inv X pins σ H s)(a:∀b∈ch,(b∈X.ex\/X.s₀.heap.objs.size<=b)/\b≠X.env.locals/\(∀x c,X.env.cells.lookup x=some c->c≠b)/\∀p∈X.pn++pins,p.1≠b):=I.ad6 (g':=g') (t':=t') (d':=d') (h':=h') (H':=H') λb d=>⟨(a b d).1.imp_right apW,(a b d).2⟩
def Inv.un{t'}(I:Inv X pins σ H s)(u:Un X.fs [] H H' s.heap h')(c:HOk X.prog X.w H' h'):Inv X pins σ H' {s with heap:=h',toks:=t'}:=by obtain⟨m,⟨o,l,p,f,r⟩,_⟩:=id I.loc;obtain⟨q,i⟩:=u.any f I.free (by simp);exact I.step (ch:=[]) (λ_ z=>nomatch z) (λb o _ d _ e n=>u.keep b o e n d (by simp)) (λb o _ d _ e n=>u.slot b o e n d (by simp)) (λb o _ e n=>u.free b o e n (by simp)) (λb o _ e=>u.there b o e (by simp)) u.tups u.frzs u.tbls (λt j=>by refine wN j λv g k a h=>?_;rw[f]at a;cases a;exact adM _ _ _ i h) c I.bare
def Inv.call{g' t' d' ch}(I:Inv X pins σ H s)(u:Un (frs X.stack) ch H H' s.heap h')(g:HOk X.prog X.w H' h')(v:AllBare g')(f:∀b∈ch,(b∈X.ex\/X.s₀.heap.objs.size<=b)/\b≠X.env.locals/\(∀x c,X.env.cells.lookup x=some c->c≠b)/\∀p∈X.pn++pins,p.1≠b):Inv X pins σ H' {s with heap:=h',gens:=g',drawn:=d',toks:=t'}:=by obtain⟨m,⟨o,w,y,i,r⟩,_⟩:=id I.loc;obtain⟨A,h⟩:=u.any i I.free λz=>(f _ z).2.1 rfl;exact I.step f (λb o h l a e n=>u.keep b o e n (λz=>(apq.mp (I.xA b z)).elim h l) a) (λb o _ _ a e n=>u.any e n a) (λb o a e n=>u.free b o e n a) (λb o a e=>u.there b o e a) u.tups u.frzs u.tbls (λB q=>by refine wN q λC j t d k=>?_;rw[i]at d;cases d;exact adM _ _ _ h k) g v
def Inv.turned{t' it}(I:Inv X pins σ H s)(k:∀b o,b≠it->s.heap.get? b=some o->h'.get? b=some o)(A:H it=none)(f:it≠X.env.locals)(i:it∈X.ex\/X.s₀.heap.objs.size<=it)(w:∀x c,X.env.cells.lookup x=some c->c≠it)(l:∀p∈X.pn++pins,p.1≠it):Inv X pins σ H {s with heap:=h',toks:=t'}:=by
 have d:∀b u,H b=some u->b≠it:=λb u e z=>by grind
 refine I.step (g':=s.gens) (ch:=[it]) (λb y=>?_) (λb o _ _ a e _=>k b o (λz=>a (by simp[z])) e) (λb o _ _ a e _=>⟨o.slots,k b o (λz=>a (by simp[z])) e⟩) (λ_ _ _ _ n=>n) (λb o a e=>⟨o,k b o (λz=>a (by simp[z])) e⟩) (λ_ _ e=>e) (λ_ _ _ e=>e) (λb B e=>⟨#[],by rw[e];simp⟩) (λm t=>?_) (λb u e=>?_) I.bare
 .have e:b=it:=by simpa using y
  subst e;exact⟨i,f,w,l⟩
 .refine wN t λo g h j r=>?_;exact adM o g h (k _ o (aph f) j) r
 .refine(I.hok b u e).u0 (λc v a q=>k c v ?_ q) (λ_ q=>q) λ_ _ q=>q;rcases a with z|z;.rw[z];exact d b u e
  .exact d c _ z
def Inv.tok(I:Inv X pins σ H s)(t):Inv X pins σ H {s with toks:=t}:=I.un  Un.refl I.hok
theorem Inv.kept{t'}(I:Inv X pins σ H s)(k:∀b u,s.heap.get? b=some u->h'.get? b=some u):Inv X pins σ H {s with heap:=h',toks:=t'}:=I.un (Un.kept k) (I.hok.kept k)
theorem Inv.laid{a:Addr}{o t'}(I:Inv X pins σ H s)(k:∀b u,s.heap.get? b=some u->h'.get? b=some u)(c:s.heap.objs.size<=a)(new:cL X.prog X.w (upd H a o) h' a o):Inv X pins σ (upd H a o) {s with heap:=h',toks:=t'}:=I.un (Un.laid k c (I.hok.fresh c)) (I.hok.laid k c new)
theorem Inv.write{x e o t'}(I:Inv X pins σ H s)(d:Mut (H x))(c:e=x\/H e=some (.own x))(k:∀b u,b≠e->s.heap.get? b=some u->h'.get? b=some u)(a:∃u,h'.get? e=some u)(new:cL X.prog X.w (upd H x o) h' x o):Inv X pins σ (upd H x o) {s with heap:=h',toks:=t'}:=I.un (Un.write d c k a) (I.hok.write d c k a new)
def Inv.hT{a}(I:Inv X pins σ H s)(h:∀p∈a,s.heap.get? p.1=some p.2/\H p.1=none/\p.1≠X.env.locals/\p.1∉X.fs/\∀v,p.2.data≠.cell v):Inv X a σ H s:=⟨I.ok,I.os,I.bare,I.base,I.loc,I.cell,I.free,I.freeC,λp b=>(aqu.mp b).elim (λz=>I.pin p (apH _ z)) (h p),I.hok,I.len⟩
def qY{N:List Str}(c:N.Nodup){i j:Nat}{x}(a:N[i]?=some x)(b:N[j]?=some x):i=j:=by obtain⟨g,d⟩:=ao8.mp a;obtain⟨f,e⟩:=ao8.mp b;exact(List.getElem_inj c).mp (d.trans e.symm)
def jz{M A E i x v u Q}(I:Inv X pins σ H s)(hN:X.N.Nodup)(P:X.N[i]?=some x)(w:Loc X.env.scope x)(r:RelV v u)(h:∀s',Inv X pins (σ.set i (some v)) H s'->(∃a,Heap.SameBut a s.heap s'.heap/\(a=X.env.locals\/X.env.cells.lookup x=some a))->Q () s')(hf:FL X x:=by first|exact .inl rfl|exact .inr rfl|assumption):wpAny M A (storeName X.env x u) Q E s:=by
 refine eM (id I.loc) λm hn hl=>?_;have O:(X.env.scope.kind==.class||X.env.scope.kind==.module&&X.env.locals !=X.env.globals)=false:=by rw[I.ok.kind];rfl
 have D:i<σ.length:=by rw[I.len];exact(ao8.mp P).1
 have cne:=I.cne;have g:∀{a:Addr}{h':Heap},(∃o,s.heap.get? a=some o/\H a=none)->Heap.SameBut a s.heap h'->HOk X.prog X.w H h':=λ{a h'}ha f b ob e=>by
  obtain⟨_,_,B⟩:=ha;refine(I.hok b ob e).u0 (λc Z t q=>(f.2 c ?_).trans q) (λ_ q=>q) λ_ _ q=>q;rintro rfl;rcases t with rfl|t;.rw[B]at e;cases e
  .rw[B]at t;cases t
 rcases w with N|N
 .refine wpAny_storeName_local N hn (λh' a6 f=>?_) O;obtain⟨oL,_,_,a0,_⟩:=id hn;refine h _ ⟨I.ok,I.os,I.bare,⟨λb o e n G w=>?_,λb o e n G w=>?_,I.base.free,λb o e w=>?_,I.base.tups,I.base.frzs,I.base.tbls⟩,⟨_,a6,λj y v' l C e3=>?_⟩,λy c e=>?_,I.free,I.freeC,λp hp=>?_,g ⟨oL,a0,I.free⟩ f,by simpa using I.len⟩ ⟨_,f,.inl rfl⟩;.exact(f.2 b (api (apd (ape e) I.ok.above))).trans (I.base.keep b o e n G w)
  .obtain⟨sl,l⟩:=I.base.slot b o e n G w;exact⟨sl,(f.2 b (api (apd (ape e) I.ok.above))).trans l⟩
  .obtain⟨o',l⟩:=I.base.there b o e w;exact⟨o',(f.2 b (api (apd (ape e) I.ok.above))).trans l⟩
  .by_cases J:j=i;.subst J;rw[P]at l;cases l;rw[apc D]at C;cases C;exact⟨u,r,.inl ⟨N,by simp⟩⟩
   .rw[ao5 (aph J)]at C;obtain⟨u',r',q⟩:=hl j y v' l C e3;refine⟨u',r',?_⟩;rcases q with⟨k,e⟩|⟨k,c,e,z⟩;.refine .inl ⟨k,?_⟩;have:y≠x:=λe=>J (qY hN l (e▸P));simp[this,e]
    .exact .inr ⟨k,c,e,z.sameBut f (cne y c e)⟩
  .obtain⟨Z,z⟩:=I.cell y c e;exact⟨Z,z.sameBut f (cne y c e)⟩
  .refine alM (I.pin p hp) λe n ne nf d=>?_;exact⟨(f.2 p.1 ne).trans e,n,ne,nf,d⟩
 .have K:X.fn x=true:=by grind
  obtain⟨c,t⟩:=I.ok.has x (.inl N);obtain⟨Z,z⟩:=I.cell x c t;refine wpAny_storeName_cell I.ok.kind N t z λh' U f=>?_;refine eM (id z) λoc S R=>?_;refine h {s with heap:=h'} ⟨I.ok,I.os,I.bare,⟨λb o e n G w=>?_,λb o e n G w=>?_,I.base.free,λb o e w=>?_,I.base.tups,I.base.frzs,I.base.tbls⟩,⟨m,hn.sameBut f (aph (cne x c t)),λj y v' l C e3=>?_⟩,λy Y e=>?_,I.free,I.freeC,λp hp=>?_,g ⟨oc,S,I.freeC x c t⟩ f,by simpa using I.len⟩ ⟨c,f,.inr t⟩;.exact(f.2 b (api (apd (ape e) (I.ok.cab x c K t)))).trans (I.base.keep b o e n G w)
  .obtain⟨sl,l⟩:=I.base.slot b o e n G w;exact⟨sl,(f.2 b (api (apd (ape e) (I.ok.cab x c K t)))).trans l⟩
  .obtain⟨o',l⟩:=I.base.there b o e w;exact⟨o',(f.2 b (api (apd (ape e) (I.ok.cab x c K t)))).trans l⟩
  .by_cases J:j=i;.subst J;rw[P]at l;cases l;rw[apc D]at C;cases C;exact⟨u,r,.inr ⟨.inl N,c,t,U⟩⟩
   .rw[ao5 (aph J)]at C;obtain⟨u',r',q⟩:=hl j y v' l C e3;refine⟨u',r',?_⟩;rcases q with q|⟨k,Y,e,z'⟩;.exact .inl q
    .refine .inr ⟨k,Y,e,z'.sameBut f ?_⟩;rintro rfl;exact J (qY hN l (I.ok.inj _ _ _ e t▸P))
  .by_cases T:Y=c;.subst T;exact⟨_,U⟩
   .obtain⟨w2,z2⟩:=I.cell y Y e;exact⟨w2,z2.sameBut f T⟩
  .refine alM (I.pin p hp) λe n ne nf d=>?_;refine⟨(f.2 p.1 ?_).trans e,n,ne,nf,d⟩;intro q;rw[q,S]at e;have q':oc=p.2:=aps e;exact d Z (by rw[<-q'];exact R)
def qE{M A E i x v u Q}(I:Inv X pins σ H s)(c:X.N.Nodup)(d:X.N[i]?=some x)(b:Loc X.env.scope x)(r:RelV v u)(h:∀a,Inv X pins (σ.set i (some v)) H a->Q () a)(e:FL X x:=by first|exact .inl rfl|exact .inr rfl|assumption):wpAny M A (storeName X.env x u) Q E s:=jz I c d b r (λa f _=>h _ f) e
def Inv.aic{s' ch}(I:Inv X pins σ H s)(f:s'.os=s.os)(u:Un (frs X.stack) ch H H' s.heap s'.heap)(a:HOk X.prog X.w H' s'.heap)(g:AllBare s'.gens)(d:∀b∈ch,(b∈X.ex\/X.s₀.heap.objs.size<=b)/\b≠X.env.locals/\(∀x c,X.env.cells.lookup x=some c->c≠b)/\∀p∈X.pn++pins,p.1≠b):Inv X pins σ H' s':=by obtain⟨h',i,j,h,k⟩:=s';have e:=f;subst e;exact I.call  u a g d
end
abbrev DX:=Option Addr×Value×Value
abbrev XK:=Value->DX->Hp->Prop
abbrev St:=List (Option V)
abbrev VK:=V->Hp->Prop
abbrev TE:=St->Hp->VK->Prop
abbrev TT:=St->Hp->(Bool->Hp->Prop)->Prop
abbrev TA:=St->Hp->(List V->Hp->Prop)->Prop
structure Ends where
 nx:St->Hp->Prop
 rt:VK
 bk:St->Hp->Prop:=λ_ _=>False
 ct:St->Hp->Prop:=λ_ _=>False
abbrev TS:=Ends->St->Hp->Prop
def EP(X:Cx)(pins:List (Addr×Obj))(b:St)(Q:VK)(u:Value)(s':Shared):Prop:=∃v a,Inv X pins b a s'/\RelV v u/\Q v a
def TP(X:Cx)(pins:List (Addr×Obj))(c:St)(Q:Bool->Hp->Prop)(b:Bool)(s':Shared):Prop:=∃a,Inv X pins c a s'/\Q b a
def AP(X:Cx)(pins:List (Addr×Obj))(c:St)(Q:List V->Hp->Prop)(us:List Value)(s':Shared):Prop:=∃b a,Inv X pins c a s'/\Vals b us/\Q b a
def SP(X:Cx)(pins:List (Addr×Obj))(D:Ends)(f:Flow)(s':Shared):Prop:=match f with|.next=>∃a b,Inv X pins a b s'/\D.nx a b|.brk=>∃a b,Inv X pins a b s'/\D.bk a b|.cont=>∃a b,Inv X pins a b s'/\D.ct a b|.ret u=>∃v a b,Inv X pins a b s'/\RelV v u/\D.rt v b
def PE(X:Cx)(e:Expr)(t:TE):Prop:=∀(a:List (Addr×Obj))(s:Shared)(b:St)(H:Hp)(Q:VK),Inv X a b H s->t b H Q->wpAny (model X.prog X.w) X.A (eval e X.env) (EP X a b Q) X.xe s
def PT(X:Cx)(e:Expr)(t:TT):Prop:=∀(a:List (Addr×Obj))(s:Shared)(b:St)(H:Hp)(Q:Bool->Hp->Prop),Inv X a b H s->t b H Q->wpAny (model X.prog X.w) X.A (isTrue e X.env (eval e X.env)) (TP X a b Q) X.xe s
def PW(X:Cx)(e:Expr)(t:TT):Prop:=∀(b:Sem Value)(a:List (Addr×Obj))(s:Shared)(c:St)(H:Hp)(Q:Bool->Hp->Prop),Inv X a c H s->t c H Q->wpAny (model X.prog X.w) X.A (isTrue e X.env b) (TP X a c Q) X.xe s
def PW.pt{X e t}(h:PW X e t):PT X e t:=h _
def PA(X:Cx)(es:List Expr)(t:TA):Prop:=∀(b:Pos)(a:List (Addr×Obj))(s:Shared)(c:St)(H:Hp)(Q:List V->Hp->Prop),Inv X a c H s->t c H Q->wpAny (model X.prog X.w) X.A (spliced (backTo b (starEach es X.env))) (AP X a c Q) X.xe s
def PS(X:Cx)(st:Stmt)(t:TS):Prop:=∀(a:List (Addr×Obj))(s:Shared)(b:St)(H:Hp)(D:Ends),Inv X a b H s->t D b H->wpAny (model X.prog X.w) X.A (exec st X.env) (SP X a D) X.xe s
def PSs(X:Cx)(st:List Stmt)(t:TS):Prop:=∀(a:List (Addr×Obj))(s:Shared)(b:St)(H:Hp)(D:Ends),Inv X a b H s->t D b H->wpAny (model X.prog X.w) X.A (execs st X.env) (SP X a D) X.xe s
def thn{α t}{Q b:α->Shared->Prop}{M A E s}(h:wpAny M A t Q E s)(c:∀a s,Q a s->b a s):wpAny M A t b E s:=apn h c λ_ _ x=>x
section
variable{X:Cx}
def bin{a b:Expr}{ta tb:TE}(j:PE X a ta)(n:PE X b tb){pins:List (Addr×Obj)}{s:Shared}{c:St}{H:Hp}{R:V->V->Hp->Prop}(I:Inv X pins c H s)(h:ta c H λx i=>tb c i λy d=>R x y d){α:Type}{Q:α->Shared->Prop}{f:Value->Value->Sem α}(m:∀v u s2 x y d,Inv X pins c d s2->RelV x v->RelV y u->R x y d->wpAny (model X.prog X.w) X.A (f v u) Q X.xe s2):wpAny (model X.prog X.w) X.A (eval a X.env) (λv g=>wpAny (model X.prog X.w) X.A (eval b X.env) (λu e=>wpAny (model X.prog X.w) X.A (f v u) Q X.xe e) X.xe g) X.xe s:=by refine thn (j pins s c H _ I h) λv s1⟨x,i,k,r1,q1⟩=>?_;refine thn (n pins s1 c i _ k q1) λu s2⟨y,d,l,r2,q2⟩=>?_;exact m v u s2 x y d l r1 r2 q2
def cM(i:Nat):TE:=λa H Q=>∃v,a[i]?=some (some v)/\Q v H
def tC(v:V):TE:=λ_ H Q=>Q v H
def pP{i x pos}(q:X.N[i]?=some x)(p:Vis X.env.scope x)(f:Dbg x:=by decide)(d:(x=="__classdict__")=false:=by decide):PE X (.Name x pos) (cM i):=by
 intro g s n H Q I h;refine eM h λv e h=>?_;refine eM I.loc λm o k=>?_;obtain⟨u,r,l⟩:=k i x v q e p;have fin:EP X _ n Q u s:=⟨v,H,I,r,h⟩;rcases l with⟨b,t⟩|⟨b,c,j,a⟩;.exact asw (arl I.ok.kind b o t fin) f
 .rcases b with b|b;.exact asw (wpAny_loadName_cell I.ok.kind b j a fin) f
  .exact asw (wpAny_loadName_free I.ok.kind b j a fin d) f
def af7{i j pos}:PE X (.Constant (.int i) j pos) (tC (.int i)):=λ_ _ _ H _ I h=>wpAny_Constant_int ⟨.int i,H,I.tok _,⟨_,rfl⟩,h⟩
def amr{b j pos}:PE X (.Constant (.bool b) j pos) (tC (.bl b)):=λ_ _ _ H _ I h=>Constant_bool ⟨.bl b,H,I,rfl,h⟩
def ajB{j pos}:PE X (.Constant .none j pos) (tC .non):=λ_ _ _ H _ I h=>Constant_none ⟨.non,H,I,rfl,h⟩
def gk{x j pos}:PE X (.Constant (.str x) j pos) (tC (.str x)):=λ_ _ _ H _ I h=>Calls.Constant_str ⟨.str x,H,I.tok _,⟨_,rfl⟩,h⟩
def Gl(X:Cx)(x:Str):Prop:=X.env.kindOf x=some .globalImplicit
def cE{E pins s}{d:St}{H x u pos Q}(I:Inv X pins d H s)(c:Gl X x)(a:X.mg x=some u)(h:Q u s)(b:Dbg x:=by decide):wpAny (model X.prog X.w) X.A (eval (.Name x pos) X.env) Q E s:=arL I.ok.kind c (Calls.loadGlobal_global (by rw[I.ok.glob];exact I.mod.glob.keeps I.bk) a h) b
def kZ{E pins s}{b:St}{H x u pos Q}(I:Inv X pins b H s)(i:Gl X x)(e:X.mg x=none)(d:bootBuiltins x=some u)(h:Q u s)(c:x≠"__name__":=by decide)(g:Dbg x:=by decide):wpAny (model X.prog X.w) X.A (eval (.Name x pos) X.env) Q E s:=by obtain⟨j,a,f⟩:=I.mod.blt;exact arL I.ok.kind i (Calls.loadGlobal_builtin (by rw[I.ok.glob];exact I.mod.glob.keeps I.bk) e (by rw[I.ok.blt];exact a.keeps I.bk) ((f x c).trans d) h) g
def qM{x v u pos}(c:Gl X x)(a:X.mg x=some u)(r:RelV v u)(b:Dbg x:=by decide):PE X (.Name x pos) (tC v):=λ_ _ _ H _ I h=>cE I c a ⟨v,H,I,r,h⟩ b
def ahu{x v u pos}(d:Gl X x)(b:X.mg x=none)(a:bootBuiltins x=some u)(r:RelV v u)(e:x≠"__name__":=by decide)(c:Dbg x:=by decide):PE X (.Name x pos) (tC v):=λ_ _ _ H _ I h=>kZ I d b a ⟨v,H,I,r,h⟩ e c
def t2I(ta tb:TE)(k:Int->Int->Hp->Prop):St->Hp->Prop:=λa H=>ta a H λx b=>tb a b λy c=>∃i j,x=.int i/\y=.int j/\k i j c
def aoA(ta tb:TE):TE:=λb H Q=>t2I ta tb (λi j a=>Q (.int (i+j)) a) b H
variable{a b:Expr}{ta tb:TE}{pos:Pos}
def ajE(d:PE X a ta)(l:PE X b tb):PE X (.BinOp a .Add b pos) (aoA ta tb):=by intro c s m H Q I h;refine wpAny_BinOp (bin d l I h λv u s2 x y f e g k q=>?_);obtain⟨i,j,rfl,rfl,q⟩:=q;obtain⟨t,rfl⟩:=g;obtain⟨n,rfl⟩:=k;exact add_int ⟨.int _,f,e.tok _,⟨_,rfl⟩,q⟩
def PC(X:Cx)(op:CmpOp)(a b:Expr)(t:TE):Prop:=∀(c:List (Addr×Obj))(s:Shared)(f:St)(H:Hp)(Q:VK),Inv X c f H s->t f H Q->wpAny (model X.prog X.w) X.A (eval a X.env) (λv d=>wpAny (model X.prog X.w) X.A (eval b X.env) (λu e=>wpAny (model X.prog X.w) X.A (compareOp op v u) (EP X c f Q) X.xe e) X.xe d) X.xe s
def aeD(b:Expr){op:CmpOp}(h:op≠.In)(c:op≠.NotIn):behindInMarks op b=false:=by
 have d:(op==CmpOp.In)=false:=by cases op<;>first|rfl|exact absurd rfl h
 have e:(op==CmpOp.NotIn)=false:=by cases op<;>first|rfl|exact absurd rfl c
 cases b<;>first|rfl|(show(_&&(_||_)&&_)=false;simp[d,e])
def tB(t:TE):TT:=λe H Q=>t e H λx d=>∃c,x=.bl c/\Q c d
def ajp{e t}(h:PE X e t)(i:∀c,isTrue e X.env c=(do let v <-c;standAt e.pos;holding [v] (truthy v)):=by intro _;rfl):PT X e (tB t):=by intro f s k H Q I hw;refine isTrue_plain (thn (h _ s k H _ I hw) λv s1⟨x,g,j,r1,q1⟩=>?_) (i _);obtain⟨d,rfl,q⟩:=q1;cases r1;exact apS ⟨g,j,q⟩
variable{tA tB':TT}{rest:List Expr}
def sQ(t u:TT):TT:=λe H Q=>t e H λc d=>if c=true then u e d Q else Q false d
def tOr(t u:TT):TT:=λe H Q=>t e H λc d=>if c=true then Q true d else u e d Q
def i9(t:TT):TT:=λe H Q=>t e H λc d=>Q (!c) d
def abr(f:PT X a tA):PW X (.BoolOp .And [a] pos) tA:=by intro i d s g H Q I h;refine isTrue_and (thn (f _ s g H Q I h) λc s1 e=>?_);cases c with|true=>exact isTrue_and_nil e|false=>exact e
def af3(f:PT X a tA):PW X (.BoolOp .Or [a] pos) tA:=by intro i d s g H Q I h;refine isTrue_or (thn (f _ s g H Q I h) λc s1 e=>?_);cases c with|false=>exact isTrue_or_nil e|true=>exact e
def af4(i:PT X a tA)(j:PW X (.BoolOp .And (b::rest) pos) tB'):PW X (.BoolOp .And (a::b::rest) pos) (sQ tA tB'):=by intro k f s e H Q I h;refine isTrue_and (thn (i _ s e H _ I h) λc s1⟨g,d,q1⟩=>?_);cases c with|true=>exact j _ _ _ e _ Q d q1|false=>exact⟨g,d,q1⟩
def ajo(i:PT X a tA)(j:PW X (.BoolOp .Or (b::rest) pos) tB'):PW X (.BoolOp .Or (a::b::rest) pos) (tOr tA tB'):=by intro k f s e H Q I h;refine isTrue_or (thn (i _ s e H _ I h) λc s1⟨g,d,q1⟩=>?_);cases c with|true=>exact⟨g,d,q1⟩|false=>exact j _ _ _ e _ Q d q1
def ajq(d:PT X a tA):PT X (.UnaryOp .Not a pos) (i9 tA):=by intro c s e H Q I h;exact isTrue_not (d _ s e H _ I h)
def al3(ta tb:TE):TE:=λe H Q=>ta e H λx d=>∃c,x=.bl c/\if c=true then tb e d Q else Q (.bl false) d
def alZ(ta:TE):TE:=λe H Q=>ta e H λx d=>∃c,x=.bl c/\Q (.bl !c) d
def xP{op t}(h:PE X a t):PE X (.BoolOp op [a] pos) t:=λc s d H Q I hw=>BoolOp_one (h _ s d H Q I hw)
def af8(i:PE X a ta)(j:PE X (.BoolOp .And (b::rest) pos) tb):PE X (.BoolOp .And (a::b::rest) pos) (al3 ta tb):=by intro f s e H Q I h;refine BoolOp_and (thn (i _ s e H _ I h) λv s1⟨x,g,d,r1,q1⟩=>?_);obtain⟨c,rfl,q1⟩:=q1;cases r1;refine apS ?_;cases c with|true=>exact j _ _ e _ Q d q1|false=>exact⟨.bl _,g,d,rfl,q1⟩
def ajA(f:PE X a ta):PE X (.UnaryOp .Not a pos) (alZ ta):=by intro d s i H Q I h;refine UnaryOp_ (thn (f _ s i H _ I h) λv s1⟨x,e,g,r1,q1⟩=>?_);obtain⟨c,rfl,q1⟩:=q1;cases r1;exact not_of (apS ⟨.bl _,e,g,rfl,q1⟩)
def tIf(t:TT)(ta tb:TE):TE:=λd H Q=>t d H λc e=>if c=true then ta d e Q else tb d e Q
def aer{c}(j:PT X c tA)(i:PE X a ta)(k:PE X b tb):PE X (.IfExp c a b pos) (tIf tA ta tb):=by intro g s e H Q I h;refine wpAny_IfExp (thn (j _ s e H _ I h) λd s1⟨l,f,q1⟩=>?_);cases d with|true=>exact i _ _ e _ Q f q1|false=>exact k _ _ e _ Q f q1
end
def SqL(K:W.Frag)(H:Hp)(a:Addr)(xs:List V):Prop:=Rd H a (.lst xs)\/∃(o:Obj)(b:Array Value)(n:Nat),K.lookup a=some o/\o.cls=.type "list"/\o.dict=none/\o.data=.seq b n/\b.size<=sizeLine/\Vals xs b.toList
def SqT(K:W.Frag)(H:Hp)(a:Addr)(xs:List V):Prop:=Rd H a (.tup xs)\/∃(o:Obj)(b:Array Value)(n:Nat),K.lookup a=some o/\o.cls=.type "tuple"/\o.data=.seq b n/\b.size<=sizeLine/\Vals xs b.toList
noncomputable def ao0:Value->Option V|.none=>some .non|.bool b=>some (.bl b)|.int i _=>some (.int i)|.str x _=>some (.str x)|.bytes b _=>some (.byt b)|.float b _=>some (.flt b)|.ref a=>some (.ref a)|.type n=>some (.ty n)|_=>none
def RelV.abs{x u}(r:RelV x u):ao0 u=some x:=by cases x with|non|bl _=>cases r;rfl|int _|str _|byt _|flt _=>obtain⟨t,rfl⟩:=r;rfl|ref _|ty _=>cases r;rfl
def RelV.inj{x y u}(r:RelV x u)(q:RelV y u):x=y:=aps (r.abs.symm.trans q.abs)
theorem Vals.inj:∀{xs ys us},Vals xs us->Vals ys us->xs=ys|_,_,_,.nil,.nil=>rfl|_,_,_,.cons r t,.cons r' t'=>by rw[r.inj r',Vals.inj t t']
section
variable{X:Cx}{pins:List (Addr×Obj)}{σ:St}{H:Hp}{s:Shared}{a:Addr}{xs ys:List V}
def SqL.of{K}(h:H a=some (.lst xs)):SqL K H a xs:=.inl (.inl h)
def SqT.of{K}(h:H a=some (.tup xs)):SqT K H a xs:=.inl (.inl h)
def Inv.list(I:Inv X pins σ H s)(h:SqL X.K H a xs):∃b,Vals xs b/\PlainL s.heap a b.toArray/\xs.length<=sizeLine:=by
 rcases h with h|⟨o,b,n,f,c,d,i,g,r⟩;.obtain⟨z,b,n,r,e⟩:=h.ok I.hok;exact⟨_,r,afA _ n e rfl rfl rfl,z⟩
 .refine⟨_,r,afA o n (I.kIn a o f) c d (by omega),?_⟩;have e:=r.length;simp  at e;omega
def Inv.tuple(I:Inv X pins σ H s)(h:SqT X.K H a xs):∃b,Vals xs b/\IsTup s.heap a b.toArray/\xs.length<=sizeLine:=by
 rcases h with h|⟨o,b,n,d,c,g,f,r⟩;.obtain⟨z,b,r,p⟩:=h.ok I.hok;exact⟨_,r,p,z⟩
 .refine⟨_,r,⟨o,I.kIn a o d,c,n,by omega⟩,?_⟩;have e:=r.length;simp  at e;omega
def Inv.yh(I:Inv X pins σ H s)(h:SqL X.K H a xs)(h':SqL X.K H a ys):xs=ys:=by
 obtain⟨c,r,⟨o,n,e,_,_,d⟩,_⟩:=I.list h;obtain⟨b,f,⟨j,k,i,_,_,g⟩,_⟩:=I.list h';have:c=b:=by grind
 subst this;exact r.inj f
def Inv.sG(I:Inv X pins σ H s)(h:SqT X.K H a xs)(h':SqT X.K H a ys):xs=ys:=by
 obtain⟨c,r,⟨o,e,_,n,d⟩,_⟩:=I.tuple h;obtain⟨b,f,⟨j,i,_,k,g⟩,_⟩:=I.tuple h';have:c=b:=by grind
 subst this;exact r.inj f
end
abbrev Cx.oG(X:Cx)(E:Value->Shared->Prop):Cx:={X with xe:=E}
abbrev Cx.nox(X:Cx):Cx:=X.oG λ_ _=>False
theorem Cx.Ok.oG{X:Cx}(ok:X.Ok)(E):(X.oG E).Ok:=⟨ok.mod,ok.kind,ok.glob,ok.blt,ok.above,ok.inj,ok.has,ok.cab,ok.hd,ok.frames,ok.stk,ok.exf,ok.bs,ok.bsz,ok.noex,ok.exfs,ok.sf,ok.frf⟩
def Cx.Ok.pw{X:Cx}{E}(ok:(X.oG E).Ok):X.Ok:=⟨ok.mod,ok.kind,ok.glob,ok.blt,ok.above,ok.inj,ok.has,ok.cab,ok.hd,ok.frames,ok.stk,ok.exf,ok.bs,ok.bsz,ok.noex,ok.exfs,ok.sf,ok.frf⟩
section
variable{X:Cx}{pins:List (Addr×Obj)}{σ:St}{H:Hp}{s:Shared}{E:Value->Shared->Prop}
theorem Inv.oG(I:Inv X pins σ H s)(E):Inv (X.oG E) pins σ H s:=⟨I.ok.oG E,I.os,I.bare,I.base,I.loc,I.cell,I.free,I.freeC,I.pin,I.hok,I.len⟩
theorem Inv.pw(I:Inv (X.oG E) pins σ H s):Inv X pins σ H s:=⟨I.ok.pw,I.os,I.bare,I.base,I.loc,I.cell,I.free,I.freeC,I.pin,I.hok,I.len⟩
theorem SP.pw{D f s'}(h:SP (X.oG E) pins D f s'):SP X pins D f s':=by cases f with|next|brk|cont=>obtain⟨b,a,I,q⟩:=h;exact⟨_,a,I.pw,q⟩|ret u=>refine aag h λv b a I r q=>?_;exact⟨v,_,a,I.pw,r,q⟩
theorem PSs.nox{st t}(h:PSs X.nox st t):PSs X st t:=λpins s σ H D I hw=>apn (h _ s σ H D (I.oG _) hw) (λ_ _ q=>q.pw) λ_ _ z=>False.elim z
end
section
variable{X:Cx}{st:Stmt}{rest:List Stmt}{t u:TS}{e:Expr}{te:TE}{pos:Pos}
def al0:TS:=λD a H=>D.nx a H
def ai5(t u:TS):TS:=λD a H=>t {D with nx:=u D} a H
def abv:PSs X [] al0:=λ_ _ a H _ I h=>aqd ⟨a,H,I,h⟩
def bg(d:PS X st t)(c:PSs X rest u):PSs X (st::rest) (ai5 t u):=by intro a s g H D I h;refine ar5 (thn (d _ s g H _ I h) λf s1 q=>?_);cases f with|next=>obtain⟨b,j,i,q⟩:=q;exact c _ _ _ _ D i q|ret v=>exact q|brk=>exact q|cont=>exact q
def dF(b:PS X st t):PSs X [st] t:=by intro a s c H D I h;refine ar5 (thn (b _ s c H D I h) λf s1 q=>?_);cases f with|next=>exact aqd q|ret v|brk|cont=>exact q
def Inv.quiet{pins}{a:St}{H s}(I:Inv X pins a H s):interactive X.env=false:=by simp[interactive,I.ok.kind]
def sP(te:TE):TS:=λD a H=>te a H λ_ b=>D.nx a b
def dG(d:PE X e te)(g:swapsWith e none pos.line X.env=pure false:=by rfl):PS X (.Expr e pos) (sP te):=by intro b s a H D I h;exact wpAny_Expr_any (thn (d _ s a H _ I h) λv s1⟨x,c,f,r1,q1⟩=>⟨a,c,f,q1⟩) I.quiet g
def anv(te:TE):TS:=λD a H=>te a H D.rt
def tm(d:PE X e te):PS X (.Return (some e) pos) (anv te):=by intro b s a H D I h;exact wpAny_Return_some (thn (d _ s a H _ I h) λv s1⟨x,c,f,r1,q1⟩=>⟨x,a,c,f,r1,q1⟩)
def aox(c:TT)(t u:TS):TS:=λD a H=>c a H λb d=>if b=true then t D a d else u D a d
def ahl{c a b i}(l:PT X c i)(k:PSs X a t)(m:PSs X b u):PS X (.If c a b pos) (aox i t u):=by intro j s f H D I h;refine wpAny_If (thn (l _ s f H _ I h) λd s1⟨n,g,q1⟩=>?_);cases d with|true=>exact k _ _ f _ D g q1|false=>exact m _ _ f _ D g q1
end
abbrev TG:=V->St->Hp->(St->Hp->Prop)->Prop
abbrev TGs:=List V->St->Hp->(St->Hp->Prop)->Prop
def PG(X:Cx)(a:Expr)(t:TG):Prop:=∀(b:List (Addr×Obj))(s:Shared)(e:St)(H:Hp)(v:V)(u:Value)(Q:St->Hp->Prop),Inv X b e H s->RelV v u->t v e H Q->wpAny (model X.prog X.w) X.A (assign a X.env u) (λ_ f=>∃c d,Inv X b c d f/\Q c d) X.xe s
def PGs(X:Cx)(ts:List Expr)(t:TGs):Prop:=∀(a:List (Addr×Obj))(s:Shared)(f:St)(H:Hp)(e:List V)(d:List Value)(Q:St->Hp->Prop),Inv X a f H s->Vals e d->t e f H Q->wpAny (model X.prog X.w) X.A (assignInOrder ((assignEach ts X.env).map (·.2)) d) (λ_ g=>∃b c,Inv X a b c g/\Q b c) X.xe s
abbrev TIp:=V->V->Hp->VK->Prop
def PIp(X:Cx)(op:Operator)(t:TIp):Prop:=∀(a:List (Addr×Obj))(s:Shared)(b:St)(H:Hp)(x y:V)(v u:Value)(Q:VK),Inv X a b H s->RelV x v->RelV y u->t x y H Q->wpAny (model X.prog X.w) X.A (inplaceOp op v u) (EP X a b Q) X.xe s
section
variable{X:Cx}{pos:Pos}
def aN(i:Nat):TG:=λv a H Q=>Q (a.set i (some v)) H
def j4{i x}(b:X.N.Nodup)(c:X.N[i]?=some x)(e:Loc X.env.scope x)(d:FL X x:=by first|exact .inl rfl|exact .inr rfl|assumption):PG X (.Name x pos) (aN i):=by intro a s j H v u Q I r h;exact wpAny_assign_Name (qE I b c e r (λg f=>⟨_,H,f,h⟩) d)
def adI:TGs:=λa b H Q=>a=[]/\Q b H
def iE(t:TG)(u:TGs):TGs:=λc d H Q=>∃v r,c=v::r/\t v d H λa b=>u r a b Q
def ahp:PGs X [] adI:=by intro a s b H d c Q I r h;obtain⟨e,h⟩:=h;exact assignInOrder_nil ⟨b,H,I,h⟩
def aep{e es t u}(c:PG X e t)(f:PGs X es u)(i:(assignEach (e::es) X.env).map (·.2)=assign e X.env::(assignEach es X.env).map (·.2):=by rfl):PGs X (e::es) (iE t u):=by intro a s d H m k Q I r h;obtain⟨v,l,g,h⟩:=h;subst g;cases r with|cons r rr=>rw[i];exact assignInOrder_cons (thn (c _ s d H _ _ _ I r h) λ_ s1⟨_,j,b,q1⟩=>f _ _ _ _ _ _ Q b rr q1)
def adH(K:W.Frag)(n:Nat)(t:TGs):TG:=λv c H Q=>∃a b,v=.ref a/\SqT K H a b/\b.length=n/\t b c H Q
def ajw{es k t n}(w:X.calm=true)(h:PGs X es t)(p:(assignEach es X.env).length=n:=by rfl)(c:(assignEach es X.env).findIdx? (·.1)=none:=by rfl):PG X (.Tuple es k pos) (adH X.K n t):=by intro d s m H v u Q I r hw;obtain⟨a,z,x,y,j,hw⟩:=hw;subst x;cases r;refine jV (I.tuple y) λl q f B=>?_;refine assign_Tuple_tuple (I.ok.hd w) f (by simp[p,<-j,q.length]) c λA i=>?_;have g:=I.kept (t':=s.toks) λb o e=>i b o (api (ape e)) e;exact h _ _ m H _ _ Q g (by grind) hw
def ahb(te:TE)(g:TG):TS:=λD a H=>te a H λx b=>g x a b D.nx
def ajs{a e te g}(d:PE X e te)(j:PG X a g)(k:swapsWithSole [a] e pos.line X.env=pure false:=by rfl)(hw:swappedStores [a] e X.env=pure none:=by rfl)(i:(assignEach [a] X.env).map (·.2)=[assign a X.env]:=by rfl):PS X (.Assign [a] e pos) (ahb te g):=by intro c s b H D I h;refine wpAny_Assign_stores (thn (d _ s b H _ I h) λv s1⟨x,l,f,r1,q1⟩=>?_) k hw;rw[i];exact thn (j _ _ b _ x v _ f r1 q1) λ_ s2 q=>q
def kT{i x e te a}(l:X.N.Nodup)(m:X.N[i]?=some x)(g:Loc X.env.scope x)(d:PE X e te)(o:swapsWith e (some (.Name x a)) pos.line X.env=pure false:=by rfl)(n:FL X x:=by first|exact .inl rfl|exact .inr rfl|assumption):PS X (.Assign [.Name x a] e pos) (ahb te (aN i)):=by intro b s k H D I h;exact wpAny_Assign_Name (thn (d _ s k H _ I h) λv s1⟨y,c,f,r1,q1⟩=>qE f l m g r1 (λs2 j=>⟨_,c,j,q1⟩) n) o
def aoz(i:Nat)(te:TE)(d:TIp):TS:=λD a H=>∃x,a[i]?=some (some x)/\te a H λy b=>d x y b λz c=>D.nx (a.set i (some z)) c
def af6{i x e te op t j}(J:X.N.Nodup)(q:X.N[i]?=some x)(n:Loc X.env.scope x)(B:PE X e te)(N:PIp X op t)(R:FL X x:=by first|exact .inl rfl|exact .inr rfl|assumption):PS X (.AugAssign (.Name x j) op e pos) (aoz i te t):=by
 intro a s p H D I h;refine eM h λv M h=>?_;refine eM I.loc λm G E=>?_;have o:Vis X.env.scope x:=by rcases n with k|k;exact .inl k;exact .inr (.inl k)
 refine eM (E i x v q M o) λu r l=>?_;refine wpAny_AugAssign_Name ?_;have go:wpAny (model X.prog X.w) X.A (eval e X.env) (λw f=>wpAny (model X.prog X.w) X.A (inplaceOp op u w) (λr g=>wpAny (model X.prog X.w) X.A (storeName X.env x r) (λ_=>SP X a D .next) X.xe g) X.xe f) X.xe s:=by refine thn (B a s p H _ I h) λw s1⟨y,A,C,r1,q1⟩=>?_;exact thn (N a s1 p A v y u w _ C r r1 q1) λz s2⟨T,P,O,r2,q2⟩=>qE O J q n r2 (λs3 S=>⟨_,P,S,q2⟩) R
 rcases l with⟨b,Q⟩|⟨b,c,K,d⟩;.exact arl I.ok.kind b G Q go
 .rcases b with b|b;.exact wpAny_loadName_cell I.ok.kind b K d go
  .rcases n with k|k;.have:X.env.scope.names.lookup x=some .free:=b;rw[k]at this;cases this
   .have:X.env.scope.names.lookup x=some .free:=b;rw[k]at this;cases this
def ipI(f:Int->Int->Int):TIp:=λx y H Q=>∃i j,x=.int i/\y=.int j/\Q (.int (f i j)) H
def akp:PIp X .Add (ipI λi j=>i+j):=by intro a s d H x y v u Q I r1 r2 h;refine oC h λi j c b q=>?_;subst c;subst b;obtain⟨t,rfl⟩:=r1;obtain⟨e,rfl⟩:=r2;exact iadd_int (iH (.int _) H (I.tok _) ⟨_,rfl⟩ q)
def ako:PIp X .Sub (ipI λi j=>i-j):=by intro a s d H x y v u Q I r1 r2 h;obtain⟨i,j,c,b,q⟩:=h;subst c;subst b;obtain⟨t,rfl⟩:=r1;obtain⟨e,rfl⟩:=r2;exact isub_int ⟨.int _,H,I.tok _,⟨_,rfl⟩,q⟩
end
section
variable{X:Cx}{pos:Pos}
def ai3(c:TT)(tb:TS):TS:=λD a H=>∃W:Nat->St->Hp->Prop,(∃m,W m a H)/\∀m a H,W m a H->c a H λb f=>if b=true then∃N:St->Hp->Prop,(∀d e,N d e->∃g,g<m/\W g d e)/\tb {D with nx:=N,ct:=N,bk:=D.nx} a f else D.nx a f
def aej{c body r tb}(q:PassesOwn (model X.prog X.w) X.A X.env X.xe)(y:PT X c r)(z:PSs X body tb):PS X (.While c body [] pos) (ai3 r tb):=by intro m s x H D I h;obtain⟨W,⟨A,B⟩,turn⟩:=h;refine wpAny_While (codeAny_whileLoop (λn C=>∃g o,Inv X _ g o C/\W n g o) ?_ A ⟨x,H,I,B⟩);rintro n s1⟨d,l,w,w1⟩;refine aqe q (thn (y _ s1 d l _ w (turn n d l w1)) λb s2⟨u,t,q2⟩=>?_);cases b with
|true=>refine eM q2 λN p q2=>?_;refine aqe q (thn (z _ s2 d u _ t q2) λf s3 q3=>?_);cases f with|next=>obtain⟨a,e,k,n3⟩:=q3;obtain⟨i,j,w3⟩:=p a e n3;exact⟨i,j,a,e,k,w3⟩|cont=>obtain⟨a,e,k,n3⟩:=q3;obtain⟨i,j,w3⟩:=p a e n3;exact⟨i,j,a,e,k,w3⟩|brk=>exact q3|ret v=>exact q3
|false=>exact aqd ⟨d,u,t,q2⟩
end
structure It where
 go:Nat->Hp->Prop
 yld:Nat->Hp->V->Hp->Prop
 stop:Nat->Hp->Prop
def yL(X:Cx)(pins:List (Addr×Obj))(H:Hp)(b:Addr):Prop:=H b=none/\b≠X.env.locals/\b∉X.fs/\(b∈X.ex\/X.s₀.heap.objs.size<=b)/\(∀x c,X.env.cells.lookup x=some c->c≠b)/\∀p∈X.pn++pins,p.1≠b
def Inv.aiv{X:Cx}{pins:List (Addr×Obj)}{f:St}{H H':Hp}{s:Shared}{b:Addr}(I:Inv X pins f H s)(a:s.heap.objs.size<=b)(d:H' b=none):yL X pins H' b:=by
 refine⟨d,apK (apd I.lt a),I.aoL a,.inr (apb I.sz a),λx c e z=>?_,λp g z=>?_⟩;.obtain⟨v,q⟩:=I.cell x c e;exact absurd (apd q.lt (by rw[z];exact a)) (ap8 _)
 .exact absurd (apd (ape (I.pin p g).1) (by rw[z];exact a)) (ap8 _)
structure Turn(P:Program)(w:World)(K:W.Frag)(tg:Expr)(J:It)(fp:List Addr)(it:Addr)(tn:Nat->Heap->Prop)(cl:Cx->Hp->Prop:=λX _=>X.calm=true):Prop where
 mem:it∈fp
 obj:∀i h,tn i h->∀b∈fp,∃o,h.get? b=some o/\∀v,o.data≠.cell v
 keep:∀i h h',tn i h->(∀b∈fp,∀o,h.get? b=some o->h'.get? b=some o)->tn i h'
 item:∀(X:Cx),X.prog=P->X.w=w->X.K=K->∀(i:Nat)(pins:List (Addr×Obj))(s:Shared)(σ:St)(H:Hp)(E:Value->Shared->Prop),cl X H->Inv X pins σ H s->(∀b∈fp,yL X pins H b)->tn i s.heap->J.go i H->wpAny (model P w) X.A (pyNext (.ref it)) (λr s1=>∃u,r=some u/\wpAny (model P w) X.A (letOwnedTupleGo tg (.ref it) u) (λ_ s2=>∃x H',Inv X pins σ H' s2/\RelV x u/\J.yld i H x H'/\tn (i+1) s2.heap/\∀b∈fp,H' b=none) E s1) E s
 done:∀(X:Cx),X.prog=P->X.w=w->X.K=K->∀(i:Nat)(pins:List (Addr×Obj))(s:Shared)(σ:St)(H:Hp)(E:Value->Shared->Prop),cl X H->Inv X pins σ H s->(∀b∈fp,yL X pins H b)->tn i s.heap->J.stop i H->wpAny (model P w) X.A (pyNext (.ref it)) (λr s1=>r=none/\Inv X pins σ H s1) E s
 self:∀(A:Around)(i:Nat)(s:Shared)(Q:Value->Shared->Prop)(E:Value->Shared->Prop),tn i s.heap->Q (.ref it) s->wpAny (model P w) A (pyIter (.ref it)) Q E s
abbrev TI:=St->Hp->(It->Hp->Prop)->Prop
def PIE(X:Cx)(pins:List (Addr×Obj))(h:St)(g:Expr)(R:It->Hp->Prop)(c:Value)(s2:Shared):Prop:=∃(e:Addr)(d:List Addr)(f:Nat->Heap->Prop)(J:It)(a:Hp),c=.ref e/\Inv X pins h a s2/\Turn X.prog X.w X.K g J d e f/\f 0 s2.heap/\(∀b∈d,yL X pins a b)/\R J a
def PI(X:Cx)(d b:Expr)(wi:TI):Prop:=∀(a:List (Addr×Obj))(s:Shared)(c:St)(H:Hp)(R:It->Hp->Prop),Inv X a c H s->wi c H R->wpAny (model X.prog X.w) X.A (eval b X.env) (λv s1=>wpAny (model X.prog X.w) X.A (pyIter v) (PIE X a c d R) X.xe s1) X.xe s
def zG{M A E s b it u o n vs Q}(e:s.heap.get? it=some o)(c:o.cls=.type n)(d:o.data=.fields vs)(f:["enumerate","zip","dict_itemiterator","dict_reverseitemiterator","odict_iterator","itertools.zip_longest","itertools.pairwise"].contains n=false)(a:Q () s):wpAny M A (letOwnedTupleGo b (.ref it) u) Q E s:=by cases b<;>first|exact ao7 a|(cases u<;>first|exact ao7 a| (refine ao3 (wpAny_load e ?_);rw[c,d];show wpAny M A (if(["enumerate","zip","dict_itemiterator","dict_reverseitemiterator","odict_iterator","itertools.zip_longest","itertools.pairwise"].contains n&&vs[0]?==some (rawInt _))=true then _ else _) Q E s;rw[ao9 (by grind)];exact ao7 a))
noncomputable def Itl(K:W.Frag)(a:Addr):It:=⟨λi H=>∃b x,SqL K H a b/\b[i]?=some x,λi H x c=>c=H/\∀b,SqL K H a b->b[i]?=some x,λi H=>∃b,SqL K H a b/\b.length<=i⟩
noncomputable def Itt(K:W.Frag)(a:Addr):It:=⟨λi H=>∃b x,SqT K H a b/\b[i]?=some x,λi H x c=>c=H/\∀b,SqT K H a b->b[i]?=some x,λi H=>∃b,SqT K H a b/\b.length<=i⟩
noncomputable def Itr(lo:Int)(n:Nat):It:=⟨λi _=>i<n,λi H x a=>a=H/\x=.int (lo+i),λi _=>n<=i⟩
def aaR{P:Program}{w:World}{K:W.Frag}{tg:Expr}(a it:Addr):Turn P w K tg (Itl K a) [it] it λi h=>h.IsListIter it a i where
 mem:=by simp
 obj:=λi h st b hb=>by
  have e:b=it:=by simpa using hb
  subst e;obtain⟨o,e,c,d⟩:=st;exact⟨o,e,λv z=>by rw[d]at z;cases z⟩
 keep:=λi h h' st k=>st.at λo e=>k it (by simp) o e;item:=by intro X hP hw hK i pins s σ H E hc I hf st hg;subst hP hw hK;obtain⟨xs,x,hq,hx⟩:=hg;obtain⟨its,rv,p,hz⟩:=I.list hq;obtain⟨u,hu,ru⟩:=rv.get hx;obtain⟨f0,f1,f2,f3,f4,f5⟩:=hf it (by simp);refine wpAny_pyNext_list_item st p.isList (x:=u) (by simpa using hu) λh' st' sb=>?_;have I1:Inv X pins σ H {s with heap:=h'}:=I.turned (t':=s.toks) (λb o hb e=>(sb.2 b hb).trans e) f0 f1 f3 f4 f5;obtain⟨o,e,c,d⟩:=id st';exact⟨u,rfl,zG (s:={s with heap:=h'}) e c d (by decide) ⟨x,H,I1,ru,⟨rfl,λys hy=>by rw[I.yh hy hq];exact hx⟩,st',λb hb=>(hf b hb).1⟩⟩
 done:=by intro X hP hw hK i pins s σ H E hc I hf st hg;subst hP hw hK;obtain⟨xs,hq,hx⟩:=hg;obtain⟨its,rv,p,hz⟩:=I.list hq;obtain⟨f0,f1,f2,f3,f4,f5⟩:=hf it (by simp);have hl:=rv.length;exact wpAny_pyNext_list_end (I.ok.hd hc) st p.isList (by simp;omega) λh' eb=>⟨rfl,I.turned (t':=s.toks) (λb o hb e=>eb b o hb e) f0 f1 f3 f4 f5⟩
 self:=λ_ _ _ _ _ st h=>wpAny_pyIter_listiter st h
def yU{P:Program}{w:World}{K:W.Frag}{tg:Expr}(a it:Addr):Turn P w K tg (Itt K a) [it] it λi h=>h.IsTupleIter it a i where
 mem:=by simp
 obj:=λi h st b hb=>by
  have e:b=it:=by simpa using hb
  subst e;obtain⟨o,e,c,d⟩:=st;exact⟨o,e,λv z=>by rw[d]at z;cases z⟩
 keep:=λi h h' st k=>st.at λo e=>k it (by simp) o e;item:=by intro X hP hw hK i pins s σ H E hc I hf st hg;subst hP hw hK;obtain⟨xs,x,hq,hx⟩:=hg;obtain⟨its,rv,p,hz⟩:=I.tuple hq;obtain⟨u,hu,ru⟩:=rv.get hx;obtain⟨f0,f1,f2,f3,f4,f5⟩:=hf it (by simp);refine wpAny_pyNext_tuple_item st (show s.heap.IsTuple a its.toArray from p) (x:=u) (by simpa using hu) λh' st' sb=>?_;have I1:Inv X pins σ H {s with heap:=h'}:=I.turned (t':=s.toks) (λb o hb e=>(sb.2 b hb).trans e) f0 f1 f3 f4 f5;obtain⟨o,e,c,d⟩:=id st';exact⟨u,rfl,zG (s:={s with heap:=h'}) e c d (by decide) ⟨x,H,I1,ru,⟨rfl,λys hy=>by rw[I.sG hy hq];exact hx⟩,st',λb hb=>(hf b hb).1⟩⟩
 done:=by intro X hP hw hK i pins s σ H E hc I hf st hg;subst hP hw hK;obtain⟨xs,hq,hx⟩:=hg;obtain⟨its,rv,p,hz⟩:=I.tuple hq;obtain⟨f0,f1,f2,f3,f4,f5⟩:=hf it (by simp);have hl:=rv.length;exact wpAny_pyNext_tuple_end (I.ok.hd hc) st (show s.heap.IsTuple a its.toArray from p) (by simp;omega) λh' eb=>⟨rfl,I.turned (t':=s.toks) (λb o hb e=>eb b o hb e) f0 f1 f3 f4 f5⟩
 self:=λ_ _ _ _ _ st h=>wpAny_pyIter_tupleiter st h
def yV{P:Program}{w:World}{K:W.Frag}{tg:Expr}(it:Addr)(lo:Int)(n:Nat):Turn P w K tg (Itr lo n) [it] it λi h=>IsRangeIter h it (lo+(i:Nat)*1) ((n:Int)-(i:Nat)) 1 where
 mem:=by simp
 obj:=λi h st b hb=>by
  have e:b=it:=by simpa using hb
  subst e;exact⟨_,st,λv z=>by have z':Data.fields _=Data.cell v:=z;cases z'⟩
 keep:=λi h h' st k=>k it (by simp) _ st;item:=by intro X hP hw hK i pins s σ H E hc I hf st hg;subst hP hw hK;obtain⟨f0,f1,f2,f3,f4,f5⟩:=hf it (by simp);have W:=Walks.range (prog:=X.prog) (w:=X.w) (I.ok.hd hc) it lo 1 n;refine W.item i s _ _ hg st λv h' tk hv st' kk=>?_;obtain⟨t,rfl⟩:=hv;have I1:Inv X pins σ H {s with heap:=h',toks:=tk}:=I.turned (λb o hb e=>kk b o (by simpa using hb) e) f0 f1 f3 f4 f5;refine⟨_,rfl,zG (s:={s with heap:=h',toks:=tk}) (n:="range_iterator") st' rfl rfl (by decide) ⟨.int (lo+i),H,I1,⟨t,?_⟩,⟨rfl,rfl⟩,st',λb hb=>(hf b hb).1⟩⟩;rw[Int.mul_one]
 done:=by intro X hP hw hK i pins s σ H E hc I hf st hg;subst hP hw hK;obtain⟨f0,f1,f2,f3,f4,f5⟩:=hf it (by simp);exact wpAny_pyNext_range_end (I.ok.hd hc) st (by have:n<=i:=hg;omega) λh' eb=>⟨rfl,I.turned (t':=s.toks) (λb o hb e=>eb b o hb e) f0 f1 f3 f4 f5⟩
 self:=λ_ _ _ _ _ st h=>wpAny_pyIter_rangeiter st h
section
variable{X:Cx}{tg:Expr}
def xK{pins}{d:St}{H s R E lo a t u v tk}(I:Inv X pins d H s)(g:-2^62<=lo)(j:lo<2^62)(h:-2^62<=a)(f:a<2^62)(q:R (Itr lo (a-lo).toNat) H):wpAny (model X.prog X.w) X.A (pyIter (.ref s.heap.objs.size)) (PIE X pins d tg R) E {s with heap:=s.heap.push {cls:=.type "range",data:=.fields #[.int lo t,.int a u,.int 1 v]},toks:=tk}:=by
 refine wpAny_pyIter_range (IsRange.new ..) (small_one g j h f) ?_;have c:Inv X pins d H {s with heap:=s.heap.push {cls:=.type "range",data:=.fields #[.int lo t,.int a u,.int 1 v]},toks:=tk}:=I.kept λb o e=>ao4 _ e;refine⟨_,_,_,_,H,rfl,c.kept (t':=tk) λb o e=>ao4 _ e,yV _ lo _,?_,λb l=>?_,q⟩
 .have k:lo+((0:Nat):Int)*1=lo:=by simp
  have i:(((a-lo).toNat:Nat):Int)-((0:Nat):Int)=Builtin.Range.rangeSize lo a 1:=by rw[rangeSize_one];split<;>omega
  rw[k,i];exact apg _ rfl
 .have e:b=(s.heap.push {cls:=.type "range",data:=.fields #[.int lo t,.int a u,.int 1 v]}).objs.size:=by simpa using l
  subst e;exact c.aiv (ao6 _) (c.hok.fresh (ao6 _))
def gz(ta:TA):TI:=λc H R=>ta c H λb a=>∃j:Int,b=[.int j]/\-2^62<=j/\j<2^62/\R (Itr 0 j.toNat) a
def vM(ta:TA):TI:=λc H R=>ta c H λb a=>∃i j:Int,b=[.int i,.int j]/\(-2^62<=i/\i<2^62/\-2^62<=j/\j<2^62)/\R (Itr i (j-i).toNat) a
def abD{a ta p pos}(i:Gl X "range")(g:X.mg "range"=none)(c:PA X [a] ta)(k:starEach [a] X.env=[(false,eval a X.env)]:=by rfl):PI X tg (.Call (.Name "range" p) [a] [] pos) (gz ta):=by intro b s f H R I h;refine Call_ (kZ I i g asx (apV (thn (c _ _ s f H _ I h) λm s1⟨n,l,d,r1,q1⟩=>?_) k rfl));obtain⟨j,e,q1,q2,q⟩:=q1;subst e;cases r1 with|cons r rr=>cases rr;obtain⟨t,rfl⟩:=r;exact call_range_1 (xK d (by omega) (by omega) q1 q2 (by grind))
def abC{a b ta p pos}(m:Gl X "range")(l:X.mg "range"=none)(f:PA X [a,b] ta)(w:starEach [a,b] X.env=[(false,eval a X.env),(false,eval b X.env)]:=by rfl)(c:starEach [b] X.env=[(false,eval b X.env)]:=by rfl):PI X tg (.Call (.Name "range" p) [a,b] [] pos) (vM ta):=by intro d s k H R I h;refine Call_ (kZ I m l asx (apV (thn (f pos _ s k H _ I h) λo s1⟨v,n,g,r1,q1⟩=>?_) (by grind) (by rw[c];rfl)));obtain⟨i,j,e,⟨q1,q2,q3,q4⟩,q⟩:=q1;subst e;cases r1 with|cons r rr=>cases rr with|cons r' rr=>cases rr;obtain⟨t,rfl⟩:=r;obtain⟨u,rfl⟩:=r';exact call_range_2 (xK g q1 q2 q3 q4 q)
def anx(wi:TI)(g:TG)(tb:TS):TS:=λD a H=>wi a H λJ f=>∃W:Nat->Nat->St->Hp->Prop,(∃m,W 0 m a f)/\∀i m a H,W i m a H->J.stop i H/\D.nx a H\/J.go i H/\∃N:St->Hp->Prop,(∀c b,N c b->∃e,e<m/\W (i+1) e c b)/\∀x b,J.yld i H x b->g x a b λd h=>tb {D with nx:=N,ct:=N,bk:=D.nx} d h
noncomputable def tq(a:List Addr)(h:Heap):List (Addr×Obj):=a.filterMap λb=>(h.get? b).map λo=>(b,o)
def iw{a h b o}(c:b∈a)(e:h.get? b=some o):(b,o)∈tq a h:=List.mem_filterMap.mpr ⟨b,c,by grind⟩
def abV{a h p}(d:p∈tq a h):p.1∈a/\h.get? p.1=some p.2:=by obtain⟨b,f,e⟩:=List.mem_filterMap.mp d;cases q:h.get? b with|none=>rw[q]at e;cases e|some o=>rw[q]at e;have c:=aps e;subst c;exact⟨f,q⟩
def Inv.pinned{pins}{c:St}{H s a}(I:Inv X pins c H s)(l:∀b∈a,yL X pins H b)(j:∀b∈a,∃o,s.heap.get? b=some o/\∀v,o.data≠.cell v):Inv X (pins++tq a s.heap) c H s:=I.hT λp m=>(aqu.mp m).elim (λz=>I.pin p (apm _ z)) λz=>by obtain⟨g,e⟩:=abV z;refine alN (l _ g) λh i k _=>?_;refine eM (j _ g) λo f d=>?_;rw[e]at f;cases f;exact⟨e,h,i,k,d⟩
def Inv.qC{pins pl}{a:St}{H s}(I:Inv X (pins++pl) a H s):Inv X pins a H s:=I.hT λp b=>I.pin p (apm _ (apH _ b))
def xN{k body wi g tb pos}(B:PassesOwn (model X.prog X.w) X.A X.env X.xe)(U:X.calm=true)(hi:PI X tg k wi)(hg:PG X tg g)(l:PSs X body tb)(hs:∀x,foldedSetIterable k X.env x=pure x:=by intro _;rfl):PS X (.For tg k body [] pos) (anx wi g tb):=by
 intro a s σ H D I h;refine wpAny_For (thn (hi a s σ H _ I h) λv s1 h1=>thn h1 λa0 s2 h2=>?_) hs;obtain⟨it,C,Y,J,H2,e,I2,T,S,f2,W,⟨m0,w0⟩,turn⟩:=h2;subst e;-- what stays true of the iterator's objects through the loop
 have q:∀{t:Hp},(∀b∈C,t b=none)->∀b∈C,yL X a t b:=λhn b l=>⟨hn b l,(f2 b l).2⟩;refine codeAny_forLoop_any (λn Z=>∃i p t,Inv X a p t Z/\Y i Z.heap/\(∀b∈C,t b=none)/\W i n p t) ?_ m0 (r9 0 σ H2 I2 S (λb l=>(f2 b l).1) w0);rintro n s3⟨i,j,K,I3,G,E,w3⟩;rcases turn i n j K w3 with⟨A,qn⟩|⟨go,N,hN,step⟩;.refine aqe B (thn (T.done X rfl rfl rfl i a s3 j K X.xe U I3 (q E) G A) λr s4⟨Q,I4⟩=>?_);subst Q;exact aqd ⟨j,K,I4,qn⟩
 .refine aqe B (thn (T.item X rfl rfl rfl i a s3 j K X.xe U I3 (q E) G go) λr s4⟨u,Q,h4⟩=>?_);subst Q;refine aqe B (thn h4 λ_ s5⟨x,H5,I5,r5,y5,z,O⟩=>?_);have P:=I5.pinned (q O) (T.obj _ _ z);refine aqe B (thn (hg _ s5 j H5 x u _ P r5 (step x H5 y5)) λ_ s6⟨R,H6,I6,q6⟩=>?_);refine aqe B (thn (l _ s6 R H6 _ I6 q6) λf s7 q7=>?_);have again:∀{c:St}{w:Hp},Inv X (a++tq C s5.heap) c w s7->N c w->∃m,m<n/\∃i p t,Inv X a p t s7/\Y i s7.heap/\(∀b∈C,t b=none)/\W i m p t:=λ{c w}y M=>by refine eM (hN c w M) λm' hm w7=>?_;refine⟨m',hm,i+1,c,w,y.qC,T.keep _ _ _ z λb l o e=>(y.pin (b,o) (apm _ (apm _ (iw l e)))).1,λb l=>?_,w7⟩;obtain⟨o,e,d⟩:=T.obj _ _ z b l;exact(y.pin (b,o) (apm _ (apm _ (iw l e)))).2.1
  cases f with|next|cont=>obtain⟨c,w,y,M⟩:=q7;exact again y M|brk=>refine dv q7 λc w y q7=>?_;exact⟨c,w,y.qC,q7⟩|ret v=>refine aag q7 λx7 c w y r7 q7=>?_;exact agA x7 c w y.qC r7 q7
end
abbrev R2:=V->V->Hp->VK->Prop
def OpR(X:Cx)(f:Value->Value->Sem Value)(r:R2):Prop:=∀(a:List (Addr×Obj))(s:Shared)(b:St)(H:Hp)(x y:V)(v u:Value)(Q:VK),Inv X a b H s->RelV x v->RelV y u->r x y H Q->wpAny (model X.prog X.w) X.A (f v u) (EP X a b Q) X.xe s
def UnR(X:Cx)(f:Value->Sem Value)(r:V->Hp->VK->Prop):Prop:=∀(a:List (Addr×Obj))(s:Shared)(b:St)(H:Hp)(x:V)(v:Value)(Q:VK),Inv X a b H s->RelV x v->r x H Q->wpAny (model X.prog X.w) X.A (f v) (EP X a b Q) X.xe s
def bP(X:Cx)(f:Value)(r:List V->Hp->VK->Prop):Prop:=∀(a:List (Addr×Obj))(s:Shared)(d:St)(H:Hp)(c:List V)(b:List Value)(Q:VK),Inv X a d H s->Vals c b->r c H Q->wpAny (model X.prog X.w) X.A (call f b) (EP X a d Q) X.xe s
def ao1(X:Cx)(r:V->Hp->(Bool->Hp->Prop)->Prop):Prop:=∀(a:List (Addr×Obj))(s:Shared)(b:St)(H:Hp)(x:V)(v:Value)(Q:Bool->Hp->Prop),Inv X a b H s->RelV x v->r x H Q->wpAny (model X.prog X.w) X.A (truthy v) (TP X a b Q) X.xe s
def tOp(r:R2)(ta tb:TE):TE:=λa H Q=>ta a H λx b=>tb a b λy c=>r x y c Q
def tUn(r:V->Hp->VK->Prop)(ta:TE):TE:=λb H Q=>ta b H λx a=>r x a Q
def rI(C:Int->Int->Prop)(g:Int->Int->V):R2:=λx y H Q=>∃i j,x=.int i/\y=.int j/\C i j/\Q (g i j) H
def rI0(g:Int->Int->V):R2:=λx y H Q=>∃i j,x=.int i/\y=.int j/\Q (g i j) H
def rU(g:Int->V):V->Hp->VK->Prop:=λx H Q=>∃i,x=.int i/\Q (g i) H
section
variable{X:Cx}{a b:Expr}{ta tb:TE}{pos:Pos}
def anf(k:PE X a ta)(o:PE X b tb){pins s}{d:St}{H}{R:V->V->Hp->Prop}(I:Inv X pins d H s)(h:ta d H λx j=>tb d j λy g=>R x y g){Q}{f:Value->Value->Sem Value}(n:∀v u s2 x y g,Inv X pins d g s2->RelV x v->RelV y u->R x y g->wpAny (model X.prog X.w) X.A (f v u) Q X.xe s2):wpAny (model X.prog X.w) X.A (eval a X.env) (λv i=>wpAny (model X.prog X.w) X.A (eval b X.env) (λu e=>wpAny (model X.prog X.w) X.A (f v u) Q X.xe e) X.xe i) X.xe s:=by exact thn (k _ s d H _ I h) λv s1⟨x,j,l,r1,q1⟩=>thn (o _ _ d _ _ l q1) λu s2⟨y,g,m,r2,q2⟩=>n v u _ x y _ m r1 r2 q2
def ajz{op r}(l:OpR X (binaryOp op) r)(e:PE X a ta)(i:PE X b tb):PE X (.BinOp a op b pos) (tOp r ta tb):=by intro d s g H Q I h;exact wpAny_BinOp (anf e i I h λv u s2 x y m f j k q=>l _ _ g _ x y v u Q f j k q)
def amo{op r}(i:UnR X (unaryOp op) r)(f:PE X a ta):PE X (.UnaryOp op a pos) (tUn r ta):=by intro e s d H Q I h;exact UnaryOp_ (thn (f _ s d H _ I h) λv s1⟨x,j,g,r1,q1⟩=>i _ _ d _ x v Q g r1 q1)
def opI{f C}{g:Int->Int->Int}(rule:∀i j t u s Q E,C i j->Q (.int (g i j) s.toks) {s with toks:=s.toks+1}->wpAny (model X.prog X.w) X.A (f (.int i t) (.int j u)) Q E s):OpR X f (rI C λi j=>.int (g i j)):=by intro k s o H x y v u Q I l n h;refine oE h λi j d e m q=>?_;subst d e;obtain⟨t,rfl⟩:=l;obtain⟨p,rfl⟩:=n;exact rule i j t _ s _ _ m (iH (.int _) H (I.tok _) ⟨_,rfl⟩ q)
def anL{f}{g:Int->Int->Int}(rule:∀i j t u s Q E,Q (.int (g i j) s.toks) {s with toks:=s.toks+1}->wpAny (model X.prog X.w) X.A (f (.int i t) (.int j u)) Q E s):OpR X f (rI0 λi j=>.int (g i j)):=by intro k s n H x y v u Q I l m h;refine oC h λi j d e q=>?_;subst d e;obtain⟨t,rfl⟩:=l;obtain⟨o,rfl⟩:=m;exact rule i j t _ s _ _ (iH (.int _) H (I.tok _) ⟨_,rfl⟩ q)
def amx{f}{g:Int->Int->Bool}(rule:∀i j t u s Q E,Q (.bool (g i j)) s->wpAny (model X.prog X.w) X.A (f (.int i t) (.int j u)) Q E s):OpR X f (rI0 λi j=>.bl (g i j)):=by intro d s l H x y v u Q I e k h;obtain⟨i,j,rfl,rfl,q⟩:=h;obtain⟨t,rfl⟩:=e;obtain⟨m,rfl⟩:=k;exact rule i j t _ s _ _ ⟨.bl _,H,I,rfl,q⟩
def anp(i j:Int):Prop:=-2^64<i/\i<2^64\/-2^64<j/\j<2^64
def anp.ok{i j}(h:anp i j):IntMulOk i j:=by
 rcases h with⟨e,d⟩|⟨e,d⟩;.exact .of_left (intBits_le_64 e d)
 .exact .of_right (intBits_le_64 e d)
def ajP:OpR X (binaryOp .Add) (rI0 λi j=>.int (i+j)):=anL λ_ _ _ _ _ _ _ q=>add_int q
def ajH:OpR X (binaryOp .Sub) (rI0 λi j=>.int (i-j)):=anL λ_ _ _ _ _ _ _ q=>sub_int q
def ajJ:OpR X (binaryOp .Mult) (rI anp λi j=>.int (i*j)):=opI λ_ _ _ _ _ _ _ d q=>mul_int q d.ok
def ajK:OpR X (binaryOp .Mod) (rI (λ_ j=>0<j) λi j=>.int (i%j)):=opI λi j _ _ _ _ _ d q=>by have e:(0:Int)<j:=d;exact mod_int' (by omega) (by rw[Int.fmod_eq_emod_of_nonneg i (by omega)];exact q)
def unI{f}{g:Int->Int}(rule:∀i t s Q E,Q (.int (g i) s.toks) {s with toks:=s.toks+1}->wpAny (model X.prog X.w) X.A (f (.int i t)) Q E s):UnR X f (rU λi=>.int (g i)):=by intro d s j H x v Q I e h;obtain⟨i,rfl,q⟩:=h;obtain⟨t,rfl⟩:=e;exact rule i t s _ _ ⟨.int _,H,I.tok _,⟨_,rfl⟩,q⟩
def aiY:UnR X (unaryOp .USub) (rU λi=>.int (-i)):=unI λ_ _ _ _ _ q=>neg_int q
end
noncomputable def ama:V->V->Bool|.non,.non=>true|.non,.int _=>true|.int _,.non=>true|.non,.bl _=>true|.bl _,.non=>true|.non,.str _=>true|.str _,.non=>true|.int _,.int _=>true|.bl _,.bl _=>true|.str _,.str _=>true|.byt _,.byt _=>true|.int _,.str _=>true|.str _,.int _=>true|.bl _,.str _=>true|.str _,.bl _=>true|_,_=>false
def rEq:R2:=λx y H Q=>ama x y=true/\Q (.bl (decide (x=y))) H
def rNe:R2:=λx y H Q=>ama x y=true/\Q (.bl !decide (x=y)) H
def v5{i j:Int}:decide (V.int i=V.int j)=(i==j):=by rw[ap7];simp
def acZ{i j:Bool}:decide (V.bl i=V.bl j)=(i==j):=by rw[ap7];simp
def vZ{i j:Str}:decide (V.str i=V.str j)=(i==j):=by rw[ap7];simp
def acY{i j}:decide (V.byt i=V.byt j)=(i.toList==j.toList):=by rw[ap7];cases i;cases j;simp
section
variable{X:Cx}{a b c:Expr}{ta tb tc:TE}{pos:Pos}
def aT{pins}{d:St}{H s Q k k'}(I:Inv X pins d H s)(q:Q (.bl k) H)(e:k=k'):EP X pins d Q (.bool k') s:=by subst e;exact⟨.bl k,H,I,rfl,q⟩
def amw:OpR X (compareOp .Eq) rEq:=by intro k s l H x y v u Q I g d h;obtain⟨f,q⟩:=h;cases x with
|non=>cases g;cases y with|non=>cases d;exact PySem.EqNone.eq_none_none (aT I q (by simp))|bl j=>cases d;exact PySem.EqNone.eq_none_bool (aT I q (by simp))|int j=>obtain⟨e,rfl⟩:=d;exact PySem.EqNone.eq_none_int (aT I q (by simp))|str j=>obtain⟨e,rfl⟩:=d;exact PySem.EqNone.eq_none_str (aT I q (by simp))|_=>exact absurd (show false=true from f) apo
|bl i=>cases g;cases y with|non=>cases d;exact PySem.EqNone.eq_bool_none (aT I q (by simp))|bl j=>cases d;exact eq_bool (aT I q acZ)|str j=>obtain⟨e,rfl⟩:=d;exact PySem.EqMixed.eq_bool_str (aT I q (by simp))|_=>exact absurd (show false=true from f) apo
|int i=>obtain⟨t,rfl⟩:=g;cases y with|non=>cases d;exact PySem.EqNone.eq_int_none (aT I q (by simp))|int j=>obtain⟨e,rfl⟩:=d;exact eq_int (aT I q v5)|str j=>obtain⟨e,rfl⟩:=d;exact PySem.EqMixed.eq_int_str (aT I q (by simp))|_=>exact absurd (show false=true from f) apo
|str i=>obtain⟨t,rfl⟩:=g;cases y with|non=>cases d;exact PySem.EqNone.eq_str_none (aT I q (by simp))|bl j=>cases d;exact PySem.EqMixed.eq_str_bool (aT I q (by simp))|int j=>obtain⟨e,rfl⟩:=d;exact PySem.EqMixed.eq_str_int (aT I q (by simp))|str j=>obtain⟨e,rfl⟩:=d;exact eq_str (aT I q vZ)|_=>exact absurd (show false=true from f) apo
|byt i=>obtain⟨t,rfl⟩:=g;cases y with|byt j=>obtain⟨e,rfl⟩:=d;exact W.eq_bytes (aT I q acY)|_=>exact absurd (show false=true from f) apo
|_=>cases y<;>exact absurd (show false=true from f) apo
def ams:OpR X (compareOp .NotEq) rNe:=by intro k s l H x y v u Q I g d h;obtain⟨f,q⟩:=h;cases x with
|non=>cases g;cases y with|non=>cases d;exact PySem.EqNone.ne_none_none (aT I q (by simp))|bl j=>cases d;exact PySem.EqNone.ne_none_bool (aT I q (by simp))|int j=>obtain⟨e,rfl⟩:=d;exact PySem.EqNone.ne_none_int (aT I q (by simp))|str j=>obtain⟨e,rfl⟩:=d;exact PySem.EqNone.ne_none_str (aT I q (by simp))|_=>exact absurd (show false=true from f) apo
|bl i=>cases g;cases y with|non=>cases d;exact PySem.EqNone.ne_bool_none (aT I q (by simp))|bl j=>cases d;exact ne_bool (aT I q (aqq not acZ))|str j=>obtain⟨e,rfl⟩:=d;exact PySem.EqMixed.ne_bool_str (aT I q (by simp))|_=>exact absurd (show false=true from f) apo
|int i=>obtain⟨t,rfl⟩:=g;cases y with|non=>cases d;exact PySem.EqNone.ne_int_none (aT I q (by simp))|int j=>obtain⟨e,rfl⟩:=d;exact ne_int (aT I q (aqq not v5))|str j=>obtain⟨e,rfl⟩:=d;exact PySem.EqMixed.ne_int_str (aT I q (by simp))|_=>exact absurd (show false=true from f) apo
|str i=>obtain⟨t,rfl⟩:=g;cases y with|non=>cases d;exact PySem.EqNone.ne_str_none (aT I q (by simp))|bl j=>cases d;exact PySem.EqMixed.ne_str_bool (aT I q (by simp))|int j=>obtain⟨e,rfl⟩:=d;exact PySem.EqMixed.ne_str_int (aT I q (by simp))|str j=>obtain⟨e,rfl⟩:=d;exact ne_str (aT I q (aqq not vZ))|_=>exact absurd (show false=true from f) apo
|byt i=>obtain⟨t,rfl⟩:=g;cases y with|byt j=>obtain⟨e,rfl⟩:=d;exact W.ne_bytes (aT I q (aqq not acY))|_=>exact absurd (show false=true from f) apo
|_=>cases y<;>exact absurd (show false=true from f) apo
def amt:OpR X (compareOp .Lt) (rI0 λi j=>.bl (decide (i<j))):=amx λ_ _ _ _ _ _ _ q=>lt_int q
def amu:OpR X (compareOp .LtE) (rI0 λi j=>.bl (decide (i<=j))):=amx λ_ _ _ _ _ _ _ q=>le_int q
def amv:OpR X (compareOp .Gt) (rI0 λi j=>.bl (decide (j<i))):=amx λ_ _ _ _ _ _ _ q=>gt_int q
def abO:OpR X (compareOp .In) λx y H Q=>∃i j,x=.str i/\y=.str j/\Q (.bl !(Builtin.Str.occurrences j i 0 j.length 1).isEmpty) H:=by intro d s g H x y v u Q I e f h;obtain⟨i,j,rfl,rfl,q⟩:=h;obtain⟨t,rfl⟩:=e;obtain⟨k,rfl⟩:=f;exact in_str (aT I q rfl)
def ajL:OpR X (compareOp .Is) λx y H Q=>y=.non/\Q (.bl (decide (x=.non))) H:=by intro d s g H x y v u Q I e f h;obtain⟨rfl,q⟩:=h;cases f;refine is_none_gen (aT I q ?_);cases x<;>(obtain⟨t,rfl⟩:=e;rfl)
def ahv:OpR X (compareOp .IsNot) λx y H Q=>y=.non/\Q (.bl !decide (x=.non)) H:=by intro d s g H x y v u Q I e f h;obtain⟨rfl,q⟩:=h;cases f;refine isnot_none_gen (aT I q ?_);cases x<;>(obtain⟨t,rfl⟩:=e;rfl)
def OpR.or{f r g}(h:OpR X f r)(h':OpR X f g):OpR X f λx y H Q=>r x y H Q\/g x y H Q:=by
 intro j s i H x y v u Q I d e q;rcases q with q|q;.exact h _ s i H x y v u Q I d e q
 .exact h' _ s i H x y v u Q I d e q
def bz(b){op}(h:op≠.In:=by decide)(d:op≠.NotIn:=by decide):behindInMarks op b=false:=aeD b h d
def abI{op r}(m:OpR X (compareOp op) r)(e:PE X a ta)(i:PE X b tb)(j:behindInMarks op b=false):PE X (.Compare a [op] [b] pos) (tOp r ta tb):=by intro d s g H Q I h;exact wpAny_Compare1 (anf e i I h λv u s2 x y n f k l q=>m _ _ g _ x y v u Q f k l q) j
def ad5(t:TE):TT:=λe H Q=>t e H λx d=>∃k,x=.bl k/\Q k d
def abu{op r}(q:OpR X (compareOp op) r)(g:PE X a ta)(m:PE X b tb)(n:behindInMarks op b=false):PT X (.Compare a [op] [b] pos) (ad5 (tOp r ta tb)):=by intro f s d H Q I h;refine wpAny_isTrue_Compare1 (thn (g _ s d H _ I h) λv s1⟨x,t,i,r1,q1⟩=>thn (m _ _ d _ _ i q1) λu s2⟨y,w,j,r2,q2⟩=>thn (q _ _ d _ x y v u _ j r1 r2 q2) λc s3⟨z,l,p,o,k,e,q3⟩=>?_) n;subst e;cases o;exact apS ⟨l,p,q3⟩
def aa1(r j:R2)(ta tb tc:TE):TE:=λd H Q=>ta d H λx f=>tb d f λy h=>r x y h λz e=>∃k,z=.bl k/\if k=true then tc d e λg i=>j y g i Q else Q (.bl false) e
def aes{op g r m}(w:OpR X (compareOp op) r)(j:OpR X (compareOp g) m)(C:PE X a ta)(A:PE X b tb)(q:PE X c tc)(M:lastMarks [op,g] [b,c]=false:=by with_unfolding_all rfl):PE X (.Compare a [op,g] [b,c] pos) (aa1 r m ta tb tc):=by intro f s i H Q I h;refine Compare_chain (thn (C _ s i H _ I h) λv s1⟨x,o,p,r1,q1⟩=>chain_link (thn (A _ s1 i o _ p q1) λu s2⟨y,K,G,r2,q2⟩=>thn (w _ s2 i K x y v u _ G r1 r2 q2) λd s3⟨z,l,n,N,k,e,q3⟩=>?_)) M;subst e;cases N;refine apS ?_;cases k with|false=>exact ite_ff ⟨.bl _,l,n,rfl,q3⟩|true=>exact ite_tt (chain_last (thn (q f s3 i l _ n q3) λJ s4⟨E,D,B,t,q4⟩=>j f s4 i D y E u J Q B r2 t q4))
def aei{op g r m}(A:OpR X (compareOp op) r)(j:OpR X (compareOp g) m)(D:PE X a ta)(B:PE X b tb)(t:PE X c tc)(O:lastMarks [op,g] [b,c]=false:=by with_unfolding_all rfl):PT X (.Compare a [op,g] [b,c] pos) (ad5 (aa1 r m ta tb tc)):=by intro f s i H Q I h;refine isTrue_chain (thn (D f s i H _ I h) λv s1⟨x,o,p,r1,q1⟩=>test_link (thn (B _ s1 i o _ p q1) λu s2⟨y,N,K,r2,q2⟩=>thn (A _ s2 i N x y v u _ K r1 r2 q2) λd s3⟨z,l,n,R,k,e,q3⟩=>?_)) O;subst e;cases R;refine apS ?_;cases k with|false=>obtain⟨k',U,J⟩:=q3;cases U;exact ite_ff ⟨l,n,J⟩|true=>refine ite_tt (test_last (thn (t _ s3 i l _ n q3) λM s4⟨G,E,C,w,q4⟩=>thn (j f s4 i E y G u M _ C r2 w q4) λY s5⟨z2,S,T,P,k2,q,q5⟩=>?_));subst q;cases P;exact apS ⟨S,T,q5⟩
def aoh(K:W.Frag)(x:V)(H:Hp)(k:Bool):Prop:=match x with|.non=>k=false|.bl b=>k=b|.int i=>k=(i !=0)|.str y=>y.length<=sizeLine/\k=((y.length:Int)!=0)|.byt y=>y.size<=sizeLine/\k=((y.size:Int)!=0)|.ref p=>(∃d,SqL K H p d/\k=!d.isEmpty)\/(∃d,SqT K H p d/\k=!d.isEmpty)\/∃e,H p=some (.dK e)/\k=!e.isEmpty|_=>False
def zF{d:Type}{kvs:List (d×V)}{vs:List (d×Value)}(r:KV kvs vs):(!vs.isEmpty)=!kvs.isEmpty:=by cases r<;>rfl
def qc{xs:List V}{its:List Value}(r:Vals xs its):(!its.toArray.isEmpty)=!xs.isEmpty:=by cases r<;>simp
def pV:sizeLine<2^63:=by decide
def ai0:ao1 X λx H Q=>∃k,aoh X.K x H k/\Q k H:=by intro w s D H x v Q I l h;obtain⟨k,e,q⟩:=h;have C:=pV;have E:sizeLine=16777216:=aqo;cases x with|non=>cases l;have d:k=false:=e;subst d;exact truthy_none ⟨H,I,q⟩|bl b=>cases l;have d:k=b:=e;subst d;exact apS ⟨H,I,q⟩|int i=>obtain⟨t,rfl⟩:=l;have d:k=(i !=0):=e;subst d;exact PySem.P.truthy_int ⟨H,I,q⟩|str y=>obtain⟨t,rfl⟩:=l;obtain⟨B,d⟩:y.length<=sizeLine/\k=((y.length:Int)!=0):=e;subst d;exact PySem.P.truthy_str (by omega) ⟨H,I.tok _,q⟩|byt y=>obtain⟨t,rfl⟩:=l;obtain⟨B,d⟩:y.size<=sizeLine/\k=((y.size:Int)!=0):=e;subst d;exact W.truthy_bytes (by omega) ⟨H,I.tok _,q⟩|ref p=>
 cases l;have d:(∃j,SqL X.K H p j/\k=!j.isEmpty)\/(∃j,SqT X.K H p j/\k=!j.isEmpty)\/∃f,H p=some (.dK f)/\k=!f.isEmpty:=e;rcases d with⟨j,n,d⟩|⟨j,n,d⟩|⟨f,n,d⟩;.subst d;obtain⟨u,r,pl,z⟩:=I.list n;have g:=r.length;exact wpAny_truthy_list pl.isList (by simp only[apB];omega) ⟨H,I.tok _,by rw[qc r];exact q⟩
 .subst d;obtain⟨u,r,pl,z⟩:=I.tuple n;have g:=r.length;exact truthy_tuple pl (by simp only[apB];omega) ⟨H,I.tok _,by rw[qc r];exact q⟩
 .subst d;obtain⟨z,A,o,r,m⟩:f.length<=sizeLine/\(p==sysModules)=false/\∃o,KV f o/\s.heap.DictOf (bE X.prog X.w) p o:=I.hok p _ n;have g:f.length=o.length:=arK r;exact wpAny_truthy_dict A m (by omega) ⟨H,I.tok _,by rw[zF r];exact q⟩|_=>exact(show False from e).elim
def aeh(j:PE X a ta)(l:∀d,isTrue a X.env d=do let v <-d;standAt a.pos;holding [v] (truthy v)):PT X a λf H Q=>ta f H λx g=>∃k,aoh X.K x g k/\Q k g:=by intro e s f H Q I h;exact isTrue_plain (thn (j e s f H _ I h) λv s1⟨x,i,m,r1,q1⟩=>ai0 e s1 f i x v Q m r1 q1) (l _)
def vals1{x us}(r:Vals [x] us):∃u,us=[u]/\RelV x u:=by cases r with|cons r1 r2=>cases r2;exact⟨_,rfl,r1⟩
def vals2{x y us}(r:Vals [x,y] us):∃u d,us=[u,d]/\RelV x u/\RelV y d:=by cases r with|cons r1 r2=>cases r2 with|cons r3 r4=>cases r4;exact⟨_,_,rfl,r1,r3⟩
end
structure ObjM(h:Heap)(x dx C:Addr)(mA:Str->Option Value):Prop where
 obj:h.get? x=some (W.instObj C dx)ns:h.Ns1 dx mA
 ne:dx≠x
def tZ{h:Heap}{dx f}(n:h.Ns1 dx f):∃od,h.get? dx=some od/\∀b,W.lookIn b od=some (f b):=by
 refine ak7 n λo d p l k m _ i=>?_;refine⟨o,l,λb=>?_⟩;have e:=i b;unfold nsFind findBy at e;rw[<-arH]at e;unfold W.lookIn;rw[k];dsimp ;split;.rename_i y q;rw[q]at e;exact aqq _ e
 .rename_i q;rw[q]at e;have a:d.toList.any (·.refKey)=false:=by rw[List.any_eq_false];intro y g;obtain⟨z,t,c⟩:=m y (Array.mem_toList_iff.mp g);simp[DictEntry.refKey,c]
  have j:¬d.toList.any (·.refKey)=true:=by grind
  rw[ao9 j];exact aqq _ e
def ObjM.look{h x dx C b}(I:ObjM h x dx C b):∃od,W.InstAt h x (W.instObj C dx) C (some od)/\∀a,W.lookIn a od=some (b a):=let⟨od,d,c⟩:=tZ I.ns;⟨od,⟨I.obj,rfl,rfl,d⟩,c⟩
section
variable{prog:Program}{w:World}{A:Around}{E:Value->Shared->Prop}{s:Shared}{K:W.Frag}{x dx C f:Addr}{mA:Str->Option Value}{name:Str}{v:Value}
def get_map{a Q}(X:K.In s.heap)(I:ObjM s.heap x dx C mA)(d:W.plainGet K C name=true)(e:W.hasDictIn K C=true)(c:W.findIn K (.ref C) name=some none)(g:mA name=some v)(b:W.handedIn v=true)(h:Q v {s with toks:=s.toks+1}):wpAny (model prog w) A (getAttr (.ref x) name a) Q E s:=by obtain⟨od,J,i⟩:=I.look;exact W.get_value X J (W.plainGet_of d).1 (W.findObj_own e c rfl (by grind)) b h
def ae3{pl Q}(X:K.In s.heap)(I:ObjM s.heap x dx C mA)(a:W.plainGet K C name=true)(d:W.findIn K (.ref C) name=some (some (.ref f)))(c:W.isFn K (.ref f)=true)(b:mA name=none)(h:Q (.ref f,[.ref x]) s):wpAny (model prog w) A (getMethod (.ref x) name pl) Q E s:=by obtain⟨od,J,e⟩:=I.look;exact W.method_fn X J (W.plainGet_of a).1 (W.plainGet_of a).2 d (ap2.mp c) (by show(W.lookIn _ _).map _=some _;rw[e,b];rfl) h
def ahd{ns Q}(X:K.In s.heap)(I:ObjM s.heap x dx C mA)(q:W.findIn K (.ref C) "__setattr__"=some (some (.builtin "object.__setattr__")))(p:W.plainOver K C=true)(l:W.takerIn K C name=some none)(n:W.hasDictIn K C=true)(hw:PySem.Within mA ns)(hsz:ns.length<=sizeLine)(h:∀e,ObjM e x dx C (λy=>if y=name then some v else mA y)->Heap.SameBut dx s.heap e->Q () {s with heap:=e,toks:=s.toks+2}):wpAny (model prog w) A (setAttr (.ref x) name v) Q E s:=by refine eM I.look λod J z=>?_;refine W.set_plain X J q (W.osa_open (s:={s with toks:=s.toks+1}) (r:=none) X J p l λb=>?_);refine eM (W.any_some n) λB o j=>?_;refine ao3 (ao7 (ao3 (ao3 (arB I.obj (ao3 (W.Looks.here (arM X o) ?_))))));rw[j];refine ao7 (a:=some dx) (ao3 (ao7 (ao3 ?_)));refine wpAny_nsSet1 I.ns λe d c=>?_;refine aag (d.count (arR name v hw)) λu t m i k g=>?_;refine ao3 (ar6 i (by rw[k];exact ar7 (apb g (by rw[apj];omega))) ?_);exact ao7 (h _ ⟨(c.2 _ (aph I.ne)).trans I.obj,d,I.ne⟩ c)
def x9{R vs a}(X:K.In s.heap)(d:W.makesIn K C=true)(c:W.findIn K (.ref C) "__init__"=some (some (.ref f)))(e:W.typeIn K (.ref f)=some (.type "function"))(h:codeAny (model prog w) (A.under (.builtin "type.__call__" ⟨.ref C::vs,a⟩)) (.call (.ref f) ⟨.ref (s.heap.objs.size+1)::vs,a⟩) (W.InitBack (s.heap.objs.size+1) R) {s with heap:=(s.heap.push W.emptyDict).push (W.instObj C s.heap.objs.size)}):codeAny (model prog w) A (.call (.ref C) ⟨vs,a⟩) R s:=by exact W.make_core (W.makes_of X d) (W.looks_findIn X c) (λb=>W.bind_fn X _ e) (.inl rfl) h
end
noncomputable def l7(f:Str)(v:V):List (Str×V)->List (Str×V)|[]=>[(f,v)]|(g,x)::r=>if g=f then(g,v)::r else(g,x)::l7 f v r
theorem nE(f g)(v):∀fs,(l7 f v fs).lookup g=if g=f then some v else fs.lookup g
|[]=>by
 show List.lookup g [(f,v)]=_;by_cases h:g=f;.simp only[List.lookup,ap2.mpr h,apa h]
 .simp only[List.lookup,apM.mpr h,ao9 h]|(k,x)::r=>by
  have c:=nE f g v r;rw[show l7 f v ((k,x)::r)=if k=f then(k,v)::r else(k,x)::l7 f v r from rfl];by_cases a:k=f
  .rw[apa a];by_cases h:g=k;.have b:(g==k)=true:=ap2.mpr h;simp only[List.lookup,b,apa (h.trans a)]
   .simp only[List.lookup,apM.mpr h,ao9 λe:g=f=>h (e.trans a.symm)]
  .rw[ao9 a];by_cases h:g=k;.simp only[List.lookup,ap2.mpr h,ao9 λe:g=f=>a (h.symm.trans e)]
   .simp only[List.lookup,apM.mpr h];exact c
theorem nJ(f)(v):∀fs,f∈(l7 f v fs).map (·.1)/\∀g,g∈fs.map (·.1)->g∈(l7 f v fs).map (·.1)
|[]=>⟨by simp[l7],λg h=>by simp at h⟩|(k,x)::r=>by
  obtain⟨i1,i2⟩:=nJ f v r;rw[show l7 f v _=if k=f then(k,v)::r else(k,x)::l7 f v r from rfl];by_cases a:k=f;.subst a;exact⟨by simp,λg h=>by simpa using h⟩
  .rw[ao9 a];refine⟨?_,λg h=>?_⟩;.exact apQ _ i1
   .rcases apq.mp h with e|e;.exact apq.mpr (.inl e)
    .exact apQ _ (i2 g e)
theorem nF(f)(v):∀fs,(l7 f v fs).length<=fs.length+1
|[]=>by simp[l7]|(k,x)::r=>by
 have b:=nF f v r;rw[show l7 f v _=if k=f then(k,v)::r else(k,x)::l7 f v r from rfl];by_cases a:k=f;.rw[apa a,apj,apj];omega
 .rw[ao9 a,apj,apj];omega
def u3.some_of{v o}(r:u3 (some v) o):∃u,o=some u/\RelV v u:=by cases o with|none=>exact(r).elim|some u=>exact⟨u,rfl,r⟩
def u3.none_of{o}(r:u3 none o):o=none:=by cases o with|none=>rfl|some u=>exact(r).elim
def um{v u}(r:RelV v u):W.handedIn u=true:=by cases v with|non|bl b=>cases r;rfl|int i|str x|byt b|flt b=>obtain⟨t,e⟩:=r;cases e;rfl|ref a|ty n=>cases r;rfl
section
variable{P:Program}{w:World}{H:Hp}{h:Heap}{a C dx:Addr}{fs:List (Str×V)}
def rz(c:HOk P w H h)(e:H a=some (.ins C dx fs)):∃b,ObjM h a dx C b/\(∀f,u3 (fs.lookup f) (b f))/\PySem.Within b (fs.map (·.1))/\fs.length<=1000/\H dx=some (.own a):=by obtain⟨d,z,g,ob,b,n,r,q⟩:=c a _ e;exact⟨b,⟨ob,n,g⟩,r,q,z,d⟩
end
structure Cls(K:W.Frag)(C:Addr):Prop where
 pg:W.plainGet K C Str.empty=true
 hd:W.hasDictIn K C=true
 po:W.plainOver K C=true
 sa:W.findIn K (.ref C) "__setattr__"=some (some (.builtin "object.__setattr__"))
def Cls.get{K C}(c:Cls K C)(f):W.plainGet K C f=true:=c.pg
def aI(K:W.Frag)(C:Addr)(f:Str):Prop:=W.findIn K (.ref C) f=some none
def aI.alW{K C f}(n:aI K C f):W.takerIn K C f=some none:=by unfold W.takerIn;rw[n];rfl
structure Meth(K:W.Frag)(C:Addr)(m:Str)(f:Addr):Prop where
 at_:W.findIn K (.ref C) m=some (some (.ref f))fn:W.isFn K (.ref f)=true
 kp:W.keepIn K (.ref f)=true
section
variable{X:Cx}{pins:List (Addr×Obj)}{σ:St}{H:Hp}{s:Shared}{a C dx:Addr}{fs:List (Str×V)}{f:Str}{v:V}{A:Around}{E:Value->Shared->Prop}
def zH{b Q}(I:Inv X pins σ H s)(e:H a=some (.ins C dx fs))(c:Cls X.K C)(n:aI X.K C f)(l:fs.lookup f=some v)(h:∀u d,Inv X pins σ H d->RelV v u->Q u d):wpAny (model X.prog X.w) A (getAttr (.ref a) f b) Q E s:=by obtain⟨i,O,r,_,_,_⟩:=rz I.hok e;obtain⟨u,j,g⟩:=u3.some_of (v:=v) (o:=i f) (by grind);exact get_map I.kIn O (c.get f) c.hd n j (um g) (h u _ (I.tok _) g)
def qf{m g pl Q}(I:Inv X pins σ H s)(e:H a=some (.ins C dx fs))(c:Cls X.K C)(k:Meth X.K C m g)(l:fs.lookup m=none)(h:Q (.ref g,[.ref a]) s):wpAny (model X.prog X.w) A (getMethod (.ref a) m pl) Q E s:=by obtain⟨b,O,r,_,_,_⟩:=rz I.hok e;exact ae3 I.kIn O (c.get m) k.at_ k.fn (u3.none_of (by grind)) h
def zb{y u Q}(I:Inv X pins σ H s)(e:H a=some (.ins C dx fs))(c:Cls X.K C)(n:aI X.K C f)(K:fs.length<1000)(J:RelV y u)(h:∀i,Inv X pins σ (upd H a (.ins C dx (l7 f y fs))) i->Q () i):wpAny (model X.prog X.w) A (setAttr (.ref a) f u) Q E s:=by
 obtain⟨l,O,r,j,_,k⟩:=rz I.hok e;have t:(fs.map (·.1)).length<=sizeLine:=by rw[apv,aqo];omega
 refine ahd I.kIn O c.sa c.po n.alW c.hd j t λm d w=>h _ ?_;have B:∃o,m.get? dx=some o:=let⟨o,_,_,D,_⟩:=d.ns;⟨o,D⟩;refine I.write (x:=a) (e:=dx) (by rw[e];exact True.intro) (.inr k) (λb q p z=>(w.2 b p).trans z) B ⟨by rw[ae O.ne];exact k,?_,O.ne,d.obj,_,d.ns,λg=>?_,λg G=>?_⟩;.have:=nF f y fs;omega
 .rw[nE];by_cases q:g=f;.rw[apa q,apa q];exact J
  .rw[ao9 q,ao9 q];exact r g
 .by_cases q:g=f;.rw[q];exact(nJ f y fs).1
  .refine(nJ f y fs).2 g (j g λz=>G ?_);show(if g=f then some u else l g)=none;rw[ao9 q];exact z
def Inv.made(I:Inv X pins σ H s):Inv X pins σ (upd (upd H s.heap.objs.size (.own (s.heap.objs.size+1))) (s.heap.objs.size+1) (.ins C s.heap.objs.size [])) {s with heap:=(s.heap.push W.emptyDict).push (W.instObj C s.heap.objs.size)}:=by
 have c:(s.heap.push W.emptyDict).get? s.heap.objs.size=some W.emptyDict:=apg s.heap rfl;have j:=by have:=apg (s.heap.push W.emptyDict) (o:=W.instObj C s.heap.objs.size) rfl;rwa[aq3]at this
 have i:=I.laid (o:=.own (s.heap.objs.size+1)) (t':=s.toks) (λb u q=>ao4 _ q) (ao6 _) ⟨_,c⟩;refine i.laid  (λb u q=>ao4 _ q) (ar8 (aq3 _ _)) ?_;have d:s.heap.objs.size≠s.heap.objs.size+1:=api (aqJ _);refine⟨by rw[ae d,ah],apC _,d,j,_,(arS (r9 W.emptyDict #[] _ c rfl (λe g=>absurd g (by simp)) λ_=>rfl)).at λo q=>ao4 _ q,λ_=>True.intro,λy h=>absurd rfl h⟩
def adq{prog w b e f pos s Q}(d:attributeBase e f b (eval e b)=eval e b)(h:wpAny (model prog w) A (eval e b) (λo c=>wpAny (model prog w) A (getAttr o f true) Q E c) E s):wpAny (model prog w) A (eval (.Attribute e f pos) b) Q E s:=Attribute_any_ h (by rw[arm_eval_Attribute,d])
end
def ail(K:W.Frag)(ta:TE)(f:Str):TE:=λd H Q=>ta d H λx b=>∃a C c fs v,x=.ref a/\b a=some (.ins C c fs)/\Cls K C/\aI K C f/\fs.lookup f=some v/\Q v b
def aaj(K:W.Frag)(ta tv:TE)(f:Str):TS:=λD b H=>tv b H λy e=>ta b e λx d=>∃a C c fs,x=.ref a/\d a=some (.ins C c fs)/\Cls K C/\aI K C f/\fs.length<1000/\D.nx b (upd d a (.ins C c (l7 f y fs)))
section
variable{X:Cx}{o e value:Expr}{f:Str}{pos pos':Pos}{ta tv:TE}
def kU(g:PE X e ta)(r:attributeBase e f X.env (eval e X.env)=eval e X.env):PE X (.Attribute e f pos) (ail X.K ta f):=by intro b s m H Q I h;refine adq r (thn (g _ s m H _ I h) λu s1⟨x,d,i,p,a,C,w,fs,v,ex,ea,c,n,l,q⟩=>?_);subst ex;obtain rfl:=p;exact zH i ea c n l λt s2 k j=>⟨v,d,k,j,q⟩
def gj(k:PE X o ta)(i:PE X value tv)(t:swapsWith value (some (.Attribute o f pos')) pos.line X.env=pure false):PS X (.Assign [.Attribute o f pos'] value pos) (aaj X.K ta tv f):=by intro d s b H D I h;refine aqs (thn (i _ s b H _ I h) λu s1⟨y,v,g,j,q⟩=>thn (k _ _ b _ _ g q) λw s2⟨x,A,m,p,a,C,z,fs,ex,ea,c,n,l,q2⟩=>?_) t;subst ex;obtain rfl:=p;exact zb m ea c n l j λs3 r=>⟨b,_,r,q2⟩
end
section
variable{X:Cx}{pins:List (Addr×Obj)}{σ:St}{H:Hp}{s:Shared}{A:Around}{E:Value->Shared->Prop}{Q:Value->Shared->Prop}{c:Value}{b:Bool}
inductive TyOf(K:W.Frag)(H:Hp):V->Value->Prop where|non:TyOf K H .non (.type "NoneType")|bl(x:Bool):TyOf K H (.bl x) (.type "bool")|int(i:Int):TyOf K H (.int i) (.type "int")|str(x:Str):TyOf K H (.str x) (.type "str")|flt(x:UInt64):TyOf K H (.flt x) (.type "float")|lst{a:Addr}{xs:List V}(e:H a=some (.lst xs)):TyOf K H (.ref a) (.type "list")|frz{a:Addr}{o:Obj}{xs:List V}(e:H a=some (.frz o (.lst xs))):TyOf K H (.ref a) (.type "list")|tup{a:Addr}{xs:List V}(e:H a=some (.tup xs)):TyOf K H (.ref a) (.type "tuple")|dK{a:Addr}{kvs:List (Key×V)}(e:H a=some (.dK kvs)):TyOf K H (.ref a) (.type "dict")|dT{a:Addr}{kvs:List (List Key×V)}(e:H a=some (.dT kvs)):TyOf K H (.ref a) (.type "dict")|ins{a C dx:Addr}{fs:List (Str×V)}(e:H a=some (.ins C dx fs))(cl:Cls K C)(ha:W.findIn K (.ref C) "__class__"=some (some (.builtin "object.__class__")))(hn:W.specialIn K (.builtin "object.__class__") "__get__"=some (some (.builtin "getset_descriptor.__get__")))(htk:W.takesIn K (.builtin "object.__class__")=some true)(hm:W.mroIn K C (.type "object")=some true):TyOf K H (.ref a) (.ref C)
def acn{x u t}(I:Inv X pins σ H s)(d:RelV x u)(ty:TyOf X.K H x t)(e:W.kitOne X.K t c=some b)(h:∀tk,Q (.bool b) {s with toks:=tk}):wpAny (model X.prog X.w) A (call (.builtin "isinstance") [u,c]) Q E s:=by cases ty with|non=>cases show u=Value.none from d;exact ap4 W.kitx_none I.kIn True.intro e (λz=>nomatch z) h|bl y=>cases show u=Value.bool y from d;exact ap4 W.kitx_bool I.kIn True.intro e (λz=>nomatch z) h|int i=>obtain⟨t,q⟩:=show∃t,u=Value.int i t from d;cases q;exact ap4 W.kitx_int I.kIn True.intro e (λz=>nomatch z) h|str y=>obtain⟨t,q⟩:=show∃t,u=Value.str y t from d;cases q;exact ap4 W.kitx_str I.kIn True.intro e (λz=>nomatch z) h|flt y=>obtain⟨t,q⟩:=show∃t,u=Value.float y t from d;cases q;exact ap4 W.kitx_float I.kIn True.intro e (λz=>nomatch z) h|@lst a j ea=>cases show u=Value.ref a from d;obtain⟨_,_,n,_,f⟩:=I.hok a _ ea;exact ap4 W.kitx_list I.kIn ⟨_,f,rfl⟩ e (λz=>nomatch z) h|@frz a ob j ea=>cases show u=Value.ref a from d;obtain⟨_,_,_,n,_,f⟩:=I.hok a _ ea;exact ap4 W.kitx_list I.kIn ⟨_,f,rfl⟩ e (λz=>nomatch z) h|@tup a j ea=>cases show u=Value.ref a from d;obtain⟨_,_,_,p⟩:=show cL X.prog X.w H s.heap a (.tup j)from I.hok a _ ea;refine jV p λo f g _=>?_;exact ap4 W.kitx_tuple I.kIn ⟨o,f,g⟩ e (λz=>nomatch z) h|@dK a kvs ea=>cases show u=Value.ref a from d;obtain⟨_,_,r,_,p⟩:=I.hok a _ ea;refine aag p λo k l f g _=>?_;exact ap4 W.kitx_dict I.kIn ⟨o,f,g.1⟩ e (λz=>nomatch z) h|@dT a kvs ea=>cases show u=Value.ref a from d;obtain⟨_,_,j,_,o,k,l,f,g,_⟩:=show cL X.prog X.w H s.heap a (.dT kvs)from I.hok a _ ea;exact ap4 W.kitx_dict I.kIn ⟨o,f,g.1⟩ e (λz=>nomatch z) h|@ins a C dx fs ea cl ha hn htk hm=>cases show u=Value.ref a from d;refine eM (rz I.hok ea) λm O _=>?_;obtain⟨od,J,_⟩:=O.look;exact ap4 (W.kitx_own (cl.get _) cl.hd ha hn htk hm) I.kIn J e (λz=>nomatch z) h
end
structure Room(k:Nat)(A:Around):Prop where
 hd:40<=k->A.handled=none
 dp:A.depth+3*k+5<recursionLimit
 un:A.units+16*k+200<cLine
 gd:A.guards=some []
def Room.mono{j k A}(r:Room k A)(h:j<=k):Room j A:=⟨λz=>r.hd (by omega),by have:=r.dp;omega,by have:=r.un;omega,r.gd⟩
theorem Room.deeper{k A}(r:Room (k+1) A)(a):Room k (A.deeper a):=⟨λz=>r.hd (by omega),by have:=r.dp;show A.depth+1+3*k+5<_;omega,by have:=r.un;show A.units+3+16*k+200<_;omega,r.gd⟩
def zy{A:Around}{C us a}:(A.under (.builtin "type.__call__" ⟨.ref C::us,a⟩)).depth=A.depth+1:=by rfl
def zx{A:Around}{C us a}:(A.under (.builtin "type.__call__" ⟨.ref C::us,a⟩)).units=A.units+1:=rfl
def Room.make{k A}(r:Room (k+1) A)(C)(us)(a):Room k (A.under (.builtin "type.__call__" ⟨.ref C::us,a⟩)):=⟨λz=>r.hd (by omega),by have:=r.dp;rw[zy];omega,by have:=r.un;rw[zx];omega,r.gd⟩
def Room.calm{k}{A:Around}{a}(r:Room k (A.deeper a))(h:40<=k):A.handled.isNone=true:=by rw[show A.handled=none from r.hd h];rfl
def Room.sui{k A v}(r:Room k A)(h:39<=k):Room 39 (A.mark v):=⟨λz=>by omega,by have:=r.dp;show A.depth+3*39+5<_;omega,by have:=r.un;show A.units+16*39+200<_;omega,r.gd⟩
theorem Room.depth{k A}(r:Room k A):A.depth<recursionLimit:=by have:=r.dp;omega
theorem Room.units{k A}(r:Room k A):A.units+64<cLine:=by have:=r.un;omega
def xu:TA:=λ_ H Q=>Q [] H
def jy(ta:TE)(d:TA):TA:=λa H Q=>ta a H λx b=>d a b λe c=>Q (x::e) c
section
variable{X:Cx}{e:Expr}{es:List Expr}{te:TE}{t:TA}{pos:Pos}
def cu:PA X [] xu:=λ_ _ _ _ H Q I h=>Calls.spliced_nil ⟨[],H,I,.nil,h⟩
def aP(c:PE X e te)(i:PA X es t)(j:SE X e es:=by rfl):PA X (e::es) (jy te t):=by intro pos b s a H Q I h;rw[j];exact aqv (thn (c _ s a H _ I h) λu s1⟨x,k,d,r1,q1⟩=>thn (i _ _ _ a _ _ d q1) λm s2⟨l,g,f,r2,q2⟩=>iH _ g f (.cons r1 r2) q2)
def aov(t:TA):TE:=λc H Q=>t c H λb a=>b.length<=sizeLine/\∀p,a p=none->Q (.ref p) (upd a p (.tup b))
def ale(t:TA):TE:=λc H Q=>t c H λb a=>b.length<=sizeLine/\∀p,a p=none->Q (.ref p) (upd a p (.lst b))
def ajx{g}(h:PA X es t):PE X (.Tuple es g pos) (aov t):=by intro c s d H Q I i;refine wpAny_Tuple_spliced (thn (h _ _ s d H _ I i) λf s1⟨k,j,a,r,z,q⟩=>⟨by rw[<-r.length];exact z,.ref _,_,a.laid (λb u e=>ao4 _ e) (ao6 _) ?_,rfl,q _ (a.hok.fresh (ao6 _))⟩);exact⟨z,f,r,⟨_,apg _ rfl,rfl,_,rfl⟩⟩
def tr(h:PA X es t):PE X (.List es pos) (ale t):=by intro c s d H Q I g;refine wpAny_List_spliced (thn (h _ _ s d H _ I g) λf s1⟨j,i,a,r,z,q⟩=>⟨by rw[<-r.length];exact z,.ref _,_,a.laid (λb u e=>ao4 _ e) (ao6 _) ?_,rfl,q _ (a.hok.fresh (ao6 _))⟩);exact⟨z,f,0,r,apg _ rfl⟩
end
abbrev Sp:=List V->Hp->VK->XK->Prop
abbrev CXT:=List Env->Hp->Shared->XK->Value->Shared->Prop
structure Env0(P:Program)(w:World)(K:W.Frag)(mg:Str->Option Value)(base:Heap)(A:Around)(outer:List Env)(s:Shared)(H:Hp):Prop where
 frames:A.frames=some outer
 mod:Mod K mg base
 bs:∀b o,base.get? b=some o->s.heap.get? b=some o/\H b=none
 bsz:base.objs.size<=s.heap.objs.size
 sf:s.heap.FunFrames base outer
 frf:∀b∈frs outer,H b=none
 hok:HOk P w H s.heap
 bare:AllBare s.gens
def CE(a:List Env)(P:Program)(w:World)(H:Hp)(s:Shared)(Q:VK)(u:Value)(s':Shared):Prop:=∃v b,s'.os=s.os/\AllBare s'.gens/\Un (frs a) [] H b s.heap s'.heap/\HOk P w b s'.heap/\RelV v u/\Q v b
def CR(CX:CXT)(a:List Env)(P:Program)(w:World)(H:Hp)(s:Shared)(Q:VK)(E:XK)(r:Result)(s':Shared):Prop:=match r with|.ok (.ret u)=>CE a P w H s Q u s'|.ok _=>False|.error e=>CX a H s E e s'
structure FnOk(P:Program)(w:World)(K:W.Frag)(mg:Str->Option Value)(base:Heap)(CX:CXT)(k:Nat)(f:Addr)(fd:FuncData)(ps:List Str)(sp:Sp)(hn:Around->Hp->Prop:=λ_ _=>True):Prop where
 len:∀vs H Q E,sp vs H Q E->vs.length=ps.length
 run:∀(A:Around)(outer:List Env)(s:Shared)(H:Hp)(args:Args)(us:List Value)(vs:List V)(Q:VK)(E:XK),Room k A->hn A H->Env0 P w K mg base A outer s H->BindsTo s fd args (ps.zip us)->Vals vs us->sp vs H Q E->codeAny (model P w) A (.call (.ref f) args) (CR CX outer P w H s Q E) s
def FnOk.imp{P w K g a CX k f i ps sp b}(F:FnOk P w K g a CX k f i ps sp)(h:∀c H Q E,b c H Q E->sp c H Q E):FnOk P w K g a CX k f i ps b:=⟨λc H Q E q=>F.len _ H Q E (h _ _ _ _ q),λA d s H e r c Q E n m j o l p=>F.run A _ s H _ _ _ Q E n m j o l (h _ _ _ _ p)⟩
def Env0.make{P w K c b A a s H}(e:Env0 P w K c b A a s H)(C)(us)(d):Env0 P w K c b (A.under (.builtin "type.__call__" ⟨.ref C::us,d⟩)) a s H:=⟨by exact e.frames,e.mod,e.bs,e.bsz,e.sf,e.frf,e.hok,e.bare⟩
section
variable{X:Cx}{pins:List (Addr×Obj)}{σ:St}{H:Hp}{s s':Shared}
def Inv.akF(I:Inv X pins σ H s):Env0 X.prog X.w X.K X.mg X.base X.A X.stack s H:=⟨I.ok.frames,I.ok.mod,I.bs,apb I.ok.bsz I.sz,I.stack,I.vf,I.hok,I.bare⟩
def Inv.after{Q u}(I:Inv X pins σ H s)(h:CE X.stack X.prog X.w H s Q u s'):EP X pins σ Q u s':=by refine afz h λv f os a un c r q=>?_;obtain⟨i,g,d,t,e⟩:=s';obtain rfl:=os;exact iH v f (I.call   un c a λb z=>absurd z (by simp)) r q
end
def aha(sp:Sp)(a:List V)(E:XK)(t:TA):TE:=λd H Q=>t d H λc b=>sp (c++a) b Q E
def Binds(K:W.Frag)(b:FuncData)(ps:List Str)(ds:List Value):Prop:=∀(s:Shared)(a:List Value),K.In s.heap->(a++ds).length=ps.length->BindsTo s b ⟨a,[]⟩ (ps.zip (a++ds))
def Binds.all{K c ps}(h:∀a,a.length=ps.length->bindArgs c ⟨a,[]⟩=pure (ps.zip a)):Binds K c ps []:=λs a _ b=>by rw[apE]at b⊢;exact .of_eq (h _ b)
def Passes(CX:CXT)(X:Cx)(E:XK):Prop:=∀(a:List (Addr×Obj))(c:St)(H:Hp)(s:Shared)(e:Value)(b:Shared),Inv X a c H s->CX X.stack H s E e b->X.xe e b
section
variable{X:Cx}{CX:CXT}{k:Nat}{f C:Addr}{fd:FuncData}{ps:List Str}{sp:Sp}{dvs:List V}{ds:List Value}{E:XK}{x:Str}{p pos:Pos}{e:Expr}{es:List Expr}{t:TA}
def afZ{c pins}{a:St}{H s Q us vs}(F:FnOk X.prog X.w X.K X.mg X.base CX k f fd ps sp c)(l:Room k X.A)(n:Binds X.K fd ps ds)(j:Vals dvs ds)(d:Passes CX X E)(I:Inv X pins a H s)(r:Vals vs us)(h:sp (vs++dvs) H Q E)(i:c X.A H:=by exact trivial):wpAny (model X.prog X.w) X.A (call (.ref f) us) (EP X pins a Q) X.xe s:=by
 have r2:=r.append j;have g:(us++ds).length=ps.length:=by rw[<-r2.length];exact F.len _ _ _ _ h
 refine aqm (aqE (F.run _ _ s H _ _ _ Q E l i I.akF (n s _ I.kIn g) r2 h) λr q b=>?_);cases r with|error e=>exact d _ a H s e _ I b|ok fl=>cases fl with|ret u=>exact I.after b|next|brk|cont=>exact False.elim b
def aht(F:FnOk X.prog X.w X.K X.mg X.base CX k f fd ps sp)(w:Room k X.A)(v:Gl X x)(n:X.mg x=some (.ref f))(hk:W.keepIn X.K (.ref f)=true)(y:Binds X.K fd ps ds)(u:Vals dvs ds)(j:Passes CX X E)(g:PA X (e::es) t)(a:Dbg x:=by decide)(i:SE X e es:=by rfl)(b:BT X pos es:=by rfl):PE X (.Call (.Name x p) (e::es) [] pos) (aha sp dvs E t):=by intro d s l H Q I h;exact ap5 (cE I v n (ar9 I.ok.mod.kin hk (thn (g _ _ s l H _ I h) λA s1⟨B,z,c,r,q⟩=>⟨c.kIn,afZ F w y u j c r q⟩) i b) a)
def aet(F:FnOk X.prog X.w X.K X.mg X.base CX k f fd ps sp)(j:Room k X.A)(i:Gl X x)(d:X.mg x=some (.ref f))(hk:W.keepIn X.K (.ref f)=true)(l:Binds X.K fd ps ds)(g:Vals dvs ds)(c:Passes CX X E)(a:Dbg x:=by decide):PE X (.Call (.Name x p) [] [] pos) (aha sp dvs E xu):=by intro b s n H Q I h;exact ap5 (cE I i d (W.callWith_K0 I.kIn hk (afZ F j l g c I .nil h)) a)
structure Mk(K:W.Frag)(C f:Addr):Prop where
 makes:W.makesIn K C=true
 init:W.findIn K (.ref C) "__init__"=some (some (.ref f))fn:W.isFn K (.ref f)=true
 kp:W.keepIn K (.ref C)=true
def aea{pins:List (Addr×Obj)}{d:St}{H:Hp}{s:Shared}{Q:VK}{us:List Value}{vs:List V}(M:Mk X.K C f)(F:FnOk X.prog X.w X.K X.mg X.base CX k f fd ps sp)(A:Room (k+1) X.A)(B:Binds X.K fd ps ds)(y:Vals dvs ds)(i:Passes CX X E)(I:Inv X pins d H s)(r:Vals vs us)(h:∀x c,H x=none->H c=none->c≠x->sp (.ref x::(vs++dvs)) (upd (upd H c (.own x)) x (.ins C c [])) (λv q=>v=.non/\Q (.ref x) q) E):wpAny (model X.prog X.w) X.A (call (.ref C) us) (EP X pins d Q) X.xe s:=by
 have g:=h (s.heap.objs.size+1) s.heap.objs.size (I.hok.fresh (aqz _)) (I.hok.fresh (ao6 _)) (api (aqJ _));have b:=Inv.made (C:=C) I;have r2:Vals (V.ref (s.heap.objs.size+1)::(vs++dvs)) (Value.ref (s.heap.objs.size+1)::(us++ds)):=.cons rfl (r.append y);have j:(Value.ref (s.heap.objs.size+1)::us++ds).length=ps.length:=by have e:=r2.length;rw[F.len _ _ _ _ g]at e;exact e.symm
 refine aqm (x9 (f:=f) I.kIn M.makes M.init (ap2.mp M.fn) (aqE (F.run _ X.stack _ _ ⟨Value.ref (s.heap.objs.size+1)::us,[]⟩ (Value.ref (s.heap.objs.size+1)::(us++ds)) _ _ E (A.make C us []) trivial (b.akF.make C us []) (B _ (Value.ref (s.heap.objs.size+1)::us) b.kIn j) r2 g) λr n a=>?_));cases r with|error e=>exact i pins d _ _ e n b a|ok fl=>cases fl with|ret u=>obtain⟨v,l,z,w,ev,q3⟩:=b.after a;subst ev;exact⟨w,⟨V.ref (s.heap.objs.size+1),l,z,rfl,q3⟩⟩|next=>exact False.elim a|brk=>exact False.elim a|cont=>exact False.elim a
end
structure FnScope(N P:List Str)(sc:Scope):Prop where
 kind:sc.kind=.function
 co:sc.isCoroutine=false
 gen:sc.isGenerator=false
 nd:N.Nodup
 pre:N.take P.length=P
 par:∀x∈P,sc.names.lookup x=some .local\/sc.names.lookup x=some .cell
 nofree:∀y∈sc.names,y.2≠.free
theorem uR{kindOf x}:∀{binds m},(∀v,(x,v)∉binds)->bindL kindOf binds m x=m x
|[],_,_=>rfl|(n,v)::r,m,h=>by
 unfold bindL;rw[uR λw hw=>h w (apQ _ hw)];split
 .have:x≠n:=by grind
  simp[this]
 .rfl
theorem uT{kindOf x}:∀{binds m},(∀v,(x,v)∉binds)->bindC kindOf binds m x=m x
|[],_,_=>rfl|(n,v)::r,m,h=>by
 unfold bindC;rw[uT λw hw=>h w (apQ _ hw)];split;.rfl
 .have:x≠n:=by grind
  simp[this]
theorem uS{kindOf:Str->Option NameKind}{x:Str}{v:Value}:∀{P:List Str}{vs:List Value}{i:Nat}{m:Str->Option Value},P.Nodup->P[i]?=some x->vs[i]?=some v->kindOf x=some .local->bindL kindOf (P.zip vs) m x=some v|[],_,_,_,_,h,_,_=>by simp at h|_::_,[],_,_,_,_,h,_=>by simp at h|p::P,w::vs,0,m,nd,h1,h2,hk=>by simp at h1 h2;subst h1;subst h2;show bindL kindOf ((p,w)::P.zip vs) m p=_;unfold bindL;rw[uR λv a=>(aqf.mp nd).1 (asn a).1,apa hk];simp|p::P,w::vs,i+1,m,nd,h1,h2,hk=>by show bindL kindOf ((p,w)::P.zip vs) m x=_;unfold bindL;exact uS (i:=i) (aqf.mp nd).2 (by simpa using h1) (by simpa using h2) hk
theorem uU{kindOf x v}:∀{P:List Str}{vs}{i:Nat}{m},P.Nodup->P[i]?=some x->vs[i]?=some v->kindOf x≠some .local->bindC kindOf (P.zip vs) m x=some v|[],_,_,_,_,h,_,_=>by simp at h|_::_,[],_,_,_,_,h,_=>by simp at h|p::P,w::vs,0,m,nd,h1,h2,hk=>by simp at h1 h2;subst h1;subst h2;show bindC kindOf ((p,w)::P.zip vs) m p=_;unfold bindC;rw[uT λv a=>(aqf.mp nd).1 (asn a).1,ao9 hk];simp|p::P,w::vs,i+1,m,nd,h1,h2,hk=>by unfold bindC;exact uU (i:=i) (aqf.mp nd).2 (by simpa using h1) (by grind) hk
noncomputable def start(N:List Str)(vs:List V):St:=vs.map some++List.replicate (N.length-vs.length) none
noncomputable def fB(CX:CXT)(P:Program)(w:World)(K:W.Frag)(mg:Str->Option Value)(base:Heap)(N:List Str)(qual:Str)(scope:Scope)(f:Addr)(cd:Value)(A:Around)(outer:List Env)(s:Shared)(H:Hp)(E:XK):Cx where prog:=P;w:=w;K:=K;mg:=mg;base:=base;A:=A.deeper (envOfC qual scope s.heap.objs.size f cd);N:=N;s₀:=s;H₀:=H;env:=envOfC qual scope s.heap.objs.size f cd;outer:=outer;stack:=envOfC qual scope s.heap.objs.size f cd::outer;ex:=[];calm:=A.handled.isNone;fn:=λ_=>true;pn:=[];xe:=λe s'=>wpAny (model P w) (A.deeper (envOfC qual scope s.heap.objs.size f cd)) (leaving (envOfC qual scope s.heap.objs.size f cd) e) (λ_ s''=>CX outer H s E e s'') (λe' s''=>CX outer H s E e' s'') s'
def yC{a:Scope}{n x}(h:a.names.lookup x=some .cell):∃c,(cellsFrom n a.names []).lookup x=some c:=by exact apT.mp (W.cellsFrom_some _ n _ (.inl h))
def aco{CX P w K M l N ps g scope f G A d s s1 H E us vs}(S:FnScope N ps scope)(m:Env0 P w K M l A d s H)(X:vs.length=ps.length)(r:Vals vs us)(x:InCallC s s.heap.objs.size (bindL (envOfC g scope s.heap.objs.size f G).kindOf (ps.zip us) λ_=>none) (cellsFrom (s.heap.objs.size+1) scope.names []) (bindC (envOfC g scope s.heap.objs.size f G).kindOf (ps.zip us) λ_=>none) s1):Inv (fB CX P w K M l N g scope f G A d s H E) [] (start N vs) H s1:=by
 have T:ps.length<=N.length:=by have:=aqq List.length S.pre;rw[aqK]at this;omega
 refine dv x.done λI tk J Q=>?_;subst J;have o:∀b:Addr,b ∉(fB CX P w K M l N g scope f G A d s H E).ex:=λb z=>absurd (show b∈([]:List Addr)from z) (by simp);refine⟨⟨m.mod,S.kind,rfl,rfl,ao6 _,λy z c I j=>?_,λy t=>?_,λy c _ h=>?_,λz=>Option.isNone_iff_eq_none.mp z,Around.frames_deeper m.frames,.inr ⟨rfl,rfl⟩,λb z=>absurd z (o b),m.bs,m.bsz,λb _ _=>o b,λb z=>absurd z (o b),m.sf,m.frf⟩,rfl,m.bare,Un.kept Q,⟨_,x.toInCall.ns,λi y v I j Y=>?_⟩,λy c h=>⟨_,x.cell y c h⟩,m.hok.fresh (ao6 _),λy c h=>?_,λp C=>absurd (show p∈([]:List (Addr×Obj))from C) (by simp),m.hok.kept Q,?_⟩;.exact name_of_addr x.apart (apN I) (apN j)
 .rcases t with t|t;.exact yC t
  .exact absurd rfl (S.nofree _ (apN t))
 .exact ark (x.above y c (apN h))
 .have D:i<vs.length:=by
   unfold start at j;by_cases D:i<vs.length;.exact D
   .rw[apy (by simpa using D)]at j;rw[ap9]at j;split at j<;>cases j
  have U:vs[i]?=some v:=by unfold start at j;rw[apt (by simpa using D),apz]at j;cases e:vs[i]? with|none=>rw[e]at j;cases j|some a=>rw[e]at j;cases j;rfl
  refine eM (r.get U) λu O R=>?_;have C:ps[i]?=some y:=by rw[<-S.pre,asa (by omega)];exact I
  have B:ps.Nodup:=by rw[<-S.pre];exact S.nd.sublist (List.take_sublist _ _)
  refine⟨u,R,?_⟩;rcases S.par y (aqn C)with k|k;.exact .inl ⟨k,uS B C O k⟩
  .obtain⟨c,e⟩:=yC (n:=s.heap.objs.size+1) k;refine .inr ⟨.inl k,c,e,?_⟩;have q:=x.cell y c e;rw[uU B C O (by show scope.names.lookup y≠_;rw[k];decide)]at q;exact q
 .exact m.hok.fresh (ark (x.above y c (apN h)))
 .unfold start;show _=N.length;rw[apR,apv,aqg];omega
def rB{CX P w K G h k f name c g body scope dV kV C pm d ct oc Z od O N ps sp}(lk:K.lookup f=some ⟨oc,od,.func (W.fnOf name c g body scope dV kV C pm Z d ct),O⟩)(M:W.codeIn K d c=true)(S:FnScope N ps scope)(len:∀j H Q E,sp j H Q E->j.length=ps.length){U}(m:∀A a s H j Q E,Room k (A.deeper (envOfC c scope s.heap.objs.size f d))->U A H->sp j H Q E->∃t,PSs (fB CX P w K G h N c scope f d A a s H E) body t/\t {nx:=λ_ l=>Q .non l,rt:=Q} (start N j) H):FnOk P w K G h CX (k+1) f (W.fnOf name c g body scope dV kV C pm Z d ct) ps sp U:=by
 refine⟨len,λA a s H Y us j Q E X hN D hb r B=>?_⟩;have KX:K.In s.heap:=D.mod.kin.keeps λb o e=>(D.bs b o e).1;have lim:s.heap.NoLimit:=D.mod.nolimit.keeps λb o e=>(D.bs b o e).1;have p:∀y∈ps.zip us,scope.names.lookup y.1=some .local\/scope.names.lookup y.1=some .cell/\((cellsFrom (s.heap.objs.size+1) scope.names []).lookup y.1).isSome=true:=λ⟨n,v⟩hy=>by
  rcases S.par n (asn hy).1 with q|q;.exact .inl q
  .exact .inr ⟨q,W.cellsFrom_some _ _ _ (.inl q)⟩
 refine codeAny_call_function X.depth (KX _ _ lk) rfl S.co S.gen rfl (W.codeRec_of KX M) (hb _ _ _ _ ?_);refine wpAny_newFunctionEnv_cells S.kind p λa0 he s1 x=>?_;subst he;refine⟨lim.keeps x.toInCall.keep,codeAny_func ?_⟩;refine eM (m A a s H j Q E (X.deeper _) hN B) λt ht hq=>?_;have I:Inv (fB CX P w K G h N c scope f d A a s H E) [] (start N j) H s1:=aco S D (len _ _ _ _ B) r x;refine apn (ht [] s1 (start N j) H _ I hq) (λfl T z=>?_) λe T z=>z;have fin:∀{i:St}{l:Hp}{v:V}{u:Value},Inv (fB CX P w K G h N c scope f d A a s H E) [] i l T->RelV v u->Q v l->CE a P w H s Q u T:=λ{i l v u}J R q=>aif v l J.os J.bare J.base J.hok R q;cases fl with|ret u=>refine aag z λv i l J R q=>?_;exact fin J R q|next=>obtain⟨i,l,J,q⟩:=z;exact fin (v:=V.non) (u:=Value.none) J rfl q|brk=>obtain⟨_,_,_,q⟩:=z;exact False.elim q|cont=>obtain⟨_,_,_,q⟩:=z;exact False.elim q
section
variable{X:Cx}{x:Str}{p pos:Pos}{e:Expr}{es:List Expr}{t:TA}{id T:String}{r:List V->Hp->VK->Prop}
def tCB(r:List V->Hp->VK->Prop)(t:TA):TE:=λc H Q=>t c H λb a=>r b a Q
def xR(m:bP X (.builtin id) r)(n:Gl X x)(l:X.mg x=none)(k:bootBuiltins x=some (.builtin id))(f:PA X (e::es) t)(j:x≠"__name__":=by decide)(a:Dbg x:=by decide)(g:SE X e es:=by rfl)(b:BT X pos es:=by rfl):PE X (.Call (.Name x p) (e::es) [] pos) (tCB r t):=by intro d s c H Q I h;exact ap5 (kZ I n l k (arn (thn (f _ _ s c H _ I h) λq s1⟨u,o,i,r1,q1⟩=>m _ _ c _ _ _ Q i r1 q1) g b) j a)
def jD(m:bP X (.type T) r)(n:Gl X x)(l:X.mg x=none)(k:bootBuiltins x=some (.type T))(f:PA X (e::es) t)(j:x≠"__name__":=by decide)(a:Dbg x:=by decide)(g:SE X e es:=by rfl)(b:BT X pos es:=by rfl):PE X (.Call (.Name x p) (e::es) [] pos) (tCB r t):=by intro d s c H Q I h;exact ap5 (kZ I n l k (apV (thn (f _ _ s c H _ I h) λq s1⟨u,o,i,r1,q1⟩=>m _ _ c _ _ _ Q i r1 q1) g b) j a)
end
end L2
namespace HT
open PySem PyProof.Rows
def xJ(A)(s)(a)(t)(c)(u)(prog)(w)(E)(Q)(h:Q (.bool (decide (a<c))) s):wpAny (model prog w) A (richCompare .Lt (.int a t) (.int c u)) Q E s:=PyProof.Rows.lt_int h
section
open PySem.SeqAt
open PySem.AutoSeq1(wpAny_loadPart')
open PySem.MeetsSeq PySem.MeetsSeq2 PySem.MeetsSeq3
end
section
variable{prog:Program}{w:World}{A:Around}{E:Value->Shared->Prop}{s:Shared}
def aia{t b:Addr}{vs ws:List Value}{Q:Value->Shared->Prop}(p:IsTup s.heap t vs.toArray)(r:IsTup s.heap b ws.toArray)(k:vs≠[])(q:ws=[]->Q (.ref t) s)(u:ws≠[]->Q (.ref s.heap.objs.size) {s with heap:=s.heap.push {cls:=.type "tuple",data:=.seq (vs++ws).toArray}})(hsz:vs.length+ws.length<=sizeLine):wpAny (model prog w) A (binaryOp .Add (.ref t) (.ref b)) Q E s:=by
 obtain⟨⟨cls,j,data,i⟩,h,m,n,o⟩:=id p;obtain⟨⟨l,d,data2,f⟩,a,c,n2,g⟩:=id r;simp only at m o c g;subst m o c g;have e:vs.toArray++ws.toArray=(vs++ws).toArray:=by simp
 by_cases hw:ws=[];.exact asb ⟨_,h,rfl⟩ ⟨_,a,rfl⟩ asd seq_tuple_add aq9 aq5 (aqU _ _) (tuple_addW1 t b vs.toArray ws.toArray n n2 j d i f (by simpa using k) (by simp[hw])) ⟨h,a,q hw⟩
 .refine asb ⟨_,h,rfl⟩ ⟨_,a,rfl⟩ asd seq_tuple_add aq9 aq5 (aqU _ _) (tuple_addW2 t b vs.toArray ws.toArray n n2 j d i f (by simpa using k) (by simpa using hw) (by rw[apB,apB];exact hsz)) ⟨h,a,?_⟩;rw[e];exact u hw
noncomputable def sIx(n d:Nat):Option Int->Nat|none=>d|some v=>if v<0 then(v+(n:Int)).toNat else min v.toNat n
def ajh(n d)(b:d<=n)(o):sIx n d o<=n:=by cases o with|none=>exact b|some v=>
 show(if v<0 then(v+n).toNat else min _ n)<=n;by_cases a:v<0;.rw[apa a];omega
 .rw[ao9 a];exact ard _ _
def adg(v)(n d:Nat):(if v<0 then max (v+(n:Int)) 0 else min v n)=(sIx n d (some v):Nat):=by
 show(if v<0 then max _ 0 else min v n)=if v<0 then(v+n).toNat else min _ n;by_cases a:v<0;.simp only[apa a];omega
 .simp [ao9 a];omega
def aae(lo a)(n:Nat):Builtin.Slice.sliceAdjust lo a 1 n=((sIx n 0 lo:Int),(sIx n n a:Int)):=by
 refine Prod.ext ?_ ?_;.cases lo with|none=>rfl|some v=>exact adg v n 0
 .cases a with|none=>rfl|some v=>exact adg v n n
def zi(i j:Nat):Builtin.Slice.slicePlaces (i:Int) (j:Int) 1=j-i:=by
 unfold Builtin.Slice.slicePlaces;have a:(1:Int)>0:=by omega
 simp only[a,aqR,Int.ediv_one];split<;>omega
def pN{v o Q}(p:IsPart v o)(h:Q o s):wpAny (model prog w) A (Builtin.Slice.slicePartIndex v) Q E s:=by cases p with|none=>exact slicePart_none h|int i t=>exact slicePart_int h
def lH{sl d c lo b n}{Q:Int×Int×Nat->Shared->Prop}(g:s.heap.IsSliceOf sl d c .none)(pl:IsPart d lo)(f:IsPart c b)(h:Q ((sIx n 0 lo:Nat),1,sIx n n b-sIx n 0 lo) s):wpAny (model prog w) A (Builtin.Slice.sliceApplied (.ref sl) (pure n)) Q E s:=by refine jV (id g) λos a e hds=>?_;refine ao3 (ao3 (apx a hds (x:=d) rfl (ao3 (apx a hds (x:=c) rfl (ao3 (apx a hds rfl (ao7 ?_)))))));refine ao3 (slicePart_none ?_);refine ao3 (pN pl (ao3 (pN f (ao3 (ao7 ?_)))));show wpAny _ _ (match Builtin.Slice.sliceAdjust lo b 1 (n:Int)with|(lo,b)=>pure (lo,(1:Int),Builtin.Slice.slicePlaces lo b 1)) _ _ s;rw[aae lo b n];show wpAny _ _ (pure _) _ _ s;rw[zi];exact ao7 h
def aen(xs:Array Value)(i k:Nat):((List.range k).filterMap λ(m:Nat)=>xs[((i:Int)+(m:Int)*1).toNat]?).toArray=((xs.toList.drop i).take k).toArray:=by
 have e:(λ(m:Nat)=>xs[((i:Int)+(m:Int)*1).toNat]?)=λm=>xs[i+m]?:=by
  funext m;have:((i:Int)+(m:Int)*1).toNat=i+m:=by omega
  rw[this]
 rw[e];have:=pick_run xs i k;rw[List.filterMap_map]at this;have a:((λx=>xs[x]?)∘λx=>i+x)=λm=>xs[i+m]?:=rfl;rw[a]at this;rw[this]
def kf{t sl items j i lo a Q}(c:IsTup s.heap t items)(k:s.heap.IsSliceOf sl j i .none)(pl:IsPart j lo)(l:IsPart i a)(hw:¬(sIx items.size 0 lo=0/\sIx items.size items.size a=items.size))(h:Q (.ref s.heap.objs.size) {s with heap:=s.heap.push {cls:=.type "tuple",data:=.seq ((items.toList.drop (sIx items.size 0 lo)).take (sIx items.size items.size a-sIx items.size 0 lo)).toArray}})(hsz:items.size<=sizeLine):wpAny (model prog w) A (getItem (.ref t) (.ref sl)) Q E s:=by
 have b:sizeOk (.seq ((items.toList.drop (sIx items.size 0 lo)).take (sIx items.size items.size a-sIx items.size 0 lo)).toArray):=by show((items.toList.drop (sIx items.size 0 lo)).take (sIx items.size items.size a-sIx items.size 0 lo)).toArray.size<=sizeLine;rw[apB,aqK,List.length_drop,aqS];omega
 have n:sIx items.size items.size a<=items.size:=ajh _ _ (ao6 _) a;refine jV (id k) λos d g hds=>?_;have e:s.TypeIs (.ref sl) "slice":=⟨os,d,g⟩;unfold getItem;try with_reducible refine apO ?_
 first|refine ao3 (ao7 ?_)|skip
 refine ao3 (wpAny_sequenceKey c.typeIs (by decide) ?_);refine ao3 (aqa (name:=Str.ofString "__getitem__") c.typeIs aqt (ap3 aqt c.typeIs entry_tuple_getitem ?_ (args_tuple_getitem _ _)));show wpAny _ _ (Builtin.Tuple.tupleItemsOf (.ref t)>>=_) _ _ s;refine ao3 (tupleItemsOf_ c ?_);refine ao3 (wpAny_typeOf e ?_);rw[apa (by decide)];refine ao3 (lH k pl l ?_);have f:¬(((sIx items.size 0 lo:Nat):Int)==0&&(1:Int)==1&&sIx items.size items.size a-sIx items.size 0 lo==items.size)=true:=by grind
 show wpAny _ _ (if(((sIx items.size 0 lo:Nat):Int)==0&&(1:Int)==1&&sIx items.size items.size a-sIx items.size 0 lo==items.size)=true then _ else _) _ _ s;rw[ao9 f,aen];exact ao3 (m:=Builtin.Tuple.tupleExact _) (aqC (ao7 ⟨_,rfl,ao7 h⟩) b)
end
end HT
namespace L2
open PySem PySem.Spec PyProof.Rows
abbrev TO:=St->Hp->(Option Int->Hp->Prop)->Prop
def PO(X:Cx)(e:Option Expr)(t:TO):Prop:=∀(a:List (Addr×Obj))(s:Shared)(b:St)(H:Hp)(Q:Option Int->Hp->Prop),Inv X a b H s->t b H Q->wpAny (model X.prog X.w) X.A (evalPart e X.env) (λu d=>∃o c,Inv X a b c d/\IsPart u o/\Q o c) X.xe s
def ag7:TO:=λ_ H Q=>Q none H
def alX(t:TE):TO:=λb H Q=>t b H λx a=>∃i,x=.int i/\Q (some i) a
section
variable{X:Cx}{e:Expr}{te:TE}{lo hi:Option Expr}{tl th:TO}{pos p2:Pos}
def abA:PO X none ag7:=by intro a s b H Q I h;exact ao7 ⟨_,H,I,.none,h⟩
def abz(h:PE X e te):PO X (some e) (alX te):=by intro a s d H Q I hw;refine thn (h _ s d H _ I hw) λu s1⟨x,b,c,r1,q1⟩=>?_;obtain⟨i,rfl,q⟩:=q1;obtain⟨t,rfl⟩:=r1;exact⟨_,b,c,.int i t,q⟩
def SlR(X:Cx)(r:V->Option Int->Option Int->Hp->VK->Prop):Prop:=∀(a:List (Addr×Obj))(s:Shared)(f:St)(H:Hp)(x:V)(v c b:Value)(lo hi:Option Int)(d:Addr)(Q:VK),Inv X a f H s->RelV x v->s.heap.IsSliceOf d c b .none->IsPart c lo->IsPart b hi->r x lo hi H Q->∃T id,typeLookup (.type T) "__getitem__"=pure (some (.builtin id))/\s.TypeIs v T/\wpAny (model X.prog X.w) X.A (getItem v (.ref d)) (EP X a f Q) X.xe s
def SlR.or{r a}(h:SlR X r)(h':SlR X a):SlR X λx lo hi H Q=>r x lo hi H Q\/a x lo hi H Q:=by
 intro c s b H x v k i lo hi j Q I d g pl f q;rcases q with q|q;.exact h _ s b H x v _ _ _ _ _ Q I d g pl f q
 .exact h' _ s b H x v _ _ _ _ _ Q I d g pl f q
def tSl(r:V->Option Int->Option Int->Hp->VK->Prop)(te:TE)(tl th:TO):TE:=λa H Q=>te a H λx b=>tl a b λl c=>th a c λu d=>r x l u d Q
def xO{r}(o:SlR X r)(j:PE X e te)(m:PO X lo tl)(w:PO X hi th):PE X (.Subscript e (.Slice lo hi none p2) pos) (tSl r te tl th):=by intro a s c H Q I h;refine Subscript_ (thn (j a s c H _ I h) λv s1⟨x,i,k,r1,q1⟩=>wpAny_Slice (thn (m a s1 c i _ k q1) λg s2⟨l,z,y,pl,q2⟩=>thn (w a s2 c z _ y q2) λd s3⟨u,f,B,n,q3⟩=>ao7 ?_));have p:Inv X a c f {s3 with heap:=s3.heap.push {cls:=.type "slice",data:=.fields #[g,d,.none]}}:=B.kept λb ob q=>ao4 _ q;refine oC (o a _ c f x v g d l u s3.heap.objs.size Q p r1 (Heap.IsSliceOf.new ..) pl n q3) λT id A t C=>?_;exact tail_any t A C (rfl)
def aix(xs:List V)(lo hi:Option Int):List V:=(xs.drop (HT.sIx xs.length 0 lo)).take (HT.sIx xs.length xs.length hi-HT.sIx xs.length 0 lo)
def n8(xs)(lo hi):(aix xs lo hi).length<=xs.length:=by unfold aix;rw[aqK,List.length_drop];omega
def aoF(K:W.Frag):V->Option Int->Option Int->Hp->VK->Prop:=λx lo hi H Q=>∃a b,x=.ref a/\SqT K H a b/\¬(HT.sIx b.length 0 lo=0/\HT.sIx b.length b.length hi=b.length)/\∀p,H p=none->Q (.ref p) (upd H p (.tup (aix b lo hi)))
def ajc:SlR X (aoF X.K):=by
 intro j s w H x v u p lo hi t Q I m o pl n h;refine oE h λa i f k hw q=>?_;subst f;cases m;refine jV (I.tuple k) λd r g l=>?_;have c:d.toArray.size=i.length:=by rw[apB];exact r.length.symm
 refine iH "tuple" _ aqt.lookup g.typeIs ?_;refine HT.kf g o pl n (by grind) ?_ (by omega);rw[c];refine(iH (.ref s.heap.objs.size) _ (I.laid (t':=s.toks) (λb ob q=>ao4 _ q) (ao6 _) ?_) rfl (q _ (I.hok.fresh (ao6 _))));exact⟨apb (n8 i lo hi) l,_,(r.drop _).take _,IsTup.new _ _⟩
def amm(K:W.Frag):R2:=λx y H Q=>∃a b d c,x=.ref a/\y=.ref b/\SqT K H a d/\SqT K H b c/\d≠[]/\d.length+c.length<=sizeLine/\(c=[]->Q (.ref a) H)/\(c≠[]->∀p,H p=none->Q (.ref p) (upd H p (.tup (d++c))))
def Vals.vz{xs us}(r:Vals xs us):us=[]↔ xs=[]:=by cases r with|nil|cons _ _=>simp
def ahw:OpR X (binaryOp .Add) (amm X.K):=by intro d s r H x y v u Q I p j h;obtain⟨a,b,i,l,rfl,rfl,m,k,g,f,q1,q2⟩:=h;cases p;cases j;obtain⟨n,r1,p1,_⟩:=I.tuple m;obtain⟨c,r2,p2,_⟩:=I.tuple k;refine HT.aia p1 p2 (λz=>g (r1.vz.mp z)) (λz=>⟨.ref a,H,I,rfl,q1 (r2.vz.mp z)⟩) (λz=>?_) (by rw[<-r1.length,<-r2.length];exact f);refine⟨.ref s.heap.objs.size,_,I.laid (t':=s.toks) (o:=.tup (i++l)) (λb ob q=>ao4 _ q) (ao6 _) ?_,rfl,q2 (λw=>z (r2.vz.mpr w)) _ (I.hok.fresh (ao6 _))⟩;exact⟨by rw[apR];exact f,_,r1.append r2,IsTup.new _ _⟩
end
noncomputable def ixN(n:Nat)(i:Int):Option Nat:=if 0<=i then if i<n then some i.toNat else none else if -(n:Int)<=i then some (i+n).toNat else none
def atI{α:Type}(xs:List α)(i:Int):Option α:=(ixN xs.length i).bind λj=>xs[j]?
def ahN{n i j}(h:ixN n i=some j):seqIndex? i n=some j/\j<n/\-n<=i/\i<n:=by
 unfold ixN at h;by_cases b:0<=i
 .rw[apa b]at h;by_cases a:i<n;.rw[apa a]at h;have e:=aps h;exact⟨by rw[seqIndex_of b a,e],by omega,by omega,a⟩
  .rw[ao9 a]at h;cases h
 .rw[ao9 b]at h;by_cases a:-(n:Int)<=i;.rw[apa a]at h;have e:=aps h;exact⟨by rw[seqIndex_neg (by omega) a,e],by omega,a,by omega⟩
  .rw[ao9 a]at h;cases h
def wI{α xs i}{v:α}(h:atI xs i=some v):∃j,seqIndex? i xs.length=some j/\xs[j]?=some v/\j<xs.length/\-xs.length<=i/\i<xs.length:=by unfold atI at h;cases e:ixN xs.length i with|none=>rw[e]at h;cases h|some j=>rw[e]at h;refine alN (ahN e) λc b d a=>?_;exact⟨j,c,h,b,d,a⟩
def ads{α:Type}{xs:List α}{j:Nat}{v:α}(h:xs[j]?=some v):atI xs (j:Int)=some v:=by
 have a:j<xs.length:=(ao8.mp h).1;have e:ixN xs.length (j:Int)=some j:=by unfold ixN;rw[apa (by omega),apa (by omega)];simp
 unfold atI;rw[e];exact h
def yG{α:Type}(xs:List α)(v:α):atI (xs++[v]) (-1)=some v:=by
 have a:(xs++[v]).length=xs.length+1:=by simp
 have e:ixN (xs++[v]).length (-1)=some xs.length:=by unfold ixN;rw[a,ao9 (by decide),apa (by omega)];congr 1;omega
 unfold atI;rw[e];show(xs++[v])[xs.length]?=some v;simp
def ju(b:Expr):Prop:=∀o i,subscripted b false o i=operate [o,i] (getItem o i)
def IxR(X:Cx)(r:R2):Prop:=∀(c a:Expr)(b:List (Addr×Obj))(s:Shared)(d:St)(H:Hp)(x y:V)(v u:Value)(Q:VK),Inv X b d H s->RelV x v->RelV y u->r x y H Q->subscripted a false v u=operate [v,u] (getItem v u)->wpAny (model X.prog X.w) X.A (subscriptTail c a v u) (EP X b d Q) X.xe s
def MtR(X:Cx)(id:String)(r:V->List V->Hp->VK->Prop):Prop:=∀(a:List (Addr×Obj))(s:Shared)(d:St)(H:Hp)(x:V)(c:List V)(v:Value)(b:List Value)(Q:VK),Inv X a d H s->RelV x v->Vals c b->r x c H Q->wpAny (model X.prog X.w) X.A (call (.builtin id) (v::b)) (EP X a d Q) X.xe s
section
variable{X:Cx}{a b:Expr}{ta tb:TE}{pos:Pos}
def IxR.or{r e}(h:IxR X r)(h':IxR X e):IxR X λx y H Q=>r x y H Q\/e x y H Q:=by
 intro c d g s f H x y v u Q I i j q k;rcases q with q|q;.exact h _ _ _ s f H x y v u Q I i j q k
 .exact h' _ _ _ s f H x y v u Q I i j q k
def ajC{r}(j:IxR X r)(d:PE X a ta)(k:PE X b tb)(l:ju b):PE X (.Subscript a b pos) (tOp r ta tb):=by intro c s f H Q I h;exact Subscript_ (anf d k I h λv u s2 x y m e g i q=>j a b _ _ f _ x y v u Q e g i q (l _ _))
def aoJ(K:W.Frag):R2:=λx y H Q=>∃p c i v,x=.ref p/\y=.int i/\SqL K H p c/\atI c i=some v/\Q v H
def aoH(K:W.Frag):R2:=λx y H Q=>∃p c i v,x=.ref p/\y=.int i/\SqT K H p c/\atI c i=some v/\Q v H
def aoI:R2:=λx y H Q=>∃z i c,x=.str z/\y=.int i/\z.length<=sizeLine/\atI z.cps.toList i=some c/\Q (.str ⟨#[c]⟩) H
def ahM:IxR X (aoJ X.K):=by
 intro e l c s m H x y v u Q I M E h A;obtain⟨p,O,i,z,rfl,rfl,N,B,q⟩:=h;cases M;obtain⟨t,rfl⟩:=E;obtain⟨k,r,pl,S⟩:=I.list N;obtain⟨j,d,D,R,G,K⟩:=wI B;obtain⟨w,n,g⟩:=r.get D;have C:=r.length;have P:=pV;have fin:EP X c m Q w s:=⟨z,H,I,g,q⟩;by_cases o:0<=i
 .have f:i.toNat=j:=by rw[seqIndex_of o K]at d;exact aps d
  exact item_listR pl.isList o (by omega) (by rw[f];simpa using n) fin A
 .have f:(i+(k.toArray.size:Int)).toNat=j:=by rw[seqIndex_neg (by omega) G]at d;rw[apB,<-C];exact aps d
  exact subscriptTail_builtinR (x:=w) pl.isList.typeIs slot_list_getitem.lookup (wpAny_getItem_list_neg (Q:=λr J=>r=w/\EP X c m Q r J) pl.isList (by omega) (by rw[apB]<;>omega) (by omega) (by rw[f];simpa using n) ⟨rfl,fin⟩) A
def akm:IxR X (aoH X.K):=by intro c e f s D H x y v u Q I n l h A;obtain⟨p,C,i,z,rfl,rfl,o,g,q⟩:=h;cases n;obtain⟨t,rfl⟩:=l;obtain⟨m,r,pl,N⟩:=I.tuple o;obtain⟨j,K,k,M,G,O⟩:=wI g;obtain⟨w,J,d⟩:=r.get k;have B:=r.length;have E:=pV;exact subscriptTail_builtinR pl.typeIs slot_tuple_getitem.lookup (getItem_tuple (j:=j) pl (by omega) (by omega) (by grind) (by grind) ⟨rfl,⟨z,H,I,d,q⟩⟩) A
def akn:IxR X aoI:=by
 intro d e f s C H x y v u Q I A p h B;obtain⟨z,i,c,rfl,rfl,G,k,q⟩:=h;obtain⟨t,rfl⟩:=A;obtain⟨J,rfl⟩:=p;obtain⟨j,g,n,E,r,w⟩:=wI k;have l:z.cps.toList.length=z.length:=by simp[Str.length]
 rw[l]at g r w;have D:=pV;exact tail_any (aq4 s z t) slot_str_getitem.lookup (getItem_str (c:=c) (by have o:decide (i < -(2^63:Int))=false:=apJ (by omega);have m:decide (i ≥ 2^63)=false:=apJ (by omega);rw[o,m,Bool.or_false]) (by rw[g];simpa using n) ⟨.str ⟨#[c]⟩,H,I.tok _,⟨_,rfl⟩,q⟩) B
def sU(lo c)(n):(sliceBounds lo c none n).1=(HT.sIx n 0 lo:Nat)/\(sliceBounds lo c none n).2.1=(HT.sIx n n c:Nat)/\(sliceBounds lo c none n).2.2=1:=by
 refine⟨?_,?_,rfl⟩;.cases lo with|none=>simp[sliceBounds,HT.sIx]|some i=>
  simp only[sliceBounds,HT.sIx,Option.getD_none,show(1:Int)>0 by decide,aqR];by_cases h:i<0;.simp only[h,aqR]<;>omega
  .simp only[h,aqL]<;>omega
 .cases c with|none=>simp[sliceBounds,HT.sIx]|some i=>
  simp only[sliceBounds,HT.sIx,Option.getD_none,show(1:Int)>0 by decide,aqR];by_cases h:i<0;.simp only[h,aqR]<;>omega
  .simp only[h,aqL]<;>omega
def qG(its:List Value)(lo c):slicePick its.toArray lo c none=((its.drop (HT.sIx its.length 0 lo)).take (HT.sIx its.length its.length c-HT.sIx its.length 0 lo)).toArray:=by obtain⟨e,d,f⟩:=sU _ _ _;unfold slicePick;rw[e,d,f];simp only[sliceRange_one,pick_run,apB]
def aoG(K:W.Frag):V->Option Int->Option Int->Hp->VK->Prop:=λx lo d H Q=>∃a c,x=.ref a/\SqL K H a c/\∀p,H p=none->Q (.ref p) (upd H p (.lst (aix c lo d)))
def ahc:SlR X (aoG X.K):=by intro f s w H x v u p lo l t Q I m o pl n h;refine oC h λa i d g q=>?_;subst d;cases m;refine jV (I.list g) λj r e k=>?_;have c:=r.length;refine iH "list" _ slot_list_getitem.lookup e.isList.typeIs (wpAny_getItem_list_slice e.isList o pl n .none (by simp) ?_ (by grind));rw[qG,<-c];refine iH (.ref s.heap.objs.size) _ (I.laid (λb ob q=>ao4 _ q) (ao6 _) ?_) rfl (q _ (I.hok.fresh (ao6 _)));exact⟨apb (n8 i lo l) k,_,0,(r.drop _).take _,apg _ rfl⟩
def uN:bP X (.builtin "len") λj H Q=>∃p c,j=[.ref p]/\(SqL X.K H p c\/SqT X.K H p c)/\Q (.int c.length) H:=by
 intro k s n H j t Q I r h;refine oC h λp c i e q=>?_;subst i;obtain⟨u,rfl,m⟩:=vals1 r;cases m;have o:=pV;rcases e with e|e;.obtain⟨g,f,pl,l⟩:=I.list e;have d:=f.length;exact Calls.call_len_list pl.isList (by grind) ⟨.int c.length,H,I.tok _,⟨s.toks+1,by grind⟩,q⟩
 .obtain⟨g,f,pl,l⟩:=I.tuple e;have d:=f.length;exact len_tuple pl (by grind) ⟨.int c.length,H,I.tok _,⟨s.toks+1,by grind⟩,q⟩
def uM:bP X (.builtin "len") λd H Q=>∃z,d=[.str z]/\z.length<=sizeLine/\Q (.int z.length) H:=by intro e s f H d j Q I r h;refine jV h λz c i q=>?_;subst c;obtain⟨u,rfl,t,rfl⟩:=vals1 r;have g:=pV;exact len_str (by omega) (iH (.int _) H (I.tok _) ⟨_,rfl⟩ q)
def bP.or{f r e}(h:bP X f r)(h':bP X f e):bP X f λc H Q=>r c H Q\/e c H Q:=by
 intro i s g H c j Q I d q;rcases q with q|q;.exact h _ s g H _ _ Q I d q
 .exact h' _ s g H _ _ Q I d q
def uL:bP X (.type "list") λz H Q=>∃p g,z=[.ref p]/\(SqL X.K H p g\/SqT X.K H p g)/\∀l,H l=none->Q (.ref l) (upd H l (.lst g)):=by
 intro k s B H z D Q I r h;refine oC h λp g y t q=>?_;subst y;obtain⟨u,rfl,C⟩:=vals1 r;cases C;have fin:∀(c:List Value),Vals g c->g.length<=sizeLine->∀(d:Heap)(i:Nat),(∀b A,s.heap.get? b=some A->d.get? b=some A)->d.get? s.heap.objs.size=some _->EP X k B Q _ _:=λc f m d i kp e=>(iH (.ref s.heap.objs.size) _ (I.laid (t':=s.toks) kp (ao6 _) (show cL X.prog X.w _ d _ (.lst g)from⟨m,c,i,f,e⟩)) rfl (q _ (I.hok.fresh (ao6 _))));rcases t with t|t;.obtain⟨c,f,pl,m⟩:=I.list t;have j:=f.length;obtain⟨o,x,v,n,w⟩:=pl.isList;exact call_list_seq p (.inl rfl) x v w (λd i kp e=>fin c f m d i kp e) (by grind)
 .obtain⟨c,f,pl,m⟩:=I.tuple t;have j:=f.length;obtain⟨o,x,v,n,w⟩:=pl;exact call_list_seq p (.inr rfl) x v w (λd i kp e=>fin c f m d i kp e) (by grind)
def rY:bP X (.type "tuple") λk H Q=>∃p d,k=[.ref p]/\((SqL X.K H p d/\∀l,H l=none->Q (.ref l) (upd H l (.tup d)))\/SqT X.K H p d/\Q (.ref p) H):=by
 intro m s x H k y Q I r h;obtain⟨p,d,rfl,h⟩:=h;obtain⟨u,rfl,v⟩:=vals1 r;cases v;rcases h with⟨g,q⟩|⟨g,q⟩;.obtain⟨c,f,pl,n⟩:=I.list g;have j:=f.length;refine call_tuple_list pl.isList (λw kp=>?_) (by grind);have i:=I.kept (t':=s.toks) kp;have t:=i.laid (t':=s.toks) (λb o e=>ao4 _ e) (ao6 _) (show cL _ X.w _ _ _ (.tup d)from⟨n,c,f,IsTup.new _ _⟩);exact iH (.ref _) _ t rfl (q _ (i.hok.fresh (ao6 _)))
 .obtain⟨c,f,pl,n⟩:=I.tuple g;exact call_tuple_same pl (iH (.ref p) H I rfl q)
def tyV(K:W.Frag)(T:String)(x:V)(H:Hp):Prop:=match x with|.str _=>T="str"|.int _=>T="int"|.ref p=>(T="list"/\∃d,SqL K H p d)\/(T="tuple"/\∃o,K.lookup p=some o/\o.cls=.type "tuple"/\o.dict=none)\/T="dict"/\((∃c,H p=some (.dK c))\/∃c,H p=some (.dT c))\/T="set"/\∃S n,H p=some (.set S n)|_=>False
def afK{pins}{k:St}{H s T x v}(I:Inv X pins k H s)(r:RelV x v)(ty:tyV X.K T x H):
 s.TypeIs v T/\∀a,v=.ref a->∃ob,s.heap.get? a=some ob/\ob.dict=none:=by cases x with|str z=>obtain⟨t,rfl⟩:=r;cases show T="str"from ty;exact⟨aq4 s z t,λ_ e=>nomatch e⟩|int i=>obtain⟨t,rfl⟩:=r;cases show T="int"from ty;exact⟨typeIs_int s i t,λ_ e=>nomatch e⟩|ref p=>
  cases r;rcases ty with⟨rfl,q,m⟩|⟨rfl,o,d,l,h⟩|⟨rfl,d⟩|⟨rfl,S,n,d⟩;.obtain⟨j,_,pl,_⟩:=I.list m;refine⟨pl.isList.typeIs,λa e=>?_⟩;cases e;obtain⟨o,n,e,c,h,_⟩:=pl;exact⟨o,e,h⟩
  .refine⟨⟨o,I.kIn p o d,l⟩,λa e=>?_⟩;cases e;exact⟨o,I.kIn _ o d,h⟩
  .have z:∃o,s.heap.get? p=some o/\o.ExactDict:=by
    rcases d with⟨g,d⟩|⟨g,d⟩;.obtain⟨_,_,_,_,o,_,_,e,ex,_⟩:=I.hok p _ d;exact⟨o,e,ex⟩
    .obtain⟨_,_,_,_,o,_,_,e,ex,_⟩:=I.hok p _ d;exact⟨o,e,ex⟩
   obtain⟨o,e,ex⟩:=z;refine⟨⟨o,e,ex.1⟩,λa f=>?_⟩;cases f;exact⟨o,e,ex.2.1⟩
  .obtain⟨o,_,_,_,e,ex,_⟩:=I.hok p _ d;refine⟨⟨o,e,ex.1⟩,λa f=>?_⟩;cases f;exact⟨o,e,ex.2.1⟩|_=>exact False.elim ty
def anz(K:W.Frag)(T:String)(r:V->List V->Hp->VK->Prop)(d:TE):TE:=λe H Q=>d e H λx c=>tyV K T x c/\r x [] c Q
def tBM(K:W.Frag)(T:String)(r:V->List V->Hp->VK->Prop)(f:TE)(t:TA):TE:=λd H Q=>f d H λx c=>tyV K T x c/\t d c λg e=>r x g e Q
variable{o e:Expr}{es:List Expr}{to:TE}{t:TA}{name:Str}{apos cpos:Pos}{T id:String}{r:V->List V->Hp->VK->Prop}
def ajD(m:PlainAttrs T)(g:Slot T name id)(i:typeOf (.builtin id)=pure (.type "method_descriptor"))(p:MtR X id r)(u:PE X o to)(f:attributeBase o name X.env (eval o X.env)=eval o X.env:=by rfl)(d:(apos.endLine==cpos.line)=true:=by rfl):PE X (.Call (.Attribute o name apos) [] [] cpos) (anz X.K T r to):=by intro c s k H Q I h;refine wpAny_Call_method0_late f d (thn (u c s k H _ I h) λv s1⟨x,l,j,r1,ty,q1⟩=>?_);obtain⟨n,q⟩:=afK j r1 ty;exact⟨T,id,m,g,i,n,q,Calls.callWith_builtin rfl (PySem.evalArgs_none (p c s1 k l x [] v [] Q j r1 .nil q1))⟩
def lI(q:PlainAttrs T)(i:Slot T name id)(k:typeOf (.builtin id)=pure (.type "method_descriptor"))(B:MtR X id r)(E:PE X o to)(u:PA X (e::es) t)(f:attributeBase o name X.env (eval o X.env)=eval o X.env:=by rfl)(j:((backTo cpos (starEach (e::es) X.env)).all (λx=>!x.1)&&(backToKw cpos (keywordEach [] X.env)).all (λx=>x.1.isSome)&&decide ((e::es).length+([]:List Keyword).length+(if([]:List Keyword).isEmpty then 0 else 1)<30))=true:=by rfl)(g:(apos.endLine==cpos.line)=true:=by rfl)(G:SE X e es:=by rfl)(d:BT X cpos es:=by rfl):PE X (.Call (.Attribute o name apos) (e::es) [] cpos) (tBM X.K T r to t):=by intro c s l H Q I h;refine wpAny_Call_method_late f j g rfl (thn (E c s l H _ I h) λv s1⟨x,p,m,r1,ty,q1⟩=>?_);obtain⟨w,C⟩:=afK m r1 ty;refine⟨T,id,q,i,k,w,C,?_⟩;have n:=u cpos c s1 l p _ m q1;rw[G]at n⊢;refine Calls.callWith_builtin (by show(false||(backTo cpos (starEach es X.env)).any (·.1))=false;rw[d]<;>rfl) (aro ?_);exact thn n λA s2⟨D,z,y,r2,q2⟩=>B c s2 l z x D v A Q y r1 r2 q2
end
def MtM(X:Cx)(id:String)(r:V->List V->Hp->VK->Prop):Prop:=∀(a:List (Addr×Obj))(s:Shared)(d:St)(H:Hp)(x:V)(c:List V)(v:Value)(b:List Value)(Q:VK),Inv X a d H s->RelV x v->Vals c b->r x c H Q->wpAny (model X.prog X.w) X.A (call (.builtin id) (v::b)) (EP X a d Q) X.xe s
def Vals.one:∀{x us},Vals [x] us->∃u,us=[u]/\RelV x u|_,_,.cons r .nil=>⟨_,rfl,r⟩
def Vals.zero:∀{us:List Value},Vals [] us->us=[]|_,.nil=>rfl
theorem Vals.dropLast{xs:List V}{us:List Value}(h:Vals xs us):Vals xs.dropLast us.dropLast:=by induction h with|nil=>exact .nil|cons r t ih=>cases t with|nil=>exact .nil|cons q t'=>exact .cons r ih
def zO{α:Type}(l:List α):l.eraseIdx (l.length-1)=l.dropLast:=by induction l with|nil=>rfl|cons a r ih=>cases r with|nil=>rfl|cons b r=>
   have e:(a::b::r).length-1=(b::r).length-1+1:=by have d:(a::b::r).length=r.length+2:=rfl;have c:(b::r).length=r.length+1:=rfl;omega
   rw[e,List.eraseIdx_cons_succ,ih];all_goals rfl
section
variable{X:Cx}{pins:List (Addr×Obj)}{σ:St}{H:Hp}{s:Shared}{l:Addr}{xs ys:List V}
def Inv.amQ{its its':List Value}{n f t'}(I:Inv X pins σ H s)(c:H l=some (.lst xs))(e:s.heap.get? l=some {cls:=.type "list",data:=.seq its.toArray n})(g:f its.toArray=its'.toArray)(d:Vals ys its')(hz:ys.length<=sizeLine):Inv X pins σ (upd H l (.lst ys)) {s with heap:=s.heap.update l (Obj.mapSeq f),toks:=t'}:=by have q:=PySem.IsL.update e f;rw[g]at q;refine I.write (by rw[c];exact trivial) (.inl rfl) (λi u h a=>(apl _ _ (aph h)).trans a) ⟨_,q⟩ ?_;exact⟨hz,_,_,d,q⟩
def Inv.amT{its t'}(I:Inv X pins σ H s)(a:Vals ys its)(hz:ys.length<=sizeLine):Inv X pins σ (upd H s.heap.objs.size (.lst ys)) {s with heap:=s.heap.push {cls:=.type "list",data:=.seq its.toArray},toks:=t'}:=I.laid (λ_ _ q=>ao4 _ q) (ao6 _) ⟨hz,_,0,a,apg _ rfl⟩
theorem Inv.fresh(I:Inv X pins σ H s):H s.heap.objs.size=none:=I.hok.fresh (ao6 _)
def Inv.amP(I:Inv X pins σ H s)(c:H l=some (.lst xs)):xs.length<=sizeLine/\∃a n,Vals xs a/\xs.length=a.length/\s.heap.get? l=some {cls:=.type "list",data:=.seq a.toArray n}:=by obtain⟨z,a,n,r,e⟩:=I.hok l _ c;exact⟨z,_,n,r,r.length,e⟩
def aeC{n:Nat}(h:n<=sizeLine):Builtin.List.listTooLong n=false:=by unfold Builtin.List.listTooLong;exact apJ (by omega)
end
section
variable{X:Cx}
def mV:V->List V->Hp->VK->Prop:=λx b H Q=>∃l a y,x=.ref l/\b=[y]/\H l=some (.lst a)/\a.length<sizeLine/\Q .non (upd H l (.lst (a++[y])))
def fo:MtM X "list.append" mV:=by intro d s o H x w v t Q I j i h;refine ak7 h λl m y a b c p q=>?_;subst a b;cases j;obtain⟨u,rfl,f⟩:=i.one;obtain⟨z,g,n,r,k,e⟩:=I.amP c;refine aqM F.slot_list_append ⟨_,e,rfl⟩ F.entry_list_append (F.args_list_append_2 _ _) (PySem.list_append l _ n u (by grind)) ⟨e,.non,_,I.amQ c e (by simp) (r.append (.cons f .nil)) ?_,rfl,q⟩;rw[apR,arf];omega
def anJ:V->List V->Hp->VK->Prop:=λx b H Q=>∃l a y,x=.ref l/\b=[]/\H l=some (.lst a)/\a[a.length-1]?=some y/\Q y (upd H l (.lst a.dropLast))
def ajY:MtM X "list.pop" anJ:=by
 intro f s t H x A v w Q I o m h;obtain⟨l,p,y,rfl,rfl,d,k,q⟩:=h;cases o;have b:=m.zero;subst b;obtain⟨z,a,n,r,i,e⟩:=I.amP d;obtain⟨u,g,j⟩:=r.get k;have c:a.toArray[a.toArray.size-1]?=some u:=by show a.toArray[a.length-1]?=some u;rw[<-arh,<-i];exact g
 refine aqM F.slot_list_pop ⟨_,e,rfl⟩ F.entry_list_pop (F.args_list_pop_1 _) (MeetsSeq.list_pop_last l a.toArray n u c (by rw[apB];omega)) ⟨e,?_⟩;refine⟨y,_,I.amQ (its':=a.dropLast) d e ?_ r.dropLast ?_,j,q⟩;.show a.toArray.eraseIdxIfInBounds (a.toArray.size-1)=a.dropLast.toArray;rw[apB,List.eraseIdxIfInBounds_toArray,zO]
 .rw[List.length_dropLast];omega
end
end L2
namespace Att
open PySem PySem.W PySem.Calls PyProof.Rows
def nL{P h}:∀c d,WellAll P h d (c.map WData.int)->IntsAre d c:=by intro c;induction c with|nil=>intro d w;cases w;exact .nil|cons n c ih=>intro d w;cases w with|cons a b=>cases a;exact .cons _ _ (ih _ b)
def aba{l:OpenLaw}{n}(t:l.most=some n){P h args c}(b:l.row.toRowW.claim.pre args=true)(i:WellAll P h c args):∃a o e,c=[Value.ref a]/\args=[WData.list (e.map WData.int)]/\h.get? a=some {cls:=.type "list",data:=.seq o.toArray}/\IntsAre o e/\e.length<=n:=by
 have m:l.pre.holds [] {args:=args}=true:=(pre_splitW b).2;refine oC (hasAllW_cons (pre_splitW b).1) λd r j p u=>?_;subst j;obtain rfl:=hasAllW_nil u;obtain⟨v,rfl,s⟩:=hasW_list p;obtain⟨e,rfl⟩:=items_int s;have f:e.length<=n:=by
  unfold OpenLaw.pre at m;have g:=by have g:=(holds_andW m).1;rw[t]at g;exact g
  have k:=condW_of g (w_not (w_lt w_lit (w_len_list (w_arg rfl))));rw[apv]at k;refine ase λq=>?_;(simp at k;omega)
 cases i with|cons w1 w2=>cases w2;cases w1 with|list ho hall=>exact ala _ _ e rfl rfl ho (nL e _ hall) f
def aby(l:OpenLaw)(a):l.row.toRowW.claim.post a (.bool true) a=true:=postW_of (rfl) (w_eq_bool (w_res rfl) w_lit) rfl
def wH{l:OpenLaw}{n q c H I d}(O:l.most=some n)(B:d.params.defaults=[])(call:∀w e b x y s o D u h a j t,Ground q c [] H w e x y b.heap->I w b.heap->b.heap.get? s=some o->o.data=.func (docDef d.name d.params d.body d.scope D u h)->b.heap.CodeRec u d.name->x d.name=some (.ref s)->b.heap.get? a=some {cls:=.type "list",data:=.seq j.toArray}->IntsAre j t->t.length<=n->b.gens=#[]->codeAny (model l.prog w) callerA (.call (.ref s) ⟨[.ref a],[]⟩) (λr v=>r=.ok (.ret (.bool true))/\OldK b.heap v.heap/\v.os=b.os/\AllBare v.gens) b):WalkO q c H I l.row.toRowW d [] λf j=>PySem.call f j:=by intro w e b x y G Y s o D u h Z kV R Q z N E hg K J as m M T C U;obtain rfl:Z=.none:=Dflts.none N B;obtain rfl:kV=.none:=Dflts.noKw N;refine ak7 (aba O m C) λa j t i A p g k=>?_;subst i A;refine enter_call (aqE (call w e b x y s o D u h a j t G Y R (fd_plain Q) z E p g k hg) λr v hq=>?_);refine alN hq λi P X S=>?_;subst i;exact⟨.inl (ala _ (.bool true) [] rfl (λ_=>rfl) (.bool true) (aby l _) λ_=>⟨List.Pairwise.nil,λ_ hm=>nomatch hm⟩),P,X,S⟩
end Att
namespace L2
open PySem PySem.Spec PyProof.Rows
theorem sC:∀{vs ns},IntsAre vs ns->Vals (ns.map V.int) vs|_,_,.nil=>.nil|_,_,.cons n t h=>.cons ⟨t,rfl⟩ (sC h)
def anm(H:Hp):Prop:=∀b,H b=none\/∃o a,H b=some (.frz o (.lst a))
def aeL{P w K B X CX k S a fd x sp c vs ns}(KX:K.In c.heap)(C:c.heap.Ns mainGlobals B)(g:c.heap.Ns builtinsNs X)(Y:∀x:Str,x≠"__name__"->X x=bootBuiltins x)(E:c.heap.NoLimit)(hg:c.gens=#[])(R:c.heap.get? a=some {cls:=.type "list",data:=.seq vs.toArray})(hi:IntsAre vs ns)(Z:ns.length<=sizeLine)(hr:Room k callerA)(F:∀i,K.In i->i.Ns mainGlobals B->FnOk P w K B i CX k S fd [x] sp)(t:∀s u,BindsTo s fd ⟨[u],[]⟩ [(x,u)])(T:∀H,anm H->SqL K H a (ns.map V.int)->sp [.ref a] H (λv _=>v=.bl true) λ_ _ _=>False)(Q:∀H e j,CX [] H c (λ_ _ _=>False) e j->False):codeAny (model P w) callerA (.call (.ref S) ⟨[.ref a],[]⟩) (λr j=>r=.ok (.ret (.bool true))/\OldK c.heap j.heap/\j.os=c.os/\AllBare j.gens) c:=by
 have rv:=sC hi;have y:=hi.length;-- from an abstract heap in which nothing but the script may be tracked
 have p:∀H:Hp,anm H->SqL K H a (ns.map V.int)->HOk P w H c.heap->(∀b,H b≠none->b=a)->(H a≠none->K.lookup a=none)->codeAny (model P w) callerA (.call (.ref S) ⟨[.ref a],[]⟩) (λr j=>r=.ok (.ret (.bool true))/\OldK c.heap j.heap/\j.os=c.os/\AllBare j.gens) c:=by
  intro H hO hS D hA hK;have f:∀{b:Addr}{o:Obj},c.heap.get? b=some o->H b=none->(ae1 c.heap H).get? b=some o:=λe n=>ae0 e n;have O:∀{b:Addr}{o:Obj}{M:Array DictEntry}{N:Nat},c.heap.get? b=some o->o.data=.dict M N->H b=none:=λ{b o M N}e d=>by grind
  have l:∀{b:Addr}{m:Str->Option Value},c.heap.Ns b m->(ae1 c.heap H).Ns b m:=λ{b m}⟨o,M,N,e,d,r⟩=>⟨o,M,N,f e (O e d),d,r⟩;have A:K.In (ae1 c.heap H):=λb o e=>f (KX b o e) (by cases q:H b with|none=>rfl|some u=>have e':b=a:=hA b (by rw[q];simp);subst e';rw[hK (by rw[q];simp)]at e;cases e);have hM:Mod K B (ae1 c.heap H):=⟨A,l C,⟨X,l g,Y⟩,let⟨mc,h1,h2⟩:=E;⟨mc,l h1,h2⟩⟩;have e0:Env0 P w K B (ae1 c.heap H) callerA [] c H:=⟨rfl,hM,λb o e=>ahz e,ar8 (acu _ _),trivial,λb g=>absurd (show b∈([]:List Addr)from g) (by simp),D,.of_eq hg⟩;refine aqE ((F _ A (l C)).run callerA [] c H ⟨[.ref a],[]⟩ [.ref a] [.ref a] _ _ hr trivial e0 (t c (.ref a)) (.cons rfl .nil) (T H hO hS)) λr j h=>?_;cases r with|error e=>exact(Q H e j h).elim|ok fl=>cases fl with|next|brk|cont=>exact False.elim h|ret u=>obtain⟨v,H',os,J,un,G,r',q⟩:=h;have q':v=.bl true:=q;subst q';obtain rfl:u=Value.bool true:=r';refine⟨rfl,OldK.of_keep λb o e=>?_,os,J⟩;cases q:H b with|none=>exact un.keep b o e q (by intro z;exact absurd (show b∈([]:List Addr)from z) (by simp)) (by simp)|some u=>
     rcases hO b with z|⟨ob,xs,z⟩;.rw[q]at z;cases z
     .have z2:=un.frzs b ob _ z;obtain⟨e1,_⟩:=D b _ z;obtain⟨e2,_⟩:=G b _ z2;rw[e]at e1;cases e1;exact e2
 cases U:K.lookup a with|some o=>-- the script is one of the module's own objects
 have e:=KX a o U;rw[R]at e;cases e;refine p (λ_=>none) (λ_=>.inl rfl) (.inr ⟨_,vs.toArray,_,U,rfl,rfl,rfl,by rw[apB,y];exact Z,by simpa using rv⟩) (λb u z=>by have I:(none:Option HO)=some u:=z;cases I) (λb z=>absurd rfl z) λz=>absurd rfl z|none=>
  refine p (λb=>if b=a then some (.frz {cls:=.type "list",data:=.seq vs.toArray} (.lst (ns.map V.int)))else none) (λb=>?_) (.inl (.inr ⟨{cls:=.type "list",data:=.seq vs.toArray},apa rfl⟩)) (λb u z=>?_) (λb z=>?_) λ_=>U
  .by_cases g:b=a;.exact .inr ⟨_,_,apa g⟩
   .exact .inl (ao9 g)
  .by_cases g:b=a;.have I:=(apa g).symm.trans z;cases I;subst g;exact⟨R,by rw[apv];exact Z,vs,_,rv,R⟩
   .have I:=(ao9 g).symm.trans z;cases I
  .by_cases g:b=a;.exact g
   .exact absurd (ao9 g) z
def agZ{l:W.OpenLaw}{n k q i P I d}{K:Params->W.Frag}{CX:World->CXT}{sp:World->Sp}{x}(R:l.most=some n)(y:n<=sizeLine)(B:d.params.defaults=[])(S:Room k callerA)(Z:∀w h,I w h->(K w.params).In h)(F:∀w j t h,(K w.params).In h->h.Ns mainGlobals j->j d.name=some (.ref t)->∃z,(∀s u,BindsTo s z ⟨[u],[]⟩ [(x,u)])/\∀b,(K w.params).In b->b.Ns mainGlobals j->FnOk l.prog w (K w.params) j b (CX w) k t z [x] (sp w))(C:∀w H a(r:List Int),r.length<=n->anm H->SqL (K w.params) H a (r.map V.int)->sp w [.ref a] H (λv _=>v=.bl true) λ_ _ _=>False)(A:∀w H s e D,CX w [] H s (λ_ _ _=>False) e D->False):W.WalkO q i P I l.row.toRowW d [] λf N=>PySem.call f N:=by refine Att.wH R B λw J p j mb t o pm cd U a N r G Y ho hd Q E m g c hg=>?_;have M:=Z w _ Y;refine eM (F w j t _ M G.T.g E) λz T O=>?_;exact aeL M G.T.g G.T.b G.T.builtins G.T.nolimit hg m g (apb c y) S O T (λH hO X=>C w H a r c hO X) λH e D=>A w H p e D
noncomputable def bf(s:Stmt):Arguments:=match s with|.FunctionDef _ a _ _ _ _ _ _ _ _=>a|_=>{posonlyargs:=[],args:=[],vararg:=none,kwonlyargs:=[],kw_defaults:=[],kwarg:=none,defaults:=[]}
noncomputable def aF(s:Stmt):List Stmt:=match s with|.FunctionDef _ _ b _ _ _ _ _ _ _=>b|_=>[]
noncomputable def ak(s:Stmt):Scope:=match s with|.FunctionDef _ _ _ _ _ _ sc _ _ _=>sc|_=>{kind:=.function,names:=[],isGenerator:=false,isCoroutine:=false}
abbrev CX0:CXT:=λ_ _ _ _ _ _=>False
abbrev E0:XK:=λ_ _ _=>False
def ajF{X}:Passes CX0 X E0:=λ_ _ _ _ _ _ _ h=>h.elim
structure Fun(K:W.Frag)(x qual:Str)(st:Stmt)(f:Addr)(fd:FuncData):Prop where
 ex:∃(oc:Value)(od:Option Addr)(kV doc pm:Value)(an:Option Addr)(cdv ct:Value)(osl:Array (Option Value)),fd=W.fnOf x qual (bf st) (aF st) (ak st) .none kV doc pm an cdv ct/\K.lookup f=some ⟨oc,od,.func fd,osl⟩/\W.codeIn K cdv qual=true
 kp:W.keepIn K (.ref f)=true
section
variable{P:Program}{w:World}{K:W.Frag}{mg:Str->Option Value}{base:Heap}
def Fun.ok{x b st f l N ps k sp}(F:Fun K x b st f l)(S:FnScope N ps (ak st))(len:∀e H Q E,sp e H Q E->e.length=ps.length)(c:∀d A a s H e Q E,Room k (A.deeper (envOfC b (ak st) s.heap.objs.size f d))->sp e H Q E->∃t,PSs (fB CX0 P w K mg base N b (ak st) f d A a s H E).nox (aF st) t/\t {nx:=λ_ n=>Q .non n,rt:=Q} (start N e) H):FnOk P w K mg base CX0 (k+1) f l ps sp:=by refine afy F.ex λu od kV r y v d ct m j o g=>?_;subst j;refine rB o g S len λA a s H e Q E p _ i=>?_;obtain⟨t,h,q⟩:=c _ A _ s H _ Q E p i;exact⟨t,h.nox,q⟩
def Fun.binds{x a st f j ps}(F:Fun K x a st f j)(h:∀kV b i g c ct e,e.length=ps.length->bindArgs (W.fnOf x a (bf st) (aF st) (ak st) .none kV b i g c ct) ⟨e,[]⟩=pure (ps.zip e)):Binds K j ps []:=by refine afy F.ex λm od kV b i g c ct l d n k=>?_;subst d;exact .all (h _ _ _ _ _ _)
def uq{x a st f i od e g kV d h b ct}(l:K.lookup f=some ⟨i,od,.func (W.fnOf x a (bf st) (aF st) (ak st) .none kV d h e b ct),g⟩)(c:W.codeIn K b a=true)(k:W.keepIn K (.ref f)=true):Fun K x a st f (W.fnOf x a (bf st) (aF st) (ak st) .none kV d h e b ct):=⟨⟨i,od,kV,_,h,e,_,ct,_,rfl,l,c⟩,k⟩
end
section
variable{X:Cx}
def pv(i){x pos}(d:X.N[i]?=some x:=by rfl)(b:Vis X.env.scope x:=by first|exact Or.inl rfl|exact Or.inr (Or.inl rfl)|exact Or.inr (Or.inr rfl))(c:Dbg x:=by decide)(a:(x=="__classdict__")=false:=by decide):PE X (.Name x pos) (cM i):=pP d b c a
end
def aw(H H':Hp):Prop:=∀b o,H b=some o->H' b=some o
def aw.refl(H):aw H H:=λ_ _ h=>h
def aw.trans{H d e}(a:aw H d)(b:aw d e):aw H e:=λc o h=>b c o (a c o h)
def aw.free{H H'}(e:aw H H'){l}(h:H' l=Option.none):H l=Option.none:=by cases q:H l with|none=>rfl|some o=>rw[e l o q]at h;cases h
def aw.seq{K H H' a xs}(e:aw H H')(h:SqL K H a xs):SqL K H' a xs:=by
 rcases h with(h|⟨o,h⟩)|h;.exact .inl (.inl (e _ _ h))
 .exact .inl (.inr ⟨o,e _ _ h⟩)
 .exact .inr h
end L2
set_option maxHeartbeats 4000000
set_option autoImplicit true
set_option relaxedAutoImplicit true
namespace L2
open PySem PySem.Spec PyProof.Rows
noncomputable def cY(a:List (Str×Addr)):List (Str×NameKind)->List (Str×Addr)->List (Str×Addr)|[],acc=>acc|(n,k)::r,acc=>if k==.free then match a.lookup n with|some c=>cY a r ((n,c)::acc)|none=>cY a r acc else cY a r acc
def fU (h:∀y∈scope.names,y.2=.free->(env.cells.lookup y.1).isSome=true):closureFor scope env=pure (cY env.cells scope.names []):=by
 have all:∀(a:List (Str×NameKind))(b:List (Str×Addr)),(∀y∈a,y.2=.free->(env.cells.lookup y.1).isSome=true)->(forIn a b λ(x:Str×NameKind)r=>match x with|(name,kind)=>if(kind==NameKind.free)=true then do let c <-cellOf env name;pure (ForInStep.yield ((name,c)::r))else pure (ForInStep.yield r))=pure (cY env.cells a b):=by intro a;induction a with|nil=>intro b _;rfl|cons y r ih=>
   intro b j;obtain⟨n,k⟩:=y;rw[List.forIn_cons];have i:=λd=>ih d λz m=>j z (apQ _ m);by_cases g:(k==NameKind.free)=true
   .have f:k=.free:=by simpa using g
    obtain⟨c,l⟩:=apT.mp (j (n,k) apu f);have o:cellOf env n=pure c:=by unfold cellOf;rw[l]
    simp only[cY,g,aqR,l];rw[o];simpa using i ((n,c)::b)
   .simp only[cY,g,aqL];simpa using i b
 have e:=all scope.names [] h;unfold closureFor;(simpa using e)
theorem cz :∀b a,(cY cells b a).lookup x=some c->a.lookup x=some c\/cells.lookup x=some c
|[],a,h=>.inl h|(n,k)::r,a,h=>by
 unfold cY at h;split at h;.cases e:cells.lookup n with|none=>rw[e]at h;exact cz r _ h|some d=>
  rw[e]at h;rcases cz r _ h with q|q
  .rw[apL]at q;split at q;.exact .inr (by grind)
   .exact .inl q
  .exact .inr q
 .exact cz r _ h
theorem fV :∀b(a:List (Str×Addr)),(a.lookup x).isSome=true->((cY cells b a).lookup x).isSome=true
|[],a,h=>h|(n,k)::r,a,h=>by
 unfold cY;split;.cases e:cells.lookup n with|none=>exact fV r _ h|some d=>
  refine fV r _ ?_;rw[apL];split;.rfl
  .exact h
 .exact fV r _ h
theorem kr :∀a f,(x,NameKind.free)∈a->(cells.lookup x).isSome=true->((cY cells a f).lookup x).isSome=true
|(n,k)::r,f,g,b=>by
 rcases apq.mp g with e|g;.cases e;obtain⟨c,b⟩:=apT.mp b;unfold cY;simp only[b];refine fV r _ ?_;simp
 .unfold cY;split;.cases e:cells.lookup n with|none|some d=>exact kr r _ g b
  .exact kr r _ g b
theorem bL{a:Env}{x}:∀{b:List (Str×NameKind)}{k},(b.map λ(n,k)=>if k==NameKind.free&&a.scope.kind==.function&&a.kindOf n==some .cell then(n,NameKind.cell)else(n,k)).lookup x=some k->b.lookup x=some k\/k=.cell/\b.lookup x=some .free
|[],_,h=>by simp at h|(n,k0)::r,k,h=>by
  have g:=@bL a x r k;have c:List.lookup x ((if(k0==NameKind.free&&a.scope.kind==.function&&a.kindOf n==some .cell)=true then(n,NameKind.cell)else(n,k0))::r.map λ(n,k)=>if k==NameKind.free&&a.scope.kind==.function&&a.kindOf n==some .cell then(n,NameKind.cell)else(n,k))=some k:=h
  cases e:x==n with|true=>
   rw[apL,e];by_cases d:(k0==NameKind.free&&a.scope.kind==.function&&a.kindOf n==some .cell)=true
   .rw[apa d,apL,e]at c;have f:k0=.free:=by simp only[apk]at d;simpa using d.1.1
    cases c;exact .inr ⟨rfl,by rw[f]⟩
   .rw[ao9 d,apL,e]at c;exact .inl c|false=>
   rw[apL,e];by_cases d:(k0==NameKind.free&&a.scope.kind==.function&&a.kindOf n==some .cell)=true;.rw[apa d,apL,e]at c;exact g c
   .rw[ao9 d,apL,e]at c;exact g c
section
variable{X:Cx}{pins:List (Addr×Obj)}{σ:St}{H:Hp}{s:Shared}
def HOk.aaU{P w h a o}(x:HOk P w H h)(d:H a=none)(new:cL P w (upd H a o) h a o):HOk P w (upd H a o) h:=λb u e=>by
 by_cases f:b=a;.subst f;rw[ah]at e;cases e;exact new
 .rw[ae f]at e;exact(x b u e).u0 (λc v _ q=>q) (λc q=>by rw[ae (aL q d)];exact q) λc g q=>by rw[ae (aL q d)];exact q
theorem Inv.aaU (I:Inv X pins σ H s)(hn:H a=none)(ha:X.s₀.heap.objs.size<=a)(hL:a≠X.env.locals)(hc:∀x c,X.env.cells.lookup x=some c->c≠a)(hp:∀p∈X.pn++pins,p.1≠a)(new:cL X.prog X.w (upd H a o) s.heap a o):Inv X pins σ (upd H a o) s where
 ok:=I.ok;os:=I.os;bare:=I.bare;base:=⟨I.base.keep,I.base.slot,λb u q n hx=>by rw[ae (api (apd (ape q) ha))];exact I.base.free b u q n hx,I.base.there,λb xs q=>by have z:=I.base.tups b xs q;rw[ae (aL z hn)];exact z,λb u v q=>by have z:=I.base.frzs b u v q;rw[ae (aL z hn)];exact z,λb ps q=>by obtain⟨more,z⟩:=I.base.tbls b ps q;exact⟨more,by rw[ae (aL z hn)];exact z⟩⟩;loc:=I.loc;cell:=I.cell;free:=by rw[ae (aph hL)];exact I.free
 freeC:=λx c e=>by rw[ae (hc x c e)];exact I.freeC x c e
 pin:=λp hp'=>by obtain⟨e,n,r⟩:=I.pin p hp';exact⟨e,by rw[ae (hp p hp')];exact n,r⟩
 hok:=I.hok.aaU hn new;len:=I.len
end
abbrev Cx.tri(X:Cx)(E:Value->Shared->Prop)(pn:List (Addr×Obj)):Cx:={X with xe:=E,pn:=pn}
theorem Cx.Ok.tri{X:Cx}(ok:X.Ok)(E)(a):(X.tri E a).Ok:=⟨ok.mod,ok.kind,ok.glob,ok.blt,ok.above,ok.inj,ok.has,ok.cab,ok.hd,ok.frames,ok.stk,ok.exf,ok.bs,ok.bsz,ok.noex,ok.exfs,ok.sf,ok.frf⟩
section
variable{X:Cx}{pins:List (Addr×Obj)}{σ:St}{H:Hp}{s:Shared}
theorem Inv.tri(I:Inv X pins σ H s)(E:Value->Shared->Prop):Inv (X.tri E (X.pn++pins)) [] σ H s:=⟨I.ok.tri E _,I.os,I.bare,I.base,I.loc,I.cell,I.free,I.freeC,λp a=>I.pin p (by simpa using a),I.hok,I.len⟩
end
noncomputable def hd1(y:Str):Str:=⟨y.cps.push 32⟩
def hid(scope:Scope)(y:Str):Str:=match scope.names.lookup y with|some .local=>hd1 y|_=>y
set_option tactic.hygienic true in
def akt (h:hid scope y=x):x=hd1 y/\scope.names.lookup y=some .local\/x=y/\scope.names.lookup y≠some .local:=by
 unfold hid at h;split at h;.rename_i e;exact .inl ⟨h.symm,e⟩
 .rename_i e;exact .inr ⟨h.symm,e⟩
abbrev Cx.comp(X:Cx)(scope:Scope)(C:Addr)(ts:List Str)(a:Shared)(b:Hp)(c:List Addr):Cx:={X with N:=ts++X.N.map (hid scope),s₀:=a,H₀:=b,env:=compEnvC scope (cY X.env.cells scope.names []) C X.env,outer:=X.stack,stack:=X.stack,ex:=c,fn:=λ_=>false,pn:=[],xe:=λ_ _=>False}
structure CompLook(X:Cx)(scope:Scope):Prop where
 kind:scope.kind=.function
 nocell:scope.names.all λy=>y.2!=.cell=true
 names:scope.names.all λy=>y.2!=.local||scope.names.lookup y.1==some .local=true
 free:scope.names.all λy=>y.2!=.free||X.env.scope.names.lookup y.1==some .cell||X.env.scope.names.lookup y.1==some .free=true
 apart:(scope.names.all λy=>(scope.names.lookup (hd1 y.1)).isNone)=true
structure CompScope(X:Cx)(scope:Scope)(ts:List Str):Prop where
 kind:scope.kind=.function
 nocell:∀y∈scope.names,y.2≠.cell
 names:∀y∈scope.names,y.2=.local->scope.names.lookup y.1=some .local
 free:∀y∈scope.names,y.2=.free->X.env.scope.names.lookup y.1=some .cell\/X.env.scope.names.lookup y.1=some .free
 apart:∀y∈scope.names,scope.names.lookup (hd1 y.1)=none
theorem CompLook.scope{X:Cx}{scope:Scope}{ts:List Str}(L:CompLook X scope):CompScope X scope ts where
 kind:=L.kind;nocell:=λy hy=>by simpa using apY.mp L.nocell y hy
 names:=λy hy e=>by have h:=apY.mp L.names y hy;rw[e]at h;simpa using h
 free:=λy hy e=>by have h:=apY.mp L.free y hy;rw[e]at h;simpa using h
 apart:=λy hy=>by simpa using apY.mp L.apart y hy
noncomputable def abY:List Str->Bool|[]=>true|x::r=>!(r.any λy=>decide (y=x))&&abY r
theorem x6:∀{N},abY N=true->N.Nodup|[],_=>List.nodup_nil|x::r,h=>by simp [abY]at h;exact aqf.mpr ⟨λa=>h.1 x a rfl,x6 h.2⟩
section
variable{X:Cx}{pins:List (Addr×Obj)}{σ:St}{H:Hp}{s:Shared}
def wu{scope:Scope}{ts:List Str}{C:Addr}{fp:List Addr}(S:CompScope X scope ts)(I:Inv X pins σ H s)(hf:∀b∈fp,yL X pins H b)(hfl:∀b∈fp,b<s.heap.objs.size)(hC:s.heap.objs.size<=C):(X.comp scope C ts s H fp).Ok where
 mod:=I.ok.mod;kind:=S.kind;glob:=I.ok.glob;blt:=I.ok.blt;above:=hC;inj:=λx y c e1 e2=>by have q1:=(cz scope.names [] e1).resolve_left (by simp);have q2:=(cz scope.names [] e2).resolve_left (by simp);exact I.ok.inj x y c q1 q2
 has:=λx hx=>by
  have hx':scope.names.lookup x=some .free:=by
   rcases hx with hx|hx
   .rcases bL hx with q|⟨_,q⟩;.exact absurd rfl (S.nocell _ (apN q))
    .exact q
   .rcases bL hx with q|⟨q,_⟩;.exact q
    .cases q
  have hm:=apN hx';obtain⟨c,hc⟩:=I.ok.has x (S.free _ hm rfl);exact apT.mp (kr scope.names [] hm (by rw[hc];rfl))
 cab:=λx c h _=>by cases h
 hd:=I.ok.hd;frames:=I.ok.frames;stk:=.inl rfl;exf:=λb hb=>⟨api (apd (hfl b hb) hC),λx c e=>by have q:=(cz scope.names [] e).resolve_left (by simp);exact(hf b hb).2.2.2.2.1 x c q⟩;bs:=I.bs;bsz:=apb I.ok.bsz I.sz;noex:=λb o e hb=>by
  rcases(hf b hb).2.2.2.1 with z|z;.exact I.ok.noex b o e z
  .exact absurd (apd (ape e) (apb I.ok.bsz z)) (ap8 _)
 exfs:=λb hb z=>by
  rcases apq.mp (I.xA b z)with e|e;.exact(hf b hb).2.1 e
  .exact(hf b hb).2.2.1 e
 sf:=I.stack;frf:=I.vf
def z7{scope:Scope}{ts:List Str}{C:Addr}{fp:List Addr}{s4:Shared}(S:CompScope X scope ts)(I:Inv X pins σ H s)(hf:∀b∈fp,yL X pins H b)(hfl:∀b∈fp,b<s.heap.objs.size)(hC:s.heap.objs.size<=C)(ho:s4.os=s.os)(hg:s4.gens=s.gens)(hk:∀b o,s.heap.get? b=some o->s4.heap.get? b=some o){m:Str->Option Value}(hn:s4.heap.Ns C m):Inv (X.comp scope C ts s H fp) [] (List.replicate ts.length none++σ) H s4 where
 ok:=wu S I hf hfl hC;os:=ho;bare:=by rw[hg];exact I.bare
 base:=Un.kept hk;loc:=⟨m,hn,λi x v e1 e2 e3=>by
  have hi:ts.length<=i:=by
   rcases Nat.lt_or_ge i ts.length with h|h;.rw[apt (by simpa using h),ap9]at e2;simp[h]at e2
   .exact h
  rw[apy (by simpa using hi)]at e2;rw[apy hi]at e1;simp only[aqg]at e2;rw[apz]at e1;obtain⟨y,ey,hy⟩:=apr.mp e1;have hv:scope.names.lookup x≠none:=by
   rcases e3 with q|q|q;.rcases bL q with q|⟨_,q⟩<;>(rw[q];exact nofun)
   .rcases bL q with q|⟨_,q⟩<;>(rw[q];exact nofun)
   .rcases bL q with q|⟨_,q⟩<;>(rw[q];exact nofun)
  have hxy:x=y/\scope.names.lookup y≠some .local:=by
   rcases akt hy with z|z;.exact absurd (by rw[z.1];exact S.apart _ (apN z.2)) hv
   .exact z
  have e1:X.N[i-ts.length]?=some x:=by rw[ey,hxy.1]
  have hap:scope.names.lookup x≠some .local:=by rw[hxy.1];exact hxy.2
  have hfree:scope.names.lookup x=some .free:=by
   rcases e3 with q|q|q
   .rcases bL q with q|⟨q,_⟩;.exact absurd q hap
    .cases q
   .rcases bL q with q|⟨_,q⟩;.exact absurd rfl (S.nocell _ (apN q))
    .exact q
   .rcases bL q with q|⟨q,_⟩;.exact q
    .cases q
  have hm:=apN hfree;have hk0:=S.free _ hm rfl;obtain⟨m0,_,hl⟩:=I.loc;obtain⟨u,r,l⟩:=hl (i-ts.length) x v e1 e2 (hk0.elim (λq=>.inr (.inl q)) λq=>.inr (.inr q));refine⟨u,r,?_⟩;rcases l with⟨kl,_⟩|⟨_,c,ec,z⟩
  .exfalso;have kl':X.env.scope.names.lookup x=some .local:=kl;rcases hk0 with q|q;.rw[q]at kl';cases kl'
   .rw[q]at kl';cases kl'
  .have kk:(X.comp scope C ts s H fp).env.kindOf x=some .cell\/(X.comp scope C ts s H fp).env.kindOf x=some .free:=by
    rcases e3 with q|q|q
    .rcases bL q with q|⟨q,_⟩;.exact absurd q hap
     .cases q
    .exact .inl q
    .exact .inr q
   obtain⟨c',ec'⟩:=(wu S I hf hfl hC).has x kk;have ec2:=(cz scope.names [] ec').resolve_left (by simp);rw[ec]at ec2;cases ec2;obtain⟨o,ho',hd⟩:=z;exact .inr ⟨kk,c,ec',o,hk _ o ho',hd⟩⟩;cell:=λx c e=>by have q:=(cz scope.names [] e).resolve_left (by simp);obtain⟨v,o,ho',hd⟩:=I.cell x c q;exact⟨v,o,hk _ o ho',hd⟩
 free:=I.hok.fresh hC;freeC:=λx c e=>I.freeC x c ((cz scope.names [] e).resolve_left (by simp));pin:=λp hp=>by cases hp
 hok:=I.hok.kept hk;len:=by rw[apR,apR,aqg,I.len,apv]
end
section
variable{prog:Program}{w:World}{A:Around}{R:Result->Shared->Prop}{s:Shared}
def iF{B b u C scope pos it y a}(I:Nat->Shared->Prop)(turn:∀n s,I n s->wpAny (model prog w) A (pyNext it) (λr i=>match r with|none=>R (.ok .next) i|some v=>wpAny (model prog w) A (letOwnedTupleGo b it v) (λ_ f=>wpAny (model prog w) A (assign b a v) (λ_ o=>wpAny (model prog w) A (forIn C true λc r=>if r=true then do let ok <-isTrue c a (eval c a);pure (ForInStep.yield ok)else pure (ForInStep.yield r)) (λok j=>if ok=true then wpAny (model prog w) A (eval B a) (λx k=>wpAny (model prog w) A (call (.builtin "list.append") [y,x]) (λ_ q=>∃m,m<n/\I m q) (notedBy (model prog w) A a λe g=>R (.error e) g) k) (notedBy (model prog w) A a λe g=>R (.error e) g) j else∃m,m<n/\I m j) (notedBy (model prog w) A a λe g=>R (.error e) g) o) (notedBy (model prog w) A a λe g=>R (.error e) g) f) (notedBy (model prog w) A a λe g=>R (.error e) g) i) (notedBy (model prog w) A a λe g=>R (.error e) g) s)(n)(h:I n s):codeAny (model prog w) A (.compLoop (.ListComp B [⟨b,u,C,0⟩] scope pos) 0 it y a) R s:=by refine codeAny_loop rfl I (λn s G=>wpAny_noted ?_) n h;rw[compTurn_list];refine ao3 (aqi (ao3 (apn (turn n s G) (λr i p=>?_) λ_ _ d=>d)));cases r with|none=>exact ao7 p|some v=>refine ao3 (apn p (λ_ f t=>?_) λ_ _ d=>d);refine ao3 (apn t (λ_ o z=>ao3 (apn z (λok j l=>?_) λ_ _ d=>d)) λ_ _ d=>d);cases ok with|false=>exact ao7 ⟨rfl,l⟩|true=>exact ao3 (ao3 (apn l (λx k D=>ao3 (apn D (λ_ q E=>ao7 (ao7 ⟨rfl,E⟩)) λ_ _ d=>d)) λ_ _ d=>d))
end
def ady(X:Cx)(b:List Expr)(t:TT):Prop:=∀(a:List (Addr×Obj))(s:Shared)(d:St)(H:Hp)(Q:Bool->Hp->Prop),Inv X a d H s->t d H Q->wpAny (model X.prog X.w) X.A (forIn b true λc r=>if r=true then do let ok <-isTrue c X.env (eval c X.env);pure (ForInStep.yield ok)else pure (ForInStep.yield r)) (TP X a d Q) X.xe s
def oH:TT:=λ_ H Q=>Q true H
def aem:ady X [] oH:=λa s b H Q I h=>wpAny_tests_nil ⟨H,I,h⟩
def ael  (h:PT X c t):ady X [c] t:=λa s b H Q I hw=>wpAny_tests_one (h a s b H Q I hw)
def aaf(J:It)(g:TG)(q:TT)(te:TE)(h:St)(n:Hp)(F:V->Hp->Prop):Prop:=∃W:Nat->Nat->List V->St->Hp->Prop,(∃m,W 0 m [] h n)/\∀i m f l H,W i m f l H->f.length<sizeLine/\((J.stop i H/\∀D,H D=none->F (.ref D) (upd H D (.lst f)))\/J.go i H/\∃N:List V->St->Hp->Prop,(∀c e d,N c e d->∃j,j<m/\W (i+1) j c e d)/\∀x d,J.yld i H x d->g x l d λa p=>q a p λb k=>if b=true then te a k λy o=>N (f++[y]) a o else N f a k)
def qm(c:Hp->Prop)(J:It)(g:TG)(r:TT)(te:TE)(j:St)(o:Hp)(F:V->Hp->Prop):Prop:=∃W:Nat->Nat->List V->St->Hp->Prop,(∃m,W 0 m [] j o)/\∀i m h n H,W i m h n H->c H/\h.length<sizeLine/\((J.stop i H/\∀D,H D=none->F (.ref D) (upd H D (.lst h)))\/J.go i H/\∃N:List V->St->Hp->Prop,(∀d f e,N d f e->∃k,k<m/\W (i+1) k d f e)/\∀x e,J.yld i H x e->g x n e λa q=>r a q λb l=>if b=true then te a l λy p=>N (h++[y]) a p else N h a l)
theorem qm.w    (h:qm c J g tt te σ0 H1 F):aaf J g tt te σ0 H1 F:=by obtain⟨W,a,t⟩:=h;exact⟨W,a,λi m d b H w=>(t i m _ b H w).2⟩
theorem aaf.c    (h:aaf J g tt te σ0 H1 F):qm (λ_=>True) J g tt te σ0 H1 F:=by obtain⟨W,a,t⟩:=h;exact⟨W,a,λi m c b H w=>⟨trivial,t i m _ b H w⟩⟩
def ag9(k:Nat)(wi:TI)(g:TG)(c:TT)(te:TE):TE:=λa H Q=>wi a H λJ b=>aaf J g c te (List.replicate k none++a) b Q
section
variable{X:Cx}{tg elt iter:Expr}{ifs:List Expr}{scope:Scope}{ts:List Str}{wi:TI}{g:TG}{tt:TT}{te:TE}
def kq{pins}{σ:St}{H s2 pos it j tn J}{Q:VK}{RR:Value->Addr->Result->Shared->Prop}{E}(S:CompScope X scope ts){cl cc}(K:Addr->Value->Shared->Prop)(d4:∀C R,cc R->cl ((X.comp scope C ts s2 H j).tri (K C) []) R)(hg:∀C,PG ((X.comp scope C ts s2 H j).tri (K C) []) tg g)(ht:∀C,ady ((X.comp scope C ts s2 H j).tri (K C) []) ifs tt)(he:∀C,PE ((X.comp scope C ts s2 H j).tri (K C) []) elt te)(I:Inv X pins σ H s2)(T:Turn X.prog X.w X.K tg J j it tn cl)(st:tn 0 s2.heap)(hf:∀b∈j,yL X pins H b)(hW:qm cc J g tt te (List.replicate ts.length none++σ) H Q)(fin:∀(C D:Addr)R A m Y,C≠D->s2.heap.objs.size<=C->s2.heap.objs.size<=D->A.heap.Ns C m->R C=none->Inv X pins σ (upd R D (.lst Y)) A->Q (.ref D) (upd R D (.lst Y))->RR (.ref D) C (.ok .next) A)(hx:∀(C D:Addr)e A,s2.heap.objs.size<=C->K C e A->notedBy (model X.prog X.w) X.A (compEnvC scope (cY X.env.cells scope.names []) C X.env) (λe A=>RR (.ref D) C (.error e) A) e A):wpAny (model X.prog X.w) X.A (newList []) (λc9 B=>wpAny (model X.prog X.w) X.A (newFunctionEnv scope X.env.globals (cY X.env.cells scope.names []) [] X.env.qual none .none (some X.env)) (λa9 c8=>codeAny (model X.prog X.w) X.A (.compStart (.ListComp elt [⟨tg,iter,ifs,0⟩] scope pos) 0 (.ref it) c9 {a9 with scope:=relabel scope X.env}) (RR c9 a9.locals) c8) E B) E s2:=by
 refine aqC (wpAny_newFunctionEnv S.nocell (by intro y hy;simp at hy) (λG t l=>?_) S.kind);dsimp only at t l⊢;generalize hH2:s2.heap.push {cls:=.type "list",dict:=none,data:=.seq ([]:List Value).toArray}=H2 at t l⊢;have c5:H2.objs.size=s2.heap.objs.size+1:=by rw[<-hH2,aq3]
 have b0:s2.heap.objs.size≠H2.objs.size:=by rw[c5];exact api (aqJ _)
 have s:s2.heap.objs.size<=H2.objs.size:=by rw[c5];exact aqz _
 have b8:∀b o,s2.heap.get? b=some o->G.get? b=some o:=λb o e=>l.extBut b o (by rw[c5];exact api (arT (ape e))) (ao4 _ (hH2▸ao4 _ e));have e0:G.PlainList s2.heap.objs.size #[]:=⟨_,l.extBut _ _ b0 (ao4 _ (hH2▸apg _ rfl))⟩;have c6:∀b∈j,b<s2.heap.objs.size:=λb k=>by obtain⟨o,e,_⟩:=T.obj _ _ st b k;exact ape e
 generalize hCdef:H2.objs.size=C at *;generalize hDdef:s2.heap.objs.size=D at *;have c7:D∉j:=λhm=>ap8 _ (c6 _ hm);have a7:((X.comp scope C ts s2 H j).tri (K C) []).Ok:=(wu S I hf (by rw[hDdef];exact c6) (by rw[hDdef];exact s)).tri _ _;have Z:∀x c,((X.comp scope C ts s2 H j).tri (K C) []).env.cells.lookup x=some c->c<D:=λx c e=>by have q:=(cz scope.names [] e).resolve_left (by simp);obtain⟨v,z⟩:=I.cell x c q;rw[<-hDdef];exact z.lt
 have a0:∀{R:Hp}{pl:List (Addr×Obj)},(∀b∈j,R b=none)->(∀p∈pl,p.1∉j)->∀b∈j,yL ((X.comp scope C ts s2 H j).tri (K C) []) pl R b:=λhn M b k=>⟨hn b k,(a7.exf b k).1,a7.exfs b k,.inl k,(a7.exf b k).2,λp e3 z=>M p (by simpa using e3) (z▸k)⟩;obtain⟨W,⟨m0,w0⟩,turn⟩:=hW;have loop:∀B:Shared,B={s2 with heap:=G,toks:=s2.toks+([]:List (Str×Value)).length}->codeAny (model X.prog X.w) X.A (.compLoop (.ListComp elt [⟨tg,iter,ifs,0⟩] scope pos) 0 (.ref it) (.ref D) (compEnvC scope (cY X.env.cells scope.names []) C X.env)) (RR (.ref D) C) B:=by
  rintro B rfl;have f0:Inv (X.comp scope C ts s2 H j) [] (List.replicate ts.length none++σ) H {s2 with heap:=G,toks:=s2.toks+([]:List (Str×Value)).length}:=z7 S I hf (by rw[hDdef];exact c6) (by rw[hDdef];exact s) rfl rfl b8 t;have I0:Inv ((X.comp scope C ts s2 H j).tri (K C) []) [] (List.replicate ts.length none++σ) H {s2 with heap:=G,toks:=s2.toks+([]:List (Str×Value)).length}:=f0.tri _;refine iF (λn A=>∃i Y d5 R h,Inv ((X.comp scope C ts s2 H j).tri (K C) []) [] d5 R A/\tn i A.heap/\(∀b∈j,R b=none)/\A.heap.PlainList D h/\Vals Y h.toList/\R D=none/\W i n Y d5 R) ?_ m0 ⟨0,[],_,H,#[],I0,T.keep _ _ _ st λb _ o e=>b8 b o e,λb k=>(hf b k).1,e0,.nil,I.hok.fresh (by rw[hDdef];exact ao6 _),w0⟩;rintro n s3⟨i,Y,U,H3,h,I3,d2,d1,f4,v3,d3,w3⟩;obtain⟨d7,f3,c4⟩:=turn i n Y U H3 w3;obtain⟨O,eD⟩:=id f4;have d6:∀v,({cls:=.type "list",data:=.seq h O}:Obj).data≠.cell v:=λv z=>by cases z
  have a6:=b0;have a8:D ∉((X.comp scope C ts s2 H j).tri (K C) []).fs:=λk=>by obtain⟨_,o,ho,_⟩:=a7.sf.mem k;exact absurd (aqV (ape ho) hDdef) (ap8 _)
  rcases c4 with⟨d8,qn⟩|⟨go,N,hN,step⟩;.-- the end
   have c0:Inv ((X.comp scope C ts s2 H j).tri (K C) []) [(D,{cls:=.type "list",data:=.seq h O})] U H3 s3:=I3.hT λp M=>by
    obtain rfl:p=(D,({cls:=.type "list",data:=.seq h O}:Obj)):=by simpa using M
    exact⟨eD,d3,a6,a8,d6⟩
   refine apn (T.done ((X.comp scope C ts s2 H j).tri (K C) []) rfl rfl rfl i _ s3 U H3 (λ_ _=>False) (d4 C H3 d7) c0 (a0 d1 λp M=>by
    obtain rfl:p=(D,({cls:=.type "list",data:=.seq h O}:Obj)):=by simpa using M
    exact c7) d2 d8) (λr s4⟨hr,I4⟩=>?_) λ_ _ f=>f.elim;subst hr;have pD:=(I4.pin (D,{cls:=.type "list",data:=.seq h O}) (by simp)).1;obtain⟨m4,f1,_⟩:=I4.loc;have I5:=I.aic I4.os I4.base I4.hok I4.bare λb k=>⟨(hf b k).2.2.2.1,(hf b k).2.1,(hf b k).2.2.2.2.1,(hf b k).2.2.2.2.2⟩;have e7:=apK (aqV I.lt hDdef);have e9:∀x c,X.env.cells.lookup x=some c->c≠D:=λx c e=>by obtain⟨v,z⟩:=I.cell x c e;exact api (aqV z.lt hDdef)
   have e6:∀p∈X.pn++pins,p.1≠D:=λp M=>api (aqV (ape (I.pin p M).1) hDdef);have new:cL X.prog X.w (upd H3 D (.lst Y)) s4.heap D (.lst Y):=⟨ark f3,h.toList,O,v3,by simpa using pD⟩;have I6:=I5.aaU d3 (by rw[<-hDdef];exact I.sz) e7 e9 e6 new;exact fin C D H3 s4 m4 Y (aph b0) s (ao6 _) f1 I4.free I6 (qn D d3)
  .-- a turn
   have c0:Inv ((X.comp scope C ts s2 H j).tri (K C) []) [(D,{cls:=.type "list",data:=.seq h O})] U H3 s3:=I3.hT λp M=>by
    obtain rfl:p=(D,({cls:=.type "list",data:=.seq h O}:Obj)):=by simpa using M
    exact⟨eD,d3,a6,a8,d6⟩
   have d9:∀p∈[((D,{cls:=.type "list",data:=.seq h O}):Addr×Obj)],p.1∉j:=λp M=>by
    obtain rfl:p=(D,({cls:=.type "list",data:=.seq h O}:Obj)):=by simpa using M
    exact c7
   refine apn (T.item ((X.comp scope C ts s2 H j).tri (K C) []) rfl rfl rfl i _ s3 U H3 (λ_ _=>False) (d4 C H3 d7) c0 (a0 d1 d9) d2 go) (λr s4 w=>?_) λ_ _ f=>f.elim;obtain⟨u,hr,h4⟩:=w;subst hr;refine apn h4 (λ_ s5 w=>?_) λ_ _ f=>f.elim;obtain⟨x,H5,I5,r5,y5,b9,e5⟩:=w;have f2:=I5.pinned (a0 e5 d9) (T.obj _ _ b9);have back:∀{d0:St}{H7:Hp}{s7:Shared},Inv ((X.comp scope C ts s2 H j).tri (K C) []) ([(D,{cls:=.type "list",data:=.seq h O})]++tq j s5.heap) d0 H7 s7->tn (i+1) s7.heap/\(∀b∈j,H7 b=none)/\s7.heap.get? D=some {cls:=.type "list",data:=.seq h O}/\H7 D=none:=λ{d0 H7 s7}I7=>by have pD:=I7.pin (D,({cls:=.type "list",data:=.seq h O}:Obj)) (apm _ (apH _ apu));refine⟨T.keep _ _ _ b9 λb k o e=>(I7.pin (b,o) (apm _ (apm _ (iw k e)))).1,λb k=>?_,pD.1,pD.2.1⟩;obtain⟨o,e,d⟩:=T.obj _ _ b9 b k;exact(I7.pin (b,o) (apm _ (apm _ (iw k e)))).2.1
   refine apn (hg C _ s5 U H5 x u _ f2 r5 (step x H5 y5)) (λ_ s6 w=>?_) λe A f=>hx C D e A s f;obtain⟨P,H6,I6,q6⟩:=w;refine apn (ht C _ s6 P H6 _ I6 q6) (λb s7 w=>?_) λe A f=>hx C D e A s f;obtain⟨H7,I7,q7⟩:=w;cases b with|false=>obtain⟨m',hm,w7⟩:=hN _ _ _ (by simpa using q7);obtain⟨b1,b2,b3,b4⟩:=back I7;exact⟨m',hm,i+1,Y,P,H7,h,I7.hT λp M=>absurd M aqb,b1,b2,⟨O,b3⟩,v3,b4,w7⟩|true=>
    have e4:te P H7 λy H4=>N (Y++[y]) P H4:=by simpa using q7
    refine apn (he C _ s7 P H7 _ I7 e4) (λu8 s8 w=>?_) λe A f=>hx C D e A s f;obtain⟨y,H8,I8,r8,q8⟩:=w;obtain⟨m',hm,w8⟩:=hN _ _ _ q8;obtain⟨b1,b2,b3,b4⟩:=back I8;have f5:h.size<=sizeLine:=by have e1:=v3.length;simp only[aqS]at e1;omega
    refine wpAny_list_append_plain ⟨O,b3⟩ λh9 e8 e2=>?_;have I9:Inv ((X.comp scope C ts s2 H j).tri (K C) []) [] P H8 {s8 with heap:=h9}:=(I8.hT λp M=>absurd M aqb).turned (λb o k e=>(e2.2 b k).trans e) b4 a6 (.inr (ar8 hDdef)) (λx c e=>api (Z x c e)) λp M=>absurd M aqb;refine⟨m',hm,i+1,Y++[y],P,H8,h.push u8,I9,T.keep _ _ _ b1 λb k o e=>(e2.2 b λz=>c7 (z▸k)).trans e,b2,e8,?_,b4,w8⟩;simpa using v3.append (.cons r8 .nil)
 exact codeAny_compStart_list (loop _ rfl) (T.self _ 0 _ _ _ (T.keep _ _ _ st λb _ o e=>b8 b o e) (loop _ rfl))
def aeq (L:CompLook X scope)(r:X.calm=true)(N:PI X tg iter wi)(hg:∀C a d i,PG (X.comp scope C ts a d i) tg g)(U:∀C a d i,ady (X.comp scope C ts a d i) ifs tt)(E:∀C a d i,PE (X.comp scope C ts a d i) elt te)(hs:∀x,foldedSetIterable iter X.env x=pure x:=by intro _;rfl):PE X (.ListComp elt [⟨tg,iter,ifs,0⟩] scope pos) (ag9 ts.length wi g tt te):=by
 intro j s G H Q I h;have S:CompScope X scope ts:=L.scope;have f:=fU λy M hf=>by obtain⟨c,r⟩:=I.ok.has y.1 (S.free y M hf);rw[r];rfl
 rw[eval_ListComp];refine aqW rfl hs f S.kind S.names (thn (N j s G H _ I h) λxv s1 Z=>thn Z λa0 s2 O=>?_);obtain⟨it,i,tn,J,H2,e,k,T,B,f2,Y⟩:=O;subst e;refine kq S _ (λ_ _ _=>r) (λC=>hg C _ _ _) (λC=>U C _ _ _) (λC=>E C _ _ _) k T B f2 Y.c ?_ λ_ _ _ _ _ z=>z.elim;intro C D H' s' m ys w l hD K A I' q;refine⟨m,K,λh' n=>?_⟩;have u:=apK (apd k.lt l);have t:=I'.turned (t':=s'.toks) (λb o R e=>(n.2 b R).trans e) (by rw[ae w];exact A) u (.inr (apb k.sz l)) (λx c e=>by obtain⟨v,q⟩:=k.cell x c e;exact api (apd q.lt l)) λp P=>api (apd (ape (k.pin p P).1) l);exact⟨.ref D,_,t,rfl,q⟩
def tj  (hN:X.N.Nodup)(E:X.N[i]?=some y)(w:X.env.scope.names.lookup y=some .local)(N:swapsWith (.ListComp elt [⟨tg,iter,ifs,0⟩] scope pos) (some (.Name y py)) spos.line X.env=pure true)(L:CompLook X scope)(B:X.calm=true)(Z:PI X tg iter wi)(hg:∀C d f l,PG (X.comp scope C ts d f l) tg g)(ht:∀C d f l,ady (X.comp scope C ts d f l) ifs tt)(R:∀C d f l,PE (X.comp scope C ts d f l) elt te)(hs:∀x,foldedSetIterable iter X.env x=pure x:=by intro _;rfl):PS X (.Assign [.Name y py] (.ListComp elt [⟨tg,iter,ifs,0⟩] scope pos) spos) (ahb (ag9 ts.length wi g tt te) (aN i)):=by
 intro r s σ H Dn I h;have S:CompScope X scope ts:=L.scope;have j:=fU λy w hf=>by obtain⟨c,B⟩:=I.ok.has y.1 (S.free y w hf);rw[B];rfl
 rw[exec_Assign_Name_used _ _ _ _ N];refine ao3 (aqi (ao3 ?_));refine ao3 (apn (aqW rfl hs j S.kind S.names (thn (Z r s σ H _ I h) λxv s1 h1=>thn h1 λa0 s2 h2=>?_)) (λ_ s' U=>ao7 (ao7 U)) λ_ _ e=>e);obtain⟨it,l,tn,J,H2,e,n,T,P,f2,hW⟩:=h2;subst e;refine kq S (λ_ _ _=>False) (λ_ _ _=>B) (λC=>hg C _ _ _) (λC=>ht C _ _ _) (λC=>R C _ _ _) n T P f2 hW.c ?_ λ_ _ _ _ _ z=>z.elim;intro C D H' s' m ys M t hD Y G I' q;have u:=apK (apd n.lt t);refine wpAny_assign_Name (jz I' hN E (.inl w) (show RelV (.ref D) (.ref D)from rfl) (λA Q k=>?_) (.inr w));obtain⟨a,k,ha⟩:=k;have O:a≠C:=by
  rcases ha with e|e;.rw[e];exact aph u
  .obtain⟨v,q⟩:=n.cell y a e;exact api (apd q.lt t)
 refine⟨m,Y.sameBut k (aph O),λh' K=>?_⟩;have I3:=Q.turned (t':=A.toks) (λb o hb e=>(K.2 b hb).trans e) (by rw[ae M];exact G) u (.inr (apb n.sz t)) (λx c e=>by obtain⟨v,q⟩:=n.cell x c e;exact api (apd q.lt t)) λp hp=>api (apd (ape (n.pin p hp).1) t);exact⟨_,_,I3,q⟩
end
def IsD(K:W.Frag)(H:Hp):Nat->V->PyData->Prop|_,x,.none=>x=.non|_,x,.bool b=>x=.bl b|_,x,.int i=>x=.int i|_,x,.str z=>x=.str z/\PyData.strOk z=true|_,_,.dict _=>False|0,_,.tuple _=>False|0,_,.list _=>False|n+1,x,.tuple ds=>∃a c,x=.ref a/\SqT K H a c/\Paired (IsD K H n) c ds|n+1,x,.list ds=>∃a c,x=.ref a/\SqL K H a c/\Paired (IsD K H n) c ds
section
variable{X:Cx}{pins:List (Addr×Obj)}{σ:St}{H:Hp}{s:Shared}
theorem mT{h n R}(one:∀x d u,R x d->RelV x u->(∃a,Reads h u d a)/\d.canLay0=true/\d.depth<=n):∀{xs ds us},Paired R xs ds->Vals xs us->(∃a,ReadsAll h us ds a)/\PyData.canLayAll0 ds=true/\PyData.depthAll ds<=n
|_,_,_,.nil,.nil=>⟨⟨_,.nil⟩,rfl,apC _⟩|_,_,_,.cons r t,.cons q t'=>by
 obtain⟨⟨a,b⟩,c1,f⟩:=one _ _ _ r q;obtain⟨⟨bs,c⟩,c2,e⟩:=mT one t t';refine⟨⟨_,.cons b c⟩,?_,?_⟩;.simp[PyData.canLayAll0,c1,c2]
 .simp [PyData.depthAll];omega
def Inv.reads(I:Inv X pins σ H s):∀n d x u,IsD X.K H n x d->RelV x u->(∃e,Reads s.heap u d e)/\d.canLay0=true/\d.depth<=n:=by intro n;induction n with
|zero=>intro d x u h r;cases d with|none=>subst h;cases r;exact⟨⟨_,.none⟩,rfl,apC _⟩|bool b=>subst h;cases r;exact⟨⟨_,.bool b⟩,rfl,apC _⟩|int i=>subst h;obtain⟨t,rfl⟩:=r;exact⟨⟨_,.int i t⟩,rfl,apC _⟩|str z=>obtain⟨rfl,c⟩:=h;obtain⟨t,rfl⟩:=r;exact⟨⟨_,.str z t⟩,by simpa[PyData.canLay0]using c,apC _⟩|dict kvs|tuple ds|list ds=>exact h.elim
|succ n ih=>intro d x u h r;cases d with|none=>subst h;cases r;exact⟨⟨_,.none⟩,rfl,apC _⟩|bool b=>subst h;cases r;exact⟨⟨_,.bool b⟩,rfl,apC _⟩|int i=>subst h;obtain⟨t,rfl⟩:=r;exact⟨⟨_,.int i t⟩,rfl,apC _⟩|str z=>obtain⟨rfl,c⟩:=h;obtain⟨t,rfl⟩:=r;exact⟨⟨_,.str z t⟩,by simpa[PyData.canLay0]using c,apC _⟩|dict kvs=>exact h.elim|tuple ds=>obtain⟨a,w,rfl,p,q⟩:=h;cases r;obtain⟨f,j,⟨o,v,l,k,m⟩,c⟩:=I.tuple p;obtain⟨⟨e,g⟩,c1,y⟩:=mT (λx d u=>ih d x u) q j;exact⟨⟨_,.tuple v l m (by simpa using g)⟩,by simpa[PyData.canLay0]using c1,by simp only[PyData.depth];omega⟩|list ds=>obtain⟨a,w,rfl,p,q⟩:=h;cases r;obtain⟨f,j,pl,c⟩:=I.list p;obtain⟨o,v,l,k,m⟩:=pl.isList;obtain⟨⟨e,g⟩,c1,y⟩:=mT (λx d u=>ih d x u) q j;exact⟨⟨_,.list v l m (by simpa using g)⟩,by simpa[PyData.canLay0]using c1,by simp only[PyData.depth];omega⟩
end
def aw.tup{K H H' a xs}(e:aw H H')(h:SqT K H a xs):SqT K H' a xs:=by
 rcases h with(h|⟨o,h⟩)|h;.exact .inl (.inl (e _ _ h))
 .exact .inl (.inr ⟨o,e _ _ h⟩)
 .exact .inr h
section
variable{X:Cx}
def ajO:OpR X (compareOp .Eq) λx y H Q=>∃n d e,IsD X.K H n x d/\IsD X.K H n y e/\X.A.units+n<cLine/\Q (.bl (PyData.eqv d e)) H:=by intro a s m H x y v u Q I g i⟨n,d,e,b,c,k,q⟩;obtain⟨⟨j,f⟩,c1,o⟩:=I.reads n d x v b g;obtain⟨⟨bs,h⟩,c2,l⟩:=I.reads n e y u c i;exact SeqAt.compareEq_reads f h c1 c2 (by omega) (iH (.bl _) H I rfl q)
def ajI:OpR X (compareOp .NotEq) λx y H Q=>∃n d e,IsD X.K H n x d/\IsD X.K H n y e/\X.A.units+n<cLine/\Q (.bl !PyData.eqv d e) H:=by intro a s m H x y v u Q I g i⟨n,d,e,b,c,k,q⟩;obtain⟨⟨j,f⟩,c1,o⟩:=I.reads n d x v b g;obtain⟨⟨bs,h⟩,c2,l⟩:=I.reads n e y u c i;exact SeqAt.compareNe_reads f h c1 c2 (by omega) (iH (.bl _) H I rfl q)
def ajN:OpR X (compareOp .In) λx y H Q=>∃n d a,IsD X.K H n x d/\(IsD X.K H (n+1) y (.list a)\/IsD X.K H (n+1) y (.tuple a))/\X.A.units+1+n<cLine/\Q (.bl (a.any λz=>PyData.eqv z d)) H:=by
 intro e s m H x y v u Q I j g⟨n,d,a,h,b,l,q⟩;obtain⟨⟨k,f⟩,c1,o⟩:=I.reads n d x v h j;rcases b with b|b;.obtain⟨⟨bs,c⟩,c2,i⟩:=I.reads _ _ y u b g;exact SeqAt.in_list_reads c f (by simpa[PyData.canLay0]using c2) c1 (by have:=ard (PyData.depthAll a) d.depth;omega) ⟨.bl _,H,I,rfl,q⟩
 .obtain⟨⟨bs,c⟩,c2,i⟩:=I.reads _ _ y u b g;exact SeqAt.in_tuple_reads c f (by simpa[PyData.canLay0]using c2) c1 (by have:=ard (PyData.depthAll a) d.depth;omega) ⟨.bl _,H,I,rfl,q⟩
def abM:OpR X (compareOp .NotIn) λx y H Q=>∃n d b,IsD X.K H n x d/\(IsD X.K H (n+1) y (.list b)\/IsD X.K H (n+1) y (.tuple b))/\X.A.units+1+n<cLine/\Q (.bl !b.any λz=>PyData.eqv z d) H:=by
 intro e s m H x y v u Q I j g⟨n,d,b,h,a,l,q⟩;obtain⟨⟨k,f⟩,c1,o⟩:=I.reads n d x v h j;rcases a with a|a;.obtain⟨⟨bs,c⟩,c2,i⟩:=I.reads _ _ y u a g;exact SeqAt.notIn_list_reads c f (by assumption) c1 (by omega) ⟨.bl _,H,I,rfl,q⟩
 .obtain⟨⟨bs,c⟩,c2,i⟩:=I.reads _ _ y u a g;exact SeqAt.notIn_tuple_reads c f (by assumption) c1 (by grind) ⟨.bl _,H,I,rfl,q⟩
def amq{x T pos}(d:Gl X x)(b:X.mg x=none)(a:bootBuiltins x=some (.type T))(e:x≠"__name__":=by decide)(c:Dbg x:=by decide):PE X (.Name x pos) (tC (.ty T)):=ahu d b a rfl e c
def TyV(K:W.Frag)(H:Hp)(x:V)(t:Value):Prop:=TyOf K H x t\/∃a b,x=.ref a/\t=.type "tuple"/\SqT K H a b
def wD:bP X (.builtin "isinstance") λc H Q=>∃x T t b,c=[x,.ty T]/\TyV X.K H x t/\W.kitOne X.K t (.type T)=some b/\Q (.bl b) H:=by
 intro d s m H c v Q I r h;obtain⟨x,T,t,b,rfl,ty,e,q⟩:=h;obtain⟨u,p,rfl,f,i⟩:=vals2 r;cases i;rcases ty with ty|⟨a,n,rfl,rfl,l⟩;.exact acn I f ty e λtk=>⟨.bl b,H,I.tok _,rfl,q⟩
 .cases f;obtain⟨k,_,⟨o,j,g,_⟩,_⟩:=I.tuple l;exact ap4 W.kitx_tuple I.kIn ⟨o,j,g⟩ e (λz=>nomatch z) λtk=>⟨.bl b,H,I.tok _,rfl,q⟩
end
section
theorem pQ{α a R}:∀{l:List α}{m:List a},Paired R l m->l.length=m.length|_,_,.nil=>rfl|_,_,.cons _ t=>by rw[apj,apj,pQ t]
theorem mY{α c:Type}{R:α->c->Prop}:∀{l:List α}{m:List c}{i:Nat}{a:α},Paired R l m->l[i]?=some a->∃b,m[i]?=some b/\R a b|_,_,_,_,.nil,e=>by simp at e|_,_,0,_,.cons r _,e=>by simp at e;subst e;exact⟨_,rfl,r⟩|_,_,i+1,a,.cons _ t,e=>by obtain⟨b,g,d⟩:=mY (i:=i) (a:=a) t (by simpa using e);exact⟨b,by simpa using g,d⟩
end
def au{H p}(h:H p=none)(o):aw H (upd H p o):=λb u q=>by rw[ae (aL q h)];exact q
end L2
set_option autoImplicit true
set_option relaxedAutoImplicit true
namespace L2
open PySem PySem.Spec PyProof.Rows
def aiz(A:Around)(s:Shared)(y x:Value)(b:Bool):Prop:=∀(a:Program)(w:World)(E:Value->Shared->Prop)(Q:Value->Shared->Prop),Q (.bool b) s->wpAny (model a w) A (richCompare .Lt y x) Q E s
noncomputable def agj:List (Bool×Bool)->Bool->Bool|[],t=>t|(e,l)::r,t=>if e=true then agj r t else l
abbrev yK(A:Around)(s:Shared)(p:Value×Value)(q:Bool×Bool):Prop:=SeqAt.EqAt A s p.1 p.2 q.1/\(q.1=false->aiz A s p.1 p.2 q.2)
section
open PySem.AutoSeq1(wpAny_loadPart')
open PySem.MeetsSeq PySem.MeetsSeq2 PySem.MeetsSeq3 PySem.SeqAt
def aaT(l b)(its its2)(n n2)(dd o)(sl p):Meets (Builtin.«tuple.__lt__» ⟨[.ref l,.ref b],[]⟩) λA R s=>s.heap.get? l=some {cls:=.type "tuple",dict:=dd,data:=.seq its n,slots:=sl}/\s.heap.get? b=some {cls:=.type "tuple",dict:=o,data:=.seq its2 n2,slots:=p}/\∃k,Paired (yK A.in1 s) (its.toList.zip its2.toList) k/\R (.ok (.ret (.bool (agj k (decide (its.size<its2.size)))))) s:=.of_wp λi w A R s h=>by
 obtain⟨v,g,d,tk,os⟩:=s;obtain⟨E,G,k,H,h⟩:=h;have I:=AutoSeq1.sub_tuple_tuple;wp_walk using wpAny_loadPart' E,wpAny_loadPart' G,wpAny_forIn_list _ (λrest c C=>c.1=none/\C=⟨v,g,d,tk,os⟩/\∃f,Paired (yK A.in1 ⟨v,g,d,tk,os⟩) rest f/\R (.ok (.ret (.bool (agj f (decide (its.size<its2.size)))))) ⟨v,g,d,tk,os⟩) _;case turn=>rintro⟨y,x⟩rest c C⟨u,rfl,f,B,j⟩;cases B with|@cons a q l1 l2 r t=>obtain⟨e,lt⟩:=q;obtain⟨D,m⟩:=r;refine ao3 (D i w _ _ ?_);cases e with|true=>wp_walk;exact⟨rfl,rfl,_,t,j⟩|false=>simp only[agj,ap6,aqL]at j;have z:=m rfl i w;wp_walk using z;exact⟨_,rfl,by simpa using j⟩
 case fin=>rintro⟨b1,b2⟩C⟨u,rfl,f,B,j⟩;simp only at u;subst u;cases B;simp only[agj]at j;wp_walk;exact⟨_,rfl,by simpa[Builtin.Tuple.tupleCompareSizes]using j⟩
 case h=>exact⟨rfl,rfl,k,H,h⟩
def aiz.tuples   (k:IsTup s.heap l its)(p:IsTup s.heap b its2)(j:A.units<cLine)(t:Paired (yK A.in1 s) (its.toList.zip its2.toList) qs):aiz A s (.ref l) (.ref b) (agj qs (decide (its.size<its2.size))):=λg w E Q h=>by obtain⟨⟨cls,v,e,u⟩,i,q,n,r⟩:=id k;obtain⟨⟨f,m,data2,o⟩,a,c,n2,d⟩:=id p;subst q r c d;exact richCompare_meets_room ⟨_,i,rfl⟩ ⟨_,a,rfl⟩ PySem.F.slot_tuple_lt PySem.F.entry_tuple_lt (PySem.F.args_tuple_lt_2 _ _) (aaT l b _ _ n _ _ _ _ _) ⟨i,a,qs,t,⟨(λx=>nomatch x),h⟩⟩ j
end
mutual noncomputable def ltv:PyData->PyData->Bool|.int i,.int j=>decide (i<j)|.tuple xs,.tuple ys=>pU xs ys|_,_=>false noncomputable def pU:List PyData->List PyData->Bool|[],[]=>false|[],_::_=>true|_::_,[]=>false|x::xs,y::ys=>if PyData.eqv x y=true then pU xs ys else ltv x y end
mutual noncomputable def adb:PyData->PyData->Bool|.int _,.int _=>true|.tuple xs,.tuple ys=>iy xs ys|_,_=>false noncomputable def iy:List PyData->List PyData->Bool|x::xs,y::ys=>adb x y&&iy xs ys|_,_=>true end
noncomputable def ak6:List PyData->List PyData->List (Bool×Bool)|x::xs,y::ys=>(PyData.eqv x y,ltv x y)::ak6 xs ys|_,_=>[]
theorem pT:∀b a,pU b a=agj (ak6 b a) (decide (b.length<a.length))|[],[]=>rfl|[],_::_=>rfl|_::_,[]=>rfl|x::b,y::a=>by simp [pU,ak6,agj,pT _ _]
theorem nD  (one:∀d e a b j bs,d.depth<=n->Reads s.heap a d j->Reads s.heap b e bs->d.canLay0=true->e.canLay0=true->adb d e=true->aiz A s a b (ltv d e))(m:A.units+n<cLine):∀f h k l j bs,PyData.depthAll f<=n->ReadsAll s.heap k f j->ReadsAll s.heap l h bs->PyData.canLayAll0 f=true->PyData.canLayAll0 h=true->iy f h=true->Paired (yK A s) (k.zip l) (ak6 f h)|[],_,_,_,_,_,_,r,_,_,_,_=>by cases r;exact .nil|_::_,[],_,_,_,_,_,r,r',_,_,_=>by cases r';rw[List.zip_nil_right];exact .nil|x::f,y::h,_,_,_,_,hd,r,r',c1,c2,c3=>by cases r with|cons ra rr=>cases r' with|cons rb rr'=>
  have c:=by simpa[PyData.canLayAll0]using c1
  have g:=by simpa[PyData.canLayAll0]using c2
  have i:=by simpa[iy]using c3
  simp only[PyData.depthAll]at hd;rw[aqX];refine .cons ⟨SeqAt.eqAt_reads x y A s _ _ _ _ ra rb c.1 g.1 (by omega),λ_=>one x y _ _ _ _ (by omega) ra rb c.1 g.1 i.1⟩ ?_;exact nD one m f h _ _ _ _ (by omega) rr rr' c.2 g.2 i.2
def zA:∀n d e A s a b g bs,d.depth<=n->Reads s.heap a d g->Reads s.heap b e bs->d.canLay0=true->e.canLay0=true->adb d e=true->A.units+n<cLine->aiz A s a b (ltv d e):=by intro n;induction n with
|zero=>intro d e A s a b g bs q m f c1 c2 c3 r;cases m with
 |int i t=>cases f with|int j u=>exact λc w E Q h=>HT.xJ A s i t j u c w E Q h|_=>cases c3
 |tuple h1 h2 h3 h4=>cases q|_=>cases c3
|succ n ih=>intro d e A s a b g bs q m f c1 c2 c3 r;cases m with
 |int i t=>cases f with|int j u=>exact λc w E Q h=>HT.xJ A s i t j u c w E Q h|_=>cases c3
 |@tuple l o vs k xs as₁ h1 h2 h3 h4=>cases f with|@tuple l' o' vs' k' ys bs₁ k1 k2 k3 k4=>
    have z1:vs.size=xs.length:=by simpa using SeqAt.ReadsAll.length _ _ _ h4
    have z2:vs'.size=ys.length:=by simpa using SeqAt.ReadsAll.length _ _ _ k4
    have p:=Nat.add_right_comm A.units n 1▸r;have v:=nD (n:=n) (A:=A.in1) (s:=s) (λd e a b g bs q m f c1 c2 c3=>ih d e A.in1 s a b g bs q m f c1 c2 c3 p) p xs ys _ _ _ _ (by simp only[PyData.depth]at q;omega) h4 k4 c1 c2 c3;have z:=aiz.tuples (A:=A) (s:=s) (l:=l) (b:=l') (its:=vs) (its2:=vs') ⟨o,h1,h2,k,h3⟩ ⟨o',k1,k2,k',k3⟩ (by omega) v;rw[z1,z2]at z;simpa only[ltv,pT]using z|_=>cases c3
 |_=>cases c3
mutual theorem j3{h h':Heap}(k:∀b o,h.get? b=some o->h'.get? b=some o):∀(d:PyData)(v:Value)(as:List Addr),d.canLay0=true->Reads h v d as->Reads h' v d as
|.none,_,_,_,r=>by cases r;exact .none|.bool b,_,_,_,r=>by cases r;exact .bool _|.int i,_,_,_,r=>by cases r;exact .int _ _|.str z,_,_,_,r=>by cases r;exact .str _ _|.dict _,_,_,c,_=>by simp[PyData.canLay0]at c|.tuple xs,_,_,c,r=>by cases r with|tuple h1 h2 h3 h4=>exact .tuple (k _ _ h1) h2 h3 (fN k xs _ _ (by simpa[PyData.canLay0]using c) h4)
|.list xs,_,_,c,r=>by cases r with|list h1 h2 h3 h4=>exact .list (k _ _ h1) h2 h3 (fN k xs _ _ (by assumption) h4)theorem fN{h h':Heap}(k:∀b o,h.get? b=some o->h'.get? b=some o):∀(ds:List PyData)(vs:List Value)(as:List Addr),PyData.canLayAll0 ds=true->ReadsAll h vs ds as->ReadsAll h' vs ds as
|[],_,_,_,r=>by cases r;exact .nil|d::ds,_,_,c,r=>by
 have c':d.canLay0=true/\PyData.canLayAll0 ds=true:=by simpa[PyData.canLayAll0]using c
 cases r with|cons r1 r2=>exact .cons (j3 k d _ _ c'.1 r1) (fN k ds _ _ c'.2 r2)end
section
variable{prog:Program}{w:World}{A:Around}{R:Result->Shared->Prop}{I:Addr}{fp wr:List Addr}{n:Nat}{P:Nat->Value->Prop}{St:Nat->Heap->Prop}
def ano(prog:Program)(w:World)(A:Around)(e:Heap)(P:Nat->Value->Prop)(d:Nat->Nat->Bool):Prop:=∀i j c a(s:Shared)(Q:Value->Shared->Prop)(E:Value->Shared->Prop),P i c->P j a->(∀b o,e.get? b=some o->s.heap.get? b=some o)->Q (.bool (d i j)) s->wpAny (model prog w) A (richCompare .Lt c a) Q E s
def ab2(W:Walks prog w A.in1 I fp wr n P St)(q){C}(t:ano prog w A.in1 C P q)(K:∀b∈wr,C.get? b=none)(S)(D:S∉fp)(M:C.get? S=none):∀k j s g c,n-(j+1)=k->j+1<=n->St (j+1) s.heap->P (argBest q j) g->(∀b o,C.get? b=some o->s.heap.get? b=some o)->s.heap.get? S=some {cls:=.type "list",dict:=none,data:=.seq #[g,g] c,slots:=#[]}->(∀v T tk,P (argBest q (n-1)) v->(∀b o,b∉wr->b≠S->s.heap.get? b=some o->T.get? b=some o)->R (.ok (.ret v)) {s with heap:=T,toks:=tk})->codeAny (model prog w) A (.builtin "min.loop" ⟨[.ref I,.none,.ref S],[]⟩) R s:=by
 have X:S∉wr:=λh=>D (W.sub _ h);have u:(toString "min"++toString ".loop":String)="min.loop":=by decide
 intro k;induction k with|zero=>
 intro j s g c hk Y st E O B G;have y:j+1=n:=by omega
 refine arp asf ?_;rw[arq aqc _];show wpAny _ A.in1 (seqItems? (.ref S)>>=_) _ _ s;refine ao3 (aqF B rfl ?_);show wpAny _ A.in1 (tryCatch (pyNext (.ref I)) _ >>=_) _ _ s;refine ao3 (arC (W.done s _ _ (y▸st) λQ tk k1=>?_));have d:=k1 S _ X B;show wpAny _ A.in1 (updateSeq S (λ_=>#[])>>=_) _ _ _;refine ao3 ?_;refine aso d rfl (ao3 (arG (ao7 ?_)));exact G g _ tk (by rw[<-y];exact E) λb o r a e=>(apl _ _ (aph a)).trans (k1 b o r e)|succ k ih=>
 intro j s g c hk Y st E O B G;have i:j+1<n:=by omega
 refine arp asf ?_;rw[arq aqc _];show wpAny _ A.in1 (seqItems? (.ref S)>>=_) _ _ s;refine ao3 (aqF B rfl ?_);refine ao3 (arC (W.item (j+1) s _ _ i st λv Q tk U x k1=>?_));have d:=k1 S _ X B;have N:∀b o,C.get? b=some o->Q.get? b=some o:=λb o e=>k1 b o (λr=>by rw[K b r]at e;cases e) (O b o e);show wpAny _ A.in1 (tryCatch (holding [v,v] (richCompare .Lt v g >>=_)) _ >>=_) _ _ _;refine ao3 (arC (apO (ao3 (t (j+1) (argBest q j) v g _ _ _ U E N ?_))));refine ao3 (apO (apS ?_));refine ao3 (arG (ao7 ?_));cases r:q (j+1) (argBest q j)with|true=>simp only[aqR];refine ao3 ?_;refine aso d rfl (ao3 (arG ?_));rw[u];have Z:∀b,b∈fp->¬S=b:=λb m z=>D (by rw[z];exact m);refine ao7 ⟨arN aqc _,ih (j+1) _ v _ (by omega) i (W.frame _ _ _ x λb m o e=>(apl _ _ (Z b m)).trans e) (by simp only[argBest,r,aqR];exact U) (λb o e=>(apl _ _ λz:S=b=>by rw[<-z,M]at e;cases e).trans (N b o e)) (apF _ d rfl) λJ H l p k2=>?_⟩;exact G J H l p λb o f a e=>k2 b o f a ((apl _ _ (aph a)).trans (k1 b o f e))|false=>simp only[ap6,aqL];refine ao3 (arG ?_);rw[u];refine ao7 ⟨arN aqc _,ih (j+1) _ g c (by omega) i x (by simp only[argBest,r,ap6,aqL];exact E) N d λJ H l p k2=>?_⟩;exact G J H l p λb o f a e=>k2 b o f a (k1 b o f e)
def zw(W:Walks prog w A.in1 I fp wr n P St)(p){m}(i:ano prog w A.in1 m P p)(j:∀b∈wr,m.get? b=none)(S)(d:S∉fp)(k:m.get? S=none)(x:0<n){s c}(st:St 0 s.heap)(k0:∀b o,m.get? b=some o->s.heap.get? b=some o)(B:s.heap.get? S=some {cls:=.type "list",dict:=none,data:=.seq #[] c,slots:=#[]})(G:∀v y tk,P (argBest p (n-1)) v->(∀b o,b∉wr->b≠S->s.heap.get? b=some o->y.get? b=some o)->R (.ok (.ret v)) {s with heap:=y,toks:=tk}):codeAny (model prog w) A (.builtin "min.loop" ⟨[.ref I,.none,.ref S],[]⟩) R s:=by
 have J:S∉wr:=λh=>d (W.sub _ h);have r:(toString "min"++toString ".loop":String)="min.loop":=by decide
 refine arp asf ?_;rw[arq aqc _];show wpAny _ A.in1 (seqItems? (.ref S)>>=_) _ _ s;refine ao3 (aqF B rfl ?_);refine ao3 (arC (W.item 0 s _ _ x st λv M tk H t k1=>?_));have g:=k1 S _ J B;show wpAny _ A.in1 (updateSeq S (λ_=>#[v,v])>>=_) _ _ _;refine ao3 ?_;refine aso g rfl ?_;rw[r];have K:∀b,b∈fp->¬S=b:=λb a z=>d (by rw[z];exact a);refine ao7 ⟨arN aqc _,ab2 W p i j S d k _ 0 _ v _ rfl x (W.frame _ _ _ t λb a o e=>(apl _ _ (K b a)).trans e) H (λb o e=>(apl _ _ λz:S=b=>by rw[<-z,k]at e;cases e).trans ((λb o e=>k1 b o (λE=>by rw[j b E]at e;cases e) (k0 b o e)) b o e)) (apF _ g rfl) λD C q u k2=>?_⟩;exact G D C q u λb o l f e=>k2 b o l f ((apl _ _ (aph f)).trans (k1 b o l e))
end
section
variable{X:Cx}
def adj(hc:X.calm=true):bP X (.builtin "min") λxs H Q=>∃l g n c,xs=[.ref l]/\SqL X.K H l g/\0<g.length/\Paired (IsD X.K H n) g c/\(∀d∈c,∀e∈c,adb d e=true)/\X.A.units+1+n<cLine/\∀y,g[argBest (λi j=>ltv (c.getD i .none) (c.getD j .none)) (g.length-1)]?=some y->Q y H:=by
 intro z s σ H xs us Q I r h;obtain⟨l,g,n,c,rfl,hq,a0,hp,P,hu,q⟩:=h;obtain⟨u,rfl,rx⟩:=vals1 r;cases rx;obtain⟨f,S,pl,hz⟩:=I.list hq;have hl:=S.length;have a6:=pQ hp;have Y:(toString "min"++toString ".loop":String)="min.loop":=by decide
 refine call_function_tree F.kind_min F.plain_min F.entry_min (F.args_min1 _) ?_;show wpAny _ X.A.in1 (Builtin.Builtins.bindParams "min" ["key","default"] 0 ⟨[],[]⟩>>=_) _ _ s;refine ao3 (wpAny_of_eq (show Builtin.Builtins.bindParams "min" ["key","default"] 0 ⟨[],[]⟩=pure [none,none]from rfl) ?_);refine ao3 (ao7 ?_);refine ao3 (arU pl.isList ?_);refine ao3 (aqC ?_);rw[Y];have ll:l<s.heap.objs.size:=by obtain⟨o,_,T,_⟩:=pl;exact ape T
 have fresh:∀a,s.heap.objs.size<=a->s.heap.get? a=none:=λa ha=>by cases e:s.heap.get? a with|none=>rfl|some o=>exact absurd (ape e) (Nat.not_lt.mpr ha)
 have t:(s.heap.push {cls:=.type "list_iterator",data:=.fields #[.ref l,.int 0 0]}).objs.size=s.heap.objs.size+1:=aq3 ..;have p:∀(i:Nat)(v:Value),f.toArray[i]?=some v->∃d x,c[i]?=some d/\Reads s.heap v d x/\d.canLay0=true/\d.depth<=n:=λi v hv=>by
  have C:f[i]?=some v:=by simpa using hv
  have B:i<g.length:=by have:=(ao8.mp C).1;omega
  obtain⟨u,m,K⟩:=S.get (apf B);rw[C]at m;cases m;obtain⟨d,G,rd⟩:=mY hp (apf B);obtain⟨⟨x,ra⟩,c1,M⟩:=I.reads n d _ _ rd K;exact⟨d,x,G,ra,c1,M⟩
 have W:=Walks.list (prog:=X.prog) (w:=X.w) (A:=X.A.in1) (show X.A.in1.handled=none from I.ok.hd hc) s.heap.objs.size l (api ll) f.toArray;have E:ano X.prog X.w X.A.in1 s.heap (λi v=>f.toArray[i]?=some v) λi j=>ltv (c.getD i .none) (c.getD j .none):=by
  intro i j J Z s' Q' E' pi pj kk hQ;obtain⟨d,x,G,ra,c1,M⟩:=p i J pi;obtain⟨e,bs,he,rb,c2,d2⟩:=p j Z pj;have ed:c.getD i .none=d:=by rw[apP,G];rfl
  have ee:c.getD j .none=e:=by rw[apP,he];rfl
  dsimp only at hQ;rw[ed,ee]at hQ;exact zA n d e X.A.in1 s' J Z x bs M (j3 kk d J x c1 ra) (j3 kk e Z bs c2 rb) c1 c2 (P d (aqn G) e (aqn he)) (by show X.A.units+1+n<cLine;exact hu) X.prog X.w E' Q' hQ
 refine ao7 ⟨arN aqc _,zw W _ E (λb U=>by
  have e:b=s.heap.objs.size:=by simpa using U
  rw[e];exact fresh _ (ao6 _)) (s.heap.push {cls:=.type "list_iterator",data:=.fields #[.ref l,.int 0 0]}).objs.size (λhm=>?_) (fresh _ (by rw[t];exact aqz _)) (by simp;omega) ⟨⟨_,ao4 _ (apg _ rfl),rfl,rfl⟩,?_⟩ (λb o e=>ao4 _ (ao4 _ e)) (apg _ rfl) λv h' tk hP hk=>?_⟩
 .rw[t]at hm;have N:s.heap.objs.size+1=s.heap.objs.size\/s.heap.objs.size+1=l:=by simpa using hm
  rcases N with h|h;.exact absurd h (Nat.succ_ne_self _)
  .exact absurd ll (by rw[<-h];exact Nat.not_lt.mpr (aqz _))
 .obtain⟨o,k,T,O,a7,R⟩:=pl;exact⟨o,ao4 _ (ao4 _ T),O,k,R⟩
 .have D:f[argBest (λi j=>ltv (c.getD i .none) (c.getD j .none)) (g.length-1)]?=some v:=by
   have e:f.toArray.size-1=g.length-1:=by simp;omega
   rw[e]at hP;simpa using hP
  have B:argBest (λi j=>ltv (c.getD i .none) (c.getD j .none)) (g.length-1)<g.length:=by have:=(ao8.mp D).1;omega
  obtain⟨u,m,K⟩:=S.get (apf B);rw[D]at m;cases m;have Ik:Inv X z σ H {s with heap:=h',toks:=tk}:=I.kept λb o e=>hk b o (by
    intro U;have e':b=s.heap.objs.size:=by simpa using U
    exact absurd (ape e) (by rw[e'];exact ap8 _)) (by rw[t];exact api (arT (ape e))) (ao4 _ (ao4 _ e));exact⟨_,H,Ik,K,q _ (apf B)⟩
end
end L2
set_option autoImplicit true
set_option relaxedAutoImplicit true
namespace L2
open PySem PySem.Spec PyProof.Rows
section
variable{prog:Program}{w:World}{A:Around}{E:Value->Shared->Prop}{s:Shared}
def zt{it t i its x Q}(a:s.heap.IsTupleIter it t i)(g:s.heap.IsTuple t its)(h:its[i]?=some x)(j:∀d,d.IsTupleIter it t (i+1)->Heap.SameBut it s.heap d->Q x {s with heap:=d}):wpAny (model prog w) A (Builtin.SmallTypes.nextOf (.ref it)) Q E s:=by refine jV (id a) λo c k b=>?_;obtain⟨m,f,_,l,e⟩:=g;unfold Builtin.SmallTypes.nextOf;refine ao3 (aqa a.typeIs aqj (ap3 aqj a.typeIs arI ?_ (arD _)));show wpAny _ _ (field (.ref it) 0 >>=_) _ _ s;refine ao3 (apx c b (x:=.ref t) rfl ?_);refine ao3 (apx c b (x:=.int i 0) rfl ?_);refine ao3 (aqF f e ?_);simp only[Int.toNat_natCast,h];refine ao3 (aqp c b (by simp) (ao7 ⟨x,rfl,ao7 (j _ ?_ (Heap.SameBut.update ..))⟩));exact⟨_,apF _ c (ari (aqw b _)),(Obj.cls_mapFields ..).trans k,by rw[aqw b];simp[rawInt]⟩
def abZ  (n:A.handled=none)(b:s.heap.IsTupleIter it t i)(j:s.heap.IsTuple t its)(l:its[i]?=none)(k:∀g e,Heap.ExtBut it s.heap g->(∃o,g.get? e=some o/\o.cls=.type "StopIteration")->E (.ref e) {s with heap:=g}):wpAny (model prog w) A (Builtin.SmallTypes.nextOf (.ref it)) Q E s:=by refine jV (id b) λo h q f=>?_;obtain⟨p,c,_,r,d⟩:=j;unfold Builtin.SmallTypes.nextOf;refine ao3 (aqa b.typeIs aqj (ap3 aqj b.typeIs arI ?_ (arD _)));show wpAny _ _ (field (.ref it) 0 >>=_) _ _ s;refine ao3 (apx h f (x:=.ref t) rfl ?_);refine ao3 (apx h f (x:=.int i 0) rfl ?_);refine ao3 (aqF c d ?_);simp only[Int.toNat_natCast,l];refine ao3 (wpAny_rule (ao3 (aqp h f (by simp) ?_)));refine ao3 ?_;refine ao3 (m:=firstArgMember _ _) (wpAny_of_eq (a:=Value.none) (rfl) ?_);refine aqC ?_ (by size_fits);refine ao3 (wpAny_handled ?_);rw[n];refine ao3 (ao7 (wpAny_throw ?_));exact k _ _ (((Heap.SameBut.update ..).extBut.push _).push _) ⟨_,apg _ rfl,rfl⟩
def zP{e it t}{i:Nat}{its x c Q}(m:IsEnum s.heap e it i c)(G:s.heap.IsTupleIter it t i)(T:s.heap.IsTuple t its)(P:its[i]?=some x)(a:e≠it)(X:∀l,IsEnumOut l e it (i+1) x s.heap.objs.size->l.IsTupleIter it t (i+1)->l.get? s.heap.objs.size=some {cls:=.type "tuple",data:=.seq #[.int i s.toks,x]}->(∀b o,b≠e->b≠it->s.heap.get? b=some o->l.get? b=some o)->Q (some (.ref s.heap.objs.size)) {s with heap:=l,toks:=s.toks+1}):wpAny (model prog w) A (pyNext (.ref e)) Q E s:=by
 have O:s.TypeIs (.ref e) "enumerate":=⟨_,m,rfl⟩;unfold pyNext;refine ao3 (arO (aqa (name:=Str.ofString "__next__") O aqG (ap3 aqG O F.entry_enumerate_next ?_ (F.args_enumerate_next_1 _))));obtain⟨h,g,d,tk,os⟩:=s;show wpAny _ _ (field (.ref e) 2 >>=_) _ _ _;refine ao3 (apx m rfl (x:=.ref it) rfl ?_);refine ao3 (zt G T P λj J s1=>?_);replace s1:Heap.SameBut it h j:=s1;have C:IsEnum j e it i c:=(s1.2 e a).trans m;show wpAny _ _ (field (.ref e) 3 >>=_) _ _ ⟨j,g,d,tk,os⟩;refine ao3 (apx C rfl (x:=rawInt i) rfl ?_);show wpAny _ _ (field (.ref e) 4 >>=_) _ _ ⟨j,g,d,tk,os⟩;refine ao3 (apx C rfl (x:=.none) rfl ?_);show wpAny _ _ (mkInt i >>=_) _ _ ⟨j,g,d,tk,os⟩;refine ao3 (wpAny_mkInt ?_);refine ao3 (aqx C (by simp) λn y s2=>?_);replace s2:Heap.SameBut e j n:=s2;replace y:IsEnum n e it ((i:Int)+1) c:=y;show wpAny _ _ (setField (.ref e) 4 .none >>=_) _ _ ⟨n,g,d,tk+1,os⟩;refine ao3 (aqx y (by simp) λk I s3=>?_);replace s3:Heap.SameBut e n k:=s3;replace I:IsEnum k e it ((i:Int)+1) c:=I;show wpAny _ _ (newTuple [.int i tk,x]>>=_) _ _ ⟨k,g,d,tk+1,os⟩;refine ao3 (wpAny_newTuple ?_);have p:IsEnum (k.push {cls:=.type "tuple",data:=.seq #[.int i tk,x]}) e it ((i:Int)+1) c:=ao4 _ I;generalize q4:k.push {cls:=.type "tuple",data:=.seq #[.int i tk,x]}=h4 at p;have z3:k.objs.size=h.objs.size:=by rw[s3.1,s2.1,s1.1]
 have D:=ape m;have R:h4.get? h.objs.size=some {cls:=.type "tuple",data:=.seq #[.int i tk,x]}:=by rw[<-q4,<-z3];exact apg _ rfl
 have U:∀b o,b≠e->b≠it->h.get? b=some o->h4.get? b=some o:=λb o f B H=>by rw[<-q4];exact ao4 _ (s3.extBut b o f (s2.extBut b o f (s1.extBut b o B H)))
 have z:h4.IsTupleIter it t (i+1):=by rw[<-q4];refine eM ((J.extBut s2.extBut (aph a)).extBut s3.extBut (aph a)) λo S r=>?_;exact⟨o,ao4 _ S,r⟩
 show wpAny _ _ (Builtin.SmallTypes.ownedTupleIsFree (.ref e)>>=_) _ _ ⟨h4,g,d,tk+1,os⟩;rw[z3];refine ao3 ?_;unfold Builtin.SmallTypes.ownedTupleIsFree;refine ao3 (apx p rfl (x:=.none) rfl (ao7 ?_));simp only[aqR];refine ao3 (wpAny_rule ?_);refine ao3 (apx p rfl (x:=c) rfl ?_);refine ao3 (aqx p (by simp) λM v s5=>?_);replace s5:Heap.SameBut e h4 M:=s5;replace v:IsEnum M e it ((i:Int)+1) x:=v;refine ao3 ?_;unfold Builtin.SmallTypes.ownedTupleHandOut;refine ao3 (aqx v (by simp) λN u s6=>?_);replace s6:Heap.SameBut e M N:=s6;replace u:IsEnumOut N e it ((i:Int)+1) x h.objs.size:=u;refine aqx u (by simp) λK q s7=>?_;replace s7:Heap.SameBut e N K:=s7;replace q:IsEnumOut K e it ((i:Int)+1) x h.objs.size:=q;refine ao3 (arG (ao7 ⟨_,rfl,ao7 (X K q ?_ ?_ ?_)⟩));.exact((z.extBut s5.extBut (aph a)).extBut s6.extBut (aph a)).extBut s7.extBut (aph a)
 .exact s7.extBut _ _ (apK D) (s6.extBut _ _ (apK D) (s5.extBut _ _ (apK D) R))
 .exact λb o f B H=>s7.extBut b o f (s6.extBut b o f (s5.extBut b o f (U b o f B H)))
def acS{e it t}{i:Nat}{its a Q}(l:A.handled=none)(f:IsEnum s.heap e it i a)(d:s.heap.IsTupleIter it t i)(h:s.heap.IsTuple t its)(k:its[i]?=none)(m:∀c,Heap.ExtBut it s.heap c->Q none {s with heap:=c}):wpAny (model prog w) A (pyNext (.ref e)) Q E s:=by have g:s.TypeIs (.ref e) "enumerate":=⟨_,f,rfl⟩;refine ao3 (arO (aqa g aqG (ap3 aqG g F.entry_enumerate_next ?_ (F.args_enumerate_next_1 _))));show wpAny _ _ (field (.ref e) 2 >>=_) _ _ _;refine ao3 (apx f rfl rfl ?_);refine ao3 (abZ l d h k λc x j b=>?_);refine eM b λo p n=>?_;refine ao3 (wpAny_isInstance ⟨o,p,n⟩ isSubtype_stop ?_);exact ao7 (m _ j)
end
section
open PySem.AutoSeq1(wpAny_loadPart')
def acR(l)(its)(n)(a)(sl):Meets (Builtin.«enumerate.__new__» ⟨[.type "enumerate",.ref l],[]⟩) λ_ R s=>s.heap.get? l=some {cls:=.type "tuple",dict:=a,data:=.seq its n,slots:=sl}/\R (.ok (.ret (.ref (s.heap.push {cls:=.type "tuple_iterator",data:=.fields #[.ref l,.int 0 0]}).objs.size))) {s with heap:=(s.heap.push {cls:=.type "tuple_iterator",data:=.fields #[.ref l,.int 0 0]}).push {cls:=.type "enumerate",data:=.fields #[.none,.bool false,.ref s.heap.objs.size,rawInt 0,.none,.none]}}:=.of_wp λe w A R s h=>by obtain⟨c,h⟩:=h;have d:=sub_enumerate;have f:Heap.IsTuple _ l its:=⟨_,c,rfl,n,rfl⟩;wp_walk using wpAny_loadPart' c;refine wpAny_stack_any λst=>ao7 ?_;generalize Builtin.SmallTypes.calledThroughType.match_1 (λ_=>Bool) _ _ _=b;cases b<;>(wp_walk using wpAny_loadPart' c,wpAny_pyIter_tuple f;exact⟨_,rfl,h⟩)
variable{prog:Program}{w:World}{A:Around}{E:Value->Shared->Prop}{s:Shared}
def aab{l its Q}(m:s.heap.IsTuple l its)(h:∀a,IsEnum a (s.heap.objs.size+1) s.heap.objs.size 0 .none->a.IsTupleIter s.heap.objs.size l 0->(∀b o,s.heap.get? b=some o->a.get? b=some o)->Q (.ref (s.heap.objs.size+1)) {s with heap:=a}):wpAny (model prog w) A (call (.type "enumerate") [.ref l]) Q E s:=by
 obtain⟨⟨c,e,q,j⟩,k,f,n,p⟩:=m;replace f:c=.type "tuple":=f;subst f p;refine callType_new F.called_enumerate (by decide) (F.typeCall_enumerate_1 _) (F.newCall_enumerate_1 _) (λd=>F.args_object_init_2 d _) F.entry_enumerate_new (acR l its n e j) ⟨k,?_⟩;have i:(s.heap.push {cls:=.type "tuple_iterator",data:=.fields #[.ref l,.int 0 0]}).objs.size=s.heap.objs.size+1:=aq3 ..;show _/\_;rw[i];have g:=by have z:=apg (s.heap.push {cls:=.type "tuple_iterator",data:=.fields #[.ref l,.int 0 0]}) (o:={cls:=.type "enumerate",data:=.fields #[.none,.bool false,.ref s.heap.objs.size,rawInt 0,.none,.none]}) rfl;rw[i]at z;exact z
 exact⟨⟨_,g,rfl⟩,h _ g ⟨_,ao4 _ (apg _ rfl),rfl,rfl⟩ λb o x=>ao4 _ (ao4 _ x)⟩
end
def Inv.aaQ    (I:Inv X pins σ H s)(k:∀c o,c≠a->c≠b->s.heap.get? c=some o->h'.get? c=some o)(g:yL X pins H a)(h:yL X pins H b):Inv X pins σ H {s with heap:=h',toks:=t'}:=by
 have i:∀c u,H c=some u->c≠a/\c≠b:=λc u e=>⟨aL e g.1,aL e h.1⟩;have f:∀{c:Addr},c∉[a,b]->c≠a/\c≠b:=λ{c}d=>⟨λz=>d (by simp[z]),λz=>d (by simp[z])⟩;refine I.step (d':=s.drawn) (λc d=>?_) (λc o _ _ d e _=>k c o (f d).1 (f d).2 e) (λc o _ _ d e _=>⟨o.slots,k c o (f d).1 (f d).2 e⟩) (λ_ _ _ _ n=>n) (λc o d e=>⟨o,k c o (f d).1 (f d).2 e⟩) (λ_ _ e=>e) (λ_ _ _ e=>e) (λc y e=>⟨#[],by rw[e];simp⟩) (λm w=>?_) (λc u e=>?_) I.bare
 .have l:c=a\/c=b:=by simpa using d
  rcases l with rfl|rfl;.exact⟨g.2.2.2.1,g.2.1,g.2.2.2.2.1,g.2.2.2.2.2⟩
  .exact⟨h.2.2.2.1,h.2.1,h.2.2.2.2.1,h.2.2.2.2.2⟩
 .refine wN w λo p t x r=>?_;exact adM o p t (k _ o (aph g.2.1) (aph h.2.1) x) r
 .refine(I.hok c u e).u0 (λj v d q=>k j v ?_ ?_ q) (λ_ q=>q) λ_ _ q=>q
  .rcases d with z|z;.rw[z];exact(i c u e).1
   .exact(i j _ z).1
  .rcases d with z|z;.rw[z];exact(i c u e).2
   .exact(i j _ z).2
def Ite(K:W.Frag)(a:Addr):It:=⟨λi H=>∃b x,SqT K H a b/\b[i]?=some x,λi H x c=>∃p,x=.ref p/\H p=none/\∀b,SqT K H a b->∃y,b[i]?=some y/\c=upd H p (.tup [.int i,y]),λi H=>∃b,SqT K H a b/\b.length<=i⟩
def yW{P:Program}{w:World}{K:W.Frag}{es:List Expr}{k:Nat}{pos:Pos}(a e it:Addr)(hne:e≠it):Turn P w K (.Tuple es k pos) (Ite K a) [e,it] e λi h=>(∃old,IsEnum h e it i old)/\h.IsTupleIter it a i where
 mem:=by simp
 obj:=λi h st b hb=>by
  obtain⟨⟨old,he⟩,o,ho,hc,hd⟩:=st;have hb':b=e\/b=it:=by simpa using hb
  rcases hb' with rfl|rfl;.exact⟨_,he,λv z=>by cases z⟩
  .exact⟨o,ho,λv z=>by rw[hd]at z;cases z⟩
 keep:=λi h h' st kk=>by obtain⟨⟨old,he⟩,o,ho,r⟩:=st;exact⟨⟨old,kk e (by simp) _ he⟩,o,kk it (by simp) o ho,r⟩
 item:=by
  intro X hP hw hK i pins s σ H E hc I hf st hg;subst hP hw hK;obtain⟨⟨old,he⟩,hit⟩:=st;obtain⟨xs,x,hq,hx⟩:=hg;obtain⟨its,rv,p,hz⟩:=I.tuple hq;obtain⟨u,hu,ru⟩:=rv.get hx;have fe:=hf e (by simp);have fi:=hf it (by simp);refine zP he hit (show s.heap.IsTuple a its.toArray from p) (x:=u) (by simpa using hu) hne λh' eo it' tp kp=>?_;have I1:=I.aaQ (t':=s.toks+1) kp fe fi;have hfr:=I.hok.fresh (ao6 _);have hnT:∀b o,s.heap.get? b=some o->b≠s.heap.objs.size:=λb o q=>api (ape q);have I2:Inv X pins σ (upd H s.heap.objs.size (.tup [.int i,x])) {s with heap:=h',toks:=s.toks+1}:=by
   refine I1.aaU hfr I.sz (apK I.lt) (λy c q=>?_) (λpp hp=>hnT _ _ (I.pin pp hp).1) ⟨by show 2<=sizeLine;decide,[.int i s.toks,u],.cons ⟨_,rfl⟩ (.cons ru .nil),?_⟩;.obtain⟨v,z⟩:=I.cell y c q;exact api z.lt
   .exact⟨_,tp,rfl,0,rfl⟩
  refine⟨_,rfl,arP (s:={s with heap:=h',toks:=s.toks+1}) eo λh2 e2 s2=>?_⟩;have hTe:=aph (hnT _ _ he);obtain⟨o1,ho1,_⟩:=hit;have hTi:=aph (hnT _ _ ho1);refine⟨.ref s.heap.objs.size,upd H s.heap.objs.size (.tup [.int i,x]),?_,rfl,⟨_,rfl,hfr,λys hy=>⟨x,by rw[I.sG hy hq];exact hx,rfl⟩⟩,⟨⟨_,e2⟩,?_⟩,λb hb=>?_⟩;.exact I2.turned (t':=s.toks+1) (it:=e) (λb o hb q=>(s2.2 b hb).trans q) (by rw[ae (aph hTe)];exact fe.1) fe.2.1 fe.2.2.2.1 fe.2.2.2.2.1 fe.2.2.2.2.2
  .exact it'.extBut s2.extBut (aph hne)
  .have hb':b=e\/b=it:=by simpa using hb
   rcases hb' with rfl|rfl;.rw[ae (aph hTe)];exact fe.1
   .rw[ae (aph hTi)];exact fi.1
 done:=by intro X hP hw hK i pins s σ H E hc I hf st hg;subst hP hw hK;obtain⟨⟨old,he⟩,hit⟩:=st;obtain⟨xs,hq,hx⟩:=hg;obtain⟨its,rv,p,hz⟩:=I.tuple hq;have fi:=hf it (by simp);have hl:=rv.length;exact acS (I.ok.hd hc) he hit (show s.heap.IsTuple a its.toArray from p) (by simp;omega) λh' eb=>⟨rfl,I.turned (t':=s.toks) (λb o hb q=>eb b o hb q) fi.1 fi.2.1 fi.2.2.2.1 fi.2.2.2.2.1 fi.2.2.2.2.2⟩
 self:=λ_ _ _ _ _ h0_ h=>by obtain⟨⟨_,he⟩,_⟩:=h0_;exact aq8 he h
end L2
namespace L2
open PySem PySem.Spec PyProof.Rows
def alL(K:W.Frag)(a:Addr):It:=⟨λi H=>∃b x,SqL K H a b/\b[i]?=some x,λi H x c=>∃p,x=.ref p/\H p=none/\∀b,SqL K H a b->∃y,b[i]?=some y/\c=upd H p (.tup [.int i,y]),λi H=>∃b,SqL K H a b/\b.length<=i⟩
def yX{P:Program}{w:World}{K:W.Frag}{es:List Expr}{k:Nat}{pos:Pos}(a e it:Addr)(hne:e≠it):Turn P w K (.Tuple es k pos) (alL K a) [e,it] e λi h=>(∃old,IsEnum h e it i old)/\h.IsListIter it a i where
 mem:=by simp
 obj:=λi h st b hb=>by
  obtain⟨⟨old,he⟩,o,ho,hc,hd⟩:=st;have hb':b=e\/b=it:=by simpa using hb
  rcases hb' with rfl|rfl;.exact⟨_,he,λv z=>by cases z⟩
  .exact⟨o,ho,λv z=>by rw[hd]at z;cases z⟩
 keep:=λi h h' st kk=>by obtain⟨⟨old,he⟩,o,ho,r⟩:=st;exact⟨⟨old,kk e (by simp) _ he⟩,o,kk it (by simp) o ho,r⟩
 item:=by
  intro X hP hw hK i pins s σ H E hc I hf st hg;subst hP hw hK;obtain⟨⟨old,he⟩,hit⟩:=st;obtain⟨xs,x,hq,hx⟩:=hg;obtain⟨its,rv,p,hz⟩:=I.list hq;obtain⟨u,hu,ru⟩:=rv.get hx;have fe:=hf e (by simp);have fi:=hf it (by simp);refine wpAny_pyNext_enum_item he hit p.isList (x:=u) (by simpa using hu) hne λh' eo it' tp _ kp=>?_;have I1:Inv X pins σ H {s with heap:=h',toks:=s.toks+1}:=I.aaQ (t':=s.toks+1) kp fe fi;have hfr:H s.heap.objs.size=none:=I.hok.fresh (ao6 _);have hnT:∀b o,s.heap.get? b=some o->b≠s.heap.objs.size:=λb o q=>api (ape q);have I2:Inv X pins σ (upd H s.heap.objs.size (.tup [.int i,x])) {s with heap:=h',toks:=s.toks+1}:=by
   refine I1.aaU hfr I.sz (apK I.lt) (λy c q=>?_) (λpp hp=>hnT _ _ (I.pin pp hp).1) ⟨by show 2<=sizeLine;decide,[.int i s.toks,u],.cons ⟨_,rfl⟩ (.cons ru .nil),?_⟩;.obtain⟨v,z⟩:=I.cell y c q;exact api z.lt
   .exact⟨_,tp,rfl,0,rfl⟩
  refine⟨_,rfl,arP (s:={s with heap:=h',toks:=s.toks+1}) eo λh2 e2 s2=>?_⟩;have hTe:s.heap.objs.size≠e:=aph (hnT _ _ he);obtain⟨o1,ho1,_⟩:=hit;have hTi:s.heap.objs.size≠it:=aph (hnT _ _ ho1);refine⟨.ref s.heap.objs.size,upd H s.heap.objs.size (.tup [.int i,x]),?_,rfl,⟨_,rfl,hfr,λys hy=>⟨x,by rw[I.yh hy hq];exact hx,rfl⟩⟩,⟨⟨_,e2⟩,?_⟩,λb hb=>?_⟩;.exact I2.turned (t':=s.toks+1) (it:=e) (λb o hb q=>(s2.2 b hb).trans q) (by rw[ae (aph hTe)];exact fe.1) fe.2.1 fe.2.2.2.1 fe.2.2.2.2.1 fe.2.2.2.2.2
  .exact it'.extBut s2.extBut (aph hne)
  .have hb':b=e\/b=it:=by simpa using hb
   rcases hb' with rfl|rfl;.rw[ae (aph hTe)];exact fe.1
   .rw[ae (aph hTi)];exact fi.1
 done:=by intro X hP hw hK i pins s σ H E hc I hf st hg;subst hP hw hK;obtain⟨⟨old,he⟩,hit⟩:=st;obtain⟨xs,hq,hx⟩:=hg;obtain⟨its,rv,p,hz⟩:=I.list hq;have fi:=hf it (by simp);have hl:=rv.length;exact wpAny_pyNext_enum_end (I.ok.hd hc) he hit p.isList (by simp;omega) λh' eb=>⟨rfl,I.turned (t':=s.toks) (λb o hb q=>eb b o hb q) fi.1 fi.2.1 fi.2.2.2.1 fi.2.2.2.2.1 fi.2.2.2.2.2⟩
 self:=λ_ _ _ _ _ h0_ h=>by obtain⟨⟨_,he⟩,_⟩:=h0_;exact aq8 he h
section
variable{X:Cx}
def akr(K:W.Frag)(d:TE):TI:=λe H R=>d e H λx b=>∃a,x=.ref a/\((∃c,SqT K b a c)/\R (Ite K a) b\/(∃c,SqL K b a c)/\R (alL K a) b)
def vl{l:Expr}{t:TE}{es:List Expr}{k:Nat}{A p pos:Pos}(O:Gl X "enumerate")(N:X.mg "enumerate"=none)(B:PE X l t)(z:starEach [l] X.env=[(false,eval l X.env)]:=by rfl):PI X (.Tuple es k A) (.Call (.Name "enumerate" p) [l] [] pos) (akr X.K t):=by intro d s C H R I h;have G:PA X [l] (jy t xu):=aP B cu (by unfold SE;rw[z];rfl);refine Call_ (kZ I O N boot_enumerate (apV (thn (G pos d s C H (λw c=>match w with|[x]=>∃a,x=.ref a/\((∃j,SqT X.K c a j)/\R (Ite X.K a) c\/(∃j,SqL X.K c a j)/\R (alL X.K a) c)|_=>False) I h) λP s1 r=>?_) z rfl));obtain⟨w,c,g,r1,q1⟩:=r;match w,q1,r1 with
|[x],q1,r1=>
  obtain⟨a,rfl,q1⟩:=q1;obtain⟨u,rfl,J⟩:=vals1 r1;cases J;have nn:s1.heap.objs.size+1≠s1.heap.objs.size:=Nat.succ_ne_self _;have y:∀b∈[s1.heap.objs.size+1,s1.heap.objs.size],yL X d c b:=λb E=>by
   have o:b=s1.heap.objs.size+1\/b=s1.heap.objs.size:=by simpa using E
   have n:s1.heap.objs.size<=b:=by
    rcases o with e|e;.rw[e];exact aqz _
    .rw[e];exact ao6 _
   exact g.aiv n (g.hok.fresh n)
  rcases q1 with⟨⟨j,v⟩,q⟩|⟨⟨j,v⟩,q⟩;.obtain⟨m,D,p,M⟩:=g.tuple v;refine aab (show s1.heap.IsTuple a m.toArray from p) λK i f kp=>aq8 i ?_;exact⟨s1.heap.objs.size+1,[s1.heap.objs.size+1,s1.heap.objs.size],_,_,c,rfl,g.kept (t':=s1.toks) kp,yW a _ _ nn,⟨⟨_,i⟩,f⟩,y,q⟩
  .obtain⟨m,D,p,M⟩:=g.list v;refine call_enumerate_list p.isList λK i f _ kp=>aq8 i ?_;exact⟨s1.heap.objs.size+1,[s1.heap.objs.size+1,s1.heap.objs.size],_,_,c,rfl,g.kept (t':=s1.toks) kp,yX a _ _ nn,⟨⟨_,i⟩,f⟩,y,q⟩|[],q1,_=>exact q1.elim|_::_::_,q1,_=>exact q1.elim
end
section
variable{κ:Type}[DecidableEq κ]
noncomputable def qB(kvs:List (κ×V))(k:κ):Option V:=(kvs.find? λa=>decide (a.1=k)).map (·.2)
noncomputable def putK(kvs:List (κ×V))(k:κ)(v:V):List (κ×V):=if(kvs.any λa=>decide (a.1=k))=true then kvs.map λa=>if a.1=k then(a.1,v)else a else kvs++[(k,v)]
def dO{p r}{k:κ}(e:p.1=k):qB (p::r) k=some p.2:=by simp[qB,e]
def dP{p r}{k:κ}(e:¬p.1=k):qB (p::r) k=qB r k:=by simp[qB,e]
theorem l4(k):∀a:List (κ×V),(a.any λb=>decide (b.1=k))=(qB a k).isSome
|[]=>rfl|p::r=>by
 rw[List.any_cons];by_cases e:p.1=k;.simp [dO e,arA e]
 .rw[dP e,apJ e];exact l4 k r
theorem sE(k j:κ)(y:V):∀a:List (κ×V),qB a k=none->qB (a++[(k,y)]) j=if j=k then some y else qB a j
|[],_=>by
 by_cases e:k=j;.rw[apa e.symm];exact dO (p:=(k,y)) e
 .rw[ao9 λz=>e z.symm];exact dP (p:=(k,y)) e|p::r,hn=>by
 rw[List.cons_append];have b:¬p.1=k:=λz=>by rw[dO z]at hn;cases hn
 rw[dP b]at hn;have c:=sE k j y r hn;by_cases e:p.1=j;.rw[dO e,dO e,ao9 λz=>b (e.trans z)]
 .rw[dP e,dP e,c]
def jd(kvs)(k:κ)(v):(putK kvs k v).length<=kvs.length+1:=by
 unfold putK;split;.rw[apv];omega
 .rw[apR,apj,asp];omega
def aeg{kvs:List (κ×V)}{k:κ}(v:V)(h:qB kvs k=none):putK kvs k v=kvs++[(k,v)]:=by unfold putK;rw[l4,h];exact ao9 (by decide)
def u3.nK{o u}(r:u3 o u):o.isSome=u.isSome:=by cases o with
|none=>cases u with|none=>rfl|some _=>exact(r).elim
|some _=>cases u with|none=>exact(r).elim|some _=>rfl
def KV.val{kvs vs}(r:KV kvs vs)(k:κ):u3 (qB kvs k) (valueAt vs k):=by induction r with|nil=>exact True.intro|@cons p q ps qs h t ih=>
 obtain⟨a,c⟩:=h;by_cases e:p.1=k
 .have b:valueAt (q::qs) k=some q.2:=by simp[valueAt,a.symm.trans e]
  rw[dO e,b];exact c
 .have d:¬q.1=k:=λz=>e (a.trans z);have b:valueAt (q::qs) k=valueAt qs k:=by simp[valueAt,d]
  rw[dP e,b];exact ih
theorem KV.any{kvs vs}(r:KV kvs vs)(k:κ):(kvs.any λa=>decide (a.1=k))=vs.any λa=>decide (a.1=k):=by induction r with|nil=>rfl|cons h t ih=>rw[List.any_cons,List.any_cons,ih,h.1]
def KV.amj{kvs vs}(r:KV kvs vs)(k:κ){y u}(d:RelV y u):KV (kvs.map λa=>if a.1=k then(a.1,y)else a) (vs.map λa=>if a.1=k then(a.1,u)else a):=by induction r with|nil=>exact .nil|@cons p q ps qs h t ih=>
 rw[apA,apA];refine .cons ?_ ih;obtain⟨b,c⟩:=h;by_cases e:p.1=k;.rw[apa e,apa (b.symm.trans e)];exact⟨b,d⟩
 .rw[ao9 e,ao9 λz=>e (b.trans z)];exact⟨b,c⟩
def KV.put{kvs vs}(r:KV kvs vs)(k:κ){y u}(a:RelV y u):KV (putK kvs k y) (stored vs k u):=by
 unfold putK stored;rw[r.any k];by_cases e:(vs.any λb=>decide (b.1=k))=true;.rw[apa e,apa e];exact r.amj k a
 .rw[ao9 e,ao9 e];exact Paired.snoc r ⟨rfl,a⟩
theorem KV.length{kvs}{vs:List (κ×Value)}(r:KV kvs vs):kvs.length=vs.length:=arK r
end
def acj{P w}:∀{k u},RelV (kV k) u->(bE P w).is k u=true|.inl (some i),u,r=>by obtain⟨t,e⟩:=r;subst e;exact vC P w i t|.inl none,u,r=>by cases r;rfl|.inr x,u,r=>by obtain⟨t,e⟩:=r;subst e;exact vB P w x t
def af1{P w k u}(h:(bE P w).is k u=true):RelV (kV k) u:=by
 rcases bu h with⟨i,t,rfl,rfl⟩|⟨x,t,rfl,rfl⟩|⟨rfl,rfl⟩;.exact⟨t,rfl⟩
 .exact⟨t,rfl⟩
 .rfl
theorem ui{P w}:∀{ks us},Vals (ks.map kV) us->ItemsAre (bE P w) ks us|[],_,r=>by cases r;exact .nil|k::ks,_,r=>by cases r with|cons h t=>exact .cons (acj h) (ui t)
abbrev KT(H:Hp):List (List Key×V)->List (List Key×Addr×Value)->Prop:=Paired λp q=>p.1=q.1/\H q.2.1=some (.tup (p.1.map kV))/\RelV p.2 q.2.2
def KT.val{H kvs xs}(r:KT H kvs xs)(k):u3 (qB kvs k) ((atKey xs k).map (·.2)):=by induction r with|nil=>exact True.intro|@cons p q ps qs h t ih=>
 refine agz h λa _ c=>?_;by_cases e:p.1=k
 .have b:atKey (q::qs) k=some q.2:=by simp[atKey,a.symm.trans e]
  rw[dO e,b];exact c
 .have d:¬q.1=k:=λz=>e (a.trans z);have b:atKey (q::qs) k=atKey qs k:=by simp[atKey,d]
  rw[dP e,b];exact ih
def KT.amj{H kvs xs}(r:KT H kvs xs)(k){y u}(d:RelV y u):KT H (kvs.map λb=>if b.1=k then(b.1,y)else b) (xs.map (putAt k u)):=by induction r with|nil=>exact .nil|@cons p q ps qs h t ih=>
 rw[apA];refine .cons ?_ ih;refine agz h λa c f=>?_;unfold putAt;by_cases e:p.1=k;.rw[apa e,apa (a.symm.trans e)];exact⟨a,c,d⟩
 .rw[ao9 e,ao9 λz=>e (a.trans z)];exact⟨a,c,f⟩
def KT.put{H kvs xs}(r:KT H kvs xs)(k){b y u}(d:H b=some (.tup (k.map kV)))(a:RelV y u):KT H (putK kvs k y) (storedH xs k b u):=by
 have e:(kvs.any λc=>decide (c.1=k))=(atKey xs k).isSome:=by rw[l4,(r.val k).nK,Option.isSome_map]
 unfold putK storedH;rw[e];by_cases q:(atKey xs k).isSome=true;.rw[apa q,apa q];exact r.amj k a
 .rw[ao9 q,ao9 q];exact Paired.snoc r ⟨rfl,d,a⟩
def KT.keeps{H H' kvs xs}(r:KT H kvs xs)(c:∀b a,H b=some (.tup a)->H' b=some (.tup a)):KT H' kvs xs:=Paired.amL r λ_ _ z=>⟨z.1,c _ _ z.2.1,z.2.2⟩
section
variable{P:Program}{w:World}{H:Hp}{h:Heap}{a:Addr}
def ajm{u}(ok:HOk P w H h)(e:Rd H a u):cL P w H h a u:=e.ok ok
def zQ{kvs}(ok:HOk P w H h)(e:Rd H a (.dK kvs)):kvs.length<=sizeLine/\(a==sysModules)=false/\∃b,KV kvs b/\h.DictOf (bE P w) a b:=ajm ok e
def akM{kvs}(ok:HOk P w H h)(e:H a=some (.dK kvs)):kvs.length<=sizeLine/\(a==sysModules)=false/\∃b,KV kvs b/\h.DictOf (bE P w) a b:=zQ ok (.inl e)
def p7{ks}(ok:HOk P w H h)(e:H a=some (.tup (ks.map kV))):(tupleKind (bE P w)).is h ks a:=by obtain⟨_,d,r,o,c,b,n,f⟩:=ok a _ e;exact⟨o,_,n,c,b,f,by simpa using ui r⟩
def akK{kvs}(ok:HOk P w H h)(e:Rd H a (.dT kvs)):kvs.length<=sizeLine/\(a==sysModules)=false/\∃c,KT H kvs c/\h.DictOfH (tupleKind (bE P w)) a c:=by
 obtain⟨z,y,c,r,o,f,g,i,n,j,d,k⟩:=ajm ok e;refine⟨z,y,c,r,o,f,g,i,n,j,d,λx b=>?_,k⟩;have all:∀{l}{m},KT H l m->∀x∈m,(tupleKind (bE P w)).is h x.1 x.2.1:=by intro l m q;induction q with|nil=>intro x b;exact nomatch b|@cons p q ps qs hq t ih=>
   intro x b;rcases apq.mp b with e|b;.exact p7 ok (by grind)
   .exact ih x b
 exact all r x b
def am9{kvs}(ok:HOk P w H h)(e:H a=some (.dT kvs)):kvs.length<=sizeLine/\(a==sysModules)=false/\∃b,KT H kvs b/\h.DictOfH (tupleKind (bE P w)) a b:=akK ok (.inl e)
end
def aoj(H:Hp)(a:Addr)(y:V)(r:Option V):Prop:=(∃c k,Rd H a (.dK c)/\y=kV k/\r=qB c k)\/∃c k b,Rd H a (.dT c)/\y=.ref b/\H b=some (.tup (k.map kV))/\r=qB c k
def aiB(H:Hp)(a:Addr)(y v:V)(H':Hp):Prop:=(∃c k,H a=some (.dK c)/\y=kV k/\c.length<sizeLine/\H'=upd H a (.dK (putK c k v)))\/∃c k b,H a=some (.dT c)/\y=.ref b/\H b=some (.tup (k.map kV))/\c.length<sizeLine/\H'=upd H a (.dT (putK c k v))
theorem aiB.k{H a kvs k v}(e:H a=some (.dK kvs))(b:kvs.length<sizeLine):aiB H a (kV k) v (upd H a (.dK (putK kvs k v))):=.inl ⟨_,k,e,rfl,b,rfl⟩
section
variable{X:Cx}{pins:List (Addr×Obj)}{σ:St}{H:Hp}{s:Shared}{a:Addr}{y v:V}{u r:Value}{o:Option V}{A:Around}{E:Value->Shared->Prop}
def Inv.big(I:Inv X pins σ H s):sysModules<s.heap.objs.size:=by exact Nat.lt_trans (by decide) (I.mod.glob.keeps I.bk).lt
def ah5{Q}(t:A.units+1<cLine)(I:Inv X pins σ H s)(g:aoj H a y o)(n:RelV y u)(h:∀m,Inv X pins σ H m->Q (.bool !o.isSome) m):wpAny (model X.prog X.w) A (compareOp .NotIn u (.ref a)) Q E s:=by
 rcases g with⟨f,k,e,j,l⟩|⟨f,k,b,e,j,p,l⟩;.subst j;obtain⟨z,i,x,c,d⟩:=zQ I.hok e;refine wpAny_notIn_of (acj n) i d.mapOf ?_;rw[<-(c.val k).nK,<-l];exact h _ (I.tok _)
 .subst j;cases n;obtain⟨z,i,w,c,d⟩:=akK I.hok e;refine wpAny_notIn_heap (tupleKind_room_in1 t) (p7 I.hok p) i d ?_;have q:=(c.val k).nK;rw[Option.isSome_map]at q;rw[<-q,<-l];exact h _ (I.tok _)
def rO{h' t' ob}(I:Inv X pins σ H s)(d:Mut (H a))(f:Heap.SameBut a s.heap h')(c:∃q,h'.get? a=some q)(new:cL X.prog X.w (upd H a ob) h' a ob):Inv X pins σ (upd H a ob) {s with heap:=h',toks:=t'}:=I.write  d (.inl rfl) (λb q e z=>(f.2 b e).trans z) c new
def acU{P w H' h' kvs vs}(z:kvs.length<=sizeLine)(c:(a==sysModules)=false)(b:KV kvs vs)(dd:h'.DictOf (bE P w) a vs):cL P w H' h' a (.dK kvs):=⟨z,c,vs,b,dd⟩
def ac2{H' Q}(T:A.units+1<cLine)(I:Inv X pins σ H s)(g:aiB H a y v H')(D:RelV y u)(C:RelV v r)(h:∀M,Inv X pins σ H' M->Q () M):wpAny (model X.prog X.w) A (setItem (.ref a) u r) Q E s:=by
 rcases g with⟨d,k,e,w,l,t⟩|⟨d,k,b,e,w,J,l,t⟩
 .subst w t;obtain⟨z,p,vs,f,n⟩:=akM I.hok e;have x:vs.length<=sizeLine:=by rw[<-f.length];exact z
  have m:(putK d k v).length<=sizeLine:=by have:=jd d k v;omega
  refine wpAny_setItem_pairs (hsz:=x) (acj D) n λK i B=>h _ ?_;have N:∃q,K.get? a=some q:=let⟨q,_,_,j,_⟩:=i;⟨q,j⟩;exact rO I (by rw[e];exact True.intro) B N (acU m p (f.put k C) i)
 .subst w t;cases D;obtain⟨z,p,P,f,n⟩:=am9 I.hok e;have x:P.length<=sizeLine:=by rw[<-arK f];exact z
  have m:(putK d k v).length<=sizeLine:=by have:=jd d k v;omega
  refine wpAny_setItem_heap (hsz:=x) (tupleKind_room_in1 T) (p7 I.hok J) n λK i B=>h _ ?_;obtain⟨q,O,U,j,R,Y,S,_,Z⟩:=i;refine rO I (by rw[e];exact True.intro) B ⟨q,j⟩ ⟨m,p,_,(f.put k J C).keeps λc ys G=>?_,q,O,U,j,R,Y,S,Z⟩;rw[ae (amH G e λz=>nomatch z)];exact G
end
section
variable{X:Cx}{pins:List (Addr×Obj)}{σ:St}{H:Hp}{s:Shared}{a:Addr}{kvs:List (Key×V)}{A:Around}{E:Value->Shared->Prop}
def anb{Q}(I:Inv X pins σ H s)(e:Rd H a (.dK kvs))(h:∀t c,Inv X pins σ H c->Q (.int kvs.length t) c):wpAny (model X.prog X.w) A (call (.builtin "len") [.ref a]) Q E s:=by obtain⟨z,d,g,b,f⟩:=zQ I.hok e;refine call_len_dict d f (by rw[<-b.length];rw[aqo]at z;omega) ?_;rw[<-b.length];exact h _ _ (I.tok _)
end
def amf(g ty tv:TE):TS:=λD b H=>tv b H λv d=>g b d λx e=>ty b e λy f=>∃a c,x=.ref a/\aiB f a y v c/\D.nx b c
section
variable{X:Cx}{o i value:Expr}{pos pos':Pos}{td ty tv:TE}
def abx(q:X.A.units+1<cLine)(m:PE X o td)(j:PE X i ty)(f:PE X value tv)(A:swapsWith value (some (.Subscript o i pos')) pos.line X.env=pure false):PS X (.Assign [.Subscript o i pos'] value pos) (amf td ty tv):=by intro c s b H D I h;refine wpAny_Assign_Subscript (thn (f _ s b H _ I h) λr s1⟨v,B,d,k,q1⟩=>thn (m _ _ b _ _ d q1) λu s2⟨x,G,t,w,q2⟩=>thn (j _ _ b _ _ t q2) λE s3⟨y,C,z,l,a,p,ex,g,q3⟩=>?_) A;subst ex;obtain rfl:=w;exact ac2 q z g l k λs4 n=>⟨b,p,n,q3⟩
end
def yy{P w H}(h:Heap)(a:sysModules<h.objs.size):cL P w H (h.push {cls:=.type "dict",data:=.dict #[]}) h.objs.size (.dK []):=⟨apC _,apM.mpr (aph (api a)),[],.nil,Heap.DictOf.new h⟩
def afR:TE:=λ_ H Q=>∀p,H p=none->Q (.ref p) (upd H p (.dK []))
section
variable{X:Cx}{pos:Pos}
def qN:PE X (.Dict [] [] pos) afR:=λa s b H Q I h=>wpAny_Dict_empty ⟨.ref _,_,I.laid  (λ_ _ q=>ao4 _ q) (ao6 _) (yy _ I.big),rfl,h _ (I.hok.fresh (ao6 _))⟩
end
def xt:List (TE×TE)->St->Hp->(List (V×V)->Hp->Prop)->Prop|[],_,H,Q=>Q [] H|(tk,tv)::r,σ,H,Q=>tk σ H λx a=>tv σ a λy b=>xt r σ b λd c=>Q ((x,y)::d) c
abbrev VV:List (V×V)->List (Value×Value)->Prop:=Paired λp q=>RelV p.1 q.1/\RelV p.2 q.2
def PPs(X:Cx)(pos:Pos)(keys:List (Option Expr))(a:List Expr)(c:List (TE×TE)):Prop:=∀(b:List (Addr×Obj))(s:Shared)(d:St)(H:Hp)(Q:List (V×V)->Hp->Prop),Inv X b d H s->xt c d H Q->wpAny (model X.prog X.w) X.A (evalPairs (pairTrees keys a X.env pos)) (λh g=>∃f e,Inv X b d e g/\VV f h/\Q f e) X.xe s
def ahm{X:Cx}{pos:Pos}:PPs X pos [] [] []:=λa s b H Q I h=>pairTrees_nil_walk ⟨[],H,I,.nil,h⟩
def aek{X:Cx}{pos:Pos}{k v:Expr}{ks:List (Option Expr)}{vs:List Expr}{tk tv:TE}{b:List (TE×TE)}(hk:PE X k tk)(i:PE X v tv)(l:PPs X pos ks vs b):PPs X pos (some k::ks) (v::vs) ((tk,tv)::b):=λa s c H Q I h=>pairTrees_cons_walk (thn (hk a s c H _ I h) λu s1⟨x,e,f,p,q1⟩=>thn (i a s1 c e _ f q1) λw2 s2⟨y,n,m,j,q2⟩=>thn (l a s2 c n _ m q2) λws s3⟨o,g,q,d,q3⟩=>⟨(x,y)::o,g,q,.cons ⟨p,j⟩ d,q3⟩)
def jK(kvs a:List (Key×V)):List (Key×V):=a.foldl (λb c=>putK b c.1 c.2) kvs
def KV.merge:∀{a:List (Key×V)}{b:List (Key×Value)}{kvs:List (Key×V)}{vs:List (Key×Value)},KV a b->KV kvs vs->KV (jK kvs a) (merged vs b):=by intro a b kvs vs r;unfold KV at r;induction r generalizing kvs vs with|nil=>intro q;exact q|@cons p q ps qs h t ih=>
 intro c;have e:KV (putK kvs p.1 p.2) (stored vs q.1 q.2):=by have:=c.put p.1 h.2;rw[<-h.1];exact this
 exact ih e
theorem jN:∀(a kvs:List (Key×V)),(jK kvs a).length<=kvs.length+a.length|[],kvs=>by show kvs.length<=kvs.length+0;omega|p::r,kvs=>by have c:=jN r (putK kvs p.1 p.2);have b:=jd kvs p.1 p.2;show(jK (putK kvs p.1 p.2) r).length<=_;rw[apj];omega
theorem qk{P:Program}{w:World}:∀{kvs:List (Key×V)}{ws:List (Value×Value)},VV (kvs.map λe=>(kV e.1,e.2)) ws->∃d,Carries (bE P w) ws d/\KV kvs d|[],_,r=>by rw[List.map_nil]at r;cases r;exact⟨[],True.intro,.nil⟩|p::kvs,_,r=>by rw[apA]at r;cases r with|@cons a b as bs h t=>obtain⟨d,c,q⟩:=qk (P:=P) (w:=w) t;obtain⟨b1,b2⟩:=b;exact⟨(p.1,b2)::d,⟨acj h.1,rfl,c⟩,.cons ⟨rfl,h.2⟩ q⟩
def al1(b:List (TE×TE)):TE:=λf H Q=>∀p,H p=none->xt b f (upd H p (.dK [])) λe d=>d p=some (.dK [])/\∃a:List (Key×V),e=a.map (λc=>(kV c.1,c.2))/\a.length<=15/\Q (.ref p) (upd d p (.dK (jK [] a)))
def ahs{X:Cx}{pos:Pos}{keys:List (Option Expr)}{b:List Expr}{i:List (TE×TE)}(h:PPs X pos keys b i)(f:keys.all (·.isSome)=true)(r:keys.length=b.length)(J:keys≠[])(k:keys.length<=15):PE X (.Dict keys b pos) (al1 i):=by
 intro g s u H Q I q;have v:=I.hok.fresh (ao6 s.heap.objs.size);have p:=I.laid (a:=s.heap.objs.size) (o:=.dK []) (h':=s.heap.push {cls:=.type "dict",data:=.dict #[]}) (t':=s.toks) (λ_ _ q=>ao4 _ q) (ao6 _) (yy s.heap I.big);refine wpAny_Dict_walk (knd:=bE X.prog X.w) f r J k (thn (h g _ u _ _ p (q _ v)) λws s2⟨R,O,m,l,e,j,C,N,q2⟩=>?_);subst C;obtain⟨t,c,B⟩:=qk (P:=X.prog) (w:=X.w) l;obtain⟨z,A,G,x,y⟩:=akM m.hok e;cases x;refine⟨t,c,y,λh' d M=>⟨.ref s.heap.objs.size,_,?_,rfl,q2⟩⟩;have E:(jK [] j).length<=sizeLine:=by have D:=jN j [];rw[asp]at D;rw[aqo];omega
 have n:∃q,h'.get? s.heap.objs.size=some q:=let⟨q,_,_,K,_⟩:=d;⟨q,K⟩;exact rO m (by rw[e];exact True.intro) M n (acU E A (B.merge .nil) d)
section
variable{X:Cx}{pins:List (Addr×Obj)}{σ:St}{H:Hp}{s:Shared}{a:Addr}{kvs:List (Key×V)}{A:Around}{E:Value->Shared->Prop}
def afi{Q:Value->Shared->Prop}(I:Inv X pins σ H s)(e:Rd H a (.dK kvs))(h:∀p f,H p=none->Inv X pins σ (upd H p (.dK kvs)) f->Q (.ref p) f):wpAny (model X.prog X.w) A (call (.type "dict") [.ref a]) Q E s:=by obtain⟨z,i,m,c,k⟩:=zQ I.hok e;refine kt_call_dict i k (by rw[<-c.length];exact z) λl d j=>?_;refine h _ _ (I.hok.fresh (ao6 _)) (I.laid (a:=s.heap.objs.size) (o:=.dK kvs) (t':=s.toks) (λb q g=>?_) (ao6 _) (acU z (apM.mpr (aph (api I.big))) c d));exact(j.2 b (api (ape g))).trans (ao4 _ g)
end
section
variable{X:Cx}
theorem mU{h:Heap}:∀{us:List Value}{ds:List PyData}{a:List Addr},ReadsAll h us ds a->us.length=ds.length|_,_,_,.nil=>rfl|_,_,_,.cons _ t=>by rw[apj,apj,mU t]
def adz(p:PyData->Bool)(ds:List PyData)(k:Nat):Prop:=(∃d,ds[k]?=some d/\p d=true)/\∀m d,m<k->ds[m]?=some d->p d=false
def ab1:MtR X "list.index" λx t H Q=>∃n y d b k,t=[y]/\IsD X.K H n y d/\IsD X.K H (n+1) x (.list b)/\X.A.units+1+n<cLine/\adz (λz=>PyData.eqv z d) b k/\b.length<=1000000/\Q (.int k) H:=by
 intro p s T H x t v us Q I N D⟨n,y,d,b,k,e,C,A,U,⟨⟨Y,g,G⟩,l⟩,S,q⟩;subst e;obtain⟨u,rfl,K⟩:=vals1 D;obtain⟨⟨O,M⟩,c1,d1⟩:=I.reads n d y u C K;obtain⟨⟨bs,E⟩,c2,R⟩:=I.reads _ _ x v A N;have c2:PyData.canLayAll0 b=true:=by simpa[PyData.canLay0]using c2
 cases E with|@list a o its m ds' as' h1 h2 h3 h4=>
 obtain⟨cl,B,P,J⟩:=o;cases h2;cases h3;have f:=SeqAt.readsAll_map b _ _ c2 h4;have c:=mU h4;have h:∀m(i:m<its.size),b[m]?=some (SeqAt.readOf s.heap its[m]):=λm i=>by rw[<-f,apz];simp[i]
 have w:k<its.size:=by have:=(ao8.mp g).1;have:its.toList.length=b.length:=c;simp at this;omega
 have r:=h k w;rw[g]at r;have Z:its.size<=1000000:=by have:its.toList.length=b.length:=c;simp at this;omega
 refine aqM F.slot_list_index ⟨_,h1,rfl⟩ F.entry_list_index (F.args_list_index_2 _ _) (SeqAt.list_indexAt a its m B J u (λz=>PyData.eqv (SeqAt.readOf s.heap z) d) k w (by omega) ?_ λm i j=>?_) ⟨h1,SeqAt.items_eqAt h4 M c2 c1 (by have:=ard (PyData.depthAll b) d.depth;omega),⟨.int k,H,I.tok _,⟨_,rfl⟩,q⟩⟩;.show PyData.eqv (SeqAt.readOf s.heap its[k]) d=true;rw[<-aps r];exact G
 .exact l m _ j (h m i)
def adk(O:X.calm=true):bP X (.builtin "all") λB H Q=>∃(l:Addr)(bs:List Bool),B=[.ref l]/\SqL X.K H l (bs.map V.bl)/\Q (.bl (bs.all id)) H:=by
 intro C s σ H B us Q I r h;obtain⟨l,bs,rfl,Y,q⟩:=h;obtain⟨u,rfl,T⟩:=vals1 r;cases T;obtain⟨a,D,pl,hz⟩:=I.list Y;have K:=D.length;have M:l<s.heap.objs.size:=by obtain⟨o,_,t,_⟩:=pl;exact ape t
 have p:∀(i:Nat)(v:Value),a.toArray[i]?=some v->∃b,bs[i]?=some b/\v=Value.bool b:=λi v N=>by
  have d:a[i]?=some v:=by simpa using N
  have c:i<(bs.map V.bl).length:=by have:=(ao8.mp d).1;omega
  obtain⟨u,f,G⟩:=D.get (apf c);rw[d]at f;cases f;have n:i<bs.length:=by simpa using c
  refine⟨bs[i],apf n,?_⟩;rw[List.getElem_map]at G;exact G
 refine call_all_walk (arU pl.isList ⟨s.heap.objs.size,_,_,_,_,_,λi=>bs.getD i false,rfl,Walks.list (prog:=X.prog) (w:=X.w) (A:=X.A.in1) (show X.A.in1.handled=none from I.ok.hd O) s.heap.objs.size l (api M) a.toArray,⟨⟨_,apg _ rfl,rfl,rfl⟩,?_⟩,?_,λh' tk Z=>?_⟩);.obtain⟨o,k,t,y,P,j⟩:=pl;exact⟨o,ao4 _ t,y,k,j⟩
 .intro i v S J E' R g;obtain⟨b,m,rfl⟩:=p i v R;have g:J (bs.getD i false) S:=g;rw[apP,m]at g;exact apS g
 .have e:(List.range a.toArray.size).all (λi=>bs.getD i false)=bs.all id:=by
   have x:a.toArray.size=bs.length:=by simp at K⊢;omega
   rw[x,ap7,apY,apY];constructor;.intro h b p;obtain⟨i,c,rfl⟩:=List.getElem_of_mem p;have:=h i (aq2.mpr c);rw[apP,apf c]at this;exact this
   .intro h i c;have c:=aq2.mp c;rw[apP,apf c];exact h _ (List.getElem_mem c)
  rw[e];exact⟨.bl _,H,I.kept λb o E=>Z b o (by
  intro z;have U:b=s.heap.objs.size:=by simpa using z
  exact absurd (ape E) (by rw[U];exact ap8 _)) (ao4 _ E),rfl,q⟩
def acm:IxR X λx y H Q=>∃a b k v,x=.ref a/\y=kV k/\Rd H a (.dK b)/\qB b k=some v/\Q v H:=by intro c f h s r H x y v u Q I m j⟨a,_,k,z,ex,n,e,l,q⟩o;subst ex n;cases m;obtain⟨p,t,A,g,i⟩:=zQ I.hok e;refine eM (u3.some_of (by rw[<-l];exact g.val k)) λw hw d=>?_;exact tail_any i.typeIs arY.lookup (wpAny_getItem_of (acj j) i.mapOf hw (iH z H (I.tok _) d q)) o
def adA(w:World)(K:W.Frag)(a:Addr)(kvs:List (Str×V)):Prop:=∃b n,K.lookup a=some ⟨.type "dict",none,.dict b n,#[]⟩/\Paired (λ(p:Str×V)(e:DictEntry)=>(∃t,e.key=.str p.1 t)/\e.hash=PyData.keyHash w.params p.1/\RelV p.2 e.val) kvs b.toList
theorem pZ{w:World}:∀{kvs es},Paired (λ(p:Str×V)e=>(∃t,e.key=.str p.1 t)/\e.hash=PyData.keyHash w.params p.1/\RelV p.2 e.val) kvs es->W.KeysLit w.params es|_,_,.nil=>trivial|_,_,.cons ⟨⟨t,e1⟩,e2,_⟩ r=>⟨⟨_,t,e1,e2⟩,pZ r⟩
theorem acB{w:World}(k)(v):∀{kvs es},Paired (λp(e:DictEntry)=>(∃t,e.key=.str p.1 t)/\e.hash=PyData.keyHash w.params p.1/\RelV p.2 e.val) kvs es->kvs.lookup k=some v->∃e,es.find? (λe=>Value.isStrOf k e.key)=some e/\RelV v e.val
|_,_,.nil,h=>by simp at h|_,_,.cons (a:=p) (b:=e) ⟨⟨t,e1⟩,e2,rv⟩ r,h=>by
 by_cases d:k=p.1;.obtain⟨p1,p2⟩:=p;subst d;simp[List.lookup]at h;subst h;exact⟨e,by simp[List.find?,e1,Value.isStrOf],rv⟩
 .obtain⟨p1,p2⟩:=p;have c:(k==p1)=false:=by simpa using d
  simp only[List.lookup,c]at h;refine eM (acB k v r h) λg i f=>?_;refine⟨g,?_,f⟩;rw[List.find?_cons,e1];have:Value.isStrOf k (.str p1 t)=false:=by simp[Value.isStrOf];exact λz=>d z.symm
  rw[this];exact i
def aeP{a0 kvs}(D:adA X.w X.K a0 kvs):IxR X λx y H Q=>x=.ref a0/\∃k v,y=.str k/\kvs.lookup k=some v/\Q v H:=by intro a b c s w H x y v u Q I g m⟨ex,k,z,j,l,q⟩o;subst ex j;cases g;obtain⟨t,rfl⟩:=m;refine dv D λr n h p=>?_;refine eM (acB k z p l) λe f i=>?_;have d:=W.mapOf_K (prog:=X.prog) I.kIn h (pZ p);refine tail_any d.typeIs arY.lookup (wpAny_getItem_of (strKind_is _ _ k t) d ?_ (iH z H (I.tok _) i q)) o;unfold findBy;rw[<-arH,f];rfl
end
end L2
set_option autoImplicit true
set_option relaxedAutoImplicit true
namespace L2
open PySem PySem.Spec PyProof.Rows
def V12(dx:DX)(vs:Array Value)(v:Value):Prop:=vs[1]?=some v/\vs[2]?=some dx.2.2/\vs[0]?=some dx.2.1
def Trc(h:Heap)(e C:Addr)(dx:DX)(f:Value):Option Addr->Prop|none=>∃a b,h.get? e=some a/\a.cls=.ref C/\a.dict=dx.1/\a.data=.fields b/\V12 dx b .none|some T=>T≠e/\∃a b c d,h.get? e=some a/\a.cls=.ref C/\a.dict=dx.1/\a.data=.fields b/\V12 dx b (.ref T)/\h.get? T=some c/\c.data=.fields d/\d[3]?=some f
def Trc.there{h e C dx j T}(t:Trc h e C dx j T):∃a b,h.get? e=some a/\a.cls=.ref C/\a.dict=dx.1/\a.data=.fields b/\b[2]?=some dx.2.2/\b[0]?=some dx.2.1:=by cases T with|none=>refine oA t λa b g f i c d=>?_;exact⟨a,b,g,f,i,c,d.2⟩|some T=>obtain⟨_,a,b,_,_,g,f,i,c,d,_⟩:=t;exact aah a b g f i c d.2
def Trc.keeps{h h' e C dx f T}(t:Trc h e C dx f T)(k:∀b o,b=e\/T=some b->h.get? b=some o->h'.get? b=some o):Trc h' e C dx f T:=by cases T with|none=>refine dv t λa d c r=>?_;exact⟨a,d,k _ _ (.inl rfl) c,r⟩|some T=>obtain⟨q,a,d,j,n,c,p,i,g,l,m,r⟩:=t;exact⟨q,a,d,j,n,k _ _ (.inl rfl) c,p,i,g,l,k _ _ (.inr rfl) m,r⟩
def Obj.o4(f)(o:Obj):(o.mapFields f).dict=o.dict:=by obtain⟨c,d,a,b⟩:=o;cases a<;>rfl
section
variable{M:Model}{A:Around}{E:Value->Shared->Prop}{s:Shared}
def ux{y g d L e C v vs head j Q}{dx:DX}(K:A.frames=some (g::d))(P:s.heap.FunFrames y (g::d))(U:g.frame=some L)(O:s.heap.get? e=some v)(H:v.data=.fields vs)(hsz:1<vs.size)(m:vs[2]?=some dx.2.2/\vs[0]?=some dx.2.1)(I:v.dict=dx.1)(h:∀G R,(∀b o,s.heap.get? b=some o->b≠e->b∉frs (g::d)->G.get? b=some o)->(∀b o,s.heap.get? b=some o->b∈frs (g::d)->∃J,G.get? b=some {o with slots:=J})->s.heap.objs.size<=R->Trc G e C dx (rawInt L) (some R)->Q () {s with heap:=G})(S:v.cls=.ref C):wpAny M A (do let a <-frameOf g;let pl <-entryPlaceOf L j;let b <-EntryCells.newEntry head a .none (rawInt L) .none pl;setField (.ref e) 1 b) Q E s:=by
 have n:e ∉(g::d).filterMap (·.frame):=λT=>by obtain⟨_,o,D,N⟩:=P.mem T;rw[O]at D;injection D with D;subst D;exact N vs H
 refine ao3 (wpAny_frameOf_fun K P U λc f=>?_);refine ao3 (wpAny_entryPlaceOf λpl w=>?_);unfold EntryCells.newEntry newFields;refine ao3 (aqC ?_ (w.sizeOk5 _ _ _ _ _));have i:c.get? e=some v:=(f.2.1 e n).trans O;have l:=ao4 {cls:=.type "traceback",dict:=none,data:=.fields ([head,.ref L,.none,rawInt L,.none]++if pl.isEmpty then List.replicate 6 Value.none else pl).toArray} i;refine aqp l H hsz ?_;have B:=apK (ape i);have k:=aqw H (·.setIfInBounds 1 (Value.ref c.objs.size));have p:=apF (Obj.mapFields (·.setIfInBounds 1 (Value.ref c.objs.size))) l (ari k);have t:=(apl (c.push {cls:=.type "traceback",dict:=none,data:=.fields ([head,.ref L,.none,rawInt L,.none]++if pl.isEmpty then List.replicate 6 Value.none else pl).toArray}) (Obj.mapFields (·.setIfInBounds 1 (Value.ref c.objs.size))) (aph B)).trans (apg c rfl);have keep:∀b o,b≠e->c.get? b=some o->((c.push {cls:=.type "traceback",dict:=none,data:=.fields ([head,.ref L,.none,rawInt L,.none]++if pl.isEmpty then List.replicate 6 Value.none else pl).toArray}).update e (Obj.mapFields (·.setIfInBounds 1 (Value.ref c.objs.size)))).get? b=some o:=λb o u x=>by rw[apl _ _ (aph u)];exact ao4 _ x
 refine h _ c.objs.size (λb o x u r=>keep b o u ((f.2.1 b r).trans x)) (λb o x r=>?_) ?_ ?_;.obtain⟨J,q⟩:=f.2.2 b o x;exact⟨J,keep b _ (λz=>n (z▸r)) q⟩
 .rw[f.1];exact ao6 _
 .exact⟨B,_,_,_,_,p,(Obj.cls_mapFields _ _).trans S,(Obj.o4 _ _).trans I,k,⟨by simp[hsz],by rw[arE];simpa using m.1,by rw[arE];simpa using m.2⟩,t,rfl,by first|(simp;done)|(rcases w with rfl|⟨_,_,_,_,_,_,_,rfl⟩<;>simp)⟩
def xZ{t d a L e C dx R T Q}(u:A.frames=some (d::a))(v:s.heap.FunFrames t (d::a))(I:d.frame=some L)(N:Trc s.heap e C dx R T)(y:(R==rawInt L)=false)(h:∀i l,(∀b o,s.heap.get? b=some o->b≠e->T≠some b->b∉frs (d::a)->i.get? b=some o)->(∀b o,s.heap.get? b=some o->b∈frs (d::a)->∃Y,i.get? b=some {o with slots:=Y})->s.heap.objs.size<=l->Trc i e C dx (rawInt L) (some l)->Q () {s with heap:=i}):wpAny M A (noteFrame (.ref e) d) Q E s:=by unfold noteFrame;simp only[I];cases T with|none=>refine oA N λS K m B j p k=>?_;refine ao3 (apx m p k.1 ?_);rw[ao9 (by decide)];exact ux u v I m p (aqk.mp k.1).1 k.2 j (λi l k1 k2 k3 H=>h i l (λb o f J _ w=>k1 b o f J w) k2 k3 H) B|some T=>
 obtain⟨G,S,K,Z,ts,m,B,j,p,k,P,n,O⟩:=N;refine ao3 (apx m p k.1 ?_);rw[apa (by simp)];refine ao3 (apx P n O ?_);rw[ao9 (by rw[y];exact apo)];refine ao3 (aqp P n (aqk.mp O).1 ?_);have other:∀b,b≠T->(s.heap.update T (Obj.mapFields (·.setIfInBounds 3 Value.none))).get? b=s.heap.get? b:=λb f=>apl _ _ (aph f);have c:∀b o,s.heap.get? b=some o->(∀K,o.data≠.fields K)->b≠T:=λb o f g q=>by grind
 have x:∀b∈frs (d::a),b≠T:=λb f=>by obtain⟨_,o,U,g⟩:=v.mem f;exact c b o U g
 refine ux u (v.of_keeps λb o f g=>⟨o,(other b (c b o f g)).trans f,rfl⟩) I ((other e (aph G)).trans m) p (aqk.mp k.1).1 k.2 j (λi l k1 k2 k3 H=>h i l (λb o f J X w=>?_) (λb o f r=>?_) ?_ H) B;.have D:b≠T:=λz=>X (by rw[z]);exact k1 b o ((other b D).trans f) J w
 .exact k2 b o ((other b (x b r)).trans f) r
 .rw[<-Heap.size_after_update ..];exact k3
def abX{a}{L e C T:Addr}{dx d Q}(m:a.frame=some L)(g:Trc s.heap e C dx d (some T))(c:(d==rawInt L)=true)(h:Q () s):wpAny M A (noteFrame (.ref e) a) Q E s:=by unfold noteFrame;simp only[m];obtain⟨i,p,u,q,r,f,t,o,n,j,l,b,k⟩:=g;refine ao3 (apx f n j.1 (ao3 (apx l b k ?_)));rw[apa c];exact ao7 h
def zI   (q:Trc s.heap e C dx fl (some T))(h:∀g,(∀b o,s.heap.get? b=some o->b≠T->g.get? b=some o)->Trc g e C dx (fr.elim .none λf=>rawInt f) (some T)->Q () {s with heap:=g}):wpAny M A (setFlight (.ref e) fr) Q E s:=by obtain⟨d,p,v,w,x,k,t,i,n,l,m,c,r⟩:=q;have a:=(aqk.mp r).1;have other:∀b,b≠T->(s.heap.update T (Obj.mapFields (·.setIfInBounds 3 (fr.elim Value.none λf=>rawInt f)))).get? b=s.heap.get? b:=λb j=>apl _ _ (aph j);exact ao3 (apx k n l.1 (aqp m c a (h _ (λb o j u=>(other b u).trans j) ⟨d,p,v,_,_,(other e (aph d)).trans k,t,i,n,l,apF _ m (ari (aqw c _)),aqw c _,by simp[a]⟩)))
end
def eB{P w H h a o}(x:cL P w H h a o):∃ob,h.get? a=some ob:=by cases o with|lst xs=>obtain⟨_,_,_,_,e⟩:=x;exact⟨_,e⟩|tup xs=>obtain⟨_,_,_,o,e,_⟩:=x;exact⟨_,e⟩|dK kvs|dT kvs=>obtain⟨_,_,_,_,o,_,_,e,_⟩:=x;exact⟨_,e⟩|set S n=>obtain⟨o,_,_,_,e,_⟩:=x;exact⟨_,e⟩|ins C dx fs=>obtain⟨_,_,_,e,_⟩:=x;exact⟨_,e⟩|own y=>exact x|xd fs=>obtain⟨_,⟨_,_,_,e,_⟩,_⟩:=x;exact⟨_,e⟩|rng lo hi=>obtain⟨_,_,_,e⟩:=x;exact⟨_,e⟩|frz ob u=>obtain⟨e,_⟩:=x;exact⟨_,e⟩|tbl ps|met f y=>exact⟨_,x⟩|tab ps=>rcases x with e|⟨_,_,_,_,_,e,_⟩<;>exact⟨_,e⟩|ext φ=>obtain⟨_,e,_⟩:=x;exact e
def FpX(X:Cx)(pins:List (Addr×Obj))(H:Hp)(b:Addr):Prop:=H b=none/\b≠X.env.locals/\b∉X.fs/\(b∈X.ex\/X.s₀.heap.get? b=none)/\(∀x c,X.env.cells.lookup x=some c->c≠b)/\∀p∈X.pn++pins,p.1≠b
structure Thr(X:Cx)(pins:List (Addr×Obj))(σ:St)(H:Hp)(s:Shared)(e C:Addr)(dx:DX)(fl:Value)(T:Option Addr):Prop where
 inv:Inv X pins σ H s
 trc:Trc s.heap e C dx fl T
 fe:FpX X pins H e
 fT:∀t,T=some t->FpX X pins H t
section
variable{X:Cx}{pins:List (Addr×Obj)}{σ:St}{H:Hp}{s:Shared}{e C:Addr}{dx:DX}{fl:Value}{T:Option Addr}
def Inv.fpX{H'}(I:Inv X pins σ H s){b}(d:s.heap.get? b=none)(h:H' b=none):FpX X pins H' b:=by
 refine⟨h,λz=>?_,λz=>?_,?_,λx c j z=>?_,λp i z=>?_⟩;.obtain⟨m,⟨o,k,l,a,_⟩,_⟩:=I.loc;rw[<-z,d]at a;cases a
 .obtain⟨_,o,a,_⟩:=I.sf.mem z;rw[d]at a;cases a
 .by_cases f:b∈X.ex;.exact .inl f
  .refine .inr ?_;cases q:X.s₀.heap.get? b with|none=>rfl|some o=>obtain⟨n,g⟩:=I.base.there b o q f;rw[d]at g;cases g
 .obtain⟨v,o,a,_⟩:=I.cell x c j;rw[z,d]at a;cases a
 .have:=(I.pin p i).1;rw[z,d]at this;cases this
def Inv.ajl(I:Inv X pins σ H s){ch:List Addr}{h'}(a:∀b∈ch,FpX X pins H b)(k:∀b o,s.heap.get? b=some o->b∉ch->b∉frs X.stack->h'.get? b=some o)(f:∀b o,s.heap.get? b=some o->b∉ch->b∈frs X.stack->∃h,h'.get? b=some {o with slots:=h}):Inv X pins σ H {s with heap:=h'}:=by
 have any:=λb o q d=>by
  by_cases g:b∈frs X.stack;.exact f b o q d g
  .exact⟨o.slots,k b o q d g⟩
 have trk:∀b u,H b=some u->b∉ch/\b∉frs X.stack:=λb u q=>⟨(λz=>by rw[(a b z).1]at q;cases q),λz=>by rw[I.vf b z]at q;cases q⟩;refine I.ad6 (λb g=>⟨(a b g).2.2.2.1,(a b g).2.1,(a b g).2.2.2.2.1,(a b g).2.2.2.2.2⟩) (λb o i j d q _=>k b o q d ((λb i j z=>(apq.mp (I.xA b z)).elim i j) b i j)) (λb o _ _ d q _=>any b o q d) (λ_ _ _ _ n=>n) (λb o d q=>let⟨h,z⟩:=any b o q d;⟨_,z⟩) (λ_ _ q=>q) (λ_ _ _ q=>q) (λb y q=>⟨#[],by rw[q];simp⟩) (λm w=>?_) (λb u q=>?_) I.bare;.refine wN w λo l p t r=>?_;obtain⟨h,x⟩:=any _ o t λz=>(a _ z).2.1 rfl;exact adM _ l p x r
 .refine(I.hok b u q).u0 (λc v d z=>?_) (λ_ z=>z) λ_ _ z=>z;rcases d with rfl|d;.exact k c v z (trk c u q).1 (trk c u q).2
  .exact k c v z (trk c _ d).1 (trk c _ d).2
variable{M:Model}{E:Value->Shared->Prop}{Q:Unit->Shared->Prop}
def Thr.note(t:Thr X pins σ H s e C dx fl T)(i:X.stack=X.env::X.outer)(r:X.env.frame=some X.env.locals)(h:∀j l u,Thr X pins σ H {s with heap:=j} e C dx u (some l)->Q () {s with heap:=j}):wpAny M X.A (noteFrame (.ref e) X.env) Q E s:=by
 have I:=t.inv;have g:=I.stack;rw[i]at g;have k:(fl==rawInt X.env.locals)=false->wpAny M X.A (noteFrame (.ref e) X.env) Q E s:=λc=>by
  refine xZ (by rw[<-i];exact I.ok.frames) g r t.trc c λj l k1 k2 k3 n=>h j l (rawInt X.env.locals) ?_;have f:=I.hok.fresh k3;have p:∀b∈e::T.toList,FpX X pins H b:=λb a=>by
   rcases apq.mp a with rfl|a;.exact t.fe
   .exact t.fT b (by grind)
  have d:∀b,b∉e::T.toList->b≠e/\T≠some b:=λb a=>⟨λz=>a (by rw[z];exact apu),λz=>a (by rw[z];simp)⟩;have v:=I.ajl p (λb o q m a=>k1 b o q (d b m).1 (d b m).2 (by rw[<-i];exact a)) λb o q _ a=>k2 b o q (by rw[<-i];exact a);exact⟨v,n,t.fe,λb a=>by cases a;exact I.fpX (apW k3) f⟩
 cases T with|none=>exact(show Thr X pins σ H s e C dx .none none->_ from λt=>by
   have c:((.none:Value)==rawInt X.env.locals)=false:=by simp[rawInt]
   refine xZ (by rw[<-i];exact I.ok.frames) g r t.trc c λj l k1 k2 k3 n=>h j l (rawInt X.env.locals) ?_;have f:=I.hok.fresh k3;have v:=I.ajl (λb a=>by rw[apZ.mp a];exact t.fe) (λb o q m a=>k1 b o q (λz=>m (by rw[z];exact apu)) (by intro z;cases z) (by rw[<-i];exact a)) λb o q _ a=>k2 b o q (by rw[<-i];exact a);exact⟨v,n,t.fe,λb a=>by cases a;exact I.fpX (apW k3) f⟩) ⟨t.inv,t.trc,t.fe,t.fT⟩|some T0=>cases c:fl==rawInt X.env.locals with|false=>exact k c|true=>exact abX r t.trc c (h s.heap T0 fl t)
def Thr.vP{T fr}(t:Thr X pins σ H s e C dx fl (some T))(h:∀c a,Thr X pins σ H {s with heap:=c} e C dx a (some T)->(fr=none->a=.none)->Q () {s with heap:=c}){A}:wpAny M A (setFlight (.ref e) fr) Q E s:=by exact zI t.trc λc k1 k2=>h c _ ⟨t.inv.ajl (λb f=>by rw[apZ.mp f];exact t.fT T rfl) (λb o q d _=>k1 b o q λz=>d (by grind)) λb o q d _=>⟨o.slots,k1 b o q λz=>d (by grind)⟩,k2,t.fe,t.fT⟩ λz=>by grind
def Thr.qg{T}(t:Thr X pins σ H s e C dx fl (some T))(h:∀a,Thr X pins σ H {s with heap:=a} e C dx .none (some T)->Q () {s with heap:=a}){A}:wpAny M A (setFlight (.ref e) none) Q E s:=t.vP λa c b z=>h _ (z rfl▸b)
def Thr.pass{α T b d Q}(t:Thr X pins σ H s e C dx fl (some T))(h:∀c a,Thr X pins σ H {s with heap:=c} e C dx a (some T)->E (.ref e) {s with heap:=c}){A}:wpAny M A (PySem.passOn b (.ref e) d:Sem α) Q E s:=by obtain⟨i,n,v,p,r,f,u,m,l,j,q,g,o⟩:=id t.trc;exact ao3 (apx f l j.1 (ao3 (t.vP λc a k _=>wpAny_throw (h _ _ k))))
end
def CXX(P:Program)(w:World):CXT:=λa H s E e c=>∃ea C d T b,e=.ref ea/\c.os=s.os/\AllBare c.gens/\Un (frs a) [] H b s.heap c.heap/\HOk P w b c.heap/\Trc c.heap ea C d .none (some T)/\s.heap.get? ea=none/\s.heap.get? T=none/\b ea=none/\b T=none/\E (.ref C) d b
section
variable{X:Cx}{pins:List (Addr×Obj)}{σ:St}{H:Hp}{s s':Shared}{e:Value}{E:XK}
def Inv.thrown(I:Inv X pins σ H s)(h:CXX X.prog X.w X.stack H s E e s'):∃ea C c T a,e=.ref ea/\Thr X pins σ a s' ea C c .none (some T)/\E (.ref C) c a:=by obtain⟨ea,C,c,T,a,rfl,k,g,un,d,j,n1,n2,f,i,q⟩:=h;exact⟨ea,C,c,T,a,rfl,⟨I.aic k un d g λb z=>absurd z (by simp),j,I.fpX n1 f,λt z=>by cases z;exact I.fpX n2 i⟩,q⟩
end
def je{P w K j g N d scope f h A a s H E pins l H' s' e C dx T m}(t:Thr (fB (CXX P w) P w K j g N d scope f h A a s H E) pins l H' s' e C dx m T)(q:E (.ref C) dx H'):(fB (CXX P w) P w K j g N d scope f h A a s H E).xe (.ref e) s':=by
 refine ao3 (t.note rfl rfl λo i _ n=>n.qg λk c=>?_);have I:=c.inv;have new:∀b,FpX (fB (CXX P w) P w K j g N d scope f h A a s H E) pins H' b->s.heap.get? b=none:=λb z=>by
  rcases z.2.2.2.1 with z|z;.exact absurd (show b∈[]from z) (by simp)
  .exact z
 exact⟨e,C,dx,i,H',rfl,I.os,I.bare,I.base,I.hok,c.trc,new e c.fe,new i (c.fT i rfl),c.fe.1,(c.fT i rfl).1,q⟩
section
variable{X:Cx}{k:Nat}{f:Addr}{fd:FuncData}{ps:List Str}{sp:Sp}{dvs:List V}{ds:List Value}{x:Str}{p pos:Pos}{e:Expr}{es:List Expr}{t:TA}
def xx(X:Cx)(sp:Sp)(dvs:List V)(t:TA):TE:=λd H Q=>t d H λh g=>∃E:XK,sp (h++dvs) g Q E/\∀a s e C c T b,Thr X a d b s e C c .none (some T)->E (.ref C) c b->X.xe (.ref e) s
def vi    (F:FnOk X.prog X.w X.K X.mg X.base (CXX X.prog X.w) k f fd ps sp)(m:Room k X.A)(n:Binds X.K fd ps ds)(l:Vals dvs ds)(g:∀a s e C c T b,Thr X a σ b s e C c .none (some T)->E (.ref C) c b->X.xe (.ref e) s)(I:Inv X a σ H s)(r:Vals vs us)(h:sp (vs++dvs) H Q E):wpAny (model X.prog X.w) X.A (call (.ref f) us) (EP X a σ Q) X.xe s:=by
 have r2:=r.append l;have i:(us++ds).length=ps.length:=by rw[<-r2.length];exact F.len _ _ _ _ h
 refine aqm (aqE (F.run _ _ s H _ _ _ Q E m trivial I.akF (n s us I.kIn i) r2 h) λr j d=>?_);cases r with|error e=>obtain⟨ea,C,c,T,b,rfl,t,q⟩:=I.thrown d;exact g _ j ea C c T b t q|ok fl=>cases fl with|ret u=>exact I.after d|next|brk|cont=>exact False.elim d
def xQ(F:FnOk X.prog X.w X.K X.mg X.base (CXX X.prog X.w) k f fd ps sp)(u:Room k X.A)(o:Gl X x)(m:X.mg x=some (.ref f))(hk:W.keepIn X.K (.ref f)=true)(v:Binds X.K fd ps ds)(n:Vals dvs ds)(g:PA X (e::es) t)(a:Dbg x:=by decide)(i:SE X e es:=by rfl)(b:BT X pos es:=by rfl):PE X (.Call (.Name x p) (e::es) [] pos) (xx X sp dvs t):=by intro d s l H Q I h;exact ap5 (cE I o m (ar9 I.ok.mod.kin hk (thn (g _ _ s l H _ I h) λy s1⟨z,w,c,r,E,q,j⟩=>⟨c.kIn,vi F u v n j c r q⟩) i b) a)
end
section
variable{X:Cx}{pins:List (Addr×Obj)}{σ:St}{H:Hp}{s:Shared}{e:Addr}
def Inv.afL{g:HO}(I:Inv X pins σ H s)(f:FpX X pins H e)(new:cL X.prog X.w (upd H e g) s.heap e g):Inv X pins σ (upd H e g) s:=by
 have d:∀b u,H b=some u->b≠e:=λb u q z=>by rw[z,f.1]at q;cases q
 have:=I.ad6 (H':=upd H e g) (d':=s.drawn) (t':=s.toks) (λb a=>by rw[apZ.mp a];exact⟨f.2.2.2.1,f.2.1,f.2.2.2.2.1,f.2.2.2.2.2⟩) (λb o _ _ _ q _=>q) (λb o _ _ _ q _=>⟨o.slots,q⟩) (λb o a _ n=>by rw[ae λz=>a (by grind)];exact n) (λb o _ q=>⟨o,q⟩) (λb i q=>by rw[ae (d b _ q)];exact q) (λb o u q=>by rw[ae (d b _ q)];exact q) (λb j q=>⟨#[],by rw[ae (d b _ q),q];simp⟩) (λm h=>h) (λb u q=>by
   by_cases a:b=e;.subst a;rw[ah]at q;cases q;exact new
   .rw[ae a]at q;exact(I.hok b u q).u0 (λ_ _ _ z=>z) (λc z=>by rw[ae (d c _ z)];exact z) λc i z=>by rw[ae (d c _ z)];exact z) I.bare;exact this
end
section
variable{X:Cx}{t:TA}{x:Str}{C:Addr}{np cpos pos:Pos}{e:Expr}{es:List Expr}
noncomputable abbrev gy:List Value:=[.type "ValueError",.type "Exception",.type "BaseException",.type "object"]
def ai7(X:Cx)(C:Addr)(t:TA):TS:=λ_ f H=>t f H λd c=>d.length<=sizeLine/\∀a s e b,c b=none->Thr X a f (upd c b (.tup d)) s e C (none,.ref b,.none) .none none->X.xe (.ref e) s
def jv(K:W.Frag)(C:Addr)(r:Option Value):Prop:=∃c b f l bs h j sub i a d g k1 k2 k3 k,K.lookup C=some (excClassObj f l C b bs c h j sub i a d g k1 k2 k3 k "ValueError.__new__")/\(W.tailIn K gy c&&W.nsOkIn K b&&W.nsIn K b "__init__"==some r)=true
def jv.mk{K C r bm ns nm b bs a sn sub ab col dd k0 k1 k2 k3 k5}(h:K.lookup C=some (excClassObj nm b C ns bs bm a sn sub ab col dd k0 k1 k2 k3 k5 "ValueError.__new__"))(q:(W.tailIn K gy bm&&W.nsOkIn K ns&&W.nsIn K ns "__init__"==some r)=true):jv K C r:=⟨_,_,_,_,_,_,_,_,_,_,_,_,_,_,_,_,h,q⟩
def jv.out{K:W.Frag}{h:Heap}{r}{P:Prop}(X:K.In h)(q:jv K C r)(k:∀c b f n bs i l sub j a d g k1 k2 k3 m,h.get? C=some (excClassObj f n C b bs c i l sub j a d g k1 k2 k3 m "ValueError.__new__")->W.nsOkIn K b=true->W.nsIn K b "__init__"=some r->OwnTail h gy c->P):P:=by obtain⟨c,b,f,n,bs,i,l,sub,j,a,d,g,k1,k2,k3,m,o,q⟩:=q;simp only[apk,ap2]at q;exact k _ _ _ _ _ _ _ _ _ _ _ _ _ _ _ _ (X _ _ o) q.1.2 q.2 (W.tail_of_in X q.1.1)
def akS{K:W.Frag}{h:Heap}{d:Str->Option Value}(X:K.In h)(e:d x=some (.ref C))(q:jv K C none):OwnCls x C gy "ValueError.__new__" d h:=q.out X λk i j r bs m o sub n b f l k1 k2 k3 p g a c t=>⟨e,k,i,j,r,bs,m,o,sub,n,b,f,l,k1,k2,k3,p,_,g,.of_isNs (W.isNs_of_in X a),W.nsMap_none_of_in X a c,t⟩
def xM(G:X.calm=true)(Q:Gl X x)(w:X.mg x=some (.ref C))(q:jv X.K C none)(K:PA X (e::es) t)(J:Dbg x:=by decide)(l:SE X e es:=by rfl)(a:BT X cpos es:=by rfl):PS X (.Raise (some (.Call (.Name x np) (e::es) [] cpos)) none pos) (ai7 X C t):=by
 intro b s A H D I h;obtain⟨O,N,nm,R,bs,hdct,sn,sub,ab,col,dd,k0,k1,k2,k3,k5,mN,E,B,k,T⟩:=(akS (x:=x) I.mod.kin w q).obj;refine wpAny_Raise_call_subT (C:=C) (nm:=nm) (q:=R) (N:=N) (bs:=bs) (bm:=O) (hdct:=hdct) (sn:=sn) (sub:=sub) (ab:=ab) (col:=col) (dd:=dd) (k0:=k0) (k1:=k1) (k2:=k2) (k3:=k3) (k5:=k5) apX (mN:=mN) (T.hasType apX.hasBase) (I.ok.hd G) (by rw[l];show(false||(backTo cpos _).any (·.1))=false;rw[a];rfl) k (cE I Q w ⟨rfl,?_⟩ J);have p:=K cpos b s A H _ I h;rw[l]at p⊢;refine aro (thn p λM s2⟨U,i,c,r2,m,q2⟩=>⟨rfl,by rw[<-r2.length];exact m,c.bk _ _ E,B.keeps c.bk,T.keeps c.bk,λS ea g=>?_⟩);refine jV g.there λf j n r=>?_;have y:i ea=none:=by cases z:i ea with|none=>rfl|some u=>obtain⟨o,d⟩:=eB (c.hok ea u z);rw[g.new]at d;cases d
 have v:i f=none:=by cases z:i f with|none=>rfl|some u=>obtain⟨o,d⟩:=eB (c.hok f u z);rw[n]at d;cases d
 have P:ea≠f:=λz=>by rw[z,r]at j;cases j
 refine q2 b _ ea f v ⟨(c.kept (t':=s2.toks) g.keeps).afL (c.fpX n v) ⟨m,M,r2,_,r,rfl,_,rfl⟩,⟨_,_,j,rfl,rfl,rfl,rfl,rfl,rfl⟩,c.fpX g.new (by rw[ae P];exact y),λt z=>by cases z⟩
end
abbrev Cx.sui(X:Cx)(e:Addr):Cx:={X with A:=X.A.mark (some (.ref e)),calm:=false,xe:=λ_ _=>False}
def Cx.Ok.gP{X:Cx}{E a}(ok:(X.tri E a).Ok):X.Ok:=⟨ok.mod,ok.kind,ok.glob,ok.blt,ok.above,ok.inj,ok.has,ok.cab,ok.hd,ok.frames,ok.stk,ok.exf,ok.bs,ok.bsz,ok.noex,ok.exfs,ok.sf,ok.frf⟩
theorem Cx.Ok.sui{X:Cx}(ok:X.Ok)(e):(X.sui e).Ok:=⟨ok.mod,ok.kind,ok.glob,ok.blt,ok.above,ok.inj,ok.has,ok.cab,λz=>by grind,ok.frames,ok.stk,ok.exf,ok.bs,ok.bsz,ok.noex,ok.exfs,ok.sf,ok.frf⟩
section
variable{X:Cx}{pins pins':List (Addr×Obj)}{σ:St}{H:Hp}{s:Shared}{E:Value->Shared->Prop}
theorem Inv.gP(I:Inv (X.tri E (X.pn++pins)) pins' σ H s):Inv X pins σ H s:=⟨I.ok.gP,I.os,I.bare,I.base,I.loc,I.cell,I.free,I.freeC,λp a=>I.pin p (apH _ a),I.hok,I.len⟩
theorem Inv.sui(I:Inv X pins σ H s)(e):Inv (X.sui e) pins σ H s:=⟨I.ok.sui e,I.os,I.bare,I.base,I.loc,I.cell,I.free,I.freeC,I.pin,I.hok,I.len⟩
def Inv.back(I:Inv X pins σ H s){e}{a:St}{H' s'}(J:Inv (X.sui e) pins a H' s'):Inv X pins a H' s':=⟨I.ok,J.os,J.bare,J.base,J.loc,J.cell,J.free,J.freeC,J.pin,J.hok,J.len⟩
def FpX.gP{b}(h:FpX (X.tri E (X.pn++pins)) pins' H b):FpX X pins H b:=⟨h.1,h.2.1,h.2.2.1,h.2.2.2.1,h.2.2.2.2.1,λp a=>h.2.2.2.2.2 p (apH _ a)⟩
theorem Thr.gP{e C dx a T}(t:Thr (X.tri E (X.pn++pins)) pins' σ H s e C dx a T):Thr X pins σ H s e C dx a T:=⟨t.inv.gP,t.trc,t.fe.gP,λb c=>(t.fT b c).gP⟩
theorem SP.gP{D f s'}(h:SP (X.tri E (X.pn++pins)) pins' D f s'):SP X pins D f s':=by cases f with|next|brk|cont=>obtain⟨b,a,I,q⟩:=h;exact⟨_,a,I.gP,q⟩|ret u=>refine aag h λv b a I r q=>?_;exact agA v _ a I.gP r q
end
section
variable{X:Cx}{pins:List (Addr×Obj)}{σ:St}{H:Hp}{s:Shared}{e Ce C:Addr}{dx:DX}{fl:Value}{T:Addr}{x n:Str}{np hpos:Pos}{b0:Stmt}{suite:List Stmt}{Q:Flow->Shared->Prop}{E:Value->Shared->Prop}
def Thr.ty(t:Thr X pins σ H s e Ce dx fl (some T)){M}:W.Looks M s.heap (typeOf (.ref e)) (.ref Ce):=by obtain⟨c,d,b,a,_,_⟩:=t.trc.there;exact a▸(W.Looks.ld b).andThen .now
def acx(t:Thr X pins σ H s e Ce dx fl (some T))(h:Gl X x)(b:X.mg x=some (.ref C))(d:W.exmOne X.K (.ref Ce) (.ref C)=some true)(k:∀a,Thr X pins σ H {s with heap:=a} e Ce dx .none (some T)->wpAny (model X.prog X.w) (X.A.mark (some (.ref e))) (storeName X.env n (.ref e)) (λ_ s2=>wpAny (model X.prog X.w) (X.A.mark (some (.ref e))) (execs (b0::suite) X.env) (λf s3=>wpAny (model X.prog X.w) X.A (do bindName X.env n .none;unbindBehindTheSuite X.env n hpos) (λ_ s4=>Q f s4) E s3) (λ_ _=>False) s2) (λ_ _=>False) {s with heap:=a})(g:Dbg x:=by decide):wpAny (model X.prog X.w) X.A (handleBy (.ref e) X.env [.ExceptHandler (some (.Name x np)) (some n) (b0::suite) hpos]) Q E s:=by refine wpAny_handleBy_cons (codeAny_handlers_test (cE (X:=X.sui e) (t.inv.sui e) h b ?_ g)) (by intro q;cases q);refine(W.exm_one t.inv.kIn t.ty d).here ?_;refine arZ (t.qg λa c=>?_);exact apn (k a c) (λ_ s2 q=>apn q (λ_ _ z=>z) λ_ _ z=>z.elim) λ_ _ z=>z.elim
def tR{i:Nat}(I:Inv X pins σ H s)(hN:X.N.Nodup)(hi:X.N[i]?=some n)(hl:X.env.scope.names.lookup n=some .local){Q:Unit->Shared->Prop}(h:∀P,Inv X pins (σ.set i none) H P->(∀b,b≠X.env.locals->P.heap.get? b=s.heap.get? b)->Q () P){A:Around}:wpAny (model X.prog X.w) A (do bindName X.env n .none;unbindBehindTheSuite X.env n hpos) Q E s:=by
 obtain⟨m,S,J⟩:=id I.loc;have B:(X.env.scope.kind==.class||X.env.scope.kind==.module&&X.env.locals !=X.env.globals)=false:=by rw[I.ok.kind];rfl
 refine wpAny_nameGoes_keeps hl S B λh' v N a=>h _ ?_ a.2;obtain⟨oL,_,_,Z,_⟩:=id S;have R:∀b o,X.s₀.heap.get? b=some o->b≠X.env.locals:=λb o e=>api (apd (ape e) I.ok.above);refine⟨I.ok,I.os,I.bare,⟨λb o e n M w=>(a.2 b (R b o e)).trans (I.base.keep b o e n M w),λb o e n M w=>?_,I.base.free,λb o e w=>?_,I.base.tups,I.base.frzs,I.base.tbls⟩,⟨_,N,λj y v' g f e3=>?_⟩,λy c e=>?_,I.free,I.freeC,λp hp=>?_,λb ob e=>?_,by simpa using I.len⟩;.obtain⟨sl,g⟩:=I.base.slot b o e n M w;exact⟨sl,(a.2 b (R b o e)).trans g⟩
 .obtain⟨o',g⟩:=I.base.there b o e w;exact⟨o',(a.2 b (R b o e)).trans g⟩
 .have t:i≠j:=λz=>by
   subst z;by_cases Y:i<σ.length;.rw[apc Y]at f;cases f
   .rw[List.getElem?_eq_none (by simpa using Y)]at f;cases f
  rw[ao5 t]at f;obtain⟨u,r,l⟩:=J j y v' g f e3;refine⟨u,r,?_⟩;have hy:y≠n:=λz=>by subst z;exact t (qY hN hi g)
  rcases l with⟨k,l⟩|⟨k,c,U,z⟩;.exact .inl ⟨k,by show(if y=n then v else m y)=some u;rw[ao9 hy];exact l⟩
  .refine .inr ⟨k,c,U,?_⟩;obtain⟨o,O,K⟩:=z;exact⟨o,(a.2 c (I.cne y c U)).trans O,K⟩
 .obtain⟨v,o,O,K⟩:=I.cell y c e;exact⟨v,o,(a.2 c (I.cne y c e)).trans O,K⟩
 .obtain⟨e,n,D,nf,d⟩:=I.pin p hp;exact⟨(a.2 p.1 D).trans e,n,D,nf,d⟩
 .refine(I.hok b ob e).u0 (λc w' G q=>(a.2 c ?_).trans q) (λ_ q=>q) λ_ _ q=>q;rintro rfl;rcases G with rfl|G;.rw[I.free]at e;cases e
  .rw[I.free]at G;cases G
def x8{i:Nat}(I:Inv X pins σ H s)(b:X.N.Nodup)(c:X.N[i]?=some n)(d:X.env.scope.names.lookup n=some .local){Q:Unit->Shared->Prop}(h:∀a,Inv X pins (σ.set i none) H a->Q () a){A:Around}:wpAny (model X.prog X.w) A (do bindName X.env n .none;unbindBehindTheSuite X.env n hpos) Q E s:=tR I b c d λa J _=>h a J
def excAt(a C:Addr)(dx:DX)(h:Heap):Prop:=∃b c,h.get? a=some b/\b.cls=.ref C/\b.dict=dx.1/\b.data=.fields c/\c[2]?=some dx.2.2/\c[0]?=some dx.2.1
def Thr.known(t:Thr X pins σ H s e Ce dx fl (some T)):Inv X pins σ (upd H e (.ext (excAt e Ce dx))) s:=by
 have I:=t.inv;have g:=t.fe;have f:∀b u,H b=some u->b≠e:=λb u q z=>by rw[z,g.1]at q;cases q
 have:=I.ad6 (h':=s.heap) (H':=upd H e (.ext (excAt e Ce dx))) (g':=s.gens) (d':=s.drawn) (t':=s.toks) (ch:=[e]) (λb d=>by rw[apZ.mp d];exact⟨g.2.2.2.1,g.2.1,g.2.2.2.2.1,g.2.2.2.2.2⟩) (λb o _ _ _ q _=>q) (λb o _ _ _ q _=>⟨o.slots,q⟩) (λb o d _ n=>by rw[ae λz=>d (by rw[z];exact apu)];exact n) (λb o _ q=>⟨o,q⟩) (λb w q=>by rw[ae (f b _ q)];exact q) (λb o u q=>by rw[ae (f b _ q)];exact q) (λb B q=>⟨#[],by rw[ae (f b _ q),q];simp⟩) (λm A=>A) (λb u q=>by
   by_cases d:b=e;.subst d;rw[ah]at q;cases q;obtain⟨l,j,h,p,y,v⟩:=t.trc.there;exact⟨⟨l,j,h,p,y,v⟩,⟨l,h⟩,λh p i k=>by obtain⟨o,j,a,r⟩:=i;exact⟨o,j,k o a,r⟩⟩
   .rw[ae d]at q;exact(I.hok b u q).u0 (λ_ _ _ z=>z) (λc z=>by rw[ae (f c _ z)];exact z) λc w z=>by rw[ae (f c _ z)];exact z) I.bare;exact this
end
end L2
namespace L2
open PySem PySem.Spec PyProof.Rows
open PySem.W(findIn mroIn findObj specialIn takesIn clsIn hasDictIn KitX looks_findIn looks_mroIn looks_find)
section
variable{prog:Program}{w:World}{A:Around}{E:Value->Shared->Prop}{s:Shared}{K:W.Frag}{x D:Addr}{ox:Obj}{od:Option Obj}{name:Str}
def acO{nm:Value}{Q:Unit->Shared->Prop}(X:K.In s.heap)(I:W.InstAt s.heap x ox D od)(b:mroIn K D (.type "BaseException")=some true)(c:Q () s):wpAny (model prog w) A (checkBuiltinCall "BaseException.__getattribute__" ⟨[.ref x,nm],[]⟩) Q E s:=by
 have f:builtinKind "BaseException.__getattribute__"=some .slot:=by decide+kernel
 have a:splitId "BaseException.__getattribute__"=some ("BaseException","__getattribute__"):=by decide+kernel
 have h:=F.args_bexc_ga (.ref x) nm;have e:W.Looks (model prog w) s.heap (isInstance (.ref x) (.type "BaseException")) true:=I.type.andThen (looks_mroIn X b);obtain⟨i,g,d,t,os⟩:=s;simp only[checkBuiltinCall,f,a];refine ao3 (e.at ?_);repeat(first|wp_step)
 exact c
def agq{tk:Tok}{fill a:Bool}{Q:Value->Shared->Prop}(X:K.In s.heap)(I:W.InstAt s.heap x ox D od)(f:findIn K (.ref D) "__getattribute__"=some (some (.builtin "BaseException.__getattribute__")))(b:findIn K (.ref D) "__getattr__"=some none)(m:mroIn K D (.type "BaseException")=some true)(h:∀n,wpAny (model prog w) n (Builtin.«object.__getattribute__» ⟨[.ref x,.str name tk],[]⟩) (λfin i=>match fin with|.done (.ret v)=>wpAny (model prog w) A (handedOut v) Q E i|_=>False) (λ_ _=>False) s):wpAny (model prog w) A (getAttrBy (.ref x) (.str name tk) fill a) Q E s:=by
 have o:=I.type (M:=model prog w);have l:=looks_findIn (M:=model prog w) X f;have j:=looks_findIn (M:=model prog w) X b;have k:=F.excAttr_ValueError.ga.bind (.ref x);have e:(a&&onTheHeap (Value.builtin "BaseException.__getattribute__"))=false:=by cases a<;>rfl
 have c:(Value.builtin "BaseException.__getattribute__"==Value.builtin "object.__getattribute__")=false:=by decide+kernel
 obtain⟨p,g,d,t,os⟩:=s;unfold getAttrBy;refine apO (ao3 (o.at (ao3 (l.at ?_))));dsimp only;rw[c,Bool.and_false,ao9 (by decide)];unfold getAttrByItsOwn hookBefore;rw[apa (show onTheHeap (Value.ref D)=true from rfl)];refine ao3 (j.at (ao3 (arO (apO ?_))));unfold callGetattribute boundAndCalled;rw[e,ao9 (by decide),k];refine ao3 (ao7 (aqm (aqN F.excAttr_ValueError.ga.plain F.entry_bexc_ga (acO X I m (apn (h _) (λfin i z=>?_) λ_ _ z=>z.elim)))));rcases fin with(_|_|_|_)|_<;>first|exact z|exact z.elim
def oZ{g a:Value}{tk:Tok}{P:Value->Shared->Prop}(X:K.In s.heap)(I:W.InstAt s.heap x ox D od)(e:findObj K D od name=some (.bind g a))(h:wpAny (model prog w) A (call g [a,.ref x,.ref D]) P E s):wpAny (model prog w) A (Builtin.«object.__getattribute__» ⟨[.ref x,.str name tk],[]⟩) (λfin b=>match fin with|.done (.ret v)=>P v b|_=>False) E s:=by have f:=I.type (M:=model prog w);have c:=looks_find (M:=model prog w) X I e;obtain⟨j,i,d,t,os⟩:=s;refine ao3 (ao7 (ao3 (ao7 (ao3 (f.at (ao3 (c.at ?_)))))));show wpAny _ _ (holding [a] (call g [a,.ref x,.ref D])>>=ret) _ _ _;exact ao3 (apO (apn h (λv b z=>ao7 z) λ_ _ z=>z))
def rD{v:Value}{tk:Tok}{P:Value->Shared->Prop}(X:K.In s.heap)(I:W.InstAt s.heap x ox D od)(b:findObj K D od name=some (.value v))(h:P v s):wpAny (model prog w) A (Builtin.«object.__getattribute__» ⟨[.ref x,.str name tk],[]⟩) (λfin a=>match fin with|.done (.ret v)=>P v a|_=>False) E s:=by have c:=I.type (M:=model prog w);have e:=looks_find (M:=model prog w) X I b;obtain⟨g,f,d,t,os⟩:=s;refine ao3 (ao7 (ao3 (ao7 (ao3 (c.at (ao3 (e.at ?_)))))));exact ao7 h
structure ExcK(K:W.Frag)(D:Addr):Prop where
 cls:(clsIn K D).isSome=true
 ga:findIn K (.ref D) "__getattribute__"=some (some (.builtin "BaseException.__getattribute__"))gn:findIn K (.ref D) "__getattr__"=some none
 mb:mroIn K D (.type "BaseException")=some true
 mo:mroIn K D (.type "object")=some true
 cl:findIn K (.ref D) "__class__"=some (some (.builtin "object.__class__"))hn:specialIn K (.builtin "object.__class__") "__get__"=some (some (.builtin "getset_descriptor.__get__"))tk:takesIn K (.builtin "object.__class__")=some true
def ExcK.findCls(k:ExcK K D):findObj K D od "__class__"=some (.bind (.builtin "getset_descriptor.__get__") (.builtin "object.__class__")):=by obtain⟨b,a⟩:=apT.mp k.cls;unfold findObj;rw[a,aqO,k.cl,aqO];simp[k.hn,k.tk]
def acN{Q:Option Value->Shared->Prop}(k:ExcK K D)(X:K.In s.heap)(I:W.InstAt s.heap x ox D od)(h:Q (some (.ref D)) {s with toks:=s.toks+1}):wpAny (model prog w) A (getAttr? (.ref x) "__class__") Q E s:=by unfold getAttr? getAttrBy?;refine ao3 (wpAny_mkText (ao3 (arO ?_)));refine agq (s:={s with toks:=s.toks+1}) X I k.ga k.gn k.mb λa=>?_;refine oZ (s:={s with toks:=s.toks+1}) X I k.findCls ?_;refine aqm (W.class_get (s:={s with toks:=s.toks+1}) (ox:=ox) (od:=od) X I k.mo ?_);exact ao7 (ao7 h)
def ae9{v:Value}{a:Bool}{Q:Value->Shared->Prop}(k:ExcK K D)(X:K.In s.heap)(I:W.InstAt s.heap x ox D od)(c:findObj K D od name=some (.value v))(b:W.handedIn v=true)(h:Q v {s with toks:=s.toks+1}):wpAny (model prog w) A (getAttr (.ref x) name a) Q E s:=by unfold getAttr;refine ao3 (wpAny_mkText ?_);refine agq (s:={s with toks:=s.toks+1}) X I k.ga k.gn k.mb λd=>?_;refine rD (s:={s with toks:=s.toks+1}) X I c ?_;rw[W.handedOut_of b];exact ao7 h
def afw(x D:Addr)(h:Heap):Prop:=∃ox od,W.InstAt h x ox D od
set_option tactic.hygienic true in
def aeM(k:ExcK K D):KitX K (.ref x) (.ref D) (afw x D)where
 ty:=λ_ _ _ h0_=>by obtain⟨_,_,I⟩:=h0_;exact I.type
 it:=λ_ _ X _=>by
  obtain⟨cdD,hcD⟩:=apT.mp k.cls;unfold clsIn at hcD;split at hcD;.rename_i c' d' cd' sl' ho;intro A' Q' E' s' k q;unfold isType loadHead;exact ao3 (arB (k _ _ (X _ _ ho)) (ao7 q))
  .cases hcD
 ne:=λh tp dd its n sl X htp=>by
  obtain⟨cdD,hcD⟩:=apT.mp k.cls;refine Bool.eq_false_iff.mpr λq=>?_;have e:D=tp:=Value.ref.inj (ap2.mp q);subst e;unfold clsIn at hcD;split at hcD;.rename_i c' d' cd' sl' ho;have z:=(X _ _ ho).symm.trans htp;cases z
  .cases hcD
 ca:=λX h0_ q=>by obtain⟨_,_,I⟩:=h0_;exact acN k X I q
end
end L2
namespace L2
open PySem PySem.Spec PyProof.Rows
noncomputable abbrev dz(C:Addr)(dx:Option Addr)(a0:Value):Obj:={cls:=.ref C,dict:=dx,data:=.fields #[a0,.none,.none,.none,.bool false,.none]}
def lU(e C:Addr)(dx:Option Addr)(a0:Value)(h:Heap):Prop:=h.get? e=some (dz C dx a0)
section
variable{prog:Program}{w:World}{A:Around}{E:Value->Shared->Prop}
variable{nm q:Str}{C N:Addr}{bs bm bmB:List Value}{hdct:Bool}{sn:List Str}{sub:List Value}{ab:Bool}{col:Option Bool}{dd:Option Addr}{k0 k1 k2 k3 k5:Option Value}{B newId initId:String}
variable{h:Heap}{g:Array GenState}{d:Drawn}{t:Nat}{os:OsState}
def mz(F:ExcBaseFacts B newId initId bmB)(T:OwnTail h bmB bm){mN:Str->Option Value}{rest:List Value}{fI:Addr}{p:Obj}{Q:Fin->Shared->Prop}(k:h.get? C=some (excClassObj nm q C N bs bm hdct sn sub ab col dd k0 k1 k2 k3 k5 newId))(y:h.Ns N mN)(z:mN "__init__"=some (.ref fI))(l:h.get? fI=some p)(m:p.cls=.type "function")(G:∀h' e,Heap.MadeExcOf h h' e (.ref C) rest->wpAny (model prog w) A (call (.ref fI) (.ref e::rest)) (λr s=>r=.none/\Q (.done (.ret (.ref e))) s) E ⟨h',g,d,t,os⟩)(hrest:rest.length<=sizeLine:=by size_fits):wpAny (model prog w) A (Builtin.«type.__call__» ⟨.ref C::rest,[]⟩) Q E ⟨h,g,d,t,os⟩:=by
 repeat(first|with_reducible refine arV k ?_|with_reducible refine wpAny_madeBy_exc k ?_|wp_step)
 refine codeAny_call_builtin_code (aqY _ F.quiet) (wpAny_check_new_subT F T k ?_);refine codeAny_exc_new_subT F T k ?_ hrest;show wpAny _ _ _ _ _ _;have a:=ao4 {cls:=.ref C,data:=.fields #[.ref h.objs.size,.none,.none,.none,.bool false,.none]} (ao4 {cls:=.type "tuple",data:=.seq rest.toArray} k);have c:=ao4 {cls:=.ref C,data:=.fields #[.ref h.objs.size,.none,.none,.none,.bool false,.none]} (ao4 {cls:=.type "tuple",data:=.seq rest.toArray} l);have i:((h.push {cls:=.type "tuple",data:=.seq rest.toArray}).push {cls:=.ref C,data:=.fields #[.ref h.objs.size,.none,.none,.none,.bool false,.none]}).Ns N mN:=let⟨o,u,v,e,r⟩:=y;adM o u v (ao4 _ (ao4 _ e)) r;have f:((h.push {cls:=.type "tuple",data:=.seq rest.toArray}).push {cls:=.ref C,data:=.fields #[.ref h.objs.size,.none,.none,.none,.bool false,.none]}).get? (h.objs.size+1)=some {cls:=.ref C,data:=.fields #[.ref h.objs.size,.none,.none,.none,.bool false,.none]}:=by heap_get
 have n:(Value.ref C::bm).contains (.ref C)=true:=by simp
 have j:=T.keeps (h':=(h.push {cls:=.type "tuple",data:=.seq rest.toArray}).push {cls:=.ref C,data:=.fields #[.ref h.objs.size,.none,.none,.none,.bool false,.none]}) λb o e=>ao4 _ (ao4 _ e);unfold isInstance;repeat(first|with_reducible refine arV f ?_|(with_reducible refine ary a ?_;rw[n])|wp_step)
 show wpAny _ _ (typeLookup (.ref C) _) _ _ _;refine wpAny_typeLookup_tail a i j F.mroIs F.init.lookup ?_;rw[z];refine apO (ao3 ?_);unfold bindSpecial;refine ao3 (wpAny_typeOf (T:="function") ⟨_,c,m⟩ ?_);rw[apa (by decide)];refine ao7 (ao3 (apn (G _ (h.objs.size+1) ⟨λb o I=>ao4 _ (ao4 _ I),apW (aqz _),h.objs.size,f,apW (ao6 _),?_⟩) (λr s H=>?_) λ_ _ x=>x));.exact ao4 _ (Heap.get?_push_at rfl rfl)
 .obtain⟨rfl,D⟩:=H;wp_walk;exact D
def aaa(F:ExcBaseFacts B newId initId bmB)(T:OwnTail h bmB bm){mN:Str->Option Value}{rest:List Value}{fI:Addr}{i:Obj}{Q:Value->Shared->Prop}(b:h.get? C=some (excClassObj nm q C N bs bm hdct sn sub ab col dd k0 k1 k2 k3 k5 newId))(j:h.Ns N mN)(l:mN "__init__"=some (.ref fI))(c:h.get? fI=some i)(f:i.cls=.type "function")(n:∀a e,Heap.MadeExcOf h a e (.ref C) rest->wpAny (model prog w) (A.under (.builtin "type.__call__" ⟨.ref C::rest,[]⟩)) (call (.ref fI) (.ref e::rest)) (λr k=>r=.none/\Q (.ref e) k) E ⟨a,g,d,t,os⟩)(hrest:rest.length<=sizeLine:=by size_fits):wpAny (model prog w) A (call (.ref C) rest) Q E ⟨h,g,d,t,os⟩:=by
 have o:=tc_lookup;have s:=tc_bind (.ref C);have p:(⟨h,g,d,t,os⟩:Shared).TypeIs (.ref C) "type":=⟨_,b,rfl⟩;refine aqm (codeAny_of_tree ?_);show wpAny _ _ (callAny (.ref C) _) _ _ _;repeat(any_goals(first|assumption|with_reducible refine arV b ?_|wp_step))
 refine⟨rfl,?_⟩;refine codeAny_call_builtin_at (aqY _ (by decide+kernel)) entry_typeCall (wpAny_check_type_call_sub b (mz (hrest:=hrest) F T b j l c f λa e m=>?_));exact n a e m
end
end L2
namespace L2
open PySem PySem.Spec PyProof.Rows
open PySem.W(findIn mroIn findObj specialIn takesIn clsIn hasDictIn looks_findIn looks_mroIn looks_find InstAt)
def kS(a):refuseLoop a "__setattr__" gy=pure ():=by kernel_rfl
structure ExcS(K:W.Frag)(C:Addr):Prop where
 k:ExcK K C
 m:∃cd,clsIn K C=some cd/\cd.hasDict=true/\(cd.mro=.ref C::gy\/∃D:Addr,cd.mro=.ref C::.ref D::gy)sa:findIn K (.ref C) "__setattr__"=some (some (.builtin "object.__setattr__"))
section
variable{prog:Program}{w:World}{A:Around}{E:Value->Shared->Prop}{s:Shared}{K:W.Frag}{x C:Addr}{ox:Obj}{od:Option Obj}{name:Str}{v:Value}{R:Result->Shared->Prop}
def abK{tk}(k:ExcS K C)(X:K.In s.heap)(I:InstAt s.heap x ox C od)(g:findIn K (.ref C) name=some none)(h:∀b,wpAny (model prog w) A.in1 (Builtin.ObjectAttr.storeInOwnDict (.ref x) (.ref C) (.str name tk) name v b) (λfin a=>match fin with|.done f=>R (.ok f) a|.again c'=>c'.quiet=true/\codeAny (model prog w) A c' R a) (λe a=>R (.error e) a) s):codeAny (model prog w) A (.call (.builtin "object.__setattr__") ⟨[.ref x,.str name tk,v],[]⟩) R s:=by
 have SF:=PySem.F.store_object;refine jV k.m λc i _ j=>?_;refine aqN SF.slot.plain SF.entry (@W.check_slot (model prog w) _ _ s "object.__setattr__" "object" "__setattr__" (.ref x) _ [] _ SF.kind SF.split (I.type.andThen (looks_mroIn X k.k.mo)) (SF.args (.ref x) _ v) ?_);have d:W.Looks (model prog w) s.heap (mroOf (.ref C)) c.mro:=(arM X i).andThen .now;rw[W.osa_eq,refuse_eq];refine ao3 (ao3 (I.type.here (ao3 (d.here ?_))));rw[show refuseLoop (.ref x) "__setattr__" c.mro=pure ()from by
 rcases j with e|⟨D,e⟩;.rw[e,asu,kS]
 .rw[e,asu,asu,kS]];refine ao7 (ao3 (I.type.here (ao3 ((looks_findIn X g).here (ao3 (ao7 ?_))))));exact h _
def rC{a0 Q}(k:ExcS K C)(X:K.In s.heap)(a:s.heap.get? x=some (dz C none a0))(p:findIn K (.ref C) name=some none)(h:∀d,Heap.SameBut s.heap.objs.size ((s.heap.push W.emptyDict).update x λo:Obj=>{o with dict:=some s.heap.objs.size}) d->d.Ns1 s.heap.objs.size (λy=>if y=name then some v else none)->Q () {s with heap:=d,toks:=s.toks+2}):wpAny (model prog w) A (setAttr (.ref x) name v) Q E s:=by have I:InstAt s.heap x (dz C none a0) C none:=⟨a,rfl,rfl,True.intro⟩;refine W.set_plain X I k.sa (abK (s:={s with toks:=s.toks+1}) k X I p λb=>?_);refine jV k.m λJ u z _=>?_;unfold Builtin.ObjectAttr.storeInOwnDict;refine ao3 (ao7 (ao3 (ao3 (arB a (ao3 (W.Looks.here (s:={s with toks:=s.toks+1}) (arM X u) ?_))))));rw[z];rw[ao9 (by decide)];have g:=ao4 (h:=s.heap) W.emptyDict a;have hd1:(s.heap.push W.emptyDict).get? s.heap.objs.size=some W.emptyDict:=apg s.heap rfl;have B:s.heap.objs.size≠x:=apK (ape a);refine ao3 (wpAny_alloc (ao3 (wpAny_update (o:=dz C none a0) g (ao7 ?_))));have m:∀b,b≠x->((s.heap.push W.emptyDict).update x λo:Obj=>{o with dict:=some s.heap.objs.size}).get? b=(s.heap.push W.emptyDict).get? b:=λb G=>apl _ _ (aph G);have j:=(m _ B).trans hd1;have q:((s.heap.push W.emptyDict).update x λo:Obj=>{o with dict:=some s.heap.objs.size}).Ns s.heap.objs.size λ_=>none:=r9 W.emptyDict #[] _ j rfl (λe a=>absurd a (by simp)) λ_=>rfl;unfold Builtin.ObjectAttr.storeInDict;refine ao3 (ao7 (ao3 ?_));refine wpAny_nsSet1 (arS q) λd c l=>?_;refine aag (c.count (ns:=[name]) (arR name v λy t=>absurd rfl t)) λH D r i n f=>?_;refine ao3 (ar6 i (by rw[n];exact ar7 (apb f (by rw[apj,asp,aqo];omega))) ?_);exact ao7 (h _ l c)
def uw{a0 d g ns Q}(k:ExcS K C)(X:K.In s.heap)(o:s.heap.get? x=some (dz C (some d) a0))(p:s.heap.Ns1 d g)(t:findIn K (.ref C) name=some none)(hw:PySem.Within g ns)(hz:ns.length<=100)(h:∀f,Heap.SameBut d s.heap f->f.Ns1 d (λy=>if y=name then some v else g y)->Q () {s with heap:=f,toks:=s.toks+2}):wpAny (model prog w) A (setAttr (.ref x) name v) Q E s:=by refine wN (id p) λm r q c _=>?_;have I:InstAt s.heap x (dz C (some d) a0) C (some m):=⟨o,rfl,rfl,c⟩;refine W.set_plain X I k.sa (abK k X I t λb=>?_);refine jV k.m λH z B _=>?_;unfold Builtin.ObjectAttr.storeInOwnDict;refine ao3 (ao7 (ao3 (ao3 (arB o (ao3 (W.Looks.here (s:={s with toks:=s.toks+1}) (arM X z) ?_))))));rw[B,ao9 (by decide)];refine ao7 (a:=some d) ?_;unfold Builtin.ObjectAttr.storeInDict;refine ao3 (ao7 (ao3 ?_));refine wpAny_nsSet1 p λf e l=>?_;refine aag (e.count (arR name v hw)) λG D u j n i=>?_;refine ao3 (ar6 j (by rw[n];exact ar7 (apb i (by rw[apj,aqo];omega))) ?_);exact ao7 (h _ l e)
end
end L2
namespace L2
open PySem PySem.Spec PyProof.Rows
section
variable{prog:Program}{w:World}{A:Around}{E:Value->Shared->Prop}{h:Heap}{g:Array GenState}{d:Drawn}{t:Nat}{os:OsState}
variable{nm q:Str}{C N:Addr}{bs bm bmB:List Value}{hdct:Bool}{sn:List Str}{sub:List Value}{ab:Bool}{col:Option Bool}{dd:Option Addr}{k0 k1 k2 k3 k5:Option Value}{B newId initId:String}
def ado(F:ExcBaseFacts B newId initId bmB)(T:OwnTail h bmB bm){e:Addr}{dx:Option Addr}{a0:Value}{rest:List Value}{Q:Value->Shared->Prop}(i:h.get? C=some (excClassObj nm q C N bs bm hdct sn sub ab col dd k0 k1 k2 k3 k5 newId))(c:h.get? e=some (dz C dx a0))(hrest:rest.length<=sizeLine)(f:Q .none ⟨(h.push {cls:=.type "tuple",data:=.seq rest.toArray}).update e (Obj.mapFields λx=>x.setIfInBounds 0 (Value.ref h.objs.size)),g,d,t,os⟩):wpAny (model prog w) A (call (.builtin initId) (.ref e::rest)) Q E ⟨h,g,d,t,os⟩:=by
 refine aqm (aqN F.init.plain F.initEntry (wpAny_check_init_subT F T i c rfl ?_));wp_walk;have fin:∀b:Shared,b=⟨(h.push {cls:=.type "tuple",data:=.seq rest.toArray}).update e (Obj.mapFields λx=>x.setIfInBounds 0 (Value.ref h.objs.size)),g,d,t,os⟩->Q .none b:=λb z=>by subst z;exact f
 have go:∀v:Value,wpAny (model prog w) A.in1 (match v with|.ref a=>letGo [v]|x=>pure ()) (λ_ b=>b=⟨(h.push {cls:=.type "tuple",data:=.seq rest.toArray}).update e (Obj.mapFields λx=>x.setIfInBounds 0 (Value.ref h.objs.size)),g,d,t,os⟩) (λ_ _=>False) ⟨(h.push {cls:=.type "tuple",data:=.seq rest.toArray}).update e (Obj.mapFields λx=>x.setIfInBounds 0 (Value.ref h.objs.size)),g,d,t,os⟩:=λv=>by cases v<;>first|exact ao7 rfl|(wp_walk;rfl)
 refine apn (go _) (λ_ b z=>ao7 (fin b z)) λ_ _ z=>z.elim
end
end L2
namespace L2
open PySem PySem.Spec PyProof.Rows
open PySem.W(findIn InstAt)
def gC(d:Addr)(fs:List (Str×V))(h:Heap):Prop:=∃a,h.Ns1 d a/\(∀f,u3 (fs.lookup f) (a f))/\PySem.Within a (fs.map (·.1))
def aga{P w H h e C dx a0}(a:h.get? e=some (dz C dx a0)):cL P w H h e (.ext (lU e C dx a0)):=⟨a,⟨_,a⟩,λ_ _ q k=>k _ q⟩
def vw{P w H h d fs}(b:gC d fs h):cL P w H h d (.ext (gC d fs)):=by
 refine⟨b,?_,λl m⟨a,i,r,j⟩k=>⟨a,?_,r,j⟩⟩;.obtain⟨a,⟨o,_,_,e,_⟩,_⟩:=b;exact⟨o,e⟩
 .refine wN i λo f g e c=>?_;exact adM o f g (k _ e) c
section
variable{X:Cx}{pins:List (Addr×Obj)}{σ:St}{H:Hp}{s:Shared}{e C:Addr}{f:Str}{A:Around}{E:Value->Shared->Prop}
def yx(I:Inv X pins σ H s){dx a0}(q:H e=some (.ext (lU e C dx a0))):s.heap.get? e=some (dz C dx a0):=(I.hok e _ q).1
def yO{y u Q a0}(k:ExcS X.K C)(I:Inv X pins σ H s)(q:H e=some (.ext (lU e C none a0)))(G:findIn X.K (.ref C) f=some none)(K:RelV y u)(h:∀d w,H d=none->d≠e->Inv X pins σ (upd (upd H d (.ext (gC d [(f,y)]))) e (.ext (lU e C (some d) a0))) w->Q () w):wpAny (model X.prog X.w) A (setAttr (.ref e) f u) Q E s:=by
 have c:=yx I q;refine rC k I.kIn c G λh' n j=>h s.heap.objs.size _ (I.hok.fresh (ao6 _)) (apK (ape c)) ?_;have v:=apK (ape c);have m:=ao4 (h:=s.heap) W.emptyDict c;have hd1:(s.heap.push W.emptyDict).get? s.heap.objs.size=some W.emptyDict:=apg s.heap rfl;have M:(s.heap.push W.emptyDict).Ns s.heap.objs.size λ_=>none:=r9 W.emptyDict #[] _ hd1 rfl (λe c=>absurd c (by simp)) λ_=>rfl;have D:=I.laid (a:=s.heap.objs.size) (o:=.ext (gC s.heap.objs.size [])) (h':=s.heap.push W.emptyDict) (t':=s.toks) (λb u q=>ao4 _ q) (ao6 _) (vw ⟨_,arS M,λ_=>True.intro,λy J=>absurd rfl J⟩);have i:=apF (h:=s.heap.push W.emptyDict) (λo:Obj=>{o with dict:=some s.heap.objs.size}) m rfl;have p:∀b,b≠e->((s.heap.push W.emptyDict).update e λo:Obj=>{o with dict:=some s.heap.objs.size}).get? b=(s.heap.push W.emptyDict).get? b:=λb l=>apl _ _ (aph l);have q1:upd H s.heap.objs.size (.ext (gC s.heap.objs.size [])) e=some (.ext (lU e C none a0)):=by rw[ae (aph v)];exact q
 have N:=D.write (x:=e) (e:=e) (o:=.ext (lU e C (some s.heap.objs.size) a0)) (t':=s.toks) (by rw[q1];exact True.intro) (.inl rfl) (λb u l q=>(p b l).trans q) ⟨_,i⟩ (aga (a0:=a0) i);have t:∃o,h'.get? s.heap.objs.size=some o:=let⟨o,_,_,O,_⟩:=j;⟨o,O⟩;have B:=N.write (x:=s.heap.objs.size) (e:=s.heap.objs.size) (o:=.ext (gC s.heap.objs.size [(f,y)])) (h':=h') (t':=s.toks+2) (by rw[ae v,ah];exact True.intro) (.inl rfl) (λb u l q=>(n.2 b l).trans q) t (vw ⟨_,j,λg=>by
 by_cases z:g=f;.rw[apa z,z];simp only[List.lookup,beq_self_eq_true];exact K
 .rw[ao9 z,show([(f,y)]:List (Str×V)).lookup g=none from by simp[List.lookup,apM.mpr z]];exact True.intro,λg P=>by
  by_cases z:g=f;.rw[z];exact apu
  .exact absurd (ao9 z) P⟩);have r:upd (upd (upd H s.heap.objs.size (.ext (gC s.heap.objs.size []))) e (.ext (lU e C (some s.heap.objs.size) a0))) s.heap.objs.size (.ext (gC s.heap.objs.size [(f,y)]))=upd (upd H s.heap.objs.size (.ext (gC s.heap.objs.size [(f,y)]))) e (.ext (lU e C (some s.heap.objs.size) a0)):=by
  funext b;unfold upd;by_cases z1:b=s.heap.objs.size;.rw[apa z1,ao9 (by rw[z1];exact v),apa z1]
  .rw[ao9 z1];by_cases z2:b=e;.rw[apa z2,apa z2]
   .rw[ao9 z2,ao9 z2,ao9 z1,ao9 z1]
 rw[r]at B;exact B
def aar{y u d fs Q a0}(k:ExcS X.K C)(I:Inv X pins σ H s)(q:H e=some (.ext (lU e C (some d) a0)))(m:H d=some (.ext (gC d fs)))(P:d≠e)(w:findIn X.K (.ref C) f=some none)(B:RelV y u)(N:fs.length<=50)(K:fs.lookup f=none)(h:∀p,Inv X pins σ (upd H d (.ext (gC d (fs++[(f,y)])))) p->Q () p):wpAny (model X.prog X.w) A (setAttr (.ref e) f u) Q E s:=by
 have t:=yx I q;refine jV (I.hok d _ m).1 λO x r n=>?_;refine uw k I.kIn t x w n (by rw[apv];omega) λJ j a=>h _ ?_;have l:∃o,J.get? d=some o:=let⟨o,_,_,i,_⟩:=a;⟨o,i⟩;refine I.write (by rw[m];exact True.intro) (.inl rfl) (λb u D q=>(j.2 b D).trans q) l (vw ⟨_,a,λg=>?_,λg M=>?_⟩)
 .have G:(fs++[(f,y)]).lookup g=match fs.lookup g with|some v=>some v|none=>([(f,y)]:List (Str×V)).lookup g:=by grind
  rw[G];by_cases z:g=f;.rw[apa z,z,K];simp only[List.lookup,beq_self_eq_true];exact B
  .have c:=r g;rw[ao9 z];cases i:fs.lookup g with|some v=>rw[i]at c;exact c|none=>rw[i]at c;rw[show[(f,y)].lookup g=none from by simp[List.lookup,apM.mpr z]];exact c
 .rw[asq];by_cases z:g=f;.rw[z];exact apm _ apu
  .exact apH _ (n g λy=>M (by grind))
end
section
variable{X:Cx}{e:Expr}{es:List Expr}{pos:Pos}{ta:TE}{ts:List TE}
def aik(ta:TE):TE:=λb H Q=>ta b H λx a=>(∃i:Int,x=.int i/\i.natAbs.log2<1920/\Q (.str (toString i)) a)\/∃y:Str,x=.str y/\y.length<=sizeLine/\Q (.str y) a
def abH(g:PE X e ta):PE X (.FormattedValue e (-1) none pos) (aik ta):=by
 intro a s j H Q I h;refine ara (thn (g a s j H _ I h) λu s1 b=>?_);refine oC b λx c d f q=>?_;rcases q with⟨i,rfl,l,q⟩|⟨y,rfl,k,q⟩;.obtain⟨t,rfl⟩:=f;exact PyProof.Rows.formatField_int_small l (iH (.str _) c (d.tok _) ⟨_,rfl⟩ q)
 .obtain⟨t,rfl⟩:=f;exact apU (λm tk=>iH (.str y) c (d.tok tk) ⟨_,rfl⟩ q) k
def tJ:List TE->Str->TE|[],acc=>λa H Q=>acc.length<=sizeLine/\Q (.str acc) H|t::ts,acc=>λa H Q=>t a H λx b=>∃y:Str,x=.str y/\(acc++y).length<=sizeLine/\tJ ts (acc++y) a b Q
theorem p9:∀{es ts},Paired (PE X) es ts->∀b a s(c:St)H Q,Inv X a c H s->tJ ts b c H Q->wpAny (model X.prog X.w) X.A (joinParts b (es.map λe=>eval e X.env)) (EP X a c Q) X.xe s|[],[],_,b,a,s,c,H,Q,I,h=>PyProof.Rows.joinParts_nil (iH (.str _) H (I.tok _) ⟨_,rfl⟩ h.2) h.1|e::es,t::ts,.cons p ps,b,a,s,c,H,Q,I,h=>by refine PyProof.Rows.joinParts_cons (thn (p _ s c H _ I h) λu s1 d=>?_);obtain⟨x,f,g,j,y,ex,i,q⟩:=d;subst ex;obtain⟨t,rfl⟩:=j;exact⟨i,p9 ps _ _ _ c f Q g q⟩
def vm{b c es}(d:Paired (PE X) (b::c::es) ts)(f:evalEach es X.env=es.map λe=>eval e X.env:=by rfl):PE X (.JoinedStr (b::c::es) pos) (tJ ts Str.empty):=by intro a s g H Q I h;refine PyProof.Rows.JoinedStr_many ?_;rw[f];exact p9 d _ _ s g H Q I h
end
set_option tactic.hygienic true in
def zq{K h N a n v}(X:K.In h)(G:h.Ns N a)(e:W.nsIn K N n=some (some v)):a n=some v:=by
 refine adC G λo k m j i _ g=>?_;unfold W.nsIn at e;split at e
 .rename_i c d f r p q;have:=X _ _ q;rw[j]at this;cases this;cases i;split at e;.rename_i l b;cases e;rw[<-g];unfold nsFind findBy;rw[<-arH,b];rfl
  .split at e<;>cases e
 .cases e
def ao2(h:Heap)(C fI:Addr):Prop:=∃(c:List Value)(N:Addr)(e l:Str)(bs:List Value)(g:Bool)(j:List Str)(sub:List Value)(i:Bool)(a:Option Bool)(d:Option Addr)(f k1 k2 k3 k:Option Value)(b:Str->Option Value),h.get? C=some (excClassObj e l C N bs c g j sub i a d f k1 k2 k3 k "ValueError.__new__")/\h.Ns N b/\b "__init__"=some (.ref fI)/\OwnTail h gy c
def ade{K:W.Frag}{h:Heap}{C fI:Addr}(X:K.In h)(q:jv K C (some (.ref fI))):ao2 h C fI:=q.out X λi e f o bs k m sub l b d j k1 k2 k3 n g a c t=>⟨i,e,f,o,bs,k,m,sub,l,b,d,j,k1,k2,k3,n,_,g,.of_isNs (W.isNs_of_in X a),zq X (.of_isNs (W.isNs_of_in X a)) c,t⟩
section
variable{X:Cx}{e:Expr}{es:List Expr}{x:Str}{np apos pos:Pos}{t:TA}{C D fI:Addr}
def aa2(C:Addr)(t:TA):TE:=λg H Q=>t g H λf b=>∃ex c d y,f=[.ref ex,.str y]/\b ex=some (.ext (lU ex C c d))/\∀a,b a=none->a≠ex->Q .non (upd (upd b a (.tup [.str y])) ex (.ext (lU ex C c (.ref a))))
def xS{pl}(hg:Gl X x)(hm:X.mg x=some (.ref D))(hr:W.readsIn X.K D (.type "type")=true)(hf:W.findCls X.K (.ref D) (.type "type") "__init__"=some (.val (.builtin "ValueError.__init__")))(hs:W.specialIn X.K (.ref D) "__getattribute__"=some (some (.builtin "type.__getattribute__")))(hC:jv X.K C (some (.ref fI)))(O:PA X (e::es) t)(B:Dbg x:=by decide)(z:SE X e es:=by rfl)(A:BT X pos es:=by rfl)(P:eval (.Call (.Attribute (.Name x np) "__init__" apos) (e::es) [] pos) X.env=(do
   let E <-eval (.Name x np) X.env
   standAt apos.atName let(f,first)<-holding [E] (getMethod E "__init__" pl)callWith pos f first (backTo pos (starEach (e::es) X.env)) (backToKw pos (keywordEach [] X.env))):=by rfl):PE X (.Call (.Attribute (.Name x np) "__init__" apos) (e::es) [] pos) (aa2 C t):=by
 intro i s Z H Q I h;refine asr (pl:=pl) (cE I hg hm ?_ B) P;refine W.method_cls I.kIn hs (W.cls_value I.kIn hr hf rfl ?_);have U:=I.tok (s.toks+1);refine arn (thn (O pos i _ Z H _ U h) λY s1 v=>?_) z A;obtain⟨vs,H1,m,r1,ex,dx,a0,y,ev,G,q1⟩:=v;subst ev;obtain⟨n,c,rfl,R,M⟩:∃n c,Y=n::c/\RelV (.ref ex) n/\Vals [.str y] c:=by cases r1 with|cons a b=>exact⟨_,_,rfl,a,b⟩
 cases show n=Value.ref ex from R;have p:=yx m G;obtain⟨bm,N,nm,qn,bs,hd,sn,sub,ab,S,dd,k0,k1,k2,k3,k5,mN,r,hN,_,T⟩:=ade m.kIn hC;have k:c.length<=sizeLine:=by rw[<-M.length];exact show 1<=sizeLine by decide
 obtain⟨l,g,d,tk,os⟩:=s1;have K:=apK (ape p);refine ado apX T r p k ⟨.non,_,?_,rfl,q1 l.objs.size (m.hok.fresh (ao6 _)) K⟩;have w:=ao4 (h:=l) {cls:=.type "tuple",data:=.seq c.toArray} p;have J:=m.laid (a:=l.objs.size) (o:=.tup [.str y]) (h':=l.push {cls:=.type "tuple",data:=.seq c.toArray}) (t':=tk) (λb u q=>ao4 _ q) (ao6 _) ⟨show 1<=sizeLine by decide,c,M,⟨_,apg _ rfl,rfl,_,rfl⟩⟩;have j:=apF (Obj.mapFields λx=>x.setIfInBounds 0 (Value.ref l.objs.size)) w rfl;exact J.write (x:=ex) (e:=ex) (t':=tk) (by rw[ae (aph K),G];exact True.intro) (.inl rfl) (λb u hb q=>by rw[apl _ _ (aph hb)];exact q) ⟨_,j⟩ (aga j)
end
end L2
set_option autoImplicit true
set_option relaxedAutoImplicit true
namespace L2
open PySem PySem.Spec PyProof.Rows
open PySem.W(findIn InstAt)
section
variable{prog:Program}{w:World}{A:Around}{E:Value->Shared->Prop}{s:Shared}{env:Env}
variable{nm q:Str}{C N:Addr}{bs bm bmB:List Value}{hdct:Bool}{sn:List Str}{sub:List Value}{ab:Bool}{col:Option Bool}{dd:Option Addr}{k0 k1 k2 k3 k5:Option Value}{B newId initId:String}
def ExB(C:Addr)(h:Heap):Prop:=∃nm q N bs bm hdct sn sub ab col dd k0 k1 k2 k3 k5 newId,bm.contains (.type "BaseException")=true/\h.get? C=some (excClassObj nm q C N bs bm hdct sn sub ab col dd k0 k1 k2 k3 k5 newId)
def ak5(F:ExcBaseFacts B newId initId bmB){mN fI x np i g}{Z:Value->Shared->Prop}(m:bm.contains (.type "BaseException")=true)(j:(backTo i (starEach g env)).any (·.1)=false)(O:mN "__init__"=some (.ref fI))(h:wpAny (model prog w) A (eval (.Name x np) env) (λf l=>f=.ref C/\wpAny (model prog w) A (evalArgs (.ref C) true (backTo i (starEach g env)) []) (λa b=>a.kw=[]/\a.pos.length<=sizeLine/\b.heap.get? C=some (excClassObj nm q C N bs bm hdct sn sub ab col dd k0 k1 k2 k3 k5 newId)/\b.heap.Ns N mN/\OwnTail b.heap bmB bm/\(∃G,b.heap.get? fI=some G/\G.cls=.type "function")/\∀t e,Heap.MadeExcOf b.heap t e (.ref C) a.pos->wpAny (model prog w) (A.under (.builtin "type.__call__" ⟨.ref C::a.pos,[]⟩)) (call (.ref fI) (.ref e::a.pos)) (λr k=>r=.none/\k.heap.get? C=some (excClassObj nm q C N bs bm hdct sn sub ab col dd k0 k1 k2 k3 k5 newId)/\∃p o,k.heap.get? e=some (dz C p o)/\Z (.ref e) k) E {b with heap:=t}) E l) E s):wpAny (model prog w) A (eval (.Call (.Name x np) g [] i) env) (λv k=>∃e p o,v=.ref e/\ExB C k.heap/\k.heap.get? e=some (dz C p o)/\Z (.ref e) k) E s:=by refine wpAny_Call_ofName (apn h (λf l d=>?_) λ_ _ x=>x);obtain⟨rfl,d⟩:=d;refine ao3 (apO (apn d (λa b c=>ao3 (aqi ?_)) λ_ _ x=>x));obtain⟨I,D⟩:=a;obtain⟨H,n,J,M,T,⟨G,u,y⟩,c⟩:=c;obtain rfl:D=[]:=H;simp only[j];refine ao3 (wpAny_keeperOf_exc J ?_);refine ao3 (aaa (hrest:=n) F T J M O u y λt e R=>apn (c t e R) (λr k K=>⟨K.1,ao3 (apO (wpAny_point (ao7 ?_)))⟩) λ_ _ z=>z);obtain⟨_,Q,p,o,P,S⟩:=K;exact⟨e,p,o,rfl,⟨_,_,_,_,_,_,_,_,_,_,_,_,_,_,_,_,_,m,Q⟩,P,S⟩
def zg{x pos Q}(k:A.handled=none)(h:wpAny (model prog w) A (eval x env) (λv c=>∃e f d,v=.ref e/\ExB C c.heap/\c.heap.get? e=some (dz C f d)/\E (.ref e) c) E s):wpAny (model prog w) A (exec (.Raise (some x) none pos) env) Q E s:=by
 rw[arm_exec_Raise];refine ao3 (aqi (ao3 (ao3 (apn h (λv g a=>ao3 (aqi (ao7 ?_))) λ_ _ x=>x))));obtain⟨e,f,d,rfl,⟨nm,q,N,bs,bm,hdct,sn,sub,ab,col,dd,k0,k1,k2,k3,k5,newId,m,i⟩,l,j⟩:=a;have b:(Value.ref C::bm).contains (.type "BaseException")=true:=by grind
 repeat(first|(with_reducible refine ary i ?_;rw[b])|wp_step)
 exact wpAny_raiseNew_none k j
end
section
variable{X:Cx}{o value:Expr}{f:Str}{pos pos':Pos}{ta tv:TE}{C:Addr}
def sX1(C:Addr)(ta tv:TE)(f:Str):TS:=λD b H=>tv b H λy g=>ta b g λx a=>∃e c,x=.ref e/\a e=some (.ext (lU e C none c))/\∀d,a d=none->d≠e->D.nx b (upd (upd a d (.ext (gC d [(f,y)]))) e (.ext (lU e C (some d) c)))
def sX2(C:Addr)(ta tv:TE)(f:Str):TS:=λD b H=>tv b H λy c=>ta b c λx a=>∃e d fs g,x=.ref e/\a e=some (.ext (lU e C (some d) g))/\a d=some (.ext (gC d fs))/\d≠e/\fs.length<=50/\fs.lookup f=none/\D.nx b (upd a d (.ext (gC d (fs++[(f,y)]))))
def ajr(k:ExcS X.K C)(i:findIn X.K (.ref C) f=some none)(n:PE X o ta)(j:PE X value tv)(w:swapsWith value (some (.Attribute o f pos')) pos.line X.env=pure false):PS X (.Assign [.Attribute o f pos'] value pos) (sX1 C ta tv f):=by intro c s a H D I h;refine aqs (thn (j _ s a H _ I h) λu s1⟨y,z,g,m,q⟩=>thn (n _ _ a _ _ g q) λA s2 b=>?_) w;obtain⟨x,E,p,r,e,B,ex,ea,q2⟩:=b;subst ex;obtain rfl:=r;exact yO k p ea i m λd s3 l v t=>⟨a,_,t,q2 d l v⟩
def amn(k:ExcS X.K C)(m:findIn X.K (.ref C) f=some none)(p:PE X o ta)(l:PE X value tv)(A:swapsWith value (some (.Attribute o f pos')) pos.line X.env=pure false):PS X (.Assign [.Attribute o f pos'] value pos) (sX2 C ta tv f):=by intro c s a H D I h;refine aqs (thn (l _ s a H _ I h) λu s1⟨y,B,g,n,q⟩=>thn (p _ _ a _ _ g q) λE s2 b=>?_) A;obtain⟨x,J,r,t,e,d,fs,G,ex,ea,j,z,i,v,q2⟩:=b;subst ex;obtain rfl:=t;exact aar k r ea j z m n i v λs3 w=>⟨a,_,w,q2⟩
end
noncomputable def del(H:Hp)(e:Addr):Hp:=λb=>if b=e then none else H b
section
variable{X:Cx}{pins:List (Addr×Obj)}{σ:St}{H:Hp}{s:Shared}{e d:Addr}{fs:List (Str×V)}
def Inv.ag3{φ}(I:Inv X pins σ H s)(q:H e=some (.ext φ)):Inv X pins σ (del H e) s:=by
 have none_of:∀{b},H b=none->del H e b=none:=λ{b}h=>by unfold del;split<;>first|rfl|exact h
 have keep:∀{b o},H b=some o->(∀m,o≠.ext m)->del H e b=some o:=λ{b o}h n=>by unfold del;rw[ao9 λz=>by grind];exact h
 refine⟨I.ok,I.os,I.bare,⟨I.base.keep,I.base.slot,λb o f i g=>none_of (I.base.free b o f i g),I.base.there,λb j h=>keep (I.base.tups b j h) (λ_ z=>by cases z),λb o u h=>keep (I.base.frzs b o u h) (λ_ z=>by cases z),λb l h=>?_⟩,I.loc,I.cell,none_of I.free,λx c h=>none_of (I.freeC x c h),λp r=>?_,λb u h=>?_,I.len⟩;.obtain⟨a,k⟩:=I.base.tbls b l h;exact⟨a,keep k λ_ z=>by cases z⟩
 .refine agz (I.pin p r) λf i g=>?_;exact⟨f,none_of i,g⟩
 .have t:=by
   unfold del at h;split at h;.cases h
   .exact h
  exact(I.hok b u t).u0 (λ_ _ _ z=>z) (λc z=>keep z λ_ y=>by cases y) λc j z=>keep z λ_ y=>by cases y
theorem Inv.xd(I:Inv X pins σ H s)(q:H d=some (.ext (gC d fs))):Inv X pins σ (upd H d (.xd fs)) s:=by obtain⟨b,a,r,g⟩:=(I.hok d _ q).1;have c:∃u,s.heap.get? d=some u:=let⟨o,_,_,f,_⟩:=a;⟨o,f⟩;exact I.write (by rw[q];exact True.intro) (.inl rfl) (λ_ _ _ z=>z) c ⟨b,a,r⟩
end
def spG(C:Addr)(b:List Str)(L:Nat)(G:List V->Hp->Prop):Sp:=λf H Q _=>∃e ws c,f=.ref e::ws/\ws.length=b.length/\H e=some (.ext (lU e C none c))/\G ws H/\∀a y d,H a=none->y.length<=L->upd H a (.tup [.str y]) d=none->d≠e->Q .non (upd (upd (upd H a (.tup [.str y])) d (.ext (gC d (b.zip ws)))) e (.ext (lU e C (some d) (.ref a))))
def afV(ws:List V)(_:Hp):Prop:=∀w∈ws,∃i:Int,w=.int i/\i.natAbs.log2<100
abbrev spI(C:Addr)(a:List Str):Sp:=spG C a 50000 afV
section
variable{X:Cx}{t:TA}{x:Str}{C fI:Addr}{fd:FuncData}{ps fl:List Str}{k:Nat}{np cpos pos:Pos}{e:Expr}{es:List Expr}
def ya{G L}(hg:Gl X x)(hm:X.mg x=some (.ref C))(q:jv X.K C (some (.ref fI)))(U:W.typeIn X.K (.ref fI)=some (.type "function"))(F:FnOk X.prog X.w X.K X.mg X.base CX0 k fI fd ps (spG C fl L G))(gm:∀ws H b o,H b=none->G ws H->G ws (upd H b o))(hr:Room (k+1) X.A)(hb:Binds X.K fd ps [])(ha:PA X (e::es) t){pins s O H}{Z:Value->Shared->Prop}{R:List V->Hp->Prop}(I:Inv X pins O H s)(h:t O H R)(hR:∀c D,R c D->c.length=fl.length/\G c D/\fl.length<=50/\∀s e d a y,D a=none->y.length<=L->upd D a (.tup [.str y]) d=none->d≠e->Inv X pins O (upd (upd D a (.tup [.str y])) d (.xd (fl.zip c))) s->s.heap.get? e=some (dz C (some d) (.ref a))->FpX X pins (upd (upd D a (.tup [.str y])) d (.xd (fl.zip c))) e->Z (.ref e) s)(hd:Dbg x:=by decide)(he:SE X e es:=by rfl)(i:BT X cpos es:=by rfl):wpAny (model X.prog X.w) X.A (eval (.Call (.Name x np) (e::es) [] cpos) X.env) (λv K=>∃e dx a0,v=.ref e/\ExB C K.heap/\K.heap.get? e=some (dz C dx a0)/\Z (.ref e) K) X.xe s:=by
 obtain⟨bm,N,nm,qn,bs,hdct,sn,sub,ab,col,dd,k0,k1,k2,k3,k5,mN,hC,hN,hi,T⟩:=ade I.mod.kin q;refine eM (apr.mp U) λoI a6 a8=>?_;refine ak5 (C:=C) (nm:=nm) (q:=qn) (N:=N) (bs:=bs) (bm:=bm) (hdct:=hdct) (sn:=sn) (sub:=sub) (ab:=ab) (col:=col) (dd:=dd) (k0:=k0) (k1:=k1) (k2:=k2) (k3:=k3) (k5:=k5) apX (mN:=mN) (fI:=fI) (T.hasType apX.hasBase) (by rw[he];show(false||(backTo cpos (starEach es X.env)).any (·.1))=false;rw[i];rfl) hi (cE I hg hm ⟨rfl,?_⟩ hd);have hA:=ha cpos pins s O H _ I h;rw[he]at hA⊢;refine aro (thn hA λp s2⟨c,g,n,r2,q2⟩=>⟨rfl,?_,n.bk _ _ hC,hN.keeps n.bk,T.keeps n.bk,⟨oI,n.bk _ _ (I.mod.kin _ _ a6),a8⟩,λh' ea Q=>?_⟩);.rw[<-r2.length,(hR _ _ q2).1];exact apb (hR _ _ q2).2.2.1 (by decide)
 obtain⟨hl,Y,a9,q2⟩:=hR _ _ q2;refine jV Q.there λf h1 h2 h3=>?_;have S:g ea=none:=by cases z:g ea with|none=>rfl|some u=>obtain⟨o,ho⟩:=eB (n.hok ea u z);rw[Q.new]at ho;cases ho
 have J:=n.kept (t':=s2.toks) Q.keeps;have fp:∀A,A ea=none->FpX X pins A ea:=λA hn=>n.fpX Q.new hn;have J2:Inv X pins O (upd g ea (.ext (lU ea C none (.ref f)))) {s2 with heap:=h'}:=J.afL (fp g S) ⟨h1,⟨_,h1⟩,λ_ _ z k=>k _ z⟩;have r3:Vals (V.ref ea::c) (Value.ref ea::p):=.cons rfl r2;let Q':VK:=λv A=>v=.non/\∃a y d,upd g ea (.ext (lU ea C none (.ref f))) a=none/\y.length<=L/\upd (upd g ea (.ext (lU ea C none (.ref f)))) a (.tup [.str y]) d=none/\d≠ea/\A=upd (upd (upd (upd g ea (.ext (lU ea C none (.ref f)))) a (.tup [.str y])) d (.ext (gC d (fl.zip c)))) ea (.ext (lU ea C (some d) (.ref a)));have sp:spG C fl L G (V.ref ea::c) (upd g ea (.ext (lU ea C none (.ref f)))) Q' λ_ _ _=>False:=⟨ea,c,_,rfl,hl,ah,gm _ _ _ _ S Y,λa y d z1 z2 z3 z4=>⟨rfl,a,y,d,z1,z2,z3,z4,rfl⟩⟩;have M:(Value.ref ea::p).length=ps.length:=by rw[<-r3.length];exact F.len _ _ _ _ sp
 have P:=hb {s2 with heap:=h'} (Value.ref ea::p) J2.kIn (by rw[apE];exact M);rw[apE]at P;refine aqm (aqE (F.run _ X.stack _ _ ⟨Value.ref ea::p,[]⟩ (Value.ref ea::p) _ Q' (λ_ _ _=>False) (hr.make C p []) trivial (J2.akF.make C p []) P r3 sp) λr K l=>?_);cases r with|error e'=>exact False.elim l|ok fl'=>cases fl' with|next|brk|cont=>exact False.elim l|ret u=>
   obtain⟨v,A,I3,rv,ev,a,y,d,w,hy,j,B,eH⟩:=J2.after l;subst ev eH;have m:a≠ea:=λz=>by rw[z,ah]at w;cases w
   have a7:d≠a:=λz=>by rw[z,ah]at j;cases j
   have E:=yx I3 (e:=ea) (C:=C) (dx:=some d) ah;refine⟨rv,I3.bk _ _ hC,some d,_,E,?_⟩;have I4:=I3.xd (d:=d) (fs:=fl.zip c) (by rw[ae B,ah]);have I5:=I4.ag3 (e:=ea) (φ:=lU ea C (some d) (.ref a)) (by rw[ae (aph B),ah]);have eH:del (upd (upd (upd (upd (upd g ea (.ext (lU ea C none (.ref f)))) a (.tup [.str y])) d (.ext (gC d (fl.zip c)))) ea (.ext (lU ea C (some d) (.ref a)))) d (.xd (fl.zip c))) ea=upd (upd g a (.tup [.str y])) d (.xd (fl.zip c)):=by
    funext b;unfold del;by_cases z1:b=ea;.rw[apa z1,z1,ae (aph B),ae (aph m),S]
    .rw[ao9 z1];by_cases z2:b=d;.rw[z2,ah,ah]
     .rw[ae z2,ae z1,ae z2,ae z2];by_cases z3:b=a;.rw[z3,ah,ah]
      .rw[ae z3,ae z3,ae z1]
   rw[eH]at I5;refine q2 K ea d a y (by rwa[ae m]at w) hy (by rw[ae a7]at j⊢;rwa[ae B]at j) B I5 E (fp _ (by rw[ae (aph B),ae (aph m)];exact S))
def ag6(X:Cx)(C:Addr)(fl:List Str)(t:TA):TS:=λ_ g H=>t g H λf b=>f.length=fl.length/\afV f b/\fl.length<=50/\∀a s e d c y,b c=none->y.length<=50000->upd b c (.tup [.str y]) d=none->d≠e->Thr X a g (upd (upd b c (.tup [.str y])) d (.xd (fl.zip f))) s e C (some d,.ref c,.none) .none none->X.xe (.ref e) s
def abw(j:X.calm=true)(A:Gl X x)(v:X.mg x=some (.ref C))(q:jv X.K C (some (.ref fI)))(f:W.typeIn X.K (.ref fI)=some (.type "function"))(F:FnOk X.prog X.w X.K X.mg X.base CX0 k fI fd ps (spI C fl))(m:Room (k+1) X.A)(n:Binds X.K fd ps [])(o:PA X (e::es) t)(l:Dbg x:=by decide)(c:SE X e es:=by rfl)(a:BT X cpos es:=by rfl):PS X (.Raise (some (.Call (.Name x np) (e::es) [] cpos)) none pos) (ag6 X C fl t):=λb s E H D I h=>zg (C:=C) (I.ok.hd j) (ya A v q f F (λ_ _ _ _ _ z=>z) m n o I h (λG B⟨z1,z2,z3,z4⟩=>⟨z1,z2,z3,λs e d r y g w i u J c p=>z4 b s e d r y g w i u ⟨J,⟨_,_,c,rfl,rfl,rfl,rfl,rfl,rfl⟩,p,λt z=>by cases z⟩⟩) l c a)
end
end L2
namespace L2
open PySem PySem.Spec PyProof.Rows
section
variable{prog:Program}{w:World}{A:Around}{E:Value->Shared->Prop}{s:Shared}
def rL:entryFor table "proto.unchain"=some Builtin.«proto.unchain»:=entryFor_of_tree (by kernel_rfl)
def wL(h:Heap)(e:Addr):Nat->Value->Prop|0,v=>v=.none|n+1,v=>∃a o b c,v=.ref a/\a≠e/\h.get? a=some o/\o.data=.fields b/\b[2]?=some c/\wL h e n c
theorem wL.one{h e}:∀{n m:Nat}{v},wL h e n v->wL h e m v->n=m|0,0,_,_,_=>rfl|0,_+1,_,h1,⟨_,_,_,_,z,_⟩=>by rw[show _=Value.none from h1]at z;cases z|_+1,0,_,⟨_,_,_,_,z,_⟩,h1=>by rw[show _=Value.none from h1]at z;cases z|n+1,m+1,_,⟨a,o,vs,c,z,_,g1,g2,g3,g4⟩,⟨a',o',vs',c',z',_,g1',g2',g3',g4'⟩=>by rw[z]at z';cases z';rw[g1]at g1';cases g1';rw[g2]at g2';cases g2';rw[g3]at g3';cases g3';rw[wL.one g4 g4']
theorem j0{e:Addr}{R:Result->Shared->Prop}(g:R (.ok (.ret .none)) s):∀(n m:Nat)(o sl:Value)(t:Bool),n<=m->wL s.heap e (n+1) o->wL s.heap e (m+1) sl->codeAny (model prog w) A (.builtin "proto.unchain" ⟨[.ref e,o,sl,.bool t],[]⟩) R s|n,m,_,_,t,hnm,⟨a,oa,va,c,rfl,_,h1,h2,h3,h4⟩,hs=>by refine arp rL ?_;show wpAny _ _ (field (.ref a) 2 >>=_) _ _ s;refine ao3 (apx h1 h2 h3 ?_);cases n with|zero=>cases show c=.none from h4;refine ao3 (ao7 (ao7 ?_));exact g|succ n=>
   have f:=h4;obtain⟨b,ob,v,d,rfl,i,j,p,u,r⟩:=h4;obtain⟨y,k,q,l,rfl,_,k1,k2,k3,h⟩:=id hs;have c1:(Value.ref b==Value.none)=false:=rfl;have c2:(Value.ref b==Value.ref e)=false:=by simpa using i
   have c3:(Value.ref b==Value.ref y)=false:=by refine apM.mpr λz=>?_;cases z;have:=wL.one f hs;omega
   dsimp only;rw[c1,c2,c3];refine ao3 (ao7 (ao3 (ao7 (ao3 (ao7 ?_)))));cases t with|false=>exact ao3 (ao7 (ao7 ⟨aqY _ (by decide+kernel),j0 g n m _ _ _ (by omega) f hs⟩))|true=>refine ao3 (apx k1 k2 k3 (ao7 ⟨aqY _ (by decide+kernel),?_⟩));cases m with|zero=>omega|succ m=>exact j0 g n m _ _ _ (by omega) f h
def qJ{α:Type}{e h:Addr}{n:Nat}{l f:Obj}{a b:Array Value}{Q:α->Shared->Prop}{k:Value}(q:A.handled=some (.ref h))(m:s.heap.get? e=some l)(d:l.data=.fields a)(hsz:2<a.size)(t:s.heap.get? h=some f)(i:f.data=.fields b)(r:b[2]?=some k)(g:wL s.heap e n k)(o:h≠e)(p:E (.ref e) {s with heap:=s.heap.update e (Obj.mapFields (·.setIfInBounds 2 (.ref h)))}):wpAny (model prog w) A (raiseNew (α:=α) (.ref e)) Q E s:=by
 simp only[raiseNew];refine ao3 (wpAny_handled ?_);rw[q];have j:(Value.ref h !=Value.ref e)=true:=by simpa using o
 show wpAny _ _ (if(Value.ref h !=Value.ref e)=true then _ else _) _ _ _;rw[apa j];have c:wL s.heap e (n+1) (.ref h):=⟨h,f,b,k,rfl,o,t,i,r,g⟩;refine ao3 (apO (wpAny_runValue (j0 ?_ n n _ _ _ (ao6 _) c c)));unfold updateField;refine ao3 (ao3 (wpAny_load m ?_));rw[d];show wpAny _ _ (if 2<a.size then _ else _) _ _ _;rw[apa hsz];exact wpAny_update m (wpAny_throw p)
end
end L2
set_option autoImplicit true
set_option relaxedAutoImplicit true
namespace L2
open PySem PySem.Spec PyProof.Rows
open PySem.W(findIn InstAt mroIn)
theorem wL.keep{h h':Heap}{e:Addr}(k:∀b o,b≠e->h.get? b=some o->h'.get? b=some o):∀{n v},wL h e n v->wL h' e n v|0,_,z=>z|n+1,_,⟨a,o,vs,c,z,ne,g1,g2,g3,g4⟩=>⟨a,o,vs,c,z,ne,k _ _ ne g1,g2,g3,g4.keep k⟩
section
variable{prog:Program}{w:World}{A:Around}{E:Value->Shared->Prop}{s:Shared}{env:Env}{C Ch h e:Addr}
def yw{a:Obj}{vs j}{Q:Value->Shared->Prop}(t:s.heap.get? e=some a)(o:a.cls=.ref C)(p:a.data=.fields vs)(n:ExB C s.heap)(r:Q (.ref e) s):wpAny (model prog w) A (excFromValue (.ref e) j) Q E s:=by
 obtain⟨y,q,N,bs,m,i,D,sub,B,k,x,z,k1,k2,k3,G,b,I,l⟩:=n;have f:(Value.ref C::m).contains (.type "BaseException")=true:=by grind
 obtain⟨c,d,u,v⟩:=a;cases o;cases p;obtain⟨H,g,d,tk,os⟩:=s;unfold excFromValue isExcClass;repeat(first|(with_reducible refine ary l ?_;rw[f])|wp_step)
 exact r
def vj{x c pos Q}(hh:A.handled=some (.ref h))(h1:wpAny (model prog w) A (eval x env) (λv d=>∃e t p,v=.ref e/\ExB C d.heap/\d.heap.get? e=some (dz C t p)/\wpAny (model prog w) A (eval c env) (λcv a=>cv=.ref h/\ExB C a.heap/\a.heap.get? e=some (dz C t p)/\h≠e/\ExB Ch a.heap/\(∃u k,a.heap.get? h=some u/\u.cls=.ref Ch/\u.data=.fields k/\∃O n,k[2]?=some O/\wL a.heap e n O)/\∀K,(∀b o,b≠e->a.heap.get? b=some o->K.get? b=some o)->K.get? e=some {cls:=.ref C,dict:=t,data:=.fields #[p,.none,.ref h,.ref h,.bool true,.none]}->E (.ref e) {a with heap:=K}) E d) E s):wpAny (model prog w) A (exec (.Raise (some x) (some c) pos) env) Q E s:=by
 rw[arm_exec_Raise];refine ao3 (aqi (ao3 (ao3 (apn h1 (λv d r=>ao3 (aqi (ao7 ?_))) λ_ _ x=>x))));obtain⟨e,t,p,rfl,_,_,h2⟩:=r;refine ao3 (apO (ao3 (apn h2 (λv a l=>ao3 (aqi (ao7 (ao3 (ao7 ?_))))) λ_ _ x=>x)));obtain⟨rfl,S,B,ne,M,⟨u,k,Z,J,m,O,nc,G,j⟩,hE⟩:=l;refine ao3 (apO (yw B rfl rfl S ?_));dsimp only;rw[ao9 (by simp)];refine ao3 (apO (yw Z J m M ?_));refine ao3 (aqp B rfl (by simp) ?_);have U:=apF (Obj.mapFields (·.setIfInBounds 3 (Value.ref h))) B rfl;refine ao3 (aqp U rfl (by simp) ?_);have e2:=apF (Obj.mapFields (·.setIfInBounds 4 (Value.bool true))) U rfl;have kp:∀b o,b≠e->a.heap.get? b=some o->((a.heap.update e (Obj.mapFields (·.setIfInBounds 3 (Value.ref h)))).update e (Obj.mapFields (·.setIfInBounds 4 (Value.bool true)))).get? b=some o:=λb o g q=>by rw[apl _ _ (aph g),apl _ _ (aph g)];exact q
 have H:ExB C ((a.heap.update e (Obj.mapFields (·.setIfInBounds 3 (Value.ref h)))).update e (Obj.mapFields (·.setIfInBounds 4 (Value.bool true)))):=by obtain⟨nm,q,N,bs,R,i,sn,sub,X,y,P,T,k1,k2,k3,Y,f,g,D⟩:=S;exact⟨nm,q,N,bs,R,i,sn,sub,X,y,P,T,k1,k2,k3,Y,f,g,kp C _ (λz=>by subst z;rw[B]at D;cases D) D⟩
 obtain⟨nm,q,N,bs,R,i,sn,sub,X,y,P,T,k1,k2,k3,Y,f,g,D⟩:=H;have I:=kp h u ne Z;have j:=j.keep kp;have e3:((a.heap.update e (Obj.mapFields (·.setIfInBounds 3 (Value.ref h)))).update e (Obj.mapFields (·.setIfInBounds 4 (Value.bool true)))).get? e=some {cls:=.ref C,dict:=t,data:=.fields #[p,.none,.none,.ref h,.bool true,.none]}:=e2;generalize(a.heap.update e (Obj.mapFields (·.setIfInBounds 3 (Value.ref h)))).update e (Obj.mapFields (·.setIfInBounds 4 (Value.bool true)))=hp at *;dsimp only;unfold isType;repeat(first|wp_step)
 refine qJ (s:={a with heap:=hp}) hh e3 rfl (by simp) I m G j ne (hE _ (λb o g q=>?_) (apF _ e3 rfl));rw[apl _ _ (aph g)];exact kp b o g q
end
section
variable{prog:Program}{w:World}{A:Around}{E:Value->Shared->Prop}{s:Shared}{K:W.Frag}{x C t0:Addr}{ox:Obj}{od:Option Obj}
structure StrK(K:W.Frag)(C:Addr):Prop where
 fm:findIn K (.ref C) "__format__"=some (some (.builtin "object.__format__"))st:findIn K (.ref C) "__str__"=some (some (.builtin "BaseException.__str__"))mo:mroIn K C (.type "object")=some true
 mb:mroIn K C (.type "BaseException")=some true
def ahU{m:Str}{tk:Tok}{vs:Array Value}{Q:Value->Shared->Prop}(k:StrK K C)(e:A.in1.units<cLine)(X:K.In s.heap)(I:InstAt s.heap x ox C od)(h:ox.data=.fields vs)(f:vs[0]?=some (.ref t0))(d:s.heap.TupAt t0 [.str m tk])(b:Q (.str m tk) {s with toks:=s.toks+1}):wpAny (model prog w) A (formatField (.ref x) Str.empty) Q E s:=by
 refine W.kfo_field X I k.fm k.mo (W.kfo_obj (s:={s with toks:=s.toks+1}) e (W.kfo_special X I k.st ar0.str.bind ?_));refine aqm (aqN ar0.str.plain PySem.F.entry_bexc_str (W.check_slot (i:="BaseException.__str__") (owner:="BaseException") (n:="__str__") (by decide+kernel) (by decide+kernel) (I.type.andThen (W.looks_mroIn X k.mb)) (PySem.F.args_bexc_str _) ?_));have g:∀{M:Model}{A:Around}{Q:Value×List Value->Shared->Prop}{E},Q (.ref t0,[.str m tk]) {s with toks:=s.toks+1}->wpAny M A (Builtin.BaseException.bexcArgs (.ref x)) Q E {s with toks:=s.toks+1}:=λ{M A Q E}b=>by obtain⟨j,k,c,_,a⟩:=d;unfold Builtin.BaseException.bexcArgs;exact ao3 (apx (s:={s with toks:=s.toks+1}) I.at_ h f (ao3 (aqF c a (ao7 b))))
 unfold Builtin.«BaseException.__str__»;repeat(first|with_reducible refine g ?_|wp_step)
 exact⟨_,rfl,_,_,rfl,_,_,rfl,b⟩
end
end L2
namespace L2
open PySem PySem.Spec PyProof.Rows
section
variable{X:Cx}{pins:List (Addr×Obj)}{σ:St}{H:Hp}{s:Shared}{e Ce A B C D:Addr}{dx:DX}{fl:Value}{T:Addr}{a b c d:Str}{pa pb pc pd pos:Pos}
def ahZ{m}{Q:Value->Shared->Prop}{E:Value->Shared->Prop}(I:Inv X pins σ H s)(f:Gl X a/\X.mg a=some (.ref A))(j:Gl X b/\X.mg b=some (.ref B))(g:Gl X c/\X.mg c=some (.ref C))(i:Gl X d/\X.mg d=some (.ref D))(h:Q (.ref s.heap.objs.size) {s with heap:=s.heap.push {cls:=.type "tuple",data:=.seq [Value.ref A,.ref B,.ref C,.ref D].toArray}})(o:Dbg a:=by decide)(l:Dbg b:=by decide)(k:Dbg c:=by decide)(dd:Dbg d:=by decide):wpAny (model X.prog X.w) X.A (eval (.Tuple [.Name a pa,.Name b pb,.Name c pc,.Name d pd] m pos) X.env) Q E s:=by refine wpAny_Tuple_spliced ?_;refine aqv (cE I f.1 f.2 (aqv (cE I j.1 j.2 (aqv (cE I g.1 g.2 (aqv (cE I i.1 i.2 (Calls.spliced_nil ⟨show 4<=sizeLine by decide,h⟩) dd)) k)) l)) o)
theorem Thr.push(t:Thr X pins σ H s e Ce dx fl (some T))(o):Thr X pins σ H {s with heap:=s.heap.push o} e Ce dx fl (some T):=⟨t.inv.kept λb u q=>ao4 _ q,t.trc.keeps λb u _ q=>ao4 _ q,t.fe,t.fT⟩
end
end L2
set_option autoImplicit true
set_option relaxedAutoImplicit true
namespace L2
open PySem PySem.Spec PyProof.Rows
open PySem.W(findIn InstAt mroIn)
section
variable{X:Cx}{pins:List (Addr×Obj)}{σ:St}{H:Hp}{s:Shared}{e C:Addr}{dx:DX}{fl:Value}{T:Addr}{x n:Str}{hpos:Pos}{E:Value->Shared->Prop}
def aj7{i:Nat}{x v pos Q}(I:Inv X pins σ H s)(f:X.N[i]?=some x)(c:X.env.scope.names.lookup x=some .local)(e:σ[i]?=some (some v))(h:∀u,RelV v u->Q u s)(j:Dbg x):wpAny (model X.prog X.w) X.A (eval (.Name x pos) X.env) Q E s:=by
 obtain⟨m,d,b⟩:=I.loc;obtain⟨u,r,l⟩:=b i x v f e (.inl c);rcases l with⟨a,g⟩|⟨a,_⟩;.exact asw (arl I.ok.kind a d g (h u r)) j
 .have:X.env.kindOf x=some _:=c;rw[this]at a;rcases a with z|z<;>cases z
def Thr.gone{i}(t:Thr X pins σ H s e C dx fl (some T))(d:X.N.Nodup)(f:X.N[i]?=some n)(g:X.env.scope.names.lookup n=some .local){Q}(h:∀a,Thr X pins (σ.set i none) H a e C dx fl (some T)->Q () a){A}:wpAny (model X.prog X.w) A (do bindName X.env n .none;unbindBehindTheSuite X.env n hpos) Q E s:=tR t.inv d f g λa I k=>h _ ⟨I,t.trc.keeps λb o c q=>(k b (by
 rcases c with rfl|c;.exact t.fe.2.1
 .exact(t.fT b c).2.1)).trans q,t.fe,t.fT⟩
def Thr.aoX(t:Thr X pins σ H s e C dx fl (some T)){M A c}(h:∀b a,Thr X pins σ H {s with heap:=b} e C dx a (some T)->E (.ref e) {s with heap:=b}):cameBackBy M A c E (.ref e) s:=by obtain⟨g,m,v,p,r,d,u,l,k,i,q,f,o⟩:=id t.trc;exact ao3 (apx d k i.1 (t.vP λb a j _=>h _ _ j))
end
end L2
set_option autoImplicit true
set_option relaxedAutoImplicit true
namespace L2
open PySem PySem.Spec PyProof.Rows
open PySem.W(findIn InstAt mroIn)
def ExB.of{K h C r}(X:K.In h)(q:jv K C r):ExB C h:=q.out X λe c d m bs i k sub j a b f k1 k2 k3 l g _ _ T=>⟨d,m,c,bs,e,i,k,sub,j,a,b,f,k1,k2,k3,l,_,T.hasType apX.hasBase,g⟩
def Chn(H:Hp):Nat->Value->Prop|0,v=>v=.none|n+1,v=>∃a C b,v=.ref a/\H a=some (.ext (excAt a C b))/\Chn H n b.2.2
theorem Chn.keep{H H'}(k:aw H H'):∀{n v},Chn H n v->Chn H' n v|0,_,z=>z|n+1,_,⟨a,C,dx,z,h,r⟩=>⟨a,C,dx,z,k _ _ h,r.keep k⟩
theorem Chn.ctx{X pins i H s e}(I:Inv X pins i H s)(c:H e=none):∀{n v},Chn H n v->wL s.heap e n v|0,_,z=>z|n+1,_,⟨a,C,dx,z,h,r⟩=>by obtain⟨⟨f,b,d,k,l,j,g,_⟩,_⟩:=I.hok a _ h;exact⟨a,f,b,_,z,λy=>(by rw[y,c]at h;cases h),d,j,g,r.ctx I c⟩
section
variable{X:Cx}{pins:List (Addr×Obj)}{σ:St}{H:Hp}{s:Shared}{e Ce C fI:Addr}{dx:DX}{fl:Value}{T:Addr}{xB n:Str}{hpos rpos cpos np p3:Pos}{fd:FuncData}{ps fls:List Str}{k i L:Nat}{G:List V->Hp->Prop}{Q:Flow->Shared->Prop}{es:List Expr}{x1:Expr}{ta:TA}{nc:Nat}
def qd{tx}{R:List V->Hp->Prop}(t:Thr X pins σ H s e Ce dx fl (some T))(c4:∀Q E,(∀v m,Thr X pins σ H m e Ce dx fl (some T)->(∀M,W.Looks M m.heap (excMatches (.ref e) v) true)->Q v m)->wpAny (model X.prog X.w) (X.A.mark (some (.ref e))) (eval tx X.env) Q E s)(hs:X.stack=X.env::X.outer)(hf:X.env.frame=some X.env.locals)(hN:X.N.Nodup)(O:X.N[i]?=some n)(N:X.env.scope.names.lookup n=some .local)(c0:PA (X.sui e) (x1::es) ta)(c5:ta (σ.set i (some (V.ref e))) (upd H e (.ext (excAt e Ce dx))) R)(Y:Chn (upd H e (.ext (excAt e Ce dx))) nc dx.2.2)(qe:∃r,jv X.K Ce r)(hg:Gl X xB)(hm:X.mg xB=some (.ref C))(q:jv X.K C (some (.ref fI)))(a7:W.typeIn X.K (.ref fI)=some (.type "function"))(F:FnOk X.prog X.w X.K X.mg X.base CX0 k fI fd ps (spG C fls L G))(gm:∀ws H b o,H b=none->G ws H->G ws (upd H b o))(hr:Room (k+1) (X.A.mark (some (.ref e))))(hb:Binds X.K fd ps [])(b8:fls.length<=50)(hR:∀f a,R f a->f.length=fls.length/\aw (upd H e (.ext (excAt e Ce dx))) a/\G f a/\∀m c d ta y fl T2,a ta=none->upd a ta (.tup [.str y]) d=none->Thr X pins (σ.set i none) (upd (upd a ta (.tup [.str y])) d (.xd (fls.zip f))) m c C (some d,.ref ta,.ref e) fl (some T2)->X.xe (.ref c) m)(hd1:Dbg xB)(a6:Dbg n)(a8:SE (X.sui e) x1 es:=by rfl)(b9:BT (X.sui e) cpos es:=by rfl):wpAny (model X.prog X.w) X.A (handleBy (.ref e) X.env [.ExceptHandler (some tx) (some n) [.Raise (some (.Call (.Name xB np) (x1::es) [] cpos)) (some (.Name n p3)) rpos] hpos]) Q X.xe s:=by
 refine wpAny_handleBy_cons (codeAny_handlers_test (c4 _ _ λv sx t' hx=>?_)) (by intro q;cases q);refine(hx _).here ?_;refine arZ (t'.qg λh' t5=>?_);have J:=t5.known;have S:i<σ.length:=by rw[t.inv.len];exact(ao8.mp O).1
 refine jz (X:=X.sui e) (J.sui e) hN O (Or.inl N) (v:=.ref e) (u:=.ref e) rfl (λs2 J2 _=>?_) (Or.inr N);have a2:(σ.set i (some (V.ref e)))[i]?=some (some (.ref e)):=apc S;refine ar5 (vj (C:=C) (Ch:=Ce) (h:=e) rfl ?_);refine apn (ya (X:=X.sui e) (Z:=λv s3=>∃c d ta y f a,v=.ref c/\R f a/\a ta=none/\upd a ta (.tup [.str y]) d=none/\Inv (X.sui e) pins (σ.set i (some (.ref e))) (upd (upd a ta (.tup [.str y])) d (.xd (fls.zip f))) s3/\s3.heap.get? c=some (dz C (some d) (.ref ta))/\FpX (X.sui e) pins (upd (upd a ta (.tup [.str y])) d (.xd (fls.zip f))) c) (R:=R) hg hm q a7 F gm hr hb c0 J2 c5 (λf a z=>?_) hd1 a8 b9) (λv s3 h3=>?_) λ_ _ z=>z.elim;.obtain⟨z1,_,z3,_⟩:=hR f a z;exact⟨z1,z3,b8,λs c d ta y P y2 j y4 I p l=>⟨c,d,ta,y,f,a,rfl,z,P,j,I,p,l⟩⟩
 obtain⟨c,c8,a0,rfl,hB,p,c9,d,ta,y,f,a,ez,hz,P,j,K,x,l⟩:=h3;cases ez;rw[p]at x;cases x;obtain⟨_,sm,_,fin⟩:=hR f a hz;refine⟨c,some d,.ref ta,rfl,hB,p,aj7 K O N a2 (λu r=>?_) a6⟩;cases show u=Value.ref e from r;have nd:d≠ta:=λz=>by rw[z,ah]at j;cases j
 have d1:a d=none:=by rwa[ae nd]at j
 have D:aw (upd H e (.ext (excAt e Ce dx))) (upd (upd a ta (.tup [.str y])) d (.xd (fls.zip f))):=sm.trans ((au P _).trans (au j _));have B:=D e _ ah;have ne:e≠c:=λz=>by have:=l.1;rw[<-z,B]at this;cases this
 obtain⟨⟨oh,U,g1,g2,g3,g4,g5,_⟩,_⟩:=K.hok e _ B;refine⟨rfl,hB,p,ne,qe.elim λ_=>ExB.of K.kIn,⟨oh,U,g1,g2,g4,_,nc,g5,(Y.keep D).ctx K l.1⟩,λh6 k6 e6=>?_⟩;have I6:Inv (X.sui e) pins (σ.set i (some (.ref e))) _ {s3 with heap:=h6}:=K.ajl (ch:=[c]) (λb hb=>by rw[apZ.mp hb];exact l) (λb o q hc _=>k6 b o (λz=>hc (by rw[z];exact apu)) q) λb o q hc _=>⟨o.slots,k6 b o (λz=>hc (by rw[z];exact apu)) q⟩;have t6:Thr (X.sui e) pins (σ.set i (some (.ref e))) _ {s3 with heap:=h6} c C (some d,.ref ta,.ref e) .none none:=⟨I6,⟨_,_,e6,rfl,rfl,rfl,rfl,rfl,rfl⟩,l,λt z=>by cases z⟩;refine t6.note hs hf λh7 T7 d0 t7=>t7.gone hN O N λs8 t8=>t8.pass λh9 d3 t9=>t9.note hs hf λd2 a9 c6 b0=>b0.aoX λc7 A g=>?_;have w:=g.inv;rw[List.set_set]at w;exact fin _ c d ta y A a9 P j ⟨t.inv.back w,g.trc,g.fe,g.fT⟩
end
end L2
namespace L2
open PySem PySem.Spec PyProof.Rows
section
variable{X:Cx}
def ai6(t:TA):TE:=λc H Q=>t c H λb a=>∃j:Int,b=[.int j]/\-2^62<=j/\j<2^62/\∀r,a r=none->Q (.ref r) (upd a r (.rng 0 j))
def abF{a:Expr}{ta:TA}{p pos:Pos}(m:Gl X "range")(l:X.mg "range"=none)(g:PA X [a] ta)(n:starEach [a] X.env=[(false,eval a X.env)]:=by rfl):PE X (.Call (.Name "range" p) [a] [] pos) (ai6 ta):=by intro c s k H Q I h;refine Call_ (kZ I m l asx (apV (thn (g pos c s k H _ I h) λv s1 d=>?_) n rfl));obtain⟨w,r,f,r1,q1⟩:=d;obtain⟨j,rfl,_,_,q⟩:=q1;obtain⟨u,rfl,i⟩:=vals1 r1;obtain⟨t,rfl⟩:=i;exact call_range_1 ⟨.ref s1.heap.objs.size,_,f.laid (o:=.rng 0 j) (λb o e=>ao4 _ e) (ao6 _) ⟨_,_,_,apg _ rfl⟩,rfl,q _ (f.hok.fresh (ao6 _))⟩
def rZ(y:X.calm=true):bP X (.type "list") λg H Q=>∃(r:Addr)(n:Nat),g=[.ref r]/\H r=some (.rng 0 n)/\n<=1000/\∀l,H l=none->Q (.ref l) (upd H l (.lst ((List.range n).map λi=>.int (i:Nat)))):=by
 intro j s C H g d Q I r h;obtain⟨a,n,rfl,z,w,q⟩:=h;obtain⟨u,rfl,B⟩:=vals1 r;cases show u=Value.ref a from B;obtain⟨t,u,v,e⟩:=show cL X.prog X.w H s.heap a (.rng 0 n)from I.hok a _ z;refine call_list_range (n:=n) (I.ok.hd y) e (small_one (by omega) (by omega) (by omega) (by omega)) (by rw[rangeSize_one];split<;>omega) (by omega) λD tk c x kp A b=>?_;refine⟨.ref s.heap.objs.size,_,I.laid (t':=tk) (o:=.lst ((List.range n).map λi=>.int (i:Nat))) kp (ao6 _) ⟨?_,c.toList,x,?_,by simpa using A⟩,rfl,q _ (I.hok.fresh (ao6 _))⟩;.rw[apv,List.length_range];exact apb w (by decide)
 .have go:∀(d:List Value)(k:Nat),(∀(i:Nat)(v:Value),d[i]?=some v->∃t,v=.int ((k+i:Nat):Int) t)->Vals ((List.range' k d.length).map λi=>V.int (i:Nat)) d:=by intro d;induction d with|nil=>intro k _;exact .nil|cons u d ih=>
    intro k m;rw[apj,List.range'_succ,apA];refine .cons ?_ (ih (k+1) λi v f=>?_);.obtain⟨t,e⟩:=m 0 u rfl;exact⟨t,by simpa using e⟩
    .obtain⟨t,e⟩:=m (i+1) v (by simpa using f);exact⟨t,by rw[e];congr 1;omega⟩
  have p:c.toList.length=n:=by simpa using b.1
  have:=go c.toList 0 λi v f=>by obtain⟨t,e⟩:=b.2 i v (by simpa using f);exact⟨t,by rw[e];congr 1;omega⟩
  rw[p]at this;rw[List.range_eq_range'];exact this
end
def Itd(a:Addr)(od:Obj)(kvs:List (Key×V)):It:=⟨λi H=>H a=some (.frz od (.dK kvs))/\i<kvs.length,λi H x b=>b=H/\∃p,kvs[i]?=some p/\x=kV p.1,λi H=>H a=some (.frz od (.dK kvs))/\kvs.length<=i⟩
section
variable{X:Cx}{pins:List (Addr×Obj)}{σ:St}{H:Hp}{s:Shared}{a:Addr}{kvs:List (Key×V)}{od:Obj}
def Inv.am0(I:Inv X pins σ H s)(e:H a=some (.frz od (.dK kvs))):(a==sysModules)=false/\∃d b c,KV kvs d/\od.data=.dict b c/\s.heap.DictAt (bE X.prog X.w) a d c:=by obtain⟨i,z,l,d,f,o,b,c,h,n,g,j,k,m⟩:=I.hok a _ e;rw[i]at h;cases h;exact⟨l,d,b,c,f,g,od,b,i,n,g,j,k,m⟩
def KV.get{kvs:List (Key×V)}{vs:List (Key×Value)}(r:KV kvs vs){i:Nat}{p:Key×V}(e:kvs[i]?=some p):∃q:Key×Value,vs[i]?=some q/\p.1=q.1/\RelV p.2 q.2:=by unfold KV at r;induction r generalizing i with|nil=>simp at e|cons h t ih=>cases i with|zero=>simp at e;subst e;exact⟨_,rfl,h⟩|succ i=>simpa using ih (by simpa using e)
end
def aaS{P:Program}{w:World}{K:W.Frag}{tg:Expr}(a it:Addr)(od:Obj)(kvs:List (Key×V))(ep:Nat)(hep:∃es,od.data=.dict es ep):Turn P w K tg (Itd a od kvs) [it] it λi h=>h.IsKeyIter it a i kvs.length ep where
 mem:=by simp
 obj:=λi h st b hb=>by
  have e:b=it:=by simpa using hb
  subst e;obtain⟨o,e,c,d⟩:=st;exact⟨o,e,λv z=>by rw[d]at z;cases z⟩
 keep:=λi h h' st k=>st.at λo e=>k it (by simp) o e;item:=by intro X hP hw hK i pins s σ H E hc I hf st hg;subst hP hw hK;obtain⟨hq,hi⟩:=hg;obtain⟨hd,vs,es,ep',rel,hdat,hat⟩:=I.am0 hq;obtain⟨es',he⟩:=hep;rw[hdat]at he;cases he;obtain⟨q,hx,hk,rq⟩:=rel.get (apf hi);obtain⟨k,v⟩:=q;obtain⟨f0,f1,f2,f3,f4,f5⟩:=hf it (by simp);have hl:=rel.length;refine wpAny_pyNext_dict_item (show s.heap.IsKeyIter it a i vs.length ep by rw[<-hl];exact st) hat hx λkey h' hkey st' sb=>?_;have I1:Inv X pins σ H {s with heap:=h'}:=I.turned (t':=s.toks) (λb o hb e=>(sb.2 b hb).trans e) f0 f1 f3 f4 f5;obtain⟨o,e,c,d⟩:=id st';refine⟨key,rfl,zG (s:={s with heap:=h'}) e c d (by decide) ⟨kV kvs[i].1,H,I1,?_,⟨rfl,kvs[i],apf hi,rfl⟩,by rw[hl];exact st',λb hb=>(hf b hb).1⟩⟩;rw[hk];exact af1 hkey
 done:=by intro X hP hw hK i pins s σ H E hc I hf st hg;subst hP hw hK;obtain⟨hq,hi⟩:=hg;obtain⟨hd,vs,es,ep',rel,hdat,hat⟩:=I.am0 hq;obtain⟨es',he⟩:=hep;rw[hdat]at he;cases he;obtain⟨f0,f1,f2,f3,f4,f5⟩:=hf it (by simp);have hl:=rel.length;exact wpAny_pyNext_dict_end (I.ok.hd hc) (show s.heap.IsKeyIter it a i vs.length ep by rw[<-hl];exact st) hat (by simp;omega) λh' eb=>⟨rfl,I.turned (t':=s.toks) (λb o hb e=>eb b o hb e) f0 f1 f3 f4 f5⟩
 self:=λ_ _ _ _ _ st h=>wpAny_pyIter_keyiter st h
def aoS(d:TE):TI:=λe H R=>d e H λx c=>∃a od b,x=.ref a/\c a=some (.frz od (.dK b))/\R (Itd a od b) c
def abE{X w l m}(t:PE X l m):PI X w l (aoS m):=by
 intro d s u H R I h;refine thn (t d s u H _ I h) λv s1 g=>?_;refine oC g λx n f r1 q1=>?_;refine aag q1 λa od i e z q=>?_;subst e;cases r1;obtain⟨y,A,p,r,k,c,j⟩:=f.am0 z;refine wpAny_pyIter_dict y j (aiG s1.heap.objs.size [s1.heap.objs.size] _ _ n rfl (f.kept λb o e=>ao4 _ e) (aaS a _ od i r ⟨p,c⟩) ⟨_,apg _ rfl,rfl,by rw[k.length];rfl⟩ (λb B=>?_) q);have e:b=s1.heap.objs.size:=by grind
 subst e;exact f.aiv (ao6 _) (f.hok.fresh (ao6 _))
def Inv.akx{X pins}{d:St}{H s a kvs}(I:Inv X pins d H s)(e:H a=some (.dK kvs)):∃od,Inv X pins d (upd H a (.frz od (.dK kvs))) s/\∀o u,X.H₀ a≠some (.frz o u):=by have ob:=I.hok a _ e;obtain⟨z,h,i,b,o,f,g,c,r⟩:=id ob;refine⟨o,rO  I (by rw[e];exact True.intro) (Heap.SameBut.refl ..) ⟨o,c⟩ ⟨c,z,h,i,b,o,f,g,c,r⟩,λj u z=>?_⟩;have:=I.base.frzs a _ u z;rw[e]at this;cases this
def Inv.acy{X pins}{h:St}{H s a kvs od}(I:Inv X pins h H s)(e:H a=some (.frz od (.dK kvs)))(m:∀o u,X.H₀ a≠some (.frz o u)):Inv X pins h (upd H a (.dK kvs)) s:=by
 have ob:=I.hok a _ e;have nn:∀{b:Addr},H b=none->upd H a (.dK kvs) b=none:=λ{b}z=>by rw[ae λq=>by rw[q,e]at z;cases z];exact z
 refine⟨I.ok,I.os,I.bare,⟨I.base.keep,I.base.slot,λb o q n j=>nn (I.base.free b o q n j),I.base.there,λb g q=>?_,λb o u q=>?_,λb t q=>?_⟩,I.loc,I.cell,nn I.free,λx c q=>nn (I.freeC x c q),λp w=>?_,λb u q=>?_,I.len⟩;.have z:=I.base.tups b g q;rw[ae λy=>by rw[y,e]at z;cases z];exact z
 .have z:=I.base.frzs b o u q;rw[ae λy=>by rw[y]at q;exact m _ _ q];exact z
 .obtain⟨d,z⟩:=I.base.tbls b t q;exact⟨d,by rw[ae λy=>by rw[y,e]at z;cases z];exact z⟩
 .refine agz (I.pin p w) λk v l=>?_;exact⟨k,nn v,l⟩
 .have f:∀{b:Addr}{u:HO},cL X.prog X.w H s.heap b u->cL X.prog X.w (upd H a (.dK kvs)) s.heap b u:=λ{b u}x=>x.u0 (λ_ _ _ q=>q) (λc r=>by rw[ae λy=>by rw[y,e]at r;cases r];exact r) λc g r=>by rw[ae λy=>by rw[y,e]at r;cases r];exact r
  by_cases i:b=a;.subst i;rw[ah]at q;cases q;exact f ob.2
  .rw[ae i]at q;exact f (I.hok b u q)
end L2
namespace WL
open PySem
inductive W where|non|bl(b:Bool)|int(i:Int)|str(x:Str)|ty(n:String)|tup(xs:List W)|lst(xs:List W)/-- a dict that is read alone: its keys,its values;a class of the text;an exception: its class,its fields -/|dic(ks vs:List W)|cls(c:String)|exc(c:String)(fs:List W)/-- an object that is made: its class,its fields -/|ins(c:String)(fs:List W)/-- a thing that is written,by its place alone -/|id(a:Nat)
inductive Res(α:Type)where|ok(a:α)|ex(c:W)|bad
noncomputable def Res.bind{α b}:Res α->(α->Res b)->Res b|.ok a,f=>f a|.ex c,_=>.ex c|.bad,_=>.bad
inductive Sl where|no|va(w:W)|ow(ws:List W)|od(ks vs:List W)|ob
abbrev Ws:=List Sl
abbrev EF:=Ws->Res W
abbrev TF:=Ws->Res Bool
abbrev AF:=Ws->Res (List W)
abbrev LF:=Ws->Res (List W)
abbrev GF:=W->Ws->Res Ws
inductive Out where|nx(σ:Ws)|rt(w:W)|bk(σ:Ws)|ct(σ:Ws)|ex(c:W)(σ:Ws)|bad
abbrev SF:=Ws->Out
mutual def eqv:W->W->Bool|.non,.non=>true|.bl a,.bl b=>a==b|.bl a,.int j=>(if a then 1 else 0)==j|.int i,.bl b=>i==if b then 1 else 0|.int i,.int j=>i==j|.str x,.str y=>x==y|.lst xs,.lst ys=>alx xs ys|.tup xs,.tup ys=>alx xs ys|_,_=>false def alx:List W->List W->Bool|[],[]=>true|x::xs,y::ys=>eqv x y&&alx xs ys|_,_=>false end
mutual def okD:Nat->W->Bool|_,.non=>true|_,.bl _=>true|_,.int _=>true|_,.str x=>x.cps.all (.<0x110000)|_,.ty _=>false|n,.tup xs=>nk n xs|n,.lst xs=>nk n xs|_,.dic _ _=>false|_,.cls _=>false|_,.exc _ _=>false|_,.ins _ _=>false|_,.id _=>false def nk:Nat->List W->Bool|0,_=>false|_+1,[]=>true|n+1,x::xs=>okD n x&&nk (n+1) xs end
noncomputable def ahg:W->W->Bool|.non,.non=>true|.non,.int _=>true|.int _,.non=>true|.non,.bl _=>true|.bl _,.non=>true|.non,.str _=>true|.str _,.non=>true|.int _,.int _=>true|.bl _,.bl _=>true|.str _,.str _=>true|.int _,.str _=>true|.str _,.int _=>true|.bl _,.str _=>true|.str _,.bl _=>true|_,_=>false
def oEq(x y:W):Res W:=if ahg x y then .ok (.bl (eqv x y))else if okD 50 x&&okD 50 y then .ok (.bl (eqv x y))else .bad
def oNe(x y:W):Res W:=if ahg x y then .ok (.bl !eqv x y)else if okD 50 x&&okD 50 y then .ok (.bl !eqv x y)else .bad
noncomputable def oo(x:W):List W->Bool|[]=>false|y::ys=>eqv y x||oo x ys
def oIn(x:W):W->Res W|.lst ys=>if okD 50 x&&nk 51 ys then .ok (.bl (oo x ys))else .bad|.tup ys=>if okD 50 x&&nk 51 ys then .ok (.bl (oo x ys))else .bad|_=>.bad
def hX(x:W):W->Res W|.lst ys=>if okD 50 x&&nk 51 ys then .ok (.bl !oo x ys)else .bad|.tup ys=>if okD 50 x&&nk 51 ys then .ok (.bl !oo x ys)else .bad|_=>.bad
noncomputable def lim:Nat:=1000000
def iC:W->W->Res W|.int i,.int j=>.ok (.int (i+j))|.lst xs,.lst ys=>if xs.length+ys.length<=lim then .ok (.lst (xs++ys))else .bad|.tup xs,.tup ys=>if xs.length+ys.length<=lim then .ok (.tup (xs++ys))else .bad|_,_=>.bad
noncomputable def aak:W->W->Res W|.int i,.int j=>.ok (.int (i-j))|_,_=>.bad
noncomputable def zp:W->W->Res W|.int i,.int j=>if -2^64<i/\i<2^64\/-2^64<j/\j<2^64 then .ok (.int (i*j))else .bad|_,_=>.bad
noncomputable def oDiv:W->W->Res W|.int i,.int j=>if 0<j/\j<10^100 then .ok (.int (i/j))else .bad|_,_=>.bad
noncomputable def oMod:W->W->Res W|.int i,.int j=>if 0<j then .ok (.int (i%j))else .bad|_,_=>.bad
noncomputable def u1:W->Res W|.int i=>.ok (.int (-i))|_=>.bad
noncomputable def oLt:W->W->Res W|.int i,.int j=>.ok (.bl (decide (i<j)))|_,_=>.bad
noncomputable def oLe:W->W->Res W|.int i,.int j=>.ok (.bl (decide (i<=j)))|_,_=>.bad
noncomputable def oGt:W->W->Res W|.int i,.int j=>.ok (.bl (decide (j<i)))|_,_=>.bad
noncomputable def ahO:W->Bool|.non=>true|_=>false
noncomputable def isB(b:Bool):W->Bool|.bl c=>b==c|_=>false
def oIs(x:W):W->Res W|.non=>.ok (.bl (ahO x))|.bl b=>.ok (.bl (isB b x))|_=>.bad
def nu(x:W):W->Res W|.non=>.ok (.bl !ahO x)|.bl b=>.ok (.bl !isB b x)|_=>.bad
noncomputable def ixN(n:Nat)(i:Int):Option Nat:=if 0<=i then if i<n then some i.toNat else none else if -(n:Int)<=i then some (i+n).toNat else none
def atI{α:Type}(xs:List α)(i:Int):Option α:=(ixN xs.length i).bind λj=>xs[j]?
noncomputable def ofO{α}:Option α->Res α|some a=>.ok a|none=>.bad
@[simp]def alj{α}(a:α):ofO (some a)=.ok a:=(rfl)
noncomputable def rT(k:Str):List W->List W->Option W|.str x::ks,v::vs=>if x==k then some v else rT k ks vs|_,_=>none
def oIx:W->W->Res W|.lst xs,.int i=>ofO (atI xs i)|.tup xs,.int i=>ofO (atI xs i)|.dic ks vs,.str k=>ofO (rT k ks vs)|_,_=>.bad
noncomputable def sIx(n d:Nat):Option Int->Nat|none=>d|some v=>if v<0 then(v+(n:Int)).toNat else min v.toNat n
def cut{α:Type}(xs:List α)(lo a:Option Int):List α:=(xs.drop (sIx xs.length 0 lo)).take (sIx xs.length xs.length a-sIx xs.length 0 lo)
def oSl:W->Option Int->Option Int->Res W|.lst xs,lo,hi=>.ok (.lst (cut xs lo hi))|.tup xs,lo,hi=>if sIx xs.length 0 lo=0/\sIx xs.length xs.length hi=xs.length then .bad else .ok (.tup (cut xs lo hi))|_,_,_=>.bad
noncomputable def gE:List W->Res W|[.lst xs]=>.ok (.int xs.length)|[.tup xs]=>.ok (.int xs.length)|_=>.bad
noncomputable def lC:List W->Res W|[.lst xs]=>.ok (.tup xs)|[.tup xs]=>.ok (.tup xs)|_=>.bad
noncomputable def allB:List W->Option Bool|[]=>some true|.bl b::xs=>(allB xs).map λc=>b&&c|_=>none
def afr:List W->Res W
|[.lst xs]=>match allB xs with|some b=>.ok (.bl b)|none=>.bad
|_=>.bad
noncomputable def ace:W->String|.non=>"NoneType"|.bl _=>"bool"|.int _=>"int"|.str _=>"str"|.ty _=>"type"|.tup _=>"tuple"|.lst _=>"list"|.dic _ _=>"dict"|.cls _=>"type"|.exc _ _=>"exception"|.ins _ _=>"object"|.id _=>"object"
def isK(w:W)(t:String):Option Bool:=match w with|.ty _=>none|.dic _ _=>none|.cls _=>none|.exc _ _=>none|.ins _ _=>none|.id _=>none|_=>if["int","bool","str","list","tuple"].contains t then some (ace w==t||ace w=="bool"&&t=="int")else none
def cq:List W->Res W
|[x,.ty t]=>match isK x t with|some b=>.ok (.bl b)|none=>.bad
|_=>.bad
mutual def ltW:W->W->Bool|.int i,.int j=>decide (i<j)|.tup xs,.tup ys=>amO xs ys|_,_=>false def amO:List W->List W->Bool|[],[]=>false|[],_::_=>true|_::_,[]=>false|x::xs,y::ys=>if eqv x y then amO xs ys else ltW x y end
mutual def alF:W->W->Bool|.int _,.int _=>true|.tup xs,.tup ys=>afl xs ys|_,_=>false def afl:List W->List W->Bool|x::xs,y::ys=>alF x y&&afl xs ys|_,_=>true end
noncomputable def agy(a:Nat->Nat->Bool):Nat->Nat|0=>0|k+1=>if a (k+1) (agy a k)then k+1 else agy a k
def minOf(ys:List W):Res W:=if 0<ys.length/\nk 51 ys=true/\(ys.all λx=>ys.all λy=>alF x y)=true then ofO ys[agy (λi j=>ltW (ys.getD i .non) (ys.getD j .non)) (ys.length-1)]? else .bad
def adp:List W->Res W|[.lst ys]=>minOf ys|_=>.bad
noncomputable def ai(i:Nat):EF:=λa=>match a[i]? with|some (.va w)=>.ok w|_=>.bad
noncomputable def eC(w:W):EF:=λ_=>.ok w
def eOp(r:W->W->Res W)(a b:EF):EF:=λc=>(a c).bind λx=>(b c).bind λy=>r x y
def eUn(r:W->Res W)(a:EF):EF:=λb=>(a b).bind r
def qj(r e:W->W->Res W)(a b c:EF):EF:=λd=>(a d).bind λx=>(b d).bind λy=>(r x y).bind λz=>match z with|.bl true=>(c d).bind λw=>e y w|.bl false=>.ok (.bl false)|_=>.bad
noncomputable def toB:W->Res Bool|.bl b=>.ok b|_=>.bad
def tB(e:EF):TF:=λa=>(e a).bind toB
def sQ(a b:TF):TF:=λc=>(a c).bind λx=>match x with|true=>b c|false=>.ok false
def tOr(a b:TF):TF:=λc=>(a c).bind λx=>match x with|true=>.ok true|false=>b c
def i9(a:TF):TF:=λb=>(a b).bind λx=>.ok !x
def afc(a b:EF):EF:=λc=>(a c).bind λx=>match x with|.bl true=>b c|.bl false=>.ok (.bl false)|_=>.bad
def aoc(a:EF):EF:=λc=>(a c).bind λx=>match x with|.bl b=>.ok (.bl !b)|_=>.bad
def eIf(t:TF)(a b:EF):EF:=λc=>(t c).bind λx=>match x with|true=>a c|false=>b c
noncomputable def aq:AF:=λ_=>.ok []
def aa(e:EF)(a:AF):AF:=λb=>(e b).bind λx=>(a b).bind λc=>.ok (x::c)
def ik(a:AF):EF:=λc=>(a c).bind λb=>if b.length<=lim then .ok (.tup b)else .bad
def iZ(a:AF):EF:=λc=>(a c).bind λb=>if b.length<=lim then .ok (.lst b)else .bad
def aH(f:List W->Res W)(a:AF):EF:=λb=>(a b).bind λws=>match f ws with|.ok w=>.ok w|_=>.bad
def eBi(f:List W->Res W)(a:AF):EF:=λb=>(a b).bind f
def me(T:String)(r:W->List W->Res W)(o:EF)(a:AF):EF:=λb=>(o b).bind λx=>if ace x==T then(a b).bind λws=>r x ws else .bad
noncomputable def idx(x:W):Nat->List W->Option Nat|_,[]=>none|k,y::ys=>if eqv y x then some k else idx x (k+1) ys
def pS:W->List W->Res W|.lst ys,[x]=>if okD 50 x&&nk 51 ys&&decide (ys.length<=lim)then match idx x 0 ys with|some k=>.ok (.int k)|none=>.bad else .bad|_,_=>.bad
noncomputable def gZ:List W->Option (List W×List W)|[]=>some ([],[])|.str k::v::r=>(gZ r).map λp=>(.str k::p.1,v::p.2)|_=>none
noncomputable def bS:List W->Bool|[]=>true|.str k::ks=>!(ks.any λx=>match x with|.str y=>y==k|_=>true)&&bS ks|_=>false
def alB(a:AF):EF:=λb=>(a b).bind λc=>match gZ c with|some (ks,vs)=>if bS ks&&decide (ks.length<=15)then .ok (.dic ks vs)else .bad|none=>.bad
noncomputable def pNo:Ws->Res (Option Int):=λ_=>.ok none
def hU(e:EF):Ws->Res (Option Int):=λa=>(e a).bind λx=>match x with|.int i=>.ok (some i)|_=>.bad
def eSl(e:EF)(lo b:Ws->Res (Option Int)):EF:=λa=>(e a).bind λx=>(lo a).bind λl=>(b a).bind λh=>oSl x l h
noncomputable def itemsOf:W->Res (List W)|.lst xs=>.ok xs|.tup xs=>.ok xs|_=>.bad
def se(e:EF):LF:=λa=>(e a).bind itemsOf
noncomputable def rng(lo:Int)(n:Nat):List W:=(List.range n).map λi=>.int (lo+(i:Nat))
def gz(e:EF):LF:=λa=>(e a).bind λx=>match x with|.int j=>if -2^62<=j/\j<2^62 then .ok (rng 0 j.toNat)else .bad|_=>.bad
def vM(e b:EF):LF:=λa=>(e a).bind λx=>(b a).bind λy=>match x,y with|.int i,.int j=>if -2^62<=i/\i<2^62/\-2^62<=j/\j<2^62 then .ok (rng i (j-i).toNat)else .bad|_,_=>.bad
noncomputable def rK:Nat->List W->List W|_,[]=>[]|k,x::xs=>.tup [.int k,x]::rK (k+1) xs
def aeY(e:EF):LF:=λa=>(e a).bind λx=>match x with|.tup xs=>.ok (rK 0 xs)|.lst xs=>.ok (rK 0 xs)|_=>.bad
noncomputable def aN(i:Nat):GF:=λw a=>.ok (a.set i (.va w))
abbrev GsF:=List W->Ws->Res Ws
noncomputable def adI:GsF:=λws a=>match ws with|[]=>.ok a|_=>.bad
noncomputable def iE(g:GF)(b:GsF):GsF:=λws a=>match ws with|w::r=>(match g w a with|.ok σ'=>(match b r σ' with|.ok σ2=>.ok σ2|_=>.bad)|_=>.bad)|[]=>.bad
noncomputable def adH(b:GsF):GF:=λw a=>match w with|.tup ws=>b ws a|_=>.bad
noncomputable def dA(g:GF)(t:TF)(e:EF)(c:Ws):List W->Res (List W)|[]=>.ok []|x::xs=>(g x c).bind λa=>(t a).bind λb=>match b with|true=>(e a).bind λy=>(dA g t e c xs).bind λd=>.ok (y::d)|false=>dA g t e c xs
noncomputable def oH:TF:=λ_=>.ok true
def amU(k:Nat)(it:LF)(g:GF)(t:TF)(e:EF):LF:=λb=>(it b).bind λa=>if a.length<=lim then match dA g t e (List.replicate k .no++b) a with|.ok ys=>.ok ys|_=>.bad else .bad
def gB(k:Nat)(it:LF)(g:GF)(t:TF)(e:EF):EF:=λb=>(amU k it g t e b).bind λa=>.ok (.lst a)
noncomputable def frz(i:Nat)(a:Ws):Ws:=match a[i]? with|some (.ow ws)=>a.set i (.va (.lst ws))|some (.od ks vs)=>a.set i (.va (.dic ks vs))|_=>a
mutual def plain:W->Bool|.tup xs=>mW xs|.lst _=>false|.dic _ _=>false|.exc _ _=>false|.ins _ _=>false|.id _=>false|_=>true def mW:List W->Bool|[]=>true|x::xs=>plain x&&mW xs end
def aod(i:Nat)(e:EF):EF:=λa=>match e (frz i a)with|.ok w=>if plain w then .ok w else .bad|_=>.bad
noncomputable def sNx:SF:=λa=>.nx a
noncomputable def aB(a b:SF):SF:=λc=>match a c with|.nx σ'=>b σ'|o=>o
noncomputable def ofR{α}(b:Ws)(r:Res α)(f:α->Out):Out:=match r with|.ok a=>f a|.ex c=>.ex c b|.bad=>.bad
def bh(i:Nat)(e:EF):SF:=λa=>ofR a (e a) λw=>.nx (a.set i (.va w))
def sX(i:Nat)(l:LF):SF:=λa=>ofR a (l a) λws=>.nx (a.set i (.ow ws))
def air(a:AF):LF:=λc=>(a c).bind λb=>if b.length<=lim then .ok b else .bad
def aka(e:EF):LF:=λa=>(e a).bind itemsOf
def anV(e b:EF):LF:=λa=>(e a).bind λx=>(b a).bind λy=>match x,y with|.lst xs,.lst ys=>if xs.length+ys.length<=lim then .ok (xs++ys)else .bad|_,_=>.bad
def amh(e:EF)(g:GF):SF:=λa=>ofR a (e a) λw=>ofR a (g w a) λb=>.nx b
def sIf(t:TF)(a b:SF):SF:=λc=>ofR c (t c) λx=>match x with|true=>a c|false=>b c
def aY(e:EF):SF:=λa=>ofR a (e a) λw=>.rt w
def zd(e:EF):SF:=λa=>ofR a (e a) λ_=>.nx a
def ajk(i:Nat)(e:EF):SF:=λa=>match a[i]? with|some (.ow ws)=>ofR a (e a) λw=>if ws.length<lim then .nx (a.set i (.ow (ws++[w])))else .bad|_=>.bad
def aji(i:Nat)(t:SF):SF:=λa=>t (frz i a)
noncomputable def forL(g:GF)(b:SF):List W->Ws->Out|[],σ=>.nx σ|x::xs,σ=>ofR σ (g x σ) λa=>match b a with|.nx σ2=>forL g b xs σ2|.ct σ2=>forL g b xs σ2|.bk σ2=>.nx σ2|o=>o
def sY(it:LF)(g:GF)(b:SF):SF:=λa=>ofR a (it a) λc=>forL g b c a
noncomputable def xg(c:TF)(b:SF):Nat->Ws->Out|0,_=>.bad|n+1,σ=>ofR σ (c σ) λx=>match x with
 |true=>match b σ with|.nx σ2=>xg c b n σ2|.ct σ2=>xg c b n σ2|.bk σ2=>.nx σ2|o=>o
 |false=>.nx σ
def abh(n:Ws->Nat)(c:TF)(b:SF):SF:=λa=>xg c b (n a) a
noncomputable def rE:List String:=["FloorError","NotEven","NoCall","NoName","NoProgram","TooMany","NoPairs","NoRow","Blind","Out","Meet","Broken"]
noncomputable def uZ(nm d:String):Bool:=nm==d||d=="FloorError"
noncomputable def fieldsOf(nm:String):List Str:=if nm=="Blind"then["who"]else if nm=="Out"then["who"]else if nm=="Meet"then["one","other"]else if nm=="Broken"then["at","why"]else[]
def wy(d:String):W->Bool|.exc nm _=>uZ nm d|_=>false
noncomputable def dh:SF:=λ_=>.bad
noncomputable def aiZ:List W->Bool|[.str x]=>decide (x.length<=5000)|_=>false
def jA(nm:String)(a:AF):SF:=λb=>ofR b (a b) λws=>if aiZ ws=true then .ex (.exc nm []) b else .bad
def aM(f:List W->Res W)(a:AF):EF:=λb=>(a b).bind f
def uo(d:String)(i:Nat)(h:SF)(c:W)(a:Ws):Out:=if wy d c then match h (a.set i (.va c))with|.nx σ2=>.nx (σ2.set i .no)|.rt w=>.rt w|_=>.bad else .bad
def pO(b:SF)(d:String)(i:Nat)(h:SF):SF:=λa=>match b a with|.ex c σ'=>uo d i h c σ'|o=>o
noncomputable def fw(c:String):List Str:=if c=="Book"then["calls"]else if c=="Search"then["goal","most","rows","seen"]else if c=="PairedFloor"then["floor","pairs","middles"]else if c=="Run"then["book","floors"]else if c=="Desk"then["texts","book","floor","past"]else[]
noncomputable def run(n:Nat)(t:SF)(ws:List W):Res W:=match t (ws.map .va++List.replicate (n-ws.length) .no)with|.rt w=>.ok w|.nx _=>.ok .non|.ex c _=>.ex c|_=>.bad
def u2:List W->Res W|[.exc nm _,.cls d]=>.ok (.bl (uZ nm d))|[.exc _ _,.ty "ValueError"]=>.ok (.bl true)|_=>.bad
@[simp]def alI(nm d:String)(fs:List W):u2 [.exc nm fs,.cls d]=.ok (.bl (uZ nm d)):=rfl
@[simp]def ang(nm:String)(fs:List W):u2 [.exc nm fs,.ty "ValueError"]=.ok (.bl true):=rfl
noncomputable def iQ:W->Bool|.int i=>decide (i.natAbs.log2<100)|_=>false
def vh(nm:String)(a:AF):SF:=λb=>ofR b (a b) λws=>if ws.length=(fieldsOf nm).length/\ws.all iQ=true then .ex (.exc nm ws) b else .bad
def an0(f:Str):W->Res W
|.exc nm fs=>match((fieldsOf nm).zip fs).lookup f with|some w=>.ok w|none=>.bad
|_=>.bad
def alA(a:EF)(f:Str):EF:=λb=>(a b).bind (an0 f)
noncomputable def zr(a:Ws):Ws:=a.map λs=>match s with|.ow _=>.no|.od _ _=>.no|s=>s
def akb(k:Nat)(it:LF)(g:GF)(t:TF)(e:EF):LF:=λb=>(it b).bind λa=>if a.length<=lim then dA g t e (List.replicate k .no++zr b) a else .bad
def uz(k:Nat)(it:LF)(g:GF)(t:TF)(e:EF):EF:=λb=>(akb k it g t e b).bind λa=>.ok (.lst a)
def eLR(e:EF):EF:=λa=>(e a).bind λx=>match x with|.int j=>if 0<=j/\j<=1000 then .ok (.lst (rng 0 j.toNat))else .bad|_=>.bad
end WL
namespace SF
open PySem PySem.Builtin PySem.Builtin.Str PySem.StrLaws
noncomputable def adF(sub:List Nat)(k:Nat):Nat->Nat->List Nat->List Nat|_,_,[]=>[]|i,free,c::l=>if Nat.ble free i&&sub.isPrefixOf (c::l)then i::adF sub k (i+1) (i+k) l else adF sub k (i+1) free l
noncomputable def akR(xs:List Nat)(k:Nat):Nat->List Nat->List Str|st,[]=>[⟨(xs.drop st).toArray⟩]|st,c::cs=>⟨((xs.drop st).take (c-st)).toArray⟩::akR xs k (c+k) cs
def aja(x y:Str)(i:Nat)(a:y.length≠0):i+y.length<=x.length/\subAt x y i=true↔y.cps.toList.isPrefixOf (x.cps.toList.drop i)=true:=by
 obtain⟨e⟩:=x;obtain⟨f⟩:=y;simp only[Str.length]at a⊢;unfold subAt;simp only[Str.length,ap2];rw[List.isPrefixOf_iff_prefix,List.prefix_iff_eq_take,<-aqP,ars];simp only[aqS,aqQ];constructor;.rintro⟨d,b⟩;rw[<-b];simp[asv];try omega
 .intro h;have c:=aqq List.length h;simp at c;refine⟨by omega,?_⟩;rw[asv];rw[h];simp;try omega
theorem abW(x y:Str)(f:y.length≠0):∀(m i free:Nat)(a:Array Nat),i+m=x.length+1->a.size<=i->(forIn (List.range' i m) (a,free) (occBody x y x.length (x.length+1))).run.fst.toList=a.toList++adF y.cps.toList y.length i free (x.cps.toList.drop i)
|0,i,free,a,hm,ha=>by
  have:x.cps.toList.drop i=[]:=by rw[art];exact apb (aqz _) (ar8 hm.symm)
  rw[this];simp[adF]|m+1,i,free,a,hm,ha=>by
  have l:=aja x y i f;rw[List.range'_succ,List.forIn_cons];have h:a.size<x.length+1:=hm▸aqZ ha (Nat.lt_add_of_pos_right (Nat.succ_pos m));have d:=(Nat.succ_add_eq_add_succ i m).trans hm;by_cases c:free<=i/\y.cps.toList.isPrefixOf (x.cps.toList.drop i)=true
  .have g:=l.mpr c.2;have j:occBody x y x.length (x.length+1) i (a,free)=pure (ForInStep.yield (a.push i,i+y.length)):=by unfold occBody;rw[apa ⟨⟨⟨h,c.1⟩,g.1⟩,g.2⟩]
   rw[j];have b:i<x.cps.toList.length:=apd (Nat.lt_add_of_pos_right (Nat.pos_of_ne_zero f)) g.1;have k:=abW x y f m (i+1) (i+y.length) (a.push i) d (by rw[Array.size_push];exact Nat.succ_le_succ ha);have e:x.cps.toList.drop i=x.cps.toList[i]::x.cps.toList.drop (i+1):=apI b;rw[e]at c⊢;simp only[adF,c.2,ar1.mpr c.1,Bool.and_self,aqR];refine Eq.trans k ?_;simp
  .have j:occBody x y x.length (x.length+1) i (a,free)=pure (ForInStep.yield (a,free)):=by unfold occBody;rw[ao9];rintro⟨⟨⟨_,o⟩,p⟩,n⟩;exact c ⟨o,l.mp ⟨p,n⟩⟩
   rw[j];have k:=abW x y f m (i+1) free a d (Nat.le_succ_of_le ha);refine Eq.trans k ?_;by_cases b:i<x.cps.toList.length
   .have e:x.cps.toList.drop i=x.cps.toList[i]::x.cps.toList.drop (i+1):=apI b;rw[e]at c⊢;have:(Nat.ble free i&&y.cps.toList.isPrefixOf (x.cps.toList[i]::x.cps.toList.drop (i+1)))=false:=by rw[Bool.eq_false_iff];intro z;rw[apk,ar1]at z;exact c z
    simp only[adF,this,ap6,aqL]
   .have r:x.cps.toList.drop i=[]:=art.mpr (ase b);have q:x.cps.toList.drop (i+1)=[]:=art.mpr (Nat.le_succ_of_le (ase b));rw[r,q];simp[adF]
def xY(x y:Str)(a:y.length≠0):occurrences x y 0 x.length (x.length+1)=adF y.cps.toList y.length 0 0 x.cps.toList:=by rw[StrLaws.occ_eq];have:=abW x y a (x.length+1) 0 0 #[] (Nat.zero_add _) (ao6 _);simpa using this
theorem xU(x:Str)(k:Nat):∀(a:List Nat)(st:Nat),((st::a.map (.+k)).zip (a++[x.length])).map (λ(p:Nat×Nat)=>strSub x p.1 p.2)=akR x.cps.toList k st a|[],st=>by simp only[List.map_nil,List.nil_append,aqX,List.zip_nil_right,apA,akR,List.zip_nil_left];congr 1;unfold strSub;congr 1;apply aqP.mp;rw[ars];simp[aqQ,Str.length,List.take_of_length_le]|c::a,st=>by have b:=xU x k a (c+k);simp only[apA,List.cons_append,aqX,akR];rw[<-b];congr 1;unfold strSub;congr 1;apply aqP.mp;rw[ars,aqQ];first|rfl|(rw[asv];done)|skip
def aa5(x y:Str):List Str:=match adF y.cps.toList y.length 0 0 x.cps.toList with|[]=>[x]|c::cs=>akR x.cps.toList y.length 0 (c::cs)
def y7(x y:Str)(b:y.length≠0)(hk:strKind y=1):Txt.split x y=aa5 x y:=by
 unfold Txt.split aa5;rw[xY x y b];have a:decide (strKind x<strKind y)=false:=by
  rw[hk];unfold PySem.Builtin.Str.strKind;split;.rfl
  .split<;>rfl
 rw[a];cases e:adF y.cps.toList y.length 0 0 x.cps.toList with|nil=>simp|cons c cs=>
  have f:¬x.length<y.length:=λz=>by have d:=xY x y b;rw[e]at d;have:=occ_spec x y 0 x.length (x.length+1) c (by rw[d];simp);omega
  simp only[apJ f,Bool.or_self,ap6,aqL,arW];exact xU x y.length (c::cs) 0
noncomputable def uh(a:List Nat):List Str->List Nat|[]=>[]|[x]=>x.cps.toList|x::y::r=>x.cps.toList++(a++uh a (y::r))
theorem jg(b:Str):∀(r:List Str)(a:Array Nat),(r.foldl (λa p=>a++b.cps++p.cps) a).toList=a.toList++match r with|[]=>[]|_=>b.cps.toList++uh b.cps.toList r
|[],a=>by simp|[x],a=>by simp[uh]|x::y::r,a=>by have:=jg b (y::r) (a++b.cps++x.cps);rw[List.foldl_cons,this];simp[uh]
def ack(a:Str)(ys:List Str):Txt.join a ys=⟨(uh a.cps.toList ys).toArray⟩:=by unfold Txt.join glued;congr 1;apply aqP.mp;cases ys with|nil=>simp[uh,Str.empty]|cons x r=>have:=jg a r x.cps;simp only[List.drop_succ_cons,aqH,List.headD_cons];rw[this];cases r with|nil|cons y r=>simp[uh]
end SF
namespace WL
open PySem
def qX:W->W->Res W|.str x,.str y=>if x.length+y.length<=lim then .ok (.str (x++y))else .bad|_,_=>.bad
def fq:W->List W->Res W|.str x,[.str y]=>if y.length≠0/\Builtin.Str.strKind y=1/\x.length<=lim then .ok (.lst ((SF.aa5 x y).map .str))else .bad|_,_=>.bad
noncomputable def jc:W->List W->Res W|.str x,[.str y]=>.ok (.bl (Txt.startswith x y))|_,_=>.bad
def jM:W->List W->Res W|.str x,[.str y]=>if y.length≠0/\x.length<=lim then .ok (.tup [.str (Txt.partition x y).1,.str (Txt.partition x y).2.1,.str (Txt.partition x y).2.2])else .bad|_,_=>.bad
noncomputable def strsOf:List W->Option (List Str)|[]=>some []|.str x::r=>(strsOf r).map (x::.)|_=>none
def rl:W->List W->Res W
|.str x,[.lst ws]=>match strsOf ws with|some ys=>if(ys.map (·.length)).sum+ys.length*x.length<=lim then .ok (.str ⟨(SF.uh x.cps.toList ys).toArray⟩)else .bad|none=>.bad
|_,_=>.bad
def vy:W->W->Res W|.str x,.int i=>if 0<=i/\x.length<=lim then .ok (.str (Txt.slice x (some i) none))else .bad|_,_=>.bad
noncomputable def ain(lo st:Int)(n:Nat):List W:=(List.range n).map λi=>.int (lo+(i:Nat)*st)
def aeX(a b:EF):LF:=λc=>(a c).bind λx=>(b c).bind λy=>match x,y with|.int i,.int j=>if -2^60<=i/\i<2^60/\-2^60<=j/\j<2^60 then .ok (ain i 2 ((j-i+1)/2).toNat)else .bad|_,_=>.bad
noncomputable def an4:W->Res W|.int i=>if i.natAbs<1000 then .ok (.int i)else .bad|.str x=>if x.length<=1000 then .ok (.str x)else .bad|_=>.bad
noncomputable def shL:List W->Option Nat|[]=>some 3|.str x::r=>(shL r).map (.+(10*x.length+4))|.int i::r=>if i.natAbs<1000 then(shL r).map (.+12)else none|_=>none
def shC(ws:List W):Bool:=nk 51 ws&&match shL ws with|some n=>decide (n<=80000)|none=>false
def akz:W->Res W|.str x=>if x.length<=5000/\(x.cps.toList.all λc=>Nat.ble c 1114111)=true then .ok (.str x)else .bad|.lst ws=>if shC ws=true then .ok (.lst ws)else .bad|.int i=>if i.natAbs<1000 then .ok (.int i)else .bad|.non=>.ok .non|.tup ws=>if shC ws=true then .ok (.tup ws)else .bad|.bl b=>.ok (.bl b)|_=>.bad
def eFf(e:EF):EF:=λa=>(e a).bind an4
def eFr(e:EF):EF:=λa=>(e a).bind akz
def bM(nm:String)(a:AF):SF:=λb=>ofR b (a b) λ_=>.ex (.exc nm []) b
noncomputable def r6:List W->Res W|[.int i]=>if i.natAbs.log2<1920 then .ok (.str (toString i))else .bad|[.str x]=>.ok (.str x)|_=>.bad
def aot:W->Res Bool|.str y=>if y.length<=lim then .ok !y.length==0 else .bad|_=>.bad
def tS(e:EF):TF:=λa=>(e a).bind aot
noncomputable def aal:W->Bool|.str _=>true|.int _=>true|.non=>true|_=>false
noncomputable def zC:W->W->Bool|.str x,.str y=>x==y|.int i,.int j=>i==j|.non,.non=>true|_,_=>false
def aiw(k:W)(ks:List W):Bool:=ks.any λx=>zC x k
noncomputable def afj(k v:W):List W->List W->List W|k'::ks,v'::vs=>(if zC k' k then v else v')::afj k v ks vs|_,_=>[]
def putK(ks:List W)(k:W):List W:=if aiw k ks then ks else ks++[k]
def af5(ks us:List W)(k v:W):List W:=if aiw k ks then afj k v ks us else us++[v]
def putD(i:Nat)(ks us:List W)(k v:W)(a:Ws):Out:=if aal k=true/\ks.length<lim then .nx (a.set i (.od (putK ks k) (af5 ks us k v)))else .bad
def iB(i:Nat)(ev b:EF):SF:=λa=>match a[i]? with|some (.od ks us)=>ofR a (ev a) λv=>ofR a (b a) λk=>putD i ks us k v a|_=>.bad
noncomputable def ait(i:Nat):LF:=λa=>match a[i]? with|some (.va (.dic ks _))=>.ok ks|_=>.bad
def aad:List W->Res W|[.str x]=>if x.length<=lim then .ok (.int x.length)else .bad|[.dic ks _]=>.ok (.int ks.length)|ws=>gE ws
def aeA(x y:W):Res W:=match x,y with|.str z,.int i=>if z.length<=lim then match atI z.cps.toList i with|some c=>.ok (.str ⟨#[c]⟩)|none=>.bad else .bad|x,y=>oIx x y
def ajU(x y:W):Res W:=match x,y with|.str a,.str b=>.ok (.bl !(Builtin.Str.occurrences b a 0 b.length 1).isEmpty)|_,.str _=>.bad|x,y=>oIn x y
noncomputable def signs(x:Str):List W:=x.cps.toList.map λc=>.str ⟨#[c]⟩
def anW(e:EF):LF:=λa=>(e a).bind λw=>match w with|.str x=>if x.cps.all (.<128)=true then .ok (signs x)else .bad|_=>.bad
end WL
namespace WL
def adE(tv:EF):EF:=λa=>tv (zr (a.take 3))
def ab5(tv:EF):SF:=sY (ait 1) (aN 2) (iB 3 (adE tv) (ai 2))
noncomputable def am3:Out->Res W
|.nx σ=>match(σ[3]?:Option Sl)with|some (.od ks us)=>.ok (.dic ks us)|_=>.bad
|.ex c _=>.ex c|_=>.bad
noncomputable def clr(a:Ws):Ws:=a.map λs=>match s with|.va w=>.va w|_=>.no
def amK(tv:EF)(a:Ws):Res W:=match(a[0]?:Option Sl)with|some .ob=>if a.length=3 then am3 (ab5 tv (clr a++[.od [] []]))else .bad|_=>.bad
def anF(b a:SF)(tv:EF):List W->Res W
|[w]=>match aB b a [.ob,.va w,.no]with|.nx σ=>amK tv σ|.ex c _=>.ex c|_=>.bad
|_=>.bad
end WL
namespace WL
open PySem
def lq(c:String)(f:List W->Res W)(a:AF):EF:=λb=>(a b).bind λws=>(f ws).bind λd=>.ok (.ins c [d])
noncomputable def an3(c:String):W->Res W|.ins c' [w]=>if c'==c then .ok w else .bad|_=>.bad
def acT(c:String)(e:EF):EF:=λa=>(e a).bind (an3 c)
noncomputable def isI(c:String):W->Bool|.ins c' [_]=>c'==c|_=>false
def nY(c:String)(f:List W->Res W)(o:EF)(a:AF):EF:=λb=>(o b).bind λx=>if isI c x then(a b).bind λws=>f (x::ws)else .bad
def nq(x y:W):Res W:=match y with|.dic ks _=>if aal x=true then .ok (.bl !aiw x ks)else .bad|_=>hX x y
noncomputable def z6(k:W):List W->List W->Option W|k'::ks,v::vs=>if zC k' k then some v else z6 k ks vs|_,_=>none
def aip(x y:W):Res W:=match x with|.dic ks us=>if aal y=true then ofO (z6 y ks us)else .bad|_=>oIx x y
def xI(i:Nat)(e:EF):SF:=λa=>ofR a (e a) λw=>match w with|.dic ks us=>.nx (a.set i (.od ks us))|_=>.bad
end WL
namespace WL
open PySem PyProof.Rows PySem.Spec
noncomputable def leS(a b:Str):Bool:=!ltCps b.cps.toList a.cps.toList
def y9(l:List Str):List Str:=l.mergeSort leS
def agx:List W->Res W
|[.lst ws]=>match strsOf ws with|some ss=>if ss.length<64 then .ok (.lst ((y9 ss).map .str))else .bad|none=>.bad
|_=>.bad
def rm(a b:Str):leS a b=true↔a.cps.toList<=b.cps.toList:=by unfold leS;rw[ltCps_eq];simp[List.not_lt]
def nG(a b c:Str)(e:leS a b=true)(d:leS b c=true):leS a c=true:=by rw[rm]at *;exact List.le_trans e d
def ub(a b:Str):(leS a b||leS b a)=true:=by rw[aru,rm,rm];exact List.le_total _ _
def aeJ{a b:Str}(d:leS a b=true)(c:leS b a=true):a=b:=by rw[rm]at *;have:=List.le_antisymm d c;cases a;cases b;congr 1;exact aqP.mp this
theorem qI:∀(r:List Str)(x:Str),risingS x r=true->∀y∈r,leS x y=true
|[],_,_,_,a=>nomatch a|z::r,x,h,y,a=>by
 have b:(leS x z&&risingS z r)=true:=h;rw[apk]at b;rcases apq.mp a with rfl|a;.exact b.1
 .exact nG _ _ _ b.1 (qI r z b.2 y a)
def sZ:∀(r:List Str)(x:Str),risingS x r=true->sortedS r=true|[],_,_=>rfl|z::r,x,h=>by have a:(leS x z&&risingS z r)=true:=h;rw[apk]at a;exact a.2
theorem mP:∀(b a:List Str),sortedS b=true->sortedS a=true->b.Perm a->b=a
|[],a,_,_,p=>by simpa using p|x::r1,[],_,_,p=>by simpa using p|x::r1,y::r2,h1,h2,p=>by
  have a1:=qI r1 x h1;have a2:=qI r2 y h2;have e:x=y:=by
   rcases apq.mp (p.mem_iff.mp (apu ..):x∈y::r2)with z|z;.exact z
   .rcases apq.mp (p.mem_iff.mpr (apu ..):y∈x::r1)with w|w;.exact w.symm
    .exact aeJ (a1 y w) (a2 x z)
  subst e;rw[mP r1 r2 (sZ r1 x h1) (sZ r2 x h2) (List.Perm.cons_inv p)]
def y8(l:List Str):(y9 l).Perm l:=List.mergeSort_perm l leS
def sT(l:List Str):sortedS (y9 l)=true:=by refine sortedS_of_pairwise _ ?_;have:=List.pairwise_mergeSort (le:=leS) nG ub l;refine this.imp λ{a b}h=>?_;unfold leS at h;simpa using h
def pM{l a:List Str}(p:a.Perm l)(h:sortedS a=true):a=y9 l:=mP _ _ h (sT l) (p.trans (y8 l).symm)
end WL
namespace WL
open PySem
def akX:List W->Res W|[.dic ks _]=>agx [.lst ks]|ws=>agx ws
def am2(l:LF):Out->Res W|.nx σ=>(l σ).bind λa=>.ok (.lst a)|.ex c _=>.ex c|_=>.bad
def af0(n:Nat)(t:SF)(l:LF):List W->Res W:=λws=>am2 l (t (ws.map .va++List.replicate (n-ws.length) .no))
noncomputable def asL:W->Res (List W)|.lst xs=>.ok xs|_=>.bad
def yk(e:EF):LF:=λa=>(e a).bind λx=>match x with|.dic _ _=>(akX [x]).bind asL|_=>.bad
noncomputable def aeB:W->W->Res W|.int i,.int j=>.ok (.int (i+j))|_,_=>.bad
noncomputable def aou:W->Res Bool|.lst xs=>.ok !xs.isEmpty|_=>.bad
def tL(e:EF):TF:=λa=>(e a).bind aou
inductive OX(S:Type)where|nx(σ:Ws)(s:S)|bk(σ:Ws)(s:S)|ct(σ:Ws)(s:S)|rt(w:W)(s:S)|ex(c:W)(σ:Ws)|bad
abbrev RF(S:Type):=Ws->S->OX S
variable{S:Type}
noncomputable def aR(t:SF):RF S:=λa s=>match t a with|.nx σ'=>.nx σ' s|.bk σ'=>.bk σ' s|.ct σ'=>.ct σ' s|.rt w=>.rt w s|.ex c σ'=>.ex c σ'|.bad=>.bad
noncomputable def cj(a b:RF S):RF S:=λc s=>match a c s with|.nx σ' s'=>b σ' s'|o=>o
noncomputable def xNx:RF S:=λa s=>.nx a s
noncomputable def seen(adr:S->Nat)(val:S->W)(j:Nat)(a:Ws)(s:S):Option Ws:=match a[j]? with|some (.va (.id b))=>if b=adr s then some (a.set j (.va (val s)))else none|_=>none
def xT(adr:S->Nat)(val:S->W)(j:Nat)(t:TF)(a:Ws)(s:S):Res Bool:=match seen adr val j a s with|some σ'=>t σ'|none=>.bad
noncomputable def wV(r:Res Bool)(a b:OX S):OX S:=match r with|.ok true=>a|.ok false=>b|_=>.bad
def xIf(t:Ws->S->Res Bool)(a b:RF S):RF S:=λc s=>wV (t c s) (a c s) (b c s)
noncomputable def ans(t:Ws->S->Res Bool)(b:RF S):Nat->Ws->S->OX S|0,_,_=>.bad|n+1,σ,s=>wV (t σ s) (match b σ s with|.nx σ' s'=>ans t b n σ' s'|.ct σ' s'=>ans t b n σ' s'|.bk σ' s'=>.nx σ' s'|o=>o) (.nx σ s)
noncomputable def lE(k:Nat)(b:RF S):List W->Ws->S->OX S|[],σ,s=>.nx σ s|x::xs,σ,s=>match b (σ.set k (.va x)) s with|.nx σ2 s2=>lE k b xs σ2 s2|.ct σ2 s2=>lE k b xs σ2 s2|.bk σ2 s2=>.nx σ2 s2|o=>o
def adQ(adr:S->Nat)(val:S->W)(j i:Nat)(e:EF):RF S:=λa s=>match seen adr val j a s with
|some σ'=>match e σ' with|.ok w=>if plain w=true then .nx (a.set i (.va w)) s else .bad|_=>.bad
|none=>.bad
noncomputable def runM(n:Nat)(t:RF S):List W->S->OX S:=λws s=>t (ws.map .va++List.replicate (n-ws.length) .no) s
noncomputable def ofM(a:Ws):OX S->OX S|.nx _ s'=>.nx a s'|.rt _ s'=>.nx a s'|.ex c _=>.ex c a|_=>.bad
noncomputable def ahV(c:String)(n:Nat):W->Res W|.ins c' ws=>if c'==c then match ws[n]? with|some w=>.ok w|none=>.bad else .bad|_=>.bad
def cK(c:String)(n:Nat)(e:EF):EF:=λa=>(e a).bind (ahV c n)
noncomputable def isN(c:String):W->Bool|.ins c' _=>c'==c|_=>false
def aO(c:String)(d:List W->Res W)(o:EF)(a:AF):EF:=λb=>(o b).bind λy=>if isN c y=true then(a b).bind λws=>d (y::ws)else .bad
structure Rn where
 a:Nat
 r:Nat
 book:W
 floors:List W
def Rn.val(s:Rn):W:=.ins "Run" [s.book,.lst s.floors]
def Rn.aij(s:Rn):W:=.ins "Run" [s.book,.id s.r]
noncomputable def tuh:List W->Bool|.tup _::_=>true|_=>false
noncomputable def isInt:W->Bool|.int _=>true|_=>false
def anR:W->Bool|.lst ws=>ws.all isInt|_=>false
variable{S:Type}
def yP(adr:S->Nat)(val:S->W)(j i:Nat)(e:EF):RF S:=λa s=>match seen adr val j a s with
|some σ'=>match e σ' with|.ok w=>.nx (a.set i (.va w)) s|_=>.bad
|none=>.bad
def jY(it:LF)(k:Nat)(b:RF S):RF S:=λa s=>match it a with|.ok xs=>lE k b xs a s|_=>.bad
abbrev AXF(S:Type):=Ws->S->Res (List W)
noncomputable def axN:AXF S:=λ_ _=>.ok []
def axP(e:EF)(a:AXF S):AXF S:=λb s=>(e b).bind λx=>(a b s).bind λc=>.ok (x::c)
def axL(j:Nat)(e:EF)(a:AXF Rn):AXF Rn:=λb s=>match seen Rn.a Rn.val j b s with
|some σ'=>match e σ' with|.ok w=>if anR w=true/\tuh s.floors=true then(a b s).bind λc=>.ok (w::c)else .bad|_=>.bad
|none=>.bad
def de(j:Nat)(d:List W->Rn->OX Rn)(a:AXF Rn):RF Rn:=λc s=>match c[j]? with|some (.va (.id b))=>if b=s.a then match a c s with|.ok ws=>ofM c (d (.id b::ws) s)|_=>.bad else .bad|_=>.bad
noncomputable def isC(a:List String):W->Bool|.exc nm _=>a.contains nm|_=>false
def u6(b:List String)(ci:Nat)(e:EF):RF Rn:=λa s=>match seen Rn.a Rn.val 0 a s with
|some σ'=>(match e σ' with
 |.ok w=>if plain w=true/\s.floors.length<lim then .nx a {s with floors:=s.floors++[w]}else .bad|.ex c=>match a[ci]? with|some (.va w)=>if iQ w=true/\isC b c=true then .ex (.exc "Broken" [w,c]) (List.replicate a.length .no)else .bad|_=>.bad
 |.bad=>.bad)|none=>.bad
def aav(j:Nat)(e:EF):RF Rn:=λa s=>match seen Rn.a Rn.val j a s with
|some σ'=>match e σ' with|.ok w=>.rt w s|_=>.bad
|none=>.bad
def yM(t:RF Rn)(b:Ws)(j:Nat)(d e:W)(o:Res W):Prop:=∀a r:Nat,match t (b.set j (.va (.id a))) ⟨a,r,d,[e]⟩with|.rt w _=>o=.ok w|.ex c σ'=>o=.ex c/\σ'.length=b.length|_=>False
noncomputable def ja(j:Nat)(b:AF)(t:RF Rn):SF:=λa=>match b a with|.ok [wb,wf]=>@dite _ (∃o:Res W,yM t a j wb wf o) (Classical.propDecidable _) (λh=>match Classical.choose h with|.ok w=>.rt w|.ex c=>.ex c (List.replicate a.length .no)|.bad=>.bad) λ_=>.bad|_=>.bad
def akT(ci:Nat)(c:W)(a:Ws):Out:=match c with|.exc nm [.int n,w]=>if nm="Broken"then match a[ci]? with|some (.va (.int m))=>if iQ (.int (m+n))=true then .ex (.exc "Broken" [.int (m+n),w]) (List.replicate a.length .no)else .bad|_=>.bad else .bad|_=>.bad
def xF(tb:SF)(ci:Nat):SF:=λa=>match tb a with|.ex c σ'=>akT ci c σ'|o=>o
structure Dk where
 a:Nat
 p:Nat
 texts:W
 book:W
 floor:W
 past:List W
def Dk.val(s:Dk):W:=.ins "Desk" [s.texts,s.book,s.floor,.lst s.past]
def Dk.get(s:Dk):Nat->W|0=>s.texts|1=>s.book|_=>s.floor
def Dk.put(s:Dk)(w:W):Nat->Dk|0=>{s with texts:=w}|1=>{s with book:=w}|_=>{s with floor:=w}
def atD{α}(j:Nat)(a:Ws)(s:Dk)(z o:α):α:=match(a[j]?:Option Sl)with|some (.va (.id b))=>if b=s.a then o else z|_=>z
def ae5(j n:Nat)(s:Dk):EF:=λa=>atD j a s .bad (.ok (s.get n))
def sr(t:Dk->SF):RF Dk:=λa s=>aR (t s) a s
def yQ(n:Nat)(te:Dk->EF):RF Dk:=λa s=>atD 0 a s .bad (match te s a with|.ok w=>.nx a (s.put w n)|_=>.bad)
def agJ:RF Dk:=λa s=>atD 0 a s .bad (if s.past.length<lim then .nx a {s with past:=s.past++[s.floor]}else .bad)
def agI:RF Dk:=λa s=>atD 0 a s .bad (match s.past.getLast? with|some w=>.nx a {s with floor:=w,past:=s.past.dropLast}|none=>.bad)
abbrev XE(S:Type):=Ws->S->Option (W×S)
abbrev XT(S:Type):=Ws->S->Option (Bool×S)
def xeW(j:Nat)(c:List W->Dk->OX Dk)(a:AF):XE Dk:=λb s=>atD j b s none (match a b with|.ok ws=>(match c (.id s.a::ws) s with|.rt w s'=>some (w,s')|_=>none)|_=>none)
def xeR(j:Nat)(te:EF):XE Dk:=λa s=>match seen Dk.a Dk.val j a s with|some σ'=>(match te σ' with|.ok w=>if plain w=true then some (w,s)else none|_=>none)|none=>none
noncomputable def sd(r:W->W->Res W)(e:XE Dk)(c:W):XE Dk:=λa s=>match e a s with|some (w,s')=>(match r w c with|.ok b=>some (b,s')|_=>none)|none=>none
noncomputable def oF(e b:XE Dk):XE Dk:=λa s=>match e a s with|some (.bl true,s')=>b a s'|some (.bl false,s')=>some (.bl false,s')|_=>none
noncomputable def xtE(e:XE Dk):XT Dk:=λa s=>match e a s with|some (.bl b,s')=>some (b,s')|_=>none
def xtR(j:Nat)(t:TF):XT Dk:=λa s=>match xT Dk.a Dk.val j t a s with|.ok b=>some (b,s)|_=>none
noncomputable def yN(t t':XT Dk):XT Dk:=λa s=>match t a s with|some (true,s')=>t' a s'|some (false,s')=>some (false,s')|none=>none
noncomputable def alb(t t':XT Dk):XT Dk:=λa s=>match t a s with|some (false,s')=>t' a s'|some (true,s')=>some (true,s')|none=>none
noncomputable def adD(t:XT Dk)(a b:RF Dk):RF Dk:=λc s=>match t c s with|some (true,s')=>a c s'|some (false,s')=>b c s'|none=>.bad
noncomputable def gw(e:XE Dk):RF Dk:=λa s=>match e a s with|some (w,s')=>.rt w s'|none=>.bad
noncomputable def mq(e:XE Dk):RF Dk:=λa s=>match e a s with|some (_,s')=>.nx a s'|none=>.bad
def aau(j i:Nat)(a:AF):RF Dk:=λb s=>match seen Dk.a Dk.val j b s with
|some σ'=>match a σ' with|.ok ws=>if mW ws=true/\ws.length<=lim then .nx (b.set i (.va (.lst ws))) s else .bad|_=>.bad
|none=>.bad
def adB(t:RF Dk)(d:Ws)(j:Nat)(c b:W)(w:W):Prop:=∀a p:Nat,∃s,t (d.set j (.va (.id a))) ⟨a,p,.dic [] [],c,b,[]⟩=.rt w s
noncomputable def hJ(j:Nat)(b:Res W)(a:W)(t:RF Dk):SF:=λc=>match b with|.ok wb=>@dite _ (∃w:W,adB t c j wb a w) (Classical.propDecidable _) (λh=>.rt (Classical.choose h)) λ_=>.bad|_=>.bad
def xG(i:Nat)(t:SF):SF:=λa=>match t a with|.nx σ'=>.nx (frz i σ')|o=>o
def ajj(te:EF):SF:=λa=>ofR a (te a) λ_=>.bad
end WL
namespace WL
def anD(i:Nat)(e:EF):SF:=λa=>match a[i]? with
|some (.ow ws)=>ofR a (e a) λw=>match w with|.lst zs=>if ws.length+zs.length<=lim then .nx (a.set i (.ow (ws++zs)))else .bad|_=>.bad
|_=>.bad
end WL
namespace WL
open PySem.W(KasT kas_sort)
end WL
namespace WL
end WL
namespace WL
open PySem PyProof.Rows PySem.Spec
noncomputable def ais(x:Str):List Str->List Str|[]=>[x]|y::r=>if leS x y=true then x::y::r else y::ais x r
noncomputable def uj:List Str->List Str|[]=>[]|x::r=>ais x (uj r)
theorem nM(x:Str):∀l,(ais x l).Perm (x::l)
|[]=>.refl _|y::r=>by
 unfold ais;split;.exact .refl _
 .exact(List.Perm.cons y (nM x r)).trans (List.Perm.swap x y r)
theorem acq(x:Str):∀l,l.Pairwise (λa b=>leS a b=true)->(ais x l).Pairwise λa b=>leS a b=true
|[],_=>List.pairwise_singleton ..|y::r,h=>by
 have f:=aqy.mp h;unfold ais;split;.rename_i d;exact aqy.mpr ⟨λz c=>(apq.mp c).elim (λe=>e▸d) λc=>nG _ _ _ d (f.1 z c),h⟩
 .rename_i d;have t:=ub x y;rw[aru]at t;exact aqy.mpr ⟨λz c=>(apq.mp ((nM x r).mem_iff.mp c)).elim (λe=>e▸t.resolve_left d) (f.1 z),acq x r f.2⟩
theorem qb:∀l,(uj l).Perm l|[]=>.refl _|x::r=>(nM x _).trans (List.Perm.cons x (qb r))
theorem yn:∀l,(uj l).Pairwise λa b=>leS a b=true|[]=>.nil|x::r=>acq x _ (yn r)
def aeQ(l:List Str):uj l=y9 l:=pM (qb l) (sortedS_of_pairwise _ ((yn l).imp λ{a b}h=>by unfold leS at h;simpa using h))
def yj(e:EF):LF:=λa=>(e a).bind λx=>match x with
|.dic ks _=>match strsOf ks with|some ss=>if ss.length<64 then .ok ((uj ss).map .str)else .bad|none=>.bad
|_=>.bad
def acd:yj=yk:=by funext e σ;unfold yj yk;congr 1;funext x;cases x with
|dic ks us=>show _=(match strsOf ks with|some ss=>if ss.length<64 then Res.ok (WL.W.lst ((y9 ss).map WL.W.str))else .bad|none=>.bad).bind asL;dsimp only;cases strsOf ks with|none=>rfl|some ss=>
  dsimp only;split;.rw[aeQ];rfl
  .rfl
|_=>rfl
end WL
namespace WL
def agu(f:List W->Res W)(a:AF):EF:=λb=>(a b).bind λws=>match f ws with|.ex c=>.ex c|_=>.bad
end WL
namespace WL
open PySem
abbrev eI(i:Int):EF:=eC (.int i)
abbrev eS(x:Str):EF:=eC (.str x)
def uW(xs:List Str):AF:=λ_=>.ok (xs.map .str)
@[simp]def ank(xs:List Str)(a:Ws):uW xs a=.ok (xs.map .str):=(rfl)
end WL
namespace L2
open PySem PySem.Spec PyProof.Rows
def aw.rd{H H'}(e:aw H H'){a u}(q:Rd H a u):Rd H' a u:=q.imp (e _ _) λ⟨o,z⟩=>⟨o,e _ _ z⟩
end L2
namespace WS
open PySem PySem.Spec PyProof.Rows L2
open WL(Res Sl Ws EF TF AF LF GF GsF SF Out OX RF Rn AXF Dk XE XT)
abbrev VW:=WL.W
def ExcAt(K:W.Frag)(nm:String)(C:Addr):Prop:=nm∈WL.rE/\W.nsIn K mainGlobals (Str.ofString nm)=some (some (.ref C))
mutual def RW(K:W.Frag)(H:Hp):VW->V->Prop|.non,v=>v=.non|.bl b,v=>v=.bl b|.int i,v=>v=.int i|.str x,v=>v=.str x|.ty n,v=>v=.ty n|.tup ws,v=>∃a vs,v=.ref a/\SqT K H a vs/\RWs K H ws vs|.lst ws,v=>∃a vs,v=.ref a/\SqL K H a vs/\RWs K H ws vs|.dic ks vs,v=>∃a kvs,v=.ref a/\Rd H a (.dK kvs)/\RWs K H ks (kvs.map λp=>kV p.1)/\RWs K H vs (kvs.map λp=>p.2)|.cls d,v=>∃a,v=.ref a/\ExcAt K d a|.exc nm fs,v=>∃a C dx,v=.ref a/\H a=some (.ext (excAt a C dx))/\ExcAt K nm C/\∃fvs:List (Str×V),fvs.map (·.1)=WL.fieldsOf nm/\RWs K H fs (fvs.map (·.2))/\(fvs=[]/\dx.1=none\/∃d,dx.1=some d/\H d=some (.xd fvs))|.ins c fs,v=>∃a C dx,∃fvs:List (Str×V),v=.ref a/\H a=some (.ins C dx fvs)/\W.nsIn K mainGlobals (Str.ofString c)=some (some (.ref C))/\fvs.map (·.1)=WL.fw c/\fvs≠[]/\RWs K H fs (fvs.map (·.2))|.id a,v=>v=.ref a def RWs(K:W.Frag)(H:Hp):List VW->List V->Prop|[],vs=>vs=[]|w::ws,vs=>∃v r,vs=v::r/\RW K H w v/\RWs K H ws r end
section
variable{K:W.Frag}{H H':Hp}
mutual theorem RW.via(ht:∀a xs,SqT K H a xs->SqT K H' a xs)(hl:∀a xs,SqL K H a xs->SqL K H' a xs)(hd:∀a kvs,Rd H a (.dK kvs)->Rd H' a (.dK kvs))(he:∀a φ,H a=some (.ext φ)->H' a=some (.ext φ))(hx:∀a fs,H a=some (.xd fs)->H' a=some (.xd fs))(hi:∀a C dx fs,fs≠[]->H a=some (.ins C dx fs)->H' a=some (.ins C dx fs)):∀(w:VW)(v:V),RW K H w v->RW K H' w v|.non,_,h=>by simpa only[RW]using h|.bl _,_,h=>by simpa only[RW]using h|.int _,_,h=>by simpa only[RW]using h|.str _,_,h=>by simpa only[RW]using h|.ty _,_,h=>by simpa only[RW]using h|.tup ws,_,h=>by obtain⟨a,vs,e,q,r⟩:=h;exact⟨a,vs,e,ht a vs q,RWs.via ht hl hd he hx hi ws vs r⟩|.lst ws,_,h=>by simp only[RW]at h⊢;obtain⟨a,vs,e,q,r⟩:=h;exact⟨a,vs,e,hl a vs q,RWs.via ht hl hd he hx hi ws vs r⟩|.dic ks vs,_,h=>by simp only[RW]at h⊢;obtain⟨a,kvs,e,q,r1,r2⟩:=h;exact⟨a,kvs,e,hd a kvs q,RWs.via ht hl hd he hx hi ks _ r1,RWs.via ht hl hd he hx hi vs _ r2⟩|.cls _,_,h=>by simpa only[RW]using h|.id _,_,h=>by simpa only[RW]using h|.exc nm fs,_,h=>by simp only[RW]at h⊢;obtain⟨a,C,dx,e,q,c,fvs,f1,f2,f3⟩:=h;exact⟨a,C,dx,e,he _ _ q,c,fvs,f1,RWs.via ht hl hd he hx hi fs _ f2,f3.imp (λz=>z) λ⟨d,z1,z2⟩=>⟨d,z1,hx _ _ z2⟩⟩|.ins c fs,_,h=>by simp only[RW]at h⊢;obtain⟨a,C,dx,fvs,e,q,c1,c2,c3,r⟩:=h;exact⟨a,C,dx,fvs,e,hi _ _ _ _ c3 q,c1,c2,c3,RWs.via ht hl hd he hx hi fs _ r⟩theorem RWs.via(ht:∀a xs,SqT K H a xs->SqT K H' a xs)(hl:∀a xs,SqL K H a xs->SqL K H' a xs)(hd:∀a kvs,Rd H a (.dK kvs)->Rd H' a (.dK kvs))(he:∀a φ,H a=some (.ext φ)->H' a=some (.ext φ))(hx:∀a fs,H a=some (.xd fs)->H' a=some (.xd fs))(hi:∀a C dx fs,fs≠[]->H a=some (.ins C dx fs)->H' a=some (.ins C dx fs)):∀(ws:List VW)(vs:List V),RWs K H ws vs->RWs K H' ws vs|[],_,h=>by simpa only[RWs]using h|w::ws,_,h=>by simp only[RWs]at h⊢;obtain⟨v,r,e,q,t⟩:=h;exact⟨v,r,e,RW.via ht hl hd he hx hi w v q,RWs.via ht hl hd he hx hi ws r t⟩end
def RW.keep(e:aw H H'){w v}(h:RW K H w v):RW K H' w v:=RW.via (λ_ _ q=>e.tup q) (λ_ _ q=>e.seq q) (λ_ _ q=>e.rd q) (λ_ _ q=>e _ _ q) (λ_ _ q=>e _ _ q) (λ_ _ _ _ _ q=>e _ _ q) w v h
def RWs.keep(e:aw H H'){ws vs}(h:RWs K H ws vs):RWs K H' ws vs:=RWs.via (λ_ _ q=>e.tup q) (λ_ _ q=>e.seq q) (λ_ _ q=>e.rd q) (λ_ _ q=>e _ _ q) (λ_ _ q=>e _ _ q) (λ_ _ _ _ _ q=>e _ _ q) _ _ h
mutual theorem RW.less(ht:∀a xs,SqT K H a xs->SqT K H' a xs):∀(w:VW)(v:V),WL.plain w=true->RW K H w v->RW K H' w v|.non,_,_,h=>by simpa only[RW]using h|.bl _,_,_,h=>by simpa only[RW]using h|.int _,_,_,h=>by simpa only[RW]using h|.str _,_,_,h=>by simpa only[RW]using h|.ty _,_,_,h=>by simpa only[RW]using h|.tup ws,_,p,h=>by obtain⟨a,vs,e,q,r⟩:=h;exact⟨a,vs,e,ht a vs q,RWs.less ht ws vs (by assumption) r⟩|.lst ws,_,p,_=>by cases p|.dic _ _,_,p,_=>by cases p|.cls _,_,_,h=>by simpa only[RW]using h|.id _,_,_,h=>by simpa only[RW]using h|.exc _ _,_,p,_=>by cases p|.ins _ _,_,p,_=>by cases p theorem RWs.less(ht:∀a xs,SqT K H a xs->SqT K H' a xs):∀(ws:List VW)(vs:List V),WL.mW ws=true->RWs K H ws vs->RWs K H' ws vs|[],_,_,h=>by simpa only[RWs]using h|w::ws,_,p,h=>by simp only[RWs]at h⊢;have p:=apD.mp p;obtain⟨v,r,e,q,t⟩:=h;exact⟨v,r,e,RW.less ht w v p.1 q,RWs.less ht ws r p.2 t⟩end
theorem RWs.length:∀{ws vs},RWs K H ws vs->ws.length=vs.length|[],_,h=>by subst h;rfl|w::ws,_,h=>by obtain⟨v,r,rfl,_,t⟩:=h;simp [RWs.length t]
theorem RWs.get:∀{ws:List VW}{vs:List V}{i:Nat}{w:VW},RWs K H ws vs->ws[i]?=some w->∃v,vs[i]?=some v/\RW K H w v|[],_,_,_,_,e=>by simp at e|x::ws,_,0,w,h,e=>by simp only[RWs]at h;obtain⟨v,r,rfl,q,_⟩:=h;simp at e;subst e;exact⟨v,rfl,q⟩|x::ws,_,i+1,w,h,e=>by simp only[RWs]at h;obtain⟨v,r,rfl,_,t⟩:=h;obtain⟨u,b,a⟩:=RWs.get t (by simpa using e);exact⟨u,by simpa using b,a⟩
def RWs.get':∀{ws:List VW}{vs:List V}{i:Nat}{v:V},RWs K H ws vs->vs[i]?=some v->∃w,ws[i]?=some w/\RW K H w v:=λ{ws vs i v}h e=>by have d:=h.length;have c:i<vs.length:=(ao8.mp e).1;obtain⟨f,a,b⟩:=RWs.get (w:=ws[i]) h (apf (by omega));rw[e]at a;cases a;exact⟨_,apf (by omega),b⟩
theorem RWs.app:∀{ws a vs b},RWs K H ws vs->RWs K H a b->RWs K H (ws++a) (vs++b)|[],_,_,_,h,h'=>by subst h;exact h'|w::ws,_,_,_,h,h'=>by obtain⟨v,r,rfl,q,t⟩:=h;exact⟨v,_,rfl,q,RWs.app t h'⟩
def RWs.one{w v}(h:RW K H w v):RWs K H [w] [v]:=by exact⟨v,[],rfl,h,rfl⟩
def RWs.cons{w v ws vs}(h:RW K H w v)(t:RWs K H ws vs):RWs K H (w::ws) (v::vs):=by exact⟨v,vs,rfl,h,t⟩
theorem RWs.drop:∀{ws vs}n,RWs K H ws vs->RWs K H (ws.drop n) (vs.drop n)|_,_,0,h=>by grind|[],_,n+1,h=>by subst h;simp[RWs]|w::ws,_,n+1,h=>by obtain⟨v,r,rfl,_,t⟩:=h;simpa using RWs.drop n t
theorem RWs.take:∀{ws vs}n,RWs K H ws vs->RWs K H (ws.take n) (vs.take n)|_,_,0,h=>rfl|[],_,n+1,h=>by subst h;simp[RWs]|w::ws,_,n+1,h=>by obtain⟨v,r,rfl,q,t⟩:=h;exact⟨v,_,rfl,q,RWs.take n t⟩
theorem RWs.cut{ws vs}(h:RWs K H ws vs)(lo a):RWs K H (WL.cut ws lo a) (aix vs lo a):=by unfold WL.cut aix;rw[<-h.length];exact(h.drop _).take _
def RWs.ints(ns:List Int):RWs K H (ns.map .int) (ns.map V.int):=by induction ns with|nil=>simp[RWs]|cons n ns ih=>exact⟨_,_,rfl,rfl,ih⟩
end
def NF:HO->Prop|.frz _ _=>False|.ins _ _ []=>False|_=>True
structure Bx where
 K:W.Frag
 H0:Hp
 F0:Hp
 xp:VW->Ws->Hp->Prop
 mono:∀c σ F F',aw F F'->xp c σ F->xp c σ F'
structure RB(B:Bx)(F H:Hp):Prop where
 sub:aw F H
 base:aw B.H0 H
 fz0:aw B.F0 F
 fr:∀a o,F a=some o->B.F0 a=some o\/B.H0 a=none/\NF o
def IsO:Sl->Prop|.od _ _=>True|.ob=>True|_=>False
structure OD(K:W.Frag)(H0:Hp)(σ:Ws)(σV:L2.St)(F H:Hp):Prop where
 od:∀(i:Nat)(ks us:List VW),σ[i]?=some (.od ks us)->∃a kvs,σV[i]?=some (some (.ref a))/\F a=none/\H0 a=none/\H a=some (.dK kvs)/\RWs K F ks (kvs.map λp=>kV p.1)/\RWs K F us (kvs.map λp=>p.2)ad:∀(i j:Nat)(ks us ks' us':List VW)(a:Addr),i≠j->σ[i]?=some (.od ks us)->σ[j]?=some (.od ks' us')->σV[i]?=some (some (.ref a))->σV[j]?=some (some (.ref a))->False
 ob:∀i:Nat,σ[i]?=some .ob->∃a C dx,σV[i]?=some (some (.ref a))/\F a=some (.ins C dx [])
def OD.via{K E A m B g l k F u H H'}(R:OD K A B l F H)(T:E=K)(f:Nat->Nat)(S:∀i j,f i=f j->i=j\/∀c d,g[i]?≠some (.od c d))(h:∀i w,IsO w->g[i]?=some w->B[f i]?=some w/\k[i]?=l[f i]?)(s:aw F u)(n:∀i(c d:List VW)a b,g[i]?=some (.od c d)->l[f i]?=some (some (.ref a))->H a=some (.dK b)->F a=none->A a=none->u a=none/\m a=none/\H' a=some (.dK b)):OD E m g k u H':=by
 subst T;refine⟨λi c d e=>?_,λi j c d p o a r D I G O=>?_,λi e=>?_⟩;.obtain⟨y,ev⟩:=h i (.od c d) trivial e;refine afz (R.od (f i) c d y) λa b q t N M P Q=>?_;refine agz (n i c d a b e q M t N) λn1 n2 n3=>?_;exact aif a b (ev.trans q) n1 n2 n3 (P.keep s) (Q.keep s)
 .obtain⟨x,v1⟩:=h i (.od c d) trivial D;obtain⟨v,v2⟩:=h j (.od p o) trivial I;refine R.ad _ (f j) c d p o a (λz=>?_) x v (v1.symm.trans G) (v2.symm.trans O);rcases S i j z with z|z;.exact r z
  .exact z _ _ D
 .obtain⟨y,ev⟩:=h i .ob trivial e;refine wN (R.ob (f i) y) λa C J q t=>?_;exact⟨a,C,J,ev.trans q,s _ _ t⟩
structure RS(B:Bx)(σ:Ws)(σV:L2.St)(F H:Hp):Prop where
 rb:RB B F H
 len:σ.length=σV.length
 va:∀(i:Nat)(w:VW),σ[i]?=some (.va w)->∃v,σV[i]?=some (some v)/\RW B.K F w v
 ow:∀(i:Nat)(ws:List VW),σ[i]?=some (.ow ws)->∃a vs,σV[i]?=some (some (.ref a))/\F a=none/\B.H0 a=none/\H a=some (.lst vs)/\RWs B.K F ws vs
 ap:∀(i j:Nat)(ws ws':List VW)(a:Addr),i≠j->σ[i]?=some (.ow ws)->σ[j]?=some (.ow ws')->σV[i]?=some (some (.ref a))->σV[j]?=some (some (.ref a))->False
 dd:OD B.K B.H0 σ σV F H
def RS.ah3{B h c F H d H'}(R:RS B h c F H)(s:aw F d)(n:∀a b,H a=some (.dK b)->F a=none->d a=none/\H' a=some (.dK b)):OD B.K B.H0 h c d H':=R.dd.via rfl _ (λ_ _ z=>.inl z) (λ_ _ _ e=>⟨e,rfl⟩) s λ_ _ _ a b _ _ g f i=>⟨(n a _ g f).1,i,(n a _ g f).2⟩
def RS.akL{B g c F H h H'}(R:RS B g c F H)(i){sl}(u:¬IsO sl)(x)(s:aw F h)(n:∀j(f d:List VW)a b,i≠j->g[j]?=some (.od f d)->c[j]?=some (some (.ref a))->H a=some (.dK b)->F a=none->h a=none/\H' a=some (.dK b)):OD B.K B.H0 (g.set i sl) (c.set i x) h H':=by
 have l:∀{j:Nat}{s':Sl},IsO s'->(g.set i sl)[j]?=some s'->i≠j:=λ{j s'}t e z=>by
  subst z;have q:i<g.length:=by have:=(ao8.mp e).1;simpa using this
  rw[apc q]at e;exact u (aps e▸t)
 refine R.dd.via rfl id (λ_ _ z=>.inl z) (λj f d e=>?_) s λj f d a b e p o m r=>?_;.have:=l d e;rw[ao5 this]at e;exact⟨e,by rw[ao5 this];rfl⟩
 .have k:=l (s':=.od f d) trivial e;rw[ao5 k]at e;obtain⟨n1,n2⟩:=n j f d a b k e p o m;exact⟨n1,r,n2⟩
def set_same{a:L2.St}{i x}(e:a[i]?=some x):a.set i x=a:=by
 apply List.ext_getElem?;intro j;by_cases b:i=j;.subst b;rw[apc (ao8.mp e).1,e]
 .rw[ao5 b]
structure Ext(F H F' H':Hp):Prop where
 same:aw F F'
 rs:∀B σ σV,RS B σ σV F H->RS B σ σV F' H'
 rb:∀B,RB B F H->RB B F' H'
 own:∀a o,H a=some o->H' a=some o/\(F a=none->F' a=none)
structure Gr(F H F' H':Hp):Prop where
 f:aw F F'
 h:aw H H'
 nf:∀a o,H a=some o->F a=none->F' a=none
theorem Gr.refl{F H}:Gr F H F H:=⟨aw.refl _,aw.refl _,λ_ _ _ z=>z⟩
theorem Gr.trans{F H g c d f}(a:Gr F H g c)(b:Gr g c d f):Gr F H d f:=⟨a.f.trans b.f,a.h.trans b.h,λx o e z=>b.nf x o (a.h x o e) (a.nf x o e z)⟩
def Ext.gr{F H b H'}(e:Ext F H b H'):Gr F H b H':=⟨e.same,λa o q=>(e.own a o q).1,λa o q=>(e.own a o q).2⟩
section
variable{B:Bx}{σ:Ws}{σV:L2.St}{F H:Hp}
def Gr.new{p}(c:F p=none)(b:H p=none)(o):Gr F H (upd F p o) (upd H p o):=⟨au c o,au b o,λa u e z=>by rw[ae (aL e b)];exact z⟩
theorem Ext.refl(F H):Ext F H F H:=⟨aw.refl _,λ_ _ _ h=>h,λ_ h=>h,λ_ _ h=>⟨h,λz=>z⟩⟩
def RB.new(R:RB B F H){p}(d:H p=none)(o)(f:NF o:=by trivial):RB B (upd F p o) (upd H p o):=by
 refine⟨λb u e=>?_,λb u e=>?_,R.fz0.trans (au (R.sub.free d) o),λa u e=>?_⟩
 .by_cases c:b=p;.subst c;rw[ah]at e⊢;exact e
  .rw[ae c]at e⊢;exact R.sub b u e
 .exact au d o b u (R.base b u e)
 .by_cases c:a=p;.subst c;rw[ah]at e;cases e;exact .inr ⟨R.base.free d,f⟩
  .rw[ae c]at e;exact R.fr a u e
theorem RS.new(R:RS B σ σV F H){p}(b:H p=none)(o)(k:NF o:=by trivial):RS B σ σV (upd F p o) (upd H p o):=by
 have c:=R.rb.sub.free b;refine⟨R.rb.new b o k,R.len,λi w e=>?_,λi ws e=>?_,R.ap,R.ah3 (au c o) λa n q1 q2=>⟨by rw[ae (aL q1 b)];exact q2,by rw[ae (aL q1 b)];exact q1⟩⟩;.obtain⟨v,d,f⟩:=R.va i w e;exact⟨v,d,f.keep (au c o)⟩
 .refine oA (R.ow i _ e) λa j d f l h m=>?_;have g:a≠p:=λz=>by grind
  exact aah a j d (by rw[ae g];exact f) l (by rw[ae g];exact h) (m.keep (au c o))
theorem Ext.new{p}(f:F p=none)(d:H p=none)(o)(b:NF o:=by trivial):Ext F H (upd F p o) (upd H p o):=⟨au f o,λ_ _ _ R=>R.new d o b,λ_ R=>R.new d o b,λa u e=>by
 have c:a≠p:=λz=>by grind
 exact⟨by rw[ae c];exact e,λz=>by rw[ae c];exact z⟩⟩
def RS.aiq(R:RS B σ σV F H){p}(c:H p=none)(o):RS B σ σV F (upd H p o):=by refine⟨⟨λb u e=>au c o b u (R.rb.sub b u e),λb u e=>au c o b u (R.rb.base b u e),R.rb.fz0,R.rb.fr⟩,R.len,R.va,λi ws e=>?_,R.ap,R.ah3 (aw.refl _) λa j q1 q2=>⟨q2,by rw[ae (aL q1 c)];exact q1⟩⟩;refine oA (R.ow i _ e) λa l f k g d h=>?_;exact⟨a,l,f,k,g,au c o _ _ d,h⟩
def RS.grow(R:RS B σ σV F H){d H'}(g:Gr F H d H')(l:RB B d H'):RS B σ σV d H':=by
 refine⟨l,R.len,λi w e=>?_,λi ws e=>?_,R.ap,R.ah3 g.f λa k q1 q2=>⟨g.nf a _ q1 q2,g.h a _ q1⟩⟩;.obtain⟨v,b,c⟩:=R.va i w e;exact⟨v,b,c.keep g.f⟩
 .refine oA (R.ow i _ e) λa m b c h f j=>?_;exact⟨a,m,b,g.nf a _ f c,h,g.h a _ f,j.keep g.f⟩
theorem RS.set(R:RS B σ σV F H){i:Nat}{w:VW}{v:V}(hw:RW B.K F w v):RS B (σ.set i (.va w)) (σV.set i (some v)) F H:=by
 have n:=R.len;refine⟨R.rb,by simp[n],λj u e=>?_,λj ws e=>?_,λj k ws g a h d c l m=>?_,R.akL i (sl:=.va w) (λz=>z) _ (aw.refl _) λ_ _ _ _ _ _ _ _ q1 q2=>⟨q2,q1⟩⟩
 .by_cases f:i=j
  .subst f;have b:i<σ.length:=by have:=(ao8.mp e).1;simpa using this
   rw[apc b]at e;cases e;exact⟨v,apc (by omega),hw⟩
  .rw[ao5 f]at e⊢;exact R.va j u e
 .by_cases f:i=j
  .subst f;have b:i<σ.length:=by have:=(ao8.mp e).1;simpa using this
   rw[apc b]at e;cases e
  .rw[ao5 f]at e⊢;exact R.ow j ws e
 .have n1:i≠j:=λz=>by
   subst z;have b:i<σ.length:=by have:=(ao8.mp d).1;simpa using this
   rw[apc b]at d;cases d
  have n2:i≠k:=λz=>by
   subst z;have b:i<σ.length:=by have:=(ao8.mp c).1;simpa using this
   rw[apc b]at c;cases c
  rw[ao5 n1]at d l;rw[ao5 n2]at c m;exact R.ap j k ws g a h d c l m
def RS.aoD(R:RS B σ σV F H){i:Nat}{ws:List VW}{vs:List V}{a:Addr}(t:F a=none)(x:B.H0 a=none)(v:H a=some (.lst vs))(hw:RWs B.K F ws vs)(s:∀(j:Nat)(c:List VW),j≠i->σ[j]?=some (.ow c)->σV[j]?≠some (some (.ref a))):RS B (σ.set i (.ow ws)) (σV.set i (some (.ref a))) F H:=by
 have w:=R.len;have g:∀{j:Nat}{c:List VW},(σ.set i (.ow ws))[j]?=some (.ow c)->i=j->c=ws/\(σV.set i (some (V.ref a)))[j]?=some (some (.ref a)):=λ{j c}e z=>by
  subst z;have r:i<σ.length:=by have:=(ao8.mp e).1;simpa using this
  rw[apc r]at e;cases e;exact⟨rfl,apc (by omega)⟩
 refine⟨R.rb,by simp[w],λj u e=>?_,λj c e=>?_,λj k c h b m q l p n=>?_,R.akL i (sl:=.ow ws) (λz=>z) _ (aw.refl _) λ_ _ _ _ _ _ _ _ q1 q2=>⟨q2,q1⟩⟩
 .by_cases d:i=j
  .subst d;have r:i<σ.length:=by have:=(ao8.mp e).1;simpa using this
   rw[apc r]at e;cases e
  .rw[ao5 d]at e⊢;exact R.va j u e
 .by_cases d:i=j;.obtain⟨rfl,f⟩:=g e d;exact⟨a,vs,f,t,x,v,hw⟩
  .rw[ao5 d]at e⊢;exact R.ow j c e
 .by_cases d:i=j;.obtain⟨_,f⟩:=g q d;rw[p]at f;cases f;have o:i≠k:=λz=>m (d.symm.trans z);rw[ao5 o]at l n;exact s k h (aph o) l n
  .rw[ao5 d]at q p;by_cases o:i=k;.obtain⟨_,f⟩:=g l o;rw[n]at f;cases f;exact s j c (aph d) q p
   .rw[ao5 o]at l n;exact R.ap j k c h b m q l p n
def RS.write(R:RS B σ σV F H){i}{ws us:List VW}{vs h a}(e:σ[i]?=some (.ow ws))(ea:σV[i]?=some (some (.ref a)))(n:F a=none)(s:B.H0 a=none)(x:H a=some (.lst vs))(I:RWs B.K F us h):RS B (σ.set i (.ow us)) σV F (upd H a (.lst h)):=by
 have p:i<σ.length:=(ao8.mp e).1;refine⟨⟨λb u q=>by rw[ae ((λb o q z=>by subst z;rw[n]at q;cases q) b u q)];exact R.rb.sub b u q,λb u q=>by
  have g:b≠a:=λz=>by subst z;rw[s]at q;cases q
  rw[ae g];exact R.rb.base b u q,R.rb.fz0,R.rb.fr⟩,by simp[R.len],λj w q=>?_,λj d q=>?_,λj k d J b l D y v M=>?_,by
 have E:=R.akL (H':=upd H a (.lst h)) i (sl:=.ow us) (λz=>z) (some (.ref a)) (aw.refl _) λ_ _ _ b O _ _ _ q1 q2=>⟨q2,by
   have g:b≠a:=λz=>by subst z;rw[x]at q1;cases q1
   rw[ae g];exact q1⟩;rwa[set_same ea]at E⟩
 .by_cases c:i=j;.subst c;rw[apc p]at q;cases q
  .rw[ao5 c]at q;exact R.va j w q
 .by_cases c:i=j;.subst c;rw[apc p]at q;cases q;exact aah a h ea n s ah I
  .rw[ao5 c]at q;refine oA (R.ow j d q) λb f r C K G N=>?_;have g:b≠a:=λz=>by subst z;exact R.ap i j ws d b c e q ea r
   exact aah b f r C K (by rw[ae g];exact G) N
 .have back:∀{j:Nat}{d:List VW},(σ.set i (.ow us))[j]?=some (.ow d)->∃f,σ[j]?=some (.ow f):=λ{j d}q=>by
   by_cases c:i=j;.subst c;exact⟨ws,e⟩
   .rw[ao5 c]at q;exact⟨d,q⟩
  obtain⟨f,t⟩:=back D;obtain⟨m,A⟩:=back y;exact R.ap j k f m b l t A v M
def RS.anZ(R:RS B σ σV F H){i:Nat}{sl:Sl}{a:Addr}{o:HO}{w:VW}(e:σ[i]?=some sl)(ea:σV[i]?=some (some (.ref a)))(A:F a=none)(X:B.H0 a=none)(G:H a=some o)(P:NF o)(hw:RW B.K (upd F a o) w (.ref a))(M:∀(j:Nat)(ws:List VW),i≠j->σ[j]?=some (.ow ws)->σV[j]?≠some (some (.ref a)))(C:∀(j:Nat)(n x:List VW),i≠j->σ[j]?=some (.od n x)->σV[j]?≠some (some (.ref a))):RS B (σ.set i (.va w)) σV (upd F a o) H:=by
 have l:i<σ.length:=(ao8.mp e).1;have s:aw F (upd F a o):=au A _;refine⟨⟨λb u q=>?_,R.rb.base,R.rb.fz0.trans s,λb u q=>?_⟩,by simp[R.len],λj Q q=>?_,λj g q=>?_,λj k g t b r m h D S=>?_,by
 have J:=R.akL i (sl:=.va w) (λz=>z) (some (.ref a)) s λj n x b T c E I q1 q2=>⟨by
  have y:b≠a:=λz=>by subst z;exact C j n x c E I
  rw[ae y];exact q2,q1⟩;rwa[set_same ea]at J⟩
 .by_cases d:b=a;.subst d;rw[ah]at q;cases q;exact G
  .rw[ae d]at q;exact R.rb.sub b u q
 .by_cases d:b=a;.subst d;rw[ah]at q;cases q;exact .inr ⟨X,P⟩
  .rw[ae d]at q;exact R.rb.fr b u q
 .by_cases c:i=j;.subst c;rw[apc l]at q;cases q;exact⟨.ref a,ea,hw⟩
  .rw[ao5 c]at q;obtain⟨v,f,p⟩:=R.va j Q q;exact⟨v,f,p.keep s⟩
 .by_cases c:i=j;.subst c;rw[apc l]at q;cases q
  .rw[ao5 c]at q;obtain⟨b,N,f,p,K,U,O⟩:=R.ow j g q;have y:b≠a:=λz=>by subst z;exact M j g c q f
   exact⟨b,N,f,by rw[ae y];exact p,K,U,O.keep s⟩
 .have n1:i≠j:=λz=>by subst z;rw[apc l]at m;cases m
  have n2:i≠k:=λz=>by subst z;rw[apc l]at h;cases h
  rw[ao5 n1]at m;rw[ao5 n2]at h;exact R.ap j k g t b r m h D S
def Ow1:HO->Prop|.lst _=>True|.dK _=>True|_=>False
theorem RS.frz(R:RS B σ σV F H)(i):∃s,aw F s/\RS B (WL.frz i σ) σV s H/\(s=F/\WL.frz i σ=σ\/∃a o w,s=upd F a o/\Ow1 o/\F a=none/\WL.frz i σ=σ.set i (.va w)/\σV[i]?=some (some (.ref a))/\H a=some o/\B.H0 a=none):=by cases e:σ[i]? with
|none=>
 have c:WL.frz i σ=σ:=by unfold WL.frz;rw[e]
 rw[c];exact⟨F,aw.refl _,R,.inl ⟨rfl,rfl⟩⟩
|some sl=>cases sl with|no=>
  have c:WL.frz i σ=σ:=by unfold WL.frz;rw[e]
  rw[c];exact⟨F,aw.refl _,R,.inl ⟨rfl,rfl⟩⟩|va w=>
  have c:WL.frz i σ=σ:=by unfold WL.frz;rw[e]
  rw[c];exact⟨F,aw.refl _,R,.inl ⟨rfl,rfl⟩⟩|ob=>
  have c:WL.frz i σ=σ:=by unfold WL.frz;rw[e]
  rw[c];exact⟨F,aw.refl _,R,.inl ⟨rfl,rfl⟩⟩|ow ws=>
  have c:WL.frz i σ=σ.set i (.va (.lst ws)):=by unfold WL.frz;rw[e]
  rw[c];obtain⟨a,y,g,d,l,f,v⟩:=R.ow i ws e;refine⟨upd F a (.lst y),au d _,R.anZ e g d l f trivial (by simp only[RW];exact⟨a,y,rfl,SqL.of ah,v.keep (au d _)⟩) (λj u r q z=>R.ap i j ws u a r e q g z) λj k m r q z=>?_,.inr ⟨a,_,_,rfl,trivial,d,rfl,g,f,l⟩⟩;obtain⟨b,n,h,_,_,p,_⟩:=R.dd.od j k m q;rw[z]at h;cases h;rw[f]at p;cases p|od k m=>
  have c:WL.frz i σ=σ.set i (.va (.dic k m)):=by unfold WL.frz;rw[e]
  rw[c];obtain⟨a,n,g,d,l,f,v,A⟩:=R.dd.od i k m e;refine⟨_,au d _,R.anZ e g d l f trivial (by simp only[RW];exact⟨a,n,rfl,.inl ah,v.keep (au d _),A.keep (au d _)⟩) (λj u r q z=>?_) λj x t r q z=>R.dd.ad i j k m x t a r e q g z,.inr ⟨a,_,_,rfl,trivial,d,rfl,g,f,l⟩⟩;obtain⟨b,y,h,_,_,p,_⟩:=R.ow j u q;rw[z]at h;cases h;rw[f]at p;cases p
def RS.anA(R:RS B σ σV F H){i:Nat}{ks us:List VW}{kvs:List (Key×V)}{a:Addr}(x:F a=none)(I:B.H0 a=none)(y:H a=some (.dK kvs))(hk:RWs B.K F ks (kvs.map λp=>kV p.1))(D:RWs B.K F us (kvs.map λp=>p.2))(w:∀(j:Nat)(q o:List VW),j≠i->σ[j]?=some (.od q o)->σV[j]?≠some (some (.ref a))):RS B (σ.set i (.od ks us)) (σV.set i (some (.ref a))) F H:=by
 have A:=R.len;have c:∀{j:Nat}{v:Sl},(σ.set i (.od ks us))[j]?=some v->i=j->v=.od ks us/\(σV.set i (some (V.ref a)))[j]?=some (some (.ref a)):=λ{j v}e z=>by
  subst z;have C:i<σ.length:=by have:=(ao8.mp e).1;simpa using this
  rw[apc C]at e;exact⟨(aps e).symm,apc (by omega)⟩
 refine⟨R.rb,by simp[A],λj u e=>?_,λj s e=>?_,λj k s t b l h g n m=>?_,λj q o e=>?_,λj k E us1 G us2 b l h g n m=>?_,λj e=>?_⟩
 .by_cases d:i=j;.cases(c e d).1
  .rw[ao5 d]at e⊢;exact R.va j u e
 .by_cases d:i=j;.cases(c e d).1
  .rw[ao5 d]at e⊢;exact R.ow j s e
 .have n1:i≠j:=λz=>by cases(c h z).1
  have n2:i≠k:=λz=>by cases(c g z).1
  rw[ao5 n1]at h n;rw[ao5 n2]at g m;exact R.ap j k s t b l h g n m
 .by_cases d:i=j;.obtain⟨h,g⟩:=c e d;cases h;exact⟨a,kvs,g,x,I,y,hk,D⟩
  .rw[ao5 d]at e⊢;exact R.dd.od j q o e
 .by_cases d:i=j;.have r:=(c h d).2;rw[n]at r;cases r;have f:i≠k:=λz=>l (d.symm.trans z);rw[ao5 f]at g m;exact w k _ _ (aph f) g m
  .rw[ao5 d]at h n;by_cases f:i=k;.have r:=(c g f).2;rw[m]at r;cases r;exact w j _ _ (aph d) h n
   .rw[ao5 f]at g m;exact R.dd.ad j k _ _ _ _ b l h g n m
 .have d:i≠j:=λz=>by cases(c e z).1
  rw[ao5 d]at e⊢;exact R.dd.ob j e
def RS.afE(R:RS B σ σV F H){i:Nat}{ks us g us2:List VW}{kvs d:List (Key×V)}{a:Addr}(e:σ[i]?=some (.od ks us))(ea:σV[i]?=some (some (.ref a)))(M:F a=none)(N:B.H0 a=none)(P:H a=some (.dK kvs))(hk:RWs B.K F g (d.map λp=>kV p.1))(X:RWs B.K F us2 (d.map λp=>p.2)):RS B (σ.set i (.od g us2)) σV F (upd H a (.dK d)):=by
 have l:i<σ.length:=(ao8.mp e).1;have Q:∀b o,F b=some o->b≠a:=λb o q z=>by subst z;rw[M]at q;cases q
 refine⟨⟨λb u q=>by rw[ae (Q b u q)];exact R.rb.sub b u q,λb u q=>by
 have r:b≠a:=λz=>by subst z;rw[N]at q;cases q
 rw[ae r];exact R.rb.base b u q,R.rb.fz0,R.rb.fr⟩,by simp[R.len],λj w q=>?_,λj v q=>?_,λj k v E b f m h t I=>?_,λj K D q=>?_,λj k Y us1 Z us3 b f m h t I=>?_,λj q=>?_⟩
 .by_cases c:i=j;.subst c;rw[apc l]at q;cases q
  .rw[ao5 c]at q;exact R.va j w q
 .by_cases c:i=j;.subst c;rw[apc l]at q;cases q
  .rw[ao5 c]at q;obtain⟨b,C,s,A,G,n,J⟩:=R.ow j v q;have r:b≠a:=λz=>by subst z;rw[P]at n;cases n
   exact⟨b,C,s,A,G,by rw[ae r];exact n,J⟩
 .have n1:i≠j:=λz=>by subst z;rw[apc l]at m;cases m
  have n2:i≠k:=λz=>by subst z;rw[apc l]at h;cases h
  rw[ao5 n1]at m;rw[ao5 n2]at h;exact R.ap j k v E b f m h t I
 .by_cases c:i=j;.subst c;rw[apc l]at q;cases q;exact⟨a,d,ea,M,N,ah,hk,X⟩
  .rw[ao5 c]at q;obtain⟨b,C,s,A,G,n,J⟩:=R.dd.od j K D q;have r:b≠a:=λz=>by subst z;exact R.dd.ad i j _ _ _ _ b c e q ea s
   exact⟨b,C,s,A,G,by rw[ae r];exact n,J⟩
 .have back:∀{j:Nat}{x y:List VW},(σ.set i (.od g us2))[j]?=some (.od x y)->∃U T,σ[j]?=some (.od U T):=λ{j x y}q=>by
   by_cases c:i=j;.subst c;exact⟨_,_,e⟩
   .rw[ao5 c]at q;exact⟨_,_,q⟩
  obtain⟨_,_,O⟩:=back m;obtain⟨_,_,S⟩:=back h;exact R.dd.ad j k _ _ _ _ b f O S t I
 .have c:i≠j:=λz=>by subst z;rw[apc l]at q;cases q
  rw[ao5 c]at q;exact R.dd.ob j q
end
end WS
set_option autoImplicit true
set_option relaxedAutoImplicit true
namespace WS
open PySem PySem.Spec PyProof.Rows L2
open WL(Res Sl Ws EF TF AF LF GF GsF SF Out OX RF Rn AXF Dk XE XT)
section
variable{X:Cx}{e:Expr}{es:List Expr}{st:Stmt}{sts:List Stmt}
def PE.imp{t t'}(h:PE X e t)(f:∀a H Q,t' a H Q->t a H Q):PE X e t':=λb s a H Q I q=>h _ s a H Q I (f a H Q q)
def PT.imp{t t'}(h:PT X e t)(f:∀a H Q,t' a H Q->t a H Q):PT X e t':=λb s a H Q I q=>h _ s a H Q I (f a H Q q)
def PW.imp{t t'}(h:PW X e t)(f:∀a H Q,t' a H Q->t a H Q):PW X e t':=λc b s a H Q I q=>h _ _ s a H Q I (f a H Q q)
def PA.imp{t t'}(h:PA X es t)(f:∀a H Q,t' a H Q->t a H Q):PA X es t':=λc b s a H Q I q=>h _ _ s a H Q I (f a H Q q)
def PS.imp{t t'}(h:PS X st t)(f:∀D a H,t' D a H->t D a H):PS X st t':=λb s a H D I q=>h _ s a H D I (f D a H q)
def PSs.imp{t t'}(h:PSs X sts t)(f:∀D a H,t' D a H->t D a H):PSs X sts t':=λb s a H D I q=>h _ s a H D I (f D a H q)
def PG.imp{t t'}(h:PG X e t)(f:∀v a H Q,t' v a H Q->t v a H Q):PG X e t':=λb s a H v u Q I r q=>h _ s a H v u Q I r (f v a H Q q)
def PGs.imp{t t'}(h:PGs X es t)(f:∀v a H Q,t' v a H Q->t v a H Q):PGs X es t':=λb s a H v u Q I r q=>h _ s a H v u Q I r (f v a H Q q)
def PI.imp{b t t'}(h:PI X b e t)(f:∀a H Q,t' a H Q->t a H Q):PI X b e t':=λc s a H Q I q=>h _ s a H Q I (f a H Q q)
def PO.imp{o t t'}(h:PO X o t)(f:∀a H Q,t' a H Q->t a H Q):PO X o t':=λb s a H Q I q=>h _ s a H Q I (f a H Q q)
end
def Rq(B:Bx)(b:Ws)(F:Hp){α}(r:Res α)(k:α->Prop):Prop:=match r with|.ok a=>k a|.ex c=>B.xp c b F|.bad=>False
theorem Rq.mono{B b F d α r}{k k':α->Prop}(s:aw F d)(h:Rq B b F r k)(f:∀a,k a->k' a):Rq B b d r k':=by cases r with|ok a=>exact f a h|ex c=>exact B.mono c b F _ s h|bad=>exact h
theorem Rq.bind{B b F α d r}{g:α->Res d}{k}(h:Rq B b F (r.bind g) k):Rq B b F r λa=>Rq B b F (g a) k:=by cases r with|ok a|ex c|bad=>exact h
def lo(B:Bx)(t:EF):TE:=λa H Q=>∃b F,RS B b a F H/\Rq B b F (t b) λw=>∀v c d,RS B b a d c->Gr F H d c->RW B.K d w v->Q v c
def loT(B:Bx)(t:TF):TT:=λa H Q=>∃c F,RS B c a F H/\Rq B c F (t c) λb=>∀d e,RS B c a e d->Gr F H e d->Q b d
def loA(B:Bx)(t:AF):TA:=λa H Q=>∃b F,RS B b a F H/\Rq B b F (t b) λws=>∀e c d,RS B b a d c->Gr F H d c->RWs B.K d ws e->Q e c
def loO(B:Bx)(t:Ws->Res (Option Int)):TO:=λa H Q=>∃b F,RS B b a F H/\Rq B b F (t b) λo=>∀c d,RS B b a d c->Gr F H d c->Q o c
def loL(B:Bx)(t:LF):TE:=λb H Q=>∃c F,RS B c b F H/\Rq B c F (t c) λws=>∀a f d e,RS B c b e d->Gr F H e d->e a=none->B.H0 a=none->d a=some (.lst f)->RWs B.K e ws f->(∀(j:Nat)(g:List VW),c[j]?=some (.ow g)->b[j]?≠some (some (.ref a)))->Q (.ref a) d
structure Gm(m:Bool)(F H F' H':Hp):Prop where
 f:aw F F'
 nf:∀a o,H a=some o->F a=none->F' a=none
 th:∀a o,H a=some o->∃o',H' a=some o'
 h:m=true->aw H H'
theorem Gm.refl{m F H}:Gm m F H F H:=⟨aw.refl _,λ_ _ _ z=>z,λ_ o e=>⟨o,e⟩,λ_=>aw.refl _⟩
theorem Gm.trans{m F H g d f h}(a:Gm m F H g d)(b:Gm m g d f h):Gm m F H f h:=⟨a.f.trans b.f,λx o e z=>by obtain⟨j,c⟩:=a.th x o e;exact b.nf x _ c (a.nf x o e z),λx o e=>by obtain⟨j,c⟩:=a.th x o e;exact b.th x _ c,λi=>(a.h i).trans (b.h i)⟩
def loG(m:Bool)(B:Bx)(g:GF):TG:=λv e H Q=>∃d F w,RS B d e F H/\RW B.K F w v/\Rq B d F (g w d) λc=>∀a b f,RS B c a f b->Gm m F H f b->Q a b
def alr(m:Bool)(B:Bx)(g:GsF):TGs:=λh e H Q=>∃d F ws,RS B d e F H/\RWs B.K F ws h/\Rq B d F (g ws d) λc=>∀a b f,RS B c a f b->Gm m F H f b->Q a b
def Oq(B:Bx)(D:Ends)(F:Hp)(o:Out):Prop:=match o with|.nx σ'=>∀a d b,RS B σ' a b d->aw F b->D.nx a d|.bk σ'=>∀a d b,RS B σ' a b d->aw F b->D.bk a d|.ct σ'=>∀a d b,RS B σ' a b d->aw F b->D.ct a d|.rt w=>∀v d b,RB B b d->aw F b->RW B.K b w v->D.rt v d|.ex c σ'=>B.xp c σ' F|.bad=>False
def loS(B:Bx)(t:SF):TS:=λD a H=>∃b F,RS B b a F H/\Oq B D F (t b)
theorem Oq.mono{B D F a o}(s:aw F a)(h:Oq B D F o):Oq B D a o:=by cases o with|nx σ|bk σ|ct σ|rt w=>exact λb H G R z=>h _ H G R (s.trans z)|ex c σ=>exact B.mono c σ F _ s h|bad=>exact h
theorem Oq.ofR    (h:Oq B D F (WL.ofR σ r f)):Rq B σ F r λa=>Oq B D F (f a):=by cases r with|ok a|ex c|bad=>exact h
def Eq1(F H:Hp)(K:W.Frag)(r:Res VW)(Q:VK):Prop:=match r with|.ok w=>∀v b a,Ext F H b a->RW K b w v->Q v a|_=>False
def lo2(K:W.Frag)(r:VW->VW->Res VW):R2:=λx y H Q=>∃F wx a,aw F H/\RW K F wx x/\RW K F a y/\Eq1 F H K (r wx a) Q
def lo1(K:W.Frag)(r:VW->Res VW):V->Hp->VK->Prop:=λx H Q=>∃F wx,aw F H/\RW K F wx x/\Eq1 F H K (r wx) Q
def loN(K:W.Frag)(r:List VW->Res VW):List V->Hp->VK->Prop:=λa H Q=>∃F ws,aw F H/\RWs K F ws a/\Eq1 F H K (r ws) Q
def Calm(r:VW->VW->Res VW):Prop:=∀x y c,r x y≠.ex c
def OpR.imp{X f r a}(h:OpR X f r)(g:∀x y H Q,a x y H Q->r x y H Q):OpR X f a:=λb s c H x y v u Q I d e q=>h _ s c H x y v u Q I d e (g x y H Q q)
def UnR.imp{X f r a}(h:UnR X f r)(g:∀x H Q,a x H Q->r x H Q):UnR X f a:=λb s d H x v Q I c q=>h _ s d H x v Q I c (g x H Q q)
def bP.imp{X f r b}(h:bP X f r)(g:∀a H Q,b a H Q->r a H Q):bP X f b:=λc s e H a i Q I d q=>h _ s e H _ _ Q I d (g _ H Q q)
def IxR.imp{X r c}(h:IxR X r)(g:∀x y H Q,c x y H Q->r x y H Q):IxR X c:=λa b d s e H x y v u Q I f i q j=>h _ _ _ s e H x y v u Q I f i (g x y H Q q) j
def SlR.imp{X r d}(h:SlR X r)(g:∀x a b H Q,d x a b H Q->r x a b H Q):SlR X d:=λe s f H x v l j lo m k Q I i a b c q=>h _ s f H x v _ _ _ _ _ Q I i a b c (g x _ _ H Q q)
section
variable{X:Cx}{B:Bx}{e a b c:Expr}{es:List Expr}{pos:Pos}{ta tb tc:EF}{K:W.Frag}
set_option tactic.hygienic true in
def aiP{i}(h:PE X e (cM i)):PE X e (lo B (WL.ai i)):=PE.imp h λg H Q d=>by
 refine dv d λj F R q=>?_;simp [WL.ai]at q;split at q;.rename_i w e;obtain⟨v,f,r⟩:=R.va i w e;exact⟨v,f,q v H F R Gr.refl r⟩
 .exact q.elim
def agY (h:PE X e (tC v))(r:∀F,RW B.K F w v):PE X e (lo B (WL.eC w)):=PE.imp h λf H Q d=>by obtain⟨g,F,R,q⟩:=d;exact q v H F R Gr.refl (r F)
def aj{i j pos}:PE X (.Constant (.int i) j pos) (lo B (WL.eC (.int i))):=agY af7 λ_=>rfl
def aaH{i j pos}:PE X (.Constant (.bool i) j pos) (lo B (WL.eC (.bl i))):=agY amr λ_=>rfl
def dy{j pos}:PE X (.Constant .none j pos) (lo B (WL.eC .non)):=agY ajB λ_=>rfl
def ao{x j pos}:PE X (.Constant (.str x) j pos) (lo B (WL.eC (.str x))):=agY gk λ_=>rfl
def aeH (cm:Calm r)(f:∀x y H Q,lo2 B.K r x y H Q->rV x y H Q):∀d H Q,lo B (WL.eOp r ta tb) d H Q->tOp rV (lo B ta) (lo B tb) d H Q:=by intro d H Q⟨h,F,R,q⟩;have q:=Rq.bind q;refine dI h F R (Rq.mono (aw.refl _) q λx k v1 n j l s1 r1=>dI h j l (Rq.mono s1.f (Rq.bind k) λy g v2 s i R2 s2 r2=>f _ _ _ _ (r9 i x y R2.rb.sub (r1.keep s2.f) r2 ?_)));cases e:r x y with|ok w=>rw[e]at g;exact λv p o E m=>g v _ _ (E.rs B h _ R2) ((s1.trans s2).trans E.gr) m|ex c=>exact(cm x y c e).elim|bad=>rw[e]at g;exact g
def cJ (cm:Calm r)(h:OpR X (binaryOp op) (lo2 B.K r))(d:PE X a (lo B ta))(f:PE X b (lo B tb)):PE X (.BinOp a op b pos) (lo B (WL.eOp r ta tb)):=PE.imp (ajz h d f) (aeH cm λ_ _ _ _ q=>q)
def aaG (cm:Calm r)(h:OpR X (compareOp op) (lo2 B.K r))(d:PE X a (lo B ta))(g:PE X b (lo B tb))(f:behindInMarks op b=false):PE X (.Compare a [op] [b] pos) (lo B (WL.eOp r ta tb)):=PE.imp (abI h d g f) (aeH cm λ_ _ _ _ q=>q)
def agT (cm:Calm r)(h:IxR X (lo2 B.K r))(d:PE X a (lo B ta))(g:PE X b (lo B tb))(f:ju b):PE X (.Subscript a b pos) (lo B (WL.eOp r ta tb)):=PE.imp (ajC h d g f) (aeH cm λ_ _ _ _ q=>q)
def lF (cm:∀x c,r x≠.ex c)(h:UnR X (unaryOp op) (lo1 B.K r))(j:PE X a (lo B ta)):PE X (.UnaryOp op a pos) (lo B (WL.eUn r ta)):=PE.imp (amo h j) λm H Q f=>by refine dv f λi F R q=>?_;have q:=Rq.bind q;refine⟨i,F,R,Rq.mono (aw.refl _) q λx d v1 n k g s1 r1=>⟨k,x,g.rb.sub,r1,?_⟩⟩;cases e:r x with|ok w=>rw[e]at d;exact λv p o E l=>d v _ _ (E.rs B i _ g) (s1.trans E.gr) l|ex c=>exact(cm x c e).elim|bad=>rw[e]at d;exact d
def vG:∀d H Q,loT B (WL.tB t) d H Q->ad5 (lo B t) d H Q:=by
 intro d H Q⟨h,F,R,q⟩;have q:=Rq.bind q;refine dI h F R (Rq.mono (aw.refl _) q λx f v1 i j g s1 r1=>?_);cases x<;>first|exact f.elim|skip
 exact⟨_,r1,f _ _ g s1⟩
def bc (cm:Calm r)(h:OpR X (compareOp op) (lo2 B.K r))(d:PE X a (lo B ta))(i:PE X b (lo B tb))(f:behindInMarks op b=false):PT X (.Compare a [op] [b] pos) (loT B (WL.tB (WL.eOp r ta tb))):=PT.imp (abu h d i f) λg H Q q=>aeH cm (λ_ _ _ _ q=>q) _ H _ (vG _ H Q q)
def bD (h:PE X e (lo B t))(f:∀d,isTrue e X.env d=(do let v <-d;standAt e.pos;holding [v] (truthy v)):=by intro _;rfl):PT X e (loT B (WL.tB t)):=PT.imp (ajp h f) vG
def yg (cm:Calm r)(l:Calm r'):∀d H Q,lo B (WL.qj r r' ta tb tc) d H Q->aa1 (lo2 B.K r) (lo2 B.K r') (lo B ta) (lo B tb) (lo B tc) d H Q:=by intro d H Q⟨f,F,R,q⟩;have q:=Rq.bind q;refine dI f F R (Rq.mono (aw.refl _) q λx j v1 N G t s1 r1=>?_);have j:=Rq.bind j;refine dI f G t (Rq.mono s1.f j λy h v2 P s R2 s2 r2=>?_);refine r9 s x y R2.rb.sub (r1.keep s2.f) r2 ?_;unfold Eq1;cases e:r x y with|ex c=>exact(cm x y c e).elim|bad=>rw[e]at h;exact h|ok z=>rw[e]at h;intro v3 n C E3 J;have g:=h;cases z with
 |bl k=>refine⟨k,J,?_⟩;cases k with|false=>exact g (.bl false) C n (E3.rs B f d R2) ((s1.trans s2).trans E3.gr) (by simp[RW])|true=>have g:=Rq.bind (show Rq B f F ((tc f).bind λw=>r' y w) _ from g);refine dI f n (E3.rs B f d R2) (Rq.mono ((s1.trans s2).trans E3.gr).f g λw i v4 O D p s4 E=>?_);refine r9 D y w p.rb.sub ((r2.keep E3.same).keep s4.f) E ?_;unfold Eq1;cases m:r' y w with|ex c=>exact(l y w c m).elim|bad=>rw[m]at i;exact i|ok u=>rw[m]at i;exact λv A M o I=>i v M A (o.rs B f d p) ((((s1.trans s2).trans E3.gr).trans s4).trans o.gr) I
 |_=>exact g.elim
def xi (cm:Calm r)(f:Calm r')(j:OpR X (compareOp op) (lo2 B.K r))(d:OpR X (compareOp op') (lo2 B.K r'))(g:PE X a (lo B ta))(k:PE X b (lo B tb))(i:PE X c (lo B tc))(h:lastMarks [op,op'] [b,c]=false:=by with_unfolding_all rfl):PE X (.Compare a [op,op'] [b,c] pos) (lo B (WL.qj r r' ta tb tc)):=PE.imp (aes j d g k i h) (yg cm f)
def adR (cm:Calm r)(f:Calm r')(j:OpR X (compareOp op) (lo2 B.K r))(d:OpR X (compareOp op') (lo2 B.K r'))(g:PE X a (lo B ta))(l:PE X b (lo B tb))(i:PE X c (lo B tc))(h:lastMarks [op,op'] [b,c]=false:=by with_unfolding_all rfl):PT X (.Compare a [op,op'] [b,c] pos) (loT B (WL.tB (WL.qj r r' ta tb tc))):=PT.imp (aei j d g l i h) λk H Q q=>yg cm f _ H _ (vG _ H Q q)
variable{uA uB:TF}{rest:List Expr}
def dW(d:PT X a (loT B uA)):PW X (.BoolOp .And [a] pos) (loT B uA):=abr d
def gK(d:PT X a (loT B uA)):PW X (.BoolOp .Or [a] pos) (loT B uA):=af3 d
def gL(i:PT X a (loT B uA))(m:PW X (.BoolOp .And (b::rest) pos) (loT B uB)):PW X (.BoolOp .And (a::b::rest) pos) (loT B (WL.sQ uA uB)):=PW.imp (af4 i m) λl H Q d=>by refine dv d λh F R q=>?_;have q:=Rq.bind q;refine⟨h,F,R,Rq.mono (aw.refl _) q λx f n j g s1=>?_⟩;cases x with|true=>exact⟨h,j,g,Rq.mono s1.f f λb k p o R2 s2=>k _ _ R2 (s1.trans s2)⟩|false=>exact f _ _ g s1
def mr(i:PT X a (loT B uA))(m:PW X (.BoolOp .Or (b::rest) pos) (loT B uB)):PW X (.BoolOp .Or (a::b::rest) pos) (loT B (WL.tOr uA uB)):=PW.imp (ajo i m) λl H Q d=>by refine dv d λh F R q=>?_;have q:=Rq.bind q;refine⟨h,F,R,Rq.mono (aw.refl _) q λx f n j g s1=>?_⟩;cases x with|false=>exact⟨h,j,g,Rq.mono s1.f f λb k p o R2 s2=>k _ _ R2 (s1.trans s2)⟩|true=>exact f _ _ g s1
def bQ(f:PT X a (loT B uA)):PT X (.UnaryOp .Not a pos) (loT B (WL.i9 uA)):=PT.imp (ajq f) λi H Q d=>by obtain⟨h,F,R,q⟩:=d;have q:=Rq.bind q;exact⟨h,F,R,Rq.mono (aw.refl _) q λx g=>g⟩
def pq{op}(h:PE X a (lo B ta)):PE X (.BoolOp op [a] pos) (lo B ta):=xP h
def kG(i:PE X a (lo B ta))(n:PE X (.BoolOp .And (b::rest) pos) (lo B tb)):PE X (.BoolOp .And (a::b::rest) pos) (lo B (WL.afc ta tb)):=PE.imp (af8 i n) λm H Q f=>by refine dv f λh F R q=>?_;have q:=Rq.bind q;refine dI h F R (Rq.mono (aw.refl _) q λx d v o j g s1 r1=>?_);cases x with
|bl k=>refine⟨k,r1,?_⟩;cases k with|true=>exact dI h j g (Rq.mono s1.f d λb l v2 r p R2 s2 r2=>l _ _ _ R2 (s1.trans s2) r2)|false=>exact d _ _ _ g s1 (rfl)
|_=>exact d.elim
def aiQ(g:PE X a (lo B ta)):PE X (.UnaryOp .Not a pos) (lo B (WL.aoc ta)):=PE.imp (ajA g) λj H Q d=>by refine dv d λi F R q=>?_;have q:=Rq.bind q;refine⟨i,F,R,Rq.mono (aw.refl _) q λx f v l m h s1 r1=>?_⟩;cases x with|bl k=>exact⟨k,r1,f _ _ _ h s1 (rfl)⟩|_=>exact f.elim
def aaD(l:PT X c (loT B uA))(g:PE X a (lo B ta))(n:PE X b (lo B tb)):PE X (.IfExp c a b pos) (lo B (WL.eIf uA ta tb)):=PE.imp (aer l g n) λm H Q d=>by refine dv d λf F R q=>?_;have q:=Rq.bind q;refine dI f F R (Rq.mono (aw.refl _) q λx i o h j s1=>?_);cases x with|true|false=>exact⟨f,h,j,Rq.mono s1.f i λb k v2 r p R2 s2 r2=>k _ _ _ R2 (s1.trans s2) r2⟩
variable{tas:AF}
def bB:PA X [] (loA B WL.aq):=PA.imp cu λf H Q d=>by obtain⟨g,F,R,q⟩:=d;exact q _ H F R Gr.refl (rfl)
def ahH:∀d H Q,loA B (WL.aa ta tas) d H Q->jy (lo B ta) (loA B tas) d H Q:=λd H Q g=>by refine dv g λi F R q=>?_;have q:=Rq.bind q;refine dI i F R (Rq.mono (aw.refl _) q λx f v l j k s1 r1=>?_);have f:=Rq.bind f;exact dI i j k (Rq.mono s1.f f λn h p o m R2 s2 r2=>h _ _ _ R2 (s1.trans s2) (.cons (r1.keep s2.f) r2))
def ag(d:PE X e (lo B ta))(f:PA X es (loA B tas))(g:SE X e es:=by rfl):PA X (e::es) (loA B (WL.aa ta tas)):=PA.imp (aP d f g) ahH
def cH:WL.lim<=sizeLine:=by decide
def aX{m}(h:PA X es (loA B tas)):PE X (.Tuple es m pos) (lo B (WL.ik tas)):=PE.imp (ajx h) λo H Q j=>by
 refine dv j λl F R q=>?_;have q:=Rq.bind q;refine⟨l,F,R,Rq.mono (aw.refl _) q λk f n r s g s1 r1=>?_⟩;by_cases i:k.length<=WL.lim;.rw[apa i]at f;exact⟨by rw[<-r1.length];exact apb i cH,λp d=>f _ _ _ (g.new d _) (s1.trans (Gr.new (g.rb.sub.free d) d _)) (by exact iH p n rfl (SqT.of ah) (r1.keep (au (g.rb.sub.free d) _)))⟩
 .rw[ao9 i]at f;exact f.elim
def aj4:∀d H Q,lo B (WL.iZ tas) d H Q->ale (loA B tas) d H Q:=λd H Q j=>by
 refine dv j λl F R q=>?_;have q:=Rq.bind q;refine⟨l,F,R,Rq.mono (aw.refl _) q λk g m n o h s1 r1=>?_⟩;by_cases i:k.length<=WL.lim;.rw[apa i]at g;exact⟨by rw[<-r1.length];exact apb i cH,λp f=>g _ _ _ (h.new f _) (s1.trans (Gr.new (h.rb.sub.free f) f _)) (by exact iH p m rfl (SqL.of ah) (r1.keep (au (h.rb.sub.free f) _)))⟩
 .rw[ao9 i]at g;exact g.elim
def br(h:PA X es (loA B tas)):PE X (.List es pos) (lo B (WL.iZ tas)):=PE.imp (tr h) aj4
def ajV{m d F l g xs vs p}{Q:VK}(h:RS B m d l g){H}(s1:Gr F H l g)(r1:RWs B.K l xs vs)(f:g p=none)(q:∀a vs i k,RS B m d k i->Gr F H k i->k a=none->B.H0 a=none->i a=some (.lst vs)->RWs B.K k xs vs->(∀(j:Nat)(r:List VW),m[j]?=some (.ow r)->d[j]?≠some (some (.ref a)))->Q (.ref a) i):Q (.ref p) (upd g p (.lst vs)):=q p _ _ _ (h.aiq f _) (s1.trans ⟨aw.refl _,au f _,λ_ _ _ z=>z⟩) (h.rb.sub.free f) (h.rb.base.free f) ah r1 λj r e z=>by refine oA (h.ow j _ e) λa s o v t n u=>?_;rw[z]at o;cases o;rw[f]at n;cases n
def su(h:PA X es (loA B tas)):PE X (.List es pos) (loL B (WL.air tas)):=PE.imp (tr h) λm H Q g=>by
 refine dv g λl F R q=>?_;have q:=Rq.bind q;refine⟨l,F,R,Rq.mono (aw.refl _) q λk d r n o j s1 r1=>?_⟩;by_cases f:k.length<=WL.lim;.rw[apa f]at d;exact⟨by rw[<-r1.length];exact apb f cH,λp i=>ajV j s1 r1 i d⟩
 .rw[ao9 f]at d;exact d.elim
def amR (cm:∀g c,r g≠.ex c):∀d H Q,lo B (WL.eBi r tas) d H Q->tCB (loN B.K r) (loA B tas) d H Q:=by intro d H Q⟨i,F,R,q⟩;have q:=Rq.bind q;refine dI i F R (Rq.mono (aw.refl _) q λg f o l j h s1 r1=>⟨j,g,h.rb.sub,r1,?_⟩);cases e:r _ with|ok w=>rw[e]at f;exact λv n m E k=>f v _ _ (E.rs B i _ h) (s1.trans E.gr) k|ex c=>exact(cm _ c e).elim|bad=>rw[e]at f;exact f
def aiU (cm:∀d c,r d≠.ex c)(h:PE X e (tCB (loN B.K r) (loA B tas))):PE X e (lo B (WL.eBi r tas)):=PE.imp h (amR cm)
def mv:PO X none (loO B WL.pNo):=PO.imp abA λf H Q d=>by obtain⟨g,F,R,q⟩:=d;exact q H F R Gr.refl
def dY(h:PE X e (lo B ta)):PO X (some e) (loO B (WL.hU ta)):=PO.imp (abz h) λk H Q d=>by refine dv d λj F R q=>?_;have q:=Rq.bind q;refine⟨j,F,R,Rq.mono (aw.refl _) q λx f v l m g s1 r1=>?_⟩;cases x with|int i=>exact⟨i,r1,f _ _ g s1⟩|_=>exact f.elim
def anT(K:W.Frag):V->Option Int->Option Int->Hp->VK->Prop:=λx l h H Q=>∃F wx,aw F H/\RW K F wx x/\Eq1 F H K (WL.oSl wx l h) Q
variable{l u:Option Expr}{tl tu:Ws->Res (Option Int)}{p2:Pos}
def sv(z:SlR X (anT B.K))(n:PE X e (lo B ta))(p:PO X l (loO B tl))(G:PO X u (loO B tu)):PE X (.Subscript e (.Slice l u none p2) pos) (lo B (WL.eSl ta tl tu)):=PE.imp (xO z n p G) λj H Q h=>by refine dv h λg F R q=>?_;have q:=Rq.bind q;refine dI g F R (Rq.mono (aw.refl _) q λx C v I A o s1 r1=>dI g A o (Rq.mono s1.f (Rq.bind C) λlo i M m R2 s2=>?_));refine dI g m R2 (Rq.mono (s1.trans s2).f (Rq.bind i) λt d J r k s3=>?_);refine⟨r,x,k.rb.sub,(r1.keep s2.f).keep s3.f,?_⟩;cases f:WL.oSl x lo t with|ok w=>rw[f]at d;exact λv s D E y=>d v D s (E.rs B g j k) (((s1.trans s2).trans s3).trans E.gr) y|ex c=>cases x<;>simp[WL.oSl]at f;split at f<;>cases f|bad=>rw[f]at d;exact d
def lend  (R:RS B σ σV F H)(r:Hp)(s1:aw F r)(J:r=F/\WL.frz i σ=σ\/∃a o w,r=upd F a o/\Ow1 o/\F a=none/\WL.frz i σ=σ.set i (.va w)/\σV[i]?=some (some (.ref a))/\H a=some o/\B.H0 a=none)(R2:RS B (WL.frz i σ) σV F2 H2)(s2:Gr r H F2 H2):∃x,RS B σ σV x H2/\Gr F H x H2/\∀w v,WL.plain w=true->RW B.K F2 w v->RW B.K x w v:=by
 rcases J with⟨rfl,A⟩|⟨a,ow,Z,rfl,m,t,A,ea,U,h0⟩;.rw[A]at R2;exact⟨F2,R2,s2,λ_ _ _ h=>h⟩
 .rw[A]at R2;have n:=s2.f _ _ ah;have k:aw F λb=>if b=a then none else F2 b:=λb o q=>by
   have p:b≠a:=λz=>by subst z;rw[t]at q;cases q
   show(if b=a then none else F2 b)=some o;rw[ao9 p];exact s2.f b o (s1 b o q)
  have g:∀b o,(if b=a then none else F2 b)=some o->b≠a/\F2 b=some o:=λb o q=>by
   by_cases d:b=a;.rw[apa d]at q;cases q
   .rw[ao9 d]at q;exact⟨d,q⟩
  refine⟨λb=>if b=a then none else F2 b,⟨⟨λb o q=>R2.rb.sub b o (g b o q).2,R2.rb.base,R.rb.fz0.trans k,λb o q=>R2.rb.fr b o (g b o q).2⟩,R.len,λj w q=>?_,λj s q=>?_,R.ap,?_⟩,⟨k,s2.h,λb o q z=>?_⟩,λw v T h=>?_⟩;.obtain⟨v,f,C⟩:=R.va j w q;exact⟨v,f,C.keep k⟩
  .obtain⟨b,E,f,C,M,S,O⟩:=R.ow j s q;refine⟨b,E,f,?_,M,s2.h b _ S,O.keep k⟩;by_cases d:b=a;.exact apa d
   .show(if b=a then none else F2 b)=none;rw[ao9 d];have y:i≠j:=λz=>by subst z;rw[ea]at f;cases f;exact d rfl
    obtain⟨P,N,k1,k2,_⟩:=R2.ow j s (by rw[ao5 y];exact q);rw[f]at k1;cases k1;exact k2
  .refine R.dd.via rfl id (λ_ _ z=>.inl z) (λ_ _ _ e=>⟨e,rfl⟩) k λj I s b Q G D q1 q2 q3=>⟨?_,q3,s2.h b _ q1⟩;by_cases d:b=a;.exact apa d
   .show(if b=a then none else F2 b)=none;rw[ao9 d];have y:i≠j:=λz=>by subst z;rw[show σV[i]?=_ from D]at ea;cases ea;exact d rfl
    obtain⟨P,N,k1,k2,_⟩:=R2.dd.od j I s (by rw[ao5 y];exact G);rw[show σV[j]?=_ from D]at k1;cases k1;exact k2
  .show(if b=a then none else F2 b)=none;by_cases d:b=a;.exact apa d
   .rw[ao9 d];exact s2.nf b o q (by rw[ae d];exact z)
  .refine RW.less (λc Y q=>?_) w v T h;rcases q with(q|⟨o,q⟩)|q
   .refine .inl (.inl ?_);have p:c≠a:=λz=>by subst z;rw[n]at q;cases q;exact m
    show(if c=a then none else F2 c)=_;rw[ao9 p];exact q
   .refine .inl (.inr ⟨o,?_⟩);have p:c≠a:=λz=>by subst z;rw[n]at q;cases q;exact m
    show(if c=a then none else F2 c)=_;rw[ao9 p];exact q
   .exact .inr q
def aiT (h:PE X e (lo B ta)):PE X e (lo B (WL.aod i ta)):=PE.imp h λs H Q f=>by
 refine dv f λj F R q=>?_;refine jV (R.frz i) λm s1 n o=>?_;refine dI _ m n ?_;have q:Rq B j F (match ta _ with|.ok w=>if WL.plain w then .ok w else .bad|_=>.bad) _:=q
 cases g:ta _ with|ok w=>
 rw[g]at q;intro v x t R2 s2 r2;refine jV (lend R _ s1 o R2 s2) λy r p k=>?_;have q:Rq B j F (if WL.plain w=true then .ok w else .bad) _:=q;by_cases d:WL.plain w=true;.rw[apa d]at q;exact q v _ _ r p (k w v d r2)
 .rw[ao9 d]at q;exact q.elim|ex c=>rw[g]at q;exact q.elim|bad=>rw[g]at q;exact q
end
mutual def toD:VW->PyData|.non=>.none|.bl b=>.bool b|.int i=>.int i|.str x=>.str x|.ty _=>.none|.tup xs=>.tuple (dB xs)|.lst xs=>.list (dB xs)|.dic _ _=>.none|.cls _=>.none|.exc _ _=>.none|.ins _ _=>.none|.id _=>.none def dB:List VW->List PyData|[]=>[]|x::xs=>toD x::dB xs end
def yZ(x):toD (.str x)=.str x:=(rfl)
def y6(x):toD (.int x)=.int x:=(rfl)
mutual theorem RW.isD{K:W.Frag}{H:Hp}:∀(n:Nat)(w:VW)(v:V),WL.okD n w=true->RW K H w v->IsD K H n v (toD w)
|n,.non,v,_,h=>by cases n<;>exact h|n,.bl b,v,_,h=>by cases n<;>exact h|n,.int i,v,_,h=>by cases n<;>exact h|n,.str x,v,o,h=>by cases n<;>exact⟨h,o⟩|n,.tup xs,v,o,h=>by obtain⟨a,vs,e,q,r⟩:=h;cases n with|zero=>cases xs<;>cases o|succ n=>exact⟨a,vs,e,q,RWs.isD n xs _ o r⟩
|n,.lst xs,v,o,h=>by obtain⟨a,vs,e,q,r⟩:=h;cases n with|zero=>cases xs<;>cases o|succ n=>exact⟨a,vs,e,q,RWs.isD n xs vs o r⟩theorem RWs.isD{K:W.Frag}{H:Hp}:∀(n:Nat)(ws:List VW)(vs:List V),WL.nk (n+1) ws=true->RWs K H ws vs->Paired (IsD K H n) vs (dB ws)|n,[],vs,_,h=>by simp only[RWs]at h;subst h;exact .nil|n,w::ws,vs,o,h=>by simp only[RWs]at h;obtain⟨v,r,rfl,q,t⟩:=h;have o:=apD.mp o;exact .cons (RW.isD n w v o.1 q) (RWs.isD n ws r o.2 t)end
mutual theorem kj:∀(n m:Nat)(x y:VW),WL.okD n x=true->WL.okD m y=true->PyData.eqv (toD x) (toD y)=WL.eqv x y
|n,m,.tup xs,y,h1,h2=>by cases y with|tup ys=>exact rG n m xs ys h1 h2|_=>first|rfl|cases h2
|n,m,.lst xs,y,h1,h2=>by cases y with|lst ys=>exact rG n m xs ys h1 h2|_=>first|rfl|cases h2
|n,m,.ty _,_,h1,_=>by cases h1|n,m,.non,y,_,h2=>by cases y<;>first|rfl|cases h2
|n,m,.bl b,y,_,h2=>by cases y<;>rfl|n,m,.int b,y,_,h2=>by cases y<;>first|rfl|cases h2
|n,m,.str b,y,_,h2=>by cases y<;>first|rfl|cases h2 theorem rG:∀(n m:Nat)(xs ys:List VW),WL.nk n xs=true->WL.nk m ys=true->PyData.eqvAll (dB xs) (dB ys)=WL.alx xs ys|n,m,[],ys,_,_=>by cases ys<;>rfl|n,m,x::xs,ys,h1,h2=>by cases ys with|nil=>rfl|cons y ys=>cases n with|zero=>cases h1|succ n=>cases m with|zero=>cases h2|succ m=>have h1:=apD.mp h1;have h2:=apD.mp h2;show(PyData.eqv _ _&&PyData.eqvAll _ _)=(_&&_);rw[kj n m x y h1.1 h2.1,rG (n+1) (m+1) xs ys h1.2 h2.2]end
theorem wJ{n m}{x:VW}(a:WL.okD n x=true):∀{ys:List VW},WL.nk m ys=true->((dB ys).any λz=>PyData.eqv z (toD x))=WL.oo x ys|[],_=>rfl|y::ys,h=>by cases m with|zero=>cases h|succ m=>have h:=apD.mp h;simp [dB,WL.oo];rw[kj m n y x h.1 a,wJ a h.2]
section
variable{X:Cx}{K:W.Frag}
def eq1{F H w Q v}(q:Eq1 F H K (.ok w) Q)(r:RW K F w v):Q v H:=q v F H (Ext.refl F H) r
def alz{F H}{ws:List VW}{vs Q}(s:aw F H)(q:Eq1 F H K (.ok (.lst ws)) Q)(r:RWs K F ws vs){p}(a:H p=none):Q (.ref p) (upd H p (.lst vs)):=q _ _ _ (Ext.new (s.free a) a _) (by exact⟨p,vs,rfl,SqL.of ah,r.keep (au (s.free a) _)⟩)
def aly{F H}{ws:List VW}{vs Q}(s:aw F H)(q:Eq1 F H K (.ok (.tup ws)) Q)(r:RWs K F ws vs){p}(a:H p=none):Q (.ref p) (upd H p (.tup vs)):=q _ _ _ (Ext.new (s.free a) a _) (by exact⟨p,vs,rfl,SqT.of ah,r.keep (au (s.free a) _)⟩)
def abP:OpR X (binaryOp .Add) λx y H Q=>∃l b g f,x=.ref l/\y=.ref b/\SqL X.K H l g/\SqL X.K H b f/\g.length+f.length<=sizeLine/\∀p,H p=none->Q (.ref p) (upd H p (.lst (g++f))):=by
 intro z s R H x y v u Q I P M h;refine aiD h λl b g f w o D N U q=>?_;subst w o;cases P;cases M;refine jV (I.list D) λc r pl _=>?_;refine jV (I.list N) λa r2 t _=>?_;obtain⟨⟨cls,E,C,O⟩,B,G,n,J⟩:=pl.isList;obtain⟨⟨A,j,data2,m⟩,d,i,n2,k⟩:=t.isList;subst G J i k;have e:c.toArray++a.toArray=(c++a).toArray:=by simp
 have T:=r.length;have S:=r2.length;refine asb ⟨_,B,rfl⟩ ⟨_,d,rfl⟩ noFill_list_add seq_list_add PySem.F.slot_list_add PySem.F.entry_list_add (PySem.F.args_list_add_2 _ _) (list_addW l b c.toArray a.toArray n n2 E j O m (by grind)) ⟨B,d,?_⟩;rw[e];exact iH (.ref _) _ (I.amT (r.append r2) (by grind)) rfl (q _ I.fresh)
def aew:OpR X (binaryOp .Add) λx y H Q=>∃a b o,x=.ref a/\y=.ref b/\SqT X.K H a []/\SqT X.K H b o/\Q (.ref b) H:=by intro k s M H x y v u Q I J B h;refine ak7 h λa b o i g D C q=>?_;subst i g;cases J;cases B;refine jV (I.tuple D) λG r p1 _=>?_;refine jV (I.tuple C) λj r2 p2 _=>?_;cases r;obtain⟨⟨cls,w,p,E⟩,m,z,n,A⟩:=id p1;obtain⟨⟨l,t,data2,f⟩,c,d,n2,e⟩:=id p2;subst z A d e;exact asb ⟨_,m,rfl⟩ ⟨_,c,rfl⟩ asd seq_tuple_add aq9 aq5 (aqU _ _) (tuple_addW0 a b _ _ n n2 w _ E f (rfl)) ⟨m,c,⟨.ref b,H,I,rfl,q⟩⟩
set_option tactic.hygienic true in
def w_add(w:X.K=K):OpR X (binaryOp .Add) (lo2 K WL.iC):=by
 subst w;refine OpR.imp (ajP.or (abP.or (ahw.or aew))) λx y H Q t=>?_;obtain⟨F,wx,z,s,f,i,q⟩:=t;unfold WL.iC at q;split at q;.simp only[RW]at f i;exact .inl ⟨_,_,f,i,q _ F H (Ext.refl F H) (by simp[RW])⟩
 rotate_left
 .rename_i j l;simp only[RW]at f i;obtain⟨a,h,rfl,qa,d⟩:=f;obtain⟨b,e,rfl,k,g⟩:=i;by_cases c:j.length+l.length<=WL.lim
  .rw[apa c]at q;have m:=d.length;have n:=g.length;have r:h.length+e.length<=sizeLine:=by rw[<-m,<-n];exact apb c cH
   by_cases v:h=[];.subst v;have:j=[]:=List.length_eq_zero_iff.mp m;subst this;refine .inr (.inr (.inr ⟨a,b,e,rfl,rfl,s.tup qa,s.tup k,?_⟩));exact eq1 q (by simp only[RW,List.nil_append];exact⟨b,e,rfl,k,g⟩)
   .refine .inr (.inr (.inl ⟨a,b,h,e,rfl,rfl,s.tup qa,s.tup k,v,r,λu=>?_,λu p o=>?_⟩));.subst u;have:l=[]:=List.length_eq_zero_iff.mp n;subst this;exact eq1 q (by simp only[RW,apE];exact⟨a,h,rfl,qa,d⟩)
    .exact aly s q (d.app g) o
  .rw[ao9 c]at q;exact q.elim
 .exact q.elim
 .rename_i j l;simp only[RW]at f i;obtain⟨a,h,rfl,qa,d⟩:=f;obtain⟨b,e,rfl,k,g⟩:=i;by_cases c:j.length+l.length<=WL.lim;.rw[apa c]at q;have q:Eq1 F H X.K (.ok (.lst (j++l))) Q:=q;have m:=d.length;have n:=g.length;exact .inr (.inl ⟨a,b,h,e,rfl,rfl,s.seq qa,s.seq k,by rw[<-m,<-n];exact apb c cH,λp o=>alz s q (d.app g) o⟩)
  .rw[ao9 c]at q;exact q.elim
def mh:Calm WL.iC:=λx y c h=>by unfold WL.iC at h;split at h<;>first|(cases h)|(split at h<;>cases h)
def ag1{f C g r}(h:OpR X f (rI C g))(k:∀x y w,r x y=.ok w->∃i j,x=.int i/\y=.int j/\C i j/\∀F,RW K F w (g i j))(cm:Calm r):OpR X f (lo2 K r):=by refine OpR.imp h λx y H Q b=>?_;refine adC b λF wx p s l n q=>?_;cases e:r _ _ with|bad=>rw[e]at q;exact q.elim|ex c=>exact(cm _ _ _ e).elim|ok w=>refine oE (k _ _ w e) λi j a d m o=>?_;subst a d;rw[e]at q;exact afA i j l n m (eq1 q (o F))
def xk{f g r}(h:OpR X f (rI0 g))(k:∀x y w,r x y=.ok w->∃i j,x=.int i/\y=.int j/\∀F,RW K F w (g i j))(cm:Calm r):OpR X f (lo2 K r):=by refine OpR.imp h λx y H Q b=>?_;refine adC b λF wx o s l m q=>?_;cases e:r _ _ with|bad=>rw[e]at q;exact q.elim|ex c=>exact(cm _ _ _ e).elim|ok w=>refine oC (k _ _ w e) λi j a d n=>?_;subst a d;rw[e]at q;exact⟨i,j,l,m,eq1 q (n F)⟩
def mf:Calm WL.aak:=λx y c h=>by unfold WL.aak at h;split at h<;>cases h
def fW:Calm WL.zp:=λx y c h=>by unfold WL.zp at h;split at h<;>first|(cases h)|(split at h<;>cases h)
def du:Calm WL.oDiv:=λx y c h=>by unfold WL.oDiv at h;split at h<;>first|(cases h)|(split at h<;>cases h)
def yD:Calm WL.oMod:=λx y c h=>by unfold WL.oMod at h;split at h<;>first|(cases h)|(split at h<;>cases h)
def og:Calm WL.oLt:=λx y c h=>by unfold WL.oLt at h;split at h<;>cases h
def ku:Calm WL.oLe:=λx y c h=>by unfold WL.oLe at h;split at h<;>cases h
def jn:Calm WL.oGt:=λx y c h=>by unfold WL.oGt at h;split at h<;>cases h
def w_sub:OpR X (binaryOp .Sub) (lo2 K WL.aak):=xk ajH (λx y w e=>by unfold WL.aak at e;split at e<;>cases e;exact⟨_,_,rfl,rfl,λF=>rfl⟩) mf
def w_mul:OpR X (binaryOp .Mult) (lo2 K WL.zp):=ag1 ajJ (λx y w e=>by
 unfold WL.zp at e;split at e<;>first|(cases e)|skip
 split at e;.rename_i a;cases e;exact⟨_,_,rfl,rfl,a,λF=>rfl⟩
 .cases e) fW
def aev:OpR X (binaryOp .FloorDiv) (rI (λ_ j=>0<j/\j<10^100) λi j=>.int (i/j)):=opI λi j _ _ _ _ _ a q=>by
 have d:(0:Int)<j:=a.1;have c:j<10^100:=a.2;refine floordiv_int (by omega) (by rw[Int.fdiv_eq_ediv_of_nonneg i (by omega)];exact q) (.inl (PyProof.noPylong_of_log2 ?_));have b:j.natAbs<10^100:=by omega
 have:j.natAbs.log2<400:=(Nat.log2_lt (by omega)).mpr (apd b (by decide+kernel));omega
def w_div:OpR X (binaryOp .FloorDiv) (lo2 K WL.oDiv):=ag1 aev (λx y w e=>by
 unfold WL.oDiv at e;split at e<;>first|(cases e)|skip
 split at e;.rename_i a;cases e;exact⟨_,_,rfl,rfl,a,λF=>rfl⟩
 .cases e) du
def w_mod:OpR X (binaryOp .Mod) (lo2 K WL.oMod):=ag1 ajK (λx y w e=>by
 unfold WL.oMod at e;split at e<;>first|(cases e)|skip
 split at e;.rename_i a;cases e;exact⟨_,_,rfl,rfl,a,λF=>rfl⟩
 .cases e) yD
def w_lt:OpR X (compareOp .Lt) (lo2 K WL.oLt):=xk amt (λx y w e=>by unfold WL.oLt at e;split at e<;>cases e;exact⟨_,_,rfl,rfl,λF=>rfl⟩) og
def aiX:OpR X (compareOp .LtE) (lo2 K WL.oLe):=xk amu (λx y w e=>by unfold WL.oLe at e;split at e<;>cases e;exact⟨_,_,rfl,rfl,λF=>rfl⟩) ku
def aii:OpR X (compareOp .Gt) (lo2 K WL.oGt):=xk amv (λx y w e=>by unfold WL.oGt at e;split at e<;>cases e;exact⟨_,_,rfl,rfl,λF=>rfl⟩) jn
def lG:UnR X (unaryOp .USub) (lo1 K WL.u1):=UnR.imp aiY λx H Q a=>by
 refine oC a λF wx s b q=>?_;cases wx<;>first|exact q.elim|skip
 exact⟨_,b,q _ F H (Ext.refl F H) (rfl)⟩
def cC:∀x c,WL.u1 x≠.ex c:=λx c h=>by cases x<;>simp[WL.u1]at h
def abd{F}{x y:VW}{v u}(h:WL.ahg x y=true)(a:RW K F x v)(b:RW K F y u):ama v u=true/\decide (v=u)=WL.eqv x y:=by
 cases x<;>first|(cases h)|skip
 all_goals cases y<;>first|(cases h;done)|(subst a;subst b;exact⟨rfl,by first|rfl|exact v5|exact acZ|exact vZ ⟩)
def calm_eq:Calm WL.oEq:=λx y c h=>by simp only[WL.oEq]at h;split at h<;>first|(cases h)|(split at h<;>cases h)
def aib:Calm WL.oNe:=λx y c h=>by simp only[WL.oNe]at h;split at h<;>first|(cases h)|(split at h<;>cases h)
def w_eq(f:X.K=K)(i:X.A.units+64<cLine):OpR X (compareOp .Eq) (lo2 K WL.oEq):=by
 subst f;refine OpR.imp (amw.or ajO) λx y H Q a=>?_;refine adC a λF wx c s b d q=>?_;simp only[WL.oEq]at q;split at q;.rename_i h;obtain⟨g,e⟩:=abd h b d;exact .inl ⟨g,eq1 q (by simp[RW,e])⟩
 .split at q;.rename_i h;rw[apk]at h;refine .inr (r9 50 _ _ (RW.isD _ _ x h.1 (b.keep s)) (RW.isD 50 c y h.2 (d.keep s)) (by omega) ?_);rw[kj 50 50 wx c h.1 h.2];exact eq1 q (rfl)
  .exact q.elim
def aiV(f:X.K=K)(i:X.A.units+64<cLine):OpR X (compareOp .NotEq) (lo2 K WL.oNe):=by
 subst f;refine OpR.imp (ams.or ajI) λx y H Q a=>?_;refine adC a λF wx c s b d q=>?_;simp only[WL.oNe]at q;split at q;.rename_i h;obtain⟨g,e⟩:=abd h b d;exact .inl ⟨g,eq1 q (by simp[RW,e])⟩
 .split at q;.rename_i h;rw[apk]at h;refine .inr (r9 50 _ _ (RW.isD _ _ x h.1 (b.keep s)) (RW.isD 50 c y h.2 (d.keep s)) (by omega) ?_);rw[kj 50 50 wx c h.1 h.2];exact eq1 q (rfl)
  .exact q.elim
def kx:Calm WL.oIn:=λx y c h=>by cases y<;>simp only[WL.oIn]at h<;>first|(cases h)|(split at h<;>cases h)
def dq:Calm WL.hX:=λx y c h=>by cases y<;>simp only[WL.hX]at h<;>first|(cases h)|(split at h<;>cases h)
set_option tactic.hygienic true
def aih(f:X.K=K)(i:X.A.units+64<cLine):OpR X (compareOp .In) (lo2 K WL.oIn):=by
 subst f;refine OpR.imp ajN λx y H Q a=>?_;refine adC a λF wx e s d g q=>?_;cases e<;>simp only[WL.oIn]at q<;>first|exact q.elim|skip
 all_goals
 rename_i c;by_cases h:(WL.okD 50 wx&&WL.nk 51 c)=true;.rw[apa h]at q;rw[apk]at h;have b:=RW.isD 51 _ y (by exact h.2) (g.keep s);refine r9 50 _ (dB c) (RW.isD 50 wx x h.1 (d.keep s)) (by first|exact .inl b|exact .inr b) (by omega) ?_;rw[wJ h.1 h.2];exact eq1 q (rfl)
 .rw[ao9 h]at q;exact q.elim
def i8(f:X.K=K)(i:X.A.units+64<cLine):OpR X (compareOp .NotIn) (lo2 K WL.hX):=by
 subst f;refine OpR.imp abM λx y H Q a=>?_;refine adC a λF wx e s d g q=>?_;cases e<;>simp only[WL.hX]at q<;>first|exact q.elim|skip
 all_goals
 rename_i c;by_cases h:(WL.okD 50 wx&&WL.nk 51 c)=true;.rw[apa h]at q;rw[apk]at h;have b:=RW.isD 51 _ y (by exact h.2) (g.keep s);refine r9 50 _ (dB c) (RW.isD 50 wx x h.1 (d.keep s)) (by first|exact .inl b|exact .inr b) (by omega) ?_;rw[wJ h.1 h.2];exact eq1 q (rfl)
 .rw[ao9 h]at q;exact q.elim
set_option tactic.hygienic false
def yp{F w v}(r:RW K F w v):decide (v=V.non)=WL.ahO w:=by cases w;all_goals first|(subst r;rfl)|(refine dv r λa d b _=>?_;subst b;rfl)|(obtain⟨a,rfl,_⟩:=r;rfl)|(refine wN r λa C c b _=>?_;subst b;rfl)|(refine aiE r λa C c l b _=>?_;subst b;rfl)
def ajM:OpR X (compareOp .Is) λx y H Q=>∃b,y=.bl b/\Q (.bl (decide (x=.bl b))) H:=by
 intro d s f H x y v u Q I a e h;obtain⟨b,rfl,q⟩:=h;cases e;refine wpAny_is_plain ?_ (aT I q ?_);.cases x<;>(obtain⟨t,rfl⟩:=a;rfl)
 .cases x with|bl c=>cases a;cases b<;>cases c<;>rfl|_=>(obtain⟨t,rfl⟩:=a;cases b<;>rfl)
def abN:OpR X (compareOp .IsNot) λx y H Q=>∃b,y=.bl b/\Q (.bl !decide (x=.bl b)) H:=by
 intro d s f H x y v u Q I a e h;obtain⟨b,rfl,q⟩:=h;cases e;refine wpAny_isNot_plain ?_ (aT I q ?_);.cases x<;>(obtain⟨t,rfl⟩:=a;rfl)
 .cases x with|bl c=>cases a;cases b<;>cases c<;>rfl|_=>(obtain⟨t,rfl⟩:=a;cases b<;>rfl)
set_option tactic.hygienic true in
def agl{F w v b}(r:RW K F w v):decide (v=V.bl b)=WL.isB b w:=by cases w;all_goals first|(subst r;cases b<;>first|rfl|(rename_i c;cases c<;>rfl))|(refine dv r λa f d _=>?_;subst d;cases b<;>rfl)|(obtain⟨a,rfl,_⟩:=r;cases b<;>rfl)|(refine wN r λa C e d _=>?_;subst d;cases b<;>rfl)|(refine aiE r λa C e l d _=>?_;subst d;cases b<;>rfl)
def oi:Calm WL.oIs:=λx y c h=>by cases y<;>simp[WL.oIs]at h
def iA:Calm WL.nu:=λx y c h=>by cases y<;>simp[WL.nu]at h
def w_is:OpR X (compareOp .Is) (lo2 K WL.oIs):=by
 refine OpR.imp (ajL.or ajM) λx y H Q a=>?_;refine adC a λF wx d s b c q=>?_;cases d<;>first|exact q.elim|skip
 .exact .inl ⟨c,eq1 q (by simp[RW,yp b])⟩
 .exact .inr ⟨_,c,eq1 q (by simp[RW,agl b])⟩
def qz:OpR X (compareOp .IsNot) (lo2 K WL.nu):=by
 refine OpR.imp (ahv.or abN) λx y H Q a=>?_;refine adC a λF wx d s b c q=>?_;cases d<;>first|exact q.elim|skip
 .exact .inl ⟨c,eq1 q (by simp[RW,yp b])⟩
 .exact .inr ⟨_,c,eq1 q (by simp[RW,agl b])⟩
def akY{F ws vs i w}(r:RWs K F ws vs)(h:WL.atI ws i=some w):∃v,L2.atI vs i=some v/\RW K F w v:=by unfold WL.atI at h;cases e:WL.ixN _ i with|none=>rw[e]at h;cases h|some j=>rw[e]at h;obtain⟨v,b,a⟩:=r.get h;refine⟨v,?_,a⟩;unfold L2.atI;rw[<-r.length,show L2.ixN _ i=some j from e];exact b
def wC:Calm WL.oIx:=λx y c h=>by
 unfold WL.oIx at h;split at h<;>first|(cases h)|skip
 all_goals revert h;first|(cases WL.atI _ _<;>simp[WL.ofO];done)|(cases WL.rT _ _ _<;>simp[WL.ofO])
theorem acV{F}(k)(w:VW):∀{kvs:List (Key×V)}{ks vs},RWs K F ks (kvs.map λp=>kV p.1)->RWs K F vs (kvs.map λp=>p.2)->WL.rT k ks vs=some w->∃v,qB kvs (Sum.inr k)=some v/\RW K F w v
|[],ks,vs,r1,r2,e=>by cases ks with|nil=>simp[WL.rT]at e|cons x ks=>simp[RWs]at r1
|p::kvs,ks,vs,r1,r2,e=>by cases ks with|nil=>simp[WL.rT]at e|cons x ks=>
 cases vs with|nil=>cases x<;>cases e|cons y vs=>obtain⟨v1,l,g,q1,s1⟩:=r1;obtain⟨v2,j,d,q2,s2⟩:=r2;cases g;cases d;cases x with|str x=>
     simp only[RW]at q1;have a:p.1=Sum.inr x:=by cases a:p.1 with|inl i=>rw[a]at q1;cases i<;>exact absurd q1 (by simp[kV])|inr z=>rw[a]at q1;simp only[kV]at q1;cases q1;rfl
     simp only[WL.rT]at e;by_cases h:x=k;.subst h;simp at e;subst e;exact⟨p.2,dO a,q2⟩
     .have c:(x==k)=false:=by simpa using h
      rw[c]at e;obtain⟨v,b,f⟩:=acV k w s1 s2 (by simpa using e);exact⟨v,by rw[dP λz=>h (by rw[a]at z;exact Sum.inr.inj z)];exact b,f⟩|_=>simp[WL.rT]at e
set_option tactic.hygienic true in
def alS(o:X.K=K):IxR X (lo2 K WL.oIx):=by
 subst o;refine IxR.imp ((ahM.or akm).or acm) λx y H Q f=>?_;obtain⟨F,wx,p,s,h,g,q⟩:=f;unfold WL.oIx at q;split at q;rotate_left 2;.rename_i j d k;obtain⟨a,n,rfl,qa,r1,r2⟩:=h;cases e:WL.rT k j d with|none=>rw[e]at q;exact q.elim|some w=>rw[e]at q;obtain⟨v,b,c⟩:=acV k w r1 r2 e;exact .inr ⟨a,_,Sum.inr k,v,rfl,g,s.rd qa,b,eq1 q c⟩
 .exact q.elim
 all_goals rename_i l i;obtain⟨a,d,rfl,qa,m⟩:=h;cases e:WL.atI l i with|none=>rw[e]at q;exact q.elim|some w=>rw[e]at q;obtain⟨v,b,c⟩:=akY m e;first|exact .inl (.inl ⟨a,d,i,v,rfl,g,s.seq qa,b,eq1 q c⟩)|exact .inl (.inr ⟨a,d,i,v,rfl,g,s.tup qa,b,eq1 q c⟩)
def afI(h:X.K=K):SlR X (anT K):=by
 subst h;have i:WL.sIx=HT.sIx:=rfl;refine SlR.imp (ahc.or ajc) λx lo f H Q c=>?_;refine oC c λF wx s g q=>?_;cases wx<;>simp [WL.oSl]at q<;>first|exact q.elim|skip
 .obtain⟨a,d,rfl,qa,b⟩:=g;split at q;.exact q.elim
  .rename_i hw;rw[i,b.length]at hw;exact .inr (afA a d rfl (s.tup qa) hw λp e=>aly s q (b.cut lo f) e)
 .obtain⟨a,d,rfl,qa,b⟩:=g;exact .inl (iH a d rfl (s.seq qa) λp e=>alz s q (b.cut lo f) e)
def cw{F w xs}(r:RWs K F [w] xs):∃v,xs=[v]/\RW K F w v:=by obtain⟨v,t,rfl,h,rfl⟩:=r;exact⟨v,rfl,h⟩
def two_of{F w b xs}(r:RWs K F [w,b] xs):∃v a,xs=[v,a]/\RW K F w v/\RW K F b a:=by obtain⟨v,t,rfl,h,a,d,rfl,c,rfl⟩:=r;exact⟨v,a,rfl,h,c⟩
def ag0(e:X.K=K):bP X (.builtin "len") (loN K WL.gE):=by
 subst e;refine bP.imp uN λf H Q b=>?_;refine oC b λF ws s r q=>?_;unfold WL.gE at q;split at q;.obtain⟨v,rfl,h⟩:=cw r;obtain⟨a,d,rfl,qa,c⟩:=h;exact⟨a,d,rfl,.inl (s.seq qa),eq1 q (by simp[RW,c.length])⟩
 .obtain⟨v,rfl,h⟩:=cw r;obtain⟨a,d,rfl,qa,c⟩:=h;exact⟨a,d,rfl,.inr (s.tup qa),eq1 q (by simp[RW,c.length])⟩
 .exact q.elim
def qw(i:X.K=K):bP X (.type "tuple") (loN K WL.lC):=by
 subst i;refine bP.imp rY λj H Q c=>?_;refine oC c λF ws s r q=>?_;unfold WL.lC at q;split at q;.obtain⟨v,rfl,h⟩:=cw r;refine oC h λa d b qa e=>?_;subst b;exact⟨a,d,rfl,.inl ⟨s.seq qa,λl f=>aly s q e f⟩⟩
 .refine eM (cw r) λv b h=>?_;subst b;have g:=h;refine oC h λa d b qa e=>?_;subst b;exact⟨a,d,rfl,.inr ⟨s.tup qa,eq1 q g⟩⟩
 .exact q.elim
noncomputable def aor:VW->Value|.non=>.type "NoneType"|.bl _=>.type "bool"|.int _=>.type "int"|.str _=>.type "str"|.ty _=>.type "type"|.tup _=>.type "tuple"|.lst _=>.type "list"|.dic _ _=>.type "dict"|.cls _=>.type "type"|.exc _ _=>.none|.ins _ _=>.none|.id _=>.none
def akc{w:VW}{t b}(h:WL.isK w t=some b):W.kitOne K (aor w) (.type t)=some b:=by
 have c:=by
  cases w<;>first|(cases h;done)|(change(if _ then _ else _)=_ at h)
  all_goals
  split at h;.rename_i a;simpa using a
  .cases h
 cases w<;>rcases c with rfl|rfl|rfl|rfl|rfl<;>first|(cases h;done)|(rw[<-h];rfl)
def aj1{F H a vs}(s:aw F H)(h:SqL K F a vs):TyOf K H (.ref a) (.type "list")\/∃o b n,K.lookup a=some o/\o.cls=.type "list"/\o.dict=none/\o.data=.seq b n:=by
 rcases h with(h|⟨o,h⟩)|⟨o,b,n,e,d,f,c,_⟩;.exact .inl (.lst (s _ _ h))
 .exact .inl (.frz (s _ _ h))
 .exact .inr (r9 o _ n e d f c)
def uO:bP X (.builtin "isinstance") λc H Q=>∃a o T b,c=[.ref a,.ty T]/\X.K.lookup a=some o/\o.cls=.type "list"/\W.kitOne X.K (.type "list") (.type T)=some b/\Q (.bl b) H:=by intro d s k H c m Q I r h;obtain⟨a,o,T,b,rfl,j,g,e,q⟩:=h;obtain⟨u,l,rfl,f,i⟩:=vals2 r;cases i;cases f;exact ap4 W.kitx_list I.kIn ⟨o,I.kIn a o j,g⟩ e (λz=>nomatch z) λtk=>⟨.bl b,H,I.tok _,rfl,q⟩
set_option tactic.hygienic true in
def dJ(y:X.K=K):bP X (.builtin "isinstance") (loN K WL.cq):=by subst y;refine bP.imp (wD.or uO) λz H Q f=>?_;obtain⟨F,ws,s,r,q⟩:=f;cases e:WL.cq ws with|bad|ex c=>rw[e]at q;exact q.elim|ok w=>
  rw[e]at q;unfold WL.cq at e;split at e
  .rename_i x t;split at e;.rename_i b g;cases e;obtain⟨v,A,rfl,h,m⟩:=two_of r;subst m;have d:=akc (K:=X.K) g;have fin:Q (.bl b) H:=eq1 q (by simp[RW]);cases x with|non=>simp only[RW]at h;subst h;exact .inl ⟨_,t,_,b,rfl,.inl .non,d,fin⟩|bl k=>simp only[RW]at h;subst h;exact .inl ⟨_,t,_,b,rfl,.inl (.bl k),d,fin⟩|int k=>simp only[RW]at h;subst h;exact .inl ⟨_,t,_,b,rfl,.inl (.int k),d,fin⟩|str k=>simp only[RW]at h;subst h;exact .inl ⟨_,t,_,b,rfl,.inl (.str k),d,fin⟩|ty k|dic _ _|cls _|exc _ _|ins _ _|id _=>cases g|tup ys=>obtain⟨a,i,rfl,qa,u⟩:=h;exact .inl ⟨_,t,_,b,rfl,.inr ⟨a,i,rfl,rfl,s.tup qa⟩,d,fin⟩|lst ys=>
     obtain⟨a,i,rfl,qa,u⟩:=h;rcases aj1 s qa with ty|⟨o,p,n,l,j,C,B⟩;.exact .inl ⟨_,t,_,b,rfl,.inl ty,d,fin⟩
     .exact .inr ⟨a,o,t,b,rfl,l,j,d,fin⟩
   .cases e
  .cases e
mutual theorem ab4:∀(n m:Nat)(x y:VW),WL.okD n x=true->WL.okD m y=true->ltv (toD x) (toD y)=WL.ltW x y
|n,m,.tup _,y,h1,h2=>by cases y with|tup ys=>exact yb n m _ ys h1 h2|_=>rfl
|n,m,.int _,y,_,h2=>by cases y<;>rfl|n,m,.non,y,_,h2=>rfl|n,m,.bl _,y,_,h2=>rfl|n,m,.str _,y,_,h2=>rfl|n,m,.lst _,y,_,h2=>rfl theorem yb:∀(n m:Nat)(xs ys:List VW),WL.nk n xs=true->WL.nk m ys=true->pU (dB xs) (dB ys)=WL.amO xs ys|n,m,[],ys,_,_=>by cases ys<;>rfl|n,m,x::xs,ys,h1,h2=>by cases ys with|nil=>rfl|cons y ys=>cases n with|zero=>cases h1|succ n=>cases m with|zero=>cases h2|succ m=>have h1:=apD.mp h1;have h2:=apD.mp h2;show(if PyData.eqv _ _ then pU _ _ else ltv _ _)=if _ then _ else _;rw[kj n m x y h1.1 h2.1,ab4 n m x y h1.1 h2.1,yb (n+1) (m+1) xs ys h1.2 h2.2]end
mutual theorem ada:∀(x y:VW),WL.alF x y=true->adb (toD x) (toD y)=true
|.tup _,y,h=>by cases y with|tup ys=>exact yB _ _ h|_=>cases h
|.int _,y,h=>by cases y<;>first|(cases h;done)|rfl theorem yB:∀(xs ys:List VW),WL.afl xs ys=true->iy (dB xs) (dB ys)=true|[],_,_=>rfl|_::_,[],_=>rfl|x::xs,y::ys,h=>by simp only[WL.afl,apk]at h;simp only[dB,iy,apk];exact⟨ada x y h.1,yB xs ys h.2⟩end
theorem l5:∀a,dB a=a.map toD|[]=>rfl|x::a=>by simp [dB,l5 _]
theorem adu{b a n}(h:∀i j,i<=n->j<=n->b i j=a i j):∀k,k<=n->argBest b k=WL.agy a k/\WL.agy a k<=k|0,_=>⟨rfl,ao6 _⟩|k+1,hk=>by obtain⟨e,l⟩:=adu h k (by omega);simp only[argBest,WL.agy,e,h _ (WL.agy a k) hk (by omega)];refine⟨trivial,?_⟩;split<;>omega
theorem xX{n}:∀{xs:List VW},WL.nk (n+1) xs=true->∀x∈xs,WL.okD n x=true
|[],_,x,a=>by grind|y::ys,h,x,a=>by
 have h:=apD.mp h;rcases apq.mp a with rfl|a;.exact h.1
 .exact xX h.2 x a
def aey{α}(o:Option α)(c:VW):WL.ofO o≠.ex c:=by cases o<;>simp[WL.ofO]
set_option tactic.hygienic true in
def aiW(G:X.calm=true)(S:X.K=K)(Y:X.A.units+64<cLine):bP X (.builtin "min") (loN K WL.adp):=by
 subst S;refine bP.imp (adj G) λT H Q m=>?_;obtain⟨F,ws,s,r,q⟩:=m;unfold WL.adp at q;split at q
 .rename_i b;obtain⟨v,rfl,h⟩:=cw r;simp only[RW]at h;obtain⟨a,t,rfl,qa,o⟩:=h;unfold WL.minOf at q;split at q
  .rename_i R;obtain⟨Z,A,U⟩:=R;have E:=o.length;have B:∀x∈b,WL.okD 50 x=true:=xX A;have p:∀x∈b,∀y∈b,WL.alF x y=true:=λx l y f=>by grind
   refine⟨a,t,50,dB b,rfl,s.seq qa,by omega,RWs.isD 50 b t A (o.keep s),?_,by omega,λy f=>?_⟩;.rw[l5];intro d I e D;obtain⟨x,l,rfl⟩:=ash.mp I;obtain⟨y,f,rfl⟩:=ash.mp D;exact ada x y (p x l y f)
   .have M:∀i j,i<=b.length-1->j<=b.length-1->ltv ((dB b).getD i .none) ((dB b).getD j .none)=WL.ltW (b.getD i .non) (b.getD j .non):=λi j z J=>by
     have C:∀i,i<=b.length-1->∃x∈b,(dB b).getD i .none=toD x/\b.getD i .non=x:=λi z=>by
      have c:i<b.length:=by omega
      refine⟨b[i],List.getElem_mem c,?_,?_⟩;.rw[l5,apP,apz,apf c];rfl
      .rw[apP,apf c];rfl
     obtain⟨x,l,n,w⟩:=C i z;obtain⟨y,f,P,N⟩:=C j J;rw[n,w,P,N,ab4 50 50 x y (B x l) (B y f)]
    obtain⟨n,w⟩:=adu M (b.length-1) (ao6 _);rw[<-E,n]at f;have g:WL.agy (λi j=>WL.ltW (b.getD i .non) (b.getD j .non)) (b.length-1)<b.length:=by omega
    rw[apf g]at q;obtain⟨u,k,O⟩:=o.get (apf g);rw[f]at k;cases k;exact eq1 q O
  .exact q.elim
 .exact q.elim
def adi:∀a c,WL.adp a≠.ex c:=λa c h=>by
 unfold WL.adp at h;split at h
 .unfold WL.minOf at h;split at h;.exact aey _ _ h
  .cases h
 .cases h
def rW:∀a c,WL.gE a≠.ex c:=λa c h=>by unfold WL.gE at h;split at h<;>cases h
def iz:∀a c,WL.lC a≠.ex c:=λa c h=>by unfold WL.lC at h;split at h<;>cases h
def bJ:∀a c,WL.cq a≠.ex c:=λa c h=>by
 unfold WL.cq at h;split at h;.split at h<;>cases h
 .cases h
end
structure Walk(K:W.Frag)(J:It)(xs:List VW)(F:Hp):Prop where
 go:∀(i:Nat)(x:VW),xs[i]?=some x->∀F1 H1:Hp,aw F F1->aw F1 H1->J.go i H1/\∀v H2,J.yld i H1 v H2->∃F2,Ext F1 H1 F2 H2/\RW K F2 x v
 stop:∀F1 H1:Hp,aw F F1->aw F1 H1->J.stop xs.length H1
def loI(B:Bx)(it:LF):TI:=λa H R=>∃b F,RS B b a F H/\Rq B b F (it b) λe=>∀J c d,RS B b a d c->Gr F H d c->Walk B.K J e d->R J c
def aaK{K a xs vs F}(h:SqL K F a vs)(r:RWs K F xs vs):Walk K (Itl K a) xs F:=by refine⟨λi x e c f s1 s2=>?_,λc f s1 s2=>⟨vs,s2.seq (s1.seq h),by rw[r.length];exact ao6 _⟩⟩;refine eM (r.get e) λv d r1=>?_;refine⟨⟨vs,v,s2.seq (s1.seq h),d⟩,λu j b=>?_⟩;obtain⟨g,y⟩:=b;subst g;have:=y _ (s2.seq (s1.seq h));rw[d]at this;cases this;exact⟨c,Ext.refl _ _,r1.keep s1⟩
def ad0{K a xs vs F}(h:SqT K F a vs)(r:RWs K F xs vs):Walk K (Itt K a) xs F:=by refine⟨λi x e c f s1 s2=>?_,λc f s1 s2=>⟨vs,s2.tup (s1.tup h),by rw[r.length];exact ao6 _⟩⟩;refine eM (r.get e) λv d r1=>?_;refine⟨⟨vs,v,s2.tup (s1.tup h),d⟩,λu j b=>?_⟩;obtain⟨g,y⟩:=b;subst g;have:=y _ (s2.tup (s1.tup h));rw[d]at this;cases this;exact⟨c,Ext.refl _ _,r1.keep s1⟩
def abj(lo)(n):(WL.rng lo n).length=n:=by simp[WL.rng]
def xj{K lo n F}:Walk K (Itr lo n) (WL.rng lo n) F:=by
 refine⟨λi x e c d s1 s2=>?_,λc d s1 s2=>by rw[abj];exact ao6 n⟩;have b:=by have:=(ao8.mp e).1;rwa[abj]at this
 refine⟨b,λv g a=>?_⟩;obtain⟨f,y⟩:=a;subst f y;refine⟨c,Ext.refl _ _,?_⟩;simp only[WL.rng,apz,List.getElem?_range b]at e;have e:=aps e;subst e;simp[RW]
theorem rJ:∀(xs:List VW)(k i:Nat),(WL.rK k xs)[i]?=xs[i]?.map λx=>.tup [.int (k+i:Nat),x]|[],_,_=>rfl|x::xs,k,0=>rfl|x::xs,k,i+1=>by simp only[WL.rK,aq6];rw[rJ _ _ i];congr 1;funext y;congr 4;omega
theorem rH:∀(xs:List VW)k,(WL.rK k xs).length=xs.length|[],_=>rfl|x::xs,k=>by simp [WL.rK,rH _ _]
def aaL{K a xs vs F}(h:SqT K F a vs)(r:RWs K F xs vs):Walk K (Ite K a) (WL.rK 0 xs) F:=by refine⟨λi x e l k s1 s2=>?_,λl k s1 s2=>⟨vs,s2.tup (s1.tup h),by rw[rH,r.length];exact ao6 _⟩⟩;rw[rJ]at e;cases c:xs[i]? with|none=>rw[c]at e;cases e|some y=>rw[c]at e;obtain⟨v,g,r1⟩:=r.get c;have e:=aps e;subst e;refine⟨⟨vs,v,s2.tup (s1.tup h),g⟩,λu o b=>?_⟩;refine jV b λp m j n=>?_;subst m;obtain⟨z,f,rfl⟩:=n vs (s2.tup (s1.tup h));rw[g]at f;cases f;have d:=s2.free j;refine⟨_,Ext.new d j _,p,_,rfl,SqT.of ah,?_⟩;simp only[RWs,RW];refine⟨_,_,rfl,?_,_,_,rfl,(r1.keep s1).keep (au d _),rfl⟩;simp
def yT{K a xs vs F}(h:SqL K F a vs)(r:RWs K F xs vs):Walk K (alL K a) (WL.rK 0 xs) F:=by refine⟨λi x e l k s1 s2=>?_,λl k s1 s2=>⟨vs,s2.seq (s1.seq h),by rw[rH,r.length];exact ao6 _⟩⟩;rw[rJ]at e;cases c:xs[i]? with|none=>rw[c]at e;cases e|some y=>rw[c]at e;obtain⟨v,g,r1⟩:=r.get c;have e:=aps e;subst e;refine⟨⟨vs,v,s2.seq (s1.seq h),g⟩,λu o b=>?_⟩;refine jV b λp m j n=>?_;subst m;obtain⟨z,f,rfl⟩:=n _ (s2.seq (s1.seq h));rw[g]at f;cases f;have d:=s2.free j;refine⟨_,Ext.new d j _,p,_,rfl,SqT.of ah,?_⟩;simp only[RWs,RW];refine⟨_,_,rfl,?_,_,_,rfl,(r1.keep s1).keep (au d _),rfl⟩;simp
section
variable{X:Cx}{B:Bx}{e tg:Expr}{pos:Pos}{ta tb:EF}{g:GF}{b:SF}
def tSq(K:W.Frag)(f:TE):TI:=λh H R=>f h H λx c=>∃a,x=.ref a/\((∃d,SqL K c a d)/\R (Itl K a) c\/(∃d,SqT K c a d)/\R (Itt K a) c)
def aho{pins}{k:L2.St}{c R s1 x v}(d:Inv X pins k c s1)(r1:RelV x v)(q:∃a,x=.ref a/\((∃f,SqL X.K c a f)/\R (Itl X.K a) c\/(∃f,SqT X.K c a f)/\R (Itt X.K a) c)):wpAny (model X.prog X.w) X.A (pyIter v) (PIE X pins k tg R) X.xe s1:=by
 obtain⟨a,e,q1⟩:=q;subst e;cases r1;have j:∀b∈[s1.heap.objs.size],yL X pins c b:=λb n=>by
  have e:b=s1.heap.objs.size:=by grind
  subst e;exact d.aiv (ao6 _) (d.hok.fresh (ao6 _))
 rcases q1 with⟨⟨f,i⟩,q⟩|⟨⟨f,i⟩,q⟩;.obtain⟨h,m,p,l⟩:=d.list i;exact arU p.isList (aiG s1.heap.objs.size [s1.heap.objs.size] _ _ c rfl (d.kept λb o e=>ao4 _ e) (aaR a _) ⟨_,apg _ rfl,rfl,rfl⟩ j q)
 .obtain⟨h,m,p,l⟩:=d.tuple i;exact wpAny_pyIter_tuple p (aiG s1.heap.objs.size [s1.heap.objs.size] _ _ c rfl (d.kept λb o e=>ao4 _ e) (yU a _) ⟨_,apg _ rfl,rfl,rfl⟩ j q)
def ajv{l c}(i:PE X l c):PI X tg l (tSq X.K c):=λd s j H R I h=>thn (i _ s j H _ I h) λv s1 a=>by refine oC a λx k f r1 q=>?_;exact aho f r1 q
def ahF{K}(f:K=B.K):∀c H R,loI B (WL.se ta) c H R->tSq K (lo B ta) c H R:=λc H R i=>by refine dv i λo F p q=>?_;have q:=Rq.bind q;refine dI o F p (Rq.mono (aw.refl _) q λx h v n m d l r1=>?_);cases x with|lst xs=>obtain⟨a,k,rfl,qa,j⟩:=r1;refine⟨a,rfl,.inl ⟨⟨k,by rw[f];exact d.rb.sub.seq qa⟩,?_⟩⟩;rw[f];exact h _ _ m d l (aaK qa j)|tup xs=>obtain⟨a,k,rfl,qa,j⟩:=r1;refine⟨a,rfl,.inr ⟨⟨k,by rw[f];exact d.rb.sub.tup qa⟩,?_⟩⟩;rw[f];exact h _ n m d l (ad0 qa j)|_=>exact(h).elim
def fc(a:X.K=B.K)(h:PE X e (lo B ta)):PI X tg e (loI B (WL.se ta)):=PI.imp (ajv h) (ahF a)
def eW{a p pos}(D:Gl X "range")(A:X.mg "range"=none)(h:PE X a (lo B ta))(E:starEach [a] X.env=[(false,eval a X.env)]:=by rfl)(i:starEach [a] X.env=(false,eval a X.env)::starEach [] X.env:=by rfl):PI X tg (.Call (.Name "range" p) [a] [] pos) (loI B (WL.gz ta)):=PI.imp (abD D A (ag h bB i) E) λr H R m=>by
 refine dv m λd F z q=>?_;have q:=Rq.bind q;have y:Rq B d F (WL.aa ta WL.aq d) λws=>∀o k n,RS B d r n k->Gr F H n k->RWs B.K n ws o->∃j:Int,o=[.int j]/\-2^62<=j/\j<2^62/\R (Itr 0 j.toNat) k:=by show Rq B d F ((ta d).bind λx=>.ok [x]) _;cases e:ta d with
 |ok x=>
   rw[e]at q;intro o s u w t r1;refine eM (cw r1) λv l C=>?_;subst l
   cases x with|int j=>
    subst C;have q:Rq B d F (if -2^62<=j/\j<2^62 then .ok (WL.rng 0 j.toNat)else .bad) _:=q;by_cases f:-2^62<=j/\j<2^62;.rw[apa f]at q;exact⟨j,rfl,f.1,f.2,q _ s u w t xj⟩
    .rw[ao9 f]at q;exact q.elim|_=>exact(q).elim
 |ex c=>rw[e]at q;exact q|bad=>rw[e]at q;exact q
 exact dI d F z y
def qt{a c p pos}(M:Gl X "range")(J:X.mg "range"=none)(h:PE X a (lo B ta))(h':PE X c (lo B tb))(N:starEach [a,c] X.env=[(false,eval a X.env),(false,eval c X.env)]:=by rfl)(n:starEach [c] X.env=[(false,eval c X.env)]:=by rfl)(k:starEach [a,c] X.env=(false,eval a X.env)::starEach [c] X.env:=by rfl)(f:starEach [c] X.env=(false,eval c X.env)::starEach [] X.env:=by rfl):PI X tg (.Call (.Name "range" p) [a,c] [] pos) (loI B (WL.vM ta tb)):=PI.imp (abC M J (ag h (ag h' bB f) k) N n) λw H R m=>by
 refine dv m λd F E q=>?_;have q:=Rq.bind q;have I:Rq B d F (WL.aa ta (WL.aa tb WL.aq) d) λws=>∀u l o,RS B d w o l->Gr F H o l->RWs B.K o ws u->∃i j:Int,u=[.int i,.int j]/\(-2^62<=i/\i<2^62/\-2^62<=j/\j<2^62)/\R (Itr i (j-i).toNat) l:=by show Rq B d F ((ta d).bind λx=>((tb d).bind _).bind λD=>.ok (x::D)) _;cases e:ta d with
 |ok x=>rw[e]at q;have q:=Rq.bind q;cases t:tb d with
  |ok y=>rw[t]at q;intro u z G C A r1;refine oC (two_of r1) λv O s K r2=>?_;subst s;cases x with
   |int i=>cases y with|int j=>
      subst K r2;have q:Rq B d F (if -2^62<=i/\i<2^62/\-2^62<=j/\j<2^62 then .ok (WL.rng i (j-i).toNat)else .bad) _:=q;by_cases r:-2^62<=i/\i<2^62/\-2^62<=j/\j<2^62;.rw[apa r]at q;exact⟨i,j,rfl,r,q _ z G C A xj⟩
      .rw[ao9 r]at q;exact q.elim|_=>exact(q).elim
   |_=>exact(q).elim
  |ex c=>rw[t]at q;exact q|bad=>rw[t]at q;exact q
 |ex c=>rw[e]at q;exact q|bad=>rw[e]at q;exact q
 exact dI d F E I
def vb{l es k s p pos}(d:X.K=B.K)(y:Gl X "enumerate")(w:X.mg "enumerate"=none)(h:PE X l (lo B ta))(A:starEach [l] X.env=[(false,eval l X.env)]:=by rfl):PI X (.Tuple es k s) (.Call (.Name "enumerate" p) [l] [] pos) (loI B (WL.aeY ta)):=PI.imp (vl y w h A) λz H R i=>by refine dv i λt F u q=>?_;have q:=Rq.bind q;refine dI t F u (Rq.mono (aw.refl _) q λx f v n r c o r1=>?_);cases x with|tup xs=>obtain⟨a,m,rfl,qa,j⟩:=r1;refine⟨a,rfl,.inl ⟨⟨m,by rw[d];exact c.rb.sub.tup qa⟩,?_⟩⟩;rw[d];exact f _ n r c o (aaL qa j)|lst xs=>obtain⟨a,m,rfl,qa,j⟩:=r1;refine⟨a,rfl,.inr ⟨⟨m,by rw[d];exact c.rb.sub.seq qa⟩,?_⟩⟩;rw[d];exact f _ n r c o (yT qa j)|_=>exact(f).elim
variable{m:Bool}{es:List Expr}{gs:GsF}
def agR{i}(h:PG X e (L2.aN i)):PG X e (loG m B (WL.aN i)):=PG.imp h λv c H Q a=>by obtain⟨d,F,w,R,r,q⟩:=a;exact q _ H F (R.set r) Gm.refl
def qu:PGs X [] (alr m B WL.adI):=PGs.imp ahp λf c H Q a=>by refine aag a λd F ws R r q=>?_;cases ws with|nil=>exact⟨r,q _ H F R Gm.refl⟩|cons w ws=>exact(q).elim
def eP(p:PG X e (loG m B g))(x:PGs X es (alr m B gs))(z:(assignEach (e::es) X.env).map (·.2)=assign e X.env::(assignEach es X.env).map (·.2):=by rfl):PGs X (e::es) (alr m B (WL.iE g gs)):=PGs.imp (aep p x z) λC y H Q f=>by refine aag f λa F ws R r q=>?_;cases ws with|nil=>exact(q).elim|cons w ws=>obtain⟨v,t,rfl,r,rt⟩:=r;refine⟨v,t,rfl,a,F,w,R,r,?_⟩;have q:Rq B a F (match g w a with|.ok σ'=>(match gs _ σ' with|.ok σ2=>.ok σ2|_=>.bad)|_=>.bad) _:=q;cases h:g w a with|bad=>rw[h]at q;exact q|ex c=>rw[h]at q;exact q.elim|ok σ1=>rw[h]at q;intro j A n o i;have q:Rq B a F (match gs ws σ1 with|.ok σ2=>.ok _|_=>.bad) _:=q;refine agA σ1 n ws o (rt.keep i.f) ?_;cases d:gs ws σ1 with|bad=>rw[d]at q;exact q|ok σ2=>rw[d]at q;exact λk u l R2 s=>q _ u l R2 (i.trans s)|ex c=>rw[d]at q;exact q.elim
def xh{k n}(z:X.K=B.K)(y:X.calm=true)(h:PGs X es (alr m B gs))(x:(assignEach es X.env).length=n)(u:∀ws d f,gs ws d=.ok f->ws.length=n)(t:∀ws d c,gs ws d≠.ex c)(i:(assignEach es X.env).findIdx? (·.1)=none:=by rfl):PG X (.Tuple es k pos) (loG m B (WL.adH gs)):=PG.imp (ajw y h x i) λv A H Q l=>by refine aag l λd F w R r q=>?_;cases w with
|tup ws=>refine oC r λa s j qa p=>?_;subst j;have q:Rq B d F (gs _ d) _:=q;refine⟨a,s,rfl,by rw[z];exact R.rb.sub.tup qa,?_,d,F,ws,R,p,q⟩;cases o:gs _ d with|ok f=>rw[<-p.length];exact u _ _ _ o|ex c=>exact(t _ _ _ o).elim|bad=>rw[o]at q;exact q.elim
|_=>exact(q).elim
def yt:∀ws c a,WL.adI ws c=.ok a->ws.length=0:=λws c a h=>by cases ws<;>simp[WL.adI]at h;rfl
def ia{n}(h:∀ws d a,gs ws d=.ok a->ws.length=n):∀ws d a,WL.iE g gs ws d=.ok a->ws.length=n+1:=λws d a q=>by cases ws with|nil=>simp[WL.iE]at q|cons w ws=>have q:(match g w d with|.ok _=>(match gs _ _ with|.ok _=>Res.ok _|_=>.bad)|_=>.bad)=.ok _:=q;cases f:g w d with
 |ok σ1=>rw[f]at q;have q:(match gs ws _ with|.ok σ2=>Res.ok _|_=>.bad)=.ok _:=q;cases i:gs ws σ1 with|ok σ2=>simp[h _ _ _ i]|ex c|bad=>rw[i]at q;cases q
 |ex c=>rw[f]at q;cases q|bad=>rw[f]at q;cases q
def nO:∀ws a c,WL.iE g gs ws a≠.ex c:=λws a c q=>by cases ws with|nil=>simp[WL.iE]at q|cons w ws=>have q:(match g w a with|.ok _=>(match gs _ _ with|.ok _=>Res.ok _|_=>.bad)|_=>.bad)=.ex c:=q;cases d:g w a with|ok σ1=>rw[d]at q;have q:(match gs _ _ with|.ok σ2=>Res.ok _|_=>.bad)=.ex c:=q;cases f:gs _ _<;>rw[f]at q<;>cases q|ex c=>rw[d]at q;cases q|bad=>rw[d]at q;cases q
def akw(h:∀ws a c,gs ws a≠.ex c):∀w a c,WL.adH gs w a≠.ex c:=λw a c q=>by cases w<;>simp [WL.adH]at q<;>exact h _ _ _ q
abbrev Bx.calm(B:Bx):Bx:=⟨B.K,B.H0,B.F0,λ_ _ _=>False,λ_ _ _ _ _ h=>h⟩
def RS.ai1{c a F H}(R:RS B c a F H):RS B.calm c a F H:=⟨⟨R.rb.sub,R.rb.base,R.rb.fz0,R.rb.fr⟩,R.len,R.va,R.ow,R.ap,R.dd⟩
def RB.ajS{F H}(R:RB B.calm F H):RB B F H:=⟨R.sub,R.base,R.fz0,R.fr⟩
def RS.ahead{p:Ws}{f:L2.St}{F H:Hp}(R:RS B p f F H)(k:Nat):RS B (List.replicate k .no++p) (List.replicate k none++f) F H:=by
 have c:∀{i:Nat}{q:Sl},(List.replicate k Sl.no++p)[i]?=some q->q≠.no->k<=i/\p[i-k]?=some q:=λ{i q}e N=>by
  by_cases d:i<k;.rw[apt (by simpa using d)]at e;rw[ap9,apa d]at e;exact absurd (aps e).symm N
  .rw[apy (by simp;omega)]at e;simp only[aqg]at e;exact⟨by omega,e⟩
 have r:∀{i:Nat}{x:Option V},k<=i->f[i-k]?=some x->(List.replicate k none++f)[i]?=some x:=λ{i x}d e=>by rw[apy (by simp;omega)];simpa using e
 have s:∀{i:Nat}{x:Option V},k<=i->(List.replicate k none++f)[i]?=some x->f[i-k]?=some x:=λ{i x}d e=>by rw[apy (by simp;omega)]at e;simpa using e
 refine⟨R.rb,by simp[R.len],λi w e=>?_,λi ws e=>?_,λi j ws t a A n h u G=>?_,λi y I e=>?_,λi j y I K E a A n h u G=>?_,λi e=>?_⟩;rotate_left 3;.obtain⟨d,e⟩:=c e (by intro z;cases z);obtain⟨a,J,o,l⟩:=R.dd.od _ y I e;exact⟨a,J,r d o,l⟩
 .obtain⟨d,n⟩:=c n (by intro z;cases z);obtain⟨D,h⟩:=c h (by intro z;cases z);exact R.dd.ad _ _ y I K E a (by omega) n h (s d u) (s D G)
 .obtain⟨d,e⟩:=c e (by intro z;cases z);obtain⟨a,C,M,o,l⟩:=R.dd.ob _ e;exact⟨a,C,M,r d o,l⟩
 .obtain⟨d,e⟩:=c e (by intro z;cases z);obtain⟨v,o,l⟩:=R.va _ w e;exact⟨v,r d o,l⟩
 .obtain⟨d,e⟩:=c e (by intro z;cases z);obtain⟨a,O,o,l⟩:=R.ow _ ws e;exact⟨a,O,r d o,l⟩
 .obtain⟨d,n⟩:=c n (by intro z;cases z);obtain⟨D,h⟩:=c h (by intro z;cases z);exact R.ap _ _ ws t a (by omega) n h (s d u) (s D G)
def RS.forget{l c d F H}(R:RS B l d F H)(o:c.length=l.length)(h:∀(i:Nat)f,c[i]?=some f->f≠.no->l[i]?=some f):RS B c d F H:=⟨R.rb,by rw[o];exact R.len,λi w e=>R.va i w (h i _ e (by simp)),λi ws e=>R.ow i ws (h i _ e (by simp)),λi j ws k a n r p=>R.ap i j ws k a n (h i _ r (by simp)) (h j _ p (by simp)),R.dd.via rfl id (λ_ _ z=>.inl z) (λi f s e=>⟨h i _ e (by intro z;subst z;exact s),rfl⟩) (aw.refl _) λ_ _ _ a q _ _ q1 q2 q3=>⟨q2,q3,q1⟩⟩
def Keeps(k:Nat)(g:GF):Prop:=∀w c a,g w c=.ok a->a.length=c.length/\∀j:Nat,k<=j->a[j]?=c[j]?
def cI{k i}(h:i<k):Keeps k (WL.aN i):=λw c a e=>by cases e;exact⟨by simp,λj d=>by grind⟩
end
end WS
set_option autoImplicit true
set_option relaxedAutoImplicit true
namespace WS
open PySem PySem.Spec PyProof.Rows L2
open WL(Res Sl Ws EF TF AF LF GF GsF SF Out OX RF Rn AXF Dk XE XT)
section
variable{X:Cx}{B:Bx}{e tg iter:Expr}{pos:Pos}{ta tb:EF}{tt:TF}{it:LF}{g:GF}{b:SF}{k:Nat}
def afk   (hg:Keeps k g)(Z:RS B σ σV F1 H1)(wk:Walk B.K J xs F1)(hx:xs.length<=WL.lim)(hc:WL.dA g tt ta (List.replicate k .no++σ) xs=.ok all)(fin:∀o l h,RB B l h->Gr F1 H1 l h->RWs B.K l all o->∀D,h D=none->Q (.ref D) (upd h D (.lst o))):qm (aw H1) J (loG true B.calm g) (loT B.calm tt) (lo B.calm ta) (List.replicate k none++σV) H1 Q:=by
 refine⟨λi m o q h=>m=xs.length-i/\i<=xs.length/\o.length<=i/\∃l d rest,RS B.calm (List.replicate k .no++σ) q l h/\Gr F1 H1 l h/\RWs B.K l d o/\WL.dA g tt ta (List.replicate k .no++σ) (xs.drop i)=.ok rest/\d++rest=all,⟨xs.length,rfl,apC _,apC _,F1,[],all,(Z.ai1).ahead k,Gr.refl,by simp[RWs],by simpa using hc,rfl⟩,?_⟩;rintro i m o q h⟨rfl,hi,O,l,d,rest,M,t,S,a,f⟩;refine⟨t.h,aqZ (apb O (apb hi hx)) (by decide),?_⟩;by_cases r:i<xs.length;.have hd:=apI r;rw[hd]at a;obtain⟨go,yl⟩:=wk.go i xs[i] (apf r) l h t.f M.rb.sub;refine .inr ⟨go,λs A C=>s.length<=i+1/\∃x d rest,RS B.calm (List.replicate k .no++σ) A x C/\Gr F1 H1 x C/\RWs B.K x d s/\WL.dA g tt ta (List.replicate k .no++σ) (xs.drop (i+1))=.ok rest/\d++rest=all,λs A C⟨a1,a2⟩=>⟨xs.length-(i+1),by omega,rfl,r,a1,a2⟩,λv C hy=>?_⟩;obtain⟨x,T,r2⟩:=yl v C hy;simp only[WL.dA]at a;cases z:g xs[i] (List.replicate k .no++σ)with|bad=>rw[z]at a;cases a|ex c=>rw[z]at a;cases a|ok σ1=>
   rw[z]at a;obtain⟨kl,kk⟩:=hg _ _ _ z;refine⟨_,x,xs[i],T.rs _ _ _ M,r2,?_⟩;rw[z];intro p H3 F3 R3 P;have back:∀{w G:Hp},RS B.calm σ1 p w G->RS B.calm (List.replicate k .no++σ) p w G:=λ{w G}I=>I.forget kl.symm λj sl N ne=>by
    by_cases U:j<k;.rw[apt (by simpa using U),ap9,apa U]at N;exact absurd (aps N).symm ne
    .rw[kk j (by omega)];exact N
   have n:=T.gr.trans ⟨P.f,P.h rfl,P.nf⟩;have a:((tt σ1).bind λb=>match b with|true=>(ta σ1).bind λy=>(WL.dA g tt ta (List.replicate k .no++σ) (xs.drop (i+1))).bind λo=>.ok (y::o)|false=>WL.dA g tt ta (List.replicate k .no++σ) (xs.drop (i+1)))=.ok rest:=a;cases E:tt σ1 with|bad=>rw[E]at a;cases a|ex c=>rw[E]at a;cases a|ok b=>rw[E]at a;refine⟨σ1,F3,R3,?_⟩;rw[E];intro G w I K;cases b with|false=>rw[ao9 apo];exact⟨by omega,w,d,rest,back I,t.trans (n.trans K),S.keep (n.trans K).f,a,f⟩|true=>rw[apa rfl];have a:=a;cases H:ta σ1 with|bad=>rw[H]at a;cases a|ex c=>rw[H]at a;cases a|ok y=>rw[H]at a;refine⟨σ1,w,I,?_⟩;rw[H];intro u H5 F5 R5 Y r5;have a:=a;cases R:WL.dA g tt ta (List.replicate k .no++σ) (xs.drop (i+1))with|bad=>rw[R]at a;cases a|ex c=>rw[R]at a;cases a|ok zs=>rw[R]at a;cases a;exact⟨by rw[apR,arf];omega,F5,d++[y],zs,back R5,t.trans ((n.trans K).trans Y),(S.keep ((n.trans K).trans Y).f).app (.one r5),rfl,by rw[<-f];simp⟩
 .have ei:i=xs.length:=by omega
  subst ei;rw[aqr]at a;simp only[WL.dA]at a;cases a;rw[apE]at f;subst f;exact .inl ⟨wk.stop l h t.f M.rb.sub,λD hD=>fin o l h M.rb.ajS t S D hD⟩
def ab7(p:Keeps k g):∀d H Q,lo B (WL.gB k it g tt ta) d H Q->ag9 k (loI B it) (loG true B.calm g) (loT B.calm tt) (lo B.calm ta) d H Q:=by
 intro d H Q⟨o,F,R,q⟩;have q:=Rq.bind (Rq.bind q);refine⟨o,F,R,Rq.mono (aw.refl _) q λm a J t u j n wk=>?_⟩;by_cases h:m.length<=WL.lim;.rw[apa h]at a;cases e:WL.dA g tt ta _ m with|bad|ex c=>rw[e]at a;exact(a).elim|ok all=>rw[e]at a;refine qm.w (afk p j wk h e λs w v i l r D f=>?_);exact a (.ref D) _ _ ((j.grow l i).new f _) (n.trans (l.trans (Gr.new (i.sub.free f) f _))) (by exact iH D s rfl (SqL.of ah) (r.keep (au (i.sub.free f) _)))
 .rw[ao9 h]at a;exact(a).elim
variable{scope:Scope}{ts:List Str}{elt:Expr}{ifs:List Expr}
def mx:ady X [] (loT B WL.oH):=λc s f H Q I a=>by obtain⟨d,F,R,q⟩:=a;exact aem _ s f H Q I (q H F R Gr.refl)
def aiO (h:PT X c (loT B tt)):ady X [c] (loT B tt):=ael h
def aaF(L:CompLook X scope)(i:X.calm=true)(hk:ts.length=k)(j:Keeps k g)(f:PI X tg iter (loI B it))(l:∀C a c d,PG (X.comp scope C ts a c d) tg (loG true B.calm g))(h:∀C a c d,ady (X.comp scope C ts a c d) ifs (loT B.calm tt))(m:∀C a c d,PE (X.comp scope C ts a c d) elt (lo B.calm ta))(n:∀x,foldedSetIterable iter X.env x=pure x:=by intro _;rfl):PE X (.ListComp elt [⟨tg,iter,ifs,0⟩] scope pos) (lo B (WL.gB k it g tt ta)):=by subst hk;exact PE.imp (aeq L i f l h m n) (ab7 j)
def agP (A:X.K=B.K)(G:Gl X x)(E:X.mg x=none)(D:bootBuiltins x=some (.type "list"))(h:PE X e (lo B ta))(C:x≠"__name__":=by decide)(o:Dbg x:=by decide)(t:starEach [e] X.env=(false,eval e X.env)::starEach [] X.env:=by rfl)(s:BT X pos []:=by rfl):PE X (.Call (.Name x p) [e] [] pos) (loL B (WL.aka ta)):=PE.imp (jD uL G E D (ag h bB t) C o t s) λI H Q m=>by refine dv m λf F R q=>?_;have q:=Rq.bind q;refine dI f F R ?_;show Rq B f F ((ta f).bind λx=>.ok [x]) _;cases y:ta f with|bad|ex c=>rw[y]at q;exact q|ok w=>rw[y]at q;intro M J K d u r1;refine eM (cw r1) λv j z=>?_;subst j;cases w with|lst xs=>obtain⟨a,r,rfl,qa,n⟩:=z;exact⟨a,r,rfl,.inl (by rw[A];exact d.rb.sub.seq qa),λl i=>ajV d u n i q⟩|tup xs=>obtain⟨a,r,rfl,qa,n⟩:=z;exact⟨a,r,rfl,.inr (by rw[A];exact d.rb.sub.tup qa),λl i=>ajV d u n i q⟩|_=>exact(q).elim
def aiM (r:X.K=B.K)(z:PE X a (lo B ta))(w:PE X c (lo B tb)):PE X (.BinOp a .Add c pos) (loL B (WL.anV ta tb)):=PE.imp (ajz abP z w) λI H Q i=>by obtain⟨f,F,R,q⟩:=i;have q:=Rq.bind q;refine⟨f,F,R,Rq.mono (aw.refl _) q λx j v J A s m r1=>?_⟩;have j:=Rq.bind j;refine⟨f,A,s,Rq.mono m.f j λy d v2 M K R2 h r2=>?_⟩;cases x with
|lst xs=>cases y with|lst ys=>
   simp only[RW]at r1 r2;obtain⟨a,G,rfl,qa,o⟩:=r1;obtain⟨b,E,rfl,D,n⟩:=r2;have d:Rq B f F (if xs.length+ys.length<=WL.lim then .ok (xs++ys)else .bad) _:=d;by_cases l:xs.length+ys.length<=WL.lim;.rw[apa l]at d;have C:=o.length;have t:=n.length;exact⟨a,b,G,E,rfl,rfl,by rw[r];exact R2.rb.sub.seq (h.f.seq qa),by rw[r];exact R2.rb.sub.seq D,by rw[<-C,<-t];exact apb l cH,λp u=>ajV R2 (m.trans h) ((o.keep h.f).app n) u d⟩
   .rw[ao9 l]at d;exact d.elim|_=>exact(d).elim
|_=>exact(d).elim
variable{st:Stmt}{rest:List Stmt}{s1 s2:SF}{i:Nat}
def mu:PSs X [] (loS B WL.sNx):=PSs.imp abv λD c H a=>by obtain⟨d,F,R,q⟩:=a;exact q _ H F R (aw.refl _)
def aj3:∀D a H,loS B (WL.aB s1 s2) D a H->ai5 (loS B s1) (loS B s2) D a H:=λD a H d=>by refine dv d λf F R q=>?_;refine dI f F R ?_;have q:Oq B D F (match s1 f with|.nx _=>s2 _|o=>o):=q;cases e:s1 f with|nx σ'=>rw[e]at q;exact λh m j l s=>⟨_,j,l,Oq.mono s q⟩|bk σ'|ct σ'|rt w|ex c σ'|bad=>rw[e]at q;exact q
def af(c:PS X st (loS B s1))(a:PSs X rest (loS B s2)):PSs X (st::rest) (loS B (WL.aB s1 s2)):=PSs.imp (bg c a) aj3
def ax(a:PS X st (loS B s1)):PSs X [st] (loS B s1):=dF a
def qr(c:PE X e (lo B ta))(l:swapsWith e none pos.line X.env=pure false:=by rfl):PS X (.Expr e pos) (loS B (WL.zd ta)):=PS.imp (dG c l) λD j H a=>by obtain⟨f,F,R,q⟩:=a;have q:=Oq.ofR q;exact⟨f,F,R,Rq.mono (aw.refl _) q λw d v m n h g r=>d _ _ _ h g.f⟩
def jw(c:PE X e (lo B ta)):PS X (.Return (some e) pos) (loS B (WL.aY ta)):=PS.imp (tm c) λD j H a=>by obtain⟨f,F,R,q⟩:=a;have q:=Oq.ofR q;exact⟨f,F,R,Rq.mono (aw.refl _) q λw d v l m h g r=>d v _ _ h.rb g.f r⟩
def u7 (n:PT X c (loT B tt))(j:PSs X a (loS B s1))(r:PSs X d (loS B s2)):PS X (.If c a d pos) (loS B (WL.sIf tt s1 s2)):=PS.imp (ahl n j r) λD p H f=>by refine dv f λh F R q=>?_;have q:=Oq.ofR q;refine dI h F R (Rq.mono (aw.refl _) q λx l s m o g=>?_);cases x with|true|false=>exact⟨h,m,o,Oq.mono g.f l⟩
def agi (f:∀a H Q,lo B ta a H Q->tV a H Q):∀D a H,loS B (WL.bh i ta) D a H->ahb tV (L2.aN i) D a H:=λD a H c=>by obtain⟨h,F,R,q⟩:=c;have q:=Oq.ofR q;exact f _ _ _ ⟨h,F,R,Rq.mono (aw.refl _) q λw d v l m j g r=>d _ _ _ (j.set r) g.f⟩
def ahG (f:∀c H Q,loL B l c H Q->tV c H Q):∀D c H,loS B (WL.sX i l) D c H->ahb tV (L2.aN i) D c H:=λD c H d=>by refine dv d λo F R q=>?_;have q:=Oq.ofR q;exact f _ _ _ (dI o F R (Rq.mono (aw.refl _) q λws m a x u w p g h t n r s=>m _ _ _ (p.aoD h t n r λj v _ e=>s j _ e) g.f))
def aiJ (c:X.N.Nodup)(d:X.N[i]?=some x)(h:Loc X.env.scope x)(a:PE X e (lo B ta))(j:swapsWith e (some (.Name x pos')) pos.line X.env=pure false:=by rfl)(f:FL X x:=by first|exact .inl rfl|exact .inr rfl|assumption):PS X (.Assign [.Name x pos'] e pos) (loS B (WL.bh i ta)):=PS.imp (kT c d h a j f) (agi λ_ _ _ q=>q)
def jZ  (c:X.N.Nodup)(d:X.N[i]?=some x)(h:Loc X.env.scope x)(a:PE X e (loL B l))(j:swapsWith e (some (.Name x pos')) pos.line X.env=pure false:=by rfl)(f:FL X x:=by first|exact .inl rfl|exact .inr rfl|assumption):PS X (.Assign [.Name x pos'] e pos) (loS B (WL.sX i l)):=PS.imp (kT c d h a j f) (ahG λ_ _ _ q=>q)
def aax (n:X.N.Nodup)(h:X.N[i]?=some y)(m:X.env.scope.names.lookup y=some .local)(f:swapsWith (.ListComp elt [⟨tg,iter,ifs,0⟩] scope pos) (some (.Name y py)) spos.line X.env=pure true)(L:CompLook X scope)(q:X.calm=true)(hk:ts.length=k)(r:Keeps k g)(o:PI X tg iter (loI B it))(j:∀C a c d,PG (X.comp scope C ts a c d) tg (loG true B.calm g))(p:∀C a c d,ady (X.comp scope C ts a c d) ifs (loT B.calm tt))(l:∀C a c d,PE (X.comp scope C ts a c d) elt (lo B.calm ta))(s:∀x,foldedSetIterable iter X.env x=pure x:=by intro _;rfl):PS X (.Assign [.Name y py] (.ListComp elt [⟨tg,iter,ifs,0⟩] scope pos) spos) (loS B (WL.bh i (WL.gB k it g tt ta))):=by subst hk;exact PS.imp (tj n h m f L q o j p l s) (agi (ab7 r))
def aiL(j:PE X e (lo B ta))(t:PG X tg (loG false B g))(A:∀w a c,g w a≠.ex c)(y:swapsWithSole [tg] e pos.line X.env=pure false:=by rfl)(hw:swappedStores [tg] e X.env=pure none:=by rfl)(m:(assignEach [tg] X.env).map (·.2)=[assign tg X.env]:=by rfl):PS X (.Assign [tg] e pos) (loS B (WL.amh ta g)):=PS.imp (ajs j t y hw m) λD x H d=>by refine dv d λa F R q=>?_;have q:=Oq.ofR q;exact dI a F R (Rq.mono (aw.refl _) q λw l v C s u f r=>agA a s w u r (Rq.mono f.f (Oq.ofR l) λp n h E z R2 o=>n _ _ _ R2 (f.f.trans o.f)))
def xc(C:X.K=B.K)(h:PS X st (sP (tBM X.K "list" mV (cM i) (jy (lo B ta) xu)))):PS X st (loS B (WL.ajk i ta)):=PS.imp h λD o H n=>by refine dv n λc F R q=>?_;have q:Oq B D F (match c[i]? with|some (.ow ws)=>WL.ofR c (ta c) _|_=>.bad):=q;cases j:c[i]? with|none=>rw[j]at q;exact q.elim|some sl=>rw[j]at q;cases sl with|no|va _|od _ _|ob=>exact q.elim|ow ws=>
   refine oA (R.ow i ws j) λa t r z y l s=>?_;have q:=Oq.ofR q;refine⟨.ref a,r,.inl ⟨rfl,t,SqL.of l⟩,c,F,R,Rq.mono (aw.refl _) q λw f v A u x d r1=>?_⟩;by_cases m:ws.length<WL.lim;.rw[apa m]at f;have p:=d.h a _ l;exact ala a t v rfl rfl p (by rw[<-s.length];exact apd m cH) (f o _ u (x.write j r (d.nf a _ l z) y p ((s.keep d.f).app (.one r1))) d.f)
   .rw[ao9 m]at f;exact(f).elim
def wZ(h:PS X st (loS B s1)):PS X st (loS B (WL.aji i s1)):=PS.imp h λD f H a=>by refine dv a λj F R q=>?_;refine jV (R.frz i) λc s d _=>?_;exact⟨_,c,d,Oq.mono s q⟩
def aj5:∀D o H,loS B (WL.sY it g b) D o H->anx (loI B it) (loG false B g) (loS B b) D o H:=λD o H A=>by
 refine dv A λG F R q=>?_;have q:=Oq.ofR q;refine dI G F R (Rq.mono (aw.refl _) q λf qx J H1 K Q P wk=>?_);refine⟨λi m d r=>m=f.length-i/\i<=f.length/\∃h l,RS B h d l r/\aw K l/\Oq B D l (WL.forL g b (f.drop i) h),⟨f.length,rfl,apC _,G,K,Q,aw.refl _,by rw[aqH];exact Oq.mono P.f qx⟩,?_⟩;rintro i m d r⟨rfl,T,h,l,z,E,p⟩;by_cases n:i<f.length;.have Z:=apI n;rw[Z]at p;obtain⟨go,yl⟩:=wk.go i f[i] (apf n) l r E z.rb.sub;refine .inr ⟨go,_,λa N Y=>⟨f.length-(i+1),by omega,rfl,n,Y⟩,λv N U=>?_⟩;refine eM (yl v N U) λO C r2=>?_;have p:=Oq.ofR p;refine agA h O f[i] (C.rs _ _ _ z) r2 (Rq.mono C.same p λx q1 M H3 I R3 g3=>?_);refine dI x I R3 ?_;have s3:=C.same.trans g3.f;cases t:b x with|nx a|ct a=>rw[t]at q1;exact λj y s u s4=>⟨a,s,u,(E.trans s3).trans s4,Oq.mono (s3.trans s4) q1⟩|bk a=>rw[t]at q1;exact λj y s u s4=>q1 j y s u (s3.trans s4)|rt w=>rw[t]at q1;exact λv4 y s u s4=>q1 v4 y s u (s3.trans s4)|ex c a=>rw[t]at q1;exact B.mono c a l I s3 q1|bad=>rw[t]at q1;exact q1
 .have S:i=f.length:=by omega
  subst S;rw[aqr]at p;exact .inl ⟨wk.stop l r E z.rb.sub,p d r l z (aw.refl _)⟩
def gM (f:PassesOwn (model X.prog X.w) X.A X.env X.xe)(c:X.calm=true)(a:PI X tg iter (loI B it))(d:PG X tg (loG false B g))(h:PSs X body (loS B b))(j:∀x,foldedSetIterable iter X.env x=pure x:=by intro _;rfl):PS X (.For tg iter body [] pos) (loS B (WL.sY it g b)):=PS.imp (xN f c a d h j) aj5
def wW  (G:PassesOwn (model X.prog X.w) X.A X.env X.xe)(J:PT X c (loT B tt))(N:PSs X body (loS B b)):PS X (.While c body [] pos) (loS B (WL.abh n tt b)):=PS.imp (aej G J N) λD M H v=>by refine dv v λA F R q=>?_;refine⟨λm f C=>∃a p,RS B a f p C/\Oq B D p (WL.xg tt b m a),⟨n A,A,F,R,q⟩,?_⟩;rintro m f C⟨a,p,K,t⟩;cases m with|zero=>exact(t).elim|succ m=>have t:=Oq.ofR t;refine dI a p K (Rq.mono (aw.refl _) t λx d E u y j=>?_);cases x with|false=>rw[ao9 apo];exact d f E u y j.f|true=>refine⟨_,λz O I=>⟨m,aqJ m,I⟩,a,u,y,?_⟩;cases r:b a with|nx σ2|ct σ2=>rw[r]at d;exact λh s l o s4=>⟨σ2,l,o,Oq.mono (j.f.trans s4) d⟩|bk σ2=>rw[r]at d;exact λh s l o s4=>d h s l o (j.f.trans s4)|rt w=>rw[r]at d;exact λv4 s l o s4=>d v4 s l o (j.f.trans s4)|ex c σ2=>rw[r]at d;exact B.mono c σ2 p u j.f d|bad=>rw[r]at d;exact d
end
def spW(K:W.Frag)(n:Nat)(f:List VW->Res VW):Sp:=λd H Q _=>∃F ws,aw F H/\RWs K F ws d/\ws.length=n/\match f ws with|.ok w=>∀v c b,aw F b->aw b c->aw H c->(∀a o,b a=some o->F a=some o\/H a=none/\NF o)->RW K b w v->Q v c|_=>False
section
variable{K:W.Frag}
theorem RS.start{N F H ws vs}(s:aw F H)(r:RWs K F ws vs)(y:ws.length<=N.length):RS ⟨K,H,F,λ_ _ _=>False,λ_ _ _ _ _ h=>h⟩ (ws.map .va++List.replicate (N.length-ws.length) .no) (L2.start N vs) F H:=by
 have n:=r.length;have b:∀{i:Nat}{c:Sl},(ws.map Sl.va++List.replicate (N.length-ws.length) Sl.no)[i]?=some c->c≠.no->∃u,ws[i]?=some u/\c=.va u:=λ{i c}e A=>by grind
 refine⟨⟨s,aw.refl _,aw.refl _,λa o h=>.inl h⟩,by simp[L2.start,n],λi u e=>?_,λi g e=>?_,λi j g d a f k m _ _=>?_,λi l g e=>?_,λi j l g t d a f k m _ _=>?_,λi e=>?_⟩;rotate_left 3;.refine eM (b e (by intro z;cases z)) λx ex h=>?_;cases h
 .obtain⟨x,ex,h⟩:=b k (by intro z;cases z);cases h
 .obtain⟨x,ex,h⟩:=b e (by intro z;cases z);cases h
 .refine eM (b e (by intro z;cases z)) λx ex h=>?_;cases h;obtain⟨v,ev,q⟩:=r.get ex;refine⟨v,?_,q⟩;have p:i<vs.length:=(ao8.mp ev).1;unfold L2.start;rw[apt (by simpa using p),apz,ev];rfl
 .obtain⟨x,ex,h⟩:=b e (by intro z;cases z);cases h
 .obtain⟨x,ex,h⟩:=b k (by intro z;cases z);cases h
end
section
variable{X:Cx}{B:Bx}{k:Nat}{f:Addr}{fd:FuncData}{ps:List Str}{fn:List VW->Res VW}{x:Str}{p pos:Pos}{e:Expr}{es:List Expr}{tas:AF}{n:Nat}
def ab8(D:X.K=B.K){E}(y:∀g ws,tas g=.ok ws->ws.length=n):∀b H Q,lo B (WL.aH fn tas) b H Q->aha (spW X.K n fn) [] E (loA B tas) b H Q:=by intro b H Q⟨g,F,R,q⟩;have q:=Rq.bind q;refine dI g F R ?_;cases ea:tas g with|bad|ex c=>rw[ea]at q;exact q|ok ws=>rw[ea]at q;intro I G s d u r1;rw[apE,D];refine afA s ws d.rb.sub r1 (y g ws ea) ?_;have i:Rq B g F (match fn ws with|.ok w=>.ok w|_=>.bad) _:=q;cases t:fn ws with
|bad|ex c=>rw[t]at i;exact i.elim
|ok w=>rw[t]at i;intro v m h s1 s2 s3 fr r2;have r:Gr s _ h m:=⟨s1,s3,λa o C l=>by cases j:h a with|none=>rfl|some o2=>
  rcases fr a o2 j with z|z;.rw[l]at z;cases z
  .rw[C]at z;cases z.1⟩;have A:RB B h m:=⟨s2,d.rb.base.trans s3,d.rb.fz0.trans s1,λa o j=>by
  rcases fr a o j with z|z;.exact d.rb.fr a o z
  .exact .inr ⟨d.rb.base.free z.1,z.2⟩⟩;exact i v m h (d.grow r A) (u.trans r) r2
def agX(i:X.K=B.K)(F:FnOk X.prog X.w X.K X.mg X.base CX0 k f fd ps (spW X.K n fn))(l:Room k X.A)(h:Gl X x)(g:X.mg x=some (.ref f))(hk:W.keepIn X.K (.ref f)=true)(o:Binds X.K fd ps [])(c:PA X (e::es) (loA B tas))(m:∀j ws,tas j=.ok ws->ws.length=n)(a:Dbg x:=by decide)(d:SE X e es:=by rfl)(b:BT X pos es:=by rfl):PE X (.Call (.Name x p) (e::es) [] pos) (lo B (WL.aH fn tas)):=PE.imp (aht F l h g hk o .nil ajF c a d b) (ab8 i m)
def adZ(g:X.K=B.K)(F:FnOk X.prog X.w X.K X.mg X.base CX0 k f fd ps (spW X.K 0 fn))(j:Room k X.A)(d:Gl X x)(b:X.mg x=some (.ref f))(hk:W.keepIn X.K (.ref f)=true)(l:Binds X.K fd ps [])(a:Dbg x:=by decide):PE X (.Call (.Name x p) [] [] pos) (lo B (WL.aH fn WL.aq)):=PE.imp (aet F j d b hk l .nil ajF a) λi H Q q=>by have h:=ab8 (E:=E0) g λc ws e=>by cases e;rfl _ H Q q;refine dv h λc F R h=>?_;exact h _ H F R Gr.refl (rfl)
def oq:∀a(ws:List VW),WL.aq a=.ok ws->ws.length=0:=λa ws e=>by cases e;rfl
def ir (h:∀a(ws:List VW),tas a=.ok ws->ws.length=n):∀a(ws:List VW),WL.aa t tas a=.ok ws->ws.length=n+1:=λa ws q=>by have q:(t a).bind _=.ok _:=q;cases d:t a with|bad|ex c=>rw[d]at q;cases q|ok x=>rw[d]at q;cases b:tas a with|bad|ex c=>rw[b]at q;cases q|ok xs=>rw[b]at q;cases q;simp[h a _ b]
end
def aa6(K:W.Frag):Sp:=λd H Q _=>∃(a:Addr)(b:List Int),d=[.ref a]/\SqL K H a (b.map V.int)/\b.length<=63/\∀c,Q (.bl true) c
def aj8{P w K i b k f j ps g}(G:FnOk P w K i b CX0 k f j ps (spW K 1 g))(h:∀d:List Int,d.length<=63->g [.lst (d.map .int)]=.ok (.bl true)):FnOk P w K i b CX0 k f j ps (aa6 K):=G.imp λp H Q E c=>by refine oE c λa d e m l q=>?_;subst e;refine⟨H,[.lst _],aw.refl _,.one (by exact⟨a,_,rfl,m,RWs.ints _⟩),rfl,?_⟩;rw[h _ l];intro v n o _ _ _ _ r;subst r;exact q _
section
variable{X:Cx}{K:W.Frag}
def rX:∀a c,WL.afr a≠.ex c:=λa c h=>by
 unfold WL.afr at h;split at h;.split at h<;>cases h
 .cases h
theorem adv{F}:∀{xs vs b},RWs K F xs vs->WL.allB xs=some b->∃bs:List Bool,vs=bs.map V.bl/\bs.all id=b|[],vs,b,r,e=>by subst r;cases e;exact⟨[],rfl,rfl⟩|x::xs,vs,b,r,e=>by obtain⟨v,t,rfl,q,s⟩:=r;cases x with
 |bl k=>simp only[WL.allB]at e;cases a:WL.allB xs with|none=>rw[a]at e;cases e|some c=>rw[a]at e;cases e;obtain⟨bs,rfl,h⟩:=adv s a;subst q;exact⟨k::bs,rfl,by simp only[arb,id,h]⟩
 |_=>simp[WL.allB]at e
set_option tactic.hygienic true in
def w_all(j:X.calm=true)(k:X.K=K):bP X (.builtin "all") (loN K WL.afr):=by subst k;refine bP.imp (adk j) λn H Q f=>?_;refine oC f λF ws s r q=>?_;cases e:WL.afr _ with|bad|ex c=>rw[e]at q;exact q.elim|ok w=>
  rw[e]at q;unfold WL.afr at e;split at e
  .split at e;.rename_i b l;cases e;obtain⟨v,rfl,h⟩:=cw r;refine oC h λa m d qa i=>?_;subst d;obtain⟨bs,rfl,g⟩:=adv i l;subst g;exact⟨a,bs,rfl,s.seq qa,eq1 q (rfl)⟩
   .cases e
  .cases e
end
section
variable{X:Cx}{B:Bx}{K:W.Frag}{o e:Expr}{to:EF}{tas:AF}{pos apos cpos:Pos}
theorem uk:∀{ys:List VW}{x:VW}{j k:Nat}{n m:Nat},WL.okD n x=true->WL.nk m ys=true->WL.idx x j ys=some k->∃i,k=j+i/\adz (λz=>PyData.eqv z (toD x)) (dB ys) i|[],_,_,_,_,_,_,_,e=>by simp[WL.idx]at e|y::ys,x,j,k,n,m,hx,a,e=>by cases m with|zero=>cases a|succ m=>
   have a:=apD.mp a;simp only[WL.idx]at e;have f:=kj m n y x a.1 hx;by_cases h:WL.eqv y x=true;.rw[apa h]at e;cases e;refine⟨0,rfl,⟨toD y,rfl,by show PyData.eqv (toD y) (toD x)=true;rw[f];exact h⟩,λm d g=>absurd g (Nat.not_lt_zero _)⟩
   .rw[ao9 h]at e;obtain⟨i,rfl,⟨d,l,q⟩,p⟩:=uk hx a.2 e;refine⟨i+1,by omega,⟨d,by simpa[dB]using l,q⟩,λb r g c=>?_⟩;cases b with|zero=>simp[dB]at c;subst c;show PyData.eqv (toD y) (toD x)=false;rw[f];simpa using h|succ b=>exact p b r (by omega) (by simpa[dB]using c)
set_option tactic.hygienic true in
def adU{x:Expr}(t:X.K=B.K)(hu:X.A.units+64<cLine)(M:PE X o (lo B to))(N:PA X [x] (loA B tas))(g:attributeBase o "index" X.env (eval o X.env)=eval o X.env:=by rfl)(j:((backTo cpos (starEach [x] X.env)).all (λx=>!x.1)&&(backToKw cpos (keywordEach [] X.env)).all (λx=>x.1.isSome)&&decide (([x]:List Expr).length+([]:List Keyword).length+(if([]:List Keyword).isEmpty then 0 else 1)<30))=true:=by rfl)(f:(apos.endLine==cpos.line)=true:=by rfl)(J:starEach [x] X.env=(false,eval x X.env)::starEach [] X.env:=by rfl)(d:BT X cpos []:=by rfl):PE X (.Call (.Attribute o "index" apos) [x] [] cpos) (lo B (WL.me "list" WL.pS to tas)):=PE.imp (lI apG PySem.F.slot_list_index PySem.F.type_list_index ab1 M N g j f J d) λa0 H Q s=>by obtain⟨m,F,R,q⟩:=s;have q:=Rq.bind q;refine⟨m,F,R,Rq.mono (aw.refl _) q λw n v H1 O A y r1=>?_⟩;cases w with
 |lst ys=>have n:=Rq.bind (show Rq B m F ((tas m).bind λws=>WL.pS (.lst ys) ws) _ from n);have r:=r1;simp only[RW]at r1;obtain⟨a,I,rfl,qa,ra⟩:=r1;refine⟨.inl ⟨rfl,I,by rw[t];exact A.rb.sub.seq qa⟩,m,O,A,Rq.mono y.f n λws p us Y G R2 D r2=>?_⟩;cases em:WL.pS (.lst ys) ws with
  |bad=>rw[em]at p;exact p.elim|ex c=>
    unfold WL.pS at em;split at em
    .split at em;.split at em<;>cases em
     .cases em
    .cases em|ok z=>
    rw[em]at p;unfold WL.pS at em;split at em
    .rename_i e1 e2 P E U;cases U;split at em
     .rename_i b;rw[apk,apk]at b;obtain⟨b,l⟩:=b;split at em
      .rename_i k hk;cases em;obtain⟨u,rfl,T⟩:=cw r2;obtain⟨i,C,S⟩:=uk b.1 b.2 hk;have C:k=i:=by omega
       subst C;have sub:=R2.rb.sub;have Z:=RW.isD 51 (.lst ys) (.ref a) b.2 ((r.keep D.f).keep sub);have h:(dB ys).length<=1000000:=by rw[l5,apv];exact aql l
       refine⟨50,u,toD E,dB ys,k,rfl,by rw[t];exact RW.isD 50 E u b.1 (T.keep sub),by rw[t];exact Z,by omega,S,h,?_⟩;exact p (.int k) Y G R2 (y.trans D) (by simp[RW])
      .cases em
     .cases em
    .cases em
 |_=>exact(show False from n).elim
noncomputable def afu:List (EF×EF)->AF|[]=>WL.aq|p::ps=>WL.aa p.1 (WL.aa p.2 (afu ps))
def PD(X:Cx)(B:Bx)(pos:Pos)(keys:List (Option Expr))(b:List Expr)(a:AF):Prop:=∃c:List (EF×EF),PPs X pos keys b (c.map λp=>(lo B p.1,lo B p.2))/\a=afu c
def afH:PD X B pos [] [] WL.aq:=⟨[],ahm,rfl⟩
def aaI{k v:Expr}{ks:List (Option Expr)}{vs:List Expr}{tk tv:EF}{a:AF}(hk:PE X k (lo B tk))(b:PE X v (lo B tv))(d:PD X B pos ks vs a):PD X B pos (some k::ks) (v::vs) (WL.aa tk (WL.aa tv a)):=by obtain⟨c,h,rfl⟩:=d;exact⟨(tk,tv)::c,aek hk b h,rfl⟩
theorem xV{b:Ws}{c:L2.St}:∀(ps:List (EF×EF)){F H:Hp}(R:RS B b c F H){k:List VW->Prop}(q:Rq B b F (afu ps b) k){Q:List (V×V)->Hp->Prop}(g:∀ws a d f,k ws->RS B b c d f->Gr F H d f->RWs B.K d ws (a.flatMap λp=>[p.1,p.2])->Q a f),xt (ps.map λp=>(lo B p.1,lo B p.2)) c H Q|[],F,H,R,k,q,Q,g=>g [] [] F H q R Gr.refl (by simp[RWs])|p::ps,F,H,R,k,q,Q,g=>by have q:=Rq.bind (show Rq B b F ((p.1 b).bind λx=>(WL.aa p.2 (afu ps) b).bind λs=>.ok (x::s)) k from q);refine⟨b,F,R,Rq.mono (aw.refl _) q λx m v1 C v r h r1=>?_⟩;have m:=Rq.bind (Rq.bind m);refine⟨b,v,r,Rq.mono h.f m λy l v2 f d R2 i r2=>?_⟩;have l:=Rq.bind l;refine xV ps R2 (Rq.mono (h.f.trans i.f) l λ_ z=>z) λws a n t A u j w=>?_;refine g (x::y::ws) ((v1,v2)::a) n t A u ((h.trans i).trans j) ?_;show RWs B.K n (x::y::ws) (v1::v2::a.flatMap λp=>[p.1,p.2]);exact .cons ((r1.keep i.f).keep j.f) (.cons (r2.keep j.f) w)
theorem sS{F:Hp}:∀{ws ks vs:List VW}{a:List (V×V)},WL.gZ ws=some (ks,vs)->RWs K F ws (a.flatMap λp=>[p.1,p.2])->∃b:List (Key×V),a=b.map (λd=>(kV d.1,d.2))/\RWs K F ks (b.map λp=>kV p.1)/\RWs K F vs (b.map λp=>p.2)
|[],ks,vs,a,e,r=>by simp only[WL.gZ]at e;cases e;cases a with|nil=>exact⟨[],rfl,by simp[RWs],by simp[RWs]⟩|cons p a=>simp[RWs]at r
|[w],ks,vs,a,e,r=>by cases w<;>simp[WL.gZ]at e|w::u::ws,ks,vs,a,e,r=>by cases w with
 |str k=>simp only[WL.gZ]at e;cases c:WL.gZ ws with|none=>rw[c]at e;cases e|some p=>rw[c]at e;cases e;cases a with|nil=>simp[RWs]at r|cons pv a=>obtain⟨v1,v2⟩:=pv;have r:RWs K F (.str k::u::ws) (v1::v2::a.flatMap λp=>[p.1,p.2]):=r;simp only[RWs]at r;obtain⟨a1,i,f,q1,a2,h,g,q2,r⟩:=r;cases f;cases g;obtain⟨b,rfl,s1,s2⟩:=sS c r;simp only[RW]at q1;subst q1;exact⟨(Sum.inr k,v2)::b,rfl,.cons (by simp[RW,kV]) s1,.cons q2 s2⟩
 |_=>simp[WL.gZ]at e
theorem nB:∀(kvs a:List (Key×V)),(∀p∈kvs,qB a p.1=none)->kvs.Pairwise (λp q=>p.1≠q.1)->jK a kvs=a++kvs
|[],a,_,_=>by simp[jK]|p::kvs,a,h,hp=>by
 rw[aqy]at hp;show jK (putK a p.1 p.2) kvs=_;rw[aeg _ (h p (by simp)),nB kvs _ (λq b=>?_) hp.2];.simp
 .rw[sE _ _ _ _ (h p (by simp)),ao9 (aph (hp.1 q b))];exact h q (by simp[b])
theorem yH{F:Hp}:∀{ks:List VW}{kvs:List (Key×V)},WL.bS ks=true->RWs K F ks (kvs.map λp=>kV p.1)->kvs.Pairwise λp q=>p.1≠q.1
|[],kvs,_,r=>by cases kvs with|nil=>exact .nil|cons p kvs=>simp[RWs]at r
|w::ks,kvs,h,r=>by cases kvs with|nil=>simp[RWs]at r|cons p kvs=>simp only[apA,RWs]at r;obtain⟨v,t,e,q,r⟩:=r;cases e;cases w with
 |str k=>
  simp only[WL.bS,apk]at h;refine aqy.mpr ⟨λf d=>?_,yH h.2 r⟩;simp only[RW]at q;intro z;rw[z]at q;have g:∃w∈ks,RW K F w (kV f.1):=by have:kV f.1∈kvs.map λp=>kV p.1:=ash.mpr ⟨f,d,rfl⟩;obtain⟨i,n,m⟩:=List.getElem_of_mem this;obtain⟨w,c,l⟩:=RWs.get' r (apf n);rw[m]at l;exact⟨w,aqn c,l⟩
  obtain⟨w,hw,a⟩:=g;rw[q]at a;have c:=h.1;simp only[Bool.not_eq_true',List.any_eq_false]at c;have:=c w hw;cases w with|str y=>simp only[RW]at a;cases a;simp at this|non=>simp[RW]at a|bl b=>simp[RW]at a|int i=>simp[RW]at a|ty i=>simp[RW]at a|tup i=>simp[RW]at a|lst i=>simp[RW]at a|dic i j=>simp[RW]at a|cls i=>simp[RW]at a|exc i j=>simp[RW]at a|ins i j=>simp[RW]at a|id i=>simp[RW]at a
 |_=>simp[WL.bS]at h
def RS.put{k:Ws}{d:L2.St}{F H:Hp}(R:RS B k d F H){p:Addr}{o o':HO}(g:F p=none)(r:B.H0 p=none)(x:H p=some o)(C:∀y,o≠.lst y)(nd:∀(j:Nat)(h q:List VW),k[j]?=some (.od h q)->d[j]?≠some (some (.ref p)))(D:NF o':=by trivial):RS B k d (upd F p o') (upd H p o'):=by
 refine⟨⟨λb u e=>?_,λb u e=>?_,R.rb.fz0.trans (au g _),λa u e=>?_⟩,R.len,λi w e=>?_,λi ws e=>?_,R.ap,R.dd.via rfl id (λ_ _ z=>.inl z) (λ_ _ _ e=>⟨e,rfl⟩) (au g _) λj h q b I t A q1 q2 q3=>by
 have f:b≠p:=λz=>by subst z;exact nd j h q t A
 exact⟨by rw[ae f];exact q2,q3,by rw[ae f];exact q1⟩⟩
 .by_cases c:b=p;.subst c;rw[ah]at e⊢;exact e
  .rw[ae c]at e⊢;exact R.rb.sub b u e
 .have c:b≠p:=λz=>by subst z;rw[r]at e;cases e
  rw[ae c];exact R.rb.base b u e
 .by_cases c:a=p;.subst c;rw[ah]at e;cases e;exact .inr ⟨r,D⟩
  .rw[ae c]at e;exact R.rb.fr a u e
 .obtain⟨v,n,l⟩:=R.va i w e;exact⟨v,n,l.keep (au g _)⟩
 .obtain⟨a,s,n,l,E,m,G⟩:=R.ow i ws e;have f:a≠p:=λz=>by subst z;rw[x]at m;cases m;exact C s rfl
  exact⟨a,s,n,by rw[ae f];exact l,E,by rw[ae f];exact m,G.keep (au g _)⟩
def afG{keys:List (Option Expr)}{c:List Expr}{a:AF}(h:PD X B pos keys c a)(m:keys.all (·.isSome)=true:=by rfl)(O:keys.length=c.length:=by rfl)(Z:keys≠[]:=by intro z;cases z)(w:keys.length<=15:=by decide):PE X (.Dict keys c pos) (lo B (WL.alB a)):=by obtain⟨ps,T,rfl⟩:=h;refine PE.imp (ahs T m O Z w) λa0 H Q y=>?_;obtain⟨C,F,R,q⟩:=y;intro p k;have q:=Rq.bind q;have J:=R.rb.sub.free k;have x:=R.rb.base.free k;refine xV ps (R.aiq k (.dK [])) q λws P I U f R2 n r2=>?_;have i:I p=none:=n.nf p _ ah J;have s:U p=some (.dK []):=n.h p _ ah;cases e:WL.gZ ws with|none=>rw[e]at f;exact(show False from f).elim|some kv=>
  obtain⟨g,G⟩:=kv;rw[e]at f;obtain⟨d,rfl,s1,s2⟩:=sS e r2;by_cases t:(WL.bS g&&decide (g.length<=15))=true
  .have f:Rq B C F (if(WL.bS g&&decide (g.length<=15))=true then Res.ok (WL.W.dic g G)else Res.bad) _:=f;rw[apa t]at f;rw[apk]at t;have Y:jK [] d=d:=by rw[nB d [] (λ_ _=>rfl) (yH t.1 s1)];rfl
   refine⟨s,d,rfl,?_,?_⟩;.have:=s1.length;rw[apv]at this;have:=aql t.2;omega
   .rw[Y];have M:H p=none:=k;refine(show∀v H' F',_ from f) (.ref p) _ _ (R2.put i x s (λxs z=>by cases z) λj g us N S=>by obtain⟨b,D,A,_,_,E,_⟩:=R.dd.od j g us N;rw[S]at A;cases A;rw[k]at E;cases E) ⟨n.f.trans (au i _),λb u l=>?_,λb u l z=>?_⟩ ?_
    .have r:b≠p:=λz=>by subst z;rw[k]at l;cases l
     rw[ae r];exact n.h b u (by rw[ae r];exact l)
    .have r:b≠p:=λz=>by subst z;rw[k]at l;cases l
     rw[ae r];exact n.nf b u (by rw[ae r];exact l) z
    .simp only[RW];exact⟨p,d,rfl,.inl ah,s1.keep (au i _),s2.keep (au i _)⟩
  .have f:Rq B C F (if(WL.bS g&&decide (g.length<=15))=true then Res.ok (WL.W.dic g G)else Res.bad) _:=f;rw[ao9 t]at f;exact(show False from f).elim
def agm{F}:∀k u,WL.rT k [] []=some u->∃v,List.lookup k []=some v/\RW K F u v:=λk u h=>by simp[WL.rT]at h
def ib{F x a v0}{ks vs:List VW}{kvs}(d:RW K F a v0)(h:∀k u,WL.rT k ks vs=some u->∃v,kvs.lookup k=some v/\RW K F u v):∀k u,WL.rT k (.str x::ks) (a::vs)=some u->∃v,List.lookup k ((x,v0)::kvs)=some v/\RW K F u v:=λk u e=>by
 simp only[WL.rT]at e;by_cases c:x=k;.subst c;simp at e;subst e;exact⟨v0,by simp,d⟩
 .obtain⟨v,f,b⟩:=h k u (by grind);exact⟨v,by grind,b⟩
def aiR{a i f a0 kvs}{ks vs:List VW}(z:X.K=B.K)(j:PE X a (tC (.ref a0)))(D:adA X.w X.K a0 kvs)(r:PE X i (lo B f))(p:∀F k w,WL.rT k ks vs=some w->∃v,kvs.lookup k=some v/\RW B.K F w v)(x:ju i):PE X (.Subscript a i pos) (lo B (WL.eOp WL.oIx (WL.eC (.dic ks vs)) f)):=PE.imp (ajC (aeP D) j r x) λt H Q d=>by refine dv d λc F R q=>?_;have q:=Rq.bind (show Rq B c F ((f c).bind _) _ from q);refine dI c F R (Rq.mono (aw.refl _) q λy b v h g m l r1=>?_);cases y with
 |str k=>have b:Rq B c F (WL.ofO _) _:=b;cases e:WL.rT k ks vs with|none=>rw[e]at b;exact b.elim|some w=>rw[e]at b;refine eM (p g k w e) λu n s=>?_;exact⟨rfl,k,u,r1,n,b u h g m l s⟩
 |_=>exact(b).elim
end
end WS
set_option autoImplicit true
set_option relaxedAutoImplicit true
namespace WS
open PySem PySem.Spec PyProof.Rows L2
open WL(Res Sl Ws EF TF AF LF GF GsF SF Out OX RF Rn AXF Dk XE XT)
def Tex:HO->Prop|.tup _=>True|.ext _=>True|.xd _=>True|_=>False
def wK(K:W.Frag)(H:Hp)(h:Addr)(y:Str):Prop:=∃C a t,H h=some (.ext (excAt h C a))/\StrK K C/\(a.1=none\/∃d b,a.1=some d/\H d=some (.xd b))/\a.2.1=.ref t/\H t=some (.tup [.str y])/\y.length<=5000000
def wK.via{K F c h y}(q:wK K F h y)(k:∀a o,Tex o->F a=some o->c a=some o):wK K c h y:=by obtain⟨C,i,t,f,m,g,e,j,l⟩:=q;exact⟨C,i,t,k _ _ trivial f,m,g.imp id λ⟨d,b,z1,z2⟩=>⟨d,b,z1,k _ _ trivial z2⟩,e,k _ _ trivial j,l⟩
theorem Chn.via{F b:Hp}(k:∀a o,Tex o->F a=some o->b a=some o):∀{n v},Chn F n v->Chn b n v|0,_,z=>z|n+1,_,⟨a,C,dx,z,h,r⟩=>⟨a,C,dx,z,k _ _ trivial h,Chn.via k r⟩
def AX(K:W.Frag)(F:Hp)(nm:String)(a:List (Str×V))(dx:DX):Prop:=(∃n,Chn F n dx.2.2)/\(nm="Broken"/\(∃n h y,a=[(("at":Str),V.int n),(("why":Str),V.ref h)]/\wK K F h y)\/nm≠"Broken"/\∃t y,dx.2.1=.ref t/\F t=some (.tup [.str y])/\y.length<=5000000)
theorem AX.via{K F c nm b dx}(h:AX K F nm b dx)(k:∀a o,Tex o->F a=some o->c a=some o):AX K c nm b dx:=⟨h.1.elim λn z=>⟨n,Chn.via k z⟩,h.2.imp (λ⟨z,n,a,y,e,q⟩=>⟨z,n,a,y,e,q.via k⟩) λ⟨z,t,y,z1,z2,z3⟩=>⟨z,t,y,z1,k _ _ trivial z2,z3⟩⟩
def XR(K:W.Frag)(F:Hp):VW->Addr->DX->Prop|.exc nm fs,C,dx=>ExcAt K nm C/\∃a:List (Str×V),a.map (·.1)=WL.fieldsOf nm/\RWs K F fs (a.map (·.2))/\(a=[]/\dx.1=none\/∃d,dx.1=some d/\F d=some (.xd a))/\AX K F nm a dx|_,_,_=>False
theorem XR.keep{K F b}(s:aw F b){c C dx}(h:XR K F c C dx):XR K b c C dx:=by cases c with|exc nm fs=>obtain⟨g,f,k,i,e,j⟩:=h;exact⟨g,_,k,i.keep s,e.imp (λz=>z) λa=>by obtain⟨d,z1,z2⟩:=a;exact⟨d,z1,s _ _ z2⟩,j.via λ_ _ _ z=>s _ _ z⟩|_=>exact h
def ajW{nm}(h:WL.fieldsOf nm=[]):nm≠"Broken":=λz=>by rw[z]at h;cases h
def XR.is{K F c C dx}(h:XR K F c C dx):∃a fs,c=.exc a fs/\ExcAt K a C:=by cases c with|exc a fs=>exact⟨a,fs,rfl,h.1⟩|_=>exact h.elim
def XW(X:Cx)(B:Bx):Prop:=∀(a:List (Addr×Obj))(b:L2.St)(H:Hp)(s:Shared)(f:Ws)(F:Hp)(c:VW),RS B f b F H->B.xp c f F->∀(e C:Addr)(d:DX)(T:Option Addr)(g:Value),Thr X a b H s e C d g T->XR X.K F c C d->X.xe (.ref e) s
abbrev Bx.oG(B:Bx)(a:VW->Ws->Hp->Prop)(mono:∀c d F b,aw F b->a c d F->a c d b):Bx:=⟨B.K,B.H0,B.F0,a,mono⟩
abbrev Bx.never(B:Bx):Bx:=B.oG (λ_ _ _=>False) λ_ _ _ _ _ h=>h
def qo (h:∀c a F,¬B.xp c a F):XW X B:=λ_ _ _ _ a F c _ q=>(h c a F q).elim
section
variable{B B':Bx}{σ:Ws}{σV:L2.St}{F H:Hp}
def RB.box(R:RB B F H)(c:B'.H0=B.H0)(b:B'.F0=B.F0):RB B' F H:=⟨R.sub,c▸R.base,b▸R.fz0,λa o e=>by rw[c,b];exact R.fr a o e⟩
theorem RS.box(R:RS B σ σV F H)(hk:B'.K=B.K)(a:B'.H0=B.H0)(b:B'.F0=B.F0):RS B' σ σV F H:=⟨R.rb.box a b,R.len,λi w e=>by rw[hk];exact R.va i w e,λi ws e=>by rw[hk,a];exact R.ow i _ e,R.ap,by rw[hk,a];exact R.dd⟩
end
section
variable{X:Cx}{B:Bx}{k:Nat}{f:Addr}{fd:FuncData}{ps:List Str}{fn:List VW->Res VW}{x:Str}{p pos np cpos:Pos}{e:Expr}{es:List Expr}{tas:AF}{n:Nat}{st:Stmt}
def spX(K:W.Frag)(n:Nat)(f:List VW->Res VW):Sp:=λh H Q E=>∃F ws,aw F H/\RWs K F ws h/\ws.length=n/\match f ws with|.ok w=>∀v d b,aw F b->aw b d->aw H d->(∀a o,b a=some o->F a=some o\/H a=none/\NF o)->RW K b w v->Q v d|.ex c=>∀C g d b,aw F b->aw b d->aw H d->(∀a o,b a=some o->F a=some o\/H a=none/\NF o)->XR K b c C g->E (.ref C) g d|.bad=>False
def RS.ext3{q j d c b i}(h:RS B q j d c)(s1:aw d b)(s2:aw b i)(s3:aw c i)(fr:∀a o,b a=some o->d a=some o\/c a=none/\NF o):Gr d c b i/\RS B q j b i:=by
 have g:Gr d c b i:=⟨s1,s3,λa o r m=>by cases l:b a with|none=>rfl|some o2=>
  rcases fr a o2 l with z|z;.rw[m]at z;cases z
  .rw[r]at z;cases z.1⟩;exact⟨g,h.grow g ⟨s2,h.rb.base.trans s3,h.rb.fz0.trans s1,λa o l=>(fr a o l).elim (λz=>h.rb.fr a o z) λz=>.inr ⟨h.rb.base.free z.1,z.2⟩⟩⟩
def qF{j b F H l o ws vs us Q}(I:X.K=B.K)(J:XW X B)(u:RS B j b l o)(g:Gr F H l o)(r:RWs B.K l ws vs)(K:ws.length=n)(q:Rq B j F (fn ws) λw=>∀v h z,RS B j b z h->Gr F H z h->RW B.K z w v->Q v h)(N:us=vs):∃E:XK,spX X.K n fn us o Q E/\∀a s e C i T h,Thr X a b h s e C i .none (some T)->E (.ref C) i h->X.xe (.ref e) s:=by
 rw[I,N];refine⟨λC i m=>∃y d c,C=.ref y/\RS B j b d m/\B.xp c j d/\XR B.K d c y i,⟨l,ws,u.rb.sub,r,K,?_⟩,λa s e C i T h t⟨y,d,c,M,R2,O,D⟩=>?_⟩;.cases A:fn ws with|bad=>rw[A]at q;exact q.elim|ok w=>rw[A]at q;intro v m d s1 s2 s3 fr r2;obtain⟨G,R2⟩:=u.ext3 s1 s2 s3 fr;exact q v m d R2 (g.trans G) r2|ex c=>rw[A]at q;intro C i m d s1 s2 s3 fr D;obtain⟨G,R2⟩:=u.ext3 s1 s2 s3 fr;exact⟨C,d,c,rfl,R2,B.mono c j F d (g.f.trans s1) q,D⟩
 .cases M;exact J a b h s j d c R2 O e C i (some T) _ t (by rw[I];exact D)
def aeI(i:X.K=B.K)(h:XW X B)(j:∀b ws,tas b=.ok ws->ws.length=n):∀a H Q,lo B (WL.aM fn tas) a H Q->xx X (spX X.K n fn) [] (loA B tas) a H Q:=by intro a H Q⟨b,F,R,q⟩;have q:=Rq.bind q;refine dI b F R ?_;cases ea:tas b with|bad|ex c=>rw[ea]at q;exact q|ok ws=>rw[ea]at q;exact λo l m g d r1=>qF i h g d r1 (j b ws ea) q (apE _)
def adY(i:X.K=B.K)(h:XW X B)(F:FnOk X.prog X.w X.K X.mg X.base (CXX X.prog X.w) k f fd ps (spX X.K n fn))(m:Room k X.A)(j:Gl X x)(g:X.mg x=some (.ref f))(hk:W.keepIn X.K (.ref f)=true)(q:Binds X.K fd ps [])(c:PA X (e::es) (loA B tas))(o:∀l ws,tas l=.ok ws->ws.length=n)(a:Dbg x:=by decide)(d:SE X e es:=by rfl)(b:BT X pos es:=by rfl):PE X (.Call (.Name x p) (e::es) [] pos) (lo B (WL.aM fn tas)):=PE.imp (xQ F m j g hk q .nil c a d b) (aeI i h o)
def afD:PS X st (loS B WL.dh):=λb s c H D I a=>by obtain⟨d,F,R,q⟩:=a;exact(q).elim
def fF (O:X.K=B.K)(u:XW X B)(z:X.calm=true)(J:Gl X x)(I:X.mg x=some (.ref C))(q:jv X.K C none)(w:ExcAt X.K nm C)(m:WL.fieldsOf nm=[])(E:PA X (e::es) (loA B tas))(A:Dbg x:=by decide)(o:SE X e es:=by rfl)(a:BT X cpos es:=by rfl):PS X (.Raise (some (.Call (.Name x np) (e::es) [] cpos)) none pos) (loS B (WL.jA nm tas)):=PS.imp (xM z J I q E A o a) λD i H h=>by
 refine dv h λg F R q=>?_;have q:=Oq.ofR q;refine dI g F R (Rq.mono (aw.refl _) q λws d P K N j r r1=>?_);by_cases b:WL.aiZ ws=true
 .rw[apa b]at d;obtain⟨y,rfl,M⟩:∃y,ws=[.str y]/\y.length<=5000:=by
   unfold WL.aiZ at b;split at b;.exact⟨_,rfl,aql b⟩
   .cases b
  obtain⟨v,_,rfl,rfl,rfl⟩:=r1;refine⟨show 1<=sizeLine by decide,λc s e G l t=>?_⟩;have k:=au (j.rb.sub.free l) (.tup [.str y]);exact u c i _ s g _ _ (j.new l _) (B.mono _ g F _ (r.f.trans k) d) e C _ none _ t ⟨w,[],by rw[m];rfl,by simp[RWs],.inl ⟨rfl,rfl⟩,⟨0,rfl⟩,.inr ⟨ajW m,G,y,rfl,ah,by omega⟩⟩
 .rw[ao9 b]at d;exact(d).elim
theorem Oq.box  (hk:B'.K=B.K)(d:B'.H0=B.H0)(b:B'.F0=B.F0)(i:∀c a,o=.ex c a->B'.xp c a F)(h:Oq B D F o):Oq B' D F o:=by cases o with|nx a|bk a|ct a=>exact λl g j R s=>h _ _ _ (R.box hk.symm d.symm b.symm) s|rt w=>exact λv g j R s r=>h v _ _ (R.box d.symm b.symm) s (by grind)|ex c a=>exact i c a rfl|bad=>exact h
def Oq.aog{f:VW->Ws->Out}(hk:B'.K=B.K)(d:B'.H0=B.H0)(b:B'.F0=B.F0)(g:∀c a,Oq B D F (f c a)->B'.xp c a F)(h:Oq B D F (match o with|.ex c a=>f c a|o=>o)):Oq B' D F o:=by cases o with|ex c a=>exact g c a h|_=>exact Oq.box hk d b (λ_ _ z=>by cases z) h
end
section
variable{P:Program}{w:World}{K:W.Frag}{mg:Str->Option Value}{base:Heap}
def acX{x a st f G N ps k m n}{D:List VW->Res VW}(t)(T:Fun K x a st f G)(S:FnScope N ps (ak st))(M:N.length=n)(g:ps.length=m)(p:WL.run n t=D)(R:ps.length<=N.length)(h:∀d A b s H E B,B.K=K->Room k (A.deeper (envOfC a (ak st) s.heap.objs.size f d))->XW (fB CX0 P w K mg base N a (ak st) f d A b s H E).nox B->PassesOwn (model P w) (A.deeper (envOfC a (ak st) s.heap.objs.size f d)) (envOfC a (ak st) s.heap.objs.size f d) (λ_ _=>False)->PSs (fB CX0 P w K mg base N a (ak st) f d A b s H E).nox (aF st) (loS B t)):FnOk P w K mg base CX0 (k+1) f G ps (spW K m D):=by subst M g p;refine T.ok S (λU H Q E i=>by refine oE i λF ws _ r C _=>?_;rw[<-r.length];exact C) λd A b s H U Q E O i=>?_;refine oE i λF ws J r C g=>?_;refine⟨_,h d A b s H E _ rfl O (qo λ_ _ _ z=>z) PassesOwn.never,_,F,RS.start J r (by omega),?_⟩;unfold WL.run at g;cases e:t _ with|rt w=>rw[e]at g;exact λv j o l q y=>g v j o q l.sub l.base l.fr y|nx σ'=>rw[e]at g;exact λI j o u q=>g .non j o q u.rb.sub u.rb.base u.rb.fr (rfl)|bk σ'|ct σ'|ex c σ'|bad=>rw[e]at g;exact g.elim
def rN{x b st f X N ps k m n}{U:List VW->Res VW}(t)(Fn:Fun K x b st f X)(S:FnScope N ps (ak st))(hn:N.length=n)(g:ps.length=m)(D:WL.run n t=U)(a7:ps.length<=N.length)(h:∀d A a s H E B,B.K=K->Room k (A.deeper (envOfC b (ak st) s.heap.objs.size f d))->XW (fB (CXX P w) P w K mg base N b (ak st) f d A a s H E) B->PassesOwn (model P w) (fB (CXX P w) P w K mg base N b (ak st) f d A a s H E).A (fB (CXX P w) P w K mg base N b (ak st) f d A a s H E).env (fB (CXX P w) P w K mg base N b (ak st) f d A a s H E).xe->PSs (fB (CXX P w) P w K mg base N b (ak st) f d A a s H E) (aF st) (loS B t)):FnOk P w K mg base (CXX P w) (k+1) f X ps (spX K m U):=by subst hn g D;refine afy Fn.ex λoc od kV a6 pm an d ct a0 G lk y=>?_;subst G;refine rB lk y S (λvs H Q E o=>by refine oE o λF ws _ r M _=>?_;rw[<-r.length];exact M) λA a s H vs Q E hr _ o=>?_;refine oE o λF ws sm r M g=>?_;let O:Bx:=⟨K,H,F,λ_ _ _=>False,λ_ _ _ _ _ h=>h⟩;let B1:Bx:=O.oG (λc _ u=>∀C l j i,aw u i->RB O i j->XR K i c C l->E (.ref C) l j) λc σ u F2 s h C l j i q=>h C l j i (s.trans q);refine⟨_,h d A a s H E B1 rfl hr (λR a8 Z s1 σ u c R1 xp e C l T fl t z=>je t (xp C l Z u (aw.refl _) (R1.rb.box rfl rfl) z)) aqD,_,F,(RS.start sm r (by omega)).box rfl rfl rfl,?_⟩;unfold WL.run at g;cases e:t _ with|rt w=>rw[e]at g;exact λv j i p q J=>g v j i q p.sub p.base p.fr J|nx σ'=>rw[e]at g;exact λY j i I q=>g .non j i q I.rb.sub I.rb.base I.rb.fr (rfl)|bk σ'|ct σ'=>rw[e]at g;exact g.elim|ex c σ'=>rw[e]at g;exact λC l j i q p z=>g C l j i q p.sub p.base p.fr z|bad=>rw[e]at g;exact g.elim
end
def om:bootBuiltins "ValueError"=some (.type "ValueError"):=by decide+kernel
structure Exc1(K:W.Frag)(FE Ca:Addr):Prop where
 ty:W.typeIn K (.ref Ca)=some (.type "type")mro:(W.clsIn K Ca).map (·.mro)=some (.ref Ca::gy)/\Ca=FE\/(W.clsIn K Ca).map (·.mro)=some (.ref Ca::.ref FE::gy)ga:W.findIn K (.ref Ca) "__getattribute__"=some (some (.builtin "BaseException.__getattribute__"))gn:W.findIn K (.ref Ca) "__getattr__"=some none
 cl:W.findIn K (.ref Ca) "__class__"=some (some (.builtin "object.__class__"))
structure ExcAll(K:W.Frag):Prop where
 k:∀nm Ca,ExcAt K nm Ca->ExcK K Ca
 is:∀nm Ca d D,ExcAt K nm Ca->ExcAt K d D->W.kitOne K (.ref Ca) (.ref D)=some (WL.uZ nm d)ve:∀nm Ca,ExcAt K nm Ca->W.kitOne K (.ref Ca) (.type "ValueError")=some true
 ex:∀nm Ca d D,ExcAt K nm Ca->ExcAt K d D->W.exmOne K (.ref Ca) (.ref D)=some (WL.uZ nm d)
def all_nil{α:Type}{P:α->Prop}:∀p∈[],P p:=λ_ h=>nomatch h
def all_cons{α:Type}{P:α->Prop}{a l}(h:P a)(t:∀p∈l,P p):∀p∈a::l,P p:=λp b=>(apq.mp b).elim (λe=>e▸h) (t p)
section
variable{K:W.Frag}{FE:Addr}{tab:List (String×Addr)}
theorem mC:∀{tab:List (String×Addr)},(tab.map (·.1)).Nodup->(tab.map (·.2)).Nodup->∀p∈tab,∀q∈tab,p.1=q.1↔p.2=q.2
|[],_,_,p,hp,_,_=>nomatch hp|a::l,h1,h2,p,hp,q,hq=>by
 rw[apA,aqf]at h1 h2;rcases apq.mp hp with z|b<;>rcases apq.mp hq with y|c;.rw[z,y];exact⟨λ_=>rfl,λ_=>rfl⟩
 .subst z;exact⟨λe=>absurd (e▸aqT c) h1.1,λe=>absurd (e▸aqT c) h2.1⟩
 .subst y;exact⟨λe=>absurd (e▸aqT b) h1.1,λe=>absurd (e▸aqT b) h2.1⟩
 .exact mC h1.2 h2.2 p b q c
def acQ(r:("FloorError",FE)∈tab)(o:∀p∈tab,W.nsIn K mainGlobals (Str.ofString p.1)=some (some (.ref p.2))/\Exc1 K FE p.2)(t:∀b∈WL.rE,b∈tab.map (·.1)\/W.nsIn K mainGlobals (Str.ofString b)=some none)(n1:(tab.map (·.1)).Nodup)(n2:(tab.map (·.2)).Nodup)(s:W.specialIn K (.builtin "object.__class__") "__get__"=some (some (.builtin "getset_descriptor.__get__")))(n:W.takesIn K (.builtin "object.__class__")=some true):ExcAll K:=by
 have c:∀b a,ExcAt K b a->(b,a)∈tab/\Exc1 K FE a:=λb a⟨i,f⟩=>by grind
 have k:∀b a,ExcAt K b a->∃j,W.clsIn K a=some j/\(j.mro=.ref a::gy/\a=FE\/j.mro=.ref a::.ref FE::gy):=λb a h=>by
  rcases(c b a h).2.mro with⟨e,z⟩|e;.obtain⟨j,i,f⟩:=apr.mp e;exact⟨j,i,.inl ⟨f,z⟩⟩
  .obtain⟨j,i,f⟩:=apr.mp e;exact⟨j,i,.inr f⟩
 have l:∀b a T,ExcAt K b a->Value.type T∈gy->W.mroIn K a (.type T)=some true:=λb a T h q=>by
  obtain⟨j,i,f⟩:=k b a h;unfold W.mroIn;rw[i,aqO];rcases f with⟨f,_⟩|f<;>rw[f]<;>simp only[arW,ap6,aqL,Option.some.injEq,List.contains_eq_mem,arX,apq];.exact .inr (by simpa using q)
  .exact .inr (.inr (by simpa using q))
 have sub:∀b a d D,ExcAt K b a->ExcAt K d D->W.mroIn K a (.ref D)=some (WL.uZ b d):=λb a d D h g=>by
  refine eM (k b a h) λj i f=>?_;have i1:=mC n1 n2 _ (c b a h).1 _ (c d D g).1;have i2:=mC n1 n2 _ r _ (c d D g).1;have i3:=mC n1 n2 _ r _ (c b a h).1;dsimp only at i1 i2 i3;unfold W.mroIn;rw[i,aqO];have e:WL.uZ b d=decide (a=D\/FE=D):=by unfold WL.uZ;rw[ap7];simp only[aru,ap2,arX];exact or_congr i1 (by rw[eq_comm];exact i2)
  rw[e];rcases f with⟨f,z⟩|f<;>rw[f]<;>simp only[arW,ap6,aqL,Option.some.injEq,List.contains_eq_mem];.subst z;congr 1;simp[eq_comm]
  .congr 1;simp[eq_comm]
 have cls:∀b a d D,ExcAt K b a->ExcAt K d D->W.kitCls K (.ref a) (.ref D)=some (WL.uZ b d):=λb a d D h g=>by obtain⟨j,i,_⟩:=k d D g;unfold W.kitCls;dsimp only;rw[apa (by rw[i,(c d D g).2.ty];rfl)];exact sub b a d D h g
 refine⟨λb a h=>?_,λb a d D h g=>?_,λb a h=>?_,λb a d D h g=>?_⟩;.obtain⟨j,i,_⟩:=k b a h;have m:=(c b a h).2;exact⟨by rw[i];rfl,m.ga,m.gn,l b a _ h (by simp),l b a _ h (by simp),m.cl,s,n⟩
 .unfold W.kitOne;by_cases e:(Value.ref a==Value.ref D)=true;.rw[apa e];have e:=Value.ref.inj (ap2.mp e);subst e;have:=(mC n1 n2 _ (c b a h).1 _ (c d a g).1).mpr rfl;dsimp only at this;subst this;simp[WL.uZ]
  .rw[ao9 e];exact cls b a d D h g
 .unfold W.kitOne;rw[ao9 (by intro z;cases ap2.mp z)];unfold W.kitCls;dsimp only;rw[apa (by decide+kernel)];exact l b a _ h (by simp)
 .unfold W.exmOne;rw[apa (by rw[show W.subIn K (.ref D) (.type "BaseException")=W.mroIn K D (.type "BaseException")from rfl,l d D _ g (by simp)];rfl)];exact cls b a d D h g
end
section
variable{X:Cx}{K:W.Frag}
def acM{F H:Hp}{a C:Addr}{dx:DX}{b:List (Str×V)}{pins:List (Addr×Obj)}{l:L2.St}{s:Shared}(I:Inv X pins l H s)(h:aw F H)(k:F a=some (.ext (excAt a C dx)))(n:b=[]/\dx.1=none\/∃d,dx.1=some d/\F d=some (.xd b)):∃j od,W.InstAt s.heap a j C od/\j.dict=dx.1:=by
 obtain⟨⟨f,p,g,i,e,m⟩,_⟩:=I.hok a _ (h _ _ k);have c:W.notCls f=true:=by unfold W.notCls;rw[m.1]
 rcases n with⟨_,z⟩|⟨d,z,q⟩;.exact⟨f,none,⟨g,i,c,by rw[e,z];trivial⟩,e⟩
 .obtain⟨od,o⟩:=eB (I.hok d _ (h _ _ q));exact⟨f,some od,⟨g,i,c,by rw[e,z];exact o⟩,e⟩
set_option tactic.hygienic true in
def qy(M:X.K=K)(k:ExcAll X.K):bP X (.builtin "isinstance") (loN K WL.u2):=by
 subst M;intro e s o H P J Q I r⟨F,ws,p,l,q⟩;have go:∀c fs g b,ws=[.exc c fs,g]->WL.u2 ws=.ok (.bl b)->(∀C v,ExcAt X.K c C->RW X.K F g v->∀u,RelV v u->W.kitOne X.K (.ref C) u=some b)->wpAny (model X.prog X.w) X.A (call (.builtin "isinstance") J) (EP X e o Q) X.xe s:=λc fs g b x t O=>by subst x;rw[t]at q;obtain⟨v,y,rfl,h,E⟩:=two_of l;obtain⟨u,w,rfl,r1,r2⟩:=vals2 r;simp only[RW]at h;obtain⟨a,C,R,rfl,B,m,n,_,_,G⟩:=h;obtain⟨A,od,T,_⟩:=acM I p B G;cases show u=Value.ref a from r1;have fin:Q (.bl b) H:=eq1 q (by simp[RW]);exact ap4 (aeM (k.k c C m)) I.kIn ⟨A,od,T⟩ (O C y m E w r2) (λz=>nomatch z) λtk=>⟨.bl b,H,I.tok tk,rfl,fin⟩
 unfold WL.u2 at q;split at q;.rename_i c fs d;exact go c fs (.cls d) _ rfl rfl λC v i f u j=>by simp only[RW]at f;obtain⟨D,rfl,N⟩:=f;cases show u=Value.ref D from j;exact k.is c C d D i N
 .rename_i c fs;exact go c fs (.ty "ValueError") _ rfl rfl λC v i f u j=>by simp only[RW]at f;subst f;cases show u=Value.type "ValueError"from j;exact k.ve c C i
 .exact q.elim
def dS:∀a c,WL.u2 a≠.ex c:=λa c h=>by unfold WL.u2 at h;split at h<;>cases h
end
section
variable{B:Bx}{σ:Ws}{σV:L2.St}{F H:Hp}
def RS.ahe(R:RS B σ σV F H)(i:Nat):RS B (σ.set i .no) (σV.set i none) F H:=by
 have o:=R.len;have b:∀{j:Nat}{w:Sl},(σ.set i .no)[j]?=some w->w≠.no->i≠j:=λ{j w}e n z=>by
  subst z;have p:i<σ.length:=by have:=(ao8.mp e).1;simpa using this
  rw[apc p]at e;cases e;exact n rfl
 refine⟨R.rb,by simp[o],λj u e=>?_,λj ws e=>?_,λj k ws c a f g d l m=>?_,R.akL i (sl:=.no) (λz=>z) _ (aw.refl _) λ_ _ _ _ _ _ _ _ q1 q2=>⟨q2,q1⟩⟩;.have h:=b e (by intro z;cases z);rw[ao5 h]at e⊢;exact R.va j u e
 .have h:=b e (by intro z;cases z);rw[ao5 h]at e⊢;exact R.ow j ws e
 .have n1:=b g (by intro z;cases z);have n2:=b d (by intro z;cases z);rw[ao5 n1]at g l;rw[ao5 n2]at d m;exact R.ap j k ws c a f g d l m
end
section
variable{X:Cx}{B:Bx}{x n:Str}{pos np hpos:Pos}
def wX{body f:List Stmt}{b0:Stmt}{C:Addr}{d:String}{i:Nat}{tb th:SF}(hK:X.K=B.K)(hs:X.stack=X.env::X.outer)(hf:X.env.frame=some X.env.locals)(hN:X.N.Nodup)(hi:X.N[i]?=some n)(hl:X.env.scope.names.lookup n=some .local)(hg:Gl X x)(hm:X.mg x=some (.ref C))(hc:∀k Ca,ExcAt X.K k Ca->W.exmOne X.K (.ref Ca) (.ref C)=some (WL.uZ k d))(hb:∀(E:Value->Shared->Prop)(pn:List (Addr×Obj))(B':Bx),B'.K=X.K->XW (X.tri E pn) B'->PassesOwn (model X.prog X.w) X.A X.env E->PSs (X.tri E pn) body (loS B' tb))(hh:∀(e:Addr)(B':Bx),B'.K=X.K->XW (X.sui e) B'->PSs (X.sui e) (b0::f) (loS B' th))(hd:Dbg x:=by decide):PS X (.Try body [.ExceptHandler (some (.Name x np)) (some n) (b0::f) hpos] [] [] pos) (loS B (WL.pO tb d i th)):=by
 intro a s b8 H D I⟨σ,F,R,q⟩;refine asi ?_;let E':Value->Shared->Prop:=λe a6=>wpAny (model X.prog X.w) X.A (noteFrame e X.env) (λ_ a0=>wpAny (model X.prog X.w) X.A (setFlight e none) (λ_ S=>wpAny (model X.prog X.w) X.A (handleBy e X.env [.ExceptHandler (some (.Name x np)) (some n) (b0::f) hpos]) (SP X a D) X.xe S) X.xe a0) X.xe a6;let B1:Bx:=B.oG (λc b N=>Oq B D N (WL.uo d i th c b)) λc b N c0 s h=>Oq.mono s h;have xw:XW (X.tri E' (X.pn++a)) B1:=by
  intro a9 p H1 s1 g G c R1 j e y K T Q t xr;have t2:Thr X a p H1 s1 e y K Q T:=t.gP;obtain⟨k,fs,rfl,ce⟩:=xr.is;have j:Oq B D G (WL.uo d i th (.exc k fs) g):=j;have ex:=hc k y ce
  cases A:WL.uZ k d with|false=>
   have:WL.uo d i th (.exc k fs) g=.bad:=by simp[WL.uo,WL.wy,A]
   rw[this]at j;exact j.elim|true=>
   have hO:WL.uo d i th (.exc k fs) g=match th (g.set i (.va (.exc k fs)))with|.nx σ2=>.nx (σ2.set i .no)|.rt w=>.rt w|_=>.bad:=by unfold WL.uo;rw[show WL.wy d (.exc k fs)=true from A];rfl
   rw[hO]at j;rw[A]at ex;refine t2.note hs hf λh' T' _ t3=>t3.qg λb9 t4=>acx t4 hg hm ex (λh3 t5=>?_) hd;have J:=t5.known;have he:H1 e=none:=t5.fe.1;have U:RS B g p G H1:=R1.box rfl rfl rfl;have R2:=U.new he (.ext (excAt e y K));have hF:G e=none:=U.rb.sub.free he;have sF:aw G (upd G e (.ext (excAt e y K))):=au hF _;have a7:RW B.K (upd G e (.ext (excAt e y K))) (.exc k fs) (.ref e):=by obtain⟨z1,a8,z2,z3,z4⟩:=xr.keep sF;simp only[RW];rw[<-hK];exact⟨e,y,K,rfl,ah,z1,a8,z2,z3,z4.1⟩
   let B2:Bx:=B.never;have P:=hh e B2 hK.symm (qo λ_ _ _ z=>z);let D2:Ends:=⟨λm l=>D.nx (m.set i none) l,D.rt,λ_ _=>False,λ_ _=>False⟩;refine jz (X:=X.sui e) (J.sui e) hN hi (Or.inl hl) (v:=.ref e) (u:=.ref e) rfl (λs2 J2 _=>?_) (Or.inr hl);have R3:RS B2 (g.set i (.va (.exc k fs))) (p.set i (some (.ref e))) (upd G e (.ext (excAt e y K))) (upd H1 e (.ext (excAt e y K))):=(R2.set (i:=i) a7).box rfl rfl rfl;refine apn (P a _ _ _ D2 J2 ⟨_,_,R3,?_⟩) (λQ s3 h=>?_) λ_ _ z=>z;.cases Z:th (g.set i (.va (.exc k fs)))with|ex c2 σ2=>rw[Z]at j;exact j.elim|nx σ2=>rw[Z]at j;exact λm l N R' O=>j (m.set i none) l N ((RS.box (B:=B2) (B':=B) R' rfl rfl rfl).ahe i) (sF.trans O)|bk σ2|ct σ2=>rw[Z]at j;exact j.elim|rt w=>rw[Z]at j;exact λv l N R' O r=>j v l N (RB.box (B:=B2) (B':=B) R' rfl rfl) (sF.trans O) r|bad=>rw[Z]at j;exact j
   .cases Q with|next=>obtain⟨b,l,Y,M⟩:=h;exact x8 (J.back Y) hN hi hl λO I2=>⟨_,l,I2,M⟩|brk=>obtain⟨b,l,Y,M⟩:=h;exact M.elim|cont=>obtain⟨b,l,Y,M⟩:=h;exact M.elim|ret u=>obtain⟨v,b,l,Y,r,M⟩:=h;exact x8 (J.back Y) hN hi hl λO I2=>⟨v,_,l,I2,r,M⟩
 have P:=hb E' (X.pn++a) B1 hK.symm xw PassesOwn.looking;refine apn (P [] s b8 H D (I.tri E') ⟨σ,F,R.box rfl rfl rfl,?_⟩) (λQ O h=>?_) λ_ _ z=>z;.have q:Oq B D F (match tb σ with|.ex c b=>WL.uo d i th c b|o=>o):=q;exact Oq.aog (B:=B) (B':=B1) rfl rfl rfl (λ_ _ z=>z) q
 .have h:=SP.gP h;cases Q with|next=>exact aqd h|_=>exact h
end
end WS
namespace WS
open PySem PySem.Spec PyProof.Rows L2
def aiS{X:Cx}{B:Bx}{x:Str}{nm:String}{C:Addr}{pos:Pos}(d:X.K=B.K)(e:Gl X x)(b:X.mg x=some (.ref C))(a:ExcAt X.K nm C)(c:Dbg x:=by decide):PE X (.Name x pos) (lo B (WL.eC (.cls nm))):=agY (qM (v:=.ref C) e b rfl c) λF=>by simp only[RW];rw[<-d];exact⟨C,rfl,a⟩
end WS
namespace WS
open PySem PySem.Spec PyProof.Rows L2
open WL(Res Sl Ws EF TF AF LF GF GsF SF Out OX RF Rn AXF Dk XE XT)
section
variable{σ:L2.St}{H:Hp}
def Part(t:TE)(σ:L2.St)(H:Hp):Prop:=∀Q:VK,(∀y:Str,y.length<=1000->Q (.str y) H)->t σ H Q
def abJ{y}(h:y.length<=1000):Part (tC (.str y)) σ H:=λQ k=>k y h
def af9{i n}(h:σ[i]?=some (some (.int n)))(a:n.natAbs.log2<100):Part (aik (cM i)) σ H:=λQ k=>⟨_,h,.inl ⟨n,rfl,apd a (by simp),k _ (by have e:=int_text_length_le (by simp) a;rw[PySem.ofString_length];omega)⟩⟩
theorem ai9{Q}:∀b a,a.length+1000*b.length<=100000->(∀t∈b,Part t σ H)->(∀y,y.length<=a.length+1000*b.length->Q (.str y) H)->tJ b a σ H Q|[],a,hl,_,k=>⟨by rw[aqo];omega,k _ (by simp)⟩|t::b,a,hl,hp,k=>hp t apu _ λy f=>by rw[apj]at hl;have e:(a++y).length=a.length+y.length:=arc ..;exact⟨y,rfl,by rw[aqo];omega,ai9 b _ (by omega) (λt c=>hp t (apQ _ c)) λz d=>k z (by rw[apj];omega)⟩
end
section
variable{P:Program}{w:World}{K:W.Frag}{mg:Str->Option Value}{base:Heap}
def ant{G:Hp}{e d a b c}:upd (upd (upd G e a) d b) e c=upd (upd G d b) e c:=by
 funext z;by_cases z1:z=e;.rw[z1,ah,ah]
 .rw[ae z1,ae z1];by_cases z2:z=d;.rw[z2,ah,ah]
  .rw[ae z2,ae z2,ae z1]
def aos{G:Hp}{e d:Addr}{a b c}(f:d≠e):upd (upd (upd G d a) e b) d c=upd (upd G d c) e b:=by
 funext z;by_cases z1:z=d;.rw[z1,ah,ae f,ah]
 .rw[ae z1];by_cases z2:z=e;.rw[z2,ah,ah]
  .rw[ae z2,ae z2,ae z1,ae z1]
def aeW{g m a b st f C p k ts}(O:Fun K "__init__" g st f p)(S:FnScope [a,b] [a,b] (ak st))(v:ts.length<=50)(I:∀o H n,o[1]?=some (some (.int n))->n.natAbs.log2<100->∀t∈ts,Part t o H)(h:∀i A c s H E,Room k (A.deeper (envOfC g (ak st) s.heap.objs.size f i))->PSs (fB CX0 P w K mg base [a,b] g (ak st) f i A c s H E).nox (aF st) (ai5 (sP (aa2 C (jy (cM 0) (jy (tJ ts Str.empty) xu)))) (sX1 C (cM 0) (cM 1) m))):FnOk P w K mg base CX0 (k+1) f p [a,b] (spI C [m]):=by refine O.ok S λR H Q E j=>by obtain⟨e,ws,_,ev,l,_⟩:=j;rw[ev,apj,l];rfl λi A c s H R Q E J j=>?_;obtain⟨e,ws,x,ev,l,u,B,q⟩:=j;subst ev;obtain⟨w1,rfl⟩:=List.length_eq_one_iff.mp l;obtain⟨n,rfl,z⟩:=B w1 apu;refine⟨_,h i A c s H E J,?_⟩;refine⟨.ref e,rfl,ai9 ts _ (by have:Str.empty.length=0:=rfl;omega) (I _ H n rfl z) λy D=>⟨e,none,x,y,rfl,u,λN M T=>?_⟩⟩;refine⟨.int n,rfl,.ref e,rfl,e,_,rfl,ah,λd G r=>?_⟩;have:=q N y d M (apb D (by have:Str.empty.length=0:=rfl;omega)) (by rwa[ae r]at G) r;rw[<-ant]at this;exact this
end
section
variable{X:Cx}{B:Bx}{k:Nat}{fI C:Addr}{fd:FuncData}{ps:List Str}{x:Str}{pos np cpos:Pos}{e:Expr}{es:List Expr}{tas:AF}{nm:String}
theorem acp{K F}:∀{ws vs},RWs K F ws vs->ws.all WL.iQ=true->∀v∈vs,∃i,v=.int i/\i.natAbs.log2<100
|[],vs,h,_,v,a=>by subst h;cases a|w::ws,vs,h,ha,v,a=>by
 obtain⟨v0,r,rfl,c,b⟩:=h;rw[arb,apk]at ha;rcases apq.mp a with rfl|a;.cases w with|int i=>subst c;exact⟨i,rfl,aql ha.1⟩|_=>cases ha.1
 .exact acp b ha.2 v a
def aay(l:nm≠"Broken")(S:X.K=B.K)(G:XW X B)(K:X.calm=true)(T:Gl X x)(P:X.mg x=some (.ref C))(q:jv X.K C (some (.ref fI)))(m:W.typeIn X.K (.ref fI)=some (.type "function"))(F:FnOk X.prog X.w X.K X.mg X.base CX0 k fI fd ps (spI C (WL.fieldsOf nm)))(M:Room (k+1) X.A)(N:Binds X.K fd ps [])(J:ExcAt X.K nm C)(Q:(WL.fieldsOf nm).length<=50)(O:PA X (e::es) (loA B tas))(b:Dbg x:=by decide)(A:SE X e es:=by rfl)(a:BT X cpos es:=by rfl):PS X (.Raise (some (.Call (.Name x np) (e::es) [] cpos)) none pos) (loS B (WL.vh nm tas)):=PS.imp (abw K T P q m F M N O b A a) λD o H j=>by
 refine dv j λi F R q=>?_;have q:=Oq.ofR q;refine dI i F R (Rq.mono (aw.refl _) q λws h n U Z r E r1=>?_);by_cases g:ws.length=(WL.fieldsOf nm).length/\ws.all WL.iQ=true
 .rw[apa g]at h;have c:n.length=(WL.fieldsOf nm).length:=by rw[<-r1.length];exact g.1
  refine⟨c,acp r1 g.2,Q,λf s e d w y v Y b ne t=>?_⟩;have R2:=r.new v (.tup [.str y]);have s2:=au (r.rb.sub.free v) (.tup [.str y]);have u:=s2.trans (au (R2.rb.sub.free b) (.xd ((WL.fieldsOf nm).zip n)));have I:w≠d:=λz=>by rw[<-z,ah]at b;cases b
  refine G f o _ s i _ (.exc nm ws) (R2.new b _) (B.mono _ i F _ (E.f.trans u) h) e C _ none _ t ⟨J,(WL.fieldsOf nm).zip n,?_,?_,.inr ⟨d,rfl,ah⟩,⟨0,rfl⟩,.inr ⟨l,w,y,rfl,by rw[ae I,ah],by omega⟩⟩;.rw[List.map_fst_zip (by omega)]
  .rw[List.map_snd_zip (by omega),S];exact r1.keep u
 .rw[ao9 g]at h;exact(show False from h).elim
end
section
variable{X:Cx}{B:Bx}{o:Expr}{f:Str}{pos:Pos}{ta:EF}
theorem yd{f:Str}{v:V}:∀{l:List (Str×V)},l.lookup f=some v->f∈l.map (·.1)|[],h=>by simp at h|(a,b)::l,h=>by rw[apL]at h;cases z:f==a with|true=>rw[apA,ap2.mp z];exact apu|false=>rw[z]at h;exact apQ _ (yd h)
theorem wM{K:W.Frag}{F:Hp}{f:Str}{w:VW}:∀{l:List Str}{ws:List VW}{c:List (Str×V)},c.map (·.1)=l->RWs K F ws (c.map (·.2))->(l.zip ws).lookup f=some w->∃v,c.lookup f=some v/\RW K F w v|[],ws,c,_,_,h=>by simp at h|a::l,[],c,_,_,h=>by simp at h|a::l,w0::ws,[],h,_,_=>by simp at h|a::l,w0::ws,(b,v0)::c,d,h2,h3=>by simp only[apA,List.cons.injEq]at d;obtain⟨rfl,d⟩:=d;simp only[apA,RWs]at h2;obtain⟨v,r,e,g,i⟩:=h2;simp only[List.cons.injEq]at e;obtain⟨rfl,rfl⟩:=e;rw[aqX,apL]at h3;rw[apL];cases z:f==b with|true=>rw[z]at h3;cases h3;exact⟨v0,rfl,g⟩|false=>rw[z]at h3;exact wM d i h3
def tXf(K:W.Frag)(ta:TE)(f:Str):TE:=λh H Q=>ta h H λx c=>∃a C e d b g v,x=.ref a/\c a=some (.ext (excAt a C e))/\ExcAt K g C/\f∈WL.fieldsOf g/\e.1=some d/\c d=some (.xd b)/\b.lookup f=some v/\Q v c
def ahq{ta:TE}(M:ExcAll X.K)(y:∀c C,ExcAt X.K c C->f∈WL.fieldsOf c->W.findIn X.K (.ref C) f=some none/\W.hasDictIn X.K C=true)(p:PE X o ta)(E:attributeBase o f X.env (eval o X.env)=eval o X.env):PE X (.Attribute o f pos) (tXf X.K ta f):=by intro b s i H Q I h;refine adq E (thn (p b s i H _ I h) λu s1⟨x,l,e,S,a,C,Z,d,t,c,v,ex,N,j,O,G,P,R,q⟩=>?_);subst ex;cases show u=Value.ref a from S;obtain⟨J,z,r⟩:=e.hok d _ P;obtain⟨od,D,g⟩:=tZ z;obtain⟨⟨m,Y,n,w,A,U⟩,_⟩:=e.hok a _ N;have T:W.InstAt s1.heap a m C (some od):=⟨n,w,by unfold W.notCls;rw[U.1],by rw[A,G];exact D⟩;obtain⟨u,K,k⟩:=u3.some_of (v:=v) (o:=J f) (by rw[<-R];exact r f);obtain⟨n1,n2⟩:=y c C j O;exact ae9 (M.k c C j) e.kIn T (W.findObj_own n2 n1 rfl (by rw[g,K])) (um k) ⟨v,l,e.tok _,k,q⟩
def aaE(J:X.K=B.K)(E:ExcAll X.K)(r:∀b C,ExcAt X.K b C->f∈WL.fieldsOf b->W.findIn X.K (.ref C) f=some none/\W.hasDictIn X.K C=true)(l:PE X o (lo B ta))(z:attributeBase o f X.env (eval o X.env)=eval o X.env):PE X (.Attribute o f pos) (lo B (WL.alA ta f)):=PE.imp (ahq E r l z) λK H Q i=>by obtain⟨p,F,R,q⟩:=i;have q:=Rq.bind q;refine⟨p,F,R,Rq.mono (aw.refl _) q λw q1 x k D c m r1=>?_⟩;cases w with
|exc b fs=>dsimp only[WL.an0]at q1;cases g:((WL.fieldsOf b).zip fs).lookup f with|none=>rw[g]at q1;exact q1.elim|some w'=>
  rw[g]at q1;obtain⟨a,C,s,rfl,G,u,e,j,A,I⟩:=r1;obtain⟨v,h,t⟩:=wM j A g;rcases I with⟨rfl,_⟩|⟨d,n,y⟩;.simp at h
  exact⟨a,C,s,d,e,b,v,rfl,c.rb.sub _ _ G,by rw[J];exact u,by rw[<-j];exact yd h,n,c.rb.sub _ _ y,h,q1 v k D c m t⟩
|_=>exact q1.elim
end
end WS
namespace WS
open PySem PySem.Spec PyProof.Rows L2
section
variable{K:W.Frag}{a:Addr}{f nm:Str}
def acP{C b n}(x:ExcAll K)(h:ExcAt K n C)(m:(W.clsIn K C).map (·.mro)=some (.ref C::.ref b::gy))(k:W.hasDictIn K C=true)(l:W.findIn K (.ref C) "__setattr__"=some (some (.builtin "object.__setattr__"))):ExcS K C:=by obtain⟨j,c,i⟩:=apr.mp m;obtain⟨g,d,e⟩:=W.any_some k;rw[c]at d;cases d;exact⟨x.k n C h,⟨j,c,e,.inr ⟨b,i⟩⟩,l⟩
def FA(K:W.Frag)(f:Str)(nm:String):Prop:=f∈WL.fieldsOf nm->∀b,W.nsIn K mainGlobals (Str.ofString nm)=some (some (.ref b))->W.findIn K (.ref b) f=some none/\W.hasDictIn K b=true
def fQ{nm:String}(h:¬f∈WL.fieldsOf nm):FA K f nm:=λz=>absurd z h
def acE{nm:String}(e:W.nsIn K mainGlobals (Str.ofString nm)=some (some (.ref a)))(c:W.findIn K (.ref a) f=some none)(b:W.hasDictIn K a=true):FA K f nm:=λ_ d h=>by have:=e.symm.trans h;cases this;exact⟨c,b⟩
def acF{nm:String}(e:W.nsIn K mainGlobals (Str.ofString nm)=some none):FA K f nm:=λ_ b h=>by have:=e.symm.trans h;cases this
def an7(r:FA K f "FloorError")(k:FA K f "NotEven")(p:FA K f "NoCall")(m:FA K f "NoName")(i:FA K f "NoProgram")(n:FA K f "TooMany")(o:FA K f "NoPairs")(l:FA K f "NoRow")(q:FA K f "Blind")(j:FA K f "Out")(g:FA K f "Meet")(e:FA K f "Broken"):∀nm C,ExcAt K nm C->f∈WL.fieldsOf nm->W.findIn K (.ref C) f=some none/\W.hasDictIn K C=true:=λnm c⟨h,b⟩d=>by
 simp only[WL.rE,apq,aqb,or_false]at h;rcases h with rfl|rfl|rfl|rfl|rfl|rfl|rfl|rfl|rfl|rfl|rfl|rfl;.exact r d c b
 .exact k d c b
 .exact p d c b
 .exact m d c b
 .exact i d c b
 .exact n d c b
 .exact o d c b
 .exact l d c b
 .exact q d c b
 .exact j d c b
 .exact g d c b
 .exact e d c b
end
end WS
namespace WS
open PySem PySem.Spec PyProof.Rows L2
open WL(Res Sl Ws EF TF AF LF GF GsF SF Out OX RF Rn AXF Dk XE XT)
section
variable{X:Cx}{B:Bx}{e tg iter elt:Expr}{pos:Pos}{ta:EF}{tt:TF}{it:LF}{g:GF}{k:Nat}{scope:Scope}{ts:List Str}{ifs:List Expr}
def ac9{f G x C J xs Q}(hg:Keeps k g)(R1:RS B f G x C)(wk:Walk B.K J xs x)(hx:xs.length<=WL.lim)(Y:WL.dA g tt ta (List.replicate k .no++f) xs≠.bad)(ex:∀c,WL.dA g tt ta (List.replicate k .no++f) xs=.ex c->∀a0 h,aw x h->B.xp c a0 h)(fin:∀all,WL.dA g tt ta (List.replicate k .no++f) xs=.ok all->∀w h n,RB B h n->Gr x C h n->RWs B.K h all w->∀D,n D=none->Q (.ref D) (upd n D (.lst w))):aaf J (loG true B g) (loT B tt) (lo B ta) (List.replicate k none++G) C Q:=by
 refine⟨λi m w q n=>m=xs.length-i/\i<=xs.length/\w.length<=i/\∃h d,RS B (List.replicate k .no++f) q h n/\Gr x C h n/\RWs B.K h d w/\WL.dA g tt ta (List.replicate k .no++f) xs=(WL.dA g tt ta (List.replicate k .no++f) (xs.drop i)).bind λr=>.ok (d++r),⟨xs.length,rfl,apC _,apC _,x,[],R1.ahead k,Gr.refl,by simp[RWs],?_⟩,?_⟩;.rw[aqH];cases WL.dA g tt ta (List.replicate k .no++f) xs<;>rfl
 rintro i m w q n⟨rfl,hi,S,h,d,O,o,rp,a⟩;refine⟨aqZ (apb S (apb hi hx)) (by decide),?_⟩;by_cases s:i<xs.length;.have hd:=apI s;rw[hd]at a;obtain⟨go,yl⟩:=wk.go i xs[i] (apf s) h n o.f O.rb.sub;refine .inr ⟨go,λz E H=>z.length<=i+1/\∃A d,RS B (List.replicate k .no++f) E A H/\Gr x C A H/\RWs B.K A d z/\WL.dA g tt ta (List.replicate k .no++f) xs=(WL.dA g tt ta (List.replicate k .no++f) (xs.drop (i+1))).bind λr=>.ok (d++r),λz E H⟨a1,a2⟩=>⟨xs.length-(i+1),by omega,rfl,s,a1,a2⟩,λv H hy=>?_⟩;refine eM (yl v H hy) λA T r2=>?_;have P:=o.f.trans T.same;simp only[WL.dA]at a;refine agA _ A xs[i] (T.rs _ _ _ O) r2 ?_;cases K:g xs[i] (List.replicate k .no++f)with|bad=>rw[K]at a;exact(Y a).elim|ex c=>rw[K]at a;exact ex c a _ A P|ok σ1=>
   rw[K]at a;obtain⟨kl,kk⟩:=hg _ _ _ K;intro p H3 F3 R3 U;have back:∀{t M:Hp},RS B σ1 p t M->RS B (List.replicate k .no++f) p t M:=λ{t M}N=>N.forget kl.symm λj sl ej ne=>by grind
   have l:=T.gr.trans ⟨U.f,U.h rfl,U.nf⟩;have a:WL.dA g tt ta (List.replicate k .no++f) xs=((tt σ1).bind _).bind λr=>.ok (d++r):=a;refine dI σ1 F3 R3 ?_;cases R:tt σ1 with|bad=>rw[R]at a;exact(Y a).elim|ex c=>rw[R]at a;exact ex c a _ F3 (o.f.trans l.f)|ok b=>rw[R]at a;intro M t N I;cases b with|false=>rw[ao9 apo];exact⟨by omega,t,d,back N,o.trans (l.trans I),rp.keep (l.trans I).f,a⟩|true=>rw[apa rfl];have a:=a;refine dI σ1 t N ?_;cases Z:ta σ1 with|bad=>rw[Z]at a;exact(Y a).elim|ex c=>rw[Z]at a;exact ex c a _ t (o.f.trans (l.trans I).f)|ok y=>rw[Z]at a;intro u H5 F5 R5 g5 r5;refine⟨by rw[apR,arf];omega,F5,d++[y],back R5,o.trans ((l.trans I).trans g5),(rp.keep ((l.trans I).trans g5).f).app (.one r5),?_⟩;rw[a];cases WL.dA g tt ta (List.replicate k .no++f) (xs.drop (i+1))with|ok zs=>show Res.ok _=Res.ok _;rw[List.append_assoc];rfl|ex c|bad=>rfl
 .have ei:i=xs.length:=by omega
  subst ei;rw[aqr]at a;have a:WL.dA g tt ta (List.replicate k .no++f) xs=.ok (d++[]):=a;rw[apE]at a;exact .inl ⟨wk.stop h n o.f O.rb.sub,λD hD=>fin d a w h n O.rb o rp D hD⟩
theorem RS.zr{B' h l F H}(R:RS B h l F H)(hk:B'.K=B.K)(r:B'.H0=H)(p:B'.F0=F):RS B' (WL.zr h) l F H:=by
 have b:∀{i:Nat}{f:Sl},(WL.zr h)[i]?=some f->(∀w,f=.va w->h[i]?=some (.va w))/\(∀ws,f≠.ow ws)/\(∀c d,f≠.od c d)/\(f=.ob->h[i]?=some .ob):=λ{i f}e=>by unfold WL.zr at e;rw[apz]at e;cases n:h[i]? with|none=>rw[n]at e;cases e|some s0=>rw[n]at e;have e:=aps e;subst e;cases s0 with|no=>exact⟨λw z=>(by cases z),λws z=>(by cases z),λc d z=>(by cases z),λz=>by cases z⟩|va w=>exact⟨λs z=>by grind,λws z=>(by cases z),λc d z=>(by cases z),λz=>by cases z⟩|ow ws|od c d=>exact⟨λw z=>(by cases z),λws z=>(by cases z),λc d z=>(by cases z),λz=>by cases z⟩|ob=>exact⟨λw z=>(by cases z),λws z=>(by cases z),λc d z=>(by cases z),λz=>rfl⟩
 refine⟨⟨R.rb.sub,r▸aw.refl _,p▸aw.refl _,λa o e=>.inl (p▸e)⟩,by rw[<-R.len];simp[WL.zr],λi w e=>?_,λi ws e=>((b e).2.1 ws rfl).elim,λi j ws q a _ m=>((b m).2.1 ws rfl).elim,λi c d e=>((b e).2.2.1 c d rfl).elim,λi j c d _ _ a _ m=>((b m).2.2.1 c d rfl).elim,λi e=>R.dd.ob i ((b e).2.2.2 rfl)⟩;rw[hk];exact R.va i w ((b e).1 w rfl)
def ae2{B' f d c H'}(b:RB B' c H')(j:B'.H0=d)(h:B'.F0=f):Gr f d c H':=by subst j h;refine⟨b.fz0,b.base,λa o m i=>?_⟩;cases l:c a with|none=>rfl|some o2=>
 rcases b.fr a _ l with z|z;.rw[i]at z;cases z
 .rw[m]at z;cases z.1
def abp{B' l c f d h H'}(R:RS B l c f d)(b:RB B' h H')(j:B'.H0=d)(i:B'.F0=f):RB B h H':=by
 subst j i;refine⟨b.sub,R.rb.base.trans b.base,R.rb.fz0.trans b.fz0,λa o e=>?_⟩;rcases b.fr a o e with z|z;.exact R.rb.fr a o z
 .exact .inr ⟨R.rb.base.free z.1,z.2⟩
def lZ(d4:X.stack=X.env::X.outer)(d2:X.env.frame=some X.env.locals)(hK:X.K=B.K)(hx:XW X B)(L:CompLook X scope)(hc:X.calm=true)(hk:ts.length=k)(hg:Keeps k g)(hi:PI X tg iter (loI B it))(c8:∀C i j G E A,A.K=X.K->XW ((X.comp scope C ts i j G).tri E []) A->PG ((X.comp scope C ts i j G).tri E []) tg (loG true A g))(c9:∀C i j G E A,A.K=X.K->XW ((X.comp scope C ts i j G).tri E []) A->ady ((X.comp scope C ts i j G).tri E []) ifs (loT A tt))(d0:∀C i j G E A,A.K=X.K->XW ((X.comp scope C ts i j G).tri E []) A->PE ((X.comp scope C ts i j G).tri E []) elt (lo A ta))(hs:∀x,foldedSetIterable iter X.env x=pure x:=by intro _;rfl):PE X (.ListComp elt [⟨tg,iter,ifs,0⟩] scope pos) (lo B (WL.uz k it g tt ta)):=by
 subst hk;intro pins s d H Q I⟨Z,F,R,q⟩;have S:CompScope X scope ts:=L.scope;have a8:closureFor scope X.env=pure (cY X.env.cells scope.names []):=fU λy hy hf=>by obtain⟨c,hc⟩:=I.ok.has y.1 (S.free y hy hf);rw[hc];rfl
 have q:=Rq.bind (Rq.bind q);rw[eval_ListComp];refine aqW (use:=none) rfl hs a8 S.kind S.names (thn (hi pins s d H (λJ H1=>∃F1 xs,RS B Z d F1 H1/\Gr F H F1 H1/\Walk B.K J xs F1/\Rq B Z F (if xs.length<=WL.lim then WL.dA g tt ta (List.replicate ts.length .no++WL.zr Z) xs else .bad) λys=>∀v a u,RS B Z d u a->Gr F H u a->RW B.K u (.lst ys) v->Q v a) I ⟨Z,F,R,Rq.mono (aw.refl _) q λxs N J H1 F1 R1 g1 wk=>⟨F1,xs,R1,g1,wk,?_⟩⟩) λxv s1 h1=>thn h1 λe3 s2 h2=>?_);.exact N
 obtain⟨it,G,tn,J,H2,e,Y,T,d9,f2,F1,xs,R1,g1,wk,N⟩:=h2;subst e;by_cases a7:xs.length<=WL.lim
 .rw[apa a7]at N;let A:Bx:=⟨B.K,H2,F1,λc _ u=>B.xp c Z u,λc _ u c7 sm h=>B.mono c Z u c7 sm h⟩;let EC:Addr->Value->Shared->Prop:=λC v M=>∃(e Ce:Addr)(dx:DX)(fl:Value)(T:Option Addr)(K:L2.St)(a u:Hp)(c:VW),v=.ref e/\Thr (X.comp scope C ts s2 H2 G) [] K a M e Ce dx fl T/\RB A u a/\B.xp c Z u/\XR X.K u c Ce dx;have xw:∀C,XW ((X.comp scope C ts s2 H2 G).tri (EC C) []) A:=λC d7 K a M d8 u c R' xp e Ce dx T fl t xr=>⟨e,Ce,dx,fl,T,K,a,u,c,rfl,Thr.gP (X:=X.comp scope C ts s2 H2 G) (pins:=[]) t,R'.rb,xp,xr⟩;have hW:aaf J (loG true A g) (loT A tt) (lo A ta) (List.replicate ts.length none++d) H2 Q:=by
   refine ac9 hg (R1.zr rfl rfl rfl) wk a7 (λz=>by rw[z]at N;exact N) (λc z d8 u sm=>?_) λall z ys u a rb g' r D hD=>?_;.rw[z]at N;exact B.mono c Z F u (g1.f.trans sm) N
   .rw[z]at N;have P:RB B u a:=abp R1 rb rfl rfl;have R':=R1.grow g' P;exact N (.ref D) _ _ (R'.new hD _) (g1.trans (g'.trans (Gr.new (P.sub.free hD) hD _))) (by simp only[RW];exact⟨D,ys,rfl,SqL.of ah,r.keep (au (P.sub.free hD) _)⟩)
  refine kq (Q:=Q) (RR:=λc6 C=>compPost (model X.prog X.w) X.A X.xe none (EP X pins d Q) c6 C) S EC (λ_ _ _=>hc) (λC=>c8 C s2 H2 G (EC C) A hK.symm (xw C)) (λC=>c9 C s2 H2 G (EC C) A hK.symm (xw C)) (λC=>d0 C s2 H2 G (EC C) A hK.symm (xw C)) Y T d9 f2 hW.c ?_ ?_;.intro C D a M m ys d6 hC hD hn d1 I' q;refine⟨m,hn,λh' a0=>?_⟩;have a6:C≠X.env.locals:=apK (apd Y.lt hC);have e0:Inv X pins d (upd a D (.lst ys)) {M with heap:=h'}:=I'.turned (t':=M.toks) (it:=C) (λb o n e=>(a0.2 b n).trans e) (by rw[ae d6];exact d1) a6 (.inr (apb Y.sz hC)) (λx c e=>by obtain⟨v,q⟩:=Y.cell x c e;exact api (apd q.lt hC)) λp l=>api (apd (ape (Y.pin p l).1) hC);exact⟨.ref D,_,e0,rfl,q⟩
  .rintro C D _ M hC⟨e,Ce,dx,fl,T,K,a,u,c,rfl,t,rb,xp,xr⟩;have J':Inv X pins d a M:=Y.aic (ch:=G) t.inv.os t.inv.base t.inv.hok t.inv.bare λb n=>⟨(f2 b n).2.2.2.1,(f2 b n).2.1,(f2 b n).2.2.2.2.1,(f2 b n).2.2.2.2.2⟩;obtain⟨m,c4,_⟩:=t.inv.loc;obtain⟨U,es,ep,d5,c0⟩:=id c4;have a9:a C=none:=t.inv.free;have a6:C≠X.env.locals:=apK (apd Y.lt hC);have b9:s2.heap.get? C=none:=apW hC;have fC:FpX X pins a C:=Y.fpX b9 a9;have b0:∀v,U.data≠.cell v:=λv z=>by obtain⟨hd,_⟩:=c0;rw[hd]at z;cases z
   have J2:Inv X (pins++[(C,U)]) d a M:=J'.hT λp l=>by
    rcases aqu.mp l with l|l;.exact J'.pin p (apm _ l)
    .obtain rfl:p=(C,U):=by simpa using l
     exact⟨d5,a9,a6,fC.2.2.1,b0⟩
   have O:∀b,FpX (X.comp scope C ts s2 H2 G) [] a b->FpX X pins a b/\b≠C:=λb z=>by
    refine⟨?_,z.2.1⟩;rcases z.2.2.2.1 with n|n;.have f:=f2 b n;exact⟨z.1,f.2.1,f.2.2.1,f.2.2.2.1.imp (λw=>w) λw=>apW w,f.2.2.2.2.1,f.2.2.2.2.2⟩
    .exact Y.fpX n z.1
   have c5:∀b,FpX X pins a b->b≠C->FpX X (pins++[(C,U)]) a b:=λb z ne=>⟨z.1,z.2.1,z.2.2.1,z.2.2.2.1,z.2.2.2.2.1,λp l=>by
    rcases aqu.mp l with l|l;.exact z.2.2.2.2.2 p (apH _ l)
    .rcases aqu.mp l with l|l;.exact z.2.2.2.2.2 p (apm _ l)
     .obtain rfl:p=(C,U):=by simpa using l
      exact aph ne⟩;have te:=O e t.fe;have t1:Thr X (pins++[(C,U)]) d a M e Ce dx fl T:=⟨J2,t.trc,c5 e te.1 te.2,λb n=>c5 b (O b (t.fT b n)).1 (O b (t.fT b n)).2⟩;refine t1.note d4 d2 λb8 T1 fl1 t2=>?_;have pC:=(t2.inv.pin (C,U) (by simp)).1;refine⟨m,⟨U,es,ep,pC,c0⟩,λh' a0 e1 _=>?_⟩;have drop:∀b,FpX X (pins++[(C,U)]) a b->FpX X pins a b/\b≠C:=λb z=>⟨⟨z.1,z.2.1,z.2.2.1,z.2.2.2.1,z.2.2.2.2.1,λp l=>by
    rcases aqu.mp l with l|l;.exact z.2.2.2.2.2 p (apH _ l)
    .exact z.2.2.2.2.2 p (apm _ (apH _ l))⟩,λw=>z.2.2.2.2.2 (C,U) (by simp) w.symm⟩;have J3:Inv X pins d a {M with heap:=b8}:=t2.inv.hT λp l=>t2.inv.pin p (apm _ (apH _ l));have J4:Inv X pins d a {M with heap:=h'}:=Inv.turned (s:={M with heap:=b8}) (t':=M.toks) (it:=C) J3 (λb o n e=>(a0.2 b n).trans e) a9 a6 (.inr (apb Y.sz hC)) fC.2.2.2.2.1 fC.2.2.2.2.2;have t3:Thr X pins d a {M with heap:=h'} e Ce dx fl1 (some T1):=⟨J4,t2.trc.keeps λb o n q=>(a0.2 b (by
    rcases n with rfl|n;.exact(drop _ t2.fe).2
    .exact(drop b (t2.fT b n)).2)).trans q,(drop e t2.fe).1,λb n=>(drop b (t2.fT b n)).1⟩;refine t3.pass λe2 d3 t4=>?_;have P:RB B u a:=abp R1 rb rfl rfl;exact hx pins d a _ Z u c (R1.grow (ae2 rb rfl rfl) P) xp e Ce dx (some T1) d3 t4 xr
 .rw[ao9 a7]at N;exact(N).elim
end
section
variable{X:Cx}{B:Bx}{ta:EF}
def aaC{a:Expr}{p m pos b:Pos}(hK:X.K=B.K)(P:X.calm=true)(U:Gl X "list")(T:X.mg "list"=none)(A:Gl X "range")(D:X.mg "range"=none)(h:PE X a (lo B ta))(Y:starEach [a] X.env=[(false,eval a X.env)]:=by rfl)(o:starEach [a] X.env=(false,eval a X.env)::starEach [] X.env:=by rfl)(O:("list":Str)≠"__name__":=by decide)(C:(("list":Str)==("__debug__":Str))=false:=by decide)(G:starEach [Expr.Call (.Name "range" m) [a] [] b] X.env=(false,eval (.Call (.Name "range" m) [a] [] b) X.env)::starEach [] X.env:=by rfl)(u:BT X pos []:=by rfl):PE X (.Call (.Name "list" p) [.Call (.Name "range" m) [a] [] b] [] pos) (lo B (WL.eLR ta)):=PE.imp (jD (rZ P) U T boot_list (aP (abF A D (ag h bB o) Y) cu G) O C G u) λE H Q t=>by
  obtain⟨d,F,R,q⟩:=t;have q:=Rq.bind q;have S:Rq B d F (WL.aa ta WL.aq d) λws=>∀k f g,RS B d E g f->Gr F H g f->RWs B.K g ws k->∃j:Int,k=[.int j]/\-2^62<=j/\j<2^62/\∀r,f r=none->∃(J:Addr)(n:Nat),[V.ref r]=[V.ref J]/\upd f r (.rng 0 j) J=some (.rng 0 n)/\n<=1000/\∀l,upd f r (.rng 0 j) l=none->Q (.ref l) (upd (upd f r (.rng 0 j)) l (.lst ((List.range n).map λi=>V.int (i:Nat)))):=by show Rq B d F ((ta d).bind λx=>.ok [x]) _;cases e:ta d with
 |ok x=>
    rw[e]at q;intro k Z F1 I N r1;obtain⟨v,rfl,M⟩:=cw r1
    cases x with|int j=>
     simp only[RW]at M;subst M;have q:Rq B d F (if 0<=j/\j<=1000 then Res.ok (WL.W.lst (WL.rng 0 j.toNat))else .bad) _:=q;by_cases K:0<=j/\j<=1000
     .rw[apa K]at q;refine⟨j,rfl,by omega,by omega,λr w=>⟨r,j.toNat,rfl,?_,by omega,λl s=>?_⟩⟩;.rw[ah];congr 2;omega
      .have z:=I.rb.sub.free w;have R2:=I.new w (.rng 0 j);have y:=R2.rb.sub.free s;refine q (.ref l) _ _ (R2.new s _) ((N.trans (Gr.new z w _)).trans (Gr.new y s _)) ?_;simp only[RW];refine⟨l,_,rfl,SqL.of ah,?_⟩;have go:∀(g:Hp)(is:List Nat),RWs B.K g (is.map λi=>WL.W.int (0+(i:Nat))) (is.map λi=>V.int (i:Nat)):=λg is=>by induction is with|nil=>simp[RWs]|cons i is ih=>simp only[apA,RWs,RW];exact⟨_,_,rfl,by simp,ih⟩
       exact go _ _
     .rw[ao9 K]at q;exact q.elim|_=>exact(show False from q).elim
 |ex c=>rw[e]at q;exact q|bad=>rw[e]at q;exact q
  exact⟨d,F,R,S⟩
end
structure FunD(K:W.Frag)(x qual:Str)(st:Stmt)(f:Addr)(fd:FuncData)(dV:Value):Prop where ex:∃(oc:Value)(od:Option Addr)(kV doc pm:Value)(an:Option Addr)(cdv ct:Value)(osl:Array (Option Value)),fd=W.fnOf x qual (bf st) (aF st) (ak st) dV kV doc pm an cdv ct/\K.lookup f=some ⟨oc,od,.func fd,osl⟩/\W.codeIn K cdv qual=true
section
variable{P:Program}{w:World}{K:W.Frag}{mg:Str->Option Value}{base:Heap}
def ahR{x a st f j i od e g kV d h b ct}(l:K.lookup f=some ⟨j,od,.func (W.fnOf x a (bf st) (aF st) (ak st) i kV d h e b ct),g⟩)(c:W.codeIn K b a=true):FunD K x a st f (W.fnOf x a (bf st) (aF st) (ak st) i kV d h e b ct) i:=⟨j,od,kV,_,h,e,_,ct,_,rfl,l,c⟩
def FunD.binds{x a st f T l ps ds o items n}(F:FunD K x a st f l (.ref T))(t:K.lookup T=some o)(v:o.data=.seq items n)(h:∀kV b j i c ct d,(d++ds).length=ps.length->∃k,bindArgs (W.fnOf x a (bf st) (aF st) (ak st) (.ref T) kV b j i c ct) ⟨d,[]⟩=seqItems? (.ref T)>>=k/\k (some items)=pure (ps.zip (d++ds))):Binds K l ps ds:=by refine afy F.ex λy od kV b j i c ct r g z p=>?_;subst g;intro s d e m;obtain⟨k,q,u⟩:=h _ _ _ _ _ _ _ m;exact BindsTo.of_defaults rfl (e _ _ t) v q u
def yA{x b st f R dV N ps k m n}{Y:List VW->Res VW}(t)(Fn:FunD K x b st f R dV)(S:FnScope N ps (ak st))(hn:N.length=n)(g:ps.length=m)(y:WL.run n t=Y)(a6:ps.length<=N.length)(h:∀d A a s H E B,B.K=K->Room k (A.deeper (envOfC b (ak st) s.heap.objs.size f d))->XW (fB (CXX P w) P w K mg base N b (ak st) f d A a s H E) B->PassesOwn (model P w) (fB (CXX P w) P w K mg base N b (ak st) f d A a s H E).A (fB (CXX P w) P w K mg base N b (ak st) f d A a s H E).env (fB (CXX P w) P w K mg base N b (ak st) f d A a s H E).xe->PSs (fB (CXX P w) P w K mg base N b (ak st) f d A a s H E) (aF st) (loS B t)):FnOk P w K mg base (CXX P w) (k+1) f R ps (spX K m Y):=by subst hn g y;refine afy Fn.ex λoc od kV a0 pm an d ct a7 z lk J=>?_;subst z;refine rB lk J S (λvs H Q E o=>by refine oE o λF ws _ r M _=>?_;rw[<-r.length];exact M) λA a s H vs Q E hr _ o=>?_;refine oE o λF ws sm r M g=>?_;let X:Bx:=⟨K,H,F,λ_ _ _=>False,λ_ _ _ _ _ h=>h⟩;let B1:Bx:=X.oG (λc _ u=>∀C l j i,aw u i->RB X i j->XR K i c C l->E (.ref C) l j) λc σ u F2 s h C l j i p=>h C l j i (s.trans p);refine⟨_,h d A a s H E B1 rfl hr (λO a8 H1 s1 σ u c Z xp e C l T fl t G=>je t (xp C l H1 u (aw.refl _) (Z.rb.box rfl rfl) G)) aqD,_,F,(RS.start sm r (by omega)).box (B':=B1) rfl rfl rfl,?_⟩;unfold WL.run at g;cases e:t _ with|rt w=>rw[e]at g;exact λv j i q p I=>g v j i p q.sub q.base q.fr I|nx σ'=>rw[e]at g;exact λU j i D p=>g .non j i p D.rb.sub D.rb.base D.rb.fr (by simp[RW])|bk σ'|ct σ'=>rw[e]at g;exact g.elim|ex c σ'=>rw[e]at g;exact λC l j i p q G=>g C l j i p q.sub q.base q.fr G|bad=>rw[e]at g;exact g.elim
end
section
variable{P:List Value->Prop}
def us0(h:P []):∀a,a.length=0->P a:=λa e=>by grind
def us1(h:∀c,P [c]):∀b,b.length=1->P b:=λb e=>by cases b with|nil=>cases e|cons a t=>exact us0 (P:=λt=>P _) (h a) t (asj e)
def us2(h:∀c a1,P [c,a1]):∀b,b.length=2->P b:=λb e=>by cases b with|nil=>cases e|cons a t=>exact us1 (P:=λt=>P _) (λa1=>h a _) t (asj e)
def us3(h:∀c a1 a2,P [c,a1,a2]):∀b,b.length=3->P b:=λb e=>by cases b with|nil=>cases e|cons a t=>exact us2 (P:=λt=>P _) (λa1 a2=>h a _ _) t (asj e)
def us4(h:∀c a1 a2 a3,P [c,a1,a2,a3]):∀b,b.length=4->P b:=λb e=>by cases b with|nil=>cases e|cons a t=>exact us3 (P:=λt=>P _) (λa1 a2 a3=>h a _ _ _) t (asj e)
end
def AtD(K:W.Frag)(nm:Str)(st:Stmt):Prop:=∃(f:Addr)(a:FuncData),Fun K nm nm st f a/\W.nsIn K mainGlobals nm=some (some (.ref f))
def AtE(K:W.Frag)(nm:Str)(st:Stmt)(ds:Array Value):Prop:=∃(f T:Addr)(b:FuncData)(d:Option Addr)(n:Nat)(a:Array (Option Value)),FunD K nm nm st f b (.ref T)/\W.nsIn K mainGlobals nm=some (some (.ref f))/\W.keepIn K (.ref f)=true/\K.lookup T=some ⟨.type "tuple",d,.seq ds n,a⟩
def Cal(P:Program)(w:World)(K:W.Frag)(c:Str->Option Value)(a:Heap)(CX:CXT)(k:Nat)(nm:Str)(ps:List Str)(ds:List Value)(sp:Sp):Prop:=∃(f:Addr)(b:FuncData),FnOk P w K c a CX k f b ps sp/\c nm=some (.ref f)/\W.keepIn K (.ref f)=true/\Binds K b ps []/\Binds K b ps ds
section
variable{P:Program}{w:World}{K:W.Frag}{mg:Str->Option Value}{base:Heap}{CX:CXT}{k:Nat}{nm:Str}{ps:List Str}{sp:Sp}{st:Stmt}
def ani{f h od i e kV d g b ct}(a:W.nsIn K mainGlobals nm=some (some (.ref f)))(l:K.lookup f=some ⟨h,od,.func (W.fnOf nm nm (bf st) (aF st) (ak st) .none kV d g i b ct),e⟩)(c:W.codeIn K b nm=true)(q:W.keepIn K (.ref f)=true):AtD K nm st:=⟨f,_,uq l c q,a⟩
def ak0{f T j od h d g sl kV e i b ct ds n}(a:W.nsIn K mainGlobals nm=some (some (.ref f)))(l:K.lookup f=some ⟨j,od,.func (W.fnOf nm nm (bf st) (aF st) (ak st) (.ref T) kV e i h b ct),g⟩)(c:W.codeIn K b nm=true)(q:W.keepIn K (.ref f)=true)(t:K.lookup T=some ⟨.type "tuple",d,.seq ds n,sl⟩):AtE K nm st ds:=⟨f,T,_,d,n,sl,ahR l c,a,q,t⟩
def AtD.cal(D:AtD K nm st)(j:∀nm v,W.nsIn K mainGlobals nm=some (some v)->mg nm=some v)(g:∀kV e i l d ct c,c.length=ps.length->bindArgs (W.fnOf nm nm (bf st) (aF st) (ak st) .none kV e i l d ct) ⟨c,[]⟩=pure (ps.zip c))(h:∀f b,Fun K nm nm st f b->FnOk P w K mg base CX k f b ps sp):Cal P w K mg base CX k nm ps [] sp:=by obtain⟨f,b,F,a⟩:=D;exact⟨f,b,h f _ F,j _ _ a,F.kp,F.binds g,F.binds g⟩
def AtE.cal{ds}(D:AtE K nm st ds.toArray)(o:∀nm v,W.nsIn K mainGlobals nm=some (some v)->mg nm=some v)(p:∀T kV b j i e ct c,(c++[]).length=ps.length->∃k,bindArgs (W.fnOf nm nm (bf st) (aF st) (ak st) (.ref T) kV b j i e ct) ⟨c,[]⟩=seqItems? (.ref T)>>=k/\k (some ds.toArray)=pure (ps.zip (c++[])))(l:∀T kV b j i e ct c,(c++ds).length=ps.length->∃k,bindArgs (W.fnOf nm nm (bf st) (aF st) (ak st) (.ref T) kV b j i e ct) ⟨c,[]⟩=seqItems? (.ref T)>>=k/\k (some ds.toArray)=pure (ps.zip (c++ds)))(h:∀f g m,FunD K nm nm st f g m->FnOk P w K mg base CX k f g ps sp):Cal P w K mg base CX k nm ps ds sp:=by obtain⟨f,T,g,d,n,r,F,a,q,t⟩:=D;exact⟨f,g,h f _ _ F,o _ _ a,q,F.binds t rfl (p T),F.binds t rfl (l T)⟩
end
section
variable{X:Cx}{B:Bx}{k j:Nat}{ps:List Str}{ds:List Value}{fn:List VW->Res VW}{x:Str}{p pos:Pos}{e:Expr}{es:List Expr}{tas:AF}{n:Nat}
def cl(l:B.K=X.K)(r:Room j X.A)(C:Cal X.prog X.w X.K X.mg X.base CX0 k x ps ds (spW X.K n fn))(d:PA X (e::es) (loA B tas))(hk:k<=j:=by decide)(i:∀h ws,tas h=.ok ws->ws.length=n:=by repeat first|exact oq|apply ir)(o:Gl X x:=by rfl)(a:Dbg x:=by decide)(g:SE X e es:=by rfl)(c:BT X pos es:=by rfl):PE X (.Call (.Name x p) (e::es) [] pos) (lo B (WL.aH fn tas)):=by refine oA C λf s G m q b _=>?_;exact agX l.symm G (r.mono hk) o m q b d i a g c
def cl0(c:B.K=X.K)(g:Room j X.A)(C:Cal X.prog X.w X.K X.mg X.base CX0 k x ps ds (spW X.K 0 fn))(hk:k<=j:=by decide)(d:Gl X x:=by rfl)(a:Dbg x:=by decide):PE X (.Call (.Name x p) [] [] pos) (lo B (WL.aH fn WL.aq)):=by obtain⟨f,h,G,m,q,b,_⟩:=C;exact adZ c.symm G (g.mono hk) d m q b a
def clX(o:B.K=X.K)(s:Room j X.A)(h:XW X B)(C:Cal X.prog X.w X.K X.mg X.base (CXX X.prog X.w) k x ps ds (spX X.K n fn))(d:PA X (e::es) (loA B tas))(hk:k<=j:=by decide)(l:∀i ws,tas i=.ok ws->ws.length=n:=by repeat first|exact oq|apply ir)(r:Gl X x:=by rfl)(a:Dbg x:=by decide)(g:SE X e es:=by rfl)(c:BT X pos es:=by rfl):PE X (.Call (.Name x p) (e::es) [] pos) (lo B (WL.aM fn tas)):=by refine oA C λf t G m q b _=>?_;exact adY o.symm h G (s.mono hk) r m q b d l a g c
end
def akV{a}{ps:List Str}(h:bindArgs a ⟨[],[]⟩=pure (ps.zip []))(us)(e:us.length=0):bindArgs a ⟨us,[]⟩=pure (ps.zip us):=by grind
def bind1{b}{ps:List Str}(h:∀a,bindArgs b ⟨[a],[]⟩=pure (ps.zip [a]))(us)(e:us.length=1):bindArgs b ⟨us,[]⟩=pure (ps.zip us):=us1 (P:=λus=>bindArgs _ ⟨us,[]⟩=pure _) h _ e
def aac{b}{ps:List Str}(h:∀a a1,bindArgs b ⟨[a,a1],[]⟩=pure (ps.zip [a,a1]))(us)(e:us.length=2):bindArgs b ⟨us,[]⟩=pure (ps.zip us):=us2 (P:=λus=>bindArgs _ ⟨us,[]⟩=pure _) h _ e
def wG{b}{ps:List Str}(h:∀a a1 a2,bindArgs b ⟨[a,a1,a2],[]⟩=pure (ps.zip [a,a1,a2]))(us)(e:us.length=3):bindArgs b ⟨us,[]⟩=pure (ps.zip us):=us3 (P:=λus=>bindArgs _ ⟨us,[]⟩=pure _) h _ e
def akU{b}{ps:List Str}(h:∀a a1 a2 a3,bindArgs b ⟨[a,a1,a2,a3],[]⟩=pure (ps.zip [a,a1,a2,a3]))(us)(e:us.length=4):bindArgs b ⟨us,[]⟩=pure (ps.zip us):=us4 (P:=λus=>bindArgs _ ⟨us,[]⟩=pure _) h _ e
def ud2{b T it ds}{ps:List Str}(h:∀a a1,∃k,bindArgs b ⟨[a,a1],[]⟩=seqItems? (.ref T)>>=k/\k (some it)=pure (ps.zip ([a,a1]++ds)))(us)(e:us.length=2):∃k,bindArgs b ⟨us,[]⟩=seqItems? (.ref T)>>=k/\k (some it)=pure (ps.zip (us++ds)):=us2 (P:=λus=>∃k,bindArgs _ ⟨us,[]⟩=seqItems? _ >>=k/\k _=pure (ps.zip (us++ds))) h _ e
def ud3{b T it ds}{ps:List Str}(h:∀a a1 a2,∃k,bindArgs b ⟨[a,a1,a2],[]⟩=seqItems? (.ref T)>>=k/\k (some it)=pure (ps.zip ([a,a1,a2]++ds)))(us)(e:us.length=3):∃k,bindArgs b ⟨us,[]⟩=seqItems? (.ref T)>>=k/\k (some it)=pure (ps.zip (us++ds)):=us3 (P:=λus=>∃k,bindArgs _ ⟨us,[]⟩=seqItems? _ >>=k/\k _=pure (ps.zip (us++ds))) h _ e
def cm{k}{A:Around}{a}(r:Room k (A.deeper a))(h:40<=k:=by first|decide|omega|exact apb (show 40<=_ by decide) (asl _ _)):A.handled.isNone=true:=r.calm h
section
variable{X:Cx}{B:Bx}{a b e:Expr}{ta tb:EF}{pos:Pos}{x:Str}
def va(i)(g:X.N[i]?=some x:=by rfl)(d:Vis X.env.scope x:=by first|exact Or.inl rfl|exact Or.inr (Or.inl rfl)|exact Or.inr (Or.inr rfl))(f:Dbg x:=by decide)(c:(x=="__classdict__")=false:=by decide):PE X (.Name x pos) (lo B (WL.ai i)):=aiP (pv i g d f c)
def wx(d:B.K=X.K)(c:PE X a (lo B ta))(f:PE X b (lo B tb))(g:ju b:=by exact λ_ _=>rfl):PE X (.Subscript a b pos) (lo B (WL.eOp WL.oIx ta tb)):=agT wC (alS d.symm) c f g
def wk{v u w}(g:B.K=X.K)(c:X.mg x=some u)(r:RelV v u)(hw:∀F,RW X.K F w v)(f:Gl X x:=by rfl)(d:Dbg x:=by decide):PE X (.Name x pos) (lo B (WL.eC w)):=agY (qM f c r d) (by grind)
def wty{T}(g:X.mg x=none)(c:bootBuiltins x=some (.type T))(f:Gl X x:=by rfl)(h:x≠"__name__":=by decide)(d:Dbg x:=by decide):PE X (.Name x pos) (lo B (WL.eC (.ty T))):=agY (amq f g c h d) λ_=>rfl
def wcl{nm:String}{C:Addr}(h:B.K=X.K)(c:X.mg x=some (.ref C))(g:ExcAt X.K nm C)(f:Gl X x:=by rfl)(d:Dbg x:=by decide):PE X (.Name x pos) (lo B (WL.eC (.cls nm))):=aiS h.symm f c g d
def gx{i c a0 kvs}{ks vs:List VW}{p}(d:B.K=X.K)(h:X.mg x=some (.ref a0))(D:adA X.w X.K a0 kvs)(f:∀F k w,WL.rT k ks vs=some w->∃v,kvs.lookup k=some v/\RW X.K F w v)(g:PE X i (lo B c))(l:Gl X x:=by rfl)(m:ju i:=by exact λ_ _=>rfl)(j:Dbg x:=by decide):PE X (.Subscript (.Name x p) i pos) (lo B (WL.eOp WL.oIx (WL.eC (.dic ks vs)) c)):=aiR d.symm (qM l h rfl j) D g (by rw[d];exact f) m
def we2(g:B.K=X.K)(d:X.A.units+64<cLine)(c:PE X a (lo B ta))(f:PE X b (lo B tb)):PT X (.Compare a [.Eq] [b] pos) (loT B (WL.tB (WL.eOp WL.oEq ta tb))):=bc calm_eq (w_eq g.symm d) c f (bz _)
def wn2(g:B.K=X.K)(d:X.A.units+64<cLine)(c:PE X a (lo B ta))(f:PE X b (lo B tb)):PT X (.Compare a [.NotEq] [b] pos) (loT B (WL.tB (WL.eOp WL.oNe ta tb))):=bc aib (aiV g.symm d) c f (bz _)
def wS(i){c}(f:X.N.Nodup)(d:PE X e (lo B ta))(g:X.N[i]?=some x:=by rfl)(j:Loc X.env.scope x:=by first|exact Or.inl rfl|exact Or.inr rfl)(k:swapsWith e (some (.Name x c)) pos.line X.env=pure false:=by rfl)(h:FL X x:=by first|exact .inl rfl|exact .inr rfl|assumption):PS X (.Assign [.Name x c] e pos) (loS B (WL.bh i ta)):=aiJ f g j d k h
def gN(i){b}(c:X.N.Nodup:=by exact x6 rfl)(d:X.N[i]?=some x:=by rfl)(g:Loc X.env.scope x:=by first|exact Or.inl rfl|exact Or.inr rfl)(f:FL X x:=by first|exact .inl rfl|exact .inr rfl|assumption):PG X (.Name x pos) (loG b B (WL.aN i)):=agR (j4 c d g f)
end
section
variable{X:Cx}{B:Bx}{r:List VW->Res VW}{tas:AF}{x:Str}{e:Expr}{es:List Expr}{p pos:Pos}{id:String}
def wB(cm:∀k c,r k≠.ex c)(i:bP X (.builtin id) (loN B.K r))(h:X.mg x=none)(d:bootBuiltins x=some (.builtin id))(f:PA X (e::es) (loA B tas))(j:Gl X x:=by rfl)(l:x≠"__name__":=by decide)(a:Dbg x:=by decide)(g:SE X e es:=by rfl)(b:BT X pos es:=by rfl):PE X (.Call (.Name x p) (e::es) [] pos) (lo B (WL.eBi r tas)):=aiU cm (xR i j h d f l a g b)
def wT(cm:∀k c,r k≠.ex c)(i:bP X (.type id) (loN B.K r))(h:X.mg x=none)(d:bootBuiltins x=some (.type id))(f:PA X (e::es) (loA B tas))(j:Gl X x:=by rfl)(l:x≠"__name__":=by decide)(a:Dbg x:=by decide)(g:SE X e es:=by rfl)(b:BT X pos es:=by rfl):PE X (.Call (.Name x p) (e::es) [] pos) (lo B (WL.eBi r tas)):=aiU cm (jD i j h d f l a g b)
def aiC(P:Program)(w:World)(K:W.Frag)(c:Str->Option Value)(a:Heap)(fI:Addr)(ps:List Str)(sp:Sp):Prop:=∃b:FuncData,FnOk P w K c a CX0 1 fI b ps sp/\Binds K b ps []
def rI{j C fI ps nm np c}(n:B.K=X.K)(u:Room j X.A)(i:XW X B)(o:X.calm=true)(l:X.mg x=some (.ref C))(q:jv X.K C (some (.ref fI)))(d:W.typeIn X.K (.ref fI)=some (.type "function"))(I:aiC X.prog X.w X.K X.mg X.base fI ps (spI C (WL.fieldsOf nm)))(k:ExcAt X.K nm C)(g:PA X (e::es) (loA B tas))(v:2<=j:=by decide)(t:Gl X x:=by rfl)(m:(WL.fieldsOf nm).length<=50:=by decide)(f:nm≠"Broken":=by decide)(s:Dbg x:=by decide)(h:SE X e es:=by rfl)(a:BT X c es:=by rfl):PS X (.Raise (some (.Call (.Name x np) (e::es) [] c)) none pos) (loS B (WL.vh nm tas)):=by obtain⟨w,F,b⟩:=I;exact aay f n.symm i o t l q d F (u.mono v) b k m g s h a
end
section
variable{K:W.Frag}
def afT{a d n sl vs xs}(l:K.lookup a=some ⟨.type "tuple",d,.seq vs n,sl⟩)(b:Vals xs vs.toList)(c:vs.size<=sizeLine):∀H,SqT K H a xs:=λ_=>.inr ⟨_,_,_,l,rfl,rfl,c,b⟩
def akq{f a st i od g e kV d h b ct}(l:K.lookup f=some ⟨i,od,.func (W.fnOf "__init__" a (bf st) (aF st) (ak st) .none kV d h g b ct),e⟩)(c:W.codeIn K b a=true)(q:W.keepIn K (.ref f)=true):∃j,Fun K "__init__" a st f j:=⟨_,uq l c q⟩
def acr{P w i b f a st ps sp}(D:∃c,Fun K "__init__" a st f c)(l:∀kV d k j g ct e,e.length=ps.length->bindArgs (W.fnOf "__init__" a (bf st) (aF st) (ak st) .none kV d k j g ct) ⟨e,[]⟩=pure (ps.zip e))(h:∀c,Fun K "__init__" a st f c->FnOk P w K i b CX0 1 f c ps sp):aiC P w K i b f ps sp:=by obtain⟨c,F⟩:=D;exact⟨c,h _ F,F.binds l⟩
def ae8{nm a}(b:W.nsIn K mainGlobals (Str.ofString nm)=some (some (.ref a)))(c:W.typeIn K (.ref a)=some (.type "type"))(d:(W.clsIn K a).map (·.mro)=some (.ref a::gy))(e:W.findIn K (.ref a) "__getattribute__"=some (some (.builtin "BaseException.__getattribute__")))(f:W.findIn K (.ref a) "__getattr__"=some none)(g:W.findIn K (.ref a) "__class__"=some (some (.builtin "object.__class__"))):W.nsIn K mainGlobals (Str.ofString (nm,a).1)=some (some (.ref (nm,a).2))/\Exc1 K a (nm,a).2:=⟨b,c,.inl ⟨d,rfl⟩,e,f,g⟩
def ahY{nm a b}(h:W.nsIn K mainGlobals (Str.ofString nm)=some (some (.ref a)))(c:W.typeIn K (.ref a)=some (.type "type"))(d:(W.clsIn K a).map (·.mro)=some (.ref a::.ref b::gy))(e:W.findIn K (.ref a) "__getattribute__"=some (some (.builtin "BaseException.__getattribute__")))(f:W.findIn K (.ref a) "__getattr__"=some none)(g:W.findIn K (.ref a) "__class__"=some (some (.builtin "object.__class__"))):W.nsIn K mainGlobals (Str.ofString (nm,a).1)=some (some (.ref (nm,a).2))/\Exc1 K b (nm,a).2:=⟨h,c,.inr d,e,f,g⟩
end
def aj9{P w K g k m st o ps}(D:AtD K "law" st)(A:∀r v,W.nsIn K mainGlobals r=some (some v)->g r=some v)(j:g "law"=some (.ref o)){x}(z:∀kV d q p i ct v,bindArgs (W.fnOf "law" "law" (bf st) (aF st) (ak st) .none kV d q p i ct) ⟨[v],[]⟩=pure [(x,v)])(h:∀b f c,Fun K "law" "law" st f c->FnOk P w K g b CX0 k f c ps (spW K 1 m))(t:∀n:List Int,n.length<=63->m [.lst (n.map .int)]=.ok (.bl true)):∃c,(∀s v,BindsTo s c ⟨[v],[]⟩ [(x,v)])/\∀b,K.In b->b.Ns mainGlobals g->FnOk P w K g b CX0 k o c ps (aa6 K):=by refine dv D λf c F a=>?_;have e:=j.symm.trans (A _ _ a);cases e;refine⟨c,λs v=>?_,λb _ _=>aj8 (h _ _ _ F) t⟩;refine afy F.ex λB od kV d q p i ct y l C u=>?_;subst l;exact .of_eq (z _ _ _ _ _ _ v)
noncomputable def noL(K:W.Frag):Bool:=K.all λp=>match p.2.cls with|.type n=>n !="list"|_=>true
theorem agc:∀{K:W.Frag},noL K=true->∀{a:Addr}{o:Obj},K.lookup a=some o->o.cls≠.type "list"
|[],_,a,o,e=>by simp at e|(b,u)::K,h,a,o,e=>by
 simp only[noL,arb,apk]at h;rw[apL]at e;split at e;.cases e;intro z;have c:=h.1;rw[z]at c;simp at c
 .exact agc h.2 e
def SqL.here{K:W.Frag}{F:Hp}{a:Addr}{vs:List V}(h:noL K=true)(q:SqL K F a vs):Rd F a (.lst vs):=by
 rcases q with q|⟨o,c,n,d,b,_⟩;.exact q
 .exact absurd b (agc h d)
section
variable{B:Bx}{σ:Ws}{σV:L2.St}{F H:Hp}
def RS.away(R:RS B σ σV F H){a:Addr}(o:HO)(k:F a=none)(t:B.H0 a=none)(p:∀(j:Nat)(ws:List VW),σ[j]?=some (Sl.ow ws)->σV[j]?≠some (some (V.ref a)))(g:∀(j:Nat)(d f:List VW),σ[j]?=some (Sl.od d f)->σV[j]?≠some (some (V.ref a))):RS B σ σV F (upd H a o):=by
 refine⟨⟨λb u e=>?_,λb u e=>?_,R.rb.fz0,R.rb.fr⟩,R.len,R.va,λj ws e=>?_,R.ap,R.dd.via rfl id (λ_ _ z=>.inl z) (λ_ _ _ e=>⟨e,rfl⟩) (aw.refl _) λj d f b s m q q1 q2 q3=>⟨q2,q3,by
  have c:b≠a:=λz=>by subst z;exact g j d f m q
  rw[ae c];exact q1⟩⟩
 .have c:b≠a:=λz=>by subst z;rw[k]at e;cases e
  rw[ae c];exact R.rb.sub b u e
 .have c:b≠a:=λz=>by subst z;rw[t]at e;cases e
  rw[ae c];exact R.rb.base b u e
 .obtain⟨b,l,h,v,n,i,r⟩:=R.ow j ws e;have c:b≠a:=λz=>by subst z;exact p j ws e h
  exact⟨b,l,h,v,n,by rw[ae c];exact i,r⟩
end
end WS
namespace WS
open PySem PySem.Spec PyProof.Rows L2 PySem.Builtin PySem.Builtin.Str
open WL(Res Sl Ws EF TF AF LF GF GsF SF Out OX RF Rn AXF Dk XE XT)
section
variable{X:Cx}{B:Bx}{K:W.Frag}
def fX:Calm WL.qX:=λx y c h=>by
 unfold WL.qX at h;split at h;.split at h<;>cases h
 .cases h
set_option tactic.hygienic true in
def vc:OpR X (binaryOp .Add) (lo2 K WL.qX):=by intro d s k H x y v u Q I h i⟨F,wx,g,l,r1,r2,q⟩;cases e:WL.qX wx g with|bad|ex c=>rw[e]at q;exact q.elim|ok w=>
  rw[e]at q;unfold WL.qX at e;split at e
  .split at e;.rename_i a b f;cases e;subst r1 r2;obtain⟨t,rfl⟩:=h;obtain⟨m,rfl⟩:=i;exact PyProof.Rows.add_str (λj tk=>iH (.str (a++b)) H (I.tok tk) ⟨_,rfl⟩ (eq1 q (rfl))) (apb f cH)
   .cases e
  .cases e
def aj6(K:W.Frag)(r:VW->List VW->Res VW):V->List V->Hp->VK->Prop:=λx a H Q=>∃F w ws,aw F H/\RW K F w x/\RWs K F ws a/\Eq1 F H K (r w ws) Q
def qv{e j tas r}(cm:∀w ws c,r w ws≠.ex c)(h:PE X e (tBM X.K "str" (aj6 B.K r) (lo B j) (loA B tas))):PE X e (lo B (WL.me "str" r j tas)):=PE.imp h λf H Q d=>by refine dv d λb F R q=>?_;have q:=Rq.bind q;refine dI b F R (Rq.mono (aw.refl _) q λw i v t l m g r1=>?_);cases w with
|str x=>subst r1;refine⟨rfl,b,l,m,Rq.mono g.f (Rq.bind i) λws a y u k R2 n r2=>?_⟩;refine r9 k (.str x) ws R2.rb.sub (by simp[RW]) r2 ?_;cases em:r (.str x) ws with|bad=>rw[em]at a;exact a.elim|ex c=>exact absurd em (cm _ _ c)|ok z=>rw[em]at a;exact λv s o ex p=>a v o s (ex.rs B b f R2) ((g.trans n).trans ex.gr) p
|_=>exact(i).elim
theorem sA:∀tk a,Vals (a.map V.str) (strsFrom tk a)|_,[]=>.nil|tk,y::a=>.cons ⟨tk,rfl⟩ (sA _ _)
theorem l6{F}:∀a:List Str,RWs K F (a.map WL.W.str) (a.map V.str)|[]=>rfl|y::a=>by exact⟨_,_,rfl,rfl,l6 _⟩
def z8:∀w ws c,WL.fq w ws≠.ex c:=λw ws c h=>by
 unfold WL.fq at h;split at h;.split at h<;>cases h
 .cases h
set_option tactic.hygienic true in
def aeF:MtR X "str.split" (aj6 K WL.fq):=by intro f s A H x J v M Q I E j⟨F,w,ws,m,r1,r2,q⟩;cases e:WL.fq w ws with|bad|ex c=>rw[e]at q;exact q.elim|ok z=>
  rw[e]at q;unfold WL.fq at e;split at e
  .split at e
   .rename_i a b D;refine agz D λp G l=>?_;cases e;simp only[RW]at r1;subst r1;refine eM (cw r2) λv2 k r=>?_;subst k;simp only[RW]at r;subst r;obtain⟨t,rfl⟩:=E;obtain⟨u,rfl,⟨t',rfl⟩⟩:=vals1 j;have g:(b.length==0)=false:=by simpa using p
    have y:a.length<=sizeLine:=apb l cH;have C:a.length+2<=sizeLine:=apb (Nat.add_le_add_right l 2) (by decide);have n:(partsBetween a (occurrences a b 0 a.length (a.length+1)) b.length).length<=sizeLine:=by have h:=StrLaws.occ_length_le a b 0 a.length (a.length+1);rw[length_partsBetween];omega
    have q:Eq1 F H K (.ok (.lst ((Txt.split a b).map .str))) Q:=by rw[SF.y7 a b p G];exact q
    have one:Txt.split a b=[a]->∃v o,Inv X f A o _/\RelV v (.ref s.heap.objs.size)/\Q v o:=λh=>by rw[h]at q;exact(iH (.ref _) _ (I.amT (t':=s.toks) (ys:=[.str a]) (its:=[.str a t]) (.cons ⟨_,rfl⟩ .nil) (show 1<=sizeLine by decide)) rfl (alz m q (l6 [a]) I.fresh))
    cases d:decide (a.length<b.length)||decide (strKind a<strKind b)
    .cases i:(occurrences a b 0 a.length (a.length+1)).isEmpty;.refine aqM aqA (aq4 _ _ _) aq7 (aq0 _ _) (meets_str_split_sep a b t t' d g i y n) ?_;have h:Txt.split a b=partsBetween a _ b.length:=(ao9 (arz d)).trans (ao9 (arz i));rw[h]at q;exact iH (.ref _) _ (I.amT (sA _ _) (by rw[apv];exact n)) rfl (alz m q (l6 _) I.fresh)
     .refine aqM aqA (aq4 _ _ _) aq7 (aq0 _ _) (meets_str_split_not_found a b t t' d g i) ?_;exact one ((ao9 (arz d)).trans (apa i))
    .refine aqM aqA (aq4 _ _ _) aq7 (aq0 _ _) (meets_str_split_cannot_occur a b t t' d) ?_;exact one (apa d)
   .cases e
  .cases e
def wz:∀w ws c,WL.jc w ws≠.ex c:=λw ws c h=>by unfold WL.jc at h;split at h<;>cases h
def ab0:MtR X "str.startswith" (aj6 K WL.jc):=by intro d s i H x h v k Q I f a⟨F,w,ws,j,r1,r2,q⟩;cases e:WL.jc w _ with|bad|ex c=>rw[e]at q;exact q.elim|ok z=>
 unfold WL.jc at e;split at e;.subst r1;refine eM (cw r2) λv2 b g=>?_;subst b;subst g;obtain⟨t,rfl⟩:=f;obtain⟨u,rfl,⟨l,rfl⟩⟩:=vals1 a;exact SC.startswith (iH (.bl _) H I rfl (eq1 q (rfl)))
 .cases e
def adh:∀w ws c,WL.jM w ws≠.ex c:=λw ws c h=>by
 unfold WL.jM at h;split at h;.split at h<;>cases h
 .cases h
set_option tactic.hygienic true in
def ahB:MtR X "str.partition" (aj6 K WL.jM):=by intro d s C H x M v N Q I J f⟨F,w,ws,D,r1,r2,q⟩;cases e:WL.jM w ws with|bad|ex c=>rw[e]at q;exact q.elim|ok z=>
  rw[e]at q;unfold WL.jM at e;split at e
  .split at e
   .rename_i a b G;obtain⟨E,A⟩:=G;cases e;simp only[RW]at r1;subst r1;refine eM (cw r2) λv2 j n=>?_;subst j;simp only[RW]at n;subst n;obtain⟨t,rfl⟩:=J;obtain⟨u,rfl,⟨t',rfl⟩⟩:=vals1 f;have g:(b.length==0)=false:=by simpa using E
    have y:a.length<=sizeLine:=apb A cH;have h:∀(p1 p2 p3:Str)(p k l:Tok)(tk:Nat),Eq1 F H K _ Q->∃v m,Inv X d C m {s with heap:=s.heap.push {cls:=.type "tuple",data:=.seq _},toks:=tk}/\RelV v (.ref s.heap.objs.size)/\Q v m:=λp1 p2 p3 p k l tk q=>by refine(iH (.ref _) _ (I.laid (t':=tk) (o:=.tup [.str p1,.str p2,.str p3]) (λb ob q=>ao4 _ q) (ao6 _) ?_) rfl (aly D q (vs:=[.str p1,.str p2,.str p3]) (l6 [p1,p2,p3]) I.fresh));exact⟨show 3<=sizeLine by decide,[.str p1 p,.str p2 k,.str p3 l],.cons ⟨_,rfl⟩ (.cons ⟨_,rfl⟩ (.cons ⟨_,rfl⟩ .nil)),_,apg _ rfl,rfl,0,rfl⟩
    refine aqM arQ (aq4 _ _ _) PySem.F.entry_str_partition (PySem.F.args_str_partition_2 _ _) (meets_str_partition a b t t' g y) ?_;unfold Txt.partition at q;revert q;cases occurrences a b 0 a.length 1 with|nil|cons i r=>intro q;exact h _ _ _ _ _ _ _ q
   .cases e
  .cases e
theorem xy{F:Hp}:∀{ws:List VW}{ys:List Str}{vs:List V}{its:List Value},WL.strsOf ws=some ys->RWs K F ws vs->Vals vs its->StrsAre its ys|[],ys,vs,its,e,r,h=>by cases e;simp only[RWs]at r;subst r;cases h;exact .nil|w::ws,ys,vs,its,e,r,h=>by cases w with
 |str x=>simp only[WL.strsOf]at e;obtain⟨b,c,rfl⟩:=apr.mp e;simp only[RWs,RW]at r;obtain⟨v,a,rfl,rfl,r2⟩:=r;cases h with|cons h1 h2=>obtain⟨t,rfl⟩:=h1;exact .cons x t (xy c r2 h2)
 |_=>simp[WL.strsOf]at e
def z9:∀w ws c,WL.rl w ws≠.ex c:=λw ws c h=>by
 unfold WL.rl at h;split at h
 .split at h;.split at h<;>cases h
  .cases h
 .cases h
set_option tactic.hygienic true in
def ahC(r:X.K=K):MtR X "str.join" (aj6 K WL.rl):=by intro d s D H x C v G Q I o b⟨F,w,ws,h,r1,r2,q⟩;cases e:WL.rl w ws with|bad|ex c=>rw[e]at q;exact q.elim|ok z=>
  rw[e]at q;unfold WL.rl at e;split at e
  .split at e
   .split at e;.rename_i a A E n g;cases e;simp only[RW]at r1;subst r1;obtain⟨v2,rfl,f⟩:=cw r2;simp only[RW]at f;obtain⟨p,M,rfl,y,j⟩:=f;obtain⟨t,rfl⟩:=o;obtain⟨u,rfl,l⟩:=vals1 b;cases l;obtain⟨m,i,pl,_⟩:=I.list (r▸h.seq y);refine PyProof.Rows.join_list pl.isList (xy n j i) (apb g (by decide)) λJ k=>?_;rw[SF.ack];exact⟨.str _,H,I.tok k,⟨_,rfl⟩,eq1 q (by simp[RW])⟩
    .cases e
   .cases e
  .cases e
def aoO(K:W.Frag):V->Option Int->Option Int->Hp->VK->Prop:=λx l h H Q=>∃F wx i,aw F H/\RW K F wx x/\l=some i/\h=none/\Eq1 F H K (WL.vy wx (.int i)) Q
def ajd:SlR X (aoO K):=by intro d s w H x v p n lo A o Q I g m pl j⟨F,wx,i,y,r,f,b,q⟩;subst f b;cases pl with|int i ti=>cases j;cases e:WL.vy wx (.int i)with|bad|ex c=>rw[e]at q;exact q.elim|ok z=>rw[e]at q;cases wx with
 |str a=>
   subst r;obtain⟨t,rfl⟩:=g;unfold WL.vy at e;dsimp only at e;split at e;.rename_i b;cases e;refine⟨"str",_,PySem.F.slot_str_getitem.lookup,aq4 _ _ _,wpAny_getItem_str_slice (l:=some (i,ti)) (u:=none) (st:=none) m rfl ?_⟩;exact post_val_or_str ⟨apb (Txt.slice_le a _ _) (apb b.2 cH),λh k=>iH (.str (Txt.slice a (some i) none)) H (I.tok k) ⟨h,rfl⟩ (eq1 q (by simp[RW]))⟩
   .cases e|_=>cases e
def agS{a b ta tb p2 pos}(r:PE X a (lo B ta))(s:PE X b (lo B tb)):PE X (.Subscript a (.Slice (some b) none none p2) pos) (lo B (WL.eOp WL.vy ta tb)):=PE.imp (xO (ajd (K:=B.K)) r (abz s) abA) λj H Q h=>by refine dv h λg F R q=>?_;have q:=Rq.bind q;refine dI g F R (Rq.mono (aw.refl _) q λx f v t m n s1 r1=>?_);have f:=Rq.bind f;refine dI g m n (Rq.mono s1.f f λy e v2 u k R2 s2 r2=>?_);cases y with
 |int i=>refine⟨i,r2,k,x,i,R2.rb.sub,r1.keep s2.f,rfl,rfl,?_⟩;cases d:WL.vy x (.int i)with
  |ok w=>rw[d]at e;exact λv p o E l=>e v o p (E.rs B g j R2) ((s1.trans s2).trans E.gr) l|ex c=>
    unfold WL.vy at d;split at d;.split at d<;>cases d
    .cases d|bad=>rw[d]at e;exact e
 |_=>cases x<;>exact(e).elim
end
end WS
namespace L2
open PySem PySem.Spec PyProof.Rows
noncomputable def alK(lo:Int)(n:Nat):It:=⟨λi _=>i<n,λi H x a=>a=H/\x=.int (lo+(i:Nat)*2),λi _=>n<=i⟩
def vd{P:Program}{w:World}{K:W.Frag}{tg:Expr}(it:Addr)(lo:Int)(n:Nat):Turn P w K tg (alK lo n) [it] it λi h=>IsRangeIter h it (lo+(i:Nat)*2) ((n:Int)-(i:Nat)) 2 where
 mem:=by simp
 obj:=λi h st b hb=>by
  have e:b=it:=by simpa using hb
  subst e;exact⟨_,st,λv z=>by have z':Data.fields _=Data.cell v:=z;cases z'⟩
 keep:=λi h h' st k=>k it (by simp) _ st;item:=by intro X hP hw hK i pins s σ H E hc I hf st hg;subst hP hw hK;obtain⟨f0,f1,f2,f3,f4,f5⟩:=hf it (by simp);have W:=Walks.range (prog:=X.prog) (w:=X.w) (I.ok.hd hc) it lo 2 n;refine W.item i s _ _ hg st λv h' tk hv st' kk=>?_;obtain⟨t,rfl⟩:=hv;have I1:Inv X pins σ H {s with heap:=h',toks:=tk}:=I.turned (λb o hb e=>kk b o (by simpa using hb) e) f0 f1 f3 f4 f5;exact⟨_,rfl,zG (s:={s with heap:=h',toks:=tk}) (n:="range_iterator") st' rfl rfl (by decide) ⟨.int (lo+i*2),H,I1,⟨t,rfl⟩,⟨rfl,rfl⟩,st',λb hb=>(hf b hb).1⟩⟩
 done:=by intro X hP hw hK i pins s σ H E hc I hf st hg;subst hP hw hK;obtain⟨f0,f1,f2,f3,f4,f5⟩:=hf it (by simp);exact wpAny_pyNext_range_end (I.ok.hd hc) st (by have:n<=i:=hg;omega) λh' eb=>⟨rfl,I.turned (t':=s.toks) (λb o hb e=>eb b o hb e) f0 f1 f3 f4 f5⟩
 self:=λ_ _ _ _ _ st h=>wpAny_pyIter_rangeiter st h
def jC(a b):Builtin.Range.rangeSize a b 2=((b-a+1)/2).toNat:=by unfold Builtin.Range.rangeSize;split<;>omega
def aa7{a b}(e:-2^60<=a)(c:a<2^60)(f:-2^60<=b)(d:b<2^60):Builtin.Range.small a b 2=true:=by unfold Builtin.Range.small;rw[jC];simp only[Builtin.Range.rangeFitsLong,apk,aru,arX,show(2:Int)>0 by decide,aqR];omega
section
variable{X:Cx}{tg:Expr}
def abq{pins}{d:St}{H s R E lo a t u v tk}(I:Inv X pins d H s)(g:-2^60<=lo)(j:lo<2^60)(h:-2^60<=a)(f:a<2^60)(q:R (alK lo ((a-lo+1)/2).toNat) H):wpAny (model X.prog X.w) X.A (pyIter (.ref s.heap.objs.size)) (PIE X pins d tg R) E {s with heap:=s.heap.push {cls:=.type "range",data:=.fields #[.int lo t,.int a u,.int 2 v]},toks:=tk}:=by
 refine wpAny_pyIter_range (IsRange.new ..) (aa7 g j h f) ?_;have c:Inv X pins d H {s with heap:=s.heap.push {cls:=.type "range",data:=.fields #[.int lo t,.int a u,.int 2 v]},toks:=tk}:=I.kept λb o e=>ao4 _ e;refine⟨_,_,_,_,H,rfl,c.kept (t':=tk) λb o e=>ao4 _ e,vd _ lo ((a-lo+1)/2).toNat,?_,λb l=>?_,q⟩
 .have k:lo+((0:Nat):Int)*2=lo:=by simp
  have i:((((a-lo+1)/2).toNat:Nat):Int)-((0:Nat):Int)=Builtin.Range.rangeSize lo a 2:=by rw[jC];simp
  rw[k,i];exact apg _ rfl
 .have e:b=(s.heap.push {cls:=.type "range",data:=.fields #[.int lo t,.int a u,.int 2 v]}).objs.size:=by simpa using l
  subst e;exact c.aiv (ao6 _) (c.hok.fresh (ao6 _))
def aeX(ta:TA):TI:=λc H R=>ta c H λb a=>∃i j:Int,b=[.int i,.int j,.int 2]/\(-2^60<=i/\i<2^60/\-2^60<=j/\j<2^60)/\R (alK i ((j-i+1)/2).toNat) a
def abB{a b c ta p pos}(u:Gl X "range")(o:X.mg "range"=none)(k:PA X [a,b,c] ta)(z:starEach [a,b,c] X.env=[(false,eval a X.env),(false,eval b X.env),(false,eval c X.env)]:=by rfl)(d:starEach [b,c] X.env=[(false,eval b X.env),(false,eval c X.env)]:=by rfl):PI X tg (.Call (.Name "range" p) [a,b,c] [] pos) (aeX ta):=by intro g s n H R I h;refine Call_ (kZ I u o asx (apV (thn (k _ _ s n H _ I h) λw s1 f=>?_) (by grind) (by rw[d];rfl)));obtain⟨y,v,l,r1,q1⟩:=f;obtain⟨i,j,e,⟨q1,q2,q3,q4⟩,q⟩:=q1;subst e;cases r1 with|cons r rr=>cases rr with|cons r' rr=>cases rr with|cons r'' rr=>cases rr;obtain⟨t,rfl⟩:=r;obtain⟨x,rfl⟩:=r';obtain⟨m,rfl⟩:=r'';exact call_range_3 (by decide) (abq l q1 q2 q3 q4 q) (Or.inl (PyProof.noPylong_small (by omega)))
end
end L2
namespace WS
open PySem PySem.Spec PyProof.Rows L2 PySem.Builtin PySem.Builtin.Str
open WL(Res Sl Ws EF TF AF LF GF GsF SF Out OX RF Rn AXF Dk XE XT)
section
variable{X:Cx}{B:Bx}{K:W.Frag}{tg:Expr}{ta tb:EF}
def aaJ{lo n F}:Walk K (alK lo n) (WL.ain lo 2 n) F:=by
 refine⟨λi x e c d s1 s2=>?_,λc d s1 s2=>by show n<=(WL.ain _ 2 n).length;simp[WL.ain]⟩;have b:=by have:=(ao8.mp e).1;simpa[WL.ain]using this
 simp [WL.ain,List.getElem?_range b]at e;cases e;refine⟨b,λu h a=>?_⟩;obtain⟨f,g⟩:=a;subst f g;exact⟨c,Ext.refl _ _,rfl⟩
def agQ{a c b p pos p2}(D:Gl X "range")(C:X.mg "range"=none)(h:PE X a (lo B ta))(h':PE X c (lo B tb))(G:starEach [a,c,.Constant (.int 2) b p2] X.env=[(false,eval a X.env),(false,eval c X.env),(false,eval (.Constant (.int 2) b p2) X.env)]:=by rfl)(g:starEach [c,.Constant (.int 2) b p2] X.env=[(false,eval c X.env),(false,eval (.Constant (.int 2) b p2) X.env)]:=by rfl)(w:starEach [a,c,.Constant (.int 2) b p2] X.env=(false,eval a X.env)::starEach [c,.Constant (.int 2) b p2] X.env:=by rfl)(t:starEach [c,.Constant (.int 2) b p2] X.env=(false,eval c X.env)::starEach [.Constant (.int 2) b p2] X.env:=by rfl)(z:starEach [.Constant (.int 2) b p2] X.env=(false,eval (.Constant (.int 2) b p2) X.env)::starEach [] X.env:=by rfl):PI X tg (.Call (.Name "range" p) [a,c,.Constant (.int 2) b p2] [] pos) (loI B (WL.aeX ta tb)):=PI.imp (abB D C (aP h (aP h' (aP af7 cu z) t) w) G g) λE H R f=>by refine dv f λe F s q=>?_;have q:=Rq.bind q;refine dI e F s (Rq.mono (aw.refl _) q λx j v I u o m r1=>?_);have j:=Rq.bind j;refine dI e u o (Rq.mono m.f j λy d v2 A n R2 r r2=>?_);cases x with
|int i=>cases y with|int k=>
   have d:Rq B e F (if -2^60<=i/\i<2^60/\-2^60<=k/\k<2^60 then Res.ok _ else .bad) _:=d;subst r1 r2;by_cases l:-2^60<=i/\i<2^60/\-2^60<=k/\k<2^60;.rw[apa l]at d;exact iH i k rfl l ((show∀J M N,_ from d) _ A n R2 (m.trans r) aaJ)
   .rw[ao9 l]at d;exact(show False from d).elim|_=>exact(show False from d).elim
|_=>exact(show False from d).elim
end
section
variable{X:Cx}{B:Bx}{K:W.Frag}{o x:Expr}{to:EF}{tas:AF}{apos cpos:Pos}
def iu(h:X.K=B.K)(f:PE X o (lo B to))(e:PA X [x] (loA B tas))(c:attributeBase o "split" X.env (eval o X.env)=eval o X.env:=by rfl)(d:((backTo cpos (starEach [x] X.env)).all (λx=>!x.1)&&(backToKw cpos (keywordEach [] X.env)).all (λx=>x.1.isSome)&&decide ([x].length+([]:List Keyword).length+(if([]:List Keyword).isEmpty then 0 else 1)<30))=true:=by rfl)(b:(apos.endLine==cpos.line)=true:=by rfl)(g:starEach [x] X.env=(false,eval x X.env)::starEach [] X.env:=by rfl)(a:BT X cpos []:=by rfl):PE X (.Call (.Attribute o "split" apos) [x] [] cpos) (lo B (WL.me "str" WL.fq to tas)):=qv z8 (lI aqB aqA PySem.F.type_str_split aeF f e c d b g a)
def aaB(h:X.K=B.K)(f:PE X o (lo B to))(e:PA X [x] (loA B tas))(c:attributeBase o "startswith" X.env (eval o X.env)=eval o X.env:=by rfl)(d:((backTo cpos (starEach [x] X.env)).all (λx=>!x.1)&&(backToKw cpos (keywordEach [] X.env)).all (λx=>x.1.isSome)&&decide ([x].length+([]:List Keyword).length+(if([]:List Keyword).isEmpty then 0 else 1)<30))=true:=by rfl)(b:(apos.endLine==cpos.line)=true:=by rfl)(g:starEach [x] X.env=(false,eval x X.env)::starEach [] X.env:=by rfl)(a:BT X cpos []:=by rfl):PE X (.Call (.Attribute o "startswith" apos) [x] [] cpos) (lo B (WL.me "str" WL.jc to tas)):=qv wz (lI aqB PySem.F.slot_str_startswith PySem.F.type_str_startswith ab0 f e c d b g a)
def mw(h:X.K=B.K)(f:PE X o (lo B to))(e:PA X [x] (loA B tas))(c:attributeBase o "partition" X.env (eval o X.env)=eval o X.env:=by rfl)(d:((backTo cpos (starEach [x] X.env)).all (λx=>!x.1)&&(backToKw cpos (keywordEach [] X.env)).all (λx=>x.1.isSome)&&decide ([x].length+([]:List Keyword).length+(if([]:List Keyword).isEmpty then 0 else 1)<30))=true:=by rfl)(b:(apos.endLine==cpos.line)=true:=by rfl)(g:starEach [x] X.env=(false,eval x X.env)::starEach [] X.env:=by rfl)(a:BT X cpos []:=by rfl):PE X (.Call (.Attribute o "partition" apos) [x] [] cpos) (lo B (WL.me "str" WL.jM to tas)):=qv adh (lI aqB arQ PySem.F.type_str_partition ahB f e c d b g a)
def u9(f:X.K=B.K)(g:PE X o (lo B to))(e:PA X [x] (loA B tas))(c:attributeBase o "join" X.env (eval o X.env)=eval o X.env:=by rfl)(d:((backTo cpos (starEach [x] X.env)).all (λx=>!x.1)&&(backToKw cpos (keywordEach [] X.env)).all (λx=>x.1.isSome)&&decide (([x]:List Expr).length+([]:List Keyword).length+(if([]:List Keyword).isEmpty then 0 else 1)<30))=true:=by rfl)(b:(apos.endLine==cpos.line)=true:=by rfl)(h:starEach [x] X.env=(false,eval x X.env)::starEach [] X.env:=by rfl)(a:BT X cpos []:=by rfl):PE X (.Call (.Attribute o "join" apos) [x] [] cpos) (lo B (WL.me "str" WL.rl to tas)):=qv z9 (lI aqB PySem.F.slot_str_join PySem.F.type_str_join (ahC f) g e c d b h a)
end
section
variable{X:Cx}{B:Bx}
def int_text{i:Int}(h:i.natAbs<1000):(Str.ofString (toString i)).length<=10/\i.natAbs.log2<1920:=by
 have a:((List.range 1000).all λn=>Nat.ble (Str.ofString (toString (Int.ofNat n))).length 10&&Nat.ble (Str.ofString (toString (Int.neg (Int.ofNat n)))).length 10)=true:=by decide+kernel
 have k:=apY.mp a i.natAbs (aq2.mpr h);rw[apk,ar1,ar1]at k;refine⟨?_,?_⟩
 .rcases Int.natAbs_eq i with e|e;.rw[e];exact k.1
  .rw[e];exact k.2
 .by_cases z:i.natAbs=0;.rw[z];decide
  .rw[Nat.log2_lt z];exact apd h (by decide)
def afv{pins:List (Addr×Obj)}{a:L2.St}{H:Hp}{s:Shared}(I:Inv X pins a H s){h':Heap}(k:∀b o,s.heap.get? b=some o->h'.get? b=some o):Inv X pins a H {s with heap:=h'}:=I.ajl (ch:=[]) (λb c=>absurd c aqb) (λb o q _ _=>k b o q) λb o q _ _=>⟨o.slots,k b o q⟩
def aow(K:W.Frag)(U:Nat)(ta:TE):TE:=λf H Q=>ta f H λx e=>(∃y:Str,x=.str y/\(∀c∈y.cps.toList,c<16^8)/\y.length<=5000/\∀z:Str,z.length<=10*y.length+2->Q (.str z) e)\/(∃n d a,x=.ref a/\IsD K e n x d/\d.showable=true/\d.hasDict=false/\U+n<cLine/\d.shown.length<=80000/\Q (.str d.shown) e)\/∃z:Str,((∃i:Int,x=.int i/\i.natAbs.log2<1920/\z=toString i)\/x=.non/\z="None"\/∃b:Bool,x=.bl b/\z=if b then("True":Str)else"False")/\z.length<=1000/\Q (.str z) e
def ajy{e:Expr}{pos:Pos}{ta:TE}(K:X.A.guards=some [])(v:PE X e ta):PE X (.FormattedValue e 114 none pos) (aow X.K X.A.units ta):=by
 intro k s A H Q I h;refine wpAny_FormattedValue_repr (thn (v k s A H _ I h) λu s1 p=>?_);obtain⟨x,j,g,m,q⟩:=p;rcases q with⟨y,ex,D,O,q⟩|⟨n,d,a,ex,E,M,G,P,f,q⟩|⟨z,(⟨i,ex,C,l⟩|⟨ex,l⟩|⟨b,ex,l⟩),f,q⟩;.subst ex;obtain⟨t,rfl⟩:=m;have f:=StrLaws.reprText_len y D;have c:(reprText y).length<=sizeLine:=apb f (apb (show 10*y.length+2<=50002 by omega) (by decide));exact pyReprObj_str (apU (λo tk=>⟨.str (reprText y),j,(g.tok _).tok tk,⟨_,rfl⟩,q _ f⟩) c) c
 .subst ex;cases show u=Value.ref a from m;obtain⟨⟨N,J⟩,c1,S⟩:=g.reads n d (.ref a) _ E rfl;have c:d.shown.length<=sizeLine:=apb f (by decide);refine pyReprObj_of_reads J M (λz=>by rw[G]at z;cases z) K (by omega) (λ_ _ q=>q) (λR u tk r=>?_) c;exact apU (λo w=>⟨.str d.shown,j,((afv g r).tok _).tok _,⟨_,rfl⟩,q⟩) c
 .subst ex l;obtain⟨t,rfl⟩:=m;exact pyReprObj_int C (apU (λo tk=>⟨.str (toString i),j,(g.tok _).tok tk,⟨_,rfl⟩,q⟩) (apb f (by decide)))
 .subst ex l;cases show u=Value.none from m;exact pyReprObj_none (apU (λo tk=>⟨.str "None",j,(g.tok _).tok tk,⟨_,rfl⟩,q⟩) (apb f (by decide)))
 .subst ex l;cases show u=Value.bool b from m;exact pyReprObj_bool (apU (λo tk=>⟨.str _,j,(g.tok _).tok tk,⟨_,rfl⟩,q⟩) (apb f (by decide)))
theorem hG:∀l:List PyData,(PyData.shownAll l).length=l.length|[]=>rfl|x::l=>by simp only[PyData.shownAll,apj,hG l]
theorem ad8:∀{ws:List VW}{n k:Nat},WL.shL ws=some n->WL.nk (k+1) ws=true->PyData.showableAll (dB ws)=true/\PyData.hasDictAll (dB ws)=false/\((PyData.shownAll (dB ws)).map (·.length)).sum+2*(dB ws).length+3<=n
|[],n,k,e,_=>by cases e;exact⟨rfl,rfl,ao6 _⟩|.str x::ws,n,k,e,o=>by
 obtain⟨m,em,rfl⟩:=apr.mp (show(WL.shL ws).map (.+(10*x.length+4))=some n from e);have o:=apD.mp o;obtain⟨a,d,j⟩:=ad8 em o.2;have h:∀c∈x.cps.toList,c<16^8:=λc l=>by
  have:=Array.all_eq_true_iff_forall_mem.mp o.1 c (by simpa using l);have g:c<1114112:=by simpa using this
  exact Nat.lt_trans g (by decide)
 have p:=StrLaws.reprText_len x h;refine⟨by simpa[dB,yZ,y6,PyData.showableAll,PyData.showable]using a,by simpa[dB,yZ,y6,PyData.hasDictAll,PyData.hasDict]using d,?_⟩;simp only[dB,yZ,y6,PyData.shownAll,PyData.shown,apA,List.sum_cons,apj];omega|.int i::ws,n,k,e,o=>by
 have e:(if i.natAbs<1000 then(WL.shL ws).map (.+12)else none)=some n:=e;by_cases b:i.natAbs<1000;.rw[apa b]at e;obtain⟨m,em,rfl⟩:=apr.mp e;have o:=apD.mp o;obtain⟨a,d,j⟩:=ad8 em o.2;have f:=int_text b;refine⟨by simpa[dB,yZ,y6,PyData.showableAll,PyData.showable,f.2]using a,by simpa[dB,yZ,y6,PyData.hasDictAll,PyData.hasDict]using d,?_⟩;simp only[dB,yZ,y6,PyData.shownAll,PyData.shown,apA,List.sum_cons,apj];have:=f.1;omega
 .rw[ao9 b]at e;cases e|.non::_,_,_,e,_=>by cases e|.bl _::_,_,_,e,_=>by cases e|.ty _::_,_,_,e,_=>by cases e|.tup _::_,_,_,e,_=>by cases e|.lst _::_,_,_,e,_=>by cases e|.dic _ _::_,_,_,e,_=>by cases e|.cls _::_,_,_,e,_=>by cases e|.exc _ _::_,_,_,e,_=>by cases e|.ins _ _::_,_,_,e,_=>by cases e
inductive PJ(X:Cx)(B:Bx):List Expr->AF->Prop where|nil:PJ X B [] WL.aq|c{x:Str}{j:Nat}{pos:Pos}{es:List Expr}{t:AF}(h:PJ X B es t)(hl:x.length<=1000):PJ X B (.Constant (.str x) j pos::es) t|f{e:Expr}{pos:Pos}{es:List Expr}{ta:EF}{t:AF}(he:PE X e (lo B ta))(h:PJ X B es t):PJ X B (.FormattedValue e (-1) none pos::es) (WL.aa (WL.eFf ta) t)|r{e:Expr}{pos:Pos}{es:List Expr}{ta:EF}{t:AF}(hK:X.K=B.K)(hu:X.A.units+64<cLine)(hg:X.A.guards=some [])(he:PE X e (lo B ta))(h:PJ X B es t):PJ X B (.FormattedValue e 114 none pos::es) (WL.aa (WL.eFr ta) t)
def dH:PJ X B [] WL.aq:=.nil
def kE{x:Str}{j:Nat}{pos:Pos}{es:List Expr}{t:AF}(h:PJ X B es t)(a:x.length<=1000:=by decide+kernel):PJ X B (.Constant (.str x) j pos::es) t:=.c h a
def afF{e:Expr}{pos:Pos}{es:List Expr}{ta:EF}{t:AF}(a:PE X e (lo B ta))(h:PJ X B es t):PJ X B (.FormattedValue e (-1) none pos::es) (WL.aa (WL.eFf ta) t):=.f a h
def uY{e:Expr}{pos:Pos}{es:List Expr}{ta:EF}{t:AF}(c:X.K=B.K)(b:X.A.units+64<cLine)(d:X.A.guards=some [])(a:PE X e (lo B ta))(h:PJ X B es t):PJ X B (.FormattedValue e 114 none pos::es) (WL.aa (WL.eFr ta) t):=.r c b d a h
def iq(x y:Str):(x++y).length=x.length+y.length:=by show(x.cps++y.cps).size=_;rw[Array.size_append];rfl
def jB{n m:Nat}{a:Str}(h:a.length<=100000*n)(b:n+m<=50):a.length<=sizeLine:=apb h (apb (Nat.mul_le_mul_left 100000 (show n<=50 by omega)) (by decide))
theorem jg:∀{es:List Expr}{t:AF},PJ X B es t->∃S,Paired (PE X) es S/\∀(g:Ws)(l:L2.St)(F H:Hp)(Q:VK)(e:Str)(n:Nat),RS B g l F H->n+es.length<=50->e.length<=100000*n->Rq B g F (t g) (λ_=>∀r s(y:Str),y.length<=5000000->RS B g l s r->Gr F H s r->Q (.str y) r)->tJ S e l H Q
|_,_,.nil=>⟨[],.nil,λg l F H Q e n R O ha q=>⟨jB ha O,(show∀r s(y:Str),_ from q) H F e (by simp at O;omega) R Gr.refl⟩⟩|_,_,.c (x:=x) (es:=es) h hl=>by
  obtain⟨S,Y,K⟩:=jg h;refine⟨_,.cons gk Y,λg l F H Q e n R O ha q=>?_⟩;have j:n+1+es.length<=50:=by simp at O;omega
  have d:(e++x).length<=100000*(n+1):=by rw[iq];omega
  exact⟨x,rfl,jB d j,K g l F H Q (e++x) (n+1) R j d q⟩|_,_,.f (es:=es) (ta:=ta) (t:=t) he h=>by
  obtain⟨S,Y,K⟩:=jg h;refine⟨_,.cons (abH he) Y,λg l F H Q e n R O ha q=>?_⟩;have j:n+1+es.length<=50:=by simp at O;omega
  have q:=Rq.bind (Rq.bind q);refine⟨g,F,R,Rq.mono (aw.refl _) q λx f v M P J u r1=>?_⟩;have rest:∀y:Str,y.length<=1000->(∃z,WL.an4 x=.ok z)->∃y',V.str y=.str y'/\(e++y').length<=sizeLine/\tJ S (e++y') l M Q:=λy hy⟨z,N⟩=>by
   rw[N]at f;have d:(e++y).length<=100000*(n+1):=by rw[iq];omega
   refine⟨y,rfl,jB d j,K g l P M Q (e++y) (n+1) J j d ?_⟩;exact Rq.mono u.f (Rq.bind (show Rq B g F ((t g).bind λA=>.ok (z::A)) _ from f)) λws k r s D o R2 C=>(show∀r s(y:Str),_ from k) r s D o R2 (u.trans C)
  cases x with|int i=>
   simp only[RW]at r1;subst r1;by_cases p:i.natAbs<1000;.have T:=int_text p;exact .inl ⟨i,rfl,T.2,rest (toString i) (apb T.1 (by decide)) ⟨_,apa p⟩⟩
   .have f:Rq B g F (if i.natAbs<1000 then Res.ok (WL.W.int i)else .bad) _:=f;rw[ao9 p]at f;exact(show False from f).elim|str y=>
   simp only[RW]at r1;subst r1;by_cases p:y.length<=1000;.exact .inr ⟨y,rfl,apb p (by decide),rest y p ⟨_,apa p⟩⟩
   .have f:Rq B g F (if y.length<=1000 then Res.ok (WL.W.str y)else .bad) _:=f;rw[ao9 p]at f;exact(show False from f).elim|_=>exact(show False from f).elim
|_,_,.r (es:=es) (ta:=ta) (t:=t) hK hu hg he h=>by
  obtain⟨S,Y,K⟩:=jg h;refine⟨_,.cons (ajy hg he) Y,λg l F H Q e n R O ha q=>?_⟩;have j:n+1+es.length<=50:=by simp at O;omega
  have q:=Rq.bind (Rq.bind q);refine⟨g,F,R,Rq.mono (aw.refl _) q λx f v M P J u r1=>?_⟩;cases x with|str y=>
   simp only[RW]at r1;subst r1;by_cases p:y.length<=5000/\(y.cps.toList.all λc=>Nat.ble c 1114111)=true
   .have N:WL.akz (.str y)=.ok (.str y):=apa p;rw[N]at f;refine .inl ⟨y,rfl,λc hc=>aqZ (ar1.mp (apY.mp p.2 c hc)) (by decide),p.1,λz hz=>?_⟩;have d:(e++z).length<=100000*(n+1):=by rw[iq];have:=p.1;omega
    refine⟨z,rfl,jB d j,K g l P M Q (e++z) (n+1) J j d ?_⟩;exact Rq.mono u.f (Rq.bind (show Rq B g F ((t g).bind λA=>.ok (.str y::A)) _ from f)) λws k r s D o R2 C=>(show∀r s(y:Str),_ from k) r s D o R2 (u.trans C)
   .have f:Rq B g F (if y.length<=5000/\(y.cps.toList.all λc=>Nat.ble c 1114111)=true then Res.ok (WL.W.str y)else .bad) _:=f;rw[ao9 p]at f;exact(show False from f).elim|lst ws=>
   by_cases p:WL.shC ws=true;.have N:WL.akz (.lst ws)=.ok (.lst ws):=apa p;rw[N]at f;have I:(WL.nk 51 ws&&match WL.shL ws with|some n=>decide (n<=80000)|none=>false)=true:=p;rw[apk]at I;obtain⟨Z,G⟩:=I;cases w:WL.shL ws with|none=>rw[w]at G;cases G|some m=>
     rw[w]at G;have G:m<=80000:=by simpa using G
     obtain⟨s1,s2,s3⟩:=ad8 w Z;have hd:=RW.isD 51 (.lst ws) v Z (r1.keep J.rb.sub);simp only[RW]at r1;obtain⟨a,vs,rfl,_,_⟩:=r1;have E:(PyData.shown (.list (dB ws))).length<=80000:=by have h1:=listText_len_le (PyData.shownAll (dB ws));have h2:(PyData.shownAll (dB ws)).length=(dB ws).length:=hG (dB ws);simp only[PyData.shown];omega
     refine .inr (.inl ⟨51,.list (dB ws),a,rfl,by rw[hK];exact hd,by simpa only[PyData.showable]using s1,by simpa only[PyData.hasDict]using s2,by omega,E,?_⟩);have d:(e++PyData.shown (.list (dB ws))).length<=100000*(n+1):=by rw[iq];omega
     refine⟨_,rfl,jB d j,K g l P M Q _ (n+1) J j d ?_⟩;exact Rq.mono u.f (Rq.bind (show Rq B g F ((t g).bind λA=>.ok (.lst ws::A)) _ from f)) λws k r s D o R2 C=>(show∀r s(y:Str),_ from k) r s D o R2 (u.trans C)
   .have f:Rq B g F (if WL.shC ws=true then Res.ok (WL.W.lst ws)else .bad) _:=f;rw[ao9 p]at f;exact(show False from f).elim|tup ws=>
   by_cases p:WL.shC ws=true;.have N:WL.akz (.tup ws)=.ok (.tup ws):=apa p;rw[N]at f;have I:(WL.nk 51 ws&&match WL.shL ws with|some n=>decide (n<=80000)|none=>false)=true:=p;rw[apk]at I;obtain⟨Z,G⟩:=I;cases w:WL.shL ws with|none=>rw[w]at G;cases G|some m=>
     rw[w]at G;have G:m<=80000:=by simpa using G
     obtain⟨s1,s2,s3⟩:=ad8 w Z;have hd:=RW.isD 51 (.tup ws) v Z (r1.keep J.rb.sub);simp only[RW]at r1;obtain⟨a,vs,rfl,_,_⟩:=r1;have E:(PyData.shown (.tuple (dB ws))).length<=80000:=by have h1:=tupleText_len_le (PyData.shownAll (dB ws));have h2:(PyData.shownAll (dB ws)).length=(dB ws).length:=hG (dB ws);simp only[PyData.shown];omega
     refine .inr (.inl ⟨51,.tuple (dB ws),a,rfl,by rw[hK];exact hd,by simpa only[PyData.showable]using s1,by simpa only[PyData.hasDict]using s2,by omega,E,?_⟩);have d:(e++PyData.shown (.tuple (dB ws))).length<=100000*(n+1):=by rw[iq];omega
     refine⟨_,rfl,jB d j,K g l P M Q _ (n+1) J j d ?_⟩;exact Rq.mono u.f (Rq.bind (show Rq B g F ((t g).bind λA=>.ok (.tup ws::A)) _ from f)) λws k r s D o R2 C=>(show∀r s(y:Str),_ from k) r s D o R2 (u.trans C)
   .have f:Rq B g F (if WL.shC ws=true then Res.ok (WL.W.tup ws)else .bad) _:=f;rw[ao9 p]at f;exact(show False from f).elim|bl b=>
   simp only[RW]at r1;subst r1;have U:(if b then("True":Str)else"False").length<=10:=by cases b<;>decide
   refine .inr (.inr ⟨if b then("True":Str)else"False",.inr (.inr ⟨b,rfl,rfl⟩),apb U (by decide),?_⟩);have d:(e++if b then("True":Str)else"False").length<=100000*(n+1):=by rw[iq];omega
   refine⟨_,rfl,jB d j,K g l P M Q _ (n+1) J j d ?_⟩;exact Rq.mono u.f (Rq.bind (show Rq B g F ((t g).bind λA=>.ok (.bl b::A)) _ from f)) λws k r s D o R2 C=>(show∀r s(y:Str),_ from k) r s D o R2 (u.trans C)|int i=>
   simp only[RW]at r1;subst r1;by_cases p:i.natAbs<1000
   .have N:WL.akz (.int i)=.ok (.int i):=apa p;rw[N]at f;have T:=int_text p;refine .inr (.inr ⟨toString i,.inl ⟨i,rfl,T.2,rfl⟩,apb T.1 (by decide),?_⟩);have d:(e++(toString i:Str)).length<=100000*(n+1):=by rw[iq];have:=T.1;omega
    refine⟨_,rfl,jB d j,K g l P M Q _ (n+1) J j d ?_⟩;exact Rq.mono u.f (Rq.bind (show Rq B g F ((t g).bind λA=>.ok (.int i::A)) _ from f)) λws k r s D o R2 C=>(show∀r s(y:Str),_ from k) r s D o R2 (u.trans C)
   .have f:Rq B g F (if i.natAbs<1000 then Res.ok (WL.W.int i)else .bad) _:=f;rw[ao9 p]at f;exact(show False from f).elim|non=>
   simp only[RW]at r1;subst r1;refine .inr (.inr ⟨"None",.inr (.inl ⟨rfl,rfl⟩),by decide,?_⟩);have U:("None":Str).length<=10:=by decide
   have d:(e++("None":Str)).length<=100000*(n+1):=by rw[iq];omega
   refine⟨_,rfl,jB d j,K g l P M Q _ (n+1) J j d ?_⟩;exact Rq.mono u.f (Rq.bind (show Rq B g F ((t g).bind λA=>.ok (.non::A)) _ from f)) λws k r s D o R2 C=>(show∀r s(y:Str),_ from k) r s D o R2 (u.trans C)|_=>exact(show False from f).elim
def aW{x:Str}{C:Addr}{nm:String}{i h:Expr}{es:List Expr}{a:AF}{np b d pos:Pos}(U:X.K=B.K)(v:XW X B)(A:X.calm=true)(N:Gl X x)(M:X.mg x=some (.ref C))(q:jv X.K C none)(z:ExcAt X.K nm C)(p:WL.fieldsOf nm=[])(I:PJ X B (i::h::es) a)(Q:es.length<=40:=by decide)(E:Dbg x:=by decide)(m:evalEach es X.env=es.map λe=>eval e X.env:=by rfl)(r:starEach [Expr.JoinedStr (i::h::es) b] X.env=(false,eval (.JoinedStr (i::h::es) b) X.env)::starEach [] X.env:=by rfl)(c:BT X d []:=by rfl):PS X (.Raise (some (.Call (.Name x np) [.JoinedStr (i::h::es) b] [] d)) none pos) (loS B (WL.bM nm a)):=by obtain⟨S,G,O⟩:=jg I;refine PS.imp (xM A N M q (aP (vm G m) cu r) E r c) λD g H l=>?_;obtain⟨j,F,R,q⟩:=l;have q:=Oq.ofR q;refine O j g F H _ Str.empty 0 R (by simp;omega) (ao6 _) (Rq.mono (aw.refl _) q λws J P T y w n u=>?_);refine⟨show 1<=sizeLine by decide,λf s e K o t=>?_⟩;have k:=au (n.rb.sub.free o) (.tup [.str y]);exact v f g _ s j _ (.exc nm []) (n.new o _) (B.mono _ j F _ (u.f.trans k) J) e C _ none _ t ⟨z,[],by rw[p];rfl,by simp[RWs],.inl ⟨rfl,rfl⟩,⟨0,rfl⟩,.inr ⟨ajW p,K,y,rfl,ah,w⟩⟩
end
section
variable{X:Cx}{B:Bx}{K:W.Frag}
def oe:∀a c,WL.r6 a≠.ex c:=λa c h=>by
 unfold WL.r6 at h;split at h;.split at h<;>cases h
 .cases h
 .cases h
set_option tactic.hygienic true in
def aaM:bP X (.type "str") (loN K WL.r6):=by intro d s h H g k Q I r⟨F,ws,j,b,q⟩;cases e:WL.r6 ws with|bad|ex c=>rw[e]at q;exact q.elim|ok w=>
  rw[e]at q;unfold WL.r6 at e;split at e
  .split at e;.rename_i i f;cases e;obtain⟨v,rfl,a⟩:=cw b;simp only[RW]at a;subst a;obtain⟨u,rfl,⟨t,rfl⟩⟩:=vals1 r;exact PySem.P.str_of_int f ⟨.str (toString i),H,I.tok _,⟨_,rfl⟩,eq1 q (by simp[RW])⟩
   .cases e
  .rename_i x;cases e;obtain⟨v,rfl,a⟩:=cw b;simp only[RW]at a;subst a;obtain⟨u,rfl,⟨t,rfl⟩⟩:=vals1 r;exact PySem.P.str_of_str ⟨.str x,H,I,⟨_,rfl⟩,eq1 q (by simp[RW])⟩
  .cases e
def ai4(t:TE):TT:=λb H Q=>t b H λx a=>∃y:Str,x=.str y/\y.length<=sizeLine/\Q (!y.length==0) a
def ahk{e:Expr}{t:TE}(h:PE X e t)(f:∀a,isTrue e X.env a=(do let v <-a;standAt e.pos;holding [v] (truthy v)):=by intro _;rfl):PT X e (ai4 t):=by
 intro b s i H Q I hw;refine isTrue_plain (thn (h b s i H _ I hw) λv s1 c=>?_) (f _);obtain⟨x,d,g,r1,q1⟩:=c;obtain⟨y,rfl,k,q⟩:=q1;obtain⟨t,rfl⟩:=r1;have e:((y.length:Int)!=0)=!y.length==0:=by rw[bne,ap7];simp
 have j:¬(y.length:Int)≥ 2^63:=by
  have:(sizeLine:Nat)<2^63:=by decide
  omega
 exact PySem.P.truthy_str j (by rw[e];exact⟨d,g.tok _,q⟩)
def aoq{e:Expr}{t:EF}(h:PE X e (lo B t))(i:∀a,isTrue e X.env a=(do let v <-a;standAt e.pos;holding [v] (truthy v)):=by intro _;rfl):PT X e (loT B (WL.tS t)):=PT.imp (ahk h i) λl H Q d=>by
 obtain⟨c,F,R,q⟩:=d;have q:=Rq.bind q;refine⟨c,F,R,Rq.mono (aw.refl _) q λx b v1 g j k s1 r1=>?_⟩;cases x with|str y=>
   simp only[RW]at r1;by_cases f:y.length<=WL.lim;.have b:Rq B c F (if y.length<=WL.lim then Res.ok !y.length==0 else .bad) _:=b;rw[apa f]at b;exact⟨y,r1,apb f cH,b g j k s1⟩
   .have b:Rq B c F (if y.length<=WL.lim then Res.ok !y.length==0 else .bad) _:=b;rw[ao9 f]at b;exact(show False from b).elim|_=>exact(show False from b).elim
end
end WS
namespace WS
open PySem PySem.Spec PyProof.Rows L2
open WL(Res Sl Ws EF TF AF LF GF GsF SF Out OX RF Rn AXF Dk XE XT)
section
variable{B:Bx}{σ:Ws}{σV:L2.St}{F H:Hp}{a:Addr}{kvs:List (Key×V)}{od:Obj}{K:W.Frag}
noncomputable abbrev zD(od:Obj)(kvs:List (Key×V)):HO:=.frz od (.dK kvs)
def aml(e:F a=some (.dK kvs)){b l}(h:Rd F b (.dK l)):Rd (upd F a (zD od kvs)) b (.dK l):=by
 by_cases c:b=a;.subst c;rcases h with h|⟨o,h⟩<;>rw[e]at h<;>cases h;exact .inr ⟨od,ah⟩
 .unfold Rd;rw[ae c];exact h
def amk(e:F a=some (zD od kvs)){b l}(h:Rd F b (.dK l)):Rd (upd F a (.dK kvs)) b (.dK l):=by
 by_cases c:b=a;.subst c;rcases h with h|⟨o,h⟩<;>rw[e]at h<;>cases h;exact .inl ah
 .unfold Rd;rw[ae c];exact h
def afS{o o'}(e:F a=some o)(d:∀xs,o≠.tup xs)(c:∀ob xs,o≠.frz ob (.tup xs)){b xs}(h:SqT K F b xs):SqT K (upd F a o') b xs:=by
 rcases h with(h|⟨ob,h⟩)|h;.exact .inl (.inl (by rw[ae λz=>by grind];exact h))
 .exact .inl (.inr ⟨ob,by rw[ae λz=>by grind];exact h⟩)
 .exact .inr h
def afU{o o'}(e:F a=some o)(d:∀xs,o≠.lst xs)(c:∀ob xs,o≠.frz ob (.lst xs)){b xs}(h:SqL K F b xs):SqL K (upd F a o') b xs:=by
 rcases h with(h|⟨ob,h⟩)|h;.exact .inl (.inl (by rw[ae λz=>by grind];exact h))
 .exact .inl (.inr ⟨ob,by rw[ae λz=>by grind];exact h⟩)
 .exact .inr h
def RWs.fz(e:F a=some (.dK kvs)){ws vs}(h:RWs K F ws vs):RWs K (upd F a (zD od kvs)) ws vs:=RWs.via (λ_ _ q=>afS e (λ_ z=>nomatch z) (λ_ _ z=>nomatch z) q) (λ_ _ q=>afU e (λ_ z=>nomatch z) (λ_ _ z=>nomatch z) q) (λ_ _ q=>aml e q) (λb c q=>by rw[ae λz=>by grind];exact q) (λb c q=>by rw[ae λz=>by grind];exact q) (λb _ _ _ _ q=>by rw[ae λz=>by grind];exact q) _ _ h
def RWs.th(e:F a=some (zD od kvs)){ws vs}(h:RWs K F ws vs):RWs K (upd F a (.dK kvs)) ws vs:=RWs.via (λ_ _ q=>afS e (λ_ z=>nomatch z) (λ_ _ z=>nomatch z) q) (λ_ _ q=>afU e (λ_ z=>nomatch z) (λ_ _ z=>nomatch z) q) (λ_ _ q=>amk e q) (λb c q=>by rw[ae λz=>by grind];exact q) (λb c q=>by rw[ae λz=>by grind];exact q) (λb _ _ _ _ q=>by rw[ae λz=>by grind];exact q) _ _ h
def RW.one{w v}(h:RWs K F [w] [v]):RW K F w v:=by obtain⟨_,_,e,q,_⟩:=h;cases e;exact q
theorem RW.fz(e:F a=some (.dK kvs)){w v}(h:RW K F w v):RW K (upd F a (zD od kvs)) w v:=RW.one (RWs.fz e (RWs.one h))
theorem RW.th(e:F a=some (zD od kvs)){w v}(h:RW K F w v):RW K (upd F a (.dK kvs)) w v:=RW.one (RWs.th e (RWs.one h))
theorem XR.th(e:F a=some (zD od kvs)){c C dx}(h:XR K F c C dx):XR K (upd F a (.dK kvs)) c C dx:=by cases c with|exc nm fs=>obtain⟨j,i,m,k,g,l⟩:=h;exact⟨j,_,m,k.th e,g.imp id λf=>by obtain⟨d,z1,z2⟩:=f;exact⟨d,z1,by rw[ae λz=>by grind];exact z2⟩,l.via λb o n q=>by rw[ae λz=>by rw[z,e]at q;cases q;exact n];exact q⟩|_=>exact h.elim
def abg{F d o o'}(s:aw (upd F a o) d):aw (upd F a o') (upd d a o'):=λb u e=>by
 by_cases c:b=a;.subst c;rw[ah]at e⊢;exact e
 .rw[ae c]at e⊢;exact s b u (by rw[ae c];exact e)
def xl{F o}(e:F a=some o):upd F a o=F:=by
 funext b;by_cases c:b=a;.subst c;rw[ah,e]
 .rw[ae c]
def Bx.fz(B:Bx)(a:Addr)(od:Obj)(kvs:List (Key×V)):Bx:=⟨B.K,upd B.H0 a (zD od kvs),upd B.F0 a (zD od kvs),λc σ F=>B.xp c σ (upd F a (.dK kvs)),λc σ F f s h=>B.mono c σ _ _ (λb u e=>by
 by_cases d:b=a;.subst d;rw[ah]at e⊢;exact e
 .rw[ae d]at e⊢;exact s b u e) h⟩
theorem RS.fz(R:RS B σ σV F H)(e:F a=some (.dK kvs)):RS (B.fz a od kvs) σ σV (upd F a (zD od kvs)) (upd H a (zD od kvs)):=by
 refine⟨⟨λb u q=>?_,λb u q=>?_,λb u q=>?_,λb u q=>?_⟩,R.len,λi w q=>?_,λi ws q=>?_,R.ap,λi m o q=>?_,R.dd.ad,λi q=>?_⟩
 .by_cases c:b=a;.subst c;rw[ah]at q⊢;exact q
  .rw[ae c]at q⊢;exact R.rb.sub b u q
 .by_cases c:b=a;.subst c;exact(show upd B.H0 b (zD od kvs) b=some u from q)▸by rw[ah,ah]
  .have q:upd B.H0 a (zD od kvs) b=some u:=q;rw[ae c]at q⊢;exact R.rb.base b u q
 .by_cases c:b=a;.subst c;exact(show upd B.F0 b (zD od kvs) b=some u from q)▸by rw[ah,ah]
  .have q:upd B.F0 a (zD od kvs) b=some u:=q;rw[ae c]at q⊢;exact R.rb.fz0 b u q
 .by_cases c:b=a;.subst c;rw[ah]at q;exact .inl (by show upd B.F0 b (zD od kvs) b=_;rw[ah];exact q)
  .rw[ae c]at q;rcases R.rb.fr b u q with z|z;.exact .inl (by show upd B.F0 a (zD od kvs) b=_;rw[ae c];exact z)
   .exact .inr ⟨by show upd B.H0 a (zD od kvs) b=_;rw[ae c];exact z.1,z.2⟩
 .obtain⟨v,f,d⟩:=R.va i w q;exact⟨v,f,d.fz e⟩
 .refine oA (R.ow i ws q) λb k f d h g j=>?_;have c:b≠a:=λz=>by rw[z,e]at d;cases d
  exact aah b k f (by rw[ae c];exact d) (by show upd B.H0 a (zD od kvs) b=_;rw[ae c];exact h) (by rw[ae c];exact g) (j.fz e)
 .refine afz (R.dd.od i m o q) λb l f d h g j p=>?_;have c:b≠a:=λz=>by rw[z,e]at d;cases d
  exact aif b l f (by rw[ae c];exact d) (by show upd B.H0 a (zD od kvs) b=_;rw[ae c];exact h) (by rw[ae c];exact g) (j.fz e) (p.fz e)
 .refine wN (R.dd.ob i q) λb C n f d=>?_;exact adM b C n f (by rw[ae λz=>by rw[z,e]at d;cases d];exact d)
def Was(B:Bx)(a:Addr)(kvs:List (Key×V)):Prop:=(B.F0 a=some (.dK kvs)\/B.H0 a=none/\B.F0 a=none)/\(B.H0 a=none\/B.H0 a=some (.dK kvs))
def RB.was(R:RB B F H)(e:F a=some (.dK kvs)):Was B a kvs:=by
 constructor
 .rcases R.fr a _ e with z|z;.exact .inl z
  .cases q:B.F0 a with|none=>exact .inr ⟨z.1,rfl⟩|some u=>have:=R.fz0 a u q;rw[e]at this;cases this;exact .inl rfl
 .cases q:B.H0 a with|none=>exact .inl rfl|some u=>have:=R.base a u q;rw[R.sub a _ e]at this;cases this;exact .inr rfl
def RB.th(R:RB (B.fz a od kvs) F H)(w:Was B a kvs):F a=some (zD od kvs)/\H a=some (zD od kvs)/\RB B (upd F a (.dK kvs)) (upd H a (.dK kvs)):=by
 have e:=R.fz0 a _ (by show upd B.F0 a (zD od kvs) a=_;rw[ah]);refine⟨e,R.sub a _ e,λb u q=>?_,λb u q=>?_,λb u q=>?_,λb u q=>?_⟩
 .by_cases c:b=a;.subst c;rw[ah]at q⊢;exact q
  .rw[ae c]at q⊢;exact R.sub b u q
 .by_cases c:b=a
  .subst c;rcases w.2 with z|z<;>rw[z]at q;.cases q
   .rw[ah];exact q
  .rw[ae c];exact R.base b u (by show upd B.H0 a (zD od kvs) b=_;rw[ae c];exact q)
 .by_cases c:b=a
  .subst c;rcases w.1 with z|⟨_,z⟩<;>rw[z]at q;.rw[ah];exact q
   .cases q
  .rw[ae c];exact R.fz0 b u (by show upd B.F0 a _ b=_;rw[ae c];exact q)
 .by_cases c:b=a
  .subst c;rw[ah]at q;cases q;rcases w.1 with z|⟨z,_⟩;.exact .inl z
   .exact .inr ⟨z,trivial⟩
  .rw[ae c]at q;rcases R.fr b u q with z|z;.exact .inl (by have:upd B.F0 a (zD od kvs) b=some u:=z;rwa[ae c]at this)
   .exact .inr ⟨by have:upd B.H0 a (zD od kvs) b=none:=z.1;rwa[ae c]at this,z.2⟩
theorem RS.th(R:RS (B.fz a od kvs) σ σV F H)(w:Was B a kvs):RS B σ σV (upd F a (.dK kvs)) (upd H a (.dK kvs)):=by
 refine agz (R.rb.th w) λe s p=>?_;refine⟨p,R.len,λi w q=>?_,λi ws q=>?_,R.ap,λi m o q=>?_,R.dd.ad,λi q=>?_⟩;.obtain⟨v,d,c⟩:=R.va i w q;exact⟨v,d,c.th e⟩
 .refine oA (R.ow i ws q) λb k d c h g j=>?_;have f:b≠a:=λz=>by grind
  exact aah b k d (by rw[ae f];exact c) (by have:upd B.H0 a (zD od kvs) b=none:=h;rwa[ae f]at this) (by rw[ae f];exact g) (j.th e)
 .refine afz (R.dd.od i m o q) λb l d c h g j r=>?_;have f:b≠a:=λz=>by grind
  exact aif b l d (by rw[ae f];exact c) (by have:upd B.H0 a (zD od kvs) b=none:=h;rwa[ae f]at this) (by rw[ae f];exact g) (j.th e) (r.th e)
 .refine wN (R.dd.ob i q) λb C n d c=>?_;exact⟨b,C,n,d,by rw[ae λz=>by rw[z,e]at c;cases c];exact c⟩
end
section
variable{X:Cx}{B:Bx}{a:Addr}{kvs:List (Key×V)}{od:Obj}
def ai2{pins c H s e C dx T f}(t:Thr X pins c H s e C dx f T)(q:H a=some (zD od kvs))(j:∀o u,X.H₀ a≠some (.frz o u)):Thr X pins c (upd H a (.dK kvs)) s e C dx f T:=by
 have d:∀{b},FpX X _ H b->FpX X pins (upd H a (.dK kvs)) b:=λ{b}h=>by obtain⟨i,k⟩:=h;exact⟨by rw[ae λz=>by grind];exact i,k⟩
 exact⟨t.inv.acy q j,t.trc,d t.fe,λu g=>d (t.fT u g)⟩
theorem XW.fz(d:XW X B)(w:Was B a kvs)(h:∀o u,X.H₀ a≠some (.frz o u)):XW X (B.fz a od kvs):=λb l H s f F c R i e C m T n t k=>by obtain⟨j,g,_⟩:=R.rb.th w;exact d _ _ _ s f _ c (R.th w) i e C _ T _ (ai2 t g h) (k.th j)
def akG(D:Ends)(a:Addr)(od:Obj)(kvs:List (Key×V)):Ends:=⟨λb H=>H a=some (zD od kvs)/\D.nx b (upd H a (.dK kvs)),λv H=>H a=some (zD od kvs)/\D.rt v (upd H a (.dK kvs)),λb H=>H a=some (zD od kvs)/\D.bk b (upd H a (.dK kvs)),λb H=>H a=some (zD od kvs)/\D.ct b (upd H a (.dK kvs))⟩
def ajb{pins D}(c:∀o u,X.H₀ a≠some (.frz o u))(f)(s)(h:SP X pins (akG D a od kvs) f s):SP X pins D f s:=by cases f with|next|brk|cont=>obtain⟨b,H,I,e,q⟩:=h;exact⟨b,_,I.acy e c,q⟩|ret u=>refine adC h λv b H I r e q=>?_;exact agA v b _ (I.acy e c) r q
theorem Oq.fz{D F}(e:F a=some (.dK kvs))(w:Was B a kvs){o}(h:Oq B D F o):Oq (B.fz a od kvs) (akG D a od kvs) (upd F a (zD od kvs)) o:=by
 have bk:∀{b},aw (upd F a (zD od kvs)) b->aw F _:=λs=>by have:=abg (o':=.dK kvs) s;rwa[xl e]at this
 cases o with|nx σ|bk σ|ct σ=>exact λd H G R z=>⟨(R.rb.th w).2.1,h _ _ _ (R.th w) (bk z)⟩|rt u=>exact λv H G R z r=>⟨(R.th w).2.1,h v _ _ (R.th w).2.2 (bk z) (r.th (R.th w).1)⟩|ex c σ=>show B.xp c σ _;rw[aaO,xl e];exact h|bad=>exact h
variable{tg l:Expr}{body:List Stmt}{g:GF}{b:SF}{i:Nat}{pos:Pos}
def sy{K ks F}(h:F a=some (zD od kvs))(r:RWs K F ks (kvs.map λp=>kV p.1)):Walk K (Itd a od kvs) ks F:=by have k:=r.length;rw[apv]at k;refine⟨λi x e d j s1 s2=>?_,λd j s1 s2=>⟨s2 _ _ (s1 _ _ h),by omega⟩⟩;refine eM (r.get e) λv c r1=>?_;rw[apz,apr]at c;obtain⟨p,c,rfl⟩:=c;refine⟨⟨s2 _ _ (s1 _ _ h),(ao8.mp c).1⟩,λu o⟨m,n,f,y⟩=>?_⟩;subst m y;rw[c]at f;cases f;exact⟨d,Ext.refl _ _,r1.keep s1⟩
def agL(hK:X.K=B.K)(hp:PassesOwn (model X.prog X.w) X.A X.env X.xe)(hc:X.calm=true)(hx:XW X B)(hl:PE X l (cM i))(hg:∀e,PG X tg (loG false e g))(hb:∀e,e.K=X.K->XW X e->PSs X body (loS e b))(hs:∀x,foldedSetIterable l X.env x=pure x:=by intro _;rfl):PS X (.For tg l body [] pos) (loS B (WL.sY (WL.ait i) g b)):=by
 intro d s k H D I⟨σ,F,R,q⟩;have u:=Oq.ofR q;have C:∀(e:Bx)(S:Ends)(d:List (Addr×Obj))(s:Shared)(U K:Hp)(n us:List VW)(a:Addr)(od:Obj)(kvs:List (Key×V)),e.K=X.K->XW X e->Inv X d k U s->RS e σ k K U->k[i]?=some (some (.ref a))->K a=some (zD od kvs)->RWs e.K K n (kvs.map λp=>kV p.1)->Oq e S K (WL.forL g b n σ)->wpAny (model X.prog X.w) X.A (exec (.For tg l body [] pos) X.env) (SP X d S) X.xe s:=by
  intro e S d s U K n us a od kvs a7 a6 I' R' M e3 Y q';refine xN (wi:=λk H R=>∃J,R J H/\J=Itd a od kvs/\k[i]?=some (some (.ref a))/\H a=some (zD od kvs)) hp hc (PI.imp (abE hl) λk H R a0=>by obtain⟨J,r,ej,M,e3⟩:=a0;exact⟨.ref a,M,a,od,kvs,rfl,e3,by rw[<-ej];exact r⟩) (hg e) (hb e a7 a6) hs d s k U S I' ?_;refine⟨_,?_,rfl,M,R'.rb.sub _ _ e3⟩;have wk:=sy e3 Y;refine⟨λj m t Q=>m=n.length-j/\j<=n.length/\∃z A,RS e z t A Q/\aw K A/\Oq e S A (WL.forL g b (n.drop j) z),⟨n.length,rfl,apC _,σ,K,R',aw.refl _,by rw[aqH];exact q'⟩,?_⟩;rintro j m t Q⟨rfl,hj,z,A,T,s1,q1⟩;by_cases G:j<n.length;.have hd:=apI G;rw[hd]at q1;obtain⟨go,yl⟩:=wk.go j n[j] (apf G) A Q s1 T.rb.sub;refine .inr ⟨go,_,λo H2 h2=>⟨n.length-(j+1),by omega,rfl,G,h2⟩,λv H2 hy=>?_⟩;obtain⟨F2,E2,r2⟩:=yl v H2 hy;have q1:=Oq.ofR q1;refine⟨z,F2,n[j],E2.rs _ _ _ T,r2,Rq.mono E2.same q1 λP q1 a8 H3 F3 R3 g3=>?_⟩;refine⟨P,F3,R3,?_⟩;have s3:=E2.same.trans g3.f;cases y:b P with|nx o|ct o=>rw[y]at q1;exact λE Z N O s4=>⟨o,N,O,(s1.trans s3).trans s4,Oq.mono (s3.trans s4) q1⟩|bk o=>rw[y]at q1;exact λE Z N O s4=>q1 E Z N O (s3.trans s4)|rt w=>rw[y]at q1;exact λv4 Z N O s4=>q1 v4 Z N O (s3.trans s4)|ex c o=>rw[y]at q1;exact e.mono c o A F3 s3 q1|bad=>rw[y]at q1;exact q1
  .have ei:j=n.length:=by omega
   subst ei;rw[aqr]at q1;exact .inl ⟨wk.stop A Q s1 T.rb.sub,q1 t Q A T (aw.refl _)⟩
 unfold WL.ait at u;cases y:σ[i]? with|none=>rw[y]at u;exact(u).elim|some sl=>rw[y]at u;cases sl with
 |va w=>cases w with|dic n us=>
    have u:=u;obtain⟨v,M,r2⟩:=R.va i _ y;simp only[RW]at r2;obtain⟨a,kvs,rfl,rd,Y,ru⟩:=r2;rcases rd with rd|⟨od,rd⟩;.obtain⟨od,I',hn⟩:=I.akx (R.rb.sub _ _ rd);have w:=R.rb.was rd;exact thn (C (B.fz a od kvs) (akG D a od kvs) d s _ _ n us a od kvs hK.symm (hx.fz w hn) I' (R.fz rd) M ah (Y.fz rd) (u.fz rd w)) λf s h=>ajb hn f s h
    .exact C B D d s H F n us a od kvs hK.symm hx I R M rd Y u|_=>exact(u).elim
 |_=>exact(u).elim
end
end WS
namespace PySem
def Heap.IsStrIter.at{h h':Heap}{a ty x t i}(y:h.IsStrIter a ty x t i)(e:∀o,h.get? a=some o->h'.get? a=some o):h'.IsStrIter a ty x t i:=let⟨o,b,r⟩:=y;⟨o,e _ b,r⟩
end PySem
namespace L2
open PySem PySem.Spec PyProof.Rows
noncomputable def Its(x:Str):It:=⟨λi _=>i<x.cps.size,λi H v a=>a=H/\∃c,x.cps[i]?=some c/\v=.str ⟨#[c]⟩,λi _=>x.cps.size<=i⟩
def yY{P:Program}{w:World}{K:W.Frag}{tg:Expr}(it:Addr)(x:Str)(t:Tok):Turn P w K tg (Its x) [it] it λi h=>h.IsStrIter it "str_ascii_iterator" x t i where
 mem:=by simp
 obj:=λi h st b hb=>by
  have e:b=it:=by simpa using hb
  subst e;obtain⟨o,e,c,d⟩:=st;exact⟨o,e,λv z=>by rw[d]at z;cases z⟩
 keep:=λi h h' st k=>st.at λo e=>k it (by simp) o e;item:=by intro X hP hw hK i pins s σ H E hc I hf st hg;subst hP hw hK;have hg:i<x.cps.size:=hg;obtain⟨f0,f1,f2,f3,f4,f5⟩:=hf it (by simp);refine wpAny_pyNext_ascii_item st (c:=x.cps[i]) (ar2 hg) λh' st' sb=>?_;have I1:Inv X pins σ H {s with heap:=h',toks:=s.toks+1}:=I.turned (t':=s.toks+1) (λb o hb e=>(sb.2 b hb).trans e) f0 f1 f3 f4 f5;obtain⟨o,e,c,d⟩:=id st';exact⟨_,rfl,zG (s:={s with heap:=h',toks:=s.toks+1}) e c d (by decide) ⟨.str ⟨#[x.cps[i]]⟩,H,I1,⟨_,rfl⟩,⟨rfl,_,ar2 hg,rfl⟩,st',λb hb=>(hf b hb).1⟩⟩
 done:=by intro X hP hw hK i pins s σ H E hc I hf st hg;subst hP hw hK;have hg:x.cps.size<=i:=hg;obtain⟨f0,f1,f2,f3,f4,f5⟩:=hf it (by simp);exact wpAny_pyNext_ascii_end (I.ok.hd hc) st (Array.getElem?_eq_none hg) λh' eb=>⟨rfl,I.turned (t':=s.toks) (λb o hb e=>eb b o hb e) f0 f1 f3 f4 f5⟩
 self:=λA i s Q E st h=>by refine wpAny_pyIter_slot st.typeIs arv (ap3 arv st.typeIs F.entry_str_ascii_iterator_iter ?_ (F.args_str_ascii_iterator_iter_1 _));show wpAny _ _ (ret (.ref it)) _ _ s;exact ao7 ⟨_,rfl,"str_ascii_iterator",_,st.typeIs,F.slot_str_ascii_iterator_next.lookup,h⟩
def aoR(b:TE):TI:=λc H R=>b c H λv a=>∃x:Str,v=.str x/\x.cps.all (.<128)=true/\R (Its x) a
def aeo{X m l f}(j:PE X l f):PI X m l (aoR f):=by
 intro a s k H R I h;refine thn (j a s k H _ I h) λv s1 d=>?_;obtain⟨z,g,c,r1,x,e,i,q⟩:=d;subst e;obtain⟨t,rfl⟩:=r1;refine wpAny_pyIter_ascii i (aiG s1.heap.objs.size [s1.heap.objs.size] _ _ g rfl (c.kept λb o e=>ao4 _ e) (yY _ x t) ⟨_,apg _ rfl,rfl,rfl⟩ (λb n=>?_) q);have e:b=s1.heap.objs.size:=by grind
 subst e;exact c.aiv (ao6 _) (c.hok.fresh (ao6 _))
def uP{X:Cx}:bP X (.type "dict") λc H Q=>∃a b,c=[.ref a]/\Rd H a (.dK b)/\∀p,H p=none->Q (.ref p) (upd H p (.dK b)):=by
 intro d s l H c g Q I i⟨a,b,e,rd,q⟩;subst e;obtain⟨u,rfl,f⟩:∃u,g=[u]/\RelV (.ref a) u:=by cases i with|cons h t=>cases t;exact⟨_,rfl,h⟩
 cases show u=Value.ref a from f;exact afi I rd λp m j k=>⟨.ref p,_,k,rfl,q p j⟩
def ph{X}:bP X (.builtin "len") λc H Q=>∃a b,c=[.ref a]/\Rd H a (.dK b)/\Q (.int b.length) H:=by
 intro d s k H c g Q I i⟨a,_,e,rd,q⟩;subst e;obtain⟨u,rfl,f⟩:∃u,g=[u]/\RelV (.ref a) u:=by cases i with|cons h t=>cases t;exact⟨_,rfl,h⟩
 cases f;exact anb I rd λt l j=>⟨.int _,H,j,⟨t,rfl⟩,q⟩
end L2
namespace WS
open PySem PySem.Spec PyProof.Rows L2
open WL(Res Sl Ws EF TF AF LF GF GsF SF Out OX RF Rn AXF Dk XE XT)
section
variable{X:Cx}{B:Bx}{K:W.Frag}
def aiN{s e:Expr}{ta:EF}(h:PE X e (lo B ta)):PI X s e (loI B (WL.anW ta)):=PI.imp (aeo h) λz H R b=>by
 obtain⟨j,F,o,q⟩:=b;have q:=Rq.bind q;refine⟨j,F,o,Rq.mono (aw.refl _) q λx a v l u n m r1=>?_⟩
 cases x with|str x=>
  simp only[RW]at r1;have a:Rq B j F (if x.cps.all (.<128)=true then Res.ok (WL.signs x)else .bad) _:=a;by_cases d:x.cps.all (.<128)=true
  .rw[apa d]at a;refine⟨x,r1,d,(show∀J C D,_ from a) _ l u n m ⟨λi y e g w s1 s2=>?_,λg w s1 s2=>by show x.cps.size<=(WL.signs x).length;simp[WL.signs]⟩⟩;unfold WL.signs at e;rw[apz,apr]at e;obtain⟨c,e,rfl⟩:=e;have r:i<x.cps.size:=by have:=(ao8.mp e).1;simpa using this
   refine⟨r,λv A f=>?_⟩;obtain⟨p,t,k,y⟩:=f;subst p y;have:c=t:=by rw[arh]at e;rw[e]at k;exact aps k
   subst this;exact⟨g,Ext.refl _ _,by simp[RW]⟩
  .rw[ao9 d]at a;exact(show False from a).elim|_=>exact(show False from a).elim
def uK:∀a c,WL.aad a≠.ex c:=λa c h=>by
 unfold WL.aad at h;split at h;.split at h<;>cases h
 .cases h
 .exact rW _ _ h
set_option tactic.hygienic true in
def afJ(m:X.K=K):bP X (.builtin "len") (loN K WL.aad):=by
 intro b s c H l e Q I f⟨F,ws,i,r,q⟩;unfold WL.aad at q;split at q
 .split at q;.rename_i x k;obtain⟨v,rfl,h⟩:=cw r;exact uM b s c H _ e Q I f ⟨x,by rw[h],apb k cH,eq1 q (rfl)⟩
  .exact q.elim
 .obtain⟨v,rfl,h⟩:=cw r;refine oE h λa g d rd j _=>?_;subst d;have:=j.length;exact ph _ s c H _ e Q I f ⟨a,g,rfl,i.rd rd,eq1 q (by simp[RW,this])⟩
 .exact ag0 m b s c H l e Q I f ⟨F,_,i,r,q⟩
def afm:Calm WL.aeA:=λx y c h=>by
 unfold WL.aeA at h;split at h
 .split at h;.split at h<;>cases h
  .cases h
 .exact wC _ _ _ h
set_option tactic.hygienic true in
def alQ(m:X.K=K):IxR X (lo2 K WL.aeA):=by
 intro a b d s f H x y v u Q I g h⟨F,wx,n,l,r1,r2,q⟩j;unfold WL.aeA at q;split at q
 .rename_i z i;split at q
  .rename_i k;split at q;.rename_i c e;simp only[RW]at r1 r2;exact akn a b d s f H x y v u Q I g h ⟨z,i,c,r1,r2,apb k cH,e,eq1 q (by simp[RW])⟩ j
   .exact q.elim
  .exact q.elim
 .exact alS m a b d s f H x y v u Q I g h ⟨F,_,_,l,r1,r2,q⟩ j
def afo:Calm WL.ajU:=λx y c h=>by
 unfold WL.ajU at h;split at h;.cases h
 .cases h
 .exact kx _ _ _ h
set_option tactic.hygienic true in
def alT(i:X.K=K)(g:X.A.units+64<cLine):OpR X (compareOp .In) (lo2 K WL.ajU):=by
 intro d s c H x y v u Q I e f⟨F,wx,j,h,r1,r2,q⟩;unfold WL.ajU at q;split at q;.rename_i a b;exact abO _ s c H x y v u Q I e f ⟨a,b,r1,r2,eq1 q (rfl)⟩
 .exact q.elim
 .exact aih i g _ s c H x y v u Q I e f (r9 F _ _ h r1 r2 q)
noncomputable def kW:Key->VW|.inl none=>.non|.inl (some i)=>.int i|.inr z=>.str z
def p7{F x a}(h:RW K F x (kV a)):x=kW a:=by rcases a with(_|i)|z<;>cases x<;>simp only[kV,RW,reduceCtorEq,false_and,exists_false]at h<;>cases h<;>rfl
def rn{F x y}:∀{a b},RW K F x (kV a)->RW K F y (kV b)->WL.zC x y=decide (a=b):=by intro a b d c;rw[p7 d,p7 c,ap7];rcases a with(_|i)|z<;>rcases b with(_|j)|e<;>simp[WL.zC,kW]
set_option tactic.hygienic true in
def ym{F}{k:VW}{v}(hk:WL.aal k=true)(r:RW K F k v):∃a,v=kV a:=by
 cases k<;>simp [WL.aal]at hk;.exact⟨.inl none,r⟩
 .rename_i i;exact⟨.inl (some i),r⟩
 .rename_i x;exact⟨.inr x,r⟩
theorem wt{F k a}(b:RW K F k (kV a)):∀{kvs:List (Key×V)}{ks},RWs K F ks (kvs.map λp=>kV p.1)->WL.aiw k ks=kvs.any λc=>decide (c.1=a)
|[],ks,r=>by cases ks with|nil=>rfl|cons x ks=>simp[RWs]at r
|p::kvs,ks,r=>by cases ks with|nil=>simp[RWs]at r|cons x ks=>obtain⟨v1,e,d,q1,s1⟩:=r;cases d;show(WL.zC x k||WL.aiw k _)=_;rw[rn q1 b,wt b s1];rfl
theorem ac8{F k w a v}(c:RW K F k (kV a))(f:RW K F w v):∀{kvs:List (Key×V)}{ks us},RWs K F ks (kvs.map λp=>kV p.1)->RWs K F us (kvs.map λp=>p.2)->RWs K F ks ((kvs.map λb=>if b.1=a then(b.1,v)else b).map λp=>kV p.1)/\RWs K F (WL.afj k w ks us) ((kvs.map λb=>if b.1=a then(b.1,v)else b).map λp=>p.2)
|[],ks,us,r1,r2=>by cases ks with
 |nil=>cases us with|nil=>exact⟨r1,r2⟩|cons _ _=>simp[RWs]at r2
 |cons x ks=>simp[RWs]at r1
|p::kvs,ks,us,r1,r2=>by cases ks with|nil=>simp[RWs]at r1|cons x ks=>cases us with|nil=>simp[RWs]at r2|cons y us=>
    obtain⟨v1,m,j,q1,s1⟩:=r1;obtain⟨v2,l,i,q2,s2⟩:=r2;cases j;cases i;obtain⟨d,g⟩:=ac8 c f s1 s2;have e:=rn q1 c;unfold WL.afj;rw[e];by_cases h:p.1=a;.rw[arA h,apa rfl];simp only[apA,apa h];exact⟨.cons q1 d,.cons f g⟩
    .rw[apJ h,ao9 apo];simp only[apA,ao9 h];exact⟨.cons q1 d,.cons q2 g⟩
def abt{F k w a v}(b:RW K F k (kV a))(c:RW K F w v){kvs ks us}(r1:RWs K F ks (kvs.map λp=>kV p.1))(r2:RWs K F us (kvs.map λp=>p.2)):RWs K F (WL.putK ks k) ((putK kvs a v).map λp=>kV p.1)/\RWs K F (WL.af5 ks us k w) ((putK kvs a v).map λp=>p.2):=by
 unfold WL.putK WL.af5 L2.putK;rw[wt b r1];by_cases h:(kvs.any λd=>decide (d.1=a))=true;.rw[apa h,apa h,apa h];exact ac8 b c r1 r2
 .rw[ao9 h,ao9 h,ao9 h,asq,asq];exact⟨r1.app (.one b),r2.app (.one c)⟩
variable{i:Nat}{pos pos':Pos}
def aaz{o n b tv tk}(P:X.A.units+1<cLine)(J:PE X o (cM i))(G:PE X n (lo B tk))(E:PE X b (lo B tv))(O:swapsWith b (some (.Subscript o n pos')) pos.line X.env=pure false:=by rfl):PS X (.Assign [.Subscript o n pos'] b pos) (loS B (WL.iB i tv tk)):=PS.imp (abx P J G E O) λD p H h=>by refine dv h λc F R q=>?_;have q:Oq B D F (match c[i]? with|some (.od ks us)=>WL.ofR c (tv c) _|_=>.bad):=q;cases e:c[i]? with|none=>rw[e]at q;exact q.elim|some sl=>
 rw[e]at q;cases sl with|od ks us=>
   have q:=Oq.ofR q;refine⟨c,F,R,Rq.mono (aw.refl _) q λw l v S N s r r1=>?_⟩;refine dv (s.dd.od i ks us e) λa Q m _=>?_;refine⟨.ref a,m,?_⟩;have l:=Oq.ofR l;refine⟨c,N,s,Rq.mono r.f l λk d y U A R2 t r2=>?_⟩;refine afz (R2.dd.od i ks us e) λT f k1 k2 k3 z u M=>?_;rw[m]at k1;cases k1;have d:Oq B D F (if WL.aal k=true/\ks.length<WL.lim then .nx _ else .bad):=d;by_cases g:WL.aal k=true/\ks.length<WL.lim
   .rw[apa g]at d;obtain⟨I,rfl⟩:=ym g.1 r2;have C:f.length<sizeLine:=by have:=u.length;rw[apv]at this;rw[<-this];exact apd g.2 cH
    obtain⟨p1,p2⟩:=abt r2 (r1.keep t.f) u M;exact⟨a,_,rfl,aiB.k z C,d p _ A (R2.afE e m k2 k3 z p1 p2) (r.f.trans t.f)⟩
   .rw[ao9 g]at d;exact d.elim|_=>exact q.elim
end
end WS
set_option autoImplicit true
set_option relaxedAutoImplicit true
namespace L2
open PySem PySem.Spec PyProof.Rows
section
variable{X:Cx}{k:Nat}{f C:Addr}{fd:FuncData}{ps:List Str}{sp:Sp}{dvs:List V}{ds:List Value}{x:Str}{p pos:Pos}{e:Expr}{es:List Expr}{t:TA}
def afQ(X:Cx)(C:Addr)(sp:Sp)(dvs:List V)(t:TA):TE:=λg H Q=>t g H λl d=>∀x c,d x=none->d c=none->c≠x->∃E:XK,sp (.ref x::(l++dvs)) (upd (upd d c (.own x)) x (.ins C c [])) (λv j=>v=.non/\Q (.ref x) j) E/\∀a s e i b T h,Thr X a g h s e i b .none (some T)->E (.ref i) b h->X.xe (.ref e) s
def qL(M:Mk X.K C f)(F:FnOk X.prog X.w X.K X.mg X.base (CXX X.prog X.w) k f fd ps sp)(G:Room (k+1) X.A)(U:Gl X x)(R:X.mg x=some (.ref C))(J:Binds X.K fd ps ds)(D:Vals dvs ds)(K:PA X (e::es) t)(l:Dbg x:=by decide)(o:SE X e es:=by rfl)(i:BT X pos es:=by rfl):PE X (.Call (.Name x p) (e::es) [] pos) (afQ X C sp dvs t):=by
 intro b P A z Q j Z;refine ap5 (cE j U R ?_ l);refine ar9 j.ok.mod.kin M.kp (thn (K pos b P A z _ j Z) λc s⟨Y,H,I,r,h⟩=>⟨I.kIn,?_⟩) o i;obtain⟨E,n,w⟩:=h (s.heap.objs.size+1) s.heap.objs.size (I.hok.fresh (aqz _)) (I.hok.fresh (ao6 _)) (api (aqJ _));have d:=Inv.made (C:=C) I;have r2:Vals (V.ref (s.heap.objs.size+1)::(Y++dvs)) (Value.ref (s.heap.objs.size+1)::(c++ds)):=.cons rfl (r.append D);have y:=by have e:=r2.length;rw[F.len _ _ _ _ n]at e;exact e.symm
 refine aqm (x9 I.kIn M.makes M.init (ap2.mp M.fn) (aqE (F.run _ X.stack _ _ _ (Value.ref (s.heap.objs.size+1)::(c++ds)) _ _ E (G.make C c []) trivial (d.akF.make C c []) (J _ (Value.ref (s.heap.objs.size+1)::c) d.kIn y) r2 n) λr O a=>?_));cases r with|error e=>obtain⟨ea,N,m,T,g,rfl,t,q⟩:=d.thrown a;exact w b O ea N m T g t q|ok fl=>cases fl with|ret u=>obtain⟨v,g,S,B,ev,q3⟩:=d.after a;subst ev;exact⟨B,⟨V.ref (s.heap.objs.size+1),g,S,rfl,q3⟩⟩|next=>exact False.elim a|brk=>exact False.elim a|cont=>exact False.elim a
end
end L2
namespace WS
open PySem PySem.Spec PyProof.Rows L2
open WL(Res Sl Ws EF TF AF LF GF GsF SF Out OX RF Rn AXF Dk XE XT)
section
variable{B B1:Bx}{σ:Ws}{σV:L2.St}{F H F' H':Hp}
def RB.aed(R:RB B1 F' H')(d:B1.H0=H)(c:B1.F0=F)(b:RB B F H):RB B F' H':=by
 subst d c;refine⟨R.sub,b.base.trans R.base,b.fz0.trans R.fz0,λa o e=>?_⟩;rcases R.fr a o e with z|z;.exact b.fr a o z
 .exact .inr ⟨b.base.free z.1,z.2⟩
theorem RS.aed(R:RS B1 σ σV F' H')(d:B1.K=B.K)(k:B1.H0=H)(m:B1.F0=F)(j:RB B F H):RS B σ σV F' H':=by
 refine⟨R.rb.aed k m j,R.len,λi w e=>?_,λi ws e=>?_,R.ap,λi p q e=>?_,R.dd.ad,R.dd.ob⟩;.obtain⟨v,b,c⟩:=R.va i w e;exact⟨v,b,d▸c⟩
 .refine oA (R.ow i _ e) λa o b c g f h=>?_;exact aah a o b c (j.base.free (k▸g)) f (d▸h)
 .refine afz (R.dd.od i _ _ e) λa l b c g f h n=>?_;exact aif a l b c (j.base.free (k▸g)) f (d▸h) (d▸n)
def RS.front (R:RS B σ (σV++r) F H)(E:σV.length=k):RS B (σ.take k) σV F H:=by
 subst E;have b:∀{i:Nat}{p:Sl},(σ.take σV.length)[i]?=some p->σ[i]?=some p/\(σV++r)[i]?=σV[i]?:=λ{i p}e=>by
  have y:i<σV.length:=by have:=(ao8.mp e).1;rw[aqK]at this;omega
  rw[asa y]at e;exact⟨e,apt y⟩
 have s:=R.len;refine⟨R.rb,by rw[aqK,s,apR];omega,λi w e=>?_,λi ws e=>?_,λi j ws m a u c d n t=>?_,λi x z e=>?_,λi j x z I D a u c d n t=>?_,λi e=>?_⟩;.obtain⟨c,d⟩:=b e;obtain⟨v,g,h⟩:=R.va i w c;exact⟨v,d▸g,h⟩
 .obtain⟨c,d⟩:=b e;obtain⟨a,A,g,h⟩:=R.ow i ws c;exact⟨a,A,d▸g,h⟩
 .obtain⟨c,f⟩:=b c;obtain⟨q,o⟩:=b d;exact R.ap i j ws m a u c q (f.trans n) (o.trans t)
 .obtain⟨c,d⟩:=b e;obtain⟨a,l,g,h⟩:=R.dd.od i x z c;exact⟨a,l,d▸g,h⟩
 .obtain⟨c,f⟩:=b c;obtain⟨q,o⟩:=b d;exact R.dd.ad i j _ _ _ _ a u c q (f.trans n) (o.trans t)
 .obtain⟨c,d⟩:=b e;obtain⟨a,C,G,g,h⟩:=R.dd.ob i c;exact⟨a,C,G,d▸g,h⟩
def RS.snoc(R:RS B σ σV F H):RS B (σ++[.no]) (σV++[none]) F H:=by
 have b:∀{i:Nat}{m:Sl},(σ++[Sl.no])[i]?=some m->m≠.no->σ[i]?=some m/\(σV++[none])[i]?=σV[i]?:=λ{i m}e k=>by
  by_cases x:i<σ.length;.rw[apt x]at e;exact⟨e,apt (by rw[<-R.len];exact x)⟩
  .rw[apy (by omega)]at e;cases u:i-σ.length with|zero=>rw[u]at e;cases e;exact(k rfl).elim|succ n=>rw[u]at e;cases e
 refine⟨R.rb,by simp[R.len],λi w e=>?_,λi ws e=>?_,λi j ws o a k c d p s=>?_,λi t y e=>?_,λi j t y G D a k c d p s=>?_,λi e=>?_⟩;.obtain⟨c,d⟩:=b e λz=>nomatch z;obtain⟨v,g,h⟩:=R.va i w c;exact⟨v,d.trans g,h⟩
 .obtain⟨c,d⟩:=b e λz=>nomatch z;refine dv (R.ow i ws c) λa A g h=>?_;exact⟨a,A,d.trans g,h⟩
 .obtain⟨c,f⟩:=b c λz=>nomatch z;obtain⟨r,q⟩:=b d λz=>nomatch z;exact R.ap i j ws o a k c r (f.symm.trans p) (q.symm.trans s)
 .obtain⟨c,d⟩:=b e λz=>nomatch z;refine dv (R.dd.od i t y c) λa l g h=>?_;exact dI a l (d.trans g) h
 .obtain⟨c,f⟩:=b c λz=>nomatch z;obtain⟨r,q⟩:=b d λz=>nomatch z;exact R.dd.ad i j _ _ _ _ a k c r (f.symm.trans p) (q.symm.trans s)
 .obtain⟨c,d⟩:=b e λz=>nomatch z;refine wN (R.dd.ob i c) λa C E g h=>?_;exact⟨a,C,E,d.trans g,h⟩
structure Ex(f:Str)(x C dx d:Addr)(σV:L2.St)(F H:Hp):Prop where
 sl:σV[0]?=some (some (.ref x))F:F x=none
 H:H x=some (.ins C dx [(f,.ref d)])
def Oq4(B:Bx)(f:Str)(x C dx:Addr)(D:Ends)(F:Hp):Out->Prop|.nx σ'=>∀a d H' F',a.length=3->RS B σ' (a++[some (.ref d)]) F' H'->Ex f x C dx d a F' H'->aw F F'->D.nx a H'|.ex c σ'=>B.xp c σ' F|_=>False
def anS(B:Bx)(f:Str)(x C dx:Addr)(t:SF):TS:=λD σV H=>∃σ d F,σV.length=3/\RS B σ (σV++[some (.ref d)]) F H/\Ex f x C dx d σV F H/\Oq4 B f x C dx D F (t σ)
theorem Oq4.mono{f x C dx D F F' o}(s:aw F F')(h:Oq4 B f x C dx D F o):Oq4 B f x C dx D F' o:=by cases o with|nx σ=>exact λσV d H G a R ex z=>h _ d H G a R ex (s.trans z)|ex c σ=>exact B.mono c σ F _ s h|_=>exact h
end
section
variable{X:Cx}{B:Bx}{f:Str}{x C dx:Addr}{self texts name value tg:Expr}{tv:EF}{ap sp apos pos:Pos}
def agK(hK:X.K=B.K)(hx:XW X B)(J:∀c a M F,B.xp c a F->B.xp c M F)(hu:X.A.units+1<cLine)(h:PE X self (cM 0))(j:PE X name (cM 2))(hv:∀N,N.K=X.K->XW X N->PE X value (lo N tv))(hb:attributeBase self f X.env (eval self X.env)=eval self X.env)(cl:Cls X.K C)(na:aI X.K C f)(K:swapsWith value (some (.Subscript (.Attribute self f ap) name sp)) apos.line X.env=pure false):PS X (.Assign [.Subscript (.Attribute self f ap) name sp] value apos) (anS B f x C dx (WL.iB 3 (WL.adE tv) (WL.ai 2))):=by intro g s b H D I⟨a,d,F,u,R,ex,q⟩;have q:Oq4 B f x C dx D F (match(a[3]?:Option Sl)with|some (.od ks us)=>WL.ofR a (WL.adE tv a) _|_=>.bad):=q;cases n:a[3]? with|none=>rw[n]at q;exact(q).elim|some sl=>rw[n]at q;cases sl with
 |od ks us=>
   have q:=q;let B1:Bx:=⟨B.K,H,F,B.xp,B.mono⟩;have P:XW X B1:=λg b Z s a F1 c r xp e C dx T fl t xr=>hx g b Z s a F1 c (r.aed rfl rfl rfl R.rb) xp e C dx T fl t xr;have r:RS B1 (WL.zr (a.take 3)) b F H:=(R.front u).zr rfl rfl rfl;have Y:(b++[some (V.ref d)])[3]?=some (some (.ref d)):=by rw[apy (by omega),u];rfl
   refine abx hu (kU h hb) j (hv B1 hK.symm P) K g s b H D I ?_;refine dI _ F r ?_;have q:Oq4 B f x C dx D F (WL.ofR a (tv (WL.zr (a.take 3))) λv=>WL.ofR a (WL.ai 2 a) λk=>WL.putD 3 ks us k v a):=q;cases A:tv (WL.zr (a.take 3))with|bad=>rw[A]at q;exact q|ex c=>rw[A]at q;exact J c _ _ F q|ok w=>rw[A]at q;intro v H2 F2 R2 m r2;have q:=q;have i:=m.h _ _ ex.H;refine⟨.ref x,ex.sl,x,C,dx,[(f,.ref d)],.ref d,rfl,i,cl,na,by simp[List.lookup],?_⟩;have E:=R.grow m (R2.rb.aed rfl rfl R.rb);cases G:a[2]? with|none=>unfold WL.ai at q;rw[G]at q;exact(q).elim|some sl=>
     unfold WL.ai at q
     rw[G]at q;cases sl with|va k=>
      have q:Oq4 B f x C dx D F (if WL.aal k=true/\ks.length<WL.lim then .nx (a.set 3 (.od (WL.putK ks k) (WL.af5 ks us k w)))else .bad):=q;refine eM (E.va 2 k G) λy U Q=>?_;rw[apt (by omega)]at U;refine⟨y,U,?_⟩;by_cases p:WL.aal k=true/\ks.length<WL.lim
      .rw[apa p]at q;obtain⟨a0,rfl⟩:=ym p.1 Q;refine afz (E.dd.od 3 ks us n) λa' O k1 k2 k3 o S k6=>?_;rw[Y]at k1;cases k1;have l:O.length<sizeLine:=by have:=S.length;rw[apv]at this;rw[<-this];exact apd p.2 cH
       obtain⟨p1,p2⟩:=abt Q r2 S k6;refine⟨d,_,rfl,aiB.k o l,q b d _ F2 u (E.afE n Y k2 k3 o p1 p2) ⟨ex.sl,?_,?_⟩ m.f⟩;.exact m.nf x _ ex.H ex.F
       .rw[ae λz=>by rw[<-z,i]at o;cases o];exact i
      .rw[ao9 p]at q;exact(q).elim|_=>exact(q).elim
 |_=>exact(q).elim
theorem Oq4.fz   (e:F a=some (.dK kvs))(w:Was B a kvs)(b:x≠a)(h:Oq4 B f x C dx D F o):Oq4 (B.fz a od kvs) f x C dx (akG D a od kvs) (upd F a (zD od kvs)) o:=by
 have bk:∀{g},aw (upd F a (zD od kvs)) g->aw F _:=λs=>by have:=abg (o':=.dK kvs) s;rwa[xl e]at this
 cases o with|nx σ=>exact λj d H G i R ex z=>⟨(R.rb.th w).2.1,h _ d _ _ i (R.th w) ⟨ex.sl,by rw[ae b];exact ex.F,by rw[ae b];exact ex.H⟩ (bk z)⟩|ex c σ=>show B.xp c σ _;rw[aaO,xl e];exact h|_=>exact h
set_option tactic.hygienic true in
def xH  :(∀a,WL.iB i ev ek σ≠.ct a)/\∀a,WL.iB i ev ek σ≠.bk a:=by
 unfold WL.iB;split;.cases ev σ with
 |ok v=>cases ek σ with|ok k=>rename_i b d _;show(∀a,(if WL.aal k=true/\b.length<WL.lim then Out.nx _ else .bad)≠.ct a)/\∀a,(if WL.aal k=true/\b.length<WL.lim then Out.nx _ else .bad)≠.bk a;split<;>exact⟨λ_ z=>(by cases z),λ_ z=>by grind⟩|ex c=>exact⟨λ_ z=>(by cases z),λ_ z=>by cases z⟩|bad=>exact⟨λ_ z=>(by cases z),λ_ z=>by cases z⟩
 |ex c=>exact⟨λ_ z=>(by cases z),λ_ z=>by cases z⟩|bad=>exact⟨λ_ z=>(by cases z),λ_ z=>by cases z⟩
 .exact⟨λ_ z=>(by cases z),λ_ z=>by grind⟩
def agM(hK:X.K=B.K)(hp:PassesOwn (model X.prog X.w) X.A X.env X.xe)(hc:X.calm=true)(hx:XW X B)(a6:∀c y b F,B.xp c y F->B.xp c b F)(hu:X.A.units+1<cLine)(b9:PE X texts (cM 1))(O:PE X self (cM 0))(S:PE X name (cM 2))(hg:PG X tg (L2.aN 2))(hv:∀t,t.K=X.K->XW X t->PE X value (lo t tv))(hb:attributeBase self f X.env (eval self X.env)=eval self X.env)(cl:Cls X.K C)(na:aI X.K C f)(c4:swapsWith value (some (.Subscript (.Attribute self f ap) name sp)) apos.line X.env=pure false)(hs:∀x,foldedSetIterable texts X.env x=pure x:=by intro _;rfl):PS X (.For tg texts [.Assign [.Subscript (.Attribute self f ap) name sp] value apos] [] pos) (anS B f x C dx (WL.ab5 tv)):=by
 intro e s u H D I⟨y,d,F,hl,R,ex,q⟩;have M:∀(t:Bx)(Y:Ends)(e:List (Addr×Obj))(s:Shared)(Z K:Hp)(l:List VW)(a:Addr)(od:Obj)(k:List (Key×V)),t.K=X.K->XW X t->(∀c y b F,t.xp c y F->t.xp c b F)->Inv X e u Z s->RS t y (u++[some (.ref d)]) K Z->Ex f x C dx d u K Z->u[1]?=some (some (.ref a))->K a=some (zD od k)->RWs t.K K l (k.map λp=>kV p.1)->Oq4 t f x C dx Y K (WL.forL (WL.aN 2) (WL.iB 3 (WL.adE tv) (WL.ai 2)) l y)->wpAny (model X.prog X.w) X.A (exec (.For tg texts [.Assign [.Subscript (.Attribute self f ap) name sp] value apos] [] pos) X.env) (SP X e Y) X.xe s:=by
  intro t Y e s Z K l a od k b0 a9 a0 I' R' c0 Q e3 rk q';refine xN (wi:=λu H R=>∃J,R J H/\J=Itd a od k/\u[1]?=some (some (.ref a))/\H a=some (zD od k)) hp hc (PI.imp (abE b9) λu H R a8=>by obtain⟨J,r,ej,Q,e3⟩:=a8;exact⟨.ref a,Q,a,od,k,rfl,e3,by rw[<-ej];exact r⟩) hg (dF (agK (x:=x) (dx:=dx) b0.symm a9 a0 hu O S hv hb cl na c4)) hs e s u Z Y I' ?_;refine⟨_,?_,rfl,Q,R'.rb.sub _ _ e3⟩;have wk:=sy e3 rk;refine⟨λj m n U=>m=l.length-j/\j<=l.length/\∃b T A,n.length=3/\RS t b (n++[some (.ref T)]) A U/\Ex f x C dx T n A U/\aw K A/\Oq4 t f x C dx Y A (WL.forL (WL.aN 2) (WL.iB 3 (WL.adE tv) (WL.ai 2)) (l.drop j) b),⟨l.length,rfl,apC _,y,d,K,hl,R',c0,aw.refl _,by rw[aqH];exact q'⟩,?_⟩;rintro j m n U⟨rfl,hj,b,T,A,a7,R1,G,s1,q1⟩;by_cases E:j<l.length
  .have hd:=apI E;rw[hd]at q1;obtain⟨go,yl⟩:=wk.go j l[j] (apf E) A U s1 R1.rb.sub;refine .inr ⟨go,_,λg H2 h2=>⟨l.length-(j+1),by omega,rfl,E,h2⟩,λv H2 hy=>?_⟩;obtain⟨e4,p,e5,e6⟩:=hy;subst e4 e6;have hr:RW t.K A l[j] (kV p.1):=by obtain⟨v',h1,h2⟩:=rk.get (apf E);rw[apz,e5]at h1;cases h1;exact h2.keep s1
   have R2:RS t (b.set 2 (.va l[j])) (n.set 2 (some (kV p.1))++[some (.ref T)]) A H2:=by have:=R1.set (i:=2) hr;rwa[List.set_append_left _ _ (by omega)]at this
   refine⟨b.set 2 (.va l[j]),T,A,by rw[arw];exact a7,R2,⟨by rw[ao5 (by decide)];exact G.sl,G.F,G.H⟩,?_⟩;have q1:Oq4 t f x C dx Y A (match WL.iB 3 (WL.adE tv) (WL.ai 2) (b.set 2 (.va l[j]))with|.nx g=>WL.forL (WL.aN 2) (WL.iB 3 (WL.adE tv) (WL.ai 2)) (l.drop (j+1)) g|.ct g=>WL.forL (WL.aN 2) (WL.iB 3 (WL.adE tv) (WL.ai 2)) (l.drop (j+1)) g|.bk g=>.nx g|o=>o):=q1;cases N:WL.iB 3 (WL.adE tv) (WL.ai 2) (b.set 2 (.va l[j]))with|nx g=>rw[N]at q1;exact λc6 d4 H4 F4 c5 R4 b8 s4=>⟨g,d4,F4,c5,R4,b8,s1.trans s4,Oq4.mono s4 q1⟩|ex c g|bad|rt w=>rw[N]at q1;exact q1|ct g=>exact(xH.1 _ N).elim|bk g=>exact(xH.2 _ N).elim
  .have ei:j=l.length:=by omega
   subst ei;rw[aqr]at q1;exact .inl ⟨wk.stop A U s1 R1.rb.sub,q1 n T U A a7 R1 G (aw.refl _)⟩
 have q:Oq4 B f x C dx D F (WL.ofR y (WL.ait 1 y) λxs=>WL.forL (WL.aN 2) (WL.iB 3 (WL.adE tv) (WL.ai 2)) xs y):=q;unfold WL.ait at q;cases N:y[1]? with|none=>rw[N]at q;exact(q).elim|some sl=>rw[N]at q;cases sl with
 |va w=>cases w with|dic l us=>
    have q:=q;obtain⟨v,Q,r2⟩:=R.va 1 _ N;rw[apt (by omega)]at Q;simp only[RW]at r2;obtain⟨a,k,rfl,rd,rk,ru⟩:=r2;rcases rd with rd|⟨od,rd⟩
    .obtain⟨od,I',hn⟩:=I.akx (R.rb.sub _ _ rd);have w:=R.rb.was rd;have P:x≠a:=λz=>by have:=ex.F;rw[z,rd]at this;cases this
     exact thn (M (B.fz a od k) (akG D a od k) e s _ _ l a od k hK.symm (hx.fz w hn) (λc y b F h=>a6 c y b _ h) I' (R.fz rd) ⟨ex.sl,by rw[ae P];exact ex.F,by rw[ae P];exact ex.H⟩ Q ah (rk.fz rd) (q.fz rd w P)) λf s h=>ajb hn f s h
    .exact M B D e s H F l a od k hK.symm hx a6 I R ex Q rd rk q|_=>exact(q).elim
 |_=>exact(q).elim
end
noncomputable def jh(H:Hp)(x:Addr):Hp:=λb=>if b=x then none else H b
def cF{H x b}(h:b≠x):jh H x b=H b:=ao9 h
def nN :jh H x x=none:=apa rfl
def rA{H x b o}(h:jh H x b=some o):b≠x/\H b=some o:=by
 by_cases a:b=x;.subst a;rw[nN]at h;cases h
 .rw[cF a]at h;exact⟨a,h⟩
def aeZ  (h:F x=none):jh (upd F x o) x=F:=by
 funext b;by_cases a:b=x;.subst a;rw[nN,h]
 .rw[cF a,ae a]
def acs (s:aw F F'):aw (jh F x) (jh F' x):=λb o e=>by obtain⟨c,a⟩:=rA e;rw[cF c];exact s b o a
section
variable{K:W.Frag}{F:Hp}{x:Addr}{C dx:Addr}
def RWs.ahJ{a}(h:∀b o,F b=some o->a b=some o\/∃C dx,o=.ins C dx []){ws vs}(r:RWs K F ws vs):RWs K a ws vs:=by
 have k:∀{b}{o:HO},F b=some o->(∀C dx,o≠.ins C dx [])->a b=some o:=λ{b o}e n=>by grind
 refine RWs.via (λb c q=>?_) (λb c q=>?_) (λb g q=>?_) (λb d q=>k q λ_ _ z=>nomatch z) (λb d q=>k q λ_ _ z=>nomatch z) (λb C dx l i q=>k q λj f z=>by grind) ws vs r
 .rcases q with(q|⟨o,q⟩)|q;.exact .inl (.inl (k q λ_ _ z=>nomatch z))
  .exact .inl (.inr ⟨o,k q λ_ _ z=>nomatch z⟩)
  .exact .inr q
 .rcases q with(q|⟨o,q⟩)|q;.exact .inl (.inl (k q λ_ _ z=>nomatch z))
  .exact .inl (.inr ⟨o,k q λ_ _ z=>nomatch z⟩)
  .exact .inr q
 .rcases q with q|⟨o,q⟩;.exact .inl (k q λ_ _ z=>nomatch z)
  .exact .inr ⟨o,k q λ_ _ z=>nomatch z⟩
def RWs.out(e:F x=some (.ins C dx [])){ws vs}(r:RWs K F ws vs):RWs K (jh F x) ws vs:=r.ahJ λb o q=>by
 by_cases a:b=x;.subst a;rw[e]at q;cases q;exact .inr ⟨_,_,rfl⟩
 .exact .inl (by rw[cF a];exact q)
theorem XR.out(e:F x=some (.ins C dx [])){c f g}(h:XR K F c f g):XR K (jh F x) c f g:=by cases c with|exc nm fs=>obtain⟨k,j,n,l,i,m⟩:=h;exact⟨k,_,n,l.out e,i.imp id λa=>by obtain⟨d,z1,z2⟩:=a;exact⟨d,z1,by rw[cF λz=>by grind];exact z2⟩,m.via λb o p q=>by rw[cF λz=>by rw[z,e]at q;cases q;exact p];exact q⟩|_=>exact h.elim
end
section
variable{B B1:Bx}{σ:Ws}{σV:L2.St}{F H F1 H1:Hp}{x C dx:Addr}
def RB.out(R:RB B1 F H)(f:B1.H0=H1)(c:B1.F0=upd F1 x (.ins C dx []))(h:F1 x=none)(g:B.H0=jh H1 x)(d:B.F0=F1):RB B (jh F x) H:=by
 refine⟨λb o e=>R.sub b o (rA e).2,λb o e=>?_,λb o e=>?_,λb o e=>?_⟩;.rw[g]at e;exact R.base b o (by rw[f];exact(rA e).2)
 .rw[d]at e;have a:b≠x:=λz=>by grind
  rw[cF a];exact R.fz0 b o (by rw[c,ae a];exact e)
 .obtain⟨a,e⟩:=rA e;rw[g,d];rcases R.fr b o e with z|z;.rw[c,ae a]at z;exact .inl z
  .exact .inr ⟨by rw[cF a,<-f];exact z.1,z.2⟩
theorem RS.clr(R:RS B1 σ σV F H)(r:B1.K=B.K)(l:F x=some (.ins C dx []))(o:RB B (jh F x) H):RS B (WL.clr σ) σV (jh F x) H:=by
 have b:∀{i:Nat}{d},(WL.clr σ)[i]?=some d->d=.no\/∃w,d=.va w/\σ[i]?=some (.va w):=λ{i d}e=>by unfold WL.clr at e;rw[apz]at e;cases g:σ[i]? with|none=>rw[g]at e;cases e|some s0=>rw[g]at e;have e:=aps e;subst e;cases s0 with|va w=>exact .inr ⟨w,rfl,rfl⟩|_=>exact .inl rfl
 refine⟨o,by rw[<-R.len];simp[WL.clr],λi w e=>?_,λi ws e=>?_,λi j ws h a _ f=>?_,λi k n e=>?_,λi j k n _ _ a _ f=>?_,λi e=>?_⟩
 .rcases b e with z|⟨c,z,q⟩;.cases z
  .cases z;obtain⟨v,m,p⟩:=R.va i w q;exact⟨v,m,by rw[<-r];exact RW.one ((RWs.one p).out l)⟩
 .rcases b e with z|⟨c,z,_⟩<;>cases z
 .rcases b f with z|⟨c,z,_⟩<;>cases z
 .rcases b e with z|⟨c,z,_⟩<;>cases z
 .rcases b f with z|⟨c,z,_⟩<;>cases z
 .rcases b e with z|⟨c,z,_⟩<;>cases z
end
def adf{a:Ws}{j:Nat}:(∀ws,(WL.clr a)[j]?≠some (.ow ws))/\∀c b,(WL.clr a)[j]?≠some (.od c b):=by unfold WL.clr;rw[apz];cases a[j]? with|none=>exact⟨λ_ z=>(by cases z),λ_ _ z=>by cases z⟩|some s=>cases s<;>exact⟨λ_ z=>(by cases z),λ_ _ z=>by cases z⟩
def aie(K:W.Frag)(f:Str)(x dx C:Addr)(F H:Hp)(Q:VK)(E:XK):Res VW->Prop|.ok wd=>∀e a d,H d=none->aw F a->aw a e->(∀b o,b≠x->H b=some o->e b=some o)->e x=some (.ins C dx [(f,.ref d)])->a x=none->(∀b o,a b=some o->F b=some o\/(b=x\/H b=none)/\NF o)->RW K a wd (.ref d)->Q .non e|.ex c=>∀h g e a,aw F a->aw a e->(∀b o,b≠x->H b=some o->e b=some o)->(∀b o,a b=some o->F b=some o\/(b=x\/H b=none)/\NF o)->XR K a c h g->E (.ref h) g e|.bad=>False
def spB(K:W.Frag)(f:Str)(d:List VW->Res VW):Sp:=λc H Q E=>∃x b C F w v,c=[.ref x,v]/\H x=some (.ins C b [])/\Cls K C/\aI K C f/\F x=none/\(∀a C b,F a≠some (.ins C b []))/\aw F H/\RW K F w v/\aie K f x b C F H Q E (d [w])
section
variable{P:Program}{w:World}{K:W.Frag}{mg:Str->Option Value}{base:Heap}
def aeU{nm a0 m st f fd n0 n1 n2 k}{fn:List VW->Res VW}{s1 s2 N l G name y tg p0 p1 p2 p3 p4 p5 p6}(t1 t2)(tv)(Fn:Fun K nm a0 st f fd)(S:FnScope [n0,n1,n2] [n0,n1] (ak st))(e9:WL.anF t1 t2 tv=fn)(f9:aF st=[s1,s2,.Assign [.Attribute N m p0] (.Dict [] [] p1) p2,.For tg G [.Assign [.Subscript (.Attribute l m p3) name p4] y p5] [] p6])(h:∀a9 A D s H E X,X=fB (CXX P w) P w K mg base [n0,n1,n2] a0 (ak st) f a9 A D s H E->Room k X.A->PassesOwn (model P w) X.A X.env X.xe->(∀B,B.K=K->XW X B->PS X s1 (loS B t1)/\PS X s2 (loS B t2)/\PE X y (lo B tv))/\PE X N (cM 0)/\PE X l (cM 0)/\PE X G (cM 1)/\PE X name (cM 2)/\PG X tg (L2.aN 2)/\X.calm=true/\attributeBase l m X.env (eval l X.env)=eval l X.env/\swapsWith (.Dict [] [] p1) (some (.Attribute N m p0)) p2.line X.env=pure false/\swapsWith y (some (.Subscript (.Attribute l m p3) name p4)) p5.line X.env=pure false/\∀x,foldedSetIterable G X.env x=pure x):FnOk P w K mg base (CXX P w) (k+1) f fd [n0,n1] (spB K m fn):=by
 subst e9;obtain⟨oc,od,g9,h6,pm,an,a9,ct,h7,rfl,lk,f1⟩:=Fn.ex;refine rB lk f1 S λvs H Q E c4=>by obtain⟨x,dx,C,F,w,v,e,_⟩:=c4;rw[e];rfl λA D s H vs Q E hr _ c4=>?_;obtain⟨x,dx,C,F,w',v,e,hH,cl,na,hF,g0,sm,r,g⟩:=c4;subst e;obtain⟨X,eX⟩:∃X,X=fB (CXX P w) P w K mg base [n0,n1,n2] a0 (ak st) f a9 A D s H E:=⟨_,rfl⟩;rw[<-eX];have d8:Room k X.A:=by rw[eX];exact hr
 have Z:X.K=K:=by rw[eX];rfl
 have c0:PassesOwn (model P w) X.A X.env X.xe:=by rw[eX];exact aqD
 obtain⟨hB,b8,a7,f5,c8,hg,hc,f4,g6,f7,f3⟩:=h a9 A D s H E X eX d8 c0;let Bz:Bx:=⟨K,jh H x,F,λ_ _ _=>False,λ_ _ _ _ _ h=>h⟩;let B0:Bx:=Bz.oG (λc _ M=>∀C dx Y O,aw M O->RB Bz O Y->XR K O c C dx->E (.ref C) dx Y) λc U M F2 s h C dx Y O s'=>h C dx Y O (s.trans s');have f8:XW X B0:=λd1 f6 H1 s1 U M c R1 xp e C dx T m t xr=>by subst eX;exact je t (xp C dx H1 M (aw.refl _) (R1.rb.box rfl rfl) xr)
 let F0:Hp:=upd F x (.ins C dx []);let B1:Bx:=⟨K,H,F0,λc U M=>B0.xp c U (jh M x),λc U M F2 s h=>B0.mono c U _ _ (acs s) h⟩;have d0:∀{M H1:Hp},RB B1 M H1->M x=some (.ins C dx [])/\RB B0 (jh M x) H1:=λ{M H1}R=>⟨R.fz0 x _ ah,R.out rfl rfl hF rfl rfl⟩;have g3:XW X B1:=λd1 f6 H1 s1 U M c R1 xp e Ce b0 T m t xr=>by obtain⟨z1,z2⟩:=d0 R1.rb;subst eX;exact je t (xp Ce b0 H1 _ (aw.refl _) (z2.box rfl rfl) (xr.out z1))
 obtain⟨h1,h2,_⟩:=hB B1 rfl g3;have hu:X.A.units+1<cLine:=by have:=d8.un;omega
 have h4:=agM (X:=X) (B:=B0) (f:=m) (x:=x) (C:=C) (dx:=dx) (tv:=tv) (ap:=p3) (sp:=p4) (apos:=p5) (pos:=p6) Z (by rw[eX]at c0⊢;exact c0) hc f8 (λc U h0 F h=>h) hu f5 a7 c8 hg (λB' hk hx=>(hB B' (hk.trans Z) hx).2.2) f4 (Z▸cl) (Z▸na) f7 f3;have d3:aF st=[s1,s2,.Assign [.Attribute N m p0] (.Dict [] [] p1) p2,.For tg G [.Assign [.Subscript (.Attribute l m p3) name p4] y p5] [] p6]:=f9;rw[d3];have e7:aw F0 H:=λb o e=>by
  by_cases I:b=x;.subst I;have:upd F b (.ins C dx []) b=some o:=e;rw[ah]at this;cases this;exact hH
  .have:upd F x (.ins C dx []) b=some o:=e;rw[ae I]at this;exact sm b o this
 have R0:RS B1 [.ob,.va w',.no] (L2.start [n0,n1,n2] [.ref x,v]) F0 H:=by
  refine⟨⟨e7,aw.refl _,aw.refl _,λa o e=>.inl e⟩,rfl,λi u e=>?_,λi u e=>?_,λi j u u' a _ e1 _ _ _=>?_,λi u u' e=>?_,λi j u u' _ _ a _ e1 _ _ _=>?_,λi e=>?_⟩;.rcases i with _|_|_|i<;>cases e;exact⟨v,rfl,r.keep (au hF _)⟩
  .rcases i with _|_|_|i<;>cases e
  .rcases i with _|_|_|i<;>cases e1
  .rcases i with _|_|_|i<;>cases e
  .rcases i with _|_|_|i<;>cases e1
  .rcases i with _|_|_|i<;>cases e;exact⟨x,C,dx,rfl,ah⟩
 have g:aie K m x dx C F H Q E (match WL.aB t1 t2 [.ob,.va w',.no]with|.nx U=>WL.amK tv U|.ex c _=>.ex c|_=>.bad):=g;have d6:∀{O Y:Hp},RB Bz O Y->∀b o,O b=some o->F b=some o\/(b=x\/H b=none)/\NF o:=λ{O Y}rb b o e=>by
  rcases rb.fr b o e with z|z;.exact .inl z
  .refine .inr ⟨?_,z.2⟩;by_cases I:b=x;.exact .inl I
   .have z1:jh H x b=none:=z.1;rw[cF I]at z1;exact .inr z1
 have d4:∀{O Y:Hp},RB Bz O Y->∀b o,b≠x->H b=some o->Y b=some o:=λ{O Y}rb b o I e=>rb.base b o (by show jh H x b=_;rw[cF I];exact e);have a6:∀{c:VW}{U:Ws},aie K m x dx C F H Q E (.ex c)->B0.xp c U F:=λ{c U}q Ce b0 Y O s' rb xr=>q Ce b0 Y O s' rb.sub (d4 rb) (d6 rb) xr;have c9:jh F0 x=F:=aeZ hF;refine⟨_,bg h1 (bg h2 (bg (gj b8 qN g6) (dF h4))),?_⟩;refine⟨_,F0,R0,?_⟩;unfold WL.aB at g;cases e1:t1 [.ob,.va w',.no]with|bk _|ct _|rt _|bad=>rw[e1]at g;exact g.elim|ex c σ1=>rw[e1]at g;show B0.xp c σ1 (jh F0 x);rw[c9];exact a6 g|nx σ1=>
  rw[e1]at g;intro g7 H1 M R1 s1;refine⟨σ1,M,R1,?_⟩;have g:aie K m x dx C F H Q E (match t2 σ1 with|.nx U=>WL.amK tv U|.ex c _=>.ex c|_=>.bad):=g
  cases e2:t2 σ1 with|bk _|ct _|rt _|bad=>rw[e2]at g;exact g.elim|ex c σ2=>
   rw[e2]at g;refine B0.mono c σ2 F _ (λb o e=>?_) (a6 g);have I:b≠x:=λz=>by rw[z,hF]at e;cases e
   rw[cF I];exact s1 b o (by show upd F x _ b=_;rw[ae I];exact e)|nx σ2=>rw[e2]at g;intro J H2 F2 R2 s2;have g:aie K m x dx C F H Q E (match(σ2[0]?:Option Sl)with|some .ob=>if σ2.length=3 then WL.am3 (WL.ab5 tv (WL.clr σ2++[.od [] []]))else .bad|_=>.bad):=g;cases e3:σ2[0]? with|none=>rw[e3]at g;exact g.elim|some sl=>rw[e3]at g;cases sl with
 |ob=>
     have g:aie K m x dx C F H Q E (if σ2.length=3 then WL.am3 (WL.ab5 tv (WL.clr σ2++[.od [] []]))else .bad):=g;by_cases a8:σ2.length=3;rotate_left;.rw[ao9 a8]at g;exact g.elim
     rw[apa a8]at g;obtain⟨d9,g4⟩:=d0 R2.rb;have l0:J[0]?=some (some (.ref x)):=by
      obtain⟨a,Ca,h3,g1,g2⟩:=R2.dd.ob 0 e3;rcases R2.rb.fr a _ g2 with z|z
      .by_cases ha:a=x;.subst ha;exact g1
       .have z:upd F x (.ins C dx []) a=_:=z;rw[ae ha]at z;exact(g0 _ _ _ z).elim
      .exact z.2.elim
     have d2:H2 x=some (.ins C dx []):=R2.rb.sub _ _ d9;have e6:J.length=3:=by rw[<-R2.len];exact a8
     have R3:RS B0 (WL.clr σ2) J (jh F2 x) H2:=R2.clr rfl d9 g4;intro p hp;have c6:p≠x:=λz=>by rw[z,d2]at hp;cases hp
     refine⟨.ref x,l0,x,C,dx,[],rfl,by rw[ae (aph c6)];exact d2,Z▸cl,Z▸na,by decide,?_⟩;have R4:RS B0 (WL.clr σ2) J (jh F2 x) (upd (upd H2 p (.dK [])) x (.ins C dx [(m,.ref p)])):=(R3.aiq hp (.dK [])).away _ nN nN (λj ws e=>(adf.1 ws e).elim) λj ks us e=>(adf.2 ks us e).elim;have e8:jh F2 x p=none:=by rw[cF c6];exact R2.rb.sub.free hp
     have f0:upd (upd H2 p (.dK [])) x (.ins C dx [(m,.ref p)]) p=some (.dK []):=by rw[ae c6,ah]
     have g5:B0.H0 p=none:=R3.rb.base.free hp;have d5:(WL.clr σ2).length=3:=by rw[<-a8];simp[WL.clr]
     have R5:RS B0 (WL.clr σ2++[.od [] []]) (J++[some (.ref p)]) (jh F2 x) (upd (upd H2 p (.dK [])) x (.ins C dx [(m,.ref p)])):=by
      have:=R4.snoc.anA (i:=3) (ks:=[]) (us:=[]) e8 g5 f0 (by simp[RWs]) (by simp[RWs]) λj ks us hj ej hv=>by
       by_cases h5:j<3;.rw[apt (by omega)]at ej;exact(adf.2 ks us ej).elim
       .rw[apy (by omega),d5]at ej;cases hz:j-3 with|zero=>exact hj (by omega)|succ n=>rw[hz]at ej;cases ej
      rw[List.set_append_right _ _ (by omega),List.set_append_right _ _ (by omega),d5,e6]at this;exact this
     have e0:aw F (jh F2 x):=λb o e=>by
      have I:b≠x:=λz=>by rw[z,hF]at e;cases e
      rw[cF I];exact s2 b o (s1 b o (by show upd F x _ b=_;rw[ae I];exact e))
     refine⟨_,p,jh F2 x,e6,R5,⟨l0,nN,ah⟩,?_⟩;cases e4:WL.ab5 tv (WL.clr σ2++[.od [] []])with|bk _|ct _|rt _|bad=>rw[e4]at g;exact g|ex c σ3=>rw[e4]at g;exact B0.mono c σ3 F _ e0 (a6 g)|nx σ3=>rw[e4]at g;intro g8 d H3 F3 f2 R6 c5 s6;have g:aie K m x dx C F H Q E (match(σ3[3]?:Option Sl)with|some (.od ks us)=>.ok (.dic ks us)|_=>.bad):=g;cases e5:σ3[3]? with
   |none=>rw[e5]at g;exact g.elim
    |some sl=>rw[e5]at g;cases sl with|od ks us=>
        obtain⟨a,b9,k1,k2,k3,k4,k5,k6⟩:=R6.dd.od 3 ks us e5;rw[apy (by omega),f2]at k1;cases k1;have c7:d≠x:=λz=>by rw[z,c5.H]at k4;cases k4
        have sD:aw F3 (upd F3 d (.dK b9)):=au k2 _;have d7:RB Bz F3 H3:=R6.rb.box rfl rfl;refine g H3 (upd F3 d (.dK b9)) d (by have k3:jh H x d=none:=k3;rw[cF c7]at k3;exact k3) ((e0.trans s6).trans sD) (λb o e=>?_) (d4 d7) c5.H (by rw[ae (aph c7)];exact c5.F) (λb o e=>?_) (by simp only[RW];exact⟨d,b9,rfl,.inl ah,k5.keep sD,k6.keep sD⟩)
        .by_cases I:b=d;.subst I;rw[ah]at e;cases e;exact k4
         .rw[ae I]at e;exact R6.rb.sub b o e
        .by_cases I:b=d;.subst I;rw[ah]at e;cases e;have k3:jh H x b=none:=k3;rw[cF c7]at k3;exact .inr ⟨.inr k3,trivial⟩
         .rw[ae I]at e;exact d6 d7 b o e|_=>exact g.elim
  |_=>exact g.elim
end
noncomputable def noI(F:Hp):Hp:=λb=>match F b with|some (.ins _ _ [])=>none|o=>o
def nv{F b o}(h:noI F b=some o):F b=some o:=by
 unfold noI at h;split at h;.cases h
 .exact h
set_option tactic.hygienic true in
def agd{F b o}(h:F b=some o):noI F b=some o\/∃C a,o=.ins C a []:=by
 unfold noI;rw[h];split;.rename_i C a e;cases e;exact .inr ⟨C,a,rfl⟩
 .exact .inl rfl
noncomputable def jo(F a:Hp):Hp:=λb=>match F b with|some o=>some o|none=>a b
def aan{F a b o}(h:F b=some o):jo F a b=some o:=by unfold jo;rw[h]
def aam{F a b}(h:F b=none):jo F a b=a b:=by unfold jo;rw[h]
def afx(P:Program)(w:World)(K:W.Frag)(c:Str->Option Value)(a:Heap)(k:Nat)(fI:Addr)(ps:List Str)(sp:Sp):Prop:=∃b:FuncData,FnOk P w K c a (CXX P w) k fI b ps sp/\Binds K b ps []
def md{P:Program}{w:World}{K:W.Frag}{i:Str->Option Value}{b:Heap}{k:Nat}{f:Addr}{a:Str}{st:Stmt}{ps:List Str}{sp:Sp}(D:∃c,Fun K "__init__" a st f c)(m:∀(kV d l:Value)(j:Option Addr)(g ct:Value)(e:List Value),e.length=ps.length->bindArgs (W.fnOf "__init__" a (bf st) (aF st) (ak st) .none kV d l j g ct) ⟨e,[]⟩=pure (ps.zip e))(h:∀c:FuncData,Fun K "__init__" a st f c->FnOk P w K i b (CXX P w) k f c ps sp):afx P w K i b k f ps sp:=by obtain⟨c,F⟩:=D;exact⟨c,h c F,F.binds m⟩
section
variable{X:Cx}{B:Bx}{a b:Expr}{ta tb:EF}{pos:Pos}
def wxX(d:B.K=X.K)(c:PE X a (lo B ta))(g:PE X b (lo B tb))(h:ju b:=by exact λ_ _=>rfl):PE X (.Subscript a b pos) (lo B (WL.eOp WL.aeA ta tb)):=agT afm (alQ d.symm) c g h
end
def un1{n:Nat}(h:n+64<cLine):n+1<cLine:=by omega
end WS
namespace L2
open PySem PySem.Spec PyProof.Rows
section
variable{X:Cx}{k:Nat}{f C:Addr}{fd:FuncData}{ps:List Str}{sp:Sp}{dvs:List V}{ds:List Value}{m:Str}{apos pos:Pos}{o e:Expr}{es:List Expr}{ta:TE}{t:TA}
def pK(X:Cx)(C:Addr)(m:Str)(sp:Sp)(dvs:List V)(ta:TE)(t:TA):TE:=λd H Q=>ta d H λx g=>∃a j fs,x=.ref a/\g a=some (.ins C j fs)/\fs.lookup m=none/\t d g λn l=>∃E:XK,sp (x::(n++dvs)) l Q E/\∀b s e i c T h,Thr X b d h s e i c .none (some T)->E (.ref i) c h->X.xe (.ref e) s
def l8{pl}(z:PE X o ta)(c:Cls X.K C)(w:Meth X.K C m f)(F:FnOk X.prog X.w X.K X.mg X.base (CXX X.prog X.w) k f fd ps sp)(D:Room k X.A)(G:Binds X.K fd ps ds)(B:Vals dvs ds)(J:PA X (e::es) t)(d:SE X e es:=by rfl)(g:BT X pos es:=by rfl)(K:eval (.Call (.Attribute o m apos) (e::es) [] pos) X.env=(do
  let n <-eval o X.env
  standAt apos.atName let(f,first)<-holding [n] (getMethod n m pl)callWith pos f first (backTo pos (starEach (e::es) X.env)) (backToKw pos (keywordEach [] X.env))):=by rfl):PE X (.Call (.Attribute o m apos) (e::es) [] pos) (pK X C m sp dvs ta t):=by intro b s p H Q I h;refine asr (thn (z b s p H _ I h) λu s1 i=>?_) K;obtain⟨x,y,j,M,a,N,fs,ex,ea,l,q⟩:=i;subst ex;obtain rfl:=M;exact qf j ea c w l (ar9  I.ok.mod.kin w.kp (thn (J pos b s1 p y _ j q) λP s2⟨vs,O,v,r,E,q2,A⟩=>⟨v.kIn,vi (vs:=.ref a::vs) F D G B A v (.cons rfl r) q2⟩) d g)
def mX{pl}(n:PE X o ta)(c:Cls X.K C)(j:Meth X.K C m f)(F:FnOk X.prog X.w X.K X.mg X.base (CXX X.prog X.w) k f fd ps sp)(z:Room k X.A)(A:Binds X.K fd ps ds)(y:Vals dvs ds)(p:eval (.Call (.Attribute o m apos) [] [] pos) X.env=(do
  let g <-eval o X.env
  standAt apos.atName let(f,first)<-holding [g] (getMethod g m pl)callWith pos f first (backTo pos (starEach [] X.env)) (backToKw pos (keywordEach [] X.env))):=by rfl):PE X (.Call (.Attribute o m apos) [] [] pos) (pK X C m sp dvs ta xu):=by intro i s v H Q I h;refine asr (thn (n _ s v H _ I h) λu s1 d=>?_) p;obtain⟨x,B,b,w,a,D,fs,ex,ea,l,q⟩:=d;subst ex;obtain rfl:=w;refine qf b ea c j l ?_;refine eM q λE q2 r=>?_;exact W.callWith_K0 b.kIn j.kp (vi (vs:=[.ref a]) F z A y r b (.cons rfl .nil) q2)
end
end L2
namespace WS
open PySem PySem.Spec PyProof.Rows L2
open WL(Res Sl Ws EF TF AF LF GF GsF SF Out OX RF Rn AXF Dk XE XT)
section
variable{B:Bx}{σ:Ws}{σV:L2.St}{F H:Hp}{x:Addr}{o:HO}
def RS.aoZ(R:RS B σ σV F H)(j:F x=none)(A:B.H0 x=none)(p:H x=some o)(n:NF o)(D:∀l,o≠.lst l)(nd:∀l,o≠.dK l):RS B σ σV (upd F x o) H:=by
 have s:aw F (upd F x o):=au j _;refine⟨⟨λb u q=>?_,R.rb.base,R.rb.fz0.trans s,λb u q=>?_⟩,R.len,λi w q=>?_,λi ws q=>?_,R.ap,λi m t q=>?_,R.dd.ad,λi q=>?_⟩
 .by_cases e:b=x;.subst e;rw[ah]at q;cases q;exact p
  .rw[ae e]at q;exact R.rb.sub b u q
 .by_cases e:b=x;.subst e;rw[ah]at q;cases q;exact .inr ⟨A,n⟩
  .rw[ae e]at q;exact R.rb.fr b u q
 .obtain⟨v,c,d⟩:=R.va i w q;exact⟨v,c,d.keep s⟩
 .refine oA (R.ow i ws q) λa k c d g f h=>?_;have e:a≠x:=λz=>by grind
  exact aah a k c (by rw[ae e];exact d) g f (h.keep s)
 .refine afz (R.dd.od i m t q) λa l c d g f h y=>?_;exact aif a l c (by rw[ae λz=>by grind];exact d) g f (h.keep s) (y.keep s)
 .refine wN (R.dd.ob i q) λa C r c d=>?_;exact adM a C r c (s _ _ d)
end
section
variable{X:Cx}{B:Bx}{fl x:Str}{c:String}{C f:Addr}{fd:FuncData}{ps:List Str}{k:Nat}{fn:List VW->Res VW}{e:Expr}{es:List Expr}{tas:AF}{p pos:Pos}
def adX(Z:X.K=B.K)(hx:XW X B)(M:Mk X.K C f)(cl:Cls X.K C)(na:aI X.K C fl)(a8:W.nsIn X.K mainGlobals (Str.ofString c)=some (some (.ref C)))(a9:WL.fw c=[fl])(G:FnOk X.prog X.w X.K X.mg X.base (CXX X.prog X.w) k f fd ps (spB X.K fl fn))(hr:Room (k+1) X.A)(hg:Gl X x)(hm:X.mg x=some (.ref C))(hb:Binds X.K fd ps [])(ha:PA X (e::es) (loA B tas))(hn:∀m ws,tas m=.ok ws->ws.length=1:=by repeat first|exact oq|apply ir)(c0:Dbg x:=by decide)(he:SE X e es:=by rfl)(b0:BT X pos es:=by rfl):PE X (.Call (.Name x p) (e::es) [] pos) (lo B (WL.lq c fn tas)):=PE.imp (qL M G hr hg hm hb .nil ha c0 he b0) λK H Q a0=>by obtain⟨m,F,R,q⟩:=a0;have q:=Rq.bind q;refine⟨m,F,R,?_⟩;cases ea:tas m with|bad|ex c=>rw[ea]at q;exact q|ok ws=>
 rw[ea]at q;have hl:=hn m ws ea;obtain⟨w,rfl⟩:∃w,ws=[w]:=by match ws,hl with|[w],_=>exact⟨w,rfl⟩
 have q:=Rq.bind (show Rq B m F ((fn [w]).bind λwd=>Res.ok (WL.W.ins c [wd])) _ from q);intro vs E h j g1 r1 x r A b8 c4;obtain⟨v,rfl,r3⟩:=cw r1;rw[apE];have P:∀b o,E b=some o->b≠x/\b≠r/\upd (upd E r (.own x)) x (.ins C r []) b=some o:=λb o z=>by
  have N:b≠x:=λy=>by rw[y,A]at z;cases z
  have J:b≠r:=λy=>by rw[y,b8]at z;cases z
  exact⟨N,J,by rw[ae N,ae J];exact z⟩
 have ext:∀{g l:Hp},aw (noI h) g->aw g l->(∀b o,b≠x->upd (upd E r (.own x)) x (.ins C r []) b=some o->l b=some o)->(∀b o,g b=some o->noI h b=some o\/(b=x\/upd (upd E r (.own x)) x (.ins C r []) b=none)/\NF o)->Gr h E (jo h g) l/\RB B (jo h g) l/\aw g (jo h g):=λ{g l}s1 s2 s3 fr=>by
  have sH:aw E l:=λb o z=>s3 b o (P b o z).1 (P b o z).2.2;have S:∀b o,g b=some o->h b=none->E b=none/\NF o:=λb o z n=>by
   rcases fr b o z with y|⟨y,nf⟩;.rw[nv y]at n;cases n
   .refine⟨?_,nf⟩;rcases y with y|y;.rw[y];exact A
    .cases i:E b with|none=>rfl|some u=>rw[(P b u i).2.2]at y;cases y
  refine⟨⟨λb o z=>aan z,sH,λb o z n=>?_⟩,⟨λb o z=>?_,j.rb.base.trans sH,λb o z=>aan (j.rb.fz0 b o z),λb o z=>?_⟩,λb o z=>?_⟩;.rw[aam n];cases e2:g b with|none=>rfl|some u=>rw[(S b u e2 n).1]at z;cases z
  .cases i:h b with|some u=>rw[aan i]at z;cases z;exact sH b _ (j.rb.sub b _ i)|none=>rw[aam i]at z;exact s2 b o z
  .cases i:h b with|some u=>rw[aan i]at z;cases z;exact j.rb.fr b _ i|none=>rw[aam i]at z;obtain⟨N,J⟩:=S b o z i;exact .inr ⟨j.rb.base.free N,J⟩
  .cases i:h b with|none=>rw[aam i];exact z|some u=>have N:=sH b _ (j.rb.sub b _ i);have J:=s2 b o z;rw[N]at J;cases J;exact aan i
 have Y:h x=none:=j.rb.sub.free A;refine⟨λU D l=>∃Ca g c,U=.ref Ca/\RS B m K g l/\B.xp c m g/\XR B.K g c Ca D,?_,λO s e U D T H' t⟨Ca,g,c,ec,R2,xp,xr⟩=>?_⟩
 .refine⟨x,r,C,noI h,w,v,rfl,ah,cl,na,?_,λa Ca da z=>?_,λb o z=>?_,?_,?_⟩;.cases i:noI h x with|none=>rfl|some u=>have:=j.rb.sub x _ (nv i);rw[A]at this;cases this
  .have:=nv z;unfold noI at z;rw[this]at z;cases z
  .exact(P b o (j.rb.sub b o (nv z))).2.2
  .rw[Z];exact RW.one ((RWs.one r3).ahJ λb o z=>agd z)
  .cases ef:fn [w]with|bad=>rw[ef]at q;exact q|ok wd=>
    rw[ef]at q;intro l g d _ s1 s2 s3 a7 b9 fr a6;obtain⟨I,rb,sj⟩:=ext s1 s2 s3 fr;have fx:jo h g x=none:=by rw[aam Y];exact b9
    have R3:RS B m K (upd (jo h g) x (.ins C r [(fl,.ref d)])) l:=(j.grow I rb).aoZ fx (j.rb.base.free A) a7 trivial (λ_ z=>nomatch z) λ_ z=>nomatch z;refine⟨rfl,(show∀v H' F',_ from q) (.ref x) l _ R3 (g1.trans ⟨I.f.trans (au fx _),I.h,λb o z n=>?_⟩) ?_⟩;.rw[ae (P b o z).1];exact I.nf b o z n
    .simp only[RW];refine⟨x,C,r,[(fl,.ref d)],rfl,ah,Z▸a8,a9.symm,by simp,RWs.one ?_⟩;exact(show RW B.K g wd (.ref d)from Z▸a6).keep (sj.trans (au fx _))|ex c=>rw[ef]at q;intro U D l g s1 s2 s3 fr xr;obtain⟨I,rb,sj⟩:=ext s1 s2 s3 fr;exact⟨U,jo h g,c,rfl,j.grow I rb,B.mono c m F _ (g1.f.trans I.f) q,(Z▸xr).keep sj⟩
 .cases ec;exact hx O K H' s m g c R2 xp e U D (some T) _ t (by rw[Z];exact xr)
set_option tactic.hygienic true in
def agV{o s}(N:X.K=B.K)(G:W.nsIn X.K mainGlobals (Str.ofString c)=some (some (.ref C)))(cl:Cls X.K C)(J:aI X.K C fl)(j:WL.fw c=[fl])(K:PE X o (lo B s))(M:attributeBase o fl X.env (eval o X.env)=eval o X.env:=by rfl):PE X (.Attribute o fl pos) (lo B (WL.acT c s)):=PE.imp (kU K M) λO H Q l=>by
 refine dv l λD F R q=>?_;have q:=Rq.bind q;refine dI D F R (Rq.mono (aw.refl _) q λy d v z u n A r1=>?_);unfold WL.an3 at d;split at d
 .rename_i P w;split at d
  .rename_i b;have b:=eq_of_beq b;subst b;refine aiD r1 λa S E h m I t i _ r=>?_;subst m;rw[<-N,G]at t;cases t;rw[j]at i;obtain⟨v1,rfl,r⟩:∃v1,h=[(fl,v1)]/\RWs B.K u [w] [v1]:=by match h,i,r with
 |[(g,v1)],i,r=>
     have:g=fl:=by simpa using i
     subst this;exact⟨v1,rfl,r⟩
   exact aiG a C E _ v1 rfl (n.rb.sub _ _ I) cl J (by simp[List.lookup]) (d v1 z u n A (RW.one r))
  .exact(d).elim
 .exact(d).elim
def yf{o:Expr}{u m n}(I:X.K=B.K)(K:XW X B)(O:W.nsIn X.K mainGlobals (Str.ofString c)=some (some (.ref C)))(r:WL.fw c=[fl])(j:(m==fl)=false)(N:∀d ws,tas d=.ok ws->ws.length+1=n):∀g H Q,lo B (WL.nY c fn u tas) g H Q->pK X C m (spX X.K n fn) [] (lo B u) (loA B tas) g H Q:=by
 intro g H Q⟨d,F,R,q⟩;have q:=Rq.bind q;refine⟨d,F,R,Rq.mono (aw.refl _) q λy b v U G z D w=>?_⟩;by_cases h:WL.isI c y=true
 .rw[apa h]at b;obtain⟨E,rfl⟩:∃E,y=.ins c [E]:=by
   unfold WL.isI at h;split at h;.rw[eq_of_beq h];exact⟨_,rfl⟩
   .cases h
  have i:=w;simp only[RW]at i;refine aiD i λa Z M l s P A S _ _=>?_;subst s;rw[<-I,O]at A;cases A;rw[r]at S;obtain⟨v1,rfl⟩:∃v1,l=[(fl,v1)]:=by simp_all
  refine⟨a,M,_,rfl,z.rb.sub _ _ P,by simp[List.lookup,j],d,G,z,?_⟩;cases ea:tas d with|bad=>rw[ea]at b;exact b|ex c=>rw[ea]at b;exact B.mono c d F G D.f b|ok ws=>rw[ea]at b;exact λvs T Y J t r1=>qF I K J (D.trans t) (.cons (w.keep t.f) r1) (by rw[apj];exact N d ws ea) b (by rw[apE])
 .rw[ao9 h]at b;exact(show False from b).elim
end
end WS
namespace L2
open PySem PySem.Spec PyProof.Rows
section
variable{X:Cx}
def tw(c:X.A.units+1<cLine):OpR X (compareOp .NotIn) λx y H Q=>∃a o,y=.ref a/\aoj H a x o/\Q (.bl !o.isSome) H:=by intro b s i H x y v u Q I f h⟨a,o,e,g,q⟩;subst e;cases h;exact ah5 c I g f λj d=>⟨.bl _,H,d,rfl,q⟩
end
end L2
namespace WS
open PySem PySem.Spec PyProof.Rows L2
open WL(Res Sl Ws EF TF AF LF GF GsF SF Out OX RF Rn AXF Dk XE XT)
section
variable{X:Cx}{B:Bx}{K:W.Frag}
def wA:Calm WL.nq:=λx y c h=>by
 unfold WL.nq at h;split at h;.split at h<;>cases h
 .exact dq _ _ _ h
def akv{F k a}(b:RW K F k (kV a)){kvs ks}(r:RWs K F ks (kvs.map λp=>kV p.1)):WL.aiw k ks=(qB kvs a).isSome:=by rw[wt b r,l4]
def ad1(l:X.K=K)(e:X.A.units+64<cLine):OpR X (compareOp .NotIn) (lo2 K WL.nq):=by
 intro h s f H x y v u Q I i j⟨F,wx,n,g,r1,r2,q⟩;unfold WL.nq at q;split at q
 .split at q;.rename_i m;obtain⟨b,rfl⟩:=ym m r1;refine oE r2 λa d c rd k _=>?_;subst c;rw[akv r1 k]at q;exact tw (un1 e) _ s f H _ _ v u Q I i j ⟨a,_,rfl,.inl ⟨d,b,g.rd rd,rfl,rfl⟩,eq1 q (rfl)⟩
  .exact q.elim
 .exact i8 l e _ s f H x y v u Q I i j (r9 F _ _ g r1 r2 q)
theorem yz{F k a}(b:RW K F k (kV a))(w:VW):∀{kvs ks us},RWs K F ks (kvs.map λp=>kV p.1)->RWs K F us (kvs.map λp=>p.2)->WL.z6 k ks us=some w->∃v,qB kvs a=some v/\RW K F w v
|[],ks,us,r1,r2,e=>by cases ks with|nil=>cases e|cons x ks=>simp[RWs]at r1
|p::kvs,ks,us,r1,r2,e=>by cases ks with|nil=>cases e|cons x ks=>cases us with|nil=>cases e|cons y us=>
  obtain⟨v1,j,g,q1,s1⟩:=r1;obtain⟨v2,i,d,q2,s2⟩:=r2;cases g;cases d;unfold WL.z6 at e;rw[rn q1 b]at e;by_cases h:p.1=a;.rw[arA h]at e;cases e;exact⟨_,dO h,q2⟩
  .rw[apJ h]at e;obtain⟨v,c,f⟩:=yz b w s1 s2 e;exact⟨v,by rw[dP h];exact c,f⟩
def afn:Calm WL.aip:=λx y c h=>by
 unfold WL.aip at h;split at h
 .split at h;.revert h;cases WL.z6 _ _ _<;>simp[WL.ofO]
  .cases h
 .exact wC _ _ _ h
set_option tactic.hygienic true in
def alR(C:X.K=K):IxR X (lo2 K WL.aip):=by
 intro b d i s h H x y v u Q I l j⟨F,wx,p,g,r1,r2,q⟩k;unfold WL.aip at q;split at q
 .rename_i m A;split at q;.rename_i D;obtain⟨c,rfl⟩:=ym D r2;obtain⟨a,f,rfl,rd,o,r⟩:=r1;cases e:WL.z6 p m A with|none=>rw[e]at q;exact q.elim|some w=>rw[e]at q;obtain⟨z,t,n⟩:=yz r2 w o r e;exact acm _ _ _ s h H _ _ v u Q I l j ⟨a,f,c,z,rfl,rfl,g.rd rd,t,eq1 q n⟩ k
  .exact q.elim
 .exact alS C _ _ _ s h H x y v u Q I l j ⟨F,_,_,g,r1,r2,q⟩ k
variable{i:Nat}{pos pos':Pos}{x:Str}
def w9{p c:Pos}{e:Expr}{te:EF}(E:X.N.Nodup)(G:X.N[i]?=some x)(A:Loc X.env.scope x)(P:Gl X "dict")(N:X.mg "dict"=none)(m:bootBuiltins "dict"=some (.type "dict"))(y:PE X e (lo B te))(f:starEach [e] X.env=(false,eval e X.env)::starEach [] X.env:=by rfl)(S:swapsWith (.Call (.Name "dict" p) [e] [] c) (some (.Name x pos')) pos.line X.env=pure false:=by rfl)(O:FL X x:=by first|exact .inl rfl|exact .inr rfl|assumption):PS X (.Assign [.Name x pos'] (.Call (.Name "dict" p) [e] [] c) pos) (loS B (WL.xI i te)):=PS.imp (kT E G A (jD uP P N m (aP y cu f) (by decide) (by decide) f) S O) λD Q H n=>by obtain⟨C,F,R,q⟩:=n;have q:=Oq.ofR q;refine⟨C,F,R,Rq.mono (aw.refl _) q λw s v T I d h r1=>?_⟩;cases w with|dic ks us=>simp only[RW]at r1;obtain⟨a,g,rfl,rd,J,M⟩:=r1;refine⟨a,g,rfl,d.rb.sub.rd rd,λp j=>?_⟩;refine(show∀t U Y,_ from s) _ _ I ((d.aiq j (.dK g)).anA (d.rb.sub.free j) (d.rb.base.free j) ah J M λk r o _ z m=>?_) h.f;obtain⟨b,l,h,_,_,u,_⟩:=d.dd.od k r o z;rw[m]at h;cases h;rw[j]at u;cases u|_=>exact(show False from s).elim
end
end WS
namespace L2
open PySem PySem.Spec PyProof.Rows
theorem pL:∀{a:List Str}{us:List Value},Vals (a.map V.str) us->StrsAre us a|[],_,r=>by cases r;exact .nil|x::a,_,r=>by rw[apA]at r;cases r with|cons h t=>obtain⟨k,rfl⟩:=show∃t,_=Value.str x t from h;exact .cons x k (pL t)
theorem pR:∀{us:List Value}{a:List Str},StrsAre us a->Vals (a.map V.str) us|_,_,.nil=>.nil|_,_,.cons y t r=>.cons ⟨t,rfl⟩ (pR r)
end L2
namespace WS
open PySem PySem.Spec PyProof.Rows L2
open WL(Res Sl Ws EF TF AF LF GF GsF SF Out OX RF Rn AXF Dk XE XT)
section
variable{K:W.Frag}
set_option tactic.hygienic true
theorem sR{F:Hp}:∀{ws:List VW}{a:List Str}{vs:List V},WL.strsOf ws=some a->RWs K F ws vs->vs=a.map V.str
|[],_,_,e,r=>by cases e;simpa[RWs]using r|w::ws,a,vs,e,r=>by
 simp only[RWs]at r;obtain⟨v,d,rfl,q,t⟩:=r;cases w<;>simp only[WL.strsOf]at e<;>first|(cases e;done)|skip
 rename_i x;obtain⟨b,c,rfl⟩:=apr.mp e;simp only[RW]at q;rw[q,sR c t];rfl
set_option tactic.hygienic false
theorem abi{F:Hp}:∀(a:List Str),RWs K F (a.map WL.W.str) (a.map V.str)|[]=>by simp[RWs]|x::a=>.cons (by simp[RW]) (abi a)
end
end WS
namespace L2
open PySem PySem.Spec PyProof.Rows
theorem aaN:∀{xs:List V}{us:List Value},us.length=xs.length->(∀(i:Nat)(x:V)(u:Value),xs[i]?=some x->us[i]?=some u->RelV x u)->Vals xs us|[],[],_,_=>.nil|[],_::_,h,_=>by simp at h|_::_,[],h,_=>by simp at h|x::xs,u::us,h,k=>.cons (k 0 x u rfl rfl) (aaN (by simpa using h) λi y v a b=>k (i+1) y v (by simpa using a) (by simpa using b))
end L2
namespace WS
open PySem PySem.Spec PyProof.Rows L2
open WL(Res Sl Ws EF TF AF LF GF GsF SF Out OX RF Rn AXF Dk XE XT)
end WS
namespace L2
open PySem PySem.Spec PyProof.Rows PySem.Calls
def lX{X}(hc:X.calm=true):bP X (.builtin "sorted") λT H Q=>∃a kvs,∃B,T=[.ref a]/\Rd H a (.dK kvs)/\(kvs.map λp=>kV p.1)=B.map V.str/\B.length<64/\∀l c,H l=none->List.Perm c B->sortedS c=true->Q (.ref l) (upd H l (.lst (c.map V.str))):=by
 intro w s σ H T us Q I rx⟨a,kvs,B,e,rd,D,n,q⟩;subst e;obtain⟨u,rfl,ru⟩:∃u,us=[u]/\RelV (.ref a) u:=by cases rx with|cons h t=>cases t;exact⟨_,rfl,h⟩
 cases show u=Value.ref a from ru;obtain⟨z,hd,vs,C,dd⟩:=zQ I.hok rd;obtain⟨ep,E⟩:=dd.dictAt;have O:=C.length;refine call_function_entry kind_sorted plain_sorted entry_sorted (args_sorted1 _) ?_;unfold Builtin.«sorted»;refine ao3 (m:=checkCount "sorted" 1 1 _) (ao7 ?_);refine ao3 (W.kdu_collect (A:=X.A.in1) (W.kdl_dict (knd:=bE X.prog X.w) (kvs:=vs) (ep:=ep) hd) (I.ok.hd hc) E (by rw[<-O];exact z) λj tk d hk R=>?_);have f:Vals (B.map V.str) d.toList:=by
  rw[<-D];refine aaN ?_ ?_;.rw[aqS,apv,O];exact R.1
  .intro i x v U e2;rw[apz,apr]at U;obtain⟨p,M,rfl⟩:=U;refine dv (R.2 i v (by rw[<-arh];exact e2)) λk y g1 g2=>?_;refine jV (C.get M) λr r1 r2 _=>?_;rw[g1]at r1;cases r1;rw[r2];exact af1 g2
 have K:=pL f;have G:d.toList.length<64:=by rw[<-f.length,apv];exact n
 refine ao3 (wpAny_newList ?_ (by rw[aqo];omega));have g:(j.push (seqObj "list" d.toList.toArray 0)).get? j.objs.size=some (seqObj "list" d.toList.toArray 0):=apg _ rfl;refine ao3 (apO (ap3 (s:={s with heap:=j.push (seqObj "list" d.toList.toArray 0),toks:=tk}) slot_list_sort ⟨_,g,rfl⟩ entry_list_sort (list_sort_treeK strKind_oneLt g K.keysOf (λS P rest e=>keyKind_strs (by rw[<-e];exact K)) G λJ a1 a2=>⟨_,rfl,?_⟩) (args_list_sort _)));refine jV (sorted_out_str K a1 a2) λc b1 b2 b3=>?_;obtain⟨e,Z⟩:=sortedHeap_at (out:=(arrOf J).map (·.2)) g;have N:Inv X w σ H {s with heap:=j,toks:=tk}:=I.kept (t':=tk) hk;refine ao7 ⟨_,rfl,.ref j.objs.size,_,N.laid (a:=j.objs.size) (o:=.lst (c.map V.str)) (t':=tk) (λb o z=>?_) (ao6 _) ⟨?_,_,e,pR b1,?_⟩,rfl,q _ c (N.hok.fresh (ao6 _)) b2 b3⟩;.have Y:=ape z;rw[sortedHeap_old (api Y) (by rw[size_push'];exact arT Y)];exact ao4 _ z
 .rw[apv,b2.length_eq];exact apb (ark n) (by decide)
 .rw[Z]
end L2
namespace WS
open PySem PySem.Spec PyProof.Rows L2
open WL(Res Sl Ws EF TF AF LF GF GsF SF Out OX RF Rn AXF Dk XE XT)
def spO(K:W.Frag)(n:Nat)(f:List VW->Res VW):Sp:=λi H Q E=>∃F ws,aw F H/\RWs K F ws i/\ws.length=n/\match f ws with|.ok w=>∃h,w=.lst h/\∀a g d b,aw F b->aw b d->aw H d->(∀a o,b a=some o->F a=some o\/H a=none/\NF o)->b a=none->H a=none->d a=some (.lst g)->RWs K b h g->Q (.ref a) d|.ex c=>∀C e d b,aw F b->aw b d->aw H d->(∀a o,b a=some o->F a=some o\/H a=none/\NF o)->XR K b c C e->E (.ref C) e d|.bad=>False
def OqO(B:Bx)(D:Ends)(F:Hp)(l:LF):Out->Prop|.nx σ'=>Rq B σ' F (l σ') λws=>∀a e d b,RB B b d->aw F b->b a=none->B.H0 a=none->d a=some (.lst e)->RWs B.K b ws e->D.rt (.ref a) d|.ex c σ'=>B.xp c σ' F|_=>False
def amS(B:Bx)(t:SF)(l:LF):TS:=λD a H=>∃b F,RS B b a F H/\OqO B D F l (t b)
section
variable{X:Cx}{B:Bx}{t:SF}{l:LF}{e:Expr}{s1:Stmt}{pos:Pos}
def aaw(c:PE X e (loL B l)):PSs X [.Return (some e) pos] (amS B WL.sNx l):=PSs.imp (dF (tm c)) λD m H⟨h,F,R,q⟩=>⟨h,F,R,Rq.mono (aw.refl _) q λw d a p n o j g f k i b _=>d a _ _ _ j.rb g.f f k i b⟩
def adS(d:PS X s1 (loS B t))(m:PE X e (loL B l)):PSs X [s1,.Return (some e) pos] (amS B t l):=PSs.imp (bg d (dF (tm m))) λD u H f=>by refine dv f λh F R q=>?_;refine dI h F R ?_;cases b:t h with|nx σ'=>rw[b]at q;exact λi x p s j=>dI _ p s (Rq.mono j q λw n a z y v R2 g d r o k _=>n a _ _ _ R2.rb (j.trans g.f) d r o k)|ex c σ'=>rw[b]at q;exact q|rt _=>rw[b]at q;exact q.elim|bk _=>rw[b]at q;exact q.elim|ct _=>rw[b]at q;exact q.elim|bad=>rw[b]at q;exact q.elim
end
section
variable{P:Program}{w:World}{K:W.Frag}{mg:Str->Option Value}{base:Heap}
def acW{x d st f Y N ps k m n}{fn:List VW->Res VW}(t)(l)(Fn:Fun K x d st f Y)(S:FnScope N ps (ak st))(hn:N.length=n)(g:ps.length=m)(I:WL.af0 n t l=fn)(a6:ps.length<=N.length)(h:∀i A b s H E B,B.K=K->Room k (A.deeper (envOfC d (ak st) s.heap.objs.size f i))->XW (fB (CXX P w) P w K mg base N d (ak st) f i A b s H E) B->PassesOwn (model P w) (fB (CXX P w) P w K mg base N d (ak st) f i A b s H E).A (fB (CXX P w) P w K mg base N d (ak st) f i A b s H E).env (fB (CXX P w) P w K mg base N d (ak st) f i A b s H E).xe->PSs (fB (CXX P w) P w K mg base N d (ak st) f i A b s H E) (aF st) (amS B t l)):FnOk P w K mg base (CXX P w) (k+1) f Y ps (spO K m fn):=by subst hn g I;refine afy Fn.ex λoc od kV a0 pm an i ct a7 J lk M=>?_;subst J;refine rB lk M S (λR H Q E v=>by refine oE v λF ws _ r U _=>?_;rw[<-r.length];exact U) λA b s H R Q E hr _ v=>?_;refine oE v λF ws sm r U g=>?_;let Z:Bx:=⟨K,H,F,λ_ _ _=>False,λ_ _ _ _ _ h=>h⟩;let B1:Bx:=Z.oG (λc _ G=>∀C p o j,aw G j->RB Z j o->XR K j c C p->E (.ref C) p o) λc σ G F2 s h C p o j y=>h C p o j (s.trans y);refine⟨_,h i A b s H E B1 rfl hr (λX a8 H1 s1 σ G c R1 xp e C p T fl t D=>je t (xp C p H1 G (aw.refl _) (R1.rb.box rfl rfl) D)) aqD,_,F,(RS.start sm r (by omega)).box (B':=B1) rfl rfl rfl,?_⟩;unfold WL.af0 at g;cases e:t _ with
|nx σ'=>rw[e]at g;unfold WL.am2 at g;dsimp only at g;show Rq B1 σ' F (l σ') _;cases O:l σ' with|bad=>rw[O]at g;exact g.elim|ex c=>rw[O]at g;exact λC p o j y u D=>(show∀C p o j,_ from g) C p o j y u.sub u.base u.fr D|ok xs=>rw[O]at g;obtain⟨z,ex,q⟩:∃z,WL.W.lst xs=.lst z/\_:=g;cases ex;exact λa R o j u y h1 h2 h3 h4=>q a R o j y u.sub u.base u.fr h1 h2 h3 h4
|ex c σ'=>rw[e]at g;exact λC p o j y u D=>g C p o j y u.sub u.base u.fr D|rt _=>rw[e]at g;exact g.elim|bk σ'=>rw[e]at g;exact g.elim|ct σ'=>rw[e]at g;exact g.elim|bad=>rw[e]at g;exact g.elim
def aeb{n t l}{ws:List VW}{w:VW}(h:WL.af0 n t l ws=.ok w):∃a,w=.lst a:=by
 unfold WL.af0 WL.am2 at h;split at h;.revert h;cases l _ with|ok a=>intro h;exact⟨a,(Res.ok.inj h).symm⟩|ex c|bad=>intro h;cases h
 .cases h
 .cases h
def FnOk.ofO{f p ps k m g}(F:FnOk P w K mg base (CXX P w) k f p ps (spO K m g))(t:∀ws w,g ws=.ok w->∃i,w=.lst i):FnOk P w K mg base (CXX P w) k f p ps (spX K m g):=F.imp λB H Q E j=>by refine oE j λF ws y v A h=>?_;refine afA F ws y v A ?_;cases e:g ws with|bad|ex c=>rw[e]at h;exact h|ok w=>
   rw[e]at h;obtain⟨i,rfl⟩:=t ws w e;refine⟨i,rfl,λa q u x s1 s2 s3 fr n s l r=>h _ u (upd x a (.lst q)) (s1.trans (au n _)) (λb o z=>?_) s3 (λb o z=>?_) ?_⟩
   .by_cases d:b=a;.subst d;rw[ah]at z;cases z;exact l
    .rw[ae d]at z;exact s2 b o z
   .by_cases d:b=a;.subst d;rw[ah]at z;cases z;exact .inr ⟨s,trivial⟩
    .rw[ae d]at z;exact fr b o z
   .exact⟨a,q,rfl,SqL.of ah,r.keep (au n _)⟩
end
section
variable{X:Cx}{B:Bx}{x:Str}{c:String}{e:Expr}{es:List Expr}{p pos:Pos}
def adW{ta}(z:X.calm=true)(G:X.mg x=none)(y:bootBuiltins x=some (.builtin "sorted"))(h:PE X e (lo B ta))(J:Gl X x:=by rfl)(i:x≠"__name__":=by decide)(n:Dbg x:=by decide)(r:starEach [e] X.env=(false,eval e X.env)::starEach [] X.env:=by rfl)(m:BT X pos []:=by rfl):PE X (.Call (.Name x p) [e] [] pos) (loL B (WL.yk ta)):=PE.imp (xR (lX z) J G y (ag h bB r) i n r m) λK H Q j=>by refine dv j λd F R q=>?_;have q:=Rq.bind q;refine dI d F R ?_;show Rq B d F ((ta d).bind λx=>.ok [x]) _;cases t:ta d with|bad|ex c=>rw[t]at q;exact q|ok w=>rw[t]at q;intro P N O s u r1;refine eM (cw r1) λv b I=>?_;subst b;cases w with
 |dic ks us=>refine oE I λa o b rd E _=>?_;subst b;have q:Rq B d F ((match WL.strsOf ks with|some ss=>if ss.length<64 then Res.ok _ else .bad|none=>.bad).bind WL.asL) _:=q;cases es:WL.strsOf ks with|none=>rw[es]at q;exact q.elim|some ss=>
     rw[es]at q;dsimp only at q;by_cases g:ss.length<64;.rw[apa g]at q;refine ala a o ss rfl (s.rb.sub.rd rd) (sR es E) g λl D i A M=>?_;have e:=WL.pM A M;subst e;exact ajV s u (abi _) i q
     .rw[ao9 g]at q;exact q.elim
 |_=>exact(show False from q).elim
end
def oD(P:Program)(w:World)(K:W.Frag)(c:Str->Option Value)(a:Heap)(k:Nat)(C f:Addr)(m:Str)(ps:List Str)(sp:Sp):Prop:=Meth K C m f/\∃b:FuncData,FnOk P w K c a (CXX P w) k f b ps sp/\Binds K b ps []
def agg{K f nm a st i od g e kV d h b ct}(l:K.lookup f=some ⟨i,od,.func (W.fnOf nm a (bf st) (aF st) (ak st) .none kV d h g b ct),e⟩)(c:W.codeIn K b a=true)(q:W.keepIn K (.ref f)=true):∃j,Fun K nm a st f j:=⟨_,uq l c q⟩
def vD{P w K i b k C f nm a st ps sp}(M:Meth K C nm f)(D:∃c,Fun K nm a st f c)(m:∀kV d l j g ct e,e.length=ps.length->bindArgs (W.fnOf nm a (bf st) (aF st) (ak st) .none kV d l j g ct) ⟨e,[]⟩=pure (ps.zip e))(h:∀c,Fun K nm a st f c->FnOk P w K i b (CXX P w) k f c ps sp):oD P w K i b k C f nm ps sp:=by obtain⟨c,F⟩:=D;exact⟨M,c,h _ F,F.binds m⟩
def oD.x{P w K c a k m n C f nm ps t l}(h:oD P w K c a k C f nm ps (spO K m (WL.af0 n t l))):oD P w K c a k C f nm ps (spX K m (WL.af0 n t l)):=by obtain⟨M,d,F,b⟩:=h;exact⟨M,d,FnOk.ofO F λws w e=>aeb e,b⟩
section
variable{X:Cx}{B:Bx}{a b e o:Expr}{ta tb to:EF}{pos apos p:Pos}{x fl m:Str}{es:List Expr}{tas:AF}{j k n:Nat}{C f g:Addr}{ps:List Str}{fn:List VW->Res VW}{c:String}{pl:Sem Bool}
def agW:PE X (.Dict [] [] pos) (lo B (WL.eC (.dic [] []))):=PE.imp qN λr H Q l=>by obtain⟨u,F,R,q⟩:=l;intro p h;exact(show∀v s t,_ from q) (.ref p) _ _ (R.new h _) (Gr.new (R.rb.sub.free h) h _) (by simp only[RW];exact⟨p,[],rfl,.inl ah,by simp[RWs],by simp[RWs]⟩)
def wxD(l:B.K=X.K)(h:PE X a (lo B ta))(q:PE X b (lo B tb))(r:ju b:=by exact λ_ _=>rfl):PE X (.Subscript a b pos) (lo B (WL.eOp WL.aip ta tb)):=agT afn (alR l.symm) h q r
def flI(s:B.K=X.K)(l:W.nsIn X.K mainGlobals (Str.ofString c)=some (some (.ref C)))(cl:Cls X.K C)(q:aI X.K C fl)(r:PE X o (lo B to))(h:WL.fw c=[fl]:=by rfl)(t:attributeBase o fl X.env (eval o X.env)=eval o X.env:=by rfl):PE X (.Attribute o fl pos) (lo B (WL.acT c to)):=agV s.symm l cl q h r t
def mkI(z:B.K=X.K)(E:Room j X.A)(t:XW X B)(M:Mk X.K C f)(cl:Cls X.K C)(D:aI X.K C fl)(w:W.nsIn X.K mainGlobals (Str.ofString c)=some (some (.ref C)))(G:afx X.prog X.w X.K X.mg X.base k f ps (spB X.K fl fn))(y:X.mg x=some (.ref C))(r:PA X (e::es) (loA B tas))(hk:k+1<=j:=by decide)(v:∀u ws,tas u=.ok ws->ws.length=1:=by repeat first|exact oq|apply ir)(h:WL.fw c=[fl]:=by rfl)(A:Gl X x:=by rfl)(l:Dbg x:=by decide)(s:SE X e es:=by rfl)(q:BT X pos es:=by rfl):PE X (.Call (.Name x p) (e::es) [] pos) (lo B (WL.lq c fn tas)):=by obtain⟨H,F,b⟩:=G;exact adX z.symm t M cl D w h F (E.mono hk) A y b r v l s q
def anQ(J:B.K=X.K)(P:Room j X.A)(w:XW X B)(I:W.nsIn X.K mainGlobals (Str.ofString c)=some (some (.ref C)))(cl:Cls X.K C)(G:oD X.prog X.w X.K X.mg X.base k C g m ps (spX X.K 1 fn))(S:PE X o (lo B to))(hk:k<=j:=by decide)(l:WL.fw c=[fl]:=by rfl)(h:(m==fl)=false:=by decide)(U:eval (.Call (.Attribute o m apos) [] [] pos) X.env=(do
  let t <-eval o X.env
  standAt apos.atName let(f,first)<-holding [t] (getMethod t m pl)callWith pos f first (backTo pos (starEach [] X.env)) (backToKw pos (keywordEach [] X.env))):=by rfl):PE X (.Call (.Attribute o m apos) [] [] pos) (lo B (WL.nY c fn to WL.aq)):=by obtain⟨M,fd,F,b⟩:=G;refine PE.imp (mX S cl M F (P.mono hk) b .nil U) λs H Q q=>?_;refine dv (yf (o:=o) J.symm w I l h (n:=1) λu ws e=>by cases e;rfl s H Q q) λu r R q=>?_;refine dI u r R (Rq.mono (aw.refl _) q λy O v z r D T A=>?_);obtain⟨a,E,fs,Z,K,h3,a0,N,R',Y⟩:=O v _ r D T A;exact r9 a E fs Z K h3 (Y [] z N R' Gr.refl (rfl))
def an1:∀h(ws:List VW),WL.aa t WL.aq h=.ok ws->ws.length+1=2:=λa w z=>by rw[ir oq a w z]
def an2:∀h(ws:List VW),WL.aa t (WL.aa u WL.aq) h=.ok ws->ws.length+1=3:=λa w z=>by rw[ir (ir oq) a w z]
def meI(A:B.K=X.K)(D:Room j X.A)(v:XW X B)(z:W.nsIn X.K mainGlobals (Str.ofString c)=some (some (.ref C)))(cl:Cls X.K C)(G:oD X.prog X.w X.K X.mg X.base k C g m ps (spX X.K n fn))(E:PE X o (lo B to))(t:PA X (e::es) (loA B tas))(y:∀w ws,tas w=.ok ws->ws.length+1=n:=by first|exact an1|exact an2)(hk:k<=j:=by decide)(q:WL.fw c=[fl]:=by rfl)(h:(m==fl)=false:=by decide)(l:SE X e es:=by rfl)(r:BT X pos es:=by rfl)(u:eval (.Call (.Attribute o m apos) (e::es) [] pos) X.env=(do
  let s <-eval o X.env
  standAt apos.atName let(f,first)<-holding [s] (getMethod s m pl)callWith pos f first (backTo pos (starEach (e::es) X.env)) (backToKw pos (keywordEach [] X.env))):=by rfl):PE X (.Call (.Attribute o m apos) (e::es) [] pos) (lo B (WL.nY c fn to tas)):=by obtain⟨M,H,F,b⟩:=G;exact PE.imp (l8 E cl M F (D.mono hk) b .nil t l r u) (yf (o:=o) A.symm v z q h y)
end
def AtA(K:W.Frag)(nm a:Str)(st:Stmt):Prop:=∃(f:Addr)(b:FuncData),Fun K a a st f b/\W.nsIn K mainGlobals nm=some (some (.ref f))
section
variable{P:Program}{w:World}{K:W.Frag}{mg:Str->Option Value}{base:Heap}{k:Nat}{nm fn:Str}{ps:List Str}{st:Stmt}
def ak2{f:Addr}{h:Value}{od i:Option Addr}{e:Array (Option Value)}{kV d g b ct:Value}(a:W.nsIn K mainGlobals nm=some (some (.ref f)))(l:K.lookup f=some ⟨h,od,.func (W.fnOf fn fn (bf st) (aF st) (ak st) .none kV d g i b ct),e⟩)(c:W.codeIn K b fn=true)(q:W.keepIn K (.ref f)=true):AtA K nm fn st:=⟨f,_,uq l c q,a⟩
def afq{m:Nat}(D:AtD K nm st)(n:∀nm v,W.nsIn K mainGlobals nm=some (some v)->mg nm=some v)(i:∀(kV d l:Value)(j:Option Addr)(e ct:Value)(b:List Value),b.length=ps.length->bindArgs (W.fnOf nm nm (bf st) (aF st) (ak st) .none kV d l j e ct) ⟨b,[]⟩=pure (ps.zip b)):Cal P w K mg base (CXX P w) k nm ps [] (spX K m λ_=>.bad):=D.cal n i λf t F=>⟨λo H Q E a=>by obtain⟨_,_,_,_,_,h⟩:=a;exact h.elim,λA c s H g b o Q E u r p i q a=>by obtain⟨_,_,_,_,_,h⟩:=a;exact h.elim⟩
end
section
variable{X:Cx}{B:Bx}{e:Expr}{te:EF}{i:Nat}{x:Str}{pos pos':Pos}
def aaA(s:X.N.Nodup)(k:PE X e (lo B te))(t:X.N[i]?=some x:=by rfl)(p:Loc X.env.scope x:=by first|exact Or.inl rfl|exact Or.inr rfl)(u:FL X x:=by first|exact .inl rfl|exact .inr rfl|assumption):PS X (.AugAssign (.Name x pos') .Add e pos) (loS B (WL.bh i (WL.eOp WL.aeB (WL.ai i) te))):=PS.imp (af6 s t p k akp u) λD z H d=>by
 obtain⟨c,F,R,q⟩:=d;have q:=Rq.bind (Oq.ofR q);unfold WL.ai at q;split at q;.rename_i w o;obtain⟨v,r,h⟩:=R.va i w o;have q:=Rq.bind (show Rq B c F ((te c).bind λy=>WL.aeB w y) _ from q);refine⟨v,r,c,F,R,Rq.mono (aw.refl _) q λy f v2 j m n l r1=>?_⟩;cases w with
 |int a=>cases y with|int b=>simp only[RW]at h r1;subst h r1;exact⟨a,b,rfl,rfl,(show∀g A C,_ from f) _ j m (n.set (by simp[RW])) l.f⟩|_=>exact(show False from f).elim
 |_=>exact(show False from f).elim
 .exact q.elim
def agO(s:X.N.Nodup)(k:PE X e (lo B te))(t:X.N[i]?=some x:=by rfl)(p:Loc X.env.scope x:=by first|exact Or.inl rfl|exact Or.inr rfl)(u:FL X x:=by first|exact .inl rfl|exact .inr rfl|assumption):PS X (.AugAssign (.Name x pos') .Sub e pos) (loS B (WL.bh i (WL.eOp WL.aak (WL.ai i) te))):=PS.imp (af6 s t p k ako u) λD z H d=>by
 obtain⟨c,F,R,q⟩:=d;have q:=Rq.bind (Oq.ofR q);unfold WL.ai at q;split at q;.rename_i w o;obtain⟨v,r,h⟩:=R.va i w o;have q:=Rq.bind (show Rq B c F ((te c).bind λy=>WL.aak w y) _ from q);refine⟨v,r,c,F,R,Rq.mono (aw.refl _) q λy f v2 j m n l r1=>?_⟩;cases w with
 |int a=>cases y with|int b=>simp only[RW]at h r1;subst h r1;exact⟨a,b,rfl,rfl,(show∀g A C,_ from f) _ j m (n.set (by simp[RW])) l.f⟩|_=>exact(show False from f).elim
 |_=>exact(show False from f).elim
 .exact q.elim
def ald(p:B.K=X.K)(h:PE X e (lo B te))(l:∀b,isTrue e X.env b=(do let v <-b;standAt e.pos;holding [v] (truthy v)):=by intro _;rfl):PT X e (loT B (WL.tL te)):=PT.imp (aeh h l) λt H Q d=>by
 obtain⟨o,F,R,q⟩:=d;have q:=Rq.bind q;refine⟨o,F,R,Rq.mono (aw.refl _) q λy j v k f g m r1=>?_⟩;cases y with|lst ws=>
 have n:∀c:List V,RWs B.K f ws c->c.isEmpty=ws.isEmpty:=λc r=>by have:=r.length;cases ws<;>cases c<;>first|rfl|simp at this
 simp only[RW]at r1;obtain⟨a,c,rfl,s,r⟩:=r1;refine⟨!ws.isEmpty,.inl ⟨c,p▸g.rb.sub.seq s,by rw[n c r]⟩,(show∀u w,_ from j) k f g m⟩|_=>exact(show False from j).elim
end
section
variable{F H:Hp}
open Classical in noncomputable def fzS(F H:Hp)(l:List Addr):Hp:=λx=>if x∈l then H x else F x
def gq{l:List Addr}{x:Addr}(h:x∈l):fzS F H l x=H x:=apa h
def bw{l:List Addr}{x:Addr}(h:x∉l):fzS F H l x=F x:=ao9 h
end
section
variable{B:Bx}{l:List Addr}{σ:Ws}{σV:L2.St}{F H F' H':Hp}
abbrev jW(B:Bx)(H:Hp)(l:List Addr):Bx:=⟨B.K,fzS B.H0 H l,B.F0,B.xp,B.mono⟩
def RS.inS(R:RS B σ σV F H)(s:∀x∈l,F x=none)(ap:∀(k:Nat)(ws:List VW)x,σ[k]?=some (.ow ws)->σV[k]?=some (some (.ref x))->x∉l)(ad:∀x∈l,∀(k:Nat)(c d:List VW),σ[k]?=some (.od c d)->σV[k]?≠some (some (.ref x))):RS (jW B H l) σ σV F H:=by
 refine⟨⟨R.rb.sub,λx o q=>?_,R.rb.fz0,λx o q=>?_⟩,R.len,R.va,λk ws e=>?_,R.ap,R.dd.via rfl id (λ_ _ z=>.inl z) (λ_ _ _ e=>⟨e,rfl⟩) (aw.refl _) λk c d b n i m q1 q2 q3=>⟨q2,?_,q1⟩⟩
 .have q:fzS B.H0 H l x=some o:=q;by_cases a:x∈l;.rw[gq a]at q;exact q
  .rw[bw a]at q;exact R.rb.base x o q
 .rcases R.rb.fr x o q with z|z;.exact .inl z
  .refine .inr ⟨?_,z.2⟩;show fzS B.H0 H l x=none;rw[bw λa=>by grind];exact z.1
 .refine oA (R.ow k ws e) λb h f r j g p=>?_;refine aah b h f r ?_ g p;show fzS B.H0 H l b=none;rw[bw (ap k ws b e f)];exact j
 .show fzS B.H0 H l b=none;rw[bw λa=>ad b a k c d i m];exact q3
def RS.ajG(R:RS (jW B H l) σ σV F' H')(f:∀x∈l,B.H0 x=none)(s:∀x∈l,∃o,H x=some o):RS B σ σV F' H':=by
 have n:∀{x},fzS B.H0 H l x=none->B.H0 x=none:=λ{x}z=>by
  by_cases a:x∈l;.exact f x a
  .rw[bw a]at z;exact z
 refine⟨⟨R.rb.sub,λx o q=>?_,R.rb.fz0,λx o q=>?_⟩,R.len,R.va,λk ws e=>?_,R.ap,R.dd.via rfl id (λ_ _ z=>.inl z) (λ_ _ _ e=>⟨e,rfl⟩) (aw.refl _) λk r u b i p t q1 q2 q3=>⟨q2,n q3,q1⟩⟩;.refine R.rb.base x o (show fzS _ H l x=some o from ?_);rw[bw λa=>by grind];exact q
 .rcases R.rb.fr x o q with z|z;.exact .inl z
  .exact .inr ⟨n z.1,z.2⟩
 .refine oA (R.ow k ws e) λb d g m h c j=>?_;exact aah b d g m (n h) c j
def mZ(b:∀x∈l,∃o,H x=some o){x}(h:fzS B.H0 H l x=none):x∉l:=λa=>by obtain⟨o,c⟩:=b x a;rw[gq a,c]at h;cases h
end
def az{X:Cx}{B:Bx}{c:List Stmt}:PSs X c (loS B WL.dh):=λb s d H D I a=>by obtain⟨e,F,R,q⟩:=a;exact(show False from q).elim
structure Rsc(S:Type)where
 adr:S->Addr
 rel:W.Frag->S->List Addr->Hp->Hp->Prop
 mono:∀{K s l F H F' H'},rel K s l F H->aw F F'->(∀x∈l,∀o,H x=some o->H' x=some o)->rel K s l F' H'
 there:∀{K s l F H},rel K s l F H->∀x∈l,∃o,H x=some o/\NF o/\∀xs,o≠.tup xs
 val:S->VW
 fz:∀{K s l F H a od kvs},rel K s l F H->(∀x∈l,F x=none)->F a=some (.dK kvs)->rel K s l (upd F a (zD od kvs)) (upd H a (zD od kvs))th:∀{K s l F H a od kvs},rel K s l F H->(∀x∈l,F x=none)->F a=some (zD od kvs)->rel K s l (upd F a (.dK kvs)) (upd H a (.dK kvs))rw:∀{K s l F H F'},rel K s l F H->aw F F'->(∀x∈l,∀o,H x=some o->F' x=some o)->RW K F' (val s) (.ref (adr s))
variable{S:Type}
structure RX(M:Rsc S)(B:Bx)(s:S)(l:List Addr)(σ:Ws)(σV:L2.St)(F H:Hp):Prop where
 rs:RS (jW B H l) σ σV F H
 fr:∀x∈l,F x=none/\B.H0 x=none
 re:M.rel B.K s l F H
def OqX(M:Rsc S)(B:Bx)(D:Ends)(F:Hp):OX S->Prop|.nx σ' s'=>∀a d b e,RX M B s' e σ' a b d->aw F b->D.nx a d|.bk σ' s'=>∀a d b e,RX M B s' e σ' a b d->aw F b->D.bk a d|.ct σ' s'=>∀a d b e,RX M B s' e σ' a b d->aw F b->D.ct a d|.rt w s'=>∀v d b e,RB (jW B d e) b d->(∀x∈e,b x=none/\B.H0 x=none)->M.rel B.K s' e b d->aw F b->RW B.K b w v->D.rt v d|.ex c σ'=>B.xp c σ' F|.bad=>False
def loX(M:Rsc S)(B:Bx)(t:RF S):TS:=λD a H=>∃b F s l,RX M B s l b a F H/\OqX M B D F (t b s)
section
variable{M:Rsc S}{B:Bx}{s:S}{l:List Addr}{σ:Ws}{σV:L2.St}{F H F' H':Hp}{D:Ends}{X:Cx}
theorem OqX.mono(k:aw F F'){o}(h:OqX M B D F o):OqX M B D F' o:=by cases o with|nx σ s|bk σ s|ct σ s=>exact λσV H G l R z=>h _ H G l R (k.trans z)|rt w s=>exact λv H G l R r q z=>h v H G l R r q (k.trans z)|ex c σ=>exact B.mono c σ F _ k h|bad=>exact h
theorem RX.there(R:RX M B s l σ σV F H):∀x∈l,∃o,H x=some o:=λx a=>let⟨o,h,_⟩:=M.there R.re x a;⟨o,h⟩
def vJ(c:∀x∈l,∃o,H x=some o)(a:RB (jW B H l) F' H'):∀x∈l,∀o,H x=some o->H' x=some o:=λx b o q=>a.base x o (by show fzS _ H l x=some o;rw[gq b];exact q)
def adn(c:∀x∈l,∃o,H x=some o)(k:∀x∈l,∀o,H x=some o->H' x=some o):jW B H l=jW B H' l:=by
 have:fzS B.H0 H l=fzS B.H0 H' l:=by
  funext x;by_cases a:x∈l;.obtain⟨o,b⟩:=c x a;rw[gq a,gq a,b,k x a o b]
  .rw[bw a,bw a]
 simp [jW,this]
def vO(g:∀x∈l,∃o,H x=some o)(b:∀x∈l,F x=none)(c:aw B.F0 F)(f:RB (jW B H l) F' H'):∀x∈l,F' x=none:=λx a=>by cases e:F' x with|none=>rfl|some o=>
 rcases f.fr x o e with z|⟨z,_⟩;.have:=c x o z;rw[b x a]at this;cases this
 .have z:fzS _ H l x=none:=z;obtain⟨u,d⟩:=g x a;rw[gq a,d]at z;cases z
def RX.next(R:RX M B s l σ σV F H){b a}(c:RS (jW B H l) b a F' H')(k:aw F F'):RX M B s l b a F' H':=by have e:=vJ R.there c.rb;refine⟨?_,λx d=>⟨vO (B:=B) R.there (λy f=>(R.fr y f).1) R.rs.rb.fz0 c.rb x d,(R.fr x d).2⟩,M.mono R.re k e⟩;rw[<-adn R.there e];exact c
def XW.inS(d:XW X B)(e:∀x∈l,B.H0 x=none)(b:∀x∈l,∃o,H x=some o):XW X (jW B H l):=λa σV H' f σ F c R q=>d _ _ _ _ σ F c (R.ajG e b) q
variable{st:Stmt}{rest ss:List Stmt}{t:SF}{t1 t2:RF S}
def abL(R:RX M B s l σ σV F H)(q:OqX M B D F (WL.aR t σ s)):Oq (jW B H l) D F (t σ):=by unfold WL.aR at q;cases e:t σ with|nx σ'|bk σ'=>rw[e]at q;exact λa H' F' d k=>q _ H' _ l (R.next d k) k|ct σ'=>rw[e]at q;exact λa H' F' d k=>q _ H' F' l (R.next d k) k|rt w=>rw[e]at q;intro v H' F' b k r;have g:=vJ R.there b;refine q v H' F' l (by rw[<-adn R.there g];exact b) (λx f=>⟨vO (B:=B) R.there (λy h=>(R.fr y h).1) R.rs.rb.fz0 b x f,(R.fr x f).2⟩) (M.mono R.re k g) k r|ex c σ'|bad=>rw[e]at q;exact q
def cg(d:B.K=X.K)(b:XW X B)(h:∀a,a.K=X.K->XW X a->PS X st (loS a t)):PS X st (loX M B (WL.aR t)):=by intro c e σV H D I⟨σ,F,s,l,R,q⟩;exact h (jW B H l) d (XW.inS b (λx b=>(R.fr x b).2) R.there) _ _ _ H D I ⟨σ,F,R.rs,abL R q⟩
def bN(d:B.K=X.K)(c:XW X B)(h:∀b:Bx,b.K=X.K->XW X b->PSs X ss (loS b t)):PSs X ss (loX M B (WL.aR t)):=by intro a e σV H D I⟨σ,F,s,l,R,q⟩;exact h (jW B H l) d (XW.inS c (λx c=>(R.fr x c).2) R.there) a e σV H D I ⟨σ,F,R.rs,abL R q⟩
def dw:PSs X [] (loX M B WL.xNx):=PSs.imp abv λD σV H a=>by obtain⟨σ,F,s,l,R,q⟩:=a;exact q _ H F l R (aw.refl _)
def bO(h:PS X st (loX M B t1)):PSs X [st] (loX M B t1):=dF h
def aK(f:PS X st (loX M B t1))(g:PSs X rest (loX M B t2)):PSs X (st::rest) (loX M B (WL.cj t1 t2)):=PSs.imp (bg f g) λD σV H a=>by refine aiE a λσ F s l R q=>?_;refine ak9 σ F s l R ?_;have q:OqX M B D F (match t1 σ s with|.nx σ' s'=>t2 _ _|o=>o):=q;cases d:t1 σ s with|nx σ' s'=>rw[d]at q;exact λb H' F' e h k=>ak9 _ F' s' e h (OqX.mono k q)|bk σ' s'|ct σ' s'|rt w s'|ex c σ'|bad=>rw[d]at q;exact q
end
variable{S:Type}
section
variable{M:Rsc S}{B:Bx}{s:S}{l:List Addr}{σ σ1:Ws}{σV:L2.St}{F H:Hp}{D:Ends}{X:Cx}{j:Nat}
set_option tactic.hygienic true in
def RX.frz(R:RX M B s l σ σV F H)(e:WL.seen M.adr M.val j σ s=some σ1):aw F (fzS F H l)/\RS B σ1 σV (fzS F H l) H:=by
 have r:=R.there;have k:aw F (fzS F H l):=λx o q=>by rw[bw λz=>by rw[(R.fr x z).1]at q;cases q];exact q
 have c:RS B σ σV F H:=R.rs.ajG (λx a=>(R.fr x a).2) r;have G:RB B (fzS F H l) H:=⟨λx o q=>by
  by_cases a:x∈l;.rw[gq a]at q;exact q
  .rw[bw a]at q;exact c.rb.sub x o q,c.rb.base,c.rb.fz0.trans k,λx o q=>by
  by_cases a:x∈l;.rw[gq a]at q;refine jV (M.there R.re x a) λu N O _=>?_;rw[N]at q;cases q;exact .inr ⟨(R.fr x a).2,O⟩
  .rw[bw a]at q;exact c.rb.fr x o q⟩;have out:∀{b:Addr},(jW B H l).H0 b=none->b∉l:=λ{b}z=>mZ (B:=B) r z;have p:RS B σ σV (fzS F H l) H:=by
  refine⟨G,c.len,λi w q=>?_,λi ws q=>?_,c.ap,c.dd.via rfl id (λ_ _ z=>.inl z) (λ_ _ _ q=>⟨q,rfl⟩) k λi C T b U E h q1 q2 q3=>⟨?_,q3,q1⟩⟩;.obtain⟨v,f,g⟩:=c.va i w q;exact⟨v,f,g.keep k⟩
  .refine oA (R.rs.ow i ws q) λb vs f g Q h4 h5=>?_;refine oA (c.ow i ws q) λA n d Z m Y P=>?_;rw[f]at d;cases d;exact aah b n f (by rw[bw (out Q)];exact g) m Y (P.keep k)
  .refine oE (R.rs.dd.od i C T E) λA y d _ m _=>?_;have d:σV[i]?=some (some (.ref A)):=d;have h:σV[i]?=some (some (.ref b)):=h;rw[h]at d;cases d;rw[bw (out m)];exact q2
 refine⟨k,?_⟩;unfold WL.seen at e;split at e
 .rename_i b K;split at e
  .rename_i I;cases e;subst I;obtain⟨v,f,g⟩:=p.va j _ K;subst g;have J:σV.set j (some (.ref (M.adr s)))=σV:=by
    apply List.ext_getElem?;intro i;by_cases t:j=i;.subst t;rw[apc (ao8.mp f).1,f]
    .rw[ao5 t]
   have:=p.set (i:=j) (w:=M.val s) (v:=.ref (M.adr s)) (M.rw R.re k λx a o q=>by rw[gq a];exact q);rw[J]at this;exact this
  .cases e
 .cases e
open Classical in theorem RX.back(R:RX M B s l σ σV F H){i d c}(k:RS B i σV d c)(f:Gr (fzS F H l) H d c):∃b,Gr F H b c/\(∀x o,d x=some o->x∉l->b x=some o)/\RX M B s l σ σV b c:=by
 let b:Hp:=λx=>if x∈l then none else d x;have e:∀{x:Addr},x∈l->b x=none:=λh=>apa h;have jh:∀{x:Addr},x∉l->b x=d x:=λh=>ao9 h;have g:Gr F H b c:=⟨λx o q=>by
 have a:x∉l:=λz=>by rw[(R.fr x z).1]at q;cases q
 rw[jh a];exact f.f x o (by rw[bw a];exact q),f.h,λx o q n=>by
 by_cases a:x∈l;.exact e a
 .rw[jh a];exact f.nf x o q (by rw[bw a];exact n)⟩;have sub:aw b d:=λx o q=>by grind
 have m:RB (jW B H l) b c:=⟨sub.trans k.rb.sub,R.rs.rb.base.trans f.h,R.rs.rb.fz0.trans g.f,λx o q=>by
 by_cases a:x∈l;.rw[e a]at q;cases q
 .rcases k.rb.fr x o (sub x o q)with z|⟨z,n⟩;.exact .inl z
  .exact .inr ⟨by show fzS B.H0 H l x=none;rw[bw a];exact z,n⟩⟩;exact⟨b,g,λx o q a=>by rw[jh a];exact q,R.next (R.rs.grow g m) g.f⟩
variable{c:Expr}{tt:TF}{ss ss':List Stmt}{t1 t2:RF S}{pos:Pos}
set_option tactic.hygienic true in
def anq{D v}(R:RX M B s l σ σV F H)(e:WL.xT M.adr M.val j tt σ s=.ok v)(h:∀a d,Gr F H d a->RX M B s l σ σV d a->D v a):loT B tt σV H D:=by
 unfold WL.xT at e;split at e;.rename_i σ1 i;obtain⟨k,g⟩:=R.frz i;refine⟨_,_,g,?_⟩;rw[e];intro a d R2 m;refine jV (R.back R2 m) λo n _ f=>?_;exact h _ _ n f
 .cases e
def OqX.ifB{r o1 o2}(h:OqX M B D F (WL.wV r o1 o2)):∃v,r=.ok v/\OqX M B D F (if v=true then o1 else o2):=by cases r with
|ok v=>cases v with|true|false=>exact⟨_,rfl,h⟩
|ex c|bad=>exact(h).elim
def gJ(h:PT X c (loT B tt))(d:PSs X ss (loX M B t1))(i:PSs X ss' (loX M B t2)):PS X (.If c ss ss' pos) (loX M B (WL.xIf (WL.xT M.adr M.val j tt) t1 t2)):=PS.imp (ahl h d i) λD σV H a=>by refine aiE a λσ F s l R q=>?_;refine eM (OqX.ifB q) λv ev q=>?_;refine anq R ev λk f e g=>?_;cases v with|true|false=>exact⟨σ,f,s,l,g,OqX.mono e.f q⟩
end
variable{S:Type}
section
variable{M:Rsc S}{B:Bx}{s:S}{l:List Addr}{σ:Ws}{σV:L2.St}{F H F' H':Hp}{D:Ends}{X:Cx}{i j:Nat}{e:Expr}{te:EF}{x:Str}{pos pos':Pos}
def aca(R:RX M B s l σ σV F H){b f d:Hp}(g:Gr (fzS F H l) H b d)(sub:aw b d)(h:∀y o,b y=some o->y∉l->f y=some o):∀a c,SqT B.K b a c->SqT B.K f a c:=λa c q=>by
 have k:∀{o:HO},b a=some o->(o=.tup c\/∃ob u,o=.frz ob u)->a∉l:=λ{o}q z p=>by
  obtain⟨u,n,t,r⟩:=M.there R.re a p;have m:=sub a o q;rw[g.h a u n]at m;cases m;rcases z with rfl|⟨ob,v,rfl⟩;.exact r c rfl
  .exact t
 rcases q with(q|⟨o,q⟩)|q;.exact .inl (.inl (h a _ q (k q (.inl rfl))))
 .exact .inl (.inr ⟨o,h a _ q (k q (.inr ⟨_,_,rfl⟩))⟩)
 .exact .inr q
def vI(R:RX M B s l σ σV F H){a c b:Hp}(g:Gr (fzS F H l) H a b)(sub:aw a b)(h:∀y o,a y=some o->y∉l->c y=some o){w:VW}{v:V}(p:WL.plain w=true)(r:RW B.K a w v):RW B.K c w v:=RW.less (aca R g sub h) w v p r
set_option tactic.hygienic true in
def afB(p:X.N.Nodup)(h:PE X e (lo B te))(r:X.N[i]?=some x:=by rfl)(n:Loc X.env.scope x:=by first|exact Or.inl rfl|exact Or.inr rfl)(u:swapsWith e (some (.Name x pos')) pos.line X.env=pure false:=by rfl)(z:FL X x:=by first|exact .inl rfl|exact .inr rfl|assumption):PS X (.Assign [.Name x pos'] e pos) (loX M B (WL.adQ M.adr M.val j i te)):=PS.imp (kT p r n h u z) λD σV H a=>by
 obtain⟨σ,F,s,l,R,q⟩:=a;unfold WL.adQ at q;split at q
 .rename_i A t;obtain⟨k,m⟩:=R.frz t;split at q
  .rename_i w y;split at q;.rename_i hw;refine⟨_,_,m,?_⟩;rw[y];intro v f G R2 c r1;obtain⟨g,o,C,b⟩:=R.back R2 c;have r2:=vI R c R2.rb.sub C hw r1;exact(show∀d H' F' E,_ from q) _ f g l ⟨b.rs.set r2,b.fr,b.re⟩ o.f
   .exact(show False from q).elim
  .exact(show False from q).elim
 .exact(show False from q).elim
end
variable{S:Type}
section
variable{M:Rsc S}{B:Bx}{s s':S}{l:List Addr}{σ:Ws}{σV:L2.St}{F H:Hp}
def RX.write(R:RX M B s l σ σV F H){x}(g:x∈l){o}(n:M.rel B.K s' l F (upd H x o)):RX M B s' l σ σV F (upd H x o):=by
 have i:=R.there;have m:∀(k:Nat)(ws)(y:Addr),σ[k]?=some (.ow ws)->σV[k]?=some (some (.ref y))->y∉l:=λk ws y a d=>by refine oE (R.rs.ow k ws a) λb _ c _ j _=>?_;rw[d]at c;cases c;exact mZ (B:=B) i j
 have nd:∀y∈l,∀(k:Nat)(f h:List VW),σ[k]?=some _->σV[k]?≠some (some (.ref y)):=λy e k f h a d=>by refine oE (R.rs.dd.od k f h a) λb _ c _ j _=>?_;rw[d]at c;cases c;exact mZ (B:=B) i j e
 exact⟨((R.rs.ajG (λy e=>(R.fr y e).2) i).away o (R.fr x g).1 (R.fr x g).2 (λk ws a d=>m k ws x a d g) λk f h a=>nd x g k f h a).inS (λy e=>(R.fr y e).1) m nd,R.fr,n⟩
end
open Classical in noncomputable def hol(l:List Addr)(H:Hp):Hp:=λx=>if x∈l then none else H x
def aks{l H x}(h:x∈l):hol l H x=none:=apa h
def ke{l H x}(h:x∉l):hol l H x=H x:=ao9 h
def spM(M:Rsc S)(K:W.Frag)(n:Nat)(f:List VW->S->OX S):Sp:=λh H Q E=>∃F ws s l,aw F H/\RWs K F ws h/\ws.length=n/\M.rel K s l F H/\(∀x∈l,F x=none)/\match f ws s with|.rt w s'=>∀v d b e,aw F b->aw b d->aw (hol l H) d->(∀x∈e,b x=none/\hol l H x=none)->M.rel K s' e b d->(∀a o,b a=some o->F a=some o\/hol l H a=none/\NF o)->RW K b w v->Q v d|.nx _ s'=>∀d b e,aw F b->aw b d->aw (hol l H) d->(∀x∈e,b x=none/\hol l H x=none)->M.rel K s' e b d->(∀a o,b a=some o->F a=some o\/hol l H a=none/\NF o)->Q .non d|.ex c _=>∀C g d b,aw F b->aw b d->aw (hol l H) d->(∀a o,b a=some o->F a=some o\/hol l H a=none/\NF o)->XR K b c C g->E (.ref C) g d|_=>False
section
variable{P:Program}{w:World}{K:W.Frag}{mg:Str->Option Value}{base:Heap}{M:Rsc S}
def ah4{x d st f fd N ps k m n}{fn:List VW->S->OX S}(t)(Fn:Fun K x d st f fd)(Sc:FnScope N ps (ak st))(hn:N.length=n)(p:ps.length=m)(Y:WL.runM n t=fn)(a9:ps.length<=N.length)(h:∀i A b s H E B,B.K=K->Room k (A.deeper (envOfC d (ak st) s.heap.objs.size f i))->XW (fB (CXX P w) P w K mg base N d (ak st) f i A b s H E) B->PassesOwn (model P w) (fB (CXX P w) P w K mg base N d (ak st) f i A b s H E).A (fB (CXX P w) P w K mg base N d (ak st) f i A b s H E).env (fB (CXX P w) P w K mg base N d (ak st) f i A b s H E).xe->PSs (fB (CXX P w) P w K mg base N d (ak st) f i A b s H E) (aF st) (loX M B t)):FnOk P w K mg base (CXX P w) (k+1) f fd ps (spM M K m fn):=by
 subst hn p Y;obtain⟨oc,od,kV,a8,pm,an,i,ct,b0,rfl,lk,a0⟩:=Fn.ex;refine rB lk a0 Sc (λvs H Q E J=>by obtain⟨F,ws,_,_,_,r,hl,_⟩:=J;rw[<-r.length];exact hl) λA b s H vs Q E hr _ J=>?_;obtain⟨F,ws,th,l,sm,r,hl,re,hF,p⟩:=J;let B0:Bx:=⟨K,hol l H,F,λ_ _ _=>False,λ_ _ _ _ _ h=>h⟩;let B1:Bx:=B0.oG (λc _ U=>∀C I g j,aw U j->RB B0 j g->XR K j c C I->E (.ref C) I g) λc σ U F2 s h C I g j R=>h C I g j (s.trans R);have e0:fzS (hol l H) H l=H:=by
  funext y;by_cases D:y∈l;.rw[gq D]
  .rw[bw D,ke D]
 have R0:RX M B1 th l (ws.map .va++List.replicate (N.length-ws.length) .no) (L2.start N vs) F H:=⟨(RS.start (N:=N) sm r (by omega)).box (B':=jW B1 H l) rfl e0 rfl,λy D=>⟨hF y D,aks D⟩,re⟩;refine⟨_,h i A b s H E B1 rfl hr (λa6 b8 H1 s1 σ U c R1 xp e C I T fl t Z=>je t (xp C I H1 U (aw.refl _) (R1.rb.box rfl rfl) Z)) aqD,_,F,th,l,R0,?_⟩;have bs:∀{j g:Hp}{u:List Addr},RB (jW B1 g u) j g->(∀y∈u,j y=none/\B1.H0 y=none)->aw (hol l H) g/\∀a o,j a=some o->F a=some o\/hol l H a=none/\NF o:=λ{j g u}G fr=>⟨λy o q=>by
 have D:y∉u:=λz=>by rw[show hol l H y=none from(fr y z).2]at q;cases q
 exact G.base y o (by show fzS (hol l H) g u y=some o;rw[bw D];exact q),λy o q=>by
 rcases G.fr y o q with z|⟨z,nf⟩;.exact .inl z
 .have D:y∉u:=λz2=>by rw[(fr y z2).1]at q;cases q
  have z:fzS (hol l H) g u y=none:=z;rw[bw D]at z;exact .inr ⟨z,nf⟩⟩;unfold WL.runM at p;cases e:t (ws.map .va++List.replicate (N.length-ws.length) .no) th with|rt w R=>rw[e]at p;exact λv g j u G fr X k r'=>p v g j u k G.sub (bs G fr).1 fr X (bs G fr).2 r'|nx σ' R=>rw[e]at p;exact λa7 g j u O k=>p g j u k O.rs.rb.sub (bs O.rs.rb O.fr).1 O.fr O.re (bs O.rs.rb O.fr).2|bk σ' R|ct σ' R=>rw[e]at p;exact p.elim|ex c σ'=>rw[e]at p;exact λC I g j k G Z=>p C I g j k G.sub G.base G.fr Z|bad=>rw[e]at p;exact p.elim
end
variable{S:Type}
section
variable{M:Rsc S}{B:Bx}{s s':S}{l l':List Addr}{σ:Ws}{σV:L2.St}{F H F' H':Hp}
def RX.out(R:RX M B s l σ σV F H)(k1:aw F F')(k2:aw F' H')(k3:aw (hol l H) H')(r:∀a o,F' a=some o->F a=some o\/hol l H a=none/\NF o):RS B σ σV F' H'/\∀a,hol l H a=none->B.H0 a=none:=by
 have g:=R.there;have c:RS B σ σV F H:=R.rs.ajG (λy E=>(R.fr y E).2) g;have t:∀a,hol l H a=none->B.H0 a=none:=λa z=>by
  by_cases p:a∈l;.exact(R.fr a p).2
  .rw[ke p]at z;exact c.rb.base.free z
 have u0:∀{b:Addr}{o:HO},H b=some o->F b=none->b∉l->F' b=none/\H' b=some o:=λ{b o}n K m=>by refine⟨?_,k3 b o (by rw[ke m];exact n)⟩;cases e:F' b with|none=>rfl|some u=>
   rcases r b u e with z|⟨z,_⟩;.rw[K]at z;cases z
   .rw[ke m,n]at z;cases z
 refine⟨⟨⟨k2,λx o q=>k3 x o ?_,c.rb.fz0.trans k1,λa o q=>?_⟩,c.len,λi w q=>?_,λi ws q=>?_,c.ap,c.dd.via rfl id (λ_ _ z=>.inl z) (λ_ _ _ q=>⟨q,rfl⟩) k1 λi C O b P D h q1 q2 q3=>?_⟩,t⟩;.rw[ke λz=>by rw[(R.fr x z).2]at q;cases q];exact c.rb.base x o q
 .rcases r a o q with z|⟨z,Q⟩;.exact c.rb.fr a o z
  .exact .inr ⟨t a z,Q⟩
 .obtain⟨v,f,j⟩:=c.va i w q;exact⟨v,f,j.keep k1⟩
 .refine oA (c.ow i ws q) λb A f j I G N=>?_;refine oE (R.rs.ow i ws q) λJ _ d _ k _=>?_;rw[f]at d;cases d;have:=u0 G j (mZ (B:=B) g k);exact aah b A f this.1 I this.2 (N.keep k1)
 .refine oE (R.rs.dd.od i C O D) λJ _ d _ k _=>?_;have h:σV[i]?=some (some (.ref b)):=h;rw[h]at d;cases d;have:=u0 q1 q2 (mZ (B:=B) g k);exact⟨this.1,q3,this.2⟩
def RX.hand(R:RX M B s l σ σV F H)(k1:aw F F')(k2:aw F' H')(k3:aw (hol l H) H')(fr:∀x∈l',F' x=none/\hol l H x=none)(v:M.rel B.K s' l' F' H')(r:∀a o,F' a=some o->F a=some o\/hol l H a=none/\NF o):RX M B s' l' σ σV F' H':=by
 obtain⟨m,t⟩:=R.out k1 k2 k3 r;have k:=R.there;have j:∀{b}{o},H b=some o->b∉l->b∉l':=λ{b o}u n z=>by have:=(fr b z).2;rw[ke n,u]at this;cases this
 refine⟨m.inS (λx c=>(fr x c).1) (λi ws x g e=>?_) λx c i p q g e=>?_,λx c=>⟨(fr x c).1,t x (fr x c).2⟩,v⟩;.refine oA (R.rs.ow i ws g) λb _ d _ h f _=>?_;rw[e]at d;cases d;exact j f (mZ k h)
 .refine oA (R.rs.dd.od i p q g) λb _ d _ h f _=>?_;rw[e]at d;cases d;exact j f (mZ k h) c
end
end WS
set_option autoImplicit true
set_option relaxedAutoImplicit true
namespace WS
open PySem PySem.Spec PyProof.Rows L2
open WL(Res Sl Ws EF TF AF LF GF GsF SF Out OX RF Rn AXF Dk XE XT)
theorem ab6 :∀{fs:List (Str×V)}{n:Nat},(fs.map (·.1)).Nodup->fs[n]?=some (f,v)->fs.lookup f=some v
|[],_,_,e=>by simp at e|(g,u)::fs,0,_,e=>by grind|(g,u)::fs,n+1,nd,e=>by
 simp only[apA,aqf]at nd;have a:=by simpa using e
 have b:(f==g)=false:=apM.mpr λz=>nd.1 (z▸ash.mpr ⟨(f,v),aqn a,rfl⟩);simp only[List.lookup,b];exact ab6 nd.2 a
def vF:∀{fs:List (Str×V)},f∉fs.map (·.1)->fs.lookup f=none|[],_=>rfl|(g,u)::fs,h=>by grind
section
variable{X:Cx}{B:Bx}{fl m:Str}{c:String}{C f:Addr}{fd:FuncData}{ps:List Str}{k n:Nat}{fn:List VW->Res VW}{e o:Expr}{to:EF}{tas:AF}{pos:Pos}
set_option tactic.hygienic true in
def agU(S:X.K=B.K)(G:W.nsIn X.K mainGlobals (Str.ofString c)=some (some (.ref C)))(cl:Cls X.K C)(J:aI X.K C fl)(nd:(WL.fw c).Nodup)(i:(WL.fw c)[n]?=some fl)(K:PE X o (lo B to))(M:attributeBase o fl X.env (eval o X.env)=eval o X.env:=by rfl):PE X (.Attribute o fl pos) (lo B (WL.cK c n to)):=PE.imp (kU K M) λT H Q j=>by
 obtain⟨D,F,R,q⟩:=j;have q:=Rq.bind q;refine⟨D,F,R,Rq.mono (aw.refl _) q λy b v x N p z r1=>?_⟩;unfold WL.ahV at b;split at b
 .rename_i U ws;split at b
  .rename_i d;have d:=eq_of_beq d;subst d;split at b
   .rename_i w O;simp only[RW]at r1;obtain⟨a,Y,E,A,rfl,I,s,u,_,r⟩:=r1;rw[<-S,G]at s;cases s;obtain⟨v1,h,r1⟩:=r.get O;rw[apz,apr]at h;obtain⟨⟨g,v2⟩,t,rfl⟩:=h;have P:g=fl:=by have:=aqq (λl=>l[n]?) u;simp only[apz,t,i,Option.map_some]at this;exact aps this
    subst P;exact⟨a,C,E,_,v2,rfl,p.rb.sub _ _ I,cl,J,ab6 (by rw[u];exact nd) t,b v2 x N p z r1⟩
   .exact(b).elim
  .exact(b).elim
 .exact(b).elim
def ye (z:X.K=B.K)(E:XW X B)(J:W.nsIn X.K mainGlobals (Str.ofString c)=some (some (.ref C)))(j:m∉WL.fw c)(I:∀d ws,tas d=.ok ws->ws.length+1=n):∀g H Q,lo B (WL.aO c fn to tas) g H Q->pK X C m (spX X.K n fn) [] (lo B to) (loA B tas) g H Q:=by
 intro g H Q⟨d,F,R,q⟩;have q:=Rq.bind q;refine⟨d,F,R,Rq.mono (aw.refl _) q λy b v O x s u r=>?_⟩;by_cases h:WL.isN c y=true
 .rw[apa h]at b;have b:=Rq.bind b;obtain⟨w,rfl⟩:∃w,y=.ins c w:=by
   unfold WL.isN at h;split at h;.rw[eq_of_beq h];exact⟨_,rfl⟩
   .cases h
  have i:=r;simp only[RW]at i;refine aiD i λa S G D l K t M _ _=>?_;subst l;rw[<-z,J]at t;cases t;refine⟨a,G,_,rfl,s.rb.sub _ _ K,vF (by rw[M];exact j),d,x,s,?_⟩;cases ea:tas d with|bad=>rw[ea]at b;exact b|ex c=>rw[ea]at b;exact B.mono c d F x u.f b|ok ws=>rw[ea]at b;exact λT N P A p r1=>qF z E A (u.trans p) (.cons (r.keep p.f) r1) (by rw[apj];exact I d ws ea) b (by rw[apE])
 .rw[ao9 h]at b;exact(b).elim
def aoN  (x:B.K=X.K)(E:Room j X.A)(p:XW X B)(w:W.nsIn X.K mainGlobals (Str.ofString c)=some (some (.ref C)))(cl:Cls X.K C)(G:oD X.prog X.w X.K X.mg X.base k C g m ps (spX X.K 1 fn))(I:PE X o (lo B to))(hk:k<=j:=by decide)(d:m∉WL.fw c:=by decide)(K:eval (.Call (.Attribute o m apos) [] [] pos) X.env=(do
  let i <-eval o X.env
  standAt apos.atName let(f,first)<-holding [i] (getMethod i m pl)callWith pos f first (backTo pos (starEach [] X.env)) (backToKw pos (keywordEach [] X.env))):=by rfl):PE X (.Call (.Attribute o m apos) [] [] pos) (lo B (WL.aO c fn to WL.aq)):=by obtain⟨M,fd,F,b⟩:=G;refine PE.imp (mX I cl M F (E.mono hk) b .nil K) λU H Q q=>?_;refine dv (ye x.symm p w d λl ws e=>by cases e;rfl _ H Q q) λl h R q=>?_;refine dI l h R (Rq.mono (aw.refl _) q λy D v r h t J s=>?_);obtain⟨a,u,fs,O,z,P,S,A,T,N⟩:=D v _ h t J s;exact r9 a u fs O z P (N [] r A T Gr.refl (rfl))
end
section
variable{S:Type}{M:Rsc S}{B:Bx}{s:S}{l:List Addr}{σ:Ws}{σV:L2.St}{F H F' H':Hp}{D:Ends}{X:Cx}{st:Stmt}{rest:List Stmt}{t1 t2:RF S}
def OqE(B:Bx)(D:Ends)(F:Hp):OX S->Prop|.rt w _=>∀v H' F',RB B F' H'->aw F F'->RW B.K F' w v->D.rt v H'|.ex c σ'=>B.xp c σ' F|_=>False
def loE(M:Rsc S)(B:Bx)(t:RF S):TS:=λD σV H=>∃σ F s l,RX M B s l σ σV F H/\OqE B D F (t σ s)
theorem OqE.mono(k:aw F F'){o:OX S}(h:OqE B D F o):OqE B D F' o:=by cases o with|rt w s=>exact λv H G a z r=>h v H G a (k.trans z) r|ex c σ=>exact B.mono c σ F _ k h|_=>exact h
def af2(a:RB (jW B H l) F H)(fr:∀x∈l,F x=none/\B.H0 x=none):RB B F H:=by
 refine⟨a.sub,λx o q=>?_,a.fz0,λx o q=>?_⟩;.exact a.base x o (by show fzS _ H l x=some o;rw[bw λz=>by grind];exact q)
 .rcases a.fr x o q with z|⟨z,b⟩;.exact .inl z
  .have z:fzS _ H l x=none:=z;rw[bw λz2=>by grind]at z;exact .inr ⟨z,b⟩
def agB(f:PS X st (loX M B t1))(h:PSs X rest (loE M B t2)):PSs X (st::rest) (loE M B (WL.cj t1 t2)):=PSs.imp (bg f h) λD σV H b=>by refine aiE b λσ F s l R q=>?_;refine ak9 σ F s l R ?_;have q:OqE B D F (match t1 σ s with|.nx σ' s'=>t2 σ' s'|o=>o):=q;cases a:t1 σ s with|nx σ' s'=>rw[a]at q;exact λe H' F' d i k=>ak9 σ' F' s' d i (OqE.mono k q)|bk σ' s'|ct σ' s'=>rw[a]at q;exact q.elim|rt w s'=>rw[a]at q;exact λv H' F' d g fr m k r=>q v _ _ (af2 g fr) k r|ex c σ'|bad=>rw[a]at q;exact q
end
section
variable{B:Bx}{σ:Ws}{σV:L2.St}{F H:Hp}{i j:Nat}
def RS.blank(R:RS B σ σV F H):RS B (List.replicate σ.length .no) σV F H:=by
 have no:∀{i:Nat}{b:Sl},(List.replicate σ.length Sl.no)[i]?=some b->b=.no:=λ{i b}e=>by
  rw[ap9]at e;split at e;.exact(aps e).symm
  .cases e
 refine⟨R.rb,by rw[aqg];exact R.len,λi w e=>(nomatch no e),λi ws e=>(nomatch no e),λi j ws c a _ e _ _ _=>(nomatch no e),λi g f e=>(nomatch no e),λi j g f h d a _ e _ _ _=>(nomatch no e),λi e=>nomatch no e⟩
end
section
variable{K:W.Frag}{mg:Str->Option Value}{nm:Str}
abbrev MgA(K:W.Frag)(mg:Str->Option Value):Prop:=∀nm v,W.nsIn K mainGlobals nm=some (some v)->mg nm=some v
end
end WS
set_option autoImplicit true
set_option relaxedAutoImplicit true
namespace WS
open PySem PySem.Spec PyProof.Rows L2
open WL(Res Sl Ws EF TF AF LF GF GsF SF Out OX RF Rn AXF Dk XE XT)
def ag8(K:W.Frag)(ta:TE):TE:=λb H Q=>ta b H λx a=>∃h y,x=.ref h/\wK K a h y/\Q (.str y) a
def ahr{X e pos ta k}(K:Room k X.A)(z:PE X e ta):PE X (.FormattedValue e (-1) none pos) (ag8 X.K ta):=by
 intro f s B H Q I h;refine ara (thn (z f s B H _ I h) λu s1 j=>?_);obtain⟨x,v,c,U,a,y,rfl,⟨C,Z,t,O,J,g,R,S,_⟩,q⟩:=j;cases U;obtain⟨⟨w,vs,m,o,p,l,g5,Y⟩,_⟩:=c.hok a _ O;obtain⟨_,i,r,G,D,E,n,P⟩:=c.hok t _ S;obtain⟨tk,rfl⟩:∃tk,i=[.str y tk]:=by cases r with|cons a b=>cases b with|nil=>obtain⟨tk,rfl⟩:=a;exact⟨tk,rfl⟩
 obtain⟨od,T⟩:∃od,W.InstAt s1.heap a w C od:=by
  rcases g with g|⟨d,A,g,N⟩;.exact⟨none,m,o,by unfold W.notCls;rw[l],by rw[p,g];exact trivial⟩
  .obtain⟨od,M⟩:=eB (c.hok d _ N);exact⟨some od,m,o,by unfold W.notCls;rw[l],by rw[p,g];exact M⟩
 exact ahU (tk:=tk) J (by have:=K.un;show X.A.units+_<_;omega) c.kIn T l (by rw[Y,R]) ⟨G,n,D,E,P⟩ ⟨.str y,v,c.tok _,⟨_,rfl⟩,q⟩
def aai(K:W.Frag)(ws:List V)(H:Hp):Prop:=∃n h y,ws=[.int n,.ref h]/\n.natAbs.log2<100/\wK K H h y
def aai.mono{K}(ws)(H)(b)(o)(a:H b=none)(q:aai K ws H):aai K ws (upd H b o):=by obtain⟨n,h,y,e,d,c⟩:=q;exact⟨n,h,y,e,d,c.via λ_ _ _=>au a _ _ _⟩
def ai8{c H Q K c1 c2 n e y}(h:c1.length<=1000)(m:c2.length<=1000)(o:c[1]?=some (some (.int n)))(i:n.natAbs.log2<100)(j:c[2]?=some (some (.ref e)))(f:wK K H e y)(k:∀z,z.length<=6000000->Q (.str z) H):tJ [tC (.str c1),aik (cM 1),tC (.str c2),ag8 K (cM 2)] Str.empty c H Q:=by
 have t:Str.empty.length=0:=rfl;have s:6000000<=sizeLine:=by decide
 have v:y.length<=5000000:=by obtain⟨_,_,_,_,_,_,_,_,z⟩:=f;exact z
 have p1:Part (tC (.str c1)) c H:=abJ h;have p2:Part (aik (cM 1)) c H:=af9 o i;have p3:Part (tC (.str c2)) c H:=abJ m;generalize tC (.str c1)=t1 at p1⊢;generalize aik (cM 1)=t2 at p2⊢;generalize tC (.str c2)=t3 at p3⊢;refine p1 _ λa p=>?_;have l:(Str.empty++a).length=Str.empty.length+a.length:=arc ..;refine⟨a,rfl,by omega,p2 _ λb w=>?_⟩;have g:(Str.empty++a++b).length=(Str.empty++a).length+b.length:=arc ..;refine⟨b,rfl,by omega,p3 _ λd q=>?_⟩;have u:(Str.empty++a++b++d).length=(Str.empty++a++b).length+d.length:=arc ..;refine⟨d,rfl,by omega,.ref e,j,e,y,rfl,f,?_⟩;have r:(Str.empty++a++b++d++y).length=(Str.empty++a++b++d).length+y.length:=arc ..;exact⟨y,rfl,by omega,by omega,k _ (by omega)⟩
section
variable{P:Program}{w:World}{K:W.Frag}{mg:Str->Option Value}{base:Heap}
def aeV{i o p a b c st f C t k c1 c2}(U:Fun K "__init__" i st f t)(S:FnScope [a,b,c] [a,b,c] (ak st))(T:p≠o)(N:c1.length<=1000)(B:c2.length<=1000)(h:∀j A g s H E,Room k (A.deeper (envOfC i (ak st) s.heap.objs.size f j))->PSs (fB CX0 P w K mg base [a,b,c] i (ak st) f j A g s H E).nox (aF st) (ai5 (sP (aa2 C (jy (cM 0) (jy (tJ [tC (.str c1),aik (cM 1),tC (.str c2),ag8 K (cM 2)] Str.empty) xu)))) (ai5 (sX1 C (cM 0) (cM 1) o) (sX2 C (cM 0) (cM 2) p)))):FnOk P w K mg base CX0 (k+1) f t [a,b,c] (spG C [o,p] 6000000 (aai K)):=by refine U.ok S λX H Q E l=>by obtain⟨e,ws,_,ev,r,_⟩:=l;rw[ev,apj,r];rfl λj A g s H X Q E G l=>?_;obtain⟨e,ws,v,ev,r,u,⟨n,O,y,M,x,Y⟩,q⟩:=l;subst ev M;refine⟨_,h j A g s H E G,?_⟩;refine⟨.ref e,rfl,ai8 N B rfl x rfl Y λz R=>⟨e,none,v,z,rfl,u,λJ I Z=>?_⟩⟩;refine⟨.int n,rfl,.ref e,rfl,e,_,rfl,ah,λd D m=>?_⟩;refine⟨.ref O,rfl,.ref e,rfl,e,d,[(o,.int n)],_,rfl,ah,by rw[ae m,ah],m,by simp,by simp[List.lookup,apM.mpr T],?_⟩;have:=q J _ d I R (by rwa[ae m]at D) m;rw[aos m,ant];exact this
end
end WS
set_option autoImplicit true
set_option relaxedAutoImplicit true
namespace WS
open PySem PySem.Spec PyProof.Rows L2
open WL(Res Sl Ws EF TF AF LF GF GsF SF Out OX RF Rn AXF Dk XE XT)
noncomputable abbrev rfs(b:V)(r:Addr):List (Str×V):=[("book",b),("floors",.ref r)]
def zf{b r}:(rfs b r).lookup ("floors":Str)=some (V.ref r):=rfl
structure RRel(K:W.Frag)(s:Rn)(F H:Hp)(C dx:Addr)(b:V)(vs:List V):Prop where
 ns:W.nsIn K mainGlobals (Str.ofString "Run")=some (some (.ref C))at_:F s.a=some (.ins C dx (rfs b s.r))bo:RW K F s.book b
 ro:H s.r=some (.lst vs)rs:RWs K F s.floors vs
def anG(K:W.Frag)(s:Rn)(l:List Addr)(F H:Hp):Prop:=∃C a b c,l=[s.r]/\RRel K s F H C a b c
def rnM:Rsc Rn where
 adr:=Rn.a;rel:=anG;val:=Rn.val;mono:=λh0_ k h=>by obtain⟨C,dx,b,vs,el,R⟩:=h0_;subst el;exact⟨C,dx,b,vs,rfl,R.ns,k _ _ R.at_,R.bo.keep k,h _ (by simp) _ R.ro,R.rs.keep k⟩
 there:=λh0_ x hx=>by obtain⟨C,dx,b,vs,el,R⟩:=h0_;subst el;rw[apZ.mp hx];exact⟨_,R.ro,trivial,λ_ z=>nomatch z⟩
 fz:=λ{K s l F H a od kvs}h0_ hF e=>by
  obtain⟨C,dx,b,vs,el,R⟩:=h0_;subst el;have n1:s.r≠a:=λz=>by have:=hF s.r (by simp);rw[z,e]at this;cases this
  have n3:s.a≠a:=λz=>by have:=R.at_;rw[z,e]at this;cases this
  exact⟨C,dx,b,vs,rfl,R.ns,by rw[ae n3];exact R.at_,R.bo.fz e,by rw[ae n1];exact R.ro,R.rs.fz e⟩
 th:=λ{K s l F H a od kvs}h0_ hF e=>by
  obtain⟨C,dx,b,vs,el,R⟩:=h0_;subst el;have n1:s.r≠a:=λz=>by have:=hF s.r (by simp);rw[z,e]at this;cases this
  have n3:s.a≠a:=λz=>by have:=R.at_;rw[z,e]at this;cases this
  exact⟨C,dx,b,vs,rfl,R.ns,by rw[ae n3];exact R.at_,R.bo.th e,by rw[ae n1];exact R.ro,R.rs.th e⟩
 rw:=λ{K s l F H F'}h0_ k h=>by obtain⟨C,dx,b,vs,el,R⟩:=h0_;subst el;unfold WL.Rn.val;simp only[RW,RWs];exact⟨s.a,C,dx,rfs b s.r,rfl,k _ _ R.at_,R.ns,rfl,asm _ _,b,_,rfl,R.bo.keep k,.ref s.r,_,rfl,⟨s.r,vs,rfl,SqL.of (h _ (by simp) _ R.ro),R.rs.keep k⟩,rfl⟩
section
variable{B:Bx}{s:Rn}{l:List Addr}{σ:Ws}{σV:L2.St}{F H:Hp}{D:Ends}{X:Cx}{i j k:Nat}{e:Expr}{es:List Expr}{te:EF}{pos pos':Pos}{x:Str}{a:AXF Rn}
def ahj{K}(h:anG K s l F H):RW K F s.aij (.ref s.a):=by obtain⟨C,c,b,f,d,R⟩:=h;exact⟨_,C,c,_,rfl,R.at_,R.ns,rfl,asm _ _,b,_,rfl,R.bo,_,_,rfl,rfl,rfl⟩
set_option tactic.hygienic true
def RX.view(R:RX rnM B s l σ σV F H){c}(e:WL.seen Rn.a Rn.aij j σ s=some c):RS (jW B H l) c σV F H:=by
 unfold WL.seen at e;split at e
 .rename_i b d;split at e;.rename_i h;cases e;subst h;obtain⟨v,g,f⟩:=R.rs.va j _ d;subst f;have:=R.rs.set (i:=j) (ahj R.re);rw[set_same g]at this;exact this
  .cases e
 .cases e
def agD(y:B.K=X.K)(E:XW X B)(r:X.N.Nodup)(m:∀f,f.K=X.K->XW X f->PE X e (lo f te))(t:X.N[i]?=some x:=by rfl)(d:Loc X.env.scope x:=by first|exact Or.inl rfl|exact Or.inr rfl)(C:swapsWith e (some (.Name x pos')) pos.line X.env=pure false:=by rfl)(u:FL X x:=by first|exact .inl rfl|exact .inr rfl|assumption):PS X (.Assign [.Name x pos'] e pos) (loX rnM B (WL.yP Rn.a Rn.aij j i te)):=by
 intro b A σV H D I⟨σ,F,s,l,R,q⟩;refine kT r t d (m (jW B H l) y (E.inS (λx d=>(R.fr x d).2) R.there)) C u b A σV H D I ?_;unfold WL.yP at q;split at q
 .rename_i g z;split at q;.rename_i w p;refine⟨g,F,R.view z,?_⟩;rw[p];intro v h n o c r1;have R2:=R.next (R.rs.grow c o.rb) c.f;exact q _ h n l ⟨R2.rs.set r1,R2.fr,R2.re⟩ c.f
  .exact(q).elim
 .exact(q).elim
set_option tactic.hygienic false
def ahI(M:Rsc S)(B:Bx)(a:AXF S):TA:=λσV H Q=>∃σ F s l ws,RX M B s l σ σV F H/\a σ s=.ok ws/\∀d b c,RX M B s l σ σV c b->Gr F H c b->RWs B.K c ws d->Q d b
def si:PA X [] (ahI rnM B WL.axN):=PA.imp cu λσV H Q⟨σ,F,s,l,ws,R,e,h⟩=>by cases e;exact h _ H F R Gr.refl rfl
def js{α b}{r:Res α}{f:α->Res b}{y}(h:r.bind f=.ok y):∃x,r=.ok x/\f x=.ok y:=by cases r with|ok x=>exact⟨x,rfl,h⟩|_=>cases h
def wR(t:B.K=X.K)(n:∀g,g.K=X.K->PE X e (lo g te))(y:PA X es (ahI rnM B a))(E:SE X e es:=by rfl):PA X (e::es) (ahI rnM B (WL.axP te a)):=by intro pos d p σV H Q I⟨σ,F,s,l,ws,R,q,h⟩;obtain⟨w,u,q⟩:=js q;obtain⟨b,r,q⟩:=js q;cases q;refine aP (n (jW B H l) t) y E _ _ p σV H Q I ⟨σ,F,R.rs,?_⟩;rw[u];exact λv G z o c r1=>⟨σ,z,s,l,b,R.next o c.f,r,λC A m R2 f r2=>h _ A m R2 (c.trans f) ⟨v,C,rfl,r1.keep f.f,r2⟩⟩
def ab9(R:RX rnM B s l σ σV F H){m E P}(g:Gr (fzS F H l) H m P)(h:∀y o,m y=some o->y∉l->E y=some o){w:VW}{v}(p:WL.anR w=true)(t:WL.tuh s.floors=true)(r:RW B.K m w v):RW B.K E w v:=by
 cases w with|lst ws=>
  have p:ws.all WL.isInt=true:=p;simp only[RW]at r⊢;obtain⟨b,d,rfl,c,A⟩:=r;have n:∀{ws:List VW}{d:List V}{G:Hp},ws.all WL.isInt=true->RWs B.K m ws d->RWs B.K G ws d:=λ{ws}=>by induction ws with|nil=>intro d G _ r;exact r|cons w ws ih=>intro d G p r;obtain⟨v,u,rfl,q1,q2⟩:=r;rw[arb,apk]at p;cases w with|int i=>exact⟨v,u,rfl,q1,ih p.2 q2⟩|_=>cases p.1
  refine⟨b,d,rfl,?_,n p A⟩;obtain⟨C,T,U,O,N,S⟩:=R.re;have Q:m s.r=some (.lst O):=g.f _ _ (by rw[gq (by rw[N];simp)];exact S.ro);have I:∀{o},m b=some o->(o=.lst d\/∃ob,o=.frz ob (.lst d))->b∉l:=λ{o}q z K=>by
   rw[N]at K;cases apZ.mp K;rw[Q]at q;cases q;rcases z with z|⟨_,z⟩;.cases z;have J:=S.rs;cases M:s.floors with|nil=>rw[M]at t;cases t|cons f fs=>rw[M]at t J;obtain⟨v,u,rfl,q1,_⟩:=J;cases f with
 |tup O=>obtain⟨a,d,rfl,_⟩:=q1;cases ws with|nil=>cases A|cons w ws=>rw[arb,apk]at p;obtain⟨v,u,e,q1,_⟩:=A;cases w with|int i=>cases q1;cases e|_=>cases p.1
  |_=>cases t
   .cases z
  rcases c with(c|⟨o,c⟩)|c;.exact .inl (.inl (h _ _ c (I c (.inl rfl))))
  .exact .inl (.inr ⟨o,h _ _ c (I c (.inr ⟨_,rfl⟩))⟩)
  .exact .inr c|_=>cases p
set_option tactic.hygienic true in
def aoo(P:B.K=X.K)(o:PE X e (lo B te))(G:PA X es (ahI rnM B a))(J:SE X e es:=by rfl):PA X (e::es) (ahI rnM B (WL.axL j te a)):=by
 intro pos f t σV H Q I⟨σ,F,s,l,ws,R,q,h⟩;unfold WL.axL at q;split at q
 .rename_i d c;split at q
  .rename_i w K;split at q;.rename_i hw;obtain⟨b,y,q⟩:=js q;cases q;obtain⟨k,r⟩:=R.frz c;refine aP o G J pos _ t σV H Q I ⟨d,_,r,?_⟩;rw[K];intro v O S R2 g r1;obtain⟨n,z,N,E⟩:=R.back R2 g;exact⟨σ,n,s,l,b,E,y,λp u A M m C=>h _ u A M (z.trans m) ⟨v,p,rfl,(ab9 R g N hw.1 hw.2 r1).keep m.f,C⟩⟩
   .cases q
  .cases q
 .cases q
end
end WS
set_option autoImplicit true
set_option relaxedAutoImplicit true
namespace WS
open PySem PySem.Spec PyProof.Rows L2
open WL(Res Sl Ws EF TF AF LF GF GsF SF Out OX RF Rn AXF Dk XE XT)
section
variable{M:Rsc S}{B:Bx}{σ:Ws}{σV:L2.St}{F H:Hp}{D:Ends}{X:Cx}{k:Nat}{tg e:Expr}{body:List Stmt}{b:RF S}{it:LF}{pos:Pos}
set_option tactic.hygienic true in
def qp(hK:B.K=X.K)(hp:PassesOwn (model X.prog X.w) X.A X.env X.xe)(hc:X.calm=true)(hi:∀Q,Q.K=X.K->PI X tg e (loI Q it))(hg:PG X tg (L2.aN k))(hb:PSs X body (loX M B b))(hs:∀x,foldedSetIterable e X.env x=pure x:=by intro _;rfl):PS X (.For tg e body [] pos) (loX M B (WL.jY it k b)):=by
 intro u Z σV H D I⟨σ,F,s,l,R,q⟩;unfold WL.jY at q;split at q
 .rename_i g ex;refine xN hp hc (hi (jW B H l) hK) hg hb hs u Z σV H D I ⟨σ,F,R.rs,?_⟩;rw[ex];intro J H0 P R0 T wk;refine⟨λj m d p=>m=g.length-j/\j<=g.length/\∃f h s1 t,RX M B s1 t f d h p/\aw P h/\OqX M B D h (WL.lE k b (g.drop j) f s1),⟨g.length,rfl,apC _,σ,P,s,l,R.next R0 T.f,aw.refl _,by rw[aqH];exact OqX.mono T.f q⟩,?_⟩;rintro j m d p⟨rfl,hj,f,h,s1,t,r,k1,q1⟩;by_cases n:j<g.length;.rw[apI n]at q1;obtain⟨go,yl⟩:=wk.go j g[j] (apf n) h p k1 r.rs.rb.sub;refine .inr ⟨go,_,λa N h2=>⟨g.length-(j+1),by omega,rfl,n,h2⟩,λv N hy=>?_⟩;obtain⟨A,G,r2⟩:=yl v N hy;have R2:RX M B s1 t f d A N:=r.next (G.rs _ _ _ r.rs) G.same;refine⟨f.set k (.va g[j]),A,s1,t,⟨R2.rs.set r2,R2.fr,R2.re⟩,?_⟩;have q1:OqX M B D h (match b (f.set k (.va g[j])) s1 with|.nx a s2=>WL.lE k b (g.drop (j+1)) a s2|.ct a s2=>WL.lE k b (g.drop (j+1)) a s2|.bk a s2=>.nx a s2|o=>o):=q1;have k3:aw h A:=G.same;cases y:b (f.set k (.va g[j])) s1 with|nx a s2|ct a s2=>rw[y]at q1;exact λi O E C K z=>⟨a,E,s2,C,K,(k1.trans k3).trans z,OqX.mono (k3.trans z) q1⟩|bk a s2=>rw[y]at q1;exact λi O E C K z=>(show∀d H' F' U,_ from q1) i O E C K (k3.trans z)|rt w s2|ex c a=>rw[y]at q1;exact OqX.mono (D:=D) k3 q1|bad=>rw[y]at q1;exact q1
  .have Y:j=g.length:=by omega
   subst Y;rw[aqr]at q1;exact .inl ⟨wk.stop h p k1 r.rs.rb.sub,(show∀d H' F' U,_ from q1) d p h t r (aw.refl _)⟩
 .exact(show False from q).elim
end
section
variable{B:Bx}{s:Rn}{l:List Addr}{σ:Ws}{σV:L2.St}{F H:Hp}{D:Ends}{X:Cx}{j k n:Nat}{f C:Addr}{fn:List VW->Rn->OX Rn}{a:AXF Rn}{e o:Expr}{es:List Expr}{te:EF}{m:Str}{apos cpos pos:Pos}{st:Stmt}
set_option tactic.hygienic true
def adP(G:B.K=X.K)(P:XW X B)(Q:W.nsIn X.K mainGlobals (Str.ofString "Run")=some (some (.ref C)))(O:m∉WL.fw "Run")(cl:Cls X.K C)(ho:PE X o (cM j))(ha:PA X (e::es) (ahI rnM B a))(hn:∀σ s ws,a σ s=.ok ws->ws.length+1=n)(a0:∀t,PA X (e::es) t->PE X (.Call (.Attribute o m apos) (e::es) [] cpos) (pK X C m (spM rnM X.K n fn) [] (cM j) t))(hs:swapsWith (.Call (.Attribute o m apos) (e::es) [] cpos) none pos.line X.env=pure false:=by rfl):PS X (.Expr (.Call (.Attribute o m apos) (e::es) [] cpos) pos) (loX rnM B (WL.de j fn a)):=by
 intro A sh σV H D I⟨σ,F,s,l,R,q⟩;refine dG (a0 _ ha) hs A sh σV H D I ?_;unfold WL.de at q;split at q
 .rename_i b eb;split at q
  .rename_i Z;subst Z;split at q
   .rename_i ws ew;obtain⟨v,h1,Y⟩:=R.rs.va j _ eb;have Y:v=.ref s.a:=Y;subst Y;obtain⟨C',dx,b,us,el,S⟩:=R.re;have:=S.ns;rw[G,Q]at this;cases this;refine⟨_,h1,s.a,dx,_,rfl,R.rs.rb.sub _ _ S.at_,vF (by exact O),σ,F,s,l,ws,R,ew,?_⟩;intro vs H1 F1 h N r1;rw[apE];refine⟨λCv u p=>∃E g c d,Cv=.ref E/\RS B d σV g p/\B.xp c d g/\XR X.K g c E u,⟨F1,.id s.a::ws,s,l,h.rs.rb.sub,.cons (by simp only[RW]) (G▸r1),by rw[apj];exact hn σ s ws ew,G▸h.re,λx P=>(h.fr x P).1,?_⟩,?_⟩;.cases z:fn (.id s.a::ws) s with|nx d J=>rw[z]at q;exact λp g M k1 k2 k3 fr re K=>(show∀a6 p g M,_ from q) σV p g M (h.hand k1 k2 k3 fr (G▸re) K) (N.f.trans k1)|rt w J=>rw[z]at q;exact λv p g M k1 k2 k3 fr re K r=>q σV p g M (h.hand k1 k2 k3 fr (G▸re) K) (N.f.trans k1)|ex c d=>rw[z]at q;intro E u p g k1 k2 k3 K U;have q:B.xp c σ F:=q;exact⟨E,g,c,σ,rfl,(h.out k1 k2 k3 K).1,B.mono c σ F g (N.f.trans k1) q,U⟩|bk d J=>rw[z]at q;exact(show False from q).elim|ct d J=>rw[z]at q;exact(show False from q).elim|bad=>rw[z]at q;exact(show False from q).elim
    .rintro y J e' C' u T p t⟨E,g,c,d,ec,R',xp,U⟩;cases ec;exact P y σV p J d g c R' xp e' C' u (some T) .none t U
   .exact(show False from q).elim
  .exact(show False from q).elim
 .exact(show False from q).elim
def adO(h:PS X st (anv (lo B te))):PSs X [st] (loE rnM B (WL.aav j te)):=PSs.imp (dF h) λD σV H⟨σ,F,s,l,R,q⟩=>by
 unfold WL.aav at q;split at q
 .rename_i b r;split at q;.rename_i w g;obtain⟨k,d⟩:=R.frz r;refine⟨b,_,d,?_⟩;rw[g];exact λv c t R2 p r2=>q v c _ R2.rb (k.trans p.f) r2
  .exact(q).elim
 .exact(q).elim
set_option tactic.hygienic false
end
end WS
set_option autoImplicit true
set_option relaxedAutoImplicit true
namespace WS
open PySem PySem.Spec PyProof.Rows L2
open WL(Res Sl Ws EF TF AF LF GF GsF SF Out OX RF Rn AXF Dk XE XT)
section
variable{B:Bx}{X:Cx}{i ci k:Nat}{te:EF}{st:Stmt}{A1 A2 A3 A4 CB fI:Addr}{x1 x2 x3 x4 xB n cn:Str}{p1 p2 p3 p4 tp q1 q2 q3 np cpos rpos hpos pos:Pos}{ps:List Str}{fd:FuncData}
set_option tactic.hygienic true in
def agC{ec cs}(c7:"Broken"∉cs)(hB:B.K=X.K)(hx:XW X B)(hr:Room 39 X.A)(hs:X.stack=X.env::X.outer)(hf:X.env.frame=some X.env.locals)(hN:X.N.Nodup)(hi:X.N[i]?=some n)(hl:X.env.scope.names.lookup n=some .local)(c6:X.N[ci]?=some cn)(c9:X.env.scope.names.lookup cn=some .local)(e8:i≠ci)(h0:0≠ci)(g1:Gl X x1/\X.mg x1=some (.ref A1))(Y:Gl X x2/\X.mg x2=some (.ref A2))(g3:Gl X x3/\X.mg x3=some (.ref A3))(g4:Gl X x4/\X.mg x4=some (.ref A4))(hc:∀A Ca,ExcAt X.K A Ca->A∈cs->W.exmAny X.K (.ref Ca) [.ref A1,.ref A2,.ref A3,.ref A4]=some true/\StrK X.K Ca/\∃r,jv X.K Ca r)(hR:∀C,W.nsIn X.K mainGlobals (Str.ofString "Run")=some (some (.ref C))->Cls X.K C/\aI X.K C "floors")(hg:Gl X xB)(hm:X.mg xB=some (.ref CB))(q:jv X.K CB (some (.ref fI)))(c5:W.typeIn X.K (.ref fI)=some (.type "function"))(f1:ExcAt X.K "Broken" CB)(G:FnOk X.prog X.w X.K X.mg X.base CX0 k fI fd ps (spG CB ["at","why"] 6000000 (aai X.K)))(hk:k+1<=39)(hb:Binds X.K fd ps [])(e6:∀E pn B',B'.K=X.K->XW (X.tri E pn) B'->PS (X.tri E pn) st (sP (tBM X.K "list" mV (ail X.K (cM 0) "floors") (jy (lo B' te) xu))))(d1:Dbg x1:=by decide)(d2:Dbg x2:=by decide)(d3:Dbg x3:=by decide)(d4:Dbg x4:=by decide)(d5:Dbg xB:=by decide)(d6:Dbg n:=by decide)(d7:Dbg cn:=by decide)(d8:(n=="__classdict__")=false:=by decide)(d9:(cn=="__classdict__")=false:=by decide):PS X (.Try [st] [.ExceptHandler (some (.Tuple [.Name x1 p1,.Name x2 p2,.Name x3 p3,.Name x4 p4] ec tp)) (some n) [.Raise (some (.Call (.Name xB np) [.Name cn q1,.Name n q2] [] cpos)) (some (.Name n q3)) rpos] hpos] [] [] pos) (loX rnM B (WL.u6 cs ci te)):=by
 intro f sh J H D I⟨σ,F,s,l,R,g⟩;refine asi ?_;unfold WL.u6 at g;split at g;case h_2=>exact(show False from g).elim
 rename_i p j;obtain⟨kz,R1⟩:=R.frz j;have e0:σ[0]?=some (.va (.id s.a))/\p=σ.set 0 (.va s.val):=by
  unfold WL.seen at j;split at j
  .rename_i b eb;split at j;.rename_i hb;cases j;rw[hb]at eb;exact⟨eb,rfl⟩
   .cases j
  .cases j
 let E':Value->Shared->Prop:=λe b9=>wpAny (model X.prog X.w) X.A (noteFrame e X.env) (λ_ a9=>wpAny (model X.prog X.w) X.A (setFlight e none) (λ_ a7=>wpAny (model X.prog X.w) X.A (handleBy e X.env [.ExceptHandler (some (.Tuple [.Name x1 p1,.Name x2 p2,.Name x3 p3,.Name x4 p4] ec tp)) (some n) [.Raise (some (.Call (.Name xB np) [.Name cn q1,.Name n q2] [] cpos)) (some (.Name n q3)) rpos] hpos]) (SP X f D) X.xe a7) X.xe a9) X.xe b9;let B1:Bx:=B.oG (λc b0 F'=>b0=p/\te p=.ex c/\aw (fzS F H l) F') λc b0 F' f5 s h=>⟨h.1,h.2.1,h.2.2.trans s⟩;have xw:XW (X.tri E' (X.pn++f)) B1:=by
  intro f2 x O s1 K F1 c R2 xp e u m T fl t xr;obtain⟨rfl,e7,kF⟩:=xp;rw[e7]at g;have t2:Thr X f x O s1 e u m fl T:=t.gP;obtain⟨A,fs,rfl,ce⟩:=xr.is;dsimp only at g;split at g;case h_2=>exact(show False from g).elim
  rename_i w ew;split at g;case isFalse=>exact(show False from g).elim
  rename_i hw;have hC:A∈cs:=List.contains_iff_mem.mp hw.2;obtain⟨b8,sk,qe⟩:=hc A u ce hC;have a:RS B K x F1 O:=R2.box rfl rfl rfl;have c8:K[ci]?=some (.va w):=by rw[e0.2,ao5 h0];exact ew
  obtain⟨v1,f0,e4⟩:=a.va ci w c8;obtain⟨n1,rfl,e5⟩:∃n1,w=.int n1/\n1.natAbs.log2<100:=by have:=hw.1;cases w with|int n1=>exact⟨n1,rfl,aql this⟩|_=>cases this
  cases show v1=.int n1 from e4;obtain⟨f8,f6,f7,f9,a6,N⟩:=id xr;have nb:A≠"Broken":=λz=>c7 (z▸hC);obtain⟨⟨nc,a0⟩,N⟩:=N;obtain⟨_,t0,y0,a1,a2,a3⟩:=N.resolve_left λz=>nb z.1;have he:O e=none:=t2.fe.1;have kH:=au he (.ext (excAt e u m));have e3:F1 e=none:=a.rb.sub.free he;have d0:=au e3 (.ext (excAt e u m));refine t2.note hs hf λh' T' _ t3=>t3.qg λf4 U=>qd (R:=λZ Hx=>Z=[.int n1,.ref e]/\Hx=upd O e (.ext (excAt e u m))) (G:=aai X.K) U (λQ E h=>ahZ (X:=X.sui e) (U.inv.sui e) g1 Y g3 g4 (h _ _ (U.push _) λ_=>W.exm_tup4 (U.push _).inv.kIn (U.push _).ty (apg _ rfl) b8) d1 d2 d3 d4) hs hf hN hi hl (aP (pP c6 (.inl c9) d7 d9) (aP (pP hi (.inl hl) d6 d8) cu)) ⟨_,by rw[ao5 e8];exact f0,_,apc (by rw[U.inv.len];exact(ao8.mp hi).1),rfl,rfl⟩ ((a0.keep a.rb.sub).keep kH) qe hg hm q c5 G (λws H b o=>aai.mono ws H b o) ((hr.sui (ao6 _)).mono hk) hb (by decide) (λZ Hx zz=>?_) d5 d6;obtain⟨zv,zh⟩:=zz;subst zv zh;refine⟨rfl,aw.refl _,⟨n1,e,y0,rfl,e5,u,m,t0,ah,sk,a6.imp (λz=>z.2) λ⟨d,z1,z2⟩=>⟨d,_,z1,kH _ _ (a.rb.sub _ _ z2)⟩,a1,kH _ _ (a.rb.sub _ _ a2),a3⟩,λs' e2 d ta y e9 T2 z1 z2 t5=>?_⟩;have Ra:=(a.new he (.ext (excAt e u m))).new z1 (.tup [.str y]);have Rb:=((Ra.new z2 (.xd (List.zip [("at":Str),"why"] [.int n1,.ref e]))).ahe i).blank;have k3:=d0.trans ((au ((a.new he (.ext (excAt e u m))).rb.sub.free z1) (.tup [.str y])).trans (au (Ra.rb.sub.free z2) (.xd (List.zip [("at":Str),"why"] [.int n1,.ref e]))));have a8:(K.set i .no).length=σ.length:=by rw[arw,e0.2,arw]
  rw[a8]at Rb;have nt:e≠ta:=λw=>by rw[<-w,ah]at z1;cases z1
  have nd:e≠d:=λw=>by rw[<-w,ae nt,ah]at z2;cases z2
  have M:upd (upd (upd F1 e (.ext (excAt e u m))) ta (.tup [.str y])) d (.xd (List.zip [("at":Str),"why"] [.int n1,.ref e])) e=some (.ext (excAt e u m)):=by rw[ae nd,ae nt,ah]
  refine hx f _ _ s' _ _ (.exc "Broken" [.int n1,.exc A fs]) Rb (B.mono _ _ F _ (kz.trans (kF.trans k3)) g) e2 CB _ (some T2) e9 t5 ⟨f1,[("at",.int n1),("why",.ref e)],rfl,?_,.inr ⟨d,rfl,ah⟩,⟨nc+1,e,u,m,rfl,M,a0.keep k3⟩,.inl ⟨rfl,n1,e,y0,rfl,u,m,t0,M,sk,a6.imp (λz=>z.2) λ⟨d,z1,z2⟩=>⟨d,_,z1,k3 _ _ z2⟩,a1,k3 _ _ a2,a3⟩⟩;refine⟨.int n1,_,rfl,by simp only[RW],.ref e,_,rfl,?_,rfl⟩;obtain⟨y1,c0,y2,y3,y4,y5⟩:=xr.keep k3;simp only[RW];exact⟨e,u,m,rfl,M,y1,c0,y2,y3,y4⟩
 have P:=dF (e6 E' (X.pn++f) B1 hB xw);refine apn (P [] sh J H D (I.tri E') ?_) (λfl s' h=>?_) λ_ _ z=>z;.obtain⟨v0,c4,e1⟩:=R.rs.va 0 _ e0.1;cases show v0=.ref s.a from e1;obtain⟨C,m,bb,Z,el,S⟩:=R.re;obtain⟨cl,na⟩:=hR C (hB▸S.ns);refine⟨.ref s.a,c4,s.a,C,m,_,.ref s.r,rfl,R.rs.rb.sub _ _ S.at_,cl,na,zf,.inl ⟨rfl,Z,SqL.of S.ro⟩,p,fzS F H l,R1.box rfl rfl rfl,?_⟩;cases et:te p with|bad=>rw[et]at g;exact(show False from g).elim|ex c=>exact⟨rfl,et,aw.refl _⟩|ok w=>
   rw[et]at g;dsimp only at g;split at g
   .rename_i hw;intro v O F1 R2 gg r1;have a:RS B p J F1 O:=R2.box rfl rfl rfl;obtain⟨F2,Y,hk,R3⟩:=R.back a gg;have r2:=vI R gg R2.rb.sub hk hw.1 r1;refine⟨s.r,Z,v,rfl,rfl,gg.h _ _ S.ro,by rw[<-S.rs.length];exact apd hw.2 cH,?_⟩;have hr:s.r∈l:=by rw[el];simp
    refine(show∀f3 H' F' l',_ from g) J _ F2 l (R3.write hr ?_) Y.f;exact⟨C,m,bb,Z++[v],el,S.ns,Y.f _ _ S.at_,S.bo.keep Y.f,ah,(S.rs.keep Y.f).app (.one r2)⟩
   .exact(show False from g).elim
 .have h:=SP.gP h;cases fl with|next=>exact aqd h|_=>exact h
end
end WS
set_option autoImplicit true
set_option relaxedAutoImplicit true
namespace WS
open PySem PySem.Spec PyProof.Rows L2
open WL(Res Sl Ws EF TF AF LF GF GsF SF Out OX RF Rn AXF Dk XE XT)
def alf(K:W.Frag):Sp:=λd H Q E=>∃x C c b g,d=[.ref x,b,g]/\H x=some (.ins C c [])/\(Cls K C/\aI K C "book"/\aI K C "floors")/\∀r a,H r=none->a x=some (.ins C c (rfs b r))->a r=some (.lst [g])->(∀y,y≠x->y≠r->a y=H y)->Q .non a
section
variable{P:Program}{w:World}{K:W.Frag}{mg:Str->Option Value}{base:Heap}
def aeR{nm c st f p n0 n1 n2 k s1 s2}(J:Fun K nm c st f p)(B:FnScope [n0,n1,n2] [n0,n1,n2] (ak st))(o:aF st=[s1,s2])(h:∀j A a s H E X,X=fB (CXX P w) P w K mg base [n0,n1,n2] c (ak st) f j A a s H E->PS X s1 (aaj K (cM 0) (cM 1) "book")/\PS X s2 (aaj K (cM 0) (ale (jy (cM 2) xu)) "floors")):FnOk P w K mg base (CXX P w) (k+1) f p [n0,n1,n2] (alf K):=by
 obtain⟨O,od,D,G,S,R,j,ct,t,rfl,u,m⟩:=J.ex;refine rB u m B λN H Q E i=>by obtain⟨x,C,n,b,g,e,_⟩:=i;rw[e];rfl λA a s H N Q E l _ i=>?_;obtain⟨x,C,n,b,g,e,q,⟨cl,a1,a2⟩,M⟩:=i;subst e;obtain⟨I,v⟩:=h j A a s H E _ rfl;rw[o];refine⟨_,bg I (dF v),?_⟩;have p1:l7 ("book":Str) b []=[(("book":Str),b)]:=rfl;have p2:∀r:Addr,l7 ("floors":Str) (V.ref r) [(("book":Str),b)]=rfs b r:=λ_=>rfl;refine⟨b,rfl,.ref x,rfl,x,C,n,[],rfl,q,cl,a1,by decide,?_⟩;rw[p1];refine⟨g,rfl,show 1<=sizeLine by decide,λr l=>?_⟩;have d:x≠r:=λz=>by rw[<-z,ah]at l;cases l
 refine⟨.ref x,rfl,x,C,n,[("book",b)],rfl,by rw[ae d];exact ah,cl,a2,by simp,?_⟩;rw[p2];refine M r _ (by rwa[ae (aph d)]at l) ah (by rw[ae (aph d),ah]) λy b1 b2=>?_;rw[ae b1,ae b2,ae b1]
end
section
variable{X:Cx}{B:Bx}{j:Nat}{C:Addr}{s1:Stmt}{rest:List Stmt}{as:AF}{t:RF Rn}
set_option tactic.hygienic true in
def yR(hB:B.K=X.K)(hx:XW X B)(a0:W.nsIn X.K mainGlobals (Str.ofString "Run")=some (some (.ref C)))(a8:Cls X.K C/\aI X.K C "book"/\aI X.K C "floors")(h1:PS X s1 (ahb (afQ X C (alf X.K) [] (loA B as)) (L2.aN j)))(h2:∀Z,Z.K=X.K->XW X Z->PSs X rest (loE rnM Z t)):PSs X (s1::rest) (loS B (WL.ja j as t)):=by
 let B1:Bx:=B.oG (λc g F=>B.xp c (List.replicate g.length .no) F) λc g F F' s h=>B.mono c _ F F' s h;have xw:XW X B1:=λJ l H s g F c R xp e C i T fl t xr=>hx J l H s _ F c (RS.blank (R.box rfl rfl rfl)) xp e C i T fl t xr;refine PSs.imp (bg h1 (h2 B1 hB xw)) λD l H S=>?_;obtain⟨g,F,R,q⟩:=S;refine⟨g,F,R,?_⟩;unfold WL.ja at q;split at q
 .rename_i wb Y ea;rw[ea];split at q
  .rename_i hh;have a:=aqI hh;intro vs H1 K E o r1 x i P a6 O;obtain⟨m,A,rfl,rb,rf⟩:∃m A,vs=[m,A]/\RW B.K K wb m/\RW B.K K Y A:=by simp only[RWs]at r1;obtain⟨v,r,rfl,h,v',r',rfl,h',rfl⟩:=r1;exact⟨v,v',rfl,h,h'⟩
   refine⟨λ_ _ _=>False,⟨x,C,i,m,A,rfl,ah,a8,λr Q G U I ho=>⟨rfl,?_⟩⟩,λ_ _ _ _ _ _ _ _ z=>z.elim⟩;have u:r≠x:=λz=>by rw[z,ah]at G;cases G
   have n:r≠i:=λz=>by rw[z,ae O,ah]at G;cases G
   have d:H1 r=none:=by rw[ae u,ae n]at G;exact G
   let p:Hp:=upd K x (.ins C i (rfs m r));have eH:Q=upd (upd (upd H1 i (.own x)) x (.ins C i (rfs m r))) r (.lst [A]):=by
    funext b;by_cases b2:b=r;.subst b2;rw[ah,I]
    .rw[ae b2];by_cases b3:b=x;.subst b3;rw[ah,U]
     .rw[ae b3,ho b b3 b2,ae b3]
   have a7:=E.rb.sub.free P;have k2:aw K p:=au a7 _;have R2:RS B g l p Q:=by have Ra:=(E.aiq a6 (.own x)).new (by rw[ae (aph O)];exact P) (.ins C i (rfs m r)) trivial;have Rb:=Ra.aiq (by rw[ae u,ae n];exact d) (.lst [A]);rw[eH];exact Rb
   have M:p r=none:=by show upd K x _ r=none;rw[ae u];exact E.rb.sub.free d
   have inl:∀y∈[r],y=r:=λy f=>apZ.mp f;have R3:RS (jW B1 Q [r]) g l p Q:=by
    refine RS.inS (R2.box rfl rfl rfl) (λy f=>by rw[inl y f];exact M) (λk ws y e1 e2 f=>?_) λy f k ks us e1 e2=>?_;.obtain⟨b,vs,o,_,_,N,_⟩:=E.ow k ws e1;rw[e2]at o;cases o;rw[inl y f,d]at N;cases N
    .obtain⟨b,vs,o,_,_,N,_⟩:=E.dd.od k ks us e1;rw[e2]at o;cases o;rw[inl y f,d]at N;cases N
   refine⟨g.set j (.va (.id x)),p,⟨x,r,wb,[Y]⟩,[r],⟨R3.set (by simp only[RW]),λy f=>⟨by rw[inl y f];exact M,by rw[inl y f];exact E.rb.base.free d⟩,C,i,m,[A],rfl,hB▸a0,ah,rb.keep k2,I,.one (rf.keep k2)⟩,?_⟩;have a:=a x r;have k3:=o.f.trans k2;cases et:t (g.set j (.va (.id x))) ⟨x,r,wb,[Y]⟩with|rt w s'=>rw[et]at a;have a:=a;rw[a]at q;exact λv H3 F3 rb k4 r=>q v H3 F3 (rb.box rfl rfl) (k3.trans k4) r|ex c σ'=>rw[et]at a;obtain⟨a,hl⟩:=a;rw[a]at q;show B.xp c (List.replicate σ'.length .no) p;rw[hl];exact B.mono c _ F p k3 q|nx _ _|bk _ _|ct _ _|bad=>rw[et]at a;exact a.elim
  .exact(q).elim
 .exact(q).elim
end
section
variable{X:Cx}{B:Bx}{C g:Addr}{k jr j n:Nat}{m:Str}{ps:List Str}{fn:List VW->Rn->OX Rn}{e o:Expr}{es:List Expr}{tas:AF}{a:AXF Rn}{apos cpos pos:Pos}{pl:Sem Bool}
def xmR(y:B.K=X.K)(z:Room jr X.A)(u:XW X B)(x:W.nsIn X.K mainGlobals (Str.ofString "Run")=some (some (.ref C)))(cl:Cls X.K C)(G:oD X.prog X.w X.K X.mg X.base k C g m ps (spM rnM X.K n fn))(p:PE X o (cM j))(q:PA X (e::es) (ahI rnM B a))(w:∀v s ws,a v s=.ok ws->ws.length+1=n)(hk:k<=jr:=by decide)(c:m∉WL.fw "Run":=by decide)(d:SE X e es:=by rfl)(h:BT X cpos es:=by rfl)(r:eval (.Call (.Attribute o m apos) (e::es) [] cpos) X.env=(do
  let l <-eval o X.env
  standAt apos.atName let(f,first)<-holding [l] (getMethod l m pl)callWith cpos f first (backTo cpos (starEach (e::es) X.env)) (backToKw cpos (keywordEach [] X.env))):=by rfl)(A:swapsWith (.Call (.Attribute o m apos) (e::es) [] cpos) none pos.line X.env=pure false:=by rfl):PS X (.Expr (.Call (.Attribute o m apos) (e::es) [] cpos) pos) (loX rnM B (WL.de j fn a)):=by obtain⟨M,D,F,b⟩:=G;exact adP y u x c cl p q w (λt i=>l8 p cl M F (z.mono hk) b .nil i d h r) A
def aop{r s c x rest t p d}(A:B.K=X.K)(E:Room jr X.A)(v:XW X B)(w:X.N.Nodup)(y:X.N[j]?=some c)(l:Loc X.env.scope c)(M:Mk X.K C r)(z:W.nsIn X.K mainGlobals (Str.ofString "Run")=some (some (.ref C)))(i:Cls X.K C/\aI X.K C "book"/\aI X.K C "floors")(G:afx X.prog X.w X.K X.mg X.base s r ps (alf X.K))(I:X.mg x=some (.ref C))(H:PA X (e::es) (loA B tas))(D:∀q,q.K=X.K->XW X q->PSs X rest (loE rnM q t))(hk:s+1<=jr:=by decide)(K:Gl X x:=by rfl)(h:Dbg x:=by decide)(u:SE X e es:=by rfl)(f:BT X cpos es:=by rfl)(N:swapsWith (.Call (.Name x p) (e::es) [] cpos) (some (.Name c d)) pos.line X.env=pure false:=by rfl)(J:X.fn c=true\/X.env.scope.names.lookup c=some .local:=by first|exact .inl rfl|exact .inr rfl|assumption):PSs X (.Assign [.Name c d] (.Call (.Name x p) (e::es) [] cpos) pos::rest) (loS B (WL.ja j tas t)):=by exact eM G λO F b=>yR A v z i (kT w y l (qL M F (E.mono hk) K I b .nil H h u f) N J) D
def ahP{c}(d:W.nsIn X.K mainGlobals (Str.ofString "Run")=some (some (.ref C)))(cl:Cls X.K C)(f:aI X.K C c):∀b,W.nsIn X.K mainGlobals (Str.ofString "Run")=some (some (.ref b))->Cls X.K b/\aI X.K b c:=λb h=>by grind
end
end WS
set_option autoImplicit true
set_option relaxedAutoImplicit true
namespace WS
open PySem PySem.Spec PyProof.Rows L2
open WL(Res Sl Ws EF TF AF LF GF GsF SF Out OX RF Rn AXF Dk XE XT)
def afd{P w K e b f g k m ps}{M:Rsc S}:FnOk P w K e b (CXX P w) k f g ps (spM M K m λ_ _=>.bad):=⟨λi H Q E a=>by obtain⟨_,_,_,_,_,_,_,_,_,h⟩:=a;exact h.elim,λA c s H d o i Q E p n j q l a=>by obtain⟨_,_,_,_,_,_,_,_,_,h⟩:=a;exact h.elim⟩
def aku{P:String->Addr->Prop}{K}:∀a b,ExcAt K a b->a∈[]->P a b:=λ_ _ _ z=>nomatch z
def acv{P:Addr->Prop}{K c A d}(e:ExcAt K c A)(p:P A)(h:∀a b,ExcAt K a b->a∈d->P b):∀a b,ExcAt K a b->a∈c::d->P b:=λa b f g=>by
 rcases apq.mp g with z|z;.subst z;have:=e.2.symm.trans f.2;cases this;exact p
 .exact h _ _ f z
def an8{K i f c a nm e b j g d}(x:ExcAll K)(h:ExcAt K nm d)(n:ExcAt K e i)(m:ExcAt K b f)(l:ExcAt K j c)(k:ExcAt K g a)(o:(WL.uZ nm e||(WL.uZ nm b||(WL.uZ nm j||(WL.uZ nm g||false))))=true):W.exmAny K (.ref d) [.ref i,.ref f,.ref c,.ref a]=some true:=by simp only[W.exmAny,x.ex _ _ _ _ h n,x.ex _ _ _ _ h m,x.ex _ _ _ _ h l,x.ex _ _ _ _ h k];rw[o]
def uV:∀a(s:S)ws,WL.axN a s=.ok ws->ws.length=0:=λa s ws e=>by cases e;rfl
def yF{te}{a:AXF S}(h:∀b s ws,a b s=.ok ws->ws.length=n):∀b s ws,WL.axP te a b s=.ok ws->ws.length=n+1:=λb s ws e=>by obtain⟨w,_,e⟩:=js e;obtain⟨c,d,e⟩:=js e;cases e;rw[apj,h b s _ d]
def aoY{te a j}(h:∀b s ws,a b s=.ok ws->ws.length=n):∀b s ws,WL.axL j te a b s=.ok ws->ws.length=n+1:=λb s ws e=>by
 unfold WL.axL at e;split at e
 .split at e
  .split at e;.obtain⟨c,d,e⟩:=js e;cases e;rw[apj,h b s _ d]
   .cases e
  .cases e
 .cases e
section
variable{B:Bx}{X:Cx}{i ci jr:Nat}{te:EF}{st:Stmt}{A1 A2 A3 A4 CB fI C:Addr}{x1 x2 x3 x4 xB n cn:Str}{p1 p2 p3 p4 tp q1 q2 q3 np cpos rpos hpos pos:Pos}{ps:List Str}
def xtb{R c}(H:B.K=X.K)(O:Room jr X.A)(u:XW X B)(y:X.N.Nodup)(p:X.mg x1=some (.ref A1))(x:X.mg x2=some (.ref A2))(M:X.mg x3=some (.ref A3))(g4:X.mg x4=some (.ref A4))(J:∀o a,ExcAt X.K o a->o∈c->W.exmAny X.K (.ref a) [.ref A1,.ref A2,.ref A3,.ref A4]=some true/\StrK X.K a/\∃r,jv X.K a r)(A:W.nsIn X.K mainGlobals (Str.ofString "Run")=some (some (.ref C)))(cl:Cls X.K C)(N:aI X.K C "floors")(hm:X.mg xB=some (.ref CB))(q:jv X.K CB (some (.ref fI)))(g:W.typeIn X.K (.ref fI)=some (.type "function"))(j:ExcAt X.K "Broken" CB)(G:aiC X.prog X.w X.K X.mg X.base fI ps (spG CB ["at","why"] 6000000 (aai X.K)))(f:∀E m l,l.K=X.K->XW (X.tri E m) l->PS (X.tri E m) st (sP (tBM X.K "list" mV (ail X.K (cM 0) "floors") (jy (lo l te) xu))))(hs:X.stack=X.env::X.outer:=by rfl)(hf:X.env.frame=some X.env.locals:=by rfl)(P:39<=jr:=by decide)(z:X.N[i]?=some n:=by rfl)(v:X.env.scope.names.lookup n=some .local:=by rfl)(h:X.N[ci]?=some cn:=by rfl)(k:X.env.scope.names.lookup cn=some .local:=by rfl)(d:i≠ci:=by decide)(h0:0≠ci:=by decide)(s:Gl X x1:=by rfl)(I:Gl X x2:=by rfl)(Y:Gl X x3:=by rfl)(w:Gl X x4:=by rfl)(T:Gl X xB:=by rfl)(e:"Broken"∉c:=by decide)(Z:Dbg x1:=by decide)(t:Dbg x2:=by decide)(d3:Dbg x3:=by decide)(d4:Dbg x4:=by decide)(D:Dbg xB:=by decide)(U:Dbg n:=by decide)(K:Dbg cn:=by decide)(Q:(n=="__classdict__")=false:=by decide)(S:(cn=="__classdict__")=false:=by decide):PS X (.Try [st] [.ExceptHandler (some (.Tuple [.Name x1 p1,.Name x2 p2,.Name x3 p3,.Name x4 p4] R tp)) (some n) [.Raise (some (.Call (.Name xB np) [.Name cn q1,.Name n q2] [] cpos)) (some (.Name n q3)) rpos] hpos] [] [] pos) (loX rnM B (WL.u6 c ci te)):=by obtain⟨fd,F,b⟩:=G;exact agC e H u (O.mono P) hs hf y z v h k d h0 ⟨s,p⟩ ⟨I,x⟩ ⟨Y,M⟩ ⟨w,g4⟩ J (ahP A cl N) T hm q g j F (by decide) b f Z t d3 d4 D U K Q S
end
end WS
set_option autoImplicit true
set_option relaxedAutoImplicit true
namespace WS
open PySem PySem.Spec PyProof.Rows L2
open WL(Res Sl Ws EF TF AF LF GF GsF SF Out OX RF Rn AXF Dk XE XT)
section
variable{B:Bx}{X:Cx}{i ci jr:Nat}{tb:SF}{body:List Stmt}{CB fI:Addr}{xB n cn:Str}{tp q1 q2 q3 q4 q5 q6 np cpos rpos hpos pos bp:Pos}{ps:List Str}
set_option tactic.hygienic true in
def adT(hB:B.K=X.K)(hr:Room jr X.A)(hx:XW X B)(hN:X.N.Nodup)(hA:ExcAll X.K)(ha:∀u C,ExcAt X.K u C->("at":Str)∈WL.fieldsOf u->W.findIn X.K (.ref C) "at"=some none/\W.hasDictIn X.K C=true)(hw:∀u C,ExcAt X.K u C->("why":Str)∈WL.fieldsOf u->W.findIn X.K (.ref C) "why"=some none/\W.hasDictIn X.K C=true)(hm:X.mg xB=some (.ref CB))(q:jv X.K CB (some (.ref fI)))(a9:W.typeIn X.K (.ref fI)=some (.type "function"))(j:ExcAt X.K "Broken" CB)(G:aiC X.prog X.w X.K X.mg X.base fI ps (spG CB ["at","why"] 6000000 (aai X.K)))(a8:∀E pn B',B'.K=X.K->XW (X.tri E pn) B'->PassesOwn (model X.prog X.w) X.A X.env E->PSs (X.tri E pn) body (loS B' tb))(hs:X.stack=X.env::X.outer:=by rfl)(hf:X.env.frame=some X.env.locals:=by rfl)(hj:39<=jr:=by decide)(hi:X.N[i]?=some n:=by rfl)(hl:X.env.scope.names.lookup n=some .local:=by rfl)(b8:X.N[ci]?=some cn:=by rfl)(c8:X.env.scope.names.lookup cn=some .local:=by rfl)(b9:i≠ci:=by decide)(hg:Gl X xB:=by rfl)(d5:Dbg xB:=by decide)(d6:Dbg n:=by decide)(d7:Dbg cn:=by decide)(d8:(n=="__classdict__")=false:=by decide)(d9:(cn=="__classdict__")=false:=by decide)(b1:attributeBase (.Name n q2) "at" X.env (eval (.Name n q2) X.env)=eval (.Name n q2) X.env:=by rfl)(b2:attributeBase (.Name n q4) "why" X.env (eval (.Name n q4) X.env)=eval (.Name n q4) X.env:=by rfl)(O:starEach [.BinOp (.Name cn q1) .Add (.Attribute (.Name n q2) "at" q3) bp,.Attribute (.Name n q4) "why" q5] X.env=(false,eval (.BinOp (.Name cn q1) .Add (.Attribute (.Name n q2) "at" q3) bp) X.env)::starEach [.Attribute (.Name n q4) "why" q5] X.env:=by rfl)(A:starEach [.Attribute (.Name n q4) "why" q5] X.env=(false,eval (.Attribute (.Name n q4) "why" q5) X.env)::starEach [] X.env:=by rfl)(c0:BT X cpos [.Attribute (.Name n q4) "why" q5]:=by rfl):PS X (.Try body [.ExceptHandler (some (.Name xB tp)) (some n) [.Raise (some (.Call (.Name xB np) [.BinOp (.Name cn q1) .Add (.Attribute (.Name n q2) "at" q3) bp,.Attribute (.Name n q4) "why" q5] [] cpos)) (some (.Name n q6)) rpos] hpos] [] [] pos) (loS B (WL.xF tb ci)):=by
 obtain⟨fd,G,hb⟩:=G;intro a sh d1 H D I⟨σ,F,R,q0⟩;refine asi ?_;let E':Value->Shared->Prop:=λe Y=>wpAny (model X.prog X.w) X.A (noteFrame e X.env) (λ_ U=>wpAny (model X.prog X.w) X.A (setFlight e none) (λ_ K=>wpAny (model X.prog X.w) X.A (handleBy e X.env [.ExceptHandler (some (.Name xB tp)) (some n) [.Raise (some (.Call (.Name xB np) [.BinOp (.Name cn q1) .Add (.Attribute (.Name n q2) "at" q3) bp,.Attribute (.Name n q4) "why" q5] [] cpos)) (some (.Name n q6)) rpos] hpos]) (SP X a D) X.xe K) X.xe U) X.xe Y;let B1:Bx:=B.oG (λc Z F'=>Oq B D F' (WL.akT ci c Z)) λc Z F' d4 s h=>Oq.mono s h;have xw:XW (X.tri E' (X.pn++a)) B1:=by
  intro c7 g H1 s1 M x c R1 l e p r T fl t xr;have t2:Thr X a g H1 s1 e p r fl T:=t.gP;replace l:Oq B D x (WL.akT ci c M):=l;unfold WL.akT at l;split at l;case h_2=>exact(show False from l).elim
  rename_i u n1 w;split at l;case isFalse=>exact(show False from l).elim
  rename_i c6;subst c6;split at l;case h_2=>exact(show False from l).elim
  rename_i m ew;split at l;case isFalse=>exact(show False from l).elim
  rename_i b0;have f:RS B M g x H1:=R1.box rfl rfl rfl;obtain⟨v1,c5,a6⟩:=f.va ci _ ew;cases show v1=.int m from a6;obtain⟨x1,e0,x2,x3,x4,⟨nc,v⟩,x5⟩:=id xr;obtain⟨_,n2,h,y,ef,J⟩:=x5.resolve_right λz=>z.1 rfl;subst ef;have en:n2=n1:=by obtain⟨_,_,ez,z,_⟩:=x3;cases ez;exact V.int.inj z
  subst en;have a7:RW X.K x w (.ref h):=by obtain⟨_,_,ez,_,z⟩:=x3;cases ez;exact RW.one z
  obtain⟨d,ed,hd⟩:=x4.resolve_left λz=>by cases z.1
  have eC:p=CB:=by have:=x1.2.symm.trans j.2;cases this;rfl
  subst eC;have he:H1 e=none:=t2.fe.1;have kH:=au he (.ext (excAt e p r));have a0:x e=none:=f.rb.sub.free he;have c9:=au a0 (.ext (excAt e p r));have N:(g.set i (some (V.ref e)))[i]?=some (some (.ref e)):=apc (by rw[t2.inv.len];exact(ao8.mp hi).1);have d0:(g.set i (some (V.ref e)))[ci]?=some (some (.int m)):=by rw[ao5 b9];exact c5
  have fd1:=kH _ _ (f.rb.sub _ _ hd);refine t2.note hs hf λh' T' _ t3=>t3.qg λd3 S=>qd (R:=λvs Hx=>vs=[.int (m+n2),.ref h]/\Hx=upd H1 e (.ext (excAt e p r))) (G:=aai X.K) S (λQ E hq=>cE (X:=X.sui e) (S.inv.sui e) hg hm (hq _ _ S λ_=>W.exm_one S.inv.kIn S.ty (hA.ex _ _ _ _ j j)) d5) hs hf hN hi hl (aP (ajE (pP b8 (.inl c8) d7 d9) (ahq hA ha (pP hi (.inl hl) d6 d8) b1)) (aP (ahq hA hw (pP hi (.inl hl) d6 d8) b2) cu A) O) ⟨.int m,d0,.ref e,N,e,p,r,d,_,_,.int n2,rfl,ah,j,by decide,ed,fd1,rfl,m,n2,rfl,rfl,.ref e,N,e,p,r,d,_,_,.ref h,rfl,ah,j,by decide,ed,fd1,rfl,rfl,rfl⟩ ((v.keep f.rb.sub).keep kH) ⟨_,q⟩ hg hm q a9 G (λws H b o=>aai.mono ws H b o) ((hr.sui hj).mono (by decide)) hb (by decide) (λvs Hx zz=>?_) d5 d6 O c0;obtain⟨zv,zh⟩:=zz;subst zv zh;refine⟨rfl,aw.refl _,⟨m+n2,h,y,rfl,aql b0,J.via λ_ _ _ z=>kH _ _ (f.rb.sub _ _ z)⟩,λs' e2 d2 ta y2 c4 T2 z1 z2 t5=>?_⟩;have Ra:=(f.new he (.ext (excAt e p r))).new z1 (.tup [.str y2]);have Rb:=((Ra.new z2 (.xd (List.zip [("at":Str),"why"] [.int (m+n2),.ref h]))).ahe i).blank;have k3:=c9.trans ((au ((f.new he (.ext (excAt e p r))).rb.sub.free z1) (.tup [.str y2])).trans (au (Ra.rb.sub.free z2) (.xd (List.zip [("at":Str),"why"] [.int (m+n2),.ref h]))));rw[arw]at Rb;have nt:e≠ta:=λw=>by rw[<-w,ah]at z1;cases z1
  have nd:e≠d2:=λw=>by rw[<-w,ae nt,ah]at z2;cases z2
  refine hx a _ _ s' _ _ (.exc "Broken" [.int (m+n2),w]) Rb (B.mono _ _ x _ k3 l) e2 p _ (some T2) c4 t5 ⟨j,[("at",.int (m+n2)),("why",.ref h)],rfl,?_,.inr ⟨d2,rfl,ah⟩,⟨nc+1,e,p,r,rfl,by rw[ae nd,ae nt,ah],v.keep k3⟩,.inl ⟨rfl,m+n2,h,y,rfl,J.via λ_ _ _ z=>k3 _ _ z⟩⟩;exact⟨_,_,rfl,rfl,_,_,rfl,a7.keep k3,rfl⟩
 have P:=a8 E' (X.pn++a) B1 hB xw PassesOwn.looking
 .refine apn (P [] sh d1 H D (I.tri E') ⟨σ,F,R.box rfl rfl rfl,?_⟩) (λfl s' h=>?_) λ_ _ z=>z;.unfold WL.xF at q0;exact Oq.aog (B:=B) (B':=B1) rfl rfl rfl (λ_ _ z=>z) q0
  .have h:=SP.gP h;cases fl with|next=>exact aqd h|_=>exact h
end
end WS
set_option autoImplicit true
set_option relaxedAutoImplicit true
namespace WS
open PySem PySem.Spec PyProof.Rows L2
open WL(Res Sl Ws EF TF AF LF GF GsF SF Out OX RF Rn AXF Dk XE XT)
noncomputable abbrev dfs(t b g:V)(p:Addr):List (Str×V):=[("texts",t),("book",b),("floor",g),("past",.ref p)]
structure DRel(K:W.Frag)(s:Dk)(F H:Hp)(C dx:Addr)(t b g:V)(vs:List V):Prop where
 ns:W.nsIn K mainGlobals (Str.ofString "Desk")=some (some (.ref C))at_:H s.a=some (.ins C dx (dfs t b g s.p))te:RW K F s.texts t
 bo:RW K F s.book b
 fl:RW K F s.floor g
 pa:H s.p=some (.lst vs)ps:RWs K F s.past vs
def aoV(K:W.Frag)(s:Dk)(l:List Addr)(F H:Hp):Prop:=∃C a t b g c,l=[s.a,s.p]/\DRel K s F H C a t b g c
def dkM:Rsc Dk where
 adr:=Dk.a;rel:=aoV;val:=Dk.val;mono:=λh0_ k h=>by obtain⟨C,dx,t,b,g,vs,el,R⟩:=h0_;subst el;exact⟨C,dx,t,b,g,vs,rfl,R.ns,h _ (by simp) _ R.at_,R.te.keep k,R.bo.keep k,R.fl.keep k,h _ (by simp) _ R.pa,R.ps.keep k⟩
 there:=λh0_ x hx=>by
  obtain⟨C,dx,t,b,g,vs,el,R⟩:=h0_;subst el;simp only[apq,aqb,or_false]at hx;rcases hx with rfl|rfl;.exact⟨_,R.at_,trivial,λ_ z=>nomatch z⟩
  .exact⟨_,R.pa,trivial,λ_ z=>nomatch z⟩
 fz:=λ{K s l F H a od kvs}h0_ hF e=>by
  obtain⟨C,dx,t,b,g,vs,el,R⟩:=h0_;subst el;have n:∀x∈[s.a,s.p],x≠a:=λx hx z=>by have:=hF x hx;rw[z,e]at this;cases this
  exact⟨C,dx,t,b,g,vs,rfl,R.ns,by rw[ae (n _ (by simp))];exact R.at_,R.te.fz e,R.bo.fz e,R.fl.fz e,by rw[ae (n _ (by simp))];exact R.pa,R.ps.fz e⟩
 th:=λ{K s l F H a od kvs}h0_ hF e=>by
  obtain⟨C,dx,t,b,g,vs,el,R⟩:=h0_;subst el;have n:∀x∈[s.a,s.p],x≠a:=λx hx z=>by have:=hF x hx;rw[z,e]at this;cases this
  exact⟨C,dx,t,b,g,vs,rfl,R.ns,by rw[ae (n _ (by simp))];exact R.at_,R.te.th e,R.bo.th e,R.fl.th e,by rw[ae (n _ (by simp))];exact R.pa,R.ps.th e⟩
 rw:=λ{K s l F H F'}h0_ k h=>by obtain⟨C,dx,t,b,g,vs,el,R⟩:=h0_;subst el;unfold WL.Dk.val;simp only[RW,RWs];exact⟨s.a,C,dx,dfs t b g s.p,rfl,h _ (by simp) _ R.at_,R.ns,rfl,asm _ _,t,_,rfl,R.te.keep k,b,_,rfl,R.bo.keep k,g,_,rfl,R.fl.keep k,.ref s.p,_,rfl,⟨s.p,vs,rfl,SqL.of (h _ (by simp) _ R.pa),R.ps.keep k⟩,rfl⟩
def agw(B:Bx)(H:Hp)(l:List Addr)(F:Hp):Bx:=⟨B.K,fzS B.H0 H l,F,B.xp,B.mono⟩
section
variable{M:Rsc S}{B:Bx}{s:S}{l:List Addr}{σ σ':Ws}{σV σV':L2.St}{F H F' H':Hp}{D:Ends}{X:Cx}{t:SF}
def RX.toF(R:RX M B s l σ σV F H):RS (agw B H l F) σ σV F H:=⟨⟨R.rs.rb.sub,R.rs.rb.base,aw.refl _,λ_ _ e=>.inl e⟩,R.rs.len,R.rs.va,R.rs.ow,R.rs.ap,R.rs.dd⟩
def RX.rbF(R:RX M B s l σ σV F H)(b:RB (agw B H l F) F' H'):RB (jW B H l) F' H':=⟨b.sub,b.base,R.rs.rb.fz0.trans b.fz0,λa o e=>(b.fr a o e).elim (λz=>R.rs.rb.fr a o z) .inr⟩
def RX.ofF(R:RX M B s l σ σV F H)(a:RS (agw B H l F) σ' σV' F' H'):RS (jW B H l) σ' σV' F' H':=⟨R.rbF a.rb,a.len,a.va,a.ow,a.ap,a.dd⟩
def XW.inF(a:XW X B)(R:RX M B s l σ σV F H):XW X (agw B H l F):=λb σV H' e σ F c d q=>a _ _ _ _ σ F c ((R.ofF d).ajG (λx a=>(R.fr x a).2) R.there) q
def aeu(R:RX M B s l σ σV F H)(q:OqX M B D F (WL.aR t σ s)):Oq (agw B H l F) D F (t σ):=by unfold WL.aR at q;cases e:t σ with|nx σ'|bk σ'|ct σ'=>rw[e]at q;exact λσV' H' F' g k=>q _ H' _ l (R.next (R.ofF g) k) k|rt w=>rw[e]at q;intro v H' F' a k r;have a:=R.rbF a;have d:=vJ R.there a;exact q v H' _ l (by rw[<-adn R.there d];exact a) (λx b=>⟨vO (B:=B) R.there (λy f=>(R.fr y f).1) R.rs.rb.fz0 a x b,(R.fr x b).2⟩) (M.mono R.re k d) k r|ex c σ'|bad=>rw[e]at q;exact q
end
def DkB(B:Bx)(s:Dk):Prop:=∃C a t b g,W.nsIn B.K mainGlobals (Str.ofString "Desk")=some (some (.ref C))/\B.H0 s.a=some (.ins C a (dfs t b g s.p))/\RW B.K B.F0 s.texts t/\RW B.K B.F0 s.book b/\RW B.K B.F0 s.floor g
section
variable{B:Bx}{s:Dk}{l:List Addr}{σ:Ws}{σV:L2.St}{F H:Hp}{D:Ends}{X:Cx}{j n:Nat}{C:Addr}{fl:Str}{o e:Expr}{pos pos':Pos}{st:Stmt}{t:Dk->SF}
def RX.dkB(R:RX dkM B s l σ σV F H):DkB (agw B H l F) s:=by obtain⟨C,a,t,b,g,d,c,S⟩:=R.re;exact⟨C,a,t,b,g,S.ns,by show fzS _ H l _=_;rw[gq (by grind)];exact S.at_,S.te,S.bo,S.fl⟩
set_option tactic.hygienic true
def adt{α}{z o x:α}(h:WL.atD j σ s z o=x)(hz:z≠x):σ[j]?=some (.va (.id s.a))/\o=x:=by
 unfold WL.atD at h;split at h
 .rename_i b e;split at h;.rename_i a;subst a;exact⟨e,h⟩
  .exact(hz h).elim
 .exact(hz h).elim
theorem OqX.atD{o}(q:OqX dkM B D F (WL.atD j σ s .bad o)):σ[j]?=some (.va (.id s.a))/\OqX dkM B D F o:=by
 unfold WL.atD at q;split at q
 .rename_i b e;split at q;.rename_i a;subst a;exact⟨e,q⟩
  .exact(q).elim
 .exact(q).elim
set_option tactic.hygienic false
def nZ{B'}(R:RS B' σ σV F H)(e:σ[j]?=some (.va (.id s.a))):σV[j]?=some (some (.ref s.a)):=by obtain⟨v,b,a⟩:=R.va j _ e;rw[b,a]
noncomputable abbrev dfl:List Str:=["texts","book","floor"]
def my(J:B.K=X.K)(N:DkB B s)(E:W.nsIn X.K mainGlobals (Str.ofString "Desk")=some (some (.ref C)))(cl:Cls X.K C)(r:aI X.K C fl)(P:PE X o (cM j))(k:dfl[n]?=some fl:=by rfl)(x:attributeBase o fl X.env (eval o X.env)=eval o X.env:=by rfl):PE X (.Attribute o fl pos) (lo B (WL.ae5 j n s)):=PE.imp (kU P x) λσV H Q f=>by obtain⟨σ,F,R,q⟩:=f;cases a:WL.ae5 j n s σ with|bad=>rw[a]at q;exact q.elim|ex c=>exact nomatch(adt a λz=>nomatch z).2|ok w=>
 rw[a]at q;obtain⟨O,M⟩:=adt a λz=>nomatch z;cases M;obtain⟨S,y,t,b,g,m,K,u,p,I⟩:=N;rw[J,E]at m;cases m;have d:=R.rb.fz0;obtain⟨v,A,G⟩:∃v,(dfs t b g s.p).lookup fl=some v/\RW B.K F (s.get n) v:=by match n,k with|0,h=>cases h;exact⟨t,rfl,u.keep d⟩|1,h=>cases h;exact⟨b,rfl,p.keep d⟩|2,h=>cases h;exact⟨g,rfl,I.keep d⟩
 exact⟨.ref s.a,nZ R O,s.a,C,y,_,v,rfl,R.rb.base _ _ K,cl,r,A,q v H F R Gr.refl G⟩
def wO(c:B.K=X.K)(d:XW X B)(h:∀a s,a.K=X.K->XW X a->DkB a s->PS X st (loS a (t s))):PS X st (loX dkM B (WL.sr t)):=by intro b f σV H D I⟨σ,F,s,l,R,q⟩;exact h (agw B H l F) s c (d.inF R) R.dkB _ _ _ H D I ⟨σ,F,R.toF,aeu R q⟩
theorem DRel.put{K C dx t b g vs w y}(S:DRel K s F H C dx t b g vs)(c:dfl[n]?=some fl)(r:RW K F w y):∃f d a,l7 fl y (dfs t b g s.p)=dfs f d a s.p/\(s.put w n).a=s.a/\(s.put w n).p=s.p/\DRel K (s.put w n) F (upd H s.a (.ins C dx (dfs f d a s.p))) C dx f d a vs:=by
 have np:s.p≠s.a:=λz=>by have:=S.pa;rw[z,S.at_]at this;cases this
 match n,c with|0,h=>cases h;exact⟨y,b,g,rfl,rfl,rfl,S.ns,ah,r,S.bo,S.fl,by show upd H s.a _ s.p=_;rw[ae np];exact S.pa,S.ps⟩|1,h=>cases h;exact⟨t,y,g,rfl,rfl,rfl,S.ns,ah,S.te,r,S.fl,by show upd H s.a _ s.p=_;rw[ae np];exact S.pa,S.ps⟩|2,h=>cases h;exact⟨t,b,y,rfl,rfl,rfl,S.ns,ah,S.te,S.bo,r,by show upd H s.a _ s.p=_;rw[ae np];exact S.pa,S.ps⟩
theorem RX.put{C dx t b g vs w y}(R:RX dkM B s l σ σV F H)(q:l=[s.a,s.p])(S:DRel B.K s F H C dx t b g vs)(a:dfl[n]?=some fl)(r:RW B.K F w y):RX dkM B (s.put w n) l σ σV F (upd H s.a (.ins C dx (l7 fl y (dfs t b g s.p)))):=by obtain⟨h,f,c,k,p,m,d⟩:=S.put a r;rw[k];exact R.write (by grind) ⟨C,dx,h,f,c,vs,by grind,d⟩
def u5{te}(k:B.K=X.K)(v:XW X B)(A:W.nsIn X.K mainGlobals (Str.ofString "Desk")=some (some (.ref C)))(cl:Cls X.K C)(E:aI X.K C fl)(G:PE X o (cM 0))(r:∀d s,d.K=X.K->XW X d->DkB d s->PE X e (lo d (te s)))(f:dfl[n]?=some fl:=by rfl)(N:swapsWith e (some (.Attribute o fl pos')) pos.line X.env=pure false:=by rfl):PS X (.Assign [.Attribute o fl pos'] e pos) (loX dkM B (WL.yQ n te)):=by intro a x σV H D I⟨σ,F,s,l,R,q⟩;refine gj G (r (agw B H l F) s k (v.inF R) R.dkB) N a x σV H D I ?_;obtain⟨M,q⟩:=OqX.atD q;refine⟨σ,F,R.toF,?_⟩;cases p:te s σ with|bad|ex c=>rw[p]at q;exact(show False from q).elim|ok w=>rw[p]at q;intro y O J u h r1;have R2:=R.next (R.ofF u) h.f;obtain⟨P,z,t,b,g,Q,K,S⟩:=R2.re;have m:=S.ns;rw[k,A]at m;cases m;exact⟨.ref s.a,nZ R2.rs M,s.a,C,z,_,rfl,S.at_,cl,E,show 4<1000 by decide,q σV _ J l (R2.put K S f r1) h.f⟩
def agG(v:B.K=X.K)(u:W.nsIn X.K mainGlobals (Str.ofString "Desk")=some (some (.ref C)))(cl:Cls X.K C)(p:aI X.K C "past")(c:aI X.K C "floor")(h:PS X st (sP (tBM X.K "list" mV (ail X.K (cM 0) "past") (jy (ail X.K (cM 0) "floor") xu)))):PS X st (loX dkM B WL.agJ):=PS.imp h λD σV H⟨σ,F,s,l,R,q⟩=>by
 obtain⟨w,q⟩:=OqX.atD q;split at q;case isFalse=>exact(show False from q).elim
 rename_i r;obtain⟨y,a,t,b,g,d,f,S⟩:=R.re;have m:=S.ns;rw[v,u]at m;cases m;have k:=nZ R.rs w;have np:s.a≠s.p:=λz=>by have:=S.pa;rw[<-z,S.at_]at this;cases this
 exact⟨.ref s.a,k,s.a,C,a,_,.ref s.p,rfl,S.at_,cl,p,rfl,.inl ⟨rfl,d,SqL.of S.pa⟩,.ref s.a,k,s.a,C,a,_,g,rfl,S.at_,cl,c,rfl,s.p,d,g,rfl,rfl,S.pa,by rw[<-S.ps.length];exact apd r cH,q σV _ F l (R.write (x:=s.p) (by rw[f];simp) ⟨C,a,t,b,g,d++[g],f,S.ns,by rw[ae np];exact S.at_,S.te,S.bo,S.fl,ah,S.ps.app (.one S.fl)⟩) (aw.refl _)⟩
def agF(M:B.K=X.K)(K:W.nsIn X.K mainGlobals (Str.ofString "Desk")=some (some (.ref C)))(cl:Cls X.K C)(O:aI X.K C "past")(f:aI X.K C "floor")(h:PS X st (aaj X.K (cM 0) (anz X.K "list" anJ (ail X.K (cM 0) "past")) "floor")):PS X st (loX dkM B WL.agI):=PS.imp h λD σV H⟨σ,F,s,l,R,q⟩=>by
 obtain⟨J,q⟩:=OqX.atD q;split at q;case h_2=>exact(show False from q).elim
 rename_i w m;obtain⟨C',d,t,b,g,a,E,S⟩:=R.re;have v:=S.ns;rw[M,K]at v;cases v;have G:=nZ R.rs J;have np:s.a≠s.p:=λz=>by have:=S.pa;rw[<-z,S.at_]at this;cases this
 rw[ar3]at m;obtain⟨y,u,N⟩:=S.ps.get m;rw[S.ps.length]at u;have k:RX dkM B {s with past:=s.past.dropLast} l σ σV F (upd H s.p (.lst a.dropLast)):=R.write (x:=s.p) (by rw[E];simp) ⟨C,d,t,b,g,a.dropLast,E,S.ns,by rw[ae np];exact S.at_,S.te,S.bo,S.fl,ah,by rw[List.dropLast_eq_take,List.dropLast_eq_take,S.ps.length];exact S.ps.take _⟩;obtain⟨Q,I,U,b2,Y,P,c,p⟩:=id k.re;have r:=p.at_;rw[ae np,S.at_]at r;cases r;exact⟨.ref s.a,G,s.a,C,d,_,.ref s.p,rfl,S.at_,cl,O,rfl,.inl ⟨rfl,a,SqL.of S.pa⟩,s.p,a,y,rfl,rfl,S.pa,u,.ref s.a,G,s.a,C,d,_,rfl,by rw[ae np];exact S.at_,cl,f,show(dfs t b g s.p).length<1000 by simp,(show∀A Z F' T,_ from q) σV _ F l (k.put (n:=2) (w:=w) c p rfl N) (aw.refl _)⟩
end
end WS
set_option autoImplicit true
set_option relaxedAutoImplicit true
namespace WS
open PySem PySem.Spec PyProof.Rows L2
open WL(Res Sl Ws EF TF AF LF GF GsF SF Out OX RF Rn AXF Dk XE XT)
def vH(B:Bx)(e:XE Dk):TE:=λa H Q=>∃c F s l w f,RX dkM B s l c a F H/\e c s=some (w,f)/\∀v d b g,RX dkM B f g c a b d->aw F b->RW B.K b w v->Q v d
def adG(B:Bx)(t:XT Dk):TT:=λa H Q=>∃c F s l b e,RX dkM B s l c a F H/\t c s=some (b,e)/\∀d f g,RX dkM B e g c a f d->aw F f->Q b d
section
variable{B:Bx}{X:Cx}{i j n:Nat}{C:Addr}{m x:Str}{c a b e:Expr}{es rest:List Expr}{ss ss':List Stmt}{te:EF}{tt:TF}{tas:AF}{fn:List VW->Dk->OX Dk}{t1 t2:RF Dk}{ea eb:XE Dk}{ta tb:XT Dk}{op:CmpOp}{r:VW->VW->Res VW}{w:VW}{v:V}{pos pos' lpos:Pos}
set_option tactic.hygienic true
def anr(d:B.K=X.K)(U:W.nsIn X.K mainGlobals (Str.ofString "Desk")=some (some (.ref C)))(p:m∉WL.fw "Desk")(N:∀f ws,tas f=.ok ws->ws.length+1=n)(u:∀G,G.K=X.K->PE X e (pK X C m (spM dkM X.K n fn) [] (cM j) (loA G tas))):PE X e (vH B (WL.xeW j fn tas)):=by intro k M y H Q I⟨f,F,s,l,w,s',R,q,h⟩;refine u (jW B H l) d k M y H Q I ?_;obtain⟨T,q⟩:=adt q λz=>nomatch z;cases o:tas f with|bad|ex c=>rw[o]at q;cases q|ok ws=>
 rw[o]at q;obtain⟨C',P,t,b,g,us,el,S⟩:=id R.re;have E:=S.ns;rw[d,U]at E;cases E;refine⟨.ref s.a,nZ R.rs T,s.a,P,_,rfl,S.at_,vF (by exact p),f,F,R.rs,?_⟩;rw[o];intro vs H1 F1 D A r1;have R2:=R.next D A.f;rw[apE];refine⟨λ_ _ _=>False,⟨F1,.id s.a::ws,s,l,D.rb.sub,.cons (by simp only[RW]) (d▸r1),by rw[apj];exact N f ws o,d▸R2.re,λx K=>(R2.fr x K).1,?_⟩,λ_ _ _ _ _ _ _ _ z=>z.elim⟩;dsimp only at q;split at q;.rename_i w1 s1 ef;cases q;rw[ef];exact λv O Y J k1 k2 k3 fr Z ff r=>h v O Y J (R2.hand k1 k2 k3 fr (d▸Z) ff) (A.f.trans k1) (d▸r)
 .cases q
def alc(p:PE X e (lo B te)):PE X e (vH B (WL.xeR j te)):=PE.imp p λz H Q⟨J,F,s,l,w,K,R,q,h⟩=>by
 unfold WL.xeR at q;split at q
 .rename_i d A;split at q
  .rename_i w1 u;split at q;.rename_i D;cases q;obtain⟨k,t⟩:=R.frz A;refine⟨d,_,t,?_⟩;rw[u];intro v G I R2 f r1;obtain⟨o,y,E,g⟩:=R.back R2 f;exact h v _ o l g y.f (vI R f R2.rb.sub E D r1)
   .cases q
  .cases q
 .cases q
def aat(o:∀F,RW B.K F w v):∀d H Q,vH B (WL.sd r ea w) d H Q->tOp (lo2 B.K r) (vH B ea) (tC v) d H Q:=by
 intro d H Q⟨t,F,s,l,D,y,R,q,h⟩;unfold WL.sd at q;split at q
 .rename_i w1 s1 z;split at q;.rename_i b eb;cases q;refine⟨t,F,s,l,w1,y,R,z,λu A g p f k1 r1=>⟨g,w1,w,f.rs.rb.sub,r1,o g,?_⟩⟩;rw[eb];exact λv2 k G E r2=>h v2 _ k p (f.next (E.rs _ _ _ f.rs) E.same) (k1.trans E.same) r2
  .cases q
 .cases q
set_option tactic.hygienic false
def agH(h:OpR X (compareOp op) (lo2 B.K r))(d:PE X a (vH B ea))(k:PE X b (tC v))(f:∀F,RW B.K F w v)(g:behindInMarks op b=false):PE X (.Compare a [op] [b] pos) (vH B (WL.sd r ea w)):=PE.imp (abI h d k g) (aat f)
set_option tactic.hygienic true
def wQ(t:PE X a (vH B ea))(I:PE X (.BoolOp .And (b::rest) pos) (vH B eb)):PE X (.BoolOp .And (a::b::rest) pos) (vH B (WL.oF ea eb)):=PE.imp (af8 t I) λG H Q⟨k,F,s,l,w,A,R,q,h⟩=>by
 unfold WL.oF at q;split at q;.rename_i s1 o;exact⟨k,F,s,l,_,s1,R,o,λu p d g f k1 r1=>⟨true,r1,⟨k,d,s1,g,w,A,f,q,λv z D y E k'=>h v z D y E (k1.trans k')⟩⟩⟩
 .rename_i s1 o;cases q;exact⟨k,F,s,l,_,_,R,o,λu p d g f k1 r1=>⟨_,r1,h _ p d g f k1 rfl⟩⟩
 .cases q
def aiI:∀d H Q,adG B (WL.xtE ea) d H Q->ad5 (vH B ea) d H Q:=by
 intro d H Q⟨g,F,s,l,b,y,R,q,h⟩;unfold WL.xtE at q;split at q;.rename_i b1 s1 k;cases q;exact⟨g,F,s,l,_,_,R,k,λu o p t f k1 r1=>⟨_,r1,h _ _ _ f k1⟩⟩
 .cases q
set_option tactic.hygienic false
def adN(k:OpR X (compareOp op) (lo2 B.K r))(d:PE X a (vH B ea))(l:PE X b (tC v))(f:∀F,RW B.K F w v)(g:behindInMarks op b=false):PT X (.Compare a [op] [b] pos) (adG B (WL.xtE (WL.sd r ea w))):=PT.imp (abu k d l g) λh H Q q=>aat f _ _ _ (aiI _ _ _ q)
def aom(g:PT X c (loT B tt)):PT X c (adG B (WL.xtR j tt)):=PT.imp g λo H Q⟨u,F,s,l,b,y,R,q,h⟩=>by
 unfold WL.xtR at q;split at q;.rename_i b1 k;cases q;exact anq R k λp t d f=>h _ _ l f d.f
 .cases q
set_option tactic.hygienic true
def aiH(t:PT X a (adG B ta))(D:PW X (.BoolOp .And (b::rest) pos) (adG B tb)):PW X (.BoolOp .And (a::b::rest) pos) (adG B (WL.yN ta tb)):=PW.imp (af4 t D) λA H Q⟨k,F,s,l,w,y,R,q,h⟩=>by
 unfold WL.yN at q;split at q;.rename_i s1 o;exact⟨k,F,s,l,_,s1,R,o,λp d g f k1=>⟨k,d,s1,g,w,y,f,q,λu G E z k'=>h u _ _ z (k1.trans k')⟩⟩
 .rename_i s1 o;cases q;exact⟨k,F,s,l,_,_,R,o,λp d g f k1=>h p d g f k1⟩
 .cases q
def alO(t:PT X a (adG B ta))(D:PW X (.BoolOp .Or (b::rest) pos) (adG B tb)):PW X (.BoolOp .Or (a::b::rest) pos) (adG B (WL.alb ta tb)):=PW.imp (ajo t D) λA H Q⟨k,F,s,l,w,y,R,q,h⟩=>by
 unfold WL.alb at q;split at q;.rename_i s1 o;exact⟨k,F,s,l,_,s1,R,o,λp d g f k1=>⟨k,d,s1,g,w,y,f,q,λu G E z k'=>h u _ _ z (k1.trans k')⟩⟩
 .rename_i s1 o;cases q;exact⟨k,F,s,l,_,_,R,o,λp d g f k1=>h p d g f k1⟩
 .cases q
def aas(t:PT X c (adG B ta))(p:PSs X ss (loX dkM B t1))(y:PSs X ss' (loX dkM B t2)):PS X (.If c ss ss' pos) (loX dkM B (WL.adD ta t1 t2)):=PS.imp (ahl t p y) λD u H⟨d,F,s,l,R,q⟩=>by
 unfold WL.adD at q;split at q;.rename_i s1 k;exact⟨d,F,s,l,_,s1,R,k,λo f h g k1=>⟨d,f,s1,h,g,OqX.mono k1 q⟩⟩
 .rename_i s1 k;exact⟨d,F,s,l,_,s1,R,k,λo f h g k1=>⟨d,f,s1,h,g,OqX.mono k1 q⟩⟩
 .exact(q).elim
def gI(f:PE X e (vH B ea)):PS X (.Return (some e) pos) (loX dkM B (WL.gw ea)):=PS.imp (tm f) λD o H⟨h,F,s,l,R,q⟩=>by
 unfold WL.gw at q;split at q;.rename_i w s1 k;exact⟨h,F,s,l,w,s1,R,k,λv p g t d k1 r1=>q v _ g _ d.rs.rb d.fr d.re k1 r1⟩
 .exact(q).elim
def qq(d:PE X e (vH B ea))(t:swapsWith e none pos.line X.env=pure false:=by rfl):PS X (.Expr e pos) (loX dkM B (WL.mq ea)):=PS.imp (dG d t) λD p H⟨k,F,s,l,R,q⟩=>by
 unfold WL.mq at q;split at q;.rename_i w s1 o;exact⟨k,F,s,l,w,s1,R,o,λv u f h g k1 r1=>q _ _ f h g k1⟩
 .exact(q).elim
def agE(K:X.N.Nodup)(O:PA X es (loA B tas))(M:X.N[i]?=some x:=by rfl)(I:Loc X.env.scope x:=by first|exact Or.inl rfl|exact Or.inr rfl)(P:swapsWith (.List es lpos) (some (.Name x pos')) pos.line X.env=pure false:=by rfl)(S:FL X x:=by first|exact .inl rfl|exact .inr rfl|assumption):PS X (.Assign [.Name x pos'] (.List es lpos) pos) (loX dkM B (WL.aau j i tas)):=PS.imp (kT K M I (tr O) P S) λD T H⟨σ,F,s,l,R,q⟩=>by
 unfold WL.aau at q;split at q
 .rename_i t N;split at q
  .rename_i ws Q;split at q;.rename_i u;obtain⟨k,G⟩:=R.frz N;refine⟨t,_,G,?_⟩;rw[Q];intro f Y F1 R2 y r1;obtain⟨E,J,U,g⟩:=R.back R2 y;have A:RWs B.K E ws f:=RWs.less (aca R y R2.rb.sub U) ws f u.1 r1;refine⟨by rw[<-A.length];exact apb u.2 cH,λp d=>?_⟩;have h:=au (g.rs.rb.sub.free d) (.lst f);have o:=g.next (g.rs.new d _) h;exact(show∀z H' F' Z,_ from q) _ _ _ l ⟨o.rs.set (by simp only[RW];exact⟨p,f,rfl,SqL.of ah,A.keep h⟩),o.fr,o.re⟩ (J.f.trans h)
   .exact(show False from q).elim
  .exact(show False from q).elim
 .exact(show False from q).elim
set_option tactic.hygienic false
end
end WS
set_option autoImplicit true
set_option relaxedAutoImplicit true
namespace L2
open PySem PySem.Spec PyProof.Rows
section
variable{X:Cx}{k:Nat}{f C:Addr}{fd:FuncData}{ps:List Str}{sp:Sp}{x:Str}{p pos:Pos}
def abG(M:Mk X.K C f)(F:FnOk X.prog X.w X.K X.mg X.base (CXX X.prog X.w) k f fd ps sp)(h:Room (k+1) X.A)(l:Gl X x)(j:X.mg x=some (.ref C))(n:Binds X.K fd ps [])(d:Dbg x:=by decide):PE X (.Call (.Name x p) [] [] pos) λg H Q=>∀x b,H x=none->H b=none->b≠x->sp [.ref x] (upd (upd H b (.own x)) x (.ins C b [])) (λv i=>v=.non/\Q (.ref x) i) λ_ _ _=>False:=by intro a t g o Q c m;refine ap5 (cE c l j ?_ d);exact W.callWith_K0 c.kIn M.kp (aea (vs:=[]) (ds:=[]) M F h n .nil (λa g H s e r I z=>by obtain⟨_,_,_,_,_,_,_,q⟩:=I.thrown z;exact q.elim) c .nil m)
end
end L2
namespace WS
open PySem PySem.Spec PyProof.Rows L2
open WL(Res Sl Ws EF TF AF LF GF GsF SF Out OX RF Rn AXF Dk XE XT)
def ane(K:W.Frag)(C:Addr):Prop:=Cls K C/\aI K C "texts"/\aI K C "book"/\aI K C "floor"/\aI K C "past"
def alg(K:W.Frag)(f:VW)(g:V):Sp:=λh H Q _=>∃x C e,h=[.ref x]/\H x=some (.ins C e [])/\ane K C/\∀t b p c d,H t=none->H p=none->t≠p->c x=some (.ins C e (dfs (.ref t) b g p))->c t=some (.dK [])->c p=some (.lst [])->d t=none->d p=none->aw d c->(∀a o,d a=some o->H a=none/\NF o)->(∀a o,a≠x->H a=some o->c a=some o)->RW K d f b->Q .non c
section
variable{P:Program}{w:World}{K:W.Frag}{mg:Str->Option Value}{base:Heap}
def aeT{nm m st f fd n0 k s1 s2 s3 s4 wb g te}(Fn:Fun K nm m st f fd)(Sc:FnScope [n0] [n0] (ak st))(a6:aF st=[s1,s2,s3,s4])(a0:∀M,te M=.ok wb)(h:∀G A d s H E X,X=fB (CXX P w) P w K mg base [n0] m (ak st) f G A d s H E->Room k X.A->PS X s1 (aaj K (cM 0) afR "texts")/\(∀B,B.K=K->XW X B->PS X s2 (aaj K (cM 0) (lo B te) "book"))/\PS X s3 (aaj K (cM 0) (tC g) "floor")/\PS X s4 (aaj K (cM 0) (ale xu) "past")):FnOk P w K mg base (CXX P w) (k+1) f fd [n0] (alg K wb g):=by
 obtain⟨oc,od,b8,a9,pm,an,G,ct,b0,rfl,lk,a7⟩:=Fn.ex;refine rB lk a7 Sc λvs H Q E r=>by obtain⟨x,C,y,e,_⟩:=r;rw[e];rfl λA d s H vs Q E hr _ r=>?_;obtain⟨x,C,y,e,hH,⟨cl,a1,a2,a3,a4⟩,hq⟩:=r;subst e;obtain⟨h1,h2,h3,h4⟩:=h G A d s H E _ rfl hr;rw[a6];have a8:=λR sh M H D I(z:∃B:Bx,B.K=K/\XW _ B/\aaj K (cM 0) (lo B te) "book" D M H)=>let⟨B,e1,e2,q⟩:=z;h2 B e1 e2 R sh M H D I q;refine⟨_,bg h1 (bg (t:=λD M H=>∃B:Bx,B.K=K/\XW _ B/\aaj K (cM 0) (lo B te) "book" D M H) a8 (bg h3 (dF h4))),?_⟩;intro t U;have j:t≠x:=λz=>by rw[z,hH]at U;cases U
 refine⟨.ref x,rfl,x,C,y,[],rfl,by rw[ae (aph j)];exact hH,cl,a1,by decide,?_⟩;have p1:l7 ("texts":Str) (V.ref t) []=[(("texts":Str),V.ref t)]:=rfl;rw[p1];let v:Hp:=upd (upd H t (.dK [])) x (.ins C y [("texts",.ref t)]);let B2:Bx:=⟨K,v,λ_=>none,λ_ _ _=>False,λ_ _ _ _ _ z=>z⟩;have l:∀a o,a≠x->H a=some o->v a=some o:=λa o n q=>by show upd _ x _ a=_;rw[ae n,ae λz=>by rw[z,U]at q;cases q];exact q
 refine⟨B2,rfl,qo λ_ _ _ z=>z,_,λ_=>none,RS.start (N:=[n0]) (ws:=[.id x]) (λ_ _ z=>nomatch z) ⟨_,_,rfl,rfl,rfl⟩ (by simp),?_⟩;rw[a0];intro b H3 F3 Y T r3;have x3:H3 x=some (.ins C y [("texts",.ref t)]):=T.h x _ ah;refine⟨.ref x,rfl,x,C,y,_,rfl,x3,cl,a2,by simp,?_⟩;have p2:l7 ("book":Str) b [(("texts":Str),V.ref t)]=[(("texts":Str),V.ref t),(("book":Str),b)]:=rfl;rw[p2];refine⟨.ref x,rfl,x,C,y,_,rfl,ah,cl,a3,by simp,?_⟩;have p3:l7 ("floor":Str) g [(("texts":Str),V.ref t),(("book":Str),b)]=[(("texts":Str),V.ref t),(("book":Str),b),(("floor":Str),g)]:=rfl;rw[p3];refine⟨apC _,λp J=>?_⟩;have i:p≠x:=λz=>by rw[z,ah]at J;cases J
 rw[ae i,ae i]at J;refine⟨.ref x,rfl,x,C,y,_,rfl,by rw[ae (aph i)];exact ah,cl,a4,by simp,?_⟩;have p4:l7 ("past":Str) (V.ref p) [(("texts":Str),V.ref t),(("book":Str),b),(("floor":Str),g)]=dfs (.ref t) b g p:=rfl;rw[p4];have c:v p=none:=T.h.free J;have S:t≠p:=λz=>by have c:upd _ x _ p=none:=c;rw[ae i,<-z,ah]at c;cases c
 have fr:∀a o,F3 a=some o->v a=none/\NF o:=λa o q=>(Y.rb.fr a o q).resolve_left λz=>nomatch z;have t2:v t=some (.dK []):=by show upd _ x _ t=_;rw[ae j,ah]
 refine hq t b p _ F3 U ?_ S ah ?_ ?_ ?_ (Y.rb.sub.free J) (λa o q=>?_) (λa o q=>⟨?_,(fr a o q).2⟩) (λa o n q=>?_) r3;.cases e:H p with|none=>rfl|some o=>rw[l p o i e]at c;cases c
 .rw[ae j,ae S,ae j,ae j];exact T.h _ _ t2
 .rw[ae i,ah]
 .cases e:F3 t with|none=>rfl|some o=>have:=(fr t o e).1;rw[t2]at this;cases this
 .have O:a≠x:=λz=>by have:=(fr a o q).1;rw[z]at this;rw[show v x=some _ from ah]at this;cases this
  have Z:a≠p:=λz=>by have:=Y.rb.sub a o q;rw[z,J]at this;cases this
  rw[ae O,ae Z,ae O,ae O];exact Y.rb.sub a o q
 .by_cases O:a=x;.rw[O]at q;have:=(fr x o q).1;rw[show v x=some _ from ah]at this;cases this
  .cases e:H a with|none=>rfl|some u=>have:=(fr a o q).1;rw[l a u O e]at this;cases this
 .have Z:a≠p:=λz=>by rw[z]at q n;rw[l p o n q]at c;cases c
  rw[ae n,ae Z,ae n,ae n];exact T.h _ _ (l a o n q)
end
section
variable{X:Cx}{B:Bx}{j:Nat}{C:Addr}{s1:Stmt}{rest:List Stmt}{t:RF Dk}{wh:VW}{g:V}
def yS{S}(N:B.K=X.K)(hx:XW X B)(P:W.nsIn X.K mainGlobals (Str.ofString "Desk")=some (some (.ref C)))(a6:ane X.K C)(hw:∀F,RW X.K F wh g)(h1:PS X s1 (ahb (λJ H Q=>∀x c,H x=none->H c=none->c≠x->alg X.K S g [.ref x] (upd (upd H c (.own x)) x (.ins C c [])) (λv H2=>v=.non/\Q (.ref x) H2) λ_ _ _=>False) (L2.aN j)))(Z:PSs X rest (loX dkM B t)):PSs X (s1::rest) (loS B (WL.hJ j (.ok S) wh t)):=by
 refine PSs.imp (bg h1 Z) λD I H⟨J,F,R,q⟩=>?_;unfold WL.hJ at q;dsimp only at q;split at q;case isFalse=>exact(show False from q).elim
 rename_i hh;have r:=aqI hh;intro x c s a0 a7;refine⟨x,C,c,rfl,ah,a6,λf b p E l ht hp U x2 t2 p2 ft fp sm fr ho rb=>⟨rfl,?_⟩⟩;have h:∀{a:Addr},upd (upd H c (.own x)) x (.ins C c []) a=none->a≠x/\a≠c/\H a=none:=λ{a}z=>by
  have n1:a≠x:=λy=>by rw[y,ah]at z;cases z
  rw[ae n1]at z;have n2:a≠c:=λy=>by rw[y,ah]at z;cases z
  rw[ae n2]at z;exact⟨n1,n2,z⟩
 have kp:aw H E:=λa o z=>by
  have n1:a≠x:=λy=>by rw[y,s]at z;cases z
  have n2:a≠c:=λy=>by rw[y,a0]at z;cases z
  exact ho a o n1 (by rw[ae n1,ae n2];exact z)
 obtain⟨tx,_,Y⟩:=h ht;obtain⟨px,_,pH⟩:=h hp;have K:∀a o,l a=some o->H a=none/\a≠x:=λa o z=>⟨(h (fr a o z).1).2.2,(h (fr a o z).1).1⟩;have Ft:=R.rb.sub.free Y;let i:Hp:=upd (jo F l) f (.dK []);have m:∀a,a≠f->F a=none->l a=none->i a=none:=λa n h1 Z=>by show upd _ f _ a=none;rw[ae n,aam h1];exact Z
 have A:∀a o,i a=some o->a=f/\o=.dK []\/F a=some o\/l a=some o:=λa o z=>by
  by_cases n:a=f;.subst n;have z:upd _ a _ a=some o:=z;rw[ah]at z;cases z;exact .inl ⟨rfl,rfl⟩
  .have z:upd _ f _ a=some o:=z;rw[ae n]at z;cases e:F a with|some u=>rw[aan e]at z;exact .inr (.inl z)|none=>rw[aam e]at z;exact .inr (.inr z)
 have k2:aw F i:=λa o z=>by show upd _ f _ a=_;rw[ae (λy=>by rw[y,Ft]at z;cases z),aan z]
 have k3:aw l i:=λa o z=>by show upd _ f _ a=_;rw[ae (λy=>by rw[y,ft]at z;cases z),aam (R.rb.sub.free (K a o z).1),z]
 have R2:RS B J I i E:=R.grow ⟨k2,kp,λa o z n=>m a (λy=>by rw[y,Y]at z;cases z) n (by cases e:l a with|none=>rfl|some u=>rw[(K a u e).1]at z;cases z)⟩ ⟨λa o z=>by
  rcases A a o z with⟨rfl,rfl⟩|z|z;.exact t2
  .exact kp _ _ (R.rb.sub _ _ z)
  .exact sm _ _ z,R.rb.base.trans kp,R.rb.fz0.trans k2,λa o z=>by
   rcases A a o z with⟨rfl,rfl⟩|z|z;.exact .inr ⟨R.rb.base.free Y,trivial⟩
   .exact R.rb.fr a o z
   .exact .inr ⟨R.rb.base.free (K a o z).1,(fr a o z).2⟩⟩;have inl:∀y∈[x,p],H y=none/\i y=none:=λy d=>by
  simp only[apq,aqb,or_false]at d;rcases d with rfl|rfl;.refine⟨s,m _ (aph tx) (R.rb.sub.free s) ?_⟩;cases e:l y with|none=>rfl|some u=>exact((K y u e).2 rfl).elim
  .exact⟨pH,m _ (aph U) (R.rb.sub.free pH) fp⟩
 have R3:RS (jW B E [x,p]) J I i E:=R2.inS (λy d=>(inl y d).2) (λk ws y e1 T d=>by obtain⟨b,vs,w,_,_,G,_⟩:=R.ow k ws e1;rw[T]at w;cases w;rw[(inl y d).1]at G;cases G) λy d k ks us e1 T=>by obtain⟨b,vs,w,_,_,G,_⟩:=R.dd.od k ks us e1;rw[T]at w;cases w;rw[(inl y d).1]at G;cases G
 obtain⟨s',r⟩:=r x p;refine⟨J.set j (.va (.id x)),i,⟨x,p,.dic [] [],S,wh,[]⟩,[x,p],⟨R3.set (by simp only[RW]),λy d=>⟨(inl y d).2,R.rb.base.free (inl y d).1⟩,C,c,.ref f,b,g,[],rfl,N▸P,x2,?_,N▸rb.keep k3,N▸hw i,p2,rfl⟩,?_⟩;.simp only[RW];exact⟨f,[],rfl,.inl ah,by simp[RWs],by simp[RWs]⟩
 .rw[r];exact λv H3 F3 l3 M O _ k4 r4=>(show∀v E l,_ from q) v H3 F3 (af2 M O) (k2.trans k4) r4
end
section
variable{X:Cx}{B:Bx}{te:EF}{o e:Expr}{fl:Str}{pos pos':Pos}{st:Stmt}{t:SF}{i:Nat}
def wY(h:PS X st (loS B t)):PS X st (loS B (WL.xG i t)):=PS.imp h λD f H⟨a,F,R,q⟩=>by refine⟨a,F,R,?_⟩;have q:Oq B D F (match t a with|.nx _=>.nx _|o=>o):=q;cases c:t a with|nx σ'=>rw[c]at q;intro b j l d k;obtain⟨g,k2,R2,_⟩:=d.frz i;exact q _ _ _ R2 (k.trans k2)|_=>rw[c]at q;exact q
def agN(c:PE X o (cM i))(a:PE X e (lo B te))(d:swapsWith e (some (.Attribute o fl pos')) pos.line X.env=pure false:=by rfl):PS X (.Assign [.Attribute o fl pos'] e pos) (loS B (WL.ajj te)):=PS.imp (gj c a d) λD f H⟨b,F,R,q⟩=>⟨b,F,R,Rq.mono (aw.refl _) (Oq.ofR q) λ_ z=>(z).elim⟩
end
section
variable{X:Cx}{B:Bx}{C g:Addr}{k jr j n:Nat}{m:Str}{ps:List Str}{fn:List VW->Dk->OX Dk}{e o:Expr}{es:List Expr}{tas:AF}{apos cpos pos:Pos}{pl:Sem Bool}
def xmD(u:B.K=X.K)(v:Room jr X.A)(t:W.nsIn X.K mainGlobals (Str.ofString "Desk")=some (some (.ref C)))(cl:Cls X.K C)(G:oD X.prog X.w X.K X.mg X.base k C g m ps (spM dkM X.K n fn))(w:PE X o (cM j))(l:∀h,h.K=X.K->PA X (e::es) (loA h tas))(s:∀r ws,tas r=.ok ws->ws.length+1=n:=by first|exact an1|exact an2)(hk:k<=jr:=by decide)(a:m∉WL.fw "Desk":=by decide)(c:SE X e es:=by rfl)(d:BT X cpos es:=by rfl)(p:eval (.Call (.Attribute o m apos) (e::es) [] cpos) X.env=(do
  let i <-eval o X.env
  standAt apos.atName let(f,first)<-holding [i] (getMethod i m pl)callWith cpos f first (backTo cpos (starEach (e::es) X.env)) (backToKw cpos (keywordEach [] X.env))):=by rfl):PE X (.Call (.Attribute o m apos) (e::es) [] cpos) (vH B (WL.xeW j fn tas)):=by obtain⟨M,x,F,b⟩:=G;exact anr u t a s λh q=>l8 w cl M F (v.mono hk) b .nil (l _ q) c d p
def aon(t:B.K=X.K)(y:Room jr X.A)(s:W.nsIn X.K mainGlobals (Str.ofString "Desk")=some (some (.ref C)))(cl:Cls X.K C)(G:oD X.prog X.w X.K X.mg X.base k C g m ps (spM dkM X.K 1 fn))(z:PE X o (cM j))(hk:k<=jr:=by decide)(c:m∉WL.fw "Desk":=by decide)(h:eval (.Call (.Attribute o m apos) [] [] cpos) X.env=(do
  let d <-eval o X.env
  standAt apos.atName let(f,first)<-holding [d] (getMethod d m pl)callWith cpos f first (backTo cpos (starEach [] X.env)) (backToKw cpos (keywordEach [] X.env))):=by rfl):PE X (.Call (.Attribute o m apos) [] [] cpos) (vH B (WL.xeW j fn WL.aq)):=by obtain⟨M,E,F,b⟩:=G;refine anr t s c λl ws e=>by cases e;rfl λD A=>PE.imp (mX z cl M F (y.mono hk) b .nil h) λx H Q⟨v,w,a,r,fs,i,u,p,l,F,R,q⟩=>⟨v,w,a,r,fs,i,u,p,q [] H F R Gr.refl rfl⟩
def alP{l r a x rest t p c q s i}(z:B.K=X.K)(D:Room jr X.A)(u:XW X B)(v:X.N.Nodup)(w:X.N[j]?=some a)(h:Loc X.env.scope a)(M:Mk X.K C l)(y:W.nsIn X.K mainGlobals (Str.ofString "Desk")=some (some (.ref C)))(f:ane X.K C)(hw:∀F,RW X.K F q s)(G:afx X.prog X.w X.K X.mg X.base r l ps (alg X.K i s))(E:X.mg x=some (.ref C))(A:PSs X rest (loX dkM B t))(hk:r+1<=jr:=by decide)(I:Gl X x:=by rfl)(d:Dbg x:=by decide)(J:swapsWith (.Call (.Name x p) [] [] cpos) (some (.Name a c)) pos.line X.env=pure false:=by rfl)(H:X.fn a=true\/X.env.scope.names.lookup a=some .local:=by first|exact .inl rfl|exact .inr rfl|assumption):PSs X (.Assign [.Name a c] (.Call (.Name x p) [] [] cpos) pos::rest) (loS B (WL.hJ j (.ok i) q t)):=by obtain⟨K,F,b⟩:=G;exact yS z u y f hw (kT v w h (abG M F (D.mono hk) I E b d) J H) A
end
end WS
set_option autoImplicit true
set_option relaxedAutoImplicit true
namespace WS
open PySem PySem.Spec PyProof.Rows L2
open WL(EF)
def adV{X B e ta}(h:PE X e (loL B (WL.yk ta))):PE X e (loL B (WL.yj ta)):=by rw[WL.acd];exact h
end WS
set_option autoImplicit true
set_option relaxedAutoImplicit true
namespace WS
open PySem PySem.Spec PyProof.Rows L2
open WL(Res Sl Ws EF TF AF LF GF GsF SF Out OX RF Rn AXF Dk XE XT)
def aoi(K:W.Frag)(C f:Addr)(nm a:Str)(st:Stmt):Prop:=Meth K C nm f/\∃b,Fun K nm a st f b
end WS
namespace L2
open PySem PySem.Spec PyProof.Rows
section
variable{X:Cx}
def ajn:V->List V->Hp->VK->Prop:=λx d H Q=>∃l b c a,x=.ref l/\d=[.ref b]/\H l=some (.lst c)/\Rd H b (.lst a)/\c.length+a.length<=sizeLine/\Q .non (upd H l (.lst (c++a)))
def ahD:MtM X "list.extend" ajn:=by
 intro k s D H x J v G Q I w o h;refine aiD h λl b C A i g j p E q=>?_;subst i g;cases w;obtain⟨u,rfl,t⟩:=o.one;cases t;obtain⟨z,c,n,r,B,e⟩:=I.amP j;obtain⟨z2,a,n2,r2,m⟩:=p.ok I.hok;have y:=r2.length;have f:c.toArray.size+a.toArray.size<=sizeLine:=by grind
 have d:¬(!c.toArray.isEmpty&&Builtin.List.listTooLong (c.toArray.size+a.toArray.size))=true:=by rw[aeC f,Bool.and_false];exact apo
 refine aqM F.slot_list_extend ⟨_,e,rfl⟩ F.entry_list_extend (F.args_list_extend_2 _ _) (AutoSeq1.list_extend_list_list_0 l c.toArray n b a.toArray n2 d (by rw[apB];omega) (by omega)) ⟨e,m,.non,_,I.amQ j e (by simp) (r.append r2) ?_,rfl,q⟩;rw[apR];omega
end
end L2
namespace WS
open PySem PySem.Spec PyProof.Rows L2
open WL(Res Sl Ws EF TF AF LF GF GsF SF Out OX RF Rn AXF Dk XE XT)
section
variable{X:Cx}{B:Bx}{st:Stmt}{i:Nat}{ta:EF}
def aiK(E:X.K=B.K)(n:noL X.K=true)(h:PS X st (sP (tBM X.K "list" ajn (cM i) (jy (lo B ta) xu)))):PS X st (loS B (WL.anD i ta)):=PS.imp h λD m H l=>by refine dv l λd F R q=>?_;have q:Oq B D F (match d[i]? with|some (.ow ws)=>WL.ofR d (ta d) _|_=>.bad):=q;cases f:d[i]? with|none=>rw[f]at q;exact q.elim|some sl=>rw[f]at q;cases sl with|no|va _|od _ _|ob=>exact q.elim|ow ws=>
  refine oA (R.ow i ws f) λa x r C z g t=>?_;have q:=Oq.ofR q;refine⟨.ref a,r,.inl ⟨rfl,x,SqL.of g⟩,d,F,R,Rq.mono (aw.refl _) q λw c v G y o e r1=>?_⟩
  cases w with|lst zs=>
  refine oC r1 λb A j u s=>?_;subst j;have c:Oq B D F (if ws.length+zs.length<=WL.lim then Out.nx _ else .bad):=c;by_cases k:ws.length+zs.length<=WL.lim;.rw[apa k]at c;have p:=e.h a _ g;rw[<-E]at u;exact⟨a,b,x,A,rfl,rfl,p,o.rb.sub.rd (SqL.here n u),by rw[<-t.length,<-s.length];exact apb k cH,c m _ y (o.write f r (e.nf a _ g C) z p ((t.keep e.f).app s)) e.f⟩
  .rw[ao9 k]at c;exact(c).elim|_=>exact(show False from c).elim
end
section
variable{X:Cx}{B:Bx}{e o:Expr}{es:List Expr}{pos apos p:Pos}{x m:Str}{ps:List Str}{ds:List Value}{sp:Sp}{t:TA}{j k n:Nat}{c:String}{C f g:Addr}{fn:List VW->Res VW}{tas:AF}{to:EF}{pl:Sem Bool}
def pcX(r:Room j X.A)(G:Cal X.prog X.w X.K X.mg X.base (CXX X.prog X.w) k x ps ds sp)(h:PA X (e::es) t)(hk:k<=j:=by decide)(l:Gl X x:=by rfl)(a:Dbg x:=by decide)(i:SE X e es:=by rfl)(d:BT X pos es:=by rfl):PE X (.Call (.Name x p) (e::es) [] pos) (xx X sp [] t):=by obtain⟨f,s,F,m,q,b,_⟩:=G;exact xQ F (r.mono hk) l m q b .nil h a i d
def meN(w:B.K=X.K)(y:Room j X.A)(r:XW X B)(v:W.nsIn X.K mainGlobals (Str.ofString c)=some (some (.ref C)))(cl:Cls X.K C)(G:oD X.prog X.w X.K X.mg X.base k C g m ps (spX X.K n fn))(z:PE X o (lo B to))(l:PA X (e::es) (loA B tas))(u:∀s ws,tas s=.ok ws->ws.length+1=n:=by first|exact an1|exact an2)(hk:k<=j:=by decide)(a:m∉WL.fw c:=by decide)(d:SE X e es:=by rfl)(h:BT X pos es:=by rfl)(q:eval (.Call (.Attribute o m apos) (e::es) [] pos) X.env=(do
  let i <-eval o X.env
  standAt apos.atName let(f,first)<-holding [i] (getMethod i m pl)callWith pos f first (backTo pos (starEach (e::es) X.env)) (backToKw pos (keywordEach [] X.env))):=by rfl):PE X (.Call (.Attribute o m apos) (e::es) [] pos) (lo B (WL.aO c fn to tas)):=by obtain⟨M,A,F,b⟩:=G;exact PE.imp (l8 z cl M F (y.mono hk) b .nil l d h q) (ye w.symm r v a u)
end
def FinE(K:W.Frag)(x:Addr)(F H:Hp)(E:XK):Res VW->Prop|.ex c=>∀f a e d,aw F d->aw d e->(∀b o,b≠x->H b=some o->e b=some o)->(∀b o,d b=some o->F b=some o\/(b=x\/H b=none)/\NF o)->XR K d c f a->E (.ref f) a e|_=>False
def spE(K:W.Frag)(b:Str)(d:List VW->Res VW):Sp:=λc H Q E=>∃x a C F w v,c=[.ref x,v]/\H x=some (.ins C a [])/\Cls K C/\aI K C b/\F x=none/\aw F H/\RW K F w v/\FinE K x F H E (d [w])
section
variable{P:Program}{w:World}{K:W.Frag}{mg:Str->Option Value}{base:Heap}
def aeS{nm c st f O n0 n1 k s1 s2 ss n f2 I}(Fn:Fun K nm c st f O)(Sc:FnScope [n0,n1] [n0,n1] (ak st))(J:aF st=s1::s2::ss)(h:∀g A a s H E X,X=fB (CXX P w) P w K mg base [n0,n1] c (ak st) f g A a s H E->Room k X.A->PS X s1 (aaj K (cM 0) (cM 1) n)/\PS X s2 (aaj K (cM 0) (xx X (spX K 1 I) [] (jy (cM 1) xu)) f2)):FnOk P w K mg base (CXX P w) (k+1) f O [n0,n1] (spE K n I):=by
 refine afy Fn.ex λoc od a7 a0 pm an g ct a6 M lk N=>?_;subst M;refine rB lk N Sc λvs H Q E j=>by obtain⟨x,R,C,F,w,v,e,_⟩:=j;rw[e];rfl λA a s H vs Q E hr _ j=>?_;refine aok j λx R C F U v e Y cl na hF Z r G=>?_;subst e;obtain⟨X,y⟩:∃X,X=fB (CXX P w) P w K mg base [n0,n1] c (ak st) f g A a s H E:=⟨_,rfl⟩;rw[<-y];obtain⟨h1,h2⟩:=h g A a s H E X y (by rw[y];exact hr);rw[J];have lx:∀i s e m d T l,Thr X i (L2.start [n0,n1] [.ref x,v]) l s e m d .none (some T)->E (.ref m) d l->X.xe (.ref e) s:=λi s e m d T l t q=>by subst y;exact je t q
 refine⟨_,bg h1 (bg h2 (az (B:=⟨K,H,F,λ_ _ _=>False,λ_ _ _ _ _ z=>z⟩))),?_⟩;refine⟨v,rfl,.ref x,rfl,x,C,R,[],rfl,Y,cl,na,by simp,?_⟩;have p1:l7 n v []=[(n,v)]:=rfl;rw[p1];refine⟨v,rfl,E,afA F [U] (λb u q=>by rw[ae λz=>by rw[z,hF]at q;cases q];exact Z b u q) (RWs.one r) rfl ?_,lx⟩;cases S:I [U]with|bad|ok p=>rw[S]at G;exact G.elim|ex ce=>
  rw[S]at G;intro m d l F' s1 s2 s3 fr xr;refine G m d l F' s1 s2 (λb o D q=>s3 b o (by rw[ae D];exact q)) (λb o q=>(fr b o q).imp id λz=>⟨?_,z.2⟩) xr;by_cases D:b=x;.exact .inl D
  .have:=z.1;rw[ae D]at this;exact .inr this
end
section
variable{X:Cx}{B:Bx}{x f1:Str}{C f:Addr}{fd:FuncData}{ps:List Str}{j k:Nat}{fn:List VW->Res VW}{e:Expr}{es:List Expr}{tas:AF}{p pos:Pos}
def mkE(Y:B.K=X.K)(hr:Room j X.A)(hx:XW X B)(M:Mk X.K C f)(cl:Cls X.K C)(na:aI X.K C f1)(G:afx X.prog X.w X.K X.mg X.base k f ps (spE X.K f1 fn))(hm:X.mg x=some (.ref C))(ha:PA X (e::es) (loA B tas))(hk:k+1<=j:=by decide)(hn:∀h ws,tas h=.ok ws->ws.length=1:=by repeat first|exact oq|apply ir)(hg:Gl X x:=by rfl)(a7:Dbg x:=by decide)(he:SE X e es:=by rfl)(a0:BT X pos es:=by rfl):PE X (.Call (.Name x p) (e::es) [] pos) (lo B (WL.agu fn tas)):=by obtain⟨fd,G,hb⟩:=G;refine PE.imp (qL M G (hr.mono hk) hg hm hb .nil ha a7 he a0) λN H Q U=>?_;refine dv U λh F R q=>?_;have q:=Rq.bind q;refine dI h F R ?_;cases ea:tas h with|bad|ex c=>rw[ea]at q;exact q|ok ws=>
 rw[ea]at q;have hl:=hn h ws ea;obtain⟨w,rfl⟩:∃w,ws=[w]:=by match ws,hl with|[w],_=>exact⟨w,rfl⟩
 have q:Rq B h F (match fn [w]with|.ex c=>.ex c|_=>.bad) _:=q;intro vs r g i g1 r1 x S m a6 a8;refine eM (cw r1) λv Z r3=>?_;subst Z;rw[apE];have O:∀b o,r b=some o->b≠x/\upd (upd r S (.own x)) x (.ins C S []) b=some o:=λb o z=>by
  have D:b≠x:=λy=>by rw[y,m]at z;cases z
  have A:b≠S:=λy=>by rw[y,a6]at z;cases z
  exact⟨D,by rw[ae D,ae A];exact z⟩
 refine⟨λJ l K=>∃Ca d c,J=.ref Ca/\RS B h N d K/\B.xp c h d/\XR B.K d c Ca l,?_,λE s e J l T H' t⟨Ca,d,c,ec,R2,xp,xr⟩=>?_⟩
 .refine aol x S C (noI g) w v rfl ah cl na ?_ (λb o z=>?_) ?_ ?_;.cases a:noI g x with|none=>rfl|some u=>have:=i.rb.sub x _ (nv a);rw[m]at this;cases this
  .exact(O b o (i.rb.sub b o (nv z))).2
  .rw[<-Y];exact RW.one ((RWs.one r3).ahJ λb o z=>agd z)
  .cases ef:fn [w]with|bad|ok _=>rw[ef]at q;exact q|ex c=>
    rw[ef]at q;intro J l K d s1 s2 s3 fr xr;have P:aw r K:=λb o z=>s3 b o (O b o z).1 (O b o z).2;have I:∀b o,d b=some o->g b=none->r b=none/\NF o:=λb o z n=>by
     rcases fr b o z with y|⟨y,nf⟩;.rw[nv y]at n;cases n
     .refine⟨?_,nf⟩;rcases y with y|y;.rw[y];exact m
      .cases a:r b with|none=>rfl|some u=>rw[(O b u a).2]at y;cases y
    have g2:Gr g r (jo g d) K:=⟨λb o z=>aan z,P,λb o z n=>by rw[aam n];cases e2:d b with|none=>rfl|some u=>rw[(I b u e2 n).1]at z;cases z⟩;have rb:RB B (jo g d) K:=⟨λb o z=>by cases a:g b with|some u=>rw[aan a]at z;cases z;exact P b _ (i.rb.sub b _ a)|none=>rw[aam a]at z;exact s2 b o z,i.rb.base.trans P,λb o z=>aan (i.rb.fz0 b o z),λb o z=>by cases a:g b with|some u=>rw[aan a]at z;cases z;exact i.rb.fr b _ a|none=>rw[aam a]at z;obtain⟨D,A⟩:=I b o z a;exact .inr ⟨i.rb.base.free D,A⟩⟩;have sj:aw d (jo g d):=λb o z=>by cases a:g b with|none=>rw[aam a];exact z|some u=>have D:=P b _ (i.rb.sub b _ a);have A:=s2 b o z;rw[D]at A;cases A;exact aan a
    exact r9 J (jo g d) c rfl (i.grow g2 rb) (B.mono c h F _ (g1.f.trans g2.f) q) ((Y.symm▸xr).keep sj)
 .cases ec;exact hx E N H' s h d c R2 xp e J l (some T) _ t (by rw[<-Y];exact xr)
end
end WS
set_option autoImplicit true
set_option relaxedAutoImplicit true
namespace WS
open PySem PySem.Spec PyProof.Rows L2
open WL(Res Sl Ws EF TF AF LF GF GsF SF Out OX RF Rn AXF Dk XE XT)
variable{K:W.Frag}{mg:Str->Option Value}{w:World}{P:Program}{base:Heap}{st:Stmt}{nm q:Str}{N:List Str}{m k:Nat}{C f:Addr}
def Rep(K:W.Frag)(c:VW)(u:Value):Prop:=∃v,RelV v u/\∀F,RW K F c v
def abn:Rep K (.int i) (.int i t):=⟨.int i,⟨_,rfl⟩,λ_=>rfl⟩
def abl:Rep K (.str i) (.str i t):=⟨.str i,⟨_,rfl⟩,λ_=>rfl⟩
theorem anI:∀{ws us},Paired (Rep K) ws us->∃c,Vals c us/\∀F,RWs K F ws c|_,_,.nil=>⟨[],.nil,λ_=>rfl⟩|_,_,.cons ⟨v,r,h⟩ t=>by obtain⟨c,a,b⟩:=anI t;exact⟨_,.cons r a,λF=>⟨_,_,rfl,h F,b F⟩⟩
def abm(l:K.lookup a=some ⟨.type "tuple",d,.seq vs n,sl⟩)(g:vs.size<=sizeLine)(h:Paired (Rep K) ws vs.toList):∀F,RW K F (.tup ws) (.ref a):=by obtain⟨e,b,c⟩:=anI h;exact λF=>⟨a,e,rfl,afT l b g F,c F⟩
def abk(l:K.lookup a=some ⟨.type "tuple",d,.seq vs n,sl⟩)(b:vs.size<=sizeLine)(h:Paired (Rep K) ws vs.toList):Rep K (.tup ws) (.ref a):=⟨.ref a,rfl,abm l b h⟩
def Kc(K:W.Frag)(mg:Str->Option Value)(x:Str)(c:VW):Prop:=∃u,mg x=some u/\Rep K c u
section
variable{X:Cx}{B:Bx}
def wkc(a:B.K=X.K)(h:Kc X.K X.mg x c)(d:Gl X x:=by rfl)(b:Dbg x:=by decide):PE X (.Name x pos) (lo B (WL.eC c)):=by obtain⟨u,m,v,r,h⟩:=h;exact wk a m r h d b
def wa1(a:PE X e (lo B ta))(b:SE X e []:=by rfl):PA X [e] (loA B (WL.aa ta WL.aq)):=ag a bB b
def wr(a:PE X e (lo B ta)):PSs X [.Return (some e) pos] (loS B (WL.aY ta)):=ax (jw a)
def wi1(b:PT X c (loT B tt))(d:PSs X a (loS B s1)):PS X (.If c a [] pos) (loS B (WL.sIf tt s1 WL.sNx)):=u7 b d mu
def wln(s:X.K=B.K)(g:X.mg "len"=none)(c:PE X e (lo B ta))(d:Gl X "len":=by rfl)(b:SE X e []:=by rfl)(a:BT X pos []:=by rfl):PE X (.Call (.Name "len" p) [e] [] pos) (lo B (WL.eBi WL.gE (WL.aa ta WL.aq))):=wB rW (ag0 s) g arF (ag c bB b) d (by decide) (rfl) b a
def weq(s:X.K=B.K)(e:X.A.units+64<cLine)(c:PE X a (lo B ta))(d:PE X b (lo B tb)):PE X (.Compare a [.Eq] [b] pos) (lo B (WL.eOp WL.oEq ta tb)):=aaG calm_eq (w_eq s e) c d (bz _)
def wad(s:X.K=B.K)(c:PE X a (lo B ta))(d:PE X b (lo B tb)):PE X (.BinOp a .Add b pos) (lo B (WL.eOp WL.iC ta tb)):=cJ mh (w_add s) c d
def wmo(c:PE X a (lo B ta))(d:PE X b (lo B tb)):PE X (.BinOp a .Mod b pos) (lo B (WL.eOp WL.oMod ta tb)):=cJ yD w_mod c d
def wco(x)(e:X.calm=true)(d:PI X tg iter (loI B it))(h:∀C a b c,PE (X.comp scope C [x] a b c) elt (lo B.calm ta))(L:CompLook X scope:=by exact⟨rfl,rfl,rfl,rfl,rfl⟩)(g:∀C a b c,PG (X.comp scope C [x] a b c) tg (loG true B.calm (WL.aN 0)):=by exact λ_ _ _ _=>gN 0)(i:∀x,foldedSetIterable iter X.env x=pure x:=by intro _;rfl):PE X (.ListComp elt [⟨tg,iter,[],0⟩] scope pos) (lo B (WL.gB 1 it (WL.aN 0) WL.oH ta)):=aaF L e rfl (cI (by simp)) d g (λ_ _ _ _=>mx) h i
def wfn(n)(s:X.K=B.K)(b:W.nsIn X.K mainGlobals (Str.ofString c)=some (some (.ref C)))(cl:Cls X.K C)(d:aI X.K C fl)(e:PE X o (lo B to))(nd:(WL.fw c).Nodup:=by decide)(a:(WL.fw c)[n]?=some fl:=by rfl)(g:attributeBase o fl X.env (eval o X.env)=eval o X.env:=by rfl):PE X (.Attribute o fl pos) (lo B (WL.cK c n to)):=agU s b cl d nd a e g
structure VV(X:Cx)(x:Str)(i:Nat):Prop where
 n:X.N[i]?=some x
 v:Vis X.env.scope x
 d:Dbg x
 c:(x=="__classdict__")=false
def VV.e(h:VV X x i):PE X (.Name x pos) (lo B (WL.ai i)):=va i h.n h.v h.d h.c
def v0(h:VV X x 0:=by first|exact⟨rfl,Or.inl rfl,by decide,by decide⟩|exact⟨rfl,Or.inr (Or.inl rfl),by decide,by decide⟩|exact⟨rfl,Or.inr (Or.inr rfl),by decide,by decide⟩):PE X (.Name x pos) (lo B (WL.ai 0)):=h.e
def v1(h:VV X x 1:=by first|exact⟨rfl,Or.inl rfl,by decide,by decide⟩|exact⟨rfl,Or.inr (Or.inl rfl),by decide,by decide⟩|exact⟨rfl,Or.inr (Or.inr rfl),by decide,by decide⟩):PE X (.Name x pos) (lo B (WL.ai 1)):=h.e
def v2(h:VV X x 2:=by first|exact⟨rfl,Or.inl rfl,by decide,by decide⟩|exact⟨rfl,Or.inr (Or.inl rfl),by decide,by decide⟩|exact⟨rfl,Or.inr (Or.inr rfl),by decide,by decide⟩):PE X (.Name x pos) (lo B (WL.ai 2)):=h.e
def v3(h:VV X x 3:=by first|exact⟨rfl,Or.inl rfl,by decide,by decide⟩|exact⟨rfl,Or.inr (Or.inl rfl),by decide,by decide⟩|exact⟨rfl,Or.inr (Or.inr rfl),by decide,by decide⟩):PE X (.Name x pos) (lo B (WL.ai 3)):=h.e
def v4(h:VV X x 4:=by first|exact⟨rfl,Or.inl rfl,by decide,by decide⟩|exact⟨rfl,Or.inr (Or.inl rfl),by decide,by decide⟩|exact⟨rfl,Or.inr (Or.inr rfl),by decide,by decide⟩):PE X (.Name x pos) (lo B (WL.ai 4)):=h.e
end
abbrev cN(P:Program)(w:World)(K:W.Frag)(mg:Str->Option Value)(base:Heap)(N:List Str)(q:Str)(st:Stmt)(f:Addr)(b:Value)(A:Around)(a:List Env)(s:Shared)(H:Hp)(E:XK):Cx:=(fB CX0 P w K mg base N q (ak st) f b A a s H E).nox
abbrev cX(P:Program)(w:World)(K:W.Frag)(mg:Str->Option Value)(base:Heap)(N:List Str)(q:Str)(st:Stmt)(f:Addr)(b:Value)(A:Around)(a:List Env)(s:Shared)(H:Hp)(E:XK):Cx:=fB (CXX P w) P w K mg base N q (ak st) f b A a s H E
abbrev Go(k:Nat)(st:Stmt)(X:Cx)(B:Bx)(t:TS):Prop:=B.K=X.K->X.K=B.K->Room k X.A->X.A.units+64<cLine->XW X B->PassesOwn (model X.prog X.w) X.A X.env X.xe->X.N.Nodup->PSs X (aF st) t
abbrev BdN(nm a:Str)(ps:List Str)(st:Stmt):Prop:=∀kV d e g c ct b,b.length=ps.length->bindArgs (W.fnOf nm a (bf st) (aF st) (ak st) .none kV d e g c ct) ⟨b,[]⟩=pure (ps.zip b)
structure Hd(w:World)(mg:Str->Option Value)(nm qual:Str)(st:Stmt)(N:List Str)(m:Nat):Prop where
 sc:FnScope N (N.take m) (ak st)bd:BdN nm qual (N.take m) st
 le:m<=N.length
def Hd.lp(D:Hd w mg nm q st N m):(N.take m).length=m:=by simp[D.le]
def Hd.ln(D:Hd w mg nm q st N m):(N.take m).length<=N.length:=by grind
def AtG(w:World)(K:W.Frag)(mg:Str->Option Value)(nm a:Str)(st:Stmt)(N:List Str)(m:Nat):Prop:=MgA K mg/\Hd w mg a a st N m/\∃f b,Fun K a a st f b/\W.nsIn K mainGlobals nm=some (some (.ref f))
def AtG.cal(D:AtG w K mg nm q st N m)(h:∀f b,Fun K q q st f b->FnOk P w K mg base CX k f b (N.take m) sp):Cal P w K mg base CX k nm (N.take m) [] sp:=by obtain⟨g,c,f,b,F,a⟩:=D;exact⟨f,b,h f _ F,g _ _ a,F.kp,F.binds c.bd,F.binds c.bd⟩
def AtG.dN(D:AtG w K mg nm q st N m)(P base k t)(h:∀{f d A a s H E B},Go k st (cN P w K mg base N q st f d A a s H E) B (loS B t)):Cal P w K mg base CX0 (k+1) nm (N.take m) [] (spW K m (WL.run N.length t)):=D.cal λf g e=>acX t e D.2.1.sc rfl D.2.1.lp rfl D.2.1.ln λd A a s H E B b r c p=>h b b.symm r r.units c p D.2.1.sc.nd
def AtG.dX(D:AtG w K mg nm q st N m)(P base k t)(h:∀{f d A a s H E B},Go k st (cX P w K mg base N q st f d A a s H E) B (loS B t)):Cal P w K mg base (CXX P w) (k+1) nm (N.take m) [] (spX K m (WL.run N.length t)):=D.cal λf g e=>rN t e D.2.1.sc rfl D.2.1.lp rfl D.2.1.ln λd A a s H E B b r c p=>h b b.symm r r.units c p D.2.1.sc.nd
abbrev AtF(w:World)(K:W.Frag)(mg:Str->Option Value)(nm:Str)(st:Stmt)(N:List Str)(m:Nat):Prop:=AtG w K mg nm nm st N m
def akZ{kV g i d ct K h mg}(j:K.In h)(G:h.Ns mainGlobals mg)(a:W.nsIn K mainGlobals nm=some (some (.ref f)))(l:K.lookup f=some ⟨oc,od,.func (W.fnOf fn fn (bf st) (aF st) (ak st) .none kV g i an d ct),osl⟩)(c:W.codeIn K d fn=true)(q:W.keepIn K (.ref f)=true)(S:FnScope N (N.take m) (ak st))(b:BdN fn fn (N.take m) st)(e:m<=N.length):AtG w K mg nm fn st N m:=⟨λ_ _=>W.mg_of j G,⟨S,b,e⟩,f,_,uq l c q,a⟩
def uX(w:World)(K:W.Frag)(mg:Str->Option Value)(C f:Addr)(nm a:Str)(st:Stmt)(N:List Str)(m:Nat):Prop:=Meth K C nm f/\(∃b,Fun K nm a st f b)/\Hd w mg nm a st N m
def uX.cal(D:uX w K mg C f nm q st N m)(h:∀a,Fun K nm q st f a->FnOk P w K mg base (CXX P w) k f a (N.take m) sp):oD P w K mg base k C f nm (N.take m) sp:=vD D.1 D.2.1 D.2.2.bd h
def uX.dX(D:uX w K mg C f nm q st N m)(P base k t)(h:∀{d A a s H E B},Go k st (cX P w K mg base N q st f d A a s H E) B (loS B t)):oD P w K mg base (k+1) C f nm (N.take m) (spX K m (WL.run N.length t)):=D.cal λg e=>rN t e D.2.2.sc rfl D.2.2.lp rfl D.2.2.ln λd A a s H E B b r c p=>h b b.symm r r.units c p D.2.2.sc.nd
def uX.dM{S}{M:Rsc S}(D:uX w K mg C f nm q st N m)(P base k t)(h:∀{d A a s H E B},Go k st (cX P w K mg base N q st f d A a s H E) B (loX M B t)):oD P w K mg base (k+1) C f nm (N.take m) (spM M K m (WL.runM N.length t)):=D.cal λg e=>ah4 t e D.2.2.sc rfl D.2.2.lp rfl D.2.2.ln λd A a s H E B b r c p=>h b b.symm r r.units c p D.2.2.sc.nd
end WS
namespace WS
open PySem PySem.Spec PyProof.Rows L2
def al4:List Expr->Option (List Str)|[]=>some []|.Constant (.str x) _ _::es=>(al4 es).map (x::.)|_=>none
theorem was{X:Cx}{B:Bx}:∀{es xs},al4 es=some xs->PA X es (loA B (WL.uW xs))
|[],xs,h=>by cases h;exact bB|e::es,xs,h=>by
 unfold al4 at h;split at h;.next q=>cases q
 .next q=>cases q;obtain⟨c,b,a⟩:=apr.mp h;subst a;exact ag ao (was b)
 .cases h
end WS
namespace WL
open PySem
section
variable{α β:Type}
@[simp]def js(a)(f:α->Res β):(Res.ok a).bind f=f a:=(rfl)
@[simp]def anM(b)(a)(f:α->Out):ofR b (.ok a) f=f a:=(rfl)
@[simp]def anN(a)(c)(f):ofR a (.ex c:Res α) f=.ex c a:=(rfl)
end
noncomputable def amW:Option Sl->Res W|some (.va w)=>.ok w|_=>.bad
@[simp]def amV(w):amW (some (.va w))=.ok w:=(rfl)
@[simp]def am4(i:Nat)(a:Ws):ai i a=amW a[i]?:=by unfold ai amW;split<;>simp_all
@[simp]def aoU(w)(a):eC w a=.ok w:=(rfl)
@[simp]def aob(r)(a b)(c):eOp r a b c=(a c).bind λx=>(b c).bind λy=>r x y:=(rfl)
@[simp]def an9(r)(a)(b):eUn r a b=(a b).bind r:=(rfl)
@[simp]def anu(b):toB (.bl b)=.ok b:=(rfl)
@[simp]def aoy(e)(a):tB e a=(e a).bind toB:=(rfl)
@[simp]def al2(a b)(c):sQ a b c=(a c).bind λx=>if x=true then b c else .ok false:=by unfold sQ;congr 1;funext x;cases x<;>rfl
@[simp]def anw(a b)(c):tOr a b c=(a c).bind λx=>if x=true then .ok true else b c:=by unfold tOr;congr 1;funext x;cases x<;>rfl
@[simp]def alY(a)(b):i9 a b=(a b).bind λx=>.ok !x:=(rfl)
@[simp]def anl(a):aq a=.ok []:=(rfl)
@[simp]def alJ(e)(a)(b):aa e a b=(e b).bind λx=>(a b).bind λc=>.ok (x::c):=(rfl)
@[simp]def am5(a)(b):ik a b=(a b).bind λc=>if c.length<=lim then .ok (.tup c)else .bad:=(rfl)
@[simp]def am7(a)(b):iZ a b=(a b).bind λc=>if c.length<=lim then .ok (.lst c)else .bad:=(rfl)
noncomputable def afp{α}:Res α->Res α|.ok a=>.ok a|_=>.bad
@[simp]def alG{α}(a:α):afp (.ok a)=.ok a:=(rfl)
@[simp]def alC(f)(a)(b):aH f a b=(a b).bind λws=>afp (f ws):=by unfold aH;congr 1;funext ws;cases f _<;>rfl
@[simp]def akI(f)(a)(b):aM f a b=(a b).bind f:=(rfl)
@[simp]def aoe(f)(a)(b):eBi f a b=(a b).bind f:=(rfl)
@[simp]def am6(T:String)(r:W->List W->Res W)(o:EF)(a:AF)(b:Ws):me T r o a b=(o b).bind λx=>if ace x==T then(a b).bind λws=>r x ws else .bad:=(rfl)
@[simp]def akd(x:Str):ace (.str x)="str":=(rfl)
def aof(o:Option (List W×List W)):Res W:=match o with|some (ks,vs)=>if bS ks&&decide (ks.length<=15)then .ok (.dic ks vs)else .bad|none=>.bad
@[simp]def akN(ks vs:List W):aof (some (ks,vs))=if bS ks&&decide (ks.length<=15)then .ok (.dic ks vs)else .bad:=(rfl)
@[simp]def am8(a:AF)(b:Ws):alB a b=(a b).bind λc=>aof (gZ c):=(rfl)
@[simp]def anK(a):pNo a=.ok none:=(rfl)
noncomputable def toI:W->Res (Option Int)|.int i=>.ok (some i)|_=>.bad
@[simp]def alV(i):toI (.int i)=.ok (some i):=(rfl)
@[simp]def ali(e:EF)(a:Ws):hU e a=(e a).bind toI:=by unfold hU;congr 1
@[simp]def aoa(e)(lo b)(a):eSl e lo b a=(e a).bind λx=>(lo a).bind λl=>(b a).bind λh=>oSl x l h:=(rfl)
@[simp]def alp(xs ys:List W):iC (.lst xs) (.lst ys)=if xs.length+ys.length<=lim then .ok (.lst (xs++ys))else .bad:=(rfl)
@[simp]def alk(i j):aak (.int i) (.int j)=.ok (.int (i-j)):=(rfl)
def aez(i j):zp (.int i) (.int j)=if -2^64<i/\i<2^64\/-2^64<j/\j<2^64 then .ok (.int (i*j))else .bad:=(rfl)
def ajT(i){j}(b:-18446744073709551616<j)(a:j<18446744073709551616):zp (.int i) (.int j)=.ok (.int (i*j)):=by rw[aez,apa];exact .inr ⟨by omega,by omega⟩
@[simp]def alo(i j):oDiv (.int i) (.int j)=if 0<j/\j<10^100 then .ok (.int (i/j))else .bad:=(rfl)
@[simp]def aln(i j):oMod (.int i) (.int j)=if 0<j then .ok (.int (i%j))else .bad:=(rfl)
@[simp]def alm(i):u1 (.int i)=.ok (.int (-i)):=(rfl)
@[simp]def amA(i j):oLt (.int i) (.int j)=.ok (.bl (decide (i<j))):=(rfl)
@[simp] def amE (i j:Int):oEq (.int i) (.int j)=.ok (.bl (decide (i=j))):=by show Res.ok (W.bl (i==j))=_;rw[arj]
@[simp] theorem anP (a b:Bool):oEq (.bl a) (.bl b)=.ok (.bl (a==b)):=rfl
@[simp]def anO(a b:Bool):oNe (.bl a) (.bl b)=.ok (.bl (a !=b)):=rfl
@[simp]def amC(xs)(i):oIx (.lst xs) (.int i)=ofO (atI xs i):=(rfl)
@[simp]def amB(xs)(i):oIx (.tup xs) (.int i)=ofO (atI xs i):=(rfl)
@[simp]def amy(xs)(l h):oSl (.lst xs) l h=.ok (.lst (cut xs l h)):=(rfl)
def ads{α}(xs:List α)(k:Nat):atI xs k=xs[k]?:=by
 unfold atI ixN;by_cases h:k<xs.length;.rw[apa (by simp),apa (by omega)];simp
 .rw[apa (by simp),ao9 (by omega)];simp;omega
@[simp]def anj{α}(xs:List α)(k):atI xs no_index(@OfNat.ofNat Int k _)=xs[k]?:=ads _ k
@[simp]def alH(xs):gE [.lst xs]=.ok (.int xs.length):=(rfl)
noncomputable def oB(o:Option Bool):Res W:=match o with|some b=>.ok (.bl b)|none=>.bad
@[simp]def amF(b):oB (some b)=.ok (.bl b):=(rfl)
@[simp]def aiy(x:W)(t:String):cq [x,.ty t]=oB (isK x t):=by cases h:isK x t<;>simp[cq,oB,h]
@[simp]def anh(xs):afr [.lst xs]=oB (allB xs):=rfl
def ami:W->Res (List W)|.int j=>if -2^62<=j/\j<2^62 then .ok (rng 0 j.toNat)else .bad|_=>.bad
@[simp]def als(e:EF)(a:Ws):gz e a=(e a).bind ami:=by unfold gz ami;congr 1
@[simp] def aim (lo ) (n ):(rng lo n).length=n:=by simp[rng]
@[simp] theorem alw (i ) (w ) (a ):aN i w a=.ok (a.set i (.va w)):=(rfl)
@[simp]def alv(a):adI [] a=.ok a:=(rfl)
@[simp]def aiu(g)(b)(w)(r)(d):iE g b (w::r) d=(afp (g w d)).bind λe=>afp (b r e):=by show(match g w d with|.ok _=>(match b r _ with|.ok _=>Res.ok _|_=>.bad)|_=>.bad)=_;cases g w d with|ok a=>simp ;cases b r a<;>rfl|ex c|bad=>rfl
@[simp]def alu(b)(ws)(a):adH b (.tup ws) a=b ws a:=(rfl)
noncomputable def amZ(a:Ws)(i:Nat):Option Sl->Ws|some (.ow ws)=>a.set i (.va (.lst ws))|some (.od ks vs)=>a.set i (.va (.dic ks vs))|_=>a
@[simp]def anY(i:Nat)(a:Ws):frz i a=amZ a i a[i]?:=by unfold frz amZ;split<;>simp_all
@[simp]def amY(a:Ws)(i:Nat)(ks vs:List W):amZ a i (some (.od ks vs))=a.set i (.va (.dic ks vs)):=(rfl)
@[simp]def aju(i):plain (.int i)=true:=(rfl)
@[simp]def ajt(b):plain (.str b)=true:=(rfl)
@[simp]def aio:mW []=true:=(rfl)
@[simp]def ahn(x:W)(xs:List W):mW (x::xs)=(plain x&&mW xs):=(rfl)
noncomputable def aje(o:Out)(b:SF):Out:=match o with|.nx σ'=>b σ'|o=>o
@[simp]def al8(a)(b):aje (.nx a) b=b a:=(rfl)
@[simp]def al7(w)(b):aje (.rt w) b=.rt w:=(rfl)
@[simp]def amc(a b)(c):aB a b c=aje (a c) b:=(rfl)
@[simp]def anB(a):sNx a=.nx a:=(rfl)
@[simp]def amb(i)(e)(a):bh i e a=ofR a (e a) λw=>.nx (a.set i (.va w)):=(rfl)
@[simp]def amg(e:EF)(g:GF)(a:Ws):amh e g a=ofR a (e a) λw=>ofR a (g w a) λb=>.nx b:=(rfl)
@[simp]def anC(t)(a b)(c):sIf t a b c=ofR c (t c) λx=>if x=true then a c else b c:=by unfold sIf;congr 1;funext x;cases x<;>rfl
@[simp]def amd(e)(a):aY e a=ofR a (e a) λw=>.rt w:=(rfl)
@[simp]def alh(e)(a):zd e a=ofR a (e a) λ_=>.nx a:=(rfl)
@[simp]def ame(it)(g)(b)(a):sY it g b a=ofR a (it a) λc=>forL g b c a:=(rfl)
@[simp]def al9(c)(a)(b):aje (.ex c a) b=.ex c a:=(rfl)
@[simp]def alU(x:Str):aiZ [.str x]=decide (x.length<=5000):=(rfl)
@[simp]def ajg(nm:String)(a:AF)(b:Ws):jA nm a b=ofR b (a b) λws=>if aiZ ws=true then .ex (.exc nm []) b else .bad:=(rfl)
noncomputable def fin:Out->Res W|.rt w=>.ok w|.nx _=>.ok .non|.ex c _=>.ex c|_=>.bad
@[simp]def an5(w):fin (.rt w)=.ok w:=(rfl)
@[simp]def an6(c)(a):fin (.ex c a)=.ex c:=(rfl)
@[simp]def run_eq(n:Nat)(t:SF)(ws:List W):run n t ws=fin (t (ws.map .va++List.replicate (n-ws.length) .no)):=by unfold run fin;rfl
@[simp]def anU:lim=1000000:=(rfl)
noncomputable def aj2(o:Out)(k:SF):Out:=match o with|.nx σ2=>k σ2|.ct σ2=>k σ2|.bk σ2=>.nx σ2|o=>o
@[simp]def alq(c:W)(a:Ws)(k:SF):aj2 (.ex c a) k=.ex c a:=(rfl)
def acz(g)(b)(x)(xs)(c):forL g b (x::xs) c=ofR c (g x c) λa=>aj2 (b a) (forL g b xs):=rfl
end WL
namespace ML
open PySem WL
theorem toNat_inj{a b:Char}(h:a.toNat=b.toNat):a=b:=Char.ext (UInt32.toNat_inj.mp h)
@[simp]def agb(a b):(Str.ofString a=Str.ofString b)=(a=b):=by
 apply propext;constructor
 .intro h;rw[Str.ofString_eq_toList,Str.ofString_eq_toList]at h;have c:a.toList.map Char.toNat=b.toList.map Char.toNat:=by grind
  exact String.toList_inj.mp (List.map_inj_right (λ_ _=>toNat_inj)|>.mp c)
 .intro h;rw[h]
@[simp] def amD (a b:Str):oEq (.str a) (.str b)=.ok (.bl (decide (a=b))):=by show Res.ok (W.bl (a==b))=_;rw[arj]
@[simp] theorem amz (a b:Str):oNe (.str a) (.str b)=.ok (.bl (!decide (a=b))):=by show Res.ok (W.bl !(a==b))=_;rw[arj]
def yG{α}(xs:List α):atI xs (-1)=xs.getLast?:=by unfold atI ixN;cases xs with|nil=>rfl|cons x xs=>
 have h:¬0 <=-1:=by omega
 rw[ao9 h];have a:-((x::xs).length:Int)<=-1:=by grind
 rw[apa a];simp only[aqO,ar3];congr 1;omega
end ML
namespace K86
open PySem WL
noncomputable def lA:W:=.int 12
noncomputable def ly:W:=.int 6
noncomputable def lz:W:=.int 8
noncomputable def bU:W:=.int 9
noncomputable def i0:W:=.int 9
noncomputable def adl:W:=.tup [.str "none",.str "any",.str "same",.str "left",.str "about",.str "right",.str "partner",.str "opposite"]
noncomputable def lB:W:=.tup [.str "head",.str "side",.str "lefts",.str "rights",.str "inward",.str "outward",.str "sideways"]
noncomputable def i7:W:=.tup [.str "ahead",.str "back",.str "left",.str "right"]
noncomputable def ql:W:=.tup [.str "left",.str "right",.str "about"]
noncomputable def il:W:=.int 60
noncomputable def i6:W:=.int 8
noncomputable def uQ:W:=.str "abcdefghijklmnopqrstuvwxyz"
noncomputable def agv:W:=.tup [.str "times",.str "heads",.str "sides",.str "lefts",.str "rights",.str "inner",.str "couples"]
noncomputable def gv:W:=.tup [.tup [.int (-1),.int (-3),.int 0],.tup [.int 1,.int (-3),.int 0],.tup [.int 3,.int (-1),.int 1],.tup [.int 3,.int 1,.int 1],.tup [.int 1,.int 3,.int 2],.tup [.int (-1),.int 3,.int 2],.tup [.int (-3),.int 1,.int 3],.tup [.int (-3),.int (-1),.int 3]]
noncomputable def bV:W:=.int 8
noncomputable def kA:W:=.int 200
noncomputable def wF:W:=.tup [.tup [.int 0,.int 1],.tup [.int (-1),.int 0],.tup [.int 0,.int (-1)],.tup [.int 1,.int 0]]
noncomputable def fD:W:=.int 4
noncomputable def r0:W:=.dic [.str "same",.str "left",.str "about",.str "right"] [.int 0,.int 1,.int 2,.int 3]
noncomputable def yE:W:=.tup [.str "inward",.str "outward",.str "sideways"]
noncomputable def lu:W:=.int 60
noncomputable def oj:W:=.int 6
noncomputable def adm:W:=.tup [.str "heads",.str "sides",.str "lefts",.str "rights"]
noncomputable def cf:W:=.int 400
noncomputable def aid:W:=.dic [.str "heads",.str "sides",.str "lefts",.str "rights"] [.tup [.str "head"],.tup [.str "side"],.tup [.str "lefts"],.tup [.str "rights"]]
noncomputable def jq:W:=.int 60
noncomputable def jT:W:=.int 12
noncomputable def lY:W:=.ins "Book" [.dic [] []]
def sN:SF:=aB (sIf (tOr (i9 (tB (eBi cq (aa (ai 0) (aa (eC (.ty "str")) aq))))) (i9 (tB (qj oLe oLe (eI 1) (eBi aad (aa (ai 0) aq)) (eC i6))))) (aY (eC (.bl false))) sNx) (aY (afc (eOp hX (ai 0) (eC agv)) (eBi afr (aa (gB 1 (anW (ai 0)) (aN 0) oH (eOp ajU (ai 0) (eC uQ))) aq))))
def acJ:List W->Res W:=run 1 sN
def jO:SF:=sIf (tB (eOp oEq (eBi r6 (aa (ai 3) aq)) (ai 0))) (aY (ai 3)) sNx
def mL:SF:=aB (sY (vM (ai 1) (eOp iC (ai 2) (eI 1))) (aN 3) jO) (aY (eC .non))
def jj:List W->Res W:=run 4 mL
def dZ:SF:=aB (bh 3 (aH jj (aa (ai 0) (aa (ai 1) (aa (ai 2) aq))))) (aB (sIf (tB (eOp oIs (ai 3) (eC .non))) (bM "NoCall" (aa (eFf (ai 1)) (aa (eFf (ai 2)) (aa (eFr (ai 0)) aq)))) sNx) (aY (ai 3)))
def cG:List W->Res W:=run 4 dZ
def mH:SF:=aB (sIf (sQ (tB (eOp oEq (ai 0) (eS "turn"))) (tB (eOp oIn (ai 1) (eC ql)))) (aY (ik (aa (ai 0) (aa (ai 1) aq)))) sNx) (aB (sIf (tB (eOp hX (ai 0) (eC i7))) (bM "NoCall" (aa (eFr (ai 0)) (aa (eFr (ai 1)) aq))) sNx) (aY (ik (aa (ai 0) (aa (aM cG (aa (ai 1) (aa (eI 1) (aa (eC i0) aq)))) aq)))))
def vU:List W->Res W:=run 2 mH
def kK:SF:=aB (sIf (tB (eOp oEq (ai 0) (eS "stay"))) (aY (ik (aa (ik (aa (eS "stay") aq)) aq))) sNx) (aB (bh 1 (me "str" fq (ai 0) (aa (eS " ") aq))) (aB (sIf (tOr (tB (eOp oNe (eOp oMod (eBi gE (aa (ai 1) aq)) (eI 2)) (eI 0))) (tB (eOp oGt (eBi gE (aa (ai 1) aq)) (eOp zp (eI 2) (eC lz))))) (bM "NoCall" (aa (eFr (ai 0)) aq)) sNx) (aY (eBi lC (aa (uz 1 (aeX (eI 0) (eBi gE (aa (ai 1) aq))) (aN 0) oH (aM vU (aa (eOp oIx (ai 2) (ai 0)) (aa (eOp oIx (ai 2) (eOp iC (ai 0) (eI 1))) aq)))) aq)))))
def lh:List W->Res W:=run 2 kK
def sJ:SF:=aB (sIf (tOr (tB (eOp oNe (eBi gE (aa (ai 0) aq)) (eI 4))) (tB (eOp hX (eOp oIx (ai 0) (eI 3)) (eC adl)))) (bM "NoCall" (aa (eFr (ai 0)) aq)) sNx) (aB (bh 1 (aM cG (aa (eOp oIx (ai 0) (eI 1)) (aa (eUn u1 (eC bU)) (aa (eC bU) aq))))) (aB (bh 2 (aM cG (aa (eOp oIx (ai 0) (eI 2)) (aa (eUn u1 (eC bU)) (aa (eC bU) aq))))) (aB (sIf (sQ (tB (eOp oEq (ai 1) (eI 0))) (tB (eOp oEq (ai 2) (eI 0)))) (jA "NoCall" (aa (eS "a test of the dancer's own spot") aq)) sNx) (aY (ik (aa (eS "at") (aa (ai 1) (aa (ai 2) (aa (eOp oIx (ai 0) (eI 3)) aq)))))))))
def acG:List W->Res W:=run 3 sJ
def kM:SF:=aB (sIf (tB (eOp oNe (eBi gE (aa (ai 0) aq)) (eI 2))) (bM "NoCall" (aa (eFr (ai 0)) aq)) sNx) dh
def uv:List W->Res W:=run 1 kM
def fg:SF:=aB (sIf (tB (eOp oEq (eOp oIx (ai 0) (eI 0)) (eS "at"))) (aY (aM acG (aa (ai 0) aq))) sNx) (aB (sIf (tB (eOp oEq (eOp oIx (ai 0) (eI 0)) (eS "inner"))) (aY (aM uv (aa (ai 0) aq))) sNx) (aB (sIf (tOr (tB (eOp oNe (eBi gE (aa (ai 0) aq)) (eI 1))) (tB (eOp hX (eOp oIx (ai 0) (eI 0)) (eC lB)))) (bM "NoCall" (aa (eFr (ai 0)) aq)) sNx) (aY (ik (aa (eOp oIx (ai 0) (eI 0)) aq)))))
def fy:List W->Res W:=run 1 fg
def mG:SF:=aB (bh 1 (me "str" fq (ai 0) (aa (eS " ") aq))) (aB (sIf (sQ (tB (eOp oGt (eBi gE (aa (ai 1) aq)) (eI 1))) (tB (eOp oEq (eOp oIx (ai 1) (eI 0)) (eS "not")))) (aY (ik (aa (eS "not") (aa (aM fy (aa (eSl (ai 1) (hU (eI 1)) pNo) aq)) aq)))) sNx) (aY (aM fy (aa (ai 1) aq))))
def vT:List W->Res W:=run 2 mG
def kJ:SF:=aB (bh 1 (me "str" fq (ai 0) (aa (eS " and ") aq))) (aB (sIf (tB (eOp oGt (eBi gE (aa (ai 1) aq)) (eC ly))) dh sNx) (aY (eBi lC (aa (uz 1 (se (ai 1)) (aN 0) oH (aM vT (aa (ai 0) aq))) aq))))
def uu:List W->Res W:=run 2 kJ
def mI:SF:=aB (sIf (tB (me "str" jc (ai 0) (aa (eS "> ") aq))) (aY (ik (aa (ik aq) (aa (aM lh (aa (eOp vy (ai 0) (eI 2)) aq)) aq)))) sNx) (aB (bh 1 (me "str" jM (ai 0) (aa (eS " > ") aq))) (aB (sIf (tB (eOp oEq (eOp oIx (ai 1) (eI 1)) (eS ""))) (bM "NoCall" (aa (eFr (ai 0)) aq)) sNx) (aY (ik (aa (aM uu (aa (eOp oIx (ai 1) (eI 0)) aq)) (aa (aM lh (aa (eOp oIx (ai 1) (eI 2)) aq)) aq))))))
def vV:List W->Res W:=run 2 mI
def mK:SF:=aB (sIf (i9 (tB (eBi cq (aa (ai 0) (aa (eC (.ty "str")) aq))))) dh sNx) (aB (bh 1 (me "str" fq (ai 0) (aa (eS " ; ") aq))) (aB (sIf (tB (eOp oGt (eBi gE (aa (ai 1) aq)) (eC lA))) dh sNx) (aY (uz 1 (se (ai 1)) (aN 0) oH (aM vV (aa (ai 0) aq))))))
def vX:List W->Res W:=run 2 mK
def yi:SF:=sIf (i9 (tB (aH acJ (aa (ai 2) aq)))) (bM "NoName" (aa (eFr (ai 2)) aq)) sNx
def aa4:SF:=sIf (tB (eOp oGt (eBi aad (aa (ai 1) aq)) (eC il))) (bM "TooMany" (aa (eFf (eC il)) aq)) sNx
def aa3:SF:=sY (ait 1) (aN 2) yi
def aaP:EF:=aM vX (aa (eOp oIx (ai 1) (ai 2)) aq)
def fA:List W->Res W:=anF aa4 aa3 aaP
def kO:SF:=sNx
def lb:LF:=yj (acT "Book" (ai 0))
def eV:List W->Res W:=af0 1 kO lb
def iP:SF:=aB (sIf (i9 (tL (cK "Desk" 3 (ai 0)))) (jA "NoName" (aa (eS "no run and no home that is not taken back") aq)) sNx) dh
def oY:List W->Res W:=run 1 iP
def gS:SF:=aY (me "str" rl (eS ",") (aa (gB 1 (se (ai 0)) (aN 0) oH (eBi r6 (aa (ai 0) aq))) aq))
def ie:List W->Res W:=run 1 gS
def mF:SF:=aY (me "str" rl (eS " ") (aa (gB 1 (se (ai 0)) (aN 0) oH (aH ie (aa (ai 0) aq))) aq))
def nS:List W->Res W:=run 1 mF
def mD:SF:=aY (eIf (tB (ai 0)) (eS "yes") (eS "no"))
def vS:List W->Res W:=run 1 mD
def iJ:SF:=aY (ik (aa (eUn u1 (eOp oIx (ai 0) (eI 1))) (aa (eOp oIx (ai 0) (eI 0)) (aa (eOp oMod (eOp iC (eOp oIx (ai 0) (eI 2)) (eI 1)) (eC fD)) aq))))
def oV:List W->Res W:=run 1 iJ
def pY:SF:=bh 2 (eBi lC (aa (gB 1 (se (ai 2)) (aN 0) oH (aH oV (aa (ai 0) aq))) aq))
def xo:SF:=aB (bh 2 (ai 0)) (aB (sY (gz (eOp oMod (ai 1) (eC fD))) (aN 3) pY) (aY (ai 2)))
def ae7:List W->Res W:=run 4 xo
def afP:SF:=aY (eBi adp (aa (gB 1 (gz (eC fD)) (aN 0) oH (aH ae7 (aa (ai 1) (aa (ai 0) aq)))) aq))
def agp:List W->Res W:=run 1 afP
def sI:SF:=aY (ik (aa (eOp oIx (ai 0) (eI 0)) (aa (eOp oIx (ai 0) (eI 1)) aq)))
def nQ:List W->Res W:=run 1 sI
def pW:SF:=sIf (tB (eOp oEq (aH nQ (aa (ai 3) aq)) (ai 1))) (aY (ai 2)) sNx
def xm:SF:=aB (sY (aeY (ai 0)) (adH (iE (aN 2) (iE (aN 3) adI))) pW) (aY (eC .non))
def yu:List W->Res W:=run 4 xm
def mE:SF:=aB (bh 3 (eOp oIx (eC wF) (eOp oIx (ai 0) (eI 2)))) (aB (bh 4 (eOp iC (eOp zp (eOp oIx (ai 3) (eI 0)) (ai 1)) (eOp zp (eOp oIx (ai 3) (eI 1)) (ai 2)))) (aB (bh 5 (eOp aak (eOp zp (eOp oIx (ai 3) (eI 1)) (ai 1)) (eOp zp (eOp oIx (ai 3) (eI 0)) (ai 2)))) (aY (ik (aa (eOp iC (eOp oIx (ai 0) (eI 0)) (ai 4)) (aa (eOp iC (eOp oIx (ai 0) (eI 1)) (ai 5)) aq))))))
def nR:List W->Res W:=run 6 mE
def kI:SF:=aB (bh 2 (eOp oIx (ai 0) (ai 1))) (aB (bh 3 (aH yu (aa (ai 0) (aa (aH nR (aa (ai 2) (aa (eI 0) (aa (eI 2) aq)))) aq)))) (aY (eIf (sQ (tB (eOp nu (ai 3) (eC .non))) (tB (eOp oEq (eOp oIx (eOp oIx (ai 0) (ai 3)) (eI 2)) (eOp oIx (ai 2) (eI 2))))) (ai 3) (eC .non))))
def ur:List W->Res W:=run 4 kI
def iN:SF:=aB (sIf (tB (eOp oNe (eOp oMod (eBi gE (aa (ai 0) aq)) (eI 2)) (eI 0))) (bM "NoPairs" (aa (eFr (ai 0)) aq)) sNx) dh
def oX:List W->Res W:=run 1 iN
def k9:SF:=dh
def k7:TF:=tB (eOp nu (eOp oIx (ai 0) (eOp oIx (ai 2) (eUn u1 (eI 1)))) (eC .non))
noncomputable def ua:Ws->Nat:=λ_=>3
def pB:SF:=aB (bh 2 (iZ (aa (ai 1) aq))) (aB (abh ua k7 k9) (aY (ai 2)))
def zL:List W->Res W:=run 3 pB
def la:SF:=sIf (tB (eOp hX (ai 3) (ai 1))) (anD 2 (aM oX (aa (aH zL (aa (ai 1) (aa (ai 3) aq))) aq))) sNx
def pE:SF:=aB (bh 1 (gB 1 (gz (eC bV)) (aN 0) oH (aH ur (aa (ai 1) (aa (ai 0) aq))))) (aB (sX 2 (air aq)) (aB (sY (gz (eC bV)) (aN 3) la) dh))
def kh:List W->Res W:=run 4 pE
def gY:SF:=aB (sIf (tB (eOp oEq (ai 1) (eS "calls"))) (aY (me "str" rl (eS " ") (aa (nY "Book" eV (cK "Desk" 1 (ai 0)) aq) aq))) sNx) (aB (sIf (tB (eOp oEq (ai 1) (eS "home"))) dh sNx) (aB (sIf (tB (eOp oEq (ai 1) (eS "back"))) (aY (aO "Desk" oY (ai 0) aq)) sNx) (aB (sIf (tB (eOp oEq (ai 1) (eS "floor"))) (aY (aH nS (aa (cK "Desk" 2 (ai 0)) aq))) sNx) (aB (sIf (tB (eOp oEq (ai 1) (eS "even"))) dh sNx) (aB (sIf (tB (eOp oEq (ai 1) (eS "alike"))) (aY (aH vS (aa (eOp oEq (aH agp (aa (cK "Desk" 2 (ai 0)) aq)) (aH agp (aa (eC gv) aq))) aq))) sNx) (aB (sIf (tB (eOp oEq (ai 1) (eS "pairs"))) (aY (aH nS (aa (aM kh (aa (cK "Desk" 2 (ai 0)) aq)) aq))) sNx) (bM "NoRow" (aa (eFr (ai 1)) aq))))))))
def nW:List W->Res W:=run 2 gY
def gh:SF:=aB (bh 2 (me "str" jM (ai 1) (aa (eS " ") aq))) (aB (bh 3 (eOp oIx (ai 2) (eI 0))) (aB (bh 4 (eOp oIx (ai 2) (eI 2))) (aB (sIf (tOr (tB (eOp oEq (ai 3) (eS ""))) (tB (eOp oEq (eOp oIx (ai 2) (eI 1)) (eS "")))) (jA "NoRow" (aa (eS "no name of some signs with a blank behind it") aq)) sNx) (aB (zd (lq "Book" fA (aa (alB (aa (ai 3) (aa (ai 4) aq))) aq))) (aB (xI 5 (cK "Desk" 0 (ai 0))) (aB (xG 5 (iB 5 (ai 4) (ai 3))) (aB (ajj (lq "Book" fA (aa (ai 5) aq))) dh)))))))
def lT:List W->Res W:=run 6 gh
def mO:SF:=sIf (tOr (i9 (tB (eBi cq (aa (ai 1) (aa (eC (.ty "str")) aq))))) (tB (eOp nq (ai 1) (acT "Book" (ai 0))))) dh sNx
def nI:LF:=aka (eOp aip (acT "Book" (ai 0)) (ai 1))
def fR:List W->Res W:=af0 2 mO nI
def fu:SF:=sIf (tB (eOp oEq (aH nQ (aa (eOp oIx (ai 0) (ai 1)) aq)) (aH nQ (aa (eOp oIx (ai 0) (ai 2)) aq)))) dh sNx
def fv:SF:=sY (vM (eOp iC (ai 1) (eI 1)) (eBi gE (aa (ai 0) aq))) (aN 2) fu
def gW:SF:=aB (sY (gz (eBi gE (aa (ai 0) aq))) (aN 1) fv) (aY (eC .non))
def nU:List W->Res W:=run 3 gW
def pJ:SF:=aB (bh 1 (aH nU (aa (ai 0) aq))) (aB (sIf (tB (eOp nu (ai 1) (eC .non))) dh sNx) (aY (eBi lC (aa (ai 0) aq))))
def zN:List W->Res W:=run 2 pJ
def aaV:SF:=aB (sIf (tB (eOp oIs (ai 2) (eC .non))) (aY (eOp oEq (ai 3) (eS "none"))) sNx) dh
def ahW:List W->Res W:=run 4 aaV
def afO:SF:=aB (bh 3 (eOp oIx (ai 0) (ai 1))) (aB (bh 4 (eOp oIx (ai 2) (eI 3))) (aB (bh 5 (aH yu (aa (ai 0) (aa (aH nR (aa (ai 3) (aa (eOp oIx (ai 2) (eI 1)) (aa (eOp oIx (ai 2) (eI 2)) aq)))) aq)))) (aB (sIf (tB (eOp oEq (ai 4) (eS "partner"))) dh sNx) (aB (sIf (tB (eOp oEq (ai 4) (eS "opposite"))) dh sNx) (aY (aH ahW (aa (ai 3) (aa (ai 0) (aa (ai 5) (aa (ai 4) aq))))))))))
def akC:List W->Res W:=run 6 afO
def sO:SF:=aY (eOp oEq (eOp oMod (eOp oDiv (ai 0) (eI 2)) (eI 2)) (eI 0))
def acK:List W->Res W:=run 1 sO
def sM:SF:=aB (sIf (tB (eOp oIn (ai 1) (ik (aa (eS "head") (aa (eS "side") aq))))) (aY (eOp oEq (aH acK (aa (ai 0) aq)) (eOp oEq (ai 1) (eS "head")))) sNx) dh
def acI:List W->Res W:=run 2 sM
def aaW:SF:=aB (bh 3 (eOp oIx (ai 2) (eI 0))) (aB (sIf (tB (eOp oEq (ai 3) (eS "not"))) dh sNx) (aB (sIf (tB (eOp oEq (ai 3) (eS "at"))) (aY (aH akC (aa (ai 0) (aa (ai 1) (aa (ai 2) aq))))) sNx) (aB (sIf (tB (eOp oEq (ai 3) (eS "inner"))) dh sNx) (aB (sIf (tB (eOp oIn (ai 3) (eC yE))) dh sNx) (aY (aH acI (aa (ai 1) (aa (ai 3) aq))))))))
def acL:List W->Res W:=run 4 aaW
def k8:SF:=sIf (tB (eBi afr (aa (gB 1 (se (eOp oIx (ai 4) (eI 0))) (aN 0) oH (aH acL (aa (ai 1) (aa (ai 2) (aa (ai 0) aq))))) aq))) (aY (ai 3)) sNx
def pA:SF:=aB (sY (aeY (ai 2)) (adH (iE (aN 3) (iE (aN 4) adI))) k8) (aY (eC .non))
def zK:List W->Res W:=run 5 pA
def pz:SF:=aB (sIf (sQ (tB (eOp nu (ai 3) (eC .non))) (tB (eOp hX (ai 1) (ai 3)))) dh sNx) (aB (bh 4 (aH zK (aa (ai 0) (aa (ai 1) (aa (ai 2) aq))))) (aB (sIf (tB (eOp oIs (ai 4) (eC .non))) (vh "Blind" (aa (ai 1) aq)) sNx) (aY (eOp oIx (eOp oIx (ai 2) (ai 4)) (eI 1)))))
def zJ:List W->Res W:=run 5 pz
def pF:SF:=aY (afc (eBi cq (aa (ai 0) (aa (eC (.ty "int")) aq))) (aoc (eBi cq (aa (ai 0) (aa (eC (.ty "bool")) aq)))))
def qh:List W->Res W:=run 1 pF
def pI:SF:=aY (afc (aH qh (aa (ai 0) aq)) (qj oLe oLe (eUn u1 (eC kA)) (ai 0) (eC kA)))
def qi:List W->Res W:=run 1 pI
def mM:SF:=aY (afc (aH qh (aa (ai 0) aq)) (qj oLe oLt (eI 0) (ai 0) (eBi gE (aa (eC wF) aq))))
def vY:List W->Res W:=run 1 mM
def pG:SF:=aB (sIf (tOr (i9 (tB (eBi cq (aa (ai 0) (aa (eC (.ty "tuple")) aq))))) (tB (eOp oNe (eBi gE (aa (ai 0) aq)) (eI 3)))) dh sNx) (aY (afc (aH qi (aa (eOp oIx (ai 0) (eI 0)) aq)) (afc (aH qi (aa (eOp oIx (ai 0) (eI 1)) aq)) (aH vY (aa (eOp oIx (ai 0) (eI 2)) aq)))))
def zM:List W->Res W:=run 1 pG
def nH:SF:=sIf (i9 (tB (eBi afr (aa (gB 1 (se (eSl (ai 2) (hU (eI 1)) pNo)) (aN 0) oH (aH zM (aa (ai 0) aq))) aq)))) dh sNx
def sL:SF:=aB (sY (aeY (ai 0)) (adH (iE (aN 1) (iE (aN 2) adI))) nH) (aY (ai 0))
def acH:List W->Res W:=run 3 sL
def gR:SF:=aY (eOp oMod (eOp iC (ai 0) (eOp oIx (eC r0) (ai 1))) (eC fD))
def nP:List W->Res W:=run 2 gR
def iK:SF:=aB (sIf (tB (eOp oEq (eOp oIx (ai 1) (eI 0)) (eS "turn"))) (aY (ik (aa (eOp oIx (ai 0) (eI 0)) (aa (eOp oIx (ai 0) (eI 1)) (aa (aH nP (aa (eOp oIx (ai 0) (eI 2)) (aa (eOp oIx (ai 1) (eI 1)) aq))) aq))))) sNx) dh
def oW:List W->Res W:=run 4 iK
def pX:SF:=sIf (tB (eOp oNe (eOp oIx (ai 3) (eI 0)) (eS "stay"))) (ajk 2 (aod 2 (aH oW (aa (eOp oIx (ai 2) (eUn u1 (eI 1))) (aa (ai 3) aq))))) sNx
def xn:SF:=aB (sX 2 (air (aa (ai 0) aq))) (aB (sY (se (ai 1)) (aN 3) pX) (aji 2 (aY (ai 2))))
def ae6:List W->Res W:=run 4 xn
def afN:SF:=aB (bh 3 (uz 1 (gz (eC bV)) (aN 0) oH (aM zJ (aa (ai 1) (aa (ai 0) (aa (ai 2) (aa (ai 3) aq))))))) (aY (aH acH (aa (gB 1 (gz (eC bV)) (aN 0) oH (aH ae6 (aa (eOp oIx (ai 1) (ai 0)) (aa (eOp oIx (ai 4) (ai 0)) aq)))) aq)))
def ago:List W->Res W:=run 4 afN
def xq:SF:=aY (aH zN (aa (gB 1 (se (aM ago (aa (ai 0) (aa (ai 1) (aa (ai 2) aq))))) (aN 0) oH (eOp oIx (ai 0) (eUn u1 (eI 1)))) aq))
def yv:List W->Res W:=run 3 xq
def fh:SF:=aB (bh 2 (agu kh (aa (ai 0) aq))) dh
def ki:List W->Res W:=run 8 fh
def iO:SF:=aB (sIf (i9 (tB (ai 3))) (aY (aM yv (aa (ai 0) (aa (ai 1) (aa (ai 2) aq))))) sNx) (aB (sIf (tB (eOp oLt (eBi gE (aa (ai 2) aq)) (eC bV))) (jA "NoPairs" (aa (eS "not all dancers would dance") aq)) sNx) (aY (aM ki (aa (ai 0) (aa (ai 1) aq)))))
def iY:List W->Res W:=run 4 iO
def fL:RF Rn:=cj (adQ Rn.a Rn.val 0 4 (eOp aak (eBi gE (aa (cK "Run" 1 (ai 0)) aq)) (eI 1))) (cj (aR (sIf (tB (eOp oEq (ai 4) (eC cf))) (bM "TooMany" (aa (eFf (eC cf)) aq)) sNx)) (cj (yP Rn.a Rn.aij 0 5 (nY "Book" fR (cK "Run" 0 (ai 0)) (aa (ai 1) aq))) (u6 ["Blind","NoPairs"] 4 (aM iY (aa (eOp oIx (cK "Run" 1 (ai 0)) (eUn u1 (eI 1))) (aa (ai 5) (aa (ai 2) (aa (ai 3) aq))))))))
def jk:List W->Rn->OX Rn:=runM 7 fL
def gf:SF:=aB (bh 3 (eIf (tB (eOp oEq (eOp oIx (ai 2) (eI 0)) (eS "inner"))) (eSl (ai 2) pNo (hU (eI 2))) (eOp oIx (eC aid) (eOp oIx (ai 2) (eI 1))))) (aY (gB 1 (se (ai 1)) (aN 0) (tB (aH acL (aa (eOp oIx (cK "Run" 1 (ai 1)) (eUn u1 (eI 1))) (aa (ai 0) (aa (ai 4) aq))))) (ai 0)))
def lS:List W->Res W:=run 4 gf
def cS(a:List W->Rn->OX Rn):RF Rn:=de 0 a (axP (eOp oIx (ai 4) (eI 2)) (axP (ai 2) (axP (ai 3) axN)))
def cT(a:List W->Rn->OX Rn):RF Rn:=xIf (xT Rn.a Rn.val 0 (tB (eOp oEq (eOp oIx (ai 4) (eI 0)) (eS "call")))) (de 0 jk (axP (eOp oIx (ai 4) (eI 1)) (axP (ai 2) (axP (ai 3) axN)))) (xIf (xT Rn.a Rn.val 0 (tB (eOp oEq (eOp oIx (ai 4) (eI 0)) (eS "times")))) (jY (gz (eOp oIx (ai 4) (eI 1))) 5 (cS a)) (xIf (xT Rn.a Rn.val 0 (tB (eOp oEq (eOp oIx (ai 4) (eI 0)) (eS "couples")))) (de 0 a (axP (eOp oIx (ai 4) (eI 1)) (axP (ai 2) (axP (eC (.bl true)) axN)))) (de 0 a (axP (eOp oIx (ai 4) (eI 2)) (axL 0 (aO "Run" lS (ai 0) (aa (ai 2) (aa (ai 4) aq))) (axP (ai 3) axN))))))
def cD(a:List W->Rn->OX Rn):RF Rn:=jY (se (ai 1)) 4 (cT a)
noncomputable def aJ:Nat->List W->Rn->OX Rn|0=>λ_ _=>.bad|n+1=>runM 6 (cD (aJ n))
def ag4:SF:=ja 3 (aa (ai 0) (aa (ai 1) aq)) (cj (de 3 (aJ 4) (axP (ai 2) (axP (eLR (eC bV)) (axP (eC (.bl false)) axN)))) (aav 3 (eSl (cK "Run" 1 (ai 3)) (hU (eI 1)) pNo)))
def eG:List W->Res W:=run 4 ag4
def eT:SF:=aB (sIf (tB (eOp oEq (eOp oIx (ai 0) (ai 3)) (eS "("))) (bh 2 (eOp aeB (ai 2) (eI 1))) sNx) (sIf (tB (eOp oEq (eOp oIx (ai 0) (ai 3)) (eS ")"))) (aB (bh 2 (eOp aak (ai 2) (eI 1))) (sIf (tB (eOp oEq (ai 2) (eI 0))) (aY (eOp iC (ai 3) (eI 1))) sNx)) sNx)
def gc:SF:=aB (bh 2 (eI 0)) (aB (sY (vM (ai 1) (eBi gE (aa (ai 0) aq))) (aN 3) eT) (jA "NoProgram" (aa (eS "neither a name of the book nor a bracket that is closed") aq)))
def lR:List W->Res W:=run 4 gc
def df:SF:=aB (bh 3 (aH jj (aa (ai 0) (aa (ai 1) (aa (ai 2) aq))))) (aB (sIf (tB (eOp oIs (ai 3) (eC .non))) (bM "NoProgram" (aa (eFf (ai 1)) (aa (eFf (ai 2)) (aa (eFr (ai 0)) aq)))) sNx) (aY (ai 3)))
def gA:List W->Res W:=run 4 df
def mJ:SF:=aB (sIf (sQ (tB (eOp oEq (eBi gE (aa (ai 0) aq)) (eI 1))) (tB (eOp oIn (eOp oIx (ai 0) (eI 0)) (eC adm)))) (aY (ik (aa (eS "some") (aa (eOp oIx (ai 0) (eI 0)) aq)))) sNx) (aB (sIf (sQ (tB (eOp oEq (eBi gE (aa (ai 0) aq)) (eI 1))) (tB (eOp oEq (eOp oIx (ai 0) (eI 0)) (eS "couples")))) (aY (ik (aa (eS "couples") aq))) sNx) (aB (sIf (sQ (tB (eOp oEq (eBi gE (aa (ai 0) aq)) (eI 2))) (tB (eOp oEq (eOp oIx (ai 0) (eI 0)) (eS "inner")))) dh sNx) (aB (sIf (sQ (tB (eOp oEq (eBi gE (aa (ai 0) aq)) (eI 2))) (tB (eOp oEq (eOp oIx (ai 0) (eI 1)) (eS "times")))) (aY (ik (aa (eS "times") (aa (aM gA (aa (eOp oIx (ai 0) (eI 0)) (aa (eI 1) (aa (eC lu) aq)))) aq)))) sNx) (bM "NoProgram" (aa (eFr (ai 0)) aq)))))
def vW:List W->Res W:=run 1 mJ
def iM(a:List W->Res W):SF:=aB (sIf (tB (eOp oGt (ai 2) (eC oj))) dh sNx) (aB (bh 3 (me "list" pS (ai 1) (aa (eS "(") aq))) (aB (bh 4 (eSl (ai 1) (hU (eOp iC (ai 3) (eI 1))) (hU (eUn u1 (eI 1))))) (aB (sIf (i9 (tL (ai 4))) (jA "NoProgram" (aa (eS "brackets without an item between") aq)) sNx) (aY (eOp iC (aM vW (aa (eSl (ai 1) pNo (hU (ai 3))) aq)) (ik (aa (aM a (aa (ai 0) (aa (ai 4) (aa (ai 2) aq)))) aq)))))))
def cy(a:List W->Res W):List W->Res W:=run 5 (iM a)
def iW(a:List W->Res W):SF:=sIf (tB (eOp oIn (eOp oIx (ai 1) (ai 4)) (ai 0))) (aB (ajk 3 (ik (aa (eS "call") (aa (eOp oIx (ai 1) (ai 4)) aq)))) (bh 4 (eOp aeB (ai 4) (eI 1)))) (aB (bh 5 (aM lR (aa (ai 1) (aa (ai 4) aq)))) (aB (ajk 3 (aM a (aa (ai 0) (aa (eSl (ai 1) (hU (ai 4)) (hU (ai 5))) (aa (eOp iC (ai 2) (eI 1)) aq))))) (bh 4 (ai 5))))
def iV(a:List W->Res W):TF:=tB (eOp oLt (ai 4) (eBi gE (aa (ai 1) aq)))
noncomputable def oQ:Ws->Nat:=λ_=>20
def kL(a:List W->Res W):SF:=aB (sX 3 (air aq)) (aB (bh 4 (eI 0)) (aB (abh oQ (iV a) (iW a)) (aji 3 (aY (ai 3)))))
noncomputable def bt:Nat->List W->Res W|0=>λ_=>.bad|n+1=>run 6 (kL (cy (bt n)))
def iL:SF:=aB (sIf (i9 (tB (eBi cq (aa (ai 1) (aa (eC (.ty "str")) aq))))) dh sNx) (aB (bh 2 (eIf (tS (ai 1)) (me "str" fq (ai 1) (aa (eS " ") aq)) (iZ aq))) (aY (aM (bt 4) (aa (nY "Book" eV (ai 0) aq) (aa (ai 2) (aa (eI 0) aq))))))
def aE:List W->Res W:=run 3 iL
def eg:SF:=aB (bh 2 (aM eG (aa (cK "Desk" 1 (ai 0)) (aa (cK "Desk" 2 (ai 0)) (aa (aM aE (aa (cK "Desk" 1 (ai 0)) (aa (ai 1) aq))) aq))))) dh
def cV:List W->Res W:=run 3 eg
def eY:SF:=aY (aM eG (aa (ai 0) (aa (ai 1) (aa (ai 2) aq))))
def gT:SF:=xF eY 3
def ig:List W->Res W:=run 5 gT
def h8:SF:=aB (bh 6 (aM ig (aa (ai 0) (aa (eOp oIx (ai 3) (eUn u1 (eI 1))) (aa (ai 2) (aa (ai 4) aq)))))) dh
def j1:SF:=aB (bh 3 (iZ (aa (ai 1) aq))) (aB (bh 4 (eI 0)) (aB (sY (gz (eC jq)) (aN 5) h8) dh))
def kg:List W->Res W:=run 9 j1
def dj:SF:=aB (bh 2 (aM kg (aa (cK "Desk" 1 (ai 0)) (aa (cK "Desk" 2 (ai 0)) (aa (aM aE (aa (cK "Desk" 1 (ai 0)) (aa (ai 1) aq))) aq))))) dh
def bZ:List W->Res W:=run 3 dj
def eQ:SF:=aB (bh 3 (aH jj (aa (ai 0) (aa (ai 1) (aa (ai 2) aq))))) (aB (sIf (tB (eOp oIs (ai 3) (eC .non))) (bM "NoRow" (aa (eFf (ai 1)) (aa (eFf (ai 2)) (aa (eFr (ai 0)) aq)))) sNx) (aY (ai 3)))
def eU:List W->Res W:=run 4 eQ
def gX:SF:=dh
def nV:List W->Res W:=run 3 gX
def cQ:SF:=aB (sIf (tB (eOp oEq (ai 1) (eS "call"))) (aY (aO "Desk" lT (ai 0) (aa (ai 2) aq))) sNx) (aB (sIf (tB (eOp oEq (ai 1) (eS "run"))) (aY (aO "Desk" cV (ai 0) (aa (ai 2) aq))) sNx) (aB (sIf (tB (eOp oEq (ai 1) (eS "round"))) (aY (aO "Desk" bZ (ai 0) (aa (ai 2) aq))) sNx) (aB (sIf (tB (eOp oEq (ai 1) (eS "where"))) (aY (aH ie (aa (eOp oIx (cK "Desk" 2 (ai 0)) (aM eU (aa (ai 2) (aa (eI 0) (aa (eOp aak (eC bV) (eI 1)) aq))))) aq))) sNx) (aB (sIf (tB (eOp oEq (ai 1) (eS "way"))) (aY (aO "Desk" nV (ai 0) (aa (aM eU (aa (ai 2) (aa (eI 0) (aa (eC jT) aq)))) aq))) sNx) (bM "NoRow" (aa (eFr (ai 1)) (aa (eFr (ai 2)) aq)))))))
def bC:List W->Res W:=run 3 cQ
def j2:SF:=aB (sIf (i9 (tB (eBi cq (aa (ai 1) (aa (eC (.ty "str")) aq))))) (jA "NoRow" (aa (eS "no text") aq)) sNx) (aB (bh 2 (me "str" jM (ai 1) (aa (eS " ") aq))) (aB (sIf (tB (eOp oEq (eOp oIx (ai 2) (eI 1)) (eS ""))) (aY (aO "Desk" nW (ai 0) (aa (ai 1) aq))) sNx) (aY (aO "Desk" bC (ai 0) (aa (eOp oIx (ai 2) (eI 0)) (aa (eOp oIx (ai 2) (eI 2)) aq))))))
def av:List W->Res W:=run 3 j2
def eh:RF Dk:=cj (xIf (xT Dk.a Dk.val 0 (i9 (tL (cK "Desk" 3 (ai 0))))) (aR dh) xNx) (cj agI (aR (aY (eS "ok"))))
def ij:List W->Dk->OX Dk:=runM 1 eh
def dD:RF Dk:=cj (xIf (xT Dk.a Dk.val 0 (tB (eOp oEq (ai 1) (eS "calls")))) (aR dh) xNx) (cj (xIf (xT Dk.a Dk.val 0 (tB (eOp oEq (ai 1) (eS "home")))) (aR dh) xNx) (cj (xIf (xT Dk.a Dk.val 0 (tB (eOp oEq (ai 1) (eS "back")))) (gw (xeW 0 ij aq)) xNx) (aR dh)))
def gu:List W->Dk->OX Dk:=runM 2 dD
def dk:RF Dk:=cj (aR (bh 2 (me "str" jM (ai 1) (aa (eS " ") aq)))) (cj (aR (bh 3 (eOp oIx (ai 2) (eI 0)))) (cj (aR (bh 4 (eOp oIx (ai 2) (eI 2)))) (cj (aR (sIf (tOr (tB (eOp oEq (ai 3) (eS ""))) (tB (eOp oEq (eOp oIx (ai 2) (eI 1)) (eS "")))) dh sNx)) (cj (aR (zd (lq "Book" fA (aa (alB (aa (ai 3) (aa (ai 4) aq))) aq)))) (cj (sr λa=>xI 5 (ae5 0 0 a)) (cj (aR (xG 5 (iB 5 (ai 4) (ai 3)))) (cj (yQ 1 λa=>lq "Book" fA (aa (ai 5) aq)) (cj (yQ 0 λa=>ai 5) (aR (aY (eS "ok")))))))))))
def cb:List W->Dk->OX Dk:=runM 6 dk
def kN:SF:=aY (eIf (tL (ai 1)) (eOp oIx (ai 1) (eUn u1 (eI 1))) (ai 0))
def lj:List W->Res W:=run 2 kN
def dE:RF Dk:=cj (sr λa=>bh 2 (aM eG (aa (ae5 0 1 a) (aa (ae5 0 2 a) (aa (aM aE (aa (ae5 0 1 a) (aa (ai 1) aq))) aq))))) (cj agJ (cj (yQ 2 λa=>aH lj (aa (ae5 0 2 a) (aa (ai 2) aq))) (aR (aY (eBi r6 (aa (eBi gE (aa (ai 2) aq)) aq))))))
def cB:List W->Dk->OX Dk:=runM 3 dE
def cA:RF Dk:=cj (xIf (xT Dk.a Dk.val 0 (tB (eOp oEq (ai 1) (eS "call")))) (gw (xeW 0 cb (aa (ai 2) aq))) xNx) (cj (xIf (xT Dk.a Dk.val 0 (tB (eOp oEq (ai 1) (eS "run")))) (gw (xeW 0 cB (aa (ai 2) aq))) xNx) (aR dh))
def bj:List W->Dk->OX Dk:=runM 3 cA
def fM:RF Dk:=cj (aR (sIf (i9 (tB (eBi cq (aa (ai 1) (aa (eC (.ty "str")) aq))))) dh sNx)) (cj (aR (bh 2 (me "str" jM (ai 1) (aa (eS " ") aq)))) (cj (xIf (xT Dk.a Dk.val 0 (tB (eOp oEq (eOp oIx (ai 2) (eI 1)) (eS "")))) (gw (xeW 0 gu (aa (ai 1) aq))) xNx) (gw (xeW 0 bj (aa (eOp oIx (ai 2) (eI 0)) (aa (eOp oIx (ai 2) (eI 2)) aq))))))
def ay:List W->Dk->OX Dk:=runM 3 fM
def cO:SF:=zd (aO "Desk" av (ai 0) (aa (ai 1) aq))
def gQ:SF:=aB (sX 3 (air (aa (eBi u2 (aa (ai 4) (aa (eC (.ty "ValueError")) aq))) (aa (eBi u2 (aa (ai 4) (aa (eC (.cls "NoRow")) aq))) (aa (eBi u2 (aa (ai 4) (aa (eC (.cls "NoName")) aq))) (aa (eBi u2 (aa (ai 4) (aa (eC (.cls "NoCall")) aq))) aq)))))) (aB (aji 3 (sX 3 (anV (ai 3) (iZ (aa (eBi u2 (aa (ai 4) (aa (eC (.cls "NoProgram")) aq))) (aa (eBi u2 (aa (ai 4) (aa (eC (.cls "Broken")) aq))) (aa (eBi u2 (aa (ai 4) (aa (eC (.cls "NoPairs")) aq))) aq))))))) (ajk 3 (eBi u2 (aa (ai 4) (aa (eC (.cls "TooMany")) aq)))))
def jx:SF:=aB (sX 3 (air aq)) (aB (pO cO "FloorError" 4 gQ) (aji 3 (aY (eOp oEq (ai 3) (eOp iC (iZ (aa (eC (.bl true)) aq)) (gB 1 (vM (eI 1) (eI 8)) (aN 0) oH (eOp oEq (ai 0) (ai 3))))))))
def aD:List W->Res W:=run 5 jx
def bF:RF Dk:=adD (xtE (sd oNe (xeW 0 ay (aa (eOp qX (eOp qX (eS "call ") (ai 2)) (eS " > stay")) aq)) (.str "ok"))) (aR dh) xNx
def fG:SF:=hJ 0 (.ok lY) gv (cj (aR (bh 1 (gB 1 (gz (eI 60)) (aN 0) oH (eOp qX (eOp aeA (eS "abcdef") (eOp oDiv (ai 0) (eI 10))) (eOp aeA (eS "ghijklmnop") (eOp oMod (ai 0) (eI 10))))))) (cj (jY (se (ai 1)) 2 bF) (cj (xIf (xT Dk.a Dk.val 0 (tOr (i9 (tB (aH aD (aa (ai 0) (aa (eS "call zz > stay") (aa (eI 7) aq)))))) (i9 (tB (aH aD (aa (ai 0) (aa (eS "call zz stay") (aa (eI 3) aq)))))))) (aR dh) xNx) (gw (oF (sd oEq (xeW 0 ay (aa (eS "call ag > turn left") aq)) (.str "ok")) (xeR 0 (eOp oEq (eBi gE (aa (me "str" fq (aO "Desk" av (ai 0) (aa (eS "calls") aq)) (aa (eS " ") aq)) aq)) (eI 60))))))))
def nT:List W->Res W:=run 3 fG
def fK:SF:=aB (sIf (tB (eOp oLt (ai 1) (eBi gE (aa (ai 0) aq)))) (aY (eOp oIx (ai 0) (ai 1))) sNx) (aY (eI 0))
def bI:List W->Res W:=run 2 fK
def dt:SF:=hJ 0 (.ok lY) gv (cj (adD (alb (xtE (sd oNe (xeW 0 ay (aa (eS "call a > turn left") aq)) (.str "ok"))) (xtE (sd oNe (xeW 0 ay (aa (eS "run a") aq)) (.str "1")))) (aR dh) xNx) (cj (adQ Dk.a Dk.val 0 1 (aO "Desk" av (ai 0) (aa (eS "floor") aq))) (cj (xIf (xT Dk.a Dk.val 0 (tOr (i9 (tB (aH aD (aa (ai 0) (aa (eS "run 60 times ( 7 times ( a ) )") (aa (eI 7) aq)))))) (tB (eOp oNe (aO "Desk" av (ai 0) (aa (eS "floor") aq)) (ai 1))))) (aR dh) xNx) (gw (oF (sd oEq (xeW 0 ay (aa (eS "back") aq)) (.str "ok")) (xeR 0 (eOp oEq (aO "Desk" av (ai 0) (aa (eS "alike") aq)) (eS "yes"))))))))
def iX:List W->Res W:=run 2 dt
def dr:SF:=zd (aO "Desk" av (ai 0) (aa (ai 1) aq))
def iI:SF:=aB (bh 3 (alA (ai 5) "at")) (bh 4 (alA (ai 5) "why"))
def gV:SF:=aB (bh 3 (eC .non)) (aB (bh 4 (eC .non)) (aB (pO dr "Broken" 5 iI) (aY (afc (eOp oEq (ai 3) (ai 2)) (afc (eBi u2 (aa (ai 4) (aa (eC (.cls "Blind")) aq))) (eOp oEq (alA (ai 4) "who") (eI 0)))))))
def ba:List W->Res W:=run 6 gV
def gU:SF:=aB (bh 1 (iZ (uW [""," ","floor "," floor","floors","Floor","floor 1","calls a"]))) (aB (bh 1 (eOp iC (ai 1) (iZ (uW ["home home","even ","alike 1","where"])))) (aB (bh 1 (eOp iC (ai 1) (iZ (uW ["where ","where 8","where -1","where 01","where 1 2","where x","way"])))) (aB (bh 1 (eOp iC (ai 1) (iZ (uW ["way ","way 13","way x"])))) (aB (bh 1 (eOp iC (ai 1) (iZ (uW ["way 1 2","way 00","way 0007","pairs 1","back 1","run","round","call"])))) (aB (bh 1 (eOp iC (ai 1) (iZ (uW ["call a","Run a","go a","where 1\n","where +1","where  1","where 1 ","way 1_0","way 2\t"])))) (aB (bh 1 (eOp iC (ai 1) (iZ (aa (eC .non) (aa (eI 7) (aa (eC (.bl true)) (aa (iZ (aa (eS "floor") aq)) (aa (ik (aa (eS "floor") aq)) aq)))))))) (aY (eOp oIx (ai 1) (eOp oMod (ai 0) (eBi gE (aa (ai 1) aq)))))))))))
def bT:List W->Res W:=run 2 gU
def fH:SF:=aB (bh 1 (iZ (uW ["a,","A","abcdefghi","a1","times","heads","sides","lefts","rights","inner","couples","a-b"]))) (aY (eOp qX (eOp qX (eS "call ") (eOp oIx (ai 1) (eOp oMod (ai 0) (eI 12)))) (eS " > stay")))
def bG:List W->Res W:=run 2 fH
def fJ:SF:=aB (bh 1 (iZ (uW ["","stay","> "," > stay","> stay ","> stay ahead 1","> ahead 0"]))) (aB (bh 1 (eOp iC (ai 1) (iZ (uW ["> ahead 10","> ahead","> turn around"])))) (aB (bh 1 (eOp iC (ai 1) (iZ (uW ["at 0 0 any > stay","at 1 0 some > stay","not not head > stay"])))) (aB (bh 1 (eOp iC (ai 1) (iZ (uW ["head and > stay","> stay ;","inner > stay"])))) (aY (eOp qX (eOp oIx (iZ (aa (eS "call c ") (aa (eS "call b ") aq))) (eOp oMod (eOp oDiv (ai 0) (eI 16)) (eI 2))) (eOp oIx (ai 1) (eOp oMod (ai 0) (eI 16))))))))
def bH:List W->Res W:=run 2 fJ
def dC:SF:=aB (bh 1 (iZ (uW ["c","a c","a "," a","a  a","( a )","heads ( )","0 times ( a )"]))) (aB (bh 1 (eOp iC (ai 1) (iZ (uW ["61 times ( a )","heads a","heads ( a"])))) (aB (bh 1 (eOp iC (ai 1) (iZ (uW ["a )","2 times a","inner ( a )"])))) (aY (eOp qX (eOp oIx (iZ (aa (eS "run ") (aa (eS "round ") aq))) (eOp oMod (eOp oDiv (ai 0) (eI 14)) (eI 2))) (eOp oIx (ai 1) (eOp oMod (ai 0) (eI 14)))))))
def aV:List W->Res W:=run 2 dC
def cP:SF:=aB (bh 2 (iZ (aa (ik (aa (eS "run bad") (aa (eI 5) aq))) (aa (ik (aa (eS "run a bad") (aa (eI 5) aq))) (aa (ik (aa (eS "round bad") (aa (eI 5) aq))) aq))))) (aB (bh 2 (eOp iC (ai 2) (iZ (aa (ik (aa (eS "run heads ( couples ( a ) )") (aa (eI 5) aq))) (aa (ik (aa (eS "round a bad") (aa (eI 5) aq))) aq))))) (aB (sIf (tB (ai 1)) (bh 2 (eOp iC (ai 2) (iZ (aa (ik (aa (eS "pairs") (aa (eI 6) aq))) (aa (ik (aa (eS "run couples ( a )") (aa (eI 5) aq))) aq))))) (bh 2 (eOp iC (ai 2) (iZ (aa (ik (aa (eS "back") (aa (eI 2) aq))) aq))))) (aY (eOp oIx (ai 2) (eOp oMod (ai 0) (eBi gE (aa (ai 2) aq)))))))
def aU:List W->Res W:=run 3 cP
def di:SF:=aB (bh 2 (eOp oMod (ai 0) (eI 5))) (aB (sIf (tB (eOp oEq (ai 2) (eI 0))) (aY (ik (aa (aH bT (aa (eOp oDiv (ai 0) (eI 5)) aq)) (aa (eI 1) aq)))) sNx) (aB (sIf (tB (eOp oEq (ai 2) (eI 1))) (aY (ik (aa (aH bG (aa (eOp oDiv (ai 0) (eI 5)) aq)) (aa (eI 2) aq)))) sNx) (aB (sIf (tB (eOp oEq (ai 2) (eI 2))) (aY (ik (aa (aH bH (aa (eOp oDiv (ai 0) (eI 5)) aq)) (aa (eI 3) aq)))) sNx) (aB (sIf (tB (eOp oEq (ai 2) (eI 3))) (aY (ik (aa (aH aV (aa (eOp oDiv (ai 0) (eI 5)) aq)) (aa (eI 4) aq)))) sNx) (aY (aH aU (aa (eOp oDiv (ai 0) (eI 5)) (aa (ai 1) aq))))))))
def dm:List W->Res W:=run 3 di
def jf:RF Dk:=cj (aR (amh (aH dm (aa (eOp oMod (eOp zp (ai 4) (eI 69621)) (eI 2147483629)) (aa (ai 2) aq))) (adH (iE (aN 5) (iE (aN 6) adI))))) (cj (xIf (xT Dk.a Dk.val 1 (i9 (tB (aH aD (aa (ai 1) (aa (ai 5) (aa (ai 6) aq))))))) (aR dh) xNx) (xIf (xT Dk.a Dk.val 1 (tB (eOp oNe (iZ (aa (aO "Desk" av (ai 1) (aa (eS "calls") aq)) (aa (aO "Desk" av (ai 1) (aa (eS "floor") aq)) (aa (aO "Desk" av (ai 1) (aa (eS "alike") aq)) aq)))) (ai 3)))) (aR dh) xNx))
def ad4:SF:=aB (sIf (sQ (tB (eOp oEq (eOp oMod (aH bI (aa (ai 0) (aa (eI 0) aq))) (eI 6)) (eI 4))) (i9 (tB (aH nT aq)))) dh sNx) (aB (sIf (sQ (tB (eOp oEq (eOp oMod (aH bI (aa (ai 0) (aa (eI 0) aq))) (eI 6)) (eI 2))) (i9 (tB (aH iX aq)))) dh sNx) (hJ 1 (.ok lY) gv (cj (mq (xeW 1 ay (aa (eS "call a > turn left") aq))) (cj (mq (xeW 1 ay (aa (eS "call b at 0 2 partner > right 2 ; at 0 -2 partner > left 2 ; > stay") aq))) (cj (mq (xeW 1 ay (aa (eS "call bad at 9 9 any > stay") aq))) (cj (aR (bh 2 (eOp oEq (eOp oMod (aH bI (aa (ai 0) (aa (eI 0) aq))) (eI 2)) (eI 1)))) (cj (adD (yN (xtR 1 (tB (ai 2))) (xtE (sd oNe (xeW 1 ay (aa (eS "run a") aq)) (.str "1")))) (aR dh) xNx) (cj (aau 1 3 (aa (aO "Desk" av (ai 1) (aa (eS "calls") aq)) (aa (aO "Desk" av (ai 1) (aa (eS "floor") aq)) (aa (aO "Desk" av (ai 1) (aa (eS "alike") aq)) aq)))) (cj (xIf (xT Dk.a Dk.val 1 (tOr (i9 (tB (aH ba (aa (ai 1) (aa (eS "run bad") (aa (eI 0) aq)))))) (i9 (tB (aH ba (aa (ai 1) (aa (eS "run a bad") (aa (eI 1) aq)))))))) (aR dh) xNx) (cj (xIf (xT Dk.a Dk.val 1 (i9 (tB (aH ba (aa (ai 1) (aa (eS "round 2 times ( a ) bad") (aa (eI 2) aq))))))) (aR dh) xNx) (cj (jY (se (eSl (ai 0) (hU (eI 1)) (hU (eI 61)))) 4 jf) (cj (xIf (xT Dk.a Dk.val 1 (tB (ai 2))) (gw (oF (sd oEq (xeW 1 ay (aa (eS "back") aq)) (.str "ok")) (oF (xeR 1 (eOp oEq (aO "Desk" av (ai 1) (aa (eS "alike") aq)) (eS "yes"))) (xeR 1 (aH aD (aa (ai 1) (aa (eS "back") (aa (eI 2) aq)))))))) xNx) (aR (aY (eOp oEq (ai 3) (iZ (uW ["a b bad","-1,-3,0 1,-3,0 3,-1,1 3,1,1 1,3,2 -1,3,2 -3,1,3 -3,-1,3","yes"])))))))))))))))))
def ahX:List W->Res W:=run 7 ad4
end K86
namespace K86
open PySem WL ML
def Rl(a r:Nat):OX Rn->OX Rn->Prop|.nx σ s,o=>∃f b d,σ=.va (.id 0)::f/\s=⟨0,0,b,d⟩/\o=.nx (.va (.id a)::f) ⟨a,r,b,d⟩|.ex c σ,o=>∃e,o=.ex c e/\e.length=σ.length|.rt w s,o=>∃b d,s=⟨0,0,b,d⟩/\o=.rt w ⟨a,r,b,d⟩|.bad,_=>True|_,_=>False
def Er(A:RF Rn):Prop:=∀a r c b d,Rl a r (A (.va (.id 0)::c) ⟨0,0,b,d⟩) (A (.va (.id a)::c) ⟨a,r,b,d⟩)
def ErF(f:List W->Rn->OX Rn):Prop:=∀a r ws b c,Rl a r (f (.id 0::ws) ⟨0,0,b,c⟩) (f (.id a::ws) ⟨a,r,b,c⟩)
section
variable{A B:RF Rn}{e:EF}{i:Nat}
def Er.seq(h:Er A)(j:Er B):Er (cj A B):=λa r g b d=>by have h:=h a r g b d;unfold cj;cases f:A _ _ with|nx σ' s'=>rw[f]at h;obtain⟨g,b,d,rfl,rfl,h⟩:=h;rw[h];exact j a r _ b _|ex c σ'=>rw[f]at h;obtain⟨m,h,k⟩:=h;rw[h];exact⟨_,rfl,k⟩|rt w s=>rw[f]at h;obtain⟨b,d,l,h⟩:=h;rw[h];exact⟨b,d,l,rfl⟩|bad=>trivial|_=>rw[f]at h;exact h.elim
def mQ(a r xs b c):seen Rn.a Rn.val 0 (.va (.id a)::xs) ⟨a,r,b,c⟩=some (.va (.ins "Run" [b,.lst c])::xs):=by simp[seen,Rn.val]
def afX(val)(a r xs b c):seen Rn.a val 0 (.va (.id a)::xs) ⟨a,r,b,c⟩=some (.va (val ⟨a,r,b,c⟩)::xs):=by simp[seen]
def akD:Er (adQ Rn.a Rn.val 0 (i+1) e):=λa r d b c=>by
 unfold adQ;rw[mQ,mQ];dsimp 
 cases e _ with|ok w=>
 dsimp ;by_cases h:plain w=true;.rw[apa h,apa h];exact⟨_,b,c,rfl,rfl,rfl⟩
 .rw[ao9 h];trivial|_=>trivial
def ah1(h:∀r b c,e (.va (.ins "Run" [b,.id r])::c)=e (.va (.ins "Run" [b,.id 0])::c)):Er (yP Rn.a Rn.aij 0 (i+1) e):=λa r c b d=>by unfold yP;rw[afX,afX];show Rl a r _ (match e (.va (.ins _ _)::c)with|.ok w=>_|_=>_);rw[h];show Rl a r (match e (.va (.ins _ _)::c)with|.ok w=>_|_=>_) _;cases e _ with|ok w=>exact⟨_,b,d,rfl,rfl,rfl⟩|_=>trivial
def akE{t c}(f:∀a d,t (.va (.id a)::d)=t (.va (.id 0)::d))(j:∀a d,∃x,c (.va (.id a)::d)=.ex x (.va (.id a)::d)/\c (.va (.id 0)::d)=.ex x (.va (.id 0)::d)):Er (aR (sIf t c sNx)):=λa r d b g=>by unfold aR sIf;rw[f a _];cases t _ with
|ok v=>cases v with|true=>obtain⟨x,k,h⟩:=j a _;rw[k,h];exact⟨_,rfl,rfl⟩|false=>exact⟨d,b,g,rfl,rfl,rfl⟩
|ex c=>exact⟨_,rfl,rfl⟩|bad=>trivial
def ah0{d ci}:Er (u6 d (ci+1) e):=λa r f b g=>by unfold u6;rw[mQ,mQ];dsimp only;cases e _ with
|ok w=>
 dsimp only;by_cases h:plain w=true/\g.length<lim;.rw[apa h,apa h];exact⟨f,b,_,rfl,rfl,rfl⟩
 .rw[ao9 h];trivial|ex c=>dsimp only;rw[aq6,aq6];cases f[ci]? with|none=>trivial|some v=>cases v with
 |va w=>
  dsimp only;by_cases h:iQ w=true/\isC d c=true;.rw[apa h,apa h];exact⟨_,rfl,rfl⟩
  .rw[ao9 h];trivial|_=>trivial
|bad=>trivial
def ah2{t}(c:Er A)(d:Er B):Er (xIf (xT Rn.a Rn.val 0 t) A B):=λa r f b g=>by unfold xIf xT;rw[mQ,mQ];dsimp ;cases t _ with
|ok v=>cases v with|true=>exact c a r _ b _|false=>exact d a r _ b _
|_=>trivial
def rF{f g}(h:ErF f)(t:∀a r j b d,g (.va (.id a)::j) ⟨a,r,b,d⟩=g (.va (.id 0)::j) ⟨0,0,b,d⟩):Er (de 0 f g):=λa r j b d=>by cases n:g _ ⟨0,0,b,d⟩with
|ok ws=>
 have p:=(t a r j b d).trans n;have m:de 0 f g (.va (.id 0)::j) ⟨0,0,b,d⟩=ofM (.va (.id 0)::j) (f (.id 0::ws) ⟨0,0,b,d⟩):=by simp[de,n]
 have q:de 0 f g (.va (.id a)::j) ⟨a,r,b,d⟩=ofM (.va (.id a)::j) (f (.id a::ws) ⟨a,r,b,d⟩):=by simp[de,p]
 rw[m,q];have h:=h a r ws b d;cases l:f (.id 0::ws) ⟨0,0,b,d⟩with|nx σ s=>rw[l]at h;obtain⟨_,o,k,rfl,rfl,h⟩:=h;rw[h];exact⟨j,o,k,rfl,rfl,rfl⟩|ex c σ=>rw[l]at h;obtain⟨_,h,_⟩:=h;rw[h];exact⟨_,rfl,rfl⟩|rt w s=>rw[l]at h;obtain⟨o,k,rfl,h⟩:=h;rw[h];exact⟨j,o,k,rfl,rfl,rfl⟩|bad=>trivial|_=>rw[l]at h;exact h.elim
|_=>
 have m:de 0 f g (.va (.id 0)::j) ⟨0,0,b,d⟩=.bad:=by simp[de,n]
 rw[m];trivial
noncomputable def xlp{S}(o:OX S)(k:Ws->S->OX S):OX S:=match o with|.nx σ s=>k σ s|.ct σ s=>k σ s|.bk σ s=>.nx σ s|o=>o
def dU{S}(k)(b:RF S)(x xs a s):lE k b (x::xs) a s=xlp (b (a.set k (.va x)) s) (lE k b xs):=rfl
def agr{it k}(o:∀a f,it (.va (.id a)::f)=it (.va (.id 0)::f))(h:Er A):Er (jY it (k+1) A):=λa r f b l=>by unfold jY;rw[o a f];cases it _ with
|ok ws=>dsimp ;induction ws generalizing f b l with|nil=>exact⟨f,b,l,rfl,rfl,rfl⟩|cons w ws ih=>have h:=h a r (f.set k (.va w)) b l;rw[dU,dU,arJ,arJ];cases g:A _ _ with|nx σ s=>rw[g]at h;obtain⟨n,j,d,rfl,rfl,h⟩:=h;rw[h];exact ih n j d|ex c σ=>rw[g]at h;obtain⟨m,h,p⟩:=h;rw[h];exact⟨m,rfl,p⟩|rt w s=>rw[g]at h;obtain⟨j,d,q,h⟩:=h;rw[h];exact⟨j,d,q,rfl⟩|bad=>trivial|_=>rw[g]at h;exact h.elim
|_=>trivial
end
def ags{n t}(h:Er t):ErF (runM n t):=λa r ws b c=>h a r _ b _
def afb:ErF jk:=ags (akD.seq ((akE (λ_ _=>rfl) λ_ _=>⟨_,rfl,rfl⟩).seq ((ah1 λ_ _ _=>rfl).seq ah0)))
theorem afa:∀n,ErF (aJ n)|0=>λ_ _ _ _ _=>trivial|n+1=>ags (agr (λ_ _=>rfl) (ah2 (rF afb λ_ _ _ _ _=>rfl) (ah2 (agr (λ_ _=>rfl) (rF (afa n) λ_ _ _ _ _=>rfl)) (ah2 (rF (afa n) λ_ _ _ _ _=>rfl) (rF (afa n) λa r c b d=>by simp [axP,axL,mQ];rfl)))))
noncomputable def dg:W:=.lst ((List.range 8).map λd=>.int (d:Nat))
def gO(bk F its:W):Res W:=match aJ 4 [.id 0,its,dg,.bl false] ⟨0,0,bk,[F]⟩with|.nx _ s=>.ok (.lst (cut s.floors (some 1) none))|.ex c _=>.ex c|_=>.bad
noncomputable def aoK(a:Ws):Res W->Out|.ok w=>.rt w|.ex c=>.ex c (List.replicate a.length .no)|.bad=>.bad
def ad3{k t b j f i o}(l:k b=.ok [f,i])(h:yM t b j f i o):ja j k t b=aoK b o:=by
 unfold ja;rw[l];have g:∃o,yM t b j f i o:=⟨o,h⟩;dsimp ;rw[dif_pos g];have e:Classical.choose g=o:=by have d:=aqI g 0 0;have a:=h 0 0;cases e:t _ _ with|rt w s=>rw[e]at d a;rw[a];exact d|ex c σ'=>rw[e]at d a;rw[a.1];exact d.1|_=>rw[e]at a;exact a.elim
 rw[e];cases o<;>rfl
def gi{bk F its o}(h:gO bk F its=o)(j:o≠.bad):eG [bk,F,its]=o:=by
 have q:yM (cj (de 3 (aJ 4) (axP (ai 2) (axP (eLR (eC bV)) (axP (eC (.bl false)) axN)))) (aav 3 (eSl (cK "Run" 1 (ai 3)) (hU (eC (.int 1))) pNo))) [.va bk,.va F,.va its,.no] 3 bk F o:=by
  intro a r;have d:=afa 4 a r [its,dg,.bl false] bk [F];have f:∀p,aJ 4 [.id a,its,dg,.bl false] ⟨a,r,bk,[F]⟩=p->de 3 (aJ 4) (axP (ai 2) (axP (eLR (eC bV)) (axP (eC (.bl false)) axN))) [.va bk,.va F,.va its,.va (.id a)] ⟨a,r,bk,[F]⟩=ofM [.va bk,.va F,.va its,.va (.id a)] p:=λp e=>by have g:axP (ai 2) (axP (eLR (eC bV)) (axP (eC (.bl false)) axN)) [.va bk,.va F,.va its,.va (.id a)] (⟨a,r,bk,[F]⟩:Rn)=.ok [its,dg,.bl false]:=rfl;simp[de,g,e]
  unfold gO at h;unfold cj;simp only[arJ,List.set_cons_zero];cases e:aJ 4 [.id 0,its,dg,.bl false] ⟨0,0,bk,[F]⟩with|nx σ s=>rw[e]at d h;obtain⟨k,b,l,rfl,rfl,d⟩:=d;rw[f _ d];subst h;simp[aav,seen,cK,ahV,Rn.val,ofM]|ex c σ=>rw[e]at d h;obtain⟨i,d,_⟩:=d;rw[f _ d];exact⟨h.symm,rfl⟩|_=>rw[e]at h;exact(j h.symm).elim
 show run 4 ag4 _=_;rw[run_eq];show fin (ja 3 _ _ [.va bk,.va F,.va its,.no])=_;rw[ad3 rfl q];cases o<;>rfl
noncomputable abbrev CA:W:=.lst [.tup [.tup [],.tup [.tup [.str "turn",.str "left"]]]]
noncomputable abbrev HL:W:=.tup [.tup [.int (-1),.int (-3),.int 1],.tup [.int 1,.int (-3),.int 1],.tup [.int 3,.int (-1),.int 2],.tup [.int 3,.int 1,.int 2],.tup [.int 1,.int 3,.int 3],.tup [.int (-1),.int 3,.int 3],.tup [.int (-3),.int 1,.int 0],.tup [.int (-3),.int (-1),.int 0]]
abbrev B1:W:=.ins "Book" [.dic [.str "a"] [CA]]
noncomputable abbrev cal(x:Str):W:=.tup [.str "call",.str x]
def r1:eG [B1,gv,.lst [cal "a"]]=.ok (.lst [HL]):=gi (by kernel_rfl) λz=>nomatch z
noncomputable def std(i:Nat)(x y:Int)(f:Nat):W:=.tup [.int x,.int y,.int (((f+i)%4:Nat):Int)]
def flo(i:Nat):W:=.tup [std i (-1) (-3) 0,std i 1 (-3) 0,std i 3 (-1) 1,std i 3 1 1,std i 1 3 2,std i (-1) 3 2,std i (-3) 1 3,std i (-3) (-1) 3]
noncomputable abbrev TM:W:=.exc "TooMany" []
def Hit(c n:Nat)(o:OX Rn):Prop:=(n+c<=400->∃b l i,i<4/\l.length=n+c/\o=.nx (.va (.id 0)::b) ⟨0,0,B1,l++[flo i]⟩)/\(400<n+c->∃a,o=.ex TM a)
def aiA(f:List W->Rn->OX Rn)(its:W)(c:Nat):Prop:=∀l i,i<4->l.length<=400->Hit c l.length (f [.id 0,its,dg,.bl false] ⟨0,0,B1,l++[flo i]⟩)
def aoW:∀i,i<4->iY [flo i,CA,dg,.bl false]=.ok (flo ((i+1)%4)):=by intro i a;rcases i with _|_|_|_|i<;>first|omega|kernel_rfl
def ac0:aiA jk (.str "a") 1:=λl i b g=>by
 have c:adQ Rn.a Rn.val 0 4 (eOp aak (eBi gE (aa (cK "Run" 1 (ai 0)) aq)) (eC (.int 1))) [.va (.id 0),.va (.str "a"),.va dg,.va (.bl false),.no,.no,.no] ⟨0,0,B1,l++[flo i]⟩=.nx [.va (.id 0),.va (.str "a"),.va dg,.va (.bl false),.va (.int l.length),.no,.no] ⟨0,0,B1,l++[flo i]⟩:=by simp[adQ,seen,cK,ahV,Rn.val]
 show Hit 1 l.length (fL [.va (.id 0),.va (.str "a"),.va dg,.va (.bl false),.no,.no,.no] ⟨0,0,B1,l++[flo i]⟩);unfold fL cj;rw[c];dsimp only;refine⟨λh=>?_,λh=>?_⟩
 .have a:¬(l.length:Int)=400:=by omega
  have f:aR (sIf (tB (eOp oEq (ai 4) (eC cf))) (bM "TooMany" (aa (eFf (eC cf)) aq)) sNx) [.va (.id 0),.va (.str "a"),.va dg,.va (.bl false),.va (.int l.length),.no,.no] (⟨0,0,B1,l++[flo i]⟩:Rn)=.nx [.va (.id 0),.va (.str "a"),.va dg,.va (.bl false),.va (.int l.length),.no,.no] ⟨0,0,B1,l++[flo i]⟩:=by simp[aR,cf,a]
  have z:l.length+1<1000000:=by omega
  refine⟨[.va (.str "a"),.va dg,.va (.bl false),.va (.int l.length),.va CA,.no],l++[flo i],(i+1)%4,by omega,by simp,?_⟩;rw[f];dsimp only;have e:plain (flo ((i+1)%4))=true:=rfl;have d:yP Rn.a Rn.aij 0 5 (nY "Book" fR (cK "Run" 0 (ai 0)) (aa (ai 1) aq)) [.va (.id 0),.va (.str "a"),.va dg,.va (.bl false),.va (.int l.length),.no,.no] ⟨0,0,B1,l++[flo i]⟩=.nx _ ⟨0,0,B1,l++[flo i]⟩:=rfl;rw[d];simp[u6,seen,cK,ahV,Rn.val,yG,aoW i b,e,z]
 .have a:l.length=400:=by omega
  refine⟨[.va (.id 0),.va (.str "a"),.va dg,.va (.bl false),.va (.int 400),.no,.no],?_⟩;rw[a];rfl
theorem Hit.ofM{c n o xs}(h:Hit c n o):Hit c n (ofM (.va (.id 0)::xs) o):=⟨λz=>by obtain⟨_,l,i,a,b,rfl⟩:=h.1 z;exact⟨xs,l,i,a,b,rfl⟩,λz=>by obtain⟨_,rfl⟩:=h.2 z;exact⟨_,rfl⟩⟩
def ahQ(f):aiA (runM 6 (cD f)) (.lst [cal "a"]) 1:=λl i c j=>by
 have h:=(ac0 l i c j).ofM (xs:=[.va (.lst [cal "a"]),.va dg,.va (.bl false),.va (cal "a"),.no]);have e:runM 6 (cD f) [.id 0,.lst [cal "a"],dg,.bl false] ⟨0,0,B1,l++[flo i]⟩=xlp (ofM (.va (.id 0)::[.va _,.va dg,.va (.bl false),.va (cal "a"),.no]) _) _:=dU ..;rw[e];refine⟨λz=>?_,λz=>?_⟩;.obtain⟨xs,d,a,k,g,b⟩:=h.1 z;rw[b];exact⟨xs,d,a,k,g,rfl⟩
 .obtain⟨m,h⟩:=h.2 z;rw[h];exact⟨m,rfl⟩
theorem yc{f its c}(h:aiA f its c){m}:∀ws x y l i,i<4->l.length<=400->Hit (ws.length*c) l.length (lE 5 (cS f) ws [.va (.id 0),x,.va dg,.va (.bl false),.va (.tup [.str "times",m,its]),y] ⟨0,0,B1,l++[flo i]⟩)
|[],x,y,l,i,hi,hl=>⟨λ_=>⟨_,l,i,hi,by simp,rfl⟩,λz=>by simp at z;omega⟩|w::ws,x,y,l,i,hi,hl=>by
  have g:=(h l i hi hl).ofM (xs:=[x,.va dg,.va (.bl false),.va (.tup [.str "times",m,its]),.va w]);rw[dU];show Hit _ _ (xlp (ofM (.va (.id 0)::[x,.va dg,.va (.bl false),.va (.tup [.str "times",m,its]),.va w]) (f [.id 0,its,dg,.bl false] ⟨0,0,B1,l++[flo i]⟩)) _);have s:(w::ws).length*c=c+ws.length*c:=by simp[Nat.succ_mul,Nat.add_comm]
  rw[s];by_cases z:l.length+c<=400
  .obtain⟨xs,k,j,p,r,d⟩:=g.1 z;have n:xs=[x,.va dg,.va (.bl false),.va (.tup [.str "times",m,its]),.va w]:=by revert d;generalize f [.id 0,its,dg,.bl false] ⟨0,0,B1,l++[flo i]⟩=o;intro d;cases o<;>first|(cases d;rfl)|cases d
   subst n;rw[d];have e:=yc h (m:=m) ws x (.va w) k j p (by omega);rw[r]at e;exact⟨λz=>e.1 (by omega)|>.imp λ_⟨l,i,a,b,c⟩=>⟨l,i,a,by omega,c⟩,λz=>e.2 (by omega)⟩
  .obtain⟨q,h⟩:=g.2 (by omega);rw[h];exact⟨λy=>by omega,λ_=>⟨q,rfl⟩⟩
noncomputable abbrev tms(m its:W):W:=.tup [.str "times",m,its]
def acb{f x m its a}:cT f [.va (.id 0),x,.va dg,.va (.bl false),.va (tms m its),.no] ⟨0,0,B1,a⟩=jY (gz (eOp oIx (ai 4) (eC (.int 1)))) 5 (cS f) [.va (.id 0),x,.va dg,.va (.bl false),.va (tms m its),.no] ⟨0,0,B1,a⟩:=by rfl
def yr{f its c ws m}(h:aiA f its c)(e:∀x,gz (eOp oIx (ai 4) (eC (.int 1))) [.va (.id 0),x,.va dg,.va (.bl false),.va (tms m its),.no]=.ok ws):aiA (runM 6 (cD f)) (.lst [tms m its]) (ws.length*c):=λl i o g=>by
 have h:=yc h (m:=m) ws (.va (.lst [tms m its])) .no l i o g;rw[show lE 5 (cS f) ws _ _=cT f _ ⟨0,0,B1,l++[flo i]⟩by rw[acb];unfold jY;rw[e]]at h;have e:runM 6 (cD f) [.id 0,.lst [tms m its],dg,.bl false] ⟨0,0,B1,l++[flo i]⟩=xlp (cT f [.va (.id 0),.va (.lst [tms m its]),.va dg,.va (.bl false),.va (tms m its),.no] ⟨0,0,B1,l++[flo i]⟩) λa s=>.nx a s:=dU ..;rw[e];refine⟨λz=>?_,λz=>?_⟩;.obtain⟨k,d,b,j,p,n⟩:=h.1 z;rw[n];exact⟨k,d,b,j,p,rfl⟩
 .obtain⟨a,h⟩:=h.2 z;rw[h];exact⟨a,rfl⟩
def r2a:aiA (runM 6 (cD (aJ 3))) (.lst [tms (.int 60) (.lst [tms (.int 7) (.lst [cal "a"])])]) ((rng 0 60).length*((rng 0 7).length*1)):=yr (yr (ahQ _) λ_=>rfl) λ_=>rfl
def aoP:(rng 0 60).length*((rng 0 7).length*1)=420:=rfl
def r2b:∃a,aJ 4 [.id 0,.lst [tms (.int 60) (.lst [tms (.int 7) (.lst [cal "a"])])],dg,.bl false] ⟨0,0,B1,[]++[flo 1]⟩=.ex TM a:=(r2a _ 1 (by simp) (by simp)).2 (by decide)
def amX{bk F its c}(h:∃a,aJ 4 [.id 0,its,dg,.bl false] ⟨0,0,bk,[F]⟩=.ex c a):gO bk F its=.ex c:=by obtain⟨a,h⟩:=h;unfold gO;rw[h]
def r2:eG [B1,flo 1,.lst [tms (.int 60) (.lst [tms (.int 7) (.lst [cal "a"])])]]=.ex TM:=gi (amX r2b) λz=>nomatch z
noncomputable abbrev xa:Str:="> turn left"
noncomputable abbrev xb:Str:="at 0 2 partner > right 2 ; at 0 -2 partner > left 2 ; > stay"
noncomputable abbrev xd:Str:="at 9 9 any > stay"
noncomputable abbrev CB:W:=.lst [.tup [.tup [.tup [.str "at",.int 0,.int 2,.str "partner"]],.tup [.tup [.str "right",.int 2]]],.tup [.tup [.tup [.str "at",.int 0,.int (-2),.str "partner"]],.tup [.tup [.str "left",.int 2]]],.tup [.tup [],.tup [.tup [.str "stay"]]]]
noncomputable abbrev CD:W:=.lst [.tup [.tup [.tup [.str "at",.int 9,.int 9,.str "any"]],.tup [.tup [.str "stay"]]]]
abbrev T1:W:=.dic [.str "a"] [.str xa]
abbrev T2:W:=.dic [.str "a",.str "b"] [.str xa,.str xb]
abbrev T3:W:=.dic [.str "a",.str "b",.str "bad"] [.str xa,.str xb,.str xd]
abbrev B2:W:=.ins "Book" [.dic [.str "a",.str "b"] [CA,CB]]
abbrev B3:W:=.ins "Book" [.dic [.str "a",.str "b",.str "bad"] [CA,CB,CD]]
def k1:fA [T1]=.ok (.dic [.str "a"] [CA]):=by kernel_rfl
def k2:fA [T2]=.ok (.dic [.str "a",.str "b"] [CA,CB]):=by kernel_rfl
def k3:fA [T3]=.ok (.dic [.str "a",.str "b",.str "bad"] [CA,CB,CD]):=by kernel_rfl
noncomputable abbrev bl0:W:=.exc "Blind" [.int 0]
noncomputable abbrev brk(n:Int)(w:W):W:=.exc "Broken" [.int n,w]
noncomputable abbrev hds(i:W):W:=.tup [.str "some",.str "heads",i]
noncomputable abbrev cpl(i:W):W:=.tup [.str "couples",i]
def q1:eG [B3,gv,.lst [cal "bad"]]=.ex (brk 0 bl0):=gi (by kernel_rfl) λz=>nomatch z
def q2:eG [B3,HL,.lst [cal "bad"]]=.ex (brk 0 bl0):=gi (by kernel_rfl) λz=>nomatch z
def q3:eG [B3,gv,.lst [cal "a",cal "bad"]]=.ex (brk 1 bl0):=gi (by kernel_rfl) λz=>nomatch z
def q4:eG [B3,HL,.lst [cal "a",cal "bad"]]=.ex (brk 1 bl0):=gi (by kernel_rfl) λz=>nomatch z
def q5:eG [B3,gv,.lst [tms (.int 2) (.lst [cal "a"]),cal "bad"]]=.ex (brk 2 bl0):=gi (by kernel_rfl) λz=>nomatch z
def q6:eG [B3,HL,.lst [tms (.int 2) (.lst [cal "a"]),cal "bad"]]=.ex (brk 2 bl0):=gi (by kernel_rfl) λz=>nomatch z
def q7:eG [B3,gv,.lst [hds (.lst [cpl (.lst [cal "a"])])]]=.ex (brk 0 (.exc "NoPairs" [])):=gi (by kernel_rfl) λz=>nomatch z
def q8:eG [B3,HL,.lst [hds (.lst [cpl (.lst [cal "a"])])]]=.ex (brk 0 (.exc "NoPairs" [])):=gi (by kernel_rfl) λz=>nomatch z
def q9:eG [B3,HL,.lst [cpl (.lst [cal "a"])]]=.ex (brk 0 (.exc "NoPairs" [])):=gi (by kernel_rfl) λz=>nomatch z
def qa:eG [B3,gv,.lst [cal "a"]]=.ok (.lst [HL]):=gi (by kernel_rfl) λz=>nomatch z
def ak1{α j a s}{z o:α}(h:a[j]?=some (.va (.id s.a))):atD j a s z o=o:=by unfold atD;rw[h];exact apa rfl
def ahf{j a s}(h:a[j]?=some (.va (.id s.a))):seen Dk.a Dk.val j a s=some (a.set j (.va s.val)):=by unfold seen;rw[h];exact apa rfl
def afC{j c b a ws w s' s}(e:a[j]?=some (.va (.id s.a)))(d:b a=.ok ws)(h:c (.id s.a::ws) s=.rt w s'):xeW j c b a s=some (w,s'):=by unfold xeW;rw[ak1 e,d];dsimp ;rw[h]
abbrev prt(m a b c:Str):Prop:=jM (.str m) [.str " "]=.ok (.tup [.str a,.str b,.str c])
section
variable{a p:Nat}{B F wd w0:W}{P ks us:List W}{r m n x:Str}{s:Dk}
def aeN(e:prt m n " " x)(f:n≠"")(c:fA [.dic [.str n] [.str x]]=.ok w0)(d:ks.length<1000000)(b:fA [.dic (putK ks (.str n)) (af5 ks us (.str n) (.str x))]=.ok wd):cb [.id a,.str m] ⟨a,p,.dic ks us,B,F,P⟩=.rt (.str "ok") ⟨a,p,.dic (putK ks (.str n)) (af5 ks us (.str n) (.str x)),.ins "Book" [wd],F,P⟩:=by have s1:aal (.str n)=true:=rfl;have s2:bS [.str n]=true:=rfl;simp[cb,runM,dk,cj,e,aR,sr,gZ,s2,c,f,xI,ae5,atD,Dk.get,xG,iB,putD,s1,d,yQ,lq,b,Dk.put]
def fk{o}(c:prt r m " " x)(h:bj [.id s.a,.str m,.str x] s=.rt w0 o):ay [.id s.a,.str r] s=.rt w0 o:=by have b:isK (.str r) "str"=some true:=rfl;simp[ay,runM,fM,cj,c,b,aR,xIf,wV,xT,seen,gw,xeW,atD,h,xNx]
def iv{o}(h:cb [.id s.a,.str x] s=.rt w0 o):bj [.id s.a,.str "call",.str x] s=.rt w0 o:=by simp[bj,runM,cA,cj,xIf,wV,xT,seen,gw,xeW,atD,h]
def tX{o}(h:cB [.id s.a,.str x] s=.rt w0 o):bj [.id s.a,.str "run",.str x] s=.rt w0 o:=by simp[bj,runM,cA,cj,xIf,wV,xT,seen,gw,xeW,atD,h,xNx]
def anE{T its g}(d:aE [B,.str x]=.ok its)(b:eG [B,F,its]=.ok (.lst [g]))(c:P.length<1000000):cB [.id a,.str x] ⟨a,p,T,B,F,P⟩=.rt (.str "1") ⟨a,p,T,B,g,P++[F]⟩:=by have e:lj [F,.lst [g]]=.ok g:=rfl;have f:r6 [.int 1]=.ok (.str "1"):=rfl;simp[cB,runM,dE,cj,sr,aR,ae5,atD,Dk.get,d,b,agJ,c,yQ,e,Dk.put,f]
def akW{T}:ay [.id a,.str "back"] ⟨a,p,T,B,F,[w0]⟩=.rt (.str "ok") ⟨a,p,T,B,w0,[]⟩:=by
 have e:prt "back" "back" "" "":=by kernel_rfl
 have c:tL (cK "Desk" 3 (ai 0)) [.va (.ins "Desk" [T,B,F,.lst [w0]])]=.ok true:=rfl;have b:isK (.str "back") "str"=some true:=rfl;simp[ay,runM,fM,cj,e,b,aR,xIf,wV,xT,seen,gw,xeW,atD,xNx,gu,dD,ij,eh,agI,Dk.val,c]
end
abbrev HM:=gv
def D0(a p:Nat):Dk:=⟨a,p,.dic [] [],lY,HM,[]⟩
def D1(a p:Nat):Dk:=⟨a,p,T1,B1,HM,[]⟩
def D2(a p:Nat):Dk:=⟨a,p,T2,B2,HM,[]⟩
def D3(a p:Nat):Dk:=⟨a,p,T3,B3,HM,[]⟩
def E1(a p:Nat):Dk:=⟨a,p,T1,B1,HL,[HM]⟩
def E3(a p:Nat):Dk:=⟨a,p,T3,B3,HL,[HM]⟩
def w1(a p):ay [.id a,.str "call a > turn left"] (D0 a p)=.rt (.str "ok") (D1 a p):=fk (x:="a > turn left") (by kernel_rfl) (iv (s:=D0 a p) (aeN (x:=xa) (by kernel_rfl) (by decide) k1 (by decide) k1))
def w2(a p):ay [.id a,.str "call b at 0 2 partner > right 2 ; at 0 -2 partner > left 2 ; > stay"] (D1 a p)=.rt (.str "ok") (D2 a p):=fk (x:="b at 0 2 partner > right 2 ; at 0 -2 partner > left 2 ; > stay") (by kernel_rfl) (iv (s:=D1 a p) (aeN (n:="b") (x:=xb) (w0:=.dic [.str "b"] [CB]) (by kernel_rfl) (by decide) (by kernel_rfl) (by decide) k2))
def w3(a p):ay [.id a,.str "call bad at 9 9 any > stay"] (D2 a p)=.rt (.str "ok") (D3 a p):=fk (x:="bad at 9 9 any > stay") (by kernel_rfl) (iv (s:=D2 a p) (aeN (n:="bad") (x:=xd) (w0:=.dic [.str "bad"] [CD]) (by kernel_rfl) (by decide) (by kernel_rfl) (by decide) k3))
def w4(a p):ay [.id a,.str "run a"] (D1 a p)=.rt (.str "1") (E1 a p):=fk (s:=D1 a p) (x:="a") (by kernel_rfl) (tX (anE (by kernel_rfl) r1 (by simp)))
def w5(a p):ay [.id a,.str "run a"] (D3 a p)=.rt (.str "1") (E3 a p):=fk (x:="a") (by kernel_rfl) (tX (anE (by kernel_rfl) qa (by decide)))
def w6(a p):ay [.id a,.str "back"] (E1 a p)=.rt (.str "ok") (D1 a p):=akW
def w7(a p):ay [.id a,.str "back"] (E3 a p)=.rt (.str "ok") (D3 a p):=akW
abbrev V3:W:=.ins "Desk" [T3,B3,HM,.lst []]
abbrev VE:W:=.ins "Desk" [T3,B3,HL,.lst [HM]]
noncomputable def isT:Res W->Bool|.ok (.bl true)=>true|_=>false
def yo{o}(h:isT o=true):o=.ok (.bl true):=by
 unfold isT at h;split at h;.rfl
 .cases h
def chk(V:W)(p:Int)(m:Nat)(g:List W->Res W):Bool:=(List.range m).all λn=>match g [.int n]with|.ok r=>isT (aD [V,r,.int p])|_=>false
def Rfd(V:W)(p:Int)(g:List W->Res W):Prop:=∀k:Int,∃r,g [.int k]=.ok r/\aD [V,r,.int p]=.ok (.bl true)
set_option tactic.hygienic true in
def kR{V p g}(m)(c:0<m)(h:chk V p m g=true)(b:∀k,g [.int k]=g [.int (k%m)]):Rfd V p g:=λk=>by
 rw[b];obtain⟨n,a⟩:=Int.eq_ofNat_of_zero_le (Int.emod_nonneg k (show(m:Int)≠0 by omega));have d:=Int.emod_lt_of_pos k (show(0:Int)<m by omega);have h:=apY.mp h n (aq2.mpr (by omega));rw[a];split at h;.rename_i r e;exact⟨r,e,yo h⟩
 .cases h
def ji(a)(o):fin (ofR a o λw=>.rt w)=o:=by cases o<;>rfl
def nr(k):bT [.int k]=bT [.int (k%(44:Nat))]:=by simp[bT,gU,ji]
def nn(k):bG [.int k]=bG [.int (k%(12:Nat))]:=by simp[bG,fH,ji]
def nc(k):bH [.int k]=bH [.int (k%(32:Nat))]:=by
 have a:k%32/16%2=k/16%2:=by omega
 have b:=by omega
 simp[bH,fJ,b,ji]
def np(k):aV [.int k]=aV [.int (k%(28:Nat))]:=by
 have a:k%28/14%2=k/14%2:=by omega
 have b:=by omega
 simp[aV,dC,b,ji]
def o0:Rfd V3 1 bT:=kR _ (by simp) (by kernel_rfl) nr
def o1:Rfd V3 2 bG:=kR _ (by simp) (by kernel_rfl) nn
def o2:Rfd V3 3 bH:=kR _ (by simp) (by kernel_rfl) nc
def o3:Rfd V3 4 aV:=kR _ (by simp) (by kernel_rfl) np
def p0:Rfd VE 1 bT:=kR _ (by simp) (by kernel_rfl) nr
def p1:Rfd VE 2 bG:=kR _ (by simp) (by kernel_rfl) nn
def p2:Rfd VE 3 bH:=kR _ (by simp) (by kernel_rfl) nc
def p3:Rfd VE 4 aV:=kR _ (by simp) (by kernel_rfl) np
section
variable{T B F P V c its w:W}{r m x:Str}{n:Int}
noncomputable abbrev dsk(T B F P:W):W:=.ins "Desk" [T,B,F,P]
def acC(a)(o)(k):fin (aje (ofR a o λw=>.rt w) k)=o:=by cases o<;>rfl
def xD(b:prt r m " " x):av [dsk T B F P,.str r]=bC [dsk T B F P,.str m,.str x]:=by have a:isK (.str r) "str"=some true:=rfl;simp[av,j2,b,a,aO,isN,ji]
def aeG:bC [dsk T B F P,.str "run",.str x]=cV [dsk T B F P,.str x]:=by simp[bC,cQ,aO,isN,acC]
def zu:bC [dsk T B F P,.str "round",.str x]=bZ [dsk T B F P,.str x]:=by simp[bC,cQ,aO,isN,acC]
def ad9(b:aE [B,.str x]=.ok its)(a:eG [B,F,its]=.ex c):cV [dsk T B F P,.str x]=.ex c:=by simp[cV,eg,cK,ahV,b,a]
def behind(a:eG [B,F,its]=.ex (brk n w))(b:iQ (.int n)=true):ig [B,F,its,.int 0]=.ex (brk n w):=by simp[ig,gT,xF,eY,a,akT,b]
def aec(a:eG [B,F,its]=.ex (brk n w))(d:iQ (.int n)=true):kg [B,F,its]=.ex (brk n w):=by have e:ami jq=.ok _:=rfl;have f:rng 0 60=.int 0::rng 1 59:=rfl;have b:oIx (.lst [F]) (.int (-1))=.ok F:=rfl;simp[kg,j1,e,f,h8,acz,b,behind a d]
def ze(d:aE [B,.str x]=.ok its)(a:eG [B,F,its]=.ex (brk n w))(b:iQ (.int n)=true):bZ [dsk T B F P,.str x]=.ex (brk n w):=by simp[bZ,dj,cK,ahV,d,aec a b]
def hI(a:prt r "run" " " x)(d:aE [B,.str x]=.ok its)(b:eG [B,F,its]=.ex c):av [dsk T B F P,.str r]=.ex c:=by rw[xD a,aeG,ad9 d b]
def fj(a:prt r "round" " " x)(e:aE [B,.str x]=.ok its)(b:eG [B,F,its]=.ex (brk n w))(d:iQ (.int n)=true):av [dsk T B F P,.str r]=.ex (brk n w):=by rw[xD a,zu,ze e b d]
def afM{p y z}(a:isN "Desk" V=true)(h:av [V,.str r]=.ex c):cO [.va V,.va (.str r),.va p,y,z]=.ex c [.va V,.va (.str r),.va p,y,z]:=by simp[cO,aO,a,h]
def abo(a:isN "Desk" V=true)(h:av [V,.str r]=.ex (brk n w)):aD [V,.str r,.int 5]=.ok (.bl true):=by show fin (aB _ _ [.va V,.va _,.va _,.ow _,.no])=_;unfold aB pO;rw[afM a h];kernel_rfl
def aoE(a:isN "Desk" V=true)(h:av [V,.str r]=.ex TM):aD [V,.str r,.int 7]=.ok (.bl true):=by show fin (aB _ _ [.va V,.va _,.va _,.ow _,.no])=_;unfold aB pO;rw[afM a h];kernel_rfl
def am1(a:isN "Desk" V=true)(h:av [V,.str r]=.ex (brk n bl0))(b:n=0\/n=1\/n=2):ba [V,.str r,.int n]=.ok (.bl true):=by
 have e:dr [.va V,.va (.str r),.va (.int n),.va .non,.va .non,.no]=.ex (brk n bl0) [.va V,.va (.str r),.va (.int n),.va .non,.va .non,.no]:=by simp[dr,aO,a,h]
 show run 6 gV _=_;rw[run_eq];show fin (aB _ _ [.va V,.va (.str r),.va (.int n),.va .non,.va .non,.no])=_;unfold aB pO;rw[e];rcases b with rfl|rfl|rfl<;>kernel_rfl
end
def Vt:Bool->W|true=>VE|false=>V3
abbrev i1:W:=.lst [cal "bad"]
abbrev i2:W:=.lst [cal "a",cal "bad"]
abbrev i3:W:=.lst [tms (.int 2) (.lst [cal "a"]),cal "bad"]
abbrev i4:W:=.lst [hds (.lst [cpl (.lst [cal "a"])])]
abbrev i5:W:=.lst [cpl (.lst [cal "a"])]
def a1:aE [B3,.str "bad"]=.ok i1:=by kernel_rfl
def a2:aE [B3,.str "a bad"]=.ok i2:=by kernel_rfl
def a3:aE [B3,.str "2 times ( a ) bad"]=.ok i3:=by kernel_rfl
def a4:aE [B3,.str "heads ( couples ( a ) )"]=.ok i4:=by kernel_rfl
def a5:aE [B3,.str "couples ( a )"]=.ok i5:=by kernel_rfl
def b1:prt "run bad" "run" " " "bad":=by kernel_rfl
def b2:prt "run a bad" "run" " " "a bad":=by kernel_rfl
def b3:prt "round bad" "round" " " "bad":=by kernel_rfl
def b4:prt "run heads ( couples ( a ) )" "run" " " "heads ( couples ( a ) )":=by kernel_rfl
def b5:prt "round a bad" "round" " " "a bad":=by kernel_rfl
def b6:prt "run couples ( a )" "run" " " "couples ( a )":=by kernel_rfl
def b7:prt "round 2 times ( a ) bad" "round" " " "2 times ( a ) bad":=by kernel_rfl
def s1:∀t,av [Vt t,.str "run bad"]=.ex (brk 0 bl0)|true=>hI b1 a1 q2|false=>hI b1 a1 q1
def s2:∀t,av [Vt t,.str "run a bad"]=.ex (brk 1 bl0)|true=>hI b2 a2 q4|false=>hI b2 a2 q3
def s3:∀t,av [Vt t,.str "round bad"]=.ex (brk 0 bl0)|true=>fj b3 a1 q2 rfl|false=>fj b3 a1 q1 rfl
def s4:∀t,av [Vt t,.str "run heads ( couples ( a ) )"]=.ex (brk 0 (.exc "NoPairs" []))|true=>hI b4 a4 q8|false=>hI b4 a4 q7
def s5:∀t,av [Vt t,.str "round a bad"]=.ex (brk 1 bl0)|true=>fj b5 a2 q4 rfl|false=>fj b5 a2 q3 rfl
def s6:av [VE,.str "run couples ( a )"]=.ex (brk 0 (.exc "NoPairs" [])):=hI b6 a5 q9
def s7:∀t,av [Vt t,.str "round 2 times ( a ) bad"]=.ex (brk 2 bl0)|true=>fj b7 a3 q6 rfl|false=>fj b7 a3 q5 rfl
def vN:∀t,isN "Desk" (Vt t)=true|true=>rfl|false=>rfl
def Rp(t:Bool)(o:Res W):Prop:=∃r p,o=.ok (.tup [r,p])/\aD [Vt t,r,p]=.ok (.bl true)
def aoB(k):aU [.int k,.bl true]=aU [.int (k%(7:Nat)),.bl true]:=by simp[aU,cP,ji]
def aoC(k):aU [.int k,.bl false]=aU [.int (k%(6:Nat)),.bl false]:=by simp[aU,cP,ji]
def al5(k):∀t,Rp t (aU [.int k,.bl t])
|true=>by
 rw[aoB];have:k%(7:Nat)=0\/k%(7:Nat)=1\/k%(7:Nat)=2\/k%(7:Nat)=3\/k%(7:Nat)=4\/k%(7:Nat)=5\/k%(7:Nat)=6:=by omega
 rcases this with h|h|h|h|h|h|h<;>rw[h];.exact⟨_,_,by kernel_rfl,abo (vN true) (s1 true)⟩
 .exact⟨_,_,by kernel_rfl,abo (vN true) (s2 true)⟩
 .exact⟨_,_,by kernel_rfl,abo (vN true) (s3 true)⟩
 .exact⟨_,_,by kernel_rfl,abo (vN true) (s4 true)⟩
 .exact⟨_,_,by kernel_rfl,abo (vN true) (s5 true)⟩
 .exact⟨.str "pairs",.int 6,by kernel_rfl,by kernel_rfl⟩
 .exact⟨_,_,by kernel_rfl,abo (vN true) s6⟩|false=>by
 rw[aoC];have:k%(6:Nat)=0\/k%(6:Nat)=1\/k%(6:Nat)=2\/k%(6:Nat)=3\/k%(6:Nat)=4\/k%(6:Nat)=5:=by omega
 rcases this with h|h|h|h|h|h<;>rw[h];.exact⟨_,_,by kernel_rfl,abo (vN false) (s1 false)⟩
 .exact⟨_,_,by kernel_rfl,abo (vN false) (s2 false)⟩
 .exact⟨_,_,by kernel_rfl,abo (vN false) (s3 false)⟩
 .exact⟨_,_,by kernel_rfl,abo (vN false) (s4 false)⟩
 .exact⟨_,_,by kernel_rfl,abo (vN false) (s5 false)⟩
 .exact⟨.str "back",.int 2,by kernel_rfl,by kernel_rfl⟩
def n0:∀t,Rfd (Vt t) 1 bT|true=>p0|false=>o0
def n1:∀t,Rfd (Vt t) 2 bG|true=>p1|false=>o1
def n2:∀t,Rfd (Vt t) 3 bH|true=>p2|false=>o2
def n3:∀t,Rfd (Vt t) 4 aV|true=>p3|false=>o3
def pick(z)(t):Rp t (dm [.int z,.bl t]):=by
 have:z%5=0\/z%5=1\/z%5=2\/z%5=3\/z%5=4:=by omega
 rcases this with h|h|h|h|h;.obtain⟨r,e,a⟩:=n0 t (z/5);exact⟨r,.int 1,by simp[dm,di,h,e],a⟩
 .obtain⟨r,e,a⟩:=n1 t (z/5);exact⟨r,.int 2,by simp[dm,di,h,e],a⟩
 .obtain⟨r,e,a⟩:=n2 t (z/5);exact⟨r,.int 3,by simp[dm,di,h,e],a⟩
 .obtain⟨r,e,a⟩:=n3 t (z/5);exact⟨r,.int 4,by simp[dm,di,h,e],a⟩
 .obtain⟨r,p,e,a⟩:=al5 (z/5) t;exact⟨r,p,by simp[dm,di,h,e],a⟩
def Dt(a p:Nat):Bool->Dk|true=>E3 a p|false=>D3 a p
def alE(a p):∀t,(Dt a p t).a=a|true=>rfl|false=>rfl
def alD(a p):∀t,(Dt a p t).val=Vt t|true=>rfl|false=>rfl
noncomputable abbrev fl0:Str:="-1,-3,0 1,-3,0 3,-1,1 3,1,1 1,3,2 -1,3,2 -3,1,3 -3,-1,3"
noncomputable abbrev fl1:Str:="-1,-3,1 1,-3,1 3,-1,2 3,1,2 1,3,3 -1,3,3 -3,1,0 -3,-1,0"
def flt:Bool->W|true=>.str fl1|false=>.str fl0
noncomputable def alt:Bool->W|true=>.str "no"|false=>.str "yes"
noncomputable abbrev abb:W:=.str "a b bad"
def c1:∀t,av [Vt t,.str "calls"]=.ok abb|true=>by kernel_rfl|false=>by kernel_rfl
def c2:∀t,av [Vt t,.str "floor"]=.ok (flt t)|true=>by kernel_rfl|false=>by kernel_rfl
def c3:∀t,av [Vt t,.str "alike"]=.ok (alt t)|true=>by kernel_rfl|false=>by kernel_rfl
def due(t:Bool):W:=.lst [abb,flt t,alt t]
def akJ:∀t,oNe (due t) (due t)=.ok (.bl false)|true=>by kernel_rfl|false=>by kernel_rfl
abbrev sg(a:Nat)(ns:W)(t:Bool)(x y z:Sl):Ws:=[.va ns,.va (.id a),.va (.bl t),.va (due t),x,y,z]
def body(a p)(ns)(t)(c)(y z):∃b d,jf (sg a ns t (.va (.int c)) y z) (Dt a p t)=.nx (sg a ns t (.va (.int c)) b d) (Dt a p t):=by obtain⟨r,q,e,f⟩:=pick (c*69621%2147483629) t;refine⟨.va r,.va q,?_⟩;have em:zp (.int c) (.int 69621)=.ok (.int (c*69621)):=ajT c (by decide) (by decide);have g:oNe (.lst _) (due t)=.ok (.bl false):=akJ t;simp[jf,sg,cj,aR,em,e,xIf,wV,xT,seen,alE,alD,f,aO,vN,c1,c2,c3,g,xNx]
theorem loop(a p)(ns)(t):∀(g:List Int)x y z,∃b d f,lE 4 jf (g.map .int) (sg a ns t x y z) (Dt a p t)=.nx (sg a ns t b d f) (Dt a p t)|[],x,y,z=>⟨x,y,z,rfl⟩|c::g,x,y,z=>by obtain⟨h,z1,e⟩:=body a p ns t c y z;obtain⟨b,d,f,i⟩:=loop a p _ t g _ h z1;refine⟨b,d,f,?_⟩;show xlp (jf (sg a ns t _ y z) _) _=_;rw[e];exact i
def mB{t a j c b w}(h:adB t a j c b w):hJ j (.ok c) b t a=.rt w:=by have d:∃w,adB t a j _ _ w:=⟨w,h⟩;unfold hJ;dsimp ;rw[dif_pos d];obtain⟨s1,f⟩:=aqI d 0 0;obtain⟨s2,e⟩:=h 0 0;rw[f]at e;rw[(OX.rt.inj e).1]
abbrev VE1:W:=.ins "Desk" [T1,B1,HL,.lst [HM]]
abbrev V1:W:=.ins "Desk" [T1,B1,HM,.lst []]
noncomputable abbrev lng:Str:="run 60 times ( 7 times ( a ) )"
def z1:aE [B1,.str "60 times ( 7 times ( a ) )"]=.ok (.lst [tms (.int 60) (.lst [tms (.int 7) (.lst [cal "a"])])]):=by kernel_rfl
def z2:prt lng "run" " " "60 times ( 7 times ( a ) )":=by kernel_rfl
def z3:aD [VE1,.str lng,.int 7]=.ok (.bl true):=aoE rfl (hI z2 z1 r2)
def z4:av [VE1,.str "floor"]=.ok (.str fl1):=by kernel_rfl
def z5:av [V1,.str "alike"]=.ok (.str "yes"):=by kernel_rfl
def ea(a p):(D0 a p).a=a/\(D1 a p).a=a/\(E1 a p).a=a:=⟨rfl,rfl,rfl⟩
def ev(a p):(E1 a p).val=VE1/\(D1 a p).val=V1:=⟨rfl,rfl⟩
def ad2:iX []=.ok (.bl true):=by show run 2 dt []=_;rw[run_eq];unfold dt;refine(aqq fin (mB λa p=>⟨D1 a p,?_⟩)).trans rfl;show cj _ _ [.va (.id a),.no] (D0 a p)=_;have c:WL.plain (.str fl1)=true:=rfl;have b:WL.plain (.bl true)=true:=rfl;simp[cj,adD,alb,xtE,sd,xeW,atD,ea,w1,w4,w6,xNx,adQ,seen,ev,aO,isN,z3,z4,z5,xIf,wV,xT,gw,oF,xeR,c,b]
def kp(T:W)(r:Str):Option (W×W):=match T with
|.dic ks us=>match jM (.str r) [.str " "]with
 |.ok (.tup [.str m,.str b,.str y])=>if m="call"/\b=" "then match jM (.str y) [.str " "]with
 |.ok (.tup [.str n,.str b,.str x])=>if b=" "/\n≠""/\ks.length<1000000 then match fA [.dic [.str n] [.str x]]with
 |.ok _=>match fA [.dic (putK ks (.str n)) (af5 ks us (.str n) (.str x))]with|.ok wd=>some (.dic (putK ks (.str n)) (af5 ks us (.str n) (.str x)),.ins "Book" [wd])|_=>none
  |_=>none else none|_=>none else none|_=>none
|_=>none
set_option tactic.hygienic true in
def agk{T r d B'}(h:kp T r=some (d,B'))(a p B F P):ay [.id a,.str r] ⟨a,p,T,B,F,P⟩=.rt (.str "ok") ⟨a,p,d,B',F,P⟩:=by
 unfold kp at h;split at h;case h_2=>cases h
 rename_i l q;split at h;case h_2=>cases h
 rename_i m b y k;split at h;case isFalse=>cases h
 rename_i j;obtain⟨rfl,rfl⟩:=j;split at h;case h_2=>cases h
 rename_i n b x i;split at h;case isFalse=>cases h
 rename_i c;obtain⟨rfl,c,f⟩:=c;split at h;case h_2=>cases h
 rename_i o g;split at h;case h_2=>cases h
 rename_i t e;cases h;exact fk (s:=⟨a,p,_,B,F,P⟩) k (iv (aeN i c g f e))
def anH(n:W):Res W:=(qX (.str "call ") n).bind λy=>qX y (.str " > stay")
noncomputable def wk6:List W->W->W->Option (W×W)|[],T,B=>some (T,B)|n::ns,T,B=>match anH n with
 |.ok (.str r)=>match kp T r with|some (T',B')=>wk6 ns T' B'|none=>none
 |_=>none
set_option tactic.hygienic true
theorem xf(a p)(X){d B'}:∀b T B y,wk6 b T B=some (d,B')->∃c,lE 2 bF b [.va (.id a),X,y] ⟨a,p,T,B,HM,[]⟩=.nx [.va (.id a),X,c] ⟨a,p,d,B',HM,[]⟩
|[],T,B,y,h=>by cases h;exact⟨y,rfl⟩|n::b,T,B,y,h=>by
 unfold wk6 at h;split at h;case h_2=>cases h
 rename_i r k;split at h;case h_2=>cases h
 rename_i T1 B1 f;obtain⟨c,e⟩:=xf a p X b T1 B1 (.va n) h;refine⟨c,?_⟩;rw[dU];have l:eOp qX (eOp qX (eC (.str "call ")) (ai 2)) (eC (.str " > stay")) [.va (.id a),X,.va n]=anH n:=rfl;have j:aa (eOp qX (eOp qX (eC (.str "call ")) (ai 2)) (eC (.str " > stay"))) aq [.va (.id a),X,.va n]=.ok [.str r]:=by simp_all
 have i:xeW 0 ay _ [.va (.id a),X,.va n] ⟨a,p,T,B,HM,[]⟩=some (.str "ok",⟨a,p,T1,B1,HM,[]⟩):=afC (s:=⟨a,p,T,B,HM,[]⟩) rfl j (agk f a p B HM []);have g:oNe (.str "ok") (.str "ok")=.ok (.bl false):=rfl;show xlp (bF [.va (.id a),X,.va n] ⟨a,p,T,B,HM,[]⟩) _=_;unfold bF adD xtE sd;rw[i];dsimp only;rw[g];exact e
set_option tactic.hygienic false
def nmE:EF:=gB 1 (gz (eC (.int 60))) (aN 0) oH (eOp qX (eOp aeA (eC (.str "abcdef")) (eOp oDiv (ai 0) (eC (.int 10)))) (eOp aeA (eC (.str "ghijklmnop")) (eOp oMod (ai 0) (eC (.int 10)))))
def NS:List W:=match nmE []with|.ok (.lst l)=>l|_=>[]
def amG(a):nmE [.va (.id a),.no,.no]=.ok (.lst NS):=by kernel_rfl
def ah9:EF:=eOp oEq (eBi gE (aa (me "str" fq (aO "Desk" av (ai 0) (aa (eC (.str "calls")) aq)) (aa (eC (.str " ")) aq)) aq)) (eC (.int 60))
abbrev vv(T B:W):W:=.ins "Desk" [T,B,HM,.lst []]
def ak4:Bool:=match wk6 NS (.dic [] []) lY with
|some (T,B)=>isT (aD [vv T B,.str "call zz > stay",.int 7])&&isT (aD [vv T B,.str "call zz stay",.int 3])&&match kp T "call ag > turn left"with|some (T',B')=>isT (ah9 [.va (vv T' B')])|none=>false
|none=>false
def aft:ak4=true:=by kernel_rfl
set_option tactic.hygienic true in
def afs:∃T B a b,wk6 NS (.dic [] []) lY=some (T,B)/\aD [vv T B,.str "call zz > stay",.int 7]=.ok (.bl true)/\aD [vv T B,.str "call zz stay",.int 3]=.ok (.bl true)/\kp T "call ag > turn left"=some (a,b)/\ah9 [.va (vv a b)]=.ok (.bl true):=by
 have h:=aft;unfold ak4 at h;split at h;case h_2=>cases h
 rename_i T B e;rw[apk,apk]at h;obtain⟨⟨g,d⟩,c⟩:=h;split at c;case h_2=>cases c
 rename_i a b f;exact⟨T,B,a,b,e,yo g,yo d,f,yo c⟩
def al6:nT []=.ok (.bl true):=by
 obtain⟨T,B,b,c,m,k,i,e,h⟩:=afs;show run 3 fG []=_;rw[run_eq];unfold fG;refine(aqq fin (mB (w:=.bl true) λa p=>⟨⟨a,p,b,c,HM,[]⟩,?_⟩)).trans rfl;show cj (aR (bh 1 nmE)) _ [.va (.id a),.no,.no] (⟨a,p,.dic [] [],lY,HM,[]⟩:Dk)=_;obtain⟨y,g⟩:=xf a p (.va (.lst NS)) NS (.dic [] []) lY .no m;have d:jY (se (ai 1)) 2 bF [.va (.id a),.va (.lst NS),.no] ⟨a,p,.dic [] [],lY,HM,[]⟩=.nx [.va (.id a),.va (.lst NS),y] ⟨a,p,T,B,HM,[]⟩:=g;have j:∀x y:Sl,ah9 [.va (vv b c),x,y]=.ok (.bl true):=λx y=>(show ah9 [.va (vv b c),x,y]=ah9 [.va (vv b c)]from rfl).trans h;have n:∀x y:Sl,xeR 0 ah9 [.va (.id a),x,y] ⟨a,p,b,c,HM,[]⟩=some (.bl true,⟨a,p,b,c,HM,[]⟩):=λx y=>by have o:WL.plain (.bl true)=true:=rfl;have q:seen Dk.a Dk.val 0 [.va (.id a),x,y] ⟨a,p,b,c,HM,[]⟩=some [.va (vv b c),x,y]:=ahf (s:=⟨a,p,b,c,HM,[]⟩) rfl;unfold xeR;rw[q];dsimp only;rw[j];exact apa o
 have f:aR (bh 1 nmE) [.va (.id a),.no,.no] (⟨a,p,.dic [] [],lY,HM,[]⟩:Dk)=.nx [.va (.id a),.va (.lst NS),.no] ⟨a,p,.dic [] [],lY,HM,[]⟩:=by unfold aR bh;rw[amG];rfl
 have l:=agk e a p B HM [];show cj (aR (bh 1 nmE)) (cj (jY (se (ai 1)) 2 bF) (cj _ (gw (oF _ (xeR 0 ah9))))) _ _=_;unfold cj;rw[f];dsimp only;rw[d];simp[xIf,wV,xT,seen,Dk.val,k,i,xNx,gw,oF,sd,xeW,atD,l,n]
def cell(ns:List Int):∃c,bI [.lst (ns.map .int),.int 0]=.ok (.int c):=by cases ns with|nil=>exact⟨0,rfl⟩|cons n ns=>simp[bI,fK]
def ah8(ns:List Int)(l h):cut (ns.map W.int) l h=(cut ns l h).map W.int:=by unfold cut;rw[apv,List.map_take,List.map_drop]
def bk0:aD [V3,.str "back",.int 2]=.ok (.bl true):=by kernel_rfl
def ea2(a p):(D0 a p).a=a/\(D1 a p).a=a/\(D2 a p).a=a/\(D3 a p).a=a/\(E3 a p).a=a:=⟨rfl,rfl,rfl,rfl,rfl⟩
def pl(t):WL.plain (flt t)=true/\WL.plain (alt t)=true:=by cases t<;>exact⟨rfl,rfl⟩
def fd1(t):ba [Vt t,.str "run bad",.int 0]=.ok (.bl true):=am1 (vN t) (s1 t) (.inl rfl)
def fd2(t):ba [Vt t,.str "run a bad",.int 1]=.ok (.bl true):=am1 (vN t) (s2 t) (.inr (.inl rfl))
def fd3(t):ba [Vt t,.str "round 2 times ( a ) bad",.int 2]=.ok (.bl true):=am1 (vN t) (s7 t) (.inr (.inr rfl))
def aoT:oEq (due false) (.lst [abb,.str fl0,.str "yes"])=.ok (.bl true):=by kernel_rfl
def aeK:∀d:List Int,d.length<=63->ahX [.lst (d.map .int)]=.ok (.bl true):=by
 intro d _;obtain⟨c,m⟩:=cell d;generalize eN:W.lst (d.map .int)=N at m;show run 7 ad4 [N]=_;rw[run_eq];unfold ad4;have q:∀(k:Int)(f:List W->Res W),f []=.ok (.bl true)->sIf (sQ (tB (eOp oEq (eOp oMod (aH bI (aa (ai 0) (aa (eC (.int 0)) aq))) (eC (.int 6))) (eC (.int k)))) (i9 (tB (aH f aq)))) dh sNx [.va N,.no,.no,.no,.no,.no,.no]=.nx [.va N,.no,.no,.no,.no,.no,.no]:=λk f B=>by by_cases u:c%6=k<;>simp[m,u,B]
 show fin (aB _ (aB _ _) [.va N,.no,.no,.no,.no,.no,.no])=_;unfold aB;rw[q 4 _ al6];dsimp only;rw[q 2 _ ad2];dsimp only;let t:Bool:=decide (c%2=1);refine(aqq fin (mB (w:=.bl true) λa p=>⟨D3 a p,?_⟩)).trans rfl;show cj _ _ [.va N,.va (.id a),.no,.no,.no,.no,.no] (D0 a p)=_;obtain⟨x,y,z,i⟩:=loop a p N t (cut d (some 1) (some 61)) .no .no .no;have i:jY (se (eSl (ai 0) (hU (eC (.int 1))) (hU (eC (.int 61))))) 4 jf (sg a N t .no .no .no) (Dt a p t)=.nx (sg a N t x y z) (Dt a p t):=by rw[<-i,<-ah8,<-eN];rfl
 have v:adD (yN (xtR 1 (tB (ai 2))) (xtE (sd oNe (xeW 1 ay (aa (eC (.str "run a")) aq)) (.str "1")))) (aR dh) xNx [.va N,.va (.id a),.va (.bl t),.no,.no,.no,.no] (D3 a p)=.nx [.va N,.va (.id a),.va (.bl t),.no,.no,.no,.no] (Dt a p t):=by cases t with|true=>simp[adD,yN,xtR,xT,seen,ea2,xtE,sd,xeW,atD,w5,xNx,Dt]|false=>simp[adD,yN,xtR,xT,seen,ea2,xtE,sd,xeW,atD,w5,xNx,Dt]
 have E:∀y,aR (bh 2 (eOp oEq (eOp oMod (aH bI (aa (ai 0) (aa (eC (.int 0)) aq))) (eC (.int 2))) (eC (.int 1)))) [.va N,.va (.id a),.no,.no,.no,.no,.no] (y:Dk)=.nx [.va N,.va (.id a),.va (.bl t),.no,.no,.no,.no] y:=λy=>by simp[aR,m,t]
 have l:∀{x s r},ay [.id a,.str x] s=.rt (.str "ok") r->s.a=a->∀(e:Ws),e[1]?=some (.va (.id a))->mq (xeW 1 ay (aa (eC (.str x)) aq)) e s=.nx e r:=λh o e j=>by unfold mq;rw[afC (by rw[o];exact j) (by rfl) (by rw[o];exact h)]
 have C:aau 1 3 (aa (aO "Desk" av (ai 1) (aa (eC (.str "calls")) aq)) (aa (aO "Desk" av (ai 1) (aa (eC (.str "floor")) aq)) (aa (aO "Desk" av (ai 1) (aa (eC (.str "alike")) aq)) aq))) [.va N,.va (.id a),.va (.bl t),.no,.no,.no,.no] (Dt a p t)=.nx (sg a N t .no .no .no) (Dt a p t):=by simp[aau,seen,alE,alD,aO,vN,c1,c2,c3,pl,sg,due]
 unfold cj;rw[l (w1 a p) rfl _ rfl];dsimp only;rw[l (w2 a p) rfl _ rfl];dsimp only;rw[l (w3 a p) rfl _ rfl];dsimp only;rw[E];dsimp only;rw[v];dsimp only;rw[C];dsimp only;rw[show∀b c:RF Dk,xIf (xT Dk.a Dk.val 1 (tOr (i9 (tB (aH ba (aa (ai 1) (aa (eC (.str "run bad")) (aa (eC (.int 0)) aq)))))) (i9 (tB (aH ba (aa (ai 1) (aa (eC (.str "run a bad")) (aa (eC (.int 1)) aq)))))))) b c (sg a N t .no .no .no) (Dt a p t)=c (sg a N t .no .no .no) (Dt a p t)from λb c=>by simp[sg,xIf,wV,xT,seen,alE,alD,fd1,fd2]];dsimp only[xNx];rw[show∀b c:RF Dk,xIf (xT Dk.a Dk.val 1 (i9 (tB (aH ba (aa (ai 1) (aa (eC (.str "round 2 times ( a ) bad")) (aa (eC (.int 2)) aq))))))) b c (sg a N t .no .no .no) (Dt a p t)=c (sg a N t .no .no .no) (Dt a p t)from λb c=>by simp[sg,xIf,wV,xT,seen,alE,alD,fd3]];dsimp only[xNx];rw[i];dsimp only;cases t with|true=>have n:av [V3,.str "alike"]=.ok (.str "yes"):=c3 false;have A:(D3 a p).val=V3:=rfl;have D:WL.plain (.bl true)=true:=rfl;have g:=w7 a p;simp[sg,xIf,wV,xT,seen,Dt,ea2,gw,oF,sd,xeW,atD,g,xeR,A,aO,isN,n,bk0,D]|false=>simp[sg,xIf,wV,xT,seen,Dt,ea2,aR,xNx,aoT]
end K86
namespace PySem.W.Fast
def tw11569583590354627290:=0
def tw11897467616519582342:=0
def tw6644315166444119775:=0
def tw11121590436193994455:=0
def tw8706849290961326239:=0
def tw5103701531477458158:=0
def tw254427230363115979:=0
def tw8497286175577380467:=0
def tw15255336556463147123:=0
def tw13978037171039348880:=0
def tw7075865774401639082:=0
def tw2177718150517697097:=0
def tw17536773781928732990:=0
def tw16484236368682629422:=0
def tw13559487738593603206:=0
def tw3009441272767020975:=0
def tw16579080874325875701:=0
def tw2941999115086234209:=0
def tw17875325106692877095:=0
def tw16357444554293714065:=0
def tw10746993325909383260:=0
def tw5611301952225283593:=0
def tw7783252768215612961:=0
def tw9045865504609733927:=0
def tw3819705047019479444:=0
def tw13315938931005986006:=0
def tw12409001084562729081:=0
def tw11182635488133677350:=0
def tw14252913587377803707:=0
def tw16155477795869154140:=0
def tw4012116604691696533:=0
def tw15229972828117443028:=0
def tw15376524849598682562:=0
def tw7586208055013692425:=0
def tw6636922873803928967:=0
def tw4146213293285214642:=0
def tw11688774191856264241:=0
def tw3451209312480827199:=0
def tw10450993939600980346:=0
def tw16561332500588403712:=0
def tw919597352559585632:=0
def tw17900545083644886524:=0
def tw10967122016738147365:=0
def tw3423266111848949706:=0
def tw6764353232507332917:=0
def tw11410765051709166376:=0
def tw2200555273904739025:=0
def tw16043333516237186164:=0
def tw11805549372261637552:=0
def tw621165168107905667:=0
def tw3185702117923053167:=0
def tw3643089333615547486:=0
def tw14231685974614456696:=0
def tw3077721758563555022:=0
def tw152380299836169393:=0
def tw2284219891065716907:=0
def tw16580682503810272502:=0
def tw8531109756376293050:=0
def tw12455922709530487026:=0
def tw6536500144839050462:=0
def tw2020594198509853244:=0
def tw2971164948679504762:=0
def tw18256273038590769832:=0
def tw10831462090556839837:=0
def tw14663152344162911466:=0
def tw10802788490473873374:=0
def tw15946202746678827353:=0
def tw9821160661622868980:=0
def tw13961834702089419458:=0
def tw4020372477594713878:=0
def tw5930704042024642002:=0
def tw7213752420810087086:=0
def tw230033027599898180:=0
def tw5992326558020810087:=0
def tw8128764558979508690:=0
def tw14684240410648170937:=0
def tw8195908773233882068:=0
def tw5014471989101237528:=0
def tw16783677006918808110:=0
def tw6155426995033259104:=0
def tw12044488068271761072:=0
def tw10208363924720706734:=0
def tw25252585486885964:=0
def tw1110321315508964119:=0
def tw14403225739367279608:=0
def tw3286841040875930285:=0
def tw14378312130339394899:=0
def tw231308982227680900:=0
def tw16823647823656897344:=0
def tw11174262151966340183:=0
def tw500569449471170102:=0
def tw11529360484280331772:=0
def tw5954645702846584428:=0
def tw5080074259602302902:=0
def tw16753682780018821984:=0
def tw17281162632779940971:=0
def tw7695793696125219971:=0
def tw15981678652022517188:=0
def tw13237253188716190353:=0
def tw6645284191244858207:=0
def tw14467244773878708984:=0
def tw16910972540868942541:=0
def tw9880691982465871538:=0
def tw8774202084506919272:=0
def tw15684005669348033580:=0
def tw15899704441521688592:=0
def tw11109654092556647571:=0
def tw2697731324579471430:=0
def tw1755954180064345843:=0
def tw4764524554797997360:=0
def tw299014778841659753:=0
def tw4089469221547156124:=0
def tw16788935254512961745:=0
def tw8478807388676937801:=0
def tw8878316680288652651:=0
def tw3414079217842761609:=0
def tw12047732197482393365:=0
def tw4344210969177758860:=0
def tw8048623021013042208:=0
def tw12029221809460601692:=0
def tw10328229343187621663:=0
def tw9880995772863535941:=0
def tw12395918272659659773:=0
def tw2025066980805241452:=0
def tw11747087784207645427:=0
def tw1757058617918329553:=0
def tw7226388386110407878:=0
def tw1092330506038949630:=0
def tw5679984748527428360:=0
def tw14343283078761895483:=0
def tw11587242985440713382:=0
def tw10101298557508354757:=0
def tw12808959172699530849:=0
def tw10332531196038762166:=0
def tw5038447131584279820:=0
def tw18350738433639360365:=0
def tw4025840276330849828:=0
def tw13335299213221156080:=0
def tw1804332236195077335:=0
def tw7463092330435319491:=0
def tw16121538577511656853:=0
def tw3647220517129558658:=0
def tw12809442834314369521:=0
def tw4707233585059428798:=0
def tw7433983926122896079:=0
def tw11228342900923320021:=0
def tw3449685980968948933:=0
def tw15058225069153648089:=0
def tw1343396895836925898:=0
def tw14890683353133660408:=0
def tw14125258746406804596:=0
def tw5321348863699059102:=0
def tw15814857087298913453:=0
def tw2089868870756150535:=0
def tw13455618823262826862:=0
def tw10602315078996141116:=0
def tw1769176719609230337:=0
def tw7766005067843952226:=0
def tw2064793413570003916:=0
def tw4297436834131132176:=0
def tw8798240793550760603:=0
def tw7587982328552989014:=0
def tw7273429401038240468:=0
def tw3261011226182723323:=0
def tw6477885819477988555:=0
def tw3516509492536844079:=0
def tw6967482572465838481:=0
def tw15006341222635703636:=0
def tw5579844524335832194:=0
def tw593496518227254285:=0
def tw10306244244603794883:=0
def tw9420243083950442592:=0
def tw3263564000076983625:=0
def tw13483237238016499651:=0
def tw11334345785452491786:=0
def tw12750290604243126821:=0
def tw8105505873217431221:=0
def tw16626564647676558683:=0
def tw16055545455248926324:=0
def tw5624259826941015045:=0
def tw12477378704543928216:=0
def tw14486492012769667709:=0
def tw10072404997240523092:=0
def tw10230349845284804521:=0
def tw16611114302776850492:=0
def tw8472198054393164953:=0
def tw16967908725028996568:=0
def tw5648326090891322730:=0
def tw12699835160577301083:=0
def tw14948946333411792775:=0
def tw14163980978458775804:=0
def tw16712258177190249661:=0
def tw15743382898881589649:=0
def tw8119990074934047367:=0
def tw6345490601383460672:=0
def tw230094459211915270:=0
def tw9715613581733746163:=0
def tw9759968803538340714:=0
def tw5920434610094199224:=0
def tw9515676323647020070:=0
def tw527280827355371382:=0
def tw596235524857167453:=0
def tw16013479832378020035:=0
def tw5308943779924255598:=0
def tw3926189053391068629:=0
def tw16733046121497433864:=0
def tw4462096376067814068:=0
def tw13537336502129696947:=0
def tw4141635994798408505:=0
def tw2183529339530648340:=0
def tw8890865936771040748:=0
def tw17867256859905504239:=0
def tw4559238576834204845:=0
def tw8824585094792266051:=0
def tw5701143465002723384:=0
def tw10688983137370598968:=0
def tw13854162050051423530:=0
def tw5829966008480990913:=0
def tw17385534149973384475:=0
def tw7724213516731184339:=0
def tw7438039930661869869:=0
def tw17525512663675483008:=0
def tw15616161925781868281:=0
def tw7883041660835774527:=0
def tw16120999159832821447:=0
def tw344904997975293936:=0
def tw3015715326267363663:=0
def tw15815471311427660466:=0
def tw16298092574086081352:=0
def tw17466079077791752541:=0
def tw6074753157981459724:=0
def tw9319807045259580750:=0
def tw5909824903236527131:=0
def tw5274650713087353168:=0
def tw16186730370773160962:=0
def tw5665524617883835357:=0
def tw5607774151946013133:=0
def tw5907985138926877252:=0
def tw12565723024957103115:=0
def tw5319987629272321584:=0
def tw9885629994095799140:=0
def tw10671218121912852269:=0
def tw411264113869192746:=0
def tw6518175941141356932:=0
def tw10478898168962867441:=0
def tw7770493393310805727:=0
def tw10666563198079753057:=0
def tw4759879679159055278:=0
def tw15477779746354301012:=0
def tw8464554373898300530:=0
def tw10819128268333261958:=0
def tw16872768066457923950:=0
def tw5168370899754291140:=0
def tw606935993491868075:=0
def tw14591159699026297453:=0
def tw8347666169866952251:=0
def tw12039735625587872027:=0
def tw1186872546669108806:=0
def tw10941442805645061151:=0
def tw12417514864556823374:=0
def tw6109713969282601195:=0
def tw9805766333404308427:=0
def tw9415936134907727449:=0
def tw15303220666563096175:=0
def tw17363218399308775952:=0
def tw4685842321312641704:=0
def tw8903452854832475788:=0
def tw1901003471985493915:=0
def tw16877143935136500404:=0
def tw3108022370507500051:=0
def tw13865413990779102626:=0
def tw16000943088506658574:=0
def tw4048372403134568496:=0
def tw3495399461320876497:=0
def tw11595596952524368822:=0
def tw4666824789371416625:=0
def tw907910677089360177:=0
def tw10539245413657129941:=0
def tw13969974275063651845:=0
def tw2915842605214060206:=0
def tw11505786618020651271:=0
def tw1257150274722558965:=0
def tw11115097521935306333:=0
def tw9365602605662453548:=0
def tw4647490755744574120:=0
def tw10394272797136526908:=0
def tw12911983096601396064:=0
def tw3617236434827921251:=0
def tw10270102514070983185:=0
def tw14901634646127989792:=0
def tw18280075084718065521:=0
def tw17188673215093043763:=0
def tw14613072173992887548:=0
def tw11229112631764553862:=0
def tw3752513772377399176:=0
def tw8331645302849119830:=0
def tw16215059927984514739:=0
def tw14629296637189251970:=0
def tw11351460004903473398:=0
def tw7353887070398404786:=0
def tw1328304323921056994:=0
def tw8777193218083455388:=0
def tw17223123647989792155:=0
def tw12763038970278859494:=0
def tw13751060001894295116:=0
def tw10687634256303611232:=0
def tw11894457948885388217:=0
def tw5545733239513451146:=0
def tw14643675489642936688:=0
def tw2500700610057830728:=0
def tw12327161122962658078:=0
def tw10804812240113921407:=0
def tw10099091811428769185:=0
def tw18403036557809769046:=0
def tw817988193210324134:=0
def tw16161981050161082384:=0
def tw11300332393322186554:=0
def tw12120026976919754771:=0
def tw5284597378475599981:=0
def tw9944639289640747978:=0
def tw11863595152787165101:=0
def tw2657185429095759626:=0
def tw15885106190143063733:=0
def tw7880658207826484790:=0
def tw655512754529368964:=0
def tw17213966003954589243:=0
def tw10908449469783195751:=0
def tw14696019560967873573:=0
def tw3859857756571647523:=0
def tw2672865502482035009:=0
def tw8630528963953989368:=0
def tw9043871864795407021:=0
def tw3176408612115632465:=0
def tw8474688762535455208:=0
def tw13273334448330271568:=0
def tw17276824166455884447:=0
def tw12739706852099066454:=0
def tw6017348569712052271:=0
def tw18241435492480886587:=0
def tw16889259184309944187:=0
def tw10985716369582605675:=0
def tw1828329493688802363:=0
def tw5983012118846754250:=0
def tw13012352463441280535:=0
def tw16850087530440338245:=0
def tw6549640608344259677:=0
def tw5113547248366902731:=0
def tw11203962373778162677:=0
def tw6295027708434487841:=0
def tw6741744534702952635:=0
end PySem.W.Fast
namespace K86
open PySem PySem.Spec PyProof.Rows L2 WS
open WL(Res Sl Ws EF TF AF LF GF GsF SF Out RF OX Rn AXF Dk XE XT)
seal L2.PE L2.PS L2.PSs L2.PA L2.PT L2.PW L2.PG L2.PGs L2.PI L2.PO L2.ady L2.PC
def top(i:Nat):Stmt:=PySem.Challenge.pw_squarecall_k86_rows_refused.main.body.getD i (.Pass ⟨0,0,0,0⟩)
local macro_rules|`(tactic|trivial)=>`(tactic|exact⟨rfl,rfl,rfl,by decide+kernel,rfl,by decide+kernel,by decide+kernel⟩)
noncomputable def fS:Stmt->List Stmt|.ClassDef _ _ _ b _ _ _ _ _ _ _=>b|_=>[]
def mth(i j:Nat):Stmt:=(fS (top i)).getD j (.Pass ⟨0,0,0,0⟩)
abbrev xC:Stmt:=(fS (top 8)).getD 0 (.Pass ⟨0,0,0,0⟩)
def abc:FnScope ["self","who"] ["self","who"] (ak xC):=by trivial
abbrev sV:Stmt:=(fS (top 11)).getD 0 (.Pass ⟨0,0,0,0⟩)
def zc:FnScope ["self","at","why"] ["self","at","why"] (ak sV):=by trivial
abbrev aa9:Stmt:=(fS (top 42)).getD 0 (.Pass ⟨0,0,0,0⟩)
def vg:FnScope ["self","texts","name"] ["self","texts"] (ak aa9):=by trivial
abbrev aa8:Stmt:=(fS (top 134)).getD 0 (.Pass ⟨0,0,0,0⟩)
def ahh:FnScope ["self"] ["self"] (ak aa8):=by trivial
abbrev kQ:Stmt:=(fS (top 42)).getD 1 (.Pass ⟨0,0,0,0⟩)
def qH:FnScope ["self"] ["self"] (ak kQ):=by trivial
abbrev afW:Stmt:=(fS (top 119)).getD 0 (.Pass ⟨0,0,0,0⟩)
def ajf:FnScope ["self","book","floor"] ["self","book","floor"] (ak afW):=by trivial
abbrev mS:Stmt:=(fS (top 42)).getD 2 (.Pass ⟨0,0,0,0⟩)
def sW:FnScope ["self","name"] ["self","name"] (ak mS):=by trivial
abbrev afY:Stmt:=top 86
def abe:FnScope ["floor","call","some","steps"] ["floor","call","some"] (ak afY):=by trivial
abbrev xE:Stmt:=top 87
def abf:FnScope ["floor","call","some"] ["floor","call","some"] (ak xE):=by trivial
abbrev iR:Stmt:=(fS (top 95)).getD 0 (.Pass ⟨0,0,0,0⟩)
def oJ:FnScope ["self","floor"] ["self","floor"] (ak iR):=by trivial
abbrev iS:Stmt:=top 107
def er:FnScope ["names","words","depth","opening","inside"] ["names","words","depth"] (ak iS):=by trivial
abbrev kP:Stmt:=top 108
def bW:FnScope ["names","words","depth","items","place","end"] ["names","words","depth"] (ak kP):=by trivial
abbrev ahi:Stmt:=top 147
def mR:FnScope ["_law_script","_law_desk","_law_turned_left","_law_due","_law_cell","_law_row","_law_place"] ["_law_script"] (ak ahi):=by trivial
structure Ad where(yJ jU adx oz oy ov ou bx kC kB fY jt fZ ot bK adw yI bq dc bA cZ eL jQ ic vR vQ fb acD fm_Book_names fm_Desk_go_back fm_Desk_say_word fm_Desk_keep_call fm_Book_call fm_Run_dance fm_Run_those_left fm_Run_go_on fm_Desk_run_text fm_Desk_round_text fm_Desk_way_text fm_Desk_say_more fm_Desk_say:Addr)
structure Txt(w:World)(K:W.Frag)(mg:Str->Option Value)(D:Ad):Prop where
 mgA:∀nm v,W.nsIn K mainGlobals nm=some (some v)->mg nm=some v
 uf:Kc K mg "MOST_RULES" lA
 ud:Kc K mg "MOST_TESTS" ly
 ue:Kc K mg "MOST_STEPS" lz
 cU:Kc K mg "FARTHEST_SEEN" bU
 oR:Kc K mg "LONGEST_STEP" i0
 ahK:Kc K mg "WHATS" adl
 ug:Kc K mg "LONE_WORDS" lB
 oT:Kc K mg "GOINGS_rules" i7
 zE:Kc K mg "TURNINGS" ql
 lg:Kc K mg "MOST_CALLS" il
 oS:Kc K mg "LONGEST_NAME" i6
 aci:Kc K mg "LETTERS" uQ
 akl:Kc K mg "KEPT" agv
 agh:mg "HOME"=some (.ref D.yJ)yq:∀F,RW K F gv (.ref D.yJ)eF:Kc K mg "DANCERS" bV
 p8:Kc K mg "FARTHEST" kA
 ach:Kc K mg "STEPS" wF
 ix:Kc K mg "QUARTERS" fD
 rh:mg "QUARTERS_OF"=some (.ref D.jU)qD:adA w K D.jU [("same",.int 0),("left",.int 1),("about",.int 2),("right",.int 3)]aeO:Kc K mg "DRIFTS" yE
 uc:Kc K mg "MOST_TIMES" lu
 vL:Kc K mg "MOST_OPEN" oj
 ahL:Kc K mg "SOMES" adm
 jP:Kc K mg "MOST_DANCED" cf
 ahE:mg "TESTS"=some (.ref D.adx)ag5:adA w K D.adx [("heads",.ref D.oz),("sides",.ref D.oy),("lefts",.ref D.ov),("rights",.ref D.ou)]aa0:∀H:Hp,SqT K H D.oz [.str "head"]aaZ:∀H:Hp,SqT K H D.oy [.str "side"]aaY:∀H:Hp,SqT K H D.ov [.str "lefts"]aaX:∀H:Hp,SqT K H D.ou [.str "rights"]vK:Kc K mg "MOST_RUNS" jq
 ry:Kc K mg "LONGEST_WAY" jT
 nl:WS.noL K=true
 tW:mg "ValueError"=none
 ahA:mg "all"=none
 ajX:mg "bool"=none
 agf:mg "dict"=none
 jb:mg "enumerate"=none
 amJ:mg "int"=none
 aC:mg "isinstance"=none
 cR:mg "len"=none
 age:mg "list"=none
 amI:mg "min"=none
 cp:mg "range"=none
 aeE:mg "sorted"=none
 rg:mg "str"=none
 nz:mg "tuple"=none
 hZ:mg "FloorError"=some (.ref D.bx)uy:ExcAt K "FloorError" D.bx
 dQ:mg "NoCall"=some (.ref D.kC)dR:ExcAt K "NoCall" D.kC
 eO:jv K D.kC none
 rj:mg "NoName"=some (.ref D.kB)rM:ExcAt K "NoName" D.kB
 wU:jv K D.kB none
 eE:mg "NoProgram"=some (.ref D.fY)eJ:ExcAt K "NoProgram" D.fY
 fE:jv K D.fY none
 nC:mg "TooMany"=some (.ref D.jt)nX:ExcAt K "TooMany" D.jt
 sq:jv K D.jt none
 jL:mg "NoPairs"=some (.ref D.fZ)eK:ExcAt K "NoPairs" D.fZ
 mn:jv K D.fZ none
 kd:mg "NoRow"=some (.ref D.ot)km:ExcAt K "NoRow" D.ot
 mm:jv K D.ot none
 vE:mg "Blind"=some (.ref D.bK)jl:ExcAt K "Blind" D.bK
 amN:mg "Out"=some (.ref D.adw)akH:ExcAt K "Out" D.adw
 aj0:mg "Meet"=some (.ref D.yI)agt:ExcAt K "Meet" D.yI
 ma:mg "Broken"=some (.ref D.bq)jR:ExcAt K "Broken" D.bq
 xs:ExcAll K
 akB:∀nm C,ExcAt K nm C->("at":Str)∈WL.fieldsOf nm->W.findIn K (.ref C) "at"=some none/\W.hasDictIn K C=true
 akA:∀nm C,ExcAt K nm C->("who":Str)∈WL.fieldsOf nm->W.findIn K (.ref C) "who"=some none/\W.hasDictIn K C=true
 agn:∀nm C,ExcAt K nm C->("why":Str)∈WL.fieldsOf nm->W.findIn K (.ref C) "why"=some none/\W.hasDictIn K C=true
 ak8:W.findIn K (.ref D.bK) "__init__"=some (some (.ref D.jQ))ae4:∃fd,Fun K "__init__" "Blind.__init__" xC D.jQ fd
 vk:jv K D.bK (some (.ref D.jQ))aef:W.typeIn K (.ref D.jQ)=some (.type "function")adL:(W.clsIn K D.bK).map (·.mro)=some (.ref D.bK::.ref D.bx::gy)adK:W.hasDictIn K D.bK=true
 adJ:W.findIn K (.ref D.bK) "__setattr__"=some (some (.builtin "object.__setattr__"))tU:W.findIn K (.ref D.bK) "who"=some none
 aiF:W.findIn K (.ref D.bq) "__init__"=some (some (.ref D.ic))acA:∃fd,Fun K "__init__" "Broken.__init__" sV D.ic fd
 qK:jv K D.bq (some (.ref D.ic))tf:W.typeIn K (.ref D.ic)=some (.type "function")aaq:(W.clsIn K D.bq).map (·.mro)=some (.ref D.bq::.ref D.bx::gy)aap:W.hasDictIn K D.bq=true
 aao:W.findIn K (.ref D.bq) "__setattr__"=some (some (.builtin "object.__setattr__"))tT:W.findIn K (.ref D.bq) "at"=some none
 qZ:W.findIn K (.ref D.bq) "why"=some none
 ad7:StrK K D.bK
 za:StrK K D.fZ
 rd:W.readsIn K D.bx (.type "type")=true
 rf:W.findCls K (.ref D.bx) (.type "type") "__init__"=some (.val (.builtin "ValueError.__init__"))rs:W.specialIn K (.ref D.bx) "__getattribute__"=some (some (.builtin "type.__getattribute__"))tY:mg "Book"=some (.ref D.dc)nA:Mk K D.dc D.vR
 ahT:∃fd,Fun K "__init__" "Book.__init__" aa9 D.vR fd
 cW:Cls K D.dc
 hY:aI K D.dc "calls"ip:W.nsIn K mainGlobals (Str.ofString "Book")=some (some (.ref D.dc))ab3:mg "Desk"=some (.ref D.bA)vA:Mk K D.bA D.vQ
 ahS:∃fd,Fun K "__init__" "Desk.__init__" aa8 D.vQ fd
 ar:Cls K D.bA
 bY:aI K D.bA "texts"aS:aI K D.bA "book"aG:aI K D.bA "floor"bR:aI K D.bA "past"aA:W.nsIn K mainGlobals (Str.ofString "Desk")=some (some (.ref D.bA))ri:mg "PairedFloor"=some (.ref D.cZ)oP:Mk K D.cZ D.fb
 oU:∃fd,Fun K "__init__" "PairedFloor.__init__" iR D.fb fd
 n9:Cls K D.cZ
 iD:aI K D.cZ "floor"amM:mg "Run"=some (.ref D.eL)ajZ:Mk K D.eL D.acD
 aky:∃fd,Fun K "__init__" "Run.__init__" afW D.acD fd
 dn:Cls K D.eL
 ny:aI K D.eL "book"bX:aI K D.eL "floors"ky:W.nsIn K mainGlobals (Str.ofString "Run")=some (some (.ref D.eL))kD:aoi K D.dc D.fm_Book_names "names" "Book.names" kQ
 iG:uX w K mg D.bA D.fm_Desk_go_back "go_back" "Desk.go_back" (mth 134 9) ["self"] 1gF:uX w K mg D.bA D.fm_Desk_say_word "say_word" "Desk.say_word" (mth 134 2) ["self","word"] 2gb:uX w K mg D.bA D.fm_Desk_keep_call "keep_call" "Desk.keep_call" (mth 134 4) ["self","more","parts","name","text","texts"] 2ml:aoi K D.dc D.fm_Book_call "call" "Book.call" mS
 u4:uX w K mg D.eL D.fm_Run_dance "dance" "Run.dance" (mth 119 1) ["self","name","some","paired","count","call","refusal"] 4lD:uX w K mg D.eL D.fm_Run_those_left "those_left" "Run.those_left" (mth 119 2) ["self","some","item","test"] 3mi:uX w K mg D.eL D.fm_Run_go_on "go_on" "Run.go_on" (mth 119 3) ["self","items","some","paired","item","again"] 4gH:uX w K mg D.bA D.fm_Desk_run_text "run_text" "Desk.run_text" (mth 134 5) ["self","text","floors"] 2jX:uX w K mg D.bA D.fm_Desk_round_text "round_text" "Desk.round_text" (mth 134 6) ["self","text","told"] 2mj:uX w K mg D.bA D.fm_Desk_way_text "way_text" "Desk.way_text" (mth 134 7) ["self","length","names"] 2gG:uX w K mg D.bA D.fm_Desk_say_more "say_more" "Desk.say_more" (mth 134 3) ["self","word","more"] 3pk:uX w K mg D.bA D.fm_Desk_say "say" "Desk.say" (mth 134 1) ["self","row","parts"] 2ac6:AtF w K mg "is_name" (top 41) ["thing"] 1wm:AtF w K mg "number_of" (top 13) ["word","least","most","number"] 3jm:AtG w K mg "read_number_rules" "read_number" (top 25) ["word","least","most","number"] 3wc:AtF w K mg "read_step" (top 32) ["word","more"] 2uF:AtF w K mg "read_steps" (top 33) ["text","words"] 1ac3:AtF w K mg "read_at" (top 27) ["words","ahead","right"] 1uG:AtF w K mg "read_inner" (top 28) ["words"] 1kn:AtF w K mg "read_plain_test" (top 29) ["words"] 1wa:AtF w K mg "read_test" (top 30) ["text","words"] 1uE:AtF w K mg "read_tests" (top 31) ["text","texts"] 1we:AtF w K mg "read_rule" (top 34) ["text","parts"] 1wj:AtF w K mg "read_call" (top 35) ["text","texts"] 1n5:AtF w K mg "shown_numbers" (top 131) ["numbers"] 1v9:AtF w K mg "shown_all" (top 132) ["rows"] 1v7:AtF w K mg "yes_or_no" (top 133) ["truth"] 1o5:AtF w K mg "turned_stand" (top 63) ["stand"] 1afg:AtF w K mg "turned" (top 64) ["floor","quarters","result","quarter"] 2akQ:AtF w K mg "form" (top 65) ["floor"] 1ac1:AtF w K mg "spot_of" (top 52) ["stand"] 1afe:AtF w K mg "who_at" (top 56) ["floor","spot","dancer","stand"] 2v8:AtF w K mg "spot_from" (top 55) ["stand","ahead","right","step","east","north"] 3uD:AtF w K mg "right_hand" (top 89) ["floor","dancer","own","who"] 2o9:AtF w K mg "pairs_of_row" (top 91) ["row"] 1zT:AtF w K mg "row_from" (top 90) ["hands","first","row"] 2zV:AtF w K mg "pairs_on" (top 94) ["floor","hands","pairs","dancer"] 1n7:AtF w K mg "first_meeting" (top 53) ["stands","one","other"] 1z0:AtF w K mg "floor_of" (top 54) ["stands","meeting"] 1ah6:AtF w K mg "looks" (top 75) ["own","stands","who","what"] 4akP:AtF w K mg "sees" (top 76) ["floor","dancer","test","own","what","who"] 3ac7:AtF w K mg "is_head" (top 71) ["dancer"] 1ac5:AtF w K mg "is_such" (top 77) ["dancer","word"] 2ah7:AtF w K mg "holds" (top 78) ["floor","dancer","test","word"] 3zS:AtF w K mg "rule_for" (top 79) ["floor","dancer","call","place","rule"] 3zR:AtF w K mg "steps_of" (top 82) ["floor","dancer","call","some","place"] 4zX:AtF w K mg "is_whole" (top 48) ["thing"] 1zZ:AtF w K mg "is_place" (top 49) ["thing"] 1wq:AtF w K mg "is_facing" (top 50) ["thing"] 1zY:AtF w K mg "is_stand" (top 51) ["thing"] 1ac4:AtF w K mg "kept_in" (top 85) ["told","dancer","way"] 1n4:AtF w K mg "turned_facing" (top 62) ["facing","way"] 2o6:AtF w K mg "stand_behind" (top 83) ["stand","step","going","spot"] 2aff:AtF w K mg "way_of" (top 84) ["stand","steps","way","step"] 2akO:AtE K "ways" afY #[.none]afh:AtE K "danced" xE #[.none]ko:AtF w K mg "danced_by_pairs" (top 97) ["floor","call","paired","steps","told","place","pair","way"] 2pf:AtF w K mg "floor_behind" (top 118) ["floor","call","some","paired"] 4ana:AtF w K mg "run" (top 120) ["book","floor","items","course"] 3lW:AtF w K mg "end_of_bracket" (top 106) ["words","start","depth","place"] 2gD:AtG w K mg "read_number_programs" "read_number" (top 103) ["word","least","most","number"] 3wg:AtF w K mg "read_head" (top 105) ["words"] 1o8:AtD K "read_bracket" iS
 lr:AtD K "read_items" kP
 o7:AtF w K mg "read_program" (top 109) ["book","text","words"] 2uC:AtF w K mg "run_behind" (top 124) ["book","floor","items","count","refusal"] 4zU:AtF w K mg "round_of" (top 125) ["book","floor","items","ends","count","again","floors","end","ahead"] 3jS:AtG w K mg "read_number_desk" "read_number" (top 129) ["word","least","most","number"] 3uJ:AtF w K mg "last_floor" (top 121) ["floor","floors"] 2rP:AtF w K mg "_law_refused" (top 142) ["_law_desk","_law_row","_law_place","_law_kinds","e"] 3wo:AtF w K mg "_law_sixty" (top 146) ["_law_desk","_law_names","_law_name"] 0rS:AtF w K mg "_law_cell_at" (top 136) ["_law_script","_law_k"] 2pe:AtF w K mg "_law_too_long" (top 145) ["_law_desk","_law_floor"] 0uI:AtF w K mg "_law_fields" (top 144) ["_law_desk","_law_row","_law_at","_law_found","_law_why","e"] 3uH:AtF w K mg "_law_no_row" (top 137) ["_law_number","_law_some"] 1rQ:AtF w K mg "_law_no_name" (top 138) ["_law_number","_law_names"] 1rR:AtF w K mg "_law_no_call" (top 139) ["_law_number","_law_some"] 1lV:AtF w K mg "_law_no_program" (top 140) ["_law_number","_law_some"] 1n6:AtF w K mg "_law_by_stages" (top 141) ["_law_number","_law_turned_left","_law_some"] 2zW:AtF w K mg "_law_pick" (top 143) ["_law_number","_law_turned_left","_law_kind"] 2anc:AtD K "law" ahi
variable{P:Program}{w:World}{K:W.Frag}{mg:Str->Option Value}{base:Heap}{D:Ad}
variable(T:Txt w K mg D)
include T
theorem qA:∀F k u,WL.rT k [.str "same",.str "left",.str "about",.str "right"] [.int 0,.int 1,.int 2,.int 3]=some u->∃v,List.lookup k [(("same":Str),(.int 0:V)),(("left":Str),(.int 1:V)),(("about":Str),(.int 2:V)),(("right":Str),(.int 3:V))]=some v/\RW K F u v:=λF=>ib (by simp[RW]) (ib (by simp[RW]) (ib (by simp[RW]) (ib (by simp[RW]) agm)))
theorem ag2:∀F k u,WL.rT k [.str "heads",.str "sides",.str "lefts",.str "rights"] [.tup [.str "head"],.tup [.str "side"],.tup [.str "lefts"],.tup [.str "rights"]]=some u->∃v,List.lookup k [(("heads":Str),(.ref D.oz:V)),(("sides":Str),(.ref D.oy:V)),(("lefts":Str),(.ref D.ov:V)),(("rights":Str),(.ref D.ou:V))]=some v/\RW K F u v:=λF=>ib (by simp only[RW,RWs];exact⟨_,_,rfl,T.aa0 F,⟨_,_,rfl,rfl,rfl⟩⟩) (ib (by simp only[RW,RWs];exact⟨_,_,rfl,T.aaZ F,⟨_,_,rfl,rfl,rfl⟩⟩) (ib (by simp only[RW,RWs];exact⟨_,_,rfl,T.aaY F,⟨_,_,rfl,rfl,rfl⟩⟩) (ib (by simp only[RW,RWs];exact⟨_,_,rfl,T.aaX F,⟨_,_,rfl,rfl,rfl⟩⟩) agm)))
theorem aee:ExcS K D.bK:=acP T.xs T.jl T.adL T.adK T.adJ
theorem qV:aiC P w K mg base D.jQ ["self","who"] (spI D.bK ["who"]):=acr T.ae4 (λ_ _ _ _ _ _ b d=>aac (λ_ _=>rfl) b d) λg c=>aeW c abc (by decide) (λ_ _ _ f i1=>all_cons (abJ (by decide)) (all_cons (af9 f i1) all_nil)) λe A a s H E r=>bg (dG (xS (by rfl) T.hZ T.rd T.rf T.rs T.vk (aP (pv 0) (aP (vm (.cons gk (.cons (abH (pv 1)) .nil))) cu)))) (dF (ajr (aee T) T.tU (pv 0) (pv 1) rfl))
theorem s9:ExcS K D.bq:=acP T.xs T.jR T.aaq T.aap T.aao
theorem iT:aiC P w K mg base D.ic ["self","at","why"] (spG D.bq ["at","why"] 6000000 (aai K)):=acr T.acA (λ_ _ _ _ _ _ b d=>wG (λ_ _ _=>rfl) b d) λf c=>aeV c zc (by decide) (by decide) (by decide) λe A a s H E r=>bg (dG (xS (by rfl) T.hZ T.rd T.rf T.rs T.qK (aP (pv 0) (aP (vm (.cons gk (.cons (abH (pv 1)) (.cons gk (.cons (ahr r (pv 2)) .nil))))) cu)))) (bg (ajr (s9 T) T.tT (pv 0) (pv 1) rfl) (dF (amn (s9 T) T.qZ (pv 0) (pv 2) rfl)))
def zm:=T.ac6.dN P base 40 sN λb s r u c p d=>af (wi1 (PW.pt (mr (bQ (bD (wB bJ (dJ s) T.aC apw (ag v0 (wa1 (wty T.rg aq1)))))) (gK (bQ (adR ku ku aiX aiX aj (wB uK (afJ s) T.cR arF (wa1 v0)) (wkc b T.oS)))))) (wr aaH)) (wr (kG (aaG dq (i8 s u) v0 (wkc b T.akl) (by rfl)) (pq (wB rX (w_all (cm r) s) T.ahA boot_all (wa1 (wco "sign" (cm r) (aiN v0) λ_ _ _ _=>aaG afo (alT s u) v0 (wkc b T.aci) (by rfl)))))))
def hV:=T.wm.dN P base 40 mL λb s r u c p d=>af (gM p (cm r) (qt (by rfl) T.cp v1 (wad s v2 aj)) (gN 3 d) (show PSs _ _ (loS _ K86.jO)from ax (wi1 (we2 b u (wT oe aaM T.rg aq1 (wa1 v3)) v0) (wr v3)))) (wr dy)
def ck:=T.jm.dX P base 41 dZ λb s r u c p d=>af (wS 3 d (cl b r (hV T) (ag v0 (ag v1 (wa1 v2))))) (af (wi1 (bc oi w_is v3 dy (bz _)) (ax (aW s c (cm r) (by rfl) T.dQ T.eO T.dR rfl (kE (afF v1 (kE (afF v2 (kE (uY s u r.gd v0 dH))))))))) (wr v3))
def tG:=T.wc.dX P base 42 mH λb s r u c p d=>af (wi1 (PW.pt (gL (we2 b u v0 ao) (dW (bc kx (aih s u) v1 (wkc b T.zE) (by rfl))))) (wr (aX (ag v0 (wa1 v1))))) (af (wi1 (bc dq (i8 s u) v0 (wkc b T.oT) (by rfl)) (ax (aW s c (cm r) (by rfl) T.dQ T.eO T.dR rfl (kE (uY s u r.gd v0 (kE (uY s u r.gd v1 dH))))))) (wr (aX (ag v0 (wa1 (clX b r c (ck T) (ag v1 (ag aj (wa1 (wkc b T.oR))))))))))
def jE:=T.uF.dX P base 43 kK λb s r u c p d=>(af (wi1 (we2 b u v0 ao) (wr (aX (wa1 (aX (wa1 ao)))))) (af (wS 1 d (iu s v0 (wa1 ao))) (af (wi1 (PW.pt (mr (wn2 b u (wmo (wln s T.cR v1) aj) aj) (gK (bc jn aii (wln s T.cR v1) (cJ fW w_mul aj (wkc b T.ue)) (bz _))))) (ax (aW s c (cm r) (by rfl) T.dQ T.eO T.dR rfl (kE (uY s u r.gd v0 dH))))) (wr (wT iz (qw s) T.nz ar4 (wa1 (lZ rfl rfl s c (ts:=["place"]) ⟨rfl,rfl,rfl,rfl,rfl⟩ (cm r) rfl (cI (by decide)) (agQ (by rfl) T.cp aj (wln s T.cR v1)) (λ_ _ _ _ _ B b c=>gN 0) (λ_ _ _ _ _ B b c=>mx) λ_ _ _ _ _ B b c=>clX b r c (tG T) (ag (wx b v2 v0) (wa1 (wx b v2 (wad b.symm v0 aj)))))))))))
def zj:=T.ac3.dX P base 42 sJ λb s r u c p d=>af (wi1 (PW.pt (mr (wn2 b u (wln s T.cR v0) aj) (gK (bc dq (i8 s u) (wx b v0 aj) (wkc b T.ahK) (by rfl))))) (ax (aW s c (cm r) (by rfl) T.dQ T.eO T.dR rfl (kE (uY s u r.gd v0 dH))))) (af (wS 1 d (clX b r c (ck T) (ag (wx b v0 aj) (ag (lF cC lG (wkc b T.cU)) (wa1 (wkc b T.cU)))))) (af (wS 2 d (clX b r c (ck T) (ag (wx b v0 aj) (ag (lF cC lG (wkc b T.cU)) (wa1 (wkc b T.cU)))))) (af (wi1 (PW.pt (gL (we2 b u v1 aj) (dW (we2 b u v2 aj)))) (ax (fF s c (cm r) (by rfl) T.dQ T.eO T.dR rfl (wa1 ao)))) (wr (aX (ag ao (ag v1 (ag v2 (wa1 (wx b v0 aj))))))))))
def qS:=T.uG.dX P base 40 kM λb s r u c p d=>af (wi1 (wn2 b u (wln s T.cR v0) aj) (ax (aW s c (cm r) (by rfl) T.dQ T.eO T.dR rfl (kE (uY s u r.gd v0 dH))))) az
def eR:=T.kn.dX P base 43 fg λb s r u c p d=>af (wi1 (we2 b u (wx b v0 aj) ao) (wr (clX b r c (zj T) (wa1 v0)))) (af (wi1 (we2 b u (wx b v0 aj) ao) (wr (clX b r c (qS T) (wa1 v0)))) (af (wi1 (PW.pt (mr (wn2 b u (wln s T.cR v0) aj) (gK (bc dq (i8 s u) (wx b v0 aj) (wkc b T.ug) (by rfl))))) (ax (aW s c (cm r) (by rfl) T.dQ T.eO T.dR rfl (kE (uY s u r.gd v0 dH))))) (wr (aX (wa1 (wx b v0 aj))))))
def tF:=T.wa.dX P base 44 mG λb s r u c p d=>af (wS 1 d (iu s v0 (wa1 ao))) (af (wi1 (PW.pt (gL (bc jn aii (wln s T.cR v1) aj (bz _)) (dW (we2 b u (wx b v1 aj) ao)))) (wr (aX (ag ao (wa1 (clX b r c (eR T) (wa1 (sv (afI s) v1 (dY aj) mv)))))))) (wr (clX b r c (eR T) (wa1 v1))))
def qQ:=T.uE.dX P base 45 kJ λb s r u c p d=>(af (wS 1 d (iu s v0 (wa1 ao))) (af (wi1 (bc jn aii (wln s T.cR v1) (wkc b T.ud) (bz _)) az) (wr (wT iz (qw s) T.nz ar4 (wa1 (lZ rfl rfl s c (ts:=["test"]) ⟨rfl,rfl,rfl,rfl,rfl⟩ (cm r) rfl (cI (by decide)) (fc s v1) (λ_ _ _ _ _ B b c=>gN 0) (λ_ _ _ _ _ B b c=>mx) λ_ _ _ _ _ B b c=>clX b r c (tF T) (wa1 v0)))))))
def tH:=T.we.dX P base 46 mI λb s r u c p d=>af (wi1 (bD (aaB s v0 (wa1 ao))) (wr (aX (ag (aX bB) (wa1 (clX b r c (jE T) (wa1 (agS v0 aj)))))))) (af (wS 1 d (mw s v0 (wa1 ao))) (af (wi1 (we2 b u (wx b v1 aj) ao) (ax (aW s c (cm r) (by rfl) T.dQ T.eO T.dR rfl (kE (uY s u r.gd v0 dH))))) (wr (aX (ag (clX b r c (qQ T) (wa1 (wx b v1 aj))) (wa1 (clX b r c (jE T) (wa1 (wx b v1 aj)))))))))
def tK:=T.wj.dX P base 47 mK λb s r u c p d=>(af (wi1 (bQ (bD (wB bJ (dJ s) T.aC apw (ag v0 (wa1 (wty T.rg aq1)))))) az) (af (wS 1 d (iu s v0 (wa1 ao))) (af (wi1 (bc jn aii (wln s T.cR v1) (wkc b T.uf) (bz _)) az) (wr (lZ rfl rfl s c (ts:=["rule"]) ⟨rfl,rfl,rfl,rfl,rfl⟩ (cm r) rfl (cI (by decide)) (fc s v1) (λ_ _ _ _ _ B b c=>gN 0) (λ_ _ _ _ _ B b c=>mx) λ_ _ _ _ _ B b c=>clX b r c (tH T) (wa1 v0))))))
theorem nj:afx P w K mg base 49 D.vR ["self","texts"] (spB K "calls" fA):=md T.ahT (λ_ _ _ _ _ _ f e=>aac (λ_ _=>rfl) f e) λi g=>by refine aeU aa4 aa3 aaP g vg rfl rfl ?_;intro h A a s H E X d r p;subst d;exact⟨λB b c=>⟨u7 (bc jn aii (wB uK (afJ b.symm) T.cR arF (ag v1 bB)) (wkc b T.lg) (bz _)) (ax (aW b.symm c (cm r) (by rfl) T.nC T.sq T.nX rfl (kE (afF (wkc b T.lg) (kE dH))))) mu,agL b.symm p (cm r) c (pv 1) (λ_=>gN 2 vg.nd) λB b c=>show PSs _ _ (loS _ K86.yi)from ax (u7 (bQ (bD (cl b r (zm T) (ag v2 bB)))) (ax (aW b.symm c (cm r) (by rfl) T.rj T.wU T.rM rfl (kE (uY b.symm r.units r.gd v2 dH)))) mu),clX b r c (tK T) (ag (wx b v1 v2) bB)⟩,pv 0,pv 0,pv 1,pv 2,j4 vg.nd rfl (Or.inl rfl),cm r,rfl,rfl,rfl,λ_=>rfl⟩
theorem vx:afx P w K mg base 51 D.vQ ["self"] (alg K lY (.ref D.yJ)):=md T.ahS (λ_ _ _ _ _ _ f e=>bind1 (λ_=>rfl) f e) λi g=>aeT (te:=WL.lq "Book" fA (WL.aa (WL.eC (.dic [] [])) WL.aq)) g ahh rfl (λ_=>rfl) λh A a s H E X d r=>by subst d;exact⟨gj (pv 0) qN rfl,λB b c=>gj (pv 0) (mkI b r c T.nA T.cW T.hY T.ip (nj T) T.tY (ag agW bB)) rfl,gj (pv 0) (qM rfl T.agh rfl) rfl,gj (pv 0) (tr cu) rfl⟩
theorem oO:oD P w K mg base 41 D.dc D.fm_Book_names "names" ["self"] (spO K 1 eV):=vD T.kD.1 T.kD.2 (λ_ _ _ _ _ _ e d=>bind1 (λ_=>rfl) e d) λh f=>acW kO lb f qH rfl rfl rfl (by decide) λg A a s H E B b r c p=>aaw (adV (adW (cm r) T.aeE boot_sorted (flI b T.ip T.cW T.hY v0)))
theorem jI:oD P w K mg base 41 D.dc D.fm_Book_names "names" ["self"] (spX K 1 eV):=oD.x (oO T)
def ni:=T.iG.dX P base 40 iP λb s r u c p d=>af (wi1 (bQ (ald b (wfn 3 s T.aA T.ar T.bR v0))) (ax (fF s c (cm r) (by rfl) T.rj T.wU T.rM rfl (wa1 ao)))) az
def gp:=T.n5.dN P base 40 gS λb s r u c p d=>wr (u9 s ao (wa1 (wco "number" (cm r) (fc s v0) λ_ _ _ _=>wT oe aaM T.rg aq1 (wa1 v0))))
def kY:=T.v9.dN P base 41 mF λb s r u c p d=>wr (u9 s ao (wa1 (wco "row" (cm r) (fc s v0) λ_ _ _ _=>cl b r (gp T) (wa1 v0))))
def tD:=T.v7.dN P base 0 mD λb s r u c p d=>wr (aaD (bD v0) ao ao)
def m3:=T.o5.dN P base 0 iJ λb s r u c p d=>wr (aX (ag (lF cC lG (wx b v0 aj)) (ag (wx b v0 aj) (wa1 (wmo (wad s (wx b v0 aj) aj) (wkc b T.ix))))))
def abR:=T.afg.dN P base 40 xo λb s r u c p d=>af (wS 2 d v0) (af (gM p (cm r) (eW (by rfl) T.cp (wmo v1 (wkc b T.ix))) (gN 3 d) (show PSs _ _ (loS _ K86.pY)from ax (wS 2 d (wT iz (qw s) T.nz ar4 (wa1 (wco "stand" (cm r) (fc s v2) λ_ _ _ _=>cl b r (m3 T) (wa1 v0))))))) (wr v2))
def abT:=T.akQ.dN P base 41 afP λb s r u c p d=>wr (wB adi (aiW (cm r) s u) T.amI boot_min (wa1 (wco "quarters" (cm r) (eW (by rfl) T.cp (wkc b T.ix)) λ_ _ _ _=>cl b r (abR T) (ag v1 (wa1 v0)))))
def j5:=T.ac1.dN P base 0 sI λb s r u c p d=>wr (aX (ag (wx b v0 aj) (wa1 (wx b v0 aj))))
def tE:=T.afe.dN P base 40 xm λb s r u c p d=>af (gM p (cm r) (vb s (by rfl) T.jb v0) (xh s (cm r) (eP (gN 2 d) (eP (gN 3 d) qu)) rfl (ia (ia yt)) nO) (show PSs _ _ (loS _ K86.pW)from ax (wi1 (we2 b u (cl b r (j5 T) (wa1 v3)) v1) (wr v2)))) (wr dy)
def kX:=T.v8.dN P base 0 mE λb s r u c p d=>af (wS 3 d (wx b (wkc b T.ach) (wx b v0 aj))) (af (wS 4 d (wad s (cJ fW w_mul (wx b v3 aj) v1) (cJ fW w_mul (wx b v3 aj) v2))) (af (wS 5 d (cJ mf w_sub (cJ fW w_mul (wx b v3 aj) v1) (cJ fW w_mul (wx b v3 aj) v2))) (wr (aX (ag (wad s (wx b v0 aj) v4) (wa1 (wad s (wx b v0 aj) (va 5))))))))
def qP:=T.uD.dN P base 41 kI λb s r u c p d=>af (wS 2 d (wx b v0 v1)) (af (wS 3 d (cl b r (tE T) (ag v0 (wa1 (cl b r (kX T) (ag v2 (ag aj (wa1 aj)))))))) (wr (aaD (PW.pt (gL (bc iA qz v3 dy (bz _)) (dW (we2 b u (wx b (wx b v0 v3) aj) (wx b v2 aj))))) v3 dy)))
def m7:=T.o9.dX P base 40 iN λb s r u c p d=>af (wi1 (wn2 b u (wmo (wln s T.cR v0) aj) aj) (ax (aW s c (cm r) (by rfl) T.jL T.mn T.eK rfl (kE (uY s u r.gd v0 dH))))) az
def vp:=T.zT.dN P base 0 pB λb s r u c p d=>af (wS 2 d (br (wa1 v1))) (af (wW p (show PT _ _ (loT _ K86.k7)from bc iA qz (wx b v0 (wx b v2 (lF cC lG aj))) dy (bz _)) (show PSs _ _ (loS _ K86.k9)from az)) (wr v2))
def m6:=T.zV.dX P base 42 pE λb s r u c p d=>(af (aax (i:=1) d rfl rfl (by rfl) (ts:=["dancer"]) ⟨rfl,rfl,rfl,rfl,rfl⟩ (cm r) rfl (cI (by decide)) (eW (by rfl) T.cp (wkc b T.eF)) (λ_ _ _ _=>gN 0) (λ_ _ _ _=>mx) λ_ _ _ _=>cl b r (qP T) (ag v1 (wa1 v0))) (af (jZ (i:=2) d rfl (Or.inl rfl) (su bB)) (af (gM p (cm r) (eW (by rfl) T.cp (wkc b T.eF)) (gN 3 d) (show PSs _ _ (loS _ K86.la)from(ax (wi1 (bc dq (i8 s u) v3 v1 (by rfl)) (ax (aiK (i:=2) s T.nl (dG (lI apG PySem.F.slot_list_extend PySem.F.type_list_extend ahD (pv 2) (aP (clX b r c (m7 T) (wa1 (cl b r (vp T) (ag v1 (wa1 v3))))) cu))))))))) az)))
def lN:=T.gF.dX P base 43 gY λb s r u c p d=>(af (wi1 (we2 b u v1 ao) (wr (u9 s ao (wa1 (anQ b r c T.ip T.cW (jI T) (wfn 1 s T.aA T.ar T.aS v0)))))) (af (wi1 (we2 b u v1 ao) az) (af (wi1 (we2 b u v1 ao) (wr (aoN b r c T.aA T.ar (ni T) v0))) (af (wi1 (we2 b u v1 ao) (wr (cl b r (kY T) (wa1 (wfn 2 s T.aA T.ar T.aG v0))))) (af (wi1 (we2 b u v1 ao) az) (af (wi1 (we2 b u v1 ao) (wr (cl b r (tD T) (wa1 (weq s u (cl b r (abT T) (wa1 (wfn 2 s T.aA T.ar T.aG v0))) (cl b r (abT T) (wa1 (wk (v:=.ref D.yJ) b T.agh rfl T.yq)))))))) (af (wi1 (we2 b u v1 ao) (wr (cl b r (kY T) (wa1 (clX b r c (m6 T) (wa1 (wfn 2 s T.aA T.ar T.aG v0))))))) (ax (aW s c (cm r) (by rfl) T.kd T.mm T.km rfl (kE (uY s u r.gd v1 dH)))))))))))
def j9:=T.gb.dX P base 50 gh λb s r u c p d=>(af (wS 2 d (mw s v1 (wa1 ao))) (af (wS 3 d (wx b v2 aj)) (af (wS 4 d (wx b v2 aj)) (af (wi1 (PW.pt (mr (we2 b u v3 ao) (gK (we2 b u (wx b v2 aj) ao)))) (ax (fF s c (cm r) (by rfl) T.kd T.mm T.km rfl (wa1 ao)))) (af (qr (mkI b r c T.nA T.cW T.hY T.ip (nj T) T.tY (wa1 (afG (aaI v3 v4 afH))))) (af (w9 (i:=5) d rfl (Or.inl rfl) (by rfl) T.agf boot_dict (wfn 0 s T.aA T.ar T.bY v0)) (af (wY (i:=5) (aaz (i:=5) (un1 u) (pv 5) v3 v4)) (af (agN (pv 0) (mkI b r c T.nA T.cW T.hY T.ip (nj T) T.tY (wa1 (va 5)))) az))))))))
theorem ajR:afx P w K mg base 41 D.acD ["self","book","floor"] (alf K):=md T.aky (λ_ _ _ _ _ _ b e=>wG (λ_ _ _=>rfl) b e) λg d=>aeR d ajf rfl λf A a s H E X c=>by subst c;exact⟨gj (pv 0) (pv 1) rfl,gj (pv 0) (tr (aP (pv 2) cu)) rfl⟩
theorem qW:oD P w K mg base 41 D.dc D.fm_Book_call "call" ["self","name"] (spO K 2 fR):=vD T.ml.1 T.ml.2 (λ_ _ _ _ _ _ e d=>aac (λ_ _=>rfl) e d) λh f=>acW mO nI f sW rfl rfl rfl (by decide) λg A a s H E B b r c p=>adS (wi1 (PW.pt (mr (bQ (bD (wB bJ (dJ b.symm) T.aC apw (ag v1 (wa1 (wty T.rg aq1)))))) (gK (bc wA (ad1 b.symm r.units) v1 (flI b T.ip T.cW T.hY v0) (by rfl))))) az) (agP b.symm (by rfl) T.age boot_list (wxD b (flI b T.ip T.cW T.hY v0) v1))
theorem tQ:oD P w K mg base 41 D.dc D.fm_Book_call "call" ["self","name"] (spX K 2 fR):=oD.x (qW T)
def lL:=T.n7.dN P base 40 gW λb s r u c p d=>af (gM p (cm r) (eW (by rfl) T.cp (wln s T.cR v0)) (gN 1 d) (show PSs _ _ (loS _ K86.fv)from ax (gM p (cm r) (qt (by rfl) T.cp (wad s v1 aj) (wln s T.cR v0)) (gN 2 d) (show PSs _ _ (loS _ K86.fu)from ax (wi1 (we2 b u (cl b r (j5 T) (wa1 (wx b v0 v1))) (cl b r (j5 T) (wa1 (wx b v0 v2)))) az))))) (wr dy)
def vu:=T.z0.dN P base 41 pJ λb s r u c p d=>af (wS 1 d (cl b r (lL T) (wa1 v0))) (af (wi1 (bc iA qz v1 dy (bz _)) (ax afD)) (wr (wT iz (qw s) T.nz ar4 (wa1 v0))))
def aex:=T.ah6.dN P base 0 aaV λb s r u c p d=>af (wi1 (bc oi w_is v2 dy (bz _)) (wr (weq s u v3 ao))) az
def ahy:=T.akP.dN P base 41 afO λb s r u c p d=>af (wS 3 d (wx b v0 v1)) (af (wS 4 d (wx b v2 aj)) (af (wS 5 d (cl b r (tE T) (ag v0 (wa1 (cl b r (kX T) (ag v3 (ag (wx b v2 aj) (wa1 (wx b v2 aj))))))))) (af (wi1 (we2 b u v4 ao) az) (af (wi1 (we2 b u v4 ao) az) (wr (cl b r (aex T) (ag v3 (ag v0 (ag (va 5) (wa1 v4))))))))))
def zo:=T.ac7.dN P base 0 sO λb s r u c p d=>wr (weq s u (wmo (cJ du w_div v0 aj) aj) aj)
def zl:=T.ac5.dN P base 1 sM λb s r u c p d=>af (wi1 (bc kx (aih s u) v1 (aX (ag ao (wa1 ao))) (by rfl)) (wr (weq s u (cl b r (zo T) (wa1 v0)) (weq s u v1 ao)))) az
def xW:=T.ah7.dN P base 42 aaW λb s r u c p d=>af (wS 3 d (wx b v2 aj)) (af (wi1 (we2 b u v3 ao) az) (af (wi1 (we2 b u v3 ao) (wr (cl b r (ahy T) (ag v0 (ag v1 (wa1 v2)))))) (af (wi1 (we2 b u v3 ao) az) (af (wi1 (bc kx (aih s u) v3 (wkc b T.aeO) (by rfl)) az) (wr (cl b r (zl T) (ag v1 (wa1 v3))))))))
def vo:=T.zS.dN P base 43 pA λb s r u c p d=>af (gM p (cm r) (vb s (by rfl) T.jb v2) (xh s (cm r) (eP (gN 3 d) (eP (gN 4 d) qu)) rfl (ia (ia yt)) nO) (show PSs _ _ (loS _ K86.k8)from ax (wi1 (bD (wB rX (w_all (cm r) s) T.ahA boot_all (wa1 (wco "test" (cm r) (fc s (wx b v4 aj)) λ_ _ _ _=>cl b r (xW T) (ag v1 (ag v2 (wa1 v0))))))) (wr v3)))) (wr dy)
def vn:=T.zR.dX P base 44 pz λb s r u c p d=>af (wi1 (PW.pt (gL (bc iA qz v3 dy (bz _)) (dW (bc dq (i8 s u) v1 v3 (by rfl))))) az) (af (wS 4 d (cl b r (vo T) (ag v0 (ag v1 (wa1 v2))))) (af (wi1 (bc oi w_is v4 dy (bz _)) (ax (rI b r c (cm r) T.vE T.vk T.aef (qV T) T.jl (wa1 v1)))) (wr (wx b (wx b v2 v4) aj))))
def m9:=T.zX.dN P base 0 pF λb s r u c p d=>wr (kG (wB bJ (dJ s) T.aC apw (ag v0 (wa1 (wty T.amJ boot_int)))) (pq (aiQ (wB bJ (dJ s) T.aC apw (ag v0 (wa1 (wty T.ajX boot_bool)))))))
def ng:=T.zZ.dN P base 1 pI λb s r u c p d=>wr (kG (cl b r (m9 T) (wa1 v0)) (pq (xi ku ku aiX aiX (lF cC lG (wkc b T.p8)) v0 (wkc b T.p8))))
def tN:=T.wq.dN P base 1 mM λb s r u c p d=>wr (kG (cl b r (m9 T) (wa1 v0)) (pq (xi ku og aiX w_lt aj v0 (wln s T.cR (wkc b T.ach)))))
def vt:=T.zY.dN P base 2 pG λb s r u c p d=>af (wi1 (PW.pt (mr (bQ (bD (wB bJ (dJ s) T.aC apw (ag v0 (wa1 (wty T.nz ar4)))))) (gK (wn2 b u (wln s T.cR v0) aj)))) az) (wr (kG (cl b r (ng T) (wa1 (wx b v0 aj))) (kG (cl b r (ng T) (wa1 (wx b v0 aj))) (pq (cl b r (tN T) (wa1 (wx b v0 aj)))))))
def zk:=T.ac4.dN P base 40 sL λb s r u c p d=>af (gM p (cm r) (vb s (by rfl) T.jb v0) (xh s (cm r) (eP (gN 1 d) (eP (gN 2 d) qu)) rfl (ia (ia yt)) nO) (show PSs _ _ (loS _ K86.nH)from ax (wi1 (bQ (bD (wB rX (w_all (cm r) s) T.ahA boot_all (wa1 (wco "stand" (cm r) (fc s (sv (afI s) v2 (dY aj) mv)) λ_ _ _ _=>cl b r (vt T) (wa1 v0)))))) (ax afD)))) (wr v0)
def lJ:=T.n4.dN P base 0 gR λb s r u c p d=>wr (wmo (wad s v0 (gx b T.rh T.qD (qA T) v1)) (wkc b T.ix))
def m5:=T.o6.dN P base 1 iK λb s r u c p d=>af (wi1 (we2 b u (wx b v1 aj) ao) (wr (aX (ag (wx b v0 aj) (ag (wx b v0 aj) (wa1 (cl b r (lJ T) (ag (wx b v0 aj) (wa1 (wx b v1 aj)))))))))) az
def abQ:=T.aff.dN P base 40 xn λb s r u c p d=>(af (jZ (i:=2) d rfl (Or.inl rfl) (su (wa1 v0))) (af (gM p (cm r) (fc s v1) (gN 3 d) (show PSs _ _ (loS _ K86.pX)from(ax (wi1 (wn2 b u (wx b v3 aj) ao) (ax (xc s (dG (lI apG ap0 ap1 fo (pv 2) (aP (aiT (i:=2) (cl b r (m5 T) (ag (wx b v2 (lF cC lG aj)) (wa1 v3)))) cu))))))))) (ax (wZ (i:=2) (jw v2)))))
theorem ahx:Cal P w K mg base (CXX P w) 46 "ways" ["floor","call","some"] [.none] (spX K 3 ago):=T.akO.cal (ps:=["floor","call","some"]) (ds:=[.none]) T.mgA (λ_ _ _ _ _ _ _ d e=>ud3 (λ_ _ _=>⟨_,rfl,rfl⟩) d (by simpa using e)) (λ_ _ _ _ _ _ _ d e=>ud2 (λ_ _=>⟨_,rfl,rfl⟩) d (by simpa using e)) λ_ _ _ f=>yA afN f abe rfl rfl rfl (by decide) λg A a s H E B b r c p=>(af (wS 3 abe.nd (lZ rfl rfl b.symm c (ts:=["dancer"]) ⟨rfl,rfl,rfl,rfl,rfl⟩ (cm r) rfl (cI (by decide)) (eW (by rfl) T.cp (wkc b T.eF)) (λ_ _ _ _ _ B b c=>gN 0) (λ_ _ _ _ _ B b c=>mx) λ_ _ _ _ _ B b c=>clX b r c (vn T) (ag v1 (ag v0 (ag v2 (wa1 v3)))))) (wr (cl b r (zk T) (wa1 (wco "dancer" (cm r) (eW (by rfl) T.cp (wkc b T.eF)) λ_ _ _ _=>cl b r (abQ T) (ag (wx b v1 v0) (wa1 (wx b v4 v0))))))))
theorem abU:Cal P w K mg base (CXX P w) 47 "danced" ["floor","call","some"] [.none] (spX K 3 yv):=T.afh.cal (ps:=["floor","call","some"]) (ds:=[.none]) T.mgA (λ_ _ _ _ _ _ _ a e=>ud3 (λ_ _ _=>⟨_,rfl,rfl⟩) a (by simpa using e)) (λ_ _ _ _ _ _ _ a e=>ud2 (λ_ _=>⟨_,rfl,rfl⟩) a (by simpa using e)) λ_ _ _ f=>yA xq f abf rfl rfl rfl (by decide) λg A d s H E B b r c p=>wr (cl b r (vu T) (wa1 (wco "way" (cm r) (fc b.symm (clX b r c (ahx T) (ag v0 (ag v1 (wa1 v2))))) λ_ _ _ _=>wx b v0 (lF cC lG aj))))
theorem oN:afx P w K mg base 44 D.fb ["self","floor"] (spE K "floor" kh):=md T.oU (λ_ _ _ _ _ _ b e=>aac (λ_ _=>rfl) b e) λg d=>aeS d oJ rfl λf A a s H E X c r=>by subst c;exact⟨gj (pv 0) (pv 1) rfl,gj (pv 0) (pcX r (m6 T) (aP (pv 1) cu)) rfl⟩
def jF:=T.ko.dX P base 45 fh λb s r u c p d=>af (wS 2 d (mkE b r c T.oP T.n9 T.iD (oN T) T.ri (wa1 v0))) az
def nh:=T.pf.dX P base 47 iO λb s r u c p d=>af (wi1 (bQ (bD v3)) (wr (clX b r c (abU T) (ag v0 (ag v1 (wa1 v2)))))) (af (wi1 (bc og w_lt (wln s T.cR v2) (wkc b T.eF) (bz _)) (ax (fF s c (cm r) (by rfl) T.jL T.mn T.eK rfl (wa1 ao)))) (wr (clX b r c (jF T) (ag v0 (wa1 v1)))))
def tP:=T.u4.dM P base 48 fL λb s r u c p d=>(aK (afB (M:=rnM) (j:=0) (i:=4) d (cJ mf w_sub (wln s T.cR (wfn 1 s T.ky T.dn T.bX v0)) aj)) (aK (cg b c λB b c=>wi1 (we2 b u v4 (wkc b T.jP)) (ax (aW b.symm c (cm r) (by rfl) T.nC T.sq T.nX rfl (kE (afF (wkc b T.jP) (kE dH)))))) (aK (agD (j:=0) (i:=5) b c d λB b c=>meI b r c T.ip T.cW (tQ T) (wfn 0 b.symm T.ky T.dn T.ny v0) (wa1 v1)) (bO (xtb (ci:=4) (i:=6) b r c d T.vE T.amN T.aj0 T.jL (acv T.jl ⟨an8 T.xs T.jl T.jl T.akH T.agt T.eK rfl,T.ad7,_,T.vk⟩ (acv T.eK ⟨an8 T.xs T.eK T.jl T.akH T.agt T.eK rfl,T.za,_,T.mn⟩ aku)) T.ky T.dn T.bX T.ma T.qK T.tf T.jR (iT T) λ_ _ B b c=>dG (lI apG ap0 ap1 fo (kU (pv 0) rfl) (aP (clX b r c (nh T) (ag (wx b (wfn 1 b.symm T.ky T.dn T.bX v0) (lF cC lG aj)) (ag (va 5) (ag v2 (wa1 v3))))) cu)))))))
def j8:=T.lD.dX P base 43 gf λb s r u c p d=>(af (wS 3 d (aaD (we2 b u (wx b v2 aj) ao) (sv (afI s) v2 mv (dY aj)) (gx b T.ahE T.ag5 (ag2 T) (wx b v2 aj)))) (wr (aaF (ts:=["dancer"]) ⟨rfl,rfl,rfl,rfl,rfl⟩ (cm r) rfl (cI (by decide)) (fc s v1) (λ_ _ _ _=>gN 0) (λ_ _ _ _=>aiO (bD (cl b r (xW T) (ag (wx b (wfn 1 s T.ky T.dn T.bX v1) (lF cC lG aj)) (ag v0 (wa1 v4)))))) λ_ _ _ _=>v0)))
theorem jJ:∀n:Nat,oD P w K mg base (49+n) D.eL D.fm_Run_go_on "go_on" ["self","items","some","paired"] (spM rnM K 4 (aJ n))|0=>T.mi.cal λg f=>afd|n+1=>have a:=jJ n;T.mi.dM P base (49+n) (cD (aJ n)) λb s r u c p d=>(bO (qp b p (cm r) (λB b=>fc b.symm v1) (j4 d rfl (Or.inl rfl)) (show PSs _ _ (loX _ _ (K86.cT (K86.aJ n)))from(bO (gJ (M:=rnM) (j:=0) (we2 b u (wx b v4 aj) ao) (bO (xmR b r c T.ky T.dn (tP T) (pv 0) (wR b (λB b=>wx b v4 aj) (wR b (λB b=>v2) (wR b (λB b=>v3) si))) λe s ws z=>by rw[(yF (yF (yF uV))) e s ws z] (apb (by decide) (asl _ _)))) (bO (gJ (M:=rnM) (j:=0) (we2 b u (wx b v4 aj) ao) (bO (qp b p (cm r) (λB b=>eW (by rfl) T.cp (wx b v4 aj)) (j4 d rfl (Or.inl rfl)) (show PSs _ _ (loX _ _ (K86.cS (K86.aJ n)))from bO (xmR b r c T.ky T.dn a (pv 0) (wR b (λB b=>wx b v4 aj) (wR b (λB b=>v2) (wR b (λB b=>v3) si))) λe s ws z=>by rw[(yF (yF (yF uV))) e s ws z] (ao6 _))))) (bO (gJ (M:=rnM) (j:=0) (we2 b u (wx b v4 aj) ao) (bO (xmR b r c T.ky T.dn a (pv 0) (wR b (λB b=>wx b v4 aj) (wR b (λB b=>v2) (wR b (λB b=>aaH) si))) λe s ws z=>by rw[(yF (yF (yF uV))) e s ws z] (ao6 _))) (bO (xmR b r c T.ky T.dn a (pv 0) (wR b (λB b=>wx b v4 aj) (aoo b (meN b r c T.ky T.dn (j8 T) v0 (ag v2 (ag v4 bB)) (hk:=apb (by decide) (asl _ _))) (wR b (λB b=>v3) si))) λe s ws z=>by rw[(yF (aoY (yF uV))) e s ws z] (ao6 _))))))))))))
theorem tO:oD P w K mg base 53 D.eL D.fm_Run_go_on "go_on" ["self","items","some","paired"] (spM rnM K 4 (aJ 4)):=jJ T 4
def abS:=T.ana.dX P base 53 ag4 λb s r u c p d=>(aop (j:=3) b r c d rfl (Or.inl rfl) T.ajZ T.ky ⟨T.dn,T.ny,T.bX⟩ (ajR T) T.amM (ag v0 (wa1 v1)) λB b c=>(agB (xmR b r c T.ky T.dn (tO T) (pv 3) (wR b (λB b=>v2) (wR b (λB b=>aaC b.symm (cm r) (by rfl) T.age (by rfl) T.cp (wkc b T.eF)) (wR b (λB b=>aaH) si))) λa s ws z=>by rw[(yF (yF (yF uV))) a s ws z]) (adO (j:=3) (tm (sv (afI b.symm) (wfn 1 b.symm T.ky T.dn T.bX v3) (dY aj) mv)))))
def j7:=T.lW.dX P base 40 gc λb s r u c p d=>(af (wS 2 d aj) (af (gM p (cm r) (qt (by rfl) T.cp v1 (wln s T.cR v0)) (gN 3 d) (show PSs _ _ (loS _ K86.eT)from(af (wi1 (we2 b u (wx b v0 v3) ao) (ax (aaA (i:=2) d aj))) (ax (wi1 (we2 b u (wx b v0 v3) ao) (af (agO (i:=2) d aj) (ax (wi1 (we2 b u v2 aj) (wr (wad s v3 aj)))))))))) (ax (fF s c (cm r) (by rfl) T.eE T.fE T.eJ rfl (wa1 ao)))))
def fO:=T.gD.dX P base 41 df λb s r u c p d=>af (wS 3 d (cl b r (hV T) (ag v0 (ag v1 (wa1 v2))))) (af (wi1 (bc oi w_is v3 dy (bz _)) (ax (aW s c (cm r) (by rfl) T.eE T.fE T.eJ rfl (kE (afF v1 (kE (afF v2 (kE (uY s u r.gd v0 dH))))))))) (wr v3))
def tI:=T.wg.dX P base 42 mJ λb s r u c p d=>af (wi1 (PW.pt (gL (we2 b u (wln s T.cR v0) aj) (dW (bc kx (aih s u) (wx b v0 aj) (wkc b T.ahL) (by rfl))))) (wr (aX (ag ao (wa1 (wx b v0 aj)))))) (af (wi1 (PW.pt (gL (we2 b u (wln s T.cR v0) aj) (dW (we2 b u (wx b v0 aj) ao)))) (wr (aX (wa1 ao)))) (af (wi1 (PW.pt (gL (we2 b u (wln s T.cR v0) aj) (dW (we2 b u (wx b v0 aj) ao)))) az) (af (wi1 (PW.pt (gL (we2 b u (wln s T.cR v0) aj) (dW (we2 b u (wx b v0 aj) ao)))) (wr (aX (ag ao (wa1 (clX b r c (fO T) (ag (wx b v0 aj) (ag aj (wa1 (wkc b T.uc)))))))))) (ax (aW s c (cm r) (by rfl) T.eE T.fE T.eJ rfl (kE (uY s u r.gd v0 dH)))))))
theorem iU:∀n:Nat,Cal P w K mg base (CXX P w) (44+(n+n)) "read_items" ["names","words","depth"] [] (spX K 3 (bt n))|0=>afq T.lr T.mgA λ_ _ _ _ _ _ f e=>wG (λ_ _ _=>rfl) f e|n+1=>have a:=iU n;have a:Cal P w K mg base (CXX P w) (44+(n+n)+1) "read_bracket" ["names","words","depth"] [] (spX K 3 (cy (bt n))):=T.o8.cal T.mgA (λ_ _ _ _ _ _ f e=>wG (λ_ _ _=>rfl) f e) λ_ _ g=>rN (iM (bt n)) g er rfl rfl rfl (by decide) λh A d s H E B b r c p=>(af (u7 (bc jn aii v2 (wkc b T.vL) (bz _)) az mu) (af (wS 3 er.nd (adU b.symm r.units v1 (ag ao bB))) (af (wS 4 er.nd (sv (afI b.symm) v1 (dY (cJ mh (w_add b.symm) v3 aj)) (dY (lF cC lG aj)))) (af (u7 (bQ (ald b v4)) (ax (fF b.symm c (cm r) (by rfl) T.eE T.fE T.eJ rfl (ag ao bB))) mu) (ax (jw (cJ mh (w_add b.symm) (clX b r c (tI T) (ag (sv (afI b.symm) v1 mv (dY v3)) bB) (by omega)) (aX (ag (clX b r c a (ag v0 (ag v4 (ag v2 bB))) (ao6 _)) bB)))))))));show 44+(n+n)+1+1=44+(n+1+(n+1))by omega▸T.lr.cal T.mgA (λ_ _ _ _ _ _ f e=>wG (λ_ _ _=>rfl) f e) λ_ _ g=>rN (kL (cy (bt n))) g bW rfl rfl rfl (by decide) λh A d s H E B b r c p=>(af (jZ (i:=3) bW.nd rfl (Or.inl rfl) (su bB)) (af (wS 4 bW.nd aj) (af (wW p (show PT _ _ (loT _ (K86.iV (K86.cy (K86.bt n))))from bc og w_lt v4 (wB rW (ag0 b.symm) T.cR arF (ag v1 bB)) (bz _)) (show PSs _ _ (loS _ (K86.iW (K86.cy (K86.bt n))))from(ax (u7 (bc kx (aih b.symm r.units) (wx b v1 v4) v0 (by rfl)) (af (xc b.symm (dG (lI apG ap0 ap1 fo (pv 3) (aP (aX (ag ao (ag (wx b v1 v4) bB))) cu)))) (ax (aaA (i:=4) bW.nd aj))) (af (wS 5 bW.nd (clX b r c (j7 T) (ag v1 (ag v4 bB)) (by omega))) (af (xc b.symm (dG (lI apG ap0 ap1 fo (pv 3) (aP (clX b r c a (ag v0 (ag (sv (afI b.symm) v1 (dY v4) (dY (va 5))) (ag (cJ mh (w_add b.symm) v2 aj) bB))) (ao6 _)) cu)))) (ax (wS 4 bW.nd (va 5))))))))) (ax (wZ (i:=3) (jw v3))))))
theorem qR:Cal P w K mg base (CXX P w) 52 "read_items" ["names","words","depth"] [] (spX K 3 (bt 4)):=iU T 4
def eu:=T.o7.dX P base 52 iL λb s r u c p d=>af (wi1 (bQ (bD (wB bJ (dJ s) T.aC apw (ag v1 (wa1 (wty T.rg aq1)))))) az) (af (wS 2 d (aaD (aoq v1) (iu s v1 (wa1 ao)) (br bB))) (wr (clX b r c (qR T) (ag (anQ b r c T.ip T.cW (jI T) v0) (ag v2 (wa1 aj))))))
def lP:=T.gH.dX P base 54 eg λb s r u c p d=>af (wS 2 d (clX b r c (abS T) (ag (wfn 1 s T.aA T.ar T.aS v0) (ag (wfn 2 s T.aA T.ar T.aG v0) (wa1 (clX b r c (eu T) (ag (wfn 1 s T.aA T.ar T.aS v0) (wa1 v1)))))))) az
def qO:=T.uC.dX P base 54 gT λb s r u c p d=>(ax (adT (tb:=K86.eY) (ci:=3) (i:=4) b r c d T.xs T.akB T.agn T.ma T.qK T.tf T.jR (iT T) λ_ _ B b c p=>wr (clX b r c (abS T) (ag v0 (ag v1 (wa1 v2))))))
def vq:=T.zU.dX P base 55 j1 λb s r u c p d=>af (wS 3 d (br (wa1 v1))) (af (wS 4 d aj) (af (gM p (cm r) (eW (by rfl) T.cp (wkc b T.vK)) (gN 5 d) (show PSs _ _ (loS _ K86.h8)from af (wS 6 d (clX b r c (qO T) (ag v0 (ag (wx b v3 (lF cC lG aj)) (ag v2 (wa1 v4)))))) az)) az))
def jG:=T.jX.dX P base 56 dj λb s r u c p d=>af (wS 2 d (clX b r c (vq T) (ag (wfn 1 s T.aA T.ar T.aS v0) (ag (wfn 2 s T.aA T.ar T.aG v0) (wa1 (clX b r c (eu T) (ag (wfn 1 s T.aA T.ar T.aS v0) (wa1 v1)))))))) az
def eA:=T.jS.dX P base 41 eQ λb s r u c p d=>af (wS 3 d (cl b r (hV T) (ag v0 (ag v1 (wa1 v2))))) (af (wi1 (bc oi w_is v3 dy (bz _)) (ax (aW s c (cm r) (by rfl) T.kd T.mm T.km rfl (kE (afF v1 (kE (afF v2 (kE (uY s u r.gd v0 dH))))))))) (wr v3))
def lM:=T.mj.dX P base 40 gX λb s r u c p d=>az
def lO:=T.gG.dX P base 57 cQ λb s r u c p d=>af (wi1 (we2 b u v1 ao) (wr (meN b r c T.aA T.ar (j9 T) v0 (wa1 v2)))) (af (wi1 (we2 b u v1 ao) (wr (meN b r c T.aA T.ar (lP T) v0 (wa1 v2)))) (af (wi1 (we2 b u v1 ao) (wr (meN b r c T.aA T.ar (jG T) v0 (wa1 v2)))) (af (wi1 (we2 b u v1 ao) (wr (cl b r (gp T) (wa1 (wx b (wfn 2 s T.aA T.ar T.aG v0) (clX b r c (eA T) (ag v2 (ag aj (wa1 (cJ mf w_sub (wkc b T.eF) aj)))))))))) (af (wi1 (we2 b u v1 ao) (wr (meN b r c T.aA T.ar (lM T) v0 (wa1 (clX b r c (eA T) (ag v2 (ag aj (wa1 (wkc b T.ry))))))))) (ax (aW s c (cm r) (by rfl) T.kd T.mm T.km rfl (kE (uY s u r.gd v1 (kE (uY s u r.gd v2 dH))))))))))
def aQ:=T.pk.dX P base 58 j2 λb s r u c p d=>af (wi1 (bQ (bD (wB bJ (dJ s) T.aC apw (ag v1 (wa1 (wty T.rg aq1)))))) (ax (fF s c (cm r) (by rfl) T.kd T.mm T.km rfl (wa1 ao)))) (af (wS 2 d (mw s v1 (wa1 ao))) (af (wi1 (we2 b u (wx b v2 aj) ao) (wr (meN b r c T.aA T.ar (lN T) v0 (wa1 v1)))) (wr (meN b r c T.aA T.ar (lO T) v0 (ag (wx b v2 aj) (wa1 (wx b v2 aj)))))))
def lQ:=T.iG.dM P base 40 eh λb s r u c p d=>(aK (gJ (M:=dkM) (j:=0) (bQ (ald b (wfn 3 s T.aA T.ar T.bR v0))) (bN b c λB b c=>az) dw) (aK (agF b T.aA T.ar T.bR T.aG (gj (pv 0) (ajD apG PySem.F.slot_list_pop PySem.F.type_list_pop ajY (kU (pv 0) rfl)) rfl)) (bO (cg b c λB b c=>jw ao))))
def ka:=T.gF.dM P base 41 dD λb s r u c p d=>(aK (gJ (M:=dkM) (j:=0) (we2 b u v1 ao) (bN b c λB b c=>az) dw) (aK (gJ (M:=dkM) (j:=0) (we2 b u v1 ao) (bN b c λB b c=>az) dw) (aK (gJ (M:=dkM) (j:=0) (we2 b u v1 ao) (bO (gI (aon b r T.aA T.ar (lQ T) (pv 0)))) dw) (bN b c λB b c=>az))))
def jH:=T.gb.dM P base 50 dk λb s r u c p d=>(aK (cg b c λB b c=>wS 2 d (mw b.symm v1 (wa1 ao))) (aK (cg b c λB b c=>wS 3 d (wx b v2 aj)) (aK (cg b c λB b c=>wS 4 d (wx b v2 aj)) (aK (cg b c λB b c=>wi1 (PW.pt (mr (we2 b u v3 ao) (gK (we2 b u (wx b v2 aj) ao)))) az) (aK (cg b c λB b c=>qr (mkI b r c T.nA T.cW T.hY T.ip (nj T) T.tY (wa1 (afG (aaI v3 v4 afH))))) (aK (wO b c λB e b c a=>(w9 (i:=5) d rfl (Or.inl rfl) (by rfl) T.agf boot_dict (my (n:=0) b a T.aA T.ar T.bY (pv 0)))) (aK (cg b c λB b c=>(wY (i:=5) (aaz (i:=5) (un1 u) (pv 5) v3 v4))) (aK (u5 (n:=1) b c T.aA T.ar T.aS (pv 0) λB e b c a=>mkI b r c T.nA T.cW T.hY T.ip (nj T) T.tY (wa1 (va 5))) (aK (u5 (n:=0) b c T.aA T.ar T.bY (pv 0) λB e b c a=>va 5) (bO (cg b c λB b c=>jw ao)))))))))))
def qU:=T.uJ.dN P base 0 kN λb s r u c p d=>wr (aaD (ald b v1) (wx b v1 (lF cC lG aj)) v0)
def kc:=T.gH.dM P base 54 dE λb s r u c p d=>(aK (wO b c λB e b c a=>(wS 2 d (clX b r c (abS T) (ag (my (n:=1) b a T.aA T.ar T.aS (pv 0)) (ag (my (n:=2) b a T.aA T.ar T.aG (pv 0)) (wa1 (clX b r c (eu T) (ag (my (n:=1) b a T.aA T.ar T.aS (pv 0)) (wa1 v1))))))))) (aK (agG b T.aA T.ar T.bR T.aG (dG (lI apG ap0 ap1 fo (kU (pv 0) rfl) (aP (kU (pv 0) rfl) cu)))) (aK (u5 (n:=2) b c T.aA T.ar T.aG (pv 0) λB e b c a=>(cl b r (qU T) (ag (my (n:=2) b a T.aA T.ar T.aG (pv 0)) (wa1 v2)))) (bO (cg b c λB b c=>jw (wT oe aaM T.rg aq1 (wa1 (wln b.symm T.cR v2))))))))
def kb:=T.gG.dM P base 55 cA λb s r u c p d=>(aK (gJ (M:=dkM) (j:=0) (we2 b u v1 ao) (bO (gI (xmD b r T.aA T.ar (jH T) (pv 0) λB b=>wa1 v2))) dw) (aK (gJ (M:=dkM) (j:=0) (we2 b u v1 ao) (bO (gI (xmD b r T.aA T.ar (kc T) (pv 0) λB b=>wa1 v2))) dw) (bN b c λB b c=>az)))
def aZ:=T.pk.dM P base 56 fM λb s r u c p d=>(aK (cg b c λB b c=>wi1 (bQ (bD (wB bJ (dJ b.symm) T.aC apw (ag v1 (wa1 (wty T.rg aq1)))))) az) (aK (cg b c λB b c=>wS 2 d (mw b.symm v1 (wa1 ao))) (aK (gJ (M:=dkM) (j:=0) (we2 b u (wx b v2 aj) ao) (bO (gI (xmD b r T.aA T.ar (ka T) (pv 0) λB b=>wa1 v1))) dw) (bO (gI (xmD b r T.aA T.ar (kb T) (pv 0) λB b=>ag (wx b v2 aj) (wa1 (wx b v2 aj))))))))
def cx:=T.rP.dN P base 59 jx λb s r u c p d=>(af (jZ (i:=3) d rfl (Or.inl rfl) (su bB)) (af (wX (tb:=K86.cO) (th:=K86.gQ) (i:=4) s rfl rfl d rfl rfl (by rfl) T.hZ (λa f h=>T.xs.ex a f _ _ h T.uy) (λ_ _ B b c p=>ax (qr (meN b r c T.aA T.ar (aQ T) v0 (wa1 v1)))) λe B b c=>have r:=r.sui (v:=some (.ref e)) (by decide);(af (jZ (i:=3) d rfl (Or.inl rfl) (su (ag (wB dS (qy b.symm T.xs) T.aC apw (ag v4 (wa1 (wty T.tW om)))) (ag (wB dS (qy b.symm T.xs) T.aC apw (ag v4 (wa1 (wcl b T.kd T.km)))) (ag (wB dS (qy b.symm T.xs) T.aC apw (ag v4 (wa1 (wcl b T.rj T.rM)))) (wa1 (wB dS (qy b.symm T.xs) T.aC apw (ag v4 (wa1 (wcl b T.dQ T.dR)))))))))) (af (wZ (i:=3) (jZ (i:=3) d rfl (Or.inl rfl) (aiM b.symm v3 (br (ag (wB dS (qy b.symm T.xs) T.aC apw (ag v4 (wa1 (wcl b T.eE T.eJ)))) (ag (wB dS (qy b.symm T.xs) T.aC apw (ag v4 (wa1 (wcl b T.ma T.jR)))) (wa1 (wB dS (qy b.symm T.xs) T.aC apw (ag v4 (wa1 (wcl b T.jL T.eK))))))))))) (ax (xc b.symm (dG (lI apG ap0 ap1 fo (pv 3) (aP (wB dS (qy b.symm T.xs) T.aC apw (ag v4 (wa1 (wcl b T.nC T.nX)))) cu)))))))) (ax (wZ (i:=3) (jw (weq s u v3 (wad s (br (wa1 aaH)) (wco "_law_k" (cm r) (qt (by rfl) T.cp aj aj) λ_ _ _ _=>weq s u v0 v3))))))))
def tM:=T.wo.dN P base 60 fG λb s r u c p d=>(alP (j:=0) b r c d rfl (Or.inl rfl) T.vA T.aA ⟨T.ar,T.bY,T.aS,T.aG,T.bR⟩ T.yq (vx T) T.ab3 (aK (cg b c λB b c=>(aax (i:=1) d rfl rfl (by rfl) (ts:=["_law_k"]) ⟨rfl,rfl,rfl,rfl,rfl⟩ (cm r) rfl (cI (by decide)) (eW (by rfl) T.cp aj) (λ_ _ _ _=>gN 0) (λ_ _ _ _=>mx) λ_ _ _ _=>cJ fX vc (wxX b ao (cJ du w_div v0 aj)) (wxX b ao (wmo v0 aj)))) (aK (qp b p (cm r) (λB b=>fc b.symm v1) (j4 d rfl (Or.inl rfl)) (show PSs _ _ (loX _ _ K86.bF)from bO (aas (adN (aiV s u) (xmD b r T.aA T.ar (aZ T) (pv 0) λB b=>wa1 (cJ fX vc (cJ fX vc ao v2) ao)) gk (λ_=>rfl) (bz _)) (bN b c λB b c=>az) dw))) (aK (gJ (M:=dkM) (j:=0) (PW.pt (mr (bQ (bD (cl b r (cx T) (ag v0 (ag ao (wa1 aj)))))) (gK (bQ (bD (cl b r (cx T) (ag v0 (ag ao (wa1 aj))))))))) (bN b c λB b c=>az) dw) (bO (gI (wQ (agH (w_eq s u) (xmD b r T.aA T.ar (aZ T) (pv 0) λB b=>wa1 ao) gk (λ_=>rfl) (bz _)) (xP (alc (j:=0) (weq s u (wln s T.cR (iu s (meN b r c T.aA T.ar (aQ T) v0 (wa1 ao)) (wa1 ao))) aj))))))))))
def eZ:=T.rS.dN P base 0 fK λb s r u c p d=>af (wi1 (bc og w_lt v1 (wln s T.cR v0) (bz _)) (wr (wx b v0 v1))) (wr aj)
def m8:=T.pe.dN P base 60 dt λb s r u c p d=>(alP (j:=0) b r c d rfl (Or.inl rfl) T.vA T.aA ⟨T.ar,T.bY,T.aS,T.aG,T.bR⟩ T.yq (vx T) T.ab3 (aK (aas (PW.pt (alO (adN (aiV s u) (xmD b r T.aA T.ar (aZ T) (pv 0) λB b=>wa1 ao) gk (λ_=>rfl) (bz _)) (af3 (adN (aiV s u) (xmD b r T.aA T.ar (aZ T) (pv 0) λB b=>wa1 ao) gk (λ_=>rfl) (bz _))))) (bN b c λB b c=>az) dw) (aK (afB (M:=dkM) (j:=0) (i:=1) d (meN b r c T.aA T.ar (aQ T) v0 (wa1 ao))) (aK (gJ (M:=dkM) (j:=0) (PW.pt (mr (bQ (bD (cl b r (cx T) (ag v0 (ag ao (wa1 aj)))))) (gK (wn2 b u (meN b r c T.aA T.ar (aQ T) v0 (wa1 ao)) v1)))) (bN b c λB b c=>az) dw) (bO (gI (wQ (agH (w_eq s u) (xmD b r T.aA T.ar (aZ T) (pv 0) λB b=>wa1 ao) gk (λ_=>rfl) (bz _)) (xP (alc (j:=0) (weq s u (meN b r c T.aA T.ar (aQ T) v0 (wa1 ao)) ao))))))))))
def fP:=T.uI.dN P base 59 gV λb s r u c p d=>(af (wS 3 d dy) (af (wS 4 d dy) (af (wX (tb:=K86.dr) (th:=K86.iI) (i:=5) s rfl rfl d rfl rfl (by rfl) T.ma (λa f h=>T.xs.ex a f _ _ h T.jR) (λ_ _ B b c p=>ax (qr (meN b r c T.aA T.ar (aQ T) v0 (wa1 v1)))) λe B b c=>have r:=r.sui (v:=some (.ref e)) (by decide);af (wS 3 d (aaE b.symm T.xs T.akB (va 5) rfl)) (ax (wS 4 d (aaE b.symm T.xs T.agn (va 5) rfl)))) (wr (kG (weq s u v3 v2) (kG (wB dS (qy s T.xs) T.aC apw (ag v4 (wa1 (wcl b T.vE T.jl)))) (pq (weq s u (aaE s T.xs T.akA v4 rfl) aj))))))))
def qT:=T.uH.dN P base 0 gU λb s r u c p d=>af (wS 1 d (br (was rfl))) (af (wS 1 d (wad s v1 (br (was rfl)))) (af (wS 1 d (wad s v1 (br (was rfl)))) (af (wS 1 d (wad s v1 (br (was rfl)))) (af (wS 1 d (wad s v1 (br (was rfl)))) (af (wS 1 d (wad s v1 (br (was rfl)))) (af (wS 1 d (wad s v1 (br (ag dy (ag aj (ag aaH (ag (br (wa1 ao)) (wa1 (aX (wa1 ao)))))))))) (wr (wx b v1 (wmo v0 (wln s T.cR v1))))))))))
def oK:=T.rQ.dN P base 0 fH λb s r u c p d=>af (wS 1 d (br (was rfl))) (wr (cJ fX vc (cJ fX vc ao (wx b v1 (wmo v0 aj))) ao))
def oM:=T.rR.dN P base 0 fJ λb s r u c p d=>af (wS 1 d (br (was rfl))) (af (wS 1 d (wad s v1 (br (was rfl)))) (af (wS 1 d (wad s v1 (br (was rfl)))) (af (wS 1 d (wad s v1 (br (was rfl)))) (wr (cJ fX vc (wx b (br (ag ao (wa1 ao))) (wmo (cJ du w_div v0 aj) aj)) (wx b v1 (wmo v0 aj)))))))
def j6:=T.lV.dN P base 0 dC λb s r u c p d=>af (wS 1 d (br (was rfl))) (af (wS 1 d (wad s v1 (br (was rfl)))) (af (wS 1 d (wad s v1 (br (was rfl)))) (wr (cJ fX vc (wx b (br (ag ao (wa1 ao))) (wmo (cJ du w_div v0 aj) aj)) (wx b v1 (wmo v0 aj))))))
def lK:=T.n6.dN P base 0 cP λb s r u c p d=>af (wS 2 d (br (ag (aX (ag ao (wa1 aj))) (ag (aX (ag ao (wa1 aj))) (wa1 (aX (ag ao (wa1 aj)))))))) (af (wS 2 d (wad s v2 (br (ag (aX (ag ao (wa1 aj))) (wa1 (aX (ag ao (wa1 aj)))))))) (af (u7 (bD v1) (ax (wS 2 d (wad s v2 (br (ag (aX (ag ao (wa1 aj))) (wa1 (aX (ag ao (wa1 aj))))))))) (ax (wS 2 d (wad s v2 (br (wa1 (aX (ag ao (wa1 aj))))))))) (wr (wx b v2 (wmo v0 (wln s T.cR v2))))))
def vr:=T.zW.dN P base 1 di λb s r u c p d=>af (wS 2 d (wmo v0 aj)) (af (wi1 (we2 b u v2 aj) (wr (aX (ag (cl b r (qT T) (wa1 (cJ du w_div v0 aj))) (wa1 aj))))) (af (wi1 (we2 b u v2 aj) (wr (aX (ag (cl b r (oK T) (wa1 (cJ du w_div v0 aj))) (wa1 aj))))) (af (wi1 (we2 b u v2 aj) (wr (aX (ag (cl b r (oM T) (wa1 (cJ du w_div v0 aj))) (wa1 aj))))) (af (wi1 (we2 b u v2 aj) (wr (aX (ag (cl b r (j6 T) (wa1 (cJ du w_div v0 aj))) (wa1 aj))))) (wr (cl b r (lK T) (ag (cJ du w_div v0 aj) (wa1 v1))))))))
theorem ajQ{f:Addr}{d:FuncData}(e:Fun K "law" "law" ahi f d):FnOk P w K mg base CX0 62 f d ["_law_script"] (spW K 1 ahX):=acX ad4 e mR rfl rfl rfl (by decide) λg A a s H E B b r c p=>(af (wi1 (PW.pt (gL (we2 b r.units (wmo (cl b r (eZ T) (ag v0 (wa1 aj))) aj) aj) (dW (bQ (bD (cl0 b r (tM T))))))) az) (af (wi1 (PW.pt (gL (we2 b r.units (wmo (cl b r (eZ T) (ag v0 (wa1 aj))) aj) aj) (dW (bQ (bD (cl0 b r (m8 T))))))) az) (alP (j:=1) b r c mR.nd rfl (Or.inl rfl) T.vA T.aA ⟨T.ar,T.bY,T.aS,T.aG,T.bR⟩ T.yq (vx T) T.ab3 (aK (qq (xmD b r T.aA T.ar (aZ T) (pv 1) λB b=>wa1 ao)) (aK (qq (xmD b r T.aA T.ar (aZ T) (pv 1) λB b=>wa1 ao)) (aK (qq (xmD b r T.aA T.ar (aZ T) (pv 1) λB b=>wa1 ao)) (aK (cg b c λB b c=>wS 2 mR.nd (weq b.symm r.units (wmo (cl b r (eZ T) (ag v0 (wa1 aj))) aj) aj)) (aK (aas (PW.pt (aiH (aom (j:=1) (bD v2)) (abr (adN (aiV b.symm r.units) (xmD b r T.aA T.ar (aZ T) (pv 1) λB b=>wa1 ao) gk (λ_=>rfl) (bz _))))) (bN b c λB b c=>az) dw) (aK (agE (j:=1) (i:=3) mR.nd (ag (meN b r c T.aA T.ar (aQ T) v1 (wa1 ao)) (ag (meN b r c T.aA T.ar (aQ T) v1 (wa1 ao)) (wa1 (meN b r c T.aA T.ar (aQ T) v1 (wa1 ao)))))) (aK (gJ (M:=dkM) (j:=1) (PW.pt (mr (bQ (bD (cl b r (fP T) (ag v1 (ag ao (wa1 aj)))))) (gK (bQ (bD (cl b r (fP T) (ag v1 (ag ao (wa1 aj))))))))) (bN b c λB b c=>az) dw) (aK (gJ (M:=dkM) (j:=1) (bQ (bD (cl b r (fP T) (ag v1 (ag ao (wa1 aj)))))) (bN b c λB b c=>az) dw) (aK (qp b p (cm r) (λB b=>fc b.symm (sv (afI b.symm) v0 (dY aj) (dY aj))) (j4 mR.nd rfl (Or.inl rfl)) (show PSs _ _ (loX _ _ K86.jf)from(aK (cg b c λB b c=>aiL (cl b r (vr T) (ag (wmo (cJ fW w_mul v4 aj) aj) (wa1 v2))) (xh b.symm (cm r) (eP (gN 5 mR.nd) (eP (gN 6 mR.nd) qu)) rfl (ia (ia yt)) nO) (akw nO)) (aK (gJ (M:=dkM) (j:=1) (bQ (bD (cl b r (cx T) (ag v1 (ag (va 5) (wa1 (va 6))))))) (bN b c λB b c=>az) dw) (bO (gJ (M:=dkM) (j:=1) (wn2 b r.units (br (ag (meN b r c T.aA T.ar (aQ T) v1 (wa1 ao)) (ag (meN b r c T.aA T.ar (aQ T) v1 (wa1 ao)) (wa1 (meN b r c T.aA T.ar (aQ T) v1 (wa1 ao)))))) v3) (bN b c λB b c=>az) dw)))))) (aK (gJ (M:=dkM) (j:=1) (bD v2) (bO (gI (wQ (agH (w_eq b.symm r.units) (xmD b r T.aA T.ar (aZ T) (pv 1) λB b=>wa1 ao) gk (λ_=>rfl) (bz _)) (wQ (alc (j:=1) (weq b.symm r.units (meN b r c T.aA T.ar (aQ T) v1 (wa1 ao)) ao)) (xP (alc (j:=1) (cl b r (cx T) (ag v1 (ag ao (wa1 aj)))))))))) dw) (bO (cg b c λB b c=>jw (weq b.symm r.units v3 (br (was rfl))))))))))))))))))
theorem all_mk(a:∀c:List Int,c.length<=63->ahX [.lst (c.map .int)]=.ok (.bl true)){l:W.OpenLaw}{d:Addr}(b:mg "law"=some (.ref d)):∃e:FuncData,(∀(s:Shared)(v:Value),BindsTo s e ⟨[v],[]⟩ [("_law_script",v)])/\∀base:Heap,K.In base->base.Ns mainGlobals mg->FnOk l.prog w K mg base CX0 62 d e ["_law_script"] (WS.aa6 K):=aj9 T.anc T.mgA b (λ_ _ _ _ _ _ _=>rfl) (λ_ _ _ f=>ajQ T f) a
omit T
def ak3{a0 a1 a2 a3 a4 a5 R N O M b z s h v n d j g a I y p u H m C G q B x r J o e A c E k f i}(T:Txt w K mg ⟨a0,a1,a2,a3,a4,a5,R,N,O,M,b,z,s,h,v,n,d,j,g,a,I,y,p,u,H,m,C,G,q,B,x,r,J,o,e,A,c,E,k,f,i⟩){l:W.OpenLaw}{Q:Addr}(t:mg "law"=some (.ref Q)):=all_mk T aeK (l:=l) t
def walk{l:W.OpenLaw}{v:Program}{b:List Str}{j:(Str->Option Value)->Heap->Prop}{g:World->Heap->Prop}{d:DefRec}{K:Params->W.Frag}(o:l.most=some 63)(c:d.params.defaults=[])(r:∀(w:World)(h:Heap),g w h->(K w.params).In h)(F:∀(w:World)(mg:Str->Option Value)(e:Addr)(h:Heap),(K w.params).In h->h.Ns mainGlobals mg->mg d.name=some (.ref e)->∃i:FuncData,(∀(s:Shared)(u:Value),BindsTo s i ⟨[u],[]⟩ [("_law_script",u)])/\∀base:Heap,(K w.params).In base->base.Ns mainGlobals mg->FnOk l.prog w (K w.params) mg base CX0 62 e i ["_law_script"] (WS.aa6 (K w.params))):W.WalkO v b j g l.row.toRowW d [] λf t=>PySem.call f t:=L2.agZ (n:=63) (k:=62) (x:="_law_script") (CX:=λ_=>CX0) (sp:=λw=>WS.aa6 (K w.params)) o (by decide) c ⟨λ_=>rfl,by decide,by decide,rfl⟩ r F (λ_ _ a q m _ p=>⟨a,q,rfl,p,m,λ_=>rfl⟩) λ_ _ _ _ _ z=>z
end K86
open PySem PySem.W PyProof.Rows
set_option maxRecDepth 100000 in
set_option maxHeartbeats 0 in
theorem PySem.Challenge.cw_squarecall_k86_rows_refused_holds : PySem.Challenge.rw_squarecall_k86_rows_refused.Holds := by
 w_on;o_law;k_head;(case hw=>w_witness2)
 k_fill
 refine K86.walk (l:=PySem.Challenge.rw_squarecall_k86_rows_refused) rfl rfl (λw h Y=>W.kIn_of Y) ?F
 case F =>
 intro w mg fa h KX G hmg
 refine' K86.ak3 ?T hmg
 case T =>
  constructor<;>(try dsimp only)<;>first|(exact WS.akZ KX G (by k_is) (by k_is) (by k_is) (by k_is) ⟨rfl,rfl,rfl,by decide +kernel,rfl,by decide +kernel,by decide +kernel⟩ (by intro _ _ _ _ _ _ u h;first|exact WS.bind1 (by intros;rfl) u h|exact WS.aac (by intros;rfl) u h|exact WS.wG (by intros;rfl) u h|exact WS.akU (by intros;rfl) u h|exact WS.akV (by intros;rfl) u h) (by decide))|(exact⟨⟨by k_is,by k_is,by k_is⟩,WS.agg (by k_is) (by k_is) (by k_is),⟨⟨rfl,rfl,rfl,by decide +kernel,rfl,by decide +kernel,by decide +kernel⟩,(by intro _ _ _ _ _ _ u h;first|exact WS.bind1 (by intros;rfl) u h|exact WS.aac (by intros;rfl) u h|exact WS.wG (by intros;rfl) u h|exact WS.akU (by intros;rfl) u h|exact WS.akV (by intros;rfl) u h),by decide⟩⟩)|(exact⟨_,W.mg_of KX G (by k_is),by repeat first|exact WS.abn|exact WS.abl|exact .nil|refine WS.abk (by k_is) (by decide) ?_|refine .cons ?_ ?_⟩)|(exact WS.abm (by k_is) (by decide) (by repeat first|exact WS.abn|exact WS.abl|exact .nil|refine WS.abk (by k_is) (by decide) ?_|refine .cons ?_ ?_))|(exact WS.ani (by k_is) (by k_is) (by k_is) (by k_is))|(exact WS.ak2 (by k_is) (by k_is) (by k_is) (by k_is))|(exact WS.ak0 (by k_is) (by k_is) (by k_is) (by k_is) (by k_is))|(exact WS.afT (by k_is) (by repeat first|exact .nil|exact .cons rfl .nil|exact .cons ⟨_,rfl⟩ .nil|refine .cons rfl ?_|refine .cons ⟨_,rfl⟩ ?_) (by decide))|(exact WS.acQ (tab:=[("FloorError",_),("NoCall",_),("NoName",_),("NoProgram",_),("TooMany",_),("NoPairs",_),("NoRow",_),("Blind",_),("Out",_),("Meet",_),("Broken",_)]) (.head _) (by(refine WS.all_cons (WS.ae8 (by first|k_is|exact rfl) (by first|k_is|exact rfl) (by first|k_is|exact rfl) (by first|k_is|exact rfl) (by first|k_is|exact rfl) (by first|k_is|exact rfl)) ?_);(iterate 10 (refine WS.all_cons (WS.ahY (by first|k_is|exact rfl) (by first|k_is|exact rfl) (by first|k_is|exact rfl) (by first|k_is|exact rfl) (by first|k_is|exact rfl) (by first|k_is|exact rfl)) ?_));exact WS.all_nil) ((WS.all_cons (.inl (by simp)) (WS.all_cons (.inr (by k_is)) (WS.all_cons (.inl (by simp)) (WS.all_cons (.inl (by simp)) (WS.all_cons (.inl (by simp)) (WS.all_cons (.inl (by simp)) (WS.all_cons (.inl (by simp)) (WS.all_cons (.inl (by simp)) (WS.all_cons (.inl (by simp)) (WS.all_cons (.inl (by simp)) (WS.all_cons (.inl (by simp)) (WS.all_cons (.inl (by simp)) WS.all_nil))))))))))))) (show (["FloorError","NoCall","NoName","NoProgram","TooMany","NoPairs","NoRow","Blind","Out","Meet","Broken"]:List String).Nodup from by decide) (by decide) (by first|k_is|exact rfl) (by first|k_is|exact rfl))|(exact WS.an7 (WS.fQ (by decide)) (WS.acF (by k_is)) (WS.fQ (by decide)) (WS.fQ (by decide)) (WS.fQ (by decide)) (WS.fQ (by decide)) (WS.fQ (by decide)) (WS.fQ (by decide)) (WS.fQ (by decide)) (WS.fQ (by decide)) (WS.fQ (by decide)) (WS.acE (by first|k_is|exact rfl) (by first|k_is|exact rfl) (by first|k_is|exact rfl)))|(exact WS.an7 (WS.fQ (by decide)) (WS.acF (by k_is)) (WS.fQ (by decide)) (WS.fQ (by decide)) (WS.fQ (by decide)) (WS.fQ (by decide)) (WS.fQ (by decide)) (WS.fQ (by decide)) (WS.acE (by first|k_is|exact rfl) (by first|k_is|exact rfl) (by first|k_is|exact rfl)) (WS.acE (by first|k_is|exact rfl) (by first|k_is|exact rfl) (by first|k_is|exact rfl)) (WS.fQ (by decide)) (WS.fQ (by decide)))|(exact WS.akq (by k_is) (by k_is) (by k_is))|(exact⟨⟨by k_is,by k_is,by k_is⟩,WS.agg (by k_is) (by k_is) (by k_is)⟩)|(exact⟨by first|k_is|exact rfl,by first|k_is|exact rfl,by first|k_is|exact rfl,by first|k_is|exact rfl⟩)|(exact λ_ _=>W.mg_of KX G)|(refine W.mg_of KX G ?_;k_is)|(refine W.mg_none_of KX G ?_;k_is)|(exact⟨_,_,by k_is,by exact .cons ⟨⟨_,rfl⟩,rfl,⟨_,rfl⟩⟩ (.cons ⟨⟨_,rfl⟩,rfl,⟨_,rfl⟩⟩ (.cons ⟨⟨_,rfl⟩,rfl,⟨_,rfl⟩⟩ (.cons ⟨⟨_,rfl⟩,rfl,⟨_,rfl⟩⟩ (.nil))))⟩)|(exact⟨_,_,by k_is,by exact .cons ⟨⟨_,rfl⟩,rfl,rfl⟩ (.cons ⟨⟨_,rfl⟩,rfl,rfl⟩ (.cons ⟨⟨_,rfl⟩,rfl,rfl⟩ (.cons ⟨⟨_,rfl⟩,rfl,rfl⟩ (.nil))))⟩)|(refine⟨by decide,?_⟩;k_is)|(exact L2.jv.mk (by k_is) (by kernel_rfl))|(exact L2.StrK.mk (by first|k_is|exact rfl) (by first|k_is|exact rfl) (by first|k_is|exact rfl) (by first|k_is|exact rfl))|(show W.findIn _ _ _=_;first|k_is|exact rfl)|(first|kernel_rfl|exact rfl)|(k_is)|(exact rfl)

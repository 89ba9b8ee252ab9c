import PyProof.Rows.All
import Wide.All
import OpenK.AllK
import Wide.FinOn
import Lean
import PyProof.EqAt
import PyProof.EqKinds
import PyProof.TupleCall
import KE.KRevIter
import KE.KTryMore
import KE.KSortTup
import KE.KDictList
import KE.KEqDict
import KE.KDictSum
import KE.KIntText
import PySem.Challenge.RW_squarecall_k54_whole_pairs_turned_about
set_option linter.all false
open PySem renaming wpAny_bind->apu,wpAny_pure->apF,wpAny_field->apY,wpAny_mono->apZ,mem_of_lookup->aqj,wpAny_setField_rec->aqm,wpAny_callSpecial?_slot->aqu,boot_len->aqx,wpAny_holding->aqF,wpAny_call_entry->aqH,wpAny_Call_Name_kw->aqU,wpAny_passesOwn->aqW,wpAny_truthy_bool->aq1,wpAny_seqItems->aq4,wpAny_comprehension_free->aq5,plainObj_wpAny_Assign_Attribute->aq8,wpAny_standAt->arb,wpAny_call->arp,wpAny_attempt->aru,wpAny_execs_nil->arv,codeAny_mono->arA,wpAny_pyIter_tuple->arD,wpAny_setField->arJ,wpAny_newObj_type->arM,wpAny_pyIter_enum->arN,wpAny_pyIter_list->arO,sizeLine_eq->arQ,codeAny_call_builtin->ar4,wpAny_loadPart->asa,wpAny_letOwnedTupleGo_enum->asl,wpAny_assign_Name->aso,wpAny_loadPart_at->ass,wpAny_rule->asv,wpAny_eqBool_int->asy,wpAny_lookBehind->asz,pastItsLine_dict->asA,concat_meets->asD,noFill_tuple_add->asE,typeIs_none->asQ,refuseLoop_ref->asS,call_meets->asV
open List renaming getElem?_set_ne->apv,getD_eq_getElem?_getD->apx,getElem?_eq_getElem->apy,getElem?_set_self->apz,getElem?_eq_some_iff->apC,mem_cons_of_mem->apI,mem_cons->apJ,length_cons->apK,mem_cons_self->apN,mem_range->apP,mem_append_right->apQ,length_map->apR,map_cons->apU,getElem?_map->apX,mem_append_left->ap0,size_toArray->ap5,map_map->ap6,getElem_mem->ap7,mem_append->ap8,not_mem_nil->aqa,length_append->aqc,append_nil->aqf,lookup_cons->aqh,mem_map->aqi,getElem?_append_right->aql,all_eq_true->aqn,getElem?_append_left->aqp,mem_singleton->aqt,map_congr_left->aqy,nodup_cons->aqz,set_cons_zero->aqA,getElem?_drop->aqB,set_comm->aqC,idxOf_lt_length_of_mem->aqE,set_cons_succ->aqK,drop_eq_getElem_cons->aqL,mem_or_eq_of_mem_set->aqM,mem_filter->aqN,getElem?_replicate->aqQ,getElem?_range->aqR,pairwise_iff_getElem->aq2,getElem_of_mem->aq6,mem_map_of_mem->aq7,getElem?_cons_succ->ara,length_range->arh,length_replicate->ari,length_singleton->arj,getElem?_eq_none->arl,drop_length->ars,nodup_range->art,map_append->arw,getLastD_eq_getLast?->ary,mem_filterMap->arz,set_set->arG,length_eq_zero_iff->arL,pairwise_map->arP,range_succ_eq_map->arT,filter_cons->arV,mem_of_getElem?->arY,length_set->ar0,length_nil->ar2,find?_cons->ar3,getLast?_eq_some_getLast->ar7,filterMap_cons->ar8,all_cons->asm,getElem?_eq_none_iff->asx,length_take->asC,countP_cons->asG,all_map->asH,map_set->asJ,of_mem_zip->asM,forIn_cons->asN,nil_append->asO,drop_zero->asT
open PySem.Heap renaming get?_push_of_some->apw,lt_size->apH,get?_push_size->apL,get?_none_of_le->aqb,get?_update_other->aqd,get?_update_self->aqJ,size_push->aqS
open Nat renaming le_trans->apD,lt_of_lt_of_le->apE,le_refl->apG,ne_of_lt->apM,ne_of_gt->ap4,zero_le->ap9,le_add_right->aqo,lt_irrefl->aqP,lt_succ_self->aqT,lt_of_le_of_lt->aqV,not_lt_zero->aqX,lt_of_lt_of_eq->arC,min_le_right->arU,le_of_lt->arX,le_succ->asd,lt_trichotomy->asu
open Ne renaming symm->apO
open PyProof.Rows renaming boot_isinstance->apS,callWith_type1->aqk,formatField_str->aqs,boot_tuple->aq3,slot_tuple_getitem->aq9,callWith_builtin1->arZ,boot_range->asU
open Bool renaming and_eq_true->apT,false_ne_true->apW,eq_iff_iff->ap2,and_eq_true_iff->aqv,beq_eq_decide_eq->arn,or_eq_true->ar6
open Option.some renaming inj->apV,injEq->asn
open Option renaming map_eq_some_iff->aqe,isSome_iff_exists->aqr,bind_some->arq,map_some->asL
open Prod.mk renaming injEq->aqg
open PySem.F renaming plainAttrs_list->aqD,excBase_ValueError->aqG,slot_NoneType_hash->aqY,slot_tuple_iterator_next->aqZ,slot_enumerate_next->ark,args_tuple_add_2->arB,slot_list_append->arH,type_list_append->arI,entry_tuple_add->arK,slot_tuple_add->arR,slot_zip_next->ar5,args_tuple_iterator_next_1->asb,entry_tuple_iterator_next->asf,slot_dict_getitem->asw
open PySem.W renaming kia_one->aqI,looks_clsIn->asj,callWith_K->asB,kitx_list->asR
open Array renaming getElem?_eq_some_iff->aq0,length_toList->ar9,find?_toList->ase
open PySem.Obj renaming data_mapFields->ard,isFreed_of_fields->arW
open Int renaming emod_lt_of_pos->arf,emod_nonneg->arx,sub_eq_add_neg->ash,toNat_natCast->asr,zero_add->asI,mul_comm->asK
open Nat.succ renaming inj->arF
open PySem.Str renaming ofString_eq_toList->arS
open PySem.Calls renaming evalArgs_plain->ar1,Name_function_global->asi
open PySem.Within renaming cons->asp
open PySem.Heap.Ns1 renaming of_empty->asq
open List.cons renaming injEq->asP
def apA:=@if_neg
def apB:=@if_pos
def ap1:=@decide_eq_false
def ap3:=@decide_eq_true_eq
def aqq:=@beq_eq_false_iff_ne
def aqw:=@decide_eq_true
def aqO:=@beq_iff_eq
def arc:=@if_true
def aro:=@congrArg
def arE:=@or_false
def asF:=@if_false
noncomputable section
set_option compiler.extract_closed false
set_option tactic.hygienic false
set_option autoImplicit true
set_option relaxedAutoImplicit true
def age{p q r:Prop}{C:Prop}(h:p/\q/\r)(K:p->q->r->C):C:=let⟨h0,h1,h2⟩:=h;K h0 h1 h2
def alW{p q r s:Prop}{C:Prop}(h:p/\q/\r/\s)(K:p->q->r->s->C):C:=let⟨h0,h1,h2,h3⟩:=h;K h0 h1 h2 h3
def akY{p q r s t:Prop}{C:Prop}(h:p/\q/\r/\s/\t)(K:p->q->r->s->t->C):C:=let⟨h0,h1,h2,h3,h4⟩:=h;K h0 h1 h2 h3 h4
def fO{p q:α->Prop}{C:Prop}(h:∃a,p a/\q a)(K:∀a,p a->q a->C):C:=let⟨a,h0,h1⟩:=h;K a h0 h1
def jK{p q r:α->Prop}{C:Prop}(h:∃a,p a/\q a/\r a)(K:∀a,p a->q a->r a->C):C:=let⟨a,h0,h1,h2⟩:=h;K a h0 h1 h2
def eg{p q:α->β->Prop}{C:Prop}(h:∃a b,p a b/\q a b)(K:∀a b,p a b->q a b->C):C:=let⟨a,b,h0,h1⟩:=h;K a b h0 h1
def cE{p q:α->β->Prop}(a b)(h0:p a b)(h1:q a b):∃a b,p a b/\q a b:=⟨a,b,h0,h1⟩
def hJ{p q r:α->β->Prop}{C:Prop}(h:∃a b,p a b/\q a b/\r a b)(K:∀a b,p a b->q a b->r a b->C):C:=let⟨a,b,h0,h1,h2⟩:=h;K a b h0 h1 h2
def jJ{p q r:α->β->Prop}(a b)(h0:p a b)(h1:q a b)(h2:r a b):∃a b,p a b/\q a b/\r a b:=⟨a,b,h0,h1,h2⟩
def lD{p q r s:α->β->Prop}{C:Prop}(h:∃a b,p a b/\q a b/\r a b/\s a b)(K:∀a b,p a b->q a b->r a b->s a b->C):C:=let⟨a,b,h0,h1,h2,h3⟩:=h;K a b h0 h1 h2 h3
def zN{p q r s:α->β->Prop}(a b)(h0:p a b)(h1:q a b)(h2:r a b)(h3:s a b):∃a b,p a b/\q a b/\r a b/\s a b:=⟨a,b,h0,h1,h2,h3⟩
def lP{p q r s t:α->β->Prop}{C:Prop}(h:∃a b,p a b/\q a b/\r a b/\s a b/\t a b)(K:∀a b,p a b->q a b->r a b->s a b->t a b->C):C:=let⟨a,b,h0,h1,h2,h3,h4⟩:=h;K a b h0 h1 h2 h3 h4
def afb{p q r s t:α->β->Prop}(a b)(h0:p a b)(h1:q a b)(h2:r a b)(h3:s a b)(h4:t a b):∃a b,p a b/\q a b/\r a b/\s a b/\t a b:=⟨a,b,h0,h1,h2,h3,h4⟩
def akX{p q r s t u:α->β->Prop}{C:Prop}(h:∃a b,p a b/\q a b/\r a b/\s a b/\t a b/\u a b)(K:∀a b,p a b->q a b->r a b->s a b->t a b->u a b->C):C:=let⟨a,b,h0,h1,h2,h3,h4,h5⟩:=h;K a b h0 h1 h2 h3 h4 h5
def aiw{p q r s t u:α->β->Prop}(a b)(h0:p a b)(h1:q a b)(h2:r a b)(h3:s a b)(h4:t a b)(h5:u a b):∃a b,p a b/\q a b/\r a b/\s a b/\t a b/\u a b:=⟨a,b,h0,h1,h2,h3,h4,h5⟩
def x9{p q:α->β->γ->Prop}{C:Prop}(h:∃a b c,p a b c/\q a b c)(K:∀a b c,p a b c->q a b c->C):C:=let⟨a,b,c,h0,h1⟩:=h;K a b c h0 h1
def acZ{p q:α->β->γ->Prop}(a b c)(h0:p a b c)(h1:q a b c):∃a b c,p a b c/\q a b c:=⟨a,b,c,h0,h1⟩
def x8{p q r:α->β->γ->Prop}{C:Prop}(h:∃a b c,p a b c/\q a b c/\r a b c)(K:∀a b c,p a b c->q a b c->r a b c->C):C:=let⟨a,b,c,h0,h1,h2⟩:=h;K a b c h0 h1 h2
def agm{p q r:α->β->γ->Prop}(a b c)(h0:p a b c)(h1:q a b c)(h2:r a b c):∃a b c,p a b c/\q a b c/\r a b c:=⟨a,b,c,h0,h1,h2⟩
def vW{p q r s:α->β->γ->Prop}{C:Prop}(h:∃a b c,p a b c/\q a b c/\r a b c/\s a b c)(K:∀a b c,p a b c->q a b c->r a b c->s a b c->C):C:=let⟨a,b,c,h0,h1,h2,h3⟩:=h;K a b c h0 h1 h2 h3
def rE{p q r s:α->β->γ->Prop}(a b c)(h0:p a b c)(h1:q a b c)(h2:r a b c)(h3:s a b c):∃a b c,p a b c/\q a b c/\r a b c/\s a b c:=⟨a,b,c,h0,h1,h2,h3⟩
def akW{p q r s t:α->β->γ->Prop}{C:Prop}(h:∃a b c,p a b c/\q a b c/\r a b c/\s a b c/\t a b c)(K:∀a b c,p a b c->q a b c->r a b c->s a b c->t a b c->C):C:=let⟨a,b,c,h0,h1,h2,h3,h4⟩:=h;K a b c h0 h1 h2 h3 h4
def ak1{p q r s t:α->β->γ->Prop}(a b c)(h0:p a b c)(h1:q a b c)(h2:r a b c)(h3:s a b c)(h4:t a b c):∃a b c,p a b c/\q a b c/\r a b c/\s a b c/\t a b c:=⟨a,b,c,h0,h1,h2,h3,h4⟩
def alV{p q:α->β->γ->δ->Prop}{C:Prop}(h:∃a b c d,p a b c d/\q a b c d)(K:∀a b c d,p a b c d->q a b c d->C):C:=let⟨a,b,c,d,h0,h1⟩:=h;K a b c d h0 h1
def alU{p q r s t u:α->β->γ->δ->Prop}{C:Prop}(h:∃a b c d,p a b c d/\q a b c d/\r a b c d/\s a b c d/\t a b c d/\u a b c d)(K:∀a b c d,p a b c d->q a b c d->r a b c d->s a b c d->t a b c d->u a b c d->C):C:=let⟨a,b,c,d,h0,h1,h2,h3,h4,h5⟩:=h;K a b c d h0 h1 h2 h3 h4 h5
def alT{p q r s:α->β->γ->δ->ε->Prop}{C:Prop}(h:∃a b c d e,p a b c d e/\q a b c d e/\r a b c d e/\s a b c d e)(K:∀a b c d e,p a b c d e->q a b c d e->r a b c d e->s a b c d e->C):C:=let⟨a,b,c,d,e,h0,h1,h2,h3⟩:=h;K a b c d e h0 h1 h2 h3
def aoh{p q r s t u:α->β->γ->δ->ε->Prop}(a b c d e)(h0:p a b c d e)(h1:q a b c d e)(h2:r a b c d e)(h3:s a b c d e)(h4:t a b c d e)(h5:u a b c d e):∃a b c d e,p a b c d e/\q a b c d e/\r a b c d e/\s a b c d e/\t a b c d e/\u a b c d e:=⟨a,b,c,d,e,h0,h1,h2,h3,h4,h5⟩
def ao0{p q r s t u v w:α->β->γ->δ->ε->Prop}(a b c d e)(h0:p a b c d e)(h1:q a b c d e)(h2:r a b c d e)(h3:s a b c d e)(h4:t a b c d e)(h5:u a b c d e)(h6:v a b c d e)(h7:w a b c d e):∃a b c d e,p a b c d e/\q a b c d e/\r a b c d e/\s a b c d e/\t a b c d e/\u a b c d e/\v a b c d e/\w a b c d e:=⟨a,b,c,d,e,h0,h1,h2,h3,h4,h5,h6,h7⟩
def aoY{p q r s t u v w:α->β->γ->δ->ε->ζ->Prop}{C:Prop}(h:∃a b c d e f,p a b c d e f/\q a b c d e f/\r a b c d e f/\s a b c d e f/\t a b c d e f/\u a b c d e f/\v a b c d e f/\w a b c d e f)(K:∀a b c d e f,p a b c d e f->q a b c d e f->r a b c d e f->s a b c d e f->t a b c d e f->u a b c d e f->v a b c d e f->w a b c d e f->C):C:=let⟨a,b,c,d,e,f,h0,h1,h2,h3,h4,h5,h6,h7⟩:=h;K a b c d e f h0 h1 h2 h3 h4 h5 h6 h7
def aoZ{p q r s t u v w:α->β->γ->δ->ε->ζ->Prop}(a b c d e f)(h0:p a b c d e f)(h1:q a b c d e f)(h2:r a b c d e f)(h3:s a b c d e f)(h4:t a b c d e f)(h5:u a b c d e f)(h6:v a b c d e f)(h7:w a b c d e f):∃a b c d e f,p a b c d e f/\q a b c d e f/\r a b c d e f/\s a b c d e f/\t a b c d e f/\u a b c d e f/\v a b c d e f/\w a b c d e f:=⟨a,b,c,d,e,f,h0,h1,h2,h3,h4,h5,h6,h7⟩
def aip{p q r:α->β->γ->δ->ε->ζ->η->θ->ι->Prop}{C:Prop}(h:∃a b c d e f g i j,p a b c d e f g i j/\q a b c d e f g i j/\r a b c d e f g i j)(K:∀a b c d e f g i j,p a b c d e f g i j->q a b c d e f g i j->r a b c d e f g i j->C):C:=let⟨a,b,c,d,e,f,g,i,j,h0,h1,h2⟩:=h;K a b c d e f g i j h0 h1 h2
set_option Elab.async false
set_option linter.all false
set_option maxRecDepth 100000
namespace L2
open PySem PySem.Spec PyProof.Rows
abbrev Key:=Sum (Option Int) Str
noncomputable def lY:Int:=0xFCA86420
def ab2{prog w A E s Q}(h:Q lY {s with toks:=s.toks+1}):wpAny (model prog w) A (pyHash .none) Q E s:=by unfold pyHash;refine apu ?_;refine apF ?_;refine apu (wpAny_specialOf (asQ s) aqY.lookup ?_);refine apu (wpAny_specialOf (asQ s) aqY.lookup ?_);refine apu (wpAny_callSpecialIfBoundUnlessNone?_slot (asQ s) aqY (aqH aqY (asQ s) PySem.F.entry_NoneType_hash (wpAny_ret_mkInt ?_) (PySem.F.args_NoneType_hash_1 _)));show wpAny _ _ (if(decide (-(2:Int)^63<=lY)&&decide (lY<2^63))=true then _ else _) Q E _;rw[apB (by decide)];exact apF h
noncomputable def zd:Key->Value->Bool|.inl (some k),v=>Value.isInt k v|.inl none,.none=>true|.inl none,_=>false|.inr x,v=>Value.isStrOf x v
def api(w:World):Key->Int|.inl (some k)=>hashInt k|.inl none=>lY|.inr x=>hashStr w x
def cp:∀{k v},zd k v=true->(∃i t,k=Sum.inl (some i)/\v=Value.int i t)\/(∃x t,k=Sum.inr x/\v=Value.str x t)\/k=Sum.inl none/\v=.none
|.inl (some i),v,h=>by obtain⟨t,e⟩:=Value.isInt_shape  h;exact .inl ⟨i,t,rfl,e⟩|.inl none,v,h=>by cases v<;>first|exact .inr (.inr ⟨rfl,rfl⟩)|exact nomatch h
|.inr x,v,h=>by obtain⟨t,e⟩:=Value.isStrOf_shape  h;exact .inr (.inl ⟨x,t,rfl,e⟩)
def abQ(i)(t):zd (.inl (some i)) (.int i t)=true:=by simp[zd,Value.isInt]
def abP(x)(t):zd (.inr x) (.str x t)=true:=by simp[zd,Value.isStrOf]
def aj9(a b):decide ((Sum.inl (some a):Key)=Sum.inl (some b))=(a==b):=by grind
def aj6(a b):decide ((Sum.inr a:Key)=Sum.inr b)=decide (a=b):=by simp
def key_is(a)(b):decide ((Sum.inl (some a):Key)=Sum.inr b)=false:=ap1 λq=>nomatch q
def aka(a):decide ((Sum.inl (some a):Key)=Sum.inl none)=false:=ap1 λq=>nomatch q
def aj5(a)(b):decide ((Sum.inr a:Key)=Sum.inl (some b))=false:=ap1 λq=>nomatch q
def aj4(a):decide ((Sum.inr a:Key)=Sum.inl none)=false:=ap1 λq=>nomatch q
def aj8(a):decide ((Sum.inl none:Key)=Sum.inl (some a))=false:=ap1 λq=>nomatch q
def aj7(a):decide ((Sum.inl none:Key)=Sum.inr a)=false:=ap1 λq=>nomatch q
def dh(prog:Program)(w:World):PySem.KeyKind prog w Key where
 is:=zd;hash:=api w;inj:=λv a b ha hb=>by rcases cp ha with⟨i,t,rfl,rfl⟩|⟨x,t,rfl,rfl⟩|⟨rfl,rfl⟩<;>rcases cp hb with⟨j,u,rfl,e⟩|⟨y,u,rfl,e⟩|⟨rfl,e⟩<;>(cases e;try rfl)
 byValue:=λk v h=>by rcases cp h with⟨i,t,rfl,rfl⟩|⟨x,t,rfl,rfl⟩|⟨rfl,rfl⟩<;>rfl
 pyHash:=λhv h=>by
  rcases cp hv with⟨i,t,rfl,rfl⟩|⟨x,t,rfl,rfl⟩|⟨rfl,rfl⟩;.exact wpAny_pyHash_int h
  .exact wpAny_pyHash_str h
  .exact ab2 h
 eqBool:=λhu hv h=>by
  rcases cp hu with⟨i,t,rfl,rfl⟩|⟨x,t,rfl,rfl⟩|⟨rfl,rfl⟩
  .rcases cp hv with⟨j,u,rfl,rfl⟩|⟨y,u,rfl,rfl⟩|⟨rfl,rfl⟩;.rw[aj9]at h;exact asy h
   .rw[key_is]at h;exact SeqAt.EqAt.int_str i t y u _ _ _ _ h
   .rw[aka]at h;exact SeqAt.EqAt.int_none i t _ _ _ _ h
  .rcases cp hv with⟨j,u,rfl,rfl⟩|⟨y,u,rfl,rfl⟩|⟨rfl,rfl⟩;.rw[aj5]at h;exact SeqAt.EqAt.str_int x t j u _ _ _ _ h
   .rw[aj6]at h;exact wpAny_eqBool_str h
   .rw[aj4]at h;exact SeqAt.EqAt.str_none x t _ _ _ _ h
  .rcases cp hv with⟨j,u,rfl,rfl⟩|⟨y,u,rfl,rfl⟩|⟨rfl,rfl⟩;.rw[aj8]at h;exact SeqAt.EqAt.none_int j u _ _ _ _ h
   .rw[aj7]at h;exact SeqAt.EqAt.none_str y u _ _ _ _ h
   .rw[aqw rfl]at h;unfold eqBool;rw[apB (show(Value.none==Value.none)=true from rfl)];exact apu (asv (apF h))
 «strs»:=λk x t v h=>by
  rcases cp h with⟨i,u,rfl,e⟩|⟨y,u,rfl,e⟩|⟨_,e⟩;.exact nomatch e
  .injection e with e1 _;subst e1;cases v<;>rfl
  .exact nomatch e
def vg(prog)(w)(i)(t):(dh prog w).is (.inl (some i)) (.int i t)=true:=abQ i t
def vf(prog)(w)(x)(t):(dh prog w).is (.inr x) (.str x t)=true:=abP x t
inductive V where|non|bl(b:Bool)|int(i:Int)|str(x:Str)|byt(b:Array UInt8)|flt(b:UInt64)|ref(a:Addr)|ty(n:String)deriving DecidableEq
def RelV:V->Value->Prop|.non,u=>u=Value.none|.bl b,u=>u=Value.bool b|.int i,u=>∃t,u=Value.int i t|.str x,u=>∃t,u=Value.str x t|.byt b,u=>∃t,u=Value.bytes b t|.flt b,u=>∃t,u=Value.float b t|.ref a,u=>u=Value.ref a|.ty n,u=>u=Value.type n
abbrev Vals:List V->List Value->Prop:=Paired RelV
theorem Vals.length{xs us}(r:Vals xs us):xs.length=us.length:=Paired.length r
theorem Vals.get:∀{xs:List V}{us:List Value}{i:Nat}{x:V},Vals xs us->xs[i]?=some x->∃u,us[i]?=some u/\RelV x u|_,_,_,_,.nil,e=>by simp at e|_,_,0,_,.cons r _,e=>by simp at e;subst e;exact⟨_,rfl,r⟩|_,_,i+1,x,.cons _ t,e=>by obtain⟨u,a,b⟩:=Vals.get (i:=i) (x:=x) t (by simpa using e);exact⟨u,by simpa using a,b⟩
theorem Vals.set{x:V}{u:Value}(r:RelV x u):∀{xs:List V}{us:List Value}(i:Nat),Vals xs us->Vals (xs.set i x) (us.set i u)|_,_,_,.nil=>.nil|_,_,0,.cons _ t=>.cons r t|_,_,i+1,.cons q t=>.cons q (Vals.set r i t)
theorem Vals.append:∀{xs ys us ws},Vals xs us->Vals ys ws->Vals (xs++ys) (us++ws)|_,_,_,_,.nil,s=>s|_,_,_,_,.cons r t,s=>.cons r (Vals.append t s)
theorem Vals.take:∀{xs us}n,Vals xs us->Vals (xs.take n) (us.take n)|_,_,0,_=>.nil|_,_,_+1,.nil=>.nil|_,_,n+1,.cons r t=>.cons r (Vals.take n t)
theorem Vals.drop:∀{xs us}n,Vals xs us->Vals (xs.drop n) (us.drop n)|_,_,0,r=>r|_,_,_+1,.nil=>.nil|_,_,n+1,.cons _ t=>Vals.drop n t
def ui:Option V->Option Value->Prop|some v,some u=>RelV v u|none,none=>True|_,_=>False
def KV{a}:List (a×V)->List (a×Value)->Prop:=Paired λ(p:a×V)(q:a×Value)=>p.1=q.1/\RelV p.2 q.2
noncomputable def kV:Key->V|.inl (some i)=>.int i|.inl none=>.non|.inr x=>.str x
inductive HO where/-- a list -/|lst(xs:List V)/-- a tuple (never changes) -/|tup(xs:List V)/-- a dict whose keys are ints and texts;one whose keys are tuples of ints and texts (the empty one is both) -/|dK(kvs:List (Key×V))|dT(kvs:List (List Key×V))/-- a set of ints: its members,its size -/|set(S:Int->Bool)(n:Nat)/-- an instance of the class at C,its dict at dx,its attributes -/|ins(C dx:Addr)(fs:List (Str×V))/-- the dict of the instance at x -/|own(x:Addr)/-- the dict of an exception -/|xd(fs:List (Str×V))/-- a bound method,f of x -/|met(f x:Addr)/-- a range object lo,lo+1,.. below hi -/|rng(lo hi:Int)/-- a thing that is known to the object (the script;a dict while a loop walks it): read,never written while it is so -/|frz(o:Obj)(u:HO)/-- a code object's table -/|tbl(ps:Array Value)/-- any other thing,by what is true of its one object (a def of one's own: SetO a S n:=HO.ext λh => ..) -/|ext(φ:Heap->Prop)
abbrev Hp:=Addr->Option HO
noncomputable def upd(H:Hp)(a:Addr)(o:HO):Hp:=λb=>if b=a then some o else H b
def av{H a o}:upd H a o a=some o:=by unfold upd;rw[apB rfl]
def ak{H a b o}(h:b≠a):upd H a o b=H b:=by unfold upd;rw[apA h]
def anh{H:Hp}{a b o u}(h:H a=some o)(h':H b=some u)(d:o≠u):a≠b:=by grind
def bo{H:Hp}{a b o}(h:H a=some o)(h':H b=none):a≠b:=by grind
section
variable(P:Program)(w:World)
def dH(H:Hp)(h:Heap)(a:Addr):HO->Prop|.lst c=>c.length<=sizeLine/\∃(b:List Value)(n:Nat),Vals c b/\h.get? a=some {cls:=.type "list",data:=.seq b.toArray n}|.tup c=>c.length<=sizeLine/\∃b:List Value,Vals c b/\IsTup h a b.toArray|.dK kvs=>kvs.length<=sizeLine/\(a==sysModules)=false/\∃e,KV kvs e/\h.DictOf (dh P w) a e|.dT kvs=>kvs.length<=sizeLine/\(a==sysModules)=false/\∃c:List (List Key×Addr×Value),Paired (λ(p:List Key×V)(q:List Key×Addr×Value)=>p.1=q.1/\H q.2.1=some (.tup (p.1.map kV))/\RelV p.2 q.2.2) kvs c/\∃o i k,h.get? a=some o/\o.ExactDict/\o.data=.dict i k/\i.toList=c.map (entryOfKey (tupleKind (dh P w)))/\(c.map (·.1)).Nodup|.set S n=>h.SetOf (intKind P w) a S n|.ins C dx fs=>H dx=some (.own a)/\fs.length<=1000/\dx≠a/\h.get? a=some (W.instObj C dx)/\∃d,h.Ns1 dx d/\(∀f,ui (fs.lookup f) (d f))/\PySem.Within d (fs.map (·.1))|.own _=>∃o,h.get? a=some o|.xd fs=>∃d,h.Ns1 a d/\∀f,ui (fs.lookup f) (d f)|.rng lo hi=>∃t u v,h.get? a=some {cls:=.type "range",data:=.fields #[.int lo t,.int hi u,.int 1 v]}|.frz o u=>h.get? a=some o/\dH H h a u|.tbl ps=>h.get? a=some {cls:=.none,data:=.fields ps}|.met f x=>h.get? a=some (W.methodObj (.ref f) (.ref x))|.ext φ=>φ h/\(∃o,h.get? a=some o)/\∀g j:Heap,φ g->(∀o,g.get? a=some o->j.get? a=some o)->φ j
def HOk(H:Hp)(h:Heap):Prop:=∀a o,H a=some o->dH P w H h a o
end
section
variable{P:Program}{w:World}{H H':Hp}{h h':Heap}{a:Addr}{o:HO}
theorem dH.lt(x:dH P w H h a o):a<h.objs.size:=by cases o with|lst xs=>obtain⟨_,_,_,_,e⟩:=x;exact apH e|tup xs=>obtain⟨_,_,_,p⟩:=x;exact p.lt|dK kvs|dT kvs=>obtain⟨_,_,_,_,o,_,_,e,_⟩:=x;exact apH e|set S n=>obtain⟨o,_,_,_,e,_⟩:=x;exact apH e|ins C dx fs=>obtain⟨_,_,_,e,_⟩:=x;exact apH e|own y=>obtain⟨_,e⟩:=x;exact apH e|xd fs=>obtain⟨_,⟨_,_,_,e,_⟩,_⟩:=x;exact apH e|rng lo hi=>obtain⟨_,_,_,e⟩:=x;exact apH e|frz ob u=>obtain⟨e,_⟩:=x;exact apH e|tbl ps|met f y=>exact apH x|ext φ=>obtain⟨_,⟨_,e⟩,_⟩:=x;exact apH e
theorem Paired.afT{e g F G}:∀{d:List e}{c:List g},Paired F d c->(∀a b,F a b->G a b)->Paired G d c|_,_,.nil,_=>.nil|_,_,.cons r t,f=>.cons (f _ _ r) (Paired.afT t f)
def Paired.imp'{e g:Type}{F G:e->g->Prop}(f:∀a b,F a b->G a b){d:List e}{c:List g}(r:Paired F d c):Paired G d c:=Paired.afT r f
def dH.wC(x:dH P w H h a o)(k:∀b u,b=a\/H b=some (.own a)->h.get? b=some u->h'.get? b=some u)(A:∀b,H b=some (.own a)->H' b=some (.own a))(B:∀b l,H b=some (.tup l)->H' b=some (.tup l)):dH P w H' h' a o:=by induction o with|lst l=>obtain⟨z,j,n,r,e⟩:=x;exact⟨z,j,n,r,k _ _ (.inl rfl) e⟩|tup l=>obtain⟨z,j,r,ob,e,c⟩:=x;exact⟨z,j,r,ob,k _ _ (.inl rfl) e,c⟩|dK kvs=>obtain⟨z,y,s,r,ob,i,g,e,c⟩:=x;exact⟨z,y,s,r,ob,i,g,k _ _ (.inl rfl) e,c⟩|dT kvs=>obtain⟨z,y,l,r,ob,i,g,e,c⟩:=x;exact⟨z,y,l,Paired.afT r λp q z=>⟨z.1,B _ _ z.2.1,z.2.2⟩,ob,i,g,k _ _ (.inl rfl) e,c⟩|set S n=>obtain⟨ob,i,g,t,e,c⟩:=x;exact⟨ob,i,g,t,k _ _ (.inl rfl) e,c⟩|ins C dx fs=>obtain⟨d,z,D,e,m,⟨od,i,g,E,c⟩,r⟩:=x;exact⟨A _ d,z,D,k _ _ (.inl rfl) e,m,⟨od,i,g,k _ _ (.inr d) E,c⟩,r⟩|own y=>obtain⟨ob,e⟩:=x;exact⟨ob,k _ _ (.inl rfl) e⟩|xd fs=>obtain⟨m,⟨od,i,g,e,c⟩,r⟩:=x;exact⟨m,⟨od,i,g,k _ _ (.inl rfl) e,c⟩,r⟩|rng lo hi=>obtain⟨t,u,v,e⟩:=x;exact⟨t,u,v,k _ _ (.inl rfl) e⟩|frz ob u ih=>obtain⟨e,q⟩:=x;exact⟨k _ _ (.inl rfl) e,ih q⟩|tbl ps=>have e:=x;exact k a _ (.inl rfl) e|met f y=>have e:=x;exact k a _ (.inl rfl) e|ext φ=>obtain⟨p,⟨o,e⟩,st⟩:=x;exact⟨st _ _ p λo q=>k _ _ (.inl rfl) q,⟨o,k _ _ (.inl rfl) e⟩,st⟩
theorem HOk.lt(x:HOk P w H h)(e:H a=some o):a<h.objs.size:=(x a o e).lt
def HOk.fresh(x:HOk P w H h)(e:h.objs.size<=a):H a=none:=by cases q:H a with|none=>rfl|some u=>exact absurd (apE (x.lt q) e) (aqP _)
def HOk.kept(x:HOk P w H h)(k:∀b u,h.get? b=some u->h'.get? b=some u):HOk P w H h':=λa o e=>(x a o e).wC (λb u _ q=>k b u q) (λ_ q=>q) λ_ _ q=>q
def HOk.laid(x:HOk P w H h)(k:∀b u,h.get? b=some u->h'.get? b=some u)(g:h.objs.size<=a)(new:dH P w (upd H a o) h' a o):HOk P w (upd H a o) h':=λb u e=>by
 have d:=x.fresh g;by_cases f:b=a;.subst f;rw[av]at e;cases e;exact new
 .rw[ak f]at e;exact(x b u e).wC (λc v _ q=>k c v q) (λc q=>by rw[ak (bo q d)];exact q) λc i q=>by rw[ak (bo q d)];exact q
end
def Rd(H:Hp)(a:Addr)(u:HO):Prop:=H a=some u\/∃o,H a=some (.frz o u)
def Rd.ok{P w H h a u}(r:Rd H a u)(x:HOk P w H h):dH P w H h a u:=by
 rcases r with r|⟨o,r⟩;.exact x a u r
 .obtain⟨_,q⟩:=x a _ r;exact q
def Mut:Option HO->Prop|some (.lst _)=>True|some (.dK _)=>True|some (.dT _)=>True|some (.set _ _)=>True|some (.ins _ _ _)=>True|some (.ext _)=>True|_=>False
section
variable{P:Program}{w:World}{H:Hp}{h h':Heap}{x e:Addr}{o':HO}
def HOk.write(ok:HOk P w H h)(f:Mut (H x))(n:e=x\/H e=some (.own x))(k:∀b u,b≠e->h.get? b=some u->h'.get? b=some u)(g:∃u,h'.get? e=some u)(new:dH P w (upd H x o') h' x o'):HOk P w (upd H x o') h':=λb u q=>by
 have a:∀c y,H c=some (.own y)->c≠x:=λc y r z=>by subst z;rw[r]at f;exact f
 by_cases j:b=x;.subst j;rw[av]at q;cases q;exact new
 .rw[ak j]at q;by_cases i:b=e
  .have l:H b=some (.own x):=by grind
   rw[q]at l;cases l;obtain⟨v,o⟩:=g;exact⟨v,by grind⟩
  .refine(ok b u q).wC (λc v d r=>k c v ?_ r) (λc r=>by rw[ak (a c b r)];exact r) λc m r=>by rw[ak ((λc m r z=>by subst z;rw[r]at f;exact f) c m r)];exact r
   rcases d with rfl|d;.exact i
   .rintro rfl;rcases n with z|z;.exact a c b d z
    .rw[d]at z;cases z;exact j rfl
end
structure Un(fs ex:List Addr)(H H':Hp)(h h':Heap):Prop where
 keep:∀b o,h.get? b=some o->H b=none->b∉fs->b∉ex->h'.get? b=some o
 slot:∀b o,h.get? b=some o->H b=none->b∈fs->b∉ex->∃sl,h'.get? b=some {o with slots:=sl}free:∀b o,h.get? b=some o->H b=none->b∉ex->H' b=none
 there:∀b o,h.get? b=some o->b∉ex->∃o',h'.get? b=some o'
 tups:∀b xs,H b=some (.tup xs)->H' b=some (.tup xs)frzs:∀b o u,H b=some (.frz o u)->H' b=some (.frz o u)tbls:∀b ps,H b=some (.tbl ps)->∃more,H' b=some (.tbl (ps++more))
section
variable{fs fs' ex ex':List Addr}{H H1 H2:Hp}{h h1 h2 h':Heap}{a x e:Addr}{o:HO}
def Un.any(u:Un fs ex H H1 h h1){b ob}(q:h.get? b=some ob)(n:H b=none)(c:b∉ex):∃f,h1.get? b=some {ob with slots:=f}:=by
 by_cases d:b∈fs;.exact u.slot b _ q n d c
 .exact⟨_,u.keep b _ q n d c⟩
def Un.trans(a:Un fs ex H H1 h h1)(b:Un fs ex H1 H2 h1 h2):Un fs ex H H2 h h2 where
 keep:=λc ob q n hc hx=>b.keep c ob (a.keep c ob q n hc hx) (a.free c ob q n hx) hc hx;slot:=λc ob q n hc hx=>by obtain⟨sl,e1⟩:=a.slot c ob q n hc hx;obtain⟨sl',e2⟩:=b.slot c _ e1 (a.free c ob q n hx) hc hx;exact⟨sl',e2⟩
 free:=λc ob q n hx=>by obtain⟨o',e1⟩:=a.there c ob q hx;exact b.free c o' e1 (a.free c ob q n hx) hx
 there:=λc ob q hx=>by obtain⟨o',e1⟩:=a.there c ob q hx;exact b.there c o' e1 hx
 tups:=λc xs q=>b.tups c xs (a.tups c xs q);frzs:=λc ob xs q=>b.frzs c ob xs (a.frzs c ob xs q);tbls:=λc ps q=>by obtain⟨m1,e1⟩:=a.tbls c ps q;obtain⟨m2,e2⟩:=b.tbls c _ e1;exact⟨m1++m2,by rw[e2,Array.append_assoc]⟩
def Un.kept(k:∀b u,h.get? b=some u->h'.get? b=some u):Un fs ex H H h h':=⟨λb ob q _ _ _=>k b ob q,λb ob q _ _ _=>⟨ob.slots,k b ob q⟩,λ_ _ _ n _=>n,λb ob q _=>⟨ob,k b ob q⟩,λ_ _ q=>q,λ_ _ _ q=>q,λ_ c q=>⟨#[],by rw[q];simp⟩⟩
def Un.refl:Un fs ex H H h h:=Un.kept λ_ _ q=>q
def Un.laid(k:∀b u,h.get? b=some u->h'.get? b=some u)(hp:h.objs.size<=a)(hn:H a=none):Un fs ex H (upd H a o) h h' where
 keep:=λb u q _ _ _=>k b u q;slot:=λb u q _ _ _=>⟨u.slots,k b u q⟩;free:=λb u q n _=>by rw[ak (apM (apE (apH q) hp))];exact n
 there:=λb u q _=>⟨u,k b u q⟩;tups:=λb xs q=>by rw[ak (bo q hn)];exact q
 frzs:=λb u xs q=>by rw[ak (bo q hn)];exact q
 tbls:=λb ps q=>⟨#[],by rw[ak (bo q hn),q];simp⟩
def Un.write(g:Mut (H x))(p:e=x\/H e=some (.own x))(k:∀b u,b≠e->h.get? b=some u->h'.get? b=some u)(d:∃u,h'.get? e=some u):Un fs ex H (upd H x o) h h':=by
 have l:∀b,H b=none->b≠x:=λb n z=>by subst z;rw[n]at g;exact g
 have i:∀b,H b=none->b≠e:=λb n z=>by grind
 have f:∀b u,H b=some u->¬Mut (some u)->b≠x:=λb u q r z=>by grind
 refine⟨λb u q n _ _=>k b u (i b n) q,λb u q n _ _=>⟨u.slots,k b u (i b n) q⟩,λb u q n _=>by rw[ak (l b n)];exact n,λb u q _=>?_,λb j q=>by rw[ak (f b _ q λz=>z)];exact q,λb u j q=>by rw[ak (f b _ q λz=>z)];exact q,λb m q=>⟨#[],by rw[ak (f b _ q λz=>z),q];simp⟩⟩;by_cases c:b=e;.subst c;exact d
 .exact⟨u,k b u c q⟩
def Un.mono(u:Un fs ex H H1 h h1)(hs:∀b∈fs,b∈fs')(d:∀b∈ex,b∈ex'):Un fs' ex' H H1 h h1:=⟨λb ob q n f c=>u.keep b ob q n (λz=>f (hs b z)) λz=>c (d b z),λ_ _ q n _ c=>u.any q n λz=>c (d _ z),λb ob q n c=>u.free b ob q n λz=>c (d b z),λb ob q c=>u.there b ob q λz=>c (d b z),u.tups,u.frzs,u.tbls⟩
end
noncomputable def trk(h:Heap)(H:Hp):List Addr:=(List.range h.objs.size).filter λa=>(H a).isSome
def aeA(h:Heap)(H:Hp):Heap:=W.hideAll h (trk h H)
def ab1(h)(H):(aeA h H).objs.size=h.objs.size:=W.hideAll_size _ _
def aez{h H b o}(e:h.get? b=some o)(n:H b=none):(aeA h H).get? b=some o:=W.hideAll_get _ e λa=>by have q:=(aqN.mp a).2;rw[n]at q;simp at q
def ahg{h H b o}(e:(aeA h H).get? b=some o):h.get? b=some o/\H b=none:=by have a:=W.of_hideAll _ e;refine⟨a,?_⟩;cases q:H b with|none=>rfl|some x=>have z:(aeA h H).get? b=none:=W.hideAll_none _ (aqN.mpr ⟨apP.mpr (apH a),by grind⟩);rw[z]at e;cases e
noncomputable def lC(g h:Heap)(L:Addr):List (Addr×Obj):=(List.range h.objs.size).filterMap λa=>if a=L\/(g.get? a).isSome=true then none else(h.get? a).map λo=>(a,o)
def jx{g h:Heap}{L a:Addr}{o:Obj}(c:a≠L)(d:g.get? a=none)(b:h.get? a=some o):(a,o)∈lC g h L:=arz.mpr ⟨a,apP.mpr (apH b),by simp[c,d,b]⟩
def n9{g h:Heap}{L:Addr}{p:Addr×Obj}(c:p∈lC g h L):p.1≠L/\g.get? p.1=none/\h.get? p.1=some p.2:=by
 obtain⟨b,_,e⟩:=arz.mp c;split at e;.cases e
 .rename_i a;cases q:h.get? b with|none=>rw[q]at e;simp at e|some u=>rw[q]at e;simp only[asL,asn]at e;subst e;refine⟨λz=>a (.inl z),?_,q⟩;show g.get? b=none;cases r:g.get? b with|none=>rfl|some v=>exact(a (.inr (by simp[r]))).elim
def rest(g h:Heap)(L d:Addr):List (Addr×Obj):=(lC g h L).filter λp=>decide (p.1≠d)
def ad8{g h:Heap}{L:Addr}:News g L h (lC g h L):=λp d=>let⟨a,b,c⟩:=n9 d;⟨c,a,b⟩
structure Mod(K:W.Frag)(mg:Str->Option Value)(base:Heap):Prop where
 kin:K.In base
 glob:base.Ns mainGlobals mg
 blt:∃mb,base.Ns builtinsNs mb/\∀x:Str,x≠"__name__"->mb x=bootBuiltins x
 nolimit:base.NoLimit
structure Cx where
 prog:Program
 w:World
 K:W.Frag
 mg:Str->Option Value
 base:Heap
 A:Around
 N:List Str
 s₀:Shared
 H₀:Hp
 env:Env
 outer:List Env
 stack:List Env
 ex:List Addr
 fn:Str->Bool
 calm:Bool
 pn:List (Addr×Obj)xe:Value->Shared->Prop
noncomputable def frs(l:List Env):List Addr:=l.filterMap (·.frame)
abbrev Cx.fs(X:Cx):List Addr:=frs X.outer
def Vis(a:Scope)(x:Str):Prop:=a.names.lookup x=some .local\/a.names.lookup x=some .cell\/a.names.lookup x=some .free
def Loc(a:Scope)(x:Str):Prop:=a.names.lookup x=some .local\/a.names.lookup x=some .cell
def Look(a:Env)(h:Heap)(m:Str->Option Value)(x:Str)(u:Value):Prop:=a.kindOf x=some .local/\m x=some u\/(a.kindOf x=some .cell\/a.kindOf x=some .free)/\∃c,a.cells.lookup x=some c/\h.IsCell c (some u)
abbrev Dbg(x:Str):Prop:=(x==("__debug__":Str))=false
abbrev SE(X:Cx)(e:Expr)(es:List Expr):Prop:=starEach (e::es) X.env=(false,eval e X.env)::starEach es X.env
abbrev BT(X:Cx)(p:Pos)(es:List Expr):Prop:=(backTo p (starEach es X.env)).any (·.1)=false
abbrev FL(X:Cx)(x:Str):Prop:=X.fn x=true\/X.env.scope.names.lookup x=some .local
structure Cx.Ok(X:Cx):Prop where
 mod:Mod X.K X.mg X.base
 kind:X.env.scope.kind=.function
 glob:X.env.globals=mainGlobals
 blt:X.env.builtins=builtinsNs
 above:X.s₀.heap.objs.size<=X.env.locals
 inj:∀x y c,X.env.cells.lookup x=some c->X.env.cells.lookup y=some c->x=y
 has:∀x,X.env.kindOf x=some .cell\/X.env.kindOf x=some .free->∃c,X.env.cells.lookup x=some c
 cab:∀x c,X.fn x=true->X.env.cells.lookup x=some c->X.s₀.heap.objs.size<=c
 hd:X.calm=true->X.A.handled=none
 frames:X.A.frames=some X.stack
 stk:X.stack=X.outer\/X.stack=X.env::X.outer/\X.env.frame=some X.env.locals
 exf:∀b∈X.ex,b≠X.env.locals/\∀x c,X.env.cells.lookup x=some c->c≠b
 bs:∀b o,X.base.get? b=some o->X.s₀.heap.get? b=some o/\X.H₀ b=none
 bsz:X.base.objs.size<=X.s₀.heap.objs.size
 noex:∀b o,X.base.get? b=some o->b∉X.ex
 exfs:∀b∈X.ex,b∉X.fs
 rC:X.s₀.heap.FunFrames X.base X.outer
 frf:∀b∈X.fs,X.H₀ b=none
structure Inv(X:Cx)(pins:List (Addr×Obj))(σ:List (Option V))(H:Hp)(s:Shared):Prop where
 ok:X.Ok
 os:s.os=X.s₀.os
 bare:AllBare s.gens
 base:Un X.fs X.ex X.H₀ H X.s₀.heap s.heap
 loc:∃m,s.heap.Ns X.env.locals m/\∀(i:Nat)(x:Str)(v:V),X.N[i]?=some x->σ[i]?=some (some v)->Vis X.env.scope x->∃u,RelV v u/\Look X.env s.heap m x u
 cell:∀x c,X.env.cells.lookup x=some c->∃v,s.heap.IsCell c v
 free:H X.env.locals=none
 freeC:∀x c,X.env.cells.lookup x=some c->H c=none
 pin:∀p∈X.pn++pins,s.heap.get? p.1=some p.2/\H p.1=none/\p.1≠X.env.locals/\p.1∉X.fs/\∀v,p.2.data≠.cell v
 hok:HOk X.prog X.w H s.heap
 len:σ.length=X.N.length
section
variable{X:Cx}{pins:List (Addr×Obj)}{σ:List (Option V)}{H H':Hp}{s:Shared}{h':Heap}
def Cx.Ok.apg(ok:X.Ok){b o}(e:X.base.get? b=some o):b∉X.fs:=λa=>by have:=(ok.rC.mem a).1;rw[e]at this;cases this
theorem Inv.bs(I:Inv X pins σ H s):∀b o,X.base.get? b=some o->s.heap.get? b=some o/\H b=none:=λb o e=>⟨I.base.keep b o (I.ok.bs b o e).1 (I.ok.bs b o e).2 (I.ok.apg e) (I.ok.noex b o e),I.base.free b o (I.ok.bs b o e).1 (I.ok.bs b o e).2 (I.ok.noex b o e)⟩
def Inv.bk(I:Inv X pins σ H s):∀b o,X.base.get? b=some o->s.heap.get? b=some o:=λb o e=>(I.bs b o e).1
theorem Inv.mod(I:Inv X pins σ H s):Mod X.K X.mg X.base:=I.ok.mod
def Inv.kIn(I:Inv X pins σ H s):X.K.In s.heap:=I.ok.mod.kin.keeps I.bk
theorem Inv.lt(I:Inv X pins σ H s):X.env.locals<s.heap.objs.size:=let⟨_,a,_⟩:=I.loc;a.lt
def Inv.sz(I:Inv X pins σ H s):X.s₀.heap.objs.size<=s.heap.objs.size:=apD I.ok.above (arX I.lt)
def Inv.apf(I:Inv X pins σ H s){a:Addr}(h:s.heap.objs.size<=a):a∉X.fs:=λc=>by obtain⟨_,o,b,_⟩:=I.ok.rC.mem c;exact absurd (apE (apH b) (apD I.sz h)) (aqP _)
def Inv.cne(I:Inv X pins σ H s):∀x c,X.env.cells.lookup x=some c->c≠X.env.locals:=λx c e z=>by obtain⟨v,o,f,d⟩:=I.cell x c e;obtain⟨m,⟨g,i,h,b,a,_⟩,_⟩:=I.loc;rw[z,b]at f;cases f;rw[a]at d;cases d
theorem Inv.rC(I:Inv X pins σ H s):s.heap.FunFrames X.base X.outer:=by
 have all:∀(l),(∀b∈frs l,b∈X.fs)->X.s₀.heap.FunFrames X.base l->s.heap.FunFrames X.base l:=by intro l;induction l with|nil=>intro _ _;trivial|cons env r ih=>intro f h;obtain⟨k,⟨L,o,c,g,m,j⟩,i⟩:=h;have a:=f L (by unfold frs;rw[ar8,c];exact apN);obtain⟨n,e⟩:=I.base.slot L o m (I.ok.frf L a) a λz=>I.ok.exfs L z a;exact⟨k,zN L _ c g e j,ih (λb d=>f b (by unfold frs;rw[ar8,c];exact apI _ d)) i⟩
 exact all _ (λ_ d=>d) I.ok.rC
theorem Inv.stack(I:Inv X pins σ H s):s.heap.FunFrames X.base X.stack:=by
 rcases I.ok.stk with e|⟨e,b⟩;.rw[e];exact I.rC
 .rw[e];obtain⟨m,a,_⟩:=I.loc;exact .cons (by rw[I.ok.kind];decide) b a (aqb (apD I.ok.bsz I.ok.above)) I.rC
def Inv.wA(I:Inv X pins σ H s):∀b∈frs X.stack,b∈X.env.locals::X.fs:=λb a=>by
 rcases I.ok.stk with e|⟨e,c⟩;.rw[e]at a;exact apI _ a
 .rw[e]at a;unfold frs at a;rw[ar8,c]at a;exact a
def Inv.uz(I:Inv X pins σ H s):∀b∈frs X.stack,H b=none:=λb a=>by
 rcases apJ.mp (I.wA b a)with e|a;.rw[e];exact I.free
 .obtain⟨_,o,c,_⟩:=I.ok.rC.mem a;exact I.base.free b o c (I.ok.frf b a) λz=>I.ok.exfs b z a
def Inv.aaH{g' t' d'}{ch:List Addr}(I:Inv X pins σ H s)(f:∀b∈ch,(b∈X.ex\/X.s₀.heap.get? b=none)/\b≠X.env.locals/\(∀x c,X.env.cells.lookup x=some c->c≠b)/\∀p∈X.pn++pins,p.1≠b)(keep:∀b o,b≠X.env.locals->b∉X.fs->b∉ch->s.heap.get? b=some o->H b=none->h'.get? b=some o)(w:∀b o,b≠X.env.locals->b∈X.fs->b∉ch->s.heap.get? b=some o->H b=none->∃P,h'.get? b=some {o with slots:=P})(free:∀b o,b∉ch->s.heap.get? b=some o->H b=none->H' b=none)(there:∀b o,b∉ch->s.heap.get? b=some o->∃E,h'.get? b=some E)(J:∀b y,H b=some (.tup y)->H' b=some (.tup y))(C:∀b o u,H b=some (.frz o u)->H' b=some (.frz o u))(M:∀b N,H b=some (.tbl N)->∃D,H' b=some (.tbl (N++D)))(ns:∀m,s.heap.Ns X.env.locals m->h'.Ns X.env.locals m)(Q:HOk X.prog X.w H' h')(hg:AllBare g'):Inv X pins σ H' {s with heap:=h',gens:=g',drawn:=d',toks:=t'}:=by
 have G:∀b o,X.s₀.heap.get? b=some o->b≠X.env.locals:=λb o e=>apM (apE (apH e) I.ok.above);have j:∀b o,X.s₀.heap.get? b=some o->b∉X.ex->b∉ch:=λb o e a A=>by
  rcases(f b A).1 with z|z;.exact a z
  .rw[z]at e;cases e
 have g:∀x c,X.env.cells.lookup x=some c->∀v,s.heap.IsCell c v->h'.IsCell c v:=λx c e v⟨o,B,O⟩=>by
  have h:c∉ch:=λz=>(f c z).2.2.1 x c e rfl;by_cases U:c∈X.fs;.obtain⟨P,q⟩:=w c o (I.cne x c e) U h B (I.freeC x c e);exact⟨_,q,O⟩
  .exact⟨o,keep c o (I.cne x c e) U h B (I.freeC x c e),O⟩
 refine⟨I.ok,I.os,hg,⟨λb o e n A a=>?_,λb o e n A a=>?_,λb o e n a=>?_,λb o e a=>?_,λb y e=>J b y (I.base.tups b y e),λb o y e=>C b o y (I.base.frzs b o y e),λb N e=>?_⟩,?_,λx c e=>?_,?_,λx c e=>?_,λp T=>?_,Q,I.len⟩;.exact keep b o (G b o e) A (j b o e a) (I.base.keep b o e n A a) (I.base.free b o e n a)
 .obtain⟨P,t⟩:=I.base.slot b o e n A a;obtain⟨R,K⟩:=w b _ (G b o e) A (j b o e a) t (I.base.free b o e n a);exact⟨R,K⟩
 .obtain⟨E,t⟩:=I.base.there b o e a;exact free b E (j b o e a) t (I.base.free b o e n a)
 .obtain⟨E,t⟩:=I.base.there b o e a;exact there b E (j b o e a) t
 .obtain⟨m1,t⟩:=I.base.tbls b N e;obtain⟨m2,K⟩:=M b _ t;exact⟨m1++m2,by rw[K,Array.append_assoc]⟩
 .refine fO I.loc λm hn hl=>?_;refine⟨m,ns m hn,λi x v t K Z=>?_⟩;obtain⟨u,r,l⟩:=hl i x v t K Z;refine⟨u,r,?_⟩;rcases l with l|⟨k,c,e,z⟩;.exact .inl l
  .exact .inr ⟨k,c,e,g x c e _ z⟩
 .obtain⟨v,z⟩:=I.cell x c e;exact⟨v,g x c e v z⟩
 .obtain⟨m,⟨o,_,_,B,_⟩,_⟩:=I.loc;exact free _ o (λz=>(f _ z).2.1 rfl) B I.free
 .obtain⟨v,o,B,O⟩:=I.cell x c e;exact free c o (λz=>(f c z).2.2.1 x c e rfl) B (I.freeC x c e)
 .refine akY (I.pin p T) λe n Y S d=>?_;have h:p.1∉ch:=λz=>(f p.1 z).2.2.2 p T rfl;exact⟨keep p.1 p.2 Y S h e n,free p.1 p.2 h e n,Y,S,d⟩
def Inv.step{g' t' d' h' H'}{ch:List Addr}(I:Inv X pins σ H s)(a:∀b∈ch,(b∈X.ex\/X.s₀.heap.objs.size<=b)/\b≠X.env.locals/\(∀x c,X.env.cells.lookup x=some c->c≠b)/\∀p∈X.pn++pins,p.1≠b):=I.aaH (g':=g') (t':=t') (d':=d') (h':=h') (H':=H') λb d=>⟨(a b d).1.imp_right aqb,(a b d).2⟩
def Inv.un{t'}(I:Inv X pins σ H s)(u:Un X.fs [] H H' s.heap h')(c:HOk X.prog X.w H' h'):Inv X pins σ H' {s with heap:=h',toks:=t'}:=by obtain⟨m,⟨o,t,q,f,r⟩,_⟩:=id I.loc;obtain⟨v,g⟩:=u.any f I.free (by simp);exact I.step (ch:=[]) (λ_ z=>nomatch z) (λb o _ d _ e n=>u.keep b o e n d (by simp)) (λb o _ d _ e n=>u.slot b o e n d (by simp)) (λb o _ e n=>u.free b o e n (by simp)) (λb o _ e=>u.there b o e (by simp)) u.tups u.frzs u.tbls (λl k=>by refine x9 k λp i h a j=>?_;rw[f]at a;cases a;exact acZ _ _ _ g j) c I.bare
def Inv.call{g' t' d' ch}(I:Inv X pins σ H s)(u:Un (frs X.stack) ch H H' s.heap h')(h:HOk X.prog X.w H' h')(v:AllBare g')(f:∀b∈ch,(b∈X.ex\/X.s₀.heap.objs.size<=b)/\b≠X.env.locals/\(∀x c,X.env.cells.lookup x=some c->c≠b)/\∀p∈X.pn++pins,p.1≠b):Inv X pins σ H' {s with heap:=h',gens:=g',drawn:=d',toks:=t'}:=by obtain⟨m,⟨o,B,A,i,r⟩,_⟩:=id I.loc;obtain⟨C,g⟩:=u.any i I.free λz=>(f _ z).2.1 rfl;exact I.step f (λb o g q a e n=>u.keep b o e n (λz=>(apJ.mp (I.wA b z)).elim g q) a) (λb o _ _ a e n=>u.any e n a) (λb o a e n=>u.free b o e n a) (λb o a e=>u.there b o e a) u.tups u.frzs u.tbls (λw t=>by refine x9 t λy k j d l=>?_;rw[i]at d;cases d;exact acZ _ _ _ g l) h v
def Inv.turned{t' it}(I:Inv X pins σ H s)(k:∀b o,b≠it->s.heap.get? b=some o->h'.get? b=some o)(B:H it=none)(f:it≠X.env.locals)(g:it∈X.ex\/X.s₀.heap.objs.size<=it)(t:∀x c,X.env.cells.lookup x=some c->c≠it)(j:∀p∈X.pn++pins,p.1≠it):Inv X pins σ H {s with heap:=h',toks:=t'}:=by
 have d:∀b u,H b=some u->b≠it:=λb u e z=>by grind
 refine I.step (g':=s.gens) (ch:=[it]) (λb y=>?_) (λb o _ _ a e _=>k b o (λz=>a (by simp[z])) e) (λb o _ _ a e _=>⟨o.slots,k b o (λz=>a (by simp[z])) e⟩) (λ_ _ _ _ n=>n) (λb o a e=>⟨o,k b o (λz=>a (by simp[z])) e⟩) (λ_ _ e=>e) (λ_ _ _ e=>e) (λb A e=>⟨#[],by rw[e];simp⟩) (λm l=>?_) (λb u e=>?_) I.bare
 .have e:b=it:=by simpa using y
  subst e;exact⟨g,f,t,j⟩
 .refine x9 l λo i h w r=>?_;exact acZ o i h (k _ o (apO f) w) r
 .refine(I.hok b u e).wC (λc v a q=>k c v ?_ q) (λ_ q=>q) λ_ _ q=>q;rcases a with z|z;.rw[z];exact d b u e
  .exact d c _ z
def Inv.tok(I:Inv X pins σ H s)(t):Inv X pins σ H {s with toks:=t}:=I.un  Un.refl I.hok
theorem Inv.kept{t'}(I:Inv X pins σ H s)(k:∀b u,s.heap.get? b=some u->h'.get? b=some u):Inv X pins σ H {s with heap:=h',toks:=t'}:=I.un (Un.kept k) (I.hok.kept k)
theorem Inv.laid{a:Addr}{o t'}(I:Inv X pins σ H s)(k:∀b u,s.heap.get? b=some u->h'.get? b=some u)(c:s.heap.objs.size<=a)(new:dH X.prog X.w (upd H a o) h' a o):Inv X pins σ (upd H a o) {s with heap:=h',toks:=t'}:=I.un (Un.laid k c (I.hok.fresh c)) (I.hok.laid k c new)
theorem Inv.write{x e o t'}(I:Inv X pins σ H s)(d:Mut (H x))(c:e=x\/H e=some (.own x))(k:∀b u,b≠e->s.heap.get? b=some u->h'.get? b=some u)(a:∃u,h'.get? e=some u)(new:dH X.prog X.w (upd H x o) h' x o):Inv X pins σ (upd H x o) {s with heap:=h',toks:=t'}:=I.un (Un.write d c k a) (I.hok.write d c k a new)
def Inv.fE{a}(I:Inv X pins σ H s)(h:∀p∈a,s.heap.get? p.1=some p.2/\H p.1=none/\p.1≠X.env.locals/\p.1∉X.fs/\∀v,p.2.data≠.cell v):Inv X a σ H s:=⟨I.ok,I.os,I.bare,I.base,I.loc,I.cell,I.free,I.freeC,λp b=>(ap8.mp b).elim (λz=>I.pin p (ap0 _ z)) (h p),I.hok,I.len⟩
def qD{N:List Str}(d:N.Nodup){i j:Nat}{x}(a:N[i]?=some x)(b:N[j]?=some x):i=j:=by obtain⟨f,c⟩:=apC.mp a;obtain⟨g,e⟩:=apC.mp b;exact(List.getElem_inj d).mp (c.trans e.symm)
def jO{M A E i x v u Q}(I:Inv X pins σ H s)(hN:X.N.Nodup)(U:X.N[i]?=some x)(w:Loc X.env.scope x)(r:RelV v u)(h:∀s',Inv X pins (σ.set i (some v)) H s'->(∃a,Heap.SameBut a s.heap s'.heap/\(a=X.env.locals\/X.env.cells.lookup x=some a))->Q () s')(hf:FL X x:=by first|exact .inl rfl|exact .inr rfl|assumption):wpAny M A (storeName X.env x u) Q E s:=by
 refine fO (id I.loc) λm hn hl=>?_;have P:(X.env.scope.kind==.class||X.env.scope.kind==.module&&X.env.locals !=X.env.globals)=false:=by rw[I.ok.kind];rfl
 have D:i<σ.length:=by rw[I.len];exact(apC.mp U).1
 have cne:=I.cne;have g:∀{a:Addr}{h':Heap},(∃o,s.heap.get? a=some o/\H a=none)->Heap.SameBut a s.heap h'->HOk X.prog X.w H h':=λ{a h'}ha f b ob e=>by
  obtain⟨_,_,B⟩:=ha;refine(I.hok b ob e).wC (λc Z t q=>(f.2 c ?_).trans q) (λ_ q=>q) λ_ _ q=>q;rintro rfl;rcases t with rfl|t;.rw[B]at e;cases e
  .rw[B]at t;cases t
 rcases w with N|N
 .refine wpAny_storeName_local N hn (λh' a1 f=>?_) P;obtain⟨oL,_,_,a0,_⟩:=id hn;refine h _ ⟨I.ok,I.os,I.bare,⟨λb o e n G w=>?_,λb o e n G w=>?_,I.base.free,λb o e w=>?_,I.base.tups,I.base.frzs,I.base.tbls⟩,⟨_,a1,λj y v' l C e3=>?_⟩,λy c e=>?_,I.free,I.freeC,λp hp=>?_,g ⟨oL,a0,I.free⟩ f,by simpa using I.len⟩ ⟨_,f,.inl rfl⟩;.exact(f.2 b (apM (apE (apH e) I.ok.above))).trans (I.base.keep b o e n G w)
  .obtain⟨sl,l⟩:=I.base.slot b o e n G w;exact⟨sl,(f.2 b (apM (apE (apH e) I.ok.above))).trans l⟩
  .obtain⟨o',l⟩:=I.base.there b o e w;exact⟨o',(f.2 b (apM (apE (apH e) I.ok.above))).trans l⟩
  .by_cases J:j=i;.subst J;rw[U]at l;cases l;rw[apz D]at C;cases C;exact⟨u,r,.inl ⟨N,by simp⟩⟩
   .rw[apv (apO J)]at C;obtain⟨u',r',q⟩:=hl j y v' l C e3;refine⟨u',r',?_⟩;rcases q with⟨k,e⟩|⟨k,c,e,z⟩;.refine .inl ⟨k,?_⟩;have:y≠x:=λe=>J (qD hN l (e▸U));simp[this,e]
    .exact .inr ⟨k,c,e,z.sameBut f (cne y c e)⟩
  .obtain⟨Z,z⟩:=I.cell y c e;exact⟨Z,z.sameBut f (cne y c e)⟩
  .refine akY (I.pin p hp) λe n ne nf d=>?_;exact⟨(f.2 p.1 ne).trans e,n,ne,nf,d⟩
 .have K:X.fn x=true:=by grind
  obtain⟨c,t⟩:=I.ok.has x (.inl N);obtain⟨Z,z⟩:=I.cell x c t;refine wpAny_storeName_cell I.ok.kind N t z λh' O f=>?_;refine fO (id z) λoc S T=>?_;refine h {s with heap:=h'} ⟨I.ok,I.os,I.bare,⟨λb o e n G w=>?_,λb o e n G w=>?_,I.base.free,λb o e w=>?_,I.base.tups,I.base.frzs,I.base.tbls⟩,⟨m,hn.sameBut f (apO (cne x c t)),λj y v' l C e3=>?_⟩,λy Y e=>?_,I.free,I.freeC,λp hp=>?_,g ⟨oc,S,I.freeC x c t⟩ f,by simpa using I.len⟩ ⟨c,f,.inr t⟩;.exact(f.2 b (apM (apE (apH e) (I.ok.cab x c K t)))).trans (I.base.keep b o e n G w)
  .obtain⟨sl,l⟩:=I.base.slot b o e n G w;exact⟨sl,(f.2 b (apM (apE (apH e) (I.ok.cab x c K t)))).trans l⟩
  .obtain⟨o',l⟩:=I.base.there b o e w;exact⟨o',(f.2 b (apM (apE (apH e) (I.ok.cab x c K t)))).trans l⟩
  .by_cases J:j=i;.subst J;rw[U]at l;cases l;rw[apz D]at C;cases C;exact⟨u,r,.inr ⟨.inl N,c,t,O⟩⟩
   .rw[apv (apO J)]at C;obtain⟨u',r',q⟩:=hl j y v' l C e3;refine⟨u',r',?_⟩;rcases q with q|⟨k,Y,e,z'⟩;.exact .inl q
    .refine .inr ⟨k,Y,e,z'.sameBut f ?_⟩;rintro rfl;exact J (qD hN l (I.ok.inj _ _ _ e t▸U))
  .by_cases R:Y=c;.subst R;exact⟨_,O⟩
   .obtain⟨w2,z2⟩:=I.cell y Y e;exact⟨w2,z2.sameBut f R⟩
  .refine akY (I.pin p hp) λe n ne nf d=>?_;refine⟨(f.2 p.1 ?_).trans e,n,ne,nf,d⟩;intro q;rw[q,S]at e;have q':oc=p.2:=apV e;exact d Z (by rw[<-q'];exact T)
def wz{M A E i x v u Q}(I:Inv X pins σ H s)(b:X.N.Nodup)(c:X.N[i]?=some x)(f:Loc X.env.scope x)(r:RelV v u)(h:∀a,Inv X pins (σ.set i (some v)) H a->Q () a)(d:FL X x:=by first|exact .inl rfl|exact .inr rfl|assumption):wpAny M A (storeName X.env x u) Q E s:=jO I b c f r (λa e _=>h _ e) d
def Inv.aeZ{s' ch}(I:Inv X pins σ H s)(g:s'.os=s.os)(u:Un (frs X.stack) ch H H' s.heap s'.heap)(a:HOk X.prog X.w H' s'.heap)(f:AllBare s'.gens)(d:∀b∈ch,(b∈X.ex\/X.s₀.heap.objs.size<=b)/\b≠X.env.locals/\(∀x c,X.env.cells.lookup x=some c->c≠b)/\∀p∈X.pn++pins,p.1≠b):Inv X pins σ H' s':=by obtain⟨h',h,k,i,j⟩:=s';have e:=g;subst e;exact I.call  u a f d
end
abbrev XK:=Value->Option Addr->Hp->Prop
abbrev St:=List (Option V)
abbrev VK:=V->Hp->Prop
abbrev TE:=St->Hp->VK->Prop
abbrev TT:=St->Hp->(Bool->Hp->Prop)->Prop
abbrev TA:=St->Hp->(List V->Hp->Prop)->Prop
structure Ends where
 nx:St->Hp->Prop
 rt:VK
 bk:St->Hp->Prop:=λ_ _=>False
 ct:St->Hp->Prop:=λ_ _=>False
abbrev TS:=Ends->St->Hp->Prop
def EP(X:Cx)(pins:List (Addr×Obj))(σ:St)(Q:VK)(u:Value)(s':Shared):Prop:=∃v a,Inv X pins σ a s'/\RelV v u/\Q v a
def TP(X:Cx)(pins:List (Addr×Obj))(σ:St)(Q:Bool->Hp->Prop)(b:Bool)(s':Shared):Prop:=∃a,Inv X pins σ a s'/\Q b a
def AP(X:Cx)(pins:List (Addr×Obj))(σ:St)(Q:List V->Hp->Prop)(us:List Value)(s':Shared):Prop:=∃a b,Inv X pins σ b s'/\Vals a us/\Q a b
def SP(X:Cx)(pins:List (Addr×Obj))(D:Ends)(f:Flow)(s':Shared):Prop:=match f with|.next=>∃a b,Inv X pins a b s'/\D.nx a b|.brk=>∃a b,Inv X pins a b s'/\D.bk a b|.cont=>∃a b,Inv X pins a b s'/\D.ct a b|.ret u=>∃v a b,Inv X pins a b s'/\RelV v u/\D.rt v b
def PE(X:Cx)(e:Expr)(t:TE):Prop:=∀(a:List (Addr×Obj))(s:Shared)(σ:St)(H:Hp)(Q:VK),Inv X a σ H s->t σ H Q->wpAny (model X.prog X.w) X.A (eval e X.env) (EP X a σ Q) X.xe s
def PT(X:Cx)(e:Expr)(t:TT):Prop:=∀(a:List (Addr×Obj))(s:Shared)(σ:St)(H:Hp)(Q:Bool->Hp->Prop),Inv X a σ H s->t σ H Q->wpAny (model X.prog X.w) X.A (isTrue e X.env (eval e X.env)) (TP X a σ Q) X.xe s
def PW(X:Cx)(e:Expr)(t:TT):Prop:=∀(b:Sem Value)(a:List (Addr×Obj))(s:Shared)(σ:St)(H:Hp)(Q:Bool->Hp->Prop),Inv X a σ H s->t σ H Q->wpAny (model X.prog X.w) X.A (isTrue e X.env b) (TP X a σ Q) X.xe s
def PW.pt{X e t}(h:PW X e t):PT X e t:=h _
def PA(X:Cx)(es:List Expr)(t:TA):Prop:=∀(b:Pos)(a:List (Addr×Obj))(s:Shared)(σ:St)(H:Hp)(Q:List V->Hp->Prop),Inv X a σ H s->t σ H Q->wpAny (model X.prog X.w) X.A (spliced (backTo b (starEach es X.env))) (AP X a σ Q) X.xe s
def PS(X:Cx)(st:Stmt)(t:TS):Prop:=∀(a:List (Addr×Obj))(s:Shared)(σ:St)(H:Hp)(D:Ends),Inv X a σ H s->t D σ H->wpAny (model X.prog X.w) X.A (exec st X.env) (SP X a D) X.xe s
def PSs(X:Cx)(st:List Stmt)(t:TS):Prop:=∀(a:List (Addr×Obj))(s:Shared)(σ:St)(H:Hp)(D:Ends),Inv X a σ H s->t D σ H->wpAny (model X.prog X.w) X.A (execs st X.env) (SP X a D) X.xe s
def thn{c t}{Q b:c->Shared->Prop}{M A E s}(h:wpAny M A t Q E s)(d:∀a s,Q a s->b a s):wpAny M A t b E s:=apZ h d λ_ _ x=>x
section
variable{X:Cx}
def kx(i:Nat):TE:=λσ H Q=>∃v,σ[i]?=some (some v)/\Q v H
def tC(v:V):TE:=λ_ H Q=>Q v H
def ajr{i x pos}(k:X.N[i]?=some x)(p:Vis X.env.scope x)(f:Dbg x:=by decide)(d:(x=="__classdict__")=false:=by decide):PE X (.Name x pos) (kx i):=by
 intro j s σ H Q I h;refine fO h λv e h=>?_;refine fO I.loc λm n o=>?_;obtain⟨u,r,l⟩:=o i x v k e p;have fin:EP X _ σ Q u s:=⟨v,H,I,r,h⟩;rcases l with⟨b,q⟩|⟨b,c,g,a⟩;.exact wpAny_Name (wpAny_loadName_local I.ok.kind b n q fin) f
 .rcases b with b|b;.exact wpAny_Name (wpAny_loadName_cell I.ok.kind b g a fin) f
  .exact wpAny_Name (wpAny_loadName_free I.ok.kind b g a fin d) f
def afH{i j pos}:PE X (.Constant (.int i) j pos) (tC (.int i)):=λ_ _ _ H _ I h=>wpAny_Constant_int ⟨.int i,H,I.tok _,⟨_,rfl⟩,h⟩
def amL{b j pos}:PE X (.Constant (.bool b) j pos) (tC (.bl b)):=λ_ _ _ H _ I h=>Constant_bool ⟨.bl b,H,I,rfl,h⟩
def ajw{j pos}:PE X (.Constant .none j pos) (tC .non):=λ_ _ _ H _ I h=>Constant_none ⟨.non,H,I,rfl,h⟩
def jY{x j pos}:PE X (.Constant (.str x) j pos) (tC (.str x)):=λ_ _ _ H _ I h=>Calls.Constant_str ⟨.str x,H,I.tok _,⟨_,rfl⟩,h⟩
def Gl(X:Cx)(x:Str):Prop:=X.env.kindOf x=some .globalImplicit
def gF{E pins s}{σ:St}{H x u pos Q}(I:Inv X pins σ H s)(b:Gl X x)(a:X.mg x=some u)(h:Q u s)(c:Dbg x:=by decide):wpAny (model X.prog X.w) X.A (eval (.Name x pos) X.env) Q E s:=asi I.ok.kind b (Calls.loadGlobal_global (by rw[I.ok.glob];exact I.mod.glob.keeps I.bk) a h) c
def j9{E pins s}{σ:St}{H x u pos Q}(I:Inv X pins σ H s)(f:Gl X x)(e:X.mg x=none)(d:bootBuiltins x=some u)(h:Q u s)(b:x≠"__name__":=by decide)(c:Dbg x:=by decide):wpAny (model X.prog X.w) X.A (eval (.Name x pos) X.env) Q E s:=by obtain⟨i,a,g⟩:=I.mod.blt;exact asi I.ok.kind f (Calls.loadGlobal_builtin (by rw[I.ok.glob];exact I.mod.glob.keeps I.bk) e (by rw[I.ok.blt];exact a.keeps I.bk) ((g x b).trans d) h) c
def uS{x v u pos}(b:Gl X x)(a:X.mg x=some u)(r:RelV v u)(c:Dbg x:=by decide):PE X (.Name x pos) (tC v):=λ_ _ _ H _ I h=>gF I b a ⟨v,H,I,r,h⟩ c
def ahb{x v u pos}(c:Gl X x)(b:X.mg x=none)(a:bootBuiltins x=some u)(r:RelV v u)(d:x≠"__name__":=by decide)(e:Dbg x:=by decide):PE X (.Name x pos) (tC v):=λ_ _ _ H _ I h=>j9 I c b a ⟨v,H,I,r,h⟩ d e
variable{a b:Expr}{ta tb:TE}{pos:Pos}
def PC(X:Cx)(op:CmpOp)(a b:Expr)(t:TE):Prop:=∀(c:List (Addr×Obj))(s:Shared)(σ:St)(H:Hp)(Q:VK),Inv X c σ H s->t σ H Q->wpAny (model X.prog X.w) X.A (eval a X.env) (λv d=>wpAny (model X.prog X.w) X.A (eval b X.env) (λu e=>wpAny (model X.prog X.w) X.A (compareOp op v u) (EP X c σ Q) X.xe e) X.xe d) X.xe s
def ad7(b:Expr){op:CmpOp}(h:op≠.In)(c:op≠.NotIn):behindInMarks op b=false:=by
 have e:(op==CmpOp.In)=false:=by cases op<;>first|rfl|exact absurd rfl h
 have d:(op==CmpOp.NotIn)=false:=by cases op<;>first|rfl|exact absurd rfl c
 cases b<;>first|rfl|(show(_&&(_||_)&&_)=false;simp[e,d])
def tB(t:TE):TT:=λσ H Q=>t σ H λx d=>∃c,x=.bl c/\Q c d
def ajh{e t}(h:PE X e t)(l:∀c,isTrue e X.env c=(do let v <-c;standAt e.pos;holding [v] (truthy v)):=by intro _;rfl):PT X e (tB t):=by intro f s σ H Q I hw;refine isTrue_plain (thn (h _ s σ H _ I hw) λv m⟨x,g,j,k,i⟩=>?_) (l _);obtain⟨d,rfl,q⟩:=i;cases k;exact aq1 ⟨g,j,q⟩
variable{tA tB':TT}{rest:List Expr}
def yv(t u:TT):TT:=λσ H Q=>t σ H λc d=>if c=true then u σ d Q else Q false d
def tOr(t u:TT):TT:=λσ H Q=>t σ H λc d=>if c=true then Q true d else u σ d Q
def zQ(t:TT):TT:=λσ H Q=>t σ H λc d=>Q (!c) d
def aa4(f:PT X a tA):PW X (.BoolOp .And [a] pos) tA:=by intro i d s σ H Q I h;refine isTrue_and (thn (f _ s σ H Q I h) λc g e=>?_);cases c with|true=>exact isTrue_and_nil e|false=>exact e
def aje(f:PT X a tA):PW X (.BoolOp .Or [a] pos) tA:=by intro i d s σ H Q I h;refine isTrue_or (thn (f _ s σ H Q I h) λc g e=>?_);cases c with|false=>exact isTrue_or_nil e|true=>exact e
def afy(j:PT X a tA)(i:PW X (.BoolOp .And (b::rest) pos) tB'):PW X (.BoolOp .And (a::b::rest) pos) (yv tA tB'):=by intro l d s σ H Q I h;refine isTrue_and (thn (j _ s σ H _ I h) λc k⟨g,f,e⟩=>?_);cases c with|true=>exact i _ _ _ σ _ Q f e|false=>exact⟨g,f,e⟩
def amE(j:PT X a tA)(i:PW X (.BoolOp .Or (b::rest) pos) tB'):PW X (.BoolOp .Or (a::b::rest) pos) (tOr tA tB'):=by intro l d s σ H Q I h;refine isTrue_or (thn (j _ s σ H _ I h) λc k⟨g,f,e⟩=>?_);cases c with|true=>exact⟨g,f,e⟩|false=>exact i _ _ _ σ _ Q f e
def aji(d:PT X a tA):PT X (.UnaryOp .Not a pos) (zQ tA):=by intro c s σ H Q I h;exact isTrue_not (d _ s σ H _ I h)
def amk(ta tb:TE):TE:=λσ H Q=>ta σ H λx d=>∃c,x=.bl c/\if c=true then tb σ d Q else Q (.bl false) d
def amf(ta:TE):TE:=λσ H Q=>ta σ H λx d=>∃c,x=.bl c/\Q (.bl !c) d
def aju{op t}(h:PE X a t):PE X (.BoolOp op [a] pos) t:=λc s σ H Q I hw=>BoolOp_one (h _ s σ H Q I hw)
def ajx(j:PE X a ta)(k:PE X (.BoolOp .And (b::rest) pos) tb):PE X (.BoolOp .And (a::b::rest) pos) (amk ta tb):=by intro e s σ H Q I h;refine BoolOp_and (thn (j _ s σ H _ I h) λv l⟨x,g,f,i,d⟩=>?_);obtain⟨c,rfl,d⟩:=d;cases i;refine aq1 ?_;cases c with|true=>exact k _ _ σ _ Q f d|false=>exact⟨.bl _,g,f,rfl,d⟩
def ajv(j:PE X a ta):PE X (.UnaryOp .Not a pos) (amf ta):=by intro e s σ H Q I h;refine UnaryOp_ (thn (j _ s σ H _ I h) λv k⟨x,f,g,i,d⟩=>?_);obtain⟨c,rfl,d⟩:=d;cases i;exact not_of (aq1 ⟨.bl _,f,g,rfl,d⟩)
def tIf(t:TT)(ta tb:TE):TE:=λσ H Q=>t σ H λc d=>if c=true then ta σ d Q else tb σ d Q
def adV{c}(j:PT X c tA)(k:PE X a ta)(i:PE X b tb):PE X (.IfExp c a b pos) (tIf tA ta tb):=by intro e s σ H Q I h;refine wpAny_IfExp (thn (j _ s σ H _ I h) λd m⟨l,g,f⟩=>?_);cases d with|true=>exact k _ _ σ _ Q g f|false=>exact i _ _ σ _ Q g f
end
def SqL(K:W.Frag)(H:Hp)(a:Addr)(xs:List V):Prop:=Rd H a (.lst xs)\/∃(o:Obj)(b:Array Value)(n:Nat),K.lookup a=some o/\o.cls=.type "list"/\o.dict=none/\o.data=.seq b n/\b.size<=sizeLine/\Vals xs b.toList
def SqT(K:W.Frag)(H:Hp)(a:Addr)(xs:List V):Prop:=Rd H a (.tup xs)\/∃(o:Obj)(b:Array Value)(n:Nat),K.lookup a=some o/\o.cls=.type "tuple"/\o.data=.seq b n/\b.size<=sizeLine/\Vals xs b.toList
noncomputable def apn:Value->Option V|.none=>some .non|.bool b=>some (.bl b)|.int i _=>some (.int i)|.str x _=>some (.str x)|.bytes b _=>some (.byt b)|.float b _=>some (.flt b)|.ref a=>some (.ref a)|.type n=>some (.ty n)|_=>none
def RelV.abs{x u}(r:RelV x u):apn u=some x:=by cases x with|non|bl _=>cases r;rfl|int _|str _|byt _|flt _=>obtain⟨t,rfl⟩:=r;rfl|ref _|ty _=>cases r;rfl
def RelV.inj{x y u}(r:RelV x u)(q:RelV y u):x=y:=apV (r.abs.symm.trans q.abs)
theorem Vals.inj:∀{xs ys us},Vals xs us->Vals ys us->xs=ys|_,_,_,.nil,.nil=>rfl|_,_,_,.cons r t,.cons r' t'=>by rw[r.inj r',Vals.inj t t']
section
variable{X:Cx}{pins:List (Addr×Obj)}{σ:St}{H:Hp}{s:Shared}{a:Addr}{xs ys:List V}
def SqL.of{K}(h:H a=some (.lst xs)):SqL K H a xs:=.inl (.inl h)
def SqT.of{K}(h:H a=some (.tup xs)):SqT K H a xs:=.inl (.inl h)
def Inv.list(I:Inv X pins σ H s)(h:SqL X.K H a xs):∃b,Vals xs b/\PlainL s.heap a b.toArray/\xs.length<=sizeLine:=by
 rcases h with h|⟨o,b,n,f,c,d,g,i,r⟩;.obtain⟨z,b,n,r,e⟩:=h.ok I.hok;exact⟨_,r,zN _ n e rfl rfl rfl,z⟩
 .refine⟨_,r,zN o n (I.kIn a o f) c d (by omega),?_⟩;have e:=r.length;simp  at e;omega
def Inv.tuple(I:Inv X pins σ H s)(h:SqT X.K H a xs):∃b,Vals xs b/\IsTup s.heap a b.toArray/\xs.length<=sizeLine:=by
 rcases h with h|⟨o,b,n,d,c,f,g,r⟩;.obtain⟨z,b,r,p⟩:=h.ok I.hok;exact⟨_,r,p,z⟩
 .refine⟨_,r,⟨o,I.kIn a o d,c,n,by omega⟩,?_⟩;have e:=r.length;simp  at e;omega
def Inv.qI(I:Inv X pins σ H s)(h:SqL X.K H a xs)(h':SqL X.K H a ys):xs=ys:=by
 obtain⟨c,r,⟨o,n,e,_,_,d⟩,_⟩:=I.list h;obtain⟨b,f,⟨g,k,i,_,_,j⟩,_⟩:=I.list h';have:c=b:=by grind
 subst this;exact r.inj f
def Inv.mh(I:Inv X pins σ H s)(h:SqT X.K H a xs)(h':SqT X.K H a ys):xs=ys:=by
 obtain⟨c,r,⟨o,e,_,n,d⟩,_⟩:=I.tuple h;obtain⟨b,f,⟨g,i,_,k,j⟩,_⟩:=I.tuple h';have:c=b:=by grind
 subst this;exact r.inj f
end
abbrev Cx.wc(X:Cx)(E:Value->Shared->Prop):Cx:={X with xe:=E}
abbrev Cx.nox(X:Cx):Cx:=X.wc λ_ _=>False
theorem Cx.Ok.wc{X:Cx}(ok:X.Ok)(E):(X.wc E).Ok:=⟨ok.mod,ok.kind,ok.glob,ok.blt,ok.above,ok.inj,ok.has,ok.cab,ok.hd,ok.frames,ok.stk,ok.exf,ok.bs,ok.bsz,ok.noex,ok.exfs,ok.rC,ok.frf⟩
def Cx.Ok.oG{X:Cx}{E}(ok:(X.wc E).Ok):X.Ok:=⟨ok.mod,ok.kind,ok.glob,ok.blt,ok.above,ok.inj,ok.has,ok.cab,ok.hd,ok.frames,ok.stk,ok.exf,ok.bs,ok.bsz,ok.noex,ok.exfs,ok.rC,ok.frf⟩
section
variable{X:Cx}{pins:List (Addr×Obj)}{σ:St}{H:Hp}{s:Shared}{E:Value->Shared->Prop}
theorem Inv.wc(I:Inv X pins σ H s)(E):Inv (X.wc E) pins σ H s:=⟨I.ok.wc E,I.os,I.bare,I.base,I.loc,I.cell,I.free,I.freeC,I.pin,I.hok,I.len⟩
theorem Inv.oG(I:Inv (X.wc E) pins σ H s):Inv X pins σ H s:=⟨I.ok.oG,I.os,I.bare,I.base,I.loc,I.cell,I.free,I.freeC,I.pin,I.hok,I.len⟩
theorem SP.oG{D f s'}(h:SP (X.wc E) pins D f s'):SP X pins D f s':=by cases f with|next|brk|cont=>obtain⟨a,b,I,q⟩:=h;exact⟨_,b,I.oG,q⟩|ret u=>refine x8 h λv a b I r q=>?_;exact⟨v,_,b,I.oG,r,q⟩
theorem PSs.nox{st t}(h:PSs X.nox st t):PSs X st t:=λpins s σ H D I hw=>apZ (h _ s σ H D (I.wc _) hw) (λ_ _ q=>q.oG) λ_ _ z=>False.elim z
end
section
variable{X:Cx}{st:Stmt}{rest:List Stmt}{t u:TS}{e:Expr}{te:TE}{pos:Pos}
def amg:TS:=λD σ H=>D.nx σ H
def aiU(t u:TS):TS:=λD σ H=>t {D with nx:=u D} σ H
def aba:PSs X [] amg:=λ_ _ σ H _ I h=>arv ⟨σ,H,I,h⟩
def eK(c:PS X st t)(g:PSs X rest u):PSs X (st::rest) (aiU t u):=by intro a s σ H D I h;refine wpAny_execs_cons (thn (c _ s σ H _ I h) λf i q=>?_);cases f with|next=>obtain⟨b,j,d,q⟩:=q;exact g _ _ _ _ D d q|ret v=>exact q|brk=>exact q|cont=>exact q
def kY(b:PS X st t):PSs X [st] t:=by intro a s σ H D I h;refine wpAny_execs_cons (thn (b _ s σ H D I h) λf c q=>?_);cases f with|next=>exact arv q|ret v|brk|cont=>exact q
def Inv.quiet{pins}{σ:St}{H s}(I:Inv X pins σ H s):interactive X.env=false:=by simp[interactive,I.ok.kind]
def yt(te:TE):TS:=λD σ H=>te σ H λ_ a=>D.nx σ a
def jm(c:PE X e te)(hs:swapsWith e none pos.line X.env=pure false:=by rfl):PS X (.Expr e pos) (yt te):=by intro a s σ H D I h;exact wpAny_Expr_any (thn (c _ s σ H _ I h) λv i⟨x,b,f,g,d⟩=>⟨σ,b,f,d⟩) I.quiet hs
def ao6(te:TE):TS:=λD σ H=>te σ H D.rt
def afA(d:PE X e te):PS X (.Return (some e) pos) (ao6 te):=by intro a s σ H D I h;exact wpAny_Return_some (thn (d _ s σ H _ I h) λv i⟨x,b,g,c,f⟩=>⟨x,σ,b,g,c,f⟩)
def ao8(c:TT)(t u:TS):TS:=λD σ H=>c σ H λb a=>if b=true then t D σ a else u D σ a
def ajj{c a b f}(k:PT X c f)(l:PSs X a t)(m:PSs X b u):PS X (.If c a b pos) (ao8 f t u):=by intro g s σ H D I h;refine wpAny_If (thn (k _ s σ H _ I h) λd o⟨n,j,i⟩=>?_);cases d with|true=>exact l _ _ σ _ D j i|false=>exact m _ _ σ _ D j i
end
abbrev TG:=V->St->Hp->(St->Hp->Prop)->Prop
abbrev TGs:=List V->St->Hp->(St->Hp->Prop)->Prop
def PG(X:Cx)(a:Expr)(t:TG):Prop:=∀(b:List (Addr×Obj))(s:Shared)(σ:St)(H:Hp)(v:V)(u:Value)(Q:St->Hp->Prop),Inv X b σ H s->RelV v u->t v σ H Q->wpAny (model X.prog X.w) X.A (assign a X.env u) (λ_ e=>∃c d,Inv X b c d e/\Q c d) X.xe s
def PGs(X:Cx)(ts:List Expr)(t:TGs):Prop:=∀(a:List (Addr×Obj))(s:Shared)(σ:St)(H:Hp)(c:List V)(e:List Value)(Q:St->Hp->Prop),Inv X a σ H s->Vals c e->t c σ H Q->wpAny (model X.prog X.w) X.A (assignInOrder ((assignEach ts X.env).map (·.2)) e) (λ_ f=>∃b d,Inv X a b d f/\Q b d) X.xe s
abbrev an8:=V->V->V->Hp->(Hp->Prop)->Prop
def aoX(X:Cx)(t:an8):Prop:=∀(a:List (Addr×Obj))(s:Shared)(σ:St)(H:Hp)(o i v:V)(d b u:Value)(Q:Hp->Prop),Inv X a σ H s->RelV o d->RelV i b->RelV v u->t o i v H Q->wpAny (model X.prog X.w) X.A (setItem d b u) (λ_ e=>∃c,Inv X a σ c e/\Q c) X.xe s
section
variable{X:Cx}{pos:Pos}
def aF(i:Nat):TG:=λv σ H Q=>Q (σ.set i (some v)) H
def jn{i x}(c:X.N.Nodup)(f:X.N[i]?=some x)(e:Loc X.env.scope x)(b:FL X x:=by first|exact .inl rfl|exact .inr rfl|assumption):PG X (.Name x pos) (aF i):=by intro a s σ H v u Q I r h;exact aso (wz I c f e r (λg d=>⟨_,H,d,h⟩) b)
def qO:TGs:=λa σ H Q=>a=[]/\Q σ H
def cP(t:TG)(u:TGs):TGs:=λb σ H Q=>∃v r,b=v::r/\t v σ H λa c=>u r a c Q
def uR:PGs X [] qO:=by intro a s σ H b c Q I r h;obtain⟨e,h⟩:=h;exact assignInOrder_nil ⟨σ,H,I,h⟩
def iI{e es t u}(b:PG X e t)(g:PGs X es u)(hs:(assignEach (e::es) X.env).map (·.2)=assign e X.env::(assignEach es X.env).map (·.2):=by rfl):PGs X (e::es) (cP t u):=by intro a s σ H j m Q I r h;obtain⟨v,k,f,h⟩:=h;subst f;cases r with|cons r rr=>rw[hs];exact assignInOrder_cons (thn (b _ s σ H _ _ _ I r h) λ_ l⟨_,i,d,c⟩=>g _ _ _ _ _ _ Q d rr c)
def rB(K:W.Frag)(n:Nat)(t:TGs):TG:=λv σ H Q=>∃a b,v=.ref a/\SqT K H a b/\b.length=n/\t b σ H Q
def afF{es k t n}(g:X.calm=true)(h:PGs X es t)(i:(assignEach es X.env).length=n:=by rfl)(c:(assignEach es X.env).findIdx? (·.1)=none:=by rfl):PG X (.Tuple es k pos) (rB X.K n t):=by intro d s σ H v u Q I r hw;obtain⟨a,A,q,x,l,hw⟩:=hw;subst q;cases r;refine jK (I.tuple x) λf m j z=>?_;refine assign_Tuple_tuple (I.ok.hd g) j (by simp[i,<-l,m.length]) c λy w=>?_;have p:=I.kept (t':=s.toks) λb o e=>w b o (apM (apH e)) e;exact h _ _ σ H _ _ Q p (by grind) hw
def aeD(b d:TE)(t:an8):TG:=λv σ H Q=>b σ H λo a=>d σ a λi c=>t o i v c λe=>Q σ e
def ajq{o i:Expr}{e d:TE}{t:an8}(D:PE X o e)(E:PE X i d)(hs:aoX X t)(B:∀v,assign (.Subscript o i pos) X.env v=(do
  let b <-holding [v] (eval o X.env)let c <-holding [v,b] (eval i X.env)standAt pos
  holding [v,b,c] (setItem b c v)release [v,b,c] []):=by intro _;rfl):PG X (.Subscript o i pos) (aeD e d t):=by intro a s σ H v u Q I r h;rw[B];refine apu (aqF (thn (D a s σ H _ I h) λb z⟨x,q,k,l,j⟩=>?_));refine apu (aqF (thn (E a z σ q _ k j) λc m⟨y,n,C,p,g⟩=>?_));refine apu (arb (apu (aqF (thn (hs a m σ n x y v b c u _ C l p r g) λ_ G⟨A,f,w⟩=>?_))));exact wpAny_release ⟨σ,A,f,w⟩
def ai0(b:TE)(g:TG):TS:=λD σ H=>b σ H λx a=>g x σ a D.nx
def afC{a e c g}(k:PE X e c)(l:PG X a g)(hs:swapsWithSole [a] e pos.line X.env=pure false:=by rfl)(hw:swappedStores [a] e X.env=pure none:=by rfl)(d:(assignEach [a] X.env).map (·.2)=[assign a X.env]:=by rfl):PS X (.Assign [a] e pos) (ai0 c g):=by intro b s σ H D I h;refine wpAny_Assign_stores (thn (k _ s σ H _ I h) λv n⟨x,m,i,j,f⟩=>?_) hs hw;rw[d];exact thn (l _ _ σ _ x v _ i j f) λ_ o q=>q
def pk{i x e c a}(f:X.N.Nodup)(g:X.N[i]?=some x)(o:Loc X.env.scope x)(m:PE X e c)(hs:swapsWith e (some (.Name x a)) pos.line X.env=pure false:=by rfl)(n:FL X x:=by first|exact .inl rfl|exact .inr rfl|assumption):PS X (.Assign [.Name x a] e pos) (ai0 c (aF i)):=by intro b s σ H D I h;exact wpAny_Assign_Name (thn (m _ s σ H _ I h) λv q⟨y,d,k,l,j⟩=>wz k f g o l (λr p=>⟨_,d,p,j⟩) n) hs
end
section
variable{X:Cx}{pos:Pos}
def aiT(c:TT)(tb:TS):TS:=λD σ H=>∃W:Nat->St->Hp->Prop,(∃m,W m σ H)/\∀m σ H,W m σ H->c σ H λb d=>if b=true then∃N:St->Hp->Prop,(∀a f,N a f->∃e,e<m/\W e a f)/\tb {D with nx:=N,ct:=N,bk:=D.nx} σ d else D.nx σ d
def wW{c e x tb}(t:PassesOwn (model X.prog X.w) X.A X.env X.xe)(J:PT X c x)(G:PSs X e tb):PS X (.While c e [] pos) (aiT x tb):=by intro r s σ H D I h;obtain⟨W,⟨M,O⟩,turn⟩:=h;refine wpAny_While (codeAny_whileLoop (λn C=>∃g z,Inv X _ g z C/\W n g z) ?_ M ⟨σ,H,I,O⟩);rintro n K⟨d,w,B,w1⟩;refine aqW t (thn (J _ K d w _ B (turn n d w w1)) λb E⟨u,A,j⟩=>?_);cases b with
|true=>refine fO j λN y j=>?_;refine aqW t (thn (G _ E d u _ A j) λf P k=>?_);cases f with|next=>obtain⟨a,i,l,o⟩:=k;obtain⟨p,q,m⟩:=y a i o;exact⟨p,q,a,i,l,m⟩|cont=>obtain⟨a,i,l,o⟩:=k;obtain⟨p,q,m⟩:=y a i o;exact⟨p,q,a,i,l,m⟩|brk=>exact k|ret v=>exact k
|false=>exact arv ⟨d,u,A,j⟩
end
structure It where
 go:Nat->Hp->Prop
 yld:Nat->Hp->V->Hp->Prop
 stop:Nat->Hp->Prop
def vU(X:Cx)(pins:List (Addr×Obj))(H:Hp)(b:Addr):Prop:=H b=none/\b≠X.env.locals/\b∉X.fs/\(b∈X.ex\/X.s₀.heap.objs.size<=b)/\(∀x c,X.env.cells.lookup x=some c->c≠b)/\∀p∈X.pn++pins,p.1≠b
def Inv.akv{X:Cx}{pins:List (Addr×Obj)}{σ:St}{H H':Hp}{s:Shared}{b:Addr}(I:Inv X pins σ H s)(a:s.heap.objs.size<=b)(f:H' b=none):vU X pins H' b:=by
 refine⟨f,ap4 (apE I.lt a),I.apf a,.inr (apD I.sz a),λx c e z=>?_,λp d z=>?_⟩;.obtain⟨v,q⟩:=I.cell x c e;exact absurd (apE q.lt (by rw[z];exact a)) (aqP _)
 .exact absurd (apE (apH (I.pin p d).1) (by rw[z];exact a)) (aqP _)
structure Turn(P:Program)(w:World)(K:W.Frag)(tg:Expr)(J:It)(fp:List Addr)(it:Addr)(tn:Nat->Heap->Prop)(cl:Cx->Hp->Prop:=λX _=>X.calm=true):Prop where
 mem:it∈fp
 obj:∀i h,tn i h->∀b∈fp,∃o,h.get? b=some o/\∀v,o.data≠.cell v
 keep:∀i h h',tn i h->(∀b∈fp,∀o,h.get? b=some o->h'.get? b=some o)->tn i h'
 item:∀(X:Cx),X.prog=P->X.w=w->X.K=K->∀(i:Nat)(pins:List (Addr×Obj))(s:Shared)(σ:St)(H:Hp)(E:Value->Shared->Prop),cl X H->Inv X pins σ H s->(∀b∈fp,vU X pins H b)->tn i s.heap->J.go i H->wpAny (model P w) X.A (pyNext (.ref it)) (λr s1=>∃u,r=some u/\wpAny (model P w) X.A (letOwnedTupleGo tg (.ref it) u) (λ_ s2=>∃x H',Inv X pins σ H' s2/\RelV x u/\J.yld i H x H'/\tn (i+1) s2.heap/\∀b∈fp,H' b=none) E s1) E s
 done:∀(X:Cx),X.prog=P->X.w=w->X.K=K->∀(i:Nat)(pins:List (Addr×Obj))(s:Shared)(σ:St)(H:Hp)(E:Value->Shared->Prop),cl X H->Inv X pins σ H s->(∀b∈fp,vU X pins H b)->tn i s.heap->J.stop i H->wpAny (model P w) X.A (pyNext (.ref it)) (λr s1=>r=none/\Inv X pins σ H s1) E s
 self:∀(A:Around)(i:Nat)(s:Shared)(Q:Value->Shared->Prop)(E:Value->Shared->Prop),tn i s.heap->Q (.ref it) s->wpAny (model P w) A (pyIter (.ref it)) Q E s
abbrev TI:=St->Hp->(It->Hp->Prop)->Prop
def PIE(X:Cx)(pins:List (Addr×Obj))(σ:St)(g:Expr)(R:It->Hp->Prop)(a:Value)(f:Shared):Prop:=∃(d:Addr)(e:List Addr)(tn:Nat->Heap->Prop)(J:It)(c:Hp),a=.ref d/\Inv X pins σ c f/\Turn X.prog X.w X.K g J e d tn/\tn 0 f.heap/\(∀b∈e,vU X pins c b)/\R J c
def PI(X:Cx)(c b:Expr)(wi:TI):Prop:=∀(a:List (Addr×Obj))(s:Shared)(σ:St)(H:Hp)(R:It->Hp->Prop),Inv X a σ H s->wi σ H R->wpAny (model X.prog X.w) X.A (eval b X.env) (λv d=>wpAny (model X.prog X.w) X.A (pyIter v) (PIE X a σ c R) X.xe d) X.xe s
def aeB{M A E s b it u o n vs Q}(e:s.heap.get? it=some o)(c:o.cls=.type n)(d:o.data=.fields vs)(f:["enumerate","zip","dict_itemiterator","dict_reverseitemiterator","odict_iterator","itertools.zip_longest","itertools.pairwise"].contains n=false)(a:Q () s):wpAny M A (letOwnedTupleGo b (.ref it) u) Q E s:=by cases b<;>first|exact apF a|(cases u<;>first|exact apF a| (refine apu (wpAny_load e ?_);rw[c,d];show wpAny M A (if(["enumerate","zip","dict_itemiterator","dict_reverseitemiterator","odict_iterator","itertools.zip_longest","itertools.pairwise"].contains n&&vs[0]?==some (rawInt _))=true then _ else _) Q E s;rw[apA (by grind)];exact apF a))
noncomputable def Itl(K:W.Frag)(a:Addr):It:=⟨λi H=>∃b x,SqL K H a b/\b[i]?=some x,λi H x c=>c=H/\∀b,SqL K H a b->b[i]?=some x,λi H=>∃b,SqL K H a b/\b.length<=i⟩
noncomputable def Itt(K:W.Frag)(a:Addr):It:=⟨λi H=>∃b x,SqT K H a b/\b[i]?=some x,λi H x c=>c=H/\∀b,SqT K H a b->b[i]?=some x,λi H=>∃b,SqT K H a b/\b.length<=i⟩
noncomputable def Itr(lo:Int)(n:Nat):It:=⟨λi _=>i<n,λi H x a=>a=H/\x=.int (lo+i),λi _=>n<=i⟩
def aav{P:Program}{w:World}{K:W.Frag}{tg:Expr}(a it:Addr):Turn P w K tg (Itl K a) [it] it λi h=>h.IsListIter it a i where
 mem:=by simp
 obj:=λi h st b hb=>by
  have e:b=it:=by simpa using hb
  subst e;obtain⟨o,e,c,d⟩:=st;exact⟨o,e,λv z=>by rw[d]at z;cases z⟩
 keep:=λi h h' st k=>st.at λo e=>k it (by simp) o e;item:=by intro X hP hw hK i pins s σ H E hc I hf st hg;subst hP hw hK;obtain⟨xs,x,hq,hx⟩:=hg;obtain⟨its,rv,p,hz⟩:=I.list hq;obtain⟨u,hu,ru⟩:=rv.get hx;obtain⟨f0,f1,f2,f3,f4,f5⟩:=hf it (by simp);refine wpAny_pyNext_list_item st p.isList (x:=u) (by simpa using hu) λh' st' sb=>?_;have I1:Inv X pins σ H {s with heap:=h'}:=I.turned (t':=s.toks) (λb o hb e=>(sb.2 b hb).trans e) f0 f1 f3 f4 f5;obtain⟨o,e,c,d⟩:=id st';exact⟨u,rfl,aeB (s:={s with heap:=h'}) e c d (by decide) ⟨x,H,I1,ru,⟨rfl,λys hy=>by rw[I.qI hy hq];exact hx⟩,st',λb hb=>(hf b hb).1⟩⟩
 done:=by intro X hP hw hK i pins s σ H E hc I hf st hg;subst hP hw hK;obtain⟨xs,hq,hx⟩:=hg;obtain⟨its,rv,p,hz⟩:=I.list hq;obtain⟨f0,f1,f2,f3,f4,f5⟩:=hf it (by simp);have hl:=rv.length;exact wpAny_pyNext_list_end (I.ok.hd hc) st p.isList (by simp;omega) λh' eb=>⟨rfl,I.turned (t':=s.toks) (λb o hb e=>eb b o hb e) f0 f1 f3 f4 f5⟩
 self:=λ_ _ _ _ _ st h=>wpAny_pyIter_listiter st h
def yf{P:Program}{w:World}{K:W.Frag}{tg:Expr}(a it:Addr):Turn P w K tg (Itt K a) [it] it λi h=>h.IsTupleIter it a i where
 mem:=by simp
 obj:=λi h st b hb=>by
  have e:b=it:=by simpa using hb
  subst e;obtain⟨o,e,c,d⟩:=st;exact⟨o,e,λv z=>by rw[d]at z;cases z⟩
 keep:=λi h h' st k=>st.at λo e=>k it (by simp) o e;item:=by intro X hP hw hK i pins s σ H E hc I hf st hg;subst hP hw hK;obtain⟨xs,x,hq,hx⟩:=hg;obtain⟨its,rv,p,hz⟩:=I.tuple hq;obtain⟨u,hu,ru⟩:=rv.get hx;obtain⟨f0,f1,f2,f3,f4,f5⟩:=hf it (by simp);refine wpAny_pyNext_tuple_item st (show s.heap.IsTuple a its.toArray from p) (x:=u) (by simpa using hu) λh' st' sb=>?_;have I1:Inv X pins σ H {s with heap:=h'}:=I.turned (t':=s.toks) (λb o hb e=>(sb.2 b hb).trans e) f0 f1 f3 f4 f5;obtain⟨o,e,c,d⟩:=id st';exact⟨u,rfl,aeB (s:={s with heap:=h'}) e c d (by decide) ⟨x,H,I1,ru,⟨rfl,λys hy=>by rw[I.mh hy hq];exact hx⟩,st',λb hb=>(hf b hb).1⟩⟩
 done:=by intro X hP hw hK i pins s σ H E hc I hf st hg;subst hP hw hK;obtain⟨xs,hq,hx⟩:=hg;obtain⟨its,rv,p,hz⟩:=I.tuple hq;obtain⟨f0,f1,f2,f3,f4,f5⟩:=hf it (by simp);have hl:=rv.length;exact wpAny_pyNext_tuple_end (I.ok.hd hc) st (show s.heap.IsTuple a its.toArray from p) (by simp;omega) λh' eb=>⟨rfl,I.turned (t':=s.toks) (λb o hb e=>eb b o hb e) f0 f1 f3 f4 f5⟩
 self:=λ_ _ _ _ _ st h=>wpAny_pyIter_tupleiter st h
def yg{P:Program}{w:World}{K:W.Frag}{tg:Expr}(it:Addr)(lo:Int)(n:Nat):Turn P w K tg (Itr lo n) [it] it λi h=>IsRangeIter h it (lo+(i:Nat)*1) ((n:Int)-(i:Nat)) 1 where
 mem:=by simp
 obj:=λi h st b hb=>by
  have e:b=it:=by simpa using hb
  subst e;exact⟨_,st,λv z=>by have z':Data.fields _=Data.cell v:=z;cases z'⟩
 keep:=λi h h' st k=>k it (by simp) _ st;item:=by intro X hP hw hK i pins s σ H E hc I hf st hg;subst hP hw hK;obtain⟨f0,f1,f2,f3,f4,f5⟩:=hf it (by simp);have W:=Walks.range (prog:=X.prog) (w:=X.w) (I.ok.hd hc) it lo 1 n;refine W.item i s _ _ hg st λv h' tk hv st' kk=>?_;obtain⟨t,rfl⟩:=hv;have I1:Inv X pins σ H {s with heap:=h',toks:=tk}:=I.turned (λb o hb e=>kk b o (by simpa using hb) e) f0 f1 f3 f4 f5;refine⟨_,rfl,aeB (s:={s with heap:=h',toks:=tk}) (n:="range_iterator") st' rfl rfl (by decide) ⟨.int (lo+i),H,I1,⟨t,?_⟩,⟨rfl,rfl⟩,st',λb hb=>(hf b hb).1⟩⟩;rw[Int.mul_one]
 done:=by intro X hP hw hK i pins s σ H E hc I hf st hg;subst hP hw hK;obtain⟨f0,f1,f2,f3,f4,f5⟩:=hf it (by simp);exact wpAny_pyNext_range_end (I.ok.hd hc) st (by have:n<=i:=hg;omega) λh' eb=>⟨rfl,I.turned (t':=s.toks) (λb o hb e=>eb b o hb e) f0 f1 f3 f4 f5⟩
 self:=λ_ _ _ _ _ st h=>wpAny_pyIter_rangeiter st h
section
variable{X:Cx}{tg:Expr}
def wR{pins}{σ:St}{H s R E lo a t u v tk}(I:Inv X pins σ H s)(d:-2^62<=lo)(i:lo<2^62)(g:-2^62<=a)(f:a<2^62)(q:R (Itr lo (a-lo).toNat) H):wpAny (model X.prog X.w) X.A (pyIter (.ref s.heap.objs.size)) (PIE X pins σ tg R) E {s with heap:=s.heap.push {cls:=.type "range",data:=.fields #[.int lo t,.int a u,.int 1 v]},toks:=tk}:=by
 refine wpAny_pyIter_range (IsRange.new ..) (small_one d i g f) ?_;have c:Inv X pins σ H {s with heap:=s.heap.push {cls:=.type "range",data:=.fields #[.int lo t,.int a u,.int 1 v]},toks:=tk}:=I.kept λb o e=>apw _ e;refine⟨_,_,_,_,H,rfl,c.kept (t':=tk) λb o e=>apw _ e,yg _ lo _,?_,λb k=>?_,q⟩
 .have h:lo+((0:Nat):Int)*1=lo:=by simp
  have j:(((a-lo).toNat:Nat):Int)-((0:Nat):Int)=Builtin.Range.rangeSize lo a 1:=by rw[rangeSize_one];split<;>omega
  rw[h,j];exact apL _ rfl
 .have e:b=(s.heap.push {cls:=.type "range",data:=.fields #[.int lo t,.int a u,.int 1 v]}).objs.size:=by simpa using k
  subst e;exact c.akv (apG _) (c.hok.fresh (apG _))
def jB(ta:TA):TI:=λσ H R=>ta σ H λb a=>∃j:Int,b=[.int j]/\-2^62<=j/\j<2^62/\R (Itr 0 j.toNat) a
def vp(ta:TA):TI:=λσ H R=>ta σ H λb a=>∃i j:Int,b=[.int i,.int j]/\(-2^62<=i/\i<2^62/\-2^62<=j/\j<2^62)/\R (Itr i (j-i).toNat) a
def jX{a ta p pos}(k:Gl X "range")(l:X.mg "range"=none)(i:PA X [a] ta)(hs:starEach [a] X.env=[(false,eval a X.env)]:=by rfl):PI X tg (.Call (.Name "range" p) [a] [] pos) (jB ta):=by intro c s σ H R I h;refine Call_ (j9 I k l asU (aqk (thn (i _ _ s σ H _ I h) λu o⟨n,m,f,g,b⟩=>?_) hs rfl));obtain⟨j,e,b,d,q⟩:=b;subst e;cases g with|cons r rr=>cases rr;obtain⟨t,rfl⟩:=r;exact call_range_1 (wR f (by omega) (by omega) b d (by grind))
def abg{a b ta p pos}(v:Gl X "range")(u:X.mg "range"=none)(o:PA X [a,b] ta)(hs:starEach [a,b] X.env=[(false,eval a X.env),(false,eval b X.env)]:=by rfl)(c:starEach [b] X.env=[(false,eval b X.env)]:=by rfl):PI X tg (.Call (.Name "range" p) [a,b] [] pos) (vp ta):=by intro f s σ H R I h;refine Call_ (j9 I v u asU (aqk (thn (o pos _ s σ H _ I h) λA z⟨y,w,m,n,d⟩=>?_) (by grind) (by rw[c];rfl)));obtain⟨i,j,e,⟨d,l,g,k⟩,q⟩:=d;subst e;cases n with|cons r rr=>cases rr with|cons r' rr=>cases rr;obtain⟨t,rfl⟩:=r;obtain⟨x,rfl⟩:=r';exact call_range_2 (wR m d l g k q)
def aol(wi:TI)(g:TG)(tb:TS):TS:=λD σ H=>wi σ H λJ e=>∃W:Nat->Nat->St->Hp->Prop,(∃m,W 0 m σ e)/\∀i m σ H,W i m σ H->J.stop i H/\D.nx σ H\/J.go i H/\∃N:St->Hp->Prop,(∀a b,N a b->∃d,d<m/\W (i+1) d a b)/\∀x b,J.yld i H x b->g x σ b λc f=>tb {D with nx:=N,ct:=N,bk:=D.nx} c f
noncomputable def sM(a:List Addr)(h:Heap):List (Addr×Obj):=a.filterMap λb=>(h.get? b).map λo=>(b,o)
def iJ{a h b o}(c:b∈a)(e:h.get? b=some o):(b,o)∈sM a h:=arz.mpr ⟨b,c,by grind⟩
def abu{a h p}(c:p∈sM a h):p.1∈a/\h.get? p.1=some p.2:=by obtain⟨b,f,e⟩:=arz.mp c;cases q:h.get? b with|none=>rw[q]at e;cases e|some o=>rw[q]at e;have d:=apV e;subst d;exact⟨f,q⟩
def Inv.pinned{pins}{σ:St}{H s a}(I:Inv X pins σ H s)(g:∀b∈a,vU X pins H b)(k:∀b∈a,∃o,s.heap.get? b=some o/\∀v,o.data≠.cell v):Inv X (pins++sM a s.heap) σ H s:=I.fE λp i=>(ap8.mp i).elim (λz=>I.pin p (apQ _ z)) λz=>by obtain⟨f,e⟩:=abu z;refine alW (g _ f) λh j l _=>?_;refine fO (k _ f) λo c d=>?_;rw[e]at c;cases c;exact⟨e,h,j,l,d⟩
def Inv.pY{pins pl}{σ:St}{H s}(I:Inv X (pins++pl) σ H s):Inv X pins σ H s:=I.fE λp a=>I.pin p (apQ _ (ap0 _ a))
def afB{j z wi g tb pos}(G:PassesOwn (model X.prog X.w) X.A X.env X.xe)(hc:X.calm=true)(hi:PI X tg j wi)(hg:PG X tg g)(k:PSs X z tb)(hs:∀x,foldedSetIterable j X.env x=pure x:=by intro _;rfl):PS X (.For tg j z [] pos) (aol wi g tb):=by
 intro a s σ H D I h;refine wpAny_For (thn (hi a s σ H _ I h) λv s1 h1=>thn h1 λa0 s2 h2=>?_) hs;obtain⟨it,M,tn,J,H2,e,I2,T,Z,f2,W,⟨m0,w0⟩,turn⟩:=h2;subst e;-- what stays true of the iterator's objects through the loop
 have q:∀{w:Hp},(∀b∈M,w b=none)->∀b∈M,vU X a w b:=λhn b k=>⟨hn b k,(f2 b k).2⟩;refine codeAny_forLoop_any (λn s'=>∃i p w,Inv X a p w s'/\tn i s'.heap/\(∀b∈M,w b=none)/\W i n p w) ?_ m0 (rE 0 σ H2 I2 Z (λb k=>(f2 b k).1) w0);rintro n s3⟨i,l,O,I3,E,C,w3⟩;rcases turn i n l O w3 with⟨K,qn⟩|⟨go,N,hN,step⟩;.refine aqW G (thn (T.done X rfl rfl rfl i a s3 l O X.xe hc I3 (q C) E K) λr s4⟨Q,I4⟩=>?_);subst Q;exact arv ⟨l,O,I4,qn⟩
 .refine aqW G (thn (T.item X rfl rfl rfl i a s3 l O X.xe hc I3 (q C) E go) λr s4⟨u,Q,h4⟩=>?_);subst Q;refine aqW G (thn h4 λ_ s5⟨x,H5,I5,r5,y5,B,R⟩=>?_);have P:=I5.pinned (q R) (T.obj _ _ B);refine aqW G (thn (hg _ s5 l H5 x u _ P r5 (step x H5 y5)) λ_ s6⟨S,H6,I6,q6⟩=>?_);refine aqW G (thn (k _ s6 S H6 _ I6 q6) λf U A=>?_);have again:∀{c:St}{t:Hp},Inv X (a++sM M s5.heap) c t U->N c t->∃m,m<n/\∃i p w,Inv X a p w U/\tn i U.heap/\(∀b∈M,w b=none)/\W i m p w:=λ{c t}y Y=>by refine fO (hN c t Y) λm' hm w7=>?_;refine⟨m',hm,i+1,c,t,y.pY,T.keep _ _ _ B λb k o e=>(y.pin (b,o) (apQ _ (apQ _ (iJ k e)))).1,λb k=>?_,w7⟩;obtain⟨o,e,d⟩:=T.obj _ _ B b k;exact(y.pin (b,o) (apQ _ (apQ _ (iJ k e)))).2.1
  cases f with|next|cont=>obtain⟨c,t,y,Y⟩:=A;exact again y Y|brk=>refine eg A λc t y A=>?_;exact⟨c,t,y.pY,A⟩|ret v=>refine x8 A λx7 c t y r7 A=>?_;exact agm x7 c t y.pY r7 A
end
abbrev R2:=V->V->Hp->VK->Prop
def OpR(X:Cx)(f:Value->Value->Sem Value)(r:R2):Prop:=∀(a:List (Addr×Obj))(s:Shared)(σ:St)(H:Hp)(x y:V)(v u:Value)(Q:VK),Inv X a σ H s->RelV x v->RelV y u->r x y H Q->wpAny (model X.prog X.w) X.A (f v u) (EP X a σ Q) X.xe s
def UnR(X:Cx)(f:Value->Sem Value)(r:V->Hp->VK->Prop):Prop:=∀(a:List (Addr×Obj))(s:Shared)(σ:St)(H:Hp)(x:V)(v:Value)(Q:VK),Inv X a σ H s->RelV x v->r x H Q->wpAny (model X.prog X.w) X.A (f v) (EP X a σ Q) X.xe s
def bV(X:Cx)(f:Value)(r:List V->Hp->VK->Prop):Prop:=∀(a:List (Addr×Obj))(s:Shared)(σ:St)(H:Hp)(b:List V)(c:List Value)(Q:VK),Inv X a σ H s->Vals b c->r b H Q->wpAny (model X.prog X.w) X.A (call f c) (EP X a σ Q) X.xe s
def tOp(r:R2)(ta tb:TE):TE:=λσ H Q=>ta σ H λx a=>tb σ a λy b=>r x y b Q
def tUn(r:V->Hp->VK->Prop)(ta:TE):TE:=λσ H Q=>ta σ H λx a=>r x a Q
def rI(C:Int->Int->Prop)(g:Int->Int->V):R2:=λx y H Q=>∃i j,x=.int i/\y=.int j/\C i j/\Q (g i j) H
def rI0(g:Int->Int->V):R2:=λx y H Q=>∃i j,x=.int i/\y=.int j/\Q (g i j) H
def rU(g:Int->V):V->Hp->VK->Prop:=λx H Q=>∃i,x=.int i/\Q (g i) H
section
variable{X:Cx}{a b c:Expr}{ta tb tc:TE}{pos:Pos}
def anY(o:PE X a ta)(t:PE X b tb){pins s}{σ:St}{H}{R:V->V->Hp->Prop}(I:Inv X pins σ H s)(h:ta σ H λx j=>tb σ j λy g=>R x y g){Q}{f:Value->Value->Sem Value}(p:∀v u i x y g,Inv X pins σ g i->RelV x v->RelV y u->R x y g->wpAny (model X.prog X.w) X.A (f v u) Q X.xe i):wpAny (model X.prog X.w) X.A (eval a X.env) (λv d=>wpAny (model X.prog X.w) X.A (eval b X.env) (λu e=>wpAny (model X.prog X.w) X.A (f v u) Q X.xe e) X.xe d) X.xe s:=by exact thn (o _ s σ H _ I h) λv w⟨x,j,m,n,l⟩=>thn (t _ _ σ _ _ m l) λu i⟨y,g,r,q,k⟩=>p v u _ x y _ r n q k
def ajt{op r}(j:OpR X (binaryOp op) r)(g:PE X a ta)(k:PE X b tb):PE X (.BinOp a op b pos) (tOp r ta tb):=by intro d s σ H Q I h;exact wpAny_BinOp (anY g k I h λv u l x y m i f e q=>j _ _ σ _ x y v u Q i f e q)
def amJ{op r}(i:UnR X (unaryOp op) r)(f:PE X a ta):PE X (.UnaryOp op a pos) (tUn r ta):=by intro d s σ H Q I h;exact UnaryOp_ (thn (f _ s σ H _ I h) λv l⟨x,k,j,e,g⟩=>i _ _ σ _ x v Q j e g)
def opI{f C}{g:Int->Int->Int}(rule:∀i j t u s Q E,C i j->Q (.int (g i j) s.toks) {s with toks:=s.toks+1}->wpAny (model X.prog X.w) X.A (f (.int i t) (.int j u)) Q E s):OpR X f (rI C λi j=>.int (g i j)):=by intro k s σ H x y v u Q I n m h;refine lD h λi j d e l q=>?_;subst d e;obtain⟨t,rfl⟩:=n;obtain⟨o,rfl⟩:=m;exact rule i j t _ s _ _ l (jJ (.int _) H (I.tok _) ⟨_,rfl⟩ q)
def aow{f}{g:Int->Int->Int}(rule:∀i j t u s Q E,Q (.int (g i j) s.toks) {s with toks:=s.toks+1}->wpAny (model X.prog X.w) X.A (f (.int i t) (.int j u)) Q E s):OpR X f (rI0 λi j=>.int (g i j)):=by intro k s σ H x y v u Q I m l h;refine hJ h λi j d e q=>?_;subst d e;obtain⟨t,rfl⟩:=m;obtain⟨n,rfl⟩:=l;exact rule i j t _ s _ _ (jJ (.int _) H (I.tok _) ⟨_,rfl⟩ q)
def ali{f}{g:Int->Int->Bool}(rule:∀i j t u s Q E,Q (.bool (g i j)) s->wpAny (model X.prog X.w) X.A (f (.int i t) (.int j u)) Q E s):OpR X f (rI0 λi j=>.bl (g i j)):=by intro d s σ H x y v u Q I k e h;obtain⟨i,j,rfl,rfl,q⟩:=h;obtain⟨t,rfl⟩:=k;obtain⟨l,rfl⟩:=e;exact rule i j t _ s _ _ ⟨.bl _,H,I,rfl,q⟩
def apq(i j:Int):Prop:=0<=j/\j<=1000000/\i.natAbs<2^64
def aoe(i j:Int):Prop:=-2^64<i/\i<2^64\/-2^64<j/\j<2^64
def aoe.ok{i j}(h:aoe i j):IntMulOk i j:=by
 rcases h with⟨e,d⟩|⟨e,d⟩;.exact .of_left (intBits_le_64 e d)
 .exact .of_right (intBits_le_64 e d)
def ajI:OpR X (binaryOp .Add) (rI0 λi j=>.int (i+j)):=aow λ_ _ _ _ _ _ _ q=>add_int q
def ajz:OpR X (binaryOp .Sub) (rI0 λi j=>.int (i-j)):=aow λ_ _ _ _ _ _ _ q=>sub_int q
def ajC:OpR X (binaryOp .Mult) (rI aoe λi j=>.int (i*j)):=opI λ_ _ _ _ _ _ _ d q=>mul_int q d.ok
def ajD:OpR X (binaryOp .Mod) (rI (λ_ j=>0<j) λi j=>.int (i%j)):=opI λi j _ _ _ _ _ d q=>by have e:(0:Int)<j:=d;exact mod_int' (by omega) (by rw[Int.fmod_eq_emod_of_nonneg i (by omega)];exact q)
def ajA:OpR X (binaryOp .Pow) (rI apq λi j=>.int (i^j.toNat)):=opI λ_ _ _ _ _ _ _ d q=>pow_int_small d.1 d.2.1 d.2.2 q
def unI{f}{g:Int->Int}(rule:∀i t s Q E,Q (.int (g i) s.toks) {s with toks:=s.toks+1}->wpAny (model X.prog X.w) X.A (f (.int i t)) Q E s):UnR X f (rU λi=>.int (g i)):=by intro d s σ H x v Q I e h;obtain⟨i,rfl,q⟩:=h;obtain⟨t,rfl⟩:=e;exact rule i t s _ _ ⟨.int _,H,I.tok _,⟨_,rfl⟩,q⟩
def aiL:UnR X (unaryOp .USub) (rU λi=>.int (-i)):=unI λ_ _ _ _ _ q=>neg_int q
end
noncomputable def ams:V->V->Bool|.non,.non=>true|.non,.int _=>true|.int _,.non=>true|.non,.bl _=>true|.bl _,.non=>true|.non,.str _=>true|.str _,.non=>true|.int _,.int _=>true|.bl _,.bl _=>true|.str _,.str _=>true|.byt _,.byt _=>true|.int _,.str _=>true|.str _,.int _=>true|.bl _,.str _=>true|.str _,.bl _=>true|_,_=>false
def rEq:R2:=λx y H Q=>ams x y=true/\Q (.bl (decide (x=y))) H
def rNe:R2:=λx y H Q=>ams x y=true/\Q (.bl !decide (x=y)) H
def vD{i j:Int}:decide (V.int i=V.int j)=(i==j):=by rw[ap2];simp
def acy{i j:Bool}:decide (V.bl i=V.bl j)=(i==j):=by rw[ap2];simp
def vC{i j:Str}:decide (V.str i=V.str j)=(i==j):=by rw[ap2];simp
def acx{i j}:decide (V.byt i=V.byt j)=(i.toList==j.toList):=by rw[ap2];cases i;cases j;simp
section
variable{X:Cx}{a b c:Expr}{ta tb tc:TE}{pos:Pos}
def bD{pins}{σ:St}{H s Q k k'}(I:Inv X pins σ H s)(q:Q (.bl k) H)(e:k=k'):EP X pins σ Q (.bool k') s:=by subst e;exact⟨.bl k,H,I,rfl,q⟩
def amS:OpR X (compareOp .Eq) rEq:=by intro k s σ H x y v u Q I g d h;obtain⟨f,q⟩:=h;cases x with
|non=>cases g;cases y with|non=>cases d;exact PySem.EqNone.eq_none_none (bD I q (by simp))|bl j=>cases d;exact PySem.EqNone.eq_none_bool (bD I q (by simp))|int j=>obtain⟨e,rfl⟩:=d;exact PySem.EqNone.eq_none_int (bD I q (by simp))|str j=>obtain⟨e,rfl⟩:=d;exact PySem.EqNone.eq_none_str (bD I q (by simp))|_=>exact absurd (show false=true from f) apW
|bl i=>cases g;cases y with|non=>cases d;exact PySem.EqNone.eq_bool_none (bD I q (by simp))|bl j=>cases d;exact eq_bool (bD I q acy)|str j=>obtain⟨e,rfl⟩:=d;exact PySem.EqMixed.eq_bool_str (bD I q (by simp))|_=>exact absurd (show false=true from f) apW
|int i=>obtain⟨t,rfl⟩:=g;cases y with|non=>cases d;exact PySem.EqNone.eq_int_none (bD I q (by simp))|int j=>obtain⟨e,rfl⟩:=d;exact eq_int (bD I q vD)|str j=>obtain⟨e,rfl⟩:=d;exact PySem.EqMixed.eq_int_str (bD I q (by simp))|_=>exact absurd (show false=true from f) apW
|str i=>obtain⟨t,rfl⟩:=g;cases y with|non=>cases d;exact PySem.EqNone.eq_str_none (bD I q (by simp))|bl j=>cases d;exact PySem.EqMixed.eq_str_bool (bD I q (by simp))|int j=>obtain⟨e,rfl⟩:=d;exact PySem.EqMixed.eq_str_int (bD I q (by simp))|str j=>obtain⟨e,rfl⟩:=d;exact eq_str (bD I q vC)|_=>exact absurd (show false=true from f) apW
|byt i=>obtain⟨t,rfl⟩:=g;cases y with|byt j=>obtain⟨e,rfl⟩:=d;exact W.eq_bytes (bD I q acx)|_=>exact absurd (show false=true from f) apW
|_=>cases y<;>exact absurd (show false=true from f) apW
def amN:OpR X (compareOp .NotEq) rNe:=by intro k s σ H x y v u Q I g d h;obtain⟨f,q⟩:=h;cases x with
|non=>cases g;cases y with|non=>cases d;exact PySem.EqNone.ne_none_none (bD I q (by simp))|bl j=>cases d;exact PySem.EqNone.ne_none_bool (bD I q (by simp))|int j=>obtain⟨e,rfl⟩:=d;exact PySem.EqNone.ne_none_int (bD I q (by simp))|str j=>obtain⟨e,rfl⟩:=d;exact PySem.EqNone.ne_none_str (bD I q (by simp))|_=>exact absurd (show false=true from f) apW
|bl i=>cases g;cases y with|non=>cases d;exact PySem.EqNone.ne_bool_none (bD I q (by simp))|bl j=>cases d;exact ne_bool (bD I q (aro not acy))|str j=>obtain⟨e,rfl⟩:=d;exact PySem.EqMixed.ne_bool_str (bD I q (by simp))|_=>exact absurd (show false=true from f) apW
|int i=>obtain⟨t,rfl⟩:=g;cases y with|non=>cases d;exact PySem.EqNone.ne_int_none (bD I q (by simp))|int j=>obtain⟨e,rfl⟩:=d;exact ne_int (bD I q (aro not vD))|str j=>obtain⟨e,rfl⟩:=d;exact PySem.EqMixed.ne_int_str (bD I q (by simp))|_=>exact absurd (show false=true from f) apW
|str i=>obtain⟨t,rfl⟩:=g;cases y with|non=>cases d;exact PySem.EqNone.ne_str_none (bD I q (by simp))|bl j=>cases d;exact PySem.EqMixed.ne_str_bool (bD I q (by simp))|int j=>obtain⟨e,rfl⟩:=d;exact PySem.EqMixed.ne_str_int (bD I q (by simp))|str j=>obtain⟨e,rfl⟩:=d;exact ne_str (bD I q (aro not vC))|_=>exact absurd (show false=true from f) apW
|byt i=>obtain⟨t,rfl⟩:=g;cases y with|byt j=>obtain⟨e,rfl⟩:=d;exact W.ne_bytes (bD I q (aro not acx))|_=>exact absurd (show false=true from f) apW
|_=>cases y<;>exact absurd (show false=true from f) apW
def amO:OpR X (compareOp .Lt) (rI0 λi j=>.bl (decide (i<j))):=ali λ_ _ _ _ _ _ _ q=>lt_int q
def amP:OpR X (compareOp .LtE) (rI0 λi j=>.bl (decide (i<=j))):=ali λ_ _ _ _ _ _ _ q=>le_int q
def amQ:OpR X (compareOp .Gt) (rI0 λi j=>.bl (decide (j<i))):=ali λ_ _ _ _ _ _ _ q=>gt_int q
def amR:OpR X (compareOp .GtE) (rI0 λi j=>.bl (decide (j<=i))):=ali λ_ _ _ _ _ _ _ q=>ge_int q
def ajE:OpR X (compareOp .Is) λx y H Q=>y=.non/\Q (.bl (decide (x=.non))) H:=by intro d s σ H x y v u Q I f e h;obtain⟨rfl,q⟩:=h;cases e;refine is_none_gen (bD I q ?_);cases x<;>(obtain⟨t,rfl⟩:=f;rfl)
def ahc:OpR X (compareOp .IsNot) λx y H Q=>y=.non/\Q (.bl !decide (x=.non)) H:=by intro d s σ H x y v u Q I f e h;obtain⟨rfl,q⟩:=h;cases e;refine isnot_none_gen (bD I q ?_);cases x<;>(obtain⟨t,rfl⟩:=f;rfl)
def OpR.or{f r e}(h:OpR X f r)(h':OpR X f e):OpR X f λx y H Q=>r x y H Q\/e x y H Q:=by
 intro g s σ H x y v u Q I d i q;rcases q with q|q;.exact h _ s σ H x y v u Q I d i q
 .exact h' _ s σ H x y v u Q I d i q
def bz(b){op}(h:op≠.In:=by decide)(d:op≠.NotIn:=by decide):behindInMarks op b=false:=ad7 b h d
def abj{op r}(k:OpR X (compareOp op) r)(g:PE X a ta)(l:PE X b tb)(i:behindInMarks op b=false):PE X (.Compare a [op] [b] pos) (tOp r ta tb):=by intro d s σ H Q I h;exact wpAny_Compare1 (anY g l I h λv u m x y n j f e q=>k _ _ σ _ x y v u Q j f e q) i
def lR(t:TE):TT:=λσ H Q=>t σ H λx d=>∃k,x=.bl k/\Q k d
def aa8{op r}(i:OpR X (compareOp op) r)(p:PE X a ta)(B:PE X b tb)(q:behindInMarks op b=false):PT X (.Compare a [op] [b] pos) (lR (tOp r ta tb)):=by intro d s σ H Q I h;refine wpAny_isTrue_Compare1 (thn (p _ s σ H _ I h) λv D⟨x,C,n,o,l⟩=>thn (B _ _ σ _ _ n l) λu E⟨y,G,w,A,j⟩=>thn (i _ _ σ _ x y v u _ w o A j) λc J⟨z,m,g,t,k,e,f⟩=>?_) q;subst e;cases t;exact aq1 ⟨m,g,f⟩
def afo(r f:R2)(ta tb tc:TE):TE:=λσ H Q=>ta σ H λx e=>tb σ e λy i=>r x y i λz d=>∃k,z=.bl k/\if k=true then tc σ d λh g=>f y h g Q else Q (.bl false) d
def adX{op g r o}(Z:OpR X (compareOp op) r)(i:OpR X (compareOp g) o)(S:PE X a ta)(G:PE X b tb)(O:PE X c tc)(U:lastMarks [op,g] [b,c]=false:=by with_unfolding_all rfl):PE X (.Compare a [op,g] [b,c] pos) (afo r o ta tb tc):=by intro f s σ H Q I h;refine Compare_chain (thn (S _ s σ H _ I h) λv R⟨x,M,w,B,t⟩=>chain_link (thn (G _ R σ M _ w t) λu D⟨y,E,Y,l,q⟩=>thn (Z _ D σ E x y v u _ Y B l q) λd s3⟨z,n,j,C,k,e,m⟩=>?_)) U;subst e;cases C;refine aq1 ?_;cases k with|false=>exact ite_ff ⟨.bl _,n,j,rfl,m⟩|true=>exact ite_tt (chain_last (thn (O f s3 σ n _ j m) λA J⟨p,T,N,K,P⟩=>i f J σ T y p u A Q N l K P))
def tj:sizeLine<2^63:=by decide
def vals1{x us}(r:Vals [x] us):∃u,us=[u]/\RelV x u:=by cases r with|cons r1 r2=>cases r2;exact⟨_,rfl,r1⟩
def vals2{x y us}(r:Vals [x,y] us):∃u d,us=[u,d]/\RelV x u/\RelV y d:=by cases r with|cons r1 r2=>cases r2 with|cons r3 r4=>cases r4;exact⟨_,_,rfl,r1,r3⟩
def aeY:bV X (.builtin "abs") λe H Q=>∃i,e=[.int i]/\Q (.int (if i<0 then -i else i)) H:=by intro d s σ H e f Q I r h;obtain⟨i,rfl,q⟩:=h;obtain⟨u,rfl,t,rfl⟩:=vals1 r;exact call_abs_int λu tk=>jJ (.int _) H (I.tok _) ⟨_,rfl⟩ q
def acR(l:X.calm=true):bV X (.builtin "max") λg H Q=>∃i j,g=[.int i,.int j]/\Q (.int (if j>i then j else i)) H:=by
 intro f s σ H g p Q I r h;refine eg h λi j e q=>?_;subst e;obtain⟨u,o,rfl,⟨t,rfl⟩,⟨m,rfl⟩⟩:=vals2 r;refine max_two_ints (I.ok.hd l) λn tk k=>jJ _ H (I.kept k) ?_ q;by_cases d:j>i;.rw[apB d,apB d];exact⟨_,rfl⟩
 .rw[apA d,apA d];exact⟨_,rfl⟩
def acS:bV X (.type "int") λd H Q=>(∃i,d=[.int i]/\Q (.int i) H)\/∃k,d=[.bl k]/\Q (.int (if k then 1 else 0)) H:=by
 intro e s σ H d g Q I r h;rcases h with⟨i,rfl,q⟩|⟨k,rfl,q⟩;.obtain⟨u,rfl,t,rfl⟩:=vals1 r;exact call_int_int ⟨.int i,H,I,⟨_,rfl⟩,q⟩
 .obtain⟨u,rfl,f⟩:=vals1 r;cases f;exact call_int_bool ⟨.int (if k then 1 else 0),H,I.tok _,⟨_,rfl⟩,q⟩
end
structure ObjM(h:Heap)(x dx C:Addr)(mA:Str->Option Value):Prop where
 obj:h.get? x=some (W.instObj C dx)ns:h.Ns1 dx mA
 ne:dx≠x
def tf{h:Heap}{dx d}(n:h.Ns1 dx d):∃od,h.get? dx=some od/\∀b,W.lookIn b od=some (d b):=by
 refine akW n λo f p g j k _ m=>?_;refine⟨o,g,λb=>?_⟩;have e:=m b;unfold nsFind findBy at e;rw[<-ase]at e;unfold W.lookIn;rw[j];dsimp ;split;.rename_i y q;rw[q]at e;exact aro _ e
 .rename_i q;rw[q]at e;have a:f.toList.any (·.refKey)=false:=by rw[List.any_eq_false];intro y i;obtain⟨z,t,c⟩:=k y (Array.mem_toList_iff.mp i);simp[DictEntry.refKey,c]
  have l:¬f.toList.any (·.refKey)=true:=by grind
  rw[apA l];exact aro _ e
def ObjM.look{h x dx C b}(I:ObjM h x dx C b):∃od,W.InstAt h x (W.instObj C dx) C (some od)/\∀a,W.lookIn a od=some (b a):=let⟨od,d,c⟩:=tf I.ns;⟨od,⟨I.obj,rfl,rfl,d⟩,c⟩
section
variable{prog:Program}{w:World}{A:Around}{E:Value->Shared->Prop}{s:Shared}{K:W.Frag}{x dx C f:Addr}{mA:Str->Option Value}{name:Str}{v:Value}
def get_map{a Q}(X:K.In s.heap)(I:ObjM s.heap x dx C mA)(e:W.plainGet K C name=true)(c:W.hasDictIn K C=true)(d:W.findIn K (.ref C) name=some none)(g:mA name=some v)(b:W.handedIn v=true)(h:Q v {s with toks:=s.toks+1}):wpAny (model prog w) A (getAttr (.ref x) name a) Q E s:=by obtain⟨od,J,i⟩:=I.look;exact W.get_value X J (W.plainGet_of e).1 (W.findObj_own c d rfl (by grind)) b h
def aeC{pl Q}(X:K.In s.heap)(I:ObjM s.heap x dx C mA)(a:W.plainGet K C name=true)(c:W.findIn K (.ref C) name=some (some (.ref f)))(e:W.isFn K (.ref f)=true)(b:mA name=none)(h:Q (.ref f,[.ref x]) s):wpAny (model prog w) A (getMethod (.ref x) name pl) Q E s:=by obtain⟨od,J,d⟩:=I.look;exact W.method_fn X J (W.plainGet_of a).1 (W.plainGet_of a).2 c (aqO.mp e) (by show(W.lookIn _ _).map _=some _;rw[d,b];rfl) h
def agM{ns Q}(X:K.In s.heap)(I:ObjM s.heap x dx C mA)(hs:W.findIn K (.ref C) "__setattr__"=some (some (.builtin "object.__setattr__")))(p:W.plainOver K C=true)(n:W.takerIn K C name=some none)(o:W.hasDictIn K C=true)(hw:PySem.Within mA ns)(hsz:ns.length<=sizeLine)(h:∀e,ObjM e x dx C (λy=>if y=name then some v else mA y)->Heap.SameBut dx s.heap e->Q () {s with heap:=e,toks:=s.toks+2}):wpAny (model prog w) A (setAttr (.ref x) name v) Q E s:=by refine fO I.look λod J t=>?_;refine W.set_plain X J hs (W.osa_open (s:={s with toks:=s.toks+1}) (r:=none) X J p n λb=>?_);refine fO (W.any_some o) λz m i=>?_;refine apu (apF (apu (apu (asa I.obj (apu (W.Looks.here (asj X m) ?_))))));rw[i];refine apF (a:=some dx) (apu (apF (apu ?_)));refine wpAny_nsSet1 I.ns λe c d=>?_;refine x8 (c.count (asp name v hw)) λu l q k j g=>?_;refine apu (asz k (by rw[j];exact asA (apD g (by rw[apK];omega))) ?_);exact apF (h _ ⟨(d.2 _ (apO I.ne)).trans I.obj,c,I.ne⟩ d)
def aec{R vs a}(X:K.In s.heap)(c:W.makesIn K C=true)(d:W.findIn K (.ref C) "__init__"=some (some (.ref f)))(b:W.typeIn K (.ref f)=some (.type "function"))(h:codeAny (model prog w) (A.under (.builtin "type.__call__" ⟨.ref C::vs,a⟩)) (.call (.ref f) ⟨.ref (s.heap.objs.size+1)::vs,a⟩) (W.InitBack (s.heap.objs.size+1) R) {s with heap:=(s.heap.push W.emptyDict).push (W.instObj C s.heap.objs.size)}):codeAny (model prog w) A (.call (.ref C) ⟨vs,a⟩) R s:=by exact W.make_core (W.makes_of X c) (W.looks_findIn X d) (λself=>W.bind_fn X _ b) (.inl rfl) h
end
noncomputable def pj(f:Str)(v:V):List (Str×V)->List (Str×V)|[]=>[(f,v)]|(g,x)::r=>if g=f then(g,v)::r else(g,x)::pj f v r
theorem nA(f g)(v):∀fs,(pj f v fs).lookup g=if g=f then some v else fs.lookup g
|[]=>by
 show List.lookup g [(f,v)]=_;by_cases h:g=f;.simp only[List.lookup,aqO.mpr h,apB h]
 .simp only[List.lookup,aqq.mpr h,apA h]|(k,x)::r=>by
  have c:=nA f g v r;rw[show pj f v ((k,x)::r)=if k=f then(k,v)::r else(k,x)::pj f v r from rfl];by_cases a:k=f
  .rw[apB a];by_cases h:g=k;.have b:(g==k)=true:=aqO.mpr h;simp only[List.lookup,b,apB (h.trans a)]
   .simp only[List.lookup,aqq.mpr h,apA λe:g=f=>h (e.trans a.symm)]
  .rw[apA a];by_cases h:g=k;.simp only[List.lookup,aqO.mpr h,apA λe:g=f=>a (h.symm.trans e)]
   .simp only[List.lookup,aqq.mpr h];exact c
theorem nC(f)(v):∀fs,f∈(pj f v fs).map (·.1)/\∀g,g∈fs.map (·.1)->g∈(pj f v fs).map (·.1)
|[]=>⟨by simp[pj],λg h=>by simp at h⟩|(k,x)::r=>by
  obtain⟨c,b⟩:=nC f v r;rw[show pj f v _=if k=f then(k,v)::r else(k,x)::pj f v r from rfl];by_cases a:k=f;.subst a;exact⟨by simp,λg h=>by simpa using h⟩
  .rw[apA a];refine⟨?_,λg h=>?_⟩;.exact apI _ c
   .rcases apJ.mp h with e|e;.exact apJ.mpr (.inl e)
    .exact apI _ (b g e)
theorem nB(f)(v):∀fs,(pj f v fs).length<=fs.length+1
|[]=>by simp[pj]|(k,x)::r=>by
 have b:=nB f v r;rw[show pj f v _=if k=f then(k,v)::r else(k,x)::pj f v r from rfl];by_cases a:k=f;.rw[apB a,apK,apK];omega
 .rw[apA a,apK,apK];omega
def ui.some_of{v o}(r:ui (some v) o):∃u,o=some u/\RelV v u:=by cases o with|none=>exact(r).elim|some u=>exact⟨u,rfl,r⟩
def ui.none_of{o}(r:ui none o):o=none:=by cases o with|none=>rfl|some u=>exact(r).elim
def tD{v u}(r:RelV v u):W.handedIn u=true:=by cases v with|non|bl b=>cases r;rfl|int i|str x|byt b|flt b=>obtain⟨t,e⟩:=r;cases e;rfl|ref a|ty n=>cases r;rfl
section
variable{P:Program}{w:World}{H H':Hp}{h h':Heap}{a C dx:Addr}{fs fs':List (Str×V)}
def qN(c:HOk P w H h)(e:H a=some (.ins C dx fs)):∃b,ObjM h a dx C b/\(∀f,ui (fs.lookup f) (b f))/\PySem.Within b (fs.map (·.1))/\fs.length<=1000/\H dx=some (.own a):=by obtain⟨d,z,g,ob,b,n,r,q⟩:=c a _ e;exact⟨b,⟨ob,n,g⟩,r,q,z,d⟩
end
structure Cls(K:W.Frag)(C:Addr):Prop where
 pg:W.plainGet K C Str.empty=true
 hd:W.hasDictIn K C=true
 po:W.plainOver K C=true
 sa:W.findIn K (.ref C) "__setattr__"=some (some (.builtin "object.__setattr__"))
def Cls.get{K C}(c:Cls K C)(f):W.plainGet K C f=true:=c.pg
def fA(K:W.Frag)(C:Addr)(f:Str):Prop:=W.findIn K (.ref C) f=some none
def fA.amb{K C f}(n:fA K C f):W.takerIn K C f=some none:=by unfold W.takerIn;rw[n];rfl
structure Meth(K:W.Frag)(C:Addr)(m:Str)(f:Addr):Prop where
 at_:W.findIn K (.ref C) m=some (some (.ref f))fn:W.isFn K (.ref f)=true
 kp:W.keepIn K (.ref f)=true
section
variable{X:Cx}{pins:List (Addr×Obj)}{σ:St}{H:Hp}{s:Shared}{a C dx:Addr}{fs:List (Str×V)}{f:Str}{v:V}{A:Around}{E:Value->Shared->Prop}
def zi{b Q}(I:Inv X pins σ H s)(e:H a=some (.ins C dx fs))(c:Cls X.K C)(n:fA X.K C f)(l:fs.lookup f=some v)(h:∀u g,Inv X pins σ H g->RelV v u->Q u g):wpAny (model X.prog X.w) A (getAttr (.ref a) f b) Q E s:=by obtain⟨i,O,r,_,_,_⟩:=qN I.hok e;obtain⟨u,j,d⟩:=ui.some_of (v:=v) (o:=i f) (by grind);exact get_map I.kIn O (c.get f) c.hd n j (tD d) (h u _ (I.tok _) d)
def zh{m g pl Q}(I:Inv X pins σ H s)(e:H a=some (.ins C dx fs))(c:Cls X.K C)(k:Meth X.K C m g)(l:fs.lookup m=none)(h:Q (.ref g,[.ref a]) s):wpAny (model X.prog X.w) A (getMethod (.ref a) m pl) Q E s:=by obtain⟨b,O,r,_,_,_⟩:=qN I.hok e;exact aeC I.kIn O (c.get m) k.at_ k.fn (ui.none_of (by grind)) h
def yz{y u Q}(I:Inv X pins σ H s)(e:H a=some (.ins C dx fs))(c:Cls X.K C)(n:fA X.K C f)(K:fs.length<1000)(w:RelV y u)(h:∀i,Inv X pins σ (upd H a (.ins C dx (pj f y fs))) i->Q () i):wpAny (model X.prog X.w) A (setAttr (.ref a) f u) Q E s:=by
 obtain⟨l,O,r,k,_,j⟩:=qN I.hok e;have B:(fs.map (·.1)).length<=sizeLine:=by rw[apR,arQ];omega
 refine agM I.kIn O c.sa c.po n.amb c.hd k B λm d D=>h _ ?_;have t:∃o,m.get? dx=some o:=let⟨o,_,_,p,_⟩:=d.ns;⟨o,p⟩;refine I.write (x:=a) (e:=dx) (by rw[e];exact True.intro) (.inr j) (λb q J z=>(D.2 b J).trans z) t ⟨by rw[ak O.ne];exact j,?_,O.ne,d.obj,_,d.ns,λg=>?_,λg G=>?_⟩;.have:=nB f y fs;omega
 .rw[nA];by_cases q:g=f;.rw[apB q,apB q];exact w
  .rw[apA q,apA q];exact r g
 .by_cases q:g=f;.rw[q];exact(nC f y fs).1
  .refine(nC f y fs).2 g (k g λz=>G ?_);show(if g=f then some u else l g)=none;rw[apA q];exact z
def Inv.made(I:Inv X pins σ H s):Inv X pins σ (upd (upd H s.heap.objs.size (.own (s.heap.objs.size+1))) (s.heap.objs.size+1) (.ins C s.heap.objs.size [])) {s with heap:=(s.heap.push W.emptyDict).push (W.instObj C s.heap.objs.size)}:=by
 have d:(s.heap.push W.emptyDict).get? s.heap.objs.size=some W.emptyDict:=apL s.heap rfl;have i:=by have:=apL (s.heap.push W.emptyDict) (o:=W.instObj C s.heap.objs.size) rfl;rwa[aqS]at this
 have j:=I.laid (o:=.own (s.heap.objs.size+1)) (t':=s.toks) (λb u q=>apw _ q) (apG _) ⟨_,d⟩;refine j.laid  (λb u q=>apw _ q) (Nat.le_of_eq (aqS _ _)) ?_;have c:s.heap.objs.size≠s.heap.objs.size+1:=apM (aqT _);refine⟨by rw[ak c,av],ap9 _,c,i,_,(asq (rE W.emptyDict #[] _ d rfl (λe g=>absurd g (by simp)) λ_=>rfl)).at λo q=>apw _ q,λ_=>True.intro,λy h=>absurd rfl h⟩
def acW{prog w b e f pos s Q}(d:attributeBase e f b (eval e b)=eval e b)(h:wpAny (model prog w) A (eval e b) (λo c=>wpAny (model prog w) A (getAttr o f true) Q E c) E s):wpAny (model prog w) A (eval (.Attribute e f pos) b) Q E s:=Attribute_any_ h (by rw[arm_eval_Attribute,d])
end
def aon(K:W.Frag)(ta:TE)(f:Str):TE:=λσ H Q=>ta σ H λx b=>∃a C c fs v,x=.ref a/\b a=some (.ins C c fs)/\Cls K C/\fA K C f/\fs.lookup f=some v/\Q v b
def ak9(K:W.Frag)(ta tv:TE)(f:Str):TS:=λD σ H=>tv σ H λy d=>ta σ d λx b=>∃a C c fs,x=.ref a/\b a=some (.ins C c fs)/\Cls K C/\fA K C f/\fs.length<1000/\D.nx σ (upd b a (.ins C c (pj f y fs)))
section
variable{X:Cx}{o e value:Expr}{f:Str}{pos pos' tpos:Pos}{ta tv:TE}
def afI(p:PE X e ta)(m:attributeBase e f X.env (eval e X.env)=eval e X.env):PE X (.Attribute e f pos) (aon X.K ta f):=by intro b s σ H Q I h;refine acW m (thn (p _ s σ H _ I h) λu t⟨x,d,i,k,a,C,w,fs,v,ex,j,c,n,l,q⟩=>?_);subst ex;obtain rfl:=k;exact zi i j c n l λy z r g=>⟨v,d,r,g,q⟩
def abc(r:PE X o ta)(k:PE X value tv)(hs:swapsWith value (some (.Attribute o f pos')) pos.line X.env=pure false):PS X (.Assign [.Attribute o f pos'] value pos) (ak9 X.K ta tv f):=by intro b s σ H D I h;refine aq8 (thn (k _ s σ H _ I h) λu B⟨y,A,j,i,q⟩=>thn (r _ _ σ _ _ j q) λE v⟨x,w,t,p,a,C,z,fs,ex,m,c,n,l,g⟩=>?_) hs;subst ex;obtain rfl:=p;exact yz t m c n l i λG d=>⟨σ,_,d,g⟩
end
section
variable{X:Cx}{pins:List (Addr×Obj)}{σ:St}{H:Hp}{s:Shared}{A:Around}{E:Value->Shared->Prop}{Q:Value->Shared->Prop}{c:Value}{b:Bool}
inductive TyOf(K:W.Frag)(H:Hp):V->Value->Prop where|non:TyOf K H .non (.type "NoneType")|bl(x:Bool):TyOf K H (.bl x) (.type "bool")|int(i:Int):TyOf K H (.int i) (.type "int")|str(x:Str):TyOf K H (.str x) (.type "str")|flt(x:UInt64):TyOf K H (.flt x) (.type "float")|lst{a:Addr}{xs:List V}(e:H a=some (.lst xs)):TyOf K H (.ref a) (.type "list")|frz{a:Addr}{o:Obj}{xs:List V}(e:H a=some (.frz o (.lst xs))):TyOf K H (.ref a) (.type "list")|tup{a:Addr}{xs:List V}(e:H a=some (.tup xs)):TyOf K H (.ref a) (.type "tuple")|dK{a:Addr}{kvs:List (Key×V)}(e:H a=some (.dK kvs)):TyOf K H (.ref a) (.type "dict")|dT{a:Addr}{kvs:List (List Key×V)}(e:H a=some (.dT kvs)):TyOf K H (.ref a) (.type "dict")|ins{a C dx:Addr}{fs:List (Str×V)}(e:H a=some (.ins C dx fs))(cl:Cls K C)(ha:W.findIn K (.ref C) "__class__"=some (some (.builtin "object.__class__")))(hn:W.specialIn K (.builtin "object.__class__") "__get__"=some (some (.builtin "getset_descriptor.__get__")))(htk:W.takesIn K (.builtin "object.__class__")=some true)(hm:W.mroIn K C (.type "object")=some true):TyOf K H (.ref a) (.ref C)
def abV{x u t}(I:Inv X pins σ H s)(d:RelV x u)(ty:TyOf X.K H x t)(e:W.kitOne X.K t c=some b)(h:∀tk,Q (.bool b) {s with toks:=tk}):wpAny (model X.prog X.w) A (call (.builtin "isinstance") [u,c]) Q E s:=by cases ty with|non=>cases show u=Value.none from d;exact aqI W.kitx_none I.kIn True.intro e (λz=>nomatch z) h|bl y=>cases show u=Value.bool y from d;exact aqI W.kitx_bool I.kIn True.intro e (λz=>nomatch z) h|int i=>obtain⟨t,q⟩:=show∃t,u=Value.int i t from d;cases q;exact aqI W.kitx_int I.kIn True.intro e (λz=>nomatch z) h|str y=>obtain⟨t,q⟩:=show∃t,u=Value.str y t from d;cases q;exact aqI W.kitx_str I.kIn True.intro e (λz=>nomatch z) h|flt y=>obtain⟨t,q⟩:=show∃t,u=Value.float y t from d;cases q;exact aqI W.kitx_float I.kIn True.intro e (λz=>nomatch z) h|@lst a j ea=>cases show u=Value.ref a from d;obtain⟨_,_,n,_,f⟩:=I.hok a _ ea;exact aqI asR I.kIn ⟨_,f,rfl⟩ e (λz=>nomatch z) h|@frz a ob j ea=>cases show u=Value.ref a from d;obtain⟨_,_,_,n,_,f⟩:=I.hok a _ ea;exact aqI asR I.kIn ⟨_,f,rfl⟩ e (λz=>nomatch z) h|@tup a j ea=>cases show u=Value.ref a from d;obtain⟨_,_,_,p⟩:=show dH X.prog X.w H s.heap a (.tup j)from I.hok a _ ea;refine jK p λo f g _=>?_;exact aqI W.kitx_tuple I.kIn ⟨o,f,g⟩ e (λz=>nomatch z) h|@dK a kvs ea=>cases show u=Value.ref a from d;obtain⟨_,_,r,_,p⟩:=I.hok a _ ea;refine x8 p λo l k f g _=>?_;exact aqI W.kitx_dict I.kIn ⟨o,f,g.1⟩ e (λz=>nomatch z) h|@dT a kvs ea=>cases show u=Value.ref a from d;obtain⟨_,_,j,_,o,l,k,f,g,_⟩:=show dH X.prog X.w H s.heap a (.dT kvs)from I.hok a _ ea;exact aqI W.kitx_dict I.kIn ⟨o,f,g.1⟩ e (λz=>nomatch z) h|@ins a C dx fs ea cl ha hn htk hm=>cases show u=Value.ref a from d;refine fO (qN I.hok ea) λm O _=>?_;obtain⟨od,J,_⟩:=O.look;exact aqI (W.kitx_own (cl.get _) cl.hd ha hn htk hm) I.kIn J e (λz=>nomatch z) h
end
structure Room(k:Nat)(A:Around):Prop where
 hd:40<=k->A.handled=none
 dp:A.depth+3*k+5<recursionLimit
 un:A.units+16*k+200<cLine
 gd:A.guards=some []
def Room.mono{j k A}(r:Room k A)(h:j<=k):Room j A:=⟨λz=>r.hd (by omega),by have:=r.dp;omega,by have:=r.un;omega,r.gd⟩
theorem Room.deeper{k A}(r:Room (k+1) A)(a):Room k (A.deeper a):=⟨λz=>r.hd (by omega),by have:=r.dp;show A.depth+1+3*k+5<_;omega,by have:=r.un;show A.units+3+16*k+200<_;omega,r.gd⟩
def zb{A:Around}{C us a}:(A.under (.builtin "type.__call__" ⟨.ref C::us,a⟩)).depth=A.depth+1:=by rfl
def za{A:Around}{C us a}:(A.under (.builtin "type.__call__" ⟨.ref C::us,a⟩)).units=A.units+1:=rfl
def Room.make{k A}(r:Room (k+1) A)(C)(us)(a):Room k (A.under (.builtin "type.__call__" ⟨.ref C::us,a⟩)):=⟨λz=>r.hd (by omega),by have:=r.dp;rw[zb];omega,by have:=r.un;rw[za];omega,r.gd⟩
def Room.calm{k}{A:Around}{a}(r:Room k (A.deeper a))(h:40<=k):A.handled.isNone=true:=by rw[show A.handled=none from r.hd h];rfl
def Room.sui{k A v}(r:Room k A)(h:39<=k):Room 39 (A.mark v):=⟨λz=>by omega,by have:=r.dp;show A.depth+3*39+5<_;omega,by have:=r.un;show A.units+16*39+200<_;omega,r.gd⟩
theorem Room.depth{k A}(r:Room k A):A.depth<recursionLimit:=by have:=r.dp;omega
theorem Room.units{k A}(r:Room k A):A.units+64<cLine:=by have:=r.un;omega
def aaE:TA:=λ_ H Q=>Q [] H
def ji(ta:TE)(c:TA):TA:=λσ H Q=>ta σ H λx a=>c σ a λb d=>Q (x::b) d
section
variable{X:Cx}{e:Expr}{es:List Expr}{te:TE}{t:TA}{pos:Pos}
def eF:PA X [] aaE:=λ_ _ _ _ H Q I h=>Calls.spliced_nil ⟨[],H,I,.nil,h⟩
def bM(i:PE X e te)(c:PA X es t)(hs:SE X e es:=by rfl):PA X (e::es) (ji te t):=by intro pos a s σ H Q I h;rw[hs];exact Calls.spliced_cons (thn (i _ s σ H _ I h) λu n⟨x,m,f,g,d⟩=>thn (c _ _ _ σ _ _ f d) λq p⟨o,k,j,l,b⟩=>jJ _ k j (.cons g l) b)
def ao5(t:TA):TE:=λσ H Q=>t σ H λb a=>b.length<=sizeLine/\∀p,a p=none->Q (.ref p) (upd a p (.tup b))
def aok(t:TA):TE:=λσ H Q=>t σ H λb a=>b.length<=sizeLine/\∀p,a p=none->Q (.ref p) (upd a p (.lst b))
def afG{d}(h:PA X es t):PE X (.Tuple es d pos) (ao5 t):=by intro a s σ H Q I f;refine wpAny_Tuple_spliced (thn (h _ _ s σ H _ I f) λg j⟨k,i,c,r,z,q⟩=>⟨by rw[<-r.length];exact z,.ref _,_,c.laid (λb u e=>apw _ e) (apG _) ?_,rfl,q _ (c.hok.fresh (apG _))⟩);exact⟨z,g,r,⟨_,apL _ rfl,rfl,_,rfl⟩⟩
def abi(h:PA X es t):PE X (.List es pos) (aok t):=by intro a s σ H Q I d;refine wpAny_List_spliced (thn (h _ _ s σ H _ I d) λf i⟨j,g,c,r,z,q⟩=>⟨by rw[<-r.length];exact z,.ref _,_,c.laid (λb u e=>apw _ e) (apG _) ?_,rfl,q _ (c.hok.fresh (apG _))⟩);exact⟨z,f,0,r,apL _ rfl⟩
end
abbrev Sp:=List V->Hp->VK->XK->Prop
abbrev CXT:=List Env->Hp->Shared->XK->Value->Shared->Prop
structure Env0(P:Program)(w:World)(K:W.Frag)(mg:Str->Option Value)(base:Heap)(A:Around)(outer:List Env)(s:Shared)(H:Hp):Prop where
 frames:A.frames=some outer
 mod:Mod K mg base
 bs:∀b o,base.get? b=some o->s.heap.get? b=some o/\H b=none
 bsz:base.objs.size<=s.heap.objs.size
 rC:s.heap.FunFrames base outer
 frf:∀b∈frs outer,H b=none
 hok:HOk P w H s.heap
 bare:AllBare s.gens
def CE(a:List Env)(P:Program)(w:World)(H:Hp)(s:Shared)(Q:VK)(u:Value)(s':Shared):Prop:=∃v b,s'.os=s.os/\AllBare s'.gens/\Un (frs a) [] H b s.heap s'.heap/\HOk P w b s'.heap/\RelV v u/\Q v b
def CR(CX:CXT)(a:List Env)(P:Program)(w:World)(H:Hp)(s:Shared)(Q:VK)(E:XK)(r:Result)(s':Shared):Prop:=match r with|.ok (.ret u)=>CE a P w H s Q u s'|.ok _=>False|.error e=>CX a H s E e s'
structure FnOk(P:Program)(w:World)(K:W.Frag)(mg:Str->Option Value)(base:Heap)(CX:CXT)(k:Nat)(f:Addr)(fd:FuncData)(ps:List Str)(sp:Sp)(hn:Around->Hp->Prop:=λ_ _=>True):Prop where
 len:∀vs H Q E,sp vs H Q E->vs.length=ps.length
 run:∀(A:Around)(outer:List Env)(s:Shared)(H:Hp)(args:Args)(us:List Value)(vs:List V)(Q:VK)(E:XK),Room k A->hn A H->Env0 P w K mg base A outer s H->BindsTo s fd args (ps.zip us)->Vals vs us->sp vs H Q E->codeAny (model P w) A (.call (.ref f) args) (CR CX outer P w H s Q E) s
theorem FnOk.mono{P:Program}{w:World}{K:W.Frag}{d:Str->Option Value}{a:Heap}{CX:CXT}{j k:Nat}{f:Addr}{e:FuncData}{ps:List Str}{sp:Sp}(F:FnOk P w K d a CX j f e ps sp)(h:j<=k):FnOk P w K d a CX k f e ps sp:=⟨F.len,λA b s H c l g Q E i=>F.run A b s H c l g Q E (i.mono h)⟩
def FnOk.imp{P w K g a CX k f i ps sp b}(F:FnOk P w K g a CX k f i ps sp)(h:∀c H Q E,b c H Q E->sp c H Q E):FnOk P w K g a CX k f i ps b:=⟨λc H Q E q=>F.len _ H Q E (h _ _ _ _ q),λA d s H e r c Q E m j o p n l=>F.run A _ s H _ _ _ Q E m j o p n (h _ _ _ _ l)⟩
def Env0.make{P w K c b A a s H}(e:Env0 P w K c b A a s H)(C)(us)(d):Env0 P w K c b (A.under (.builtin "type.__call__" ⟨.ref C::us,d⟩)) a s H:=⟨by exact e.frames,e.mod,e.bs,e.bsz,e.rC,e.frf,e.hok,e.bare⟩
section
variable{X:Cx}{pins:List (Addr×Obj)}{σ:St}{H:Hp}{s s':Shared}
def Inv.alH(I:Inv X pins σ H s):Env0 X.prog X.w X.K X.mg X.base X.A X.stack s H:=⟨I.ok.frames,I.ok.mod,I.bs,apD I.ok.bsz I.sz,I.stack,I.uz,I.hok,I.bare⟩
def Inv.after{Q u}(I:Inv X pins σ H s)(h:CE X.stack X.prog X.w H s Q u s'):EP X pins σ Q u s':=by refine akX h λv f os a un c r q=>?_;obtain⟨i,g,d,t,e⟩:=s';obtain rfl:=os;exact jJ v f (I.call   un c a λb z=>absurd z (by simp)) r q
end
def yu(sp:Sp)(a:List V)(E:XK)(t:TA):TE:=λσ H Q=>t σ H λc b=>sp (c++a) b Q E
def Binds(K:W.Frag)(c:FuncData)(ps:List Str)(b:List Value):Prop:=∀(s:Shared)(a:List Value),K.In s.heap->(a++b).length=ps.length->BindsTo s c ⟨a,[]⟩ (ps.zip (a++b))
def Binds.all{K c ps}(h:∀a,a.length=ps.length->bindArgs c ⟨a,[]⟩=pure (ps.zip a)):Binds K c ps []:=λs a _ b=>by rw[aqf]at b⊢;exact .of_eq (h _ b)
def Passes(CX:CXT)(X:Cx)(E:XK):Prop:=∀(a:List (Addr×Obj))(σ:St)(H:Hp)(s:Shared)(e:Value)(b:Shared),Inv X a σ H s->CX X.stack H s E e b->X.xe e b
section
variable{X:Cx}{CX:CXT}{k:Nat}{f C:Addr}{fd:FuncData}{ps:List Str}{sp:Sp}{dvs:List V}{ds:List Value}{E:XK}{x m:Str}{p pos apos:Pos}{e o:Expr}{es:List Expr}{ta:TE}{t:TA}
def afu{b pins}{σ:St}{H s Q us vs}(F:FnOk X.prog X.w X.K X.mg X.base CX k f fd ps sp b)(g:Room k X.A)(l:Binds X.K fd ps ds)(i:Vals dvs ds)(n:Passes CX X E)(I:Inv X pins σ H s)(r:Vals vs us)(h:sp (vs++dvs) H Q E)(d:b X.A H:=by exact trivial):wpAny (model X.prog X.w) X.A (call (.ref f) us) (EP X pins σ Q) X.xe s:=by
 have c:=r.append i;have j:(us++ds).length=ps.length:=by rw[<-c.length];exact F.len _ _ _ _ h
 refine arp (arA (F.run _ _ s H _ _ _ Q E g d I.alH (l s _ I.kIn j) c h) λr q a=>?_);cases r with|error e=>exact n _ σ H s e _ I a|ok fl=>cases fl with|ret u=>exact I.after a|next|brk|cont=>exact False.elim a
def qq(F:FnOk X.prog X.w X.K X.mg X.base CX k f fd ps sp)(g:Room k X.A)(w:Gl X x)(v:X.mg x=some (.ref f))(j:W.keepIn X.K (.ref f)=true)(u:Binds X.K fd ps ds)(i:Vals dvs ds)(y:Passes CX X E)(n:PA X (e::es) t)(a:Dbg x:=by decide)(l:SE X e es:=by rfl)(b:BT X pos es:=by rfl):PE X (.Call (.Name x p) (e::es) [] pos) (yu sp dvs E t):=by intro c s σ H Q I h;exact aqU (gF I w v (asB I.ok.mod.kin j (thn (n _ _ s σ H _ I h) λD B⟨A,z,d,r,q⟩=>⟨d.kIn,afu F g u i y d r q⟩) l b) a)
def adZ(F:FnOk X.prog X.w X.K X.mg X.base CX k f fd ps sp)(c:Room k X.A)(j:Gl X x)(i:X.mg x=some (.ref f))(g:W.keepIn X.K (.ref f)=true)(n:Binds X.K fd ps ds)(d:Vals dvs ds)(l:Passes CX X E)(a:Dbg x:=by decide):PE X (.Call (.Name x p) [] [] pos) (yu sp dvs E aaE):=by intro b s σ H Q I h;exact aqU (gF I j i (W.callWith_K0 I.kIn g (afu F c n d l I .nil h)) a)
structure Mk(K:W.Frag)(C f:Addr):Prop where
 makes:W.makesIn K C=true
 init:W.findIn K (.ref C) "__init__"=some (some (.ref f))fn:W.isFn K (.ref f)=true
 kp:W.keepIn K (.ref C)=true
end
structure FnScope(N P:List Str)(sc:Scope):Prop where
 kind:sc.kind=.function
 co:sc.isCoroutine=false
 gen:sc.isGenerator=false
 nd:N.Nodup
 pre:N.take P.length=P
 par:∀x∈P,sc.names.lookup x=some .local\/sc.names.lookup x=some .cell
 nofree:∀y∈sc.names,y.2≠.free
theorem t7{kindOf x}:∀{binds m},(∀v,(x,v)∉binds)->bindL kindOf binds m x=m x
|[],_,_=>rfl|(n,v)::r,m,h=>by
 unfold bindL;rw[t7 λw hw=>h w (apI _ hw)];split
 .have:x≠n:=by grind
  simp[this]
 .rfl
theorem t9{kindOf x}:∀{binds m},(∀v,(x,v)∉binds)->bindC kindOf binds m x=m x
|[],_,_=>rfl|(n,v)::r,m,h=>by
 unfold bindC;rw[t9 λw hw=>h w (apI _ hw)];split;.rfl
 .have:x≠n:=by grind
  simp[this]
theorem t8{kindOf:Str->Option NameKind}{x:Str}{v:Value}:∀{P:List Str}{vs:List Value}{i:Nat}{m:Str->Option Value},P.Nodup->P[i]?=some x->vs[i]?=some v->kindOf x=some .local->bindL kindOf (P.zip vs) m x=some v|[],_,_,_,_,h,_,_=>by simp at h|_::_,[],_,_,_,_,h,_=>by simp at h|p::P,w::vs,0,m,nd,h1,h2,hk=>by simp at h1 h2;subst h1;subst h2;show bindL kindOf ((p,w)::P.zip vs) m p=_;unfold bindL;rw[t7 λv a=>(aqz.mp nd).1 (asM a).1,apB hk];simp|p::P,w::vs,i+1,m,nd,h1,h2,hk=>by show bindL kindOf ((p,w)::P.zip vs) m x=_;unfold bindL;exact t8 (i:=i) (aqz.mp nd).2 (by simpa using h1) (by simpa using h2) hk
theorem ua{kindOf x v}:∀{P:List Str}{vs}{i:Nat}{m},P.Nodup->P[i]?=some x->vs[i]?=some v->kindOf x≠some .local->bindC kindOf (P.zip vs) m x=some v|[],_,_,_,_,h,_,_=>by simp at h|_::_,[],_,_,_,_,h,_=>by simp at h|p::P,w::vs,0,m,nd,h1,h2,hk=>by simp at h1 h2;subst h1;subst h2;show bindC kindOf ((p,w)::P.zip vs) m p=_;unfold bindC;rw[t9 λv a=>(aqz.mp nd).1 (asM a).1,apA hk];simp|p::P,w::vs,i+1,m,nd,h1,h2,hk=>by unfold bindC;exact ua (i:=i) (aqz.mp nd).2 (by simpa using h1) (by grind) hk
noncomputable def start(N:List Str)(vs:List V):St:=vs.map some++List.replicate (N.length-vs.length) none
noncomputable def ky(CX:CXT)(P:Program)(w:World)(K:W.Frag)(mg:Str->Option Value)(base:Heap)(N:List Str)(qual:Str)(scope:Scope)(f:Addr)(cd:Value)(A:Around)(outer:List Env)(s:Shared)(H:Hp)(E:XK):Cx where prog:=P;w:=w;K:=K;mg:=mg;base:=base;A:=A.deeper (envOfC qual scope s.heap.objs.size f cd);N:=N;s₀:=s;H₀:=H;env:=envOfC qual scope s.heap.objs.size f cd;outer:=outer;stack:=envOfC qual scope s.heap.objs.size f cd::outer;ex:=[];calm:=A.handled.isNone;fn:=λ_=>true;pn:=[];xe:=λe s'=>wpAny (model P w) (A.deeper (envOfC qual scope s.heap.objs.size f cd)) (leaving (envOfC qual scope s.heap.objs.size f cd) e) (λ_ s''=>CX outer H s E e s'') (λe' s''=>CX outer H s E e' s'') s'
def xY{a:Scope}{n x}(h:a.names.lookup x=some .cell):∃c,(cellsFrom n a.names []).lookup x=some c:=by exact aqr.mp (W.cellsFrom_some _ n _ (.inl h))
def abX{CX P w K J l N ps g scope f G A d s O H E us vs}(S:FnScope N ps scope)(m:Env0 P w K J l A d s H)(Z:vs.length=ps.length)(r:Vals vs us)(x:InCallC s s.heap.objs.size (bindL (envOfC g scope s.heap.objs.size f G).kindOf (ps.zip us) λ_=>none) (cellsFrom (s.heap.objs.size+1) scope.names []) (bindC (envOfC g scope s.heap.objs.size f G).kindOf (ps.zip us) λ_=>none) O):Inv (ky CX P w K J l N g scope f G A d s H E) [] (start N vs) H O:=by
 have U:ps.length<=N.length:=by have:=aro List.length S.pre;rw[asC]at this;omega
 refine eg x.done λD tk M Q=>?_;subst M;have o:∀b:Addr,b ∉(ky CX P w K J l N g scope f G A d s H E).ex:=λb z=>absurd (show b∈([]:List Addr)from z) (by simp);refine⟨⟨m.mod,S.kind,rfl,rfl,apG _,λy z c D j=>?_,λy t=>?_,λy c _ h=>?_,λz=>Option.isNone_iff_eq_none.mp z,Around.frames_deeper m.frames,.inr ⟨rfl,rfl⟩,λb z=>absurd z (o b),m.bs,m.bsz,λb _ _=>o b,λb z=>absurd z (o b),m.rC,m.frf⟩,rfl,m.bare,Un.kept Q,⟨_,x.toInCall.ns,λi y v D j Y=>?_⟩,λy c h=>⟨_,x.cell y c h⟩,m.hok.fresh (apG _),λy c h=>?_,λp B=>absurd (show p∈([]:List (Addr×Obj))from B) (by simp),m.hok.kept Q,?_⟩;.exact name_of_addr x.apart (aqj D) (aqj j)
 .rcases t with t|t;.exact xY t
  .exact absurd rfl (S.nofree _ (aqj t))
 .exact arX (x.above y c (aqj h))
 .have I:i<vs.length:=by
   unfold start at j;by_cases I:i<vs.length;.exact I
   .rw[aql (by simpa using I)]at j;rw[aqQ]at j;split at j<;>cases j
  have X:vs[i]?=some v:=by unfold start at j;rw[aqp (by simpa using I),apX]at j;cases e:vs[i]? with|none=>rw[e]at j;cases j|some a=>rw[e]at j;cases j;rfl
  refine fO (r.get X) λu R T=>?_;have B:ps[i]?=some y:=by rw[<-S.pre,List.getElem?_take_of_lt (by omega)];exact D
  have C:ps.Nodup:=by rw[<-S.pre];exact S.nd.sublist (List.take_sublist _ _)
  refine⟨u,T,?_⟩;rcases S.par y (arY B)with k|k;.exact .inl ⟨k,t8 C B R k⟩
  .obtain⟨c,e⟩:=xY (n:=s.heap.objs.size+1) k;refine .inr ⟨.inl k,c,e,?_⟩;have q:=x.cell y c e;rw[ua C B R (by show scope.names.lookup y≠_;rw[k];decide)]at q;exact q
 .exact m.hok.fresh (arX (x.above y c (aqj h)))
 .unfold start;show _=N.length;rw[aqc,apR,ari];omega
def ahz{CX P w K M g k f name c h i scope dV kV G Z d ct oc an od T N ps sp}(lk:K.lookup f=some ⟨oc,od,.func (W.fnOf name c h i scope dV kV G Z an d ct),T⟩)(O:W.codeIn K d c=true)(S:FnScope N ps scope)(len:∀l H Q E,sp l H Q E->l.length=ps.length){Y}(z:∀A a s H l Q E,Room k (A.deeper (envOfC c scope s.heap.objs.size f d))->Y A H->sp l H Q E->∃t,PSs (ky CX P w K M g N c scope f d A a s H E) i t/\t {nx:=λ_ m=>Q .non m,rt:=Q} (start N l) H):FnOk P w K M g CX (k+1) f (W.fnOf name c h i scope dV kV G Z an d ct) ps sp Y:=by
 refine⟨len,λA a s H X us l Q E hr hN C hb r D=>?_⟩;have KX:K.In s.heap:=C.mod.kin.keeps λb o e=>(C.bs b o e).1;have lim:s.heap.NoLimit:=C.mod.nolimit.keeps λb o e=>(C.bs b o e).1;have p:∀y∈ps.zip us,scope.names.lookup y.1=some .local\/scope.names.lookup y.1=some .cell/\((cellsFrom (s.heap.objs.size+1) scope.names []).lookup y.1).isSome=true:=λ⟨n,v⟩hy=>by
  rcases S.par n (asM hy).1 with q|q;.exact .inl q
  .exact .inr ⟨q,W.cellsFrom_some _ _ _ (.inl q)⟩
 refine codeAny_call_function hr.depth (KX _ _ lk) rfl S.co S.gen rfl (W.codeRec_of KX O) (hb _ _ _ _ ?_);refine wpAny_newFunctionEnv_cells S.kind p λa0 he s1 x=>?_;subst he;refine⟨lim.keeps x.toInCall.keep,codeAny_func ?_⟩;refine fO (z A a s H l Q E (hr.deeper _) hN D) λt ht hq=>?_;have I:Inv (ky CX P w K M g N c scope f d A a s H E) [] (start N l) H s1:=abX S C (len _ _ _ _ D) r x;refine apZ (ht [] s1 (start N l) H _ I hq) (λfl R B=>?_) λe R B=>B;have fin:∀{j:St}{m:Hp}{v:V}{u:Value},Inv (ky CX P w K M g N c scope f d A a s H E) [] j m R->RelV v u->Q v m->CE a P w H s Q u R:=λ{j m v u}J U q=>aiw v m J.os J.bare J.base J.hok U q;cases fl with|ret u=>refine x8 B λv j m J U q=>?_;exact fin J U q|next=>obtain⟨j,m,J,q⟩:=B;exact fin (v:=V.non) (u:=Value.none) J rfl q|brk=>obtain⟨_,_,_,q⟩:=B;exact False.elim q|cont=>obtain⟨_,_,_,q⟩:=B;exact False.elim q
section
variable{X:Cx}{x:Str}{p pos:Pos}{e:Expr}{es:List Expr}{t:TA}{id T:String}{r:List V->Hp->VK->Prop}
def tCB(r:List V->Hp->VK->Prop)(t:TA):TE:=λσ H Q=>t σ H λb a=>r b a Q
def adY(d:bV X (.builtin id) r)(o:Gl X x)(n:X.mg x=none)(j:bootBuiltins x=some (.builtin id))(m:PA X (e::es) t)(f:x≠"__name__":=by decide)(a:Dbg x:=by decide)(l:SE X e es:=by rfl)(b:BT X pos es:=by rfl):PE X (.Call (.Name x p) (e::es) [] pos) (tCB r t):=by intro c s σ H Q I h;exact aqU (j9 I o n j (arZ (thn (m _ _ s σ H _ I h) λw v⟨u,q,i,k,g⟩=>d _ _ σ _ _ _ Q i k g) l b) f a)
def mW(d:bV X (.type T) r)(o:Gl X x)(n:X.mg x=none)(j:bootBuiltins x=some (.type T))(m:PA X (e::es) t)(f:x≠"__name__":=by decide)(a:Dbg x:=by decide)(l:SE X e es:=by rfl)(b:BT X pos es:=by rfl):PE X (.Call (.Name x p) (e::es) [] pos) (tCB r t):=by intro c s σ H Q I h;exact aqU (j9 I o n j (aqk (thn (m _ _ s σ H _ I h) λw v⟨u,q,i,k,g⟩=>d _ _ σ _ _ _ Q i k g) l b) f a)
end
end L2
namespace HT
open PySem PyProof.Rows
section
open PySem.SeqAt
open PySem.AutoSeq1(wpAny_loadPart')
open PySem.MeetsSeq PySem.MeetsSeq2 PySem.MeetsSeq3
end
section
variable{prog:Program}{w:World}{A:Around}{E:Value->Shared->Prop}{s:Shared}
def ahR{t b:Addr}{vs ws:List Value}{Q:Value->Shared->Prop}(q:IsTup s.heap t vs.toArray)(r:IsTup s.heap b ws.toArray)(m:vs≠[])(p:ws=[]->Q (.ref t) s)(u:ws≠[]->Q (.ref s.heap.objs.size) {s with heap:=s.heap.push {cls:=.type "tuple",data:=.seq (vs++ws).toArray}})(hsz:vs.length+ws.length<=sizeLine):wpAny (model prog w) A (binaryOp .Add (.ref t) (.ref b)) Q E s:=by
 obtain⟨⟨cls,dd,data,l⟩,h,i,n,k⟩:=id q;obtain⟨⟨j,g,data2,d⟩,a,c,o,f⟩:=id r;simp only at i k c f;subst i k c f;have e:vs.toArray++ws.toArray=(vs++ws).toArray:=by simp
 by_cases hw:ws=[];.exact asD ⟨_,h,rfl⟩ ⟨_,a,rfl⟩ asE seq_tuple_add arR arK (arB _ _) (tuple_addW1 t b vs.toArray ws.toArray n o dd g l d (by simpa using m) (by simp[hw])) ⟨h,a,p hw⟩
 .refine asD ⟨_,h,rfl⟩ ⟨_,a,rfl⟩ asE seq_tuple_add arR arK (arB _ _) (tuple_addW2 t b vs.toArray ws.toArray n o dd g l d (by simpa using m) (by simpa using hw) (by rw[ap5,ap5];exact hsz)) ⟨h,a,?_⟩;rw[e];exact u hw
noncomputable def sIx(n d:Nat):Option Int->Nat|none=>d|some v=>if v<0 then(v+(n:Int)).toNat else min v.toNat n
def ai6(n d)(b:d<=n)(o):sIx n d o<=n:=by cases o with|none=>exact b|some v=>
 show(if v<0 then(v+n).toNat else min _ n)<=n;by_cases a:v<0;.rw[apB a];omega
 .rw[apA a];exact arU _ _
def acM(v)(n d:Nat):(if v<0 then max (v+(n:Int)) 0 else min v n)=(sIx n d (some v):Nat):=by
 show(if v<0 then max _ 0 else min v n)=if v<0 then(v+n).toNat else min _ n;by_cases a:v<0;.simp only[apB a];omega
 .simp [apA a];omega
def zM(lo a)(n:Nat):Builtin.Slice.sliceAdjust lo a 1 n=((sIx n 0 lo:Int),(sIx n n a:Int)):=by
 refine Prod.ext ?_ ?_;.cases lo with|none=>rfl|some v=>exact acM v n 0
 .cases a with|none=>rfl|some v=>exact acM v n n
def yM(i j:Nat):Builtin.Slice.slicePlaces (i:Int) (j:Int) 1=j-i:=by
 unfold Builtin.Slice.slicePlaces;have a:(1:Int)>0:=by omega
 simp only[a,arc,Int.ediv_one];split<;>omega
def oN{v o Q}(p:IsPart v o)(h:Q o s):wpAny (model prog w) A (Builtin.Slice.slicePartIndex v) Q E s:=by cases p with|none=>exact slicePart_none h|int i t=>exact slicePart_int h
def lS{sl e d lo c n}{Q:Int×Int×Nat->Shared->Prop}(hs:s.heap.IsSliceOf sl e d .none)(pl:IsPart e lo)(g:IsPart d c)(h:Q ((sIx n 0 lo:Nat),1,sIx n n c-sIx n 0 lo) s):wpAny (model prog w) A (Builtin.Slice.sliceApplied (.ref sl) (pure n)) Q E s:=by refine jK (id hs) λos a f b=>?_;refine apu (apu (apY a b (x:=e) rfl (apu (apY a b (x:=d) rfl (apu (apY a b rfl (apF ?_)))))));refine apu (slicePart_none ?_);refine apu (oN pl (apu (oN g (apu (apF ?_)))));show wpAny _ _ (match Builtin.Slice.sliceAdjust lo c 1 (n:Int)with|(lo,c)=>pure (lo,(1:Int),Builtin.Slice.slicePlaces lo c 1)) _ _ s;rw[zM lo c n];show wpAny _ _ (pure _) _ _ s;rw[yM];exact apF h
def adQ(xs:Array Value)(i k:Nat):((List.range k).filterMap λ(m:Nat)=>xs[((i:Int)+(m:Int)*1).toNat]?).toArray=((xs.toList.drop i).take k).toArray:=by
 have e:(λ(m:Nat)=>xs[((i:Int)+(m:Int)*1).toNat]?)=λm=>xs[i+m]?:=by
  funext m;have:((i:Int)+(m:Int)*1).toNat=i+m:=by omega
  rw[this]
 rw[e];have:=pick_run xs i k;rw[List.filterMap_map]at this;have a:((λx=>xs[x]?)∘λx=>i+x)=λm=>xs[i+m]?:=rfl;rw[a]at this;rw[this]
def lb{t sl items j i lo a Q}(c:IsTup s.heap t items)(hs:s.heap.IsSliceOf sl j i .none)(pl:IsPart j lo)(l:IsPart i a)(hw:¬(sIx items.size 0 lo=0/\sIx items.size items.size a=items.size))(h:Q (.ref s.heap.objs.size) {s with heap:=s.heap.push {cls:=.type "tuple",data:=.seq ((items.toList.drop (sIx items.size 0 lo)).take (sIx items.size items.size a-sIx items.size 0 lo)).toArray}})(hsz:items.size<=sizeLine):wpAny (model prog w) A (getItem (.ref t) (.ref sl)) Q E s:=by
 have b:sizeOk (.seq ((items.toList.drop (sIx items.size 0 lo)).take (sIx items.size items.size a-sIx items.size 0 lo)).toArray):=by show((items.toList.drop (sIx items.size 0 lo)).take (sIx items.size items.size a-sIx items.size 0 lo)).toArray.size<=sizeLine;rw[ap5,asC,List.length_drop,ar9];omega
 have n:sIx items.size items.size a<=items.size:=ai6 _ _ (apG _) a;refine jK (id hs) λos f e k=>?_;have d:s.TypeIs (.ref sl) "slice":=⟨os,f,e⟩;unfold getItem;try with_reducible refine aqF ?_
 first|refine apu (apF ?_)|skip
 refine apu (wpAny_sequenceKey c.typeIs (by decide) ?_);refine apu (aqu (name:=Str.ofString "__getitem__") c.typeIs aq9 (aqH aq9 c.typeIs entry_tuple_getitem ?_ (args_tuple_getitem _ _)));show wpAny _ _ (Builtin.Tuple.tupleItemsOf (.ref t)>>=_) _ _ s;refine apu (tupleItemsOf_ c ?_);refine apu (wpAny_typeOf d ?_);rw[apB (by decide)];refine apu (lS hs pl l ?_);have g:¬(((sIx items.size 0 lo:Nat):Int)==0&&(1:Int)==1&&sIx items.size items.size a-sIx items.size 0 lo==items.size)=true:=by grind
 show wpAny _ _ (if(((sIx items.size 0 lo:Nat):Int)==0&&(1:Int)==1&&sIx items.size items.size a-sIx items.size 0 lo==items.size)=true then _ else _) _ _ s;rw[apA g,adQ];exact apu (m:=Builtin.Tuple.tupleExact _) (arM (apF ⟨_,rfl,apF h⟩) b)
end
end HT
namespace L2
open PySem PySem.Spec PyProof.Rows
abbrev TO:=St->Hp->(Option Int->Hp->Prop)->Prop
def PO(X:Cx)(e:Option Expr)(t:TO):Prop:=∀(a:List (Addr×Obj))(s:Shared)(σ:St)(H:Hp)(Q:Option Int->Hp->Prop),Inv X a σ H s->t σ H Q->wpAny (model X.prog X.w) X.A (evalPart e X.env) (λu c=>∃o b,Inv X a σ b c/\IsPart u o/\Q o b) X.xe s
def agF:TO:=λ_ H Q=>Q none H
def amd(t:TE):TO:=λσ H Q=>t σ H λx a=>∃i,x=.int i/\Q (some i) a
section
variable{X:Cx}{e:Expr}{te:TE}{lo hi:Option Expr}{tl th:TO}{pos p2:Pos}
def ag5:PO X none agF:=by intro a s σ H Q I h;exact apF ⟨_,H,I,.none,h⟩
def ag4(h:PE X e te):PO X (some e) (amd te):=by intro a s σ H Q I hw;refine thn (h _ s σ H _ I hw) λu g⟨x,b,d,f,c⟩=>?_;obtain⟨i,rfl,q⟩:=c;obtain⟨t,rfl⟩:=f;exact⟨_,b,d,.int i t,q⟩
def SlR(X:Cx)(r:V->Option Int->Option Int->Hp->VK->Prop):Prop:=∀(a:List (Addr×Obj))(s:Shared)(σ:St)(H:Hp)(x:V)(v c b:Value)(lo hi:Option Int)(d:Addr)(Q:VK),Inv X a σ H s->RelV x v->s.heap.IsSliceOf d c b .none->IsPart c lo->IsPart b hi->r x lo hi H Q->∃T id,typeLookup (.type T) "__getitem__"=pure (some (.builtin id))/\s.TypeIs v T/\wpAny (model X.prog X.w) X.A (getItem v (.ref d)) (EP X a σ Q) X.xe s
def SlR.or{r d}(h:SlR X r)(h':SlR X d):SlR X λx lo hi H Q=>r x lo hi H Q\/d x lo hi H Q:=by
 intro a s σ H x v j g lo hi i Q I c b pl f q;rcases q with q|q;.exact h _ s σ H x v _ _ _ _ _ Q I c b pl f q
 .exact h' _ s σ H x v _ _ _ _ _ Q I c b pl f q
def tSl(r:V->Option Int->Option Int->Hp->VK->Prop)(te:TE)(tl th:TO):TE:=λσ H Q=>te σ H λx a=>tl σ a λl b=>th σ b λu c=>r x l u c Q
def adS{r}(A:SlR X r)(E:PE X e te)(D:PO X lo tl)(M:PO X hi th):PE X (.Subscript e (.Slice lo hi none p2) pos) (tSl r te tl th):=by intro a s σ H Q I h;refine Subscript_ (thn (E a s σ H _ I h) λv C⟨x,w,n,o,m⟩=>wpAny_Slice (thn (D a C σ w _ n m) λg p⟨l,t,J,pl,j⟩=>thn (M a p σ t _ J j) λd c⟨u,f,i,K,y⟩=>apF ?_));have z:Inv X a σ f {c with heap:=c.heap.push {cls:=.type "slice",data:=.fields #[g,d,.none]}}:=i.kept λb ob q=>apw _ q;refine hJ (A a _ σ f x v g d l u c.heap.objs.size Q z o (Heap.IsSliceOf.new ..) pl K y) λT id k B G=>?_;exact tail_any B k G (rfl)
def aif(xs:List V)(lo hi:Option Int):List V:=(xs.drop (HT.sIx xs.length 0 lo)).take (HT.sIx xs.length xs.length hi-HT.sIx xs.length 0 lo)
def nU(xs)(lo hi):(aif xs lo hi).length<=xs.length:=by unfold aif;rw[asC,List.length_drop];omega
def apa(K:W.Frag):V->Option Int->Option Int->Hp->VK->Prop:=λx lo hi H Q=>∃a b,x=.ref a/\SqT K H a b/\¬(HT.sIx b.length 0 lo=0/\HT.sIx b.length b.length hi=b.length)/\∀p,H p=none->Q (.ref p) (upd H p (.tup (aif b lo hi)))
def ai2:SlR X (apa X.K):=by
 intro g s σ H x v u p lo hi t Q I m k pl o h;refine lD h λa j f n hw q=>?_;subst f;cases m;refine jK (I.tuple n) λd r i l=>?_;have c:d.toArray.size=j.length:=by rw[ap5];exact r.length.symm
 refine jJ "tuple" _ aq9.lookup i.typeIs ?_;refine HT.lb i k pl o (by grind) ?_ (by omega);rw[c];refine(jJ (.ref s.heap.objs.size) _ (I.laid (t':=s.toks) (λb ob q=>apw _ q) (apG _) ?_) rfl (q _ (I.hok.fresh (apG _))));exact⟨apD (nU j lo hi) l,_,(r.drop _).take _,IsTup.new _ _⟩
def amD(K:W.Frag):R2:=λx y H Q=>∃a b d c,x=.ref a/\y=.ref b/\SqT K H a d/\SqT K H b c/\d≠[]/\d.length+c.length<=sizeLine/\(c=[]->Q (.ref a) H)/\(c≠[]->∀p,H p=none->Q (.ref p) (upd H p (.tup (d++c))))
def Vals.vb{xs us}(r:Vals xs us):us=[]↔ xs=[]:=by cases r with|nil|cons _ _=>simp
def ahd:OpR X (binaryOp .Add) (amD X.K):=by intro f s σ H x y v u Q I t m h;obtain⟨a,b,B,k,rfl,rfl,A,r,C,g,n,l⟩:=h;cases t;cases m;obtain⟨j,d,p,_⟩:=I.tuple A;obtain⟨i,c,p2,_⟩:=I.tuple r;refine HT.ahR p p2 (λz=>C (d.vb.mp z)) (λz=>⟨.ref a,H,I,rfl,n (c.vb.mp z)⟩) (λz=>?_) (by rw[<-d.length,<-c.length];exact g);refine⟨.ref s.heap.objs.size,_,I.laid (t':=s.toks) (o:=.tup (B++k)) (λb ob q=>apw _ q) (apG _) ?_,rfl,l (λw=>z (c.vb.mpr w)) _ (I.hok.fresh (apG _))⟩;exact⟨by rw[aqc];exact g,_,d.append c,IsTup.new _ _⟩
end
noncomputable def ixN(n:Nat)(i:Int):Option Nat:=if 0<=i then if i<n then some i.toNat else none else if -(n:Int)<=i then some (i+n).toNat else none
def atI{a:Type}(xs:List a)(i:Int):Option a:=(ixN xs.length i).bind λj=>xs[j]?
def abU{n i j}(h:ixN n i=some j):seqIndex? i n=some j/\j<n/\-n<=i/\i<n:=by
 unfold ixN at h;by_cases b:0<=i
 .rw[apB b]at h;by_cases a:i<n;.rw[apB a]at h;have e:=apV h;exact⟨by rw[seqIndex_of b a,e],by omega,by omega,a⟩
  .rw[apA a]at h;cases h
 .rw[apA b]at h;by_cases a:-(n:Int)<=i;.rw[apB a]at h;have e:=apV h;exact⟨by rw[seqIndex_neg (by omega) a,e],by omega,a,by omega⟩
  .rw[apA a]at h;cases h
def vQ{a xs i}{v:a}(h:atI xs i=some v):∃j,seqIndex? i xs.length=some j/\xs[j]?=some v/\j<xs.length/\-xs.length<=i/\i<xs.length:=by unfold atI at h;cases e:ixN xs.length i with|none=>rw[e]at h;cases h|some j=>rw[e]at h;refine alW (abU e) λc d b f=>?_;exact⟨j,c,h,d,b,f⟩
def fM{a:Type}{xs:List a}{j:Nat}{v:a}(h:xs[j]?=some v):atI xs (j:Int)=some v:=by
 have b:j<xs.length:=(apC.mp h).1;have e:ixN xs.length (j:Int)=some j:=by unfold ixN;rw[apB (by omega),apB (by omega)];simp
 unfold atI;rw[e];exact h
def l4{a:Type}(xs:List a)(v:a):atI (xs++[v]) (-1)=some v:=by
 have b:(xs++[v]).length=xs.length+1:=by simp
 have e:ixN (xs++[v]).length (-1)=some xs.length:=by unfold ixN;rw[b,apA (by decide),apB (by omega)];congr 1;omega
 unfold atI;rw[e];show(xs++[v])[xs.length]?=some v;simp
def jI(b:Expr):Prop:=∀o i,subscripted b false o i=operate [o,i] (getItem o i)
def IxR(X:Cx)(r:R2):Prop:=∀(c a:Expr)(b:List (Addr×Obj))(s:Shared)(σ:St)(H:Hp)(x y:V)(v u:Value)(Q:VK),Inv X b σ H s->RelV x v->RelV y u->r x y H Q->subscripted a false v u=operate [v,u] (getItem v u)->wpAny (model X.prog X.w) X.A (subscriptTail c a v u) (EP X b σ Q) X.xe s
def MtR(X:Cx)(id:String)(r:V->List V->Hp->VK->Prop):Prop:=∀(a:List (Addr×Obj))(s:Shared)(σ:St)(H:Hp)(x:V)(b:List V)(v:Value)(c:List Value)(Q:VK),Inv X a σ H s->RelV x v->Vals b c->r x b H Q->wpAny (model X.prog X.w) X.A (call (.builtin id) (v::c)) (EP X a σ Q) X.xe s
section
variable{X:Cx}{a b:Expr}{ta tb:TE}{pos:Pos}
def IxR.or{r j}(h:IxR X r)(h':IxR X j):IxR X λx y H Q=>r x y H Q\/j x y H Q:=by
 intro c d e s σ H x y v u Q I i g q f;rcases q with q|q;.exact h _ _ _ s σ H x y v u Q I i g q f
 .exact h' _ _ _ s σ H x y v u Q I i g q f
def MtR.or{id:String}{r f:V->List V->Hp->VK->Prop}(h:MtR X id r)(h':MtR X id f):MtR X id λx d H Q=>r x d H Q\/f x d H Q:=by
 intro c s σ H x d v i Q I e g q;rcases q with q|q;.exact h c s σ H x d v i Q I e g q
 .exact h' c s σ H x d v i Q I e g q
def ag9{r}(d:IxR X r)(g:PE X a ta)(j:PE X b tb)(hs:jI b):PE X (.Subscript a b pos) (tOp r ta tb):=by intro c s σ H Q I h;exact Subscript_ (anY g j I h λv u k x y l i f e q=>d a b _ _ σ _ x y v u Q i f e q (hs _ _))
def aot(K:W.Frag):R2:=λx y H Q=>∃p c i v,x=.ref p/\y=.int i/\SqL K H p c/\atI c i=some v/\Q v H
def aor(K:W.Frag):R2:=λx y H Q=>∃p c i v,x=.ref p/\y=.int i/\SqT K H p c/\atI c i=some v/\Q v H
def aos:R2:=λx y H Q=>∃z i c,x=.str z/\y=.int i/\z.length<=sizeLine/\atI z.cps.toList i=some c/\Q (.str ⟨#[c]⟩) H
def abS:IxR X (aot X.K):=by
 intro g f c s σ H x y v u Q I J A h o;obtain⟨p,R,i,z,rfl,rfl,C,K,q⟩:=h;cases J;obtain⟨t,rfl⟩:=A;obtain⟨e,r,pl,P⟩:=I.list C;obtain⟨j,d,M,O,G,D⟩:=vQ K;obtain⟨w,m,l⟩:=r.get M;have E:=r.length;have N:=tj;have fin:EP X c σ Q w s:=⟨z,H,I,l,q⟩;by_cases n:0<=i
 .have k:i.toNat=j:=by rw[seqIndex_of n D]at d;exact apV d
  exact item_listR pl.isList n (by omega) (by rw[k];simpa using m) fin o
 .have k:(i+(e.toArray.size:Int)).toNat=j:=by rw[seqIndex_neg (by omega) G]at d;rw[ap5,<-E];exact apV d
  exact subscriptTail_builtinR (x:=w) pl.isList.typeIs slot_list_getitem.lookup (wpAny_getItem_list_neg (Q:=λr B=>r=w/\EP X c σ Q r B) pl.isList (by omega) (by rw[ap5]<;>omega) (by omega) (by rw[k];simpa using m) ⟨rfl,fin⟩) o
def afX:IxR X (aor X.K):=by intro d c f s σ H x y v u Q I n k h m;obtain⟨p,N,i,z,rfl,rfl,l,o,q⟩:=h;cases n;obtain⟨t,rfl⟩:=k;obtain⟨g,r,pl,K⟩:=I.tuple l;obtain⟨j,B,A,D,M,G⟩:=vQ o;obtain⟨w,E,e⟩:=r.get A;have J:=r.length;have C:=tj;exact subscriptTail_builtinR pl.typeIs slot_tuple_getitem.lookup (getItem_tuple (j:=j) pl (by omega) (by omega) (by grind) (by grind) ⟨rfl,⟨z,H,I,e,q⟩⟩) m
def ake:IxR X aos:=by
 intro e d f s σ H x y v u Q I p k h l;obtain⟨z,i,c,rfl,rfl,G,r,q⟩:=h;obtain⟨t,rfl⟩:=p;obtain⟨E,rfl⟩:=k;obtain⟨j,g,A,D,o,m⟩:=vQ r;have n:z.cps.toList.length=z.length:=by simp[Str.length]
 rw[n]at g o m;have C:=tj;exact tail_any (typeIs_str s z t) slot_str_getitem.lookup (getItem_str (c:=c) (by have w:decide (i < -(2^63:Int))=false:=ap1 (by omega);have B:decide (i ≥ 2^63)=false:=ap1 (by omega);rw[w,B,Bool.or_false]) (by rw[g];simpa using A) ⟨.str ⟨#[c]⟩,H,I.tok _,⟨_,rfl⟩,q⟩) l
def rIx(K:W.Frag):R2:=λx y H Q=>aot K x y H Q\/aor K x y H Q\/aos x y H Q
def nE:IxR X (rIx X.K):=abS.or (afX.or ake)
def y9(its:List Value)(n j:Nat)(u:Value):Obj.mapSeq (·.setIfInBounds j u) {cls:=.type "list",data:=.seq its.toArray n}={cls:=.type "list",data:=.seq (its.set j u).toArray n}:=by simp[Obj.mapSeq]
theorem Inv.lst{pins:List (Addr×Obj)}{σ:St}{H:Hp}{s:Shared}{p:Addr}{xs:List V}(I:Inv X pins σ H s)(h:H p=some (.lst xs)):∃(its:List Value)(n:Nat),Vals xs its/\s.heap.get? p=some {cls:=.type "list",data:=.seq its.toArray n}/\xs.length<=sizeLine:=by obtain⟨z,its,n,r,e⟩:=I.hok p _ h;exact⟨its,n,r,e,z⟩
def Inv.ajX{pins:List (Addr×Obj)}{σ:St}{H:Hp}{s:Shared}{p:Addr}{xs ys:List V}{its its':List Value}{n c:Nat}{f:Obj->Obj}(I:Inv X pins σ H s)(h:H p=some (.lst xs))(g:s.heap.get? p=some {cls:=.type "list",data:=.seq its.toArray n})(d:f {cls:=.type "list",data:=.seq its.toArray n}={cls:=.type "list",data:=.seq its'.toArray c})(r:Vals ys its')(hz:ys.length<=sizeLine)(t:Nat):Inv X pins σ (upd H p (.lst ys)) {s with heap:=s.heap.update p f,toks:=t}:=by
 have e:(s.heap.update p f).get? p=some {cls:=.type "list",data:=.seq its'.toArray c}:=by rw[aqJ f g (by rw[d]<;>rfl),d]
 refine I.write (x:=p) (e:=p) (by rw[h];trivial) (.inl rfl) (λb u i q=>(aqd _ _ (apO i)).trans q) ⟨_,e⟩ ?_;exact⟨hz,its',c,r,e⟩
def amC:V->V->V->Hp->(Hp->Prop)->Prop:=λo i v H Q=>∃p c k j,o=.ref p/\i=.int k/\H p=some (.lst c)/\ixN c.length k=some j/\Q (upd H p (.lst (c.set j v)))
def set_list:aoX X amC:=by
 intro d s σ H o i v M K u Q I E A C h;obtain⟨p,G,k,j,rfl,rfl,w,B,q⟩:=h;cases E;obtain⟨t,rfl⟩:=A;obtain⟨c,n,r,l,D⟩:=I.lst w;obtain⟨e,N,m,z⟩:=abU B;have f:=r.length;have J:=tj;have x:Inv X d σ (upd H p (.lst (G.set j v))) {s with heap:=s.heap.update p (Obj.mapSeq (·.setIfInBounds j u))}:=I.ajX w l (y9 c n j u) (r.set C j) (by rw[ar0];exact D) s.toks;by_cases y:0<=k
 .have g:k.toNat=j:=by rw[seqIndex_of y z]at e;exact apV e
  exact W.ki_setAt l y (by omega) (by rw[ap5,<-f];exact z) (by rw[g];exact⟨_,x,q⟩)
 .have g:(k+(c.toArray.size:Int)).toNat=j:=by rw[seqIndex_neg (by omega) m]at e;rw[ap5,<-f];exact apV e
  exact W.ki_setBack l (by omega) (by rw[ap5,<-f];exact m) (by omega) (by rw[g];exact⟨_,x,q⟩)
def rX(lo c)(n):(sliceBounds lo c none n).1=(HT.sIx n 0 lo:Nat)/\(sliceBounds lo c none n).2.1=(HT.sIx n n c:Nat)/\(sliceBounds lo c none n).2.2=1:=by
 refine⟨?_,?_,rfl⟩;.cases lo with|none=>simp[sliceBounds,HT.sIx]|some i=>
  simp only[sliceBounds,HT.sIx,Option.getD_none,show(1:Int)>0 by decide,arc];by_cases h:i<0;.simp only[h,arc]<;>omega
  .simp only[h,asF]<;>omega
 .cases c with|none=>simp[sliceBounds,HT.sIx]|some i=>
  simp only[sliceBounds,HT.sIx,Option.getD_none,show(1:Int)>0 by decide,arc];by_cases h:i<0;.simp only[h,arc]<;>omega
  .simp only[h,asF]<;>omega
def qa(its:List Value)(lo c):slicePick its.toArray lo c none=((its.drop (HT.sIx its.length 0 lo)).take (HT.sIx its.length its.length c-HT.sIx its.length 0 lo)).toArray:=by obtain⟨f,d,e⟩:=rX _ _ _;unfold slicePick;rw[f,d,e];simp only[sliceRange_one,pick_run,ap5]
def apb(K:W.Frag):V->Option Int->Option Int->Hp->VK->Prop:=λx lo d H Q=>∃a c,x=.ref a/\SqL K H a c/\∀p,H p=none->Q (.ref p) (upd H p (.lst (aif c lo d)))
def agJ:SlR X (apb X.K):=by intro e s σ H x v u p lo o t Q I k i pl n h;refine hJ h λa l d m q=>?_;subst d;cases k;refine jK (I.list m) λg r f j=>?_;have c:=r.length;refine jJ "list" _ slot_list_getitem.lookup f.isList.typeIs (wpAny_getItem_list_slice f.isList i pl n .none (by simp) ?_ (by grind));rw[qa,<-c];refine jJ (.ref s.heap.objs.size) _ (I.laid (λb ob q=>apw _ q) (apG _) ?_) rfl (q _ (I.hok.fresh (apG _)));exact⟨apD (nU l lo o) j,_,0,(r.drop _).take _,apL _ rfl⟩
def tX:bV X (.builtin "len") λk H Q=>∃p c,k=[.ref p]/\(SqL X.K H p c\/SqT X.K H p c)/\Q (.int c.length) H:=by
 intro j s σ H k o Q I r h;refine hJ h λp c g e q=>?_;subst g;obtain⟨u,rfl,m⟩:=vals1 r;cases m;have n:=tj;rcases e with e|e;.obtain⟨f,i,pl,l⟩:=I.list e;have d:=i.length;exact Calls.call_len_list pl.isList (by grind) ⟨.int c.length,H,I.tok _,⟨s.toks+1,by grind⟩,q⟩
 .obtain⟨f,i,pl,l⟩:=I.tuple e;have d:=i.length;exact len_tuple pl (by grind) ⟨.int c.length,H,I.tok _,⟨s.toks+1,by grind⟩,q⟩
def bV.or{f r d}(h:bV X f r)(h':bV X f d):bV X f λc H Q=>r c H Q\/d c H Q:=by
 intro e s σ H c i Q I g q;rcases q with q|q;.exact h _ s σ H _ _ Q I g q
 .exact h' _ s σ H _ _ Q I g q
def rg:bV X (.type "tuple") λn H Q=>∃p d,n=[.ref p]/\((SqL X.K H p d/\∀l,H l=none->Q (.ref l) (upd H l (.tup d)))\/SqT X.K H p d/\Q (.ref p) H):=by
 intro i s σ H n y Q I r h;obtain⟨p,d,rfl,h⟩:=h;obtain⟨u,rfl,v⟩:=vals1 r;cases v;rcases h with⟨g,q⟩|⟨g,q⟩;.obtain⟨c,f,pl,k⟩:=I.list g;have j:=f.length;refine call_tuple_list pl.isList (λx t=>?_) (by grind);have m:=I.kept (t':=s.toks) t;have w:=m.laid (t':=s.toks) (λb o e=>apw _ e) (apG _) (show dH _ X.w _ _ _ (.tup d)from⟨k,c,f,IsTup.new _ _⟩);exact jJ (.ref _) _ w rfl (q _ (m.hok.fresh (apG _)))
 .obtain⟨c,f,pl,k⟩:=I.tuple g;exact call_tuple_same pl (jJ (.ref p) H I rfl q)
def tyV(K:W.Frag)(T:String)(x:V)(H:Hp):Prop:=match x with|.str _=>T="str"|.int _=>T="int"|.ref p=>(T="list"/\∃d,SqL K H p d)\/(T="tuple"/\∃o,K.lookup p=some o/\o.cls=.type "tuple"/\o.dict=none)\/T="dict"/\((∃c,H p=some (.dK c))\/∃c,H p=some (.dT c))\/T="set"/\∃S n,H p=some (.set S n)|_=>False
def aiM{pins}{σ:St}{H s T x v}(I:Inv X pins σ H s)(r:RelV x v)(ty:tyV X.K T x H):
 s.TypeIs v T/\∀a,v=.ref a->∃ob,s.heap.get? a=some ob/\ob.dict=none:=by cases x with|str z=>obtain⟨t,rfl⟩:=r;cases show T="str"from ty;exact⟨typeIs_str s z t,λ_ e=>nomatch e⟩|int i=>obtain⟨t,rfl⟩:=r;cases show T="int"from ty;exact⟨typeIs_int s i t,λ_ e=>nomatch e⟩|ref p=>
  cases r;rcases ty with⟨rfl,m,l⟩|⟨rfl,o,d,k,g⟩|⟨rfl,d⟩|⟨rfl,S,n,d⟩;.obtain⟨j,_,pl,_⟩:=I.list l;refine⟨pl.isList.typeIs,λa e=>?_⟩;cases e;obtain⟨o,n,e,c,g,_⟩:=pl;exact⟨o,e,g⟩
  .refine⟨⟨o,I.kIn p o d,k⟩,λa e=>?_⟩;cases e;exact⟨o,I.kIn _ o d,g⟩
  .have z:∃o,s.heap.get? p=some o/\o.ExactDict:=by
    rcases d with⟨f,d⟩|⟨f,d⟩;.obtain⟨_,_,_,_,o,_,_,e,ex,_⟩:=I.hok p _ d;exact⟨o,e,ex⟩
    .obtain⟨_,_,_,_,o,_,_,e,ex,_⟩:=I.hok p _ d;exact⟨o,e,ex⟩
   obtain⟨o,e,ex⟩:=z;refine⟨⟨o,e,ex.1⟩,λa h=>?_⟩;cases h;exact⟨o,e,ex.2.1⟩
  .obtain⟨o,_,_,_,e,ex,_⟩:=I.hok p _ d;refine⟨⟨o,e,ex.1⟩,λa h=>?_⟩;cases h;exact⟨o,e,ex.2.1⟩|_=>exact False.elim ty
def tBM(K:W.Frag)(T:String)(r:V->List V->Hp->VK->Prop)(e:TE)(t:TA):TE:=λσ H Q=>e σ H λx c=>tyV K T x c/\t σ c λd f=>r x d f Q
variable{o e:Expr}{es:List Expr}{to:TE}{t:TA}{name:Str}{apos cpos:Pos}{T id:String}{r:V->List V->Hp->VK->Prop}
def yO(A:PlainAttrs T)(i:Slot T name id)(k:typeOf (.builtin id)=pure (.type "method_descriptor"))(C:MtR X id r)(M:PE X o to)(B:PA X (e::es) t)(g:attributeBase o name X.env (eval o X.env)=eval o X.env:=by rfl)(j:((backTo cpos (starEach (e::es) X.env)).all (λx=>!x.1)&&(backToKw cpos (keywordEach [] X.env)).all (λx=>x.1.isSome)&&decide ((e::es).length+([]:List Keyword).length+(if([]:List Keyword).isEmpty then 0 else 1)<30))=true:=by rfl)(f:(apos.endLine==cpos.line)=true:=by rfl)(hs:SE X e es:=by rfl)(d:BT X cpos es:=by rfl):PE X (.Call (.Attribute o name apos) (e::es) [] cpos) (tBM X.K T r to t):=by intro c s σ H Q I h;refine wpAny_Call_method_late g j f rfl (thn (M c s σ H _ I h) λv y⟨x,p,l,m,ty,z⟩=>?_);obtain⟨u,E⟩:=aiM l m ty;refine⟨T,id,A,i,k,u,E,?_⟩;have n:=B cpos c y σ p _ l z;rw[hs]at n⊢;refine Calls.callWith_builtin (by show(false||(backTo cpos (starEach es X.env)).any (·.1))=false;rw[d]<;>rfl) (ar1 ?_);exact thn n λN G⟨q,J,D,K,w⟩=>C c G σ J x q v N Q D m K w
end
def MtM(X:Cx)(id:String)(r:V->List V->Hp->VK->Prop):Prop:=∀(a:List (Addr×Obj))(s:Shared)(σ:St)(H:Hp)(x:V)(b:List V)(v:Value)(c:List Value)(Q:VK),Inv X a σ H s->RelV x v->Vals b c->r x b H Q->wpAny (model X.prog X.w) X.A (call (.builtin id) (v::c)) (EP X a σ Q) X.xe s
def Vals.one:∀{x us},Vals [x] us->∃u,us=[u]/\RelV x u|_,_,.cons r .nil=>⟨_,rfl,r⟩
theorem Vals.eraseIdx:∀{xs us}i,Vals xs us->Vals (xs.eraseIdx i) (us.eraseIdx i)|_,_,_,.nil=>.nil|_,_,0,.cons _ t=>t|_,_,i+1,.cons r t=>.cons r (Vals.eraseIdx i t)
theorem Vals.reverse{xs:List V}{us:List Value}(h:Vals xs us):Vals xs.reverse us.reverse:=by induction h with|nil=>exact .nil|cons r t ih=>rw[List.reverse_cons,List.reverse_cons];exact Vals.append ih (.cons r .nil)
theorem tm{a:Type}:∀(l:List a)i,(l.eraseIdx i).length<=l.length|[],_=>apG _|_::_,0=>asd _|_::r,i+1=>Nat.succ_le_succ (tm r i)
section
variable{X:Cx}{pins:List (Addr×Obj)}{σ:St}{H:Hp}{s:Shared}{l b:Addr}{xs ys zs:List V}
def Inv.anl{its its':List Value}{n f t'}(I:Inv X pins σ H s)(d:H l=some (.lst xs))(e:s.heap.get? l=some {cls:=.type "list",data:=.seq its.toArray n})(c:f its.toArray=its'.toArray)(a:Vals ys its')(hz:ys.length<=sizeLine):Inv X pins σ (upd H l (.lst ys)) {s with heap:=s.heap.update l (Obj.mapSeq f),toks:=t'}:=by have q:=PySem.IsL.update e f;rw[c]at q;refine I.write (by rw[d];exact trivial) (.inl rfl) (λi u g h=>(aqd _ _ (apO g)).trans h) ⟨_,q⟩ ?_;exact⟨hz,_,_,a,q⟩
def Inv.aph{its t'}(I:Inv X pins σ H s)(a:Vals ys its)(hz:ys.length<=sizeLine):Inv X pins σ (upd H s.heap.objs.size (.lst ys)) {s with heap:=s.heap.push {cls:=.type "list",data:=.seq its.toArray},toks:=t'}:=I.laid (λ_ _ q=>apw _ q) (apG _) ⟨hz,_,0,a,apL _ rfl⟩
theorem Inv.fresh(I:Inv X pins σ H s):H s.heap.objs.size=none:=I.hok.fresh (apG _)
def Inv.ank(I:Inv X pins σ H s)(c:H l=some (.lst xs)):xs.length<=sizeLine/\∃a n,Vals xs a/\xs.length=a.length/\s.heap.get? l=some {cls:=.type "list",data:=.seq a.toArray n}:=by obtain⟨z,a,n,r,e⟩:=I.hok l _ c;exact⟨z,_,n,r,r.length,e⟩
def ad6{n:Nat}(h:n<=sizeLine):Builtin.List.listTooLong n=false:=by unfold Builtin.List.listTooLong;exact ap1 (by omega)
end
section
variable{X:Cx}
def uM:V->List V->Hp->VK->Prop:=λx b H Q=>∃l a y,x=.ref l/\b=[y]/\H l=some (.lst a)/\a.length<sizeLine/\Q .non (upd H l (.lst (a++[y])))
def nu:MtM X "list.append" uM:=by intro c s σ H x k v t Q I j i h;refine akW h λl p y a b d o q=>?_;subst a b;cases j;obtain⟨u,rfl,f⟩:=i.one;obtain⟨z,g,n,r,m,e⟩:=I.ank d;refine asV F.slot_list_append ⟨_,e,rfl⟩ F.entry_list_append (F.args_list_append_2 _ _) (PySem.list_append l _ n u (by grind)) ⟨e,.non,_,I.anl d e (by simp) (r.append (.cons f .nil)) ?_,rfl,q⟩;rw[aqc,arj];omega
def afw:V->List V->Hp->VK->Prop:=λx b H Q=>∃l a i k y,x=.ref l/\b=[.int i]/\H l=some (.lst a)/\-2^63<=i/\i<2^63/\seqIndex? i a.length=some k/\a[k]?=some y/\Q y (upd H l (.lst (a.eraseIdx k)))
def aea:MtM X "list.pop" afw:=by
 intro c s σ H x E v D Q I A m h;obtain⟨l,B,i,k,y,rfl,rfl,d,g,C,p,j,q⟩:=h;cases A;obtain⟨u,rfl,f⟩:=m.one;obtain⟨t,rfl⟩:=f;obtain⟨z,a,n,r,o,e⟩:=I.ank d;obtain⟨w,hw,b⟩:=r.get j;refine asV F.slot_list_pop ⟨_,e,rfl⟩ F.entry_list_pop (F.args_list_pop_2 _ _) (MeetsSeq.list_pop_at l a.toArray n i t k w (fitsIndex_both g C) (by rw[ap5,<-o];exact p) (by rw[<-Array.getElem?_toList];exact hw) (by rw[ap5];omega)) ⟨e,?_⟩;refine⟨y,_,I.anl (its':=a.eraseIdx k) d e ?_ (r.eraseIdx k) ?_,b,q⟩;.show a.toArray.eraseIdxIfInBounds k=(a.eraseIdx k).toArray;rw[List.eraseIdxIfInBounds_toArray]
 .have:=tm B k;omega
end
end L2
namespace Att
open PySem PySem.W PySem.Calls PyProof.Rows
def nG{P h}:∀c d,WellAll P h d (c.map WData.int)->IntsAre d c:=by intro c;induction c with|nil=>intro d w;cases w;exact .nil|cons n c ih=>intro d w;cases w with|cons a b=>cases a;exact .cons _ _ (ih _ b)
def aaN{l:OpenLaw}{n}(s:l.most=some n){P h args b}(c:l.row.toRowW.claim.pre args=true)(j:WellAll P h b args):∃a m e,b=[Value.ref a]/\args=[WData.list (e.map WData.int)]/\h.get? a=some {cls:=.type "list",data:=.seq m.toArray}/\IntsAre m e/\e.length<=n:=by
 have k:l.pre.holds [] {args:=args}=true:=(pre_splitW c).2;refine hJ (hasAllW_cons (pre_splitW c).1) λd r i p u=>?_;subst i;obtain rfl:=hasAllW_nil u;obtain⟨v,rfl,t⟩:=hasW_list p;obtain⟨e,rfl⟩:=items_int t;have f:e.length<=n:=by
  unfold OpenLaw.pre at k;have g:=by have g:=(holds_andW k).1;rw[s]at g;exact g
  have o:=condW_of g (w_not (w_lt w_lit (w_len_list (w_arg rfl))));rw[apR]at o;refine Nat.le_of_not_lt λq=>?_;(simp at o;omega)
 cases j with|cons w1 w2=>cases w2;cases w1 with|list ho hall=>exact ak1 _ _ e rfl rfl ho (nG e _ hall) f
def abe(l:OpenLaw)(a):l.row.toRowW.claim.post a (.bool true) a=true:=postW_of (rfl) (w_eq_bool (w_res rfl) w_lit) rfl
def vP{l:OpenLaw}{n q e J M d}(O:l.most=some n)(A:d.params.defaults=[])(call:∀w c b t D k o B v i a j x,Ground q e [] J w c t D b.heap->M w b.heap->b.heap.get? k=some o->o.data=.func (docDef d.name d.params d.body d.scope B v i)->b.heap.CodeRec v d.name->t d.name=some (.ref k)->b.heap.get? a=some {cls:=.type "list",data:=.seq j.toArray}->IntsAre j x->x.length<=n->b.gens=#[]->codeAny (model l.prog w) callerA (.call (.ref k) ⟨[.ref a],[]⟩) (λr u=>r=.ok (.ret (.bool true))/\OldK b.heap u.heap/\u.os=b.os/\AllBare u.gens) b):WalkO q e J M l.row.toRowW d [] λf j=>PySem.call f j:=by intro w c b t D G Y k o B v i R kV ho P y K C hg I N as s H T E X;obtain rfl:R=.none:=Dflts.none K A;obtain rfl:kV=.none:=Dflts.noKw K;refine akW (aaN O s E) λa j x g z p h m=>?_;subst g z;refine enter_call (arA (call w c b t D k o B v i a j x G Y ho (fd_plain P) y C p h m hg) λr u S=>?_);refine alW S λg h2 Q U=>?_;subst g;exact⟨.inl (ak1 _ (.bool true) [] rfl (λ_=>rfl) (.bool true) (abe l _) λ_=>⟨List.Pairwise.nil,λ_ Z=>nomatch Z⟩),h2,Q,U⟩
end Att
namespace L2
open PySem PySem.Spec PyProof.Rows
theorem rK:∀{vs ns},IntsAre vs ns->Vals (ns.map V.int) vs|_,_,.nil=>.nil|_,_,.cons n t h=>.cons ⟨t,rfl⟩ (rK h)
def aoa(H:Hp):Prop:=∀b,H b=none\/∃o a,H b=some (.frz o (.lst a))
def aep{P w K y X CX k R a Z x sp c vs ns}(KX:K.In c.heap)(I:c.heap.Ns mainGlobals y)(g:c.heap.Ns builtinsNs X)(T:∀x:Str,x≠"__name__"->X x=bootBuiltins x)(B:c.heap.NoLimit)(hg:c.gens=#[])(Y:c.heap.get? a=some {cls:=.type "list",data:=.seq vs.toArray})(hi:IntsAre vs ns)(hl:ns.length<=sizeLine)(hr:Room k callerA)(F:∀j,K.In j->j.Ns mainGlobals y->FnOk P w K y j CX k R Z [x] sp)(t:∀s u,BindsTo s Z ⟨[u],[]⟩ [(x,u)])(O:∀H,aoa H->SqL K H a (ns.map V.int)->sp [.ref a] H (λv _=>v=.bl true) λ_ _ _=>False)(Q:∀H e i,CX [] H c (λ_ _ _=>False) e i->False):codeAny (model P w) callerA (.call (.ref R) ⟨[.ref a],[]⟩) (λr i=>r=.ok (.ret (.bool true))/\OldK c.heap i.heap/\i.os=c.os/\AllBare i.gens) c:=by
 have rv:=rK hi;have J:=hi.length;-- from an abstract heap in which nothing but the script may be tracked
 have p:∀H:Hp,aoa H->SqL K H a (ns.map V.int)->HOk P w H c.heap->(∀b,H b≠none->b=a)->(H a≠none->K.lookup a=none)->codeAny (model P w) callerA (.call (.ref R) ⟨[.ref a],[]⟩) (λr i=>r=.ok (.ret (.bool true))/\OldK c.heap i.heap/\i.os=c.os/\AllBare i.gens) c:=by
  intro H hO hS G hA hK;have f:∀{b:Addr}{o:Obj},c.heap.get? b=some o->H b=none->(aeA c.heap H).get? b=some o:=λe n=>aez e n;have S:∀{b:Addr}{o:Obj}{M:Array DictEntry}{N:Nat},c.heap.get? b=some o->o.data=.dict M N->H b=none:=λ{b o M N}e d=>by grind
  have l:∀{b:Addr}{m:Str->Option Value},c.heap.Ns b m->(aeA c.heap H).Ns b m:=λ{b m}⟨o,M,N,e,d,r⟩=>⟨o,M,N,f e (S e d),d,r⟩;have C:K.In (aeA c.heap H):=λb o e=>f (KX b o e) (by cases q:H b with|none=>rfl|some u=>have e':b=a:=hA b (by rw[q];simp);subst e';rw[hK (by rw[q];simp)]at e;cases e);have hM:Mod K y (aeA c.heap H):=⟨C,l I,⟨X,l g,T⟩,let⟨mc,h1,h2⟩:=B;⟨mc,l h1,h2⟩⟩;have e0:Env0 P w K y (aeA c.heap H) callerA [] c H:=⟨rfl,hM,λb o e=>ahg e,Nat.le_of_eq (ab1 _ _),trivial,λb g=>absurd (show b∈([]:List Addr)from g) (by simp),G,.of_eq hg⟩;refine arA ((F _ C (l I)).run callerA [] c H ⟨[.ref a],[]⟩ [.ref a] [.ref a] _ _ hr trivial e0 (t c (.ref a)) (.cons rfl .nil) (O H hO hS)) λr i h=>?_;cases r with|error e=>exact(Q H e i h).elim|ok fl=>cases fl with|next|brk|cont=>exact False.elim h|ret u=>obtain⟨v,H',os,A,un,E,r',q⟩:=h;have q':v=.bl true:=q;subst q';obtain rfl:u=Value.bool true:=r';refine⟨rfl,OldK.of_keep λb o e=>?_,os,A⟩;cases q:H b with|none=>exact un.keep b o e q (by intro z;exact absurd (show b∈([]:List Addr)from z) (by simp)) (by simp)|some u=>
     rcases hO b with z|⟨ob,xs,z⟩;.rw[q]at z;cases z
     .have z2:=un.frzs b ob _ z;obtain⟨e1,_⟩:=G b _ z;obtain⟨e2,_⟩:=E b _ z2;rw[e]at e1;cases e1;exact e2
 cases U:K.lookup a with|some o=>-- the script is one of the module's own objects
 have e:=KX a o U;rw[Y]at e;cases e;refine p (λ_=>none) (λ_=>.inl rfl) (.inr ⟨_,vs.toArray,_,U,rfl,rfl,rfl,by rw[ap5,J];exact hl,by simpa using rv⟩) (λb u z=>by have D:(none:Option HO)=some u:=z;cases D) (λb z=>absurd rfl z) λz=>absurd rfl z|none=>
  refine p (λb=>if b=a then some (.frz {cls:=.type "list",data:=.seq vs.toArray} (.lst (ns.map V.int)))else none) (λb=>?_) (.inl (.inr ⟨{cls:=.type "list",data:=.seq vs.toArray},apB rfl⟩)) (λb u z=>?_) (λb z=>?_) λ_=>U
  .by_cases g:b=a;.exact .inr ⟨_,_,apB g⟩
   .exact .inl (apA g)
  .by_cases g:b=a;.have D:=(apB g).symm.trans z;cases D;subst g;exact⟨Y,by rw[apR];exact hl,vs,_,rv,Y⟩
   .have D:=(apA g).symm.trans z;cases D
  .by_cases g:b=a;.exact g
   .exact absurd (apA g) z
def agv{l:W.OpenLaw}{n k q i Q M d}{K:Params->W.Frag}{CX:World->CXT}{sp:World->Sp}{x}(P:l.most=some n)(D:n<=sizeLine)(z:d.params.defaults=[])(U:Room k callerA)(Z:∀w h,M w h->(K w.params).In h)(F:∀w j r h,(K w.params).In h->h.Ns mainGlobals j->j d.name=some (.ref r)->∃y,(∀s u,BindsTo s y ⟨[u],[]⟩ [(x,u)])/\∀b,(K w.params).In b->b.Ns mainGlobals j->FnOk l.prog w (K w.params) j b (CX w) k r y [x] (sp w))(A:∀w H a(t:List Int),t.length<=n->aoa H->SqL (K w.params) H a (t.map V.int)->sp w [.ref a] H (λv _=>v=.bl true) λ_ _ _=>False)(B:∀w H s e C,CX w [] H s (λ_ _ _=>False) e C->False):W.WalkO q i Q M l.row.toRowW d [] λf N=>PySem.call f N:=by refine Att.vP P z λw J m j mb r o pm cd X a N t G Y ho hd O E p g c hg=>?_;have I:=Z w _ Y;refine fO (F w j r _ I G.T.g E) λy S hF=>?_;exact aep I G.T.g G.T.b G.T.builtins G.T.nolimit hg p g (apD c D) U hF S (λH T R=>A w H a t c T R) λH e C=>B w H m e C
noncomputable def dE(s:Stmt):Arguments:=match s with|.FunctionDef _ a _ _ _ _ _ _ _ _=>a|_=>{posonlyargs:=[],args:=[],vararg:=none,kwonlyargs:=[],kw_defaults:=[],kwarg:=none,defaults:=[]}
noncomputable def bN(s:Stmt):List Stmt:=match s with|.FunctionDef _ _ b _ _ _ _ _ _ _=>b|_=>[]
noncomputable def ah(s:Stmt):Scope:=match s with|.FunctionDef _ _ _ _ _ _ sc _ _ _=>sc|_=>{kind:=.function,names:=[],isGenerator:=false,isCoroutine:=false}
abbrev CX0:CXT:=λ_ _ _ _ _ _=>False
abbrev E0:XK:=λ_ _ _=>False
def abk{X}:Passes CX0 X E0:=λ_ _ _ _ _ _ _ h=>h.elim
structure Fun(K:W.Frag)(x qual:Str)(st:Stmt)(f:Addr)(fd:FuncData):Prop where
 ex:∃(oc:Value)(od:Option Addr)(kV doc pm:Value)(an:Option Addr)(cdv ct:Value)(osl:Array (Option Value)),fd=W.fnOf x qual (dE st) (bN st) (ah st) .none kV doc pm an cdv ct/\K.lookup f=some ⟨oc,od,.func fd,osl⟩/\W.codeIn K cdv qual=true
 kp:W.keepIn K (.ref f)=true
section
variable{P:Program}{w:World}{K:W.Frag}{mg:Str->Option Value}{base:Heap}
def Fun.ok{x a st f l N ps k sp}(F:Fun K x a st f l)(S:FnScope N ps (ah st))(len:∀e H Q E,sp e H Q E->e.length=ps.length)(d:∀c A b s H e Q E,Room k (A.deeper (envOfC a (ah st) s.heap.objs.size f c))->sp e H Q E->∃t,PSs (ky CX0 P w K mg base N a (ah st) f c A b s H E).nox (bN st) t/\t {nx:=λ_ p=>Q .non p,rt:=Q} (start N e) H):FnOk P w K mg base CX0 (k+1) f l ps sp:=by refine aip F.ex λy od kV o u v c ct m i r g=>?_;subst i;refine ahz r g S len λA b s H e Q E n _ j=>?_;obtain⟨t,h,q⟩:=d _ A _ s H _ Q E n j;exact⟨t,h.nox,q⟩
def Fun.binds{x a st f g ps}(F:Fun K x a st f g)(h:∀kV c i j b ct e,e.length=ps.length->bindArgs (W.fnOf x a (dE st) (bN st) (ah st) .none kV c i j b ct) ⟨e,[]⟩=pure (ps.zip e)):Binds K g ps []:=by refine aip F.ex λm od kV c i j b ct l d n k=>?_;subst d;exact .all (h _ _ _ _ _ _)
def ab5{x a st f i od g h kV d e b ct}(l:K.lookup f=some ⟨i,od,.func (W.fnOf x a (dE st) (bN st) (ah st) .none kV d e g b ct),h⟩)(c:W.codeIn K b a=true)(k:W.keepIn K (.ref f)=true):Fun K x a st f (W.fnOf x a (dE st) (bN st) (ah st) .none kV d e g b ct):=⟨⟨i,od,kV,_,e,g,_,ct,_,rfl,l,c⟩,k⟩
end
section
variable{X:Cx}
def pv(i){x pos}(d:X.N[i]?=some x:=by rfl)(b:Vis X.env.scope x:=by first|exact Or.inl rfl|exact Or.inr (Or.inl rfl)|exact Or.inr (Or.inr rfl))(c:Dbg x:=by decide)(a:(x=="__classdict__")=false:=by decide):PE X (.Name x pos) (kx i):=ajr d b c a
end
def aC(H H':Hp):Prop:=∀b o,H b=some o->H' b=some o
def aC.refl(H):aC H H:=λ_ _ h=>h
def aC.trans{H d e}(a:aC H d)(b:aC d e):aC H e:=λc o h=>b c o (a c o h)
def aC.free{H H'}(e:aC H H'){l}(h:H' l=Option.none):H l=Option.none:=by cases q:H l with|none=>rfl|some o=>rw[e l o q]at h;cases h
def aC.seq{K H H' a xs}(e:aC H H')(h:SqL K H a xs):SqL K H' a xs:=by
 rcases h with(h|⟨o,h⟩)|h;.exact .inl (.inl (e _ _ h))
 .exact .inl (.inr ⟨o,e _ _ h⟩)
 .exact .inr h
end L2
set_option maxHeartbeats 4000000
namespace FM
noncomputable def nx(x:Int):Int:=if x=200 then -200 else x+1
noncomputable def xk(x:Int):Nat->Int|0=>x|k+1=>nx (xk x k)
abbrev S3:=Int×Int×Int
noncomputable def tq(p:S3):S3:=(-p.2.1,p.1,(p.2.2+1)%4)
noncomputable def tqn:Nat->S3->S3|0,p=>p|n+1,p=>tq (tqn n p)
noncomputable def lt(q:Int)(p:S3):S3:=let r:=q%4;if r=0 then(p.1,p.2.1,(p.2.2+q)%4)else if r=1 then(0-p.2.1,p.1,(p.2.2+q)%4)else if r=2 then(0-p.1,0-p.2.1,(p.2.2+q)%4)else(p.2.1,0-p.1,(p.2.2+q)%4)
theorem sZ{f}:∀(l:List S3),(∀p∈l,f p=p)->l.map f=l|[],_=>rfl|p::l,h=>by rw[apU,h p apN,sZ l λq a=>h q (apI _ a)]
noncomputable def lx:List Int->List Int->Bool|[],[]=>false|[],_::_=>true|_::_,[]=>false|x::xs,y::ys=>if x=y then lx xs ys else decide (x<y)
end FM
set_option autoImplicit true
set_option relaxedAutoImplicit true
namespace L2
open PySem PySem.Spec PyProof.Rows
noncomputable def dw(a:List (Str×Addr)):List (Str×NameKind)->List (Str×Addr)->List (Str×Addr)|[],acc=>acc|(n,k)::r,acc=>if k==.free then match a.lookup n with|some c=>dw a r ((n,c)::acc)|none=>dw a r acc else dw a r acc
def eM (h:∀y∈scope.names,y.2=.free->(env.cells.lookup y.1).isSome=true):closureFor scope env=pure (dw env.cells scope.names []):=by
 have all:∀(a:List (Str×NameKind))(b:List (Str×Addr)),(∀y∈a,y.2=.free->(env.cells.lookup y.1).isSome=true)->(forIn a b λ(x:Str×NameKind)r=>match x with|(name,kind)=>if(kind==NameKind.free)=true then do let c <-cellOf env name;pure (ForInStep.yield ((name,c)::r))else pure (ForInStep.yield r))=pure (dw env.cells a b):=by intro a;induction a with|nil=>intro b _;rfl|cons y r ih=>
   intro b l;obtain⟨n,k⟩:=y;rw[asN];have j:=λd=>ih d λz m=>l z (apI _ m);by_cases f:(k==NameKind.free)=true
   .have g:k=.free:=by simpa using f
    obtain⟨c,i⟩:=aqr.mp (l (n,k) apN g);have o:cellOf env n=pure c:=by unfold cellOf;rw[i]
    simp only[dw,f,arc,i];rw[o];simpa using j ((n,c)::b)
   .simp only[dw,f,asF];simpa using j b
 have e:=all scope.names [] h;unfold closureFor;(simpa using e)
theorem cY :∀b a,(dw cells b a).lookup x=some c->a.lookup x=some c\/cells.lookup x=some c
|[],a,h=>.inl h|(n,k)::r,a,h=>by
 unfold dw at h;split at h;.cases e:cells.lookup n with|none=>rw[e]at h;exact cY r _ h|some d=>
  rw[e]at h;rcases cY r _ h with q|q
  .rw[aqh]at q;split at q;.exact .inr (by grind)
   .exact .inl q
  .exact .inr q
 .exact cY r _ h
theorem gL :∀b(a:List (Str×Addr)),(a.lookup x).isSome=true->((dw cells b a).lookup x).isSome=true
|[],a,h=>h|(n,k)::r,a,h=>by
 unfold dw;split;.cases e:cells.lookup n with|none=>exact gL r _ h|some d=>
  refine gL r _ ?_;rw[aqh];split;.rfl
  .exact h
 .exact gL r _ h
theorem lq :∀a f,(x,NameKind.free)∈a->(cells.lookup x).isSome=true->((dw cells a f).lookup x).isSome=true
|(n,k)::r,f,g,b=>by
 rcases apJ.mp g with e|g;.cases e;obtain⟨c,b⟩:=aqr.mp b;unfold dw;simp only[b];refine gL r _ ?_;simp
 .unfold dw;split;.cases e:cells.lookup n with|none|some d=>exact lq r _ g b
  .exact lq r _ g b
theorem cz{a:Env}{x}:∀{b:List (Str×NameKind)}{k},(b.map λ(n,k)=>if k==NameKind.free&&a.scope.kind==.function&&a.kindOf n==some .cell then(n,NameKind.cell)else(n,k)).lookup x=some k->b.lookup x=some k\/k=.cell/\b.lookup x=some .free
|[],_,h=>by simp at h|(n,k0)::r,k,h=>by
  have g:=@cz a x r k;have c:List.lookup x ((if(k0==NameKind.free&&a.scope.kind==.function&&a.kindOf n==some .cell)=true then(n,NameKind.cell)else(n,k0))::r.map λ(n,k)=>if k==NameKind.free&&a.scope.kind==.function&&a.kindOf n==some .cell then(n,NameKind.cell)else(n,k))=some k:=h
  cases e:x==n with|true=>
   rw[aqh,e];by_cases d:(k0==NameKind.free&&a.scope.kind==.function&&a.kindOf n==some .cell)=true
   .rw[apB d,aqh,e]at c;have f:k0=.free:=by simp only[apT]at d;simpa using d.1.1
    cases c;exact .inr ⟨rfl,by rw[f]⟩
   .rw[apA d,aqh,e]at c;exact .inl c|false=>
   rw[aqh,e];by_cases d:(k0==NameKind.free&&a.scope.kind==.function&&a.kindOf n==some .cell)=true;.rw[apB d,aqh,e]at c;exact g c
   .rw[apA d,aqh,e]at c;exact g c
section
variable{X:Cx}{pins:List (Addr×Obj)}{σ:St}{H:Hp}{s:Shared}
def HOk.yj{P w h a o}(x:HOk P w H h)(d:H a=none)(new:dH P w (upd H a o) h a o):HOk P w (upd H a o) h:=λb u e=>by
 by_cases f:b=a;.subst f;rw[av]at e;cases e;exact new
 .rw[ak f]at e;exact(x b u e).wC (λc v _ q=>q) (λc q=>by rw[ak (bo q d)];exact q) λc g q=>by rw[ak (bo q d)];exact q
theorem Inv.yj (I:Inv X pins σ H s)(hn:H a=none)(ha:X.s₀.heap.objs.size<=a)(hL:a≠X.env.locals)(hc:∀x c,X.env.cells.lookup x=some c->c≠a)(hp:∀p∈X.pn++pins,p.1≠a)(new:dH X.prog X.w (upd H a o) s.heap a o):Inv X pins σ (upd H a o) s where
 ok:=I.ok;os:=I.os;bare:=I.bare;base:=⟨I.base.keep,I.base.slot,λb u q n hx=>by rw[ak (apM (apE (apH q) ha))];exact I.base.free b u q n hx,I.base.there,λb xs q=>by have z:=I.base.tups b xs q;rw[ak (bo z hn)];exact z,λb u v q=>by have z:=I.base.frzs b u v q;rw[ak (bo z hn)];exact z,λb ps q=>by obtain⟨more,z⟩:=I.base.tbls b ps q;exact⟨more,by rw[ak (bo z hn)];exact z⟩⟩;loc:=I.loc;cell:=I.cell;free:=by rw[ak (apO hL)];exact I.free
 freeC:=λx c e=>by rw[ak (hc x c e)];exact I.freeC x c e
 pin:=λp hp'=>by obtain⟨e,n,r⟩:=I.pin p hp';exact⟨e,by rw[ak (hp p hp')];exact n,r⟩
 hok:=I.hok.yj hn new;len:=I.len
end
abbrev Cx.tri(X:Cx)(E:Value->Shared->Prop)(pn:List (Addr×Obj)):Cx:={X with xe:=E,pn:=pn}
theorem Cx.Ok.tri{X:Cx}(ok:X.Ok)(E)(a):(X.tri E a).Ok:=⟨ok.mod,ok.kind,ok.glob,ok.blt,ok.above,ok.inj,ok.has,ok.cab,ok.hd,ok.frames,ok.stk,ok.exf,ok.bs,ok.bsz,ok.noex,ok.exfs,ok.rC,ok.frf⟩
section
variable{X:Cx}{pins:List (Addr×Obj)}{σ:St}{H:Hp}{s:Shared}
theorem Inv.tri(I:Inv X pins σ H s)(E:Value->Shared->Prop):Inv (X.tri E (X.pn++pins)) [] σ H s:=⟨I.ok.tri E _,I.os,I.bare,I.base,I.loc,I.cell,I.free,I.freeC,λp a=>I.pin p (by simpa using a),I.hok,I.len⟩
end
noncomputable def hd1(y:Str):Str:=⟨y.cps.push 32⟩
def hid(scope:Scope)(y:Str):Str:=match scope.names.lookup y with|some .local=>hd1 y|_=>y
set_option tactic.hygienic true
def akq (h:hid scope y=x):x=hd1 y/\scope.names.lookup y=some .local\/x=y/\scope.names.lookup y≠some .local:=by
 unfold hid at h;split at h;.rename_i e;exact .inl ⟨h.symm,e⟩
 .rename_i e;exact .inr ⟨h.symm,e⟩
set_option tactic.hygienic false
abbrev Cx.comp(X:Cx)(scope:Scope)(C:Addr)(ts:List Str)(a:Shared)(b:Hp)(c:List Addr):Cx:={X with N:=ts++X.N.map (hid scope),s₀:=a,H₀:=b,env:=compEnvC scope (dw X.env.cells scope.names []) C X.env,outer:=X.stack,stack:=X.stack,ex:=c,fn:=λ_=>false,pn:=[],xe:=λ_ _=>False}
structure CompLook(X:Cx)(scope:Scope):Prop where
 kind:scope.kind=.function
 nocell:scope.names.all λy=>y.2!=.cell=true
 names:scope.names.all λy=>y.2!=.local||scope.names.lookup y.1==some .local=true
 free:scope.names.all λy=>y.2!=.free||X.env.scope.names.lookup y.1==some .cell||X.env.scope.names.lookup y.1==some .free=true
 apart:(scope.names.all λy=>(scope.names.lookup (hd1 y.1)).isNone)=true
structure CompScope(X:Cx)(scope:Scope)(ts:List Str):Prop where
 kind:scope.kind=.function
 nocell:∀y∈scope.names,y.2≠.cell
 names:∀y∈scope.names,y.2=.local->scope.names.lookup y.1=some .local
 free:∀y∈scope.names,y.2=.free->X.env.scope.names.lookup y.1=some .cell\/X.env.scope.names.lookup y.1=some .free
 apart:∀y∈scope.names,scope.names.lookup (hd1 y.1)=none
theorem CompLook.scope{X:Cx}{scope:Scope}{ts:List Str}(L:CompLook X scope):CompScope X scope ts where
 kind:=L.kind;nocell:=λy hy=>by simpa using aqn.mp L.nocell y hy
 names:=λy hy e=>by have h:=aqn.mp L.names y hy;rw[e]at h;simpa using h
 free:=λy hy e=>by have h:=aqn.mp L.free y hy;rw[e]at h;simpa using h
 apart:=λy hy=>by simpa using aqn.mp L.apart y hy
noncomputable def abw:List Str->Bool|[]=>true|x::r=>!(r.any λy=>decide (y=x))&&abw r
theorem qC:∀{N},abw N=true->N.Nodup|[],_=>List.nodup_nil|x::r,h=>by simp [abw]at h;exact aqz.mpr ⟨λa=>h.1 x a rfl,qC h.2⟩
section
variable{X:Cx}{pins:List (Addr×Obj)}{σ:St}{H:Hp}{s:Shared}
def vL{scope:Scope}{ts:List Str}{C:Addr}{fp:List Addr}(S:CompScope X scope ts)(I:Inv X pins σ H s)(hf:∀b∈fp,vU X pins H b)(hfl:∀b∈fp,b<s.heap.objs.size)(hC:s.heap.objs.size<=C):(X.comp scope C ts s H fp).Ok where
 mod:=I.ok.mod;kind:=S.kind;glob:=I.ok.glob;blt:=I.ok.blt;above:=hC;inj:=λx y c e1 e2=>by have q1:=(cY scope.names [] e1).resolve_left (by simp);have q2:=(cY scope.names [] e2).resolve_left (by simp);exact I.ok.inj x y c q1 q2
 has:=λx hx=>by
  have hx':scope.names.lookup x=some .free:=by
   rcases hx with hx|hx
   .rcases cz hx with q|⟨_,q⟩;.exact absurd rfl (S.nocell _ (aqj q))
    .exact q
   .rcases cz hx with q|⟨q,_⟩;.exact q
    .cases q
  have hm:=aqj hx';obtain⟨c,hc⟩:=I.ok.has x (S.free _ hm rfl);exact aqr.mp (lq scope.names [] hm (by rw[hc];rfl))
 cab:=λx c h _=>by cases h
 hd:=I.ok.hd;frames:=I.ok.frames;stk:=.inl rfl;exf:=λb hb=>⟨apM (apE (hfl b hb) hC),λx c e=>by have q:=(cY scope.names [] e).resolve_left (by simp);exact(hf b hb).2.2.2.2.1 x c q⟩;bs:=I.bs;bsz:=apD I.ok.bsz I.sz;noex:=λb o e hb=>by
  rcases(hf b hb).2.2.2.1 with z|z;.exact I.ok.noex b o e z
  .exact absurd (apE (apH e) (apD I.ok.bsz z)) (aqP _)
 exfs:=λb hb z=>by
  rcases apJ.mp (I.wA b z)with e|e;.exact(hf b hb).2.1 e
  .exact(hf b hb).2.2.1 e
 rC:=I.stack;frf:=I.uz
def zG{scope:Scope}{ts:List Str}{C:Addr}{fp:List Addr}{s4:Shared}(S:CompScope X scope ts)(I:Inv X pins σ H s)(hf:∀b∈fp,vU X pins H b)(hfl:∀b∈fp,b<s.heap.objs.size)(hC:s.heap.objs.size<=C)(ho:s4.os=s.os)(hg:s4.gens=s.gens)(hk:∀b o,s.heap.get? b=some o->s4.heap.get? b=some o){m:Str->Option Value}(hn:s4.heap.Ns C m):Inv (X.comp scope C ts s H fp) [] (List.replicate ts.length none++σ) H s4 where
 ok:=vL S I hf hfl hC;os:=ho;bare:=by rw[hg];exact I.bare
 base:=Un.kept hk;loc:=⟨m,hn,λi x v e1 e2 e3=>by
  have hi:ts.length<=i:=by
   rcases Nat.lt_or_ge i ts.length with h|h;.rw[aqp (by simpa using h),aqQ]at e2;simp[h]at e2
   .exact h
  rw[aql (by simpa using hi)]at e2;rw[aql hi]at e1;simp only[ari]at e2;rw[apX]at e1;obtain⟨y,ey,hy⟩:=aqe.mp e1;have hv:scope.names.lookup x≠none:=by
   rcases e3 with q|q|q;.rcases cz q with q|⟨_,q⟩<;>(rw[q];exact nofun)
   .rcases cz q with q|⟨_,q⟩<;>(rw[q];exact nofun)
   .rcases cz q with q|⟨_,q⟩<;>(rw[q];exact nofun)
  have hxy:x=y/\scope.names.lookup y≠some .local:=by
   rcases akq hy with z|z;.exact absurd (by rw[z.1];exact S.apart _ (aqj z.2)) hv
   .exact z
  have e1:X.N[i-ts.length]?=some x:=by rw[ey,hxy.1]
  have hap:scope.names.lookup x≠some .local:=by rw[hxy.1];exact hxy.2
  have hfree:scope.names.lookup x=some .free:=by
   rcases e3 with q|q|q
   .rcases cz q with q|⟨q,_⟩;.exact absurd q hap
    .cases q
   .rcases cz q with q|⟨_,q⟩;.exact absurd rfl (S.nocell _ (aqj q))
    .exact q
   .rcases cz q with q|⟨q,_⟩;.exact q
    .cases q
  have hm:=aqj hfree;have hk0:=S.free _ hm rfl;obtain⟨m0,_,hl⟩:=I.loc;obtain⟨u,r,l⟩:=hl (i-ts.length) x v e1 e2 (hk0.elim (λq=>.inr (.inl q)) λq=>.inr (.inr q));refine⟨u,r,?_⟩;rcases l with⟨kl,_⟩|⟨_,c,ec,z⟩
  .exfalso;have kl':X.env.scope.names.lookup x=some .local:=kl;rcases hk0 with q|q;.rw[q]at kl';cases kl'
   .rw[q]at kl';cases kl'
  .have kk:(X.comp scope C ts s H fp).env.kindOf x=some .cell\/(X.comp scope C ts s H fp).env.kindOf x=some .free:=by
    rcases e3 with q|q|q
    .rcases cz q with q|⟨q,_⟩;.exact absurd q hap
     .cases q
    .exact .inl q
    .exact .inr q
   obtain⟨c',ec'⟩:=(vL S I hf hfl hC).has x kk;have ec2:=(cY scope.names [] ec').resolve_left (by simp);rw[ec]at ec2;cases ec2;obtain⟨o,ho',hd⟩:=z;exact .inr ⟨kk,c,ec',o,hk _ o ho',hd⟩⟩;cell:=λx c e=>by have q:=(cY scope.names [] e).resolve_left (by simp);obtain⟨v,o,ho',hd⟩:=I.cell x c q;exact⟨v,o,hk _ o ho',hd⟩
 free:=I.hok.fresh hC;freeC:=λx c e=>I.freeC x c ((cY scope.names [] e).resolve_left (by simp));pin:=λp hp=>by cases hp
 hok:=I.hok.kept hk;len:=by rw[aqc,aqc,ari,I.len,apR]
end
section
variable{prog:Program}{w:World}{A:Around}{R:Result->Shared->Prop}{s:Shared}
def i0{u b z E scope pos it B a}(I:Nat->Shared->Prop)(turn:∀n s,I n s->wpAny (model prog w) A (pyNext it) (λr d=>match r with|none=>R (.ok .next) d|some v=>wpAny (model prog w) A (letOwnedTupleGo b it v) (λ_ g=>wpAny (model prog w) A (assign b a v) (λ_ p=>wpAny (model prog w) A (forIn E true λc r=>if r=true then do let ok <-isTrue c a (eval c a);pure (ForInStep.yield ok)else pure (ForInStep.yield r)) (λok j=>if ok=true then wpAny (model prog w) A (eval u a) (λx k=>wpAny (model prog w) A (call (.builtin "list.append") [B,x]) (λ_ l=>∃m,m<n/\I m l) (notedBy (model prog w) A a λe i=>R (.error e) i) k) (notedBy (model prog w) A a λe i=>R (.error e) i) j else∃m,m<n/\I m j) (notedBy (model prog w) A a λe i=>R (.error e) i) p) (notedBy (model prog w) A a λe i=>R (.error e) i) g) (notedBy (model prog w) A a λe i=>R (.error e) i) d) (notedBy (model prog w) A a λe i=>R (.error e) i) s)(n)(h:I n s):codeAny (model prog w) A (.compLoop (.ListComp u [⟨b,z,E,0⟩] scope pos) 0 it B a) R s:=by refine codeAny_loop rfl I (λn s G=>wpAny_noted ?_) n h;rw[compTurn_list];refine apu (arb (apu (apZ (turn n s G) (λr d o=>?_) λ_ _ f=>f)));cases r with|none=>exact apF o|some v=>refine apu (apZ o (λ_ g t=>?_) λ_ _ f=>f);refine apu (apZ t (λ_ p C=>apu (apZ C (λok j q=>?_) λ_ _ f=>f)) λ_ _ f=>f);cases ok with|false=>exact apF ⟨rfl,q⟩|true=>exact apu (apu (apZ q (λx k y=>apu (apZ y (λ_ l D=>apF (apF ⟨rfl,D⟩)) λ_ _ f=>f)) λ_ _ f=>f))
end
def x5(X:Cx)(b:List Expr)(t:TT):Prop:=∀(a:List (Addr×Obj))(s:Shared)(σ:St)(H:Hp)(Q:Bool->Hp->Prop),Inv X a σ H s->t σ H Q->wpAny (model X.prog X.w) X.A (forIn b true λc r=>if r=true then do let ok <-isTrue c X.env (eval c X.env);pure (ForInStep.yield ok)else pure (ForInStep.yield r)) (TP X a σ Q) X.xe s
def g9:TT:=λ_ H Q=>Q true H
def w4:x5 X [] g9:=λa s σ H Q I h=>wpAny_tests_nil ⟨H,I,h⟩
def uf(J:It)(g:TG)(o:TT)(n:TE)(h:St)(l:Hp)(F:V->Hp->Prop):Prop:=∃W:Nat->Nat->List V->St->Hp->Prop,(∃m,W 0 m [] h l)/\∀i m d σ H,W i m d σ H->d.length<sizeLine/\((J.stop i H/\∀D,H D=none->F (.ref D) (upd H D (.lst d)))\/J.go i H/\∃N:List V->St->Hp->Prop,(∀e c f,N e c f->∃j,j<m/\W (i+1) j e c f)/\∀x f,J.yld i H x f->g x σ f λa q=>o a q λb k=>if b=true then n a k λy p=>N (d++[y]) a p else N d a k)
def n3(c:Hp->Prop)(J:It)(g:TG)(p:TT)(o:TE)(j:St)(n:Hp)(F:V->Hp->Prop):Prop:=∃W:Nat->Nat->List V->St->Hp->Prop,(∃m,W 0 m [] j n)/\∀i m e σ H,W i m e σ H->c H/\e.length<sizeLine/\((J.stop i H/\∀D,H D=none->F (.ref D) (upd H D (.lst e)))\/J.go i H/\∃N:List V->St->Hp->Prop,(∀f d h,N f d h->∃k,k<m/\W (i+1) k f d h)/\∀x h,J.yld i H x h->g x σ h λa r=>p a r λb l=>if b=true then o a l λy q=>N (e++[y]) a q else N e a l)
theorem n3.w    (h:n3 c J g tt te σ0 H1 F):uf J g tt te σ0 H1 F:=by obtain⟨W,a,t⟩:=h;exact⟨W,a,λi m b σ H w=>(t i m _ σ H w).2⟩
def uf.c    (h:uf J g tt te σ0 H1 F):n3 (λ_=>True) J g tt te σ0 H1 F:=by obtain⟨W,a,t⟩:=h;exact⟨W,a,λi m b σ H w=>⟨trivial,t i m _ σ H w⟩⟩
def aaF(k:Nat)(wi:TI)(g:TG)(c:TT)(b:TE):TE:=λσ H Q=>wi σ H λJ a=>uf J g c b (List.replicate k none++σ) a Q
section
variable{X:Cx}{tg elt iter:Expr}{ifs:List Expr}{scope:Scope}{ts:List Str}{wi:TI}{g:TG}{tt:TT}{te:TE}
def iR{pins}{σ:St}{H j pos it k tn J}{Q:VK}{RR:Value->Addr->Result->Shared->Prop}{E}(S:CompScope X scope ts){cl cc}(M:Addr->Value->Shared->Prop)(c2:∀C U,cc U->cl ((X.comp scope C ts j H k).tri (M C) []) U)(hg:∀C,PG ((X.comp scope C ts j H k).tri (M C) []) tg g)(ht:∀C,x5 ((X.comp scope C ts j H k).tri (M C) []) ifs tt)(he:∀C,PE ((X.comp scope C ts j H k).tri (M C) []) elt te)(I:Inv X pins σ H j)(T:Turn X.prog X.w X.K tg J k it tn cl)(st:tn 0 j.heap)(hf:∀b∈k,vU X pins H b)(hW:n3 cc J g tt te (List.replicate ts.length none++σ) H Q)(fin:∀(C D:Addr)U B m Y,C≠D->j.heap.objs.size<=C->j.heap.objs.size<=D->B.heap.Ns C m->U C=none->Inv X pins σ (upd U D (.lst Y)) B->Q (.ref D) (upd U D (.lst Y))->RR (.ref D) C (.ok .next) B)(hx:∀(C D:Addr)e B,j.heap.objs.size<=C->M C e B->notedBy (model X.prog X.w) X.A (compEnvC scope (dw X.env.cells scope.names []) C X.env) (λe B=>RR (.ref D) C (.error e) B) e B):wpAny (model X.prog X.w) X.A (newList []) (λc1 O=>wpAny (model X.prog X.w) X.A (newFunctionEnv scope X.env.globals (dw X.env.cells scope.names []) [] X.env.qual none .none (some X.env)) (λa4 b9=>codeAny (model X.prog X.w) X.A (.compStart (.ListComp elt [⟨tg,iter,ifs,0⟩] scope pos) 0 (.ref it) c1 {a4 with scope:=relabel scope X.env}) (RR c1 a4.locals) b9) E O) E j:=by
 refine arM (wpAny_newFunctionEnv S.nocell (by intro y hy;simp at hy) (λK w s=>?_) S.kind);dsimp only at w s⊢;generalize hH2:j.heap.push {cls:=.type "list",dict:=none,data:=.seq ([]:List Value).toArray}=H2 at w s⊢;have b5:H2.objs.size=j.heap.objs.size+1:=by rw[<-hH2,aqS]
 have b6:j.heap.objs.size≠H2.objs.size:=by rw[b5];exact apM (aqT _)
 have t:j.heap.objs.size<=H2.objs.size:=by rw[b5];exact asd _
 have b8:∀b o,j.heap.get? b=some o->K.get? b=some o:=λb o e=>s.extBut b o (by rw[b5];exact apM (Nat.lt_succ_of_lt (apH e))) (apw _ (hH2▸apw _ e));have c5:K.PlainList j.heap.objs.size #[]:=⟨_,s.extBut _ _ b6 (apw _ (hH2▸apL _ rfl))⟩;have b7:∀b∈k,b<j.heap.objs.size:=λb l=>by obtain⟨o,e,_⟩:=T.obj _ _ st b l;exact apH e
 generalize hCdef:H2.objs.size=C at *;generalize hDdef:j.heap.objs.size=D at *;have a9:D∉k:=λhm=>aqP _ (b7 _ hm);have a3:((X.comp scope C ts j H k).tri (M C) []).Ok:=(vL S I hf (by rw[hDdef];exact b7) (by rw[hDdef];exact t)).tri _ _;have a0:∀x c,((X.comp scope C ts j H k).tri (M C) []).env.cells.lookup x=some c->c<D:=λx c e=>by have q:=(cY scope.names [] e).resolve_left (by simp);obtain⟨v,z⟩:=I.cell x c q;rw[<-hDdef];exact z.lt
 have a2:∀{U:Hp}{pl:List (Addr×Obj)},(∀b∈k,U b=none)->(∀p∈pl,p.1∉k)->∀b∈k,vU ((X.comp scope C ts j H k).tri (M C) []) pl U b:=λhn G b l=>⟨hn b l,(a3.exf b l).1,a3.exfs b l,.inl l,(a3.exf b l).2,λp e3 z=>G p (by simpa using e3) (z▸l)⟩;obtain⟨W,⟨m0,w0⟩,turn⟩:=hW;have a6:∀O:Shared,O={j with heap:=K,toks:=j.toks+([]:List (Str×Value)).length}->codeAny (model X.prog X.w) X.A (.compLoop (.ListComp elt [⟨tg,iter,ifs,0⟩] scope pos) 0 (.ref it) (.ref D) (compEnvC scope (dw X.env.cells scope.names []) C X.env)) (RR (.ref D) C) O:=by
  rintro O rfl;have d5:Inv (X.comp scope C ts j H k) [] (List.replicate ts.length none++σ) H {j with heap:=K,toks:=j.toks+([]:List (Str×Value)).length}:=zG S I hf (by rw[hDdef];exact b7) (by rw[hDdef];exact t) rfl rfl b8 w;have I0:Inv ((X.comp scope C ts j H k).tri (M C) []) [] (List.replicate ts.length none++σ) H {j with heap:=K,toks:=j.toks+([]:List (Str×Value)).length}:=d5.tri _;refine i0 (λn B=>∃i Y c6 U h,Inv ((X.comp scope C ts j H k).tri (M C) []) [] c6 U B/\tn i B.heap/\(∀b∈k,U b=none)/\B.heap.PlainList D h/\Vals Y h.toList/\U D=none/\W i n Y c6 U) ?_ m0 ⟨0,[],_,H,#[],I0,T.keep _ _ _ st λb _ o e=>b8 b o e,λb l=>(hf b l).1,c5,.nil,I.hok.fresh (by rw[hDdef];exact apG _),w0⟩;rintro n s3⟨i,Y,Z,H3,h,I3,c9,c8,e5,v3,d3,w3⟩;obtain⟨c3,d8,b0⟩:=turn i n Y Z H3 w3;obtain⟨R,eD⟩:=id e5;have d1:∀v,({cls:=.type "list",data:=.seq h R}:Obj).data≠.cell v:=λv z=>by cases z
  have a1:=b6;have a5:D ∉((X.comp scope C ts j H k).tri (M C) []).fs:=λl=>by obtain⟨_,o,ho,_⟩:=a3.rC.mem l;exact absurd (arC (apH ho) hDdef) (aqP _)
  rcases b0 with⟨d0,qn⟩|⟨go,N,hN,step⟩;.-- the end
   have a7:Inv ((X.comp scope C ts j H k).tri (M C) []) [(D,{cls:=.type "list",data:=.seq h R})] Z H3 s3:=I3.fE λp G=>by
    obtain rfl:p=(D,({cls:=.type "list",data:=.seq h R}:Obj)):=by simpa using G
    exact⟨eD,d3,a1,a5,d1⟩
   refine apZ (T.done ((X.comp scope C ts j H k).tri (M C) []) rfl rfl rfl i _ s3 Z H3 (λ_ _=>False) (c2 C H3 c3) a7 (a2 c8 λp G=>by
    obtain rfl:p=(D,({cls:=.type "list",data:=.seq h R}:Obj)):=by simpa using G
    exact a9) c9 d0) (λr s4⟨hr,I4⟩=>?_) λ_ _ f=>f.elim;subst hr;have pD:=(I4.pin (D,{cls:=.type "list",data:=.seq h R}) (by simp)).1;obtain⟨m4,e4,_⟩:=I4.loc;have I5:=I.aeZ I4.os I4.base I4.hok I4.bare λb l=>⟨(hf b l).2.2.2.1,(hf b l).2.1,(hf b l).2.2.2.2.1,(hf b l).2.2.2.2.2⟩;have e0:=ap4 (arC I.lt hDdef);have d9:∀x c,X.env.cells.lookup x=some c->c≠D:=λx c e=>by obtain⟨v,z⟩:=I.cell x c e;exact apM (arC z.lt hDdef)
   have e2:∀p∈X.pn++pins,p.1≠D:=λp G=>apM (arC (apH (I.pin p G).1) hDdef);have new:dH X.prog X.w (upd H3 D (.lst Y)) s4.heap D (.lst Y):=⟨arX d8,h.toList,R,v3,by simpa using pD⟩;have I6:=I5.yj d3 (by rw[<-hDdef];exact I.sz) e0 d9 e2 new;exact fin C D H3 s4 m4 Y (apO b6) t (apG _) e4 I4.free I6 (qn D d3)
  .-- a turn
   have a7:Inv ((X.comp scope C ts j H k).tri (M C) []) [(D,{cls:=.type "list",data:=.seq h R})] Z H3 s3:=I3.fE λp G=>by
    obtain rfl:p=(D,({cls:=.type "list",data:=.seq h R}:Obj)):=by simpa using G
    exact⟨eD,d3,a1,a5,d1⟩
   have c0:∀p∈[((D,{cls:=.type "list",data:=.seq h R}):Addr×Obj)],p.1∉k:=λp G=>by
    obtain rfl:p=(D,({cls:=.type "list",data:=.seq h R}:Obj)):=by simpa using G
    exact a9
   refine apZ (T.item ((X.comp scope C ts j H k).tri (M C) []) rfl rfl rfl i _ s3 Z H3 (λ_ _=>False) (c2 C H3 c3) a7 (a2 c8 c0) c9 go) (λr s4 A=>?_) λ_ _ f=>f.elim;obtain⟨u,hr,h4⟩:=A;subst hr;refine apZ h4 (λ_ s5 A=>?_) λ_ _ f=>f.elim;obtain⟨x,H5,I5,r5,y5,a8,d4⟩:=A;have d2:=I5.pinned (a2 d4 c0) (T.obj _ _ a8);have back:∀{c7:St}{H7:Hp}{s7:Shared},Inv ((X.comp scope C ts j H k).tri (M C) []) ([(D,{cls:=.type "list",data:=.seq h R})]++sM k s5.heap) c7 H7 s7->tn (i+1) s7.heap/\(∀b∈k,H7 b=none)/\s7.heap.get? D=some {cls:=.type "list",data:=.seq h R}/\H7 D=none:=λ{c7 H7 s7}I7=>by have pD:=I7.pin (D,({cls:=.type "list",data:=.seq h R}:Obj)) (apQ _ (ap0 _ apN));refine⟨T.keep _ _ _ a8 λb l o e=>(I7.pin (b,o) (apQ _ (apQ _ (iJ l e)))).1,λb l=>?_,pD.1,pD.2.1⟩;obtain⟨o,e,d⟩:=T.obj _ _ a8 b l;exact(I7.pin (b,o) (apQ _ (apQ _ (iJ l e)))).2.1
   refine apZ (hg C _ s5 Z H5 x u _ d2 r5 (step x H5 y5)) (λ_ s6 A=>?_) λe B f=>hx C D e B t f;obtain⟨P,H6,I6,q6⟩:=A;refine apZ (ht C _ s6 P H6 _ I6 q6) (λb s7 A=>?_) λe B f=>hx C D e B t f;obtain⟨H7,I7,q7⟩:=A;cases b with|false=>obtain⟨m',hm,w7⟩:=hN _ _ _ (by simpa using q7);obtain⟨b1,b2,b3,b4⟩:=back I7;exact⟨m',hm,i+1,Y,P,H7,h,I7.fE λp G=>absurd G aqa,b1,b2,⟨R,b3⟩,v3,b4,w7⟩|true=>
    have d7:te P H7 λy H4=>N (Y++[y]) P H4:=by simpa using q7
    refine apZ (he C _ s7 P H7 _ I7 d7) (λu8 s8 A=>?_) λe B f=>hx C D e B t f;obtain⟨y,H8,I8,r8,q8⟩:=A;obtain⟨m',hm,w8⟩:=hN _ _ _ q8;obtain⟨b1,b2,b3,b4⟩:=back I8;have e6:h.size<=sizeLine:=by have e1:=v3.length;simp only[ar9]at e1;omega
    refine wpAny_list_append_plain ⟨R,b3⟩ λh9 d6 c4=>?_;have I9:Inv ((X.comp scope C ts j H k).tri (M C) []) [] P H8 {s8 with heap:=h9}:=(I8.fE λp G=>absurd G aqa).turned (λb o l e=>(c4.2 b l).trans e) b4 a1 (.inr (Nat.le_of_eq hDdef)) (λx c e=>apM (a0 x c e)) λp G=>absurd G aqa;refine⟨m',hm,i+1,Y++[y],P,H8,h.push u8,I9,T.keep _ _ _ b1 λb l o e=>(c4.2 b λz=>a9 (z▸l)).trans e,b2,d6,?_,b4,w8⟩;simpa using v3.append (.cons r8 .nil)
 exact codeAny_compStart_list (a6 _ rfl) (T.self _ 0 _ _ _ (T.keep _ _ _ st λb _ o e=>b8 b o e) (a6 _ rfl))
def w5 (L:CompLook X scope)(u:X.calm=true)(O:PI X tg iter wi)(hg:∀C d a i,PG (X.comp scope C ts d a i) tg g)(Z:∀C d a i,x5 (X.comp scope C ts d a i) ifs tt)(he:∀C d a i,PE (X.comp scope C ts d a i) elt te)(hs:∀x,foldedSetIterable iter X.env x=pure x:=by intro _;rfl):PE X (.ListComp elt [⟨tg,iter,ifs,0⟩] scope pos) (aaF ts.length wi g tt te):=by
 intro j s σ H Q I h;have S:CompScope X scope ts:=L.scope;have f:=eM λy N hf=>by obtain⟨c,u⟩:=I.ok.has y.1 (S.free y N hf);rw[u];rfl
 rw[eval_ListComp];refine aq5 rfl hs f S.kind S.names (thn (O j s σ H _ I h) λxv s1 K=>thn K λG s2 h2=>?_);obtain⟨it,i,tn,J,H2,e,k,T,w,f2,E⟩:=h2;subst e;refine iR S _ (λ_ _ _=>u) (λC=>hg C _ _ _) (λC=>Z C _ _ _) (λC=>he C _ _ _) k T w f2 E.c ?_ λ_ _ _ _ _ z=>z.elim;intro C D H' P m ys n l hD M A U q;refine⟨m,M,λh' t=>?_⟩;have r:=ap4 (apE k.lt l);have B:=U.turned (t':=P.toks) (λb o Y e=>(t.2 b Y).trans e) (by rw[ak n];exact A) r (.inr (apD k.sz l)) (λx c e=>by obtain⟨v,q⟩:=k.cell x c e;exact apM (apE q.lt l)) λp R=>apM (apE (apH (k.pin p R).1) l);exact⟨.ref D,_,B,rfl,q⟩
def ie  (hN:X.N.Nodup)(O:X.N[i]?=some y)(w:X.env.scope.names.lookup y=some .local)(M:swapsWith (.ListComp elt [⟨tg,iter,ifs,0⟩] scope pos) (some (.Name y py)) spos.line X.env=pure true)(L:CompLook X scope)(G:X.calm=true)(hi:PI X tg iter wi)(hg:∀C d f n,PG (X.comp scope C ts d f n) tg g)(ht:∀C d f n,x5 (X.comp scope C ts d f n) ifs tt)(he:∀C d f n,PE (X.comp scope C ts d f n) elt te)(hs:∀x,foldedSetIterable iter X.env x=pure x:=by intro _;rfl):PS X (.Assign [.Name y py] (.ListComp elt [⟨tg,iter,ifs,0⟩] scope pos) spos) (ai0 (aaF ts.length wi g tt te) (aF i)):=by
 intro t s σ H Dn I h;have S:CompScope X scope ts:=L.scope;have k:=eM λy w hf=>by obtain⟨c,G⟩:=I.ok.has y.1 (S.free y w hf);rw[G];rfl
 rw[exec_Assign_Name_used _ _ _ _ M];refine apu (arb (apu ?_));refine apu (apZ (aq5 rfl hs k S.kind S.names (thn (hi t s σ H _ I h) λxv s1 h1=>thn h1 λR s2 h2=>?_)) (λ_ Y hq=>apF (apF hq)) λ_ _ e=>e);obtain⟨it,n,tn,J,H2,e,l,T,P,f2,hW⟩:=h2;subst e;refine iR S (λ_ _ _=>False) (λ_ _ _=>G) (λC=>hg C _ _ _) (λC=>ht C _ _ _) (λC=>he C _ _ _) l T P f2 hW.c ?_ λ_ _ _ _ _ z=>z.elim;intro C D H' Y m ys B u hD hn Q I' q;have r:=ap4 (apE l.lt u);refine aso (jO I' hN O (.inl w) (show RelV (.ref D) (.ref D)from rfl) (λA K j=>?_) (.inr w));obtain⟨a,j,ha⟩:=j;have N:a≠C:=by
  rcases ha with e|e;.rw[e];exact apO r
  .obtain⟨v,q⟩:=l.cell y a e;exact apM (apE q.lt u)
 refine⟨m,hn.sameBut j (apO N),λh' E=>?_⟩;have U:=K.turned (t':=A.toks) (λb o hb e=>(E.2 b hb).trans e) (by rw[ak B];exact Q) r (.inr (apD l.sz u)) (λx c e=>by obtain⟨v,q⟩:=l.cell x c e;exact apM (apE q.lt u)) λp Z=>apM (apE (apH (l.pin p Z).1) u);exact⟨_,_,U,q⟩
end
def IsD(K:W.Frag)(H:Hp):Nat->V->PyData->Prop|_,x,.none=>x=.non|_,x,.bool b=>x=.bl b|_,x,.int i=>x=.int i|_,x,.str z=>x=.str z/\PyData.strOk z=true|_,_,.dict _=>False|0,_,.tuple _=>False|0,_,.list _=>False|n+1,x,.tuple ds=>∃a c,x=.ref a/\SqT K H a c/\Paired (IsD K H n) c ds|n+1,x,.list ds=>∃a c,x=.ref a/\SqL K H a c/\Paired (IsD K H n) c ds
section
variable{X:Cx}{pins:List (Addr×Obj)}{σ:St}{H:Hp}{s:Shared}
theorem mR{h n R}(one:∀x d u,R x d->RelV x u->(∃b,Reads h u d b)/\d.canLay0=true/\d.depth<=n):∀{xs a us},Paired R xs a->Vals xs us->(∃b,ReadsAll h us a b)/\PyData.canLayAll0 a=true/\PyData.depthAll a<=n
|_,_,_,.nil,.nil=>⟨⟨_,.nil⟩,rfl,ap9 _⟩|_,_,_,.cons r t,.cons q t'=>by
 obtain⟨⟨b,g⟩,c,i⟩:=one _ _ _ r q;obtain⟨⟨bs,f⟩,e,j⟩:=mR one t t';refine⟨⟨_,.cons g f⟩,?_,?_⟩;.simp[PyData.canLayAll0,c,e]
 .simp [PyData.depthAll];omega
def Inv.reads(I:Inv X pins σ H s):∀n d x u,IsD X.K H n x d->RelV x u->(∃p,Reads s.heap u d p)/\d.canLay0=true/\d.depth<=n:=by intro n;induction n with
|zero=>intro d x u h r;cases d with|none=>subst h;cases r;exact⟨⟨_,.none⟩,rfl,ap9 _⟩|bool b=>subst h;cases r;exact⟨⟨_,.bool b⟩,rfl,ap9 _⟩|int i=>subst h;obtain⟨t,rfl⟩:=r;exact⟨⟨_,.int i t⟩,rfl,ap9 _⟩|str z=>obtain⟨rfl,c⟩:=h;obtain⟨t,rfl⟩:=r;exact⟨⟨_,.str z t⟩,by simpa[PyData.canLay0]using c,ap9 _⟩|dict kvs|tuple ds|list ds=>exact h.elim
|succ n ih=>intro d x u h r;cases d with|none=>subst h;cases r;exact⟨⟨_,.none⟩,rfl,ap9 _⟩|bool b=>subst h;cases r;exact⟨⟨_,.bool b⟩,rfl,ap9 _⟩|int i=>subst h;obtain⟨t,rfl⟩:=r;exact⟨⟨_,.int i t⟩,rfl,ap9 _⟩|str z=>obtain⟨rfl,c⟩:=h;obtain⟨t,rfl⟩:=r;exact⟨⟨_,.str z t⟩,by simpa[PyData.canLay0]using c,ap9 _⟩|dict kvs=>exact h.elim|tuple ds=>obtain⟨a,A,rfl,w,q⟩:=h;cases r;obtain⟨e,l,⟨o,g,f,k,j⟩,c⟩:=I.tuple w;obtain⟨⟨p,v⟩,m,y⟩:=mR (λx d u=>ih d x u) q l;exact⟨⟨_,.tuple g f j (by simpa using v)⟩,by simpa[PyData.canLay0]using m,by simp only[PyData.depth];omega⟩|list ds=>obtain⟨a,A,rfl,w,q⟩:=h;cases r;obtain⟨e,l,pl,c⟩:=I.list w;obtain⟨o,g,f,k,j⟩:=pl.isList;obtain⟨⟨p,v⟩,m,y⟩:=mR (λx d u=>ih d x u) q l;exact⟨⟨_,.list g f j (by simpa using v)⟩,by simpa[PyData.canLay0]using m,by simp only[PyData.depth];omega⟩
end
def IsD.mono{K:W.Frag}{H H':Hp}(f:∀a c,SqT K H a c->SqT K H' a c)(g:∀a c,SqL K H a c->SqL K H' a c):∀(n:Nat)(x:V)(d:PyData),IsD K H n x d->IsD K H' n x d:=by intro n;induction n with|zero=>intro x d h;cases d<;>exact h|succ n ih=>intro x d h;cases d with|tuple ds=>obtain⟨a,c,e,q,p⟩:=h;exact⟨a,c,e,f a c q,Paired.afT p ih⟩|list ds=>obtain⟨a,c,e,q,p⟩:=h;exact⟨a,c,e,g a c q,Paired.afT p ih⟩|none=>exact h|bool b=>exact h|int i=>exact h|str z=>exact h|dict kvs=>exact h
def aC.tup{K H H' a xs}(e:aC H H')(h:SqT K H a xs):SqT K H' a xs:=by
 rcases h with(h|⟨o,h⟩)|h;.exact .inl (.inl (e _ _ h))
 .exact .inl (.inr ⟨o,e _ _ h⟩)
 .exact .inr h
section
variable{X:Cx}
def ajH:OpR X (compareOp .Eq) λx y H Q=>∃n d e,IsD X.K H n x d/\IsD X.K H n y e/\X.A.units+n<cLine/\Q (.bl (PyData.eqv d e)) H:=by intro a s σ H x y v u Q I f c⟨n,d,e,j,b,p,q⟩;obtain⟨⟨m,k⟩,g,l⟩:=I.reads n d x v j f;obtain⟨⟨bs,i⟩,h,o⟩:=I.reads n e y u b c;exact SeqAt.compareEq_reads k i g h (by omega) (jJ (.bl _) H I rfl q)
def ajB:OpR X (compareOp .NotEq) λx y H Q=>∃n d e,IsD X.K H n x d/\IsD X.K H n y e/\X.A.units+n<cLine/\Q (.bl !PyData.eqv d e) H:=by intro a s σ H x y v u Q I f c⟨n,d,e,j,b,p,q⟩;obtain⟨⟨m,k⟩,g,l⟩:=I.reads n d x v j f;obtain⟨⟨bs,i⟩,h,o⟩:=I.reads n e y u b c;exact SeqAt.compareNe_reads k i g h (by omega) (jJ (.bl _) H I rfl q)
def ajG:OpR X (compareOp .In) λx y H Q=>∃n d a,IsD X.K H n x d/\(IsD X.K H (n+1) y (.list a)\/IsD X.K H (n+1) y (.tuple a))/\X.A.units+1+n<cLine/\Q (.bl (a.any λz=>PyData.eqv z d)) H:=by
 intro f s σ H x y v u Q I j g⟨n,d,a,l,b,p,q⟩;obtain⟨⟨o,i⟩,h,m⟩:=I.reads n d x v l j;rcases b with b|b;.obtain⟨⟨bs,e⟩,c,k⟩:=I.reads _ _ y u b g;exact SeqAt.in_list_reads e i (by simpa[PyData.canLay0]using c) h (by have:=arU (PyData.depthAll a) d.depth;omega) ⟨.bl _,H,I,rfl,q⟩
 .obtain⟨⟨bs,e⟩,c,k⟩:=I.reads _ _ y u b g;exact SeqAt.in_tuple_reads e i (by simpa[PyData.canLay0]using c) h (by have:=arU (PyData.depthAll a) d.depth;omega) ⟨.bl _,H,I,rfl,q⟩
def abo:OpR X (compareOp .NotIn) λx y H Q=>∃n d b,IsD X.K H n x d/\(IsD X.K H (n+1) y (.list b)\/IsD X.K H (n+1) y (.tuple b))/\X.A.units+1+n<cLine/\Q (.bl !b.any λz=>PyData.eqv z d) H:=by
 intro e s σ H x y v u Q I i f⟨n,d,b,l,a,p,q⟩;obtain⟨⟨o,h⟩,g,m⟩:=I.reads n d x v l i;rcases a with a|a;.obtain⟨⟨bs,c⟩,j,k⟩:=I.reads _ _ y u a f;exact SeqAt.notIn_list_reads c h (by assumption) g (by omega) ⟨.bl _,H,I,rfl,q⟩
 .obtain⟨⟨bs,c⟩,j,k⟩:=I.reads _ _ y u a f;exact SeqAt.notIn_tuple_reads c h (by assumption) g (by grind) ⟨.bl _,H,I,rfl,q⟩
def amK{x T pos}(c:Gl X x)(b:X.mg x=none)(a:bootBuiltins x=some (.type T))(d:x≠"__name__":=by decide)(e:Dbg x:=by decide):PE X (.Name x pos) (tC (.ty T)):=ahb c b a rfl d e
def TyV(K:W.Frag)(H:Hp)(x:V)(t:Value):Prop:=TyOf K H x t\/∃a b,x=.ref a/\t=.type "tuple"/\SqT K H a b
def vO:bV X (.builtin "isinstance") λf H Q=>∃x T t b,f=[x,.ty T]/\TyV X.K H x t/\W.kitOne X.K t (.type T)=some b/\Q (.bl b) H:=by
 intro c s σ H f p Q I r h;obtain⟨x,T,t,b,rfl,ty,e,q⟩:=h;obtain⟨u,n,rfl,d,j⟩:=vals2 r;cases j;rcases ty with ty|⟨a,m,rfl,rfl,k⟩;.exact abV I d ty e λtk=>⟨.bl b,H,I.tok _,rfl,q⟩
 .cases d;obtain⟨g,_,⟨o,i,l,_⟩,_⟩:=I.tuple k;exact aqI W.kitx_tuple I.kIn ⟨o,i,l⟩ e (λz=>nomatch z) λtk=>⟨.bl b,H,I.tok _,rfl,q⟩
end
abbrev St3:=Int×Int×Int
noncomputable def stV(p:St3):List V:=[.int p.1,.int p.2.1,.int p.2.2]
def ae4(K:W.Frag)(H:Hp)(v:V)(p:St3):Prop:=∃a,v=.ref a/\SqT K H a (stV p)
def ah1(K:W.Frag)(H:Hp)(v:V)(f:List St3):Prop:=∃a b,v=.ref a/\SqT K H a b/\Paired (ae4 K H) b f
def Spot(K:W.Frag)(H:Hp)(v:V)(x y:Int):Prop:=∃a,v=.ref a/\SqT K H a [.int x,.int y]
noncomputable def spD(p:Int×Int):PyData:=.tuple [.int p.1,.int p.2]
section
variable{K:W.Frag}{H H':Hp}{v:V}{p:St3}{f:List St3}{x y:Int}
def ae4.keep(e:aC H H')(h:ae4 K H v p):ae4 K H' v p:=let⟨a,r,q⟩:=h;⟨a,r,e.tup q⟩
def Spot.keep(e:aC H H')(h:Spot K H v x y):Spot K H' v x y:=let⟨a,r,q⟩:=h;⟨a,r,e.tup q⟩
theorem ah1.keep(e:aC H H')(h:ah1 K H v f):ah1 K H' v f:=let⟨a,b,r,q,t⟩:=h;⟨a,b,r,e.tup q,Paired.afT t λ_ _ z=>z.keep e⟩
end
def acm(p q:Int×Int):PyData.eqv (spD p) (spD q)=decide (p=q):=by obtain⟨a,b⟩:=p;obtain⟨d,e⟩:=q;simp only[spD,PyData.eqv,PyData.eqvAll,Bool.and_true];rw[ap2];simp[Prod.ext_iff]
def aD{H p}(h:H p=none)(o):aC H (upd H p o):=λb u q=>by rw[ak (bo q h)];exact q
end L2
set_option autoImplicit true
set_option relaxedAutoImplicit true
namespace L2
open PySem PySem.Spec PyProof.Rows
section
open PySem.AutoSeq1(wpAny_loadPart')
open PySem.MeetsSeq PySem.MeetsSeq2 PySem.MeetsSeq3 PySem.SeqAt
end
end L2
set_option autoImplicit true
set_option relaxedAutoImplicit true
namespace L2
open PySem PySem.Spec PyProof.Rows
section
variable{prog:Program}{w:World}{A:Around}{E:Value->Shared->Prop}{s:Shared}
def pF{it t i its x Q}(a:s.heap.IsTupleIter it t i)(h:s.heap.IsTuple t its)(k:its[i]?=some x)(j:∀e,e.IsTupleIter it t (i+1)->Heap.SameBut it s.heap e->Q x {s with heap:=e}):wpAny (model prog w) A (Builtin.SmallTypes.nextOf (.ref it)) Q E s:=by refine jK (id a) λo c g b=>?_;obtain⟨l,d,_,m,f⟩:=h;unfold Builtin.SmallTypes.nextOf;refine apu (aqu a.typeIs aqZ (aqH aqZ a.typeIs asf ?_ (asb _)));show wpAny _ _ (field (.ref it) 0 >>=_) _ _ s;refine apu (apY c b (x:=.ref t) rfl ?_);refine apu (apY c b (x:=.int i 0) rfl ?_);refine apu (aq4 d f ?_);simp only[asr,k];refine apu (arJ c b (by simp) (apF ⟨x,rfl,apF (j _ ?_ (Heap.SameBut.update ..))⟩));exact⟨_,aqJ _ c (arW (ard b _)),(Obj.cls_mapFields ..).trans g,by rw[ard b];simp[rawInt]⟩
def sW  (j:A.handled=none)(b:s.heap.IsTupleIter it t i)(k:s.heap.IsTuple t its)(l:its[i]?=none)(n:∀d e,Heap.ExtBut it s.heap d->(∃o,d.get? e=some o/\o.cls=.type "StopIteration")->E (.ref e) {s with heap:=d}):wpAny (model prog w) A (Builtin.SmallTypes.nextOf (.ref it)) Q E s:=by refine jK (id b) λo g p f=>?_;obtain⟨r,c,_,q,h⟩:=k;unfold Builtin.SmallTypes.nextOf;refine apu (aqu b.typeIs aqZ (aqH aqZ b.typeIs asf ?_ (asb _)));show wpAny _ _ (field (.ref it) 0 >>=_) _ _ s;refine apu (apY g f (x:=.ref t) rfl ?_);refine apu (apY g f (x:=.int i 0) rfl ?_);refine apu (aq4 c h ?_);simp only[asr,l];refine apu (asv (apu (arJ g f (by simp) ?_)));refine apu ?_;refine apu (m:=firstArgMember _ _) (wpAny_of_eq (a:=Value.none) (rfl) ?_);refine arM ?_ (by size_fits);refine apu (wpAny_handled ?_);rw[j];refine apu (apF (wpAny_throw ?_));exact n _ _ (((Heap.SameBut.update ..).extBut.push _).push _) ⟨_,apL _ rfl,rfl⟩
def zk{e it t}{i:Nat}{its x a Q}(z:IsEnum s.heap e it i a)(O:s.heap.IsTupleIter it t i)(ht:s.heap.IsTuple t its)(hx:its[i]?=some x)(c:e≠it)(hQ:∀l,IsEnumOut l e it (i+1) x s.heap.objs.size->l.IsTupleIter it t (i+1)->l.get? s.heap.objs.size=some {cls:=.type "tuple",data:=.seq #[.int i s.toks,x]}->(∀b o,b≠e->b≠it->s.heap.get? b=some o->l.get? b=some o)->Q (some (.ref s.heap.objs.size)) {s with heap:=l,toks:=s.toks+1}):wpAny (model prog w) A (pyNext (.ref e)) Q E s:=by
 have X:s.TypeIs (.ref e) "enumerate":=⟨_,z,rfl⟩;unfold pyNext;refine apu (aru (aqu (name:=Str.ofString "__next__") X ark (aqH ark X F.entry_enumerate_next ?_ (F.args_enumerate_next_1 _))));obtain⟨k,g,d,tk,os⟩:=s;show wpAny _ _ (field (.ref e) 2 >>=_) _ _ _;refine apu (apY z rfl (x:=.ref it) rfl ?_);refine apu (pF O ht hx λh R q=>?_);replace q:Heap.SameBut it k h:=q;have S:IsEnum h e it i a:=(q.2 e c).trans z;show wpAny _ _ (field (.ref e) 3 >>=_) _ _ ⟨h,g,d,tk,os⟩;refine apu (apY S rfl (x:=rawInt i) rfl ?_);show wpAny _ _ (field (.ref e) 4 >>=_) _ _ ⟨h,g,d,tk,os⟩;refine apu (apY S rfl (x:=.none) rfl ?_);show wpAny _ _ (mkInt i >>=_) _ _ ⟨h,g,d,tk,os⟩;refine apu (wpAny_mkInt ?_);refine apu (aqm S (by simp) λB T n=>?_);replace n:Heap.SameBut e h B:=n;replace T:IsEnum B e it ((i:Int)+1) a:=T;show wpAny _ _ (setField (.ref e) 4 .none >>=_) _ _ ⟨B,g,d,tk+1,os⟩;refine apu (aqm T (by simp) λj D v=>?_);replace v:Heap.SameBut e B j:=v;replace D:IsEnum j e it ((i:Int)+1) a:=D;show wpAny _ _ (newTuple [.int i tk,x]>>=_) _ _ ⟨j,g,d,tk+1,os⟩;refine apu (wpAny_newTuple ?_);have y:IsEnum (j.push {cls:=.type "tuple",data:=.seq #[.int i tk,x]}) e it ((i:Int)+1) a:=apw _ D;generalize q4:j.push {cls:=.type "tuple",data:=.seq #[.int i tk,x]}=h4 at y;have Y:j.objs.size=k.objs.size:=by rw[v.1,n.1,q.1]
 have M:=apH z;have Z:h4.get? k.objs.size=some {cls:=.type "tuple",data:=.seq #[.int i tk,x]}:=by rw[<-q4,<-Y];exact apL _ rfl
 have k4:∀b o,b≠e->b≠it->k.get? b=some o->h4.get? b=some o:=λb o f K J=>by rw[<-q4];exact apw _ (v.extBut b o f (n.extBut b o f (q.extBut b o K J)))
 have P:h4.IsTupleIter it t (i+1):=by rw[<-q4];refine fO ((R.extBut n.extBut (apO c)).extBut v.extBut (apO c)) λo ho r=>?_;exact⟨o,apw _ ho,r⟩
 show wpAny _ _ (Builtin.SmallTypes.ownedTupleIsFree (.ref e)>>=_) _ _ ⟨h4,g,d,tk+1,os⟩;rw[Y];refine apu ?_;unfold Builtin.SmallTypes.ownedTupleIsFree;refine apu (apY y rfl (x:=.none) rfl (apF ?_));simp only[arc];refine apu (asv ?_);refine apu (apY y rfl (x:=a) rfl ?_);refine apu (aqm y (by simp) λN H m=>?_);replace m:Heap.SameBut e h4 N:=m;replace H:IsEnum N e it ((i:Int)+1) x:=H;refine apu ?_;unfold Builtin.SmallTypes.ownedTupleHandOut;refine apu (aqm H (by simp) λI U p=>?_);replace p:Heap.SameBut e N I:=p;replace U:IsEnumOut I e it ((i:Int)+1) x k.objs.size:=U;refine aqm U (by simp) λG C u=>?_;replace u:Heap.SameBut e I G:=u;replace C:IsEnumOut G e it ((i:Int)+1) x k.objs.size:=C;refine apu (wpAny_letGo (apF ⟨_,rfl,apF (hQ G C ?_ ?_ ?_)⟩));.exact((P.extBut m.extBut (apO c)).extBut p.extBut (apO c)).extBut u.extBut (apO c)
 .exact u.extBut _ _ (ap4 M) (p.extBut _ _ (ap4 M) (m.extBut _ _ (ap4 M) Z))
 .exact λb o f K J=>u.extBut b o f (p.extBut b o f (m.extBut b o f (k4 b o f K J)))
def aco{e it t}{i:Nat}{its a Q}(l:A.handled=none)(g:IsEnum s.heap e it i a)(c:s.heap.IsTupleIter it t i)(j:s.heap.IsTuple t its)(n:its[i]?=none)(m:∀b,Heap.ExtBut it s.heap b->Q none {s with heap:=b}):wpAny (model prog w) A (pyNext (.ref e)) Q E s:=by have f:s.TypeIs (.ref e) "enumerate":=⟨_,g,rfl⟩;refine apu (aru (aqu f ark (aqH ark f F.entry_enumerate_next ?_ (F.args_enumerate_next_1 _))));show wpAny _ _ (field (.ref e) 2 >>=_) _ _ _;refine apu (apY g rfl rfl ?_);refine apu (sW l c j n λb x k d=>?_);refine fO d λo p h=>?_;refine apu (wpAny_isInstance ⟨o,p,h⟩ isSubtype_stop ?_);exact apF (m _ k)
end
section
open PySem.AutoSeq1(wpAny_loadPart')
set_option tactic.hygienic true
def acn(l)(its)(n)(c)(sl):Meets (Builtin.«enumerate.__new__» ⟨[.type "enumerate",.ref l],[]⟩) λ_ R s=>s.heap.get? l=some {cls:=.type "tuple",dict:=c,data:=.seq its n,slots:=sl}/\R (.ok (.ret (.ref (s.heap.push {cls:=.type "tuple_iterator",data:=.fields #[.ref l,.int 0 0]}).objs.size))) {s with heap:=(s.heap.push {cls:=.type "tuple_iterator",data:=.fields #[.ref l,.int 0 0]}).push {cls:=.type "enumerate",data:=.fields #[.none,.bool false,.ref s.heap.objs.size,rawInt 0,.none,.none]}}:=.of_wp λe w A R s h=>by obtain⟨a,h⟩:=h;have d:=sub_enumerate;have f:Heap.IsTuple _ l its:=⟨_,a,rfl,n,rfl⟩;wp_walk using wpAny_loadPart' a;refine wpAny_stack_any λst=>apF ?_;generalize Builtin.SmallTypes.calledThroughType.match_1 (λ_=>Bool) _ _ _=b;cases b<;>(wp_walk using wpAny_loadPart' a,arD f;exact⟨_,rfl,h⟩)
set_option tactic.hygienic false
variable{prog:Program}{w:World}{A:Around}{E:Value->Shared->Prop}{s:Shared}
def zK{l its Q}(j:s.heap.IsTuple l its)(h:∀a,IsEnum a (s.heap.objs.size+1) s.heap.objs.size 0 .none->a.IsTupleIter s.heap.objs.size l 0->(∀b o,s.heap.get? b=some o->a.get? b=some o)->Q (.ref (s.heap.objs.size+1)) {s with heap:=a}):wpAny (model prog w) A (call (.type "enumerate") [.ref l]) Q E s:=by
 obtain⟨⟨c,e,q,p⟩,m,d,n,k⟩:=j;replace d:c=.type "tuple":=d;subst d k;refine callType_new F.called_enumerate (by decide) (F.typeCall_enumerate_1 _) (F.newCall_enumerate_1 _) (λf=>F.args_object_init_2 f _) F.entry_enumerate_new (acn l its n e p) ⟨m,?_⟩;have g:(s.heap.push {cls:=.type "tuple_iterator",data:=.fields #[.ref l,.int 0 0]}).objs.size=s.heap.objs.size+1:=aqS ..;show _/\_;rw[g];have i:=by have z:=apL (s.heap.push {cls:=.type "tuple_iterator",data:=.fields #[.ref l,.int 0 0]}) (o:={cls:=.type "enumerate",data:=.fields #[.none,.bool false,.ref s.heap.objs.size,rawInt 0,.none,.none]}) rfl;rw[g]at z;exact z
 exact⟨⟨_,i,rfl⟩,h _ i ⟨_,apw _ (apL _ rfl),rfl,rfl⟩ λb o x=>apw _ (apw _ x)⟩
end
def Inv.aau    (I:Inv X pins σ H s)(k:∀c o,c≠a->c≠b->s.heap.get? c=some o->h'.get? c=some o)(g:vU X pins H a)(h:vU X pins H b):Inv X pins σ H {s with heap:=h',toks:=t'}:=by
 have i:∀c u,H c=some u->c≠a/\c≠b:=λc u e=>⟨bo e g.1,bo e h.1⟩;have f:∀{c:Addr},c∉[a,b]->c≠a/\c≠b:=λ{c}d=>⟨λz=>d (by simp[z]),λz=>d (by simp[z])⟩;refine I.step (d':=s.drawn) (λc d=>?_) (λc o _ _ d e _=>k c o (f d).1 (f d).2 e) (λc o _ _ d e _=>⟨o.slots,k c o (f d).1 (f d).2 e⟩) (λ_ _ _ _ n=>n) (λc o d e=>⟨o,k c o (f d).1 (f d).2 e⟩) (λ_ _ e=>e) (λ_ _ _ e=>e) (λc y e=>⟨#[],by rw[e];simp⟩) (λm w=>?_) (λc u e=>?_) I.bare
 .have l:c=a\/c=b:=by simpa using d
  rcases l with rfl|rfl;.exact⟨g.2.2.2.1,g.2.1,g.2.2.2.2.1,g.2.2.2.2.2⟩
  .exact⟨h.2.2.2.1,h.2.1,h.2.2.2.2.1,h.2.2.2.2.2⟩
 .refine x9 w λo t p x r=>?_;exact acZ o t p (k _ o (apO g.2.1) (apO h.2.1) x) r
 .refine(I.hok c u e).wC (λj v d q=>k j v ?_ ?_ q) (λ_ q=>q) λ_ _ q=>q
  .rcases d with z|z;.rw[z];exact(i c u e).1
   .exact(i j _ z).1
  .rcases d with z|z;.rw[z];exact(i c u e).2
   .exact(i j _ z).2
def Ite(K:W.Frag)(a:Addr):It:=⟨λi H=>∃b x,SqT K H a b/\b[i]?=some x,λi H x c=>∃p,x=.ref p/\H p=none/\∀b,SqT K H a b->∃y,b[i]?=some y/\c=upd H p (.tup [.int i,y]),λi H=>∃b,SqT K H a b/\b.length<=i⟩
def yh{P:Program}{w:World}{K:W.Frag}{es:List Expr}{k:Nat}{pos:Pos}(a e it:Addr)(hne:e≠it):Turn P w K (.Tuple es k pos) (Ite K a) [e,it] e λi h=>(∃old,IsEnum h e it i old)/\h.IsTupleIter it a i where
 mem:=by simp
 obj:=λi h st b hb=>by
  obtain⟨⟨old,he⟩,o,ho,hc,hd⟩:=st;have hb':b=e\/b=it:=by simpa using hb
  rcases hb' with rfl|rfl;.exact⟨_,he,λv z=>by cases z⟩
  .exact⟨o,ho,λv z=>by rw[hd]at z;cases z⟩
 keep:=λi h h' st kk=>by obtain⟨⟨old,he⟩,o,ho,r⟩:=st;exact⟨⟨old,kk e (by simp) _ he⟩,o,kk it (by simp) o ho,r⟩
 item:=by
  intro X hP hw hK i pins s σ H E hc I hf st hg;subst hP hw hK;obtain⟨⟨old,he⟩,hit⟩:=st;obtain⟨xs,x,hq,hx⟩:=hg;obtain⟨its,rv,p,hz⟩:=I.tuple hq;obtain⟨u,hu,ru⟩:=rv.get hx;have fe:=hf e (by simp);have fi:=hf it (by simp);refine zk he hit (show s.heap.IsTuple a its.toArray from p) (x:=u) (by simpa using hu) hne λh' eo it' tp kp=>?_;have I1:=I.aau (t':=s.toks+1) kp fe fi;have hfr:=I.hok.fresh (apG _);have hnT:∀b o,s.heap.get? b=some o->b≠s.heap.objs.size:=λb o q=>apM (apH q);have I2:Inv X pins σ (upd H s.heap.objs.size (.tup [.int i,x])) {s with heap:=h',toks:=s.toks+1}:=by
   refine I1.yj hfr I.sz (ap4 I.lt) (λy c q=>?_) (λpp hp=>hnT _ _ (I.pin pp hp).1) ⟨by show 2<=sizeLine;decide,[.int i s.toks,u],.cons ⟨_,rfl⟩ (.cons ru .nil),?_⟩;.obtain⟨v,z⟩:=I.cell y c q;exact apM z.lt
   .exact⟨_,tp,rfl,0,rfl⟩
  refine⟨_,rfl,asl (s:={s with heap:=h',toks:=s.toks+1}) eo λh2 e2 s2=>?_⟩;have hTe:=apO (hnT _ _ he);obtain⟨o1,ho1,_⟩:=hit;have hTi:=apO (hnT _ _ ho1);refine⟨.ref s.heap.objs.size,upd H s.heap.objs.size (.tup [.int i,x]),?_,rfl,⟨_,rfl,hfr,λys hy=>⟨x,by rw[I.mh hy hq];exact hx,rfl⟩⟩,⟨⟨_,e2⟩,?_⟩,λb hb=>?_⟩;.exact I2.turned (t':=s.toks+1) (it:=e) (λb o hb q=>(s2.2 b hb).trans q) (by rw[ak (apO hTe)];exact fe.1) fe.2.1 fe.2.2.2.1 fe.2.2.2.2.1 fe.2.2.2.2.2
  .exact it'.extBut s2.extBut (apO hne)
  .have hb':b=e\/b=it:=by simpa using hb
   rcases hb' with rfl|rfl;.rw[ak (apO hTe)];exact fe.1
   .rw[ak (apO hTi)];exact fi.1
 done:=by intro X hP hw hK i pins s σ H E hc I hf st hg;subst hP hw hK;obtain⟨⟨old,he⟩,hit⟩:=st;obtain⟨xs,hq,hx⟩:=hg;obtain⟨its,rv,p,hz⟩:=I.tuple hq;have fi:=hf it (by simp);have hl:=rv.length;exact aco (I.ok.hd hc) he hit (show s.heap.IsTuple a its.toArray from p) (by simp;omega) λh' eb=>⟨rfl,I.turned (t':=s.toks) (λb o hb q=>eb b o hb q) fi.1 fi.2.1 fi.2.2.2.1 fi.2.2.2.2.1 fi.2.2.2.2.2⟩
 self:=λ_ _ _ _ _ h0_ h=>by obtain⟨⟨_,he⟩,_⟩:=h0_;exact arN he h
section
variable{X:Cx}
def vq(K:W.Frag)(d:TE):TI:=λσ H R=>d σ H λx b=>∃a,x=.ref a/\(∃c,SqT K b a c)/\R (Ite K a) b
end
end L2
namespace L2
open PySem PySem.Spec PyProof.Rows
section
variable{κ:Type}[DecidableEq κ]
noncomputable def ug(kvs:List (κ×V))(k:κ):Option V:=(kvs.find? λa=>decide (a.1=k)).map (·.2)
noncomputable def putK(kvs:List (κ×V))(k:κ)(v:V):List (κ×V):=if(kvs.any λa=>decide (a.1=k))=true then kvs.map λa=>if a.1=k then(a.1,v)else a else kvs++[(k,v)]
def eH{p r}{k:κ}(e:p.1=k):ug (p::r) k=some p.2:=by simp[ug,e]
def eI{p r}{k:κ}(e:¬p.1=k):ug (p::r) k=ug r k:=by simp[ug,e]
theorem pX(k):∀a:List (κ×V),(a.any λb=>decide (b.1=k))=(ug a k).isSome
|[]=>rfl|p::r=>by
 rw[List.any_cons];by_cases e:p.1=k;.simp [eH e,aqw e]
 .rw[eI e,ap1 e];exact pX k r
theorem rL(k j:κ)(y:V):∀a:List (κ×V),ug a k=none->ug (a++[(k,y)]) j=if j=k then some y else ug a j
|[],_=>by
 by_cases e:k=j;.rw[apB e.symm];exact eH (p:=(k,y)) e
 .rw[apA λz=>e z.symm];exact eI (p:=(k,y)) e|p::r,hn=>by
 rw[List.cons_append];have b:¬p.1=k:=λz=>by rw[eH z]at hn;cases hn
 rw[eI b]at hn;have c:=rL k j y r hn;by_cases e:p.1=j;.rw[eH e,eH e,apA λz=>b (e.trans z)]
 .rw[eI e,eI e,c]
def jy(kvs)(k:κ)(v):(putK kvs k v).length<=kvs.length+1:=by
 unfold putK;split;.rw[apR];omega
 .rw[aqc,apK,ar2];omega
def adN{kvs:List (κ×V)}{k:κ}(v:V)(h:ug kvs k=none):putK kvs k v=kvs++[(k,v)]:=by unfold putK;rw[pX,h];exact apA (by decide)
def ui.abW{o u}(r:ui o u):o.isSome=u.isSome:=by cases o with
|none=>cases u with|none=>rfl|some _=>exact(r).elim
|some _=>cases u with|none=>exact(r).elim|some _=>rfl
def KV.val{kvs vs}(r:KV kvs vs)(k:κ):ui (ug kvs k) (valueAt vs k):=by induction r with|nil=>exact True.intro|@cons p q ps qs h t ih=>
 obtain⟨a,d⟩:=h;by_cases e:p.1=k
 .have b:valueAt (q::qs) k=some q.2:=by simp[valueAt,a.symm.trans e]
  rw[eH e,b];exact d
 .have c:¬q.1=k:=λz=>e (a.trans z);have b:valueAt (q::qs) k=valueAt qs k:=by simp[valueAt,c]
  rw[eI e,b];exact ih
theorem KV.any{kvs vs}(r:KV kvs vs)(k:κ):(kvs.any λa=>decide (a.1=k))=vs.any λa=>decide (a.1=k):=by induction r with|nil=>rfl|cons h t ih=>rw[List.any_cons,List.any_cons,ih,h.1]
def KV.amB{kvs vs}(r:KV kvs vs)(k:κ){y u}(d:RelV y u):KV (kvs.map λa=>if a.1=k then(a.1,y)else a) (vs.map λa=>if a.1=k then(a.1,u)else a):=by induction r with|nil=>exact .nil|@cons p q ps qs h t ih=>
 rw[apU,apU];refine .cons ?_ ih;obtain⟨b,c⟩:=h;by_cases e:p.1=k;.rw[apB e,apB (b.symm.trans e)];exact⟨b,d⟩
 .rw[apA e,apA λz=>e (b.trans z)];exact⟨b,c⟩
def KV.put{kvs vs}(r:KV kvs vs)(k:κ){y u}(a:RelV y u):KV (putK kvs k y) (stored vs k u):=by
 unfold putK stored;rw[r.any k];by_cases e:(vs.any λb=>decide (b.1=k))=true;.rw[apB e,apB e];exact r.amB k a
 .rw[apA e,apA e];exact Paired.snoc r ⟨rfl,a⟩
theorem KV.length{kvs}{vs:List (κ×Value)}(r:KV kvs vs):kvs.length=vs.length:=Paired.length r
end
def aes{P w}:∀{k u},RelV (kV k) u->(dh P w).is k u=true|.inl (some i),u,r=>by obtain⟨t,e⟩:=r;subst e;exact vg P w i t|.inl none,u,r=>by cases r;rfl|.inr x,u,r=>by obtain⟨t,e⟩:=r;subst e;exact vf P w x t
theorem tx{P w}:∀{ks us},Vals (ks.map kV) us->ItemsAre (dh P w) ks us|[],_,r=>by cases r;exact .nil|k::ks,_,r=>by cases r with|cons h t=>exact .cons (aes h) (tx t)
abbrev KT(H:Hp):List (List Key×V)->List (List Key×Addr×Value)->Prop:=Paired λp q=>p.1=q.1/\H q.2.1=some (.tup (p.1.map kV))/\RelV p.2 q.2.2
def KT.val{H kvs xs}(r:KT H kvs xs)(k):ui (ug kvs k) ((atKey xs k).map (·.2)):=by induction r with|nil=>exact True.intro|@cons p q ps qs h t ih=>
 refine age h λa _ d=>?_;by_cases e:p.1=k
 .have b:atKey (q::qs) k=some q.2:=by simp[atKey,a.symm.trans e]
  rw[eH e,b];exact d
 .have c:¬q.1=k:=λz=>e (a.trans z);have b:atKey (q::qs) k=atKey qs k:=by simp[atKey,c]
  rw[eI e,b];exact ih
def KT.amB{H kvs xs}(r:KT H kvs xs)(k){y u}(f:RelV y u):KT H (kvs.map λb=>if b.1=k then(b.1,y)else b) (xs.map (putAt k u)):=by induction r with|nil=>exact .nil|@cons p q ps qs h t ih=>
 rw[apU];refine .cons ?_ ih;refine age h λa c d=>?_;unfold putAt;by_cases e:p.1=k;.rw[apB e,apB (a.symm.trans e)];exact⟨a,c,f⟩
 .rw[apA e,apA λz=>e (a.trans z)];exact⟨a,c,d⟩
def KT.put{H kvs xs}(r:KT H kvs xs)(k){b y u}(d:H b=some (.tup (k.map kV)))(a:RelV y u):KT H (putK kvs k y) (storedH xs k b u):=by
 have e:(kvs.any λc=>decide (c.1=k))=(atKey xs k).isSome:=by rw[pX,(r.val k).abW,Option.isSome_map]
 unfold putK storedH;rw[e];by_cases q:(atKey xs k).isSome=true;.rw[apB q,apB q];exact r.amB k a
 .rw[apA q,apA q];exact Paired.snoc r ⟨rfl,d,a⟩
def KT.keeps{H H' kvs xs}(r:KT H kvs xs)(c:∀b a,H b=some (.tup a)->H' b=some (.tup a)):KT H' kvs xs:=Paired.afT r λ_ _ z=>⟨z.1,c _ _ z.2.1,z.2.2⟩
section
variable{P:Program}{w:World}{H:Hp}{h:Heap}{a:Addr}
def ai9{u}(ok:HOk P w H h)(e:Rd H a u):dH P w H h a u:=e.ok ok
def akJ{kvs}(ok:HOk P w H h)(e:Rd H a (.dK kvs)):kvs.length<=sizeLine/\(a==sysModules)=false/\∃b,KV kvs b/\h.DictOf (dh P w) a b:=ai9 ok e
def akK{kvs}(ok:HOk P w H h)(e:H a=some (.dK kvs)):kvs.length<=sizeLine/\(a==sysModules)=false/\∃b,KV kvs b/\h.DictOf (dh P w) a b:=akJ ok (.inl e)
def tr{ks}(ok:HOk P w H h)(e:H a=some (.tup (ks.map kV))):(tupleKind (dh P w)).is h ks a:=by obtain⟨_,b,r,o,d,f,n,c⟩:=ok a _ e;exact⟨o,_,n,d,f,c,by simpa using tx r⟩
def anS{kvs}(ok:HOk P w H h)(e:Rd H a (.dT kvs)):kvs.length<=sizeLine/\(a==sysModules)=false/\∃c,KT H kvs c/\h.DictOfH (tupleKind (dh P w)) a c:=by
 obtain⟨z,y,c,r,o,g,f,d,n,k,j,i⟩:=ai9 ok e;refine⟨z,y,c,r,o,g,f,d,n,k,j,λx b=>?_,i⟩;have all:∀{l}{m},KT H l m->∀x∈m,(tupleKind (dh P w)).is h x.1 x.2.1:=by intro l m q;induction q with|nil=>intro x b;exact nomatch b|@cons p q ps qs hq t ih=>
   intro x b;rcases apJ.mp b with e|b;.exact tr ok (by grind)
   .exact ih x b
 exact all r x b
def anT{kvs}(ok:HOk P w H h)(e:H a=some (.dT kvs)):kvs.length<=sizeLine/\(a==sysModules)=false/\∃b,KT H kvs b/\h.DictOfH (tupleKind (dh P w)) a b:=anS ok (.inl e)
end
def ail(H:Hp)(a:Addr)(y v:V)(H':Hp):Prop:=(∃c k,H a=some (.dK c)/\y=kV k/\c.length<sizeLine/\H'=upd H a (.dK (putK c k v)))\/∃c k b,H a=some (.dT c)/\y=.ref b/\H b=some (.tup (k.map kV))/\c.length<sizeLine/\H'=upd H a (.dT (putK c k v))
theorem ail.k{H a kvs k v}(e:H a=some (.dK kvs))(b:kvs.length<sizeLine):ail H a (kV k) v (upd H a (.dK (putK kvs k v))):=.inl ⟨_,k,e,rfl,b,rfl⟩
section
variable{X:Cx}{pins:List (Addr×Obj)}{σ:St}{H:Hp}{s:Shared}{a:Addr}{y v:V}{u r:Value}{o:Option V}{A:Around}{E:Value->Shared->Prop}
def Inv.big(I:Inv X pins σ H s):sysModules<s.heap.objs.size:=by exact Nat.lt_trans (by decide) (I.mod.glob.keeps I.bk).lt
def vE{h' t' ob}(I:Inv X pins σ H s)(d:Mut (H a))(hs:Heap.SameBut a s.heap h')(c:∃q,h'.get? a=some q)(new:dH X.prog X.w (upd H a ob) h' a ob):Inv X pins σ (upd H a ob) {s with heap:=h',toks:=t'}:=I.write  d (.inl rfl) (λb q e z=>(hs.2 b e).trans z) c new
def af6{P w H' h' kvs vs}(z:kvs.length<=sizeLine)(c:(a==sysModules)=false)(b:KV kvs vs)(dd:h'.DictOf (dh P w) a vs):dH P w H' h' a (.dK kvs):=⟨z,c,vs,b,dd⟩
def acB{H' Q}(Z:A.units+1<cLine)(I:Inv X pins σ H s)(g:ail H a y v H')(D:RelV y u)(J:RelV v r)(h:∀G,Inv X pins σ H' G->Q () G):wpAny (model X.prog X.w) A (setItem (.ref a) u r) Q E s:=by
 rcases g with⟨d,k,e,m,l,x⟩|⟨d,k,b,e,m,K,l,x⟩
 .subst m x;obtain⟨z,n,P,f,dd⟩:=akK I.hok e;have w:P.length<=sizeLine:=by rw[<-f.length];exact z
  have t:(putK d k v).length<=sizeLine:=by have:=jy d k v;omega
  refine wpAny_setItem_pairs (hsz:=w) (aes D) dd λC i p=>h _ ?_;have T:∃q,C.get? a=some q:=let⟨q,_,_,j,_⟩:=i;⟨q,j⟩;exact vE I (by rw[e];exact True.intro) p T (af6 t n (f.put k J) i)
 .subst m x;cases D;obtain⟨z,n,U,f,dd⟩:=anT I.hok e;have w:U.length<=sizeLine:=by rw[<-Paired.length f];exact z
  have t:(putK d k v).length<=sizeLine:=by have:=jy d k v;omega
  refine wpAny_setItem_heap (hsz:=w) (tupleKind_room_in1 Z) (tr I.hok K) dd λC i p=>h _ ?_;obtain⟨q,N,M,j,Y,O,S,_,R⟩:=i;refine vE I (by rw[e];exact True.intro) p ⟨q,j⟩ ⟨t,n,_,(f.put k K J).keeps λc ys B=>?_,q,N,M,j,Y,O,S,R⟩;rw[ak (anh B e λz=>nomatch z)];exact B
end
def amv(e ty tv:TE):TS:=λD σ H=>tv σ H λv c=>e σ c λx d=>ty σ d λy f=>∃a b,x=.ref a/\ail f a y v b/\D.nx σ b
section
variable{X:Cx}{o i e value:Expr}{pos pos' tpos:Pos}{td ty tv:TE}
def abd(m:X.A.units+1<cLine)(A:PE X o td)(B:PE X i ty)(l:PE X value tv)(hs:swapsWith value (some (.Subscript o i pos')) pos.line X.env=pure false):PS X (.Assign [.Subscript o i pos'] value pos) (amv td ty tv):=by intro b s σ H D I h;refine wpAny_Assign_Subscript (thn (l _ s σ H _ I h) λr M⟨v,K,k,q,j⟩=>thn (A _ _ σ _ _ k j) λu C⟨x,E,z,t,d⟩=>thn (B _ _ σ _ _ z d) λG O⟨y,N,c,f,a,w,ex,g,n⟩=>?_) hs;subst ex;obtain rfl:=t;exact acB m c g f q λJ p=>⟨σ,w,p,n⟩
end
def xU{P w H}(h:Heap)(a:sysModules<h.objs.size):dH P w H (h.push {cls:=.type "dict",data:=.dict #[]}) h.objs.size (.dK []):=⟨ap9 _,aqq.mpr (apO (apM a)),[],.nil,Heap.DictOf.new h⟩
def aiY:TE:=λ_ H Q=>∀p,H p=none->Q (.ref p) (upd H p (.dK []))
section
variable{X:Cx}{pos:Pos}
def adW:PE X (.Dict [] [] pos) aiY:=λa s σ H Q I h=>wpAny_Dict_empty ⟨.ref _,_,I.laid  (λ_ _ q=>apw _ q) (apG _) (xU _ I.big),rfl,h _ (I.hok.fresh (apG _))⟩
end
def wt:List (TE×TE)->St->Hp->(List (V×V)->Hp->Prop)->Prop|[],_,H,Q=>Q [] H|(tk,tv)::r,σ,H,Q=>tk σ H λx a=>tv σ a λy c=>wt r σ c λb d=>Q ((x,y)::b) d
abbrev VV:List (V×V)->List (Value×Value)->Prop:=Paired λp q=>RelV p.1 q.1/\RelV p.2 q.2
def PPs(X:Cx)(pos:Pos)(keys:List (Option Expr))(a:List Expr)(c:List (TE×TE)):Prop:=∀(b:List (Addr×Obj))(s:Shared)(σ:St)(H:Hp)(Q:List (V×V)->Hp->Prop),Inv X b σ H s->wt c σ H Q->wpAny (model X.prog X.w) X.A (evalPairs (pairTrees keys a X.env pos)) (λf g=>∃d e,Inv X b σ e g/\VV d f/\Q d e) X.xe s
def ag3{X:Cx}{pos:Pos}:PPs X pos [] [] []:=λa s σ H Q I h=>pairTrees_nil_walk ⟨[],H,I,.nil,h⟩
def adO{X:Cx}{pos:Pos}{k v:Expr}{ks:List (Option Expr)}{vs:List Expr}{tk tv:TE}{b:List (TE×TE)}(w:PE X k tk)(l:PE X v tv)(q:PPs X pos ks vs b):PPs X pos (some k::ks) (v::vs) ((tk,tv)::b):=λa s σ H Q I h=>pairTrees_cons_walk (thn (w a s σ H _ I h) λu r⟨x,o,j,z,i⟩=>thn (l a r σ o _ j i) λB m⟨y,n,A,g,f⟩=>thn (q a m σ n _ A f) λws C⟨d,t,e,c,p⟩=>⟨(x,y)::d,t,e,.cons ⟨z,g⟩ c,p⟩)
def j7(kvs a:List (Key×V)):List (Key×V):=a.foldl (λb c=>putK b c.1 c.2) kvs
def KV.merge:∀{a:List (Key×V)}{b:List (Key×Value)}{kvs:List (Key×V)}{vs:List (Key×Value)},KV a b->KV kvs vs->KV (j7 kvs a) (merged vs b):=by intro a b kvs vs r;unfold KV at r;induction r generalizing kvs vs with|nil=>intro q;exact q|@cons p q ps qs h t ih=>
 intro c;have e:KV (putK kvs p.1 p.2) (stored vs q.1 q.2):=by have:=c.put p.1 h.2;rw[<-h.1];exact this
 exact ih e
theorem j8:∀(a kvs:List (Key×V)),(j7 kvs a).length<=kvs.length+a.length|[],kvs=>by show kvs.length<=kvs.length+0;omega|p::r,kvs=>by have c:=j8 r (putK kvs p.1 p.2);have b:=jy kvs p.1 p.2;show(j7 (putK kvs p.1 p.2) r).length<=_;rw[apK];omega
theorem pP{P:Program}{w:World}:∀{kvs:List (Key×V)}{ws:List (Value×Value)},VV (kvs.map λe=>(kV e.1,e.2)) ws->∃d,Carries (dh P w) ws d/\KV kvs d|[],_,r=>by rw[List.map_nil]at r;cases r;exact⟨[],True.intro,.nil⟩|p::kvs,_,r=>by rw[apU]at r;cases r with|@cons a b as bs h t=>obtain⟨d,c,q⟩:=pP (P:=P) (w:=w) t;obtain⟨g,f⟩:=b;exact⟨(p.1,f)::d,⟨aes h.1,rfl,c⟩,.cons ⟨rfl,h.2⟩ q⟩
def amh(b:List (TE×TE)):TE:=λσ H Q=>∀p,H p=none->wt b σ (upd H p (.dK [])) λe d=>d p=some (.dK [])/\∃a:List (Key×V),e=a.map (λc=>(kV c.1,c.2))/\a.length<=15/\Q (.ref p) (upd d p (.dK (j7 [] a)))
def aha{X:Cx}{pos:Pos}{keys:List (Option Expr)}{b:List Expr}{j:List (TE×TE)}(h:PPs X pos keys b j)(g:keys.all (·.isSome)=true)(E:keys.length=b.length)(B:keys≠[])(l:keys.length<=15):PE X (.Dict keys b pos) (amh j):=by
 intro d s σ H Q I q;have r:=I.hok.fresh (apG s.heap.objs.size);have x:=I.laid (a:=s.heap.objs.size) (o:=.dK []) (h':=s.heap.push {cls:=.type "dict",data:=.dict #[]}) (t':=s.toks) (λ_ _ q=>apw _ q) (apG _) (xU s.heap I.big);refine wpAny_Dict_walk (knd:=dh X.prog X.w) g E B l (thn (h d _ σ _ _ x (q _ r)) λws N⟨M,O,m,k,e,f,t,R,p⟩=>?_);subst t;obtain⟨K,c,v⟩:=pP (P:=X.prog) (w:=X.w) k;obtain⟨z,u,y,C,dd⟩:=akK m.hok e;cases C;refine⟨K,c,dd,λh' i D=>⟨.ref s.heap.objs.size,_,?_,rfl,p⟩⟩;have G:(j7 [] f).length<=sizeLine:=by have n:=j8 f [];rw[ar2]at n;rw[arQ];omega
 have J:∃q,h'.get? s.heap.objs.size=some q:=let⟨q,_,_,A,_⟩:=i;⟨q,A⟩;exact vE m (by rw[e];exact True.intro) D J (af6 G u (v.merge .nil) i)
def alS(K:W.Frag)(a:Addr):It:=⟨λi H=>∃b x,SqL K H a b/\b[i]?=some x,λi H x c=>∃p,x=.ref p/\H p=none/\∀b,SqL K H a b->∃y,b[i]?=some y/\c=upd H p (.tup [.int i,y]),λi H=>∃b,SqL K H a b/\b.length<=i⟩
def yi{P:Program}{w:World}{K:W.Frag}{es:List Expr}{k:Nat}{pos:Pos}(a e it:Addr)(hne:e≠it):Turn P w K (.Tuple es k pos) (alS K a) [e,it] e λi h=>(∃old,IsEnum h e it i old)/\h.IsListIter it a i where
 mem:=by simp
 obj:=λi h st b hb=>by
  obtain⟨⟨old,he⟩,o,ho,hc,hd⟩:=st;have hb':b=e\/b=it:=by simpa using hb
  rcases hb' with rfl|rfl;.exact⟨_,he,λv z=>by cases z⟩
  .exact⟨o,ho,λv z=>by rw[hd]at z;cases z⟩
 keep:=λi h h' st kk=>by obtain⟨⟨old,he⟩,o,ho,r⟩:=st;exact⟨⟨old,kk e (by simp) _ he⟩,o,kk it (by simp) o ho,r⟩
 item:=by
  intro X hP hw hK i pins s σ H E hc I hf st hg;subst hP hw hK;obtain⟨⟨old,he⟩,hit⟩:=st;obtain⟨xs,x,hq,hx⟩:=hg;obtain⟨its,rv,p,hz⟩:=I.list hq;obtain⟨u,hu,ru⟩:=rv.get hx;have fe:=hf e (by simp);have fi:=hf it (by simp);refine wpAny_pyNext_enum_item he hit p.isList (x:=u) (by simpa using hu) hne λh' eo it' tp _ kp=>?_;have I1:Inv X pins σ H {s with heap:=h',toks:=s.toks+1}:=I.aau (t':=s.toks+1) kp fe fi;have hfr:H s.heap.objs.size=none:=I.hok.fresh (apG _);have hnT:∀b o,s.heap.get? b=some o->b≠s.heap.objs.size:=λb o q=>apM (apH q);have I2:Inv X pins σ (upd H s.heap.objs.size (.tup [.int i,x])) {s with heap:=h',toks:=s.toks+1}:=by
   refine I1.yj hfr I.sz (ap4 I.lt) (λy c q=>?_) (λpp hp=>hnT _ _ (I.pin pp hp).1) ⟨by show 2<=sizeLine;decide,[.int i s.toks,u],.cons ⟨_,rfl⟩ (.cons ru .nil),?_⟩;.obtain⟨v,z⟩:=I.cell y c q;exact apM z.lt
   .exact⟨_,tp,rfl,0,rfl⟩
  refine⟨_,rfl,asl (s:={s with heap:=h',toks:=s.toks+1}) eo λh2 e2 s2=>?_⟩;have hTe:s.heap.objs.size≠e:=apO (hnT _ _ he);obtain⟨o1,ho1,_⟩:=hit;have hTi:s.heap.objs.size≠it:=apO (hnT _ _ ho1);refine⟨.ref s.heap.objs.size,upd H s.heap.objs.size (.tup [.int i,x]),?_,rfl,⟨_,rfl,hfr,λys hy=>⟨x,by rw[I.qI hy hq];exact hx,rfl⟩⟩,⟨⟨_,e2⟩,?_⟩,λb hb=>?_⟩;.exact I2.turned (t':=s.toks+1) (it:=e) (λb o hb q=>(s2.2 b hb).trans q) (by rw[ak (apO hTe)];exact fe.1) fe.2.1 fe.2.2.2.1 fe.2.2.2.2.1 fe.2.2.2.2.2
  .exact it'.extBut s2.extBut (apO hne)
  .have hb':b=e\/b=it:=by simpa using hb
   rcases hb' with rfl|rfl;.rw[ak (apO hTe)];exact fe.1
   .rw[ak (apO hTi)];exact fi.1
 done:=by intro X hP hw hK i pins s σ H E hc I hf st hg;subst hP hw hK;obtain⟨⟨old,he⟩,hit⟩:=st;obtain⟨xs,hq,hx⟩:=hg;obtain⟨its,rv,p,hz⟩:=I.list hq;have fi:=hf it (by simp);have hl:=rv.length;exact wpAny_pyNext_enum_end (I.ok.hd hc) he hit p.isList (by simp;omega) λh' eb=>⟨rfl,I.turned (t':=s.toks) (λb o hb q=>eb b o hb q) fi.1 fi.2.1 fi.2.2.2.1 fi.2.2.2.2.1 fi.2.2.2.2.2⟩
 self:=λ_ _ _ _ _ h0_ h=>by obtain⟨⟨_,he⟩,_⟩:=h0_;exact arN he h
section
variable{X:Cx}
def ako(K:W.Frag)(d:TE):TI:=λσ H R=>d σ H λx b=>∃a,x=.ref a/\((∃c,SqT K b a c)/\R (Ite K a) b\/(∃c,SqL K b a c)/\R (alS K a) b)
def uQ{l:Expr}{A:TE}{es:List Expr}{k:Nat}{K p pos:Pos}(S:Gl X "enumerate")(Q:X.mg "enumerate"=none)(N:PE X l A)(hs:starEach [l] X.env=[(false,eval l X.env)]:=by rfl):PI X (.Tuple es k K) (.Call (.Name "enumerate" p) [l] [] pos) (ako X.K A):=by intro f s σ H R I h;have P:PA X [l] (ji A aaE):=bM N eF (by unfold SE;rw[hs];rfl);refine Call_ (j9 I S Q boot_enumerate (aqk (thn (P pos f s σ H (λz g=>match z with|[x]=>∃a,x=.ref a/\((∃r,SqT X.K g a r)/\R (Ite X.K a) g\/(∃r,SqL X.K g a r)/\R (alS X.K a) g)|_=>False) I h) λT c B=>?_) hs rfl));obtain⟨z,g,j,w,d⟩:=B;match z,d,w with
|[x],d,w=>
  obtain⟨a,rfl,d⟩:=d;obtain⟨u,rfl,E⟩:=vals1 w;cases E;have D:c.heap.objs.size+1≠c.heap.objs.size:=Nat.succ_ne_self _;have C:∀b∈[c.heap.objs.size+1,c.heap.objs.size],vU X f g b:=λb J=>by
   have v:b=c.heap.objs.size+1\/b=c.heap.objs.size:=by simpa using J
   have n:c.heap.objs.size<=b:=by
    rcases v with e|e;.rw[e];exact asd _
    .rw[e];exact apG _
   exact j.akv n (j.hok.fresh n)
  rcases d with⟨⟨r,y⟩,q⟩|⟨⟨r,y⟩,q⟩;.obtain⟨m,M,p,O⟩:=j.tuple y;refine zK (show c.heap.IsTuple a m.toArray from p) λG o i t=>arN o ?_;exact⟨c.heap.objs.size+1,[c.heap.objs.size+1,c.heap.objs.size],_,_,g,rfl,j.kept (t':=c.toks) t,yh a _ _ D,⟨⟨_,o⟩,i⟩,C,q⟩
  .obtain⟨m,M,p,O⟩:=j.list y;refine call_enumerate_list p.isList λG o i _ t=>arN o ?_;exact⟨c.heap.objs.size+1,[c.heap.objs.size+1,c.heap.objs.size],_,_,g,rfl,j.kept (t':=c.toks) t,yi a _ _ D,⟨⟨_,o⟩,i⟩,C,q⟩|[],d,_=>exact d.elim|_::_::_,d,_=>exact d.elim
end
section
variable{X:Cx}
def acT(R:X.calm=true):bV X (.builtin "all") λG H Q=>∃(l:Addr)(bs:List Bool),G=[.ref l]/\SqL X.K H l (bs.map V.bl)/\Q (.bl (bs.all id)) H:=by
 intro C s σ H G us Q I r h;obtain⟨l,bs,rfl,P,q⟩:=h;obtain⟨u,rfl,Y⟩:=vals1 r;cases Y;obtain⟨a,D,pl,hz⟩:=I.list P;have T:=D.length;have Z:l<s.heap.objs.size:=by obtain⟨o,_,y,_⟩:=pl;exact apH y
 have n:∀(i:Nat)(v:Value),a.toArray[i]?=some v->∃b,bs[i]?=some b/\v=Value.bool b:=λi v N=>by
  have d:a[i]?=some v:=by simpa using N
  have c:i<(bs.map V.bl).length:=by have:=(apC.mp d).1;omega
  obtain⟨u,f,B⟩:=D.get (apy c);rw[d]at f;cases f;have x:i<bs.length:=by simpa using c
  refine⟨bs[i],apy x,?_⟩;rw[List.getElem_map]at B;exact B
 refine call_all_walk (arO pl.isList ⟨s.heap.objs.size,_,_,_,_,_,λi=>bs.getD i false,rfl,Walks.list (prog:=X.prog) (w:=X.w) (A:=X.A.in1) (show X.A.in1.handled=none from I.ok.hd R) s.heap.objs.size l (apM Z) a.toArray,⟨⟨_,apL _ rfl,rfl,rfl⟩,?_⟩,?_,λh' tk U=>?_⟩);.obtain⟨o,k,y,p,S,t⟩:=pl;exact⟨o,apw _ y,p,k,t⟩
 .intro i v O J E' M g;obtain⟨b,j,rfl⟩:=n i v M;have g:J (bs.getD i false) O:=g;rw[apx,j]at g;exact aq1 g
 .have e:(List.range a.toArray.size).all (λi=>bs.getD i false)=bs.all id:=by
   have m:a.toArray.size=bs.length:=by simp at T⊢;omega
   rw[m,ap2,aqn,aqn];constructor;.intro h b n;obtain⟨i,c,rfl⟩:=aq6 n;have:=h i (apP.mpr c);rw[apx,apy c]at this;exact this
   .intro h i c;have c:=apP.mp c;rw[apx,apy c];exact h _ (ap7 c)
  rw[e];exact⟨.bl _,H,I.kept λb o E=>U b o (by
  intro z;have K:b=s.heap.objs.size:=by simpa using z
  exact absurd (apH E) (by rw[K];exact aqP _)) (apw _ E),rfl,q⟩
def abT:IxR X λx y H Q=>∃a b k v,x=.ref a/\y=kV k/\Rd H a (.dK b)/\ug b k=some v/\Q v H:=by intro f c h s σ H x y v u Q I n j⟨a,_,k,z,ex,i,e,l,q⟩m;subst ex i;cases n;obtain⟨p,o,t,d,dd⟩:=akJ I.hok e;refine fO (ui.some_of (by rw[<-l];exact d.val k)) λr hw g=>?_;exact tail_any dd.typeIs asw.lookup (wpAny_getItem_of (aes j) dd.mapOf hw (jJ z H (I.tok _) g q)) m
def acY(w:World)(K:W.Frag)(a:Addr)(kvs:List (Str×V)):Prop:=∃b n,K.lookup a=some ⟨.type "dict",none,.dict b n,#[]⟩/\Paired (λ(p:Str×V)(e:DictEntry)=>(∃t,e.key=.str p.1 t)/\e.hash=PyData.keyHash w.params p.1/\RelV p.2 e.val) kvs b.toList
theorem pI{w:World}:∀{kvs es},Paired (λ(p:Str×V)e=>(∃t,e.key=.str p.1 t)/\e.hash=PyData.keyHash w.params p.1/\RelV p.2 e.val) kvs es->W.KeysLit w.params es|_,_,.nil=>trivial|_,_,.cons ⟨⟨t,e1⟩,e2,_⟩ r=>⟨⟨_,t,e1,e2⟩,pI r⟩
theorem acd{w:World}(k)(v):∀{kvs es},Paired (λp(e:DictEntry)=>(∃t,e.key=.str p.1 t)/\e.hash=PyData.keyHash w.params p.1/\RelV p.2 e.val) kvs es->kvs.lookup k=some v->∃e,es.find? (λe=>Value.isStrOf k e.key)=some e/\RelV v e.val
|_,_,.nil,h=>by simp at h|_,_,.cons (a:=p) (b:=e) ⟨⟨t,e1⟩,e2,rv⟩ r,h=>by
 by_cases f:k=p.1;.obtain⟨c,i⟩:=p;subst f;simp[List.lookup]at h;subst h;exact⟨e,by simp[List.find?,e1,Value.isStrOf],rv⟩
 .obtain⟨c,i⟩:=p;have d:(k==c)=false:=by simpa using f
  simp only[List.lookup,d]at h;refine fO (acd k v r h) λj g l=>?_;refine⟨j,?_,l⟩;rw[ar3,e1];have:Value.isStrOf k (.str c t)=false:=by simp[Value.isStrOf];exact λz=>f z.symm
  rw[this];exact g
def aeu{a0 kvs}(D:acY X.w X.K a0 kvs):IxR X λx y H Q=>x=.ref a0/\∃k v,y=.str k/\kvs.lookup k=some v/\Q v H:=by intro a b c s σ H x y v u Q I j i⟨ex,k,z,f,l,q⟩g;subst ex f;cases j;obtain⟨t,rfl⟩:=i;refine eg D λr n o p=>?_;refine fO (acd k z p l) λe h m=>?_;have d:=W.mapOf_K (prog:=X.prog) I.kIn o (pI p);refine tail_any d.typeIs asw.lookup (wpAny_getItem_of (strKind_is _ _ k t) d ?_ (jJ z H (I.tok _) m q)) g;unfold findBy;rw[<-ase,h];rfl
end
end L2
set_option autoImplicit true
set_option relaxedAutoImplicit true
namespace L2
open PySem PySem.Spec PyProof.Rows
def V12(vs:Array Value)(v:Value):Prop:=vs[1]?=some v/\vs[2]?=some .none
def Trc(h:Heap)(e C:Addr)(dx:Option Addr)(f:Value):Option Addr->Prop|none=>∃a b,h.get? e=some a/\a.cls=.ref C/\a.dict=dx/\a.data=.fields b/\V12 b .none|some T=>T≠e/\∃a b c d,h.get? e=some a/\a.cls=.ref C/\a.dict=dx/\a.data=.fields b/\V12 b (.ref T)/\h.get? T=some c/\c.data=.fields d/\d[3]?=some f
def Trc.there{h e C dx j T}(t:Trc h e C dx j T):∃a b,h.get? e=some a/\a.cls=.ref C/\a.dict=dx/\a.data=.fields b/\b[2]?=some .none:=by cases T with|none=>refine lP t λa b d g c i f=>?_;exact⟨a,b,d,g,c,i,f.2⟩|some T=>obtain⟨_,a,b,_,_,d,g,c,i,f,_⟩:=t;exact afb a b d g c i f.2
def Trc.keeps{h h' e C dx f T}(t:Trc h e C dx f T)(k:∀b o,b=e\/T=some b->h.get? b=some o->h'.get? b=some o):Trc h' e C dx f T:=by cases T with|none=>refine eg t λa c d r=>?_;exact⟨a,c,k _ _ (.inl rfl) d,r⟩|some T=>obtain⟨l,a,c,g,n,d,p,m,j,i,q,r⟩:=t;exact⟨l,a,c,g,n,k _ _ (.inl rfl) d,p,m,j,i,k _ _ (.inr rfl) q,r⟩
def Obj.ot(f)(o:Obj):(o.mapFields f).dict=o.dict:=by obtain⟨c,d,a,b⟩:=o;cases a<;>rfl
section
variable{M:Model}{A:Around}{E:Value->Shared->Prop}{s:Shared}
def tI{B g d L e C u vs head j Q}(K:A.frames=some (g::d))(O:s.heap.FunFrames B (g::d))(S:g.frame=some L)(P:s.heap.get? e=some u)(H:u.data=.fields vs)(hsz:1<vs.size)(v:vs[2]?=some .none)(h:∀D N,(∀b o,s.heap.get? b=some o->b≠e->b∉frs (g::d)->D.get? b=some o)->(∀b o,s.heap.get? b=some o->b∈frs (g::d)->∃I,D.get? b=some {o with slots:=I})->s.heap.objs.size<=N->Trc D e C u.dict (rawInt L) (some N)->Q () {s with heap:=D})(R:u.cls=.ref C):wpAny M A (do let a <-frameOf g;let pl <-entryPlaceOf L j;let b <-EntryCells.newEntry head a .none (rawInt L) .none pl;setField (.ref e) 1 b) Q E s:=by
 have m:e ∉(g::d).filterMap (·.frame):=λT=>by obtain⟨_,o,G,J⟩:=O.mem T;rw[P]at G;injection G with G;subst G;exact J vs H
 refine apu (wpAny_frameOf_fun K O S λc f=>?_);refine apu (wpAny_entryPlaceOf λpl y=>?_);unfold EntryCells.newEntry newFields;refine apu (arM ?_ (y.sizeOk5 _ _ _ _ _));have k:c.get? e=some u:=(f.2.1 e m).trans P;have i:=apw {cls:=.type "traceback",dict:=none,data:=.fields ([head,.ref L,.none,rawInt L,.none]++if pl.isEmpty then List.replicate 6 Value.none else pl).toArray} k;refine arJ i H hsz ?_;have x:=ap4 (apH k);have l:=ard H (·.setIfInBounds 1 (Value.ref c.objs.size));have r:=aqJ (Obj.mapFields (·.setIfInBounds 1 (Value.ref c.objs.size))) i (arW l);have n:=(aqd (c.push {cls:=.type "traceback",dict:=none,data:=.fields ([head,.ref L,.none,rawInt L,.none]++if pl.isEmpty then List.replicate 6 Value.none else pl).toArray}) (Obj.mapFields (·.setIfInBounds 1 (Value.ref c.objs.size))) (apO x)).trans (apL c rfl);have keep:∀b o,b≠e->c.get? b=some o->((c.push {cls:=.type "traceback",dict:=none,data:=.fields ([head,.ref L,.none,rawInt L,.none]++if pl.isEmpty then List.replicate 6 Value.none else pl).toArray}).update e (Obj.mapFields (·.setIfInBounds 1 (Value.ref c.objs.size)))).get? b=some o:=λb o p w=>by rw[aqd _ _ (apO p)];exact apw _ w
 refine h _ c.objs.size (λb o w p t=>keep b o p ((f.2.1 b t).trans w)) (λb o w t=>?_) ?_ ?_;.obtain⟨I,q⟩:=f.2.2 b o w;exact⟨I,keep b _ (λz=>m (z▸t)) q⟩
 .rw[f.1];exact apG _
 .exact⟨x,_,_,_,_,r,(Obj.cls_mapFields _ _).trans R,Obj.ot _ _,l,⟨by simp[hsz],by rw[Array.getElem?_setIfInBounds];simpa using v⟩,n,rfl,by first|(simp;done)|(rcases y with rfl|⟨_,_,_,_,_,_,_,rfl⟩<;>simp)⟩
def xq{u d a L e C dx U T Q}(p:A.frames=some (d::a))(H:s.heap.FunFrames u (d::a))(O:d.frame=some L)(X:Trc s.heap e C dx U T)(y:(U==rawInt L)=false)(h:∀i l,(∀b o,s.heap.get? b=some o->b≠e->T≠some b->b∉frs (d::a)->i.get? b=some o)->(∀b o,s.heap.get? b=some o->b∈frs (d::a)->∃sl,i.get? b=some {o with slots:=sl})->s.heap.objs.size<=l->Trc i e C dx (rawInt L) (some l)->Q () {s with heap:=i}):wpAny M A (noteFrame (.ref e) d) Q E s:=by unfold noteFrame;simp only[O];cases T with|none=>refine lP X λY G t D j n k=>?_;refine apu (apY t n k.1 ?_);rw[apA (by decide)];subst j;exact tI p H O t n (aq0.mp k.1).1 k.2 (λi l J P K B=>h i l (λb o f N _ x=>J b o f N x) P K B) D|some T=>
 obtain⟨I,Y,G,oT,ts,t,D,j,n,k,R,m,S⟩:=X;subst j;refine apu (apY t n k.1 ?_);rw[apB (by simp)];refine apu (apY R m S ?_);rw[apA (by rw[y];exact apW)];refine apu (arJ R m (aq0.mp S).1 ?_);have other:∀b,b≠T->(s.heap.update T (Obj.mapFields (·.setIfInBounds 3 Value.none))).get? b=s.heap.get? b:=λb f=>aqd _ _ (apO f);have c:∀b o,s.heap.get? b=some o->(∀G,o.data≠.fields G)->b≠T:=λb o f g q=>by grind
 have v:∀b∈frs (d::a),b≠T:=λb f=>by obtain⟨_,o,ho,g⟩:=H.mem f;exact c b o ho g
 refine tI p (H.of_keeps λb o f g=>⟨o,(other b (c b o f g)).trans f,rfl⟩) O ((other e (apO I)).trans t) n (aq0.mp k.1).1 k.2 (λi l J P K B=>h i l (λb o f N Z x=>?_) (λb o f r=>?_) ?_ B) D;.have w:b≠T:=λz=>Z (by rw[z]);exact J b o ((other b w).trans f) N x
 .exact P b o ((other b (v b r)).trans f) r
 .rw[<-Heap.size_after_update ..];exact K
def abv{a}{L e C T:Addr}{dx d Q}(o:a.frame=some L)(k:Trc s.heap e C dx d (some T))(c:(d==rawInt L)=true)(h:Q () s):wpAny M A (noteFrame (.ref e) a) Q E s:=by unfold noteFrame;simp only[o];obtain⟨l,q,r,t,u,m,p,f,j,g,i,b,n⟩:=k;refine apu (apY m j g.1 (apu (apY i b n ?_)));rw[apB c];exact apF h
def zj   (t:Trc s.heap e C dx fl (some T))(h:∀i,(∀b o,s.heap.get? b=some o->b≠T->i.get? b=some o)->Trc i e C dx (fr.elim .none λf=>rawInt f) (some T)->Q () {s with heap:=i}):wpAny M A (setFlight (.ref e) fr) Q E s:=by obtain⟨d,q,r,w,x,n,p,g,m,k,l,c,v⟩:=t;have a:=(aq0.mp v).1;have other:∀b,b≠T->(s.heap.update T (Obj.mapFields (·.setIfInBounds 3 (fr.elim Value.none λf=>rawInt f)))).get? b=s.heap.get? b:=λb j=>aqd _ _ (apO j);exact apu (apY n m k.1 (arJ l c a (h _ (λb o j u=>(other b u).trans j) ⟨d,q,r,_,_,(other e (apO d)).trans n,p,g,m,k,aqJ _ l (arW (ard c _)),ard c _,by simp[a]⟩)))
end
def jv{P w H h a o}(x:dH P w H h a o):∃ob,h.get? a=some ob:=by cases o with|lst xs=>obtain⟨_,_,_,_,e⟩:=x;exact⟨_,e⟩|tup xs=>obtain⟨_,_,_,o,e,_⟩:=x;exact⟨_,e⟩|dK kvs|dT kvs=>obtain⟨_,_,_,_,o,_,_,e,_⟩:=x;exact⟨_,e⟩|set S n=>obtain⟨o,_,_,_,e,_⟩:=x;exact⟨_,e⟩|ins C dx fs=>obtain⟨_,_,_,e,_⟩:=x;exact⟨_,e⟩|own y=>exact x|xd fs=>obtain⟨_,⟨_,_,_,e,_⟩,_⟩:=x;exact⟨_,e⟩|rng lo hi=>obtain⟨_,_,_,e⟩:=x;exact⟨_,e⟩|frz ob u=>obtain⟨e,_⟩:=x;exact⟨_,e⟩|tbl ps|met f y=>exact⟨_,x⟩|ext φ=>obtain⟨_,e,_⟩:=x;exact e
def FpX(X:Cx)(pins:List (Addr×Obj))(H:Hp)(b:Addr):Prop:=H b=none/\b≠X.env.locals/\b∉X.fs/\(b∈X.ex\/X.s₀.heap.get? b=none)/\(∀x c,X.env.cells.lookup x=some c->c≠b)/\∀p∈X.pn++pins,p.1≠b
structure Thr(X:Cx)(pins:List (Addr×Obj))(σ:St)(H:Hp)(s:Shared)(e C:Addr)(dx:Option Addr)(fl:Value)(T:Option Addr):Prop where
 inv:Inv X pins σ H s
 trc:Trc s.heap e C dx fl T
 fe:FpX X pins H e
 fT:∀t,T=some t->FpX X pins H t
section
variable{X:Cx}{pins:List (Addr×Obj)}{σ:St}{H:Hp}{s:Shared}{e C:Addr}{dx:Option Addr}{fl:Value}{T:Option Addr}
def Inv.fpX{H'}(I:Inv X pins σ H s){b}(d:s.heap.get? b=none)(i:H' b=none):FpX X pins H' b:=by
 refine⟨i,λz=>?_,λz=>?_,?_,λx c h z=>?_,λp j z=>?_⟩;.obtain⟨m,⟨o,n,l,a,_⟩,_⟩:=I.loc;rw[<-z,d]at a;cases a
 .obtain⟨_,o,a,_⟩:=I.rC.mem z;rw[d]at a;cases a
 .by_cases g:b∈X.ex;.exact .inl g
  .refine .inr ?_;cases q:X.s₀.heap.get? b with|none=>rfl|some o=>obtain⟨k,f⟩:=I.base.there b o q g;rw[d]at f;cases f
 .obtain⟨v,o,a,_⟩:=I.cell x c h;rw[z,d]at a;cases a
 .have:=(I.pin p j).1;rw[z,d]at this;cases this
def Inv.ald(I:Inv X pins σ H s){ch:List Addr}{h'}(d:∀b∈ch,FpX X pins H b)(k:∀b o,s.heap.get? b=some o->b∉ch->b∉frs X.stack->h'.get? b=some o)(f:∀b o,s.heap.get? b=some o->b∉ch->b∈frs X.stack->∃i,h'.get? b=some {o with slots:=i}):Inv X pins σ H {s with heap:=h'}:=by
 have any:=λb o q a=>by
  by_cases g:b∈frs X.stack;.exact f b o q a g
  .exact⟨o.slots,k b o q a g⟩
 have trk:∀b u,H b=some u->b∉ch/\b∉frs X.stack:=λb u q=>⟨(λz=>by rw[(d b z).1]at q;cases q),λz=>by rw[I.uz b z]at q;cases q⟩;refine I.aaH (λb g=>⟨(d b g).2.2.2.1,(d b g).2.1,(d b g).2.2.2.2.1,(d b g).2.2.2.2.2⟩) (λb o h j a q _=>k b o q a ((λb h j z=>(apJ.mp (I.wA b z)).elim h j) b h j)) (λb o _ _ a q _=>any b o q a) (λ_ _ _ _ n=>n) (λb o a q=>let⟨i,z⟩:=any b o q a;⟨_,z⟩) (λ_ _ q=>q) (λ_ _ _ q=>q) (λb y q=>⟨#[],by rw[q];simp⟩) (λm w=>?_) (λb u q=>?_) I.bare;.refine x9 w λo t p x r=>?_;obtain⟨i,l⟩:=any _ o x λz=>(d _ z).2.1 rfl;exact acZ _ t p l r
 .refine(I.hok b u q).wC (λc v a z=>?_) (λ_ z=>z) λ_ _ z=>z;rcases a with rfl|a;.exact k c v z (trk c u q).1 (trk c u q).2
  .exact k c v z (trk c _ a).1 (trk c _ a).2
variable{M:Model}{E:Value->Shared->Prop}{Q:Unit->Shared->Prop}
def Thr.note(t:Thr X pins σ H s e C dx fl T)(hs:X.stack=X.env::X.outer)(r:X.env.frame=some X.env.locals)(h:∀i j p,Thr X pins σ H {s with heap:=i} e C dx p (some j)->Q () {s with heap:=i}):wpAny M X.A (noteFrame (.ref e) X.env) Q E s:=by
 have I:=t.inv;have f:=I.stack;rw[hs]at f;have l:(fl==rawInt X.env.locals)=false->wpAny M X.A (noteFrame (.ref e) X.env) Q E s:=λc=>by
  refine xq (by rw[<-hs];exact I.ok.frames) f r t.trc c λi j n x k u=>h i j (rawInt X.env.locals) ?_;have g:=I.hok.fresh k;have w:∀b∈e::T.toList,FpX X pins H b:=λb a=>by
   rcases apJ.mp a with rfl|a;.exact t.fe
   .exact t.fT b (by grind)
  have d:∀b,b∉e::T.toList->b≠e/\T≠some b:=λb a=>⟨λz=>a (by rw[z];exact apN),λz=>a (by rw[z];simp)⟩;have v:=I.ald w (λb o q m a=>n b o q (d b m).1 (d b m).2 (by rw[<-hs];exact a)) λb o q _ a=>x b o q (by rw[<-hs];exact a);exact⟨v,u,t.fe,λb a=>by cases a;exact I.fpX (aqb k) g⟩
 cases T with|none=>exact(show Thr X pins σ H s e C dx .none none->_ from λt=>by
   have c:((.none:Value)==rawInt X.env.locals)=false:=by simp[rawInt]
   refine xq (by rw[<-hs];exact I.ok.frames) f r t.trc c λi j n x k u=>h i j (rawInt X.env.locals) ?_;have g:=I.hok.fresh k;have v:=I.ald (λb a=>by rw[aqt.mp a];exact t.fe) (λb o q m a=>n b o q (λz=>m (by rw[z];exact apN)) (by intro z;cases z) (by rw[<-hs];exact a)) λb o q _ a=>x b o q (by rw[<-hs];exact a);exact⟨v,u,t.fe,λb a=>by cases a;exact I.fpX (aqb k) g⟩) ⟨t.inv,t.trc,t.fe,t.fT⟩|some T0=>cases c:fl==rawInt X.env.locals with|false=>exact l c|true=>exact abv r t.trc c (h s.heap T0 fl t)
def Thr.ab8{T fr}(t:Thr X pins σ H s e C dx fl (some T))(h:∀c a,Thr X pins σ H {s with heap:=c} e C dx a (some T)->(fr=none->a=.none)->Q () {s with heap:=c}){A}:wpAny M A (setFlight (.ref e) fr) Q E s:=by exact zj t.trc λc f g=>h c _ ⟨t.inv.ald (λb i=>by rw[aqt.mp i];exact t.fT T rfl) (λb o q d _=>f b o q λz=>d (by grind)) λb o q d _=>⟨o.slots,f b o q λz=>d (by grind)⟩,g,t.fe,t.fT⟩ λz=>by grind
def Thr.ab9{T}(t:Thr X pins σ H s e C dx fl (some T))(h:∀a,Thr X pins σ H {s with heap:=a} e C dx .none (some T)->Q () {s with heap:=a}){A}:wpAny M A (setFlight (.ref e) none) Q E s:=t.ab8 λa b c z=>h _ (z rfl▸c)
def Thr.pass{f T b d Q}(t:Thr X pins σ H s e C dx fl (some T))(h:∀c a,Thr X pins σ H {s with heap:=c} e C dx a (some T)->E (.ref e) {s with heap:=c}){A}:wpAny M A (PySem.passOn b (.ref e) d:Sem f) Q E s:=by obtain⟨m,p,q,r,w,n,o,j,l,k,u,g,v⟩:=id t.trc;exact apu (apY n l k.1 (apu (t.ab8 λc a i _=>wpAny_throw (h _ _ i))))
end
def CXX(P:Program)(w:World):CXT:=λa H s E e b=>∃d C f T c,e=.ref d/\b.os=s.os/\AllBare b.gens/\Un (frs a) [] H c s.heap b.heap/\HOk P w c b.heap/\Trc b.heap d C f .none (some T)/\s.heap.get? d=none/\s.heap.get? T=none/\c d=none/\c T=none/\E (.ref C) f c
section
variable{X:Cx}{pins:List (Addr×Obj)}{σ:St}{H:Hp}{s s':Shared}{e:Value}{E:XK}
def Inv.thrown(I:Inv X pins σ H s)(h:CXX X.prog X.w X.stack H s E e s'):∃a C d T c,e=.ref a/\Thr X pins σ c s' a C d .none (some T)/\E (.ref C) d c:=by obtain⟨a,C,d,T,c,rfl,n,i,un,f,k,j,m,g,l,q⟩:=h;exact⟨a,C,d,T,c,rfl,⟨I.aeZ n un f i λb z=>absurd z (by simp),k,I.fpX j g,λt z=>by cases z;exact I.fpX m l⟩,q⟩
end
def abK{P w K j g N d scope f h A a s H E pins σ H' s' e C dx T m}(t:Thr (ky (CXX P w) P w K j g N d scope f h A a s H E) pins σ H' s' e C dx m T)(q:E (.ref C) dx H'):(ky (CXX P w) P w K j g N d scope f h A a s H E).xe (.ref e) s':=by
 refine apu (t.note rfl rfl λn i _ l=>l.ab9 λk c=>?_);have I:=c.inv;have new:∀b,FpX (ky (CXX P w) P w K j g N d scope f h A a s H E) pins H' b->s.heap.get? b=none:=λb z=>by
  rcases z.2.2.2.1 with z|z;.exact absurd (show b∈[]from z) (by simp)
  .exact z
 exact⟨e,C,dx,i,H',rfl,I.os,I.bare,I.base,I.hok,c.trc,new e c.fe,new i (c.fT i rfl),c.fe.1,(c.fT i rfl).1,q⟩
section
variable{X:Cx}{k:Nat}{f:Addr}{fd:FuncData}{ps:List Str}{sp:Sp}{dvs:List V}{ds:List Value}{x:Str}{p pos:Pos}{e:Expr}{es:List Expr}{t:TA}
def wu(X:Cx)(sp:Sp)(dvs:List V)(t:TA):TE:=λσ H Q=>t σ H λg d=>∃E:XK,sp (g++dvs) d Q E/\∀a s e C c T b,Thr X a σ b s e C c .none (some T)->E (.ref C) c b->X.xe (.ref e) s
def aaW    (F:FnOk X.prog X.w X.K X.mg X.base (CXX X.prog X.w) k f fd ps sp)(i:Room k X.A)(n:Binds X.K fd ps ds)(j:Vals dvs ds)(v:∀a s e C c T b,Thr X a σ b s e C c .none (some T)->E (.ref C) c b->X.xe (.ref e) s)(I:Inv X a σ H s)(r:Vals vs us)(h:sp (vs++dvs) H Q E):wpAny (model X.prog X.w) X.A (call (.ref f) us) (EP X a σ Q) X.xe s:=by
 have g:=r.append j;have l:(us++ds).length=ps.length:=by rw[<-g.length];exact F.len _ _ _ _ h
 refine arp (arA (F.run _ _ s H _ _ _ Q E i trivial I.alH (n s us I.kIn l) g h) λr o d=>?_);cases r with|error e=>obtain⟨m,C,c,T,b,rfl,t,q⟩:=I.thrown d;exact v _ o m C c T b t q|ok fl=>cases fl with|ret u=>exact I.after d|next|brk|cont=>exact False.elim d
def w6(F:FnOk X.prog X.w X.K X.mg X.base (CXX X.prog X.w) k f fd ps sp)(g:Room k X.A)(u:Gl X x)(o:X.mg x=some (.ref f))(j:W.keepIn X.K (.ref f)=true)(n:Binds X.K fd ps ds)(i:Vals dvs ds)(m:PA X (e::es) t)(a:Dbg x:=by decide)(l:SE X e es:=by rfl)(b:BT X pos es:=by rfl):PE X (.Call (.Name x p) (e::es) [] pos) (wu X sp dvs t):=by intro c s σ H Q I h;exact aqU (gF I u o (asB I.ok.mod.kin j (thn (m _ _ s σ H _ I h) λA z⟨y,w,d,r,E,q,v⟩=>⟨d.kIn,aaW F g n i v d r q⟩) l b) a)
end
section
variable{X:Cx}{t:TA}{x:Str}{C:Addr}{np cpos pos:Pos}{e:Expr}{es:List Expr}
noncomputable abbrev gq:List Value:=[.type "ValueError",.type "Exception",.type "BaseException",.type "object"]
def aiW(X:Cx)(C:Addr)(t:TA):TS:=λ_ σ H=>t σ H λc b=>c.length<=sizeLine/\∀a s e,Thr X a σ b s e C none .none none->X.xe (.ref e) s
def rD(K:W.Frag)(C:Addr)(r:Option Value):Prop:=∃c b j m bs h l sub d a dd g i n k f,K.lookup C=some (excClassObj j m C b bs c h l sub d a dd g i n k f "ValueError.__new__")/\(W.tailIn K gq c&&W.nsOkIn K b&&W.nsIn K b "__init__"==some r)=true
def rD.mk{K C r bm ns nm b bs a sn sub ab col dd k0 k1 k2 k3 k5}(h:K.lookup C=some (excClassObj nm b C ns bs bm a sn sub ab col dd k0 k1 k2 k3 k5 "ValueError.__new__"))(q:(W.tailIn K gq bm&&W.nsOkIn K ns&&W.nsIn K ns "__init__"==some r)=true):rD K C r:=⟨_,_,_,_,_,_,_,_,_,_,_,_,_,_,_,_,h,q⟩
def rD.out{K:W.Frag}{h:Heap}{r}{P:Prop}(X:K.In h)(q:rD K C r)(k:∀c b l o bs i n sub d a dd g j p m f,h.get? C=some (excClassObj l o C b bs c i n sub d a dd g j p m f "ValueError.__new__")->W.nsOkIn K b=true->W.nsIn K b "__init__"=some r->OwnTail h gq c->P):P:=by obtain⟨c,b,l,o,bs,i,n,sub,d,a,dd,g,j,p,m,f,s,q⟩:=q;simp only[apT,aqO]at q;exact k _ _ _ _ _ _ _ _ _ _ _ _ _ _ _ _ (X _ _ s) q.1.2 q.2 (W.tail_of_in X q.1.1)
set_option tactic.hygienic true
def akO{K:W.Frag}{h:Heap}{d:Str->Option Value}(X:K.In h)(e:d x=some (.ref C))(q:rD K C none):OwnCls x C gq "ValueError.__new__" d h:=q.out X λr u m s bs k n sub f b dd j l p o i g a c t=>⟨e,r,u,m,s,bs,k,n,sub,f,b,dd,j,l,p,o,i,_,g,.of_isNs (W.isNs_of_in X a),W.nsMap_none_of_in X a c,t⟩
set_option tactic.hygienic false
def wX(A:X.calm=true)(M:Gl X x)(m:X.mg x=some (.ref C))(q:rD X.K C none)(J:PA X (e::es) t)(r:Dbg x:=by decide)(l:SE X e es:=by rfl)(a:BT X cpos es:=by rfl):PS X (.Raise (some (.Call (.Name x np) (e::es) [] cpos)) none pos) (aiW X C t):=by
 intro b s σ H D I h;obtain⟨G,N,nm,K,bs,hdct,sn,sub,ab,col,dd,k0,k1,k2,k3,k5,mN,v,B,g,T⟩:=(akO (x:=x) I.mod.kin m q).obj;refine wpAny_Raise_call_subT (C:=C) (nm:=nm) (q:=K) (N:=N) (bs:=bs) (bm:=G) (hdct:=hdct) (sn:=sn) (sub:=sub) (ab:=ab) (col:=col) (dd:=dd) (k0:=k0) (k1:=k1) (k2:=k2) (k3:=k3) (k5:=k5) aqG (mN:=mN) (T.hasType aqG.hasBase) (I.ok.hd A) (by rw[l];show(false||(backTo cpos _).any (·.1))=false;rw[a];rfl) g (gF I M m ⟨rfl,?_⟩ r);have j:=J cpos b s σ H _ I h;rw[l]at j⊢;refine ar1 (thn j λR w⟨S,i,c,y,E,p⟩=>⟨rfl,by rw[<-y.length];exact E,c.bk _ _ v,B.keeps c.bk,T.keeps c.bk,λP d f=>?_⟩);refine jK f.there λY n U Q=>?_;have O:i d=none:=by cases z:i d with|none=>rfl|some u=>obtain⟨o,k⟩:=jv (c.hok d u z);rw[f.new]at k;cases k
 refine p b _ d ⟨c.kept (t':=w.toks) f.keeps,aiw _ _ n rfl rfl rfl rfl rfl,c.fpX f.new O,λt z=>by cases z⟩
end
abbrev Cx.sui(X:Cx)(e:Addr):Cx:={X with A:=X.A.mark (some (.ref e)),calm:=false,xe:=λ_ _=>False}
def Cx.Ok.jM{X:Cx}{E a}(ok:(X.tri E a).Ok):X.Ok:=⟨ok.mod,ok.kind,ok.glob,ok.blt,ok.above,ok.inj,ok.has,ok.cab,ok.hd,ok.frames,ok.stk,ok.exf,ok.bs,ok.bsz,ok.noex,ok.exfs,ok.rC,ok.frf⟩
theorem Cx.Ok.sui{X:Cx}(ok:X.Ok)(e):(X.sui e).Ok:=⟨ok.mod,ok.kind,ok.glob,ok.blt,ok.above,ok.inj,ok.has,ok.cab,λz=>by grind,ok.frames,ok.stk,ok.exf,ok.bs,ok.bsz,ok.noex,ok.exfs,ok.rC,ok.frf⟩
section
variable{X:Cx}{pins pins':List (Addr×Obj)}{σ:St}{H:Hp}{s:Shared}{E:Value->Shared->Prop}
theorem Inv.jM(I:Inv (X.tri E (X.pn++pins)) pins' σ H s):Inv X pins σ H s:=⟨I.ok.jM,I.os,I.bare,I.base,I.loc,I.cell,I.free,I.freeC,λp a=>I.pin p (ap0 _ a),I.hok,I.len⟩
theorem Inv.sui(I:Inv X pins σ H s)(e):Inv (X.sui e) pins σ H s:=⟨I.ok.sui e,I.os,I.bare,I.base,I.loc,I.cell,I.free,I.freeC,I.pin,I.hok,I.len⟩
def Inv.back(I:Inv X pins σ H s){e}{a:St}{H' s'}(J:Inv (X.sui e) pins a H' s'):Inv X pins a H' s':=⟨I.ok,J.os,J.bare,J.base,J.loc,J.cell,J.free,J.freeC,J.pin,J.hok,J.len⟩
def FpX.jM{b}(h:FpX (X.tri E (X.pn++pins)) pins' H b):FpX X pins H b:=⟨h.1,h.2.1,h.2.2.1,h.2.2.2.1,h.2.2.2.2.1,λp a=>h.2.2.2.2.2 p (ap0 _ a)⟩
theorem Thr.jM{e C dx a T}(t:Thr (X.tri E (X.pn++pins)) pins' σ H s e C dx a T):Thr X pins σ H s e C dx a T:=⟨t.inv.jM,t.trc,t.fe.jM,λb c=>(t.fT b c).jM⟩
theorem SP.jM{D f s'}(h:SP (X.tri E (X.pn++pins)) pins' D f s'):SP X pins D f s':=by cases f with|next|brk|cont=>obtain⟨a,b,I,q⟩:=h;exact⟨_,b,I.jM,q⟩|ret u=>refine x8 h λv a b I r q=>?_;exact agm v _ b I.jM r q
end
section
variable{X:Cx}{pins:List (Addr×Obj)}{σ:St}{H:Hp}{s:Shared}{e Ce C:Addr}{dx:Option Addr}{fl:Value}{T:Addr}{x n:Str}{np hpos:Pos}{b0:Stmt}{suite:List Stmt}{Q:Flow->Shared->Prop}{E:Value->Shared->Prop}
def Thr.ty(t:Thr X pins σ H s e Ce dx fl (some T)){M}:W.Looks M s.heap (typeOf (.ref e)) (.ref Ce):=by obtain⟨c,d,b,a,_,_⟩:=t.trc.there;exact a▸(W.Looks.ld b).andThen .now
def ab3(t:Thr X pins σ H s e Ce dx fl (some T))(g:Gl X x)(d:X.mg x=some (.ref C))(h:W.exmOne X.K (.ref Ce) (.ref C)=some true)(k:∀a,Thr X pins σ H {s with heap:=a} e Ce dx .none (some T)->wpAny (model X.prog X.w) (X.A.mark (some (.ref e))) (storeName X.env n (.ref e)) (λ_ b=>wpAny (model X.prog X.w) (X.A.mark (some (.ref e))) (execs (b0::suite) X.env) (λf l=>wpAny (model X.prog X.w) X.A (do bindName X.env n .none;unbindBehindTheSuite X.env n hpos) (λ_ j=>Q f j) E l) (λ_ _=>False) b) (λ_ _=>False) {s with heap:=a})(i:Dbg x:=by decide):wpAny (model X.prog X.w) X.A (handleBy (.ref e) X.env [.ExceptHandler (some (.Name x np)) (some n) (b0::suite) hpos]) Q E s:=by refine wpAny_handleBy_cons (codeAny_handlers_test (gF (X:=X.sui e) (t.inv.sui e) g d ?_ i)) (by intro q;cases q);refine(W.exm_one t.inv.kIn t.ty h).here ?_;refine codeAny_handlers_suite_as (t.ab9 λa c=>?_);exact apZ (k a c) (λ_ b q=>apZ q (λ_ _ z=>z) λ_ _ z=>z.elim) λ_ _ z=>z.elim
def xu{i:Nat}(I:Inv X pins σ H s)(hN:X.N.Nodup)(hi:X.N[i]?=some n)(hl:X.env.scope.names.lookup n=some .local){Q:Unit->Shared->Prop}(h:∀U,Inv X pins (σ.set i none) H U->Q () U){A:Around}:wpAny (model X.prog X.w) A (do bindName X.env n .none;unbindBehindTheSuite X.env n hpos) Q E s:=by
 obtain⟨m,S,N⟩:=id I.loc;have B:(X.env.scope.kind==.class||X.env.scope.kind==.module&&X.env.locals !=X.env.globals)=false:=by rw[I.ok.kind];rfl
 refine wpAny_nameGoes_keeps hl S B λh' v O a=>h _ ?_;obtain⟨oL,_,_,a0,_⟩:=id S;have M:∀b o,X.s₀.heap.get? b=some o->b≠X.env.locals:=λb o e=>apM (apE (apH e) I.ok.above);refine⟨I.ok,I.os,I.bare,⟨λb o e n K D=>(a.2 b (M b o e)).trans (I.base.keep b o e n K D),λb o e n K D=>?_,I.base.free,λb o e D=>?_,I.base.tups,I.base.frzs,I.base.tbls⟩,⟨_,O,λj y v' f g e3=>?_⟩,λy c e=>?_,I.free,I.freeC,λp hp=>?_,λb ob e=>?_,by simpa using I.len⟩;.obtain⟨sl,f⟩:=I.base.slot b o e n K D;exact⟨sl,(a.2 b (M b o e)).trans f⟩
 .obtain⟨o',f⟩:=I.base.there b o e D;exact⟨o',(a.2 b (M b o e)).trans f⟩
 .have t:i≠j:=λz=>by
   subst z;by_cases Y:i<σ.length;.rw[apz Y]at g;cases g
   .rw[arl (by simpa using Y)]at g;cases g
  rw[apv t]at g;obtain⟨u,r,l⟩:=N j y v' f g e3;refine⟨u,r,?_⟩;have hy:y≠n:=λz=>by subst z;exact t (qD hN hi f)
  rcases l with⟨k,l⟩|⟨k,c,R,z⟩;.exact .inl ⟨k,by show(if y=n then v else m y)=some u;rw[apA hy];exact l⟩
  .refine .inr ⟨k,c,R,?_⟩;obtain⟨o,P,J⟩:=z;exact⟨o,(a.2 c (I.cne y c R)).trans P,J⟩
 .obtain⟨v,o,P,J⟩:=I.cell y c e;exact⟨v,o,(a.2 c (I.cne y c e)).trans P,J⟩
 .obtain⟨e,n,w,Z,d⟩:=I.pin p hp;exact⟨(a.2 p.1 w).trans e,n,w,Z,d⟩
 .refine(I.hok b ob e).wC (λc w' G q=>(a.2 c ?_).trans q) (λ_ q=>q) λ_ _ q=>q;rintro rfl;rcases G with rfl|G;.rw[I.free]at e;cases e
  .rw[I.free]at G;cases G
def excAt(a C:Addr)(dx:Option Addr)(h:Heap):Prop:=∃b c,h.get? a=some b/\b.cls=.ref C/\b.dict=dx/\b.data=.fields c/\c[2]?=some .none
def Thr.known(t:Thr X pins σ H s e Ce dx fl (some T)):Inv X pins σ (upd H e (.ext (excAt e Ce dx))) s:=by
 have I:=t.inv;have g:=t.fe;have f:∀b u,H b=some u->b≠e:=λb u q z=>by rw[z,g.1]at q;cases q
 have:=I.aaH (h':=s.heap) (H':=upd H e (.ext (excAt e Ce dx))) (g':=s.gens) (d':=s.drawn) (t':=s.toks) (ch:=[e]) (λb d=>by rw[aqt.mp d];exact⟨g.2.2.2.1,g.2.1,g.2.2.2.2.1,g.2.2.2.2.2⟩) (λb o _ _ _ q _=>q) (λb o _ _ _ q _=>⟨o.slots,q⟩) (λb o d _ n=>by rw[ak λz=>d (by rw[z];exact apN)];exact n) (λb o _ q=>⟨o,q⟩) (λb y q=>by rw[ak (f b _ q)];exact q) (λb o u q=>by rw[ak (f b _ q)];exact q) (λb B q=>⟨#[],by rw[ak (f b _ q),q];simp⟩) (λm A=>A) (λb u q=>by
   by_cases d:b=e;.subst d;rw[av]at q;cases q;obtain⟨l,h,i,p,w,v⟩:=t.trc.there;exact⟨⟨l,h,i,p,w,v⟩,⟨l,i⟩,λi p j k=>by obtain⟨o,h,a,r⟩:=j;exact⟨o,h,k o a,r⟩⟩
   .rw[ak d]at q;exact(I.hok b u q).wC (λ_ _ _ z=>z) (λc z=>by rw[ak (f c _ z)];exact z) λc y z=>by rw[ak (f c _ z)];exact z) I.bare;exact this
end
end L2
namespace L2
open PySem PySem.Spec PyProof.Rows
open PySem.W(findIn mroIn findObj specialIn takesIn clsIn hasDictIn KitX looks_findIn looks_mroIn looks_find)
section
variable{prog:Program}{w:World}{A:Around}{E:Value->Shared->Prop}{s:Shared}{K:W.Frag}{x D:Addr}{ox:Obj}{od:Option Obj}{name:Str}
def acj{nm:Value}{Q:Unit->Shared->Prop}(X:K.In s.heap)(I:W.InstAt s.heap x ox D od)(b:mroIn K D (.type "BaseException")=some true)(e:Q () s):wpAny (model prog w) A (checkBuiltinCall "BaseException.__getattribute__" ⟨[.ref x,nm],[]⟩) Q E s:=by
 have f:builtinKind "BaseException.__getattribute__"=some .slot:=by decide+kernel
 have a:splitId "BaseException.__getattribute__"=some ("BaseException","__getattribute__"):=by decide+kernel
 have i:=F.args_bexc_ga (.ref x) nm;have c:W.Looks (model prog w) s.heap (isInstance (.ref x) (.type "BaseException")) true:=I.type.andThen (looks_mroIn X b);obtain⟨h,g,d,t,os⟩:=s;simp only[checkBuiltinCall,f,a];refine apu (c.at ?_);repeat(first|wp_step)
 exact e
def af3{tk:Tok}{fill a:Bool}{Q:Value->Shared->Prop}(X:K.In s.heap)(I:W.InstAt s.heap x ox D od)(f:findIn K (.ref D) "__getattribute__"=some (some (.builtin "BaseException.__getattribute__")))(c:findIn K (.ref D) "__getattr__"=some none)(n:mroIn K D (.type "BaseException")=some true)(h:∀l,wpAny (model prog w) l (Builtin.«object.__getattribute__» ⟨[.ref x,.str name tk],[]⟩) (λfin i=>match fin with|.done (.ret v)=>wpAny (model prog w) A (handedOut v) Q E i|_=>False) (λ_ _=>False) s):wpAny (model prog w) A (getAttrBy (.ref x) (.str name tk) fill a) Q E s:=by
 have m:=I.type (M:=model prog w);have o:=looks_findIn (M:=model prog w) X f;have j:=looks_findIn (M:=model prog w) X c;have k:=F.excAttr_ValueError.ga.bind (.ref x);have b:(a&&onTheHeap (Value.builtin "BaseException.__getattribute__"))=false:=by cases a<;>rfl
 have e:(Value.builtin "BaseException.__getattribute__"==Value.builtin "object.__getattribute__")=false:=by decide+kernel
 obtain⟨p,g,d,t,os⟩:=s;unfold getAttrBy;refine aqF (apu (m.at (apu (o.at ?_))));dsimp only;rw[e,Bool.and_false,apA (by decide)];unfold getAttrByItsOwn hookBefore;rw[apB (show onTheHeap (Value.ref D)=true from rfl)];refine apu (j.at (apu (aru (aqF ?_))));unfold callGetattribute boundAndCalled;rw[b,apA (by decide),k];refine apu (apF (arp (ar4 F.excAttr_ValueError.ga.plain F.entry_bexc_ga (acj X I n (apZ (h _) (λfin i z=>?_) λ_ _ z=>z.elim)))));rcases fin with(_|_|_|_)|_<;>first|exact z|exact z.elim
def oq{g a:Value}{tk:Tok}{P:Value->Shared->Prop}(X:K.In s.heap)(I:W.InstAt s.heap x ox D od)(c:findObj K D od name=some (.bind g a))(h:wpAny (model prog w) A (call g [a,.ref x,.ref D]) P E s):wpAny (model prog w) A (Builtin.«object.__getattribute__» ⟨[.ref x,.str name tk],[]⟩) (λfin b=>match fin with|.done (.ret v)=>P v b|_=>False) E s:=by have e:=I.type (M:=model prog w);have f:=looks_find (M:=model prog w) X I c;obtain⟨j,i,d,t,os⟩:=s;refine apu (apF (apu (apF (apu (e.at (apu (f.at ?_)))))));show wpAny _ _ (holding [a] (call g [a,.ref x,.ref D])>>=ret) _ _ _;exact apu (aqF (apZ h (λv b z=>apF z) λ_ _ z=>z))
def qT{v:Value}{tk:Tok}{P:Value->Shared->Prop}(X:K.In s.heap)(I:W.InstAt s.heap x ox D od)(b:findObj K D od name=some (.value v))(h:P v s):wpAny (model prog w) A (Builtin.«object.__getattribute__» ⟨[.ref x,.str name tk],[]⟩) (λfin c=>match fin with|.done (.ret v)=>P v c|_=>False) E s:=by have a:=I.type (M:=model prog w);have e:=looks_find (M:=model prog w) X I b;obtain⟨f,g,d,t,os⟩:=s;refine apu (apF (apu (apF (apu (a.at (apu (e.at ?_)))))));exact apF h
structure ExcK(K:W.Frag)(D:Addr):Prop where
 cls:(clsIn K D).isSome=true
 ga:findIn K (.ref D) "__getattribute__"=some (some (.builtin "BaseException.__getattribute__"))gn:findIn K (.ref D) "__getattr__"=some none
 mb:mroIn K D (.type "BaseException")=some true
 mo:mroIn K D (.type "object")=some true
 cl:findIn K (.ref D) "__class__"=some (some (.builtin "object.__class__"))hn:specialIn K (.builtin "object.__class__") "__get__"=some (some (.builtin "getset_descriptor.__get__"))tk:takesIn K (.builtin "object.__class__")=some true
def ExcK.findCls(k:ExcK K D):findObj K D od "__class__"=some (.bind (.builtin "getset_descriptor.__get__") (.builtin "object.__class__")):=by obtain⟨b,a⟩:=aqr.mp k.cls;unfold findObj;rw[a,arq,k.cl,arq];simp[k.hn,k.tk]
def aci{Q:Option Value->Shared->Prop}(k:ExcK K D)(X:K.In s.heap)(I:W.InstAt s.heap x ox D od)(h:Q (some (.ref D)) {s with toks:=s.toks+1}):wpAny (model prog w) A (getAttr? (.ref x) "__class__") Q E s:=by unfold getAttr? getAttrBy?;refine apu (wpAny_mkText (apu (aru ?_)));refine af3 (s:={s with toks:=s.toks+1}) X I k.ga k.gn k.mb λa=>?_;refine oq (s:={s with toks:=s.toks+1}) X I k.findCls ?_;refine arp (W.class_get (s:={s with toks:=s.toks+1}) (ox:=ox) (od:=od) X I k.mo ?_);exact apF (apF h)
def aeK{v:Value}{a:Bool}{Q:Value->Shared->Prop}(k:ExcK K D)(X:K.In s.heap)(I:W.InstAt s.heap x ox D od)(c:findObj K D od name=some (.value v))(b:W.handedIn v=true)(h:Q v {s with toks:=s.toks+1}):wpAny (model prog w) A (getAttr (.ref x) name a) Q E s:=by unfold getAttr;refine apu (wpAny_mkText ?_);refine af3 (s:={s with toks:=s.toks+1}) X I k.ga k.gn k.mb λd=>?_;refine qT (s:={s with toks:=s.toks+1}) X I c ?_;rw[W.handedOut_of b];exact apF h
def ae6(x D:Addr)(h:Heap):Prop:=∃ox od,W.InstAt h x ox D od
set_option tactic.hygienic true
def aer(k:ExcK K D):KitX K (.ref x) (.ref D) (ae6 x D)where
 ty:=λ_ _ _ h0_=>by obtain⟨_,_,I⟩:=h0_;exact I.type
 it:=λ_ _ X _=>by
  obtain⟨cdD,hcD⟩:=aqr.mp k.cls;unfold clsIn at hcD;split at hcD;.rename_i c' d' cd' sl' ho;intro A' Q' E' s' k q;unfold isType loadHead;exact apu (asa (k _ _ (X _ _ ho)) (apF q))
  .cases hcD
 ne:=λh tp dd its n sl X htp=>by
  obtain⟨cdD,hcD⟩:=aqr.mp k.cls;refine Bool.eq_false_iff.mpr λq=>?_;have e:D=tp:=Value.ref.inj (aqO.mp q);subst e;unfold clsIn at hcD;split at hcD;.rename_i c' d' cd' sl' ho;have z:=(X _ _ ho).symm.trans htp;cases z
  .cases hcD
 ca:=λX h0_ q=>by obtain⟨_,_,I⟩:=h0_;exact aci k X I q
set_option tactic.hygienic false
end
end L2
namespace L2
open PySem PySem.Spec PyProof.Rows
noncomputable abbrev g7(C:Addr)(dx:Option Addr)(a0:Value):Obj:={cls:=.ref C,dict:=dx,data:=.fields #[a0,.none,.none,.none,.bool false,.none]}
def lj(e C:Addr)(dx:Option Addr)(h:Heap):Prop:=∃a,h.get? e=some (g7 C dx a)
section
variable{prog:Program}{w:World}{A:Around}{E:Value->Shared->Prop}{env:Env}
variable{nm q:Str}{C N:Addr}{bs bm bmB:List Value}{hdct:Bool}{sn:List Str}{sub:List Value}{ab:Bool}{col:Option Bool}{dd:Option Addr}{k0 k1 k2 k3 k5:Option Value}{B newId initId:String}
def n6{s x Q}(d:bm.contains (.type "BaseException")=true)(l:A.handled=none)(h:wpAny (model prog w) A x (λv a=>∃e g i,v=.ref e/\a.heap.get? C=some (excClassObj nm q C N bs bm hdct sn sub ab col dd k0 k1 k2 k3 k5 newId)/\a.heap.get? e=some (g7 C g i)/\E (.ref e) a) E s):wpAny (model prog w) A (raiseStmt env (some x) none) Q E s:=by
 have f:(Value.ref C::bm).contains (.type "BaseException")=true:=by grind
 refine apu (apZ h (λv a b=>?_) λ_ _ x=>x);refine vW b λe g i c j m k=>?_;subst c;repeat(first |(with_reducible refine wpAny_isSubtype_exc j ?_;rw[f])|wp_step)
 exact wpAny_raiseNew_none l k
variable{h:Heap}{g:Array GenState}{d:Drawn}{t:Nat}{os:OsState}
def mf(F:ExcBaseFacts B newId initId bmB)(T:OwnTail h bmB bm){mN:Str->Option Value}{rest:List Value}{fI:Addr}{p:Obj}{Q:Fin->Shared->Prop}(j:h.get? C=some (excClassObj nm q C N bs bm hdct sn sub ab col dd k0 k1 k2 k3 k5 newId))(z:h.Ns N mN)(D:mN "__init__"=some (.ref fI))(l:h.get? fI=some p)(n:p.cls=.type "function")(G:∀h' e,Heap.MadeExcOf h h' e (.ref C) rest->wpAny (model prog w) A (call (.ref fI) (.ref e::rest)) (λr s=>r=.none/\Q (.done (.ret (.ref e))) s) E ⟨h',g,d,t,os⟩)(hrest:rest.length<=sizeLine:=by size_fits):wpAny (model prog w) A (Builtin.«type.__call__» ⟨.ref C::rest,[]⟩) Q E ⟨h,g,d,t,os⟩:=by
 repeat(first|with_reducible refine ass j ?_|with_reducible refine wpAny_madeBy_exc j ?_|wp_step)
 refine codeAny_call_builtin_code (Code.quiet_builtin _ F.quiet) (wpAny_check_new_subT F T j ?_);refine codeAny_exc_new_subT F T j ?_ hrest;show wpAny _ _ _ _ _ _;have a:=apw {cls:=.ref C,data:=.fields #[.ref h.objs.size,.none,.none,.none,.bool false,.none]} (apw {cls:=.type "tuple",data:=.seq rest.toArray} j);have c:=apw {cls:=.ref C,data:=.fields #[.ref h.objs.size,.none,.none,.none,.bool false,.none]} (apw {cls:=.type "tuple",data:=.seq rest.toArray} l);have i:((h.push {cls:=.type "tuple",data:=.seq rest.toArray}).push {cls:=.ref C,data:=.fields #[.ref h.objs.size,.none,.none,.none,.bool false,.none]}).Ns N mN:=let⟨o,y,v,e,r⟩:=z;acZ o y v (apw _ (apw _ e)) r;have f:((h.push {cls:=.type "tuple",data:=.seq rest.toArray}).push {cls:=.ref C,data:=.fields #[.ref h.objs.size,.none,.none,.none,.bool false,.none]}).get? (h.objs.size+1)=some {cls:=.ref C,data:=.fields #[.ref h.objs.size,.none,.none,.none,.bool false,.none]}:=by heap_get
 have m:(Value.ref C::bm).contains (.ref C)=true:=by simp
 have k:=T.keeps (h':=(h.push {cls:=.type "tuple",data:=.seq rest.toArray}).push {cls:=.ref C,data:=.fields #[.ref h.objs.size,.none,.none,.none,.bool false,.none]}) λb o e=>apw _ (apw _ e);unfold isInstance;repeat(first|with_reducible refine ass f ?_|(with_reducible refine wpAny_isSubtype_exc a ?_;rw[m])|wp_step)
 show wpAny _ _ (typeLookup (.ref C) _) _ _ _;refine wpAny_typeLookup_tail a i k F.mroIs F.init.lookup ?_;rw[D];refine aqF (apu ?_);unfold bindSpecial;refine apu (wpAny_typeOf (T:="function") ⟨_,c,n⟩ ?_);rw[apB (by decide)];refine apF (apu (apZ (G _ (h.objs.size+1) ⟨λb o I=>apw _ (apw _ I),aqb (asd _),h.objs.size,f,aqb (apG _),?_⟩) (λr s u=>?_) λ_ _ x=>x));.exact apw _ (Heap.get?_push_at rfl rfl)
 .obtain⟨rfl,H⟩:=u;wp_walk;exact H
def zJ(F:ExcBaseFacts B newId initId bmB)(T:OwnTail h bmB bm){mN:Str->Option Value}{rest:List Value}{fI:Addr}{i:Obj}{Q:Value->Shared->Prop}(b:h.get? C=some (excClassObj nm q C N bs bm hdct sn sub ab col dd k0 k1 k2 k3 k5 newId))(j:h.Ns N mN)(k:mN "__init__"=some (.ref fI))(c:h.get? fI=some i)(f:i.cls=.type "function")(n:∀a e,Heap.MadeExcOf h a e (.ref C) rest->wpAny (model prog w) (A.under (.builtin "type.__call__" ⟨.ref C::rest,[]⟩)) (call (.ref fI) (.ref e::rest)) (λr l=>r=.none/\Q (.ref e) l) E ⟨a,g,d,t,os⟩)(hrest:rest.length<=sizeLine:=by size_fits):wpAny (model prog w) A (call (.ref C) rest) Q E ⟨h,g,d,t,os⟩:=by
 have p:=tc_lookup;have s:=tc_bind (.ref C);have o:(⟨h,g,d,t,os⟩:Shared).TypeIs (.ref C) "type":=⟨_,b,rfl⟩;refine arp (codeAny_of_tree ?_);show wpAny _ _ (callAny (.ref C) _) _ _ _;repeat(any_goals(first|assumption|with_reducible refine ass b ?_|wp_step))
 refine⟨rfl,?_⟩;refine codeAny_call_builtin_at (Code.quiet_builtin _ (by decide+kernel)) entry_typeCall (wpAny_check_type_call_sub b (mf (hrest:=hrest) F T b j k c f λa e m=>?_));exact n a e m
end
end L2
namespace L2
open PySem PySem.Spec PyProof.Rows
open PySem.W(findIn mroIn findObj specialIn takesIn clsIn hasDictIn looks_findIn looks_mroIn looks_find InstAt)
def lI(self):refuseLoop self "__setattr__" gq=pure ():=by kernel_rfl
structure ExcS(K:W.Frag)(C:Addr):Prop where
 k:ExcK K C
 m:∃cd,clsIn K C=some cd/\cd.hasDict=true/\(cd.mro=.ref C::gq\/∃D:Addr,cd.mro=.ref C::.ref D::gq)sa:findIn K (.ref C) "__setattr__"=some (some (.builtin "object.__setattr__"))
section
variable{prog:Program}{w:World}{A:Around}{E:Value->Shared->Prop}{s:Shared}{K:W.Frag}{x C:Addr}{ox:Obj}{od:Option Obj}{name:Str}{v:Value}{R:Result->Shared->Prop}
def abn{tk}(k:ExcS K C)(X:K.In s.heap)(I:InstAt s.heap x ox C od)(i:findIn K (.ref C) name=some none)(h:∀b,wpAny (model prog w) A.in1 (Builtin.ObjectAttr.storeInOwnDict (.ref x) (.ref C) (.str name tk) name v b) (λfin a=>match fin with|.done f=>R (.ok f) a|.again c'=>c'.quiet=true/\codeAny (model prog w) A c' R a) (λe a=>R (.error e) a) s):codeAny (model prog w) A (.call (.builtin "object.__setattr__") ⟨[.ref x,.str name tk,v],[]⟩) R s:=by
 have SF:=PySem.F.store_object;refine jK k.m λc d _ j=>?_;refine ar4 SF.slot.plain SF.entry (@W.check_slot (model prog w) _ _ s "object.__setattr__" "object" "__setattr__" (.ref x) _ [] _ SF.kind SF.split (I.type.andThen (looks_mroIn X k.k.mo)) (SF.args (.ref x) _ v) ?_);have g:W.Looks (model prog w) s.heap (mroOf (.ref C)) c.mro:=(asj X d).andThen .now;rw[W.osa_eq,refuse_eq];refine apu (apu (I.type.here (apu (g.here ?_))));rw[show refuseLoop (.ref x) "__setattr__" c.mro=pure ()from by
 rcases j with e|⟨D,e⟩;.rw[e,asS,lI]
 .rw[e,asS,asS,lI]];refine apF (apu (I.type.here (apu ((looks_findIn X i).here (apu (apF ?_))))));exact h _
def qS{a0 Q}(k:ExcS K C)(X:K.In s.heap)(a:s.heap.get? x=some (g7 C none a0))(B:findIn K (.ref C) name=some none)(h:∀d,Heap.SameBut s.heap.objs.size ((s.heap.push W.emptyDict).update x λo:Obj=>{o with dict:=some s.heap.objs.size}) d->d.Ns1 s.heap.objs.size (λy=>if y=name then some v else none)->Q () {s with heap:=d,toks:=s.toks+2}):wpAny (model prog w) A (setAttr (.ref x) name v) Q E s:=by have I:InstAt s.heap x (g7 C none a0) C none:=⟨a,rfl,rfl,True.intro⟩;refine W.set_plain X I k.sa (abn (s:={s with toks:=s.toks+1}) k X I B λb=>?_);refine jK k.m λH q u _=>?_;unfold Builtin.ObjectAttr.storeInOwnDict;refine apu (apF (apu (apu (asa a (apu (W.Looks.here (s:={s with toks:=s.toks+1}) (asj X q) ?_))))));rw[u];rw[apA (by decide)];have m:=apw (h:=s.heap) W.emptyDict a;have hd1:(s.heap.push W.emptyDict).get? s.heap.objs.size=some W.emptyDict:=apL s.heap rfl;have D:s.heap.objs.size≠x:=ap4 (apH a);refine apu (wpAny_alloc (apu (wpAny_update (o:=g7 C none a0) m (apF ?_))));have l:∀b,b≠x->((s.heap.push W.emptyDict).update x λo:Obj=>{o with dict:=some s.heap.objs.size}).get? b=(s.heap.push W.emptyDict).get? b:=λb G=>aqd _ _ (apO G);have n:=(l _ D).trans hd1;have r:((s.heap.push W.emptyDict).update x λo:Obj=>{o with dict:=some s.heap.objs.size}).Ns s.heap.objs.size λ_=>none:=rE W.emptyDict #[] _ n rfl (λe a=>absurd a (by simp)) λ_=>rfl;unfold Builtin.ObjectAttr.storeInDict;refine apu (apF (apu ?_));refine wpAny_nsSet1 (asq r) λd c g=>?_;refine x8 (c.count (ns:=[name]) (asp name v λy t=>absurd rfl t)) λJ p z j i f=>?_;refine apu (asz j (by rw[i];exact asA (apD f (by rw[apK,ar2,arQ];omega))) ?_);exact apF (h _ g c)
def tF{a0 d i ns Q}(k:ExcS K C)(X:K.In s.heap)(p:s.heap.get? x=some (g7 C (some d) a0))(o:s.heap.Ns1 d i)(D:findIn K (.ref C) name=some none)(hw:PySem.Within i ns)(hz:ns.length<=100)(h:∀f,Heap.SameBut d s.heap f->f.Ns1 d (λy=>if y=name then some v else i y)->Q () {s with heap:=f,toks:=s.toks+2}):wpAny (model prog w) A (setAttr (.ref x) name v) Q E s:=by refine x9 (id o) λj r q e _=>?_;have I:InstAt s.heap x (g7 C (some d) a0) C (some j):=⟨p,rfl,rfl,e⟩;refine W.set_plain X I k.sa (abn k X I D λb=>?_);refine jK k.m λH u z _=>?_;unfold Builtin.ObjectAttr.storeInOwnDict;refine apu (apF (apu (apu (asa p (apu (W.Looks.here (s:={s with toks:=s.toks+1}) (asj X u) ?_))))));rw[z,apA (by decide)];refine apF (a:=some d) ?_;unfold Builtin.ObjectAttr.storeInDict;refine apu (apF (apu ?_));refine wpAny_nsSet1 o λf c n=>?_;refine x8 (c.count (asp name v hw)) λG t B m l g=>?_;refine apu (asz m (by rw[l];exact asA (apD g (by rw[apK,arQ];omega))) ?_);exact apF (h _ n c)
end
end L2
namespace L2
open PySem PySem.Spec PyProof.Rows
section
variable{prog:Program}{w:World}{A:Around}{E:Value->Shared->Prop}{h:Heap}{g:Array GenState}{d:Drawn}{t:Nat}{os:OsState}
variable{nm q:Str}{C N:Addr}{bs bm bmB:List Value}{hdct:Bool}{sn:List Str}{sub:List Value}{ab:Bool}{col:Option Bool}{dd:Option Addr}{k0 k1 k2 k3 k5:Option Value}{B newId initId:String}
def acV(F:ExcBaseFacts B newId initId bmB)(T:OwnTail h bmB bm){e:Addr}{dx:Option Addr}{a0:Value}{rest:List Value}{Q:Value->Shared->Prop}(m:h.get? C=some (excClassObj nm q C N bs bm hdct sn sub ab col dd k0 k1 k2 k3 k5 newId))(k:h.get? e=some (g7 C dx a0))(hrest:rest.length<=sizeLine)(j:∀f l,(∀b o,b≠e->h.get? b=some o->f.get? b=some o)->f.get? e=some (g7 C dx l)->Q .none ⟨f,g,d,t,os⟩):wpAny (model prog w) A (call (.builtin initId) (.ref e::rest)) Q E ⟨h,g,d,t,os⟩:=by
 refine arp (ar4 F.init.plain F.initEntry (wpAny_check_init_subT F T m k rfl ?_));wp_walk;have i:=apw (h:=h) {cls:=.type "tuple",data:=.seq rest.toArray} k;have fin:∀c:Shared,c=⟨(h.push {cls:=.type "tuple",data:=.seq rest.toArray}).update e (Obj.mapFields λx=>x.setIfInBounds 0 (Value.ref h.objs.size)),g,d,t,os⟩->Q .none c:=λc z=>by
  subst z;refine j _ (.ref h.objs.size) (λb o n j=>?_) ?_;.rw[aqd _ _ (apO n)];exact apw _ j
  .rw[aqJ _ i rfl];rfl
 have go:∀v:Value,wpAny (model prog w) A.in1 (match v with|.ref a=>letGo [v]|x=>pure ()) (λ_ c=>c=⟨(h.push {cls:=.type "tuple",data:=.seq rest.toArray}).update e (Obj.mapFields λx=>x.setIfInBounds 0 (Value.ref h.objs.size)),g,d,t,os⟩) (λ_ _=>False) ⟨(h.push {cls:=.type "tuple",data:=.seq rest.toArray}).update e (Obj.mapFields λx=>x.setIfInBounds 0 (Value.ref h.objs.size)),g,d,t,os⟩:=λv=>by cases v<;>first|exact apF rfl|(wp_walk;rfl)
 refine apZ (go _) (λ_ c z=>apF (fin c z)) λ_ _ z=>z.elim
end
end L2
namespace L2
open PySem PySem.Spec PyProof.Rows
open PySem.W(findIn InstAt)
def fL(d:Addr)(fs:List (Str×V))(h:Heap):Prop:=∃a,h.Ns1 d a/\(∀f,ui (fs.lookup f) (a f))/\PySem.Within a (fs.map (·.1))
def afK{P w H h e C dx a0}(b:h.get? e=some (g7 C dx a0)):dH P w H h e (.ext (lj e C dx)):=⟨⟨a0,b⟩,⟨_,b⟩,λ_ _⟨a,q⟩k=>⟨a,k _ q⟩⟩
def u9{P w H h d fs}(b:fL d fs h):dH P w H h d (.ext (fL d fs)):=by
 refine⟨b,?_,λl m⟨a,f,r,j⟩k=>⟨a,?_,r,j⟩⟩;.obtain⟨a,⟨o,_,_,e,_⟩,_⟩:=b;exact⟨o,e⟩
 .refine x9 f λo i g e c=>?_;exact acZ o i g (k _ e) c
section
variable{X:Cx}{pins:List (Addr×Obj)}{σ:St}{H:Hp}{s:Shared}{e C:Addr}{f:Str}{A:Around}{E:Value->Shared->Prop}
def xS(I:Inv X pins σ H s){dx}(q:H e=some (.ext (lj e C dx))):∃a,s.heap.get? e=some (g7 C dx a):=(I.hok e _ q).1
def yb{y u Q}(k:ExcS X.K C)(I:Inv X pins σ H s)(q:H e=some (.ext (lj e C none)))(N:findIn X.K (.ref C) f=some none)(O:RelV y u)(h:∀d G,H d=none->d≠e->Inv X pins σ (upd (upd H d (.ext (fL d [(f,y)]))) e (.ext (lj e C (some d)))) G->Q () G):wpAny (model X.prog X.w) A (setAttr (.ref e) f u) Q E s:=by
 obtain⟨a0,i⟩:=xS I q;refine qS k I.kIn i N λh' B l=>h s.heap.objs.size _ (I.hok.fresh (apG _)) (ap4 (apH i)) ?_;have w:=ap4 (apH i);have r:=apw (h:=s.heap) W.emptyDict i;have hd1:(s.heap.push W.emptyDict).get? s.heap.objs.size=some W.emptyDict:=apL s.heap rfl;have J:(s.heap.push W.emptyDict).Ns s.heap.objs.size λ_=>none:=rE W.emptyDict #[] _ hd1 rfl (λe i=>absurd i (by simp)) λ_=>rfl;have R:=I.laid (a:=s.heap.objs.size) (o:=.ext (fL s.heap.objs.size [])) (h':=s.heap.push W.emptyDict) (t':=s.toks) (λb u q=>apw _ q) (apG _) (u9 ⟨_,asq J,λ_=>True.intro,λy K=>absurd rfl K⟩);have m:=aqJ (h:=s.heap.push W.emptyDict) (λo:Obj=>{o with dict:=some s.heap.objs.size}) r rfl;have p:∀b,b≠e->((s.heap.push W.emptyDict).update e λo:Obj=>{o with dict:=some s.heap.objs.size}).get? b=(s.heap.push W.emptyDict).get? b:=λb j=>aqd _ _ (apO j);have P:upd H s.heap.objs.size (.ext (fL s.heap.objs.size [])) e=some (.ext (lj e C none)):=by rw[ak (apO w)];exact q
 have T:=R.write (x:=e) (e:=e) (o:=.ext (lj e C (some s.heap.objs.size))) (t':=s.toks) (by rw[P];exact True.intro) (.inl rfl) (λb u j q=>(p b j).trans q) ⟨_,m⟩ (afK (a0:=a0) m);have v:∃o,h'.get? s.heap.objs.size=some o:=let⟨o,_,_,M,_⟩:=l;⟨o,M⟩;have D:=T.write (x:=s.heap.objs.size) (e:=s.heap.objs.size) (o:=.ext (fL s.heap.objs.size [(f,y)])) (h':=h') (t':=s.toks+2) (by rw[ak w,av];exact True.intro) (.inl rfl) (λb u j q=>(B.2 b j).trans q) v (u9 ⟨_,l,λg=>by
 by_cases z:g=f;.rw[apB z,z];simp only[List.lookup,beq_self_eq_true];exact O
 .rw[apA z,show([(f,y)]:List (Str×V)).lookup g=none from by simp[List.lookup,aqq.mpr z]];exact True.intro,λg S=>by
  by_cases z:g=f;.rw[z];exact apN
  .exact absurd (apA z) S⟩);have t:upd (upd (upd H s.heap.objs.size (.ext (fL s.heap.objs.size []))) e (.ext (lj e C (some s.heap.objs.size)))) s.heap.objs.size (.ext (fL s.heap.objs.size [(f,y)]))=upd (upd H s.heap.objs.size (.ext (fL s.heap.objs.size [(f,y)]))) e (.ext (lj e C (some s.heap.objs.size))):=by
  funext b;unfold upd;by_cases c:b=s.heap.objs.size;.rw[apB c,apA (by rw[c];exact w),apB c]
  .rw[apA c];by_cases n:b=e;.rw[apB n,apB n]
   .rw[apA n,apA n,apA c,apA c]
 rw[t]at D;exact D
def z8{y u d fs Q}(k:ExcS X.K C)(I:Inv X pins σ H s)(q:H e=some (.ext (lj e C (some d))))(p:H d=some (.ext (fL d fs)))(P:d≠e)(x:findIn X.K (.ref C) f=some none)(B:RelV y u)(O:fs.length<=50)(K:fs.lookup f=none)(h:∀m,Inv X pins σ (upd H d (.ext (fL d (fs++[(f,y)])))) m->Q () m):wpAny (model X.prog X.w) A (setAttr (.ref e) f u) Q E s:=by
 obtain⟨R,J⟩:=xS I q;refine jK (I.hok d _ p).1 λN G r n=>?_;refine tF k I.kIn J G x n (by rw[apR];omega) λw l a=>h _ ?_;have j:∃o,w.get? d=some o:=let⟨o,_,_,c,_⟩:=a;⟨o,c⟩;refine I.write (by rw[p];exact True.intro) (.inl rfl) (λb u D q=>(l.2 b D).trans q) j (u9 ⟨_,a,λg=>?_,λg M=>?_⟩)
 .have t:(fs++[(f,y)]).lookup g=match fs.lookup g with|some v=>some v|none=>([(f,y)]:List (Str×V)).lookup g:=by grind
  rw[t];by_cases z:g=f;.rw[apB z,z,K];simp only[List.lookup,beq_self_eq_true];exact B
  .have i:=r g;rw[apA z];cases c:fs.lookup g with|some v=>rw[c]at i;exact i|none=>rw[c]at i;rw[show[(f,y)].lookup g=none from by simp[List.lookup,aqq.mpr z]];exact i
 .rw[arw];by_cases z:g=f;.rw[z];exact apQ _ apN
  .exact ap0 _ (n g λy=>M (by grind))
end
section
variable{X:Cx}{e:Expr}{es:List Expr}{pos:Pos}{ta:TE}{ts:List TE}
def aom(ta:TE):TE:=λσ H Q=>ta σ H λx a=>(∃i:Int,x=.int i/\i.natAbs.log2<1920/\Q (.str (toString i)) a)\/∃y:Str,x=.str y/\y.length<=sizeLine/\Q (.str y) a
def sN(k:PE X e ta):PE X (.FormattedValue e (-1) none pos) (aom ta):=by
 intro a s σ H Q I h;refine PyProof.Rows.FormattedValue_plain (thn (k a s σ H _ I h) λu m b=>?_);refine hJ b λx c d f q=>?_;rcases q with⟨i,rfl,j,q⟩|⟨y,rfl,g,q⟩;.obtain⟨t,rfl⟩:=f;exact PyProof.Rows.formatField_int_small j (jJ (.str _) c (d.tok _) ⟨_,rfl⟩ q)
 .obtain⟨t,rfl⟩:=f;exact aqs (λl tk=>jJ (.str y) c (d.tok tk) ⟨_,rfl⟩ q) g
def tJ:List TE->Str->TE|[],acc=>λσ H Q=>acc.length<=sizeLine/\Q (.str acc) H|t::ts,acc=>λσ H Q=>t σ H λx a=>∃y:Str,x=.str y/\(acc++y).length<=sizeLine/\tJ ts (acc++y) σ a Q
theorem pJ:∀{es ts},Paired (PE X) es ts->∀b a s(σ:St)H Q,Inv X a σ H s->tJ ts b σ H Q->wpAny (model X.prog X.w) X.A (joinParts b (es.map λe=>eval e X.env)) (EP X a σ Q) X.xe s|[],[],_,b,a,s,σ,H,Q,I,h=>PyProof.Rows.joinParts_nil (jJ (.str _) H (I.tok _) ⟨_,rfl⟩ h.2) h.1|e::es,t::ts,.cons p ps,b,a,s,σ,H,Q,I,h=>by refine PyProof.Rows.joinParts_cons (thn (p _ s σ H _ I h) λu j c=>?_);obtain⟨x,d,g,i,y,ex,f,q⟩:=c;subst ex;obtain⟨t,rfl⟩:=i;exact⟨f,pJ ps _ _ _ σ d Q g q⟩
def qp{b c es}(f:Paired (PE X) (b::c::es) ts)(d:evalEach es X.env=es.map λe=>eval e X.env:=by rfl):PE X (.JoinedStr (b::c::es) pos) (tJ ts Str.empty):=by intro a s σ H Q I h;refine PyProof.Rows.JoinedStr_many ?_;rw[d];exact pJ f _ _ s σ H Q I h
end
set_option tactic.hygienic true
def y6{K h N a n v}(X:K.In h)(G:h.Ns N a)(e:W.nsIn K N n=some (some v)):a n=some v:=by
 refine vW G λo m l j b _ i=>?_;unfold W.nsIn at e;split at e
 .rename_i c d f r p q;have:=X _ _ q;rw[j]at this;cases this;cases b;split at e;.rename_i k g;cases e;rw[<-i];unfold nsFind findBy;rw[<-ase,g];rfl
  .split at e<;>cases e
 .cases e
set_option tactic.hygienic false
def apo(h:Heap)(C fI:Addr):Prop:=∃(c:List Value)(N:Addr)(j m:Str)(bs:List Value)(g:Bool)(l:List Str)(sub:List Value)(d:Bool)(a:Option Bool)(dd:Option Addr)(f i n k e:Option Value)(b:Str->Option Value),h.get? C=some (excClassObj j m C N bs c g l sub d a dd f i n k e "ValueError.__new__")/\h.Ns N b/\b "__init__"=some (.ref fI)/\OwnTail h gq c
set_option tactic.hygienic true
def acL{K:W.Frag}{h:Heap}{C fI:Addr}(X:K.In h)(q:rD K C (some (.ref fI))):apo h C fI:=q.out X λo r k p bs i l sub d b dd f j n m e g a c t=>⟨o,r,k,p,bs,i,l,sub,d,b,dd,f,j,n,m,e,_,g,.of_isNs (W.isNs_of_in X a),y6 X (.of_isNs (W.isNs_of_in X a)) c,t⟩
set_option tactic.hygienic false
section
variable{X:Cx}{e:Expr}{es:List Expr}{x:Str}{np apos pos:Pos}{t:TA}{C D fI:Addr}
def aaG(C:Addr)(t:TA):TE:=λσ H Q=>t σ H λb a=>∃ex c rest,b=.ref ex::rest/\rest.length<=100/\a ex=some (.ext (lj ex C c))/\Q .non a
def qr{pl}(hg:Gl X x)(hm:X.mg x=some (.ref D))(P:W.readsIn X.K D (.type "type")=true)(hf:W.findCls X.K (.ref D) (.type "type") "__init__"=some (.val (.builtin "ValueError.__init__")))(hs:W.specialIn X.K (.ref D) "__getattribute__"=some (some (.builtin "type.__getattribute__")))(hC:rD X.K C (some (.ref fI)))(ha:PA X (e::es) t)(m:Dbg x:=by decide)(y:SE X e es:=by rfl)(p:BT X pos es:=by rfl)(R:eval (.Call (.Attribute (.Name x np) "__init__" apos) (e::es) [] pos) X.env=(do
  let E <-eval (.Name x np) X.env
  standAt apos.atName let(f,first)<-holding [E] (getMethod E "__init__" pl)callWith pos f first (backTo pos (starEach (e::es) X.env)) (backToKw pos (keywordEach [] X.env))):=by rfl):PE X (.Call (.Attribute (.Name x np) "__init__" apos) (e::es) [] pos) (aaG C t):=by
 intro k s σ H Q I h;refine W.methodCall_KW (pl:=pl) (gF I hg hm ?_ m) R;refine W.method_cls I.kIn hs (W.cls_value I.kIn P hf rfl ?_);have I0:=I.tok (s.toks+1);refine arZ (thn (ha pos k _ σ H _ I0 h) λus S n=>?_) y p;obtain⟨vs,w,v,r1,ex,B,rest,M,U,r,K⟩:=n;subst M;obtain⟨l,c,rfl,G,rr⟩:∃l c,us=l::c/\RelV (.ref ex) l/\Vals rest c:=by cases r1 with|cons a b=>exact⟨_,_,rfl,a,b⟩
 cases show l=Value.ref ex from G;obtain⟨a0,Y⟩:=xS v r;obtain⟨bm,N,nm,qn,bs,hd,sn,sub,ab,a2,dd,k0,k1,k2,k3,k5,mN,A,hN,_,T⟩:=acL v.kIn hC;have i:c.length<=sizeLine:=by rw[<-rr.length];exact apD U (by decide)
 obtain⟨hh,g,d,tk,os⟩:=S;refine acV aqG T A Y i λh' a1 hk j=>⟨.non,w,?_,rfl,K⟩;have J:=v.write (x:=ex) (e:=ex) (o:=.ext (lj ex C B)) (h':=h') (t':=tk) (by rw[r];exact True.intro) (.inl rfl) (λb u O q=>hk b u O q) ⟨_,j⟩ (afK j);have Z:upd w ex (.ext (lj ex C B))=w:=by
  funext b;by_cases z:b=ex;.rw[z,av,r]
  .rw[ak z]
 rw[Z]at J;exact J
end
end L2
set_option autoImplicit true
set_option relaxedAutoImplicit true
namespace L2
open PySem PySem.Spec PyProof.Rows
open PySem.W(findIn InstAt)
section
variable{prog:Program}{w:World}{A:Around}{E:Value->Shared->Prop}{s:Shared}{env:Env}
variable{nm q:Str}{C N:Addr}{bs bm bmB:List Value}{hdct:Bool}{sn:List Str}{sub:List Value}{ab:Bool}{col:Option Bool}{dd:Option Addr}{k0 k1 k2 k3 k5:Option Value}{B newId initId:String}
def ue(F:ExcBaseFacts B newId initId bmB){mN fI x K g pos d Q}(l:bm.contains (.type "BaseException")=true)(Z:A.handled=none)(j:(backTo g (starEach d env)).any (·.1)=false)(S:mN "__init__"=some (.ref fI))(h:wpAny (model prog w) A (eval (.Name x K) env) (λf k=>f=.ref C/\wpAny (model prog w) A (evalArgs (.ref C) true (backTo g (starEach d env)) []) (λa b=>a.kw=[]/\a.pos.length<=sizeLine/\b.heap.get? C=some (excClassObj nm q C N bs bm hdct sn sub ab col dd k0 k1 k2 k3 k5 newId)/\b.heap.Ns N mN/\OwnTail b.heap bmB bm/\(∃D,b.heap.get? fI=some D/\D.cls=.type "function")/\∀o e,Heap.MadeExcOf b.heap o e (.ref C) a.pos->wpAny (model prog w) (A.under (.builtin "type.__call__" ⟨.ref C::a.pos,[]⟩)) (call (.ref fI) (.ref e::a.pos)) (λr p=>r=.none/\p.heap.get? C=some (excClassObj nm q C N bs bm hdct sn sub ab col dd k0 k1 k2 k3 k5 newId)/\∃y I,p.heap.get? e=some (g7 C y I)/\E (.ref e) p) E {b with heap:=o}) E k) E s):wpAny (model prog w) A (exec (.Raise (some (.Call (.Name x K) d [] g)) none pos) env) Q E s:=by rw[arm_exec_Raise];refine apu (arb (n6 (C:=C) (nm:=nm) (q:=q) (N:=N) (bs:=bs) (bm:=bm) (hdct:=hdct) (sn:=sn) (sub:=sub) (ab:=ab) (col:=col) (dd:=dd) (k0:=k0) (k1:=k1) (k2:=k2) (k3:=k3) (k5:=k5) (newId:=newId) l Z (apu (apZ (wpAny_Call_ofName (apZ h (λf k c=>?_) λ_ _ x=>x)) (λv P n=>apu (arb (apF n))) λ_ _ x=>x))));obtain⟨rfl,c⟩:=c;refine apu (aqF (apZ c (λa b i=>apu (arb ?_)) λ_ _ x=>x));obtain⟨M,H⟩:=a;obtain⟨t,m,J,R,T,⟨D,G,u⟩,i⟩:=i;obtain rfl:H=[]:=t;simp only[j];refine apu (wpAny_keeperOf_exc J ?_);refine apu (zJ (hrest:=m) F T J R S G u λo e hm=>apZ (i o e hm) (λr p O=>⟨O.1,apu (aqF (wpAny_point (apF ?_)))⟩) λ_ _ z=>z);obtain⟨_,U,y,I,Y,X⟩:=O;exact rE e y I rfl U Y X
end
section
variable{X:Cx}{o value:Expr}{f:Str}{pos pos':Pos}{ta tv:TE}{C:Addr}
def sX1(C:Addr)(ta tv:TE)(f:Str):TS:=λD σ H=>tv σ H λy b=>ta σ b λx a=>∃e,x=.ref e/\a e=some (.ext (lj e C none))/\∀d,a d=none->d≠e->D.nx σ (upd (upd a d (.ext (fL d [(f,y)]))) e (.ext (lj e C (some d))))
def sX2(C:Addr)(ta tv:TE)(f:Str):TS:=λD σ H=>tv σ H λy b=>ta σ b λx a=>∃e d fs,x=.ref e/\a e=some (.ext (lj e C (some d)))/\a d=some (.ext (fL d fs))/\d≠e/\fs.length<=50/\fs.lookup f=none/\D.nx σ (upd a d (.ext (fL d (fs++[(f,y)]))))
def ag1(k:ExcS X.K C)(i:findIn X.K (.ref C) f=some none)(v:PE X o ta)(p:PE X value tv)(hs:swapsWith value (some (.Attribute o f pos')) pos.line X.env=pure false):PS X (.Assign [.Attribute o f pos'] value pos) (sX1 C ta tv f):=by intro b s σ H D I h;refine aq8 (thn (p _ s σ H _ I h) λu A⟨y,z,m,l,q⟩=>thn (v _ _ σ _ _ m q) λB E a=>?_) hs;obtain⟨x,G,w,t,e,ex,n,g⟩:=a;subst ex;obtain rfl:=t;exact yb k w n i l λd J j r c=>⟨σ,_,c,g d j r⟩
def amG(k:ExcS X.K C)(i:findIn X.K (.ref C) f=some none)(w:PE X o ta)(m:PE X value tv)(hs:swapsWith value (some (.Attribute o f pos')) pos.line X.env=pure false):PS X (.Assign [.Attribute o f pos'] value pos) (sX2 C ta tv f):=by intro b s σ H D I h;refine aq8 (thn (m _ s σ H _ I h) λu J⟨y,G,l,j,q⟩=>thn (w _ _ σ _ _ l q) λK B a=>?_) hs;obtain⟨x,E,A,v,e,d,fs,ex,r,n,t,p,z,g⟩:=a;subst ex;obtain rfl:=v;exact z8 k A r n t i j p z λM c=>⟨σ,_,c,g⟩
end
noncomputable def del(H:Hp)(e:Addr):Hp:=λb=>if b=e then none else H b
section
variable{X:Cx}{pins:List (Addr×Obj)}{σ:St}{H:Hp}{s:Shared}{e C d:Addr}{fs:List (Str×V)}
def Inv.agz{φ}(I:Inv X pins σ H s)(q:H e=some (.ext φ)):Inv X pins σ (del H e) s:=by
 have none_of:∀{b},H b=none->del H e b=none:=λ{b}h=>by unfold del;split<;>first|rfl|exact h
 have keep:∀{b o},H b=some o->(∀l,o≠.ext l)->del H e b=some o:=λ{b o}h n=>by unfold del;rw[apA λz=>by grind];exact h
 refine⟨I.ok,I.os,I.bare,⟨I.base.keep,I.base.slot,λb o f i g=>none_of (I.base.free b o f i g),I.base.there,λb j h=>keep (I.base.tups b j h) (λ_ z=>by cases z),λb o u h=>keep (I.base.frzs b o u h) (λ_ z=>by cases z),λb k h=>?_⟩,I.loc,I.cell,none_of I.free,λx c h=>none_of (I.freeC x c h),λp t=>?_,λb u h=>?_,I.len⟩;.obtain⟨a,m⟩:=I.base.tbls b k h;exact⟨a,keep m λ_ z=>by cases z⟩
 .refine age (I.pin p t) λf i g=>?_;exact⟨f,none_of i,g⟩
 .have r:=by
   unfold del at h;split at h;.cases h
   .exact h
  exact(I.hok b u r).wC (λ_ _ _ z=>z) (λc z=>keep z λ_ y=>by cases y) λc j z=>keep z λ_ y=>by cases y
def Inv.aiN (I:Inv X pins σ H s)(g:FpX X pins H e)(new:φ s.heap/\(∃o,s.heap.get? e=some o)/\∀h i,φ h->(∀o,h.get? e=some o->i.get? e=some o)->φ i):Inv X pins σ (upd H e (.ext φ)) s:=by
 have f:∀b u,H b=some u->b≠e:=λb u q z=>by rw[z,g.1]at q;cases q
 have:=I.aaH (H':=upd H e (.ext φ)) (d':=s.drawn) (t':=s.toks) (λb a=>by rw[aqt.mp a];exact⟨g.2.2.2.1,g.2.1,g.2.2.2.2.1,g.2.2.2.2.2⟩) (λb o _ _ _ q _=>q) (λb o _ _ _ q _=>⟨o.slots,q⟩) (λb o a _ n=>by rw[ak λz=>a (by grind)];exact n) (λb o _ q=>⟨o,q⟩) (λb j q=>by rw[ak (f b _ q)];exact q) (λb o u q=>by rw[ak (f b _ q)];exact q) (λb l q=>⟨#[],by rw[ak (f b _ q),q];simp⟩) (λm k=>k) (λb u q=>by
   by_cases a:b=e;.subst a;rw[av]at q;cases q;exact new
   .rw[ak a]at q;exact(I.hok b u q).wC (λ_ _ _ z=>z) (λc z=>by rw[ak (f c _ z)];exact z) λc j z=>by rw[ak (f c _ z)];exact z) I.bare;exact this
theorem Inv.xd(I:Inv X pins σ H s)(q:H d=some (.ext (fL d fs))):Inv X pins σ (upd H d (.xd fs)) s:=by obtain⟨b,a,r,g⟩:=(I.hok d _ q).1;have f:∃u,s.heap.get? d=some u:=let⟨o,_,_,c,_⟩:=a;⟨o,c⟩;exact I.write (by rw[q];exact True.intro) (.inl rfl) (λ_ _ _ z=>z) f ⟨b,a,r⟩
end
def spI(C:Addr)(a:List Str):Sp:=λb H Q _=>∃e ws,b=.ref e::ws/\ws.length=a.length/\H e=some (.ext (lj e C none))/\(∀w∈ws,∃i:Int,w=.int i/\i.natAbs.log2<100)/\∀d,H d=none->d≠e->Q .non (upd (upd H d (.ext (fL d (a.zip ws)))) e (.ext (lj e C (some d))))
section
variable{X:Cx}{t:TA}{x:Str}{C fI:Addr}{fd:FuncData}{ps fl:List Str}{k:Nat}{np cpos pos:Pos}{e:Expr}{es:List Expr}
def agE(X:Cx)(C:Addr)(fl:List Str)(t:TA):TS:=λ_ σ H=>t σ H λb c=>b.length=fl.length/\(∀w∈b,∃i:Int,w=.int i/\i.natAbs.log2<100)/\fl.length<=50/\∀a s e d,c d=none->d≠e->Thr X a σ (upd c d (.xd (fl.zip b))) s e C (some d) .none none->X.xe (.ref e) s
def abb(hc:X.calm=true)(hg:Gl X x)(hm:X.mg x=some (.ref C))(q:rD X.K C (some (.ref fI)))(R:W.typeIn X.K (.ref fI)=some (.type "function"))(F:FnOk X.prog X.w X.K X.mg X.base CX0 k fI fd ps (spI C fl))(hr:Room (k+1) X.A)(hb:Binds X.K fd ps [])(ha:PA X (e::es) t)(Z:Dbg x:=by decide)(he:SE X e es:=by rfl)(i:BT X cpos es:=by rfl):PS X (.Raise (some (.Call (.Name x np) (e::es) [] cpos)) none pos) (agE X C fl t):=by
 intro f s σ H D I h;obtain⟨bm,N,nm,qn,bs,hdct,sn,sub,ab,col,dd,k0,k1,k2,k3,k5,mN,hC,hN,hi,T⟩:=acL I.mod.kin q;refine fO (aqe.mp R) λoI O a2=>?_;refine ue (C:=C) (nm:=nm) (q:=qn) (N:=N) (bs:=bs) (bm:=bm) (hdct:=hdct) (sn:=sn) (sub:=sub) (ab:=ab) (col:=col) (dd:=dd) (k0:=k0) (k1:=k1) (k2:=k2) (k3:=k3) (k5:=k5) aqG (mN:=mN) (fI:=fI) (T.hasType aqG.hasBase) (I.ok.hd hc) (by rw[he];show(false||(backTo cpos (starEach es X.env)).any (·.1))=false;rw[i];rfl) hi (gF I hg hm ⟨rfl,?_⟩ Z);have hA:=ha cpos f s σ H _ I h;rw[he]at hA⊢;refine ar1 (thn hA λp P⟨j,g,n,r2,hl,S,a1,q2⟩=>⟨rfl,?_,n.bk _ _ hC,hN.keeps n.bk,T.keeps n.bk,⟨oI,n.bk _ _ (I.mod.kin _ _ O),a2⟩,λh' c K=>?_⟩);.rw[<-r2.length,hl];exact apD a1 (by decide)
 refine jK K.there λta h1 h2 h3=>?_;have Y:g c=none:=by cases z:g c with|none=>rfl|some u=>obtain⟨o,ho⟩:=jv (n.hok c u z);rw[K.new]at ho;cases ho
 have J:=n.kept (t':=P.toks) K.keeps;have fp:∀w,w c=none->FpX X f w c:=λw hn=>n.fpX K.new hn;have Q:Inv X f σ (upd g c (.ext (lj c C none))) {P with heap:=h'}:=J.aiN (fp g Y) ⟨⟨_,h1⟩,⟨_,h1⟩,λ_ _⟨a,z⟩k=>⟨a,k _ z⟩⟩;have r3:Vals (V.ref c::j) (Value.ref c::p):=.cons rfl r2;let Q':VK:=λv w=>v=.non/\∃d,upd g c (.ext (lj c C none)) d=none/\d≠c/\w=upd (upd (upd g c (.ext (lj c C none))) d (.ext (fL d (fl.zip j)))) c (.ext (lj c C (some d)));have sp:spI C fl (V.ref c::j) (upd g c (.ext (lj c C none))) Q' λ_ _ _=>False:=afb c j rfl hl av S λd Z l=>⟨rfl,d,Z,l,rfl⟩;have A:(Value.ref c::p).length=ps.length:=by rw[<-r3.length];exact F.len _ _ _ _ sp
 have E:=hb {P with heap:=h'} (Value.ref c::p) Q.kIn (by rw[aqf];exact A);rw[aqf]at E;refine arp (arA (F.run _ X.stack _ _ ⟨Value.ref c::p,[]⟩ (Value.ref c::p) _ Q' (λ_ _ _=>False) (hr.make C p []) trivial (Q.alH.make C p []) E r3 sp) λr s' m=>?_);cases r with|error e'=>exact False.elim m|ok fl'=>cases fl' with|next|brk|cont=>exact False.elim m|ret u=>
   obtain⟨v,w,M,rv,ev,d,a3,l,U⟩:=Q.after m;subst ev U;have a4:g d=none:=by rwa[ak l]at a3
   obtain⟨a0,B⟩:=xS M (e:=c) (C:=C) (dx:=some d) av;refine⟨rv,M.bk _ _ hC,some d,a0,B,q2 f s' c d a4 l ?_⟩;have I4:=M.xd (d:=d) (fs:=fl.zip j) (by rw[ak l,av]);have I5:=I4.agz (e:=c) (φ:=lj c C (some d)) (by rw[ak (apO l),av]);have U:del (upd (upd (upd (upd g c (.ext (lj c C none))) d (.ext (fL d (fl.zip j)))) c (.ext (lj c C (some d)))) d (.xd (fl.zip j))) c=upd g d (.xd (fl.zip j)):=by
    funext b;unfold del upd;by_cases y:b=c;.rw[apB y,apA (by rw[y];exact apO l),y,Y]
    .rw[apA y];by_cases G:b=d;.rw[apB G,apB G]
     .rw[apA G,apA G,apA y,apA G,apA y]
   rw[U]at I5;exact⟨I5,aiw _ _ B rfl rfl rfl rfl rfl,fp _ (by rw[ak (apO l)];exact Y),λt z=>by cases z⟩
end
end L2
namespace PySem
open Sem(wp)
end PySem
namespace L2
open PySem PySem.Spec PyProof.Rows
section
variable{X:Cx}
inductive TyW(K:W.Frag)(H:Hp):V->Value->Prop where|non:TyW K H .non (.type "NoneType")|bl(x:Bool):TyW K H (.bl x) (.type "bool")|int(i:Int):TyW K H (.int i) (.type "int")|str(x:Str):TyW K H (.str x) (.type "str")|lst{a:Addr}{xs:List V}(e:SqL K H a xs):TyW K H (.ref a) (.type "list")|tup{a:Addr}{xs:List V}(e:SqT K H a xs):TyW K H (.ref a) (.type "tuple")
def TyW.kit{pins:List (Addr×Obj)}{σ:St}{H:Hp}{s:Shared}{x:V}{u t:Value}(ty:TyW X.K H x t)(I:Inv X pins σ H s)(b:RelV x u):(∃P:Heap->Prop,W.KitX X.K u t P/\P s.heap)/\u≠.builtin "__main__.__loader__#opaque":=by cases ty with|non=>cases show u=Value.none from b;exact⟨⟨_,W.kitx_none,trivial⟩,λz=>nomatch z⟩|bl y=>cases show u=Value.bool y from b;exact⟨⟨_,W.kitx_bool,trivial⟩,λz=>nomatch z⟩|int i=>obtain⟨t,q⟩:=show∃t,u=Value.int i t from b;cases q;exact⟨⟨_,W.kitx_int,trivial⟩,λz=>nomatch z⟩|str y=>obtain⟨t,q⟩:=show∃t,u=Value.str y t from b;cases q;exact⟨⟨_,W.kitx_str,trivial⟩,λz=>nomatch z⟩|@lst a xs e=>cases show u=Value.ref a from b;obtain⟨c,_,p,_⟩:=I.list e;obtain⟨o,d,f,_⟩:=p.isList;exact⟨⟨_,asR,⟨o,d,f⟩⟩,λz=>nomatch z⟩|@tup a xs e=>cases show u=Value.ref a from b;obtain⟨c,_,⟨o,d,f,_⟩,_⟩:=I.tuple e;exact⟨⟨_,W.kitx_tuple,⟨o,d,f⟩⟩,λz=>nomatch z⟩
def tZ:bV X (.builtin "isinstance") λd H Q=>∃x a T U t b,d=[x,.ref a]/\SqT X.K H a [.ty T,.ty U]/\TyW X.K H x t/\W.kitAny X.K t [.type T,.type U]=some b/\Q (.bl b) H:=by intro c s σ H d J Q I r h;obtain⟨x,a,T,U,t,b,rfl,z,ty,e,q⟩:=h;obtain⟨u,k,rfl,C,j⟩:=vals2 r;cases show k=Value.ref a from j;obtain⟨⟨P,Z,w⟩,B⟩:=ty.kit I C;obtain⟨f,A,⟨o,g,E,n,l⟩,_⟩:=I.tuple z;obtain⟨p,v,rfl,m,y⟩:=vals2 A;cases show p=Value.type T from m;cases show v=Value.type U from y;obtain⟨D,od,i,G⟩:=o;cases show D=_ from E;cases show i=_ from l;exact W.kia_tup Z I.kIn w g e B λtk=>⟨.bl b,H,I.tok tk,rfl,q⟩
def abz:MtR X "list.count" λx h H Q=>∃n y d b,h=[y]/\IsD X.K H n y d/\IsD X.K H (n+1) x (.list b)/\X.A.units+1+n<cLine/\Q (.int (b.countP λz=>PyData.eqv z d:Nat)) H:=by
 intro g s σ H x h v E Q I w t⟨n,y,d,b,e,k,A,G,q⟩;subst e;obtain⟨u,rfl,i⟩:=vals1 t;obtain⟨⟨K,B⟩,p,J⟩:=I.reads n d y u k i;obtain⟨⟨bs,r⟩,f,D⟩:=I.reads _ _ x v A w;have f:PyData.canLayAll0 b=true:=by simpa[PyData.canLay0]using f
 cases r with|@list a o its m ds' as' h1 h2 h3 h4=>
 obtain⟨cl,dd,C,l⟩:=o;cases h2;cases h3;have c:=SeqAt.readsAll_map b _ _ f h4;refine asV F.slot_list_count ⟨_,h1,rfl⟩ F.entry_list_count (F.args_list_count_2 _ _) (SeqAt.list_countAt a its m dd l u λz=>PyData.eqv (SeqAt.readOf s.heap z) d) ⟨h1,SeqAt.items_eqAt h4 B f p (by have:=arU (PyData.depthAll b) d.depth;omega),?_⟩;have j:(its.toList.countP λz=>PyData.eqv (SeqAt.readOf s.heap z) d)=b.countP λz=>PyData.eqv z d:=by rw[<-c,List.countP_map];rfl
 rw[j];exact⟨.int _,H,I.tok _,⟨_,rfl⟩,q⟩
def aiV(t:TA):TE:=λσ H Q=>t σ H λb a=>∃j:Int,b=[.int j]/\-2^62<=j/\j<2^62/\∀r,a r=none->Q (.ref r) (upd a r (.rng 0 j))
def abh{a:Expr}{ta:TA}{p pos:Pos}(n:Gl X "range")(r:X.mg "range"=none)(m:PA X [a] ta)(hs:starEach [a] X.env=[(false,eval a X.env)]:=by rfl):PE X (.Call (.Name "range" p) [a] [] pos) (aiV ta):=by intro c s σ H Q I h;refine Call_ (j9 I n r asU (aqk (thn (m pos c s σ H _ I h) λx i d=>?_) hs rfl));obtain⟨w,v,f,l,k⟩:=d;obtain⟨j,rfl,_,_,q⟩:=k;obtain⟨u,rfl,g⟩:=vals1 l;obtain⟨t,rfl⟩:=g;exact call_range_1 ⟨.ref i.heap.objs.size,_,f.laid (o:=.rng 0 j) (λb o e=>apw _ e) (apG _) ⟨_,_,_,apL _ rfl⟩,rfl,q _ (f.hok.fresh (apG _))⟩
def rh(z:X.calm=true):bV X (.type "list") λj H Q=>∃(r:Addr)(n:Nat),j=[.ref r]/\H r=some (.rng 0 n)/\n<=1000/\∀l,H l=none->Q (.ref l) (upd H l (.lst ((List.range n).map λi=>.int (i:Nat)))):=by
 intro g s σ H j d Q I r h;obtain⟨a,n,rfl,C,x,q⟩:=h;obtain⟨u,rfl,B⟩:=vals1 r;cases show u=Value.ref a from B;obtain⟨t,u,v,e⟩:=show dH X.prog X.w H s.heap a (.rng 0 n)from I.hok a _ C;refine call_list_range (n:=n) (I.ok.hd z) e (small_one (by omega) (by omega) (by omega) (by omega)) (by rw[rangeSize_one];split<;>omega) (by omega) λD tk c w p y b=>?_;refine⟨.ref s.heap.objs.size,_,I.laid (t':=tk) (o:=.lst ((List.range n).map λi=>.int (i:Nat))) p (apG _) ⟨?_,c.toList,w,?_,by simpa using y⟩,rfl,q _ (I.hok.fresh (apG _))⟩;.rw[apR,arh];exact apD x (by decide)
 .have go:∀(d:List Value)(k:Nat),(∀(i:Nat)(v:Value),d[i]?=some v->∃t,v=.int ((k+i:Nat):Int) t)->Vals ((List.range' k d.length).map λi=>V.int (i:Nat)) d:=by intro d;induction d with|nil=>intro k _;exact .nil|cons u d ih=>
    intro k m;rw[apK,List.range'_succ,apU];refine .cons ?_ (ih (k+1) λi v f=>?_);.obtain⟨t,e⟩:=m 0 u rfl;exact⟨t,by simpa using e⟩
    .obtain⟨t,e⟩:=m (i+1) v (by simpa using f);exact⟨t,by rw[e];congr 1;omega⟩
  have A:c.toList.length=n:=by simpa using b.1
  have:=go c.toList 0 λi v f=>by obtain⟨t,e⟩:=b.2 i v (by simpa using f);exact⟨t,by rw[e];congr 1;omega⟩
  rw[A]at this;rw[List.range_eq_range'];exact this
end
def Wlk(h:Heap):Bool->Addr->Addr->Nat->Prop|true,it,a,k=>h.IsListIter it a k|false,it,a,k=>h.IsTupleIter it a k
def ud(h:Heap):Bool->Addr->Array Value->Prop|true,a,xs=>h.IsList a xs|false,a,xs=>h.IsTuple a xs
def SqB(K:W.Frag)(H:Hp):Bool->Addr->List V->Prop|true,a,xs=>SqL K H a xs|false,a,xs=>SqT K H a xs
def Wlk.go{h h':Heap}{lt:Bool}{it a:Addr}{k:Nat}(w:Wlk h lt it a k)(e:∀o,h.get? it=some o->h'.get? it=some o):Wlk h' lt it a k:=by cases lt with|true|false=>obtain⟨o,b,r⟩:=w;exact⟨o,e o b,r⟩
def ud.go{h h':Heap}{lt:Bool}{a:Addr}{xs:Array Value}(w:ud h lt a xs)(e:∀o,h.get? a=some o->h'.get? a=some o):ud h' lt a xs:=by cases lt with|true|false=>obtain⟨o,b,r⟩:=w;exact⟨o,e o b,r⟩
def Wlk.ale{h:Heap}{lt:Bool}{it a:Addr}{k:Nat}(w:Wlk h lt it a k):∃o b,h.get? it=some o/\o.data=.fields b:=by cases lt with|true|false=>obtain⟨o,c,_,r⟩:=w;exact⟨o,_,c,r⟩
def ud.there{h:Heap}{lt:Bool}{a:Addr}{xs:Array Value}(w:ud h lt a xs):∃o,h.get? a=some o:=by cases lt with|true|false=>obtain⟨o,b,_⟩:=w;exact⟨o,b⟩
section
variable{prog:Program}{w:World}{A:Around}{E:Value->Shared->Prop}{s:Shared}
def rH{lt:Bool}{it a:Addr}{k:Nat}{xs:Array Value}{x:Value}{Q:Value->Shared->Prop}(hw:Wlk s.heap lt it a k)(c:ud s.heap lt a xs)(e:xs[k]?=some x)(d:∀b,Wlk b lt it a (k+1)->Heap.SameBut it s.heap b->Q x {s with heap:=b}):wpAny (model prog w) A (Builtin.SmallTypes.nextOf (.ref it)) Q E s:=by cases lt with|true=>exact wpAny_nextOf_list_item hw c e d|false=>exact pF hw c e d
def aam{lt:Bool}{it a:Addr}{k:Nat}{xs:Array Value}{Q:Value->Shared->Prop}(c:A.handled=none)(hw:Wlk s.heap lt it a k)(d:ud s.heap lt a xs)(f:xs[k]?=none)(g:∀b e,Heap.ExtBut it s.heap b->(∃o,b.get? e=some o/\o.cls=.type "StopIteration")->E (.ref e) {s with heap:=b}):wpAny (model prog w) A (Builtin.SmallTypes.nextOf (.ref it)) Q E s:=by cases lt with|true=>exact wpAny_nextOf_list_end c hw d f g|false=>exact sW c hw d f g
def zU{lt:Bool}{a f b h g B H:Addr}{k:Nat}{xs ys:Array Value}{x y u v:Value}{Q:Option Value->Shared->Prop}(D:ZipApart a f b h g B H)(hz:IsZip s.heap a f b .none)(hI:IsPair s.heap f (.ref h) (.ref g))(hO:IsPair s.heap b u v)(w1:Wlk s.heap lt h B k)(w2:Wlk s.heap lt g H k)(q1:ud s.heap lt B xs)(q2:ud s.heap lt H ys)(hx:xs[k]?=some x)(hy:ys[k]?=some y)(hQ:∀l,IsZip l a f b (rawInt s.heap.objs.size)->IsPair l b x y->Wlk l lt h B (k+1)->Wlk l lt g H (k+1)->IsPair l s.heap.objs.size x y->(∀c o,c≠a->c≠b->c≠h->c≠g->s.heap.get? c=some o->l.get? c=some o)->Q (some (.ref s.heap.objs.size)) {s with heap:=l}):wpAny (model prog w) A (pyNext (.ref a)) Q E s:=by
 have hT:s.TypeIs (.ref a) "zip":=⟨_,hz,rfl⟩;unfold pyNext;refine apu (aru (aqu (name:=Str.ofString "__next__") hT ar5 (aqH ar5 hT F.entry_zip_next ?_ (F.args_zip_next_1 _))));show wpAny _ _ (field (.ref a) 2 >>=_) _ _ s;refine apu (apY (s:=s) hz rfl (x:=.bool false) rfl ?_);show wpAny _ _ (field (.ref a) 3 >>=_) _ _ s;refine apu (apY (s:=s) hz rfl (x:=.ref f) rfl (apu (aq4 hI rfl ?_)));show wpAny _ _ (Builtin.SmallTypes.ownedTupleIsFree (.ref a)>>=_) _ _ s;unfold Builtin.SmallTypes.ownedTupleIsFree;refine apu (apu (apY (s:=s) hz rfl (x:=.none) rfl (apF ?_)));simp only[arc];refine apu (asv (apu (apY (s:=s) hz rfl (x:=.ref b) rfl (apu (aqm hz (by simp) λJ X q=>?_)))));replace X:IsZip J a f b .ellipsis:=X;simp only[List.zipIdx_cons,List.zipIdx_nil,asN,List.forIn_nil];refine apu (apu (apu (wpAny_onRaise ?_)));show wpAny _ _ (Builtin.SmallTypes.nextOf (.ref h)>>=_) _ _ {s with heap:=J};refine apu (rH (s:={s with heap:=J}) (w1.go λo=>q.extBut _ o D.i1z) (q1.go λo=>q.extBut _ o D.l1z) hx λr n1 j=>apF ?_);replace j:Heap.SameBut h J r:=j;have O2:IsPair r b u v:=j.extBut _ _ D.TOi1 (q.extBut _ _ D.TOz hO);refine apu (aq4 (s:={s with heap:=r}) O2 rfl (apu (wpAny_updateSeq_pair (s:={s with heap:=r}) O2 λC S i=>apu (wpAny_letGo (apF ?_)))));replace S:IsPair C b x v:=S;replace i:Heap.SameBut b r C:=i;refine apu (apu (wpAny_onRaise ?_));show wpAny _ _ (Builtin.SmallTypes.nextOf (.ref g)>>=_) _ _ {s with heap:=C};refine apu (rH (s:={s with heap:=C}) (w2.go λo z=>i.extBut _ o D.TOi2.symm (j.extBut _ o D.i12.symm (q.extBut _ o D.i2z z))) (q2.go λo z=>i.extBut _ o D.l2TO (j.extBut _ o D.l2i1 (q.extBut _ o D.l2z z))) hy λG n2 m=>apF ?_);replace m:Heap.SameBut g C G:=m;have Z:IsPair G b x v:=m.extBut _ _ D.TOi2 S;refine apu (aq4 (s:={s with heap:=G}) Z rfl (apu (wpAny_updateSeq_pair (s:={s with heap:=G}) Z λd M p=>apu (wpAny_letGo (apF (apF ?_))))));replace M:IsPair d b x y:=M;replace p:Heap.SameBut b G d:=p;refine apu (aq4 (s:={s with heap:=d}) M rfl (apu (wpAny_newTuple ?_)));have sz:d.objs.size=s.heap.objs.size:=by rw[p.1,m.1,i.1,j.1,q.1]
 have z5:IsZip d a f b .ellipsis:=p.extBut _ _ D.TOz.symm (m.extBut _ _ D.i2z.symm (i.extBut _ _ D.TOz.symm (j.extBut _ _ D.i1z.symm X)));have k5:∀c o,c≠a->c≠b->c≠h->c≠g->s.heap.get? c=some o->d.get? c=some o:=λc o n K U T e=>p.extBut _ _ K (m.extBut _ _ T (i.extBut _ _ K (j.extBut _ _ U (q.extBut _ _ n e))));have m1:Wlk d lt h B (k+1):=n1.go λo z=>p.extBut _ o D.TOi1.symm (m.extBut _ o D.i12 (i.extBut _ o D.TOi1.symm z));have m2:Wlk d lt g H (k+1):=n2.go λo z=>p.extBut _ o D.TOi2.symm z;have lz:a<d.objs.size:=apH z5;show wpAny _ _ (Builtin.SmallTypes.ownedTupleHandOut (.ref a) (.ref d.objs.size)>>=_) _ _ _;unfold Builtin.SmallTypes.ownedTupleHandOut;refine apu (apu (aqm (s:={s with heap:=d.push {cls:=.type "tuple",data:=.seq #[x,y]}}) (apw _ z5) (by simp) λR Y I=>?_));replace Y:IsZip R a f b (rawInt d.objs.size):=Y;replace I:Heap.SameBut a (d.push {cls:=.type "tuple",data:=.seq #[x,y]}) R:=I;refine aqm (s:={s with heap:=R}) Y (by simp) λt N O=>?_;replace N:IsZip t a f b (rawInt d.objs.size):=N;replace O:Heap.SameBut a R t:=O;have P:∀c o,c≠a->d.get? c=some o->t.get? c=some o:=λc o n e=>O.extBut _ _ n (I.extBut _ _ n (apw _ e));have T8:IsPair t d.objs.size x y:=O.extBut _ _ (ap4 lz) (I.extBut _ _ (ap4 lz) (apL _ rfl));rw[sz]at N T8;refine apF ⟨_,rfl,apF ?_⟩;show Q (some (.ref d.objs.size)) _;rw[sz];exact hQ t N (P _ _ D.TOz M) (m1.go λo z=>P _ o D.i1z z) (m2.go λo z=>P _ o D.i2z z) T8 λc o n K U T e=>P c o n (k5 c o n K U T e)
def ac3{lt:Bool}{a f g h H p X:Addr}{k:Nat}{xs:Array Value}{Q:Option Value->Shared->Prop}(R:A.handled=none)(D:ZipApart a f g h H p X)(hz:IsZip s.heap a f g .none)(S:IsPair s.heap f (.ref h) (.ref H))(G:∃u v,IsPair s.heap g u v)(w1:Wlk s.heap lt h p k)(K:ud s.heap lt p xs)(U:xs[k]?=none)(N:∀B,(∀c o,c≠a->c≠h->s.heap.get? c=some o->B.get? c=some o)->Q none {s with heap:=B}):wpAny (model prog w) A (pyNext (.ref a)) Q E s:=by
 have y:s.TypeIs (.ref a) "zip":=⟨_,hz,rfl⟩;obtain⟨u,v,G⟩:=G;unfold pyNext;refine apu (aru (aqu (name:=Str.ofString "__next__") y ar5 (aqH ar5 y F.entry_zip_next ?_ (F.args_zip_next_1 _))));show wpAny _ _ (field (.ref a) 2 >>=_) _ _ s;refine apu (apY (s:=s) hz rfl (x:=.bool false) rfl ?_);show wpAny _ _ (field (.ref a) 3 >>=_) _ _ s;refine apu (apY (s:=s) hz rfl (x:=.ref f) rfl (apu (aq4 S rfl ?_)));show wpAny _ _ (Builtin.SmallTypes.ownedTupleIsFree (.ref a)>>=_) _ _ s;unfold Builtin.SmallTypes.ownedTupleIsFree;refine apu (apu (apY (s:=s) hz rfl (x:=.none) rfl (apF ?_)));simp only[arc];refine apu (asv (apu (apY (s:=s) hz rfl (x:=.ref g) rfl (apu (aqm hz (by simp) λl r t=>?_)))));replace r:IsZip l a f g .ellipsis:=r;simp only[List.zipIdx_cons,List.zipIdx_nil,asN,List.forIn_nil];refine apu (apu (apu (wpAny_onRaise ?_)));show wpAny _ _ (Builtin.SmallTypes.nextOf (.ref h)>>=_) _ _ {s with heap:=l};refine apu (aam (s:={s with heap:=l}) R (w1.go λo=>t.extBut _ o D.i1z) (K.go λo=>t.extBut _ o D.l1z) U λm e n P=>?_);replace n:Heap.ExtBut h l m:=n;obtain⟨J,d,i⟩:=P;have I:IsZip m a f g .ellipsis:=n _ _ D.i1z.symm r;have O:e≠a:=λx=>by subst x;rw[I]at d;cases d;simp at i
 refine aqm (s:={s with heap:=m}) I (by simp) λq _ j=>?_;replace j:Heap.SameBut a m q:=j;refine apu (wpAny_isInstance (s:={s with heap:=q}) (T:="StopIteration") (b:=true) ⟨J,j.extBut _ _ O d,i⟩ isSubtype_stop (apF (N q λc o C M z=>j.extBut _ _ C (n _ _ M (t.extBut _ _ C z)))))
end
def zT{n a b:Nat}(d:a<n)(c:b<n):ZipApart (n+4) (n+2) (n+3) n (n+1) a b:=by constructor<;>(intro h;have h:(_:Nat)=_:=h;omega)
noncomputable abbrev jd(lt:Bool)(a:Addr):Obj:={cls:=.type (if lt then"list_iterator"else"tuple_iterator"),data:=.fields #[.ref a,.int 0 0]}
abbrev zh2(h:Heap)(lt:Bool)(a b:Addr):Heap:=(h.push (jd lt a)).push (jd lt b)
abbrev zh4(h:Heap)(lt:Bool)(a b:Addr):Heap:=((zh2 h lt a b).push {cls:=.type "tuple",data:=.seq #[.ref h.objs.size,.ref (h.push (jd lt a)).objs.size]}).push {cls:=.type "tuple",data:=.seq #[.none,.none]}
abbrev zh5(h:Heap)(lt:Bool)(a b:Addr):Heap:=(zh4 h lt a b).push {cls:=.type "zip",data:=.fields #[.none,.bool false,.bool false,.ref (zh2 h lt a b).objs.size,.ref ((zh2 h lt a b).push {cls:=.type "tuple",data:=.seq #[.ref h.objs.size,.ref (h.push (jd lt a)).objs.size]}).objs.size]}
def x6(lt:Bool)(a b:Addr)(xs ys:Array Value):Meets (Builtin.«zip.__new__» ⟨[.type "zip",.ref a,.ref b],[]⟩) λ_ R s=>ud s.heap lt a xs/\ud s.heap lt b ys/\R (.ok (.ret (.ref (zh4 s.heap lt a b).objs.size))) {s with heap:=zh5 s.heap lt a b}:=.of_wp λk w A R s h=>by
 obtain⟨c,g,d,tk,os⟩:=s;obtain⟨i,l,h⟩:=h;have j:=sub_zip;cases lt;.have f:Heap.IsTuple (Shared.heap ⟨c,g,d,tk,os⟩) a xs:=i;have e:Heap.IsTuple (Shared.heap ⟨c.push {cls:=.type "tuple_iterator",data:=.fields #[.ref a,.int 0 0]},g,d,tk,os⟩) b ys:=ud.go (lt:=false) l λo z=>apw _ z;wp_walk using arD f,arD e;exact⟨_,rfl,h⟩
 .have f:Heap.IsList (Shared.heap ⟨c,g,d,tk,os⟩) a xs:=i;have e:Heap.IsList (Shared.heap ⟨c.push {cls:=.type "list_iterator",data:=.fields #[.ref a,.int 0 0]},g,d,tk,os⟩) b ys:=ud.go (lt:=true) l λo z=>apw _ z;wp_walk using arO f,arO e;exact⟨_,rfl,h⟩
section
variable{prog:Program}{w:World}{A:Around}{E:Value->Shared->Prop}{s:Shared}
def zV{lt:Bool}{a b:Addr}{xs ys:Array Value}{Q:Value->Shared->Prop}(q:ud s.heap lt a xs)(r:ud s.heap lt b ys)(h:∀d,IsZip d (s.heap.objs.size+4) (s.heap.objs.size+2) (s.heap.objs.size+3) .none->IsPair d (s.heap.objs.size+2) (.ref s.heap.objs.size) (.ref (s.heap.objs.size+1))->IsPair d (s.heap.objs.size+3) .none .none->Wlk d lt s.heap.objs.size a 0->Wlk d lt (s.heap.objs.size+1) b 0->(∀c o,s.heap.get? c=some o->d.get? c=some o)->Q (.ref (s.heap.objs.size+4)) {s with heap:=d}):wpAny (model prog w) A (call (.type "zip") [.ref a,.ref b]) Q E s:=by
 refine callType_new F.called_zip (by decide) (F.typeCall_zip_2 _ _) (F.newCall_zip_2 _ _) (λi=>F.args_object_init_3 i _ _) F.entry_zip_new (x6 lt a b xs ys) ⟨q,r,?_⟩;have f:(s.heap.push (jd lt a)).objs.size=s.heap.objs.size+1:=aqS ..;have j:(zh2 s.heap lt a b).objs.size=s.heap.objs.size+2:=by rw[aqS,f]
 have k:((zh2 s.heap lt a b).push {cls:=.type "tuple",data:=.seq #[.ref s.heap.objs.size,.ref (s.heap.push (jd lt a)).objs.size]}).objs.size=s.heap.objs.size+3:=by rw[aqS,j]
 have p:(zh4 s.heap lt a b).objs.size=s.heap.objs.size+4:=by rw[aqS,k]
 have e:(zh5 s.heap lt a b).get? (zh4 s.heap lt a b).objs.size=some _:=apL _ rfl;have m:(zh5 s.heap lt a b).get? ((zh2 s.heap lt a b).push {cls:=.type "tuple",data:=.seq #[.ref s.heap.objs.size,.ref (s.heap.push (jd lt a)).objs.size]}).objs.size=some _:=apw _ (apL _ rfl);have n:(zh5 s.heap lt a b).get? (zh2 s.heap lt a b).objs.size=some _:=apw _ (apw _ (apL _ rfl));have g:(zh5 s.heap lt a b).get? (s.heap.push (jd lt a)).objs.size=some (jd lt b):=apw _ (apw _ (apw _ (apL _ rfl)));have l:(zh5 s.heap lt a b).get? s.heap.objs.size=some (jd lt a):=apw _ (apw _ (apw _ (apw _ (apL _ rfl))));show _/\_;rw[j,k,p]at e;rw[f,j]at n;rw[k]at m;rw[f]at g;rw[p];refine⟨⟨_,e,rfl⟩,h _ e n m ?_ ?_ λc o x=>apw _ (apw _ (apw _ (apw _ (apw _ x))))⟩
 .cases lt;.exact⟨_,l,rfl,rfl⟩
  .exact⟨_,l,rfl,rfl⟩
 .cases lt;.exact⟨_,g,rfl,rfl⟩
  .exact⟨_,g,rfl,rfl⟩
end
def Inv.aat{X:Cx}{pins:List (Addr×Obj)}{σ:L2.St}{H:Hp}{s:Shared}{h':Heap}{t':Nat}{ch:List Addr}(I:Inv X pins σ H s)(k:∀c o,c∉ch->s.heap.get? c=some o->h'.get? c=some o)(b:∀c∈ch,vU X pins H c):Inv X pins σ H {s with heap:=h',toks:=t'}:=by
 have f:∀c u,H c=some u->c∉ch:=λc u e z=>by rw[(b c z).1]at e;cases e
 refine I.step (g':=s.gens) (d':=s.drawn) (ch:=ch) (λc a=>⟨(b c a).2.2.2.1,(b c a).2.1,(b c a).2.2.2.2.1,(b c a).2.2.2.2.2⟩) (λc o _ _ a e _=>k c o a e) (λc o _ _ a e _=>⟨o.slots,k c o a e⟩) (λ_ _ _ _ n=>n) (λc o a e=>⟨o,k c o a e⟩) (λ_ _ e=>e) (λ_ _ _ e=>e) (λc l e=>⟨#[],by rw[e];simp⟩) (λm i=>?_) (λc u e=>?_) I.bare;.obtain⟨o,h,g,j,r⟩:=i;exact⟨o,h,g,k _ o (λz=>(b _ z).2.1 rfl) j,r⟩
 .refine(I.hok c u e).wC (λd v a q=>k d v ?_ q) (λ_ q=>q) λ_ _ q=>q;rcases a with z|z;.rw[z];exact f c u e
  .exact f d _ z
def Itz(K:W.Frag)(lt:Bool)(a b:Addr):It:=⟨λi H=>∃c d x y,SqB K H lt a c/\SqB K H lt b d/\c[i]?=some x/\d[i]?=some y,λi H v e=>∃p,v=.ref p/\H p=none/\∀c d,SqB K H lt a c->SqB K H lt b d->∃x y,c[i]?=some x/\d[i]?=some y/\e=upd H p (.tup [x,y]),λi H=>∃c,SqB K H lt a c/\c.length<=i⟩
def Inv.ai3{X:Cx}{pins:List (Addr×Obj)}{σ:L2.St}{H:Hp}{s:Shared}{lt:Bool}{a:Addr}{xs:List V}(I:Inv X pins σ H s)(h:SqB X.K H lt a xs):∃b:List Value,Vals xs b/\ud s.heap lt a b.toArray:=by cases lt with|true=>obtain⟨b,r,p,_⟩:=I.list h;exact⟨b,r,p.isList⟩|false=>obtain⟨b,r,p,_⟩:=I.tuple h;exact⟨b,r,p⟩
def Inv.wH{X:Cx}{pins:List (Addr×Obj)}{σ:L2.St}{H:Hp}{s:Shared}{lt:Bool}{a:Addr}{xs ys:List V}(I:Inv X pins σ H s)(h:SqB X.K H lt a xs)(h':SqB X.K H lt a ys):xs=ys:=by cases lt with|true=>exact I.qI h h'|false=>exact I.mh h h'
def ads{P:Program}{w:World}{K:W.Frag}{es:List Expr}{k:Nat}{pos:Pos}{lt:Bool}{a b zp ti tO j1 j2:Addr}(D:ZipApart zp ti tO j1 j2 a b):Turn P w K (.Tuple es k pos) (Itz K lt a b) [zp,ti,tO,j1,j2] zp λi h=>IsZip h zp ti tO .none/\IsPair h ti (.ref j1) (.ref j2)/\(∃u v,IsPair h tO u v)/\Wlk h lt j1 a i/\Wlk h lt j2 b i where
 mem:=by simp
 obj:=λi h st c hc=>by
  obtain⟨hz,hI,⟨u,v,hO⟩,w1,w2⟩:=st;simp only[apJ,aqa,arE]at hc;rcases hc with rfl|rfl|rfl|rfl|rfl;.exact⟨_,hz,λv z=>by cases z⟩
  .exact⟨_,hI,λv z=>by cases z⟩
  .exact⟨_,hO,λv z=>by cases z⟩
  .obtain⟨o,vs,ho,hd⟩:=w1.ale;exact⟨o,ho,λv z=>by rw[hd]at z;cases z⟩
  .obtain⟨o,vs,ho,hd⟩:=w2.ale;exact⟨o,ho,λv z=>by rw[hd]at z;cases z⟩
 keep:=λi h h' st kk=>by obtain⟨hz,hI,⟨u,v,hO⟩,w1,w2⟩:=st;exact⟨kk _ (by simp) _ hz,kk _ (by simp) _ hI,⟨u,v,kk _ (by simp) _ hO⟩,w1.go λo=>kk _ (by simp) o,w2.go λo=>kk _ (by simp) o⟩
 item:=by
  intro X hP hw hK i pins s σ H E hc I hf st hg;subst hP hw hK;obtain⟨hz,hI,⟨u0,v0,hO⟩,w1,w2⟩:=st;obtain⟨xs,ys,x,y,hq1,hq2,hx,hy⟩:=hg;obtain⟨its,rv,p1⟩:=I.ai3 hq1;obtain⟨jts,rw',p2⟩:=I.ai3 hq2;obtain⟨u,hu,ru⟩:=rv.get hx;obtain⟨v,hv,rv'⟩:=rw'.get hy;refine zU D hz hI hO w1 w2 p1 p2 (x:=u) (y:=v) (by simpa using hu) (by simpa using hv) λh' z' O' m1 m2 tp kp=>?_;have hfr:H s.heap.objs.size=none:=I.hok.fresh (apG _);have hnT:∀c o,s.heap.get? c=some o->c≠s.heap.objs.size:=λc o q=>apM (apH q);have I1:Inv X pins σ H {s with heap:=h'}:=I.aat (t':=s.toks) (ch:=[zp,ti,tO,j1,j2]) (λc o hc q=>by simp only[apJ,aqa,arE,not_or]at hc;exact kp c o hc.1 hc.2.2.1 hc.2.2.2.1 hc.2.2.2.2 q) hf;have I2:Inv X pins σ (upd H s.heap.objs.size (.tup [x,y])) {s with heap:=h'}:=by refine I1.yj hfr I.sz (ap4 I.lt) (λn c q=>?_) (λpp hp=>hnT _ _ (I.pin pp hp).1) ⟨by show 2<=sizeLine;decide,[u,v],.cons ru (.cons rv' .nil),⟨_,tp,rfl,0,rfl⟩⟩;obtain⟨_,z⟩:=I.cell n c q;exact apM z.lt
  refine⟨_,rfl,wpAny_letOwnedTupleGo_zip (s:={s with heap:=h'}) z' λh2 z2 e2=>?_⟩;replace e2:Heap.SameBut zp h' h2:=e2;have nz:s.heap.objs.size≠zp:=apO (hnT _ _ hz);have fz:=hf zp (by simp);refine⟨.ref s.heap.objs.size,upd H s.heap.objs.size (.tup [x,y]),?_,rfl,⟨_,rfl,hfr,λxs' ys' h1 h2=>⟨x,y,by rw[I.wH h1 hq1];exact hx,by rw[I.wH h2 hq2];exact hy,rfl⟩⟩,⟨z2,?_,⟨_,_,e2.extBut _ _ D.TOz O'⟩,m1.go λo z=>e2.extBut _ o D.i1z z,m2.go λo z=>e2.extBut _ o D.i2z z⟩,λc hc=>?_⟩;.exact I2.turned (t':=s.toks) (it:=zp) (λc o hc q=>(e2.2 c hc).trans q) (by rw[ak (apO nz)];exact fz.1) fz.2.1 fz.2.2.2.1 fz.2.2.2.2.1 fz.2.2.2.2.2
  .exact e2.extBut _ _ D.TIz (kp _ _ D.TIz D.TITO D.TIi1 D.TIi2 hI)
  .have hne:c≠s.heap.objs.size:=by
    simp only[apJ,aqa,arE]at hc;rcases hc with rfl|rfl|rfl|rfl|rfl;.exact hnT _ _ hz
    .exact hnT _ _ hI
    .exact hnT _ _ hO
    .obtain⟨o,_,ho,_⟩:=w1.ale;exact hnT _ _ ho
    .obtain⟨o,_,ho,_⟩:=w2.ale;exact hnT _ _ ho
   rw[ak hne];exact(hf c hc).1
 done:=by intro X hP hw hK i pins s σ H E hc I hf st hg;subst hP hw hK;obtain⟨hz,hI,hO,w1,w2⟩:=st;obtain⟨xs,hq,hx⟩:=hg;obtain⟨its,rv,p⟩:=I.ai3 hq;have hl:=rv.length;refine ac3 (I.ok.hd hc) D hz hI hO w1 p (by simp;omega) λh' kp=>⟨rfl,?_⟩;exact I.aat (t':=s.toks) (ch:=[zp,ti,tO,j1,j2]) (λc o hc q=>by simp only[apJ,aqa,arE,not_or]at hc;exact kp c o hc.1 hc.2.2.2.1 q) hf
 self:=λ_ _ _ _ _⟨hz,_⟩h=>wpAny_pyIter_zip hz h
section
variable{X:Cx}
def akn(K:W.Frag)(t:TA):TI:=λσ H R=>t σ H λe c=>∃(lt:Bool)(a b:Addr),e=[.ref a,.ref b]/\(∃f,SqB K c lt a f)/\(∃d,SqB K c lt b d)/\R (Itz K lt a b) c
def ajo{l m:Expr}{t:TA}{es:List Expr}{k:Nat}{T p pos:Pos}(hg:Gl X "zip")(hm:X.mg "zip"=none)(Y:PA X [l,m] t)(hs:starEach [l,m] X.env=[(false,eval l X.env),(false,eval m X.env)]:=by rfl)(j:starEach [m] X.env=[(false,eval m X.env)]:=by rfl):PI X (.Tuple es k T) (.Call (.Name "zip" p) [l,m] [] pos) (akn X.K t):=by
 intro f s σ H R I h;refine Call_ (j9 I hg hm boot_zip (aqk (thn (Y pos f s σ H _ I h) λus d w=>?_) (by rw[hs,j]) (by rw[j];rfl)));obtain⟨vs,Q,g,O,K⟩:=w;obtain⟨lt,a,b,rfl,⟨xs,n⟩,⟨ys,o⟩,q⟩:=K;obtain⟨u,v,rfl,E,U⟩:=vals2 O;cases show u=Value.ref a from E;cases show v=Value.ref b from U;obtain⟨G,_,y⟩:=g.ai3 n;obtain⟨M,_,B⟩:=g.ai3 o;obtain⟨oa,x⟩:=y.there;obtain⟨ob,r⟩:=B.there;have C:=apH x;have P:=apH r;refine zV y B λh' A Z S w1 N J=>wpAny_pyIter_zip A ?_;have D:ZipApart (d.heap.objs.size+4) (d.heap.objs.size+2) (d.heap.objs.size+3) d.heap.objs.size (d.heap.objs.size+1) a b:=zT C P;refine⟨d.heap.objs.size+4,[d.heap.objs.size+4,d.heap.objs.size+2,d.heap.objs.size+3,d.heap.objs.size,d.heap.objs.size+1],_,_,Q,rfl,g.kept (t':=d.toks) J,ads D,⟨A,Z,⟨_,_,S⟩,w1,N⟩,λc z=>?_,q⟩;have i:d.heap.objs.size<=c:=by simp only[apJ,aqa,arE]at z;rcases z with e|e|e|e|e<;>rw[e]<;>first|exact apG _|exact aqo _ _
 exact g.akv i (g.hok.fresh i)
end
end L2
set_option autoImplicit true
set_option relaxedAutoImplicit true
namespace K2
open PySem
section
variable{prog:Program}{w:World}{K:Type}[DecidableEq K](I:HeapKind prog w K)
def Its(h:Heap):List K->List Value->Prop|[],vs=>vs=[]|k::ks,vs=>∃b a,vs=.ref b::a/\I.is h k b/\Its h ks a
def Is(h:Heap)(ks:List K)(a:Addr):Prop:=∃o b n,h.get? a=some o/\o.cls=.type "tuple"/\o.data=.seq b n/\Its I h ks b.toList
variable{I}
theorem Its.same{h}:∀{x y vs},Its I h x vs->Its I h y vs->x=y
|[],y,vs,c,a=>by cases c;cases y with|nil=>rfl|cons=>obtain⟨_,_,e,_⟩:=a;cases e
|_::_,y,vs,c,a=>by obtain⟨b,d,rfl,i,c⟩:=c;cases y with|nil=>cases a|cons=>obtain⟨_,_,e,j,a⟩:=a;cases e;rw[I.inj i j,Its.same c a]
theorem Is.same{h a x y}(k:Is I h x a)(e:Is I h y a):x=y:=by refine vW k λo i n d _ j g=>?_;refine vW e λl m p b _ c f=>?_;rw[d]at b;cases b;rw[j]at c;cases c;exact g.same f
variable{A:Around}{E:Value->Shared->Prop}{s:Shared}
end
end K2
set_option autoImplicit true
set_option relaxedAutoImplicit true
namespace L2
open PySem PySem.Spec PyProof.Rows
abbrev aoc:=List (List Int)
def FKy(K:W.Frag)(H:Hp)(k:aoc)(a:Addr):Prop:=∃bs:List Addr,SqT K H a (bs.map V.ref)/\Paired (λ(x:List Int)(b:Addr)=>SqT K H b (x.map V.int)) k bs
end L2
namespace WL
open PySem
inductive W where|non|bl(b:Bool)|int(i:Int)|str(x:Str)|ty(n:String)|tup(xs:List W)|lst(xs:List W)/-- a dict that is read alone: its keys,its values;a class of the text;an exception: its class,its fields -/|dic(ks vs:List W)|cls(c:String)|exc(c:String)(fs:List W)/-- an object that is made: its class,its fields -/|ins(c:String)(fs:List W)/-- a thing that is written,by its place alone -/|id(a:Nat)
inductive Res(α:Type)where|ok(a:α)|ex(c:W)|bad
noncomputable def Res.bind{b d}:Res b->(b->Res d)->Res d|.ok a,f=>f a|.ex c,_=>.ex c|.bad,_=>.bad
inductive Sl where|no|va(w:W)|ow(ws:List W)|od(ks vs:List W)|ob
abbrev Ws:=List Sl
abbrev EF:=Ws->Res W
abbrev TF:=Ws->Res Bool
abbrev AF:=Ws->Res (List W)
abbrev LF:=Ws->Res (List W)
abbrev GF:=W->Ws->Res Ws
inductive Out where|nx(σ:Ws)|rt(w:W)|bk(σ:Ws)|ct(σ:Ws)|ex(c:W)(σ:Ws)|bad
abbrev SF:=Ws->Out
mutual def eqv:W->W->Bool|.non,.non=>true|.bl a,.bl b=>a==b|.bl a,.int j=>(if a then 1 else 0)==j|.int i,.bl b=>i==if b then 1 else 0|.int i,.int j=>i==j|.str x,.str y=>x==y|.lst xs,.lst ys=>af4 xs ys|.tup xs,.tup ys=>af4 xs ys|_,_=>false def af4:List W->List W->Bool|[],[]=>true|x::xs,y::ys=>eqv x y&&af4 xs ys|_,_=>false end
mutual def okD:Nat->W->Bool|_,.non=>true|_,.bl _=>true|_,.int _=>true|_,.str x=>x.cps.all (.<0x110000)|_,.ty _=>false|n,.tup xs=>jb n xs|n,.lst xs=>jb n xs|_,.dic _ _=>false|_,.cls _=>false|_,.exc _ _=>false|_,.ins _ _=>false|_,.id _=>false def jb:Nat->List W->Bool|0,_=>false|_+1,[]=>true|n+1,x::xs=>okD n x&&jb (n+1) xs end
noncomputable def adD:W->W->Bool|.non,.non=>true|.non,.int _=>true|.int _,.non=>true|.non,.bl _=>true|.bl _,.non=>true|.non,.str _=>true|.str _,.non=>true|.int _,.int _=>true|.bl _,.bl _=>true|.str _,.str _=>true|.int _,.str _=>true|.str _,.int _=>true|.bl _,.str _=>true|.str _,.bl _=>true|_,_=>false
def oEq(x y:W):Res W:=if adD x y then .ok (.bl (eqv x y))else if okD 50 x&&okD 50 y then .ok (.bl (eqv x y))else .bad
def oNe(x y:W):Res W:=if adD x y then .ok (.bl !eqv x y)else if okD 50 x&&okD 50 y then .ok (.bl !eqv x y)else .bad
noncomputable def dG(x:W):List W->Bool|[]=>false|y::ys=>eqv y x||dG x ys
def oIn(x:W):W->Res W|.lst ys=>if okD 50 x&&jb 51 ys then .ok (.bl (dG x ys))else .bad|.tup ys=>if okD 50 x&&jb 51 ys then .ok (.bl (dG x ys))else .bad|_=>.bad
def pA(x:W):W->Res W|.lst ys=>if okD 50 x&&jb 51 ys then .ok (.bl !dG x ys)else .bad|.tup ys=>if okD 50 x&&jb 51 ys then .ok (.bl !dG x ys)else .bad|_=>.bad
noncomputable def lim:Nat:=1000000
def dy:W->W->Res W|.int i,.int j=>.ok (.int (i+j))|.lst xs,.lst ys=>if xs.length+ys.length<=lim then .ok (.lst (xs++ys))else .bad|.tup xs,.tup ys=>if xs.length+ys.length<=lim then .ok (.tup (xs++ys))else .bad|_,_=>.bad
noncomputable def g6:W->W->Res W|.int i,.int j=>.ok (.int (i-j))|_,_=>.bad
noncomputable def fh:W->W->Res W|.int i,.int j=>if -2^64<i/\i<2^64\/-2^64<j/\j<2^64 then .ok (.int (i*j))else .bad|_,_=>.bad
noncomputable def oDiv:W->W->Res W|.int i,.int j=>if 0<j/\j<10^100 then .ok (.int (i/j))else .bad|_,_=>.bad
noncomputable def oMod:W->W->Res W|.int i,.int j=>if 0<j then .ok (.int (i%j))else .bad|_,_=>.bad
noncomputable def ahh:W->W->Res W|.int i,.int j=>if 0<=j/\j<=1000/\i.natAbs<2^64 then .ok (.int (i^j.toNat))else .bad|_,_=>.bad
noncomputable def pB:W->Res W|.int i=>.ok (.int (-i))|_=>.bad
noncomputable def oLt:W->W->Res W|.int i,.int j=>.ok (.bl (decide (i<j)))|_,_=>.bad
noncomputable def oLe:W->W->Res W|.int i,.int j=>.ok (.bl (decide (i<=j)))|_,_=>.bad
noncomputable def oGt:W->W->Res W|.int i,.int j=>.ok (.bl (decide (j<i)))|_,_=>.bad
noncomputable def oGe:W->W->Res W|.int i,.int j=>.ok (.bl (decide (j<=i)))|_,_=>.bad
noncomputable def qL:W->Bool|.non=>true|_=>false
noncomputable def isB(b:Bool):W->Bool|.bl c=>b==c|_=>false
def oIs(x:W):W->Res W|.non=>.ok (.bl (qL x))|.bl b=>.ok (.bl (isB b x))|_=>.bad
def j5(x:W):W->Res W|.non=>.ok (.bl !qL x)|.bl b=>.ok (.bl !isB b x)|_=>.bad
noncomputable def ixN(n:Nat)(i:Int):Option Nat:=if 0<=i then if i<n then some i.toNat else none else if -(n:Int)<=i then some (i+n).toNat else none
def atI{a:Type}(xs:List a)(i:Int):Option a:=(ixN xs.length i).bind λj=>xs[j]?
noncomputable def ofO{b}:Option b->Res b|some a=>.ok a|none=>.bad
@[simp]def aln{b}(a:b):ofO (some a)=.ok a:=(rfl)
noncomputable def nT(k:Str):List W->List W->Option W|.str x::ks,v::vs=>if x==k then some v else nT k ks vs|_,_=>none
def oIx:W->W->Res W|.lst xs,.int i=>ofO (atI xs i)|.tup xs,.int i=>ofO (atI xs i)|.dic ks vs,.str k=>ofO (nT k ks vs)|_,_=>.bad
noncomputable def sIx(n d:Nat):Option Int->Nat|none=>d|some v=>if v<0 then(v+(n:Int)).toNat else min v.toNat n
def cut{a:Type}(xs:List a)(lo b:Option Int):List a:=(xs.drop (sIx xs.length 0 lo)).take (sIx xs.length xs.length b-sIx xs.length 0 lo)
def oSl:W->Option Int->Option Int->Res W|.lst xs,lo,hi=>.ok (.lst (cut xs lo hi))|.tup xs,lo,hi=>if sIx xs.length 0 lo=0/\sIx xs.length xs.length hi=xs.length then .bad else .ok (.tup (cut xs lo hi))|_,_,_=>.bad
noncomputable def pQ:List W->Res W|[.lst xs]=>.ok (.int xs.length)|[.tup xs]=>.ok (.int xs.length)|_=>.bad
noncomputable def gg:List W->Res W|[.lst xs]=>.ok (.tup xs)|[.tup xs]=>.ok (.tup xs)|_=>.bad
noncomputable def anZ:List W->Res W|[.lst xs]=>.ok (.lst xs)|[.tup xs]=>.ok (.lst xs)|_=>.bad
noncomputable def af9:List W->Res W|[.int i]=>.ok (.int (if i<0 then -i else i))|_=>.bad
noncomputable def zL:List W->Res W|[.int i,.int j]=>.ok (.int (if j>i then j else i))|_=>.bad
noncomputable def ac2:List W->Res W|[.bl b]=>.ok (.int (if b then 1 else 0))|[.int i]=>.ok (.int i)|_=>.bad
noncomputable def allB:List W->Option Bool|[]=>some true|.bl b::xs=>(allB xs).map λc=>b&&c|_=>none
def ae1:List W->Res W
|[.lst xs]=>match allB xs with|some b=>.ok (.bl b)|none=>.bad
|_=>.bad
noncomputable def ahu:W->String|.non=>"NoneType"|.bl _=>"bool"|.int _=>"int"|.str _=>"str"|.ty _=>"type"|.tup _=>"tuple"|.lst _=>"list"|.dic _ _=>"dict"|.cls _=>"type"|.exc _ _=>"exception"|.ins _ _=>"object"|.id _=>"object"
def isK(w:W)(t:String):Option Bool:=match w with|.ty _=>none|.dic _ _=>none|.cls _=>none|.exc _ _=>none|.ins _ _=>none|.id _=>none|_=>if["int","bool","str","list","tuple"].contains t then some (ahu w==t||ahu w=="bool"&&t=="int")else none
def bT:List W->Res W
|[x,.ty t]=>match isK x t with|some b=>.ok (.bl b)|none=>.bad
|_=>.bad
noncomputable def ai(i:Nat):EF:=λσ=>match σ[i]? with|some (.va w)=>.ok w|_=>.bad
noncomputable def eC(w:W):EF:=λ_=>.ok w
def eOp(r:W->W->Res W)(a b:EF):EF:=λσ=>(a σ).bind λx=>(b σ).bind λy=>r x y
def eUn(r:W->Res W)(a:EF):EF:=λσ=>(a σ).bind r
def pN(r d:W->W->Res W)(a b c:EF):EF:=λσ=>(a σ).bind λx=>(b σ).bind λy=>(r x y).bind λz=>match z with|.bl true=>(c σ).bind λw=>d y w|.bl false=>.ok (.bl false)|_=>.bad
noncomputable def toB:W->Res Bool|.bl b=>.ok b|_=>.bad
def tB(e:EF):TF:=λσ=>(e σ).bind toB
def yv(a b:TF):TF:=λσ=>(a σ).bind λx=>match x with|true=>b σ|false=>.ok false
def tOr(a b:TF):TF:=λσ=>(a σ).bind λx=>match x with|true=>.ok true|false=>b σ
def zQ(a:TF):TF:=λσ=>(a σ).bind λx=>.ok !x
def acu(a b:EF):EF:=λσ=>(a σ).bind λx=>match x with|.bl true=>b σ|.bl false=>.ok (.bl false)|_=>.bad
def ahH(a:EF):EF:=λσ=>(a σ).bind λx=>match x with|.bl b=>.ok (.bl !b)|_=>.bad
def eIf(t:TF)(a b:EF):EF:=λσ=>(t σ).bind λx=>match x with|true=>a σ|false=>b σ
noncomputable def aA:AF:=λ_=>.ok []
def ae(e:EF)(a:AF):AF:=λσ=>(e σ).bind λx=>(a σ).bind λb=>.ok (x::b)
def iZ(a:AF):EF:=λσ=>(a σ).bind λb=>if b.length<=lim then .ok (.tup b)else .bad
def hG(a:AF):EF:=λσ=>(a σ).bind λb=>if b.length<=lim then .ok (.lst b)else .bad
def aK(f:List W->Res W)(a:AF):EF:=λσ=>(a σ).bind λws=>match f ws with|.ok w=>.ok w|_=>.bad
def eBi(f:List W->Res W)(a:AF):EF:=λσ=>(a σ).bind f
def aoO(T:String)(r:W->List W->Res W)(o:EF)(a:AF):EF:=λσ=>(o σ).bind λx=>if ahu x==T then(a σ).bind λws=>r x ws else .bad
noncomputable def idx(x:W):Nat->List W->Option Nat|_,[]=>none|k,y::ys=>if eqv y x then some k else idx x (k+1) ys
def aoB:W->List W->Res W|.lst ys,[x]=>if okD 50 x&&jb 51 ys&&decide (ys.length<=lim)then match idx x 0 ys with|some k=>.ok (.int k)|none=>.bad else .bad|_,_=>.bad
noncomputable def hY:List W->Option (List W×List W)|[]=>some ([],[])|.str k::v::r=>(hY r).map λp=>(.str k::p.1,v::p.2)|_=>none
noncomputable def cK:List W->Bool|[]=>true|.str k::ks=>!(ks.any λx=>match x with|.str y=>y==k|_=>true)&&cK ks|_=>false
def alJ(a:AF):EF:=λσ=>(a σ).bind λb=>match hY b with|some (ks,vs)=>if cK ks&&decide (ks.length<=15)then .ok (.dic ks vs)else .bad|none=>.bad
noncomputable def pNo:Ws->Res (Option Int):=λ_=>.ok none
def n7(e:EF):Ws->Res (Option Int):=λσ=>(e σ).bind λx=>match x with|.int i=>.ok (some i)|_=>.bad
def eSl(e:EF)(lo a:Ws->Res (Option Int)):EF:=λσ=>(e σ).bind λx=>(lo σ).bind λl=>(a σ).bind λh=>oSl x l h
noncomputable def itemsOf:W->Res (List W)|.lst xs=>.ok xs|.tup xs=>.ok xs|_=>.bad
@[simp]def ahw(xs):itemsOf (.lst xs)=.ok xs:=(rfl)
@[simp]def ahv(xs):itemsOf (.tup xs)=.ok xs:=(rfl)
def vo(e:EF):LF:=λσ=>(e σ).bind itemsOf
noncomputable def rng(lo:Int)(n:Nat):List W:=(List.range n).map λi=>.int (lo+(i:Nat))
def jB(e:EF):LF:=λσ=>(e σ).bind λx=>match x with|.int j=>if -2^62<=j/\j<2^62 then .ok (rng 0 j.toNat)else .bad|_=>.bad
def vp(e a:EF):LF:=λσ=>(e σ).bind λx=>(a σ).bind λy=>match x,y with|.int i,.int j=>if -2^62<=i/\i<2^62/\-2^62<=j/\j<2^62 then .ok (rng i (j-i).toNat)else .bad|_,_=>.bad
noncomputable def eA:Nat->List W->List W|_,[]=>[]|k,x::xs=>.tup [.int k,x]::eA (k+1) xs
def vq(e:EF):LF:=λσ=>(e σ).bind λx=>match x with|.tup xs=>.ok (eA 0 xs)|.lst xs=>.ok (eA 0 xs)|_=>.bad
noncomputable def aF(i:Nat):GF:=λw σ=>.ok (σ.set i (.va w))
abbrev GsF:=List W->Ws->Res Ws
noncomputable def qO:GsF:=λws σ=>match ws with|[]=>.ok σ|_=>.bad
noncomputable def cP(g:GF)(a:GsF):GsF:=λws σ=>match ws with|w::r=>(match g w σ with|.ok σ'=>(match a r σ' with|.ok σ2=>.ok σ2|_=>.bad)|_=>.bad)|[]=>.bad
noncomputable def rB(a:GsF):GF:=λw σ=>match w with|.tup ws=>a ws σ|_=>.bad
def aeD(i:Nat)(e:EF):GF:=λw σ=>match σ[i]? with
|some (.ow ws)=>match e σ with|.ok (.int k)=>(match ixN ws.length k with|some j=>.ok (σ.set i (.ow (ws.set j w)))|none=>.bad)|_=>.bad
|_=>.bad
noncomputable def bF(g:GF)(t:TF)(e:EF)(σ:Ws):List W->Res (List W)|[]=>.ok []|x::xs=>(g x σ).bind λa=>(t a).bind λb=>match b with|true=>(e a).bind λy=>(bF g t e σ xs).bind λc=>.ok (y::c)|false=>bF g t e σ xs
noncomputable def g9:TF:=λ_=>.ok true
def vl(k:Nat)(it:LF)(g:GF)(t:TF)(e:EF):LF:=λσ=>(it σ).bind λa=>if a.length<=lim then match bF g t e (List.replicate k .no++σ) a with|.ok ys=>.ok ys|_=>.bad else .bad
def hE(k:Nat)(it:LF)(g:GF)(t:TF)(e:EF):EF:=λσ=>(vl k it g t e σ).bind λa=>.ok (.lst a)
noncomputable def frz(i:Nat)(σ:Ws):Ws:=match σ[i]? with|some (.ow ws)=>σ.set i (.va (.lst ws))|some (.od ks vs)=>σ.set i (.va (.dic ks vs))|_=>σ
mutual def plain:W->Bool|.tup xs=>jW xs|.lst _=>false|.dic _ _=>false|.exc _ _=>false|.ins _ _=>false|.id _=>false|_=>true def jW:List W->Bool|[]=>true|x::xs=>plain x&&jW xs end
def ahI(i:Nat)(e:EF):EF:=λσ=>match e (frz i σ)with|.ok w=>if plain w then .ok w else .bad|_=>.bad
def ah2(i:Nat)(t:TF):TF:=λσ=>match t (frz i σ)with|.ok b=>.ok b|_=>.bad
noncomputable def sNx:SF:=λσ=>.nx σ
noncomputable def aL(a b:SF):SF:=λσ=>match a σ with|.nx σ'=>b σ'|o=>o
noncomputable def ofR{b}(σ:Ws)(r:Res b)(f:b->Out):Out:=match r with|.ok a=>f a|.ex c=>.ex c σ|.bad=>.bad
def fN(i:Nat)(e:EF):SF:=λσ=>ofR σ (e σ) λw=>.nx (σ.set i (.va w))
def sv(i:Nat)(l:LF):SF:=λσ=>ofR σ (l σ) λws=>.nx (σ.set i (.ow ws))
def aib(a:AF):LF:=λσ=>(a σ).bind λb=>if b.length<=lim then .ok b else .bad
def ah3(e:EF)(g:GF):SF:=λσ=>ofR σ (e σ) λw=>ofR σ (g w σ) λa=>.nx a
def sIf(t:TF)(a b:SF):SF:=λσ=>ofR σ (t σ) λx=>match x with|true=>a σ|false=>b σ
def cx(e:EF):SF:=λσ=>ofR σ (e σ) λw=>.rt w
def ai7(i:Nat)(e:EF):SF:=λσ=>match σ[i]? with|some (.ow ws)=>ofR σ (e σ) λw=>if ws.length<lim then .nx (σ.set i (.ow (ws++[w])))else .bad|_=>.bad
def zR(i:Nat)(t:SF):SF:=λσ=>t (frz i σ)
noncomputable def forL(g:GF)(b:SF):List W->Ws->Out|[],σ=>.nx σ|x::xs,σ=>ofR σ (g x σ) λa=>match b a with|.nx σ2=>forL g b xs σ2|.ct σ2=>forL g b xs σ2|.bk σ2=>.nx σ2|o=>o
def wO(it:LF)(g:GF)(b:SF):SF:=λσ=>ofR σ (it σ) λa=>forL g b a σ
noncomputable def i2(c:TF)(b:SF):Nat->Ws->Out|0,_=>.bad|n+1,σ=>ofR σ (c σ) λx=>match x with
 |true=>match b σ with|.nx σ2=>i2 c b n σ2|.ct σ2=>i2 c b n σ2|.bk σ2=>.nx σ2|o=>o
 |false=>.nx σ
def pe(n:Ws->Nat)(c:TF)(b:SF):SF:=λσ=>i2 c b (n σ) σ
noncomputable def l0:List String:=["FloorError","NotEven","NoCall","NoName","NoProgram","TooMany","NoPairs","NoRow","Blind","Out","Meet","Broken"]
noncomputable def rz(nm d:String):Bool:=nm==d||d=="FloorError"
noncomputable def fieldsOf(nm:String):List Str:=if nm=="Blind"then["who"]else if nm=="Out"then["who"]else if nm=="Meet"then["one","other"]else if nm=="Broken"then["at","why"]else[]
def lr(d:String):W->Bool|.exc nm _=>rz nm d|_=>false
def wN(nm:String)(a:AF):SF:=λσ=>ofR σ (a σ) λws=>if ws.length<=100 then .ex (.exc nm []) σ else .bad
def kg(f:List W->Res W)(a:AF):EF:=λσ=>(a σ).bind f
def hOut(d:String)(h:SF)(c:W)(σ:Ws):Out:=if lr d c then match h σ with|.ex _ _=>.bad|o=>o else .bad
def nH(d:String)(i:Nat)(h:SF)(c:W)(σ:Ws):Out:=if lr d c then match h (σ.set i (.va c))with|.nx σ2=>.nx (σ2.set i .no)|.rt w=>.rt w|_=>.bad else .bad
def su(b:SF)(d:String)(i:Nat)(h:SF):SF:=λσ=>match b σ with|.ex c σ'=>nH d i h c σ'|o=>o
noncomputable def vx(c:String):List Str:=if c=="Book"then["calls"]else if c=="Search"then["goal","most","rows","seen"]else if c=="PairedFloor"then["floor","pairs","middles"]else[]
noncomputable def run(n:Nat)(t:SF)(ws:List W):Res W:=match t (ws.map .va++List.replicate (n-ws.length) .no)with|.rt w=>.ok w|.nx _=>.ok .non|.ex c _=>.ex c|_=>.bad
def rj:List W->Res W|[.exc nm _,.cls d]=>.ok (.bl (rz nm d))|[.exc _ _,.ty "ValueError"]=>.ok (.bl true)|_=>.bad
@[simp]def alO(nm d:String)(fs:List W):rj [.exc nm fs,.cls d]=.ok (.bl (rz nm d)):=rfl
@[simp]def an0(nm:String)(fs:List W):rj [.exc nm fs,.ty "ValueError"]=.ok (.bl true):=rfl
noncomputable def oM:W->Bool|.int i=>decide (i.natAbs.log2<100)|_=>false
def jl(nm:String)(a:AF):SF:=λσ=>ofR σ (a σ) λws=>if ws.length=(fieldsOf nm).length/\ws.all oM=true then .ex (.exc nm ws) σ else .bad
def kQ(nm:String)(a:AF)(σ:Ws):jl nm a σ=ofR σ (a σ) λws=>if ws.length=(fieldsOf nm).length/\ws.all oM=true then .ex (.exc nm ws) σ else .bad:=(rfl)
def anE(f:Str):W->Res W
|.exc nm fs=>match((fieldsOf nm).zip fs).lookup f with|some w=>.ok w|none=>.bad
|_=>.bad
def alI(a:EF)(f:Str):EF:=λσ=>(a σ).bind (anE f)
noncomputable def rA(σ:Ws):Ws:=σ.map λs=>match s with|.ow _=>.no|.od _ _=>.no|s=>s
def abM(k:Nat)(it:LF)(g:GF)(t:TF)(e:EF):LF:=λσ=>(it σ).bind λa=>if a.length<=lim then bF g t e (List.replicate k .no++rA σ) a else .bad
def nQ(k:Nat)(it:LF)(g:GF)(t:TF)(e:EF):EF:=λσ=>(abM k it g t e σ).bind λa=>.ok (.lst a)
def il(k:Nat)(it:LF)(g:GF)(t:TF)(e:EF)(σ:Ws):abM k it g t e σ=(it σ).bind λa=>if a.length<=lim then bF g t e (List.replicate k .no++rA σ) a else .bad:=(rfl)
def ix(k:Nat)(it:LF)(g:GF)(t:TF)(e:EF)(σ:Ws):nQ k it g t e σ=(abM k it g t e σ).bind λa=>.ok (.lst a):=(rfl)
noncomputable def uk:List W->List W->List W|x::xs,y::ys=>.tup [x,y]::uk xs ys|_,_=>[]
def akn(a b:EF):LF:=λσ=>(a σ).bind λx=>(b σ).bind λy=>match x,y with|.lst xs,.lst ys=>if xs.length=ys.length then .ok (uk xs ys)else .bad|.tup xs,.tup ys=>if xs.length=ys.length then .ok (uk xs ys)else .bad|_,_=>.bad
def abZ(a b:EF)(σ:Ws):akn a b σ=(a σ).bind λx=>(b σ).bind λy=>match x,y with|.lst xs,.lst ys=>if xs.length=ys.length then .ok (uk xs ys)else .bad|.tup xs,.tup ys=>if xs.length=ys.length then .ok (uk xs ys)else .bad|_,_=>.bad:=(rfl)
def apt(e:EF)(st:Ws->Res (Option Int)):EF:=λσ=>(e σ).bind λx=>(st σ).bind λo=>match x,o with|.lst xs,some i=>if i=-1 then .ok (.lst xs.reverse)else .bad|_,_=>.bad
noncomputable def cnt(x:W):List W->Nat|[]=>0|y::ys=>cnt x ys+if eqv y x then 1 else 0
def pH:W->List W->Res W|.lst ys,[x]=>if okD 50 x&&jb 51 ys then .ok (.int (cnt x ys))else .bad|_,_=>.bad
def gQ:List W->Res W
|[x,.tup [.ty t,.ty u]]=>match isK x t,isK x u with|some b,some c=>.ok (.bl (b||c))|_,_=>.bad
|_=>.bad
def nZ(x:W)(t u:String):gQ [x,.tup [.ty t,.ty u]]=match isK x t,isK x u with|some b,some c=>.ok (.bl (b||c))|_,_=>.bad:=(rfl)
noncomputable def dd:List (List Int)->List (List Int):=List.foldl (λa k=>if k∈a then a else k::a) []
abbrev XF:=Ws->Res (W×Ws)
abbrev XA:=Ws->Res (List W×Ws)
abbrev FS:=List W->List W->Res (W×List W)
def xOp(r:W->W->Res W)(a b:XF):XF:=λσ=>(a σ).bind λp=>(b p.2).bind λq=>(r p.1 q.1).bind λw=>.ok (w,q.2)
noncomputable def aJ:XA:=λσ=>.ok ([],σ)
def ar(a:XF)(b:XA):XA:=λσ=>(a σ).bind λp=>(b p.2).bind λq=>.ok (p.1::q.1,q.2)
def zO(a:XA):XF:=λσ=>(a σ).bind λp=>if p.1.length<=lim then .ok (.tup p.1,p.2)else .bad
def aQ(f:FS)(i:Nat)(a:XA):XF:=λσ=>match σ[i]? with
|some (.ow _)=>(a σ).bind λp=>match p.2[i]? with
 |some (.ow st)=>match f st p.1 with|.ok q=>.ok (q.1,p.2.set i (.ow q.2))|_=>.bad
 |_=>.bad
|_=>.bad
noncomputable def ofX{b:Type}(r:Res b)(f:b->Out):Out:=match r with|.ok a=>f a|_=>.bad
def aW(i:Nat)(x:XF):SF:=λσ=>ofX (x σ) λp=>.nx (p.2.set i (.va p.1))
def iY(x:XF)(b a:SF):SF:=λσ=>ofX (x σ) λp=>match p.1 with|.bl true=>b p.2|.bl false=>a p.2|_=>.bad
def sA(x:XF)(g:GF)(b:SF):SF:=λσ=>ofX (x σ) λp=>match p.1 with|.int n=>if -2^62<=n/\n<2^62 then forL g b (rng 0 n.toNat) p.2 else .bad|_=>.bad
noncomputable def rtS(i:Nat)(w:W)(σ:Ws):Out:=match σ[i]? with|some (.ow st)=>.rt (.exc "" [w,.lst st])|_=>.bad
noncomputable def ahE:Out->Res (W×List W)|.rt (.exc nm [w,.lst st])=>if nm=""then .ok (w,st)else .bad|_=>.bad
def ac1(n:Nat)(t:SF):FS:=λst ws=>ahE (t (.ow st::(ws.map .va++List.replicate (n-1-ws.length) .no)))
def cF(r:W->W->Res W)(a b:XF)(σ:Ws):xOp r a b σ=(a σ).bind λp=>(b p.2).bind λq=>(r p.1 q.1).bind λw=>.ok (w,q.2):=(rfl)
def bb(σ:Ws):aJ σ=.ok ([],σ):=(rfl)
def aU(a:XF)(b:XA)(σ:Ws):ar a b σ=(a σ).bind λp=>(b p.2).bind λq=>.ok (p.1::q.1,q.2):=(rfl)
def hR(a:XA)(σ:Ws):zO a σ=(a σ).bind λp=>if p.1.length<=lim then .ok (.tup p.1,p.2)else .bad:=(rfl)
def aP(i:Nat)(x:XF)(σ:Ws):aW i x σ=ofX (x σ) λp=>.nx (p.2.set i (.va p.1)):=(rfl)
def aY{b:Type}(a:b)(f:b->Out):ofX (.ok a) f=f a:=(rfl)
def bh(x:XF)(b a:SF)(σ:Ws):iY x b a σ=ofX (x σ) λp=>match p.1 with|.bl true=>b p.2|.bl false=>a p.2|_=>.bad:=(rfl)
def qh(x:XF)(g:GF)(b:SF)(σ:Ws):sA x g b σ=ofX (x σ) λp=>match p.1 with|.int n=>if -2^62<=n/\n<2^62 then forL g b (rng 0 n.toNat) p.2 else .bad|_=>.bad:=(rfl)
def e7(n:Nat)(t:SF)(st ws:List W):ac1 n t st ws=ahE (t (.ow st::(ws.map .va++List.replicate (n-1-ws.length) .no))):=(rfl)
def eB(w:W)(st:List W):ahE (.rt (.exc "" [w,.lst st]))=.ok (w,st):=(rfl)
def yP(j:Nat)(e:EF):XF:=λσ=>(e (σ.set j .no)).bind λw=>.ok (w,σ)
def yT(j:Nat)(t:TF):XF:=λσ=>(t (σ.set j .no)).bind λb=>.ok (.bl b,σ)
noncomputable def rks:List W:=[.str "left",.str "at",.str "cells"]
def rdS(j:Nat)(σ:Ws):Option Sl->Res Ws|some (.ow st)=>.ok (σ.set j (.va (.dic rks st)))|_=>.bad
def yR(j:Nat)(e:EF):XF:=λσ=>(rdS j σ σ[j]?).bind λa=>(e a).bind λw=>if plain w=true then .ok (w,σ)else .bad
def yRT(j:Nat)(t:TF):XF:=λσ=>(rdS j σ σ[j]?).bind λa=>(t a).bind λb=>.ok (.bl b,σ)
def aix(a:XA):XF:=λσ=>(a σ).bind λp=>if p.1.length<=lim then .ok (.lst p.1,p.2)else .bad
def xBi(f:List W->Res W)(a:XA):XF:=λσ=>(a σ).bind λp=>(f p.1).bind λw=>.ok (w,p.2)
def ak2(a b:XF):XF:=λσ=>(a σ).bind λp=>match p.1 with|.bl true=>b p.2|.bl false=>.ok (.bl false,p.2)|_=>.bad
noncomputable def ac0:XF:=λσ=>.ok (.bl true,σ)
noncomputable def iz(c x:XF):Ws->List W->Res (List W×Ws)|σ,[]=>.ok ([],σ)|σ,w::ws=>(c (σ.set 0 (.va w))).bind λp=>match p.1 with|.bl true=>(x p.2).bind λp=>(iz c x p.2 ws).bind λq=>.ok (p.1::q.1,q.2)|.bl false=>iz c x p.2 ws|_=>.bad
def uq(n c x:XF):XF:=λσ=>(n σ).bind λp=>match p.1 with|.int k=>if -2^62<=k/\k<2^62/\k.toNat<=lim then(iz c x (.no::p.2) (rng 0 k.toNat)).bind λq=>.ok (.lst q.1,q.2.drop 1)else .bad|_=>.bad
def yH(j i:Nat)(l:LF):SF:=λσ=>ofX (l (σ.set j .no)) λws=>.nx (σ.set i (.ow ws))
def an5(i:Nat)(w:W)(σ:Ws):Option Sl->Out|some (.ow ws)=>if ws.length<lim then .nx (σ.set i (.ow (ws++[w])))else .bad|_=>.bad
def agT(i:Nat)(x:XF):SF:=λσ=>match σ[i]? with|some (.ow _)=>ofX (x σ) λp=>an5 i p.1 p.2 p.2[i]?|_=>.bad
noncomputable def amF(j n:Nat)(w:W)(σ:Ws):Option Sl->Out|some (.ow st)=>.nx (σ.set j (.ow (st.set n w)))|_=>.bad
def sy(j n:Nat)(x:XF):SF:=λσ=>ofX (x σ) λp=>amF j n p.1 p.2 p.2[j]?
def eJ(j:Nat)(x:XF):SF:=λσ=>ofX (x σ) λp=>rtS j p.1 p.2
noncomputable def blk(j:Nat)(t:TF):TF:=λσ=>t (σ.set j .no)
noncomputable def gG:List W->Bool|[]=>true|.int _::r=>gG r|_=>false
noncomputable def rtE(nm:String)(w:W):Out:=if nm=""then .rt w else .bad
def akG:Out->Out|.rt (.exc nm [w,.lst _])=>rtE nm w|_=>.bad
def agb:List W->Bool|[.lst xs]=>gG xs|_=>false
def af7:Res W->Option (List W)|.ok (.dic [.str a,.str b,.str c] [.int l,.int k,.lst cs])=>if a="left"/\b="at"/\c="cells"/\gG cs=true then some [.int l,.int k,.lst cs]else none|_=>none
def adJ(j:Nat)(s:SF)(σ:Ws):Option (List W)->Out|some st=>akG (s (σ.set j (.ow st)))|none=>.bad
def agR(j:Nat)(f:List W->Res W)(a:AF)(s:SF):SF:=λσ=>ofX (a σ) λws=>if agb ws=true then adJ j s σ (af7 (f ws))else .bad
def bL(j:Nat)(e:EF)(σ:Ws):yP j e σ=(e (σ.set j .no)).bind λw=>.ok (w,σ):=(rfl)
def fg(j:Nat)(t:TF)(σ:Ws):yT j t σ=(t (σ.set j .no)).bind λb=>.ok (.bl b,σ):=(rfl)
def ph(j:Nat)(σ:Ws)(st:List W):rdS j σ (some (.ow st))=.ok (σ.set j (.va (.dic rks st))):=(rfl)
def ya(j:Nat)(e:EF)(σ:Ws):yR j e σ=(rdS j σ σ[j]?).bind λa=>(e a).bind λw=>if plain w=true then .ok (w,σ)else .bad:=(rfl)
def oA(j:Nat)(t:TF)(σ:Ws):yRT j t σ=(rdS j σ σ[j]?).bind λa=>(t a).bind λb=>.ok (.bl b,σ):=(rfl)
def aaa(a:XA)(σ:Ws):aix a σ=(a σ).bind λp=>if p.1.length<=lim then .ok (.lst p.1,p.2)else .bad:=(rfl)
def aab(f:List W->Res W)(a:XA)(σ:Ws):xBi f a σ=(a σ).bind λp=>(f p.1).bind λw=>.ok (w,p.2):=(rfl)
def ur(a b:XF)(σ:Ws):ak2 a b σ=(a σ).bind λp=>match p.1 with|.bl true=>b p.2|.bl false=>.ok (.bl false,p.2)|_=>.bad:=(rfl)
def z9(σ:Ws):ac0 σ=.ok (.bl true,σ):=(rfl)
def lp(c x:XF)(σ:Ws)(w:W)(ws:List W):iz c x σ (w::ws)=(c (σ.set 0 (.va w))).bind λp=>match p.1 with|.bl true=>(x p.2).bind λp=>(iz c x p.2 ws).bind λq=>.ok (p.1::q.1,q.2)|.bl false=>iz c x p.2 ws|_=>.bad:=(rfl)
def pS(n c x:XF)(σ:Ws):uq n c x σ=(n σ).bind λp=>match p.1 with|.int k=>if -2^62<=k/\k<2^62/\k.toNat<=lim then(iz c x (.no::p.2) (rng 0 k.toNat)).bind λq=>.ok (.lst q.1,q.2.drop 1)else .bad|_=>.bad:=(rfl)
def wM(j i:Nat)(l:LF)(σ:Ws):yH j i l σ=ofX (l (σ.set j .no)) λws=>.nx (σ.set i (.ow ws)):=(rfl)
def ah0(i:Nat)(w:W)(σ:Ws)(ws:List W):an5 i w σ (some (.ow ws))=if ws.length<lim then .nx (σ.set i (.ow (ws++[w])))else .bad:=(rfl)
def adH(i:Nat)(x:XF)(σ:Ws):agT i x σ=match σ[i]? with|some (.ow _)=>ofX (x σ) λp=>an5 i p.1 p.2 p.2[i]?|_=>.bad:=(rfl)
def uN(j n:Nat)(w:W)(σ:Ws)(st:List W):amF j n w σ (some (.ow st))=.nx (σ.set j (.ow (st.set n w))):=(rfl)
def qg(j n:Nat)(x:XF)(σ:Ws):sy j n x σ=ofX (x σ) λp=>amF j n p.1 p.2 p.2[j]?:=(rfl)
def cC(j:Nat)(x:XF)(σ:Ws):eJ j x σ=ofX (x σ) λp=>rtS j p.1 p.2:=(rfl)
def adG(j:Nat)(f:List W->Res W)(a:AF)(s:SF)(σ:Ws):agR j f a s σ=ofX (a σ) λws=>if agb ws=true then adJ j s σ (af7 (f ws))else .bad:=(rfl)
def akP(j:Nat)(t:TF)(σ:Ws):blk j t σ=t (σ.set j .no):=(rfl)
def sx(i:Nat)(n c x:XF):SF:=λσ=>ofX (uq n c x σ) λp=>.nx (p.2.set i (.va p.1))
def aaU(i:Nat)(n c x:XF)(σ:Ws):sx i n c x σ=ofX (uq n c x σ) λp=>.nx (p.2.set i (.va p.1)):=(rfl)
end WL
namespace SF
open PySem PySem.Builtin PySem.Builtin.Str PySem.StrLaws
noncomputable def aet(a:List Nat):List Str->List Nat|[]=>[]|[x]=>x.cps.toList|x::y::r=>x.cps.toList++(a++aet a (y::r))
theorem la(b:Str):∀(r:List Str)(a:Array Nat),(r.foldl (λa p=>a++b.cps++p.cps) a).toList=a.toList++match r with|[]=>[]|_=>b.cps.toList++aet b.cps.toList r
|[],a=>by simp|[x],a=>by simp[aet]|x::y::r,a=>by have:=la b (y::r) (a++b.cps++x.cps);rw[List.foldl_cons,this];simp[aet]
end SF
namespace WL
open PySem
def apr:W->W->Res W|.lst xs,.int k=>if -1000000<=k/\k<=1000000/\xs.length*k.toNat<=lim then .ok (.lst (List.replicate k.toNat xs).flatten)else .bad|.tup xs,.int k=>if xs≠[]/\k≠1/\-1000000<=k/\k<=1000000/\xs.length*k.toNat<=lim then .ok (.tup (List.replicate k.toNat xs).flatten)else .bad|_,_=>.bad
noncomputable def adK(lo st:Int)(n:Nat):List W:=(List.range n).map λi=>.int (lo+(i:Nat)*st)
def ab0(a b:EF):LF:=λσ=>(a σ).bind λx=>(b σ).bind λy=>match x,y with|.int i,.int j=>if -2^60<=i/\i<2^60/\-2^60<=j/\j<2^60 then .ok (adK i 2 ((j-i+1)/2).toNat)else .bad|_,_=>.bad
noncomputable def aoI:W->Res W|.int i=>if i.natAbs<1000 then .ok (.int i)else .bad|.str x=>if x.length<=1000 then .ok (.str x)else .bad|_=>.bad
noncomputable def shL:List W->Option Nat|[]=>some 3|.str x::r=>(shL r).map (.+(10*x.length+4))|.int i::r=>if i.natAbs<1000 then(shL r).map (.+12)else none|_=>none
def shC(ws:List W):Bool:=jb 51 ws&&match shL ws with|some n=>decide (n<=80000)|none=>false
def aic:W->Res W|.str x=>if x.length<=5000/\(x.cps.toList.all λc=>Nat.ble c 1114111)=true then .ok (.str x)else .bad|.lst ws=>if shC ws=true then .ok (.lst ws)else .bad|.int i=>if i.natAbs<1000 then .ok (.int i)else .bad|.non=>.ok .non|.tup ws=>if shC ws=true then .ok (.tup ws)else .bad|.bl b=>.ok (.bl b)|_=>.bad
def eFf(e:EF):EF:=λσ=>(e σ).bind aoI
def eFr(e:EF):EF:=λσ=>(e σ).bind aic
def uK(nm:String)(a:AF):SF:=λσ=>ofR σ (a σ) λ_=>.ex (.exc nm []) σ
noncomputable def amM:W->Res W|.str y=>if y.length<=100000 then .ok (.str y)else .bad|_=>.bad
def ePt(e:EF):EF:=λσ=>(e σ).bind amM
noncomputable def abO:W->Bool|.str _=>true|.int _=>true|.non=>true|_=>false
noncomputable def nD:W->W->Bool|.str x,.str y=>x==y|.int i,.int j=>i==j|.non,.non=>true|_,_=>false
def ahO(k:W)(ks:List W):Bool:=ks.any λx=>nD x k
noncomputable def tN(k v:W):List W->List W->List W|k'::ks,v'::vs=>(if nD k' k then v else v')::tN k v ks vs|_,_=>[]
noncomputable def aaV(i:Nat):SF:=λσ=>.nx (σ.set i (.od [] []))
def putK(ks:List W)(k:W):List W:=if ahO k ks then ks else ks++[k]
def ajg(ks us:List W)(k v:W):List W:=if ahO k ks then tN k v ks us else us++[v]
def putD(i:Nat)(ks us:List W)(k v:W)(σ:Ws):Out:=if abO k=true/\ks.length<lim then .nx (σ.set i (.od (putK ks k) (ajg ks us k v)))else .bad
def ape(x y:W):Res W:=match x,y with|.str a,.str b=>.ok (.bl !(Builtin.Str.occurrences b a 0 b.length 1).isEmpty)|_,.str _=>.bad|x,y=>oIn x y
end WL
namespace WL
end WL
namespace WL
open PySem
def aps(x y:W):Res W:=match y with|.dic ks _=>if abO x=true then .ok (.bl (ahO x ks))else .bad|_=>ape x y
def aoW:List W->Res W|[.dic ks _]=>if ks.length<=lim then .ok (.lst ks)else .bad|ws=>anZ ws
noncomputable def q0(k:W):List W->List W->Option W|k'::ks,v::vs=>if nD k' k then some v else q0 k ks vs|_,_=>none
def zS(x y:W):Res W:=match x with|.dic ks us=>if abO y=true then ofO (q0 y ks us)else .bad|_=>oIx x y
end WL
namespace WL
open PySem PyProof.Rows PySem.Spec
end WL
namespace WL
open PySem
noncomputable def inner:List W->Option (List W)
|.tup ts::_=>match ts.getLast? with|some (.lst us)=>some us|_=>none
|_=>none
abbrev Fs:=List (W×List W)
inductive KO where|nx(σ:Ws)(fs:Fs)|rt(w:W)|bad
abbrev KF:=Ws->Fs->KO
end WL
namespace WL
end WL
namespace WL
open PySem
inductive OX(S:Type)where|nx(σ:Ws)(s:S)|bk(σ:Ws)(s:S)|ct(σ:Ws)(s:S)|rt(w:W)(s:S)|ex(c:W)(σ:Ws)|bad
abbrev RF(S:Type):=Ws->S->OX S
variable{S:Type}
noncomputable def seen(adr:S->Nat)(val:S->W)(j:Nat)(σ:Ws)(s:S):Option Ws:=match σ[j]? with|some (.va (.id b))=>if b=adr s then some (σ.set j (.va (val s)))else none|_=>none
structure Sr where
 a:Nat
 d:Nat
 goal:W
 most:W
 rows:List W
 seen:List (List (List Int))
def at_(j:Nat)(σ:Ws)(s:Sr)(o:OX Sr):OX Sr:=match(σ[j]?:Option Sl)with|some (.va (.id b))=>if b=s.a then o else .bad|_=>.bad
noncomputable def aid(c:String)(n:Nat):W->Res W|.ins c' ws=>if c'==c then match ws[n]? with|some w=>.ok w|none=>.bad else .bad|_=>.bad
def kf(c:String)(n:Nat)(e:EF):EF:=λσ=>(e σ).bind (aid c n)
noncomputable def isN(c:String):W->Bool|.ins c' _=>c'==c|_=>false
def ke(c:String)(b:List W->Res W)(o:EF)(a:AF):EF:=λσ=>(o σ).bind λy=>if isN c y=true then(a σ).bind λws=>b (y::ws)else .bad
def alf(i:Nat)(w:W)(σ:Ws):Option Sl->Res (W×Ws)
|some (.ow ys)=>match w with|.int n=>if 0<=n/\n<ys.length/\ys.length<=lim then match ys[n.toNat]? with|some y=>.ok (y,σ.set i (.ow (ys.eraseIdx n.toNat)))|none=>.bad else .bad|_=>.bad
|_=>.bad
def z7(i:Nat)(x:XF):XF:=λσ=>match(σ[i]?:Option Sl)with|some (.ow _)=>(x σ).bind λp=>alf i p.1 p.2 p.2[i]?|_=>.bad
def ag0(i:Nat)(v k:W)(σ:Ws):Option Sl->Out|some (.od ks us)=>putD i ks us k v σ|_=>.bad
def i8(i:Nat)(a xk:XF):SF:=λσ=>match(σ[i]?:Option Sl)with|some (.od _ _)=>ofX (a σ) λp=>ofX (xk p.2) λq=>ag0 i p.1 q.1 q.2 q.2[i]?|_=>.bad
def aoq(c:String)(g h:List W->Res W):List W->Res W
|[w]=>(g [w]).bind λp=>match h [w,p]with|.ok m=>.ok (.ins c [w,p,m])|_=>.bad
|_=>.bad
def nP(c:String)(f:List W->Res W)(a:AF):EF:=λσ=>(a σ).bind λws=>(f ws).bind λy=>if isN c y=true then .ok y else .bad
end WL
namespace WL
def ala(i:Nat)(e:EF):SF:=λσ=>match σ[i]? with
|some (.ow ws)=>ofR σ (e σ) λw=>match w with|.lst zs=>if ws.length+zs.length<=lim then .nx (σ.set i (.ow (ws++zs)))else .bad|_=>.bad
|_=>.bad
end WL
namespace WL
open PySem.W(KasT kas_sort)
noncomputable def prs:List W->Option (List (Int×Int))|[]=>some []|.tup [.int a,.int b]::ws=>(prs ws).map ((a,b)::.)|_=>none
noncomputable def ltP(p q:Int×Int):Bool:=if p.1==q.1 then decide (p.2<q.2)else decide (p.1<q.1)
noncomputable def okT(n:Nat):KasT (Array Nat)->Bool|.ret p=>p.size==n|.ask i j k=>decide (i<n)&&decide (j<n)&&okT n (k true)&&okT n (k false)
noncomputable def ah4(c:Nat->Nat->Bool):KasT (Array Nat)->Array Nat|.ret p=>p|.ask i j k=>ah4 c (k (c i j))
def ixs(ps:List (Int×Int)):List Nat:=(ah4 (λi j=>ltP (ps.getD i (0,0)) (ps.getD j (0,0))) (kas_sort ps.length)).toList
def lO:List W->Res W
|[.lst ws]=>match prs ws with|some ps=>if(decide (2<=ps.length)&&decide (ps.length<64)&&okT ps.length (kas_sort ps.length))=true then .ok (.lst ((ixs ps).map λi=>ws.getD i .non))else .bad|none=>.bad
|_=>.bad
end WL
namespace WL
def lLR(e:EF):LF:=λσ=>(e σ).bind λx=>match x with|.int j=>if 0<=j/\j<=1000 then .ok (rng 0 j.toNat)else .bad|_=>.bad
noncomputable def oP:List Nat->List W->Ws->Ws|i::is,w::ws,σ=>oP is ws (σ.set i (.va w))|_,_,σ=>σ
def uJ(is:List Nat)(x:XF):SF:=λσ=>ofX (x σ) λp=>match p.1 with|.tup ws=>if ws.length=is.length then .nx (oP is ws p.2)else .bad|_=>.bad
end WL
namespace L2
open PySem PySem.Spec PyProof.Rows
def aC.rd{H H'}(e:aC H H'){a u}(q:Rd H a u):Rd H' a u:=q.imp (e _ _) λ⟨o,z⟩=>⟨o,e _ _ z⟩
end L2
namespace WS
open PySem PySem.Spec PyProof.Rows L2
open WL(Res Sl Ws EF TF AF LF GF GsF SF Out XF XA FS Fs KO KF OX RF Sr)
abbrev VW:=WL.W
def ExcAt(K:W.Frag)(nm:String)(C:Addr):Prop:=nm∈WL.l0/\W.nsIn K mainGlobals (Str.ofString nm)=some (some (.ref C))
mutual def RW(K:W.Frag)(H:Hp):VW->V->Prop|.non,v=>v=.non|.bl b,v=>v=.bl b|.int i,v=>v=.int i|.str x,v=>v=.str x|.ty n,v=>v=.ty n|.tup ws,v=>∃a vs,v=.ref a/\SqT K H a vs/\RWs K H ws vs|.lst ws,v=>∃a vs,v=.ref a/\SqL K H a vs/\RWs K H ws vs|.dic ks vs,v=>∃a kvs,v=.ref a/\Rd H a (.dK kvs)/\RWs K H ks (kvs.map λp=>kV p.1)/\RWs K H vs (kvs.map λp=>p.2)|.cls d,v=>∃a,v=.ref a/\ExcAt K d a|.exc nm fs,v=>∃a C dx,v=.ref a/\H a=some (.ext (excAt a C dx))/\ExcAt K nm C/\∃fvs:List (Str×V),fvs.map (·.1)=WL.fieldsOf nm/\RWs K H fs (fvs.map (·.2))/\(fvs=[]/\dx=none\/∃d,dx=some d/\H d=some (.xd fvs))|.ins c fs,v=>∃a C dx,∃fvs:List (Str×V),v=.ref a/\H a=some (.ins C dx fvs)/\W.nsIn K mainGlobals (Str.ofString c)=some (some (.ref C))/\fvs.map (·.1)=WL.vx c/\fvs≠[]/\RWs K H fs (fvs.map (·.2))|.id a,v=>v=.ref a def RWs(K:W.Frag)(H:Hp):List VW->List V->Prop|[],vs=>vs=[]|w::ws,vs=>∃v r,vs=v::r/\RW K H w v/\RWs K H ws r end
section
variable{K:W.Frag}{H H':Hp}
mutual theorem RW.via(ht:∀a xs,SqT K H a xs->SqT K H' a xs)(hl:∀a xs,SqL K H a xs->SqL K H' a xs)(hd:∀a kvs,Rd H a (.dK kvs)->Rd H' a (.dK kvs))(he:∀a φ,H a=some (.ext φ)->H' a=some (.ext φ))(hx:∀a fs,H a=some (.xd fs)->H' a=some (.xd fs))(hi:∀a C dx fs,fs≠[]->H a=some (.ins C dx fs)->H' a=some (.ins C dx fs)):∀(w:VW)(v:V),RW K H w v->RW K H' w v|.non,_,h=>by simpa only[RW]using h|.bl _,_,h=>by simpa only[RW]using h|.int _,_,h=>by simpa only[RW]using h|.str _,_,h=>by simpa only[RW]using h|.ty _,_,h=>by simpa only[RW]using h|.tup ws,_,h=>by obtain⟨a,vs,e,q,r⟩:=h;exact⟨a,vs,e,ht a vs q,RWs.via ht hl hd he hx hi ws vs r⟩|.lst ws,_,h=>by simp only[RW]at h⊢;obtain⟨a,vs,e,q,r⟩:=h;exact⟨a,vs,e,hl a vs q,RWs.via ht hl hd he hx hi ws vs r⟩|.dic ks vs,_,h=>by simp only[RW]at h⊢;obtain⟨a,kvs,e,q,r1,r2⟩:=h;exact⟨a,kvs,e,hd a kvs q,RWs.via ht hl hd he hx hi ks _ r1,RWs.via ht hl hd he hx hi vs _ r2⟩|.cls _,_,h=>by simpa only[RW]using h|.id _,_,h=>by simpa only[RW]using h|.exc nm fs,_,h=>by simp only[RW]at h⊢;obtain⟨a,C,dx,e,q,c,fvs,f1,f2,f3⟩:=h;exact⟨a,C,dx,e,he _ _ q,c,fvs,f1,RWs.via ht hl hd he hx hi fs _ f2,f3.imp (λz=>z) λ⟨d,z1,z2⟩=>⟨d,z1,hx _ _ z2⟩⟩|.ins c fs,_,h=>by simp only[RW]at h⊢;obtain⟨a,C,dx,fvs,e,q,c1,c2,c3,r⟩:=h;exact⟨a,C,dx,fvs,e,hi _ _ _ _ c3 q,c1,c2,c3,RWs.via ht hl hd he hx hi fs _ r⟩theorem RWs.via(ht:∀a xs,SqT K H a xs->SqT K H' a xs)(hl:∀a xs,SqL K H a xs->SqL K H' a xs)(hd:∀a kvs,Rd H a (.dK kvs)->Rd H' a (.dK kvs))(he:∀a φ,H a=some (.ext φ)->H' a=some (.ext φ))(hx:∀a fs,H a=some (.xd fs)->H' a=some (.xd fs))(hi:∀a C dx fs,fs≠[]->H a=some (.ins C dx fs)->H' a=some (.ins C dx fs)):∀(ws:List VW)(vs:List V),RWs K H ws vs->RWs K H' ws vs|[],_,h=>by simpa only[RWs]using h|w::ws,_,h=>by simp only[RWs]at h⊢;obtain⟨v,r,e,q,t⟩:=h;exact⟨v,r,e,RW.via ht hl hd he hx hi w v q,RWs.via ht hl hd he hx hi ws r t⟩end
def RW.keep(e:aC H H'){w v}(h:RW K H w v):RW K H' w v:=RW.via (λ_ _ q=>e.tup q) (λ_ _ q=>e.seq q) (λ_ _ q=>e.rd q) (λ_ _ q=>e _ _ q) (λ_ _ q=>e _ _ q) (λ_ _ _ _ _ q=>e _ _ q) w v h
def RWs.keep(e:aC H H'){ws vs}(h:RWs K H ws vs):RWs K H' ws vs:=RWs.via (λ_ _ q=>e.tup q) (λ_ _ q=>e.seq q) (λ_ _ q=>e.rd q) (λ_ _ q=>e _ _ q) (λ_ _ q=>e _ _ q) (λ_ _ _ _ _ q=>e _ _ q) _ _ h
mutual theorem RW.less(ht:∀a xs,SqT K H a xs->SqT K H' a xs):∀(w:VW)(v:V),WL.plain w=true->RW K H w v->RW K H' w v|.non,_,_,h=>by simpa only[RW]using h|.bl _,_,_,h=>by simpa only[RW]using h|.int _,_,_,h=>by simpa only[RW]using h|.str _,_,_,h=>by simpa only[RW]using h|.ty _,_,_,h=>by simpa only[RW]using h|.tup ws,_,p,h=>by obtain⟨a,vs,e,q,r⟩:=h;exact⟨a,vs,e,ht a vs q,RWs.less ht ws vs (by assumption) r⟩|.lst ws,_,p,_=>by cases p|.dic _ _,_,p,_=>by cases p|.cls _,_,_,h=>by simpa only[RW]using h|.id _,_,_,h=>by simpa only[RW]using h|.exc _ _,_,p,_=>by cases p|.ins _ _,_,p,_=>by cases p theorem RWs.less(ht:∀a xs,SqT K H a xs->SqT K H' a xs):∀(ws:List VW)(vs:List V),WL.jW ws=true->RWs K H ws vs->RWs K H' ws vs|[],_,_,h=>by simpa only[RWs]using h|w::ws,_,p,h=>by simp only[RWs]at h⊢;have p:=aqv.mp p;obtain⟨v,r,e,q,t⟩:=h;exact⟨v,r,e,RW.less ht w v p.1 q,RWs.less ht ws r p.2 t⟩end
theorem RWs.length:∀{ws vs},RWs K H ws vs->ws.length=vs.length|[],_,h=>by subst h;rfl|w::ws,_,h=>by obtain⟨v,r,rfl,_,t⟩:=h;simp [RWs.length t]
theorem RWs.get:∀{ws:List VW}{vs:List V}{i:Nat}{w:VW},RWs K H ws vs->ws[i]?=some w->∃v,vs[i]?=some v/\RW K H w v|[],_,_,_,_,e=>by simp at e|x::ws,_,0,w,h,e=>by simp only[RWs]at h;obtain⟨v,r,rfl,q,_⟩:=h;simp at e;subst e;exact⟨v,rfl,q⟩|x::ws,_,i+1,w,h,e=>by simp only[RWs]at h;obtain⟨v,r,rfl,_,t⟩:=h;obtain⟨u,a,b⟩:=RWs.get t (by simpa using e);exact⟨u,by simpa using a,b⟩
def RWs.get':∀{ws:List VW}{vs:List V}{i:Nat}{v:V},RWs K H ws vs->vs[i]?=some v->∃w,ws[i]?=some w/\RW K H w v:=λ{ws vs i v}h e=>by have f:=h.length;have d:i<vs.length:=(apC.mp e).1;obtain⟨c,a,b⟩:=RWs.get (w:=ws[i]) h (apy (by omega));rw[e]at a;cases a;exact⟨_,apy (by omega),b⟩
theorem RWs.app:∀{ws a vs b},RWs K H ws vs->RWs K H a b->RWs K H (ws++a) (vs++b)|[],_,_,_,h,h'=>by subst h;exact h'|w::ws,_,_,_,h,h'=>by obtain⟨v,r,rfl,q,t⟩:=h;exact⟨v,_,rfl,q,RWs.app t h'⟩
def RWs.one{w v}(h:RW K H w v):RWs K H [w] [v]:=by exact⟨v,[],rfl,h,rfl⟩
def RWs.cons{w v ws vs}(h:RW K H w v)(t:RWs K H ws vs):RWs K H (w::ws) (v::vs):=by exact⟨v,vs,rfl,h,t⟩
theorem RWs.drop:∀{ws vs}n,RWs K H ws vs->RWs K H (ws.drop n) (vs.drop n)|_,_,0,h=>by grind|[],_,n+1,h=>by subst h;simp[RWs]|w::ws,_,n+1,h=>by obtain⟨v,r,rfl,_,t⟩:=h;simpa using RWs.drop n t
theorem RWs.take:∀{ws vs}n,RWs K H ws vs->RWs K H (ws.take n) (vs.take n)|_,_,0,h=>rfl|[],_,n+1,h=>by subst h;simp[RWs]|w::ws,_,n+1,h=>by obtain⟨v,r,rfl,q,t⟩:=h;exact⟨v,_,rfl,q,RWs.take n t⟩
theorem RWs.set{w:VW}{v:V}(hw:RW K H w v):∀{ws:List VW}{vs:List V}(n:Nat),RWs K H ws vs->RWs K H (ws.set n w) (vs.set n v)|[],_,n,h=>by simp only[RWs]at h;subst h;simp[RWs]|x::ws,_,0,h=>by simp only[RWs]at h;obtain⟨u,r,rfl,q,t⟩:=h;simp only[aqA,RWs];exact⟨v,r,rfl,hw,t⟩|x::ws,_,n+1,h=>by simp only[RWs]at h;obtain⟨u,r,rfl,q,t⟩:=h;simp only[aqK,RWs];exact⟨u,_,rfl,q,RWs.set hw n t⟩
theorem RWs.cut{ws vs}(h:RWs K H ws vs)(lo a):RWs K H (WL.cut ws lo a) (aif vs lo a):=by unfold WL.cut aif;rw[<-h.length];exact(h.drop _).take _
def RWs.ints(ns:List Int):RWs K H (ns.map .int) (ns.map V.int):=by induction ns with|nil=>simp[RWs]|cons n ns ih=>exact⟨_,_,rfl,rfl,ih⟩
end
def NF:HO->Prop|.frz _ _=>False|.ins _ _ []=>False|_=>True
structure Bx where
 K:W.Frag
 H0:Hp
 F0:Hp
 xp:VW->Ws->Hp->Prop
 mono:∀c σ F F',aC F F'->xp c σ F->xp c σ F'
structure RB(B:Bx)(F H:Hp):Prop where
 sub:aC F H
 base:aC B.H0 H
 fz0:aC B.F0 F
 fr:∀a o,F a=some o->B.F0 a=some o\/B.H0 a=none/\NF o
def IsO:Sl->Prop|.od _ _=>True|.ob=>True|_=>False
structure OD(K:W.Frag)(H0:Hp)(σ:Ws)(σV:L2.St)(F H:Hp):Prop where
 od:∀(i:Nat)(ks us:List VW),σ[i]?=some (.od ks us)->∃a kvs,σV[i]?=some (some (.ref a))/\F a=none/\H0 a=none/\H a=some (.dK kvs)/\RWs K F ks (kvs.map λp=>kV p.1)/\RWs K F us (kvs.map λp=>p.2)ad:∀(i j:Nat)(ks us ks' us':List VW)(a:Addr),i≠j->σ[i]?=some (.od ks us)->σ[j]?=some (.od ks' us')->σV[i]?=some (some (.ref a))->σV[j]?=some (some (.ref a))->False
 ob:∀i:Nat,σ[i]?=some .ob->∃a C dx,σV[i]?=some (some (.ref a))/\F a=some (.ins C dx [])
def OD.via{K B A o σ g l k F F' H H'}(R:OD K A σ l F H)(E:B=K)(f:Nat->Nat)(Q:∀i j,f i=f j->i=j\/∀c d,g[i]?≠some (.od c d))(h:∀i u,IsO u->g[i]?=some u->σ[f i]?=some u/\k[i]?=l[f i]?)(s:aC F F')(n:∀i(c d:List VW)a b,g[i]?=some (.od c d)->l[f i]?=some (some (.ref a))->H a=some (.dK b)->F a=none->A a=none->F' a=none/\o a=none/\H' a=some (.dK b)):OD B o g k F' H':=by
 subst E;refine⟨λi c d e=>?_,λi j c d p m a x D U T Z=>?_,λi e=>?_⟩;.obtain⟨t,w⟩:=h i (.od c d) trivial e;refine akX (R.od (f i) c d t) λa b q y G O N J=>?_;refine age (n i c d a b e q O y G) λP Y I=>?_;exact aiw a b (w.trans q) P Y I (N.keep s) (J.keep s)
 .obtain⟨r,S⟩:=h i (.od c d) trivial D;obtain⟨v,X⟩:=h j (.od p m) trivial U;refine R.ad _ (f j) c d p m a (λz=>?_) r v (S.symm.trans T) (X.symm.trans Z);rcases Q i j z with z|z;.exact x z
  .exact z _ _ D
 .obtain⟨t,w⟩:=h i .ob trivial e;refine x9 (R.ob (f i) t) λa C M q y=>?_;exact⟨a,C,M,w.trans q,s _ _ y⟩
structure RS(B:Bx)(σ:Ws)(σV:L2.St)(F H:Hp):Prop where
 rb:RB B F H
 len:σ.length=σV.length
 va:∀(i:Nat)(w:VW),σ[i]?=some (.va w)->∃v,σV[i]?=some (some v)/\RW B.K F w v
 ow:∀(i:Nat)(ws:List VW),σ[i]?=some (.ow ws)->∃a vs,σV[i]?=some (some (.ref a))/\F a=none/\B.H0 a=none/\H a=some (.lst vs)/\RWs B.K F ws vs
 ap:∀(i j:Nat)(ws ws':List VW)(a:Addr),i≠j->σ[i]?=some (.ow ws)->σ[j]?=some (.ow ws')->σV[i]?=some (some (.ref a))->σV[j]?=some (some (.ref a))->False
 dd:OD B.K B.H0 σ σV F H
def RS.ahJ{B σ c F H F' H'}(R:RS B σ c F H)(s:aC F F')(n:∀a b,H a=some (.dK b)->F a=none->F' a=none/\H' a=some (.dK b)):OD B.K B.H0 σ c F' H':=R.dd.via rfl _ (λ_ _ z=>.inl z) (λ_ _ _ e=>⟨e,rfl⟩) s λ_ _ _ a b _ _ f d g=>⟨(n a _ f d).1,g,(n a _ f d).2⟩
def RS.aie{B σ c F H F' H'}(R:RS B σ c F H)(i){sl}(hs:¬IsO sl)(x)(s:aC F F')(n:∀j(f d:List VW)a b,i≠j->σ[j]?=some (.od f d)->c[j]?=some (some (.ref a))->H a=some (.dK b)->F a=none->F' a=none/\H' a=some (.dK b)):OD B.K B.H0 (σ.set i sl) (c.set i x) F' H':=by
 have h:∀{j:Nat}{s':Sl},IsO s'->(σ.set i sl)[j]?=some s'->i≠j:=λ{j s'}r e z=>by
  subst z;have t:i<σ.length:=by have:=(apC.mp e).1;simpa using this
  rw[apz t]at e;exact hs (apV e▸r)
 refine R.dd.via rfl id (λ_ _ z=>.inl z) (λj f d e=>?_) s λj f d a b e l p o k=>?_;.have:=h d e;rw[apv this]at e;exact⟨e,by rw[apv this];rfl⟩
 .have g:=h (s':=.od f d) trivial e;rw[apv g]at e;obtain⟨m,q⟩:=n j f d a b g e l p o;exact⟨m,k,q⟩
def set_same{a:L2.St}{i x}(e:a[i]?=some x):a.set i x=a:=by
 apply List.ext_getElem?;intro j;by_cases b:i=j;.subst b;rw[apz (apC.mp e).1,e]
 .rw[apv b]
structure Ext(F H F' H':Hp):Prop where
 same:aC F F'
 rs:∀B σ σV,RS B σ σV F H->RS B σ σV F' H'
 rb:∀B,RB B F H->RB B F' H'
 own:∀a o,H a=some o->H' a=some o/\(F a=none->F' a=none)
structure Gr(F H F' H':Hp):Prop where
 f:aC F F'
 h:aC H H'
 nf:∀a o,H a=some o->F a=none->F' a=none
theorem Gr.refl{F H}:Gr F H F H:=⟨aC.refl _,aC.refl _,λ_ _ _ z=>z⟩
theorem Gr.trans{F H d c f g}(a:Gr F H d c)(b:Gr d c f g):Gr F H f g:=⟨a.f.trans b.f,a.h.trans b.h,λx o e z=>b.nf x o (a.h x o e) (a.nf x o e z)⟩
def Ext.gr{F H F' H'}(e:Ext F H F' H'):Gr F H F' H':=⟨e.same,λa o q=>(e.own a o q).1,λa o q=>(e.own a o q).2⟩
section
variable{B:Bx}{σ:Ws}{σV:L2.St}{F H:Hp}
def Gr.new{p}(c:F p=none)(b:H p=none)(o):Gr F H (upd F p o) (upd H p o):=⟨aD c o,aD b o,λa u e z=>by rw[ak (bo e b)];exact z⟩
theorem Ext.refl(F H):Ext F H F H:=⟨aC.refl _,λ_ _ _ h=>h,λ_ h=>h,λ_ _ h=>⟨h,λz=>z⟩⟩
theorem Ext.trans{d c e f:Hp}(a:Ext F H d c)(b:Ext d c e f):Ext F H e f:=⟨a.same.trans b.same,λB σ σV h=>b.rs B σ σV (a.rs B σ σV h),λB h=>b.rb B (a.rb B h),λx o h=>⟨(b.own x o (a.own x o h).1).1,λz=>(b.own x o (a.own x o h).1).2 ((a.own x o h).2 z)⟩⟩
def RB.new(R:RB B F H){p}(d:H p=none)(o)(f:NF o:=by trivial):RB B (upd F p o) (upd H p o):=by
 refine⟨λb u e=>?_,λb u e=>?_,R.fz0.trans (aD (R.sub.free d) o),λa u e=>?_⟩
 .by_cases c:b=p;.subst c;rw[av]at e⊢;exact e
  .rw[ak c]at e⊢;exact R.sub b u e
 .exact aD d o b u (R.base b u e)
 .by_cases c:a=p;.subst c;rw[av]at e;cases e;exact .inr ⟨R.base.free d,f⟩
  .rw[ak c]at e;exact R.fr a u e
theorem RS.new(R:RS B σ σV F H){p}(b:H p=none)(o)(j:NF o:=by trivial):RS B σ σV (upd F p o) (upd H p o):=by
 have f:=R.rb.sub.free b;refine⟨R.rb.new b o j,R.len,λi w e=>?_,λi ws e=>?_,R.ap,R.ahJ (aD f o) λa m d l=>⟨by rw[ak (bo d b)];exact l,by rw[ak (bo d b)];exact d⟩⟩;.obtain⟨v,c,g⟩:=R.va i w e;exact⟨v,c,g.keep (aD f o)⟩
 .refine lP (R.ow i _ e) λa k c g r q n=>?_;have h:a≠p:=λz=>by grind
  exact afb a k c (by rw[ak h];exact g) r (by rw[ak h];exact q) (n.keep (aD f o))
theorem Ext.new{p}(f:F p=none)(d:H p=none)(o)(c:NF o:=by trivial):Ext F H (upd F p o) (upd H p o):=⟨aD f o,λ_ _ _ R=>R.new d o c,λ_ R=>R.new d o c,λa u e=>by
 have b:a≠p:=λz=>by grind
 exact⟨by rw[ak b];exact e,λz=>by rw[ak b];exact z⟩⟩
def RS.anf(R:RS B σ σV F H){p}(c:H p=none)(o):RS B σ σV F (upd H p o):=by refine⟨⟨λb u e=>aD c o b u (R.rb.sub b u e),λb u e=>aD c o b u (R.rb.base b u e),R.rb.fz0,R.rb.fr⟩,R.len,R.va,λi ws e=>?_,R.ap,R.ahJ (aC.refl _) λa j d h=>⟨h,by rw[ak (bo d c)];exact d⟩⟩;refine lP (R.ow i _ e) λa f g n m l k=>?_;exact⟨a,f,g,n,m,aD c o _ _ l,k⟩
def RS.grow(R:RS B σ σV F H){F' H'}(g:Gr F H F' H')(n:RB B F' H'):RS B σ σV F' H':=by
 refine⟨n,R.len,λi w e=>?_,λi ws e=>?_,R.ap,R.ahJ g.f λa k d j=>⟨g.nf a _ d j,g.h a _ d⟩⟩;.obtain⟨v,b,c⟩:=R.va i w e;exact⟨v,b,c.keep g.f⟩
 .refine lP (R.ow i _ e) λa h b c m f l=>?_;exact⟨a,h,b,g.nf a _ f c,m,g.h a _ f,l.keep g.f⟩
theorem RS.set(R:RS B σ σV F H){i:Nat}{w:VW}{v:V}(hw:RW B.K F w v):RS B (σ.set i (.va w)) (σV.set i (some v)) F H:=by
 have o:=R.len;refine⟨R.rb,by simp[o],λj u e=>?_,λj ws e=>?_,λj k ws g a h d f l m=>?_,R.aie i (sl:=.va w) (λz=>z) _ (aC.refl _) λ_ _ _ _ _ _ _ _ p n=>⟨n,p⟩⟩
 .by_cases c:i=j
  .subst c;have b:i<σ.length:=by have:=(apC.mp e).1;simpa using this
   rw[apz b]at e;cases e;exact⟨v,apz (by omega),hw⟩
  .rw[apv c]at e⊢;exact R.va j u e
 .by_cases c:i=j
  .subst c;have b:i<σ.length:=by have:=(apC.mp e).1;simpa using this
   rw[apz b]at e;cases e
  .rw[apv c]at e⊢;exact R.ow j ws e
 .have q:i≠j:=λz=>by
   subst z;have b:i<σ.length:=by have:=(apC.mp d).1;simpa using this
   rw[apz b]at d;cases d
  have r:i≠k:=λz=>by
   subst z;have b:i<σ.length:=by have:=(apC.mp f).1;simpa using this
   rw[apz b]at f;cases f
  rw[apv q]at d l;rw[apv r]at f m;exact R.ap j k ws g a h d f l m
def RS.ak7(R:RS B σ σV F H){i:Nat}{ws:List VW}{vs:List V}{a:Addr}(y:F a=none)(t:B.H0 a=none)(A:H a=some (.lst vs))(hw:RWs B.K F ws vs)(s:∀(j:Nat)(d:List VW),j≠i->σ[j]?=some (.ow d)->σV[j]?≠some (some (.ref a))):RS B (σ.set i (.ow ws)) (σV.set i (some (.ref a))) F H:=by
 have w:=R.len;have g:∀{j:Nat}{d:List VW},(σ.set i (.ow ws))[j]?=some (.ow d)->i=j->d=ws/\(σV.set i (some (V.ref a)))[j]?=some (some (.ref a)):=λ{j d}e z=>by
  subst z;have r:i<σ.length:=by have:=(apC.mp e).1;simpa using this
  rw[apz r]at e;cases e;exact⟨rfl,apz (by omega)⟩
 refine⟨R.rb,by simp[w],λj u e=>?_,λj d e=>?_,λj k d h b m p n q o=>?_,R.aie i (sl:=.ow ws) (λz=>z) _ (aC.refl _) λ_ _ _ _ _ _ _ _ x v=>⟨v,x⟩⟩
 .by_cases c:i=j
  .subst c;have r:i<σ.length:=by have:=(apC.mp e).1;simpa using this
   rw[apz r]at e;cases e
  .rw[apv c]at e⊢;exact R.va j u e
 .by_cases c:i=j;.obtain⟨rfl,f⟩:=g e c;exact⟨a,vs,f,y,t,A,hw⟩
  .rw[apv c]at e⊢;exact R.ow j d e
 .by_cases c:i=j;.obtain⟨_,f⟩:=g p c;rw[q]at f;cases f;have l:i≠k:=λz=>m (c.symm.trans z);rw[apv l]at n o;exact s k h (apO l) n o
  .rw[apv c]at p q;by_cases l:i=k;.obtain⟨_,f⟩:=g n l;rw[o]at f;cases f;exact s j d (apO c) p q
   .rw[apv l]at n o;exact R.ap j k d h b m p n q o
def RS.write(R:RS B σ σV F H){i}{ws us:List VW}{vs zs a}(e:σ[i]?=some (.ow ws))(m:σV[i]?=some (some (.ref a)))(t:F a=none)(s:B.H0 a=none)(O:H a=some (.lst vs))(Q:RWs B.K F us zs):RS B (σ.set i (.ow us)) σV F (upd H a (.lst zs)):=by
 have r:i<σ.length:=(apC.mp e).1;refine⟨⟨λb u q=>by rw[ak ((λb o q z=>by subst z;rw[t]at q;cases q) b u q)];exact R.rb.sub b u q,λb u q=>by
  have g:b≠a:=λz=>by subst z;rw[s]at q;cases q
  rw[ak g];exact R.rb.base b u q,R.rb.fz0,R.rb.fr⟩,by simp[R.len],λj w q=>?_,λj d q=>?_,λj k d E b n J N K P=>?_,by
 have y:=R.aie (H':=upd H a (.lst zs)) i (sl:=.ow us) (λz=>z) (some (.ref a)) (aC.refl _) λ_ _ _ b x _ _ _ l v=>⟨v,by
   have g:b≠a:=λz=>by subst z;rw[O]at l;cases l
   rw[ak g];exact l⟩;rwa[set_same m]at y⟩
 .by_cases c:i=j;.subst c;rw[apz r]at q;cases q
  .rw[apv c]at q;exact R.va j w q
 .by_cases c:i=j;.subst c;rw[apz r]at q;cases q;exact afb a zs m t s av Q
  .rw[apv c]at q;refine lP (R.ow j d q) λb f p M C I G=>?_;have g:b≠a:=λz=>by subst z;exact R.ap i j ws d b c e q m p
   exact afb b f p M C (by rw[ak g];exact I) G
 .have back:∀{j:Nat}{d:List VW},(σ.set i (.ow us))[j]?=some (.ow d)->∃f,σ[j]?=some (.ow f):=λ{j d}q=>by
   by_cases c:i=j;.subst c;exact⟨ws,e⟩
   .rw[apv c]at q;exact⟨d,q⟩
  obtain⟨f,A⟩:=back J;obtain⟨h,D⟩:=back N;exact R.ap j k f h b n A D K P
def RS.aoH(R:RS B σ σV F H){i:Nat}{sl:Sl}{a:Addr}{o:HO}{w:VW}(e:σ[i]?=some sl)(A:σV[i]?=some (some (.ref a)))(Y:F a=none)(S:B.H0 a=none)(hH:H a=some o)(D:NF o)(hw:RW B.K (upd F a o) w (.ref a))(P:∀(j:Nat)(ws:List VW),i≠j->σ[j]?=some (.ow ws)->σV[j]?≠some (some (.ref a)))(N:∀(j:Nat)(n r:List VW),i≠j->σ[j]?=some (.od n r)->σV[j]?≠some (some (.ref a))):RS B (σ.set i (.va w)) σV (upd F a o) H:=by
 have g:i<σ.length:=(apC.mp e).1;have s:aC F (upd F a o):=aD Y _;refine⟨⟨λb u q=>?_,R.rb.base,R.rb.fz0.trans s,λb u q=>?_⟩,by simp[R.len],λj K q=>?_,λj l q=>?_,λj k l t b y h m Z f2=>?_,by
 have I:=R.aie i (sl:=.va w) (λz=>z) (some (.ref a)) s λj n r b G c Q M J E=>⟨by
  have x:b≠a:=λz=>by subst z;exact N j n r c Q M
  rw[ak x];exact E,J⟩;rwa[set_same A]at I⟩
 .by_cases d:b=a;.subst d;rw[av]at q;cases q;exact hH
  .rw[ak d]at q;exact R.rb.sub b u q
 .by_cases d:b=a;.subst d;rw[av]at q;cases q;exact .inr ⟨S,D⟩
  .rw[ak d]at q;exact R.rb.fr b u q
 .by_cases c:i=j;.subst c;rw[apz g]at q;cases q;exact⟨.ref a,A,hw⟩
  .rw[apv c]at q;obtain⟨v,f,p⟩:=R.va j K q;exact⟨v,f,p.keep s⟩
 .by_cases c:i=j;.subst c;rw[apz g]at q;cases q
  .rw[apv c]at q;obtain⟨b,C,f,p,T,U,O⟩:=R.ow j l q;have x:b≠a:=λz=>by subst z;exact P j l c q f
   exact⟨b,C,f,by rw[ak x];exact p,T,U,O.keep s⟩
 .have X:i≠j:=λz=>by subst z;rw[apz g]at h;cases h
  have n2:i≠k:=λz=>by subst z;rw[apz g]at m;cases m
  rw[apv X]at h;rw[apv n2]at m;exact R.ap j k l t b y h m Z f2
def Ow1:HO->Prop|.lst _=>True|.dK _=>True|_=>False
theorem RS.frz(R:RS B σ σV F H)(i):∃s,aC F s/\RS B (WL.frz i σ) σV s H/\(s=F/\WL.frz i σ=σ\/∃a o w,s=upd F a o/\Ow1 o/\F a=none/\WL.frz i σ=σ.set i (.va w)/\σV[i]?=some (some (.ref a))/\H a=some o/\B.H0 a=none):=by cases e:σ[i]? with
|none=>
 have c:WL.frz i σ=σ:=by unfold WL.frz;rw[e]
 rw[c];exact⟨F,aC.refl _,R,.inl ⟨rfl,rfl⟩⟩
|some sl=>cases sl with|no=>
  have c:WL.frz i σ=σ:=by unfold WL.frz;rw[e]
  rw[c];exact⟨F,aC.refl _,R,.inl ⟨rfl,rfl⟩⟩|va w=>
  have c:WL.frz i σ=σ:=by unfold WL.frz;rw[e]
  rw[c];exact⟨F,aC.refl _,R,.inl ⟨rfl,rfl⟩⟩|ob=>
  have c:WL.frz i σ=σ:=by unfold WL.frz;rw[e]
  rw[c];exact⟨F,aC.refl _,R,.inl ⟨rfl,rfl⟩⟩|ow ws=>
  have c:WL.frz i σ=σ.set i (.va (.lst ws)):=by unfold WL.frz;rw[e]
  rw[c];obtain⟨a,u,f,d,p,g,v⟩:=R.ow i ws e;refine⟨upd F a (.lst u),aD d _,R.aoH e f d p g trivial (by simp only[RW];exact⟨a,u,rfl,SqL.of av,v.keep (aD d _)⟩) (λj y h q z=>R.ap i j ws y a h e q f z) λj n r h q z=>?_,.inr ⟨a,_,_,rfl,trivial,d,rfl,f,g,p⟩⟩;obtain⟨b,k,l,_,_,m,_⟩:=R.dd.od j n r q;rw[z]at l;cases l;rw[g]at m;cases m|od n r=>
  have c:WL.frz i σ=σ.set i (.va (.dic n r)):=by unfold WL.frz;rw[e]
  rw[c];obtain⟨a,k,f,d,p,g,v,A⟩:=R.dd.od i n r e;refine⟨_,aD d _,R.aoH e f d p g trivial (by simp only[RW];exact⟨a,k,rfl,.inl av,v.keep (aD d _),A.keep (aD d _)⟩) (λj y h q z=>?_) λj x t h q z=>R.dd.ad i j n r x t a h e q f z,.inr ⟨a,_,_,rfl,trivial,d,rfl,f,g,p⟩⟩;obtain⟨b,u,l,_,_,m,_⟩:=R.ow j y q;rw[z]at l;cases l;rw[g]at m;cases m
def RS.ao9(R:RS B σ σV F H){i:Nat}{ks us:List VW}{kvs:List (Key×V)}{a:Addr}(I:F a=none)(C:B.H0 a=none)(J:H a=some (.dK kvs))(E:RWs B.K F ks (kvs.map λp=>kV p.1))(M:RWs B.K F us (kvs.map λp=>p.2))(w:∀(j:Nat)(o n:List VW),j≠i->σ[j]?=some (.od o n)->σV[j]?≠some (some (.ref a))):RS B (σ.set i (.od ks us)) (σV.set i (some (.ref a))) F H:=by
 have D:=R.len;have c:∀{j:Nat}{s:Sl},(σ.set i (.od ks us))[j]?=some s->i=j->s=.od ks us/\(σV.set i (some (V.ref a)))[j]?=some (some (.ref a)):=λ{j s}e z=>by
  subst z;have y:i<σ.length:=by have:=(apC.mp e).1;simpa using this
  rw[apz y]at e;exact⟨(apV e).symm,apz (by omega)⟩
 refine⟨R.rb,by simp[D],λj u e=>?_,λj v e=>?_,λj k v t b l h g q m=>?_,λj o n e=>?_,λj k A us1 x us2 b l h g q m=>?_,λj e=>?_⟩
 .by_cases d:i=j;.cases(c e d).1
  .rw[apv d]at e⊢;exact R.va j u e
 .by_cases d:i=j;.cases(c e d).1
  .rw[apv d]at e⊢;exact R.ow j v e
 .have G:i≠j:=λz=>by cases(c h z).1
  have K:i≠k:=λz=>by cases(c g z).1
  rw[apv G]at h q;rw[apv K]at g m;exact R.ap j k v t b l h g q m
 .by_cases d:i=j;.obtain⟨h,g⟩:=c e d;cases h;exact⟨a,kvs,g,I,C,J,E,M⟩
  .rw[apv d]at e⊢;exact R.dd.od j o n e
 .by_cases d:i=j;.have r:=(c h d).2;rw[q]at r;cases r;have f:i≠k:=λz=>l (d.symm.trans z);rw[apv f]at g m;exact w k _ _ (apO f) g m
  .rw[apv d]at h q;by_cases f:i=k;.have r:=(c g f).2;rw[m]at r;cases r;exact w j _ _ (apO d) h q
   .rw[apv f]at g m;exact R.dd.ad j k _ _ _ _ b l h g q m
 .have d:i≠j:=λz=>by cases(c e z).1
  rw[apv d]at e⊢;exact R.dd.ob j e
def RS.aiA(R:RS B σ σV F H){i:Nat}{ks us f us2:List VW}{kvs c:List (Key×V)}{a:Addr}(e:σ[i]?=some (.od ks us))(N:σV[i]?=some (some (.ref a)))(O:F a=none)(M:B.H0 a=none)(hH:H a=some (.dK kvs))(X:RWs B.K F f (c.map λp=>kV p.1))(hu:RWs B.K F us2 (c.map λp=>p.2)):RS B (σ.set i (.od f us2)) σV F (upd H a (.dK c)):=by
 have h:i<σ.length:=(apC.mp e).1;have nF:∀b o,F b=some o->b≠a:=λb o q z=>by subst z;rw[O]at q;cases q
 refine⟨⟨λb u q=>by rw[ak (nF b u q)];exact R.rb.sub b u q,λb u q=>by
 have r:b≠a:=λz=>by subst z;rw[M]at q;cases q
 rw[ak r];exact R.rb.base b u q,R.rb.fz0,R.rb.fr⟩,by simp[R.len],λj w q=>?_,λj G q=>?_,λj k G C b g l m I K=>?_,λj E v q=>?_,λj k T us1 S us3 b g l m I K=>?_,λj q=>?_⟩
 .by_cases d:i=j;.subst d;rw[apz h]at q;cases q
  .rw[apv d]at q;exact R.va j w q
 .by_cases d:i=j;.subst d;rw[apz h]at q;cases q
  .rw[apv d]at q;obtain⟨b,t,s,J,A,n,D⟩:=R.ow j G q;have r:b≠a:=λz=>by subst z;rw[hH]at n;cases n
   exact⟨b,t,s,J,A,by rw[ak r];exact n,D⟩
 .have Y:i≠j:=λz=>by subst z;rw[apz h]at l;cases l
  have n2:i≠k:=λz=>by subst z;rw[apz h]at m;cases m
  rw[apv Y]at l;rw[apv n2]at m;exact R.ap j k G C b g l m I K
 .by_cases d:i=j;.subst d;rw[apz h]at q;cases q;exact⟨a,c,N,O,M,av,X,hu⟩
  .rw[apv d]at q;obtain⟨b,t,s,J,A,n,D⟩:=R.dd.od j E v q;have r:b≠a:=λz=>by subst z;exact R.dd.ad i j _ _ _ _ b d e q N s
   exact⟨b,t,s,J,A,by rw[ak r];exact n,D⟩
 .have back:∀{j:Nat}{x y:List VW},(σ.set i (.od f us2))[j]?=some (.od x y)->∃Z P,σ[j]?=some (.od Z P):=λ{j x y}q=>by
   by_cases d:i=j;.subst d;exact⟨_,_,e⟩
   .rw[apv d]at q;exact⟨_,_,q⟩
  obtain⟨_,_,Q⟩:=back l;obtain⟨_,_,U⟩:=back m;exact R.dd.ad j k _ _ _ _ b g Q U I K
 .have d:i≠j:=λz=>by subst z;rw[apz h]at q;cases q
  rw[apv d]at q;exact R.dd.ob j q
end
end WS
set_option autoImplicit true
set_option relaxedAutoImplicit true
namespace WS
open PySem PySem.Spec PyProof.Rows L2
open WL(Res Sl Ws EF TF AF LF GF GsF SF Out XF XA FS Fs KO KF OX RF Sr)
section
variable{X:Cx}{e:Expr}{es:List Expr}{st:Stmt}{sts:List Stmt}
def PE.imp{t t'}(h:PE X e t)(f:∀σ H Q,t' σ H Q->t σ H Q):PE X e t':=λa s σ H Q I q=>h _ s σ H Q I (f σ H Q q)
def PT.imp{t t'}(h:PT X e t)(f:∀σ H Q,t' σ H Q->t σ H Q):PT X e t':=λa s σ H Q I q=>h _ s σ H Q I (f σ H Q q)
def PW.imp{t t'}(h:PW X e t)(f:∀σ H Q,t' σ H Q->t σ H Q):PW X e t':=λb a s σ H Q I q=>h _ _ s σ H Q I (f σ H Q q)
def PA.imp{t t'}(h:PA X es t)(f:∀σ H Q,t' σ H Q->t σ H Q):PA X es t':=λb a s σ H Q I q=>h _ _ s σ H Q I (f σ H Q q)
def PS.imp{t t'}(h:PS X st t)(f:∀D σ H,t' D σ H->t D σ H):PS X st t':=λa s σ H D I q=>h _ s σ H D I (f D σ H q)
def PSs.imp{t t'}(h:PSs X sts t)(f:∀D σ H,t' D σ H->t D σ H):PSs X sts t':=λa s σ H D I q=>h _ s σ H D I (f D σ H q)
def PG.imp{t t'}(h:PG X e t)(f:∀v σ H Q,t' v σ H Q->t v σ H Q):PG X e t':=λa s σ H v u Q I r q=>h _ s σ H v u Q I r (f v σ H Q q)
def PGs.imp{t t'}(h:PGs X es t)(f:∀v σ H Q,t' v σ H Q->t v σ H Q):PGs X es t':=λa s σ H v u Q I r q=>h _ s σ H v u Q I r (f v σ H Q q)
def PI.imp{a t t'}(h:PI X a e t)(f:∀σ H Q,t' σ H Q->t σ H Q):PI X a e t':=λb s σ H Q I q=>h _ s σ H Q I (f σ H Q q)
def PO.imp{o t t'}(h:PO X o t)(f:∀σ H Q,t' σ H Q->t σ H Q):PO X o t':=λa s σ H Q I q=>h _ s σ H Q I (f σ H Q q)
end
def Rq(B:Bx)(σ:Ws)(F:Hp){b}(r:Res b)(k:b->Prop):Prop:=match r with|.ok a=>k a|.ex c=>B.xp c σ F|.bad=>False
theorem Rq.mono{B σ F F' b r}{k k':b->Prop}(s:aC F F')(h:Rq B σ F r k)(f:∀a,k a->k' a):Rq B σ F' r k':=by cases r with|ok a=>exact f a h|ex c=>exact B.mono c σ F _ s h|bad=>exact h
theorem Rq.bind{B σ F b d r}{g:b->Res d}{k}(h:Rq B σ F (r.bind g) k):Rq B σ F r λa=>Rq B σ F (g a) k:=by cases r with|ok a|ex c|bad=>exact h
def lo(B:Bx)(t:EF):TE:=λa H Q=>∃σ F,RS B σ a F H/\Rq B σ F (t σ) λw=>∀v b c,RS B σ a c b->Gr F H c b->RW B.K c w v->Q v b
def loT(B:Bx)(t:TF):TT:=λa H Q=>∃σ F,RS B σ a F H/\Rq B σ F (t σ) λb=>∀c d,RS B σ a d c->Gr F H d c->Q b c
def loA(B:Bx)(t:AF):TA:=λa H Q=>∃σ F,RS B σ a F H/\Rq B σ F (t σ) λws=>∀d b c,RS B σ a c b->Gr F H c b->RWs B.K c ws d->Q d b
def loO(B:Bx)(t:Ws->Res (Option Int)):TO:=λa H Q=>∃σ F,RS B σ a F H/\Rq B σ F (t σ) λo=>∀b c,RS B σ a c b->Gr F H c b->Q o b
def loL(B:Bx)(t:LF):TE:=λb H Q=>∃σ F,RS B σ b F H/\Rq B σ F (t σ) λws=>∀a e c d,RS B σ b d c->Gr F H d c->d a=none->B.H0 a=none->c a=some (.lst e)->RWs B.K d ws e->(∀(j:Nat)(f:List VW),σ[j]?=some (.ow f)->b[j]?≠some (some (.ref a)))->Q (.ref a) c
structure Gm(m:Bool)(F H F' H':Hp):Prop where
 f:aC F F'
 nf:∀a o,H a=some o->F a=none->F' a=none
 th:∀a o,H a=some o->∃o',H' a=some o'
 h:m=true->aC H H'
theorem Gm.refl{m F H}:Gm m F H F H:=⟨aC.refl _,λ_ _ _ z=>z,λ_ o e=>⟨o,e⟩,λ_=>aC.refl _⟩
theorem Gm.trans{m F H f d g i}(a:Gm m F H f d)(b:Gm m f d g i):Gm m F H g i:=⟨a.f.trans b.f,λx o e z=>by obtain⟨j,c⟩:=a.th x o e;exact b.nf x _ c (a.nf x o e z),λx o e=>by obtain⟨j,c⟩:=a.th x o e;exact b.th x _ c,λh=>(a.h h).trans (b.h h)⟩
def loG(m:Bool)(B:Bx)(g:GF):TG:=λv c H Q=>∃σ F w,RS B σ c F H/\RW B.K F w v/\Rq B σ F (g w σ) λb=>∀a d e,RS B b a e d->Gm m F H e d->Q a d
def alz(m:Bool)(B:Bx)(g:GsF):TGs:=λf c H Q=>∃σ F ws,RS B σ c F H/\RWs B.K F ws f/\Rq B σ F (g ws σ) λb=>∀a d e,RS B b a e d->Gm m F H e d->Q a d
def Oq(B:Bx)(D:Ends)(F:Hp)(o:Out):Prop:=match o with|.nx σ'=>∀a d b,RS B σ' a b d->aC F b->D.nx a d|.bk σ'=>∀a d b,RS B σ' a b d->aC F b->D.bk a d|.ct σ'=>∀a d b,RS B σ' a b d->aC F b->D.ct a d|.rt w=>∀v d b,RB B b d->aC F b->RW B.K b w v->D.rt v d|.ex c σ'=>B.xp c σ' F|.bad=>False
def loS(B:Bx)(t:SF):TS:=λD a H=>∃σ F,RS B σ a F H/\Oq B D F (t σ)
theorem Oq.mono{B D F F' o}(s:aC F F')(h:Oq B D F o):Oq B D F' o:=by cases o with|nx σ|bk σ|ct σ|rt w=>exact λa H G R z=>h _ H G R (s.trans z)|ex c σ=>exact B.mono c σ F _ s h|bad=>exact h
theorem Oq.ofR    (h:Oq B D F (WL.ofR σ r f)):Rq B σ F r λa=>Oq B D F (f a):=by cases r with|ok a|ex c|bad=>exact h
def Eq1(F H:Hp)(K:W.Frag)(r:Res VW)(Q:VK):Prop:=match r with|.ok w=>∀v b a,Ext F H b a->RW K b w v->Q v a|_=>False
def lo2(K:W.Frag)(r:VW->VW->Res VW):R2:=λx y H Q=>∃F wx a,aC F H/\RW K F wx x/\RW K F a y/\Eq1 F H K (r wx a) Q
def lo1(K:W.Frag)(r:VW->Res VW):V->Hp->VK->Prop:=λx H Q=>∃F wx,aC F H/\RW K F wx x/\Eq1 F H K (r wx) Q
def loN(K:W.Frag)(r:List VW->Res VW):List V->Hp->VK->Prop:=λa H Q=>∃F ws,aC F H/\RWs K F ws a/\Eq1 F H K (r ws) Q
def Calm(r:VW->VW->Res VW):Prop:=∀x y c,r x y≠.ex c
def OpR.imp{X f r b}(h:OpR X f r)(g:∀x y H Q,b x y H Q->r x y H Q):OpR X f b:=λa s σ H x y v u Q I d c q=>h _ s σ H x y v u Q I d c (g x y H Q q)
def UnR.imp{X f r a}(h:UnR X f r)(g:∀x H Q,a x H Q->r x H Q):UnR X f a:=λb s σ H x v Q I c q=>h _ s σ H x v Q I c (g x H Q q)
def bV.imp{X f r b}(h:bV X f r)(g:∀a H Q,b a H Q->r a H Q):bV X f b:=λc s σ H a e Q I d q=>h _ s σ H _ _ Q I d (g _ H Q q)
def IxR.imp{X r d}(h:IxR X r)(g:∀x y H Q,d x y H Q->r x y H Q):IxR X d:=λa b c s σ H x y v u Q I i f q e=>h _ _ _ s σ H x y v u Q I i f (g x y H Q q) e
def SlR.imp{X r e}(h:SlR X r)(g:∀x a b H Q,e x a b H Q->r x a b H Q):SlR X e:=λd s σ H x v k i lo l j Q I f a b c q=>h _ s σ H x v _ _ _ _ _ Q I f a b c (g x _ _ H Q q)
section
variable{X:Cx}{B:Bx}{e a b c:Expr}{es:List Expr}{pos:Pos}{ta tb tc:EF}{K:W.Frag}
set_option tactic.hygienic true
def aiD{i}(h:PE X e (kx i)):PE X e (lo B (WL.ai i)):=PE.imp h λf H Q d=>by
 refine eg d λσ F R q=>?_;simp [WL.ai]at q;split at q;.rename_i w e;obtain⟨v,g,r⟩:=R.va i w e;exact⟨v,g,q v H F R Gr.refl r⟩
 .exact q.elim
set_option tactic.hygienic false
def agt (h:PE X e (tC v))(r:∀F,RW B.K F w v):PE X e (lo B (WL.eC w)):=PE.imp h λf H Q d=>by obtain⟨σ,F,R,q⟩:=d;exact q v H F R Gr.refl (r F)
def af{i j pos}:PE X (.Constant (.int i) j pos) (lo B (WL.eC (.int i))):=agt afH λ_=>rfl
def ma{i j pos}:PE X (.Constant (.bool i) j pos) (lo B (WL.eC (.bl i))):=agt amL λ_=>rfl
def jL{j pos}:PE X (.Constant .none j pos) (lo B (WL.eC .non)):=agt ajw λ_=>rfl
def aH{x j pos}:PE X (.Constant (.str x) j pos) (lo B (WL.eC (.str x))):=agt jY λ_=>rfl
def aeh (cm:Calm r)(f:∀x y H Q,lo2 B.K r x y H Q->rV x y H Q):∀d H Q,lo B (WL.eOp r ta tb) d H Q->tOp rV (lo B ta) (lo B tb) d H Q:=by intro d H Q⟨σ,F,R,q⟩;have q:=Rq.bind q;refine cE σ F R (Rq.mono (aC.refl _) q λx p z s j l h m=>cE σ j l (Rq.mono h.f (Rq.bind p) λy g C A k R2 i o=>f _ _ _ _ (rE k x y R2.rb.sub (m.keep i.f) o ?_)));cases e:r x y with|ok w=>rw[e]at g;exact λv u t E n=>g v _ _ (E.rs B σ _ R2) ((h.trans i).trans E.gr) n|ex c=>exact(cm x y c e).elim|bad=>rw[e]at g;exact g
def ba (cm:Calm r)(h:OpR X (binaryOp op) (lo2 B.K r))(d:PE X a (lo B ta))(f:PE X b (lo B tb)):PE X (.BinOp a op b pos) (lo B (WL.eOp r ta tb)):=PE.imp (ajt h d f) (aeh cm λ_ _ _ _ q=>q)
def ek (cm:Calm r)(h:OpR X (compareOp op) (lo2 B.K r))(d:PE X a (lo B ta))(f:PE X b (lo B tb))(g:behindInMarks op b=false):PE X (.Compare a [op] [b] pos) (lo B (WL.eOp r ta tb)):=PE.imp (abj h d f g) (aeh cm λ_ _ _ _ q=>q)
def aiE (cm:Calm r)(h:IxR X (lo2 B.K r))(d:PE X a (lo B ta))(f:PE X b (lo B tb))(hs:jI b):PE X (.Subscript a b pos) (lo B (WL.eOp r ta tb)):=PE.imp (ag9 h d f hs) (aeh cm λ_ _ _ _ q=>q)
def kA (cm:∀x c,r x≠.ex c)(h:UnR X (unaryOp op) (lo1 B.K r))(m:PE X a (lo B ta)):PE X (.UnaryOp op a pos) (lo B (WL.eUn r ta)):=PE.imp (amJ h m) λi H Q f=>by refine eg f λσ F R q=>?_;have q:=Rq.bind q;refine⟨σ,F,R,Rq.mono (aC.refl _) q λx d t o j g k l=>⟨j,x,g.rb.sub,l,?_⟩⟩;cases e:r x with|ok w=>rw[e]at d;exact λv s p E n=>d v _ _ (E.rs B σ _ g) (k.trans E.gr) n|ex c=>exact(cm x c e).elim|bad=>rw[e]at d;exact d
def abF:∀d H Q,loT B (WL.tB t) d H Q->lR (lo B t) d H Q:=by
 intro d H Q⟨σ,F,R,q⟩;have q:=Rq.bind q;refine cE σ F R (Rq.mono (aC.refl _) q λx f l j k g i h=>?_);cases x<;>first|exact f.elim|skip
 exact⟨_,h,f _ _ g i⟩
def cA (cm:Calm r)(h:OpR X (compareOp op) (lo2 B.K r))(f:PE X a (lo B ta))(i:PE X b (lo B tb))(g:behindInMarks op b=false):PT X (.Compare a [op] [b] pos) (loT B (WL.tB (WL.eOp r ta tb))):=PT.imp (aa8 h f i g) λd H Q q=>aeh cm (λ_ _ _ _ q=>q) _ H _ (abF _ H Q q)
def fP (h:PE X e (lo B t))(f:∀d,isTrue e X.env d=(do let v <-d;standAt e.pos;holding [v] (truthy v)):=by intro _;rfl):PT X e (loT B (WL.tB t)):=PT.imp (ajh h f) abF
def aek (cm:Calm r)(m:Calm r'):∀d H Q,lo B (WL.pN r r' ta tb tc) d H Q->afo (lo2 B.K r) (lo2 B.K r') (lo B ta) (lo B tb) (lo B tc) d H Q:=by intro d H Q⟨σ,F,R,q⟩;have q:=Rq.bind q;refine cE σ F R (Rq.mono (aC.refl _) q λx o v1 H1 N S j E=>?_);have o:=Rq.bind o;refine cE σ N S (Rq.mono j.f o λy l v2 Y O R2 i p=>?_);refine rE O x y R2.rb.sub (E.keep i.f) p ?_;unfold Eq1;cases e:r x y with|ex c=>exact(cm x y c e).elim|bad=>rw[e]at l;exact l|ok z=>rw[e]at l;intro Z C P f G;have g:=l;cases z with
 |bl k=>refine⟨k,G,?_⟩;cases k with|false=>exact g (.bl false) P C (f.rs B σ d R2) ((j.trans i).trans f.gr) (by simp[RW])|true=>have g:=Rq.bind (show Rq B σ F ((tc σ).bind λw=>r' y w) _ from g);refine cE σ C (f.rs B σ d R2) (Rq.mono ((j.trans i).trans f.gr).f g λw h U H4 J A t M=>?_);refine rE J y w A.rb.sub ((p.keep f.same).keep t.f) M ?_;unfold Eq1;cases n:r' y w with|ex c=>exact(m y w c n).elim|bad=>rw[n]at h;exact h|ok u=>rw[n]at h;exact λv T D s I=>h v D T (s.rs B σ d A) ((((j.trans i).trans f.gr).trans t).trans s.gr) I
 |_=>exact g.elim
def wj (cm:Calm r)(d:Calm r')(j:OpR X (compareOp op) (lo2 B.K r))(f:OpR X (compareOp op') (lo2 B.K r'))(h:PE X a (lo B ta))(k:PE X b (lo B tb))(g:PE X c (lo B tc))(i:lastMarks [op,op'] [b,c]=false:=by with_unfolding_all rfl):PE X (.Compare a [op,op'] [b,c] pos) (lo B (WL.pN r r' ta tb tc)):=PE.imp (adX j f h k g i) (aek cm d)
variable{uA uB:TF}{rest:List Expr}
def pT(d:PT X a (loT B uA)):PW X (.BoolOp .And [a] pos) (loT B uA):=aa4 d
def vZ(d:PT X a (loT B uA)):PW X (.BoolOp .Or [a] pos) (loT B uA):=aje d
def v5(k:PT X a (loT B uA))(n:PW X (.BoolOp .And (b::rest) pos) (loT B uB)):PW X (.BoolOp .And (a::b::rest) pos) (loT B (WL.yv uA uB)):=PW.imp (afy k n) λi H Q f=>by refine eg f λσ F R q=>?_;have q:=Rq.bind q;refine⟨σ,F,R,Rq.mono (aC.refl _) q λx h o j g d=>?_⟩;cases x with|true=>exact⟨σ,j,g,Rq.mono d.f h λb m r p R2 l=>m _ _ R2 (d.trans l)⟩|false=>exact h _ _ g d
def aac(k:PT X a (loT B uA))(n:PW X (.BoolOp .Or (b::rest) pos) (loT B uB)):PW X (.BoolOp .Or (a::b::rest) pos) (loT B (WL.tOr uA uB)):=PW.imp (amE k n) λi H Q f=>by refine eg f λσ F R q=>?_;have q:=Rq.bind q;refine⟨σ,F,R,Rq.mono (aC.refl _) q λx h o j g d=>?_⟩;cases x with|false=>exact⟨σ,j,g,Rq.mono d.f h λb m r p R2 l=>m _ _ R2 (d.trans l)⟩|true=>exact h _ _ g d
def oD(g:PT X a (loT B uA)):PT X (.UnaryOp .Not a pos) (loT B (WL.zQ uA)):=PT.imp (aji g) λf H Q d=>by obtain⟨σ,F,R,q⟩:=d;have q:=Rq.bind q;exact⟨σ,F,R,Rq.mono (aC.refl _) q λx h=>h⟩
def l9{op}(h:PE X a (lo B ta)):PE X (.BoolOp op [a] pos) (lo B ta):=aju h
def lE(n:PE X a (lo B ta))(m:PE X (.BoolOp .And (b::rest) pos) (lo B tb)):PE X (.BoolOp .And (a::b::rest) pos) (lo B (WL.acu ta tb)):=PE.imp (ajx n m) λi H Q f=>by refine eg f λσ F R q=>?_;have q:=Rq.bind q;refine cE σ F R (Rq.mono (aC.refl _) q λx g v s j h d l=>?_);cases x with
|bl k=>refine⟨k,l,?_⟩;cases k with|true=>exact cE σ j h (Rq.mono d.f g λb p w u t R2 o r=>p _ _ _ R2 (d.trans o) r)|false=>exact g _ _ _ h d (rfl)
|_=>exact g.elim
def wh(l:PE X a (lo B ta)):PE X (.UnaryOp .Not a pos) (lo B (WL.ahH ta)):=PE.imp (ajv l) λg H Q d=>by refine eg d λσ F R q=>?_;have q:=Rq.bind q;refine⟨σ,F,R,Rq.mono (aC.refl _) q λx f v m n i h j=>?_⟩;cases x with|bl k=>exact⟨k,j,f _ _ _ i h (rfl)⟩|_=>exact f.elim
def adj(h:PT X c (loT B uA))(l:PE X a (lo B ta))(k:PE X b (lo B tb)):PE X (.IfExp c a b pos) (lo B (WL.eIf uA ta tb)):=PE.imp (adV h l k) λg H Q d=>by refine eg d λσ F R q=>?_;have q:=Rq.bind q;refine cE σ F R (Rq.mono (aC.refl _) q λx n r i j f=>?_);cases x with|true|false=>exact⟨σ,i,j,Rq.mono f.f n λb o u t s R2 m p=>o _ _ _ R2 (f.trans m) p⟩
variable{tas:AF}
def ag:PA X [] (loA B WL.aA):=PA.imp eF λf H Q d=>by obtain⟨σ,F,R,q⟩:=d;exact q _ H F R Gr.refl (rfl)
def ahr:∀d H Q,loA B (WL.ae ta tas) d H Q->ji (lo B ta) (loA B tas) d H Q:=λd H Q f=>by refine eg f λσ F R q=>?_;have q:=Rq.bind q;refine cE σ F R (Rq.mono (aC.refl _) q λx h v o k l i m=>?_);have h:=Rq.bind h;exact cE σ k l (Rq.mono i.f h λs g p t r R2 j n=>g _ _ _ R2 (i.trans j) (.cons (m.keep j.f) n))
def aa(f:PE X e (lo B ta))(d:PA X es (loA B tas))(hs:SE X e es:=by rfl):PA X (e::es) (loA B (WL.ae ta tas)):=PA.imp (bM f d hs) ahr
def ik:WL.lim<=sizeLine:=by decide
def bU{n}(h:PA X es (loA B tas)):PE X (.Tuple es n pos) (lo B (WL.iZ tas)):=PE.imp (afG h) λl H Q j=>by
 refine eg j λσ F R q=>?_;have q:=Rq.bind q;refine⟨σ,F,R,Rq.mono (aC.refl _) q λr f m s t i o k=>?_⟩;by_cases g:r.length<=WL.lim;.rw[apB g]at f;exact⟨by rw[<-k.length];exact apD g ik,λp d=>f _ _ _ (i.new d _) (o.trans (Gr.new (i.rb.sub.free d) d _)) (by exact jJ p m rfl (SqT.of av) (k.keep (aD (i.rb.sub.free d) _)))⟩
 .rw[apA g]at f;exact f.elim
def ajZ:∀d H Q,lo B (WL.hG tas) d H Q->aok (loA B tas) d H Q:=λd H Q j=>by
 refine eg j λσ F R q=>?_;have q:=Rq.bind q;refine⟨σ,F,R,Rq.mono (aC.refl _) q λn g l o r i m k=>?_⟩;by_cases h:n.length<=WL.lim;.rw[apB h]at g;exact⟨by rw[<-k.length];exact apD h ik,λp f=>g _ _ _ (i.new f _) (m.trans (Gr.new (i.rb.sub.free f) f _)) (by exact jJ p l rfl (SqL.of av) (k.keep (aD (i.rb.sub.free f) _)))⟩
 .rw[apA h]at g;exact g.elim
def cw(h:PA X es (loA B tas)):PE X (.List es pos) (lo B (WL.hG tas)):=PE.imp (abi h) ajZ
def ang{σ d F l g xs vs p}{Q:VK}(h:RS B σ d l g){H}(r:Gr F H l g)(s:RWs B.K l xs vs)(f:g p=none)(q:∀a vs i k,RS B σ d k i->Gr F H k i->k a=none->B.H0 a=none->i a=some (.lst vs)->RWs B.K k xs vs->(∀(j:Nat)(o:List VW),σ[j]?=some (.ow o)->d[j]?≠some (some (.ref a)))->Q (.ref a) i):Q (.ref p) (upd g p (.lst vs)):=q p _ _ _ (h.anf f _) (r.trans ⟨aC.refl _,aD f _,λ_ _ _ z=>z⟩) (h.rb.sub.free f) (h.rb.base.free f) av s λj o e z=>by refine lP (h.ow j _ e) λa w m v u n t=>?_;rw[z]at m;cases m;rw[f]at n;cases n
def wb(h:PA X es (loA B tas)):PE X (.List es pos) (loL B (WL.aib tas)):=PE.imp (abi h) λj H Q g=>by
 refine eg g λσ F R q=>?_;have q:=Rq.bind q;refine⟨σ,F,R,Rq.mono (aC.refl _) q λm d r o s l k i=>?_⟩;by_cases f:m.length<=WL.lim;.rw[apB f]at d;exact⟨by rw[<-i.length];exact apD f ik,λp n=>ang l k i n d⟩
 .rw[apA f]at d;exact d.elim
def anp (cm:∀g c,r g≠.ex c):∀d H Q,lo B (WL.eBi r tas) d H Q->tCB (loN B.K r) (loA B tas) d H Q:=by intro d H Q⟨σ,F,R,q⟩;have q:=Rq.bind q;refine cE σ F R (Rq.mono (aC.refl _) q λg f n m i h j k=>⟨i,g,h.rb.sub,k,?_⟩);cases e:r _ with|ok w=>rw[e]at f;exact λv p o E l=>f v _ _ (E.rs B σ _ h) (j.trans E.gr) l|ex c=>exact(cm _ c e).elim|bad=>rw[e]at f;exact f
def aiH (cm:∀d c,r d≠.ex c)(h:PE X e (tCB (loN B.K r) (loA B tas))):PE X e (lo B (WL.eBi r tas)):=PE.imp h (anp cm)
def l8:PO X none (loO B WL.pNo):=PO.imp ag5 λf H Q d=>by obtain⟨σ,F,R,q⟩:=d;exact q H F R Gr.refl
def l7(h:PE X e (lo B ta)):PO X (some e) (loO B (WL.n7 ta)):=PO.imp (ag4 h) λg H Q d=>by refine eg d λσ F R q=>?_;have q:=Rq.bind q;refine⟨σ,F,R,Rq.mono (aC.refl _) q λx f v m n k j l=>?_⟩;cases x with|int i=>exact⟨i,l,f _ _ k j⟩|_=>exact f.elim
def aoC(K:W.Frag):V->Option Int->Option Int->Hp->VK->Prop:=λx l h H Q=>∃F wx,aC F H/\RW K F wx x/\Eq1 F H K (WL.oSl wx l h) Q
variable{l u:Option Expr}{tl tu:Ws->Res (Option Int)}{p2:Pos}
def aai(z:SlR X (aoC B.K))(G:PE X e (lo B ta))(A:PO X l (loO B tl))(M:PO X u (loO B tu)):PE X (.Subscript e (.Slice l u none p2) pos) (lo B (WL.eSl ta tl tu)):=PE.imp (adS z G A M) λg H Q k=>by refine eg k λσ F R q=>?_;have q:=Rq.bind q;refine cE σ F R (Rq.mono (aC.refl _) q λx p v O t C j o=>cE σ t C (Rq.mono j.f (Rq.bind p) λlo i N y R2 h=>?_));refine cE σ y R2 (Rq.mono (j.trans h).f (Rq.bind i) λJ d P D m n=>?_);refine⟨D,x,m.rb.sub,(o.keep h.f).keep n.f,?_⟩;cases f:WL.oSl x lo J with|ok w=>rw[f]at d;exact λv r I E s=>d v I r (E.rs B σ g m) (((j.trans h).trans n).trans E.gr) s|ex c=>cases x<;>simp[WL.oSl]at f;split at f<;>cases f|bad=>rw[f]at d;exact d
def lend  (R:RS B σ σV F H)(x:Hp)(s1:aC F x)(Z:x=F/\WL.frz i σ=σ\/∃a o w,x=upd F a o/\Ow1 o/\F a=none/\WL.frz i σ=σ.set i (.va w)/\σV[i]?=some (some (.ref a))/\H a=some o/\B.H0 a=none)(R2:RS B (WL.frz i σ) σV F2 H2)(f:Gr x H F2 H2):∃y,RS B σ σV y H2/\Gr F H y H2/\∀w v,WL.plain w=true->RW B.K F2 w v->RW B.K y w v:=by
 rcases Z with⟨rfl,D⟩|⟨a,ow,wa,rfl,k,A,D,E,hH,h0⟩;.rw[D]at R2;exact⟨F2,R2,f,λ_ _ _ h=>h⟩
 .rw[D]at R2;have n:=f.f _ _ av;have s:aC F λb=>if b=a then none else F2 b:=λb o q=>by
   have r:b≠a:=λz=>by subst z;rw[A]at q;cases q
   show(if b=a then none else F2 b)=some o;rw[apA r];exact f.f b o (s1 b o q)
  have m:∀b o,(if b=a then none else F2 b)=some o->b≠a/\F2 b=some o:=λb o q=>by
   by_cases d:b=a;.rw[apB d]at q;cases q
   .rw[apA d]at q;exact⟨d,q⟩
  refine⟨λb=>if b=a then none else F2 b,⟨⟨λb o q=>R2.rb.sub b o (m b o q).2,R2.rb.base,R.rb.fz0.trans s,λb o q=>R2.rb.fr b o (m b o q).2⟩,R.len,λj w q=>?_,λj t q=>?_,R.ap,?_⟩,⟨s,f.h,λb o q z=>?_⟩,λw v Q h=>?_⟩;.obtain⟨v,g,J⟩:=R.va j w q;exact⟨v,g,J.keep s⟩
  .obtain⟨b,zs,g,J,g3,g4,T⟩:=R.ow j t q;refine⟨b,zs,g,?_,g3,f.h b _ g4,T.keep s⟩;by_cases d:b=a;.exact apB d
   .show(if b=a then none else F2 b)=none;rw[apA d];have C:i≠j:=λz=>by subst z;rw[E]at g;cases g;exact d rfl
    obtain⟨S,M,p,G,_⟩:=R2.ow j t (by rw[apv C];exact q);rw[g]at p;cases p;exact G
  .refine R.dd.via rfl id (λ_ _ z=>.inl z) (λ_ _ _ e=>⟨e,rfl⟩) s λj P t b N U I O q2 Y=>⟨?_,Y,f.h b _ O⟩;by_cases d:b=a;.exact apB d
   .show(if b=a then none else F2 b)=none;rw[apA d];have C:i≠j:=λz=>by subst z;rw[show σV[i]?=_ from I]at E;cases E;exact d rfl
    obtain⟨S,M,p,G,_⟩:=R2.dd.od j P t (by rw[apv C];exact U);rw[show σV[j]?=_ from I]at p;cases p;exact G
  .show(if b=a then none else F2 b)=none;by_cases d:b=a;.exact apB d
   .rw[apA d];exact f.nf b o q (by rw[ak d];exact z)
  .refine RW.less (λc xs q=>?_) w v Q h;rcases q with(q|⟨o,q⟩)|q
   .refine .inl (.inl ?_);have r:c≠a:=λz=>by subst z;rw[n]at q;cases q;exact k
    show(if c=a then none else F2 c)=_;rw[apA r];exact q
   .refine .inl (.inr ⟨o,?_⟩);have r:c≠a:=λz=>by subst z;rw[n]at q;cases q;exact k
    show(if c=a then none else F2 c)=_;rw[apA r];exact q
   .exact .inr q
def aak (h:PE X e (lo B ta)):PE X e (lo B (WL.ahI i ta)):=PE.imp h λj H Q g=>by
 refine eg g λσ F R q=>?_;refine jK (R.frz i) λn o p m=>?_;refine cE _ n p ?_;have q:Rq B σ F (match ta _ with|.ok w=>if WL.plain w then .ok w else .bad|_=>.bad) _:=q
 cases d:ta _ with|ok w=>
 rw[d]at q;intro v z y R2 s t;refine jK (lend R _ o m R2 s) λA x r k=>?_;have q:Rq B σ F (if WL.plain w=true then .ok w else .bad) _:=q;by_cases f:WL.plain w=true;.rw[apB f]at q;exact q v _ _ x r (k w v f t)
 .rw[apA f]at q;exact q.elim|ex c=>rw[d]at q;exact q.elim|bad=>rw[d]at q;exact q
def afd (h:PT X e (loT B uA)):PT X e (loT B (WL.ah2 i uA)):=PT.imp h λg H Q f=>by refine eg f λσ F R q=>?_;refine jK (R.frz i) λm n o j=>?_;refine cE _ m o ?_;have q:Rq B σ F (match uA _ with|.ok b=>.ok b|_=>.bad) _:=q;cases d:uA _ with|ok w=>rw[d]at q;intro v t R2 r;refine jK (lend R _ n j R2 r) λx s p k=>?_;exact q _ _ s p|ex c=>rw[d]at q;exact q.elim|bad=>rw[d]at q;exact q
end
mutual def toD:VW->PyData|.non=>.none|.bl b=>.bool b|.int i=>.int i|.str x=>.str x|.ty _=>.none|.tup xs=>.tuple (gX xs)|.lst xs=>.list (gX xs)|.dic _ _=>.none|.cls _=>.none|.exc _ _=>.none|.ins _ _=>.none|.id _=>.none def gX:List VW->List PyData|[]=>[]|x::xs=>toD x::gX xs end
def yk(x):toD (.str x)=.str x:=(rfl)
def ym(x):toD (.int x)=.int x:=(rfl)
mutual theorem RW.isD{K:W.Frag}{H:Hp}:∀(n:Nat)(w:VW)(v:V),WL.okD n w=true->RW K H w v->IsD K H n v (toD w)
|n,.non,v,_,h=>by cases n<;>exact h|n,.bl b,v,_,h=>by cases n<;>exact h|n,.int i,v,_,h=>by cases n<;>exact h|n,.str x,v,o,h=>by cases n<;>exact⟨h,o⟩|n,.tup xs,v,o,h=>by obtain⟨a,vs,e,q,r⟩:=h;cases n with|zero=>cases xs<;>cases o|succ n=>exact⟨a,vs,e,q,RWs.isD n xs _ o r⟩
|n,.lst xs,v,o,h=>by obtain⟨a,vs,e,q,r⟩:=h;cases n with|zero=>cases xs<;>cases o|succ n=>exact⟨a,vs,e,q,RWs.isD n xs vs o r⟩theorem RWs.isD{K:W.Frag}{H:Hp}:∀(n:Nat)(ws:List VW)(vs:List V),WL.jb (n+1) ws=true->RWs K H ws vs->Paired (IsD K H n) vs (gX ws)|n,[],vs,_,h=>by simp only[RWs]at h;subst h;exact .nil|n,w::ws,vs,o,h=>by simp only[RWs]at h;obtain⟨v,r,rfl,q,t⟩:=h;have o:=aqv.mp o;exact .cons (RW.isD n w v o.1 q) (RWs.isD n ws r o.2 t)end
mutual theorem nN:∀(n m:Nat)(x y:VW),WL.okD n x=true->WL.okD m y=true->PyData.eqv (toD x) (toD y)=WL.eqv x y
|n,m,.tup xs,y,h1,h2=>by cases y with|tup ys=>exact qU n m xs ys h1 h2|_=>first|rfl|cases h2
|n,m,.lst xs,y,h1,h2=>by cases y with|lst ys=>exact qU n m xs ys h1 h2|_=>first|rfl|cases h2
|n,m,.ty _,_,h1,_=>by cases h1|n,m,.non,y,_,h2=>by cases y<;>first|rfl|cases h2
|n,m,.bl b,y,_,h2=>by cases y<;>rfl|n,m,.int b,y,_,h2=>by cases y<;>first|rfl|cases h2
|n,m,.str b,y,_,h2=>by cases y<;>first|rfl|cases h2 theorem qU:∀(n m:Nat)(xs ys:List VW),WL.jb n xs=true->WL.jb m ys=true->PyData.eqvAll (gX xs) (gX ys)=WL.af4 xs ys|n,m,[],ys,_,_=>by cases ys<;>rfl|n,m,x::xs,ys,h1,h2=>by cases ys with|nil=>rfl|cons y ys=>cases n with|zero=>cases h1|succ n=>cases m with|zero=>cases h2|succ m=>have h1:=aqv.mp h1;have h2:=aqv.mp h2;show(PyData.eqv _ _&&PyData.eqvAll _ _)=(_&&_);rw[nN n m x y h1.1 h2.1,qU (n+1) (m+1) xs ys h1.2 h2.2]end
theorem vR{n m}{x:VW}(a:WL.okD n x=true):∀{ys:List VW},WL.jb m ys=true->((gX ys).any λz=>PyData.eqv z (toD x))=WL.dG x ys|[],_=>rfl|y::ys,h=>by cases m with|zero=>cases h|succ m=>have h:=aqv.mp h;simp [gX,WL.dG];rw[nN m n y x h.1 a,vR a h.2]
section
variable{X:Cx}{K:W.Frag}
def eq1{F H w Q v}(q:Eq1 F H K (.ok w) Q)(r:RW K F w v):Q v H:=q v F H (Ext.refl F H) r
def anM{F H}{ws:List VW}{vs Q}(s:aC F H)(q:Eq1 F H K (.ok (.lst ws)) Q)(r:RWs K F ws vs){p}(a:H p=none):Q (.ref p) (upd H p (.lst vs)):=q _ _ _ (Ext.new (s.free a) a _) (by exact⟨p,vs,rfl,SqL.of av,r.keep (aD (s.free a) _)⟩)
def anL{F H}{ws:List VW}{vs Q}(s:aC F H)(q:Eq1 F H K (.ok (.tup ws)) Q)(r:RWs K F ws vs){p}(a:H p=none):Q (.ref p) (upd H p (.tup vs)):=q _ _ _ (Ext.new (s.free a) a _) (by exact⟨p,vs,rfl,SqT.of av,r.keep (aD (s.free a) _)⟩)
def ahe:OpR X (binaryOp .Add) λx y H Q=>∃l b f g,x=.ref l/\y=.ref b/\SqL X.K H l f/\SqL X.K H b g/\f.length+g.length<=sizeLine/\∀p,H p=none->Q (.ref p) (upd H p (.lst (f++g))):=by
 intro z s σ H x y v u Q I P G h;refine alU h λl b f g k m O M T q=>?_;subst k m;cases P;cases G;refine jK (I.list O) λc r pl _=>?_;refine jK (I.list M) λa B i _=>?_;obtain⟨⟨cls,dd,A,J⟩,D,N,n,E⟩:=pl.isList;obtain⟨⟨C,w,data2,o⟩,d,j,R,t⟩:=i.isList;subst N E j t;have e:c.toArray++a.toArray=(c++a).toArray:=by simp
 have S:=r.length;have U:=B.length;refine asD ⟨_,D,rfl⟩ ⟨_,d,rfl⟩ noFill_list_add seq_list_add PySem.F.slot_list_add PySem.F.entry_list_add (PySem.F.args_list_add_2 _ _) (list_addW l b c.toArray a.toArray n R dd w J o (by grind)) ⟨D,d,?_⟩;rw[e];exact jJ (.ref _) _ (I.aph (r.append B) (by grind)) rfl (q _ I.fresh)
def ad2:OpR X (binaryOp .Add) λx y H Q=>∃a b j,x=.ref a/\y=.ref b/\SqT X.K H a []/\SqT X.K H b j/\Q (.ref b) H:=by intro k s σ H x y v u Q I E z h;refine akW h λa b j f e G C q=>?_;subst f e;cases E;cases z;refine jK (I.tuple G) λt r B _=>?_;refine jK (I.tuple C) λo O J _=>?_;cases r;obtain⟨⟨cls,dd,l,A⟩,p,D,n,w⟩:=id B;obtain⟨⟨m,N,data2,g⟩,c,d,M,i⟩:=id J;subst D w d i;exact asD ⟨_,p,rfl⟩ ⟨_,c,rfl⟩ asE seq_tuple_add arR arK (arB _ _) (tuple_addW0 a b _ _ n M dd _ A g (rfl)) ⟨p,c,⟨.ref b,H,I,rfl,q⟩⟩
set_option tactic.hygienic true
def w_add(z:X.K=K):OpR X (binaryOp .Add) (lo2 K WL.dy):=by
 subst z;refine OpR.imp (ajI.or (ahe.or (ahd.or ad2))) λx y H Q u=>?_;obtain⟨F,wx,A,s,f,e,q⟩:=u;unfold WL.dy at q;split at q;.simp only[RW]at f e;exact .inl ⟨_,_,f,e,q _ F H (Ext.refl F H) (by simp[RW])⟩
 rotate_left
 .rename_i k j;simp only[RW]at f e;obtain⟨a,d,rfl,l,h⟩:=f;obtain⟨b,i,rfl,m,g⟩:=e;by_cases c:k.length+j.length<=WL.lim
  .rw[apB c]at q;have n:=h.length;have o:=g.length;have r:d.length+i.length<=sizeLine:=by rw[<-n,<-o];exact apD c ik
   by_cases w:d=[];.subst w;have:k=[]:=arL.mp n;subst this;refine .inr (.inr (.inr ⟨a,b,i,rfl,rfl,s.tup l,s.tup m,?_⟩));exact eq1 q (by simp only[RW,asO];exact⟨b,i,rfl,m,g⟩)
   .refine .inr (.inr (.inl ⟨a,b,d,i,rfl,rfl,s.tup l,s.tup m,w,r,λv=>?_,λv p t=>?_⟩));.subst v;have:j=[]:=arL.mp o;subst this;exact eq1 q (by simp only[RW,aqf];exact⟨a,d,rfl,l,h⟩)
    .exact anL s q (h.app g) t
  .rw[apA c]at q;exact q.elim
 .exact q.elim
 .rename_i k j;simp only[RW]at f e;obtain⟨a,d,rfl,l,h⟩:=f;obtain⟨b,i,rfl,m,g⟩:=e;by_cases c:k.length+j.length<=WL.lim;.rw[apB c]at q;have q:Eq1 F H X.K (.ok (.lst (k++j))) Q:=q;have n:=h.length;have o:=g.length;exact .inr (.inl ⟨a,b,d,i,rfl,rfl,s.seq l,s.seq m,by rw[<-n,<-o];exact apD c ik,λp t=>anM s q (h.app g) t⟩)
  .rw[apA c]at q;exact q.elim
set_option tactic.hygienic false
def bf:Calm WL.dy:=λx y c h=>by unfold WL.dy at h;split at h<;>first|(cases h)|(split at h<;>cases h)
def ado{f C g r}(h:OpR X f (rI C g))(k:∀x y w,r x y=.ok w->∃i j,x=.int i/\y=.int j/\C i j/\∀F,RW K F w (g i j))(cm:Calm r):OpR X f (lo2 K r):=by refine OpR.imp h λx y H Q d=>?_;refine vW d λF wx p s o n q=>?_;cases e:r _ _ with|bad=>rw[e]at q;exact q.elim|ex c=>exact(cm _ _ _ e).elim|ok w=>refine lD (k _ _ w e) λi j a b l m=>?_;subst a b;rw[e]at q;exact zN i j o n l (eq1 q (m F))
def rJ{f g r}(h:OpR X f (rI0 g))(k:∀x y w,r x y=.ok w->∃i j,x=.int i/\y=.int j/\∀F,RW K F w (g i j))(cm:Calm r):OpR X f (lo2 K r):=by refine OpR.imp h λx y H Q d=>?_;refine vW d λF wx o s n m q=>?_;cases e:r _ _ with|bad=>rw[e]at q;exact q.elim|ex c=>exact(cm _ _ _ e).elim|ok w=>refine hJ (k _ _ w e) λi j a b l=>?_;subst a b;rw[e]at q;exact⟨i,j,n,m,eq1 q (l F)⟩
def gM:Calm WL.g6:=λx y c h=>by unfold WL.g6 at h;split at h<;>cases h
def br:Calm WL.fh:=λx y c h=>by unfold WL.fh at h;split at h<;>first|(cases h)|(split at h<;>cases h)
def l1:Calm WL.oDiv:=λx y c h=>by unfold WL.oDiv at h;split at h<;>first|(cases h)|(split at h<;>cases h)
def cu:Calm WL.oMod:=λx y c h=>by unfold WL.oMod at h;split at h<;>first|(cases h)|(split at h<;>cases h)
def xZ:Calm WL.ahh:=λx y c h=>by unfold WL.ahh at h;split at h<;>first|(cases h;done)|(split at h<;>cases h)
def jG:Calm WL.oLt:=λx y c h=>by unfold WL.oLt at h;split at h<;>cases h
def nV:Calm WL.oLe:=λx y c h=>by unfold WL.oLe at h;split at h<;>cases h
def vM:Calm WL.oGt:=λx y c h=>by unfold WL.oGt at h;split at h<;>cases h
def acQ:Calm WL.oGe:=λx y c h=>by unfold WL.oGe at h;split at h<;>cases h
def w_sub:OpR X (binaryOp .Sub) (lo2 K WL.g6):=rJ ajz (λx y w e=>by unfold WL.g6 at e;split at e<;>cases e;exact⟨_,_,rfl,rfl,λF=>rfl⟩) gM
def w_mul:OpR X (binaryOp .Mult) (lo2 K WL.fh):=ado ajC (λx y w e=>by
 unfold WL.fh at e;split at e<;>first|(cases e)|skip
 split at e;.rename_i a;cases e;exact⟨_,_,rfl,rfl,a,λF=>rfl⟩
 .cases e) br
def ad1:OpR X (binaryOp .FloorDiv) (rI (λ_ j=>0<j/\j<10^100) λi j=>.int (i/j)):=opI λi j _ _ _ _ _ a q=>by
 have c:(0:Int)<j:=a.1;have d:j<10^100:=a.2;refine floordiv_int (by omega) (by rw[Int.fdiv_eq_ediv_of_nonneg i (by omega)];exact q) (.inl (PyProof.noPylong_of_log2 ?_));have b:j.natAbs<10^100:=by omega
 have:j.natAbs.log2<400:=(Nat.log2_lt (by omega)).mpr (apE b (by decide+kernel));omega
def w_div:OpR X (binaryOp .FloorDiv) (lo2 K WL.oDiv):=ado ad1 (λx y w e=>by
 unfold WL.oDiv at e;split at e<;>first|(cases e)|skip
 split at e;.rename_i a;cases e;exact⟨_,_,rfl,rfl,a,λF=>rfl⟩
 .cases e) l1
def w_mod:OpR X (binaryOp .Mod) (lo2 K WL.oMod):=ado ajD (λx y w e=>by
 unfold WL.oMod at e;split at e<;>first|(cases e)|skip
 split at e;.rename_i a;cases e;exact⟨_,_,rfl,rfl,a,λF=>rfl⟩
 .cases e) cu
def w_pow:OpR X (binaryOp .Pow) (lo2 K WL.ahh):=ado ajA (λx y w e=>by
 unfold WL.ahh at e;split at e<;>first|(cases e;done)|skip
 split at e;.rename_i a;cases e;exact⟨_,_,rfl,rfl,⟨a.1,by have:=a.2.1;omega,a.2.2⟩,λF=>by simp[RW]⟩
 .cases e) xZ
def w_lt:OpR X (compareOp .Lt) (lo2 K WL.oLt):=rJ amO (λx y w e=>by unfold WL.oLt at e;split at e<;>cases e;exact⟨_,_,rfl,rfl,λF=>rfl⟩) jG
def ak3:OpR X (compareOp .LtE) (lo2 K WL.oLe):=rJ amP (λx y w e=>by unfold WL.oLe at e;split at e<;>cases e;exact⟨_,_,rfl,rfl,λF=>rfl⟩) nV
def al3:OpR X (compareOp .Gt) (lo2 K WL.oGt):=rJ amQ (λx y w e=>by unfold WL.oGt at e;split at e<;>cases e;exact⟨_,_,rfl,rfl,λF=>rfl⟩) vM
def ao4:OpR X (compareOp .GtE) (lo2 K WL.oGe):=rJ amR (λx y w e=>by unfold WL.oGe at e;split at e<;>cases e;exact⟨_,_,rfl,rfl,λF=>rfl⟩) acQ
def kC:UnR X (unaryOp .USub) (lo1 K WL.pB):=UnR.imp aiL λx H Q a=>by
 refine hJ a λF wx s b q=>?_;cases wx<;>first|exact q.elim|skip
 exact⟨_,b,q _ F H (Ext.refl F H) (rfl)⟩
def cR:∀x c,WL.pB x≠.ex c:=λx c h=>by cases x<;>simp[WL.pB]at h
def aaP{F}{x y:VW}{v u}(h:WL.adD x y=true)(a:RW K F x v)(b:RW K F y u):ams v u=true/\decide (v=u)=WL.eqv x y:=by
 cases x<;>first|(cases h)|skip
 all_goals cases y<;>first|(cases h;done)|(subst a;subst b;exact⟨rfl,by first|rfl|exact vD|exact acy|exact vC ⟩)
def calm_eq:Calm WL.oEq:=λx y c h=>by simp only[WL.oEq]at h;split at h<;>first|(cases h)|(split at h<;>cases h)
def ahS:Calm WL.oNe:=λx y c h=>by simp only[WL.oNe]at h;split at h<;>first|(cases h)|(split at h<;>cases h)
def w_eq(g:X.K=K)(i:X.A.units+64<cLine):OpR X (compareOp .Eq) (lo2 K WL.oEq):=by
 subst g;refine OpR.imp (amS.or ajH) λx y H Q a=>?_;refine vW a λF wx c s b d q=>?_;simp only[WL.oEq]at q;split at q;.rename_i h;obtain⟨e,f⟩:=aaP h b d;exact .inl ⟨e,eq1 q (by simp[RW,f])⟩
 .split at q;.rename_i h;rw[apT]at h;refine .inr (rE 50 _ _ (RW.isD _ _ x h.1 (b.keep s)) (RW.isD 50 c y h.2 (d.keep s)) (by omega) ?_);rw[nN 50 50 wx c h.1 h.2];exact eq1 q (rfl)
  .exact q.elim
def ao3(g:X.K=K)(i:X.A.units+64<cLine):OpR X (compareOp .NotEq) (lo2 K WL.oNe):=by
 subst g;refine OpR.imp (amN.or ajB) λx y H Q a=>?_;refine vW a λF wx c s b d q=>?_;simp only[WL.oNe]at q;split at q;.rename_i h;obtain⟨e,f⟩:=aaP h b d;exact .inl ⟨e,eq1 q (by simp[RW,f])⟩
 .split at q;.rename_i h;rw[apT]at h;refine .inr (rE 50 _ _ (RW.isD _ _ x h.1 (b.keep s)) (RW.isD 50 c y h.2 (d.keep s)) (by omega) ?_);rw[nN 50 50 wx c h.1 h.2];exact eq1 q (rfl)
  .exact q.elim
def gO:Calm WL.oIn:=λx y c h=>by cases y<;>simp only[WL.oIn]at h<;>first|(cases h)|(split at h<;>cases h)
def zI:Calm WL.pA:=λx y c h=>by cases y<;>simp only[WL.pA]at h<;>first|(cases h)|(split at h<;>cases h)
set_option tactic.hygienic true
def adp(g:X.K=K)(i:X.A.units+64<cLine):OpR X (compareOp .In) (lo2 K WL.oIn):=by
 subst g;refine OpR.imp ajG λx y H Q a=>?_;refine vW a λF wx e s d f q=>?_;cases e<;>simp only[WL.oIn]at q<;>first|exact q.elim|skip
 all_goals
 rename_i b;by_cases h:(WL.okD 50 wx&&WL.jb 51 b)=true;.rw[apB h]at q;rw[apT]at h;have c:=RW.isD 51 _ y (by exact h.2) (f.keep s);refine rE 50 _ (gX b) (RW.isD 50 wx x h.1 (d.keep s)) (by first|exact .inl c|exact .inr c) (by omega) ?_;rw[vR h.1 h.2];exact eq1 q (rfl)
 .rw[apA h]at q;exact q.elim
def agx(g:X.K=K)(i:X.A.units+64<cLine):OpR X (compareOp .NotIn) (lo2 K WL.pA):=by
 subst g;refine OpR.imp abo λx y H Q a=>?_;refine vW a λF wx e s d f q=>?_;cases e<;>simp only[WL.pA]at q<;>first|exact q.elim|skip
 all_goals
 rename_i b;by_cases h:(WL.okD 50 wx&&WL.jb 51 b)=true;.rw[apB h]at q;rw[apT]at h;have c:=RW.isD 51 _ y (by exact h.2) (f.keep s);refine rE 50 _ (gX b) (RW.isD 50 wx x h.1 (d.keep s)) (by first|exact .inl c|exact .inr c) (by omega) ?_;rw[vR h.1 h.2];exact eq1 q (rfl)
 .rw[apA h]at q;exact q.elim
set_option tactic.hygienic false
def xH{F w v}(r:RW K F w v):decide (v=V.non)=WL.qL w:=by cases w;all_goals first|(subst r;rfl)|(refine eg r λa d b _=>?_;subst b;rfl)|(obtain⟨a,rfl,_⟩:=r;rfl)|(refine x9 r λa C c b _=>?_;subst b;rfl)|(refine alV r λa C c l b _=>?_;subst b;rfl)
def ajF:OpR X (compareOp .Is) λx y H Q=>∃b,y=.bl b/\Q (.bl (decide (x=.bl b))) H:=by
 intro d s σ H x y v u Q I a e h;obtain⟨b,rfl,q⟩:=h;cases e;refine wpAny_is_plain ?_ (bD I q ?_);.cases x<;>(obtain⟨t,rfl⟩:=a;rfl)
 .cases x with|bl c=>cases a;cases b<;>cases c<;>rfl|_=>(obtain⟨t,rfl⟩:=a;cases b<;>rfl)
def abp:OpR X (compareOp .IsNot) λx y H Q=>∃b,y=.bl b/\Q (.bl !decide (x=.bl b)) H:=by
 intro d s σ H x y v u Q I a e h;obtain⟨b,rfl,q⟩:=h;cases e;refine wpAny_isNot_plain ?_ (bD I q ?_);.cases x<;>(obtain⟨t,rfl⟩:=a;rfl)
 .cases x with|bl c=>cases a;cases b<;>cases c<;>rfl|_=>(obtain⟨t,rfl⟩:=a;cases b<;>rfl)
set_option tactic.hygienic true
def afY{F w v b}(r:RW K F w v):decide (v=V.bl b)=WL.isB b w:=by cases w;all_goals first|(subst r;cases b<;>first|rfl|(rename_i c;cases c<;>rfl))|(refine eg r λa f d _=>?_;subst d;cases b<;>rfl)|(obtain⟨a,rfl,_⟩:=r;cases b<;>rfl)|(refine x9 r λa C e d _=>?_;subst d;cases b<;>rfl)|(refine alV r λa C e l d _=>?_;subst d;cases b<;>rfl)
set_option tactic.hygienic false
def ahT:Calm WL.oIs:=λx y c h=>by cases y<;>simp[WL.oIs]at h
def iS:Calm WL.j5:=λx y c h=>by cases y<;>simp[WL.j5]at h
def w_is:OpR X (compareOp .Is) (lo2 K WL.oIs):=by
 refine OpR.imp (ajE.or ajF) λx y H Q a=>?_;refine vW a λF wx d s b c q=>?_;cases d<;>first|exact q.elim|skip
 .exact .inl ⟨c,eq1 q (by simp[RW,xH b])⟩
 .exact .inr ⟨_,c,eq1 q (by simp[RW,afY b])⟩
def pV:OpR X (compareOp .IsNot) (lo2 K WL.j5):=by
 refine OpR.imp (ahc.or abp) λx y H Q a=>?_;refine vW a λF wx d s b c q=>?_;cases d<;>first|exact q.elim|skip
 .exact .inl ⟨c,eq1 q (by simp[RW,xH b])⟩
 .exact .inr ⟨_,c,eq1 q (by simp[RW,afY b])⟩
def akU{F ws vs i w}(r:RWs K F ws vs)(h:WL.atI ws i=some w):∃v,L2.atI vs i=some v/\RW K F w v:=by unfold WL.atI at h;cases e:WL.ixN _ i with|none=>rw[e]at h;cases h|some j=>rw[e]at h;obtain⟨v,a,b⟩:=r.get h;refine⟨v,?_,b⟩;unfold L2.atI;rw[<-r.length,show L2.ixN _ i=some j from e];exact a
def acP:Calm WL.oIx:=λx y c h=>by
 unfold WL.oIx at h;split at h<;>first|(cases h)|skip
 all_goals revert h;first|(cases WL.atI _ _<;>simp[WL.ofO];done)|(cases WL.nT _ _ _<;>simp[WL.ofO])
theorem acv{F}(k)(w:VW):∀{kvs:List (Key×V)}{ks vs},RWs K F ks (kvs.map λp=>kV p.1)->RWs K F vs (kvs.map λp=>p.2)->WL.nT k ks vs=some w->∃v,ug kvs (Sum.inr k)=some v/\RW K F w v
|[],ks,vs,r1,r2,e=>by cases ks with|nil=>simp[WL.nT]at e|cons x ks=>simp[RWs]at r1
|p::kvs,ks,vs,r1,r2,e=>by cases ks with|nil=>simp[WL.nT]at e|cons x ks=>
 cases vs with|nil=>cases x<;>cases e|cons y vs=>obtain⟨r,o,j,a,g⟩:=r1;obtain⟨s,q,n,d,l⟩:=r2;cases j;cases n;cases x with|str x=>
     simp only[RW]at a;have b:p.1=Sum.inr x:=by cases b:p.1 with|inl i=>rw[b]at a;cases i<;>exact absurd a (by simp[kV])|inr z=>rw[b]at a;simp only[kV]at a;cases a;rfl
     simp only[WL.nT]at e;by_cases h:x=k;.subst h;simp at e;subst e;exact⟨p.2,eH b,d⟩
     .have f:(x==k)=false:=by simpa using h
      rw[f]at e;obtain⟨v,c,m⟩:=acv k w g l (by simpa using e);exact⟨v,by rw[eI λz=>h (by rw[b]at z;exact Sum.inr.inj z)];exact c,m⟩|_=>simp[WL.nT]at e
set_option tactic.hygienic true
def al2(n:X.K=K):IxR X (lo2 K WL.oIx):=by
 subst n;refine IxR.imp ((abS.or afX).or abT) λx y H Q h=>?_;obtain⟨F,wx,u,s,j,g,q⟩:=h;unfold WL.oIx at q;split at q;rotate_left 2;.rename_i m b k;obtain⟨a,l,rfl,d,o,r⟩:=j;cases e:WL.nT k m b with|none=>rw[e]at q;exact q.elim|some w=>rw[e]at q;obtain⟨v,c,f⟩:=acv k w o r e;exact .inr ⟨a,_,Sum.inr k,v,rfl,g,s.rd d,c,eq1 q f⟩
 .exact q.elim
 all_goals rename_i p i;obtain⟨a,b,rfl,d,t⟩:=j;cases e:WL.atI p i with|none=>rw[e]at q;exact q.elim|some w=>rw[e]at q;obtain⟨v,c,f⟩:=akU t e;first|exact .inl (.inl ⟨a,b,i,v,rfl,g,s.seq d,c,eq1 q f⟩)|exact .inl (.inr ⟨a,b,i,v,rfl,g,s.tup d,c,eq1 q f⟩)
set_option tactic.hygienic false
def aiI(j:X.K=K):SlR X (aoC K):=by
 subst j;have i:WL.sIx=HT.sIx:=rfl;refine SlR.imp (agJ.or ai2) λx lo h H Q e=>?_;refine hJ e λF wx s g q=>?_;cases wx<;>simp [WL.oSl]at q<;>first|exact q.elim|skip
 .obtain⟨a,c,rfl,f,b⟩:=g;split at q;.exact q.elim
  .rename_i hw;rw[i,b.length]at hw;exact .inr (zN a c rfl (s.tup f) hw λp d=>anL s q (b.cut lo h) d)
 .obtain⟨a,c,rfl,f,b⟩:=g;exact .inl (jJ a c rfl (s.seq f) λp d=>anM s q (b.cut lo h) d)
def fS{F w xs}(r:RWs K F [w] xs):∃v,xs=[v]/\RW K F w v:=by obtain⟨v,t,rfl,h,rfl⟩:=r;exact⟨v,rfl,h⟩
def two_of{F w b xs}(r:RWs K F [w,b] xs):∃v a,xs=[v,a]/\RW K F w v/\RW K F b a:=by obtain⟨v,t,rfl,h,a,d,rfl,c,rfl⟩:=r;exact⟨v,a,rfl,h,c⟩
def me(f:X.K=K):bV X (.builtin "len") (loN K WL.pQ):=by
 subst f;refine bV.imp tX λg H Q c=>?_;refine hJ c λF ws s r q=>?_;unfold WL.pQ at q;split at q;.obtain⟨v,rfl,h⟩:=fS r;obtain⟨a,b,rfl,d,e⟩:=h;exact⟨a,b,rfl,.inl (s.seq d),eq1 q (by simp[RW,e.length])⟩
 .obtain⟨v,rfl,h⟩:=fS r;obtain⟨a,b,rfl,d,e⟩:=h;exact⟨a,b,rfl,.inr (s.tup d),eq1 q (by simp[RW,e.length])⟩
 .exact q.elim
def md(j:X.K=K):bV X (.type "tuple") (loN K WL.gg):=by
 subst j;refine bV.imp rg λk H Q d=>?_;refine hJ d λF ws s r q=>?_;unfold WL.gg at q;split at q;.obtain⟨v,rfl,h⟩:=fS r;refine hJ h λa c b e f=>?_;subst b;exact⟨a,c,rfl,.inl ⟨s.seq e,λl i=>anL s q f i⟩⟩
 .refine fO (fS r) λv b h=>?_;subst b;have g:=h;refine hJ h λa c b e f=>?_;subst b;exact⟨a,c,rfl,.inr ⟨s.tup e,eq1 q g⟩⟩
 .exact q.elim
set_option tactic.hygienic true
def agy:bV X (.builtin "abs") (loN K WL.af9):=bV.imp aeY λb H Q a=>by
 refine hJ a λF ws s r q=>?_;unfold WL.af9 at q;split at q;.rename_i i;obtain⟨v,rfl,h⟩:=fS r;subst h;exact⟨i,rfl,eq1 q (rfl)⟩
 .exact q.elim
set_option tactic.hygienic false
def aiJ(d:X.calm=true):bV X (.builtin "max") (loN K WL.zL):=bV.imp (acR d) λg H Q a=>by refine hJ a λF ws s r q=>?_;cases e:WL.zL _ with|bad|ex c=>rw[e]at q;exact q.elim|ok w=>
 unfold WL.zL at e;split at e;.refine hJ (two_of r) λv i b h f=>?_;subst b;subst h f;exact⟨_,_,rfl,eq1 q (rfl)⟩
 .cases e
def aaq:bV X (.type "int") (loN K WL.ac2):=bV.imp acS λb H Q a=>by obtain⟨F,ws,s,r,q⟩:=a;cases e:WL.ac2 ws with|bad|ex c=>rw[e]at q;exact q.elim|ok w=>
 rw[e]at q;unfold WL.ac2 at e;split at e;.cases e;obtain⟨v,rfl,h⟩:=fS r;simp only[RW]at h;subst h;exact .inr ⟨_,rfl,eq1 q (by simp[RW])⟩
 .cases e;obtain⟨v,rfl,h⟩:=fS r;simp only[RW]at h;subst h;exact .inl ⟨_,rfl,eq1 q (by simp[RW])⟩
 .cases e
noncomputable def al4:VW->Value|.non=>.type "NoneType"|.bl _=>.type "bool"|.int _=>.type "int"|.str _=>.type "str"|.ty _=>.type "type"|.tup _=>.type "tuple"|.lst _=>.type "list"|.dic _ _=>.type "dict"|.cls _=>.type "type"|.exc _ _=>.none|.ins _ _=>.none|.id _=>.none
set_option tactic.hygienic true
def abN{w:VW}{t b}(h:WL.isK w t=some b):W.kitOne K (al4 w) (.type t)=some b:=by
 have a:=by
  cases w<;>first|(cases h;done)|(change(if _ then _ else _)=_ at h)
  all_goals
  split at h;.rename_i c;simpa using c
  .cases h
 cases w<;>rcases a with rfl|rfl|rfl|rfl|rfl<;>first|(cases h;done)|(rw[<-h];rfl)
set_option tactic.hygienic false
def ajW{F H a vs}(s:aC F H)(h:SqL K F a vs):TyOf K H (.ref a) (.type "list")\/∃o b n,K.lookup a=some o/\o.cls=.type "list"/\o.dict=none/\o.data=.seq b n:=by
 rcases h with(h|⟨o,h⟩)|⟨o,b,n,e,f,c,d,_⟩;.exact .inl (.lst (s _ _ h))
 .exact .inl (.frz (s _ _ h))
 .exact .inr (rE o _ n e f c d)
def tY:bV X (.builtin "isinstance") λd H Q=>∃a o T b,d=[.ref a,.ty T]/\X.K.lookup a=some o/\o.cls=.type "list"/\W.kitOne X.K (.type "list") (.type T)=some b/\Q (.bl b) H:=by intro c s σ H d l Q I r h;obtain⟨a,o,T,b,rfl,i,f,e,q⟩:=h;obtain⟨u,k,rfl,j,g⟩:=vals2 r;cases g;cases j;exact aqI asR I.kIn ⟨o,I.kIn a o i,f⟩ e (λz=>nomatch z) λtk=>⟨.bl b,H,I.tok _,rfl,q⟩
set_option tactic.hygienic true
def cZ(u:X.K=K):bV X (.builtin "isinstance") (loN K WL.bT):=by subst u;refine bV.imp (vO.or tY) λD H Q f=>?_;obtain⟨F,ws,s,r,q⟩:=f;cases e:WL.bT ws with|bad|ex c=>rw[e]at q;exact q.elim|ok w=>
  rw[e]at q;unfold WL.bT at e;split at e
  .rename_i x t;split at e;.rename_i b i;cases e;obtain⟨v,B,rfl,h,p⟩:=two_of r;subst p;have d:=abN (K:=X.K) i;have fin:Q (.bl b) H:=eq1 q (by simp[RW]);cases x with|non=>simp only[RW]at h;subst h;exact .inl ⟨_,t,_,b,rfl,.inl .non,d,fin⟩|bl k=>simp only[RW]at h;subst h;exact .inl ⟨_,t,_,b,rfl,.inl (.bl k),d,fin⟩|int k=>simp only[RW]at h;subst h;exact .inl ⟨_,t,_,b,rfl,.inl (.int k),d,fin⟩|str k=>simp only[RW]at h;subst h;exact .inl ⟨_,t,_,b,rfl,.inl (.str k),d,fin⟩|ty k|dic _ _|cls _|exc _ _|ins _ _|id _=>cases i|tup ys=>obtain⟨a,j,rfl,g,y⟩:=h;exact .inl ⟨_,t,_,b,rfl,.inr ⟨a,j,rfl,rfl,s.tup g⟩,d,fin⟩|lst ys=>
     obtain⟨a,j,rfl,g,y⟩:=h;rcases ajW s g with ty|⟨o,l,n,m,z,A,C⟩;.exact .inl ⟨_,t,_,b,rfl,.inl ty,d,fin⟩
     .exact .inr ⟨a,o,t,b,rfl,m,z,d,fin⟩
   .cases e
  .cases e
set_option tactic.hygienic false
def dF:∀a c,WL.pQ a≠.ex c:=λa c h=>by unfold WL.pQ at h;split at h<;>cases h
def lu:∀a c,WL.gg a≠.ex c:=λa c h=>by unfold WL.gg at h;split at h<;>cases h
def q9:∀a c,WL.af9 a≠.ex c:=λa c h=>by unfold WL.af9 at h;split at h<;>cases h
def acO:∀a c,WL.zL a≠.ex c:=λa c h=>by unfold WL.zL at h;split at h<;>cases h
def tT:∀a c,WL.ac2 a≠.ex c:=λa c h=>by unfold WL.ac2 at h;split at h<;>cases h
def bG:∀a c,WL.bT a≠.ex c:=λa c h=>by
 unfold WL.bT at h;split at h;.split at h<;>cases h
 .cases h
end
structure Walk(K:W.Frag)(J:It)(xs:List VW)(F:Hp):Prop where
 go:∀(i:Nat)(x:VW),xs[i]?=some x->∀F1 H1:Hp,aC F F1->aC F1 H1->J.go i H1/\∀v H2,J.yld i H1 v H2->∃F2,Ext F1 H1 F2 H2/\RW K F2 x v
 stop:∀F1 H1:Hp,aC F F1->aC F1 H1->J.stop xs.length H1
def loI(B:Bx)(it:LF):TI:=λa H R=>∃σ F,RS B σ a F H/\Rq B σ F (it σ) λd=>∀J b c,RS B σ a c b->Gr F H c b->Walk B.K J d c->R J b
def aan{K a xs vs F}(h:SqL K F a vs)(r:RWs K F xs vs):Walk K (Itl K a) xs F:=by refine⟨λi x e f j b c=>?_,λf j b c=>⟨vs,c.seq (b.seq h),by rw[r.length];exact apG _⟩⟩;refine fO (r.get e) λv g k=>?_;refine⟨⟨vs,v,c.seq (b.seq h),g⟩,λu m d=>?_⟩;obtain⟨l,y⟩:=d;subst l;have:=y _ (c.seq (b.seq h));rw[g]at this;cases this;exact⟨f,Ext.refl _ _,k.keep b⟩
def adn{K a xs vs F}(h:SqT K F a vs)(r:RWs K F xs vs):Walk K (Itt K a) xs F:=by refine⟨λi x e f j b c=>?_,λf j b c=>⟨vs,c.tup (b.tup h),by rw[r.length];exact apG _⟩⟩;refine fO (r.get e) λv g k=>?_;refine⟨⟨vs,v,c.tup (b.tup h),g⟩,λu m d=>?_⟩;obtain⟨l,y⟩:=d;subst l;have:=y _ (c.tup (b.tup h));rw[g]at this;cases this;exact⟨f,Ext.refl _ _,k.keep b⟩
def gC(lo)(n):(WL.rng lo n).length=n:=by simp[WL.rng]
def lV{K lo n F}:Walk K (Itr lo n) (WL.rng lo n) F:=by
 refine⟨λi x e b d g f=>?_,λb d g f=>by rw[gC];exact apG n⟩;have c:=by have:=(apC.mp e).1;rwa[gC]at this
 refine⟨c,λv j a=>?_⟩;obtain⟨h,y⟩:=a;subst h y;refine⟨b,Ext.refl _ _,?_⟩;simp only[WL.rng,apX,aqR c]at e;have e:=apV e;subst e;simp[RW]
theorem qW:∀(xs:List VW)(k i:Nat),(WL.eA k xs)[i]?=xs[i]?.map λx=>.tup [.int (k+i:Nat),x]|[],_,_=>rfl|x::xs,k,0=>rfl|x::xs,k,i+1=>by simp only[WL.eA,ara];rw[qW _ _ i];congr 1;funext y;congr 4;omega
theorem qV:∀(xs:List VW)k,(WL.eA k xs).length=xs.length|[],_=>rfl|x::xs,k=>by simp [WL.eA,qV _ _]
def aao{K a xs vs F}(h:SqT K F a vs)(r:RWs K F xs vs):Walk K (Ite K a) (WL.eA 0 xs) F:=by refine⟨λi x e n m b c=>?_,λn m b c=>⟨vs,c.tup (b.tup h),by rw[qV,r.length];exact apG _⟩⟩;rw[qW]at e;cases d:xs[i]? with|none=>rw[d]at e;cases e|some y=>rw[d]at e;obtain⟨v,j,s⟩:=r.get d;have e:=apV e;subst e;refine⟨⟨vs,v,c.tup (b.tup h),j⟩,λu t f=>?_⟩;refine jK f λp o k q=>?_;subst o;obtain⟨z,g,rfl⟩:=q vs (c.tup (b.tup h));rw[j]at g;cases g;have l:=c.free k;refine⟨_,Ext.new l k _,p,_,rfl,SqT.of av,?_⟩;simp only[RWs,RW];refine⟨_,_,rfl,?_,_,_,rfl,(s.keep b).keep (aD l _),rfl⟩;simp
def yd{K a xs vs F}(h:SqL K F a vs)(r:RWs K F xs vs):Walk K (alS K a) (WL.eA 0 xs) F:=by refine⟨λi x e n m b c=>?_,λn m b c=>⟨vs,c.seq (b.seq h),by rw[qV,r.length];exact apG _⟩⟩;rw[qW]at e;cases d:xs[i]? with|none=>rw[d]at e;cases e|some y=>rw[d]at e;obtain⟨v,j,s⟩:=r.get d;have e:=apV e;subst e;refine⟨⟨vs,v,c.seq (b.seq h),j⟩,λu t f=>?_⟩;refine jK f λp o k q=>?_;subst o;obtain⟨z,g,rfl⟩:=q _ (c.seq (b.seq h));rw[j]at g;cases g;have l:=c.free k;refine⟨_,Ext.new l k _,p,_,rfl,SqT.of av,?_⟩;simp only[RWs,RW];refine⟨_,_,rfl,?_,_,_,rfl,(s.keep b).keep (aD l _),rfl⟩;simp
section
variable{X:Cx}{B:Bx}{e tg iter:Expr}{pos:Pos}{ta tb:EF}{it:LF}{g:GF}{b:SF}
def tSq(K:W.Frag)(f:TE):TI:=λσ H R=>f σ H λx c=>∃a,x=.ref a/\((∃d,SqL K c a d)/\R (Itl K a) c\/(∃d,SqT K c a d)/\R (Itt K a) c)
def ag8{pins}{σ:L2.St}{c R d x v}(f:Inv X pins σ c d)(r:RelV x v)(q:∃a,x=.ref a/\((∃h,SqL X.K c a h)/\R (Itl X.K a) c\/(∃h,SqT X.K c a h)/\R (Itt X.K a) c)):wpAny (model X.prog X.w) X.A (pyIter v) (PIE X pins σ tg R) X.xe d:=by
 obtain⟨a,e,m⟩:=q;subst e;cases r;have k:∀b∈[d.heap.objs.size],vU X pins c b:=λb s=>by
  have e:b=d.heap.objs.size:=by grind
  subst e;exact f.akv (apG _) (f.hok.fresh (apG _))
 rcases m with⟨⟨h,j⟩,q⟩|⟨⟨h,j⟩,q⟩;.obtain⟨i,l,p,n⟩:=f.list j;exact arO p.isList (aoh d.heap.objs.size [d.heap.objs.size] _ _ c rfl (f.kept λb o e=>apw _ e) (aav a _) ⟨_,apL _ rfl,rfl,rfl⟩ k q)
 .obtain⟨i,l,p,n⟩:=f.tuple j;exact arD p (aoh d.heap.objs.size [d.heap.objs.size] _ _ c rfl (f.kept λb o e=>apw _ e) (yf a _) ⟨_,apL _ rfl,rfl,rfl⟩ k q)
def ajp{l d}(i:PE X l d):PI X tg l (tSq X.K d):=λc s σ H R I h=>thn (i _ s σ H _ I h) λv m a=>by refine hJ a λx k j f q=>?_;exact ag8 j f q
def ahq{K}(f:K=B.K):∀c H R,loI B (WL.vo ta) c H R->tSq K (lo B ta) c H R:=λc H R j=>by refine eg j λσ F r q=>?_;have q:=Rq.bind q;refine cE σ F r (Rq.mono (aC.refl _) q λx l v p m h n o=>?_);cases x with|lst xs=>obtain⟨a,i,rfl,d,k⟩:=o;refine⟨a,rfl,.inl ⟨⟨i,by rw[f];exact h.rb.sub.seq d⟩,?_⟩⟩;rw[f];exact l _ _ m h n (aan d k)|tup xs=>obtain⟨a,i,rfl,d,k⟩:=o;refine⟨a,rfl,.inr ⟨⟨i,by rw[f];exact h.rb.sub.tup d⟩,?_⟩⟩;rw[f];exact l _ p m h n (adn d k)|_=>exact(l).elim
def gU(a:X.K=B.K)(h:PE X e (lo B ta)):PI X tg e (loI B (WL.vo ta)):=PI.imp (ajp h) (ahq a)
def jf{a p pos}(D:Gl X "range")(A:X.mg "range"=none)(h:PE X a (lo B ta))(hs:starEach [a] X.env=[(false,eval a X.env)]:=by rfl)(l:starEach [a] X.env=(false,eval a X.env)::starEach [] X.env:=by rfl):PI X tg (.Call (.Name "range" p) [a] [] pos) (loI B (WL.jB ta)):=PI.imp (jX D A (aa h ag l) hs) λf H R m=>by
 refine eg m λσ F s q=>?_;have q:=Rq.bind q;have u:Rq B σ F (WL.ae ta WL.aA σ) λws=>∀i n o,RS B σ f o n->Gr F H o n->RWs B.K o ws i->∃j:Int,i=[.int j]/\-2^62<=j/\j<2^62/\R (Itr 0 j.toNat) n:=by show Rq B σ F ((ta σ).bind λx=>.ok [x]) _;cases e:ta σ with
 |ok x=>
   rw[e]at q;intro i r t y w z;refine fO (fS z) λv k C=>?_;subst k
   cases x with|int j=>
    subst C;have q:Rq B σ F (if -2^62<=j/\j<2^62 then .ok (WL.rng 0 j.toNat)else .bad) _:=q;by_cases d:-2^62<=j/\j<2^62;.rw[apB d]at q;exact⟨j,rfl,d.1,d.2,q _ r t y w lV⟩
    .rw[apA d]at q;exact q.elim|_=>exact(q).elim
 |ex c=>rw[e]at q;exact q|bad=>rw[e]at q;exact q
 exact cE σ F s u
def agp{a c p pos}(N:Gl X "range")(M:X.mg "range"=none)(h:PE X a (lo B ta))(h':PE X c (lo B tb))(hs:starEach [a,c] X.env=[(false,eval a X.env),(false,eval c X.env)]:=by rfl)(u:starEach [c] X.env=[(false,eval c X.env)]:=by rfl)(m:starEach [a,c] X.env=(false,eval a X.env)::starEach [c] X.env:=by rfl)(d:starEach [c] X.env=(false,eval c X.env)::starEach [] X.env:=by rfl):PI X tg (.Call (.Name "range" p) [a,c] [] pos) (loI B (WL.vp ta tb)):=PI.imp (abg N M (aa h (aa h' ag d) m) hs u) λf H R s=>by
 refine eg s λσ F w q=>?_;have q:=Rq.bind q;have z:Rq B σ F (WL.ae ta (WL.ae tb WL.aA) σ) λws=>∀r t n,RS B σ f n t->Gr F H n t->RWs B.K n ws r->∃i j:Int,r=[.int i,.int j]/\(-2^62<=i/\i<2^62/\-2^62<=j/\j<2^62)/\R (Itr i (j-i).toNat) t:=by show Rq B σ F ((ta σ).bind λx=>((tb σ).bind _).bind λK=>.ok (x::K)) _;cases e:ta σ with
 |ok x=>rw[e]at q;have q:=Rq.bind q;cases k:tb σ with
  |ok y=>rw[k]at q;intro r G I J A C;refine hJ (two_of C) λv O l D E=>?_;subst l;cases x with
   |int i=>cases y with|int j=>
      subst D E;have q:Rq B σ F (if -2^62<=i/\i<2^62/\-2^62<=j/\j<2^62 then .ok (WL.rng i (j-i).toNat)else .bad) _:=q;by_cases o:-2^62<=i/\i<2^62/\-2^62<=j/\j<2^62;.rw[apB o]at q;exact⟨i,j,rfl,o,q _ G I J A lV⟩
      .rw[apA o]at q;exact q.elim|_=>exact(q).elim
   |_=>exact(q).elim
  |ex c=>rw[k]at q;exact q|bad=>rw[k]at q;exact q
 |ex c=>rw[e]at q;exact q|bad=>rw[e]at q;exact q
 exact cE σ F w z
def uv{l es k y p pos}(d:X.K=B.K)(A:Gl X "enumerate")(z:X.mg "enumerate"=none)(h:PE X l (lo B ta))(hs:starEach [l] X.env=[(false,eval l X.env)]:=by rfl):PI X (.Tuple es k y) (.Call (.Name "enumerate" p) [l] [] pos) (loI B (WL.vq ta)):=PI.imp (uQ A z h hs) λw H R j=>by refine eg j λσ F u q=>?_;have q:=Rq.bind q;refine cE σ F u (Rq.mono (aC.refl _) q λx n v o r f s t=>?_);cases x with|tup xs=>obtain⟨a,i,rfl,c,m⟩:=t;refine⟨a,rfl,.inl ⟨⟨i,by rw[d];exact f.rb.sub.tup c⟩,?_⟩⟩;rw[d];exact n _ o r f s (aao c m)|lst xs=>obtain⟨a,i,rfl,c,m⟩:=t;refine⟨a,rfl,.inr ⟨⟨i,by rw[d];exact f.rb.sub.seq c⟩,?_⟩⟩;rw[d];exact n _ o r f s (yd c m)|_=>exact(n).elim
variable{m:Bool}{es:List Expr}{gs:GsF}
def ags{i}(h:PG X e (L2.aF i)):PG X e (loG m B (WL.aF i)):=PG.imp h λv c H Q a=>by obtain⟨σ,F,w,R,r,q⟩:=a;exact q _ H F (R.set r) Gm.refl
def kz:PGs X [] (alz m B WL.qO):=PGs.imp uR λd c H Q a=>by refine x8 a λσ F ws R r q=>?_;cases ws with|nil=>exact⟨r,q _ H F R Gm.refl⟩|cons w ws=>exact(q).elim
def cM(l:PG X e (loG m B g))(x:PGs X es (alz m B gs))(hs:(assignEach (e::es) X.env).map (·.2)=assign e X.env::(assignEach es X.env).map (·.2):=by rfl):PGs X (e::es) (alz m B (WL.cP g gs)):=PGs.imp (iI l x hs) λz k H Q d=>by refine x8 d λσ F ws R r q=>?_;cases ws with|nil=>exact(q).elim|cons w ws=>obtain⟨v,t,rfl,r,rt⟩:=r;refine⟨v,t,rfl,σ,F,w,R,r,?_⟩;have q:Rq B σ F (match g w σ with|.ok σ'=>(match gs _ σ' with|.ok σ2=>.ok σ2|_=>.bad)|_=>.bad) _:=q;cases a:g w σ with|bad=>rw[a]at q;exact q|ex c=>rw[a]at q;exact q.elim|ok σ1=>rw[a]at q;intro h y n p i;have q:Rq B σ F (match gs ws σ1 with|.ok σ2=>.ok _|_=>.bad) _:=q;refine agm σ1 n ws p (rt.keep i.f) ?_;cases f:gs ws σ1 with|bad=>rw[f]at q;exact q|ok σ2=>rw[f]at q;exact λj u o R2 s=>q _ u o R2 (i.trans s)|ex c=>rw[f]at q;exact q.elim
def oF{k n}(y:X.K=B.K)(s:X.calm=true)(h:PGs X es (alz m B gs))(u:(assignEach es X.env).length=n)(x:∀ws σ d,gs ws σ=.ok d->ws.length=n)(A:∀ws σ c,gs ws σ≠.ex c)(i:(assignEach es X.env).findIdx? (·.1)=none:=by rfl):PG X (.Tuple es k pos) (loG m B (WL.rB gs)):=PG.imp (afF s h u i) λv p H Q l=>by refine x8 l λσ F w R r q=>?_;cases w with
|tup ws=>refine hJ r λa t j z o=>?_;subst j;have q:Rq B σ F (gs _ σ) _:=q;refine⟨a,t,rfl,by rw[y];exact R.rb.sub.tup z,?_,σ,F,ws,R,o,q⟩;cases f:gs _ σ with|ok d=>rw[<-o.length];exact x _ _ _ f|ex c=>exact(A _ _ _ f).elim|bad=>rw[f]at q;exact q.elim
|_=>exact(q).elim
def pK:∀ws σ a,WL.qO ws σ=.ok a->ws.length=0:=λws σ a h=>by cases ws<;>simp[WL.qO]at h;rfl
def dQ{n}(h:∀ws σ a,gs ws σ=.ok a->ws.length=n):∀ws σ a,WL.cP g gs ws σ=.ok a->ws.length=n+1:=λws σ a q=>by cases ws with|nil=>simp[WL.cP]at q|cons w ws=>have q:(match g w σ with|.ok _=>(match gs _ _ with|.ok _=>Res.ok _|_=>.bad)|_=>.bad)=.ok _:=q;cases d:g w σ with
 |ok σ1=>rw[d]at q;have q:(match gs ws _ with|.ok σ2=>Res.ok _|_=>.bad)=.ok _:=q;cases f:gs ws σ1 with|ok σ2=>simp[h _ _ _ f]|ex c|bad=>rw[f]at q;cases q
 |ex c=>rw[d]at q;cases q|bad=>rw[d]at q;cases q
def ip:∀ws σ c,WL.cP g gs ws σ≠.ex c:=λws σ c q=>by cases ws with|nil=>simp[WL.cP]at q|cons w ws=>have q:(match g w σ with|.ok _=>(match gs _ _ with|.ok _=>Res.ok _|_=>.bad)|_=>.bad)=.ex c:=q;cases a:g w σ with|ok σ1=>rw[a]at q;have q:(match gs _ _ with|.ok σ2=>Res.ok _|_=>.bad)=.ex c:=q;cases d:gs _ _<;>rw[d]at q<;>cases q|ex c=>rw[a]at q;cases q|bad=>rw[a]at q;cases q
def afg{i:Nat}{o h:Expr}(T:PE X o (kx i))(U:PE X h (lo B ta))(P:∀v,assign (.Subscript o h pos) X.env v=(do
  let l <-holding [v] (eval o X.env)let p <-holding [v,l] (eval h X.env)standAt pos
  holding [v,l,p] (setItem l p v)release [v,l,p] []):=by intro _;rfl):PG X (.Subscript o h pos) (loG false B (WL.aeD i ta)):=PG.imp (ajq T U set_list P) λv n H Q t=>by obtain⟨σ,F,w,R,r,q⟩:=t;have q:Rq B σ F (match σ[i]? with|some (.ow ws)=>(match ta σ with|.ok (.int k)=>(match WL.ixN ws.length k with|some j=>.ok (σ.set i (.ow (ws.set j w)))|none=>.bad)|_=>.bad)|_=>.bad) _:=q;cases e:σ[i]? with|none=>rw[e]at q;exact q.elim|some sl=>rw[e]at q;cases sl with|no|va _|od _ _|ob=>exact q.elim|ow ws=>obtain⟨a,M,y,S,K,G,E⟩:=R.ow i ws e;have q:=q;refine⟨.ref a,y,σ,F,R,?_⟩;cases x:ta σ with|bad=>rw[x]at q;exact q|ex c=>rw[x]at q;exact(q).elim|ok k=>rw[x]at q;intro u Y N O d A;cases k with
 |int k=>simp only[RW]at A;have f:Rq B σ F (match WL.ixN ws.length k with|some j=>.ok (σ.set i (.ow (ws.set j w)))|none=>.bad) _:=q;cases s:WL.ixN ws.length k with|none=>rw[s]at f;exact f.elim|some j=>
   rw[s]at f;have I:=d.h a _ G;refine⟨a,M,k,j,rfl,A,I,by rw[<-E.length];exact s,?_⟩;refine f n _ N (O.write e y (d.nf a _ G S) K I (RWs.set (r.keep d.f) j (E.keep d.f))) ⟨d.f,d.nf,λb D J=>?_,λz=>nomatch z⟩;by_cases C:b=a;.subst C;exact⟨_,av⟩
   .exact⟨D,by rw[ak C];exact d.h b D J⟩
 |_=>exact(q).elim
def af0(h:∀ws σ c,gs ws σ≠.ex c):∀w σ c,WL.rB gs w σ≠.ex c:=λw σ c q=>by cases w<;>simp [WL.rB]at q<;>exact h _ _ _ q
def af1{i:Nat}:∀w σ c,WL.aeD i ta w σ≠.ex c:=λw σ c q=>by
 simp only[WL.aeD]at q;split at q
 .split at q;.split at q<;>cases q
  .cases q
 .cases q
abbrev Bx.calm(B:Bx):Bx:=⟨B.K,B.H0,B.F0,λ_ _ _=>False,λ_ _ _ _ _ h=>h⟩
def RS.aiQ{σ a F H}(R:RS B σ a F H):RS B.calm σ a F H:=⟨⟨R.rb.sub,R.rb.base,R.rb.fz0,R.rb.fr⟩,R.len,R.va,R.ow,R.ap,R.dd⟩
def RB.ajM{F H}(R:RB B.calm F H):RB B F H:=⟨R.sub,R.base,R.fz0,R.fr⟩
def RS.ahead{σ:Ws}{f:L2.St}{F H:Hp}(R:RS B σ f F H)(k:Nat):RS B (List.replicate k .no++σ) (List.replicate k none++f) F H:=by
 have c:∀{i:Nat}{p:Sl},(List.replicate k Sl.no++σ)[i]?=some p->p≠.no->k<=i/\σ[i-k]?=some p:=λ{i p}e N=>by
  by_cases d:i<k;.rw[aqp (by simpa using d)]at e;rw[aqQ,apB d]at e;exact absurd (apV e).symm N
  .rw[aql (by simp;omega)]at e;simp only[ari]at e;exact⟨by omega,e⟩
 have q:∀{i:Nat}{x:Option V},k<=i->f[i-k]?=some x->(List.replicate k none++f)[i]?=some x:=λ{i x}d e=>by rw[aql (by simp;omega)];simpa using e
 have r:∀{i:Nat}{x:Option V},k<=i->(List.replicate k none++f)[i]?=some x->f[i-k]?=some x:=λ{i x}d e=>by rw[aql (by simp;omega)]at e;simpa using e
 refine⟨R.rb,by simp[R.len],λi w e=>?_,λi ws e=>?_,λi j ws t a G l o J I=>?_,λi y A e=>?_,λi j y A E s a G l o J I=>?_,λi e=>?_⟩;rotate_left 3;.obtain⟨d,e⟩:=c e (by intro z;cases z);obtain⟨a,u,h,n⟩:=R.dd.od _ y A e;exact⟨a,u,q d h,n⟩
 .obtain⟨d,l⟩:=c l (by intro z;cases z);obtain⟨D,o⟩:=c o (by intro z;cases z);exact R.dd.ad _ _ y A E s a (by omega) l o (r d J) (r D I)
 .obtain⟨d,e⟩:=c e (by intro z;cases z);obtain⟨a,C,K,h,n⟩:=R.dd.ob _ e;exact⟨a,C,K,q d h,n⟩
 .obtain⟨d,e⟩:=c e (by intro z;cases z);obtain⟨v,h,n⟩:=R.va _ w e;exact⟨v,q d h,n⟩
 .obtain⟨d,e⟩:=c e (by intro z;cases z);obtain⟨a,M,h,n⟩:=R.ow _ ws e;exact⟨a,M,q d h,n⟩
 .obtain⟨d,l⟩:=c l (by intro z;cases z);obtain⟨D,o⟩:=c o (by intro z;cases z);exact R.ap _ _ ws t a (by omega) l o (r d J) (r D I)
def RS.forget{σ c d F H}(R:RS B σ d F H)(r:c.length=σ.length)(h:∀(i:Nat)f,c[i]?=some f->f≠.no->σ[i]?=some f):RS B c d F H:=⟨R.rb,by rw[r];exact R.len,λi w e=>R.va i w (h i _ e (by simp)),λi ws e=>R.ow i ws (h i _ e (by simp)),λi j ws k a l t u=>R.ap i j ws k a l (h i _ t (by simp)) (h j _ u (by simp)),R.dd.via rfl id (λ_ _ z=>.inl z) (λi f p e=>⟨h i _ e (by intro z;subst z;exact p),rfl⟩) (aC.refl _) λ_ _ _ a q _ _ s o n=>⟨o,n,s⟩⟩
def Keeps(k:Nat)(g:GF):Prop:=∀w σ a,g w σ=.ok a->a.length=σ.length/\∀j:Nat,k<=j->a[j]?=σ[j]?
def bB{k i}(h:i<k):Keeps k (WL.aF i):=λw σ a e=>by cases e;exact⟨by simp,λj c=>by grind⟩
end
end WS
set_option autoImplicit true
set_option relaxedAutoImplicit true
namespace WS
open PySem PySem.Spec PyProof.Rows L2
open WL(Res Sl Ws EF TF AF LF GF GsF SF Out XF XA FS Fs KO KF OX RF Sr)
section
variable{X:Cx}{B:Bx}{e tg iter:Expr}{pos:Pos}{ta tb:EF}{tt:TF}{it:LF}{g:GF}{b:SF}{k:Nat}
def xW   (hg:Keeps k g)(R1:RS B σ σV F1 H1)(wk:Walk B.K J xs F1)(hx:xs.length<=WL.lim)(hc:WL.bF g tt ta (List.replicate k .no++σ) xs=.ok all)(fin:∀n h l,RB B h l->Gr F1 H1 h l->RWs B.K h all n->∀D,l D=none->Q (.ref D) (upd l D (.lst n))):n3 (aC H1) J (loG true B.calm g) (loT B.calm tt) (lo B.calm ta) (List.replicate k none++σV) H1 Q:=by
 refine⟨λi m n q l=>m=xs.length-i/\i<=xs.length/\n.length<=i/\∃h d rest,RS B.calm (List.replicate k .no++σ) q h l/\Gr F1 H1 h l/\RWs B.K h d n/\WL.bF g tt ta (List.replicate k .no++σ) (xs.drop i)=.ok rest/\d++rest=all,⟨xs.length,rfl,ap9 _,ap9 _,F1,[],all,(R1.aiQ).ahead k,Gr.refl,by simp[RWs],by simpa using hc,rfl⟩,?_⟩;rintro i m n q l⟨rfl,hi,S,h,d,rest,G,t,P,a,f⟩;refine⟨t.h,aqV (apD S (apD hi hx)) (by decide),?_⟩;by_cases s:i<xs.length;.have Z:=aqL s;rw[Z]at a;obtain⟨go,yl⟩:=wk.go i xs[i] (apy s) h l t.f G.rb.sub;refine .inr ⟨go,λr z x=>r.length<=i+1/\∃A d rest,RS B.calm (List.replicate k .no++σ) z A x/\Gr F1 H1 A x/\RWs B.K A d r/\WL.bF g tt ta (List.replicate k .no++σ) (xs.drop (i+1))=.ok rest/\d++rest=all,λr z x⟨a1,a2⟩=>⟨xs.length-(i+1),by omega,rfl,s,a1,a2⟩,λv x hy=>?_⟩;obtain⟨A,T,r2⟩:=yl v x hy;simp only[WL.bF]at a;cases C:g xs[i] (List.replicate k .no++σ)with|bad=>rw[C]at a;cases a|ex c=>rw[C]at a;cases a|ok σ1=>
   rw[C]at a;obtain⟨kl,kk⟩:=hg _ _ _ C;refine⟨_,A,xs[i],T.rs _ _ _ G,r2,?_⟩;rw[C];intro p H3 F3 R3 R;have back:∀{w K:Hp},RS B.calm σ1 p w K->RS B.calm (List.replicate k .no++σ) p w K:=λ{w K}H=>H.forget kl.symm λj sl O ne=>by
    by_cases Y:j<k;.rw[aqp (by simpa using Y),aqQ,apB Y]at O;exact absurd (apV O).symm ne
    .rw[kk j (by omega)];exact O
   have o:=T.gr.trans ⟨R.f,R.h rfl,R.nf⟩;have a:((tt σ1).bind λb=>match b with|true=>(ta σ1).bind λy=>(WL.bF g tt ta (List.replicate k .no++σ) (xs.drop (i+1))).bind λn=>.ok (y::n)|false=>WL.bF g tt ta (List.replicate k .no++σ) (xs.drop (i+1)))=.ok rest:=a;cases M:tt σ1 with|bad=>rw[M]at a;cases a|ex c=>rw[M]at a;cases a|ok b=>rw[M]at a;refine⟨σ1,F3,R3,?_⟩;rw[M];intro K w H I;cases b with|false=>rw[apA apW];exact⟨by omega,w,d,rest,back H,t.trans (o.trans I),P.keep (o.trans I).f,a,f⟩|true=>rw[apB rfl];have a:=a;cases E:ta σ1 with|bad=>rw[E]at a;cases a|ex c=>rw[E]at a;cases a|ok y=>rw[E]at a;refine⟨σ1,w,H,?_⟩;rw[E];intro u H5 F5 R5 U r5;have a:=a;cases N:WL.bF g tt ta (List.replicate k .no++σ) (xs.drop (i+1))with|bad=>rw[N]at a;cases a|ex c=>rw[N]at a;cases a|ok zs=>rw[N]at a;cases a;exact⟨by rw[aqc,arj];omega,F5,d++[y],zs,back R5,t.trans ((o.trans I).trans U),(P.keep ((o.trans I).trans U).f).app (.one r5),rfl,by rw[<-f];simp⟩
 .have ei:i=xs.length:=by omega
  subst ei;rw[ars]at a;simp only[WL.bF]at a;cases a;rw[aqf]at f;subst f;exact .inl ⟨wk.stop h l t.f G.rb.sub,λD hD=>fin n h l G.rb.ajM t P D hD⟩
def abI(p:Keeps k g):∀a H Q,lo B (WL.hE k it g tt ta) a H Q->aaF k (loI B it) (loG true B.calm g) (loT B.calm tt) (lo B.calm ta) a H Q:=by
 intro a H Q⟨σ,F,R,q⟩;have q:=Rq.bind (Rq.bind q);refine⟨σ,F,R,Rq.mono (aC.refl _) q λm d J s t l o wk=>?_⟩;by_cases i:m.length<=WL.lim;.rw[apB i]at d;cases e:WL.bF g tt ta _ m with|bad|ex c=>rw[e]at d;exact(d).elim|ok all=>rw[e]at d;refine n3.w (xW p l wk i e λn v u h j r D f=>?_);exact d (.ref D) _ _ ((l.grow j h).new f _) (o.trans (j.trans (Gr.new (h.sub.free f) f _))) (by exact jJ D n rfl (SqL.of av) (r.keep (aD (h.sub.free f) _)))
 .rw[apA i]at d;exact(d).elim
def aej(n:Keeps k g):∀a H Q,loL B (WL.vl k it g tt ta) a H Q->aaF k (loI B it) (loG true B.calm g) (loT B.calm tt) (lo B.calm ta) a H Q:=by
 intro a H Q⟨σ,F,R,q⟩;have q:=Rq.bind q;refine⟨σ,F,R,Rq.mono (aC.refl _) q λj d J p t i l wk=>?_⟩;by_cases f:j.length<=WL.lim;.rw[apB f]at d;cases e:WL.bF g tt ta (List.replicate k .no++σ) j with|bad|ex c=>rw[e]at d;exact(d).elim|ok all=>rw[e]at d;refine n3.w (xW n i wk f e λs v u o h r D m=>?_);exact ang (i.grow h o) (l.trans h) r m d
 .rw[apA f]at d;exact(d).elim
variable{scope:Scope}{ts:List Str}{elt:Expr}{ifs:List Expr}
def eU:x5 X [] (loT B WL.g9):=λc s σ H Q I a=>by obtain⟨d,F,R,q⟩:=a;exact w4 _ s σ H Q I (q H F R Gr.refl)
def eV(L:CompLook X scope)(f:X.calm=true)(n:ts.length=k)(j:Keeps k g)(m:PI X tg iter (loI B it))(i:∀C a c d,PG (X.comp scope C ts a c d) tg (loG true B.calm g))(l:∀C a c d,x5 (X.comp scope C ts a c d) ifs (loT B.calm tt))(h:∀C a c d,PE (X.comp scope C ts a c d) elt (lo B.calm ta))(hs:∀x,foldedSetIterable iter X.env x=pure x:=by intro _;rfl):PE X (.ListComp elt [⟨tg,iter,ifs,0⟩] scope pos) (lo B (WL.hE k it g tt ta)):=by subst n;exact PE.imp (w5 L f m i l h hs) (abI j)
variable{st:Stmt}{sts rest:List Stmt}{s1 s2:SF}{i:Nat}
def bg:PSs X [] (loS B WL.sNx):=PSs.imp aba λD c H a=>by obtain⟨σ,F,R,q⟩:=a;exact q _ H F R (aC.refl _)
def ajY:∀D a H,loS B (WL.aL s1 s2) D a H->aiU (loS B s1) (loS B s2) D a H:=λD a H d=>by refine eg d λσ F R q=>?_;refine cE σ F R ?_;have q:Oq B D F (match s1 σ with|.nx _=>s2 _|o=>o):=q;cases e:s1 σ with|nx σ'=>rw[e]at q;exact λf l j h s=>⟨_,j,h,Oq.mono s q⟩|bk σ'|ct σ'|rt w|ex c σ'|bad=>rw[e]at q;exact q
def aq(a:PS X st (loS B s1))(c:PSs X rest (loS B s2)):PSs X (st::rest) (loS B (WL.aL s1 s2)):=PSs.imp (eK a c) ajY
def ao(a:PS X st (loS B s1)):PSs X [st] (loS B s1):=kY a
def aG(f:PE X e (lo B ta)):PS X (.Return (some e) pos) (loS B (WL.cx ta)):=PS.imp (afA f) λD c H a=>by obtain⟨σ,F,R,q⟩:=a;have q:=Oq.ofR q;exact⟨σ,F,R,Rq.mono (aC.refl _) q λw d v j l h g r=>d v _ _ h.rb g.f r⟩
def cG (l:PT X c (loT B tt))(m:PSs X a (loS B s1))(j:PSs X d (loS B s2)):PS X (.If c a d pos) (loS B (WL.sIf tt s1 s2)):=PS.imp (ajj l m j) λD h H f=>by refine eg f λσ F R q=>?_;have q:=Oq.ofR q;refine cE σ F R (Rq.mono (aC.refl _) q λx n r p o g=>?_);cases x with|true|false=>exact⟨σ,p,o,Oq.mono g.f n⟩
def abH (f:∀a H Q,lo B ta a H Q->tV a H Q):∀D a H,loS B (WL.fN i ta) D a H->ai0 tV (L2.aF i) D a H:=λD a H c=>by obtain⟨σ,F,R,q⟩:=c;have q:=Oq.ofR q;exact f _ _ _ ⟨σ,F,R,Rq.mono (aC.refl _) q λw d v j l h g r=>d _ _ _ (h.set r) g.f⟩
def abG (f:∀c H Q,loL B l c H Q->tV c H Q):∀D c H,loS B (WL.sv i l) D c H->ai0 tV (L2.aF i) D c H:=λD c H d=>by refine eg d λσ F R q=>?_;have q:=Oq.ofR q;exact f _ _ _ (cE σ F R (Rq.mono (aC.refl _) q λws m a t u v s g o h p r n=>m _ _ _ (s.ak7 o h p r λj w _ e=>n j _ e) g.f))
def aiy (d:X.N.Nodup)(h:X.N[i]?=some x)(f:Loc X.env.scope x)(a:PE X e (lo B ta))(hs:swapsWith e (some (.Name x pos')) pos.line X.env=pure false:=by rfl)(c:FL X x:=by first|exact .inl rfl|exact .inr rfl|assumption):PS X (.Assign [.Name x pos'] e pos) (loS B (WL.fN i ta)):=PS.imp (pk d h f a hs c) (abH λ_ _ _ q=>q)
def uu  (d:X.N.Nodup)(h:X.N[i]?=some x)(f:Loc X.env.scope x)(a:PE X e (loL B l))(hs:swapsWith e (some (.Name x pos')) pos.line X.env=pure false:=by rfl)(c:FL X x:=by first|exact .inl rfl|exact .inr rfl|assumption):PS X (.Assign [.Name x pos'] e pos) (loS B (WL.sv i l)):=PS.imp (pk d h f a hs c) (abG λ_ _ _ q=>q)
def agn (l:X.N.Nodup)(h:X.N[i]?=some y)(n:X.env.scope.names.lookup y=some .local)(f:swapsWith (.ListComp elt [⟨tg,iter,ifs,0⟩] scope pos) (some (.Name y py)) spos.line X.env=pure true)(L:CompLook X scope)(j:X.calm=true)(o:ts.length=k)(q:Keeps k g)(s:PI X tg iter (loI B it))(m:∀C a c d,PG (X.comp scope C ts a c d) tg (loG true B.calm g))(r:∀C a c d,x5 (X.comp scope C ts a c d) ifs (loT B.calm tt))(p:∀C a c d,PE (X.comp scope C ts a c d) elt (lo B.calm ta))(hs:∀x,foldedSetIterable iter X.env x=pure x:=by intro _;rfl):PS X (.Assign [.Name y py] (.ListComp elt [⟨tg,iter,ifs,0⟩] scope pos) spos) (loS B (WL.fN i (WL.hE k it g tt ta))):=by subst o;exact PS.imp (ie l h n f L j s m r p hs) (abH (abI q))
def ada (l:X.N.Nodup)(h:X.N[i]?=some y)(n:X.env.scope.names.lookup y=some .local)(f:swapsWith (.ListComp elt [⟨tg,iter,ifs,0⟩] scope pos) (some (.Name y py)) spos.line X.env=pure true)(L:CompLook X scope)(j:X.calm=true)(o:ts.length=k)(q:Keeps k g)(s:PI X tg iter (loI B it))(m:∀C a c d,PG (X.comp scope C ts a c d) tg (loG true B.calm g))(r:∀C a c d,x5 (X.comp scope C ts a c d) ifs (loT B.calm tt))(p:∀C a c d,PE (X.comp scope C ts a c d) elt (lo B.calm ta))(hs:∀x,foldedSetIterable iter X.env x=pure x:=by intro _;rfl):PS X (.Assign [.Name y py] (.ListComp elt [⟨tg,iter,ifs,0⟩] scope pos) spos) (loS B (WL.sv i (WL.vl k it g tt ta))):=by subst o;exact PS.imp (ie l h n f L j s m r p hs) (abG (aej q))
def v9(n:PE X e (lo B ta))(p:PG X tg (loG false B g))(A:∀w σ c,g w σ≠.ex c)(hs:swapsWithSole [tg] e pos.line X.env=pure false:=by rfl)(hw:swappedStores [tg] e X.env=pure none:=by rfl)(l:(assignEach [tg] X.env).map (·.2)=[assign tg X.env]:=by rfl):PS X (.Assign [tg] e pos) (loS B (WL.ah3 ta g)):=PS.imp (afC n p hs hw l) λD j H a=>by refine eg a λσ F R q=>?_;have q:=Oq.ofR q;exact cE σ F R (Rq.mono (aC.refl _) q λw m v y t u d r=>agm σ t w u r (Rq.mono d.f (Oq.ofR m) λh s f z x R2 o=>s _ _ _ R2 (d.f.trans o.f)))
def afe(C:X.K=B.K)(h:PS X st (yt (tBM X.K "list" uM (kx i) (ji (lo B ta) aaE)))):PS X st (loS B (WL.ai7 i ta)):=PS.imp h λD j H n=>by refine eg n λσ F R q=>?_;have q:Oq B D F (match σ[i]? with|some (.ow ws)=>WL.ofR σ (ta σ) _|_=>.bad):=q;cases c:σ[i]? with|none=>rw[c]at q;exact q.elim|some sl=>rw[c]at q;cases sl with|no|va _|od _ _|ob=>exact q.elim|ow ws=>
   refine lP (R.ow i ws c) λa o p z u m r=>?_;have q:=Oq.ofR q;refine⟨.ref a,p,.inl ⟨rfl,o,SqL.of m⟩,σ,F,R,Rq.mono (aC.refl _) q λw d v A t x f y=>?_⟩;by_cases l:ws.length<WL.lim;.rw[apB l]at d;have s:=f.h a _ m;exact ak1 a o v rfl rfl s (by rw[<-r.length];exact apE l ik) (d j _ t (x.write c p (f.nf a _ m z) u s ((r.keep f.f).app (.one y))) f.f)
   .rw[apA l]at d;exact(d).elim
def v8(h:PS X st (loS B s1)):PS X st (loS B (WL.zR i s1)):=PS.imp h λD c H a=>by refine eg a λσ F R q=>?_;refine jK (R.frz i) λf s d _=>?_;exact⟨_,f,d,Oq.mono s q⟩
def aj0:∀D o H,loS B (WL.wO it g b) D o H->aol (loI B it) (loG false B g) (loS B b) D o H:=λD o H K=>by
 refine eg K λσ F R q=>?_;have q:=Oq.ofR q;refine cE σ F R (Rq.mono (aC.refl _) q λj qx J H1 O R1 S wk=>?_);refine⟨λi m d z=>m=j.length-i/\i<=j.length/\∃h l,RS B h d l z/\aC O l/\Oq B D l (WL.forL g b (j.drop i) h),⟨j.length,rfl,ap9 _,σ,O,R1,aC.refl _,by rw[asT];exact Oq.mono S.f qx⟩,?_⟩;rintro i m d z⟨rfl,a0,h,l,C,I,r⟩;by_cases p:i<j.length;.have T:=aqL p;rw[T]at r;obtain⟨go,Z⟩:=wk.go i j[i] (apy p) l z I C.rb.sub;refine .inr ⟨go,_,λa N h2=>⟨j.length-(i+1),by omega,rfl,p,h2⟩,λv N U=>?_⟩;refine fO (Z v N U) λF2 G r2=>?_;have r:=Oq.ofR r;refine agm h F2 j[i] (G.rs _ _ _ C) r2 (Rq.mono G.same r λu f M H3 P Y g3=>?_);refine cE u P Y ?_;have A:=G.same.trans g3.f;cases y:b u with|nx a|ct a=>rw[y]at f;exact λn E t x s=>⟨a,t,x,(I.trans A).trans s,Oq.mono (A.trans s) f⟩|bk a=>rw[y]at f;exact λn E t x s=>f n E t x (A.trans s)|rt w=>rw[y]at f;exact λQ E t x s=>f Q E t x (A.trans s)|ex c a=>rw[y]at f;exact B.mono c a l P A f|bad=>rw[y]at f;exact f
 .have ei:i=j.length:=by omega
  subst ei;rw[ars]at r;exact .inl ⟨wk.stop l z I C.rb.sub,r d z l C (aC.refl _)⟩
def i1 (d:PassesOwn (model X.prog X.w) X.A X.env X.xe)(a:X.calm=true)(h:PI X tg iter (loI B it))(c:PG X tg (loG false B g))(f:PSs X body (loS B b))(hs:∀x,foldedSetIterable iter X.env x=pure x:=by intro _;rfl):PS X (.For tg iter body [] pos) (loS B (WL.wO it g b)):=PS.imp (afB d a h c f hs) aj0
def ac8  (M:PassesOwn (model X.prog X.w) X.A X.env X.xe)(I:PT X c (loT B tt))(K:PSs X body (loS B b)):PS X (.While c body [] pos) (loS B (WL.pe n tt b)):=PS.imp (wW M I K) λD G H y=>by refine eg y λσ F R q=>?_;refine⟨λm f C=>∃a r,RS B a f r C/\Oq B D r (WL.i2 tt b m a),⟨n σ,σ,F,R,q⟩,?_⟩;rintro m f C⟨a,r,O,t⟩;cases m with|zero=>exact(t).elim|succ m=>have t:=Oq.ofR t;refine cE a r O (Rq.mono (aC.refl _) t λx d E v A l=>?_);cases x with|false=>rw[apA apW];exact d f E v A l.f|true=>refine⟨_,λz P N=>⟨m,aqT m,N⟩,a,v,A,?_⟩;cases p:b a with|nx σ2|ct σ2=>rw[p]at d;exact λh u o j s=>⟨σ2,o,j,Oq.mono (l.f.trans s) d⟩|bk σ2=>rw[p]at d;exact λh u o j s=>d h u o j (l.f.trans s)|rt w=>rw[p]at d;exact λJ u o j s=>d J u o j (l.f.trans s)|ex c σ2=>rw[p]at d;exact B.mono c σ2 r v l.f d|bad=>rw[p]at d;exact d
end
def spW(K:W.Frag)(n:Nat)(f:List VW->Res VW):Sp:=λd H Q _=>∃F ws,aC F H/\RWs K F ws d/\ws.length=n/\match f ws with|.ok w=>∀v c b,aC F b->aC b c->aC H c->(∀a o,b a=some o->F a=some o\/H a=none/\NF o)->RW K b w v->Q v c|_=>False
section
variable{P:Program}{w:World}{K:W.Frag}{mg:Str->Option Value}{base:Heap}
theorem RS.start{N F H ws vs}(s:aC F H)(r:RWs K F ws vs)(A:ws.length<=N.length):RS ⟨K,H,F,λ_ _ _=>False,λ_ _ _ _ _ h=>h⟩ (ws.map .va++List.replicate (N.length-ws.length) .no) (L2.start N vs) F H:=by
 have q:=r.length;have b:∀{i:Nat}{c:Sl},(ws.map Sl.va++List.replicate (N.length-ws.length) Sl.no)[i]?=some c->c≠.no->∃u,ws[i]?=some u/\c=.va u:=λ{i c}e B=>by grind
 refine⟨⟨s,aC.refl _,aC.refl _,λa o h=>.inl h⟩,by simp[L2.start,q],λi u e=>?_,λi k e=>?_,λi j k d a f g y _ _=>?_,λi p k e=>?_,λi j p k t d a f g y _ _=>?_,λi e=>?_⟩;rotate_left 3;.refine fO (b e (by intro z;cases z)) λx ex h=>?_;cases h
 .obtain⟨x,ex,h⟩:=b g (by intro z;cases z);cases h
 .obtain⟨x,ex,h⟩:=b e (by intro z;cases z);cases h
 .refine fO (b e (by intro z;cases z)) λx ex h=>?_;cases h;obtain⟨v,l,n⟩:=r.get ex;refine⟨v,?_,n⟩;have m:i<vs.length:=(apC.mp l).1;unfold L2.start;rw[aqp (by simpa using m),apX,l];rfl
 .obtain⟨x,ex,h⟩:=b e (by intro z;cases z);cases h
 .obtain⟨x,ex,h⟩:=b g (by intro z;cases z);cases h
end
section
variable{X:Cx}{B:Bx}{k:Nat}{f:Addr}{fd:FuncData}{ps:List Str}{fn:List VW->Res VW}{x:Str}{p pos:Pos}{e:Expr}{es:List Expr}{tas:AF}{n:Nat}
def abJ(D:X.K=B.K){E}(A:∀σ ws,tas σ=.ok ws->ws.length=n):∀b H Q,lo B (WL.aK fn tas) b H Q->yu (spW X.K n fn) [] E (loA B tas) b H Q:=by intro b H Q⟨σ,F,R,q⟩;have q:=Rq.bind q;refine cE σ F R ?_;cases l:tas σ with|bad|ex c=>rw[l]at q;exact q|ok ws=>rw[l]at q;intro O N t d C G;rw[aqf,D];refine zN t ws d.rb.sub G (A σ ws l) ?_;have g:Rq B σ F (match fn ws with|.ok w=>.ok w|_=>.bad) _:=q;cases r:fn ws with
|bad|ex c=>rw[r]at g;exact g.elim
|ok w=>rw[r]at g;intro v j h u J y fr K;have s:Gr t _ h j:=⟨u,y,λa o M i=>by cases m:h a with|none=>rfl|some o2=>
  rcases fr a o2 m with z|z;.rw[i]at z;cases z
  .rw[M]at z;cases z.1⟩;have I:RB B h j:=⟨J,d.rb.base.trans y,d.rb.fz0.trans u,λa o m=>by
  rcases fr a o m with z|z;.exact d.rb.fr a o z
  .exact .inr ⟨d.rb.base.free z.1,z.2⟩⟩;exact g v j h (d.grow s I) (C.trans s) K
def uw(o:X.K=B.K)(F:FnOk X.prog X.w X.K X.mg X.base CX0 k f fd ps (spW X.K n fn))(i:Room k X.A)(h:Gl X x)(g:X.mg x=some (.ref f))(m:W.keepIn X.K (.ref f)=true)(l:Binds X.K fd ps [])(d:PA X (e::es) (loA B tas))(j:∀σ ws,tas σ=.ok ws->ws.length=n)(b:Dbg x:=by decide)(c:SE X e es:=by rfl)(a:BT X pos es:=by rfl):PE X (.Call (.Name x p) (e::es) [] pos) (lo B (WL.aK fn tas)):=PE.imp (qq F i h g m l .nil abk d b c a) (abJ o j)
def adm(l:X.K=B.K)(F:FnOk X.prog X.w X.K X.mg X.base CX0 k f fd ps (spW X.K 0 fn))(g:Room k X.A)(d:Gl X x)(c:X.mg x=some (.ref f))(i:W.keepIn X.K (.ref f)=true)(j:Binds X.K fd ps [])(a:Dbg x:=by decide):PE X (.Call (.Name x p) [] [] pos) (lo B (WL.aK fn WL.aA)):=PE.imp (adZ F g d c i j .nil abk a) λb H Q q=>by have h:=abJ (E:=E0) l λσ ws e=>by cases e;rfl _ H Q q;refine eg h λσ F R h=>?_;exact h _ H F R Gr.refl (rfl)
def je:∀σ(ws:List VW),WL.aA σ=.ok ws->ws.length=0:=λσ ws e=>by cases e;rfl
def cL (h:∀σ(ws:List VW),tas σ=.ok ws->ws.length=n):∀σ(ws:List VW),WL.ae t tas σ=.ok ws->ws.length=n+1:=λσ ws q=>by have q:(t σ).bind _=.ok _:=q;cases b:t σ with|bad|ex c=>rw[b]at q;cases q|ok x=>rw[b]at q;cases a:tas σ with|bad|ex c=>rw[a]at q;cases q|ok xs=>rw[a]at q;cases q;simp[h σ _ a]
end
def aaJ(K:W.Frag):Sp:=λd H Q _=>∃(a:Addr)(b:List Int),d=[.ref a]/\SqL K H a (b.map V.int)/\b.length<=63/\∀c,Q (.bl true) c
def aj1{P w K g b k f i ps j}(G:FnOk P w K g b CX0 k f i ps (spW K 1 j))(h:∀c:List Int,c.length<=63->j [.lst (c.map .int)]=.ok (.bl true)):FnOk P w K g b CX0 k f i ps (aaJ K):=G.imp λn H Q E d=>by refine lD d λa c e m l q=>?_;subst e;refine⟨H,[.lst _],aC.refl _,.one (by exact⟨a,_,rfl,m,RWs.ints _⟩),rfl,?_⟩;rw[h _ l];intro v o p _ _ _ _ r;subst r;exact q _
section
variable{X:Cx}{K:W.Frag}
def q5:∀a c,WL.ae1 a≠.ex c:=λa c h=>by
 unfold WL.ae1 at h;split at h;.split at h<;>cases h
 .cases h
theorem acX{F}:∀{xs vs b},RWs K F xs vs->WL.allB xs=some b->∃bs:List Bool,vs=bs.map V.bl/\bs.all id=b|[],vs,b,r,e=>by subst r;cases e;exact⟨[],rfl,rfl⟩|x::xs,vs,b,r,e=>by obtain⟨v,t,rfl,q,s⟩:=r;cases x with
 |bl k=>simp only[WL.allB]at e;cases a:WL.allB xs with|none=>rw[a]at e;cases e|some c=>rw[a]at e;cases e;obtain⟨bs,rfl,h⟩:=acX s a;subst q;exact⟨k::bs,rfl,by simp only[asm,id,h]⟩
 |_=>simp[WL.allB]at e
set_option tactic.hygienic true
def w_all(i:X.calm=true)(j:X.K=K):bV X (.builtin "all") (loN K WL.ae1):=by subst j;refine bV.imp (acT i) λo H Q g=>?_;refine hJ g λF ws s r q=>?_;cases e:WL.ae1 _ with|bad|ex c=>rw[e]at q;exact q.elim|ok w=>
  rw[e]at q;unfold WL.ae1 at e;split at e
  .split at e;.rename_i b m;cases e;obtain⟨v,rfl,h⟩:=fS r;refine hJ h λa n d k l=>?_;subst d;obtain⟨bs,rfl,f⟩:=acX l m;subst f;exact⟨a,bs,rfl,s.seq k,eq1 q (rfl)⟩
   .cases e
  .cases e
set_option tactic.hygienic false
end
section
variable{X:Cx}{B:Bx}{K:W.Frag}{o e:Expr}{es:List Expr}{to ta:EF}{tas:AF}{pos apos cpos:Pos}
def acw{P w K l c x b st f i N ps k m}(n:Fun K x b st f i)(S:FnScope N ps (ah st))(u:ps.length=m):FnOk P w K l c CX0 k f i ps (spW K m λ_=>.bad):=⟨λj H Q E a=>by refine lD a λ_ _ _ _ _ h=>?_;exact h.elim,λA d s H g v j Q E q p t y r a=>by refine lD a λ_ _ _ _ _ h=>?_;exact h.elim⟩
noncomputable def ae3:List (EF×EF)->AF|[]=>WL.aA|p::ps=>WL.ae p.1 (WL.ae p.2 (ae3 ps))
def PD(X:Cx)(B:Bx)(pos:Pos)(keys:List (Option Expr))(b:List Expr)(a:AF):Prop:=∃c:List (EF×EF),PPs X pos keys b (c.map λp=>(lo B p.1,lo B p.2))/\a=ae3 c
def afi:PD X B pos [] [] WL.aA:=⟨[],ag3,rfl⟩
def kB{k v:Expr}{ks:List (Option Expr)}{vs:List Expr}{tk tv:EF}{a:AF}(f:PE X k (lo B tk))(b:PE X v (lo B tv))(d:PD X B pos ks vs a):PD X B pos (some k::ks) (v::vs) (WL.ae tk (WL.ae tv a)):=by obtain⟨c,h,rfl⟩:=d;exact⟨(tk,tv)::c,adO f b h,rfl⟩
theorem xf{σ:Ws}{b:L2.St}:∀(ps:List (EF×EF)){F H:Hp}(R:RS B σ b F H){k:List VW->Prop}(q:Rq B σ F (ae3 ps σ) k){Q:List (V×V)->Hp->Prop}(c:∀ws a f d,k ws->RS B σ b f d->Gr F H f d->RWs B.K f ws (a.flatMap λp=>[p.1,p.2])->Q a d),wt (ps.map λp=>(lo B p.1,lo B p.2)) b H Q|[],F,H,R,k,q,Q,c=>c [] [] F H q R Gr.refl (by simp[RWs])|p::ps,F,H,R,k,q,Q,c=>by have q:=Rq.bind (show Rq B σ F ((p.1 σ).bind λx=>(WL.ae p.2 (ae3 ps) σ).bind λE=>.ok (x::E)) k from q);refine⟨σ,F,R,Rq.mono (aC.refl _) q λx i n G w D g t=>?_⟩;have i:=Rq.bind (Rq.bind i);refine⟨σ,w,D,Rq.mono g.f i λy l r d f R2 h v=>?_⟩;have l:=Rq.bind l;refine xf ps R2 (Rq.mono (g.f.trans h.f) l λ_ z=>z) λws a m A C s j u=>?_;refine c (x::y::ws) ((n,r)::a) m A C s ((g.trans h).trans j) ?_;show RWs B.K m (x::y::ws) (n::r::a.flatMap λp=>[p.1,p.2]);exact .cons ((t.keep h.f).keep j.f) (.cons (v.keep j.f) u)
theorem rS{F:Hp}:∀{ws ks vs:List VW}{a:List (V×V)},WL.hY ws=some (ks,vs)->RWs K F ws (a.flatMap λp=>[p.1,p.2])->∃b:List (Key×V),a=b.map (λd=>(kV d.1,d.2))/\RWs K F ks (b.map λp=>kV p.1)/\RWs K F vs (b.map λp=>p.2)
|[],ks,vs,a,e,r=>by simp only[WL.hY]at e;cases e;cases a with|nil=>exact⟨[],rfl,by simp[RWs],by simp[RWs]⟩|cons p a=>simp[RWs]at r
|[w],ks,vs,a,e,r=>by cases w<;>simp[WL.hY]at e|w::u::ws,ks,vs,a,e,r=>by cases w with
 |str k=>simp only[WL.hY]at e;cases c:WL.hY ws with|none=>rw[c]at e;cases e|some p=>rw[c]at e;cases e;cases a with|nil=>simp[RWs]at r|cons pv a=>obtain⟨l,g⟩:=pv;have r:RWs K F (.str k::u::ws) (l::g::a.flatMap λp=>[p.1,p.2]):=r;simp only[RWs]at r;obtain⟨q,s,h,f,v,t,n,i,r⟩:=r;cases h;cases n;obtain⟨b,rfl,j,m⟩:=rS c r;simp only[RW]at f;subst f;exact⟨(Sum.inr k,g)::b,rfl,.cons (by simp[RW,kV]) j,.cons i m⟩
 |_=>simp[WL.hY]at e
theorem nv:∀(kvs a:List (Key×V)),(∀p∈kvs,ug a p.1=none)->kvs.Pairwise (λp q=>p.1≠q.1)->j7 a kvs=a++kvs
|[],a,_,_=>by simp[j7]|p::kvs,a,h,hp=>by
 rw[List.pairwise_cons]at hp;show j7 (putK a p.1 p.2) kvs=_;rw[adN _ (h p (by simp)),nv kvs _ (λq b=>?_) hp.2];.simp
 .rw[rL _ _ _ _ (h p (by simp)),apA (apO (hp.1 q b))];exact h q (by simp[b])
theorem x4{F:Hp}:∀{ks:List VW}{kvs:List (Key×V)},WL.cK ks=true->RWs K F ks (kvs.map λp=>kV p.1)->kvs.Pairwise λp q=>p.1≠q.1
|[],kvs,_,r=>by cases kvs with|nil=>exact .nil|cons p kvs=>simp[RWs]at r
|w::ks,kvs,h,r=>by cases kvs with|nil=>simp[RWs]at r|cons p kvs=>simp only[apU,RWs]at r;obtain⟨v,t,e,q,r⟩:=r;cases e;cases w with
 |str k=>
  simp only[WL.cK,apT]at h;refine List.pairwise_cons.mpr ⟨λd g=>?_,x4 h.2 r⟩;simp only[RW]at q;intro z;rw[z]at q;have f:∃w∈ks,RW K F w (kV d.1):=by have:kV d.1∈kvs.map λp=>kV p.1:=aqi.mpr ⟨d,g,rfl⟩;obtain⟨i,m,n⟩:=aq6 this;obtain⟨w,c,l⟩:=RWs.get' r (apy m);rw[n]at l;exact⟨w,arY c,l⟩
  obtain⟨w,hw,a⟩:=f;rw[q]at a;have c:=h.1;simp only[Bool.not_eq_true',List.any_eq_false]at c;have:=c w hw;cases w with|str y=>simp only[RW]at a;cases a;simp at this|non=>simp[RW]at a|bl b=>simp[RW]at a|int i=>simp[RW]at a|ty i=>simp[RW]at a|tup i=>simp[RW]at a|lst i=>simp[RW]at a|dic i j=>simp[RW]at a|cls i=>simp[RW]at a|exc i j=>simp[RW]at a|ins i j=>simp[RW]at a|id i=>simp[RW]at a
 |_=>simp[WL.cK]at h
def RS.put{σ:Ws}{c:L2.St}{F H:Hp}(R:RS B σ c F H){p:Addr}{o o':HO}(g:F p=none)(q:B.H0 p=none)(J:H p=some o)(M:∀I,o≠.lst I)(nd:∀(j:Nat)(k l:List VW),σ[j]?=some (.od k l)->c[j]?≠some (some (.ref p)))(s:NF o':=by trivial):RS B σ c (upd F p o') (upd H p o'):=by
 refine⟨⟨λb u e=>?_,λb u e=>?_,R.rb.fz0.trans (aD g _),λa u e=>?_⟩,R.len,λi w e=>?_,λi ws e=>?_,R.ap,R.dd.via rfl id (λ_ _ z=>.inl z) (λ_ _ _ e=>⟨e,rfl⟩) (aD g _) λj k l b x D A y t E=>by
 have f:b≠p:=λz=>by subst z;exact nd j k l D A
 exact⟨by rw[ak f];exact t,E,by rw[ak f];exact y⟩⟩
 .by_cases d:b=p;.subst d;rw[av]at e⊢;exact e
  .rw[ak d]at e⊢;exact R.rb.sub b u e
 .have d:b≠p:=λz=>by subst z;rw[q]at e;cases e
  rw[ak d];exact R.rb.base b u e
 .by_cases d:a=p;.subst d;rw[av]at e;cases e;exact .inr ⟨q,s⟩
  .rw[ak d]at e;exact R.rb.fr a u e
 .obtain⟨v,h,n⟩:=R.va i w e;exact⟨v,h,n.keep (aD g _)⟩
 .obtain⟨a,r,h,n,C,m,G⟩:=R.ow i ws e;have f:a≠p:=λz=>by subst z;rw[J]at m;cases m;exact M r rfl
  exact⟨a,r,h,by rw[ak f];exact n,C,by rw[ak f];exact m,G.keep (aD g _)⟩
def afh{keys:List (Option Expr)}{c:List Expr}{a:AF}(h:PD X B pos keys c a)(m:keys.all (·.isSome)=true:=by rfl)(hl:keys.length=c.length:=by rfl)(Z:keys≠[]:=by intro z;cases z)(w:keys.length<=15:=by decide):PE X (.Dict keys c pos) (lo B (WL.alJ a)):=by obtain⟨I,O,rfl⟩:=h;refine PE.imp (aha O m hl Z w) λJ H Q A=>?_;obtain⟨σ,F,R,q⟩:=A;intro p k;have q:=Rq.bind q;have hF:=R.rb.sub.free k;have x:=R.rb.base.free k;refine xf I (R.anf k (.dK [])) q λws N F2 S f R2 n T=>?_;have i:F2 p=none:=n.nf p _ av hF;have s:S p=some (.dK []):=n.h p _ av;cases e:WL.hY ws with|none=>rw[e]at f;exact(show False from f).elim|some kv=>
  obtain⟨g,E⟩:=kv;rw[e]at f;obtain⟨d,rfl,y,P⟩:=rS e T;by_cases t:(WL.cK g&&decide (g.length<=15))=true
  .have f:Rq B σ F (if(WL.cK g&&decide (g.length<=15))=true then Res.ok (WL.W.dic g E)else Res.bad) _:=f;rw[apB t]at f;rw[apT]at t;have hm:j7 [] d=d:=by rw[nv d [] (λ_ _=>rfl) (x4 t.1 y)];rfl
   refine⟨s,d,rfl,?_,?_⟩;.have:=y.length;rw[apR]at this;have:=of_decide_eq_true t.2;omega
   .rw[hm];have a0:H p=none:=k;refine(show∀v H' F',_ from f) (.ref p) _ _ (R2.put i x s (λxs z=>by cases z) λj g U Y M=>by obtain⟨b,D,C,_,_,G,_⟩:=R.dd.od j g U Y;rw[M]at C;cases C;rw[k]at G;cases G) ⟨n.f.trans (aD i _),λb u l=>?_,λb u l z=>?_⟩ ?_
    .have r:b≠p:=λz=>by subst z;rw[k]at l;cases l
     rw[ak r];exact n.h b u (by rw[ak r];exact l)
    .have r:b≠p:=λz=>by subst z;rw[k]at l;cases l
     rw[ak r];exact n.nf b u (by rw[ak r];exact l) z
    .simp only[RW];exact⟨p,d,rfl,.inl av,y.keep (aD i _),P.keep (aD i _)⟩
  .have f:Rq B σ F (if(WL.cK g&&decide (g.length<=15))=true then Res.ok (WL.W.dic g E)else Res.bad) _:=f;rw[apA t]at f;exact(show False from f).elim
def af2{F}:∀k u,WL.nT k [] []=some u->∃v,List.lookup k []=some v/\RW K F u v:=λk u h=>by simp[WL.nT]at h
def ir{F x b a}{ks vs:List VW}{kvs}(c:RW K F b a)(h:∀k u,WL.nT k ks vs=some u->∃v,kvs.lookup k=some v/\RW K F u v):∀k u,WL.nT k (.str x::ks) (b::vs)=some u->∃v,List.lookup k ((x,a)::kvs)=some v/\RW K F u v:=λk u e=>by
 simp only[WL.nT]at e;by_cases f:x=k;.subst f;simp at e;subst e;exact⟨a,by simp,c⟩
 .obtain⟨v,g,d⟩:=h k u (by grind);exact⟨v,by grind,d⟩
def aiF{a i c a0 kvs}{ks vs:List VW}(x:X.K=B.K)(r:PE X a (tC (.ref a0)))(D:acY X.w X.K a0 kvs)(m:PE X i (lo B c))(s:∀F k w,WL.nT k ks vs=some w->∃v,kvs.lookup k=some v/\RW B.K F w v)(hs:jI i):PE X (.Subscript a i pos) (lo B (WL.eOp WL.oIx (WL.eC (.dic ks vs)) c)):=PE.imp (ag9 (aeu D) r m hs) λh H Q d=>by refine eg d λσ F R q=>?_;have q:=Rq.bind (show Rq B σ F ((c σ).bind _) _ from q);refine cE σ F R (Rq.mono (aC.refl _) q λy b v g f n l p=>?_);cases y with
 |str k=>have b:Rq B σ F (WL.ofO _) _:=b;cases e:WL.nT k ks vs with|none=>rw[e]at b;exact b.elim|some w=>rw[e]at b;refine fO (s f k w e) λu j t=>?_;exact⟨rfl,k,u,p,j,b u g f n l t⟩
 |_=>exact(b).elim
end
end WS
set_option autoImplicit true
set_option relaxedAutoImplicit true
namespace WS
open PySem PySem.Spec PyProof.Rows L2
open WL(Res Sl Ws EF TF AF LF GF GsF SF Out XF XA FS Fs KO KF OX RF Sr)
def XR(K:W.Frag)(F:Hp):VW->Addr->Option Addr->Prop|.exc nm fs,C,dx=>ExcAt K nm C/\∃a:List (Str×V),a.map (·.1)=WL.fieldsOf nm/\RWs K F fs (a.map (·.2))/\(a=[]/\dx=none\/∃d,dx=some d/\F d=some (.xd a))|_,_,_=>False
theorem XR.keep{K F F'}(s:aC F F'){c C dx}(h:XR K F c C dx):XR K F' c C dx:=by cases c with|exc nm fs=>obtain⟨i,f,j,e,k⟩:=h;exact⟨i,_,j,e.keep s,k.imp (λz=>z) λa=>by obtain⟨d,b,g⟩:=a;exact⟨d,b,s _ _ g⟩⟩|_=>exact h
def XR.is{K F c C dx}(h:XR K F c C dx):∃a fs,c=.exc a fs/\ExcAt K a C:=by cases c with|exc a fs=>exact⟨a,fs,rfl,h.1⟩|_=>exact h.elim
def XW(X:Cx)(B:Bx):Prop:=∀(b:List (Addr×Obj))(a:L2.St)(H:Hp)(s:Shared)(σ:Ws)(F:Hp)(c:VW),RS B σ a F H->B.xp c σ F->∀(e C:Addr)(d T:Option Addr)(f:Value),Thr X b a H s e C d f T->XR X.K F c C d->X.xe (.ref e) s
abbrev Bx.wc(B:Bx)(a:VW->Ws->Hp->Prop)(mono:∀c σ F b,aC F b->a c σ F->a c σ b):Bx:=⟨B.K,B.H0,B.F0,a,mono⟩
abbrev Bx.never(B:Bx):Bx:=B.wc (λ_ _ _=>False) λ_ _ _ _ _ h=>h
def vY (h:∀c σ F,¬B.xp c σ F):XW X B:=λ_ _ _ _ σ F c _ q=>(h c σ F q).elim
section
variable{B B':Bx}{σ:Ws}{σV:L2.St}{F H:Hp}
def RB.box(R:RB B F H)(b:B'.H0=B.H0)(c:B'.F0=B.F0):RB B' F H:=⟨R.sub,b▸R.base,c▸R.fz0,λa o e=>by rw[b,c];exact R.fr a o e⟩
theorem RS.box(R:RS B σ σV F H)(b:B'.K=B.K)(a:B'.H0=B.H0)(c:B'.F0=B.F0):RS B' σ σV F H:=⟨R.rb.box a c,R.len,λi w e=>by rw[b];exact R.va i w e,λi ws e=>by rw[b,a];exact R.ow i _ e,R.ap,by rw[b,a];exact R.dd⟩
end
section
variable{X:Cx}{B:Bx}{k:Nat}{f:Addr}{fd:FuncData}{ps:List Str}{fn:List VW->Res VW}{x:Str}{p pos np hpos cpos:Pos}{e:Expr}{es:List Expr}{tas:AF}{n:Nat}{st:Stmt}
def spX(K:W.Frag)(n:Nat)(f:List VW->Res VW):Sp:=λh H Q E=>∃F ws,aC F H/\RWs K F ws h/\ws.length=n/\match f ws with|.ok w=>∀v d b,aC F b->aC b d->aC H d->(∀a o,b a=some o->F a=some o\/H a=none/\NF o)->RW K b w v->Q v d|.ex c=>∀C g d b,aC F b->aC b d->aC H d->(∀a o,b a=some o->F a=some o\/H a=none/\NF o)->XR K b c C g->E (.ref C) g d|.bad=>False
def RS.ext3{σ d h c b j}(i:RS B σ d h c)(q:aC h b)(s:aC b j)(r:aC c j)(fr:∀a o,b a=some o->h a=some o\/c a=none/\NF o):Gr h c b j/\RS B σ d b j:=by
 have g:Gr h c b j:=⟨q,r,λa o t l=>by cases m:b a with|none=>rfl|some o2=>
  rcases fr a o2 m with z|z;.rw[l]at z;cases z
  .rw[t]at z;cases z.1⟩;exact⟨g,i.grow g ⟨s,i.rb.base.trans r,i.rb.fz0.trans q,λa o m=>(fr a o m).elim (λz=>i.rb.fr a o z) λz=>.inr ⟨i.rb.base.free z.1,z.2⟩⟩⟩
def wF{σ a F H l D ws vs us Q}(J:X.K=B.K)(R:XW X B)(G:RS B σ a l D)(g:Gr F H l D)(r:RWs B.K l ws vs)(P:ws.length=n)(q:Rq B σ F (fn ws) λw=>∀v h z,RS B σ a z h->Gr F H z h->RW B.K z w v->Q v h)(S:us=vs):∃E:XK,spX X.K n fn us D Q E/\∀b s e C i T h,Thr X b a h s e C i .none (some T)->E (.ref C) i h->X.xe (.ref e) s:=by
 rw[J,S];refine⟨λC i j=>∃o d c,C=.ref o/\RS B σ a d j/\B.xp c σ d/\XR B.K d c o i,⟨l,ws,G.rb.sub,r,P,?_⟩,λb s e C i T h t⟨o,d,c,M,R2,N,A⟩=>?_⟩;.cases u:fn ws with|bad=>rw[u]at q;exact q.elim|ok w=>rw[u]at q;intro v j d m y I fr O;obtain⟨K,R2⟩:=G.ext3 m y I fr;exact q v j d R2 (g.trans K) O|ex c=>rw[u]at q;intro C i j d m y I fr A;obtain⟨K,R2⟩:=G.ext3 m y I fr;exact⟨C,d,c,rfl,R2,B.mono c σ F d (g.f.trans m) q,A⟩
 .cases M;exact R b a h s σ d c R2 N e C i (some T) _ t (by rw[J];exact A)
def aem(l:X.K=B.K)(j:XW X B)(h:∀σ ws,tas σ=.ok ws->ws.length=n):∀a H Q,lo B (WL.kg fn tas) a H Q->wu X (spX X.K n fn) [] (loA B tas) a H Q:=by intro a H Q⟨σ,F,R,q⟩;have q:=Rq.bind q;refine cE σ F R ?_;cases b:tas σ with|bad|ex c=>rw[b]at q;exact q|ok ws=>rw[b]at q;exact λo m r d i g=>wF l j d i g (h σ ws b) q (aqf _)
def adl(q:X.K=B.K)(l:XW X B)(F:FnOk X.prog X.w X.K X.mg X.base (CXX X.prog X.w) k f fd ps (spX X.K n fn))(i:Room k X.A)(h:Gl X x)(g:X.mg x=some (.ref f))(o:W.keepIn X.K (.ref f)=true)(m:Binds X.K fd ps [])(d:PA X (e::es) (loA B tas))(j:∀σ ws,tas σ=.ok ws->ws.length=n)(b:Dbg x:=by decide)(c:SE X e es:=by rfl)(a:BT X pos es:=by rfl):PE X (.Call (.Name x p) (e::es) [] pos) (lo B (WL.kg fn tas)):=PE.imp (w6 F i h g o m .nil d b c a) (aem q l j)
def adb (J:X.K=B.K)(G:XW X B)(l:X.calm=true)(E:Gl X x)(A:X.mg x=some (.ref C))(q:rD X.K C none)(r:ExcAt X.K nm C)(z:WL.fieldsOf nm=[])(w:PA X (e::es) (loA B tas))(o:Dbg x:=by decide)(y:SE X e es:=by rfl)(a:BT X cpos es:=by rfl):PS X (.Raise (some (.Call (.Name x np) (e::es) [] cpos)) none pos) (loS B (WL.wN nm tas)):=PS.imp (wX l E A q w o y a) λD d H h=>by
 refine eg h λσ F R q=>?_;have q:=Oq.ofR q;refine cE σ F R (Rq.mono (aC.refl _) q λws c I j i u m v=>?_);by_cases g:ws.length<=100;.rw[apB g]at c;exact⟨by rw[<-v.length];exact apD g (by decide),λb s e t=>G b d j s σ i _ u (B.mono _ σ F i m.f c) e C none none _ t ⟨r,[],by rw[z];rfl,by simp[RWs],.inl ⟨rfl,rfl⟩⟩⟩
 .rw[apA g]at c;exact(c).elim
theorem Oq.box  (l:B'.K=B.K)(a:B'.H0=B.H0)(b:B'.F0=B.F0)(g:∀c σ,o=.ex c σ->B'.xp c σ F)(h:Oq B D F o):Oq B' D F o:=by cases o with|nx σ|bk σ|ct σ=>exact λd i j R s=>h _ _ _ (R.box l.symm a.symm b.symm) s|rt w=>exact λv i j R s r=>h v _ _ (R.box a.symm b.symm) s (by grind)|ex c σ=>exact g c σ rfl|bad=>exact h
def Oq.apl{f:VW->Ws->Out}(g:B'.K=B.K)(a:B'.H0=B.H0)(b:B'.F0=B.F0)(d:∀c σ,Oq B D F (f c σ)->B'.xp c σ F)(h:Oq B D F (match o with|.ex c σ=>f c σ|o=>o)):Oq B' D F o:=by cases o with|ex c σ=>exact d c σ h|_=>exact Oq.box g a b (λ_ _ z=>by cases z) h
end
section
variable{P:Program}{w:World}{K:W.Frag}{mg:Str->Option Value}{base:Heap}
def qY{x a st f C N ps k m n}{D:List VW->Res VW}(t)(J:Fun K x a st f C)(S:FnScope N ps (ah st))(M:N.length=n)(g:ps.length=m)(q:WL.run n t=D)(U:ps.length<=N.length)(h:∀d A b s H E B,B.K=K->Room k (A.deeper (envOfC a (ah st) s.heap.objs.size f d))->XW (ky CX0 P w K mg base N a (ah st) f d A b s H E).nox B->PassesOwn (model P w) (A.deeper (envOfC a (ah st) s.heap.objs.size f d)) (envOfC a (ah st) s.heap.objs.size f d) (λ_ _=>False)->PSs (ky CX0 P w K mg base N a (ah st) f d A b s H E).nox (bN st) (loS B t)):FnOk P w K mg base CX0 (k+1) f C ps (spW K m D):=by subst M g q;refine J.ok S (λR H Q E i=>by refine lD i λF ws _ r G _=>?_;rw[<-r.length];exact G) λd A b s H R Q E T i=>?_;refine lD i λF ws O r G g=>?_;refine⟨_,h d A b s H E _ rfl T (vY λ_ _ _ z=>z) PassesOwn.never,_,F,RS.start O r (by omega),?_⟩;unfold WL.run at g;cases e:t _ with|rt w=>rw[e]at g;exact λv y o l j u=>g v y o j l.sub l.base l.fr u|nx σ'=>rw[e]at g;exact λI y o p j=>g .non y o j p.rb.sub p.rb.base p.rb.fr (rfl)|bk σ'|ct σ'|ex c σ'|bad=>rw[e]at g;exact g.elim
def qX{x b st f R N ps k m n}{U:List VW->Res VW}(t)(Fn:Fun K x b st f R)(S:FnScope N ps (ah st))(hn:N.length=n)(g:ps.length=m)(I:WL.run n t=U)(a2:ps.length<=N.length)(h:∀d A a s H E B,B.K=K->Room k (A.deeper (envOfC b (ah st) s.heap.objs.size f d))->XW (ky (CXX P w) P w K mg base N b (ah st) f d A a s H E) B->PassesOwn (model P w) (ky (CXX P w) P w K mg base N b (ah st) f d A a s H E).A (ky (CXX P w) P w K mg base N b (ah st) f d A a s H E).env (ky (CXX P w) P w K mg base N b (ah st) f d A a s H E).xe->PSs (ky (CXX P w) P w K mg base N b (ah st) f d A a s H E) (bN st) (loS B t)):FnOk P w K mg base (CXX P w) (k+1) f R ps (spX K m U):=by subst hn g I;refine aip Fn.ex λoc od kV a1 pm an d ct a0 z lk y=>?_;subst z;refine ahz lk y S (λvs H Q E q=>by refine lD q λF ws _ r X _=>?_;rw[<-r.length];exact X) λA a s H vs Q E hr _ q=>?_;refine lD q λF ws sm r X g=>?_;let O:Bx:=⟨K,H,F,λ_ _ _=>False,λ_ _ _ _ _ h=>h⟩;let B1:Bx:=O.wc (λc _ u=>∀C l j i,aC u i->RB O i j->XR K i c C l->E (.ref C) l j) λc σ u F2 s h C l j i o=>h C l j i (s.trans o);refine⟨_,h d A a s H E B1 rfl hr (λM Z H1 s1 σ u c R1 xp e C l T fl t D=>abK t (xp C l H1 u (aC.refl _) (R1.rb.box rfl rfl) D)) PassesOwn.leaving,_,F,(RS.start sm r (by omega)).box rfl rfl rfl,?_⟩;unfold WL.run at g;cases e:t _ with|rt w=>rw[e]at g;exact λv j i p o J=>g v j i o p.sub p.base p.fr J|nx σ'=>rw[e]at g;exact λY j i G o=>g .non j i o G.rb.sub G.rb.base G.rb.fr (rfl)|bk σ'|ct σ'=>rw[e]at g;exact g.elim|ex c σ'=>rw[e]at g;exact λC l j i o p D=>g C l j i o p.sub p.base p.fr D|bad=>rw[e]at g;exact g.elim
end
def nY:bootBuiltins "ValueError"=some (.type "ValueError"):=by decide+kernel
structure Exc1(K:W.Frag)(FE Ca:Addr):Prop where
 ty:W.typeIn K (.ref Ca)=some (.type "type")mro:(W.clsIn K Ca).map (·.mro)=some (.ref Ca::gq)/\Ca=FE\/(W.clsIn K Ca).map (·.mro)=some (.ref Ca::.ref FE::gq)ga:W.findIn K (.ref Ca) "__getattribute__"=some (some (.builtin "BaseException.__getattribute__"))gn:W.findIn K (.ref Ca) "__getattr__"=some none
 cl:W.findIn K (.ref Ca) "__class__"=some (some (.builtin "object.__class__"))
structure ExcAll(K:W.Frag):Prop where
 k:∀nm Ca,ExcAt K nm Ca->ExcK K Ca
 is:∀nm Ca d D,ExcAt K nm Ca->ExcAt K d D->W.kitOne K (.ref Ca) (.ref D)=some (WL.rz nm d)ve:∀nm Ca,ExcAt K nm Ca->W.kitOne K (.ref Ca) (.type "ValueError")=some true
 ex:∀nm Ca d D,ExcAt K nm Ca->ExcAt K d D->W.exmOne K (.ref Ca) (.ref D)=some (WL.rz nm d)
def all_nil{a:Type}{P:a->Prop}:∀p∈[],P p:=λ_ h=>nomatch h
def all_cons{b:Type}{P:b->Prop}{a l}(h:P a)(t:∀p∈l,P p):∀p∈a::l,P p:=λp c=>(apJ.mp c).elim (λe=>e▸h) (t p)
section
variable{K:W.Frag}{FE:Addr}{tab:List (String×Addr)}
theorem mn:∀{tab:List (String×Addr)},(tab.map (·.1)).Nodup->(tab.map (·.2)).Nodup->∀p∈tab,∀q∈tab,p.1=q.1↔p.2=q.2
|[],_,_,p,hp,_,_=>nomatch hp|a::l,h1,h2,p,hp,q,hq=>by
 rw[apU,aqz]at h1 h2;rcases apJ.mp hp with z|c<;>rcases apJ.mp hq with y|b;.rw[z,y];exact⟨λ_=>rfl,λ_=>rfl⟩
 .subst z;exact⟨λe=>absurd (e▸aq7 b) h1.1,λe=>absurd (e▸aq7 b) h2.1⟩
 .subst y;exact⟨λe=>absurd (e▸aq7 c) h1.1,λe=>absurd (e▸aq7 c) h2.1⟩
 .exact mn h1.2 h2.2 p c q b
def ack(v:("FloorError",FE)∈tab)(t:∀p∈tab,W.nsIn K mainGlobals (Str.ofString p.1)=some (some (.ref p.2))/\Exc1 K FE p.2)(y:∀b∈WL.l0,b∈tab.map (·.1)\/W.nsIn K mainGlobals (Str.ofString b)=some none)(n:(tab.map (·.1)).Nodup)(o:(tab.map (·.2)).Nodup)(x:W.specialIn K (.builtin "object.__class__") "__get__"=some (some (.builtin "getset_descriptor.__get__")))(q:W.takesIn K (.builtin "object.__class__")=some true):ExcAll K:=by
 have c:∀b a,ExcAt K b a->(b,a)∈tab/\Exc1 K FE a:=λb a⟨i,f⟩=>by grind
 have k:∀b a,ExcAt K b a->∃j,W.clsIn K a=some j/\(j.mro=.ref a::gq/\a=FE\/j.mro=.ref a::.ref FE::gq):=λb a h=>by
  rcases(c b a h).2.mro with⟨e,z⟩|e;.obtain⟨j,i,f⟩:=aqe.mp e;exact⟨j,i,.inl ⟨f,z⟩⟩
  .obtain⟨j,i,f⟩:=aqe.mp e;exact⟨j,i,.inr f⟩
 have l:∀b a T,ExcAt K b a->Value.type T∈gq->W.mroIn K a (.type T)=some true:=λb a T h s=>by
  obtain⟨j,i,f⟩:=k b a h;unfold W.mroIn;rw[i,arq];rcases f with⟨f,_⟩|f<;>rw[f]<;>simp only[List.isEmpty_cons,Bool.false_eq_true,asF,asn,List.contains_eq_mem,ap3,apJ];.exact .inr (by simpa using s)
  .exact .inr (.inr (by simpa using s))
 have sub:∀b a d D,ExcAt K b a->ExcAt K d D->W.mroIn K a (.ref D)=some (WL.rz b d):=λb a d D h g=>by
  refine fO (k b a h) λj i f=>?_;have r:=mn n o _ (c b a h).1 _ (c d D g).1;have u:=mn n o _ v _ (c d D g).1;have w:=mn n o _ v _ (c b a h).1;dsimp only at r u w;unfold W.mroIn;rw[i,arq];have e:WL.rz b d=decide (a=D\/FE=D):=by unfold WL.rz;rw[ap2];simp only[ar6,aqO,ap3];exact or_congr r (by rw[eq_comm];exact u)
  rw[e];rcases f with⟨f,z⟩|f<;>rw[f]<;>simp only[List.isEmpty_cons,Bool.false_eq_true,asF,asn,List.contains_eq_mem];.subst z;congr 1;simp[eq_comm]
  .congr 1;simp[eq_comm]
 have cls:∀b a d D,ExcAt K b a->ExcAt K d D->W.kitCls K (.ref a) (.ref D)=some (WL.rz b d):=λb a d D h g=>by obtain⟨j,i,_⟩:=k d D g;unfold W.kitCls;dsimp only;rw[apB (by rw[i,(c d D g).2.ty];rfl)];exact sub b a d D h g
 refine⟨λb a h=>?_,λb a d D h g=>?_,λb a h=>?_,λb a d D h g=>?_⟩;.obtain⟨j,i,_⟩:=k b a h;have m:=(c b a h).2;exact⟨by rw[i];rfl,m.ga,m.gn,l b a _ h (by simp),l b a _ h (by simp),m.cl,x,q⟩
 .unfold W.kitOne;by_cases e:(Value.ref a==Value.ref D)=true;.rw[apB e];have e:=Value.ref.inj (aqO.mp e);subst e;have:=(mn n o _ (c b a h).1 _ (c d a g).1).mpr rfl;dsimp only at this;subst this;simp[WL.rz]
  .rw[apA e];exact cls b a d D h g
 .unfold W.kitOne;rw[apA (by intro z;cases aqO.mp z)];unfold W.kitCls;dsimp only;rw[apB (by decide+kernel)];exact l b a _ h (by simp)
 .unfold W.exmOne;rw[apB (by rw[show W.subIn K (.ref D) (.type "BaseException")=W.mroIn K D (.type "BaseException")from rfl,l d D _ g (by simp)];rfl)];exact cls b a d D h g
end
section
variable{X:Cx}{K:W.Frag}
def ach{F H:Hp}{a C:Addr}{dx:Option Addr}{b:List (Str×V)}{pins:List (Addr×Obj)}{σ:L2.St}{s:Shared}(I:Inv X pins σ H s)(h:aC F H)(k:F a=some (.ext (excAt a C dx)))(m:b=[]/\dx=none\/∃d,dx=some d/\F d=some (.xd b)):∃j od,W.InstAt s.heap a j C od/\j.dict=dx:=by
 obtain⟨⟨f,o,g,i,e,l⟩,_⟩:=I.hok a _ (h _ _ k);have c:W.notCls f=true:=by unfold W.notCls;rw[l.1]
 rcases m with⟨_,z⟩|⟨d,z,q⟩;.subst z;exact⟨f,none,⟨g,i,c,by rw[e];trivial⟩,e⟩
 .subst z;obtain⟨od,n⟩:=jv (I.hok d _ (h _ _ q));exact⟨f,some od,⟨g,i,c,by rw[e];exact n⟩,e⟩
set_option tactic.hygienic true
def lQ(p:X.K=K)(k:ExcAll X.K):bV X (.builtin "isinstance") (loN K WL.rj):=by
 subst p;intro e s σ H S E Q I r⟨F,ws,t,l,q⟩;have go:∀c fs i b,ws=[.exc c fs,i]->WL.rj ws=.ok (.bl b)->(∀C v,ExcAt X.K c C->RW X.K F i v->∀u,RelV v u->W.kitOne X.K (.ref C) u=some b)->wpAny (model X.prog X.w) X.A (call (.builtin "isinstance") E) (EP X e σ Q) X.xe s:=λc fs i b M P J=>by subst M;rw[P]at q;obtain⟨v,x,rfl,h,o⟩:=two_of l;obtain⟨u,O,rfl,w,A⟩:=vals2 r;simp only[RW]at h;obtain⟨a,C,R,rfl,n,m,N,_,_,G⟩:=h;obtain⟨B,od,T,_⟩:=ach I t n G;cases show u=Value.ref a from w;have fin:Q (.bl b) H:=eq1 q (by simp[RW]);exact aqI (aer (k.k c C m)) I.kIn ⟨B,od,T⟩ (J C x m o O A) (λz=>nomatch z) λtk=>⟨.bl b,H,I.tok tk,rfl,fin⟩
 unfold WL.rj at q;split at q;.rename_i c fs d;exact go c fs (.cls d) _ rfl rfl λC v g f u j=>by simp only[RW]at f;obtain⟨D,rfl,y⟩:=f;cases show u=Value.ref D from j;exact k.is c C d D g y
 .rename_i c fs;exact go c fs (.ty "ValueError") _ rfl rfl λC v g f u j=>by simp only[RW]at f;subst f;cases show u=Value.type "ValueError"from j;exact k.ve c C g
 .exact q.elim
set_option tactic.hygienic false
def de:∀a c,WL.rj a≠.ex c:=λa c h=>by unfold WL.rj at h;split at h<;>cases h
end
section
variable{X:Cx}{B:Bx}{σ:Ws}{σV:L2.St}{F H:Hp}
def RS.amo(R:RS B σ σV F H)(i:Nat):RS B (σ.set i .no) (σV.set i none) F H:=by
 have p:=R.len;have b:∀{j:Nat}{w:Sl},(σ.set i .no)[j]?=some w->w≠.no->i≠j:=λ{j w}e n z=>by
  subst z;have t:i<σ.length:=by have:=(apC.mp e).1;simpa using this
  rw[apz t]at e;cases e;exact n rfl
 refine⟨R.rb,by simp[p],λj u e=>?_,λj ws e=>?_,λj k ws c a f g h m l=>?_,R.aie i (sl:=.no) (λz=>z) _ (aC.refl _) λ_ _ _ _ _ _ _ _ q o=>⟨o,q⟩⟩;.have d:=b e (by intro z;cases z);rw[apv d]at e⊢;exact R.va j u e
 .have d:=b e (by intro z;cases z);rw[apv d]at e⊢;exact R.ow j ws e
 .have r:=b g (by intro z;cases z);have s:=b h (by intro z;cases z);rw[apv r]at g m;rw[apv s]at h l;exact R.ap j k ws c a f g h m l
end
section
variable{X:Cx}{B:Bx}{x n:Str}{pos np hpos:Pos}
def v7{y g:List Stmt}{b0:Stmt}{C:Addr}{d:String}{i:Nat}{tb th:SF}(hK:X.K=B.K)(hs:X.stack=X.env::X.outer)(hf:X.env.frame=some X.env.locals)(hN:X.N.Nodup)(hi:X.N[i]?=some n)(hl:X.env.scope.names.lookup n=some .local)(hg:Gl X x)(hm:X.mg x=some (.ref C))(hc:∀k Ca,ExcAt X.K k Ca->W.exmOne X.K (.ref Ca) (.ref C)=some (WL.rz k d))(hb:∀(E:Value->Shared->Prop)(pn:List (Addr×Obj))(B':Bx),B'.K=X.K->XW (X.tri E pn) B'->PassesOwn (model X.prog X.w) X.A X.env E->PSs (X.tri E pn) y (loS B' tb))(hh:∀(e:Addr)(B':Bx),B'.K=X.K->XW (X.sui e) B'->PSs (X.sui e) (b0::g) (loS B' th))(hd:Dbg x:=by decide):PS X (.Try y [.ExceptHandler (some (.Name x np)) (some n) (b0::g) hpos] [] [] pos) (loS B (WL.su tb d i th)):=by
 intro a s a1 H D I⟨σ,F,R,q⟩;refine wpAny_Try_except ?_;let E':Value->Shared->Prop:=λe S=>wpAny (model X.prog X.w) X.A (noteFrame e X.env) (λ_ Y=>wpAny (model X.prog X.w) X.A (setFlight e none) (λ_ a0=>wpAny (model X.prog X.w) X.A (handleBy e X.env [.ExceptHandler (some (.Name x np)) (some n) (b0::g) hpos]) (SP X a D) X.xe a0) X.xe Y) X.xe S;let B1:Bx:=B.wc (λc b Q=>Oq B D Q (WL.nH d i th c b)) λc b Q a6 s h=>Oq.mono s h;have xw:XW (X.tri E' (X.pn++a)) B1:=by
  intro a4 l H1 s1 f M c R1 j e A K T U t xr;have t2:Thr X a l H1 s1 e A K U T:=t.jM;obtain⟨k,fs,rfl,ce⟩:=xr.is;have j:Oq B D M (WL.nH d i th (.exc k fs) f):=j;have ex:=hc k A ce
  cases N:WL.rz k d with|false=>
   have:WL.nH d i th (.exc k fs) f=.bad:=by simp[WL.nH,WL.lr,N]
   rw[this]at j;exact j.elim|true=>
   have hO:WL.nH d i th (.exc k fs) f=match th (f.set i (.va (.exc k fs)))with|.nx σ2=>.nx (σ2.set i .no)|.rt w=>.rt w|_=>.bad:=by unfold WL.nH;rw[show WL.lr d (.exc k fs)=true from N];rfl
   rw[hO]at j;rw[N]at ex;refine t2.note hs hf λh' T' _ t3=>t3.ab9 λa5 t4=>ab3 t4 hg hm ex (λh3 t5=>?_) hd;have J:=t5.known;have he:H1 e=none:=t5.fe.1;have Z:RS B f l M H1:=R1.box rfl rfl rfl;have R2:=Z.new he (.ext (excAt e A K));have hF:M e=none:=Z.rb.sub.free he;have sF:aC M (upd M e (.ext (excAt e A K))):=aD hF _;have a2:RW B.K (upd M e (.ext (excAt e A K))) (.exc k fs) (.ref e):=by obtain⟨z1,a3,z2,z3,z4⟩:=xr.keep sF;simp only[RW];rw[<-hK];exact⟨e,A,K,rfl,av,z1,a3,z2,z3,z4⟩
   let B2:Bx:=B.never;have P:=hh e B2 hK.symm (vY λ_ _ _ z=>z);let D2:Ends:=⟨λp m=>D.nx (p.set i none) m,D.rt,λ_ _=>False,λ_ _=>False⟩;refine jO (X:=X.sui e) (J.sui e) hN hi (Or.inl hl) (v:=.ref e) (u:=.ref e) rfl (λs2 J2 _=>?_) (Or.inr hl);have R3:RS B2 (f.set i (.va (.exc k fs))) (l.set i (some (.ref e))) (upd M e (.ext (excAt e A K))) (upd H1 e (.ext (excAt e A K))):=(R2.set (i:=i) a2).box rfl rfl rfl;refine apZ (P a _ _ _ D2 J2 ⟨_,_,R3,?_⟩) (λU s3 h=>?_) λ_ _ z=>z;.cases eo:th (f.set i (.va (.exc k fs)))with|ex c2 σ2=>rw[eo]at j;exact j.elim|nx σ2=>rw[eo]at j;exact λp m Q R' O=>j (p.set i none) m Q ((RS.box (B:=B2) (B':=B) R' rfl rfl rfl).amo i) (sF.trans O)|bk σ2|ct σ2=>rw[eo]at j;exact j.elim|rt w=>rw[eo]at j;exact λv m Q R' O r=>j v m Q (RB.box (B:=B2) (B':=B) R' rfl rfl) (sF.trans O) r|bad=>rw[eo]at j;exact j
   .cases U with|next=>obtain⟨b,m,I',G⟩:=h;exact xu (J.back I') hN hi hl λO I2=>⟨_,m,I2,G⟩|brk=>obtain⟨b,m,I',G⟩:=h;exact G.elim|cont=>obtain⟨b,m,I',G⟩:=h;exact G.elim|ret u=>obtain⟨v,b,m,I',r,G⟩:=h;exact xu (J.back I') hN hi hl λO I2=>⟨v,_,m,I2,r,G⟩
 have P:=hb E' (X.pn++a) B1 hK.symm xw PassesOwn.looking;refine apZ (P [] s a1 H D (I.tri E') ⟨σ,F,R.box rfl rfl rfl,?_⟩) (λU O h=>?_) λ_ _ z=>z;.have q:Oq B D F (match tb σ with|.ex c b=>WL.nH d i th c b|o=>o):=q;exact Oq.apl (B:=B) (B':=B1) rfl rfl rfl (λ_ _ z=>z) q
 .have h:=SP.jM h;cases U with|next=>exact arv h|_=>exact h
end
end WS
namespace WS
open PySem PySem.Spec PyProof.Rows L2
def aiG{X:Cx}{B:Bx}{x:Str}{nm:String}{C:Addr}{pos:Pos}(e:X.K=B.K)(b:Gl X x)(a:X.mg x=some (.ref C))(c:ExcAt X.K nm C)(d:Dbg x:=by decide):PE X (.Name x pos) (lo B (WL.eC (.cls nm))):=agt (uS (v:=.ref C) b a rfl d) λF=>by simp only[RW];rw[<-e];exact⟨C,rfl,c⟩
end WS
namespace WS
open PySem PySem.Spec PyProof.Rows L2
open WL(Res Sl Ws EF TF AF LF GF GsF SF Out XF XA FS Fs KO KF OX RF Sr)
section
variable{σ:L2.St}{H:Hp}
def Part(t:TE)(σ:L2.St)(H:Hp):Prop:=∀Q:VK,(∀y:Str,y.length<=1000->Q (.str y) H)->t σ H Q
def pw{y}(h:y.length<=1000):Part (tC (.str y)) σ H:=λQ k=>k y h
def w9{i n}(h:σ[i]?=some (some (.int n)))(a:n.natAbs.log2<100):Part (aom (kx i)) σ H:=λQ k=>⟨_,h,.inl ⟨n,rfl,apE a (by simp),k _ (by have e:=int_text_length_le (by simp) a;rw[PySem.ofString_length];omega)⟩⟩
theorem agG{Q}:∀b a,a.length+1000*b.length<=100000->(∀t∈b,Part t σ H)->(∀y,Q (.str y) H)->tJ b a σ H Q|[],a,hl,_,k=>⟨by rw[arQ];omega,k _⟩|t::b,a,hl,hp,k=>hp t apN _ λy d=>by rw[apK]at hl;have e:(a++y).length=a.length+y.length:=strLen_append ..;exact⟨y,rfl,by rw[arQ];omega,agG b _ (by omega) (λt c=>hp t (apI _ c)) k⟩
end
section
variable{P:Program}{w:World}{K:W.Frag}{mg:Str->Option Value}{base:Heap}
def xI{g r a b st f C o k ts}(u:Fun K "__init__" g st f o)(S:FnScope [a,b] [a,b] (ah st))(v:ts.length<=50)(B:∀σ H n,σ[1]?=some (some (.int n))->n.natAbs.log2<100->∀t∈ts,Part t σ H)(h:∀i A c s H E,Room k (A.deeper (envOfC g (ah st) s.heap.objs.size f i))->PSs (ky CX0 P w K mg base [a,b] g (ah st) f i A c s H E).nox (bN st) (aiU (yt (aaG C (ji (kx 0) (ji (tJ ts Str.empty) aaE)))) (sX1 C (kx 0) (kx 1) r))):FnOk P w K mg base CX0 (k+1) f o [a,b] (spI C [r]):=by refine u.ok S λD H Q E j=>by refine hJ j λe ws l m _=>?_;rw[l,apK,m];rfl λi A c s H D Q E G j=>?_;refine lP j λe ws l m p J q=>?_;subst l;obtain⟨w1,rfl⟩:=List.length_eq_one_iff.mp m;obtain⟨n,rfl,x⟩:=J w1 apN;refine⟨_,h i A c s H E G,?_⟩;refine⟨.ref e,rfl,agG ts _ (by have:Str.empty.length=0:=rfl;omega) (B _ H n rfl x) λy=>rE e none [.str y] rfl (by simp) p ?_⟩;exact⟨.int n,rfl,.ref e,rfl,e,rfl,p,λd z I=>q d z I⟩
def aex{i o u a b c st f C G k ts}(M:Fun K "__init__" i st f G)(S:FnScope [a,b,c] [a,b,c] (ah st))(Z:u≠o)(N:ts.length<=50)(T:∀σ H n m,σ[1]?=some (some (.int n))->σ[2]?=some (some (.int m))->n.natAbs.log2<100->m.natAbs.log2<100->∀t∈ts,Part t σ H)(h:∀j A g s H E,Room k (A.deeper (envOfC i (ah st) s.heap.objs.size f j))->PSs (ky CX0 P w K mg base [a,b,c] i (ah st) f j A g s H E).nox (bN st) (aiU (yt (aaG C (ji (kx 0) (ji (tJ ts Str.empty) aaE)))) (aiU (sX1 C (kx 0) (kx 1) o) (sX2 C (kx 0) (kx 2) u)))):FnOk P w K mg base CX0 (k+1) f G [a,b,c] (spI C [o,u]):=by
 refine M.ok S λU H Q E l=>by refine hJ l λe ws B D _=>?_;rw[B,apK,D];rfl λj A g s H U Q E X l=>?_;refine lP l λe ws B D I J q=>?_;subst B;obtain⟨w1,r,rfl⟩:∃w1 r,ws=[w1,r]:=by match ws,D with|[w1,r],_=>exact⟨w1,r,rfl⟩
 obtain⟨n,rfl,O⟩:=J w1 apN;obtain⟨m,rfl,hm⟩:=J r (apI _ apN);refine⟨_,h j A g s H E X,?_⟩;refine⟨.ref e,rfl,agG ts _ (by have:Str.empty.length=0:=rfl;omega) (T _ H n m rfl rfl O hm) λy=>rE e none [.str y] rfl (by simp) I ?_⟩;refine⟨.int n,rfl,.ref e,rfl,e,rfl,I,λd R v=>?_⟩;refine⟨.int m,rfl,.ref e,rfl,e,d,[(o,.int n)],rfl,av,by rw[ak v,av],v,by simp,by simp[List.lookup,aqq.mpr Z],?_⟩;have:=q d R v;have Y:upd (upd (upd H d (.ext (fL d [(o,.int n)]))) e (.ext (lj e C (some d)))) d (.ext (fL d ([(o,.int n)]++[(u,.int m)])))=upd (upd H d (.ext (fL d ([o,u].zip [.int n,.int m])))) e (.ext (lj e C (some d))):=by
  funext z;unfold upd;by_cases p:z=d;.rw[apB p,apA (by rw[p];exact v),apB p];rfl
  .rw[apA p];by_cases x:z=e;.rw[apB x,apB x]
   .rw[apA x,apA x,apA p,apA p]
 show Q .non (upd _ d _);rw[Y];exact this
end
section
variable{X:Cx}{B:Bx}{k:Nat}{fI C:Addr}{fd:FuncData}{ps:List Str}{x:Str}{p pos np cpos:Pos}{e:Expr}{es:List Expr}{tas:AF}{nm:String}
theorem abY{K F}:∀{ws vs},RWs K F ws vs->ws.all WL.oM=true->∀v∈vs,∃i,v=.int i/\i.natAbs.log2<100
|[],vs,h,_,v,a=>by subst h;cases a|w::ws,vs,h,ha,v,a=>by
 obtain⟨d,r,rfl,b,c⟩:=h;rw[asm,apT]at ha;rcases apJ.mp a with rfl|a;.cases w with|int i=>subst b;exact⟨i,rfl,of_decide_eq_true ha.1⟩|_=>cases ha.1
 .exact abY c ha.2 v a
def aae(y:X.K=B.K)(O:XW X B)(A:X.calm=true)(M:Gl X x)(K:X.mg x=some (.ref C))(q:rD X.K C (some (.ref fI)))(n:W.typeIn X.K (.ref fI)=some (.type "function"))(F:FnOk X.prog X.w X.K X.mg X.base CX0 k fI fd ps (spI C (WL.fieldsOf nm)))(E:Room (k+1) X.A)(z:Binds X.K fd ps [])(w:ExcAt X.K nm C)(J:(WL.fieldsOf nm).length<=50)(I:PA X (e::es) (loA B tas))(g:Dbg x:=by decide)(G:SE X e es:=by rfl)(a:BT X cpos es:=by rfl):PS X (.Raise (some (.Call (.Name x np) (e::es) [] cpos)) none pos) (loS B (WL.jl nm tas)):=PS.imp (abb A M K q n F E z I g G a) λD i H o=>by
 refine eg o λσ F R q=>?_;have q:=Oq.ofR q;refine cE σ F R (Rq.mono (aC.refl _) q λws f l P m r v j=>?_);by_cases h:ws.length=(WL.fieldsOf nm).length/\ws.all WL.oM=true
 .rw[apB h]at f;have c:l.length=(WL.fieldsOf nm).length:=by rw[<-j.length];exact h.1
  refine⟨c,abY j h.2,J,λb s e d g Q t=>?_⟩;have N:m d=none:=r.rb.sub.free g;have u:aC m (upd m d (.xd ((WL.fieldsOf nm).zip l))):=aD N _;refine O b i _ s σ _ (.exc nm ws) (r.new g _) (B.mono _ σ F _ (v.f.trans u) f) e C (some d) none _ t ⟨w,(WL.fieldsOf nm).zip l,?_,?_,.inr ⟨d,rfl,av⟩⟩;.rw[List.map_fst_zip (by omega)]
  .rw[List.map_snd_zip (by omega),y];exact j.keep u
 .rw[apA h]at f;exact(show False from f).elim
end
section
variable{X:Cx}{B:Bx}{o:Expr}{f:Str}{pos:Pos}{ta:EF}
theorem xC{f:Str}{v:V}:∀{l:List (Str×V)},l.lookup f=some v->f∈l.map (·.1)|[],h=>by simp at h|(a,b)::l,h=>by rw[aqh]at h;cases z:f==a with|true=>rw[apU,aqO.mp z];exact apN|false=>rw[z]at h;exact apI _ (xC h)
theorem vV{K:W.Frag}{F:Hp}{f:Str}{w:VW}:∀{l:List Str}{ws:List VW}{c:List (Str×V)},c.map (·.1)=l->RWs K F ws (c.map (·.2))->(l.zip ws).lookup f=some w->∃v,c.lookup f=some v/\RW K F w v|[],ws,c,_,_,h=>by simp at h|a::l,[],c,_,_,h=>by simp at h|a::l,w0::ws,[],h,_,_=>by simp at h|a::l,w0::ws,(b,v0)::c,d,h2,h3=>by simp only[apU,asP]at d;obtain⟨rfl,d⟩:=d;simp only[apU,RWs]at h2;obtain⟨v,r,e,i,g⟩:=h2;simp only[asP]at e;obtain⟨rfl,rfl⟩:=e;rw[List.zip_cons_cons,aqh]at h3;rw[aqh];cases z:f==b with|true=>rw[z]at h3;cases h3;exact⟨v0,rfl,i⟩|false=>rw[z]at h3;exact vV d g h3
def aaj(P:X.K=B.K)(hA:ExcAll X.K)(hn:∀g C,ExcAt X.K g C->f∈WL.fieldsOf g->W.findIn X.K (.ref C) f=some none/\W.hasDictIn X.K C=true)(he:PE X o (lo B ta))(hb:attributeBase o f X.env (eval o X.env)=eval o X.env):PE X (.Attribute o f pos) (lo B (WL.alI ta f)):=by intro j s e H Q I⟨σ,F,R,q⟩;have q:=Rq.bind q;refine acW hb (thn (he j s e H _ I ⟨σ,F,R,Rq.mono (aC.refl _) q λw qw v M i R' O r'=>show∃w i,RS B σ e i M/\RW B.K i w v/\Rq B σ i (WL.anE f w) λD=>∀n c b,RS B σ e b c->Gr i M b c->RW B.K b D n->Q n c from⟨w,i,R',r',Rq.mono O.f qw λD k n c b z A=>k n c b z (O.trans A)⟩⟩) λu s1⟨x,U,m,rx,w,F1,y,S,h⟩=>?_);cases w with
|exc g fs=>dsimp only[WL.anE]at h;cases t:((WL.fieldsOf g).zip fs).lookup f with|none=>rw[t]at h;exact h.elim|some D=>
   rw[t]at h;simp only[RW]at S;obtain⟨a,C,dx,rfl,h1,N,a0,K,h4,h5⟩:=S;cases show u=Value.ref a from rx;obtain⟨v,p,rv⟩:=vV K h4 t;have l:f∈WL.fieldsOf g:=by rw[<-K];exact xC p
   rcases h5 with⟨rfl,_⟩|⟨d,rfl,hd⟩;.simp at p
   have E:=y.rb.sub _ _ hd;obtain⟨Y,hN,r⟩:=m.hok d _ E;obtain⟨od,ho,G⟩:=tf hN;obtain⟨⟨oe,es,Z,g2,g3,g4⟩,_⟩:=m.hok a _ (y.rb.sub _ _ h1);have T:W.InstAt s1.heap a oe C (some od):=⟨Z,g2,by unfold W.notCls;rw[g4.1],by rw[g3];exact ho⟩;obtain⟨u,hu,J⟩:=ui.some_of (v:=v) (o:=Y f) (by rw[<-p];exact r f);obtain⟨n1,n2⟩:=hn g C (by rw[P];exact N) l;refine aeK (hA.k g C (by rw[P];exact N)) m.kIn T (W.findObj_own n2 n1 rfl (by rw[G,hu])) (tD J) ?_;exact⟨v,U,m.tok _,J,h v U F1 y Gr.refl rv⟩
|_=>exact h.elim
end
end WS
namespace WS
open PySem PySem.Spec PyProof.Rows L2
section
variable{K:W.Frag}{a:Addr}{f nm:Str}
def vy{C d n}(x:ExcAll K)(h:ExcAt K n C)(m:(W.clsIn K C).map (·.mro)=some (.ref C::.ref d::gq))(g:W.hasDictIn K C=true)(k:W.findIn K (.ref C) "__setattr__"=some (some (.builtin "object.__setattr__"))):ExcS K C:=by obtain⟨l,c,i⟩:=aqe.mp m;obtain⟨e,b,j⟩:=W.any_some g;rw[c]at b;cases b;exact⟨x.k n C h,⟨l,c,j,.inr ⟨d,i⟩⟩,k⟩
def FA(K:W.Frag)(f:Str)(nm:String):Prop:=f∈WL.fieldsOf nm->∀b,W.nsIn K mainGlobals (Str.ofString nm)=some (some (.ref b))->W.findIn K (.ref b) f=some none/\W.hasDictIn K b=true
def fK{nm:String}(h:¬f∈WL.fieldsOf nm):FA K f nm:=λz=>absurd z h
def acg{nm:String}(e:W.nsIn K mainGlobals (Str.ofString nm)=some (some (.ref a)))(c:W.findIn K (.ref a) f=some none)(b:W.hasDictIn K a=true):FA K f nm:=λ_ d h=>by have:=e.symm.trans h;cases this;exact⟨c,b⟩
def aoL(i:FA K f "FloorError")(j:FA K f "NotEven")(q:FA K f "NoCall")(p:FA K f "NoName")(m:FA K f "NoProgram")(k:FA K f "TooMany")(r:FA K f "NoPairs")(o:FA K f "NoRow")(l:FA K f "Blind")(n:FA K f "Out")(e:FA K f "Meet")(g:FA K f "Broken"):∀nm C,ExcAt K nm C->f∈WL.fieldsOf nm->W.findIn K (.ref C) f=some none/\W.hasDictIn K C=true:=λnm b⟨h,c⟩d=>by
 simp only[WL.l0,apJ,aqa,arE]at h;rcases h with rfl|rfl|rfl|rfl|rfl|rfl|rfl|rfl|rfl|rfl|rfl|rfl;.exact i d b c
 .exact j d b c
 .exact q d b c
 .exact p d b c
 .exact m d b c
 .exact k d b c
 .exact r d b c
 .exact o d b c
 .exact l d b c
 .exact n d b c
 .exact e d b c
 .exact g d b c
end
end WS
namespace WS
open PySem PySem.Spec PyProof.Rows L2
open WL(Res Sl Ws EF TF AF LF GF GsF SF Out XF XA FS Fs KO KF OX RF Sr)
section
variable{X:Cx}{B:Bx}{e tg iter elt:Expr}{pos:Pos}{ta tb:EF}{tt:TF}{it:LF}{g:GF}{k:Nat}{scope:Scope}{ts:List Str}{ifs:List Expr}
def tP{σ A x E J xs Q}(hg:Keeps k g)(R1:RS B σ A x E)(wk:Walk B.K J xs x)(hx:xs.length<=WL.lim)(R:WL.bF g tt ta (List.replicate k .no++σ) xs≠.bad)(ex:∀c,WL.bF g tt ta (List.replicate k .no++σ) xs=.ex c->∀S f,aC x f->B.xp c S f)(fin:∀all,WL.bF g tt ta (List.replicate k .no++σ) xs=.ok all->∀q f l,RB B f l->Gr x E f l->RWs B.K f all q->∀D,l D=none->Q (.ref D) (upd l D (.lst q))):uf J (loG true B g) (loT B tt) (lo B ta) (List.replicate k none++A) E Q:=by
 refine⟨λi m q p l=>m=xs.length-i/\i<=xs.length/\q.length<=i/\∃f d,RS B (List.replicate k .no++σ) p f l/\Gr x E f l/\RWs B.K f d q/\WL.bF g tt ta (List.replicate k .no++σ) xs=(WL.bF g tt ta (List.replicate k .no++σ) (xs.drop i)).bind λr=>.ok (d++r),⟨xs.length,rfl,ap9 _,ap9 _,x,[],R1.ahead k,Gr.refl,by simp[RWs],?_⟩,?_⟩;.rw[asT];cases WL.bF g tt ta (List.replicate k .no++σ) xs<;>rfl
 rintro i m q p l⟨rfl,hi,Z,f,d,I,o,U,a⟩;refine⟨aqV (apD Z (apD hi hx)) (by decide),?_⟩;by_cases t:i<xs.length;.have hd:=aqL t;rw[hd]at a;obtain⟨go,yl⟩:=wk.go i xs[i] (apy t) f l o.f I.rb.sub;refine .inr ⟨go,λs G C=>s.length<=i+1/\∃z d,RS B (List.replicate k .no++σ) G z C/\Gr x E z C/\RWs B.K z d s/\WL.bF g tt ta (List.replicate k .no++σ) xs=(WL.bF g tt ta (List.replicate k .no++σ) (xs.drop (i+1))).bind λr=>.ok (d++r),λs G C⟨a1,a2⟩=>⟨xs.length-(i+1),by omega,rfl,t,a1,a2⟩,λv C hy=>?_⟩;refine fO (yl v C hy) λz P r2=>?_;have T:=o.f.trans P.same;simp only[WL.bF]at a;refine agm _ z xs[i] (P.rs _ _ _ I) r2 ?_;cases M:g xs[i] (List.replicate k .no++σ)with|bad=>rw[M]at a;exact(R a).elim|ex c=>rw[M]at a;exact ex c a _ z T|ok σ1=>
   rw[M]at a;obtain⟨kl,kk⟩:=hg _ _ _ M;intro n H3 F3 R3 Y;have back:∀{w N:Hp},RS B σ1 n w N->RS B (List.replicate k .no++σ) n w N:=λ{w N}K=>K.forget kl.symm λj sl ej ne=>by grind
   have h:=P.gr.trans ⟨Y.f,Y.h rfl,Y.nf⟩;have a:WL.bF g tt ta (List.replicate k .no++σ) xs=((tt σ1).bind _).bind λr=>.ok (d++r):=a;refine cE σ1 F3 R3 ?_;cases e2:tt σ1 with|bad=>rw[e2]at a;exact(R a).elim|ex c=>rw[e2]at a;exact ex c a _ F3 (o.f.trans h.f)|ok b=>rw[e2]at a;intro N w K H;cases b with|false=>rw[apA apW];exact⟨by omega,w,d,back K,o.trans (h.trans H),U.keep (h.trans H).f,a⟩|true=>rw[apB rfl];have a:=a;refine cE σ1 w K ?_;cases O:ta σ1 with|bad=>rw[O]at a;exact(R a).elim|ex c=>rw[O]at a;exact ex c a _ w (o.f.trans (h.trans H).f)|ok y=>rw[O]at a;intro u H5 F5 R5 g5 r5;refine⟨by rw[aqc,arj];omega,F5,d++[y],back R5,o.trans ((h.trans H).trans g5),(U.keep ((h.trans H).trans g5).f).app (.one r5),?_⟩;rw[a];cases WL.bF g tt ta (List.replicate k .no++σ) (xs.drop (i+1))with|ok zs=>show Res.ok _=Res.ok _;rw[List.append_assoc];rfl|ex c|bad=>rfl
 .have ei:i=xs.length:=by omega
  subst ei;rw[ars]at a;have a:WL.bF g tt ta (List.replicate k .no++σ) xs=.ok (d++[]):=a;rw[aqf]at a;exact .inl ⟨wk.stop f l o.f I.rb.sub,λD hD=>fin d a q f l I.rb o U D hD⟩
theorem RS.rA{B' σ h F H}(R:RS B σ h F H)(r:B'.K=B.K)(p:B'.H0=H)(n:B'.F0=F):RS B' (WL.rA σ) h F H:=by
 have b:∀{i:Nat}{f:Sl},(WL.rA σ)[i]?=some f->(∀w,f=.va w->σ[i]?=some (.va w))/\(∀ws,f≠.ow ws)/\(∀c d,f≠.od c d)/\(f=.ob->σ[i]?=some .ob):=λ{i f}e=>by unfold WL.rA at e;rw[apX]at e;cases m:σ[i]? with|none=>rw[m]at e;cases e|some s0=>rw[m]at e;have e:=apV e;subst e;cases s0 with|no=>exact⟨λw z=>(by cases z),λws z=>(by cases z),λc d z=>(by cases z),λz=>by cases z⟩|va w=>exact⟨λs z=>by grind,λws z=>(by cases z),λc d z=>(by cases z),λz=>by cases z⟩|ow ws|od c d=>exact⟨λw z=>(by cases z),λws z=>(by cases z),λc d z=>(by cases z),λz=>by cases z⟩|ob=>exact⟨λw z=>(by cases z),λws z=>(by cases z),λc d z=>(by cases z),λz=>rfl⟩
 refine⟨⟨R.rb.sub,p▸aC.refl _,n▸aC.refl _,λa o e=>.inl (n▸e)⟩,by rw[<-R.len];simp[WL.rA],λi w e=>?_,λi ws e=>((b e).2.1 ws rfl).elim,λi j ws q a _ l=>((b l).2.1 ws rfl).elim,λi c d e=>((b e).2.2.1 c d rfl).elim,λi j c d _ _ a _ l=>((b l).2.2.1 c d rfl).elim,λi e=>R.dd.ob i ((b e).2.2.2 rfl)⟩;rw[r];exact R.va i w ((b e).1 w rfl)
def xK{B' d c F' H'}(b:RB B' F' H')(f:B'.H0=c)(i:B'.F0=d):Gr d c F' H':=by subst f i;refine⟨b.fz0,b.base,λa o l h=>?_⟩;cases j:F' a with|none=>rfl|some o2=>
 rcases b.fr a _ j with z|z;.rw[h]at z;cases z
 .rw[l]at z;cases z.1
def qm{B' σ c f d F' H'}(R:RS B σ c f d)(b:RB B' F' H')(h:B'.H0=d)(i:B'.F0=f):RB B F' H':=by
 subst h i;refine⟨b.sub,R.rb.base.trans b.base,R.rb.fz0.trans b.fz0,λa o e=>?_⟩;rcases b.fr a o e with z|z;.exact R.rb.fr a o z
 .exact .inr ⟨R.rb.base.free z.1,z.2⟩
def adk(c1:X.stack=X.env::X.outer)(c2:X.env.frame=some X.env.locals)(hK:X.K=B.K)(hx:XW X B)(L:CompLook X scope)(hc:X.calm=true)(hk:ts.length=k)(hg:Keeps k g)(hi:PI X tg iter (loI B it))(b9:∀C i j G E u,u.K=X.K->XW ((X.comp scope C ts i j G).tri E []) u->PG ((X.comp scope C ts i j G).tri E []) tg (loG true u g))(b7:∀C i j G E u,u.K=X.K->XW ((X.comp scope C ts i j G).tri E []) u->x5 ((X.comp scope C ts i j G).tri E []) ifs (loT u tt))(b6:∀C i j G E u,u.K=X.K->XW ((X.comp scope C ts i j G).tri E []) u->PE ((X.comp scope C ts i j G).tri E []) elt (lo u ta))(hs:∀x,foldedSetIterable iter X.env x=pure x:=by intro _;rfl):PE X (.ListComp elt [⟨tg,iter,ifs,0⟩] scope pos) (lo B (WL.nQ k it g tt ta)):=by
 subst hk;intro pins s d H Q I⟨σ,F,R,q⟩;have S:CompScope X scope ts:=L.scope;have a3:closureFor scope X.env=pure (dw X.env.cells scope.names []):=eM λy hy hf=>by obtain⟨c,hc⟩:=I.ok.has y.1 (S.free y hy hf);rw[hc];rfl
 have q:=Rq.bind (Rq.bind q);rw[eval_ListComp];refine aq5 (use:=none) rfl hs a3 S.kind S.names (thn (hi pins s d H (λJ H1=>∃F1 xs,RS B σ d F1 H1/\Gr F H F1 H1/\Walk B.K J xs F1/\Rq B σ F (if xs.length<=WL.lim then WL.bF g tt ta (List.replicate ts.length .no++WL.rA σ) xs else .bad) λys=>∀v a A,RS B σ d A a->Gr F H A a->RW B.K A (.lst ys) v->Q v a) I ⟨σ,F,R,Rq.mono (aC.refl _) q λxs O J H1 F1 R1 g1 wk=>⟨F1,xs,R1,g1,wk,?_⟩⟩) λxv s1 h1=>thn h1 λc7 s2 h2=>?_);.exact O
 obtain⟨it,G,tn,J,H2,e,U,T,c3,f2,F1,xs,R1,g1,wk,O⟩:=h2;subst e;by_cases a2:xs.length<=WL.lim
 .rw[apB a2]at O;let u:Bx:=⟨B.K,H2,F1,λc _ A=>B.xp c σ A,λc _ A b5 sm h=>B.mono c σ A b5 sm h⟩;let EC:Addr->Value->Shared->Prop:=λC v K=>∃(e Ce:Addr)(dx:Option Addr)(fl:Value)(T:Option Addr)(M:L2.St)(a A:Hp)(c:VW),v=.ref e/\Thr (X.comp scope C ts s2 H2 G) [] M a K e Ce dx fl T/\RB u A a/\B.xp c σ A/\XR X.K A c Ce dx;have xw:∀C,XW ((X.comp scope C ts s2 H2 G).tri (EC C) []) u:=λC c4 M a K c0 A c R' xp e Ce dx T fl t xr=>⟨e,Ce,dx,fl,T,M,a,A,c,rfl,Thr.jM (X:=X.comp scope C ts s2 H2 G) (pins:=[]) t,R'.rb,xp,xr⟩;have hW:uf J (loG true u g) (loT u tt) (lo u ta) (List.replicate ts.length none++d) H2 Q:=by
   refine tP hg (R1.rA rfl rfl rfl) wk a2 (λz=>by rw[z]at O;exact O) (λc z c0 A sm=>?_) λall z ys A a rb g' r D hD=>?_;.rw[z]at O;exact B.mono c σ F A (g1.f.trans sm) O
   .rw[z]at O;have P:RB B A a:=qm R1 rb rfl rfl;have R':=R1.grow g' P;exact O (.ref D) _ _ (R'.new hD _) (g1.trans (g'.trans (Gr.new (P.sub.free hD) hD _))) (by simp only[RW];exact⟨D,ys,rfl,SqL.of av,r.keep (aD (P.sub.free hD) _)⟩)
  refine iR (Q:=Q) (RR:=λb4 C=>compPost (model X.prog X.w) X.A X.xe none (EP X pins d Q) b4 C) S EC (λ_ _ _=>hc) (λC=>b9 C s2 H2 G (EC C) u hK.symm (xw C)) (λC=>b7 C s2 H2 G (EC C) u hK.symm (xw C)) (λC=>b6 C s2 H2 G (EC C) u hK.symm (xw C)) U T c3 f2 hW.c ?_ ?_;.intro C D a K m ys b2 hC hD hn c5 I' q;refine⟨m,hn,λh' Z=>?_⟩;have a0:C≠X.env.locals:=ap4 (apE U.lt hC);have b8:Inv X pins d (upd a D (.lst ys)) {K with heap:=h'}:=I'.turned (t':=K.toks) (it:=C) (λb o n e=>(Z.2 b n).trans e) (by rw[ak b2];exact c5) a0 (.inr (apD U.sz hC)) (λx c e=>by obtain⟨v,q⟩:=U.cell x c e;exact apM (apE q.lt hC)) λp l=>apM (apE (apH (U.pin p l).1) hC);exact⟨.ref D,_,b8,rfl,q⟩
  .rintro C D _ K hC⟨e,Ce,dx,fl,T,M,a,A,c,rfl,t,rb,xp,xr⟩;have J':Inv X pins d a K:=U.aeZ (ch:=G) t.inv.os t.inv.base t.inv.hok t.inv.bare λb n=>⟨(f2 b n).2.2.2.1,(f2 b n).2.1,(f2 b n).2.2.2.2.1,(f2 b n).2.2.2.2.2⟩;obtain⟨m,a6,_⟩:=t.inv.loc;obtain⟨Y,es,ep,b3,a7⟩:=id a6;have a4:a C=none:=t.inv.free;have a0:C≠X.env.locals:=ap4 (apE U.lt hC);have a5:s2.heap.get? C=none:=aqb hC;have fC:FpX X pins a C:=U.fpX a5 a4;have a1:∀v,Y.data≠.cell v:=λv z=>by obtain⟨hd,_⟩:=a7;rw[hd]at z;cases z
   have J2:Inv X (pins++[(C,Y)]) d a K:=J'.fE λp l=>by
    rcases ap8.mp l with l|l;.exact J'.pin p (apQ _ l)
    .obtain rfl:p=(C,Y):=by simpa using l
     exact⟨b3,a4,a0,fC.2.2.1,a1⟩
   have N:∀b,FpX (X.comp scope C ts s2 H2 G) [] a b->FpX X pins a b/\b≠C:=λb z=>by
    refine⟨?_,z.2.1⟩;rcases z.2.2.2.1 with n|n;.have f:=f2 b n;exact⟨z.1,f.2.1,f.2.2.1,f.2.2.2.1.imp (λw=>w) λw=>aqb w,f.2.2.2.2.1,f.2.2.2.2.2⟩
    .exact U.fpX n z.1
   have a8:∀b,FpX X pins a b->b≠C->FpX X (pins++[(C,Y)]) a b:=λb z ne=>⟨z.1,z.2.1,z.2.2.1,z.2.2.2.1,z.2.2.2.2.1,λp l=>by
    rcases ap8.mp l with l|l;.exact z.2.2.2.2.2 p (ap0 _ l)
    .rcases ap8.mp l with l|l;.exact z.2.2.2.2.2 p (apQ _ l)
     .obtain rfl:p=(C,Y):=by simpa using l
      exact apO ne⟩;have te:=N e t.fe;have t1:Thr X (pins++[(C,Y)]) d a K e Ce dx fl T:=⟨J2,t.trc,a8 e te.1 te.2,λb n=>a8 b (N b (t.fT b n)).1 (N b (t.fT b n)).2⟩;refine t1.note c1 c2 λa9 T1 b0 t2=>?_;have pC:=(t2.inv.pin (C,Y) (by simp)).1;refine⟨m,⟨Y,es,ep,pC,a7⟩,λh' Z c6 _=>?_⟩;have drop:∀b,FpX X (pins++[(C,Y)]) a b->FpX X pins a b/\b≠C:=λb z=>⟨⟨z.1,z.2.1,z.2.2.1,z.2.2.2.1,z.2.2.2.2.1,λp l=>by
    rcases ap8.mp l with l|l;.exact z.2.2.2.2.2 p (ap0 _ l)
    .exact z.2.2.2.2.2 p (apQ _ (ap0 _ l))⟩,λw=>z.2.2.2.2.2 (C,Y) (by simp) w.symm⟩;have J3:Inv X pins d a {K with heap:=a9}:=t2.inv.fE λp l=>t2.inv.pin p (apQ _ (ap0 _ l));have J4:Inv X pins d a {K with heap:=h'}:=Inv.turned (s:={K with heap:=a9}) (t':=K.toks) (it:=C) J3 (λb o n e=>(Z.2 b n).trans e) a4 a0 (.inr (apD U.sz hC)) fC.2.2.2.2.1 fC.2.2.2.2.2;have t3:Thr X pins d a {K with heap:=h'} e Ce dx b0 (some T1):=⟨J4,t2.trc.keeps λb o n q=>(Z.2 b (by
    rcases n with rfl|n;.exact(drop _ t2.fe).2
    .exact(drop b (t2.fT b n)).2)).trans q,(drop e t2.fe).1,λb n=>(drop b (t2.fT b n)).1⟩;refine t3.pass λc8 b1 t4=>?_;have P:RB B A a:=qm R1 rb rfl rfl;exact hx pins d a _ σ A c (R1.grow (xK rb rfl rfl) P) xp e Ce dx (some T1) b1 t4 xr
 .rw[apA a2]at O;exact(O).elim
end
theorem zip_get:∀(xs ys:List VW)(i:Nat)(x y:VW),xs[i]?=some x->ys[i]?=some y->(WL.uk xs ys)[i]?=some (.tup [x,y])|[],_,_,_,_,h,_=>by simp at h|_::_,[],_,_,_,_,h=>by simp at h|x::xs,y::ys,0,_,_,h,h'=>by simp at h h';subst h h';rfl|x::xs,y::ys,i+1,u,v,h,h'=>by simp only[WL.uk,ara]at h h'⊢;exact zip_get xs ys i u v h h'
theorem uj:∀(xs ys:List VW),xs.length=ys.length->(WL.uk xs ys).length=xs.length|[],[],_=>rfl|[],_::_,h=>by simp at h|_::_,[],h=>by simp at h|x::xs,y::ys,h=>by simp only[WL.uk,apK,uj xs ys (by simpa using h)]
def wo{K:W.Frag}{lt:Bool}{a b:Addr}{xs ys:List VW}{vs us:List V}{F:Hp}(keep:∀{G H:Hp}{c:Addr}{ws:List V},aC G H->SqB K G lt c ws->SqB K H lt c ws)(h:SqB K F lt a vs)(h':SqB K F lt b us)(r:RWs K F xs vs)(E:RWs K F ys us)(g:xs.length=ys.length):Walk K (Itz K lt a b) (WL.uk xs ys) F:=by
 refine⟨λi x e D C d f=>?_,λD C d f=>⟨vs,keep f (keep d h),by rw[uj _ _ g,r.length];exact apG _⟩⟩;have t:i<xs.length:=by have:=(apC.mp e).1;rwa[uj _ _ g]at this
 have ex:=apy t;have l:=apy (g▸t);rw[zip_get xs ys i _ _ ex l]at e;have e:=apV e;subst e;obtain⟨v,o,A⟩:=r.get ex;obtain⟨u,s,B⟩:=E.get l;refine⟨⟨vs,us,v,u,keep f (keep d h),keep f (keep d h'),o,s⟩,λz J j=>?_⟩;obtain⟨p,w,m,y⟩:=j;subst w;obtain⟨I,M,n,q,rfl⟩:=y vs us (keep f (keep d h)) (keep f (keep d h'));rw[o]at n;rw[s]at q;cases n;cases q;have k:=f.free m;refine⟨_,Ext.new k m _,?_⟩;simp only[RW];refine⟨p,_,rfl,SqT.of av,?_⟩;simp only[RWs];exact⟨_,_,rfl,(A.keep d).keep (aD k _),_,_,rfl,(B.keep d).keep (aD k _),rfl⟩
section
variable{X:Cx}{B:Bx}{ta tb:EF}
def aiC{l m:Expr}{es:List Expr}{k:Nat}{S p pos:Pos}(i:X.K=B.K)(U:Gl X "zip")(T:X.mg "zip"=none)(h:PE X l (lo B ta))(h':PE X m (lo B tb))(hs:starEach [l,m] X.env=[(false,eval l X.env),(false,eval m X.env)]:=by rfl)(J:starEach [m] X.env=[(false,eval m X.env)]:=by rfl)(A:starEach [l,m] X.env=(false,eval l X.env)::starEach [m] X.env:=by rfl)(n:starEach [m] X.env=(false,eval m X.env)::starEach [] X.env:=by rfl):PI X (.Tuple es k S) (.Call (.Name "zip" p) [l,m] [] pos) (loI B (WL.akn ta tb)):=PI.imp (ajo U T (aa h (aa h' ag n) A) hs J) λP H R E=>by obtain⟨σ,F,O,q⟩:=E;have q:=Rq.bind q;refine⟨σ,F,O,?_⟩;show Rq B σ F ((ta σ).bind λx=>((tb σ).bind λy=>(Res.ok []).bind λd=>.ok (y::d)).bind λf=>.ok (x::f)) _;cases e:ta σ with
|ok x=>rw[e]at q;have q:=Rq.bind q;cases w:tb σ with
 |ok y=>rw[w]at q;intro Z M N j K Q;obtain⟨v,Y,rfl,t,u⟩:=two_of Q;cases x with
  |lst f=>cases y with|lst d=>
     simp only[RW]at t u;obtain⟨a,D,rfl,o,G⟩:=t;obtain⟨b,I,rfl,r,C⟩:=u;have q:Rq B σ F (if f.length=d.length then .ok (WL.uk f d)else .bad) _:=q;by_cases g:f.length=d.length;.rw[apB g]at q;refine⟨true,a,b,rfl,⟨D,by rw[i];exact j.rb.sub.seq o⟩,⟨I,by rw[i];exact j.rb.sub.seq r⟩,?_⟩;rw[i];exact q _ M N j K (wo (λs z=>s.seq z) o r G C g)
     .rw[apA g]at q;exact q.elim|_=>exact(q).elim
  |tup f=>cases y with|tup d=>
     simp only[RW]at t u;obtain⟨a,D,rfl,o,G⟩:=t;obtain⟨b,I,rfl,r,C⟩:=u;have q:Rq B σ F (if f.length=d.length then .ok (WL.uk f d)else .bad) _:=q;by_cases g:f.length=d.length;.rw[apB g]at q;refine⟨false,a,b,rfl,⟨D,by rw[i];exact j.rb.sub.tup o⟩,⟨I,by rw[i];exact j.rb.sub.tup r⟩,?_⟩;rw[i];exact q _ M N j K (wo (λs z=>s.tup z) o r G C g)
     .rw[apA g]at q;exact q.elim|_=>exact(q).elim
  |_=>exact(q).elim
 |ex c=>rw[w]at q;exact q|bad=>rw[w]at q;exact q
|ex c=>rw[e]at q;exact q|bad=>rw[e]at q;exact q
end
section
variable{X:Cx}{K:W.Frag}
def tS:∀a c,WL.gQ a≠.ex c:=λa c h=>by
 unfold WL.gQ at h;split at h;.split at h<;>cases h
 .cases h
def RW.tyW{F H:Hp}{w:VW}{v:V}{t:String}{b:Bool}(s:aC F H)(h:RW K F w v)(f:WL.isK w t=some b):TyW K H v (al4 w):=by cases w with|non=>simp only[RW]at h;subst h;exact .non|bl k=>simp only[RW]at h;subst h;exact .bl k|int k=>simp only[RW]at h;subst h;exact .int k|str k=>simp only[RW]at h;subst h;exact .str k|tup ys=>simp only[RW]at h;obtain⟨a,d,rfl,c,e⟩:=h;exact .tup (s.tup c)|lst ys=>simp only[RW]at h;obtain⟨a,d,rfl,c,e⟩:=h;exact .lst (s.seq c)|ty k|dic _ _|cls _|exc _ _|ins _ _|id _=>cases f
set_option tactic.hygienic true
def aap(m:X.K=K):bV X (.builtin "isinstance") (loN K WL.gQ):=by subst m;refine bV.imp tZ λn H Q a=>?_;obtain⟨F,ws,s,r,q⟩:=a;cases e:WL.gQ ws with|bad|ex c=>rw[e]at q;exact q.elim|ok w=>
  rw[e]at q;unfold WL.gQ at e;split at e
  .rename_i x t u;split at e;.rename_i b c i j;cases e;obtain⟨v,o,rfl,h,d⟩:=two_of r;simp only[RW]at d;obtain⟨k,z,rfl,l,rt⟩:=d;obtain⟨p,y,rfl,f,g⟩:=two_of rt;simp only[RW]at f g;subst f g;refine⟨v,k,t,u,al4 x,b||c,rfl,s.tup l,RW.tyW s h i,?_,eq1 q (by simp[RW])⟩;simp only[W.kitAny,abN (K:=X.K) i,abN (K:=X.K) j];cases b<;>cases c<;>rfl
   .cases e
  .cases e
set_option tactic.hygienic false
end
section
variable{X:Cx}{B:Bx}{K:W.Frag}{o e:Expr}{es:List Expr}{to ta:EF}{tas:AF}{pos apos cpos:Pos}
theorem acK:∀{ys:List VW}{x:VW}{n m:Nat},WL.okD n x=true->WL.jb m ys=true->((gX ys).countP λz=>PyData.eqv z (toD x))=WL.cnt x ys|[],_,_,_,_,_=>by simp[gX,WL.cnt]|y::ys,x,n,m,hx,a=>by cases m with|zero=>cases a|succ m=>have a:=aqv.mp a;have b:=nN m n y x a.1 hx;simp only[gX,asG,WL.cnt,b,acK hx a.2]
set_option tactic.hygienic true
def ade{x:Expr}(k:X.K=B.K)(U:X.A.units+64<cLine)(S:PE X o (lo B to))(O:PA X [x] (loA B tas))(g:attributeBase o "count" X.env (eval o X.env)=eval o X.env:=by rfl)(h:((backTo cpos (starEach [x] X.env)).all (λx=>!x.1)&&(backToKw cpos (keywordEach [] X.env)).all (λx=>x.1.isSome)&&decide (([x]:List Expr).length+([]:List Keyword).length+(if([]:List Keyword).isEmpty then 0 else 1)<30))=true:=by rfl)(f:(apos.endLine==cpos.line)=true:=by rfl)(hs:starEach [x] X.env=(false,eval x X.env)::starEach [] X.env:=by rfl)(d:BT X cpos []:=by rfl):PE X (.Call (.Attribute o "count" apos) [x] [] cpos) (lo B (WL.aoO "list" WL.pH to tas)):=PE.imp (yO aqD PySem.F.slot_list_count PySem.F.type_list_count abz S O g h f hs d) λA H Q n=>by obtain⟨σ,F,R,q⟩:=n;have q:=Rq.bind q;refine⟨σ,F,R,Rq.mono (aC.refl _) q λw j v Y M s p l=>?_⟩;cases w with
 |lst ys=>have j:=Rq.bind (show Rq B σ F ((tas σ).bind λws=>WL.pH (.lst ys) ws) _ from j);have m:=l;simp only[RW]at l;obtain⟨a,J,rfl,P,ra⟩:=l;refine⟨.inl ⟨rfl,J,by rw[k];exact s.rb.sub.seq P⟩,σ,M,s,Rq.mono p.f j λws i T G N R2 r I=>?_⟩;cases em:WL.pH (.lst ys) ws with
  |bad=>rw[em]at i;exact i.elim|ex c=>
    unfold WL.pH at em;split at em;.split at em<;>cases em
    .cases em|ok z=>
    rw[em]at i;unfold WL.pH at em;split at em
    .rename_i Z e2 C t D;cases D;split at em;.rename_i b;rw[apT]at b;cases em;obtain⟨u,rfl,y⟩:=fS I;have sub:=R2.rb.sub;have E:=RW.isD 51 (.lst ys) (.ref a) b.2 ((m.keep r.f).keep sub);refine⟨50,u,toD t,gX ys,rfl,by rw[k];exact RW.isD 50 t u b.1 (y.keep sub),by rw[k];exact E,by omega,?_⟩;rw[acK b.1 b.2];exact i (.int _) G N R2 (p.trans r) (by simp[RW])
     .cases em
    .cases em
 |_=>exact(show False from j).elim
set_option tactic.hygienic false
end
section
variable{P:List Value->Prop}
def us0(h:P []):∀a,a.length=0->P a:=λa e=>by grind
def us1(h:∀c,P [c]):∀b,b.length=1->P b:=λb e=>by cases b with|nil=>cases e|cons a t=>exact us0 (P:=λt=>P _) (h a) t (arF e)
def us2(h:∀d c,P [d,c]):∀b,b.length=2->P b:=λb e=>by cases b with|nil=>cases e|cons a t=>exact us1 (P:=λt=>P _) (λc=>h a _) t (arF e)
def us3(h:∀f c d,P [f,c,d]):∀b,b.length=3->P b:=λb e=>by cases b with|nil=>cases e|cons a t=>exact us2 (P:=λt=>P _) (λc d=>h a _ _) t (arF e)
def us4(h:∀g c f d,P [g,c,f,d]):∀b,b.length=4->P b:=λb e=>by cases b with|nil=>cases e|cons a t=>exact us3 (P:=λt=>P _) (λc f d=>h a _ _ _) t (arF e)
def us5(h:∀i c g f d,P [i,c,g,f,d]):∀b,b.length=5->P b:=λb e=>by cases b with|nil=>cases e|cons a t=>exact us4 (P:=λt=>P _) (λc g f d=>h a _ _ _ _) t (arF e)
def us6(h:∀j c i g d f,P [j,c,i,g,d,f]):∀b,b.length=6->P b:=λb e=>by cases b with|nil=>cases e|cons a t=>exact us5 (P:=λt=>P _) (λc i g d f=>h a _ _ _ _ _) t (arF e)
end
def AtD(K:W.Frag)(nm:Str)(st:Stmt):Prop:=∃(f:Addr)(a:FuncData),Fun K nm nm st f a/\W.nsIn K mainGlobals nm=some (some (.ref f))
def Cal(P:Program)(w:World)(K:W.Frag)(c:Str->Option Value)(a:Heap)(CX:CXT)(k:Nat)(nm:Str)(ps:List Str)(d:List Value)(sp:Sp):Prop:=∃(f:Addr)(b:FuncData),FnOk P w K c a CX k f b ps sp/\c nm=some (.ref f)/\W.keepIn K (.ref f)=true/\Binds K b ps []/\Binds K b ps d
section
variable{P:Program}{w:World}{K:W.Frag}{mg:Str->Option Value}{base:Heap}{CX:CXT}{k:Nat}{nm:Str}{ps:List Str}{sp:Sp}{st:Stmt}
def an3{f i od h e kV d g b ct}(a:W.nsIn K mainGlobals nm=some (some (.ref f)))(l:K.lookup f=some ⟨i,od,.func (W.fnOf nm nm (dE st) (bN st) (ah st) .none kV d g h b ct),e⟩)(c:W.codeIn K b nm=true)(q:W.keepIn K (.ref f)=true):AtD K nm st:=⟨f,_,ab5 l c q,a⟩
def AtD.cal(D:AtD K nm st)(l:∀nm v,W.nsIn K mainGlobals nm=some (some v)->mg nm=some v)(g:∀kV d i j c ct e,e.length=ps.length->bindArgs (W.fnOf nm nm (dE st) (bN st) (ah st) .none kV d i j c ct) ⟨e,[]⟩=pure (ps.zip e))(h:∀f b,Fun K nm nm st f b->FnOk P w K mg base CX k f b ps sp):Cal P w K mg base CX k nm ps [] sp:=by obtain⟨f,b,F,a⟩:=D;exact⟨f,b,h f _ F,l _ _ a,F.kp,F.binds g,F.binds g⟩
def AtD.aoU(D:AtD K nm st)(i:∀nm v,W.nsIn K mainGlobals nm=some (some v)->mg nm=some v)(e:∀kV d j l c ct g,g.length=ps.length->bindArgs (W.fnOf nm nm (dE st) (bN st) (ah st) .none kV d j l c ct) ⟨g,[]⟩=pure (ps.zip g))(h:∀f b,Fun K nm nm st f b->mg nm=some (.ref f)->Binds K b ps []->FnOk P w K mg base CX k f b ps sp):Cal P w K mg base CX k nm ps [] sp:=by obtain⟨f,b,F,a⟩:=D;exact⟨f,b,h f _ F (i _ _ a) (F.binds e),i _ _ a,F.kp,F.binds e,F.binds e⟩
end
section
variable{X:Cx}{B:Bx}{k j:Nat}{ps:List Str}{ds:List Value}{fn:List VW->Res VW}{x:Str}{p pos:Pos}{e:Expr}{es:List Expr}{tas:AF}{n:Nat}{dws:List VW}{dvs:List V}
def cl(i:B.K=X.K)(d:Room j X.A)(C:Cal X.prog X.w X.K X.mg X.base CX0 k x ps ds (spW X.K n fn))(o:PA X (e::es) (loA B tas))(h:k<=j:=by decide)(g:∀σ ws,tas σ=.ok ws->ws.length=n:=by repeat first|exact je|apply cL)(r:Gl X x:=by rfl)(a:Dbg x:=by decide)(l:SE X e es:=by rfl)(c:BT X pos es:=by rfl):PE X (.Call (.Name x p) (e::es) [] pos) (lo B (WL.aK fn tas)):=by refine lP C λf s G m q b _=>?_;exact uw i.symm G (d.mono h) r m q b o g a l c
def cl0(c:B.K=X.K)(g:Room j X.A)(C:Cal X.prog X.w X.K X.mg X.base CX0 k x ps ds (spW X.K 0 fn))(h:k<=j:=by decide)(d:Gl X x:=by rfl)(a:Dbg x:=by decide):PE X (.Call (.Name x p) [] [] pos) (lo B (WL.aK fn WL.aA)):=by obtain⟨f,i,G,m,q,b,_⟩:=C;exact adm c.symm G (g.mono h) d m q b a
def clX(i:B.K=X.K)(d:Room j X.A)(s:XW X B)(C:Cal X.prog X.w X.K X.mg X.base (CXX X.prog X.w) k x ps ds (spX X.K n fn))(o:PA X (e::es) (loA B tas))(h:k<=j:=by decide)(g:∀σ ws,tas σ=.ok ws->ws.length=n:=by repeat first|exact je|apply cL)(r:Gl X x:=by rfl)(a:Dbg x:=by decide)(l:SE X e es:=by rfl)(c:BT X pos es:=by rfl):PE X (.Call (.Name x p) (e::es) [] pos) (lo B (WL.kg fn tas)):=by refine lP C λf t G m q b _=>?_;exact adl i.symm s G (d.mono h) r m q b o g a l c
end
def akT{a}{ps:List Str}(h:bindArgs a ⟨[],[]⟩=pure (ps.zip []))(us)(e:us.length=0):bindArgs a ⟨us,[]⟩=pure (ps.zip us):=by grind
def bind1{a}{ps:List Str}(h:∀b,bindArgs a ⟨[b],[]⟩=pure (ps.zip [b]))(us)(e:us.length=1):bindArgs a ⟨us,[]⟩=pure (ps.zip us):=us1 (P:=λus=>bindArgs _ ⟨us,[]⟩=pure _) h _ e
def ri{b}{ps:List Str}(h:∀c a,bindArgs b ⟨[c,a],[]⟩=pure (ps.zip [c,a]))(us)(e:us.length=2):bindArgs b ⟨us,[]⟩=pure (ps.zip us):=us2 (P:=λus=>bindArgs _ ⟨us,[]⟩=pure _) h _ e
def ub{b}{ps:List Str}(h:∀d a c,bindArgs b ⟨[d,a,c],[]⟩=pure (ps.zip [d,a,c]))(us)(e:us.length=3):bindArgs b ⟨us,[]⟩=pure (ps.zip us):=us3 (P:=λus=>bindArgs _ ⟨us,[]⟩=pure _) h _ e
def akS{b}{ps:List Str}(h:∀f a d c,bindArgs b ⟨[f,a,d,c],[]⟩=pure (ps.zip [f,a,d,c]))(us)(e:us.length=4):bindArgs b ⟨us,[]⟩=pure (ps.zip us):=us4 (P:=λus=>bindArgs _ ⟨us,[]⟩=pure _) h _ e
def akR{c}{ps:List Str}(h:∀g a f d b,bindArgs c ⟨[g,a,f,d,b],[]⟩=pure (ps.zip [g,a,f,d,b]))(us)(e:us.length=5):bindArgs c ⟨us,[]⟩=pure (ps.zip us):=us5 (P:=λus=>bindArgs _ ⟨us,[]⟩=pure _) h _ e
def akQ{d}{ps:List Str}(h:∀i a g f b c,bindArgs d ⟨[i,a,g,f,b,c],[]⟩=pure (ps.zip [i,a,g,f,b,c]))(us)(e:us.length=6):bindArgs d ⟨us,[]⟩=pure (ps.zip us):=us6 (P:=λus=>bindArgs _ ⟨us,[]⟩=pure _) h _ e
def cm{k}{A:Around}{a}(r:Room k (A.deeper a))(h:40<=k:=by first|decide|omega|exact apD (show 40<=_ by decide) (aqo _ _)):A.handled.isNone=true:=r.calm h
section
variable{X:Cx}{B:Bx}{a b e:Expr}{ta tb:EF}{pos:Pos}{x:Str}
def va(i)(g:X.N[i]?=some x:=by rfl)(d:Vis X.env.scope x:=by first|exact Or.inl rfl|exact Or.inr (Or.inl rfl)|exact Or.inr (Or.inr rfl))(f:Dbg x:=by decide)(c:(x=="__classdict__")=false:=by decide):PE X (.Name x pos) (lo B (WL.ai i)):=aiD (pv i g d f c)
def wx(c:B.K=X.K)(d:PE X a (lo B ta))(f:PE X b (lo B tb))(hs:jI b:=by exact λ_ _=>rfl):PE X (.Subscript a b pos) (lo B (WL.eOp WL.oIx ta tb)):=aiE acP (al2 c.symm) d f hs
def wk{v u w}(g:B.K=X.K)(c:X.mg x=some u)(r:RelV v u)(hw:∀F,RW X.K F w v)(d:Gl X x:=by rfl)(f:Dbg x:=by decide):PE X (.Name x pos) (lo B (WL.eC w)):=agt (uS d c r f) (by grind)
def wty{T}(g:X.mg x=none)(c:bootBuiltins x=some (.type T))(h:Gl X x:=by rfl)(d:x≠"__name__":=by decide)(f:Dbg x:=by decide):PE X (.Name x pos) (lo B (WL.eC (.ty T))):=agt (amK h g c d f) λ_=>rfl
def wcl{nm:String}{C:Addr}(d:B.K=X.K)(g:X.mg x=some (.ref C))(f:ExcAt X.K nm C)(h:Gl X x:=by rfl)(c:Dbg x:=by decide):PE X (.Name x pos) (lo B (WL.eC (.cls nm))):=aiG d.symm h g f c
def gx{i c a0 kvs}{ks vs:List VW}{p}(d:B.K=X.K)(h:X.mg x=some (.ref a0))(D:acY X.w X.K a0 kvs)(l:∀F k w,WL.nT k ks vs=some w->∃v,kvs.lookup k=some v/\RW X.K F w v)(f:PE X i (lo B c))(j:Gl X x:=by rfl)(hs:jI i:=by exact λ_ _=>rfl)(g:Dbg x:=by decide):PE X (.Subscript (.Name x p) i pos) (lo B (WL.eOp WL.oIx (WL.eC (.dic ks vs)) c)):=aiF d.symm (uS j h rfl g) D f (by rw[d];exact l) hs
def we2(f:B.K=X.K)(d:X.A.units+64<cLine)(g:PE X a (lo B ta))(c:PE X b (lo B tb)):PT X (.Compare a [.Eq] [b] pos) (loT B (WL.tB (WL.eOp WL.oEq ta tb))):=cA calm_eq (w_eq f.symm d) g c (bz _)
def wn2(f:B.K=X.K)(d:X.A.units+64<cLine)(g:PE X a (lo B ta))(c:PE X b (lo B tb)):PT X (.Compare a [.NotEq] [b] pos) (loT B (WL.tB (WL.eOp WL.oNe ta tb))):=cA ahS (ao3 f.symm d) g c (bz _)
def wS(i){c}(g:X.N.Nodup)(d:PE X e (lo B ta))(j:X.N[i]?=some x:=by rfl)(h:Loc X.env.scope x:=by first|exact Or.inl rfl|exact Or.inr rfl)(hs:swapsWith e (some (.Name x c)) pos.line X.env=pure false:=by rfl)(f:FL X x:=by first|exact .inl rfl|exact .inr rfl|assumption):PS X (.Assign [.Name x c] e pos) (loS B (WL.fN i ta)):=aiy g j h d hs f
def gN(i){b}(g:X.N.Nodup:=by exact qC rfl)(c:X.N[i]?=some x:=by rfl)(d:Loc X.env.scope x:=by first|exact Or.inl rfl|exact Or.inr rfl)(f:FL X x:=by first|exact .inl rfl|exact .inr rfl|assumption):PG X (.Name x pos) (loG b B (WL.aF i)):=ags (jn g c d f)
end
section
variable{X:Cx}{B:Bx}{r:List VW->Res VW}{tas:AF}{x:Str}{e:Expr}{es:List Expr}{p pos:Pos}{id:String}
def wB(cm:∀i c,r i≠.ex c)(f:bV X (.builtin id) (loN B.K r))(j:X.mg x=none)(d:bootBuiltins x=some (.builtin id))(g:PA X (e::es) (loA B tas))(k:Gl X x:=by rfl)(l:x≠"__name__":=by decide)(b:Dbg x:=by decide)(h:SE X e es:=by rfl)(a:BT X pos es:=by rfl):PE X (.Call (.Name x p) (e::es) [] pos) (lo B (WL.eBi r tas)):=aiH cm (adY f k j d g l b h a)
def wT(cm:∀i c,r i≠.ex c)(f:bV X (.type id) (loN B.K r))(j:X.mg x=none)(d:bootBuiltins x=some (.type id))(g:PA X (e::es) (loA B tas))(k:Gl X x:=by rfl)(l:x≠"__name__":=by decide)(b:Dbg x:=by decide)(h:SE X e es:=by rfl)(a:BT X pos es:=by rfl):PE X (.Call (.Name x p) (e::es) [] pos) (lo B (WL.eBi r tas)):=aiH cm (mW f k j d g l b h a)
def akV(P:Program)(w:World)(K:W.Frag)(c:Str->Option Value)(a:Heap)(fI:Addr)(ps:List Str)(sp:Sp):Prop:=∃b:FuncData,FnOk P w K c a CX0 1 fI b ps sp/\Binds K b ps []
def rI{j C fI ps nm l c}(m:B.K=X.K)(h:Room j X.A)(v:XW X B)(f:X.calm=true)(t:X.mg x=some (.ref C))(q:rD X.K C (some (.ref fI)))(d:W.typeIn X.K (.ref fI)=some (.type "function"))(I:akV X.prog X.w X.K X.mg X.base fI ps (spI C (WL.fieldsOf nm)))(k:ExcAt X.K nm C)(n:PA X (e::es) (loA B tas))(g:2<=j:=by decide)(u:Gl X x:=by rfl)(s:(WL.fieldsOf nm).length<=50:=by decide)(i:Dbg x:=by decide)(o:SE X e es:=by rfl)(a:BT X c es:=by rfl):PS X (.Raise (some (.Call (.Name x l) (e::es) [] c)) none pos) (loS B (WL.jl nm tas)):=by obtain⟨w,F,b⟩:=I;exact aae m.symm v f u t q d F (h.mono g) b k s n i o a
end
section
variable{K:W.Frag}
def ai1{a d n sl vs xs}(l:K.lookup a=some ⟨.type "tuple",d,.seq vs n,sl⟩)(b:Vals xs vs.toList)(c:vs.size<=sizeLine):∀H,SqT K H a xs:=λ_=>.inr ⟨_,_,_,l,rfl,rfl,c,b⟩
def akh{f a st j od i e kV d h b ct}(l:K.lookup f=some ⟨j,od,.func (W.fnOf "__init__" a (dE st) (bN st) (ah st) .none kV d h i b ct),e⟩)(c:W.codeIn K b a=true)(q:W.keepIn K (.ref f)=true):∃g,Fun K "__init__" a st f g:=⟨_,ab5 l c q⟩
def vn{P w i b f a st ps sp}(D:∃c,Fun K "__init__" a st f c)(k:∀kV e j l d ct g,g.length=ps.length->bindArgs (W.fnOf "__init__" a (dE st) (bN st) (ah st) .none kV e j l d ct) ⟨g,[]⟩=pure (ps.zip g))(h:∀c,Fun K "__init__" a st f c->FnOk P w K i b CX0 1 f c ps sp):akV P w K i b f ps sp:=by obtain⟨c,F⟩:=D;exact⟨c,h _ F,F.binds k⟩
def aeJ{nm a}(b:W.nsIn K mainGlobals (Str.ofString nm)=some (some (.ref a)))(c:W.typeIn K (.ref a)=some (.type "type"))(d:(W.clsIn K a).map (·.mro)=some (.ref a::gq))(e:W.findIn K (.ref a) "__getattribute__"=some (some (.builtin "BaseException.__getattribute__")))(f:W.findIn K (.ref a) "__getattr__"=some none)(g:W.findIn K (.ref a) "__class__"=some (some (.builtin "object.__class__"))):W.nsIn K mainGlobals (Str.ofString (nm,a).1)=some (some (.ref (nm,a).2))/\Exc1 K a (nm,a).2:=⟨b,c,.inl ⟨d,rfl⟩,e,f,g⟩
def ahC{nm a b}(h:W.nsIn K mainGlobals (Str.ofString nm)=some (some (.ref a)))(c:W.typeIn K (.ref a)=some (.type "type"))(d:(W.clsIn K a).map (·.mro)=some (.ref a::.ref b::gq))(e:W.findIn K (.ref a) "__getattribute__"=some (some (.builtin "BaseException.__getattribute__")))(f:W.findIn K (.ref a) "__getattr__"=some none)(g:W.findIn K (.ref a) "__class__"=some (some (.builtin "object.__class__"))):W.nsIn K mainGlobals (Str.ofString (nm,a).1)=some (some (.ref (nm,a).2))/\Exc1 K b (nm,a).2:=⟨h,c,.inr d,e,f,g⟩
end
def aj2{P w K g k o st m ps}(D:AtD K "law" st)(A:∀p v,W.nsIn K mainGlobals p=some (some v)->g p=some v)(l:g "law"=some (.ref m)){x}(y:∀kV i n q d ct v,bindArgs (W.fnOf "law" "law" (dE st) (bN st) (ah st) .none kV i n q d ct) ⟨[v],[]⟩=pure [(x,v)])(h:∀b f c,Fun K "law" "law" st f c->FnOk P w K g b CX0 k f c ps (spW K 1 o))(z:∀r:List Int,r.length<=63->o [.lst (r.map .int)]=.ok (.bl true)):∃c,(∀s v,BindsTo s c ⟨[v],[]⟩ [(x,v)])/\∀b,K.In b->b.Ns mainGlobals g->FnOk P w K g b CX0 k m c ps (aaJ K):=by refine eg D λf c F a=>?_;have e:=l.symm.trans (A _ _ a);cases e;refine⟨c,λs v=>?_,λb _ _=>aj1 (h _ _ _ F) z⟩;refine aip F.ex λB od kV i n q d ct u j C t=>?_;subst j;exact .of_eq (y _ _ _ _ _ _ v)
noncomputable def noL(K:W.Frag):Bool:=K.all λp=>match p.2.cls with|.type n=>n !="list"|_=>true
theorem afQ:∀{K:W.Frag},noL K=true->∀{a:Addr}{o:Obj},K.lookup a=some o->o.cls≠.type "list"
|[],_,a,o,e=>by simp at e|(b,u)::K,h,a,o,e=>by
 simp only[noL,asm,apT]at h;rw[aqh]at e;split at e;.cases e;intro z;have c:=h.1;rw[z]at c;simp at c
 .exact afQ h.2 e
def SqL.here{K:W.Frag}{F:Hp}{a:Addr}{vs:List V}(h:noL K=true)(q:SqL K F a vs):Rd F a (.lst vs):=by
 rcases q with q|⟨o,b,n,d,c,_⟩;.exact q
 .exact absurd c (afQ h d)
noncomputable def uni(G b:Hp):Hp:=λa=>match G a with|some o=>some o|none=>b a
def al6{G b:Hp}:aC G (uni G b):=λa o e=>by unfold uni;rw[e]
def al5{G b F:Hp}(h:aC G F)(h':aC b F):aC b (uni G b):=λa o e=>by unfold uni;cases c:G a with|none=>exact e|some u=>rw[<-h a u c,h' a o e]
def afj{G b:Hp}{a:Addr}{o:HO}(e:uni G b a=some o):G a=some o\/G a=none/\b a=some o:=by unfold uni at e;cases c:G a with|none=>rw[c]at e;exact .inr ⟨rfl,e⟩|some u=>rw[c]at e;exact .inl e
def aiK{G b F:Hp}(h:aC G F)(h':aC b F):aC (uni G b) F:=λa o e=>by
 rcases afj e with e|⟨_,e⟩;.exact h a o e
 .exact h' a o e
noncomputable def one(a:Addr)(o:HO):Hp:=λb=>if b=a then some o else none
def sP{a b:Addr}{o u:HO}(e:one a o b=some u):b=a/\u=o:=by
 unfold one at e;split at e;.rename_i h;cases e;exact⟨h,rfl⟩
 .cases e
def one_le{a:Addr}{o:HO}{F:Hp}(h:F a=some o):aC (one a o) F:=λb u e=>by obtain⟨rfl,rfl⟩:=sP e;exact h
def xg{a:Addr}{o:HO}:one a o a=some o:=apB rfl
section
variable{X:Cx}{B:Bx}{σ:Ws}{σV:L2.St}{F H:Hp}
def RS.drop(R:RS B σ σV F H)(i:Nat)(x:Option V):RS B (σ.set i .no) (σV.set i x) F H:=by
 have c:∀{j:Nat}{sl:Sl},(σ.set i .no)[j]?=some sl->sl≠.no->i≠j/\σ[j]?=some sl:=λ{j sl}e q=>by
  by_cases b:i=j
  .subst b;have r:i<σ.length:=by have:=(apC.mp e).1;simpa using this
   rw[apz r]at e;cases e;exact absurd rfl q
  .rw[apv b]at e;exact⟨b,e⟩
 refine⟨R.rb,by simp[R.len],λj w e=>?_,λj ws e=>?_,λj k ws d a f g h m l=>?_,R.aie i (sl:=.no) (λz=>z) _ (aC.refl _) λ_ _ _ _ _ _ _ _ o n=>⟨n,o⟩⟩;.obtain⟨b,e⟩:=c e (by intro z;cases z);rw[apv b];exact R.va j w e
 .obtain⟨b,e⟩:=c e (by intro z;cases z);rw[apv b];exact R.ow j ws e
 .obtain⟨b,g⟩:=c g (by intro z;cases z);obtain⟨p,h⟩:=c h (by intro z;cases z);rw[apv b]at m;rw[apv p]at l;exact R.ap j k ws d a f g h m l
def RS.away(R:RS B σ σV F H){a:Addr}(o:HO)(x:F a=none)(l:B.H0 a=none)(q:∀(j:Nat)(ws:List VW),σ[j]?=some (Sl.ow ws)->σV[j]?≠some (some (V.ref a)))(d:∀(j:Nat)(f g:List VW),σ[j]?=some (Sl.od f g)->σV[j]?≠some (some (V.ref a))):RS B σ σV F (upd H a o):=by
 refine⟨⟨λb u e=>?_,λb u e=>?_,R.rb.fz0,R.rb.fr⟩,R.len,R.va,λj ws e=>?_,R.ap,R.dd.via rfl id (λ_ _ z=>.inl z) (λ_ _ _ e=>⟨e,rfl⟩) (aC.refl _) λj f g b p i v s n k=>⟨n,k,by
  have c:b≠a:=λz=>by subst z;exact d j f g i v
  rw[ak c];exact s⟩⟩
 .have c:b≠a:=λz=>by subst z;rw[x]at e;cases e
  rw[ak c];exact R.rb.sub b u e
 .have c:b≠a:=λz=>by subst z;rw[l]at e;cases e
  rw[ak c];exact R.rb.base b u e
 .obtain⟨b,m,h,y,w,t,r⟩:=R.ow j ws e;have c:b≠a:=λz=>by subst z;exact q j ws e h
  exact⟨b,m,h,y,w,by rw[ak c];exact t,r⟩
variable{i:Nat}{as:List VW}{s1 s2:SF}{st:Stmt}{sts rest:List Stmt}{tt:TF}{pos:Pos}
end
def Xq{b:Type}(r:Res b)(k:b->Prop):Prop:=match r with|.ok a=>k a|_=>False
theorem Xq.bind{b d:Type}{r:Res b}{g:b->Res d}{k:d->Prop}(h:Xq (r.bind g) k):Xq r λa=>Xq (g a) k:=by cases r with|ok a=>exact h|ex c=>exact h|bad=>exact h
def Xq.mono{b:Type}{r:Res b}{k k':b->Prop}(h:Xq r k)(f:∀a,k a->k' a):Xq r k':=by cases r with|ok a=>exact f a h|ex c=>exact h|bad=>exact h
def Xq.rq{B:Bx}{σ:Ws}{F:Hp}{b:Type}{r:Res b}{k:b->Prop}(h:Xq r k):Rq B σ F r k:=by cases r with|ok a=>exact h|ex c=>exact h.elim|bad=>exact h
section
variable{X:Cx}{B:Bx}{i n:Nat}{fn:FS}{xs:XA}{tas:AF}{e:Expr}{es:List Expr}{x:Str}{p pos pos':Pos}{ps:List Str}{ds:List Value}{j k:Nat}
def ain:∀(σ:Ws)(p:List VW×Ws),WL.aJ σ=.ok p->p.1.length=0:=λσ p e=>by cases e;rfl
def agd{t:XF}(h:∀(σ:Ws)(p:List VW×Ws),xs σ=.ok p->p.1.length=n):∀(σ:Ws)(p:List VW×Ws),WL.ar t xs σ=.ok p->p.1.length=n+1:=λσ p q=>by have q:((t σ).bind λp=>(xs p.2).bind λq=>Res.ok (p.1::q.1,q.2))=.ok p:=q;cases b:t σ with|bad=>rw[b]at q;cases q|ex c=>rw[b]at q;cases q|ok r=>rw[b]at q;have q:((xs r.2).bind λq=>Res.ok (r.1::q.1,q.2))=.ok p:=q;cases a:xs r.2 with|bad=>rw[a]at q;cases q|ex c=>rw[a]at q;cases q|ok r2=>rw[a]at q;cases q;simp[h r.2 r2 a]
end
def Oz(B:Bx)(z:Addr)(D:Ends)(F:Hp)(o:Out):Prop:=match o with|.nx σ'=>∀a c b,RS B σ' a b c->a[0]?=some (some (.ref z))->aC F b->D.nx a c|.bk σ'=>∀a c b,RS B σ' a b c->a[0]?=some (some (.ref z))->aC F b->D.bk a c|.ct σ'=>∀a c b,RS B σ' a b c->a[0]?=some (some (.ref z))->aC F b->D.ct a c|.rt w=>∃w1 st,w=.exc "" [w1,.lst st]/\∀v c b d,RB B b c->aC F b->RW B.K b w1 v->b z=none->c z=some (.lst d)->RWs B.K b st d->D.rt v c|.ex _ _=>False|.bad=>False
def Oz.mono{B:Bx}{z:Addr}{D:Ends}{F F':Hp}{o:Out}(s:aC F F')(h:Oz B z D F o):Oz B z D F' o:=by cases o with|nx σ=>exact λa H G R b w=>h a H G R b (s.trans w)|bk σ=>exact λa H G R b w=>h a H G R b (s.trans w)|ct σ=>exact λa H G R b w=>h a H G R b (s.trans w)|rt w=>obtain⟨w1,st,e,h⟩:=h;exact⟨w1,st,e,λv H G d R w=>h v H G d R (s.trans w)⟩|ex c σ=>exact h|bad=>exact h
section
variable{X:Cx}{B:Bx}{z:Addr}{e tg iter:Expr}{pos:Pos}{ta tb:EF}{tt:TF}{xa xn:XF}{g:GF}{b:SF}{st:Stmt}{sts rest:List Stmt}{s1 s2:SF}{i:Nat}{x:Str}
def abq{K:W.Frag}{F:Hp}{k:Int}{vs:List V}(r:RWs K F [.int k] vs):vs=[.int k]:=by simp only[RWs,RW]at r;obtain⟨v,t,rfl,rfl,rfl⟩:=r;rfl
def RS.tail{σ:Ws}{c:L2.St}{F H:Hp}(R:RS B σ c F H):RS B (σ.drop 1) (c.drop 1) F H:=by
 refine⟨R.rb,by simp[R.len],λi w e=>?_,λi ws e=>?_,λi j ws d a n f k h l=>?_,R.dd.via rfl (λi=>1+i) (λi j z=>.inl (by omega)) (λj q _ e=>by rw[aqB]at e⊢;exact⟨e,rfl⟩) (aC.refl _) λ_ _ _ _ _ _ _ p o m=>⟨o,m,p⟩⟩;.rw[aqB]at e⊢;exact R.va _ w e
 .rw[aqB]at e⊢;exact R.ow _ ws e
 .rw[aqB]at f k h l;exact R.ap _ _ ws d a (by omega) f k h l
variable{scope:Scope}{ts:List Str}{elt:Expr}
def gP(i:Nat)(f:X.N.Nodup:=by exact qC rfl)(a:X.N[i]?=some x:=by rfl)(c:Loc X.env.scope x:=by first|exact Or.inl rfl|exact Or.inr rfl)(d:FL X x:=by first|exact .inl rfl|exact .inr rfl|assumption):PG X (.Name x pos) (L2.aF i):=jn f a c d
end
section
variable{P:Program}{w:World}{K:W.Frag}{mg:Str->Option Value}{base:Heap}
noncomputable def om(H:Hp)(a:Addr):Hp:=λb=>if b=a then none else H b
def fY(H:Hp)(a:Addr):om H a a=none:=apB rfl
def e9{H:Hp}{a b:Addr}(h:b≠a):om H a b=H b:=apA h
end
noncomputable def rmK:List V->List (Key×V)|[a,b,c]=>[(.inr "left",a),(.inr "at",b),(.inr "cells",c)]|_=>[]
def agX(vs):(rmK vs).length<=3:=by unfold rmK;split<;>simp
structure RR(B:Bx)(z:Addr)(j:Nat)(σ:Ws)(σV:L2.St)(F H:Hp):Prop where
 rs:RS B (σ.set j .no) σV F H
 zs:σV[j]?=some (some (.ref z))nf:F z=none
 n0:B.H0 z=none
 apd:∀(k:Nat)(ks us:List VW),(σ.set j .no)[k]?=some (.od ks us)->σV[k]?≠some (some (.ref z))rm:∃st vs,σ[j]?=some (.ow st)/\vs.length=3/\H z=some (.dK (rmK vs))/\RWs B.K F st vs
section
variable{B:Bx}{z:Addr}{j:Nat}{σ:Ws}{σV:L2.St}{F H F' H':Hp}
def xj{i j sl}(c:i≠j)(hs:¬IsO sl){k}{ks us:List VW}(q:((σ.set i sl).set j .no)[k]?=some (.od ks us)):i≠k/\(σ.set j .no)[k]?=some (.od ks us):=by
 rw[aqC _ _ c]at q;have a:i≠k:=λe=>by
  subst e;by_cases b:i<(σ.set j .no).length;.rw[apz b]at q;cases q;exact hs trivial
  .rw[arl (by grind)]at q;cases q
 rw[apv a]at q;exact⟨a,q⟩
def RR.grow(R:RR B z j σ σV F H)(g:Gr F H F' H')(d:RS B (σ.set j .no) σV F' H'):RR B z j σ σV F' H':=by refine lD R.rm λst b e c a r=>?_;exact⟨d,R.zs,g.nf z _ a R.nf,R.n0,R.apd,st,b,e,c,g.h z _ a,r.keep g.f⟩
def RR.ext(R:RR B z j σ σV F H)(E:Ext F H F' H'):RR B z j σ σV F' H':=R.grow E.gr (E.rs B _ _ R.rs)
theorem RR.new(R:RR B z j σ σV F H){p}(a:H p=none)(o)(b:NF o:=by trivial):RR B z j σ σV (upd F p o) (upd H p o):=R.ext (Ext.new (R.rs.rb.sub.free a) a o b)
theorem RR.set(R:RR B z j σ σV F H){i w v}(a:i≠j)(hw:RW B.K F w v):RR B z j (σ.set i (.va w)) (σV.set i (some v)) F H:=by refine lD R.rm λst b e d c r=>?_;exact⟨by rw[aqC _ _ a];exact R.rs.set hw,by rw[apv a];exact R.zs,R.nf,R.n0,λk h f q=>by obtain⟨g,q⟩:=xj (sl:=.va w) a (λz=>z) q;rw[apv g];exact R.apd k _ f q,st,b,by grind,d,c,r⟩
theorem RR.ak7(R:RR B z j σ σV F H){i ws vs a}(c:i≠j)(n:F a=none)(d:B.H0 a=none)(o:H a=some (.lst vs))(hw:RWs B.K F ws vs)(f:∀(k:Nat)(b:List VW),(σ.set j .no)[k]?=some (.ow b)->σV[k]?≠some (some (.ref a))):RR B z j (σ.set i (.ow ws)) (σV.set i (some (.ref a))) F H:=by refine lD R.rm λst b e h g r=>?_;exact⟨by rw[aqC _ _ c];exact R.rs.ak7 n d o hw λk b _ q=>f k b q,by rw[apv c];exact R.zs,R.nf,R.n0,λk l b q=>by obtain⟨m,q⟩:=xj (sl:=.ow ws) c (λz=>z) q;rw[apv m];exact R.apd k l b q,st,b,by grind,h,g,r⟩
def RR.own(R:RR B z j σ σV F H){i}{ws:List VW}(a:i≠j)(e:σ[i]?=some (.ow ws)):(σ.set j .no)[i]?=some (.ow ws):=by grind
def RR.apart(R:RR B z j σ σV F H)(k:Nat)(ws:List VW)(e:(σ.set j .no)[k]?=some (.ow ws)):σV[k]?≠some (some (.ref z)):=λq=>by refine lD R.rm λst f _ _ d _=>?_;refine lP (R.rs.ow k _ e) λa g c _ _ b _=>?_;rw[q]at c;cases c;rw[d]at b;cases b
def RR.put(R:RR B z j σ σV F H){b a}(c:a.length=3)(r:RWs B.K F b a):RR B z j (σ.set j (.ow b)) σV F (upd H z (.dK (rmK a))):=by refine eg R.rm λst d e _=>?_;exact⟨by rw[arG];exact R.rs.away _ R.nf R.n0 R.apart R.apd,R.zs,R.nf,R.n0,by rw[arG];exact R.apd,_,_,apz (apC.mp e).1,c,av,r⟩
def RR.hand(R:RR B z j σ σV F H){d c}(g:aC F F')(x:aC F' H')(keep:∀b o,b≠z->H b=some o->H' b=some o)(fr:∀b o,F' b=some o->F b=some o\/H b=none/\NF o)(E:F' z=none)(C:c.length=3)(G:H' z=some (.dK (rmK c)))(J:RWs B.K F' d c):RR B z j (σ.set j (.ow d)) σV F' H':=by
 refine eg R.rm λst K e _=>?_;have I:j<σ.length:=(apC.mp e).1;refine⟨?_,R.zs,E,R.n0,by rw[arG];exact R.apd,d,c,apz I,C,G,J⟩;rw[arG];refine⟨⟨x,λb o q=>keep b o (λw=>by subst w;rw[R.n0]at q;cases q) (R.rs.rb.base b o q),R.rs.rb.fz0.trans g,λb o q=>?_⟩,R.rs.len,λk w q=>?_,λk ws q=>?_,R.rs.ap,R.rs.dd.via rfl id (λ_ _ z=>.inl z) (λ_ _ _ e=>⟨e,rfl⟩) g λk s i b r q t f l y=>⟨?_,y,keep b _ (λw=>by subst w;exact R.apd k s i q t) f⟩⟩
 .rcases fr b o q with w|w;.exact R.rs.rb.fr b o w
  .exact .inr ⟨R.rs.rb.base.free w.1,w.2⟩
 .obtain⟨v,h,m⟩:=R.rs.va k w q;exact⟨v,h,m.keep g⟩
 .refine lP (R.rs.ow k ws q) λa i h m u p A=>?_;have D:a≠z:=λw=>by grind
  refine afb a i h ?_ u (keep a _ D p) (A.keep g);cases n:F' a with|none=>rfl|some o2=>
   rcases fr a o2 n with w|w;.rw[m]at w;cases w
   .rw[p]at w;cases w.1
 .cases n:F' b with|none=>rfl|some o2=>
   rcases fr b o2 n with w|w;.rw[l]at w;cases w
   .rw[f]at w;cases w.1
def ab6{i}(a:i≠j):(WL.frz i σ).set j .no=WL.frz i (σ.set j .no):=by unfold WL.frz;rw[apv (apO a)];cases σ[i]? with|none=>rfl|some sl=>cases sl with|ow ws=>exact aqC _ _ a|od ks us=>exact aqC _ _ a|no=>rfl|ob=>rfl|va w=>rfl
def akt{i}(a:i≠j):(WL.frz i σ)[j]?=σ[j]?:=by
 unfold WL.frz;split;.rw[apv a]
 .rw[apv a]
 .rfl
def aks{i k:Nat}{ks us:List VW}(q:(WL.frz i σ)[k]?=some (.od ks us)):σ[k]?=some (.od ks us):=by
 unfold WL.frz at q;split at q
 .by_cases a:i=k
  .subst a;by_cases b:i<σ.length;.rw[apz b]at q;cases q
   .rw[arl (by grind)]at q;cases q
  .rwa[apv a]at q
 .by_cases a:i=k
  .subst a;by_cases b:i<σ.length;.rw[apz b]at q;cases q
   .rw[arl (by grind)]at q;cases q
  .rwa[apv a]at q
 .exact q
set_option tactic.hygienic true
theorem RR.frz(R:RR B z j σ σV F H){i}(f:i≠j):∃F',aC F F'/\RR B z j (WL.frz i σ) σV F' H:=by
 have d:(σ.set j .no)[i]?=σ[i]?:=apv (apO f);by_cases g:(∃ws,σ[i]?=some (.ow ws))\/∃b c,σ[i]?=some (.od b c)
 .refine jK (R.rs.frz i) λn s v q=>?_;refine lD R.rm λst m e p x r=>?_;refine⟨n,s,by rw[ab6 f];exact v,R.zs,?_,R.n0,λk b c q=>R.apd k b c (by rw[ab6 f]at q;exact aks q),st,m,by rw[akt f];exact e,p,x,r.keep s⟩;rcases q with⟨q,_⟩|⟨a,o,w,q,_,_,y,l,_,_⟩;.rw[q];exact R.nf
  .have u:z≠a:=λt=>by
    subst t;rcases g with⟨ws,h⟩|⟨b,c,h⟩;.exact R.apart i ws (d.trans h) l
    .exact R.apd i b c (d.trans h) l
   rw[q,ak u];exact R.nf
 .have:WL.frz i σ=σ:=by
   unfold WL.frz;split;.rename_i ws e;exact absurd (.inl ⟨ws,e⟩) g
   .rename_i b c e;exact absurd (.inr ⟨b,c,e⟩) g
   .rfl
  rw[this];exact⟨F,aC.refl _,R⟩
set_option tactic.hygienic false
theorem RR.ahead(R:RR B z j σ σV F H):RR B z (j+1) (.no::σ) (List.replicate 1 none++σV) F H:=by refine lD R.rm λst a e c b r=>?_;exact⟨R.rs.ahead 1,R.zs,R.nf,R.n0,λk f d q=>by cases k with|zero=>cases q|succ k=>exact R.apd k _ _ q,st,a,e,c,b,r⟩
theorem RR.tail(R:RR B z (j+1) σ σV F H):RR B z j (σ.drop 1) (σV.drop 1) F H:=by
 refine lD R.rm λst b e d c r=>?_;have h:=R.rs.tail;have a:(σ.set (j+1) .no).drop 1=(σ.drop 1).set j .no:=by simp
 rw[a]at h;refine⟨h,?_,R.nf,R.n0,λk g f q=>?_,st,b,?_,d,c,r⟩;.rw[aqB,Nat.add_comm];exact R.zs
 .rw[<-a,aqB]at q;rw[aqB];exact R.apd _ _ _ q
 .rw[aqB,Nat.add_comm];exact e
def RR.aoi(R:RR B z j σ σV F H){st:List VW}{vs}(e:σ[j]?=some (.ow st))(M:vs.length=3)(Q:H z=some (.dK (rmK vs)))(r:RWs B.K F st vs):RS B (σ.set j (.va (.dic WL.rks st))) σV (upd F z (.dK (rmK vs))) H:=by
 have D:j<σ.length:=(apC.mp e).1;have g:aC F (upd F z (.dK (rmK vs))):=aD R.nf _;have p:σ.length=σV.length:=by have:=R.rs.len;rwa[ar0]at this
 have back:∀{i:Nat}{ws:List VW},(σ.set j (.va (.dic WL.rks st)))[i]?=some (.ow ws)->(σ.set j .no)[i]?=some (.ow ws):=λ{i ws}q=>by grind
 have d:∀{i:Nat}{sl:Sl},IsO sl->(σ.set j (.va (.dic WL.rks st)))[i]?=some sl->(σ.set j .no)[i]?=some sl:=λ{i sl}y q=>by
  by_cases f:j=i;.subst f;rw[apz D]at q;cases q;exact y.elim
  .rw[apv f]at q⊢;exact q
 refine⟨⟨λb o q=>?_,R.rs.rb.base,R.rs.rb.fz0.trans g,λb o q=>?_⟩,by rw[ar0];exact p,λi w q=>?_,λi ws q=>?_,λi k ws n a t P S=>R.rs.ap i k ws n a t (back P) (back S),R.rs.dd.via rfl id (λ_ _ z=>.inl z) (λk sl y q=>⟨d y q,rfl⟩) g λk C m b E q G u s J=>⟨by rw[ak λw=>by subst w;exact R.apd k C m (d (sl:=.od C m) trivial q) G];exact s,J,u⟩⟩
 .by_cases h:b=z;.subst h;rw[av]at q;cases q;exact Q
  .rw[ak h]at q;exact R.rs.rb.sub b o q
 .by_cases h:b=z;.subst h;rw[av]at q;cases q;exact .inr ⟨R.n0,trivial⟩
  .rw[ak h]at q;exact R.rs.rb.fr b o q
 .by_cases f:j=i;.subst f;rw[apz D]at q;cases q;refine⟨.ref z,R.zs,?_⟩;match vs,M with|[a,b,c],_=>simp only[RW];exact zN z _ rfl (.inl av) (by simp[WL.rks,RWs,RW,rmK,kV]) (r.keep g)
  .rw[apv f]at q;obtain⟨v,l,x⟩:=R.rs.va i w (by rw[apv f];exact q);exact⟨v,l,x.keep g⟩
 .have A:=back q;refine lP (R.rs.ow i ws A) λa m l x I N K=>?_;have O:a≠z:=λw=>by subst w;exact R.apart i ws A l
  exact afb a m l (by rw[ak O];exact x) I N (K.keep g)
def RR.back(R:RR B z j σ σV F H){st:List VW}{vs}(p:H z=some (.dK (rmK vs)))(f:RS B (σ.set j (.va (.dic WL.rks st))) σV F' H')(g:Gr (upd F z (.dK (rmK vs))) H F' H'):RR B z j σ σV (om F' z) H'/\aC F (om F' z)/\∀w v,WL.plain w=true->RW B.K F' w v->RW B.K (om F' z) w v:=by
 have d:aC F (om F' z):=λb o q=>by
  have c:b≠z:=λw=>by subst w;rw[R.nf]at q;cases q
  rw[e9 c];exact g.f b o (by rw[ak c];exact q)
 have sub:aC (om F' z) F':=λb o q=>by
  have c:b≠z:=λw=>by subst w;rw[fY]at q;cases q
  rwa[e9 c]at q
 have h:Gr F H (om F' z) H':=⟨d,g.h,λa o k m=>by
  by_cases e:a=z;.subst e;exact fY _ _
  .rw[e9 e];exact g.nf a o k (by rw[ak e];exact m)⟩;refine⟨R.grow h (R.rs.grow h ⟨sub.trans f.rb.sub,f.rb.base,R.rs.rb.fz0.trans d,λb o q=>f.rb.fr b o (sub b o q)⟩),d,λw v l hw=>RW.less (λa n q=>?_) w v l hw⟩;have i:=g.f z _ av;rcases q with(q|⟨o,q⟩)|q
 .have c:a≠z:=λw=>by grind
  exact .inl (.inl (by rw[e9 c];exact q))
 .have c:a≠z:=λw=>by subst w;rw[i]at q;cases q
  exact .inl (.inr ⟨o,by rw[e9 c];exact q⟩)
 .exact .inr q
end
def loY(B:Bx)(z:Addr)(j:Nat)(t:XF):TE:=λa H Q=>∃σ F,RR B z j σ a F H/\Xq (t σ) λp=>∀v c b,RR B z j p.2 a b c->aC F b->RW B.K b p.1 v->Q v c
def aen(B:Bx)(z:Addr)(j:Nat)(t:XA):TA:=λa H Q=>∃σ F,RR B z j σ a F H/\Xq (t σ) λp=>∀c d b,RR B z j p.2 a b d->aC F b->RWs B.K b p.1 c->Q c d
section
variable{X:Cx}{B:Bx}{z:Addr}{j:Nat}{e a b:Expr}{es:List Expr}{pos:Pos}{ta:EF}{tt:TF}{xa xb:XF}{xs:XA}
def bx(h:PE X e (lo B ta)):PE X e (loY B z j (WL.yP j ta)):=PE.imp h λc H Q⟨σ,F,R,q⟩=>by have q:=Xq.bind q;exact⟨_,F,R.rs,(Xq.mono q λw d v i k f g r=>d v _ _ (R.grow g f) g.f r).rq⟩
def zX(h:PT X e (loT B tt)):PT X e (lR (loY B z j (WL.yT j tt))):=PT.imp h λc H Q⟨σ,F,R,q⟩=>by have q:=Xq.bind q;exact(cE _ F R.rs ((Xq.mono q λb d i l f g=>by obtain⟨k,e,h⟩:=d _ _ _ (R.grow g f) g.f (rfl);cases e;exact h).rq))
def akZ(h:PE X e (lo B ta)):PE X e (loY B z j (WL.yR j ta)):=PE.imp h λi H Q⟨σ,F,R,q⟩=>by
 refine lD R.rm λst p e k f r=>?_;have q:Xq ((WL.rdS j σ _).bind _) _:=q;rw[e]at q;have q:=Xq.bind (show Xq ((ta _).bind _) _ from q);refine cE _ _ (R.aoi e k f r) (Xq.mono q λw c v s t o g l=>?_).rq;refine age (R.back f o g) λR2 n m=>?_;by_cases d:WL.plain w=true;.rw[apB d]at c;exact c v _ _ R2 n (m w v d l)
 .rw[apA d]at c;exact(c).elim
def aof(h:PT X e (loT B tt)):PT X e (lR (loY B z j (WL.yRT j tt))):=PT.imp h λd H Q⟨σ,F,R,q⟩=>by refine lD R.rm λst n e f c r=>?_;have q:Xq ((WL.rdS j σ _).bind _) _:=q;rw[e]at q;have q:=Xq.bind (show Xq ((tt _).bind _) _ from q);refine cE _ _ (R.aoi e f c r) (Xq.mono q λb l o p m g=>?_).rq;refine age (R.back c m g) λR2 i _=>?_;obtain⟨k,e,h⟩:=l _ _ _ R2 i (rfl);cases e;exact h
def xD{r h}(f:∀x y H Q,lo2 B.K r x y H Q->h x y H Q):∀d H Q,loY B z j (WL.xOp r xa xb) d H Q->tOp h (loY B z j xa) (loY B z j xb) d H Q:=by intro d H Q⟨σ,F,R,q⟩;have q:=Xq.bind q;refine cE σ F R (Xq.mono q λp A G D k o m s=>cE p.2 k o (Xq.mono (Xq.bind A) λI g K J l R2 i C=>f _ _ _ _ (rE l p.1 _ R2.rs.rb.sub (s.keep i) C ?_)));cases e:r p.1 _ with|ok w=>rw[e]at g;exact λv t n E u=>g v n t (R2.ext E) ((m.trans i).trans E.same) u|ex c=>rw[e]at g;exact(g).elim|bad=>rw[e]at g;exact(g).elim
def g8{op r}(h:OpR X (binaryOp op) (lo2 B.K r))(c:PE X a (loY B z j xa))(d:PE X b (loY B z j xb)):PE X (.BinOp a op b pos) (loY B z j (WL.xOp r xa xb)):=PE.imp (ajt h c d) (xD λ_ _ _ _ q=>q)
def um(c:B.K=X.K)(d:PE X a (loY B z j xa))(f:PE X b (loY B z j xb))(hs:jI b:=by exact λ_ _=>rfl):PE X (.Subscript a b pos) (loY B z j (WL.xOp WL.oIx xa xb)):=PE.imp (ag9 (al2 c.symm) d f hs) (xD λ_ _ _ _ q=>q)
def ae8{op r}(h:OpR X (compareOp op) (lo2 B.K r))(c:PE X a (loY B z j xa))(f:PE X b (loY B z j xb))(d:behindInMarks op b=false):PE X (.Compare a [op] [b] pos) (loY B z j (WL.xOp r xa xb)):=PE.imp (abj h c f d) (xD λ_ _ _ _ q=>q)
def vX{op r}(h:OpR X (compareOp op) (lo2 B.K r))(d:PE X a (loY B z j xa))(g:PE X b (loY B z j xb))(f:behindInMarks op b=false):PT X (.Compare a [op] [b] pos) (lR (loY B z j (WL.xOp r xa xb))):=PT.imp (aa8 h d g f) λc H Q q=>xD (λ_ _ _ _ q=>q) _ H _ q
def agf(c:PT X a (lR (loY B z j xa))):PW X (.BoolOp .And [a] pos) (lR (loY B z j xa)):=aa4 c
def air{rest}(s:PT X a (lR (loY B z j xa)))(r:PW X (.BoolOp .And (b::rest) pos) (lR (loY B z j xb))):PW X (.BoolOp .And (a::b::rest) pos) (lR (loY B z j (WL.ak2 xa xb))):=PW.imp (afy s r) λm H Q⟨σ,F,R,q⟩=>by have q:=Xq.bind q;refine cE σ F R (Xq.mono q λp c v l f i g o=>?_);obtain⟨w,d⟩:=p;cases w with
|bl k=>refine⟨k,o,?_⟩;cases k with|true=>exact cE d f i (Xq.mono c λC n x u A R2 t y=>n x u _ R2 (g.trans t) y)|false=>obtain⟨k,e,h⟩:=c _ l f i g (rfl);cases e;exact h
|_=>exact(c).elim
def aS:PA X [] (aen B z j WL.aJ):=PA.imp eF λc H Q⟨σ,F,R,q⟩=>q _ H F R (aC.refl _) (rfl)
def az(l:PE X e (loY B z j xa))(g:PA X es (aen B z j xs))(hs:SE X e es:=by rfl):PA X (e::es) (aen B z j (WL.ar xa xs)):=PA.imp (bM l g hs) λd H Q⟨σ,F,R,q⟩=>by have q:=Xq.bind q;exact cE σ F R (Xq.mono q λp n v r f i h k=>cE _ f i (Xq.mono (Xq.bind n) λu m s w t R2 c o=>m _ _ _ R2 (h.trans c) (.cons (k.keep c) o)))
def oz{o}(h:PA X es (aen B z j xs)):PE X (.Tuple es o pos) (loY B z j (WL.zO xs)):=PE.imp (afG h) λn H Q⟨σ,F,R,q⟩=>by
 have q:=Xq.bind q;refine⟨σ,F,R,Xq.mono q λp c g s t l r k=>?_⟩;by_cases f:p.1.length<=WL.lim;.rw[apB f]at c;refine⟨by rw[<-k.length];exact apD f ik,λd m=>?_⟩;have i:=aD (l.rs.rb.sub.free m) (.tup g);exact c _ _ _ (l.new m _) (r.trans i) (by exact jJ d g rfl (SqT.of av) (k.keep i))
 .rw[apA f]at c;exact(c).elim
def ae7(h:PA X es (aen B z j xs)):PE X (.List es pos) (loY B z j (WL.aix xs)):=PE.imp (abi h) λn H Q⟨σ,F,R,q⟩=>by
 have q:=Xq.bind q;refine⟨σ,F,R,Xq.mono q λp c g r s l o k=>?_⟩;by_cases f:p.1.length<=WL.lim;.rw[apB f]at c;refine⟨by rw[<-k.length];exact apD f ik,λd m=>?_⟩;have i:=aD (l.rs.rb.sub.free m) (.lst g);exact c (.ref d) _ _ (l.new m _) (o.trans i) (by exact jJ d g rfl (SqL.of av) (k.keep i))
 .rw[apA f]at c;exact(c).elim
def alX{r x p id}(k:bV X (.type id) (loN B.K r))(D:X.mg x=none)(s:bootBuiltins x=some (.type id))(A:PA X (e::es) (aen B z j xs))(G:Gl X x:=by rfl)(m:x≠"__name__":=by decide)(f:Dbg x:=by decide)(y:SE X e es:=by rfl)(g:BT X pos es:=by rfl):PE X (.Call (.Name x p) (e::es) [] pos) (loY B z j (WL.xBi r xs)):=PE.imp (mW k G D s A m f y g) λi H Q⟨σ,F,R,q⟩=>by have q:=Xq.bind q;refine cE σ F R (Xq.mono q λp d J I l h n t=>⟨l,p.1,h.rs.rb.sub,t,?_⟩);cases e:r _ with|ok w=>rw[e]at d;exact λv u o E C=>d v o u (h.ext E) (n.trans E.same) C|ex c=>rw[e]at d;exact(d).elim|bad=>rw[e]at d;exact(d).elim
end
def spY(K:W.Frag)(n:Nat)(f:FS):Sp:=λi H Q _=>∃(F:Hp)(a:Addr)(h:List V)(st ws:List VW)(e:List V),i=.ref a::e/\aC F H/\F a=none/\h.length=3/\H a=some (.dK (rmK h))/\RWs K F st h/\RWs K F ws e/\ws.length=n/\Xq (f st ws) λp=>∀v g d c,aC F d->aC d g->(∀b o,b≠a->H b=some o->g b=some o)->(∀b o,d b=some o->F b=some o\/H b=none/\NF o)->d a=none->c.length=3->g a=some (.dK (rmK c))->RWs K d p.2 c->RW K d p.1 v->Q v g
section
variable{X:Cx}{B:Bx}{z:Addr}{i j n k m:Nat}{fn:FS}{xs:XA}{e:Expr}{es:List Expr}{x:Str}{p pos pos':Pos}{ps:List Str}{ds:List Value}
def ael(y:X.K=B.K){E}(u:∀σ p,xs σ=.ok p->p.1.length=n):∀a H Q,loY B z j (WL.aQ fn j xs) a H Q->yu (spY X.K n fn) [] E (ji (kx j) (aen B z j xs)) a H Q:=by intro a H Q⟨σ,F,R,q⟩;refine eg R.rm λI _ w _=>?_;unfold WL.aQ at q;rw[w]at q;refine⟨.ref z,R.zs,σ,F,R,?_⟩;cases b:xs σ with|ex c=>rw[b]at q;exact q|bad=>rw[b]at q;exact q|ok p=>rw[b]at q;intro J G K d N A;have q:Xq (match p.2[j]? with|some (.ow st)=>(match fn st p.1 with|.ok q=>.ok _|_=>.bad)|_=>.bad) _:=q;refine lD d.rm λst D S O Y Z=>?_;rw[S]at q;have q:Xq (match fn st p.1 with|.ok q=>.ok _|_=>.bad) _:=q;show spY X.K n fn _ G Q E;rw[aqf,y];refine⟨K,z,D,st,p.1,J,rfl,d.rs.rb.sub,d.nf,O,Y,Z,A,u σ p b,?_⟩;cases g:fn st p.1 with|ok r=>rw[g]at q;exact λv C M s o T t fr U f l h P=>q v C M (d.hand o T t fr U f l h) (N.trans o) P|ex c=>rw[g]at q;exact(q).elim|bad=>rw[g]at q;exact(q).elim
def clY(r:B.K=X.K)(h:Room m X.A)(C:Cal X.prog X.w X.K X.mg X.base CX0 k x ps ds (spY X.K n fn))(g:PE X e (kx j))(s:PA X es (aen B z j xs))(o:k<=m:=by decide)(l:∀σ p,xs σ=.ok p->p.1.length=n:=by repeat first|exact ain|apply agd)(t:Gl X x:=by rfl)(a:Dbg x:=by decide)(d:SE X e es:=by rfl)(c:BT X pos es:=by rfl):PE X (.Call (.Name x p) (e::es) [] pos) (loY B z j (WL.aQ fn j xs)):=by refine lP C λf v G u q b _=>?_;exact PE.imp (qq G (h.mono o) t u q b .nil abk (bM g s d) a d c) (ael r.symm l)
end
def Ow(B:Bx)(z:Addr)(j:Nat)(D:Ends)(F:Hp)(o:Out):Prop:=match o with|.nx σ'=>∀a c b,RR B z j σ' a b c->aC F b->D.nx a c|.bk σ'=>∀a c b,RR B z j σ' a b c->aC F b->D.bk a c|.ct σ'=>∀a c b,RR B z j σ' a b c->aC F b->D.ct a c|.rt w=>∃w1 st,w=.exc "" [w1,.lst st]/\∀v c b d,RB B b c->aC F b->RW B.K b w1 v->b z=none->d.length=3->c z=some (.dK (rmK d))->RWs B.K b st d->D.rt v c|.ex _ _=>False|.bad=>False
def Ow.mono{B z j D F F' o}(s:aC F F')(h:Ow B z j D F o):Ow B z j D F' o:=by cases o with|nx σ=>exact λa H G R w=>h _ H G R (s.trans w)|bk σ=>exact λa H G R w=>h _ H G R (s.trans w)|ct σ=>exact λa H G R w=>h _ H G R (s.trans w)|rt w=>refine eg h λw1 st e h=>?_;exact cE w1 st e λv H G b R w=>h v H G _ R (s.trans w)|ex c σ=>exact h|bad=>exact h
theorem Ow.ofR{B z j D F σ b r}{f:b->Out}(h:Ow B z j D F (WL.ofR σ r f)):Xq r λa=>Ow B z j D F (f a):=by cases r with|ok a=>exact h|ex c=>exact h|bad=>exact h
theorem Ow.ofX{B z j D F b r}{f:b->Out}(h:Ow B z j D F (WL.ofX r f)):Xq r λa=>Ow B z j D F (f a):=by cases r with|ok a=>exact h|ex c=>exact h|bad=>exact h
def loW(B:Bx)(z:Addr)(j:Nat)(t:SF):TS:=λD a H=>∃σ F,RR B z j σ a F H/\Ow B z j D F (t σ)
section
variable{X:Cx}{B:Bx}{z:Addr}{j:Nat}{e tg iter:Expr}{pos:Pos}{tt:TF}{xa xn xc:XF}{b:SF}{st:Stmt}{sts rest:List Stmt}{s1 s2:SF}{i:Nat}{x:Str}
def df:PSs X [] (loW B z j WL.sNx):=PSs.imp aba λD a H⟨σ,F,R,q⟩=>q _ H F R (aC.refl _)
def aw(f:PS X st (loW B z j s1))(g:PSs X rest (loW B z j s2)):PSs X (st::rest) (loW B z j (WL.aL s1 s2)):=PSs.imp (eK f g) λD d H⟨σ,F,R,q⟩=>by refine cE σ F R ?_;have q:Ow B z j D F (match s1 σ with|.nx _=>s2 _|o=>o):=q;cases e:s1 σ with|nx σ'=>rw[e]at q;exact λa l k h s=>⟨_,k,h,Ow.mono s q⟩|bk σ'=>rw[e]at q;exact q|ct σ'=>rw[e]at q;exact q|rt w=>rw[e]at q;exact q|ex c σ'=>rw[e]at q;exact q|bad=>rw[e]at q;exact q
def bt(a:PS X st (loW B z j s1)):PSs X [st] (loW B z j s1):=kY a
def yS(i){a}(f:X.N.Nodup)(k:PE X e (loY B z j xa))(d:i≠j:=by decide)(h:X.N[i]?=some x:=by rfl)(m:Loc X.env.scope x:=by first|exact Or.inl rfl|exact Or.inr rfl)(hs:swapsWith e (some (.Name x a)) pos.line X.env=pure false:=by rfl)(l:FL X x:=by first|exact .inl rfl|exact .inr rfl|assumption):PS X (.Assign [.Name x a] e pos) (loW B z j (WL.aW i xa)):=PS.imp (pk f h m k hs l) λD c H⟨σ,F,R,q⟩=>by have q:=Ow.ofX q;exact cE σ F R (Xq.mono q λp g v o t n s r=>g _ _ _ (n.set d r) s)
def ySO(i){l c}(h:X.N.Nodup)(p:PE X e (loL B l))(f:i≠j:=by decide)(m:X.N[i]?=some x:=by rfl)(v:Loc X.env.scope x:=by first|exact Or.inl rfl|exact Or.inr rfl)(hs:swapsWith e (some (.Name x c)) pos.line X.env=pure false:=by rfl)(s:FL X x:=by first|exact .inl rfl|exact .inr rfl|assumption):PS X (.Assign [.Name x c] e pos) (loW B z j (WL.yH j i l)):=PS.imp (pk h m v p hs s) λD d H⟨σ,F,R,q⟩=>by have q:=Ow.ofX q;refine cE _ F R.rs (Xq.mono q λws k a y A C w g t n u r o=>?_).rq;exact k _ _ _ ((R.grow g w).ak7 f t n u r o) g.f
def iW{c a d}(n:PT X c (lR (loY B z j xa)))(t:PSs X a (loW B z j s1))(o:PSs X d (loW B z j s2)):PS X (.If c a d pos) (loW B z j (WL.iY xa s1 s2)):=PS.imp (ajj n t o) λD m H⟨σ,F,R,q⟩=>by have q:=Ow.ofX q;refine cE σ F R (Xq.mono q λp g v u l h s r=>?_);obtain⟨w,f⟩:=p;cases w with
|bl k=>refine⟨k,r,?_⟩;cases k with|true=>exact⟨f,l,h,Ow.mono s g⟩|false=>exact⟨f,l,h,Ow.mono s g⟩
|_=>exact(g).elim
def fj(l:PE X e (loY B z j xa)):PS X (.Return (some e) pos) (loW B z j (WL.eJ j xa)):=PS.imp (afA l) λD d H⟨σ,F,R,q⟩=>by have q:=Ow.ofX q;refine cE σ F R (Xq.mono q λp a v t u c s r=>?_);refine lD c.rm λst o f g m n=>?_;unfold WL.rtS at a;rw[f]at a;refine eg a λw1 k e h=>?_;cases e;exact h v _ _ _ c.rs.rb s r c.nf g m n
def afa(h:PS X st (loW B z j s1))(d:i≠j:=by decide):PS X st (loW B z j (WL.zR i s1)):=PS.imp h λD a H⟨σ,F,R,q⟩=>by obtain⟨f,s,c⟩:=R.frz d;exact⟨_,f,c,Ow.mono s q⟩
def ais(h:PS X st (yt (tBM X.K "list" uM (kx i) (ji (loY B z j xa) aaE))))(f:i≠j:=by decide):PS X st (loW B z j (WL.agT i xa)):=PS.imp h λD m H⟨σ,F,R,q⟩=>by have q:Ow B z j D F (match σ[i]? with|some (.ow _)=>WL.ofX (xa σ) _|_=>.bad):=q;cases o:σ[i]? with|none=>rw[o]at q;exact(show False from q).elim|some sl=>rw[o]at q;cases sl with|no=>exact(show False from q).elim|va _=>exact(show False from q).elim|od _ _=>exact(show False from q).elim|ob=>exact(show False from q).elim|ow ws0=>refine lP (R.rs.ow i ws0 (R.own f o)) λa r n _ _ P _=>?_;have q:=Ow.ofX q;refine⟨.ref a,n,.inl ⟨rfl,r,SqL.of P⟩,σ,F,R,Xq.mono q λp c v U M d s1 I=>?_⟩;cases l:p.2[i]? with|none=>rw[l]at c;exact(show False from c).elim|some sl=>rw[l]at c;cases sl with|no=>exact(show False from c).elim|va _=>exact(show False from c).elim|od _ _=>exact(show False from c).elim|ob=>exact(show False from c).elim|ow ws=>
     refine lP (d.rs.ow i ws (d.own f l)) λY K u J O g y=>?_;rw[n]at u;cases u;have c:Ow B z j D F (if ws.length<WL.lim then .nx _ else .bad):=c;by_cases t:ws.length<WL.lim
     .rw[apB t]at c;refine ak1 a K v rfl rfl g (by rw[<-y.length];exact apE t ik) ?_;refine(show∀A Z T,_ from c) m _ M ?_ s1;refine lD d.rm λst s E N C S=>?_;have Q:z≠a:=λw=>by subst w;rw[C]at g;cases g
      refine⟨?_,d.zs,d.nf,d.n0,λk G s q=>d.apd k G s (xj (sl:=.ow (ws++[p.1])) f (λz=>z) q).2,st,s,by rw[apv f];exact E,N,by rw[ak Q];exact C,S⟩;rw[aqC _ _ f];exact d.rs.write (d.own f l) n J O g (y.app (.one I))
     .rw[apA t]at c;exact(show False from c).elim
noncomputable def rkS:Nat->Option Str|0=>some "left"|1=>some "at"|2=>some "cells"|_=>none
def agW{vs n f v}(g:vs.length=3)(d:rkS n=some f):putK (rmK vs) (.inr f) v=rmK (vs.set n v):=by match vs,g with|[a,b,c],_=>match n,d with|0,d=>cases d;rfl|1,d=>cases d;rfl|2,d=>cases d;rfl
def zY{o l a c n d}(I:X.A.units+64<cLine)(G:PE X o (kx j))(y:PE X a (loY B z j xa))(w:rkS n=some d)(s:PE X l (tC (.str d)):=by exact jY)(hs:swapsWith a (some (.Subscript o l pos)) c.line X.env=pure false:=by rfl):PS X (.Assign [.Subscript o l pos] a c) (loW B z j (WL.sy j n xa)):=PS.imp (abd (aqV (Nat.add_le_add_left (by decide) _) I) G s y hs) λD f H⟨σ,F,R,q⟩=>by have q:=Ow.ofX q;refine⟨σ,F,R,Xq.mono q λp m v J r g s1 A=>?_⟩;refine lD g.rm λst E t u C h=>?_;rw[t]at m;refine⟨_,g.zs,z,_,rfl,ail.k (k:=.inr d) C (aqV (agX E) (by decide)),?_⟩;rw[agW u w];exact m f _ r (g.put (by grind) (RWs.set A n h)) s1
def ab7{σ I E Q J xs D k}(h0:k≠j)(R1:RR B z j σ I E Q)(wk:Walk B.K J xs E)(q:Ow B z j D E (WL.forL (WL.aF k) b xs σ)):∃W:Nat->Nat->L2.St->Hp->Prop,(∃m,W 0 m I Q)/\∀i m σ H,W i m σ H->J.stop i H/\D.nx σ H\/(J.go i H/\∃N,(∀d l,N d l->∃R,R<m/\W (i+1) R d l)/\∀x l,J.yld i H x l->L2.aF k x σ l λa C=>loW B z j b {D with nx:=N,ct:=N,bk:=D.nx} a C):=by
 refine⟨λi m g l=>m=xs.length-i/\i<=xs.length/\∃d p,RR B z j d g p l/\aC E p/\Ow B z j D p (WL.forL (WL.aF k) b (xs.drop i) d),⟨xs.length,rfl,ap9 _,σ,E,R1,aC.refl _,by rw[asT];exact q⟩,?_⟩;rintro i m g l⟨rfl,a0,d,p,P,O,f⟩;by_cases t:i<xs.length;.have T:xs.drop i=xs[i]::xs.drop (i+1):=aqL t;rw[T]at f;obtain⟨go,Y⟩:=wk.go i xs[i] (apy t) p l O P.rs.rb.sub;refine .inr ⟨go,λa C=>∃s K,RR B z j s a K C/\aC E K/\Ow B z j D K (WL.forL (WL.aF k) b (xs.drop (i+1)) s),λa C h2=>⟨xs.length-(i+1),by omega,rfl,t,h2⟩,λv C U=>?_⟩;refine fO (Y v C U) λK u Z=>?_;have f:Ow B z j D p (match b (d.set k (.va xs[i]))with|.nx a=>WL.forL (WL.aF k) b (xs.drop (i+1)) a|.ct a=>WL.forL (WL.aF k) b (xs.drop (i+1)) a|.bk a=>.nx a|o=>o):=f;refine cE (d.set k (.va xs[i])) K ((P.ext u).set h0 Z) ?_;cases G:b (d.set k (.va xs[i]))with|nx a=>rw[G]at f;exact λn M y A r=>⟨a,y,A,(O.trans u.same).trans r,Ow.mono (u.same.trans r) f⟩|ct a=>rw[G]at f;exact λn M y A r=>⟨a,y,A,(O.trans u.same).trans r,Ow.mono (u.same.trans r) f⟩|bk a=>rw[G]at f;exact λn M y A r=>(show∀g l p,_ from f) n M y A (u.same.trans r)|rt w=>rw[G]at f;refine eg (show∃w1 st,w=.exc "" [w1,.lst st]/\_ from f) λw1 st ew h=>?_;exact cE w1 st ew λS M y us A r=>h S M y us A (u.same.trans r)|ex c a=>rw[G]at f;exact f|bad=>rw[G]at f;exact f
 .have ei:i=xs.length:=by omega
  subst ei;rw[ars]at f;exact .inl ⟨wk.stop p l O P.rs.rb.sub,(show∀g l p,_ from f) g l p P (aC.refl _)⟩
def zZ{a d p f k}(E:PassesOwn (model X.prog X.w) X.A X.env X.xe)(o:X.calm=true)(C:Gl X "range")(A:X.mg "range"=none)(t:PE X a (loY B z j xn))(u:PG X tg (L2.aF k))(I:PSs X d (loW B z j b))(s:k≠j:=by decide)(hs:starEach [a] X.env=[(false,eval a X.env)]:=by rfl)(l:starEach [a] X.env=(false,eval a X.env)::starEach [] X.env:=by rfl)(G:∀x,foldedSetIterable (.Call (.Name "range" p) [a] [] pos) X.env x=pure x:=by intro _;rfl):PS X (.For tg (.Call (.Name "range" p) [a] [] pos) d [] f) (loW B z j (WL.sA xn (WL.aF k) b)):=PS.imp (afB E o (jX C A (az t aS l) hs) u I G) λD m H⟨σ,F,R,q⟩=>by have q:=Ow.ofX q;refine cE σ F R ?_;show Xq ((xn σ).bind _) _;cases e:xn σ with|ex c=>rw[e]at q;exact q|bad=>rw[e]at q;exact q|ok r=>
 rw[e]at q
 obtain⟨w,h⟩:=r;intro K J M y s1 v;cases w with|int n=>
   have q:Ow B z j D F (if -2^62<=n/\n<2^62 then WL.forL (WL.aF k) b (WL.rng 0 n.toNat) h else .bad):=q;by_cases g:-2^62<=n/\n<2^62;.rw[apB g]at q;exact⟨n,abq v,g.1,g.2,ab7 s y lV (Ow.mono s1 q)⟩
   .rw[apA g]at q;exact(show False from q).elim|_=>exact(q).elim
def ac4{c k n}(K:PassesOwn (model X.prog X.w) X.A X.env X.xe)(P:PT X c (loT B tt))(Q:PSs X k (loW B z j b)):PS X (.While c k [] pos) (loW B z j (WL.pe n (WL.blk j tt) b)):=PS.imp (wW K P Q) λD I H⟨σ,F,R,q⟩=>by refine⟨λm f G=>∃d v,RR B z j d f v G/\Ow B z j D v (WL.i2 (WL.blk j tt) b m d),acZ (n σ) σ F R q,?_⟩;rintro m f G⟨d,v,A,u⟩;cases m with|zero=>exact(show False from u).elim|succ m=>have u:=Ow.ofR u;refine cE _ v A.rs (Xq.mono u λx a N E y r=>?_).rq;have y:=A.grow r y;cases x with|false=>dsimp only;rw[apA apW];exact a f N E y r.f|true=>dsimp only;rw[apB rfl];refine⟨_,λC T S=>⟨m,aqT m,S⟩,d,E,y,?_⟩;cases s:b d with|nx σ2=>rw[s]at a;exact λg t l p o=>⟨σ2,l,p,Ow.mono (r.f.trans o) a⟩|ct σ2=>rw[s]at a;exact λg t l p o=>⟨σ2,l,p,Ow.mono (r.f.trans o) a⟩|bk σ2=>rw[s]at a;exact λg t l p o=>a g t l p (r.f.trans o)|rt w=>rw[s]at a;refine eg a λw1 st O h=>?_;exact cE w1 st O λJ t l M p o=>h J t l M p (r.f.trans o)|ex c σ2=>rw[s]at a;exact a|bad=>rw[s]at a;exact a
def ah9(B:Bx)(z:Addr)(j:Nat)(t:XF):TT:=lR (loY B z j t)
def z6:x5 X [] (ah9 B z j WL.ac0):=λa s σ H Q I⟨_,F,R,q⟩=>w4 _ s σ H Q I (by obtain⟨k,e,h⟩:=q _ H F R (aC.refl _) (rfl);cases e;exact h)
def akN{σ l o H H1 J}{xs all:List VW}{Q}(R1:RR B z j σ o H H1)(wk:Walk B.K J xs H)(hx:xs.length<=WL.lim)(hc:WL.iz xc xa (.no::σ) xs=.ok (all,l))(fin:∀A k r,RR B z j (l.drop 1) o k r->aC H k->RWs B.K k all A->∀D,r D=none->Q (.ref D) (upd r D (.lst A))):uf J (L2.aF 0) (ah9 B z (j+1) xc) (loY B z (j+1) xa) (List.replicate 1 none++o) H1 Q:=by
 refine⟨λi m A d r=>m=xs.length-i/\i<=xs.length/\A.length<=i/\d.drop 1=o/\∃g k h rest,RR B z (j+1) g d k r/\aC H k/\RWs B.K k h A/\WL.iz xc xa g (xs.drop i)=.ok (rest,l)/\h++rest=all,⟨xs.length,rfl,ap9 _,ap9 _,rfl,.no::σ,H,[],all,R1.ahead,aC.refl _,by simp[RWs],by simpa using hc,rfl⟩,?_⟩;rintro i m A d r⟨rfl,hi,K,G,g,k,h,rest,M,I,R,a,n⟩;refine⟨aqV (apD K (apD hi hx)) (by decide),?_⟩;by_cases E:i<xs.length
 .have hd:xs.drop i=xs[i]::xs.drop (i+1):=aqL E;rw[hd]at a;obtain⟨go,yl⟩:=wk.go i xs[i] (apy E) k r I M.rs.rb.sub;refine .inr ⟨go,λC f S=>C.length<=i+1/\f.drop 1=o/\∃g k h rest,RR B z (j+1) g f k S/\aC H k/\RWs B.K k h C/\WL.iz xc xa g (xs.drop (i+1))=.ok (rest,l)/\h++rest=all,λC f S⟨a1,a2⟩=>⟨xs.length-(i+1),by omega,rfl,E,a1,a2⟩,λv H2 hy=>?_⟩;refine fO (yl v H2 hy) λF2 Z r2=>?_;have s:(d.set 0 (some v)).drop 1=o:=by cases d with|nil=>exact G|cons y t=>exact G
  rw[WL.lp]at a;show ah9 B z (j+1) xc (d.set 0 (some v)) H2 _;refine cE (g.set 0 (.va xs[i])) F2 ((M.ext Z).set (Nat.succ_ne_zero j).symm r2) ?_;cases U:xc (g.set 0 (.va xs[i]))with|bad=>rw[U]at a;cases a|ex c=>rw[U]at a;cases a|ok p=>rw[U]at a;obtain⟨w,f⟩:=p;intro u S T Y s3 r3;have P:aC k T:=Z.same.trans s3;cases w with
 |bl t=>simp only[RW]at r3;refine⟨t,r3,?_⟩;cases t with
  |true=>rw[apB rfl];have a:(xa f).bind _=.ok (rest,l):=a;refine cE f T Y ?_;cases O:xa f with|bad=>rw[O]at a;cases a|ex c=>rw[O]at a;cases a|ok p=>rw[O]at a;intro u5 H5 F5 R5 s5 r5;have a:((WL.iz xc xa p.2 (xs.drop (i+1))).bind λq=>Res.ok (p.1::q.1,q.2))=.ok (rest,l):=a;cases N:WL.iz xc xa p.2 (xs.drop (i+1))with|bad=>rw[N]at a;cases a|ex c=>rw[N]at a;cases a|ok q2=>rw[N]at a;obtain⟨zs,a0⟩:=q2;cases a;have s6:aC k F5:=P.trans s5;exact⟨by rw[aqc,arj];omega,s,p.2,F5,h++[p.1],zs,R5,I.trans s6,(R.keep s6).app (.one r5),N,by rw[<-n];simp⟩
   |false=>rw[apA apW];have a:WL.iz xc xa f (xs.drop (i+1))=.ok (rest,l):=a;exact⟨Nat.le_succ_of_le K,s,f,T,h,rest,Y,I.trans P,R.keep P,a,n⟩
 |_=>cases a
 .have ei:i=xs.length:=by omega
  subst ei;rw[ars]at a;have a:Res.ok (([]:List VW),g)=.ok (rest,l):=a;cases a;rw[aqf]at n;subst n;exact .inl ⟨wk.stop k r I M.rs.rb.sub,λD hD=>fin A k r (by rw[<-G];exact M.tail) I R D hD⟩
variable{scope:Scope}{ts:List Str}{elt:Expr}{ifs:List Expr}
def xE{Q:V->Hp->Prop}{d H}(h:loY B z j (WL.uq xn xc xa) d H Q):aaF 1 (jB (aen B z j (WL.ar xn WL.aJ))) (L2.aF 0) (ah9 B z (j+1) xc) (loY B z (j+1) xa) d H Q:=by refine eg h λσ F R q=>?_;have q:=Xq.bind q;refine cE σ F R ?_;show Xq ((xn σ).bind _) _;cases e:xn σ with|ex c=>rw[e]at q;exact q|bad=>rw[e]at q;exact q|ok r=>
  rw[e]at q;obtain⟨w,a⟩:=r
  intro E C G s s1 t;cases w with|int k=>
   have q:Xq (if -2^62<=k/\k<2^62/\k.toNat<=WL.lim then(WL.iz xc xa (.no::a) (WL.rng 0 k.toNat)).bind _ else .bad) _:=q;by_cases f:-2^62<=k/\k<2^62/\k.toNat<=WL.lim;.rw[apB f]at q;refine⟨k,abq t,f.1,f.2.1,?_⟩;cases g:WL.iz xc xa (.no::a) (WL.rng 0 k.toNat)with|ex c=>rw[g]at q;exact(show False from q).elim|bad=>rw[g]at q;exact(show False from q).elim|ok q2=>rw[g]at q;obtain⟨all,p⟩:=q2;exact akN s lV (by simp only[WL.rng,apR,arh];exact f.2.2) g λl A y o u r D n=>by have m:=aD (o.rs.rb.sub.free n) (.lst l);exact(show∀v y A,_ from q) (.ref D) _ _ (o.new n _) ((s1.trans u).trans m) (by simp only[RW];exact jJ D l rfl (SqL.of av) (r.keep m))
   .rw[apA f]at q;exact(show False from q).elim|_=>exact(show False from q).elim
def zW{a p f}(L:CompLook X scope)(m:X.calm=true)(q:ts.length=1)(t:Gl X "range")(s:X.mg "range"=none)(o:PE X a (loY B z j xn))(n:∀C c d g,PG (X.comp scope C ts c d g) tg (L2.aF 0))(u:∀C c d g,x5 (X.comp scope C ts c d g) ifs (ah9 B z (j+1) xc))(r:∀C c d g,PE (X.comp scope C ts c d g) elt (loY B z (j+1) xa))(hs:starEach [a] X.env=[(false,eval a X.env)]:=by rfl)(k:starEach [a] X.env=(false,eval a X.env)::starEach [] X.env:=by rfl)(v:∀x,foldedSetIterable (.Call (.Name "range" p) [a] [] f) X.env x=pure x:=by intro _;rfl):PE X (.ListComp elt [⟨tg,.Call (.Name "range" p) [a] [] f,ifs,0⟩] scope pos) (loY B z j (WL.uq xn xc xa)):=by refine PE.imp (w5 L m (jX t s (az o aS k) hs) n u r v) λl H Q h=>?_;rw[q];exact xE h
end
section
variable{P:Program}{w:World}{K:W.Frag}{mg:Str->Option Value}{base:Heap}
theorem RR.start{N F H a us st ws vs}(s:aC F H)(E:F a=none)(O:us.length=3)(J:H a=some (.dK (rmK us)))(G:RWs K F st us)(r:RWs K F ws vs)(Q:ws.length+1<=N.length):RR ⟨K,om H a,F,λ_ _ _=>False,λ_ _ _ _ _ h=>h⟩ a 0 (.ow st::(ws.map .va++List.replicate (N.length-1-ws.length) .no)) (L2.start N (.ref a::vs)) F H:=by
 have B:=r.length;have c:∀{i:Nat}{sl:Sl},(Sl.no::(ws.map Sl.va++List.replicate (N.length-1-ws.length) Sl.no))[i]?=some sl->sl≠.no->∃k u,i=k+1/\ws[k]?=some u/\sl=.va u:=λ{i sl}e t=>by cases i with|zero=>exact absurd (apV e).symm t|succ i=>
   rw[ara]at e;refine⟨i,?_⟩;by_cases m:i<ws.length;.rw[aqp (by simpa using m),apX]at e;rw[apy m]at e⊢;exact⟨_,rfl,rfl,(apV e).symm⟩
   .rw[aql (by simp;omega)]at e;simp only[apR,aqQ]at e;split at e;.exact absurd (apV e).symm t
    .cases e
 have no:∀{i:Nat}{sl:Sl},IsO sl->(Sl.no::(ws.map Sl.va++List.replicate (N.length-1-ws.length) Sl.no))[i]?=some sl->False:=λ{i sl}y e=>by refine hJ (c e (by intro z;subst z;exact y)) λk u _ _ h=>?_;subst h;exact y
 refine⟨?_,by unfold L2.start;rfl,E,fY H a,λk d us q=>(no (sl:=.od d us) trivial q).elim,st,us,rfl,O,J,G⟩;show RS _ (Sl.no::(ws.map Sl.va++List.replicate (N.length-1-ws.length) Sl.no)) _ F H;refine⟨⟨s,λb o e=>?_,aC.refl _,λb o h=>.inl h⟩,by simp[L2.start,B];omega,λi u e=>?_,λi I e=>?_,λi j I M b g l R _ _=>?_,⟨λi d us e=>(no (sl:=.od d us) trivial e).elim,λi j d us D A b g l _ _ _=>no (sl:=.od d us) trivial l,λi e=>(no (sl:=.ob) trivial e).elim⟩⟩
 .have e:om H a b=some o:=e;by_cases p:b=a;.subst p;rw[fY]at e;cases e
  .rwa[e9 p]at e
 .refine hJ (c e (by intro z;cases z)) λk x f ex h=>?_;subst f;cases h;obtain⟨v,n,C⟩:=r.get ex;refine⟨v,?_,C⟩;have m:k<vs.length:=(apC.mp n).1;unfold L2.start;rw[aqp (by simp;omega),apX,ara,n];rfl
 .refine hJ (c e (by intro z;cases z)) λk x _ _ h=>?_;cases h
 .refine hJ (c l (by intro z;cases z)) λk x _ _ h=>?_;cases h
set_option tactic.hygienic true
def iy{x g st f O N ps k m n R}(t)(Fn:Fun K x g st f O)(S:FnScope N ps (ah st))(hn:N.length=n)(hm:ps.length=m+1)(G:WL.ac1 n t=R)(a0:ps.length<=N.length)(h:∀j A i s H E B z,B.K=K->Room k (A.deeper (envOfC g (ah st) s.heap.objs.size f j))->PassesOwn (model P w) (A.deeper (envOfC g (ah st) s.heap.objs.size f j)) (envOfC g (ah st) s.heap.objs.size f j) (λ_ _=>False)->PSs (ky CX0 P w K mg base N g (ah st) f j A i s H E).nox (bN st) (loW B z 0 t)):FnOk P w K mg base CX0 (k+1) f O ps (spY K m R):=by subst hn G;refine Fn.ok S λvs H Q E⟨F,a,us,u,ws,M,e,_,_,_,_,_,r,X,_⟩=>by subst e;rw[hm,apK,<-r.length,X] λj A i s H vs Q E hr⟨F,a,us,u,ws,M,e,sm,hF,hu,hH,rs,r,X,d⟩=>?_;subst e;refine⟨_,h j A i s H E _ a rfl hr PassesOwn.never,_,F,RR.start sm hF hu hH rs r (by omega),?_⟩;have d:Xq (WL.ahE _) _:=d;cases e:t (.ow u::(ws.map .va++List.replicate (N.length-1-ws.length) .no))with
|rt w1=>
  rw[e]at d;unfold WL.ahE at d;split at d
  .rename_i nm w2 I ew;cases ew;by_cases p:nm=""
   .subst p;rw[apB rfl]at d;refine cE w2 I rfl λv Y T l D s' rv q C J ru=>(show∀v Y T l,_ from d) v Y T l s' D.sub (λb o ne z=>D.base b o (show om H a b=some o by rw[e9 ne];exact z)) (λb o z=>?_) q C J ru rv;rcases D.fr b o z with y|y;.exact .inl y
    .refine .inr ⟨?_,y.2⟩;by_cases U:b=a;.subst U;rw[q]at z;cases z
     .have Z:om H a b=none:=y.1;rwa[e9 U]at Z
   .rw[apA p]at d;exact(show False from d).elim
  .exact(show False from d).elim|nx σ'=>rw[e]at d;exact(show False from d).elim|bk σ'=>rw[e]at d;exact(show False from d).elim|ct σ'=>rw[e]at d;exact(show False from d).elim|ex c σ'=>rw[e]at d;exact(show False from d).elim|bad=>rw[e]at d;exact(show False from d).elim
set_option tactic.hygienic false
end
set_option tactic.hygienic true
def Ow.amW{B z j D F o}(h:Oq B D F (WL.akG o)):Ow B z j D F o:=by cases o with|nx σ=>exact(h).elim|bk σ=>exact(h).elim|ct σ=>exact(h).elim|ex c σ=>exact(h).elim|bad=>exact(h).elim|rt w=>
  unfold WL.akG at h;split at h
  .rename_i b w1 st e;cases e;unfold WL.rtE at h;by_cases a:b="";.subst a;exact cE w1 st rfl λv f g i d s r _ _ _ _=>h v _ _ d s r
   .rw[apA a]at h;exact(h).elim
  .exact(h).elim
set_option tactic.hygienic false
theorem qM{K F F'}:∀{ws:List VW}{vs},WL.gG ws=true->RWs K F ws vs->RWs K F' ws vs|[],_,_,h=>by assumption|.int i::ws,_,hi,h=>by obtain⟨v,r,e,q,t⟩:=h;exact⟨v,r,e,by simpa only[RW]using q,qM (by assumption) t⟩|.non::_,_,hi,_=>by simp[WL.gG]at hi|.bl _::_,_,hi,_=>by simp[WL.gG]at hi|.str _::_,_,hi,_=>by simp[WL.gG]at hi|.ty _::_,_,hi,_=>by simp[WL.gG]at hi|.tup _::_,_,hi,_=>by simp[WL.gG]at hi|.lst _::_,_,hi,_=>by simp[WL.gG]at hi|.dic _ _::_,_,hi,_=>by simp[WL.gG]at hi|.cls _::_,_,hi,_=>by simp[WL.gG]at hi|.exc _ _::_,_,hi,_=>by simp[WL.gG]at hi|.ins _ _::_,_,hi,_=>by simp[WL.gG]at hi
def ahZ{ws:List VW}(h:WL.agb ws=true):∃a,ws=[.lst a]/\WL.gG a=true:=by
 unfold WL.agb at h;split at h;.exact⟨_,rfl,h⟩
 .cases h
set_option tactic.hygienic true
def ahK{r:Res VW}{st:List VW}(h:WL.af7 r=some st):∃l k d,r=.ok (.dic WL.rks [.int l,.int k,.lst d])/\st=[.int l,.int k,.lst d]/\WL.gG d=true:=by
 unfold WL.af7 at h;split at h
 .rename_i a b c l k d;by_cases e:a="left"/\b="at"/\c="cells"/\WL.gG d=true;.rw[apB e]at h;obtain⟨rfl,rfl,rfl,f⟩:=e;cases h;exact agm l k d rfl rfl f
  .rw[apA e]at h;cases h
 .cases h
set_option tactic.hygienic false
def abR{k x}(h:kV k=.str x):k=.inr x:=by cases k with|inl i=>cases i<;>cases h|inr y=>cases h;rfl
def adI{K F l k}{b:List VW}{kvs}(c:RWs K F WL.rks (kvs.map λp=>kV p.1))(a:RWs K F [.int l,.int k,.lst b] (kvs.map λp=>p.2)):∃d,kvs=rmK [.int l,.int k,d]/\RW K F (.lst b) d:=by
 have i:kvs.length=3:=by have:=a.length;simpa using this.symm
 match kvs,i with|[(k1,v1),(k2,v2),(k3,v3)],_=>simp only[WL.rks,RWs,RW,apU,List.map_nil,asP]at c;obtain⟨_,_,⟨rfl,rfl⟩,m,_,_,⟨rfl,rfl⟩,n,_,_,⟨rfl,rfl⟩,g,_⟩:=c;cases abR m;cases abR n;cases abR g;refine hJ a λ_ _ e j a=>?_;cases e;unfold RWs at a;refine hJ a λ_ _ e h a=>?_;cases e;refine hJ a λ_ _ e f _=>?_;cases e;subst j h;exact⟨v3,rfl,f⟩
section
variable{X:Cx}{B:Bx}{m k:Nat}{ps:List Str}{ds:List Value}{fn:List VW->Res VW}{x y:Str}{p pos pos' apos:Pos}{e:Expr}{es:List Expr}{tas:AF}{j:Nat}{rest:List Stmt}{s:SF}
def agh(hB:B.K=X.K)(hr:Room m X.A)(C:Cal X.prog X.w X.K X.mg X.base CX0 k x ps ds (spW X.K 1 fn))(hN:X.N.Nodup)(hi:X.N[j]?=some y)(hy:Loc X.env.scope y)(ha:PA X (e::es) (loA B tas))(hrest:∀z,PSs X rest (loW B z j s))(hk:k<=m:=by decide)(hg:Gl X x:=by rfl)(a1:Dbg x:=by decide)(he:SE X e es:=by rfl)(a5:BT X pos es:=by rfl)(hs:swapsWith (.Call (.Name x p) (e::es) [] pos) (some (.Name y pos')) apos.line X.env=pure false:=by rfl)(hf:X.fn y=true\/X.env.scope.names.lookup y=some .local:=by first|exact .inl rfl|exact .inr rfl|assumption):PSs X (.Assign [.Name y pos'] (.Call (.Name x p) (e::es) [] pos) apos::rest) (loS B (WL.agR j fn tas s)):=by
 refine lP C λf fd G hm hq b _=>?_;have E:PSs X rest λD A H=>∃z,loW B z j s D A H:=λY s σ H D I⟨z,q⟩=>hrest z Y s σ H D I q;intro M s0 A H D I⟨σ,F,R,q⟩;refine eK (pk hN hi hy (qq G (hr.mono hk) hg hm hq b .nil abk ha a1 he a5) hs hf) E M s0 A H D I ?_;have Q:j<A.length:=by rw[I.len];exact(apC.mp hi).1
 have q:Oq B D F (WL.ofX (tas σ) λws=>if WL.agb ws=true then WL.adJ j s σ (WL.af7 (fn ws))else .bad):=q;refine cE σ F R ?_;cases ea:tas σ with|bad=>rw[ea]at q;exact(show False from q).elim|ex c=>rw[ea]at q;exact(show False from q).elim|ok ws=>
 rw[ea]at q;intro vs H1 i t g1 r1;rw[aqf,<-hB];have q:Oq B D F (if WL.agb ws=true then WL.adJ j s σ (WL.af7 (fn ws))else .bad):=q;by_cases K:WL.agb ws=true
 .rw[apB K]at q;refine fO (ahZ K) λxs n hx=>?_;subst n;obtain⟨a,u,rfl,sq,ru⟩:∃a u,vs=[V.ref a]/\SqL B.K i a u/\RWs B.K i xs u:=by simp only[RWs,RW]at r1;obtain⟨v,r,rfl,⟨a,u,rfl,h1,h2⟩,rfl⟩:=r1;exact⟨a,u,rfl,h1,h2⟩
  obtain⟨O,sa,a3,nd,a0⟩:∃O:Hp,aC O i/\SqL B.K O a u/\(∀b g,O b≠some (.dK g))/\∀b o g,O b≠some (.frz o (.dK g)):=by
   rcases sq with(h|⟨o,h⟩)|h;.exact⟨one a (.lst u),one_le h,.inl (.inl xg),(λb g z=>by obtain⟨_,e⟩:=sP z;cases e),λb o g z=>by obtain⟨_,e⟩:=sP z;cases e⟩
   .exact⟨one a (.frz o (.lst u)),one_le h,.inl (.inr ⟨o,xg⟩),(λb g z=>by obtain⟨_,e⟩:=sP z;cases e),λb o g z=>by obtain⟨_,e⟩:=sP z;cases e⟩
   .exact⟨λ_=>none,(λb o z=>nomatch z),.inr h,(λb g z=>nomatch z),λb o g z=>nomatch z⟩
  refine zN O [.lst xs] (sa.trans t.rb.sub) (.one (by simp only[RW];exact⟨a,u,rfl,a3,qM hx ru⟩)) rfl ?_;cases ed:WL.af7 (fn [.lst xs])with|none=>rw[ed]at q;exact(show False from q).elim|some st=>
  rw[ed]at q;refine x8 (ahK ed) λl kk cs ef n a7=>?_;subst n;rw[ef];intro v H2 Fr t1 t2 t3 fr r2;unfold RW at r2;obtain⟨d,g,rfl,N,rk,rv⟩:=r2;refine fO (adI rk rv) λvc n hc=>?_;subst n;have N:Fr d=some (.dK (rmK [.int l,.int kk,vc])):=by
   rcases N with h|⟨o,h⟩;.exact h
   .rcases fr d _ h with z|z;.exact(a0 d _ _ z).elim
    .exact z.2.elim
  have hd1:H1 d=none:=by
   rcases fr d _ N with z|z;.exact(nd d _ z).elim
   .exact z.1
  have U:i d=none:=t.rb.sub.free hd1;have T:aC i H2:=t.rb.sub.trans t3;have P:aC (om (uni i Fr) d) (uni i Fr):=λb o z=>by
   have Z:b≠d:=λw=>by subst w;rw[fY]at z;cases z
   rwa[e9 Z]at z
  have u1:aC i (om (uni i Fr) d):=λb o z=>by
   have Z:b≠d:=λw=>by subst w;rw[U]at z;cases z
   rw[e9 Z];exact al6 b o z
  have u2:∀b o,b≠d->Fr b=some o->om (uni i Fr) d b=some o:=λb o Z z=>by rw[e9 Z];exact al5 T t2 b o z
  have S:∀b o,om (uni i Fr) d b=some o->i b=some o\/H1 b=none/\NF o:=λb o z=>by
   rcases afj (P b o z)with y|⟨_,y⟩;.exact .inl y
   .rcases fr b o y with y|y;.exact .inl (sa b o y)
    .exact .inr y
  have g2:Gr i H1 (om (uni i Fr) d) H2:=⟨u1,t3,λb o eh a4=>by cases e2:om (uni i Fr) d b with|none=>rfl|some o2=>
    rcases S b o2 e2 with z|z;.rw[a4]at z;cases z
    .rw[eh]at z;cases z.1⟩;have rb:RB B (om (uni i Fr) d) H2:=⟨P.trans (aiK T t2),t.rb.base.trans t3,t.rb.fz0.trans u1,λb o z=>by
   rcases S b o z with y|y;.exact t.rb.fr b o y
   .exact .inr ⟨t.rb.base.free y.1,y.2⟩⟩;have R2:=t.grow g2 rb;have J:j<σ.length:=by rw[t.len];exact Q
  have rc:RW B.K (om (uni i Fr) d) (.lst cs) vc:=by
   unfold RW at hc⊢;refine hJ hc λc ys n sc a8=>?_;subst n;refine⟨c,ys,rfl,?_,qM a7 a8⟩;rcases sc with(h|⟨o,h⟩)|h;.exact .inl (.inl (u2 c _ (λw=>by subst w;rw[N]at h;cases h) h))
   .exact .inl (.inr ⟨o,u2 c _ (λw=>by subst w;rw[N]at h;cases h) h⟩)
   .exact .inr h
  refine⟨d,σ.set j (.ow [.int l,.int kk,.lst cs]),om (uni i Fr) d,⟨by rw[arG];exact R2.drop j (some (.ref d)),apz Q,fY _ _,t.rb.base.free hd1,λk ks u z e=>?_,_,[.int l,.int kk,vc],apz J,rfl,t2 d _ N,.cons (by simp[RW]) (.cons (by simp[RW]) (.one rc))⟩,Ow.amW (Oq.mono (g1.f.trans u1) q)⟩;rw[arG]at z;have a6:j≠k:=λw=>by subst w;rw[apz J]at z;cases z
  rw[apv a6]at z e;refine lP (t.dd.od k ks u z) λa2 a9 h1 _ _ h4 _=>?_;rw[h1]at e;cases e;rw[hd1]at h4;cases h4
 .rw[apA K]at q;exact(show False from q).elim
end
end WS
namespace L2
open PySem PySem.Spec PyProof.Rows PySem.Builtin
end L2
namespace WS
open PySem PySem.Spec PyProof.Rows L2
open WL(Res Sl Ws EF TF AF LF GF GsF SF Out XF XA FS Fs KO KF OX RF Sr)
section
variable{X:Cx}{B:Bx}{z:Addr}{j:Nat}{tg:Expr}{pos:Pos}{xa xn xc:XF}{scope:Scope}{ts:List Str}{elt:Expr}{ifs:List Expr}
def agg{i a y p l d e}(K:X.N.Nodup)(k:X.N[i]?=some y)(s:X.env.scope.names.lookup y=some .local)(g:swapsWith (.ListComp elt [⟨tg,.Call (.Name "range" p) [a] [] d,ifs,0⟩] scope pos) (some (.Name y l)) e.line X.env=pure true)(L:CompLook X scope)(I:X.calm=true)(N:ts.length=1)(P:Gl X "range")(O:X.mg "range"=none)(o:PE X a (loY B z j xn))(n:∀C c b f,PG (X.comp scope C ts c b f) tg (L2.aF 0))(Q:∀C c b f,x5 (X.comp scope C ts c b f) ifs (ah9 B z (j+1) xc))(t:∀C c b f,PE (X.comp scope C ts c b f) elt (loY B z (j+1) xa))(J:i≠j:=by decide)(hs:starEach [a] X.env=[(false,eval a X.env)]:=by rfl)(h:starEach [a] X.env=(false,eval a X.env)::starEach [] X.env:=by rfl)(E:∀x,foldedSetIterable (.Call (.Name "range" p) [a] [] d) X.env x=pure x:=by intro _;rfl):PS X (.Assign [.Name y l] (.ListComp elt [⟨tg,.Call (.Name "range" p) [a] [] d,ifs,0⟩] scope pos) e) (loW B z j (WL.sx i xn xc xa)):=by refine PS.imp (ie K k s g L I (jX P O (az o aS h) hs) n Q t E) λD m H⟨σ,F,R,q⟩=>?_;have q:=Ow.ofX q;rw[N];exact xE (cE σ F R (Xq.mono q λr G v S w A u M=>G _ _ w (A.set J M) u))
end
end WS
namespace WS
open PySem PySem.Spec PyProof.Rows L2 PySem.Builtin PySem.Builtin.Str
open WL(Res Sl Ws EF TF AF LF GF GsF SF Out XF XA FS Fs KO KF OX RF Sr)
end WS
namespace L2
open PySem PySem.Spec PyProof.Rows
noncomputable def alR(lo:Int)(n:Nat):It:=⟨λi _=>i<n,λi H x a=>a=H/\x=.int (lo+(i:Nat)*2),λi _=>n<=i⟩
def ux{P:Program}{w:World}{K:W.Frag}{tg:Expr}(it:Addr)(lo:Int)(n:Nat):Turn P w K tg (alR lo n) [it] it λi h=>IsRangeIter h it (lo+(i:Nat)*2) ((n:Int)-(i:Nat)) 2 where
 mem:=by simp
 obj:=λi h st b hb=>by
  have e:b=it:=by simpa using hb
  subst e;exact⟨_,st,λv z=>by have z':Data.fields _=Data.cell v:=z;cases z'⟩
 keep:=λi h h' st k=>k it (by simp) _ st;item:=by intro X hP hw hK i pins s σ H E hc I hf st hg;subst hP hw hK;obtain⟨f0,f1,f2,f3,f4,f5⟩:=hf it (by simp);have W:=Walks.range (prog:=X.prog) (w:=X.w) (I.ok.hd hc) it lo 2 n;refine W.item i s _ _ hg st λv h' tk hv st' kk=>?_;obtain⟨t,rfl⟩:=hv;have I1:Inv X pins σ H {s with heap:=h',toks:=tk}:=I.turned (λb o hb e=>kk b o (by simpa using hb) e) f0 f1 f3 f4 f5;exact⟨_,rfl,aeB (s:={s with heap:=h',toks:=tk}) (n:="range_iterator") st' rfl rfl (by decide) ⟨.int (lo+i*2),H,I1,⟨t,rfl⟩,⟨rfl,rfl⟩,st',λb hb=>(hf b hb).1⟩⟩
 done:=by intro X hP hw hK i pins s σ H E hc I hf st hg;subst hP hw hK;obtain⟨f0,f1,f2,f3,f4,f5⟩:=hf it (by simp);exact wpAny_pyNext_range_end (I.ok.hd hc) st (by have:n<=i:=hg;omega) λh' eb=>⟨rfl,I.turned (t':=s.toks) (λb o hb e=>eb b o hb e) f0 f1 f3 f4 f5⟩
 self:=λ_ _ _ _ _ st h=>wpAny_pyIter_rangeiter st h
def jV(a b):Builtin.Range.rangeSize a b 2=((b-a+1)/2).toNat:=by unfold Builtin.Range.rangeSize;split<;>omega
def aaK{a b}(e:-2^60<=a)(c:a<2^60)(f:-2^60<=b)(d:b<2^60):Builtin.Range.small a b 2=true:=by unfold Builtin.Range.small;rw[jV];simp only[Builtin.Range.rangeFitsLong,apT,ar6,ap3,show(2:Int)>0 by decide,arc];omega
section
variable{X:Cx}{tg:Expr}
def aa0{pins}{σ:St}{H s R E lo a t u v tk}(I:Inv X pins σ H s)(d:-2^60<=lo)(i:lo<2^60)(g:-2^60<=a)(f:a<2^60)(q:R (alR lo ((a-lo+1)/2).toNat) H):wpAny (model X.prog X.w) X.A (pyIter (.ref s.heap.objs.size)) (PIE X pins σ tg R) E {s with heap:=s.heap.push {cls:=.type "range",data:=.fields #[.int lo t,.int a u,.int 2 v]},toks:=tk}:=by
 refine wpAny_pyIter_range (IsRange.new ..) (aaK d i g f) ?_;have c:Inv X pins σ H {s with heap:=s.heap.push {cls:=.type "range",data:=.fields #[.int lo t,.int a u,.int 2 v]},toks:=tk}:=I.kept λb o e=>apw _ e;refine⟨_,_,_,_,H,rfl,c.kept (t':=tk) λb o e=>apw _ e,ux _ lo ((a-lo+1)/2).toNat,?_,λb k=>?_,q⟩
 .have h:lo+((0:Nat):Int)*2=lo:=by simp
  have j:((((a-lo+1)/2).toNat:Nat):Int)-((0:Nat):Int)=Builtin.Range.rangeSize lo a 2:=by rw[jV];simp
  rw[h,j];exact apL _ rfl
 .have e:b=(s.heap.push {cls:=.type "range",data:=.fields #[.int lo t,.int a u,.int 2 v]}).objs.size:=by simpa using k
  subst e;exact c.akv (apG _) (c.hok.fresh (apG _))
def ab0(ta:TA):TI:=λσ H R=>ta σ H λb a=>∃i j:Int,b=[.int i,.int j,.int 2]/\(-2^60<=i/\i<2^60/\-2^60<=j/\j<2^60)/\R (alR i ((j-i+1)/2).toNat) a
def abf{a b c ta p pos}(y:Gl X "range")(x:X.mg "range"=none)(w:PA X [a,b,c] ta)(hs:starEach [a,b,c] X.env=[(false,eval a X.env),(false,eval b X.env),(false,eval c X.env)]:=by rfl)(d:starEach [b,c] X.env=[(false,eval b X.env),(false,eval c X.env)]:=by rfl):PI X tg (.Call (.Name "range" p) [a,b,c] [] pos) (ab0 ta):=by intro k s σ H R I h;refine Call_ (j9 I y x asU (aqk (thn (w _ _ s σ H _ I h) λD C g=>?_) (by grind) (by rw[d];rfl)));obtain⟨B,z,o,v,f⟩:=g;obtain⟨i,j,e,⟨f,n,l,m⟩,q⟩:=f;subst e;cases v with|cons r rr=>cases rr with|cons r' rr=>cases rr with|cons r'' rr=>cases rr;obtain⟨t,rfl⟩:=r;obtain⟨A,rfl⟩:=r';obtain⟨u,rfl⟩:=r'';exact call_range_3 (by decide) (aa0 o f n l m q) (Or.inl (PyProof.noPylong_small (by omega)))
end
end L2
namespace WS
open PySem PySem.Spec PyProof.Rows L2 PySem.Builtin PySem.Builtin.Str
open WL(Res Sl Ws EF TF AF LF GF GsF SF Out XF XA FS Fs KO KF OX RF Sr)
section
variable{X:Cx}{B:Bx}{K:W.Frag}{tg:Expr}{ta tb:EF}
def aal{lo n F}:Walk K (alR lo n) (WL.adK lo 2 n) F:=by
 refine⟨λi x e b d h g=>?_,λb d h g=>by show n<=(WL.adK _ 2 n).length;simp[WL.adK]⟩;have c:=by have:=(apC.mp e).1;simpa[WL.adK]using this
 simp [WL.adK,aqR c]at e;cases e;refine⟨c,λu k a=>?_⟩;obtain⟨f,j⟩:=a;subst f j;exact⟨b,Ext.refl _ _,rfl⟩
def ago{a c b p pos d}(G:Gl X "range")(E:X.mg "range"=none)(h:PE X a (lo B ta))(h':PE X c (lo B tb))(hs:starEach [a,c,.Constant (.int 2) b d] X.env=[(false,eval a X.env),(false,eval c X.env),(false,eval (.Constant (.int 2) b d) X.env)]:=by rfl)(l:starEach [c,.Constant (.int 2) b d] X.env=[(false,eval c X.env),(false,eval (.Constant (.int 2) b d) X.env)]:=by rfl)(r:starEach [a,c,.Constant (.int 2) b d] X.env=(false,eval a X.env)::starEach [c,.Constant (.int 2) b d] X.env:=by rfl)(I:starEach [c,.Constant (.int 2) b d] X.env=(false,eval c X.env)::starEach [.Constant (.int 2) b d] X.env:=by rfl)(t:starEach [.Constant (.int 2) b d] X.env=(false,eval (.Constant (.int 2) b d) X.env)::starEach [] X.env:=by rfl):PI X tg (.Call (.Name "range" p) [a,c,.Constant (.int 2) b d] [] pos) (loI B (WL.ab0 ta tb)):=PI.imp (abf G E (bM h (bM h' (bM afH eF t) I) r) hs l) λo H R j=>by refine eg j λσ F n q=>?_;have q:=Rq.bind q;refine cE σ F n (Rq.mono (aC.refl _) q λx f v N A D m s=>?_);have f:=Rq.bind f;refine cE σ A D (Rq.mono m.f f λy e P w C R2 u z=>?_);cases x with
|int i=>cases y with|int k=>
   have e:Rq B σ F (if -2^60<=i/\i<2^60/\-2^60<=k/\k<2^60 then Res.ok _ else .bad) _:=e;subst s z;by_cases g:-2^60<=i/\i<2^60/\-2^60<=k/\k<2^60;.rw[apB g]at e;exact jJ i k rfl g ((show∀J O M,_ from e) _ w C R2 (m.trans u) aal)
   .rw[apA g]at e;exact(show False from e).elim|_=>exact(show False from e).elim
|_=>exact(show False from e).elim
end
section
variable{X:Cx}{B:Bx}
def int_text{i:Int}(h:i.natAbs<1000):(Str.ofString (toString i)).length<=10/\i.natAbs.log2<1920:=by
 have a:((List.range 1000).all λn=>Nat.ble (Str.ofString (toString (Int.ofNat n))).length 10&&Nat.ble (Str.ofString (toString (Int.neg (Int.ofNat n)))).length 10)=true:=by decide+kernel
 have k:=aqn.mp a i.natAbs (apP.mpr h);rw[apT,Nat.ble_eq,Nat.ble_eq]at k;refine⟨?_,?_⟩
 .rcases Int.natAbs_eq i with e|e;.rw[e];exact k.1
  .rw[e];exact k.2
 .by_cases z:i.natAbs=0;.rw[z];decide
  .rw[Nat.log2_lt z];exact apE h (by decide)
def ae5{pins:List (Addr×Obj)}{σ:L2.St}{H:Hp}{s:Shared}(I:Inv X pins σ H s){h':Heap}(k:∀b o,s.heap.get? b=some o->h'.get? b=some o):Inv X pins σ H {s with heap:=h'}:=I.ald (ch:=[]) (λb a=>absurd a aqa) (λb o q _ _=>k b o q) λb o q _ _=>⟨o.slots,k b o q⟩
def ao7(K:W.Frag)(U:Nat)(ta:TE):TE:=λσ H Q=>ta σ H λx e=>(∃y:Str,x=.str y/\(∀c∈y.cps.toList,c<16^8)/\y.length<=5000/\∀z:Str,z.length<=10*y.length+2->Q (.str z) e)\/(∃n d a,x=.ref a/\IsD K e n x d/\d.showable=true/\d.hasDict=false/\U+n<cLine/\d.shown.length<=80000/\Q (.str d.shown) e)\/∃z:Str,((∃i:Int,x=.int i/\i.natAbs.log2<1920/\z=toString i)\/x=.non/\z="None"\/∃b:Bool,x=.bl b/\z=if b then("True":Str)else"False")/\z.length<=1000/\Q (.str z) e
def ajs{e:Expr}{pos:Pos}{ta:TE}(G:X.A.guards=some [])(D:PE X e ta):PE X (.FormattedValue e 114 none pos) (ao7 X.K X.A.units ta):=by
 intro k s σ H Q I h;refine wpAny_FormattedValue_repr (thn (D k s σ H _ I h) λu O p=>?_);obtain⟨x,l,g,m,q⟩:=p;rcases q with⟨y,ex,w,P,q⟩|⟨n,d,a,ex,r,A,E,T,f,q⟩|⟨z,(⟨i,ex,K,j⟩|⟨ex,j⟩|⟨b,ex,j⟩),f,q⟩;.subst ex;obtain⟨t,rfl⟩:=m;have f:=StrLaws.reprText_len y w;have c:(reprText y).length<=sizeLine:=apD f (apD (show 10*y.length+2<=50002 by omega) (by decide));exact pyReprObj_str (aqs (λo tk=>⟨.str (reprText y),l,(g.tok _).tok tk,⟨_,rfl⟩,q _ f⟩) c) c
 .subst ex;cases show u=Value.ref a from m;obtain⟨⟨S,J⟩,N,R⟩:=g.reads n d (.ref a) _ r rfl;have c:d.shown.length<=sizeLine:=apD f (by decide);refine pyReprObj_of_reads J A (λz=>by rw[E]at z;cases z) G (by omega) (λ_ _ q=>q) (λM u tk C=>?_) c;exact aqs (λo v=>⟨.str d.shown,l,((ae5 g C).tok _).tok _,⟨_,rfl⟩,q⟩) c
 .subst ex j;obtain⟨t,rfl⟩:=m;exact pyReprObj_int K (aqs (λo tk=>⟨.str (toString i),l,(g.tok _).tok tk,⟨_,rfl⟩,q⟩) (apD f (by decide)))
 .subst ex j;cases show u=Value.none from m;exact pyReprObj_none (aqs (λo tk=>⟨.str "None",l,(g.tok _).tok tk,⟨_,rfl⟩,q⟩) (apD f (by decide)))
 .subst ex j;cases show u=Value.bool b from m;exact pyReprObj_bool (aqs (λo tk=>⟨.str _,l,(g.tok _).tok tk,⟨_,rfl⟩,q⟩) (apD f (by decide)))
theorem h8:∀l:List PyData,(PyData.shownAll l).length=l.length|[]=>rfl|x::l=>by simp only[PyData.shownAll,apK,h8 l]
theorem adz:∀{ws:List VW}{n k:Nat},WL.shL ws=some n->WL.jb (k+1) ws=true->PyData.showableAll (gX ws)=true/\PyData.hasDictAll (gX ws)=false/\((PyData.shownAll (gX ws)).map (·.length)).sum+2*(gX ws).length+3<=n
|[],n,k,e,_=>by cases e;exact⟨rfl,rfl,apG _⟩|.str x::ws,n,k,e,o=>by
 obtain⟨m,em,rfl⟩:=aqe.mp (show(WL.shL ws).map (.+(10*x.length+4))=some n from e);have o:=aqv.mp o;obtain⟨a,b,j⟩:=adz em o.2;have l:∀c∈x.cps.toList,c<16^8:=λc g=>by
  have:=Array.all_eq_true_iff_forall_mem.mp o.1 c (by simpa using g);have h:c<1114112:=by simpa using this
  exact Nat.lt_trans h (by decide)
 have p:=StrLaws.reprText_len x l;refine⟨by simpa[gX,yk,ym,PyData.showableAll,PyData.showable]using a,by simpa[gX,yk,ym,PyData.hasDictAll,PyData.hasDict]using b,?_⟩;simp only[gX,yk,ym,PyData.shownAll,PyData.shown,apU,List.sum_cons,apK];omega|.int i::ws,n,k,e,o=>by
 have e:(if i.natAbs<1000 then(WL.shL ws).map (.+12)else none)=some n:=e;by_cases d:i.natAbs<1000;.rw[apB d]at e;obtain⟨m,em,rfl⟩:=aqe.mp e;have o:=aqv.mp o;obtain⟨a,b,j⟩:=adz em o.2;have f:=int_text d;refine⟨by simpa[gX,yk,ym,PyData.showableAll,PyData.showable,f.2]using a,by simpa[gX,yk,ym,PyData.hasDictAll,PyData.hasDict]using b,?_⟩;simp only[gX,yk,ym,PyData.shownAll,PyData.shown,apU,List.sum_cons,apK];have:=f.1;omega
 .rw[apA d]at e;cases e|.non::_,_,_,e,_=>by cases e|.bl _::_,_,_,e,_=>by cases e|.ty _::_,_,_,e,_=>by cases e|.tup _::_,_,_,e,_=>by cases e|.lst _::_,_,_,e,_=>by cases e|.dic _ _::_,_,_,e,_=>by cases e|.cls _::_,_,_,e,_=>by cases e|.exc _ _::_,_,_,e,_=>by cases e|.ins _ _::_,_,_,e,_=>by cases e
inductive PJ(X:Cx)(B:Bx):List Expr->AF->Prop where|nil:PJ X B [] WL.aA|c{x:Str}{j:Nat}{pos:Pos}{es:List Expr}{t:AF}(h:PJ X B es t)(hl:x.length<=1000):PJ X B (.Constant (.str x) j pos::es) t|f{e:Expr}{pos:Pos}{es:List Expr}{ta:EF}{t:AF}(he:PE X e (lo B ta))(h:PJ X B es t):PJ X B (.FormattedValue e (-1) none pos::es) (WL.ae (WL.eFf ta) t)|r{e:Expr}{pos:Pos}{es:List Expr}{ta:EF}{t:AF}(hK:X.K=B.K)(hu:X.A.units+64<cLine)(hg:X.A.guards=some [])(he:PE X e (lo B ta))(h:PJ X B es t):PJ X B (.FormattedValue e 114 none pos::es) (WL.ae (WL.eFr ta) t)
def aiB:PJ X B [] WL.aA:=.nil
def ao2{x:Str}{j:Nat}{pos:Pos}{es:List Expr}{t:AF}(h:PJ X B es t)(a:x.length<=1000:=by decide+kernel):PJ X B (.Constant (.str x) j pos::es) t:=.c h a
def ao1{e:Expr}{pos:Pos}{es:List Expr}{ta:EF}{t:AF}(d:X.K=B.K)(c:X.A.units+64<cLine)(b:X.A.guards=some [])(a:PE X e (lo B ta))(h:PJ X B es t):PJ X B (.FormattedValue e 114 none pos::es) (WL.ae (WL.eFr ta) t):=.r d c b a h
def iA(x y:Str):(x++y).length=x.length+y.length:=by show(x.cps++y.cps).size=_;rw[Array.size_append];rfl
def jT{n m:Nat}{a:Str}(h:a.length<=100000*n)(b:n+m<=50):a.length<=sizeLine:=apD h (apD (Nat.mul_le_mul_left 100000 (show n<=50 by omega)) (by decide))
theorem la:∀{es:List Expr}{t:AF},PJ X B es t->∃P,Paired (PE X) es P/\∀(σ:Ws)(j:L2.St)(F H:Hp)(Q:VK)(e:Str)(n:Nat),RS B σ j F H->n+es.length<=50->e.length<=100000*n->Rq B σ F (t σ) (λ_=>∀o p(y:Str),RS B σ j p o->Gr F H p o->Q (.str y) o)->tJ P e j H Q
|_,_,.nil=>⟨[],.nil,λσ j F H Q e n R O Z q=>⟨jT Z O,(show∀o p(y:Str),_ from q) H F e R Gr.refl⟩⟩|_,_,.c (x:=x) (es:=es) h hl=>by
  obtain⟨P,T,I⟩:=la h;refine⟨_,.cons jY T,λσ j F H Q e n R O Z q=>?_⟩;have g:n+1+es.length<=50:=by simp at O;omega
  have d:(e++x).length<=100000*(n+1):=by rw[iA];omega
  exact⟨x,rfl,jT d g,I σ j F H Q (e++x) (n+1) R g d q⟩|_,_,.f (es:=es) (ta:=ta) (t:=t) he h=>by
  obtain⟨P,T,I⟩:=la h;refine⟨_,.cons (sN he) T,λσ j F H Q e n R O Z q=>?_⟩;have g:n+1+es.length<=50:=by simp at O;omega
  have q:=Rq.bind (Rq.bind q);refine⟨σ,F,R,Rq.mono (aC.refl _) q λx f v M N J s r=>?_⟩;have rest:∀y:Str,y.length<=1000->(∃z,WL.aoI x=.ok z)->∃y',V.str y=.str y'/\(e++y').length<=sizeLine/\tJ P (e++y') j M Q:=λy hy⟨z,K⟩=>by
   rw[K]at f;have d:(e++y).length<=100000*(n+1):=by rw[iA];omega
   refine⟨y,rfl,jT d g,I σ j N M Q (e++y) (n+1) J g d ?_⟩;exact Rq.mono s.f (Rq.bind (show Rq B σ F ((t σ).bind λC=>.ok (z::C)) _ from f)) λws k o p A R2 w=>(show∀o p(y:Str),_ from k) o p A R2 (s.trans w)
  cases x with|int i=>
   simp only[RW]at r;subst r;by_cases l:i.natAbs<1000;.have S:=int_text l;exact .inl ⟨i,rfl,S.2,rest (toString i) (apD S.1 (by decide)) ⟨_,apB l⟩⟩
   .have f:Rq B σ F (if i.natAbs<1000 then Res.ok (WL.W.int i)else .bad) _:=f;rw[apA l]at f;exact(show False from f).elim|str y=>
   simp only[RW]at r;subst r;by_cases l:y.length<=1000;.exact .inr ⟨y,rfl,apD l (by decide),rest y l ⟨_,apB l⟩⟩
   .have f:Rq B σ F (if y.length<=1000 then Res.ok (WL.W.str y)else .bad) _:=f;rw[apA l]at f;exact(show False from f).elim|_=>exact(show False from f).elim
|_,_,.r (es:=es) (ta:=ta) (t:=t) hK hu hg he h=>by
  obtain⟨P,T,I⟩:=la h;refine⟨_,.cons (ajs hg he) T,λσ j F H Q e n R O Z q=>?_⟩;have g:n+1+es.length<=50:=by simp at O;omega
  have q:=Rq.bind (Rq.bind q);refine⟨σ,F,R,Rq.mono (aC.refl _) q λx f v M N J s r=>?_⟩;cases x with|str y=>
   simp only[RW]at r;subst r;by_cases l:y.length<=5000/\(y.cps.toList.all λc=>Nat.ble c 1114111)=true
   .have K:WL.aic (.str y)=.ok (.str y):=apB l;rw[K]at f;refine .inl ⟨y,rfl,λc hc=>aqV (Nat.ble_eq.mp (aqn.mp l.2 c hc)) (by decide),l.1,λz hz=>?_⟩;have d:(e++z).length<=100000*(n+1):=by rw[iA];have:=l.1;omega
    refine⟨z,rfl,jT d g,I σ j N M Q (e++z) (n+1) J g d ?_⟩;exact Rq.mono s.f (Rq.bind (show Rq B σ F ((t σ).bind λC=>.ok (.str y::C)) _ from f)) λws k o p A R2 w=>(show∀o p(y:Str),_ from k) o p A R2 (s.trans w)
   .have f:Rq B σ F (if y.length<=5000/\(y.cps.toList.all λc=>Nat.ble c 1114111)=true then Res.ok (WL.W.str y)else .bad) _:=f;rw[apA l]at f;exact(show False from f).elim|lst ws=>
   by_cases l:WL.shC ws=true;.have K:WL.aic (.lst ws)=.ok (.lst ws):=apB l;rw[K]at f;have D:(WL.jb 51 ws&&match WL.shL ws with|some n=>decide (n<=80000)|none=>false)=true:=l;rw[apT]at D;obtain⟨Y,G⟩:=D;cases u:WL.shL ws with|none=>rw[u]at G;cases G|some m=>
     rw[u]at G;have G:m<=80000:=by simpa using G
     obtain⟨s1,s2,s3⟩:=adz u Y;have hd:=RW.isD 51 (.lst ws) v Y (r.keep J.rb.sub);simp only[RW]at r;obtain⟨a,vs,rfl,_,_⟩:=r;have E:(PyData.shown (.list (gX ws))).length<=80000:=by have h1:=listText_len_le (PyData.shownAll (gX ws));have h2:(PyData.shownAll (gX ws)).length=(gX ws).length:=h8 (gX ws);simp only[PyData.shown];omega
     refine .inr (.inl ⟨51,.list (gX ws),a,rfl,by rw[hK];exact hd,by simpa only[PyData.showable]using s1,by simpa only[PyData.hasDict]using s2,by omega,E,?_⟩);have d:(e++PyData.shown (.list (gX ws))).length<=100000*(n+1):=by rw[iA];omega
     refine⟨_,rfl,jT d g,I σ j N M Q _ (n+1) J g d ?_⟩;exact Rq.mono s.f (Rq.bind (show Rq B σ F ((t σ).bind λC=>.ok (.lst ws::C)) _ from f)) λws k o p A R2 w=>(show∀o p(y:Str),_ from k) o p A R2 (s.trans w)
   .have f:Rq B σ F (if WL.shC ws=true then Res.ok (WL.W.lst ws)else .bad) _:=f;rw[apA l]at f;exact(show False from f).elim|tup ws=>
   by_cases l:WL.shC ws=true;.have K:WL.aic (.tup ws)=.ok (.tup ws):=apB l;rw[K]at f;have D:(WL.jb 51 ws&&match WL.shL ws with|some n=>decide (n<=80000)|none=>false)=true:=l;rw[apT]at D;obtain⟨Y,G⟩:=D;cases u:WL.shL ws with|none=>rw[u]at G;cases G|some m=>
     rw[u]at G;have G:m<=80000:=by simpa using G
     obtain⟨s1,s2,s3⟩:=adz u Y;have hd:=RW.isD 51 (.tup ws) v Y (r.keep J.rb.sub);simp only[RW]at r;obtain⟨a,vs,rfl,_,_⟩:=r;have E:(PyData.shown (.tuple (gX ws))).length<=80000:=by have h1:=tupleText_len_le (PyData.shownAll (gX ws));have h2:(PyData.shownAll (gX ws)).length=(gX ws).length:=h8 (gX ws);simp only[PyData.shown];omega
     refine .inr (.inl ⟨51,.tuple (gX ws),a,rfl,by rw[hK];exact hd,by simpa only[PyData.showable]using s1,by simpa only[PyData.hasDict]using s2,by omega,E,?_⟩);have d:(e++PyData.shown (.tuple (gX ws))).length<=100000*(n+1):=by rw[iA];omega
     refine⟨_,rfl,jT d g,I σ j N M Q _ (n+1) J g d ?_⟩;exact Rq.mono s.f (Rq.bind (show Rq B σ F ((t σ).bind λC=>.ok (.tup ws::C)) _ from f)) λws k o p A R2 w=>(show∀o p(y:Str),_ from k) o p A R2 (s.trans w)
   .have f:Rq B σ F (if WL.shC ws=true then Res.ok (WL.W.tup ws)else .bad) _:=f;rw[apA l]at f;exact(show False from f).elim|bl b=>
   simp only[RW]at r;subst r;have U:(if b then("True":Str)else"False").length<=10:=by cases b<;>decide
   refine .inr (.inr ⟨if b then("True":Str)else"False",.inr (.inr ⟨b,rfl,rfl⟩),apD U (by decide),?_⟩);have d:(e++if b then("True":Str)else"False").length<=100000*(n+1):=by rw[iA];omega
   refine⟨_,rfl,jT d g,I σ j N M Q _ (n+1) J g d ?_⟩;exact Rq.mono s.f (Rq.bind (show Rq B σ F ((t σ).bind λC=>.ok (.bl b::C)) _ from f)) λws k o p A R2 w=>(show∀o p(y:Str),_ from k) o p A R2 (s.trans w)|int i=>
   simp only[RW]at r;subst r;by_cases l:i.natAbs<1000
   .have K:WL.aic (.int i)=.ok (.int i):=apB l;rw[K]at f;have S:=int_text l;refine .inr (.inr ⟨toString i,.inl ⟨i,rfl,S.2,rfl⟩,apD S.1 (by decide),?_⟩);have d:(e++(toString i:Str)).length<=100000*(n+1):=by rw[iA];have:=S.1;omega
    refine⟨_,rfl,jT d g,I σ j N M Q _ (n+1) J g d ?_⟩;exact Rq.mono s.f (Rq.bind (show Rq B σ F ((t σ).bind λC=>.ok (.int i::C)) _ from f)) λws k o p A R2 w=>(show∀o p(y:Str),_ from k) o p A R2 (s.trans w)
   .have f:Rq B σ F (if i.natAbs<1000 then Res.ok (WL.W.int i)else .bad) _:=f;rw[apA l]at f;exact(show False from f).elim|non=>
   simp only[RW]at r;subst r;refine .inr (.inr ⟨"None",.inr (.inl ⟨rfl,rfl⟩),by decide,?_⟩);have U:("None":Str).length<=10:=by decide
   have d:(e++("None":Str)).length<=100000*(n+1):=by rw[iA];omega
   refine⟨_,rfl,jT d g,I σ j N M Q _ (n+1) J g d ?_⟩;exact Rq.mono s.f (Rq.bind (show Rq B σ F ((t σ).bind λC=>.ok (.non::C)) _ from f)) λws k o p A R2 w=>(show∀o p(y:Str),_ from k) o p A R2 (s.trans w)|_=>exact(show False from f).elim
def aad{x:Str}{C:Addr}{nm:String}{h i:Expr}{es:List Expr}{a:AF}{r b d pos:Pos}(M:X.K=B.K)(K:XW X B)(z:X.calm=true)(J:Gl X x)(I:X.mg x=some (.ref C))(q:rD X.K C none)(p:ExcAt X.K nm C)(G:WL.fieldsOf nm=[])(A:PJ X B (h::i::es) a)(O:es.length<=40:=by decide)(o:Dbg x:=by decide)(j:evalEach es X.env=es.map λe=>eval e X.env:=by rfl)(hs:starEach [Expr.JoinedStr (h::i::es) b] X.env=(false,eval (.JoinedStr (h::i::es) b) X.env)::starEach [] X.env:=by rfl)(c:BT X d []:=by rfl):PS X (.Raise (some (.Call (.Name x r) [.JoinedStr (h::i::es) b] [] d)) none pos) (loS B (WL.uK nm a)):=by obtain⟨N,u,v⟩:=la A;refine PS.imp (wX z J I q (bM (qp u j) eF hs) o hs c) λD f H k=>?_;obtain⟨σ,F,R,q⟩:=k;have q:=Oq.ofR q;refine v σ f F H _ Str.empty 0 R (by simp;omega) (apG _) (Rq.mono (aC.refl _) q λws m w l y E n=>?_);refine⟨show 1<=sizeLine by decide,λg s e t=>?_⟩;exact K g f w s σ l (.exc nm []) E (B.mono _ σ F l n.f m) e C none none _ t ⟨p,[],by rw[G];rfl,by simp[RWs],.inl ⟨rfl,rfl⟩⟩
end
end WS
namespace L2
open PySem PySem.Spec PyProof.Rows PySem.Builtin
end L2
namespace WS
open PySem PySem.Spec PyProof.Rows L2 PySem.Builtin PySem.Builtin.Str
open WL(Res Sl Ws EF TF AF LF GF GsF SF Out XF XA FS Fs KO KF OX RF Sr)
section
variable{X:Cx}{B:Bx}{K:W.Frag}
inductive PF(X:Cx)(B:Bx):List Expr->AF->Prop where|nil:PF X B [] WL.aA|c{x:Str}{j:Nat}{pos:Pos}{es:List Expr}{t:AF}(h:PF X B es t)(hl:x.length<=1000):PF X B (.Constant (.str x) j pos::es) (WL.ae (WL.eC (.str x)) t)|f{e:Expr}{pos:Pos}{es:List Expr}{ta:EF}{t:AF}(he:PE X e (lo B ta))(h:PF X B es t):PF X B (.FormattedValue e (-1) none pos::es) (WL.ae (WL.ePt ta) t)
end
end WS
namespace WS
open PySem PySem.Spec PyProof.Rows L2
open WL(Res Sl Ws EF TF AF LF GF GsF SF Out XF XA FS Fs KO KF OX RF Sr)
section
variable{B:Bx}{σ:Ws}{σV:L2.St}{F H:Hp}{a:Addr}{kvs:List (Key×V)}{od:Obj}{K:W.Frag}
noncomputable abbrev zD(od:Obj)(kvs:List (Key×V)):HO:=.frz od (.dK kvs)
def RW.one{w v}(h:RWs K F [w] [v]):RW K F w v:=by obtain⟨_,_,e,q,_⟩:=h;cases e;exact q
end
end WS
namespace PySem
end PySem
namespace L2
open PySem PySem.Spec PyProof.Rows
noncomputable def Its(x:Str):It:=⟨λi _=>i<x.cps.size,λi H v a=>a=H/\∃c,x.cps[i]?=some c/\v=.str ⟨#[c]⟩,λi _=>x.cps.size<=i⟩
end L2
namespace WS
open PySem PySem.Spec PyProof.Rows L2
open WL(Res Sl Ws EF TF AF LF GF GsF SF Out XF XA FS Fs KO KF OX RF Sr)
section
variable{X:Cx}{B:Bx}{K:W.Frag}
noncomputable def kW:Key->VW|.inl none=>.non|.inl (some i)=>.int i|.inr z=>.str z
def tr{F x a}(h:RW K F x (kV a)):x=kW a:=by rcases a with(_|i)|z<;>cases x<;>simp only[kV,RW,reduceCtorEq,false_and,exists_false]at h<;>cases h<;>rfl
def qK{F x y}:∀{a b},RW K F x (kV a)->RW K F y (kV b)->WL.nD x y=decide (a=b):=by intro a b c d;rw[tr c,tr d,ap2];rcases a with(_|i)|z<;>rcases b with(_|j)|e<;>simp[WL.nD,kW]
set_option tactic.hygienic true
def afV{F}{k:VW}{v}(b:WL.abO k=true)(r:RW K F k v):∃a,v=kV a:=by
 cases k<;>simp [WL.abO]at b;.exact⟨.inl none,r⟩
 .rename_i i;exact⟨.inl (some i),r⟩
 .rename_i x;exact⟨.inr x,r⟩
set_option tactic.hygienic false
theorem acJ{F k a}(b:RW K F k (kV a)):∀{kvs:List (Key×V)}{ks},RWs K F ks (kvs.map λp=>kV p.1)->WL.ahO k ks=kvs.any λd=>decide (d.1=a)
|[],ks,r=>by cases ks with|nil=>rfl|cons x ks=>simp[RWs]at r
|p::kvs,ks,r=>by cases ks with|nil=>simp[RWs]at r|cons x ks=>obtain⟨h,g,c,f,e⟩:=r;cases c;show(WL.nD x k||WL.ahO k _)=_;rw[qK f b,acJ b e];rfl
theorem acI{F k w a v}(g:RW K F k (kV a))(f:RW K F w v):∀{kvs:List (Key×V)}{ks us},RWs K F ks (kvs.map λp=>kV p.1)->RWs K F us (kvs.map λp=>p.2)->RWs K F ks ((kvs.map λb=>if b.1=a then(b.1,v)else b).map λp=>kV p.1)/\RWs K F (WL.tN k w ks us) ((kvs.map λb=>if b.1=a then(b.1,v)else b).map λp=>p.2)
|[],ks,us,r1,r2=>by cases ks with
 |nil=>cases us with|nil=>exact⟨r1,r2⟩|cons _ _=>simp[RWs]at r2
 |cons x ks=>simp[RWs]at r1
|p::kvs,ks,us,r1,r2=>by cases ks with|nil=>simp[RWs]at r1|cons x ks=>cases us with|nil=>simp[RWs]at r2|cons y us=>
    obtain⟨s,q,m,c,l⟩:=r1;obtain⟨t,r,o,j,n⟩:=r2;cases m;cases o;obtain⟨d,i⟩:=acI g f l n;have e:=qK c g;unfold WL.tN;rw[e];by_cases h:p.1=a;.rw[aqw h,apB rfl];simp only[apU,apB h];exact⟨.cons c d,.cons f i⟩
    .rw[ap1 h,apA apW];simp only[apU,apA h];exact⟨.cons c d,.cons j i⟩
def agZ{F k w a v}(c:RW K F k (kV a))(d:RW K F w v){kvs ks us}(b:RWs K F ks (kvs.map λp=>kV p.1))(e:RWs K F us (kvs.map λp=>p.2)):RWs K F (WL.putK ks k) ((putK kvs a v).map λp=>kV p.1)/\RWs K F (WL.ajg ks us k w) ((putK kvs a v).map λp=>p.2):=by
 unfold WL.putK WL.ajg L2.putK;rw[acJ c b];by_cases h:(kvs.any λf=>decide (f.1=a))=true;.rw[apB h,apB h,apB h];exact acI c d b e
 .rw[apA h,apA h,apA h,arw,arw];exact⟨b.app (.one c),e.app (.one d)⟩
variable{i j:Nat}{pos pos':Pos}{x:Str}
end
end WS
set_option autoImplicit true
set_option relaxedAutoImplicit true
namespace L2
open PySem PySem.Spec PyProof.Rows
section
variable{X:Cx}{k:Nat}{f C:Addr}{fd:FuncData}{ps:List Str}{sp:Sp}{dvs:List V}{ds:List Value}{x:Str}{p pos:Pos}{e:Expr}{es:List Expr}{t:TA}
def aiX(X:Cx)(C:Addr)(sp:Sp)(dvs:List V)(t:TA):TE:=λσ H Q=>t σ H λi d=>∀x c,d x=none->d c=none->c≠x->∃E:XK,sp (.ref x::(i++dvs)) (upd (upd d c (.own x)) x (.ins C c [])) (λv j=>v=.non/\Q (.ref x) j) E/\∀a s e g b T h,Thr X a σ h s e g b .none (some T)->E (.ref g) b h->X.xe (.ref e) s
def adU(M:Mk X.K C f)(F:FnOk X.prog X.w X.K X.mg X.base (CXX X.prog X.w) k f fd ps sp)(O:Room (k+1) X.A)(hg:Gl X x)(hm:X.mg x=some (.ref C))(D:Binds X.K fd ps ds)(z:Vals dvs ds)(Z:PA X (e::es) t)(g:Dbg x:=by decide)(Y:SE X e es:=by rfl)(j:BT X pos es:=by rfl):PE X (.Call (.Name x p) (e::es) [] pos) (aiX X C sp dvs t):=by
 intro b w σ P Q i J;refine aqU (gF i hg hm ?_ g);refine asB i.ok.mod.kin M.kp (thn (Z pos b w σ P _ i J) λc s⟨N,H,I,r,h⟩=>⟨I.kIn,?_⟩) Y j;obtain⟨E,o,hx⟩:=h (s.heap.objs.size+1) s.heap.objs.size (I.hok.fresh (asd _)) (I.hok.fresh (apG _)) (apM (aqT _));have d:=Inv.made (C:=C) I;have n:Vals (V.ref (s.heap.objs.size+1)::(N++dvs)) (Value.ref (s.heap.objs.size+1)::(c++ds)):=.cons rfl (r.append z);have R:=by have e:=n.length;rw[F.len _ _ _ _ o]at e;exact e.symm
 refine arp (aec I.kIn M.makes M.init (aqO.mp M.fn) (arA (F.run _ X.stack _ _ _ (Value.ref (s.heap.objs.size+1)::(c++ds)) _ _ E (O.make C c []) trivial (d.alH.make C c []) (D _ (Value.ref (s.heap.objs.size+1)::c) d.kIn R) n o) λr A a=>?_));cases r with|error e=>obtain⟨U,K,l,T,m,rfl,t,q⟩:=d.thrown a;exact hx b A U K l T m t q|ok fl=>cases fl with|ret u=>obtain⟨v,m,y,S,B,G⟩:=d.after a;subst B;exact⟨S,⟨V.ref (s.heap.objs.size+1),m,y,rfl,G⟩⟩|next=>exact False.elim a|brk=>exact False.elim a|cont=>exact False.elim a
end
end L2
namespace WS
open PySem PySem.Spec PyProof.Rows L2
open WL(Res Sl Ws EF TF AF LF GF GsF SF Out XF XA FS Fs KO KF OX RF Sr)
section
variable{B B1:Bx}{σ:Ws}{σV:L2.St}{F H F' H':Hp}
structure Ex(f:Str)(x C dx d:Addr)(σV:L2.St)(F H:Hp):Prop where
 sl:σV[0]?=some (some (.ref x))F:F x=none
 H:H x=some (.ins C dx [(f,.ref d)])
def Oq4(B:Bx)(f:Str)(x C dx:Addr)(D:Ends)(F:Hp):Out->Prop|.nx σ'=>∀a d H' F',a.length=3->RS B σ' (a++[some (.ref d)]) F' H'->Ex f x C dx d a F' H'->aC F F'->D.nx a H'|.ex c σ'=>B.xp c σ' F|_=>False
theorem Oq4.mono{f x C dx D F F' o}(s:aC F F')(h:Oq4 B f x C dx D F o):Oq4 B f x C dx D F' o:=by cases o with|nx σ=>exact λσV d H G a R ex z=>h _ d H G a R ex (s.trans z)|ex c σ=>exact B.mono c σ F _ s h|_=>exact h
end
section
variable{K:W.Frag}{F:Hp}{x:Addr}{C dx:Addr}
def RWs.anq{F'}(h:∀b o,F b=some o->F' b=some o\/∃C dx,o=.ins C dx []){ws vs}(r:RWs K F ws vs):RWs K F' ws vs:=by
 have k:∀{b}{o:HO},F b=some o->(∀C dx,o≠.ins C dx [])->F' b=some o:=λ{b o}e n=>by grind
 refine RWs.via (λb c q=>?_) (λb c q=>?_) (λb g q=>?_) (λb a q=>k q λ_ _ z=>nomatch z) (λb a q=>k q λ_ _ z=>nomatch z) (λb C dx l i q=>k q λf d z=>by grind) ws vs r
 .rcases q with(q|⟨o,q⟩)|q;.exact .inl (.inl (k q λ_ _ z=>nomatch z))
  .exact .inl (.inr ⟨o,k q λ_ _ z=>nomatch z⟩)
  .exact .inr q
 .rcases q with(q|⟨o,q⟩)|q;.exact .inl (.inl (k q λ_ _ z=>nomatch z))
  .exact .inl (.inr ⟨o,k q λ_ _ z=>nomatch z⟩)
  .exact .inr q
 .rcases q with q|⟨o,q⟩;.exact .inl (k q λ_ _ z=>nomatch z)
  .exact .inr ⟨o,k q λ_ _ z=>nomatch z⟩
end
noncomputable def noI(F:Hp):Hp:=λb=>match F b with|some (.ins _ _ [])=>none|o=>o
def abx{F b o}(h:noI F b=some o):F b=some o:=by
 unfold noI at h;split at h;.cases h
 .exact h
set_option tactic.hygienic true
def ajO{F b o}(h:F b=some o):noI F b=some o\/∃C a,o=.ins C a []:=by
 unfold noI;rw[h];split;.rename_i C a e;cases e;exact .inr ⟨C,a,rfl⟩
 .exact .inl rfl
set_option tactic.hygienic false
noncomputable def jo(F F':Hp):Hp:=λb=>match F b with|some o=>some o|none=>F' b
def akd{F F' b o}(h:F b=some o):jo F F' b=some o:=by unfold jo;rw[h]
def akc{F F' b}(h:F b=none):jo F F' b=F' b:=by unfold jo;rw[h]
def aod(P:Program)(w:World)(K:W.Frag)(c:Str->Option Value)(a:Heap)(k:Nat)(fI:Addr)(ps:List Str)(sp:Sp):Prop:=∃b:FuncData,FnOk P w K c a (CXX P w) k fI b ps sp/\Binds K b ps []
def aey{P:Program}{w:World}{K:W.Frag}{i:Str->Option Value}{b:Heap}{k:Nat}{f:Addr}{a:Str}{st:Stmt}{ps:List Str}{sp:Sp}(D:∃c,Fun K "__init__" a st f c)(l:∀(kV e j:Value)(m:Option Addr)(d ct:Value)(g:List Value),g.length=ps.length->bindArgs (W.fnOf "__init__" a (dE st) (bN st) (ah st) .none kV e j m d ct) ⟨g,[]⟩=pure (ps.zip g))(h:∀c:FuncData,Fun K "__init__" a st f c->FnOk P w K i b (CXX P w) k f c ps sp):aod P w K i b k f ps sp:=by obtain⟨c,F⟩:=D;exact⟨c,h c F,F.binds l⟩
def un1{n:Nat}(h:n+64<cLine):n+1<cLine:=by omega
end WS
namespace L2
open PySem PySem.Spec PyProof.Rows
section
variable{X:Cx}{k:Nat}{f C:Addr}{fd:FuncData}{ps:List Str}{sp:Sp}{dvs:List V}{ds:List Value}{m:Str}{apos pos:Pos}{o e:Expr}{es:List Expr}{ta:TE}{t:TA}
def afn(X:Cx)(C:Addr)(m:Str)(sp:Sp)(dvs:List V)(ta:TE)(t:TA):TE:=λσ H Q=>ta σ H λx d=>∃a l fs,x=.ref a/\d a=some (.ins C l fs)/\fs.lookup m=none/\t σ d λi j=>∃E:XK,sp (x::(i++dvs)) j Q E/\∀b s e g c T h,Thr X b σ h s e g c .none (some T)->E (.ref g) c h->X.xe (.ref e) s
def adT{pl}(M:PE X o ta)(c:Cls X.K C)(p:Meth X.K C m f)(F:FnOk X.prog X.w X.K X.mg X.base (CXX X.prog X.w) k f fd ps sp)(B:Room k X.A)(z:Binds X.K fd ps ds)(y:Vals dvs ds)(N:PA X (e::es) t)(d:SE X e es:=by rfl)(i:BT X pos es:=by rfl)(D:eval (.Call (.Attribute o m apos) (e::es) [] pos) X.env=(do
  let n <-eval o X.env
  standAt apos.atName let(f,first)<-holding [n] (getMethod n m pl)callWith pos f first (backTo pos (starEach (e::es) X.env)) (backToKw pos (keywordEach [] X.env))):=by rfl):PE X (.Call (.Attribute o m apos) (e::es) [] pos) (afn X C m sp dvs ta t):=by intro b s σ H Q I h;refine W.methodCall_KW (thn (M b s σ H _ I h) λu G g=>?_) D;obtain⟨x,A,j,K,a,T,fs,ex,J,l,q⟩:=g;subst ex;obtain rfl:=K;exact zh j J c p l (asB  I.ok.mod.kin p.kp (thn (N pos b G σ A _ j q) λS P⟨vs,R,v,r,E,w,O⟩=>⟨v.kIn,aaW (vs:=.ref a::vs) F B z y O v (.cons rfl r) w⟩) d i)
end
end L2
namespace WS
open PySem PySem.Spec PyProof.Rows L2
open WL(Res Sl Ws EF TF AF LF GF GsF SF Out XF XA FS Fs KO KF OX RF Sr)
section
variable{B:Bx}{σ:Ws}{σV:L2.St}{F H:Hp}{x:Addr}{o:HO}
def RS.apm(R:RS B σ σV F H)(r:F x=none)(k:B.H0 x=none)(t:H x=some o)(j:NF o)(D:∀l,o≠.lst l)(nd:∀l,o≠.dK l):RS B σ σV (upd F x o) H:=by
 have s:aC F (upd F x o):=aD r _;refine⟨⟨λb u q=>?_,R.rb.base,R.rb.fz0.trans s,λb u q=>?_⟩,R.len,λi w q=>?_,λi ws q=>?_,R.ap,λi p y q=>?_,R.dd.ad,λi q=>?_⟩
 .by_cases e:b=x;.subst e;rw[av]at q;cases q;exact t
  .rw[ak e]at q;exact R.rb.sub b u q
 .by_cases e:b=x;.subst e;rw[av]at q;cases q;exact .inr ⟨k,j⟩
  .rw[ak e]at q;exact R.rb.fr b u q
 .obtain⟨v,c,d⟩:=R.va i w q;exact⟨v,c,d.keep s⟩
 .refine lP (R.ow i ws q) λa m c d h g f=>?_;have e:a≠x:=λz=>by grind
  exact afb a m c (by rw[ak e];exact d) h g (f.keep s)
 .refine akX (R.dd.od i p y q) λa l c d h g f A=>?_;exact aiw a l c (by rw[ak λz=>by grind];exact d) h g (f.keep s) (A.keep s)
 .refine x9 (R.dd.ob i q) λa C n c d=>?_;exact acZ a C n c (s _ _ d)
end
end WS
namespace L2
open PySem PySem.Spec PyProof.Rows
end L2
namespace WS
open PySem PySem.Spec PyProof.Rows L2
open WL(Res Sl Ws EF TF AF LF GF GsF SF Out XF XA FS Fs KO KF OX RF Sr)
section
variable{X:Cx}{B:Bx}{K:W.Frag}
theorem xV{F k a}(b:RW K F k (kV a))(w:VW):∀{kvs ks us},RWs K F ks (kvs.map λp=>kV p.1)->RWs K F us (kvs.map λp=>p.2)->WL.q0 k ks us=some w->∃v,ug kvs a=some v/\RW K F w v
|[],ks,us,r1,r2,e=>by cases ks with|nil=>cases e|cons x ks=>simp[RWs]at r1
|p::kvs,ks,us,r1,r2,e=>by cases ks with|nil=>cases e|cons x ks=>cases us with|nil=>cases e|cons y us=>
  obtain⟨q,n,i,g,f⟩:=r1;obtain⟨r,o,m,c,l⟩:=r2;cases i;cases m;unfold WL.q0 at e;rw[qK g b]at e;by_cases h:p.1=a;.rw[aqw h]at e;cases e;exact⟨_,eH h,c⟩
  .rw[ap1 h]at e;obtain⟨v,d,j⟩:=xV b w f l e;exact⟨v,by rw[eI h];exact d,j⟩
def aeX:Calm WL.zS:=λx y c h=>by
 unfold WL.zS at h;split at h
 .split at h;.revert h;cases WL.q0 _ _ _<;>simp[WL.ofO]
  .cases h
 .exact acP _ _ _ h
set_option tactic.hygienic true
def al1(t:X.K=K):IxR X (lo2 K WL.zS):=by
 intro f b h s σ H x y v u Q I m i⟨F,wx,D,j,k,d,q⟩l;unfold WL.zS at q;split at q
 .rename_i r A;split at q;.rename_i C;obtain⟨g,rfl⟩:=afV C d;obtain⟨a,c,rfl,rd,p,n⟩:=k;cases e:WL.q0 D r A with|none=>rw[e]at q;exact q.elim|some w=>rw[e]at q;obtain⟨z,o,E⟩:=xV d w p n e;exact abT _ _ _ s σ H _ _ v u Q I m i ⟨a,c,g,z,rfl,rfl,j.rd rd,o,eq1 q E⟩ l
  .exact q.elim
 .exact al2 t _ _ _ s σ H x y v u Q I m i ⟨F,_,_,j,k,d,q⟩ l
set_option tactic.hygienic false
variable{i:Nat}{pos pos':Pos}{x:Str}
end
end WS
namespace L2
open PySem PySem.Spec PyProof.Rows
end L2
namespace WS
open PySem PySem.Spec PyProof.Rows L2
open WL(Res Sl Ws EF TF AF LF GF GsF SF Out XF XA FS Fs KO KF OX RF Sr)
end WS
namespace L2
open PySem PySem.Spec PyProof.Rows
end L2
namespace WS
open PySem PySem.Spec PyProof.Rows L2
open WL(Res Sl Ws EF TF AF LF GF GsF SF Out XF XA FS Fs KO KF OX RF Sr)
end WS
namespace L2
open PySem PySem.Spec PyProof.Rows PySem.Calls
end L2
namespace WS
open PySem PySem.Spec PyProof.Rows L2
open WL(Res Sl Ws EF TF AF LF GF GsF SF Out XF XA FS Fs KO KF OX RF Sr)
def aim(P:Program)(w:World)(K:W.Frag)(c:Str->Option Value)(a:Heap)(k:Nat)(C f:Addr)(m:Str)(ps:List Str)(sp:Sp):Prop:=Meth K C m f/\∃b:FuncData,FnOk P w K c a (CXX P w) k f b ps sp/\Binds K b ps []
def ajU{K f nm a st j od i e kV d h b ct}(l:K.lookup f=some ⟨j,od,.func (W.fnOf nm a (dE st) (bN st) (ah st) .none kV d h i b ct),e⟩)(c:W.codeIn K b a=true)(q:W.keepIn K (.ref f)=true):∃g,Fun K nm a st f g:=⟨_,ab5 l c q⟩
def qF{P w K i b k C f nm a st ps sp}(M:Meth K C nm f)(D:∃c,Fun K nm a st f c)(l:∀kV e j m d ct g,g.length=ps.length->bindArgs (W.fnOf nm a (dE st) (bN st) (ah st) .none kV e j m d ct) ⟨g,[]⟩=pure (ps.zip g))(h:∀c,Fun K nm a st f c->FnOk P w K i b (CXX P w) k f c ps sp):aim P w K i b k C f nm ps sp:=by obtain⟨c,F⟩:=D;exact⟨M,c,h _ F,F.binds l⟩
section
variable{X:Cx}{B:Bx}{a b e o:Expr}{ta tb to:EF}{pos pos' cpos apos p:Pos}{x fl m nx_:Str}{es:List Expr}{tas:AF}{i j k n d:Nat}{C f g:Addr}{ps:List Str}{fn:List VW->Res VW}{c:String}{pl:Sem Bool}
def wxD(h:B.K=X.K)(l:PE X a (lo B ta))(q:PE X b (lo B tb))(hs:jI b:=by exact λ_ _=>rfl):PE X (.Subscript a b pos) (lo B (WL.eOp WL.zS ta tb)):=aiE aeX (al1 h.symm) l q hs
end
def Frs(K:W.Frag)(F H:Hp):List (Addr×Addr)->Fs->Prop|[],[]=>True|(b,c)::r,(h,is)::fs=>(∃a d,H b=some (.lst [a,.ref c])/\H c=some (.lst d)/\RW K F h a/\RWs K F is d)/\Frs K F H r fs|_,_=>False
noncomputable def adr:List (Addr×Addr)->List Addr|[]=>[]|(b,c)::r=>b::c::adr r
structure Stk(B:Bx)(F H:Hp)(a:Addr)(r:List (Addr×Addr))(fs:Fs):Prop where
 top:H a=some (.lst (r.reverse.map λp=>.ref p.1))frs:Frs B.K F H r fs
 nd:(a::adr r).Nodup
 own:∀x∈a::adr r,F x=none/\B.H0 x=none
section
variable{K:W.Frag}{F H F' H':Hp}
theorem Frs.len:∀{r:List (Addr×Addr)}{fs:Fs},Frs K F H r fs->r.length=fs.length|[],[],_=>rfl|(_,_)::r,(_,_)::fs,h=>by simp only[apK,Frs.len h.2]
theorem Frs.there:∀{r:List (Addr×Addr)}{fs:Fs},Frs K F H r fs->∀x∈adr r,∃l,H x=some (.lst l)
|[],_,_,x,a=>nomatch a|(b,c)::r,(h,is)::fs,q,x,a=>by
 obtain⟨⟨g,i,d,f,_,_⟩,e⟩:=q;simp only[adr,apJ]at a;rcases a with rfl|rfl|a;.exact⟨_,d⟩
 .exact⟨_,f⟩
 .exact e.there x a
theorem Frs.via(s:aC F F'):∀{r:List (Addr×Addr)}{fs:Fs},(∀x∈adr r,∀o,H x=some o->H' x=some o)->Frs K F H r fs->Frs K F' H' r fs|[],[],_,_=>trivial|(b,c)::r,(h,is)::fs,k,q=>by obtain⟨⟨a,e,f,i,d,l⟩,g⟩:=q;exact⟨⟨a,e,k b (by simp[adr]) _ f,k c (by simp[adr]) _ i,d.keep s,l.keep s⟩,g.via s λx j=>k x (by simp[adr,j])⟩
end
section
variable{B:Bx}{a:Addr}{r:List (Addr×Addr)}{fs:Fs}{F H F' H':Hp}
theorem Stk.there(S:Stk B F H a r fs):∀x∈a::adr r,∃l,H x=some (.lst l):=λx b=>by
 rcases apJ.mp b with rfl|b;.exact⟨_,S.top⟩
 .exact S.frs.there x b
structure RK(B:Bx)(j:Nat)(a:Addr)(g:List (Nat×Addr))(r:List (Addr×Addr))(fs:Fs)(σ:Ws)(σV:L2.St)(F H:Hp):Prop where
 rs:RS B σ σV F H
 no:σ[j]?=some .no
 at_:σV[j]?=some (some (.ref a))st:Stk B F H a r fs
 ap:∀(k:Nat)(ws:List VW)(x:Addr),σ[k]?=some (.ow ws)->σV[k]?=some (some (.ref x))->x∉a::adr r
 fx:∀p∈g,σV[p.1]?=some (some (.ref p.2))
variable{g:List (Nat×Addr)}{j:Nat}{σ:Ws}{σV:L2.St}
open Classical in noncomputable def fzS(F H:Hp)(l:List Addr):Hp:=λx=>if x∈l then H x else F x
end
def OqK(B:Bx)(j:Nat)(a:Addr)(g:List (Nat×Addr))(D:Ends)(F:Hp):KO->Prop|.nx σ' fs'=>∀b d c e,RK B j a g e fs' σ' b c d->aC F c->D.nx b d|.rt w=>∀v d c,RB B c d->aC F c->RW B.K c w v->D.rt v d|.bad=>False
section
variable{B:Bx}{g:List (Nat×Addr)}{j:Nat}{a:Addr}{r:List (Addr×Addr)}{fs:Fs}{σ:Ws}{σV:L2.St}{F H F' H':Hp}{D:Ends}
def OqK.mono(s:aC F F'){o:KO}(h:OqK B j a g D F o):OqK B j a g D F' o:=by cases o with|nx σ fs=>exact λσV H G r R z=>h σV H G r R (s.trans z)|rt w=>exact λv H G R z=>h v H G R (s.trans z)|bad=>exact h
def akr{g:List (Nat×Addr)}{σV:L2.St}{i:Nat}{v:Option V}(h:∀p∈g,σV[p.1]?=some (some (.ref p.2)))(c:∀p∈g,p.1≠i):∀p∈g,(σV.set i v)[p.1]?=some (some (.ref p.2)):=λp b=>by rw[apv (apO (c p b))];exact h p b
theorem RK.set(R:RK B j a g r fs σ σV F H){i:Nat}{w:VW}{v:V}(c:i≠j)(f:∀p∈g,p.1≠i)(hw:RW B.K F w v):RK B j a g r fs (σ.set i (.va w)) (σV.set i (some v)) F H:=by
 refine⟨R.rs.set hw,by rw[apv c];exact R.no,by rw[apv c];exact R.at_,R.st,λk ws x b d=>?_,akr R.fx f⟩;by_cases e:i=k
 .subst e;have h:i<σ.length:=by have:=(apC.mp b).1;simpa using this
  rw[apz h]at b;cases b
 .rw[apv e]at b d;exact R.ap k ws x b d
end
section
variable{B:Bx}{l:List Addr}{σ:Ws}{σV:L2.St}{F H F' H':Hp}
abbrev aoV(B:Bx)(H:Hp)(l:List Addr):Bx:=⟨B.K,fzS B.H0 H l,B.F0,B.xp,B.mono⟩
end
section
variable{P:Program}{w:World}{K:W.Frag}{mg:Str->Option Value}{base:Heap}
open Classical in end
end WS
namespace WS
open PySem PySem.Spec PyProof.Rows L2
open WL(Res Sl Ws EF TF AF LF GF GsF SF Out XF XA FS Fs KO KF OX RF Sr)
structure Rsc(S:Type)where
 adr:S->Addr
 rel:W.Frag->S->List Addr->Hp->Hp->Prop
 mono:∀{K s l F H F' H'},rel K s l F H->aC F F'->(∀x∈l,∀o,H x=some o->H' x=some o)->rel K s l F' H'
 there:∀{K s l F H},rel K s l F H->∀x∈l,∃o,H x=some o/\NF o/\∀xs,o≠.tup xs
 val:S->VW
 fz:∀{K s l F H a od kvs},rel K s l F H->(∀x∈l,F x=none)->F a=some (.dK kvs)->rel K s l (upd F a (zD od kvs)) (upd H a (zD od kvs))th:∀{K s l F H a od kvs},rel K s l F H->(∀x∈l,F x=none)->F a=some (zD od kvs)->rel K s l (upd F a (.dK kvs)) (upd H a (.dK kvs))rw:∀{K s l F H F'},rel K s l F H->aC F F'->(∀x∈l,∀o,H x=some o->F' x=some o)->RW K F' (val s) (.ref (adr s))
variable{S:Type}
structure RX(M:Rsc S)(B:Bx)(s:S)(l:List Addr)(σ:Ws)(σV:L2.St)(F H:Hp):Prop where
 rs:RS (aoV B H l) σ σV F H
 fr:∀x∈l,F x=none/\B.H0 x=none
 re:M.rel B.K s l F H
def OqX(M:Rsc S)(B:Bx)(D:Ends)(F:Hp):OX S->Prop|.nx σ' s'=>∀a d b e,RX M B s' e σ' a b d->aC F b->D.nx a d|.bk σ' s'=>∀a d b e,RX M B s' e σ' a b d->aC F b->D.bk a d|.ct σ' s'=>∀a d b e,RX M B s' e σ' a b d->aC F b->D.ct a d|.rt w s'=>∀v d b e,RB (aoV B d e) b d->(∀x∈e,b x=none/\B.H0 x=none)->M.rel B.K s' e b d->aC F b->RW B.K b w v->D.rt v d|.ex c σ'=>B.xp c σ' F|.bad=>False
section
variable{M:Rsc S}{B:Bx}{s:S}{l:List Addr}{σ:Ws}{σV:L2.St}{F H F' H':Hp}{D:Ends}{X:Cx}
theorem OqX.mono(k:aC F F'){o}(h:OqX M B D F o):OqX M B D F' o:=by cases o with|nx σ s|bk σ s|ct σ s=>exact λσV H G l R z=>h _ H G l R (k.trans z)|rt w s=>exact λv H G l R r q z=>h v H G l R r q (k.trans z)|ex c σ=>exact B.mono c σ F _ k h|bad=>exact h
theorem RX.there(R:RX M B s l σ σV F H):∀x∈l,∃o,H x=some o:=λx a=>let⟨o,h,_⟩:=M.there R.re x a;⟨o,h⟩
variable{st:Stmt}{rest ss:List Stmt}{t:SF}{t1 t2:RF S}
end
variable{S:Type}
section
variable{M:Rsc S}{B:Bx}{s:S}{l:List Addr}{σ σ1:Ws}{σV:L2.St}{F H F' H':Hp}{D:Ends}{X:Cx}{j:Nat}
open Classical in variable{c:Expr}{tt:TF}{st:Stmt}{ss ss':List Stmt}{t1 t2 b:RF S}{pos:Pos}
end
end WS
namespace WS
open PySem PySem.Spec PyProof.Rows L2
open WL(Res Sl Ws EF TF AF LF GF GsF SF Out XF XA FS Fs KO KF OX RF Sr)
variable{S:Type}
variable{S:Type}
open Classical in section
variable{P:Program}{w:World}{K:W.Frag}{mg:Str->Option Value}{base:Heap}{M:Rsc S}
end
end WS
namespace WS
open PySem PySem.Spec PyProof.Rows L2
open WL(Res Sl Ws EF TF AF LF GF GsF SF Out XF XA FS Fs KO KF OX RF Sr)
variable{S:Type}
variable{S:Type}
end WS
set_option autoImplicit true
set_option relaxedAutoImplicit true
namespace L2
open PySem PySem.Spec PyProof.Rows WS
section
variable{K:W.Frag}{F F' H:Hp}
def FKy.via{k a}(h:FKy K F k a)(s:∀b c,SqT K F b c->SqT K F' b c):FKy K F' k a:=by obtain⟨bs,d,e⟩:=h;exact⟨bs,s _ _ d,Paired.afT e λ_ _ z=>s _ _ z⟩
def FKy.keep{k a}(h:FKy K F k a)(s:aC F F'):FKy K F' k a:=h.via λ_ _ z=>s.tup z
end
end L2
namespace WS
open PySem PySem.Spec PyProof.Rows L2
open WL(Res Sl Ws EF TF AF LF GF GsF SF Out XF XA FS Fs KO KF OX RF Sr)
section
variable{P:Program}{w:World}{B:Bx}{s:Sr}{l:List Addr}{σ:Ws}{σV:L2.St}{F H:Hp}{D:Ends}{X:Cx}{i j:Nat}{st:Stmt}{c:Expr}{ss ss':List Stmt}{t1 t2:RF Sr}{pos:Pos}
set_option tactic.hygienic true
theorem OqX.at_{M o}(q:OqX M B D F (WL.at_ j σ s o)):σ[j]?=some (.va (.id s.a))/\OqX M B D F o:=by
 unfold WL.at_ at q;split at q
 .rename_i b e;split at q;.rename_i a;subst a;exact⟨e,q⟩
  .exact(q).elim
 .exact(q).elim
set_option tactic.hygienic false
end
end WS
set_option autoImplicit true
set_option relaxedAutoImplicit true
namespace WS
open PySem PySem.Spec PyProof.Rows L2
open WL(Res Sl Ws EF TF AF LF GF GsF SF Out XF XA FS Fs KO KF OX RF Sr)
theorem abE :∀{fs:List (Str×V)}{n:Nat},(fs.map (·.1)).Nodup->fs[n]?=some (f,v)->fs.lookup f=some v
|[],_,_,e=>by simp at e|(g,u)::fs,0,_,e=>by grind|(g,u)::fs,n+1,nd,e=>by
 simp only[apU,aqz]at nd;have a:=by simpa using e
 have b:(f==g)=false:=aqq.mpr λz=>nd.1 (z▸aqi.mpr ⟨(f,v),arY a,rfl⟩);simp only[List.lookup,b];exact abE nd.2 a
def ahp:∀{fs:List (Str×V)},f∉fs.map (·.1)->fs.lookup f=none|[],_=>rfl|(g,u)::fs,h=>by grind
section
variable{X:Cx}{B:Bx}{fl m:Str}{c:String}{C f:Addr}{fd:FuncData}{ps:List Str}{k n:Nat}{fn:List VW->Res VW}{e o:Expr}{es:List Expr}{to:EF}{tas:AF}{pos:Pos}
set_option tactic.hygienic true
def fB(I:X.K=B.K)(E:W.nsIn X.K mainGlobals (Str.ofString c)=some (some (.ref C)))(cl:Cls X.K C)(G:fA X.K C fl)(nd:(WL.vx c).Nodup)(j:(WL.vx c)[n]?=some fl)(O:PE X o (lo B to))(K:attributeBase o fl X.env (eval o X.env)=eval o X.env:=by rfl):PE X (.Attribute o fl pos) (lo B (WL.kf c n to)):=PE.imp (afI O K) λA H Q p=>by
 obtain⟨σ,F,R,q⟩:=p;have q:=Rq.bind q;refine⟨σ,F,R,Rq.mono (aC.refl _) q λy b v M P u D i=>?_⟩;unfold WL.aid at b;split at b
 .rename_i Y ws;split at b
  .rename_i d;have d:=eq_of_beq d;subst d;split at b
   .rename_i w N;simp only[RW]at i;obtain⟨a,Z,J,S,rfl,T,x,s,_,r⟩:=i;rw[<-I,E]at x;cases x;obtain⟨v1,h,i⟩:=r.get N;rw[apX,aqe]at h;obtain⟨⟨g,z⟩,t,rfl⟩:=h;have U:g=fl:=by have:=aro (λl=>l[n]?) s;simp only[apX,t,j,asL]at this;exact apV this
    subst U;exact⟨a,C,J,_,z,rfl,u.rb.sub _ _ T,cl,G,abE (by rw[s];exact nd) t,b z M P u D i⟩
   .exact(b).elim
  .exact(b).elim
 .exact(b).elim
set_option tactic.hygienic false
def aei (t:X.K=B.K)(N:XW X B)(E:W.nsIn X.K mainGlobals (Str.ofString c)=some (some (.ref C)))(l:m∉WL.vx c)(D:∀σ ws,tas σ=.ok ws->ws.length+1=n):∀d H Q,lo B (WL.ke c fn to tas) d H Q->afn X C m (spX X.K n fn) [] (lo B to) (loA B tas) d H Q:=by
 intro d H Q⟨σ,F,R,q⟩;have q:=Rq.bind q;refine⟨σ,F,R,Rq.mono (aC.refl _) q λy b v U r p u w=>?_⟩;by_cases g:WL.isN c y=true
 .rw[apB g]at b;have b:=Rq.bind b;obtain⟨x,rfl⟩:∃x,y=.ins c x:=by
   unfold WL.isN at g;split at g;.rw[eq_of_beq g];exact⟨_,rfl⟩
   .cases g
  have h:=w;simp only[RW]at h;refine alU h λa P I K j M z A _ _=>?_;subst j;rw[<-t,E]at z;cases z;refine⟨a,I,_,rfl,p.rb.sub _ _ M,ahp (by rw[A];exact l),σ,r,p,?_⟩;cases i:tas σ with|bad=>rw[i]at b;exact b|ex c=>rw[i]at b;exact B.mono c σ F r u.f b|ok ws=>rw[i]at b;exact λS O T J s G=>wF t N J (u.trans s) (.cons (w.keep s.f) G) (by rw[apK];exact D σ ws i) b (by rw[aqf])
 .rw[apA g]at b;exact(b).elim
end
section
variable{S:Type}{M:Rsc S}{B:Bx}{s:S}{l:List Addr}{σ:Ws}{σV:L2.St}{F H F' H':Hp}{D:Ends}{X:Cx}{j:Nat}{st:Stmt}{rest:List Stmt}{t1 t2:RF S}
def OqE(B:Bx)(D:Ends)(F:Hp):OX S->Prop|.rt w _=>∀v H' F',RB B F' H'->aC F F'->RW B.K F' w v->D.rt v H'|.ex c σ'=>B.xp c σ' F|_=>False
theorem OqE.mono(k:aC F F'){o:OX S}(h:OqE B D F o):OqE B D F' o:=by cases o with|rt w s=>exact λv H G a z r=>h v H G a (k.trans z) r|ex c σ=>exact B.mono c σ F _ k h|_=>exact h
end
theorem RWs.erase{K F}:∀{ws vs}i,RWs K F ws vs->RWs K F (ws.eraseIdx i) (vs.eraseIdx i)|[],_,i,h=>by subst h;simp[RWs]|w::ws,_,0,h=>by obtain⟨v,r,rfl,_,h⟩:=h;exact h|w::ws,_,i+1,h=>by obtain⟨v,r,rfl,a,h⟩:=h;exact⟨v,_,rfl,a,RWs.erase i h⟩
section
variable{P:Program}{w:World}{K:W.Frag}{mg:Str->Option Value}{base:Heap}{k m n:Nat}{nm:Str}{ps N:List Str}{st:Stmt}{fn:List VW->Res VW}
abbrev MgA(K:W.Frag)(mg:Str->Option Value):Prop:=∀nm v,W.nsIn K mainGlobals nm=some (some v)->mg nm=some v
abbrev BdA(nm:Str)(ps:List Str)(st:Stmt):Prop:=∀(kV a d:Value)(e:Option Addr)(b ct:Value)(c:List Value),c.length=ps.length->bindArgs (W.fnOf nm nm (dE st) (bN st) (ah st) .none kV a d e b ct) ⟨c,[]⟩=pure (ps.zip c)
def AtD.dN(D:AtD K nm st)(q:MgA K mg)(t)(S:FnScope N ps (ah st))(h:∀{e f A g s H E B},B.K=K->Room k (A.deeper (envOfC nm (ah st) s.heap.objs.size f e))->XW (ky CX0 P w K mg base N nm (ah st) f e A g s H E).nox B->PassesOwn (model P w) (A.deeper (envOfC nm (ah st) s.heap.objs.size f e)) (envOfC nm (ah st) s.heap.objs.size f e) (λ_ _=>False)->PSs (ky CX0 P w K mg base N nm (ah st) f e A g s H E).nox (bN st) (loS B t))(r:BdA nm ps st:=by intro _ _ _ _ _ _ u h;first|exact bind1 (by intros;rfl) u h|exact ri (by intros;rfl) u h|exact ub (by intros;rfl) u h|exact akS (by intros;rfl) u h|exact akT (by intros;rfl) u h|exact akR (by intros;rfl) u h|exact akQ (by intros;rfl) u h)(o:N.length=n:=by rfl)(p:ps.length=m:=by rfl)(i:WL.run n t=fn:=by rfl)(j:ps.length<=N.length:=by decide):Cal P w K mg base CX0 (k+1) nm ps [] (spW K m fn):=D.cal q r λ_ _ l=>qY t l S o p i j λ_ _ _ _ _ _ _ a b c d=>h a b c d
def AtD.dX(D:AtD K nm st)(q:MgA K mg)(t)(S:FnScope N ps (ah st))(h:∀{g f A e s H E B},B.K=K->Room k (A.deeper (envOfC nm (ah st) s.heap.objs.size f g))->XW (ky (CXX P w) P w K mg base N nm (ah st) f g A e s H E) B->PassesOwn (model P w) (ky (CXX P w) P w K mg base N nm (ah st) f g A e s H E).A (ky (CXX P w) P w K mg base N nm (ah st) f g A e s H E).env (ky (CXX P w) P w K mg base N nm (ah st) f g A e s H E).xe->PSs (ky (CXX P w) P w K mg base N nm (ah st) f g A e s H E) (bN st) (loS B t))(r:BdA nm ps st:=by intro _ _ _ _ _ _ u h;first|exact bind1 (by intros;rfl) u h|exact ri (by intros;rfl) u h|exact ub (by intros;rfl) u h|exact akS (by intros;rfl) u h|exact akT (by intros;rfl) u h|exact akR (by intros;rfl) u h|exact akQ (by intros;rfl) u h)(o:N.length=n:=by rfl)(p:ps.length=m:=by rfl)(i:WL.run n t=fn:=by rfl)(j:ps.length<=N.length:=by decide):Cal P w K mg base (CXX P w) (k+1) nm ps [] (spX K m fn):=D.cal q r λ_ _ l=>qX t l S o p i j λ_ _ _ _ _ _ _ a b c d=>h a b c d
end
section
variable{X:Cx}{B:Bx}{x:Str}{pos:Pos}
def wki{i q}{w:VW}(a:B.K=X.K)(b:X.mg x=some (.int i q))(hw:w=.int i:=by rfl)(c:Gl X x:=by rfl)(d:Dbg x:=by decide):PE X (.Name x pos) (lo B (WL.eC w)):=by subst hw;exact wk a b ⟨_,rfl⟩ (v:=.int i) (λF=>rfl) c d
end
section
variable{X:Cx}{B:Bx}{z:Addr}{j i:Nat}{σ:Ws}{σV:L2.St}{F H:Hp}{st:Stmt}{e:Expr}{xa xv xk:XF}{x:Str}{pos pos':Pos}
theorem RR.write(R:RR B z j σ σV F H){ws us:List VW}{vs zs:List V}{a:Addr}(b:i≠j)(e:σ[i]?=some (.ow ws))(n:σV[i]?=some (some (.ref a)))(s:F a=none)(g:B.H0 a=none)(d:H a=some (.lst vs))(t:RWs B.K F us zs):RR B z j (σ.set i (.ow us)) σV F (upd H a (.lst zs)):=by
 refine lD R.rm λst p h l f r=>?_;have o:z≠a:=λw=>by subst w;rw[f]at d;cases d
 refine⟨?_,R.zs,R.nf,R.n0,λk m c q=>R.apd k m c (xj (sl:=.ow us) b (λz=>z) q).2,st,p,by rw[apv b];exact h,l,by rw[ak o];exact f,r⟩;rw[aqC _ _ b];exact R.rs.write (R.own b e) n s g d t
set_option tactic.hygienic true
def aiq(h:PE X e (tBM X.K "list" afw (kx i) (ji (loY B z j xa) aaE)))(m:i≠j:=by decide):PE X e (loY B z j (WL.z7 i xa)):=PE.imp h λσV H Q⟨σ,F,R,q⟩=>by unfold WL.z7 at q;cases l:σ[i]? with|none=>rw[l]at q;exact q.elim|some sl=>rw[l]at q;cases sl with
|ow ws0=>refine lP (R.rs.ow i ws0 (R.own m l)) λa g d _ _ S _=>?_;have q:=Xq.bind (show Xq ((xa σ).bind λp=>WL.alf i p.1 p.2 p.2[i]?) _ from q);refine⟨.ref a,d,.inl ⟨rfl,g,SqL.of S⟩,σ,F,R,Xq.mono q λp b v Z J k M r=>?_⟩;cases c:p.2[i]? with|none=>rw[c]at b;exact b.elim|some sl=>
  rw[c]at b
  cases sl with|ow ys=>
   refine lP (k.rs.ow i ys (k.own m c)) λa' s o G P t f=>?_;rw[d]at o;cases o;unfold WL.alf at b;dsimp only at b;split at b
   .rename_i n I;rw[I]at r;split at b
    .rename_i T;obtain⟨K,O,k2⟩:=T;split at b
     .rename_i y w;refine fO (f.get w) λu C D=>?_;have N:=f.length;have U:WL.lim<=2^62:=by decide
      have E:n<(s.length:Int):=by rw[<-N];exact O
      subst r;refine ao0 a s n n.toNat u rfl rfl t (by omega) (by omega) ?_ C ?_
      .have A:¬n<0:=by omega
       simp[seqIndex?,A,K,E]
      .exact(show∀v H' Y,_ from b) u _ J (k.write m c d G P t (f.erase n.toNat)) M D
     .exact b.elim
    .exact b.elim
   .exact b.elim|_=>exact b.elim
|_=>exact q.elim
set_option tactic.hygienic false
def agi{a}(I:X.N.Nodup)(f:i≠j:=by decide)(N:X.N[i]?=some x:=by rfl)(M:Loc X.env.scope x:=by first|exact Or.inl rfl|exact Or.inr rfl)(hs:swapsWith (.Dict [] [] a) (some (.Name x pos')) pos.line X.env=pure false:=by rfl)(K:FL X x:=by first|exact .inl rfl|exact .inr rfl|assumption):PS X (.Assign [.Name x pos'] (.Dict [] [] a) pos) (loW B z j (WL.aaV i)):=PS.imp (pk I N M adW hs K) λD σV H⟨σ,F,R,q⟩=>by
 intro p c;refine lD R.rm λst E A J t r=>?_;have y:z≠p:=λw=>by subst w;rw[t]at c;cases c
 refine(show∀u P O,_ from q) _ _ F ⟨?_,by rw[apv f];exact R.zs,R.nf,R.n0,λk h m s d=>?_,st,E,by rw[apv f];exact A,J,by rw[ak y];exact t,r⟩ (aC.refl _);.rw[aqC _ _ f];refine(R.rs.anf c _).ao9 (R.rs.rb.sub.free c) (R.rs.rb.base.free c) av rfl rfl λk h m _ G C=>?_;refine lP (R.rs.dd.od k h m G) λb l o _ _ v _=>?_;rw[C]at o;cases o;rw[c]at v;cases v
 .by_cases n:i=k
  .subst n;have g:i<σV.length:=by have:=(apC.mp d).1;simpa using this
   rw[apz g]at d;cases d;exact y rfl
  .rw[apv n]at d;rw[aqC _ _ f,apv n]at s;exact R.apd k h m s d
def uo{o C b}(hu:X.A.units+1<cLine)(ho:PE X o (kx i))(hi:PE X C (loY B z j xk))(Z:PE X b (loY B z j xv))(h:i≠j:=by decide)(hs:swapsWith b (some (.Subscript o C pos')) pos.line X.env=pure false:=by rfl):PS X (.Assign [.Subscript o C pos'] b pos) (loW B z j (WL.i8 i xv xk)):=PS.imp (abd hu ho hi Z hs) λD σV H⟨σ,F,R,q⟩=>by unfold WL.i8 at q;cases J:σ[i]? with|none=>rw[J]at q;exact(show False from q).elim|some sl=>rw[J]at q;cases sl with
|od ks0 us0=>refine eg (R.rs.dd.od i ks0 us0 (by rw[apv (apO h)];exact J)) λa M g _=>?_;have q:=Ow.ofX (show Ow B z j D F (WL.ofX (xv σ) λp=>WL.ofX (xk p.2) λq=>WL.ag0 i p.1 q.1 q.2 q.2[i]?)from q);refine cE σ F R (Xq.mono q λp A v H1 F1 R1 s1 r1=>⟨.ref a,g,?_⟩);have A:=Ow.ofX A;refine cE p.2 F1 R1 (Xq.mono A λm c y H2 F2 R2 O P=>?_);cases K:m.2[i]? with
 |none=>rw[K]at c;exact(show False from c).elim
 |some sl=>rw[K]at c;cases sl with|od ks us=>
   have d:(m.2.set j .no)[i]?=some (.od ks us):=by rw[apv (apO h)];exact K
   refine akX (R2.rs.dd.od i ks us d) λa' t S k2 k3 N Q k6=>?_;rw[g]at S;cases S;have c:Ow B z j D F (if WL.abO m.1=true/\ks.length<WL.lim then .nx _ else .bad):=c;by_cases l:WL.abO m.1=true/\ks.length<WL.lim
   .rw[apB l]at c;obtain⟨a0,rfl⟩:=afV l.1 P;have hl:t.length<sizeLine:=by have:=Q.length;rw[apR]at this;rw[<-this];exact apE l.2 ik
    obtain⟨p1,G⟩:=agZ P (r1.keep O) Q k6;refine⟨a,_,rfl,ail.k N hl,(show∀T H' F',_ from c) σV _ F2 ?_ (s1.trans O)⟩;refine lD R2.rm λst ts Y E hZ r=>?_;have U:z≠a:=λw=>by subst w;exact R2.apd i ks us d g
    refine⟨?_,R2.zs,R2.nf,R2.n0,λk I n u s=>?_,st,ts,by rw[apv h];exact Y,E,by rw[ak U];exact hZ,r⟩;.rw[aqC _ _ h];exact R2.rs.aiA d g k2 k3 N p1 G
    .rw[aqC _ _ h]at u;by_cases f:i=k;.subst f;rw[g]at s;cases s;exact U rfl
     .rw[apv f]at u;exact R2.apd k I n u s
   .rw[apA l]at c;exact(show False from c).elim|_=>exact(show False from c).elim
|_=>exact(show False from q).elim
end
def aob(K:W.Frag)(c:String)(h:List Str)(x dx C:Addr)(F H:Hp)(Q:VK)(E:XK):Res VW->Prop|.ok (.ins c' ws)=>c'=c/\∀d a e,aC F a->aC a d->(∀b o,b≠x->H b=some o->d b=some o)->d x=some (.ins C dx e)->a x=none->(∀b o,a b=some o->F b=some o\/(b=x\/H b=none)/\NF o)->e.map (·.1)=h->RWs K a ws (e.map (·.2))->Q .non d|.ex c=>∀g f d a,aC F a->aC a d->(∀b o,b≠x->H b=some o->d b=some o)->(∀b o,a b=some o->F b=some o\/(b=x\/H b=none)/\NF o)->XR K a c g f->E (.ref g) f d|_=>False
def spN(K:W.Frag)(c:String)(a:List Str)(e:List VW->Res VW):Sp:=λd H Q E=>∃x b C F w v,d=[.ref x,v]/\H x=some (.ins C b [])/\Cls K C/\(∀f∈a,fA K C f)/\F x=none/\aC F H/\RW K F w v/\aob K c a x b C F H Q E (e [w])
section
variable{P:Program}{w:World}{K:W.Frag}{mg:Str->Option Value}{base:Heap}
def aew{nm B st f fd U Z k N Y R c d i G g1 g2}(Fn:Fun K nm B st f fd)(Sc:FnScope [U,Z] [U,Z] (ah st))(b1:bN st=[N,Y,R])(a1:d≠i)(b2:d≠G)(a7:i≠G)(h:∀I A a s H E X,X=ky (CXX P w) P w K mg base [U,Z] B (ah st) f I A a s H E->Room k X.A->PS X N (ak9 K (kx 0) (kx 1) d)/\PS X Y (ak9 K (kx 0) (wu X (spX K 1 g1) [] (ji (kx 1) aaE)) i)/\PS X R (ak9 K (kx 0) (yu (spW K 2 g2) [] (λ_ _ _=>False) (ji (kx 1) (ji (aon K (kx 0) i) aaE))) G)):FnOk P w K mg base (CXX P w) (k+1) f fd [U,Z] (spN K c [d,i,G] (WL.aoq c g1 g2)):=by
 refine aip Fn.ex λoc od b5 b4 pm an I ct b3 a6 lk a5=>?_;subst a6;refine ahz lk a5 Sc λvs H Q E S=>by obtain⟨x,J,C,F,w,v,e,_⟩:=S;rw[e];rfl λA a s H vs Q E hr _ S=>?_;refine aoY S λx J C F M v e hH cl na hF sm r l=>?_;subst e;obtain⟨X,eX⟩:∃X,X=ky (CXX P w) P w K mg base [U,Z] B (ah st) f I A a s H E:=⟨_,rfl⟩;rw[<-eX];refine age (h I A a s H E X eX (by rw[eX];exact hr)) λh1 h2 h3=>?_;rw[b1];have p1:pj d v []=[(d,v)]:=rfl;have p2:∀n,pj i n [(d,v)]=[(d,v),(i,n)]:=λn=>by simp[pj,a1]
 have p3:∀n v3,pj G v3 [(d,v),(i,n)]=[(d,v),(i,n),(G,v3)]:=λn v3=>by simp[pj,b2,a7]
 have lx:∀O s e Ce D T H',Thr X O (L2.start [U,Z] [.ref x,v]) H' s e Ce D .none (some T)->E (.ref Ce) D H'->X.xe (.ref e) s:=λO s e Ce D T H' t q=>by subst eX;exact abK t q
 refine⟨_,eK h1 (eK h2 (kY h3)),?_⟩;refine⟨v,rfl,.ref x,rfl,x,C,J,[],rfl,hH,cl,na d (by simp),by simp,?_⟩;rw[p1];have j:∀{F H:Hp}{o:HO},F x=none->aC F H->aC F (upd H x o):=λhF sm b u q=>by rw[ak λz=>by rw[z,hF]at q;cases q];exact sm b u q
 have l:aob K c [d,i,G] x J C F H Q E ((g1 [M]).bind λp=>match g2 [M,p]with|.ok m=>.ok (.ins c [M,p,m])|_=>.bad):=l;refine⟨v,rfl,E,zN F [M] (j hF sm) (RWs.one r) rfl ?_,lx⟩
 cases e1:g1 [M]with|bad=>rw[e1]at l;exact l.elim|ex ce=>
  rw[e1]at l;intro Ce D H' F' N Y R fr xr;refine l Ce D H' F' N Y (λb o g q=>R b o (by rw[ak g];exact q)) (λb o q=>(fr b o q).imp id λz=>⟨?_,z.2⟩) xr;by_cases g:b=x;.exact .inl g
  .have:=z.1;rw[ak g]at this;exact .inr this|ok p=>
  rw[e1]at l;intro n H1 F1 N Y R fr rp;have a9:H1 x=some (.ins C J [(d,v)]):=R x _ av;have a3:F1 x=none:=by cases e:F1 x with|none=>rfl|some o=>
    rcases fr x o e with z|z;.rw[hF]at z;cases z
    .have:=z.1;rw[av]at this;cases this
  have b0:∀b o,F1 b=some o->F b=some o\/(b=x\/H b=none)/\NF o:=λb o q=>(fr b o q).imp id λz=>⟨by
   by_cases g:b=x;.exact .inl g
   .have:=z.1;rw[ak g]at this;exact .inr this,z.2⟩;have a0:∀b o,b≠x->H b=some o->H1 b=some o:=λb o g q=>R b o (by rw[ak g];exact q);refine⟨.ref x,rfl,x,C,J,[(d,v)],rfl,a9,cl,na i (by simp),by simp,?_⟩;rw[p2];have l:aob K c [d,i,G] x J C F H Q E (match g2 [M,p]with|.ok m=>.ok (.ins c [M,p,m])|_=>.bad):=l;refine⟨v,rfl,.ref x,rfl,x,C,J,[(d,v),(i,n)],n,rfl,av,cl,na i (by simp),by simp[List.lookup,aqq.mpr (apO a1)],zN F1 [M,p] (j a3 Y) ?_ rfl ?_⟩;.exact .cons (r.keep N) (RWs.one rp)
  cases e2:g2 [M,p]with|bad|ex ce=>rw[e2]at l;exact l.elim|ok m=>
   rw[e2]at l;intro v3 H2 F2 t1 t2 t3 a2 rm;have a8:H2 x=some (.ins C J [(d,v),(i,n)]):=t3 x _ av;have a4:F2 x=none:=by cases e:F2 x with|none=>rfl|some o=>
     rcases a2 x o e with z|z;.rw[a3]at z;cases z
     .have:=z.1;rw[av]at this;cases this
   refine⟨.ref x,rfl,x,C,J,[(d,v),(i,n)],rfl,a8,cl,na G (by simp),by simp,?_⟩;rw[p3];refine l.2 _ F2 [(d,v),(i,n),(G,v3)] (N.trans t1) (j a4 t2) (λb o g q=>?_) av a4 (λb o q=>?_) rfl ?_;.rw[ak g];exact t3 b o (by rw[ak g];exact a0 b o g q)
   .rcases a2 b o q with z|z;.exact b0 b o z
    .refine .inr ⟨?_,z.2⟩;by_cases g:b=x;.exact .inl g
     .have y:=z.1;rw[ak g]at y;cases e:H b with|none=>exact .inr rfl|some u=>rw[a0 b u g e]at y;cases y
   .exact .cons ((r.keep N).keep t1) (.cons (rp.keep t1) (RWs.one rm))
end
section
variable{X:Cx}{B:Bx}{x:Str}{c:String}{C f:Addr}{fd:FuncData}{ps fl:List Str}{k:Nat}{fn:List VW->Res VW}{e:Expr}{es:List Expr}{tas:AF}{p pos pos':Pos}
def adi(hK:X.K=B.K)(hx:XW X B)(M:Mk X.K C f)(cl:Cls X.K C)(na:∀f∈fl,fA X.K C f)(a9:fl≠[])(a7:W.nsIn X.K mainGlobals (Str.ofString c)=some (some (.ref C)))(a8:WL.vx c=fl)(G:FnOk X.prog X.w X.K X.mg X.base (CXX X.prog X.w) k f fd ps (spN X.K c fl fn))(hr:Room (k+1) X.A)(hg:Gl X x)(hm:X.mg x=some (.ref C))(hb:Binds X.K fd ps [])(ha:PA X (e::es) (loA B tas))(hn:∀σ ws,tas σ=.ok ws->ws.length=1:=by repeat first|exact je|apply cL)(a2:Dbg x:=by decide)(he:SE X e es:=by rfl)(a6:BT X pos es:=by rfl):PE X (.Call (.Name x p) (e::es) [] pos) (lo B (WL.nP c fn tas)):=PE.imp (adU M G hr hg hm hb .nil ha a2 he a6) λD H Q b1=>by refine eg b1 λσ F R q=>?_;have q:=Rq.bind q;refine cE σ F R ?_;cases ea:tas σ with|bad|ex c=>rw[ea]at q;exact q|ok ws=>
 rw[ea]at q;have hl:=hn σ ws ea;obtain⟨w,rfl⟩:∃w,ws=[w]:=by match ws,hl with|[w],_=>exact⟨w,rfl⟩
 have q:=Rq.bind (show Rq B σ F ((fn [w]).bind λy=>if WL.isN c y=true then Res.ok y else .bad) _ from q);intro vs A d j g1 r1 x i l a1 b2;refine fO (fS r1) λv a3 r3=>?_;subst a3;rw[aqf];have P:∀b o,A b=some o->b≠x/\b≠i/\upd (upd A i (.own x)) x (.ins C i []) b=some o:=λb o z=>by
  have O:b≠x:=λy=>by rw[y,l]at z;cases z
  have I:b≠i:=λy=>by rw[y,a1]at z;cases z
  exact⟨O,I,by rw[ak O,ak I];exact z⟩
 have ext:∀{a h:Hp},aC (noI d) a->aC a h->(∀b o,b≠x->upd (upd A i (.own x)) x (.ins C i []) b=some o->h b=some o)->(∀b o,a b=some o->noI d b=some o\/(b=x\/upd (upd A i (.own x)) x (.ins C i []) b=none)/\NF o)->Gr d A (jo d a) h/\RB B (jo d a) h/\aC a (jo d a):=λ{a h}s1 K Y fr=>by
  have sH:aC A h:=λb o z=>Y b o (P b o z).1 (P b o z).2.2;have a0:∀b o,a b=some o->d b=none->A b=none/\NF o:=λb o z n=>by
   rcases fr b o z with y|⟨y,nf⟩;.rw[abx y]at n;cases n
   .refine⟨?_,nf⟩;rcases y with y|y;.rw[y];exact l
    .cases g:A b with|none=>rfl|some u=>rw[(P b u g).2.2]at y;cases y
  refine⟨⟨λb o z=>akd z,sH,λb o z n=>?_⟩,⟨λb o z=>?_,j.rb.base.trans sH,λb o z=>akd (j.rb.fz0 b o z),λb o z=>?_⟩,λb o z=>?_⟩;.rw[akc n];cases e2:a b with|none=>rfl|some u=>rw[(a0 b u e2 n).1]at z;cases z
  .cases g:d b with|some u=>rw[akd g]at z;cases z;exact sH b _ (j.rb.sub b _ g)|none=>rw[akc g]at z;exact K b o z
  .cases g:d b with|some u=>rw[akd g]at z;cases z;exact j.rb.fr b _ g|none=>rw[akc g]at z;obtain⟨O,I⟩:=a0 b o z g;exact .inr ⟨j.rb.base.free O,I⟩
  .cases g:d b with|none=>rw[akc g];exact z|some u=>have O:=sH b _ (j.rb.sub b _ g);have I:=K b o z;rw[O]at I;cases I;exact akd g
 have U:d x=none:=j.rb.sub.free l;refine⟨λCe r h=>∃Ca a c,Ce=.ref Ca/\RS B σ D a h/\B.xp c σ a/\XR B.K a c Ca r,?_,λZ s e Ce r T H' t⟨Ca,a,c,ec,R2,xp,xr⟩=>?_⟩
 .refine aoZ x i C (noI d) w v rfl av cl na ?_ (λb o z=>?_) ?_ ?_;.cases g:noI d x with|none=>rfl|some u=>have:=j.rb.sub x _ (abx g);rw[l]at this;cases this
  .exact(P b o (j.rb.sub b o (abx z))).2.2
  .rw[hK];exact RW.one ((RWs.one r3).anq λb o z=>ajO z)
  .cases ef:fn [w]with|bad=>rw[ef]at q;exact q|ok wd=>
    rw[ef]at q;have q:Rq B σ F (if WL.isN c wd=true then Res.ok wd else .bad) _:=q;by_cases N:WL.isN c wd=true
    .rw[apB N]at q;obtain⟨ws,rfl⟩:∃ws,wd=.ins c ws:=by
      unfold WL.isN at N;split at N;.rw[eq_of_beq N];exact⟨_,rfl⟩
      .cases N
     refine⟨rfl,λh a m s1 K Y a5 b0 fr E a4=>?_⟩;have S:m≠[]:=λz=>by rw[z]at E;exact a9 E.symm
     obtain⟨J,rb,sj⟩:=ext s1 K Y fr;have fx:jo d a x=none:=by rw[akc U];exact b0
     have nf:NF (.ins C i m):=by cases m with|nil=>exact(S rfl).elim|cons _ _=>trivial
     have R3:RS B σ D (upd (jo d a) x (.ins C i m)) h:=(j.grow J rb).apm fx (j.rb.base.free l) a5 nf (λ_ z=>nomatch z) λ_ z=>nomatch z;refine⟨rfl,(show∀v H' F',_ from q) (.ref x) h _ R3 (g1.trans ⟨J.f.trans (aD fx _),J.h,λb o z n=>?_⟩) ?_⟩;.rw[ak (P b o z).1];exact J.nf b o z n
     .exact⟨x,C,i,m,rfl,av,hK▸a7,by rw[a8];exact E,S,(show RWs B.K a ws _ from hK▸a4).keep (sj.trans (aD fx _))⟩
    .rw[apA N]at q;exact q.elim|ex c=>rw[ef]at q;intro Ce r h a s1 K Y fr xr;obtain⟨J,rb,sj⟩:=ext s1 K Y fr;exact rE Ce (jo d a) c rfl (j.grow J rb) (B.mono c σ F _ (g1.f.trans J.f) q) ((hK▸xr).keep sj)
 .cases ec;exact hx Z D H' s σ a c R2 xp e Ce r (some T) _ t (by rw[hK];exact xr)
end
end WS
namespace L2
open PySem PySem.Spec PyProof.Rows
section
variable{X:Cx}
def aja:V->List V->Hp->VK->Prop:=λx d H Q=>∃l b a c,x=.ref l/\d=[.ref b]/\H l=some (.lst a)/\Rd H b (.lst c)/\a.length+c.length<=sizeLine/\Q .non (upd H l (.lst (a++c)))
def ahm:MtM X "list.extend" aja:=by
 intro j s σ H x D v C Q I w t h;refine alU h λl b K M f g m y G q=>?_;subst f g;cases w;obtain⟨u,rfl,o⟩:=t.one;cases o;obtain⟨z,c,n,r,E,e⟩:=I.ank m;obtain⟨J,a,B,k,A⟩:=y.ok I.hok;have p:=k.length;have i:c.toArray.size+a.toArray.size<=sizeLine:=by grind
 have d:¬(!c.toArray.isEmpty&&Builtin.List.listTooLong (c.toArray.size+a.toArray.size))=true:=by rw[ad6 i,Bool.and_false];exact apW
 refine asV F.slot_list_extend ⟨_,e,rfl⟩ F.entry_list_extend (F.args_list_extend_2 _ _) (AutoSeq1.list_extend_list_list_0 l c.toArray n b a.toArray B d (by rw[ap5];omega) (by omega)) ⟨e,A,.non,_,I.anl m e (by simp) (r.append k) ?_,rfl,q⟩;rw[aqc];omega
end
end L2
namespace WS
open PySem PySem.Spec PyProof.Rows L2
open WL(Res Sl Ws EF TF AF LF GF GsF SF Out XF XA FS Fs KO KF OX RF Sr)
section
variable{X:Cx}{B:Bx}{st:Stmt}{i:Nat}{ta:EF}
def aiz(y:X.K=B.K)(g:noL X.K=true)(h:PS X st (yt (tBM X.K "list" aja (kx i) (ji (lo B ta) aaE)))):PS X st (loS B (WL.ala i ta)):=PS.imp h λD f H m=>by refine eg m λσ F R q=>?_;have q:Oq B D F (match σ[i]? with|some (.ow ws)=>WL.ofR σ (ta σ) _|_=>.bad):=q;cases d:σ[i]? with|none=>rw[d]at q;exact q.elim|some sl=>rw[d]at q;cases sl with|no|va _|od _ _|ob=>exact q.elim|ow ws=>
  refine lP (R.ow i ws d) λa n o C z l p=>?_;have q:=Oq.ofR q;refine⟨.ref a,o,.inl ⟨rfl,n,SqL.of l⟩,σ,F,R,Rq.mono (aC.refl _) q λw c v G x s e A=>?_⟩
  cases w with|lst zs=>
  refine hJ A λb E j r t=>?_;subst j;have c:Oq B D F (if ws.length+zs.length<=WL.lim then Out.nx _ else .bad):=c;by_cases k:ws.length+zs.length<=WL.lim;.rw[apB k]at c;have u:=e.h a _ l;rw[<-y]at r;exact⟨a,b,n,E,rfl,rfl,u,s.rb.sub.rd (SqL.here g r),by rw[<-p.length,<-t.length];exact apD k ik,c f _ x (s.write d o (e.nf a _ l C) z u ((p.keep e.f).app t)) e.f⟩
  .rw[apA k]at c;exact(c).elim|_=>exact(show False from c).elim
end
end WS
namespace L2
open PySem PySem.Spec PyProof.Rows PySem.W
section
variable{P:Program}{w:World}{H H':Hp}{h h':Heap}{a:Addr}{o:HO}
theorem dH.some(x:dH P w H h a o):∃u,h.get? a=some u:=by cases o with|lst xs=>obtain⟨_,_,_,_,e⟩:=x;exact⟨_,e⟩|tup xs=>obtain⟨_,_,_,o,e,_⟩:=x;exact⟨_,e⟩|dK kvs|dT kvs=>obtain⟨_,_,_,_,o,_,_,e,_⟩:=x;exact⟨_,e⟩|set S n=>refine alV x λo _ _ _ e _=>?_;exact⟨_,e⟩|ins C dx fs=>refine akY x λ_ _ _ e _=>?_;exact⟨_,e⟩|own y=>exact x|xd fs=>obtain⟨_,⟨_,_,_,e,_⟩,_⟩:=x;exact⟨_,e⟩|rng lo hi=>obtain⟨_,_,_,e⟩:=x;exact⟨_,e⟩|frz ob u=>exact⟨_,x.1⟩|tbl ps|met f y=>exact⟨_,x⟩|ext φ=>exact x.2.1
end
def ajN{h:Heap}{L:Addr}{m f:Str->Option Value}(a:h.Ns L m)(b:h.Ns L f):m=f:=by refine vW a λo q p l i _ k=>?_;refine vW b λn j g d c _ e=>?_;rw[l]at d;cases d;rw[i]at c;cases c;funext x;rw[<-k,<-e]
section
variable{X:Cx}{pins:List (Addr×Obj)}{σ:List (Option V)}{H:Hp}{s:Shared}{h':Heap}
def Inv.ant{D:Addr}{m:Str->Option Value}{ys:List V}{its:List Value}{n:Nat}(I:Inv X pins σ H s)(l:s.heap.Ns X.env.locals m)(F:Fr X.base X.env.locals h' m)(N:News X.base X.env.locals h' ((D,listOf its.toArray n)::lC X.base s.heap X.env.locals))(g:∀q∈lC X.base s.heap X.env.locals,q.1<D)(p:Vals ys its)(hz:ys.length<=sizeLine):H D=none/\Inv X pins σ (upd H D (.lst ys)) {s with heap:=h'}:=by
 have h:=N _ (.head _);have i:s.heap.get? D=none:=by cases e:s.heap.get? D with|none=>rfl|some o=>exact absurd (g _ (jx h.2.1 h.2.2 e)) (aqP _)
 have j:H D=none:=by cases e:H D with|none=>rfl|some u=>obtain⟨o,z⟩:=(I.hok D u e).some;rw[i]at z;cases z
 have keep:∀b o,b≠X.env.locals->s.heap.get? b=some o->h'.get? b=some o:=λb o d e=>by cases q:X.base.get? b with|some u=>have:=I.bk b u q;rw[e]at this;cases this;exact F.keep b _ q|none=>exact(N (b,o) (.tail _ (jx d q e))).1
 have a:∀b u,H b=some u->b≠D:=λb u e z=>by rw[z,j]at e;cases e
 refine⟨j,I.aaH (g':=s.gens) (t':=s.toks) (d':=s.drawn) (ch:=[]) (λ_ z=>nomatch z) (λb o d _ _ e _=>keep b o d e) (λb o d _ _ e _=>⟨o.slots,keep b o d e⟩) (λb o _ e n=>?_) (λb o _ e=>?_) (λb r e=>?_) (λb o u e=>?_) (λb w e=>⟨#[],?_⟩) (λx t=>?_) (λb u e=>?_) I.bare⟩;.rw[ak λz=>by rw[z,i]at e;cases e];exact n
 .by_cases d:b=X.env.locals;.refine x9 F.ns λk _ _ z _=>?_;rw[d];exact⟨k,z⟩
  .exact⟨o,keep b o d e⟩
 .rw[ak (a b _ e)];exact e
 .rw[ak (a b _ e)];exact e
 .rw[ak (a b _ e),e];simp
 .rw[<-ajN l t];exact F.ns
 .by_cases d:b=D;.subst d;rw[av]at e;cases e;exact⟨hz,its,n,p,h.1⟩
  .rw[ak d]at e;refine(I.hok b u e).wC (λc v f q=>keep c v ?_ q) (λc q=>?_) λc r q=>?_
   .intro z;rcases f with f|f;.rw[<-f,z,I.free]at e;cases e
    .rw[z,I.free]at f;cases f
   .rw[ak (a c _ q)];exact q
   .rw[ak (a c _ q)];exact q
end
abbrev an9(K:W.Frag)(H:Hp):List V->List (Int×Int)->Prop:=Paired λv q=>∃a,v=.ref a/\SqT K H a [.int q.1,.int q.2]
abbrev gm(h:Heap):List Value->List (Int×Int)->Prop:=Paired λu q=>∃a o n b c,u=.ref a/\h.get? a=some o/\o.cls=.type "tuple"/\o.data=.seq #[.int q.1 b,.int q.2 c] n
theorem rN{X:Cx}{pins σ H s}(I:Inv X pins σ H s):∀{vs ps its},an9 X.K H vs ps->Vals vs its->gm s.heap its ps|_,_,_,.nil,.nil=>.nil|_,_,_,.cons h t,.cons r rs=>by refine .cons ?_ (rN I t rs);obtain⟨a,rfl,g⟩:=h;cases r;obtain⟨its,e,⟨o,k,b,n,d⟩,_⟩:=I.tuple g;obtain⟨u,l,rfl,⟨c,i⟩,⟨f,j⟩⟩:=vals2 e;subst i j;exact⟨a,o,n,c,f,rfl,k,b,d⟩
theorem gm.get{h:Heap}:∀{its ps},gm h its ps->∀i,i<ps.length->∃a o n b c,its.getD i Value.none=.ref a/\h.get? a=some o/\o.cls=.type "tuple"/\o.data=.seq #[.int (ps.getD i (0,0)).1 b,.int (ps.getD i (0,0)).2 c] n|_,_,.nil,i,hi=>absurd hi (aqX _)|_,_,.cons h t,0,_=>h|_,_,.cons h t,i+1,hi=>by have:=gm.get t i (by simpa using hi);simpa using this
theorem gm.len{h:Heap}:∀{its ps},gm h its ps->its.length=ps.length|_,_,.nil=>rfl|_,_,.cons _ t=>by simp[gm.len t]
theorem gm.kat{h:Heap}:∀{its ps},gm h its ps->∃fs,KatTups h its fs/\fs.length=ps.length/\∀v∈fs,∃i t,v=Value.int i t
|_,_,.nil=>⟨[],.nil,rfl,λ_ z=>nomatch z⟩|_,_,.cons h t=>by
 refine alT h λa o n l m b e d f=>?_;subst b;refine jK (gm.kat t) λfs k j g=>?_;refine⟨_::fs,.cons e d f rfl k,by simp[j],λv c=>?_⟩;rcases apJ.mp c with rfl|c;.exact⟨_,_,rfl⟩
 .exact g v c
section
variable{prog:Program}{w:World}{A:Around}{s:Shared}
def ae2{its ps i j}{C:Bool->Shared->Prop}(T:gm s.heap its ps)(l:i<ps.length)(f:j<ps.length)(h:C (WL.ltP (ps.getD i (0,0)) (ps.getD j (0,0))) s):kas_ask prog w A (tuples' true) its i j C s:=by
 refine alT (T.get i l) λa o n v y e p u k=>?_;refine alT (T.get j f) λz x B t m g c r b=>?_;unfold kas_ask;rw[e,g];refine kat_lt p k c b ?_;show KatLex prog w A true (decide (2<2)) C [(_,_),(_,_)] 0 s;refine kat_cons (asy (kat_go (λq=>kat_yes (kat_cons (asy (kat_go (λd=>kat_yes (kat_nil ?_)) λd=>kat_no ?_)))) λq=>kat_no ?_))
 .have:WL.ltP (ps.getD i (0,0)) (ps.getD j (0,0))=false:=by unfold WL.ltP;rw[apB q,eq_of_beq d];exact ap1 (Int.lt_irrefl _)
  rw[this]at h;exact h
 .have:WL.ltP (ps.getD i (0,0)) (ps.getD j (0,0))=decide ((ps.getD i (0,0)).2<(ps.getD j (0,0)).2):=by unfold WL.ltP;rw[apB q]
  rw[this]at h;exact kat_one _ _ (lt_int h)
 .have:WL.ltP (ps.getD i (0,0)) (ps.getD j (0,0))=decide ((ps.getD i (0,0)).1<(ps.getD j (0,0)).1):=by unfold WL.ltP;rw[apA (by rw[q];simp)]
  rw[this]at h;exact oneLt_int h
theorem sC{its ps}{G:Array Nat->Shared->Prop}(T:gm s.heap its ps):∀t:KasT (Array Nat),WL.okT ps.length t=true->G (WL.ah4 (λi j=>WL.ltP (ps.getD i (0,0)) (ps.getD j (0,0))) t) s->t.kasWp (kas_ask prog w A (tuples' true) its) G s
|.ret p,_,h=>h|.ask i j k,ok,h=>by
 have ok:(decide (i<ps.length)&&decide (j<ps.length)&&WL.okT ps.length (k true)&&WL.okT ps.length (k false))=true:=ok;simp only[apT,ap3]at ok;refine ae2 T ok.1.1.1 ok.1.1.2 ?_;refine sC T (k _) ?_ h;cases WL.ltP (ps.getD i (0,0)) (ps.getD j (0,0));.exact ok.2
 .exact ok.1.2
end
theorem sD{n c}:∀t:KasT (Array Nat),WL.okT n t=true->(WL.ah4 c t).size=n
|.ret p,h=>eq_of_beq h|.ask i j k,h=>by
 have ok:(decide (i<n)&&decide (j<n)&&WL.okT n (k true)&&WL.okT n (k false))=true:=h;simp only[apT,ap3]at ok;refine sD (k (c i j)) ?_;cases c i j;.exact ok.2
 .exact ok.1.2
theorem aas:∀(l:List Nat){vs its},Vals vs its->Vals (l.map λi=>vs.getD i V.non) (l.map λi=>its.getD i Value.none)|[],_,_,_=>.nil|i::l,vs,its,r=>by refine .cons ?_ (aas l r);simp only[apx];cases e:vs[i]? with|some v=>obtain⟨u,b,a⟩:=r.get e;rw[b];exact a|none=>
   have:its[i]?=none:=by rw[asx]at e⊢;rw[<-r.length];exact e
   rw[this];rfl
def tU{X:Cx}:bV X (.builtin "sorted") λM H Q=>∃p vs d,M=[.ref p]/\SqL X.K H p vs/\an9 X.K H vs d/\2<=d.length/\d.length<64/\WL.okT d.length (kas_sort d.length)=true/\∀l,H l=none->Q (.ref l) (upd H l (.lst ((WL.ixs d).map λi=>vs.getD i V.non))):=by
 intro C s σ H M us Q I rx⟨p,vs,d,e,w,U,h2,j,ok,q⟩;subst e;obtain⟨u,rfl,N⟩:=rx.one;cases show u=Value.ref p from N;refine jK (I.list w) λf J pl hz=>?_;have T:=rN I U J;have hl:=T.len;refine fO (id I.loc) λm r _=>?_;have F:Fr X.base X.env.locals s.heap m:=⟨r,I.bk,apD I.ok.bsz I.ok.above⟩;refine kat_sorted (vs:=f) F ad8 pl.isList (by omega) (by omega) λD e1 h A x g=>?_;have keep:∀b o,b≠X.env.locals->s.heap.get? b=some o->h.get? b=some o:=λb o Y e=>by cases q:X.base.get? b with|some u=>have:=I.bk b u q;rw[e]at this;cases this;exact A.keep b _ q|none=>exact(x (b,o) (.tail _ (jx Y q e))).1
 have E:gm h f d:=Paired.imp' (λu q⟨a,o,n,O,t2,z1,K,P,y⟩=>⟨a,o,n,O,t2,z1,keep a o (λz=>by refine x8 r λo' es ep B G _=>?_;rw[<-z,K]at B;cases B;rw[y]at G;cases G) K,P,y⟩) T;refine jK E.kat λfs kt fl fi=>?_;refine kat_kind (T:=.type "int") (s:={s with heap:=h}) kt (by omega) (λv R=>?_) (by decide) ?_;.obtain⟨i,t,rfl⟩:=fi v R;exact .now
 .rw[hl];refine sC (s:={s with heap:=h}) E _ ok ?_;refine KasFin.intro A x (.head λq w=>apM (g q w)) λZ c F2 N2=>?_;have k:(WL.ixs d).length=d.length:=by unfold WL.ixs;rw[ar9];exact sD _ ok
  obtain⟨S,I2⟩:=I.ant (ys:=(WL.ixs d).map λi=>vs.getD i V.non) r F2 N2 g (aas _ J) (by rw[apR,k];exact apD (arX j) (by decide));exact jJ (.ref D) _ I2 rfl (q D S)
end L2
namespace WS
open PySem PySem.Spec PyProof.Rows L2
open WL(Res Sl Ws EF TF AF LF GF GsF SF Out XF XA FS Fs KO KF OX RF Sr)
section
variable{X:Cx}{K:W.Frag}
set_option tactic.hygienic true
theorem wY{F:Hp}:∀{ws:List VW}{ps vs},WL.prs ws=some ps->RWs K F ws vs->an9 K F vs ps
|[],_,_,e,r=>by cases e;cases r;exact .nil|w::ws,ps,vs,e,r=>by
 obtain⟨v,l,rfl,q,t⟩:=r;unfold WL.prs at e;split at e;.rename_i h;cases h
 .rename_i a b d h;cases h;obtain⟨i,g,rfl⟩:=aqe.mp e;refine .cons ?_ (wY g t);obtain⟨x,o,rfl,j,c⟩:=q;obtain⟨m,n,rfl,f,k⟩:=two_of c;cases f;cases k;exact⟨x,rfl,j⟩
 .cases e
set_option tactic.hygienic false
theorem aft{F:Hp}:∀(l:List Nat){ws vs},RWs K F ws vs->RWs K F (l.map λi=>ws.getD i .non) (l.map λi=>vs.getD i V.non)|[],_,_,_=>rfl|i::l,ws,vs,r=>by refine .cons ?_ (aft l r);simp only[apx];cases e:ws[i]? with|some w=>obtain⟨v,b,a⟩:=r.get e;rw[b];exact a|none=>
   have:vs[i]?=none:=by rw[asx]at e⊢;rw[<-r.length];exact e
   rw[this];rfl
def zH:∀a c,WL.lO a≠.ex c:=λa c h=>by
 unfold WL.lO at h;split at h
 .split at h;.split at h<;>cases h
  .cases h
 .cases h
set_option tactic.hygienic true
def agw(k:X.K=K):bV X (.builtin "sorted") (loN K WL.lO):=by
 subst k;refine bV.imp tU λt H Q d=>?_;refine hJ d λF ws s r q=>?_;unfold WL.lO at q;split at q
 .rename_i p;split at q
  .rename_i f j;split at q;.rename_i c;simp only[apT,ap3]at c;refine fO (fS r) λv b h=>?_;subst b;refine hJ h λa g b n e=>?_;subst b;refine⟨a,g,f,rfl,s.seq n,Paired.imp' (λv q⟨x,m,o⟩=>⟨x,m,s.tup o⟩) (wY j e),c.1.1,c.1.2,c.2,λl i=>?_⟩;exact anM s q (aft _ e) i
   .exact q.elim
  .exact q.elim
 .exact q.elim
set_option tactic.hygienic false
end
section
variable{X:Cx}{B:Bx}{ta:EF}
def aaf{a:Expr}{p k pos b:Pos}(Y:X.K=B.K)(P:X.calm=true)(U:Gl X "list")(T:X.mg "list"=none)(z:Gl X "range")(t:X.mg "range"=none)(h:PE X a (lo B ta))(hs:starEach [a] X.env=[(false,eval a X.env)]:=by rfl)(s:starEach [a] X.env=(false,eval a X.env)::starEach [] X.env:=by rfl)(K:("list":Str)≠"__name__":=by decide)(m:(("list":Str)==("__debug__":Str))=false:=by decide)(J:starEach [Expr.Call (.Name "range" k) [a] [] b] X.env=(false,eval (.Call (.Name "range" k) [a] [] b) X.env)::starEach [] X.env:=by rfl)(A:BT X pos []:=by rfl):PE X (.Call (.Name "list" p) [.Call (.Name "range" k) [a] [] b] [] pos) (loL B (WL.lLR ta)):=PE.imp (mW (rh P) U T boot_list (bM (abh z t (aa h ag s) hs) eF J) K m J A) λg H Q C=>by
  refine eg C λσ F R q=>?_;have q:=Rq.bind q;have M:Rq B σ F (WL.ae ta WL.aA σ) λws=>∀u f d,RS B σ g d f->Gr F H d f->RWs B.K d ws u->∃j:Int,u=[.int j]/\-2^62<=j/\j<2^62/\∀r,f r=none->∃(G:Addr)(n:Nat),[V.ref r]=[V.ref G]/\upd f r (.rng 0 j) G=some (.rng 0 n)/\n<=1000/\∀l,upd f r (.rng 0 j) l=none->Q (.ref l) (upd (upd f r (.rng 0 j)) l (.lst ((List.range n).map λi=>V.int (i:Nat)))):=by show Rq B σ F ((ta σ).bind λx=>.ok [x]) _;cases e:ta σ with
 |ok x=>
    rw[e]at q;intro u Z F1 I N O;refine fO (fS O) λv o D=>?_;subst o
    cases x with|int j=>
     simp only[RW]at D;subst D;have q:Rq B σ F (if 0<=j/\j<=1000 then Res.ok (WL.rng 0 j.toNat)else .bad) _:=q;by_cases E:0<=j/\j<=1000
     .rw[apB E]at q;refine⟨j,rfl,by omega,by omega,λr y=>⟨r,j.toNat,rfl,?_,by omega,λl S=>?_⟩⟩;.rw[av];congr 2;omega
      .have w:=I.rb.sub.free y;have R2:=I.new y (.rng 0 j);have go:∀(d:Hp)(is:List Nat),RWs B.K d (is.map λi=>WL.W.int (0+(i:Nat))) (is.map λi=>V.int (i:Nat)):=λd is=>by induction is with|nil=>rfl|cons i is ih=>exact .cons (by simp[RW]) ih
       exact ang R2 (N.trans (Gr.new w y _)) (go _ _) S q
     .rw[apA E]at q;exact q.elim|_=>exact(show False from q).elim
 |ex c=>rw[e]at q;exact q|bad=>rw[e]at q;exact q
  exact cE σ F R M
end
end WS
namespace L2
def anB:List Nat->TGs|[]=>qO|i::is=>cP (aF i) (anB is)
end L2
namespace WS
open PySem PySem.Spec PyProof.Rows L2
open WL(Res Sl Ws EF TF AF LF GF GsF SF Out XF XA FS Fs KO KF OX RF Sr)
section
variable{X:Cx}{B:Bx}{z:Addr}{j:Nat}{F H:Hp}
theorem xN{Q:L2.St->Hp->Prop}:∀{is:List Nat}{ws:List VW}{vs:List V}{σ:Ws}{b:L2.St},j∉is->ws.length=is.length->RR B z j σ b F H->RWs B.K F ws vs->(∀a,RR B z j (WL.oP is ws σ) a F H->Q a H)->anB is vs b H Q|[],[],_,_,_,_,_,R,r,q=>by cases r;exact⟨rfl,q _ R⟩|i::is,w::ws,_,σ,b,hj,hl,R,r,q=>by obtain⟨v,c,rfl,d,t⟩:=r;exact⟨v,c,rfl,xN (λz=>hj (apI _ z)) (by simpa using hl) (R.set (λz=>hj (by simp[z])) d) t q⟩|[],_::_,_,_,_,_,hl,_,_,_=>by cases hl|_::_,[],_,_,_,_,hl,_,_,_=>by cases hl
def ae9{is:List Nat}{n:XF}{es:List Expr}{k:Nat}{e:Expr}{pos b:Pos}(I:B.K=X.K)(A:X.calm=true)(J:PE X e (loY B z j n))(K:PGs X es (anB is))(C:j∉is:=by decide)(y:(assignEach es X.env).length=is.length:=by rfl)(i:(assignEach es X.env).findIdx? (·.1)=none:=by rfl)(hs:swapsWithSole [.Tuple es k b] e pos.line X.env=pure false:=by rfl)(hw:swappedStores [.Tuple es k b] e X.env=pure none:=by rfl)(x:(assignEach [.Tuple es k b] X.env).map (·.2)=[assign (.Tuple es k b) X.env]:=by rfl):PS X (.Assign [.Tuple es k b] e pos) (loW B z j (WL.uJ is n)):=PS.imp (afC J (afF A K y i) hs hw x) λD u H⟨σ,F,R,q⟩=>by
 have q:=Ow.ofX q;refine cE σ F R (Xq.mono q λp d v t l m s r=>?_)
 obtain⟨w,h⟩:=p;cases w with|tup ws=>
 have d:Ow B z j D F (if ws.length=is.length then Out.nx (WL.oP is ws h)else .bad):=d;by_cases f:ws.length=is.length;.rw[apB f]at d;refine hJ r λa E g G o=>?_;subst g;exact zN a E rfl (by rw[<-I];exact m.rs.rb.sub.tup G) (by rw[<-o.length];exact f) (xN C f m o λc R2=>(show∀c t l,_ from d) c t l R2 s)
 .rw[apA f]at d;exact d.elim|_=>exact(show False from d).elim
end
section
variable{X:Cx}{B:Bx}{e o:Expr}{es:List Expr}{pos apos p:Pos}{x m:Str}{ps fl:List Str}{ds:List Value}{sp:Sp}{t:TA}{j k n:Nat}{c:String}{C f g:Addr}{fn:List VW->Res VW}{tas:AF}{to:EF}{pl:Sem Bool}
def pcX(r:Room j X.A)(G:Cal X.prog X.w X.K X.mg X.base (CXX X.prog X.w) k x ps ds sp)(i:PA X (e::es) t)(s:k<=j:=by decide)(l:Gl X x:=by rfl)(d:Dbg x:=by decide)(h:SE X e es:=by rfl)(a:BT X pos es:=by rfl):PE X (.Call (.Name x p) (e::es) [] pos) (wu X sp [] t):=by obtain⟨f,u,F,m,q,b,_⟩:=G;exact w6 F (r.mono s) l m q b .nil i d h a
def pc0(r:Room j X.A)(G:Cal X.prog X.w X.K X.mg X.base CX0 k x ps ds sp)(i:PA X (e::es) t)(s:k<=j:=by decide)(l:Gl X x:=by rfl)(d:Dbg x:=by decide)(h:SE X e es:=by rfl)(a:BT X pos es:=by rfl):PE X (.Call (.Name x p) (e::es) [] pos) (yu sp [] (λ_ _ _=>False) t):=by obtain⟨f,u,F,m,q,b,_⟩:=G;exact qq F (r.mono s) l m q b .nil abk i d h a
def mkN(v:B.K=X.K)(l:Room j X.A)(D:XW X B)(M:Mk X.K C f)(cl:Cls X.K C)(s:∀f∈fl,fA X.K C f)(r:W.nsIn X.K mainGlobals (Str.ofString c)=some (some (.ref C)))(G:aod X.prog X.w X.K X.mg X.base k f ps (spN X.K c fl fn))(z:X.mg x=some (.ref C))(w:PA X (e::es) (loA B tas))(u:k+1<=j:=by decide)(q:∀σ ws,tas σ=.ok ws->ws.length=1:=by repeat first|exact je|apply cL)(d:WL.vx c=fl:=by rfl)(h:fl≠[]:=by decide)(A:Gl X x:=by rfl)(a:Dbg x:=by decide)(y:SE X e es:=by rfl)(i:BT X pos es:=by rfl):PE X (.Call (.Name x p) (e::es) [] pos) (lo B (WL.nP c fn tas)):=by obtain⟨E,F,b⟩:=G;exact adi v.symm D M cl s h r d F (l.mono u) A z b w q a y i
def meN(v:B.K=X.K)(l:Room j X.A)(y:XW X B)(s:W.nsIn X.K mainGlobals (Str.ofString c)=some (some (.ref C)))(cl:Cls X.K C)(G:aim X.prog X.w X.K X.mg X.base k C g m ps (spX X.K n fn))(z:PE X o (lo B to))(w:PA X (e::es) (loA B tas))(q:∀σ ws,tas σ=.ok ws->ws.length+1=n)(u:k<=j:=by decide)(h:m∉WL.vx c:=by decide)(a:SE X e es:=by rfl)(d:BT X pos es:=by rfl)(r:eval (.Call (.Attribute o m apos) (e::es) [] pos) X.env=(do
  let i <-eval o X.env
  standAt apos.atName let(f,first)<-holding [i] (getMethod i m pl)callWith pos f first (backTo pos (starEach (e::es) X.env)) (backToKw pos (keywordEach [] X.env))):=by rfl):PE X (.Call (.Attribute o m apos) (e::es) [] pos) (lo B (WL.ke c fn to tas)):=by obtain⟨M,A,F,b⟩:=G;exact PE.imp (adT z cl M F (l.mono u) b .nil w a d r) (aei v.symm y s h q)
end
def aeP{P w K g b f i k m}{ps:List Str}:FnOk P w K g b (CXX P w) k f i ps (spX K m λ_=>.bad):=⟨λe H Q E a=>by obtain⟨_,_,_,_,_,h⟩:=a;exact h.elim,λA c s H d p e Q E l j o q n a=>by obtain⟨_,_,_,_,_,h⟩:=a;exact h.elim⟩
end WS
set_option autoImplicit true
set_option relaxedAutoImplicit true
namespace WS
open PySem PySem.Spec PyProof.Rows L2
open WL(Res Sl Ws EF TF AF LF GF GsF SF Out XF XA FS Fs KO KF OX RF Sr)
section
variable{X:Cx}{B:Bx}{e tg iter elt:Expr}{pos:Pos}{ta tb:EF}{tt:TF}{it:LF}{g:GF}{k:Nat}{scope:Scope}{ts:List Str}{ifs:List Expr}
def ac9{iN y py a1}(hN:X.N.Nodup)(b8:X.N[iN]?=some y)(hy:X.env.scope.names.lookup y=some .local)(c9:swapsWith (.ListComp elt [⟨tg,iter,ifs,0⟩] scope pos) (some (.Name y py)) a1.line X.env=pure true)(c0:X.stack=X.env::X.outer)(c1:X.env.frame=some X.env.locals)(hK:X.K=B.K)(hx:XW X B)(L:CompLook X scope)(hc:X.calm=true)(hk:ts.length=k)(hg:Keeps k g)(hi:PI X tg iter (loI B it))(b7:∀C l j K E A,A.K=X.K->XW ((X.comp scope C ts l j K).tri E []) A->PG ((X.comp scope C ts l j K).tri E []) tg (loG true A g))(b4:∀C l j K E A,A.K=X.K->XW ((X.comp scope C ts l j K).tri E []) A->x5 ((X.comp scope C ts l j K).tri E []) ifs (loT A tt))(c8:∀C l j K E A,A.K=X.K->XW ((X.comp scope C ts l j K).tri E []) A->PE ((X.comp scope C ts l j K).tri E []) elt (lo A ta))(hs:∀x,foldedSetIterable iter X.env x=pure x:=by intro _;rfl):PS X (.Assign [.Name y py] (.ListComp elt [⟨tg,iter,ifs,0⟩] scope pos) a1) (loS B (WL.fN iN (WL.nQ k it g tt ta))):=by
 subst hk;intro pins s d H Dn I hh;obtain⟨Q,hQ⟩:∃Q:VK,Q=λv H1=>Dn.nx (d.set iN (some v)) H1:=⟨_,rfl⟩;have hh:=abH (tV:=lo B (WL.nQ ts.length it g tt ta)) (λ_ _ _ z=>z) Dn d H hh;have hh:lo B (WL.nQ ts.length it g tt ta) d H Q:=by rw[hQ];exact hh
 refine eg hh λσ F R q=>?_;have S:CompScope X scope ts:=L.scope;have a6:closureFor scope X.env=pure (dw X.env.cells scope.names []):=eM λy hy hf=>by obtain⟨c,hc⟩:=I.ok.has y.1 (S.free y hy hf);rw[hc];rfl
 have q:=Rq.bind (Rq.bind q);rw[exec_Assign_Name_used _ _ _ _ c9];refine apu (arb (apu ?_));refine apu (apZ (aq5 rfl hs a6 S.kind S.names (thn (hi pins s d H (λJ H1=>∃F1 xs,RS B σ d F1 H1/\Gr F H F1 H1/\Walk B.K J xs F1/\Rq B σ F (if xs.length<=WL.lim then WL.bF g tt ta (List.replicate ts.length .no++WL.rA σ) xs else .bad) λys=>∀v i G,RS B σ d G i->Gr F H G i->RW B.K G (.lst ys) v->Q v i) I (cE σ F R (Rq.mono (aC.refl _) q λxs P J H1 F1 R1 g1 wk=>zN F1 xs R1 g1 wk ?_))) λxv s1 h1=>thn h1 λd2 s2 h2=>?_)) (λ_ N hq=>apF (apF hq)) λ_ _ e=>e);.exact P
 obtain⟨it,K,tn,J,H2,e,Z,T,c2,f2,F1,xs,R1,g1,wk,P⟩:=h2;subst e;by_cases a3:xs.length<=WL.lim
 .rw[apB a3]at P;let A:Bx:=⟨B.K,H2,F1,λc _ G=>B.xp c σ G,λc _ G b3 sm h=>B.mono c σ G b3 sm h⟩;let EC:Addr->Value->Shared->Prop:=λC v N=>∃(e Ce:Addr)(dx:Option Addr)(fl:Value)(T:Option Addr)(M:L2.St)(i G:Hp)(c:VW),v=.ref e/\Thr (X.comp scope C ts s2 H2 K) [] M i N e Ce dx fl T/\RB A G i/\B.xp c σ G/\XR X.K G c Ce dx;have xw:∀C,XW ((X.comp scope C ts s2 H2 K).tri (EC C) []) A:=λC c3 M i N b9 G c R' xp e Ce dx T fl t xr=>⟨e,Ce,dx,fl,T,M,i,G,c,rfl,Thr.jM (X:=X.comp scope C ts s2 H2 K) (pins:=[]) t,R'.rb,xp,xr⟩;have hW:uf J (loG true A g) (loT A tt) (lo A ta) (List.replicate ts.length none++d) H2 Q:=by
   refine tP hg (R1.rA rfl rfl rfl) wk a3 (λz=>by rw[z]at P;exact P) (λc z b9 G sm=>?_) λall z ys G i rb g' r D hD=>?_;.rw[z]at P;exact B.mono c σ F G (g1.f.trans sm) P
   .rw[z]at P;have Y:RB B G i:=qm R1 rb rfl rfl;have R':=R1.grow g' Y;exact P (.ref D) _ _ (R'.new hD _) (g1.trans (g'.trans (Gr.new (Y.sub.free hD) hD _))) (by simp only[RW];exact jJ D ys rfl (SqL.of av) (r.keep (aD (Y.sub.free hD) _)))
  refine iR (Q:=Q) S EC (λ_ _ _=>hc) (λC=>b7 C s2 H2 K (EC C) A hK.symm (xw C)) (λC=>b4 C s2 H2 K (EC C) A hK.symm (xw C)) (λC=>c8 C s2 H2 K (EC C) A hK.symm (xw C)) Z T c2 f2 hW.c ?_ ?_
  .intro C D i N m ys c7 hC hD hn c4 I' q;have O:=ap4 (apE Z.lt hC);refine aso (jO I' hN b8 (.inl hy) (show RelV (.ref D) (.ref D)from rfl) (λc6 b5 a5=>?_) (.inr hy));refine fO a5 λa a5 ha=>?_;have b6:a≠C:=by
    rcases ha with e|e;.rw[e];exact apO O
    .obtain⟨v,q⟩:=Z.cell y a e;exact apM (apE q.lt hC)
   refine⟨m,hn.sameBut a5 (apO b6),λh' a0=>?_⟩;have I3:=b5.turned (t':=c6.toks) (λb o u e=>(a0.2 b u).trans e) (by rw[ak c7];exact c4) O (.inr (apD Z.sz hC)) (λx c e=>by obtain⟨v,q⟩:=Z.cell x c e;exact apM (apE q.lt hC)) λp n=>apM (apE (apH (Z.pin p n).1) hC);rw[hQ]at q;exact cE _ _ I3 q
  .rintro C D _ N hC⟨e,Ce,dx,fl,T,M,i,G,c,rfl,t,rb,xp,xr⟩;have J':Inv X pins d i N:=Z.aeZ (ch:=K) t.inv.os t.inv.base t.inv.hok t.inv.bare λb u=>⟨(f2 b u).2.2.2.1,(f2 b u).2.1,(f2 b u).2.2.2.2.1,(f2 b u).2.2.2.2.2⟩;refine fO t.inv.loc λm a7 _=>?_;refine x9 (id a7) λoC es ep b2 a9=>?_;have a4:i C=none:=t.inv.free;have O:C≠X.env.locals:=ap4 (apE Z.lt hC);have a8:s2.heap.get? C=none:=aqb hC;have fC:FpX X pins i C:=Z.fpX a8 a4;have a2:∀v,oC.data≠.cell v:=λv z=>by obtain⟨hd,_⟩:=a9;rw[hd]at z;cases z
   have J2:Inv X (pins++[(C,oC)]) d i N:=J'.fE λp n=>by
    rcases ap8.mp n with n|n;.exact J'.pin p (apQ _ n)
    .obtain rfl:p=(C,oC):=by simpa using n
     exact⟨b2,a4,O,fC.2.2.1,a2⟩
   have U:∀b,FpX (X.comp scope C ts s2 H2 K) [] i b->FpX X pins i b/\b≠C:=λb z=>by
    refine⟨?_,z.2.1⟩;rcases z.2.2.2.1 with u|u;.have f:=f2 b u;exact⟨z.1,f.2.1,f.2.2.1,f.2.2.2.1.imp (λw=>w) λw=>aqb w,f.2.2.2.2.1,f.2.2.2.2.2⟩
    .exact Z.fpX u z.1
   have b0:∀b,FpX X pins i b->b≠C->FpX X (pins++[(C,oC)]) i b:=λb z ne=>⟨z.1,z.2.1,z.2.2.1,z.2.2.2.1,z.2.2.2.2.1,λp n=>by
    rcases ap8.mp n with n|n;.exact z.2.2.2.2.2 p (ap0 _ n)
    .rcases ap8.mp n with n|n;.exact z.2.2.2.2.2 p (apQ _ n)
     .obtain rfl:p=(C,oC):=by simpa using n
      exact apO ne⟩;have te:=U e t.fe;have t1:Thr X (pins++[(C,oC)]) d i N e Ce dx fl T:=⟨J2,t.trc,b0 e te.1 te.2,λb u=>b0 b (U b (t.fT b u)).1 (U b (t.fT b u)).2⟩;refine t1.note c0 c1 λb1 T1 c5 t2=>?_;have pC:=(t2.inv.pin (C,oC) (by simp)).1;refine⟨m,acZ oC es ep pC a9,λh' a0 d1 _=>?_⟩;have drop:∀b,FpX X (pins++[(C,oC)]) i b->FpX X pins i b/\b≠C:=λb z=>⟨⟨z.1,z.2.1,z.2.2.1,z.2.2.2.1,z.2.2.2.2.1,λp n=>by
    rcases ap8.mp n with n|n;.exact z.2.2.2.2.2 p (ap0 _ n)
    .exact z.2.2.2.2.2 p (apQ _ (ap0 _ n))⟩,λw=>z.2.2.2.2.2 (C,oC) (by simp) w.symm⟩;have J3:Inv X pins d i {N with heap:=b1}:=t2.inv.fE λp n=>t2.inv.pin p (apQ _ (ap0 _ n));have J4:Inv X pins d i {N with heap:=h'}:=Inv.turned (s:={N with heap:=b1}) (t':=N.toks) (it:=C) J3 (λb o u e=>(a0.2 b u).trans e) a4 O (.inr (apD Z.sz hC)) fC.2.2.2.2.1 fC.2.2.2.2.2;have t3:Thr X pins d i {N with heap:=h'} e Ce dx c5 (some T1):=⟨J4,t2.trc.keeps λb o u q=>(a0.2 b (by
    rcases u with rfl|u;.exact(drop _ t2.fe).2
    .exact(drop b (t2.fT b u)).2)).trans q,(drop e t2.fe).1,λb u=>(drop b (t2.fT b u)).1⟩;refine t3.pass λd3 d0 t4=>?_;have Y:RB B G i:=qm R1 rb rfl rfl;exact hx pins d i _ σ G c (R1.grow (xK rb rfl rfl) Y) xp e Ce dx (some T1) d0 t4 xr
 .rw[apA a3]at P;exact(P).elim
end
end WS
namespace WL
open PySem
section
variable{α β:Type}
@[simp]def lB(a)(f:α->Res β):(Res.ok a).bind f=f a:=(rfl)
@[simp]def anW(c)(f:α->Res β):(Res.ex c).bind f=.ex c:=(rfl)
@[simp]def jc(σ)(a)(f:α->Out):ofR σ (.ok a) f=f a:=(rfl)
@[simp]def aoy(σ)(c)(f):ofR σ (.ex c:Res α) f=.ex c σ:=(rfl)
end
@[simp]def anz{b:Type}(a)(l:List b):(a::l)[0]?=some a:=(rfl)
@[simp]def anx{b:Type}(a)(l:List b)(n):(a::l)[n+1]?=l[n]?:=(rfl)
noncomputable def anw:Option Sl->Res W|some (.va w)=>.ok w|_=>.bad
@[simp]def vu(w):anw (some (.va w))=.ok w:=(rfl)
@[simp]def vB(i:Nat)(σ:Ws):ai i σ=anw σ[i]?:=by unfold ai anw;split<;>simp_all
@[simp]def apj(w)(σ):eC w σ=.ok w:=(rfl)
@[simp]def af5(r)(a b)(σ):eOp r a b σ=(a σ).bind λx=>(b σ).bind λy=>r x y:=(rfl)
@[simp]def aoM(r)(a)(σ):eUn r a σ=(a σ).bind r:=(rfl)
noncomputable def chB(z:W)(k:Res W):Res W:=match z with|.bl true=>k|.bl false=>.ok (.bl false)|_=>.bad
@[simp]def aoT(b)(k):chB (.bl b) k=if b=true then k else .ok (.bl false):=by cases b<;>rfl
@[simp]def akH(r d:W->W->Res W)(a b c:EF)(σ:Ws):pN r d a b c σ=(a σ).bind λx=>(b σ).bind λy=>(r x y).bind λz=>chB z ((c σ).bind λw=>d y w):=by unfold pN chB;rfl
@[simp]def afl(b):toB (.bl b)=.ok b:=(rfl)
@[simp]def aiZ(e)(σ):tB e σ=(e σ).bind toB:=(rfl)
@[simp]def amj(a b)(σ):yv a b σ=(a σ).bind λx=>if x=true then b σ else .ok false:=by unfold yv;congr 1;funext x;cases x<;>rfl
@[simp]def aoj(a b)(σ):tOr a b σ=(a σ).bind λx=>if x=true then .ok true else b σ:=by unfold tOr;congr 1;funext x;cases x<;>rfl
@[simp]def ame(a)(σ):zQ a σ=(a σ).bind λx=>.ok !x:=(rfl)
set_option tactic.hygienic true
@[simp]def anR(a b)(σ):acu a b σ=(a σ).bind λx=>(toB x).bind λy=>if y=true then b σ else .ok (.bl false):=by
 unfold acu;congr 1;funext x;cases x<;>try rfl
 rename_i k;cases k<;>rfl
set_option tactic.hygienic false
@[simp]def anO(a)(σ):ahH a σ=(a σ).bind λx=>(toB x).bind λy=>.ok (.bl !y):=by unfold ahH;congr 1;funext x;cases x<;>rfl
@[simp]def aoP(t)(a b)(σ):eIf t a b σ=(t σ).bind λx=>if x=true then a σ else b σ:=by unfold eIf;congr 1;funext x;cases x<;>rfl
@[simp]def vT(σ):aA σ=.ok []:=(rfl)
@[simp]def ry(e)(a)(σ):ae e a σ=(e σ).bind λx=>(a σ).bind λb=>.ok (x::b):=(rfl)
@[simp]def anN(a)(σ):iZ a σ=(a σ).bind λb=>if b.length<=lim then .ok (.tup b)else .bad:=(rfl)
@[simp]def anP(a)(σ):hG a σ=(a σ).bind λb=>if b.length<=lim then .ok (.lst b)else .bad:=(rfl)
@[simp]def anu(a)(σ):aib a σ=(a σ).bind λb=>if b.length<=lim then .ok b else .bad:=(rfl)
noncomputable def vN{b}:Res b->Res b|.ok a=>.ok a|_=>.bad
@[simp]def l2{b}(a:b):vN (.ok a)=.ok a:=(rfl)
@[simp]def xT(f)(a)(σ):aK f a σ=(a σ).bind λws=>vN (f ws):=by unfold aK;congr 1;funext ws;cases f _<;>rfl
@[simp]def akI(f)(a)(σ):kg f a σ=(a σ).bind f:=(rfl)
@[simp]def aoQ(f)(a)(σ):eBi f a σ=(a σ).bind f:=(rfl)
def aoS(o:Option (List W×List W)):Res W:=match o with|some (ks,vs)=>if cK ks&&decide (ks.length<=15)then .ok (.dic ks vs)else .bad|none=>.bad
@[simp]def akL(ks vs:List W):aoS (some (ks,vs))=if cK ks&&decide (ks.length<=15)then .ok (.dic ks vs)else .bad:=(rfl)
@[simp]def acs(a:AF)(σ:Ws):alJ a σ=(a σ).bind λb=>aoS (hY b):=(rfl)
@[simp]def am7(ks vs)(k):oIx (.dic ks vs) (.str k)=ofO (nT k ks vs):=(rfl)
@[simp]def aov(σ):pNo σ=.ok none:=(rfl)
noncomputable def toI:W->Res (Option Int)|.int i=>.ok (some i)|_=>.bad
@[simp]def ama(i):toI (.int i)=.ok (some i):=(rfl)
@[simp]def alh(e:EF)(σ:Ws):n7 e σ=(e σ).bind toI:=by unfold n7;congr 1
@[simp]def aoN(e)(lo a)(σ):eSl e lo a σ=(e σ).bind λx=>(lo σ).bind λl=>(a σ).bind λh=>oSl x l h:=(rfl)
@[simp]def alw(i j):dy (.int i) (.int j)=.ok (.int (i+j)):=(rfl)
@[simp]def alv(xs ys:List W):dy (.lst xs) (.lst ys)=if xs.length+ys.length<=lim then .ok (.lst (xs++ys))else .bad:=(rfl)
@[simp]def alu(xs ys:List W):dy (.tup xs) (.tup ys)=if xs.length+ys.length<=lim then .ok (.tup (xs++ys))else .bad:=(rfl)
@[simp]def alo(i j):g6 (.int i) (.int j)=.ok (.int (i-j)):=(rfl)
def xm(i j):fh (.int i) (.int j)=if -2^64<i/\i<2^64\/-2^64<j/\j<2^64 then .ok (.int (i*j))else .bad:=(rfl)
def pE{i}(j)(b:-18446744073709551616<i)(a:i<18446744073709551616):fh (.int i) (.int j)=.ok (.int (i*j)):=by rw[xm,apB];exact .inl ⟨by omega,by omega⟩
def xl(i){j}(b:-18446744073709551616<j)(a:j<18446744073709551616):fh (.int i) (.int j)=.ok (.int (i*j)):=by rw[xm,apB];exact .inr ⟨by omega,by omega⟩
@[simp]def als(i j):oDiv (.int i) (.int j)=if 0<j/\j<10^100 then .ok (.int (i/j))else .bad:=(rfl)
@[simp]def alr(i j):oMod (.int i) (.int j)=if 0<j then .ok (.int (i%j))else .bad:=(rfl)
@[simp]def alp(i j:Int):ahh (.int i) (.int j)=if 0<=j/\j<=1000/\i.natAbs<2^64 then .ok (.int (i^j.toNat))else .bad:=(rfl)
@[simp]def alq(i):pB (.int i)=.ok (.int (-i)):=(rfl)
@[simp]def am1(i j):oLt (.int i) (.int j)=.ok (.bl (decide (i<j))):=(rfl)
@[simp]def am2(i j):oLe (.int i) (.int j)=.ok (.bl (decide (i<=j))):=(rfl)
@[simp]def am9(i j:Int):oGt (.int i) (.int j)=.ok (.bl (decide (j<i))):=(rfl)
@[simp]def ana(i j):oGe (.int i) (.int j)=.ok (.bl (decide (j<=i))):=(rfl)
@[simp] def anc (i j:Int):oEq (.int i) (.int j)=.ok (.bl (decide (i=j))):=by show Res.ok (W.bl (i==j))=_;rw[arn]
@[simp] theorem am0 (i j:Int):oNe (.int i) (.int j)=.ok (.bl (!decide (i=j))):=by show Res.ok (W.bl !(i==j))=_;rw[arn]
@[simp] theorem ahj (j ):oEq .non (.int j)=.ok (.bl false):=(rfl)
@[simp]def aoA(a b:Bool):oEq (.bl a) (.bl b)=.ok (.bl (a==b)):=rfl
@[simp]def aoz(a b:Bool):oNe (.bl a) (.bl b)=.ok (.bl (a !=b)):=rfl
@[simp]def am8(x):oIs x .non=.ok (.bl (qL x)):=(rfl)
@[simp]def ah8(x):j5 x .non=.ok (.bl !qL x):=(rfl)
@[simp]def akf:qL .non=true:=(rfl)
@[simp]def akg(i):qL (.int i)=false:=(rfl)
@[simp]def gD(xs)(i):oIx (.lst xs) (.int i)=ofO (atI xs i):=(rfl)
@[simp]def am3(xs)(i):oIx (.tup xs) (.int i)=ofO (atI xs i):=(rfl)
@[simp]def amY(xs)(l h):oSl (.lst xs) l h=.ok (.lst (cut xs l h)):=(rfl)
@[simp]def amX(xs:List W)(l h:Option Int):oSl (.tup xs) l h=if sIx xs.length 0 l=0/\sIx xs.length xs.length h=xs.length then .bad else .ok (.tup (cut xs l h)):=(rfl)
def fM{a}(xs:List a)(k:Nat):atI xs k=xs[k]?:=by
 unfold atI ixN;by_cases h:k<xs.length;.rw[apB (by simp),apB (by omega)];simp
 .rw[apB (by simp),apA (by omega)];simp;omega
@[simp]def an4{a}(xs:List a)(k):atI xs no_index(@OfNat.ofNat Int k _)=xs[k]?:=fM _ k
def aga{a}(xs:List a){i}(h:0<=i):atI xs i=xs[i.toNat]?:=by have e:=fM xs i.toNat;rwa[Int.toNat_of_nonneg h]at e
@[simp]def alN(xs):pQ [.lst xs]=.ok (.int xs.length):=(rfl)
@[simp]def alM(xs):pQ [.tup xs]=.ok (.int xs.length):=(rfl)
@[simp]def aii(xs):gg [.lst xs]=.ok (.tup xs):=(rfl)
@[simp]def aih(xs):gg [.tup xs]=.ok (.tup xs):=(rfl)
@[simp]def alP(i):af9 [.int i]=.ok (.int (if i<0 then -i else i)):=(rfl)
@[simp]def an1(b:Bool):ac2 [.bl b]=.ok (.int (if b then 1 else 0)):=(rfl)
noncomputable def oB(o:Option Bool):Res W:=match o with|some b=>.ok (.bl b)|none=>.bad
@[simp]def ane(b):oB (some b)=.ok (.bl b):=(rfl)
@[simp]def aij(x:W)(t:String):bT [x,.ty t]=oB (isK x t):=by cases h:isK x t<;>simp[bT,oB,h]
@[simp]def an2(xs):ae1 [.lst xs]=oB (allB xs):=rfl
@[simp]def anv(e)(σ):vo e σ=(e σ).bind itemsOf:=(rfl)
def amA:W->Res (List W)|.int j=>if -2^62<=j/\j<2^62 then .ok (rng 0 j.toNat)else .bad|_=>.bad
@[simp]def alc(j):amA (.int j)=if -2^62<=j/\j<2^62 then .ok (rng 0 j.toNat)else .bad:=(rfl)
@[simp]def alC(e:EF)(σ:Ws):jB e σ=(e σ).bind amA:=by unfold jB amA;congr 1
def amz:W->W->Res (List W)|.int i,.int j=>if -2^62<=i/\i<2^62/\-2^62<=j/\j<2^62 then .ok (rng i (j-i).toNat)else .bad|_,_=>.bad
@[simp]def alb(i j):amz (.int i) (.int j)=if -2^62<=i/\i<2^62/\-2^62<=j/\j<2^62 then .ok (rng i (j-i).toNat)else .bad:=(rfl)
@[simp]def alB(e a:EF)(σ:Ws):vp e a σ=(e σ).bind λx=>(a σ).bind λy=>amz x y:=by unfold vp amz;congr 1
def ahD:W->Res (List W)|.tup xs=>.ok (eA 0 xs)|.lst xs=>.ok (eA 0 xs)|_=>.bad
@[simp]def akD(xs):ahD (.lst xs)=.ok (eA 0 xs):=(rfl)
@[simp]def alD(e:EF)(σ:Ws):vq e σ=(e σ).bind ahD:=by unfold vq ahD;congr 1
@[simp] def ah6 (lo ) (n ):(rng lo n).length=n:=by simp[rng]
theorem qj (lo ) (n i ) (x ) (h:(rng lo n)[i]?=some x):i<n/\x=.int (lo+i):=by
  have a  := by
    have:=(apC.mp h).1
    simpa using this
  simp only[rng,apX,aqR a] at h
  exact⟨a,(apV h).symm⟩
@[simp]def lZ(i)(w)(σ):aF i w σ=.ok (σ.set i (.va w)):=(rfl)
@[simp]def xO(σ):qO [] σ=.ok σ:=(rfl)
@[simp]def pL(g)(b)(w)(r)(σ):cP g b (w::r) σ=(vN (g w σ)).bind λd=>vN (b r d):=by show(match g w σ with|.ok _=>(match b r _ with|.ok _=>Res.ok _|_=>.bad)|_=>.bad)=_;cases g w σ with|ok a=>simp ;cases b r a<;>rfl|ex c|bad=>rfl
@[simp]def xM(a)(ws)(σ):rB a (.tup ws) σ=a ws σ:=(rfl)
def agH(σ:Ws)(i:Nat)(ws:List W)(w:W):Res W->Res Ws
|.ok (.int k)=>match ixN ws.length k with|some j=>.ok (σ.set i (.ow (ws.set j w)))|none=>.bad
|_=>.bad
def amm(σ:Ws)(i:Nat)(w:W)(r:Res W):Option Sl->Res Ws|some (.ow ws)=>agH σ i ws w r|_=>.bad
@[simp]def anA(i:Nat)(e:EF)(w:W)(σ:Ws):aeD i e w σ=amm σ i w (e σ) σ[i]?:=by unfold aeD amm;cases h:σ[i]? with|none=>rfl|some sl=>cases sl with|no|va _|od _ _|ob=>rfl|ow ws=>unfold agH;cases e σ with|bad|ex c=>rfl|ok k=>cases k<;>rfl
@[simp]def aml(σ:Ws)(i:Nat)(w:W)(r:Res W)(ws:List W):amm σ i w r (some (.ow ws))=agH σ i ws w r:=(rfl)
def wy(σ:Ws)(i:Nat)(ws:List W)(w:W)(k:Int)(a:0<=k)(b:k<ws.length):agH σ i ws w (.ok (.int k))=.ok (σ.set i (.ow (ws.set k.toNat w))):=by unfold agH ixN;simp[a,b]
noncomputable def alF(σ:Ws)(i:Nat):Option Sl->Ws|some (.ow ws)=>σ.set i (.va (.lst ws))|some (.od ks vs)=>σ.set i (.va (.dic ks vs))|_=>σ
@[simp]def aoG(i:Nat)(σ:Ws):frz i σ=alF σ i σ[i]?:=by unfold frz alF;split<;>simp_all
@[simp]def anC(σ)(i)(ws):alF σ i (some (.ow ws))=σ.set i (.va (.lst ws)):=(rfl)
@[simp]def anD(σ:Ws)(i:Nat)(ks vs:List W):alF σ i (some (.od ks vs))=σ.set i (.va (.dic ks vs)):=(rfl)
def plR:Res W->Res W|.ok w=>if plain w then .ok w else .bad|_=>.bad
@[simp]def aou(w):plR (.ok w)=if plain w=true then .ok w else .bad:=(rfl)
@[simp]def anQ(i:Nat)(e:EF)(σ:Ws):ahI i e σ=plR (e (frz i σ)):=by unfold ahI plR;cases e (frz i σ)<;>rfl
@[simp]def ami(i)(t)(σ):ah2 i t σ=vN (t (frz i σ)):=by unfold ah2 vN;cases t _<;>rfl
@[simp]def ajn(i):plain (.int i)=true:=(rfl)
@[simp]def ajm(xs:List W):plain (.tup xs)=jW xs:=(rfl)
@[simp]def ah7:jW []=true:=(rfl)
@[simp]def ag6(x:W)(xs:List W):jW (x::xs)=(plain x&&jW xs):=(rfl)
def yL(xs):jW xs=true↔∀x∈xs,plain x=true:=by induction xs with|nil=>simp|cons x xs ih=>simp[ih]
@[simp]def amc(σ:Ws):g9 σ=.ok true:=(rfl)
@[simp]def alA(k)(it)(g)(t)(e)(σ):vl k it g t e σ=(it σ).bind λa=>if a.length<=lim then vN (bF g t e (List.replicate k .no++σ) a)else .bad:=by unfold vl;congr 1;funext a;cases bF g t e _ _<;>rfl
@[simp]def alK(k)(it)(g)(t)(e)(σ):hE k it g t e σ=(vl k it g t e σ).bind λa=>.ok (.lst a):=(rfl)
noncomputable def adB(o:Out)(b:SF):Out:=match o with|.nx σ'=>b σ'|o=>o
@[simp]def eu(σ)(b):adB (.nx σ) b=b σ:=(rfl)
@[simp]def amq(w)(b):adB (.rt w) b=.rt w:=(rfl)
@[simp]def dO(a b)(σ):aL a b σ=adB (a σ) b:=(rfl)
@[simp]def aop(σ):sNx σ=.nx σ:=(rfl)
@[simp]def amt(i)(e)(σ):fN i e σ=ofR σ (e σ) λw=>.nx (σ.set i (.va w)):=(rfl)
@[simp]def ak8(i)(l)(σ):sv i l σ=ofR σ (l σ) λws=>.nx (σ.set i (.ow ws)):=(rfl)
@[simp]def amw(e:EF)(g:GF)(σ:Ws):ah3 e g σ=ofR σ (e σ) λw=>ofR σ (g w σ) λa=>.nx a:=(rfl)
@[simp]def afs(t)(a b)(σ):sIf t a b σ=ofR σ (t σ) λx=>if x=true then a σ else b σ:=by unfold sIf;congr 1;funext x;cases x<;>rfl
@[simp]def amu(e)(σ):cx e σ=ofR σ (e σ) λw=>.rt w:=(rfl)
def an7(σ:Ws)(i:Nat)(r:Res W):Option Sl->Out|some (.ow ws)=>ofR σ r λw=>if ws.length<lim then .nx (σ.set i (.ow (ws++[w])))else .bad|_=>.bad
@[simp]def amx(i:Nat)(e:EF)(σ:Ws):ai7 i e σ=an7 σ i (e σ) σ[i]?:=by unfold ai7 an7;split<;>simp_all
@[simp]def an6(σ)(i)(r)(ws):an7 σ i r (some (.ow ws))=ofR σ r λw=>if ws.length<lim then .nx (σ.set i (.ow (ws++[w])))else .bad:=(rfl)
@[simp]def kR(i)(t)(σ):zR i t σ=t (frz i σ):=(rfl)
@[simp]def agS(it)(g)(b)(σ):wO it g b σ=ofR σ (it σ) λa=>forL g b a σ:=(rfl)
@[simp]def aaT(n)(c)(b)(σ):pe n c b σ=i2 c b (n σ) σ:=(rfl)
@[simp]def amr(c)(σ)(b):adB (.ex c σ) b=.ex c σ:=(rfl)
@[simp]def ai5(nm:String)(a:AF)(σ:Ws):wN nm a σ=ofR σ (a σ) λws=>if ws.length<=100 then .ex (.exc nm []) σ else .bad:=(rfl)
@[simp]def ahQ(d nm)(fs):lr d (.exc nm fs)=rz nm d:=(rfl)
noncomputable def ak4(o:Out)(k:W->Ws->Out):Out:=match o with|.ex c σ=>k c σ|o=>o
@[simp]def al8(σ)(k):ak4 (.nx σ) k=.nx σ:=(rfl)
@[simp]def al9(c)(σ)(k):ak4 (.ex c σ) k=k c σ:=(rfl)
@[simp]def ai4(b:SF)(d:String)(i:Nat)(h:SF)(σ:Ws):su b d i h σ=ak4 (b σ) (nH d i h):=by unfold su ak4;rfl
noncomputable def ahY(i:Nat)(o:Out):Out:=match o with|.nx σ2=>.nx (σ2.set i .no)|.rt w=>.rt w|_=>.bad
@[simp]def alQ(i:Nat)(σ:Ws):ahY i (.nx σ)=.nx (σ.set i .no):=(rfl)
@[simp]def alE(d:String)(i:Nat)(h:SF)(c:W)(σ:Ws):nH d i h c σ=if lr d c then ahY i (h (σ.set i (.va c)))else .bad:=by unfold nH ahY;rfl
noncomputable def fin:Out->Res W|.rt w=>.ok w|.nx _=>.ok .non|.ex c _=>.ex c|_=>.bad
@[simp]def aoJ(w):fin (.rt w)=.ok w:=(rfl)
@[simp]def aoK(c)(σ):fin (.ex c σ)=.ex c:=(rfl)
@[simp]def run_eq(n:Nat)(t:SF)(ws:List W):run n t ws=fin (t (ws.map .va++List.replicate (n-ws.length) .no)):=by unfold run fin;rfl
@[simp]def aoD:lim=1000000:=(rfl)
noncomputable def oj(o:Out)(k:SF):Out:=match o with|.nx σ2=>k σ2|.ct σ2=>k σ2|.bk σ2=>.nx σ2|o=>o
@[simp]def aly(σ)(k):oj (.nx σ) k=k σ:=(rfl)
@[simp]def alx(w)(k):oj (.rt w) k=.rt w:=(rfl)
def eT(c)(b)(n)(σ):i2 c b (n+1) σ=ofR σ (c σ) λx=>if x=true then oj (b σ) (i2 c b n)else .nx σ:=by
 show ofR σ _ _=_;congr 1;funext x;cases x;.rfl
 .cases b σ<;>rfl
def er(g)(b)(x)(xs)(σ):forL g b (x::xs) σ=ofR σ (g x σ) λa=>oj (b a) (forL g b xs):=rfl
@[simp]def alG(g)(b)(σ):forL g b [] σ=.nx σ:=(rfl)
theorem nI{g b}:∀{xs}(P:Nat->Ws->Prop){σ},P 0 σ->(∀i x σ,xs[i]?=some x->P i σ->∃d,g x σ=.ok d/\∃c,b d=.nx c/\P (i+1) c)->∃a,forL g b xs σ=.nx a/\P xs.length a|[],P,σ,h0,_=>⟨σ,rfl,h0⟩|x::xs,P,σ,h0,hs=>by obtain⟨d,h,c,l,k⟩:=hs 0 x σ rfl h0;obtain⟨a,e,f⟩:=nI (xs:=xs) _ k λi y σ m j=>hs (i+1) y σ (by grind) j;exact⟨_,by simp [forL,h,l];exact e,f⟩
theorem vv{g b}:∀{xs}(P:Nat->Ws->Prop)(R:Nat->W->Prop){σ},P 0 σ->(∀i x σ,xs[i]?=some x->P i σ->∃c,g x σ=.ok c/\((∃d,b c=.nx d/\P (i+1) d)\/∃w,b c=.rt w/\R i w))->(∃a,forL g b xs σ=.nx a/\P xs.length a)\/∃i w,i<xs.length/\forL g b xs σ=.rt w/\R i w
|[],P,R,σ,h0,_=>.inl ⟨σ,rfl,h0⟩|x::xs,P,R,σ,h0,hs=>by
 obtain⟨c,f,h⟩:=hs 0 x σ rfl h0;rcases h with⟨d,e,j⟩|⟨w,e,j⟩
 .rcases vv (xs:=xs) _ _ j λi y σ k l=>hs (i+1) y σ (by simpa using k) l with⟨a,e3,h3⟩|⟨i,w,hi,e3,h3⟩;.exact .inl ⟨a,by simp only[forL,f,e,jc];exact e3,h3⟩
  .exact .inr ⟨i+1,w,by simpa using hi,by simp only[forL,f,e,jc];exact e3,h3⟩
 .exact .inr ⟨0,w,by simp,by simp only[forL,f,e,jc],j⟩
theorem cf{g t e σ}{d:Type}{emb f}:∀{xs:List d},(∀x∈xs,∃a,g (emb x) σ=.ok a/\t a=.ok true/\e a=.ok (f x))->bF g t e σ (xs.map emb)=.ok (xs.map f)|[],_=>rfl|x::xs,h=>by obtain⟨a,c,i,b⟩:=h x (by simp);have j:=cf (xs:=xs) λy k=>h y (by grind);simp [bF,c,i,b,j]
end WL
namespace ML
open PySem WL
abbrev S3:=Int×Int×Int
noncomputable def stW(p:S3):W:=.tup [.int p.1,.int p.2.1,.int p.2.2]
noncomputable def spW(p:Int×Int):W:=.tup [.int p.1,.int p.2]
def flW(f:List S3):W:=.tup (f.map stW)
noncomputable def aE(p:S3):Int×Int:=(p.1,p.2.1)
@[simp]def amV(n:Nat)(i:Int):okD n (.int i)=true:=(rfl)
@[simp]def amT(n:Nat)(xs:List W):okD n (.tup xs)=jb n xs:=(rfl)
@[simp]def alm(n:Nat):jb (n+1) []=true:=(rfl)
@[simp]def ajL(n:Nat)(x:W)(xs:List W):jb (n+1) (x::xs)=(okD n x&&jb (n+1) xs):=(rfl)
@[simp]def anJ(a b:Str):eqv (.str a) (.str b)=(a==b):=(rfl)
@[simp]def anK(a b:Int):eqv (.int a) (.int b)=(a==b):=(rfl)
@[simp]def anI(a b:List W):eqv (.tup a) (.tup b)=af4 a b:=(rfl)
@[simp]def anG:af4 [] []=true:=(rfl)
@[simp]def anH(x y:W)(xs ys:List W):af4 (x::xs) (y::ys)=(eqv x y&&af4 xs ys):=(rfl)
@[simp] def aox (n:Nat) (p:Int×Int):okD (n+1) (spW p)=true:=by simp[spW]
theorem qA (n ):∀ a,(∀ x∈a,okD n x=true)->jb (n+1) a=true
  | [],_=>rfl
  | x::a,h=>by simp;exact⟨h x (by simp),qA n _ λy b=>h y (by grind)⟩
def acm(p q):eqv (spW p) (spW q)=decide (p=q):=by obtain⟨a,b⟩:=p;obtain⟨c,d⟩:=q;rw[ap2];simp[spW]
@[simp]def afP(p q):oEq (spW p) (spW q)=.ok (.bl (decide (p=q))):=by have:adD (spW p) (spW q)=false:=rfl;simp[oEq,this,acm]
theorem agc(s:Int×Int):∀l:List (Int×Int),dG (spW s) (l.map spW)=decide (s∈l)|[]=>by simp[dG]|p::l=>by simp only[apU,dG,acm,agc s l];rw[ap2];simp only[ar6,ap3,apJ];exact or_congr eq_comm Iff.rfl
def afO(s:Int×Int)(l:List (Int×Int)):oIn (spW s) (.lst (l.map spW))=.ok (.bl (decide (s∈l))):=by
 have h:jb 51 (l.map spW)=true:=qA 50 _ λx a=>by obtain⟨p,_,rfl⟩:=aqi.mp a;simp
 simp[oIn,h,agc]
@[simp] def wZ (p:S3):plain (stW p)=true:=by simp[stW]
@[simp] theorem am4 (p:S3):oIx (stW p) (.int 2)=.ok (.int p.2.2):=(rfl)
@[simp]def am6(p):oIx (spW p) (.int 0)=.ok (.int p.1):=(rfl)
@[simp]def am5(p):oIx (spW p) (.int 1)=.ok (.int p.2):=(rfl)
@[simp] def qB (p:S3):oSl (stW p) none (some 2)=.ok (spW (aE p)):=by simp[stW,spW,aE,sIx,cut]
theorem afN {f p k} (h0:0<=k) (h:f[k.toNat]?=some p):oIx (flW f) (.int k)=.ok (stW p):=by
  simp[flW,aga _ h0,h]
noncomputable def sfp(p:S3)(m n:Int):Int×Int:=if p.2.2=0 then(p.1+n,p.2.1+m)else if p.2.2=1 then(p.1-m,p.2.1+n)else if p.2.2=2 then(p.1-n,p.2.1-m)else(p.1+m,p.2.1-n)
noncomputable def agr(s:Int×Int):Nat->List S3->W|_,[]=>.non|k,p::f=>if aE p=s then .int k else agr s (k+1) f
def jZ{c:Type}{R:c->c->Prop}{l:List c}{x:c}(h:l.Pairwise R)(e:∀y∈l,R y x):(l++[x]).Pairwise R:=by rw[List.pairwise_append];exact⟨h,List.pairwise_singleton _ _,λa d b f=>by rw[aqt.mp f];exact e a d⟩
theorem toNat_inj{a b:Char}(h:a.toNat=b.toNat):a=b:=Char.ext (UInt32.toNat_inj.mp h)
@[simp]def afL(a b):(Str.ofString a=Str.ofString b)=(a=b):=by
 apply propext;constructor
 .intro h;rw[arS,arS]at h;have c:a.toList.map Char.toNat=b.toList.map Char.toNat:=by grind
  exact String.toList_inj.mp (List.map_inj_right (λ_ _=>toNat_inj)|>.mp c)
 .intro h;rw[h]
@[simp]def afM(a b):(Str.ofString a==Str.ofString b)=(a==b):=by rw[ap2];simp
def ahP(c:Char):c.toNat<0x110000:=by have h:=c.valid;have a:c.toNat=c.val.toNat:=rfl;omega
@[simp]def amU(n)(a):okD n (.str (Str.ofString a))=true:=by show(Str.ofString a).cps.all _=true;simp only[arS];simp only[List.all_toArray,asH,aqn,Function.comp,ap3];intro c _;exact ahP c
@[simp] def anb (a b:Str):oEq (.str a) (.str b)=.ok (.bl (decide (a=b))):=by show Res.ok (W.bl (a==b))=_;rw[arn]
@[simp] theorem amZ (a b:Str):oNe (.str a) (.str b)=.ok (.bl (!decide (a=b))):=by show Res.ok (W.bl !(a==b))=_;rw[arn]
theorem k8 (x ) (ys ):oIn x (.tup ys)=if okD 50 x&&jb 51 ys then .ok (.bl (dG x ys)) else .bad:=(rfl)
@[simp] def aik (x:W):dG x []=false:=by simp[dG]
@[simp] theorem vS (x y:W) (ys:List W):dG x (y::ys)=(eqv y x || dG x ys):=by simp[dG]
theorem ahi (xs:List W) (n:Int) (k:Nat) (hk:xs.length=k) (h0:0<k):∃ x∈xs,oIx (.lst xs) (.int (n%k))=.ok x:=by
  have a:=arx n (b:=(k:Int)) (by omega)
  have b:=arf n (b:=(k:Int)) (by omega)
  have c:(n%(k:Int)).toNat<xs.length:=by omega
  exact⟨xs[(n%(k:Int)).toNat],ap7 c,by rw[gD,aga _ a,apy c];rfl⟩
def nr{ws:List String}(n:Int)(k:Nat)(c:ws.length=k)(a:0<k):∃w∈ws,oIx (.lst (ws.map λ(w:String)=>.str (Str.ofString w))) (.int (n%k))=.ok (.str w):=by obtain⟨x,b,e⟩:=ahi (ws.map λ(w:String)=>.str (Str.ofString w)) n k (by simp[c]) a;obtain⟨w,hw,rfl⟩:=aqi.mp b;exact⟨w,hw,e⟩
noncomputable def ku(s:Int×Int):Nat->List S3->Option Nat|_,[]=>none|k,p::f=>if aE p=s then some k else ku s (k+1) f
noncomputable def onW:Option Nat->W|none=>.non|some k=>.int k
@[simp]def alk:onW none=.non:=(rfl)
@[simp]def alj(k):onW (some k)=.int k:=(rfl)
theorem wg(s):∀k f,agr s k f=onW (ku s k f)|_,[]=>rfl|k,p::f=>by simp [agr,ku,wg s _ f];split<;>rfl
theorem gp(s):∀k f i,ku s k f=some i->k<=i/\i<k+f.length
|_,[],_,h=>by simp[ku]at h|k,p::f,i,h=>by
 simp [ku]at h;split at h;.cases h;simp
 .have:=gp s _ f i h;simp ;omega
inductive What where|none|any|same|left|about|right|partner|opposite
inductive Lone where|head|side|lefts|rights|inward|outward|sideways
noncomputable def What.w:What->String|.none=>"none"|.any=>"any"|.same=>"same"|.left=>"left"|.about=>"about"|.right=>"right"|.partner=>"partner"|.opposite=>"opposite"
noncomputable def Lone.w:Lone->String|.head=>"head"|.side=>"side"|.lefts=>"lefts"|.rights=>"rights"|.inward=>"inward"|.outward=>"outward"|.sideways=>"sideways"
inductive Tst where|lone(l:Lone)|at(a r:Int)(w:What)|inner(n:Int)
def Tst.W:Tst->WL.W|.lone l=>.tup [.str l.w]|.at a r w=>.tup [.str "at",.int a,.int r,.str w.w]|.inner n=>.tup [.str "inner",.int n]
def tsW(neg:Bool)(t:Tst):WL.W:=if neg then .tup [.str "not",t.W]else t.W
noncomputable def far(s:Int×Int):Int:=if(if s.2<0 then -s.2 else s.2)>if s.1<0 then -s.1 else s.1 then if s.2<0 then -s.2 else s.2 else if s.1<0 then -s.1 else s.1
noncomputable def aN(f:List S3)(k:Nat):Int:=(f.getD k (0,0,0)).2.2
def ia(f:List S3)(d:Nat)(p:S3)(w:What):Option Nat->Bool
|none=>match w with|.none=>true|_=>false
|some k=>match w with|.none=>false|.any=>true|.same=>decide (aN f k=p.2.2)|.left=>decide (aN f k=(p.2.2+1)%4)|.about=>decide (aN f k=(p.2.2+2)%4)|.right=>decide (aN f k=(p.2.2+3)%4)|.partner=>decide ((k:Int)=if(d:Int)%2=0 then(d:Int)+1 else d-1)|.opposite=>decide ((k:Int)=(d+4)%8)
def dP(f:List S3)(d:Nat)(p:S3):Tst->Bool|.lone .head=>decide ((d:Int)/2%2=0)|.lone .side=>!decide ((d:Int)/2%2=0)|.lone .lefts=>decide ((d:Int)%2=0)|.lone .rights=>!decide ((d:Int)%2=0)|.lone .inward=>decide (far (sfp p 1 0)<far (aE p))|.lone .outward=>decide (far (aE p)<far (sfp p 1 0))|.lone .sideways=>decide (far (sfp p 1 0)=far (aE p))|.inner n=>decide (far (aE p)<=n)|.at a r w=>ia f d p w (ku (sfp p a r) 0 f)
inductive Go where|ahead|back|left|right
inductive Tn where|left|right|about
noncomputable def Go.w:Go->String|.ahead=>"ahead"|.back=>"back"|.left=>"left"|.right=>"right"
noncomputable def Tn.w:Tn->String|.left=>"left"|.right=>"right"|.about=>"about"
inductive Stp where|go(g:Go)(n:Int)|turn(t:Tn)
def Stp.W:Stp->WL.W|.go g n=>.tup [.str g.w,.int n]|.turn t=>.tup [.str "turn",.str t.w]
structure Rl where ts:List (Bool×Tst)ss:Option (List Stp)
def tsL(ts:List (Bool×Tst)):WL.W:=.tup (ts.map λp=>tsW p.1 p.2)
def ssW:Option (List Stp)->WL.W|none=>.tup [.tup [.str "stay"]]|some l=>.tup (l.map Stp.W)
def Rl.W(r:Rl):WL.W:=.tup [tsL r.ts,ssW r.ss]
def clW(c:List Rl):WL.W:=.lst (c.map Rl.W)
def abt{ι:Type}(n)(g)(l:List ι)(h:∀x∈l,okD n (g x)=true):jb (n+1) (l.map g)=true:=qA n _ λx a=>by grind
noncomputable def afR(g b:Bool):Bool:=if g then !b else b
def ro(l:List Bool):allB (l.map .bl)=some (l.all id):=by induction l with|nil=>rfl|cons b l ih=>simp[allB,ih]
abbrev cv(f:List S3):Prop:=f.Pairwise λp r=>aE p≠aE r
def aaI{p q:S3}(h:aE (FM.tq p)=aE (FM.tq q)):aE p=aE q:=by obtain⟨a,b,c⟩:=p;obtain⟨d,e,k⟩:=q;simp only[aE,FM.tq,aqg]at h⊢;omega
def p9(k:Nat):∀{p q:S3},aE (FM.tqn k p)=aE (FM.tqn k q)->aE p=aE q:=by induction k with|zero=>intro p q h;exact h|succ k ih=>intro p q h;exact ih (aaI h)
def ki{f:List S3}(h:cv f)(k:Nat):cv (f.map (FM.tqn k)):=by rw[cv,arP];exact h.imp λa e=>a (p9 k e)
inductive Met(f:List S3):W->Prop|none:cv f->Met f .non|two(i j:Nat):i<j->j<f.length->aE (f.getD i (0,0,0))=aE (f.getD j (0,0,0))->(∀a b,a<i->a<b->b<f.length->aE (f.getD a (0,0,0))≠aE (f.getD b (0,0,0)))->(∀b,i<b->b<j->aE (f.getD i (0,0,0))≠aE (f.getD b (0,0,0)))->Met f (.tup [.int i,.int j])
def rn{f}(h:∀a b,a<b->b<f.length->aE (f.getD a (0,0,0))≠aE (f.getD b (0,0,0))):cv f:=by rw[cv,aq2];intro i j e d c;have:=h i j c d;simpa[e,d]using this
def kj{f}(h:cv f){a b}(c:a<b)(e:b<f.length):aE (f.getD a (0,0,0))≠aE (f.getD b (0,0,0)):=by
 rw[cv,aq2]at h;have d:a<f.length:=by omega
 have:=h a b d e c;simpa[d,e]using this
def p8(p:S3):Stp->S3|.go .ahead n=>((sfp p n 0).1,(sfp p n 0).2,p.2.2)|.go .back n=>((sfp p (-n) 0).1,(sfp p (-n) 0).2,p.2.2)|.go .left n=>((sfp p 0 (-n)).1,(sfp p 0 (-n)).2,p.2.2)|.go .right n=>((sfp p 0 n).1,(sfp p 0 n).2,p.2.2)|.turn .left=>(p.1,p.2.1,(p.2.2+1)%4)|.turn .about=>(p.1,p.2.1,(p.2.2+2)%4)|.turn .right=>(p.1,p.2.1,(p.2.2+3)%4)
noncomputable def jj(p:S3):List Stp->List S3|[]=>[p]|s::l=>p::jj (p8 p s) l
def m3(p:S3):Option (List Stp)->List S3|none=>[p]|some l=>jj p l
def Fac(p:S3):Prop:=0<=p.2.2/\p.2.2<4
def mz(p)(s)(h:Fac p):Fac (p8 p s):=by obtain⟨a,b⟩:=h;cases s with|go g n=>cases g<;>exact⟨a,b⟩|turn t=>cases t<;>(constructor<;>simp [p8]<;>omega)
theorem rW:∀l p,Fac p->∀q∈jj p l,Fac q
|[],p,h,q,a=>by simp [jj]at a;rw[a];exact h|s::l,p,h,q,a=>by
 simp [jj]at a;rcases a with rfl|a;.exact h
 .exact rW l _ (mz p s h) q a
def mZ(s)(p)(h:Fac p):∀q∈m3 p s,Fac q:=by cases s with|none=>intro q a;simp only[m3,aqt]at a;rw[a];exact h|some l=>exact rW l p h
theorem rT:∀l p,(jj p l).length=l.length+1|[],p=>rfl|s::l,p=>by simp[jj,rT l]
def yx:∀l p,∃t,jj p l=p::t|[],p=>⟨[],rfl⟩|s::l,p=>⟨_,rfl⟩
def yW(s)(p):∃t,m3 p s=p::t:=by cases s with|none=>exact⟨[],rfl⟩|some l=>exact yx l p
noncomputable def inB(p:S3):Bool:=decide (-200<=p.1)&&decide (p.1<=200)&&(decide (-200<=p.2.1)&&decide (p.2.1<=200))
noncomputable def ka(w:List S3):S3:=w.getLastD (0,0,0)
def iX(w:List S3):W:=.lst (w.map stW)
def rG(ws:List (List S3)):W:=.lst (ws.map iX)
noncomputable def yV:Nat->List (List S3)->Option Nat|_,[]=>none|k,w::ws=>if(w.drop 1).all inB then yV (k+1) ws else some k
noncomputable def exN(nm:String)(d:Nat):W:=.exc nm [.int d]
noncomputable def ah5{a}:List (Res a)->Res (List a)|[]=>.ok []|r::rs=>r.bind λx=>(ah5 rs).bind λb=>.ok (x::b)
theorem tQ{g t e σ}{d:Type}{emb h}:∀{xs:List d},(∀x∈xs,∃a,g (emb x) σ=.ok a/\t a=.ok true/\e a=h x)->bF g t e σ (xs.map emb)=ah5 (xs.map h)|[],_=>rfl|x::xs,hh=>by obtain⟨a,c,f,b⟩:=hh x (by simp);have i:=tQ (xs:=xs) λy j=>hh y (by grind);simp [bF,c,f,b,ah5,i]
noncomputable def stR{b:Type}(k:b->W)(x:W):Option b->Res W|some a=>.ok (k a)|none=>.ex x
noncomputable def stN{b:Type}(k:b->W):Option b->W|some a=>k a|none=>.non
@[simp]def ak5{a}(k:a->W)(x):stR k x none=.ex x:=(rfl)
@[simp]def ak6{b}(k)(a:b):stN k (some a)=k a:=(rfl)
theorem sJ{c b:Type}{h:b->Option c}{k}{x:b->W}:∀(l:List b),ah5 (l.map λi=>stR k (x i) (h i))=(l.find? λi=>(h i).isNone).elim (.ok (l.map λi=>stN k (h i))) λi=>.ex (x i)|[]=>rfl|i::l=>by simp [ah5,ar3];cases e:h i with|none=>simp|some a=>rw[sJ l];cases l.find? _<;>rfl
def abL{w}(h:w≠[]):ka w∈w:=by cases w with|nil=>exact absurd rfl h|cons x xs=>exact List.getLast_mem h
def l4{a}(xs:List a):atI xs (-1)=xs.getLast?:=by unfold atI ixN;cases xs with|nil=>rfl|cons x xs=>
 have h:¬0 <=-1:=by omega
 rw[apA h];have b:-((x::xs).length:Int)<=-1:=by grind
 rw[apB b];simp only[arq,List.getLast?_eq_getElem?];congr 1;omega
def getD_mem{f:List S3}{d:Nat}(h:d<f.length):f.getD d (0,0,0)∈f:=by rw[apx,apy h];exact ap7 h
def adh{f:List S3}{s:Int×Int}{k:Nat}(h:ku s 0 f=some k):k<f.length:=by have:=gp s 0 f k h;omega
noncomputable def rot(s:Int×Int):Int×Int:=(-s.2,s.1)
def agU{s t}:rot s=rot t↔s=t:=by obtain⟨a,b⟩:=s;obtain⟨c,d⟩:=t;simp only[rot,aqg];omega
def aiP(p)(h:Fac p):Fac (FM.tq p):=by constructor<;>simp [FM.tq]<;>omega
def gy(p:S3):aE (FM.tq p)=rot (aE p):=rfl
def oO(p)(h:Fac p)(m n):sfp (FM.tq p) m n=rot (sfp p m n):=by
 obtain⟨x,y,f⟩:=p;obtain⟨a,b⟩:=h;have r:f=0\/f=1\/f=2\/f=3:=by grind
 rcases r with rfl|rfl|rfl|rfl<;>simp[sfp,FM.tq,rot]<;>omega
def ace(s:Int×Int):far (rot s)=far s:=by obtain⟨a,b⟩:=s;simp only[far,rot];by_cases e:a<0<;>by_cases c:b<0<;>by_cases d:-b<0<;>simp only[e,c,d,arc,asF]<;>(repeat' split)<;>omega
def adx(p)(h:Fac p)(s):p8 (FM.tq p) s=FM.tq (p8 p s):=by cases s with|go g n=>cases g<;>simp [p8,oO p h]<;>rfl|turn t=>cases t<;>simp[p8,FM.tq]<;>omega
theorem wD:∀l p,Fac p->jj (FM.tq p) l=(jj p l).map FM.tq|[],p,_=>rfl|s::l,p,h=>by simp [jj,adx p h s,wD l _ (mz p s h)]
def ad0(s)(p)(h:Fac p):m3 (FM.tq p) s=(m3 p s).map FM.tq:=by cases s with|none=>rfl|some l=>exact wD l p h
def aki(p:S3):inB (FM.tq p)=inB p:=by obtain⟨x,y,f⟩:=p;show(decide (-200 <=-y)&&decide (-y<=200)&&(decide (-200<=x)&&decide (x<=200)))=(decide _&&decide _&&(decide _&&decide _));rw[ap2];simp only[apT,ap3];constructor<;>omega
theorem we(s):∀f j,ku (rot s) j (f.map FM.tq)=ku s j f
|[],_=>rfl|p::f,j=>by
 simp [ku,gy,we s f _];by_cases h:aE p=s;.rw[apB h,apB (by rw[h])]
 .rw[apA h,apA λe=>h (agU.mp e)]
def iq{f:List S3}{d:Nat}(h:d<f.length):(f.map FM.tq).getD d (0,0,0)=FM.tq (f.getD d (0,0,0)):=by rw[apx,apX,apx,apy h];rfl
def aaM{f:List S3}(a:∀p∈f,Fac p){d:Nat}(n:d<f.length)(w:What)(o:Option Nat)(e:∀k,o=some k->k<f.length):ia (f.map FM.tq) d (FM.tq (f.getD d (0,0,0))) w o=ia f d (f.getD d (0,0,0)) w o:=by cases o with|none=>rfl|some k=>
 have b:=e k rfl;have c:aN (f.map FM.tq) k=(aN f k+1)%4:=by unfold aN;rw[iq b];rfl
 have i:0<=aN f k/\aN f k<4:=a _ (getD_mem b);have q:=a _ (getD_mem n);have m:(FM.tq (f.getD d (0,0,0))).2.2=((f.getD d (0,0,0)).2.2+1)%4:=rfl;generalize f.getD d (0,0,0)=p at *;obtain⟨j,l⟩:=i;obtain⟨h,g⟩:=q;cases w<;>simp only[ia,c,m]<;>first|rfl|(rw[ap2];simp only[ap3];omega)
def vr{f}(c:∀p∈f,Fac p){d}(b:d<f.length)(t):dP (f.map FM.tq) d ((f.map FM.tq).getD d (0,0,0)) t=dP f d (f.getD d (0,0,0)) t:=by rw[iq b];have e:=c _ (getD_mem b);cases t with|«at» a r w=>simp only[dP,oO _ e,we,aaM c b w _ λk h=>adh h]|inner n=>simp only[dP,gy,ace]|lone l=>cases l<;>simp only[dP,oO _ e,gy,ace]
theorem abm:∀ws k,yV k (ws.map (List.map FM.tq))=yV k ws
|[],_=>rfl|w::ws,k=>by
 have e:((w.map FM.tq).drop 1).all inB=(w.drop 1).all inB:=by rw[<-List.map_drop,asH];congr 1;funext p;exact aki p
 simp only[apU,yV,e,abm _ _]
def agA(k)(p)(h:Fac p):Fac (FM.tqn k p):=by induction k with|zero=>exact h|succ k ih=>exact aiP _ ih
def aeq(k){w:List S3}(h:w≠[]):ka (w.map (FM.tqn k))=FM.tqn k (ka w):=by unfold ka;rw[ary,ary,List.getLast?_map,ar7 h];rfl
def ahn(k){f}{i j:Nat}(h:Met f (.tup [.int i,.int j])):Met (f.map (FM.tqn k)) (.tup [.int i,.int j]):=by
 have g:∀d,d<f.length->(f.map (FM.tqn k)).getD d (0,0,0)=FM.tqn k (f.getD d (0,0,0)):=λd n=>by rw[apx,apX,apx,apy n];rfl
 have s:∀{p r:S3},aE p=aE r->aE (FM.tqn k p)=aE (FM.tqn k r):=λ{p r}e=>by induction k with|zero=>exact e|succ k q=>
   show aE (FM.tq _)=aE (FM.tq _);have q:=q λd n=>by rw[apx,apX,apx,apy n];rfl
   rw[gy,gy,q]
 generalize hw:W.tup _=w at h;cases h with|none _=>cases hw|two a b h1 h2 h3 h4 h5=>
  simp at hw;have u:i=a:=by omega
  have v:j=b:=by omega
  subst u v;refine .two i j h1 (by simpa using h2) ?_ (λa b t m c=>?_) λb l o=>?_;.rw[g i (by omega),g j h2];exact s h3
  .have c:b<f.length:=by simpa using c
   rw[g a (by omega),g b c];exact λe=>h4 a b t m c (p9 k e)
  .rw[g i (by omega),g b (by omega)];exact λe=>h5 b l o (p9 k e)
end ML
namespace K54
open PySem WL
noncomputable def et:W:=.int 8
noncomputable def lA:W:=.int 200
noncomputable def ly:W:=.tup [.tup [.int 0,.int 1],.tup [.int (-1),.int 0],.tup [.int 0,.int (-1)],.tup [.int 1,.int 0]]
noncomputable def gf:W:=.int 4
noncomputable def kh:W:=.dic [.str "same",.str "left",.str "about",.str "right"] [.int 0,.int 1,.int 2,.int 3]
noncomputable def fy:W:=.tup [.str "inward",.str "outward",.str "sideways"]
noncomputable def x1:W:=.dic [.str "ahead",.str "back",.str "left",.str "right"] [.tup [.int 1,.int 0],.tup [.int (-1),.int 0],.tup [.int 0,.int (-1)],.tup [.int 0,.int 1]]
def gw:SF:=aL (sIf (tB (eOp oLt (ai 1) (eBi pQ (ae (ai 0) aA)))) (cx (eOp oIx (ai 0) (ai 1))) sNx) (cx (eC (.int 0)))
def cq:List W->Res W:=run 2 gw
def iE:SF:=aL (fN 1 (eOp dy (hE 1 (vo (ai 0)) (aF 0) g9 (eOp oMod (ai 0) (eC (.int 1000000007)))) (hG (ae (eC (.int 0)) aA)))) (aL (sIf (tB (eOp oEq (eOp oMod (aK cq (ae (ai 0) (ae (eC (.int 0)) aA))) (eC (.int 2))) (eC (.int 0)))) (cx (alJ (ae (eC (.str "left")) (ae (eBi af9 (ae (aK cq (ae (ai 0) (ae (eC (.int 1)) aA))) aA)) (ae (eC (.str "at")) (ae (eUn pB (eC (.int 1))) (ae (eC (.str "cells")) (ae (ai 1) aA)))))))) sNx) (cx (alJ (ae (eC (.str "left")) (ae (eC (.int 0)) (ae (eC (.str "at")) (ae (eC (.int 0)) (ae (eC (.str "cells")) (ae (ai 1) aA)))))))))
def eR:List W->Res W:=run 2 iE
def kH:SF:=aL (aW 2 (yR 0 (eOp oIx (ai 0) (eC (.str "at"))))) (aL (iY (yRT 0 (yv (tB (eOp oLt (ai 2) (eC (.int 0)))) (tB (eOp oEq (eOp oIx (ai 0) (eC (.str "left"))) (eC (.int 0)))))) (aW 2 (yP 0 (eC (.int 0)))) sNx) (aL (iY (yRT 0 (yv (tB (eOp oGe (ai 2) (eC (.int 0)))) (tB (eOp oLt (eOp oIx (ai 0) (eC (.str "left"))) (eOp ahh (eC (.int 10)) (eC (.int 12))))))) (aL (aW 3 (yR 0 (eOp oIx (eOp oIx (ai 0) (eC (.str "cells"))) (eOp oMod (ai 2) (eBi pQ (ae (eOp oIx (ai 0) (eC (.str "cells"))) aA)))))) (aL (aW 4 (yP 0 (eOp oMod (eOp fh (eOp dy (eOp dy (eOp dy (ai 3) (eOp fh (eOp fh (eC (.int 7919)) (ai 2)) (ai 2))) (ai 2)) (eC (.int 1))) (eC (.int 48271))) (eC (.int 2147483629))))) (aL (aW 5 (yP 0 (eOp oMod (eOp dy (eOp dy (eOp fh (ai 4) (ai 4)) (eOp fh (eOp fh (eC (.int 69621)) (ai 2)) (ai 2))) (eC (.int 1))) (eC (.int 2147483587))))) (aL (sy 0 0 (yP 0 (eOp dy (eOp fh (ai 5) (eC (.int 314159265358979323846264338327950288419))) (eOp fh (ai 4) (eC (.int 27182818284590452353)))))) (sy 0 1 (yP 0 (eOp dy (ai 2) (eC (.int 1))))))))) sNx) (aL (aW 6 (yR 0 (eOp oMod (eOp oIx (ai 0) (eC (.str "left"))) (ai 1)))) (aL (sy 0 0 (yR 0 (eOp oDiv (eOp oIx (ai 0) (eC (.str "left"))) (ai 1)))) (eJ 0 (yP 0 (ai 6)))))))
def aj:FS:=ac1 7 kH
def mv:SF:=eJ 0 (xOp oIx (yP 0 (hG (ae (eC (.int 0)) (ae (eC (.int 0)) (ae (eC (.int 0)) (ae (eC (.int 185)) (ae (eUn pB (eC (.int 185))) aA))))))) (aQ aj 0 (ar (yP 0 (eC (.int 5))) aJ)))
def iu:FS:=ac1 1 mv
def hX:SF:=eJ 0 (xOp oIx (aix (ar (aQ aj 0 (ar (yP 0 (eC (.int 4))) aJ)) (ar (yP 0 (eC (.int 0))) (ar (xOp fh (aQ aj 0 (ar (yP 0 (eC (.int 2))) aJ)) (yP 0 (eC (.int 2)))) aJ)))) (aQ aj 0 (ar (yP 0 (eC (.int 3))) aJ)))
def du:FS:=ac1 1 hX
def kI:SF:=aL (ah3 (ai 0) (rB (cP (aF 3) (cP (aF 4) (cP (aF 5) qO))))) (aL (ah3 (eOp oIx (hG (ae (iZ (ae (eC (.int 0)) (ae (eC (.int 1)) aA))) (ae (iZ (ae (eUn pB (eC (.int 1))) (ae (eC (.int 0)) aA))) (ae (iZ (ae (eC (.int 0)) (ae (eUn pB (eC (.int 1))) aA))) (ae (iZ (ae (eC (.int 1)) (ae (eC (.int 0)) aA))) aA))))) (ai 5)) (rB (cP (aF 6) (cP (aF 7) qO)))) (cx (iZ (ae (eOp dy (eOp dy (ai 3) (eOp fh (ai 1) (ai 6))) (eOp fh (ai 2) (ai 7))) (ae (eOp g6 (eOp dy (ai 4) (eOp fh (ai 1) (ai 7))) (eOp fh (ai 2) (ai 6))) aA)))))
def dS:List W->Res W:=run 8 kI
def kK:SF:=cx (hG (ae (eOp dy (aK dS (ae (iZ (ae (ai 0) (ae (ai 1) (ae (ai 2) aA)))) (ae (eC (.int 0)) (ae (eUn pB (eC (.int 1))) aA)))) (iZ (ae (ai 2) aA))) (ae (eOp dy (aK dS (ae (iZ (ae (ai 0) (ae (ai 1) (ae (ai 2) aA)))) (ae (eC (.int 0)) (ae (eC (.int 1)) aA)))) (iZ (ae (ai 2) aA))) aA)))
def dv:List W->Res W:=run 3 kK
def cn:SF:=aL (aW 10 (yP 0 (eOp dy (ai 10) (eOp oIx (hG (ae (eC (.int 1)) (ae (eUn pB (eC (.int 1))) aA))) (eBi ac2 (ae (eOp oLt (ai 1) (eC (.int 0))) aA)))))) (aW 12 (yP 0 (aK dv (ae (ai 9) (ae (ai 10) (ae (eOp oIx (eOp oIx (ai 12) (eC (.int 0))) (eC (.int 2))) aA))))))
def cN:TF:=tOr (tB (eOp oIn (eSl (eOp oIx (ai 12) (eC (.int 0))) pNo (n7 (eC (.int 2)))) (ai 4))) (tB (eOp oIn (eSl (eOp oIx (ai 12) (eC (.int 1))) pNo (n7 (eC (.int 2)))) (ai 4)))
noncomputable def gE:Ws->Nat:=λ_=>200
def bQ:SF:=aL (aW 9 (xOp dy (xOp dy (xOp g6 (xOp fh (aQ aj 0 (ar (yP 0 (eC (.int 3))) aJ)) (yP 0 (eC (.int 4)))) (yP 0 (eC (.int 4)))) (xOp oDiv (aQ aj 0 (ar (yP 0 (eC (.int 4))) aJ)) (yP 0 (eC (.int 3))))) (yP 0 (ai 1)))) (aL (aW 10 (xOp g6 (xOp g6 (aQ aj 0 (ar (yP 0 (eC (.int 5))) aJ)) (yP 0 (eC (.int 2)))) (yP 0 (ai 1)))) (aL (aW 11 (aQ du 0 aJ)) (aL (iY (yT 0 (tB (ai 6))) (aL (aW 11 (yP 0 (ai 7))) (uJ [9,10] (yP 0 (aK dS (ae (iZ (ae (ai 1) (ae (eOp g6 (eC (.int 0)) (ai 1)) (ae (ai 11) aA)))) (ae (eC (.int 0)) (ae (eOp g6 (eOp fh (eC (.int 4)) (ai 8)) (eC (.int 6))) aA))))))) sNx) (aL (aW 12 (yP 0 (aK dv (ae (ai 9) (ae (ai 10) (ae (ai 11) aA)))))) (aL (pe gE (blk 0 cN) cn) (aL (aW 4 (yP 0 (eOp dy (ai 4) (hG (ae (eSl (eOp oIx (ai 12) (eC (.int 0))) pNo (n7 (eC (.int 2)))) (ae (eSl (eOp oIx (ai 12) (eC (.int 1))) pNo (n7 (eC (.int 2)))) aA)))))) (aL (i8 5 (yP 0 (eOp oIx (ai 12) (eC (.int 0)))) (yP 0 (eOp oIx (ai 3) (eOp fh (eC (.int 2)) (ai 8))))) (i8 5 (yP 0 (eOp oIx (ai 12) (eC (.int 1)))) (yP 0 (eOp oIx (ai 3) (eOp dy (eOp fh (eC (.int 2)) (ai 8)) (eC (.int 1)))))))))))))
def gv:SF:=aL (yH 0 2 (lLR (eC (.int 8)))) (aL (sx 3 (yP 0 (eC (.int 8))) ac0 (z7 3 (aQ aj 1 (ar (yP 1 (eOp g6 (eC (.int 8)) (ai 0))) aJ)))) (aL (aW 4 (yP 0 (hG aA))) (aL (aaV 5) (aL (aW 6 (xOp oEq (aQ aj 0 (ar (yP 0 (eC (.int 8))) aJ)) (yP 0 (eC (.int 1))))) (aL (aW 7 (aQ aj 0 (ar (yP 0 (eC (.int 4))) aJ))) (aL (sA (yP 0 (eC (.int 4))) (aF 8) bQ) (aL (iY (xOp oEq (aQ aj 0 (ar (yP 0 (eC (.int 6))) aJ)) (yP 0 (eC (.int 1)))) (aL (aW 13 (aQ aj 0 (ar (yP 0 (eC (.int 8))) aJ))) (aL (uJ [9,10,11] (yP 0 (ahI 5 (eOp zS (ai 5) (ai 13))))) (i8 5 (zO (ar (yP 0 (ai 9)) (ar (yP 0 (ai 10)) (ar (xOp oMod (xOp dy (yP 0 (eOp dy (ai 11) (eC (.int 1)))) (aQ aj 0 (ar (yP 0 (eC (.int 3))) aJ))) (yP 0 (eC (.int 4)))) aJ)))) (yP 0 (ai 13))))) sNx) (zR 5 (eJ 0 (yP 0 (eBi gg (ae (hE 1 (jB (eC (.int 8))) (aF 0) g9 (eOp zS (ai 6) (ai 0))) aA))))))))))))
def jD:FS:=ac1 14 gv
def kG:SF:=aL (aW 1 (zO (ar (xOp oIx (yP 0 (hG (ae (eC (.str "head")) (ae (eC (.str "side")) (ae (eC (.str "lefts")) (ae (eC (.str "rights")) (ae (eC (.str "inward")) (ae (eC (.str "outward")) (ae (eC (.str "sideways")) aA))))))))) (aQ aj 0 (ar (yP 0 (eC (.int 7))) aJ))) aJ))) (aL (aW 2 (aQ aj 0 (ar (yP 0 (eC (.int 16))) aJ))) (aL (iY (yT 0 (tB (eOp oGt (ai 2) (eC (.int 6))))) (aL (aW 3 (xOp g6 (aQ aj 0 (ar (yP 0 (eC (.int 7))) aJ)) (yP 0 (eC (.int 3))))) (aL (aW 4 (xOp g6 (aQ aj 0 (ar (yP 0 (eC (.int 7))) aJ)) (yP 0 (eC (.int 3))))) (aL (aW 5 (aQ aj 0 (ar (yP 0 (eC (.int 8))) aJ))) (aL (iY (yT 0 (tB (eOp oEq (ai 5) (eC (.int 1))))) (aW 3 (xOp g6 (aQ aj 0 (ar (yP 0 (eC (.int 19))) aJ)) (yP 0 (eC (.int 9))))) sNx) (aL (iY (yT 0 (tB (eOp oEq (ai 5) (eC (.int 2))))) (aW 4 (xOp g6 (aQ aj 0 (ar (yP 0 (eC (.int 19))) aJ)) (yP 0 (eC (.int 9))))) sNx) (aL (iY (yT 0 (yv (tB (eOp oEq (ai 3) (eC (.int 0)))) (tB (eOp oEq (ai 4) (eC (.int 0)))))) (aW 4 (yP 0 (eC (.int 1)))) sNx) (aL (aW 6 (yP 0 (hG (ae (eC (.str "none")) (ae (eC (.str "any")) (ae (eC (.str "same")) (ae (eC (.str "left")) (ae (eC (.str "about")) (ae (eC (.str "right")) (ae (eC (.str "partner")) (ae (eC (.str "opposite")) aA))))))))))) (aW 1 (zO (ar (yP 0 (eC (.str "at"))) (ar (yP 0 (ai 3)) (ar (yP 0 (ai 4)) (ar (xOp oIx (yP 0 (ai 6)) (aQ aj 0 (ar (yP 0 (eC (.int 8))) aJ))) aJ))))))))))))) (iY (yT 0 (tB (eOp oEq (ai 2) (eC (.int 6))))) (aW 1 (zO (ar (yP 0 (eC (.str "inner"))) (ar (xOp oIx (aix (ar (yP 0 (eC (.int 1))) (ar (yP 0 (eC (.int 2))) (ar (yP 0 (eC (.int 3))) (ar (aQ aj 0 (ar (yP 0 (eC (.int 201))) aJ)) aJ))))) (aQ aj 0 (ar (yP 0 (eC (.int 4))) aJ))) aJ)))) sNx)) (aL (iY (xOp oEq (aQ aj 0 (ar (yP 0 (eC (.int 4))) aJ)) (yP 0 (eC (.int 1)))) (eJ 0 (yP 0 (iZ (ae (eC (.str "not")) (ae (ai 1) aA))))) sNx) (eJ 0 (yP 0 (ai 1))))))
def dR:FS:=ac1 7 kG
def iC:SF:=aL (aW 1 (aQ aj 0 (ar (yP 0 (eC (.int 8))) aJ))) (aL (aW 2 (xOp dy (yP 0 (eC (.int 1))) (aQ aj 0 (ar (xOp oIx (yP 0 (hG (ae (eC (.int 3)) (ae (eC (.int 3)) (ae (eC (.int 3)) (ae (eC (.int 9)) aA)))))) (aQ aj 0 (ar (yP 0 (eC (.int 4))) aJ))) aJ)))) (aL (iY (yT 0 (tB (eOp oGt (ai 1) (eC (.int 5))))) (eJ 0 (zO (ar (yP 0 (eC (.str "turn"))) (ar (xOp oIx (yP 0 (hG (ae (eC (.str "left")) (ae (eC (.str "right")) (ae (eC (.str "about")) aA))))) (aQ aj 0 (ar (yP 0 (eC (.int 3))) aJ))) aJ)))) sNx) (eJ 0 (yP 0 (iZ (ae (eOp oIx (hG (ae (eC (.str "ahead")) (ae (eC (.str "ahead")) (ae (eC (.str "ahead")) (ae (eC (.str "back")) (ae (eC (.str "left")) (ae (eC (.str "right")) aA))))))) (ai 1)) (ae (ai 2) aA)))))))
def eQ:FS:=ac1 3 iC
def gu:SF:=aL (iY (xOp oEq (aQ aj 0 (ar (yP 0 (eC (.int 9))) aJ)) (yP 0 (eC (.int 1)))) (eJ 0 (yP 0 (iZ (ae (iZ (ae (eC (.str "stay")) aA)) aA)))) sNx) (eJ 0 (xBi gg (ar (uq (xOp dy (yP 0 (eC (.int 1))) (aQ aj 0 (ar (yP 0 (ai 1)) aJ))) ac0 (aQ eQ 1 aJ)) aJ)))
def fc:FS:=ac1 2 gu
def en:SF:=aL (aW 5 (aQ aj 0 (ar (yP 0 (eOp oIx (hG (ae (eC (.int 3)) (ae (eC (.int 7)) aA))) (ai 2))) aJ))) (aL (iY (ak2 (yT 0 (tB (eOp oEq (eOp dy (ai 4) (eC (.int 1))) (ai 3)))) (xOp oGt (aQ aj 0 (ar (yP 0 (eC (.int 4))) aJ)) (yP 0 (eC (.int 0))))) (aW 5 (yP 0 (eC (.int 0)))) sNx) (aL (aW 6 (xBi gg (ar (uq (yP 0 (ai 5)) ac0 (aQ dR 1 aJ)) aJ))) (agT 1 (zO (ar (yP 0 (ai 6)) (ar (aQ fc 0 (ar (yP 0 (eOp oIx (hG (ae (eC (.int 4)) (ae (eC (.int 8)) aA))) (ai 2))) aJ)) aJ))))))
def kJ:SF:=aL (yH 0 1 (aib aA)) (aL (aW 2 (xBi ac2 (ar (xOp oEq (aQ aj 0 (ar (yP 0 (eC (.int 8))) aJ)) (yP 0 (eC (.int 1)))) aJ))) (aL (aW 3 (xOp dy (yP 0 (eC (.int 1))) (aQ aj 0 (ar (yP 0 (eOp oIx (hG (ae (eC (.int 4)) (ae (eC (.int 12)) aA))) (ai 2))) aJ)))) (aL (sA (yP 0 (ai 3)) (aF 4) en) (zR 1 (eJ 0 (yP 0 (ai 1)))))))
def iQ:FS:=ac1 7 kJ
def rP:SF:=cx (iZ (ae (eOp oIx (ai 0) (eC (.int 0))) (ae (eOp oIx (ai 0) (eC (.int 1))) aA)))
def fb:List W->Res W:=run 1 rP
def fX:SF:=sIf (tB (eOp oEq (aK fb (ae (ai 3) aA)) (ai 1))) (cx (ai 2)) sNx
def pZ:SF:=aL (wO (vq (ai 0)) (rB (cP (aF 2) (cP (aF 3) qO))) fX) (cx (eC .non))
def fv:List W->Res W:=run 4 pZ
def jg:SF:=aL (fN 3 (eOp oIx (eC ly) (eOp oIx (ai 0) (eC (.int 2))))) (aL (fN 4 (eOp dy (eOp fh (eOp oIx (ai 3) (eC (.int 0))) (ai 1)) (eOp fh (eOp oIx (ai 3) (eC (.int 1))) (ai 2)))) (aL (fN 5 (eOp g6 (eOp fh (eOp oIx (ai 3) (eC (.int 1))) (ai 1)) (eOp fh (eOp oIx (ai 3) (eC (.int 0))) (ai 2)))) (cx (iZ (ae (eOp dy (eOp oIx (ai 0) (eC (.int 0))) (ai 4)) (ae (eOp dy (eOp oIx (ai 0) (eC (.int 1))) (ai 5)) aA))))))
def bS:List W->Res W:=run 6 jg
def fk:SF:=aL (fN 2 (eOp oIx (ai 0) (ai 1))) (aL (fN 3 (aK fv (ae (ai 0) (ae (aK bS (ae (ai 2) (ae (eC (.int 0)) (ae (eC (.int 2)) aA)))) aA)))) (cx (eIf (yv (tB (eOp j5 (ai 3) (eC .non))) (tB (eOp oEq (eOp oIx (eOp oIx (ai 0) (ai 3)) (eC (.int 2))) (eOp oIx (ai 2) (eC (.int 2)))))) (ai 3) (eC .non))))
def dr:List W->Res W:=run 4 fk
def dZ:SF:=aL (sIf (tB (eOp oNe (eOp oMod (eBi pQ (ae (ai 0) aA)) (eC (.int 2))) (eC (.int 0)))) (uK "NoPairs" (ae (eFr (ai 0)) aA)) sNx) (cx (hE 1 (ab0 (eC (.int 0)) (eBi pQ (ae (ai 0) aA))) (aF 0) g9 (iZ (ae (eOp oIx (ai 1) (ai 0)) (ae (eOp oIx (ai 1) (eOp dy (ai 0) (eC (.int 1)))) aA)))))
def cX:List W->Res W:=run 1 dZ
def ft:SF:=ai7 2 (ahI 2 (eOp oIx (ai 0) (eOp oIx (ai 2) (eUn pB (eC (.int 1))))))
def dq:TF:=ah2 2 (tB (eOp j5 (eOp oIx (ai 0) (eOp oIx (ai 2) (eUn pB (eC (.int 1))))) (eC .non)))
noncomputable def lL:Ws->Nat:=λ_=>20
def kE:SF:=aL (sv 2 (aib (ae (ai 1) aA))) (aL (pe lL dq ft) (zR 2 (cx (ai 2))))
def iP:List W->Res W:=run 3 kE
def bp:SF:=sIf (tB (eOp oEq (aK fb (ae (eOp oIx (ai 0) (ai 1)) aA)) (aK fb (ae (eOp oIx (ai 0) (ai 2)) aA)))) (cx (iZ (ae (ai 1) (ae (ai 2) aA)))) sNx
def cO:SF:=wO (vp (eOp dy (ai 1) (eC (.int 1))) (eBi pQ (ae (ai 0) aA))) (aF 2) bp
def dB:SF:=aL (wO (jB (eBi pQ (ae (ai 0) aA))) (aF 1) cO) (cx (eC .non))
def bC:List W->Res W:=run 3 dB
def p6:SF:=aL (fN 2 (aK bS (ae (ai 0) (ae (eC (.int 0)) (ae (ai 1) aA))))) (cx (iZ (ae (eOp oIx (ai 2) (eC (.int 0))) (ae (eOp oIx (ai 2) (eC (.int 1))) (ae (eOp oIx (ai 0) (eC (.int 2))) aA)))))
def fw:List W->Res W:=run 3 p6
def hU:SF:=cx (hE 1 (vo (ai 1)) (aF 0) g9 (aK fw (ae (eOp oIx (ai 1) (eOp oIx (ai 0) (eC (.int 0)))) (ae (eC (.int 1)) aA))))
def cj:List W->Res W:=run 2 hU
def aT:SF:=sIf (tB (eOp pA (ai 3) (ai 1))) (ala 2 (kg cX (ae (aK iP (ae (ai 1) (ae (ai 3) aA))) aA))) sNx
def kF:SF:=aL (fN 1 (hE 1 (jB (eC et)) (aF 0) g9 (aK dr (ae (ai 1) (ae (ai 0) aA))))) (aL (sv 2 (aib aA)) (aL (wO (jB (eC et)) (aF 3) aT) (aL (sIf (ah2 2 (tB (eOp j5 (aK bC (ae (aK cj (ae (ai 0) (ae (ai 2) aA))) aA)) (eC .non)))) (wN "NoPairs" (ae (eC (.str "two pairs of one middle")) aA)) sNx) (zR 2 (cx (eBi lO (ae (ai 2) aA)))))))
def dt:List W->Res W:=run 4 kF
def gK:List W->Res W:=aoq "PairedFloor" dt cj
def eW:SF:=cx (eOp oMod (eOp dy (ai 0) (eOp oIx (eC kh) (ai 1))) (eC gf))
def bZ:List W->Res W:=run 2 eW
def uy:SF:=aL (sIf (tB (eOp oIs (ai 2) (eC .non))) (cx (eOp oEq (ai 3) (eC (.str "none")))) sNx) (aL (sIf (tB (eOp oIn (ai 3) (iZ (ae (eC (.str "none")) (ae (eC (.str "any")) aA))))) (cx (eOp oEq (ai 3) (eC (.str "any")))) sNx) (cx (eOp oEq (eOp oIx (eOp oIx (ai 1) (ai 2)) (eC (.int 2))) (aK bZ (ae (eOp oIx (ai 0) (eC (.int 2))) (ae (ai 3) aA))))))
def lh:List W->Res W:=run 4 uy
def ck:SF:=aL (sIf (tB (eOp oIn (eOp oIx (ai 2) (eC (.int 3))) (iZ (ae (eC (.str "partner")) (ae (eC (.str "opposite")) aA))))) (cx (eC (.bl false))) sNx) (aL (fN 3 (eOp oIx (kf "PairedFloor" 2 (ai 0)) (ai 1))) (aL (fN 4 (aK fv (ae (kf "PairedFloor" 2 (ai 0)) (ae (aK bS (ae (ai 3) (ae (eOp oIx (ai 2) (eC (.int 1))) (ae (eOp fh (eC (.int 2)) (eOp oIx (ai 2) (eC (.int 2)))) aA)))) aA)))) (cx (aK lh (ae (ai 3) (ae (kf "PairedFloor" 2 (ai 0)) (ae (ai 4) (ae (eOp oIx (ai 2) (eC (.int 3))) aA))))))))
def bJ:List W->Res W:=run 5 ck
def oJ:SF:=cx (eBi zL (ae (eBi af9 (ae (eOp oIx (ai 0) (eC (.int 0))) aA)) (ae (eBi af9 (ae (eOp oIx (ai 0) (eC (.int 1))) aA)) aA)))
def gc:List W->Res W:=run 1 oJ
def p5:SF:=aL (fN 1 (aK gc (ae (aK fb (ae (ai 0) aA)) aA))) (aL (fN 2 (aK gc (ae (aK bS (ae (ai 0) (ae (eC (.int 1)) (ae (eC (.int 0)) aA)))) aA))) (aL (sIf (tB (eOp oEq (ai 2) (ai 1))) (cx (eC (.str "sideways"))) sNx) (cx (eIf (tB (eOp oLt (ai 2) (ai 1))) (eC (.str "inward")) (eC (.str "outward"))))))
def gJ:List W->Res W:=run 3 p5
def mr:SF:=cx (eIf (tB (eOp oEq (eOp oMod (ai 0) (eC (.int 2))) (eC (.int 0)))) (eOp dy (ai 0) (eC (.int 1))) (eOp g6 (ai 0) (eC (.int 1))))
def kc:List W->Res W:=run 1 mr
def oH:SF:=cx (eOp oMod (eOp dy (ai 0) (eOp oDiv (eC et) (eC (.int 2)))) (eC et))
def lg:List W->Res W:=run 1 oH
def aay:SF:=aL (fN 3 (eOp oIx (ai 0) (ai 1))) (aL (fN 4 (eOp oIx (ai 2) (eC (.int 3)))) (aL (fN 5 (aK fv (ae (ai 0) (ae (aK bS (ae (ai 3) (ae (eOp oIx (ai 2) (eC (.int 1))) (ae (eOp oIx (ai 2) (eC (.int 2))) aA)))) aA)))) (aL (sIf (tB (eOp oEq (ai 4) (eC (.str "partner")))) (cx (eOp oEq (ai 5) (aK kc (ae (ai 1) aA)))) sNx) (aL (sIf (tB (eOp oEq (ai 4) (eC (.str "opposite")))) (cx (eOp oEq (ai 5) (aK lg (ae (ai 1) aA)))) sNx) (cx (aK lh (ae (ai 3) (ae (ai 0) (ae (ai 5) (ae (ai 4) aA))))))))))
def xR:List W->Res W:=run 6 aay
def rR:SF:=cx (eOp oEq (eOp oMod (eOp oDiv (ai 0) (eC (.int 2))) (eC (.int 2))) (eC (.int 0)))
def nM:List W->Res W:=run 1 rR
def rQ:SF:=cx (eOp oEq (eOp oMod (ai 0) (eC (.int 2))) (eC (.int 0)))
def nL:List W->Res W:=run 1 rQ
def mx:SF:=aL (sIf (tB (eOp oIn (ai 1) (iZ (ae (eC (.str "head")) (ae (eC (.str "side")) aA))))) (cx (eOp oEq (aK nM (ae (ai 0) aA)) (eOp oEq (ai 1) (eC (.str "head"))))) sNx) (cx (eOp oEq (aK nL (ae (ai 0) aA)) (eOp oEq (ai 1) (eC (.str "lefts")))))
def iw:List W->Res W:=run 2 mx
def kN(a:List W->Res W):SF:=aL (fN 3 (eOp oIx (ai 2) (eC (.int 0)))) (aL (sIf (tB (eOp oEq (ai 3) (eC (.str "not")))) (cx (ahH (aK a (ae (ai 0) (ae (ai 1) (ae (eOp oIx (ai 2) (eC (.int 1))) aA)))))) sNx) (aL (sIf (tB (eOp oEq (ai 3) (eC (.str "at")))) (cx (aK xR (ae (ai 0) (ae (ai 1) (ae (ai 2) aA))))) sNx) (aL (sIf (tB (eOp oEq (ai 3) (eC (.str "inner")))) (cx (eOp oLe (aK gc (ae (aK fb (ae (eOp oIx (ai 0) (ai 1)) aA)) aA)) (eOp oIx (ai 2) (eC (.int 1))))) sNx) (aL (sIf (tB (eOp oIn (ai 3) (eC fy))) (cx (eOp oEq (aK gJ (ae (eOp oIx (ai 0) (ai 1)) aA)) (ai 3))) sNx) (cx (aK iw (ae (ai 1) (ae (ai 3) aA))))))))
noncomputable def dU:Nat->List W->Res W|0=>λ_=>.bad|n+1=>run 4 (kN (dU n))
def aV(a:List W->Res W):SF:=aL (sIf (tB (eOp oEq (eOp oIx (ai 2) (eC (.int 0))) (eC (.str "not")))) (cx (ahH (ke "PairedFloor" a (ai 0) (ae (ai 1) (ae (eOp oIx (ai 2) (eC (.int 1))) aA))))) sNx) (aL (sIf (tB (eOp oEq (eOp oIx (ai 2) (eC (.int 0))) (eC (.str "at")))) (cx (ke "PairedFloor" bJ (ai 0) (ae (ai 1) (ae (ai 2) aA)))) sNx) (aL (sIf (tB (eOp oIn (eOp oIx (ai 2) (eC (.int 0))) (eC fy))) (cx (eOp oEq (aK gJ (ae (eOp oIx (kf "PairedFloor" 2 (ai 0)) (ai 1)) aA)) (eOp oIx (ai 2) (eC (.int 0))))) sNx) (cx (eBi ae1 (ae (hE 1 (vo (eOp oIx (kf "PairedFloor" 1 (ai 0)) (ai 1))) (aF 0) g9 (aK (dU 3) (ae (kf "PairedFloor" 0 (ai 1)) (ae (ai 0) (ae (ai 3) aA))))) aA)))))
noncomputable def au:Nat->List W->Res W|0=>λ_=>.bad|n+1=>run 3 (aV (au n))
def aO:SF:=sIf (tB (eBi ae1 (ae (nQ 1 (vo (eOp oIx (ai 3) (eC (.int 0)))) (aF 0) g9 (ke "PairedFloor" (au 3) (ai 1) (ae (ai 2) (ae (ai 0) aA)))) aA))) (cx (eOp oIx (ai 3) (eC (.int 1)))) sNx
def bW:SF:=aL (wO (vo (ai 2)) (aF 3) aO) (jl "Blind" (ae (eOp oIx (eOp oIx (kf "PairedFloor" 1 (ai 0)) (ai 1)) (eC (.int 0))) aA))
def bq:List W->Res W:=run 4 bW
def dY:SF:=aL (sIf (tB (eOp oEq (eOp oIx (ai 1) (eC (.int 0))) (eC (.str "turn")))) (cx (iZ (ae (eOp oIx (ai 0) (eC (.int 0))) (ae (eOp oIx (ai 0) (eC (.int 1))) (ae (aK bZ (ae (eOp oIx (ai 0) (eC (.int 2))) (ae (eOp oIx (ai 1) (eC (.int 1))) aA))) aA))))) sNx) (aL (fN 2 (eOp oIx (eC x1) (eOp oIx (ai 1) (eC (.int 0))))) (aL (fN 3 (aK bS (ae (ai 0) (ae (eOp fh (eOp oIx (ai 2) (eC (.int 0))) (eOp oIx (ai 1) (eC (.int 1)))) (ae (eOp fh (eOp oIx (ai 2) (eC (.int 1))) (eOp oIx (ai 1) (eC (.int 1)))) aA))))) (cx (iZ (ae (eOp oIx (ai 3) (eC (.int 0))) (ae (eOp oIx (ai 3) (eC (.int 1))) (ae (eOp oIx (ai 0) (eC (.int 2))) aA)))))))
def cW:List W->Res W:=run 4 dY
def eP:SF:=sIf (tB (eOp oNe (eOp oIx (ai 3) (eC (.int 0))) (eC (.str "stay")))) (ai7 2 (ahI 2 (aK cW (ae (eOp oIx (ai 2) (eUn pB (eC (.int 1)))) (ae (ai 3) aA))))) sNx
def lW:SF:=aL (sv 2 (aib (ae (ai 0) aA))) (aL (wO (vo (ai 1)) (aF 3) eP) (zR 2 (cx (ai 2))))
def iO:List W->Res W:=run 4 lW
def mq:SF:=cx (eIf (tB (eOp oIn (eOp oIx (ai 0) (eC (.int 0))) (iZ (ae (eC (.str "left")) (ae (eC (.str "right")) aA))))) (iZ (ae (eOp oIx (ai 0) (eC (.int 0))) (ae (eOp fh (eC (.int 2)) (eOp oIx (ai 0) (eC (.int 1)))) aA))) (ai 0))
def f6:List W->Res W:=run 1 mq
def iG:SF:=aL (fN 1 (aK bC (ae (ai 0) aA))) (aL (sIf (tB (eOp j5 (ai 1) (eC .non))) (jl "Meet" (ae (eOp oIx (ai 1) (eC (.int 0))) (ae (eOp oIx (ai 1) (eC (.int 1))) aA))) sNx) (cx (eBi gg (ae (ai 0) aA))))
def cQ:List W->Res W:=run 2 iG
def iF:SF:=cx (acu (eBi bT (ae (ai 0) (ae (eC (.ty "int")) aA))) (ahH (eBi bT (ae (ai 0) (ae (eC (.ty "bool")) aA)))))
def f7:List W->Res W:=run 1 iF
def kM:SF:=cx (acu (aK f7 (ae (ai 0) aA)) (pN oLe oLe (eUn pB (eC lA)) (ai 0) (eC lA)))
def gb:List W->Res W:=run 1 kM
def jh:SF:=cx (acu (aK f7 (ae (ai 0) aA)) (pN oLe oLt (eC (.int 0)) (ai 0) (eBi pQ (ae (eC ly) aA))))
def gI:List W->Res W:=run 1 jh
def kL:SF:=aL (sIf (tOr (zQ (tB (eBi bT (ae (ai 0) (ae (eC (.ty "tuple")) aA))))) (tB (eOp oNe (eBi pQ (ae (ai 0) aA)) (eC (.int 3))))) (cx (eC (.bl false))) sNx) (cx (acu (aK gb (ae (eOp oIx (ai 0) (eC (.int 0))) aA)) (acu (aK gb (ae (eOp oIx (ai 0) (eC (.int 1))) aA)) (aK gI (ae (eOp oIx (ai 0) (eC (.int 2))) aA)))))
def f9:List W->Res W:=run 1 kL
def cJ:SF:=sIf (zQ (tB (eBi ae1 (ae (hE 1 (vo (eSl (ai 2) (n7 (eC (.int 1))) pNo)) (aF 0) g9 (aK f9 (ae (ai 0) aA))) aA)))) (jl "Out" (ae (ai 1) aA)) sNx
def jN:SF:=aL (wO (vq (ai 0)) (rB (cP (aF 1) (cP (aF 2) qO))) cJ) (cx (ai 0))
def iv:List W->Res W:=run 3 jN
def bA:SF:=aL (fN 7 (aK iO (ae (eOp oIx (kf "PairedFloor" 2 (ai 2)) (ai 5)) (ae (hE 1 (vo (eOp oIx (ai 3) (ai 5))) (aF 0) g9 (aK f6 (ae (ai 0) aA))) aA)))) (aL (ah3 (hE 1 (vo (ai 7)) (aF 0) g9 (aK fw (ae (ai 0) (ae (eUn pB (eC (.int 1))) aA)))) (aeD 4 (eOp oIx (ai 6) (eC (.int 0))))) (ah3 (hE 1 (vo (ai 7)) (aF 0) g9 (aK fw (ae (ai 0) (ae (eC (.int 1)) aA)))) (aeD 4 (eOp oIx (ai 6) (eC (.int 1))))))
def bK:SF:=aL (fN 2 (nP "PairedFloor" gK (ae (ai 0) aA))) (aL (fN 3 (nQ 1 (jB (eBi pQ (ae (kf "PairedFloor" 1 (ai 2)) aA))) (aF 0) g9 (ke "PairedFloor" bq (ai 3) (ae (ai 0) (ae (ai 2) aA))))) (aL (sv 4 (vl 1 (jB (eC et)) (aF 0) g9 (hG aA))) (aL (wO (vq (kf "PairedFloor" 1 (ai 2))) (rB (cP (aF 5) (cP (aF 6) qO))) bA) (zR 4 (cx (kg cQ (ae (hE 1 (vo (kg iv (ae (ai 4) aA))) (aF 0) g9 (eOp oIx (ai 0) (eUn pB (eC (.int 1))))) aA)))))))
def aX:List W->Res W:=run 8 bK
def mw:SF:=aL (fN 1 (hG (ae (eBi rj (ae (ai 0) (ae (eC (.cls "Blind")) aA))) (ae (eBi rj (ae (ai 0) (ae (eC (.cls "Out")) aA))) (ae (eBi rj (ae (ai 0) (ae (eC (.cls "Meet")) aA))) (ae (eBi rj (ae (ai 0) (ae (eC (.cls "NoPairs")) aA))) aA)))))) (aL (fN 2 (hG (ae (eBi rj (ae (ai 0) (ae (eC (.cls "Broken")) aA))) (ae (eBi rj (ae (ai 0) (ae (eC (.cls "NoCall")) aA))) (ae (eBi rj (ae (ai 0) (ae (eC (.cls "NoName")) aA))) (ae (eBi rj (ae (ai 0) (ae (eC (.cls "NoProgram")) aA))) aA)))))) (aL (fN 2 (eOp dy (ai 2) (hG (ae (eBi rj (ae (ai 0) (ae (eC (.cls "NoRow")) aA))) (ae (eBi rj (ae (ai 0) (ae (eC (.cls "NotEven")) aA))) (ae (eBi rj (ae (ai 0) (ae (eC (.cls "TooMany")) aA))) aA)))))) (aL (sIf (tOr (tB (eOp oNe (aoO "list" pH (ai 1) (ae (eC (.bl true)) aA)) (eC (.int 1)))) (tOr (tB (eOp oIn (eC (.bl true)) (ai 2))) (zQ (tB (eBi rj (ae (ai 0) (ae (eC (.ty "ValueError")) aA))))))) (cx (hG (ae (eC (.str "none")) aA))) sNx) (aL (sIf (tB (eOp oIx (ai 1) (eC (.int 3)))) (cx (hG (ae (eC (.str "NoPairs")) aA))) sNx) (aL (sIf (tB (eOp oIx (ai 1) (eC (.int 2)))) (cx (hG (ae (eC (.str "Meet")) (ae (alI (ai 0) "one") (ae (alI (ai 0) "other") aA))))) sNx) (cx (hG (ae (eOp oIx (hG (ae (eC (.str "Blind")) (ae (eC (.str "Out")) aA))) (eBi ac2 (ae (eOp oIx (ai 1) (eC (.int 1))) aA))) (ae (alI (ai 0) "who") aA)))))))))
def di:List W->Res W:=run 3 mw
def cH:SF:=fN 2 (kg aX (ae (ai 0) (ae (ai 1) aA)))
def dj:SF:=fN 2 (aK di (ae (ai 3) aA))
def dI:SF:=aL (fN 2 (eC .non)) (aL (su cH "FloorError" 3 dj) (cx (ai 2)))
def cb:List W->Res W:=run 4 dI
def mu:SF:=cx (acu (eBi bT (ae (ai 0) (ae (eC (.ty "int")) aA))) (ahH (eBi bT (ae (ai 0) (ae (eC (.ty "bool")) aA)))))
def nK:List W->Res W:=run 1 mu
def fu(a:List W->Res W):SF:=sIf (zQ (tB (aK a (ae (ai 2) (ae (ai 3) aA))))) (cx (eC (.bl false))) sNx
def iD(a:List W->Res W):SF:=aL (sIf (tB (eBi gQ (ae (ai 1) (ae (iZ (ae (eC (.ty "list")) (ae (eC (.ty "tuple")) aA))) aA)))) (aL (sIf (tOr (tB (eOp oNe (eBi bT (ae (ai 0) (ae (eC (.ty "list")) aA))) (eBi bT (ae (ai 1) (ae (eC (.ty "list")) aA))))) (tB (eOp oNe (eBi bT (ae (ai 0) (ae (eC (.ty "tuple")) aA))) (eBi bT (ae (ai 1) (ae (eC (.ty "tuple")) aA)))))) (cx (eC (.bl false))) sNx) (aL (sIf (tB (eOp oNe (eBi pQ (ae (ai 0) aA)) (eBi pQ (ae (ai 1) aA)))) (cx (eC (.bl false))) sNx) (aL (wO (akn (ai 0) (ai 1)) (rB (cP (aF 2) (cP (aF 3) qO))) (fu a)) (cx (eC (.bl true)))))) sNx) (aL (sIf (tB (eBi bT (ae (ai 1) (ae (eC (.ty "str")) aA)))) (cx (acu (eBi bT (ae (ai 0) (ae (eC (.ty "str")) aA))) (eOp oEq (ai 0) (ai 1)))) sNx) (cx (acu (aK nK (ae (ai 0) aA)) (eOp oEq (ai 0) (ai 1)))))
noncomputable def aR:Nat->List W->Res W|0=>λ_=>.bad|n+1=>run 4 (iD (aR n))
def i3:SF:=cx (iZ (ae (eUn pB (eOp oIx (ai 0) (eC (.int 1)))) (ae (eOp oIx (ai 0) (eC (.int 0))) (ae (eOp oMod (eOp dy (eOp oIx (ai 0) (eC (.int 2))) (eC (.int 1))) (eC gf)) aA))))
def ee:List W->Res W:=run 1 i3
def iL:SF:=fN 2 (eBi gg (ae (hE 1 (vo (ai 2)) (aF 0) g9 (aK ee (ae (ai 0) aA))) aA))
def p0:SF:=aL (fN 2 (ai 0)) (aL (wO (jB (eOp oMod (ai 1) (eC gf))) (aF 3) iL) (cx (ai 2)))
def dD:List W->Res W:=run 4 p0
def cB:SF:=fN 1 (kg dt (ae (ai 0) aA))
def dA:SF:=fN 1 (aK di (ae (ai 2) aA))
def da:SF:=aL (fN 1 (hG aA)) (aL (su cB "FloorError" 2 dA) (cx (ai 1)))
def bO:List W->Res W:=run 3 da
def jz:SF:=aL (aW 4 (aQ jD 1 (ar (yP 1 (ai 2)) aJ))) (aL (aW 5 (xOp g6 (aQ aj 1 (ar (yP 1 (eC (.int 9))) aJ)) (yP 1 (eC (.int 4))))) (aL (iY (yT 1 (zQ (tB (aK (aR 3) (ae (aK bO (ae (aK dD (ae (ai 4) (ae (ai 5) aA))) aA)) (ae (aK bO (ae (ai 4) aA)) aA)))))) (eJ 1 (yP 1 (eC (.bl false)))) sNx) (aL (aW 6 (aQ iQ 1 aJ)) (aL (aW 7 (yP 1 (aK cb (ae (ai 4) (ae (ai 6) aA))))) (aL (iY (yT 1 (tB (eBi bT (ae (ai 7) (ae (eC (.ty "tuple")) aA))))) (aW 7 (yP 1 (aK dD (ae (ai 7) (ae (ai 5) aA))))) sNx) (iY (yT 1 (zQ (tB (aK (aR 3) (ae (aK cb (ae (aK dD (ae (ai 4) (ae (ai 5) aA))) (ae (ai 6) aA))) (ae (ai 7) aA)))))) (eJ 1 (yP 1 (eC (.bl false)))) sNx))))))
def aaz:SF:=agR 1 eR (ae (ai 0) aA) (aL (aW 2 (aQ iu 1 aJ)) (aL (sA (aQ aj 1 (ar (yP 1 (eC (.int 31))) aJ)) (aF 3) jz) (eJ 1 (yP 1 (eC (.bl true))))))
def aeI:List W->Res W:=run 8 aaz
end K54
namespace K54
open PySem WL ML
noncomputable def eE(hs:Nat->Option Nat):Nat->Nat->List Nat|0,d=>[d]|n+1,d=>d::match hs d with|some k=>eE hs n k|none=>[]
def sL(hs:Nat->Option Nat)(n d:Nat):d∈eE hs n d:=by cases n<;>simp[eE]
structure Hands(hs:Nat->Option Nat)(rk:Nat->Nat):Prop where
 lt:∀d k,d<8->hs d=some k->k<8inj:∀d e k,d<8->e<8->hs d=some k->hs e=some k->d=e
 rl:∀d,d<8->rk d<8up:∀d k,d<8->hs d=some k->rk d<rk k
section
variable{hs:Nat->Option Nat}{rk:Nat->Nat}(H:Hands hs rk)
include H
theorem mQ:∀(n d:Nat),d<8->∀x∈eE hs n d,x<8/\rk d<=rk x
|0,d,hd,x,c=>by simp[eE]at c;subst c;exact⟨hd,apG _⟩|n+1,d,hd,x,c=>by
 rcases apJ.mp c with rfl|c;.exact⟨hd,apG _⟩
 .cases e:hs d with|none=>rw[e]at c;cases c|some k=>rw[e]at c;obtain⟨a,b⟩:=mQ n k (H.lt d k hd e) x c;have:=H.up d k hd e;exact⟨a,by omega⟩
theorem afv:∀(n d:Nat),d<8->(eE hs n d).Nodup
|0,d,_=>by simp[eE]|n+1,d,hd=>by
 refine aqz.mpr ⟨λb=>?_,?_⟩;.cases e:hs d with|none=>rw[e]at b;cases b|some k=>rw[e]at b;have a:=(mQ H n k (H.lt d k hd e) d b).2;have:=H.up d k hd e;omega
 .cases e:hs d with|none=>exact List.nodup_nil|some k=>exact afv n k (H.lt d k hd e)
theorem wQ:∀(n d:Nat),d<8->8<=n+rk d+1->∀x∈eE hs n d,∀k,hs x=some k->k∈eE hs n d
|0,d,hd,hn,x,c,k,e=>by simp[eE]at c;subst c;have a:=H.up x k hd e;have b:=H.rl k (H.lt x k hd e);omega|n+1,d,hd,hn,x,c,k,e=>by
 rcases apJ.mp c with rfl|c;.refine apI _ ?_;rw[e];exact sL hs n k
 .refine apI _ ?_;cases f:hs d with|none=>rw[f]at c;cases c|some k0=>rw[f]at c;have a:=H.up d k0 hd f;exact wQ n k0 (H.lt d k0 hd f) (by omega) x c k e
omit H in theorem lX:∀(n d x:Nat),x∈eE hs n d->x=d\/∃y∈eE hs n d,hs y=some x
|0,d,x,a=>by simp[eE]at a;exact .inl a|n+1,d,x,a=>by
 rcases apJ.mp a with rfl|a;.exact .inl rfl
 .right;cases e:hs d with|none=>rw[e]at a;cases a|some k=>
  rw[e]at a;rcases lX n k x a with rfl|⟨y,c,b⟩;.exact⟨d,apN,e⟩
  .exact⟨y,apI _ (by rw[e];exact c),b⟩
theorem sI{d e:Nat}(l:d<8)(j:e<8)(o:∀y,y<8->hs y≠some d)(m:∀y,y<8->hs y≠some e)(n:Nat):∀(r x:Nat),rk x<r->x∈eE hs n d->x∈eE hs n e->d=e
|0,_,h,_,_=>absurd h (aqX _)|r+1,x,h,h1,h2=>by
  rcases lX n d x h1 with rfl|⟨y,f,b⟩
  .rcases lX n e x h2 with rfl|⟨y,f,b⟩;.rfl
   .exact(o y (mQ H n e j y f).1 b).elim
  .have i:=(mQ H n d l y f).1;rcases lX n e x h2 with rfl|⟨k,c,g⟩;.exact(m y i b).elim
   .have:=H.inj y k x i (mQ H n e j k c).1 b g;subst this;have a:=H.up y x i b;exact sI l j o m n r y (by omega) f c
noncomputable def startB(hs:Nat->Option Nat)(d:Nat):Bool:=(List.range 8).all λy=>hs y !=some d
omit H in theorem oK{d:Nat}:startB hs d=true↔∀y,y<8->hs y≠some d:=by simp[startB]
theorem sG:∀(r d:Nat),rk d<r->d<8->∃s,s<8/\startB hs s=true/\d∈eE hs 8 s
|0,_,h,_=>absurd h (aqX _)|r+1,d,h,hd=>by
  by_cases f:startB hs d=true;.exact⟨d,hd,f,sL hs 8 d⟩
  .have:∃y,y<8/\hs y=some d:=by simpa[startB]using f
   obtain⟨y,e,c⟩:=this;have a:=H.up y d e c;obtain⟨s,b,i,g⟩:=sG r y (by omega) e;exact⟨s,b,i,wQ H 8 s b (by omega) y g d c⟩
omit H in def sE(hs:Nat->Option Nat):List (List Nat):=((List.range 8).filter (startB hs)).map (eE hs 8)
theorem aaX:(sE hs).flatten.Perm (List.range 8):=by
 refine(List.perm_ext_iff_of_nodup ?_ art).mpr λd=>?_
 .refine List.pairwise_flatten.mpr ⟨λl g=>?_,?_⟩;.obtain⟨s,c,rfl⟩:=aqi.mp g;have:=apP.mp (aqN.mp c).1;exact afv H 8 s this
  .refine arP.mpr ?_;have nd:((List.range 8).filter (startB hs)).Nodup:=art.filter _;refine List.Pairwise.imp_of_mem ?_ nd;intro a b p q e x f y i j;subst j;have k:=aqN.mp p;have m:=aqN.mp q;exact e (sI H (apP.mp k.1) (apP.mp m.1) (oK.mp k.2) (oK.mp m.2) 8 _ x (aqT _) f i)
 .constructor;.intro h;obtain⟨l,g,n⟩:=List.mem_flatten.mp h;obtain⟨s,c,rfl⟩:=aqi.mp g;exact apP.mpr (mQ H 8 s (apP.mp (aqN.mp c).1) d n).1
  .intro h;obtain⟨s,f,i,o⟩:=sG H _ d (aqT _) (apP.mp h);exact List.mem_flatten.mpr ⟨_,aqi.mpr ⟨s,aqN.mpr ⟨apP.mpr f,i⟩,rfl⟩,o⟩
end
noncomputable def two2:List Nat->List (Nat×Nat)|a::b::l=>(a,b)::two2 l|_=>[]
theorem two2_flat:∀l:List Nat,l.length%2=0->(two2 l).flatMap (λp=>[p.1,p.2])=l|[],_=>rfl|[_],h=>by simp at h|a::b::l,h=>by have:=two2_flat l (by simp only[apK]at h;omega);simp[two2,this]
theorem px:∀a:List (List Nat),(∀l∈a,l.length%2=0)->(a.flatMap two2).flatMap (λp=>[p.1,p.2])=a.flatten|[],_=>rfl|l::a,h=>by rw[List.flatMap_cons,List.flatMap_append,two2_flat l (h l apN),px a λx b=>h x (apI _ b)];rfl
theorem xP:∀a:List (Nat×Nat),(a.flatMap λp=>[p.1,p.2]).length=2*a.length|[]=>rfl|p::a=>by rw[List.flatMap_cons,aqc,xP a];simp;omega
def yU{hs:Nat->Option Nat}{b:Nat->Nat}(H:Hands hs b)(h:∀l∈sE hs,l.length%2=0):((sE hs).flatMap two2).length=4/\∀d,d<8↔∃p∈(sE hs).flatMap two2,d=p.1\/d=p.2:=by
 have e:=px _ h;have P:=aaX H;constructor;.have a:=xP ((sE hs).flatMap two2);rw[e,P.length_eq,arh]at a;omega
 .intro d;rw[<-apP,<-P.mem_iff,<-e,List.mem_flatMap];simp
def rhO(f:List S3)(d:Nat):Option Nat:=match ku (sfp (f.getD d (0,0,0)) 0 2) 0 f with|some k=>if aN f k=aN f d then some k else none|none=>none
set_option tactic.hygienic true
theorem aah(s:Int×Int):∀(f:List S3)(k i:Nat),ku s k f=some i->aE (f.getD (i-k) (0,0,0))=s
|[],_,_,h=>by simp[ku]at h|p::f,k,i,h=>by
 simp only[ku]at h;split at h;.rename_i a;cases h;simpa using a
 .have b:=gp s _ f i h;have:=aah s f (k+1) i h;obtain⟨j,rfl⟩:∃j,i=k+1+j:=⟨i-(k+1),by omega⟩;rw[show k+1+j-(k+1)=j by omega]at this;rw[show k+1+j-k=j+1 by omega];simpa using this
def jU{f:List S3}{d k:Nat}(h:rhO f d=some k):k<f.length/\aE (f.getD k (0,0,0))=sfp (f.getD d (0,0,0)) 0 2/\(f.getD k (0,0,0)).2.2=(f.getD d (0,0,0)).2.2:=by unfold rhO at h;cases e:ku (sfp (f.getD d (0,0,0)) 0 2) 0 f with|none=>rw[e]at h;cases h|some j=>
 rw[e]at h;simp only at h;split at h;.rename_i a;cases h;have c:=gp _ 0 f k e;have b:=aah _ f 0 k e;exact⟨by omega,b,a⟩
 .cases h
set_option tactic.hygienic false
noncomputable def akb(p:S3):Int:=if p.2.2=0 then p.1 else if p.2.2=1 then p.2.1 else if p.2.2=2 then -p.1 else -p.2.1
def aj3{p q:S3}(a:aE q=sfp p 0 2)(b:q.2.2=p.2.2):akb q=akb p+2:=by
 obtain⟨x,y,c⟩:=p;obtain⟨e,d,f⟩:=q;simp only at b;subst b;simp only[aE,sfp]at a;simp only[akb];split at a;.simp only[aqg]at a;simp[*]
 .split at a;.simp only[aqg]at a;simp[*]
  .split at a;.simp only[aqg]at a;simp[*];omega
   .simp only[aqg]at a;simp[*];omega
def agL{p q:S3}{m n:Int}(h:sfp p m n=sfp q m n)(a:p.2.2=q.2.2):aE p=aE q:=by
 obtain⟨x,y,c⟩:=p;obtain⟨d,b,e⟩:=q;simp only at a;subst a;simp only[sfp]at h;simp only[aE];split at h;.simp only[aqg]at h⊢;omega
 .split at h;.simp only[aqg]at h⊢;omega
  .split at h<;>(simp only[aqg]at h⊢;omega)
def two_at{f:List S3}(c:cv f){d e:Nat}(b:d<f.length)(a:e<f.length)(h:aE (f.getD d (0,0,0))=aE (f.getD e (0,0,0))):d=e:=by
 have g:∀i(j:i<f.length),f.getD i (0,0,0)=f[i]:=λi j=>by rw[apx,apy j];rfl
 rw[g d b,g e a]at h;rcases asu d e with z|z|z;.exact(aq2.mp c d e b a z h).elim
 .exact z
 .exact(aq2.mp c e d a b z h.symm).elim
theorem xX{p q:Nat->Bool}:∀l:List Nat,(∀x∈l,p x=true->q x=true)->(∃x∈l,q x=true/\p x=false)->l.countP p<l.countP q
|[],_,h=>by obtain⟨x,b,_⟩:=h;cases b|a::l,h,b=>by
  have i:l.countP p<=l.countP q:=List.countP_mono_left λx b=>h x (apI _ b);rw[asG,asG];by_cases d:p a=true
  .have f:=h a apN d;obtain⟨x,c,g,e⟩:=b;rcases apJ.mp c with rfl|c;.rw[d]at e;cases e
   .have:=xX l (λx b=>h x (apI _ b)) ⟨x,c,g,e⟩;simp[d,f];omega
  .by_cases f:q a=true;.simp[d,f];omega
   .obtain⟨x,c,g,e⟩:=b;rcases apJ.mp c with rfl|c;.exact(f g).elim
    .have:=xX l (λx b=>h x (apI _ b)) ⟨x,c,g,e⟩;simp[d,f];omega
def aia(f:List S3)(d e:Nat):Bool:=decide ((f.getD e (0,0,0)).2.2=(f.getD d (0,0,0)).2.2)&&decide (akb (f.getD e (0,0,0))<akb (f.getD d (0,0,0)))
def rkF(f:List S3)(d:Nat):Nat:=(List.range 8).countP (aia f d)
def xJ{f:List S3}(hl:f.length=8)(ha:cv f):Hands (rhO f) (rkF f)where
 lt d k _ h:=by have:=(jU h).1;omega
 inj d e k hd he h1 h2:=by obtain⟨_,a1,a2⟩:=jU h1;obtain⟨_,b1,b2⟩:=jU h2;exact two_at ha (by omega) (by omega) (agL (a1.symm.trans b1) (a2.symm.trans b2))
 rl d hd:=by have h:=xX (p:=aia f d) (q:=λ_=>true) (List.range 8) (λ_ _ _=>rfl) ⟨d,apP.mpr hd,rfl,by simp[aia]⟩;rw[List.countP_true,arh]at h;exact h
 up d k hd h:=by
  obtain⟨_,a1,a2⟩:=jU h;have hk:=aj3 a1 a2;refine xX _ (λx _ hx=>?_) ⟨d,apP.mpr hd,?_,?_⟩;.simp only[aia,apT,ap3]at hx⊢;exact⟨hx.1.trans a2.symm,by omega⟩
  .simp only[aia,apT,ap3];exact⟨a2.symm,by omega⟩
  .simp[aia]
noncomputable def ikT(k t:String):Option Bool:=if["int","bool","str","list","tuple"].contains t then some (k==t||k=="bool"&&t=="int")else none
def akm(x t):isK (.int x) t=ikT "int" t:=(rfl)
def akk(x t):isK (.str x) t=ikT "str" t:=(rfl)
def akl(x t):isK (.lst x) t=ikT "list" t:=(rfl)
def akj(x t):isK (.tup x) t=ikT "tuple" t:=(rfl)
def akx(l):aic (.lst l)=if shC l=true then .ok (.lst l)else .bad:=(rfl)
def sA2(i j u v σ):oP [i,j] [u,v] σ=(σ.set i (.va u)).set j (.va v):=(rfl)
def sA3(i j k u v w σ):oP [i,j,k] [u,v,w] σ=((σ.set i (.va u)).set j (.va v)).set k (.va w):=(rfl)
def aio(x y xs ys):uk (x::xs) (y::ys)=.tup [x,y]::uk xs ys:=(rfl)
def aa6(i v k σ ks us):ag0 i v k σ (some (.od ks us))=putD i ks us k v σ:=(rfl)
def akF(n w l):akG (.rt (.exc n [w,.lst l]))=rtE n w:=(rfl)
def aoo(a b c u v w):hY [.str a,u,.str b,v,.str c,w]=some ([.str a,.str b,.str c],[u,v,w]):=(rfl)
def ajQ(x σ):rA (.va x::σ)=.va x::rA σ:=(rfl)
def ajS(σ):rA (.no::σ)=.no::rA σ:=(rfl)
def ajR(x σ):rA (.ow x::σ)=.no::rA σ:=(rfl)
def ajT:rA []=[]:=(rfl)
def jP{n:Nat}(h:n<1000):oM (.int n)=true:=by
 show decide (n.log2<100)=true;simp;by_cases z:n=0;.rw[z];decide
 .rw[Nat.log2_lt z];exact apE h (by simp)
def ad4(n)(l:List Nat):jb (n+1) (l.map λk:Nat=>.int k)=true:=abt n _ _ λ_ _=>rfl
def aoR(x y f:Int)(m n:Int)(c:0<=f)(d:f<4):∃a b:Int,oIx ly (.int f)=.ok (.tup [.int a,.int b])/\oIx (.lst [.tup [.int 0,.int 1],.tup [.int (-1),.int 0],.tup [.int 0,.int (-1)],.tup [.int 1,.int 0]]) (.int f)=.ok (.tup [.int a,.int b])/\(-2<a/\a<2)/\(-2<b/\b<2)/\sfp (x,y,f) m n=(x+(a*m+b*n),y+(b*m-a*n)):=by
 have r:f=0\/f=1\/f=2\/f=3:=by grind
 rcases r with rfl|rfl|rfl|rfl;.exact⟨0,1,rfl,rfl,by decide,by decide,by simp[sfp]⟩
 .exact⟨-1,0,rfl,rfl,by decide,by decide,by simp[sfp,ash]⟩
 .exact⟨0,-1,rfl,rfl,by decide,by decide,by simp[sfp,ash]⟩
 .exact⟨1,0,rfl,rfl,by decide,by decide,by simp[sfp,ash]⟩
def yy(p)(m n)(c:0<=p.2.2)(d:p.2.2<4):bS [stW p,.int m,.int n]=.ok (spW (sfp p m n)):=by obtain⟨x,y,f⟩:=p;obtain⟨a,b,g,_,h,i,e⟩:=aoR x y f m n c d;rw[e];simp(disch:=omega)[bS,jg,stW,spW,g,pE,List.replicate]
def dJ(p):fb [stW p]=.ok (spW (aE p)):=rfl
theorem pU(F)(s):∀f k b a,fin (adB (forL (rB (cP (aF 2) (cP (aF 3) qO))) fX (eA k (f.map stW)) [.va F,.va (spW s),b,a]) (cx (eC .non)))=.ok (agr s k f)
|[],k,b,a=>rfl|p::f,k,b,a=>by
 simp [eA,er];by_cases h:aE p=s;.simp[fX,dJ,h,agr]
 .have c:=pU F s f (k+1) (.va (.int k)) (.va (stW p));simp[fX,dJ,h,agr]at c⊢;exact c
def aff(f)(s):fv [flW f,spW s]=.ok (agr s 0 f):=by exact pU _ s f 0 _ _
def yQ(d):kc [.int d]=.ok (.int (if d%2=0 then d+1 else d-1)):=by by_cases h:d%2=0<;>simp[kc,mr,h]
def uU(d):lg [.int d]=.ok (.int ((d+4)%8)):=rfl
def zg(d):nM [.int d]=.ok (.bl (decide (d/2%2=0))):=rfl
def zf(d):nL [.int d]=.ok (.bl (decide (d%2=0))):=rfl
def jE(s):gc [spW s]=.ok (.int (far s)):=rfl
def aeO(p)(c:0<=p.2.2)(d:p.2.2<4):gJ [stW p]=.ok (.str (if far (sfp p 1 0)=far (aE p)then"sideways"else if far (sfp p 1 0)<far (aE p)then"inward"else"outward")):=by
 have b:=yy p 1 0 c d;by_cases a:far (sfp p 1 0)=far (aE p);.simp[gJ,p5,dJ,jE,b,a]
 .by_cases e:far (sfp p 1 0)<far (aE p)<;>simp[gJ,p5,dJ,jE,b,a,e]
def gW(f)(w)(q)(h:w="same"/\q=0\/w="left"/\q=1\/w="about"/\q=2\/w="right"/\q=3):bZ [.int f,.str w]=.ok (.int ((f+q)%4)):=by
 have e:oIx kh (.str w)=.ok (.int q):=by rcases h with⟨rfl,rfl⟩|⟨rfl,rfl⟩|⟨rfl,rfl⟩|⟨rfl,rfl⟩<;>rfl
 simp[bZ,eW,e,gf]
def acb{f}{k:Nat}(a:k<f.length):oIx (flW f) (.int k)=.ok (stW (f.getD k (0,0,0))):=by refine afN (by simp) ?_;rw[asr,apx,apy a];rfl
def nE{f S}(a:S=flW f\/S=.lst (f.map stW)){k}(b:k<f.length):oIx S (.int k)=.ok (stW (f.getD k (0,0,0))):=by
 have e:f[k]?=some (f.getD k (0,0,0)):=by grind
 rcases a with rfl|rfl;.exact afN (by simp) (by exact e)
 .rw[gD,fM,apX,e];rfl
def iK{S}(f)(c:S=flW f\/S=.lst (f.map stW))(p)(k:Nat)(d:k<f.length)(w)(q)(hw:w="same"/\q=0\/w="left"/\q=1\/w="about"/\q=2\/w="right"/\q=3){b}(g:decide ((f.getD k (0,0,0)).2.2=(p.2.2+q)%4)=b):lh [stW p,S,.int k,.str w]=.ok (.bl b):=by
 have a:=nE c d;have e:¬"none"=w:=by grind
 have h:¬"any"=w:=by grind
 subst g;generalize f.getD k _=r at *;simp[lh,uy,List.replicate,k8,stW,e,h]at a⊢;simp[a,gW p.2.2 w q hw]
def xB{S}(f)(a:S=flW f\/S=.lst (f.map stW))(p)(c:0<=p.2.2)(e:p.2.2<4)(o)(w)(d)(h:∀k,o=some k->k<f.length)(hw:w≠.partner)(b:w≠.opposite):lh [stW p,S,onW o,.str w.w]=.ok (.bl (ia f d p w o)):=by cases o with|none=>cases w<;>kernel_rfl|some k=>
 cases w;case none=>kernel_rfl
 case any=>kernel_rfl
 case partner=>exact absurd rfl hw
 case opposite=>exact absurd rfl b
 all_goals first|exact iK f a p k (h k rfl) _ 0 (.inl ⟨rfl,rfl⟩) (by simp[ia,aN];omega)|exact iK f a p k (h k rfl) _ 1 (.inr (.inl ⟨rfl,rfl⟩)) (by simp[ia,aN])|exact iK f a p k (h k rfl) _ 2 (.inr (.inr (.inl ⟨rfl,rfl⟩))) (by simp[ia,aN])|exact iK f a p k (h k rfl) _ 3 (.inr (.inr (.inr ⟨rfl,rfl⟩))) (by simp[ia,aN])
def agN(f)(s:∀p∈f,0<=p.2.2/\p.2.2<4)(d:Nat)(b:d<f.length)(a r)(w):xR [flW f,.int d,(Tst.at a r w).W]=.ok (.bl (ia f d (f.getD d (0,0,0)) w (ku (sfp (f.getD d (0,0,0)) a r) 0 f))):=by
 have u:f.getD d (0,0,0)∈f:=by rw[apx,apy b];exact ap7 b
 obtain⟨g,i⟩:=s _ u;have n:=acb b;have x:=yy (f.getD d (0,0,0)) a r g i;have h:=aff f (sfp (f.getD d (0,0,0)) a r);rw[wg]at h;have lt:=gp (sfp (f.getD d (0,0,0)) a r) 0 f;have c:∀k,ku (sfp (f.getD d (0,0,0)) a r) 0 f=some k->k<f.length:=λk m=>by have:=lt k m;omega
 have v:=xB f (.inl rfl) (f.getD d (0,0,0)) g i _ w d c;generalize f.getD d (0,0,0)=p at *;generalize hw:ku (sfp p a r) 0 f=o at *;have l(t:SF):aL (fN 3 (eOp oIx (ai 0) (ai 1))) (aL (fN 4 (eOp oIx (ai 2) (eC (.int 3)))) (aL (fN 5 (aK fv (ae (ai 0) (ae (aK bS (ae (ai 3) (ae (eOp oIx (ai 2) (eC (.int 1))) (ae (eOp oIx (ai 2) (eC (.int 2))) aA)))) aA)))) t)) [.va (flW f),.va (.int d),.va (Tst.at a r w).W,.no,.no,.no]=t [.va (flW f),.va (.int d),.va (Tst.at a r w).W,.va (stW p),.va (.str w.w),.va (onW o)]:=by simp[Tst.W,n,x,h]
 simp only[xR,aay,run_eq,apU,List.map_nil,apK,ar2,List.replicate,List.cons_append,asO];rw[l];by_cases w1:w=.partner;.subst w1;cases o<;>simp[What.w,ia,yQ]
 by_cases e:w=.opposite;.subst e;cases o<;>simp[What.w,ia,uU]
 have y:=v w1 e;have q:¬w.w="partner":=by cases w<;>first|decide|exact absurd rfl w1
 have j:¬w.w="opposite":=by cases w<;>first|decide|exact absurd rfl e
 simp[y,q,j]
def iM(d)(w)(b)(h:w="head"/\b=decide (d/2%2=0)\/w="side"/\b=!decide (d/2%2=0)\/w="lefts"/\b=decide (d%2=0)\/w="rights"/\b=!decide (d%2=0)):iw [.int d,.str w]=.ok (.bl b):=by rcases h with⟨rfl,rfl⟩|⟨rfl,rfl⟩|⟨rfl,rfl⟩|⟨rfl,rfl⟩<;>simp[iw,mx,k8,zg,zf]
def apk:Lone->Prop|.inward|.outward|.sideways=>True|_=>False
def eS(f d p)(a:0<=p.2.2)(b:p.2.2<4)(l:Lone)(h:apk l):∃D:Str,gJ [stW p]=.ok (.str D)/\oEq (.str D) (.str l.w)=.ok (.bl (dP f d p (.lone l))):=by
 refine⟨_,aeO p a b,?_⟩;have q:∀A B:Str,oEq (.str A) (.str B)=.ok (.bl (A==B)):=λ_ _=>rfl;rw[q];refine aro _ (aro _ ?_);cases l<;>try exact h.elim
 all_goals
 simp only[dP];generalize far (sfp p 1 0)=A;generalize far (aE p)=B;rcases Int.lt_trichotomy A B with st|st|st
 .rw[apA (by omega),apB st];first|rw[aqw (by omega)]|rw[ap1 (by omega)]
  rfl
 .rw[apB st];first|rw[aqw (by omega)]|rw[ap1 (by omega)]
  rfl
 .rw[apA (by omega),apA (by omega)];first|rw[aqw (by omega)]|rw[ap1 (by omega)]
  rfl
def afZ(n)(f)(q:∀p∈f,0<=p.2.2/\p.2.2<4)(d:Nat)(j:d<f.length)(t):dU (n+1) [flW f,.int d,t.W]=.ok (.bl (dP f d (f.getD d (0,0,0)) t)):=by
 have G:f.getD d (0,0,0)∈f:=by rw[apx,apy j];exact ap7 j
 obtain⟨k,h⟩:=q _ G;have o:=acb j;cases t with|«at» a r w=>have s:=agN f q d j a r w;simp[Tst.W]at s;simp[dU,kN,Tst.W,List.replicate,s,dP]|inner n=>simp[dU,kN,Tst.W,List.replicate,o,dJ,jE,dP]|lone l=>
 generalize f.getD d (0,0,0)=p at *;have c:∀(w:String)(b:Bool),¬w="not"->¬w="at"->¬w="inner"->¬"inward"=w->¬"outward"=w->¬"sideways"=w->iw [.int d,.str w]=.ok (.bl b)->dU (n+1) [flW f,.int d,.tup [.str w]]=.ok (.bl b):=λw b E x I A y u e=>by simp[dU,kN,List.replicate,k8,fy,E,x,I,A,y,u,e]
 have m:∀(D w:Str)(b:Bool),gJ [stW p]=.ok (.str D)->oIn (.str w) fy=.ok (.bl true)->oEq (.str w) (.str "not")=.ok (.bl false)->oEq (.str w) (.str "at")=.ok (.bl false)->oEq (.str w) (.str "inner")=.ok (.bl false)->oEq (.str D) (.str w)=.ok (.bl b)->dU (n+1) [flW f,.int d,.tup [.str w]]=.ok (.bl b):=λD w b v H C h z B=>by simp[dU,kN,List.replicate,H,C,h,z,o,v,B]
 cases l;case head=>exact c "head" _ (by decide) (by decide) (by decide) (by decide) (by decide) (by decide) (iM d "head" _ (Or.inl ⟨rfl,rfl⟩))
 case side=>exact c "side" _ (by decide) (by decide) (by decide) (by decide) (by decide) (by decide) (iM d "side" _ (Or.inr (Or.inl ⟨rfl,rfl⟩)))
 case lefts=>exact c "lefts" _ (by decide) (by decide) (by decide) (by decide) (by decide) (by decide) (iM d "lefts" _ (Or.inr (Or.inr (Or.inl ⟨rfl,rfl⟩))))
 case rights=>exact c "rights" _ (by decide) (by decide) (by decide) (by decide) (by decide) (by decide) (iM d "rights" _ (Or.inr (Or.inr (Or.inr ⟨rfl,rfl⟩))))
 case inward=>obtain⟨D,g,i⟩:=eS f d p k h .inward trivial;exact m D _ _ g (by kernel_rfl) (by kernel_rfl) (by kernel_rfl) (by kernel_rfl) i
 case outward=>obtain⟨D,g,i⟩:=eS f d p k h .outward trivial;exact m D _ _ g (by kernel_rfl) (by kernel_rfl) (by kernel_rfl) (by kernel_rfl) i
 case sideways=>obtain⟨D,g,i⟩:=eS f d p k h .sideways trivial;exact m D _ _ g (by kernel_rfl) (by kernel_rfl) (by kernel_rfl) (by kernel_rfl) i
def aaZ{lo n i x}(h:(rng lo n)[i]?=some x):i<n/\x=.int (lo+i):=qj _ n i x h
def vj{f S}(a:S=flW f\/S=.lst (f.map stW)):pQ [S]=.ok (.int f.length):=by rcases a with rfl|rfl<;>simp[flW]
def dc(f:List S3)(N:f.length<=100)(S:W)(p:S=flW f\/S=.lst (f.map stW)):∃w,bC [S]=.ok w/\Met f w:=by
 have h:=vv (g:=aF 1) (b:=cO) (xs:=rng 0 f.length) (σ:=[.va S,.no,.no]) (λi k=>(∃o c,k=[.va S,o,c])/\∀a b,a<i->a<b->b<f.length->aE (f.getD a (0,0,0))≠aE (f.getD b (0,0,0))) (λi w=>Met f w) ⟨⟨_,_,rfl⟩,λa b h=>absurd h (aqX _)⟩ (by
   rintro i x σ v⟨⟨o,c,rfl⟩,q⟩;obtain⟨K,rfl⟩:=aaZ v;refine⟨_,rfl,?_⟩;have l:=vv (g:=aF 2) (b:=bp) (xs:=rng (i+1) (f.length-(i+1))) (σ:=[.va S,.va (.int (0+i)),c]) (λj k=>(∃c,k=[.va S,.va (.int (0+i)),c])/\∀b,i<b->b<i+1+j->aE (f.getD i (0,0,0))≠aE (f.getD b (0,0,0))) (λj w=>Met f w) ⟨⟨_,rfl⟩,λb n m=>absurd m (by omega)⟩ (by
     rintro j x σ v⟨⟨c,rfl⟩,l⟩;obtain⟨M,rfl⟩:=aaZ v;refine⟨_,rfl,?_⟩;have y:=nE p K;have z:=nE p (show i+1+j<f.length by omega);have C:(0:Int)+(i:Nat)=((i:Nat):Int):=by omega
     have D:(i:Int)+1+(j:Nat)=((i+1+j:Nat):Int):=by omega
     rw[C,D];by_cases h:aE (f.getD i (0,0,0))=aE (f.getD (i+1+j) (0,0,0));.refine .inr ⟨.tup [.int i,.int ((i+1+j:Nat):Int)],?_,Met.two i (i+1+j) (by omega) (by omega) h (λa b=>q a b) λb n m=>l b n m⟩;simp only[bp];rw[afs];simp only[aiZ,af5,xT,ry,vT,vB,aqK,aqA,anx,anz,vu,lB,y,z,dJ,l2,afP,afl,jc,h,decide_true,arc];simp
     .refine .inl ⟨[.va S,.va (.int i),.va (.int ((i+1+j:Nat):Int))],?_,⟨_,rfl⟩,λb n m=>?_⟩;.simp only[bp];rw[afs];simp only[aiZ,af5,xT,ry,vT,vB,aqK,aqA,anx,anz,vu,lB,y,z,dJ,l2,afP,afl,jc,h,decide_false];simp
      .by_cases t:b<i+1+j;.exact l b n t
       .have:b=i+1+j:=by omega
        rw[this];exact h);have G:∀o,ofR o (vp (eOp dy (ai 1) (eC (.int 1))) (eBi pQ (ae (ai 0) aA)) [.va S,.va (.int (0+i)),c]) (λxs=>forL (aF 2) bp xs [.va S,.va (.int (0+i)),c])=forL (aF 2) bp (rng (i+1) (f.length-(i+1))) [.va S,.va (.int (0+i)),c]:=λo=>by
    have r:(f.length:Int)<4611686018427387904:=by omega
    have A:(i:Int)+1<4611686018427387904:=by omega
    have s:-4611686018427387904<=(f.length:Int):=by omega
    have J:-4611686018427387904<=(i:Int)+1:=by omega
    have E:((f.length:Int)-((i:Int)+1)).toNat=f.length-(i+1):=by omega
    simp[vj p,r,A,s,J,E]
   have t:cO (([.va S,o,c]:Ws).set 1 (.va (.int (0+i))))=forL (aF 2) bp (rng (i+1) (f.length-(i+1))) [.va S,.va (.int (0+i)),c]:=by show wO _ _ _ _=_;rw[agS];exact G _
   rw[t];rcases l with⟨k,e,⟨I,rfl⟩,d⟩|⟨j,w,_,e,u⟩
   .refine .inl ⟨_,e,⟨_,_,rfl⟩,λa b n m B=>?_⟩;by_cases H:a<i;.exact q a b H m B
    .have:a=i:=by omega
     subst this;exact d b m (by simp;omega)
   .exact .inr ⟨w,e,u⟩);have r:(f.length:Int)<4611686018427387904:=by omega
 have s:-4611686018427387904<=(f.length:Int):=by omega
 rcases h with⟨k,e,⟨o,c,rfl⟩,d⟩|⟨i,w,_,e,u⟩;.refine⟨.non,?_,.none (rn λa b n m=>d a b (by simp;omega) n m)⟩;simp[bC,dB,List.replicate,vj p,r,s,e]
 .refine⟨w,?_,u⟩;simp[bC,dB,List.replicate,vj p,r,s,e]
def kb(f)(b:f.length<=100)(S)(c:S=flW f\/S=.lst (f.map stW))(a:cv f):bC [S]=.ok .non:=by obtain⟨w,e,m⟩:=dc f b S c;cases m with|none _=>exact e|two i j hij hj h _ _=>exact absurd h (kj a hij hj)
def vw(f:List S3)(b:f.length<=100)(S:W)(a:S=flW f\/S=.lst (f.map stW))(c:cv f):cQ [S]=.ok (flW f):=by have e:=kb f b S a c;rcases a with rfl|rfl<;>simp[cQ,iG,List.replicate,e,flW]at e⊢<;>simp[e]
def my(p)(h:Fac p)(s):cW [stW p,s.W]=.ok (stW (p8 p s)):=by obtain⟨f,k⟩:=h;cases s with|go g n=>
 obtain⟨a,b,j,m,l,c⟩:∃a b:Int,oIx x1 (.str g.w)=.ok (.tup [.int a,.int b])/\(-2<a/\a<2)/\(-2<b/\b<2)/\p8 p (.go g n)=((sfp p (a*n) (b*n)).1,(sfp p (a*n) (b*n)).2,p.2.2):=by
  cases g;.exact⟨1,0,rfl,by decide,by decide,by simp[p8]⟩
  .exact⟨-1,0,rfl,by decide,by decide,by simp[p8]⟩
  .exact⟨0,-1,rfl,by decide,by decide,by simp[p8]⟩
  .exact⟨0,1,rfl,by decide,by decide,by simp[p8]⟩
 have d:=yy p (a*n) (b*n) f k;have i:¬g.w="turn":=by cases g<;>decide
 rw[c];generalize sfp p (a*n) (b*n)=P at *;simp only[stW,spW]at d;simp(disch:=omega)[cW,dY,List.replicate,Stp.W,j,pE,i,stW,d]|turn t=>
 obtain⟨q,e,c⟩:∃q:Int,bZ [.int p.2.2,.str t.w]=.ok (.int ((p.2.2+q)%4))/\p8 p (.turn t)=(p.1,p.2.1,(p.2.2+q)%4):=by
  cases t;.exact⟨_,gW _ _ 1 (.inr (.inl ⟨rfl,rfl⟩)),rfl⟩
  .exact⟨_,rfl,rfl⟩
  .exact⟨_,rfl,rfl⟩
 rw[c];simp[cW,dY,List.replicate,Stp.W,e,stW]
def yw(s:Stp):∃w:String,oIx s.W (.int 0)=.ok (.str w)/\w≠"stay":=by cases s with|go g n=>cases g<;>exact⟨_,rfl,by decide⟩|turn t=>exact⟨_,rfl,by decide⟩
def wZ(p:S3):plain (stW p)=true:=by simp[stW]
theorem wm(P S):∀l p a o,Fac p->a.length+l.length<999999->∃d,forL (aF 3) eP (l.map Stp.W) [.va P,.va S,.ow ((a++[p]).map stW),o]=.nx [.va P,.va S,.ow ((a++jj p l).map stW),d]
|[],p,a,o,_,_=>⟨o,rfl⟩|s::l,p,a,o,h,hl=>by
 obtain⟨w,hw,f⟩:=yw s;have e:=my p h s;obtain⟨d,j⟩:=wm P S l (p8 p s) (a++[p]) (.va s.W) (mz p s h) (by simp at hl⊢;omega);refine⟨d,?_⟩;have b:atI ((a++[p]).map stW) (-1)=some (stW p):=by rw[l4];simp
 have c:((a++[p]).map stW).length<1000000:=by grind
 have g:=wZ (p8 p s);simp only[apU,er];have i:eP [.va P,.va S,.ow ((a++[p]).map stW),.va s.W]=.nx [.va P,.va S,.ow ((a++[p]++[p8 p s]).map stW),.va s.W]:=by simp at b c;simp[eP,hw,f,b,e,g,c]
 simp only[lZ,aqK,aqA,jc,i];simp only[jj];rw[show a++p::jj (p8 p s) l=a++[p]++jj (p8 p s) l from by simp];exact j
def vm(p)(h:Fac p):f9 [stW p]=.ok (.bl (inB p)):=by
 obtain⟨d,e⟩:=h;obtain⟨x,y,k⟩:=p;have c:gI [.int k]=.ok (.bl true):=by simp[gI,jh,f7,iF,ikT,akm,akk,akl,akj,ly,d,e]
 have f:∀z:Int,gb [.int z]=.ok (.bl (decide (-200<=z)&&decide (z<=200))):=λz=>by by_cases a:-200<=z<;>by_cases b:z<=200<;>simp[gb,kM,f7,iF,ikT,akm,akk,akl,akj,lA,a,b]
 simp only[inB];by_cases a:(decide (-200<=x)&&decide (x<=200))=true<;>by_cases b:(decide (-200<=y)&&decide (y<=200))=true<;>simp[f9,kL,ikT,akm,akk,akl,akj,stW,c,f,a,b]at a b⊢<;>simp[a,b]
theorem tw(A):∀ws k i j,(∀w∈ws,∀p∈w,Fac p)->(∀w∈ws,w.length<=1000)->k+ws.length<=900->match yV k ws with|some d=>∃σ,forL (rB (cP (aF 1) (cP (aF 2) qO))) cJ (eA k (ws.map iX)) [.va A,i,j]=.ex (exN "Out" d) σ|none=>∃l m,forL (rB (cP (aF 1) (cP (aF 2) qO))) cJ (eA k (ws.map iX)) [.va A,i,j]=.nx [.va A,l,m]
|[],k,i,j,_,_,_=>⟨i,j,rfl⟩|w::ws,k,i,j,hf,hl,hk=>by
  have r:=tw A ws (k+1) (.va (.int k)) (.va (iX w)) (λw hw=>hf w (by simp[hw])) (λw hw=>hl w (by simp[hw])) (by simp at hk⊢;omega);have f:cut (w.map stW) (some 1) none=(w.drop 1).map stW:=by simp[cut,sIx,List.map_drop];cases w with|nil=>simp|cons x xs=>simp[List.take_of_length_le]
  have a:bF (aF 0) g9 (aK f9 (ae (ai 0) aA)) [.no,.va A,.va (.int k),.va (iX w)] ((w.drop 1).map stW)=.ok ((w.drop 1).map λp=>.bl (inB p)):=cf λp q=>⟨_,rfl,rfl,by have e:=vm p (hf w (by simp) p (List.mem_of_mem_drop q));simp[e]⟩;have b:allB ((w.drop 1).map λp=>.bl (inB p))=some ((w.drop 1).all inB):=by have:=ro ((w.drop 1).map inB);simp only[ap6,asH]at this;exact this
  have c:((w.drop 1).map stW).length<=1000000:=by have:=hl w (by simp);simp;omega
  have o:oM (.int k)=true:=jP (by simp at hk;omega);simp only[yV,apU,eA,er];have e:iX w=.lst (w.map stW):=rfl;generalize w.drop 1=v at *;rw[apR]at c;by_cases h:v.all inB=true
  .rw[apB h];have g:cJ [.va A,.va (.int k),.va (iX w)]=.nx [.va A,.va (.int k),.va (iX w)]:=by rw[h]at b;rw[e]at a⊢;simp[cJ,f,c,List.replicate,a,b]
   simp only[xM,pL,lZ,l2,lB,aqK,aqA,xO,jc,g];exact r
  .rw[apA h];have n:v.all inB=false:=by simpa using h
   have g:∃σ,cJ [.va A,.va (.int k),.va (iX w)]=.ex (exN "Out" k) σ:=by rw[n]at b;rw[e]at a⊢;simp[cJ,f,c,List.replicate,a,b,kQ,WL.fieldsOf,o,exN]
   obtain⟨σ,g⟩:=g;refine⟨σ,?_⟩;simp only[xM,pL,lZ,l2,lB,aqK,aqA,xO,jc,g];rfl
def ze(ws)(a:∀w∈ws,∀p∈w,Fac p)(b:∀w∈ws,w.length<=1000)(g:ws.length<=800):iv [rG ws]=match yV 0 ws with|some d=>.ex (exN "Out" d)|none=>.ok (rG ws):=by have h:=tw (rG ws) _ 0 .no .no a b (by omega);cases e:yV 0 _ with|some d=>rw[e]at h;obtain⟨σ,h⟩:=h;simp[rG]at h;simp[iv,jN,rG,h]|none=>rw[e]at h;obtain⟨c,f,h⟩:=h;simp[rG]at h;simp[iv,jN,rG,h]
def y8{f w b}(h:Met f w)(h':Met f b):w=b:=by cases h with
|none a=>cases h' with|none _=>rfl|two i j hij hj h _ _=>exact absurd h (kj a hij hj)
|two i j hij hj h p1 p2=>cases h' with|none a=>exact absurd h (kj a hij hj)|two i' j' hij' hj' h' q1 q2=>
   have c:i=i':=by
    rcases asu i _ with z|z|z;.exact absurd h (q1 i j z hij hj)
    .exact z
    .exact absurd h' (p1 _ _ z hij' hj')
   subst c;have d:j=j':=by
    rcases asu j _ with z|z|z;.exact absurd h (q2 j hij z)
    .exact z
    .exact absurd h' (p2 _ hij' z)
   subst d;rfl
def aht(w)(hw:w≠[]):oIx (iX w) (.int (-1))=.ok (stW (ka w)):=by have e:iX w=.lst _:=rfl;rw[e,gD,l4,List.getLast?_map,ka,ary,ar7 hw];rfl
def zc(A)(ws:List (List S3))(h:∀w∈ws,w≠[]):bF (aF 0) g9 (eOp oIx (ai 0) (eUn pB (eC (.int 1)))) (.no::A) (ws.map iX)=.ok ((ws.map ka).map stW):=by have:=cf (g:=aF 0) (t:=g9) (e:=eOp oIx (ai 0) (eUn pB (eC (.int 1)))) (σ:=.no::A) (emb:=iX) (f:=λw=>stW (ka w)) (xs:=ws) λw hw=>⟨_,rfl,rfl,by simp[aht w (h w hw)]⟩;rw[this,ap6];rfl
def qP(f:List S3)(d:f.length<=100)(i j:Nat)(a:Met f (.tup [.int i,.int j]))(S:W)(g:S=flW f\/S=.lst (f.map stW)):cQ [S]=.ex (.exc "Meet" [.int i,.int j]):=by
 obtain⟨w,e,m⟩:=dc f d S g;have h:i<f.length/\j<f.length:=by cases a with|two i' j' h1 h2 _ _ _=>simp at *;omega
 have hw:w=.tup [.int i,.int j]:=y8 m a;subst hw;have c:=jP (n:=i) (by omega);have b:=jP (n:=j) (by omega);simp[cQ,iG,List.replicate,e,kQ,WL.fieldsOf,c,b,show qL (.tup [.int i,.int j])=false from rfl]
def al7(p):ee [stW p]=.ok (stW (FM.tq p)):=rfl
def rM(f)(n)(m:f.length<=100):dD [flW f,.int n]=.ok (flW (f.map (FM.tqn (n%4).toNat))):=by
 obtain⟨d,h,o,rfl⟩:=nI (g:=aF 3) (b:=iL) (xs:=rng 0 (n%4).toNat) (λi d=>∃o,d=[.va (flW f),.va (.int n),.va (flW (f.map (FM.tqn i))),o]) ⟨.no,by rw[FM.sZ (f:=FM.tqn 0) f λp _=>rfl]⟩ (by
   rintro i w σ hw⟨o,rfl⟩;obtain⟨q,rfl⟩:=qj _ _ _ _ hw;have e:bF (aF 0) g9 (aK ee (ae (ai 0) aA)) [.no,.va (flW f),.va (.int n),.va (flW (f.map (FM.tqn i))),.va (.int (0+i))] ((f.map (FM.tqn i)).map stW)=.ok ((f.map (FM.tqn i)).map λp=>stW (FM.tq p)):=cf λp _=>⟨_,rfl,rfl,by simp[al7]⟩;have j:f.length<=1000000:=by omega
   simp only[flW]at e⊢;simp at e;simp[iL,List.replicate,j,e];intro a b c _;rfl);simp at h;have k:-4611686018427387904<=n%4:=by omega
 have l:n%4<4611686018427387904:=by omega
 simp[dD,p0,gf,List.replicate,k,l,h]
def qk(f:List S3)(s:f.length=8)(m:∀p∈f,Fac p)(d:Nat)(r:d<8):dr [flW f,.int d]=.ok (onW (rhO f d)):=by have g:=acb (f:=f) (k:=d) (by omega);have h:Fac (f.getD d (0,0,0)):=m _ (by rw[apx,apy (by omega)];exact ap7 _);have i:=yy (f.getD d (0,0,0)) 0 2 h.1 h.2;have c:=aff f (sfp (f.getD d (0,0,0)) 0 2);rw[wg]at c;unfold rhO;cases e:ku (sfp (f.getD d (0,0,0)) 0 2) 0 f with|none=>rw[e]at c;simp only[onW]at c;generalize f.getD d (0,0,0)=p at *;simp[dr,fk,List.replicate,g,i,c]|some k=>rw[e]at c;simp only[onW]at c;have t:=(gp _ 0 f k e).2;have n:=acb (f:=f) (k:=k) (by omega);show _=Res.ok (onW (if aN f k=aN f d then some k else none));have l:aN f k=(f.getD k (0,0,0)).2.2:=rfl;have o:aN f d=(f.getD d (0,0,0)).2.2:=rfl;generalize aN f k=a at *;generalize aN f d=b at *;generalize flW f=FL at *;generalize f.getD d (0,0,0)=p at *;generalize f.getD k (0,0,0)=q at *;subst l o;by_cases j:q.2.2=p.2.2<;>simp[dr,fk,List.replicate,g,i,c,n,j]
noncomputable def nW(l:List Nat):List W:=l.map λk:Nat=>.int k
def hsW(hs:Nat->Option Nat):W:=.lst ((List.range 8).map λd=>onW (hs d))
def akp(hs:Nat->Option Nat){d:Nat}(a:d<8):oIx (hsW hs) (.int d)=.ok (onW (hs d)):=by unfold hsW;rw[gD,fM,apX,aqR a];rfl
def xF(l:List Nat)(d:Nat):oIx (.lst (nW (l++[d]))) (.int (-1))=.ok (.int d):=by rw[gD,l4];simp[nW]
def adP(l:List Nat):jW (nW l)=true:=(yL _).mpr λx a=>by obtain⟨k,_,rfl⟩:=aqi.mp a;rfl
def aaY{hs:Nat->Option Nat}{l:Nat->Nat}(H:Hands hs l)(F:W):∀(n m d:Nat)(pre:List Nat),d<8->8<=n+l d+1->n<m->pre.length+n<1000->
 i2 dq ft m [.va (hsW hs),.va F,.ow (nW (pre++[d]))]=.nx [.va (hsW hs),.va F,.ow (nW (pre++eE hs n d))]:=by intro n;induction n with|zero=>
 intro m d pre f o q r;obtain⟨m,rfl⟩:∃k,m=k+1:=⟨m-1,by omega⟩;have e:hs d=none:=by cases e:hs d with|none=>rfl|some k=>have a:=H.up d k f e;have b:=H.rl k (H.lt d k f e);omega
 have c:=akp hs f;have h:=xF pre d;rw[e]at c;rw[eT];have s:=adP (pre++[d]);show _=Out.nx [_,_,.ow (nW (pre++[d]))];generalize hsW hs=HS at *;generalize nW (pre++[d])=L at *;simp[dq,c,h]|succ n i=>
 intro m d pre f o q r;obtain⟨m,rfl⟩:∃k,m=k+1:=⟨m-1,by omega⟩
 have c:=akp hs f;have h:=xF pre d;cases e:hs d with|none=>
  rw[e]at c;have j:eE hs (n+1) d=[d]:=by simp[eE,e]
  rw[eT,j];generalize hsW hs=HS at *;generalize nW (pre++[d])=L at *;simp[dq,c,h]|some k=>
  rw[e]at c;have j:eE hs (n+1) d=d::eE hs n k:=by simp[eE,e]
  have a:=H.up d k f e;have i:=i m k (pre++[d]) (H.lt d k f e) (by omega) (by omega) (by simp;omega);rw[eT,j,show pre++d::eE hs n k=pre++[d]++eE hs n k by simp,<-i];have p:nW (pre++[d]++[k])=nW (pre++[d])++[.int k]:=by simp[nW]
  have g:(nW (pre++[d])).length<1000000:=by simp[nW];omega
  rw[p];generalize hsW hs=HS at *;generalize nW (pre++[d])=L at *;simp only[onW]at c;simp[dq,ft,c,h,g]
def uL{hs:Nat->Option Nat}{b:Nat->Nat}(H:Hands hs b){d:Nat}(a:d<8):iP [hsW hs,.int d]=.ok (.lst (nW (eE hs 8 d))):=by have h:=aaY H (.int d) 8 20 d [] a (by omega) (by decide) (by decide);have e:nW ([]++[d])=[.int d]:=rfl;rw[e,asO]at h;generalize hsW hs=HS at *;generalize nW (eE hs 8 d)=L at *;simp[iP,kE,List.replicate,lL,h,kR]
noncomputable def prW(p:Nat×Nat):W:=.tup [.int p.1,.int p.2]
theorem two2_ix:∀l:List Nat,l.length%2=0->(List.range (l.length/2)).map (λi=>prW (l.getD (2*i) 0,l.getD (2*i+1) 0))=(two2 l).map prW
|[],_=>rfl|[_],h=>by simp at h|a::b::l,h=>by
 have c:=two2_ix l (by simp only[apK]at h;omega);have e:(a::b::l).length/2=l.length/2+1:=by simp only[apK];omega
 rw[e,arT,apU,ap6,two2,apU,<-c];rfl
theorem afq:∀l:List Nat,(∀x∈l,x<1000)->shL (nW l)=some (12*l.length+3)|[],_=>rfl|a::l,h=>by have d:=h a apN;have c:=afq l λx b=>h x (apI _ b);show(if(a:Int).natAbs<1000 then(shL (nW l)).map (.+12)else none)=_;rw[apB (by omega),c];simp only[asL,apK];congr 1
def agK(l:List Nat)(h:∀x∈l,x<1000)(a:l.length<=100):shC (nW l)=true:=by unfold shC;rw[afq l h,show jb 51 (nW l)=true from ad4 50 l];simp;omega
def xt(l:List Nat){i:Nat}(h:i<l.length):oIx (.lst (nW l)) (.int i)=.ok (.int (l.getD i 0:Nat)):=by rw[gD,fM];simp[nW,h]
def mX(l:List Nat)(h:∀x∈l,x<1000)(o:l.length<=100):cX [.lst (nW l)]=if l.length%2=0 then .ok (.lst ((two2 l).map prW))else .ex (.exc "NoPairs" []):=by
 have e:(nW l).length=l.length:=by simp[nW]
 by_cases b:l.length%2=0
 .rw[apB b];have a:(l.length:Int)%2=0:=by omega
  have c:∀A:List Sl,bF (aF 0) g9 (iZ (ae (eOp oIx (ai 1) (ai 0)) (ae (eOp oIx (ai 1) (eOp dy (ai 0) (eC (.int 1)))) aA))) (.no::.va (.lst (nW l))::A) (adK 0 2 (l.length/2))=.ok ((two2 l).map prW):=λA=>by rw[<-two2_ix l b];refine cf λi a=>?_;have a:=apP.mp a;have g:=xt l (i:=2*i) (by omega);have f:=xt l (i:=2*i+1) (by omega);refine⟨_,rfl,rfl,?_⟩;rw[show(0:Int)+(i:Nat)*2=((2*i:Nat):Int)by omega];rw[show((2*i+1:Nat):Int)=((2*i:Nat):Int)+1 by omega]at f;generalize W.lst (nW l)=L at *;generalize((2*i:Nat):Int)=j at *;generalize l.getD (2*i) 0=u at *;generalize l.getD (2*i+1) 0=v at *;simp[g,f,prW]
  have c:=c [];have k:(-1152921504606846976:Int)<=l.length:=by omega
  have p:(l.length:Int)<1152921504606846976:=by omega
  have d:(((l.length:Int)-0+1)/2).toNat=l.length/2:=by omega
  generalize(two2 l).map prW=R at *;generalize nW l=L at *;simp only[Int.sub_zero]at d;have n:(adK 0 2 (l.length/2)).length<=1000000:=by simp[adK];omega
  simp[cX,dZ,List.replicate,e,a,ab0,k,p,d,n,c]
 .rw[apA b];have a:¬(l.length:Int)%2=0:=by omega
  have m:=agK l h o;generalize nW l=L at *;simp[cX,dZ,List.replicate,e,a,eFr,akx,m,uK]
def bsd(p:S3)(n:Int):S3:=((sfp p 0 n).1,(sfp p 0 n).2,p.2.2)
def uc(p:S3)(h:Fac p)(n:Int):fw [stW p,.int n]=.ok (stW (bsd p n)):=by have a:=yy p 0 n h.1 h.2;simp[fw,p6,List.replicate,a,bsd];simp[stW]
def nX{p:S3}(h:Fac p)(n:Int):Fac (bsd p n):=h
def af8{p:S3}(h:Fac p)(n:Int):bsd (FM.tq p) n=FM.tq (bsd p n):=by unfold bsd;rw[oO p h];rfl
def dz(f:List S3)(ps:List (Nat×Nat)):List S3:=ps.map λp=>bsd (f.getD p.1 (0,0,0)) 1
def j6(f:List S3)(d:∀p∈f,Fac p)(ps:List (Nat×Nat))(h:∀p∈ps,p.1<f.length)(j:ps.length<=1000):cj [flW f,.lst (ps.map prW)]=.ok (.lst ((dz f ps).map stW)):=by
 have b:bF (aF 0) g9 (aK fw (ae (eOp oIx (ai 1) (eOp oIx (ai 0) (eC (.int 0)))) (ae (eC (.int 1)) aA))) [.no,.va (flW f),.va (.lst (ps.map prW))] (ps.map prW)=.ok ((dz f ps).map stW):=by unfold dz;rw[ap6];refine cf λp a=>⟨_,rfl,rfl,?_⟩;have e:=acb (h p a);have i:=uc (f.getD p.1 (0,0,0)) (d _ (by rw[apx,apy (h p a)];exact ap7 _)) 1;have c:oIx (prW p) (.int 0)=.ok (.int p.1):=rfl;show _=Res.ok (stW (bsd (f.getD p.1 (0,0,0)) 1));generalize flW f=FL at *;generalize prW p=P at *;generalize stW (bsd (f.getD p.1 (0,0,0)) 1)=Z at *;generalize stW (f.getD p.1 (0,0,0))=Y at *;simp[e,i,c]
 have g:(ps.map prW).length<=1000000:=by simp;omega
 generalize ps.map prW=L at *;generalize flW f=FL at *;simp[cj,hU,List.replicate,b,g]
def ad5(hs:Nat->Option Nat)(d:Nat):pA (.int d) (hsW hs)=.ok (.bl (startB hs d)):=by
 have b:jb 51 ((List.range 8).map λy=>onW (hs y))=true:=abt 50 _ _ λy _=>by cases hs y<;>rfl
 have a:dG (.int d) ((List.range 8).map λy=>onW (hs y))=!startB hs d:=by
  have go:∀l:List Nat,dG (.int d) (l.map λy=>onW (hs y))=!l.all λy=>hs y !=some d:=λl=>by induction l with|nil=>rfl|cons y l ih=>rw[apU,vS,ih,asm,Bool.not_and];congr 1;cases hs y with|none=>rfl|some k=>rw[ap2];simp[onW];omega
  exact go _
 unfold hsW;show(if(okD 50 (.int d)&&jb 51 _)=true then Res.ok (W.bl !dG _ _)else .bad)=_;rw[b,a];simp
noncomputable def pl(hs:Nat->Option Nat):List Nat->List (Nat×Nat)->Option (List (Nat×Nat))|[],acc=>some acc|d::ds,acc=>if startB hs d=true then if(eE hs 8 d).length%2=0 then pl hs ds (acc++two2 (eE hs 8 d))else none else pl hs ds acc
theorem ag7(hs:Nat->Option Nat):∀(b:List Nat)(a:List (Nat×Nat)),pl hs b a=if((b.filter (startB hs)).map (eE hs 8)).all λl=>l.length%2==0=true then some (a++((b.filter (startB hs)).map (eE hs 8)).flatMap two2)else none
|[],a=>by simp[pl]|d::b,a=>by
  unfold pl;by_cases h:startB hs d=true
  .rw[apB h];by_cases c:(eE hs 8 d).length%2=0;.rw[apB c,ag7 hs b];simp[h,c]
   .rw[apA c];simp[h,c]
  .rw[apA h,ag7 hs b];simp[h]
theorem two2_len:∀l:List Nat,(two2 l).length<=l.length|[]=>apG _|[_]=>by simp[two2]|a::b::l=>by have:=two2_len l;simp[two2];omega
theorem qi{hs:Nat->Option Nat}:∀(n d:Nat),(eE hs n d).length<=n+1|0,d=>by simp[eE]|n+1,d=>by unfold eE;cases hs d with|none=>simp|some k=>have:=qi (hs:=hs) n k;simp;omega
theorem kZ{hs:Nat->Option Nat}{u:Nat->Nat}(H:Hands hs u)(FL:W):∀(c:List Nat)(a:List (Nat×Nat))(o:Sl),(∀d∈c,d<8)->a.length+9*c.length<900->(∀f,pl hs c a=some f->∃m,forL (aF 3) aT (nW c) [.va FL,.va (hsW hs),.ow (a.map prW),o]=.nx [.va FL,.va (hsW hs),.ow (f.map prW),m])/\(pl hs c a=none->∃b,forL (aF 3) aT (nW c) [.va FL,.va (hsW hs),.ow (a.map prW),o]=.ex (.exc "NoPairs" []) b)
|[],a,o,_,_=>⟨λf h=>⟨o,by cases h;rfl⟩,λh=>by cases h⟩|d::c,a,o,hd,hl=>by
  have i:=hd d apN;have j:∀x∈c,x<8:=λx n=>hd x (apI _ n);have g:=ad5 hs d;have q:=uL H i;have l:=mX (eE hs 8 d) λx n=>by have:=(mQ H 8 d i x n).1;omega (by have:=qi (hs:=hs) 8 d;omega);have v:(two2 (eE hs 8 d)).length<=9:=by have:=qi (hs:=hs) 8 d;have:=two2_len (eE hs 8 d);omega
  have t:nW (d::c)=.int d::nW c:=rfl;simp only[apK]at hl;rw[t,er];unfold pl;by_cases h:startB hs d=true
  .rw[apB h];by_cases k:(eE hs 8 d).length%2=0
   .rw[apB k];rw[apB k]at l;have p:=kZ H FL c (a++two2 (eE hs 8 d)) (.va (.int d)) j (by simp;omega);have e:aT [.va FL,.va (hsW hs),.ow (a.map prW),.va (.int d)]=.nx [.va FL,.va (hsW hs),.ow ((a++two2 (eE hs 8 d)).map prW),.va (.int d)]:=by
     have r:(a.map prW).length+((two2 (eE hs 8 d)).map prW).length<=lim:=by simp[lim];omega
     rw[arw];generalize hsW hs=HS at *;generalize a.map prW=A at *;generalize(two2 (eE hs 8 d)).map prW=R at *;generalize nW (eE hs 8 d)=L at *;rw[h]at g;simp only[lim]at r;simp[aT,g,q,l,ala,r]
    show(∀f,_->∃m,oj (aT [.va FL,.va (hsW hs),.ow (a.map prW),.va (.int d)]) _=_)/\(_->∃b,oj (aT [.va FL,.va (hsW hs),.ow (a.map prW),.va (.int d)]) _=_);rw[e];exact p
   .rw[apA k];rw[apA k]at l;refine⟨λf z=>(nomatch z),λ_=>?_⟩;have e:∃b,aT [.va FL,.va (hsW hs),.ow (a.map prW),.va (.int d)]=.ex (.exc "NoPairs" []) b:=by generalize hsW hs=HS at *;generalize a.map prW=A at *;generalize nW (eE hs 8 d)=L at *;rw[h]at g;simp[aT,g,q,l,ala]
    obtain⟨b,e⟩:=e;refine⟨b,?_⟩;show oj (aT [.va FL,.va (hsW hs),.ow (a.map prW),.va (.int d)]) _=_;rw[e];rfl
  .rw[apA h];have p:=kZ H FL c a (.va (.int d)) j (by omega);have e:aT [.va FL,.va (hsW hs),.ow (a.map prW),.va (.int d)]=.nx [.va FL,.va (hsW hs),.ow (a.map prW),.va (.int d)]:=by
    have s:startB hs d=false:=by simpa using h
    rw[s]at g;generalize hsW hs=HS at *;generalize a.map prW=A at *;simp[aT,g]
   show(∀f,_->∃m,oj (aT [.va FL,.va (hsW hs),.ow (a.map prW),.va (.int d)]) _=_)/\(_->∃b,oj (aT [.va FL,.va (hsW hs),.ow (a.map prW),.va (.int d)]) _=_);rw[e];exact p
open PySem.W(KasT kas_sort)
noncomputable def yN(n:Nat):KasT (Array Nat)->Bool|.ret p=>p.toList.isPerm (List.range n)|.ask _ _ k=>yN n (k true)&&yN n (k false)
theorem mP{n:Nat}{c:Nat->Nat->Bool}:∀t:KasT (Array Nat),yN n t=true->(ah4 c t).toList.Perm (List.range n)
|.ret p,h=>List.isPerm_iff.mp h|.ask i j k,h=>by
 have h:(yN n (k true)&&yN n (k false))=true:=h;rw[apT]at h;show(ah4 c (k (c i j))).toList.Perm _;cases c i j;.exact mP _ h.2
 .exact mP _ h.1
def aoF:okT 4 (kas_sort 4)=true/\yN 4 (kas_sort 4)=true:=by decide+kernel
noncomputable def zP(p:Nat×Nat):Int×Int:=(p.1,p.2)
theorem afE:∀a:List (Nat×Nat),prs (a.map prW)=some (a.map zP)|[]=>rfl|p::a=>by show(prs (a.map prW)).map _=_;rw[afE a];rfl
def srt(ps:List (Nat×Nat)):List (Nat×Nat):=(ixs (ps.map zP)).map λi=>ps.getD i (0,0)
def xG{ps:List (Nat×Nat)}(h:ps.length=4):(ixs (ps.map zP)).Perm (List.range 4):=by unfold ixs;rw[apR,h];exact mP _ aoF.2
def ady{ps:List (Nat×Nat)}(h:ps.length=4):(srt ps).Perm ps:=by
 have e:ps=(List.range 4).map λi=>ps.getD i (0,0):=by match ps,h with|[a,b,c,d],_=>rfl
 have:=(xG h).map λi=>ps.getD i (0,0);rw[<-e]at this;exact this
def agI{ps:List (Nat×Nat)}(h:ps.length=4):lO [.lst (ps.map prW)]=.ok (.lst ((srt ps).map prW)):=by
 unfold lO;simp only[afE];have b:(ps.map zP).length=4:=by rw[apR,h]
 rw[b,aoF.1];rw[apB (by decide)];congr 2;unfold srt;rw[ap6];refine aqy λi a=>?_;have a:i<4:=apP.mp ((xG h).mem_iff.mp a);show(ps.map prW).getD i .non=prW (ps.getD i (0,0));rw[apx,apX,apx,apy (by omega)];rfl
def uh(f:List S3):Option (List (Nat×Nat)):=match pl (rhO f) (List.range 8) []with|some ps=>if decide (cv (dz f ps))=true then some (srt ps)else none|none=>none
def ajk:Option (List (Nat×Nat))->Res W|some ps=>.ok (.lst (ps.map prW))|none=>.ex (.exc "NoPairs" [])
structure Prs(ps:List (Nat×Nat)):Prop where len:ps.length=4lt:∀p∈ps,p.1<8/\p.2<8all:∀d,d<8->∃p∈ps,d=p.1\/d=p.2
set_option tactic.hygienic true
def uP{f:List S3}(c:f.length=8)(k:cv f){ps:List (Nat×Nat)}(h:pl (rhO f) (List.range 8) []=some ps):Prs ps:=by
 rw[ag7]at h;split at h
 .rename_i j;have e:(sE (rhO f)).flatMap two2=ps:=by unfold sE;simpa using h
  have b:∀l∈sE (rhO f),l.length%2=0:=λl c=>by have:=aqn.mp j l c;simpa using this
  obtain⟨g,a⟩:=yU (xJ c k) b;rw[e]at g a;exact⟨g,λp i=>⟨(a p.1).mpr ⟨p,i,.inl rfl⟩,(a p.2).mpr ⟨p,i,.inr rfl⟩⟩,λd m=>(a d).mp m⟩
 .cases h
set_option tactic.hygienic false
theorem Prs.srt{ps:List (Nat×Nat)}(h:Prs ps):Prs (srt ps):=by have P:=ady h.len;refine⟨P.length_eq.trans h.len,λp a=>h.lt p (P.mem_iff.mp a),λd b=>?_⟩;obtain⟨p,a,e⟩:=h.all d b;exact⟨p,P.mem_iff.mpr a,e⟩
set_option tactic.hygienic true
def mV{f:List S3}(a:f.length=8)(b:cv f){ps:List (Nat×Nat)}(h:uh f=some ps):Prs ps:=by
 unfold uh at h;split at h
 .rename_i c e;split at h;.cases h;exact(uP a b e).srt
  .cases h
 .cases h
set_option tactic.hygienic false
def jq(f:List S3)(a:f.length=8)(o:∀p∈f,Fac p)(n:cv f):dt [flW f]=ajk (uh f):=by
 have H:=xJ a n;have l:bF (aF 0) g9 (aK dr (ae (ai 1) (ae (ai 0) aA))) [.no,.va (flW f),.no,.no,.no] (rng 0 8)=.ok ((List.range 8).map λd=>onW (rhO f d)):=by refine cf λd g=>⟨_,rfl,rfl,?_⟩;have b:=qk f a o d (apP.mp g);rw[asI];generalize flW f=FL at *;simp[b]
 have q:rng 0 8=nW (List.range 8):=by simp[rng,nW]
 have y:(nW (List.range 8)).length=8:=rfl;rw[q]at l;obtain⟨B,t⟩:=kZ H (flW f) (List.range 8) [] .no (λd g=>apP.mp g) (by decide);have k:dt [flW f]=fin (adB (forL (aF 3) aT (nW (List.range 8)) [.va (flW f),.va (hsW (rhO f)),.ow [],.no]) (aL (sIf (ah2 2 (tB (eOp j5 (aK bC (ae (aK cj (ae (ai 0) (ae (ai 2) aA))) aA)) (eC .non)))) (wN "NoPairs" (ae (eC (.str "two pairs of one middle")) aA)) sNx) (zR 2 (cx (eBi lO (ae (ai 2) aA)))))):=by generalize flW f=FL at *;simp[dt,kF,List.replicate,et,l,hsW,q,y]
 rw[k];unfold uh;cases e:pl (rhO f) (List.range 8) []with|none=>obtain⟨s,h⟩:=t e;have h:forL (aF 3) aT (nW (List.range 8)) [.va (flW f),.va (hsW (rhO f)),.ow [],.no]=_:=h;rw[h];rfl|some ps=>obtain⟨C,h⟩:=B ps e;have h:forL (aF 3) aT (nW (List.range 8)) [.va (flW f),.va (hsW (rhO f)),.ow [],.no]=_:=h;rw[h,eu];have G:=uP a n e;have m:=j6 f o ps (λp x=>by rw[a];exact(G.lt p x).1) (by rw[G.len];decide);obtain⟨w,r,v⟩:=dc (dz f ps) (by simp[dz,G.len]) (.lst ((dz f ps).map stW)) (.inr rfl);have u:=agI G.len;show _=ajk (if decide (cv (dz f ps))=true then some (srt ps)else none);cases v with|none c=>rw[apB (aqw c)];show _=Res.ok (W.lst ((srt ps).map prW));generalize ps.map prW=PS at *;generalize flW f=FL at *;generalize hsW (rhO f)=HS at *;generalize(dz f ps).map stW=MS at *;simp[m,r,u,kR]|two i j b h2 h3 h4 h5=>have c:¬cv (dz f ps):=λz=>kj z b h2 h3;rw[apA (by simpa using c)];show _=Res.ex (W.exc "NoPairs" []);generalize ps.map prW=PS at *;generalize flW f=FL at *;generalize hsW (rhO f)=HS at *;generalize(dz f ps).map stW=MS at *;have A:qL (.tup [.int i,.int j])=false:=rfl;simp[m,r,A]
def ai8{f:List S3}(b:∀p∈f,Fac p){d:Nat}(a:d<f.length):rhO (f.map FM.tq) d=rhO f d:=by have c:Fac (f.getD d (0,0,0)):=b _ (by rw[apx,apy a];exact ap7 _);unfold rhO;rw[iq a,oO _ c,we];cases e:ku (sfp (f.getD d (0,0,0)) 0 2) 0 f with|none=>rfl|some k=>
 have g:k<f.length:=by have:=(gp _ 0 f k e).2;omega
 have j:Fac (f.getD k (0,0,0)):=b _ (by rw[apx,apy g];exact ap7 _);have i:aN (f.map FM.tq) k=(aN f k+1)%4:=by unfold aN;rw[iq g];rfl
 have l:aN (f.map FM.tq) d=(aN f d+1)%4:=by unfold aN;rw[iq a];rfl
 have m:0<=aN f k/\aN f k<4:=j;have n:0<=aN f d/\aN f d<4:=c;show(if aN (f.map FM.tq) k=aN (f.map FM.tq) d then some k else none)=if aN f k=aN f d then some k else none;rw[i,l];by_cases h:aN f k=aN f d;.rw[apB h,apB (by rw[h])]
 .rw[apA h,apA (by omega)]
def vh{f:List S3}(b:∀p∈f,Fac p){ps:List (Nat×Nat)}(h:∀p∈ps,p.1<f.length):dz (f.map FM.tq) ps=(dz f ps).map FM.tq:=by unfold dz;rw[ap6];refine aqy λp a=>?_;show _=FM.tq (bsd _ 1);have c:Fac (f.getD p.1 (0,0,0)):=b _ (by rw[apx,apy (h p a)];exact ap7 _);rw[iq (h p a),af8 c]
theorem pf{hs a:Nat->Option Nat}(lt:∀d k,d<8->hs d=some k->k<8)(h:∀d,d<8->a d=hs d):∀n d,d<8->eE a n d=eE hs n d|0,_,_=>rfl|n+1,d,hd=>by unfold eE;rw[h d hd];cases e:hs d with|none=>rfl|some k=>show d::eE a n k=d::eE hs n k;rw[pf lt h n k (lt d k hd e)]
theorem qo{hs b:Nat->Option Nat}(lt:∀d k,d<8->hs d=some k->k<8)(h:∀d,d<8->b d=hs d):∀(c:List Nat)(a:List (Nat×Nat)),(∀d∈c,d<8)->pl b c a=pl hs c a
|[],_,_=>rfl|d::c,a,hd=>by
 have g:startB b d=startB hs d:=by
  unfold startB;rw[ap2];simp only[aqn,apP];constructor;.intro z y e;rw[<-h y e];exact z y e
  .intro z y e;rw[h y e];exact z y e
 have i:=pf lt h 8 d (hd d apN);unfold pl;rw[g,i,qo lt h c _ λx f=>hd x (apI _ f),qo lt h c _ λx f=>hd x (apI _ f)]
def xo{f:List S3}:cv (f.map FM.tq)↔ cv f:=by
 constructor;.intro h;rw[cv,arP]at h;exact h.imp λa e=>a (by rw[gy,gy,e])
 .intro h;rw[cv,arP];exact h.imp λa e=>a (aaI e)
def ag2{f:List S3}(c:f.length=8)(a:∀p∈f,Fac p)(g:cv f):uh (f.map FM.tq)=uh f:=by have e:pl (rhO (f.map FM.tq)) (List.range 8) []=pl (rhO f) (List.range 8) []:=qo λd k _ h=>by have:=(jU h).1;omega (λd b=>ai8 a (by omega)) _ _ λd b=>apP.mp b;unfold uh;rw[e];cases j:pl (rhO f) (List.range 8) []with|none=>rfl|some ps=>
 have G:=uP c g j;have em:dz (f.map FM.tq) ps=(dz f ps).map FM.tq:=vh a λp i=>by rw[c];exact(G.lt p i).1
 show(if decide (cv (dz (f.map FM.tq) ps))=true then some (srt ps)else none)=if decide (cv (dz f ps))=true then some (srt ps)else none;rw[em];by_cases h:cv (dz f ps);.rw[apB (aqw h),apB (aqw (xo.mpr h))]
 .rw[apA (by simpa using λz=>h (xo.mp z)),apA (by simpa using h)]
def agq(f:List S3)(s:Int×Int):fv [.lst (f.map stW),spW s]=.ok (onW (ku s 0 f)):=by have h:=pU (.lst (f.map stW)) s f 0 .no .no;rw[wg]at h;simp[fv,pZ,List.replicate]at h⊢;exact h
def PF(f:List S3)(ps:List (Nat×Nat)):W:=.ins "PairedFloor" [flW f,.lst (ps.map prW),.lst ((dz f ps).map stW)]
def apc(f:List S3)(ps:List (Nat×Nat)):aid "PairedFloor" 0 (PF f ps)=.ok (flW f):=rfl
def amI(f:List S3)(ps:List (Nat×Nat)):aid "PairedFloor" 1 (PF f ps)=.ok (.lst (ps.map prW)):=rfl
def amH(f:List S3)(ps:List (Nat×Nat)):aid "PairedFloor" 2 (PF f ps)=.ok (.lst ((dz f ps).map stW)):=rfl
def alg(f:List S3)(ps:List (Nat×Nat)):isN "PairedFloor" (PF f ps)=true:=rfl
def eL(c:String)(n:Nat)(e:EF)(σ:Ws):kf c n e σ=(e σ).bind (aid c n):=rfl
def kd(c:String)(b:List W->Res W)(o:EF)(a:AF)(σ:Ws):ke c b o a σ=(o σ).bind λy=>if isN c y=true then(a σ).bind λws=>b (y::ws)else .bad:=rfl
def ig(f:List S3)(ps:List (Nat×Nat))(i:Nat):S3:=(dz f ps).getD i (0,0,0)
def yK(f:List S3)(ps:List (Nat×Nat))(i:Nat)(a r:Int):What->Bool|.partner=>false|.opposite=>false|w=>ia (dz f ps) i (ig f ps i) w (ku (sfp (ig f ps i) a (2*r)) 0 (dz f ps))
def js{f:List S3}(h:f.length=8)(b:∀p∈f,Fac p){ps:List (Nat×Nat)}(G:Prs ps){i:Nat}(g:i<4):Fac (ig f ps i):=by
 have a:i<(dz f ps).length:=by simp[dz,G.len,g]
 have c:ig f ps i∈dz f ps:=by unfold ig;rw[apx,apy a];exact ap7 a
 obtain⟨p,d,e⟩:=aqi.mp c;rw[<-e];have:=(G.lt p d).1;exact nX (b _ (by rw[apx,apy (by omega)];exact ap7 _)) 1
def sO(f:List S3)(l:f.length=8)(s:∀p∈f,Fac p)(ps:List (Nat×Nat))(G:Prs ps)(i:Nat)(g:i<4)(a r:Int)(w:What):bJ [PF f ps,.int i,(Tst.at a r w).W]=.ok (.bl (yK f ps i a r w)):=by
 have d:i<(dz f ps).length:=by simp[dz,G.len,g]
 have c:=js l s G g;have e:=nE (f:=dz f ps) (S:=.lst ((dz f ps).map stW)) (.inr rfl) d;have e:oIx (.lst ((dz f ps).map stW)) (.int i)=.ok (stW (ig f ps i)):=e;have v:=yy (ig f ps i) a (2*r) c.1 c.2;have j:=agq (dz f ps) (sfp (ig f ps i) a (2*r));have lt:=gp (sfp (ig f ps i) a (2*r)) 0 (dz f ps);have t:=xB (dz f ps) (.inr rfl) (ig f ps i) c.1 c.2 (ku (sfp (ig f ps i) a (2*r)) 0 (dz f ps)) w i λk m=>by have:=lt k m;omega
 have u:=amH f ps;by_cases w1:w=.partner;.subst w1;generalize PF f ps=P at *;kernel_rfl
 by_cases b:w=.opposite;.subst b;generalize PF f ps=P at *;kernel_rfl
 have y:=t w1 b;have n:¬"partner"=w.w:=by cases w<;>first|decide|exact absurd rfl w1
 have x:¬"opposite"=w.w:=by cases w<;>first|decide|exact absurd rfl b
 have h:yK f ps i a r w=ia (dz f ps) i (ig f ps i) w (ku (sfp (ig f ps i) a (2*r)) 0 (dz f ps)):=by cases w<;>first|rfl|exact absurd rfl w1|exact absurd rfl b
 rw[h];generalize PF f ps=P at *;generalize W.lst ((dz f ps).map stW)=MS at *;generalize ig f ps i=q at *;generalize ku (sfp q a (2*r)) 0 (dz f ps)=o at *;generalize ia (dz f ps) i q w o=B at *;simp(disch:=omega)[bJ,ck,List.replicate,Tst.W,k8,n,x,eL,u,e,v,j,y,pE]
noncomputable def prt(ps:List (Nat×Nat))(i:Nat):Nat×Nat:=ps.getD i (0,0)
def t6(f:List S3)(p:Nat×Nat)(t:Tst):Bool:=dP f p.1 (f.getD p.1 (0,0,0)) t&&dP f p.2 (f.getD p.2 (0,0,0)) t
def i9(f:List S3)(ps:List (Nat×Nat))(i:Nat):Tst->Bool|.at a r w=>yK f ps i a r w|.lone .inward=>dP f 0 (ig f ps i) (.lone .inward)|.lone .outward=>dP f 0 (ig f ps i) (.lone .outward)|.lone .sideways=>dP f 0 (ig f ps i) (.lone .sideways)|t=>t6 f (prt ps i) t
def mU{ps:List (Nat×Nat)}(G:Prs ps){i:Nat}(a:i<4):prt ps i∈ps:=by
 have:i<ps.length:=by rw[G.len];exact a
 unfold prt;rw[apx,apy this];exact ap7 this
def afD{ps:List (Nat×Nat)}(G:Prs ps){i:Nat}(a:i<4):oIx (.lst (ps.map prW)) (.int i)=.ok (prW (prt ps i)):=by
 have:i<ps.length:=by rw[G.len];exact a
 rw[gD,fM,apX];unfold prt;rw[apx,apy this];rfl
def acU(f:List S3)(g:f.length=8)(a:∀p∈f,Fac p)(ps:List (Nat×Nat))(G:Prs ps)(i:Nat)(c:i<4)(t:Tst)(A:List Sl):bF (aF 0) g9 (aK (dU 3) (ae (kf "PairedFloor" 0 (ai 1)) (ae (ai 0) (ae (ai 3) aA)))) (.no::.va (PF f ps)::.va (.int i)::.va t.W::A) [.int (prt ps i).1,.int (prt ps i).2]=.ok [.bl (dP f (prt ps i).1 (f.getD (prt ps i).1 (0,0,0)) t),.bl (dP f (prt ps i).2 (f.getD (prt ps i).2 (0,0,0)) t)]:=by have lt:=G.lt _ (mU G c);have b:=afZ 2 f a (prt ps i).1 (by omega) t;have d:=afZ 2 f a (prt ps i).2 (by omega) t;have e:=apc f ps;generalize PF f ps=P at *;generalize flW f=FL at *;generalize dP f (prt ps i).1 (f.getD (prt ps i).1 (0,0,0)) t=b1 at *;generalize dP f (prt ps i).2 (f.getD (prt ps i).2 (0,0,0)) t=b2 at *;generalize t.W=T at *;generalize(prt ps i).1=x at *;generalize(prt ps i).2=y at *;simp[bF,eL,e,b,d]
def mY(n:Nat)(f:List S3)(o:f.length=8)(u:∀p∈f,Fac p)(ps:List (Nat×Nat))(G:Prs ps)(i:Nat)(g:i<4)(t:Tst):au (n+1) [PF f ps,.int i,t.W]=.ok (.bl (i9 f ps i t)):=by
 have j:i<(dz f ps).length:=by simp[dz,G.len,g]
 have d:=js o u G g;have s:=nE (f:=dz f ps) (S:=.lst ((dz f ps).map stW)) (.inr rfl) j;have s:oIx (.lst ((dz f ps).map stW)) (.int i)=.ok (stW (ig f ps i)):=s;have X:=amH f ps;have N:=amI f ps;have B:=alg f ps;have v:=afD G g;have h:=λA=>acU f o u ps G i g t A;have h:=h [];have other:∀(w:String)(r:List W),t.W=.tup (.str w::r)->¬w="not"->¬w="at"->¬"inward"=w->¬"outward"=w->¬"sideways"=w->au (n+1) [PF f ps,.int i,t.W]=.ok (.bl (t6 f (prt ps i) t)):=λw r O U Z J E z=>by
  have R:allB [.bl (dP f (prt ps i).1 (f.getD (prt ps i).1 (0,0,0)) t),.bl (dP f (prt ps i).2 (f.getD (prt ps i).2 (0,0,0)) t)]=some (t6 f (prt ps i) t):=by have:=ro [dP f (prt ps i).1 (f.getD (prt ps i).1 (0,0,0)) t,dP f (prt ps i).2 (f.getD (prt ps i).2 (0,0,0)) t];simpa[t6]using this
  have H:prW (prt ps i)=.tup [.int (prt ps i).1,.int (prt ps i).2]:=rfl;rw[H]at v;have I:oIx t.W (.int 0)=.ok (.str w):=by rw[O];simp
  generalize PF f ps=P at *;generalize W.lst (ps.map prW)=PS at *;generalize t6 f (prt ps i) t=BB at *;generalize W.bl (dP f (prt ps i).1 (f.getD (prt ps i).1 (0,0,0)) t)=b1 at *;generalize W.bl (dP f (prt ps i).2 (f.getD (prt ps i).2 (0,0,0)) t)=b2 at *;generalize(prt ps i).1=x at *;generalize(prt ps i).2=y at *;generalize t.W=T at *;simp[au,aV,List.replicate,k8,fy,I,U,Z,J,E,z,eL,N,v,h,R]
 cases t with|«at» a r w=>have c:=sO f o u ps G i g a r w;simp only[Tst.W]at c⊢;show _=Res.ok (W.bl (yK f ps i a r w));generalize PF f ps=P at *;simp[au,aV,List.replicate,kd,B,c]|inner m=>exact other "inner" [.int m] rfl (by decide) (by decide) (by decide) (by decide) (by decide)|lone l=>
 have k:∀(D w:Str)(b:Bool),gJ [stW (ig f ps i)]=.ok (.str D)->oIn (.str w) fy=.ok (.bl true)->oEq (.str w) (.str "not")=.ok (.bl false)->oEq (.str w) (.str "at")=.ok (.bl false)->oEq (.str D) (.str w)=.ok (.bl b)->au (n+1) [PF f ps,.int i,.tup [.str w]]=.ok (.bl b):=λD w b C Y M Q K=>by clear other h;generalize PF f ps=P at *;generalize W.lst ((dz f ps).map stW)=MS at *;generalize stW (ig f ps i)=q at *;simp[au,aV,List.replicate,Y,M,Q,eL,X,s,C,K]
 cases l;case head=>exact other "head" [] rfl (by decide) (by decide) (by decide) (by decide) (by decide)
 case side=>exact other "side" [] rfl (by decide) (by decide) (by decide) (by decide) (by decide)
 case lefts=>exact other "lefts" [] rfl (by decide) (by decide) (by decide) (by decide) (by decide)
 case rights=>exact other "rights" [] rfl (by decide) (by decide) (by decide) (by decide) (by decide)
 case inward=>obtain⟨D,c,e⟩:=eS f 0 _ d.1 d.2 .inward trivial;exact k D _ _ c (by kernel_rfl) (by kernel_rfl) (by kernel_rfl) e
 case outward=>obtain⟨D,c,e⟩:=eS f 0 _ d.1 d.2 .outward trivial;exact k D _ _ c (by kernel_rfl) (by kernel_rfl) (by kernel_rfl) e
 case sideways=>obtain⟨D,c,e⟩:=eS f 0 _ d.1 d.2 .sideways trivial;exact k D _ _ c (by kernel_rfl) (by kernel_rfl) (by kernel_rfl) e
def qu(f:List S3)(c:f.length=8)(a:∀p∈f,Fac p)(ps:List (Nat×Nat))(G:Prs ps)(i:Nat)(b:i<4)(g:Bool)(t:Tst):au 3 [PF f ps,.int i,tsW g t]=.ok (.bl (afR g (i9 f ps i t))):=by cases g with|false=>exact mY 2 f c a ps G i b t|true=>have h:=mY 1 f c a ps G i b t;have d:=alg f ps;simp only[tsW,arc,afR];rw[show au 3=run 3 (aV (au 2))from rfl];generalize PF f ps=P at *;simp[aV,List.replicate,kd,d,h]
def prB(f:List S3)(ps:List (Nat×Nat))(i:Nat)(r:Rl):Bool:=r.ts.all λp=>afR p.1 (i9 f ps i p.2)
def fR(f:List S3)(ps:List (Nat×Nat))(c:List Rl)(i:Nat):Option (Option (List Stp)):=(c.find? (prB f ps i)).map (·.ss)
theorem mT(f:List S3)(l:f.length=8)(o:∀p∈f,Fac p)(ps:List (Nat×Nat))(G:Prs ps)(i:Nat)(g:i<4)(C:W):∀(c:List Rl),(∀r∈c,r.ts.length<=100)->∀j:Sl,fin (adB (forL (aF 3) aO (c.map Rl.W) [.va (PF f ps),.va (.int i),.va C,j]) (jl "Blind" (ae (eOp oIx (eOp oIx (kf "PairedFloor" 1 (ai 0)) (ai 1)) (eC (.int 0))) aA)))=stR ssW (exN "Blind" (prt ps i).1) (fR f ps c i)
|[],_,j=>by have y:=amI f ps;have z:=afD G g;have t:oIx (prW (prt ps i)) (.int 0)=.ok (.int (prt ps i).1):=rfl;have w:=jP (n:=(prt ps i).1) (by have:=(G.lt _ (mU G g)).1;omega);show _=Res.ex (W.exc "Blind" [.int (prt ps i).1]);generalize PF f ps=P at *;generalize W.lst (ps.map prW)=PS at *;generalize prW (prt ps i)=Q at *;have x:(WL.fieldsOf "Blind").length=1:=rfl;simp[kQ,eL,y,z,t,w,x]|r::c,hc,j=>by
  have A:=mT f l o ps G i g C c (λr u=>hc r (apI _ u)) (.va r.W);have d:(r.ts.map λp=>tsW p.1 p.2).length<=1000000:=by have:=hc r apN;simp;omega
  have q:=alg f ps;have b:bF (aF 0) g9 (ke "PairedFloor" (au 3) (ai 1) (ae (ai 2) (ae (ai 0) aA))) [.no,.va (PF f ps),.va (.int i),.va C,.va r.W] (r.ts.map λp=>tsW p.1 p.2)=.ok (r.ts.map λp=>.bl (afR p.1 (i9 f ps i p.2))):=cf λp _=>⟨_,rfl,rfl,by have h:=qu f l o ps G i g p.1 p.2;generalize PF f ps=P at *;generalize tsW p.1 p.2=T at *;simp[kd,q,h]⟩;have a:allB (r.ts.map λp=>.bl (afR p.1 (i9 f ps i p.2)))=some (prB f ps i r):=by have:=ro (r.ts.map λp=>afR p.1 (i9 f ps i p.2));simp only[ap6,asH]at this;exact this
  have k:oIx r.W (.int 0)=.ok (.tup (r.ts.map λp=>tsW p.1 p.2)):=rfl;have m:oIx r.W (.int 1)=.ok (ssW r.ss):=rfl;rw[apU,er];by_cases h:prB f ps i r=true
  .have e:fR f ps (r::c) i=some r.ss:=by simp[fR,h]
   rw[e];show _=Res.ok (ssW r.ss);generalize PF f ps=P at *;generalize r.ts.map (λp=>tsW p.1 p.2)=TS at *;generalize r.ts.map (λp=>W.bl (afR p.1 (i9 f ps i p.2)))=BS at *;generalize r.W=R at *;generalize ssW r.ss=S at *;rw[h]at a;simp[aO,ix,il,lim,List.replicate,ajQ,ajS,ajR,ajT,k,m,d,b,a]
  .have e:fR f ps (r::c) i=fR f ps c i:=by simp[fR,h]
   rw[e,<-A];have v:prB f ps i r=false:=by simpa using h
   rw[v]at a;have s:aO [.va (PF f ps),.va (.int i),.va C,.va r.W]=.nx [.va (PF f ps),.va (.int i),.va C,.va r.W]:=by generalize PF f ps=P at *;generalize r.ts.map (λp=>tsW p.1 p.2)=TS at *;generalize r.ts.map (λp=>W.bl (afR p.1 (i9 f ps i p.2)))=BS at *;generalize r.W=R at *;simp[aO,ix,il,lim,List.replicate,ajQ,ajS,ajR,ajT,k,m,d,b,a]
   show fin (adB (oj (aO [.va (PF f ps),.va (.int i),.va C,.va r.W]) _) _)=_;rw[s];rfl
def qt(f:List S3)(g:f.length=8)(b:∀p∈f,Fac p)(ps:List (Nat×Nat))(G:Prs ps)(i:Nat)(d:i<4)(c:List Rl)(a:∀r∈c,r.ts.length<=100):bq [PF f ps,.int i,clW c]=stR ssW (exN "Blind" (prt ps i).1) (fR f ps c i):=by have h:=mT f g b ps G i d (clW c) c a .no;rw[<-h];generalize PF f ps=P at *;have e:clW c=.lst (c.map Rl.W):=rfl;rw[e];simp[bq,bW,List.replicate]
noncomputable def wid(s:Stp):Stp:=match s with|.go .left n=>.go .left (2*n)|.go .right n=>.go .right (2*n)|s=>s
def yc(s:Stp):f6 [s.W]=.ok (wid s).W:=by cases s with|go g n=>cases g<;>kernel_rfl|turn t=>cases t<;>kernel_rfl
def ssL:Option (List Stp)->List W|none=>[.tup [.str "stay"]]|some l=>l.map Stp.W
def adg(s:Option (List Stp)):Option (List Stp):=s.map (List.map wid)
def amn(s:Option (List Stp)):ssW s=.tup (ssL s):=by cases s<;>rfl
def adf(s:Option (List Stp))(A:List Sl):bF (aF 0) g9 (aK f6 (ae (ai 0) aA)) (.no::A) (ssL s)=.ok (ssL (adg s)):=by
 cases s with|none=>
 have e:f6 [.tup [.str "stay"]]=.ok (.tup [.str "stay"]):=by simp[f6,mq,List.replicate,k8]
 simp[ssL,adg,bF,e]|some l=>show _=Res.ok ((l.map wid).map Stp.W);rw[ap6];refine cf λs _=>⟨_,rfl,rfl,?_⟩;have:=yc s;generalize s.W=T at *;simp[this]
def agu(p:S3)(h:Fac p)(s:Option (List Stp))(hs:∀l,s=some l->l.length<=100):iO [stW p,.lst (ssL s)]=.ok (iX (m3 p s)):=by cases s with|none=>simp[iO,lW,List.replicate,ssL,er,eP,iX,m3]|some l=>obtain⟨a,e⟩:=wm (stW p) (.lst (ssL (some l))) l p [] .no h (by have:=hs l rfl;simp;omega);simp[ssL]at e;simp[iO,lW,List.replicate,ssL,e,iX,m3]
def wyM(f:List S3)(ps:List (Nat×Nat))(c:List Rl)(i:Nat):List S3:=m3 (ig f ps i) (adg ((fR f ps c i).getD none))
def put2(f:List S3)(ps:List (Nat×Nat))(c:List Rl)(t:List (List S3))(i:Nat):List (List S3):=(t.set (prt ps i).1 ((wyM f ps c i).map (bsd . (-1)))).set (prt ps i).2 ((wyM f ps c i).map (bsd . 1))
def tlF(f:List S3)(ps:List (Nat×Nat))(c:List Rl)(n:Nat):List (List S3):=(List.range n).foldl (put2 f ps c) (List.replicate 8 [])
def iB(f:List S3)(ps:List (Nat×Nat))(c:List Rl)(n:Nat):tlF f ps c (n+1)=put2 f ps c (tlF f ps c n) n:=by unfold tlF;rw[List.range_succ,List.foldl_append];rfl
theorem ml(f:List S3)(ps:List (Nat×Nat))(c:List Rl):∀n,(tlF f ps c n).length=8|0=>by simp[tlF]|n+1=>by rw[iB];simp[put2,ml f ps c n]
def uO{f:List S3}{ps:List (Nat×Nat)}{c:List Rl}(hs:∀r∈c,∀l,r.ss=some l->l.length<=100){i:Nat}{l:List Stp}(h:(fR f ps c i).getD none=some l):l.length<=100:=by unfold fR at h;cases e:c.find? (prB f ps i)with|none=>rw[e]at h;cases h|some r=>rw[e]at h;exact hs r (List.mem_of_find?_eq_some e) l h
def aag{s:Option (List Stp)}(h:∀l,s=some l->l.length<=100):∀l,adg s=some l->l.length<=100:=λl e=>by cases s with|none=>cases e|some m=>cases e;rw[apR];exact h m rfl
def afc{f:List S3}{ps:List (Nat×Nat)}{c:List Rl}(hs:∀r∈c,∀l,r.ss=some l->l.length<=100)(i:Nat):(wyM f ps c i).length<=101:=by have h:=aag (s:=(fR f ps c i).getD none) λl a=>uO hs a;unfold wyM;cases e:adg ((fR f ps c i).getD none)with|none=>simp[m3]|some l=>have:=h l e;simp[m3,rT];omega
def x3(w:List S3)(hw:∀p∈w,Fac p)(n:Int)(e:EF)(a:∀σ,e σ=.ok (.int n))(A:List Sl):bF (aF 0) g9 (aK fw (ae (ai 0) (ae e aA))) (.no::A) (w.map stW)=.ok ((w.map (bsd . n)).map stW):=by rw[ap6];refine cf λp b=>⟨_,rfl,rfl,?_⟩;have h:=uc p (hw p b) n;show _=Res.ok (stW (bsd p n));generalize stW (bsd p n)=Z at *;generalize stW p=Y at *;simp[h,a]
def aeS(f:List S3)(j:f.length=8)(R:∀p∈f,Fac p)(ps:List (Nat×Nat))(G:Prs ps)(c:List Rl)(hs:∀r∈c,∀l,r.ss=some l->l.length<=100)(FL C:W)(g:W)(i:Nat)(n:i<4)(a:oIx g (.int i)=.ok (ssW ((fR f ps c i).getD none)))(t:List (List S3))(N:t.length=8)(Q:Sl):∃K,bA [.va FL,.va C,.va (PF f ps),.va g,.ow (t.map iX),.va (.int i),.va (prW (prt ps i)),Q]=.nx [.va FL,.va C,.va (PF f ps),.va g,.ow ((put2 f ps c t i).map iX),.va (.int i),.va (prW (prt ps i)),K]:=by
 have h:i<(dz f ps).length:=by simp[dz,G.len,n]
 have o:=js j R G n;have m:=nE (f:=dz f ps) (S:=.lst ((dz f ps).map stW)) (.inr rfl) h;have m:oIx (.lst ((dz f ps).map stW)) (.int i)=.ok (stW (ig f ps i)):=m;have U:=amH f ps;have v:=λA=>adf ((fR f ps c i).getD none) A;have k:=aag (s:=(fR f ps c i).getD none) λl j=>uO hs j;have d:=agu (ig f ps i) o (adg ((fR f ps c i).getD none)) k;have d:iO [stW (ig f ps i),.lst (ssL (adg ((fR f ps c i).getD none)))]=.ok (.lst ((wyM f ps c i).map stW)):=d;have u:∀p∈wyM f ps c i,Fac p:=mZ _ _ o;have X:=afc (f:=f) (ps:=ps) hs i;have B:=λA=>x3 (wyM f ps c i) u (-1) (eUn pB (eC (.int 1))) (λσ=>rfl) A;have H:=λA=>x3 (wyM f ps c i) u 1 (eC (.int 1)) (λσ=>rfl) A;have lt:=G.lt _ (mU G n);have M:oIx (prW (prt ps i)) (.int 0)=.ok (.int (prt ps i).1):=rfl;have E:oIx (prW (prt ps i)) (.int 1)=.ok (.int (prt ps i).2):=rfl;have I:(ssL ((fR f ps c i).getD none)).length<=1000000:=by cases e:(fR f ps c i).getD none with|none=>simp[ssL]|some l=>have:=uO hs e;simp[ssL];omega
 have z:((wyM f ps c i).map stW).length<=1000000:=by simp;omega
 have D:(put2 f ps c t i).map iX=((t.map iX).set (prt ps i).1 (.lst (((wyM f ps c i).map (bsd . (-1))).map stW))).set (prt ps i).2 (.lst (((wyM f ps c i).map (bsd . 1)).map stW)):=by simp[put2,asJ,iX]
 have Y:(t.map iX).length=8:=by simp[N]
 rw[D];rw[amn]at a;generalize PF f ps=P at *;generalize W.lst ((dz f ps).map stW)=MS at *;generalize ig f ps i=q at *;generalize((wyM f ps c i).map (bsd . (-1))).map stW=B1 at *;generalize((wyM f ps c i).map (bsd . 1)).map stW=B2 at *;generalize(wyM f ps c i).map stW=WY at *;generalize ssL (adg ((fR f ps c i).getD none))=WS at *;generalize ssL ((fR f ps c i).getD none)=SL at *;generalize t.map iX=T at *;generalize prW (prt ps i)=PR at *;generalize(prt ps i).1=x at *;generalize(prt ps i).2=y at *;refine⟨.va (.lst WY),?_⟩;have O:∀(σ:Ws)(w:W),agH σ 4 T w (.ok (.int x))=.ok (σ.set 4 (.ow (T.set x w))):=λσ w=>by have:=wy σ 4 T w x (by omega) (by omega);simpa using this
 have J:∀(σ:Ws)(w b:W),agH σ 4 (T.set x b) w (.ok (.int y))=.ok (σ.set 4 (.ow ((T.set x b).set y w))):=λσ w b=>by have:=wy σ 4 (T.set x b) w y (by omega) (by simp;omega);simpa using this
 simp[bA,eL,U,m,a,v,I,d,B,H,z,M,E,List.replicate,O,J]
theorem tH:∀(xs:List W)(k i:Nat)(x:W),(eA k xs)[i]?=some x->∃y,xs[i]?=some y/\x=.tup [.int ((k+i:Nat):Int),y]|[],_,_,_,h=>by simp[eA]at h|y::xs,k,0,x,h=>by simp[eA]at h;exact⟨y,rfl,by rw[<-h];rfl⟩|y::xs,k,i+1,x,h=>by simp[eA]at h;obtain⟨z,a,b⟩:=tH xs (k+1) i x h;exact⟨z,by simpa using a,by rw[b];congr 4;omega⟩
theorem tG:∀(xs:List W)(k:Nat),(eA k xs).length=xs.length|[],_=>rfl|_::xs,k=>by simp[eA,tG xs]
def aeQ(f:List S3)(u:f.length=8)(v:∀p∈f,Fac p)(ps:List (Nat×Nat))(G:Prs ps)(c:List Rl)(hs:∀r∈c,∀l,r.ss=some l->l.length<=100)(FL C:W)(d:W)(s:∀i:Nat,i<4->oIx d (.int i)=.ok (ssW ((fR f ps c i).getD none))):∃j k a,forL (rB (cP (aF 5) (cP (aF 6) qO))) bA (eA 0 (ps.map prW)) [.va FL,.va C,.va (PF f ps),.va d,.ow ((List.replicate 8 []).map iX),.no,.no,.no]=.nx [.va FL,.va C,.va (PF f ps),.va d,.ow ((tlF f ps c 4).map iX),j,k,a]:=by
 obtain⟨m,e,h⟩:=nI (g:=rB (cP (aF 5) (cP (aF 6) qO))) (b:=bA) (xs:=eA 0 (ps.map prW)) (λi m=>∃j k a,m=[.va FL,.va C,.va (PF f ps),.va d,.ow ((tlF f ps c i).map iX),j,k,a]) (σ:=[.va FL,.va C,.va (PF f ps),.va d,.ow ((List.replicate 8 []).map iX),.no,.no,.no]) ⟨_,_,_,rfl⟩ (by
 rintro i w σ hw⟨j,k,a,rfl⟩;obtain⟨y,o,rfl⟩:=tH _ 0 i w hw;have q:i<4:=by have:=(apC.mp o).1;simpa[G.len]using this
 have t:y=prW (prt ps i):=by
  rw[apX]at o;have n:i<ps.length:=by rw[G.len];exact q
  rw[apy n]at o;unfold prt;rw[apx,apy n];exact(apV o).symm
 subst t;rw[Nat.zero_add];obtain⟨z,x⟩:=aeS f u v ps G c hs FL C d i q (s i q) (tlF f ps c i) (ml f ps c i) a;refine⟨[.va FL,.va C,.va (PF f ps),.va d,.ow ((tlF f ps c i).map iX),.va (.int i),.va (prW (prt ps i)),a],?_,_,x,?_⟩;.generalize PF f ps=P at *;generalize prW (prt ps i)=Q at *;simp
 .exact⟨_,_,_,by rw[iB]⟩);rw[tG,apR,G.len]at h;obtain⟨j,k,a,rfl⟩:=h;exact⟨j,k,a,e⟩
def qR{f:List S3}(b:∀p∈f,Fac p){d:Nat}(a:d<f.length):Fac (f.getD d (0,0,0)):=b _ (by rw[apx,apy a];exact ap7 _)
def xy{f:List S3}{ps:List (Nat×Nat)}(G:Prs ps):(dz f ps).length=4:=by simp[dz,G.len]
def aeb{f:List S3}(d:f.length=8)(a:∀p∈f,Fac p){ps:List (Nat×Nat)}(G:Prs ps):∀p∈dz f ps,Fac p:=λp b=>by obtain⟨q,c,rfl⟩:=aqi.mp b;exact nX (qR a (by have:=(G.lt q c).1;omega)) 1
section
variable{f:List S3}(hl:f.length=8)(hf:∀p∈f,Fac p){ps:List (Nat×Nat)}(G:Prs ps)
include hl hf G
theorem afJ{i:Nat}(a:i<4):ig (f.map FM.tq) ps i=FM.tq (ig f ps i):=by unfold ig;rw[vh hf λp b=>by rw[hl];exact(G.lt p b).1,iq (by rw[xy G];exact a)]
theorem adR{i:Nat}(b:i<4)(t:Tst):i9 (f.map FM.tq) ps i t=i9 f ps i t:=by
 have em:=vh hf (ps:=ps) λp s=>by rw[hl];exact(G.lt p s).1
 have n:=afJ hl hf G b;have g:=aeb hl hf G;have c:=xy (f:=f) G;have lt:=G.lt _ (mU G b);have e:∀l:Lone,l=.inward\/l=.outward\/l=.sideways->dP (f.map FM.tq) 0 (ig (f.map FM.tq) ps i) (.lone l)=dP f 0 (ig f ps i) (.lone l):=λl h=>by have j:=vr g (d:=i) (by rw[c];exact b) (.lone l);rw[iq (by rw[c];exact b)]at j;rw[n];rcases h with rfl|rfl|rfl<;>exact j
 have o:∀t,t6 (f.map FM.tq) (prt ps i) t=t6 f (prt ps i) t:=λt=>by unfold t6;rw[vr hf (by omega),vr hf (by omega)]
 cases t with
|«at» a r w=>
  show yK _ _ _ _ _ _=yK _ _ _ _ _ _;have h:ia (dz (f.map FM.tq) ps) i (ig (f.map FM.tq) ps i) w (ku (sfp (ig (f.map FM.tq) ps i) a (2*r)) 0 (dz (f.map FM.tq) ps))=ia (dz f ps) i (ig f ps i) w (ku (sfp (ig f ps i) a (2*r)) 0 (dz f ps)):=by rw[n,em,oO _ (js hl hf G b),we];exact aaM g (by rw[c];exact b) w _ λk q=>by have:=gp _ 0 _ k q;omega
  cases w<;>first|rfl|exact h
|inner m=>exact o _|lone l=>
  cases l;case inward=>exact e _ (.inl rfl)
  case outward=>exact e _ (.inr (.inl rfl))
  case sideways=>exact e _ (.inr (.inr rfl))
  all_goals exact o _
theorem afz(c:List Rl){i:Nat}(a:i<4):fR (f.map FM.tq) ps c i=fR f ps c i:=by
 have e:prB (f.map FM.tq) ps i=prB f ps i:=by funext r;unfold prB;congr 1;funext p;rw[adR hl hf G a]
 unfold fR;rw[e]
theorem alZ(c:List Rl){i:Nat}(a:i<4):wyM (f.map FM.tq) ps c i=(wyM f ps c i).map FM.tq:=by unfold wyM;rw[afJ hl hf G a,afz hl hf G c a,ad0 _ _ (js hl hf G a)]
theorem ajf(c:List Rl)(t:List (List S3)){i:Nat}(a:i<4):put2 (f.map FM.tq) ps c (t.map (List.map FM.tq)) i=(put2 f ps c t i).map (List.map FM.tq):=by
 have e:∀p∈wyM f ps c i,Fac p:=mZ _ _ (js hl hf G a);have b:∀n:Int,((wyM f ps c i).map FM.tq).map (bsd . n)=((wyM f ps c i).map (bsd . n)).map FM.tq:=λn=>by rw[ap6,ap6];exact aqy λp d=>af8 (e p d) n
 unfold put2;rw[alZ hl hf G c a,b,b,asJ,asJ]
theorem aiR(c:List Rl):∀n,n<=4->tlF (f.map FM.tq) ps c n=(tlF f ps c n).map (List.map FM.tq)|0,_=>by simp[tlF]|n+1,h=>by rw[iB,iB,aiR c n (by omega),ajf hl hf G c _ (by omega)]
theorem afm(c:List Rl):∀n,n<=4->(∀w∈tlF f ps c n,∀p∈w,Fac p)/\((∀r∈c,∀l,r.ss=some l->l.length<=100)->∀w∈tlF f ps c n,w.length<=1000)
|0,_=>by simp[tlF]|n+1,h=>by
  obtain⟨d,g⟩:=afm c n (by omega);have e:∀p∈wyM f ps c n,Fac p:=mZ _ _ (js hl hf G (by omega));have a:∀m:Int,∀p∈(wyM f ps c n).map (bsd . m),Fac p:=λm p i=>by obtain⟨q,j,rfl⟩:=aqi.mp i;exact nX (e q j) m
  rw[iB];unfold put2;refine⟨λw hw=>?_,λb w hw=>?_⟩
  .rcases aqM hw with hw|rfl
   .rcases aqM hw with hw|rfl;.exact d w hw
    .exact a _
   .exact a _
  .have k:=afc (f:=f) (ps:=ps) b n;rcases aqM hw with hw|rfl
   .rcases aqM hw with hw|rfl;.exact g b w hw
    .rw[apR];omega
   .rw[apR];omega
omit hl hf in theorem aiS(c:List Rl):∀n,n<=4->∀d,d<8->(∃i,i<n/\(d=(prt ps i).1\/d=(prt ps i).2))->(tlF f ps c n).getD d []≠[]
|0,_,d,_,h=>by obtain⟨i,j,_⟩:=h;exact absurd j (aqX _)|n+1,hn,d,hd,h=>by
  have g:∀m:Int,(wyM f ps c n).map (bsd . m)≠[]:=λm z=>by obtain⟨t,e⟩:=yW (adg ((fR f ps c n).getD none)) (ig f ps n);have:=List.map_eq_nil_iff.mp z;unfold wyM at this;rw[e]at this;cases this
  have lt:=G.lt _ (mU G (i:=n) (by omega));have len:=ml f ps c n;rw[iB];unfold put2;by_cases b:d=(prt ps n).2;.subst b;rw[apx,apz (by simp;omega)];exact g 1
  .rw[apx,apv λz=>b z.symm];by_cases a:d=(prt ps n).1;.subst a;rw[apz (by omega)];exact g (-1)
   .rw[apv λz=>a z.symm,<-apx];obtain⟨i,j,e⟩:=h;refine aiS c n (by omega) d hd ⟨i,?_,e⟩;rcases Nat.lt_or_ge i n with z|z;.exact z
    .have:i=n:=by omega
     subst this;rcases e with e|e;.exact(a e).elim
     .exact(b e).elim
end
structure Wys(ps:List (List S3)):Prop where
 len:ps.length=8ne:∀w∈ps,w≠[]fac:∀w∈ps,∀p∈w,Fac p
 short:∀w∈ps,w.length<=1000
def aax{f:List S3}(j:f.length=8)(m:∀p∈f,Fac p){ps:List (Nat×Nat)}(G:Prs ps){c:List Rl}(hs:∀r∈c,∀l,r.ss=some l->l.length<=100):Wys (tlF f ps c 4):=by
 obtain⟨h,o⟩:=afm j m G c 4 (apG _);refine⟨ml f ps c 4,λw hw=>?_,h,o hs⟩;obtain⟨d,b,rfl⟩:=aq6 hw;have a:d<8:=by rw[ml]at b;exact b
 obtain⟨p,n,e⟩:=G.all d a;obtain⟨i,g,rfl⟩:=aq6 n;have k:prt ps i=ps[i]:=by unfold prt;rw[apx,apy g];rfl
 have:=aiS (f:=f) G c 4 (apG _) d a ⟨i,by rw[<-G.len];exact g,by rw[k];exact e⟩;rw[apx,apy b]at this;exact this
def abl(f:List S3)(a:f.length=8)(c:∀p∈f,Fac p)(b:cv f):gK [flW f]=match uh f with|some ps=>.ok (PF f ps)|none=>.ex (.exc "NoPairs" []):=by have d:=jq f a c b;show((dt [flW f]).bind λp=>match cj [flW f,p]with|.ok m=>Res.ok (W.ins "PairedFloor" [flW f,p,m])|_=>.bad)=_;rw[d];cases e:uh f with|none=>rfl|some ps=>have G:=mV a b e;have h:=j6 f c ps (λp g=>by rw[a];exact(G.lt p g).1) (by rw[G.len];decide);show(match cj [flW f,.lst (ps.map prW)]with|.ok m=>Res.ok (W.ins "PairedFloor" [flW f,.lst (ps.map prW),m])|_=>.bad)=_;rw[h];rfl
def alL(f:List S3)(c:List Rl):Res W:=match uh f with|none=>.ex (.exc "NoPairs" [])|some ps=>match(List.range 4).find? λi=>(fR f ps c i).isNone with|some i=>.ex (exN "Blind" (prt ps i).1)|none=>match yV 0 (tlF f ps c 4)with|some d=>.ex (exN "Out" d)|none=>cQ [.lst (((tlF f ps c 4).map ka).map stW)]
def aeR(f:List S3)(q:f.length=8)(w:∀p∈f,Fac p)(H:cv f)(c:List Rl)(J:∀r∈c,r.ts.length<=100)(hs:∀r∈c,∀l,r.ss=some l->l.length<=100):aX [flW f,clW c]=alL f c:=by have k:=abl f q w H;unfold alL;cases e:uh f with|none=>rw[e]at k;simp only at k;generalize flW f=FL at *;generalize clW c=C at *;simp[aX,bK,List.replicate,nP,k]|some ps=>
  rw[e]at k;simp only at k⊢;have G:=mV q H e;have v:=alg f ps;have D:=amI f ps;have a:bF (aF 0) g9 (ke "PairedFloor" bq (ai 3) (ae (ai 0) (ae (ai 2) aA))) [.no,.va (flW f),.va (clW c),.va (PF f ps),.no,.no,.no,.no,.no] ((List.range 4).map λi:Nat=>.int (0+(i:Nat)))=ah5 ((List.range 4).map λi=>stR ssW (exN "Blind" (prt ps i).1) (fR f ps c i)):=tQ λi x=>⟨_,rfl,rfl,by have h:=qt f q w ps G i (apP.mp x) c J;rw[asI];generalize PF f ps=P at *;generalize clW c=C at *;generalize stR ssW (exN "Blind" (prt ps i).1) (fR f ps c i)=Z at *;simp[kd,v,h]⟩;rw[sJ]at a;have y:(ps.map prW).length=4:=by rw[apR,G.len]
  have u:rng 0 4=(List.range 4).map λi:Nat=>.int (0+(i:Nat)):=rfl;rw[<-u]at a;cases z:(List.range 4).find? λi=>(fR f ps c i).isNone with|some i=>rw[z]at a;simp only[Option.elim]at a⊢;generalize PF f ps=P at *;generalize flW f=FL at *;generalize clW c=C at *;generalize ps.map prW=PS at *;generalize exN "Blind" (prt ps i).1=X at *;simp[aX,bK,List.replicate,nP,k,v,eL,D,y,ix,il,lim,ajQ,ajS,ajR,ajT,a]|none=>
   rw[z]at a;simp only[Option.elim]at a⊢;have B:∀i:Nat,i<4->oIx (.lst ((List.range 4).map λi=>stN ssW (fR f ps c i))) (.int i)=.ok (ssW ((fR f ps c i).getD none)):=λi x=>by rw[gD,fM,apX,aqR x];have:=List.find?_eq_none.mp z i (apP.mpr x);cases E:fR f ps c i with|none=>rw[E]at this;simp at this|some s=>simp[E]
   obtain⟨N,Q,O,b⟩:=aeQ f q w ps G c hs (flW f) (clW c) (.lst ((List.range 4).map λi=>stN ssW (fR f ps c i))) B;have o:=aax q w G hs;have n:=ze (tlF f ps c 4) o.fac o.short (by rw[o.len];decide);have m:=λA=>zc A (tlF f ps c 4) o.ne;have K:((tlF f ps c 4).map iX).length<=1000000:=by rw[apR,o.len];decide
   have M:(List.replicate 8 ([]:List S3)).map iX=List.replicate 8 (.lst []):=by simp[iX]
   rw[M]at b;have j:∀A:List Sl,bF (aF 0) g9 (hG aA) (.no::A) (rng 0 8)=.ok (List.replicate 8 (.lst [])):=λA=>by have:=cf (g:=aF 0) (t:=g9) (e:=hG aA) (σ:=.no::A) (emb:=λi:Nat=>W.int (0+(i:Nat))) (f:=λ_=>W.lst []) (xs:=List.range 8) λi _=>⟨_,rfl,rfl,rfl⟩;exact this
   unfold rG at n;have j:=j [.va (flW f),.va (clW c),.va (PF f ps),.va (.lst ((List.range 4).map λi=>stN ssW (fR f ps c i))),.no,.no,.no,.no];generalize PF f ps=P at *;generalize flW f=FL at *;generalize clW c=C at *;generalize ps.map prW=PS at *;generalize hSS:(List.range 4).map (λi=>stN ssW (fR f ps c i))=SS at *;cases I:yV 0 (tlF f ps c 4)with|some d=>rw[I]at n;simp only at n⊢;generalize(tlF f ps c 4).map iX=TL at *;generalize exN "Out" d=X at *;simp[aX,bK,List.replicate,nP,k,v,eL,D,y,ix,il,lim,ajQ,ajS,ajR,ajT,a,et,j];simp[List.replicate]at b;simp[b,kR,n]|none=>rw[I]at n;simp only at n⊢;have m:=λA=>m A;generalize((tlF f ps c 4).map ka).map stW=LS at *;generalize(tlF f ps c 4).map iX=TL at *;simp[aX,bK,List.replicate,nP,k,v,eL,D,y,ix,il,lim,ajQ,ajS,ajR,ajT,a,et,j];simp[List.replicate]at b;simp[b,kR,n,K,m];generalize cQ [.lst LS]=r;cases r<;>rfl
inductive Oc where|nop|blind(d:Nat)|out(d:Nat)|meet(i j:Nat)|ok(g:List S3)
def Oc.res:Oc->Res W|.nop=>.ex (.exc "NoPairs" [])|.blind d=>.ex (exN "Blind" d)|.out d=>.ex (exN "Out" d)|.meet i j=>.ex (.exc "Meet" [.int i,.int j])|.ok g=>.ok (flW g)
def Oc.due:Oc->W|.nop=>.lst [.str "NoPairs"]|.blind d=>.lst [.str "Blind",.int d]|.out d=>.lst [.str "Out",.int d]|.meet i j=>.lst [.str "Meet",.int i,.int j]|.ok g=>flW g
def Oc.tn(k:Nat):Oc->Oc|.ok g=>.ok (g.map (FM.tqn k))|o=>o
structure Fl(f:List S3):Prop where len:f.length=8fac:∀p∈f,Fac p
def Oc.Good:Oc->Prop|.ok g=>Fl g|_=>True
def agB(f:List S3):f.map (FM.tqn 0)=f:=by rw[show FM.tqn 0=id from rfl,List.map_id]
def aiO(f:List S3)(k:Nat):f.map (FM.tqn (k+1))=(f.map (FM.tqn k)).map FM.tq:=by rw[ap6];rfl
def tE{f:List S3}(F:Fl f)(k:Nat):Fl (f.map (FM.tqn k)):=⟨by simp[F.len],λp b=>by obtain⟨q,a,rfl⟩:=aqi.mp b;exact agA k q (F.fac q a)⟩
theorem iH{f:List S3}(F:Fl f)(a:cv f):∀k,uh (f.map (FM.tqn k))=uh f|0=>by rw[agB]|k+1=>by have b:=tE F k;rw[aiO,ag2 b.len b.fac (ki a k),iH F a k]
theorem aa9{f:List S3}(F:Fl f){ps:List (Nat×Nat)}(G:Prs ps)(c:List Rl){i:Nat}(b:i<4):∀k,fR (f.map (FM.tqn k)) ps c i=fR f ps c i|0=>by rw[agB]|k+1=>by have a:=tE F k;rw[aiO,afz a.len a.fac G c b,aa9 F G c b k]
theorem aaw{f:List S3}(F:Fl f){ps:List (Nat×Nat)}(G:Prs ps)(c:List Rl):∀k,tlF (f.map (FM.tqn k)) ps c 4=(tlF f ps c 4).map (List.map (FM.tqn k))|0=>by rw[agB,show List.map (FM.tqn 0)=id from funext agB,List.map_id]|k+1=>by have a:=tE F k;rw[aiO,aiR a.len a.fac G c 4 (apG _),aaw F G c k,ap6];refine aqy λw _=>?_;show(w.map (FM.tqn k)).map FM.tq=_;rw[<-aiO]
theorem uT(ws:List (List S3)):∀k,yV 0 (ws.map (List.map (FM.tqn k)))=yV 0 ws
|0=>by rw[show List.map (FM.tqn 0)=id from funext agB,List.map_id]|k+1=>by
 have e:ws.map (List.map (FM.tqn (k+1)))=(ws.map (List.map (FM.tqn k))).map (List.map FM.tq):=by rw[ap6];refine aqy λw _=>?_;exact aiO w k
 rw[e,abm,uT ws k]
theorem pM{p q:Nat->Bool}:∀l:List Nat,(∀x∈l,p x=q x)->l.find? p=l.find? q|[],_=>rfl|x::l,h=>by rw[ar3,ar3,h x apN,pM l λy a=>h y (apI _ a)]
def anU(f:List S3)(F:Fl f)(b:cv f)(c:List Rl)(v:∀r∈c,r.ts.length<=100)(hs:∀r∈c,∀l,r.ss=some l->l.length<=100):∃o:Oc,o.Good/\∀k,aX [flW (f.map (FM.tqn k)),clW c]=(o.tn k).res:=by
 have hw:∀k,aX [flW (f.map (FM.tqn k)),clW c]=alL (f.map (FM.tqn k)) c:=λk=>by have u:=tE F k;exact aeR _ u.len u.fac (ki b k) c v hs
 unfold alL at hw;cases e:uh f with|none=>exact⟨.nop,trivial,λk=>by rw[hw k,iH F b k,e];rfl⟩|some ps=>
 have G:=mV F.len b e;have a:∀k,((List.range 4).find? λi=>(fR (f.map (FM.tqn k)) ps c i).isNone)=(List.range 4).find? λi=>(fR f ps c i).isNone:=λk=>pM _ λi x=>by rw[aa9 F G c (apP.mp x) k]
 cases q:(List.range 4).find? λi=>(fR f ps c i).isNone with|some i=>exact⟨.blind (prt ps i).1,trivial,λk=>by rw[hw k,iH F b k,e];simp only;rw[a k,q];rfl⟩|none=>cases t:yV 0 (tlF f ps c 4)with|some d=>exact⟨.out d,trivial,λk=>by rw[hw k,iH F b k,e];simp only;rw[a k,q];simp only;rw[aaw F G c k,uT,t];rfl⟩|none=>
    have h:=aax F.len F.fac G hs;have fin:∀k,aX [flW (f.map (FM.tqn k)),clW c]=cQ [.lst ((((tlF f ps c 4).map ka).map (FM.tqn k)).map stW)]:=λk=>by
     have n:((tlF f ps c 4).map (List.map (FM.tqn k))).map ka=((tlF f ps c 4).map ka).map (FM.tqn k):=by rw[ap6,ap6];exact aqy λw hw=>aeq k (h.ne w hw)
     rw[hw k,iH F b k,e];simp only;rw[a k,q];simp only;rw[aaw F G c k,uT,t];simp only;rw[n]
    generalize htl:(tlF f ps c 4).map ka=g at *;have y:g.length=8:=by rw[<-htl,apR,h.len]
    have z:Fl g:=⟨y,λp s=>by rw[<-htl]at s;obtain⟨w,hw,rfl⟩:=aqi.mp s;exact h.fac w hw _ (abL (h.ne w hw))⟩;obtain⟨w,_,m⟩:=dc g (by omega) _ (.inl rfl);cases m with|none hn=>exact⟨.ok g,z,λk=>(fin k).trans (vw _ (by rw[apR];omega) _ (.inr rfl) (ki hn k))⟩|two i j h1 h2 h3 h4 h5=>have m:Met g (.tup [.int i,.int j]):=.two i j h1 h2 h3 h4 h5;exact⟨.meet i j,trivial,λk=>(fin k).trans (qP _ (by rw[apR];omega) i j (ahn k m) _ (.inr rfl))⟩
def tR(d:Nat):di [exN "Blind" d]=.ok (.lst [.str "Blind",.int d])/\di [exN "Out" d]=.ok (.lst [.str "Out",.int d])/\(∀e:Nat,di [.exc "Meet" [.int d,.int e]]=.ok (.lst [.str "Meet",.int d,.int e]))/\di [.exc "NoPairs" []]=.ok (.lst [.str "NoPairs"]):=by refine⟨?_,?_,λe=>?_,?_⟩<;>kernel_rfl
def afk(f C:W)(o:Oc)(h:aX [f,C]=o.res):cb [f,C]=.ok o.due:=by cases o with|ok g=>simp only[Oc.res]at h;simp[cb,dI,List.replicate,cH,h,Oc.due]|nop=>have k:=(tR 0).2.2.2;simp only[Oc.res]at h;simp[cb,dI,List.replicate,cH,h,Oc.due,dj,rz,k]|blind d=>have k:=(tR d).1;simp only[Oc.res]at h;simp[exN]at k h;simp[cb,dI,List.replicate,cH,h,Oc.due,dj,rz,k]|out d=>have k:=(tR d).2.1;simp only[Oc.res]at h;simp[exN]at k h;simp[cb,dI,List.replicate,cH,h,Oc.due,dj,rz,k]|meet i j=>have k:=(tR i).2.2.1 j;simp only[Oc.res]at h;simp[cb,dI,List.replicate,cH,h,Oc.due,dj,rz,k]
def ajy:Option (List (Nat×Nat))->W|some ps=>.lst (ps.map prW)|none=>.lst [.str "NoPairs"]
def aa7(f:W)(o:Option (List (Nat×Nat)))(h:dt [f]=ajk o):bO [f]=.ok (ajy o):=by cases o with|some ps=>simp only[ajk]at h;show _=Res.ok (W.lst (ps.map prW));generalize ps.map prW=PS at *;simp[bO,da,List.replicate,cB,h]|none=>have k:=(tR 0).2.2.2;simp only[ajk]at h;simp[bO,da,List.replicate,cB,h,ajy,dA,rz,k]
def same_int(n:Nat)(i:Int):aR (n+1) [.int i,.int i]=.ok (.bl true):=by
 have h:∀j,aR (n+1) [.int i,.int j]=.ok (.bl (i==j)):=λj=>by kernel_rfl
 rw[h];simp
def same_str(n:Nat)(s:String):aR (n+1) [.str s,.str s]=.ok (.bl true):=by
 have h:∀t:Str,aR (n+1) [.str s,.str t]=.ok (.bl (Str.ofString s==t)):=λt=>by kernel_rfl
 rw[h];simp
theorem pR(r:List W->Res W)(A B:W):∀(xs:List W)(d c:Sl),(∀x∈xs,r [x,x]=.ok (.bl true))->∃f g,forL (rB (cP (aF 2) (cP (aF 3) qO))) (fu r) (uk xs xs) [.va A,.va B,d,c]=.nx [.va A,.va B,f,g]|[],d,c,_=>⟨d,c,rfl⟩|x::xs,d,c,h=>by obtain⟨a,b,j⟩:=pR r A B xs (.va x) (.va x) λy i=>h y (by simp[i]);refine⟨a,b,?_⟩;have e:=h x (by simp);simp[aio,er,fu,e];exact j
def fq(n:Nat)(xs:List W)(h:∀x∈xs,aR n [x,x]=.ok (.bl true)):aR (n+1) [.lst xs,.lst xs]=.ok (.bl true)/\aR (n+1) [.tup xs,.tup xs]=.ok (.bl true):=by
 constructor;.obtain⟨a,b,e⟩:=pR (aR n) (.lst xs) (.lst xs) xs .no .no h;simp[aR,iD,List.replicate,ikT,akm,akk,akl,akj,nZ,abZ,e]
 .obtain⟨a,b,e⟩:=pR (aR n) (.tup xs) (.tup xs) xs .no .no h;simp[aR,iD,List.replicate,ikT,akm,akk,akl,akj,nZ,abZ,e]
def agP(n:Nat)(p:S3):aR (n+2) [stW p,stW p]=.ok (.bl true):=(fq (n+1) _ λx a=>by simp at a;rcases a with rfl|rfl|rfl<;>exact same_int n _).2
def r9(n:Nat)(s:String)(d:Nat):aR (n+2) [.lst [.str s,.int d],.lst [.str s,.int d]]=.ok (.bl true):=(fq (n+1) _ λx a=>by
 simp at a;rcases a with rfl|rfl;.exact same_str n _
 .exact same_int n _).1
def adF(o:Oc):aR 3 [o.due,o.due]=.ok (.bl true):=by cases o with|ok g=>exact(fq 2 _ λx a=>by obtain⟨p,_,rfl⟩:=aqi.mp a;exact agP 0 p).2|nop=>exact(fq 2 _ λx a=>by simp at a;subst a;exact same_str 1 _).1|blind d=>exact r9 1 _ d|out d=>exact r9 1 _ d|meet i j=>exact(fq 2 _ λx a=>by
  simp at a;rcases a with rfl|rfl|rfl;.exact same_str 1 _
  .exact same_int 1 _
  .exact same_int 1 _).1
def aaQ(o:Option (List (Nat×Nat))):aR 3 [ajy o,ajy o]=.ok (.bl true):=by cases o with|some ps=>exact(fq 2 _ λx a=>by obtain⟨p,_,rfl⟩:=aqi.mp a;exact(fq 1 _ λx a=>by simp at a;rcases a with rfl|rfl<;>exact same_int 0 _).2).1|none=>exact(fq 2 _ λx a=>by simp at a;subst a;exact same_str 1 _).1
noncomputable def okX(r:Res (W×List W))(k:W×List W->Res (W×Ws)):Res (W×Ws):=match r with|.ok q=>k q|_=>.bad
def bP(q:W×List W)(k:W×List W->Res (W×Ws)):okX (.ok q) k=k q:=(rfl)
def cl0(f:FS)(ws:List W):Ws->Res (W×Ws)|.ow st::σ=>okX (f st ws) λq=>.ok (q.1,.ow q.2::σ)|_=>.bad
def cl1(f:FS)(ws:List W):Ws->Res (W×Ws)|s::.ow st::σ=>okX (f st ws) λq=>.ok (q.1,s::.ow q.2::σ)|_=>.bad
def cy(f:FS)(ws st:List W)(σ:Ws):cl0 f ws (.ow st::σ)=okX (f st ws) λq=>.ok (q.1,.ow q.2::σ):=(rfl)
def pO(f:FS)(ws st:List W)(s:Sl)(σ:Ws):cl1 f ws (s::.ow st::σ)=okX (f st ws) λq=>.ok (q.1,s::.ow q.2::σ):=(rfl)
def bI(f:FS)(a:XA)(st:List W)(σ:Ws):aQ f 0 a (.ow st::σ)=(a (.ow st::σ)).bind λp=>cl0 f p.1 p.2:=by show((a (.ow st::σ)).bind λp=>_)=_;congr 1;funext p;obtain⟨ws,b⟩:=p;match b with|[]=>rfl|.no::b=>rfl|.va w::b=>rfl|.od _ _::b=>rfl|.ob::b=>rfl|.ow st1::b=>show(match f st1 ws with|.ok q=>Res.ok (q.1,(Sl.ow st1::b).set 0 (.ow q.2))|_=>.bad)=_;rw[cy];cases f st1 ws<;>rfl
def l6(f:FS)(a:XA)(st:List W)(s:Sl)(σ:Ws):aQ f 1 a (s::.ow st::σ)=(a (s::.ow st::σ)).bind λp=>cl1 f p.1 p.2:=by show((a (s::.ow st::σ)).bind λp=>_)=_;congr 1;funext p;obtain⟨ws,b⟩:=p;match b with|[]=>rfl|[s]=>rfl|s::.no::b=>rfl|s::.va w::b=>rfl|s::.od _ _::b=>rfl|s::.ob::b=>rfl|s::.ow st1::b=>show(match f st1 ws with|.ok q=>Res.ok (q.1,(s::Sl.ow st1::b).set 1 (.ow q.2))|_=>.bad)=_;rw[pO];cases f st1 ws<;>rfl
def kS(st:List W)(w:W)(σ:Ws):rtS 0 w (.ow st::σ)=.rt (.exc "" [w,.lst st]):=(rfl)
def amy(st:List W)(w:W)(s:Sl)(σ:Ws):rtS 1 w (s::.ow st::σ)=.rt (.exc "" [w,.lst st]):=(rfl)
def kT(a b c:W):nT (Str.ofString "left") rks [a,b,c]=some a:=(rfl)
def yI(a b c:W):nT (Str.ofString "at") rks [a,b,c]=some b:=(rfl)
def ql(a b c:W):nT (Str.ofString "cells") rks [a,b,c]=some c:=(rfl)
def Rm(n:Nat)(st:List W):Prop:=∃(l k:Int)(a:List Int),st=[.int l,.int k,.lst (a.map .int)]/\a≠[]/\a.length<=100/\-1<=k/\k<=n
def Rm.mono{n m:Nat}{st:List W}(h:Rm n st)(f:n<=m):Rm m st:=by obtain⟨l,k,a,e,c,d,b,g⟩:=h;exact⟨l,k,a,e,c,d,b,by omega⟩
def aev(a:List Int)(k:Int)(h:a≠[]):∃c,oIx (.lst (a.map .int)) (.int (k%(a.length:Nat)))=.ok (.int c):=by
 have j:0<a.length:=List.length_pos_iff.mpr h;have f:=arx k (b:=(a.length:Int)) (by omega);have g:=arf k (b:=(a.length:Int)) (by omega);obtain⟨i,e⟩:∃i:Nat,k%(a.length:Int)=i:=⟨(k%(a.length:Int)).toNat,by omega⟩;rw[e];have d:i<a.length:=by omega
 exact⟨a[i],by simp[fM,d]⟩
def mm:SF:=aL (iY (yRT 0 (yv (tB (eOp oGe (ai 2) (eC (.int 0)))) (tB (eOp oLt (eOp oIx (ai 0) (eC (.str "left"))) (eOp ahh (eC (.int 10)) (eC (.int 12))))))) (aL (aW 3 (yR 0 (eOp oIx (eOp oIx (ai 0) (eC (.str "cells"))) (eOp oMod (ai 2) (eBi pQ (ae (eOp oIx (ai 0) (eC (.str "cells"))) aA)))))) (aL (aW 4 (yP 0 (eOp oMod (eOp fh (eOp dy (eOp dy (eOp dy (ai 3) (eOp fh (eOp fh (eC (.int 7919)) (ai 2)) (ai 2))) (ai 2)) (eC (.int 1))) (eC (.int 48271))) (eC (.int 2147483629))))) (aL (aW 5 (yP 0 (eOp oMod (eOp dy (eOp dy (eOp fh (ai 4) (ai 4)) (eOp fh (eOp fh (eC (.int 69621)) (ai 2)) (ai 2))) (eC (.int 1))) (eC (.int 2147483587))))) (aL (sy 0 0 (yP 0 (eOp dy (eOp fh (ai 5) (eC (.int 314159265358979323846264338327950288419))) (eOp fh (ai 4) (eC (.int 27182818284590452353)))))) (sy 0 1 (yP 0 (eOp dy (ai 2) (eC (.int 1))))))))) sNx) (aL (aW 6 (yR 0 (eOp oMod (eOp oIx (ai 0) (eC (.str "left"))) (ai 1)))) (aL (sy 0 0 (yR 0 (eOp oDiv (eOp oIx (ai 0) (eC (.str "left"))) (ai 1)))) (eJ 0 (yP 0 (ai 6)))))
def kD:kH=aL (aW 2 (yR 0 (eOp oIx (ai 0) (eC (.str "at"))))) (aL (iY (yRT 0 (yv (tB (eOp oLt (ai 2) (eC (.int 0)))) (tB (eOp oEq (eOp oIx (ai 0) (eC (.str "left"))) (eC (.int 0)))))) (aW 2 (yP 0 (eC (.int 0)))) sNx) mm):=rfl
def bc{n:Nat}{st:List W}(h:Rm n st)(O:n<1000000000000)(m:Int)(u:0<m)(C:m<1000000):∃r p,aj st [.int m]=.ok (.int r,p)/\0<=r/\r<m/\Rm (n+1) p:=by
 obtain⟨l,k,i,rfl,t,s,J,I⟩:=h;have q:m<10^100:=Int.lt_trans C (by decide);have x:∀l:Int,0<=l%m:=λl=>arx l (by omega);have B:∀l:Int,l%m<m:=λl=>arf l u;have go:∀a:Int,-1<=a->a<=n->∃d k':Int,0<=k'+1/\k'<=n+1/\mm [.ow [.int l,.int k,.lst (i.map .int)],.va (.int m),.va (.int a),.no,.no,.no,.no]=.rt (.exc "" [.int (d%m),.lst [.int (d/m),.int k',.lst (i.map .int)]]):=λa N P=>by
  by_cases A:0<=a/\l<1000000000000;.obtain⟨f,j⟩:=A;obtain⟨c,o⟩:=aev i a t;have w:0<i.length:=List.length_pos_iff.mpr t;have D:=arx ((c+7919*a*a+a+1)*48271) (b:=2147483629) (by decide);have H:=arf ((c+7919*a*a+a+1)*48271) (b:=2147483629) (by decide);generalize ho:(c+7919*a*a+a+1)*48271%2147483629=o1 at D H;have M:=arx (o1*o1+69621*a*a+1) (b:=2147483587) (by decide);have K:=arf (o1*o1+69621*a*a+1) (b:=2147483587) (by decide);generalize hw:(o1*o1+69621*a*a+1)%2147483587=o2 at M K;refine⟨o2*314159265358979323846264338327950288419+o1*27182818284590452353,a+1,by omega,by omega,?_⟩;simp at q o;simp(disch:=omega)[mm,bh,aP,qg,uN,cC,oA,ya,bL,ph,kT,yI,ql,aY,f,j,w,o,pE,xl,ho,hw,u,q,kS]
  .refine⟨l,k,by omega,by omega,?_⟩;simp at q;by_cases f:0<=a;.have j:¬l<1000000000000:=λz=>A ⟨f,z⟩;simp(disch:=omega)[mm,bh,aP,qg,uN,cC,oA,ya,bL,ph,kT,yI,ql,aY,f,j,u,q,kS]
   .simp(disch:=omega)[mm,bh,aP,qg,uN,cC,oA,ya,bL,ph,kT,yI,ql,aY,f,u,q,kS]
 by_cases y:k<0/\l=0;.obtain⟨d,k',E,G,e⟩:=go 0 (by omega) (by omega);refine⟨d%m,[.int (d/m),.int k',.lst (i.map .int)],?_,x d,B d,d/m,k',i,rfl,t,s,by omega,by omega⟩;obtain⟨g,rfl⟩:=y;simp[aj,e7,kD,List.replicate,aP,ya,ph,yI,aY,bh,oA,bL,kT,g,e,eB]
 .obtain⟨d,k',E,G,e⟩:=go k (by omega) (by omega);refine⟨d%m,[.int (d/m),.int k',.lst (i.map .int)],?_,x d,B d,d/m,k',i,rfl,t,s,by omega,by omega⟩;by_cases g:k<0;.have v:¬l=0:=λz=>y ⟨g,z⟩;simp[aj,e7,kD,List.replicate,aP,ya,ph,yI,aY,bh,oA,bL,kT,g,v,e,eB]
  .simp[aj,e7,kD,List.replicate,aP,ya,ph,yI,aY,bh,oA,bL,kT,g,e,eB]
def al0(n:Int):∃w:What,oIx (.lst [.str "none",.str "any",.str "same",.str "left",.str "about",.str "right",.str "partner",.str "opposite"]) (.int (n%8))=.ok (.str w.w):=by
 obtain⟨w,hw,e⟩:=nr (ws:=["none","any","same","left","about","right","partner","opposite"]) n 8 rfl (by decide);simp only[apJ,aqa,arE]at hw;rcases hw with rfl|rfl|rfl|rfl|rfl|rfl|rfl|rfl;.exact⟨.none,e⟩
 .exact⟨.any,e⟩
 .exact⟨.same,e⟩
 .exact⟨.left,e⟩
 .exact⟨.about,e⟩
 .exact⟨.right,e⟩
 .exact⟨.partner,e⟩
 .exact⟨.opposite,e⟩
def ano(n:Int):∃l:Lone,oIx (.lst [.str "head",.str "side",.str "lefts",.str "rights",.str "inward",.str "outward",.str "sideways"]) (.int (n%7))=.ok (.str l.w):=by
 obtain⟨w,hw,e⟩:=nr (ws:=["head","side","lefts","rights","inward","outward","sideways"]) n 7 rfl (by decide);simp only[apJ,aqa,arE]at hw;rcases hw with rfl|rfl|rfl|rfl|rfl|rfl|rfl;.exact⟨.head,e⟩
 .exact⟨.side,e⟩
 .exact⟨.lefts,e⟩
 .exact⟨.rights,e⟩
 .exact⟨.inward,e⟩
 .exact⟨.outward,e⟩
 .exact⟨.sideways,e⟩
def tns(n:Int):∃t:Tn,oIx (.lst [.str "left",.str "right",.str "about"]) (.int (n%3))=.ok (.str t.w):=by
 obtain⟨w,hw,e⟩:=nr (ws:=["left","right","about"]) n 3 rfl (by decide);simp only[apJ,aqa,arE]at hw;rcases hw with rfl|rfl|rfl;.exact⟨.left,e⟩
 .exact⟨.right,e⟩
 .exact⟨.about,e⟩
def acf{n:Nat}{st:List W}(h:Rm n st)(t:n<1000000000):∃c a,du st []=.ok (.int c,a)/\0<=c/\c<4/\Rm (n+3) a:=by
 obtain⟨g,u,k,r,s,e⟩:=bc h (by omega) 4 (by decide) (by decide);obtain⟨m,y,o,z,v,l⟩:=bc e (by omega) 2 (by decide) (by decide);obtain⟨b,q,f,w,x,i⟩:=bc l (by omega) 3 (by decide) (by decide);obtain⟨c,d,p,j⟩:∃c:Int,oIx (.lst [.int g,.int 0,.int (m*2)]) (.int b)=.ok (.int c)/\0<=c/\c<4:=by
  have:b=0\/b=1\/b=2:=by omega
  rcases this with rfl|rfl|rfl<;>simp<;>omega
 refine⟨c,q,?_,p,j,i⟩;simp at d;simp(disch:=omega)[du,e7,hX,List.replicate,cC,cF,aaa,aU,bb,bI,cy,bP,bL,k,o,f,xl,d,aY,kS,eB]
def step_eq{n:Nat}{st:List W}(h:Rm n st)(z:n<1000000000):∃(t:Stp)(c:List W),eQ st []=.ok (t.W,c)/\Rm (n+4) c:=by
 obtain⟨a,I,k,H,y,p⟩:=bc h (by omega) 8 (by decide) (by decide);obtain⟨b,G,o,K,A,x⟩:=bc p (by omega) 4 (by decide) (by decide);obtain⟨m,f,v,C⟩:∃m:Int,oIx (.lst [.int 3,.int 3,.int 3,.int 9]) (.int b)=.ok (.int m)/\0<m/\m<1000:=by
  have:b=0\/b=1\/b=2\/b=3:=by omega
  rcases this with rfl|rfl|rfl|rfl<;>simp
 obtain⟨r,w,i,B,E,j⟩:=bc x (by omega) m v (by omega);simp at f;by_cases hw:5<a;.obtain⟨d,s,q,D,J,u⟩:=bc j (by omega) 3 (by decide) (by decide);obtain⟨t,e⟩:=tns d;rw[show d%3=d by omega]at e;refine⟨.turn t,s,?_,u⟩;simp at e;simp[eQ,e7,iC,List.replicate,aP,bh,cC,cF,hR,aU,bb,bI,cy,bP,bL,fg,k,o,i,q,f,hw,e,aY,kS,eB,Stp.W]
 .obtain⟨g,l⟩:∃g:Go,oIx (.lst [.str "ahead",.str "ahead",.str "ahead",.str "back",.str "left",.str "right"]) (.int a)=.ok (.str g.w):=by
   have:a=0\/a=1\/a=2\/a=3\/a=4\/a=5:=by omega
   rcases this with rfl|rfl|rfl|rfl|rfl|rfl;.exact⟨.ahead,rfl⟩
   .exact⟨.ahead,rfl⟩
   .exact⟨.ahead,rfl⟩
   .exact⟨.back,rfl⟩
   .exact⟨.left,rfl⟩
   .exact⟨.right,rfl⟩
  refine⟨.go g (1+r),w,?_,j.mono (by omega)⟩;simp at l;simp[eQ,e7,iC,List.replicate,aP,bh,cC,cF,hR,aU,bb,bI,cy,bP,bL,fg,k,o,i,f,hw,l,aY,kS,eB,Stp.W]
def adt:SF:=aL (iY (yT 0 (yv (tB (eOp oEq (ai 3) (eC (.int 0)))) (tB (eOp oEq (ai 4) (eC (.int 0)))))) (aW 4 (yP 0 (eC (.int 1)))) sNx) (aL (aW 6 (yP 0 (hG (ae (eC (.str "none")) (ae (eC (.str "any")) (ae (eC (.str "same")) (ae (eC (.str "left")) (ae (eC (.str "about")) (ae (eC (.str "right")) (ae (eC (.str "partner")) (ae (eC (.str "opposite")) aA))))))))))) (aW 1 (zO (ar (yP 0 (eC (.str "at"))) (ar (yP 0 (ai 3)) (ar (yP 0 (ai 4)) (ar (xOp oIx (yP 0 (ai 6)) (aQ aj 0 (ar (yP 0 (eC (.int 8))) aJ))) aJ)))))))
def rO:SF:=aL (iY (xOp oEq (aQ aj 0 (ar (yP 0 (eC (.int 4))) aJ)) (yP 0 (eC (.int 1)))) (eJ 0 (yP 0 (iZ (ae (eC (.str "not")) (ae (ai 1) aA))))) sNx) (eJ 0 (yP 0 (ai 1)))
def mi:SF:=aL (iY (yT 0 (tB (eOp oEq (ai 5) (eC (.int 1))))) (aW 3 (xOp g6 (aQ aj 0 (ar (yP 0 (eC (.int 19))) aJ)) (yP 0 (eC (.int 9))))) sNx) (aL (iY (yT 0 (tB (eOp oEq (ai 5) (eC (.int 2))))) (aW 4 (xOp g6 (aQ aj 0 (ar (yP 0 (eC (.int 19))) aJ)) (yP 0 (eC (.int 9))))) sNx) adt)
def mj:SF:=iY (yT 0 (tB (eOp oGt (ai 2) (eC (.int 6))))) (aL (aW 3 (xOp g6 (aQ aj 0 (ar (yP 0 (eC (.int 7))) aJ)) (yP 0 (eC (.int 3))))) (aL (aW 4 (xOp g6 (aQ aj 0 (ar (yP 0 (eC (.int 7))) aJ)) (yP 0 (eC (.int 3))))) (aL (aW 5 (aQ aj 0 (ar (yP 0 (eC (.int 8))) aJ))) mi))) (iY (yT 0 (tB (eOp oEq (ai 2) (eC (.int 6))))) (aW 1 (zO (ar (yP 0 (eC (.str "inner"))) (ar (xOp oIx (aix (ar (yP 0 (eC (.int 1))) (ar (yP 0 (eC (.int 2))) (ar (yP 0 (eC (.int 3))) (ar (aQ aj 0 (ar (yP 0 (eC (.int 201))) aJ)) aJ))))) (aQ aj 0 (ar (yP 0 (eC (.int 4))) aJ))) aJ)))) sNx)
def yn:kG=aL (aW 1 (zO (ar (xOp oIx (yP 0 (hG (ae (eC (.str "head")) (ae (eC (.str "side")) (ae (eC (.str "lefts")) (ae (eC (.str "rights")) (ae (eC (.str "inward")) (ae (eC (.str "outward")) (ae (eC (.str "sideways")) aA))))))))) (aQ aj 0 (ar (yP 0 (eC (.int 7))) aJ))) aJ))) (aL (aW 2 (aQ aj 0 (ar (yP 0 (eC (.int 16))) aJ))) (aL mj rO)):=rfl
def akz{k:Nat}{st:List W}(t:Tst)(m f j g n:Sl)(i:Rm k st)(l:k<1000000008):∃(b:Bool)(c:List W),rO [.ow st,.va t.W,m,f,j,g,n]=.rt (.exc "" [tsW b t,.lst c])/\Rm (k+1) c:=by
 obtain⟨r,s,e,a,b,h⟩:=bc i (by omega) 4 (by decide) (by decide);by_cases d:r=1;.subst d;exact⟨true,s,by simp[rO,bh,cF,bI,cy,bP,aU,bb,bL,e,cC,aY,kS,tsW],h⟩
 .exact⟨false,s,by simp[rO,bh,cF,bI,cy,bP,aU,bb,bL,e,cC,aY,kS,tsW,d],h⟩
def ahX{k:Nat}{st:List W}(j i f:Sl)(x y:Int)(n:Rm k st)(q:k<1000000006):∃(t:Tst)(o p:Sl)(c:List W),adt [.ow st,j,i,.va (.int x),.va (.int y),f,.no]=.nx [.ow c,.va t.W,i,.va (.int x),o,f,p]/\Rm (k+1) c:=by
 obtain⟨r,s,e,a,b,h⟩:=bc n (by omega) 8 (by decide) (by decide);obtain⟨w,hw⟩:=al0 r;rw[show r%8=r by omega]at hw;simp at hw;refine⟨.at x (if x=0/\y=0 then 1 else y) w,.va (.int (if x=0/\y=0 then 1 else y)),.va (.lst [.str "none",.str "any",.str "same",.str "left",.str "about",.str "right",.str "partner",.str "opposite"]),s,?_,h⟩;by_cases d:x=0/\y=0;.obtain⟨rfl,rfl⟩:=d;simp[adt,bh,fg,aP,bL,aY,hR,aU,bb,cF,bI,cy,bP,e,hw,Tst.W]
 .have m:(yv (tB (eOp oEq (ai 3) (eC (.int 0)))) (tB (eOp oEq (ai 4) (eC (.int 0))))) [.no,j,i,.va (.int x),.va (.int y),f,.no]=.ok false:=by
   by_cases g:x=0;.have l:¬y=0:=λz=>d ⟨g,z⟩;simp[g,l]
   .simp[g]
  rw[apA d];simp only[adt,dO,bh,fg,aqA,m,lB,aY];simp[aP,bL,aY,hR,aU,bb,cF,bI,cy,bP,e,hw,Tst.W]
def agC{n:Nat}{st:List W}(h:Rm n st)(hn:n<1000000000):∃(b:Bool)(t:Tst)(a:List W),dR st []=.ok (tsW b t,a)/\Rm (n+9) a:=by
 obtain⟨D,s1,e1,a1,b1,X⟩:=bc h (by omega) 7 (by decide) (by decide);obtain⟨c,u,e2,a2,b2,z⟩:=bc X (by omega) 16 (by decide) (by decide);obtain⟨l,x⟩:=ano D;rw[show D%7=D by omega]at x;simp at x;have s:dR st []=ahE (adB (mj [.ow u,.va (.tup [.str l.w]),.va (.int c),.no,.no,.no,.no]) rO):=by simp[dR,e7,yn,List.replicate,aP,hR,cF,aU,bb,bI,cy,bP,bL,e1,e2,x,aY]
 have fin:∀{k:Nat}{N:List W}(t:Tst)(v w f y g:Sl),mj [.ow u,.va (.tup [.str l.w]),.va (.int c),.no,.no,.no,.no]=.nx [.ow N,.va t.W,v,w,f,y,g]->Rm k N->k<=n+8->∃(b:Bool)(t:Tst)(a:List W),dR st []=.ok (tsW b t,a)/\Rm (n+9) a:=λt v w f y g em q T=>by obtain⟨b,O,e8,Y⟩:=akz t v w f y g q (by omega);exact⟨b,t,O,by rw[s,em,eu,e8,eB],Y.mono (by omega)⟩
 by_cases q:6<c
 .obtain⟨o,U,B,Z,R,r⟩:=bc z (by omega) 7 (by decide) (by decide);obtain⟨d,S,C,Q,b4,G⟩:=bc r (by omega) 7 (by decide) (by decide);obtain⟨p,P,e5,a5,b5,E⟩:=bc G (by omega) 8 (by decide) (by decide);have em:mj [.ow u,.va (.tup [.str l.w]),.va (.int c),.no,.no,.no,.no]=mi [.ow P,.va (.tup [.str l.w]),.va (.int c),.va (.int (o-3)),.va (.int (d-3)),.va (.int p),.no]:=by simp[mj,aP,bh,fg,cF,aU,bb,bI,cy,bP,bL,B,C,e5,q,aY]
  by_cases K:p=1;.obtain⟨H,s6,A,a6,b6,e⟩:=bc E (by omega) 19 (by decide) (by decide);obtain⟨t,f,g,I,i,j⟩:=ahX (.va (.tup [.str l.w])) (.va (.int c)) (.va (.int 1)) (H-9) (d-3) e (by omega);subst K;exact fin t _ _ _ _ _ (by rw[em];simp[mi,aP,bh,fg,cF,aU,bb,bI,cy,bP,bL,A,aY];exact i) j (by omega)
  by_cases M:p=2;.obtain⟨H,s6,A,a6,b6,e⟩:=bc E (by omega) 19 (by decide) (by decide);obtain⟨t,f,g,I,i,j⟩:=ahX (.va (.tup [.str l.w])) (.va (.int c)) (.va (.int 2)) (o-3) (H-9) e (by omega);subst M;exact fin t _ _ _ _ _ (by rw[em];simp[mi,aP,bh,fg,cF,aU,bb,bI,cy,bP,bL,A,aY];exact i) j (by omega)
  .obtain⟨t,f,g,I,i,j⟩:=ahX (.va (.tup [.str l.w])) (.va (.int c)) (.va (.int p)) (o-3) (d-3) E (by omega);exact fin t _ _ _ _ _ (by rw[em];simp[mi,bh,fg,K,M,aY];exact i) j (by omega)
 .by_cases e:c=6
  .obtain⟨o,U,B,Z,R,r⟩:=bc z (by omega) 201 (by decide) (by decide);obtain⟨d,S,C,Q,b4,G⟩:=bc r (by omega) 4 (by decide) (by decide);obtain⟨m,J⟩:∃m:Int,oIx (.lst [.int 1,.int 2,.int 3,.int o]) (.int d)=.ok (.int m):=by
    have:d=0\/d=1\/d=2\/d=3:=by omega
    rcases this with rfl|rfl|rfl|rfl<;>simp
   simp at J;subst e;exact fin (.inner m) (.va (.int 6)) .no .no .no .no (by simp[mj,aP,bh,fg,hR,aaa,cF,aU,bb,bI,cy,bP,bL,B,C,J,aY,Tst.W]) G (by omega)
  .exact fin (.lone l) (.va (.int c)) .no .no .no .no (by simp[mj,bh,fg,q,e,aY,Tst.W]) z (by omega)
theorem q3{x:XF}{d:Type}{f:d->W}{C:Nat}(e:∀(n:Nat)(st:List W)(b:Sl)(σ:Ws),Rm n st->n<1000000000->∃k a,x (b::.ow st::σ)=.ok (f k,b::.ow a::σ)/\Rm (n+C) a):∀(ws:List W)(n:Nat)(st:List W)(b:Sl)(σ:Ws),Rm n st->n+C*ws.length<1000000000->∃(ks:List d)(a:List W)(c:Sl),iz ac0 x (b::.ow st::σ) ws=.ok (ks.map f,c::.ow a::σ)/\ks.length=ws.length/\Rm (n+C*ws.length) a|[],n,st,b,σ,h,_=>⟨[],st,b,rfl,rfl,h⟩|w::ws,n,st,b,σ,h,hn=>by simp only[apK,Nat.mul_add,Nat.mul_one]at hn⊢;obtain⟨k,i,j,g⟩:=e n st (.va w) σ h (by omega);obtain⟨ks,m,c,p,l,o⟩:=q3 e ws (n+C) i (.va w) σ g (by omega);refine⟨k::ks,m,c,?_,by simp[l],by rw[show n+(C*ws.length+C)=n+C+C*ws.length by omega];exact o⟩;rw[lp];simp[z9,j,p]
def gC(n:Nat):(rng 0 n).length=n:=by simp[rng]
def adw{n:Nat}{st:List W}(h:Rm n st)(d:n<900000000)(m:Int)(B:0<m)(O:m<=8):∃(o:Option (List Stp))(a:List W),fc st [.int m]=.ok (ssW o,a)/\(∀l,o=some l->l.length<=100)/\Rm (n+40) a:=by
 obtain⟨w,E,p,R,M,b⟩:=bc h (by omega) 9 (by decide) (by decide);by_cases j:w=1;.subst j;exact⟨none,E,by simp[fc,e7,gu,List.replicate,bh,cF,bI,cy,bP,aU,bb,bL,p,cC,aY,kS,eB,ssW],λl c=>(by cases c),b.mono (by omega)⟩
 .obtain⟨i,Q,I,S,P,H⟩:=bc b (by omega) m B (by omega);obtain⟨k,G⟩:∃k:Nat,1+i=k:=⟨(1+i).toNat,by omega⟩;have J:k<=8:=by omega
  obtain⟨u,K,D,r,z,g⟩:=q3 (x:=aQ eQ 1 aJ) (f:=Stp.W) (C:=4) (λn st N σ h d=>by obtain⟨t,a,e,s⟩:=step_eq h d;exact⟨t,a,by simp[l6,bb,pO,bP,e],s⟩) (rng 0 k) _ _ .no [.va (.int m)] H (by rw[gC];omega);rw[gC]at z g;have y:(k:Int)<4611686018427387904:=by omega
  have A:-4611686018427387904<=(k:Int):=by omega
  have v:k<=1000000:=by omega
  have q:(k:Int)<=1000000:=by omega
  refine⟨some u,K,?_,λl c=>by cases c;omega,g.mono (by omega)⟩;simp[fc,e7,gu,List.replicate,bh,cF,bI,cy,bP,aU,bb,bL,p,I,j,G,cC,aab,pS,y,A,v,q,lim,r,aY,kS,eB,ssW]
theorem tW{g:Int}(R:g=0\/g=1){m:Int}:∀(k i:Nat)(n:Nat)(st:List W)(a:List Rl)(I A q:Sl),Rm n st->n+100*k<900000000->a.length=i->i+k<=100->(∀r∈a,r.ts.length<=100)->(∀r∈a,∀l,r.ss=some l->l.length<=100)->∃(c:List Rl)(o:List W)(v w u:Sl),forL (aF 4) en ((List.range k).map λj:Nat=>W.int ((i+j:Nat):Int)) [.ow st,.ow (a.map Rl.W),.va (.int g),.va (.int m),I,A,q]=.nx [.ow o,.ow (c.map Rl.W),.va (.int g),.va (.int m),v,w,u]/\(∀r∈c,r.ts.length<=100)/\(∀r∈c,∀l,r.ss=some l->l.length<=100)/\c.length=i+k/\Rm (n+100*k) o
|0,i,n,st,a,I,A,q,h,Q,hl,_,h1,h2=>⟨a,st,I,A,q,rfl,h1,h2,by omega,h⟩|k+1,i,n,st,a,I,A,q,h,Q,hl,hk,h1,h2=>by
  have d:(List.range (k+1)).map (λj:Nat=>W.int ((i+j:Nat):Int))=.int (i:Int)::(List.range k).map λj:Nat=>W.int ((i+1+j:Nat):Int):=by rw[arT,apU,ap6];congr 1;refine aqy λj _=>?_;simp only[Function.comp];congr 2;omega
  rw[d];obtain⟨B,D,p1,q1⟩:∃B:Int,oIx (.lst [.int 3,.int 7]) (.int g)=.ok (.int B)/\0<B/\B<=7:=by rcases R with rfl|rfl<;>simp
  obtain⟨E,G,p2,q2⟩:∃E:Int,oIx (.lst [.int 4,.int 8]) (.int g)=.ok (.int E)/\0<E/\E<=8:=by rcases R with rfl|rfl<;>simp
  obtain⟨J,M,e1,a1,b1,S⟩:=bc h (by omega) B p1 (by omega);have P:∃(s:Int)(z:List W),iY (ak2 (yT 0 (tB (eOp oEq (eOp dy (ai 4) (eC (.int 1))) (ai 3)))) (xOp oGt (aQ aj 0 (ar (yP 0 (eC (.int 4))) aJ)) (yP 0 (eC (.int 0))))) (aW 5 (yP 0 (eC (.int 0)))) sNx [.ow M,.ow (a.map Rl.W),.va (.int g),.va (.int m),.va (.int i),.va (.int J),q]=.nx [.ow z,.ow (a.map Rl.W),.va (.int g),.va (.int m),.va (.int i),.va (.int s),q]/\0<=s/\s<7/\Rm (n+2) z:=by
   by_cases N:(i:Int)+1=m
   .obtain⟨s,z,K,a2,b2,H⟩:=bc S (by omega) 4 (by decide) (by decide);by_cases T:0<s;.exact⟨0,z,by simp[bh,ur,fg,cF,bI,cy,bP,aU,bb,bL,aY,K,N,T,aP],by omega,by omega,H⟩
    .exact⟨J,z,by simp[bh,ur,fg,cF,bI,cy,bP,aU,bb,bL,aY,K,N,T,aP],by omega,by omega,H⟩
   .exact⟨J,M,by simp[bh,ur,fg,aY,N],by omega,by omega,S.mono (by omega)⟩
  obtain⟨s,z,K,a2,b2,H⟩:=P;obtain⟨j,hj⟩:∃j:Nat,s=j:=⟨s.toNat,by omega⟩;subst hj;obtain⟨y,s3,a0,e3,l3,Y⟩:=q3 (x:=aQ dR 1 aJ) (f:=λp:Bool×Tst=>tsW p.1 p.2) (C:=9) (λn st s0 σ h Q=>by obtain⟨b,t,o,e,Z⟩:=agC h Q;exact⟨(b,t),o,by simp[l6,bb,pO,bP,e],Z⟩) (rng 0 j) _ _ .no [.ow (a.map Rl.W),.va (.int g),.va (.int m),.va (.int i),.va (.int j),q] H (by rw[gC];omega);rw[gC]at l3 Y;obtain⟨X,U,e4,h4,t4⟩:=adw Y (by omega) E p2 q2;have c1:(j:Int)<4611686018427387904:=by omega
  have c2:-4611686018427387904<=(j:Int):=by omega
  have c3:j<=1000000:=by omega
  have c4:a.length<1000000:=by omega
  have c5:y.length<=1000000:=by omega
  have c6:(j:Int)<=1000000:=by omega
  obtain⟨c,o,v,w,u,e5,g1,g2,g3,g4⟩:=tW (m:=m) R k (i+1) (n+100) U (a++[⟨y,X⟩]) (.va (.int i)) (.va (.int j)) (.va (tsL y)) (t4.mono (by omega)) (by omega) (by simp[hl]) (by omega) (λr d=>by
    rcases ap8.mp d with d|d;.exact h1 r d
    .rw[aqt.mp d];show y.length<=100;omega) (λr d=>by
    rcases ap8.mp d with d|d;.exact h2 r d
    .rw[aqt.mp d];exact h4);refine⟨c,o,v,w,u,?_,g1,g2,by omega,by rw[show n+100*(k+1)=n+100+100*k by omega];exact g4⟩;rw[<-e5,er];simp at D G;have O:en [.ow st,.ow (a.map Rl.W),.va (.int g),.va (.int m),.va (.int i),A,q]=.nx [.ow U,.ow ((a++[Rl.mk y X]).map Rl.W),.va (.int g),.va (.int m),.va (.int i),.va (.int j),.va (tsL y)]:=by
   simp only[en];rw[dO];have z1:aW 5 (aQ aj 0 (ar (yP 0 (eOp oIx (hG (ae (eC (.int 3)) (ae (eC (.int 7)) aA))) (ai 2))) aJ)) [.ow st,.ow (a.map Rl.W),.va (.int g),.va (.int m),.va (.int i),A,q]=.nx [.ow M,.ow (a.map Rl.W),.va (.int g),.va (.int m),.va (.int i),.va (.int J),q]:=by simp[aP,bI,cy,bP,aU,bb,bL,aY,D,e1]
   rw[z1,eu,dO,K,eu];simp[aP,aab,pS,bI,cy,bP,aU,bb,bL,aY,c1,c2,c3,c6,lim,e3,adH,ah0,hR,G,e4,c4,Rl.W,tsL]
  simp only[lZ,jc,aqK,aqA];rw[O];rfl
def ahU{n:Nat}{st:List W}(h:Rm n st)(K:n<800000000):∃(c:List Rl)(a:List W),iQ st []=.ok (clW c,a)/\(∀r∈c,r.ts.length<=100)/\(∀r∈c,∀l,r.ss=some l->l.length<=100)/\Rm (n+2000) a:=by
 obtain⟨o,P,G,O,J,s⟩:=bc h (by omega) 8 (by decide) (by decide);obtain⟨g,q,e⟩:∃g:Int,(g=0\/g=1)/\ac2 [.bl (decide (o=1))]=.ok (.int g):=by
  by_cases b:o=1;.exact⟨1,.inr rfl,by simp[b]⟩
  .exact⟨0,.inl rfl,by simp[b]⟩
 obtain⟨d,f,y,M⟩:∃d:Int,oIx (.lst [.int 4,.int 12]) (.int g)=.ok (.int d)/\0<d/\d<=12:=by rcases q with rfl|rfl<;>simp
 obtain⟨p,z,I,R,N,H⟩:=bc s (by omega) d y (by omega);obtain⟨k,E⟩:∃k:Nat,1+p=k:=⟨(1+p).toNat,by omega⟩;obtain⟨c,a,B,C,t,i,u,w,Q,D⟩:=tW (m:=(k:Int)) q k 0 _ z [] .no .no .no H (by omega) rfl (by omega) (λr b=>by cases b) λr b=>by cases b
 have A:(List.range k).map (λj:Nat=>W.int ((0+j:Nat):Int))=rng 0 k:=by simp[rng]
 rw[A]at i;have v:(k:Int)<4611686018427387904:=by omega
 have x:-4611686018427387904<=(k:Int):=by omega
 refine⟨c,a,?_,u,w,D.mono (by omega)⟩;simp at f e i;simp[iQ,e7,kJ,List.replicate,aP,wM,qh,aab,cF,bI,cy,bP,aU,bb,bL,aY,G,e,f,I,E,v,x,i,kR,cC,kS,eB,clW]
def jA(p:S3)(h:Fac p)(m n:Int):dS [stW p,.int m,.int n]=.ok (spW (sfp p m n)):=by
 obtain⟨x,y,f⟩:=p;obtain⟨a,b,_,i,j,l,e⟩:=aoR x y f m n h.1 h.2;rw[e];have d:∀k c:Int,k+m*a+n*b-c=k+(a*m+b*n)-c:=λk c=>by rw[asK m,asK n,Int.add_assoc]
 have g:∀k c:Int,k+m*b-n*a-c=k+(b*m-a*n)-c:=λk c=>by rw[asK m,asK n];omega
 have d:=d x 0;have g:=g y 0;simp only[Int.sub_zero]at d g;simp only[gD]at i;simp(disch:=omega)[dS,kI,stW,spW,i,xl,List.replicate,d,g]
def vk(x y c:Int)(h:Fac (x,y,c)):dv [.int x,.int y,.int c]=.ok (.lst [stW (bsd (x,y,c) (-1)),stW (bsd (x,y,c) 1)]):=by
 have a:=jA (x,y,c) h 0 (-1);have b:=jA (x,y,c) h 0 1;have e:stW (x,y,c)=.tup [.int x,.int y,.int c]:=rfl;rw[e]at a b;have d:∀(s:Int×Int)(c:Int),dy (spW s) (.tup [.int c])=.ok (stW (s.1,s.2,c)):=λs c=>by simp[spW,stW]
 have f:stW (bsd (x,y,c) (-1))=stW ((sfp (x,y,c) 0 (-1)).1,(sfp (x,y,c) 0 (-1)).2,c):=rfl;have g:stW (bsd (x,y,c) 1)=stW ((sfp (x,y,c) 0 1).1,(sfp (x,y,c) 0 1).2,c):=rfl;rw[f,g];generalize sfp (x,y,c) 0 (-1)=s1 at *;generalize sfp (x,y,c) 0 1=s2 at *;simp[dv,kK,List.replicate,a,b,d]
theorem oE{c:TF}{b:SF}{S:Nat->Ws}{bad:Nat->Bool}(f:∀n,c (S n)=.ok (bad n))(g:∀n,b (S n)=.nx (S (n+1))):∀(m n:Nat),(∃j,j<=m/\bad (n+j)=false)->∀a,m<a->∃j,bad (n+j)=false/\i2 c b a (S n)=.nx (S (n+j))
|m,n,h,0,hf=>absurd hf (aqX _)|m,n,h,a+1,hf=>by
  by_cases e:bad n=true
  .obtain⟨j,p,d⟩:=h;have q:1<=j:=by cases j with|zero=>rw[Nat.add_zero,e]at d;cases d|succ j=>omega
   obtain⟨m,rfl⟩:∃k,m=k+1:=⟨m-1,by omega⟩;obtain⟨i,l,o⟩:=oE f g m (n+1) ⟨j-1,by omega,by rw[show n+1+(j-1)=n+j by omega];exact d⟩ a (by omega);refine⟨i+1,by rw[show n+(i+1)=n+1+i by omega];exact l,?_⟩;rw[eT,f,e,show n+(i+1)=n+1+i by omega,<-o,jc,apB rfl,g];rfl
  .have e:bad n=false:=by simpa using e
   refine⟨0,by rw[Nat.add_zero];exact e,?_⟩;rw[eT,f,e];rfl
theorem k7{c:Type}[DecidableEq c]{g:Nat->c}(d:∀i j,g i=g j->i=j)(a:c):∀b:List Nat,b.Nodup->(b.filter λj=>decide (g j=a)).length<=1
|[],_=>by simp|j::b,nd=>by
 have nd:=aqz.mp nd;by_cases h:g j=a;.have:b.filter (λj=>decide (g j=a))=[]:=List.filter_eq_nil_iff.mpr λi e z=>nd.1 (by
  have:g i=a:=by simpa using z
  rw[d j i (h.trans this.symm)];exact e);simp[h,this]
 .simpa[h]using k7 d a b nd.2
theorem aoE{p q r:Nat->Bool}:∀a:List Nat,(∀j∈a,p j=true\/q j=true\/r j=true)->a.length<=(a.filter p).length+(a.filter q).length+(a.filter r).length
|[],_=>by simp|j::a,h=>by
 have k:=aoE a λi c=>h i (apI _ c);have b:=h j apN;have l:∀f:Nat->Bool,(a.filter f).length<=((j::a).filter f).length:=λf=>by rw[arV];split<;>simp
 have d:=l p;have g:=l q;have e:=l r;rw[apK];rcases b with b|b|b
 .have:((j::a).filter p).length=(a.filter p).length+1:=by rw[arV,apB b,apK]
  omega
 .have:((j::a).filter q).length=(a.filter q).length+1:=by rw[arV,apB b,apK]
  omega
 .have:((j::a).filter r).length=(a.filter r).length+1:=by rw[arV,apB b,apK]
  omega
theorem pig{c:Type}[DecidableEq c]{g h:Nat->c}(m:∀i j,g i=g j->i=j)(f:∀i j,h i=h j->i=j):∀(l:List c)(b:List Nat),b.Nodup->(∀j∈b,g j∈l\/h j∈l)->b.length<=2*l.length
|[],b,_,hj=>by cases b with|nil=>simp|cons j b=>rcases hj j apN with z|z<;>cases z
|a::l,b,nd,hj=>by
 have u:=pig m f l (b.filter λj=>decide (g j≠a)&&decide (h j≠a)) (nd.filter _) λj d=>by
  obtain⟨n,e⟩:=aqN.mp d;simp only[apT,ap3]at e;rcases hj j n with z|z;.exact .inl ((apJ.mp z).resolve_left e.1)
  .exact .inr ((apJ.mp z).resolve_left e.2)
 have s:=k7 m a b nd;have v:=k7 f a b nd;have t:=aoE (p:=λj=>decide (g j≠a)&&decide (h j≠a)) (q:=λj=>decide (g j=a)) (r:=λj=>decide (h j=a)) b λj _=>by
  by_cases k:g j=a;.simp[k]
  .by_cases o:h j=a<;>simp[k,o]
 rw[apK];omega
theorem s9{b c:Type}(f:b->c):∀(l:List b)(j:Nat),(l.map f).eraseIdx j=(l.eraseIdx j).map f|[],_=>rfl|a::l,0=>rfl|a::l,j+1=>by show f a::(l.map f).eraseIdx j=f a::(l.eraseIdx j).map f;rw[s9 f l j]
theorem pq:∀(l:List Nat)(r:Nat)(h:r<l.length),(l[r]::l.eraseIdx r).Perm l
|[],_,h=>absurd h (aqX _)|a::l,0,_=>.refl _|a::l,r+1,h=>by
 have b:r<l.length:=by simpa using h
 have c:=pq l r b;exact(List.Perm.swap a l[r] (l.eraseIdx r)).trans (c.cons a)
def ajl{n:Nat}{st:List W}(h:Rm n st)(u:n<1000000000)(k:Nat)(left:List Nat)(w:k<8)(v:left.length=8-k)(f:W)(σ:Ws):∃(r:Nat)(t:r<left.length)(c:List W),z7 3 (aQ aj 1 (ar (yP 1 (eOp g6 (eC (.int 8)) (ai 0))) aJ)) (.va (.int k)::.ow st::.va f::.ow (nW left)::σ)=.ok (.int (left[r]:Nat),.va (.int k)::.ow c::.va f::.ow (nW (left.eraseIdx r))::σ)/\Rm (n+1) c:=by
 obtain⟨r,i,m,q,s,g⟩:=bc h (by omega) (8-(k:Int)) (by omega) (by omega);obtain⟨j,rfl⟩:∃j:Nat,r=j:=⟨r.toNat,by omega⟩;have e:j<left.length:=by omega
 refine⟨j,e,i,?_,g⟩;have o:(nW left)[j]?=some (.int (left[j]:Nat)):=by simp[nW,e]
 have l:(nW left).eraseIdx j=nW (left.eraseIdx j):=s9 _ _ _;have b:(nW left).length=left.length:=by simp[nW]
 have p:(j:Int)<(nW left).length:=by rw[b];omega
 have d:(nW left).length<=1000000:=by rw[b];omega
 rw[<-l];generalize(left[j]:Nat)=a at *;generalize nW left=L at *;simp[z7,alf,l6,pO,bP,aU,bb,bL,m,o,p,d,lim]
theorem pz(f:W)(σ:Ws):∀(m k n:Nat)(st:List W)(left:List Nat)(e:Sl),k+m=8->left.length=m->Rm n st->n+m<1000000000->∃(ks:List Nat)(c:List W)(b:Sl),iz ac0 (z7 3 (aQ aj 1 (ar (yP 1 (eOp g6 (eC (.int 8)) (ai 0))) aJ))) (e::.ow st::.va f::.ow (nW left)::σ) ((List.range m).map λj:Nat=>W.int ((k+j:Nat):Int))=.ok (nW ks,b::.ow c::.va f::.ow (nW [])::σ)/\ks.Perm left/\Rm (n+m) c
|0,k,n,st,left,e,_,hl,h,_=>by have:left=[]:=arL.mp hl;subst this;exact⟨[],st,e,rfl,.nil,h⟩|m+1,k,n,st,left,e,hk,hl,h,hn=>by
 have i:(List.range (m+1)).map (λj:Nat=>W.int ((k+j:Nat):Int))=.int (k:Int)::(List.range m).map λj:Nat=>W.int ((k+1+j:Nat):Int):=by rw[arT,apU,ap6];congr 1;refine aqy λj _=>?_;simp only[Function.comp];congr 2;omega
 obtain⟨r,d,l,p,g⟩:=ajl h (by omega) k left (by omega) (by omega) f σ;obtain⟨ks,s,b,u,q,t⟩:=pz f σ m (k+1) (n+1) l (left.eraseIdx r) (.va (.int k)) (by omega) (by rw[List.length_eraseIdx];simp[d];omega) g (by omega);refine⟨left[r]::ks,s,b,?_,(q.cons _).trans (pq left r d),by rw[show n+(m+1)=n+1+m by omega];exact t⟩;rw[i,lp];have o:nW (left[r]::ks)=.int (left[r]:Nat)::nW ks:=rfl;rw[o];generalize z7 3 (aQ aj 1 (ar (yP 1 (eOp g6 (eC (.int 8)) (ai 0))) aJ))=X at *;generalize(left[r]:Nat)=a at *;generalize(List.range m).map (λj:Nat=>W.int ((k+1+j:Nat):Int))=L at *;simp[z9,p,u]
def qJ(a b:Nat):nD (.int a) (.int b)=decide (a=b):=by show((a:Int)==(b:Int))=_;rw[ap2];simp only[aqO,ap3];omega
theorem vt(k:Nat):∀b:List Nat,ahO (.int k) (nW b)=decide (k∈b)
|[]=>rfl|a::b=>by
 have c:=vt k b;unfold ahO at c⊢;show(nD (.int a) (.int k)||(nW b).any _)=_;rw[c,qJ,ap2];simp only[ar6,ap3,apJ];constructor
 .rintro(h|h);.exact .inl h.symm
  .exact .inr h
 .rintro(h|h);.exact .inl h.symm
  .exact .inr h
theorem ab4{k:Nat}:∀(ks:List Nat)(vs:List W),ks.length=vs.length->k∈ks->q0 (.int k) (nW ks) vs=vs[ks.idxOf k]?
|[],_,_,h=>by cases h|a::ks,[],hl,_=>by cases hl|a::ks,v::vs,hl,h=>by
 show(if nD (.int a) (.int k)=true then some v else q0 (.int k) (nW ks) vs)=_;rw[qJ];by_cases e:a=k;.subst e;simp[List.idxOf_cons_self]
 .have b:k∈ks:=(apJ.mp h).resolve_left λz=>e z.symm;rw[apA (by simpa using e),ab4 ks vs (by simpa using hl) b,List.idxOf_cons,show(a==k)=false by simpa using e];rfl
theorem wV{k:Nat}{v:W}:∀(ks:List Nat)(vs:List W),ks.Nodup->ks.length=vs.length->k∈ks->tN (.int k) v (nW ks) vs=vs.set (ks.idxOf k) v
|[],_,_,_,h=>by cases h|a::ks,[],_,c,_=>by cases c|a::ks,u::vs,nd,c,h=>by
 have nd:=aqz.mp nd;have out:∀(ks:List Nat)(vs:List W),k∉ks->ks.length=vs.length->tN (.int k) v (nW ks) vs=vs:=λks=>by induction ks with
 |nil=>intro vs _ c;cases vs with|nil=>rfl|cons _ _=>cases c
 |cons b ks ih=>intro vs d c;cases vs with|nil=>cases c|cons u vs=>show(if nD (.int b) (.int k)=true then v else u)::tN (.int k) v (nW ks) vs=_;rw[qJ,apA (by simpa using λz=>d (by simp[z])),ih vs (λz=>d (apI _ z)) (by simpa using c)]
 show(if nD (.int a) (.int k)=true then v else u)::tN (.int k) v (nW ks) vs=_;rw[qJ];by_cases e:a=k;.subst e;rw[apB (by simp),out ks vs nd.1 (by simpa using c)];simp[List.idxOf_cons_self]
 .have f:k∈ks:=(apJ.mp h).resolve_left λz=>e z.symm;rw[apA (by simpa using e),wV ks vs nd.2 (by simpa using c) f,List.idxOf_cons,show(a==k)=false by simpa using e];rfl
noncomputable def yJ(y d:Int)(j:Nat):Int:=y+j*d
def lft(x y c:Int):S3:=bsd (x,y,c) (-1)
def rgt(x y c:Int):S3:=bsd (x,y,c) 1
def lN{x y a c n:Int}(h:aE (bsd (x,y,c) n)=aE (bsd (x,a,c) n)):y=a:=by
 simp only[bsd,aE,sfp]at h;split at h;.simp only[aqg]at h;omega
 .split at h;.simp only[aqg]at h;omega
  .split at h<;>(simp only[aqg]at h;omega)
def anm(x y c:Int):aE (lft x y c)≠aE (rgt x y c):=by
 intro h;simp only[lft,rgt,bsd,aE,sfp]at h;split at h;.simp only[aqg]at h;omega
 .split at h;.simp only[aqg]at h;omega
  .split at h<;>(simp only[aqg]at h;omega)
def ahW(a:List (Int×Int))(x y c d:Int)(j:Nat):Bool:=decide (aE (lft x (yJ y d j) c)∈a)||decide (aE (rgt x (yJ y d j) c)∈a)
def aku(a:List (Int×Int))(hs:a.length<=6)(x y c d:Int)(l:d=1\/d=-1):∃j,j<=12/\ahW a x y c d j=false:=by
 apply Classical.byContradiction;intro k;have b:∀i j:Nat,yJ y d i=yJ y d j->i=j:=λi j h=>by unfold yJ at h;rcases l with rfl|rfl<;>omega
 have:=pig (g:=λj=>aE (lft x (yJ y d j) c)) (h:=λj=>aE (rgt x (yJ y d j) c)) (λi j h=>b i j (lN h)) (λi j h=>b i j (lN h)) a (List.range 13) art λj f=>by
  have m:ahW a x y c d j=true:=by cases e:ahW a x y c d j with|true=>rfl|false=>exact(k ⟨j,by have:=apP.mp f;omega,e⟩).elim
  simpa[ahW]using m
 rw[arh]at this;omega
def twoW(x y c:Int):W:=.lst [stW (lft x y c),stW (rgt x y c)]
def two_0(x y c:Int):oIx (twoW x y c) (.int 0)=.ok (stW (lft x y c)):=rfl
def two_1(x y c:Int):oIx (twoW x y c) (.int 1)=.ok (stW (rgt x y c)):=rfl
def x2(x y c:Int)(h:Fac (x,y,c)):dv [.int x,.int y,.int c]=.ok (twoW x y c):=vk x y c h
def anr(l j o f n t s k h b d e:Sl)(a:List (Int×Int))(x y c:Int):blk 0 cN [l,j,o,f,.va (.lst (a.map spW)),n,t,s,k,h,b,d,.va (twoW x y c),e]=.ok (decide (aE (lft x y c)∈a)||decide (aE (rgt x y c)∈a)):=by have g:=two_0 x y c;have r:=two_1 x y c;have m:=afO (aE (lft x y c)) a;have i:=afO (aE (rgt x y c)) a;have u:=qB (lft x y c);have v:=qB (rgt x y c);generalize twoW x y c=T at *;generalize W.lst (a.map spW)=SS at *;generalize lft x y c=p at *;generalize rgt x y c=q at *;by_cases z:aE p∈a<;>simp[akP,cN,g,r,m,i,z]
def ans(j m g n l r q i b e:Sl)(f x y c d:Int)(s:Fac (x,y,c))(a:oIx (.lst [.int 1,.int (-1)]) (.int (if f<0 then 1 else 0))=.ok (.int d)):cn [j,.va (.int f),m,g,n,l,r,q,i,.va (.int x),.va (.int y),b,.va (twoW x y c),e]=.nx [j,.va (.int f),m,g,n,l,r,q,i,.va (.int x),.va (.int (y+d)),b,.va (twoW x (y+d) c),e]:=by
 have h:=two_0 x y c;have o:oIx (stW (lft x y c)) (.int 2)=.ok (.int c):=rfl;have k:=x2 x (y+d) c s;generalize twoW x (y+d) c=T' at *;generalize twoW x y c=T at *;generalize stW (lft x y c)=p at *;by_cases z:f<0;.rw[apB z]at a;simp at a;subst a;simp[cn,aP,bL,aY,z,h,o,k]
 .rw[apA z]at a;simp at a;subst a;simp[cn,aP,bL,aY,z,h,o,k]
def aca:SF:=aL (aW 4 (yP 0 (eOp dy (ai 4) (hG (ae (eSl (eOp oIx (ai 12) (eC (.int 0))) pNo (n7 (eC (.int 2)))) (ae (eSl (eOp oIx (ai 12) (eC (.int 1))) pNo (n7 (eC (.int 2)))) aA)))))) (aL (i8 5 (yP 0 (eOp oIx (ai 12) (eC (.int 0)))) (yP 0 (eOp oIx (ai 3) (eOp fh (eC (.int 2)) (ai 8))))) (i8 5 (yP 0 (eOp oIx (ai 12) (eC (.int 1)))) (yP 0 (eOp oIx (ai 3) (eOp dy (eOp fh (eC (.int 2)) (ai 8)) (eC (.int 1)))))))
def qQ:SF:=iY (yT 0 (tB (ai 6))) (aL (aW 11 (yP 0 (ai 7))) (uJ [9,10] (yP 0 (aK dS (ae (iZ (ae (ai 1) (ae (eOp g6 (eC (.int 0)) (ai 1)) (ae (ai 11) aA)))) (ae (eC (.int 0)) (ae (eOp g6 (eOp fh (eC (.int 4)) (ai 8)) (eC (.int 6))) aA))))))) sNx
def aeG:bQ=aL (aW 9 (xOp dy (xOp dy (xOp g6 (xOp fh (aQ aj 0 (ar (yP 0 (eC (.int 3))) aJ)) (yP 0 (eC (.int 4)))) (yP 0 (eC (.int 4)))) (xOp oDiv (aQ aj 0 (ar (yP 0 (eC (.int 4))) aJ)) (yP 0 (eC (.int 3))))) (yP 0 (ai 1)))) (aL (aW 10 (xOp g6 (xOp g6 (aQ aj 0 (ar (yP 0 (eC (.int 5))) aJ)) (yP 0 (eC (.int 2)))) (yP 0 (ai 1)))) (aL (aW 11 (aQ du 0 aJ)) (aL qQ (aL (aW 12 (yP 0 (aK dv (ae (ai 9) (ae (ai 10) (ae (ai 11) aA)))))) (aL (pe gE (blk 0 cN) cn) aca))))):=rfl
def ahs(w o k q m f d:Sl)(a b x y c:Int)(p:0<=b/\b<4)(r:0<=c/\c<4)(g:Bool)(i:Nat)(z:i<4)(st:List W):∃n j l:Int,Fac (n,j,l)/\qQ [.ow st,.va (.int a),o,k,q,m,.va (.bl g),.va (.int b),.va (.int i),.va (.int x),.va (.int y),.va (.int c),f,d]=.nx [.ow st,.va (.int a),o,k,q,m,.va (.bl g),.va (.int b),.va (.int i),.va (.int n),.va (.int j),.va (.int l),f,d]:=by cases g with|false=>exact⟨x,y,c,r,by simp[qQ,bh,fg,aY]⟩|true=>have h:=jA (a,0-a,b) p 0 (4*i-6);have e:stW (a,0-a,b)=.tup [.int a,.int (0-a),.int b]:=rfl;rw[e]at h;refine⟨(sfp (a,0-a,b) 0 (4*i-6)).1,(sfp (a,0-a,b) 0 (4*i-6)).2,b,p,?_⟩;have t:∀s:Int×Int,spW s=.tup [.int s.1,.int s.2]:=λ_=>rfl;rw[t]at h;generalize(sfp (a,0-a,b) 0 (4*i-6)).1=u at *;generalize(sfp (a,0-a,b) 0 (4*i-6)).2=v at *;simp at h;simp(disch:=omega)[qQ,bh,fg,aY,aP,bL,uJ,sA2,sA3,pE,h]
def og{a:List Nat}(nd:a.Nodup){m:Nat}(h:m<a.length):a[m]∉a.take m:=λz=>by
 obtain⟨j,b,e⟩:=aq6 z;rw[List.getElem_take]at e;have c:j<m:=by simp at b;omega
 have:=(List.getElem_inj nd).mp e;omega
def aa5(a:List Nat)(nd:a.Nodup){m:Nat}(c:m<a.length)(g:a.length=8)(vs:List W)(v:W)(A:Ws):putD 5 (nW (a.take m)) vs (.int (a[m]:Nat)) v A=.nx (A.set 5 (.od (nW (a.take (m+1))) (vs++[v]))):=by
 have h:=vt a[m] (a.take m);rw[ap1 (og nd c)]at h;have f:abO (.int (a[m]:Nat))=true:=rfl;have b:(nW (a.take m)).length<lim:=by simp[nW,lim];omega
 have d:nW (a.take (m+1))=nW (a.take m)++[.int (a[m]:Nat)]:=by
  have e:a.take (m+1)=a.take m++[a[m]]:=by rw[List.take_succ,apy c];rfl
  rw[e];unfold nW;rw[arw];rfl
 unfold putD putK ajg;rw[h,apB ⟨f,b⟩,d];rfl
def akE(M o r t s n e f g:Sl)(st:List W)(d:List Nat)(nd:d.Nodup)(l:d.length=8)(i:Nat)(K:i<4)(T:List S3)(I:T.length=2*i)(x y c:Int):aca [.ow st,o,r,.va (.lst (nW d)),.va (.lst ((T.map aE).map spW)),.od (nW (d.take (2*i))) (T.map stW),t,s,.va (.int i),n,e,f,.va (twoW x y c),g]=.nx [.ow st,o,r,.va (.lst (nW d)),.va (.lst (((T++[lft x y c,rgt x y c]).map aE).map spW)),.od (nW (d.take (2*(i+1)))) ((T++[lft x y c,rgt x y c]).map stW),t,s,.va (.int i),n,e,f,.va (twoW x y c),g]:=by
 have u:=two_0 x y c;have E:=two_1 x y c;have J:=qB (lft x y c);have N:=qB (rgt x y c);have j:=xt d (i:=2*i) (by omega);have k:=xt d (i:=2*i+1) (by omega);have w:d.getD (2*i) 0=d[2*i]:=by rw[apx,apy (by omega)];rfl
 have D:d.getD (2*i+1) 0=d[2*i+1]:=by rw[apx,apy (by omega)];rfl
 rw[w]at j;rw[D]at k;have B:=λh v A=>aa5 d nd (m:=2*i) (by omega) l h v A;have H:=λh v A=>aa5 d nd (m:=2*i+1) (by omega) l h v A;rw[show 2*(i+1)=2*i+1+1 by omega];have z:((T++[lft x y c,rgt x y c]).map aE).map spW=(T.map aE).map spW++[spW (aE (lft x y c)),spW (aE (rgt x y c))]:=by simp
 have G:(T++[lft x y c,rgt x y c]).map stW=T.map stW++[stW (lft x y c)]++[stW (rgt x y c)]:=by simp
 have C:((T.map aE).map spW).length+2<=1000000:=by simp;omega
 rw[z,G];rw[show((2*i+1:Nat):Int)=2*(i:Int)+1 by omega]at k;rw[show((2*i:Nat):Int)=2*(i:Int)by omega]at j;generalize twoW x y c=TW at *;generalize W.lst (nW d)=OR at *;generalize(T.map aE).map spW=SS at *;generalize T.map stW=TS at *;generalize nW (d.take (2*i))=K0 at *;generalize nW (d.take (2*i+1))=K1 at *;generalize nW (d.take (2*i+1+1))=K2 at *;generalize lft x y c=p at *;generalize rgt x y c=q at *;generalize(d[2*i]:Nat)=a at *;generalize(d[2*i+1]:Nat)=b at *;simp(disch:=omega)[aca,aP,bL,aY,u,E,C,i8,aa6,pE,j,k,B,H]
def anF{n:Nat}{st:List W}(h:Rm n st)(hn:n<900000000)(f g:Int)(Z:0<=g/\g<4)(l:Bool)(o:Sl)(a:List Nat)(nd:a.Nodup)(Y:a.length=8)(i:Nat)(M:i<4)(T:List S3)(P:T.length=2*i)(K r s k e:Sl):∃(x y c:Int)(u:List W)(O G D E:Sl),bQ [.ow st,.va (.int f),o,.va (.lst (nW a)),.va (.lst ((T.map aE).map spW)),.od (nW (a.take (2*i))) (T.map stW),.va (.bl l),.va (.int g),.va (.int i),K,r,s,k,e]=.nx [.ow u,.va (.int f),o,.va (.lst (nW a)),.va (.lst (((T++[lft x y c,rgt x y c]).map aE).map spW)),.od (nW (a.take (2*(i+1)))) ((T++[lft x y c,rgt x y c]).map stW),.va (.bl l),.va (.int g),.va (.int i),O,G,D,E,e]/\Fac (x,y,c)/\aE (lft x y c)∉T.map aE/\aE (rgt x y c)∉T.map aE/\Rm (n+6) u:=by
 obtain⟨N,s1,e1,a1,b1,h1⟩:=bc h (by omega) 3 (by decide) (by decide);obtain⟨I,s2,e2,a2,b2,h2⟩:=bc h1 (by omega) 4 (by decide) (by decide);obtain⟨H,s3,e3,a3,b3,Q⟩:=bc h2 (by omega) 5 (by decide) (by decide);obtain⟨J,m,e4,U,b4,h4⟩:=acf Q (by omega);obtain⟨x,y,c,B,p⟩:=ahs (.ow m) o (.va (.lst (nW a))) (.va (.lst ((T.map aE).map spW))) (.od (nW (a.take (2*i))) (T.map stW)) k e f g (N*4-4+I/3+f) (H-2-f) J Z ⟨U,b4⟩ l i M m;obtain⟨d,hd,hd1⟩:∃d:Int,oIx (.lst [.int 1,.int (-1)]) (.int (if f<0 then 1 else 0))=.ok (.int d)/\(d=1\/d=-1):=by
  by_cases z:f<0;.exact⟨-1,by rw[apB z];rfl,.inr rfl⟩
  .exact⟨1,by rw[apA z];rfl,.inl rfl⟩
 have X:=x2 x y c B;obtain⟨j0,w,q⟩:=aku (T.map aE) (by simp;omega) x y c d hd1;obtain⟨j,t,hw⟩:=oE (c:=blk 0 cN) (b:=cn) (S:=λj=>[.ow m,.va (.int f),o,.va (.lst (nW a)),.va (.lst ((T.map aE).map spW)),.od (nW (a.take (2*i))) (T.map stW),.va (.bl l),.va (.int g),.va (.int i),.va (.int x),.va (.int (yJ y d j)),.va (.int c),.va (twoW x (yJ y d j) c),e]) (bad:=ahW (T.map aE) x y c d) (λn=>anr _ _ _ _ _ _ _ _ _ _ _ _ (T.map aE) x (yJ y d n) c) λn=>by have:=ans (.ow m) o (.va (.lst (nW a))) (.va (.lst ((T.map aE).map spW))) (.od (nW (a.take (2*i))) (T.map stW)) (.va (.bl l)) (.va (.int g)) (.va (.int i)) (.va (.int c)) e f x (yJ y d n) c d B hd;rw[show yJ y d (n+1)=yJ y d n+d by unfold yJ;rcases hd1 with rfl|rfl<;>omega];exact this
  12 0 ⟨j0,w,by rw[Nat.zero_add];exact q⟩ 200 (by decide);rw[Nat.zero_add]at t hw;have y0:yJ y d 0=y:=by simp[yJ]
 rw[y0]at hw;have v:=akE (.ow m) (.va (.int f)) o (.va (.bl l)) (.va (.int g)) (.va (.int x)) (.va (.int (yJ y d j))) (.va (.int c)) e m a nd Y i M T P x (yJ y d j) c;refine⟨x,yJ y d j,c,m,.va (.int x),.va (.int (yJ y d j)),.va (.int c),.va (twoW x (yJ y d j) c),?_,B,?_,?_,h4.mono (by omega)⟩
 .rw[aeG];have A:∀R:SF,(aL (aW 9 (xOp dy (xOp dy (xOp g6 (xOp fh (aQ aj 0 (ar (yP 0 (eC (.int 3))) aJ)) (yP 0 (eC (.int 4)))) (yP 0 (eC (.int 4)))) (xOp oDiv (aQ aj 0 (ar (yP 0 (eC (.int 4))) aJ)) (yP 0 (eC (.int 3))))) (yP 0 (ai 1)))) (aL (aW 10 (xOp g6 (xOp g6 (aQ aj 0 (ar (yP 0 (eC (.int 5))) aJ)) (yP 0 (eC (.int 2)))) (yP 0 (ai 1)))) (aL (aW 11 (aQ du 0 aJ)) R))) [.ow st,.va (.int f),o,.va (.lst (nW a)),.va (.lst ((T.map aE).map spW)),.od (nW (a.take (2*i))) (T.map stW),.va (.bl l),.va (.int g),.va (.int i),K,r,s,k,e]=R [.ow m,.va (.int f),o,.va (.lst (nW a)),.va (.lst ((T.map aE).map spW)),.od (nW (a.take (2*i))) (T.map stW),.va (.bl l),.va (.int g),.va (.int i),.va (.int (N*4-4+I/3+f)),.va (.int (H-2-f)),.va (.int J),k,e]:=λR=>by generalize W.lst (nW a)=OR at *;generalize W.lst ((T.map aE).map spW)=SS at *;generalize T.map stW=TS at *;generalize nW (a.take (2*i))=K0 at *;simp(disch:=omega)[aP,cF,bI,cy,bP,aU,bb,bL,aY,e1,e2,e3,e4,xl]
  rw[A,dO,p,eu,dO];have C:aW 12 (yP 0 (aK dv (ae (ai 9) (ae (ai 10) (ae (ai 11) aA))))) [.ow m,.va (.int f),o,.va (.lst (nW a)),.va (.lst ((T.map aE).map spW)),.od (nW (a.take (2*i))) (T.map stW),.va (.bl l),.va (.int g),.va (.int i),.va (.int x),.va (.int y),.va (.int c),k,e]=.nx [.ow m,.va (.int f),o,.va (.lst (nW a)),.va (.lst ((T.map aE).map spW)),.od (nW (a.take (2*i))) (T.map stW),.va (.bl l),.va (.int g),.va (.int i),.va (.int x),.va (.int y),.va (.int c),.va (twoW x y c),e]:=by generalize W.lst (nW a)=OR at *;generalize W.lst ((T.map aE).map spW)=SS at *;generalize T.map stW=TS at *;generalize nW (a.take (2*i))=K0 at *;generalize twoW x y c=TW at *;simp[aP,bL,aY,X]
  rw[C,eu,dO,aaT,show gE _=200 from rfl,hw,eu,v]
 .simp only[ahW,Bool.or_eq_false_iff,decide_eq_false_iff_not]at t;exact t.1
 .simp only[ahW,Bool.or_eq_false_iff,decide_eq_false_iff_not]at t;exact t.2
noncomputable def byD(a:List Nat)(T:List S3):List S3:=(List.range 8).map λd=>T.getD (a.idxOf d) (0,0,0)
def afW{a:List Nat}(P:a.Perm (List.range 8)){T:List S3}(e:T.length=8){d:Nat}(f:d<8):zS (.dic (nW a) (T.map stW)) (.int d)=.ok (stW (T.getD (a.idxOf d) (0,0,0))):=by
 have b:d∈a:=P.mem_iff.mpr (apP.mpr f);have g:a.length=8:=P.length_eq;have c:a.idxOf d<T.length:=by have:=aqE b;omega
 show(if abO (.int d)=true then ofO (q0 (.int d) (nW a) (T.map stW))else .bad)=_;rw[apB (show abO (.int d)=true from rfl),ab4 a _ (by simp[g,e]) b,apX,apy c,apx,apy c];rfl
def aky{a:List Nat}(P:a.Perm (List.range 8)){T:List S3}(r:T.length=8)(st:List W)(j m h o p n k i b e c f:Sl):zR 5 (eJ 0 (yP 0 (eBi gg (ae (hE 1 (jB (eC (.int 8))) (aF 0) g9 (eOp zS (ai 6) (ai 0))) aA)))) [.ow st,j,m,h,o,.od (nW a) (T.map stW),p,n,k,i,b,e,c,f]=.rt (.exc "" [flW (byD a T),.lst st]):=by
 have q:∀l:Sl,bF (aF 0) g9 (eOp zS (ai 6) (ai 0)) [.no,l,j,m,h,o,.va (.dic (nW a) (T.map stW)),p,n,k,i,b,e,c,f] (rng 0 8)=.ok ((byD a T).map stW):=λl=>by unfold byD;rw[ap6];refine cf λd s=>⟨_,rfl,rfl,?_⟩;have:=afW P r (apP.mp s);rw[asI];show _=Res.ok (stW (T.getD (a.idxOf d) (0,0,0)));generalize W.dic (nW a) (T.map stW)=DD at *;generalize stW (T.getD (a.idxOf d) (0,0,0))=Z at *;simp[this]
 have u:(byD a T).length=8:=by simp[byD]
 have g:((byD a T).map stW).length<=1000000:=by simp[u]
 have t:flW (byD a T)=.tup ((byD a T).map stW):=rfl;rw[t];generalize(byD a T).map stW=R at *;generalize hK:nW a=K at *;generalize hV:T.map stW=V at *;simp[kR,cC,bL,aY,q,g,List.replicate,kS]
def ahy{c:List Nat}{a b:Nat}(d:a∈c)(g:b∈c)(h:c.idxOf a=c.idxOf b):a=b:=by have e:=List.getElem_idxOf (aqE d);have f:=List.getElem_idxOf (aqE g);rw[<-e,<-f];congr 1
def ae0{c:List Nat}(P:c.Perm (List.range 8)){T:List S3}(o:T.length=8)(l:∀p∈T,Fac p)(k:cv T):Fl (byD c T)/\cv (byD c T):=by
 have h:∀d,d<8->d∈c:=λd f=>P.mem_iff.mpr (apP.mpr f);have q:c.length=8:=P.length_eq;have i:∀d,d<8->c.idxOf d<T.length:=λd f=>by have:=aqE (h d f);omega
 refine⟨⟨by simp[byD],λp m=>?_⟩,rn λa b j n=>?_⟩;.obtain⟨d,f,rfl⟩:=aqi.mp m;exact qR l (i d (apP.mp f))
 .have e:b<8:=by simpa[byD]using n
  have g:∀d,d<8->(byD c T).getD d (0,0,0)=T.getD (c.idxOf d) (0,0,0):=λd f=>by unfold byD;rw[apx,apX,aqR f];rfl
  rw[g a (by omega),g b e];intro z;have:=ahy (h a (by omega)) (h b e) (two_at k (i a (by omega)) (i b e) z);omega
def ahB{n:Nat}{st:List W}(h:Rm n st)(hn:n<800000000)(v s:Int)(Z:0<=s/\s<4)(A:Bool)(C:Sl)(a:List Nat)(nd:a.Nodup)(U:a.length=8):∃(T:List S3)(k:List W)(B r f d j:Sl),forL (aF 8) bQ (rng 0 4) [.ow st,.va (.int v),C,.va (.lst (nW a)),.va (.lst []),.od [] [],.va (.bl A),.va (.int s),.no,.no,.no,.no,.no,.no]=.nx [.ow k,.va (.int v),C,.va (.lst (nW a)),.va (.lst ((T.map aE).map spW)),.od (nW a) (T.map stW),.va (.bl A),.va (.int s),B,r,f,d,j,.no]/\T.length=8/\(∀p∈T,Fac p)/\cv T/\Rm (n+24) k:=by
 obtain⟨D,e,M⟩:=nI (g:=aF 8) (b:=bQ) (xs:=rng 0 4) (λi D=>i<=4->∃(T:List S3)(k:List W)(B r f d j:Sl),D=[.ow k,.va (.int v),C,.va (.lst (nW a)),.va (.lst ((T.map aE).map spW)),.od (nW (a.take (2*i))) (T.map stW),.va (.bl A),.va (.int s),B,r,f,d,j,.no]/\T.length=2*i/\(∀p∈T,Fac p)/\cv T/\Rm (n+6*i) k) (σ:=[.ow st,.va (.int v),C,.va (.lst (nW a)),.va (.lst []),.od [] [],.va (.bl A),.va (.int s),.no,.no,.no,.no,.no,.no]) (λ_=>⟨[],st,.no,.no,.no,.no,.no,rfl,rfl,λ_ l=>(by cases l),.nil,h⟩) (by
   intro i w σ hw l;obtain⟨hi,rfl⟩:=qj _ _ _ _ hw;obtain⟨T,J,B,r,f,d,j,rfl,E,t,u,G⟩:=l (by omega);obtain⟨x,y,c,P,Q,K,I,H,X,N,Y,n2,h2⟩:=anF G (by omega) v s Z A C a nd U i hi T E r f d j .no;refine⟨[.ow J,.va (.int v),C,.va (.lst (nW a)),.va (.lst ((T.map aE).map spW)),.od (nW (a.take (2*i))) (T.map stW),.va (.bl A),.va (.int s),.va (.int (0+(i:Nat))),r,f,d,j,.no],rfl,_,by rw[asI];exact X,λ_=>⟨T++[lft x y c,rgt x y c],P,_,Q,K,I,H,rfl,by simp[E];omega,λp l=>?_,?_,by rw[show n+6*(i+1)=n+6*i+6 by omega];exact h2⟩⟩
   .rcases ap8.mp l with l|l;.exact t p l
    .simp at l;rcases l with rfl|rfl;.exact nX N _
     .exact nX N _
   .have m:∀q∈T,aE q∈T.map aE:=λq o=>aq7 o;have R:=jZ u (x:=lft x y c) λq o z=>Y (z▸m q o);have O:=jZ R (x:=rgt x y c) λq o z=>by
     rcases ap8.mp o with o|o;.exact n2 (z▸m q o)
     .rw[aqt.mp o]at z;exact anm x y c z
    rw[List.append_assoc]at O;exact O);rw[gC]at M;obtain⟨T,J,B,r,f,d,j,rfl,E,t,u,G⟩:=M (apG _);have S:a.take (2*4)=a:=List.take_of_length_le (by omega);rw[S]at e;exact⟨T,J,B,r,f,d,j,e,E,t,u,G⟩
def xQ:SF:=iY (xOp oEq (aQ aj 0 (ar (yP 0 (eC (.int 6))) aJ)) (yP 0 (eC (.int 1)))) (aL (aW 13 (aQ aj 0 (ar (yP 0 (eC (.int 8))) aJ))) (aL (uJ [9,10,11] (yP 0 (ahI 5 (eOp zS (ai 5) (ai 13))))) (i8 5 (zO (ar (yP 0 (ai 9)) (ar (yP 0 (ai 10)) (ar (xOp oMod (xOp dy (yP 0 (eOp dy (ai 11) (eC (.int 1)))) (aQ aj 0 (ar (yP 0 (eC (.int 3))) aJ))) (yP 0 (eC (.int 4)))) aJ)))) (yP 0 (ai 13))))) sNx
def adA{T:List S3}(l:∀p∈T,Fac p)(k:cv T){j:Nat}(i:j<T.length){p:S3}(m:Fac p)(hs:aE p=aE (T.getD j (0,0,0))):(∀q∈T.set j p,Fac q)/\cv (T.set j p):=by
 refine⟨λq n=>?_,rn λa b c f=>?_⟩
 .rcases aqM n with h|e;.exact l q h
  .rw[e];exact m
 .rw[ar0]at f;have g:∀d,d<T.length->aE ((T.set j p).getD d (0,0,0))=aE (T.getD d (0,0,0)):=λd o=>by
   by_cases e:j=d;.subst e;rw[apx,apz i];exact hs
   .rw[apx,apv e,<-apx]
  rw[g a (by omega),g b f];exact kj k c f
def ajJ{n:Nat}{st:List W}(h:Rm n st)(hn:n<900000000){a:List Nat}(P:a.Perm (List.range 8)){T:List S3}(q:T.length=8)(w:∀p∈T,Fac p)(i:cv T)(E U O H N M G R e f l:Sl):∃(r:List S3)(m:List W)(Y z s u:Sl),xQ [.ow st,E,U,O,H,.od (nW a) (T.map stW),N,M,G,R,e,f,l,.no]=.nx [.ow m,E,U,O,H,.od (nW a) (r.map stW),N,M,G,Y,z,s,l,u]/\r.length=8/\(∀p∈r,Fac p)/\cv r/\Rm (n+3) m:=by
 obtain⟨r1,s1,S,a1,b1,B⟩:=bc h (by omega) 6 (by decide) (by decide);by_cases Q:r1=1
 .obtain⟨I,s2,e2,a2,b2,h2⟩:=bc B (by omega) 8 (by decide) (by decide);obtain⟨b,s3,Z,a3,b3,h3⟩:=bc h2 (by omega) 3 (by decide) (by decide);obtain⟨d,rfl⟩:∃d:Nat,I=d:=⟨I.toNat,by omega⟩;have C:d<8:=by omega
  have x:d∈a:=P.mem_iff.mpr (apP.mpr C);have o:a.length=8:=P.length_eq;have X:a.idxOf d<T.length:=by have:=aqE x;omega
  have y:=afW P q C;have hp:=qR w X;obtain⟨p,D⟩:∃p,T.getD (a.idxOf d) (0,0,0)=p:=⟨_,rfl⟩;rw[D]at y hp;have hF:Fac (p.1,p.2.1,(p.2.2+1+b)%4):=⟨by show 0<=(p.2.2+1+b)%4;omega,by show(p.2.2+1+b)%4<4;omega⟩;obtain⟨g1,g2⟩:=adA w i X hF (by rw[D];rfl);have nd:a.Nodup:=P.nodup_iff.mpr art;have c:=vt d a;rw[aqw x]at c;have j:=wV (k:=d) (v:=stW (p.1,p.2.1,(p.2.2+1+b)%4)) a (T.map stW) nd (by simp[o,q]) x;have g:(nW a).length<1000000:=by simp[nW,o]
  have hk:abO (.int d)=true:=rfl;have J:∀A:Ws,putD 5 (nW a) (T.map stW) (.int d) (stW (p.1,p.2.1,(p.2.2+1+b)%4)) A=.nx (A.set 5 (.od (nW a) ((T.set (a.idxOf d) (p.1,p.2.1,(p.2.2+1+b)%4)).map stW))):=λA=>by unfold putD putK ajg;rw[c,apB ⟨hk,g⟩,j,asJ];rfl
  refine⟨T.set (a.idxOf d) (p.1,p.2.1,(p.2.2+1+b)%4),s3,.va (.int p.1),.va (.int p.2.1),.va (.int p.2.2),.va (.int d),?_,by simp[q],g1,g2,h3.mono (by omega)⟩;subst Q;have es:stW p=.tup [.int p.1,.int p.2.1,.int p.2.2]:=rfl;have t:stW (p.1,p.2.1,(p.2.2+1+b)%4)=.tup [.int p.1,.int p.2.1,.int ((p.2.2+1+b)%4)]:=rfl;rw[es]at y;rw[t]at J;generalize nW a=K at *;generalize(T.set (a.idxOf d) (p.1,p.2.1,(p.2.2+1+b)%4)).map stW=V' at *;generalize T.map stW=V at *;simp[xQ,bh,aP,cF,bI,cy,bP,aU,bb,hR,bL,aY,S,e2,Z,uJ,sA2,sA3,y,i8,aa6,J]
 .refine⟨T,s1,R,e,f,.no,?_,q,w,i,B.mono (by omega)⟩;generalize nW a=K at *;generalize T.map stW=V at *;simp[xQ,bh,cF,bI,cy,bP,aU,bb,bL,aY,S,Q]
def aeF{n:Nat}{st:List W}(h:Rm n st)(hn:n<700000000)(b:Int):∃f o,jD st [.int b]=.ok (flW f,o)/\Fl f/\cv f/\Rm (n+60) o:=by
 obtain⟨a,C,a0,E,k,G⟩:=pz (.int b) [.no,.no,.no,.no,.no,.no,.no,.no,.no,.no,.no] 8 0 n st (List.range 8) .no rfl (by simp) h (by omega);have c8:rng 0 8=(List.range 8).map λj:Nat=>W.int ((0+j:Nat):Int):=by simp[rng]
 rw[<-c8]at E;obtain⟨e,s2,e2,a2,b2,h2⟩:=bc G (by omega) 8 (by decide) (by decide);obtain⟨d,D,H,N,Q,O⟩:=bc h2 (by omega) 4 (by decide) (by decide);have nd:a.Nodup:=k.nodup_iff.mpr art;have y:a.length=8:=k.length_eq;obtain⟨T,Y,t,z,p,g,c,M,J,q,s,h4⟩:=ahB O (by omega) b d ⟨N,Q⟩ (decide (e=1)) (.ow (nW [])) a nd y;obtain⟨K,B,U,w,u,v,S,m,i,l,h5⟩:=ajJ h4 (by omega) k J q s (.va (.int b)) (.ow (nW [])) (.va (.lst (nW a))) (.va (.lst ((T.map aE).map spW))) (.va (.bl (decide (e=1)))) (.va (.int d)) t z p g c;obtain⟨G1,I⟩:=ae0 k m i l;refine⟨byD a K,B,?_,G1,I,h5.mono (by omega)⟩;have e6:=aky k m B (.va (.int b)) (.ow (nW [])) (.va (.lst (nW a))) (.va (.lst ((T.map aE).map spW))) (.va (.bl (decide (e=1)))) (.va (.int d)) t U w u c v;have split:gv=aL (yH 0 2 (lLR (eC (.int 8)))) (aL (sx 3 (yP 0 (eC (.int 8))) ac0 (z7 3 (aQ aj 1 (ar (yP 1 (eOp g6 (eC (.int 8)) (ai 0))) aJ)))) (aL (aW 4 (yP 0 (hG aA))) (aL (aaV 5) (aL (aW 6 (xOp oEq (aQ aj 0 (ar (yP 0 (eC (.int 8))) aJ)) (yP 0 (eC (.int 1))))) (aL (aW 7 (aQ aj 0 (ar (yP 0 (eC (.int 4))) aJ))) (aL (sA (yP 0 (eC (.int 4))) (aF 8) bQ) (aL xQ (zR 5 (eJ 0 (yP 0 (eBi gg (ae (hE 1 (jB (eC (.int 8))) (aF 0) g9 (eOp zS (ai 6) (ai 0))) aA)))))))))))):=rfl;have P:yH 0 2 (lLR (eC (.int 8))) [.ow st,.va (.int b),.no,.no,.no,.no,.no,.no,.no,.no,.no,.no,.no,.no]=.nx [.ow st,.va (.int b),.ow (nW (List.range 8)),.no,.no,.no,.no,.no,.no,.no,.no,.no,.no,.no]:=by
  have e8:rng 0 8=nW (List.range 8):=by simp[rng,nW]
  generalize nW (List.range 8)=L at *;simp[wM,lLR,e8,aY]
 have r:sx 3 (yP 0 (eC (.int 8))) ac0 (z7 3 (aQ aj 1 (ar (yP 1 (eOp g6 (eC (.int 8)) (ai 0))) aJ))) [.ow st,.va (.int b),.ow (nW (List.range 8)),.no,.no,.no,.no,.no,.no,.no,.no,.no,.no,.no]=.nx [.ow C,.va (.int b),.ow (nW []),.va (.lst (nW a)),.no,.no,.no,.no,.no,.no,.no,.no,.no,.no]:=by have A:=pS (yP 0 (eC (.int 8))) ac0 (z7 3 (aQ aj 1 (ar (yP 1 (eOp g6 (eC (.int 8)) (ai 0))) aJ))) [.ow st,.va (.int b),.ow (nW (List.range 8)),.no,.no,.no,.no,.no,.no,.no,.no,.no,.no,.no];generalize z7 3 (aQ aj 1 (ar (yP 1 (eOp g6 (eC (.int 8)) (ai 0))) aJ))=X at *;generalize nW (List.range 8)=L at *;generalize nW []=L0 at *;generalize nW a=LO at *;simp[bL,lim,E]at A;simp[aaU,A,aY]
 have x:∀R:SF,(aL (aW 4 (yP 0 (hG aA))) (aL (aaV 5) (aL (aW 6 (xOp oEq (aQ aj 0 (ar (yP 0 (eC (.int 8))) aJ)) (yP 0 (eC (.int 1))))) (aL (aW 7 (aQ aj 0 (ar (yP 0 (eC (.int 4))) aJ))) R)))) [.ow C,.va (.int b),.ow (nW []),.va (.lst (nW a)),.no,.no,.no,.no,.no,.no,.no,.no,.no,.no]=R [.ow D,.va (.int b),.ow (nW []),.va (.lst (nW a)),.va (.lst []),.od [] [],.va (.bl (decide (e=1))),.va (.int d),.no,.no,.no,.no,.no,.no]:=λR=>by generalize nW []=L0 at *;generalize W.lst (nW a)=LO at *;simp[aP,cF,bI,cy,bP,aU,bb,bL,aY,aaV,e2,H]
 have Z:sA (yP 0 (eC (.int 4))) (aF 8) bQ [.ow D,.va (.int b),.ow (nW []),.va (.lst (nW a)),.va (.lst []),.od [] [],.va (.bl (decide (e=1))),.va (.int d),.no,.no,.no,.no,.no,.no]=.nx [.ow Y,.va (.int b),.ow (nW []),.va (.lst (nW a)),.va (.lst ((T.map aE).map spW)),.od (nW a) (T.map stW),.va (.bl (decide (e=1))),.va (.int d),t,z,p,g,c,.no]:=by rw[<-M];generalize nW []=L0 at *;generalize W.lst (nW a)=LO at *;simp[qh,bL,aY]
 show ahE (gv [.ow st,.va (.int b),.no,.no,.no,.no,.no,.no,.no,.no,.no,.no,.no,.no])=_;rw[split,dO,P,eu,dO,r,eu,x,dO,Z,eu,dO,S,eu,e6,eB]
def akA{n:Nat}{st:List W}(h:Rm n st)(j:n<900000000):∃(b:Int)(d:List W),iu st []=.ok (.int b,d)/\Rm (n+1) d:=by
 obtain⟨a,f,g,l,k,e⟩:=bc h (by omega) 5 (by decide) (by decide);obtain⟨b,c⟩:∃b:Int,oIx (.lst [.int 0,.int 0,.int 0,.int 185,.int (-185)]) (.int a)=.ok (.int b):=by
  have i:a=0\/a=1\/a=2\/a=3\/a=4:=by omega
  rcases i with h|h|h|h|h<;>rw[h]<;>simp
 refine⟨b,f,?_,e⟩;simp at c;simp[iu,e7,mv,List.replicate,cC,cF,bI,cy,bP,aU,bb,bL,aY,g,c,kS,eB]
def acN(ns:List Int)(k:Int)(a:0<=k):cq [.lst (ns.map .int),.int k]=.ok (.int (ns.getD k.toNat 0)):=by obtain⟨n,rfl⟩:∃n:Nat,k=n:=⟨k.toNat,by omega⟩;by_cases h:n<ns.length<;>simp[cq,gw,h,fM]
def ka3:cK [.str "left",.str "at",.str "cells"]=true:=by decide
def agV(ns:List Int)(n:ns.length<=63):∃st,af7 (eR [.lst (ns.map .int)])=some st/\Rm 0 st:=by
 have g:bF (aF 0) g9 (eOp oMod (ai 0) (eC (.int 1000000007))) [.no,.va (.lst (ns.map .int)),.no] (ns.map .int)=.ok (ns.map λc=>.int (c%1000000007)):=cf λc _=>⟨_,rfl,rfl,by simp⟩;have h:ns.length<=1000000:=by omega
 have b:ns.length+1<=1000000:=by omega
 have f:cq [.lst (ns.map .int),.int 0]=.ok (.int (ns.getD 0 0)):=acN ns 0 (by decide);have d:cq [.lst (ns.map .int),.int 1]=.ok (.int (ns.getD 1 0)):=acN ns 1 (by decide);have m:∀l:List Int,gG (l.map .int)=true:=λl=>by induction l with|nil=>rfl|cons a l ih=>exact ih
 have e:∃l k:Int,eR [.lst (ns.map .int)]=.ok (.dic [.str "left",.str "at",.str "cells"] [.int l,.int k,.lst ((ns.map (.%1000000007)++[0]).map .int)])/\-1<=k/\k<=0:=by
  generalize hz:ns.getD 0 0=z0 at f;generalize hz:ns.getD 1 0=z1 at d;by_cases i:z0%2=0;.refine⟨if z1<0 then -z1 else z1,-1,?_,by decide,by decide⟩;simp[eR,iE,List.replicate,g,h,b,f,d,i,acs,aoo,ka3]
  .refine⟨0,0,?_,by decide,by decide⟩;simp[eR,iE,List.replicate,g,h,b,f,d,i,acs,aoo,ka3]
 obtain⟨l,k,e,j,o⟩:=e;refine⟨[.int l,.int k,.lst ((ns.map (.%1000000007)++[0]).map .int)],?_,l,k,_,rfl,by simp,by simp;omega,j,by omega⟩;rw[e];exact apB ⟨rfl,rfl,rfl,m _⟩
def ahx(o:Oc):isK o.due "tuple"=some (match o with|.ok _=>true|_=>false):=by cases o<;>rfl
def ye(o:Oc)(b:o.Good)(q:Int)(a:o=.ok (match o with|.ok g=>g|_=>[])):dD [o.due,.int q]=.ok (o.tn (q%4).toNat).due:=by cases o with|ok g=>have b:Fl g:=b;exact rM g q (by have:=b.len;omega)|nop=>cases a|blind d=>cases a|out d=>cases a|meet i j=>cases a
def ahV(b J:W)(a:Int)(n:Nat)(st:List W)(h:Rm n st)(hn:n<600000000)(q u x w:Sl):∃(l:List W)(p4 z O N:Sl),jz [.va b,.ow st,.va (.int a),.va J,q,u,x,w]=.nx [.va b,.ow l,.va (.int a),.va J,p4,z,O,N]/\Rm (n+3000) l:=by
 obtain⟨f,s1,T,F,m,B⟩:=aeF h (by omega) a;obtain⟨r,s2,Y,a2,b2,X⟩:=bc B (by omega) 9 (by decide) (by decide);obtain⟨c,e,E,Q,R,M⟩:=ahU X (by omega);obtain⟨o,S,y⟩:=anU f F m c Q R;have p:=afk _ _ _ (by have:=y 0;rw[agB]at this;exact this);have I:=afk _ _ _ (y ((r-4)%4).toNat);have t:=tE F ((r-4)%4).toNat;have w1:=aa7 _ _ (jq f F.len F.fac m);have s:=aa7 _ _ (jq _ t.len t.fac (ki m ((r-4)%4).toNat));rw[iH F m]at s;have v:=rM f (r-4) (by have:=F.len;omega);have U:(o.tn 0).due=o.due:=by cases o with|ok g=>show flW (g.map (FM.tqn 0))=flW g;rw[agB]|_=>rfl
 rw[U]at p;have Z:=adF (o.tn ((r-4)%4).toNat);have H:=aaQ (uh f);generalize hC:clW c=C at *;generalize hFT:flW (f.map (FM.tqn ((r-4)%4).toNat))=FT at *;generalize hFL:flW f=FL at *;generalize ajy (uh f)=PD at *;have A:jz [.va b,.ow st,.va (.int a),.va J,q,u,x,w]=(aL (iY (yT 1 (tB (eBi bT (ae (ai 7) (ae (eC (.ty "tuple")) aA))))) (aW 7 (yP 1 (aK dD (ae (ai 7) (ae (ai 5) aA))))) sNx) (iY (yT 1 (zQ (tB (aK (aR 3) (ae (aK cb (ae (aK dD (ae (ai 4) (ae (ai 5) aA))) (ae (ai 6) aA))) (ae (ai 7) aA)))))) (eJ 1 (yP 1 (eC (.bl false)))) sNx)) [.va b,.ow e,.va (.int a),.va J,.va FL,.va (.int (r-4)),.va C,.va o.due]:=by generalize o.due=D at *;simp only[jz];rw[dO];simp[aP,l6,pO,bP,bb,aU,cF,bL,fg,bh,aY,T,Y,E,p,v,w1,s,H]
 have G:iY (yT 1 (tB (eBi bT (ae (ai 7) (ae (eC (.ty "tuple")) aA))))) (aW 7 (yP 1 (aK dD (ae (ai 7) (ae (ai 5) aA))))) sNx [.va b,.ow e,.va (.int a),.va J,.va FL,.va (.int (r-4)),.va C,.va o.due]=.nx [.va b,.ow e,.va (.int a),.va J,.va FL,.va (.int (r-4)),.va C,.va (o.tn ((r-4)%4).toNat).due]:=by have k:=ahx o;cases o with|ok g=>have P:=ye (.ok g) S (r-4) rfl;generalize(Oc.ok g).due=D at *;simp[bh,fg,bL,aY,aP,k,P]|nop=>simp[bh,fg,bL,aY,aP,k,Oc.tn]|blind d=>simp[bh,fg,bL,aY,aP,k,Oc.tn]|out d=>simp[bh,fg,bL,aY,aP,k,Oc.tn]|meet i j=>simp[bh,fg,bL,aY,aP,k,Oc.tn]
 have K:iY (yT 1 (zQ (tB (aK (aR 3) (ae (aK cb (ae (aK dD (ae (ai 4) (ae (ai 5) aA))) (ae (ai 6) aA))) (ae (ai 7) aA)))))) (eJ 1 (yP 1 (eC (.bl false)))) sNx [.va b,.ow e,.va (.int a),.va J,.va FL,.va (.int (r-4)),.va C,.va (o.tn ((r-4)%4).toNat).due]=.nx [.va b,.ow e,.va (.int a),.va J,.va FL,.va (.int (r-4)),.va C,.va (o.tn ((r-4)%4).toNat).due]:=by generalize(o.tn ((r-4)%4).toNat).due=D8 at *;simp[bh,fg,bL,aY,v,I,Z]
 refine⟨e,.va FL,.va (.int (r-4)),.va C,.va (o.tn ((r-4)%4).toNat).due,?_,M.mono (by omega)⟩;rw[A,dO,G,eu,K]
def aeo(ns:List Int)(y:ns.length<=63):aeI [.lst (ns.map .int)]=.ok (.bl true):=by
 obtain⟨st,E,I⟩:=agV ns y;obtain⟨o,R,M,u⟩:=akA I (by decide);obtain⟨r,t,O,S,Q,N⟩:=bc u (by decide) 31 (by decide) (by decide);obtain⟨k,rfl⟩:∃k:Nat,r=k:=⟨r.toNat,by omega⟩;have P:∀l:List Int,gG (l.map .int)=true:=λl=>by induction l with|nil=>rfl|cons a l ih=>exact ih
 have p:agb [.lst (ns.map .int)]=true:=P ns;obtain⟨c,z,s⟩:=nI (g:=aF 3) (b:=jz) (xs:=rng 0 k) (λi c=>i<=31->∃(st:List W)(q f j n m:Sl),c=[.va (.lst (ns.map .int)),.ow st,.va (.int o),q,f,j,n,m]/\Rm (0+1+1+3000*i) st) (σ:=[.va (.lst (ns.map .int)),.ow t,.va (.int o),.no,.no,.no,.no,.no]) (λ_=>⟨t,_,_,_,_,_,rfl,N⟩) (by intro i w σ hw C;obtain⟨D,rfl⟩:=qj _ _ _ _ hw;obtain⟨st,q,f,j,n,m,rfl,h⟩:=C (by omega);obtain⟨d,G,H,v,J,e,x⟩:=ahV (.lst (ns.map .int)) (.int (0+i)) o _ st h (by omega) f j n m;exact⟨_,rfl,_,e,λ_=>⟨d,_,_,_,_,_,rfl,by rw[show 0+1+1+3000*(i+1)=0+1+1+3000*i+3000 by omega];exact x⟩⟩);rw[gC]at s;obtain⟨d,q,f,j,n,m,rfl,_⟩:=s (by omega);have A:(k:Int)<4611686018427387904:=by omega
 have B:-4611686018427387904<=(k:Int):=by omega
 have em:aeI [.lst (ns.map .int)]=fin (aaz [.va (.lst (ns.map .int)),.no,.no,.no,.no,.no,.no,.no]):=rfl;rw[em];have K:aaz [.va (.lst (ns.map .int)),.no,.no,.no,.no,.no,.no,.no]=akG (aL (aW 2 (aQ iu 1 aJ)) (aL (sA (aQ aj 1 (ar (yP 1 (eC (.int 31))) aJ)) (aF 3) jz) (eJ 1 (yP 1 (eC (.bl true))))) [.va (.lst (ns.map .int)),.ow st,.no,.no,.no,.no,.no,.no]):=by simp only[aaz,adG,ry,vT,vB,anx,anz,vu,lB,aY];rw[apB p,E];rfl
 rw[K,dO];simp[aP,qh,cC,l6,pO,bP,bb,aU,bL,aY,M,O,A,B,z,amy,akF,rtE]
end K54
namespace PySem.W.Fast
def tw12995819859495845486:=0
def tw1110028420544910244:=0
def tw12186189123840567216:=0
def tw11009515643792559408:=0
def tw10261718161310076015:=0
def tw17108428644048232841:=0
def tw17284051566315916753:=0
def tw15675052606281379330:=0
def tw15881775200917328035:=0
def tw15653735114788679832:=0
def tw1887474988482895687:=0
def tw8184639580181472125:=0
def tw15593888315261728325:=0
def tw5301486234593538138:=0
def tw176319378202814785:=0
def tw2072429415937718480:=0
def tw12001691967182924712:=0
def tw10311110986386889286:=0
def tw12738168074363767772:=0
def tw14125482526065553317:=0
def tw7665204102824804119:=0
def tw4914404355403049038:=0
def tw5357639378265388107:=0
def tw964285922599800033:=0
def tw8977252005287605850:=0
def tw3326762427776172036:=0
def tw4474370179011872857:=0
def tw9570624824646061548:=0
def tw9656006773157593222:=0
def tw348230996149594634:=0
def tw9038394571267783374:=0
def tw9567374323310935999:=0
def tw2365083877346136443:=0
def tw8201912381221532279:=0
def tw15776309696230082917:=0
def tw17200490258519160008:=0
def tw7268232270647750452:=0
def tw9433411003457795620:=0
def tw11377418104442667810:=0
def tw8626426684360831509:=0
def tw1827361357182580995:=0
def tw14084107825647069055:=0
def tw13572774795280026492:=0
def tw14571843039462798905:=0
def tw14746773561887324275:=0
def tw12213601841123548889:=0
def tw16376061501874378276:=0
def tw16751761390081462437:=0
def tw12706249018017287924:=0
def tw15803205309770895400:=0
def tw13078518092838406506:=0
def tw2476660632584169913:=0
def tw2702391510634184452:=0
def tw17472623703390553070:=0
def tw10722897630067338776:=0
def tw17420502675846185439:=0
def tw17136098887162734468:=0
def tw13291412040001155755:=0
def tw16545419392688390826:=0
def tw17255657550835729376:=0
def tw13092528774255353553:=0
def tw15994887112337582159:=0
def tw755776397016137402:=0
def tw12854061888551370352:=0
def tw12128332193495549348:=0
def tw11947712076179555387:=0
def tw11046433465355012557:=0
def tw5865999323715179955:=0
def tw16249707097047936456:=0
def tw17153101414756022159:=0
def tw8374574422197403564:=0
def tw9338956505075862933:=0
def tw15605414526751863734:=0
def tw8940643403408334849:=0
def tw11915172595497093071:=0
def tw12651226823975724813:=0
def tw12510846072625007446:=0
def tw1411131969679481511:=0
def tw8847821429106285759:=0
def tw3575055322105561635:=0
def tw15909101765455681207:=0
def tw12239449786836480:=0
def tw13850437522323395473:=0
def tw15670291458537760734:=0
def tw10836923320799169608:=0
def tw1926525231976817346:=0
def tw17942114719516537572:=0
def tw12011587487249436347:=0
def tw6926781713996518378:=0
def tw17185922700887260564:=0
def tw12196249963803619303:=0
def tw11568671786554100261:=0
def tw6998660648552816924:=0
def tw7810923110564412769:=0
def tw18013187625196681284:=0
def tw14226492537071870450:=0
def tw1014459637637654105:=0
def tw16214210194583880548:=0
def tw17089936499943342536:=0
def tw12231104614086669821:=0
def tw6658197163715738253:=0
def tw3064347475585703666:=0
def tw16072628873391852433:=0
def tw10781376727003482111:=0
def tw6490394189976592701:=0
def tw2861431581910089171:=0
def tw10687361933891476517:=0
def tw409376164763283327:=0
def tw11485805805376803204:=0
def tw10720807001157291738:=0
def tw13718649755142835583:=0
def tw16774598622195777502:=0
def tw10559517945539579616:=0
def tw13567582600272632324:=0
def tw15339219182413021444:=0
def tw15972427111174695859:=0
def tw16330252481762218650:=0
def tw9387684113727892717:=0
def tw15741144576340327591:=0
def tw16497863624714432384:=0
def tw18109836208585487798:=0
def tw5410039270653040311:=0
def tw11358281511273756345:=0
def tw7018314728642707860:=0
def tw12144685638656640328:=0
def tw5023423649415806889:=0
def tw1761732011126190938:=0
def tw9329095948425602367:=0
def tw14566553333489734305:=0
def tw16721770571256418817:=0
def tw2553804317178480200:=0
def tw14605531411965116884:=0
def tw7413150654573697849:=0
def tw7556381911606363583:=0
def tw2914924068557950859:=0
def tw6344338311824540158:=0
def tw12726932819374021029:=0
def tw3615945036219314139:=0
def tw18383219680531484213:=0
def tw16591830278180186779:=0
def tw10207988630134981671:=0
def tw18201483124738611963:=0
def tw3972616087454129439:=0
def tw8521262641666832348:=0
def tw13217492649212713973:=0
def tw7439140194853885976:=0
def tw8211879855102011105:=0
def tw9203531980152785092:=0
def tw2334984890393133091:=0
def tw2041960757766079153:=0
def tw17178254760774102882:=0
def tw16254888806188920696:=0
def tw6375095054909025600:=0
def tw5516902673095798159:=0
def tw5008631318235822610:=0
def tw18241427582380678889:=0
def tw8482173469875862691:=0
def tw15616292126491548102:=0
def tw10728588317842118772:=0
def tw12591832947689426899:=0
def tw9440765696107765577:=0
def tw12852206804813675774:=0
def tw297308657507322543:=0
def tw9413952128016792664:=0
def tw15274863568223331036:=0
def tw7985481350573620275:=0
def tw8821048240094309537:=0
def tw4789794576572283568:=0
def tw13515047122180134048:=0
def tw8778351993391495888:=0
def tw1696998653409679488:=0
def tw9686136326391903802:=0
def tw13136192810289653818:=0
def tw11049067713347527461:=0
def tw2677523815881952602:=0
def tw3084887329288964626:=0
def tw2309512696059063281:=0
def tw15105728965523238156:=0
def tw14892285079702535579:=0
def tw3487655762950745908:=0
def tw323984082705314724:=0
def tw4901025385549734774:=0
def tw4763000515316738186:=0
def tw13180858633230072334:=0
def tw17257095917793149128:=0
def tw1251871297425785128:=0
def tw11526610977396605845:=0
def tw16988004582269373350:=0
def tw10212763827075272222:=0
def tw1769530903023448564:=0
def tw5730220460755630712:=0
def tw8898963665912380991:=0
def tw18328688458043717048:=0
def tw5243911471041431295:=0
def tw1248362256684620569:=0
def tw432416528699986423:=0
def tw15904740376962844815:=0
def tw12062085504633908017:=0
def tw2150965396399976979:=0
def tw13020158856435032036:=0
def tw14144390377495697919:=0
def tw12053189431743004570:=0
def tw16105479383681655309:=0
def tw17793598079384443353:=0
def tw5157950363787341437:=0
def tw3489768936830818453:=0
def tw14390619725531219337:=0
def tw15150843132185676825:=0
def tw8941124126643006700:=0
def tw13077850557780653033:=0
def tw11006832499970696660:=0
def tw15269824755713113016:=0
def tw8707143858753833624:=0
def tw4255444392553167439:=0
def tw15416843038391737929:=0
def tw6913271407946622336:=0
def tw16682204294664836545:=0
def tw15284690653616406077:=0
def tw15238135460230806107:=0
def tw7572869998813902913:=0
def tw13665885239680384584:=0
def tw12624870017558637329:=0
def tw6201388156977790949:=0
def tw7413334987964287165:=0
def tw14055561118451311813:=0
def tw2136283334054229797:=0
def tw13821032292471456626:=0
def tw15934737605604819813:=0
def tw3718292250007970449:=0
def tw17957020004798584650:=0
def tw7641137308974155746:=0
def tw5829615261111540219:=0
def tw4827220735684336236:=0
def tw4011581207243971731:=0
def tw6614101263715794498:=0
def tw12583016613677479333:=0
def tw12839653197488243926:=0
def tw6535752872863257401:=0
def tw14716342467017885319:=0
def tw13676816547985335819:=0
def tw14982025927740346247:=0
def tw3341629745229497329:=0
def tw17682430147501203749:=0
def tw625286372535869108:=0
def tw14398728319944375195:=0
def tw4231904070474314523:=0
def tw1919061200416235740:=0
def tw4545938814693593300:=0
def tw16782548460008347516:=0
def tw4945794254212752855:=0
end PySem.W.Fast
namespace K54
open PySem PySem.Spec PyProof.Rows L2 WS
open WL(Res Sl Ws EF TF AF LF GF GsF SF Out RF OX Sr XF XA FS)
seal L2.PE L2.PS L2.PSs L2.PA L2.PT L2.PW L2.PG L2.PGs L2.PI L2.PO L2.x5 L2.PC
def top(i:Nat):Stmt:=PySem.Challenge.pw_squarecall_k54_whole_pairs_turned_about.main.body.getD i (.Pass ⟨0,0,0,0⟩)
local macro_rules|`(tactic|trivial)=>`(tactic|exact⟨rfl,rfl,rfl,by decide+kernel,rfl,by decide+kernel,by decide+kernel⟩)
noncomputable def jF:Stmt->List Stmt|.ClassDef _ _ _ b _ _ _ _ _ _ _=>b|_=>[]
abbrev wG:Stmt:=(jF (top 9)).getD 0 (.Pass ⟨0,0,0,0⟩)
def aaO:FnScope ["self","who"] ["self","who"] (ah wG):=by trivial
abbrev aaL:Stmt:=(jF (top 11)).getD 0 (.Pass ⟨0,0,0,0⟩)
def adC:FnScope ["self","one","other"] ["self","one","other"] (ah aaL):=by trivial
abbrev afp:Stmt:=(jF (top 10)).getD 0 (.Pass ⟨0,0,0,0⟩)
def agO:FnScope ["self","who"] ["self","who"] (ah afp):=by trivial
abbrev jS:Stmt:=top 60
def n4:FnScope ["_law_script","_law_k"] ["_law_script","_law_k"] (ah jS):=by trivial
abbrev oY:Stmt:=top 61
def mG:FnScope ["_law_script","_law_cells"] ["_law_script"] (ah oY):=by trivial
abbrev oW:Stmt:=top 62
def dg:FnScope ["_law_room_here","_law_many","_law_k","_law_cell","_law_one","_law_two","_law_found"] ["_law_room_here","_law_many"] (ah oW):=by trivial
abbrev sg:Stmt:=top 67
def yD:FnScope ["_law_room_here"] ["_law_room_here"] (ah sg):=by trivial
abbrev lH:Stmt:=top 65
def qd:FnScope ["_law_room_here"] ["_law_room_here"] (ah lH):=by trivial
abbrev oZ:Stmt:=top 63
def dM:FnScope ["_law_stand","_law_ahead","_law_right","_law_x","_law_y","_law_facing_here","_law_east","_law_north"] ["_law_stand","_law_ahead","_law_right"] (ah oZ):=by trivial
abbrev o4:Stmt:=top 64
def uD:FnScope ["_law_x","_law_y","_law_facing_here"] ["_law_x","_law_y","_law_facing_here"] (ah o4):=by trivial
abbrev mL:Stmt:=top 66
def aI:FnScope ["_law_room_here","_law_far_here","_law_left","_law_order","_law_spots","_law_stands","_law_line","_law_line_facing","_law_k","_law_x","_law_y","_law_facing_here","_law_two","_law_one"] ["_law_room_here","_law_far_here"] (ah mL):=by trivial
abbrev oV:Stmt:=top 68
def bE:FnScope ["_law_room_here","_law_test_here","_law_kind","_law_a","_law_r","_law_more","_law_some"] ["_law_room_here"] (ah oV):=by trivial
abbrev oX:Stmt:=top 69
def jk:FnScope ["_law_room_here","_law_way","_law_many"] ["_law_room_here"] (ah oX):=by trivial
abbrev mK:Stmt:=top 70
def rZ:FnScope ["_law_room_here","_law_most"] ["_law_room_here","_law_most"] (ah mK):=by trivial
abbrev o3:Stmt:=top 71
def cI:FnScope ["_law_room_here","_law_rules","_law_great","_law_many","_law_k","_law_count","_law_tests"] ["_law_room_here"] (ah o3):=by trivial
abbrev se:Stmt:=top 21
def yB:FnScope ["stand"] ["stand"] (ah se):=by trivial
abbrev wI:Stmt:=top 25
def mB:FnScope ["floor","spot","dancer","stand"] ["floor","spot"] (ah wI):=by trivial
abbrev mI:Stmt:=top 24
def fm:FnScope ["stand","ahead","right","step","east","north"] ["stand","ahead","right"] (ah mI):=by trivial
abbrev lF:Stmt:=top 50
def gz:FnScope ["floor","dancer","own","who"] ["floor","dancer"] (ah lF):=by trivial
abbrev i7:Stmt:=top 52
def mF:FnScope ["row"] ["row"] (ah i7):=by trivial
abbrev oQ:Stmt:=top 51
def mE:FnScope ["hands","first","row"] ["hands","first"] (ah oQ):=by trivial
abbrev ic:Stmt:=top 22
def ez:FnScope ["stands","one","other"] ["stands"] (ah ic):=by trivial
abbrev wL:Stmt:=top 53
def r6:FnScope ["stand","right","spot"] ["stand","right"] (ah wL):=by trivial
abbrev lG:Stmt:=top 54
def qc:FnScope ["floor","pairs"] ["floor","pairs"] (ah lG):=by trivial
abbrev oR:Stmt:=top 55
def gA:FnScope ["floor","hands","pairs","dancer"] ["floor"] (ah oR):=by trivial
abbrev i4:Stmt:=(jF (top 56)).getD 0 (.Pass ⟨0,0,0,0⟩)
def n5:FnScope ["self","floor"] ["self","floor"] (ah i4):=by trivial
abbrev ib:Stmt:=top 31
def lT:FnScope ["facing","way"] ["facing","way"] (ah ib):=by trivial
abbrev aaR:Stmt:=top 40
def adE:FnScope ["own","stands","who","what"] ["own","stands","who","what"] (ah aaR):=by trivial
abbrev dC:Stmt:=(jF (top 56)).getD 1 (.Pass ⟨0,0,0,0⟩)
def bY:FnScope ["self","place","test","own","who"] ["self","place","test"] (ah dC):=by trivial
abbrev o9:Stmt:=top 38
def uH:FnScope ["spot"] ["spot"] (ah o9):=by trivial
abbrev aaS:Stmt:=top 39
def qf:FnScope ["stand","before","behind"] ["stand"] (ah aaS):=by trivial
abbrev sf:Stmt:=top 26
def yC:FnScope ["dancer"] ["dancer"] (ah sf):=by trivial
abbrev oS:Stmt:=top 27
def uC:FnScope ["dancer"] ["dancer"] (ah oS):=by trivial
abbrev afr:Stmt:=top 41
def qb:FnScope ["floor","dancer","test","own","what","who"] ["floor","dancer","test"] (ah afr):=by trivial
abbrev sr:Stmt:=top 36
def yG:FnScope ["dancer"] ["dancer"] (ah sr):=by trivial
abbrev sk:Stmt:=top 37
def yF:FnScope ["dancer"] ["dancer"] (ah sk):=by trivial
abbrev si:Stmt:=top 42
def yE:FnScope ["dancer","word"] ["dancer","word"] (ah si):=by trivial
abbrev uI:Stmt:=top 43
def qe:FnScope ["floor","dancer","test","word"] ["floor","dancer","test"] (ah uI):=by trivial
abbrev dm:Stmt:=(jF (top 56)).getD 2 (.Pass ⟨0,0,0,0⟩)
def fD:FnScope ["self","place","test"] ["self","place","test"] (ah dm):=by trivial
abbrev dk:Stmt:=(jF (top 56)).getD 3 (.Pass ⟨0,0,0,0⟩)
def cU:FnScope ["self","place","call","rule"] ["self","place","call"] (ah dk):=by trivial
abbrev i6:Stmt:=top 46
def eY:FnScope ["stand","step","going","spot"] ["stand","step"] (ah i6):=by trivial
abbrev wJ:Stmt:=top 47
def mC:FnScope ["stand","steps","way","step"] ["stand","steps"] (ah wJ):=by trivial
abbrev sd:Stmt:=top 57
def yA:FnScope ["step"] ["step"] (ah sd):=by trivial
abbrev o8:Stmt:=top 23
def mH:FnScope ["stands","meeting"] ["stands"] (ah o8):=by trivial
abbrev o5:Stmt:=top 17
def uE:FnScope ["thing"] ["thing"] (ah o5):=by trivial
abbrev o7:Stmt:=top 18
def uG:FnScope ["thing"] ["thing"] (ah o7):=by trivial
abbrev mO:Stmt:=top 19
def r0:FnScope ["thing"] ["thing"] (ah mO):=by trivial
abbrev o6:Stmt:=top 20
def uF:FnScope ["thing"] ["thing"] (ah o6):=by trivial
abbrev sh:Stmt:=top 48
def kO:FnScope ["told","dancer","way"] ["told"] (ah sh):=by trivial
abbrev fQ:Stmt:=top 58
def bw:FnScope ["floor","call","paired","steps","told","place","pair","way"] ["floor","call"] (ah fQ):=by trivial
abbrev mM:Stmt:=top 72
def fo:FnScope ["_law_e","_law_kinds","_law_others"] ["_law_e"] (ah mM):=by trivial
abbrev oU:Stmt:=top 75
def eZ:FnScope ["_law_floor_here","_law_call_here","_law_found","_law_e"] ["_law_floor_here","_law_call_here"] (ah oU):=by trivial
abbrev mJ:Stmt:=top 73
def rY:FnScope ["_law_found"] ["_law_found"] (ah mJ):=by trivial
abbrev kP:Stmt:=top 74
def gB:FnScope ["_law_found","_law_due","_law_one","_law_other"] ["_law_found","_law_due"] (ah kP):=by trivial
abbrev i5:Stmt:=top 32
def mD:FnScope ["stand"] ["stand"] (ah i5):=by trivial
abbrev wK:Stmt:=top 33
def jQ:FnScope ["floor","quarters","result","quarter"] ["floor","quarters"] (ah wK):=by trivial
abbrev gY:Stmt:=top 76
def bX:FnScope ["_law_floor_here","_law_found","_law_e"] ["_law_floor_here"] (ah gY):=by trivial
abbrev agQ:Stmt:=top 77
def jR:FnScope ["_law_script","_law_room_here","_law_far_here","_law_j","_law_floor_here","_law_quarters","_law_call_here","_law_due"] ["_law_script"] (ah agQ):=by trivial
structure Txt(w:World)(K:W.Frag)(mg:Str->Option Value)(mS kX:Tok)(jH kr kq ko kn:Addr)(kU:Tok)(eO gT l5 gk gj gi gh bu gS iU iT eN gR ff km cg dW cD iV ax gH jC nJ bR fm_PairedFloor_pair_sees fm_PairedFloor_pair_holds fm_PairedFloor_pair_steps:Addr):Prop where
 mgA:∀nm v,W.nsIn K mainGlobals nm=some (some v)->mg nm=some v
 ij:mg "DANCERS"=some (.int 8 mS)pG:mg "FARTHEST"=some (.int 200 kX)abB:mg "STEPS"=some (.ref jH)agD:∀H:Hp,SqT K H jH [.ref kr,.ref kq,.ref ko,.ref kn]aaD:∀H:Hp,SqT K H kr [.int 0,.int 1]aaC:∀H:Hp,SqT K H kq [.int (-1),.int 0]aaB:∀H:Hp,SqT K H ko [.int 0,.int (-1)]aaA:∀H:Hp,SqT K H kn [.int 1,.int 0]k9:mg "QUARTERS"=some (.int 4 kU)qG:mg "QUARTERS_OF"=some (.ref eO)p7:acY w K eO [("same",.int 0),("left",.int 1),("about",.int 2),("right",.int 3)]xA:mg "DRIFTS"=some (.ref gT)adv:∀H:Hp,SqT K H gT [.str "inward",.str "outward",.str "sideways"]aef:mg "GOINGS"=some (.ref l5)adu:acY w K l5 [("ahead",.ref gk),("back",.ref gj),("left",.ref gi),("right",.ref gh)]yr:∀H:Hp,SqT K H gk [.int 1,.int 0]yq:∀H:Hp,SqT K H gj [.int (-1),.int 0]yp:∀H:Hp,SqT K H gi [.int 0,.int (-1)]yo:∀H:Hp,SqT K H gh [.int 0,.int 1]nl:WS.noL K=true
 sY:mg "ValueError"=none
 ahl:mg "abs"=none
 ahk:mg "all"=none
 afS:mg "bool"=none
 jw:mg "enumerate"=none
 aby:mg "int"=none
 aB:mg "isinstance"=none
 nt:mg "len"=none
 xx:mg "list"=none
 anj:mg "max"=none
 cT:mg "range"=none
 ad9:mg "sorted"=none
 ajP:mg "str"=none
 fH:mg "tuple"=none
 ani:mg "zip"=none
 el:mg "FloorError"=some (.ref bu)lM:ExcAt K "FloorError" bu
 abC:mg "NotEven"=some (.ref gS)acq:ExcAt K "NotEven" gS
 aee:mg "NoCall"=some (.ref iU)aeM:ExcAt K "NoCall" iU
 aed:mg "NoName"=some (.ref iT)aeL:ExcAt K "NoName" iT
 vi:mg "NoProgram"=some (.ref eN)vz:ExcAt K "NoProgram" eN
 abA:mg "TooMany"=some (.ref gR)acp:ExcAt K "TooMany" gR
 ny:mg "NoPairs"=some (.ref ff)nO:ExcAt K "NoPairs" ff
 rF:rD K ff none
 aho:mg "NoRow"=some (.ref km)ahG:ExcAt K "NoRow" km
 abD:mg "Blind"=some (.ref cg)vA:ExcAt K "Blind" cg
 ajV:mg "Out"=some (.ref dW)ahF:ExcAt K "Out" dW
 afU:mg "Meet"=some (.ref cD)acr:ExcAt K "Meet" cD
 aeg:mg "Broken"=some (.ref iV)aeN:ExcAt K "Broken" iV
 xs:ExcAll K
 akC:∀nm C,ExcAt K nm C->("one":Str)∈WL.fieldsOf nm->W.findIn K (.ref C) "one"=some none/\W.hasDictIn K C=true
 aeH:∀nm C,ExcAt K nm C->("other":Str)∈WL.fieldsOf nm->W.findIn K (.ref C) "other"=some none/\W.hasDictIn K C=true
 akB:∀nm C,ExcAt K nm C->("who":Str)∈WL.fieldsOf nm->W.findIn K (.ref C) "who"=some none/\W.hasDictIn K C=true
 ak0:W.findIn K (.ref cg) "__init__"=some (some (.ref gH))aeE:∃fd,Fun K "__init__" "Blind.__init__" wG gH fd
 aa3:rD K cg (some (.ref gH))adM:W.typeIn K (.ref gH)=some (.type "function")ac7:(W.clsIn K cg).map (·.mro)=some (.ref cg::.ref bu::gq)ac6:W.hasDictIn K cg=true
 ac5:W.findIn K (.ref cg) "__setattr__"=some (some (.builtin "object.__setattr__"))sX:W.findIn K (.ref cg) "who"=some none
 alY:W.findIn K (.ref cD) "__init__"=some (some (.ref jC))ahA:∃fd,Fun K "__init__" "Meet.__init__" aaL jC fd
 afx:rD K cD (some (.ref jC))agY:W.typeIn K (.ref jC)=some (.type "function")agl:(W.clsIn K cD).map (·.mro)=some (.ref cD::.ref bu::gq)agk:W.hasDictIn K cD=true
 agj:W.findIn K (.ref cD) "__setattr__"=some (some (.builtin "object.__setattr__"))vd:W.findIn K (.ref cD) "one"=some none
 qE:W.findIn K (.ref cD) "other"=some none
 aog:W.findIn K (.ref dW) "__init__"=some (some (.ref nJ))akw:∃fd,Fun K "__init__" "Out.__init__" afp nJ fd
 ajd:rD K dW (some (.ref nJ))ajc:W.typeIn K (.ref nJ)=some (.type "function")aiv:(W.clsIn K dW).map (·.mro)=some (.ref dW::.ref bu::gq)aiu:W.hasDictIn K dW=true
 ait:W.findIn K (.ref dW) "__setattr__"=some (some (.builtin "object.__setattr__"))y7:W.findIn K (.ref dW) "who"=some none
 rd:W.readsIn K bu (.type "type")=true
 rf:W.findCls K (.ref bu) (.type "type") "__init__"=some (.val (.builtin "ValueError.__init__"))rs:W.specialIn K (.ref bu) "__getattribute__"=some (some (.builtin "type.__getattribute__"))qH:mg "PairedFloor"=some (.ref ax)z1_PairedFloor:W.makesIn K ax=true
 z2_PairedFloor:W.findIn K (.ref ax) "__init__"=some (some (.ref bR))oo:∃fd,Fun K "__init__" "PairedFloor.__init__" i4 bR fd
 z3_PairedFloor:W.isFn K (.ref bR)=true
 z4_PairedFloor:W.keepIn K (.ref ax)=true
 z5_PairedFloor:W.plainGet K ax Str.empty=true
 z6_PairedFloor:W.hasDictIn K ax=true
 z7_PairedFloor:W.plainOver K ax=true
 z8_PairedFloor:W.findIn K (.ref ax) "__setattr__"=some (some (.builtin "object.__setattr__"))eG:fA K ax "floor"bH:fA K ax "pairs"bj:fA K ax "middles"aZ:W.nsIn K mainGlobals (Str.ofString "PairedFloor")=some (some (.ref ax))y1_PairedFloor_pair_sees:W.findIn K (.ref ax) "pair_sees"=some (some (.ref fm_PairedFloor_pair_sees))y2_PairedFloor_pair_sees:W.isFn K (.ref fm_PairedFloor_pair_sees)=true
 y3_PairedFloor_pair_sees:W.keepIn K (.ref fm_PairedFloor_pair_sees)=true
 fZ:∃fd,Fun K "pair_sees" "PairedFloor.pair_sees" dC fm_PairedFloor_pair_sees fd
 y1_PairedFloor_pair_holds:W.findIn K (.ref ax) "pair_holds"=some (some (.ref fm_PairedFloor_pair_holds))y2_PairedFloor_pair_holds:W.isFn K (.ref fm_PairedFloor_pair_holds)=true
 y3_PairedFloor_pair_holds:W.keepIn K (.ref fm_PairedFloor_pair_holds)=true
 cV:∃fd,Fun K "pair_holds" "PairedFloor.pair_holds" dm fm_PairedFloor_pair_holds fd
 y1_PairedFloor_pair_steps:W.findIn K (.ref ax) "pair_steps"=some (some (.ref fm_PairedFloor_pair_steps))y2_PairedFloor_pair_steps:W.isFn K (.ref fm_PairedFloor_pair_steps)=true
 y3_PairedFloor_pair_steps:W.keepIn K (.ref fm_PairedFloor_pair_steps)=true
 fJ:∃fd,Fun K "pair_steps" "PairedFloor.pair_steps" dk fm_PairedFloor_pair_steps fd
 qZ:AtD K "_law_cell_at" jS
 zw:AtD K "_law_room" oY
 zt:AtD K "_law_take" oW
 acD:AtD K "_law_far" sg
 tM:AtD K "_law_facing" lH
 zx:AtD K "_law_from" oZ
 zz:AtD K "_law_both" o4
 vI:AtD K "_law_floor" mL
 zr:AtD K "_law_test" oV
 zu:AtD K "_law_step" oX
 vH:AtD K "_law_steps" mK
 zy:AtD K "_law_call" o3
 acA:AtD K "spot_of" se
 aeT:AtD K "who_at" wI
 vF:AtD K "spot_from" mI
 tK:AtD K "right_hand" lF
 oy:AtD K "pairs_of_row" i7
 zl:AtD K "row_from" oQ
 nS:AtD K "first_meeting" ic
 aeW:AtD K "beside" wL
 tL:AtD K "middles_of" lG
 zm:AtD K "pairs_on" oR
 nR:AtD K "turned_facing" ib
 ahL:AtD K "looks" aaR
 zF:AtD K "distance" o9
 ahN:AtD K "drift" aaS
 acC:AtD K "partner" sf
 zo:AtD K "opposite" oS
 akM:AtD K "sees" afr
 acH:AtD K "is_head" sr
 acG:AtD K "is_left" sk
 acF:AtD K "is_such" si
 ahM:AtD K "holds" uI
 ov:AtD K "stand_behind" i6
 aeU:AtD K "way_of" wJ
 acz:AtD K "widened" sd
 zE:AtD K "floor_of" o8
 zA:AtD K "is_whole" o5
 zC:AtD K "is_place" o7
 vK:AtD K "is_facing" mO
 zB:AtD K "is_stand" o6
 acE:AtD K "kept_in" sh
 ll:AtD K "danced_by_pairs" fQ
 vJ:AtD K "_law_class" mM
 zq:AtD K "_law_told" oU
 vG:AtD K "_law_whole" mJ
 zv:AtD K "_law_same" kP
 ou:AtD K "turned_stand" i5
 aeV:AtD K "turned" wK
 lU:AtD K "_law_pairs_told" gY
 anV:AtD K "law" agQ
variable{P:Program}{w:World}{K:W.Frag}{mg:Str->Option Value}{base:Heap}{mS kX:Tok}{jH kr kq ko kn:Addr}{kU:Tok}{eO gT l5 gk gj gi gh bu gS iU iT eN gR ff km cg dW cD iV ax gH jC nJ bR fm_PairedFloor_pair_sees fm_PairedFloor_pair_holds fm_PairedFloor_pair_steps:Addr}
def aa1:RelV (.ref jH) (.ref jH):=rfl
def wU:RelV (.ref gT) (.ref gT):=rfl
variable(T:Txt w K mg mS kX jH kr kq ko kn kU eO gT l5 gk gj gi gh bu gS iU iT eN gR ff km cg dW cD iV ax gH jC nJ bR fm_PairedFloor_pair_sees fm_PairedFloor_pair_holds fm_PairedFloor_pair_steps)
include T
theorem aar:∀F,RW K F ly (.ref jH):=λF=>by simp only[RW,RWs,ly];exact⟨_,_,rfl,T.agD F,_,_,rfl,⟨_,_,rfl,T.aaD F,_,_,rfl,rfl,_,_,rfl,rfl,rfl⟩,_,_,rfl,⟨_,_,rfl,T.aaC F,_,_,rfl,rfl,_,_,rfl,rfl,rfl⟩,_,_,rfl,⟨_,_,rfl,T.aaB F,_,_,rfl,rfl,_,_,rfl,rfl,rfl⟩,_,_,rfl,⟨_,_,rfl,T.aaA F,_,_,rfl,rfl,_,_,rfl,rfl,rfl⟩,rfl⟩
theorem pW:∀F k u,WL.nT k [.str "same",.str "left",.str "about",.str "right"] [.int 0,.int 1,.int 2,.int 3]=some u->∃v,List.lookup k [(("same":Str),(.int 0:V)),(("left":Str),(.int 1:V)),(("about":Str),(.int 2:V)),(("right":Str),(.int 3:V))]=some v/\RW K F u v:=λF=>ir (by simp[RW]) (ir (by simp[RW]) (ir (by simp[RW]) (ir (by simp[RW]) af2)))
theorem wq:∀F,RW K F fy (.ref gT):=λF=>by simp only[RW,RWs,fy];exact⟨_,_,rfl,T.adv F,_,_,rfl,rfl,_,_,rfl,rfl,_,_,rfl,rfl,rfl⟩
theorem adq:∀F k u,WL.nT k [.str "ahead",.str "back",.str "left",.str "right"] [.tup [.int 1,.int 0],.tup [.int (-1),.int 0],.tup [.int 0,.int (-1)],.tup [.int 0,.int 1]]=some u->∃v,List.lookup k [(("ahead":Str),(.ref gk:V)),(("back":Str),(.ref gj:V)),(("left":Str),(.ref gi:V)),(("right":Str),(.ref gh:V))]=some v/\RW K F u v:=λF=>ir (by simp only[RW,RWs];exact⟨_,_,rfl,T.yr F,⟨_,_,rfl,rfl,⟨_,_,rfl,rfl,rfl⟩⟩⟩) (ir (by simp only[RW,RWs];exact⟨_,_,rfl,T.yq F,⟨_,_,rfl,rfl,⟨_,_,rfl,rfl,rfl⟩⟩⟩) (ir (by simp only[RW,RWs];exact⟨_,_,rfl,T.yp F,⟨_,_,rfl,rfl,⟨_,_,rfl,rfl,rfl⟩⟩⟩) (ir (by simp only[RW,RWs];exact⟨_,_,rfl,T.yo F,⟨_,_,rfl,rfl,⟨_,_,rfl,rfl,rfl⟩⟩⟩) af2)))
theorem adL:ExcS K cg:=vy T.xs T.vA T.ac7 T.ac6 T.ac5
theorem qz:akV P w K mg base gH ["self","who"] (spI cg ["who"]):=vn T.aeE (λ_ _ _ _ _ _ g f=>ri (λ_ _=>rfl) g f) λh b=>xI b aaO (by decide) (λ_ _ _ e d=>all_cons (pw (by decide)) (all_cons (w9 e d) all_nil)) λc A a s H E hr=>eK (jm (qr (by rfl) T.el T.rd T.rf T.rs T.aa3 (bM (pv 0) (bM (qp (.cons jY (.cons (sN (pv 1)) .nil))) eF)))) (kY (ag1 (adL T) T.sX (pv 0) (pv 1) rfl))
theorem aa2:ExcS K cD:=vy T.xs T.acr T.agl T.agk T.agj
theorem sU:akV P w K mg base jC ["self","one","other"] (spI cD ["one","other"]):=vn T.ahA (λ_ _ _ _ _ _ i f=>ub (λ_ _ _=>rfl) i f) λj b=>aex b adC (by decide) (by decide) (λ_ _ _ _ e h d g=>all_cons (pw (by decide)) (all_cons (w9 e d) (all_cons (pw (by decide)) (all_cons (w9 h g) (all_cons (pw (by decide)) all_nil))))) λc A a s H E hr=>eK (jm (qr (by rfl) T.el T.rd T.rf T.rs T.afx (bM (pv 0) (bM (qp (.cons jY (.cons (sN (pv 1)) (.cons jY (.cons (sN (pv 2)) (.cons jY .nil)))))) eF)))) (eK (ag1 (aa2 T) T.vd (pv 0) (pv 1) rfl) (kY (amG (aa2 T) T.qE (pv 0) (pv 2) rfl)))
theorem ajb:ExcS K dW:=vy T.xs T.ahF T.aiv T.aiu T.ait
theorem u6:akV P w K mg base nJ ["self","who"] (spI dW ["who"]):=vn T.akw (λ_ _ _ _ _ _ g f=>ri (λ_ _=>rfl) g f) λh b=>xI b agO (by decide) (λ_ _ _ e d=>all_cons (pw (by decide)) (all_cons (w9 e d) (all_cons (pw (by decide)) all_nil))) λc A a s H E hr=>eK (jm (qr (by rfl) T.el T.rd T.rf T.rs T.ajd (bM (pv 0) (bM (qp (.cons jY (.cons (sN (pv 1)) (.cons jY .nil)))) eF)))) (kY (ag1 (ajb T) T.y7 (pv 0) (pv 1) rfl))
theorem oi:Mk K ax bR:=⟨T.z1_PairedFloor,T.z2_PairedFloor,T.z3_PairedFloor,T.z4_PairedFloor⟩
theorem aM:Cls K ax:=⟨T.z5_PairedFloor,T.z6_PairedFloor,T.z7_PairedFloor,T.z8_PairedFloor⟩
theorem ja:Cal P w K mg base CX0 1 "_law_cell_at" ["_law_script","_law_k"] [] (spW K 2 cq):=T.qZ.dN T.mgA gw n4 λhB hr hx hp=>aq (cG (cA jG w_lt (va 1) (wB dF (me hB.symm) T.nt aqx (aa (va 0) ag)) (bz _)) (ao (aG (wx hB (va 0) (va 1)))) bg) (ao (aG af))
theorem uZ:Cal P w K mg base CX0 41 "_law_room" ["_law_script"] [] (spW K 1 eR):=T.zw.dN T.mgA iE mG λhB hr hx hp=>(aq (wS 1 mG.nd (ba bf (w_add hB.symm) (eV (ts:=["_law_cell"]) ⟨rfl,rfl,rfl,rfl,rfl⟩ (cm hr) rfl (bB (by decide)) (gU hB.symm (va 0)) (λ_ _ _ _=>gN 0) (λ_ _ _ _=>eU) λ_ _ _ _=>ba cu w_mod (va 0) af) (cw (aa af ag)))) (aq (cG (we2 hB hr.units (ba cu w_mod (cl hB hr (ja T) (aa (va 0) (aa af ag))) af) af) (ao (aG (afh (kB aH (wB q9 agy T.ahl boot_abs (aa (cl hB hr (ja T) (aa (va 0) (aa af ag))) ag)) (kB aH (kA cR kC af) (kB aH (va 1) afi)))))) bg) (ao (aG (afh (kB aH af (kB aH af (kB aH (va 1) afi))))))))
theorem ay:Cal P w K mg base CX0 1 "_law_take" ["_law_room_here","_law_many"] [] (spY K 1 aj):=T.zt.cal T.mgA (λ_ _ _ _ _ _ e d=>ri (λ_ _=>rfl) e d) λ_ _ b=>iy kH b dg rfl rfl rfl (by decide) λc A a s H E B z hB hr hp=>(aw (yS 2 dg.nd (akZ (wx hB (va 0) aH))) (aw (iW (aof (PW.pt (v5 (cA jG w_lt (va 2) af (bz _)) (pT (we2 hB hr.units (wx hB (va 0) aH) af))))) (bt (yS 2 dg.nd (bx af))) df) (aw (iW (aof (PW.pt (v5 (cA acQ ao4 (va 2) af (bz _)) (pT (cA jG w_lt (wx hB (va 0) aH) (ba xZ w_pow af af) (bz _)))))) (aw (yS 3 dg.nd (akZ (wx hB (wx hB (va 0) aH) (ba cu w_mod (va 2) (wB dF (me hB.symm) T.nt aqx (aa (wx hB (va 0) aH) ag)))))) (aw (yS 4 dg.nd (bx (ba cu w_mod (ba br w_mul (ba bf (w_add hB.symm) (ba bf (w_add hB.symm) (ba bf (w_add hB.symm) (va 3) (ba br w_mul (ba br w_mul af (va 2)) (va 2))) (va 2)) af) af) af))) (aw (yS 5 dg.nd (bx (ba cu w_mod (ba bf (w_add hB.symm) (ba bf (w_add hB.symm) (ba br w_mul (va 4) (va 4)) (ba br w_mul (ba br w_mul af (va 2)) (va 2))) af) af))) (aw (zY (n:=0) hr.units (pv 0) (bx (ba bf (w_add hB.symm) (ba br w_mul (va 5) af) (ba br w_mul (va 4) af))) rfl) (bt (zY (n:=1) hr.units (pv 0) (bx (ba bf (w_add hB.symm) (va 2) af)) rfl)))))) df) (aw (yS 6 dg.nd (akZ (ba cu w_mod (wx hB (va 0) aH) (va 1)))) (aw (zY (n:=0) hr.units (pv 0) (akZ (ba l1 w_div (wx hB (va 0) aH) (va 1))) rfl) (bt (fj (bx (va 6)))))))))
theorem yZ:Cal P w K mg base CX0 2 "_law_far" ["_law_room_here"] [] (spY K 0 iu):=T.acD.cal T.mgA (λ_ _ _ _ _ _ e d=>bind1 (λ_=>rfl) e d) λ_ _ b=>iy mv b yD rfl rfl rfl (by decide) λc A a s H E B z hB hr hp=>bt (fj (um hB (bx (cw (aa af (aa af (aa af (aa af (aa (kA cR kC af) ag))))))) (clY hB hr (ay T) (pv 0) (az (bx af) aS))))
theorem qy:Cal P w K mg base CX0 2 "_law_facing" ["_law_room_here"] [] (spY K 0 du):=T.tM.cal T.mgA (λ_ _ _ _ _ _ e d=>bind1 (λ_=>rfl) e d) λ_ _ b=>iy hX b qd rfl rfl rfl (by decide) λc A a s H E B z hB hr hp=>bt (fj (um hB (ae7 (az (clY hB hr (ay T) (pv 0) (az (bx af) aS)) (az (bx af) (az (g8 w_mul (clY hB hr (ay T) (pv 0) (az (bx af) aS)) (bx af)) aS)))) (clY hB hr (ay T) (pv 0) (az (bx af) aS))))
theorem jt:Cal P w K mg base CX0 41 "_law_from" ["_law_stand","_law_ahead","_law_right"] [] (spW K 3 dS):=T.zx.dN T.mgA kI dM λhB hr hx hp=>aq (v9 (va 0) (oF hB.symm (cm hr) (cM (gN 3 dM.nd) (cM (gN 4 dM.nd) (cM (gN 5 dM.nd) kz))) rfl (dQ (dQ (dQ pK))) ip) (af0 ip)) (aq (v9 (wx hB (cw (aa (bU (aa af (aa af ag))) (aa (bU (aa (kA cR kC af) (aa af ag))) (aa (bU (aa af (aa (kA cR kC af) ag))) (aa (bU (aa af (aa af ag))) ag))))) (va 5)) (oF hB.symm (cm hr) (cM (gN 6 dM.nd) (cM (gN 7 dM.nd) kz)) rfl (dQ (dQ pK)) ip) (af0 ip)) (ao (aG (bU (aa (ba bf (w_add hB.symm) (ba bf (w_add hB.symm) (va 3) (ba br w_mul (va 1) (va 6))) (ba br w_mul (va 2) (va 7))) (aa (ba gM w_sub (ba bf (w_add hB.symm) (va 4) (ba br w_mul (va 1) (va 7))) (ba br w_mul (va 2) (va 6))) ag))))))
theorem ni:Cal P w K mg base CX0 42 "_law_both" ["_law_x","_law_y","_law_facing_here"] [] (spW K 3 dv):=T.zz.dN T.mgA kK uD λhB hr hx hp=>ao (aG (cw (aa (ba bf (w_add hB.symm) (cl hB hr (jt T) (aa (bU (aa (va 0) (aa (va 1) (aa (va 2) ag)))) (aa af (aa (kA cR kC af) ag)))) (bU (aa (va 2) ag))) (aa (ba bf (w_add hB.symm) (cl hB hr (jt T) (aa (bU (aa (va 0) (aa (va 1) (aa (va 2) ag)))) (aa af (aa af ag)))) (bU (aa (va 2) ag))) ag))))
theorem sS:Cal P w K mg base CX0 43 "_law_floor" ["_law_room_here","_law_far_here"] [] (spY K 1 jD):=T.vI.cal T.mgA (λ_ _ _ _ _ _ e d=>ri (λ_ _=>rfl) e d) λ_ _ b=>iy gv b aI rfl rfl rfl (by decide) λc A a s H E B z hB hr hp=>(aw (ySO 2 aI.nd (aaf hB.symm (cm hr) (by rfl) T.xx (by rfl) T.cT af)) (aw (agg (i:=3) aI.nd rfl rfl (by rfl) (ts:=["_law_k"]) ⟨rfl,rfl,rfl,rfl,rfl⟩ (cm hr) rfl (by rfl) T.cT (bx af) (λ_ _ _ _=>gP 0) (λ_ _ _ _=>z6) λ_ _ _ _=>(aiq (i:=3) (yO aqD PySem.F.slot_list_pop PySem.F.type_list_pop aea (pv 3) (bM (clY hB hr (ay T) (pv 1) (az (bx (ba gM w_sub af (va 0))) aS)) eF)))) (aw (yS 4 aI.nd (bx (cw ag))) (aw (agi (i:=5) aI.nd) (aw (yS 6 aI.nd (ae8 (w_eq hB.symm hr.units) (clY hB hr (ay T) (pv 0) (az (bx af) aS)) (bx af) (bz _))) (aw (yS 7 aI.nd (clY hB hr (ay T) (pv 0) (az (bx af) aS))) (aw (zZ hp (cm hr) (by rfl) T.cT (bx af) (gP 8 aI.nd) (show PSs _ _ (loW _ _ _ K54.bQ)from(aw (yS 9 aI.nd (g8 (w_add hB.symm) (g8 (w_add hB.symm) (g8 w_sub (g8 w_mul (clY hB hr (ay T) (pv 0) (az (bx af) aS)) (bx af)) (bx af)) (g8 w_div (clY hB hr (ay T) (pv 0) (az (bx af) aS)) (bx af))) (bx (va 1)))) (aw (yS 10 aI.nd (g8 w_sub (g8 w_sub (clY hB hr (ay T) (pv 0) (az (bx af) aS)) (bx af)) (bx (va 1)))) (aw (yS 11 aI.nd (clY hB hr (qy T) (pv 0) aS)) (aw (iW (zX (fP (va 6))) (aw (yS 11 aI.nd (bx (va 7))) (bt (ae9 (is:=[9,10]) hB (cm hr) (bx (cl hB hr (jt T) (aa (bU (aa (va 1) (aa (ba gM w_sub af (va 1)) (aa (va 11) ag)))) (aa af (aa (ba gM w_sub (ba br w_mul af (va 8)) af) ag))))) (iI (jn (i:=9) aI.nd rfl (Or.inl rfl)) (iI (jn (i:=10) aI.nd rfl (Or.inl rfl)) uR))))) df) (aw (yS 12 aI.nd (bx (cl hB hr (ni T) (aa (va 9) (aa (va 10) (aa (va 11) ag)))))) (aw (ac4 hp (show PT _ _ (loT _ K54.cN)from PW.pt (aac (cA gO (adp hB.symm hr.units) (aai (aiI hB.symm) (wx hB (va 12) af) l8 (l7 af)) (va 4) (by rfl)) (vZ (cA gO (adp hB.symm hr.units) (aai (aiI hB.symm) (wx hB (va 12) af) l8 (l7 af)) (va 4) (by rfl))))) (show PSs _ _ (loW _ _ _ K54.cn)from aw (yS 10 aI.nd (bx (ba bf (w_add hB.symm) (va 10) (wx hB (cw (aa af (aa (kA cR kC af) ag))) (wT tT aaq T.aby boot_int (aa (ek jG w_lt (va 1) af (bz _)) ag)))))) (bt (yS 12 aI.nd (bx (cl hB hr (ni T) (aa (va 9) (aa (va 10) (aa (wx hB (wx hB (va 12) af) af) ag))))))))) (aw (yS 4 aI.nd (bx (ba bf (w_add hB.symm) (va 4) (cw (aa (aai (aiI hB.symm) (wx hB (va 12) af) l8 (l7 af)) (aa (aai (aiI hB.symm) (wx hB (va 12) af) l8 (l7 af)) ag)))))) (aw (uo (i:=5) (un1 hr.units) (pv 5) (bx (wx hB (va 3) (ba br w_mul af (va 8)))) (bx (wx hB (va 12) af))) (bt (uo (i:=5) (un1 hr.units) (pv 5) (bx (wx hB (va 3) (ba bf (w_add hB.symm) (ba br w_mul af (va 8)) af))) (bx (wx hB (va 12) af)))))))))))))) (aw (iW (vX (w_eq hB.symm hr.units) (clY hB hr (ay T) (pv 0) (az (bx af) aS)) (bx af) (bz _)) (aw (yS 13 aI.nd (clY hB hr (ay T) (pv 0) (az (bx af) aS))) (aw (ae9 (is:=[9,10,11]) hB (cm hr) (bx (aak (i:=5) (wxD hB (va 5) (va 13)))) (iI (jn (i:=9) aI.nd rfl (Or.inl rfl)) (iI (jn (i:=10) aI.nd rfl (Or.inl rfl)) (iI (jn (i:=11) aI.nd rfl (Or.inl rfl)) uR)))) (bt (uo (i:=5) (un1 hr.units) (pv 5) (bx (va 13)) (oz (az (bx (va 9)) (az (bx (va 10)) (az (g8 w_mod (g8 (w_add hB.symm) (bx (ba bf (w_add hB.symm) (va 11) af)) (clY hB hr (ay T) (pv 0) (az (bx af) aS))) (bx af)) aS)))))))) df) (bt (afa (i:=5) (fj (bx (wT lu (md hB.symm) T.fH aq3 (aa (eV (ts:=["_law_k"]) ⟨rfl,rfl,rfl,rfl,rfl⟩ (cm hr) rfl (bB (by decide)) (jf (by rfl) T.cT af) (λ_ _ _ _=>gN 0) (λ_ _ _ _=>eU) λ_ _ _ _=>wxD hB (va 6) (va 0)) ag))))))))))))))
theorem uX:Cal P w K mg base CX0 2 "_law_test" ["_law_room_here"] [] (spY K 0 dR):=T.zr.cal T.mgA (λ_ _ _ _ _ _ e d=>bind1 (λ_=>rfl) e d) λ_ _ b=>iy kG b bE rfl rfl rfl (by decide) λc A a s H E B z hB hr hp=>aw (yS 1 bE.nd (oz (az (um hB (bx (cw (aa aH (aa aH (aa aH (aa aH (aa aH (aa aH (aa aH ag))))))))) (clY hB hr (ay T) (pv 0) (az (bx af) aS))) aS))) (aw (yS 2 bE.nd (clY hB hr (ay T) (pv 0) (az (bx af) aS))) (aw (iW (zX (cA vM al3 (va 2) af (bz _))) (aw (yS 3 bE.nd (g8 w_sub (clY hB hr (ay T) (pv 0) (az (bx af) aS)) (bx af))) (aw (yS 4 bE.nd (g8 w_sub (clY hB hr (ay T) (pv 0) (az (bx af) aS)) (bx af))) (aw (yS 5 bE.nd (clY hB hr (ay T) (pv 0) (az (bx af) aS))) (aw (iW (zX (we2 hB hr.units (va 5) af)) (bt (yS 3 bE.nd (g8 w_sub (clY hB hr (ay T) (pv 0) (az (bx af) aS)) (bx af)))) df) (aw (iW (zX (we2 hB hr.units (va 5) af)) (bt (yS 4 bE.nd (g8 w_sub (clY hB hr (ay T) (pv 0) (az (bx af) aS)) (bx af)))) df) (aw (iW (zX (PW.pt (v5 (we2 hB hr.units (va 3) af) (pT (we2 hB hr.units (va 4) af))))) (bt (yS 4 bE.nd (bx af))) df) (aw (yS 6 bE.nd (bx (cw (aa aH (aa aH (aa aH (aa aH (aa aH (aa aH (aa aH (aa aH ag))))))))))) (bt (yS 1 bE.nd (oz (az (bx aH) (az (bx (va 3)) (az (bx (va 4)) (az (um hB (bx (va 6)) (clY hB hr (ay T) (pv 0) (az (bx af) aS))) aS)))))))))))))) (bt (iW (zX (we2 hB hr.units (va 2) af)) (bt (yS 1 bE.nd (oz (az (bx aH) (az (um hB (ae7 (az (bx af) (az (bx af) (az (bx af) (az (clY hB hr (ay T) (pv 0) (az (bx af) aS)) aS))))) (clY hB hr (ay T) (pv 0) (az (bx af) aS))) aS))))) df))) (aw (iW (vX (w_eq hB.symm hr.units) (clY hB hr (ay T) (pv 0) (az (bx af) aS)) (bx af) (bz _)) (bt (fj (bx (bU (aa aH (aa (va 1) ag)))))) df) (bt (fj (bx (va 1)))))))
theorem uY:Cal P w K mg base CX0 2 "_law_step" ["_law_room_here"] [] (spY K 0 eQ):=T.zu.cal T.mgA (λ_ _ _ _ _ _ e d=>bind1 (λ_=>rfl) e d) λ_ _ b=>iy iC b jk rfl rfl rfl (by decide) λc A a s H E B z hB hr hp=>aw (yS 1 jk.nd (clY hB hr (ay T) (pv 0) (az (bx af) aS))) (aw (yS 2 jk.nd (g8 (w_add hB.symm) (bx af) (clY hB hr (ay T) (pv 0) (az (um hB (bx (cw (aa af (aa af (aa af (aa af ag)))))) (clY hB hr (ay T) (pv 0) (az (bx af) aS))) aS)))) (aw (iW (zX (cA vM al3 (va 1) af (bz _))) (bt (fj (oz (az (bx aH) (az (um hB (bx (cw (aa aH (aa aH (aa aH ag))))) (clY hB hr (ay T) (pv 0) (az (bx af) aS))) aS))))) df) (bt (fj (bx (bU (aa (wx hB (cw (aa aH (aa aH (aa aH (aa aH (aa aH (aa aH ag))))))) (va 1)) (aa (va 2) ag))))))))
theorem sR:Cal P w K mg base CX0 41 "_law_steps" ["_law_room_here","_law_most"] [] (spY K 1 fc):=T.vH.cal T.mgA (λ_ _ _ _ _ _ e d=>ri (λ_ _=>rfl) e d) λ_ _ b=>iy gu b rZ rfl rfl rfl (by decide) λc A a s H E B z hB hr hp=>(aw (iW (vX (w_eq hB.symm hr.units) (clY hB hr (ay T) (pv 0) (az (bx af) aS)) (bx af) (bz _)) (bt (fj (bx (bU (aa (bU (aa aH ag)) ag))))) df) (bt (fj (alX (md hB.symm) T.fH aq3 (az (zW (ts:=["_law_j"]) ⟨rfl,rfl,rfl,rfl,rfl⟩ (cm hr) rfl (by rfl) T.cT (g8 (w_add hB.symm) (bx af) (clY hB hr (ay T) (pv 0) (az (bx (va 1)) aS))) (λ_ _ _ _=>gP 0) (λ_ _ _ _=>z6) λ_ _ _ _=>clY hB hr (uY T) (pv 1) aS) aS)))))
theorem u3:Cal P w K mg base CX0 42 "_law_call" ["_law_room_here"] [] (spY K 0 iQ):=T.zy.cal T.mgA (λ_ _ _ _ _ _ e d=>bind1 (λ_=>rfl) e d) λ_ _ b=>iy kJ b cI rfl rfl rfl (by decide) λc A a s H E B z hB hr hp=>(aw (ySO 1 cI.nd (wb ag)) (aw (yS 2 cI.nd (alX aaq T.aby boot_int (az (ae8 (w_eq hB.symm hr.units) (clY hB hr (ay T) (pv 0) (az (bx af) aS)) (bx af) (bz _)) aS))) (aw (yS 3 cI.nd (g8 (w_add hB.symm) (bx af) (clY hB hr (ay T) (pv 0) (az (bx (wx hB (cw (aa af (aa af ag))) (va 2))) aS)))) (aw (zZ hp (cm hr) (by rfl) T.cT (bx (va 3)) (gP 4 cI.nd) (show PSs _ _ (loW _ _ _ K54.en)from(aw (yS 5 cI.nd (clY hB hr (ay T) (pv 0) (az (bx (wx hB (cw (aa af (aa af ag))) (va 2))) aS))) (aw (iW (PW.pt (air (zX (we2 hB hr.units (ba bf (w_add hB.symm) (va 4) af) (va 3))) (agf (vX al3 (clY hB hr (ay T) (pv 0) (az (bx af) aS)) (bx af) (bz _))))) (bt (yS 5 cI.nd (bx af))) df) (aw (yS 6 cI.nd (alX (md hB.symm) T.fH aq3 (az (zW (ts:=["_law_j"]) ⟨rfl,rfl,rfl,rfl,rfl⟩ (cm hr) rfl (by rfl) T.cT (bx (va 5)) (λ_ _ _ _=>gP 0) (λ_ _ _ _=>z6) λ_ _ _ _=>clY hB hr (uX T) (pv 1) aS) aS))) (bt (ais (jm (yO aqD arH arI nu (pv 1) (bM (oz (az (bx (va 6)) (az (clY hB hr (sR T) (pv 0) (az (bx (wx hB (cw (aa af (aa af ag))) (va 2))) aS)) aS))) eF)))))))))) (bt (afa (i:=1) (fj (bx (va 1)))))))))
theorem fU:Cal P w K mg base CX0 1 "spot_of" ["stand"] [] (spW K 1 fb):=T.acA.dN T.mgA rP yB λhB hr hx hp=>ao (aG (bU (aa (wx hB (va 0) af) (aa (wx hB (va 0) af) ag))))
theorem m5:Cal P w K mg base CX0 41 "who_at" ["floor","spot"] [] (spW K 2 fv):=T.aeT.dN T.mgA pZ mB λhB hr hx hp=>aq (i1 hp (cm hr) (uv hB.symm (by rfl) T.jw (va 0)) (oF hB.symm (cm hr) (cM (gN 2 mB.nd) (cM (gN 3 mB.nd) kz)) rfl (dQ (dQ pK)) ip) (show PSs _ _ (loS _ K54.fX)from ao (cG (we2 hB hr.units (cl hB hr (fU T) (aa (va 3) ag)) (va 1)) (ao (aG (va 2))) bg))) (ao (aG jL))
theorem dn:Cal P w K mg base CX0 1 "spot_from" ["stand","ahead","right"] [] (spW K 3 bS):=T.vF.dN T.mgA jg fm λhB hr hx hp=>aq (wS 3 fm.nd (wx hB (wk hB T.abB aa1 (aar T)) (wx hB (va 0) af))) (aq (wS 4 fm.nd (ba bf (w_add hB.symm) (ba br w_mul (wx hB (va 3) af) (va 1)) (ba br w_mul (wx hB (va 3) af) (va 2)))) (aq (wS 5 fm.nd (ba gM w_sub (ba br w_mul (wx hB (va 3) af) (va 1)) (ba br w_mul (wx hB (va 3) af) (va 2)))) (ao (aG (bU (aa (ba bf (w_add hB.symm) (wx hB (va 0) af) (va 4)) (aa (ba bf (w_add hB.symm) (wx hB (va 0) af) (va 5)) ag)))))))
theorem qv:Cal P w K mg base CX0 42 "right_hand" ["floor","dancer"] [] (spW K 2 dr):=T.tK.dN T.mgA fk gz λhB hr hx hp=>aq (wS 2 gz.nd (wx hB (va 0) (va 1))) (aq (wS 3 gz.nd (cl hB hr (m5 T) (aa (va 0) (aa (cl hB hr (dn T) (aa (va 2) (aa af (aa af ag)))) ag)))) (ao (aG (adj (PW.pt (v5 (cA iS pV (va 3) jL (bz _)) (pT (we2 hB hr.units (wx hB (wx hB (va 0) (va 3)) af) (wx hB (va 2) af))))) (va 3) jL))))
theorem nc:Cal P w K mg base (CXX P w) 41 "pairs_of_row" ["row"] [] (spX K 1 cX):=T.oy.dX T.mgA dZ mF λhB hr hx hp=>(aq (cG (wn2 hB hr.units (ba cu w_mod (wB dF (me hB.symm) T.nt aqx (aa (va 0) ag)) af) af) (ao (aad hB.symm hx (cm hr) (by rfl) T.ny T.rF T.nO rfl (ao2 (ao1 hB.symm hr.units hr.gd (va 0) aiB)))) bg) (ao (aG (eV (ts:=["place"]) ⟨rfl,rfl,rfl,rfl,rfl⟩ (cm hr) rfl (bB (by decide)) (ago (by rfl) T.cT af (wB dF (me hB.symm) T.nt aqx (aa (va 0) ag))) (λ_ _ _ _=>gN 0) (λ_ _ _ _=>eU) λ_ _ _ _=>bU (aa (wx hB (va 1) (va 0)) (aa (wx hB (va 1) (ba bf (w_add hB.symm) (va 0) af)) ag))))))
theorem uV:Cal P w K mg base CX0 1 "row_from" ["hands","first"] [] (spW K 2 iP):=T.zl.dN T.mgA kE mE λhB hr hx hp=>(aq (uu (i:=2) mE.nd rfl (Or.inl rfl) (wb (aa (va 1) ag))) (aq (ac8 hp (show PT _ _ (loT _ K54.dq)from(afd (i:=2) (cA iS pV (wx hB (va 0) (wx hB (va 2) (kA cR kC af))) jL (bz _)))) (show PSs _ _ (loS _ K54.ft)from(ao (afe hB.symm (jm (yO aqD arH arI nu (pv 2) (bM (aak (i:=2) (wx hB (va 0) (wx hB (va 2) (kA cR kC af)))) eF))))))) (ao (v8 (i:=2) (aG (va 2))))))
theorem g0:Cal P w K mg base CX0 41 "first_meeting" ["stands"] [] (spW K 1 bC):=T.nS.dN T.mgA dB ez λhB hr hx hp=>aq (i1 hp (cm hr) (jf (by rfl) T.cT (wB dF (me hB.symm) T.nt aqx (aa (va 0) ag))) (gN 1 ez.nd) (show PSs _ _ (loS _ K54.cO)from ao (i1 hp (cm hr) (agp (by rfl) T.cT (ba bf (w_add hB.symm) (va 1) af) (wB dF (me hB.symm) T.nt aqx (aa (va 0) ag))) (gN 2 ez.nd) (show PSs _ _ (loS _ K54.bp)from ao (cG (we2 hB hr.units (cl hB hr (fU T) (aa (wx hB (va 0) (va 1)) ag)) (cl hB hr (fU T) (aa (wx hB (va 0) (va 2)) ag))) (ao (aG (bU (aa (va 1) (aa (va 2) ag))))) bg))))) (ao (aG jL))
theorem nq:Cal P w K mg base CX0 2 "beside" ["stand","right"] [] (spW K 2 fw):=T.aeW.dN T.mgA p6 r6 λhB hr hx hp=>aq (wS 2 r6.nd (cl hB hr (dn T) (aa (va 0) (aa af (aa (va 1) ag))))) (ao (aG (bU (aa (wx hB (va 2) af) (aa (wx hB (va 2) af) (aa (wx hB (va 0) af) ag))))))
theorem j3:Cal P w K mg base CX0 41 "middles_of" ["floor","pairs"] [] (spW K 2 cj):=T.tL.dN T.mgA hU qc λhB hr hx hp=>(ao (aG (eV (ts:=["pair"]) ⟨rfl,rfl,rfl,rfl,rfl⟩ (cm hr) rfl (bB (by decide)) (gU hB.symm (va 1)) (λ_ _ _ _=>gN 0) (λ_ _ _ _=>eU) λ_ _ _ _=>cl hB hr (nq T) (aa (wx hB (va 1) (wx hB (va 0) af)) (aa af ag)))))
theorem m9:Cal P w K mg base (CXX P w) 43 "pairs_on" ["floor"] [] (spX K 1 dt):=T.zm.dX T.mgA kF gA λhB hr hx hp=>(aq (agn (i:=1) gA.nd rfl rfl (by rfl) (ts:=["dancer"]) ⟨rfl,rfl,rfl,rfl,rfl⟩ (cm hr) rfl (bB (by decide)) (jf (by rfl) T.cT (wki hB T.ij)) (λ_ _ _ _=>gN 0) (λ_ _ _ _=>eU) λ_ _ _ _=>cl hB hr (qv T) (aa (va 1) (aa (va 0) ag))) (aq (uu (i:=2) gA.nd rfl (Or.inl rfl) (wb ag)) (aq (i1 hp (cm hr) (jf (by rfl) T.cT (wki hB T.ij)) (gN 3 gA.nd) (show PSs _ _ (loS _ K54.aT)from(ao (cG (cA zI (agx hB.symm hr.units) (va 3) (va 1) (by rfl)) (ao (aiz (i:=2) hB.symm T.nl (jm (yO aqD PySem.F.slot_list_extend PySem.F.type_list_extend ahm (pv 2) (bM (clX hB hr hx (nc T) (aa (cl hB hr (uV T) (aa (va 1) (aa (va 3) ag))) ag)) eF))))) bg)))) (aq (cG (afd (i:=2) (cA iS pV (cl hB hr (g0 T) (aa (cl hB hr (j3 T) (aa (va 0) (aa (va 2) ag))) ag)) jL (bz _))) (ao (adb hB.symm hx (cm hr) (by rfl) T.ny T.rF T.nO rfl (aa aH ag))) bg) (ao (v8 (i:=2) (aG (wB zH (agw hB.symm) T.ad9 boot_sorted (aa (va 2) ag)))))))))
theorem oh:∀f∈(["floor","pairs","middles"]:List Str),fA K ax f:=λf a=>by
 rcases apJ.mp a with rfl|a;.exact T.eG
 rcases apJ.mp a with rfl|a;.exact T.bH
 rcases apJ.mp a with rfl|a;.exact T.bj
 cases a
theorem n8:aod P w K mg base 44 bR ["self","floor"] (spN K "PairedFloor" ["floor","pairs","middles"] gK):=aey T.oo (λ_ _ _ _ _ _ f e=>ri (λ_ _=>rfl) f e) λg b=>aew b n5 rfl (by decide) (by decide) (by decide) λc A a s H E X d hr=>by subst d;exact⟨abc (pv 0) (pv 1) rfl,abc (pv 0) (pcX hr (m9 T) (bM (pv 1) eF)) rfl,abc (pv 0) (pc0 hr (j3 T) (bM (pv 1) (bM (afI (pv 0) rfl) eF))) rfl⟩
theorem gZ:Cal P w K mg base CX0 1 "turned_facing" ["facing","way"] [] (spW K 2 bZ):=T.nR.dN T.mgA eW lT λhB hr hx hp=>ao (aG (ba cu w_mod (ba bf (w_add hB.symm) (va 0) (gx hB T.qG T.p7 (pW T) (va 1))) (wki hB T.k9)))
theorem xh:Cal P w K mg base CX0 2 "looks" ["own","stands","who","what"] [] (spW K 4 lh):=T.ahL.dN T.mgA uy adE λhB hr hx hp=>aq (cG (cA ahT w_is (va 2) jL (bz _)) (ao (aG (ek calm_eq (w_eq hB.symm hr.units) (va 3) aH (bz _)))) bg) (aq (cG (cA gO (adp hB.symm hr.units) (va 3) (bU (aa aH (aa aH ag))) (by rfl)) (ao (aG (ek calm_eq (w_eq hB.symm hr.units) (va 3) aH (bz _)))) bg) (ao (aG (ek calm_eq (w_eq hB.symm hr.units) (wx hB (wx hB (va 1) (va 2)) af) (cl hB hr (gZ T) (aa (wx hB (va 0) af) (aa (va 3) ag))) (bz _)))))
theorem fW:aim P w K mg base 42 ax fm_PairedFloor_pair_sees "pair_sees" ["self","place","test"] (spX K 3 bJ):=qF ⟨T.y1_PairedFloor_pair_sees,T.y2_PairedFloor_pair_sees,T.y3_PairedFloor_pair_sees⟩ T.fZ (λ_ _ _ _ _ _ e d=>ub (λ_ _ _=>rfl) e d) λf b=>qX ck b bY rfl rfl rfl (by decide) λc A a s H E B hB hr hx hp=>(aq (cG (cA gO (adp hB.symm hr.units) (wx hB (va 2) af) (bU (aa aH (aa aH ag))) (by rfl)) (ao (aG ma)) bg) (aq (wS 3 bY.nd (wx hB (fB (n:=2) hB.symm T.aZ (aM T) T.bj (by decide) rfl (va 0)) (va 1))) (aq (wS 4 bY.nd (cl hB hr (m5 T) (aa (fB (n:=2) hB.symm T.aZ (aM T) T.bj (by decide) rfl (va 0)) (aa (cl hB hr (dn T) (aa (va 3) (aa (wx hB (va 2) af) (aa (ba br w_mul af (wx hB (va 2) af)) ag)))) ag)))) (ao (aG (cl hB hr (xh T) (aa (va 3) (aa (fB (n:=2) hB.symm T.aZ (aM T) T.bj (by decide) rfl (va 0)) (aa (va 4) (aa (wx hB (va 2) af) ag))))))))))
theorem ju:Cal P w K mg base CX0 41 "distance" ["spot"] [] (spW K 1 gc):=T.zF.dN T.mgA oJ uH λhB hr hx hp=>ao (aG (wB acO (aiJ (cm hr)) T.anj boot_max (aa (wB q9 agy T.ahl boot_abs (aa (wx hB (va 0) af) ag)) (aa (wB q9 agy T.ahl boot_abs (aa (wx hB (va 0) af) ag)) ag))))
theorem xi:Cal P w K mg base CX0 42 "drift" ["stand"] [] (spW K 1 gJ):=T.ahN.dN T.mgA p5 qf λhB hr hx hp=>aq (wS 1 qf.nd (cl hB hr (ju T) (aa (cl hB hr (fU T) (aa (va 0) ag)) ag))) (aq (wS 2 qf.nd (cl hB hr (ju T) (aa (cl hB hr (dn T) (aa (va 0) (aa af (aa af ag)))) ag))) (aq (cG (we2 hB hr.units (va 2) (va 1)) (ao (aG aH)) bg) (ao (aG (adj (cA jG w_lt (va 2) (va 1) (bz _)) aH aH)))))
theorem yY:Cal P w K mg base CX0 1 "partner" ["dancer"] [] (spW K 1 kc):=T.acC.dN T.mgA mr yC λhB hr hx hp=>ao (aG (adj (we2 hB hr.units (ba cu w_mod (va 0) af) af) (ba bf (w_add hB.symm) (va 0) af) (ba gM w_sub (va 0) af)))
theorem uW:Cal P w K mg base CX0 1 "opposite" ["dancer"] [] (spW K 1 lg):=T.zo.dN T.mgA oH uC λhB hr hx hp=>ao (aG (ba cu w_mod (ba bf (w_add hB.symm) (va 0) (ba l1 w_div (wki hB T.ij) af)) (wki hB T.ij)))
theorem ahf:Cal P w K mg base CX0 42 "sees" ["floor","dancer","test"] [] (spW K 3 xR):=T.akM.dN T.mgA aay qb λhB hr hx hp=>aq (wS 3 qb.nd (wx hB (va 0) (va 1))) (aq (wS 4 qb.nd (wx hB (va 2) af)) (aq (wS 5 qb.nd (cl hB hr (m5 T) (aa (va 0) (aa (cl hB hr (dn T) (aa (va 3) (aa (wx hB (va 2) af) (aa (wx hB (va 2) af) ag)))) ag)))) (aq (cG (we2 hB hr.units (va 4) aH) (ao (aG (ek calm_eq (w_eq hB.symm hr.units) (va 5) (cl hB hr (yY T) (aa (va 1) ag)) (bz _)))) bg) (aq (cG (we2 hB hr.units (va 4) aH) (ao (aG (ek calm_eq (w_eq hB.symm hr.units) (va 5) (cl hB hr (uW T) (aa (va 1) ag)) (bz _)))) bg) (ao (aG (cl hB hr (xh T) (aa (va 3) (aa (va 0) (aa (va 5) (aa (va 4) ag)))))))))))
theorem y4:Cal P w K mg base CX0 1 "is_head" ["dancer"] [] (spW K 1 nM):=T.acH.dN T.mgA rR yG λhB hr hx hp=>ao (aG (ek calm_eq (w_eq hB.symm hr.units) (ba cu w_mod (ba l1 w_div (va 0) af) af) af (bz _)))
theorem y3:Cal P w K mg base CX0 1 "is_left" ["dancer"] [] (spW K 1 nL):=T.acG.dN T.mgA rQ yF λhB hr hx hp=>ao (aG (ek calm_eq (w_eq hB.symm hr.units) (ba cu w_mod (va 0) af) af (bz _)))
theorem y2:Cal P w K mg base CX0 2 "is_such" ["dancer","word"] [] (spW K 2 iw):=T.acF.dN T.mgA mx yE λhB hr hx hp=>aq (cG (cA gO (adp hB.symm hr.units) (va 1) (bU (aa aH (aa aH ag))) (by rfl)) (ao (aG (ek calm_eq (w_eq hB.symm hr.units) (cl hB hr (y4 T) (aa (va 0) ag)) (ek calm_eq (w_eq hB.symm hr.units) (va 1) aH (bz _)) (bz _)))) bg) (ao (aG (ek calm_eq (w_eq hB.symm hr.units) (cl hB hr (y3 T) (aa (va 0) ag)) (ek calm_eq (w_eq hB.symm hr.units) (va 1) aH (bz _)) (bz _))))
theorem sV{f:Addr}{c:FuncData}(b:Fun K "holds" "holds" uI f c)(g:mg "holds"=some (.ref f))(e:Binds K c ["floor","dancer","test"] []):∀n:Nat,FnOk P w K mg base CX0 (42+n) f c ["floor","dancer","test"] (spW K 3 (dU n))|0=>acw b qe rfl|n+1=>have a:=sV b g e n;qY (kN (dU n)) b qe rfl rfl rfl (by decide) λh A d s H E B hB hr hx hp=>(aq (wS 3 qe.nd (wx hB (va 2) af)) (aq (cG (we2 hB hr.units (va 3) aH) (ao (aG (wh (uw hB.symm a (hr.mono (apG _)) (by rfl) g b.kp e (aa (va 0) (aa (va 1) (aa (wx hB (va 2) af) ag))) (cL (cL (cL je))))))) bg) (aq (cG (we2 hB hr.units (va 3) aH) (ao (aG (cl hB hr (ahf T) (aa (va 0) (aa (va 1) (aa (va 2) ag))) (apD (by decide) (aqo _ _))))) bg) (aq (cG (we2 hB hr.units (va 3) aH) (ao (aG (ek nV ak3 (cl hB hr (ju T) (aa (cl hB hr (fU T) (aa (wx hB (va 0) (va 1)) ag) (apD (by decide) (aqo _ _))) ag) (apD (by decide) (aqo _ _))) (wx hB (va 2) af) (bz _)))) bg) (aq (cG (cA gO (adp hB.symm hr.units) (va 3) (wk hB T.xA wU (wq T)) (by rfl)) (ao (aG (ek calm_eq (w_eq hB.symm hr.units) (cl hB hr (xi T) (aa (wx hB (va 0) (va 1)) ag) (apD (by decide) (aqo _ _))) (va 3) (bz _)))) bg) (ao (aG (cl hB hr (y2 T) (aa (va 1) (aa (va 3) ag)) (apD (by decide) (aqo _ _))))))))))
theorem ad3:Cal P w K mg base CX0 45 "holds" ["floor","dancer","test"] [] (spW K 3 (dU 3)):=T.ahM.aoU T.mgA (λ_ _ _ _ _ _ e c=>ub (λ_ _ _=>rfl) e c) λ_ _ b d a=>sV T b d a 3
theorem cS:∀n:Nat,aim P w K mg base (45+n) ax fm_PairedFloor_pair_holds "pair_holds" ["self","place","test"] (spX K 3 (au n))|0=>qF ⟨T.y1_PairedFloor_pair_holds,T.y2_PairedFloor_pair_holds,T.y3_PairedFloor_pair_holds⟩ T.cV (λ_ _ _ _ _ _ d b=>ub (λ_ _ _=>rfl) d b) λg e=>aeP|n+1=>have a:=cS n;qF ⟨T.y1_PairedFloor_pair_holds,T.y2_PairedFloor_pair_holds,T.y3_PairedFloor_pair_holds⟩ T.cV (λ_ _ _ _ _ _ d b=>ub (λ_ _ _=>rfl) d b) λg e=>qX (aV (au n)) e fD rfl rfl rfl (by decide) λf A c s H E B hB hr hx hp=>(aq (cG (we2 hB hr.units (wx hB (va 2) af) aH) (ao (aG (wh (meN hB hr hx T.aZ (aM T) a (va 0) (aa (va 1) (aa (wx hB (va 2) af) ag)) λσ ws z=>by rw[(cL (cL je)) σ ws z] (apG _))))) bg) (aq (cG (we2 hB hr.units (wx hB (va 2) af) aH) (ao (aG (meN hB hr hx T.aZ (aM T) (fW T) (va 0) (aa (va 1) (aa (va 2) ag)) λσ ws z=>by rw[(cL (cL je)) σ ws z] (apD (by decide) (aqo _ _))))) bg) (aq (cG (cA gO (adp hB.symm hr.units) (wx hB (va 2) af) (wk hB T.xA wU (wq T)) (by rfl)) (ao (aG (ek calm_eq (w_eq hB.symm hr.units) (cl hB hr (xi T) (aa (wx hB (fB (n:=2) hB.symm T.aZ (aM T) T.bj (by decide) rfl (va 0)) (va 1)) ag) (apD (by decide) (aqo _ _))) (wx hB (va 2) af) (bz _)))) bg) (ao (aG (wB q5 (w_all (cm hr) hB.symm) T.ahk boot_all (aa (eV (ts:=["dancer"]) ⟨rfl,rfl,rfl,rfl,rfl⟩ (cm hr) rfl (bB (by decide)) (gU hB.symm (wx hB (fB (n:=1) hB.symm T.aZ (aM T) T.bH (by decide) rfl (va 0)) (va 1))) (λ_ _ _ _=>gN 0) (λ_ _ _ _=>eU) λ_ _ _ _=>(cl hB hr (ad3 T) (aa (fB (n:=0) hB.symm T.aZ (aM T) T.eG (by decide) rfl (va 1)) (aa (va 0) (aa (va 3) ag))) (apD (by decide) (aqo _ _)))) ag)))))))
theorem fG:aim P w K mg base 48 ax fm_PairedFloor_pair_holds "pair_holds" ["self","place","test"] (spX K 3 (au 3)):=cS T 3
theorem fF:aim P w K mg base 49 ax fm_PairedFloor_pair_steps "pair_steps" ["self","place","call"] (spX K 3 bq):=qF ⟨T.y1_PairedFloor_pair_steps,T.y2_PairedFloor_pair_steps,T.y3_PairedFloor_pair_steps⟩ T.fJ (λ_ _ _ _ _ _ e d=>ub (λ_ _ _=>rfl) e d) λf b=>qX bW b cU rfl rfl rfl (by decide) λc A a s H E B hB hr hx hp=>(aq (i1 hp (cm hr) (gU hB.symm (va 2)) (gN 3 cU.nd) (show PSs _ _ (loS _ K54.aO)from(ao (cG (fP (wB q5 (w_all (cm hr) hB.symm) T.ahk boot_all (aa (adk rfl rfl hB.symm hx (ts:=["test"]) ⟨rfl,rfl,rfl,rfl,rfl⟩ (cm hr) rfl (bB (by decide)) (gU hB.symm (wx hB (va 3) af)) (λ_ _ _ _ _ B hB hx=>gN 0) (λ_ _ _ _ _ B hB hx=>eU) λ_ _ _ _ _ B hB hx=>meN hB hr hx T.aZ (aM T) (fG T) (va 1) (aa (va 2) (aa (va 0) ag)) λσ ws z=>by rw[(cL (cL je)) σ ws z]) ag))) (ao (aG (wx hB (va 3) af))) bg)))) (ao (rI hB hr hx (cm hr) T.abD T.aa3 T.adM (qz T) T.vA (aa (wx hB (wx hB (fB (n:=1) hB.symm T.aZ (aM T) T.bH (by decide) rfl (va 0)) (va 1)) af) ag))))
theorem m8:Cal P w K mg base CX0 2 "stand_behind" ["stand","step"] [] (spW K 2 cW):=T.ov.dN T.mgA dY eY λhB hr hx hp=>aq (cG (we2 hB hr.units (wx hB (va 1) af) aH) (ao (aG (bU (aa (wx hB (va 0) af) (aa (wx hB (va 0) af) (aa (cl hB hr (gZ T) (aa (wx hB (va 0) af) (aa (wx hB (va 1) af) ag))) ag)))))) bg) (aq (wS 2 eY.nd (gx hB T.aef T.adu (adq T) (wx hB (va 1) af))) (aq (wS 3 eY.nd (cl hB hr (dn T) (aa (va 0) (aa (ba br w_mul (wx hB (va 2) af) (wx hB (va 1) af)) (aa (ba br w_mul (wx hB (va 2) af) (wx hB (va 1) af)) ag))))) (ao (aG (bU (aa (wx hB (va 3) af) (aa (wx hB (va 3) af) (aa (wx hB (va 0) af) ag))))))))
theorem abr:Cal P w K mg base CX0 41 "way_of" ["stand","steps"] [] (spW K 2 iO):=T.aeU.dN T.mgA lW mC λhB hr hx hp=>(aq (uu (i:=2) mC.nd rfl (Or.inl rfl) (wb (aa (va 0) ag))) (aq (i1 hp (cm hr) (gU hB.symm (va 1)) (gN 3 mC.nd) (show PSs _ _ (loS _ K54.eP)from(ao (cG (wn2 hB hr.units (wx hB (va 3) af) aH) (ao (afe hB.symm (jm (yO aqD arH arI nu (pv 2) (bM (aak (i:=2) (cl hB hr (m8 T) (aa (wx hB (va 2) (kA cR kC af)) (aa (va 3) ag)))) eF))))) bg)))) (ao (v8 (i:=2) (aG (va 2))))))
theorem yX:Cal P w K mg base CX0 1 "widened" ["step"] [] (spW K 1 f6):=T.acz.dN T.mgA mq yA λhB hr hx hp=>ao (aG (adj (cA gO (adp hB.symm hr.units) (wx hB (va 0) af) (bU (aa aH (aa aH ag))) (by rfl)) (bU (aa (wx hB (va 0) af) (aa (ba br w_mul af (wx hB (va 0) af)) ag))) (va 0)))
theorem u7:Cal P w K mg base (CXX P w) 42 "floor_of" ["stands"] [] (spX K 1 cQ):=T.zE.dX T.mgA iG mH λhB hr hx hp=>aq (wS 1 mH.nd (cl hB hr (g0 T) (aa (va 0) ag))) (aq (cG (cA iS pV (va 1) jL (bz _)) (ao (rI hB hr hx (cm hr) T.afU T.afx T.agY (sU T) T.acr (aa (wx hB (va 1) af) (aa (wx hB (va 1) af) ag)))) bg) (ao (aG (wT lu (md hB.symm) T.fH aq3 (aa (va 0) ag)))))
theorem nj:Cal P w K mg base CX0 1 "is_whole" ["thing"] [] (spW K 1 f7):=T.zA.dN T.mgA iF uE λhB hr hx hp=>ao (aG (lE (wB bG (cZ hB.symm) T.aB apS (aa (va 0) (aa (wty T.aby boot_int) ag))) (l9 (wh (wB bG (cZ hB.symm) T.aB apS (aa (va 0) (aa (wty T.afS boot_bool) ag)))))))
theorem nk:Cal P w K mg base CX0 2 "is_place" ["thing"] [] (spW K 1 gb):=T.zC.dN T.mgA kM uG λhB hr hx hp=>ao (aG (lE (cl hB hr (nj T) (aa (va 0) ag)) (l9 (wj nV nV ak3 ak3 (kA cR kC (wki hB T.pG)) (va 0) (wki hB T.pG)))))
theorem sT:Cal P w K mg base CX0 2 "is_facing" ["thing"] [] (spW K 1 gI):=T.vK.dN T.mgA jh r0 λhB hr hx hp=>ao (aG (lE (cl hB hr (nj T) (aa (va 0) ag)) (l9 (wj nV jG ak3 w_lt af (va 0) (wB dF (me hB.symm) T.nt aqx (aa (wk hB T.abB aa1 (aar T)) ag))))))
theorem u4:Cal P w K mg base CX0 3 "is_stand" ["thing"] [] (spW K 1 f9):=T.zB.dN T.mgA kL uF λhB hr hx hp=>aq (cG (PW.pt (aac (oD (fP (wB bG (cZ hB.symm) T.aB apS (aa (va 0) (aa (wty T.fH aq3) ag))))) (vZ (wn2 hB hr.units (wB dF (me hB.symm) T.nt aqx (aa (va 0) ag)) af)))) (ao (aG ma)) bg) (ao (aG (lE (cl hB hr (nk T) (aa (wx hB (va 0) af) ag)) (lE (cl hB hr (nk T) (aa (wx hB (va 0) af) ag)) (l9 (cl hB hr (sT T) (aa (wx hB (va 0) af) ag)))))))
theorem y1:Cal P w K mg base (CXX P w) 41 "kept_in" ["told"] [] (spX K 1 iv):=T.acE.dX T.mgA jN kO λhB hr hx hp=>(aq (i1 hp (cm hr) (uv hB.symm (by rfl) T.jw (va 0)) (oF hB.symm (cm hr) (cM (gN 1 kO.nd) (cM (gN 2 kO.nd) kz)) rfl (dQ (dQ pK)) ip) (show PSs _ _ (loS _ K54.cJ)from(ao (cG (oD (fP (wB q5 (w_all (cm hr) hB.symm) T.ahk boot_all (aa (eV (ts:=["stand"]) ⟨rfl,rfl,rfl,rfl,rfl⟩ (cm hr) rfl (bB (by decide)) (gU hB.symm (aai (aiI hB.symm) (va 2) (l7 af) l8)) (λ_ _ _ _=>gN 0) (λ_ _ _ _=>eU) λ_ _ _ _=>cl hB hr (u4 T) (aa (va 0) ag)) ag)))) (ao (rI hB hr hx (cm hr) T.ajV T.ajd T.ajc (u6 T) T.ahF (aa (va 1) ag))) bg)))) (ao (aG (va 0))))
theorem j4:Cal P w K mg base (CXX P w) 50 "danced_by_pairs" ["floor","call"] [] (spX K 2 aX):=T.ll.dX T.mgA bK bw λhB hr hx hp=>(aq (wS 2 bw.nd (mkN hB hr hx (oi T) (aM T) (oh T) T.aZ (n8 T) T.qH (aa (va 0) ag))) (aq (ac9 (iN:=3) bw.nd rfl rfl (by rfl) rfl rfl hB.symm hx (ts:=["place"]) ⟨rfl,rfl,rfl,rfl,rfl⟩ (cm hr) rfl (bB (by decide)) (jf (by rfl) T.cT (wB dF (me hB.symm) T.nt aqx (aa (fB (n:=1) hB.symm T.aZ (aM T) T.bH (by decide) rfl (va 2)) ag))) (λ_ _ _ _ _ B hB hx=>gN 0) (λ_ _ _ _ _ B hB hx=>eU) λ_ _ _ _ _ B hB hx=>meN hB hr hx T.aZ (aM T) (fF T) (va 3) (aa (va 0) (aa (va 2) ag)) λσ ws z=>by rw[(cL (cL je)) σ ws z]) (aq (ada (i:=4) bw.nd rfl rfl (by rfl) (ts:=["dancer"]) ⟨rfl,rfl,rfl,rfl,rfl⟩ (cm hr) rfl (bB (by decide)) (jf (by rfl) T.cT (wki hB T.ij)) (λ_ _ _ _=>gN 0) (λ_ _ _ _=>eU) λ_ _ _ _=>cw ag) (aq (i1 hp (cm hr) (uv hB.symm (by rfl) T.jw (fB (n:=1) hB.symm T.aZ (aM T) T.bH (by decide) rfl (va 2))) (oF hB.symm (cm hr) (cM (gN 5 bw.nd) (cM (gN 6 bw.nd) kz)) rfl (dQ (dQ pK)) ip) (show PSs _ _ (loS _ K54.bA)from(aq (wS 7 bw.nd (cl hB hr (abr T) (aa (wx hB (fB (n:=2) hB.symm T.aZ (aM T) T.bj (by decide) rfl (va 2)) (va 5)) (aa (eV (ts:=["step"]) ⟨rfl,rfl,rfl,rfl,rfl⟩ (cm hr) rfl (bB (by decide)) (gU hB.symm (wx hB (va 3) (va 5))) (λ_ _ _ _=>gN 0) (λ_ _ _ _=>eU) λ_ _ _ _=>cl hB hr (yX T) (aa (va 0) ag)) ag)))) (aq (v9 (eV (ts:=["middle"]) ⟨rfl,rfl,rfl,rfl,rfl⟩ (cm hr) rfl (bB (by decide)) (gU hB.symm (va 7)) (λ_ _ _ _=>gN 0) (λ_ _ _ _=>eU) λ_ _ _ _=>cl hB hr (nq T) (aa (va 0) (aa (kA cR kC af) ag))) (afg (pv 4) (wx hB (va 6) af)) af1) (ao (v9 (eV (ts:=["middle"]) ⟨rfl,rfl,rfl,rfl,rfl⟩ (cm hr) rfl (bB (by decide)) (gU hB.symm (va 7)) (λ_ _ _ _=>gN 0) (λ_ _ _ _=>eU) λ_ _ _ _=>cl hB hr (nq T) (aa (va 0) (aa af ag))) (afg (pv 4) (wx hB (va 6) af)) af1)))))) (ao (v8 (i:=4) (aG (clX hB hr hx (u7 T) (aa (eV (ts:=["way"]) ⟨rfl,rfl,rfl,rfl,rfl⟩ (cm hr) rfl (bB (by decide)) (gU hB.symm (clX hB hr hx (y1 T) (aa (va 4) ag))) (λ_ _ _ _=>gN 0) (λ_ _ _ _=>eU) λ_ _ _ _=>wx hB (va 0) (kA cR kC af)) ag)))))))))
theorem lJ:Cal P w K mg base CX0 1 "_law_class" ["_law_e"] [] (spW K 1 di):=T.vJ.dN T.mgA mw fo λhB hr hx hp=>aq (wS 1 fo.nd (cw (aa (wB de (lQ hB.symm T.xs) T.aB apS (aa (va 0) (aa (wcl hB T.abD T.vA) ag))) (aa (wB de (lQ hB.symm T.xs) T.aB apS (aa (va 0) (aa (wcl hB T.ajV T.ahF) ag))) (aa (wB de (lQ hB.symm T.xs) T.aB apS (aa (va 0) (aa (wcl hB T.afU T.acr) ag))) (aa (wB de (lQ hB.symm T.xs) T.aB apS (aa (va 0) (aa (wcl hB T.ny T.nO) ag))) ag)))))) (aq (wS 2 fo.nd (cw (aa (wB de (lQ hB.symm T.xs) T.aB apS (aa (va 0) (aa (wcl hB T.aeg T.aeN) ag))) (aa (wB de (lQ hB.symm T.xs) T.aB apS (aa (va 0) (aa (wcl hB T.aee T.aeM) ag))) (aa (wB de (lQ hB.symm T.xs) T.aB apS (aa (va 0) (aa (wcl hB T.aed T.aeL) ag))) (aa (wB de (lQ hB.symm T.xs) T.aB apS (aa (va 0) (aa (wcl hB T.vi T.vz) ag))) ag)))))) (aq (wS 2 fo.nd (ba bf (w_add hB.symm) (va 2) (cw (aa (wB de (lQ hB.symm T.xs) T.aB apS (aa (va 0) (aa (wcl hB T.aho T.ahG) ag))) (aa (wB de (lQ hB.symm T.xs) T.aB apS (aa (va 0) (aa (wcl hB T.abC T.acq) ag))) (aa (wB de (lQ hB.symm T.xs) T.aB apS (aa (va 0) (aa (wcl hB T.abA T.acp) ag))) ag)))))) (aq (cG (PW.pt (aac (wn2 hB hr.units (ade hB.symm hr.units (va 1) (aa ma ag)) af) (aac (cA gO (adp hB.symm hr.units) ma (va 2) (by rfl)) (vZ (oD (fP (wB de (lQ hB.symm T.xs) T.aB apS (aa (va 0) (aa (wty T.sY nY) ag))))))))) (ao (aG (cw (aa aH ag)))) bg) (aq (cG (fP (wx hB (va 1) af)) (ao (aG (cw (aa aH ag)))) bg) (aq (cG (fP (wx hB (va 1) af)) (ao (aG (cw (aa aH (aa (aaj hB.symm T.xs T.akC (va 0) rfl) (aa (aaj hB.symm T.xs T.aeH (va 0) rfl) ag)))))) bg) (ao (aG (cw (aa (wx hB (cw (aa aH (aa aH ag))) (wT tT aaq T.aby boot_int (aa (wx hB (va 1) af) ag))) (aa (aaj hB.symm T.xs T.akB (va 0) rfl) ag))))))))))
theorem ng:Cal P w K mg base CX0 51 "_law_told" ["_law_floor_here","_law_call_here"] [] (spW K 2 cb):=T.zq.dN T.mgA dI eZ λhB hr hx hp=>(aq (wS 2 eZ.nd jL) (aq (v7 (tb:=K54.cH) (th:=K54.dj) (i:=3) hB.symm rfl rfl eZ.nd rfl rfl (by rfl) T.el (λc a h=>T.xs.ex c a _ _ h T.lM) (λ_ _ B hB hx hp=>ao (wS 2 eZ.nd (clX hB hr hx (j4 T) (aa (va 0) (aa (va 1) ag))))) λb B hB hx=>have hr:=hr.sui (v:=some (.ref b)) (by decide);ao (wS 2 eZ.nd (cl hB hr (lJ T) (aa (va 3) ag)))) (ao (aG (va 2)))))
theorem sQ:Cal P w K mg base CX0 1 "_law_whole" ["_law_found"] [] (spW K 1 nK):=T.vG.dN T.mgA mu rY λhB hr hx hp=>ao (aG (lE (wB bG (cZ hB.symm) T.aB apS (aa (va 0) (aa (wty T.aby boot_int) ag))) (l9 (wh (wB bG (cZ hB.symm) T.aB apS (aa (va 0) (aa (wty T.afS boot_bool) ag)))))))
theorem lK{f:Addr}{c:FuncData}(b:Fun K "_law_same" "_law_same" kP f c)(g:mg "_law_same"=some (.ref f))(e:Binds K c ["_law_found","_law_due"] []):∀n:Nat,FnOk P w K mg base CX0 (40+n) f c ["_law_found","_law_due"] (spW K 2 (aR n))|0=>acw b gB rfl|n+1=>have a:=lK b g e n;qY (iD (aR n)) b gB rfl rfl rfl (by decide) λh A d s H E B hB hr hx hp=>(aq (cG (fP (wB tS (aap hB.symm) T.aB apS (aa (va 1) (aa (bU (aa (wty T.xx boot_list) (aa (wty T.fH aq3) ag))) ag)))) (aq (cG (PW.pt (aac (wn2 hB hr.units (wB bG (cZ hB.symm) T.aB apS (aa (va 0) (aa (wty T.xx boot_list) ag))) (wB bG (cZ hB.symm) T.aB apS (aa (va 1) (aa (wty T.xx boot_list) ag)))) (vZ (wn2 hB hr.units (wB bG (cZ hB.symm) T.aB apS (aa (va 0) (aa (wty T.fH aq3) ag))) (wB bG (cZ hB.symm) T.aB apS (aa (va 1) (aa (wty T.fH aq3) ag))))))) (ao (aG ma)) bg) (aq (cG (wn2 hB hr.units (wB dF (me hB.symm) T.nt aqx (aa (va 0) ag)) (wB dF (me hB.symm) T.nt aqx (aa (va 1) ag))) (ao (aG ma)) bg) (aq (i1 hp (cm hr) (aiC hB.symm (by rfl) T.ani (va 0) (va 1)) (oF hB.symm (cm hr) (cM (gN 2 gB.nd) (cM (gN 3 gB.nd) kz)) rfl (dQ (dQ pK)) ip) (show PSs _ _ (loS _ (K54.fu (K54.aR n)))from ao (cG (oD (fP (uw hB.symm a (hr.mono (apG _)) (by rfl) g b.kp e (aa (va 2) (aa (va 3) ag)) (cL (cL je))))) (ao (aG ma)) bg))) (ao (aG ma))))) bg) (aq (cG (fP (wB bG (cZ hB.symm) T.aB apS (aa (va 1) (aa (wty T.ajP boot_str) ag)))) (ao (aG (lE (wB bG (cZ hB.symm) T.aB apS (aa (va 0) (aa (wty T.ajP boot_str) ag))) (l9 (ek calm_eq (w_eq hB.symm hr.units) (va 0) (va 1) (bz _)))))) bg) (ao (aG (lE (cl hB hr (sQ T) (aa (va 0) ag) (apD (by decide) (aqo _ _))) (l9 (ek calm_eq (w_eq hB.symm hr.units) (va 0) (va 1) (bz _))))))))
theorem nh:Cal P w K mg base CX0 43 "_law_same" ["_law_found","_law_due"] [] (spW K 2 (aR 3)):=T.zv.aoU T.mgA (λ_ _ _ _ _ _ e c=>ri (λ_ _=>rfl) e c) λ_ _ b d a=>lK T b d a 3
theorem m6:Cal P w K mg base CX0 1 "turned_stand" ["stand"] [] (spW K 1 ee):=T.ou.dN T.mgA i3 mD λhB hr hx hp=>ao (aG (bU (aa (kA cR kC (wx hB (va 0) af)) (aa (wx hB (va 0) af) (aa (ba cu w_mod (ba bf (w_add hB.symm) (wx hB (va 0) af) af) (wki hB T.k9)) ag)))))
theorem m7:Cal P w K mg base CX0 41 "turned" ["floor","quarters"] [] (spW K 2 dD):=T.aeV.dN T.mgA p0 jQ λhB hr hx hp=>(aq (wS 2 jQ.nd (va 0)) (aq (i1 hp (cm hr) (jf (by rfl) T.cT (ba cu w_mod (va 1) (wki hB T.k9))) (gN 3 jQ.nd) (show PSs _ _ (loS _ K54.iL)from(ao (wS 2 jQ.nd (wT lu (md hB.symm) T.fH aq3 (aa (eV (ts:=["stand"]) ⟨rfl,rfl,rfl,rfl,rfl⟩ (cm hr) rfl (bB (by decide)) (gU hB.symm (va 2)) (λ_ _ _ _=>gN 0) (λ_ _ _ _=>eU) λ_ _ _ _=>cl hB hr (m6 T) (aa (va 0) ag)) ag)))))) (ao (aG (va 2)))))
theorem fV:Cal P w K mg base CX0 44 "_law_pairs_told" ["_law_floor_here"] [] (spW K 1 bO):=T.lU.dN T.mgA da bX λhB hr hx hp=>(aq (wS 1 bX.nd (cw ag)) (aq (v7 (tb:=K54.cB) (th:=K54.dA) (i:=2) hB.symm rfl rfl bX.nd rfl rfl (by rfl) T.el (λc a h=>T.xs.ex c a _ _ h T.lM) (λ_ _ B hB hx hp=>ao (wS 1 bX.nd (clX hB hr hx (m9 T) (aa (va 0) ag)))) λb B hB hx=>have hr:=hr.sui (v:=some (.ref b)) (by decide);ao (wS 1 bX.nd (cl hB hr (lJ T) (aa (va 2) ag)))) (ao (aG (va 1)))))
theorem ajK{f:Addr}{b:FuncData}(d:Fun K "law" "law" agQ f b):FnOk P w K mg base CX0 52 f b ["_law_script"] (spW K 1 aeI):=qY aaz d jR rfl rfl rfl (by decide) λc A a s H E B hB hr hx hp=>(agh (j:=1) hB hr (uZ T) jR.nd rfl (Or.inl rfl) (aa (va 0) ag) λz=>aw (yS 2 jR.nd (clY hB hr (yZ T) (pv 1) aS)) (aw (zZ hp (cm hr) (by rfl) T.cT (clY hB hr (ay T) (pv 1) (az (bx af) aS)) (gP 3 jR.nd) (show PSs _ _ (loW _ _ _ K54.jz)from aw (yS 4 jR.nd (clY hB hr (sS T) (pv 1) (az (bx (va 2)) aS))) (aw (yS 5 jR.nd (g8 w_sub (clY hB hr (ay T) (pv 1) (az (bx af) aS)) (bx af))) (aw (iW (zX (oD (fP (cl hB hr (nh T) (aa (cl hB hr (fV T) (aa (cl hB hr (m7 T) (aa (va 4) (aa (va 5) ag))) ag)) (aa (cl hB hr (fV T) (aa (va 4) ag)) ag)))))) (bt (fj (bx ma))) df) (aw (yS 6 jR.nd (clY hB hr (u3 T) (pv 1) aS)) (aw (yS 7 jR.nd (bx (cl hB hr (ng T) (aa (va 4) (aa (va 6) ag))))) (aw (iW (zX (fP (wB bG (cZ hB.symm) T.aB apS (aa (va 7) (aa (wty T.fH aq3) ag))))) (bt (yS 7 jR.nd (bx (cl hB hr (m7 T) (aa (va 7) (aa (va 5) ag)))))) df) (bt (iW (zX (oD (fP (cl hB hr (nh T) (aa (cl hB hr (ng T) (aa (cl hB hr (m7 T) (aa (va 4) (aa (va 5) ag))) (aa (va 6) ag))) (aa (va 7) ag)))))) (bt (fj (bx ma))) df))))))))) (bt (fj (bx ma)))))
theorem all_mk(a:∀d:List Int,d.length<=63->aeI [.lst (d.map .int)]=.ok (.bl true)){l:W.OpenLaw}{c:Addr}(b:mg "law"=some (.ref c)):∃e:FuncData,(∀(s:Shared)(v:Value),BindsTo s e ⟨[v],[]⟩ [("_law_script",v)])/\∀base:Heap,K.In base->base.Ns mainGlobals mg->FnOk l.prog w K mg base CX0 52 c e ["_law_script"] (WS.aaJ K):=aj2 T.anV T.mgA b (λ_ _ _ _ _ _ _=>rfl) (λ_ _ _ f=>ajK T f) a
omit T
def walk{l:W.OpenLaw}{v:Program}{b:List Str}{p:(Str->Option Value)->Heap->Prop}{i:World->Heap->Prop}{d:DefRec}{K:Params->W.Frag}(m:l.most=some 63)(c:d.params.defaults=[])(q:∀(w:World)(h:Heap),i w h->(K w.params).In h)(F:∀(w:World)(mg:Str->Option Value)(e:Addr)(h:Heap),(K w.params).In h->h.Ns mainGlobals mg->mg d.name=some (.ref e)->∃g:FuncData,(∀(s:Shared)(u:Value),BindsTo s g ⟨[u],[]⟩ [("_law_script",u)])/\∀base:Heap,(K w.params).In base->base.Ns mainGlobals mg->FnOk l.prog w (K w.params) mg base CX0 52 e g ["_law_script"] (WS.aaJ (K w.params))):W.WalkO v b p i l.row.toRowW d [] λf j=>PySem.call f j:=L2.agv (n:=63) (k:=52) (x:="_law_script") (CX:=λ_=>CX0) (sp:=λw=>WS.aaJ (K w.params)) m (by decide) c ⟨λ_=>rfl,by decide,by decide,rfl⟩ q F (λ_ _ a r o _ t=>⟨a,r,rfl,t,o,λ_=>rfl⟩) λ_ _ _ _ _ z=>z
end K54
open PySem PySem.W PyProof.Rows
set_option maxRecDepth 100000 in
set_option maxHeartbeats 0 in
theorem PySem.Challenge.cw_squarecall_k54_whole_pairs_turned_about_holds : PySem.Challenge.rw_squarecall_k54_whole_pairs_turned_about.Holds := by
 w_on;o_law;k_head;(case hw=>w_witness2)
 k_fill
 refine K54.walk (l:=PySem.Challenge.rw_squarecall_k54_whole_pairs_turned_about) rfl rfl (λw h Y=>W.kIn_of Y) ?F
 case F =>
 intro w mg fa h KX G hmg
 refine' K54.all_mk ?T K54.aeo hmg
 case T =>
  constructor<;>first|(exact WS.an3 (by k_is) (by k_is) (by k_is) (by k_is))|(exact WS.ai1 (by k_is) (by repeat first|exact .nil|exact .cons rfl .nil|exact .cons ⟨_,rfl⟩ .nil|refine .cons rfl ?_|refine .cons ⟨_,rfl⟩ ?_) (by decide))|(exact WS.ack (tab:=[("FloorError",_),("NotEven",_),("NoCall",_),("NoName",_),("NoProgram",_),("TooMany",_),("NoPairs",_),("NoRow",_),("Blind",_),("Out",_),("Meet",_),("Broken",_)]) (.head _) (by(refine WS.all_cons (WS.aeJ (by first|k_is|exact rfl) (by first|k_is|exact rfl) (by first|k_is|exact rfl) (by first|k_is|exact rfl) (by first|k_is|exact rfl) (by first|k_is|exact rfl)) ?_);(iterate 11 (refine WS.all_cons (WS.ahC (by first|k_is|exact rfl) (by first|k_is|exact rfl) (by first|k_is|exact rfl) (by first|k_is|exact rfl) (by first|k_is|exact rfl) (by first|k_is|exact rfl)) ?_));exact WS.all_nil) (λ_ h=>.inl (by simpa [WL.l0] using h)) (show (["FloorError","NotEven","NoCall","NoName","NoProgram","TooMany","NoPairs","NoRow","Blind","Out","Meet","Broken"]:List String).Nodup from by decide) (by decide) (by first|k_is|exact rfl) (by first|k_is|exact rfl))|(exact WS.aoL (WS.fK (by decide)) (WS.fK (by decide)) (WS.fK (by decide)) (WS.fK (by decide)) (WS.fK (by decide)) (WS.fK (by decide)) (WS.fK (by decide)) (WS.fK (by decide)) (WS.fK (by decide)) (WS.fK (by decide)) (WS.acg (by first|k_is|exact rfl) (by first|k_is|exact rfl) (by first|k_is|exact rfl)) (WS.fK (by decide)))|(exact WS.aoL (WS.fK (by decide)) (WS.fK (by decide)) (WS.fK (by decide)) (WS.fK (by decide)) (WS.fK (by decide)) (WS.fK (by decide)) (WS.fK (by decide)) (WS.fK (by decide)) (WS.acg (by first|k_is|exact rfl) (by first|k_is|exact rfl) (by first|k_is|exact rfl)) (WS.acg (by first|k_is|exact rfl) (by first|k_is|exact rfl) (by first|k_is|exact rfl)) (WS.fK (by decide)) (WS.fK (by decide)))|(exact WS.akh (by k_is) (by k_is) (by k_is))|(exact WS.ajU (by k_is) (by k_is) (by k_is))|(exact λ_ _=>W.mg_of KX G)|(refine W.mg_of KX G ?_;k_is)|(refine W.mg_none_of KX G ?_;k_is)|(exact⟨_,_,by k_is,by exact .cons ⟨⟨_,rfl⟩,rfl,⟨_,rfl⟩⟩ (.cons ⟨⟨_,rfl⟩,rfl,⟨_,rfl⟩⟩ (.cons ⟨⟨_,rfl⟩,rfl,⟨_,rfl⟩⟩ (.cons ⟨⟨_,rfl⟩,rfl,⟨_,rfl⟩⟩ (.nil))))⟩)|(exact⟨_,_,by k_is,by exact .cons ⟨⟨_,rfl⟩,rfl,rfl⟩ (.cons ⟨⟨_,rfl⟩,rfl,rfl⟩ (.cons ⟨⟨_,rfl⟩,rfl,rfl⟩ (.cons ⟨⟨_,rfl⟩,rfl,rfl⟩ (.nil))))⟩)|(refine⟨by decide,?_⟩;k_is)|(exact L2.rD.mk (by k_is) (by kernel_rfl))|(show W.findIn _ _ _=_;first|k_is|exact rfl)|(first|kernel_rfl|exact rfl)|(k_is)|(exact rfl)

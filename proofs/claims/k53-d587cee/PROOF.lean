import PyProof.Rows.All
import Wide.All
import OpenK.AllK
import Wide.FinOn
import Lean
import PyProof.EqAt
import PyProof.EqKinds
import PyProof.TupleCall
import KE.KRevIter
import KE.KTryMore
import KE.KSortTup
import KE.KDictList
import KE.KEqDict
import KE.KDictSum
import KE.KIntText
import PySem.Challenge.RW_squarecall_k53_whole_pairs_move_as_dance
set_option linter.all false
open PySem renaming wpAny_bind->anE,wpAny_pure->anO,wpAny_field->an8,wpAny_mono->an9,mem_of_lookup->aop,wpAny_setField_rec->aov,wpAny_callSpecial?_slot->aoA,boot_len->aoE,wpAny_holding->aoN,wpAny_call_entry->aoQ,wpAny_Call_Name_kw->ao2,wpAny_passesOwn->ao4,wpAny_truthy_bool->ao8,wpAny_seqItems->apb,wpAny_comprehension_free->apc,plainObj_wpAny_Assign_Attribute->apg,wpAny_standAt->apj,wpAny_call->apt,wpAny_attempt->apy,wpAny_execs_nil->apz,codeAny_mono->apC,wpAny_pyIter_tuple->apF,wpAny_setField->apJ,wpAny_newObj_type->apM,wpAny_pyIter_enum->apN,wpAny_pyIter_list->apO,sizeLine_eq->apP,codeAny_call_builtin->ap2,wpAny_loadPart->ap9,wpAny_letOwnedTupleGo_enum->aqh,wpAny_assign_Name->aqk,wpAny_loadPart_at->aqo,wpAny_rule->aqq,wpAny_eqBool_int->aqt,wpAny_lookBehind->aqu,pastItsLine_dict->aqv,concat_meets->aqy,noFill_tuple_add->aqz,typeIs_none->aqO,refuseLoop_ref->aqQ,call_meets->aqT
open List renaming getElem?_set_ne->anF,getElem?_set_self->anH,getD_eq_getElem?_getD->anI,getElem?_eq_getElem->anJ,getElem?_eq_some_iff->anM,mem_cons->anS,mem_cons_of_mem->anU,length_cons->anV,mem_append_right->anZ,length_map->an0,mem_range->an1,mem_cons_self->an2,getElem?_map->an7,map_cons->aoa,mem_append_left->aob,size_toArray->aod,length_append->aoh,append_nil->aom,lookup_cons->aon,not_mem_nil->aoo,getElem?_replicate->aor,getElem?_append_right->aos,mem_append->aou,getElem?_append_left->aow,all_eq_true->aoB,mem_map->aoD,nodup_cons->aoF,set_cons_zero->aoH,set_cons_succ->aoI,getElem?_drop->aoJ,idxOf_lt_length_of_mem->aoK,getElem?_range->aoL,map_map->aoM,set_comm->aoP,mem_singleton->aoT,drop_eq_getElem_cons->aoU,mem_filter->aoV,getElem_mem->ao1,pairwise_iff_getElem->ao9,getElem_of_mem->ape,mem_map_of_mem->apf,getElem?_cons_succ->api,length_range->apm,length_replicate->apn,length_singleton->apo,getElem?_eq_none->apr,drop_length->apv,nodup_range->apw,map_append->apA,mem_filterMap->apB,set_set->apH,length_eq_zero_iff->apL,filter_cons->apV,mem_of_getElem?->apY,length_set->ap0,filterMap_cons->ap7,all_cons->aqi,getElem?_eq_none_iff->aqs,length_take->aqx,countP_cons->aqC,ext_getElem->aqF,of_mem_zip->aqJ,forIn_cons->aqK,length_nil->aqL,nil_append->aqM,drop_zero->aqR
open PySem.Heap renaming get?_push_of_some->anG,lt_size->anR,get?_push_size->anT,get?_none_of_le->aoj,get?_update_other->aok,get?_update_self->aoS,size_push->aoZ
open Nat renaming lt_of_lt_of_le->anN,le_refl->anP,le_trans->anQ,ne_of_lt->anW,ne_of_gt->aoc,zero_le->aoi,not_lt_zero->aoG,lt_irrefl->aoX,lt_succ_self->ao0,lt_of_le_of_lt->ao3,lt_of_lt_of_eq->apE,min_le_right->apT,le_of_lt->apX,le_succ->aqb,lt_trichotomy->aqp,lt_or_ge->aqA,le_add_right->aqB,zero_add->aqE
open Ne renaming symm->anY
open Option.some renaming inj->an3,injEq->aqj
open PyProof.Rows renaming boot_isinstance->an4,callWith_type1->aoq,formatField_str->aoz,slot_tuple_getitem->aph,boot_tuple->apx,callWith_builtin1->apZ,boot_range->aqS
open Bool renaming false_ne_true->an5,and_eq_true->an6,eq_iff_iff->aof,and_eq_true_iff->aoC,beq_eq_decide_eq->aps,or_eq_true->ap4
open Option renaming map_eq_some_iff->aol,isSome_iff_exists->aoy,bind_some->apu,map_some->aqI
open Prod.mk renaming injEq->aot
open PySem.F renaming excBase_ValueError->aoO,plainAttrs_list->aoY,slot_NoneType_hash->ao5,slot_tuple_iterator_next->ao6,slot_enumerate_next->apq,args_tuple_add_2->apD,entry_tuple_add->apK,slot_tuple_add->apQ,slot_zip_next->ap3,args_tuple_iterator_next_1->aqa,entry_tuple_iterator_next->aqd,slot_dict_getitem->aqr,slot_list_append->aqG,type_list_append->aqH
open PySem.W renaming kia_one->aoR,looks_clsIn->aqg,callWith_K->aqw,kitx_list->aqP
open Array renaming getElem?_eq_some_iff->ao7,length_toList->ap8,find?_toList->aqc
open PySem.Obj renaming data_mapFields->apl,isFreed_of_fields->apW
open Nat.succ renaming inj->apG
open Int renaming emod_lt_of_pos->apI,zero_add->ap5,emod_nonneg->ap6,sub_eq_add_neg->aqe,toNat_natCast->aqn,mul_comm->aqD
open PySem.Str renaming ofString_eq_toList->apR
open PySem.Calls renaming evalArgs_plain->ap1,Name_function_global->aqf
open PySem.Within renaming cons->aql
open PySem.Heap.Ns1 renaming of_empty->aqm
open List.cons renaming injEq->aqN
def anK:=@if_neg
def anL:=@if_pos
def aoe:=@decide_eq_false
def aog:=@decide_eq_true_eq
def aox:=@beq_eq_false_iff_ne
def aoW:=@beq_iff_eq
def apa:=@decide_eq_true
def apk:=@if_true
def apS:=@congrArg
def apU:=@or_false
noncomputable section
set_option compiler.extract_closed false
set_option tactic.hygienic false
set_option autoImplicit true
set_option relaxedAutoImplicit true
def aeq{p q r:Prop}{C:Prop}(h:p/\q/\r)(K:p->q->r->C):C:=let⟨h0,h1,h2⟩:=h;K h0 h1 h2
def aj5{p q r s:Prop}{C:Prop}(h:p/\q/\r/\s)(K:p->q->r->s->C):C:=let⟨h0,h1,h2,h3⟩:=h;K h0 h1 h2 h3
def ajg{p q r s t:Prop}{C:Prop}(h:p/\q/\r/\s/\t)(K:p->q->r->s->t->C):C:=let⟨h0,h1,h2,h3,h4⟩:=h;K h0 h1 h2 h3 h4
def fy{p q:α->Prop}{C:Prop}(h:∃a,p a/\q a)(K:∀a,p a->q a->C):C:=let⟨a,h0,h1⟩:=h;K a h0 h1
def je{p q r:α->Prop}{C:Prop}(h:∃a,p a/\q a/\r a)(K:∀a,p a->q a->r a->C):C:=let⟨a,h0,h1,h2⟩:=h;K a h0 h1 h2
def dE{p q:α->β->Prop}{C:Prop}(h:∃a b,p a b/\q a b)(K:∀a b,p a b->q a b->C):C:=let⟨a,b,h0,h1⟩:=h;K a b h0 h1
def cx{p q:α->β->Prop}(a b)(h0:p a b)(h1:q a b):∃a b,p a b/\q a b:=⟨a,b,h0,h1⟩
def gH{p q r:α->β->Prop}{C:Prop}(h:∃a b,p a b/\q a b/\r a b)(K:∀a b,p a b->q a b->r a b->C):C:=let⟨a,b,h0,h1,h2⟩:=h;K a b h0 h1 h2
def jd{p q r:α->β->Prop}(a b)(h0:p a b)(h1:q a b)(h2:r a b):∃a b,p a b/\q a b/\r a b:=⟨a,b,h0,h1,h2⟩
def jQ{p q r s:α->β->Prop}{C:Prop}(h:∃a b,p a b/\q a b/\r a b/\s a b)(K:∀a b,p a b->q a b->r a b->s a b->C):C:=let⟨a,b,h0,h1,h2,h3⟩:=h;K a b h0 h1 h2 h3
def xY{p q r s:α->β->Prop}(a b)(h0:p a b)(h1:q a b)(h2:r a b)(h3:s a b):∃a b,p a b/\q a b/\r a b/\s a b:=⟨a,b,h0,h1,h2,h3⟩
def kR{p q r s t:α->β->Prop}{C:Prop}(h:∃a b,p a b/\q a b/\r a b/\s a b/\t a b)(K:∀a b,p a b->q a b->r a b->s a b->t a b->C):C:=let⟨a,b,h0,h1,h2,h3,h4⟩:=h;K a b h0 h1 h2 h3 h4
def adt{p q r s t:α->β->Prop}(a b)(h0:p a b)(h1:q a b)(h2:r a b)(h3:s a b)(h4:t a b):∃a b,p a b/\q a b/\r a b/\s a b/\t a b:=⟨a,b,h0,h1,h2,h3,h4⟩
def agw{p q r s t u:α->β->Prop}{C:Prop}(h:∃a b,p a b/\q a b/\r a b/\s a b/\t a b/\u a b)(K:∀a b,p a b->q a b->r a b->s a b->t a b->u a b->C):C:=let⟨a,b,h0,h1,h2,h3,h4,h5⟩:=h;K a b h0 h1 h2 h3 h4 h5
def agH{p q r s t u:α->β->Prop}(a b)(h0:p a b)(h1:q a b)(h2:r a b)(h3:s a b)(h4:t a b)(h5:u a b):∃a b,p a b/\q a b/\r a b/\s a b/\t a b/\u a b:=⟨a,b,h0,h1,h2,h3,h4,h5⟩
def wy{p q:α->β->γ->Prop}{C:Prop}(h:∃a b c,p a b c/\q a b c)(K:∀a b c,p a b c->q a b c->C):C:=let⟨a,b,c,h0,h1⟩:=h;K a b c h0 h1
def abp{p q:α->β->γ->Prop}(a b c)(h0:p a b c)(h1:q a b c):∃a b c,p a b c/\q a b c:=⟨a,b,c,h0,h1⟩
def wu{p q r:α->β->γ->Prop}{C:Prop}(h:∃a b c,p a b c/\q a b c/\r a b c)(K:∀a b c,p a b c->q a b c->r a b c->C):C:=let⟨a,b,c,h0,h1,h2⟩:=h;K a b c h0 h1 h2
def aex{p q r:α->β->γ->Prop}(a b c)(h0:p a b c)(h1:q a b c)(h2:r a b c):∃a b c,p a b c/\q a b c/\r a b c:=⟨a,b,c,h0,h1,h2⟩
def uO{p q r s:α->β->γ->Prop}{C:Prop}(h:∃a b c,p a b c/\q a b c/\r a b c/\s a b c)(K:∀a b c,p a b c->q a b c->r a b c->s a b c->C):C:=let⟨a,b,c,h0,h1,h2,h3⟩:=h;K a b c h0 h1 h2 h3
def qt{p q r s:α->β->γ->Prop}(a b c)(h0:p a b c)(h1:q a b c)(h2:r a b c)(h3:s a b c):∃a b c,p a b c/\q a b c/\r a b c/\s a b c:=⟨a,b,c,h0,h1,h2,h3⟩
def ajf{p q r s t:α->β->γ->Prop}{C:Prop}(h:∃a b c,p a b c/\q a b c/\r a b c/\s a b c/\t a b c)(K:∀a b c,p a b c->q a b c->r a b c->s a b c->t a b c->C):C:=let⟨a,b,c,h0,h1,h2,h3,h4⟩:=h;K a b c h0 h1 h2 h3 h4
def aj7{p q r s t:α->β->γ->Prop}(a b c)(h0:p a b c)(h1:q a b c)(h2:r a b c)(h3:s a b c)(h4:t a b c):∃a b c,p a b c/\q a b c/\r a b c/\s a b c/\t a b c:=⟨a,b,c,h0,h1,h2,h3,h4⟩
def aj4{p q:α->β->γ->δ->Prop}{C:Prop}(h:∃a b c d,p a b c d/\q a b c d)(K:∀a b c d,p a b c d->q a b c d->C):C:=let⟨a,b,c,d,h0,h1⟩:=h;K a b c d h0 h1
def aj3{p q r s t u:α->β->γ->δ->Prop}{C:Prop}(h:∃a b c d,p a b c d/\q a b c d/\r a b c d/\s a b c d/\t a b c d/\u a b c d)(K:∀a b c d,p a b c d->q a b c d->r a b c d->s a b c d->t a b c d->u a b c d->C):C:=let⟨a,b,c,d,h0,h1,h2,h3,h4,h5⟩:=h;K a b c d h0 h1 h2 h3 h4 h5
def aj2{p q r s:α->β->γ->δ->ε->Prop}{C:Prop}(h:∃a b c d e,p a b c d e/\q a b c d e/\r a b c d e/\s a b c d e)(K:∀a b c d e,p a b c d e->q a b c d e->r a b c d e->s a b c d e->C):C:=let⟨a,b,c,d,e,h0,h1,h2,h3⟩:=h;K a b c d e h0 h1 h2 h3
def amm{p q r s t u:α->β->γ->δ->ε->Prop}(a b c d e)(h0:p a b c d e)(h1:q a b c d e)(h2:r a b c d e)(h3:s a b c d e)(h4:t a b c d e)(h5:u a b c d e):∃a b c d e,p a b c d e/\q a b c d e/\r a b c d e/\s a b c d e/\t a b c d e/\u a b c d e:=⟨a,b,c,d,e,h0,h1,h2,h3,h4,h5⟩
def am7{p q r s t u v w:α->β->γ->δ->ε->Prop}(a b c d e)(h0:p a b c d e)(h1:q a b c d e)(h2:r a b c d e)(h3:s a b c d e)(h4:t a b c d e)(h5:u a b c d e)(h6:v a b c d e)(h7:w a b c d e):∃a b c d e,p a b c d e/\q a b c d e/\r a b c d e/\s a b c d e/\t a b c d e/\u a b c d e/\v a b c d e/\w a b c d e:=⟨a,b,c,d,e,h0,h1,h2,h3,h4,h5,h6,h7⟩
def am5{p q r s t u v w:α->β->γ->δ->ε->ζ->Prop}{C:Prop}(h:∃a b c d e f,p a b c d e f/\q a b c d e f/\r a b c d e f/\s a b c d e f/\t a b c d e f/\u a b c d e f/\v a b c d e f/\w a b c d e f)(K:∀a b c d e f,p a b c d e f->q a b c d e f->r a b c d e f->s a b c d e f->t a b c d e f->u a b c d e f->v a b c d e f->w a b c d e f->C):C:=let⟨a,b,c,d,e,f,h0,h1,h2,h3,h4,h5,h6,h7⟩:=h;K a b c d e f h0 h1 h2 h3 h4 h5 h6 h7
def am6{p q r s t u v w:α->β->γ->δ->ε->ζ->Prop}(a b c d e f)(h0:p a b c d e f)(h1:q a b c d e f)(h2:r a b c d e f)(h3:s a b c d e f)(h4:t a b c d e f)(h5:u a b c d e f)(h6:v a b c d e f)(h7:w a b c d e f):∃a b c d e f,p a b c d e f/\q a b c d e f/\r a b c d e f/\s a b c d e f/\t a b c d e f/\u a b c d e f/\v a b c d e f/\w a b c d e f:=⟨a,b,c,d,e,f,h0,h1,h2,h3,h4,h5,h6,h7⟩
def aep{p q r:α->β->γ->δ->ε->ζ->η->θ->ι->Prop}{C:Prop}(h:∃a b c d e f g i j,p a b c d e f g i j/\q a b c d e f g i j/\r a b c d e f g i j)(K:∀a b c d e f g i j,p a b c d e f g i j->q a b c d e f g i j->r a b c d e f g i j->C):C:=let⟨a,b,c,d,e,f,g,i,j,h0,h1,h2⟩:=h;K a b c d e f g i j h0 h1 h2
set_option Elab.async false
set_option linter.all false
set_option maxRecDepth 100000
namespace L2
open PySem PySem.Spec PyProof.Rows
abbrev Key:=Sum (Option Int) Str
noncomputable def lg:Int:=0xFCA86420
def aat{prog w A E s Q}(h:Q lg {s with toks:=s.toks+1}):wpAny (model prog w) A (pyHash .none) Q E s:=by unfold pyHash;refine anE ?_;refine anO ?_;refine anE (wpAny_specialOf (aqO s) ao5.lookup ?_);refine anE (wpAny_specialOf (aqO s) ao5.lookup ?_);refine anE (wpAny_callSpecialIfBoundUnlessNone?_slot (aqO s) ao5 (aoQ ao5 (aqO s) PySem.F.entry_NoneType_hash (wpAny_ret_mkInt ?_) (PySem.F.args_NoneType_hash_1 _)));show wpAny _ _ (if(decide (-(2:Int)^63<=lg)&&decide (lg<2^63))=true then _ else _) Q E _;rw[anL (by decide)];exact anO h
noncomputable def xu:Key->Value->Bool|.inl (some k),v=>Value.isInt k v|.inl none,.none=>true|.inl none,_=>false|.inr x,v=>Value.isStrOf x v
def ant(w:World):Key->Int|.inl (some k)=>hashInt k|.inl none=>lg|.inr x=>hashStr w x
def bW:∀{k v},xu k v=true->(∃i t,k=Sum.inl (some i)/\v=Value.int i t)\/(∃x t,k=Sum.inr x/\v=Value.str x t)\/k=Sum.inl none/\v=.none
|.inl (some i),v,h=>by obtain⟨t,e⟩:=Value.isInt_shape  h;exact .inl ⟨i,t,rfl,e⟩|.inl none,v,h=>by cases v<;>first|exact .inr (.inr ⟨rfl,rfl⟩)|exact nomatch h
|.inr x,v,h=>by obtain⟨t,e⟩:=Value.isStrOf_shape  h;exact .inr (.inl ⟨x,t,rfl,e⟩)
def aag(i)(t):xu (.inl (some i)) (.int i t)=true:=by simp[xu,Value.isInt]
def aaf(x)(t):xu (.inr x) (.str x t)=true:=by simp[xu,Value.isStrOf]
def aii(a b):decide ((Sum.inl (some a):Key)=Sum.inl (some b))=(a==b):=by grind
def aie(a b):decide ((Sum.inr a:Key)=Sum.inr b)=decide (a=b):=by simp
def key_is(a)(b):decide ((Sum.inl (some a):Key)=Sum.inr b)=false:=aoe λq=>nomatch q
def aij(a):decide ((Sum.inl (some a):Key)=Sum.inl none)=false:=aoe λq=>nomatch q
def aid(a)(b):decide ((Sum.inr a:Key)=Sum.inl (some b))=false:=aoe λq=>nomatch q
def aic(a):decide ((Sum.inr a:Key)=Sum.inl none)=false:=aoe λq=>nomatch q
def aih(a):decide ((Sum.inl none:Key)=Sum.inl (some a))=false:=aoe λq=>nomatch q
def aif(a):decide ((Sum.inl none:Key)=Sum.inr a)=false:=aoe λq=>nomatch q
def cV(prog:Program)(w:World):PySem.KeyKind prog w Key where
 is:=xu;hash:=ant w;inj:=λv a b ha hb=>by rcases bW ha with⟨i,t,rfl,rfl⟩|⟨x,t,rfl,rfl⟩|⟨rfl,rfl⟩<;>rcases bW hb with⟨j,u,rfl,e⟩|⟨y,u,rfl,e⟩|⟨rfl,e⟩<;>(cases e;try rfl)
 byValue:=λk v h=>by rcases bW h with⟨i,t,rfl,rfl⟩|⟨x,t,rfl,rfl⟩|⟨rfl,rfl⟩<;>rfl
 pyHash:=λhv h=>by
  rcases bW hv with⟨i,t,rfl,rfl⟩|⟨x,t,rfl,rfl⟩|⟨rfl,rfl⟩;.exact wpAny_pyHash_int h
  .exact wpAny_pyHash_str h
  .exact aat h
 eqBool:=λhu hv h=>by
  rcases bW hu with⟨i,t,rfl,rfl⟩|⟨x,t,rfl,rfl⟩|⟨rfl,rfl⟩
  .rcases bW hv with⟨j,u,rfl,rfl⟩|⟨y,u,rfl,rfl⟩|⟨rfl,rfl⟩;.rw[aii]at h;exact aqt h
   .rw[key_is]at h;exact SeqAt.EqAt.int_str i t y u _ _ _ _ h
   .rw[aij]at h;exact SeqAt.EqAt.int_none i t _ _ _ _ h
  .rcases bW hv with⟨j,u,rfl,rfl⟩|⟨y,u,rfl,rfl⟩|⟨rfl,rfl⟩;.rw[aid]at h;exact SeqAt.EqAt.str_int x t j u _ _ _ _ h
   .rw[aie]at h;exact wpAny_eqBool_str h
   .rw[aic]at h;exact SeqAt.EqAt.str_none x t _ _ _ _ h
  .rcases bW hv with⟨j,u,rfl,rfl⟩|⟨y,u,rfl,rfl⟩|⟨rfl,rfl⟩;.rw[aih]at h;exact SeqAt.EqAt.none_int j u _ _ _ _ h
   .rw[aif]at h;exact SeqAt.EqAt.none_str y u _ _ _ _ h
   .rw[apa rfl]at h;unfold eqBool;rw[anL (show(Value.none==Value.none)=true from rfl)];exact anE (aqq (anO h))
 «strs»:=λk x t v h=>by
  rcases bW h with⟨i,u,rfl,e⟩|⟨y,u,rfl,e⟩|⟨_,e⟩;.exact nomatch e
  .injection e with e1 _;subst e1;cases v<;>rfl
  .exact nomatch e
def t8(prog)(w)(i)(t):(cV prog w).is (.inl (some i)) (.int i t)=true:=aag i t
def t7(prog)(w)(x)(t):(cV prog w).is (.inr x) (.str x t)=true:=aaf x t
inductive V where|non|bl(b:Bool)|int(i:Int)|str(x:Str)|byt(b:Array UInt8)|flt(b:UInt64)|ref(a:Addr)|ty(n:String)deriving DecidableEq
def RelV:V->Value->Prop|.non,u=>u=Value.none|.bl b,u=>u=Value.bool b|.int i,u=>∃t,u=Value.int i t|.str x,u=>∃t,u=Value.str x t|.byt b,u=>∃t,u=Value.bytes b t|.flt b,u=>∃t,u=Value.float b t|.ref a,u=>u=Value.ref a|.ty n,u=>u=Value.type n
abbrev Vals:List V->List Value->Prop:=Paired RelV
theorem Vals.length{xs us}(r:Vals xs us):xs.length=us.length:=Paired.length r
theorem Vals.get:∀{xs:List V}{us:List Value}{i:Nat}{x:V},Vals xs us->xs[i]?=some x->∃u,us[i]?=some u/\RelV x u|_,_,_,_,.nil,e=>by simp at e|_,_,0,_,.cons r _,e=>by simp at e;subst e;exact⟨_,rfl,r⟩|_,_,i+1,x,.cons _ t,e=>by obtain⟨u,b,a⟩:=Vals.get (i:=i) (x:=x) t (by simpa using e);exact⟨u,by simpa using b,a⟩
theorem Vals.set{x:V}{u:Value}(r:RelV x u):∀{xs:List V}{us:List Value}(i:Nat),Vals xs us->Vals (xs.set i x) (us.set i u)|_,_,_,.nil=>.nil|_,_,0,.cons _ t=>.cons r t|_,_,i+1,.cons q t=>.cons q (Vals.set r i t)
theorem Vals.append:∀{xs ys us ws},Vals xs us->Vals ys ws->Vals (xs++ys) (us++ws)|_,_,_,_,.nil,s=>s|_,_,_,_,.cons r t,s=>.cons r (Vals.append t s)
theorem Vals.take:∀{xs us}n,Vals xs us->Vals (xs.take n) (us.take n)|_,_,0,_=>.nil|_,_,_+1,.nil=>.nil|_,_,n+1,.cons r t=>.cons r (Vals.take n t)
theorem Vals.drop:∀{xs us}n,Vals xs us->Vals (xs.drop n) (us.drop n)|_,_,0,r=>r|_,_,_+1,.nil=>.nil|_,_,n+1,.cons _ t=>Vals.drop n t
def sN:Option V->Option Value->Prop|some v,some u=>RelV v u|none,none=>True|_,_=>False
def KV{a}:List (a×V)->List (a×Value)->Prop:=Paired λ(p:a×V)(q:a×Value)=>p.1=q.1/\RelV p.2 q.2
noncomputable def kV:Key->V|.inl (some i)=>.int i|.inl none=>.non|.inr x=>.str x
inductive HO where/-- a list -/|lst(xs:List V)/-- a tuple (never changes) -/|tup(xs:List V)/-- a dict whose keys are ints and texts;one whose keys are tuples of ints and texts (the empty one is both) -/|dK(kvs:List (Key×V))|dT(kvs:List (List Key×V))/-- a set of ints: its members,its size -/|set(S:Int->Bool)(n:Nat)/-- an instance of the class at C,its dict at dx,its attributes -/|ins(C dx:Addr)(fs:List (Str×V))/-- the dict of the instance at x -/|own(x:Addr)/-- the dict of an exception -/|xd(fs:List (Str×V))/-- a bound method,f of x -/|met(f x:Addr)/-- a range object lo,lo+1,.. below hi -/|rng(lo hi:Int)/-- a thing that is known to the object (the script;a dict while a loop walks it): read,never written while it is so -/|frz(o:Obj)(u:HO)/-- a code object's table -/|tbl(ps:Array Value)/-- any other thing,by what is true of its one object (a def of one's own: SetO a S n:=HO.ext λh => ..) -/|ext(φ:Heap->Prop)
abbrev Hp:=Addr->Option HO
noncomputable def upd(H:Hp)(a:Addr)(o:HO):Hp:=λb=>if b=a then some o else H b
def aq{H a o}:upd H a o a=some o:=by unfold upd;rw[anL rfl]
def aj{H a b o}(h:b≠a):upd H a o b=H b:=by unfold upd;rw[anK h]
def alm{H:Hp}{a b o u}(h:H a=some o)(h':H b=some u)(d:o≠u):a≠b:=by grind
def aQ{H:Hp}{a b o}(h:H a=some o)(h':H b=none):a≠b:=by grind
section
variable(P:Program)(w:World)
def dD(H:Hp)(h:Heap)(a:Addr):HO->Prop|.lst c=>c.length<=sizeLine/\∃(b:List Value)(n:Nat),Vals c b/\h.get? a=some {cls:=.type "list",data:=.seq b.toArray n}|.tup c=>c.length<=sizeLine/\∃b:List Value,Vals c b/\IsTup h a b.toArray|.dK kvs=>kvs.length<=sizeLine/\(a==sysModules)=false/\∃j,KV kvs j/\h.DictOf (cV P w) a j|.dT kvs=>kvs.length<=sizeLine/\(a==sysModules)=false/\∃c:List (List Key×Addr×Value),Paired (λ(p:List Key×V)(q:List Key×Addr×Value)=>p.1=q.1/\H q.2.1=some (.tup (p.1.map kV))/\RelV p.2 q.2.2) kvs c/\∃o g k,h.get? a=some o/\o.ExactDict/\o.data=.dict g k/\g.toList=c.map (entryOfKey (tupleKind (cV P w)))/\(c.map (·.1)).Nodup|.set S n=>h.SetOf (intKind P w) a S n|.ins C dx fs=>H dx=some (.own a)/\fs.length<=1000/\dx≠a/\h.get? a=some (W.instObj C dx)/\∃d,h.Ns1 dx d/\(∀f,sN (fs.lookup f) (d f))/\PySem.Within d (fs.map (·.1))|.own _=>∃o,h.get? a=some o|.xd fs=>∃d,h.Ns1 a d/\∀f,sN (fs.lookup f) (d f)|.rng lo hi=>∃t u v,h.get? a=some {cls:=.type "range",data:=.fields #[.int lo t,.int hi u,.int 1 v]}|.frz o u=>h.get? a=some o/\dD H h a u|.tbl ps=>h.get? a=some {cls:=.none,data:=.fields ps}|.met f x=>h.get? a=some (W.methodObj (.ref f) (.ref x))|.ext φ=>φ h/\(∃o,h.get? a=some o)/\∀i e:Heap,φ i->(∀o,i.get? a=some o->e.get? a=some o)->φ e
def HOk(H:Hp)(h:Heap):Prop:=∀a o,H a=some o->dD P w H h a o
end
section
variable{P:Program}{w:World}{H H':Hp}{h h':Heap}{a:Addr}{o:HO}
theorem dD.lt(x:dD P w H h a o):a<h.objs.size:=by cases o with|lst xs=>obtain⟨_,_,_,_,e⟩:=x;exact anR e|tup xs=>obtain⟨_,_,_,p⟩:=x;exact p.lt|dK kvs|dT kvs=>obtain⟨_,_,_,_,o,_,_,e,_⟩:=x;exact anR e|set S n=>obtain⟨o,_,_,_,e,_⟩:=x;exact anR e|ins C dx fs=>obtain⟨_,_,_,e,_⟩:=x;exact anR e|own y=>obtain⟨_,e⟩:=x;exact anR e|xd fs=>obtain⟨_,⟨_,_,_,e,_⟩,_⟩:=x;exact anR e|rng lo hi=>obtain⟨_,_,_,e⟩:=x;exact anR e|frz ob u=>obtain⟨e,_⟩:=x;exact anR e|tbl ps|met f y=>exact anR x|ext φ=>obtain⟨_,⟨_,e⟩,_⟩:=x;exact anR e
theorem Paired.ad7{g e F G}:∀{c:List g}{d:List e},Paired F c d->(∀a b,F a b->G a b)->Paired G c d|_,_,.nil,_=>.nil|_,_,.cons r t,f=>.cons (f _ _ r) (Paired.ad7 t f)
def Paired.imp'{g e:Type}{F G:g->e->Prop}(f:∀a b,F a b->G a b){c:List g}{d:List e}(r:Paired F c d):Paired G c d:=Paired.ad7 r f
def dD.u6(x:dD P w H h a o)(k:∀b u,b=a\/H b=some (.own a)->h.get? b=some u->h'.get? b=some u)(D:∀b,H b=some (.own a)->H' b=some (.own a))(s:∀b l,H b=some (.tup l)->H' b=some (.tup l)):dD P w H' h' a o:=by induction o with|lst l=>obtain⟨z,j,n,r,e⟩:=x;exact⟨z,j,n,r,k _ _ (.inl rfl) e⟩|tup l=>obtain⟨z,j,r,ob,e,c⟩:=x;exact⟨z,j,r,ob,k _ _ (.inl rfl) e,c⟩|dK kvs=>obtain⟨z,y,A,r,ob,g,i,e,c⟩:=x;exact⟨z,y,A,r,ob,g,i,k _ _ (.inl rfl) e,c⟩|dT kvs=>obtain⟨z,y,l,r,ob,g,i,e,c⟩:=x;exact⟨z,y,l,Paired.ad7 r λp q z=>⟨z.1,s _ _ z.2.1,z.2.2⟩,ob,g,i,k _ _ (.inl rfl) e,c⟩|set S n=>obtain⟨ob,g,i,t,e,c⟩:=x;exact⟨ob,g,i,t,k _ _ (.inl rfl) e,c⟩|ins C dx fs=>obtain⟨d,z,B,e,m,⟨od,g,i,E,c⟩,r⟩:=x;exact⟨D _ d,z,B,k _ _ (.inl rfl) e,m,⟨od,g,i,k _ _ (.inr d) E,c⟩,r⟩|own y=>obtain⟨ob,e⟩:=x;exact⟨ob,k _ _ (.inl rfl) e⟩|xd fs=>obtain⟨m,⟨od,g,i,e,c⟩,r⟩:=x;exact⟨m,⟨od,g,i,k _ _ (.inl rfl) e,c⟩,r⟩|rng lo hi=>obtain⟨t,u,v,e⟩:=x;exact⟨t,u,v,k _ _ (.inl rfl) e⟩|frz ob u ih=>obtain⟨e,q⟩:=x;exact⟨k _ _ (.inl rfl) e,ih q⟩|tbl ps=>have e:=x;exact k a _ (.inl rfl) e|met f y=>have e:=x;exact k a _ (.inl rfl) e|ext φ=>obtain⟨p,⟨o,e⟩,st⟩:=x;exact⟨st _ _ p λo q=>k _ _ (.inl rfl) q,⟨o,k _ _ (.inl rfl) e⟩,st⟩
theorem HOk.lt(x:HOk P w H h)(e:H a=some o):a<h.objs.size:=(x a o e).lt
def HOk.fresh(x:HOk P w H h)(e:h.objs.size<=a):H a=none:=by cases q:H a with|none=>rfl|some u=>exact absurd (anN (x.lt q) e) (aoX _)
def HOk.kept(x:HOk P w H h)(k:∀b u,h.get? b=some u->h'.get? b=some u):HOk P w H h':=λa o e=>(x a o e).u6 (λb u _ q=>k b u q) (λ_ q=>q) λ_ _ q=>q
def HOk.laid(x:HOk P w H h)(k:∀b u,h.get? b=some u->h'.get? b=some u)(g:h.objs.size<=a)(new:dD P w (upd H a o) h' a o):HOk P w (upd H a o) h':=λb u e=>by
 have f:=x.fresh g;by_cases d:b=a;.subst d;rw[aq]at e;cases e;exact new
 .rw[aj d]at e;exact(x b u e).u6 (λc v _ q=>k c v q) (λc q=>by rw[aj (aQ q f)];exact q) λc i q=>by rw[aj (aQ q f)];exact q
end
def Rd(H:Hp)(a:Addr)(u:HO):Prop:=H a=some u\/∃o,H a=some (.frz o u)
def Rd.ok{P w H h a u}(r:Rd H a u)(x:HOk P w H h):dD P w H h a u:=by
 rcases r with r|⟨o,r⟩;.exact x a u r
 .obtain⟨_,q⟩:=x a _ r;exact q
def Mut:Option HO->Prop|some (.lst _)=>True|some (.dK _)=>True|some (.dT _)=>True|some (.set _ _)=>True|some (.ins _ _ _)=>True|some (.ext _)=>True|_=>False
section
variable{P:Program}{w:World}{H:Hp}{h h':Heap}{x e:Addr}{o':HO}
def HOk.write(ok:HOk P w H h)(d:Mut (H x))(n:e=x\/H e=some (.own x))(k:∀b u,b≠e->h.get? b=some u->h'.get? b=some u)(g:∃u,h'.get? e=some u)(new:dD P w (upd H x o') h' x o'):HOk P w (upd H x o') h':=λb u q=>by
 have a:∀c y,H c=some (.own y)->c≠x:=λc y r z=>by subst z;rw[r]at d;exact d
 by_cases i:b=x;.subst i;rw[aq]at q;cases q;exact new
 .rw[aj i]at q;by_cases j:b=e
  .have m:H b=some (.own x):=by grind
   rw[q]at m;cases m;obtain⟨v,o⟩:=g;exact⟨v,by grind⟩
  .refine(ok b u q).u6 (λc v f r=>k c v ?_ r) (λc r=>by rw[aj (a c b r)];exact r) λc l r=>by rw[aj ((λc l r z=>by subst z;rw[r]at d;exact d) c l r)];exact r
   rcases f with rfl|f;.exact j
   .rintro rfl;rcases n with z|z;.exact a c b f z
    .rw[f]at z;cases z;exact i rfl
end
structure Un(fs ex:List Addr)(H H':Hp)(h h':Heap):Prop where
 keep:∀b o,h.get? b=some o->H b=none->b∉fs->b∉ex->h'.get? b=some o
 slot:∀b o,h.get? b=some o->H b=none->b∈fs->b∉ex->∃sl,h'.get? b=some {o with slots:=sl}free:∀b o,h.get? b=some o->H b=none->b∉ex->H' b=none
 there:∀b o,h.get? b=some o->b∉ex->∃o',h'.get? b=some o'
 tups:∀b xs,H b=some (.tup xs)->H' b=some (.tup xs)frzs:∀b o u,H b=some (.frz o u)->H' b=some (.frz o u)tbls:∀b ps,H b=some (.tbl ps)->∃more,H' b=some (.tbl (ps++more))
section
variable{fs fs' ex ex':List Addr}{H H1 H2:Hp}{h h1 h2 h':Heap}{a x e:Addr}{o:HO}
def Un.any(u:Un fs ex H H1 h h1){b ob}(q:h.get? b=some ob)(n:H b=none)(c:b∉ex):∃f,h1.get? b=some {ob with slots:=f}:=by
 by_cases d:b∈fs;.exact u.slot b _ q n d c
 .exact⟨_,u.keep b _ q n d c⟩
def Un.trans(a:Un fs ex H H1 h h1)(b:Un fs ex H1 H2 h1 h2):Un fs ex H H2 h h2 where
 keep:=λc ob q n hc hx=>b.keep c ob (a.keep c ob q n hc hx) (a.free c ob q n hx) hc hx;slot:=λc ob q n hc hx=>by obtain⟨sl,e1⟩:=a.slot c ob q n hc hx;obtain⟨sl',e2⟩:=b.slot c _ e1 (a.free c ob q n hx) hc hx;exact⟨sl',e2⟩
 free:=λc ob q n hx=>by obtain⟨o',e1⟩:=a.there c ob q hx;exact b.free c o' e1 (a.free c ob q n hx) hx
 there:=λc ob q hx=>by obtain⟨o',e1⟩:=a.there c ob q hx;exact b.there c o' e1 hx
 tups:=λc xs q=>b.tups c xs (a.tups c xs q);frzs:=λc ob xs q=>b.frzs c ob xs (a.frzs c ob xs q);tbls:=λc ps q=>by obtain⟨m1,e1⟩:=a.tbls c ps q;obtain⟨m2,e2⟩:=b.tbls c _ e1;exact⟨m1++m2,by rw[e2,Array.append_assoc]⟩
def Un.kept(k:∀b u,h.get? b=some u->h'.get? b=some u):Un fs ex H H h h':=⟨λb ob q _ _ _=>k b ob q,λb ob q _ _ _=>⟨ob.slots,k b ob q⟩,λ_ _ _ n _=>n,λb ob q _=>⟨ob,k b ob q⟩,λ_ _ q=>q,λ_ _ _ q=>q,λ_ c q=>⟨#[],by rw[q];simp⟩⟩
def Un.refl:Un fs ex H H h h:=Un.kept λ_ _ q=>q
def Un.laid(k:∀b u,h.get? b=some u->h'.get? b=some u)(hp:h.objs.size<=a)(hn:H a=none):Un fs ex H (upd H a o) h h' where
 keep:=λb u q _ _ _=>k b u q;slot:=λb u q _ _ _=>⟨u.slots,k b u q⟩;free:=λb u q n _=>by rw[aj (anW (anN (anR q) hp))];exact n
 there:=λb u q _=>⟨u,k b u q⟩;tups:=λb xs q=>by rw[aj (aQ q hn)];exact q
 frzs:=λb u xs q=>by rw[aj (aQ q hn)];exact q
 tbls:=λb ps q=>⟨#[],by rw[aj (aQ q hn),q];simp⟩
def Un.write(i:Mut (H x))(m:e=x\/H e=some (.own x))(k:∀b u,b≠e->h.get? b=some u->h'.get? b=some u)(f:∃u,h'.get? e=some u):Un fs ex H (upd H x o) h h':=by
 have j:∀b,H b=none->b≠x:=λb n z=>by subst z;rw[n]at i;exact i
 have g:∀b,H b=none->b≠e:=λb n z=>by grind
 have d:∀b u,H b=some u->¬Mut (some u)->b≠x:=λb u q p z=>by grind
 refine⟨λb u q n _ _=>k b u (g b n) q,λb u q n _ _=>⟨u.slots,k b u (g b n) q⟩,λb u q n _=>by rw[aj (j b n)];exact n,λb u q _=>?_,λb l q=>by rw[aj (d b _ q λz=>z)];exact q,λb u l q=>by rw[aj (d b _ q λz=>z)];exact q,λb r q=>⟨#[],by rw[aj (d b _ q λz=>z),q];simp⟩⟩;by_cases c:b=e;.subst c;exact f
 .exact⟨u,k b u c q⟩
def Un.mono(u:Un fs ex H H1 h h1)(hs:∀b∈fs,b∈fs')(d:∀b∈ex,b∈ex'):Un fs' ex' H H1 h h1:=⟨λb ob q n f c=>u.keep b ob q n (λz=>f (hs b z)) λz=>c (d b z),λ_ _ q n _ c=>u.any q n λz=>c (d _ z),λb ob q n c=>u.free b ob q n λz=>c (d b z),λb ob q c=>u.there b ob q λz=>c (d b z),u.tups,u.frzs,u.tbls⟩
end
noncomputable def trk(h:Heap)(H:Hp):List Addr:=(List.range h.objs.size).filter λa=>(H a).isSome
def acS(h:Heap)(H:Hp):Heap:=W.hideAll h (trk h H)
def aas(h)(H):(acS h H).objs.size=h.objs.size:=W.hideAll_size _ _
def acR{h H b o}(e:h.get? b=some o)(n:H b=none):(acS h H).get? b=some o:=W.hideAll_get _ e λa=>by have q:=(aoV.mp a).2;rw[n]at q;simp at q
def afr{h H b o}(e:(acS h H).get? b=some o):h.get? b=some o/\H b=none:=by have a:=W.of_hideAll _ e;refine⟨a,?_⟩;cases q:H b with|none=>rfl|some x=>have z:(acS h H).get? b=none:=W.hideAll_none _ (aoV.mpr ⟨an1.mpr (anR a),by grind⟩);rw[z]at e;cases e
noncomputable def kC(g h:Heap)(L:Addr):List (Addr×Obj):=(List.range h.objs.size).filterMap λa=>if a=L\/(g.get? a).isSome=true then none else(h.get? a).map λo=>(a,o)
def i6{g h:Heap}{L a:Addr}{o:Obj}(d:a≠L)(c:g.get? a=none)(b:h.get? a=some o):(a,o)∈kC g h L:=apB.mpr ⟨a,an1.mpr (anR b),by simp[d,c,b]⟩
def nh{g h:Heap}{L:Addr}{p:Addr×Obj}(c:p∈kC g h L):p.1≠L/\g.get? p.1=none/\h.get? p.1=some p.2:=by
 obtain⟨b,_,e⟩:=apB.mp c;split at e;.cases e
 .rename_i a;cases q:h.get? b with|none=>rw[q]at e;simp at e|some u=>rw[q]at e;simp only[aqI,aqj]at e;subst e;refine⟨λz=>a (.inl z),?_,q⟩;show g.get? b=none;cases r:g.get? b with|none=>rfl|some v=>exact(a (.inr (by simp[r]))).elim
def rest(g h:Heap)(L d:Addr):List (Addr×Obj):=(kC g h L).filter λp=>decide (p.1≠d)
def acn{g h:Heap}{L:Addr}:News g L h (kC g h L):=λp d=>let⟨a,b,c⟩:=nh d;⟨c,a,b⟩
structure Mod(K:W.Frag)(mg:Str->Option Value)(base:Heap):Prop where
 kin:K.In base
 glob:base.Ns mainGlobals mg
 blt:∃mb,base.Ns builtinsNs mb/\∀x:Str,x≠"__name__"->mb x=bootBuiltins x
 nolimit:base.NoLimit
structure Cx where
 prog:Program
 w:World
 K:W.Frag
 mg:Str->Option Value
 base:Heap
 A:Around
 N:List Str
 s₀:Shared
 H₀:Hp
 env:Env
 outer:List Env
 stack:List Env
 ex:List Addr
 fn:Str->Bool
 calm:Bool
 pn:List (Addr×Obj)xe:Value->Shared->Prop
noncomputable def frs(l:List Env):List Addr:=l.filterMap (·.frame)
abbrev Cx.fs(X:Cx):List Addr:=frs X.outer
def Vis(a:Scope)(x:Str):Prop:=a.names.lookup x=some .local\/a.names.lookup x=some .cell\/a.names.lookup x=some .free
def Loc(a:Scope)(x:Str):Prop:=a.names.lookup x=some .local\/a.names.lookup x=some .cell
def Look(a:Env)(h:Heap)(m:Str->Option Value)(x:Str)(u:Value):Prop:=a.kindOf x=some .local/\m x=some u\/(a.kindOf x=some .cell\/a.kindOf x=some .free)/\∃c,a.cells.lookup x=some c/\h.IsCell c (some u)
abbrev Dbg(x:Str):Prop:=(x==("__debug__":Str))=false
abbrev SE(X:Cx)(e:Expr)(es:List Expr):Prop:=starEach (e::es) X.env=(false,eval e X.env)::starEach es X.env
abbrev BT(X:Cx)(p:Pos)(es:List Expr):Prop:=(backTo p (starEach es X.env)).any (·.1)=false
abbrev FL(X:Cx)(x:Str):Prop:=X.fn x=true\/X.env.scope.names.lookup x=some .local
structure Cx.Ok(X:Cx):Prop where
 mod:Mod X.K X.mg X.base
 kind:X.env.scope.kind=.function
 glob:X.env.globals=mainGlobals
 blt:X.env.builtins=builtinsNs
 above:X.s₀.heap.objs.size<=X.env.locals
 inj:∀x y c,X.env.cells.lookup x=some c->X.env.cells.lookup y=some c->x=y
 has:∀x,X.env.kindOf x=some .cell\/X.env.kindOf x=some .free->∃c,X.env.cells.lookup x=some c
 cab:∀x c,X.fn x=true->X.env.cells.lookup x=some c->X.s₀.heap.objs.size<=c
 hd:X.calm=true->X.A.handled=none
 frames:X.A.frames=some X.stack
 stk:X.stack=X.outer\/X.stack=X.env::X.outer/\X.env.frame=some X.env.locals
 exf:∀b∈X.ex,b≠X.env.locals/\∀x c,X.env.cells.lookup x=some c->c≠b
 bs:∀b o,X.base.get? b=some o->X.s₀.heap.get? b=some o/\X.H₀ b=none
 bsz:X.base.objs.size<=X.s₀.heap.objs.size
 noex:∀b o,X.base.get? b=some o->b∉X.ex
 exfs:∀b∈X.ex,b∉X.fs
 qr:X.s₀.heap.FunFrames X.base X.outer
 frf:∀b∈X.fs,X.H₀ b=none
structure Inv(X:Cx)(pins:List (Addr×Obj))(σ:List (Option V))(H:Hp)(s:Shared):Prop where
 ok:X.Ok
 os:s.os=X.s₀.os
 bare:AllBare s.gens
 base:Un X.fs X.ex X.H₀ H X.s₀.heap s.heap
 loc:∃m,s.heap.Ns X.env.locals m/\∀(i:Nat)(x:Str)(v:V),X.N[i]?=some x->σ[i]?=some (some v)->Vis X.env.scope x->∃u,RelV v u/\Look X.env s.heap m x u
 cell:∀x c,X.env.cells.lookup x=some c->∃v,s.heap.IsCell c v
 free:H X.env.locals=none
 freeC:∀x c,X.env.cells.lookup x=some c->H c=none
 pin:∀p∈X.pn++pins,s.heap.get? p.1=some p.2/\H p.1=none/\p.1≠X.env.locals/\p.1∉X.fs/\∀v,p.2.data≠.cell v
 hok:HOk X.prog X.w H s.heap
 len:σ.length=X.N.length
section
variable{X:Cx}{pins:List (Addr×Obj)}{σ:List (Option V)}{H H':Hp}{s:Shared}{h':Heap}
def Cx.Ok.anr(ok:X.Ok){b o}(e:X.base.get? b=some o):b∉X.fs:=λa=>by have:=(ok.qr.mem a).1;rw[e]at this;cases this
theorem Inv.bs(I:Inv X pins σ H s):∀b o,X.base.get? b=some o->s.heap.get? b=some o/\H b=none:=λb o e=>⟨I.base.keep b o (I.ok.bs b o e).1 (I.ok.bs b o e).2 (I.ok.anr e) (I.ok.noex b o e),I.base.free b o (I.ok.bs b o e).1 (I.ok.bs b o e).2 (I.ok.noex b o e)⟩
def Inv.bk(I:Inv X pins σ H s):∀b o,X.base.get? b=some o->s.heap.get? b=some o:=λb o e=>(I.bs b o e).1
theorem Inv.mod(I:Inv X pins σ H s):Mod X.K X.mg X.base:=I.ok.mod
def Inv.kIn(I:Inv X pins σ H s):X.K.In s.heap:=I.ok.mod.kin.keeps I.bk
theorem Inv.lt(I:Inv X pins σ H s):X.env.locals<s.heap.objs.size:=let⟨_,a,_⟩:=I.loc;a.lt
def Inv.sz(I:Inv X pins σ H s):X.s₀.heap.objs.size<=s.heap.objs.size:=anQ I.ok.above (apX I.lt)
def Inv.anq(I:Inv X pins σ H s){a:Addr}(h:s.heap.objs.size<=a):a∉X.fs:=λc=>by obtain⟨_,o,b,_⟩:=I.ok.qr.mem c;exact absurd (anN (anR b) (anQ I.sz h)) (aoX _)
def Inv.cne(I:Inv X pins σ H s):∀x c,X.env.cells.lookup x=some c->c≠X.env.locals:=λx c e z=>by obtain⟨v,o,f,d⟩:=I.cell x c e;obtain⟨m,⟨g,h,i,b,a,_⟩,_⟩:=I.loc;rw[z,b]at f;cases f;rw[a]at d;cases d
theorem Inv.qr(I:Inv X pins σ H s):s.heap.FunFrames X.base X.outer:=by
 have all:∀(l),(∀b∈frs l,b∈X.fs)->X.s₀.heap.FunFrames X.base l->s.heap.FunFrames X.base l:=by intro l;induction l with|nil=>intro _ _;trivial|cons env r ih=>intro f k;obtain⟨j,⟨L,o,c,i,m,h⟩,g⟩:=k;have a:=f L (by unfold frs;rw[ap7,c];exact an2);obtain⟨n,e⟩:=I.base.slot L o m (I.ok.frf L a) a λz=>I.ok.exfs L z a;exact⟨j,xY L _ c i e h,ih (λb d=>f b (by unfold frs;rw[ap7,c];exact anU _ d)) g⟩
 exact all _ (λ_ d=>d) I.ok.qr
theorem Inv.stack(I:Inv X pins σ H s):s.heap.FunFrames X.base X.stack:=by
 rcases I.ok.stk with e|⟨e,a⟩;.rw[e];exact I.qr
 .rw[e];obtain⟨m,b,_⟩:=I.loc;exact .cons (by rw[I.ok.kind];decide) a b (aoj (anQ I.ok.bsz I.ok.above)) I.qr
def Inv.u4(I:Inv X pins σ H s):∀b∈frs X.stack,b∈X.env.locals::X.fs:=λb a=>by
 rcases I.ok.stk with e|⟨e,c⟩;.rw[e]at a;exact anU _ a
 .rw[e]at a;unfold frs at a;rw[ap7,c]at a;exact a
def Inv.sX(I:Inv X pins σ H s):∀b∈frs X.stack,H b=none:=λb a=>by
 rcases anS.mp (I.u4 b a)with e|a;.rw[e];exact I.free
 .obtain⟨_,o,c,_⟩:=I.ok.qr.mem a;exact I.base.free b o c (I.ok.frf b a) λz=>I.ok.exfs b z a
def Inv.yY{g' t' d'}{ch:List Addr}(I:Inv X pins σ H s)(h:∀b∈ch,(b∈X.ex\/X.s₀.heap.get? b=none)/\b≠X.env.locals/\(∀x c,X.env.cells.lookup x=some c->c≠b)/\∀p∈X.pn++pins,p.1≠b)(keep:∀b o,b≠X.env.locals->b∉X.fs->b∉ch->s.heap.get? b=some o->H b=none->h'.get? b=some o)(y:∀b o,b≠X.env.locals->b∈X.fs->b∉ch->s.heap.get? b=some o->H b=none->∃O,h'.get? b=some {o with slots:=O})(free:∀b o,b∉ch->s.heap.get? b=some o->H b=none->H' b=none)(there:∀b o,b∉ch->s.heap.get? b=some o->∃G,h'.get? b=some G)(D:∀b w,H b=some (.tup w)->H' b=some (.tup w))(E:∀b o u,H b=some (.frz o u)->H' b=some (.frz o u))(K:∀b N,H b=some (.tbl N)->∃J,H' b=some (.tbl (N++J)))(ns:∀m,s.heap.Ns X.env.locals m->h'.Ns X.env.locals m)(P:HOk X.prog X.w H' h')(hg:AllBare g'):Inv X pins σ H' {s with heap:=h',gens:=g',drawn:=d',toks:=t'}:=by
 have C:∀b o,X.s₀.heap.get? b=some o->b≠X.env.locals:=λb o e=>anW (anN (anR e) I.ok.above);have t:∀b o,X.s₀.heap.get? b=some o->b∉X.ex->b∉ch:=λb o e a A=>by
  rcases(h b A).1 with z|z;.exact a z
  .rw[z]at e;cases e
 have g:∀x c,X.env.cells.lookup x=some c->∀v,s.heap.IsCell c v->h'.IsCell c v:=λx c e v⟨o,B,Q⟩=>by
  have f:c∉ch:=λz=>(h c z).2.2.1 x c e rfl;by_cases Y:c∈X.fs;.obtain⟨O,q⟩:=y c o (I.cne x c e) Y f B (I.freeC x c e);exact⟨_,q,Q⟩
  .exact⟨o,keep c o (I.cne x c e) Y f B (I.freeC x c e),Q⟩
 refine⟨I.ok,I.os,hg,⟨λb o e n A a=>?_,λb o e n A a=>?_,λb o e n a=>?_,λb o e a=>?_,λb w e=>D b w (I.base.tups b w e),λb o w e=>E b o w (I.base.frzs b o w e),λb N e=>?_⟩,?_,λx c e=>?_,?_,λx c e=>?_,λp U=>?_,P,I.len⟩;.exact keep b o (C b o e) A (t b o e a) (I.base.keep b o e n A a) (I.base.free b o e n a)
 .obtain⟨O,j⟩:=I.base.slot b o e n A a;obtain⟨R,M⟩:=y b _ (C b o e) A (t b o e a) j (I.base.free b o e n a);exact⟨R,M⟩
 .obtain⟨G,j⟩:=I.base.there b o e a;exact free b G (t b o e a) j (I.base.free b o e n a)
 .obtain⟨G,j⟩:=I.base.there b o e a;exact there b G (t b o e a) j
 .obtain⟨Z,j⟩:=I.base.tbls b N e;obtain⟨m2,M⟩:=K b _ j;exact⟨Z++m2,by rw[M,Array.append_assoc]⟩
 .refine fy I.loc λm hn hl=>?_;refine⟨m,ns m hn,λi x v j M e3=>?_⟩;obtain⟨u,r,l⟩:=hl i x v j M e3;refine⟨u,r,?_⟩;rcases l with l|⟨k,c,e,z⟩;.exact .inl l
  .exact .inr ⟨k,c,e,g x c e _ z⟩
 .obtain⟨v,z⟩:=I.cell x c e;exact⟨v,g x c e v z⟩
 .obtain⟨m,⟨o,_,_,B,_⟩,_⟩:=I.loc;exact free _ o (λz=>(h _ z).2.1 rfl) B I.free
 .obtain⟨v,o,B,Q⟩:=I.cell x c e;exact free c o (λz=>(h c z).2.2.1 x c e rfl) B (I.freeC x c e)
 .refine ajg (I.pin p U) λe n S T d=>?_;have f:p.1∉ch:=λz=>(h p.1 z).2.2.2 p U rfl;exact⟨keep p.1 p.2 S T f e n,free p.1 p.2 f e n,S,T,d⟩
def Inv.step{g' t' d' h' H'}{ch:List Addr}(I:Inv X pins σ H s)(a:∀b∈ch,(b∈X.ex\/X.s₀.heap.objs.size<=b)/\b≠X.env.locals/\(∀x c,X.env.cells.lookup x=some c->c≠b)/\∀p∈X.pn++pins,p.1≠b):=I.yY (g':=g') (t':=t') (d':=d') (h':=h') (H':=H') λb d=>⟨(a b d).1.imp_right aoj,(a b d).2⟩
def Inv.un{t'}(I:Inv X pins σ H s)(u:Un X.fs [] H H' s.heap h')(d:HOk X.prog X.w H' h'):Inv X pins σ H' {s with heap:=h',toks:=t'}:=by obtain⟨m,⟨o,q,v,f,r⟩,_⟩:=id I.loc;obtain⟨l,j⟩:=u.any f I.free (by simp);exact I.step (ch:=[]) (λ_ z=>nomatch z) (λb o _ c _ e n=>u.keep b o e n c (by simp)) (λb o _ c _ e n=>u.slot b o e n c (by simp)) (λb o _ e n=>u.free b o e n (by simp)) (λb o _ e=>u.there b o e (by simp)) u.tups u.frzs u.tbls (λt g=>by refine wy g λp k h a i=>?_;rw[f]at a;cases a;exact abp _ _ _ j i) d I.bare
def Inv.call{g' t' d' ch}(I:Inv X pins σ H s)(u:Un (frs X.stack) ch H H' s.heap h')(h:HOk X.prog X.w H' h')(v:AllBare g')(f:∀b∈ch,(b∈X.ex\/X.s₀.heap.objs.size<=b)/\b≠X.env.locals/\(∀x c,X.env.cells.lookup x=some c->c≠b)/\∀p∈X.pn++pins,p.1≠b):Inv X pins σ H' {s with heap:=h',gens:=g',drawn:=d',toks:=t'}:=by obtain⟨m,⟨o,A,C,i,r⟩,_⟩:=id I.loc;obtain⟨w,g⟩:=u.any i I.free λz=>(f _ z).2.1 rfl;exact I.step f (λb o g t a e n=>u.keep b o e n (λz=>(anS.mp (I.u4 b z)).elim g t) a) (λb o _ _ a e n=>u.any e n a) (λb o a e n=>u.free b o e n a) (λb o a e=>u.there b o e a) u.tups u.frzs u.tbls (λB j=>by refine wy j λy q k d l=>?_;rw[i]at d;cases d;exact abp _ _ _ g l) h v
def Inv.turned{t' it}(I:Inv X pins σ H s)(k:∀b o,b≠it->s.heap.get? b=some o->h'.get? b=some o)(A:H it=none)(f:it≠X.env.locals)(j:it∈X.ex\/X.s₀.heap.objs.size<=it)(g:∀x c,X.env.cells.lookup x=some c->c≠it)(y:∀p∈X.pn++pins,p.1≠it):Inv X pins σ H {s with heap:=h',toks:=t'}:=by
 have d:∀b u,H b=some u->b≠it:=λb u e z=>by grind
 refine I.step (g':=s.gens) (ch:=[it]) (λb t=>?_) (λb o _ _ a e _=>k b o (λz=>a (by simp[z])) e) (λb o _ _ a e _=>⟨o.slots,k b o (λz=>a (by simp[z])) e⟩) (λ_ _ _ _ n=>n) (λb o a e=>⟨o,k b o (λz=>a (by simp[z])) e⟩) (λ_ _ e=>e) (λ_ _ _ e=>e) (λb B e=>⟨#[],by rw[e];simp⟩) (λm h=>?_) (λb u e=>?_) I.bare
 .have e:b=it:=by simpa using t
  subst e;exact⟨j,f,g,y⟩
 .refine wy h λo i l w r=>?_;exact abp o i l (k _ o (anY f) w) r
 .refine(I.hok b u e).u6 (λc v a q=>k c v ?_ q) (λ_ q=>q) λ_ _ q=>q;rcases a with z|z;.rw[z];exact d b u e
  .exact d c _ z
def Inv.tok(I:Inv X pins σ H s)(t):Inv X pins σ H {s with toks:=t}:=I.un  Un.refl I.hok
theorem Inv.kept{t'}(I:Inv X pins σ H s)(k:∀b u,s.heap.get? b=some u->h'.get? b=some u):Inv X pins σ H {s with heap:=h',toks:=t'}:=I.un (Un.kept k) (I.hok.kept k)
theorem Inv.laid{a:Addr}{o t'}(I:Inv X pins σ H s)(k:∀b u,s.heap.get? b=some u->h'.get? b=some u)(c:s.heap.objs.size<=a)(new:dD X.prog X.w (upd H a o) h' a o):Inv X pins σ (upd H a o) {s with heap:=h',toks:=t'}:=I.un (Un.laid k c (I.hok.fresh c)) (I.hok.laid k c new)
theorem Inv.write{x e o t'}(I:Inv X pins σ H s)(d:Mut (H x))(c:e=x\/H e=some (.own x))(k:∀b u,b≠e->s.heap.get? b=some u->h'.get? b=some u)(a:∃u,h'.get? e=some u)(new:dD X.prog X.w (upd H x o) h' x o):Inv X pins σ (upd H x o) {s with heap:=h',toks:=t'}:=I.un (Un.write d c k a) (I.hok.write d c k a new)
def Inv.fk{a}(I:Inv X pins σ H s)(h:∀p∈a,s.heap.get? p.1=some p.2/\H p.1=none/\p.1≠X.env.locals/\p.1∉X.fs/\∀v,p.2.data≠.cell v):Inv X a σ H s:=⟨I.ok,I.os,I.bare,I.base,I.loc,I.cell,I.free,I.freeC,λp b=>(aou.mp b).elim (λz=>I.pin p (aob _ z)) (h p),I.hok,I.len⟩
def pP{N:List Str}(d:N.Nodup){i j:Nat}{x}(a:N[i]?=some x)(b:N[j]?=some x):i=j:=by obtain⟨g,c⟩:=anM.mp a;obtain⟨f,e⟩:=anM.mp b;exact(List.getElem_inj d).mp (c.trans e.symm)
def jk{M A E i x v u Q}(I:Inv X pins σ H s)(hN:X.N.Nodup)(T:X.N[i]?=some x)(w:Loc X.env.scope x)(r:RelV v u)(h:∀s',Inv X pins (σ.set i (some v)) H s'->(∃a,Heap.SameBut a s.heap s'.heap/\(a=X.env.locals\/X.env.cells.lookup x=some a))->Q () s')(hf:FL X x:=by first|exact .inl rfl|exact .inr rfl|assumption):wpAny M A (storeName X.env x u) Q E s:=by
 refine fy (id I.loc) λm hn hl=>?_;have S:(X.env.scope.kind==.class||X.env.scope.kind==.module&&X.env.locals !=X.env.globals)=false:=by rw[I.ok.kind];rfl
 have D:i<σ.length:=by rw[I.len];exact(anM.mp T).1
 have cne:=I.cne;have l:∀{a:Addr}{h':Heap},(∃o,s.heap.get? a=some o/\H a=none)->Heap.SameBut a s.heap h'->HOk X.prog X.w H h':=λ{a h'}ha f b ob e=>by
  obtain⟨_,_,B⟩:=ha;refine(I.hok b ob e).u6 (λc w' t q=>(f.2 c ?_).trans q) (λ_ q=>q) λ_ _ q=>q;rintro rfl;rcases t with rfl|t;.rw[B]at e;cases e
  .rw[B]at t;cases t
 rcases w with N|N
 .refine wpAny_storeName_local N hn (λh' a1 f=>?_) S;obtain⟨oL,_,_,a0,_⟩:=id hn;refine h _ ⟨I.ok,I.os,I.bare,⟨λb o e n K w=>?_,λb o e n K w=>?_,I.base.free,λb o e w=>?_,I.base.tups,I.base.frzs,I.base.tbls⟩,⟨_,a1,λj y v' g C e3=>?_⟩,λy c e=>?_,I.free,I.freeC,λp hp=>?_,l ⟨oL,a0,I.free⟩ f,by simpa using I.len⟩ ⟨_,f,.inl rfl⟩;.exact(f.2 b (anW (anN (anR e) I.ok.above))).trans (I.base.keep b o e n K w)
  .obtain⟨sl,g⟩:=I.base.slot b o e n K w;exact⟨sl,(f.2 b (anW (anN (anR e) I.ok.above))).trans g⟩
  .obtain⟨o',g⟩:=I.base.there b o e w;exact⟨o',(f.2 b (anW (anN (anR e) I.ok.above))).trans g⟩
  .by_cases G:j=i;.subst G;rw[T]at g;cases g;rw[anH D]at C;cases C;exact⟨u,r,.inl ⟨N,by simp⟩⟩
   .rw[anF (anY G)]at C;obtain⟨u',r',q⟩:=hl j y v' g C e3;refine⟨u',r',?_⟩;rcases q with⟨k,e⟩|⟨k,c,e,z⟩;.refine .inl ⟨k,?_⟩;have:y≠x:=λe=>G (pP hN g (e▸T));simp[this,e]
    .exact .inr ⟨k,c,e,z.sameBut f (cne y c e)⟩
  .obtain⟨w',z⟩:=I.cell y c e;exact⟨w',z.sameBut f (cne y c e)⟩
  .refine ajg (I.pin p hp) λe n Y nf d=>?_;exact⟨(f.2 p.1 Y).trans e,n,Y,nf,d⟩
 .have J:X.fn x=true:=by grind
  obtain⟨c,t⟩:=I.ok.has x (.inl N);obtain⟨w',z⟩:=I.cell x c t;refine wpAny_storeName_cell I.ok.kind N t z λh' U f=>?_;refine fy (id z) λoc R P=>?_;refine h {s with heap:=h'} ⟨I.ok,I.os,I.bare,⟨λb o e n K w=>?_,λb o e n K w=>?_,I.base.free,λb o e w=>?_,I.base.tups,I.base.frzs,I.base.tbls⟩,⟨m,hn.sameBut f (anY (cne x c t)),λj y v' g C e3=>?_⟩,λy Z e=>?_,I.free,I.freeC,λp hp=>?_,l ⟨oc,R,I.freeC x c t⟩ f,by simpa using I.len⟩ ⟨c,f,.inr t⟩;.exact(f.2 b (anW (anN (anR e) (I.ok.cab x c J t)))).trans (I.base.keep b o e n K w)
  .obtain⟨sl,g⟩:=I.base.slot b o e n K w;exact⟨sl,(f.2 b (anW (anN (anR e) (I.ok.cab x c J t)))).trans g⟩
  .obtain⟨o',g⟩:=I.base.there b o e w;exact⟨o',(f.2 b (anW (anN (anR e) (I.ok.cab x c J t)))).trans g⟩
  .by_cases G:j=i;.subst G;rw[T]at g;cases g;rw[anH D]at C;cases C;exact⟨u,r,.inr ⟨.inl N,c,t,U⟩⟩
   .rw[anF (anY G)]at C;obtain⟨u',r',q⟩:=hl j y v' g C e3;refine⟨u',r',?_⟩;rcases q with q|⟨k,Z,e,z'⟩;.exact .inl q
    .refine .inr ⟨k,Z,e,z'.sameBut f ?_⟩;rintro rfl;exact G (pP hN g (I.ok.inj _ _ _ e t▸T))
  .by_cases O:Z=c;.subst O;exact⟨_,U⟩
   .obtain⟨w2,z2⟩:=I.cell y Z e;exact⟨w2,z2.sameBut f O⟩
  .refine ajg (I.pin p hp) λe n Y nf d=>?_;refine⟨(f.2 p.1 ?_).trans e,n,Y,nf,d⟩;intro q;rw[q,R]at e;have q':oc=p.2:=an3 e;exact d w' (by rw[<-q'];exact P)
def u3{M A E i x v u Q}(I:Inv X pins σ H s)(f:X.N.Nodup)(e:X.N[i]?=some x)(c:Loc X.env.scope x)(r:RelV v u)(h:∀a,Inv X pins (σ.set i (some v)) H a->Q () a)(b:FL X x:=by first|exact .inl rfl|exact .inr rfl|assumption):wpAny M A (storeName X.env x u) Q E s:=jk I f e c r (λa d _=>h _ d) b
def Inv.adh{s' ch}(I:Inv X pins σ H s)(g:s'.os=s.os)(u:Un (frs X.stack) ch H H' s.heap s'.heap)(a:HOk X.prog X.w H' s'.heap)(f:AllBare s'.gens)(d:∀b∈ch,(b∈X.ex\/X.s₀.heap.objs.size<=b)/\b≠X.env.locals/\(∀x c,X.env.cells.lookup x=some c->c≠b)/\∀p∈X.pn++pins,p.1≠b):Inv X pins σ H' s':=by obtain⟨h',i,k,h,j⟩:=s';have e:=g;subst e;exact I.call  u a f d
end
abbrev XK:=Value->Option Addr->Hp->Prop
abbrev St:=List (Option V)
abbrev VK:=V->Hp->Prop
abbrev TE:=St->Hp->VK->Prop
abbrev TT:=St->Hp->(Bool->Hp->Prop)->Prop
abbrev TA:=St->Hp->(List V->Hp->Prop)->Prop
structure Ends where
 nx:St->Hp->Prop
 rt:VK
 bk:St->Hp->Prop:=λ_ _=>False
 ct:St->Hp->Prop:=λ_ _=>False
abbrev TS:=Ends->St->Hp->Prop
def EP(X:Cx)(pins:List (Addr×Obj))(σ:St)(Q:VK)(u:Value)(s':Shared):Prop:=∃v a,Inv X pins σ a s'/\RelV v u/\Q v a
def TP(X:Cx)(pins:List (Addr×Obj))(σ:St)(Q:Bool->Hp->Prop)(b:Bool)(s':Shared):Prop:=∃a,Inv X pins σ a s'/\Q b a
def AP(X:Cx)(pins:List (Addr×Obj))(σ:St)(Q:List V->Hp->Prop)(us:List Value)(s':Shared):Prop:=∃b a,Inv X pins σ a s'/\Vals b us/\Q b a
def SP(X:Cx)(pins:List (Addr×Obj))(D:Ends)(f:Flow)(s':Shared):Prop:=match f with|.next=>∃a b,Inv X pins a b s'/\D.nx a b|.brk=>∃a b,Inv X pins a b s'/\D.bk a b|.cont=>∃a b,Inv X pins a b s'/\D.ct a b|.ret u=>∃v a b,Inv X pins a b s'/\RelV v u/\D.rt v b
def PE(X:Cx)(e:Expr)(t:TE):Prop:=∀(a:List (Addr×Obj))(s:Shared)(σ:St)(H:Hp)(Q:VK),Inv X a σ H s->t σ H Q->wpAny (model X.prog X.w) X.A (eval e X.env) (EP X a σ Q) X.xe s
def PT(X:Cx)(e:Expr)(t:TT):Prop:=∀(a:List (Addr×Obj))(s:Shared)(σ:St)(H:Hp)(Q:Bool->Hp->Prop),Inv X a σ H s->t σ H Q->wpAny (model X.prog X.w) X.A (isTrue e X.env (eval e X.env)) (TP X a σ Q) X.xe s
def PW(X:Cx)(e:Expr)(t:TT):Prop:=∀(b:Sem Value)(a:List (Addr×Obj))(s:Shared)(σ:St)(H:Hp)(Q:Bool->Hp->Prop),Inv X a σ H s->t σ H Q->wpAny (model X.prog X.w) X.A (isTrue e X.env b) (TP X a σ Q) X.xe s
def PW.pt{X e t}(h:PW X e t):PT X e t:=h _
def PA(X:Cx)(es:List Expr)(t:TA):Prop:=∀(b:Pos)(a:List (Addr×Obj))(s:Shared)(σ:St)(H:Hp)(Q:List V->Hp->Prop),Inv X a σ H s->t σ H Q->wpAny (model X.prog X.w) X.A (spliced (backTo b (starEach es X.env))) (AP X a σ Q) X.xe s
def PS(X:Cx)(st:Stmt)(t:TS):Prop:=∀(a:List (Addr×Obj))(s:Shared)(σ:St)(H:Hp)(D:Ends),Inv X a σ H s->t D σ H->wpAny (model X.prog X.w) X.A (exec st X.env) (SP X a D) X.xe s
def PSs(X:Cx)(st:List Stmt)(t:TS):Prop:=∀(a:List (Addr×Obj))(s:Shared)(σ:St)(H:Hp)(D:Ends),Inv X a σ H s->t D σ H->wpAny (model X.prog X.w) X.A (execs st X.env) (SP X a D) X.xe s
def thn{c t}{Q b:c->Shared->Prop}{M A E s}(h:wpAny M A t Q E s)(d:∀a s,Q a s->b a s):wpAny M A t b E s:=an9 h d λ_ _ x=>x
section
variable{X:Cx}
def jP(i:Nat):TE:=λσ H Q=>∃v,σ[i]?=some (some v)/\Q v H
def tC(v:V):TE:=λ_ H Q=>Q v H
def ahy{i x pos}(q:X.N[i]?=some x)(o:Vis X.env.scope x)(d:Dbg x:=by decide)(f:(x=="__classdict__")=false:=by decide):PE X (.Name x pos) (jP i):=by
 intro g s σ H Q I h;refine fy h λv e h=>?_;refine fy I.loc λm n p=>?_;obtain⟨u,r,l⟩:=p i x v q e o;have fin:EP X _ σ Q u s:=⟨v,H,I,r,h⟩;rcases l with⟨b,k⟩|⟨b,c,j,a⟩;.exact wpAny_Name (wpAny_loadName_local I.ok.kind b n k fin) d
 .rcases b with b|b;.exact wpAny_Name (wpAny_loadName_cell I.ok.kind b j a fin) d
  .exact wpAny_Name (wpAny_loadName_free I.ok.kind b j a fin f) d
def adY{i j pos}:PE X (.Constant (.int i) j pos) (tC (.int i)):=λ_ _ _ H _ I h=>wpAny_Constant_int ⟨.int i,H,I.tok _,⟨_,rfl⟩,h⟩
def akQ{b j pos}:PE X (.Constant (.bool b) j pos) (tC (.bl b)):=λ_ _ _ H _ I h=>Constant_bool ⟨.bl b,H,I,rfl,h⟩
def ahD{j pos}:PE X (.Constant .none j pos) (tC .non):=λ_ _ _ H _ I h=>Constant_none ⟨.non,H,I,rfl,h⟩
def kK{x j pos}:PE X (.Constant (.str x) j pos) (tC (.str x)):=λ_ _ _ H _ I h=>Calls.Constant_str ⟨.str x,H,I.tok _,⟨_,rfl⟩,h⟩
def Gl(X:Cx)(x:Str):Prop:=X.env.kindOf x=some .globalImplicit
def gg{E pins s}{σ:St}{H x u pos Q}(I:Inv X pins σ H s)(c:Gl X x)(b:X.mg x=some u)(h:Q u s)(a:Dbg x:=by decide):wpAny (model X.prog X.w) X.A (eval (.Name x pos) X.env) Q E s:=aqf I.ok.kind c (Calls.loadGlobal_global (by rw[I.ok.glob];exact I.mod.glob.keeps I.bk) b h) a
def jB{E pins s}{σ:St}{H x u pos Q}(I:Inv X pins σ H s)(g:Gl X x)(c:X.mg x=none)(f:bootBuiltins x=some u)(h:Q u s)(e:x≠"__name__":=by decide)(a:Dbg x:=by decide):wpAny (model X.prog X.w) X.A (eval (.Name x pos) X.env) Q E s:=by obtain⟨i,d,b⟩:=I.mod.blt;exact aqf I.ok.kind g (Calls.loadGlobal_builtin (by rw[I.ok.glob];exact I.mod.glob.keeps I.bk) c (by rw[I.ok.blt];exact d.keeps I.bk) ((b x e).trans f) h) a
def tK{x v u pos}(c:Gl X x)(b:X.mg x=some u)(r:RelV v u)(a:Dbg x:=by decide):PE X (.Name x pos) (tC v):=λ_ _ _ H _ I h=>gg I c b ⟨v,H,I,r,h⟩ a
def afm{x v u pos}(d:Gl X x)(c:X.mg x=none)(b:bootBuiltins x=some u)(r:RelV v u)(e:x≠"__name__":=by decide)(a:Dbg x:=by decide):PE X (.Name x pos) (tC v):=λ_ _ _ H _ I h=>jB I d c b ⟨v,H,I,r,h⟩ e a
variable{a b:Expr}{ta tb:TE}{pos:Pos}
def PC(X:Cx)(op:CmpOp)(a b:Expr)(t:TE):Prop:=∀(c:List (Addr×Obj))(s:Shared)(σ:St)(H:Hp)(Q:VK),Inv X c σ H s->t σ H Q->wpAny (model X.prog X.w) X.A (eval a X.env) (λv e=>wpAny (model X.prog X.w) X.A (eval b X.env) (λu d=>wpAny (model X.prog X.w) X.A (compareOp op v u) (EP X c σ Q) X.xe d) X.xe e) X.xe s
def acm(b:Expr){op:CmpOp}(h:op≠.In)(c:op≠.NotIn):behindInMarks op b=false:=by
 have d:(op==CmpOp.In)=false:=by cases op<;>first|rfl|exact absurd rfl h
 have e:(op==CmpOp.NotIn)=false:=by cases op<;>first|rfl|exact absurd rfl c
 cases b<;>first|rfl|(show(_&&(_||_)&&_)=false;simp[d,e])
def tB(t:TE):TT:=λσ H Q=>t σ H λx d=>∃c,x=.bl c/\Q c d
def ahn{e t}(h:PE X e t)(j:∀c,isTrue e X.env c=(do let v <-c;standAt e.pos;holding [v] (truthy v)):=by intro _;rfl):PT X e (tB t):=by intro f s σ H Q I hw;refine isTrue_plain (thn (h _ s σ H _ I hw) λv m⟨x,k,l,g,i⟩=>?_) (j _);obtain⟨d,rfl,q⟩:=i;cases g;exact ao8 ⟨k,l,q⟩
variable{tA tB':TT}{rest:List Expr}
def yX(t u:TT):TT:=λσ H Q=>t σ H λc d=>if c=true then u σ d Q else Q false d
def tOr(t u:TT):TT:=λσ H Q=>t σ H λc d=>if c=true then Q true d else u σ d Q
def abq(t:TT):TT:=λσ H Q=>t σ H λc d=>Q (!c) d
def afb(f:PT X a tA):PW X (.BoolOp .And [a] pos) tA:=by intro i d s σ H Q I h;refine isTrue_and (thn (f _ s σ H Q I h) λc g e=>?_);cases c with|true=>exact isTrue_and_nil e|false=>exact e
def ahl(f:PT X a tA):PW X (.BoolOp .Or [a] pos) tA:=by intro i d s σ H Q I h;refine isTrue_or (thn (f _ s σ H Q I h) λc g e=>?_);cases c with|false=>exact isTrue_or_nil e|true=>exact e
def ahm(i:PT X a tA)(g:PW X (.BoolOp .And (b::rest) pos) tB'):PW X (.BoolOp .And (a::b::rest) pos) (yX tA tB'):=by intro l e s σ H Q I h;refine isTrue_and (thn (i _ s σ H _ I h) λc k⟨j,f,d⟩=>?_);cases c with|true=>exact g _ _ _ σ _ Q f d|false=>exact⟨j,f,d⟩
def akL(i:PT X a tA)(g:PW X (.BoolOp .Or (b::rest) pos) tB'):PW X (.BoolOp .Or (a::b::rest) pos) (tOr tA tB'):=by intro l e s σ H Q I h;refine isTrue_or (thn (i _ s σ H _ I h) λc k⟨j,f,d⟩=>?_);cases c with|true=>exact⟨j,f,d⟩|false=>exact g _ _ _ σ _ Q f d
def aho(d:PT X a tA):PT X (.UnaryOp .Not a pos) (abq tA):=by intro c s σ H Q I h;exact isTrue_not (d _ s σ H _ I h)
def aks(ta tb:TE):TE:=λσ H Q=>ta σ H λx d=>∃c,x=.bl c/\if c=true then tb σ d Q else Q (.bl false) d
def akn(ta:TE):TE:=λσ H Q=>ta σ H λx d=>∃c,x=.bl c/\Q (.bl !c) d
def ahB{op t}(h:PE X a t):PE X (.BoolOp op [a] pos) t:=λc s σ H Q I hw=>BoolOp_one (h _ s σ H Q I hw)
def ahE(i:PE X a ta)(j:PE X (.BoolOp .And (b::rest) pos) tb):PE X (.BoolOp .And (a::b::rest) pos) (aks ta tb):=by intro e s σ H Q I h;refine BoolOp_and (thn (i _ s σ H _ I h) λv l⟨x,k,f,g,d⟩=>?_);obtain⟨c,rfl,d⟩:=d;cases g;refine ao8 ?_;cases c with|true=>exact j _ _ σ _ Q f d|false=>exact⟨.bl _,k,f,rfl,d⟩
def ahC(g:PE X a ta):PE X (.UnaryOp .Not a pos) (akn ta):=by intro e s σ H Q I h;refine UnaryOp_ (thn (g _ s σ H _ I h) λv k⟨x,i,j,f,d⟩=>?_);obtain⟨c,rfl,d⟩:=d;cases f;exact not_of (ao8 ⟨.bl _,i,j,rfl,d⟩)
def tIf(t:TT)(ta tb:TE):TE:=λσ H Q=>t σ H λc d=>if c=true then ta σ d Q else tb σ d Q
def ab9{c}(j:PT X c tA)(k:PE X a ta)(i:PE X b tb):PE X (.IfExp c a b pos) (tIf tA ta tb):=by intro f s σ H Q I h;refine wpAny_IfExp (thn (j _ s σ H _ I h) λd l⟨m,g,e⟩=>?_);cases d with|true=>exact k _ _ σ _ Q g e|false=>exact i _ _ σ _ Q g e
end
def SqL(K:W.Frag)(H:Hp)(a:Addr)(xs:List V):Prop:=Rd H a (.lst xs)\/∃(o:Obj)(b:Array Value)(n:Nat),K.lookup a=some o/\o.cls=.type "list"/\o.dict=none/\o.data=.seq b n/\b.size<=sizeLine/\Vals xs b.toList
def SqT(K:W.Frag)(H:Hp)(a:Addr)(xs:List V):Prop:=Rd H a (.tup xs)\/∃(o:Obj)(b:Array Value)(n:Nat),K.lookup a=some o/\o.cls=.type "tuple"/\o.data=.seq b n/\b.size<=sizeLine/\Vals xs b.toList
noncomputable def anw:Value->Option V|.none=>some .non|.bool b=>some (.bl b)|.int i _=>some (.int i)|.str x _=>some (.str x)|.bytes b _=>some (.byt b)|.float b _=>some (.flt b)|.ref a=>some (.ref a)|.type n=>some (.ty n)|_=>none
def RelV.abs{x u}(r:RelV x u):anw u=some x:=by cases x with|non|bl _=>cases r;rfl|int _|str _|byt _|flt _=>obtain⟨t,rfl⟩:=r;rfl|ref _|ty _=>cases r;rfl
def RelV.inj{x y u}(r:RelV x u)(q:RelV y u):x=y:=an3 (r.abs.symm.trans q.abs)
theorem Vals.inj:∀{xs ys us},Vals xs us->Vals ys us->xs=ys|_,_,_,.nil,.nil=>rfl|_,_,_,.cons r t,.cons r' t'=>by rw[r.inj r',Vals.inj t t']
section
variable{X:Cx}{pins:List (Addr×Obj)}{σ:St}{H:Hp}{s:Shared}{a:Addr}{xs ys:List V}
def SqL.of{K}(h:H a=some (.lst xs)):SqL K H a xs:=.inl (.inl h)
def SqT.of{K}(h:H a=some (.tup xs)):SqT K H a xs:=.inl (.inl h)
def Inv.list(I:Inv X pins σ H s)(h:SqL X.K H a xs):∃b,Vals xs b/\PlainL s.heap a b.toArray/\xs.length<=sizeLine:=by
 rcases h with h|⟨o,b,n,d,f,c,g,i,r⟩;.obtain⟨z,b,n,r,e⟩:=h.ok I.hok;exact⟨_,r,xY _ n e rfl rfl rfl,z⟩
 .refine⟨_,r,xY o n (I.kIn a o d) f c (by omega),?_⟩;have e:=r.length;simp  at e;omega
def Inv.tuple(I:Inv X pins σ H s)(h:SqT X.K H a xs):∃b,Vals xs b/\IsTup s.heap a b.toArray/\xs.length<=sizeLine:=by
 rcases h with h|⟨o,b,n,c,d,f,g,r⟩;.obtain⟨z,b,r,p⟩:=h.ok I.hok;exact⟨_,r,p,z⟩
 .refine⟨_,r,⟨o,I.kIn a o c,d,n,by omega⟩,?_⟩;have e:=r.length;simp  at e;omega
def Inv.pU(I:Inv X pins σ H s)(h:SqL X.K H a xs)(h':SqL X.K H a ys):xs=ys:=by
 obtain⟨c,r,⟨o,n,e,_,_,d⟩,_⟩:=I.list h;obtain⟨b,f,⟨i,g,j,_,_,k⟩,_⟩:=I.list h';have:c=b:=by grind
 subst this;exact r.inj f
def Inv.lE(I:Inv X pins σ H s)(h:SqT X.K H a xs)(h':SqT X.K H a ys):xs=ys:=by
 obtain⟨c,r,⟨o,e,_,n,d⟩,_⟩:=I.tuple h;obtain⟨b,f,⟨i,j,_,g,k⟩,_⟩:=I.tuple h';have:c=b:=by grind
 subst this;exact r.inj f
end
abbrev Cx.sS(X:Cx)(E:Value->Shared->Prop):Cx:={X with xe:=E}
abbrev Cx.nox(X:Cx):Cx:=X.sS λ_ _=>False
theorem Cx.Ok.sS{X:Cx}(ok:X.Ok)(E):(X.sS E).Ok:=⟨ok.mod,ok.kind,ok.glob,ok.blt,ok.above,ok.inj,ok.has,ok.cab,ok.hd,ok.frames,ok.stk,ok.exf,ok.bs,ok.bsz,ok.noex,ok.exfs,ok.qr,ok.frf⟩
def Cx.Ok.nF{X:Cx}{E}(ok:(X.sS E).Ok):X.Ok:=⟨ok.mod,ok.kind,ok.glob,ok.blt,ok.above,ok.inj,ok.has,ok.cab,ok.hd,ok.frames,ok.stk,ok.exf,ok.bs,ok.bsz,ok.noex,ok.exfs,ok.qr,ok.frf⟩
section
variable{X:Cx}{pins:List (Addr×Obj)}{σ:St}{H:Hp}{s:Shared}{E:Value->Shared->Prop}
theorem Inv.sS(I:Inv X pins σ H s)(E):Inv (X.sS E) pins σ H s:=⟨I.ok.sS E,I.os,I.bare,I.base,I.loc,I.cell,I.free,I.freeC,I.pin,I.hok,I.len⟩
theorem Inv.nF(I:Inv (X.sS E) pins σ H s):Inv X pins σ H s:=⟨I.ok.nF,I.os,I.bare,I.base,I.loc,I.cell,I.free,I.freeC,I.pin,I.hok,I.len⟩
theorem SP.nF{D f s'}(h:SP (X.sS E) pins D f s'):SP X pins D f s':=by cases f with|next|brk|cont=>obtain⟨b,a,I,q⟩:=h;exact⟨_,a,I.nF,q⟩|ret u=>refine wu h λv b a I r q=>?_;exact⟨v,_,a,I.nF,r,q⟩
theorem PSs.nox{st t}(h:PSs X.nox st t):PSs X st t:=λpins s σ H D I hw=>an9 (h _ s σ H D (I.sS _) hw) (λ_ _ q=>q.nF) λ_ _ z=>False.elim z
end
section
variable{X:Cx}{st:Stmt}{rest:List Stmt}{t u:TS}{e:Expr}{te:TE}{pos:Pos}
def ako:TS:=λD σ H=>D.nx σ H
def ag3(t u:TS):TS:=λD σ H=>t {D with nx:=u D} σ H
def zq:PSs X [] ako:=λ_ _ σ H _ I h=>apz ⟨σ,H,I,h⟩
def eZ(g:PS X st t)(c:PSs X rest u):PSs X (st::rest) (ag3 t u):=by intro a s σ H D I h;refine wpAny_execs_cons (thn (g _ s σ H _ I h) λf i q=>?_);cases f with|next=>obtain⟨d,j,b,q⟩:=q;exact c _ _ _ _ D b q|ret v=>exact q|brk=>exact q|cont=>exact q
def ma(b:PS X st t):PSs X [st] t:=by intro a s σ H D I h;refine wpAny_execs_cons (thn (b _ s σ H D I h) λf c q=>?_);cases f with|next=>exact apz q|ret v|brk|cont=>exact q
def Inv.quiet{pins}{σ:St}{H s}(I:Inv X pins σ H s):interactive X.env=false:=by simp[interactive,I.ok.kind]
def yU(te:TE):TS:=λD σ H=>te σ H λ_ a=>D.nx σ a
def me(b:PE X e te)(hs:swapsWith e none pos.line X.env=pure false:=by rfl):PS X (.Expr e pos) (yU te):=by intro a s σ H D I h;exact wpAny_Expr_any (thn (b _ s σ H _ I h) λv g⟨x,d,f,i,c⟩=>⟨σ,d,f,c⟩) I.quiet hs
def ang(te:TE):TS:=λD σ H=>te σ H D.rt
def adS(b:PE X e te):PS X (.Return (some e) pos) (ang te):=by intro a s σ H D I h;exact wpAny_Return_some (thn (b _ s σ H _ I h) λv i⟨x,f,g,c,d⟩=>⟨x,σ,f,g,c,d⟩)
def ani(c:TT)(t u:TS):TS:=λD σ H=>c σ H λb a=>if b=true then t D σ a else u D σ a
def ahq{c a b f}(m:PT X c f)(k:PSs X a t)(l:PSs X b u):PS X (.If c a b pos) (ani f t u):=by intro i s σ H D I h;refine wpAny_If (thn (m _ s σ H _ I h) λd n⟨o,j,g⟩=>?_);cases d with|true=>exact k _ _ σ _ D j g|false=>exact l _ _ σ _ D j g
end
abbrev TG:=V->St->Hp->(St->Hp->Prop)->Prop
abbrev TGs:=List V->St->Hp->(St->Hp->Prop)->Prop
def PG(X:Cx)(a:Expr)(t:TG):Prop:=∀(b:List (Addr×Obj))(s:Shared)(σ:St)(H:Hp)(v:V)(u:Value)(Q:St->Hp->Prop),Inv X b σ H s->RelV v u->t v σ H Q->wpAny (model X.prog X.w) X.A (assign a X.env u) (λ_ e=>∃c d,Inv X b c d e/\Q c d) X.xe s
def PGs(X:Cx)(ts:List Expr)(t:TGs):Prop:=∀(a:List (Addr×Obj))(s:Shared)(σ:St)(H:Hp)(e:List V)(d:List Value)(Q:St->Hp->Prop),Inv X a σ H s->Vals e d->t e σ H Q->wpAny (model X.prog X.w) X.A (assignInOrder ((assignEach ts X.env).map (·.2)) d) (λ_ f=>∃b c,Inv X a b c f/\Q b c) X.xe s
abbrev amd:=V->V->V->Hp->(Hp->Prop)->Prop
def am4(X:Cx)(t:amd):Prop:=∀(a:List (Addr×Obj))(s:Shared)(σ:St)(H:Hp)(o i v:V)(c d u:Value)(Q:Hp->Prop),Inv X a σ H s->RelV o c->RelV i d->RelV v u->t o i v H Q->wpAny (model X.prog X.w) X.A (setItem c d u) (λ_ e=>∃b,Inv X a σ b e/\Q b) X.xe s
section
variable{X:Cx}{pos:Pos}
def au(i:Nat):TG:=λv σ H Q=>Q (σ.set i (some v)) H
def i4{i x}(f:X.N.Nodup)(d:X.N[i]?=some x)(b:Loc X.env.scope x)(e:FL X x:=by first|exact .inl rfl|exact .inr rfl|assumption):PG X (.Name x pos) (au i):=by intro a s σ H v u Q I r h;exact aqk (u3 I f d b r (λg c=>⟨_,H,c,h⟩) e)
def kN:TGs:=λa σ H Q=>a=[]/\Q σ H
def bu(t:TG)(u:TGs):TGs:=λc σ H Q=>∃v r,c=v::r/\t v σ H λa b=>u r a b Q
def tH:PGs X [] kN:=by intro a s σ H c b Q I r h;obtain⟨e,h⟩:=h;exact assignInOrder_nil ⟨σ,H,I,h⟩
def iw{e es t u}(f:PG X e t)(b:PGs X es u)(hs:(assignEach (e::es) X.env).map (·.2)=assign e X.env::(assignEach es X.env).map (·.2):=by rfl):PGs X (e::es) (bu t u):=by intro a s σ H j l Q I r h;obtain⟨v,k,d,h⟩:=h;subst d;cases r with|cons r rr=>rw[hs];exact assignInOrder_cons (thn (f _ s σ H _ _ _ I r h) λ_ i⟨_,m,g,c⟩=>b _ _ _ _ _ _ Q g rr c)
def k7(K:W.Frag)(n:Nat)(t:TGs):TG:=λv σ H Q=>∃a b,v=.ref a/\SqT K H a b/\b.length=n/\t b σ H Q
def adW{es k t n}(p:X.calm=true)(h:PGs X es t)(l:(assignEach es X.env).length=n:=by rfl)(c:(assignEach es X.env).findIdx? (·.1)=none:=by rfl):PG X (.Tuple es k pos) (k7 X.K n t):=by intro d s σ H v u Q I r hw;obtain⟨a,z,j,f,q,hw⟩:=hw;subst j;cases r;refine je (I.tuple f) λg x i A=>?_;refine assign_Tuple_tuple (I.ok.hd p) i (by simp[l,<-q,x.length]) c λy m=>?_;have w:=I.kept (t':=s.toks) λb o e=>m b o (anW (anR e)) e;exact h _ _ σ H _ _ Q w (by grind) hw
def acV(c d:TE)(t:amd):TG:=λv σ H Q=>c σ H λo e=>d σ e λi b=>t o i v b λa=>Q σ a
def ahx{o i:Expr}{d e:TE}{t:amd}(C:PE X o d)(z:PE X i e)(hs:am4 X t)(k:∀v,assign (.Subscript o i pos) X.env v=(do
  let b <-holding [v] (eval o X.env)let c <-holding [v,b] (eval i X.env)standAt pos
  holding [v,b,c] (setItem b c v)release [v,b,c] []):=by intro _;rfl):PG X (.Subscript o i pos) (acV d e t):=by intro a s σ H v u Q I r h;rw[k];refine anE (aoN (thn (C a s σ H _ I h) λb n⟨x,B,E,g,j⟩=>?_));refine anE (aoN (thn (z a n σ B _ E j) λc q⟨y,A,w,m,D⟩=>?_));refine anE (apj (anE (aoN (thn (hs a q σ A x y v b c u _ w g m r D) λ_ G⟨p,f,l⟩=>?_))));exact wpAny_release ⟨σ,p,f,l⟩
def ag8(b:TE)(g:TG):TS:=λD σ H=>b σ H λx a=>g x σ a D.nx
def adU{a e b g}(j:PE X e b)(k:PG X a g)(hs:swapsWithSole [a] e pos.line X.env=pure false:=by rfl)(hw:swappedStores [a] e X.env=pure none:=by rfl)(i:(assignEach [a] X.env).map (·.2)=[assign a X.env]:=by rfl):PS X (.Assign [a] e pos) (ag8 b g):=by intro c s σ H D I h;refine wpAny_Assign_stores (thn (j _ s σ H _ I h) λv m⟨x,o,l,d,f⟩=>?_) hs hw;rw[i];exact thn (k _ _ σ _ x v _ l d f) λ_ n q=>q
def md{i x e b a}(j:X.N.Nodup)(n:X.N[i]?=some x)(k:Loc X.env.scope x)(l:PE X e b)(hs:swapsWith e (some (.Name x a)) pos.line X.env=pure false:=by rfl)(g:FL X x:=by first|exact .inl rfl|exact .inr rfl|assumption):PS X (.Assign [.Name x a] e pos) (ag8 b (au i)):=by intro c s σ H D I h;exact wpAny_Assign_Name (thn (l _ s σ H _ I h) λv q⟨y,o,p,d,f⟩=>u3 p j n k d (λr m=>⟨_,o,m,f⟩) g) hs
end
section
variable{X:Cx}{pos:Pos}
def ag2(c:TT)(tb:TS):TS:=λD σ H=>∃W:Nat->St->Hp->Prop,(∃m,W m σ H)/\∀m σ H,W m σ H->c σ H λb e=>if b=true then∃N:St->Hp->Prop,(∀a d,N a d->∃f,f<m/\W f a d)/\tb {D with nx:=N,ct:=N,bk:=D.nx} σ e else D.nx σ e
def vn{c e r tb}(w:PassesOwn (model X.prog X.w) X.A X.env X.xe)(K:PT X c r)(J:PSs X e tb):PS X (.While c e [] pos) (ag2 r tb):=by intro t s σ H D I h;obtain⟨W,⟨M,E⟩,turn⟩:=h;refine wpAny_While (codeAny_whileLoop (λn B=>∃g u,Inv X _ g u B/\W n g u) ?_ M ⟨σ,H,I,E⟩);rintro n C⟨d,z,O,w1⟩;refine ao4 w (thn (K _ C d z _ O (turn n d z w1)) λb G⟨y,x,k⟩=>?_);cases b with
|true=>refine fy k λN A k=>?_;refine ao4 w (thn (J _ G d y _ x k) λf P j=>?_);cases f with|next=>obtain⟨a,i,l,p⟩:=j;obtain⟨o,m,q⟩:=A a i p;exact⟨o,m,a,i,l,q⟩|cont=>obtain⟨a,i,l,p⟩:=j;obtain⟨o,m,q⟩:=A a i p;exact⟨o,m,a,i,l,q⟩|brk=>exact j|ret v=>exact j
|false=>exact apz ⟨d,y,x,k⟩
end
structure It where
 go:Nat->Hp->Prop
 yld:Nat->Hp->V->Hp->Prop
 stop:Nat->Hp->Prop
def uM(X:Cx)(pins:List (Addr×Obj))(H:Hp)(b:Addr):Prop:=H b=none/\b≠X.env.locals/\b∉X.fs/\(b∈X.ex\/X.s₀.heap.objs.size<=b)/\(∀x c,X.env.cells.lookup x=some c->c≠b)/\∀p∈X.pn++pins,p.1≠b
def Inv.aiH{X:Cx}{pins:List (Addr×Obj)}{σ:St}{H H':Hp}{s:Shared}{b:Addr}(I:Inv X pins σ H s)(a:s.heap.objs.size<=b)(f:H' b=none):uM X pins H' b:=by
 refine⟨f,aoc (anN I.lt a),I.anq a,.inr (anQ I.sz a),λx c e z=>?_,λp d z=>?_⟩;.obtain⟨v,q⟩:=I.cell x c e;exact absurd (anN q.lt (by rw[z];exact a)) (aoX _)
 .exact absurd (anN (anR (I.pin p d).1) (by rw[z];exact a)) (aoX _)
structure Turn(P:Program)(w:World)(K:W.Frag)(tg:Expr)(J:It)(fp:List Addr)(it:Addr)(tn:Nat->Heap->Prop)(cl:Cx->Hp->Prop:=λX _=>X.calm=true):Prop where
 mem:it∈fp
 obj:∀i h,tn i h->∀b∈fp,∃o,h.get? b=some o/\∀v,o.data≠.cell v
 keep:∀i h h',tn i h->(∀b∈fp,∀o,h.get? b=some o->h'.get? b=some o)->tn i h'
 item:∀(X:Cx),X.prog=P->X.w=w->X.K=K->∀(i:Nat)(pins:List (Addr×Obj))(s:Shared)(σ:St)(H:Hp)(E:Value->Shared->Prop),cl X H->Inv X pins σ H s->(∀b∈fp,uM X pins H b)->tn i s.heap->J.go i H->wpAny (model P w) X.A (pyNext (.ref it)) (λr s1=>∃u,r=some u/\wpAny (model P w) X.A (letOwnedTupleGo tg (.ref it) u) (λ_ s2=>∃x H',Inv X pins σ H' s2/\RelV x u/\J.yld i H x H'/\tn (i+1) s2.heap/\∀b∈fp,H' b=none) E s1) E s
 done:∀(X:Cx),X.prog=P->X.w=w->X.K=K->∀(i:Nat)(pins:List (Addr×Obj))(s:Shared)(σ:St)(H:Hp)(E:Value->Shared->Prop),cl X H->Inv X pins σ H s->(∀b∈fp,uM X pins H b)->tn i s.heap->J.stop i H->wpAny (model P w) X.A (pyNext (.ref it)) (λr s1=>r=none/\Inv X pins σ H s1) E s
 self:∀(A:Around)(i:Nat)(s:Shared)(Q:Value->Shared->Prop)(E:Value->Shared->Prop),tn i s.heap->Q (.ref it) s->wpAny (model P w) A (pyIter (.ref it)) Q E s
abbrev TI:=St->Hp->(It->Hp->Prop)->Prop
def PIE(X:Cx)(pins:List (Addr×Obj))(σ:St)(h:Expr)(R:It->Hp->Prop)(c:Value)(g:Shared):Prop:=∃(e:Addr)(d:List Addr)(f:Nat->Heap->Prop)(J:It)(a:Hp),c=.ref e/\Inv X pins σ a g/\Turn X.prog X.w X.K h J d e f/\f 0 g.heap/\(∀b∈d,uM X pins a b)/\R J a
def PI(X:Cx)(d b:Expr)(wi:TI):Prop:=∀(a:List (Addr×Obj))(s:Shared)(σ:St)(H:Hp)(R:It->Hp->Prop),Inv X a σ H s->wi σ H R->wpAny (model X.prog X.w) X.A (eval b X.env) (λv c=>wpAny (model X.prog X.w) X.A (pyIter v) (PIE X a σ d R) X.xe c) X.xe s
def acT{M A E s b it u o n vs Q}(e:s.heap.get? it=some o)(d:o.cls=.type n)(c:o.data=.fields vs)(f:["enumerate","zip","dict_itemiterator","dict_reverseitemiterator","odict_iterator","itertools.zip_longest","itertools.pairwise"].contains n=false)(a:Q () s):wpAny M A (letOwnedTupleGo b (.ref it) u) Q E s:=by cases b<;>first|exact anO a|(cases u<;>first|exact anO a| (refine anE (wpAny_load e ?_);rw[d,c];show wpAny M A (if(["enumerate","zip","dict_itemiterator","dict_reverseitemiterator","odict_iterator","itertools.zip_longest","itertools.pairwise"].contains n&&vs[0]?==some (rawInt _))=true then _ else _) Q E s;rw[anK (by grind)];exact anO a))
noncomputable def Itl(K:W.Frag)(a:Addr):It:=⟨λi H=>∃b x,SqL K H a b/\b[i]?=some x,λi H x c=>c=H/\∀b,SqL K H a b->b[i]?=some x,λi H=>∃b,SqL K H a b/\b.length<=i⟩
noncomputable def Itt(K:W.Frag)(a:Addr):It:=⟨λi H=>∃b x,SqT K H a b/\b[i]?=some x,λi H x c=>c=H/\∀b,SqT K H a b->b[i]?=some x,λi H=>∃b,SqT K H a b/\b.length<=i⟩
noncomputable def Itr(lo:Int)(n:Nat):It:=⟨λi _=>i<n,λi H x a=>a=H/\x=.int (lo+i),λi _=>n<=i⟩
def yI{P:Program}{w:World}{K:W.Frag}{tg:Expr}(a it:Addr):Turn P w K tg (Itl K a) [it] it λi h=>h.IsListIter it a i where
 mem:=by simp
 obj:=λi h st b hb=>by
  have e:b=it:=by simpa using hb
  subst e;obtain⟨o,e,c,d⟩:=st;exact⟨o,e,λv z=>by rw[d]at z;cases z⟩
 keep:=λi h h' st k=>st.at λo e=>k it (by simp) o e;item:=by intro X hP hw hK i pins s σ H E hc I hf st hg;subst hP hw hK;obtain⟨xs,x,hq,hx⟩:=hg;obtain⟨its,rv,p,hz⟩:=I.list hq;obtain⟨u,hu,ru⟩:=rv.get hx;obtain⟨f0,f1,f2,f3,f4,f5⟩:=hf it (by simp);refine wpAny_pyNext_list_item st p.isList (x:=u) (by simpa using hu) λh' st' sb=>?_;have I1:Inv X pins σ H {s with heap:=h'}:=I.turned (t':=s.toks) (λb o hb e=>(sb.2 b hb).trans e) f0 f1 f3 f4 f5;obtain⟨o,e,c,d⟩:=id st';exact⟨u,rfl,acT (s:={s with heap:=h'}) e c d (by decide) ⟨x,H,I1,ru,⟨rfl,λys hy=>by rw[I.pU hy hq];exact hx⟩,st',λb hb=>(hf b hb).1⟩⟩
 done:=by intro X hP hw hK i pins s σ H E hc I hf st hg;subst hP hw hK;obtain⟨xs,hq,hx⟩:=hg;obtain⟨its,rv,p,hz⟩:=I.list hq;obtain⟨f0,f1,f2,f3,f4,f5⟩:=hf it (by simp);have hl:=rv.length;exact wpAny_pyNext_list_end (I.ok.hd hc) st p.isList (by simp;omega) λh' eb=>⟨rfl,I.turned (t':=s.toks) (λb o hb e=>eb b o hb e) f0 f1 f3 f4 f5⟩
 self:=λ_ _ _ _ _ st h=>wpAny_pyIter_listiter st h
def wF{P:Program}{w:World}{K:W.Frag}{tg:Expr}(a it:Addr):Turn P w K tg (Itt K a) [it] it λi h=>h.IsTupleIter it a i where
 mem:=by simp
 obj:=λi h st b hb=>by
  have e:b=it:=by simpa using hb
  subst e;obtain⟨o,e,c,d⟩:=st;exact⟨o,e,λv z=>by rw[d]at z;cases z⟩
 keep:=λi h h' st k=>st.at λo e=>k it (by simp) o e;item:=by intro X hP hw hK i pins s σ H E hc I hf st hg;subst hP hw hK;obtain⟨xs,x,hq,hx⟩:=hg;obtain⟨its,rv,p,hz⟩:=I.tuple hq;obtain⟨u,hu,ru⟩:=rv.get hx;obtain⟨f0,f1,f2,f3,f4,f5⟩:=hf it (by simp);refine wpAny_pyNext_tuple_item st (show s.heap.IsTuple a its.toArray from p) (x:=u) (by simpa using hu) λh' st' sb=>?_;have I1:Inv X pins σ H {s with heap:=h'}:=I.turned (t':=s.toks) (λb o hb e=>(sb.2 b hb).trans e) f0 f1 f3 f4 f5;obtain⟨o,e,c,d⟩:=id st';exact⟨u,rfl,acT (s:={s with heap:=h'}) e c d (by decide) ⟨x,H,I1,ru,⟨rfl,λys hy=>by rw[I.lE hy hq];exact hx⟩,st',λb hb=>(hf b hb).1⟩⟩
 done:=by intro X hP hw hK i pins s σ H E hc I hf st hg;subst hP hw hK;obtain⟨xs,hq,hx⟩:=hg;obtain⟨its,rv,p,hz⟩:=I.tuple hq;obtain⟨f0,f1,f2,f3,f4,f5⟩:=hf it (by simp);have hl:=rv.length;exact wpAny_pyNext_tuple_end (I.ok.hd hc) st (show s.heap.IsTuple a its.toArray from p) (by simp;omega) λh' eb=>⟨rfl,I.turned (t':=s.toks) (λb o hb e=>eb b o hb e) f0 f1 f3 f4 f5⟩
 self:=λ_ _ _ _ _ st h=>wpAny_pyIter_tupleiter st h
def wG{P:Program}{w:World}{K:W.Frag}{tg:Expr}(it:Addr)(lo:Int)(n:Nat):Turn P w K tg (Itr lo n) [it] it λi h=>IsRangeIter h it (lo+(i:Nat)*1) ((n:Int)-(i:Nat)) 1 where
 mem:=by simp
 obj:=λi h st b hb=>by
  have e:b=it:=by simpa using hb
  subst e;exact⟨_,st,λv z=>by have z':Data.fields _=Data.cell v:=z;cases z'⟩
 keep:=λi h h' st k=>k it (by simp) _ st;item:=by intro X hP hw hK i pins s σ H E hc I hf st hg;subst hP hw hK;obtain⟨f0,f1,f2,f3,f4,f5⟩:=hf it (by simp);have W:=Walks.range (prog:=X.prog) (w:=X.w) (I.ok.hd hc) it lo 1 n;refine W.item i s _ _ hg st λv h' tk hv st' kk=>?_;obtain⟨t,rfl⟩:=hv;have I1:Inv X pins σ H {s with heap:=h',toks:=tk}:=I.turned (λb o hb e=>kk b o (by simpa using hb) e) f0 f1 f3 f4 f5;refine⟨_,rfl,acT (s:={s with heap:=h',toks:=tk}) (n:="range_iterator") st' rfl rfl (by decide) ⟨.int (lo+i),H,I1,⟨t,?_⟩,⟨rfl,rfl⟩,st',λb hb=>(hf b hb).1⟩⟩;rw[Int.mul_one]
 done:=by intro X hP hw hK i pins s σ H E hc I hf st hg;subst hP hw hK;obtain⟨f0,f1,f2,f3,f4,f5⟩:=hf it (by simp);exact wpAny_pyNext_range_end (I.ok.hd hc) st (by have:n<=i:=hg;omega) λh' eb=>⟨rfl,I.turned (t':=s.toks) (λb o hb e=>eb b o hb e) f0 f1 f3 f4 f5⟩
 self:=λ_ _ _ _ _ st h=>wpAny_pyIter_rangeiter st h
section
variable{X:Cx}{tg:Expr}
def vl{pins}{σ:St}{H s R E lo a t u v tk}(I:Inv X pins σ H s)(h:-2^62<=lo)(d:lo<2^62)(j:-2^62<=a)(g:a<2^62)(q:R (Itr lo (a-lo).toNat) H):wpAny (model X.prog X.w) X.A (pyIter (.ref s.heap.objs.size)) (PIE X pins σ tg R) E {s with heap:=s.heap.push {cls:=.type "range",data:=.fields #[.int lo t,.int a u,.int 1 v]},toks:=tk}:=by
 refine wpAny_pyIter_range (IsRange.new ..) (small_one h d j g) ?_;have c:Inv X pins σ H {s with heap:=s.heap.push {cls:=.type "range",data:=.fields #[.int lo t,.int a u,.int 1 v]},toks:=tk}:=I.kept λb o e=>anG _ e;refine⟨_,_,_,_,H,rfl,c.kept (t':=tk) λb o e=>anG _ e,wG _ lo _,?_,λb i=>?_,q⟩
 .have f:lo+((0:Nat):Int)*1=lo:=by simp
  have k:(((a-lo).toNat:Nat):Int)-((0:Nat):Int)=Builtin.Range.rangeSize lo a 1:=by rw[rangeSize_one];split<;>omega
  rw[f,k];exact anT _ rfl
 .have e:b=(s.heap.push {cls:=.type "range",data:=.fields #[.int lo t,.int a u,.int 1 v]}).objs.size:=by simpa using i
  subst e;exact c.aiH (anP _) (c.hok.fresh (anP _))
def gi(ta:TA):TI:=λσ H R=>ta σ H λb a=>∃j:Int,b=[.int j]/\-2^62<=j/\j<2^62/\R (Itr 0 j.toNat) a
def rS(ta:TA):TI:=λσ H R=>ta σ H λb a=>∃i j:Int,b=[.int i,.int j]/\(-2^62<=i/\i<2^62/\-2^62<=j/\j<2^62)/\R (Itr i (j-i).toNat) a
def mf{a ta p pos}(i:Gl X "range")(f:X.mg "range"=none)(g:PA X [a] ta)(hs:starEach [a] X.env=[(false,eval a X.env)]:=by rfl):PI X tg (.Call (.Name "range" p) [a] [] pos) (gi ta):=by intro c s σ H R I h;refine Call_ (jB I i f aqS (aoq (thn (g _ _ s σ H _ I h) λo m⟨n,u,l,d,b⟩=>?_) hs rfl));obtain⟨j,e,b,k,q⟩:=b;subst e;cases d with|cons r rr=>cases rr;obtain⟨t,rfl⟩:=r;exact call_range_1 (vl l (by omega) (by omega) b k (by grind))
def zx{a b ta p pos}(o:Gl X "range")(l:X.mg "range"=none)(m:PA X [a,b] ta)(hs:starEach [a,b] X.env=[(false,eval a X.env),(false,eval b X.env)]:=by rfl)(d:starEach [b] X.env=[(false,eval b X.env)]:=by rfl):PI X tg (.Call (.Name "range" p) [a,b] [] pos) (rS ta):=by intro f s σ H R I h;refine Call_ (jB I o l aqS (aoq (thn (m pos _ s σ H _ I h) λz w⟨x,A,v,k,c⟩=>?_) (by grind) (by rw[d];rfl)));obtain⟨i,j,e,⟨c,u,n,g⟩,q⟩:=c;subst e;cases k with|cons r rr=>cases rr with|cons r' rr=>cases rr;obtain⟨t,rfl⟩:=r;obtain⟨y,rfl⟩:=r';exact call_range_2 (vl v c u n g q)
def amt(wi:TI)(g:TG)(tb:TS):TS:=λD σ H=>wi σ H λJ f=>∃W:Nat->Nat->St->Hp->Prop,(∃m,W 0 m σ f)/\∀i m σ H,W i m σ H->J.stop i H/\D.nx σ H\/J.go i H/\∃N:St->Hp->Prop,(∀b a,N b a->∃d,d<m/\W (i+1) d b a)/\∀x a,J.yld i H x a->g x σ a λc e=>tb {D with nx:=N,ct:=N,bk:=D.nx} c e
noncomputable def rg(a:List Addr)(h:Heap):List (Addr×Obj):=a.filterMap λb=>(h.get? b).map λo=>(b,o)
def ix{a h b o}(c:b∈a)(e:h.get? b=some o):(b,o)∈rg a h:=apB.mpr ⟨b,c,by grind⟩
def zQ{a h p}(d:p∈rg a h):p.1∈a/\h.get? p.1=some p.2:=by obtain⟨b,c,e⟩:=apB.mp d;cases q:h.get? b with|none=>rw[q]at e;cases e|some o=>rw[q]at e;have f:=an3 e;subst f;exact⟨c,q⟩
def Inv.pinned{pins}{σ:St}{H s a}(I:Inv X pins σ H s)(g:∀b∈a,uM X pins H b)(l:∀b∈a,∃o,s.heap.get? b=some o/\∀v,o.data≠.cell v):Inv X (pins++rg a s.heap) σ H s:=I.fk λp h=>(aou.mp h).elim (λz=>I.pin p (anZ _ z)) λz=>by obtain⟨f,e⟩:=zQ z;refine aj5 (g _ f) λk i j _=>?_;refine fy (l _ f) λo c d=>?_;rw[e]at c;cases c;exact⟨e,k,i,j,d⟩
def Inv.oY{pins pl}{σ:St}{H s}(I:Inv X (pins++pl) σ H s):Inv X pins σ H s:=I.fk λp a=>I.pin p (anZ _ (aob _ a))
def adT{p z wi g tb pos}(M:PassesOwn (model X.prog X.w) X.A X.env X.xe)(hc:X.calm=true)(hi:PI X tg p wi)(hg:PG X tg g)(q:PSs X z tb)(hs:∀x,foldedSetIterable p X.env x=pure x:=by intro _;rfl):PS X (.For tg p z [] pos) (amt wi g tb):=by
 intro a s σ H D I h;refine wpAny_For (thn (hi a s σ H _ I h) λv s1 h1=>thn h1 λa0 s2 h2=>?_) hs;obtain⟨it,G,tn,J,H2,e,I2,T,P,f2,W,⟨m0,w0⟩,turn⟩:=h2;subst e;-- what stays true of the iterator's objects through the loop
 have l:∀{w:Hp},(∀b∈G,w b=none)->∀b∈G,uM X a w b:=λhn b q=>⟨hn b q,(f2 b q).2⟩;refine codeAny_forLoop_any (λn s'=>∃i k w,Inv X a k w s'/\tn i s'.heap/\(∀b∈G,w b=none)/\W i n k w) ?_ m0 (qt 0 σ H2 I2 P (λb q=>(f2 b q).1) w0);rintro n s3⟨i,j,O,I3,K,E,w3⟩;rcases turn i n j O w3 with⟨C,qn⟩|⟨go,N,hN,step⟩;.refine ao4 M (thn (T.done X rfl rfl rfl i a s3 j O X.xe hc I3 (l E) K C) λr s4⟨S,I4⟩=>?_);subst S;exact apz ⟨j,O,I4,qn⟩
 .refine ao4 M (thn (T.item X rfl rfl rfl i a s3 j O X.xe hc I3 (l E) K go) λr s4⟨u,S,h4⟩=>?_);subst S;refine ao4 M (thn h4 λ_ s5⟨x,H5,I5,r5,y5,A,Z⟩=>?_);have Y:=I5.pinned (l Z) (T.obj _ _ A);refine ao4 M (thn (hg _ s5 j H5 x u _ Y r5 (step x H5 y5)) λ_ s6⟨U,H6,I6,q6⟩=>?_);refine ao4 M (thn (q _ s6 U H6 _ I6 q6) λf Q B=>?_);have again:∀{c:St}{t:Hp},Inv X (a++rg G s5.heap) c t Q->N c t->∃m,m<n/\∃i k w,Inv X a k w Q/\tn i Q.heap/\(∀b∈G,w b=none)/\W i m k w:=λ{c t}y R=>by refine fy (hN c t R) λm' hm w7=>?_;refine⟨m',hm,i+1,c,t,y.oY,T.keep _ _ _ A λb q o e=>(y.pin (b,o) (anZ _ (anZ _ (ix q e)))).1,λb q=>?_,w7⟩;obtain⟨o,e,d⟩:=T.obj _ _ A b q;exact(y.pin (b,o) (anZ _ (anZ _ (ix q e)))).2.1
  cases f with|next|cont=>obtain⟨c,t,y,R⟩:=B;exact again y R|brk=>refine dE B λc t y B=>?_;exact⟨c,t,y.oY,B⟩|ret v=>refine wu B λx7 c t y r7 B=>?_;exact aex x7 c t y.oY r7 B
end
abbrev R2:=V->V->Hp->VK->Prop
def OpR(X:Cx)(f:Value->Value->Sem Value)(r:R2):Prop:=∀(a:List (Addr×Obj))(s:Shared)(σ:St)(H:Hp)(x y:V)(v u:Value)(Q:VK),Inv X a σ H s->RelV x v->RelV y u->r x y H Q->wpAny (model X.prog X.w) X.A (f v u) (EP X a σ Q) X.xe s
def UnR(X:Cx)(f:Value->Sem Value)(r:V->Hp->VK->Prop):Prop:=∀(a:List (Addr×Obj))(s:Shared)(σ:St)(H:Hp)(x:V)(v:Value)(Q:VK),Inv X a σ H s->RelV x v->r x H Q->wpAny (model X.prog X.w) X.A (f v) (EP X a σ Q) X.xe s
def bN(X:Cx)(f:Value)(r:List V->Hp->VK->Prop):Prop:=∀(a:List (Addr×Obj))(s:Shared)(σ:St)(H:Hp)(c:List V)(b:List Value)(Q:VK),Inv X a σ H s->Vals c b->r c H Q->wpAny (model X.prog X.w) X.A (call f b) (EP X a σ Q) X.xe s
def tOp(r:R2)(ta tb:TE):TE:=λσ H Q=>ta σ H λx b=>tb σ b λy a=>r x y a Q
def tUn(r:V->Hp->VK->Prop)(ta:TE):TE:=λσ H Q=>ta σ H λx a=>r x a Q
def rI(C:Int->Int->Prop)(g:Int->Int->V):R2:=λx y H Q=>∃i j,x=.int i/\y=.int j/\C i j/\Q (g i j) H
def rI0(g:Int->Int->V):R2:=λx y H Q=>∃i j,x=.int i/\y=.int j/\Q (g i j) H
def rU(g:Int->V):V->Hp->VK->Prop:=λx H Q=>∃i,x=.int i/\Q (g i) H
section
variable{X:Cx}{a b c:Expr}{ta tb tc:TE}{pos:Pos}
def al4(m:PE X a ta)(p:PE X b tb){pins s}{σ:St}{H}{R:V->V->Hp->Prop}(I:Inv X pins σ H s)(h:ta σ H λx j=>tb σ j λy d=>R x y d){Q}{f:Value->Value->Sem Value}(n:∀v u i x y d,Inv X pins σ d i->RelV x v->RelV y u->R x y d->wpAny (model X.prog X.w) X.A (f v u) Q X.xe i):wpAny (model X.prog X.w) X.A (eval a X.env) (λv g=>wpAny (model X.prog X.w) X.A (eval b X.env) (λu e=>wpAny (model X.prog X.w) X.A (f v u) Q X.xe e) X.xe g) X.xe s:=by exact thn (m _ s σ H _ I h) λv w⟨x,j,t,k,l⟩=>thn (p _ _ σ _ _ t l) λu i⟨y,d,o,q,r⟩=>n v u _ x y _ o k q r
def ahA{op r}(k:OpR X (binaryOp op) r)(e:PE X a ta)(j:PE X b tb):PE X (.BinOp a op b pos) (tOp r ta tb):=by intro d s σ H Q I h;exact wpAny_BinOp (al4 e j I h λv u l x y m g i f q=>k _ _ σ _ x y v u Q g i f q)
def akO{op r}(i:UnR X (unaryOp op) r)(g:PE X a ta):PE X (.UnaryOp op a pos) (tUn r ta):=by intro d s σ H Q I h;exact UnaryOp_ (thn (g _ s σ H _ I h) λv k⟨x,l,j,e,f⟩=>i _ _ σ _ x v Q j e f)
def opI{f C}{g:Int->Int->Int}(rule:∀i j t u s Q E,C i j->Q (.int (g i j) s.toks) {s with toks:=s.toks+1}->wpAny (model X.prog X.w) X.A (f (.int i t) (.int j u)) Q E s):OpR X f (rI C λi j=>.int (g i j)):=by intro k s σ H x y v u Q I m l h;refine jQ h λi j d e n q=>?_;subst d e;obtain⟨t,rfl⟩:=m;obtain⟨o,rfl⟩:=l;exact rule i j t _ s _ _ n (jd (.int _) H (I.tok _) ⟨_,rfl⟩ q)
def amE{f}{g:Int->Int->Int}(rule:∀i j t u s Q E,Q (.int (g i j) s.toks) {s with toks:=s.toks+1}->wpAny (model X.prog X.w) X.A (f (.int i t) (.int j u)) Q E s):OpR X f (rI0 λi j=>.int (g i j)):=by intro k s σ H x y v u Q I m l h;refine gH h λi j d e q=>?_;subst d e;obtain⟨t,rfl⟩:=m;obtain⟨n,rfl⟩:=l;exact rule i j t _ s _ _ (jd (.int _) H (I.tok _) ⟨_,rfl⟩ q)
def ajs{f}{g:Int->Int->Bool}(rule:∀i j t u s Q E,Q (.bool (g i j)) s->wpAny (model X.prog X.w) X.A (f (.int i t) (.int j u)) Q E s):OpR X f (rI0 λi j=>.bl (g i j)):=by intro d s σ H x y v u Q I k e h;obtain⟨i,j,rfl,rfl,q⟩:=h;obtain⟨t,rfl⟩:=k;obtain⟨l,rfl⟩:=e;exact rule i j t _ s _ _ ⟨.bl _,H,I,rfl,q⟩
def anz(i j:Int):Prop:=0<=j/\j<=1000000/\i.natAbs<2^64
def amj(i j:Int):Prop:=-2^64<i/\i<2^64\/-2^64<j/\j<2^64
def amj.ok{i j}(h:amj i j):IntMulOk i j:=by
 rcases h with⟨e,d⟩|⟨e,d⟩;.exact .of_left (intBits_le_64 e d)
 .exact .of_right (intBits_le_64 e d)
def ahQ:OpR X (binaryOp .Add) (rI0 λi j=>.int (i+j)):=amE λ_ _ _ _ _ _ _ q=>add_int q
def ahH:OpR X (binaryOp .Sub) (rI0 λi j=>.int (i-j)):=amE λ_ _ _ _ _ _ _ q=>sub_int q
def ahK:OpR X (binaryOp .Mult) (rI amj λi j=>.int (i*j)):=opI λ_ _ _ _ _ _ _ d q=>mul_int q d.ok
def ahL:OpR X (binaryOp .Mod) (rI (λ_ j=>0<j) λi j=>.int (i%j)):=opI λi j _ _ _ _ _ d q=>by have e:(0:Int)<j:=d;exact mod_int' (by omega) (by rw[Int.fmod_eq_emod_of_nonneg i (by omega)];exact q)
def ahI:OpR X (binaryOp .Pow) (rI anz λi j=>.int (i^j.toNat)):=opI λ_ _ _ _ _ _ _ d q=>pow_int_small d.1 d.2.1 d.2.2 q
def unI{f}{g:Int->Int}(rule:∀i t s Q E,Q (.int (g i) s.toks) {s with toks:=s.toks+1}->wpAny (model X.prog X.w) X.A (f (.int i t)) Q E s):UnR X f (rU λi=>.int (g i)):=by intro d s σ H x v Q I e h;obtain⟨i,rfl,q⟩:=h;obtain⟨t,rfl⟩:=e;exact rule i t s _ _ ⟨.int _,H,I.tok _,⟨_,rfl⟩,q⟩
def agX:UnR X (unaryOp .USub) (rU λi=>.int (-i)):=unI λ_ _ _ _ _ q=>neg_int q
end
noncomputable def akz:V->V->Bool|.non,.non=>true|.non,.int _=>true|.int _,.non=>true|.non,.bl _=>true|.bl _,.non=>true|.non,.str _=>true|.str _,.non=>true|.int _,.int _=>true|.bl _,.bl _=>true|.str _,.str _=>true|.byt _,.byt _=>true|.int _,.str _=>true|.str _,.int _=>true|.bl _,.str _=>true|.str _,.bl _=>true|_,_=>false
def rEq:R2:=λx y H Q=>akz x y=true/\Q (.bl (decide (x=y))) H
def rNe:R2:=λx y H Q=>akz x y=true/\Q (.bl !decide (x=y)) H
def um{i j:Int}:decide (V.int i=V.int j)=(i==j):=by rw[aof];simp
def aaY{i j:Bool}:decide (V.bl i=V.bl j)=(i==j):=by rw[aof];simp
def uk{i j:Str}:decide (V.str i=V.str j)=(i==j):=by rw[aof];simp
def aaX{i j}:decide (V.byt i=V.byt j)=(i.toList==j.toList):=by rw[aof];cases i;cases j;simp
section
variable{X:Cx}{a b c:Expr}{ta tb tc:TE}{pos:Pos}
def bp{pins}{σ:St}{H s Q k k'}(I:Inv X pins σ H s)(q:Q (.bl k) H)(e:k=k'):EP X pins σ Q (.bool k') s:=by subst e;exact⟨.bl k,H,I,rfl,q⟩
def akX:OpR X (compareOp .Eq) rEq:=by intro k s σ H x y v u Q I g d h;obtain⟨f,q⟩:=h;cases x with
|non=>cases g;cases y with|non=>cases d;exact PySem.EqNone.eq_none_none (bp I q (by simp))|bl j=>cases d;exact PySem.EqNone.eq_none_bool (bp I q (by simp))|int j=>obtain⟨e,rfl⟩:=d;exact PySem.EqNone.eq_none_int (bp I q (by simp))|str j=>obtain⟨e,rfl⟩:=d;exact PySem.EqNone.eq_none_str (bp I q (by simp))|_=>exact absurd (show false=true from f) an5
|bl i=>cases g;cases y with|non=>cases d;exact PySem.EqNone.eq_bool_none (bp I q (by simp))|bl j=>cases d;exact eq_bool (bp I q aaY)|str j=>obtain⟨e,rfl⟩:=d;exact PySem.EqMixed.eq_bool_str (bp I q (by simp))|_=>exact absurd (show false=true from f) an5
|int i=>obtain⟨t,rfl⟩:=g;cases y with|non=>cases d;exact PySem.EqNone.eq_int_none (bp I q (by simp))|int j=>obtain⟨e,rfl⟩:=d;exact eq_int (bp I q um)|str j=>obtain⟨e,rfl⟩:=d;exact PySem.EqMixed.eq_int_str (bp I q (by simp))|_=>exact absurd (show false=true from f) an5
|str i=>obtain⟨t,rfl⟩:=g;cases y with|non=>cases d;exact PySem.EqNone.eq_str_none (bp I q (by simp))|bl j=>cases d;exact PySem.EqMixed.eq_str_bool (bp I q (by simp))|int j=>obtain⟨e,rfl⟩:=d;exact PySem.EqMixed.eq_str_int (bp I q (by simp))|str j=>obtain⟨e,rfl⟩:=d;exact eq_str (bp I q uk)|_=>exact absurd (show false=true from f) an5
|byt i=>obtain⟨t,rfl⟩:=g;cases y with|byt j=>obtain⟨e,rfl⟩:=d;exact W.eq_bytes (bp I q aaX)|_=>exact absurd (show false=true from f) an5
|_=>cases y<;>exact absurd (show false=true from f) an5
def akS:OpR X (compareOp .NotEq) rNe:=by intro k s σ H x y v u Q I g d h;obtain⟨f,q⟩:=h;cases x with
|non=>cases g;cases y with|non=>cases d;exact PySem.EqNone.ne_none_none (bp I q (by simp))|bl j=>cases d;exact PySem.EqNone.ne_none_bool (bp I q (by simp))|int j=>obtain⟨e,rfl⟩:=d;exact PySem.EqNone.ne_none_int (bp I q (by simp))|str j=>obtain⟨e,rfl⟩:=d;exact PySem.EqNone.ne_none_str (bp I q (by simp))|_=>exact absurd (show false=true from f) an5
|bl i=>cases g;cases y with|non=>cases d;exact PySem.EqNone.ne_bool_none (bp I q (by simp))|bl j=>cases d;exact ne_bool (bp I q (apS not aaY))|str j=>obtain⟨e,rfl⟩:=d;exact PySem.EqMixed.ne_bool_str (bp I q (by simp))|_=>exact absurd (show false=true from f) an5
|int i=>obtain⟨t,rfl⟩:=g;cases y with|non=>cases d;exact PySem.EqNone.ne_int_none (bp I q (by simp))|int j=>obtain⟨e,rfl⟩:=d;exact ne_int (bp I q (apS not um))|str j=>obtain⟨e,rfl⟩:=d;exact PySem.EqMixed.ne_int_str (bp I q (by simp))|_=>exact absurd (show false=true from f) an5
|str i=>obtain⟨t,rfl⟩:=g;cases y with|non=>cases d;exact PySem.EqNone.ne_str_none (bp I q (by simp))|bl j=>cases d;exact PySem.EqMixed.ne_str_bool (bp I q (by simp))|int j=>obtain⟨e,rfl⟩:=d;exact PySem.EqMixed.ne_str_int (bp I q (by simp))|str j=>obtain⟨e,rfl⟩:=d;exact ne_str (bp I q (apS not uk))|_=>exact absurd (show false=true from f) an5
|byt i=>obtain⟨t,rfl⟩:=g;cases y with|byt j=>obtain⟨e,rfl⟩:=d;exact W.ne_bytes (bp I q (apS not aaX))|_=>exact absurd (show false=true from f) an5
|_=>cases y<;>exact absurd (show false=true from f) an5
def akT:OpR X (compareOp .Lt) (rI0 λi j=>.bl (decide (i<j))):=ajs λ_ _ _ _ _ _ _ q=>lt_int q
def akU:OpR X (compareOp .LtE) (rI0 λi j=>.bl (decide (i<=j))):=ajs λ_ _ _ _ _ _ _ q=>le_int q
def akV:OpR X (compareOp .Gt) (rI0 λi j=>.bl (decide (j<i))):=ajs λ_ _ _ _ _ _ _ q=>gt_int q
def akW:OpR X (compareOp .GtE) (rI0 λi j=>.bl (decide (j<=i))):=ajs λ_ _ _ _ _ _ _ q=>ge_int q
def ahM:OpR X (compareOp .Is) λx y H Q=>y=.non/\Q (.bl (decide (x=.non))) H:=by intro d s σ H x y v u Q I f e h;obtain⟨rfl,q⟩:=h;cases e;refine is_none_gen (bp I q ?_);cases x<;>(obtain⟨t,rfl⟩:=f;rfl)
def afn:OpR X (compareOp .IsNot) λx y H Q=>y=.non/\Q (.bl !decide (x=.non)) H:=by intro d s σ H x y v u Q I f e h;obtain⟨rfl,q⟩:=h;cases e;refine isnot_none_gen (bp I q ?_);cases x<;>(obtain⟨t,rfl⟩:=f;rfl)
def OpR.or{f r g}(h:OpR X f r)(h':OpR X f g):OpR X f λx y H Q=>r x y H Q\/g x y H Q:=by
 intro i s σ H x y v u Q I e d q;rcases q with q|q;.exact h _ s σ H x y v u Q I e d q
 .exact h' _ s σ H x y v u Q I e d q
def dv(b){op}(h:op≠.In:=by decide)(d:op≠.NotIn:=by decide):behindInMarks op b=false:=acm b h d
def zA{op r}(l:OpR X (compareOp op) r)(f:PE X a ta)(k:PE X b tb)(e:behindInMarks op b=false):PE X (.Compare a [op] [b] pos) (tOp r ta tb):=by intro d s σ H Q I h;exact wpAny_Compare1 (al4 f k I h λv u m x y n i j g q=>l _ _ σ _ x y v u Q i j g q) e
def sW(t:TE):TT:=λσ H Q=>t σ H λx d=>∃k,x=.bl k/\Q k d
def zo{op r}(A:OpR X (compareOp op) r)(n:PE X a ta)(q:PE X b tb)(m:behindInMarks op b=false):PT X (.Compare a [op] [b] pos) (sW (tOp r ta tb)):=by intro d s σ H Q I h;refine wpAny_isTrue_Compare1 (thn (n _ s σ H _ I h) λv C⟨x,J,B,i,l⟩=>thn (q _ _ σ _ _ B l) λu D⟨y,G,p,t,w⟩=>thn (A _ _ σ _ x y v u _ p i t w) λc E⟨z,f,g,j,k,e,o⟩=>?_) m;subst e;cases j;exact ao8 ⟨f,g,o⟩
def adI(r h:R2)(ta tb tc:TE):TE:=λσ H Q=>ta σ H λx i=>tb σ i λy f=>r x y f λz d=>∃k,z=.bl k/\if k=true then tc σ d λe g=>h y e g Q else Q (.bl false) d
def aca{op g r o}(Y:OpR X (compareOp op) r)(i:OpR X (compareOp g) o)(A:PE X a ta)(N:PE X b tb)(R:PE X c tc)(t:lastMarks [op,g] [b,c]=false:=by with_unfolding_all rfl):PE X (.Compare a [op,g] [b,c] pos) (adI r o ta tb tc):=by intro f s σ H Q I h;refine Compare_chain (thn (A _ s σ H _ I h) λv D⟨x,T,I1,p,w⟩=>chain_link (thn (N _ D σ T _ I1 w) λu K⟨y,S,M,m,Z⟩=>thn (Y _ K σ S x y v u _ M p m Z) λd P⟨z,n,j,G,k,e,l⟩=>?_)) t;subst e;cases G;refine ao8 ?_;cases k with|false=>exact ite_ff ⟨.bl _,n,j,rfl,l⟩|true=>exact ite_tt (chain_last (thn (R f P σ n _ j l) λO q⟨B,J,C,U,E⟩=>i f q σ J y B u O Q C m U E))
def rN:sizeLine<2^63:=by decide
def vals1{x us}(r:Vals [x] us):∃u,us=[u]/\RelV x u:=by cases r with|cons r1 r2=>cases r2;exact⟨_,rfl,r1⟩
def vals2{x y us}(r:Vals [x,y] us):∃u d,us=[u,d]/\RelV x u/\RelV y d:=by cases r with|cons r1 r2=>cases r2 with|cons r3 r4=>cases r4;exact⟨_,_,rfl,r1,r3⟩
def adg:bN X (.builtin "abs") λd H Q=>∃i,d=[.int i]/\Q (.int (if i<0 then -i else i)) H:=by intro e s σ H d f Q I r h;obtain⟨i,rfl,q⟩:=h;obtain⟨u,rfl,t,rfl⟩:=vals1 r;exact call_abs_int λu tk=>jd (.int _) H (I.tok _) ⟨_,rfl⟩ q
def abf(l:X.calm=true):bN X (.builtin "max") λf H Q=>∃i j,f=[.int i,.int j]/\Q (.int (if j>i then j else i)) H:=by
 intro g s σ H f o Q I r h;refine dE h λi j e q=>?_;subst e;obtain⟨u,n,rfl,⟨t,rfl⟩,⟨m,rfl⟩⟩:=vals2 r;refine max_two_ints (I.ok.hd l) λp tk k=>jd _ H (I.kept k) ?_ q;by_cases d:j>i;.rw[anL d,anL d];exact⟨_,rfl⟩
 .rw[anK d,anK d];exact⟨_,rfl⟩
def abg:bN X (.type "int") λd H Q=>(∃i,d=[.int i]/\Q (.int i) H)\/∃k,d=[.bl k]/\Q (.int (if k then 1 else 0)) H:=by
 intro e s σ H d g Q I r h;rcases h with⟨i,rfl,q⟩|⟨k,rfl,q⟩;.obtain⟨u,rfl,t,rfl⟩:=vals1 r;exact call_int_int ⟨.int i,H,I,⟨_,rfl⟩,q⟩
 .obtain⟨u,rfl,f⟩:=vals1 r;cases f;exact call_int_bool ⟨.int (if k then 1 else 0),H,I.tok _,⟨_,rfl⟩,q⟩
end
structure ObjM(h:Heap)(x dx C:Addr)(mA:Str->Option Value):Prop where
 obj:h.get? x=some (W.instObj C dx)ns:h.Ns1 dx mA
 ne:dx≠x
def rM{h:Heap}{dx d}(n:h.Ns1 dx d):∃od,h.get? dx=some od/\∀b,W.lookIn b od=some (d b):=by
 refine ajf n λo f p l g k _ i=>?_;refine⟨o,l,λb=>?_⟩;have e:=i b;unfold nsFind findBy at e;rw[<-aqc]at e;unfold W.lookIn;rw[g];dsimp ;split;.rename_i y q;rw[q]at e;exact apS _ e
 .rename_i q;rw[q]at e;have a:f.toList.any (·.refKey)=false:=by rw[List.any_eq_false];intro y m;obtain⟨z,t,c⟩:=k y (Array.mem_toList_iff.mp m);simp[DictEntry.refKey,c]
  have j:¬f.toList.any (·.refKey)=true:=by grind
  rw[anK j];exact apS _ e
def ObjM.look{h x dx C b}(I:ObjM h x dx C b):∃od,W.InstAt h x (W.instObj C dx) C (some od)/\∀a,W.lookIn a od=some (b a):=let⟨od,d,c⟩:=rM I.ns;⟨od,⟨I.obj,rfl,rfl,d⟩,c⟩
section
variable{prog:Program}{w:World}{A:Around}{E:Value->Shared->Prop}{s:Shared}{K:W.Frag}{x dx C f:Addr}{mA:Str->Option Value}{name:Str}{v:Value}
def get_map{a Q}(X:K.In s.heap)(I:ObjM s.heap x dx C mA)(c:W.plainGet K C name=true)(e:W.hasDictIn K C=true)(d:W.findIn K (.ref C) name=some none)(g:mA name=some v)(b:W.handedIn v=true)(h:Q v {s with toks:=s.toks+1}):wpAny (model prog w) A (getAttr (.ref x) name a) Q E s:=by obtain⟨od,J,i⟩:=I.look;exact W.get_value X J (W.plainGet_of c).1 (W.findObj_own e d rfl (by grind)) b h
def acU{pl Q}(X:K.In s.heap)(I:ObjM s.heap x dx C mA)(a:W.plainGet K C name=true)(e:W.findIn K (.ref C) name=some (some (.ref f)))(b:W.isFn K (.ref f)=true)(c:mA name=none)(h:Q (.ref f,[.ref x]) s):wpAny (model prog w) A (getMethod (.ref x) name pl) Q E s:=by obtain⟨od,J,d⟩:=I.look;exact W.method_fn X J (W.plainGet_of a).1 (W.plainGet_of a).2 e (aoW.mp b) (by show(W.lookIn _ _).map _=some _;rw[d,c];rfl) h
def aeX{ns Q}(X:K.In s.heap)(I:ObjM s.heap x dx C mA)(hs:W.findIn K (.ref C) "__setattr__"=some (some (.builtin "object.__setattr__")))(n:W.plainOver K C=true)(l:W.takerIn K C name=some none)(o:W.hasDictIn K C=true)(hw:PySem.Within mA ns)(hsz:ns.length<=sizeLine)(h:∀e,ObjM e x dx C (λy=>if y=name then some v else mA y)->Heap.SameBut dx s.heap e->Q () {s with heap:=e,toks:=s.toks+2}):wpAny (model prog w) A (setAttr (.ref x) name v) Q E s:=by refine fy I.look λod J z=>?_;refine W.set_plain X J hs (W.osa_open (s:={s with toks:=s.toks+1}) (r:=none) X J n l λb=>?_);refine fy (W.any_some o) λu p k=>?_;refine anE (anO (anE (anE (ap9 I.obj (anE (W.Looks.here (aqg X p) ?_))))));rw[k];refine anO (a:=some dx) (anE (anO (anE ?_)));refine wpAny_nsSet1 I.ns λe d c=>?_;refine wu (d.count (aql name v hw)) λt q m j i g=>?_;refine anE (aqu j (by rw[i];exact aqv (anQ g (by rw[anV];omega))) ?_);exact anO (h _ ⟨(c.2 _ (anY I.ne)).trans I.obj,d,I.ne⟩ c)
def acr{R vs a}(X:K.In s.heap)(b:W.makesIn K C=true)(c:W.findIn K (.ref C) "__init__"=some (some (.ref f)))(d:W.typeIn K (.ref f)=some (.type "function"))(h:codeAny (model prog w) (A.under (.builtin "type.__call__" ⟨.ref C::vs,a⟩)) (.call (.ref f) ⟨.ref (s.heap.objs.size+1)::vs,a⟩) (W.InitBack (s.heap.objs.size+1) R) {s with heap:=(s.heap.push W.emptyDict).push (W.instObj C s.heap.objs.size)}):codeAny (model prog w) A (.call (.ref C) ⟨vs,a⟩) R s:=by exact W.make_core (W.makes_of X b) (W.looks_findIn X c) (λself=>W.bind_fn X _ d) (.inl rfl) h
end
noncomputable def n7(f:Str)(v:V):List (Str×V)->List (Str×V)|[]=>[(f,v)]|(g,x)::r=>if g=f then(g,v)::r else(g,x)::n7 f v r
theorem mB(f g)(v):∀fs,(n7 f v fs).lookup g=if g=f then some v else fs.lookup g
|[]=>by
 show List.lookup g [(f,v)]=_;by_cases h:g=f;.simp only[List.lookup,aoW.mpr h,anL h]
 .simp only[List.lookup,aox.mpr h,anK h]|(k,x)::r=>by
  have b:=mB f g v r;rw[show n7 f v ((k,x)::r)=if k=f then(k,v)::r else(k,x)::n7 f v r from rfl];by_cases a:k=f
  .rw[anL a];by_cases h:g=k;.have c:(g==k)=true:=aoW.mpr h;simp only[List.lookup,c,anL (h.trans a)]
   .simp only[List.lookup,aox.mpr h,anK λe:g=f=>h (e.trans a.symm)]
  .rw[anK a];by_cases h:g=k;.simp only[List.lookup,aoW.mpr h,anK λe:g=f=>a (h.symm.trans e)]
   .simp only[List.lookup,aox.mpr h];exact b
theorem mE(f)(v):∀fs,f∈(n7 f v fs).map (·.1)/\∀g,g∈fs.map (·.1)->g∈(n7 f v fs).map (·.1)
|[]=>⟨by simp[n7],λg h=>by simp at h⟩|(k,x)::r=>by
  obtain⟨c,b⟩:=mE f v r;rw[show n7 f v _=if k=f then(k,v)::r else(k,x)::n7 f v r from rfl];by_cases a:k=f;.subst a;exact⟨by simp,λg h=>by simpa using h⟩
  .rw[anK a];refine⟨?_,λg h=>?_⟩;.exact anU _ c
   .rcases anS.mp h with e|e;.exact anS.mpr (.inl e)
    .exact anU _ (b g e)
theorem mC(f)(v):∀fs,(n7 f v fs).length<=fs.length+1
|[]=>by simp[n7]|(k,x)::r=>by
 have b:=mC f v r;rw[show n7 f v _=if k=f then(k,v)::r else(k,x)::n7 f v r from rfl];by_cases a:k=f;.rw[anL a,anV,anV];omega
 .rw[anK a,anV,anV];omega
def sN.some_of{v o}(r:sN (some v) o):∃u,o=some u/\RelV v u:=by cases o with|none=>exact(r).elim|some u=>exact⟨u,rfl,r⟩
def sN.none_of{o}(r:sN none o):o=none:=by cases o with|none=>rfl|some u=>exact(r).elim
def rW{v u}(r:RelV v u):W.handedIn u=true:=by cases v with|non|bl b=>cases r;rfl|int i|str x|byt b|flt b=>obtain⟨t,e⟩:=r;cases e;rfl|ref a|ty n=>cases r;rfl
section
variable{P:Program}{w:World}{H H':Hp}{h h':Heap}{a C dx:Addr}{fs fs':List (Str×V)}
def pX(c:HOk P w H h)(e:H a=some (.ins C dx fs)):∃b,ObjM h a dx C b/\(∀f,sN (fs.lookup f) (b f))/\PySem.Within b (fs.map (·.1))/\fs.length<=1000/\H dx=some (.own a):=by obtain⟨d,z,g,ob,b,n,r,q⟩:=c a _ e;exact⟨b,⟨ob,n,g⟩,r,q,z,d⟩
end
structure Cls(K:W.Frag)(C:Addr):Prop where
 pg:W.plainGet K C Str.empty=true
 hd:W.hasDictIn K C=true
 po:W.plainOver K C=true
 sa:W.findIn K (.ref C) "__setattr__"=some (some (.builtin "object.__setattr__"))
def Cls.get{K C}(c:Cls K C)(f):W.plainGet K C f=true:=c.pg
def fg(K:W.Frag)(C:Addr)(f:Str):Prop:=W.findIn K (.ref C) f=some none
def fg.akj{K C f}(n:fg K C f):W.takerIn K C f=some none:=by unfold W.takerIn;rw[n];rfl
structure Meth(K:W.Frag)(C:Addr)(m:Str)(f:Addr):Prop where
 at_:W.findIn K (.ref C) m=some (some (.ref f))fn:W.isFn K (.ref f)=true
 kp:W.keepIn K (.ref f)=true
section
variable{X:Cx}{pins:List (Addr×Obj)}{σ:St}{H:Hp}{s:Shared}{a C dx:Addr}{fs:List (Str×V)}{f:Str}{v:V}{A:Around}{E:Value->Shared->Prop}
def xy{b Q}(I:Inv X pins σ H s)(e:H a=some (.ins C dx fs))(c:Cls X.K C)(n:fg X.K C f)(l:fs.lookup f=some v)(h:∀u d,Inv X pins σ H d->RelV v u->Q u d):wpAny (model X.prog X.w) A (getAttr (.ref a) f b) Q E s:=by obtain⟨i,O,r,_,_,_⟩:=pX I.hok e;obtain⟨u,j,g⟩:=sN.some_of (v:=v) (o:=i f) (by grind);exact get_map I.kIn O (c.get f) c.hd n j (rW g) (h u _ (I.tok _) g)
def xx{m g pl Q}(I:Inv X pins σ H s)(e:H a=some (.ins C dx fs))(c:Cls X.K C)(k:Meth X.K C m g)(l:fs.lookup m=none)(h:Q (.ref g,[.ref a]) s):wpAny (model X.prog X.w) A (getMethod (.ref a) m pl) Q E s:=by obtain⟨b,O,r,_,_,_⟩:=pX I.hok e;exact acU I.kIn O (c.get m) k.at_ k.fn (sN.none_of (by grind)) h
def wV{y u Q}(I:Inv X pins σ H s)(e:H a=some (.ins C dx fs))(c:Cls X.K C)(n:fg X.K C f)(K:fs.length<1000)(t:RelV y u)(h:∀j,Inv X pins σ (upd H a (.ins C dx (n7 f y fs))) j->Q () j):wpAny (model X.prog X.w) A (setAttr (.ref a) f u) Q E s:=by
 obtain⟨m,O,r,i,_,k⟩:=pX I.hok e;have D:(fs.map (·.1)).length<=sizeLine:=by rw[an0,apP];omega
 refine aeX I.kIn O c.sa c.po n.akj c.hd i D λG d J=>h _ ?_;have l:∃o,G.get? dx=some o:=let⟨o,_,_,p,_⟩:=d.ns;⟨o,p⟩;refine I.write (x:=a) (e:=dx) (by rw[e];exact True.intro) (.inr k) (λb q w z=>(J.2 b w).trans z) l ⟨by rw[aj O.ne];exact k,?_,O.ne,d.obj,_,d.ns,λg=>?_,λg B=>?_⟩;.have:=mC f y fs;omega
 .rw[mB];by_cases q:g=f;.rw[anL q,anL q];exact t
  .rw[anK q,anK q];exact r g
 .by_cases q:g=f;.rw[q];exact(mE f y fs).1
  .refine(mE f y fs).2 g (i g λz=>B ?_);show(if g=f then some u else m g)=none;rw[anK q];exact z
def Inv.made(I:Inv X pins σ H s):Inv X pins σ (upd (upd H s.heap.objs.size (.own (s.heap.objs.size+1))) (s.heap.objs.size+1) (.ins C s.heap.objs.size [])) {s with heap:=(s.heap.push W.emptyDict).push (W.instObj C s.heap.objs.size)}:=by
 have d:(s.heap.push W.emptyDict).get? s.heap.objs.size=some W.emptyDict:=anT s.heap rfl;have j:=by have:=anT (s.heap.push W.emptyDict) (o:=W.instObj C s.heap.objs.size) rfl;rwa[aoZ]at this
 have i:=I.laid (o:=.own (s.heap.objs.size+1)) (t':=s.toks) (λb u q=>anG _ q) (anP _) ⟨_,d⟩;refine i.laid  (λb u q=>anG _ q) (Nat.le_of_eq (aoZ _ _)) ?_;have c:s.heap.objs.size≠s.heap.objs.size+1:=anW (ao0 _);refine⟨by rw[aj c,aq],aoi _,c,j,_,(aqm (qt W.emptyDict #[] _ d rfl (λe g=>absurd g (by simp)) λ_=>rfl)).at λo q=>anG _ q,λ_=>True.intro,λy h=>absurd rfl h⟩
def abl{prog w b e f pos s Q}(d:attributeBase e f b (eval e b)=eval e b)(h:wpAny (model prog w) A (eval e b) (λo c=>wpAny (model prog w) A (getAttr o f true) Q E c) E s):wpAny (model prog w) A (eval (.Attribute e f pos) b) Q E s:=Attribute_any_ h (by rw[arm_eval_Attribute,d])
end
def amv(K:W.Frag)(ta:TE)(f:Str):TE:=λσ H Q=>ta σ H λx b=>∃a C c fs v,x=.ref a/\b a=some (.ins C c fs)/\Cls K C/\fg K C f/\fs.lookup f=some v/\Q v b
def ajk(K:W.Frag)(ta tv:TE)(f:Str):TS:=λD σ H=>tv σ H λy d=>ta σ d λx b=>∃a C c fs,x=.ref a/\b a=some (.ins C c fs)/\Cls K C/\fg K C f/\fs.length<1000/\D.nx σ (upd b a (.ins C c (n7 f y fs)))
section
variable{X:Cx}{o e value:Expr}{f:Str}{pos pos' tpos:Pos}{ta tv:TE}
def adZ(g:PE X e ta)(m:attributeBase e f X.env (eval e X.env)=eval e X.env):PE X (.Attribute e f pos) (amv X.K ta f):=by intro b s σ H Q I h;refine abl m (thn (g _ s σ H _ I h) λu t⟨x,p,r,i,a,C,z,fs,v,ex,d,c,n,l,q⟩=>?_);subst ex;obtain rfl:=i;exact xy r d c n l λy w k j=>⟨v,p,k,j,q⟩
def zt(g:PE X o ta)(j:PE X value tv)(hs:swapsWith value (some (.Attribute o f pos')) pos.line X.env=pure false):PS X (.Assign [.Attribute o f pos'] value pos) (ajk X.K ta tv f):=by intro b s σ H D I h;refine apg (thn (j _ s σ H _ I h) λu w⟨y,G,t,k,q⟩=>thn (g _ _ σ _ _ t q) λA z⟨x,E,m,p,a,C,v,fs,ex,i,c,n,l,r⟩=>?_) hs;subst ex;obtain rfl:=p;exact wV m i c n l k λB d=>⟨σ,_,d,r⟩
end
section
variable{X:Cx}{pins:List (Addr×Obj)}{σ:St}{H:Hp}{s:Shared}{A:Around}{E:Value->Shared->Prop}{Q:Value->Shared->Prop}{c:Value}{b:Bool}
inductive TyOf(K:W.Frag)(H:Hp):V->Value->Prop where|non:TyOf K H .non (.type "NoneType")|bl(x:Bool):TyOf K H (.bl x) (.type "bool")|int(i:Int):TyOf K H (.int i) (.type "int")|str(x:Str):TyOf K H (.str x) (.type "str")|flt(x:UInt64):TyOf K H (.flt x) (.type "float")|lst{a:Addr}{xs:List V}(e:H a=some (.lst xs)):TyOf K H (.ref a) (.type "list")|frz{a:Addr}{o:Obj}{xs:List V}(e:H a=some (.frz o (.lst xs))):TyOf K H (.ref a) (.type "list")|tup{a:Addr}{xs:List V}(e:H a=some (.tup xs)):TyOf K H (.ref a) (.type "tuple")|dK{a:Addr}{kvs:List (Key×V)}(e:H a=some (.dK kvs)):TyOf K H (.ref a) (.type "dict")|dT{a:Addr}{kvs:List (List Key×V)}(e:H a=some (.dT kvs)):TyOf K H (.ref a) (.type "dict")|ins{a C dx:Addr}{fs:List (Str×V)}(e:H a=some (.ins C dx fs))(cl:Cls K C)(ha:W.findIn K (.ref C) "__class__"=some (some (.builtin "object.__class__")))(hn:W.specialIn K (.builtin "object.__class__") "__get__"=some (some (.builtin "getset_descriptor.__get__")))(htk:W.takesIn K (.builtin "object.__class__")=some true)(hm:W.mroIn K C (.type "object")=some true):TyOf K H (.ref a) (.ref C)
def aal{x u t}(I:Inv X pins σ H s)(d:RelV x u)(ty:TyOf X.K H x t)(e:W.kitOne X.K t c=some b)(h:∀tk,Q (.bool b) {s with toks:=tk}):wpAny (model X.prog X.w) A (call (.builtin "isinstance") [u,c]) Q E s:=by cases ty with|non=>cases show u=Value.none from d;exact aoR W.kitx_none I.kIn True.intro e (λz=>nomatch z) h|bl y=>cases show u=Value.bool y from d;exact aoR W.kitx_bool I.kIn True.intro e (λz=>nomatch z) h|int i=>obtain⟨t,q⟩:=show∃t,u=Value.int i t from d;cases q;exact aoR W.kitx_int I.kIn True.intro e (λz=>nomatch z) h|str y=>obtain⟨t,q⟩:=show∃t,u=Value.str y t from d;cases q;exact aoR W.kitx_str I.kIn True.intro e (λz=>nomatch z) h|flt y=>obtain⟨t,q⟩:=show∃t,u=Value.float y t from d;cases q;exact aoR W.kitx_float I.kIn True.intro e (λz=>nomatch z) h|@lst a j ea=>cases show u=Value.ref a from d;obtain⟨_,_,n,_,f⟩:=I.hok a _ ea;exact aoR aqP I.kIn ⟨_,f,rfl⟩ e (λz=>nomatch z) h|@frz a ob j ea=>cases show u=Value.ref a from d;obtain⟨_,_,_,n,_,f⟩:=I.hok a _ ea;exact aoR aqP I.kIn ⟨_,f,rfl⟩ e (λz=>nomatch z) h|@tup a j ea=>cases show u=Value.ref a from d;obtain⟨_,_,_,p⟩:=show dD X.prog X.w H s.heap a (.tup j)from I.hok a _ ea;refine je p λo f g _=>?_;exact aoR W.kitx_tuple I.kIn ⟨o,f,g⟩ e (λz=>nomatch z) h|@dK a kvs ea=>cases show u=Value.ref a from d;obtain⟨_,_,r,_,p⟩:=I.hok a _ ea;refine wu p λo k l f g _=>?_;exact aoR W.kitx_dict I.kIn ⟨o,f,g.1⟩ e (λz=>nomatch z) h|@dT a kvs ea=>cases show u=Value.ref a from d;obtain⟨_,_,j,_,o,k,l,f,g,_⟩:=show dD X.prog X.w H s.heap a (.dT kvs)from I.hok a _ ea;exact aoR W.kitx_dict I.kIn ⟨o,f,g.1⟩ e (λz=>nomatch z) h|@ins a C dx fs ea cl ha hn htk hm=>cases show u=Value.ref a from d;refine fy (pX I.hok ea) λm O _=>?_;obtain⟨od,J,_⟩:=O.look;exact aoR (W.kitx_own (cl.get _) cl.hd ha hn htk hm) I.kIn J e (λz=>nomatch z) h
end
structure Room(k:Nat)(A:Around):Prop where
 hd:40<=k->A.handled=none
 dp:A.depth+3*k+5<recursionLimit
 un:A.units+16*k+200<cLine
 gd:A.guards=some []
def Room.mono{j k A}(r:Room k A)(h:j<=k):Room j A:=⟨λz=>r.hd (by omega),by have:=r.dp;omega,by have:=r.un;omega,r.gd⟩
theorem Room.deeper{k A}(r:Room (k+1) A)(a):Room k (A.deeper a):=⟨λz=>r.hd (by omega),by have:=r.dp;show A.depth+1+3*k+5<_;omega,by have:=r.un;show A.units+3+16*k+200<_;omega,r.gd⟩
def xq{A:Around}{C us a}:(A.under (.builtin "type.__call__" ⟨.ref C::us,a⟩)).depth=A.depth+1:=by rfl
def xo{A:Around}{C us a}:(A.under (.builtin "type.__call__" ⟨.ref C::us,a⟩)).units=A.units+1:=rfl
def Room.make{k A}(r:Room (k+1) A)(C)(us)(a):Room k (A.under (.builtin "type.__call__" ⟨.ref C::us,a⟩)):=⟨λz=>r.hd (by omega),by have:=r.dp;rw[xq];omega,by have:=r.un;rw[xo];omega,r.gd⟩
def Room.calm{k}{A:Around}{a}(r:Room k (A.deeper a))(h:40<=k):A.handled.isNone=true:=by rw[show A.handled=none from r.hd h];rfl
def Room.sui{k A v}(r:Room k A)(h:39<=k):Room 39 (A.mark v):=⟨λz=>by omega,by have:=r.dp;show A.depth+3*39+5<_;omega,by have:=r.un;show A.units+16*39+200<_;omega,r.gd⟩
theorem Room.depth{k A}(r:Room k A):A.depth<recursionLimit:=by have:=r.dp;omega
theorem Room.units{k A}(r:Room k A):A.units+64<cLine:=by have:=r.un;omega
def abr:TA:=λ_ H Q=>Q [] H
def jj(ta:TE)(a:TA):TA:=λσ H Q=>ta σ H λx c=>a σ c λd b=>Q (x::d) b
section
variable{X:Cx}{e:Expr}{es:List Expr}{te:TE}{t:TA}{pos:Pos}
def e7:PA X [] abr:=λ_ _ _ _ H Q I h=>Calls.spliced_nil ⟨[],H,I,.nil,h⟩
def bL(f:PE X e te)(b:PA X es t)(hs:SE X e es:=by rfl):PA X (e::es) (jj te t):=by intro pos a s σ H Q I h;rw[hs];exact Calls.spliced_cons (thn (f _ s σ H _ I h) λu m⟨x,q,l,c,d⟩=>thn (b _ _ _ σ _ _ l d) λp o⟨n,i,g,j,k⟩=>jd _ i g (.cons c j) k)
def anf(t:TA):TE:=λσ H Q=>t σ H λb a=>b.length<=sizeLine/\∀p,a p=none->Q (.ref p) (upd a p (.tup b))
def ams(t:TA):TE:=λσ H Q=>t σ H λb a=>b.length<=sizeLine/\∀p,a p=none->Q (.ref p) (upd a p (.lst b))
def adX{f}(h:PA X es t):PE X (.Tuple es f pos) (anf t):=by intro a s σ H Q I d;refine wpAny_Tuple_spliced (thn (h _ _ s σ H _ I d) λg i⟨j,k,c,r,z,q⟩=>⟨by rw[<-r.length];exact z,.ref _,_,c.laid (λb u e=>anG _ e) (anP _) ?_,rfl,q _ (c.hok.fresh (anP _))⟩);exact⟨z,g,r,⟨_,anT _ rfl,rfl,_,rfl⟩⟩
def zz(h:PA X es t):PE X (.List es pos) (ams t):=by intro a s σ H Q I d;refine wpAny_List_spliced (thn (h _ _ s σ H _ I d) λf g⟨i,j,c,r,z,q⟩=>⟨by rw[<-r.length];exact z,.ref _,_,c.laid (λb u e=>anG _ e) (anP _) ?_,rfl,q _ (c.hok.fresh (anP _))⟩);exact⟨z,f,0,r,anT _ rfl⟩
end
abbrev Sp:=List V->Hp->VK->XK->Prop
abbrev CXT:=List Env->Hp->Shared->XK->Value->Shared->Prop
structure Env0(P:Program)(w:World)(K:W.Frag)(mg:Str->Option Value)(base:Heap)(A:Around)(outer:List Env)(s:Shared)(H:Hp):Prop where
 frames:A.frames=some outer
 mod:Mod K mg base
 bs:∀b o,base.get? b=some o->s.heap.get? b=some o/\H b=none
 bsz:base.objs.size<=s.heap.objs.size
 qr:s.heap.FunFrames base outer
 frf:∀b∈frs outer,H b=none
 hok:HOk P w H s.heap
 bare:AllBare s.gens
def CE(a:List Env)(P:Program)(w:World)(H:Hp)(s:Shared)(Q:VK)(u:Value)(s':Shared):Prop:=∃v b,s'.os=s.os/\AllBare s'.gens/\Un (frs a) [] H b s.heap s'.heap/\HOk P w b s'.heap/\RelV v u/\Q v b
def CR(CX:CXT)(a:List Env)(P:Program)(w:World)(H:Hp)(s:Shared)(Q:VK)(E:XK)(r:Result)(s':Shared):Prop:=match r with|.ok (.ret u)=>CE a P w H s Q u s'|.ok _=>False|.error e=>CX a H s E e s'
structure FnOk(P:Program)(w:World)(K:W.Frag)(mg:Str->Option Value)(base:Heap)(CX:CXT)(k:Nat)(f:Addr)(fd:FuncData)(ps:List Str)(sp:Sp)(hn:Around->Hp->Prop:=λ_ _=>True):Prop where
 len:∀vs H Q E,sp vs H Q E->vs.length=ps.length
 run:∀(A:Around)(outer:List Env)(s:Shared)(H:Hp)(args:Args)(us:List Value)(vs:List V)(Q:VK)(E:XK),Room k A->hn A H->Env0 P w K mg base A outer s H->BindsTo s fd args (ps.zip us)->Vals vs us->sp vs H Q E->codeAny (model P w) A (.call (.ref f) args) (CR CX outer P w H s Q E) s
theorem FnOk.mono{P:Program}{w:World}{K:W.Frag}{d:Str->Option Value}{a:Heap}{CX:CXT}{j k:Nat}{f:Addr}{e:FuncData}{ps:List Str}{sp:Sp}(F:FnOk P w K d a CX j f e ps sp)(h:j<=k):FnOk P w K d a CX k f e ps sp:=⟨F.len,λA b s H c l i Q E g=>F.run A b s H c l i Q E (g.mono h)⟩
def FnOk.imp{P w K e a CX k f i ps sp b}(F:FnOk P w K e a CX k f i ps sp)(h:∀c H Q E,b c H Q E->sp c H Q E):FnOk P w K e a CX k f i ps b:=⟨λc H Q E q=>F.len _ H Q E (h _ _ _ _ q),λA d s H g r c Q E j p l o n m=>F.run A _ s H _ _ _ Q E j p l o n (h _ _ _ _ m)⟩
def Env0.make{P w K c b A a s H}(e:Env0 P w K c b A a s H)(C)(us)(d):Env0 P w K c b (A.under (.builtin "type.__call__" ⟨.ref C::us,d⟩)) a s H:=⟨by exact e.frames,e.mod,e.bs,e.bsz,e.qr,e.frf,e.hok,e.bare⟩
section
variable{X:Cx}{pins:List (Addr×Obj)}{σ:St}{H:Hp}{s s':Shared}
def Inv.ajQ(I:Inv X pins σ H s):Env0 X.prog X.w X.K X.mg X.base X.A X.stack s H:=⟨I.ok.frames,I.ok.mod,I.bs,anQ I.ok.bsz I.sz,I.stack,I.sX,I.hok,I.bare⟩
def Inv.after{Q u}(I:Inv X pins σ H s)(h:CE X.stack X.prog X.w H s Q u s'):EP X pins σ Q u s':=by refine agw h λv f os a un c r q=>?_;obtain⟨i,g,d,t,e⟩:=s';obtain rfl:=os;exact jd v f (I.call   un c a λb z=>absurd z (by simp)) r q
end
def wR(sp:Sp)(dvs:List V)(E:XK)(t:TA):TE:=λσ H Q=>t σ H λa b=>sp (a++dvs) b Q E
def Binds(K:W.Frag)(b:FuncData)(ps:List Str)(ds:List Value):Prop:=∀(s:Shared)(a:List Value),K.In s.heap->(a++ds).length=ps.length->BindsTo s b ⟨a,[]⟩ (ps.zip (a++ds))
def Binds.all{K b ps}(h:∀a,a.length=ps.length->bindArgs b ⟨a,[]⟩=pure (ps.zip a)):Binds K b ps []:=λs a _ c=>by rw[aom]at c⊢;exact .of_eq (h _ c)
def Passes(CX:CXT)(X:Cx)(E:XK):Prop:=∀(a:List (Addr×Obj))(σ:St)(H:Hp)(s:Shared)(e:Value)(b:Shared),Inv X a σ H s->CX X.stack H s E e b->X.xe e b
section
variable{X:Cx}{CX:CXT}{k:Nat}{f C:Addr}{fd:FuncData}{ps:List Str}{sp:Sp}{dvs:List V}{ds:List Value}{E:XK}{x m:Str}{p pos apos:Pos}{e o:Expr}{es:List Expr}{ta:TE}{t:TA}
def adO{b pins}{σ:St}{H s Q us vs}(F:FnOk X.prog X.w X.K X.mg X.base CX k f fd ps sp b)(d:Room k X.A)(j:Binds X.K fd ps ds)(g:Vals dvs ds)(i:Passes CX X E)(I:Inv X pins σ H s)(r:Vals vs us)(h:sp (vs++dvs) H Q E)(n:b X.A H:=by exact trivial):wpAny (model X.prog X.w) X.A (call (.ref f) us) (EP X pins σ Q) X.xe s:=by
 have c:=r.append g;have l:(us++ds).length=ps.length:=by rw[<-c.length];exact F.len _ _ _ _ h
 refine apt (apC (F.run _ _ s H _ _ _ Q E d n I.ajQ (j s _ I.kIn l) c h) λr q a=>?_);cases r with|error e=>exact i _ σ H s e _ I a|ok fl=>cases fl with|ret u=>exact I.after a|next|brk|cont=>exact False.elim a
def pH(F:FnOk X.prog X.w X.K X.mg X.base CX k f fd ps sp)(g:Room k X.A)(y:Gl X x)(j:X.mg x=some (.ref f))(n:W.keepIn X.K (.ref f)=true)(w:Binds X.K fd ps ds)(i:Vals dvs ds)(u:Passes CX X E)(l:PA X (e::es) t)(a:Dbg x:=by decide)(v:SE X e es:=by rfl)(b:BT X pos es:=by rfl):PE X (.Call (.Name x p) (e::es) [] pos) (wR sp dvs E t):=by intro c s σ H Q I h;exact ao2 (gg I y j (aqw I.ok.mod.kin n (thn (l _ _ s σ H _ I h) λB z⟨A,D,d,r,q⟩=>⟨d.kIn,adO F g w i u d r q⟩) v b) a)
def acd(F:FnOk X.prog X.w X.K X.mg X.base CX k f fd ps sp)(c:Room k X.A)(n:Gl X x)(g:X.mg x=some (.ref f))(i:W.keepIn X.K (.ref f)=true)(l:Binds X.K fd ps ds)(d:Vals dvs ds)(j:Passes CX X E)(a:Dbg x:=by decide):PE X (.Call (.Name x p) [] [] pos) (wR sp dvs E abr):=by intro b s σ H Q I h;exact ao2 (gg I n g (W.callWith_K0 I.kIn i (adO F c l d j I .nil h)) a)
structure Mk(K:W.Frag)(C f:Addr):Prop where
 makes:W.makesIn K C=true
 init:W.findIn K (.ref C) "__init__"=some (some (.ref f))fn:W.isFn K (.ref f)=true
 kp:W.keepIn K (.ref C)=true
end
structure FnScope(N P:List Str)(sc:Scope):Prop where
 kind:sc.kind=.function
 co:sc.isCoroutine=false
 gen:sc.isGenerator=false
 nd:N.Nodup
 pre:N.take P.length=P
 par:∀x∈P,sc.names.lookup x=some .local\/sc.names.lookup x=some .cell
 nofree:∀y∈sc.names,y.2≠.free
theorem sv{kindOf x}:∀{binds m},(∀v,(x,v)∉binds)->bindL kindOf binds m x=m x
|[],_,_=>rfl|(n,v)::r,m,h=>by
 unfold bindL;rw[sv λw hw=>h w (anU _ hw)];split
 .have:x≠n:=by grind
  simp[this]
 .rfl
theorem sy{kindOf x}:∀{binds m},(∀v,(x,v)∉binds)->bindC kindOf binds m x=m x
|[],_,_=>rfl|(n,v)::r,m,h=>by
 unfold bindC;rw[sy λw hw=>h w (anU _ hw)];split;.rfl
 .have:x≠n:=by grind
  simp[this]
theorem sx{kindOf:Str->Option NameKind}{x:Str}{v:Value}:∀{P:List Str}{vs:List Value}{i:Nat}{m:Str->Option Value},P.Nodup->P[i]?=some x->vs[i]?=some v->kindOf x=some .local->bindL kindOf (P.zip vs) m x=some v|[],_,_,_,_,h,_,_=>by simp at h|_::_,[],_,_,_,_,h,_=>by simp at h|p::P,w::vs,0,m,nd,h1,h2,hk=>by simp at h1 h2;subst h1;subst h2;show bindL kindOf ((p,w)::P.zip vs) m p=_;unfold bindL;rw[sv λv a=>(aoF.mp nd).1 (aqJ a).1,anL hk];simp|p::P,w::vs,i+1,m,nd,h1,h2,hk=>by show bindL kindOf ((p,w)::P.zip vs) m x=_;unfold bindL;exact sx (i:=i) (aoF.mp nd).2 (by simpa using h1) (by simpa using h2) hk
theorem sA{kindOf x v}:∀{P:List Str}{vs}{i:Nat}{m},P.Nodup->P[i]?=some x->vs[i]?=some v->kindOf x≠some .local->bindC kindOf (P.zip vs) m x=some v|[],_,_,_,_,h,_,_=>by simp at h|_::_,[],_,_,_,_,h,_=>by simp at h|p::P,w::vs,0,m,nd,h1,h2,hk=>by simp at h1 h2;subst h1;subst h2;show bindC kindOf ((p,w)::P.zip vs) m p=_;unfold bindC;rw[sy λv a=>(aoF.mp nd).1 (aqJ a).1,anK hk];simp|p::P,w::vs,i+1,m,nd,h1,h2,hk=>by unfold bindC;exact sA (i:=i) (aoF.mp nd).2 (by simpa using h1) (by grind) hk
noncomputable def start(N:List Str)(vs:List V):St:=vs.map some++List.replicate (N.length-vs.length) none
noncomputable def iI(CX:CXT)(P:Program)(w:World)(K:W.Frag)(mg:Str->Option Value)(base:Heap)(N:List Str)(qual:Str)(scope:Scope)(f:Addr)(cd:Value)(A:Around)(outer:List Env)(s:Shared)(H:Hp)(E:XK):Cx where prog:=P;w:=w;K:=K;mg:=mg;base:=base;A:=A.deeper (envOfC qual scope s.heap.objs.size f cd);N:=N;s₀:=s;H₀:=H;env:=envOfC qual scope s.heap.objs.size f cd;outer:=outer;stack:=envOfC qual scope s.heap.objs.size f cd::outer;ex:=[];calm:=A.handled.isNone;fn:=λ_=>true;pn:=[];xe:=λe s'=>wpAny (model P w) (A.deeper (envOfC qual scope s.heap.objs.size f cd)) (leaving (envOfC qual scope s.heap.objs.size f cd) e) (λ_ s''=>CX outer H s E e s'') (λe' s''=>CX outer H s E e' s'') s'
def we{a:Scope}{n x}(h:a.names.lookup x=some .cell):∃c,(cellsFrom n a.names []).lookup x=some c:=by exact aoy.mp (W.cellsFrom_some _ n _ (.inl h))
def aan{CX P w K J l N ps g scope f G A d s R H E us vs}(S:FnScope N ps scope)(m:Env0 P w K J l A d s H)(Y:vs.length=ps.length)(r:Vals vs us)(x:InCallC s s.heap.objs.size (bindL (envOfC g scope s.heap.objs.size f G).kindOf (ps.zip us) λ_=>none) (cellsFrom (s.heap.objs.size+1) scope.names []) (bindC (envOfC g scope s.heap.objs.size f G).kindOf (ps.zip us) λ_=>none) R):Inv (iI CX P w K J l N g scope f G A d s H E) [] (start N vs) H R:=by
 have X:ps.length<=N.length:=by have:=apS List.length S.pre;rw[aqx]at this;omega
 refine dE x.done λD tk M Q=>?_;subst M;have o:∀b:Addr,b ∉(iI CX P w K J l N g scope f G A d s H E).ex:=λb z=>absurd (show b∈([]:List Addr)from z) (by simp);refine⟨⟨m.mod,S.kind,rfl,rfl,anP _,λy z c D j=>?_,λy B=>?_,λy c _ h=>?_,λz=>Option.isNone_iff_eq_none.mp z,Around.frames_deeper m.frames,.inr ⟨rfl,rfl⟩,λb z=>absurd z (o b),m.bs,m.bsz,λb _ _=>o b,λb z=>absurd z (o b),m.qr,m.frf⟩,rfl,m.bare,Un.kept Q,⟨_,x.toInCall.ns,λi y v D j Z=>?_⟩,λy c h=>⟨_,x.cell y c h⟩,m.hok.fresh (anP _),λy c h=>?_,λp C=>absurd (show p∈([]:List (Addr×Obj))from C) (by simp),m.hok.kept Q,?_⟩;.exact name_of_addr x.apart (aop D) (aop j)
 .rcases B with B|B;.exact we B
  .exact absurd rfl (S.nofree _ (aop B))
 .exact apX (x.above y c (aop h))
 .have I:i<vs.length:=by
   unfold start at j;by_cases I:i<vs.length;.exact I
   .rw[aos (by simpa using I)]at j;rw[aor]at j;split at j<;>cases j
  have T:vs[i]?=some v:=by unfold start at j;rw[aow (by simpa using I),an7]at j;cases e:vs[i]? with|none=>rw[e]at j;cases j|some a=>rw[e]at j;cases j;rfl
  refine fy (r.get T) λu O U=>?_;have C:ps[i]?=some y:=by rw[<-S.pre,List.getElem?_take_of_lt (by omega)];exact D
  have t:ps.Nodup:=by rw[<-S.pre];exact S.nd.sublist (List.take_sublist _ _)
  refine⟨u,U,?_⟩;rcases S.par y (apY C)with k|k;.exact .inl ⟨k,sx t C O k⟩
  .obtain⟨c,e⟩:=we (n:=s.heap.objs.size+1) k;refine .inr ⟨.inl k,c,e,?_⟩;have q:=x.cell y c e;rw[sA t C O (by show scope.names.lookup y≠_;rw[k];decide)]at q;exact q
 .exact m.hok.fresh (apX (x.above y c (aop h)))
 .unfold start;show _=N.length;rw[aoh,an0,apn];omega
def acW{CX P w K M g k f name c h i scope dV kV D pm d ct oc an od U N ps sp}(lk:K.lookup f=some ⟨oc,od,.func (W.fnOf name c h i scope dV kV D pm an d ct),U⟩)(R:W.codeIn K d c=true)(S:FnScope N ps scope)(len:∀j H Q E,sp j H Q E->j.length=ps.length){Z}(p:∀A a s H j Q E,Room k (A.deeper (envOfC c scope s.heap.objs.size f d))->Z A H->sp j H Q E->∃t,PSs (iI CX P w K M g N c scope f d A a s H E) i t/\t {nx:=λ_ m=>Q .non m,rt:=Q} (start N j) H):FnOk P w K M g CX (k+1) f (W.fnOf name c h i scope dV kV D pm an d ct) ps sp Z:=by
 refine⟨len,λA a s H Y us j Q E hr hN G hb r C=>?_⟩;have X:K.In s.heap:=G.mod.kin.keeps λb o e=>(G.bs b o e).1;have lim:s.heap.NoLimit:=G.mod.nolimit.keeps λb o e=>(G.bs b o e).1;have z:∀y∈ps.zip us,scope.names.lookup y.1=some .local\/scope.names.lookup y.1=some .cell/\((cellsFrom (s.heap.objs.size+1) scope.names []).lookup y.1).isSome=true:=λ⟨n,v⟩hy=>by
  rcases S.par n (aqJ hy).1 with q|q;.exact .inl q
  .exact .inr ⟨q,W.cellsFrom_some _ _ _ (.inl q)⟩
 refine codeAny_call_function hr.depth (X _ _ lk) rfl S.co S.gen rfl (W.codeRec_of X R) (hb _ _ _ _ ?_);refine wpAny_newFunctionEnv_cells S.kind z λa0 he s1 x=>?_;subst he;refine⟨lim.keeps x.toInCall.keep,codeAny_func ?_⟩;refine fy (p A a s H j Q E (hr.deeper _) hN C) λt ht hq=>?_;have I:Inv (iI CX P w K M g N c scope f d A a s H E) [] (start N j) H s1:=aan S G (len _ _ _ _ C) r x;refine an9 (ht [] s1 (start N j) H _ I hq) (λfl O B=>?_) λe O B=>B;have fin:∀{l:St}{m:Hp}{v:V}{u:Value},Inv (iI CX P w K M g N c scope f d A a s H E) [] l m O->RelV v u->Q v m->CE a P w H s Q u O:=λ{l m v u}J T q=>agH v m J.os J.bare J.base J.hok T q;cases fl with|ret u=>refine wu B λv l m J T q=>?_;exact fin J T q|next=>obtain⟨l,m,J,q⟩:=B;exact fin (v:=V.non) (u:=Value.none) J rfl q|brk=>obtain⟨_,_,_,q⟩:=B;exact False.elim q|cont=>obtain⟨_,_,_,q⟩:=B;exact False.elim q
section
variable{X:Cx}{x:Str}{p pos:Pos}{e:Expr}{es:List Expr}{t:TA}{id T:String}{r:List V->Hp->VK->Prop}
def tCB(r:List V->Hp->VK->Prop)(t:TA):TE:=λσ H Q=>t σ H λb a=>r b a Q
def acb(n:bN X (.builtin id) r)(m:Gl X x)(f:X.mg x=none)(l:bootBuiltins x=some (.builtin id))(i:PA X (e::es) t)(j:x≠"__name__":=by decide)(a:Dbg x:=by decide)(k:SE X e es:=by rfl)(b:BT X pos es:=by rfl):PE X (.Call (.Name x p) (e::es) [] pos) (tCB r t):=by intro c s σ H Q I h;exact ao2 (jB I m f l (apZ (thn (i _ _ s σ H _ I h) λv q⟨u,w,o,d,g⟩=>n _ _ σ _ _ _ Q o d g) k b) j a)
def rh(n:bN X (.type T) r)(m:Gl X x)(f:X.mg x=none)(l:bootBuiltins x=some (.type T))(i:PA X (e::es) t)(j:x≠"__name__":=by decide)(a:Dbg x:=by decide)(k:SE X e es:=by rfl)(b:BT X pos es:=by rfl):PE X (.Call (.Name x p) (e::es) [] pos) (tCB r t):=by intro c s σ H Q I h;exact ao2 (jB I m f l (aoq (thn (i _ _ s σ H _ I h) λv q⟨u,w,o,d,g⟩=>n _ _ σ _ _ _ Q o d g) k b) j a)
end
end L2
namespace HT
open PySem PyProof.Rows
section
open PySem.SeqAt
open PySem.AutoSeq1(wpAny_loadPart')
open PySem.MeetsSeq PySem.MeetsSeq2 PySem.MeetsSeq3
end
section
variable{prog:Program}{w:World}{A:Around}{E:Value->Shared->Prop}{s:Shared}
def af2{t b:Addr}{vs ws:List Value}{Q:Value->Shared->Prop}(p:IsTup s.heap t vs.toArray)(u:IsTup s.heap b ws.toArray)(m:vs≠[])(r:ws=[]->Q (.ref t) s)(q:ws≠[]->Q (.ref s.heap.objs.size) {s with heap:=s.heap.push {cls:=.type "tuple",data:=.seq (vs++ws).toArray}})(hsz:vs.length+ws.length<=sizeLine):wpAny (model prog w) A (binaryOp .Add (.ref t) (.ref b)) Q E s:=by
 obtain⟨⟨cls,dd,data,l⟩,h,o,n,i⟩:=id p;obtain⟨⟨j,c,data2,g⟩,a,f,k,d⟩:=id u;simp only at o i f d;subst o i f d;have e:vs.toArray++ws.toArray=(vs++ws).toArray:=by simp
 by_cases hw:ws=[];.exact aqy ⟨_,h,rfl⟩ ⟨_,a,rfl⟩ aqz seq_tuple_add apQ apK (apD _ _) (tuple_addW1 t b vs.toArray ws.toArray n k dd c l g (by simpa using m) (by simp[hw])) ⟨h,a,r hw⟩
 .refine aqy ⟨_,h,rfl⟩ ⟨_,a,rfl⟩ aqz seq_tuple_add apQ apK (apD _ _) (tuple_addW2 t b vs.toArray ws.toArray n k dd c l g (by simpa using m) (by simpa using hw) (by rw[aod,aod];exact hsz)) ⟨h,a,?_⟩;rw[e];exact q hw
noncomputable def sIx(n d:Nat):Option Int->Nat|none=>d|some v=>if v<0 then(v+(n:Int)).toNat else min v.toNat n
def ahe(n d)(b:d<=n)(o):sIx n d o<=n:=by cases o with|none=>exact b|some v=>
 show(if v<0 then(v+n).toNat else min _ n)<=n;by_cases a:v<0;.rw[anL a];omega
 .rw[anK a];exact apT _ _
def aba(v)(n d:Nat):(if v<0 then max (v+(n:Int)) 0 else min v n)=(sIx n d (some v):Nat):=by
 show(if v<0 then max _ 0 else min v n)=if v<0 then(v+n).toNat else min _ n;by_cases a:v<0;.simp only[anL a];omega
 .simp [anK a];omega
def xW(lo a)(n:Nat):Builtin.Slice.sliceAdjust lo a 1 n=((sIx n 0 lo:Int),(sIx n n a:Int)):=by
 refine Prod.ext ?_ ?_;.cases lo with|none=>rfl|some v=>exact aba v n 0
 .cases a with|none=>rfl|some v=>exact aba v n n
def w5(i j:Nat):Builtin.Slice.slicePlaces (i:Int) (j:Int) 1=j-i:=by
 unfold Builtin.Slice.slicePlaces;have a:(1:Int)>0:=by omega
 simp only[a,apk,Int.ediv_one];split<;>omega
def nJ{v o Q}(p:IsPart v o)(h:Q o s):wpAny (model prog w) A (Builtin.Slice.slicePartIndex v) Q E s:=by cases p with|none=>exact slicePart_none h|int i t=>exact slicePart_int h
def kX{sl d e lo c n}{Q:Int×Int×Nat->Shared->Prop}(hs:s.heap.IsSliceOf sl d e .none)(pl:IsPart d lo)(f:IsPart e c)(h:Q ((sIx n 0 lo:Nat),1,sIx n n c-sIx n 0 lo) s):wpAny (model prog w) A (Builtin.Slice.sliceApplied (.ref sl) (pure n)) Q E s:=by refine je (id hs) λos a g b=>?_;refine anE (anE (an8 a b (x:=d) rfl (anE (an8 a b (x:=e) rfl (anE (an8 a b rfl (anO ?_)))))));refine anE (slicePart_none ?_);refine anE (nJ pl (anE (nJ f (anE (anO ?_)))));show wpAny _ _ (match Builtin.Slice.sliceAdjust lo c 1 (n:Int)with|(lo,c)=>pure (lo,(1:Int),Builtin.Slice.slicePlaces lo c 1)) _ _ s;rw[xW lo c n];show wpAny _ _ (pure _) _ _ s;rw[w5];exact anO h
def ab4(xs:Array Value)(i k:Nat):((List.range k).filterMap λ(m:Nat)=>xs[((i:Int)+(m:Int)*1).toNat]?).toArray=((xs.toList.drop i).take k).toArray:=by
 have e:(λ(m:Nat)=>xs[((i:Int)+(m:Int)*1).toNat]?)=λm=>xs[i+m]?:=by
  funext m;have:((i:Int)+(m:Int)*1).toNat=i+m:=by omega
  rw[this]
 rw[e];have:=pick_run xs i k;rw[List.filterMap_map]at this;have a:((λx=>xs[x]?)∘λx=>i+x)=λm=>xs[i+m]?:=rfl;rw[a]at this;rw[this]
def kn{t sl items i j lo a Q}(c:IsTup s.heap t items)(hs:s.heap.IsSliceOf sl i j .none)(pl:IsPart i lo)(k:IsPart j a)(hw:¬(sIx items.size 0 lo=0/\sIx items.size items.size a=items.size))(h:Q (.ref s.heap.objs.size) {s with heap:=s.heap.push {cls:=.type "tuple",data:=.seq ((items.toList.drop (sIx items.size 0 lo)).take (sIx items.size items.size a-sIx items.size 0 lo)).toArray}})(hsz:items.size<=sizeLine):wpAny (model prog w) A (getItem (.ref t) (.ref sl)) Q E s:=by
 have b:sizeOk (.seq ((items.toList.drop (sIx items.size 0 lo)).take (sIx items.size items.size a-sIx items.size 0 lo)).toArray):=by show((items.toList.drop (sIx items.size 0 lo)).take (sIx items.size items.size a-sIx items.size 0 lo)).toArray.size<=sizeLine;rw[aod,aqx,List.length_drop,ap8];omega
 have n:sIx items.size items.size a<=items.size:=ahe _ _ (anP _) a;refine je (id hs) λos e f l=>?_;have g:s.TypeIs (.ref sl) "slice":=⟨os,e,f⟩;unfold getItem;try with_reducible refine aoN ?_
 first|refine anE (anO ?_)|skip
 refine anE (wpAny_sequenceKey c.typeIs (by decide) ?_);refine anE (aoA (name:=Str.ofString "__getitem__") c.typeIs aph (aoQ aph c.typeIs entry_tuple_getitem ?_ (args_tuple_getitem _ _)));show wpAny _ _ (Builtin.Tuple.tupleItemsOf (.ref t)>>=_) _ _ s;refine anE (tupleItemsOf_ c ?_);refine anE (wpAny_typeOf g ?_);rw[anL (by decide)];refine anE (kX hs pl k ?_);have d:¬(((sIx items.size 0 lo:Nat):Int)==0&&(1:Int)==1&&sIx items.size items.size a-sIx items.size 0 lo==items.size)=true:=by grind
 show wpAny _ _ (if(((sIx items.size 0 lo:Nat):Int)==0&&(1:Int)==1&&sIx items.size items.size a-sIx items.size 0 lo==items.size)=true then _ else _) _ _ s;rw[anK d,ab4];exact anE (m:=Builtin.Tuple.tupleExact _) (apM (anO ⟨_,rfl,anO h⟩) b)
end
end HT
namespace L2
open PySem PySem.Spec PyProof.Rows
abbrev TO:=St->Hp->(Option Int->Hp->Prop)->Prop
def PO(X:Cx)(e:Option Expr)(t:TO):Prop:=∀(a:List (Addr×Obj))(s:Shared)(σ:St)(H:Hp)(Q:Option Int->Hp->Prop),Inv X a σ H s->t σ H Q->wpAny (model X.prog X.w) X.A (evalPart e X.env) (λu c=>∃o b,Inv X a σ b c/\IsPart u o/\Q o b) X.xe s
def aeP:TO:=λ_ H Q=>Q none H
def akl(t:TE):TO:=λσ H Q=>t σ H λx a=>∃i,x=.int i/\Q (some i) a
section
variable{X:Cx}{e:Expr}{te:TE}{lo hi:Option Expr}{tl th:TO}{pos p2:Pos}
def afg:PO X none aeP:=by intro a s σ H Q I h;exact anO ⟨_,H,I,.none,h⟩
def aff(h:PE X e te):PO X (some e) (akl te):=by intro a s σ H Q I hw;refine thn (h _ s σ H _ I hw) λu g⟨x,d,f,b,c⟩=>?_;obtain⟨i,rfl,q⟩:=c;obtain⟨t,rfl⟩:=b;exact⟨_,d,f,.int i t,q⟩
def SlR(X:Cx)(r:V->Option Int->Option Int->Hp->VK->Prop):Prop:=∀(a:List (Addr×Obj))(s:Shared)(σ:St)(H:Hp)(x:V)(v b c:Value)(lo hi:Option Int)(d:Addr)(Q:VK),Inv X a σ H s->RelV x v->s.heap.IsSliceOf d b c .none->IsPart b lo->IsPart c hi->r x lo hi H Q->∃T id,typeLookup (.type T) "__getitem__"=pure (some (.builtin id))/\s.TypeIs v T/\wpAny (model X.prog X.w) X.A (getItem v (.ref d)) (EP X a σ Q) X.xe s
def SlR.or{r b}(h:SlR X r)(h':SlR X b):SlR X λx lo hi H Q=>r x lo hi H Q\/b x lo hi H Q:=by
 intro c s σ H x v g j lo hi i Q I f d pl a q;rcases q with q|q;.exact h _ s σ H x v _ _ _ _ _ Q I f d pl a q
 .exact h' _ s σ H x v _ _ _ _ _ Q I f d pl a q
def tSl(r:V->Option Int->Option Int->Hp->VK->Prop)(te:TE)(tl th:TO):TE:=λσ H Q=>te σ H λx c=>tl σ c λl b=>th σ b λu a=>r x l u a Q
def ab5{r}(z:SlR X r)(C:PE X e te)(t:PO X lo tl)(p:PO X hi th):PE X (.Subscript e (.Slice lo hi none p2) pos) (tSl r te tl th):=by intro a s σ H Q I h;refine Subscript_ (thn (C a s σ H _ I h) λv y⟨x,J,M,k,n⟩=>wpAny_Slice (thn (t a y σ J _ M n) λg B⟨l,G,D,pl,K⟩=>thn (p a B σ G _ D K) λd c⟨u,f,j,i,o⟩=>anO ?_));have w:Inv X a σ f {c with heap:=c.heap.push {cls:=.type "slice",data:=.fields #[g,d,.none]}}:=j.kept λb ob q=>anG _ q;refine gH (z a _ σ f x v g d l u c.heap.objs.size Q w k (Heap.IsSliceOf.new ..) pl i o) λT id A m E=>?_;exact tail_any m A E (rfl)
def agp(xs:List V)(lo hi:Option Int):List V:=(xs.drop (HT.sIx xs.length 0 lo)).take (HT.sIx xs.length xs.length hi-HT.sIx xs.length 0 lo)
def mW(xs)(lo hi):(agp xs lo hi).length<=xs.length:=by unfold agp;rw[aqx,List.length_drop];omega
def anj(K:W.Frag):V->Option Int->Option Int->Hp->VK->Prop:=λx lo hi H Q=>∃a b,x=.ref a/\SqT K H a b/\¬(HT.sIx b.length 0 lo=0/\HT.sIx b.length b.length hi=b.length)/\∀p,H p=none->Q (.ref p) (upd H p (.tup (agp b lo hi)))
def aha:SlR X (anj X.K):=by
 intro j s σ H x v p u lo hi t Q I n m pl k h;refine jQ h λa i f l hw q=>?_;subst f;cases n;refine je (I.tuple l) λd r g o=>?_;have c:d.toArray.size=i.length:=by rw[aod];exact r.length.symm
 refine jd "tuple" _ aph.lookup g.typeIs ?_;refine HT.kn g m pl k (by grind) ?_ (by omega);rw[c];refine(jd (.ref s.heap.objs.size) _ (I.laid (t':=s.toks) (λb ob q=>anG _ q) (anP _) ?_) rfl (q _ (I.hok.fresh (anP _))));exact⟨anQ (mW i lo hi) o,_,(r.drop _).take _,IsTup.new _ _⟩
def akK(K:W.Frag):R2:=λx y H Q=>∃a b d c,x=.ref a/\y=.ref b/\SqT K H a d/\SqT K H b c/\d≠[]/\d.length+c.length<=sizeLine/\(c=[]->Q (.ref a) H)/\(c≠[]->∀p,H p=none->Q (.ref p) (upd H p (.tup (d++c))))
def Vals.tZ{xs us}(r:Vals xs us):us=[]↔ xs=[]:=by cases r with|nil|cons _ _=>simp
def afo:OpR X (binaryOp .Add) (akK X.K):=by intro g s σ H x y v u Q I A r h;obtain⟨a,b,m,n,rfl,rfl,l,B,t,i,k,C⟩:=h;cases A;cases r;obtain⟨j,d,p,_⟩:=I.tuple l;obtain⟨f,c,p2,_⟩:=I.tuple B;refine HT.af2 p p2 (λz=>t (d.tZ.mp z)) (λz=>⟨.ref a,H,I,rfl,k (c.tZ.mp z)⟩) (λz=>?_) (by rw[<-d.length,<-c.length];exact i);refine⟨.ref s.heap.objs.size,_,I.laid (t':=s.toks) (o:=.tup (m++n)) (λb ob q=>anG _ q) (anP _) ?_,rfl,C (λw=>z (c.tZ.mpr w)) _ (I.hok.fresh (anP _))⟩;exact⟨by rw[aoh];exact i,_,d.append c,IsTup.new _ _⟩
end
noncomputable def ixN(n:Nat)(i:Int):Option Nat:=if 0<=i then if i<n then some i.toNat else none else if -(n:Int)<=i then some (i+n).toNat else none
def atI{a:Type}(xs:List a)(i:Int):Option a:=(ixN xs.length i).bind λj=>xs[j]?
def aak{n i j}(h:ixN n i=some j):seqIndex? i n=some j/\j<n/\-n<=i/\i<n:=by
 unfold ixN at h;by_cases b:0<=i
 .rw[anL b]at h;by_cases a:i<n;.rw[anL a]at h;have e:=an3 h;exact⟨by rw[seqIndex_of b a,e],by omega,by omega,a⟩
  .rw[anK a]at h;cases h
 .rw[anK b]at h;by_cases a:-(n:Int)<=i;.rw[anL a]at h;have e:=an3 h;exact⟨by rw[seqIndex_neg (by omega) a,e],by omega,a,by omega⟩
  .rw[anK a]at h;cases h
def uJ{b xs i}{v:b}(h:atI xs i=some v):∃j,seqIndex? i xs.length=some j/\xs[j]?=some v/\j<xs.length/\-xs.length<=i/\i<xs.length:=by unfold atI at h;cases e:ixN xs.length i with|none=>rw[e]at h;cases h|some j=>rw[e]at h;refine aj5 (aak e) λf a d c=>?_;exact⟨j,f,h,a,d,c⟩
def fw{a:Type}{xs:List a}{j:Nat}{v:a}(h:xs[j]?=some v):atI xs (j:Int)=some v:=by
 have b:j<xs.length:=(anM.mp h).1;have e:ixN xs.length (j:Int)=some j:=by unfold ixN;rw[anL (by omega),anL (by omega)];simp
 unfold atI;rw[e];exact h
def lq{a:Type}(xs:List a)(v:a):atI (xs++[v]) (-1)=some v:=by
 have b:(xs++[v]).length=xs.length+1:=by simp
 have e:ixN (xs++[v]).length (-1)=some xs.length:=by unfold ixN;rw[b,anK (by decide),anL (by omega)];congr 1;omega
 unfold atI;rw[e];show(xs++[v])[xs.length]?=some v;simp
def jc(b:Expr):Prop:=∀o i,subscripted b false o i=operate [o,i] (getItem o i)
def IxR(X:Cx)(r:R2):Prop:=∀(c a:Expr)(b:List (Addr×Obj))(s:Shared)(σ:St)(H:Hp)(x y:V)(v u:Value)(Q:VK),Inv X b σ H s->RelV x v->RelV y u->r x y H Q->subscripted a false v u=operate [v,u] (getItem v u)->wpAny (model X.prog X.w) X.A (subscriptTail c a v u) (EP X b σ Q) X.xe s
def MtR(X:Cx)(id:String)(r:V->List V->Hp->VK->Prop):Prop:=∀(a:List (Addr×Obj))(s:Shared)(σ:St)(H:Hp)(x:V)(c:List V)(v:Value)(b:List Value)(Q:VK),Inv X a σ H s->RelV x v->Vals c b->r x c H Q->wpAny (model X.prog X.w) X.A (call (.builtin id) (v::b)) (EP X a σ Q) X.xe s
section
variable{X:Cx}{a b:Expr}{ta tb:TE}{pos:Pos}
def IxR.or{r e}(h:IxR X r)(h':IxR X e):IxR X λx y H Q=>r x y H Q\/e x y H Q:=by
 intro d c f s σ H x y v u Q I j g q i;rcases q with q|q;.exact h _ _ _ s σ H x y v u Q I j g q i
 .exact h' _ _ _ s σ H x y v u Q I j g q i
def MtR.or{id:String}{r i:V->List V->Hp->VK->Prop}(h:MtR X id r)(h':MtR X id i):MtR X id λx d H Q=>r x d H Q\/i x d H Q:=by
 intro c s σ H x d v g Q I e f q;rcases q with q|q;.exact h c s σ H x d v g Q I e f q
 .exact h' c s σ H x d v g Q I e f q
def afk{r}(d:IxR X r)(e:PE X a ta)(j:PE X b tb)(hs:jc b):PE X (.Subscript a b pos) (tOp r ta tb):=by intro c s σ H Q I h;exact Subscript_ (al4 e j I h λv u k x y l g i f q=>d a b _ _ σ _ x y v u Q g i f q (hs _ _))
def amB(K:W.Frag):R2:=λx y H Q=>∃p c i v,x=.ref p/\y=.int i/\SqL K H p c/\atI c i=some v/\Q v H
def amz(K:W.Frag):R2:=λx y H Q=>∃p c i v,x=.ref p/\y=.int i/\SqT K H p c/\atI c i=some v/\Q v H
def amA:R2:=λx y H Q=>∃z i c,x=.str z/\y=.int i/\z.length<=sizeLine/\atI z.cps.toList i=some c/\Q (.str ⟨#[c]⟩) H
def aai:IxR X (amB X.K):=by
 intro l k c s σ H x y v u Q I M J h m;obtain⟨p,N,i,z,rfl,rfl,A,K,q⟩:=h;cases M;obtain⟨t,rfl⟩:=J;obtain⟨e,r,pl,P⟩:=I.list A;obtain⟨j,d,G,R,C,D⟩:=uJ K;obtain⟨w,o,g⟩:=r.get G;have E:=r.length;have O:=rN;have fin:EP X c σ Q w s:=⟨z,H,I,g,q⟩;by_cases n:0<=i
 .have f:i.toNat=j:=by rw[seqIndex_of n D]at d;exact an3 d
  exact item_listR pl.isList n (by omega) (by rw[f];simpa using o) fin m
 .have f:(i+(e.toArray.size:Int)).toNat=j:=by rw[seqIndex_neg (by omega) C]at d;rw[aod,<-E];exact an3 d
  exact subscriptTail_builtinR (x:=w) pl.isList.typeIs slot_list_getitem.lookup (wpAny_getItem_list_neg (Q:=λr B=>r=w/\EP X c σ Q r B) pl.isList (by omega) (by rw[aod]<;>omega) (by omega) (by rw[f];simpa using o) ⟨rfl,fin⟩) m
def aeb:IxR X (amz X.K):=by intro e d f s σ H x y v u Q I A m h n;obtain⟨p,C,i,z,rfl,rfl,g,o,q⟩:=h;cases A;obtain⟨t,rfl⟩:=m;obtain⟨k,r,pl,J⟩:=I.tuple g;obtain⟨j,D,l,M,B,G⟩:=uJ o;obtain⟨w,N,c⟩:=r.get l;have K:=r.length;have E:=rN;exact subscriptTail_builtinR pl.typeIs slot_tuple_getitem.lookup (getItem_tuple (j:=j) pl (by omega) (by omega) (by grind) (by grind) ⟨rfl,⟨z,H,I,c,q⟩⟩) n
def ain:IxR X amA:=by
 intro e d g s σ H x y v u Q I A p h r;obtain⟨z,i,c,rfl,rfl,D,w,q⟩:=h;obtain⟨t,rfl⟩:=A;obtain⟨G,rfl⟩:=p;obtain⟨j,f,o,E,k,m⟩:=uJ w;have n:z.cps.toList.length=z.length:=by simp[Str.length]
 rw[n]at f k m;have C:=rN;exact tail_any (typeIs_str s z t) slot_str_getitem.lookup (getItem_str (c:=c) (by have l:decide (i < -(2^63:Int))=false:=aoe (by omega);have B:decide (i ≥ 2^63)=false:=aoe (by omega);rw[l,B,Bool.or_false]) (by rw[f];simpa using o) ⟨.str ⟨#[c]⟩,H,I.tok _,⟨_,rfl⟩,q⟩) r
def rIx(K:W.Frag):R2:=λx y H Q=>amB K x y H Q\/amz K x y H Q\/amA x y H Q
def vJ:IxR X (rIx X.K):=aai.or (aeb.or ain)
def xm(its:List Value)(n j:Nat)(u:Value):Obj.mapSeq (·.setIfInBounds j u) {cls:=.type "list",data:=.seq its.toArray n}={cls:=.type "list",data:=.seq (its.set j u).toArray n}:=by simp[Obj.mapSeq]
theorem Inv.lst{pins:List (Addr×Obj)}{σ:St}{H:Hp}{s:Shared}{p:Addr}{xs:List V}(I:Inv X pins σ H s)(h:H p=some (.lst xs)):∃(its:List Value)(n:Nat),Vals xs its/\s.heap.get? p=some {cls:=.type "list",data:=.seq its.toArray n}/\xs.length<=sizeLine:=by obtain⟨z,its,n,r,e⟩:=I.hok p _ h;exact⟨its,n,r,e,z⟩
def Inv.ah3{pins:List (Addr×Obj)}{σ:St}{H:Hp}{s:Shared}{p:Addr}{xs ys:List V}{its its':List Value}{n c:Nat}{f:Obj->Obj}(I:Inv X pins σ H s)(h:H p=some (.lst xs))(i:s.heap.get? p=some {cls:=.type "list",data:=.seq its.toArray n})(d:f {cls:=.type "list",data:=.seq its.toArray n}={cls:=.type "list",data:=.seq its'.toArray c})(r:Vals ys its')(hz:ys.length<=sizeLine)(t:Nat):Inv X pins σ (upd H p (.lst ys)) {s with heap:=s.heap.update p f,toks:=t}:=by
 have e:(s.heap.update p f).get? p=some {cls:=.type "list",data:=.seq its'.toArray c}:=by rw[aoS f i (by rw[d]<;>rfl),d]
 refine I.write (x:=p) (e:=p) (by rw[h];trivial) (.inl rfl) (λb u g q=>(aok _ _ (anY g)).trans q) ⟨_,e⟩ ?_;exact⟨hz,its',c,r,e⟩
def akJ:V->V->V->Hp->(Hp->Prop)->Prop:=λo i v H Q=>∃p c k j,o=.ref p/\i=.int k/\H p=some (.lst c)/\ixN c.length k=some j/\Q (upd H p (.lst (c.set j v)))
def set_list:am4 X akJ:=by
 intro d s σ H o i v N M u Q I D G E h;obtain⟨p,A,k,j,rfl,rfl,y,B,q⟩:=h;cases D;obtain⟨t,rfl⟩:=G;obtain⟨c,n,r,l,C⟩:=I.lst y;obtain⟨e,K,x,m⟩:=aak B;have g:=r.length;have J:=rN;have w:Inv X d σ (upd H p (.lst (A.set j v))) {s with heap:=s.heap.update p (Obj.mapSeq (·.setIfInBounds j u))}:=I.ah3 y l (xm c n j u) (r.set E j) (by rw[ap0];exact C) s.toks;by_cases z:0<=k
 .have f:k.toNat=j:=by rw[seqIndex_of z m]at e;exact an3 e
  exact W.ki_setAt l z (by omega) (by rw[aod,<-g];exact m) (by rw[f];exact⟨_,w,q⟩)
 .have f:(k+(c.toArray.size:Int)).toNat=j:=by rw[seqIndex_neg (by omega) x]at e;rw[aod,<-g];exact an3 e
  exact W.ki_setBack l (by omega) (by rw[aod,<-g];exact x) (by omega) (by rw[f];exact⟨_,w,q⟩)
def qJ(lo c)(n):(sliceBounds lo c none n).1=(HT.sIx n 0 lo:Nat)/\(sliceBounds lo c none n).2.1=(HT.sIx n n c:Nat)/\(sliceBounds lo c none n).2.2=1:=by
 refine⟨?_,?_,rfl⟩;.cases lo with|none=>simp[sliceBounds,HT.sIx]|some i=>
  simp only[sliceBounds,HT.sIx,Option.getD_none,show(1:Int)>0 by decide,apk];by_cases h:i<0;.simp only[h,apk]<;>omega
  .simp only[h,if_false]<;>omega
 .cases c with|none=>simp[sliceBounds,HT.sIx]|some i=>
  simp only[sliceBounds,HT.sIx,Option.getD_none,show(1:Int)>0 by decide,apk];by_cases h:i<0;.simp only[h,apk]<;>omega
  .simp only[h,if_false]<;>omega
def pe(its:List Value)(lo c):slicePick its.toArray lo c none=((its.drop (HT.sIx its.length 0 lo)).take (HT.sIx its.length its.length c-HT.sIx its.length 0 lo)).toArray:=by obtain⟨f,e,d⟩:=qJ _ _ _;unfold slicePick;rw[f,e,d];simp only[sliceRange_one,pick_run,aod]
def ank(K:W.Frag):V->Option Int->Option Int->Hp->VK->Prop:=λx lo d H Q=>∃a c,x=.ref a/\SqL K H a c/\∀p,H p=none->Q (.ref p) (upd H p (.lst (agp c lo d)))
def aeT:SlR X (ank X.K):=by intro f s σ H x v p u lo n t Q I m l pl g h;refine gH h λa j d k q=>?_;subst d;cases m;refine je (I.list k) λi r e o=>?_;have c:=r.length;refine jd "list" _ slot_list_getitem.lookup e.isList.typeIs (wpAny_getItem_list_slice e.isList l pl g .none (by simp) ?_ (by grind));rw[pe,<-c];refine jd (.ref s.heap.objs.size) _ (I.laid (λb ob q=>anG _ q) (anP _) ?_) rfl (q _ (I.hok.fresh (anP _)));exact⟨anQ (mW j lo n) o,_,0,(r.drop _).take _,anT _ rfl⟩
def sk:bN X (.builtin "len") λj H Q=>∃p c,j=[.ref p]/\(SqL X.K H p c\/SqT X.K H p c)/\Q (.int c.length) H:=by
 intro k s σ H j o Q I r h;refine gH h λp c i d q=>?_;subst i;obtain⟨u,rfl,l⟩:=vals1 r;cases l;have n:=rN;rcases d with d|d;.obtain⟨f,g,pl,m⟩:=I.list d;have e:=g.length;exact Calls.call_len_list pl.isList (by grind) ⟨.int c.length,H,I.tok _,⟨s.toks+1,by grind⟩,q⟩
 .obtain⟨f,g,pl,m⟩:=I.tuple d;have e:=g.length;exact len_tuple pl (by grind) ⟨.int c.length,H,I.tok _,⟨s.toks+1,by grind⟩,q⟩
def bN.or{f r e}(h:bN X f r)(h':bN X f e):bN X f λc H Q=>r c H Q\/e c H Q:=by
 intro g s σ H c i Q I d q;rcases q with q|q;.exact h _ s σ H _ _ Q I d q
 .exact h' _ s σ H _ _ Q I d q
def qj:bN X (.type "tuple") λi H Q=>∃p d,i=[.ref p]/\((SqL X.K H p d/\∀l,H l=none->Q (.ref l) (upd H l (.tup d)))\/SqT X.K H p d/\Q (.ref p) H):=by
 intro j s σ H i x Q I r h;obtain⟨p,d,rfl,h⟩:=h;obtain⟨u,rfl,w⟩:=vals1 r;cases w;rcases h with⟨f,q⟩|⟨f,q⟩;.obtain⟨c,g,pl,k⟩:=I.list f;have n:=g.length;refine call_tuple_list pl.isList (λy t=>?_) (by grind);have m:=I.kept (t':=s.toks) t;have v:=m.laid (t':=s.toks) (λb o e=>anG _ e) (anP _) (show dD _ X.w _ _ _ (.tup d)from⟨k,c,g,IsTup.new _ _⟩);exact jd (.ref _) _ v rfl (q _ (m.hok.fresh (anP _)))
 .obtain⟨c,g,pl,k⟩:=I.tuple f;exact call_tuple_same pl (jd (.ref p) H I rfl q)
def tyV(K:W.Frag)(T:String)(x:V)(H:Hp):Prop:=match x with|.str _=>T="str"|.int _=>T="int"|.ref p=>(T="list"/\∃d,SqL K H p d)\/(T="tuple"/\∃o,K.lookup p=some o/\o.cls=.type "tuple"/\o.dict=none)\/T="dict"/\((∃c,H p=some (.dK c))\/∃c,H p=some (.dT c))\/T="set"/\∃S n,H p=some (.set S n)|_=>False
def agY{pins}{σ:St}{H s T x v}(I:Inv X pins σ H s)(r:RelV x v)(ty:tyV X.K T x H):
 s.TypeIs v T/\∀a,v=.ref a->∃ob,s.heap.get? a=some ob/\ob.dict=none:=by cases x with|str z=>obtain⟨t,rfl⟩:=r;cases show T="str"from ty;exact⟨typeIs_str s z t,λ_ e=>nomatch e⟩|int i=>obtain⟨t,rfl⟩:=r;cases show T="int"from ty;exact⟨typeIs_int s i t,λ_ e=>nomatch e⟩|ref p=>
  cases r;rcases ty with⟨rfl,m,j⟩|⟨rfl,o,d,l,f⟩|⟨rfl,d⟩|⟨rfl,S,n,d⟩;.obtain⟨k,_,pl,_⟩:=I.list j;refine⟨pl.isList.typeIs,λa e=>?_⟩;cases e;obtain⟨o,n,e,c,f,_⟩:=pl;exact⟨o,e,f⟩
  .refine⟨⟨o,I.kIn p o d,l⟩,λa e=>?_⟩;cases e;exact⟨o,I.kIn _ o d,f⟩
  .have z:∃o,s.heap.get? p=some o/\o.ExactDict:=by
    rcases d with⟨g,d⟩|⟨g,d⟩;.obtain⟨_,_,_,_,o,_,_,e,ex,_⟩:=I.hok p _ d;exact⟨o,e,ex⟩
    .obtain⟨_,_,_,_,o,_,_,e,ex,_⟩:=I.hok p _ d;exact⟨o,e,ex⟩
   obtain⟨o,e,ex⟩:=z;refine⟨⟨o,e,ex.1⟩,λa h=>?_⟩;cases h;exact⟨o,e,ex.2.1⟩
  .obtain⟨o,_,_,_,e,ex,_⟩:=I.hok p _ d;refine⟨⟨o,e,ex.1⟩,λa h=>?_⟩;cases h;exact⟨o,e,ex.2.1⟩|_=>exact False.elim ty
def tBM(K:W.Frag)(T:String)(r:V->List V->Hp->VK->Prop)(e:TE)(t:TA):TE:=λσ H Q=>e σ H λx c=>tyV K T x c/\t σ c λf d=>r x f d Q
variable{o e:Expr}{es:List Expr}{to:TE}{t:TA}{name:Str}{apos cpos:Pos}{T id:String}{r:V->List V->Hp->VK->Prop}
def zB(A:PlainAttrs T)(j:Slot T name id)(k:typeOf (.builtin id)=pure (.type "method_descriptor"))(u:MtR X id r)(N:PE X o to)(y:PA X (e::es) t)(f:attributeBase o name X.env (eval o X.env)=eval o X.env:=by rfl)(i:((backTo cpos (starEach (e::es) X.env)).all (λx=>!x.1)&&(backToKw cpos (keywordEach [] X.env)).all (λx=>x.1.isSome)&&decide ((e::es).length+([]:List Keyword).length+(if([]:List Keyword).isEmpty then 0 else 1)<30))=true:=by rfl)(g:(apos.endLine==cpos.line)=true:=by rfl)(hs:SE X e es:=by rfl)(d:BT X cpos es:=by rfl):PE X (.Call (.Attribute o name apos) (e::es) [] cpos) (tBM X.K T r to t):=by intro c s σ H Q I h;refine wpAny_Call_method_late f i g rfl (thn (N c s σ H _ I h) λv p⟨x,J,n,l,ty,w⟩=>?_);obtain⟨z,q⟩:=agY n l ty;refine⟨T,id,A,j,k,z,q,?_⟩;have m:=y cpos c p σ J _ n w;rw[hs]at m⊢;refine Calls.callWith_builtin (by show(false||(backTo cpos (starEach es X.env)).any (·.1))=false;rw[d]<;>rfl) (ap1 ?_);exact thn m λG C⟨B,E,D,K,M⟩=>u c C σ E x B v G Q D l K M
end
def MtM(X:Cx)(id:String)(r:V->List V->Hp->VK->Prop):Prop:=∀(a:List (Addr×Obj))(s:Shared)(σ:St)(H:Hp)(x:V)(c:List V)(v:Value)(b:List Value)(Q:VK),Inv X a σ H s->RelV x v->Vals c b->r x c H Q->wpAny (model X.prog X.w) X.A (call (.builtin id) (v::b)) (EP X a σ Q) X.xe s
def Vals.one:∀{x us},Vals [x] us->∃u,us=[u]/\RelV x u|_,_,.cons r .nil=>⟨_,rfl,r⟩
theorem Vals.eraseIdx:∀{xs us}i,Vals xs us->Vals (xs.eraseIdx i) (us.eraseIdx i)|_,_,_,.nil=>.nil|_,_,0,.cons _ t=>t|_,_,i+1,.cons r t=>.cons r (Vals.eraseIdx i t)
theorem Vals.reverse{xs:List V}{us:List Value}(h:Vals xs us):Vals xs.reverse us.reverse:=by induction h with|nil=>exact .nil|cons r t ih=>rw[List.reverse_cons,List.reverse_cons];exact Vals.append ih (.cons r .nil)
theorem rO{a:Type}:∀(l:List a)i,(l.eraseIdx i).length<=l.length|[],_=>anP _|_::_,0=>aqb _|_::r,i+1=>Nat.succ_le_succ (rO r i)
section
variable{X:Cx}{pins:List (Addr×Obj)}{σ:St}{H:Hp}{s:Shared}{l b:Addr}{xs ys zs:List V}
def Inv.alv{its its':List Value}{n f t'}(I:Inv X pins σ H s)(a:H l=some (.lst xs))(e:s.heap.get? l=some {cls:=.type "list",data:=.seq its.toArray n})(c:f its.toArray=its'.toArray)(g:Vals ys its')(hz:ys.length<=sizeLine):Inv X pins σ (upd H l (.lst ys)) {s with heap:=s.heap.update l (Obj.mapSeq f),toks:=t'}:=by have q:=PySem.IsL.update e f;rw[c]at q;refine I.write (by rw[a];exact trivial) (.inl rfl) (λi u h d=>(aok _ _ (anY h)).trans d) ⟨_,q⟩ ?_;exact⟨hz,_,_,g,q⟩
def Inv.ans{its t'}(I:Inv X pins σ H s)(a:Vals ys its)(hz:ys.length<=sizeLine):Inv X pins σ (upd H s.heap.objs.size (.lst ys)) {s with heap:=s.heap.push {cls:=.type "list",data:=.seq its.toArray},toks:=t'}:=I.laid (λ_ _ q=>anG _ q) (anP _) ⟨hz,_,0,a,anT _ rfl⟩
theorem Inv.fresh(I:Inv X pins σ H s):H s.heap.objs.size=none:=I.hok.fresh (anP _)
def Inv.alu(I:Inv X pins σ H s)(c:H l=some (.lst xs)):xs.length<=sizeLine/\∃a n,Vals xs a/\xs.length=a.length/\s.heap.get? l=some {cls:=.type "list",data:=.seq a.toArray n}:=by obtain⟨z,a,n,r,e⟩:=I.hok l _ c;exact⟨z,_,n,r,r.length,e⟩
def ack{n:Nat}(h:n<=sizeLine):Builtin.List.listTooLong n=false:=by unfold Builtin.List.listTooLong;exact aoe (by omega)
end
section
variable{X:Cx}
def zi:V->List V->Hp->VK->Prop:=λx b H Q=>∃l a y,x=.ref l/\b=[y]/\H l=some (.lst a)/\a.length<sizeLine/\Q .non (upd H l (.lst (a++[y])))
def rK:MtM X "list.append" zi:=by intro d s σ H x m v p Q I g j h;refine ajf h λl k y a b c o q=>?_;subst a b;cases g;obtain⟨u,rfl,i⟩:=j.one;obtain⟨z,f,n,r,t,e⟩:=I.alu c;refine aqT F.slot_list_append ⟨_,e,rfl⟩ F.entry_list_append (F.args_list_append_2 _ _) (PySem.list_append l _ n u (by grind)) ⟨e,.non,_,I.alv c e (by simp) (r.append (.cons i .nil)) ?_,rfl,q⟩;rw[aoh,apo];omega
def adQ:V->List V->Hp->VK->Prop:=λx b H Q=>∃l a i k y,x=.ref l/\b=[.int i]/\H l=some (.lst a)/\-2^63<=i/\i<2^63/\seqIndex? i a.length=some k/\a[k]?=some y/\Q y (upd H l (.lst (a.eraseIdx k)))
def acq:MtM X "list.pop" adQ:=by
 intro c s σ H x D v E Q I B o h;obtain⟨l,f,i,k,y,rfl,rfl,d,g,A,j,p,q⟩:=h;cases B;obtain⟨u,rfl,C⟩:=o.one;obtain⟨t,rfl⟩:=C;obtain⟨z,a,n,r,m,e⟩:=I.alu d;obtain⟨w,hw,b⟩:=r.get p;refine aqT F.slot_list_pop ⟨_,e,rfl⟩ F.entry_list_pop (F.args_list_pop_2 _ _) (MeetsSeq.list_pop_at l a.toArray n i t k w (fitsIndex_both g A) (by rw[aod,<-m];exact j) (by rw[<-Array.getElem?_toList];exact hw) (by rw[aod];omega)) ⟨e,?_⟩;refine⟨y,_,I.alv (its':=a.eraseIdx k) d e ?_ (r.eraseIdx k) ?_,b,q⟩;.show a.toArray.eraseIdxIfInBounds k=(a.eraseIdx k).toArray;rw[List.eraseIdxIfInBounds_toArray]
 .have:=rO f k;omega
end
end L2
namespace Att
open PySem PySem.W PySem.Calls PyProof.Rows
def mF{P h}:∀c d,WellAll P h d (c.map WData.int)->IntsAre d c:=by intro c;induction c with|nil=>intro d w;cases w;exact .nil|cons n c ih=>intro d w;cases w with|cons a b=>cases a;exact .cons _ _ (ih _ b)
def y4{l:OpenLaw}{n}(t:l.most=some n){P h args c}(b:l.row.toRowW.claim.pre args=true)(j:WellAll P h c args):∃a k e,c=[Value.ref a]/\args=[WData.list (e.map WData.int)]/\h.get? a=some {cls:=.type "list",data:=.seq k.toArray}/\IntsAre k e/\e.length<=n:=by
 have o:l.pre.holds [] {args:=args}=true:=(pre_splitW b).2;refine gH (hasAllW_cons (pre_splitW b).1) λd r i s p=>?_;subst i;obtain rfl:=hasAllW_nil p;obtain⟨v,rfl,u⟩:=hasW_list s;obtain⟨e,rfl⟩:=items_int u;have f:e.length<=n:=by
  unfold OpenLaw.pre at o;have g:=by have g:=(holds_andW o).1;rw[t]at g;exact g
  have m:=condW_of g (w_not (w_lt w_lit (w_len_list (w_arg rfl))));rw[an0]at m;refine Nat.le_of_not_lt λq=>?_;(simp at m;omega)
 cases j with|cons w1 w2=>cases w2;cases w1 with|list ho hall=>exact aj7 _ _ e rfl rfl ho (mF e _ hall) f
def zv(l:OpenLaw)(a):l.row.toRowW.claim.post a (.bool true) a=true:=postW_of (rfl) (w_eq_bool (w_res rfl) w_lit) rfl
def uI{l:OpenLaw}{n q c M I d}(R:l.most=some n)(A:d.params.defaults=[])(call:∀w e b t E k o B v g a j x,Ground q c [] M w e t E b.heap->I w b.heap->b.heap.get? k=some o->o.data=.func (docDef d.name d.params d.body d.scope B v g)->b.heap.CodeRec v d.name->t d.name=some (.ref k)->b.heap.get? a=some {cls:=.type "list",data:=.seq j.toArray}->IntsAre j x->x.length<=n->b.gens=#[]->codeAny (model l.prog w) callerA (.call (.ref k) ⟨[.ref a],[]⟩) (λr u=>r=.ok (.ret (.bool true))/\OldK b.heap u.heap/\u.os=b.os/\AllBare u.gens) b):WalkO q c M I l.row.toRowW d [] λf j=>PySem.call f j:=by intro w e b t E G Y k o B v g T kV ho X z K y hg J N as p H a0 D S;obtain rfl:T=.none:=Dflts.none K A;obtain rfl:kV=.none:=Dflts.noKw K;refine ajf (y4 R p D) λa j x i C s h m=>?_;subst i C;refine enter_call (apC (call w e b t E k o B v g a j x G Y ho (fd_plain X) z y s h m hg) λr u O=>?_);refine aj5 O λi Z U Q=>?_;subst i;exact⟨.inl (aj7 _ (.bool true) [] rfl (λ_=>rfl) (.bool true) (zv l _) λ_=>⟨List.Pairwise.nil,λ_ P=>nomatch P⟩),Z,U,Q⟩
end Att
namespace L2
open PySem PySem.Spec PyProof.Rows
theorem qC:∀{vs ns},IntsAre vs ns->Vals (ns.map V.int) vs|_,_,.nil=>.nil|_,_,.cons n t h=>.cons ⟨t,rfl⟩ (qC h)
def amf(H:Hp):Prop:=∀b,H b=none\/∃o a,H b=some (.frz o (.lst a))
def acF{P w K G Y CX k O a fd x sp c vs ns}(KX:K.In c.heap)(E:c.heap.Ns mainGlobals G)(g:c.heap.Ns builtinsNs Y)(S:∀x:Str,x≠"__name__"->Y x=bootBuiltins x)(J:c.heap.NoLimit)(hg:c.gens=#[])(Q:c.heap.get? a=some {cls:=.type "list",data:=.seq vs.toArray})(hi:IntsAre vs ns)(hl:ns.length<=sizeLine)(hr:Room k callerA)(F:∀i,K.In i->i.Ns mainGlobals G->FnOk P w K G i CX k O fd [x] sp)(t:∀s u,BindsTo s fd ⟨[u],[]⟩ [(x,u)])(U:∀H,amf H->SqL K H a (ns.map V.int)->sp [.ref a] H (λv _=>v=.bl true) λ_ _ _=>False)(X:∀H e j,CX [] H c (λ_ _ _=>False) e j->False):codeAny (model P w) callerA (.call (.ref O) ⟨[.ref a],[]⟩) (λr j=>r=.ok (.ret (.bool true))/\OldK c.heap j.heap/\j.os=c.os/\AllBare j.gens) c:=by
 have rv:=qC hi;have I:=hi.length;-- from an abstract heap in which nothing but the script may be tracked
 have p:∀H:Hp,amf H->SqL K H a (ns.map V.int)->HOk P w H c.heap->(∀b,H b≠none->b=a)->(H a≠none->K.lookup a=none)->codeAny (model P w) callerA (.call (.ref O) ⟨[.ref a],[]⟩) (λr j=>r=.ok (.ret (.bool true))/\OldK c.heap j.heap/\j.os=c.os/\AllBare j.gens) c:=by
  intro H Z hS B hA hK;have f:∀{b:Addr}{o:Obj},c.heap.get? b=some o->H b=none->(acS c.heap H).get? b=some o:=λe n=>acR e n;have R:∀{b:Addr}{o:Obj}{N:Array DictEntry}{M:Nat},c.heap.get? b=some o->o.data=.dict N M->H b=none:=λ{b o N M}e d=>by grind
  have l:∀{b:Addr}{m:Str->Option Value},c.heap.Ns b m->(acS c.heap H).Ns b m:=λ{b m}⟨o,N,M,e,d,r⟩=>⟨o,N,M,f e (R e d),d,r⟩;have y:K.In (acS c.heap H):=λb o e=>f (KX b o e) (by cases q:H b with|none=>rfl|some u=>have e':b=a:=hA b (by rw[q];simp);subst e';rw[hK (by rw[q];simp)]at e;cases e);have hM:Mod K G (acS c.heap H):=⟨y,l E,⟨Y,l g,S⟩,let⟨mc,h1,h2⟩:=J;⟨mc,l h1,h2⟩⟩;have e0:Env0 P w K G (acS c.heap H) callerA [] c H:=⟨rfl,hM,λb o e=>afr e,Nat.le_of_eq (aas _ _),trivial,λb g=>absurd (show b∈([]:List Addr)from g) (by simp),B,.of_eq hg⟩;refine apC ((F _ y (l E)).run callerA [] c H ⟨[.ref a],[]⟩ [.ref a] [.ref a] _ _ hr trivial e0 (t c (.ref a)) (.cons rfl .nil) (U H Z hS)) λr j h=>?_;cases r with|error e=>exact(X H e j h).elim|ok fl=>cases fl with|next|brk|cont=>exact False.elim h|ret u=>obtain⟨v,H',os,C,un,D,r',q⟩:=h;have q':v=.bl true:=q;subst q';obtain rfl:u=Value.bool true:=r';refine⟨rfl,OldK.of_keep λb o e=>?_,os,C⟩;cases q:H b with|none=>exact un.keep b o e q (by intro z;exact absurd (show b∈([]:List Addr)from z) (by simp)) (by simp)|some u=>
     rcases Z b with z|⟨ob,xs,z⟩;.rw[q]at z;cases z
     .have z2:=un.frzs b ob _ z;obtain⟨e1,_⟩:=B b _ z;obtain⟨e2,_⟩:=D b _ z2;rw[e]at e1;cases e1;exact e2
 cases T:K.lookup a with|some o=>-- the script is one of the module's own objects
 have e:=KX a o T;rw[Q]at e;cases e;refine p (λ_=>none) (λ_=>.inl rfl) (.inr ⟨_,vs.toArray,_,T,rfl,rfl,rfl,by rw[aod,I];exact hl,by simpa using rv⟩) (λb u z=>by have A:(none:Option HO)=some u:=z;cases A) (λb z=>absurd rfl z) λz=>absurd rfl z|none=>
  refine p (λb=>if b=a then some (.frz {cls:=.type "list",data:=.seq vs.toArray} (.lst (ns.map V.int)))else none) (λb=>?_) (.inl (.inr ⟨{cls:=.type "list",data:=.seq vs.toArray},anL rfl⟩)) (λb u z=>?_) (λb z=>?_) λ_=>T
  .by_cases g:b=a;.exact .inr ⟨_,_,anL g⟩
   .exact .inl (anK g)
  .by_cases g:b=a;.have A:=(anL g).symm.trans z;cases A;subst g;exact⟨Q,by rw[an0];exact hl,vs,_,rv,Q⟩
   .have A:=(anK g).symm.trans z;cases A
  .by_cases g:b=a;.exact g
   .exact absurd (anK g) z
def aeI{l:W.OpenLaw}{n k q g X J d}{K:Params->W.Frag}{CX:World->CXT}{sp:World->Sp}{x}(R:l.most=some n)(E:n<=sizeLine)(C:d.params.defaults=[])(U:Room k callerA)(hY:∀w h,J w h->(K w.params).In h)(F:∀w j r h,(K w.params).In h->h.Ns mainGlobals j->j d.name=some (.ref r)->∃B,(∀s u,BindsTo s B ⟨[u],[]⟩ [(x,u)])/\∀b,(K w.params).In b->b.Ns mainGlobals j->FnOk l.prog w (K w.params) j b (CX w) k r B [x] (sp w))(A:∀w H a(t:List Int),t.length<=n->amf H->SqL (K w.params) H a (t.map V.int)->sp w [.ref a] H (λv _=>v=.bl true) λ_ _ _=>False)(D:∀w H s e y,CX w [] H s (λ_ _ _=>False) e y->False):W.WalkO q g X J l.row.toRowW d [] λf M=>PySem.call f M:=by refine Att.uI R C λw N m j mb r o pm cd T a M t G Y ho hd S z p i c hg=>?_;have I:=hY w _ Y;refine fy (F w j r _ I G.T.g z) λB Z O=>?_;exact acF I G.T.g G.T.b G.T.builtins G.T.nolimit hg p i (anQ c E) U O Z (λH Q P=>A w H a t c Q P) λH e y=>D w H m e y
noncomputable def bE(s:Stmt):Arguments:=match s with|.FunctionDef _ a _ _ _ _ _ _ _ _=>a|_=>{posonlyargs:=[],args:=[],vararg:=none,kwonlyargs:=[],kw_defaults:=[],kwarg:=none,defaults:=[]}
noncomputable def aP(s:Stmt):List Stmt:=match s with|.FunctionDef _ _ b _ _ _ _ _ _ _=>b|_=>[]
noncomputable def af(s:Stmt):Scope:=match s with|.FunctionDef _ _ _ _ _ _ sc _ _ _=>sc|_=>{kind:=.function,names:=[],isGenerator:=false,isCoroutine:=false}
abbrev CX0:CXT:=λ_ _ _ _ _ _=>False
abbrev E0:XK:=λ_ _ _=>False
def zC{X}:Passes CX0 X E0:=λ_ _ _ _ _ _ _ h=>h.elim
structure Fun(K:W.Frag)(x qual:Str)(st:Stmt)(f:Addr)(fd:FuncData):Prop where
 ex:∃(oc:Value)(od:Option Addr)(kV doc pm:Value)(an:Option Addr)(cdv ct:Value)(osl:Array (Option Value)),fd=W.fnOf x qual (bE st) (aP st) (af st) .none kV doc pm an cdv ct/\K.lookup f=some ⟨oc,od,.func fd,osl⟩/\W.codeIn K cdv qual=true
 kp:W.keepIn K (.ref f)=true
section
variable{P:Program}{w:World}{K:W.Frag}{mg:Str->Option Value}{base:Heap}
def Fun.ok{x b st f l N ps k sp}(F:Fun K x b st f l)(S:FnScope N ps (af st))(len:∀e H Q E,sp e H Q E->e.length=ps.length)(d:∀c A a s H e Q E,Room k (A.deeper (envOfC b (af st) s.heap.objs.size f c))->sp e H Q E->∃t,PSs (iI CX0 P w K mg base N b (af st) f c A a s H E).nox (aP st) t/\t {nx:=λ_ n=>Q .non n,rt:=Q} (start N e) H):FnOk P w K mg base CX0 (k+1) f l ps sp:=by refine aep F.ex λu od kV o v y c ct r j m i=>?_;subst j;refine acW m i S len λA a s H e Q E p _ g=>?_;obtain⟨t,h,q⟩:=d _ A _ s H _ Q E p g;exact⟨t,h.nox,q⟩
def Fun.binds{x a st f i ps}(F:Fun K x a st f i)(h:∀kV c g j b ct e,e.length=ps.length->bindArgs (W.fnOf x a (bE st) (aP st) (af st) .none kV c g j b ct) ⟨e,[]⟩=pure (ps.zip e)):Binds K i ps []:=by refine aep F.ex λm od kV c g j b ct k d n l=>?_;subst d;exact .all (h _ _ _ _ _ _)
def aax{x a st f i od h e kV d g b ct}(l:K.lookup f=some ⟨i,od,.func (W.fnOf x a (bE st) (aP st) (af st) .none kV d g h b ct),e⟩)(c:W.codeIn K b a=true)(k:W.keepIn K (.ref f)=true):Fun K x a st f (W.fnOf x a (bE st) (aP st) (af st) .none kV d g h b ct):=⟨⟨i,od,kV,_,g,h,_,ct,_,rfl,l,c⟩,k⟩
end
section
variable{X:Cx}
def pv(i){x pos}(d:X.N[i]?=some x:=by rfl)(c:Vis X.env.scope x:=by first|exact Or.inl rfl|exact Or.inr (Or.inl rfl)|exact Or.inr (Or.inr rfl))(b:Dbg x:=by decide)(a:(x=="__classdict__")=false:=by decide):PE X (.Name x pos) (jP i):=ahy d c b a
end
def ax(H H':Hp):Prop:=∀b o,H b=some o->H' b=some o
def ax.refl(H):ax H H:=λ_ _ h=>h
def ax.trans{H e d}(a:ax H e)(b:ax e d):ax H d:=λc o h=>b c o (a c o h)
def ax.free{H H'}(e:ax H H'){l}(h:H' l=Option.none):H l=Option.none:=by cases q:H l with|none=>rfl|some o=>rw[e l o q]at h;cases h
def ax.seq{K H H' a xs}(e:ax H H')(h:SqL K H a xs):SqL K H' a xs:=by
 rcases h with(h|⟨o,h⟩)|h;.exact .inl (.inl (e _ _ h))
 .exact .inl (.inr ⟨o,e _ _ h⟩)
 .exact .inr h
end L2
set_option maxHeartbeats 4000000
namespace FM
noncomputable def nx(x:Int):Int:=if x=200 then -200 else x+1
noncomputable def xk(x:Int):Nat->Int|0=>x|k+1=>nx (xk x k)
abbrev S3:=Int×Int×Int
noncomputable def lt(q:Int)(p:S3):S3:=let r:=q%4;if r=0 then(p.1,p.2.1,(p.2.2+q)%4)else if r=1 then(0-p.2.1,p.1,(p.2.2+q)%4)else if r=2 then(0-p.1,0-p.2.1,(p.2.2+q)%4)else(p.2.1,0-p.1,(p.2.2+q)%4)
noncomputable def lx:List Int->List Int->Bool|[],[]=>false|[],_::_=>true|_::_,[]=>false|x::xs,y::ys=>if x=y then lx xs ys else decide (x<y)
end FM
set_option autoImplicit true
set_option relaxedAutoImplicit true
namespace L2
open PySem PySem.Spec PyProof.Rows
noncomputable def dm(a:List (Str×Addr)):List (Str×NameKind)->List (Str×Addr)->List (Str×Addr)|[],acc=>acc|(n,k)::r,acc=>if k==.free then match a.lookup n with|some c=>dm a r ((n,c)::acc)|none=>dm a r acc else dm a r acc
def ez (h:∀y∈scope.names,y.2=.free->(env.cells.lookup y.1).isSome=true):closureFor scope env=pure (dm env.cells scope.names []):=by
 have all:∀(a:List (Str×NameKind))(b:List (Str×Addr)),(∀y∈a,y.2=.free->(env.cells.lookup y.1).isSome=true)->(forIn a b λ(x:Str×NameKind)r=>match x with|(name,kind)=>if(kind==NameKind.free)=true then do let c <-cellOf env name;pure (ForInStep.yield ((name,c)::r))else pure (ForInStep.yield r))=pure (dm env.cells a b):=by intro a;induction a with|nil=>intro b _;rfl|cons y r ih=>
   intro b l;obtain⟨n,k⟩:=y;rw[aqK];have i:=λd=>ih d λz o=>l z (anU _ o);by_cases g:(k==NameKind.free)=true
   .have f:k=.free:=by simpa using g
    obtain⟨c,j⟩:=aoy.mp (l (n,k) an2 f);have m:cellOf env n=pure c:=by unfold cellOf;rw[j]
    simp only[dm,g,apk,j];rw[m];simpa using i ((n,c)::b)
   .simp only[dm,g,if_false];simpa using i b
 have e:=all scope.names [] h;unfold closureFor;(simpa using e)
theorem cM :∀b a,(dm cells b a).lookup x=some c->a.lookup x=some c\/cells.lookup x=some c
|[],a,h=>.inl h|(n,k)::r,a,h=>by
 unfold dm at h;split at h;.cases e:cells.lookup n with|none=>rw[e]at h;exact cM r _ h|some d=>
  rw[e]at h;rcases cM r _ h with q|q
  .rw[aon]at q;split at q;.exact .inr (by grind)
   .exact .inl q
  .exact .inr q
 .exact cM r _ h
theorem gm :∀b(a:List (Str×Addr)),(a.lookup x).isSome=true->((dm cells b a).lookup x).isSome=true
|[],a,h=>h|(n,k)::r,a,h=>by
 unfold dm;split;.cases e:cells.lookup n with|none=>exact gm r _ h|some d=>
  refine gm r _ ?_;rw[aon];split;.rfl
  .exact h
 .exact gm r _ h
theorem kx :∀a f,(x,NameKind.free)∈a->(cells.lookup x).isSome=true->((dm cells a f).lookup x).isSome=true
|(n,k)::r,f,g,b=>by
 rcases anS.mp g with e|g;.cases e;obtain⟨c,b⟩:=aoy.mp b;unfold dm;simp only[b];refine gm r _ ?_;simp
 .unfold dm;split;.cases e:cells.lookup n with|none|some d=>exact kx r _ g b
  .exact kx r _ g b
theorem bZ{a:Env}{x}:∀{b:List (Str×NameKind)}{k},(b.map λ(n,k)=>if k==NameKind.free&&a.scope.kind==.function&&a.kindOf n==some .cell then(n,NameKind.cell)else(n,k)).lookup x=some k->b.lookup x=some k\/k=.cell/\b.lookup x=some .free
|[],_,h=>by simp at h|(n,k0)::r,k,h=>by
  have g:=@bZ a x r k;have c:List.lookup x ((if(k0==NameKind.free&&a.scope.kind==.function&&a.kindOf n==some .cell)=true then(n,NameKind.cell)else(n,k0))::r.map λ(n,k)=>if k==NameKind.free&&a.scope.kind==.function&&a.kindOf n==some .cell then(n,NameKind.cell)else(n,k))=some k:=h
  cases e:x==n with|true=>
   rw[aon,e];by_cases d:(k0==NameKind.free&&a.scope.kind==.function&&a.kindOf n==some .cell)=true
   .rw[anL d,aon,e]at c;have f:k0=.free:=by simp only[an6]at d;simpa using d.1.1
    cases c;exact .inr ⟨rfl,by rw[f]⟩
   .rw[anK d,aon,e]at c;exact .inl c|false=>
   rw[aon,e];by_cases d:(k0==NameKind.free&&a.scope.kind==.function&&a.kindOf n==some .cell)=true;.rw[anL d,aon,e]at c;exact g c
   .rw[anK d,aon,e]at c;exact g c
section
variable{X:Cx}{pins:List (Addr×Obj)}{σ:St}{H:Hp}{s:Shared}
def HOk.wJ{P w h a o}(x:HOk P w H h)(f:H a=none)(new:dD P w (upd H a o) h a o):HOk P w (upd H a o) h:=λb u e=>by
 by_cases d:b=a;.subst d;rw[aq]at e;cases e;exact new
 .rw[aj d]at e;exact(x b u e).u6 (λc v _ q=>q) (λc q=>by rw[aj (aQ q f)];exact q) λc g q=>by rw[aj (aQ q f)];exact q
theorem Inv.wJ (I:Inv X pins σ H s)(hn:H a=none)(ha:X.s₀.heap.objs.size<=a)(hL:a≠X.env.locals)(hc:∀x c,X.env.cells.lookup x=some c->c≠a)(hp:∀p∈X.pn++pins,p.1≠a)(new:dD X.prog X.w (upd H a o) s.heap a o):Inv X pins σ (upd H a o) s where
 ok:=I.ok;os:=I.os;bare:=I.bare;base:=⟨I.base.keep,I.base.slot,λb u q n hx=>by rw[aj (anW (anN (anR q) ha))];exact I.base.free b u q n hx,I.base.there,λb xs q=>by have z:=I.base.tups b xs q;rw[aj (aQ z hn)];exact z,λb u v q=>by have z:=I.base.frzs b u v q;rw[aj (aQ z hn)];exact z,λb ps q=>by obtain⟨more,z⟩:=I.base.tbls b ps q;exact⟨more,by rw[aj (aQ z hn)];exact z⟩⟩;loc:=I.loc;cell:=I.cell;free:=by rw[aj (anY hL)];exact I.free
 freeC:=λx c e=>by rw[aj (hc x c e)];exact I.freeC x c e
 pin:=λp hp'=>by obtain⟨e,n,r⟩:=I.pin p hp';exact⟨e,by rw[aj (hp p hp')];exact n,r⟩
 hok:=I.hok.wJ hn new;len:=I.len
end
abbrev Cx.tri(X:Cx)(E:Value->Shared->Prop)(pn:List (Addr×Obj)):Cx:={X with xe:=E,pn:=pn}
theorem Cx.Ok.tri{X:Cx}(ok:X.Ok)(E)(a):(X.tri E a).Ok:=⟨ok.mod,ok.kind,ok.glob,ok.blt,ok.above,ok.inj,ok.has,ok.cab,ok.hd,ok.frames,ok.stk,ok.exf,ok.bs,ok.bsz,ok.noex,ok.exfs,ok.qr,ok.frf⟩
section
variable{X:Cx}{pins:List (Addr×Obj)}{σ:St}{H:Hp}{s:Shared}
theorem Inv.tri(I:Inv X pins σ H s)(E:Value->Shared->Prop):Inv (X.tri E (X.pn++pins)) [] σ H s:=⟨I.ok.tri E _,I.os,I.bare,I.base,I.loc,I.cell,I.free,I.freeC,λp a=>I.pin p (by simpa using a),I.hok,I.len⟩
end
noncomputable def hd1(y:Str):Str:=⟨y.cps.push 32⟩
def hid(scope:Scope)(y:Str):Str:=match scope.names.lookup y with|some .local=>hd1 y|_=>y
set_option tactic.hygienic true
def aiy (h:hid scope y=x):x=hd1 y/\scope.names.lookup y=some .local\/x=y/\scope.names.lookup y≠some .local:=by
 unfold hid at h;split at h;.rename_i e;exact .inl ⟨h.symm,e⟩
 .rename_i e;exact .inr ⟨h.symm,e⟩
set_option tactic.hygienic false
abbrev Cx.comp(X:Cx)(scope:Scope)(C:Addr)(ts:List Str)(b:Shared)(a:Hp)(c:List Addr):Cx:={X with N:=ts++X.N.map (hid scope),s₀:=b,H₀:=a,env:=compEnvC scope (dm X.env.cells scope.names []) C X.env,outer:=X.stack,stack:=X.stack,ex:=c,fn:=λ_=>false,pn:=[],xe:=λ_ _=>False}
structure CompLook(X:Cx)(scope:Scope):Prop where
 kind:scope.kind=.function
 nocell:scope.names.all λy=>y.2!=.cell=true
 names:scope.names.all λy=>y.2!=.local||scope.names.lookup y.1==some .local=true
 free:scope.names.all λy=>y.2!=.free||X.env.scope.names.lookup y.1==some .cell||X.env.scope.names.lookup y.1==some .free=true
 apart:(scope.names.all λy=>(scope.names.lookup (hd1 y.1)).isNone)=true
structure CompScope(X:Cx)(scope:Scope)(ts:List Str):Prop where
 kind:scope.kind=.function
 nocell:∀y∈scope.names,y.2≠.cell
 names:∀y∈scope.names,y.2=.local->scope.names.lookup y.1=some .local
 free:∀y∈scope.names,y.2=.free->X.env.scope.names.lookup y.1=some .cell\/X.env.scope.names.lookup y.1=some .free
 apart:∀y∈scope.names,scope.names.lookup (hd1 y.1)=none
theorem CompLook.scope{X:Cx}{scope:Scope}{ts:List Str}(L:CompLook X scope):CompScope X scope ts where
 kind:=L.kind;nocell:=λy hy=>by simpa using aoB.mp L.nocell y hy
 names:=λy hy e=>by have h:=aoB.mp L.names y hy;rw[e]at h;simpa using h
 free:=λy hy e=>by have h:=aoB.mp L.free y hy;rw[e]at h;simpa using h
 apart:=λy hy=>by simpa using aoB.mp L.apart y hy
noncomputable def zU:List Str->Bool|[]=>true|x::r=>!(r.any λy=>decide (y=x))&&zU r
theorem pO:∀{N},zU N=true->N.Nodup|[],_=>List.nodup_nil|x::r,h=>by simp [zU]at h;exact aoF.mpr ⟨λa=>h.1 x a rfl,pO h.2⟩
section
variable{X:Cx}{pins:List (Addr×Obj)}{σ:St}{H:Hp}{s:Shared}
def uz{scope:Scope}{ts:List Str}{C:Addr}{fp:List Addr}(S:CompScope X scope ts)(I:Inv X pins σ H s)(hf:∀b∈fp,uM X pins H b)(hfl:∀b∈fp,b<s.heap.objs.size)(hC:s.heap.objs.size<=C):(X.comp scope C ts s H fp).Ok where
 mod:=I.ok.mod;kind:=S.kind;glob:=I.ok.glob;blt:=I.ok.blt;above:=hC;inj:=λx y c e1 e2=>by have q1:=(cM scope.names [] e1).resolve_left (by simp);have q2:=(cM scope.names [] e2).resolve_left (by simp);exact I.ok.inj x y c q1 q2
 has:=λx hx=>by
  have hx':scope.names.lookup x=some .free:=by
   rcases hx with hx|hx
   .rcases bZ hx with q|⟨_,q⟩;.exact absurd rfl (S.nocell _ (aop q))
    .exact q
   .rcases bZ hx with q|⟨q,_⟩;.exact q
    .cases q
  have hm:=aop hx';obtain⟨c,hc⟩:=I.ok.has x (S.free _ hm rfl);exact aoy.mp (kx scope.names [] hm (by rw[hc];rfl))
 cab:=λx c h _=>by cases h
 hd:=I.ok.hd;frames:=I.ok.frames;stk:=.inl rfl;exf:=λb hb=>⟨anW (anN (hfl b hb) hC),λx c e=>by have q:=(cM scope.names [] e).resolve_left (by simp);exact(hf b hb).2.2.2.2.1 x c q⟩;bs:=I.bs;bsz:=anQ I.ok.bsz I.sz;noex:=λb o e hb=>by
  rcases(hf b hb).2.2.2.1 with z|z;.exact I.ok.noex b o e z
  .exact absurd (anN (anR e) (anQ I.ok.bsz z)) (aoX _)
 exfs:=λb hb z=>by
  rcases anS.mp (I.u4 b z)with e|e;.exact(hf b hb).2.1 e
  .exact(hf b hb).2.2.1 e
 qr:=I.stack;frf:=I.sX
def xS{scope:Scope}{ts:List Str}{C:Addr}{fp:List Addr}{s4:Shared}(S:CompScope X scope ts)(I:Inv X pins σ H s)(hf:∀b∈fp,uM X pins H b)(hfl:∀b∈fp,b<s.heap.objs.size)(hC:s.heap.objs.size<=C)(ho:s4.os=s.os)(hg:s4.gens=s.gens)(hk:∀b o,s.heap.get? b=some o->s4.heap.get? b=some o){m:Str->Option Value}(hn:s4.heap.Ns C m):Inv (X.comp scope C ts s H fp) [] (List.replicate ts.length none++σ) H s4 where
 ok:=uz S I hf hfl hC;os:=ho;bare:=by rw[hg];exact I.bare
 base:=Un.kept hk;loc:=⟨m,hn,λi x v e1 e2 e3=>by
  have hi:ts.length<=i:=by
   rcases aqA i ts.length with h|h;.rw[aow (by simpa using h),aor]at e2;simp[h]at e2
   .exact h
  rw[aos (by simpa using hi)]at e2;rw[aos hi]at e1;simp only[apn]at e2;rw[an7]at e1;obtain⟨y,ey,hy⟩:=aol.mp e1;have hv:scope.names.lookup x≠none:=by
   rcases e3 with q|q|q;.rcases bZ q with q|⟨_,q⟩<;>(rw[q];exact nofun)
   .rcases bZ q with q|⟨_,q⟩<;>(rw[q];exact nofun)
   .rcases bZ q with q|⟨_,q⟩<;>(rw[q];exact nofun)
  have hxy:x=y/\scope.names.lookup y≠some .local:=by
   rcases aiy hy with z|z;.exact absurd (by rw[z.1];exact S.apart _ (aop z.2)) hv
   .exact z
  have e1:X.N[i-ts.length]?=some x:=by rw[ey,hxy.1]
  have hap:scope.names.lookup x≠some .local:=by rw[hxy.1];exact hxy.2
  have hfree:scope.names.lookup x=some .free:=by
   rcases e3 with q|q|q
   .rcases bZ q with q|⟨q,_⟩;.exact absurd q hap
    .cases q
   .rcases bZ q with q|⟨_,q⟩;.exact absurd rfl (S.nocell _ (aop q))
    .exact q
   .rcases bZ q with q|⟨q,_⟩;.exact q
    .cases q
  have hm:=aop hfree;have hk0:=S.free _ hm rfl;obtain⟨m0,_,hl⟩:=I.loc;obtain⟨u,r,l⟩:=hl (i-ts.length) x v e1 e2 (hk0.elim (λq=>.inr (.inl q)) λq=>.inr (.inr q));refine⟨u,r,?_⟩;rcases l with⟨kl,_⟩|⟨_,c,ec,z⟩
  .exfalso;have kl':X.env.scope.names.lookup x=some .local:=kl;rcases hk0 with q|q;.rw[q]at kl';cases kl'
   .rw[q]at kl';cases kl'
  .have kk:(X.comp scope C ts s H fp).env.kindOf x=some .cell\/(X.comp scope C ts s H fp).env.kindOf x=some .free:=by
    rcases e3 with q|q|q
    .rcases bZ q with q|⟨q,_⟩;.exact absurd q hap
     .cases q
    .exact .inl q
    .exact .inr q
   obtain⟨c',ec'⟩:=(uz S I hf hfl hC).has x kk;have ec2:=(cM scope.names [] ec').resolve_left (by simp);rw[ec]at ec2;cases ec2;obtain⟨o,ho',hd⟩:=z;exact .inr ⟨kk,c,ec',o,hk _ o ho',hd⟩⟩;cell:=λx c e=>by have q:=(cM scope.names [] e).resolve_left (by simp);obtain⟨v,o,ho',hd⟩:=I.cell x c q;exact⟨v,o,hk _ o ho',hd⟩
 free:=I.hok.fresh hC;freeC:=λx c e=>I.freeC x c ((cM scope.names [] e).resolve_left (by simp));pin:=λp hp=>by cases hp
 hok:=I.hok.kept hk;len:=by rw[aoh,aoh,apn,I.len,an0]
end
section
variable{prog:Program}{w:World}{A:Around}{R:Result->Shared->Prop}{s:Shared}
def iK{u b z C scope pos it E a}(I:Nat->Shared->Prop)(turn:∀n s,I n s->wpAny (model prog w) A (pyNext it) (λr j=>match r with|none=>R (.ok .next) j|some v=>wpAny (model prog w) A (letOwnedTupleGo b it v) (λ_ i=>wpAny (model prog w) A (assign b a v) (λ_ q=>wpAny (model prog w) A (forIn C true λc r=>if r=true then do let ok <-isTrue c a (eval c a);pure (ForInStep.yield ok)else pure (ForInStep.yield r)) (λok f=>if ok=true then wpAny (model prog w) A (eval u a) (λx p=>wpAny (model prog w) A (call (.builtin "list.append") [E,x]) (λ_ l=>∃m,m<n/\I m l) (notedBy (model prog w) A a λe d=>R (.error e) d) p) (notedBy (model prog w) A a λe d=>R (.error e) d) f else∃m,m<n/\I m f) (notedBy (model prog w) A a λe d=>R (.error e) d) q) (notedBy (model prog w) A a λe d=>R (.error e) d) i) (notedBy (model prog w) A a λe d=>R (.error e) d) j) (notedBy (model prog w) A a λe d=>R (.error e) d) s)(n)(h:I n s):codeAny (model prog w) A (.compLoop (.ListComp u [⟨b,z,C,0⟩] scope pos) 0 it E a) R s:=by refine codeAny_loop rfl I (λn s G=>wpAny_noted ?_) n h;rw[compTurn_list];refine anE (apj (anE (an9 (turn n s G) (λr j o=>?_) λ_ _ g=>g)));cases r with|none=>exact anO o|some v=>refine anE (an9 o (λ_ i t=>?_) λ_ _ g=>g);refine anE (an9 t (λ_ q B=>anE (an9 B (λok f k=>?_) λ_ _ g=>g)) λ_ _ g=>g);cases ok with|false=>exact anO ⟨rfl,k⟩|true=>exact anE (anE (an9 k (λx p D=>anE (an9 D (λ_ l y=>anO (anO ⟨rfl,y⟩)) λ_ _ g=>g)) λ_ _ g=>g))
end
def xX(X:Cx)(b:List Expr)(t:TT):Prop:=∀(a:List (Addr×Obj))(s:Shared)(σ:St)(H:Hp)(Q:Bool->Hp->Prop),Inv X a σ H s->t σ H Q->wpAny (model X.prog X.w) X.A (forIn b true λc r=>if r=true then do let ok <-isTrue c X.env (eval c X.env);pure (ForInStep.yield ok)else pure (ForInStep.yield r)) (TP X a σ Q) X.xe s
def fE:TT:=λ_ H Q=>Q true H
def vr:xX X [] fE:=λa s σ H Q I h=>wpAny_tests_nil ⟨H,I,h⟩
def sI(J:It)(g:TG)(o:TT)(n:TE)(h:St)(q:Hp)(F:V->Hp->Prop):Prop:=∃W:Nat->Nat->List V->St->Hp->Prop,(∃m,W 0 m [] h q)/\∀i m f σ H,W i m f σ H->f.length<sizeLine/\((J.stop i H/\∀D,H D=none->F (.ref D) (upd H D (.lst f)))\/J.go i H/\∃N:List V->St->Hp->Prop,(∀e d c,N e d c->∃k,k<m/\W (i+1) k e d c)/\∀x c,J.yld i H x c->g x σ c λa p=>o a p λb j=>if b=true then n a j λy l=>N (f++[y]) a l else N f a j)
def m7(c:Hp->Prop)(J:It)(g:TG)(p:TT)(o:TE)(j:St)(r:Hp)(F:V->Hp->Prop):Prop:=∃W:Nat->Nat->List V->St->Hp->Prop,(∃m,W 0 m [] j r)/\∀i m h σ H,W i m h σ H->c H/\h.length<sizeLine/\((J.stop i H/\∀D,H D=none->F (.ref D) (upd H D (.lst h)))\/J.go i H/\∃N:List V->St->Hp->Prop,(∀f e d,N f e d->∃l,l<m/\W (i+1) l f e d)/\∀x d,J.yld i H x d->g x σ d λa q=>p a q λb k=>if b=true then o a k λy n=>N (h++[y]) a n else N h a k)
theorem m7.w    (h:m7 c J g tt te σ0 H1 F):sI J g tt te σ0 H1 F:=by obtain⟨W,a,t⟩:=h;exact⟨W,a,λi m b σ H w=>(t i m _ σ H w).2⟩
def sI.c    (h:sI J g tt te σ0 H1 F):m7 (λ_=>True) J g tt te σ0 H1 F:=by obtain⟨W,a,t⟩:=h;exact⟨W,a,λi m b σ H w=>⟨trivial,t i m _ σ H w⟩⟩
def yV(k:Nat)(wi:TI)(g:TG)(c:TT)(a:TE):TE:=λσ H Q=>wi σ H λJ b=>sI J g c a (List.replicate k none++σ) b Q
section
variable{X:Cx}{tg elt iter:Expr}{ifs:List Expr}{scope:Scope}{ts:List Str}{wi:TI}{g:TG}{tt:TT}{te:TE}
def iC{pins}{σ:St}{H j pos it k tn J}{Q:VK}{RR:Value->Addr->Result->Shared->Prop}{E}(S:CompScope X scope ts){cl cc}(M:Addr->Value->Shared->Prop)(d1:∀C U,cc U->cl ((X.comp scope C ts j H k).tri (M C) []) U)(hg:∀C,PG ((X.comp scope C ts j H k).tri (M C) []) tg g)(ht:∀C,xX ((X.comp scope C ts j H k).tri (M C) []) ifs tt)(he:∀C,PE ((X.comp scope C ts j H k).tri (M C) []) elt te)(I:Inv X pins σ H j)(T:Turn X.prog X.w X.K tg J k it tn cl)(st:tn 0 j.heap)(hf:∀b∈k,uM X pins H b)(hW:m7 cc J g tt te (List.replicate ts.length none++σ) H Q)(fin:∀(C D:Addr)U B m Z,C≠D->j.heap.objs.size<=C->j.heap.objs.size<=D->B.heap.Ns C m->U C=none->Inv X pins σ (upd U D (.lst Z)) B->Q (.ref D) (upd U D (.lst Z))->RR (.ref D) C (.ok .next) B)(hx:∀(C D:Addr)e B,j.heap.objs.size<=C->M C e B->notedBy (model X.prog X.w) X.A (compEnvC scope (dm X.env.cells scope.names []) C X.env) (λe B=>RR (.ref D) C (.error e) B) e B):wpAny (model X.prog X.w) X.A (newList []) (λd0 K=>wpAny (model X.prog X.w) X.A (newFunctionEnv scope X.env.globals (dm X.env.cells scope.names []) [] X.env.qual none .none (some X.env)) (λa5 c3=>codeAny (model X.prog X.w) X.A (.compStart (.ListComp elt [⟨tg,iter,ifs,0⟩] scope pos) 0 (.ref it) d0 {a5 with scope:=relabel scope X.env}) (RR d0 a5.locals) c3) E K) E j:=by
 refine apM (wpAny_newFunctionEnv S.nocell (by intro y hy;simp at hy) (λG A s=>?_) S.kind);dsimp only at A s⊢;generalize hH2:j.heap.push {cls:=.type "list",dict:=none,data:=.seq ([]:List Value).toArray}=H2 at A s⊢;have b0:H2.objs.size=j.heap.objs.size+1:=by rw[<-hH2,aoZ]
 have b7:j.heap.objs.size≠H2.objs.size:=by rw[b0];exact anW (ao0 _)
 have t:j.heap.objs.size<=H2.objs.size:=by rw[b0];exact aqb _
 have b8:∀b o,j.heap.get? b=some o->G.get? b=some o:=λb o e=>s.extBut b o (by rw[b0];exact anW (Nat.lt_succ_of_lt (anR e))) (anG _ (hH2▸anG _ e));have b9:G.PlainList j.heap.objs.size #[]:=⟨_,s.extBut _ _ b7 (anG _ (hH2▸anT _ rfl))⟩;have b6:∀b∈k,b<j.heap.objs.size:=λb l=>by obtain⟨o,e,_⟩:=T.obj _ _ st b l;exact anR e
 generalize hCdef:H2.objs.size=C at *;generalize hDdef:j.heap.objs.size=D at *;have a7:D∉k:=λhm=>aoX _ (b6 _ hm);have a3:((X.comp scope C ts j H k).tri (M C) []).Ok:=(uz S I hf (by rw[hDdef];exact b6) (by rw[hDdef];exact t)).tri _ _;have a1:∀x c,((X.comp scope C ts j H k).tri (M C) []).env.cells.lookup x=some c->c<D:=λx c e=>by have q:=(cM scope.names [] e).resolve_left (by simp);obtain⟨v,z⟩:=I.cell x c q;rw[<-hDdef];exact z.lt
 have a0:∀{U:Hp}{pl:List (Addr×Obj)},(∀b∈k,U b=none)->(∀p∈pl,p.1∉k)->∀b∈k,uM ((X.comp scope C ts j H k).tri (M C) []) pl U b:=λhn O b l=>⟨hn b l,(a3.exf b l).1,a3.exfs b l,.inl l,(a3.exf b l).2,λp d9 z=>O p (by simpa using d9) (z▸l)⟩;obtain⟨W,⟨m0,w0⟩,turn⟩:=hW;have a4:∀K:Shared,K={j with heap:=G,toks:=j.toks+([]:List (Str×Value)).length}->codeAny (model X.prog X.w) X.A (.compLoop (.ListComp elt [⟨tg,iter,ifs,0⟩] scope pos) 0 (.ref it) (.ref D) (compEnvC scope (dm X.env.cells scope.names []) C X.env)) (RR (.ref D) C) K:=by
  rintro K rfl;have e2:Inv (X.comp scope C ts j H k) [] (List.replicate ts.length none++σ) H {j with heap:=G,toks:=j.toks+([]:List (Str×Value)).length}:=xS S I hf (by rw[hDdef];exact b6) (by rw[hDdef];exact t) rfl rfl b8 A;have I0:Inv ((X.comp scope C ts j H k).tri (M C) []) [] (List.replicate ts.length none++σ) H {j with heap:=G,toks:=j.toks+([]:List (Str×Value)).length}:=e2.tri _;refine iK (λn B=>∃i Z c0 U h,Inv ((X.comp scope C ts j H k).tri (M C) []) [] c0 U B/\tn i B.heap/\(∀b∈k,U b=none)/\B.heap.PlainList D h/\Vals Z h.toList/\U D=none/\W i n Z c0 U) ?_ m0 ⟨0,[],_,H,#[],I0,T.keep _ _ _ st λb _ o e=>b8 b o e,λb l=>(hf b l).1,b9,.nil,I.hok.fresh (by rw[hDdef];exact anP _),w0⟩;rintro n s3⟨i,Z,Y,H3,h,I3,c5,c9,d8,v3,d3,w3⟩;obtain⟨c1,d6,b5⟩:=turn i n Z Y H3 w3;obtain⟨P,eD⟩:=id d8;have c2:∀v,({cls:=.type "list",data:=.seq h P}:Obj).data≠.cell v:=λv z=>by cases z
  have a2:=b7;have a6:D ∉((X.comp scope C ts j H k).tri (M C) []).fs:=λl=>by obtain⟨_,o,ho,_⟩:=a3.qr.mem l;exact absurd (apE (anR ho) hDdef) (aoX _)
  rcases b5 with⟨c8,qn⟩|⟨go,N,hN,step⟩;.-- the end
   have a9:Inv ((X.comp scope C ts j H k).tri (M C) []) [(D,{cls:=.type "list",data:=.seq h P})] Y H3 s3:=I3.fk λp O=>by
    obtain rfl:p=(D,({cls:=.type "list",data:=.seq h P}:Obj)):=by simpa using O
    exact⟨eD,d3,a2,a6,c2⟩
   refine an9 (T.done ((X.comp scope C ts j H k).tri (M C) []) rfl rfl rfl i _ s3 Y H3 (λ_ _=>False) (d1 C H3 c1) a9 (a0 c9 λp O=>by
    obtain rfl:p=(D,({cls:=.type "list",data:=.seq h P}:Obj)):=by simpa using O
    exact a7) c5 c8) (λr s4⟨hr,I4⟩=>?_) λ_ _ f=>f.elim;subst hr;have pD:=(I4.pin (D,{cls:=.type "list",data:=.seq h P}) (by simp)).1;obtain⟨m4,d5,_⟩:=I4.loc;have I5:=I.adh I4.os I4.base I4.hok I4.bare λb l=>⟨(hf b l).2.2.2.1,(hf b l).2.1,(hf b l).2.2.2.2.1,(hf b l).2.2.2.2.2⟩;have e0:=aoc (apE I.lt hDdef);have d2:∀x c,X.env.cells.lookup x=some c->c≠D:=λx c e=>by obtain⟨v,z⟩:=I.cell x c e;exact anW (apE z.lt hDdef)
   have d4:∀p∈X.pn++pins,p.1≠D:=λp O=>anW (apE (anR (I.pin p O).1) hDdef);have new:dD X.prog X.w (upd H3 D (.lst Z)) s4.heap D (.lst Z):=⟨apX d6,h.toList,P,v3,by simpa using pD⟩;have I6:=I5.wJ d3 (by rw[<-hDdef];exact I.sz) e0 d2 d4 new;exact fin C D H3 s4 m4 Z (anY b7) t (anP _) d5 I4.free I6 (qn D d3)
  .-- a turn
   have a9:Inv ((X.comp scope C ts j H k).tri (M C) []) [(D,{cls:=.type "list",data:=.seq h P})] Y H3 s3:=I3.fk λp O=>by
    obtain rfl:p=(D,({cls:=.type "list",data:=.seq h P}:Obj)):=by simpa using O
    exact⟨eD,d3,a2,a6,c2⟩
   have c4:∀p∈[((D,{cls:=.type "list",data:=.seq h P}):Addr×Obj)],p.1∉k:=λp O=>by
    obtain rfl:p=(D,({cls:=.type "list",data:=.seq h P}:Obj)):=by simpa using O
    exact a7
   refine an9 (T.item ((X.comp scope C ts j H k).tri (M C) []) rfl rfl rfl i _ s3 Y H3 (λ_ _=>False) (d1 C H3 c1) a9 (a0 c9 c4) c5 go) (λr s4 w=>?_) λ_ _ f=>f.elim;obtain⟨u,hr,h4⟩:=w;subst hr;refine an9 h4 (λ_ s5 w=>?_) λ_ _ f=>f.elim;obtain⟨x,H5,I5,r5,y5,a8,e5⟩:=w;have e4:=I5.pinned (a0 e5 c4) (T.obj _ _ a8);have back:∀{c7:St}{H7:Hp}{s7:Shared},Inv ((X.comp scope C ts j H k).tri (M C) []) ([(D,{cls:=.type "list",data:=.seq h P})]++rg k s5.heap) c7 H7 s7->tn (i+1) s7.heap/\(∀b∈k,H7 b=none)/\s7.heap.get? D=some {cls:=.type "list",data:=.seq h P}/\H7 D=none:=λ{c7 H7 s7}I7=>by have pD:=I7.pin (D,({cls:=.type "list",data:=.seq h P}:Obj)) (anZ _ (aob _ an2));refine⟨T.keep _ _ _ a8 λb l o e=>(I7.pin (b,o) (anZ _ (anZ _ (ix l e)))).1,λb l=>?_,pD.1,pD.2.1⟩;obtain⟨o,e,d⟩:=T.obj _ _ a8 b l;exact(I7.pin (b,o) (anZ _ (anZ _ (ix l e)))).2.1
   refine an9 (hg C _ s5 Y H5 x u _ e4 r5 (step x H5 y5)) (λ_ s6 w=>?_) λe B f=>hx C D e B t f;obtain⟨R,H6,I6,q6⟩:=w;refine an9 (ht C _ s6 R H6 _ I6 q6) (λb s7 w=>?_) λe B f=>hx C D e B t f;obtain⟨H7,I7,q7⟩:=w;cases b with|false=>obtain⟨m',hm,w7⟩:=hN _ _ _ (by simpa using q7);obtain⟨b1,b2,b3,b4⟩:=back I7;exact⟨m',hm,i+1,Z,R,H7,h,I7.fk λp O=>absurd O aoo,b1,b2,⟨P,b3⟩,v3,b4,w7⟩|true=>
    have d7:te R H7 λy H4=>N (Z++[y]) R H4:=by simpa using q7
    refine an9 (he C _ s7 R H7 _ I7 d7) (λu8 s8 w=>?_) λe B f=>hx C D e B t f;obtain⟨y,H8,I8,r8,q8⟩:=w;obtain⟨m',hm,w8⟩:=hN _ _ _ q8;obtain⟨b1,b2,b3,b4⟩:=back I8;have e6:h.size<=sizeLine:=by have e1:=v3.length;simp only[ap8]at e1;omega
    refine wpAny_list_append_plain ⟨P,b3⟩ λh9 e3 c6=>?_;have I9:Inv ((X.comp scope C ts j H k).tri (M C) []) [] R H8 {s8 with heap:=h9}:=(I8.fk λp O=>absurd O aoo).turned (λb o l e=>(c6.2 b l).trans e) b4 a2 (.inr (Nat.le_of_eq hDdef)) (λx c e=>anW (a1 x c e)) λp O=>absurd O aoo;refine⟨m',hm,i+1,Z++[y],R,H8,h.push u8,I9,T.keep _ _ _ b1 λb l o e=>(c6.2 b λz=>a7 (z▸l)).trans e,b2,e3,?_,b4,w8⟩;simpa using v3.append (.cons r8 .nil)
 exact codeAny_compStart_list (a4 _ rfl) (T.self _ 0 _ _ _ (T.keep _ _ _ st λb _ o e=>b8 b o e) (a4 _ rfl))
def ab8 (L:CompLook X scope)(B:X.calm=true)(hi:PI X tg iter wi)(hg:∀C d a i,PG (X.comp scope C ts d a i) tg g)(E:∀C d a i,xX (X.comp scope C ts d a i) ifs tt)(he:∀C d a i,PE (X.comp scope C ts d a i) elt te)(hs:∀x,foldedSetIterable iter X.env x=pure x:=by intro _;rfl):PE X (.ListComp elt [⟨tg,iter,ifs,0⟩] scope pos) (yV ts.length wi g tt te):=by
 intro j s σ H Q I h;have S:CompScope X scope ts:=L.scope;have f:=ez λy R K=>by obtain⟨c,B⟩:=I.ok.has y.1 (S.free y R K);rw[B];rfl
 rw[eval_ListComp];refine apc rfl hs f S.kind S.names (thn (hi j s σ H _ I h) λxv s1 M=>thn M λa0 s2 Y=>?_);obtain⟨it,i,tn,J,H2,e,k,T,n,P,U⟩:=Y;subst e;refine iC S _ (λ_ _ _=>B) (λC=>hg C _ _ _) (λC=>E C _ _ _) (λC=>he C _ _ _) k T n P U.c ?_ λ_ _ _ _ _ z=>z.elim;intro C D H' G m ys u l hD N t O q;refine⟨m,N,λh' r=>?_⟩;have w:=aoc (anN k.lt l);have A:=O.turned (t':=G.toks) (λb o hb e=>(r.2 b hb).trans e) (by rw[aj u];exact t) w (.inr (anQ k.sz l)) (λx c e=>by obtain⟨v,q⟩:=k.cell x c e;exact anW (anN q.lt l)) λp Z=>anW (anN (anR (k.pin p Z).1) l);exact⟨.ref D,_,A,rfl,q⟩
def gY  (hN:X.N.Nodup)(G:X.N[i]?=some y)(w:X.env.scope.names.lookup y=some .local)(N:swapsWith (.ListComp elt [⟨tg,iter,ifs,0⟩] scope pos) (some (.Name y py)) spos.line X.env=pure true)(L:CompLook X scope)(Q:X.calm=true)(hi:PI X tg iter wi)(hg:∀C f d l,PG (X.comp scope C ts f d l) tg g)(ht:∀C f d l,xX (X.comp scope C ts f d l) ifs tt)(he:∀C f d l,PE (X.comp scope C ts f d l) elt te)(hs:∀x,foldedSetIterable iter X.env x=pure x:=by intro _;rfl):PS X (.Assign [.Name y py] (.ListComp elt [⟨tg,iter,ifs,0⟩] scope pos) spos) (ag8 (yV ts.length wi g tt te) (au i)):=by
 intro t s σ H Dn I h;have S:CompScope X scope ts:=L.scope;have k:=ez λy w hf=>by obtain⟨c,Q⟩:=I.ok.has y.1 (S.free y w hf);rw[Q];rfl
 rw[exec_Assign_Name_used _ _ _ _ N];refine anE (apj (anE ?_));refine anE (an9 (apc rfl hs k S.kind S.names (thn (hi t s σ H _ I h) λxv s1 h1=>thn h1 λa0 s2 Z=>?_)) (λ_ s' hq=>anO (anO hq)) λ_ _ e=>e);obtain⟨it,l,tn,J,H2,e,n,T,A,Y,hW⟩:=Z;subst e;refine iC S (λ_ _ _=>False) (λ_ _ _=>Q) (λC=>hg C _ _ _) (λC=>ht C _ _ _) (λC=>he C _ _ _) n T A Y hW.c ?_ λ_ _ _ _ _ z=>z.elim;intro C D H' s' m ys M r hD hn K U q;have u:=aoc (anN n.lt r);refine aqk (jk U hN G (.inl w) (show RelV (.ref D) (.ref D)from rfl) (λE P j=>?_) (.inr w));obtain⟨a,j,R⟩:=j;have O:a≠C:=by
  rcases R with e|e;.rw[e];exact anY u
  .obtain⟨v,q⟩:=n.cell y a e;exact anW (anN q.lt r)
 refine⟨m,hn.sameBut j (anY O),λh' B=>?_⟩;have I3:=P.turned (t':=E.toks) (λb o hb e=>(B.2 b hb).trans e) (by rw[aj M];exact K) u (.inr (anQ n.sz r)) (λx c e=>by obtain⟨v,q⟩:=n.cell x c e;exact anW (anN q.lt r)) λp hp=>anW (anN (anR (n.pin p hp).1) r);exact⟨_,_,I3,q⟩
end
def IsD(K:W.Frag)(H:Hp):Nat->V->PyData->Prop|_,x,.none=>x=.non|_,x,.bool b=>x=.bl b|_,x,.int i=>x=.int i|_,x,.str z=>x=.str z/\PyData.strOk z=true|_,_,.dict _=>False|0,_,.tuple _=>False|0,_,.list _=>False|n+1,x,.tuple ds=>∃a c,x=.ref a/\SqT K H a c/\Paired (IsD K H n) c ds|n+1,x,.list ds=>∃a c,x=.ref a/\SqL K H a c/\Paired (IsD K H n) c ds
section
variable{X:Cx}{pins:List (Addr×Obj)}{σ:St}{H:Hp}{s:Shared}
theorem l8{h n R}(one:∀x d u,R x d->RelV x u->(∃a,Reads h u d a)/\d.canLay0=true/\d.depth<=n):∀{xs ds us},Paired R xs ds->Vals xs us->(∃a,ReadsAll h us ds a)/\PyData.canLayAll0 ds=true/\PyData.depthAll ds<=n
|_,_,_,.nil,.nil=>⟨⟨_,.nil⟩,rfl,aoi _⟩|_,_,_,.cons r t,.cons q t'=>by
 obtain⟨⟨a,f⟩,e,g⟩:=one _ _ _ r q;obtain⟨⟨bs,b⟩,c,i⟩:=l8 one t t';refine⟨⟨_,.cons f b⟩,?_,?_⟩;.simp[PyData.canLayAll0,e,c]
 .simp [PyData.depthAll];omega
def Inv.reads(I:Inv X pins σ H s):∀n d x u,IsD X.K H n x d->RelV x u->(∃m,Reads s.heap u d m)/\d.canLay0=true/\d.depth<=n:=by intro n;induction n with
|zero=>intro d x u h r;cases d with|none=>subst h;cases r;exact⟨⟨_,.none⟩,rfl,aoi _⟩|bool b=>subst h;cases r;exact⟨⟨_,.bool b⟩,rfl,aoi _⟩|int i=>subst h;obtain⟨t,rfl⟩:=r;exact⟨⟨_,.int i t⟩,rfl,aoi _⟩|str z=>obtain⟨rfl,c⟩:=h;obtain⟨t,rfl⟩:=r;exact⟨⟨_,.str z t⟩,by simpa[PyData.canLay0]using c,aoi _⟩|dict kvs|tuple ds|list ds=>exact h.elim
|succ n ih=>intro d x u h r;cases d with|none=>subst h;cases r;exact⟨⟨_,.none⟩,rfl,aoi _⟩|bool b=>subst h;cases r;exact⟨⟨_,.bool b⟩,rfl,aoi _⟩|int i=>subst h;obtain⟨t,rfl⟩:=r;exact⟨⟨_,.int i t⟩,rfl,aoi _⟩|str z=>obtain⟨rfl,c⟩:=h;obtain⟨t,rfl⟩:=r;exact⟨⟨_,.str z t⟩,by simpa[PyData.canLay0]using c,aoi _⟩|dict kvs=>exact h.elim|tuple ds=>obtain⟨a,y,rfl,e,j⟩:=h;cases r;obtain⟨f,q,⟨o,p,l,k,g⟩,c⟩:=I.tuple e;obtain⟨⟨m,w⟩,v,A⟩:=l8 (λx d u=>ih d x u) j q;exact⟨⟨_,.tuple p l g (by simpa using w)⟩,by simpa[PyData.canLay0]using v,by simp only[PyData.depth];omega⟩|list ds=>obtain⟨a,y,rfl,e,j⟩:=h;cases r;obtain⟨f,q,pl,c⟩:=I.list e;obtain⟨o,p,l,k,g⟩:=pl.isList;obtain⟨⟨m,w⟩,v,A⟩:=l8 (λx d u=>ih d x u) j q;exact⟨⟨_,.list p l g (by simpa using w)⟩,by simpa[PyData.canLay0]using v,by simp only[PyData.depth];omega⟩
end
def IsD.mono{K:W.Frag}{H H':Hp}(f:∀a c,SqT K H a c->SqT K H' a c)(g:∀a c,SqL K H a c->SqL K H' a c):∀(n:Nat)(x:V)(d:PyData),IsD K H n x d->IsD K H' n x d:=by intro n;induction n with|zero=>intro x d h;cases d<;>exact h|succ n ih=>intro x d h;cases d with|tuple ds=>obtain⟨a,c,e,q,p⟩:=h;exact⟨a,c,e,f a c q,Paired.ad7 p ih⟩|list ds=>obtain⟨a,c,e,q,p⟩:=h;exact⟨a,c,e,g a c q,Paired.ad7 p ih⟩|none=>exact h|bool b=>exact h|int i=>exact h|str z=>exact h|dict kvs=>exact h
def ax.tup{K H H' a xs}(e:ax H H')(h:SqT K H a xs):SqT K H' a xs:=by
 rcases h with(h|⟨o,h⟩)|h;.exact .inl (.inl (e _ _ h))
 .exact .inl (.inr ⟨o,e _ _ h⟩)
 .exact .inr h
section
variable{X:Cx}
def ahP:OpR X (compareOp .Eq) λx y H Q=>∃n d e,IsD X.K H n x d/\IsD X.K H n y e/\X.A.units+n<cLine/\Q (.bl (PyData.eqv d e)) H:=by intro a s σ H x y v u Q I g b⟨n,d,e,c,h,l,q⟩;obtain⟨⟨p,k⟩,j,m⟩:=I.reads n d x v c g;obtain⟨⟨bs,f⟩,i,o⟩:=I.reads n e y u h b;exact SeqAt.compareEq_reads k f j i (by omega) (jd (.bl _) H I rfl q)
def ahJ:OpR X (compareOp .NotEq) λx y H Q=>∃n d e,IsD X.K H n x d/\IsD X.K H n y e/\X.A.units+n<cLine/\Q (.bl !PyData.eqv d e) H:=by intro a s σ H x y v u Q I g b⟨n,d,e,c,h,l,q⟩;obtain⟨⟨p,k⟩,j,m⟩:=I.reads n d x v c g;obtain⟨⟨bs,f⟩,i,o⟩:=I.reads n e y u h b;exact SeqAt.compareNe_reads k f j i (by omega) (jd (.bl _) H I rfl q)
def ahO:OpR X (compareOp .In) λx y H Q=>∃n d a,IsD X.K H n x d/\(IsD X.K H (n+1) y (.list a)\/IsD X.K H (n+1) y (.tuple a))/\X.A.units+1+n<cLine/\Q (.bl (a.any λz=>PyData.eqv z d)) H:=by
 intro f s σ H x y v u Q I k g⟨n,d,a,j,b,m,q⟩;obtain⟨⟨p,i⟩,h,o⟩:=I.reads n d x v j k;rcases b with b|b;.obtain⟨⟨bs,c⟩,e,l⟩:=I.reads _ _ y u b g;exact SeqAt.in_list_reads c i (by simpa[PyData.canLay0]using e) h (by have:=apT (PyData.depthAll a) d.depth;omega) ⟨.bl _,H,I,rfl,q⟩
 .obtain⟨⟨bs,c⟩,e,l⟩:=I.reads _ _ y u b g;exact SeqAt.in_tuple_reads c i (by simpa[PyData.canLay0]using e) h (by have:=apT (PyData.depthAll a) d.depth;omega) ⟨.bl _,H,I,rfl,q⟩
def zJ:OpR X (compareOp .NotIn) λx y H Q=>∃n d b,IsD X.K H n x d/\(IsD X.K H (n+1) y (.list b)\/IsD X.K H (n+1) y (.tuple b))/\X.A.units+1+n<cLine/\Q (.bl !b.any λz=>PyData.eqv z d) H:=by
 intro e s σ H x y v u Q I j f⟨n,d,b,i,a,m,q⟩;obtain⟨⟨p,h⟩,g,o⟩:=I.reads n d x v i j;rcases a with a|a;.obtain⟨⟨bs,c⟩,l,k⟩:=I.reads _ _ y u a f;exact SeqAt.notIn_list_reads c h (by assumption) g (by omega) ⟨.bl _,H,I,rfl,q⟩
 .obtain⟨⟨bs,c⟩,l,k⟩:=I.reads _ _ y u a f;exact SeqAt.notIn_tuple_reads c h (by assumption) g (by grind) ⟨.bl _,H,I,rfl,q⟩
def akP{x T pos}(d:Gl X x)(c:X.mg x=none)(b:bootBuiltins x=some (.type T))(e:x≠"__name__":=by decide)(a:Dbg x:=by decide):PE X (.Name x pos) (tC (.ty T)):=afm d c b rfl e a
def TyV(K:W.Frag)(H:Hp)(x:V)(t:Value):Prop:=TyOf K H x t\/∃a b,x=.ref a/\t=.type "tuple"/\SqT K H a b
def uE:bN X (.builtin "isinstance") λc H Q=>∃x T t b,c=[x,.ty T]/\TyV X.K H x t/\W.kitOne X.K t (.type T)=some b/\Q (.bl b) H:=by
 intro d s σ H c p Q I r h;obtain⟨x,T,t,b,rfl,ty,e,q⟩:=h;obtain⟨u,n,rfl,f,l⟩:=vals2 r;cases l;rcases ty with ty|⟨a,m,rfl,rfl,g⟩;.exact aal I f ty e λtk=>⟨.bl b,H,I.tok _,rfl,q⟩
 .cases f;obtain⟨i,_,⟨o,j,k,_⟩,_⟩:=I.tuple g;exact aoR W.kitx_tuple I.kIn ⟨o,j,k⟩ e (λz=>nomatch z) λtk=>⟨.bl b,H,I.tok _,rfl,q⟩
end
abbrev St3:=Int×Int×Int
noncomputable def stV(p:St3):List V:=[.int p.1,.int p.2.1,.int p.2.2]
def adn(K:W.Frag)(H:Hp)(v:V)(p:St3):Prop:=∃a,v=.ref a/\SqT K H a (stV p)
def agb(K:W.Frag)(H:Hp)(v:V)(f:List St3):Prop:=∃a b,v=.ref a/\SqT K H a b/\Paired (adn K H) b f
def Spot(K:W.Frag)(H:Hp)(v:V)(x y:Int):Prop:=∃a,v=.ref a/\SqT K H a [.int x,.int y]
noncomputable def spD(p:Int×Int):PyData:=.tuple [.int p.1,.int p.2]
section
variable{K:W.Frag}{H H':Hp}{v:V}{p:St3}{f:List St3}{x y:Int}
def adn.keep(e:ax H H')(h:adn K H v p):adn K H' v p:=let⟨a,r,q⟩:=h;⟨a,r,e.tup q⟩
def Spot.keep(e:ax H H')(h:Spot K H v x y):Spot K H' v x y:=let⟨a,r,q⟩:=h;⟨a,r,e.tup q⟩
theorem agb.keep(e:ax H H')(h:agb K H v f):agb K H' v f:=let⟨a,b,r,q,t⟩:=h;⟨a,b,r,e.tup q,Paired.ad7 t λ_ _ z=>z.keep e⟩
end
def aaL(p q:Int×Int):PyData.eqv (spD p) (spD q)=decide (p=q):=by obtain⟨a,b⟩:=p;obtain⟨d,e⟩:=q;simp only[spD,PyData.eqv,PyData.eqvAll,Bool.and_true];rw[aof];simp[Prod.ext_iff]
def az{H p}(h:H p=none)(o):ax H (upd H p o):=λb u q=>by rw[aj (aQ q h)];exact q
end L2
set_option autoImplicit true
set_option relaxedAutoImplicit true
namespace L2
open PySem PySem.Spec PyProof.Rows
section
open PySem.AutoSeq1(wpAny_loadPart')
open PySem.MeetsSeq PySem.MeetsSeq2 PySem.MeetsSeq3 PySem.SeqAt
end
end L2
set_option autoImplicit true
set_option relaxedAutoImplicit true
namespace L2
open PySem PySem.Spec PyProof.Rows
section
variable{prog:Program}{w:World}{A:Around}{E:Value->Shared->Prop}{s:Shared}
def oi{it t i its x Q}(a:s.heap.IsTupleIter it t i)(g:s.heap.IsTuple t its)(j:its[i]?=some x)(h:∀e,e.IsTupleIter it t (i+1)->Heap.SameBut it s.heap e->Q x {s with heap:=e}):wpAny (model prog w) A (Builtin.SmallTypes.nextOf (.ref it)) Q E s:=by refine je (id a) λo c k b=>?_;obtain⟨l,f,_,m,d⟩:=g;unfold Builtin.SmallTypes.nextOf;refine anE (aoA a.typeIs ao6 (aoQ ao6 a.typeIs aqd ?_ (aqa _)));show wpAny _ _ (field (.ref it) 0 >>=_) _ _ s;refine anE (an8 c b (x:=.ref t) rfl ?_);refine anE (an8 c b (x:=.int i 0) rfl ?_);refine anE (apb f d ?_);simp only[aqn,j];refine anE (apJ c b (by simp) (anO ⟨x,rfl,anO (h _ ?_ (Heap.SameBut.update ..))⟩));exact⟨_,aoS _ c (apW (apl b _)),(Obj.cls_mapFields ..).trans k,by rw[apl b];simp[rawInt]⟩
def rH  (l:A.handled=none)(b:s.heap.IsTupleIter it t i)(k:s.heap.IsTuple t its)(j:its[i]?=none)(n:∀g e,Heap.ExtBut it s.heap g->(∃o,g.get? e=some o/\o.cls=.type "StopIteration")->E (.ref e) {s with heap:=g}):wpAny (model prog w) A (Builtin.SmallTypes.nextOf (.ref it)) Q E s:=by refine je (id b) λo f p d=>?_;obtain⟨q,h,_,r,c⟩:=k;unfold Builtin.SmallTypes.nextOf;refine anE (aoA b.typeIs ao6 (aoQ ao6 b.typeIs aqd ?_ (aqa _)));show wpAny _ _ (field (.ref it) 0 >>=_) _ _ s;refine anE (an8 f d (x:=.ref t) rfl ?_);refine anE (an8 f d (x:=.int i 0) rfl ?_);refine anE (apb h c ?_);simp only[aqn,j];refine anE (aqq (anE (apJ f d (by simp) ?_)));refine anE ?_;refine anE (m:=firstArgMember _ _) (wpAny_of_eq (a:=Value.none) (rfl) ?_);refine apM ?_ (by size_fits);refine anE (wpAny_handled ?_);rw[l];refine anE (anO (wpAny_throw ?_));exact n _ _ (((Heap.SameBut.update ..).extBut.push _).push _) ⟨_,anT _ rfl,rfl⟩
def xB{e it t}{i:Nat}{its x c Q}(B:IsEnum s.heap e it i c)(T:s.heap.IsTupleIter it t i)(Z:s.heap.IsTuple t its)(hx:its[i]?=some x)(a:e≠it)(hQ:∀u,IsEnumOut u e it (i+1) x s.heap.objs.size->u.IsTupleIter it t (i+1)->u.get? s.heap.objs.size=some {cls:=.type "tuple",data:=.seq #[.int i s.toks,x]}->(∀b o,b≠e->b≠it->s.heap.get? b=some o->u.get? b=some o)->Q (some (.ref s.heap.objs.size)) {s with heap:=u,toks:=s.toks+1}):wpAny (model prog w) A (pyNext (.ref e)) Q E s:=by
 have Y:s.TypeIs (.ref e) "enumerate":=⟨_,B,rfl⟩;unfold pyNext;refine anE (apy (aoA (name:=Str.ofString "__next__") Y apq (aoQ apq Y F.entry_enumerate_next ?_ (F.args_enumerate_next_1 _))));obtain⟨k,g,d,tk,os⟩:=s;show wpAny _ _ (field (.ref e) 2 >>=_) _ _ _;refine anE (an8 B rfl (x:=.ref it) rfl ?_);refine anE (oi T Z hx λh I n=>?_);replace n:Heap.SameBut it k h:=n;have C:IsEnum h e it i c:=(n.2 e a).trans B;show wpAny _ _ (field (.ref e) 3 >>=_) _ _ ⟨h,g,d,tk,os⟩;refine anE (an8 C rfl (x:=rawInt i) rfl ?_);show wpAny _ _ (field (.ref e) 4 >>=_) _ _ ⟨h,g,d,tk,os⟩;refine anE (an8 C rfl (x:=.none) rfl ?_);show wpAny _ _ (mkInt i >>=_) _ _ ⟨h,g,d,tk,os⟩;refine anE (wpAny_mkInt ?_);refine anE (aov C (by simp) λz S p=>?_);replace p:Heap.SameBut e h z:=p;replace S:IsEnum z e it ((i:Int)+1) c:=S;show wpAny _ _ (setField (.ref e) 4 .none >>=_) _ _ ⟨z,g,d,tk+1,os⟩;refine anE (aov S (by simp) λj N q=>?_);replace q:Heap.SameBut e z j:=q;replace N:IsEnum j e it ((i:Int)+1) c:=N;show wpAny _ _ (newTuple [.int i tk,x]>>=_) _ _ ⟨j,g,d,tk+1,os⟩;refine anE (wpAny_newTuple ?_);have y:IsEnum (j.push {cls:=.type "tuple",data:=.seq #[.int i tk,x]}) e it ((i:Int)+1) c:=anG _ N;generalize q4:j.push {cls:=.type "tuple",data:=.seq #[.int i tk,x]}=h4 at y;have X:j.objs.size=k.objs.size:=by rw[q.1,p.1,n.1]
 have O:=anR B;have t4:h4.get? k.objs.size=some {cls:=.type "tuple",data:=.seq #[.int i tk,x]}:=by rw[<-q4,<-X];exact anT _ rfl
 have k4:∀b o,b≠e->b≠it->k.get? b=some o->h4.get? b=some o:=λb o f G P=>by rw[<-q4];exact anG _ (q.extBut b o f (p.extBut b o f (n.extBut b o G P)))
 have K:h4.IsTupleIter it t (i+1):=by rw[<-q4];refine fy ((I.extBut p.extBut (anY a)).extBut q.extBut (anY a)) λo ho r=>?_;exact⟨o,anG _ ho,r⟩
 show wpAny _ _ (Builtin.SmallTypes.ownedTupleIsFree (.ref e)>>=_) _ _ ⟨h4,g,d,tk+1,os⟩;rw[X];refine anE ?_;unfold Builtin.SmallTypes.ownedTupleIsFree;refine anE (an8 y rfl (x:=.none) rfl (anO ?_));simp only[apk];refine anE (aqq ?_);refine anE (an8 y rfl (x:=c) rfl ?_);refine anE (aov y (by simp) λJ U v=>?_);replace v:Heap.SameBut e h4 J:=v;replace U:IsEnum J e it ((i:Int)+1) x:=U;refine anE ?_;unfold Builtin.SmallTypes.ownedTupleHandOut;refine anE (aov U (by simp) λD M m=>?_);replace m:Heap.SameBut e J D:=m;replace M:IsEnumOut D e it ((i:Int)+1) x k.objs.size:=M;refine aov M (by simp) λH R l=>?_;replace l:Heap.SameBut e D H:=l;replace R:IsEnumOut H e it ((i:Int)+1) x k.objs.size:=R;refine anE (wpAny_letGo (anO ⟨_,rfl,anO (hQ H R ?_ ?_ ?_)⟩));.exact((K.extBut v.extBut (anY a)).extBut m.extBut (anY a)).extBut l.extBut (anY a)
 .exact l.extBut _ _ (aoc O) (m.extBut _ _ (aoc O) (v.extBut _ _ (aoc O) t4))
 .exact λb o f G P=>l.extBut b o f (m.extBut b o f (v.extBut b o f (k4 b o f G P)))
def aaN{e it t}{i:Nat}{its a Q}(j:A.handled=none)(g:IsEnum s.heap e it i a)(d:s.heap.IsTupleIter it t i)(h:s.heap.IsTuple t its)(l:its[i]?=none)(k:∀c,Heap.ExtBut it s.heap c->Q none {s with heap:=c}):wpAny (model prog w) A (pyNext (.ref e)) Q E s:=by have f:s.TypeIs (.ref e) "enumerate":=⟨_,g,rfl⟩;refine anE (apy (aoA f apq (aoQ apq f F.entry_enumerate_next ?_ (F.args_enumerate_next_1 _))));show wpAny _ _ (field (.ref e) 2 >>=_) _ _ _;refine anE (an8 g rfl rfl ?_);refine anE (rH j d h l λc x m b=>?_);refine fy b λo p n=>?_;refine anE (wpAny_isInstance ⟨o,p,n⟩ isSubtype_stop ?_);exact anO (k _ m)
end
section
open PySem.AutoSeq1(wpAny_loadPart')
set_option tactic.hygienic true
def aaM(l)(its)(n)(a)(sl):Meets (Builtin.«enumerate.__new__» ⟨[.type "enumerate",.ref l],[]⟩) λ_ R s=>s.heap.get? l=some {cls:=.type "tuple",dict:=a,data:=.seq its n,slots:=sl}/\R (.ok (.ret (.ref (s.heap.push {cls:=.type "tuple_iterator",data:=.fields #[.ref l,.int 0 0]}).objs.size))) {s with heap:=(s.heap.push {cls:=.type "tuple_iterator",data:=.fields #[.ref l,.int 0 0]}).push {cls:=.type "enumerate",data:=.fields #[.none,.bool false,.ref s.heap.objs.size,rawInt 0,.none,.none]}}:=.of_wp λe w A R s h=>by obtain⟨c,h⟩:=h;have d:=sub_enumerate;have f:Heap.IsTuple _ l its:=⟨_,c,rfl,n,rfl⟩;wp_walk using wpAny_loadPart' c;refine wpAny_stack_any λst=>anO ?_;generalize Builtin.SmallTypes.calledThroughType.match_1 (λ_=>Bool) _ _ _=b;cases b<;>(wp_walk using wpAny_loadPart' c,apF f;exact⟨_,rfl,h⟩)
set_option tactic.hygienic false
variable{prog:Program}{w:World}{A:Around}{E:Value->Shared->Prop}{s:Shared}
def xV{l its Q}(m:s.heap.IsTuple l its)(h:∀a,IsEnum a (s.heap.objs.size+1) s.heap.objs.size 0 .none->a.IsTupleIter s.heap.objs.size l 0->(∀b o,s.heap.get? b=some o->a.get? b=some o)->Q (.ref (s.heap.objs.size+1)) {s with heap:=a}):wpAny (model prog w) A (call (.type "enumerate") [.ref l]) Q E s:=by
 obtain⟨⟨c,e,q,k⟩,p,f,n,j⟩:=m;replace f:c=.type "tuple":=f;subst f j;refine callType_new F.called_enumerate (by decide) (F.typeCall_enumerate_1 _) (F.newCall_enumerate_1 _) (λd=>F.args_object_init_2 d _) F.entry_enumerate_new (aaM l its n e k) ⟨p,?_⟩;have i:(s.heap.push {cls:=.type "tuple_iterator",data:=.fields #[.ref l,.int 0 0]}).objs.size=s.heap.objs.size+1:=aoZ ..;show _/\_;rw[i];have g:=by have z:=anT (s.heap.push {cls:=.type "tuple_iterator",data:=.fields #[.ref l,.int 0 0]}) (o:={cls:=.type "enumerate",data:=.fields #[.none,.bool false,.ref s.heap.objs.size,rawInt 0,.none,.none]}) rfl;rw[i]at z;exact z
 exact⟨⟨_,g,rfl⟩,h _ g ⟨_,anG _ (anT _ rfl),rfl,rfl⟩ λb o x=>anG _ (anG _ x)⟩
end
def Inv.yH    (I:Inv X pins σ H s)(k:∀c o,c≠a->c≠b->s.heap.get? c=some o->h'.get? c=some o)(g:uM X pins H a)(h:uM X pins H b):Inv X pins σ H {s with heap:=h',toks:=t'}:=by
 have i:∀c u,H c=some u->c≠a/\c≠b:=λc u e=>⟨aQ e g.1,aQ e h.1⟩;have f:∀{c:Addr},c∉[a,b]->c≠a/\c≠b:=λ{c}d=>⟨λz=>d (by simp[z]),λz=>d (by simp[z])⟩;refine I.step (d':=s.drawn) (λc d=>?_) (λc o _ _ d e _=>k c o (f d).1 (f d).2 e) (λc o _ _ d e _=>⟨o.slots,k c o (f d).1 (f d).2 e⟩) (λ_ _ _ _ n=>n) (λc o d e=>⟨o,k c o (f d).1 (f d).2 e⟩) (λ_ _ e=>e) (λ_ _ _ e=>e) (λc y e=>⟨#[],by rw[e];simp⟩) (λm p=>?_) (λc u e=>?_) I.bare
 .have l:c=a\/c=b:=by simpa using d
  rcases l with rfl|rfl;.exact⟨g.2.2.2.1,g.2.1,g.2.2.2.2.1,g.2.2.2.2.2⟩
  .exact⟨h.2.2.2.1,h.2.1,h.2.2.2.2.1,h.2.2.2.2.2⟩
 .refine wy p λo t w x r=>?_;exact abp o t w (k _ o (anY g.2.1) (anY h.2.1) x) r
 .refine(I.hok c u e).u6 (λj v d q=>k j v ?_ ?_ q) (λ_ q=>q) λ_ _ q=>q
  .rcases d with z|z;.rw[z];exact(i c u e).1
   .exact(i j _ z).1
  .rcases d with z|z;.rw[z];exact(i c u e).2
   .exact(i j _ z).2
def Ite(K:W.Frag)(a:Addr):It:=⟨λi H=>∃b x,SqT K H a b/\b[i]?=some x,λi H x c=>∃p,x=.ref p/\H p=none/\∀b,SqT K H a b->∃y,b[i]?=some y/\c=upd H p (.tup [.int i,y]),λi H=>∃b,SqT K H a b/\b.length<=i⟩
def wH{P:Program}{w:World}{K:W.Frag}{es:List Expr}{k:Nat}{pos:Pos}(a e it:Addr)(hne:e≠it):Turn P w K (.Tuple es k pos) (Ite K a) [e,it] e λi h=>(∃old,IsEnum h e it i old)/\h.IsTupleIter it a i where
 mem:=by simp
 obj:=λi h st b hb=>by
  obtain⟨⟨old,he⟩,o,ho,hc,hd⟩:=st;have hb':b=e\/b=it:=by simpa using hb
  rcases hb' with rfl|rfl;.exact⟨_,he,λv z=>by cases z⟩
  .exact⟨o,ho,λv z=>by rw[hd]at z;cases z⟩
 keep:=λi h h' st kk=>by obtain⟨⟨old,he⟩,o,ho,r⟩:=st;exact⟨⟨old,kk e (by simp) _ he⟩,o,kk it (by simp) o ho,r⟩
 item:=by
  intro X hP hw hK i pins s σ H E hc I hf st hg;subst hP hw hK;obtain⟨⟨old,he⟩,hit⟩:=st;obtain⟨xs,x,hq,hx⟩:=hg;obtain⟨its,rv,p,hz⟩:=I.tuple hq;obtain⟨u,hu,ru⟩:=rv.get hx;have fe:=hf e (by simp);have fi:=hf it (by simp);refine xB he hit (show s.heap.IsTuple a its.toArray from p) (x:=u) (by simpa using hu) hne λh' eo it' tp kp=>?_;have I1:=I.yH (t':=s.toks+1) kp fe fi;have hfr:=I.hok.fresh (anP _);have hnT:∀b o,s.heap.get? b=some o->b≠s.heap.objs.size:=λb o q=>anW (anR q);have I2:Inv X pins σ (upd H s.heap.objs.size (.tup [.int i,x])) {s with heap:=h',toks:=s.toks+1}:=by
   refine I1.wJ hfr I.sz (aoc I.lt) (λy c q=>?_) (λpp hp=>hnT _ _ (I.pin pp hp).1) ⟨by show 2<=sizeLine;decide,[.int i s.toks,u],.cons ⟨_,rfl⟩ (.cons ru .nil),?_⟩;.obtain⟨v,z⟩:=I.cell y c q;exact anW z.lt
   .exact⟨_,tp,rfl,0,rfl⟩
  refine⟨_,rfl,aqh (s:={s with heap:=h',toks:=s.toks+1}) eo λh2 e2 s2=>?_⟩;have hTe:=anY (hnT _ _ he);obtain⟨o1,ho1,_⟩:=hit;have hTi:=anY (hnT _ _ ho1);refine⟨.ref s.heap.objs.size,upd H s.heap.objs.size (.tup [.int i,x]),?_,rfl,⟨_,rfl,hfr,λys hy=>⟨x,by rw[I.lE hy hq];exact hx,rfl⟩⟩,⟨⟨_,e2⟩,?_⟩,λb hb=>?_⟩;.exact I2.turned (t':=s.toks+1) (it:=e) (λb o hb q=>(s2.2 b hb).trans q) (by rw[aj (anY hTe)];exact fe.1) fe.2.1 fe.2.2.2.1 fe.2.2.2.2.1 fe.2.2.2.2.2
  .exact it'.extBut s2.extBut (anY hne)
  .have hb':b=e\/b=it:=by simpa using hb
   rcases hb' with rfl|rfl;.rw[aj (anY hTe)];exact fe.1
   .rw[aj (anY hTi)];exact fi.1
 done:=by intro X hP hw hK i pins s σ H E hc I hf st hg;subst hP hw hK;obtain⟨⟨old,he⟩,hit⟩:=st;obtain⟨xs,hq,hx⟩:=hg;obtain⟨its,rv,p,hz⟩:=I.tuple hq;have fi:=hf it (by simp);have hl:=rv.length;exact aaN (I.ok.hd hc) he hit (show s.heap.IsTuple a its.toArray from p) (by simp;omega) λh' eb=>⟨rfl,I.turned (t':=s.toks) (λb o hb q=>eb b o hb q) fi.1 fi.2.1 fi.2.2.2.1 fi.2.2.2.2.1 fi.2.2.2.2.2⟩
 self:=λ_ _ _ _ _ h0_ h=>by obtain⟨⟨_,he⟩,_⟩:=h0_;exact apN he h
section
variable{X:Cx}
def rT(K:W.Frag)(d:TE):TI:=λσ H R=>d σ H λx b=>∃a,x=.ref a/\(∃c,SqT K b a c)/\R (Ite K a) b
end
end L2
namespace L2
open PySem PySem.Spec PyProof.Rows
section
variable{κ:Type}[DecidableEq κ]
noncomputable def sJ(kvs:List (κ×V))(k:κ):Option V:=(kvs.find? λa=>decide (a.1=k)).map (·.2)
noncomputable def putK(kvs:List (κ×V))(k:κ)(v:V):List (κ×V):=if(kvs.any λa=>decide (a.1=k))=true then kvs.map λa=>if a.1=k then(a.1,v)else a else kvs++[(k,v)]
def er{p r}{k:κ}(e:p.1=k):sJ (p::r) k=some p.2:=by simp[sJ,e]
def et{p r}{k:κ}(e:¬p.1=k):sJ (p::r) k=sJ r k:=by simp[sJ,e]
theorem oX(k):∀a:List (κ×V),(a.any λb=>decide (b.1=k))=(sJ a k).isSome
|[]=>rfl|p::r=>by
 rw[List.any_cons];by_cases e:p.1=k;.simp [er e,apa e]
 .rw[et e,aoe e];exact oX k r
theorem qD(k j:κ)(y:V):∀a:List (κ×V),sJ a k=none->sJ (a++[(k,y)]) j=if j=k then some y else sJ a j
|[],_=>by
 by_cases e:k=j;.rw[anL e.symm];exact er (p:=(k,y)) e
 .rw[anK λz=>e z.symm];exact et (p:=(k,y)) e|p::r,hn=>by
 rw[List.cons_append];have b:¬p.1=k:=λz=>by rw[er z]at hn;cases hn
 rw[et b]at hn;have c:=qD k j y r hn;by_cases e:p.1=j;.rw[er e,er e,anK λz=>b (e.trans z)]
 .rw[et e,et e,c]
def i7(kvs)(k:κ)(v):(putK kvs k v).length<=kvs.length+1:=by
 unfold putK;split;.rw[an0];omega
 .rw[aoh,anV,aqL];omega
def ab0{kvs:List (κ×V)}{k:κ}(v:V)(h:sJ kvs k=none):putK kvs k v=kvs++[(k,v)]:=by unfold putK;rw[oX,h];exact anK (by decide)
def sN.aam{o u}(r:sN o u):o.isSome=u.isSome:=by cases o with
|none=>cases u with|none=>rfl|some _=>exact(r).elim
|some _=>cases u with|none=>exact(r).elim|some _=>rfl
def KV.val{kvs vs}(r:KV kvs vs)(k:κ):sN (sJ kvs k) (valueAt vs k):=by induction r with|nil=>exact True.intro|@cons p q ps qs h t ih=>
 obtain⟨a,c⟩:=h;by_cases e:p.1=k
 .have b:valueAt (q::qs) k=some q.2:=by simp[valueAt,a.symm.trans e]
  rw[er e,b];exact c
 .have d:¬q.1=k:=λz=>e (a.trans z);have b:valueAt (q::qs) k=valueAt qs k:=by simp[valueAt,d]
  rw[et e,b];exact ih
theorem KV.any{kvs vs}(r:KV kvs vs)(k:κ):(kvs.any λa=>decide (a.1=k))=vs.any λa=>decide (a.1=k):=by induction r with|nil=>rfl|cons h t ih=>rw[List.any_cons,List.any_cons,ih,h.1]
def KV.akI{kvs vs}(r:KV kvs vs)(k:κ){y u}(c:RelV y u):KV (kvs.map λa=>if a.1=k then(a.1,y)else a) (vs.map λa=>if a.1=k then(a.1,u)else a):=by induction r with|nil=>exact .nil|@cons p q ps qs h t ih=>
 rw[aoa,aoa];refine .cons ?_ ih;obtain⟨b,d⟩:=h;by_cases e:p.1=k;.rw[anL e,anL (b.symm.trans e)];exact⟨b,c⟩
 .rw[anK e,anK λz=>e (b.trans z)];exact⟨b,d⟩
def KV.put{kvs vs}(r:KV kvs vs)(k:κ){y u}(a:RelV y u):KV (putK kvs k y) (stored vs k u):=by
 unfold putK stored;rw[r.any k];by_cases e:(vs.any λb=>decide (b.1=k))=true;.rw[anL e,anL e];exact r.akI k a
 .rw[anK e,anK e];exact Paired.snoc r ⟨rfl,a⟩
theorem KV.length{kvs}{vs:List (κ×Value)}(r:KV kvs vs):kvs.length=vs.length:=Paired.length r
end
def acH{P w}:∀{k u},RelV (kV k) u->(cV P w).is k u=true|.inl (some i),u,r=>by obtain⟨t,e⟩:=r;subst e;exact t8 P w i t|.inl none,u,r=>by cases r;rfl|.inr x,u,r=>by obtain⟨t,e⟩:=r;subst e;exact t7 P w x t
theorem rR{P w}:∀{ks us},Vals (ks.map kV) us->ItemsAre (cV P w) ks us|[],_,r=>by cases r;exact .nil|k::ks,_,r=>by cases r with|cons h t=>exact .cons (acH h) (rR t)
abbrev KT(H:Hp):List (List Key×V)->List (List Key×Addr×Value)->Prop:=Paired λp q=>p.1=q.1/\H q.2.1=some (.tup (p.1.map kV))/\RelV p.2 q.2.2
def KT.val{H kvs xs}(r:KT H kvs xs)(k):sN (sJ kvs k) ((atKey xs k).map (·.2)):=by induction r with|nil=>exact True.intro|@cons p q ps qs h t ih=>
 refine aeq h λa _ c=>?_;by_cases e:p.1=k
 .have b:atKey (q::qs) k=some q.2:=by simp[atKey,a.symm.trans e]
  rw[er e,b];exact c
 .have d:¬q.1=k:=λz=>e (a.trans z);have b:atKey (q::qs) k=atKey qs k:=by simp[atKey,d]
  rw[et e,b];exact ih
def KT.akI{H kvs xs}(r:KT H kvs xs)(k){y u}(d:RelV y u):KT H (kvs.map λb=>if b.1=k then(b.1,y)else b) (xs.map (putAt k u)):=by induction r with|nil=>exact .nil|@cons p q ps qs h t ih=>
 rw[aoa];refine .cons ?_ ih;refine aeq h λa c f=>?_;unfold putAt;by_cases e:p.1=k;.rw[anL e,anL (a.symm.trans e)];exact⟨a,c,d⟩
 .rw[anK e,anK λz=>e (a.trans z)];exact⟨a,c,f⟩
def KT.put{H kvs xs}(r:KT H kvs xs)(k){b y u}(c:H b=some (.tup (k.map kV)))(a:RelV y u):KT H (putK kvs k y) (storedH xs k b u):=by
 have e:(kvs.any λd=>decide (d.1=k))=(atKey xs k).isSome:=by rw[oX,(r.val k).aam,Option.isSome_map]
 unfold putK storedH;rw[e];by_cases q:(atKey xs k).isSome=true;.rw[anL q,anL q];exact r.akI k a
 .rw[anK q,anK q];exact Paired.snoc r ⟨rfl,c,a⟩
def KT.keeps{H H' kvs xs}(r:KT H kvs xs)(c:∀b a,H b=some (.tup a)->H' b=some (.tup a)):KT H' kvs xs:=Paired.ad7 r λ_ _ z=>⟨z.1,c _ _ z.2.1,z.2.2⟩
section
variable{P:Program}{w:World}{H:Hp}{h:Heap}{a:Addr}
def ahg{u}(ok:HOk P w H h)(e:Rd H a u):dD P w H h a u:=e.ok ok
def aiZ{kvs}(ok:HOk P w H h)(e:Rd H a (.dK kvs)):kvs.length<=sizeLine/\(a==sysModules)=false/\∃b,KV kvs b/\h.DictOf (cV P w) a b:=ahg ok e
def ai0{kvs}(ok:HOk P w H h)(e:H a=some (.dK kvs)):kvs.length<=sizeLine/\(a==sysModules)=false/\∃b,KV kvs b/\h.DictOf (cV P w) a b:=aiZ ok (.inl e)
def rP{ks}(ok:HOk P w H h)(e:H a=some (.tup (ks.map kV))):(tupleKind (cV P w)).is h ks a:=by obtain⟨_,b,r,o,f,c,n,d⟩:=ok a _ e;exact⟨o,_,n,f,c,d,by simpa using rR r⟩
def alZ{kvs}(ok:HOk P w H h)(e:Rd H a (.dT kvs)):kvs.length<=sizeLine/\(a==sysModules)=false/\∃c,KT H kvs c/\h.DictOfH (tupleKind (cV P w)) a c:=by
 obtain⟨z,y,c,r,o,g,j,i,d,n,f,k⟩:=ahg ok e;refine⟨z,y,c,r,o,g,j,i,d,n,f,λx b=>?_,k⟩;have all:∀{l}{m},KT H l m->∀x∈m,(tupleKind (cV P w)).is h x.1 x.2.1:=by intro l m q;induction q with|nil=>intro x b;exact nomatch b|@cons p q ps qs hq t ih=>
   intro x b;rcases anS.mp b with e|b;.exact rP ok (by grind)
   .exact ih x b
 exact all r x b
def al0{kvs}(ok:HOk P w H h)(e:H a=some (.dT kvs)):kvs.length<=sizeLine/\(a==sysModules)=false/\∃b,KT H kvs b/\h.DictOfH (tupleKind (cV P w)) a b:=alZ ok (.inl e)
end
def agc(H:Hp)(a:Addr)(y v:V)(H':Hp):Prop:=(∃c k,H a=some (.dK c)/\y=kV k/\c.length<sizeLine/\H'=upd H a (.dK (putK c k v)))\/∃c k b,H a=some (.dT c)/\y=.ref b/\H b=some (.tup (k.map kV))/\c.length<sizeLine/\H'=upd H a (.dT (putK c k v))
theorem agc.k{H a kvs k v}(e:H a=some (.dK kvs))(b:kvs.length<sizeLine):agc H a (kV k) v (upd H a (.dK (putK kvs k v))):=.inl ⟨_,k,e,rfl,b,rfl⟩
section
variable{X:Cx}{pins:List (Addr×Obj)}{σ:St}{H:Hp}{s:Shared}{a:Addr}{y v:V}{u r:Value}{o:Option V}{A:Around}{E:Value->Shared->Prop}
def Inv.big(I:Inv X pins σ H s):sysModules<s.heap.objs.size:=by exact Nat.lt_trans (by decide) (I.mod.glob.keeps I.bk).lt
def uo{h' t' ob}(I:Inv X pins σ H s)(e:Mut (H a))(hs:Heap.SameBut a s.heap h')(c:∃q,h'.get? a=some q)(new:dD X.prog X.w (upd H a ob) h' a ob):Inv X pins σ (upd H a ob) {s with heap:=h',toks:=t'}:=I.write  e (.inl rfl) (λb q d z=>(hs.2 b d).trans z) c new
def aei{P w H' h' kvs vs}(z:kvs.length<=sizeLine)(c:(a==sysModules)=false)(b:KV kvs vs)(dd:h'.DictOf (cV P w) a vs):dD P w H' h' a (.dK kvs):=⟨z,c,vs,b,dd⟩
def aa2{H' Q}(P:A.units+1<cLine)(I:Inv X pins σ H s)(g:agc H a y v H')(J:RelV y u)(G:RelV v r)(h:∀B,Inv X pins σ H' B->Q () B):wpAny (model X.prog X.w) A (setItem (.ref a) u r) Q E s:=by
 rcases g with⟨f,k,e,x,l,t⟩|⟨f,k,b,e,x,D,l,t⟩
 .subst x t;obtain⟨z,p,O,d,dd⟩:=ai0 I.hok e;have m:O.length<=sizeLine:=by rw[<-d.length];exact z
  have n:(putK f k v).length<=sizeLine:=by have:=i7 f k v;omega
  refine wpAny_setItem_pairs (hsz:=m) (acH J) dd λK i w=>h _ ?_;have Z:∃q,K.get? a=some q:=let⟨q,_,_,j,_⟩:=i;⟨q,j⟩;exact uo I (by rw[e];exact True.intro) w Z (aei n p (d.put k G) i)
 .subst x t;cases J;obtain⟨z,p,N,d,dd⟩:=al0 I.hok e;have m:N.length<=sizeLine:=by rw[<-Paired.length d];exact z
  have n:(putK f k v).length<=sizeLine:=by have:=i7 f k v;omega
  refine wpAny_setItem_heap (hsz:=m) (tupleKind_room_in1 P) (rP I.hok D) dd λK i w=>h _ ?_;obtain⟨q,Y,R,j,U,T,M,_,S⟩:=i;refine uo I (by rw[e];exact True.intro) w ⟨q,j⟩ ⟨n,p,_,(d.put k D G).keeps λc ys C=>?_,q,Y,R,j,U,T,M,S⟩;rw[aj (alm C e λz=>nomatch z)];exact C
end
def akC(f ty tv:TE):TS:=λD σ H=>tv σ H λv e=>f σ e λx d=>ty σ d λy c=>∃a b,x=.ref a/\agc c a y v b/\D.nx σ b
section
variable{X:Cx}{o i e value:Expr}{pos pos' tpos:Pos}{td ty tv:TE}
def tE(j:X.A.units+1<cLine)(z:PE X o td)(w:PE X i ty)(k:PE X value tv)(hs:swapsWith value (some (.Subscript o i pos')) pos.line X.env=pure false):PS X (.Assign [.Subscript o i pos'] value pos) (akC td ty tv):=by intro b s σ H D I h;refine wpAny_Assign_Subscript (thn (k _ s σ H _ I h) λr E⟨v,O,B,m,d⟩=>thn (z _ _ σ _ _ B d) λu J⟨x,N,q,t,A⟩=>thn (w _ _ σ _ _ q A) λK M⟨y,G,c,p,a,n,ex,g,f⟩=>?_) hs;subst ex;obtain rfl:=t;exact aa2 j c g p m λC l=>⟨σ,n,l,f⟩
end
def vZ{P w H}(h:Heap)(a:sysModules<h.objs.size):dD P w H (h.push {cls:=.type "dict",data:=.dict #[]}) h.objs.size (.dK []):=⟨aoi _,aox.mpr (anY (anW a)),[],.nil,Heap.DictOf.new h⟩
def ag7:TE:=λ_ H Q=>∀p,H p=none->Q (.ref p) (upd H p (.dK []))
section
variable{X:Cx}{pos:Pos}
def vu:PE X (.Dict [] [] pos) ag7:=λa s σ H Q I h=>wpAny_Dict_empty ⟨.ref _,_,I.laid  (λ_ _ q=>anG _ q) (anP _) (vZ _ I.big),rfl,h _ (I.hok.fresh (anP _))⟩
end
def uY:List (TE×TE)->St->Hp->(List (V×V)->Hp->Prop)->Prop|[],_,H,Q=>Q [] H|(tk,tv)::r,σ,H,Q=>tk σ H λx c=>tv σ c λy d=>uY r σ d λb a=>Q ((x,y)::b) a
abbrev VV:List (V×V)->List (Value×Value)->Prop:=Paired λp q=>RelV p.1 q.1/\RelV p.2 q.2
def PPs(X:Cx)(pos:Pos)(keys:List (Option Expr))(a:List Expr)(c:List (TE×TE)):Prop:=∀(b:List (Addr×Obj))(s:Shared)(σ:St)(H:Hp)(Q:List (V×V)->Hp->Prop),Inv X b σ H s->uY c σ H Q->wpAny (model X.prog X.w) X.A (evalPairs (pairTrees keys a X.env pos)) (λg f=>∃e d,Inv X b σ d f/\VV e g/\Q e d) X.xe s
def afe{X:Cx}{pos:Pos}:PPs X pos [] [] []:=λa s σ H Q I h=>pairTrees_nil_walk ⟨[],H,I,.nil,h⟩
def ab1{X:Cx}{pos:Pos}{k v:Expr}{ks:List (Option Expr)}{vs:List Expr}{tk tv:TE}{b:List (TE×TE)}(g:PE X k tk)(i:PE X v tv)(m:PPs X pos ks vs b):PPs X pos (some k::ks) (v::vs) ((tk,tv)::b):=λa s σ H Q I h=>pairTrees_cons_walk (thn (g a s σ H _ I h) λu j⟨x,w,A,q,e⟩=>thn (i a j σ w _ A e) λB n⟨y,r,p,o,z⟩=>thn (m a n σ r _ p z) λws C⟨t,l,d,c,f⟩=>⟨(x,y)::t,l,d,.cons ⟨q,o⟩ c,f⟩)
def jz(kvs a:List (Key×V)):List (Key×V):=a.foldl (λb c=>putK b c.1 c.2) kvs
def KV.merge:∀{a:List (Key×V)}{b:List (Key×Value)}{kvs:List (Key×V)}{vs:List (Key×Value)},KV a b->KV kvs vs->KV (jz kvs a) (merged vs b):=by intro a b kvs vs r;unfold KV at r;induction r generalizing kvs vs with|nil=>intro q;exact q|@cons p q ps qs h t ih=>
 intro c;have e:KV (putK kvs p.1 p.2) (stored vs q.1 q.2):=by have:=c.put p.1 h.2;rw[<-h.1];exact this
 exact ih e
theorem jA:∀(a kvs:List (Key×V)),(jz kvs a).length<=kvs.length+a.length|[],kvs=>by show kvs.length<=kvs.length+0;omega|p::r,kvs=>by have c:=jA r (putK kvs p.1 p.2);have b:=i7 kvs p.1 p.2;show(jz (putK kvs p.1 p.2) r).length<=_;rw[anV];omega
theorem oE{P:Program}{w:World}:∀{kvs:List (Key×V)}{ws:List (Value×Value)},VV (kvs.map λe=>(kV e.1,e.2)) ws->∃d,Carries (cV P w) ws d/\KV kvs d|[],_,r=>by rw[List.map_nil]at r;cases r;exact⟨[],True.intro,.nil⟩|p::kvs,_,r=>by rw[aoa]at r;cases r with|@cons a b as bs h t=>obtain⟨d,c,q⟩:=oE (P:=P) (w:=w) t;obtain⟨g,f⟩:=b;exact⟨(p.1,f)::d,⟨acH h.1,rfl,c⟩,.cons ⟨rfl,h.2⟩ q⟩
def akp(b:List (TE×TE)):TE:=λσ H Q=>∀p,H p=none->uY b σ (upd H p (.dK [])) λe c=>c p=some (.dK [])/\∃a:List (Key×V),e=a.map (λd=>(kV d.1,d.2))/\a.length<=15/\Q (.ref p) (upd c p (.dK (jz [] a)))
def afl{X:Cx}{pos:Pos}{keys:List (Option Expr)}{b:List Expr}{f:List (TE×TE)}(h:PPs X pos keys b f)(g:keys.all (·.isSome)=true)(x:keys.length=b.length)(J:keys≠[])(l:keys.length<=15):PE X (.Dict keys b pos) (akp f):=by
 intro d s σ H Q I q;have t:=I.hok.fresh (anP s.heap.objs.size);have K:=I.laid (a:=s.heap.objs.size) (o:=.dK []) (h':=s.heap.push {cls:=.type "dict",data:=.dict #[]}) (t':=s.toks) (λ_ _ q=>anG _ q) (anP _) (vZ s.heap I.big);refine wpAny_Dict_walk (knd:=cV X.prog X.w) g x J l (thn (h d _ σ _ _ K (q _ t)) λws N⟨R,O,m,k,e,j,u,M,B⟩=>?_);subst u;obtain⟨C,c,p⟩:=oE (P:=X.prog) (w:=X.w) k;obtain⟨z,A,D,y,dd⟩:=ai0 m.hok e;cases y;refine⟨C,c,dd,λh' i G=>⟨.ref s.heap.objs.size,_,?_,rfl,B⟩⟩;have v:(jz [] j).length<=sizeLine:=by have r:=jA j [];rw[aqL]at r;rw[apP];omega
 have E:∃q,h'.get? s.heap.objs.size=some q:=let⟨q,_,_,n,_⟩:=i;⟨q,n⟩;exact uo m (by rw[e];exact True.intro) G E (aei v A (p.merge .nil) i)
def aj0(K:W.Frag)(a:Addr):It:=⟨λi H=>∃b x,SqL K H a b/\b[i]?=some x,λi H x c=>∃p,x=.ref p/\H p=none/\∀b,SqL K H a b->∃y,b[i]?=some y/\c=upd H p (.tup [.int i,y]),λi H=>∃b,SqL K H a b/\b.length<=i⟩
def wI{P:Program}{w:World}{K:W.Frag}{es:List Expr}{k:Nat}{pos:Pos}(a e it:Addr)(hne:e≠it):Turn P w K (.Tuple es k pos) (aj0 K a) [e,it] e λi h=>(∃old,IsEnum h e it i old)/\h.IsListIter it a i where
 mem:=by simp
 obj:=λi h st b hb=>by
  obtain⟨⟨old,he⟩,o,ho,hc,hd⟩:=st;have hb':b=e\/b=it:=by simpa using hb
  rcases hb' with rfl|rfl;.exact⟨_,he,λv z=>by cases z⟩
  .exact⟨o,ho,λv z=>by rw[hd]at z;cases z⟩
 keep:=λi h h' st kk=>by obtain⟨⟨old,he⟩,o,ho,r⟩:=st;exact⟨⟨old,kk e (by simp) _ he⟩,o,kk it (by simp) o ho,r⟩
 item:=by
  intro X hP hw hK i pins s σ H E hc I hf st hg;subst hP hw hK;obtain⟨⟨old,he⟩,hit⟩:=st;obtain⟨xs,x,hq,hx⟩:=hg;obtain⟨its,rv,p,hz⟩:=I.list hq;obtain⟨u,hu,ru⟩:=rv.get hx;have fe:=hf e (by simp);have fi:=hf it (by simp);refine wpAny_pyNext_enum_item he hit p.isList (x:=u) (by simpa using hu) hne λh' eo it' tp _ kp=>?_;have I1:Inv X pins σ H {s with heap:=h',toks:=s.toks+1}:=I.yH (t':=s.toks+1) kp fe fi;have hfr:H s.heap.objs.size=none:=I.hok.fresh (anP _);have hnT:∀b o,s.heap.get? b=some o->b≠s.heap.objs.size:=λb o q=>anW (anR q);have I2:Inv X pins σ (upd H s.heap.objs.size (.tup [.int i,x])) {s with heap:=h',toks:=s.toks+1}:=by
   refine I1.wJ hfr I.sz (aoc I.lt) (λy c q=>?_) (λpp hp=>hnT _ _ (I.pin pp hp).1) ⟨by show 2<=sizeLine;decide,[.int i s.toks,u],.cons ⟨_,rfl⟩ (.cons ru .nil),?_⟩;.obtain⟨v,z⟩:=I.cell y c q;exact anW z.lt
   .exact⟨_,tp,rfl,0,rfl⟩
  refine⟨_,rfl,aqh (s:={s with heap:=h',toks:=s.toks+1}) eo λh2 e2 s2=>?_⟩;have hTe:s.heap.objs.size≠e:=anY (hnT _ _ he);obtain⟨o1,ho1,_⟩:=hit;have hTi:s.heap.objs.size≠it:=anY (hnT _ _ ho1);refine⟨.ref s.heap.objs.size,upd H s.heap.objs.size (.tup [.int i,x]),?_,rfl,⟨_,rfl,hfr,λys hy=>⟨x,by rw[I.pU hy hq];exact hx,rfl⟩⟩,⟨⟨_,e2⟩,?_⟩,λb hb=>?_⟩;.exact I2.turned (t':=s.toks+1) (it:=e) (λb o hb q=>(s2.2 b hb).trans q) (by rw[aj (anY hTe)];exact fe.1) fe.2.1 fe.2.2.2.1 fe.2.2.2.2.1 fe.2.2.2.2.2
  .exact it'.extBut s2.extBut (anY hne)
  .have hb':b=e\/b=it:=by simpa using hb
   rcases hb' with rfl|rfl;.rw[aj (anY hTe)];exact fe.1
   .rw[aj (anY hTi)];exact fi.1
 done:=by intro X hP hw hK i pins s σ H E hc I hf st hg;subst hP hw hK;obtain⟨⟨old,he⟩,hit⟩:=st;obtain⟨xs,hq,hx⟩:=hg;obtain⟨its,rv,p,hz⟩:=I.list hq;have fi:=hf it (by simp);have hl:=rv.length;exact wpAny_pyNext_enum_end (I.ok.hd hc) he hit p.isList (by simp;omega) λh' eb=>⟨rfl,I.turned (t':=s.toks) (λb o hb q=>eb b o hb q) fi.1 fi.2.1 fi.2.2.2.1 fi.2.2.2.2.1 fi.2.2.2.2.2⟩
 self:=λ_ _ _ _ _ h0_ h=>by obtain⟨⟨_,he⟩,_⟩:=h0_;exact apN he h
section
variable{X:Cx}
def aiw(K:W.Frag)(d:TE):TI:=λσ H R=>d σ H λx b=>∃a,x=.ref a/\((∃c,SqT K b a c)/\R (Ite K a) b\/(∃c,SqL K b a c)/\R (aj0 K a) b)
def tG{l:Expr}{B:TE}{es:List Expr}{k:Nat}{M p pos:Pos}(Q:Gl X "enumerate")(E:X.mg "enumerate"=none)(K:PE X l B)(hs:starEach [l] X.env=[(false,eval l X.env)]:=by rfl):PI X (.Tuple es k M) (.Call (.Name "enumerate" p) [l] [] pos) (aiw X.K B):=by intro f s σ H R I h;have G:PA X [l] (jj B abr):=bL K e7 (by unfold SE;rw[hs];rfl);refine Call_ (jB I Q E boot_enumerate (aoq (thn (G pos f s σ H (λy g=>match y with|[x]=>∃a,x=.ref a/\((∃n,SqT X.K g a n)/\R (Ite X.K a) g\/(∃n,SqL X.K g a n)/\R (aj0 X.K a) g)|_=>False) I h) λT c t=>?_) hs rfl));obtain⟨y,g,j,w,d⟩:=t;match y,d,w with
|[x],d,w=>
  obtain⟨a,rfl,d⟩:=d;obtain⟨u,rfl,P⟩:=vals1 w;cases P;have C:c.heap.objs.size+1≠c.heap.objs.size:=Nat.succ_ne_self _;have D:∀b∈[c.heap.objs.size+1,c.heap.objs.size],uM X f g b:=λb O=>by
   have A:b=c.heap.objs.size+1\/b=c.heap.objs.size:=by simpa using O
   have o:c.heap.objs.size<=b:=by
    rcases A with e|e;.rw[e];exact aqb _
    .rw[e];exact anP _
   exact j.aiH o (j.hok.fresh o)
  rcases d with⟨⟨n,v⟩,q⟩|⟨⟨n,v⟩,q⟩;.obtain⟨m,N,p,J⟩:=j.tuple v;refine xV (show c.heap.IsTuple a m.toArray from p) λS r i z=>apN r ?_;exact⟨c.heap.objs.size+1,[c.heap.objs.size+1,c.heap.objs.size],_,_,g,rfl,j.kept (t':=c.toks) z,wH a _ _ C,⟨⟨_,r⟩,i⟩,D,q⟩
  .obtain⟨m,N,p,J⟩:=j.list v;refine call_enumerate_list p.isList λS r i _ z=>apN r ?_;exact⟨c.heap.objs.size+1,[c.heap.objs.size+1,c.heap.objs.size],_,_,g,rfl,j.kept (t':=c.toks) z,wI a _ _ C,⟨⟨_,r⟩,i⟩,D,q⟩|[],d,_=>exact d.elim|_::_::_,d,_=>exact d.elim
end
section
variable{X:Cx}
def abh(Z:X.calm=true):bN X (.builtin "all") λB H Q=>∃(l:Addr)(bs:List Bool),B=[.ref l]/\SqL X.K H l (bs.map V.bl)/\Q (.bl (bs.all id)) H:=by
 intro C s σ H B us Q I r h;obtain⟨l,bs,rfl,J,q⟩:=h;obtain⟨u,rfl,Y⟩:=vals1 r;cases Y;obtain⟨a,E,pl,hz⟩:=I.list J;have S:=E.length;have T:l<s.heap.objs.size:=by obtain⟨o,_,x,_⟩:=pl;exact anR x
 have n:∀(i:Nat)(v:Value),a.toArray[i]?=some v->∃b,bs[i]?=some b/\v=Value.bool b:=λi v O=>by
  have f:a[i]?=some v:=by simpa using O
  have c:i<(bs.map V.bl).length:=by have:=(anM.mp f).1;omega
  obtain⟨u,d,G⟩:=E.get (anJ c);rw[f]at d;cases d;have p:i<bs.length:=by simpa using c
  refine⟨bs[i],anJ p,?_⟩;rw[List.getElem_map]at G;exact G
 refine call_all_walk (apO pl.isList ⟨s.heap.objs.size,_,_,_,_,_,λi=>bs.getD i false,rfl,Walks.list (prog:=X.prog) (w:=X.w) (A:=X.A.in1) (show X.A.in1.handled=none from I.ok.hd Z) s.heap.objs.size l (anW T) a.toArray,⟨⟨_,anT _ rfl,rfl,rfl⟩,?_⟩,?_,λh' tk N=>?_⟩);.obtain⟨o,k,x,t,P,y⟩:=pl;exact⟨o,anG _ x,t,k,y⟩
 .intro i v K U E' R g;obtain⟨b,m,rfl⟩:=n i v R;have g:U (bs.getD i false) K:=g;rw[anI,m]at g;exact ao8 g
 .have e:(List.range a.toArray.size).all (λi=>bs.getD i false)=bs.all id:=by
   have j:a.toArray.size=bs.length:=by simp at S⊢;omega
   rw[j,aof,aoB,aoB];constructor;.intro h b n;obtain⟨i,c,rfl⟩:=ape n;have:=h i (an1.mpr c);rw[anI,anJ c]at this;exact this
   .intro h i c;have c:=an1.mp c;rw[anI,anJ c];exact h _ (ao1 c)
  rw[e];exact⟨.bl _,H,I.kept λb o D=>N b o (by
  intro z;have M:b=s.heap.objs.size:=by simpa using z
  exact absurd (anR D) (by rw[M];exact aoX _)) (anG _ D),rfl,q⟩
def aaj:IxR X λx y H Q=>∃a b k v,x=.ref a/\y=kV k/\Rd H a (.dK b)/\sJ b k=some v/\Q v H:=by intro g f h s σ H x y v u Q I n i⟨a,_,k,z,ex,m,e,l,q⟩j;subst ex m;cases n;obtain⟨r,p,o,c,dd⟩:=aiZ I.hok e;refine fy (sN.some_of (by rw[<-l];exact c.val k)) λt hw d=>?_;exact tail_any dd.typeIs aqr.lookup (wpAny_getItem_of (acH i) dd.mapOf hw (jd z H (I.tok _) d q)) j
def abo(w:World)(K:W.Frag)(a:Addr)(kvs:List (Str×V)):Prop:=∃b n,K.lookup a=some ⟨.type "dict",none,.dict b n,#[]⟩/\Paired (λ(p:Str×V)(e:DictEntry)=>(∃t,e.key=.str p.1 t)/\e.hash=PyData.keyHash w.params p.1/\RelV p.2 e.val) kvs b.toList
theorem oq{w:World}:∀{kvs es},Paired (λ(p:Str×V)e=>(∃t,e.key=.str p.1 t)/\e.hash=PyData.keyHash w.params p.1/\RelV p.2 e.val) kvs es->W.KeysLit w.params es|_,_,.nil=>trivial|_,_,.cons ⟨⟨t,e1⟩,e2,_⟩ r=>⟨⟨_,t,e1,e2⟩,oq r⟩
theorem aaD{w:World}(k)(v):∀{kvs es},Paired (λp(e:DictEntry)=>(∃t,e.key=.str p.1 t)/\e.hash=PyData.keyHash w.params p.1/\RelV p.2 e.val) kvs es->kvs.lookup k=some v->∃e,es.find? (λe=>Value.isStrOf k e.key)=some e/\RelV v e.val
|_,_,.nil,h=>by simp at h|_,_,.cons (a:=p) (b:=e) ⟨⟨t,e1⟩,e2,rv⟩ r,h=>by
 by_cases c:k=p.1;.obtain⟨f,i⟩:=p;subst c;simp[List.lookup]at h;subst h;exact⟨e,by simp[List.find?,e1,Value.isStrOf],rv⟩
 .obtain⟨f,i⟩:=p;have d:(k==f)=false:=by simpa using c
  simp only[List.lookup,d]at h;refine fy (aaD k v r h) λj l g=>?_;refine⟨j,?_,g⟩;rw[List.find?_cons,e1];have:Value.isStrOf k (.str f t)=false:=by simp[Value.isStrOf];exact λz=>c z.symm
  rw[this];exact l
def acJ{a0 kvs}(D:abo X.w X.K a0 kvs):IxR X λx y H Q=>x=.ref a0/\∃k v,y=.str k/\kvs.lookup k=some v/\Q v H:=by intro b a d s σ H x y v u Q I o i⟨ex,k,z,m,l,q⟩j;subst ex m;cases o;obtain⟨t,rfl⟩:=i;refine dE D λr n h p=>?_;refine fy (aaD k z p l) λe g f=>?_;have c:=W.mapOf_K (prog:=X.prog) I.kIn h (oq p);refine tail_any c.typeIs aqr.lookup (wpAny_getItem_of (strKind_is _ _ k t) c ?_ (jd z H (I.tok _) f q)) j;unfold findBy;rw[<-aqc,g];rfl
end
end L2
set_option autoImplicit true
set_option relaxedAutoImplicit true
namespace L2
open PySem PySem.Spec PyProof.Rows
def V12(vs:Array Value)(v:Value):Prop:=vs[1]?=some v/\vs[2]?=some .none
def Trc(h:Heap)(e C:Addr)(dx:Option Addr)(f:Value):Option Addr->Prop|none=>∃a b,h.get? e=some a/\a.cls=.ref C/\a.dict=dx/\a.data=.fields b/\V12 b .none|some T=>T≠e/\∃a b c d,h.get? e=some a/\a.cls=.ref C/\a.dict=dx/\a.data=.fields b/\V12 b (.ref T)/\h.get? T=some c/\c.data=.fields d/\d[3]?=some f
def Trc.there{h e C dx j T}(t:Trc h e C dx j T):∃a b,h.get? e=some a/\a.cls=.ref C/\a.dict=dx/\a.data=.fields b/\b[2]?=some .none:=by cases T with|none=>refine kR t λa b i d g f c=>?_;exact⟨a,b,i,d,g,f,c.2⟩|some T=>obtain⟨_,a,b,_,_,i,d,g,f,c,_⟩:=t;exact adt a b i d g f c.2
def Trc.keeps{h h' e C dx f T}(t:Trc h e C dx f T)(k:∀b o,b=e\/T=some b->h.get? b=some o->h'.get? b=some o):Trc h' e C dx f T:=by cases T with|none=>refine dE t λd c a r=>?_;exact⟨d,c,k _ _ (.inl rfl) a,r⟩|some T=>obtain⟨n,d,c,m,p,a,g,q,i,l,j,r⟩:=t;exact⟨n,d,c,m,p,k _ _ (.inl rfl) a,g,q,i,l,k _ _ (.inr rfl) j,r⟩
def Obj.ny(f)(o:Obj):(o.mapFields f).dict=o.dict:=by obtain⟨c,d,a,b⟩:=o;cases a<;>rfl
section
variable{M:Model}{A:Around}{E:Value->Shared->Prop}{s:Shared}
def r0{w g d L e C v vs head k Q}(I:A.frames=some (g::d))(N:s.heap.FunFrames w (g::d))(S:g.frame=some L)(P:s.heap.get? e=some v)(J:v.data=.fields vs)(hsz:1<vs.size)(u:vs[2]?=some .none)(h:∀G O,(∀b o,s.heap.get? b=some o->b≠e->b∉frs (g::d)->G.get? b=some o)->(∀b o,s.heap.get? b=some o->b∈frs (g::d)->∃H,G.get? b=some {o with slots:=H})->s.heap.objs.size<=O->Trc G e C v.dict (rawInt L) (some O)->Q () {s with heap:=G})(T:v.cls=.ref C):wpAny M A (do let a <-frameOf g;let pl <-entryPlaceOf L k;let b <-EntryCells.newEntry head a .none (rawInt L) .none pl;setField (.ref e) 1 b) Q E s:=by
 have m:e ∉(g::d).filterMap (·.frame):=λR=>by obtain⟨_,o,D,K⟩:=N.mem R;rw[P]at D;injection D with D;subst D;exact K vs J
 refine anE (wpAny_frameOf_fun I N S λc f=>?_);refine anE (wpAny_entryPlaceOf λpl x=>?_);unfold EntryCells.newEntry newFields;refine anE (apM ?_ (x.sizeOk5 _ _ _ _ _));have i:c.get? e=some v:=(f.2.1 e m).trans P;have j:=anG {cls:=.type "traceback",dict:=none,data:=.fields ([head,.ref L,.none,rawInt L,.none]++if pl.isEmpty then List.replicate 6 Value.none else pl).toArray} i;refine apJ j J hsz ?_;have B:=aoc (anR i);have l:=apl J (·.setIfInBounds 1 (Value.ref c.objs.size));have n:=aoS (Obj.mapFields (·.setIfInBounds 1 (Value.ref c.objs.size))) j (apW l);have p:=(aok (c.push {cls:=.type "traceback",dict:=none,data:=.fields ([head,.ref L,.none,rawInt L,.none]++if pl.isEmpty then List.replicate 6 Value.none else pl).toArray}) (Obj.mapFields (·.setIfInBounds 1 (Value.ref c.objs.size))) (anY B)).trans (anT c rfl);have keep:∀b o,b≠e->c.get? b=some o->((c.push {cls:=.type "traceback",dict:=none,data:=.fields ([head,.ref L,.none,rawInt L,.none]++if pl.isEmpty then List.replicate 6 Value.none else pl).toArray}).update e (Obj.mapFields (·.setIfInBounds 1 (Value.ref c.objs.size)))).get? b=some o:=λb o r y=>by rw[aok _ _ (anY r)];exact anG _ y
 refine h _ c.objs.size (λb o y r t=>keep b o r ((f.2.1 b t).trans y)) (λb o y t=>?_) ?_ ?_;.obtain⟨H,q⟩:=f.2.2 b o y;exact⟨H,keep b _ (λz=>m (z▸t)) q⟩
 .rw[f.1];exact anP _
 .exact⟨B,_,_,_,_,n,(Obj.cls_mapFields _ _).trans T,Obj.ny _ _,l,⟨by simp[hsz],by rw[Array.getElem?_setIfInBounds];simpa using u⟩,p,rfl,by first|(simp;done)|(rcases x with rfl|⟨_,_,_,_,_,_,_,rfl⟩<;>simp)⟩
def vB{p d a L e C dx S T Q}(m:A.frames=some (d::a))(H:s.heap.FunFrames p (d::a))(w:d.frame=some L)(R:Trc s.heap e C dx S T)(x:(S==rawInt L)=false)(h:∀i l,(∀b o,s.heap.get? b=some o->b≠e->T≠some b->b∉frs (d::a)->i.get? b=some o)->(∀b o,s.heap.get? b=some o->b∈frs (d::a)->∃Y,i.get? b=some {o with slots:=Y})->s.heap.objs.size<=l->Trc i e C dx (rawInt L) (some l)->Q () {s with heap:=i}):wpAny M A (noteFrame (.ref e) d) Q E s:=by unfold noteFrame;simp only[w];cases T with|none=>refine kR R λZ y u N k r j=>?_;refine anE (an8 u r j.1 ?_);rw[anK (by decide)];subst k;exact r0 m H w u r (ao7.mp j.1).1 j.2 (λi l I D J K=>h i l (λb o f G _ B=>I b o f G B) D J K) N|some T=>
 obtain⟨P,Z,y,oT,ts,u,N,k,r,j,X,t,U⟩:=R;subst k;refine anE (an8 u r j.1 ?_);rw[anL (by simp)];refine anE (an8 X t U ?_);rw[anK (by rw[x];exact an5)];refine anE (apJ X t (ao7.mp U).1 ?_);have other:∀b,b≠T->(s.heap.update T (Obj.mapFields (·.setIfInBounds 3 Value.none))).get? b=s.heap.get? b:=λb f=>aok _ _ (anY f);have c:∀b o,s.heap.get? b=some o->(∀y,o.data≠.fields y)->b≠T:=λb o f g q=>by grind
 have v:∀b∈frs (d::a),b≠T:=λb f=>by obtain⟨_,o,ho,g⟩:=H.mem f;exact c b o ho g
 refine r0 m (H.of_keeps λb o f g=>⟨o,(other b (c b o f g)).trans f,rfl⟩) w ((other e (anY P)).trans u) r (ao7.mp j.1).1 j.2 (λi l I D J K=>h i l (λb o f G nT B=>?_) (λb o f n=>?_) ?_ K) N;.have O:b≠T:=λz=>nT (by rw[z]);exact I b o ((other b O).trans f) G B
 .exact D b o ((other b (v b n)).trans f) n
 .rw[<-Heap.size_after_update ..];exact J
def zT{a}{L e C T:Addr}{dx d Q}(k:a.frame=some L)(g:Trc s.heap e C dx d (some T))(b:(d==rawInt L)=true)(h:Q () s):wpAny M A (noteFrame (.ref e) a) Q E s:=by unfold noteFrame;simp only[k];obtain⟨o,r,p,q,u,m,t,l,f,j,i,c,n⟩:=g;refine anE (an8 m f j.1 (anE (an8 i c n ?_)));rw[anL b];exact anO h
def xA   (p:Trc s.heap e C dx fl (some T))(h:∀j,(∀b o,s.heap.get? b=some o->b≠T->j.get? b=some o)->Trc j e C dx (fr.elim .none λf=>rawInt f) (some T)->Q () {s with heap:=j}):wpAny M A (setFlight (.ref e) fr) Q E s:=by obtain⟨d,t,q,w,x,n,u,g,k,m,l,c,v⟩:=p;have a:=(ao7.mp v).1;have other:∀b,b≠T->(s.heap.update T (Obj.mapFields (·.setIfInBounds 3 (fr.elim Value.none λf=>rawInt f)))).get? b=s.heap.get? b:=λb i=>aok _ _ (anY i);exact anE (an8 n k m.1 (apJ l c a (h _ (λb o i r=>(other b r).trans i) ⟨d,t,q,_,_,(other e (anY d)).trans n,u,g,k,m,aoS _ l (apW (apl c _)),apl c _,by simp[a]⟩)))
end
def i5{P w H h a o}(x:dD P w H h a o):∃ob,h.get? a=some ob:=by cases o with|lst xs=>obtain⟨_,_,_,_,e⟩:=x;exact⟨_,e⟩|tup xs=>obtain⟨_,_,_,o,e,_⟩:=x;exact⟨_,e⟩|dK kvs|dT kvs=>obtain⟨_,_,_,_,o,_,_,e,_⟩:=x;exact⟨_,e⟩|set S n=>obtain⟨o,_,_,_,e,_⟩:=x;exact⟨_,e⟩|ins C dx fs=>obtain⟨_,_,_,e,_⟩:=x;exact⟨_,e⟩|own y=>exact x|xd fs=>obtain⟨_,⟨_,_,_,e,_⟩,_⟩:=x;exact⟨_,e⟩|rng lo hi=>obtain⟨_,_,_,e⟩:=x;exact⟨_,e⟩|frz ob u=>obtain⟨e,_⟩:=x;exact⟨_,e⟩|tbl ps|met f y=>exact⟨_,x⟩|ext φ=>obtain⟨_,e,_⟩:=x;exact e
def FpX(X:Cx)(pins:List (Addr×Obj))(H:Hp)(b:Addr):Prop:=H b=none/\b≠X.env.locals/\b∉X.fs/\(b∈X.ex\/X.s₀.heap.get? b=none)/\(∀x c,X.env.cells.lookup x=some c->c≠b)/\∀p∈X.pn++pins,p.1≠b
structure Thr(X:Cx)(pins:List (Addr×Obj))(σ:St)(H:Hp)(s:Shared)(e C:Addr)(dx:Option Addr)(fl:Value)(T:Option Addr):Prop where
 inv:Inv X pins σ H s
 trc:Trc s.heap e C dx fl T
 fe:FpX X pins H e
 fT:∀t,T=some t->FpX X pins H t
section
variable{X:Cx}{pins:List (Addr×Obj)}{σ:St}{H:Hp}{s:Shared}{e C:Addr}{dx:Option Addr}{fl:Value}{T:Option Addr}
def Inv.fpX{H'}(I:Inv X pins σ H s){b}(d:s.heap.get? b=none)(j:H' b=none):FpX X pins H' b:=by
 refine⟨j,λz=>?_,λz=>?_,?_,λx c i z=>?_,λp h z=>?_⟩;.obtain⟨m,⟨o,l,n,a,_⟩,_⟩:=I.loc;rw[<-z,d]at a;cases a
 .obtain⟨_,o,a,_⟩:=I.qr.mem z;rw[d]at a;cases a
 .by_cases g:b∈X.ex;.exact .inl g
  .refine .inr ?_;cases q:X.s₀.heap.get? b with|none=>rfl|some o=>obtain⟨k,f⟩:=I.base.there b o q g;rw[d]at f;cases f
 .obtain⟨v,o,a,_⟩:=I.cell x c i;rw[z,d]at a;cases a
 .have:=(I.pin p h).1;rw[z,d]at this;cases this
def Inv.ajo(I:Inv X pins σ H s){ch:List Addr}{h'}(d:∀b∈ch,FpX X pins H b)(k:∀b o,s.heap.get? b=some o->b∉ch->b∉frs X.stack->h'.get? b=some o)(f:∀b o,s.heap.get? b=some o->b∉ch->b∈frs X.stack->∃i,h'.get? b=some {o with slots:=i}):Inv X pins σ H {s with heap:=h'}:=by
 have any:=λb o q a=>by
  by_cases g:b∈frs X.stack;.exact f b o q a g
  .exact⟨o.slots,k b o q a g⟩
 have trk:∀b u,H b=some u->b∉ch/\b∉frs X.stack:=λb u q=>⟨(λz=>by rw[(d b z).1]at q;cases q),λz=>by rw[I.sX b z]at q;cases q⟩;refine I.yY (λb g=>⟨(d b g).2.2.2.1,(d b g).2.1,(d b g).2.2.2.2.1,(d b g).2.2.2.2.2⟩) (λb o j h a q _=>k b o q a ((λb j h z=>(anS.mp (I.u4 b z)).elim j h) b j h)) (λb o _ _ a q _=>any b o q a) (λ_ _ _ _ n=>n) (λb o a q=>let⟨i,z⟩:=any b o q a;⟨_,z⟩) (λ_ _ q=>q) (λ_ _ _ q=>q) (λb y q=>⟨#[],by rw[q];simp⟩) (λm l=>?_) (λb u q=>?_) I.bare;.refine wy l λo t w x r=>?_;obtain⟨i,p⟩:=any _ o x λz=>(d _ z).2.1 rfl;exact abp _ t w p r
 .refine(I.hok b u q).u6 (λc v a z=>?_) (λ_ z=>z) λ_ _ z=>z;rcases a with rfl|a;.exact k c v z (trk c u q).1 (trk c u q).2
  .exact k c v z (trk c _ a).1 (trk c _ a).2
variable{M:Model}{E:Value->Shared->Prop}{Q:Unit->Shared->Prop}
def Thr.note(t:Thr X pins σ H s e C dx fl T)(hs:X.stack=X.env::X.outer)(p:X.env.frame=some X.env.locals)(h:∀i l n,Thr X pins σ H {s with heap:=i} e C dx n (some l)->Q () {s with heap:=i}):wpAny M X.A (noteFrame (.ref e) X.env) Q E s:=by
 have I:=t.inv;have f:=I.stack;rw[hs]at f;have k:(fl==rawInt X.env.locals)=false->wpAny M X.A (noteFrame (.ref e) X.env) Q E s:=λc=>by
  refine vB (by rw[<-hs];exact I.ok.frames) f p t.trc c λi l w v j r=>h i l (rawInt X.env.locals) ?_;have g:=I.hok.fresh j;have x:∀b∈e::T.toList,FpX X pins H b:=λb a=>by
   rcases anS.mp a with rfl|a;.exact t.fe
   .exact t.fT b (by grind)
  have d:∀b,b∉e::T.toList->b≠e/\T≠some b:=λb a=>⟨λz=>a (by rw[z];exact an2),λz=>a (by rw[z];simp)⟩;have u:=I.ajo x (λb o q m a=>w b o q (d b m).1 (d b m).2 (by rw[<-hs];exact a)) λb o q _ a=>v b o q (by rw[<-hs];exact a);exact⟨u,r,t.fe,λb a=>by cases a;exact I.fpX (aoj j) g⟩
 cases T with|none=>exact(show Thr X pins σ H s e C dx .none none->_ from λt=>by
   have c:((.none:Value)==rawInt X.env.locals)=false:=by simp[rawInt]
   refine vB (by rw[<-hs];exact I.ok.frames) f p t.trc c λi l w v j r=>h i l (rawInt X.env.locals) ?_;have g:=I.hok.fresh j;have u:=I.ajo (λb a=>by rw[aoT.mp a];exact t.fe) (λb o q m a=>w b o q (λz=>m (by rw[z];exact an2)) (by intro z;cases z) (by rw[<-hs];exact a)) λb o q _ a=>v b o q (by rw[<-hs];exact a);exact⟨u,r,t.fe,λb a=>by cases a;exact I.fpX (aoj j) g⟩) ⟨t.inv,t.trc,t.fe,t.fT⟩|some T0=>cases c:fl==rawInt X.env.locals with|false=>exact k c|true=>exact zT p t.trc c (h s.heap T0 fl t)
def Thr.aaA{T fr}(t:Thr X pins σ H s e C dx fl (some T))(h:∀c a,Thr X pins σ H {s with heap:=c} e C dx a (some T)->(fr=none->a=.none)->Q () {s with heap:=c}){A}:wpAny M A (setFlight (.ref e) fr) Q E s:=by exact xA t.trc λc f g=>h c _ ⟨t.inv.ajo (λb i=>by rw[aoT.mp i];exact t.fT T rfl) (λb o q d _=>f b o q λz=>d (by grind)) λb o q d _=>⟨o.slots,f b o q λz=>d (by grind)⟩,g,t.fe,t.fT⟩ λz=>by grind
def Thr.aaB{T}(t:Thr X pins σ H s e C dx fl (some T))(h:∀a,Thr X pins σ H {s with heap:=a} e C dx .none (some T)->Q () {s with heap:=a}){A}:wpAny M A (setFlight (.ref e) none) Q E s:=t.aaA λa c b z=>h _ (z rfl▸b)
def Thr.pass{m T a c Q}(t:Thr X pins σ H s e C dx fl (some T))(h:∀d b,Thr X pins σ H {s with heap:=d} e C dx b (some T)->E (.ref e) {s with heap:=d}){A}:wpAny M A (PySem.passOn a (.ref e) c:Sem m) Q E s:=by obtain⟨n,r,p,q,v,l,u,i,f,g,o,j,w⟩:=id t.trc;exact anE (an8 l f g.1 (anE (t.aaA λd b k _=>wpAny_throw (h _ _ k))))
end
def CXX(P:Program)(w:World):CXT:=λa H s E e c=>∃d C f T b,e=.ref d/\c.os=s.os/\AllBare c.gens/\Un (frs a) [] H b s.heap c.heap/\HOk P w b c.heap/\Trc c.heap d C f .none (some T)/\s.heap.get? d=none/\s.heap.get? T=none/\b d=none/\b T=none/\E (.ref C) f b
section
variable{X:Cx}{pins:List (Addr×Obj)}{σ:St}{H:Hp}{s s':Shared}{e:Value}{E:XK}
def Inv.thrown(I:Inv X pins σ H s)(h:CXX X.prog X.w X.stack H s E e s'):∃a C d T c,e=.ref a/\Thr X pins σ c s' a C d .none (some T)/\E (.ref C) d c:=by obtain⟨a,C,d,T,c,rfl,n,l,un,f,m,k,i,j,g,q⟩:=h;exact⟨a,C,d,T,c,rfl,⟨I.adh n un f l λb z=>absurd z (by simp),m,I.fpX k j,λt z=>by cases z;exact I.fpX i g⟩,q⟩
end
def uc{P w K j d N g scope f h A a s H E pins σ H' s' e C dx T l}(t:Thr (iI (CXX P w) P w K j d N g scope f h A a s H E) pins σ H' s' e C dx l T)(q:E (.ref C) dx H'):(iI (CXX P w) P w K j d N g scope f h A a s H E).xe (.ref e) s':=by
 refine anE (t.note rfl rfl λn i _ m=>m.aaB λk c=>?_);have I:=c.inv;have new:∀b,FpX (iI (CXX P w) P w K j d N g scope f h A a s H E) pins H' b->s.heap.get? b=none:=λb z=>by
  rcases z.2.2.2.1 with z|z;.exact absurd (show b∈[]from z) (by simp)
  .exact z
 exact⟨e,C,dx,i,H',rfl,I.os,I.bare,I.base,I.hok,c.trc,new e c.fe,new i (c.fT i rfl),c.fe.1,(c.fT i rfl).1,q⟩
section
variable{X:Cx}{k:Nat}{f:Addr}{fd:FuncData}{ps:List Str}{sp:Sp}{dvs:List V}{ds:List Value}{x:Str}{p pos:Pos}{e:Expr}{es:List Expr}{t:TA}
def qG(X:Cx)(sp:Sp)(dvs:List V)(t:TA):TE:=λσ H Q=>t σ H λd g=>∃E:XK,sp (d++dvs) g Q E/\∀a s e C c T b,Thr X a σ b s e C c .none (some T)->E (.ref C) c b->X.xe (.ref e) s
def zd    (F:FnOk X.prog X.w X.K X.mg X.base (CXX X.prog X.w) k f fd ps sp)(i:Room k X.A)(o:Binds X.K fd ps ds)(j:Vals dvs ds)(n:∀a s e C c T b,Thr X a σ b s e C c .none (some T)->E (.ref C) c b->X.xe (.ref e) s)(I:Inv X a σ H s)(r:Vals vs us)(h:sp (vs++dvs) H Q E):wpAny (model X.prog X.w) X.A (call (.ref f) us) (EP X a σ Q) X.xe s:=by
 have g:=r.append j;have v:(us++ds).length=ps.length:=by rw[<-g.length];exact F.len _ _ _ _ h
 refine apt (apC (F.run _ _ s H _ _ _ Q E i trivial I.ajQ (o s us I.kIn v) g h) λr l d=>?_);cases r with|error e=>obtain⟨m,C,c,T,b,rfl,t,q⟩:=I.thrown d;exact n _ l m C c T b t q|ok fl=>cases fl with|ret u=>exact I.after d|next|brk|cont=>exact False.elim d
def pG(F:FnOk X.prog X.w X.K X.mg X.base (CXX X.prog X.w) k f fd ps sp)(g:Room k X.A)(v:Gl X x)(j:X.mg x=some (.ref f))(n:W.keepIn X.K (.ref f)=true)(u:Binds X.K fd ps ds)(i:Vals dvs ds)(l:PA X (e::es) t)(a:Dbg x:=by decide)(o:SE X e es:=by rfl)(b:BT X pos es:=by rfl):PE X (.Call (.Name x p) (e::es) [] pos) (qG X sp dvs t):=by intro c s σ H Q I h;exact ao2 (gg I v j (aqw I.ok.mod.kin n (thn (l _ _ s σ H _ I h) λz w⟨y,A,d,r,E,q,m⟩=>⟨d.kIn,zd F g u i m d r q⟩) o b) a)
end
section
variable{X:Cx}{t:TA}{x:Str}{C:Addr}{np cpos pos:Pos}{e:Expr}{es:List Expr}
noncomputable abbrev gF:List Value:=[.type "ValueError",.type "Exception",.type "BaseException",.type "object"]
def ag5(X:Cx)(C:Addr)(t:TA):TS:=λ_ σ H=>t σ H λb c=>b.length<=sizeLine/\∀a s e,Thr X a σ c s e C none .none none->X.xe (.ref e) s
def sG(K:W.Frag)(C:Addr)(r:Option Value):Prop:=∃c a f i bs d k sub n b dd h m j g l,K.lookup C=some (excClassObj f i C a bs c d k sub n b dd h m j g l "ValueError.__new__")/\(W.tailIn K gF c&&W.nsOkIn K a&&W.nsIn K a "__init__"==some r)=true
def sG.mk{K C r bm ns nm b bs a sn sub ab col dd k0 k1 k2 k3 k5}(h:K.lookup C=some (excClassObj nm b C ns bs bm a sn sub ab col dd k0 k1 k2 k3 k5 "ValueError.__new__"))(q:(W.tailIn K gF bm&&W.nsOkIn K ns&&W.nsIn K ns "__init__"==some r)=true):sG K C r:=⟨_,_,_,_,_,_,_,_,_,_,_,_,_,_,_,_,h,q⟩
def sG.out{K:W.Frag}{h:Heap}{r}{P:Prop}(X:K.In h)(q:sG K C r)(k:∀c b f j bs d m sub p a dd i o l g n,h.get? C=some (excClassObj f j C b bs c d m sub p a dd i o l g n "ValueError.__new__")->W.nsOkIn K b=true->W.nsIn K b "__init__"=some r->OwnTail h gF c->P):P:=by obtain⟨c,b,f,j,bs,d,m,sub,p,a,dd,i,o,l,g,n,s,q⟩:=q;simp only[an6,aoW]at q;exact k _ _ _ _ _ _ _ _ _ _ _ _ _ _ _ _ (X _ _ s) q.1.2 q.2 (W.tail_of_in X q.1.1)
set_option tactic.hygienic true
def ai5{K:W.Frag}{h:Heap}{d:Str->Option Value}(X:K.In h)(e:d x=some (.ref C))(q:sG K C none):OwnCls x C gF "ValueError.__new__" d h:=q.out X λn l i m bs f r sub u b dd k o p j s g a c t=>⟨e,n,l,i,m,bs,f,r,sub,u,b,dd,k,o,p,j,s,_,g,.of_isNs (W.isNs_of_in X a),W.nsMap_none_of_in X a c,t⟩
set_option tactic.hygienic false
def vo(K:X.calm=true)(J:Gl X x)(i:X.mg x=some (.ref C))(q:sG X.K C none)(p:PA X (e::es) t)(A:Dbg x:=by decide)(k:SE X e es:=by rfl)(a:BT X cpos es:=by rfl):PS X (.Raise (some (.Call (.Name x np) (e::es) [] cpos)) none pos) (ag5 X C t):=by
 intro b s σ H D I h;obtain⟨E,N,nm,r,bs,hdct,sn,sub,ab,col,dd,k0,k1,k2,k3,k5,mN,n,O,g,T⟩:=(ai5 (x:=x) I.mod.kin i q).obj;refine wpAny_Raise_call_subT (C:=C) (nm:=nm) (q:=r) (N:=N) (bs:=bs) (bm:=E) (hdct:=hdct) (sn:=sn) (sub:=sub) (ab:=ab) (col:=col) (dd:=dd) (k0:=k0) (k1:=k1) (k2:=k2) (k3:=k3) (k5:=k5) aoO (mN:=mN) (T.hasType aoO.hasBase) (I.ok.hd K) (by rw[k];show(false||(backTo cpos _).any (·.1))=false;rw[a];rfl) g (gg I J i ⟨rfl,?_⟩ A);have j:=p cpos b s σ H _ I h;rw[k]at j⊢;refine ap1 (thn j λY G⟨Q,l,c,y,w,M⟩=>⟨rfl,by rw[<-y.length];exact w,c.bk _ _ n,O.keeps c.bk,T.keeps c.bk,λP d f=>?_⟩);refine je f.there λS v U R=>?_;have B:l d=none:=by cases z:l d with|none=>rfl|some u=>obtain⟨o,m⟩:=i5 (c.hok d u z);rw[f.new]at m;cases m
 refine M b _ d ⟨c.kept (t':=G.toks) f.keeps,agH _ _ v rfl rfl rfl rfl rfl,c.fpX f.new B,λt z=>by cases z⟩
end
abbrev Cx.sui(X:Cx)(e:Addr):Cx:={X with A:=X.A.mark (some (.ref e)),calm:=false,xe:=λ_ _=>False}
def Cx.Ok.jh{X:Cx}{E a}(ok:(X.tri E a).Ok):X.Ok:=⟨ok.mod,ok.kind,ok.glob,ok.blt,ok.above,ok.inj,ok.has,ok.cab,ok.hd,ok.frames,ok.stk,ok.exf,ok.bs,ok.bsz,ok.noex,ok.exfs,ok.qr,ok.frf⟩
theorem Cx.Ok.sui{X:Cx}(ok:X.Ok)(e):(X.sui e).Ok:=⟨ok.mod,ok.kind,ok.glob,ok.blt,ok.above,ok.inj,ok.has,ok.cab,λz=>by grind,ok.frames,ok.stk,ok.exf,ok.bs,ok.bsz,ok.noex,ok.exfs,ok.qr,ok.frf⟩
section
variable{X:Cx}{pins pins':List (Addr×Obj)}{σ:St}{H:Hp}{s:Shared}{E:Value->Shared->Prop}
theorem Inv.jh(I:Inv (X.tri E (X.pn++pins)) pins' σ H s):Inv X pins σ H s:=⟨I.ok.jh,I.os,I.bare,I.base,I.loc,I.cell,I.free,I.freeC,λp a=>I.pin p (aob _ a),I.hok,I.len⟩
theorem Inv.sui(I:Inv X pins σ H s)(e):Inv (X.sui e) pins σ H s:=⟨I.ok.sui e,I.os,I.bare,I.base,I.loc,I.cell,I.free,I.freeC,I.pin,I.hok,I.len⟩
def Inv.back(I:Inv X pins σ H s){e}{a:St}{H' s'}(J:Inv (X.sui e) pins a H' s'):Inv X pins a H' s':=⟨I.ok,J.os,J.bare,J.base,J.loc,J.cell,J.free,J.freeC,J.pin,J.hok,J.len⟩
def FpX.jh{b}(h:FpX (X.tri E (X.pn++pins)) pins' H b):FpX X pins H b:=⟨h.1,h.2.1,h.2.2.1,h.2.2.2.1,h.2.2.2.2.1,λp a=>h.2.2.2.2.2 p (aob _ a)⟩
theorem Thr.jh{e C dx a T}(t:Thr (X.tri E (X.pn++pins)) pins' σ H s e C dx a T):Thr X pins σ H s e C dx a T:=⟨t.inv.jh,t.trc,t.fe.jh,λb c=>(t.fT b c).jh⟩
theorem SP.jh{D f s'}(h:SP (X.tri E (X.pn++pins)) pins' D f s'):SP X pins D f s':=by cases f with|next|brk|cont=>obtain⟨b,a,I,q⟩:=h;exact⟨_,a,I.jh,q⟩|ret u=>refine wu h λv b a I r q=>?_;exact aex v _ a I.jh r q
end
section
variable{X:Cx}{pins:List (Addr×Obj)}{σ:St}{H:Hp}{s:Shared}{e Ce C:Addr}{dx:Option Addr}{fl:Value}{T:Addr}{x n:Str}{np hpos:Pos}{b0:Stmt}{suite:List Stmt}{Q:Flow->Shared->Prop}{E:Value->Shared->Prop}
def Thr.ty(t:Thr X pins σ H s e Ce dx fl (some T)){M}:W.Looks M s.heap (typeOf (.ref e)) (.ref Ce):=by obtain⟨d,c,b,a,_,_⟩:=t.trc.there;exact a▸(W.Looks.ld b).andThen .now
def aau(t:Thr X pins σ H s e Ce dx fl (some T))(l:Gl X x)(i:X.mg x=some (.ref C))(d:W.exmOne X.K (.ref Ce) (.ref C)=some true)(k:∀a,Thr X pins σ H {s with heap:=a} e Ce dx .none (some T)->wpAny (model X.prog X.w) (X.A.mark (some (.ref e))) (storeName X.env n (.ref e)) (λ_ b=>wpAny (model X.prog X.w) (X.A.mark (some (.ref e))) (execs (b0::suite) X.env) (λf j=>wpAny (model X.prog X.w) X.A (do bindName X.env n .none;unbindBehindTheSuite X.env n hpos) (λ_ h=>Q f h) E j) (λ_ _=>False) b) (λ_ _=>False) {s with heap:=a})(g:Dbg x:=by decide):wpAny (model X.prog X.w) X.A (handleBy (.ref e) X.env [.ExceptHandler (some (.Name x np)) (some n) (b0::suite) hpos]) Q E s:=by refine wpAny_handleBy_cons (codeAny_handlers_test (gg (X:=X.sui e) (t.inv.sui e) l i ?_ g)) (by intro q;cases q);refine(W.exm_one t.inv.kIn t.ty d).here ?_;refine codeAny_handlers_suite_as (t.aaB λa c=>?_);exact an9 (k a c) (λ_ b q=>an9 q (λ_ _ z=>z) λ_ _ z=>z.elim) λ_ _ z=>z.elim
def vD{i:Nat}(I:Inv X pins σ H s)(hN:X.N.Nodup)(hi:X.N[i]?=some n)(hl:X.env.scope.names.lookup n=some .local){Q:Unit->Shared->Prop}(h:∀R,Inv X pins (σ.set i none) H R->Q () R){A:Around}:wpAny (model X.prog X.w) A (do bindName X.env n .none;unbindBehindTheSuite X.env n hpos) Q E s:=by
 obtain⟨m,U,N⟩:=id I.loc;have B:(X.env.scope.kind==.class||X.env.scope.kind==.module&&X.env.locals !=X.env.globals)=false:=by rw[I.ok.kind];rfl
 refine wpAny_nameGoes_keeps hl U B λh' v M a=>h _ ?_;obtain⟨oL,_,_,a0,_⟩:=id U;have J:∀b o,X.s₀.heap.get? b=some o->b≠X.env.locals:=λb o e=>anW (anN (anR e) I.ok.above);refine⟨I.ok,I.os,I.bare,⟨λb o e n O D=>(a.2 b (J b o e)).trans (I.base.keep b o e n O D),λb o e n O D=>?_,I.base.free,λb o e D=>?_,I.base.tups,I.base.frzs,I.base.tbls⟩,⟨_,M,λj y v' f g e3=>?_⟩,λy c e=>?_,I.free,I.freeC,λp hp=>?_,λb ob e=>?_,by simpa using I.len⟩;.obtain⟨Z,f⟩:=I.base.slot b o e n O D;exact⟨Z,(a.2 b (J b o e)).trans f⟩
 .obtain⟨o',f⟩:=I.base.there b o e D;exact⟨o',(a.2 b (J b o e)).trans f⟩
 .have w:i≠j:=λz=>by
   subst z;by_cases Y:i<σ.length;.rw[anH Y]at g;cases g
   .rw[apr (by simpa using Y)]at g;cases g
  rw[anF w]at g;obtain⟨u,r,l⟩:=N j y v' f g e3;refine⟨u,r,?_⟩;have hy:y≠n:=λz=>by subst z;exact w (pP hN hi f)
  rcases l with⟨k,l⟩|⟨k,c,S,z⟩;.exact .inl ⟨k,by show(if y=n then v else m y)=some u;rw[anK hy];exact l⟩
  .refine .inr ⟨k,c,S,?_⟩;obtain⟨o,P,K⟩:=z;exact⟨o,(a.2 c (I.cne y c S)).trans P,K⟩
 .obtain⟨v,o,P,K⟩:=I.cell y c e;exact⟨v,o,(a.2 c (I.cne y c e)).trans P,K⟩
 .obtain⟨e,n,t,nf,d⟩:=I.pin p hp;exact⟨(a.2 p.1 t).trans e,n,t,nf,d⟩
 .refine(I.hok b ob e).u6 (λc w' G q=>(a.2 c ?_).trans q) (λ_ q=>q) λ_ _ q=>q;rintro rfl;rcases G with rfl|G;.rw[I.free]at e;cases e
  .rw[I.free]at G;cases G
def excAt(a C:Addr)(dx:Option Addr)(h:Heap):Prop:=∃b c,h.get? a=some b/\b.cls=.ref C/\b.dict=dx/\b.data=.fields c/\c[2]?=some .none
def Thr.known(t:Thr X pins σ H s e Ce dx fl (some T)):Inv X pins σ (upd H e (.ext (excAt e Ce dx))) s:=by
 have I:=t.inv;have f:=t.fe;have g:∀b u,H b=some u->b≠e:=λb u q z=>by rw[z,f.1]at q;cases q
 have:=I.yY (h':=s.heap) (H':=upd H e (.ext (excAt e Ce dx))) (g':=s.gens) (d':=s.drawn) (t':=s.toks) (ch:=[e]) (λb d=>by rw[aoT.mp d];exact⟨f.2.2.2.1,f.2.1,f.2.2.2.2.1,f.2.2.2.2.2⟩) (λb o _ _ _ q _=>q) (λb o _ _ _ q _=>⟨o.slots,q⟩) (λb o d _ n=>by rw[aj λz=>d (by rw[z];exact an2)];exact n) (λb o _ q=>⟨o,q⟩) (λb y q=>by rw[aj (g b _ q)];exact q) (λb o u q=>by rw[aj (g b _ q)];exact q) (λb B q=>⟨#[],by rw[aj (g b _ q),q];simp⟩) (λm v=>v) (λb u q=>by
   by_cases d:b=e;.subst d;rw[aq]at q;cases q;obtain⟨p,i,h,l,A,w⟩:=t.trc.there;exact⟨⟨p,i,h,l,A,w⟩,⟨p,h⟩,λh l j k=>by obtain⟨o,i,a,r⟩:=j;exact⟨o,i,k o a,r⟩⟩
   .rw[aj d]at q;exact(I.hok b u q).u6 (λ_ _ _ z=>z) (λc z=>by rw[aj (g c _ z)];exact z) λc y z=>by rw[aj (g c _ z)];exact z) I.bare;exact this
end
end L2
namespace L2
open PySem PySem.Spec PyProof.Rows
open PySem.W(findIn mroIn findObj specialIn takesIn clsIn hasDictIn KitX looks_findIn looks_mroIn looks_find)
section
variable{prog:Program}{w:World}{A:Around}{E:Value->Shared->Prop}{s:Shared}{K:W.Frag}{x D:Addr}{ox:Obj}{od:Option Obj}{name:Str}
def aaI{nm:Value}{Q:Unit->Shared->Prop}(X:K.In s.heap)(I:W.InstAt s.heap x ox D od)(e:mroIn K D (.type "BaseException")=some true)(b:Q () s):wpAny (model prog w) A (checkBuiltinCall "BaseException.__getattribute__" ⟨[.ref x,nm],[]⟩) Q E s:=by
 have c:builtinKind "BaseException.__getattribute__"=some .slot:=by decide+kernel
 have a:splitId "BaseException.__getattribute__"=some ("BaseException","__getattribute__"):=by decide+kernel
 have h:=F.args_bexc_ga (.ref x) nm;have f:W.Looks (model prog w) s.heap (isInstance (.ref x) (.type "BaseException")) true:=I.type.andThen (looks_mroIn X e);obtain⟨i,g,d,t,os⟩:=s;simp only[checkBuiltinCall,c,a];refine anE (f.at ?_);repeat(first|wp_step)
 exact b
def aef{tk:Tok}{fill a:Bool}{Q:Value->Shared->Prop}(X:K.In s.heap)(I:W.InstAt s.heap x ox D od)(c:findIn K (.ref D) "__getattribute__"=some (some (.builtin "BaseException.__getattribute__")))(e:findIn K (.ref D) "__getattr__"=some none)(l:mroIn K D (.type "BaseException")=some true)(h:∀n,wpAny (model prog w) n (Builtin.«object.__getattribute__» ⟨[.ref x,.str name tk],[]⟩) (λfin i=>match fin with|.done (.ret v)=>wpAny (model prog w) A (handedOut v) Q E i|_=>False) (λ_ _=>False) s):wpAny (model prog w) A (getAttrBy (.ref x) (.str name tk) fill a) Q E s:=by
 have o:=I.type (M:=model prog w);have m:=looks_findIn (M:=model prog w) X c;have k:=looks_findIn (M:=model prog w) X e;have j:=F.excAttr_ValueError.ga.bind (.ref x);have b:(a&&onTheHeap (Value.builtin "BaseException.__getattribute__"))=false:=by cases a<;>rfl
 have f:(Value.builtin "BaseException.__getattribute__"==Value.builtin "object.__getattribute__")=false:=by decide+kernel
 obtain⟨p,g,d,t,os⟩:=s;unfold getAttrBy;refine aoN (anE (o.at (anE (m.at ?_))));dsimp only;rw[f,Bool.and_false,anK (by decide)];unfold getAttrByItsOwn hookBefore;rw[anL (show onTheHeap (Value.ref D)=true from rfl)];refine anE (k.at (anE (apy (aoN ?_))));unfold callGetattribute boundAndCalled;rw[b,anK (by decide),j];refine anE (anO (apt (ap2 F.excAttr_ValueError.ga.plain F.entry_bexc_ga (aaI X I l (an9 (h _) (λfin i z=>?_) λ_ _ z=>z.elim)))));rcases fin with(_|_|_|_)|_<;>first|exact z|exact z.elim
def nv{g a:Value}{tk:Tok}{P:Value->Shared->Prop}(X:K.In s.heap)(I:W.InstAt s.heap x ox D od)(c:findObj K D od name=some (.bind g a))(h:wpAny (model prog w) A (call g [a,.ref x,.ref D]) P E s):wpAny (model prog w) A (Builtin.«object.__getattribute__» ⟨[.ref x,.str name tk],[]⟩) (λfin b=>match fin with|.done (.ret v)=>P v b|_=>False) E s:=by have f:=I.type (M:=model prog w);have e:=looks_find (M:=model prog w) X I c;obtain⟨j,i,d,t,os⟩:=s;refine anE (anO (anE (anO (anE (f.at (anE (e.at ?_)))))));show wpAny _ _ (holding [a] (call g [a,.ref x,.ref D])>>=ret) _ _ _;exact anE (aoN (an9 h (λv b z=>anO z) λ_ _ z=>z))
def p8{v:Value}{tk:Tok}{P:Value->Shared->Prop}(X:K.In s.heap)(I:W.InstAt s.heap x ox D od)(c:findObj K D od name=some (.value v))(h:P v s):wpAny (model prog w) A (Builtin.«object.__getattribute__» ⟨[.ref x,.str name tk],[]⟩) (λfin a=>match fin with|.done (.ret v)=>P v a|_=>False) E s:=by have b:=I.type (M:=model prog w);have e:=looks_find (M:=model prog w) X I c;obtain⟨f,g,d,t,os⟩:=s;refine anE (anO (anE (anO (anE (b.at (anE (e.at ?_)))))));exact anO h
structure ExcK(K:W.Frag)(D:Addr):Prop where
 cls:(clsIn K D).isSome=true
 ga:findIn K (.ref D) "__getattribute__"=some (some (.builtin "BaseException.__getattribute__"))gn:findIn K (.ref D) "__getattr__"=some none
 mb:mroIn K D (.type "BaseException")=some true
 mo:mroIn K D (.type "object")=some true
 cl:findIn K (.ref D) "__class__"=some (some (.builtin "object.__class__"))hn:specialIn K (.builtin "object.__class__") "__get__"=some (some (.builtin "getset_descriptor.__get__"))tk:takesIn K (.builtin "object.__class__")=some true
def ExcK.findCls(k:ExcK K D):findObj K D od "__class__"=some (.bind (.builtin "getset_descriptor.__get__") (.builtin "object.__class__")):=by obtain⟨b,a⟩:=aoy.mp k.cls;unfold findObj;rw[a,apu,k.cl,apu];simp[k.hn,k.tk]
def aaH{Q:Option Value->Shared->Prop}(k:ExcK K D)(X:K.In s.heap)(I:W.InstAt s.heap x ox D od)(h:Q (some (.ref D)) {s with toks:=s.toks+1}):wpAny (model prog w) A (getAttr? (.ref x) "__class__") Q E s:=by unfold getAttr? getAttrBy?;refine anE (wpAny_mkText (anE (apy ?_)));refine aef (s:={s with toks:=s.toks+1}) X I k.ga k.gn k.mb λa=>?_;refine nv (s:={s with toks:=s.toks+1}) X I k.findCls ?_;refine apt (W.class_get (s:={s with toks:=s.toks+1}) (ox:=ox) (od:=od) X I k.mo ?_);exact anO (anO h)
def ac2{v:Value}{a:Bool}{Q:Value->Shared->Prop}(k:ExcK K D)(X:K.In s.heap)(I:W.InstAt s.heap x ox D od)(c:findObj K D od name=some (.value v))(b:W.handedIn v=true)(h:Q v {s with toks:=s.toks+1}):wpAny (model prog w) A (getAttr (.ref x) name a) Q E s:=by unfold getAttr;refine anE (wpAny_mkText ?_);refine aef (s:={s with toks:=s.toks+1}) X I k.ga k.gn k.mb λd=>?_;refine p8 (s:={s with toks:=s.toks+1}) X I c ?_;rw[W.handedOut_of b];exact anO h
def adp(x D:Addr)(h:Heap):Prop:=∃ox od,W.InstAt h x ox D od
set_option tactic.hygienic true
def acG(k:ExcK K D):KitX K (.ref x) (.ref D) (adp x D)where
 ty:=λ_ _ _ h0_=>by obtain⟨_,_,I⟩:=h0_;exact I.type
 it:=λ_ _ X _=>by
  obtain⟨cdD,hcD⟩:=aoy.mp k.cls;unfold clsIn at hcD;split at hcD;.rename_i c' d' cd' sl' ho;intro A' Q' E' s' k q;unfold isType loadHead;exact anE (ap9 (k _ _ (X _ _ ho)) (anO q))
  .cases hcD
 ne:=λh tp dd its n sl X htp=>by
  obtain⟨cdD,hcD⟩:=aoy.mp k.cls;refine Bool.eq_false_iff.mpr λq=>?_;have e:D=tp:=Value.ref.inj (aoW.mp q);subst e;unfold clsIn at hcD;split at hcD;.rename_i c' d' cd' sl' ho;have z:=(X _ _ ho).symm.trans htp;cases z
  .cases hcD
 ca:=λX h0_ q=>by obtain⟨_,_,I⟩:=h0_;exact aaH k X I q
set_option tactic.hygienic false
end
end L2
namespace L2
open PySem PySem.Spec PyProof.Rows
noncomputable abbrev gE(C:Addr)(dx:Option Addr)(a0:Value):Obj:={cls:=.ref C,dict:=dx,data:=.fields #[a0,.none,.none,.none,.bool false,.none]}
def kr(e C:Addr)(dx:Option Addr)(h:Heap):Prop:=∃a,h.get? e=some (gE C dx a)
section
variable{prog:Program}{w:World}{A:Around}{E:Value->Shared->Prop}{env:Env}
variable{nm q:Str}{C N:Addr}{bs bm bmB:List Value}{hdct:Bool}{sn:List Str}{sub:List Value}{ab:Bool}{col:Option Bool}{dd:Option Addr}{k0 k1 k2 k3 k5:Option Value}{B newId initId:String}
def nc{s x Q}(d:bm.contains (.type "BaseException")=true)(k:A.handled=none)(h:wpAny (model prog w) A x (λv a=>∃e g i,v=.ref e/\a.heap.get? C=some (excClassObj nm q C N bs bm hdct sn sub ab col dd k0 k1 k2 k3 k5 newId)/\a.heap.get? e=some (gE C g i)/\E (.ref e) a) E s):wpAny (model prog w) A (raiseStmt env (some x) none) Q E s:=by
 have f:(Value.ref C::bm).contains (.type "BaseException")=true:=by grind
 refine anE (an9 h (λv a b=>?_) λ_ _ x=>x);refine uO b λe g i c j m l=>?_;subst c;repeat(first |(with_reducible refine wpAny_isSubtype_exc j ?_;rw[f])|wp_step)
 exact wpAny_raiseNew_none k l
variable{h:Heap}{g:Array GenState}{d:Drawn}{t:Nat}{os:OsState}
def lD(F:ExcBaseFacts B newId initId bmB)(T:OwnTail h bmB bm){mN:Str->Option Value}{rest:List Value}{fI:Addr}{s:Obj}{Q:Fin->Shared->Prop}(j:h.get? C=some (excClassObj nm q C N bs bm hdct sn sub ab col dd k0 k1 k2 k3 k5 newId))(G:h.Ns N mN)(I:mN "__init__"=some (.ref fI))(m:h.get? fI=some s)(n:s.cls=.type "function")(u:∀h' e,Heap.MadeExcOf h h' e (.ref C) rest->wpAny (model prog w) A (call (.ref fI) (.ref e::rest)) (λr p=>r=.none/\Q (.done (.ret (.ref e))) p) E ⟨h',g,d,t,os⟩)(hrest:rest.length<=sizeLine:=by size_fits):wpAny (model prog w) A (Builtin.«type.__call__» ⟨.ref C::rest,[]⟩) Q E ⟨h,g,d,t,os⟩:=by
 repeat(first|with_reducible refine aqo j ?_|with_reducible refine wpAny_madeBy_exc j ?_|wp_step)
 refine codeAny_call_builtin_code (Code.quiet_builtin _ F.quiet) (wpAny_check_new_subT F T j ?_);refine codeAny_exc_new_subT F T j ?_ hrest;show wpAny _ _ _ _ _ _;have a:=anG {cls:=.ref C,data:=.fields #[.ref h.objs.size,.none,.none,.none,.bool false,.none]} (anG {cls:=.type "tuple",data:=.seq rest.toArray} j);have c:=anG {cls:=.ref C,data:=.fields #[.ref h.objs.size,.none,.none,.none,.bool false,.none]} (anG {cls:=.type "tuple",data:=.seq rest.toArray} m);have i:((h.push {cls:=.type "tuple",data:=.seq rest.toArray}).push {cls:=.ref C,data:=.fields #[.ref h.objs.size,.none,.none,.none,.bool false,.none]}).Ns N mN:=let⟨o,y,z,e,r⟩:=G;abp o y z (anG _ (anG _ e)) r;have f:((h.push {cls:=.type "tuple",data:=.seq rest.toArray}).push {cls:=.ref C,data:=.fields #[.ref h.objs.size,.none,.none,.none,.bool false,.none]}).get? (h.objs.size+1)=some {cls:=.ref C,data:=.fields #[.ref h.objs.size,.none,.none,.none,.bool false,.none]}:=by heap_get
 have l:(Value.ref C::bm).contains (.ref C)=true:=by simp
 have k:=T.keeps (h':=(h.push {cls:=.type "tuple",data:=.seq rest.toArray}).push {cls:=.ref C,data:=.fields #[.ref h.objs.size,.none,.none,.none,.bool false,.none]}) λb o e=>anG _ (anG _ e);unfold isInstance;repeat(first|with_reducible refine aqo f ?_|(with_reducible refine wpAny_isSubtype_exc a ?_;rw[l])|wp_step)
 show wpAny _ _ (typeLookup (.ref C) _) _ _ _;refine wpAny_typeLookup_tail a i k F.mroIs F.init.lookup ?_;rw[I];refine aoN (anE ?_);unfold bindSpecial;refine anE (wpAny_typeOf (T:="function") ⟨_,c,n⟩ ?_);rw[anL (by decide)];refine anO (anE (an9 (u _ (h.objs.size+1) ⟨λb o H=>anG _ (anG _ H),aoj (aqb _),h.objs.size,f,aoj (anP _),?_⟩) (λr p v=>?_) λ_ _ x=>x));.exact anG _ (Heap.get?_push_at rfl rfl)
 .obtain⟨rfl,D⟩:=v;wp_walk;exact D
def xU(F:ExcBaseFacts B newId initId bmB)(T:OwnTail h bmB bm){mN:Str->Option Value}{rest:List Value}{fI:Addr}{i:Obj}{Q:Value->Shared->Prop}(a:h.get? C=some (excClassObj nm q C N bs bm hdct sn sub ab col dd k0 k1 k2 k3 k5 newId))(m:h.Ns N mN)(n:mN "__init__"=some (.ref fI))(c:h.get? fI=some i)(f:i.cls=.type "function")(j:∀b e,Heap.MadeExcOf h b e (.ref C) rest->wpAny (model prog w) (A.under (.builtin "type.__call__" ⟨.ref C::rest,[]⟩)) (call (.ref fI) (.ref e::rest)) (λr k=>r=.none/\Q (.ref e) k) E ⟨b,g,d,t,os⟩)(hrest:rest.length<=sizeLine:=by size_fits):wpAny (model prog w) A (call (.ref C) rest) Q E ⟨h,g,d,t,os⟩:=by
 have p:=tc_lookup;have s:=tc_bind (.ref C);have o:(⟨h,g,d,t,os⟩:Shared).TypeIs (.ref C) "type":=⟨_,a,rfl⟩;refine apt (codeAny_of_tree ?_);show wpAny _ _ (callAny (.ref C) _) _ _ _;repeat(any_goals(first|assumption|with_reducible refine aqo a ?_|wp_step))
 refine⟨rfl,?_⟩;refine codeAny_call_builtin_at (Code.quiet_builtin _ (by decide+kernel)) entry_typeCall (wpAny_check_type_call_sub a (lD (hrest:=hrest) F T a m n c f λb e l=>?_));exact j b e l
end
end L2
namespace L2
open PySem PySem.Spec PyProof.Rows
open PySem.W(findIn mroIn findObj specialIn takesIn clsIn hasDictIn looks_findIn looks_mroIn looks_find InstAt)
def kJ(self):refuseLoop self "__setattr__" gF=pure ():=by kernel_rfl
structure ExcS(K:W.Frag)(C:Addr):Prop where
 k:ExcK K C
 m:∃cd,clsIn K C=some cd/\cd.hasDict=true/\(cd.mro=.ref C::gF\/∃D:Addr,cd.mro=.ref C::.ref D::gF)sa:findIn K (.ref C) "__setattr__"=some (some (.builtin "object.__setattr__"))
section
variable{prog:Program}{w:World}{A:Around}{E:Value->Shared->Prop}{s:Shared}{K:W.Frag}{x C:Addr}{ox:Obj}{od:Option Obj}{name:Str}{v:Value}{R:Result->Shared->Prop}
def zH{tk}(k:ExcS K C)(X:K.In s.heap)(I:InstAt s.heap x ox C od)(d:findIn K (.ref C) name=some none)(h:∀b,wpAny (model prog w) A.in1 (Builtin.ObjectAttr.storeInOwnDict (.ref x) (.ref C) (.str name tk) name v b) (λfin a=>match fin with|.done f=>R (.ok f) a|.again c'=>c'.quiet=true/\codeAny (model prog w) A c' R a) (λe a=>R (.error e) a) s):codeAny (model prog w) A (.call (.builtin "object.__setattr__") ⟨[.ref x,.str name tk,v],[]⟩) R s:=by
 have SF:=PySem.F.store_object;refine je k.m λc i _ j=>?_;refine ap2 SF.slot.plain SF.entry (@W.check_slot (model prog w) _ _ s "object.__setattr__" "object" "__setattr__" (.ref x) _ [] _ SF.kind SF.split (I.type.andThen (looks_mroIn X k.k.mo)) (SF.args (.ref x) _ v) ?_);have g:W.Looks (model prog w) s.heap (mroOf (.ref C)) c.mro:=(aqg X i).andThen .now;rw[W.osa_eq,refuse_eq];refine anE (anE (I.type.here (anE (g.here ?_))));rw[show refuseLoop (.ref x) "__setattr__" c.mro=pure ()from by
 rcases j with e|⟨D,e⟩;.rw[e,aqQ,kJ]
 .rw[e,aqQ,aqQ,kJ]];refine anO (anE (I.type.here (anE ((looks_findIn X d).here (anE (anO ?_))))));exact h _
def p7{a0 Q}(k:ExcS K C)(X:K.In s.heap)(a:s.heap.get? x=some (gE C none a0))(r:findIn K (.ref C) name=some none)(h:∀d,Heap.SameBut s.heap.objs.size ((s.heap.push W.emptyDict).update x λo:Obj=>{o with dict:=some s.heap.objs.size}) d->d.Ns1 s.heap.objs.size (λy=>if y=name then some v else none)->Q () {s with heap:=d,toks:=s.toks+2}):wpAny (model prog w) A (setAttr (.ref x) name v) Q E s:=by have I:InstAt s.heap x (gE C none a0) C none:=⟨a,rfl,rfl,True.intro⟩;refine W.set_plain X I k.sa (zH (s:={s with toks:=s.toks+1}) k X I r λb=>?_);refine je k.m λJ D p _=>?_;unfold Builtin.ObjectAttr.storeInOwnDict;refine anE (anO (anE (anE (ap9 a (anE (W.Looks.here (s:={s with toks:=s.toks+1}) (aqg X D) ?_))))));rw[p];rw[anK (by decide)];have f:=anG (h:=s.heap) W.emptyDict a;have hd1:(s.heap.push W.emptyDict).get? s.heap.objs.size=some W.emptyDict:=anT s.heap rfl;have z:s.heap.objs.size≠x:=aoc (anR a);refine anE (wpAny_alloc (anE (wpAny_update (o:=gE C none a0) f (anO ?_))));have j:∀b,b≠x->((s.heap.push W.emptyDict).update x λo:Obj=>{o with dict:=some s.heap.objs.size}).get? b=(s.heap.push W.emptyDict).get? b:=λb B=>aok _ _ (anY B);have n:=(j _ z).trans hd1;have q:((s.heap.push W.emptyDict).update x λo:Obj=>{o with dict:=some s.heap.objs.size}).Ns s.heap.objs.size λ_=>none:=qt W.emptyDict #[] _ n rfl (λe a=>absurd a (by simp)) λ_=>rfl;unfold Builtin.ObjectAttr.storeInDict;refine anE (anO (anE ?_));refine wpAny_nsSet1 (aqm q) λd c i=>?_;refine wu (c.count (ns:=[name]) (aql name v λy t=>absurd rfl t)) λH G u l m g=>?_;refine anE (aqu l (by rw[m];exact aqv (anQ g (by rw[anV,aqL,apP];omega))) ?_);exact anO (h _ i c)
def rX{a0 d g ns Q}(k:ExcS K C)(X:K.In s.heap)(p:s.heap.get? x=some (gE C (some d) a0))(o:s.heap.Ns1 d g)(u:findIn K (.ref C) name=some none)(hw:PySem.Within g ns)(hz:ns.length<=100)(h:∀f,Heap.SameBut d s.heap f->f.Ns1 d (λy=>if y=name then some v else g y)->Q () {s with heap:=f,toks:=s.toks+2}):wpAny (model prog w) A (setAttr (.ref x) name v) Q E s:=by refine wy (id o) λm q r e _=>?_;have I:InstAt s.heap x (gE C (some d) a0) C (some m):=⟨p,rfl,rfl,e⟩;refine W.set_plain X I k.sa (zH k X I u λb=>?_);refine je k.m λH B t _=>?_;unfold Builtin.ObjectAttr.storeInOwnDict;refine anE (anO (anE (anE (ap9 p (anE (W.Looks.here (s:={s with toks:=s.toks+1}) (aqg X B) ?_))))));rw[t,anK (by decide)];refine anO (a:=some d) ?_;unfold Builtin.ObjectAttr.storeInDict;refine anE (anO (anE ?_));refine wpAny_nsSet1 o λf c n=>?_;refine wu (c.count (aql name v hw)) λG D z j l i=>?_;refine anE (aqu j (by rw[l];exact aqv (anQ i (by rw[anV,apP];omega))) ?_);exact anO (h _ n c)
end
end L2
namespace L2
open PySem PySem.Spec PyProof.Rows
section
variable{prog:Program}{w:World}{A:Around}{E:Value->Shared->Prop}{h:Heap}{g:Array GenState}{d:Drawn}{t:Nat}{os:OsState}
variable{nm q:Str}{C N:Addr}{bs bm bmB:List Value}{hdct:Bool}{sn:List Str}{sub:List Value}{ab:Bool}{col:Option Bool}{dd:Option Addr}{k0 k1 k2 k3 k5:Option Value}{B newId initId:String}
def abk(F:ExcBaseFacts B newId initId bmB)(T:OwnTail h bmB bm){e:Addr}{dx:Option Addr}{a0:Value}{rest:List Value}{Q:Value->Shared->Prop}(l:h.get? C=some (excClassObj nm q C N bs bm hdct sn sub ab col dd k0 k1 k2 k3 k5 newId))(k:h.get? e=some (gE C dx a0))(hrest:rest.length<=sizeLine)(f:∀j n,(∀b o,b≠e->h.get? b=some o->j.get? b=some o)->j.get? e=some (gE C dx n)->Q .none ⟨j,g,d,t,os⟩):wpAny (model prog w) A (call (.builtin initId) (.ref e::rest)) Q E ⟨h,g,d,t,os⟩:=by
 refine apt (ap2 F.init.plain F.initEntry (wpAny_check_init_subT F T l k rfl ?_));wp_walk;have i:=anG (h:=h) {cls:=.type "tuple",data:=.seq rest.toArray} k;have fin:∀c:Shared,c=⟨(h.push {cls:=.type "tuple",data:=.seq rest.toArray}).update e (Obj.mapFields λx=>x.setIfInBounds 0 (Value.ref h.objs.size)),g,d,t,os⟩->Q .none c:=λc z=>by
  subst z;refine f _ (.ref h.objs.size) (λb o m f=>?_) ?_;.rw[aok _ _ (anY m)];exact anG _ f
  .rw[aoS _ i rfl];rfl
 have go:∀v:Value,wpAny (model prog w) A.in1 (match v with|.ref a=>letGo [v]|x=>pure ()) (λ_ c=>c=⟨(h.push {cls:=.type "tuple",data:=.seq rest.toArray}).update e (Obj.mapFields λx=>x.setIfInBounds 0 (Value.ref h.objs.size)),g,d,t,os⟩) (λ_ _=>False) ⟨(h.push {cls:=.type "tuple",data:=.seq rest.toArray}).update e (Obj.mapFields λx=>x.setIfInBounds 0 (Value.ref h.objs.size)),g,d,t,os⟩:=λv=>by cases v<;>first|exact anO rfl|(wp_walk;rfl)
 refine an9 (go _) (λ_ c z=>anO (fin c z)) λ_ _ z=>z.elim
end
end L2
namespace L2
open PySem PySem.Spec PyProof.Rows
open PySem.W(findIn InstAt)
def fv(d:Addr)(fs:List (Str×V))(h:Heap):Prop:=∃a,h.Ns1 d a/\(∀f,sN (fs.lookup f) (a f))/\PySem.Within a (fs.map (·.1))
def ad0{P w H h e C dx a0}(b:h.get? e=some (gE C dx a0)):dD P w H h e (.ext (kr e C dx)):=⟨⟨a0,b⟩,⟨_,b⟩,λ_ _⟨a,q⟩k=>⟨a,k _ q⟩⟩
def tX{P w H h d fs}(a:fv d fs h):dD P w H h d (.ext (fv d fs)):=by
 refine⟨a,?_,λm l⟨b,i,r,f⟩k=>⟨b,?_,r,f⟩⟩;.obtain⟨b,⟨o,_,_,e,_⟩,_⟩:=a;exact⟨o,e⟩
 .refine wy i λo g j e c=>?_;exact abp o g j (k _ e) c
section
variable{X:Cx}{pins:List (Addr×Obj)}{σ:St}{H:Hp}{s:Shared}{e C:Addr}{f:Str}{A:Around}{E:Value->Shared->Prop}
def vV(I:Inv X pins σ H s){dx}(q:H e=some (.ext (kr e C dx))):∃a,s.heap.get? e=some (gE C dx a):=(I.hok e _ q).1
def wA{y u Q}(k:ExcS X.K C)(I:Inv X pins σ H s)(q:H e=some (.ext (kr e C none)))(M:findIn X.K (.ref C) f=some none)(P:RelV y u)(h:∀d G,H d=none->d≠e->Inv X pins σ (upd (upd H d (.ext (fv d [(f,y)]))) e (.ext (kr e C (some d)))) G->Q () G):wpAny (model X.prog X.w) A (setAttr (.ref e) f u) Q E s:=by
 obtain⟨a0,c⟩:=vV I q;refine p7 k I.kIn c M λh' B l=>h s.heap.objs.size _ (I.hok.fresh (anP _)) (aoc (anR c)) ?_;have p:=aoc (anR c);have v:=anG (h:=s.heap) W.emptyDict c;have hd1:(s.heap.push W.emptyDict).get? s.heap.objs.size=some W.emptyDict:=anT s.heap rfl;have O:(s.heap.push W.emptyDict).Ns s.heap.objs.size λ_=>none:=qt W.emptyDict #[] _ hd1 rfl (λe c=>absurd c (by simp)) λ_=>rfl;have T:=I.laid (a:=s.heap.objs.size) (o:=.ext (fv s.heap.objs.size [])) (h':=s.heap.push W.emptyDict) (t':=s.toks) (λb u q=>anG _ q) (anP _) (tX ⟨_,aqm O,λ_=>True.intro,λy N=>absurd rfl N⟩);have j:=aoS (h:=s.heap.push W.emptyDict) (λo:Obj=>{o with dict:=some s.heap.objs.size}) v rfl;have w:∀b,b≠e->((s.heap.push W.emptyDict).update e λo:Obj=>{o with dict:=some s.heap.objs.size}).get? b=(s.heap.push W.emptyDict).get? b:=λb m=>aok _ _ (anY m);have J:upd H s.heap.objs.size (.ext (fv s.heap.objs.size [])) e=some (.ext (kr e C none)):=by rw[aj (anY p)];exact q
 have R:=T.write (x:=e) (e:=e) (o:=.ext (kr e C (some s.heap.objs.size))) (t':=s.toks) (by rw[J];exact True.intro) (.inl rfl) (λb u m q=>(w b m).trans q) ⟨_,j⟩ (ad0 (a0:=a0) j);have r:∃o,h'.get? s.heap.objs.size=some o:=let⟨o,_,_,K,_⟩:=l;⟨o,K⟩;have D:=R.write (x:=s.heap.objs.size) (e:=s.heap.objs.size) (o:=.ext (fv s.heap.objs.size [(f,y)])) (h':=h') (t':=s.toks+2) (by rw[aj p,aq];exact True.intro) (.inl rfl) (λb u m q=>(B.2 b m).trans q) r (tX ⟨_,l,λg=>by
 by_cases z:g=f;.rw[anL z,z];simp only[List.lookup,beq_self_eq_true];exact P
 .rw[anK z,show([(f,y)]:List (Str×V)).lookup g=none from by simp[List.lookup,aox.mpr z]];exact True.intro,λg S=>by
  by_cases z:g=f;.rw[z];exact an2
  .exact absurd (anK z) S⟩);have t:upd (upd (upd H s.heap.objs.size (.ext (fv s.heap.objs.size []))) e (.ext (kr e C (some s.heap.objs.size)))) s.heap.objs.size (.ext (fv s.heap.objs.size [(f,y)]))=upd (upd H s.heap.objs.size (.ext (fv s.heap.objs.size [(f,y)]))) e (.ext (kr e C (some s.heap.objs.size))):=by
  funext b;unfold upd;by_cases i:b=s.heap.objs.size;.rw[anL i,anK (by rw[i];exact p),anL i]
  .rw[anK i];by_cases n:b=e;.rw[anL n,anL n]
   .rw[anK n,anK n,anK i,anK i]
 rw[t]at D;exact D
def yc{y u d fs Q}(k:ExcS X.K C)(I:Inv X pins σ H s)(q:H e=some (.ext (kr e C (some d))))(p:H d=some (.ext (fv d fs)))(N:d≠e)(x:findIn X.K (.ref C) f=some none)(D:RelV y u)(O:fs.length<=50)(w:fs.lookup f=none)(h:∀m,Inv X pins σ (upd H d (.ext (fv d (fs++[(f,y)])))) m->Q () m):wpAny (model X.prog X.w) A (setAttr (.ref e) f u) Q E s:=by
 obtain⟨R,B⟩:=vV I q;refine je (I.hok d _ p).1 λP M r n=>?_;refine rX k I.kIn B M x n (by rw[an0];omega) λK l a=>h _ ?_;have j:∃o,K.get? d=some o:=let⟨o,_,_,c,_⟩:=a;⟨o,c⟩;refine I.write (by rw[p];exact True.intro) (.inl rfl) (λb u G q=>(l.2 b G).trans q) j (tX ⟨_,a,λg=>?_,λg J=>?_⟩)
 .have t:(fs++[(f,y)]).lookup g=match fs.lookup g with|some v=>some v|none=>([(f,y)]:List (Str×V)).lookup g:=by grind
  rw[t];by_cases z:g=f;.rw[anL z,z,w];simp only[List.lookup,beq_self_eq_true];exact D
  .have i:=r g;rw[anK z];cases c:fs.lookup g with|some v=>rw[c]at i;exact i|none=>rw[c]at i;rw[show[(f,y)].lookup g=none from by simp[List.lookup,aox.mpr z]];exact i
 .rw[apA];by_cases z:g=f;.rw[z];exact anZ _ an2
  .exact aob _ (n g λy=>J (by grind))
end
section
variable{X:Cx}{e:Expr}{es:List Expr}{pos:Pos}{ta:TE}{ts:List TE}
def amu(ta:TE):TE:=λσ H Q=>ta σ H λx a=>(∃i:Int,x=.int i/\i.natAbs.log2<1920/\Q (.str (toString i)) a)\/∃y:Str,x=.str y/\y.length<=sizeLine/\Q (.str y) a
def vt(g:PE X e ta):PE X (.FormattedValue e (-1) none pos) (amu ta):=by
 intro a s σ H Q I h;refine PyProof.Rows.FormattedValue_plain (thn (g a s σ H _ I h) λu l b=>?_);refine gH b λx d f c q=>?_;rcases q with⟨i,rfl,j,q⟩|⟨y,rfl,k,q⟩;.obtain⟨t,rfl⟩:=c;exact PyProof.Rows.formatField_int_small j (jd (.str _) d (f.tok _) ⟨_,rfl⟩ q)
 .obtain⟨t,rfl⟩:=c;exact aoz (λm tk=>jd (.str y) d (f.tok tk) ⟨_,rfl⟩ q) k
def tJ:List TE->Str->TE|[],acc=>λσ H Q=>acc.length<=sizeLine/\Q (.str acc) H|t::ts,acc=>λσ H Q=>t σ H λx a=>∃y:Str,x=.str y/\(acc++y).length<=sizeLine/\tJ ts (acc++y) σ a Q
theorem ou:∀{es ts},Paired (PE X) es ts->∀b a s(σ:St)H Q,Inv X a σ H s->tJ ts b σ H Q->wpAny (model X.prog X.w) X.A (joinParts b (es.map λe=>eval e X.env)) (EP X a σ Q) X.xe s|[],[],_,b,a,s,σ,H,Q,I,h=>PyProof.Rows.joinParts_nil (jd (.str _) H (I.tok _) ⟨_,rfl⟩ h.2) h.1|e::es,t::ts,.cons p ps,b,a,s,σ,H,Q,I,h=>by refine PyProof.Rows.joinParts_cons (thn (p _ s σ H _ I h) λu j c=>?_);obtain⟨x,g,i,d,y,ex,f,q⟩:=c;subst ex;obtain⟨t,rfl⟩:=d;exact⟨f,ou ps _ _ _ σ g Q i q⟩
def tI{a c es}(f:Paired (PE X) (a::c::es) ts)(d:evalEach es X.env=es.map λe=>eval e X.env:=by rfl):PE X (.JoinedStr (a::c::es) pos) (tJ ts Str.empty):=by intro b s σ H Q I h;refine PyProof.Rows.JoinedStr_many ?_;rw[d];exact ou f _ _ s σ H Q I h
end
set_option tactic.hygienic true
def xi{K h N a n v}(X:K.In h)(G:h.Ns N a)(e:W.nsIn K N n=some (some v)):a n=some v:=by
 refine uO G λo l m j b _ f=>?_;unfold W.nsIn at e;split at e
 .rename_i c d g p k q;have:=X _ _ q;rw[j]at this;cases this;cases b;split at e;.rename_i r i;cases e;rw[<-f];unfold nsFind findBy;rw[<-aqc,i];rfl
  .split at e<;>cases e
 .cases e
set_option tactic.hygienic false
def anx(h:Heap)(C fI:Addr):Prop:=∃(c:List Value)(N:Addr)(e i:Str)(bs:List Value)(d:Bool)(k:List Str)(sub:List Value)(n:Bool)(a:Option Bool)(dd:Option Addr)(g m j f l:Option Value)(b:Str->Option Value),h.get? C=some (excClassObj e i C N bs c d k sub n a dd g m j f l "ValueError.__new__")/\h.Ns N b/\b "__init__"=some (.ref fI)/\OwnTail h gF c
set_option tactic.hygienic true
def aa9{K:W.Frag}{h:Heap}{C fI:Addr}(X:K.In h)(q:sG K C (some (.ref fI))):anx h C fI:=q.out X λl j e k bs d o sub r b dd i m n f p g a c t=>⟨l,j,e,k,bs,d,o,sub,r,b,dd,i,m,n,f,p,_,g,.of_isNs (W.isNs_of_in X a),xi X (.of_isNs (W.isNs_of_in X a)) c,t⟩
set_option tactic.hygienic false
section
variable{X:Cx}{e:Expr}{es:List Expr}{x:Str}{np apos pos:Pos}{t:TA}{C D fI:Addr}
def yW(C:Addr)(t:TA):TE:=λσ H Q=>t σ H λb a=>∃ex c rest,b=.ref ex::rest/\rest.length<=100/\a ex=some (.ext (kr ex C c))/\Q .non a
def vv{pl}(hg:Gl X x)(G:X.mg x=some (.ref D))(U:W.readsIn X.K D (.type "type")=true)(hf:W.findCls X.K (.ref D) (.type "type") "__init__"=some (.val (.builtin "ValueError.__init__")))(hs:W.specialIn X.K (.ref D) "__getattribute__"=some (some (.builtin "type.__getattribute__")))(hC:sG X.K C (some (.ref fI)))(K:PA X (e::es) t)(m:Dbg x:=by decide)(n:SE X e es:=by rfl)(p:BT X pos es:=by rfl)(ht:eval (.Call (.Attribute (.Name x np) "__init__" apos) (e::es) [] pos) X.env=(do
  let E <-eval (.Name x np) X.env
  standAt apos.atName let(f,first)<-holding [E] (getMethod E "__init__" pl)callWith pos f first (backTo pos (starEach (e::es) X.env)) (backToKw pos (keywordEach [] X.env))):=by rfl):PE X (.Call (.Attribute (.Name x np) "__init__" apos) (e::es) [] pos) (yW C t):=by
 intro j s σ H Q I h;refine W.methodCall_KW (pl:=pl) (gg I hg G ?_ m) ht;refine W.method_cls I.kIn hs (W.cls_value I.kIn U hf rfl ?_);have O:=I.tok (s.toks+1);refine apZ (thn (K pos j _ σ H _ O h) λus s1 y=>?_) n p;obtain⟨vs,v,A,r1,ex,B,rest,R,S,r,q1⟩:=y;subst R;obtain⟨l,c,rfl,ru,P⟩:∃l c,us=l::c/\RelV (.ref ex) l/\Vals rest c:=by cases r1 with|cons a b=>exact⟨_,_,rfl,a,b⟩
 cases show l=Value.ref ex from ru;obtain⟨a0,Z⟩:=vV A r;obtain⟨bm,N,nm,qn,bs,hd,sn,sub,ab,M,dd,k0,k1,k2,k3,k5,mN,w,hN,_,T⟩:=aa9 A.kIn hC;have i:c.length<=sizeLine:=by rw[<-P.length];exact anQ S (by decide)
 obtain⟨hh,g,d,tk,os⟩:=s1;refine abk aoO T w Z i λh' a1 hk k=>⟨.non,v,?_,rfl,q1⟩;have J:=A.write (x:=ex) (e:=ex) (o:=.ext (kr ex C B)) (h':=h') (t':=tk) (by rw[r];exact True.intro) (.inl rfl) (λb u hb q=>hk b u hb q) ⟨_,k⟩ (ad0 k);have Y:upd v ex (.ext (kr ex C B))=v:=by
  funext b;by_cases z:b=ex;.rw[z,aq,r]
  .rw[aj z]
 rw[Y]at J;exact J
end
end L2
set_option autoImplicit true
set_option relaxedAutoImplicit true
namespace L2
open PySem PySem.Spec PyProof.Rows
open PySem.W(findIn InstAt)
section
variable{prog:Program}{w:World}{A:Around}{E:Value->Shared->Prop}{s:Shared}{env:Env}
variable{nm q:Str}{C N:Addr}{bs bm bmB:List Value}{hdct:Bool}{sn:List Str}{sub:List Value}{ab:Bool}{col:Option Bool}{dd:Option Addr}{k0 k1 k2 k3 k5:Option Value}{B newId initId:String}
def sE(F:ExcBaseFacts B newId initId bmB){mN fI x M i pos c Q}(l:bm.contains (.type "BaseException")=true)(X:A.handled=none)(j:(backTo i (starEach c env)).any (·.1)=false)(hi:mN "__init__"=some (.ref fI))(h:wpAny (model prog w) A (eval (.Name x M) env) (λf k=>f=.ref C/\wpAny (model prog w) A (evalArgs (.ref C) true (backTo i (starEach c env)) []) (λa b=>a.kw=[]/\a.pos.length<=sizeLine/\b.heap.get? C=some (excClassObj nm q C N bs bm hdct sn sub ab col dd k0 k1 k2 k3 k5 newId)/\b.heap.Ns N mN/\OwnTail b.heap bmB bm/\(∃I,b.heap.get? fI=some I/\I.cls=.type "function")/\∀p e,Heap.MadeExcOf b.heap p e (.ref C) a.pos->wpAny (model prog w) (A.under (.builtin "type.__call__" ⟨.ref C::a.pos,[]⟩)) (call (.ref fI) (.ref e::a.pos)) (λr o=>r=.none/\o.heap.get? C=some (excClassObj nm q C N bs bm hdct sn sub ab col dd k0 k1 k2 k3 k5 newId)/\∃u H,o.heap.get? e=some (gE C u H)/\E (.ref e) o) E {b with heap:=p}) E k) E s):wpAny (model prog w) A (exec (.Raise (some (.Call (.Name x M) c [] i)) none pos) env) Q E s:=by rw[arm_exec_Raise];refine anE (apj (nc (C:=C) (nm:=nm) (q:=q) (N:=N) (bs:=bs) (bm:=bm) (hdct:=hdct) (sn:=sn) (sub:=sub) (ab:=ab) (col:=col) (dd:=dd) (k0:=k0) (k1:=k1) (k2:=k2) (k3:=k3) (k5:=k5) (newId:=newId) l X (anE (an9 (wpAny_Call_ofName (an9 h (λf k d=>?_) λ_ _ x=>x)) (λv P m=>anE (apj (anO m))) λ_ _ x=>x))));obtain⟨rfl,d⟩:=d;refine anE (aoN (an9 d (λa b g=>anE (apj ?_)) λ_ _ x=>x));obtain⟨K,t⟩:=a;obtain⟨D,n,J,U,T,⟨I,G,y⟩,g⟩:=g;obtain rfl:t=[]:=D;simp only[j];refine anE (wpAny_keeperOf_exc J ?_);refine anE (xU (hrest:=n) F T J U hi G y λp e R=>an9 (g p e R) (λr o O=>⟨O.1,anE (aoN (wpAny_point (anO ?_)))⟩) λ_ _ z=>z);obtain⟨_,Z,u,H,S,Y⟩:=O;exact qt e u H rfl Z S Y
end
section
variable{X:Cx}{o value:Expr}{f:Str}{pos pos':Pos}{ta tv:TE}{C:Addr}
def sX1(C:Addr)(ta tv:TE)(f:Str):TS:=λD σ H=>tv σ H λy b=>ta σ b λx a=>∃e,x=.ref e/\a e=some (.ext (kr e C none))/\∀d,a d=none->d≠e->D.nx σ (upd (upd a d (.ext (fv d [(f,y)]))) e (.ext (kr e C (some d))))
def sX2(C:Addr)(ta tv:TE)(f:Str):TS:=λD σ H=>tv σ H λy b=>ta σ b λx a=>∃e d fs,x=.ref e/\a e=some (.ext (kr e C (some d)))/\a d=some (.ext (fv d fs))/\d≠e/\fs.length<=50/\fs.lookup f=none/\D.nx σ (upd a d (.ext (fv d (fs++[(f,y)]))))
def ahp(k:ExcS X.K C)(l:findIn X.K (.ref C) f=some none)(i:PE X o ta)(p:PE X value tv)(hs:swapsWith value (some (.Attribute o f pos')) pos.line X.env=pure false):PS X (.Assign [.Attribute o f pos'] value pos) (sX1 C ta tv f):=by intro b s σ H D I h;refine apg (thn (p _ s σ H _ I h) λu z⟨y,J,w,m,q⟩=>thn (i _ _ σ _ _ w q) λB A a=>?_) hs;obtain⟨x,G,n,r,e,ex,j,v⟩:=a;subst ex;obtain rfl:=r;exact wA k n j l m λd E c t g=>⟨σ,_,g,v d c t⟩
def akN(k:ExcS X.K C)(l:findIn X.K (.ref C) f=some none)(g:PE X o ta)(m:PE X value tv)(hs:swapsWith value (some (.Attribute o f pos')) pos.line X.env=pure false):PS X (.Assign [.Attribute o f pos'] value pos) (sX2 C ta tv f):=by intro b s σ H D I h;refine apg (thn (m _ s σ H _ I h) λu B⟨y,M,A,t,q⟩=>thn (g _ _ σ _ _ A q) λG E a=>?_) hs;obtain⟨x,K,v,w,e,d,fs,ex,i,p,n,r,j,z⟩:=a;subst ex;obtain rfl:=w;exact yc k v i p n l t r j λJ c=>⟨σ,_,c,z⟩
end
noncomputable def del(H:Hp)(e:Addr):Hp:=λb=>if b=e then none else H b
section
variable{X:Cx}{pins:List (Addr×Obj)}{σ:St}{H:Hp}{s:Shared}{e C d:Addr}{fs:List (Str×V)}
def Inv.aeL{φ}(I:Inv X pins σ H s)(q:H e=some (.ext φ)):Inv X pins σ (del H e) s:=by
 have none_of:∀{b},H b=none->del H e b=none:=λ{b}h=>by unfold del;split<;>first|rfl|exact h
 have keep:∀{b o},H b=some o->(∀m,o≠.ext m)->del H e b=some o:=λ{b o}h n=>by unfold del;rw[anK λz=>by grind];exact h
 refine⟨I.ok,I.os,I.bare,⟨I.base.keep,I.base.slot,λb o g f i=>none_of (I.base.free b o g f i),I.base.there,λb j h=>keep (I.base.tups b j h) (λ_ z=>by cases z),λb o u h=>keep (I.base.frzs b o u h) (λ_ z=>by cases z),λb r h=>?_⟩,I.loc,I.cell,none_of I.free,λx c h=>none_of (I.freeC x c h),λp k=>?_,λb u h=>?_,I.len⟩;.obtain⟨a,t⟩:=I.base.tbls b r h;exact⟨a,keep t λ_ z=>by cases z⟩
 .refine aeq (I.pin p k) λg f i=>?_;exact⟨g,none_of f,i⟩
 .have l:=by
   unfold del at h;split at h;.cases h
   .exact h
  exact(I.hok b u l).u6 (λ_ _ _ z=>z) (λc z=>keep z λ_ y=>by cases y) λc j z=>keep z λ_ y=>by cases y
def Inv.agZ (I:Inv X pins σ H s)(f:FpX X pins H e)(new:φ s.heap/\(∃o,s.heap.get? e=some o)/\∀i h,φ i->(∀o,i.get? e=some o->h.get? e=some o)->φ h):Inv X pins σ (upd H e (.ext φ)) s:=by
 have g:∀b u,H b=some u->b≠e:=λb u q z=>by rw[z,f.1]at q;cases q
 have:=I.yY (H':=upd H e (.ext φ)) (d':=s.drawn) (t':=s.toks) (λb a=>by rw[aoT.mp a];exact⟨f.2.2.2.1,f.2.1,f.2.2.2.2.1,f.2.2.2.2.2⟩) (λb o _ _ _ q _=>q) (λb o _ _ _ q _=>⟨o.slots,q⟩) (λb o a _ n=>by rw[aj λz=>a (by grind)];exact n) (λb o _ q=>⟨o,q⟩) (λb k q=>by rw[aj (g b _ q)];exact q) (λb o u q=>by rw[aj (g b _ q)];exact q) (λb l q=>⟨#[],by rw[aj (g b _ q),q];simp⟩) (λm j=>j) (λb u q=>by
   by_cases a:b=e;.subst a;rw[aq]at q;cases q;exact new
   .rw[aj a]at q;exact(I.hok b u q).u6 (λ_ _ _ z=>z) (λc z=>by rw[aj (g c _ z)];exact z) λc k z=>by rw[aj (g c _ z)];exact z) I.bare;exact this
theorem Inv.xd(I:Inv X pins σ H s)(q:H d=some (.ext (fv d fs))):Inv X pins σ (upd H d (.xd fs)) s:=by obtain⟨c,a,r,g⟩:=(I.hok d _ q).1;have b:∃u,s.heap.get? d=some u:=let⟨o,_,_,f,_⟩:=a;⟨o,f⟩;exact I.write (by rw[q];exact True.intro) (.inl rfl) (λ_ _ _ z=>z) b ⟨c,a,r⟩
end
def spI(C:Addr)(a:List Str):Sp:=λb H Q _=>∃e ws,b=.ref e::ws/\ws.length=a.length/\H e=some (.ext (kr e C none))/\(∀w∈ws,∃i:Int,w=.int i/\i.natAbs.log2<100)/\∀d,H d=none->d≠e->Q .non (upd (upd H d (.ext (fv d (a.zip ws)))) e (.ext (kr e C (some d))))
section
variable{X:Cx}{t:TA}{x:Str}{C fI:Addr}{fd:FuncData}{ps fl:List Str}{k:Nat}{np cpos pos:Pos}{e:Expr}{es:List Expr}
def aeO(X:Cx)(C:Addr)(fl:List Str)(t:TA):TS:=λ_ σ H=>t σ H λb c=>b.length=fl.length/\(∀w∈b,∃i:Int,w=.int i/\i.natAbs.log2<100)/\fl.length<=50/\∀a s e d,c d=none->d≠e->Thr X a σ (upd c d (.xd (fl.zip b))) s e C (some d) .none none->X.xe (.ref e) s
def zr(hc:X.calm=true)(hg:Gl X x)(hm:X.mg x=some (.ref C))(q:sG X.K C (some (.ref fI)))(S:W.typeIn X.K (.ref fI)=some (.type "function"))(F:FnOk X.prog X.w X.K X.mg X.base CX0 k fI fd ps (spI C fl))(hr:Room (k+1) X.A)(hb:Binds X.K fd ps [])(ha:PA X (e::es) t)(hd:Dbg x:=by decide)(he:SE X e es:=by rfl)(i:BT X cpos es:=by rfl):PS X (.Raise (some (.Call (.Name x np) (e::es) [] cpos)) none pos) (aeO X C fl t):=by
 intro f s σ H D I h;obtain⟨bm,N,nm,qn,bs,hdct,sn,sub,ab,col,dd,k0,k1,k2,k3,k5,mN,hC,hN,hi,T⟩:=aa9 I.mod.kin q;refine fy (aol.mp S) λoI Y O=>?_;refine sE (C:=C) (nm:=nm) (q:=qn) (N:=N) (bs:=bs) (bm:=bm) (hdct:=hdct) (sn:=sn) (sub:=sub) (ab:=ab) (col:=col) (dd:=dd) (k0:=k0) (k1:=k1) (k2:=k2) (k3:=k3) (k5:=k5) aoO (mN:=mN) (fI:=fI) (T.hasType aoO.hasBase) (I.ok.hd hc) (by rw[he];show(false||(backTo cpos (starEach es X.env)).any (·.1))=false;rw[i];rfl) hi (gg I hg hm ⟨rfl,?_⟩ hd);have hA:=ha cpos f s σ H _ I h;rw[he]at hA⊢;refine ap1 (thn hA λn Q⟨j,g,m,r2,hl,a1,Z,q2⟩=>⟨rfl,?_,m.bk _ _ hC,hN.keeps m.bk,T.keeps m.bk,⟨oI,m.bk _ _ (I.mod.kin _ _ Y),O⟩,λh' c K=>?_⟩);.rw[<-r2.length,hl];exact anQ Z (by decide)
 refine je K.there λta h1 h2 h3=>?_;have hH:g c=none:=by cases z:g c with|none=>rfl|some u=>obtain⟨o,ho⟩:=i5 (m.hok c u z);rw[K.new]at ho;cases ho
 have J:=m.kept (t':=Q.toks) K.keeps;have fp:∀w,w c=none->FpX X f w c:=λw hn=>m.fpX K.new hn;have P:Inv X f σ (upd g c (.ext (kr c C none))) {Q with heap:=h'}:=J.agZ (fp g hH) ⟨⟨_,h1⟩,⟨_,h1⟩,λ_ _⟨a,z⟩k=>⟨a,k _ z⟩⟩;have r3:Vals (V.ref c::j) (Value.ref c::n):=.cons rfl r2;let Q':VK:=λv w=>v=.non/\∃d,upd g c (.ext (kr c C none)) d=none/\d≠c/\w=upd (upd (upd g c (.ext (kr c C none))) d (.ext (fv d (fl.zip j)))) c (.ext (kr c C (some d)));have sp:spI C fl (V.ref c::j) (upd g c (.ext (kr c C none))) Q' λ_ _ _=>False:=adt c j rfl hl aq a1 λd hd l=>⟨rfl,d,hd,l,rfl⟩;have A:(Value.ref c::n).length=ps.length:=by rw[<-r3.length];exact F.len _ _ _ _ sp
 have E:=hb {Q with heap:=h'} (Value.ref c::n) P.kIn (by rw[aom];exact A);rw[aom]at E;refine apt (apC (F.run _ X.stack _ _ ⟨Value.ref c::n,[]⟩ (Value.ref c::n) _ Q' (λ_ _ _=>False) (hr.make C n []) trivial (P.ajQ.make C n []) E r3 sp) λr s' p=>?_);cases r with|error e'=>exact False.elim p|ok fl'=>cases fl' with|next|brk|cont=>exact False.elim p|ret u=>
   obtain⟨v,w,U,rv,ev,d,M,l,R⟩:=P.after p;subst ev R;have a2:g d=none:=by rwa[aj l]at M
   obtain⟨a0,G⟩:=vV U (e:=c) (C:=C) (dx:=some d) aq;refine⟨rv,U.bk _ _ hC,some d,a0,G,q2 f s' c d a2 l ?_⟩;have I4:=U.xd (d:=d) (fs:=fl.zip j) (by rw[aj l,aq]);have I5:=I4.aeL (e:=c) (φ:=kr c C (some d)) (by rw[aj (anY l),aq]);have R:del (upd (upd (upd (upd g c (.ext (kr c C none))) d (.ext (fv d (fl.zip j)))) c (.ext (kr c C (some d)))) d (.xd (fl.zip j))) c=upd g d (.xd (fl.zip j)):=by
    funext b;unfold del upd;by_cases y:b=c;.rw[anL y,anK (by rw[y];exact anY l),y,hH]
    .rw[anK y];by_cases B:b=d;.rw[anL B,anL B]
     .rw[anK B,anK B,anK y,anK B,anK y]
   rw[R]at I5;exact⟨I5,agH _ _ G rfl rfl rfl rfl rfl,fp _ (by rw[aj (anY l)];exact hH),λt z=>by cases z⟩
end
end L2
namespace PySem
open Sem(wp)
end PySem
namespace L2
open PySem PySem.Spec PyProof.Rows
section
variable{X:Cx}
inductive TyW(K:W.Frag)(H:Hp):V->Value->Prop where|non:TyW K H .non (.type "NoneType")|bl(x:Bool):TyW K H (.bl x) (.type "bool")|int(i:Int):TyW K H (.int i) (.type "int")|str(x:Str):TyW K H (.str x) (.type "str")|lst{a:Addr}{xs:List V}(e:SqL K H a xs):TyW K H (.ref a) (.type "list")|tup{a:Addr}{xs:List V}(e:SqT K H a xs):TyW K H (.ref a) (.type "tuple")
def TyW.kit{pins:List (Addr×Obj)}{σ:St}{H:Hp}{s:Shared}{x:V}{u t:Value}(ty:TyW X.K H x t)(I:Inv X pins σ H s)(b:RelV x u):(∃P:Heap->Prop,W.KitX X.K u t P/\P s.heap)/\u≠.builtin "__main__.__loader__#opaque":=by cases ty with|non=>cases show u=Value.none from b;exact⟨⟨_,W.kitx_none,trivial⟩,λz=>nomatch z⟩|bl y=>cases show u=Value.bool y from b;exact⟨⟨_,W.kitx_bool,trivial⟩,λz=>nomatch z⟩|int i=>obtain⟨t,q⟩:=show∃t,u=Value.int i t from b;cases q;exact⟨⟨_,W.kitx_int,trivial⟩,λz=>nomatch z⟩|str y=>obtain⟨t,q⟩:=show∃t,u=Value.str y t from b;cases q;exact⟨⟨_,W.kitx_str,trivial⟩,λz=>nomatch z⟩|@lst a xs e=>cases show u=Value.ref a from b;obtain⟨c,_,p,_⟩:=I.list e;obtain⟨o,f,d,_⟩:=p.isList;exact⟨⟨_,aqP,⟨o,f,d⟩⟩,λz=>nomatch z⟩|@tup a xs e=>cases show u=Value.ref a from b;obtain⟨c,_,⟨o,f,d,_⟩,_⟩:=I.tuple e;exact⟨⟨_,W.kitx_tuple,⟨o,f,d⟩⟩,λz=>nomatch z⟩
def su:bN X (.builtin "isinstance") λc H Q=>∃x a T U t b,c=[x,.ref a]/\SqT X.K H a [.ty T,.ty U]/\TyW X.K H x t/\W.kitAny X.K t [.type T,.type U]=some b/\Q (.bl b) H:=by intro d s σ H c J Q I r h;obtain⟨x,a,T,U,t,b,rfl,f,ty,e,q⟩:=h;obtain⟨u,C,rfl,B,A⟩:=vals2 r;cases show C=Value.ref a from A;obtain⟨⟨P,Z,z⟩,l⟩:=ty.kit I B;obtain⟨g,p,⟨o,k,y,n,m⟩,_⟩:=I.tuple f;obtain⟨E,D,rfl,j,v⟩:=vals2 p;cases show E=Value.type T from j;cases show D=Value.type U from v;obtain⟨i,od,w,G⟩:=o;cases show i=_ from y;cases show w=_ from m;exact W.kia_tup Z I.kIn z k e l λtk=>⟨.bl b,H,I.tok tk,rfl,q⟩
def zW:MtR X "list.count" λx g H Q=>∃n y d b,g=[y]/\IsD X.K H n y d/\IsD X.K H (n+1) x (.list b)/\X.A.units+1+n<cLine/\Q (.int (b.countP λz=>PyData.eqv z d:Nat)) H:=by
 intro h s σ H x g v K Q I w k⟨n,y,d,b,e,l,r,C,q⟩;subst e;obtain⟨u,rfl,A⟩:=vals1 k;obtain⟨⟨J,p⟩,B,G⟩:=I.reads n d y u l A;obtain⟨⟨bs,t⟩,f,D⟩:=I.reads _ _ x v r w;have f:PyData.canLayAll0 b=true:=by simpa[PyData.canLay0]using f
 cases t with|@list a o its m ds' as' h1 h2 h3 h4=>
 obtain⟨cl,dd,E,i⟩:=o;cases h2;cases h3;have c:=SeqAt.readsAll_map b _ _ f h4;refine aqT F.slot_list_count ⟨_,h1,rfl⟩ F.entry_list_count (F.args_list_count_2 _ _) (SeqAt.list_countAt a its m dd i u λz=>PyData.eqv (SeqAt.readOf s.heap z) d) ⟨h1,SeqAt.items_eqAt h4 p f B (by have:=apT (PyData.depthAll b) d.depth;omega),?_⟩;have j:(its.toList.countP λz=>PyData.eqv (SeqAt.readOf s.heap z) d)=b.countP λz=>PyData.eqv z d:=by rw[<-c,List.countP_map];rfl
 rw[j];exact⟨.int _,H,I.tok _,⟨_,rfl⟩,q⟩
def ag4(t:TA):TE:=λσ H Q=>t σ H λb a=>∃j:Int,b=[.int j]/\-2^62<=j/\j<2^62/\∀r,a r=none->Q (.ref r) (upd a r (.rng 0 j))
def zy{a:Expr}{ta:TA}{p pos:Pos}(r:Gl X "range")(k:X.mg "range"=none)(m:PA X [a] ta)(hs:starEach [a] X.env=[(false,eval a X.env)]:=by rfl):PE X (.Call (.Name "range" p) [a] [] pos) (ag4 ta):=by intro c s σ H Q I h;refine Call_ (jB I r k aqS (aoq (thn (m pos c s σ H _ I h) λw g d=>?_) hs rfl));obtain⟨v,x,f,i,l⟩:=d;obtain⟨j,rfl,_,_,q⟩:=l;obtain⟨u,rfl,n⟩:=vals1 i;obtain⟨t,rfl⟩:=n;exact call_range_1 ⟨.ref g.heap.objs.size,_,f.laid (o:=.rng 0 j) (λb o e=>anG _ e) (anP _) ⟨_,_,_,anT _ rfl⟩,rfl,q _ (f.hok.fresh (anP _))⟩
def qk(C:X.calm=true):bN X (.type "list") λg H Q=>∃(r:Addr)(n:Nat),g=[.ref r]/\H r=some (.rng 0 n)/\n<=1000/\∀l,H l=none->Q (.ref l) (upd H l (.lst ((List.range n).map λi=>.int (i:Nat)))):=by
 intro j s σ H g d Q I r h;obtain⟨a,n,rfl,w,y,q⟩:=h;obtain⟨u,rfl,B⟩:=vals1 r;cases show u=Value.ref a from B;obtain⟨t,u,v,e⟩:=show dD X.prog X.w H s.heap a (.rng 0 n)from I.hok a _ w;refine call_list_range (n:=n) (I.ok.hd C) e (small_one (by omega) (by omega) (by omega) (by omega)) (by rw[rangeSize_one];split<;>omega) (by omega) λD tk c A x p b=>?_;refine⟨.ref s.heap.objs.size,_,I.laid (t':=tk) (o:=.lst ((List.range n).map λi=>.int (i:Nat))) x (anP _) ⟨?_,c.toList,A,?_,by simpa using p⟩,rfl,q _ (I.hok.fresh (anP _))⟩;.rw[an0,apm];exact anQ y (by decide)
 .have go:∀(d:List Value)(k:Nat),(∀(i:Nat)(v:Value),d[i]?=some v->∃t,v=.int ((k+i:Nat):Int) t)->Vals ((List.range' k d.length).map λi=>V.int (i:Nat)) d:=by intro d;induction d with|nil=>intro k _;exact .nil|cons u d ih=>
    intro k m;rw[anV,List.range'_succ,aoa];refine .cons ?_ (ih (k+1) λi v f=>?_);.obtain⟨t,e⟩:=m 0 u rfl;exact⟨t,by simpa using e⟩
    .obtain⟨t,e⟩:=m (i+1) v (by simpa using f);exact⟨t,by rw[e];congr 1;omega⟩
  have z:c.toList.length=n:=by simpa using b.1
  have:=go c.toList 0 λi v f=>by obtain⟨t,e⟩:=b.2 i v (by simpa using f);exact⟨t,by rw[e];congr 1;omega⟩
  rw[z]at this;rw[List.range_eq_range'];exact this
end
def Wlk(h:Heap):Bool->Addr->Addr->Nat->Prop|true,it,a,k=>h.IsListIter it a k|false,it,a,k=>h.IsTupleIter it a k
def sD(h:Heap):Bool->Addr->Array Value->Prop|true,a,xs=>h.IsList a xs|false,a,xs=>h.IsTuple a xs
def SqB(K:W.Frag)(H:Hp):Bool->Addr->List V->Prop|true,a,xs=>SqL K H a xs|false,a,xs=>SqT K H a xs
def Wlk.go{h h':Heap}{lt:Bool}{it a:Addr}{k:Nat}(w:Wlk h lt it a k)(e:∀o,h.get? it=some o->h'.get? it=some o):Wlk h' lt it a k:=by cases lt with|true|false=>obtain⟨o,b,r⟩:=w;exact⟨o,e o b,r⟩
def sD.go{h h':Heap}{lt:Bool}{a:Addr}{xs:Array Value}(w:sD h lt a xs)(e:∀o,h.get? a=some o->h'.get? a=some o):sD h' lt a xs:=by cases lt with|true|false=>obtain⟨o,b,r⟩:=w;exact⟨o,e o b,r⟩
def Wlk.ajp{h:Heap}{lt:Bool}{it a:Addr}{k:Nat}(w:Wlk h lt it a k):∃o c,h.get? it=some o/\o.data=.fields c:=by cases lt with|true|false=>obtain⟨o,b,_,r⟩:=w;exact⟨o,_,b,r⟩
def sD.there{h:Heap}{lt:Bool}{a:Addr}{xs:Array Value}(w:sD h lt a xs):∃o,h.get? a=some o:=by cases lt with|true|false=>obtain⟨o,b,_⟩:=w;exact⟨o,b⟩
section
variable{prog:Program}{w:World}{A:Around}{E:Value->Shared->Prop}{s:Shared}
def qA{lt:Bool}{it a:Addr}{k:Nat}{xs:Array Value}{x:Value}{Q:Value->Shared->Prop}(hw:Wlk s.heap lt it a k)(d:sD s.heap lt a xs)(c:xs[k]?=some x)(e:∀b,Wlk b lt it a (k+1)->Heap.SameBut it s.heap b->Q x {s with heap:=b}):wpAny (model prog w) A (Builtin.SmallTypes.nextOf (.ref it)) Q E s:=by cases lt with|true=>exact wpAny_nextOf_list_item hw d c e|false=>exact oi hw d c e
def yy{lt:Bool}{it a:Addr}{k:Nat}{xs:Array Value}{Q:Value->Shared->Prop}(f:A.handled=none)(hw:Wlk s.heap lt it a k)(d:sD s.heap lt a xs)(c:xs[k]?=none)(g:∀b e,Heap.ExtBut it s.heap b->(∃o,b.get? e=some o/\o.cls=.type "StopIteration")->E (.ref e) {s with heap:=b}):wpAny (model prog w) A (Builtin.SmallTypes.nextOf (.ref it)) Q E s:=by cases lt with|true=>exact wpAny_nextOf_list_end f hw d c g|false=>exact rH f hw d c g
def x6{lt:Bool}{a h b f g H r:Addr}{k:Nat}{xs ys:Array Value}{x y u v:Value}{Q:Option Value->Shared->Prop}(D:ZipApart a h b f g H r)(hz:IsZip s.heap a h b .none)(hI:IsPair s.heap h (.ref f) (.ref g))(hO:IsPair s.heap b u v)(w1:Wlk s.heap lt f H k)(w2:Wlk s.heap lt g r k)(q1:sD s.heap lt H xs)(q2:sD s.heap lt r ys)(hx:xs[k]?=some x)(hy:ys[k]?=some y)(hQ:∀p,IsZip p a h b (rawInt s.heap.objs.size)->IsPair p b x y->Wlk p lt f H (k+1)->Wlk p lt g r (k+1)->IsPair p s.heap.objs.size x y->(∀c o,c≠a->c≠b->c≠f->c≠g->s.heap.get? c=some o->p.get? c=some o)->Q (some (.ref s.heap.objs.size)) {s with heap:=p}):wpAny (model prog w) A (pyNext (.ref a)) Q E s:=by
 have hT:s.TypeIs (.ref a) "zip":=⟨_,hz,rfl⟩;unfold pyNext;refine anE (apy (aoA (name:=Str.ofString "__next__") hT ap3 (aoQ ap3 hT F.entry_zip_next ?_ (F.args_zip_next_1 _))));show wpAny _ _ (field (.ref a) 2 >>=_) _ _ s;refine anE (an8 (s:=s) hz rfl (x:=.bool false) rfl ?_);show wpAny _ _ (field (.ref a) 3 >>=_) _ _ s;refine anE (an8 (s:=s) hz rfl (x:=.ref h) rfl (anE (apb hI rfl ?_)));show wpAny _ _ (Builtin.SmallTypes.ownedTupleIsFree (.ref a)>>=_) _ _ s;unfold Builtin.SmallTypes.ownedTupleIsFree;refine anE (anE (an8 (s:=s) hz rfl (x:=.none) rfl (anO ?_)));simp only[apk];refine anE (aqq (anE (an8 (s:=s) hz rfl (x:=.ref b) rfl (anE (aov hz (by simp) λI U m=>?_)))));replace U:IsZip I a h b .ellipsis:=U;simp only[List.zipIdx_cons,List.zipIdx_nil,aqK,List.forIn_nil];refine anE (anE (anE (wpAny_onRaise ?_)));show wpAny _ _ (Builtin.SmallTypes.nextOf (.ref f)>>=_) _ _ {s with heap:=I};refine anE (qA (s:={s with heap:=I}) (w1.go λo=>m.extBut _ o D.i1z) (q1.go λo=>m.extBut _ o D.l1z) hx λG n1 j=>anO ?_);replace j:Heap.SameBut f I G:=j;have O2:IsPair G b u v:=j.extBut _ _ D.TOi1 (m.extBut _ _ D.TOz hO);refine anE (apb (s:={s with heap:=G}) O2 rfl (anE (wpAny_updateSeq_pair (s:={s with heap:=G}) O2 λt X i=>anE (wpAny_letGo (anO ?_)))));replace X:IsPair t b x v:=X;replace i:Heap.SameBut b G t:=i;refine anE (anE (wpAny_onRaise ?_));show wpAny _ _ (Builtin.SmallTypes.nextOf (.ref g)>>=_) _ _ {s with heap:=t};refine anE (qA (s:={s with heap:=t}) (w2.go λo z=>i.extBut _ o D.TOi2.symm (j.extBut _ o D.i12.symm (m.extBut _ o D.i2z z))) (q2.go λo z=>i.extBut _ o D.l2TO (j.extBut _ o D.l2i1 (m.extBut _ o D.l2z z))) hy λB n2 n=>anO ?_);replace n:Heap.SameBut g t B:=n;have O4:IsPair B b x v:=n.extBut _ _ D.TOi2 X;refine anE (apb (s:={s with heap:=B}) O4 rfl (anE (wpAny_updateSeq_pair (s:={s with heap:=B}) O4 λd N l=>anE (wpAny_letGo (anO (anO ?_))))));replace N:IsPair d b x y:=N;replace l:Heap.SameBut b B d:=l;refine anE (apb (s:={s with heap:=d}) N rfl (anE (wpAny_newTuple ?_)));have sz:d.objs.size=s.heap.objs.size:=by rw[l.1,n.1,i.1,j.1,m.1]
 have Z:IsZip d a h b .ellipsis:=l.extBut _ _ D.TOz.symm (n.extBut _ _ D.i2z.symm (i.extBut _ _ D.TOz.symm (j.extBut _ _ D.i1z.symm U)));have k5:∀c o,c≠a->c≠b->c≠f->c≠g->s.heap.get? c=some o->d.get? c=some o:=λc o q R S T e=>l.extBut _ _ R (n.extBut _ _ T (i.extBut _ _ R (j.extBut _ _ S (m.extBut _ _ q e))));have m1:Wlk d lt f H (k+1):=n1.go λo z=>l.extBut _ o D.TOi1.symm (n.extBut _ o D.i12 (i.extBut _ o D.TOi1.symm z));have m2:Wlk d lt g r (k+1):=n2.go λo z=>l.extBut _ o D.TOi2.symm z;have lz:a<d.objs.size:=anR Z;show wpAny _ _ (Builtin.SmallTypes.ownedTupleHandOut (.ref a) (.ref d.objs.size)>>=_) _ _ _;unfold Builtin.SmallTypes.ownedTupleHandOut;refine anE (anE (aov (s:={s with heap:=d.push {cls:=.type "tuple",data:=.seq #[x,y]}}) (anG _ Z) (by simp) λK Y P=>?_));replace Y:IsZip K a h b (rawInt d.objs.size):=Y;replace P:Heap.SameBut a (d.push {cls:=.type "tuple",data:=.seq #[x,y]}) K:=P;refine aov (s:={s with heap:=K}) Y (by simp) λC J M=>?_;replace J:IsZip C a h b (rawInt d.objs.size):=J;replace M:Heap.SameBut a K C:=M;have O:∀c o,c≠a->d.get? c=some o->C.get? c=some o:=λc o q e=>M.extBut _ _ q (P.extBut _ _ q (anG _ e));have T8:IsPair C d.objs.size x y:=M.extBut _ _ (aoc lz) (P.extBut _ _ (aoc lz) (anT _ rfl));rw[sz]at J T8;refine anO ⟨_,rfl,anO ?_⟩;show Q (some (.ref d.objs.size)) _;rw[sz];exact hQ C J (O _ _ D.TOz N) (m1.go λo z=>O _ o D.i1z z) (m2.go λo z=>O _ o D.i2z z) T8 λc o q R S T e=>O c o q (k5 c o q R S T e)
def abu{lt:Bool}{a h g f B r R:Addr}{k:Nat}{xs:Array Value}{Q:Option Value->Shared->Prop}(K:A.handled=none)(D:ZipApart a h g f B r R)(hz:IsZip s.heap a h g .none)(S:IsPair s.heap h (.ref f) (.ref B))(y:∃u v,IsPair s.heap g u v)(w1:Wlk s.heap lt f r k)(J:sD s.heap lt r xs)(X:xs[k]?=none)(M:∀H,(∀c o,c≠a->c≠f->s.heap.get? c=some o->H.get? c=some o)->Q none {s with heap:=H}):wpAny (model prog w) A (pyNext (.ref a)) Q E s:=by
 have G:s.TypeIs (.ref a) "zip":=⟨_,hz,rfl⟩;obtain⟨u,v,y⟩:=y;unfold pyNext;refine anE (apy (aoA (name:=Str.ofString "__next__") G ap3 (aoQ ap3 G F.entry_zip_next ?_ (F.args_zip_next_1 _))));show wpAny _ _ (field (.ref a) 2 >>=_) _ _ s;refine anE (an8 (s:=s) hz rfl (x:=.bool false) rfl ?_);show wpAny _ _ (field (.ref a) 3 >>=_) _ _ s;refine anE (an8 (s:=s) hz rfl (x:=.ref h) rfl (anE (apb S rfl ?_)));show wpAny _ _ (Builtin.SmallTypes.ownedTupleIsFree (.ref a)>>=_) _ _ s;unfold Builtin.SmallTypes.ownedTupleIsFree;refine anE (anE (an8 (s:=s) hz rfl (x:=.none) rfl (anO ?_)));simp only[apk];refine anE (aqq (anE (an8 (s:=s) hz rfl (x:=.ref g) rfl (anE (aov hz (by simp) λj t p=>?_)))));replace t:IsZip j a h g .ellipsis:=t;simp only[List.zipIdx_cons,List.zipIdx_nil,aqK,List.forIn_nil];refine anE (anE (anE (wpAny_onRaise ?_)));show wpAny _ _ (Builtin.SmallTypes.nextOf (.ref f)>>=_) _ _ {s with heap:=j};refine anE (yy (s:={s with heap:=j}) K (w1.go λo=>p.extBut _ o D.i1z) (J.go λo=>p.extBut _ o D.l1z) X λm e n U=>?_);replace n:Heap.ExtBut f j m:=n;obtain⟨P,d,i⟩:=U;have C:IsZip m a h g .ellipsis:=n _ _ D.i1z.symm t;have O:e≠a:=λx=>by subst x;rw[C]at d;cases d;simp at i
 refine aov (s:={s with heap:=m}) C (by simp) λq _ l=>?_;replace l:Heap.SameBut a m q:=l;refine anE (wpAny_isInstance (s:={s with heap:=q}) (T:="StopIteration") (b:=true) ⟨P,l.extBut _ _ O d,i⟩ isSubtype_stop (anO (M q λc o I N z=>l.extBut _ _ I (n _ _ N (p.extBut _ _ I z)))))
end
def x5{n a b:Nat}(c:a<n)(d:b<n):ZipApart (n+4) (n+2) (n+3) n (n+1) a b:=by constructor<;>(intro h;have h:(_:Nat)=_:=h;omega)
noncomputable abbrev iV(lt:Bool)(a:Addr):Obj:={cls:=.type (if lt then"list_iterator"else"tuple_iterator"),data:=.fields #[.ref a,.int 0 0]}
abbrev zh2(h:Heap)(lt:Bool)(a b:Addr):Heap:=(h.push (iV lt a)).push (iV lt b)
abbrev zh4(h:Heap)(lt:Bool)(a b:Addr):Heap:=((zh2 h lt a b).push {cls:=.type "tuple",data:=.seq #[.ref h.objs.size,.ref (h.push (iV lt a)).objs.size]}).push {cls:=.type "tuple",data:=.seq #[.none,.none]}
abbrev zh5(h:Heap)(lt:Bool)(a b:Addr):Heap:=(zh4 h lt a b).push {cls:=.type "zip",data:=.fields #[.none,.bool false,.bool false,.ref (zh2 h lt a b).objs.size,.ref ((zh2 h lt a b).push {cls:=.type "tuple",data:=.seq #[.ref h.objs.size,.ref (h.push (iV lt a)).objs.size]}).objs.size]}
def wt(lt:Bool)(a b:Addr)(xs ys:Array Value):Meets (Builtin.«zip.__new__» ⟨[.type "zip",.ref a,.ref b],[]⟩) λ_ R s=>sD s.heap lt a xs/\sD s.heap lt b ys/\R (.ok (.ret (.ref (zh4 s.heap lt a b).objs.size))) {s with heap:=zh5 s.heap lt a b}:=.of_wp λl w A R s h=>by
 obtain⟨c,g,d,tk,os⟩:=s;obtain⟨k,i,h⟩:=h;have j:=sub_zip;cases lt;.have e:Heap.IsTuple (Shared.heap ⟨c,g,d,tk,os⟩) a xs:=k;have f:Heap.IsTuple (Shared.heap ⟨c.push {cls:=.type "tuple_iterator",data:=.fields #[.ref a,.int 0 0]},g,d,tk,os⟩) b ys:=sD.go (lt:=false) i λo z=>anG _ z;wp_walk using apF e,apF f;exact⟨_,rfl,h⟩
 .have e:Heap.IsList (Shared.heap ⟨c,g,d,tk,os⟩) a xs:=k;have f:Heap.IsList (Shared.heap ⟨c.push {cls:=.type "list_iterator",data:=.fields #[.ref a,.int 0 0]},g,d,tk,os⟩) b ys:=sD.go (lt:=true) i λo z=>anG _ z;wp_walk using apO e,apO f;exact⟨_,rfl,h⟩
section
variable{prog:Program}{w:World}{A:Around}{E:Value->Shared->Prop}{s:Shared}
def x8{lt:Bool}{a b:Addr}{xs ys:Array Value}{Q:Value->Shared->Prop}(r:sD s.heap lt a xs)(q:sD s.heap lt b ys)(h:∀d,IsZip d (s.heap.objs.size+4) (s.heap.objs.size+2) (s.heap.objs.size+3) .none->IsPair d (s.heap.objs.size+2) (.ref s.heap.objs.size) (.ref (s.heap.objs.size+1))->IsPair d (s.heap.objs.size+3) .none .none->Wlk d lt s.heap.objs.size a 0->Wlk d lt (s.heap.objs.size+1) b 0->(∀c o,s.heap.get? c=some o->d.get? c=some o)->Q (.ref (s.heap.objs.size+4)) {s with heap:=d}):wpAny (model prog w) A (call (.type "zip") [.ref a,.ref b]) Q E s:=by
 refine callType_new F.called_zip (by decide) (F.typeCall_zip_2 _ _) (F.newCall_zip_2 _ _) (λi=>F.args_object_init_3 i _ _) F.entry_zip_new (wt lt a b xs ys) ⟨r,q,?_⟩;have e:(s.heap.push (iV lt a)).objs.size=s.heap.objs.size+1:=aoZ ..;have j:(zh2 s.heap lt a b).objs.size=s.heap.objs.size+2:=by rw[aoZ,e]
 have k:((zh2 s.heap lt a b).push {cls:=.type "tuple",data:=.seq #[.ref s.heap.objs.size,.ref (s.heap.push (iV lt a)).objs.size]}).objs.size=s.heap.objs.size+3:=by rw[aoZ,j]
 have l:(zh4 s.heap lt a b).objs.size=s.heap.objs.size+4:=by rw[aoZ,k]
 have f:(zh5 s.heap lt a b).get? (zh4 s.heap lt a b).objs.size=some _:=anT _ rfl;have m:(zh5 s.heap lt a b).get? ((zh2 s.heap lt a b).push {cls:=.type "tuple",data:=.seq #[.ref s.heap.objs.size,.ref (s.heap.push (iV lt a)).objs.size]}).objs.size=some _:=anG _ (anT _ rfl);have n:(zh5 s.heap lt a b).get? (zh2 s.heap lt a b).objs.size=some _:=anG _ (anG _ (anT _ rfl));have g:(zh5 s.heap lt a b).get? (s.heap.push (iV lt a)).objs.size=some (iV lt b):=anG _ (anG _ (anG _ (anT _ rfl)));have p:(zh5 s.heap lt a b).get? s.heap.objs.size=some (iV lt a):=anG _ (anG _ (anG _ (anG _ (anT _ rfl))));show _/\_;rw[j,k,l]at f;rw[e,j]at n;rw[k]at m;rw[e]at g;rw[l];refine⟨⟨_,f,rfl⟩,h _ f n m ?_ ?_ λc o x=>anG _ (anG _ (anG _ (anG _ (anG _ x))))⟩
 .cases lt;.exact⟨_,p,rfl,rfl⟩
  .exact⟨_,p,rfl,rfl⟩
 .cases lt;.exact⟨_,g,rfl,rfl⟩
  .exact⟨_,g,rfl,rfl⟩
end
def Inv.yG{X:Cx}{pins:List (Addr×Obj)}{σ:L2.St}{H:Hp}{s:Shared}{h':Heap}{t':Nat}{ch:List Addr}(I:Inv X pins σ H s)(k:∀c o,c∉ch->s.heap.get? c=some o->h'.get? c=some o)(b:∀c∈ch,uM X pins H c):Inv X pins σ H {s with heap:=h',toks:=t'}:=by
 have f:∀c u,H c=some u->c∉ch:=λc u e z=>by rw[(b c z).1]at e;cases e
 refine I.step (g':=s.gens) (d':=s.drawn) (ch:=ch) (λc a=>⟨(b c a).2.2.2.1,(b c a).2.1,(b c a).2.2.2.2.1,(b c a).2.2.2.2.2⟩) (λc o _ _ a e _=>k c o a e) (λc o _ _ a e _=>⟨o.slots,k c o a e⟩) (λ_ _ _ _ n=>n) (λc o a e=>⟨o,k c o a e⟩) (λ_ _ e=>e) (λ_ _ _ e=>e) (λc l e=>⟨#[],by rw[e];simp⟩) (λm g=>?_) (λc u e=>?_) I.bare;.obtain⟨o,h,i,j,r⟩:=g;exact⟨o,h,i,k _ o (λz=>(b _ z).2.1 rfl) j,r⟩
 .refine(I.hok c u e).u6 (λd v a q=>k d v ?_ q) (λ_ q=>q) λ_ _ q=>q;rcases a with z|z;.rw[z];exact f c u e
  .exact f d _ z
def Itz(K:W.Frag)(lt:Bool)(a b:Addr):It:=⟨λi H=>∃c d x y,SqB K H lt a c/\SqB K H lt b d/\c[i]?=some x/\d[i]?=some y,λi H v e=>∃p,v=.ref p/\H p=none/\∀c d,SqB K H lt a c->SqB K H lt b d->∃x y,c[i]?=some x/\d[i]?=some y/\e=upd H p (.tup [x,y]),λi H=>∃c,SqB K H lt a c/\c.length<=i⟩
def Inv.ahb{X:Cx}{pins:List (Addr×Obj)}{σ:L2.St}{H:Hp}{s:Shared}{lt:Bool}{a:Addr}{xs:List V}(I:Inv X pins σ H s)(h:SqB X.K H lt a xs):∃b:List Value,Vals xs b/\sD s.heap lt a b.toArray:=by cases lt with|true=>obtain⟨b,r,p,_⟩:=I.list h;exact⟨b,r,p.isList⟩|false=>obtain⟨b,r,p,_⟩:=I.tuple h;exact⟨b,r,p⟩
def Inv.u9{X:Cx}{pins:List (Addr×Obj)}{σ:L2.St}{H:Hp}{s:Shared}{lt:Bool}{a:Addr}{xs ys:List V}(I:Inv X pins σ H s)(h:SqB X.K H lt a xs)(h':SqB X.K H lt a ys):xs=ys:=by cases lt with|true=>exact I.pU h h'|false=>exact I.lE h h'
def abL{P:Program}{w:World}{K:W.Frag}{es:List Expr}{k:Nat}{pos:Pos}{lt:Bool}{a b zp ti tO j1 j2:Addr}(D:ZipApart zp ti tO j1 j2 a b):Turn P w K (.Tuple es k pos) (Itz K lt a b) [zp,ti,tO,j1,j2] zp λi h=>IsZip h zp ti tO .none/\IsPair h ti (.ref j1) (.ref j2)/\(∃u v,IsPair h tO u v)/\Wlk h lt j1 a i/\Wlk h lt j2 b i where
 mem:=by simp
 obj:=λi h st c hc=>by
  obtain⟨hz,hI,⟨u,v,hO⟩,w1,w2⟩:=st;simp only[anS,aoo,apU]at hc;rcases hc with rfl|rfl|rfl|rfl|rfl;.exact⟨_,hz,λv z=>by cases z⟩
  .exact⟨_,hI,λv z=>by cases z⟩
  .exact⟨_,hO,λv z=>by cases z⟩
  .obtain⟨o,vs,ho,hd⟩:=w1.ajp;exact⟨o,ho,λv z=>by rw[hd]at z;cases z⟩
  .obtain⟨o,vs,ho,hd⟩:=w2.ajp;exact⟨o,ho,λv z=>by rw[hd]at z;cases z⟩
 keep:=λi h h' st kk=>by obtain⟨hz,hI,⟨u,v,hO⟩,w1,w2⟩:=st;exact⟨kk _ (by simp) _ hz,kk _ (by simp) _ hI,⟨u,v,kk _ (by simp) _ hO⟩,w1.go λo=>kk _ (by simp) o,w2.go λo=>kk _ (by simp) o⟩
 item:=by
  intro X hP hw hK i pins s σ H E hc I hf st hg;subst hP hw hK;obtain⟨hz,hI,⟨u0,v0,hO⟩,w1,w2⟩:=st;obtain⟨xs,ys,x,y,hq1,hq2,hx,hy⟩:=hg;obtain⟨its,rv,p1⟩:=I.ahb hq1;obtain⟨jts,rw',p2⟩:=I.ahb hq2;obtain⟨u,hu,ru⟩:=rv.get hx;obtain⟨v,hv,rv'⟩:=rw'.get hy;refine x6 D hz hI hO w1 w2 p1 p2 (x:=u) (y:=v) (by simpa using hu) (by simpa using hv) λh' z' O' m1 m2 tp kp=>?_;have hfr:H s.heap.objs.size=none:=I.hok.fresh (anP _);have hnT:∀c o,s.heap.get? c=some o->c≠s.heap.objs.size:=λc o q=>anW (anR q);have I1:Inv X pins σ H {s with heap:=h'}:=I.yG (t':=s.toks) (ch:=[zp,ti,tO,j1,j2]) (λc o hc q=>by simp only[anS,aoo,apU,not_or]at hc;exact kp c o hc.1 hc.2.2.1 hc.2.2.2.1 hc.2.2.2.2 q) hf;have I2:Inv X pins σ (upd H s.heap.objs.size (.tup [x,y])) {s with heap:=h'}:=by refine I1.wJ hfr I.sz (aoc I.lt) (λn c q=>?_) (λpp hp=>hnT _ _ (I.pin pp hp).1) ⟨by show 2<=sizeLine;decide,[u,v],.cons ru (.cons rv' .nil),⟨_,tp,rfl,0,rfl⟩⟩;obtain⟨_,z⟩:=I.cell n c q;exact anW z.lt
  refine⟨_,rfl,wpAny_letOwnedTupleGo_zip (s:={s with heap:=h'}) z' λh2 z2 e2=>?_⟩;replace e2:Heap.SameBut zp h' h2:=e2;have nz:s.heap.objs.size≠zp:=anY (hnT _ _ hz);have fz:=hf zp (by simp);refine⟨.ref s.heap.objs.size,upd H s.heap.objs.size (.tup [x,y]),?_,rfl,⟨_,rfl,hfr,λxs' ys' h1 h2=>⟨x,y,by rw[I.u9 h1 hq1];exact hx,by rw[I.u9 h2 hq2];exact hy,rfl⟩⟩,⟨z2,?_,⟨_,_,e2.extBut _ _ D.TOz O'⟩,m1.go λo z=>e2.extBut _ o D.i1z z,m2.go λo z=>e2.extBut _ o D.i2z z⟩,λc hc=>?_⟩;.exact I2.turned (t':=s.toks) (it:=zp) (λc o hc q=>(e2.2 c hc).trans q) (by rw[aj (anY nz)];exact fz.1) fz.2.1 fz.2.2.2.1 fz.2.2.2.2.1 fz.2.2.2.2.2
  .exact e2.extBut _ _ D.TIz (kp _ _ D.TIz D.TITO D.TIi1 D.TIi2 hI)
  .have hne:c≠s.heap.objs.size:=by
    simp only[anS,aoo,apU]at hc;rcases hc with rfl|rfl|rfl|rfl|rfl;.exact hnT _ _ hz
    .exact hnT _ _ hI
    .exact hnT _ _ hO
    .obtain⟨o,_,ho,_⟩:=w1.ajp;exact hnT _ _ ho
    .obtain⟨o,_,ho,_⟩:=w2.ajp;exact hnT _ _ ho
   rw[aj hne];exact(hf c hc).1
 done:=by intro X hP hw hK i pins s σ H E hc I hf st hg;subst hP hw hK;obtain⟨hz,hI,hO,w1,w2⟩:=st;obtain⟨xs,hq,hx⟩:=hg;obtain⟨its,rv,p⟩:=I.ahb hq;have hl:=rv.length;refine abu (I.ok.hd hc) D hz hI hO w1 p (by simp;omega) λh' kp=>⟨rfl,?_⟩;exact I.yG (t':=s.toks) (ch:=[zp,ti,tO,j1,j2]) (λc o hc q=>by simp only[anS,aoo,apU,not_or]at hc;exact kp c o hc.1 hc.2.2.2.1 q) hf
 self:=λ_ _ _ _ _⟨hz,_⟩h=>wpAny_pyIter_zip hz h
section
variable{X:Cx}
def aiv(K:W.Frag)(t:TA):TI:=λσ H R=>t σ H λd c=>∃(lt:Bool)(a b:Addr),d=[.ref a,.ref b]/\(∃e,SqB K c lt a e)/\(∃f,SqB K c lt b f)/\R (Itz K lt a b) c
def ahv{l m:Expr}{t:TA}{es:List Expr}{k:Nat}{T p pos:Pos}(hg:Gl X "zip")(J:X.mg "zip"=none)(K:PA X [l,m] t)(hs:starEach [l,m] X.env=[(false,eval l X.env),(false,eval m X.env)]:=by rfl)(i:starEach [m] X.env=[(false,eval m X.env)]:=by rfl):PI X (.Tuple es k T) (.Call (.Name "zip" p) [l,m] [] pos) (aiv X.K t):=by
 intro g s σ H R I h;refine Call_ (jB I hg J boot_zip (aoq (thn (K pos g s σ H _ I h) λus d n=>?_) (by rw[hs,i]) (by rw[i];rfl)));obtain⟨vs,H1,j,E,G⟩:=n;obtain⟨lt,a,b,rfl,⟨xs,w⟩,⟨ys,o⟩,q⟩:=G;obtain⟨u,v,rfl,Z,Y⟩:=vals2 E;cases show u=Value.ref a from Z;cases show v=Value.ref b from Y;obtain⟨C,_,z⟩:=j.ahb w;obtain⟨Q,_,B⟩:=j.ahb o;obtain⟨oa,r⟩:=z.there;obtain⟨ob,x⟩:=B.there;have M:=anR r;have U:=anR x;refine x8 z B λh' y S N w1 O P=>wpAny_pyIter_zip y ?_;have D:ZipApart (d.heap.objs.size+4) (d.heap.objs.size+2) (d.heap.objs.size+3) d.heap.objs.size (d.heap.objs.size+1) a b:=x5 M U;refine⟨d.heap.objs.size+4,[d.heap.objs.size+4,d.heap.objs.size+2,d.heap.objs.size+3,d.heap.objs.size,d.heap.objs.size+1],_,_,H1,rfl,j.kept (t':=d.toks) P,abL D,⟨y,S,⟨_,_,N⟩,w1,O⟩,λc A=>?_,q⟩;have f:d.heap.objs.size<=c:=by simp only[anS,aoo,apU]at A;rcases A with e|e|e|e|e<;>rw[e]<;>first|exact anP _|exact aqB _ _
 exact j.aiH f (j.hok.fresh f)
end
end L2
set_option autoImplicit true
set_option relaxedAutoImplicit true
namespace K2
open PySem
section
variable{prog:Program}{w:World}{K:Type}[DecidableEq K](I:HeapKind prog w K)
def Its(h:Heap):List K->List Value->Prop|[],vs=>vs=[]|k::ks,vs=>∃b a,vs=.ref b::a/\I.is h k b/\Its h ks a
def Is(h:Heap)(ks:List K)(a:Addr):Prop:=∃o b n,h.get? a=some o/\o.cls=.type "tuple"/\o.data=.seq b n/\Its I h ks b.toList
variable{I}
theorem Its.same{h}:∀{x y vs},Its I h x vs->Its I h y vs->x=y
|[],y,vs,c,a=>by cases c;cases y with|nil=>rfl|cons=>obtain⟨_,_,e,_⟩:=a;cases e
|_::_,y,vs,c,a=>by obtain⟨b,d,rfl,i,c⟩:=c;cases y with|nil=>cases a|cons=>obtain⟨_,_,e,j,a⟩:=a;cases e;rw[I.inj i j,Its.same c a]
theorem Is.same{h a x y}(g:Is I h x a)(k:Is I h y a):x=y:=by refine uO g λo i n f _ e j=>?_;refine uO k λl m p b _ c d=>?_;rw[f]at b;cases b;rw[e]at c;cases c;exact j.same d
variable{A:Around}{E:Value->Shared->Prop}{s:Shared}
end
end K2
set_option autoImplicit true
set_option relaxedAutoImplicit true
namespace L2
open PySem PySem.Spec PyProof.Rows
abbrev amh:=List (List Int)
def FKy(K:W.Frag)(H:Hp)(k:amh)(a:Addr):Prop:=∃bs:List Addr,SqT K H a (bs.map V.ref)/\Paired (λ(x:List Int)(b:Addr)=>SqT K H b (x.map V.int)) k bs
end L2
namespace WL
open PySem
inductive W where|non|bl(b:Bool)|int(i:Int)|str(x:Str)|ty(n:String)|tup(xs:List W)|lst(xs:List W)/-- a dict that is read alone: its keys,its values;a class of the text;an exception: its class,its fields -/|dic(ks vs:List W)|cls(c:String)|exc(c:String)(fs:List W)/-- an object that is made: its class,its fields -/|ins(c:String)(fs:List W)/-- a thing that is written,by its place alone -/|id(a:Nat)
inductive Res(α:Type)where|ok(a:α)|ex(c:W)|bad
noncomputable def Res.bind{b d}:Res b->(b->Res d)->Res d|.ok a,f=>f a|.ex c,_=>.ex c|.bad,_=>.bad
inductive Sl where|no|va(w:W)|ow(ws:List W)|od(ks vs:List W)|ob
abbrev Ws:=List Sl
abbrev EF:=Ws->Res W
abbrev TF:=Ws->Res Bool
abbrev AF:=Ws->Res (List W)
abbrev LF:=Ws->Res (List W)
abbrev GF:=W->Ws->Res Ws
inductive Out where|nx(σ:Ws)|rt(w:W)|bk(σ:Ws)|ct(σ:Ws)|ex(c:W)(σ:Ws)|bad
abbrev SF:=Ws->Out
mutual def eqv:W->W->Bool|.non,.non=>true|.bl a,.bl b=>a==b|.bl a,.int j=>(if a then 1 else 0)==j|.int i,.bl b=>i==if b then 1 else 0|.int i,.int j=>i==j|.str x,.str y=>x==y|.lst xs,.lst ys=>aeg xs ys|.tup xs,.tup ys=>aeg xs ys|_,_=>false def aeg:List W->List W->Bool|[],[]=>true|x::xs,y::ys=>eqv x y&&aeg xs ys|_,_=>false end
mutual def okD:Nat->W->Bool|_,.non=>true|_,.bl _=>true|_,.int _=>true|_,.str x=>x.cps.all (.<0x110000)|_,.ty _=>false|n,.tup xs=>iT n xs|n,.lst xs=>iT n xs|_,.dic _ _=>false|_,.cls _=>false|_,.exc _ _=>false|_,.ins _ _=>false|_,.id _=>false def iT:Nat->List W->Bool|0,_=>false|_+1,[]=>true|n+1,x::xs=>okD n x&&iT (n+1) xs end
noncomputable def abS:W->W->Bool|.non,.non=>true|.non,.int _=>true|.int _,.non=>true|.non,.bl _=>true|.bl _,.non=>true|.non,.str _=>true|.str _,.non=>true|.int _,.int _=>true|.bl _,.bl _=>true|.str _,.str _=>true|.int _,.str _=>true|.str _,.int _=>true|.bl _,.str _=>true|.str _,.bl _=>true|_,_=>false
def oEq(x y:W):Res W:=if abS x y then .ok (.bl (eqv x y))else if okD 50 x&&okD 50 y then .ok (.bl (eqv x y))else .bad
def oNe(x y:W):Res W:=if abS x y then .ok (.bl !eqv x y)else if okD 50 x&&okD 50 y then .ok (.bl !eqv x y)else .bad
noncomputable def dB(x:W):List W->Bool|[]=>false|y::ys=>eqv y x||dB x ys
def oIn(x:W):W->Res W|.lst ys=>if okD 50 x&&iT 51 ys then .ok (.bl (dB x ys))else .bad|.tup ys=>if okD 50 x&&iT 51 ys then .ok (.bl (dB x ys))else .bad|_=>.bad
def mw(x:W):W->Res W|.lst ys=>if okD 50 x&&iT 51 ys then .ok (.bl !dB x ys)else .bad|.tup ys=>if okD 50 x&&iT 51 ys then .ok (.bl !dB x ys)else .bad|_=>.bad
noncomputable def lim:Nat:=1000000
def dq:W->W->Res W|.int i,.int j=>.ok (.int (i+j))|.lst xs,.lst ys=>if xs.length+ys.length<=lim then .ok (.lst (xs++ys))else .bad|.tup xs,.tup ys=>if xs.length+ys.length<=lim then .ok (.tup (xs++ys))else .bad|_,_=>.bad
noncomputable def jx:W->W->Res W|.int i,.int j=>.ok (.int (i-j))|_,_=>.bad
noncomputable def eS:W->W->Res W|.int i,.int j=>if -2^64<i/\i<2^64\/-2^64<j/\j<2^64 then .ok (.int (i*j))else .bad|_,_=>.bad
noncomputable def oDiv:W->W->Res W|.int i,.int j=>if 0<j/\j<10^100 then .ok (.int (i/j))else .bad|_,_=>.bad
noncomputable def oMod:W->W->Res W|.int i,.int j=>if 0<j then .ok (.int (i%j))else .bad|_,_=>.bad
noncomputable def afs:W->W->Res W|.int i,.int j=>if 0<=j/\j<=1000/\i.natAbs<2^64 then .ok (.int (i^j.toNat))else .bad|_,_=>.bad
noncomputable def ni:W->Res W|.int i=>.ok (.int (-i))|_=>.bad
noncomputable def oLt:W->W->Res W|.int i,.int j=>.ok (.bl (decide (i<j)))|_,_=>.bad
noncomputable def oLe:W->W->Res W|.int i,.int j=>.ok (.bl (decide (i<=j)))|_,_=>.bad
noncomputable def oGt:W->W->Res W|.int i,.int j=>.ok (.bl (decide (j<i)))|_,_=>.bad
noncomputable def oGe:W->W->Res W|.int i,.int j=>.ok (.bl (decide (j<=i)))|_,_=>.bad
noncomputable def nr:W->Bool|.non=>true|_=>false
noncomputable def isB(b:Bool):W->Bool|.bl c=>b==c|_=>false
def oIs(x:W):W->Res W|.non=>.ok (.bl (nr x))|.bl b=>.ok (.bl (isB b x))|_=>.bad
def iU(x:W):W->Res W|.non=>.ok (.bl !nr x)|.bl b=>.ok (.bl !isB b x)|_=>.bad
noncomputable def ixN(n:Nat)(i:Int):Option Nat:=if 0<=i then if i<n then some i.toNat else none else if -(n:Int)<=i then some (i+n).toNat else none
def atI{a:Type}(xs:List a)(i:Int):Option a:=(ixN xs.length i).bind λj=>xs[j]?
noncomputable def ofO{b}:Option b->Res b|some a=>.ok a|none=>.bad
@[simp]def ajw{b}(a:b):ofO (some a)=.ok a:=(rfl)
noncomputable def mV(k:Str):List W->List W->Option W|.str x::ks,v::vs=>if x==k then some v else mV k ks vs|_,_=>none
def oIx:W->W->Res W|.lst xs,.int i=>ofO (atI xs i)|.tup xs,.int i=>ofO (atI xs i)|.dic ks vs,.str k=>ofO (mV k ks vs)|_,_=>.bad
noncomputable def sIx(n d:Nat):Option Int->Nat|none=>d|some v=>if v<0 then(v+(n:Int)).toNat else min v.toNat n
def cut{a:Type}(xs:List a)(lo b:Option Int):List a:=(xs.drop (sIx xs.length 0 lo)).take (sIx xs.length xs.length b-sIx xs.length 0 lo)
def oSl:W->Option Int->Option Int->Res W|.lst xs,lo,hi=>.ok (.lst (cut xs lo hi))|.tup xs,lo,hi=>if sIx xs.length 0 lo=0/\sIx xs.length xs.length hi=xs.length then .bad else .ok (.tup (cut xs lo hi))|_,_,_=>.bad
noncomputable def oH:List W->Res W|[.lst xs]=>.ok (.int xs.length)|[.tup xs]=>.ok (.int xs.length)|_=>.bad
noncomputable def ie:List W->Res W|[.lst xs]=>.ok (.tup xs)|[.tup xs]=>.ok (.tup xs)|_=>.bad
noncomputable def al5:List W->Res W|[.lst xs]=>.ok (.lst xs)|[.tup xs]=>.ok (.lst xs)|_=>.bad
noncomputable def ael:List W->Res W|[.int i]=>.ok (.int (if i<0 then -i else i))|_=>.bad
noncomputable def uH:List W->Res W|[.int i,.int j]=>.ok (.int (if j>i then j else i))|_=>.bad
noncomputable def aek:List W->Res W|[.bl b]=>.ok (.int (if b then 1 else 0))|[.int i]=>.ok (.int i)|_=>.bad
noncomputable def allB:List W->Option Bool|[]=>some true|.bl b::xs=>(allB xs).map λc=>b&&c|_=>none
def adj:List W->Res W
|[.lst xs]=>match allB xs with|some b=>.ok (.bl b)|none=>.bad
|_=>.bad
noncomputable def afI:W->String|.non=>"NoneType"|.bl _=>"bool"|.int _=>"int"|.str _=>"str"|.ty _=>"type"|.tup _=>"tuple"|.lst _=>"list"|.dic _ _=>"dict"|.cls _=>"type"|.exc _ _=>"exception"|.ins _ _=>"object"|.id _=>"object"
def isK(w:W)(t:String):Option Bool:=match w with|.ty _=>none|.dic _ _=>none|.cls _=>none|.exc _ _=>none|.ins _ _=>none|.id _=>none|_=>if["int","bool","str","list","tuple"].contains t then some (afI w==t||afI w=="bool"&&t=="int")else none
def bF:List W->Res W
|[x,.ty t]=>match isK x t with|some b=>.ok (.bl b)|none=>.bad
|_=>.bad
noncomputable def ai(i:Nat):EF:=λσ=>match σ[i]? with|some (.va w)=>.ok w|_=>.bad
noncomputable def eC(w:W):EF:=λ_=>.ok w
def eOp(r:W->W->Res W)(a b:EF):EF:=λσ=>(a σ).bind λx=>(b σ).bind λy=>r x y
def eUn(r:W->Res W)(a:EF):EF:=λσ=>(a σ).bind r
def oA(r d:W->W->Res W)(a b c:EF):EF:=λσ=>(a σ).bind λx=>(b σ).bind λy=>(r x y).bind λz=>match z with|.bl true=>(c σ).bind λw=>d y w|.bl false=>.ok (.bl false)|_=>.bad
noncomputable def toB:W->Res Bool|.bl b=>.ok b|_=>.bad
def tB(e:EF):TF:=λσ=>(e σ).bind toB
def yX(a b:TF):TF:=λσ=>(a σ).bind λx=>match x with|true=>b σ|false=>.ok false
def tOr(a b:TF):TF:=λσ=>(a σ).bind λx=>match x with|true=>.ok true|false=>b σ
def abq(a:TF):TF:=λσ=>(a σ).bind λx=>.ok !x
def aaU(a b:EF):EF:=λσ=>(a σ).bind λx=>match x with|.bl true=>b σ|.bl false=>.ok (.bl false)|_=>.bad
def aiU(a:EF):EF:=λσ=>(a σ).bind λx=>match x with|.bl b=>.ok (.bl !b)|_=>.bad
def eIf(t:TF)(a b:EF):EF:=λσ=>(t σ).bind λx=>match x with|true=>a σ|false=>b σ
noncomputable def aw:AF:=λ_=>.ok []
def ae(e:EF)(a:AF):AF:=λσ=>(e σ).bind λx=>(a σ).bind λb=>.ok (x::b)
def ff(a:AF):EF:=λσ=>(a σ).bind λb=>if b.length<=lim then .ok (.tup b)else .bad
def iB(a:AF):EF:=λσ=>(a σ).bind λb=>if b.length<=lim then .ok (.lst b)else .bad
def aJ(f:List W->Res W)(a:AF):EF:=λσ=>(a σ).bind λws=>match f ws with|.ok w=>.ok w|_=>.bad
def eBi(f:List W->Res W)(a:AF):EF:=λσ=>(a σ).bind f
def amW(T:String)(r:W->List W->Res W)(o:EF)(a:AF):EF:=λσ=>(o σ).bind λx=>if afI x==T then(a σ).bind λws=>r x ws else .bad
noncomputable def idx(x:W):Nat->List W->Option Nat|_,[]=>none|k,y::ys=>if eqv y x then some k else idx x (k+1) ys
def amJ:W->List W->Res W|.lst ys,[x]=>if okD 50 x&&iT 51 ys&&decide (ys.length<=lim)then match idx x 0 ys with|some k=>.ok (.int k)|none=>.bad else .bad|_,_=>.bad
noncomputable def gS:List W->Option (List W×List W)|[]=>some ([],[])|.str k::v::r=>(gS r).map λp=>(.str k::p.1,v::p.2)|_=>none
noncomputable def bY:List W->Bool|[]=>true|.str k::ks=>!(ks.any λx=>match x with|.str y=>y==k|_=>true)&&bY ks|_=>false
def aiV(a:AF):EF:=λσ=>(a σ).bind λb=>match gS b with|some (ks,vs)=>if bY ks&&decide (ks.length<=15)then .ok (.dic ks vs)else .bad|none=>.bad
noncomputable def pNo:Ws->Res (Option Int):=λ_=>.ok none
def ke(e:EF):Ws->Res (Option Int):=λσ=>(e σ).bind λx=>match x with|.int i=>.ok (some i)|_=>.bad
def eSl(e:EF)(lo a:Ws->Res (Option Int)):EF:=λσ=>(e σ).bind λx=>(lo σ).bind λl=>(a σ).bind λh=>oSl x l h
noncomputable def itemsOf:W->Res (List W)|.lst xs=>.ok xs|.tup xs=>.ok xs|_=>.bad
@[simp]def afK(xs):itemsOf (.lst xs)=.ok xs:=(rfl)
@[simp]def afJ(xs):itemsOf (.tup xs)=.ok xs:=(rfl)
def sM(e:EF):LF:=λσ=>(e σ).bind itemsOf
noncomputable def rng(lo:Int)(n:Nat):List W:=(List.range n).map λi=>.int (lo+(i:Nat))
def gi(e:EF):LF:=λσ=>(e σ).bind λx=>match x with|.int j=>if -2^62<=j/\j<2^62 then .ok (rng 0 j.toNat)else .bad|_=>.bad
def rS(e a:EF):LF:=λσ=>(e σ).bind λx=>(a σ).bind λy=>match x,y with|.int i,.int j=>if -2^62<=i/\i<2^62/\-2^62<=j/\j<2^62 then .ok (rng i (j-i).toNat)else .bad|_,_=>.bad
noncomputable def dY:Nat->List W->List W|_,[]=>[]|k,x::xs=>.tup [.int k,x]::dY (k+1) xs
def rT(e:EF):LF:=λσ=>(e σ).bind λx=>match x with|.tup xs=>.ok (dY 0 xs)|.lst xs=>.ok (dY 0 xs)|_=>.bad
noncomputable def au(i:Nat):GF:=λw σ=>.ok (σ.set i (.va w))
abbrev GsF:=List W->Ws->Res Ws
noncomputable def kN:GsF:=λws σ=>match ws with|[]=>.ok σ|_=>.bad
noncomputable def bu(g:GF)(a:GsF):GsF:=λws σ=>match ws with|w::r=>(match g w σ with|.ok σ'=>(match a r σ' with|.ok σ2=>.ok σ2|_=>.bad)|_=>.bad)|[]=>.bad
noncomputable def k7(a:GsF):GF:=λw σ=>match w with|.tup ws=>a ws σ|_=>.bad
def acV(i:Nat)(e:EF):GF:=λw σ=>match σ[i]? with
|some (.ow ws)=>match e σ with|.ok (.int k)=>(match ixN ws.length k with|some j=>.ok (σ.set i (.ow (ws.set j w)))|none=>.bad)|_=>.bad
|_=>.bad
noncomputable def br(g:GF)(t:TF)(e:EF)(σ:Ws):List W->Res (List W)|[]=>.ok []|x::xs=>(g x σ).bind λa=>(t a).bind λb=>match b with|true=>(e a).bind λy=>(br g t e σ xs).bind λc=>.ok (y::c)|false=>br g t e σ xs
noncomputable def fE:TF:=λ_=>.ok true
def ue(k:Nat)(it:LF)(g:GF)(t:TF)(e:EF):LF:=λσ=>(it σ).bind λa=>if a.length<=lim then match br g t e (List.replicate k .no++σ) a with|.ok ys=>.ok ys|_=>.bad else .bad
def fu(k:Nat)(it:LF)(g:GF)(t:TF)(e:EF):EF:=λσ=>(ue k it g t e σ).bind λa=>.ok (.lst a)
noncomputable def frz(i:Nat)(σ:Ws):Ws:=match σ[i]? with|some (.ow ws)=>σ.set i (.va (.lst ws))|some (.od ks vs)=>σ.set i (.va (.dic ks vs))|_=>σ
mutual def plain:W->Bool|.tup xs=>jt xs|.lst _=>false|.dic _ _=>false|.exc _ _=>false|.ins _ _=>false|.id _=>false|_=>true def jt:List W->Bool|[]=>true|x::xs=>plain x&&jt xs end
def afV(i:Nat)(e:EF):EF:=λσ=>match e (frz i σ)with|.ok w=>if plain w then .ok w else .bad|_=>.bad
def age(i:Nat)(t:TF):TF:=λσ=>match t (frz i σ)with|.ok b=>.ok b|_=>.bad
noncomputable def sNx:SF:=λσ=>.nx σ
noncomputable def aG(a b:SF):SF:=λσ=>match a σ with|.nx σ'=>b σ'|o=>o
noncomputable def ofR{b}(σ:Ws)(r:Res b)(f:b->Out):Out:=match r with|.ok a=>f a|.ex c=>.ex c σ|.bad=>.bad
def gB(i:Nat)(e:EF):SF:=λσ=>ofR σ (e σ) λw=>.nx (σ.set i (.va w))
def qS(i:Nat)(l:LF):SF:=λσ=>ofR σ (l σ) λws=>.nx (σ.set i (.ow ws))
def aia(a:AF):LF:=λσ=>(a σ).bind λb=>if b.length<=lim then .ok b else .bad
def adM(e:EF)(g:GF):SF:=λσ=>ofR σ (e σ) λw=>ofR σ (g w σ) λa=>.nx a
def sIf(t:TF)(a b:SF):SF:=λσ=>ofR σ (t σ) λx=>match x with|true=>a σ|false=>b σ
def dn(e:EF):SF:=λσ=>ofR σ (e σ) λw=>.rt w
def ahf(i:Nat)(e:EF):SF:=λσ=>match σ[i]? with|some (.ow ws)=>ofR σ (e σ) λw=>if ws.length<lim then .nx (σ.set i (.ow (ws++[w])))else .bad|_=>.bad
def x4(i:Nat)(t:SF):SF:=λσ=>t (frz i σ)
noncomputable def forL(g:GF)(b:SF):List W->Ws->Out|[],σ=>.nx σ|x::xs,σ=>ofR σ (g x σ) λa=>match b a with|.nx σ2=>forL g b xs σ2|.ct σ2=>forL g b xs σ2|.bk σ2=>.nx σ2|o=>o
def qp(it:LF)(g:GF)(b:SF):SF:=λσ=>ofR σ (it σ) λa=>forL g b a σ
noncomputable def iL(c:TF)(b:SF):Nat->Ws->Out|0,_=>.bad|n+1,σ=>ofR σ (c σ) λx=>match x with
 |true=>match b σ with|.nx σ2=>iL c b n σ2|.ct σ2=>iL c b n σ2|.bk σ2=>.nx σ2|o=>o
 |false=>.nx σ
def n4(n:Ws->Nat)(c:TF)(b:SF):SF:=λσ=>iL c b (n σ) σ
noncomputable def ll:List String:=["FloorError","NotEven","NoCall","NoName","NoProgram","TooMany","NoPairs","NoRow","Blind","Out","Meet","Broken"]
noncomputable def nG(nm d:String):Bool:=nm==d||d=="FloorError"
noncomputable def fieldsOf(nm:String):List Str:=if nm=="Blind"then["who"]else if nm=="Out"then["who"]else if nm=="Meet"then["one","other"]else if nm=="Broken"then["at","why"]else[]
def eg(d:String):W->Bool|.exc nm _=>nG nm d|_=>false
noncomputable def agf:SF:=λ_=>.bad
def vi(nm:String)(a:AF):SF:=λσ=>ofR σ (a σ) λws=>if ws.length<=100 then .ex (.exc nm []) σ else .bad
def en(f:List W->Res W)(a:AF):EF:=λσ=>(a σ).bind f
def hOut(d:String)(h:SF)(c:W)(σ:Ws):Out:=if eg d c then match h σ with|.ex _ _=>.bad|o=>o else .bad
def mH(d:String)(i:Nat)(h:SF)(c:W)(σ:Ws):Out:=if eg d c then match h (σ.set i (.va c))with|.nx σ2=>.nx (σ2.set i .no)|.rt w=>.rt w|_=>.bad else .bad
def l3(b:SF)(d:String)(i:Nat)(h:SF):SF:=λσ=>match b σ with|.ex c σ'=>mH d i h c σ'|o=>o
noncomputable def uh(c:String):List Str:=if c=="Book"then["calls"]else if c=="Search"then["goal","most","rows","seen"]else if c=="PairedFloor"then["floor","pairs","middles"]else[]
noncomputable def run(n:Nat)(t:SF)(ws:List W):Res W:=match t (ws.map .va++List.replicate (n-ws.length) .no)with|.rt w=>.ok w|.nx _=>.ok .non|.ex c _=>.ex c|_=>.bad
def qm:List W->Res W|[.exc nm _,.cls d]=>.ok (.bl (nG nm d))|[.exc _ _,.ty "ValueError"]=>.ok (.bl true)|_=>.bad
@[simp]def ajX(nm d:String)(fs:List W):qm [.exc nm fs,.cls d]=.ok (.bl (nG nm d)):=rfl
@[simp]def al6(nm:String)(fs:List W):qm [.exc nm fs,.ty "ValueError"]=.ok (.bl true):=rfl
noncomputable def nI:W->Bool|.int i=>decide (i.natAbs.log2<100)|_=>false
def l4(nm:String)(a:AF):SF:=λσ=>ofR σ (a σ) λws=>if ws.length=(fieldsOf nm).length/\ws.all nI=true then .ex (.exc nm ws) σ else .bad
def n5(nm:String)(a:AF)(σ:Ws):l4 nm a σ=ofR σ (a σ) λws=>if ws.length=(fieldsOf nm).length/\ws.all nI=true then .ex (.exc nm ws) σ else .bad:=(rfl)
def alJ(f:Str):W->Res W
|.exc nm fs=>match((fieldsOf nm).zip fs).lookup f with|some w=>.ok w|none=>.bad
|_=>.bad
def ajR(a:EF)(f:Str):EF:=λσ=>(a σ).bind (alJ f)
noncomputable def qq(σ:Ws):Ws:=σ.map λs=>match s with|.ow _=>.no|.od _ _=>.no|s=>s
def aac(k:Nat)(it:LF)(g:GF)(t:TF)(e:EF):LF:=λσ=>(it σ).bind λa=>if a.length<=lim then br g t e (List.replicate k .no++qq σ) a else .bad
def mR(k:Nat)(it:LF)(g:GF)(t:TF)(e:EF):EF:=λσ=>(aac k it g t e σ).bind λa=>.ok (.lst a)
def mD(k:Nat)(it:LF)(g:GF)(t:TF)(e:EF)(σ:Ws):aac k it g t e σ=(it σ).bind λa=>if a.length<=lim then br g t e (List.replicate k .no++qq σ) a else .bad:=(rfl)
def mQ(k:Nat)(it:LF)(g:GF)(t:TF)(e:EF)(σ:Ws):mR k it g t e σ=(aac k it g t e σ).bind λa=>.ok (.lst a):=(rfl)
noncomputable def sP:List W->List W->List W|x::xs,y::ys=>.tup [x,y]::sP xs ys|_,_=>[]
def aiv(a b:EF):LF:=λσ=>(a σ).bind λx=>(b σ).bind λy=>match x,y with|.lst xs,.lst ys=>if xs.length=ys.length then .ok (sP xs ys)else .bad|.tup xs,.tup ys=>if xs.length=ys.length then .ok (sP xs ys)else .bad|_,_=>.bad
def aaq(a b:EF)(σ:Ws):aiv a b σ=(a σ).bind λx=>(b σ).bind λy=>match x,y with|.lst xs,.lst ys=>if xs.length=ys.length then .ok (sP xs ys)else .bad|.tup xs,.tup ys=>if xs.length=ys.length then .ok (sP xs ys)else .bad|_,_=>.bad:=(rfl)
def anD(e:EF)(st:Ws->Res (Option Int)):EF:=λσ=>(e σ).bind λx=>(st σ).bind λo=>match x,o with|.lst xs,some i=>if i=-1 then .ok (.lst xs.reverse)else .bad|_,_=>.bad
noncomputable def cnt(x:W):List W->Nat|[]=>0|y::ys=>cnt x ys+if eqv y x then 1 else 0
def om:W->List W->Res W|.lst ys,[x]=>if okD 50 x&&iT 51 ys then .ok (.int (cnt x ys))else .bad|_,_=>.bad
def gq:List W->Res W
|[x,.tup [.ty t,.ty u]]=>match isK x t,isK x u with|some b,some c=>.ok (.bl (b||c))|_,_=>.bad
|_=>.bad
def m5(x:W)(t u:String):gq [x,.tup [.ty t,.ty u]]=match isK x t,isK x u with|some b,some c=>.ok (.bl (b||c))|_,_=>.bad:=(rfl)
noncomputable def dd:List (List Int)->List (List Int):=List.foldl (λa k=>if k∈a then a else k::a) []
abbrev XF:=Ws->Res (W×Ws)
abbrev XA:=Ws->Res (List W×Ws)
abbrev FS:=List W->List W->Res (W×List W)
def xOp(r:W->W->Res W)(a b:XF):XF:=λσ=>(a σ).bind λp=>(b p.2).bind λq=>(r p.1 q.1).bind λw=>.ok (w,q.2)
noncomputable def bc:XA:=λσ=>.ok ([],σ)
def aF(a:XF)(b:XA):XA:=λσ=>(a σ).bind λp=>(b p.2).bind λq=>.ok (p.1::q.1,q.2)
def agI(a:XA):XF:=λσ=>(a σ).bind λp=>if p.1.length<=lim then .ok (.tup p.1,p.2)else .bad
def bq(f:FS)(i:Nat)(a:XA):XF:=λσ=>match σ[i]? with
|some (.ow _)=>(a σ).bind λp=>match p.2[i]? with
 |some (.ow st)=>match f st p.1 with|.ok q=>.ok (q.1,p.2.set i (.ow q.2))|_=>.bad
 |_=>.bad
|_=>.bad
noncomputable def ofX{b:Type}(r:Res b)(f:b->Out):Out:=match r with|.ok a=>f a|_=>.bad
def aW(i:Nat)(x:XF):SF:=λσ=>ofX (x σ) λp=>.nx (p.2.set i (.va p.1))
def pq(x:XF)(a b:SF):SF:=λσ=>ofX (x σ) λp=>match p.1 with|.bl true=>a p.2|.bl false=>b p.2|_=>.bad
def qW(x:XF)(g:GF)(b:SF):SF:=λσ=>ofX (x σ) λp=>match p.1 with|.int n=>if -2^62<=n/\n<2^62 then forL g b (rng 0 n.toNat) p.2 else .bad|_=>.bad
noncomputable def rtS(i:Nat)(w:W)(σ:Ws):Out:=match σ[i]? with|some (.ow st)=>.rt (.exc "" [w,.lst st])|_=>.bad
noncomputable def agn:Out->Res (W×List W)|.rt (.exc nm [w,.lst st])=>if nm=""then .ok (w,st)else .bad|_=>.bad
def ae4(n:Nat)(t:SF):FS:=λst ws=>agn (t (.ow st::(ws.map .va++List.replicate (n-1-ws.length) .no)))
def kE(r:W->W->Res W)(a b:XF)(σ:Ws):xOp r a b σ=(a σ).bind λp=>(b p.2).bind λq=>(r p.1 q.1).bind λw=>.ok (w,q.2):=(rfl)
def cO(σ:Ws):bc σ=.ok ([],σ):=(rfl)
def cn(a:XF)(b:XA)(σ:Ws):aF a b σ=(a σ).bind λp=>(b p.2).bind λq=>.ok (p.1::q.1,q.2):=(rfl)
def yd(a:XA)(σ:Ws):agI a σ=(a σ).bind λp=>if p.1.length<=lim then .ok (.tup p.1,p.2)else .bad:=(rfl)
def aN(i:Nat)(x:XF)(σ:Ws):aW i x σ=ofX (x σ) λp=>.nx (p.2.set i (.va p.1)):=(rfl)
def bj{b:Type}(a:b)(f:b->Out):ofX (.ok a) f=f a:=(rfl)
def bR(x:XF)(a b:SF)(σ:Ws):pq x a b σ=ofX (x σ) λp=>match p.1 with|.bl true=>a p.2|.bl false=>b p.2|_=>.bad:=(rfl)
def pw(x:XF)(g:GF)(b:SF)(σ:Ws):qW x g b σ=ofX (x σ) λp=>match p.1 with|.int n=>if -2^62<=n/\n<2^62 then forL g b (rng 0 n.toNat) p.2 else .bad|_=>.bad:=(rfl)
def i3(n:Nat)(t:SF)(st ws:List W):ae4 n t st ws=agn (t (.ow st::(ws.map .va++List.replicate (n-1-ws.length) .no))):=(rfl)
def ib(w:W)(st:List W):agn (.rt (.exc "" [w,.lst st]))=.ok (w,st):=(rfl)
def yP(j:Nat)(e:EF):XF:=λσ=>(e (σ.set j .no)).bind λw=>.ok (w,σ)
def yT(j:Nat)(t:TF):XF:=λσ=>(t (σ.set j .no)).bind λb=>.ok (.bl b,σ)
noncomputable def rks:List W:=[.str "left",.str "at",.str "cells"]
def rdS(j:Nat)(σ:Ws):Option Sl->Res Ws|some (.ow st)=>.ok (σ.set j (.va (.dic rks st)))|_=>.bad
def yR(j:Nat)(e:EF):XF:=λσ=>(rdS j σ σ[j]?).bind λa=>(e a).bind λw=>if plain w=true then .ok (w,σ)else .bad
def yRT(j:Nat)(t:TF):XF:=λσ=>(rdS j σ σ[j]?).bind λa=>(t a).bind λb=>.ok (.bl b,σ)
def aj8(a:XA):XF:=λσ=>(a σ).bind λp=>if p.1.length<=lim then .ok (.lst p.1,p.2)else .bad
def anA(a b:XF):XF:=λσ=>(a σ).bind λp=>match p.1 with|.bl true=>b p.2|.bl false=>.ok (.bl false,p.2)|_=>.bad
noncomputable def aez:XF:=λσ=>.ok (.bl true,σ)
noncomputable def iJ(c x:XF):Ws->List W->Res (List W×Ws)|σ,[]=>.ok ([],σ)|σ,w::ws=>(c (σ.set 0 (.va w))).bind λp=>match p.1 with|.bl true=>(x p.2).bind λp=>(iJ c x p.2 ws).bind λq=>.ok (p.1::q.1,q.2)|.bl false=>iJ c x p.2 ws|_=>.bad
def abx(n c x:XF):XF:=λσ=>(n σ).bind λp=>match p.1 with|.int k=>if -2^62<=k/\k<2^62/\k.toNat<=lim then(iJ c x (.no::p.2) (rng 0 k.toNat)).bind λq=>.ok (.lst q.1,q.2.drop 1)else .bad|_=>.bad
def zb(j i:Nat)(l:LF):SF:=λσ=>ofX (l (σ.set j .no)) λws=>.nx (σ.set i (.ow ws))
noncomputable def akM(j n:Nat)(w:W)(σ:Ws):Option Sl->Out|some (.ow st)=>.nx (σ.set j (.ow (st.set n w)))|_=>.bad
def qU(j n:Nat)(x:XF):SF:=λσ=>ofX (x σ) λp=>akM j n p.1 p.2 p.2[j]?
def i2(j:Nat)(x:XF):SF:=λσ=>ofX (x σ) λp=>rtS j p.1 p.2
noncomputable def blk(j:Nat)(t:TF):TF:=λσ=>t (σ.set j .no)
noncomputable def gh:List W->Bool|[]=>true|.int _::r=>gh r|_=>false
noncomputable def rtE(nm:String)(w:W):Out:=if nm=""then .rt w else .bad
def aiT:Out->Out|.rt (.exc nm [w,.lst _])=>rtE nm w|_=>.bad
def aem:List W->Bool|[.lst xs]=>gh xs|_=>false
def aej:Res W->Option (List W)|.ok (.dic [.str a,.str b,.str c] [.int l,.int k,.lst cs])=>if a="left"/\b="at"/\c="cells"/\gh cs=true then some [.int l,.int k,.lst cs]else none|_=>none
def abY(j:Nat)(s:SF)(σ:Ws):Option (List W)->Out|some st=>aiT (s (σ.set j (.ow st)))|none=>.bad
def ae2(j:Nat)(f:List W->Res W)(a:AF)(s:SF):SF:=λσ=>ofX (a σ) λws=>if aem ws=true then abY j s σ (aej (f ws))else .bad
def cG(j:Nat)(e:EF)(σ:Ws):yP j e σ=(e (σ.set j .no)).bind λw=>.ok (w,σ):=(rfl)
def ly(j:Nat)(t:TF)(σ:Ws):yT j t σ=(t (σ.set j .no)).bind λb=>.ok (.bl b,σ):=(rfl)
def n6(j:Nat)(σ:Ws)(st:List W):rdS j σ (some (.ow st))=.ok (σ.set j (.va (.dic rks st))):=(rfl)
def wz(j:Nat)(e:EF)(σ:Ws):yR j e σ=(rdS j σ σ[j]?).bind λa=>(e a).bind λw=>if plain w=true then .ok (w,σ)else .bad:=(rfl)
def nC(j:Nat)(t:TF)(σ:Ws):yRT j t σ=(rdS j σ σ[j]?).bind λa=>(t a).bind λb=>.ok (.bl b,σ):=(rfl)
def aeA(a:XA)(σ:Ws):aj8 a σ=(a σ).bind λp=>if p.1.length<=lim then .ok (.lst p.1,p.2)else .bad:=(rfl)
def aey(σ:Ws):aez σ=.ok (.bl true,σ):=(rfl)
def oD(c x:XF)(σ:Ws)(w:W)(ws:List W):iJ c x σ (w::ws)=(c (σ.set 0 (.va w))).bind λp=>match p.1 with|.bl true=>(x p.2).bind λp=>(iJ c x p.2 ws).bind λq=>.ok (p.1::q.1,q.2)|.bl false=>iJ c x p.2 ws|_=>.bad:=(rfl)
def abw(n c x:XF)(σ:Ws):abx n c x σ=(n σ).bind λp=>match p.1 with|.int k=>if -2^62<=k/\k<2^62/\k.toNat<=lim then(iJ c x (.no::p.2) (rng 0 k.toNat)).bind λq=>.ok (.lst q.1,q.2.drop 1)else .bad|_=>.bad:=(rfl)
def abU(j i:Nat)(l:LF)(σ:Ws):zb j i l σ=ofX (l (σ.set j .no)) λws=>.nx (σ.set i (.ow ws)):=(rfl)
def tD(j n:Nat)(w:W)(σ:Ws)(st:List W):akM j n w σ (some (.ow st))=.nx (σ.set j (.ow (st.set n w))):=(rfl)
def pj(j n:Nat)(x:XF)(σ:Ws):qU j n x σ=ofX (x σ) λp=>akM j n p.1 p.2 p.2[j]?:=(rfl)
def eu(j:Nat)(x:XF)(σ:Ws):i2 j x σ=ofX (x σ) λp=>rtS j p.1 p.2:=(rfl)
def abV(j:Nat)(f:List W->Res W)(a:AF)(s:SF)(σ:Ws):ae2 j f a s σ=ofX (a σ) λws=>if aem ws=true then abY j s σ (aej (f ws))else .bad:=(rfl)
def ai6(j:Nat)(t:TF)(σ:Ws):blk j t σ=t (σ.set j .no):=(rfl)
def qT(i:Nat)(n c x:XF):SF:=λσ=>ofX (abx n c x σ) λp=>.nx (p.2.set i (.va p.1))
def zc(i:Nat)(n c x:XF)(σ:Ws):qT i n c x σ=ofX (abx n c x σ) λp=>.nx (p.2.set i (.va p.1)):=(rfl)
end WL
namespace SF
open PySem PySem.Builtin PySem.Builtin.Str PySem.StrLaws
noncomputable def acI(a:List Nat):List Str->List Nat|[]=>[]|[x]=>x.cps.toList|x::y::r=>x.cps.toList++(a++acI a (y::r))
theorem km(b:Str):∀(r:List Str)(a:Array Nat),(r.foldl (λa p=>a++b.cps++p.cps) a).toList=a.toList++match r with|[]=>[]|_=>b.cps.toList++acI b.cps.toList r
|[],a=>by simp|[x],a=>by simp[acI]|x::y::r,a=>by have:=km b (y::r) (a++b.cps++x.cps);rw[List.foldl_cons,this];simp[acI]
end SF
namespace WL
open PySem
def anB:W->W->Res W|.lst xs,.int k=>if -1000000<=k/\k<=1000000/\xs.length*k.toNat<=lim then .ok (.lst (List.replicate k.toNat xs).flatten)else .bad|.tup xs,.int k=>if xs≠[]/\k≠1/\-1000000<=k/\k<=1000000/\xs.length*k.toNat<=lim then .ok (.tup (List.replicate k.toNat xs).flatten)else .bad|_,_=>.bad
noncomputable def abZ(lo st:Int)(n:Nat):List W:=(List.range n).map λi=>.int (lo+(i:Nat)*st)
def aar(a b:EF):LF:=λσ=>(a σ).bind λx=>(b σ).bind λy=>match x,y with|.int i,.int j=>if -2^60<=i/\i<2^60/\-2^60<=j/\j<2^60 then .ok (abZ i 2 ((j-i+1)/2).toNat)else .bad|_,_=>.bad
noncomputable def amQ:W->Res W|.int i=>if i.natAbs<1000 then .ok (.int i)else .bad|.str x=>if x.length<=1000 then .ok (.str x)else .bad|_=>.bad
noncomputable def shL:List W->Option Nat|[]=>some 3|.str x::r=>(shL r).map (.+(10*x.length+4))|.int i::r=>if i.natAbs<1000 then(shL r).map (.+12)else none|_=>none
def shC(ws:List W):Bool:=iT 51 ws&&match shL ws with|some n=>decide (n<=80000)|none=>false
def agm:W->Res W|.str x=>if x.length<=5000/\(x.cps.toList.all λc=>Nat.ble c 1114111)=true then .ok (.str x)else .bad|.lst ws=>if shC ws=true then .ok (.lst ws)else .bad|.int i=>if i.natAbs<1000 then .ok (.int i)else .bad|.non=>.ok .non|.tup ws=>if shC ws=true then .ok (.tup ws)else .bad|.bl b=>.ok (.bl b)|_=>.bad
def eFf(e:EF):EF:=λσ=>(e σ).bind amQ
def eFr(e:EF):EF:=λσ=>(e σ).bind agm
def tr(nm:String)(a:AF):SF:=λσ=>ofR σ (a σ) λ_=>.ex (.exc nm []) σ
noncomputable def akR:W->Res W|.str y=>if y.length<=100000 then .ok (.str y)else .bad|_=>.bad
def ePt(e:EF):EF:=λσ=>(e σ).bind akR
noncomputable def sL:W->Bool|.str _=>true|.int _=>true|.non=>true|_=>false
noncomputable def hR:W->W->Bool|.str x,.str y=>x==y|.int i,.int j=>i==j|.non,.non=>true|_,_=>false
def afZ(k:W)(ks:List W):Bool:=ks.any λx=>hR x k
noncomputable def jE(k v:W):List W->List W->List W|k'::ks,v'::vs=>(if hR k' k then v else v')::jE k v ks vs|_,_=>[]
noncomputable def qV(i:Nat):SF:=λσ=>.nx (σ.set i (.od [] []))
def putK(ks:List W)(k:W):List W:=if afZ k ks then ks else ks++[k]
def agi(ks us:List W)(k v:W):List W:=if afZ k ks then jE k v ks us else us++[v]
def putD(i:Nat)(ks us:List W)(k v:W)(σ:Ws):Out:=if sL k=true/\ks.length<lim then .nx (σ.set i (.od (putK ks k) (agi ks us k v)))else .bad
def pk(i:Nat)(a b:EF):SF:=λσ=>match σ[i]? with|some (.od ks us)=>ofR σ (a σ) λv=>ofR σ (b σ) λk=>putD i ks us k v σ|_=>.bad
def anp(x y:W):Res W:=match x,y with|.str a,.str b=>.ok (.bl !(Builtin.Str.occurrences b a 0 b.length 1).isEmpty)|_,.str _=>.bad|x,y=>oIn x y
end WL
namespace WL
end WL
namespace WL
open PySem
def anC(x y:W):Res W:=match y with|.dic ks _=>if sL x=true then .ok (.bl (afZ x ks))else .bad|_=>anp x y
def am3:List W->Res W|[.dic ks _]=>if ks.length<=lim then .ok (.lst ks)else .bad|ws=>al5 ws
noncomputable def fP(k:W):List W->List W->Option W|k'::ks,v::vs=>if hR k' k then some v else fP k ks vs|_,_=>none
def tY(x y:W):Res W:=match x with|.dic ks us=>if sL y=true then ofO (fP y ks us)else .bad|_=>oIx x y
end WL
namespace WL
open PySem PyProof.Rows PySem.Spec
end WL
namespace WL
open PySem
noncomputable def inner:List W->Option (List W)
|.tup ts::_=>match ts.getLast? with|some (.lst us)=>some us|_=>none
|_=>none
abbrev Fs:=List (W×List W)
inductive KO where|nx(σ:Ws)(fs:Fs)|rt(w:W)|bad
abbrev KF:=Ws->Fs->KO
end WL
namespace WL
end WL
namespace WL
open PySem
inductive OX(S:Type)where|nx(σ:Ws)(s:S)|bk(σ:Ws)(s:S)|ct(σ:Ws)(s:S)|rt(w:W)(s:S)|ex(c:W)(σ:Ws)|bad
abbrev RF(S:Type):=Ws->S->OX S
variable{S:Type}
noncomputable def seen(adr:S->Nat)(val:S->W)(j:Nat)(σ:Ws)(s:S):Option Ws:=match σ[j]? with|some (.va (.id b))=>if b=adr s then some (σ.set j (.va (val s)))else none|_=>none
structure Sr where
 a:Nat
 d:Nat
 goal:W
 most:W
 rows:List W
 seen:List (List (List Int))
def at_(j:Nat)(σ:Ws)(s:Sr)(o:OX Sr):OX Sr:=match(σ[j]?:Option Sl)with|some (.va (.id b))=>if b=s.a then o else .bad|_=>.bad
noncomputable def aiK(c:String)(n:Nat):W->Res W|.ins c' ws=>if c'==c then match ws[n]? with|some w=>.ok w|none=>.bad else .bad|_=>.bad
def aaS(c:String)(n:Nat)(e:EF):EF:=λσ=>(e σ).bind (aiK c n)
noncomputable def isN(c:String):W->Bool|.ins c' _=>c'==c|_=>false
def oy(c:String)(b:List W->Res W)(o:EF)(a:AF):EF:=λσ=>(o σ).bind λy=>if isN c y=true then(a σ).bind λws=>b (y::ws)else .bad
def ajq(i:Nat)(w:W)(σ:Ws):Option Sl->Res (W×Ws)
|some (.ow ys)=>match w with|.int n=>if 0<=n/\n<ys.length/\ys.length<=lim then match ys[n.toNat]? with|some y=>.ok (y,σ.set i (.ow (ys.eraseIdx n.toNat)))|none=>.bad else .bad|_=>.bad
|_=>.bad
def yb(i:Nat)(x:XF):XF:=λσ=>match(σ[i]?:Option Sl)with|some (.ow _)=>(x σ).bind λp=>ajq i p.1 p.2 p.2[i]?|_=>.bad
def afc(i:Nat)(v k:W)(σ:Ws):Option Sl->Out|some (.od ks us)=>putD i ks us k v σ|_=>.bad
def iR(i:Nat)(a xk:XF):SF:=λσ=>match(σ[i]?:Option Sl)with|some (.od _ _)=>ofX (a σ) λp=>ofX (xk p.2) λq=>afc i p.1 q.1 q.2 q.2[i]?|_=>.bad
def amy(c:String)(g h:List W->Res W):List W->Res W
|[w]=>(g [w]).bind λp=>match h [w,p]with|.ok m=>.ok (.ins c [w,p,m])|_=>.bad
|_=>.bad
def oz(c:String)(f:List W->Res W)(a:AF):EF:=λσ=>(a σ).bind λws=>(f ws).bind λy=>if isN c y=true then .ok y else .bad
end WL
namespace WL
def ajl(i:Nat)(e:EF):SF:=λσ=>match σ[i]? with
|some (.ow ws)=>ofR σ (e σ) λw=>match w with|.lst zs=>if ws.length+zs.length<=lim then .nx (σ.set i (.ow (ws++zs)))else .bad|_=>.bad
|_=>.bad
end WL
namespace WL
open PySem.W(KasT kas_sort)
noncomputable def prs:List W->Option (List (Int×Int))|[]=>some []|.tup [.int a,.int b]::ws=>(prs ws).map ((a,b)::.)|_=>none
noncomputable def ltP(p q:Int×Int):Bool:=if p.1==q.1 then decide (p.2<q.2)else decide (p.1<q.1)
noncomputable def okT(n:Nat):KasT (Array Nat)->Bool|.ret p=>p.size==n|.ask i j k=>decide (i<n)&&decide (j<n)&&okT n (k true)&&okT n (k false)
noncomputable def agg(c:Nat->Nat->Bool):KasT (Array Nat)->Array Nat|.ret p=>p|.ask i j k=>agg c (k (c i j))
def ixs(ps:List (Int×Int)):List Nat:=(agg (λi j=>ltP (ps.getD i (0,0)) (ps.getD j (0,0))) (kas_sort ps.length)).toList
def kP:List W->Res W
|[.lst ws]=>match prs ws with|some ps=>if(decide (2<=ps.length)&&decide (ps.length<64)&&okT ps.length (kas_sort ps.length))=true then .ok (.lst ((ixs ps).map λi=>ws.getD i .non))else .bad|none=>.bad
|_=>.bad
end WL
namespace WL
def lLR(e:EF):LF:=λσ=>(e σ).bind λx=>match x with|.int j=>if 0<=j/\j<=1000 then .ok (rng 0 j.toNat)else .bad|_=>.bad
noncomputable def nK:List Nat->List W->Ws->Ws|i::is,w::ws,σ=>nK is ws (σ.set i (.va w))|_,_,σ=>σ
def tq(is:List Nat)(x:XF):SF:=λσ=>ofX (x σ) λp=>match p.1 with|.tup ws=>if ws.length=is.length then .nx (nK is ws p.2)else .bad|_=>.bad
end WL
namespace L2
open PySem PySem.Spec PyProof.Rows
def ax.rd{H H'}(e:ax H H'){a u}(q:Rd H a u):Rd H' a u:=q.imp (e _ _) λ⟨o,z⟩=>⟨o,e _ _ z⟩
end L2
namespace WS
open PySem PySem.Spec PyProof.Rows L2
open WL(Res Sl Ws EF TF AF LF GF GsF SF Out XF XA FS Fs KO KF OX RF Sr)
abbrev VW:=WL.W
def ExcAt(K:W.Frag)(nm:String)(C:Addr):Prop:=nm∈WL.ll/\W.nsIn K mainGlobals (Str.ofString nm)=some (some (.ref C))
mutual def RW(K:W.Frag)(H:Hp):VW->V->Prop|.non,v=>v=.non|.bl b,v=>v=.bl b|.int i,v=>v=.int i|.str x,v=>v=.str x|.ty n,v=>v=.ty n|.tup ws,v=>∃a vs,v=.ref a/\SqT K H a vs/\RWs K H ws vs|.lst ws,v=>∃a vs,v=.ref a/\SqL K H a vs/\RWs K H ws vs|.dic ks vs,v=>∃a kvs,v=.ref a/\Rd H a (.dK kvs)/\RWs K H ks (kvs.map λp=>kV p.1)/\RWs K H vs (kvs.map λp=>p.2)|.cls d,v=>∃a,v=.ref a/\ExcAt K d a|.exc nm fs,v=>∃a C dx,v=.ref a/\H a=some (.ext (excAt a C dx))/\ExcAt K nm C/\∃fvs:List (Str×V),fvs.map (·.1)=WL.fieldsOf nm/\RWs K H fs (fvs.map (·.2))/\(fvs=[]/\dx=none\/∃d,dx=some d/\H d=some (.xd fvs))|.ins c fs,v=>∃a C dx,∃fvs:List (Str×V),v=.ref a/\H a=some (.ins C dx fvs)/\W.nsIn K mainGlobals (Str.ofString c)=some (some (.ref C))/\fvs.map (·.1)=WL.uh c/\fvs≠[]/\RWs K H fs (fvs.map (·.2))|.id a,v=>v=.ref a def RWs(K:W.Frag)(H:Hp):List VW->List V->Prop|[],vs=>vs=[]|w::ws,vs=>∃v r,vs=v::r/\RW K H w v/\RWs K H ws r end
section
variable{K:W.Frag}{H H':Hp}
mutual theorem RW.via(ht:∀a xs,SqT K H a xs->SqT K H' a xs)(hl:∀a xs,SqL K H a xs->SqL K H' a xs)(hd:∀a kvs,Rd H a (.dK kvs)->Rd H' a (.dK kvs))(he:∀a φ,H a=some (.ext φ)->H' a=some (.ext φ))(hx:∀a fs,H a=some (.xd fs)->H' a=some (.xd fs))(hi:∀a C dx fs,fs≠[]->H a=some (.ins C dx fs)->H' a=some (.ins C dx fs)):∀(w:VW)(v:V),RW K H w v->RW K H' w v|.non,_,h=>by simpa only[RW]using h|.bl _,_,h=>by simpa only[RW]using h|.int _,_,h=>by simpa only[RW]using h|.str _,_,h=>by simpa only[RW]using h|.ty _,_,h=>by simpa only[RW]using h|.tup ws,_,h=>by obtain⟨a,vs,e,q,r⟩:=h;exact⟨a,vs,e,ht a vs q,RWs.via ht hl hd he hx hi ws vs r⟩|.lst ws,_,h=>by simp only[RW]at h⊢;obtain⟨a,vs,e,q,r⟩:=h;exact⟨a,vs,e,hl a vs q,RWs.via ht hl hd he hx hi ws vs r⟩|.dic ks vs,_,h=>by simp only[RW]at h⊢;obtain⟨a,kvs,e,q,r1,r2⟩:=h;exact⟨a,kvs,e,hd a kvs q,RWs.via ht hl hd he hx hi ks _ r1,RWs.via ht hl hd he hx hi vs _ r2⟩|.cls _,_,h=>by simpa only[RW]using h|.id _,_,h=>by simpa only[RW]using h|.exc nm fs,_,h=>by simp only[RW]at h⊢;obtain⟨a,C,dx,e,q,c,fvs,f1,f2,f3⟩:=h;exact⟨a,C,dx,e,he _ _ q,c,fvs,f1,RWs.via ht hl hd he hx hi fs _ f2,f3.imp (λz=>z) λ⟨d,z1,z2⟩=>⟨d,z1,hx _ _ z2⟩⟩|.ins c fs,_,h=>by simp only[RW]at h⊢;obtain⟨a,C,dx,fvs,e,q,c1,c2,c3,r⟩:=h;exact⟨a,C,dx,fvs,e,hi _ _ _ _ c3 q,c1,c2,c3,RWs.via ht hl hd he hx hi fs _ r⟩theorem RWs.via(ht:∀a xs,SqT K H a xs->SqT K H' a xs)(hl:∀a xs,SqL K H a xs->SqL K H' a xs)(hd:∀a kvs,Rd H a (.dK kvs)->Rd H' a (.dK kvs))(he:∀a φ,H a=some (.ext φ)->H' a=some (.ext φ))(hx:∀a fs,H a=some (.xd fs)->H' a=some (.xd fs))(hi:∀a C dx fs,fs≠[]->H a=some (.ins C dx fs)->H' a=some (.ins C dx fs)):∀(ws:List VW)(vs:List V),RWs K H ws vs->RWs K H' ws vs|[],_,h=>by simpa only[RWs]using h|w::ws,_,h=>by simp only[RWs]at h⊢;obtain⟨v,r,e,q,t⟩:=h;exact⟨v,r,e,RW.via ht hl hd he hx hi w v q,RWs.via ht hl hd he hx hi ws r t⟩end
def RW.keep(e:ax H H'){w v}(h:RW K H w v):RW K H' w v:=RW.via (λ_ _ q=>e.tup q) (λ_ _ q=>e.seq q) (λ_ _ q=>e.rd q) (λ_ _ q=>e _ _ q) (λ_ _ q=>e _ _ q) (λ_ _ _ _ _ q=>e _ _ q) w v h
def RWs.keep(e:ax H H'){ws vs}(h:RWs K H ws vs):RWs K H' ws vs:=RWs.via (λ_ _ q=>e.tup q) (λ_ _ q=>e.seq q) (λ_ _ q=>e.rd q) (λ_ _ q=>e _ _ q) (λ_ _ q=>e _ _ q) (λ_ _ _ _ _ q=>e _ _ q) _ _ h
mutual theorem RW.less(ht:∀a xs,SqT K H a xs->SqT K H' a xs):∀(w:VW)(v:V),WL.plain w=true->RW K H w v->RW K H' w v|.non,_,_,h=>by simpa only[RW]using h|.bl _,_,_,h=>by simpa only[RW]using h|.int _,_,_,h=>by simpa only[RW]using h|.str _,_,_,h=>by simpa only[RW]using h|.ty _,_,_,h=>by simpa only[RW]using h|.tup ws,_,p,h=>by obtain⟨a,vs,e,q,r⟩:=h;exact⟨a,vs,e,ht a vs q,RWs.less ht ws vs (by assumption) r⟩|.lst ws,_,p,_=>by cases p|.dic _ _,_,p,_=>by cases p|.cls _,_,_,h=>by simpa only[RW]using h|.id _,_,_,h=>by simpa only[RW]using h|.exc _ _,_,p,_=>by cases p|.ins _ _,_,p,_=>by cases p theorem RWs.less(ht:∀a xs,SqT K H a xs->SqT K H' a xs):∀(ws:List VW)(vs:List V),WL.jt ws=true->RWs K H ws vs->RWs K H' ws vs|[],_,_,h=>by simpa only[RWs]using h|w::ws,_,p,h=>by simp only[RWs]at h⊢;have p:=aoC.mp p;obtain⟨v,r,e,q,t⟩:=h;exact⟨v,r,e,RW.less ht w v p.1 q,RWs.less ht ws r p.2 t⟩end
theorem RWs.length:∀{ws vs},RWs K H ws vs->ws.length=vs.length|[],_,h=>by subst h;rfl|w::ws,_,h=>by obtain⟨v,r,rfl,_,t⟩:=h;simp [RWs.length t]
theorem RWs.get:∀{ws:List VW}{vs:List V}{i:Nat}{w:VW},RWs K H ws vs->ws[i]?=some w->∃v,vs[i]?=some v/\RW K H w v|[],_,_,_,_,e=>by simp at e|x::ws,_,0,w,h,e=>by simp only[RWs]at h;obtain⟨v,r,rfl,q,_⟩:=h;simp at e;subst e;exact⟨v,rfl,q⟩|x::ws,_,i+1,w,h,e=>by simp only[RWs]at h;obtain⟨v,r,rfl,_,t⟩:=h;obtain⟨u,b,a⟩:=RWs.get t (by simpa using e);exact⟨u,by simpa using b,a⟩
def RWs.get':∀{ws:List VW}{vs:List V}{i:Nat}{v:V},RWs K H ws vs->vs[i]?=some v->∃w,ws[i]?=some w/\RW K H w v:=λ{ws vs i v}h e=>by have f:=h.length;have c:i<vs.length:=(anM.mp e).1;obtain⟨d,a,b⟩:=RWs.get (w:=ws[i]) h (anJ (by omega));rw[e]at a;cases a;exact⟨_,anJ (by omega),b⟩
theorem RWs.app:∀{ws b vs a},RWs K H ws vs->RWs K H b a->RWs K H (ws++b) (vs++a)|[],_,_,_,h,h'=>by subst h;exact h'|w::ws,_,_,_,h,h'=>by obtain⟨v,r,rfl,q,t⟩:=h;exact⟨v,_,rfl,q,RWs.app t h'⟩
def RWs.one{w v}(h:RW K H w v):RWs K H [w] [v]:=by exact⟨v,[],rfl,h,rfl⟩
def RWs.cons{w v ws vs}(h:RW K H w v)(t:RWs K H ws vs):RWs K H (w::ws) (v::vs):=by exact⟨v,vs,rfl,h,t⟩
theorem RWs.drop:∀{ws vs}n,RWs K H ws vs->RWs K H (ws.drop n) (vs.drop n)|_,_,0,h=>by grind|[],_,n+1,h=>by subst h;simp[RWs]|w::ws,_,n+1,h=>by obtain⟨v,r,rfl,_,t⟩:=h;simpa using RWs.drop n t
theorem RWs.take:∀{ws vs}n,RWs K H ws vs->RWs K H (ws.take n) (vs.take n)|_,_,0,h=>rfl|[],_,n+1,h=>by subst h;simp[RWs]|w::ws,_,n+1,h=>by obtain⟨v,r,rfl,q,t⟩:=h;exact⟨v,_,rfl,q,RWs.take n t⟩
theorem RWs.set{w:VW}{v:V}(hw:RW K H w v):∀{ws:List VW}{vs:List V}(n:Nat),RWs K H ws vs->RWs K H (ws.set n w) (vs.set n v)|[],_,n,h=>by simp only[RWs]at h;subst h;simp[RWs]|x::ws,_,0,h=>by simp only[RWs]at h;obtain⟨u,r,rfl,q,t⟩:=h;simp only[aoH,RWs];exact⟨v,r,rfl,hw,t⟩|x::ws,_,n+1,h=>by simp only[RWs]at h;obtain⟨u,r,rfl,q,t⟩:=h;simp only[aoI,RWs];exact⟨u,_,rfl,q,RWs.set hw n t⟩
theorem RWs.cut{ws vs}(h:RWs K H ws vs)(lo a):RWs K H (WL.cut ws lo a) (agp vs lo a):=by unfold WL.cut agp;rw[<-h.length];exact(h.drop _).take _
def RWs.ints(ns:List Int):RWs K H (ns.map .int) (ns.map V.int):=by induction ns with|nil=>simp[RWs]|cons n ns ih=>exact⟨_,_,rfl,rfl,ih⟩
end
def NF:HO->Prop|.frz _ _=>False|.ins _ _ []=>False|_=>True
structure Bx where
 K:W.Frag
 H0:Hp
 F0:Hp
 xp:VW->Ws->Hp->Prop
 mono:∀c σ F F',ax F F'->xp c σ F->xp c σ F'
structure RB(B:Bx)(F H:Hp):Prop where
 sub:ax F H
 base:ax B.H0 H
 fz0:ax B.F0 F
 fr:∀a o,F a=some o->B.F0 a=some o\/B.H0 a=none/\NF o
def IsO:Sl->Prop|.od _ _=>True|.ob=>True|_=>False
structure OD(K:W.Frag)(H0:Hp)(σ:Ws)(σV:L2.St)(F H:Hp):Prop where
 od:∀(i:Nat)(ks us:List VW),σ[i]?=some (.od ks us)->∃a kvs,σV[i]?=some (some (.ref a))/\F a=none/\H0 a=none/\H a=some (.dK kvs)/\RWs K F ks (kvs.map λp=>kV p.1)/\RWs K F us (kvs.map λp=>p.2)ad:∀(i j:Nat)(ks us ks' us':List VW)(a:Addr),i≠j->σ[i]?=some (.od ks us)->σ[j]?=some (.od ks' us')->σV[i]?=some (some (.ref a))->σV[j]?=some (some (.ref a))->False
 ob:∀i:Nat,σ[i]?=some .ob->∃a C dx,σV[i]?=some (some (.ref a))/\F a=some (.ins C dx [])
def OD.via{K B D o σ g l k F F' H H'}(R:OD K D σ l F H)(G:B=K)(f:Nat->Nat)(J:∀i j,f i=f j->i=j\/∀c d,g[i]?≠some (.od c d))(h:∀i r,IsO r->g[i]?=some r->σ[f i]?=some r/\k[i]?=l[f i]?)(s:ax F F')(n:∀i(c d:List VW)a b,g[i]?=some (.od c d)->l[f i]?=some (some (.ref a))->H a=some (.dK b)->F a=none->D a=none->F' a=none/\o a=none/\H' a=some (.dK b)):OD B o g k F' H':=by
 subst G;refine⟨λi c d e=>?_,λi j c d m p a u A Z O S=>?_,λi e=>?_⟩;.obtain⟨t,v⟩:=h i (.od c d) trivial e;refine agw (R.od (f i) c d t) λa b q w U E N I=>?_;refine aeq (n i c d a b e q E w U) λM X P=>?_;exact agH a b (v.trans q) M X P (N.keep s) (I.keep s)
 .obtain⟨x,Q⟩:=h i (.od c d) trivial A;obtain⟨y,Y⟩:=h j (.od m p) trivial Z;refine R.ad _ (f j) c d m p a (λz=>?_) x y (Q.symm.trans O) (Y.symm.trans S);rcases J i j z with z|z;.exact u z
  .exact z _ _ A
 .obtain⟨t,v⟩:=h i .ob trivial e;refine wy (R.ob (f i) t) λa C T q w=>?_;exact⟨a,C,T,v.trans q,s _ _ w⟩
structure RS(B:Bx)(σ:Ws)(σV:L2.St)(F H:Hp):Prop where
 rb:RB B F H
 len:σ.length=σV.length
 va:∀(i:Nat)(w:VW),σ[i]?=some (.va w)->∃v,σV[i]?=some (some v)/\RW B.K F w v
 ow:∀(i:Nat)(ws:List VW),σ[i]?=some (.ow ws)->∃a vs,σV[i]?=some (some (.ref a))/\F a=none/\B.H0 a=none/\H a=some (.lst vs)/\RWs B.K F ws vs
 ap:∀(i j:Nat)(ws ws':List VW)(a:Addr),i≠j->σ[i]?=some (.ow ws)->σ[j]?=some (.ow ws')->σV[i]?=some (some (.ref a))->σV[j]?=some (some (.ref a))->False
 dd:OD B.K B.H0 σ σV F H
def RS.afW{B σ c F H F' H'}(R:RS B σ c F H)(s:ax F F')(n:∀a b,H a=some (.dK b)->F a=none->F' a=none/\H' a=some (.dK b)):OD B.K B.H0 σ c F' H':=R.dd.via rfl _ (λ_ _ z=>.inl z) (λ_ _ _ e=>⟨e,rfl⟩) s λ_ _ _ a b _ _ f d g=>⟨(n a _ f d).1,g,(n a _ f d).2⟩
def RS.ago{B σ c F H F' H'}(R:RS B σ c F H)(i){sl}(hs:¬IsO sl)(x)(s:ax F F')(n:∀j(f d:List VW)a b,i≠j->σ[j]?=some (.od f d)->c[j]?=some (some (.ref a))->H a=some (.dK b)->F a=none->F' a=none/\H' a=some (.dK b)):OD B.K B.H0 (σ.set i sl) (c.set i x) F' H':=by
 have h:∀{j:Nat}{s':Sl},IsO s'->(σ.set i sl)[j]?=some s'->i≠j:=λ{j s'}r e z=>by
  subst z;have q:i<σ.length:=by have:=(anM.mp e).1;simpa using this
  rw[anH q]at e;exact hs (an3 e▸r)
 refine R.dd.via rfl id (λ_ _ z=>.inl z) (λj f d e=>?_) s λj f d a b e p m k t=>?_;.have:=h d e;rw[anF this]at e;exact⟨e,by rw[anF this];rfl⟩
 .have g:=h (s':=.od f d) trivial e;rw[anF g]at e;obtain⟨o,l⟩:=n j f d a b g e p m k;exact⟨o,t,l⟩
def set_same{a:L2.St}{i x}(e:a[i]?=some x):a.set i x=a:=by
 apply List.ext_getElem?;intro j;by_cases b:i=j;.subst b;rw[anH (anM.mp e).1,e]
 .rw[anF b]
structure Ext(F H F' H':Hp):Prop where
 same:ax F F'
 rs:∀B σ σV,RS B σ σV F H->RS B σ σV F' H'
 rb:∀B,RB B F H->RB B F' H'
 own:∀a o,H a=some o->H' a=some o/\(F a=none->F' a=none)
structure Gr(F H F' H':Hp):Prop where
 f:ax F F'
 h:ax H H'
 nf:∀a o,H a=some o->F a=none->F' a=none
theorem Gr.refl{F H}:Gr F H F H:=⟨ax.refl _,ax.refl _,λ_ _ _ z=>z⟩
theorem Gr.trans{F H c g d f}(a:Gr F H c g)(b:Gr c g d f):Gr F H d f:=⟨a.f.trans b.f,a.h.trans b.h,λx o e z=>b.nf x o (a.h x o e) (a.nf x o e z)⟩
def Ext.gr{F H F' H'}(e:Ext F H F' H'):Gr F H F' H':=⟨e.same,λa o q=>(e.own a o q).1,λa o q=>(e.own a o q).2⟩
section
variable{B:Bx}{σ:Ws}{σV:L2.St}{F H:Hp}
def Gr.new{p}(c:F p=none)(b:H p=none)(o):Gr F H (upd F p o) (upd H p o):=⟨az c o,az b o,λa u e z=>by rw[aj (aQ e b)];exact z⟩
theorem Ext.refl(F H):Ext F H F H:=⟨ax.refl _,λ_ _ _ h=>h,λ_ h=>h,λ_ _ h=>⟨h,λz=>z⟩⟩
theorem Ext.trans{c f d e:Hp}(a:Ext F H c f)(b:Ext c f d e):Ext F H d e:=⟨a.same.trans b.same,λB σ σV h=>b.rs B σ σV (a.rs B σ σV h),λB h=>b.rb B (a.rb B h),λx o h=>⟨(b.own x o (a.own x o h).1).1,λz=>(b.own x o (a.own x o h).1).2 ((a.own x o h).2 z)⟩⟩
def RB.new(R:RB B F H){p}(d:H p=none)(o)(f:NF o:=by trivial):RB B (upd F p o) (upd H p o):=by
 refine⟨λb u e=>?_,λb u e=>?_,R.fz0.trans (az (R.sub.free d) o),λa u e=>?_⟩
 .by_cases c:b=p;.subst c;rw[aq]at e⊢;exact e
  .rw[aj c]at e⊢;exact R.sub b u e
 .exact az d o b u (R.base b u e)
 .by_cases c:a=p;.subst c;rw[aq]at e;cases e;exact .inr ⟨R.base.free d,f⟩
  .rw[aj c]at e;exact R.fr a u e
theorem RS.new(R:RS B σ σV F H){p}(b:H p=none)(o)(k:NF o:=by trivial):RS B σ σV (upd F p o) (upd H p o):=by
 have c:=R.rb.sub.free b;refine⟨R.rb.new b o k,R.len,λi w e=>?_,λi ws e=>?_,R.ap,R.afW (az c o) λa r f q=>⟨by rw[aj (aQ f b)];exact q,by rw[aj (aQ f b)];exact f⟩⟩;.obtain⟨v,g,d⟩:=R.va i w e;exact⟨v,g,d.keep (az c o)⟩
 .refine kR (R.ow i _ e) λa l g d n j m=>?_;have h:a≠p:=λz=>by grind
  exact adt a l g (by rw[aj h];exact d) n (by rw[aj h];exact j) (m.keep (az c o))
theorem Ext.new{p}(f:F p=none)(d:H p=none)(o)(c:NF o:=by trivial):Ext F H (upd F p o) (upd H p o):=⟨az f o,λ_ _ _ R=>R.new d o c,λ_ R=>R.new d o c,λa u e=>by
 have b:a≠p:=λz=>by grind
 exact⟨by rw[aj b];exact e,λz=>by rw[aj b];exact z⟩⟩
def RS.ajF(R:RS B σ σV F H){p}(c:H p=none)(o):RS B σ σV F (upd H p o):=by refine⟨⟨λb u e=>az c o b u (R.rb.sub b u e),λb u e=>az c o b u (R.rb.base b u e),R.rb.fz0,R.rb.fr⟩,R.len,R.va,λi ws e=>?_,R.ap,R.afW (ax.refl _) λa n d m=>⟨m,by rw[aj (aQ d c)];exact d⟩⟩;refine kR (R.ow i _ e) λa j h f l g k=>?_;exact⟨a,j,h,f,l,az c o _ _ g,k⟩
def RS.grow(R:RS B σ σV F H){F' H'}(g:Gr F H F' H')(k:RB B F' H'):RS B σ σV F' H':=by
 refine⟨k,R.len,λi w e=>?_,λi ws e=>?_,R.ap,R.afW g.f λa n d m=>⟨g.nf a _ d m,g.h a _ d⟩⟩;.obtain⟨v,c,b⟩:=R.va i w e;exact⟨v,c,b.keep g.f⟩
 .refine kR (R.ow i _ e) λa h c b l f j=>?_;exact⟨a,h,c,g.nf a _ f b,l,g.h a _ f,j.keep g.f⟩
theorem RS.set(R:RS B σ σV F H){i:Nat}{w:VW}{v:V}(hw:RW B.K F w v):RS B (σ.set i (.va w)) (σV.set i (some v)) F H:=by
 have q:=R.len;refine⟨R.rb,by simp[q],λj u e=>?_,λj ws e=>?_,λj k ws g a h c f l m=>?_,R.ago i (sl:=.va w) (λz=>z) _ (ax.refl _) λ_ _ _ _ _ _ _ _ o r=>⟨r,o⟩⟩
 .by_cases d:i=j
  .subst d;have b:i<σ.length:=by have:=(anM.mp e).1;simpa using this
   rw[anH b]at e;cases e;exact⟨v,anH (by omega),hw⟩
  .rw[anF d]at e⊢;exact R.va j u e
 .by_cases d:i=j
  .subst d;have b:i<σ.length:=by have:=(anM.mp e).1;simpa using this
   rw[anH b]at e;cases e
  .rw[anF d]at e⊢;exact R.ow j ws e
 .have p:i≠j:=λz=>by
   subst z;have b:i<σ.length:=by have:=(anM.mp c).1;simpa using this
   rw[anH b]at c;cases c
  have n:i≠k:=λz=>by
   subst z;have b:i<σ.length:=by have:=(anM.mp f).1;simpa using this
   rw[anH b]at f;cases f
  rw[anF p]at c l;rw[anF n]at f m;exact R.ap j k ws g a h c f l m
def RS.aji(R:RS B σ σV F H){i:Nat}{ws:List VW}{vs:List V}{a:Addr}(t:F a=none)(A:B.H0 a=none)(w:H a=some (.lst vs))(hw:RWs B.K F ws vs)(s:∀(j:Nat)(d:List VW),j≠i->σ[j]?=some (.ow d)->σV[j]?≠some (some (.ref a))):RS B (σ.set i (.ow ws)) (σV.set i (some (.ref a))) F H:=by
 have x:=R.len;have f:∀{j:Nat}{d:List VW},(σ.set i (.ow ws))[j]?=some (.ow d)->i=j->d=ws/\(σV.set i (some (V.ref a)))[j]?=some (some (.ref a)):=λ{j d}e z=>by
  subst z;have r:i<σ.length:=by have:=(anM.mp e).1;simpa using this
  rw[anH r]at e;cases e;exact⟨rfl,anH (by omega)⟩
 refine⟨R.rb,by simp[x],λj u e=>?_,λj d e=>?_,λj k d n b h p o q m=>?_,R.ago i (sl:=.ow ws) (λz=>z) _ (ax.refl _) λ_ _ _ _ _ _ _ _ v y=>⟨y,v⟩⟩
 .by_cases c:i=j
  .subst c;have r:i<σ.length:=by have:=(anM.mp e).1;simpa using this
   rw[anH r]at e;cases e
  .rw[anF c]at e⊢;exact R.va j u e
 .by_cases c:i=j;.obtain⟨rfl,g⟩:=f e c;exact⟨a,vs,g,t,A,w,hw⟩
  .rw[anF c]at e⊢;exact R.ow j d e
 .by_cases c:i=j;.obtain⟨_,g⟩:=f p c;rw[q]at g;cases g;have l:i≠k:=λz=>h (c.symm.trans z);rw[anF l]at o m;exact s k n (anY l) o m
  .rw[anF c]at p q;by_cases l:i=k;.obtain⟨_,g⟩:=f o l;rw[m]at g;cases g;exact s j d (anY c) p q
   .rw[anF l]at o m;exact R.ap j k d n b h p o q m
def RS.write(R:RS B σ σV F H){i}{ws us:List VW}{vs zs a}(e:σ[i]?=some (.ow ws))(l:σV[i]?=some (some (.ref a)))(p:F a=none)(t:B.H0 a=none)(N:H a=some (.lst vs))(C:RWs B.K F us zs):RS B (σ.set i (.ow us)) σV F (upd H a (.lst zs)):=by
 have s:i<σ.length:=(anM.mp e).1;refine⟨⟨λb u q=>by rw[aj ((λb o q z=>by subst z;rw[p]at q;cases q) b u q)];exact R.rb.sub b u q,λb u q=>by
  have f:b≠a:=λz=>by subst z;rw[t]at q;cases q
  rw[aj f];exact R.rb.base b u q,R.rb.fz0,R.rb.fr⟩,by simp[R.len],λj w q=>?_,λj d q=>?_,λj k d A b m x Q E G=>?_,by
 have K:=R.ago (H':=upd H a (.lst zs)) i (sl:=.ow us) (λz=>z) (some (.ref a)) (ax.refl _) λ_ _ _ b J _ _ _ h P=>⟨P,by
   have f:b≠a:=λz=>by subst z;rw[N]at h;cases h
   rw[aj f];exact h⟩;rwa[set_same l]at K⟩
 .by_cases c:i=j;.subst c;rw[anH s]at q;cases q
  .rw[anF c]at q;exact R.va j w q
 .by_cases c:i=j;.subst c;rw[anH s]at q;cases q;exact adt a zs l p t aq C
  .rw[anF c]at q;refine kR (R.ow j d q) λb g r M I y D=>?_;have f:b≠a:=λz=>by subst z;exact R.ap i j ws d b c e q l r
   exact adt b g r M I (by rw[aj f];exact y) D
 .have back:∀{j:Nat}{d:List VW},(σ.set i (.ow us))[j]?=some (.ow d)->∃g,σ[j]?=some (.ow g):=λ{j d}q=>by
   by_cases c:i=j;.subst c;exact⟨ws,e⟩
   .rw[anF c]at q;exact⟨d,q⟩
  obtain⟨g,v⟩:=back x;obtain⟨n,O⟩:=back Q;exact R.ap j k g n b m v O E G
def RS.amP(R:RS B σ σV F H){i:Nat}{sl:Sl}{a:Addr}{o:HO}{w:VW}(e:σ[i]?=some sl)(A:σV[i]?=some (some (.ref a)))(C:F a=none)(h0:B.H0 a=none)(X:H a=some o)(U:NF o)(hw:RW B.K (upd F a o) w (.ref a))(K:∀(j:Nat)(ws:List VW),i≠j->σ[j]?=some (.ow ws)->σV[j]?≠some (some (.ref a)))(Y:∀(j:Nat)(t y:List VW),i≠j->σ[j]?=some (.od t y)->σV[j]?≠some (some (.ref a))):RS B (σ.set i (.va w)) σV (upd F a o) H:=by
 have l:i<σ.length:=(anM.mp e).1;have s:ax F (upd F a o):=az C _;refine⟨⟨λb u q=>?_,R.rb.base,R.rb.fz0.trans s,λb u q=>?_⟩,by simp[R.len],λj Z q=>?_,λj h q=>?_,λj k h n b p g m G M=>?_,by
 have Q:=R.ago i (sl:=.va w) (λz=>z) (some (.ref a)) s λj t y b N c ej I D q2=>⟨by
  have r:b≠a:=λz=>by subst z;exact Y j t y c ej I
  rw[aj r];exact q2,D⟩;rwa[set_same A]at Q⟩
 .by_cases d:b=a;.subst d;rw[aq]at q;cases q;exact X
  .rw[aj d]at q;exact R.rb.sub b u q
 .by_cases d:b=a;.subst d;rw[aq]at q;cases q;exact .inr ⟨h0,U⟩
  .rw[aj d]at q;exact R.rb.fr b u q
 .by_cases c:i=j;.subst c;rw[anH l]at q;cases q;exact⟨.ref a,A,hw⟩
  .rw[anF c]at q;obtain⟨v,f,x⟩:=R.va j Z q;exact⟨v,f,x.keep s⟩
 .by_cases c:i=j;.subst c;rw[anH l]at q;cases q
  .rw[anF c]at q;obtain⟨b,O,f,x,P,T,J⟩:=R.ow j h q;have r:b≠a:=λz=>by subst z;exact K j h c q f
   exact⟨b,O,f,by rw[aj r];exact x,P,T,J.keep s⟩
 .have E:i≠j:=λz=>by subst z;rw[anH l]at g;cases g
  have S:i≠k:=λz=>by subst z;rw[anH l]at m;cases m
  rw[anF E]at g;rw[anF S]at m;exact R.ap j k h n b p g m G M
def Ow1:HO->Prop|.lst _=>True|.dK _=>True|_=>False
theorem RS.frz(R:RS B σ σV F H)(i):∃s,ax F s/\RS B (WL.frz i σ) σV s H/\(s=F/\WL.frz i σ=σ\/∃a o w,s=upd F a o/\Ow1 o/\F a=none/\WL.frz i σ=σ.set i (.va w)/\σV[i]?=some (some (.ref a))/\H a=some o/\B.H0 a=none):=by cases e:σ[i]? with
|none=>
 have c:WL.frz i σ=σ:=by unfold WL.frz;rw[e]
 rw[c];exact⟨F,ax.refl _,R,.inl ⟨rfl,rfl⟩⟩
|some sl=>cases sl with|no=>
  have c:WL.frz i σ=σ:=by unfold WL.frz;rw[e]
  rw[c];exact⟨F,ax.refl _,R,.inl ⟨rfl,rfl⟩⟩|va w=>
  have c:WL.frz i σ=σ:=by unfold WL.frz;rw[e]
  rw[c];exact⟨F,ax.refl _,R,.inl ⟨rfl,rfl⟩⟩|ob=>
  have c:WL.frz i σ=σ:=by unfold WL.frz;rw[e]
  rw[c];exact⟨F,ax.refl _,R,.inl ⟨rfl,rfl⟩⟩|ow ws=>
  have c:WL.frz i σ=σ.set i (.va (.lst ws)):=by unfold WL.frz;rw[e]
  rw[c];obtain⟨a,u,g,d,p,f,v⟩:=R.ow i ws e;refine⟨upd F a (.lst u),az d _,R.amP e g d p f trivial (by simp only[RW];exact⟨a,u,rfl,SqL.of aq,v.keep (az d _)⟩) (λj t l q z=>R.ap i j ws t a l e q g z) λj m n l q z=>?_,.inr ⟨a,_,_,rfl,trivial,d,rfl,g,f,p⟩⟩;obtain⟨b,r,h,_,_,k,_⟩:=R.dd.od j m n q;rw[z]at h;cases h;rw[f]at k;cases k|od m n=>
  have c:WL.frz i σ=σ.set i (.va (.dic m n)):=by unfold WL.frz;rw[e]
  rw[c];obtain⟨a,r,g,d,p,f,v,A⟩:=R.dd.od i m n e;refine⟨_,az d _,R.amP e g d p f trivial (by simp only[RW];exact⟨a,r,rfl,.inl aq,v.keep (az d _),A.keep (az d _)⟩) (λj t l q z=>?_) λj x y l q z=>R.dd.ad i j m n x y a l e q g z,.inr ⟨a,_,_,rfl,trivial,d,rfl,g,f,p⟩⟩;obtain⟨b,u,h,_,_,k,_⟩:=R.ow j t q;rw[z]at h;cases h;rw[f]at k;cases k
def RS.amw(R:RS B σ σV F H){i:Nat}{ks us:List VW}{kvs:List (Key×V)}{a:Addr}(x:F a=none)(K:B.H0 a=none)(G:H a=some (.dK kvs))(C:RWs B.K F ks (kvs.map λp=>kV p.1))(A:RWs B.K F us (kvs.map λp=>p.2))(w:∀(j:Nat)(o q:List VW),j≠i->σ[j]?=some (.od o q)->σV[j]?≠some (some (.ref a))):RS B (σ.set i (.od ks us)) (σV.set i (some (.ref a))) F H:=by
 have D:=R.len;have c:∀{j:Nat}{s:Sl},(σ.set i (.od ks us))[j]?=some s->i=j->s=.od ks us/\(σV.set i (some (V.ref a)))[j]?=some (some (.ref a)):=λ{j s}e z=>by
  subst z;have J:i<σ.length:=by have:=(anM.mp e).1;simpa using this
  rw[anH J]at e;exact⟨(an3 e).symm,anH (by omega)⟩
 refine⟨R.rb,by simp[D],λj u e=>?_,λj t e=>?_,λj k t v b l h g n m=>?_,λj o q e=>?_,λj k M us1 I us2 b l h g n m=>?_,λj e=>?_⟩
 .by_cases d:i=j;.cases(c e d).1
  .rw[anF d]at e⊢;exact R.va j u e
 .by_cases d:i=j;.cases(c e d).1
  .rw[anF d]at e⊢;exact R.ow j t e
 .have y:i≠j:=λz=>by cases(c h z).1
  have E:i≠k:=λz=>by cases(c g z).1
  rw[anF y]at h n;rw[anF E]at g m;exact R.ap j k t v b l h g n m
 .by_cases d:i=j;.obtain⟨h,g⟩:=c e d;cases h;exact⟨a,kvs,g,x,K,G,C,A⟩
  .rw[anF d]at e⊢;exact R.dd.od j o q e
 .by_cases d:i=j;.have r:=(c h d).2;rw[n]at r;cases r;have f:i≠k:=λz=>l (d.symm.trans z);rw[anF f]at g m;exact w k _ _ (anY f) g m
  .rw[anF d]at h n;by_cases f:i=k;.have r:=(c g f).2;rw[m]at r;cases r;exact w j _ _ (anY d) h n
   .rw[anF f]at g m;exact R.dd.ad j k _ _ _ _ b l h g n m
 .have d:i≠j:=λz=>by cases(c e z).1
  rw[anF d]at e⊢;exact R.dd.ob j e
def RS.adx(R:RS B σ σV F H){i:Nat}{ks us g us2:List VW}{kvs d:List (Key×V)}{a:Addr}(e:σ[i]?=some (.od ks us))(N:σV[i]?=some (some (.ref a)))(M:F a=none)(O:B.H0 a=none)(hH:H a=some (.dK kvs))(U:RWs B.K F g (d.map λp=>kV p.1))(T:RWs B.K F us2 (d.map λp=>p.2)):RS B (σ.set i (.od g us2)) σV F (upd H a (.dK d)):=by
 have l:i<σ.length:=(anM.mp e).1;have X:∀b o,F b=some o->b≠a:=λb o q z=>by subst z;rw[M]at q;cases q
 refine⟨⟨λb u q=>by rw[aj (X b u q)];exact R.rb.sub b u q,λb u q=>by
 have r:b≠a:=λz=>by subst z;rw[O]at q;cases q
 rw[aj r];exact R.rb.base b u q,R.rb.fz0,R.rb.fr⟩,by simp[R.len],λj w q=>?_,λj t q=>?_,λj k t v b f h m A E=>?_,λj D K q=>?_,λj k a0 us1 a1 us3 b f h m A E=>?_,λj q=>?_⟩
 .by_cases c:i=j;.subst c;rw[anH l]at q;cases q
  .rw[anF c]at q;exact R.va j w q
 .by_cases c:i=j;.subst c;rw[anH l]at q;cases q
  .rw[anF c]at q;obtain⟨b,I,s,J,G,n,C⟩:=R.ow j t q;have r:b≠a:=λz=>by subst z;rw[hH]at n;cases n
   exact⟨b,I,s,J,G,by rw[aj r];exact n,C⟩
 .have S:i≠j:=λz=>by subst z;rw[anH l]at h;cases h
  have Y:i≠k:=λz=>by subst z;rw[anH l]at m;cases m
  rw[anF S]at h;rw[anF Y]at m;exact R.ap j k t v b f h m A E
 .by_cases c:i=j;.subst c;rw[anH l]at q;cases q;exact⟨a,d,N,M,O,aq,U,T⟩
  .rw[anF c]at q;obtain⟨b,I,s,J,G,n,C⟩:=R.dd.od j D K q;have r:b≠a:=λz=>by subst z;exact R.dd.ad i j _ _ _ _ b c e q N s
   exact⟨b,I,s,J,G,by rw[aj r];exact n,C⟩
 .have back:∀{j:Nat}{x y:List VW},(σ.set i (.od g us2))[j]?=some (.od x y)->∃Z Q,σ[j]?=some (.od Z Q):=λ{j x y}q=>by
   by_cases c:i=j;.subst c;exact⟨_,_,e⟩
   .rw[anF c]at q;exact⟨_,_,q⟩
  obtain⟨_,_,P⟩:=back h;obtain⟨_,_,g2⟩:=back m;exact R.dd.ad j k _ _ _ _ b f P g2 A E
 .have c:i≠j:=λz=>by subst z;rw[anH l]at q;cases q
  rw[anF c]at q;exact R.dd.ob j q
end
end WS
set_option autoImplicit true
set_option relaxedAutoImplicit true
namespace WS
open PySem PySem.Spec PyProof.Rows L2
open WL(Res Sl Ws EF TF AF LF GF GsF SF Out XF XA FS Fs KO KF OX RF Sr)
section
variable{X:Cx}{e:Expr}{es:List Expr}{st:Stmt}{sts:List Stmt}
def PE.imp{t t'}(h:PE X e t)(f:∀σ H Q,t' σ H Q->t σ H Q):PE X e t':=λa s σ H Q I q=>h _ s σ H Q I (f σ H Q q)
def PT.imp{t t'}(h:PT X e t)(f:∀σ H Q,t' σ H Q->t σ H Q):PT X e t':=λa s σ H Q I q=>h _ s σ H Q I (f σ H Q q)
def PW.imp{t t'}(h:PW X e t)(f:∀σ H Q,t' σ H Q->t σ H Q):PW X e t':=λb a s σ H Q I q=>h _ _ s σ H Q I (f σ H Q q)
def PA.imp{t t'}(h:PA X es t)(f:∀σ H Q,t' σ H Q->t σ H Q):PA X es t':=λb a s σ H Q I q=>h _ _ s σ H Q I (f σ H Q q)
def PS.imp{t t'}(h:PS X st t)(f:∀D σ H,t' D σ H->t D σ H):PS X st t':=λa s σ H D I q=>h _ s σ H D I (f D σ H q)
def PSs.imp{t t'}(h:PSs X sts t)(f:∀D σ H,t' D σ H->t D σ H):PSs X sts t':=λa s σ H D I q=>h _ s σ H D I (f D σ H q)
def PG.imp{t t'}(h:PG X e t)(f:∀v σ H Q,t' v σ H Q->t v σ H Q):PG X e t':=λa s σ H v u Q I r q=>h _ s σ H v u Q I r (f v σ H Q q)
def PGs.imp{t t'}(h:PGs X es t)(f:∀v σ H Q,t' v σ H Q->t v σ H Q):PGs X es t':=λa s σ H v u Q I r q=>h _ s σ H v u Q I r (f v σ H Q q)
def PI.imp{a t t'}(h:PI X a e t)(f:∀σ H Q,t' σ H Q->t σ H Q):PI X a e t':=λb s σ H Q I q=>h _ s σ H Q I (f σ H Q q)
def PO.imp{o t t'}(h:PO X o t)(f:∀σ H Q,t' σ H Q->t σ H Q):PO X o t':=λa s σ H Q I q=>h _ s σ H Q I (f σ H Q q)
end
def Rq(B:Bx)(σ:Ws)(F:Hp){b}(r:Res b)(k:b->Prop):Prop:=match r with|.ok a=>k a|.ex c=>B.xp c σ F|.bad=>False
theorem Rq.mono{B σ F F' b r}{k k':b->Prop}(s:ax F F')(h:Rq B σ F r k)(f:∀a,k a->k' a):Rq B σ F' r k':=by cases r with|ok a=>exact f a h|ex c=>exact B.mono c σ F _ s h|bad=>exact h
theorem Rq.bind{B σ F d b r}{g:d->Res b}{k}(h:Rq B σ F (r.bind g) k):Rq B σ F r λa=>Rq B σ F (g a) k:=by cases r with|ok a|ex c|bad=>exact h
def lo(B:Bx)(t:EF):TE:=λa H Q=>∃σ F,RS B σ a F H/\Rq B σ F (t σ) λw=>∀v b c,RS B σ a c b->Gr F H c b->RW B.K c w v->Q v b
def loT(B:Bx)(t:TF):TT:=λa H Q=>∃σ F,RS B σ a F H/\Rq B σ F (t σ) λb=>∀c d,RS B σ a d c->Gr F H d c->Q b c
def loA(B:Bx)(t:AF):TA:=λa H Q=>∃σ F,RS B σ a F H/\Rq B σ F (t σ) λws=>∀d b c,RS B σ a c b->Gr F H c b->RWs B.K c ws d->Q d b
def loO(B:Bx)(t:Ws->Res (Option Int)):TO:=λa H Q=>∃σ F,RS B σ a F H/\Rq B σ F (t σ) λo=>∀b c,RS B σ a c b->Gr F H c b->Q o b
def loL(B:Bx)(t:LF):TE:=λb H Q=>∃σ F,RS B σ b F H/\Rq B σ F (t σ) λws=>∀a e d c,RS B σ b c d->Gr F H c d->c a=none->B.H0 a=none->d a=some (.lst e)->RWs B.K c ws e->(∀(j:Nat)(f:List VW),σ[j]?=some (.ow f)->b[j]?≠some (some (.ref a)))->Q (.ref a) d
structure Gm(m:Bool)(F H F' H':Hp):Prop where
 f:ax F F'
 nf:∀a o,H a=some o->F a=none->F' a=none
 th:∀a o,H a=some o->∃o',H' a=some o'
 h:m=true->ax H H'
theorem Gm.refl{m F H}:Gm m F H F H:=⟨ax.refl _,λ_ _ _ z=>z,λ_ o e=>⟨o,e⟩,λ_=>ax.refl _⟩
theorem Gm.trans{m F H f i g h}(a:Gm m F H f i)(b:Gm m f i g h):Gm m F H g h:=⟨a.f.trans b.f,λx o e z=>by obtain⟨j,c⟩:=a.th x o e;exact b.nf x _ c (a.nf x o e z),λx o e=>by obtain⟨j,c⟩:=a.th x o e;exact b.th x _ c,λd=>(a.h d).trans (b.h d)⟩
def loG(m:Bool)(B:Bx)(g:GF):TG:=λv d H Q=>∃σ F w,RS B σ d F H/\RW B.K F w v/\Rq B σ F (g w σ) λc=>∀a b e,RS B c a e b->Gm m F H e b->Q a b
def ajI(m:Bool)(B:Bx)(g:GsF):TGs:=λf d H Q=>∃σ F ws,RS B σ d F H/\RWs B.K F ws f/\Rq B σ F (g ws σ) λc=>∀a b e,RS B c a e b->Gm m F H e b->Q a b
def Oq(B:Bx)(D:Ends)(F:Hp)(o:Out):Prop:=match o with|.nx σ'=>∀a d b,RS B σ' a b d->ax F b->D.nx a d|.bk σ'=>∀a d b,RS B σ' a b d->ax F b->D.bk a d|.ct σ'=>∀a d b,RS B σ' a b d->ax F b->D.ct a d|.rt w=>∀v d b,RB B b d->ax F b->RW B.K b w v->D.rt v d|.ex c σ'=>B.xp c σ' F|.bad=>False
def loS(B:Bx)(t:SF):TS:=λD a H=>∃σ F,RS B σ a F H/\Oq B D F (t σ)
theorem Oq.mono{B D F F' o}(s:ax F F')(h:Oq B D F o):Oq B D F' o:=by cases o with|nx σ|bk σ|ct σ|rt w=>exact λa H G R z=>h _ H G R (s.trans z)|ex c σ=>exact B.mono c σ F _ s h|bad=>exact h
theorem Oq.ofR    (h:Oq B D F (WL.ofR σ r f)):Rq B σ F r λa=>Oq B D F (f a):=by cases r with|ok a|ex c|bad=>exact h
def Eq1(F H:Hp)(K:W.Frag)(r:Res VW)(Q:VK):Prop:=match r with|.ok w=>∀v b a,Ext F H b a->RW K b w v->Q v a|_=>False
def lo2(K:W.Frag)(r:VW->VW->Res VW):R2:=λx y H Q=>∃F wx a,ax F H/\RW K F wx x/\RW K F a y/\Eq1 F H K (r wx a) Q
def lo1(K:W.Frag)(r:VW->Res VW):V->Hp->VK->Prop:=λx H Q=>∃F wx,ax F H/\RW K F wx x/\Eq1 F H K (r wx) Q
def loN(K:W.Frag)(r:List VW->Res VW):List V->Hp->VK->Prop:=λa H Q=>∃F ws,ax F H/\RWs K F ws a/\Eq1 F H K (r ws) Q
def Calm(r:VW->VW->Res VW):Prop:=∀x y c,r x y≠.ex c
def OpR.imp{X f r a}(h:OpR X f r)(g:∀x y H Q,a x y H Q->r x y H Q):OpR X f a:=λb s σ H x y v u Q I d c q=>h _ s σ H x y v u Q I d c (g x y H Q q)
def UnR.imp{X f r a}(h:UnR X f r)(g:∀x H Q,a x H Q->r x H Q):UnR X f a:=λb s σ H x v Q I c q=>h _ s σ H x v Q I c (g x H Q q)
def bN.imp{X f r b}(h:bN X f r)(g:∀a H Q,b a H Q->r a H Q):bN X f b:=λc s σ H a e Q I d q=>h _ s σ H _ _ Q I d (g _ H Q q)
def IxR.imp{X r c}(h:IxR X r)(g:∀x y H Q,c x y H Q->r x y H Q):IxR X c:=λb a d s σ H x y v u Q I i e q f=>h _ _ _ s σ H x y v u Q I i e (g x y H Q q) f
def SlR.imp{X r d}(h:SlR X r)(g:∀x a b H Q,d x a b H Q->r x a b H Q):SlR X d:=λe s σ H x v i k lo l j Q I f a b c q=>h _ s σ H x v _ _ _ _ _ Q I f a b c (g x _ _ H Q q)
section
variable{X:Cx}{B:Bx}{e a b c:Expr}{es:List Expr}{pos:Pos}{ta tb tc:EF}{K:W.Frag}
set_option tactic.hygienic true
def agO{i}(h:PE X e (jP i)):PE X e (lo B (WL.ai i)):=PE.imp h λg H Q d=>by
 refine dE d λσ F R q=>?_;simp [WL.ai]at q;split at q;.rename_i w e;obtain⟨v,f,r⟩:=R.va i w e;exact⟨v,f,q v H F R Gr.refl r⟩
 .exact q.elim
set_option tactic.hygienic false
def aeG (h:PE X e (tC v))(r:∀F,RW B.K F w v):PE X e (lo B (WL.eC w)):=PE.imp h λf H Q d=>by obtain⟨σ,F,R,q⟩:=d;exact q v H F R Gr.refl (r F)
def ag{i j pos}:PE X (.Constant (.int i) j pos) (lo B (WL.eC (.int i))):=aeG adY λ_=>rfl
def oS{i j pos}:PE X (.Constant (.bool i) j pos) (lo B (WL.eC (.bl i))):=aeG akQ λ_=>rfl
def gw{j pos}:PE X (.Constant .none j pos) (lo B (WL.eC .non)):=aeG ahD λ_=>rfl
def aO{x j pos}:PE X (.Constant (.str x) j pos) (lo B (WL.eC (.str x))):=aeG kK λ_=>rfl
def acx (cm:Calm r)(f:∀x y H Q,lo2 B.K r x y H Q->rV x y H Q):∀d H Q,lo B (WL.eOp r ta tb) d H Q->tOp rV (lo B ta) (lo B tb) d H Q:=by intro d H Q⟨σ,F,R,q⟩;have q:=Rq.bind q;refine cx σ F R (Rq.mono (ax.refl _) q λx l t C n m h j=>cx σ n m (Rq.mono h.f (Rq.bind l) λy g A z o R2 i p=>f _ _ _ _ (qt o x y R2.rb.sub (j.keep i.f) p ?_)));cases e:r x y with|ok w=>rw[e]at g;exact λv u s E k=>g v _ _ (E.rs B σ _ R2) ((h.trans i).trans E.gr) k|ex c=>exact(cm x y c e).elim|bad=>rw[e]at g;exact g
def aK (cm:Calm r)(h:OpR X (binaryOp op) (lo2 B.K r))(f:PE X a (lo B ta))(d:PE X b (lo B tb)):PE X (.BinOp a op b pos) (lo B (WL.eOp r ta tb)):=PE.imp (ahA h f d) (acx cm λ_ _ _ _ q=>q)
def yq (cm:Calm r)(h:OpR X (compareOp op) (lo2 B.K r))(f:PE X a (lo B ta))(g:PE X b (lo B tb))(d:behindInMarks op b=false):PE X (.Compare a [op] [b] pos) (lo B (WL.eOp r ta tb)):=PE.imp (zA h f g d) (acx cm λ_ _ _ _ q=>q)
def agP (cm:Calm r)(h:IxR X (lo2 B.K r))(d:PE X a (lo B ta))(f:PE X b (lo B tb))(hs:jc b):PE X (.Subscript a b pos) (lo B (WL.eOp r ta tb)):=PE.imp (afk h d f hs) (acx cm λ_ _ _ _ q=>q)
def jf (cm:∀x c,r x≠.ex c)(h:UnR X (unaryOp op) (lo1 B.K r))(l:PE X a (lo B ta)):PE X (.UnaryOp op a pos) (lo B (WL.eUn r ta)):=PE.imp (akO h l) λm H Q f=>by refine dE f λσ F R q=>?_;have q:=Rq.bind q;refine⟨σ,F,R,Rq.mono (ax.refl _) q λx d p t n g i j=>⟨n,x,g.rb.sub,j,?_⟩⟩;cases e:r x with|ok w=>rw[e]at d;exact λv s o E k=>d v _ _ (E.rs B σ _ g) (i.trans E.gr) k|ex c=>exact(cm x c e).elim|bad=>rw[e]at d;exact d
def z6:∀d H Q,loT B (WL.tB t) d H Q->sW (lo B t) d H Q:=by
 intro d H Q⟨σ,F,R,q⟩;have q:=Rq.bind q;refine cx σ F R (Rq.mono (ax.refl _) q λx f k l j i g h=>?_);cases x<;>first|exact f.elim|skip
 exact⟨_,h,f _ _ i g⟩
def cH (cm:Calm r)(h:OpR X (compareOp op) (lo2 B.K r))(g:PE X a (lo B ta))(d:PE X b (lo B tb))(f:behindInMarks op b=false):PT X (.Compare a [op] [b] pos) (loT B (WL.tB (WL.eOp r ta tb))):=PT.imp (zo h g d f) λi H Q q=>acx cm (λ_ _ _ _ q=>q) _ H _ (z6 _ H Q q)
def fA (h:PE X e (lo B t))(f:∀d,isTrue e X.env d=(do let v <-d;standAt e.pos;holding [v] (truthy v)):=by intro _;rfl):PT X e (loT B (WL.tB t)):=PT.imp (ahn h f) z6
def acB (cm:Calm r)(o:Calm r'):∀d H Q,lo B (WL.oA r r' ta tb tc) d H Q->adI (lo2 B.K r) (lo2 B.K r') (lo B ta) (lo B tb) (lo B tc) d H Q:=by intro d H Q⟨σ,F,R,q⟩;have q:=Rq.bind q;refine cx σ F R (Rq.mono (ax.refl _) q λx n U H1 P N h D=>?_);have n:=Rq.bind n;refine cx σ P N (Rq.mono h.f n λy i v2 H2 E R2 j t=>?_);refine qt E x y R2.rb.sub (D.keep j.f) t ?_;unfold Eq1;cases e:r x y with|ex c=>exact(cm x y c e).elim|bad=>rw[e]at i;exact i|ok z=>rw[e]at i;intro Y s G f J;have g:=i;cases z with
 |bl k=>refine⟨k,J,?_⟩;cases k with|false=>exact g (.bl false) G s (f.rs B σ d R2) ((h.trans j).trans f.gr) (by simp[RW])|true=>have g:=Rq.bind (show Rq B σ F ((tc σ).bind λw=>r' y w) _ from g);refine cx σ s (f.rs B σ d R2) (Rq.mono ((h.trans j).trans f.gr).f g λw l Z H4 O C p T=>?_);refine qt O y w C.rb.sub ((t.keep f.same).keep p.f) T ?_;unfold Eq1;cases m:r' y w with|ex c=>exact(o y w c m).elim|bad=>rw[m]at l;exact l|ok u=>rw[m]at l;exact λv I M A S=>l v M I (A.rs B σ d C) ((((h.trans j).trans f.gr).trans p).trans A.gr) S
 |_=>exact g.elim
def uT (cm:Calm r)(d:Calm r')(k:OpR X (compareOp op) (lo2 B.K r))(f:OpR X (compareOp op') (lo2 B.K r'))(j:PE X a (lo B ta))(g:PE X b (lo B tb))(i:PE X c (lo B tc))(h:lastMarks [op,op'] [b,c]=false:=by with_unfolding_all rfl):PE X (.Compare a [op,op'] [b,c] pos) (lo B (WL.oA r r' ta tb tc)):=PE.imp (aca k f j g i h) (acB cm d)
variable{uA uB:TF}{rest:List Expr}
def oN(d:PT X a (loT B uA)):PW X (.BoolOp .And [a] pos) (loT B uA):=afb d
def uQ(d:PT X a (loT B uA)):PW X (.BoolOp .Or [a] pos) (loT B uA):=ahl d
def uR(i:PT X a (loT B uA))(n:PW X (.BoolOp .And (b::rest) pos) (loT B uB)):PW X (.BoolOp .And (a::b::rest) pos) (loT B (WL.yX uA uB)):=PW.imp (ahm i n) λj H Q f=>by refine dE f λσ F R q=>?_;have q:=Rq.bind q;refine⟨σ,F,R,Rq.mono (ax.refl _) q λx g r m h d=>?_⟩;cases x with|true=>exact⟨σ,m,h,Rq.mono d.f g λb k p o R2 l=>k _ _ R2 (d.trans l)⟩|false=>exact g _ _ h d
def yf(i:PT X a (loT B uA))(n:PW X (.BoolOp .Or (b::rest) pos) (loT B uB)):PW X (.BoolOp .Or (a::b::rest) pos) (loT B (WL.tOr uA uB)):=PW.imp (akL i n) λj H Q f=>by refine dE f λσ F R q=>?_;have q:=Rq.bind q;refine⟨σ,F,R,Rq.mono (ax.refl _) q λx g r m h d=>?_⟩;cases x with|false=>exact⟨σ,m,h,Rq.mono d.f g λb k p o R2 l=>k _ _ R2 (d.trans l)⟩|true=>exact g _ _ h d
def qv(g:PT X a (loT B uA)):PT X (.UnaryOp .Not a pos) (loT B (WL.abq uA)):=PT.imp (aho g) λh H Q d=>by obtain⟨σ,F,R,q⟩:=d;have q:=Rq.bind q;exact⟨σ,F,R,Rq.mono (ax.refl _) q λx f=>f⟩
def lA{op}(h:PE X a (lo B ta)):PE X (.BoolOp op [a] pos) (lo B ta):=ahB h
def kF(j:PE X a (lo B ta))(p:PE X (.BoolOp .And (b::rest) pos) (lo B tb)):PE X (.BoolOp .And (a::b::rest) pos) (lo B (WL.aaU ta tb)):=PE.imp (ahE j p) λl H Q g=>by refine dE g λσ F R q=>?_;have q:=Rq.bind q;refine cx σ F R (Rq.mono (ax.refl _) q λx f v w o h d i=>?_);cases x with
|bl k=>refine⟨k,i,?_⟩;cases k with|true=>exact cx σ o h (Rq.mono d.f f λb m u t s R2 n r=>m _ _ _ R2 (d.trans n) r)|false=>exact f _ _ _ h d (rfl)
|_=>exact f.elim
def adA(i:PE X a (lo B ta)):PE X (.UnaryOp .Not a pos) (lo B (WL.aiU ta)):=PE.imp (ahC i) λj H Q d=>by refine dE d λσ F R q=>?_;have q:=Rq.bind q;refine⟨σ,F,R,Rq.mono (ax.refl _) q λx f v n m l g h=>?_⟩;cases x with|bl k=>exact⟨k,h,f _ _ _ l g (rfl)⟩|_=>exact f.elim
def agQ(o:PT X c (loT B uA))(h:PE X a (lo B ta))(n:PE X b (lo B tb)):PE X (.IfExp c a b pos) (lo B (WL.eIf uA ta tb)):=PE.imp (ab9 o h n) λi H Q d=>by refine dE d λσ F R q=>?_;have q:=Rq.bind q;refine cx σ F R (Rq.mono (ax.refl _) q λx g u m k f=>?_);cases x with|true|false=>exact⟨σ,m,k,Rq.mono f.f g λb j t s r R2 l p=>j _ _ _ R2 (f.trans l) p⟩
variable{tas:AF}
def ah:PA X [] (loA B WL.aw):=PA.imp e7 λf H Q d=>by obtain⟨σ,F,R,q⟩:=d;exact q _ H F R Gr.refl (rfl)
def afE:∀d H Q,loA B (WL.ae ta tas) d H Q->jj (lo B ta) (loA B tas) d H Q:=λd H Q g=>by refine dE g λσ F R q=>?_;have q:=Rq.bind q;refine cx σ F R (Rq.mono (ax.refl _) q λx f v t m l i k=>?_);have f:=Rq.bind f;exact cx σ m l (Rq.mono i.f f λo h p s r R2 j n=>h _ _ _ R2 (i.trans j) (.cons (k.keep j.f) n))
def aa(f:PE X e (lo B ta))(d:PA X es (loA B tas))(hs:SE X e es:=by rfl):PA X (e::es) (loA B (WL.ae ta tas)):=PA.imp (bL f d hs) afE
def hE:WL.lim<=sizeLine:=by decide
def bg{r}(h:PA X es (loA B tas)):PE X (.Tuple es r pos) (lo B (WL.ff tas)):=PE.imp (adX h) λm H Q i=>by
 refine dE i λσ F R q=>?_;have q:=Rq.bind q;refine⟨σ,F,R,Rq.mono (ax.refl _) q λn d o t s g l k=>?_⟩;by_cases j:n.length<=WL.lim;.rw[anL j]at d;exact⟨by rw[<-k.length];exact anQ j hE,λp f=>d _ _ _ (g.new f _) (l.trans (Gr.new (g.rb.sub.free f) f _)) (by exact jd p o rfl (SqT.of aq) (k.keep (az (g.rb.sub.free f) _)))⟩
 .rw[anK j]at d;exact d.elim
def ah5:∀d H Q,lo B (WL.iB tas) d H Q->ams (loA B tas) d H Q:=λd H Q h=>by
 refine dE h λσ F R q=>?_;have q:=Rq.bind q;refine⟨σ,F,R,Rq.mono (ax.refl _) q λm f n r o i l k=>?_⟩;by_cases j:m.length<=WL.lim;.rw[anL j]at f;exact⟨by rw[<-k.length];exact anQ j hE,λp g=>f _ _ _ (i.new g _) (l.trans (Gr.new (i.rb.sub.free g) g _)) (by exact jd p n rfl (SqL.of aq) (k.keep (az (i.rb.sub.free g) _)))⟩
 .rw[anK j]at f;exact f.elim
def cf(h:PA X es (loA B tas)):PE X (.List es pos) (lo B (WL.iB tas)):=PE.imp (zz h) ah5
def alk{σ d F l k xs vs p}{Q:VK}(h:RS B σ d l k){H}(r:Gr F H l k)(s:RWs B.K l xs vs)(f:k p=none)(q:∀a vs i g,RS B σ d g i->Gr F H g i->g a=none->B.H0 a=none->i a=some (.lst vs)->RWs B.K g xs vs->(∀(j:Nat)(o:List VW),σ[j]?=some (.ow o)->d[j]?≠some (some (.ref a)))->Q (.ref a) i):Q (.ref p) (upd k p (.lst vs)):=q p _ _ _ (h.ajF f _) (r.trans ⟨ax.refl _,az f _,λ_ _ _ z=>z⟩) (h.rb.sub.free f) (h.rb.base.free f) aq s λj o e z=>by refine kR (h.ow j _ e) λa v n t w m u=>?_;rw[z]at n;cases n;rw[f]at m;cases m
def yj(h:PA X es (loA B tas)):PE X (.List es pos) (loL B (WL.aia tas)):=PE.imp (zz h) λk H Q f=>by
 refine dE f λσ F R q=>?_;have q:=Rq.bind q;refine⟨σ,F,R,Rq.mono (ax.refl _) q λl d o s r n j i=>?_⟩;by_cases g:l.length<=WL.lim;.rw[anL g]at d;exact⟨by rw[<-i.length];exact anQ g hE,λp m=>alk n j i m d⟩
 .rw[anK g]at d;exact d.elim
def alx (cm:∀g c,r g≠.ex c):∀d H Q,lo B (WL.eBi r tas) d H Q->tCB (loN B.K r) (loA B tas) d H Q:=by intro d H Q⟨σ,F,R,q⟩;have q:=Rq.bind q;refine cx σ F R (Rq.mono (ax.refl _) q λg f n p l h i j=>⟨l,g,h.rb.sub,j,?_⟩);cases e:r _ with|ok w=>rw[e]at f;exact λv o m E k=>f v _ _ (E.rs B σ _ h) (i.trans E.gr) k|ex c=>exact(cm _ c e).elim|bad=>rw[e]at f;exact f
def agT (cm:∀d c,r d≠.ex c)(h:PE X e (tCB (loN B.K r) (loA B tas))):PE X e (lo B (WL.eBi r tas)):=PE.imp h (alx cm)
def gL:PO X none (loO B WL.pNo):=PO.imp afg λf H Q d=>by obtain⟨σ,F,R,q⟩:=d;exact q H F R Gr.refl
def gK(h:PE X e (lo B ta)):PO X (some e) (loO B (WL.ke ta)):=PO.imp (aff h) λk H Q d=>by refine dE d λσ F R q=>?_;have q:=Rq.bind q;refine⟨σ,F,R,Rq.mono (ax.refl _) q λx f v n m l g j=>?_⟩;cases x with|int i=>exact⟨i,j,f _ _ l g⟩|_=>exact f.elim
def amK(K:W.Frag):V->Option Int->Option Int->Hp->VK->Prop:=λx l h H Q=>∃F wx,ax F H/\RW K F wx x/\Eq1 F H K (WL.oSl wx l h) Q
variable{l u:Option Expr}{tl tu:Ws->Res (Option Int)}{p2:Pos}
def qz(y:SlR X (amK B.K))(I:PE X e (lo B ta))(t:PO X l (loO B tl))(p:PO X u (loO B tu)):PE X (.Subscript e (.Slice l u none p2) pos) (lo B (WL.eSl ta tl tu)):=PE.imp (ab5 y I t p) λh H Q i=>by refine dE i λσ F R q=>?_;have q:=Rq.bind q;refine cx σ F R (Rq.mono (ax.refl _) q λx z v P G C j o=>cx σ G C (Rq.mono j.f (Rq.bind z) λlo g O r R2 k=>?_));refine cx σ r R2 (Rq.mono (j.trans k).f (Rq.bind g) λJ d N s m n=>?_);refine⟨s,x,m.rb.sub,(o.keep k.f).keep n.f,?_⟩;cases f:WL.oSl x lo J with|ok w=>rw[f]at d;exact λv D A E M=>d v A D (E.rs B σ h m) (((j.trans k).trans n).trans E.gr) M|ex c=>cases x<;>simp[WL.oSl]at f;split at f<;>cases f|bad=>rw[f]at d;exact d
def lend  (R:RS B σ σV F H)(t:Hp)(Z:ax F t)(P:t=F/\WL.frz i σ=σ\/∃a o w,t=upd F a o/\Ow1 o/\F a=none/\WL.frz i σ=σ.set i (.va w)/\σV[i]?=some (some (.ref a))/\H a=some o/\B.H0 a=none)(R2:RS B (WL.frz i σ) σV F2 H2)(f:Gr t H F2 H2):∃y,RS B σ σV y H2/\Gr F H y H2/\∀w v,WL.plain w=true->RW B.K F2 w v->RW B.K y w v:=by
 rcases P with⟨rfl,E⟩|⟨a,ow,wa,rfl,r,G,E,A,hH,h0⟩;.rw[E]at R2;exact⟨F2,R2,f,λ_ _ _ h=>h⟩
 .rw[E]at R2;have s:=f.f _ _ aq;have k:ax F λb=>if b=a then none else F2 b:=λb o q=>by
   have m:b≠a:=λz=>by subst z;rw[G]at q;cases q
   show(if b=a then none else F2 b)=some o;rw[anK m];exact f.f b o (Z b o q)
  have n:∀b o,(if b=a then none else F2 b)=some o->b≠a/\F2 b=some o:=λb o q=>by
   by_cases d:b=a;.rw[anL d]at q;cases q
   .rw[anK d]at q;exact⟨d,q⟩
  refine⟨λb=>if b=a then none else F2 b,⟨⟨λb o q=>R2.rb.sub b o (n b o q).2,R2.rb.base,R.rb.fz0.trans k,λb o q=>R2.rb.fr b o (n b o q).2⟩,R.len,λj w q=>?_,λj x q=>?_,R.ap,?_⟩,⟨k,f.h,λb o q z=>?_⟩,λw v N h=>?_⟩;.obtain⟨v,g,J⟩:=R.va j w q;exact⟨v,g,J.keep k⟩
  .obtain⟨b,zs,g,J,Y,g4,Q⟩:=R.ow j x q;refine⟨b,zs,g,?_,Y,f.h b _ g4,Q.keep k⟩;by_cases d:b=a;.exact anL d
   .show(if b=a then none else F2 b)=none;rw[anK d];have C:i≠j:=λz=>by subst z;rw[A]at g;cases g;exact d rfl
    obtain⟨b',U,p,D,_⟩:=R2.ow j x (by rw[anF C];exact q);rw[g]at p;cases p;exact D
  .refine R.dd.via rfl id (λ_ _ z=>.inl z) (λ_ _ _ e=>⟨e,rfl⟩) k λj S x b T ej I M q2 O=>⟨?_,O,f.h b _ M⟩;by_cases d:b=a;.exact anL d
   .show(if b=a then none else F2 b)=none;rw[anK d];have C:i≠j:=λz=>by subst z;rw[show σV[i]?=_ from I]at A;cases A;exact d rfl
    obtain⟨b',U,p,D,_⟩:=R2.dd.od j S x (by rw[anF C];exact ej);rw[show σV[j]?=_ from I]at p;cases p;exact D
  .show(if b=a then none else F2 b)=none;by_cases d:b=a;.exact anL d
   .rw[anK d];exact f.nf b o q (by rw[aj d];exact z)
  .refine RW.less (λc xs q=>?_) w v N h;rcases q with(q|⟨o,q⟩)|q
   .refine .inl (.inl ?_);have m:c≠a:=λz=>by subst z;rw[s]at q;cases q;exact r
    show(if c=a then none else F2 c)=_;rw[anK m];exact q
   .refine .inl (.inr ⟨o,?_⟩);have m:c≠a:=λz=>by subst z;rw[s]at q;cases q;exact r
    show(if c=a then none else F2 c)=_;rw[anK m];exact q
   .exact .inr q
def yu (h:PE X e (lo B ta)):PE X e (lo B (WL.afV i ta)):=PE.imp h λn H Q g=>by
 refine dE g λσ F R q=>?_;refine je (R.frz i) λt j o p=>?_;refine cx _ t o ?_;have q:Rq B σ F (match ta _ with|.ok w=>if WL.plain w then .ok w else .bad|_=>.bad) _:=q
 cases d:ta _ with|ok w=>
 rw[d]at q;intro v A z R2 r x;refine je (lend R _ j p R2 r) λy s m k=>?_;have q:Rq B σ F (if WL.plain w=true then .ok w else .bad) _:=q;by_cases f:WL.plain w=true;.rw[anL f]at q;exact q v _ _ s m (k w v f x)
 .rw[anK f]at q;exact q.elim|ex c=>rw[d]at q;exact q.elim|bad=>rw[d]at q;exact q
def adu (h:PT X e (loT B uA)):PT X e (loT B (WL.age i uA)):=PT.imp h λm H Q f=>by refine dE f λσ F R q=>?_;refine je (R.frz i) λs g n p=>?_;refine cx _ s n ?_;have q:Rq B σ F (match uA _ with|.ok b=>.ok b|_=>.bad) _:=q;cases d:uA _ with|ok w=>rw[d]at q;intro x v R2 o;refine je (lend R _ g p R2 o) λt r j k=>?_;exact q _ _ r j|ex c=>rw[d]at q;exact q.elim|bad=>rw[d]at q;exact q
end
mutual def toD:VW->PyData|.non=>.none|.bl b=>.bool b|.int i=>.int i|.str x=>.str x|.ty _=>.none|.tup xs=>.tuple (gy xs)|.lst xs=>.list (gy xs)|.dic _ _=>.none|.cls _=>.none|.exc _ _=>.none|.ins _ _=>.none|.id _=>.none def gy:List VW->List PyData|[]=>[]|x::xs=>toD x::gy xs end
def wK(x):toD (.str x)=.str x:=(rfl)
def wL(x):toD (.int x)=.int x:=(rfl)
mutual theorem RW.isD{K:W.Frag}{H:Hp}:∀(n:Nat)(w:VW)(v:V),WL.okD n w=true->RW K H w v->IsD K H n v (toD w)
|n,.non,v,_,h=>by cases n<;>exact h|n,.bl b,v,_,h=>by cases n<;>exact h|n,.int i,v,_,h=>by cases n<;>exact h|n,.str x,v,o,h=>by cases n<;>exact⟨h,o⟩|n,.tup xs,v,o,h=>by obtain⟨a,vs,e,q,r⟩:=h;cases n with|zero=>cases xs<;>cases o|succ n=>exact⟨a,vs,e,q,RWs.isD n xs _ o r⟩
|n,.lst xs,v,o,h=>by obtain⟨a,vs,e,q,r⟩:=h;cases n with|zero=>cases xs<;>cases o|succ n=>exact⟨a,vs,e,q,RWs.isD n xs vs o r⟩theorem RWs.isD{K:W.Frag}{H:Hp}:∀(n:Nat)(ws:List VW)(vs:List V),WL.iT (n+1) ws=true->RWs K H ws vs->Paired (IsD K H n) vs (gy ws)|n,[],vs,_,h=>by simp only[RWs]at h;subst h;exact .nil|n,w::ws,vs,o,h=>by simp only[RWs]at h;obtain⟨v,r,rfl,q,t⟩:=h;have o:=aoC.mp o;exact .cons (RW.isD n w v o.1 q) (RWs.isD n ws r o.2 t)end
mutual theorem mM:∀(n m:Nat)(x y:VW),WL.okD n x=true->WL.okD m y=true->PyData.eqv (toD x) (toD y)=WL.eqv x y
|n,m,.tup xs,y,h1,h2=>by cases y with|tup ys=>exact qa n m xs ys h1 h2|_=>first|rfl|cases h2
|n,m,.lst xs,y,h1,h2=>by cases y with|lst ys=>exact qa n m xs ys h1 h2|_=>first|rfl|cases h2
|n,m,.ty _,_,h1,_=>by cases h1|n,m,.non,y,_,h2=>by cases y<;>first|rfl|cases h2
|n,m,.bl b,y,_,h2=>by cases y<;>rfl|n,m,.int b,y,_,h2=>by cases y<;>first|rfl|cases h2
|n,m,.str b,y,_,h2=>by cases y<;>first|rfl|cases h2 theorem qa:∀(n m:Nat)(xs ys:List VW),WL.iT n xs=true->WL.iT m ys=true->PyData.eqvAll (gy xs) (gy ys)=WL.aeg xs ys|n,m,[],ys,_,_=>by cases ys<;>rfl|n,m,x::xs,ys,h1,h2=>by cases ys with|nil=>rfl|cons y ys=>cases n with|zero=>cases h1|succ n=>cases m with|zero=>cases h2|succ m=>have h1:=aoC.mp h1;have h2:=aoC.mp h2;show(PyData.eqv _ _&&PyData.eqvAll _ _)=(_&&_);rw[mM n m x y h1.1 h2.1,qa (n+1) (m+1) xs ys h1.2 h2.2]end
theorem uK{n m}{x:VW}(a:WL.okD n x=true):∀{ys:List VW},WL.iT m ys=true->((gy ys).any λz=>PyData.eqv z (toD x))=WL.dB x ys|[],_=>rfl|y::ys,h=>by cases m with|zero=>cases h|succ m=>have h:=aoC.mp h;simp [gy,WL.dB];rw[mM m n y x h.1 a,uK a h.2]
section
variable{X:Cx}{K:W.Frag}
def eq1{F H w Q v}(q:Eq1 F H K (.ok w) Q)(r:RW K F w v):Q v H:=q v F H (Ext.refl F H) r
def alR{F H}{ws:List VW}{vs Q}(s:ax F H)(q:Eq1 F H K (.ok (.lst ws)) Q)(r:RWs K F ws vs){p}(a:H p=none):Q (.ref p) (upd H p (.lst vs)):=q _ _ _ (Ext.new (s.free a) a _) (by exact⟨p,vs,rfl,SqL.of aq,r.keep (az (s.free a) _)⟩)
def alQ{F H}{ws:List VW}{vs Q}(s:ax F H)(q:Eq1 F H K (.ok (.tup ws)) Q)(r:RWs K F ws vs){p}(a:H p=none):Q (.ref p) (upd H p (.tup vs)):=q _ _ _ (Ext.new (s.free a) a _) (by exact⟨p,vs,rfl,SqT.of aq,r.keep (az (s.free a) _)⟩)
def afp:OpR X (binaryOp .Add) λx y H Q=>∃l b f g,x=.ref l/\y=.ref b/\SqL X.K H l f/\SqL X.K H b g/\f.length+g.length<=sizeLine/\∀p,H p=none->Q (.ref p) (upd H p (.lst (f++g))):=by
 intro A s σ H x y v u Q I O N h;refine aj3 h λl b f g j k G P T q=>?_;subst j k;cases O;cases N;refine je (I.list G) λc r pl _=>?_;refine je (I.list P) λa B t _=>?_;obtain⟨⟨cls,dd,C,E⟩,D,R,n,J⟩:=pl.isList;obtain⟨⟨z,i,data2,w⟩,d,o,M,m⟩:=t.isList;subst R J o m;have e:c.toArray++a.toArray=(c++a).toArray:=by simp
 have S:=r.length;have U:=B.length;refine aqy ⟨_,D,rfl⟩ ⟨_,d,rfl⟩ noFill_list_add seq_list_add PySem.F.slot_list_add PySem.F.entry_list_add (PySem.F.args_list_add_2 _ _) (list_addW l b c.toArray a.toArray n M dd i E w (by grind)) ⟨D,d,?_⟩;rw[e];exact jd (.ref _) _ (I.ans (r.append B) (by grind)) rfl (q _ I.fresh)
def acg:OpR X (binaryOp .Add) λx y H Q=>∃a b o,x=.ref a/\y=.ref b/\SqT X.K H a []/\SqT X.K H b o/\Q (.ref b) H:=by intro l s σ H x y v u Q I G E h;refine ajf h λa b o d e z J q=>?_;subst d e;cases G;cases E;refine je (I.tuple z) λt r D _=>?_;refine je (I.tuple J) λk O N _=>?_;cases r;obtain⟨⟨cls,dd,m,A⟩,p,M,n,B⟩:=id D;obtain⟨⟨j,w,data2,i⟩,c,g,C,f⟩:=id N;subst M B g f;exact aqy ⟨_,p,rfl⟩ ⟨_,c,rfl⟩ aqz seq_tuple_add apQ apK (apD _ _) (tuple_addW0 a b _ _ n C dd _ A i (rfl)) ⟨p,c,⟨.ref b,H,I,rfl,q⟩⟩
set_option tactic.hygienic true
def w_add(z:X.K=K):OpR X (binaryOp .Add) (lo2 K WL.dq):=by
 subst z;refine OpR.imp (ahQ.or (afp.or (afo.or acg))) λx y H Q r=>?_;obtain⟨F,wx,A,s,g,e,q⟩:=r;unfold WL.dq at q;split at q;.simp only[RW]at g e;exact .inl ⟨_,_,g,e,q _ F H (Ext.refl F H) (by simp[RW])⟩
 rotate_left
 .rename_i j m;simp only[RW]at g e;obtain⟨a,d,rfl,l,i⟩:=g;obtain⟨b,h,rfl,k,f⟩:=e;by_cases c:j.length+m.length<=WL.lim
  .rw[anL c]at q;have o:=i.length;have n:=f.length;have u:d.length+h.length<=sizeLine:=by rw[<-o,<-n];exact anQ c hE
   by_cases w:d=[];.subst w;have:j=[]:=apL.mp o;subst this;refine .inr (.inr (.inr ⟨a,b,h,rfl,rfl,s.tup l,s.tup k,?_⟩));exact eq1 q (by simp only[RW,aqM];exact⟨b,h,rfl,k,f⟩)
   .refine .inr (.inr (.inl ⟨a,b,d,h,rfl,rfl,s.tup l,s.tup k,w,u,λv=>?_,λv p t=>?_⟩));.subst v;have:m=[]:=apL.mp n;subst this;exact eq1 q (by simp only[RW,aom];exact⟨a,d,rfl,l,i⟩)
    .exact alQ s q (i.app f) t
  .rw[anK c]at q;exact q.elim
 .exact q.elim
 .rename_i j m;simp only[RW]at g e;obtain⟨a,d,rfl,l,i⟩:=g;obtain⟨b,h,rfl,k,f⟩:=e;by_cases c:j.length+m.length<=WL.lim;.rw[anL c]at q;have q:Eq1 F H X.K (.ok (.lst (j++m))) Q:=q;have o:=i.length;have n:=f.length;exact .inr (.inl ⟨a,b,d,h,rfl,rfl,s.seq l,s.seq k,by rw[<-o,<-n];exact anQ c hE,λp t=>alR s q (i.app f) t⟩)
  .rw[anK c]at q;exact q.elim
set_option tactic.hygienic false
def aH:Calm WL.dq:=λx y c h=>by unfold WL.dq at h;split at h<;>first|(cases h)|(split at h<;>cases h)
def abJ{f C g r}(h:OpR X f (rI C g))(k:∀x y w,r x y=.ok w->∃i j,x=.int i/\y=.int j/\C i j/\∀F,RW K F w (g i j))(cm:Calm r):OpR X f (lo2 K r):=by refine OpR.imp h λx y H Q b=>?_;refine uO b λF wx p s n m q=>?_;cases e:r _ _ with|bad=>rw[e]at q;exact q.elim|ex c=>exact(cm _ _ _ e).elim|ok w=>refine jQ (k _ _ w e) λi j a d o l=>?_;subst a d;rw[e]at q;exact xY i j n m o (eq1 q (l F))
def qB{f g r}(h:OpR X f (rI0 g))(k:∀x y w,r x y=.ok w->∃i j,x=.int i/\y=.int j/\∀F,RW K F w (g i j))(cm:Calm r):OpR X f (lo2 K r):=by refine OpR.imp h λx y H Q b=>?_;refine uO b λF wx o s n m q=>?_;cases e:r _ _ with|bad=>rw[e]at q;exact q.elim|ex c=>exact(cm _ _ _ e).elim|ok w=>refine gH (k _ _ w e) λi j a d l=>?_;subst a d;rw[e]at q;exact⟨i,j,n,m,eq1 q (l F)⟩
def gp:Calm WL.jx:=λx y c h=>by unfold WL.jx at h;split at h<;>cases h
def aU:Calm WL.eS:=λx y c h=>by unfold WL.eS at h;split at h<;>first|(cases h)|(split at h<;>cases h)
def lp:Calm WL.oDiv:=λx y c h=>by unfold WL.oDiv at h;split at h<;>first|(cases h)|(split at h<;>cases h)
def dS:Calm WL.oMod:=λx y c h=>by unfold WL.oMod at h;split at h<;>first|(cases h)|(split at h<;>cases h)
def wg:Calm WL.afs:=λx y c h=>by unfold WL.afs at h;split at h<;>first|(cases h;done)|(split at h<;>cases h)
def kz:Calm WL.oLt:=λx y c h=>by unfold WL.oLt at h;split at h<;>cases h
def qg:Calm WL.oLe:=λx y c h=>by unfold WL.oLe at h;split at h<;>cases h
def uC:Calm WL.oGt:=λx y c h=>by unfold WL.oGt at h;split at h<;>cases h
def abe:Calm WL.oGe:=λx y c h=>by unfold WL.oGe at h;split at h<;>cases h
def w_sub:OpR X (binaryOp .Sub) (lo2 K WL.jx):=qB ahH (λx y w e=>by unfold WL.jx at e;split at e<;>cases e;exact⟨_,_,rfl,rfl,λF=>rfl⟩) gp
def w_mul:OpR X (binaryOp .Mult) (lo2 K WL.eS):=abJ ahK (λx y w e=>by
 unfold WL.eS at e;split at e<;>first|(cases e)|skip
 split at e;.rename_i a;cases e;exact⟨_,_,rfl,rfl,a,λF=>rfl⟩
 .cases e) aU
def acf:OpR X (binaryOp .FloorDiv) (rI (λ_ j=>0<j/\j<10^100) λi j=>.int (i/j)):=opI λi j _ _ _ _ _ a q=>by
 have d:(0:Int)<j:=a.1;have c:j<10^100:=a.2;refine floordiv_int (by omega) (by rw[Int.fdiv_eq_ediv_of_nonneg i (by omega)];exact q) (.inl (PyProof.noPylong_of_log2 ?_));have b:j.natAbs<10^100:=by omega
 have:j.natAbs.log2<400:=(Nat.log2_lt (by omega)).mpr (anN b (by decide+kernel));omega
def w_div:OpR X (binaryOp .FloorDiv) (lo2 K WL.oDiv):=abJ acf (λx y w e=>by
 unfold WL.oDiv at e;split at e<;>first|(cases e)|skip
 split at e;.rename_i a;cases e;exact⟨_,_,rfl,rfl,a,λF=>rfl⟩
 .cases e) lp
def w_mod:OpR X (binaryOp .Mod) (lo2 K WL.oMod):=abJ ahL (λx y w e=>by
 unfold WL.oMod at e;split at e<;>first|(cases e)|skip
 split at e;.rename_i a;cases e;exact⟨_,_,rfl,rfl,a,λF=>rfl⟩
 .cases e) dS
def w_pow:OpR X (binaryOp .Pow) (lo2 K WL.afs):=abJ ahI (λx y w e=>by
 unfold WL.afs at e;split at e<;>first|(cases e;done)|skip
 split at e;.rename_i a;cases e;exact⟨_,_,rfl,rfl,⟨a.1,by have:=a.2.1;omega,a.2.2⟩,λF=>by simp[RW]⟩
 .cases e) wg
def w_lt:OpR X (compareOp .Lt) (lo2 K WL.oLt):=qB akT (λx y w e=>by unfold WL.oLt at e;split at e<;>cases e;exact⟨_,_,rfl,rfl,λF=>rfl⟩) kz
def aj9:OpR X (compareOp .LtE) (lo2 K WL.oLe):=qB akU (λx y w e=>by unfold WL.oLe at e;split at e<;>cases e;exact⟨_,_,rfl,rfl,λF=>rfl⟩) qg
def amo:OpR X (compareOp .Gt) (lo2 K WL.oGt):=qB akV (λx y w e=>by unfold WL.oGt at e;split at e<;>cases e;exact⟨_,_,rfl,rfl,λF=>rfl⟩) uC
def anc:OpR X (compareOp .GtE) (lo2 K WL.oGe):=qB akW (λx y w e=>by unfold WL.oGe at e;split at e<;>cases e;exact⟨_,_,rfl,rfl,λF=>rfl⟩) abe
def jg:UnR X (unaryOp .USub) (lo1 K WL.ni):=UnR.imp agX λx H Q a=>by
 refine gH a λF wx s b q=>?_;cases wx<;>first|exact q.elim|skip
 exact⟨_,b,q _ F H (Ext.refl F H) (rfl)⟩
def cj:∀x c,WL.ni x≠.ex c:=λx c h=>by cases x<;>simp[WL.ni]at h
def y6{F}{x y:VW}{v u}(h:WL.abS x y=true)(b:RW K F x v)(a:RW K F y u):akz v u=true/\decide (v=u)=WL.eqv x y:=by
 cases x<;>first|(cases h)|skip
 all_goals cases y<;>first|(cases h;done)|(subst b;subst a;exact⟨rfl,by first|rfl|exact um|exact aaY|exact uk ⟩)
def calm_eq:Calm WL.oEq:=λx y c h=>by simp only[WL.oEq]at h;split at h<;>first|(cases h)|(split at h<;>cases h)
def af3:Calm WL.oNe:=λx y c h=>by simp only[WL.oNe]at h;split at h<;>first|(cases h)|(split at h<;>cases h)
def w_eq(f:X.K=K)(i:X.A.units+64<cLine):OpR X (compareOp .Eq) (lo2 K WL.oEq):=by
 subst f;refine OpR.imp (akX.or ahP) λx y H Q a=>?_;refine uO a λF wx d s c b q=>?_;simp only[WL.oEq]at q;split at q;.rename_i h;obtain⟨g,e⟩:=y6 h c b;exact .inl ⟨g,eq1 q (by simp[RW,e])⟩
 .split at q;.rename_i h;rw[an6]at h;refine .inr (qt 50 _ _ (RW.isD _ _ x h.1 (c.keep s)) (RW.isD 50 d y h.2 (b.keep s)) (by omega) ?_);rw[mM 50 50 wx d h.1 h.2];exact eq1 q (rfl)
  .exact q.elim
def anb(f:X.K=K)(i:X.A.units+64<cLine):OpR X (compareOp .NotEq) (lo2 K WL.oNe):=by
 subst f;refine OpR.imp (akS.or ahJ) λx y H Q a=>?_;refine uO a λF wx d s c b q=>?_;simp only[WL.oNe]at q;split at q;.rename_i h;obtain⟨g,e⟩:=y6 h c b;exact .inl ⟨g,eq1 q (by simp[RW,e])⟩
 .split at q;.rename_i h;rw[an6]at h;refine .inr (qt 50 _ _ (RW.isD _ _ x h.1 (c.keep s)) (RW.isD 50 d y h.2 (b.keep s)) (by omega) ?_);rw[mM 50 50 wx d h.1 h.2];exact eq1 q (rfl)
  .exact q.elim
def mZ:Calm WL.oIn:=λx y c h=>by cases y<;>simp only[WL.oIn]at h<;>first|(cases h)|(split at h<;>cases h)
def oF:Calm WL.mw:=λx y c h=>by cases y<;>simp only[WL.mw]at h<;>first|(cases h)|(split at h<;>cases h)
set_option tactic.hygienic true
def agV(g:X.K=K)(i:X.A.units+64<cLine):OpR X (compareOp .In) (lo2 K WL.oIn):=by
 subst g;refine OpR.imp ahO λx y H Q a=>?_;refine uO a λF wx f s e d q=>?_;cases f<;>simp only[WL.oIn]at q<;>first|exact q.elim|skip
 all_goals
 rename_i c;by_cases h:(WL.okD 50 wx&&WL.iT 51 c)=true;.rw[anL h]at q;rw[an6]at h;have b:=RW.isD 51 _ y (by exact h.2) (d.keep s);refine qt 50 _ (gy c) (RW.isD 50 wx x h.1 (e.keep s)) (by first|exact .inl b|exact .inr b) (by omega) ?_;rw[uK h.1 h.2];exact eq1 q (rfl)
 .rw[anK h]at q;exact q.elim
def yB(g:X.K=K)(i:X.A.units+64<cLine):OpR X (compareOp .NotIn) (lo2 K WL.mw):=by
 subst g;refine OpR.imp zJ λx y H Q a=>?_;refine uO a λF wx f s e d q=>?_;cases f<;>simp only[WL.mw]at q<;>first|exact q.elim|skip
 all_goals
 rename_i c;by_cases h:(WL.okD 50 wx&&WL.iT 51 c)=true;.rw[anL h]at q;rw[an6]at h;have b:=RW.isD 51 _ y (by exact h.2) (d.keep s);refine qt 50 _ (gy c) (RW.isD 50 wx x h.1 (e.keep s)) (by first|exact .inl b|exact .inr b) (by omega) ?_;rw[uK h.1 h.2];exact eq1 q (rfl)
 .rw[anK h]at q;exact q.elim
set_option tactic.hygienic false
def vK{F w v}(r:RW K F w v):decide (v=V.non)=WL.nr w:=by cases w;all_goals first|(subst r;rfl)|(refine dE r λa d b _=>?_;subst b;rfl)|(obtain⟨a,rfl,_⟩:=r;rfl)|(refine wy r λa C c b _=>?_;subst b;rfl)|(refine aj4 r λa C c l b _=>?_;subst b;rfl)
def ahN:OpR X (compareOp .Is) λx y H Q=>∃b,y=.bl b/\Q (.bl (decide (x=.bl b))) H:=by
 intro d s σ H x y v u Q I a e h;obtain⟨b,rfl,q⟩:=h;cases e;refine wpAny_is_plain ?_ (bp I q ?_);.cases x<;>(obtain⟨t,rfl⟩:=a;rfl)
 .cases x with|bl c=>cases a;cases b<;>cases c<;>rfl|_=>(obtain⟨t,rfl⟩:=a;cases b<;>rfl)
def zK:OpR X (compareOp .IsNot) λx y H Q=>∃b,y=.bl b/\Q (.bl !decide (x=.bl b)) H:=by
 intro d s σ H x y v u Q I a e h;obtain⟨b,rfl,q⟩:=h;cases e;refine wpAny_isNot_plain ?_ (bp I q ?_);.cases x<;>(obtain⟨t,rfl⟩:=a;rfl)
 .cases x with|bl c=>cases a;cases b<;>cases c<;>rfl|_=>(obtain⟨t,rfl⟩:=a;cases b<;>rfl)
set_option tactic.hygienic true
def aec{F w v b}(r:RW K F w v):decide (v=V.bl b)=WL.isB b w:=by cases w;all_goals first|(subst r;cases b<;>first|rfl|(rename_i c;cases c<;>rfl))|(refine dE r λa f d _=>?_;subst d;cases b<;>rfl)|(obtain⟨a,rfl,_⟩:=r;cases b<;>rfl)|(refine wy r λa C e d _=>?_;subst d;cases b<;>rfl)|(refine aj4 r λa C e l d _=>?_;subst d;cases b<;>rfl)
set_option tactic.hygienic false
def af4:Calm WL.oIs:=λx y c h=>by cases y<;>simp[WL.oIs]at h
def fQ:Calm WL.iU:=λx y c h=>by cases y<;>simp[WL.iU]at h
def w_is:OpR X (compareOp .Is) (lo2 K WL.oIs):=by
 refine OpR.imp (ahM.or ahN) λx y H Q a=>?_;refine uO a λF wx d s c b q=>?_;cases d<;>first|exact q.elim|skip
 .exact .inl ⟨b,eq1 q (by simp[RW,vK c])⟩
 .exact .inr ⟨_,b,eq1 q (by simp[RW,aec c])⟩
def lC:OpR X (compareOp .IsNot) (lo2 K WL.iU):=by
 refine OpR.imp (afn.or zK) λx y H Q a=>?_;refine uO a λF wx d s c b q=>?_;cases d<;>first|exact q.elim|skip
 .exact .inl ⟨b,eq1 q (by simp[RW,vK c])⟩
 .exact .inr ⟨_,b,eq1 q (by simp[RW,aec c])⟩
def ajb{F ws vs i w}(r:RWs K F ws vs)(h:WL.atI ws i=some w):∃v,L2.atI vs i=some v/\RW K F w v:=by unfold WL.atI at h;cases e:WL.ixN _ i with|none=>rw[e]at h;cases h|some j=>rw[e]at h;obtain⟨v,b,a⟩:=r.get h;refine⟨v,?_,a⟩;unfold L2.atI;rw[<-r.length,show L2.ixN _ i=some j from e];exact b
def abd:Calm WL.oIx:=λx y c h=>by
 unfold WL.oIx at h;split at h<;>first|(cases h)|skip
 all_goals revert h;first|(cases WL.atI _ _<;>simp[WL.ofO];done)|(cases WL.mV _ _ _<;>simp[WL.ofO])
theorem aaV{F}(k)(w:VW):∀{kvs:List (Key×V)}{ks vs},RWs K F ks (kvs.map λp=>kV p.1)->RWs K F vs (kvs.map λp=>p.2)->WL.mV k ks vs=some w->∃v,sJ kvs (Sum.inr k)=some v/\RW K F w v
|[],ks,vs,r1,r2,e=>by cases ks with|nil=>simp[WL.mV]at e|cons x ks=>simp[RWs]at r1
|p::kvs,ks,vs,r1,r2,e=>by cases ks with|nil=>simp[WL.mV]at e|cons x ks=>
 cases vs with|nil=>cases x<;>cases e|cons y vs=>obtain⟨q,r,g,a,c⟩:=r1;obtain⟨s,o,n,f,l⟩:=r2;cases g;cases n;cases x with|str x=>
     simp only[RW]at a;have b:p.1=Sum.inr x:=by cases b:p.1 with|inl i=>rw[b]at a;cases i<;>exact absurd a (by simp[kV])|inr z=>rw[b]at a;simp only[kV]at a;cases a;rfl
     simp only[WL.mV]at e;by_cases h:x=k;.subst h;simp at e;subst e;exact⟨p.2,er b,f⟩
     .have m:(x==k)=false:=by simpa using h
      rw[m]at e;obtain⟨v,j,d⟩:=aaV k w c l (by simpa using e);exact⟨v,by rw[et λz=>h (by rw[b]at z;exact Sum.inr.inj z)];exact j,d⟩|_=>simp[WL.mV]at e
set_option tactic.hygienic true
def akb(m:X.K=K):IxR X (lo2 K WL.oIx):=by
 subst m;refine IxR.imp ((aai.or aeb).or aaj) λx y H Q g=>?_;obtain⟨F,wx,u,s,j,h,q⟩:=g;unfold WL.oIx at q;split at q;rotate_left 2;.rename_i o d k;obtain⟨a,r,rfl,f,l,p⟩:=j;cases e:WL.mV k o d with|none=>rw[e]at q;exact q.elim|some w=>rw[e]at q;obtain⟨v,c,b⟩:=aaV k w l p e;exact .inr ⟨a,_,Sum.inr k,v,rfl,h,s.rd f,c,eq1 q b⟩
 .exact q.elim
 all_goals rename_i n i;obtain⟨a,d,rfl,f,t⟩:=j;cases e:WL.atI n i with|none=>rw[e]at q;exact q.elim|some w=>rw[e]at q;obtain⟨v,c,b⟩:=ajb t e;first|exact .inl (.inl ⟨a,d,i,v,rfl,h,s.seq f,c,eq1 q b⟩)|exact .inl (.inr ⟨a,d,i,v,rfl,h,s.tup f,c,eq1 q b⟩)
set_option tactic.hygienic false
def adB(i:X.K=K):SlR X (amK K):=by
 subst i;have j:WL.sIx=HT.sIx:=rfl;refine SlR.imp (aeT.or aha) λx lo h H Q e=>?_;refine gH e λF wx s g q=>?_;cases wx<;>simp [WL.oSl]at q<;>first|exact q.elim|skip
 .obtain⟨a,d,rfl,f,b⟩:=g;split at q;.exact q.elim
  .rename_i hw;rw[j,b.length]at hw;exact .inr (xY a d rfl (s.tup f) hw λp c=>alQ s q (b.cut lo h) c)
 .obtain⟨a,d,rfl,f,b⟩:=g;exact .inl (jd a d rfl (s.seq f) λp c=>alR s q (b.cut lo h) c)
def fG{F w xs}(r:RWs K F [w] xs):∃v,xs=[v]/\RW K F w v:=by obtain⟨v,t,rfl,h,rfl⟩:=r;exact⟨v,rfl,h⟩
def two_of{F w b xs}(r:RWs K F [w,b] xs):∃v a,xs=[v,a]/\RW K F w v/\RW K F b a:=by obtain⟨v,t,rfl,h,a,d,rfl,c,rfl⟩:=r;exact⟨v,a,rfl,h,c⟩
def lB(f:X.K=K):bN X (.builtin "len") (loN K WL.oH):=by
 subst f;refine bN.imp sk λg H Q c=>?_;refine gH c λF ws s r q=>?_;unfold WL.oH at q;split at q;.obtain⟨v,rfl,h⟩:=fG r;obtain⟨a,b,rfl,d,e⟩:=h;exact⟨a,b,rfl,.inl (s.seq d),eq1 q (by simp[RW,e.length])⟩
 .obtain⟨v,rfl,h⟩:=fG r;obtain⟨a,b,rfl,d,e⟩:=h;exact⟨a,b,rfl,.inr (s.tup d),eq1 q (by simp[RW,e.length])⟩
 .exact q.elim
def sU(g:X.K=K):bN X (.type "tuple") (loN K WL.ie):=by
 subst g;refine bN.imp qj λk H Q d=>?_;refine gH d λF ws s r q=>?_;unfold WL.ie at q;split at q;.obtain⟨v,rfl,h⟩:=fG r;refine gH h λa c b e f=>?_;subst b;exact⟨a,c,rfl,.inl ⟨s.seq e,λl i=>alQ s q f i⟩⟩
 .refine fy (fG r) λv b h=>?_;subst b;have j:=h;refine gH h λa c b e f=>?_;subst b;exact⟨a,c,rfl,.inr ⟨s.tup e,eq1 q j⟩⟩
 .exact q.elim
set_option tactic.hygienic true
def aeK:bN X (.builtin "abs") (loN K WL.ael):=bN.imp adg λb H Q a=>by
 refine gH a λF ws s r q=>?_;unfold WL.ael at q;split at q;.rename_i i;obtain⟨v,rfl,h⟩:=fG r;subst h;exact⟨i,rfl,eq1 q (rfl)⟩
 .exact q.elim
set_option tactic.hygienic false
def agU(d:X.calm=true):bN X (.builtin "max") (loN K WL.uH):=bN.imp (abf d) λi H Q b=>by refine gH b λF ws s r q=>?_;cases e:WL.uH _ with|bad|ex c=>rw[e]at q;exact q.elim|ok w=>
 unfold WL.uH at e;split at e;.refine gH (two_of r) λv g a h f=>?_;subst a;subst h f;exact⟨_,_,rfl,eq1 q (rfl)⟩
 .cases e
def adC:bN X (.type "int") (loN K WL.aek):=bN.imp abg λb H Q a=>by obtain⟨F,ws,s,r,q⟩:=a;cases e:WL.aek ws with|bad|ex c=>rw[e]at q;exact q.elim|ok w=>
 rw[e]at q;unfold WL.aek at e;split at e;.cases e;obtain⟨v,rfl,h⟩:=fG r;simp only[RW]at h;subst h;exact .inr ⟨_,rfl,eq1 q (by simp[RW])⟩
 .cases e;obtain⟨v,rfl,h⟩:=fG r;simp only[RW]at h;subst h;exact .inl ⟨_,rfl,eq1 q (by simp[RW])⟩
 .cases e
noncomputable def akc:VW->Value|.non=>.type "NoneType"|.bl _=>.type "bool"|.int _=>.type "int"|.str _=>.type "str"|.ty _=>.type "type"|.tup _=>.type "tuple"|.lst _=>.type "list"|.dic _ _=>.type "dict"|.cls _=>.type "type"|.exc _ _=>.none|.ins _ _=>.none|.id _=>.none
set_option tactic.hygienic true
def aad{w:VW}{t b}(h:WL.isK w t=some b):W.kitOne K (akc w) (.type t)=some b:=by
 have a:=by
  cases w<;>first|(cases h;done)|(change(if _ then _ else _)=_ at h)
  all_goals
  split at h;.rename_i c;simpa using c
  .cases h
 cases w<;>rcases a with rfl|rfl|rfl|rfl|rfl<;>first|(cases h;done)|(rw[<-h];rfl)
set_option tactic.hygienic false
def ah2{F H a vs}(s:ax F H)(h:SqL K F a vs):TyOf K H (.ref a) (.type "list")\/∃o b n,K.lookup a=some o/\o.cls=.type "list"/\o.dict=none/\o.data=.seq b n:=by
 rcases h with(h|⟨o,h⟩)|⟨o,b,n,f,c,e,d,_⟩;.exact .inl (.lst (s _ _ h))
 .exact .inl (.frz (s _ _ h))
 .exact .inr (qt o _ n f c e d)
def sr:bN X (.builtin "isinstance") λc H Q=>∃a o T b,c=[.ref a,.ty T]/\X.K.lookup a=some o/\o.cls=.type "list"/\W.kitOne X.K (.type "list") (.type T)=some b/\Q (.bl b) H:=by intro d s σ H c l Q I r h;obtain⟨a,o,T,b,rfl,f,j,e,q⟩:=h;obtain⟨u,k,rfl,i,g⟩:=vals2 r;cases g;cases i;exact aoR aqP I.kIn ⟨o,I.kIn a o f,j⟩ e (λz=>nomatch z) λtk=>⟨.bl b,H,I.tok _,rfl,q⟩
set_option tactic.hygienic true
def cP(m:X.K=K):bN X (.builtin "isinstance") (loN K WL.bF):=by subst m;refine bN.imp (uE.or sr) λB H Q f=>?_;obtain⟨F,ws,s,r,q⟩:=f;cases e:WL.bF ws with|bad|ex c=>rw[e]at q;exact q.elim|ok w=>
  rw[e]at q;unfold WL.bF at e;split at e
  .rename_i x t;split at e;.rename_i b j;cases e;obtain⟨v,D,rfl,h,z⟩:=two_of r;subst z;have d:=aad (K:=X.K) j;have fin:Q (.bl b) H:=eq1 q (by simp[RW]);cases x with|non=>simp only[RW]at h;subst h;exact .inl ⟨_,t,_,b,rfl,.inl .non,d,fin⟩|bl k=>simp only[RW]at h;subst h;exact .inl ⟨_,t,_,b,rfl,.inl (.bl k),d,fin⟩|int k=>simp only[RW]at h;subst h;exact .inl ⟨_,t,_,b,rfl,.inl (.int k),d,fin⟩|str k=>simp only[RW]at h;subst h;exact .inl ⟨_,t,_,b,rfl,.inl (.str k),d,fin⟩|ty k|dic _ _|cls _|exc _ _|ins _ _|id _=>cases j|tup ys=>obtain⟨a,i,rfl,g,u⟩:=h;exact .inl ⟨_,t,_,b,rfl,.inr ⟨a,i,rfl,rfl,s.tup g⟩,d,fin⟩|lst ys=>
     obtain⟨a,i,rfl,g,u⟩:=h;rcases ah2 s g with ty|⟨o,l,n,p,y,C,A⟩;.exact .inl ⟨_,t,_,b,rfl,.inl ty,d,fin⟩
     .exact .inr ⟨a,o,t,b,rfl,p,y,d,fin⟩
   .cases e
  .cases e
set_option tactic.hygienic false
def dA:∀a c,WL.oH a≠.ex c:=λa c h=>by unfold WL.oH at h;split at h<;>cases h
def ky:∀a c,WL.ie a≠.ex c:=λa c h=>by unfold WL.ie at h;split at h<;>cases h
def qi:∀a c,WL.ael a≠.ex c:=λa c h=>by unfold WL.ael at h;split at h<;>cases h
def abc:∀a c,WL.uH a≠.ex c:=λa c h=>by unfold WL.uH at h;split at h<;>cases h
def sh:∀a c,WL.aek a≠.ex c:=λa c h=>by unfold WL.aek at h;split at h<;>cases h
def bt:∀a c,WL.bF a≠.ex c:=λa c h=>by
 unfold WL.bF at h;split at h;.split at h<;>cases h
 .cases h
end
structure Walk(K:W.Frag)(J:It)(xs:List VW)(F:Hp):Prop where
 go:∀(i:Nat)(x:VW),xs[i]?=some x->∀F1 H1:Hp,ax F F1->ax F1 H1->J.go i H1/\∀v H2,J.yld i H1 v H2->∃F2,Ext F1 H1 F2 H2/\RW K F2 x v
 stop:∀F1 H1:Hp,ax F F1->ax F1 H1->J.stop xs.length H1
def loI(B:Bx)(it:LF):TI:=λa H R=>∃σ F,RS B σ a F H/\Rq B σ F (it σ) λd=>∀J c b,RS B σ a b c->Gr F H b c->Walk B.K J d b->R J c
def yz{K a xs vs F}(h:SqL K F a vs)(r:RWs K F xs vs):Walk K (Itl K a) xs F:=by refine⟨λi x e g k b c=>?_,λg k b c=>⟨vs,c.seq (b.seq h),by rw[r.length];exact anP _⟩⟩;refine fy (r.get e) λv f j=>?_;refine⟨⟨vs,v,c.seq (b.seq h),f⟩,λu m d=>?_⟩;obtain⟨l,y⟩:=d;subst l;have:=y _ (c.seq (b.seq h));rw[f]at this;cases this;exact⟨g,Ext.refl _ _,j.keep b⟩
def abI{K a xs vs F}(h:SqT K F a vs)(r:RWs K F xs vs):Walk K (Itt K a) xs F:=by refine⟨λi x e g k b c=>?_,λg k b c=>⟨vs,c.tup (b.tup h),by rw[r.length];exact anP _⟩⟩;refine fy (r.get e) λv f j=>?_;refine⟨⟨vs,v,c.tup (b.tup h),f⟩,λu m d=>?_⟩;obtain⟨l,y⟩:=d;subst l;have:=y _ (c.tup (b.tup h));rw[f]at this;cases this;exact⟨g,Ext.refl _ _,j.keep b⟩
def j7(lo)(n):(WL.rng lo n).length=n:=by simp[WL.rng]
def k9{K lo n F}:Walk K (Itr lo n) (WL.rng lo n) F:=by
 refine⟨λi x e b f d g=>?_,λb f d g=>by rw[j7];exact anP n⟩;have c:=by have:=(anM.mp e).1;rwa[j7]at this
 refine⟨c,λv j a=>?_⟩;obtain⟨h,y⟩:=a;subst h y;refine⟨b,Ext.refl _ _,?_⟩;simp only[WL.rng,an7,aoL c]at e;have e:=an3 e;subst e;simp[RW]
theorem qc:∀(xs:List VW)(k i:Nat),(WL.dY k xs)[i]?=xs[i]?.map λx=>.tup [.int (k+i:Nat),x]|[],_,_=>rfl|x::xs,k,0=>rfl|x::xs,k,i+1=>by simp only[WL.dY,api];rw[qc _ _ i];congr 1;funext y;congr 4;omega
theorem qb:∀(xs:List VW)k,(WL.dY k xs).length=xs.length|[],_=>rfl|x::xs,k=>by simp [WL.dY,qb _ _]
def yA{K a xs vs F}(h:SqT K F a vs)(r:RWs K F xs vs):Walk K (Ite K a) (WL.dY 0 xs) F:=by refine⟨λi x e o q b c=>?_,λo q b c=>⟨vs,c.tup (b.tup h),by rw[qb,r.length];exact anP _⟩⟩;rw[qc]at e;cases f:xs[i]? with|none=>rw[f]at e;cases e|some y=>rw[f]at e;obtain⟨v,j,m⟩:=r.get f;have e:=an3 e;subst e;refine⟨⟨vs,v,c.tup (b.tup h),j⟩,λu t d=>?_⟩;refine je d λp n k s=>?_;subst n;obtain⟨z,l,rfl⟩:=s vs (c.tup (b.tup h));rw[j]at l;cases l;have g:=c.free k;refine⟨_,Ext.new g k _,p,_,rfl,SqT.of aq,?_⟩;simp only[RWs,RW];refine⟨_,_,rfl,?_,_,_,rfl,(m.keep b).keep (az g _),rfl⟩;simp
def wD{K a xs vs F}(h:SqL K F a vs)(r:RWs K F xs vs):Walk K (aj0 K a) (WL.dY 0 xs) F:=by refine⟨λi x e o q b c=>?_,λo q b c=>⟨vs,c.seq (b.seq h),by rw[qb,r.length];exact anP _⟩⟩;rw[qc]at e;cases f:xs[i]? with|none=>rw[f]at e;cases e|some y=>rw[f]at e;obtain⟨v,j,m⟩:=r.get f;have e:=an3 e;subst e;refine⟨⟨vs,v,c.seq (b.seq h),j⟩,λu t d=>?_⟩;refine je d λp n k s=>?_;subst n;obtain⟨z,l,rfl⟩:=s _ (c.seq (b.seq h));rw[j]at l;cases l;have g:=c.free k;refine⟨_,Ext.new g k _,p,_,rfl,SqT.of aq,?_⟩;simp only[RWs,RW];refine⟨_,_,rfl,?_,_,_,rfl,(m.keep b).keep (az g _),rfl⟩;simp
section
variable{X:Cx}{B:Bx}{e tg iter:Expr}{pos:Pos}{ta tb:EF}{it:LF}{g:GF}{b:SF}
def tSq(K:W.Frag)(f:TE):TI:=λσ H R=>f σ H λx c=>∃a,x=.ref a/\((∃d,SqL K c a d)/\R (Itl K a) c\/(∃d,SqT K c a d)/\R (Itt K a) c)
def afj{pins}{σ:L2.St}{d R c x v}(f:Inv X pins σ d c)(l:RelV x v)(q:∃a,x=.ref a/\((∃h,SqL X.K d a h)/\R (Itl X.K a) d\/(∃h,SqT X.K d a h)/\R (Itt X.K a) d)):wpAny (model X.prog X.w) X.A (pyIter v) (PIE X pins σ tg R) X.xe c:=by
 obtain⟨a,e,m⟩:=q;subst e;cases l;have k:∀b∈[c.heap.objs.size],uM X pins d b:=λb s=>by
  have e:b=c.heap.objs.size:=by grind
  subst e;exact f.aiH (anP _) (f.hok.fresh (anP _))
 rcases m with⟨⟨h,i⟩,q⟩|⟨⟨h,i⟩,q⟩;.obtain⟨j,r,p,n⟩:=f.list i;exact apO p.isList (amm c.heap.objs.size [c.heap.objs.size] _ _ d rfl (f.kept λb o e=>anG _ e) (yI a _) ⟨_,anT _ rfl,rfl,rfl⟩ k q)
 .obtain⟨j,r,p,n⟩:=f.tuple i;exact apF p (amm c.heap.objs.size [c.heap.objs.size] _ _ d rfl (f.kept λb o e=>anG _ e) (wF a _) ⟨_,anT _ rfl,rfl,rfl⟩ k q)
def ahw{l c}(i:PE X l c):PI X tg l (tSq X.K c):=λd s σ H R I h=>thn (i _ s σ H _ I h) λv k a=>by refine gH a λx m j f q=>?_;exact afj j f q
def afD{K}(f:K=B.K):∀c H R,loI B (WL.sM ta) c H R->tSq K (lo B ta) c H R:=λc H R j=>by refine dE j λσ F p q=>?_;have q:=Rq.bind q;refine cx σ F p (Rq.mono (ax.refl _) q λx i v r o h n m=>?_);cases x with|lst xs=>obtain⟨a,k,rfl,d,l⟩:=m;refine⟨a,rfl,.inl ⟨⟨k,by rw[f];exact h.rb.sub.seq d⟩,?_⟩⟩;rw[f];exact i _ _ o h n (yz d l)|tup xs=>obtain⟨a,k,rfl,d,l⟩:=m;refine⟨a,rfl,.inr ⟨⟨k,by rw[f];exact h.rb.sub.tup d⟩,?_⟩⟩;rw[f];exact i _ r o h n (abI d l)|_=>exact(i).elim
def fB(a:X.K=B.K)(h:PE X e (lo B ta)):PI X tg e (loI B (WL.sM ta)):=PI.imp (ahw h) (afD a)
def eH{a p pos}(A:Gl X "range")(u:X.mg "range"=none)(h:PE X a (lo B ta))(hs:starEach [a] X.env=[(false,eval a X.env)]:=by rfl)(n:starEach [a] X.env=(false,eval a X.env)::starEach [] X.env:=by rfl):PI X tg (.Call (.Name "range" p) [a] [] pos) (loI B (WL.gi ta)):=PI.imp (mf A u (aa h ah n) hs) λi H R m=>by
 refine dE m λσ F w q=>?_;have q:=Rq.bind q;have D:Rq B σ F (WL.ae ta WL.aw σ) λws=>∀l o f,RS B σ i f o->Gr F H f o->RWs B.K f ws l->∃j:Int,l=[.int j]/\-2^62<=j/\j<2^62/\R (Itr 0 j.toNat) o:=by show Rq B σ F ((ta σ).bind λx=>.ok [x]) _;cases e:ta σ with
 |ok x=>
   rw[e]at q;intro l C z y s r;refine fy (fG r) λv k t=>?_;subst k
   cases x with|int j=>
    subst t;have q:Rq B σ F (if -2^62<=j/\j<2^62 then .ok (WL.rng 0 j.toNat)else .bad) _:=q;by_cases d:-2^62<=j/\j<2^62;.rw[anL d]at q;exact⟨j,rfl,d.1,d.2,q _ C z y s k9⟩
    .rw[anK d]at q;exact q.elim|_=>exact(q).elim
 |ex c=>rw[e]at q;exact q|bad=>rw[e]at q;exact q
 exact cx σ F w D
def ym{a c p pos}(K:Gl X "range")(A:X.mg "range"=none)(h:PE X a (lo B ta))(h':PE X c (lo B tb))(hs:starEach [a,c] X.env=[(false,eval a X.env),(false,eval c X.env)]:=by rfl)(u:starEach [c] X.env=[(false,eval c X.env)]:=by rfl)(o:starEach [a,c] X.env=(false,eval a X.env)::starEach [c] X.env:=by rfl)(d:starEach [c] X.env=(false,eval c X.env)::starEach [] X.env:=by rfl):PI X tg (.Call (.Name "range" p) [a,c] [] pos) (loI B (WL.rS ta tb)):=PI.imp (zx K A (aa h (aa h' ah d) o) hs u) λk H R n=>by
 refine dE n λσ F G q=>?_;have q:=Rq.bind q;have N:Rq B σ F (WL.ae ta (WL.ae tb WL.aw) σ) λws=>∀m s f,RS B σ k f s->Gr F H f s->RWs B.K f ws m->∃i j:Int,m=[.int i,.int j]/\(-2^62<=i/\i<2^62/\-2^62<=j/\j<2^62)/\R (Itr i (j-i).toNat) s:=by show Rq B σ F ((ta σ).bind λx=>((tb σ).bind _).bind λC=>.ok (x::C)) _;cases e:ta σ with
 |ok x=>rw[e]at q;have q:=Rq.bind q;cases l:tb σ with
  |ok y=>rw[l]at q;intro m M J I z w;refine gH (two_of w) λv O t E D=>?_;subst t;cases x with
   |int i=>cases y with|int j=>
      subst E D;have q:Rq B σ F (if -2^62<=i/\i<2^62/\-2^62<=j/\j<2^62 then .ok (WL.rng i (j-i).toNat)else .bad) _:=q;by_cases r:-2^62<=i/\i<2^62/\-2^62<=j/\j<2^62;.rw[anL r]at q;exact⟨i,j,rfl,r,q _ M J I z k9⟩
      .rw[anK r]at q;exact q.elim|_=>exact(q).elim
   |_=>exact(q).elim
  |ex c=>rw[l]at q;exact q|bad=>rw[l]at q;exact q
 |ex c=>rw[e]at q;exact q|bad=>rw[e]at q;exact q
 exact cx σ F G N
def oQ{l es k A p pos}(d:X.K=B.K)(z:Gl X "enumerate")(u:X.mg "enumerate"=none)(h:PE X l (lo B ta))(hs:starEach [l] X.env=[(false,eval l X.env)]:=by rfl):PI X (.Tuple es k A) (.Call (.Name "enumerate" p) [l] [] pos) (loI B (WL.rT ta)):=PI.imp (tG z u h hs) λy H R j=>by refine dE j λσ F w q=>?_;have q:=Rq.bind q;refine cx σ F w (Rq.mono (ax.refl _) q λx i v t s f r o=>?_);cases x with|tup xs=>obtain⟨a,m,rfl,c,n⟩:=o;refine⟨a,rfl,.inl ⟨⟨m,by rw[d];exact f.rb.sub.tup c⟩,?_⟩⟩;rw[d];exact i _ t s f r (yA c n)|lst xs=>obtain⟨a,m,rfl,c,n⟩:=o;refine⟨a,rfl,.inr ⟨⟨m,by rw[d];exact f.rb.sub.seq c⟩,?_⟩⟩;rw[d];exact i _ t s f r (wD c n)|_=>exact(i).elim
variable{m:Bool}{es:List Expr}{gs:GsF}
def aeF{i}(h:PG X e (L2.au i)):PG X e (loG m B (WL.au i)):=PG.imp h λv c H Q a=>by obtain⟨σ,F,w,R,r,q⟩:=a;exact q _ H F (R.set r) Gm.refl
def fh:PGs X [] (ajI m B WL.kN):=PGs.imp tH λd c H Q a=>by refine wu a λσ F ws R r q=>?_;cases ws with|nil=>exact⟨r,q _ H F R Gm.refl⟩|cons w ws=>exact(q).elim
def aZ(p:PG X e (loG m B g))(k:PGs X es (ajI m B gs))(hs:(assignEach (e::es) X.env).map (·.2)=assign e X.env::(assignEach es X.env).map (·.2):=by rfl):PGs X (e::es) (ajI m B (WL.bu g gs)):=PGs.imp (iw p k hs) λy l H Q d=>by refine wu d λσ F ws R r q=>?_;cases ws with|nil=>exact(q).elim|cons w ws=>obtain⟨v,t,rfl,r,rt⟩:=r;refine⟨v,t,rfl,σ,F,w,R,r,?_⟩;have q:Rq B σ F (match g w σ with|.ok σ'=>(match gs _ σ' with|.ok σ2=>.ok σ2|_=>.bad)|_=>.bad) _:=q;cases a:g w σ with|bad=>rw[a]at q;exact q|ex c=>rw[a]at q;exact q.elim|ok σ1=>rw[a]at q;intro j z s o h;have q:Rq B σ F (match gs ws σ1 with|.ok σ2=>.ok _|_=>.bad) _:=q;refine aex σ1 s ws o (rt.keep h.f) ?_;cases f:gs ws σ1 with|bad=>rw[f]at q;exact q|ok σ2=>rw[f]at q;exact λi x u R2 n=>q _ x u R2 (h.trans n)|ex c=>rw[f]at q;exact q.elim
def iM{k n}(p:X.K=B.K)(z:X.calm=true)(h:PGs X es (ajI m B gs))(u:(assignEach es X.env).length=n)(A:∀ws σ d,gs ws σ=.ok d->ws.length=n)(x:∀ws σ c,gs ws σ≠.ex c)(f:(assignEach es X.env).findIdx? (·.1)=none:=by rfl):PG X (.Tuple es k pos) (loG m B (WL.k7 gs)):=PG.imp (adW z h u f) λv s H Q l=>by refine wu l λσ F w R r q=>?_;cases w with
|tup ws=>refine gH r λa t i y o=>?_;subst i;have q:Rq B σ F (gs _ σ) _:=q;refine⟨a,t,rfl,by rw[p];exact R.rb.sub.tup y,?_,σ,F,ws,R,o,q⟩;cases j:gs _ σ with|ok d=>rw[<-o.length];exact A _ _ _ j|ex c=>exact(x _ _ _ j).elim|bad=>rw[j]at q;exact q.elim
|_=>exact(q).elim
def iW:∀ws σ a,WL.kN ws σ=.ok a->ws.length=0:=λws σ a h=>by cases ws<;>simp[WL.kN]at h;rfl
def bz{n}(h:∀ws σ a,gs ws σ=.ok a->ws.length=n):∀ws σ a,WL.bu g gs ws σ=.ok a->ws.length=n+1:=λws σ a q=>by cases ws with|nil=>simp[WL.bu]at q|cons w ws=>have q:(match g w σ with|.ok _=>(match gs _ _ with|.ok _=>Res.ok _|_=>.bad)|_=>.bad)=.ok _:=q;cases d:g w σ with
 |ok σ1=>rw[d]at q;have q:(match gs ws _ with|.ok σ2=>Res.ok _|_=>.bad)=.ok _:=q;cases f:gs ws σ1 with|ok σ2=>simp[h _ _ _ f]|ex c|bad=>rw[f]at q;cases q
 |ex c=>rw[d]at q;cases q|bad=>rw[d]at q;cases q
def dw:∀ws σ c,WL.bu g gs ws σ≠.ex c:=λws σ c q=>by cases ws with|nil=>simp[WL.bu]at q|cons w ws=>have q:(match g w σ with|.ok _=>(match gs _ _ with|.ok _=>Res.ok _|_=>.bad)|_=>.bad)=.ex c:=q;cases a:g w σ with|ok σ1=>rw[a]at q;have q:(match gs _ _ with|.ok σ2=>Res.ok _|_=>.bad)=.ex c:=q;cases d:gs _ _<;>rw[d]at q<;>cases q|ex c=>rw[a]at q;cases q|bad=>rw[a]at q;cases q
def adz{i:Nat}{o f:Expr}(T:PE X o (jP i))(S:PE X f (lo B ta))(J:∀v,assign (.Subscript o f pos) X.env v=(do
  let l <-holding [v] (eval o X.env)let s <-holding [v,l] (eval f X.env)standAt pos
  holding [v,l,s] (setItem l s v)release [v,l,s] []):=by intro _;rfl):PG X (.Subscript o f pos) (loG false B (WL.acV i ta)):=PG.imp (ahx T S set_list J) λv n H Q p=>by obtain⟨σ,F,w,R,r,q⟩:=p;have q:Rq B σ F (match σ[i]? with|some (.ow ws)=>(match ta σ with|.ok (.int k)=>(match WL.ixN ws.length k with|some j=>.ok (σ.set i (.ow (ws.set j w)))|none=>.bad)|_=>.bad)|_=>.bad) _:=q;cases e:σ[i]? with|none=>rw[e]at q;exact q.elim|some sl=>rw[e]at q;cases sl with|no|va _|od _ _|ob=>exact q.elim|ow ws=>obtain⟨a,K,C,N,M,A,D⟩:=R.ow i ws e;have q:=q;refine⟨.ref a,C,σ,F,R,?_⟩;cases t:ta σ with|bad=>rw[t]at q;exact q|ex c=>rw[t]at q;exact(q).elim|ok k=>rw[t]at q;intro u Y P O d y;cases k with
 |int k=>simp only[RW]at y;have h:Rq B σ F (match WL.ixN ws.length k with|some j=>.ok (σ.set i (.ow (ws.set j w)))|none=>.bad) _:=q;cases x:WL.ixN ws.length k with|none=>rw[x]at h;exact h.elim|some j=>
   rw[x]at h;have G:=d.h a _ A;refine⟨a,K,k,j,rfl,y,G,by rw[<-D.length];exact x,?_⟩;refine h n _ P (O.write e C (d.nf a _ A N) M G (RWs.set (r.keep d.f) j (D.keep d.f))) ⟨d.f,d.nf,λb E U=>?_,λz=>nomatch z⟩;by_cases I:b=a;.subst I;exact⟨_,aq⟩
   .exact⟨E,by rw[aj I];exact d.h b E U⟩
 |_=>exact(q).elim
def vM(h:∀ws σ c,gs ws σ≠.ex c):∀w σ c,WL.k7 gs w σ≠.ex c:=λw σ c q=>by cases w<;>simp [WL.k7]at q<;>exact h _ _ _ q
def aed{i:Nat}:∀w σ c,WL.acV i ta w σ≠.ex c:=λw σ c q=>by
 simp only[WL.acV]at q;split at q
 .split at q;.split at q<;>cases q
  .cases q
 .cases q
abbrev Bx.calm(B:Bx):Bx:=⟨B.K,B.H0,B.F0,λ_ _ _=>False,λ_ _ _ _ _ h=>h⟩
def RS.ag0{σ a F H}(R:RS B σ a F H):RS B.calm σ a F H:=⟨⟨R.rb.sub,R.rb.base,R.rb.fz0,R.rb.fr⟩,R.len,R.va,R.ow,R.ap,R.dd⟩
def RB.ahU{F H}(R:RB B.calm F H):RB B F H:=⟨R.sub,R.base,R.fz0,R.fr⟩
def RS.ahead{σ:Ws}{f:L2.St}{F H:Hp}(R:RS B σ f F H)(k:Nat):RS B (List.replicate k .no++σ) (List.replicate k none++f) F H:=by
 have c:∀{i:Nat}{q:Sl},(List.replicate k Sl.no++σ)[i]?=some q->q≠.no->k<=i/\σ[i-k]?=some q:=λ{i q}e M=>by
  by_cases d:i<k;.rw[aow (by simpa using d)]at e;rw[aor,anL d]at e;exact absurd (an3 e).symm M
  .rw[aos (by simp;omega)]at e;simp only[apn]at e;exact⟨by omega,e⟩
 have r:∀{i:Nat}{x:Option V},k<=i->f[i-k]?=some x->(List.replicate k none++f)[i]?=some x:=λ{i x}d e=>by rw[aos (by simp;omega)];simpa using e
 have p:∀{i:Nat}{x:Option V},k<=i->(List.replicate k none++f)[i]?=some x->f[i-k]?=some x:=λ{i x}d e=>by rw[aos (by simp;omega)]at e;simpa using e
 refine⟨R.rb,by simp[R.len],λi w e=>?_,λi ws e=>?_,λi j ws s a t h o y E=>?_,λi D I e=>?_,λi j D I A J a t h o y E=>?_,λi e=>?_⟩;rotate_left 3;.obtain⟨d,e⟩:=c e (by intro z;cases z);obtain⟨a,G,l,n⟩:=R.dd.od _ D I e;exact⟨a,G,r d l,n⟩
 .obtain⟨d,h⟩:=c h (by intro z;cases z);obtain⟨u,o⟩:=c o (by intro z;cases z);exact R.dd.ad _ _ D I A J a (by omega) h o (p d y) (p u E)
 .obtain⟨d,e⟩:=c e (by intro z;cases z);obtain⟨a,C,N,l,n⟩:=R.dd.ob _ e;exact⟨a,C,N,r d l,n⟩
 .obtain⟨d,e⟩:=c e (by intro z;cases z);obtain⟨v,l,n⟩:=R.va _ w e;exact⟨v,r d l,n⟩
 .obtain⟨d,e⟩:=c e (by intro z;cases z);obtain⟨a,K,l,n⟩:=R.ow _ ws e;exact⟨a,K,r d l,n⟩
 .obtain⟨d,h⟩:=c h (by intro z;cases z);obtain⟨u,o⟩:=c o (by intro z;cases z);exact R.ap _ _ ws s a (by omega) h o (p d y) (p u E)
def RS.forget{σ c d F H}(R:RS B σ d F H)(r:c.length=σ.length)(h:∀(i:Nat)f,c[i]?=some f->f≠.no->σ[i]?=some f):RS B c d F H:=⟨R.rb,by rw[r];exact R.len,λi w e=>R.va i w (h i _ e (by simp)),λi ws e=>R.ow i ws (h i _ e (by simp)),λi j ws k a l o u=>R.ap i j ws k a l (h i _ o (by simp)) (h j _ u (by simp)),R.dd.via rfl id (λ_ _ z=>.inl z) (λi f q e=>⟨h i _ e (by intro z;subst z;exact q),rfl⟩) (ax.refl _) λ_ _ _ a t _ _ n s p=>⟨s,p,n⟩⟩
def Keeps(k:Nat)(g:GF):Prop:=∀w σ a,g w σ=.ok a->a.length=σ.length/\∀j:Nat,k<=j->a[j]?=σ[j]?
def aM{k i}(h:i<k):Keeps k (WL.au i):=λw σ a e=>by cases e;exact⟨by simp,λj c=>by grind⟩
end
end WS
set_option autoImplicit true
set_option relaxedAutoImplicit true
namespace WS
open PySem PySem.Spec PyProof.Rows L2
open WL(Res Sl Ws EF TF AF LF GF GsF SF Out XF XA FS Fs KO KF OX RF Sr)
section
variable{X:Cx}{B:Bx}{e tg iter:Expr}{pos:Pos}{ta tb:EF}{tt:TF}{it:LF}{g:GF}{b:SF}{k:Nat}
def wb   (hg:Keeps k g)(R1:RS B σ σV F1 H1)(wk:Walk B.K J xs F1)(hx:xs.length<=WL.lim)(hc:WL.br g tt ta (List.replicate k .no++σ) xs=.ok all)(fin:∀o h l,RB B h l->Gr F1 H1 h l->RWs B.K h all o->∀D,l D=none->Q (.ref D) (upd l D (.lst o))):m7 (ax H1) J (loG true B.calm g) (loT B.calm tt) (lo B.calm ta) (List.replicate k none++σV) H1 Q:=by
 refine⟨λi m o p l=>m=xs.length-i/\i<=xs.length/\o.length<=i/\∃h d rest,RS B.calm (List.replicate k .no++σ) p h l/\Gr F1 H1 h l/\RWs B.K h d o/\WL.br g tt ta (List.replicate k .no++σ) (xs.drop i)=.ok rest/\d++rest=all,⟨xs.length,rfl,aoi _,aoi _,F1,[],all,(R1.ag0).ahead k,Gr.refl,by simp[RWs],by simpa using hc,rfl⟩,?_⟩;rintro i m o p l⟨rfl,hi,P,h,d,rest,E,w,N,a,f⟩;refine⟨w.h,ao3 (anQ P (anQ hi hx)) (by decide),?_⟩;by_cases s:i<xs.length;.have hd:=aoU s;rw[hd]at a;obtain⟨go,yl⟩:=wk.go i xs[i] (anJ s) h l w.f E.rb.sub;refine .inr ⟨go,λr z C=>r.length<=i+1/\∃A d rest,RS B.calm (List.replicate k .no++σ) z A C/\Gr F1 H1 A C/\RWs B.K A d r/\WL.br g tt ta (List.replicate k .no++σ) (xs.drop (i+1))=.ok rest/\d++rest=all,λr z C⟨a1,a2⟩=>⟨xs.length-(i+1),by omega,rfl,s,a1,a2⟩,λv C hy=>?_⟩;obtain⟨A,T,r2⟩:=yl v C hy;simp only[WL.br]at a;cases x:g xs[i] (List.replicate k .no++σ)with|bad=>rw[x]at a;cases a|ex c=>rw[x]at a;cases a|ok σ1=>
   rw[x]at a;obtain⟨Z,kk⟩:=hg _ _ _ x;refine⟨_,A,xs[i],T.rs _ _ _ E,r2,?_⟩;rw[x];intro q H3 F3 R3 R;have back:∀{t I:Hp},RS B.calm σ1 q t I->RS B.calm (List.replicate k .no++σ) q t I:=λ{t I}K=>K.forget Z.symm λj sl S ne=>by
    by_cases U:j<k;.rw[aow (by simpa using U),aor,anL U]at S;exact absurd (an3 S).symm ne
    .rw[kk j (by omega)];exact S
   have n:=T.gr.trans ⟨R.f,R.h rfl,R.nf⟩;have a:((tt σ1).bind λb=>match b with|true=>(ta σ1).bind λy=>(WL.br g tt ta (List.replicate k .no++σ) (xs.drop (i+1))).bind λo=>.ok (y::o)|false=>WL.br g tt ta (List.replicate k .no++σ) (xs.drop (i+1)))=.ok rest:=a;cases M:tt σ1 with|bad=>rw[M]at a;cases a|ex c=>rw[M]at a;cases a|ok b=>rw[M]at a;refine⟨σ1,F3,R3,?_⟩;rw[M];intro I t K H;cases b with|false=>rw[anK an5];exact⟨by omega,t,d,rest,back K,w.trans (n.trans H),N.keep (n.trans H).f,a,f⟩|true=>rw[anL rfl];have a:=a;cases G:ta σ1 with|bad=>rw[G]at a;cases a|ex c=>rw[G]at a;cases a|ok y=>rw[G]at a;refine⟨σ1,t,K,?_⟩;rw[G];intro u H5 F5 R5 Y r5;have a:=a;cases O:WL.br g tt ta (List.replicate k .no++σ) (xs.drop (i+1))with|bad=>rw[O]at a;cases a|ex c=>rw[O]at a;cases a|ok zs=>rw[O]at a;cases a;exact⟨by rw[aoh,apo];omega,F5,d++[y],zs,back R5,w.trans ((n.trans H).trans Y),(N.keep ((n.trans H).trans Y).f).app (.one r5),rfl,by rw[<-f];simp⟩
 .have ei:i=xs.length:=by omega
  subst ei;rw[apv]at a;simp only[WL.br]at a;cases a;rw[aom]at f;subst f;exact .inl ⟨wk.stop h l w.f E.rb.sub,λD hD=>fin o h l E.rb.ahU w N D hD⟩
def z9(o:Keeps k g):∀d H Q,lo B (WL.fu k it g tt ta) d H Q->yV k (loI B it) (loG true B.calm g) (loT B.calm tt) (lo B.calm ta) d H Q:=by
 intro d H Q⟨σ,F,R,q⟩;have q:=Rq.bind (Rq.bind q);refine⟨σ,F,R,Rq.mono (ax.refl _) q λj a J v t l n wk=>?_⟩;by_cases h:j.length<=WL.lim;.rw[anL h]at a;cases e:WL.br g tt ta _ j with|bad|ex c=>rw[e]at a;exact(a).elim|ok all=>rw[e]at a;refine m7.w (wb o l wk h e λp s u i m r D f=>?_);exact a (.ref D) _ _ ((l.grow m i).new f _) (n.trans (m.trans (Gr.new (i.sub.free f) f _))) (by exact jd D p rfl (SqL.of aq) (r.keep (az (i.sub.free f) _)))
 .rw[anK h]at a;exact(a).elim
def acA(o:Keeps k g):∀d H Q,loL B (WL.ue k it g tt ta) d H Q->yV k (loI B it) (loG true B.calm g) (loT B.calm tt) (lo B.calm ta) d H Q:=by
 intro d H Q⟨σ,F,R,q⟩;have q:=Rq.bind q;refine⟨σ,F,R,Rq.mono (ax.refl _) q λh a J u s i l wk=>?_⟩;by_cases f:h.length<=WL.lim;.rw[anL f]at a;cases e:WL.br g tt ta (List.replicate k .no++σ) h with|bad|ex c=>rw[e]at a;exact(a).elim|ok all=>rw[e]at a;refine m7.w (wb o i wk f e λv p t n j r D m=>?_);exact alk (i.grow j n) (l.trans j) r m a
 .rw[anK f]at a;exact(a).elim
variable{scope:Scope}{ts:List Str}{elt:Expr}{ifs:List Expr}
def dF:xX X [] (loT B WL.fE):=λc s σ H Q I a=>by obtain⟨d,F,R,q⟩:=a;exact vr _ s σ H Q I (q H F R Gr.refl)
def dr(L:CompLook X scope)(l:X.calm=true)(f:ts.length=k)(j:Keeps k g)(i:PI X tg iter (loI B it))(n:∀C c a d,PG (X.comp scope C ts c a d) tg (loG true B.calm g))(h:∀C c a d,xX (X.comp scope C ts c a d) ifs (loT B.calm tt))(m:∀C c a d,PE (X.comp scope C ts c a d) elt (lo B.calm ta))(hs:∀x,foldedSetIterable iter X.env x=pure x:=by intro _;rfl):PE X (.ListComp elt [⟨tg,iter,ifs,0⟩] scope pos) (lo B (WL.fu k it g tt ta)):=by subst f;exact PE.imp (ab8 L l i n h m hs) (z9 j)
variable{st:Stmt}{sts rest:List Stmt}{s1 s2:SF}{i:Nat}
def aY:PSs X [] (loS B WL.sNx):=PSs.imp zq λD c H a=>by obtain⟨σ,F,R,q⟩:=a;exact q _ H F R (ax.refl _)
def ah4:∀D a H,loS B (WL.aG s1 s2) D a H->ag3 (loS B s1) (loS B s2) D a H:=λD a H d=>by refine dE d λσ F R q=>?_;refine cx σ F R ?_;have q:Oq B D F (match s1 σ with|.nx _=>s2 _|o=>o):=q;cases e:s1 σ with|nx σ'=>rw[e]at q;exact λf l h j s=>⟨_,h,j,Oq.mono s q⟩|bk σ'|ct σ'|rt w|ex c σ'|bad=>rw[e]at q;exact q
def ak(c:PS X st (loS B s1))(a:PSs X rest (loS B s2)):PSs X (st::rest) (loS B (WL.aG s1 s2)):=PSs.imp (eZ c a) ah4
def ao(a:PS X st (loS B s1)):PSs X [st] (loS B s1):=ma a
def aD(f:PE X e (lo B ta)):PS X (.Return (some e) pos) (loS B (WL.dn ta)):=PS.imp (adS f) λD c H a=>by obtain⟨σ,F,R,q⟩:=a;have q:=Oq.ofR q;exact⟨σ,F,R,Rq.mono (ax.refl _) q λw h v l j d g r=>h v _ _ d.rb g.f r⟩
def dC (m:PT X c (loT B tt))(n:PSs X a (loS B s1))(j:PSs X d (loS B s2)):PS X (.If c a d pos) (loS B (WL.sIf tt s1 s2)):=PS.imp (ahq m n j) λD o H f=>by refine dE f λσ F R q=>?_;have q:=Oq.ofR q;refine cx σ F R (Rq.mono (ax.refl _) q λx l r h p g=>?_);cases x with|true|false=>exact⟨σ,h,p,Oq.mono g.f l⟩
def z8 (f:∀a H Q,lo B ta a H Q->tV a H Q):∀D a H,loS B (WL.gB i ta) D a H->ag8 tV (L2.au i) D a H:=λD a H c=>by obtain⟨σ,F,R,q⟩:=c;have q:=Oq.ofR q;exact f _ _ _ ⟨σ,F,R,Rq.mono (ax.refl _) q λw h v l j d g r=>h _ _ _ (d.set r) g.f⟩
def z7 (f:∀c H Q,loL B l c H Q->tV c H Q):∀D c H,loS B (WL.qS i l) D c H->ag8 tV (L2.au i) D c H:=λD c H d=>by refine dE d λσ F R q=>?_;have q:=Oq.ofR q;exact f _ _ _ (cx σ F R (Rq.mono (ax.refl _) q λws p a u v t n g h s m r o=>p _ _ _ (n.aji h s m r λj w _ e=>o j _ e) g.f))
def agJ (h:X.N.Nodup)(d:X.N[i]?=some x)(a:Loc X.env.scope x)(c:PE X e (lo B ta))(hs:swapsWith e (some (.Name x pos')) pos.line X.env=pure false:=by rfl)(f:FL X x:=by first|exact .inl rfl|exact .inr rfl|assumption):PS X (.Assign [.Name x pos'] e pos) (loS B (WL.gB i ta)):=PS.imp (md h d a c hs f) (z8 λ_ _ _ q=>q)
def sR  (h:X.N.Nodup)(d:X.N[i]?=some x)(a:Loc X.env.scope x)(c:PE X e (loL B l))(hs:swapsWith e (some (.Name x pos')) pos.line X.env=pure false:=by rfl)(f:FL X x:=by first|exact .inl rfl|exact .inr rfl|assumption):PS X (.Assign [.Name x pos'] e pos) (loS B (WL.qS i l)):=PS.imp (md h d a c hs f) (z7 λ_ _ _ q=>q)
def aeB (s:X.N.Nodup)(f:X.N[i]?=some y)(r:X.env.scope.names.lookup y=some .local)(h:swapsWith (.ListComp elt [⟨tg,iter,ifs,0⟩] scope pos) (some (.Name y py)) spos.line X.env=pure true)(L:CompLook X scope)(p:X.calm=true)(m:ts.length=k)(n:Keeps k g)(o:PI X tg iter (loI B it))(l:∀C c a d,PG (X.comp scope C ts c a d) tg (loG true B.calm g))(j:∀C c a d,xX (X.comp scope C ts c a d) ifs (loT B.calm tt))(q:∀C c a d,PE (X.comp scope C ts c a d) elt (lo B.calm ta))(hs:∀x,foldedSetIterable iter X.env x=pure x:=by intro _;rfl):PS X (.Assign [.Name y py] (.ListComp elt [⟨tg,iter,ifs,0⟩] scope pos) spos) (loS B (WL.gB i (WL.fu k it g tt ta))):=by subst m;exact PS.imp (gY s f r h L p o l j q hs) (z8 (z9 n))
def abA (s:X.N.Nodup)(f:X.N[i]?=some y)(r:X.env.scope.names.lookup y=some .local)(h:swapsWith (.ListComp elt [⟨tg,iter,ifs,0⟩] scope pos) (some (.Name y py)) spos.line X.env=pure true)(L:CompLook X scope)(p:X.calm=true)(m:ts.length=k)(n:Keeps k g)(o:PI X tg iter (loI B it))(l:∀C c a d,PG (X.comp scope C ts c a d) tg (loG true B.calm g))(j:∀C c a d,xX (X.comp scope C ts c a d) ifs (loT B.calm tt))(q:∀C c a d,PE (X.comp scope C ts c a d) elt (lo B.calm ta))(hs:∀x,foldedSetIterable iter X.env x=pure x:=by intro _;rfl):PS X (.Assign [.Name y py] (.ListComp elt [⟨tg,iter,ifs,0⟩] scope pos) spos) (loS B (WL.qS i (WL.ue k it g tt ta))):=by subst m;exact PS.imp (gY s f r h L p o l j q hs) (z7 (acA n))
def nD(p:PE X e (lo B ta))(s:PG X tg (loG false B g))(y:∀w σ c,g w σ≠.ex c)(hs:swapsWithSole [tg] e pos.line X.env=pure false:=by rfl)(hw:swappedStores [tg] e X.env=pure none:=by rfl)(n:(assignEach [tg] X.env).map (·.2)=[assign tg X.env]:=by rfl):PS X (.Assign [tg] e pos) (loS B (WL.adM ta g)):=PS.imp (adU p s hs hw n) λD l H a=>by refine dE a λσ F R q=>?_;have q:=Oq.ofR q;exact cx σ F R (Rq.mono (ax.refl _) q λw u v x h o f r=>aex σ h w o r (Rq.mono f.f (Oq.ofR u) λt j d A z R2 m=>j _ _ _ R2 (f.f.trans m.f)))
def adw(A:X.K=B.K)(h:PS X st (yU (tBM X.K "list" zi (jP i) (jj (lo B ta) abr)))):PS X st (loS B (WL.ahf i ta)):=PS.imp h λD l H m=>by refine dE m λσ F R q=>?_;have q:Oq B D F (match σ[i]? with|some (.ow ws)=>WL.ofR σ (ta σ) _|_=>.bad):=q;cases d:σ[i]? with|none=>rw[d]at q;exact q.elim|some sl=>rw[d]at q;cases sl with|no|va _|od _ _|ob=>exact q.elim|ow ws=>
   refine kR (R.ow i ws d) λa r o u z j s=>?_;have q:=Oq.ofR q;refine⟨.ref a,o,.inl ⟨rfl,r,SqL.of j⟩,σ,F,R,Rq.mono (ax.refl _) q λw f v C y x c t=>?_⟩;by_cases n:ws.length<WL.lim;.rw[anL n]at f;have p:=c.h a _ j;exact aj7 a r v rfl rfl p (by rw[<-s.length];exact anN n hE) (f l _ y (x.write d o (c.nf a _ j u) z p ((s.keep c.f).app (.one t))) c.f)
   .rw[anK n]at f;exact(f).elim
def qy(h:PS X st (loS B s1)):PS X st (loS B (WL.x4 i s1)):=PS.imp h λD d H a=>by refine dE a λσ F R q=>?_;refine je (R.frz i) λc s f _=>?_;exact⟨_,c,f,Oq.mono s q⟩
def ah6:∀D o H,loS B (WL.qp it g b) D o H->amt (loI B it) (loG false B g) (loS B b) D o H:=λD o H I=>by
 refine dE I λσ F R q=>?_;have q:=Oq.ofR q;refine cx σ F R (Rq.mono (ax.refl _) q λh qx J H1 O R1 Q wk=>?_);refine⟨λi m d u=>m=h.length-i/\i<=h.length/\∃j l,RS B j d l u/\ax O l/\Oq B D l (WL.forL g b (h.drop i) j),⟨h.length,rfl,aoi _,σ,O,R1,ax.refl _,by rw[aqR];exact Oq.mono Q.f qx⟩,?_⟩;rintro i m d u⟨rfl,a0,j,l,C,G,s⟩;by_cases p:i<h.length;.have hd:=aoU p;rw[hd]at s;obtain⟨go,Z⟩:=wk.go i h[i] (anJ p) l u G C.rb.sub;refine .inr ⟨go,_,λa P h2=>⟨h.length-(i+1),by omega,rfl,p,h2⟩,λv P Y=>?_⟩;refine fy (Z v P Y) λS K U=>?_;have s:=Oq.ofR s;refine aex j S h[i] (K.rs _ _ _ C) U (Rq.mono K.same s λx f N H3 M T g3=>?_);refine cx x M T ?_;have z:=K.same.trans g3.f;cases t:b x with|nx a|ct a=>rw[t]at f;exact λn E y A r=>⟨a,y,A,(G.trans z).trans r,Oq.mono (z.trans r) f⟩|bk a=>rw[t]at f;exact λn E y A r=>f n E y A (z.trans r)|rt w=>rw[t]at f;exact λv4 E y A r=>f v4 E y A (z.trans r)|ex c a=>rw[t]at f;exact B.mono c a l M z f|bad=>rw[t]at f;exact f
 .have ei:i=h.length:=by omega
  subst ei;rw[apv]at s;exact .inl ⟨wk.stop l u G C.rb.sub,s d u l C (ax.refl _)⟩
def eT (h:PassesOwn (model X.prog X.w) X.A X.env X.xe)(f:X.calm=true)(c:PI X tg iter (loI B it))(d:PG X tg (loG false B g))(a:PSs X body (loS B b))(hs:∀x,foldedSetIterable iter X.env x=pure x:=by intro _;rfl):PS X (.For tg iter body [] pos) (loS B (WL.qp it g b)):=PS.imp (adT h f c d a hs) ah6
def aby  (J:PassesOwn (model X.prog X.w) X.A X.env X.xe)(N:PT X c (loT B tt))(M:PSs X body (loS B b)):PS X (.While c body [] pos) (loS B (WL.n4 n tt b)):=PS.imp (vn J N M) λD I H v=>by refine dE v λσ F R q=>?_;refine⟨λm f C=>∃a j,RS B a f j C/\Oq B D j (WL.iL tt b m a),⟨n σ,σ,F,R,q⟩,?_⟩;rintro m f C⟨a,j,K,u⟩;cases m with|zero=>exact(u).elim|succ m=>have u:=Oq.ofR u;refine cx a j K (Rq.mono (ax.refl _) u λx d O y A o=>?_);cases x with|false=>rw[anK an5];exact d f O y A o.f|true=>refine⟨_,λz P E=>⟨m,ao0 m,E⟩,a,y,A,?_⟩;cases p:b a with|nx σ2|ct σ2=>rw[p]at d;exact λh t s r l=>⟨σ2,s,r,Oq.mono (o.f.trans l) d⟩|bk σ2=>rw[p]at d;exact λh t s r l=>d h t s r (o.f.trans l)|rt w=>rw[p]at d;exact λG t s r l=>d G t s r (o.f.trans l)|ex c σ2=>rw[p]at d;exact B.mono c σ2 j y o.f d|bad=>rw[p]at d;exact d
end
def spW(K:W.Frag)(n:Nat)(f:List VW->Res VW):Sp:=λd H Q _=>∃F ws,ax F H/\RWs K F ws d/\ws.length=n/\match f ws with|.ok w=>∀v c b,ax F b->ax b c->ax H c->(∀a o,b a=some o->F a=some o\/H a=none/\NF o)->RW K b w v->Q v c|_=>False
section
variable{P:Program}{w:World}{K:W.Frag}{mg:Str->Option Value}{base:Heap}
theorem RS.start{N F H ws vs}(s:ax F H)(r:RWs K F ws vs)(B:ws.length<=N.length):RS ⟨K,H,F,λ_ _ _=>False,λ_ _ _ _ _ h=>h⟩ (ws.map .va++List.replicate (N.length-ws.length) .no) (L2.start N vs) F H:=by
 have m:=r.length;have b:∀{i:Nat}{c:Sl},(ws.map Sl.va++List.replicate (N.length-ws.length) Sl.no)[i]?=some c->c≠.no->∃u,ws[i]?=some u/\c=.va u:=λ{i c}e A=>by grind
 refine⟨⟨s,ax.refl _,ax.refl _,λa o h=>.inl h⟩,by simp[L2.start,m],λi u e=>?_,λi g e=>?_,λi j g k a f d y _ _=>?_,λi n g e=>?_,λi j n g p k a f d y _ _=>?_,λi e=>?_⟩;rotate_left 3;.refine fy (b e (by intro z;cases z)) λx ex h=>?_;cases h
 .obtain⟨x,ex,h⟩:=b d (by intro z;cases z);cases h
 .obtain⟨x,ex,h⟩:=b e (by intro z;cases z);cases h
 .refine fy (b e (by intro z;cases z)) λx ex h=>?_;cases h;obtain⟨v,l,t⟩:=r.get ex;refine⟨v,?_,t⟩;have q:i<vs.length:=(anM.mp l).1;unfold L2.start;rw[aow (by simpa using q),an7,l];rfl
 .obtain⟨x,ex,h⟩:=b e (by intro z;cases z);cases h
 .obtain⟨x,ex,h⟩:=b d (by intro z;cases z);cases h
end
section
variable{X:Cx}{B:Bx}{k:Nat}{f:Addr}{fd:FuncData}{ps:List Str}{fn:List VW->Res VW}{x:Str}{p pos:Pos}{e:Expr}{es:List Expr}{tas:AF}{n:Nat}
def aab(G:X.K=B.K){E}(I:∀σ ws,tas σ=.ok ws->ws.length=n):∀b H Q,lo B (WL.aJ fn tas) b H Q->wR (spW X.K n fn) [] E (loA B tas) b H Q:=by intro b H Q⟨σ,F,R,q⟩;have q:=Rq.bind q;refine cx σ F R ?_;cases i:tas σ with|bad|ex c=>rw[i]at q;exact q|ok ws=>rw[i]at q;intro N O t d D A;rw[aom,G];refine xY t ws d.rb.sub A (I σ ws i) ?_;have h:Rq B σ F (match fn ws with|.ok w=>.ok w|_=>.bad) _:=q;cases y:fn ws with
|bad|ex c=>rw[y]at h;exact h.elim
|ok w=>rw[y]at h;intro v l g r K u fr J;have s:Gr t _ g l:=⟨r,u,λa o C j=>by cases m:g a with|none=>rfl|some o2=>
  rcases fr a o2 m with z|z;.rw[j]at z;cases z
  .rw[C]at z;cases z.1⟩;have M:RB B g l:=⟨K,d.rb.base.trans u,d.rb.fz0.trans r,λa o m=>by
  rcases fr a o m with z|z;.exact d.rb.fr a o z
  .exact .inr ⟨d.rb.base.free z.1,z.2⟩⟩;exact h v l g (d.grow s M) (D.trans s) J
def yt(m:X.K=B.K)(F:FnOk X.prog X.w X.K X.mg X.base CX0 k f fd ps (spW X.K n fn))(c:Room k X.A)(j:Gl X x)(i:X.mg x=some (.ref f))(d:W.keepIn X.K (.ref f)=true)(h:Binds X.K fd ps [])(l:PA X (e::es) (loA B tas))(o:∀σ ws,tas σ=.ok ws->ws.length=n)(a:Dbg x:=by decide)(g:SE X e es:=by rfl)(b:BT X pos es:=by rfl):PE X (.Call (.Name x p) (e::es) [] pos) (lo B (WL.aJ fn tas)):=PE.imp (pH F c j i d h .nil zC l a g b) (aab m o)
def abH(j:X.K=B.K)(F:FnOk X.prog X.w X.K X.mg X.base CX0 k f fd ps (spW X.K 0 fn))(b:Room k X.A)(i:Gl X x)(g:X.mg x=some (.ref f))(c:W.keepIn X.K (.ref f)=true)(d:Binds X.K fd ps [])(a:Dbg x:=by decide):PE X (.Call (.Name x p) [] [] pos) (lo B (WL.aJ fn WL.aw)):=PE.imp (acd F b i g c d .nil zC a) λl H Q q=>by have h:=aab (E:=E0) j λσ ws e=>by cases e;rfl _ H Q q;refine dE h λσ F R h=>?_;exact h _ H F R Gr.refl (rfl)
def kQ:∀σ(ws:List VW),WL.aw σ=.ok ws->ws.length=0:=λσ ws e=>by cases e;rfl
def ek (h:∀σ(ws:List VW),tas σ=.ok ws->ws.length=n):∀σ(ws:List VW),WL.ae t tas σ=.ok ws->ws.length=n+1:=λσ ws q=>by have q:(t σ).bind _=.ok _:=q;cases b:t σ with|bad|ex c=>rw[b]at q;cases q|ok x=>rw[b]at q;cases a:tas σ with|bad|ex c=>rw[a]at q;cases q|ok xs=>rw[a]at q;cases q;simp[h σ _ a]
end
def yZ(K:W.Frag):Sp:=λd H Q _=>∃(a:Addr)(b:List Int),d=[.ref a]/\SqL K H a (b.map V.int)/\b.length<=63/\∀c,Q (.bl true) c
def ah8{P w K g b k f i ps j}(G:FnOk P w K g b CX0 k f i ps (spW K 1 j))(h:∀c:List Int,c.length<=63->j [.lst (c.map .int)]=.ok (.bl true)):FnOk P w K g b CX0 k f i ps (yZ K):=G.imp λo H Q E d=>by refine jQ d λa c e l m q=>?_;subst e;refine⟨H,[.lst _],ax.refl _,.one (by exact⟨a,_,rfl,l,RWs.ints _⟩),rfl,?_⟩;rw[h _ m];intro v p n _ _ _ _ r;subst r;exact q _
section
variable{X:Cx}{K:W.Frag}
def qh:∀a c,WL.adj a≠.ex c:=λa c h=>by
 unfold WL.adj at h;split at h;.split at h<;>cases h
 .cases h
theorem abn{F}:∀{xs vs b},RWs K F xs vs->WL.allB xs=some b->∃bs:List Bool,vs=bs.map V.bl/\bs.all id=b|[],vs,b,r,e=>by subst r;cases e;exact⟨[],rfl,rfl⟩|x::xs,vs,b,r,e=>by obtain⟨v,t,rfl,q,s⟩:=r;cases x with
 |bl k=>simp only[WL.allB]at e;cases a:WL.allB xs with|none=>rw[a]at e;cases e|some c=>rw[a]at e;cases e;obtain⟨bs,rfl,h⟩:=abn s a;subst q;exact⟨k::bs,rfl,by simp only[aqi,id,h]⟩
 |_=>simp[WL.allB]at e
set_option tactic.hygienic true
def w_all(l:X.calm=true)(i:X.K=K):bN X (.builtin "all") (loN K WL.adj):=by subst i;refine bN.imp (abh l) λn H Q g=>?_;refine gH g λF ws s r q=>?_;cases e:WL.adj _ with|bad|ex c=>rw[e]at q;exact q.elim|ok w=>
  rw[e]at q;unfold WL.adj at e;split at e
  .split at e;.rename_i b j;cases e;obtain⟨v,rfl,h⟩:=fG r;refine gH h λa o f k m=>?_;subst f;obtain⟨bs,rfl,d⟩:=abn m j;subst d;exact⟨a,bs,rfl,s.seq k,eq1 q (rfl)⟩
   .cases e
  .cases e
set_option tactic.hygienic false
end
section
variable{X:Cx}{B:Bx}{K:W.Frag}{o e:Expr}{es:List Expr}{to ta:EF}{tas:AF}{pos apos cpos:Pos}
def aaW{P w K j b x c st f i N ps k m}(y:Fun K x c st f i)(S:FnScope N ps (af st))(p:ps.length=m):FnOk P w K j b CX0 k f i ps (spW K m λ_=>.bad):=⟨λl H Q E a=>by refine jQ a λ_ _ _ _ _ h=>?_;exact h.elim,λA d s H g u l Q E n v q t r a=>by refine jQ a λ_ _ _ _ _ h=>?_;exact h.elim⟩
noncomputable def adm:List (EF×EF)->AF|[]=>WL.aw|p::ps=>WL.ae p.1 (WL.ae p.2 (adm ps))
def PD(X:Cx)(B:Bx)(pos:Pos)(keys:List (Option Expr))(b:List Expr)(a:AF):Prop:=∃c:List (EF×EF),PPs X pos keys b (c.map λp=>(lo B p.1,lo B p.2))/\a=adm c
def yv:PD X B pos [] [] WL.aw:=⟨[],afe,rfl⟩
def fX{k v:Expr}{ks:List (Option Expr)}{vs:List Expr}{tk tv:EF}{a:AF}(b:PE X k (lo B tk))(d:PE X v (lo B tv))(c:PD X B pos ks vs a):PD X B pos (some k::ks) (v::vs) (WL.ae tk (WL.ae tv a)):=by obtain⟨f,h,rfl⟩:=c;exact⟨(tk,tv)::f,ab1 b d h,rfl⟩
theorem vw{σ:Ws}{b:L2.St}:∀(ps:List (EF×EF)){F H:Hp}(R:RS B σ b F H){k:List VW->Prop}(q:Rq B σ F (adm ps σ) k){Q:List (V×V)->Hp->Prop}(c:∀ws a d f,k ws->RS B σ b d f->Gr F H d f->RWs B.K d ws (a.flatMap λp=>[p.1,p.2])->Q a f),uY (ps.map λp=>(lo B p.1,lo B p.2)) b H Q|[],F,H,R,k,q,Q,c=>c [] [] F H q R Gr.refl (by simp[RWs])|p::ps,F,H,R,k,q,Q,c=>by have q:=Rq.bind (show Rq B σ F ((p.1 σ).bind λx=>(WL.ae p.2 (adm ps) σ).bind λt=>.ok (x::t)) k from q);refine⟨σ,F,R,Rq.mono (ax.refl _) q λx j m G E D g s=>?_⟩;have j:=Rq.bind (Rq.bind j);refine⟨σ,E,D,Rq.mono g.f j λy i r f d R2 l w=>?_⟩;have i:=Rq.bind i;refine vw ps R2 (Rq.mono (g.f.trans l.f) i λ_ z=>z) λws a n A u v h C=>?_;refine c (x::y::ws) ((m,r)::a) n A u v ((g.trans l).trans h) ?_;show RWs B.K n (x::y::ws) (m::r::a.flatMap λp=>[p.1,p.2]);exact .cons ((s.keep l.f).keep h.f) (.cons (w.keep h.f) C)
theorem qH{F:Hp}:∀{ws ks vs:List VW}{a:List (V×V)},WL.gS ws=some (ks,vs)->RWs K F ws (a.flatMap λp=>[p.1,p.2])->∃b:List (Key×V),a=b.map (λg=>(kV g.1,g.2))/\RWs K F ks (b.map λp=>kV p.1)/\RWs K F vs (b.map λp=>p.2)
|[],ks,vs,a,e,r=>by simp only[WL.gS]at e;cases e;cases a with|nil=>exact⟨[],rfl,by simp[RWs],by simp[RWs]⟩|cons p a=>simp[RWs]at r
|[w],ks,vs,a,e,r=>by cases w<;>simp[WL.gS]at e|w::u::ws,ks,vs,a,e,r=>by cases w with
 |str k=>simp only[WL.gS]at e;cases c:WL.gS ws with|none=>rw[c]at e;cases e|some p=>rw[c]at e;cases e;cases a with|nil=>simp[RWs]at r|cons pv a=>obtain⟨n,f⟩:=pv;have r:RWs K F (.str k::u::ws) (n::f::a.flatMap λp=>[p.1,p.2]):=r;simp only[RWs]at r;obtain⟨t,s,l,d,v,q,i,j,r⟩:=r;cases l;cases i;obtain⟨b,rfl,h,m⟩:=qH c r;simp only[RW]at d;subst d;exact⟨(Sum.inr k,f)::b,rfl,.cons (by simp[RW,kV]) h,.cons j m⟩
 |_=>simp[WL.gS]at e
theorem my:∀(kvs a:List (Key×V)),(∀p∈kvs,sJ a p.1=none)->kvs.Pairwise (λp q=>p.1≠q.1)->jz a kvs=a++kvs
|[],a,_,_=>by simp[jz]|p::kvs,a,h,hp=>by
 rw[List.pairwise_cons]at hp;show jz (putK a p.1 p.2) kvs=_;rw[ab0 _ (h p (by simp)),my kvs _ (λq b=>?_) hp.2];.simp
 .rw[qD _ _ _ _ (h p (by simp)),anK (anY (hp.1 q b))];exact h q (by simp[b])
theorem wq{F:Hp}:∀{ks:List VW}{kvs:List (Key×V)},WL.bY ks=true->RWs K F ks (kvs.map λp=>kV p.1)->kvs.Pairwise λp q=>p.1≠q.1
|[],kvs,_,r=>by cases kvs with|nil=>exact .nil|cons p kvs=>simp[RWs]at r
|w::ks,kvs,h,r=>by cases kvs with|nil=>simp[RWs]at r|cons p kvs=>simp only[aoa,RWs]at r;obtain⟨v,t,e,q,r⟩:=r;cases e;cases w with
 |str k=>
  simp only[WL.bY,an6]at h;refine List.pairwise_cons.mpr ⟨λg f=>?_,wq h.2 r⟩;simp only[RW]at q;intro z;rw[z]at q;have d:∃w∈ks,RW K F w (kV g.1):=by have:kV g.1∈kvs.map λp=>kV p.1:=aoD.mpr ⟨g,f,rfl⟩;obtain⟨i,m,n⟩:=ape this;obtain⟨w,c,l⟩:=RWs.get' r (anJ m);rw[n]at l;exact⟨w,apY c,l⟩
  obtain⟨w,hw,a⟩:=d;rw[q]at a;have c:=h.1;simp only[Bool.not_eq_true',List.any_eq_false]at c;have:=c w hw;cases w with|str y=>simp only[RW]at a;cases a;simp at this|non=>simp[RW]at a|bl b=>simp[RW]at a|int i=>simp[RW]at a|ty i=>simp[RW]at a|tup i=>simp[RW]at a|lst i=>simp[RW]at a|dic i j=>simp[RW]at a|cls i=>simp[RW]at a|exc i j=>simp[RW]at a|ins i j=>simp[RW]at a|id i=>simp[RW]at a
 |_=>simp[WL.bY]at h
def RS.put{σ:Ws}{c:L2.St}{F H:Hp}(R:RS B σ c F H){p:Addr}{o o':HO}(g:F p=none)(r:B.H0 p=none)(G:H p=some o)(J:∀x,o≠.lst x)(nd:∀(j:Nat)(l n:List VW),σ[j]?=some (.od l n)->c[j]?≠some (some (.ref p)))(E:NF o':=by trivial):RS B σ c (upd F p o') (upd H p o'):=by
 refine⟨⟨λb u e=>?_,λb u e=>?_,R.rb.fz0.trans (az g _),λa u e=>?_⟩,R.len,λi w e=>?_,λi ws e=>?_,R.ap,R.dd.via rfl id (λ_ _ z=>.inl z) (λ_ _ _ e=>⟨e,rfl⟩) (az g _) λj l n b D I A s M t=>by
 have f:b≠p:=λz=>by subst z;exact nd j l n I A
 exact⟨by rw[aj f];exact M,t,by rw[aj f];exact s⟩⟩
 .by_cases d:b=p;.subst d;rw[aq]at e⊢;exact e
  .rw[aj d]at e⊢;exact R.rb.sub b u e
 .have d:b≠p:=λz=>by subst z;rw[r]at e;cases e
  rw[aj d];exact R.rb.base b u e
 .by_cases d:a=p;.subst d;rw[aq]at e;cases e;exact .inr ⟨r,E⟩
  .rw[aj d]at e;exact R.rb.fr a u e
 .obtain⟨v,k,m⟩:=R.va i w e;exact⟨v,k,m.keep (az g _)⟩
 .obtain⟨a,q,k,m,C,h,y⟩:=R.ow i ws e;have f:a≠p:=λz=>by subst z;rw[G]at h;cases h;exact J q rfl
  exact⟨a,q,k,by rw[aj f];exact m,C,by rw[aj f];exact h,y.keep (az g _)⟩
def yp{keys:List (Option Expr)}{c:List Expr}{a:AF}(h:PD X B pos keys c a)(n:keys.all (·.isSome)=true:=by rfl)(P:keys.length=c.length:=by rfl)(h0:keys≠[]:=by intro z;cases z)(A:keys.length<=15:=by decide):PE X (.Dict keys c pos) (lo B (WL.aiV a)):=by obtain⟨ps,T,rfl⟩:=h;refine PE.imp (afl T n P h0 A) λM H Q w=>?_;obtain⟨σ,F,R,q⟩:=w;intro p k;have q:=Rq.bind q;have I:=R.rb.sub.free k;have y:=R.rb.base.free k;refine vw ps (R.ajF k (.dK [])) q λws a0 O Z d R2 r S=>?_;have i:O p=none:=r.nf p _ aq I;have s:Z p=some (.dK []):=r.h p _ aq;cases e:WL.gS ws with|none=>rw[e]at d;exact(show False from d).elim|some kv=>
  obtain⟨g,E⟩:=kv;rw[e]at d;obtain⟨f,rfl,x,U⟩:=qH e S;by_cases m:(WL.bY g&&decide (g.length<=15))=true
  .have d:Rq B σ F (if(WL.bY g&&decide (g.length<=15))=true then Res.ok (WL.W.dic g E)else Res.bad) _:=d;rw[anL m]at d;rw[an6]at m;have J:jz [] f=f:=by rw[my f [] (λ_ _=>rfl) (wq m.1 x)];rfl
   refine⟨s,f,rfl,?_,?_⟩;.have:=x.length;rw[an0]at this;have:=of_decide_eq_true m.2;omega
   .rw[J];have Y:H p=none:=k;refine(show∀v H' F',_ from d) (.ref p) _ _ (R2.put i y s (λxs z=>by cases z) λj g us ej N=>by obtain⟨b,D,C,_,_,G,_⟩:=R.dd.od j g us ej;rw[N]at C;cases C;rw[k]at G;cases G) ⟨r.f.trans (az i _),λb u l=>?_,λb u l z=>?_⟩ ?_
    .have t:b≠p:=λz=>by subst z;rw[k]at l;cases l
     rw[aj t];exact r.h b u (by rw[aj t];exact l)
    .have t:b≠p:=λz=>by subst z;rw[k]at l;cases l
     rw[aj t];exact r.nf b u (by rw[aj t];exact l) z
    .simp only[RW];exact⟨p,f,rfl,.inl aq,x.keep (az i _),U.keep (az i _)⟩
  .have d:Rq B σ F (if(WL.bY g&&decide (g.length<=15))=true then Res.ok (WL.W.dic g E)else Res.bad) _:=d;rw[anK m]at d;exact(show False from d).elim
def aee{F}:∀k u,WL.mV k [] []=some u->∃v,List.lookup k []=some v/\RW K F u v:=λk u h=>by simp[WL.mV]at h
def hZ{F x b a}{ks vs:List VW}{kvs}(f:RW K F b a)(h:∀k u,WL.mV k ks vs=some u->∃v,kvs.lookup k=some v/\RW K F u v):∀k u,WL.mV k (.str x::ks) (b::vs)=some u->∃v,List.lookup k ((x,a)::kvs)=some v/\RW K F u v:=λk u e=>by
 simp only[WL.mV]at e;by_cases d:x=k;.subst d;simp at e;subst e;exact⟨a,by simp,f⟩
 .obtain⟨v,g,c⟩:=h k u (by grind);exact⟨v,by grind,c⟩
def agR{a i d a0 kvs}{ks vs:List VW}(x:X.K=B.K)(l:PE X a (tC (.ref a0)))(D:abo X.w X.K a0 kvs)(s:PE X i (lo B d))(r:∀F k w,WL.mV k ks vs=some w->∃v,kvs.lookup k=some v/\RW B.K F w v)(hs:jc i):PE X (.Subscript a i pos) (lo B (WL.eOp WL.oIx (WL.eC (.dic ks vs)) d)):=PE.imp (afk (acJ D) l s hs) λm H Q c=>by refine dE c λσ F R q=>?_;have q:=Rq.bind (show Rq B σ F ((d σ).bind _) _ from q);refine cx σ F R (Rq.mono (ax.refl _) q λy b v t f p j g=>?_);cases y with
 |str k=>have b:Rq B σ F (WL.ofO _) _:=b;cases e:WL.mV k ks vs with|none=>rw[e]at b;exact b.elim|some w=>rw[e]at b;refine fy (r f k w e) λu n h=>?_;exact⟨rfl,k,u,g,n,b u t f p j h⟩
 |_=>exact(b).elim
end
end WS
set_option autoImplicit true
set_option relaxedAutoImplicit true
namespace WS
open PySem PySem.Spec PyProof.Rows L2
open WL(Res Sl Ws EF TF AF LF GF GsF SF Out XF XA FS Fs KO KF OX RF Sr)
def XR(K:W.Frag)(F:Hp):VW->Addr->Option Addr->Prop|.exc nm fs,C,dx=>ExcAt K nm C/\∃a:List (Str×V),a.map (·.1)=WL.fieldsOf nm/\RWs K F fs (a.map (·.2))/\(a=[]/\dx=none\/∃d,dx=some d/\F d=some (.xd a))|_,_,_=>False
theorem XR.keep{K F F'}(s:ax F F'){c C dx}(h:XR K F c C dx):XR K F' c C dx:=by cases c with|exc nm fs=>obtain⟨k,j,b,i,f⟩:=h;exact⟨k,_,b,i.keep s,f.imp (λz=>z) λa=>by obtain⟨d,g,e⟩:=a;exact⟨d,g,s _ _ e⟩⟩|_=>exact h
def XR.is{K F c C dx}(h:XR K F c C dx):∃a fs,c=.exc a fs/\ExcAt K a C:=by cases c with|exc a fs=>exact⟨a,fs,rfl,h.1⟩|_=>exact h.elim
def XW(X:Cx)(B:Bx):Prop:=∀(b:List (Addr×Obj))(a:L2.St)(H:Hp)(s:Shared)(σ:Ws)(F:Hp)(c:VW),RS B σ a F H->B.xp c σ F->∀(e C:Addr)(d T:Option Addr)(f:Value),Thr X b a H s e C d f T->XR X.K F c C d->X.xe (.ref e) s
abbrev Bx.sS(B:Bx)(a:VW->Ws->Hp->Prop)(mono:∀c σ F b,ax F b->a c σ F->a c σ b):Bx:=⟨B.K,B.H0,B.F0,a,mono⟩
abbrev Bx.never(B:Bx):Bx:=B.sS (λ_ _ _=>False) λ_ _ _ _ _ h=>h
def uP (h:∀c σ F,¬B.xp c σ F):XW X B:=λ_ _ _ _ σ F c _ q=>(h c σ F q).elim
section
variable{B B':Bx}{σ:Ws}{σV:L2.St}{F H:Hp}
def RB.box(R:RB B F H)(c:B'.H0=B.H0)(b:B'.F0=B.F0):RB B' F H:=⟨R.sub,c▸R.base,b▸R.fz0,λa o e=>by rw[c,b];exact R.fr a o e⟩
theorem RS.box(R:RS B σ σV F H)(a:B'.K=B.K)(b:B'.H0=B.H0)(c:B'.F0=B.F0):RS B' σ σV F H:=⟨R.rb.box b c,R.len,λi w e=>by rw[a];exact R.va i w e,λi ws e=>by rw[a,b];exact R.ow i _ e,R.ap,by rw[a,b];exact R.dd⟩
end
section
variable{X:Cx}{B:Bx}{k:Nat}{f:Addr}{fd:FuncData}{ps:List Str}{fn:List VW->Res VW}{x:Str}{p pos np hpos cpos:Pos}{e:Expr}{es:List Expr}{tas:AF}{n:Nat}{st:Stmt}
def spX(K:W.Frag)(n:Nat)(f:List VW->Res VW):Sp:=λh H Q E=>∃F ws,ax F H/\RWs K F ws h/\ws.length=n/\match f ws with|.ok w=>∀v d b,ax F b->ax b d->ax H d->(∀a o,b a=some o->F a=some o\/H a=none/\NF o)->RW K b w v->Q v d|.ex c=>∀C g d b,ax F b->ax b d->ax H d->(∀a o,b a=some o->F a=some o\/H a=none/\NF o)->XR K b c C g->E (.ref C) g d|.bad=>False
def RS.ext3{σ c h j b i}(d:RS B σ c h j)(q:ax h b)(t:ax b i)(r:ax j i)(fr:∀a o,b a=some o->h a=some o\/j a=none/\NF o):Gr h j b i/\RS B σ c b i:=by
 have g:Gr h j b i:=⟨q,r,λa o s l=>by cases m:b a with|none=>rfl|some o2=>
  rcases fr a o2 m with z|z;.rw[l]at z;cases z
  .rw[s]at z;cases z.1⟩;exact⟨g,d.grow g ⟨t,d.rb.base.trans r,d.rb.fz0.trans q,λa o m=>(fr a o m).elim (λz=>d.rb.fr a o z) λz=>.inr ⟨d.rb.base.free z.1,z.2⟩⟩⟩
def o7{σ a F H l I ws vs us Q}(J:X.K=B.K)(S:XW X B)(z:RS B σ a l I)(g:Gr F H l I)(r:RWs B.K l ws vs)(O:ws.length=n)(q:Rq B σ F (fn ws) λw=>∀v h o,RS B σ a o h->Gr F H o h->RW B.K o w v->Q v h)(N:us=vs):∃E:XK,spX X.K n fn us I Q E/\∀b s e C i T h,Thr X b a h s e C i .none (some T)->E (.ref C) i h->X.xe (.ref e) s:=by
 rw[J,N];refine⟨λC i m=>∃u d c,C=.ref u/\RS B σ a d m/\B.xp c σ d/\XR B.K d c u i,⟨l,ws,z.rb.sub,r,O,?_⟩,λb s e C i T h t⟨u,d,c,M,R2,R,y⟩=>?_⟩;.cases G:fn ws with|bad=>rw[G]at q;exact q.elim|ok w=>rw[G]at q;intro v m d j A D fr P;obtain⟨K,R2⟩:=z.ext3 j A D fr;exact q v m d R2 (g.trans K) P|ex c=>rw[G]at q;intro C i m d j A D fr y;obtain⟨K,R2⟩:=z.ext3 j A D fr;exact⟨C,d,c,rfl,R2,B.mono c σ F d (g.f.trans j) q,y⟩
 .cases M;exact S b a h s σ d c R2 R e C i (some T) _ t (by rw[J];exact y)
def acD(i:X.K=B.K)(d:XW X B)(l:∀σ ws,tas σ=.ok ws->ws.length=n):∀a H Q,lo B (WL.en fn tas) a H Q->qG X (spX X.K n fn) [] (loA B tas) a H Q:=by intro a H Q⟨σ,F,R,q⟩;have q:=Rq.bind q;refine cx σ F R ?_;cases b:tas σ with|bad|ex c=>rw[b]at q;exact q|ok ws=>rw[b]at q;exact λo r m j h g=>o7 i d j h g (l σ ws b) q (aom _)
def abG(o:X.K=B.K)(c:XW X B)(F:FnOk X.prog X.w X.K X.mg X.base (CXX X.prog X.w) k f fd ps (spX X.K n fn))(d:Room k X.A)(l:Gl X x)(j:X.mg x=some (.ref f))(g:W.keepIn X.K (.ref f)=true)(i:Binds X.K fd ps [])(m:PA X (e::es) (loA B tas))(q:∀σ ws,tas σ=.ok ws->ws.length=n)(a:Dbg x:=by decide)(h:SE X e es:=by rfl)(b:BT X pos es:=by rfl):PE X (.Call (.Name x p) (e::es) [] pos) (lo B (WL.en fn tas)):=PE.imp (pG F d l j g i .nil m a h b) (acD o c q)
def adv:PS X st (loS B WL.agf):=λb s c H D I a=>by obtain⟨σ,F,R,q⟩:=a;exact(q).elim
def abB (I:X.K=B.K)(y:XW X B)(E:X.calm=true)(A:Gl X x)(r:X.mg x=some (.ref C))(q:sG X.K C none)(m:ExcAt X.K nm C)(v:WL.fieldsOf nm=[])(u:PA X (e::es) (loA B tas))(j:Dbg x:=by decide)(z:SE X e es:=by rfl)(a:BT X cpos es:=by rfl):PS X (.Raise (some (.Call (.Name x np) (e::es) [] cpos)) none pos) (loS B (WL.vi nm tas)):=PS.imp (vo E A r q u j z a) λD d H g=>by
 refine dE g λσ F R q=>?_;have q:=Oq.ofR q;refine cx σ F R (Rq.mono (ax.refl _) q λws c J G i w o l=>?_);by_cases h:ws.length<=100;.rw[anL h]at c;exact⟨by rw[<-l.length];exact anQ h (by decide),λb s e t=>y b d G s σ i _ w (B.mono _ σ F i o.f c) e C none none _ t ⟨m,[],by rw[v];rfl,by simp[RWs],.inl ⟨rfl,rfl⟩⟩⟩
 .rw[anK h]at c;exact(c).elim
theorem Oq.box  (d:B'.K=B.K)(b:B'.H0=B.H0)(a:B'.F0=B.F0)(g:∀c σ,o=.ex c σ->B'.xp c σ F)(h:Oq B D F o):Oq B' D F o:=by cases o with|nx σ|bk σ|ct σ=>exact λl i j R s=>h _ _ _ (R.box d.symm b.symm a.symm) s|rt w=>exact λv i j R s r=>h v _ _ (R.box b.symm a.symm) s (by grind)|ex c σ=>exact g c σ rfl|bad=>exact h
def Oq.anu{f:VW->Ws->Out}(a:B'.K=B.K)(g:B'.H0=B.H0)(d:B'.F0=B.F0)(b:∀c σ,Oq B D F (f c σ)->B'.xp c σ F)(h:Oq B D F (match o with|.ex c σ=>f c σ|o=>o)):Oq B' D F o:=by cases o with|ex c σ=>exact b c σ h|_=>exact Oq.box a g d (λ_ _ z=>by cases z) h
end
section
variable{P:Program}{w:World}{K:W.Frag}{mg:Str->Option Value}{base:Heap}
def qe{x a st f C N ps k m n}{I:List VW->Res VW}(t)(T:Fun K x a st f C)(S:FnScope N ps (af st))(R:N.length=n)(g:ps.length=m)(y:WL.run n t=I)(J:ps.length<=N.length)(h:∀d A b s H E B,B.K=K->Room k (A.deeper (envOfC a (af st) s.heap.objs.size f d))->XW (iI CX0 P w K mg base N a (af st) f d A b s H E).nox B->PassesOwn (model P w) (A.deeper (envOfC a (af st) s.heap.objs.size f d)) (envOfC a (af st) s.heap.objs.size f d) (λ_ _=>False)->PSs (iI CX0 P w K mg base N a (af st) f d A b s H E).nox (aP st) (loS B t)):FnOk P w K mg base CX0 (k+1) f C ps (spW K m I):=by subst R g y;refine T.ok S (λM H Q E i=>by refine jQ i λF ws _ r D _=>?_;rw[<-r.length];exact D) λd A b s H M Q E U i=>?_;refine jQ i λF ws O r D g=>?_;refine⟨_,h d A b s H E _ rfl U (uP λ_ _ _ z=>z) PassesOwn.never,_,F,RS.start O r (by omega),?_⟩;unfold WL.run at g;cases e:t _ with|rt w=>rw[e]at g;exact λv p j u l q=>g v p j l u.sub u.base u.fr q|nx σ'=>rw[e]at g;exact λG p j o l=>g .non p j l o.rb.sub o.rb.base o.rb.fr (rfl)|bk σ'|ct σ'|ex c σ'|bad=>rw[e]at g;exact g.elim
def uj{x b st f O N ps k m n}{Y:List VW->Res VW}(t)(Fn:Fun K x b st f O)(S:FnScope N ps (af st))(hn:N.length=n)(g:ps.length=m)(J:WL.run n t=Y)(a0:ps.length<=N.length)(h:∀d A a s H E B,B.K=K->Room k (A.deeper (envOfC b (af st) s.heap.objs.size f d))->XW (iI (CXX P w) P w K mg base N b (af st) f d A a s H E) B->PassesOwn (model P w) (iI (CXX P w) P w K mg base N b (af st) f d A a s H E).A (iI (CXX P w) P w K mg base N b (af st) f d A a s H E).env (iI (CXX P w) P w K mg base N b (af st) f d A a s H E).xe->PSs (iI (CXX P w) P w K mg base N b (af st) f d A a s H E) (aP st) (loS B t)):FnOk P w K mg base (CXX P w) (k+1) f O ps (spX K m Y):=by subst hn g J;refine aep Fn.ex λoc od kV a1 pm an d ct a2 I lk D=>?_;subst I;refine acW lk D S (λvs H Q E p=>by refine jQ p λF ws _ r R _=>?_;rw[<-r.length];exact R) λA a s H vs Q E hr _ p=>?_;refine jQ p λF ws sm r R g=>?_;let X:Bx:=⟨K,H,F,λ_ _ _=>False,λ_ _ _ _ _ h=>h⟩;let B1:Bx:=X.sS (λc _ u=>∀C l j i,ax u i->RB X i j->XR K i c C l->E (.ref C) l j) λc σ u F2 s h C l j i o=>h C l j i (s.trans o);refine⟨_,h d A a s H E B1 rfl hr (λM Z H1 s1 σ u c R1 xp e C l T fl t y=>uc t (xp C l H1 u (ax.refl _) (R1.rb.box rfl rfl) y)) PassesOwn.leaving,_,F,(RS.start sm r (by omega)).box rfl rfl rfl,?_⟩;unfold WL.run at g;cases e:t _ with|rt w=>rw[e]at g;exact λv j i q o G=>g v j i o q.sub q.base q.fr G|nx σ'=>rw[e]at g;exact λU j i z o=>g .non j i o z.rb.sub z.rb.base z.rb.fr (rfl)|bk σ'|ct σ'=>rw[e]at g;exact g.elim|ex c σ'=>rw[e]at g;exact λC l j i o q y=>g C l j i o q.sub q.base q.fr y|bad=>rw[e]at g;exact g.elim
end
def m3:bootBuiltins "ValueError"=some (.type "ValueError"):=by decide+kernel
structure Exc1(K:W.Frag)(FE Ca:Addr):Prop where
 ty:W.typeIn K (.ref Ca)=some (.type "type")mro:(W.clsIn K Ca).map (·.mro)=some (.ref Ca::gF)/\Ca=FE\/(W.clsIn K Ca).map (·.mro)=some (.ref Ca::.ref FE::gF)ga:W.findIn K (.ref Ca) "__getattribute__"=some (some (.builtin "BaseException.__getattribute__"))gn:W.findIn K (.ref Ca) "__getattr__"=some none
 cl:W.findIn K (.ref Ca) "__class__"=some (some (.builtin "object.__class__"))
structure ExcAll(K:W.Frag):Prop where
 k:∀nm Ca,ExcAt K nm Ca->ExcK K Ca
 is:∀nm Ca d D,ExcAt K nm Ca->ExcAt K d D->W.kitOne K (.ref Ca) (.ref D)=some (WL.nG nm d)ve:∀nm Ca,ExcAt K nm Ca->W.kitOne K (.ref Ca) (.type "ValueError")=some true
 ex:∀nm Ca d D,ExcAt K nm Ca->ExcAt K d D->W.exmOne K (.ref Ca) (.ref D)=some (WL.nG nm d)
def all_nil{a:Type}{P:a->Prop}:∀p∈[],P p:=λ_ h=>nomatch h
def all_cons{b:Type}{P:b->Prop}{a l}(h:P a)(t:∀p∈l,P p):∀p∈a::l,P p:=λp c=>(anS.mp c).elim (λe=>e▸h) (t p)
section
variable{K:W.Frag}{FE:Addr}{tab:List (String×Addr)}
theorem lG:∀{tab:List (String×Addr)},(tab.map (·.1)).Nodup->(tab.map (·.2)).Nodup->∀p∈tab,∀q∈tab,p.1=q.1↔p.2=q.2
|[],_,_,p,hp,_,_=>nomatch hp|a::l,h1,h2,p,hp,q,hq=>by
 rw[aoa,aoF]at h1 h2;rcases anS.mp hp with z|c<;>rcases anS.mp hq with y|b;.rw[z,y];exact⟨λ_=>rfl,λ_=>rfl⟩
 .subst z;exact⟨λe=>absurd (e▸apf b) h1.1,λe=>absurd (e▸apf b) h2.1⟩
 .subst y;exact⟨λe=>absurd (e▸apf c) h1.1,λe=>absurd (e▸apf c) h2.1⟩
 .exact lG h1.2 h2.2 p c q b
def aaK(t:("FloorError",FE)∈tab)(v:∀p∈tab,W.nsIn K mainGlobals (Str.ofString p.1)=some (some (.ref p.2))/\Exc1 K FE p.2)(w:∀b∈WL.ll,b∈tab.map (·.1)\/W.nsIn K mainGlobals (Str.ofString b)=some none)(o:(tab.map (·.1)).Nodup)(n:(tab.map (·.2)).Nodup)(y:W.specialIn K (.builtin "object.__class__") "__get__"=some (some (.builtin "getset_descriptor.__get__")))(q:W.takesIn K (.builtin "object.__class__")=some true):ExcAll K:=by
 have c:∀b a,ExcAt K b a->(b,a)∈tab/\Exc1 K FE a:=λb a⟨i,f⟩=>by grind
 have k:∀b a,ExcAt K b a->∃j,W.clsIn K a=some j/\(j.mro=.ref a::gF/\a=FE\/j.mro=.ref a::.ref FE::gF):=λb a h=>by
  rcases(c b a h).2.mro with⟨e,z⟩|e;.obtain⟨j,i,f⟩:=aol.mp e;exact⟨j,i,.inl ⟨f,z⟩⟩
  .obtain⟨j,i,f⟩:=aol.mp e;exact⟨j,i,.inr f⟩
 have l:∀b a T,ExcAt K b a->Value.type T∈gF->W.mroIn K a (.type T)=some true:=λb a T h s=>by
  obtain⟨j,i,f⟩:=k b a h;unfold W.mroIn;rw[i,apu];rcases f with⟨f,_⟩|f<;>rw[f]<;>simp only[List.isEmpty_cons,Bool.false_eq_true,if_false,aqj,List.contains_eq_mem,aog,anS];.exact .inr (by simpa using s)
  .exact .inr (.inr (by simpa using s))
 have sub:∀b a d D,ExcAt K b a->ExcAt K d D->W.mroIn K a (.ref D)=some (WL.nG b d):=λb a d D h g=>by
  refine fy (k b a h) λj i f=>?_;have r:=lG o n _ (c b a h).1 _ (c d D g).1;have u:=lG o n _ t _ (c d D g).1;have x:=lG o n _ t _ (c b a h).1;dsimp only at r u x;unfold W.mroIn;rw[i,apu];have e:WL.nG b d=decide (a=D\/FE=D):=by unfold WL.nG;rw[aof];simp only[ap4,aoW,aog];exact or_congr r (by rw[eq_comm];exact u)
  rw[e];rcases f with⟨f,z⟩|f<;>rw[f]<;>simp only[List.isEmpty_cons,Bool.false_eq_true,if_false,aqj,List.contains_eq_mem];.subst z;congr 1;simp[eq_comm]
  .congr 1;simp[eq_comm]
 have cls:∀b a d D,ExcAt K b a->ExcAt K d D->W.kitCls K (.ref a) (.ref D)=some (WL.nG b d):=λb a d D h g=>by obtain⟨j,i,_⟩:=k d D g;unfold W.kitCls;dsimp only;rw[anL (by rw[i,(c d D g).2.ty];rfl)];exact sub b a d D h g
 refine⟨λb a h=>?_,λb a d D h g=>?_,λb a h=>?_,λb a d D h g=>?_⟩;.obtain⟨j,i,_⟩:=k b a h;have m:=(c b a h).2;exact⟨by rw[i];rfl,m.ga,m.gn,l b a _ h (by simp),l b a _ h (by simp),m.cl,y,q⟩
 .unfold W.kitOne;by_cases e:(Value.ref a==Value.ref D)=true;.rw[anL e];have e:=Value.ref.inj (aoW.mp e);subst e;have:=(lG o n _ (c b a h).1 _ (c d a g).1).mpr rfl;dsimp only at this;subst this;simp[WL.nG]
  .rw[anK e];exact cls b a d D h g
 .unfold W.kitOne;rw[anK (by intro z;cases aoW.mp z)];unfold W.kitCls;dsimp only;rw[anL (by decide+kernel)];exact l b a _ h (by simp)
 .unfold W.exmOne;rw[anL (by rw[show W.subIn K (.ref D) (.type "BaseException")=W.mroIn K D (.type "BaseException")from rfl,l d D _ g (by simp)];rfl)];exact cls b a d D h g
end
section
variable{X:Cx}{K:W.Frag}
def aaG{F H:Hp}{a C:Addr}{dx:Option Addr}{c:List (Str×V)}{pins:List (Addr×Obj)}{σ:L2.St}{s:Shared}(I:Inv X pins σ H s)(j:ax F H)(m:F a=some (.ext (excAt a C dx)))(k:c=[]/\dx=none\/∃d,dx=some d/\F d=some (.xd c)):∃i od,W.InstAt s.heap a i C od/\i.dict=dx:=by
 obtain⟨⟨f,o,g,h,e,l⟩,_⟩:=I.hok a _ (j _ _ m);have b:W.notCls f=true:=by unfold W.notCls;rw[l.1]
 rcases k with⟨_,z⟩|⟨d,z,q⟩;.subst z;exact⟨f,none,⟨g,h,b,by rw[e];trivial⟩,e⟩
 .subst z;obtain⟨od,n⟩:=i5 (I.hok d _ (j _ _ q));exact⟨f,some od,⟨g,h,b,by rw[e];exact n⟩,e⟩
set_option tactic.hygienic true
def kT(p:X.K=K)(j:ExcAll X.K):bN X (.builtin "isinstance") (loN K WL.qm):=by
 subst p;intro e s σ H R M Q I r⟨F,ws,w,k,q⟩;have go:∀c fs l b,ws=[.exc c fs,l]->WL.qm ws=.ok (.bl b)->(∀C v,ExcAt X.K c C->RW X.K F l v->∀u,RelV v u->W.kitOne X.K (.ref C) u=some b)->wpAny (model X.prog X.w) X.A (call (.builtin "isinstance") M) (EP X e σ Q) X.xe s:=λc fs l b o P y=>by subst o;rw[P]at q;obtain⟨v,B,rfl,h,O⟩:=two_of k;obtain⟨u,J,rfl,n,A⟩:=vals2 r;simp only[RW]at h;obtain⟨a,C,S,rfl,t,m,N,_,_,x⟩:=h;obtain⟨G,od,T,_⟩:=aaG I w t x;cases show u=Value.ref a from n;have fin:Q (.bl b) H:=eq1 q (by simp[RW]);exact aoR (acG (j.k c C m)) I.kIn ⟨G,od,T⟩ (y C B m O J A) (λz=>nomatch z) λtk=>⟨.bl b,H,I.tok tk,rfl,fin⟩
 unfold WL.qm at q;split at q;.rename_i c fs d;exact go c fs (.cls d) _ rfl rfl λC v g f u i=>by simp only[RW]at f;obtain⟨D,rfl,E⟩:=f;cases show u=Value.ref D from i;exact j.is c C d D g E
 .rename_i c fs;exact go c fs (.ty "ValueError") _ rfl rfl λC v g f u i=>by simp only[RW]at f;subst f;cases show u=Value.type "ValueError"from i;exact j.ve c C g
 .exact q.elim
set_option tactic.hygienic false
def cT:∀a c,WL.qm a≠.ex c:=λa c h=>by unfold WL.qm at h;split at h<;>cases h
end
section
variable{X:Cx}{B:Bx}{σ:Ws}{σV:L2.St}{F H:Hp}
def RS.akw(R:RS B σ σV F H)(i:Nat):RS B (σ.set i .no) (σV.set i none) F H:=by
 have s:=R.len;have b:∀{j:Nat}{w:Sl},(σ.set i .no)[j]?=some w->w≠.no->i≠j:=λ{j w}e n z=>by
  subst z;have r:i<σ.length:=by have:=(anM.mp e).1;simpa using this
  rw[anH r]at e;cases e;exact n rfl
 refine⟨R.rb,by simp[s],λj u e=>?_,λj ws e=>?_,λj k ws d a f c h l m=>?_,R.ago i (sl:=.no) (λz=>z) _ (ax.refl _) λ_ _ _ _ _ _ _ _ p t=>⟨t,p⟩⟩;.have g:=b e (by intro z;cases z);rw[anF g]at e⊢;exact R.va j u e
 .have g:=b e (by intro z;cases z);rw[anF g]at e⊢;exact R.ow j ws e
 .have q:=b c (by intro z;cases z);have o:=b h (by intro z;cases z);rw[anF q]at c l;rw[anF o]at h m;exact R.ap j k ws d a f c h l m
end
section
variable{X:Cx}{B:Bx}{x n:Str}{pos np hpos:Pos}
def oO{A f:List Stmt}{b0:Stmt}{C:Addr}{d:String}{i:Nat}{tb th:SF}(hK:X.K=B.K)(hs:X.stack=X.env::X.outer)(hf:X.env.frame=some X.env.locals)(hN:X.N.Nodup)(hi:X.N[i]?=some n)(hl:X.env.scope.names.lookup n=some .local)(hg:Gl X x)(hm:X.mg x=some (.ref C))(hc:∀k Ca,ExcAt X.K k Ca->W.exmOne X.K (.ref Ca) (.ref C)=some (WL.nG k d))(hb:∀(E:Value->Shared->Prop)(pn:List (Addr×Obj))(B':Bx),B'.K=X.K->XW (X.tri E pn) B'->PassesOwn (model X.prog X.w) X.A X.env E->PSs (X.tri E pn) A (loS B' tb))(hh:∀(e:Addr)(B':Bx),B'.K=X.K->XW (X.sui e) B'->PSs (X.sui e) (b0::f) (loS B' th))(hd:Dbg x:=by decide):PS X (.Try A [.ExceptHandler (some (.Name x np)) (some n) (b0::f) hpos] [] [] pos) (loS B (WL.l3 tb d i th)):=by
 intro b s a3 H D I⟨σ,F,R,q⟩;refine wpAny_Try_except ?_;let E':Value->Shared->Prop:=λe U=>wpAny (model X.prog X.w) X.A (noteFrame e X.env) (λ_ a2=>wpAny (model X.prog X.w) X.A (setFlight e none) (λ_ a0=>wpAny (model X.prog X.w) X.A (handleBy e X.env [.ExceptHandler (some (.Name x np)) (some n) (b0::f) hpos]) (SP X b D) X.xe a0) X.xe a2) X.xe U;let B1:Bx:=B.sS (λc a O=>Oq B D O (WL.mH d i th c a)) λc a O a7 s h=>Oq.mono s h;have xw:XW (X.tri E' (X.pn++b)) B1:=by
  intro a4 l H1 s1 j M c R1 g e y K T Z t xr;have t2:Thr X b l H1 s1 e y K Z T:=t.jh;obtain⟨k,fs,rfl,ce⟩:=xr.is;have g:Oq B D M (WL.mH d i th (.exc k fs) j):=g;have ex:=hc k y ce
  cases G:WL.nG k d with|false=>
   have:WL.mH d i th (.exc k fs) j=.bad:=by simp[WL.mH,WL.eg,G]
   rw[this]at g;exact g.elim|true=>
   have hO:WL.mH d i th (.exc k fs) j=match th (j.set i (.va (.exc k fs)))with|.nx σ2=>.nx (σ2.set i .no)|.rt w=>.rt w|_=>.bad:=by unfold WL.mH;rw[show WL.eg d (.exc k fs)=true from G];rfl
   rw[hO]at g;rw[G]at ex;refine t2.note hs hf λh' T' _ t3=>t3.aaB λa8 t4=>aau t4 hg hm ex (λh3 t5=>?_) hd;have J:=t5.known;have he:H1 e=none:=t5.fe.1;have a1:RS B j l M H1:=R1.box rfl rfl rfl;have R2:=a1.new he (.ext (excAt e y K));have hF:M e=none:=a1.rb.sub.free he;have sF:ax M (upd M e (.ext (excAt e y K))):=az hF _;have a5:RW B.K (upd M e (.ext (excAt e y K))) (.exc k fs) (.ref e):=by obtain⟨z1,a6,z2,z3,z4⟩:=xr.keep sF;simp only[RW];rw[<-hK];exact⟨e,y,K,rfl,aq,z1,a6,z2,z3,z4⟩
   let B2:Bx:=B.never;have P:=hh e B2 hK.symm (uP λ_ _ _ z=>z);let D2:Ends:=⟨λp m=>D.nx (p.set i none) m,D.rt,λ_ _=>False,λ_ _=>False⟩;refine jk (X:=X.sui e) (J.sui e) hN hi (Or.inl hl) (v:=.ref e) (u:=.ref e) rfl (λs2 J2 _=>?_) (Or.inr hl);have R3:RS B2 (j.set i (.va (.exc k fs))) (l.set i (some (.ref e))) (upd M e (.ext (excAt e y K))) (upd H1 e (.ext (excAt e y K))):=(R2.set (i:=i) a5).box rfl rfl rfl;refine an9 (P b _ _ _ D2 J2 ⟨_,_,R3,?_⟩) (λZ s3 h=>?_) λ_ _ z=>z;.cases Y:th (j.set i (.va (.exc k fs)))with|ex c2 σ2=>rw[Y]at g;exact g.elim|nx σ2=>rw[Y]at g;exact λp m O R' Q=>g (p.set i none) m O ((RS.box (B:=B2) (B':=B) R' rfl rfl rfl).akw i) (sF.trans Q)|bk σ2|ct σ2=>rw[Y]at g;exact g.elim|rt w=>rw[Y]at g;exact λv m O R' Q r=>g v m O (RB.box (B:=B2) (B':=B) R' rfl rfl) (sF.trans Q) r|bad=>rw[Y]at g;exact g
   .cases Z with|next=>obtain⟨a,m,S,N⟩:=h;exact vD (J.back S) hN hi hl λQ I2=>⟨_,m,I2,N⟩|brk=>obtain⟨a,m,S,N⟩:=h;exact N.elim|cont=>obtain⟨a,m,S,N⟩:=h;exact N.elim|ret u=>obtain⟨v,a,m,S,r,N⟩:=h;exact vD (J.back S) hN hi hl λQ I2=>⟨v,_,m,I2,r,N⟩
 have P:=hb E' (X.pn++b) B1 hK.symm xw PassesOwn.looking;refine an9 (P [] s a3 H D (I.tri E') ⟨σ,F,R.box rfl rfl rfl,?_⟩) (λZ Q h=>?_) λ_ _ z=>z;.have q:Oq B D F (match tb σ with|.ex c a=>WL.mH d i th c a|o=>o):=q;exact Oq.anu (B:=B) (B':=B1) rfl rfl rfl (λ_ _ z=>z) q
 .have h:=SP.jh h;cases Z with|next=>exact apz h|_=>exact h
end
end WS
namespace WS
open PySem PySem.Spec PyProof.Rows L2
def agS{X:Cx}{B:Bx}{x:Str}{nm:String}{C:Addr}{pos:Pos}(e:X.K=B.K)(d:Gl X x)(c:X.mg x=some (.ref C))(b:ExcAt X.K nm C)(a:Dbg x:=by decide):PE X (.Name x pos) (lo B (WL.eC (.cls nm))):=aeG (tK (v:=.ref C) d c rfl a) λF=>by simp only[RW];rw[<-e];exact⟨C,rfl,b⟩
end WS
namespace WS
open PySem PySem.Spec PyProof.Rows L2
open WL(Res Sl Ws EF TF AF LF GF GsF SF Out XF XA FS Fs KO KF OX RF Sr)
section
variable{σ:L2.St}{H:Hp}
def Part(t:TE)(σ:L2.St)(H:Hp):Prop:=∀Q:VK,(∀y:Str,y.length<=1000->Q (.str y) H)->t σ H Q
def ri{y}(h:y.length<=1000):Part (tC (.str y)) σ H:=λQ k=>k y h
def zE{i n}(h:σ[i]?=some (some (.int n)))(a:n.natAbs.log2<100):Part (amu (jP i)) σ H:=λQ k=>⟨_,h,.inl ⟨n,rfl,anN a (by simp),k _ (by have e:=int_text_length_le (by simp) a;rw[PySem.ofString_length];omega)⟩⟩
theorem aeQ{Q}:∀b a,a.length+1000*b.length<=100000->(∀t∈b,Part t σ H)->(∀y,Q (.str y) H)->tJ b a σ H Q|[],a,hl,_,k=>⟨by rw[apP];omega,k _⟩|t::b,a,hl,hp,k=>hp t an2 _ λy d=>by rw[anV]at hl;have e:(a++y).length=a.length+y.length:=strLen_append ..;exact⟨y,rfl,by rw[apP];omega,aeQ b _ (by omega) (λt c=>hp t (anU _ c)) k⟩
end
section
variable{P:Program}{w:World}{K:W.Frag}{mg:Str->Option Value}{base:Heap}
def acO{g o a b st f C p k ts}(z:Fun K "__init__" g st f p)(S:FnScope [a,b] [a,b] (af st))(I:ts.length<=50)(G:∀σ H n,σ[1]?=some (some (.int n))->n.natAbs.log2<100->∀t∈ts,Part t σ H)(h:∀i A c s H E,Room k (A.deeper (envOfC g (af st) s.heap.objs.size f i))->PSs (iI CX0 P w K mg base [a,b] g (af st) f i A c s H E).nox (aP st) (ag3 (yU (yW C (jj (jP 0) (jj (tJ ts Str.empty) abr)))) (sX1 C (jP 0) (jP 1) o))):FnOk P w K mg base CX0 (k+1) f p [a,b] (spI C [o]):=by refine z.ok S λu H Q E j=>by refine gH j λe ws l m _=>?_;rw[l,anV,m];rfl λi A c s H u Q E B j=>?_;refine kR j λe ws l m r J q=>?_;subst l;obtain⟨w1,rfl⟩:=List.length_eq_one_iff.mp m;obtain⟨n,rfl,v⟩:=J w1 an2;refine⟨_,h i A c s H E B,?_⟩;refine⟨.ref e,rfl,aeQ ts _ (by have:Str.empty.length=0:=rfl;omega) (G _ H n rfl v) λy=>qt e none [.str y] rfl (by simp) r ?_⟩;exact⟨.int n,rfl,.ref e,rfl,e,rfl,r,λd D x=>q d D x⟩
def acN{i o u a b c st f C G k ts}(T:Fun K "__init__" i st f G)(S:FnScope [a,b,c] [a,b,c] (af st))(N:u≠o)(a0:ts.length<=50)(Y:∀σ H n m,σ[1]?=some (some (.int n))->σ[2]?=some (some (.int m))->n.natAbs.log2<100->m.natAbs.log2<100->∀t∈ts,Part t σ H)(h:∀j A g s H E,Room k (A.deeper (envOfC i (af st) s.heap.objs.size f j))->PSs (iI CX0 P w K mg base [a,b,c] i (af st) f j A g s H E).nox (aP st) (ag3 (yU (yW C (jj (jP 0) (jj (tJ ts Str.empty) abr)))) (ag3 (sX1 C (jP 0) (jP 1) o) (sX2 C (jP 0) (jP 2) u)))):FnOk P w K mg base CX0 (k+1) f G [a,b,c] (spI C [o,u]):=by
 refine T.ok S λO H Q E l=>by refine gH l λe ws B D _=>?_;rw[B,anV,D];rfl λj A g s H O Q E U l=>?_;refine kR l λe ws B D I J q=>?_;subst B;obtain⟨w1,r,rfl⟩:∃w1 r,ws=[w1,r]:=by match ws,D with|[w1,r],_=>exact⟨w1,r,rfl⟩
 obtain⟨n,rfl,R⟩:=J w1 an2;obtain⟨m,rfl,M⟩:=J r (anU _ an2);refine⟨_,h j A g s H E U,?_⟩;refine⟨.ref e,rfl,aeQ ts _ (by have:Str.empty.length=0:=rfl;omega) (Y _ H n m rfl rfl R M) λy=>qt e none [.str y] rfl (by simp) I ?_⟩;refine⟨.int n,rfl,.ref e,rfl,e,rfl,I,λd X v=>?_⟩;refine⟨.int m,rfl,.ref e,rfl,e,d,[(o,.int n)],rfl,aq,by rw[aj v,aq],v,by simp,by simp[List.lookup,aox.mpr N],?_⟩;have:=q d X v;have Z:upd (upd (upd H d (.ext (fv d [(o,.int n)]))) e (.ext (kr e C (some d)))) d (.ext (fv d ([(o,.int n)]++[(u,.int m)])))=upd (upd H d (.ext (fv d ([o,u].zip [.int n,.int m])))) e (.ext (kr e C (some d))):=by
  funext z;unfold upd;by_cases p:z=d;.rw[anL p,anK (by rw[p];exact v),anL p];rfl
  .rw[anK p];by_cases x:z=e;.rw[anL x,anL x]
   .rw[anK x,anK x,anK p,anK p]
 show Q .non (upd _ d _);rw[Z];exact this
end
section
variable{X:Cx}{B:Bx}{k:Nat}{fI C:Addr}{fd:FuncData}{ps:List Str}{x:Str}{p pos np cpos:Pos}{e:Expr}{es:List Expr}{tas:AF}{nm:String}
theorem aao{K F}:∀{ws vs},RWs K F ws vs->ws.all WL.nI=true->∀v∈vs,∃i,v=.int i/\i.natAbs.log2<100
|[],vs,h,_,v,a=>by subst h;cases a|w::ws,vs,h,ha,v,a=>by
 obtain⟨d,r,rfl,c,b⟩:=h;rw[aqi,an6]at ha;rcases anS.mp a with rfl|a;.cases w with|int i=>subst c;exact⟨i,rfl,of_decide_eq_true ha.1⟩|_=>cases ha.1
 .exact aao b ha.2 v a
def yi(E:X.K=B.K)(J:XW X B)(O:X.calm=true)(N:Gl X x)(z:X.mg x=some (.ref C))(q:sG X.K C (some (.ref fI)))(o:W.typeIn X.K (.ref fI)=some (.type "function"))(F:FnOk X.prog X.w X.K X.mg X.base CX0 k fI fd ps (spI C (WL.fieldsOf nm)))(I:Room (k+1) X.A)(M:Binds X.K fd ps [])(w:ExcAt X.K nm C)(G:(WL.fieldsOf nm).length<=50)(A:PA X (e::es) (loA B tas))(g:Dbg x:=by decide)(K:SE X e es:=by rfl)(a:BT X cpos es:=by rfl):PS X (.Raise (some (.Call (.Name x np) (e::es) [] cpos)) none pos) (loS B (WL.l4 nm tas)):=PS.imp (zr O N z q o F I M A g K a) λD j H m=>by
 refine dE m λσ F R q=>?_;have q:=Oq.ofR q;refine cx σ F R (Rq.mono (ax.refl _) q λws h l Q n u y i=>?_);by_cases f:ws.length=(WL.fieldsOf nm).length/\ws.all WL.nI=true
 .rw[anL f]at h;have c:l.length=(WL.fieldsOf nm).length:=by rw[<-i.length];exact f.1
  refine⟨c,aao i f.2,G,λb s e d g P t=>?_⟩;have v:n d=none:=u.rb.sub.free g;have r:ax n (upd n d (.xd ((WL.fieldsOf nm).zip l))):=az v _;refine J b j _ s σ _ (.exc nm ws) (u.new g _) (B.mono _ σ F _ (y.f.trans r) h) e C (some d) none _ t ⟨w,(WL.fieldsOf nm).zip l,?_,?_,.inr ⟨d,rfl,aq⟩⟩;.rw[List.map_fst_zip (by omega)]
  .rw[List.map_snd_zip (by omega),E];exact i.keep r
 .rw[anK f]at h;exact(show False from h).elim
end
section
variable{X:Cx}{B:Bx}{o:Expr}{f:Str}{pos:Pos}{ta:EF}
theorem vF{f:Str}{v:V}:∀{l:List (Str×V)},l.lookup f=some v->f∈l.map (·.1)|[],h=>by simp at h|(a,b)::l,h=>by rw[aon]at h;cases z:f==a with|true=>rw[aoa,aoW.mp z];exact an2|false=>rw[z]at h;exact anU _ (vF h)
theorem uN{K:W.Frag}{F:Hp}{f:Str}{w:VW}:∀{l:List Str}{ws:List VW}{c:List (Str×V)},c.map (·.1)=l->RWs K F ws (c.map (·.2))->(l.zip ws).lookup f=some w->∃v,c.lookup f=some v/\RW K F w v|[],ws,c,_,_,h=>by simp at h|a::l,[],c,_,_,h=>by simp at h|a::l,w0::ws,[],h,_,_=>by simp at h|a::l,w0::ws,(b,v0)::c,d,h2,h3=>by simp only[aoa,aqN]at d;obtain⟨rfl,d⟩:=d;simp only[aoa,RWs]at h2;obtain⟨v,r,e,i,g⟩:=h2;simp only[aqN]at e;obtain⟨rfl,rfl⟩:=e;rw[List.zip_cons_cons,aon]at h3;rw[aon];cases z:f==b with|true=>rw[z]at h3;cases h3;exact⟨v0,rfl,i⟩|false=>rw[z]at h3;exact uN d g h3
def yo(J:X.K=B.K)(Z:ExcAll X.K)(hn:∀e C,ExcAt X.K e C->f∈WL.fieldsOf e->W.findIn X.K (.ref C) f=some none/\W.hasDictIn X.K C=true)(he:PE X o (lo B ta))(hb:attributeBase o f X.env (eval o X.env)=eval o X.env):PE X (.Attribute o f pos) (lo B (WL.ajR ta f)):=by intro j s g H Q I⟨σ,F,R,q⟩;have q:=Rq.bind q;refine abl hb (thn (he j s g H _ I ⟨σ,F,R,Rq.mono (ax.refl _) q λw qw v S h R' M r'=>show∃w h,RS B σ g h S/\RW B.K h w v/\Rq B σ h (WL.alJ f w) λE=>∀m b c,RS B σ g c b->Gr h S c b->RW B.K c E m->Q m b from⟨w,h,R',r',Rq.mono M.f qw λE k m b c z G=>k m b c z (M.trans G)⟩⟩) λu s1⟨x,O,n,rx,w,F1,t,P,i⟩=>?_);cases w with
|exc e fs=>dsimp only[WL.alJ]at i;cases p:((WL.fieldsOf e).zip fs).lookup f with|none=>rw[p]at i;exact i.elim|some E=>
   rw[p]at i;simp only[RW]at P;obtain⟨a,C,dx,rfl,h1,K,a0,U,Y,h5⟩:=P;cases show u=Value.ref a from rx;obtain⟨v,A,rv⟩:=uN U Y p;have l:f∈WL.fieldsOf e:=by rw[<-U];exact vF A
   rcases h5 with⟨rfl,_⟩|⟨d,rfl,hd⟩;.simp at A
   have D:=t.rb.sub _ _ hd;obtain⟨mA,hN,r⟩:=n.hok d _ D;obtain⟨od,ho,y⟩:=rM hN;obtain⟨⟨oe,es,g1,g2,g3,g4⟩,_⟩:=n.hok a _ (t.rb.sub _ _ h1);have T:W.InstAt s1.heap a oe C (some od):=⟨g1,g2,by unfold W.notCls;rw[g4.1],by rw[g3];exact ho⟩;obtain⟨u,hu,N⟩:=sN.some_of (v:=v) (o:=mA f) (by rw[<-A];exact r f);obtain⟨n1,n2⟩:=hn e C (by rw[J];exact K) l;refine ac2 (Z.k e C (by rw[J];exact K)) n.kIn T (W.findObj_own n2 n1 rfl (by rw[y,hu])) (rW N) ?_;exact⟨v,O,n.tok _,N,i v O F1 t Gr.refl rv⟩
|_=>exact i.elim
end
end WS
namespace WS
open PySem PySem.Spec PyProof.Rows L2
section
variable{K:W.Frag}{a:Addr}{f nm:Str}
def aaJ{C b n}(x:ExcAll K)(h:ExcAt K n C)(m:(W.clsIn K C).map (·.mro)=some (.ref C::.ref b::gF))(e:W.hasDictIn K C=true)(k:W.findIn K (.ref C) "__setattr__"=some (some (.builtin "object.__setattr__"))):ExcS K C:=by obtain⟨i,d,g⟩:=aol.mp m;obtain⟨l,c,j⟩:=W.any_some e;rw[d]at c;cases c;exact⟨x.k n C h,⟨i,d,j,.inr ⟨b,g⟩⟩,k⟩
def FA(K:W.Frag)(f:Str)(nm:String):Prop:=f∈WL.fieldsOf nm->∀b,W.nsIn K mainGlobals (Str.ofString nm)=some (some (.ref b))->W.findIn K (.ref b) f=some none/\W.hasDictIn K b=true
def ft{nm:String}(h:¬f∈WL.fieldsOf nm):FA K f nm:=λz=>absurd z h
def aaF{nm:String}(e:W.nsIn K mainGlobals (Str.ofString nm)=some (some (.ref a)))(b:W.findIn K (.ref a) f=some none)(c:W.hasDictIn K a=true):FA K f nm:=λ_ d h=>by have:=e.symm.trans h;cases this;exact⟨b,c⟩
def amT(r:FA K f "FloorError")(k:FA K f "NotEven")(i:FA K f "NoCall")(q:FA K f "NoName")(j:FA K f "NoProgram")(p:FA K f "TooMany")(l:FA K f "NoPairs")(m:FA K f "NoRow")(n:FA K f "Blind")(o:FA K f "Out")(e:FA K f "Meet")(g:FA K f "Broken"):∀nm C,ExcAt K nm C->f∈WL.fieldsOf nm->W.findIn K (.ref C) f=some none/\W.hasDictIn K C=true:=λnm c⟨h,d⟩b=>by
 simp only[WL.ll,anS,aoo,apU]at h;rcases h with rfl|rfl|rfl|rfl|rfl|rfl|rfl|rfl|rfl|rfl|rfl|rfl;.exact r b c d
 .exact k b c d
 .exact i b c d
 .exact q b c d
 .exact j b c d
 .exact p b c d
 .exact l b c d
 .exact m b c d
 .exact n b c d
 .exact o b c d
 .exact e b c d
 .exact g b c d
end
end WS
namespace WS
open PySem PySem.Spec PyProof.Rows L2
open WL(Res Sl Ws EF TF AF LF GF GsF SF Out XF XA FS Fs KO KF OX RF Sr)
section
variable{X:Cx}{B:Bx}{e tg iter elt:Expr}{pos:Pos}{ta tb:EF}{tt:TF}{it:LF}{g:GF}{k:Nat}{scope:Scope}{ts:List Str}{ifs:List Expr}
def se{σ A x H J xs Q}(hg:Keeps k g)(R1:RS B σ A x H)(wk:Walk B.K J xs x)(hx:xs.length<=WL.lim)(Z:WL.br g tt ta (List.replicate k .no++σ) xs≠.bad)(ex:∀c,WL.br g tt ta (List.replicate k .no++σ) xs=.ex c->∀S f,ax x f->B.xp c S f)(fin:∀all,WL.br g tt ta (List.replicate k .no++σ) xs=.ok all->∀t f l,RB B f l->Gr x H f l->RWs B.K f all t->∀D,l D=none->Q (.ref D) (upd l D (.lst t))):sI J (loG true B g) (loT B tt) (lo B ta) (List.replicate k none++A) H Q:=by
 refine⟨λi m t n l=>m=xs.length-i/\i<=xs.length/\t.length<=i/\∃f d,RS B (List.replicate k .no++σ) n f l/\Gr x H f l/\RWs B.K f d t/\WL.br g tt ta (List.replicate k .no++σ) xs=(WL.br g tt ta (List.replicate k .no++σ) (xs.drop i)).bind λr=>.ok (d++r),⟨xs.length,rfl,aoi _,aoi _,x,[],R1.ahead k,Gr.refl,by simp[RWs],?_⟩,?_⟩;.rw[aqR];cases WL.br g tt ta (List.replicate k .no++σ) xs<;>rfl
 rintro i m t n l⟨rfl,hi,P,f,d,K,p,O,a⟩;refine⟨ao3 (anQ P (anQ hi hx)) (by decide),?_⟩;by_cases s:i<xs.length;.have hd:=aoU s;rw[hd]at a;obtain⟨go,yl⟩:=wk.go i xs[i] (anJ s) f l p.f K.rb.sub;refine .inr ⟨go,λq C G=>q.length<=i+1/\∃z d,RS B (List.replicate k .no++σ) C z G/\Gr x H z G/\RWs B.K z d q/\WL.br g tt ta (List.replicate k .no++σ) xs=(WL.br g tt ta (List.replicate k .no++σ) (xs.drop (i+1))).bind λr=>.ok (d++r),λq C G⟨a1,a2⟩=>⟨xs.length-(i+1),by omega,rfl,s,a1,a2⟩,λv G hy=>?_⟩;refine fy (yl v G hy) λz R r2=>?_;have Y:=p.f.trans R.same;simp only[WL.br]at a;refine aex _ z xs[i] (R.rs _ _ _ K) r2 ?_;cases I:g xs[i] (List.replicate k .no++σ)with|bad=>rw[I]at a;exact(Z a).elim|ex c=>rw[I]at a;exact ex c a _ z Y|ok σ1=>
   rw[I]at a;obtain⟨kl,kk⟩:=hg _ _ _ I;intro o H3 F3 R3 T;have back:∀{w M:Hp},RS B σ1 o w M->RS B (List.replicate k .no++σ) o w M:=λ{w M}N=>N.forget kl.symm λj sl ej ne=>by grind
   have h:=R.gr.trans ⟨T.f,T.h rfl,T.nf⟩;have a:WL.br g tt ta (List.replicate k .no++σ) xs=((tt σ1).bind _).bind λr=>.ok (d++r):=a;refine cx σ1 F3 R3 ?_;cases e2:tt σ1 with|bad=>rw[e2]at a;exact(Z a).elim|ex c=>rw[e2]at a;exact ex c a _ F3 (p.f.trans h.f)|ok b=>rw[e2]at a;intro M w N E;cases b with|false=>rw[anK an5];exact⟨by omega,w,d,back N,p.trans (h.trans E),O.keep (h.trans E).f,a⟩|true=>rw[anL rfl];have a:=a;refine cx σ1 w N ?_;cases U:ta σ1 with|bad=>rw[U]at a;exact(Z a).elim|ex c=>rw[U]at a;exact ex c a _ w (p.f.trans (h.trans E).f)|ok y=>rw[U]at a;intro u H5 F5 R5 g5 r5;refine⟨by rw[aoh,apo];omega,F5,d++[y],back R5,p.trans ((h.trans E).trans g5),(O.keep ((h.trans E).trans g5).f).app (.one r5),?_⟩;rw[a];cases WL.br g tt ta (List.replicate k .no++σ) (xs.drop (i+1))with|ok zs=>show Res.ok _=Res.ok _;rw[List.append_assoc];rfl|ex c|bad=>rfl
 .have ei:i=xs.length:=by omega
  subst ei;rw[apv]at a;have a:WL.br g tt ta (List.replicate k .no++σ) xs=.ok (d++[]):=a;rw[aom]at a;exact .inl ⟨wk.stop f l p.f K.rb.sub,λD hD=>fin d a t f l K.rb p O D hD⟩
theorem RS.qq{B' σ h F H}(R:RS B σ h F H)(q:B'.K=B.K)(r:B'.H0=H)(n:B'.F0=F):RS B' (WL.qq σ) h F H:=by
 have b:∀{i:Nat}{f:Sl},(WL.qq σ)[i]?=some f->(∀w,f=.va w->σ[i]?=some (.va w))/\(∀ws,f≠.ow ws)/\(∀c d,f≠.od c d)/\(f=.ob->σ[i]?=some .ob):=λ{i f}e=>by unfold WL.qq at e;rw[an7]at e;cases m:σ[i]? with|none=>rw[m]at e;cases e|some s0=>rw[m]at e;have e:=an3 e;subst e;cases s0 with|no=>exact⟨λw z=>(by cases z),λws z=>(by cases z),λc d z=>(by cases z),λz=>by cases z⟩|va w=>exact⟨λs z=>by grind,λws z=>(by cases z),λc d z=>(by cases z),λz=>by cases z⟩|ow ws|od c d=>exact⟨λw z=>(by cases z),λws z=>(by cases z),λc d z=>(by cases z),λz=>by cases z⟩|ob=>exact⟨λw z=>(by cases z),λws z=>(by cases z),λc d z=>(by cases z),λz=>rfl⟩
 refine⟨⟨R.rb.sub,r▸ax.refl _,n▸ax.refl _,λa o e=>.inl (n▸e)⟩,by rw[<-R.len];simp[WL.qq],λi w e=>?_,λi ws e=>((b e).2.1 ws rfl).elim,λi j ws p a _ l=>((b l).2.1 ws rfl).elim,λi c d e=>((b e).2.2.1 c d rfl).elim,λi j c d _ _ a _ l=>((b l).2.2.1 c d rfl).elim,λi e=>R.dd.ob i ((b e).2.2.2 rfl)⟩;rw[q];exact R.va i w ((b e).1 w rfl)
def vN{B' c d F' H'}(b:RB B' F' H')(j:B'.H0=d)(i:B'.F0=c):Gr c d F' H':=by subst j i;refine⟨b.fz0,b.base,λa o f h=>?_⟩;cases l:F' a with|none=>rfl|some o2=>
 rcases b.fr a _ l with z|z;.rw[h]at z;cases z
 .rw[f]at z;cases z.1
def pE{B' σ c d f F' H'}(R:RS B σ c d f)(b:RB B' F' H')(i:B'.H0=f)(h:B'.F0=d):RB B F' H':=by
 subst i h;refine⟨b.sub,R.rb.base.trans b.base,R.rb.fz0.trans b.fz0,λa o e=>?_⟩;rcases b.fr a o e with z|z;.exact R.rb.fr a o z
 .exact .inr ⟨R.rb.base.free z.1,z.2⟩
def abF(b5:X.stack=X.env::X.outer)(c0:X.env.frame=some X.env.locals)(hK:X.K=B.K)(hx:XW X B)(L:CompLook X scope)(hc:X.calm=true)(hk:ts.length=k)(hg:Keeps k g)(hi:PI X tg iter (loI B it))(b6:∀C j i G E A,A.K=X.K->XW ((X.comp scope C ts j i G).tri E []) A->PG ((X.comp scope C ts j i G).tri E []) tg (loG true A g))(c4:∀C j i G E A,A.K=X.K->XW ((X.comp scope C ts j i G).tri E []) A->xX ((X.comp scope C ts j i G).tri E []) ifs (loT A tt))(b9:∀C j i G E A,A.K=X.K->XW ((X.comp scope C ts j i G).tri E []) A->PE ((X.comp scope C ts j i G).tri E []) elt (lo A ta))(hs:∀x,foldedSetIterable iter X.env x=pure x:=by intro _;rfl):PE X (.ListComp elt [⟨tg,iter,ifs,0⟩] scope pos) (lo B (WL.mR k it g tt ta)):=by
 subst hk;intro pins s d H Q I⟨σ,F,R,q⟩;have S:CompScope X scope ts:=L.scope;have a4:closureFor scope X.env=pure (dm X.env.cells scope.names []):=ez λy hy hf=>by obtain⟨c,hc⟩:=I.ok.has y.1 (S.free y hy hf);rw[hc];rfl
 have q:=Rq.bind (Rq.bind q);rw[eval_ListComp];refine apc (use:=none) rfl hs a4 S.kind S.names (thn (hi pins s d H (λJ H1=>∃F1 xs,RS B σ d F1 H1/\Gr F H F1 H1/\Walk B.K J xs F1/\Rq B σ F (if xs.length<=WL.lim then WL.br g tt ta (List.replicate ts.length .no++WL.qq σ) xs else .bad) λys=>∀v a u,RS B σ d u a->Gr F H u a->RW B.K u (.lst ys) v->Q v a) I ⟨σ,F,R,Rq.mono (ax.refl _) q λxs N J H1 F1 R1 g1 wk=>⟨F1,xs,R1,g1,wk,?_⟩⟩) λxv s1 h1=>thn h1 λc7 s2 h2=>?_);.exact N
 obtain⟨it,G,tn,J,H2,e,Y,T,b0,f2,F1,xs,R1,g1,wk,N⟩:=h2;subst e;by_cases a3:xs.length<=WL.lim
 .rw[anL a3]at N;let A:Bx:=⟨B.K,H2,F1,λc _ u=>B.xp c σ u,λc _ u b8 sm h=>B.mono c σ u b8 sm h⟩;let EC:Addr->Value->Shared->Prop:=λC v K=>∃(e Ce:Addr)(dx:Option Addr)(fl:Value)(T:Option Addr)(M:L2.St)(a u:Hp)(c:VW),v=.ref e/\Thr (X.comp scope C ts s2 H2 G) [] M a K e Ce dx fl T/\RB A u a/\B.xp c σ u/\XR X.K u c Ce dx;have xw:∀C,XW ((X.comp scope C ts s2 H2 G).tri (EC C) []) A:=λC b2 M a K b3 u c R' xp e Ce dx T fl t xr=>⟨e,Ce,dx,fl,T,M,a,u,c,rfl,Thr.jh (X:=X.comp scope C ts s2 H2 G) (pins:=[]) t,R'.rb,xp,xr⟩;have hW:sI J (loG true A g) (loT A tt) (lo A ta) (List.replicate ts.length none++d) H2 Q:=by
   refine se hg (R1.qq rfl rfl rfl) wk a3 (λz=>by rw[z]at N;exact N) (λc z b3 u sm=>?_) λall z ys u a rb g' r D hD=>?_;.rw[z]at N;exact B.mono c σ F u (g1.f.trans sm) N
   .rw[z]at N;have P:RB B u a:=pE R1 rb rfl rfl;have R':=R1.grow g' P;exact N (.ref D) _ _ (R'.new hD _) (g1.trans (g'.trans (Gr.new (P.sub.free hD) hD _))) (by simp only[RW];exact⟨D,ys,rfl,SqL.of aq,r.keep (az (P.sub.free hD) _)⟩)
  refine iC (Q:=Q) (RR:=λc2 C=>compPost (model X.prog X.w) X.A X.xe none (EP X pins d Q) c2 C) S EC (λ_ _ _=>hc) (λC=>b6 C s2 H2 G (EC C) A hK.symm (xw C)) (λC=>c4 C s2 H2 G (EC C) A hK.symm (xw C)) (λC=>b9 C s2 H2 G (EC C) A hK.symm (xw C)) Y T b0 f2 hW.c ?_ ?_;.intro C D a K m ys c3 hC hD hn c1 I' q;refine⟨m,hn,λh' Z=>?_⟩;have a0:C≠X.env.locals:=aoc (anN Y.lt hC);have c5:Inv X pins d (upd a D (.lst ys)) {K with heap:=h'}:=I'.turned (t':=K.toks) (it:=C) (λb o n e=>(Z.2 b n).trans e) (by rw[aj c3];exact c1) a0 (.inr (anQ Y.sz hC)) (λx c e=>by obtain⟨v,q⟩:=Y.cell x c e;exact anW (anN q.lt hC)) λp l=>anW (anN (anR (Y.pin p l).1) hC);exact⟨.ref D,_,c5,rfl,q⟩
  .rintro C D _ K hC⟨e,Ce,dx,fl,T,M,a,u,c,rfl,t,rb,xp,xr⟩;have J':Inv X pins d a K:=Y.adh (ch:=G) t.inv.os t.inv.base t.inv.hok t.inv.bare λb n=>⟨(f2 b n).2.2.2.1,(f2 b n).2.1,(f2 b n).2.2.2.2.1,(f2 b n).2.2.2.2.2⟩;obtain⟨m,a9,_⟩:=t.inv.loc;obtain⟨U,es,ep,b1,a8⟩:=id a9;have a2:a C=none:=t.inv.free;have a0:C≠X.env.locals:=aoc (anN Y.lt hC);have a6:s2.heap.get? C=none:=aoj hC;have fC:FpX X pins a C:=Y.fpX a6 a2;have a1:∀v,U.data≠.cell v:=λv z=>by obtain⟨hd,_⟩:=a8;rw[hd]at z;cases z
   have J2:Inv X (pins++[(C,U)]) d a K:=J'.fk λp l=>by
    rcases aou.mp l with l|l;.exact J'.pin p (anZ _ l)
    .obtain rfl:p=(C,U):=by simpa using l
     exact⟨b1,a2,a0,fC.2.2.1,a1⟩
   have O:∀b,FpX (X.comp scope C ts s2 H2 G) [] a b->FpX X pins a b/\b≠C:=λb z=>by
    refine⟨?_,z.2.1⟩;rcases z.2.2.2.1 with n|n;.have f:=f2 b n;exact⟨z.1,f.2.1,f.2.2.1,f.2.2.2.1.imp (λw=>w) λw=>aoj w,f.2.2.2.2.1,f.2.2.2.2.2⟩
    .exact Y.fpX n z.1
   have a5:∀b,FpX X pins a b->b≠C->FpX X (pins++[(C,U)]) a b:=λb z ne=>⟨z.1,z.2.1,z.2.2.1,z.2.2.2.1,z.2.2.2.2.1,λp l=>by
    rcases aou.mp l with l|l;.exact z.2.2.2.2.2 p (aob _ l)
    .rcases aou.mp l with l|l;.exact z.2.2.2.2.2 p (anZ _ l)
     .obtain rfl:p=(C,U):=by simpa using l
      exact anY ne⟩;have te:=O e t.fe;have t1:Thr X (pins++[(C,U)]) d a K e Ce dx fl T:=⟨J2,t.trc,a5 e te.1 te.2,λb n=>a5 b (O b (t.fT b n)).1 (O b (t.fT b n)).2⟩;refine t1.note b5 c0 λa7 T1 b4 t2=>?_;have pC:=(t2.inv.pin (C,U) (by simp)).1;refine⟨m,⟨U,es,ep,pC,a8⟩,λh' Z c6 _=>?_⟩;have drop:∀b,FpX X (pins++[(C,U)]) a b->FpX X pins a b/\b≠C:=λb z=>⟨⟨z.1,z.2.1,z.2.2.1,z.2.2.2.1,z.2.2.2.2.1,λp l=>by
    rcases aou.mp l with l|l;.exact z.2.2.2.2.2 p (aob _ l)
    .exact z.2.2.2.2.2 p (anZ _ (aob _ l))⟩,λw=>z.2.2.2.2.2 (C,U) (by simp) w.symm⟩;have J3:Inv X pins d a {K with heap:=a7}:=t2.inv.fk λp l=>t2.inv.pin p (anZ _ (aob _ l));have J4:Inv X pins d a {K with heap:=h'}:=Inv.turned (s:={K with heap:=a7}) (t':=K.toks) (it:=C) J3 (λb o n e=>(Z.2 b n).trans e) a2 a0 (.inr (anQ Y.sz hC)) fC.2.2.2.2.1 fC.2.2.2.2.2;have t3:Thr X pins d a {K with heap:=h'} e Ce dx b4 (some T1):=⟨J4,t2.trc.keeps λb o n q=>(Z.2 b (by
    rcases n with rfl|n;.exact(drop _ t2.fe).2
    .exact(drop b (t2.fT b n)).2)).trans q,(drop e t2.fe).1,λb n=>(drop b (t2.fT b n)).1⟩;refine t3.pass λc8 b7 t4=>?_;have P:RB B u a:=pE R1 rb rfl rfl;exact hx pins d a _ σ u c (R1.grow (vN rb rfl rfl) P) xp e Ce dx (some T1) b7 t4 xr
 .rw[anK a3]at N;exact(N).elim
end
theorem zip_get:∀(xs ys:List VW)(i:Nat)(x y:VW),xs[i]?=some x->ys[i]?=some y->(WL.sP xs ys)[i]?=some (.tup [x,y])|[],_,_,_,_,h,_=>by simp at h|_::_,[],_,_,_,_,h=>by simp at h|x::xs,y::ys,0,_,_,h,h'=>by simp at h h';subst h h';rfl|x::xs,y::ys,i+1,u,v,h,h'=>by simp only[WL.sP,api]at h h'⊢;exact zip_get xs ys i u v h h'
theorem sO:∀(xs ys:List VW),xs.length=ys.length->(WL.sP xs ys).length=xs.length|[],[],_=>rfl|[],_::_,h=>by simp at h|_::_,[],h=>by simp at h|x::xs,y::ys,h=>by simp only[WL.sP,anV,sO xs ys (by simpa using h)]
def uU{K:W.Frag}{lt:Bool}{a b:Addr}{xs ys:List VW}{vs us:List V}{F:Hp}(keep:∀{G H:Hp}{c:Addr}{ws:List V},ax G H->SqB K G lt c ws->SqB K H lt c ws)(h:SqB K F lt a vs)(h':SqB K F lt b us)(r:RWs K F xs vs)(C:RWs K F ys us)(k:xs.length=ys.length):Walk K (Itz K lt a b) (WL.sP xs ys) F:=by
 refine⟨λi x e D E d f=>?_,λD E d f=>⟨vs,keep f (keep d h),by rw[sO _ _ k,r.length];exact anP _⟩⟩;have q:i<xs.length:=by have:=(anM.mp e).1;rwa[sO _ _ k]at this
 have ex:=anJ q;have o:=anJ (k▸q);rw[zip_get xs ys i _ _ ex o]at e;have e:=an3 e;subst e;obtain⟨v,l,w⟩:=r.get ex;obtain⟨u,t,A⟩:=C.get o;refine⟨⟨vs,us,v,u,keep f (keep d h),keep f (keep d h'),l,t⟩,λz M g=>?_⟩;obtain⟨p,y,n,B⟩:=g;subst y;obtain⟨I,J,s,m,rfl⟩:=B vs us (keep f (keep d h)) (keep f (keep d h'));rw[l]at s;rw[t]at m;cases s;cases m;have j:=f.free n;refine⟨_,Ext.new j n _,?_⟩;simp only[RW];refine⟨p,_,rfl,SqT.of aq,?_⟩;simp only[RWs];exact⟨_,_,rfl,(w.keep d).keep (az j _),_,_,rfl,(A.keep d).keep (az j _),rfl⟩
section
variable{X:Cx}{B:Bx}{ta tb:EF}
def agM{l m:Expr}{es:List Expr}{k:Nat}{S p pos:Pos}(i:X.K=B.K)(U:Gl X "zip")(P:X.mg "zip"=none)(h:PE X l (lo B ta))(h':PE X m (lo B tb))(hs:starEach [l,m] X.env=[(false,eval l X.env),(false,eval m X.env)]:=by rfl)(J:starEach [m] X.env=[(false,eval m X.env)]:=by rfl)(C:starEach [l,m] X.env=(false,eval l X.env)::starEach [m] X.env:=by rfl)(o:starEach [m] X.env=(false,eval m X.env)::starEach [] X.env:=by rfl):PI X (.Tuple es k S) (.Call (.Name "zip" p) [l,m] [] pos) (loI B (WL.aiv ta tb)):=PI.imp (ahv U P (aa h (aa h' ah o) C) hs J) λQ H R A=>by obtain⟨σ,F,T,q⟩:=A;have q:=Rq.bind q;refine⟨σ,F,T,?_⟩;show Rq B σ F ((ta σ).bind λx=>((tb σ).bind λy=>(Res.ok []).bind λf=>.ok (y::f)).bind λd=>.ok (x::d)) _;cases e:ta σ with
|ok x=>rw[e]at q;have q:=Rq.bind q;cases w:tb σ with
 |ok y=>rw[w]at q;intro Y N M j K O;obtain⟨v,Z,rfl,u,t⟩:=two_of O;cases x with
  |lst d=>cases y with|lst f=>
     simp only[RW]at u t;obtain⟨a,I,rfl,r,D⟩:=u;obtain⟨b,G,rfl,n,E⟩:=t;have q:Rq B σ F (if d.length=f.length then .ok (WL.sP d f)else .bad) _:=q;by_cases g:d.length=f.length;.rw[anL g]at q;refine⟨true,a,b,rfl,⟨I,by rw[i];exact j.rb.sub.seq r⟩,⟨G,by rw[i];exact j.rb.sub.seq n⟩,?_⟩;rw[i];exact q _ N M j K (uU (λs z=>s.seq z) r n D E g)
     .rw[anK g]at q;exact q.elim|_=>exact(q).elim
  |tup d=>cases y with|tup f=>
     simp only[RW]at u t;obtain⟨a,I,rfl,r,D⟩:=u;obtain⟨b,G,rfl,n,E⟩:=t;have q:Rq B σ F (if d.length=f.length then .ok (WL.sP d f)else .bad) _:=q;by_cases g:d.length=f.length;.rw[anL g]at q;refine⟨false,a,b,rfl,⟨I,by rw[i];exact j.rb.sub.tup r⟩,⟨G,by rw[i];exact j.rb.sub.tup n⟩,?_⟩;rw[i];exact q _ N M j K (uU (λs z=>s.tup z) r n D E g)
     .rw[anK g]at q;exact q.elim|_=>exact(q).elim
  |_=>exact(q).elim
 |ex c=>rw[w]at q;exact q|bad=>rw[w]at q;exact q
|ex c=>rw[e]at q;exact q|bad=>rw[e]at q;exact q
end
section
variable{X:Cx}{K:W.Frag}
def sg:∀a c,WL.gq a≠.ex c:=λa c h=>by
 unfold WL.gq at h;split at h;.split at h<;>cases h
 .cases h
def RW.tyW{F H:Hp}{w:VW}{v:V}{t:String}{b:Bool}(s:ax F H)(h:RW K F w v)(d:WL.isK w t=some b):TyW K H v (akc w):=by cases w with|non=>simp only[RW]at h;subst h;exact .non|bl k=>simp only[RW]at h;subst h;exact .bl k|int k=>simp only[RW]at h;subst h;exact .int k|str k=>simp only[RW]at h;subst h;exact .str k|tup ys=>simp only[RW]at h;obtain⟨a,e,rfl,c,f⟩:=h;exact .tup (s.tup c)|lst ys=>simp only[RW]at h;obtain⟨a,e,rfl,c,f⟩:=h;exact .lst (s.seq c)|ty k|dic _ _|cls _|exc _ _|ins _ _|id _=>cases d
set_option tactic.hygienic true
def yC(j:X.K=K):bN X (.builtin "isinstance") (loN K WL.gq):=by subst j;refine bN.imp su λo H Q a=>?_;obtain⟨F,ws,s,r,q⟩:=a;cases e:WL.gq ws with|bad|ex c=>rw[e]at q;exact q.elim|ok w=>
  rw[e]at q;unfold WL.gq at e;split at e
  .rename_i x t u;split at e;.rename_i b c f l;cases e;obtain⟨v,n,rfl,h,g⟩:=two_of r;simp only[RW]at g;obtain⟨m,y,rfl,k,rt⟩:=g;obtain⟨p,z,rfl,d,i⟩:=two_of rt;simp only[RW]at d i;subst d i;refine⟨v,m,t,u,akc x,b||c,rfl,s.tup k,RW.tyW s h f,?_,eq1 q (by simp[RW])⟩;simp only[W.kitAny,aad (K:=X.K) f,aad (K:=X.K) l];cases b<;>cases c<;>rfl
   .cases e
  .cases e
set_option tactic.hygienic false
end
section
variable{X:Cx}{B:Bx}{K:W.Frag}{o e:Expr}{es:List Expr}{to ta:EF}{tas:AF}{pos apos cpos:Pos}
theorem aa8:∀{ys:List VW}{x:VW}{n m:Nat},WL.okD n x=true->WL.iT m ys=true->((gy ys).countP λz=>PyData.eqv z (toD x))=WL.cnt x ys|[],_,_,_,_,_=>by simp[gy,WL.cnt]|y::ys,x,n,m,hx,a=>by cases m with|zero=>cases a|succ m=>have a:=aoC.mp a;have b:=mM m n y x a.1 hx;simp only[gy,aqC,WL.cnt,b,aa8 hx a.2]
set_option tactic.hygienic true
def abC{x:Expr}(l:X.K=B.K)(U:X.A.units+64<cLine)(S:PE X o (lo B to))(y:PA X [x] (loA B tas))(g:attributeBase o "count" X.env (eval o X.env)=eval o X.env:=by rfl)(h:((backTo cpos (starEach [x] X.env)).all (λx=>!x.1)&&(backToKw cpos (keywordEach [] X.env)).all (λx=>x.1.isSome)&&decide (([x]:List Expr).length+([]:List Keyword).length+(if([]:List Keyword).isEmpty then 0 else 1)<30))=true:=by rfl)(f:(apos.endLine==cpos.line)=true:=by rfl)(hs:starEach [x] X.env=(false,eval x X.env)::starEach [] X.env:=by rfl)(d:BT X cpos []:=by rfl):PE X (.Call (.Attribute o "count" apos) [x] [] cpos) (lo B (WL.amW "list" WL.om to tas)):=PE.imp (zB aoY PySem.F.slot_list_count PySem.F.type_list_count zW S y g h f hs d) λA H Q m=>by obtain⟨σ,F,R,q⟩:=m;have q:=Rq.bind q;refine⟨σ,F,R,Rq.mono (ax.refl _) q λw i v H1 M t p k=>?_⟩;cases w with
 |lst ys=>have i:=Rq.bind (show Rq B σ F ((tas σ).bind λws=>WL.om (.lst ys) ws) _ from i);have n:=k;simp only[RW]at k;obtain⟨a,C,rfl,O,Y⟩:=k;refine⟨.inl ⟨rfl,C,by rw[l];exact t.rb.sub.seq O⟩,σ,M,t,Rq.mono p.f i λws j Z P D R2 s E=>?_⟩;cases em:WL.om (.lst ys) ws with
  |bad=>rw[em]at j;exact j.elim|ex c=>
    unfold WL.om at em;split at em;.split at em<;>cases em
    .cases em|ok z=>
    rw[em]at j;unfold WL.om at em;split at em
    .rename_i T e2 G r I;cases I;split at em;.rename_i b;rw[an6]at b;cases em;obtain⟨u,rfl,N⟩:=fG E;have sub:=R2.rb.sub;have J:=RW.isD 51 (.lst ys) (.ref a) b.2 ((n.keep s.f).keep sub);refine⟨50,u,toD r,gy ys,rfl,by rw[l];exact RW.isD 50 r u b.1 (N.keep sub),by rw[l];exact J,by omega,?_⟩;rw[aa8 b.1 b.2];exact j (.int _) P D R2 (p.trans s) (by simp[RW])
     .cases em
    .cases em
 |_=>exact(show False from i).elim
set_option tactic.hygienic false
end
section
variable{X:Cx}{B:Bx}{k:Nat}{f:Addr}{fd:FuncData}{ps:List Str}{fn:List VW->Res VW}{x:Str}{p pos:Pos}{e:Expr}{es:List Expr}{tas:AF}{n:Nat}{dws:List VW}{dvs:List V}{ds:List Value}
def aaa(i:X.K=B.K)(o:XW X B)(d:∀F,RWs B.K F dws dvs)(l:∀σ ws,tas σ=.ok ws->ws.length+dws.length=n):∀a H Q,lo B (WL.en (λws=>fn (ws++dws)) tas) a H Q->qG X (spX X.K n fn) dvs (loA B tas) a H Q:=by intro a H Q⟨σ,F,R,q⟩;have q:=Rq.bind q;refine cx σ F R ?_;cases b:tas σ with|bad|ex c=>rw[b]at q;exact q|ok ws=>rw[b]at q;exact λr s m j h g=>o7 i o j h (g.app (d m)) (by rw[aoh];exact l σ ws b) q rfl
def yr(j:X.K=B.K)(m:XW X B)(F:FnOk X.prog X.w X.K X.mg X.base (CXX X.prog X.w) k f fd ps (spX X.K n fn))(d:Room k X.A)(s:Gl X x)(h:X.mg x=some (.ref f))(o:W.keepIn X.K (.ref f)=true)(r:Binds X.K fd ps ds)(c:Vals dvs ds)(g:∀F,RWs B.K F dws dvs)(i:PA X (e::es) (loA B tas))(l:∀σ ws,tas σ=.ok ws->ws.length+dws.length=n)(a:Dbg x:=by decide)(q:SE X e es:=by rfl)(b:BT X pos es:=by rfl):PE X (.Call (.Name x p) (e::es) [] pos) (lo B (WL.en (λws=>fn (ws++dws)) tas)):=PE.imp (pG F d s h o r c i a q b) (aaa j m g l)
end
structure FunD(K:W.Frag)(x qual:Str)(st:Stmt)(f:Addr)(fd:FuncData)(dV:Value):Prop where ex:∃(oc:Value)(od:Option Addr)(kV doc pm:Value)(an:Option Addr)(cdv ct:Value)(osl:Array (Option Value)),fd=W.fnOf x qual (bE st) (aP st) (af st) dV kV doc pm an cdv ct/\K.lookup f=some ⟨oc,od,.func fd,osl⟩/\W.codeIn K cdv qual=true
section
variable{P:Program}{w:World}{K:W.Frag}{mg:Str->Option Value}{base:Heap}
def afN{x a st f j h od i e kV d g b ct}(l:K.lookup f=some ⟨j,od,.func (W.fnOf x a (bE st) (aP st) (af st) h kV d g i b ct),e⟩)(c:W.codeIn K b a=true):FunD K x a st f (W.fnOf x a (bE st) (aP st) (af st) h kV d g i b ct) h:=⟨j,od,kV,_,g,i,_,ct,_,rfl,l,c⟩
def FunD.binds{x a st f T j ps ds o items n}(F:FunD K x a st f j (.ref T))(r:K.lookup T=some o)(hs:o.data=.seq items n)(h:∀kV c i l b ct d,(d++ds).length=ps.length->∃k,bindArgs (W.fnOf x a (bE st) (aP st) (af st) (.ref T) kV c i l b ct) ⟨d,[]⟩=seqItems? (.ref T)>>=k/\k (some items)=pure (ps.zip (d++ds))):Binds K j ps ds:=by refine aep F.ex λv od kV c i l b ct p g y t=>?_;subst g;intro s d e u;obtain⟨k,q,m⟩:=h _ _ _ _ _ _ _ u;exact BindsTo.of_defaults rfl (e _ _ r) hs q m
def v8{x b st f X dV N ps k m n}{Z:List VW->Res VW}(t)(Fn:FunD K x b st f X dV)(S:FnScope N ps (af st))(hn:N.length=n)(g:ps.length=m)(D:WL.run n t=Z)(a2:ps.length<=N.length)(h:∀d A a s H E B,B.K=K->Room k (A.deeper (envOfC b (af st) s.heap.objs.size f d))->XW (iI (CXX P w) P w K mg base N b (af st) f d A a s H E) B->PassesOwn (model P w) (iI (CXX P w) P w K mg base N b (af st) f d A a s H E).A (iI (CXX P w) P w K mg base N b (af st) f d A a s H E).env (iI (CXX P w) P w K mg base N b (af st) f d A a s H E).xe->PSs (iI (CXX P w) P w K mg base N b (af st) f d A a s H E) (aP st) (loS B t)):FnOk P w K mg base (CXX P w) (k+1) f X ps (spX K m Z):=by subst hn g D;refine aep Fn.ex λoc od kV a3 pm an d ct a1 z lk I=>?_;subst z;refine acW lk I S (λvs H Q E o=>by refine jQ o λF ws _ r M _=>?_;rw[<-r.length];exact M) λA a s H vs Q E hr _ o=>?_;refine jQ o λF ws sm r M g=>?_;let O:Bx:=⟨K,H,F,λ_ _ _=>False,λ_ _ _ _ _ h=>h⟩;let R:Bx:=O.sS (λc _ u=>∀C l j i,ax u i->RB O i j->XR K i c C l->E (.ref C) l j) λc σ u F2 s h C l j i q=>h C l j i (s.trans q);refine⟨_,h d A a s H E R rfl hr (λU a0 H1 s1 σ u c R1 xp e C l T fl t G=>uc t (xp C l H1 u (ax.refl _) (R1.rb.box rfl rfl) G)) PassesOwn.leaving,_,F,(RS.start sm r (by omega)).box (B':=R) rfl rfl rfl,?_⟩;unfold WL.run at g;cases e:t _ with|rt w=>rw[e]at g;exact λv j i p q J=>g v j i q p.sub p.base p.fr J|nx σ'=>rw[e]at g;exact λY j i y q=>g .non j i q y.rb.sub y.rb.base y.rb.fr (by simp[RW])|bk σ'|ct σ'=>rw[e]at g;exact g.elim|ex c σ'=>rw[e]at g;exact λC l j i q p G=>g C l j i q p.sub p.base p.fr G|bad=>rw[e]at g;exact g.elim
end
section
variable{P:List Value->Prop}
def us0(h:P []):∀a,a.length=0->P a:=λa e=>by grind
def us1(h:∀c,P [c]):∀b,b.length=1->P b:=λb e=>by cases b with|nil=>cases e|cons a t=>exact us0 (P:=λt=>P _) (h a) t (apG e)
def us2(h:∀d c,P [d,c]):∀b,b.length=2->P b:=λb e=>by cases b with|nil=>cases e|cons a t=>exact us1 (P:=λt=>P _) (λc=>h a _) t (apG e)
def us3(h:∀f d c,P [f,d,c]):∀b,b.length=3->P b:=λb e=>by cases b with|nil=>cases e|cons a t=>exact us2 (P:=λt=>P _) (λd c=>h a _ _) t (apG e)
def us4(h:∀g d c f,P [g,d,c,f]):∀b,b.length=4->P b:=λb e=>by cases b with|nil=>cases e|cons a t=>exact us3 (P:=λt=>P _) (λd c f=>h a _ _ _) t (apG e)
def us5(h:∀i c g f d,P [i,c,g,f,d]):∀b,b.length=5->P b:=λb e=>by cases b with|nil=>cases e|cons a t=>exact us4 (P:=λt=>P _) (λc g f d=>h a _ _ _ _) t (apG e)
def us6(h:∀j d i g f c,P [j,d,i,g,f,c]):∀b,b.length=6->P b:=λb e=>by cases b with|nil=>cases e|cons a t=>exact us5 (P:=λt=>P _) (λd i g f c=>h a _ _ _ _ _) t (apG e)
end
def AtD(K:W.Frag)(nm:Str)(st:Stmt):Prop:=∃(f:Addr)(a:FuncData),Fun K nm nm st f a/\W.nsIn K mainGlobals nm=some (some (.ref f))
def AtE(K:W.Frag)(nm:Str)(st:Stmt)(ds:Array Value):Prop:=∃(f T:Addr)(a:FuncData)(d:Option Addr)(n:Nat)(b:Array (Option Value)),FunD K nm nm st f a (.ref T)/\W.nsIn K mainGlobals nm=some (some (.ref f))/\W.keepIn K (.ref f)=true/\K.lookup T=some ⟨.type "tuple",d,.seq ds n,b⟩
def Cal(P:Program)(w:World)(K:W.Frag)(c:Str->Option Value)(a:Heap)(CX:CXT)(k:Nat)(nm:Str)(ps:List Str)(ds:List Value)(sp:Sp):Prop:=∃(f:Addr)(b:FuncData),FnOk P w K c a CX k f b ps sp/\c nm=some (.ref f)/\W.keepIn K (.ref f)=true/\Binds K b ps []/\Binds K b ps ds
section
variable{P:Program}{w:World}{K:W.Frag}{mg:Str->Option Value}{base:Heap}{CX:CXT}{k:Nat}{nm:Str}{ps:List Str}{sp:Sp}{st:Stmt}
def al9{f g od i e kV d h b ct}(a:W.nsIn K mainGlobals nm=some (some (.ref f)))(l:K.lookup f=some ⟨g,od,.func (W.fnOf nm nm (bE st) (aP st) (af st) .none kV d h i b ct),e⟩)(c:W.codeIn K b nm=true)(q:W.keepIn K (.ref f)=true):AtD K nm st:=⟨f,_,aax l c q,a⟩
def ajd{f T h od j d e sl kV g i b ct ds n}(a:W.nsIn K mainGlobals nm=some (some (.ref f)))(l:K.lookup f=some ⟨h,od,.func (W.fnOf nm nm (bE st) (aP st) (af st) (.ref T) kV g i j b ct),e⟩)(c:W.codeIn K b nm=true)(q:W.keepIn K (.ref f)=true)(t:K.lookup T=some ⟨.type "tuple",d,.seq ds n,sl⟩):AtE K nm st ds:=⟨f,T,_,d,n,sl,afN l c,a,q,t⟩
def AtD.cal(D:AtD K nm st)(i:∀nm v,W.nsIn K mainGlobals nm=some (some v)->mg nm=some v)(g:∀kV d j l c ct e,e.length=ps.length->bindArgs (W.fnOf nm nm (bE st) (aP st) (af st) .none kV d j l c ct) ⟨e,[]⟩=pure (ps.zip e))(h:∀f b,Fun K nm nm st f b->FnOk P w K mg base CX k f b ps sp):Cal P w K mg base CX k nm ps [] sp:=by obtain⟨f,b,F,a⟩:=D;exact⟨f,b,h f _ F,i _ _ a,F.kp,F.binds g,F.binds g⟩
def AtD.am1(D:AtD K nm st)(i:∀nm v,W.nsIn K mainGlobals nm=some (some v)->mg nm=some v)(d:∀kV e j l c ct g,g.length=ps.length->bindArgs (W.fnOf nm nm (bE st) (aP st) (af st) .none kV e j l c ct) ⟨g,[]⟩=pure (ps.zip g))(h:∀f b,Fun K nm nm st f b->mg nm=some (.ref f)->Binds K b ps []->FnOk P w K mg base CX k f b ps sp):Cal P w K mg base CX k nm ps [] sp:=by obtain⟨f,b,F,a⟩:=D;exact⟨f,b,h f _ F (i _ _ a) (F.binds d),i _ _ a,F.kp,F.binds d,F.binds d⟩
def AtE.cal{ds}(D:AtE K nm st ds.toArray)(l:∀nm v,W.nsIn K mainGlobals nm=some (some v)->mg nm=some v)(p:∀T kV c i j b ct e,(e++[]).length=ps.length->∃k,bindArgs (W.fnOf nm nm (bE st) (aP st) (af st) (.ref T) kV c i j b ct) ⟨e,[]⟩=seqItems? (.ref T)>>=k/\k (some ds.toArray)=pure (ps.zip (e++[])))(m:∀T kV c i j b ct e,(e++ds).length=ps.length->∃k,bindArgs (W.fnOf nm nm (bE st) (aP st) (af st) (.ref T) kV c i j b ct) ⟨e,[]⟩=seqItems? (.ref T)>>=k/\k (some ds.toArray)=pure (ps.zip (e++ds)))(h:∀f g o,FunD K nm nm st f g o->FnOk P w K mg base CX k f g ps sp):Cal P w K mg base CX k nm ps ds sp:=by obtain⟨f,T,g,d,n,r,F,a,q,t⟩:=D;exact⟨f,g,h f _ _ F,l _ _ a,q,F.binds t rfl (p T),F.binds t rfl (m T)⟩
end
section
variable{X:Cx}{B:Bx}{k j:Nat}{ps:List Str}{ds:List Value}{fn:List VW->Res VW}{x:Str}{p pos:Pos}{e:Expr}{es:List Expr}{tas:AF}{n:Nat}{dws:List VW}{dvs:List V}
def cl(r:B.K=X.K)(d:Room j X.A)(C:Cal X.prog X.w X.K X.mg X.base CX0 k x ps ds (spW X.K n fn))(g:PA X (e::es) (loA B tas))(i:k<=j:=by decide)(h:∀σ ws,tas σ=.ok ws->ws.length=n:=by repeat first|exact kQ|apply ek)(o:Gl X x:=by rfl)(a:Dbg x:=by decide)(l:SE X e es:=by rfl)(c:BT X pos es:=by rfl):PE X (.Call (.Name x p) (e::es) [] pos) (lo B (WL.aJ fn tas)):=by refine kR C λf s G m q b _=>?_;exact yt r.symm G (d.mono i) o m q b g h a l c
def cl0(h:B.K=X.K)(c:Room j X.A)(C:Cal X.prog X.w X.K X.mg X.base CX0 k x ps ds (spW X.K 0 fn))(d:k<=j:=by decide)(g:Gl X x:=by rfl)(a:Dbg x:=by decide):PE X (.Call (.Name x p) [] [] pos) (lo B (WL.aJ fn WL.aw)):=by obtain⟨f,i,G,m,q,b,_⟩:=C;exact abH h.symm G (c.mono d) g m q b a
def clX(s:B.K=X.K)(d:Room j X.A)(i:XW X B)(C:Cal X.prog X.w X.K X.mg X.base (CXX X.prog X.w) k x ps ds (spX X.K n fn))(g:PA X (e::es) (loA B tas))(l:k<=j:=by decide)(h:∀σ ws,tas σ=.ok ws->ws.length=n:=by repeat first|exact kQ|apply ek)(r:Gl X x:=by rfl)(a:Dbg x:=by decide)(o:SE X e es:=by rfl)(c:BT X pos es:=by rfl):PE X (.Call (.Name x p) (e::es) [] pos) (lo B (WL.en fn tas)):=by refine kR C λf t G m q b _=>?_;exact abG s.symm i G (d.mono l) r m q b g h a o c
def clD(u:B.K=X.K)(g:Room j X.A)(o:XW X B)(C:Cal X.prog X.w X.K X.mg X.base (CXX X.prog X.w) k x ps ds (spX X.K n fn))(d:Vals dvs ds)(h:∀F,RWs B.K F dws dvs)(i:PA X (e::es) (loA B tas))(l:∀σ ws,tas σ=.ok ws->ws.length+dws.length=n)(r:k<=j:=by decide)(t:Gl X x:=by rfl)(a:Dbg x:=by decide)(s:SE X e es:=by rfl)(c:BT X pos es:=by rfl):PE X (.Call (.Name x p) (e::es) [] pos) (lo B (WL.en (λws=>fn (ws++dws)) tas)):=by refine kR C λf v G m q _ b=>?_;exact yr u.symm o G (g.mono r) t m q b d h i l a s c
end
def aja{a}{ps:List Str}(h:bindArgs a ⟨[],[]⟩=pure (ps.zip []))(us)(e:us.length=0):bindArgs a ⟨us,[]⟩=pure (ps.zip us):=by grind
def bind1{b}{ps:List Str}(h:∀a,bindArgs b ⟨[a],[]⟩=pure (ps.zip [a]))(us)(e:us.length=1):bindArgs b ⟨us,[]⟩=pure (ps.zip us):=us1 (P:=λus=>bindArgs _ ⟨us,[]⟩=pure _) h _ e
def uG{b}{ps:List Str}(h:∀c a,bindArgs b ⟨[c,a],[]⟩=pure (ps.zip [c,a]))(us)(e:us.length=2):bindArgs b ⟨us,[]⟩=pure (ps.zip us):=us2 (P:=λus=>bindArgs _ ⟨us,[]⟩=pure _) h _ e
def uF{b}{ps:List Str}(h:∀c a d,bindArgs b ⟨[c,a,d],[]⟩=pure (ps.zip [c,a,d]))(us)(e:us.length=3):bindArgs b ⟨us,[]⟩=pure (ps.zip us):=us3 (P:=λus=>bindArgs _ ⟨us,[]⟩=pure _) h _ e
def ai9{c}{ps:List Str}(h:∀d a f b,bindArgs c ⟨[d,a,f,b],[]⟩=pure (ps.zip [d,a,f,b]))(us)(e:us.length=4):bindArgs c ⟨us,[]⟩=pure (ps.zip us):=us4 (P:=λus=>bindArgs _ ⟨us,[]⟩=pure _) h _ e
def ai8{d}{ps:List Str}(h:∀f a g c b,bindArgs d ⟨[f,a,g,c,b],[]⟩=pure (ps.zip [f,a,g,c,b]))(us)(e:us.length=5):bindArgs d ⟨us,[]⟩=pure (ps.zip us):=us5 (P:=λus=>bindArgs _ ⟨us,[]⟩=pure _) h _ e
def ai7{f}{ps:List Str}(h:∀g b i d c a,bindArgs f ⟨[g,b,i,d,c,a],[]⟩=pure (ps.zip [g,b,i,d,c,a]))(us)(e:us.length=6):bindArgs f ⟨us,[]⟩=pure (ps.zip us):=us6 (P:=λus=>bindArgs _ ⟨us,[]⟩=pure _) h _ e
def ud2{b T it ds}{ps:List Str}(h:∀c a,∃k,bindArgs b ⟨[c,a],[]⟩=seqItems? (.ref T)>>=k/\k (some it)=pure (ps.zip ([c,a]++ds)))(us)(e:us.length=2):∃k,bindArgs b ⟨us,[]⟩=seqItems? (.ref T)>>=k/\k (some it)=pure (ps.zip (us++ds)):=us2 (P:=λus=>∃k,bindArgs _ ⟨us,[]⟩=seqItems? _ >>=k/\k _=pure (ps.zip (us++ds))) h _ e
def ud3{b T it ds}{ps:List Str}(h:∀c a d,∃k,bindArgs b ⟨[c,a,d],[]⟩=seqItems? (.ref T)>>=k/\k (some it)=pure (ps.zip ([c,a,d]++ds)))(us)(e:us.length=3):∃k,bindArgs b ⟨us,[]⟩=seqItems? (.ref T)>>=k/\k (some it)=pure (ps.zip (us++ds)):=us3 (P:=λus=>∃k,bindArgs _ ⟨us,[]⟩=seqItems? _ >>=k/\k _=pure (ps.zip (us++ds))) h _ e
def cm{k}{A:Around}{a}(r:Room k (A.deeper a))(h:40<=k:=by first|decide|omega|exact anQ (show 40<=_ by decide) (aqB _ _)):A.handled.isNone=true:=r.calm h
section
variable{X:Cx}{B:Bx}{a b e:Expr}{ta tb:EF}{pos:Pos}{x:Str}
def va(i)(g:X.N[i]?=some x:=by rfl)(f:Vis X.env.scope x:=by first|exact Or.inl rfl|exact Or.inr (Or.inl rfl)|exact Or.inr (Or.inr rfl))(d:Dbg x:=by decide)(c:(x=="__classdict__")=false:=by decide):PE X (.Name x pos) (lo B (WL.ai i)):=agO (pv i g f d c)
def wx(d:B.K=X.K)(f:PE X a (lo B ta))(c:PE X b (lo B tb))(hs:jc b:=by exact λ_ _=>rfl):PE X (.Subscript a b pos) (lo B (WL.eOp WL.oIx ta tb)):=agP abd (akb d.symm) f c hs
def wk{v u w}(g:B.K=X.K)(d:X.mg x=some u)(r:RelV v u)(hw:∀F,RW X.K F w v)(f:Gl X x:=by rfl)(c:Dbg x:=by decide):PE X (.Name x pos) (lo B (WL.eC w)):=aeG (tK f d r c) (by grind)
def wty{T}(f:X.mg x=none)(d:bootBuiltins x=some (.type T))(g:Gl X x:=by rfl)(h:x≠"__name__":=by decide)(c:Dbg x:=by decide):PE X (.Name x pos) (lo B (WL.eC (.ty T))):=aeG (akP g f d h c) λ_=>rfl
def wcl{nm:String}{C:Addr}(g:B.K=X.K)(f:X.mg x=some (.ref C))(d:ExcAt X.K nm C)(h:Gl X x:=by rfl)(c:Dbg x:=by decide):PE X (.Name x pos) (lo B (WL.eC (.cls nm))):=agS g.symm h f d c
def gx{i d a0 kvs}{ks vs:List VW}{p}(c:B.K=X.K)(g:X.mg x=some (.ref a0))(D:abo X.w X.K a0 kvs)(h:∀F k w,WL.mV k ks vs=some w->∃v,kvs.lookup k=some v/\RW X.K F w v)(j:PE X i (lo B d))(l:Gl X x:=by rfl)(hs:jc i:=by exact λ_ _=>rfl)(f:Dbg x:=by decide):PE X (.Subscript (.Name x p) i pos) (lo B (WL.eOp WL.oIx (WL.eC (.dic ks vs)) d)):=agR c.symm (tK l g rfl f) D j (by rw[c];exact h) hs
def we2(c:B.K=X.K)(d:X.A.units+64<cLine)(f:PE X a (lo B ta))(g:PE X b (lo B tb)):PT X (.Compare a [.Eq] [b] pos) (loT B (WL.tB (WL.eOp WL.oEq ta tb))):=cH calm_eq (w_eq c.symm d) f g (dv _)
def wn2(c:B.K=X.K)(d:X.A.units+64<cLine)(f:PE X a (lo B ta))(g:PE X b (lo B tb)):PT X (.Compare a [.NotEq] [b] pos) (loT B (WL.tB (WL.eOp WL.oNe ta tb))):=cH af3 (anb c.symm d) f g (dv _)
def wS(i){c}(j:X.N.Nodup)(d:PE X e (lo B ta))(g:X.N[i]?=some x:=by rfl)(f:Loc X.env.scope x:=by first|exact Or.inl rfl|exact Or.inr rfl)(hs:swapsWith e (some (.Name x c)) pos.line X.env=pure false:=by rfl)(h:FL X x:=by first|exact .inl rfl|exact .inr rfl|assumption):PS X (.Assign [.Name x c] e pos) (loS B (WL.gB i ta)):=agJ j g f d hs h
def gN(i){b}(g:X.N.Nodup:=by exact pO rfl)(f:X.N[i]?=some x:=by rfl)(c:Loc X.env.scope x:=by first|exact Or.inl rfl|exact Or.inr rfl)(d:FL X x:=by first|exact .inl rfl|exact .inr rfl|assumption):PG X (.Name x pos) (loG b B (WL.au i)):=aeF (i4 g f c d)
end
section
variable{X:Cx}{B:Bx}{r:List VW->Res VW}{tas:AF}{x:Str}{e:Expr}{es:List Expr}{p pos:Pos}{id:String}
def wB(cm:∀k c,r k≠.ex c)(i:bN X (.builtin id) (loN B.K r))(g:X.mg x=none)(f:bootBuiltins x=some (.builtin id))(j:PA X (e::es) (loA B tas))(h:Gl X x:=by rfl)(l:x≠"__name__":=by decide)(a:Dbg x:=by decide)(d:SE X e es:=by rfl)(b:BT X pos es:=by rfl):PE X (.Call (.Name x p) (e::es) [] pos) (lo B (WL.eBi r tas)):=agT cm (acb i h g f j l a d b)
def wT(cm:∀k c,r k≠.ex c)(i:bN X (.type id) (loN B.K r))(g:X.mg x=none)(f:bootBuiltins x=some (.type id))(j:PA X (e::es) (loA B tas))(h:Gl X x:=by rfl)(l:x≠"__name__":=by decide)(a:Dbg x:=by decide)(d:SE X e es:=by rfl)(b:BT X pos es:=by rfl):PE X (.Call (.Name x p) (e::es) [] pos) (lo B (WL.eBi r tas)):=agT cm (rh i h g f j l a d b)
def aj1(P:Program)(w:World)(K:W.Frag)(c:Str->Option Value)(a:Heap)(fI:Addr)(ps:List Str)(sp:Sp):Prop:=∃b:FuncData,FnOk P w K c a CX0 1 fI b ps sp/\Binds K b ps []
def rI{j C fI ps nm t c}(v:B.K=X.K)(f:Room j X.A)(n:XW X B)(u:X.calm=true)(i:X.mg x=some (.ref C))(q:sG X.K C (some (.ref fI)))(d:W.typeIn X.K (.ref fI)=some (.type "function"))(I:aj1 X.prog X.w X.K X.mg X.base fI ps (spI C (WL.fieldsOf nm)))(h:ExcAt X.K nm C)(k:PA X (e::es) (loA B tas))(m:2<=j:=by decide)(s:Gl X x:=by rfl)(l:(WL.fieldsOf nm).length<=50:=by decide)(g:Dbg x:=by decide)(o:SE X e es:=by rfl)(a:BT X c es:=by rfl):PS X (.Raise (some (.Call (.Name x t) (e::es) [] c)) none pos) (loS B (WL.l4 nm tas)):=by obtain⟨w,F,b⟩:=I;exact yi v.symm n u s i q d F (f.mono m) b h l k g o a
end
section
variable{K:W.Frag}
def ag9{a d n sl vs xs}(l:K.lookup a=some ⟨.type "tuple",d,.seq vs n,sl⟩)(b:Vals xs vs.toList)(c:vs.size<=sizeLine):∀H,SqT K H a xs:=λ_=>.inr ⟨_,_,_,l,rfl,rfl,c,b⟩
def aiq{f a st g od j d kV e h b ct}(l:K.lookup f=some ⟨g,od,.func (W.fnOf "__init__" a (bE st) (aP st) (af st) .none kV e h j b ct),d⟩)(c:W.codeIn K b a=true)(q:W.keepIn K (.ref f)=true):∃i,Fun K "__init__" a st f i:=⟨_,aax l c q⟩
def aap{P w i b f a st ps sp}(D:∃c,Fun K "__init__" a st f c)(k:∀kV e j l d ct g,g.length=ps.length->bindArgs (W.fnOf "__init__" a (bE st) (aP st) (af st) .none kV e j l d ct) ⟨g,[]⟩=pure (ps.zip g))(h:∀c,Fun K "__init__" a st f c->FnOk P w K i b CX0 1 f c ps sp):aj1 P w K i b f ps sp:=by obtain⟨c,F⟩:=D;exact⟨c,h _ F,F.binds k⟩
def ac1{nm a}(b:W.nsIn K mainGlobals (Str.ofString nm)=some (some (.ref a)))(c:W.typeIn K (.ref a)=some (.type "type"))(d:(W.clsIn K a).map (·.mro)=some (.ref a::gF))(e:W.findIn K (.ref a) "__getattribute__"=some (some (.builtin "BaseException.__getattribute__")))(f:W.findIn K (.ref a) "__getattr__"=some none)(g:W.findIn K (.ref a) "__class__"=some (some (.builtin "object.__class__"))):W.nsIn K mainGlobals (Str.ofString (nm,a).1)=some (some (.ref (nm,a).2))/\Exc1 K a (nm,a).2:=⟨b,c,.inl ⟨d,rfl⟩,e,f,g⟩
def afQ{nm a b}(h:W.nsIn K mainGlobals (Str.ofString nm)=some (some (.ref a)))(c:W.typeIn K (.ref a)=some (.type "type"))(d:(W.clsIn K a).map (·.mro)=some (.ref a::.ref b::gF))(e:W.findIn K (.ref a) "__getattribute__"=some (some (.builtin "BaseException.__getattribute__")))(f:W.findIn K (.ref a) "__getattr__"=some none)(g:W.findIn K (.ref a) "__class__"=some (some (.builtin "object.__class__"))):W.nsIn K mainGlobals (Str.ofString (nm,a).1)=some (some (.ref (nm,a).2))/\Exc1 K b (nm,a).2:=⟨h,c,.inr d,e,f,g⟩
end
def ah9{P w K d k q st n ps}(D:AtD K "law" st)(t:∀m v,W.nsIn K mainGlobals m=some (some v)->d m=some v)(l:d "law"=some (.ref n)){x}(A:∀kV i p r g ct v,bindArgs (W.fnOf "law" "law" (bE st) (aP st) (af st) .none kV i p r g ct) ⟨[v],[]⟩=pure [(x,v)])(h:∀b f c,Fun K "law" "law" st f c->FnOk P w K d b CX0 k f c ps (spW K 1 q))(y:∀o:List Int,o.length<=63->q [.lst (o.map .int)]=.ok (.bl true)):∃c,(∀s v,BindsTo s c ⟨[v],[]⟩ [(x,v)])/\∀b,K.In b->b.Ns mainGlobals d->FnOk P w K d b CX0 k n c ps (yZ K):=by refine dE D λf c F a=>?_;have e:=l.symm.trans (t _ _ a);cases e;refine⟨c,λs v=>?_,λb _ _=>ah8 (h _ _ _ F) y⟩;refine aep F.ex λB od kV i p r g ct z j C u=>?_;subst j;exact .of_eq (A _ _ _ _ _ _ v)
noncomputable def noL(K:W.Frag):Bool:=K.all λp=>match p.2.cls with|.type n=>n !="list"|_=>true
theorem ad5:∀{K:W.Frag},noL K=true->∀{a:Addr}{o:Obj},K.lookup a=some o->o.cls≠.type "list"
|[],_,a,o,e=>by simp at e|(b,u)::K,h,a,o,e=>by
 simp only[noL,aqi,an6]at h;rw[aon]at e;split at e;.cases e;intro z;have c:=h.1;rw[z]at c;simp at c
 .exact ad5 h.2 e
def SqL.here{K:W.Frag}{F:Hp}{a:Addr}{vs:List V}(h:noL K=true)(q:SqL K F a vs):Rd F a (.lst vs):=by
 rcases q with q|⟨o,b,n,c,d,_⟩;.exact q
 .exact absurd d (ad5 h c)
noncomputable def uni(G b:Hp):Hp:=λa=>match G a with|some o=>some o|none=>b a
def ake{G b:Hp}:ax G (uni G b):=λa o e=>by unfold uni;rw[e]
def akd{G b F:Hp}(h:ax G F)(h':ax b F):ax b (uni G b):=λa o e=>by unfold uni;cases c:G a with|none=>exact e|some u=>rw[<-h a u c,h' a o e]
def adD{G b:Hp}{a:Addr}{o:HO}(e:uni G b a=some o):G a=some o\/G a=none/\b a=some o:=by unfold uni at e;cases c:G a with|none=>rw[c]at e;exact .inr ⟨rfl,e⟩|some u=>rw[c]at e;exact .inl e
def agW{G b F:Hp}(h:ax G F)(h':ax b F):ax (uni G b) F:=λa o e=>by
 rcases adD e with e|⟨_,e⟩;.exact h a o e
 .exact h' a o e
noncomputable def one(a:Addr)(o:HO):Hp:=λb=>if b=a then some o else none
def ro{a b:Addr}{o u:HO}(e:one a o b=some u):b=a/\u=o:=by
 unfold one at e;split at e;.rename_i h;cases e;exact⟨h,rfl⟩
 .cases e
def one_le{a:Addr}{o:HO}{F:Hp}(h:F a=some o):ax (one a o) F:=λb u e=>by obtain⟨rfl,rfl⟩:=ro e;exact h
def vy{a:Addr}{o:HO}:one a o a=some o:=anL rfl
section
variable{X:Cx}{B:Bx}{σ:Ws}{σV:L2.St}{F H:Hp}
def RS.drop(R:RS B σ σV F H)(i:Nat)(x:Option V):RS B (σ.set i .no) (σV.set i x) F H:=by
 have b:∀{j:Nat}{sl:Sl},(σ.set i .no)[j]?=some sl->sl≠.no->i≠j/\σ[j]?=some sl:=λ{j sl}e p=>by
  by_cases c:i=j
  .subst c;have q:i<σ.length:=by have:=(anM.mp e).1;simpa using this
   rw[anH q]at e;cases e;exact absurd rfl p
  .rw[anF c]at e;exact⟨c,e⟩
 refine⟨R.rb,by simp[R.len],λj w e=>?_,λj ws e=>?_,λj k ws f a g d h l m=>?_,R.ago i (sl:=.no) (λz=>z) _ (ax.refl _) λ_ _ _ _ _ _ _ _ n r=>⟨r,n⟩⟩;.obtain⟨c,e⟩:=b e (by intro z;cases z);rw[anF c];exact R.va j w e
 .obtain⟨c,e⟩:=b e (by intro z;cases z);rw[anF c];exact R.ow j ws e
 .obtain⟨c,d⟩:=b d (by intro z;cases z);obtain⟨o,h⟩:=b h (by intro z;cases z);rw[anF c]at l;rw[anF o]at m;exact R.ap j k ws f a g d h l m
def RS.away(R:RS B σ σV F H){a:Addr}(o:HO)(i:F a=none)(x:B.H0 a=none)(q:∀(j:Nat)(ws:List VW),σ[j]?=some (Sl.ow ws)->σV[j]?≠some (some (V.ref a)))(g:∀(j:Nat)(d f:List VW),σ[j]?=some (Sl.od d f)->σV[j]?≠some (some (V.ref a))):RS B σ σV F (upd H a o):=by
 refine⟨⟨λb u e=>?_,λb u e=>?_,R.rb.fz0,R.rb.fr⟩,R.len,R.va,λj ws e=>?_,R.ap,R.dd.via rfl id (λ_ _ z=>.inl z) (λ_ _ _ e=>⟨e,rfl⟩) (ax.refl _) λj d f b y t s l w n=>⟨w,n,by
  have c:b≠a:=λz=>by subst z;exact g j d f t s
  rw[aj c];exact l⟩⟩
 .have c:b≠a:=λz=>by subst z;rw[i]at e;cases e
  rw[aj c];exact R.rb.sub b u e
 .have c:b≠a:=λz=>by subst z;rw[x]at e;cases e
  rw[aj c];exact R.rb.base b u e
 .obtain⟨b,p,h,k,v,m,r⟩:=R.ow j ws e;have c:b≠a:=λz=>by subst z;exact q j ws e h
  exact⟨b,p,h,k,v,by rw[aj c];exact m,r⟩
variable{i:Nat}{as:List VW}{s1 s2:SF}{st:Stmt}{sts rest:List Stmt}{tt:TF}{pos:Pos}
end
def Xq{b:Type}(r:Res b)(k:b->Prop):Prop:=match r with|.ok a=>k a|_=>False
theorem Xq.bind{d b:Type}{r:Res d}{g:d->Res b}{k:b->Prop}(h:Xq (r.bind g) k):Xq r λa=>Xq (g a) k:=by cases r with|ok a=>exact h|ex c=>exact h|bad=>exact h
def Xq.mono{b:Type}{r:Res b}{k k':b->Prop}(h:Xq r k)(f:∀a,k a->k' a):Xq r k':=by cases r with|ok a=>exact f a h|ex c=>exact h|bad=>exact h
def Xq.rq{B:Bx}{σ:Ws}{F:Hp}{b:Type}{r:Res b}{k:b->Prop}(h:Xq r k):Rq B σ F r k:=by cases r with|ok a=>exact h|ex c=>exact h.elim|bad=>exact h
section
variable{X:Cx}{B:Bx}{i n:Nat}{fn:FS}{xs:XA}{tas:AF}{e:Expr}{es:List Expr}{x:Str}{p pos pos':Pos}{ps:List Str}{ds:List Value}{j k:Nat}
def agu:∀(σ:Ws)(p:List VW×Ws),WL.bc σ=.ok p->p.1.length=0:=λσ p e=>by cases e;rfl
def aeo{t:XF}(h:∀(σ:Ws)(p:List VW×Ws),xs σ=.ok p->p.1.length=n):∀(σ:Ws)(p:List VW×Ws),WL.aF t xs σ=.ok p->p.1.length=n+1:=λσ p q=>by have q:((t σ).bind λp=>(xs p.2).bind λq=>Res.ok (p.1::q.1,q.2))=.ok p:=q;cases b:t σ with|bad=>rw[b]at q;cases q|ex c=>rw[b]at q;cases q|ok r=>rw[b]at q;have q:((xs r.2).bind λq=>Res.ok (r.1::q.1,q.2))=.ok p:=q;cases a:xs r.2 with|bad=>rw[a]at q;cases q|ex c=>rw[a]at q;cases q|ok r2=>rw[a]at q;cases q;simp[h r.2 r2 a]
end
def Oz(B:Bx)(z:Addr)(D:Ends)(F:Hp)(o:Out):Prop:=match o with|.nx σ'=>∀a c b,RS B σ' a b c->a[0]?=some (some (.ref z))->ax F b->D.nx a c|.bk σ'=>∀a c b,RS B σ' a b c->a[0]?=some (some (.ref z))->ax F b->D.bk a c|.ct σ'=>∀a c b,RS B σ' a b c->a[0]?=some (some (.ref z))->ax F b->D.ct a c|.rt w=>∃w1 st,w=.exc "" [w1,.lst st]/\∀v c b d,RB B b c->ax F b->RW B.K b w1 v->b z=none->c z=some (.lst d)->RWs B.K b st d->D.rt v c|.ex _ _=>False|.bad=>False
def Oz.mono{B:Bx}{z:Addr}{D:Ends}{F F':Hp}{o:Out}(s:ax F F')(h:Oz B z D F o):Oz B z D F' o:=by cases o with|nx σ=>exact λa H G R b w=>h a H G R b (s.trans w)|bk σ=>exact λa H G R b w=>h a H G R b (s.trans w)|ct σ=>exact λa H G R b w=>h a H G R b (s.trans w)|rt w=>obtain⟨w1,st,e,h⟩:=h;exact⟨w1,st,e,λv H G d R w=>h v H G d R (s.trans w)⟩|ex c σ=>exact h|bad=>exact h
section
variable{X:Cx}{B:Bx}{z:Addr}{e tg iter:Expr}{pos:Pos}{ta tb:EF}{tt:TF}{xa xn:XF}{g:GF}{b:SF}{st:Stmt}{sts rest:List Stmt}{s1 s2:SF}{i:Nat}{x:Str}
def zL{K:W.Frag}{F:Hp}{k:Int}{vs:List V}(r:RWs K F [.int k] vs):vs=[.int k]:=by simp only[RWs,RW]at r;obtain⟨v,t,rfl,rfl,rfl⟩:=r;rfl
def RS.tail{σ:Ws}{c:L2.St}{F H:Hp}(R:RS B σ c F H):RS B (σ.drop 1) (c.drop 1) F H:=by
 refine⟨R.rb,by simp[R.len],λi w e=>?_,λi ws e=>?_,λi j ws d a o f l h k=>?_,R.dd.via rfl (λi=>1+i) (λi j z=>.inl (by omega)) (λj q _ e=>by rw[aoJ]at e⊢;exact⟨e,rfl⟩) (ax.refl _) λ_ _ _ _ _ _ _ n m p=>⟨m,p,n⟩⟩;.rw[aoJ]at e⊢;exact R.va _ w e
 .rw[aoJ]at e⊢;exact R.ow _ ws e
 .rw[aoJ]at f l h k;exact R.ap _ _ ws d a (by omega) f l h k
variable{scope:Scope}{ts:List Str}{elt:Expr}
def gP(i:Nat)(f:X.N.Nodup:=by exact pO rfl)(d:X.N[i]?=some x:=by rfl)(a:Loc X.env.scope x:=by first|exact Or.inl rfl|exact Or.inr rfl)(c:FL X x:=by first|exact .inl rfl|exact .inr rfl|assumption):PG X (.Name x pos) (L2.au i):=i4 f d a c
end
section
variable{P:Program}{w:World}{K:W.Frag}{mg:Str->Option Value}{base:Heap}
noncomputable def nt(H:Hp)(a:Addr):Hp:=λb=>if b=a then none else H b
def fJ(H:Hp)(a:Addr):nt H a a=none:=anL rfl
def eP{H:Hp}{a b:Addr}(h:b≠a):nt H a b=H b:=anK h
end
noncomputable def rmK:List V->List (Key×V)|[a,b,c]=>[(.inr "left",a),(.inr "at",b),(.inr "cells",c)]|_=>[]
def ae7(vs):(rmK vs).length<=3:=by unfold rmK;split<;>simp
structure RR(B:Bx)(z:Addr)(j:Nat)(σ:Ws)(σV:L2.St)(F H:Hp):Prop where
 rs:RS B (σ.set j .no) σV F H
 zs:σV[j]?=some (some (.ref z))nf:F z=none
 n0:B.H0 z=none
 apd:∀(k:Nat)(ks us:List VW),(σ.set j .no)[k]?=some (.od ks us)->σV[k]?≠some (some (.ref z))rm:∃st vs,σ[j]?=some (.ow st)/\vs.length=3/\H z=some (.dK (rmK vs))/\RWs B.K F st vs
section
variable{B:Bx}{z:Addr}{j:Nat}{σ:Ws}{σV:L2.St}{F H F' H':Hp}
def zR{i j sl}(b:i≠j)(hs:¬IsO sl){k}{ks us:List VW}(q:((σ.set i sl).set j .no)[k]?=some (.od ks us)):i≠k/\(σ.set j .no)[k]?=some (.od ks us):=by
 rw[aoP _ _ b]at q;have a:i≠k:=λe=>by
  subst e;by_cases c:i<(σ.set j .no).length;.rw[anH c]at q;cases q;exact hs trivial
  .rw[apr (by grind)]at q;cases q
 rw[anF a]at q;exact⟨a,q⟩
def RR.grow(R:RR B z j σ σV F H)(g:Gr F H F' H')(d:RS B (σ.set j .no) σV F' H'):RR B z j σ σV F' H':=by refine jQ R.rm λst c e b a r=>?_;exact⟨d,R.zs,g.nf z _ a R.nf,R.n0,R.apd,st,c,e,b,g.h z _ a,r.keep g.f⟩
def RR.ext(R:RR B z j σ σV F H)(E:Ext F H F' H'):RR B z j σ σV F' H':=R.grow E.gr (E.rs B _ _ R.rs)
theorem RR.new(R:RR B z j σ σV F H){p}(a:H p=none)(o)(b:NF o:=by trivial):RR B z j σ σV (upd F p o) (upd H p o):=R.ext (Ext.new (R.rs.rb.sub.free a) a o b)
theorem RR.set(R:RR B z j σ σV F H){i w v}(a:i≠j)(hw:RW B.K F w v):RR B z j (σ.set i (.va w)) (σV.set i (some v)) F H:=by refine jQ R.rm λst g e c f r=>?_;exact⟨by rw[aoP _ _ a];exact R.rs.set hw,by rw[anF a];exact R.zs,R.nf,R.n0,λk h d q=>by obtain⟨b,q⟩:=zR (sl:=.va w) a (λz=>z) q;rw[anF b];exact R.apd k _ d q,st,g,by grind,c,f,r⟩
theorem RR.aji(R:RR B z j σ σV F H){i ws vs a}(c:i≠j)(f:F a=none)(o:B.H0 a=none)(g:H a=some (.lst vs))(hw:RWs B.K F ws vs)(h:∀(k:Nat)(b:List VW),(σ.set j .no)[k]?=some (.ow b)->σV[k]?≠some (some (.ref a))):RR B z j (σ.set i (.ow ws)) (σV.set i (some (.ref a))) F H:=by refine jQ R.rm λst b e n d r=>?_;exact⟨by rw[aoP _ _ c];exact R.rs.aji f o g hw λk b _ q=>h k b q,by rw[anF c];exact R.zs,R.nf,R.n0,λk m b q=>by obtain⟨l,q⟩:=zR (sl:=.ow ws) c (λz=>z) q;rw[anF l];exact R.apd k m b q,st,b,by grind,n,d,r⟩
def RR.own(R:RR B z j σ σV F H){i}{ws:List VW}(a:i≠j)(e:σ[i]?=some (.ow ws)):(σ.set j .no)[i]?=some (.ow ws):=by grind
def RR.apart(R:RR B z j σ σV F H)(k:Nat)(ws:List VW)(e:(σ.set j .no)[k]?=some (.ow ws)):σV[k]?≠some (some (.ref z)):=λq=>by refine jQ R.rm λst g _ _ d _=>?_;refine kR (R.rs.ow k _ e) λa f c _ _ b _=>?_;rw[q]at c;cases c;rw[d]at b;cases b
def RR.put(R:RR B z j σ σV F H){b a}(c:a.length=3)(r:RWs B.K F b a):RR B z j (σ.set j (.ow b)) σV F (upd H z (.dK (rmK a))):=by refine dE R.rm λst d e _=>?_;exact⟨by rw[apH];exact R.rs.away _ R.nf R.n0 R.apart R.apd,R.zs,R.nf,R.n0,by rw[apH];exact R.apd,_,_,anH (anM.mp e).1,c,aq,r⟩
def RR.hand(R:RR B z j σ σV F H){d c}(g:ax F F')(G:ax F' H')(keep:∀b o,b≠z->H b=some o->H' b=some o)(fr:∀b o,F' b=some o->F b=some o\/H b=none/\NF o)(r:F' z=none)(A:c.length=3)(E:H' z=some (.dK (rmK c)))(s:RWs B.K F' d c):RR B z j (σ.set j (.ow d)) σV F' H':=by
 refine dE R.rm λst K e _=>?_;have I:j<σ.length:=(anM.mp e).1;refine⟨?_,R.zs,r,R.n0,by rw[apH];exact R.apd,d,c,anH I,A,E,s⟩;rw[apH];refine⟨⟨G,λb o q=>keep b o (λw=>by subst w;rw[R.n0]at q;cases q) (R.rs.rb.base b o q),R.rs.rb.fz0.trans g,λb o q=>?_⟩,R.rs.len,λk w q=>?_,λk ws q=>?_,R.rs.ap,R.rs.dd.via rfl id (λ_ _ z=>.inl z) (λ_ _ _ e=>⟨e,rfl⟩) g λk x m b D q u f l J=>⟨?_,J,keep b _ (λw=>by subst w;exact R.apd k x m q u) f⟩⟩
 .rcases fr b o q with w|w;.exact R.rs.rb.fr b o w
  .exact .inr ⟨R.rs.rb.base.free w.1,w.2⟩
 .obtain⟨v,h,i⟩:=R.rs.va k w q;exact⟨v,h,i.keep g⟩
 .refine kR (R.rs.ow k ws q) λa m h i C p t=>?_;have y:a≠z:=λw=>by grind
  refine adt a m h ?_ C (keep a _ y p) (t.keep g);cases n:F' a with|none=>rfl|some o2=>
   rcases fr a o2 n with w|w;.rw[i]at w;cases w
   .rw[p]at w;cases w.1
 .cases n:F' b with|none=>rfl|some o2=>
   rcases fr b o2 n with w|w;.rw[l]at w;cases w
   .rw[f]at w;cases w.1
def aay{i}(a:i≠j):(WL.frz i σ).set j .no=WL.frz i (σ.set j .no):=by unfold WL.frz;rw[anF (anY a)];cases σ[i]? with|none=>rfl|some sl=>cases sl with|ow ws=>exact aoP _ _ a|od ks us=>exact aoP _ _ a|no=>rfl|ob=>rfl|va w=>rfl
def aiF{i}(a:i≠j):(WL.frz i σ)[j]?=σ[j]?:=by
 unfold WL.frz;split;.rw[anF a]
 .rw[anF a]
 .rfl
def aiE{i k:Nat}{ks us:List VW}(q:(WL.frz i σ)[k]?=some (.od ks us)):σ[k]?=some (.od ks us):=by
 unfold WL.frz at q;split at q
 .by_cases a:i=k
  .subst a;by_cases b:i<σ.length;.rw[anH b]at q;cases q
   .rw[apr (by grind)]at q;cases q
  .rwa[anF a]at q
 .by_cases a:i=k
  .subst a;by_cases b:i<σ.length;.rw[anH b]at q;cases q
   .rw[apr (by grind)]at q;cases q
  .rwa[anF a]at q
 .exact q
set_option tactic.hygienic true
theorem RR.frz(R:RR B z j σ σV F H){i}(f:i≠j):∃F',ax F F'/\RR B z j (WL.frz i σ) σV F' H:=by
 have d:(σ.set j .no)[i]?=σ[i]?:=anF (anY f);by_cases h:(∃ws,σ[i]?=some (.ow ws))\/∃b c,σ[i]?=some (.od b c)
 .refine je (R.rs.frz i) λt s p q=>?_;refine jQ R.rm λst n e x m r=>?_;refine⟨t,s,by rw[aay f];exact p,R.zs,?_,R.n0,λk b c q=>R.apd k b c (by rw[aay f]at q;exact aiE q),st,n,by rw[aiF f];exact e,x,m,r.keep s⟩;rcases q with⟨q,_⟩|⟨a,o,w,q,_,_,y,l,_,_⟩;.rw[q];exact R.nf
  .have u:z≠a:=λv=>by
    subst v;rcases h with⟨ws,g⟩|⟨b,c,g⟩;.exact R.apart i ws (d.trans g) l
    .exact R.apd i b c (d.trans g) l
   rw[q,aj u];exact R.nf
 .have:WL.frz i σ=σ:=by
   unfold WL.frz;split;.rename_i ws e;exact absurd (.inl ⟨ws,e⟩) h
   .rename_i b c e;exact absurd (.inr ⟨b,c,e⟩) h
   .rfl
  rw[this];exact⟨F,ax.refl _,R⟩
set_option tactic.hygienic false
theorem RR.ahead(R:RR B z j σ σV F H):RR B z (j+1) (.no::σ) (List.replicate 1 none++σV) F H:=by refine jQ R.rm λst c e a b r=>?_;exact⟨R.rs.ahead 1,R.zs,R.nf,R.n0,λk d f q=>by cases k with|zero=>cases q|succ k=>exact R.apd k _ _ q,st,c,e,a,b,r⟩
theorem RR.tail(R:RR B z (j+1) σ σV F H):RR B z j (σ.drop 1) (σV.drop 1) F H:=by
 refine jQ R.rm λst d e b c r=>?_;have h:=R.rs.tail;have a:(σ.set (j+1) .no).drop 1=(σ.drop 1).set j .no:=by simp
 rw[a]at h;refine⟨h,?_,R.nf,R.n0,λk f g q=>?_,st,d,?_,b,c,r⟩;.rw[aoJ,Nat.add_comm];exact R.zs
 .rw[<-a,aoJ]at q;rw[aoJ];exact R.apd _ _ _ q
 .rw[aoJ,Nat.add_comm];exact e
def RR.amq(R:RR B z j σ σV F H){st:List VW}{vs}(e:σ[j]?=some (.ow st))(M:vs.length=3)(P:H z=some (.dK (rmK vs)))(r:RWs B.K F st vs):RS B (σ.set j (.va (.dic WL.rks st))) σV (upd F z (.dK (rmK vs))) H:=by
 have C:j<σ.length:=(anM.mp e).1;have g:ax F (upd F z (.dK (rmK vs))):=az R.nf _;have p:σ.length=σV.length:=by have:=R.rs.len;rwa[ap0]at this
 have back:∀{i:Nat}{ws:List VW},(σ.set j (.va (.dic WL.rks st)))[i]?=some (.ow ws)->(σ.set j .no)[i]?=some (.ow ws):=λ{i ws}q=>by grind
 have d:∀{i:Nat}{sl:Sl},IsO sl->(σ.set j (.va (.dic WL.rks st)))[i]?=some sl->(σ.set j .no)[i]?=some sl:=λ{i sl}y q=>by
  by_cases f:j=i;.subst f;rw[anH C]at q;cases q;exact y.elim
  .rw[anF f]at q⊢;exact q
 refine⟨⟨λb o q=>?_,R.rs.rb.base,R.rs.rb.fz0.trans g,λb o q=>?_⟩,by rw[ap0];exact p,λi w q=>?_,λi ws q=>?_,λi k ws s a t E S=>R.rs.ap i k ws s a t (back E) (back S),R.rs.dd.via rfl id (λ_ _ z=>.inl z) (λk sl y q=>⟨d y q,rfl⟩) g λk A m b O q J n x Q=>⟨by rw[aj λw=>by subst w;exact R.apd k A m (d (sl:=.od A m) trivial q) J];exact x,Q,n⟩⟩
 .by_cases h:b=z;.subst h;rw[aq]at q;cases q;exact P
  .rw[aj h]at q;exact R.rs.rb.sub b o q
 .by_cases h:b=z;.subst h;rw[aq]at q;cases q;exact .inr ⟨R.n0,trivial⟩
  .rw[aj h]at q;exact R.rs.rb.fr b o q
 .by_cases f:j=i;.subst f;rw[anH C]at q;cases q;refine⟨.ref z,R.zs,?_⟩;match vs,M with|[a,b,c],_=>simp only[RW];exact xY z _ rfl (.inl aq) (by simp[WL.rks,RWs,RW,rmK,kV]) (r.keep g)
  .rw[anF f]at q;obtain⟨v,l,u⟩:=R.rs.va i w (by rw[anF f];exact q);exact⟨v,l,u.keep g⟩
 .have D:=back q;refine kR (R.rs.ow i ws D) λa m l u N G I=>?_;have K:a≠z:=λw=>by subst w;exact R.apart i ws D l
  exact adt a m l (by rw[aj K];exact u) N G (I.keep g)
def RR.back(R:RR B z j σ σV F H){st:List VW}{vs}(p:H z=some (.dK (rmK vs)))(f:RS B (σ.set j (.va (.dic WL.rks st))) σV F' H')(g:Gr (upd F z (.dK (rmK vs))) H F' H'):RR B z j σ σV (nt F' z) H'/\ax F (nt F' z)/\∀w v,WL.plain w=true->RW B.K F' w v->RW B.K (nt F' z) w v:=by
 have e:ax F (nt F' z):=λb o q=>by
  have c:b≠z:=λw=>by subst w;rw[R.nf]at q;cases q
  rw[eP c];exact g.f b o (by rw[aj c];exact q)
 have sub:ax (nt F' z) F':=λb o q=>by
  have c:b≠z:=λw=>by subst w;rw[fJ]at q;cases q
  rwa[eP c]at q
 have h:Gr F H (nt F' z) H':=⟨e,g.h,λa o i m=>by
  by_cases d:a=z;.subst d;exact fJ _ _
  .rw[eP d];exact g.nf a o i (by rw[aj d];exact m)⟩;refine⟨R.grow h (R.rs.grow h ⟨sub.trans f.rb.sub,f.rb.base,R.rs.rb.fz0.trans e,λb o q=>f.rb.fr b o (sub b o q)⟩),e,λw v k hw=>RW.less (λa n q=>?_) w v k hw⟩;have l:=g.f z _ aq;rcases q with(q|⟨o,q⟩)|q
 .have c:a≠z:=λw=>by grind
  exact .inl (.inl (by rw[eP c];exact q))
 .have c:a≠z:=λw=>by subst w;rw[l]at q;cases q
  exact .inl (.inr ⟨o,by rw[eP c];exact q⟩)
 .exact .inr q
end
def loY(B:Bx)(z:Addr)(j:Nat)(t:XF):TE:=λa H Q=>∃σ F,RR B z j σ a F H/\Xq (t σ) λp=>∀v c b,RR B z j p.2 a b c->ax F b->RW B.K b p.1 v->Q v c
def ad9(B:Bx)(z:Addr)(j:Nat)(t:XA):TA:=λa H Q=>∃σ F,RR B z j σ a F H/\Xq (t σ) λp=>∀d c b,RR B z j p.2 a b c->ax F b->RWs B.K b p.1 d->Q d c
section
variable{X:Cx}{B:Bx}{z:Addr}{j:Nat}{e a b:Expr}{es:List Expr}{pos:Pos}{ta:EF}{tt:TF}{xa xb:XF}{xs:XA}
def cF(h:PE X e (lo B ta)):PE X e (loY B z j (WL.yP j ta)):=PE.imp h λd H Q⟨σ,F,R,q⟩=>by have q:=Xq.bind q;exact⟨_,F,R.rs,(Xq.mono q λw c v i k f g r=>c v _ _ (R.grow g f) g.f r).rq⟩
def agd(h:PT X e (loT B tt)):PT X e (sW (loY B z j (WL.yT j tt))):=PT.imp h λc H Q⟨σ,F,R,q⟩=>by have q:=Xq.bind q;exact(cx _ F R.rs ((Xq.mono q λb d l i f g=>by obtain⟨k,e,h⟩:=d _ _ _ (R.grow g f) g.f (rfl);cases e;exact h).rq))
def ajh(h:PE X e (lo B ta)):PE X e (loY B z j (WL.yR j ta)):=PE.imp h λi H Q⟨σ,F,R,q⟩=>by
 refine jQ R.rm λst s e n f r=>?_;have q:Xq ((WL.rdS j σ _).bind _) _:=q;rw[e]at q;have q:=Xq.bind (show Xq ((ta _).bind _) _ from q);refine cx _ _ (R.amq e n f r) (Xq.mono q λw c v t p l g o=>?_).rq;refine aeq (R.back f l g) λR2 k m=>?_;by_cases d:WL.plain w=true;.rw[anL d]at c;exact c v _ _ R2 k (m w v d o)
 .rw[anK d]at c;exact(c).elim
def amk(h:PT X e (loT B tt)):PT X e (sW (loY B z j (WL.yRT j tt))):=PT.imp h λd H Q⟨σ,F,R,q⟩=>by refine jQ R.rm λst o e m c r=>?_;have q:Xq ((WL.rdS j σ _).bind _) _:=q;rw[e]at q;have q:=Xq.bind (show Xq ((tt _).bind _) _ from q);refine cx _ _ (R.amq e m c r) (Xq.mono q λb f p n l g=>?_).rq;refine aeq (R.back c l g) λR2 i _=>?_;obtain⟨k,e,h⟩:=f _ _ _ R2 i (rfl);cases e;exact h
def vG{r i}(f:∀x y H Q,lo2 B.K r x y H Q->i x y H Q):∀d H Q,loY B z j (WL.xOp r xa xb) d H Q->tOp i (loY B z j xa) (loY B z j xb) d H Q:=by intro d H Q⟨σ,F,R,q⟩;have q:=Xq.bind q;refine cx σ F R (Xq.mono q λp s D K t o k m=>cx p.2 t o (Xq.mono (Xq.bind s) λI g J G u R2 h C=>f _ _ _ _ (qt u p.1 _ R2.rs.rb.sub (m.keep h) C ?_)));cases e:r p.1 _ with|ok w=>rw[e]at g;exact λv A l E n=>g v l A (R2.ext E) ((k.trans h).trans E.same) n|ex c=>rw[e]at g;exact(g).elim|bad=>rw[e]at g;exact(g).elim
def kS{op r}(h:OpR X (binaryOp op) (lo2 B.K r))(d:PE X a (loY B z j xa))(c:PE X b (loY B z j xb)):PE X (.BinOp a op b pos) (loY B z j (WL.xOp r xa xb)):=PE.imp (ahA h d c) (vG λ_ _ _ _ q=>q)
def agz(c:B.K=X.K)(f:PE X a (loY B z j xa))(d:PE X b (loY B z j xb))(hs:jc b:=by exact λ_ _=>rfl):PE X (.Subscript a b pos) (loY B z j (WL.xOp WL.oIx xa xb)):=PE.imp (afk (akb c.symm) f d hs) (vG λ_ _ _ _ q=>q)
def agA{op r}(h:OpR X (compareOp op) (lo2 B.K r))(f:PE X a (loY B z j xa))(c:PE X b (loY B z j xb))(d:behindInMarks op b=false):PE X (.Compare a [op] [b] pos) (loY B z j (WL.xOp r xa xb)):=PE.imp (zA h f c d) (vG λ_ _ _ _ q=>q)
def agB{op r}(h:OpR X (compareOp op) (lo2 B.K r))(f:PE X a (loY B z j xa))(c:PE X b (loY B z j xb))(d:behindInMarks op b=false):PT X (.Compare a [op] [b] pos) (sW (loY B z j (WL.xOp r xa xb))):=PT.imp (zo h f c d) λg H Q q=>vG (λ_ _ _ _ q=>q) _ H _ q
def bO:PA X [] (ad9 B z j WL.bc):=PA.imp e7 λc H Q⟨σ,F,R,q⟩=>q _ H F R (ax.refl _) (rfl)
def aX(h:PE X e (loY B z j xa))(f:PA X es (ad9 B z j xs))(hs:SE X e es:=by rfl):PA X (e::es) (ad9 B z j (WL.aF xa xs)):=PA.imp (bL h f hs) λk H Q⟨σ,F,R,q⟩=>by have q:=Xq.bind q;exact cx σ F R (Xq.mono q λp m v w n l d g=>cx _ n l (Xq.mono (Xq.bind m) λu i r t s R2 c o=>i _ _ _ R2 (d.trans c) (.cons (g.keep c) o)))
def adq{r}(h:PA X es (ad9 B z j xs)):PE X (.Tuple es r pos) (loY B z j (WL.agI xs)):=PE.imp (adX h) λo H Q⟨σ,F,R,q⟩=>by
 have q:=Xq.bind q;refine⟨σ,F,R,Xq.mono q λp c k t s l n g=>?_⟩;by_cases f:p.1.length<=WL.lim;.rw[anL f]at c;refine⟨by rw[<-g.length];exact anQ f hE,λd i=>?_⟩;have m:=az (l.rs.rb.sub.free i) (.tup k);exact c _ _ _ (l.new i _) (n.trans m) (by exact jd d k rfl (SqT.of aq) (g.keep m))
 .rw[anK f]at c;exact(c).elim
def agy(h:PA X es (ad9 B z j xs)):PE X (.List es pos) (loY B z j (WL.aj8 xs)):=PE.imp (zz h) λo H Q⟨σ,F,R,q⟩=>by
 have q:=Xq.bind q;refine⟨σ,F,R,Xq.mono q λp c k s r l n g=>?_⟩;by_cases f:p.1.length<=WL.lim;.rw[anL f]at c;refine⟨by rw[<-g.length];exact anQ f hE,λd i=>?_⟩;have m:=az (l.rs.rb.sub.free i) (.lst k);exact c (.ref d) _ _ (l.new i _) (n.trans m) (by exact jd d k rfl (SqL.of aq) (g.keep m))
 .rw[anK f]at c;exact(c).elim
end
def spY(K:W.Frag)(n:Nat)(f:FS):Sp:=λi H Q _=>∃(F:Hp)(a:Addr)(h:List V)(st ws:List VW)(e:List V),i=.ref a::e/\ax F H/\F a=none/\h.length=3/\H a=some (.dK (rmK h))/\RWs K F st h/\RWs K F ws e/\ws.length=n/\Xq (f st ws) λp=>∀v g d c,ax F d->ax d g->(∀b o,b≠a->H b=some o->g b=some o)->(∀b o,d b=some o->F b=some o\/H b=none/\NF o)->d a=none->c.length=3->g a=some (.dK (rmK c))->RWs K d p.2 c->RW K d p.1 v->Q v g
section
variable{X:Cx}{B:Bx}{z:Addr}{i j n k m:Nat}{fn:FS}{xs:XA}{e:Expr}{es:List Expr}{x:Str}{p pos pos':Pos}{ps:List Str}{ds:List Value}
def acC(w:X.K=B.K){E}(G:∀σ p,xs σ=.ok p->p.1.length=n):∀a H Q,loY B z j (WL.bq fn j xs) a H Q->wR (spY X.K n fn) [] E (jj (jP j) (ad9 B z j xs)) a H Q:=by intro a H Q⟨σ,F,R,q⟩;refine dE R.rm λD _ Z _=>?_;unfold WL.bq at q;rw[Z]at q;refine⟨.ref z,R.zs,σ,F,R,?_⟩;cases b:xs σ with|ex c=>rw[b]at q;exact q|bad=>rw[b]at q;exact q|ok p=>rw[b]at q;intro y U P d M s;have q:Xq (match p.2[j]? with|some (.ow st)=>(match fn st p.1 with|.ok q=>.ok _|_=>.bad)|_=>.bad) _:=q;refine jQ d.rm λst T u J O C=>?_;rw[u]at q;have q:Xq (match fn st p.1 with|.ok q=>.ok _|_=>.bad) _:=q;show spY X.K n fn _ U Q E;rw[aom,w];refine⟨P,z,T,st,p.1,y,rfl,d.rs.rb.sub,d.nf,J,O,C,s,G σ p b,?_⟩;cases l:fn st p.1 with|ok r=>rw[l]at q;exact λv S I Y o N A fr t g f h K=>q v S I (d.hand o N A fr t g f h) (M.trans o) K|ex c=>rw[l]at q;exact(q).elim|bad=>rw[l]at q;exact(q).elim
def clY(u:B.K=X.K)(g:Room m X.A)(C:Cal X.prog X.w X.K X.mg X.base CX0 k x ps ds (spY X.K n fn))(t:PE X e (jP j))(h:PA X es (ad9 B z j xs))(r:k<=m:=by decide)(l:∀σ p,xs σ=.ok p->p.1.length=n:=by repeat first|exact agu|apply aeo)(s:Gl X x:=by rfl)(a:Dbg x:=by decide)(d:SE X e es:=by rfl)(c:BT X pos es:=by rfl):PE X (.Call (.Name x p) (e::es) [] pos) (loY B z j (WL.bq fn j xs)):=by refine kR C λf v G o q b _=>?_;exact PE.imp (pH G (g.mono r) s o q b .nil zC (bL t h d) a d c) (acC u.symm l)
end
def Ow(B:Bx)(z:Addr)(j:Nat)(D:Ends)(F:Hp)(o:Out):Prop:=match o with|.nx σ'=>∀a c b,RR B z j σ' a b c->ax F b->D.nx a c|.bk σ'=>∀a c b,RR B z j σ' a b c->ax F b->D.bk a c|.ct σ'=>∀a c b,RR B z j σ' a b c->ax F b->D.ct a c|.rt w=>∃w1 st,w=.exc "" [w1,.lst st]/\∀v c b d,RB B b c->ax F b->RW B.K b w1 v->b z=none->d.length=3->c z=some (.dK (rmK d))->RWs B.K b st d->D.rt v c|.ex _ _=>False|.bad=>False
def Ow.mono{B z j D F F' o}(s:ax F F')(h:Ow B z j D F o):Ow B z j D F' o:=by cases o with|nx σ=>exact λa H G R w=>h _ H G R (s.trans w)|bk σ=>exact λa H G R w=>h _ H G R (s.trans w)|ct σ=>exact λa H G R w=>h _ H G R (s.trans w)|rt w=>refine dE h λw1 st e h=>?_;exact cx w1 st e λv H G b R w=>h v H G _ R (s.trans w)|ex c σ=>exact h|bad=>exact h
theorem Ow.ofR{B z j D F σ b r}{f:b->Out}(h:Ow B z j D F (WL.ofR σ r f)):Xq r λa=>Ow B z j D F (f a):=by cases r with|ok a=>exact h|ex c=>exact h|bad=>exact h
theorem Ow.ofX{B z j D F b r}{f:b->Out}(h:Ow B z j D F (WL.ofX r f)):Xq r λa=>Ow B z j D F (f a):=by cases r with|ok a=>exact h|ex c=>exact h|bad=>exact h
def loW(B:Bx)(z:Addr)(j:Nat)(t:SF):TS:=λD a H=>∃σ F,RR B z j σ a F H/\Ow B z j D F (t σ)
section
variable{X:Cx}{B:Bx}{z:Addr}{j:Nat}{e tg iter:Expr}{pos:Pos}{tt:TF}{xa xn xc:XF}{b:SF}{st:Stmt}{sts rest:List Stmt}{s1 s2:SF}{i:Nat}{x:Str}
def gI:PSs X [] (loW B z j WL.sNx):=PSs.imp zq λD a H⟨σ,F,R,q⟩=>q _ H F R (ax.refl _)
def aC(h:PS X st (loW B z j s1))(f:PSs X rest (loW B z j s2)):PSs X (st::rest) (loW B z j (WL.aG s1 s2)):=PSs.imp (eZ h f) λD g H⟨σ,F,R,q⟩=>by refine cx σ F R ?_;have q:Ow B z j D F (match s1 σ with|.nx _=>s2 _|o=>o):=q;cases e:s1 σ with|nx σ'=>rw[e]at q;exact λa l d k s=>⟨_,d,k,Ow.mono s q⟩|bk σ'=>rw[e]at q;exact q|ct σ'=>rw[e]at q;exact q|rt w=>rw[e]at q;exact q|ex c σ'=>rw[e]at q;exact q|bad=>rw[e]at q;exact q
def bH(a:PS X st (loW B z j s1)):PSs X [st] (loW B z j s1):=ma a
def yS(i){a}(n:X.N.Nodup)(g:PE X e (loY B z j xa))(l:i≠j:=by decide)(k:X.N[i]?=some x:=by rfl)(h:Loc X.env.scope x:=by first|exact Or.inl rfl|exact Or.inr rfl)(hs:swapsWith e (some (.Name x a)) pos.line X.env=pure false:=by rfl)(d:FL X x:=by first|exact .inl rfl|exact .inr rfl|assumption):PS X (.Assign [.Name x a] e pos) (loW B z j (WL.aW i xa)):=PS.imp (md n k h g hs d) λD c H⟨σ,F,R,q⟩=>by have q:=Ow.ofX q;exact cx σ F R (Xq.mono q λp m v t o f s r=>m _ _ _ (f.set l r) s)
def ySO(i){l c}(w:X.N.Nodup)(n:PE X e (loL B l))(v:i≠j:=by decide)(t:X.N[i]?=some x:=by rfl)(o:Loc X.env.scope x:=by first|exact Or.inl rfl|exact Or.inr rfl)(hs:swapsWith e (some (.Name x c)) pos.line X.env=pure false:=by rfl)(k:FL X x:=by first|exact .inl rfl|exact .inr rfl|assumption):PS X (.Assign [.Name x c] e pos) (loW B z j (WL.zb j i l)):=PS.imp (md w t o n hs k) λD f H⟨σ,F,R,q⟩=>by have q:=Ow.ofX q;refine cx _ F R.rs (Xq.mono q λws s a A C y m g d u h r p=>?_).rq;exact s _ _ _ ((R.grow g m).aji v d u h r p) g.f
def oK{c a d}(t:PT X c (sW (loY B z j xa)))(m:PSs X a (loW B z j s1))(o:PSs X d (loW B z j s2)):PS X (.If c a d pos) (loW B z j (WL.pq xa s1 s2)):=PS.imp (ahq t m o) λD n H⟨σ,F,R,q⟩=>by have q:=Ow.ofX q;refine cx σ F R (Xq.mono q λp g v u h l s r=>?_);obtain⟨w,f⟩:=p;cases w with
|bl k=>refine⟨k,r,?_⟩;cases k with|true=>exact⟨f,h,l,Ow.mono s g⟩|false=>exact⟨f,h,l,Ow.mono s g⟩
|_=>exact(g).elim
def kD(l:PE X e (loY B z j xa)):PS X (.Return (some e) pos) (loW B z j (WL.i2 j xa)):=PS.imp (adS l) λD d H⟨σ,F,R,q⟩=>by have q:=Ow.ofX q;refine cx σ F R (Xq.mono q λp a v t o c s r=>?_);refine jQ c.rm λst u n m f g=>?_;unfold WL.rtS at a;rw[n]at a;refine dE a λw1 k e h=>?_;cases e;exact h v _ _ _ c.rs.rb s r c.nf m f g
def agC(h:PS X st (loW B z j s1))(d:i≠j:=by decide):PS X st (loW B z j (WL.x4 i s1)):=PS.imp h λD c H⟨σ,F,R,q⟩=>by obtain⟨a,s,f⟩:=R.frz d;exact⟨_,a,f,Ow.mono s q⟩
noncomputable def rkS:Nat->Option Str|0=>some "left"|1=>some "at"|2=>some "cells"|_=>none
def ae6{vs n f v}(g:vs.length=3)(d:rkS n=some f):putK (rmK vs) (.inr f) v=rmK (vs.set n v):=by match vs,g with|[a,b,c],_=>match n,d with|0,d=>cases d;rfl|1,d=>cases d;rfl|2,d=>cases d;rfl
def x9{o l a c n d}(t:X.A.units+64<cLine)(G:PE X o (jP j))(y:PE X a (loY B z j xa))(w:rkS n=some d)(A:PE X l (tC (.str d)):=by exact kK)(hs:swapsWith a (some (.Subscript o l pos)) c.line X.env=pure false:=by rfl):PS X (.Assign [.Subscript o l pos] a c) (loW B z j (WL.qU j n xa)):=PS.imp (tE (ao3 (Nat.add_le_add_left (by decide) _) t) G A y hs) λD f H⟨σ,F,R,q⟩=>by have q:=Ow.ofX q;refine⟨σ,F,R,Xq.mono q λp m v J u g s1 r=>?_⟩;refine jQ g.rm λst E I C s h=>?_;rw[I]at m;refine⟨_,g.zs,z,_,rfl,agc.k (k:=.inr d) s (ao3 (ae7 E) (by decide)),?_⟩;rw[ae6 C w];exact m f _ u (g.put (by grind) (RWs.set r n h)) s1
def aaz{σ I E R J xs D k}(h0:k≠j)(R1:RR B z j σ I E R)(wk:Walk B.K J xs E)(q:Ow B z j D E (WL.forL (WL.au k) b xs σ)):∃W:Nat->Nat->L2.St->Hp->Prop,(∃m,W 0 m I R)/\∀i m σ H,W i m σ H->J.stop i H/\D.nx σ H\/(J.go i H/\∃N,(∀d l,N d l->∃Q,Q<m/\W (i+1) Q d l)/\∀x l,J.yld i H x l->L2.au k x σ l λa G=>loW B z j b {D with nx:=N,ct:=N,bk:=D.nx} a G):=by
 refine⟨λi m f l=>m=xs.length-i/\i<=xs.length/\∃d p,RR B z j d f p l/\ax E p/\Ow B z j D p (WL.forL (WL.au k) b (xs.drop i) d),⟨xs.length,rfl,aoi _,σ,E,R1,ax.refl _,by rw[aqR];exact q⟩,?_⟩;rintro i m f l⟨rfl,a0,d,p,P,O,g⟩;by_cases u:i<xs.length;.have Y:xs.drop i=xs[i]::xs.drop (i+1):=aoU u;rw[Y]at g;obtain⟨go,U⟩:=wk.go i xs[i] (anJ u) p l O P.rs.rb.sub;refine .inr ⟨go,λa G=>∃s K,RR B z j s a K G/\ax E K/\Ow B z j D K (WL.forL (WL.au k) b (xs.drop (i+1)) s),λa G Z=>⟨xs.length-(i+1),by omega,rfl,u,Z⟩,λv G T=>?_⟩;refine fy (U v G T) λK t S=>?_;have g:Ow B z j D p (match b (d.set k (.va xs[i]))with|.nx a=>WL.forL (WL.au k) b (xs.drop (i+1)) a|.ct a=>WL.forL (WL.au k) b (xs.drop (i+1)) a|.bk a=>.nx a|o=>o):=g;refine cx (d.set k (.va xs[i])) K ((P.ext t).set h0 S) ?_;cases C:b (d.set k (.va xs[i]))with|nx a=>rw[C]at g;exact λn M y A r=>⟨a,y,A,(O.trans t.same).trans r,Ow.mono (t.same.trans r) g⟩|ct a=>rw[C]at g;exact λn M y A r=>⟨a,y,A,(O.trans t.same).trans r,Ow.mono (t.same.trans r) g⟩|bk a=>rw[C]at g;exact λn M y A r=>(show∀f l p,_ from g) n M y A (t.same.trans r)|rt w=>rw[C]at g;refine dE (show∃w1 st,w=.exc "" [w1,.lst st]/\_ from g) λw1 st ew h=>?_;exact cx w1 st ew λv4 M y us A r=>h v4 M y us A (t.same.trans r)|ex c a=>rw[C]at g;exact g|bad=>rw[C]at g;exact g
 .have ei:i=xs.length:=by omega
  subst ei;rw[apv]at g;exact .inl ⟨wk.stop p l O P.rs.rb.sub,(show∀f l p,_ from g) f l p P (ax.refl _)⟩
def ya{a d p f k}(v:PassesOwn (model X.prog X.w) X.A X.env X.xe)(G:X.calm=true)(E:Gl X "range")(t:X.mg "range"=none)(A:PE X a (loY B z j xn))(s:PG X tg (L2.au k))(C:PSs X d (loW B z j b))(I:k≠j:=by decide)(hs:starEach [a] X.env=[(false,eval a X.env)]:=by rfl)(h:starEach [a] X.env=(false,eval a X.env)::starEach [] X.env:=by rfl)(m:∀x,foldedSetIterable (.Call (.Name "range" p) [a] [] pos) X.env x=pure x:=by intro _;rfl):PS X (.For tg (.Call (.Name "range" p) [a] [] pos) d [] f) (loW B z j (WL.qW xn (WL.au k) b)):=PS.imp (adT v G (mf E t (aX A bO h) hs) s C m) λD u H⟨σ,F,R,q⟩=>by have q:=Ow.ofX q;refine cx σ F R ?_;show Xq ((xn σ).bind _) _;cases e:xn σ with|ex c=>rw[e]at q;exact q|bad=>rw[e]at q;exact q|ok r=>
 rw[e]at q
 obtain⟨w,l⟩:=r;intro J M K y s1 o;cases w with|int n=>
   have q:Ow B z j D F (if -2^62<=n/\n<2^62 then WL.forL (WL.au k) b (WL.rng 0 n.toNat) l else .bad):=q;by_cases g:-2^62<=n/\n<2^62;.rw[anL g]at q;exact⟨n,zL o,g.1,g.2,aaz I y k9 (Ow.mono s1 q)⟩
   .rw[anK g]at q;exact(show False from q).elim|_=>exact(q).elim
def abv{c k n}(M:PassesOwn (model X.prog X.w) X.A X.env X.xe)(O:PT X c (loT B tt))(N:PSs X k (loW B z j b)):PS X (.While c k [] pos) (loW B z j (WL.n4 n (WL.blk j tt) b)):=PS.imp (vn M O N) λD I H⟨σ,F,R,q⟩=>by refine⟨λm f C=>∃d u,RR B z j d f u C/\Ow B z j D u (WL.iL (WL.blk j tt) b m d),abp (n σ) σ F R q,?_⟩;rintro m f C⟨d,u,A,y⟩;cases m with|zero=>exact(show False from y).elim|succ m=>have y:=Ow.ofR y;refine cx _ u A.rs (Xq.mono y λx a Q G v r=>?_).rq;have v:=A.grow r v;cases x with|false=>dsimp only;rw[anK an5];exact a f Q G v r.f|true=>dsimp only;rw[anL rfl];refine⟨_,λE T J=>⟨m,ao0 m,J⟩,d,G,v,?_⟩;cases s:b d with|nx σ2=>rw[s]at a;exact λg t o p l=>⟨σ2,o,p,Ow.mono (r.f.trans l) a⟩|ct σ2=>rw[s]at a;exact λg t o p l=>⟨σ2,o,p,Ow.mono (r.f.trans l) a⟩|bk σ2=>rw[s]at a;exact λg t o p l=>a g t o p (r.f.trans l)|rt w=>rw[s]at a;refine dE a λw1 st S h=>?_;exact cx w1 st S λK t o P p l=>h K t o P p (r.f.trans l)|ex c σ2=>rw[s]at a;exact a|bad=>rw[s]at a;exact a
def ah7(B:Bx)(z:Addr)(j:Nat)(t:XF):TT:=sW (loY B z j t)
def agF:xX X [] (ah7 B z j WL.aez):=λa s σ H Q I⟨_,F,R,q⟩=>vr _ s σ H Q I (by obtain⟨k,e,h⟩:=q _ H F R (ax.refl _) (rfl);cases e;exact h)
def ai4{σ l o H H1 J}{xs all:List VW}{Q}(R1:RR B z j σ o H H1)(wk:Walk B.K J xs H)(hx:xs.length<=WL.lim)(hc:WL.iJ xc xa (.no::σ) xs=.ok (all,l))(fin:∀E h r,RR B z j (l.drop 1) o h r->ax H h->RWs B.K h all E->∀D,r D=none->Q (.ref D) (upd r D (.lst E))):sI J (L2.au 0) (ah7 B z (j+1) xc) (loY B z (j+1) xa) (List.replicate 1 none++o) H1 Q:=by
 refine⟨λi m E d r=>m=xs.length-i/\i<=xs.length/\E.length<=i/\d.drop 1=o/\∃g h k rest,RR B z (j+1) g d h r/\ax H h/\RWs B.K h k E/\WL.iJ xc xa g (xs.drop i)=.ok (rest,l)/\k++rest=all,⟨xs.length,rfl,aoi _,aoi _,rfl,.no::σ,H,[],all,R1.ahead,ax.refl _,by simp[RWs],by simpa using hc,rfl⟩,?_⟩;rintro i m E d r⟨rfl,hi,K,G,g,h,k,rest,M,I,O,a,n⟩;refine⟨ao3 (anQ K (anQ hi hx)) (by decide),?_⟩;by_cases C:i<xs.length
 .have hd:xs.drop i=xs[i]::xs.drop (i+1):=aoU C;rw[hd]at a;obtain⟨go,yl⟩:=wk.go i xs[i] (anJ C) h r I M.rs.rb.sub;refine .inr ⟨go,λA f T=>A.length<=i+1/\f.drop 1=o/\∃g h k rest,RR B z (j+1) g f h T/\ax H h/\RWs B.K h k A/\WL.iJ xc xa g (xs.drop (i+1))=.ok (rest,l)/\k++rest=all,λA f T⟨a1,a2⟩=>⟨xs.length-(i+1),by omega,rfl,C,a1,a2⟩,λv H2 hy=>?_⟩;refine fy (yl v H2 hy) λF2 Y r2=>?_;have s:(d.set 0 (some v)).drop 1=o:=by cases d with|nil=>exact G|cons y t=>exact G
  rw[WL.oD]at a;show ah7 B z (j+1) xc (d.set 0 (some v)) H2 _;refine cx (g.set 0 (.va xs[i])) F2 ((M.ext Y).set (Nat.succ_ne_zero j).symm r2) ?_;cases R:xc (g.set 0 (.va xs[i]))with|bad=>rw[R]at a;cases a|ex c=>rw[R]at a;cases a|ok p=>rw[R]at a;obtain⟨w,f⟩:=p;intro u T S R3 s3 r3;have P:ax h S:=Y.same.trans s3;cases w with
 |bl t=>simp only[RW]at r3;refine⟨t,r3,?_⟩;cases t with
  |true=>rw[anL rfl];have a:(xa f).bind _=.ok (rest,l):=a;refine cx f S R3 ?_;cases U:xa f with|bad=>rw[U]at a;cases a|ex c=>rw[U]at a;cases a|ok p=>rw[U]at a;intro u5 H5 F5 R5 s5 r5;have a:((WL.iJ xc xa p.2 (xs.drop (i+1))).bind λq=>Res.ok (p.1::q.1,q.2))=.ok (rest,l):=a;cases N:WL.iJ xc xa p.2 (xs.drop (i+1))with|bad=>rw[N]at a;cases a|ex c=>rw[N]at a;cases a|ok q2=>rw[N]at a;obtain⟨zs,a0⟩:=q2;cases a;have Z:ax h F5:=P.trans s5;exact⟨by rw[aoh,apo];omega,s,p.2,F5,k++[p.1],zs,R5,I.trans Z,(O.keep Z).app (.one r5),N,by rw[<-n];simp⟩
   |false=>rw[anK an5];have a:WL.iJ xc xa f (xs.drop (i+1))=.ok (rest,l):=a;exact⟨Nat.le_succ_of_le K,s,f,S,k,rest,R3,I.trans P,O.keep P,a,n⟩
 |_=>cases a
 .have ei:i=xs.length:=by omega
  subst ei;rw[apv]at a;have a:Res.ok (([]:List VW),g)=.ok (rest,l):=a;cases a;rw[aom]at n;subst n;exact .inl ⟨wk.stop h r I M.rs.rb.sub,λD hD=>fin E h r (by rw[<-G];exact M.tail) I O D hD⟩
variable{scope:Scope}{ts:List Str}{elt:Expr}{ifs:List Expr}
def acz{Q:V->Hp->Prop}{a H}(h:loY B z j (WL.abx xn xc xa) a H Q):yV 1 (gi (ad9 B z j (WL.aF xn WL.bc))) (L2.au 0) (ah7 B z (j+1) xc) (loY B z (j+1) xa) a H Q:=by refine dE h λσ F R q=>?_;have q:=Xq.bind q;refine cx σ F R ?_;show Xq ((xn σ).bind _) _;cases e:xn σ with|ex c=>rw[e]at q;exact q|bad=>rw[e]at q;exact q|ok r=>
  rw[e]at q;obtain⟨w,f⟩:=r
  intro C G E y s1 p;cases w with|int k=>
   have q:Xq (if -2^62<=k/\k<2^62/\k.toNat<=WL.lim then(WL.iJ xc xa (.no::f) (WL.rng 0 k.toNat)).bind _ else .bad) _:=q;by_cases d:-2^62<=k/\k<2^62/\k.toNat<=WL.lim;.rw[anL d]at q;refine⟨k,zL p,d.1,d.2.1,?_⟩;cases g:WL.iJ xc xa (.no::f) (WL.rng 0 k.toNat)with|ex c=>rw[g]at q;exact(show False from q).elim|bad=>rw[g]at q;exact(show False from q).elim|ok q2=>rw[g]at q;obtain⟨all,u⟩:=q2;exact ai4 y k9 (by simp only[WL.rng,an0,apm];exact d.2.2) g λo s A m t r D l=>by have n:=az (m.rs.rb.sub.free l) (.lst o);exact(show∀v A s,_ from q) (.ref D) _ _ (m.new l _) ((s1.trans t).trans n) (by simp only[RW];exact jd D o rfl (SqL.of aq) (r.keep n))
   .rw[anK d]at q;exact(show False from q).elim|_=>exact(show False from q).elim
end
section
variable{P:Program}{w:World}{K:W.Frag}{mg:Str->Option Value}{base:Heap}
theorem RR.start{N F H a us st ws vs}(s:ax F H)(A:F a=none)(C:us.length=3)(J:H a=some (.dK (rmK us)))(I:RWs K F st us)(r:RWs K F ws vs)(Q:ws.length+1<=N.length):RR ⟨K,nt H a,F,λ_ _ _=>False,λ_ _ _ _ _ h=>h⟩ a 0 (.ow st::(ws.map .va++List.replicate (N.length-1-ws.length) .no)) (L2.start N (.ref a::vs)) F H:=by
 have D:=r.length;have c:∀{i:Nat}{sl:Sl},(Sl.no::(ws.map Sl.va++List.replicate (N.length-1-ws.length) Sl.no))[i]?=some sl->sl≠.no->∃k u,i=k+1/\ws[k]?=some u/\sl=.va u:=λ{i sl}e n=>by cases i with|zero=>exact absurd (an3 e).symm n|succ i=>
   rw[api]at e;refine⟨i,?_⟩;by_cases m:i<ws.length;.rw[aow (by simpa using m),an7]at e;rw[anJ m]at e⊢;exact⟨_,rfl,rfl,(an3 e).symm⟩
   .rw[aos (by simp;omega)]at e;simp only[an0,aor]at e;split at e;.exact absurd (an3 e).symm n
    .cases e
 have no:∀{i:Nat}{sl:Sl},IsO sl->(Sl.no::(ws.map Sl.va++List.replicate (N.length-1-ws.length) Sl.no))[i]?=some sl->False:=λ{i sl}y e=>by refine gH (c e (by intro z;subst z;exact y)) λk u _ _ h=>?_;subst h;exact y
 refine⟨?_,by unfold L2.start;rfl,A,fJ H a,λk d us q=>(no (sl:=.od d us) trivial q).elim,st,us,rfl,C,J,I⟩;show RS _ (Sl.no::(ws.map Sl.va++List.replicate (N.length-1-ws.length) Sl.no)) _ F H;refine⟨⟨s,λb o e=>?_,ax.refl _,λb o h=>.inl h⟩,by simp[L2.start,D];omega,λi u e=>?_,λi M e=>?_,λi j M B b g f R _ _=>?_,⟨λi d us e=>(no (sl:=.od d us) trivial e).elim,λi j d us E O b g f _ _ _=>no (sl:=.od d us) trivial f,λi e=>(no (sl:=.ob) trivial e).elim⟩⟩
 .have e:nt H a b=some o:=e;by_cases t:b=a;.subst t;rw[fJ]at e;cases e
  .rwa[eP t]at e
 .refine gH (c e (by intro z;cases z)) λk x l ex h=>?_;subst l;cases h;obtain⟨v,p,G⟩:=r.get ex;refine⟨v,?_,G⟩;have m:k<vs.length:=(anM.mp p).1;unfold L2.start;rw[aow (by simp;omega),an7,api,p];rfl
 .refine gH (c e (by intro z;cases z)) λk x _ _ h=>?_;cases h
 .refine gH (c f (by intro z;cases z)) λk x _ _ h=>?_;cases h
set_option tactic.hygienic true
def mS{x g st f T N ps k m n Y}(t)(Fn:Fun K x g st f T)(S:FnScope N ps (af st))(hn:N.length=n)(hm:ps.length=m+1)(M:WL.ae4 n t=Y)(a0:ps.length<=N.length)(h:∀j A i s H E B z,B.K=K->Room k (A.deeper (envOfC g (af st) s.heap.objs.size f j))->PassesOwn (model P w) (A.deeper (envOfC g (af st) s.heap.objs.size f j)) (envOfC g (af st) s.heap.objs.size f j) (λ_ _=>False)->PSs (iI CX0 P w K mg base N g (af st) f j A i s H E).nox (aP st) (loW B z 0 t)):FnOk P w K mg base CX0 (k+1) f T ps (spY K m Y):=by subst hn M;refine Fn.ok S λvs H Q E⟨F,a,us,l,ws,G,e,_,_,_,_,_,r,U,_⟩=>by subst e;rw[hm,anV,<-r.length,U] λj A i s H vs Q E hr⟨F,a,us,l,ws,G,e,sm,Z,hu,hH,rs,r,U,d⟩=>?_;subst e;refine⟨_,h j A i s H E _ a rfl hr PassesOwn.never,_,F,RR.start sm Z hu hH rs r (by omega),?_⟩;have d:Xq (WL.agn _) _:=d;cases e:t (.ow l::(ws.map .va++List.replicate (N.length-1-ws.length) .no))with
|rt w1=>
  rw[e]at d;unfold WL.agn at d;split at d
  .rename_i nm w2 D ew;cases ew;by_cases q:nm=""
   .subst q;rw[anL rfl]at d;refine cx w2 D rfl λv R O u I s' rv p J C ru=>(show∀v R O u,_ from d) v R O u s' I.sub (λb o ne z=>I.base b o (show nt H a b=some o by rw[eP ne];exact z)) (λb o z=>?_) p J C ru rv;rcases I.fr b o z with y|y;.exact .inl y
    .refine .inr ⟨?_,y.2⟩;by_cases X:b=a;.subst X;rw[p]at z;cases z
     .have y1:nt H a b=none:=y.1;rwa[eP X]at y1
   .rw[anK q]at d;exact(show False from d).elim
  .exact(show False from d).elim|nx σ'=>rw[e]at d;exact(show False from d).elim|bk σ'=>rw[e]at d;exact(show False from d).elim|ct σ'=>rw[e]at d;exact(show False from d).elim|ex c σ'=>rw[e]at d;exact(show False from d).elim|bad=>rw[e]at d;exact(show False from d).elim
set_option tactic.hygienic false
end
set_option tactic.hygienic true
def Ow.ak3{B z j D F o}(h:Oq B D F (WL.aiT o)):Ow B z j D F o:=by cases o with|nx σ=>exact(h).elim|bk σ=>exact(h).elim|ct σ=>exact(h).elim|ex c σ=>exact(h).elim|bad=>exact(h).elim|rt w=>
  unfold WL.aiT at h;split at h
  .rename_i b w1 st e;cases e;unfold WL.rtE at h;by_cases a:b="";.subst a;exact cx w1 st rfl λv g f i d s r _ _ _ _=>h v _ _ d s r
   .rw[anK a]at h;exact(h).elim
  .exact(h).elim
set_option tactic.hygienic false
theorem pW{K F F'}:∀{ws:List VW}{vs},WL.gh ws=true->RWs K F ws vs->RWs K F' ws vs|[],_,_,h=>by assumption|.int i::ws,_,hi,h=>by obtain⟨v,r,e,q,t⟩:=h;exact⟨v,r,e,by simpa only[RW]using q,pW (by assumption) t⟩|.non::_,_,hi,_=>by simp[WL.gh]at hi|.bl _::_,_,hi,_=>by simp[WL.gh]at hi|.str _::_,_,hi,_=>by simp[WL.gh]at hi|.ty _::_,_,hi,_=>by simp[WL.gh]at hi|.tup _::_,_,hi,_=>by simp[WL.gh]at hi|.lst _::_,_,hi,_=>by simp[WL.gh]at hi|.dic _ _::_,_,hi,_=>by simp[WL.gh]at hi|.cls _::_,_,hi,_=>by simp[WL.gh]at hi|.exc _ _::_,_,hi,_=>by simp[WL.gh]at hi|.ins _ _::_,_,hi,_=>by simp[WL.gh]at hi
def af9{ws:List VW}(h:WL.aem ws=true):∃a,ws=[.lst a]/\WL.gh a=true:=by
 unfold WL.aem at h;split at h;.exact⟨_,rfl,h⟩
 .cases h
set_option tactic.hygienic true
def afX{r:Res VW}{st:List VW}(h:WL.aej r=some st):∃l k d,r=.ok (.dic WL.rks [.int l,.int k,.lst d])/\st=[.int l,.int k,.lst d]/\WL.gh d=true:=by
 unfold WL.aej at h;split at h
 .rename_i a b c l k d;by_cases e:a="left"/\b="at"/\c="cells"/\WL.gh d=true;.rw[anL e]at h;obtain⟨rfl,rfl,rfl,f⟩:=e;cases h;exact aex l k d rfl rfl f
  .rw[anK e]at h;cases h
 .cases h
set_option tactic.hygienic false
def aah{k x}(h:kV k=.str x):k=.inr x:=by cases k with|inl i=>cases i<;>cases h|inr y=>cases h;rfl
def abX{K F l k}{c:List VW}{kvs}(b:RWs K F WL.rks (kvs.map λp=>kV p.1))(a:RWs K F [.int l,.int k,.lst c] (kvs.map λp=>p.2)):∃d,kvs=rmK [.int l,.int k,d]/\RW K F (.lst c) d:=by
 have j:kvs.length=3:=by have:=a.length;simpa using this.symm
 match kvs,j with|[(k1,v1),(k2,v2),(k3,v3)],_=>simp only[WL.rks,RWs,RW,aoa,List.map_nil,aqN]at b;obtain⟨_,_,⟨rfl,rfl⟩,h,_,_,⟨rfl,rfl⟩,n,_,_,⟨rfl,rfl⟩,f,_⟩:=b;cases aah h;cases aah n;cases aah f;refine gH a λ_ _ e g a=>?_;cases e;unfold RWs at a;refine gH a λ_ _ e m a=>?_;cases e;refine gH a λ_ _ e i _=>?_;cases e;subst g m;exact⟨v3,rfl,i⟩
section
variable{X:Cx}{B:Bx}{m k:Nat}{ps:List Str}{ds:List Value}{fn:List VW->Res VW}{x y:Str}{p pos pos' apos:Pos}{e:Expr}{es:List Expr}{tas:AF}{j:Nat}{rest:List Stmt}{s:SF}
def aes(hB:B.K=X.K)(hr:Room m X.A)(C:Cal X.prog X.w X.K X.mg X.base CX0 k x ps ds (spW X.K 1 fn))(hN:X.N.Nodup)(hi:X.N[j]?=some y)(hy:Loc X.env.scope y)(ha:PA X (e::es) (loA B tas))(hrest:∀z,PSs X rest (loW B z j s))(hk:k<=m:=by decide)(hg:Gl X x:=by rfl)(a4:Dbg x:=by decide)(he:SE X e es:=by rfl)(a6:BT X pos es:=by rfl)(hs:swapsWith (.Call (.Name x p) (e::es) [] pos) (some (.Name y pos')) apos.line X.env=pure false:=by rfl)(hf:X.fn y=true\/X.env.scope.names.lookup y=some .local:=by first|exact .inl rfl|exact .inr rfl|assumption):PSs X (.Assign [.Name y pos'] (.Call (.Name x p) (e::es) [] pos) apos::rest) (loS B (WL.ae2 j fn tas s)):=by
 refine kR C λf fd G hm hq b _=>?_;have E:PSs X rest λD A H=>∃z,loW B z j s D A H:=λZ s σ H D I⟨z,q⟩=>hrest z Z s σ H D I q;intro K s0 A H D I⟨σ,F,R,q⟩;refine eZ (md hN hi hy (pH G (hr.mono hk) hg hm hq b .nil zC ha a4 he a6) hs hf) E K s0 A H D I ?_;have S:j<A.length:=by rw[I.len];exact(anM.mp hi).1
 have q:Oq B D F (WL.ofX (tas σ) λws=>if WL.aem ws=true then WL.abY j s σ (WL.aej (fn ws))else .bad):=q;refine cx σ F R ?_;cases ea:tas σ with|bad=>rw[ea]at q;exact(show False from q).elim|ex c=>rw[ea]at q;exact(show False from q).elim|ok ws=>
 rw[ea]at q;intro vs H1 i t g1 r1;rw[aom,<-hB];have q:Oq B D F (if WL.aem ws=true then WL.abY j s σ (WL.aej (fn ws))else .bad):=q;by_cases M:WL.aem ws=true
 .rw[anL M]at q;refine fy (af9 M) λxs n hx=>?_;subst n;obtain⟨a,u,rfl,sq,ru⟩:∃a u,vs=[V.ref a]/\SqL B.K i a u/\RWs B.K i xs u:=by simp only[RWs,RW]at r1;obtain⟨v,r,rfl,⟨a,u,rfl,h1,h2⟩,rfl⟩:=r1;exact⟨a,u,rfl,h1,h2⟩
  obtain⟨N,sa,a1,nd,a7⟩:∃N:Hp,ax N i/\SqL B.K N a u/\(∀b g,N b≠some (.dK g))/\∀b o g,N b≠some (.frz o (.dK g)):=by
   rcases sq with(h|⟨o,h⟩)|h;.exact⟨one a (.lst u),one_le h,.inl (.inl vy),(λb g z=>by obtain⟨_,e⟩:=ro z;cases e),λb o g z=>by obtain⟨_,e⟩:=ro z;cases e⟩
   .exact⟨one a (.frz o (.lst u)),one_le h,.inl (.inr ⟨o,vy⟩),(λb g z=>by obtain⟨_,e⟩:=ro z;cases e),λb o g z=>by obtain⟨_,e⟩:=ro z;cases e⟩
   .exact⟨λ_=>none,(λb o z=>nomatch z),.inr h,(λb g z=>nomatch z),λb o g z=>nomatch z⟩
  refine xY N [.lst xs] (sa.trans t.rb.sub) (.one (by simp only[RW];exact⟨a,u,rfl,a1,pW hx ru⟩)) rfl ?_;cases ed:WL.aej (fn [.lst xs])with|none=>rw[ed]at q;exact(show False from q).elim|some st=>
  rw[ed]at q;refine wu (afX ed) λl kk cs ef n a8=>?_;subst n;rw[ef];intro v H2 Fr t1 t2 t3 fr r2;unfold RW at r2;obtain⟨d,g,rfl,O,rk,rv⟩:=r2;refine fy (abX rk rv) λvc n hc=>?_;subst n;have O:Fr d=some (.dK (rmK [.int l,.int kk,vc])):=by
   rcases O with h|⟨o,h⟩;.exact h
   .rcases fr d _ h with z|z;.exact(a7 d _ _ z).elim
    .exact z.2.elim
  have hd1:H1 d=none:=by
   rcases fr d _ O with z|z;.exact(nd d _ z).elim
   .exact z.1
  have P:i d=none:=t.rb.sub.free hd1;have U:ax i H2:=t.rb.sub.trans t3;have Q:ax (nt (uni i Fr) d) (uni i Fr):=λb o z=>by
   have T:b≠d:=λw=>by subst w;rw[fJ]at z;cases z
   rwa[eP T]at z
  have u1:ax i (nt (uni i Fr) d):=λb o z=>by
   have T:b≠d:=λw=>by subst w;rw[P]at z;cases z
   rw[eP T];exact ake b o z
  have u2:∀b o,b≠d->Fr b=some o->nt (uni i Fr) d b=some o:=λb o T z=>by rw[eP T];exact akd U t2 b o z
  have Y:∀b o,nt (uni i Fr) d b=some o->i b=some o\/H1 b=none/\NF o:=λb o z=>by
   rcases adD (Q b o z)with y|⟨_,y⟩;.exact .inl y
   .rcases fr b o y with y|y;.exact .inl (sa b o y)
    .exact .inr y
  have g2:Gr i H1 (nt (uni i Fr) d) H2:=⟨u1,t3,λb o eh a5=>by cases e2:nt (uni i Fr) d b with|none=>rfl|some o2=>
    rcases Y b o2 e2 with z|z;.rw[a5]at z;cases z
    .rw[eh]at z;cases z.1⟩;have rb:RB B (nt (uni i Fr) d) H2:=⟨Q.trans (agW U t2),t.rb.base.trans t3,t.rb.fz0.trans u1,λb o z=>by
   rcases Y b o z with y|y;.exact t.rb.fr b o y
   .exact .inr ⟨t.rb.base.free y.1,y.2⟩⟩;have R2:=t.grow g2 rb;have J:j<σ.length:=by rw[t.len];exact S
  have rc:RW B.K (nt (uni i Fr) d) (.lst cs) vc:=by
   unfold RW at hc⊢;refine gH hc λc ys n sc a3=>?_;subst n;refine⟨c,ys,rfl,?_,pW a8 a3⟩;rcases sc with(h|⟨o,h⟩)|h;.exact .inl (.inl (u2 c _ (λw=>by subst w;rw[O]at h;cases h) h))
   .exact .inl (.inr ⟨o,u2 c _ (λw=>by subst w;rw[O]at h;cases h) h⟩)
   .exact .inr h
  refine⟨d,σ.set j (.ow [.int l,.int kk,.lst cs]),nt (uni i Fr) d,⟨by rw[apH];exact R2.drop j (some (.ref d)),anH S,fJ _ _,t.rb.base.free hd1,λk ks u z e=>?_,_,[.int l,.int kk,vc],anH J,rfl,t2 d _ O,.cons (by simp[RW]) (.cons (by simp[RW]) (.one rc))⟩,Ow.ak3 (Oq.mono (g1.f.trans u1) q)⟩;rw[apH]at z;have a0:j≠k:=λw=>by subst w;rw[anH J]at z;cases z
  rw[anF a0]at z e;refine kR (t.dd.od k ks u z) λa2 a9 h1 _ _ h4 _=>?_;rw[h1]at e;cases e;rw[hd1]at h4;cases h4
 .rw[anK M]at q;exact(show False from q).elim
end
end WS
namespace L2
open PySem PySem.Spec PyProof.Rows PySem.Builtin
end L2
namespace WS
open PySem PySem.Spec PyProof.Rows L2
open WL(Res Sl Ws EF TF AF LF GF GsF SF Out XF XA FS Fs KO KF OX RF Sr)
section
variable{X:Cx}{B:Bx}{z:Addr}{j:Nat}{tg:Expr}{pos:Pos}{xa xn xc:XF}{scope:Scope}{ts:List Str}{elt:Expr}{ifs:List Expr}
def aer{i a y p l d e}(A:X.N.Nodup)(g:X.N[i]?=some y)(M:X.env.scope.names.lookup y=some .local)(k:swapsWith (.ListComp elt [⟨tg,.Call (.Name "range" p) [a] [] d,ifs,0⟩] scope pos) (some (.Name y l)) e.line X.env=pure true)(L:CompLook X scope)(P:X.calm=true)(I:ts.length=1)(O:Gl X "range")(t:X.mg "range"=none)(G:PE X a (loY B z j xn))(w:∀C c b f,PG (X.comp scope C ts c b f) tg (L2.au 0))(N:∀C c b f,xX (X.comp scope C ts c b f) ifs (ah7 B z (j+1) xc))(J:∀C c b f,PE (X.comp scope C ts c b f) elt (loY B z (j+1) xa))(Q:i≠j:=by decide)(hs:starEach [a] X.env=[(false,eval a X.env)]:=by rfl)(h:starEach [a] X.env=(false,eval a X.env)::starEach [] X.env:=by rfl)(m:∀x,foldedSetIterable (.Call (.Name "range" p) [a] [] d) X.env x=pure x:=by intro _;rfl):PS X (.Assign [.Name y l] (.ListComp elt [⟨tg,.Call (.Name "range" p) [a] [] d,ifs,0⟩] scope pos) e) (loW B z j (WL.qT i xn xc xa)):=by refine PS.imp (gY A g M k L P (mf O t (aX G bO h) hs) w N J m) λD u H⟨σ,F,R,q⟩=>?_;have q:=Ow.ofX q;rw[I];exact acz (cx σ F R (Xq.mono q λr s v S n E o K=>s _ _ n (E.set Q K) o))
end
end WS
namespace WS
open PySem PySem.Spec PyProof.Rows L2 PySem.Builtin PySem.Builtin.Str
open WL(Res Sl Ws EF TF AF LF GF GsF SF Out XF XA FS Fs KO KF OX RF Sr)
end WS
namespace L2
open PySem PySem.Spec PyProof.Rows
noncomputable def ajZ(lo:Int)(n:Nat):It:=⟨λi _=>i<n,λi H x a=>a=H/\x=.int (lo+(i:Nat)*2),λi _=>n<=i⟩
def sV{P:Program}{w:World}{K:W.Frag}{tg:Expr}(it:Addr)(lo:Int)(n:Nat):Turn P w K tg (ajZ lo n) [it] it λi h=>IsRangeIter h it (lo+(i:Nat)*2) ((n:Int)-(i:Nat)) 2 where
 mem:=by simp
 obj:=λi h st b hb=>by
  have e:b=it:=by simpa using hb
  subst e;exact⟨_,st,λv z=>by have z':Data.fields _=Data.cell v:=z;cases z'⟩
 keep:=λi h h' st k=>k it (by simp) _ st;item:=by intro X hP hw hK i pins s σ H E hc I hf st hg;subst hP hw hK;obtain⟨f0,f1,f2,f3,f4,f5⟩:=hf it (by simp);have W:=Walks.range (prog:=X.prog) (w:=X.w) (I.ok.hd hc) it lo 2 n;refine W.item i s _ _ hg st λv h' tk hv st' kk=>?_;obtain⟨t,rfl⟩:=hv;have I1:Inv X pins σ H {s with heap:=h',toks:=tk}:=I.turned (λb o hb e=>kk b o (by simpa using hb) e) f0 f1 f3 f4 f5;exact⟨_,rfl,acT (s:={s with heap:=h',toks:=tk}) (n:="range_iterator") st' rfl rfl (by decide) ⟨.int (lo+i*2),H,I1,⟨t,rfl⟩,⟨rfl,rfl⟩,st',λb hb=>(hf b hb).1⟩⟩
 done:=by intro X hP hw hK i pins s σ H E hc I hf st hg;subst hP hw hK;obtain⟨f0,f1,f2,f3,f4,f5⟩:=hf it (by simp);exact wpAny_pyNext_range_end (I.ok.hd hc) st (by have:n<=i:=hg;omega) λh' eb=>⟨rfl,I.turned (t':=s.toks) (λb o hb e=>eb b o hb e) f0 f1 f3 f4 f5⟩
 self:=λ_ _ _ _ _ st h=>wpAny_pyIter_rangeiter st h
def js(a b):Builtin.Range.rangeSize a b 2=((b-a+1)/2).toNat:=by unfold Builtin.Range.rangeSize;split<;>omega
def y0{a b}(f:-2^60<=a)(d:a<2^60)(e:-2^60<=b)(c:b<2^60):Builtin.Range.small a b 2=true:=by unfold Builtin.Range.small;rw[js];simp only[Builtin.Range.rangeFitsLong,an6,ap4,aog,show(2:Int)>0 by decide,apk];omega
section
variable{X:Cx}{tg:Expr}
def zg{pins}{σ:St}{H s R E lo a t u v tk}(I:Inv X pins σ H s)(h:-2^60<=lo)(d:lo<2^60)(j:-2^60<=a)(g:a<2^60)(q:R (ajZ lo ((a-lo+1)/2).toNat) H):wpAny (model X.prog X.w) X.A (pyIter (.ref s.heap.objs.size)) (PIE X pins σ tg R) E {s with heap:=s.heap.push {cls:=.type "range",data:=.fields #[.int lo t,.int a u,.int 2 v]},toks:=tk}:=by
 refine wpAny_pyIter_range (IsRange.new ..) (y0 h d j g) ?_;have c:Inv X pins σ H {s with heap:=s.heap.push {cls:=.type "range",data:=.fields #[.int lo t,.int a u,.int 2 v]},toks:=tk}:=I.kept λb o e=>anG _ e;refine⟨_,_,_,_,H,rfl,c.kept (t':=tk) λb o e=>anG _ e,sV _ lo ((a-lo+1)/2).toNat,?_,λb i=>?_,q⟩
 .have f:lo+((0:Nat):Int)*2=lo:=by simp
  have k:((((a-lo+1)/2).toNat:Nat):Int)-((0:Nat):Int)=Builtin.Range.rangeSize lo a 2:=by rw[js];simp
  rw[f,k];exact anT _ rfl
 .have e:b=(s.heap.push {cls:=.type "range",data:=.fields #[.int lo t,.int a u,.int 2 v]}).objs.size:=by simpa using i
  subst e;exact c.aiH (anP _) (c.hok.fresh (anP _))
def aar(ta:TA):TI:=λσ H R=>ta σ H λb a=>∃i j:Int,b=[.int i,.int j,.int 2]/\(-2^60<=i/\i<2^60/\-2^60<=j/\j<2^60)/\R (ajZ i ((j-i+1)/2).toNat) a
def zw{a b c ta p pos}(w:Gl X "range")(o:X.mg "range"=none)(u:PA X [a,b,c] ta)(hs:starEach [a,b,c] X.env=[(false,eval a X.env),(false,eval b X.env),(false,eval c X.env)]:=by rfl)(g:starEach [b,c] X.env=[(false,eval b X.env),(false,eval c X.env)]:=by rfl):PI X tg (.Call (.Name "range" p) [a,b,c] [] pos) (aar ta):=by intro k s σ H R I h;refine Call_ (jB I w o aqS (aoq (thn (u _ _ s σ H _ I h) λC z d=>?_) (by grind) (by rw[g];rfl)));obtain⟨A,D,y,m,f⟩:=d;obtain⟨i,j,e,⟨f,x,v,l⟩,q⟩:=f;subst e;cases m with|cons r rr=>cases rr with|cons r' rr=>cases rr with|cons r'' rr=>cases rr;obtain⟨t,rfl⟩:=r;obtain⟨B,rfl⟩:=r';obtain⟨n,rfl⟩:=r'';exact call_range_3 (by decide) (zg y f x v l q) (Or.inl (PyProof.noPylong_small (by omega)))
end
end L2
namespace WS
open PySem PySem.Spec PyProof.Rows L2 PySem.Builtin PySem.Builtin.Str
open WL(Res Sl Ws EF TF AF LF GF GsF SF Out XF XA FS Fs KO KF OX RF Sr)
section
variable{X:Cx}{B:Bx}{K:W.Frag}{tg:Expr}{ta tb:EF}
def yx{lo n F}:Walk K (ajZ lo n) (WL.abZ lo 2 n) F:=by
 refine⟨λi x e b g d h=>?_,λb g d h=>by show n<=(WL.abZ _ 2 n).length;simp[WL.abZ]⟩;have c:=by have:=(anM.mp e).1;simpa[WL.abZ]using this
 simp [WL.abZ,aoL c]at e;cases e;refine⟨c,λu k a=>?_⟩;obtain⟨f,j⟩:=a;subst f j;exact⟨b,Ext.refl _ _,rfl⟩
def aeD{a c b p pos d}(G:Gl X "range")(o:X.mg "range"=none)(h:PE X a (lo B ta))(h':PE X c (lo B tb))(hs:starEach [a,c,.Constant (.int 2) b d] X.env=[(false,eval a X.env),(false,eval c X.env),(false,eval (.Constant (.int 2) b d) X.env)]:=by rfl)(l:starEach [c,.Constant (.int 2) b d] X.env=[(false,eval c X.env),(false,eval (.Constant (.int 2) b d) X.env)]:=by rfl)(s:starEach [a,c,.Constant (.int 2) b d] X.env=(false,eval a X.env)::starEach [c,.Constant (.int 2) b d] X.env:=by rfl)(z:starEach [c,.Constant (.int 2) b d] X.env=(false,eval c X.env)::starEach [.Constant (.int 2) b d] X.env:=by rfl)(w:starEach [.Constant (.int 2) b d] X.env=(false,eval (.Constant (.int 2) b d) X.env)::starEach [] X.env:=by rfl):PI X tg (.Call (.Name "range" p) [a,c,.Constant (.int 2) b d] [] pos) (loI B (WL.aar ta tb)):=PI.imp (zw G o (bL h (bL h' (bL adY e7 w) z) s) hs l) λr H R f=>by refine dE f λσ F A q=>?_;have q:=Rq.bind q;refine cx σ F A (Rq.mono (ax.refl _) q λx j v P E D m n=>?_);have j:=Rq.bind j;refine cx σ E D (Rq.mono m.f j λy e O I t R2 C u=>?_);cases x with
|int i=>cases y with|int k=>
   have e:Rq B σ F (if -2^60<=i/\i<2^60/\-2^60<=k/\k<2^60 then Res.ok _ else .bad) _:=e;subst n u;by_cases g:-2^60<=i/\i<2^60/\-2^60<=k/\k<2^60;.rw[anL g]at e;exact jd i k rfl g ((show∀J N M,_ from e) _ I t R2 (m.trans C) yx)
   .rw[anK g]at e;exact(show False from e).elim|_=>exact(show False from e).elim
|_=>exact(show False from e).elim
end
section
variable{X:Cx}{B:Bx}
def int_text{i:Int}(h:i.natAbs<1000):(Str.ofString (toString i)).length<=10/\i.natAbs.log2<1920:=by
 have a:((List.range 1000).all λn=>Nat.ble (Str.ofString (toString (Int.ofNat n))).length 10&&Nat.ble (Str.ofString (toString (Int.neg (Int.ofNat n)))).length 10)=true:=by decide+kernel
 have k:=aoB.mp a i.natAbs (an1.mpr h);rw[an6,Nat.ble_eq,Nat.ble_eq]at k;refine⟨?_,?_⟩
 .rcases Int.natAbs_eq i with e|e;.rw[e];exact k.1
  .rw[e];exact k.2
 .by_cases z:i.natAbs=0;.rw[z];decide
  .rw[Nat.log2_lt z];exact anN h (by decide)
def ado{pins:List (Addr×Obj)}{σ:L2.St}{H:Hp}{s:Shared}(I:Inv X pins σ H s){h':Heap}(k:∀b o,s.heap.get? b=some o->h'.get? b=some o):Inv X pins σ H {s with heap:=h'}:=I.ajo (ch:=[]) (λb a=>absurd a aoo) (λb o q _ _=>k b o q) λb o q _ _=>⟨o.slots,k b o q⟩
def anh(K:W.Frag)(U:Nat)(ta:TE):TE:=λσ H Q=>ta σ H λx e=>(∃y:Str,x=.str y/\(∀c∈y.cps.toList,c<16^8)/\y.length<=5000/\∀z:Str,z.length<=10*y.length+2->Q (.str z) e)\/(∃n d a,x=.ref a/\IsD K e n x d/\d.showable=true/\d.hasDict=false/\U+n<cLine/\d.shown.length<=80000/\Q (.str d.shown) e)\/∃z:Str,((∃i:Int,x=.int i/\i.natAbs.log2<1920/\z=toString i)\/x=.non/\z="None"\/∃b:Bool,x=.bl b/\z=if b then("True":Str)else"False")/\z.length<=1000/\Q (.str z) e
def ahz{e:Expr}{pos:Pos}{ta:TE}(J:X.A.guards=some [])(D:PE X e ta):PE X (.FormattedValue e 114 none pos) (anh X.K X.A.units ta):=by
 intro k s σ H Q I h;refine wpAny_FormattedValue_repr (thn (D k s σ H _ I h) λu O p=>?_);obtain⟨x,m,g,l,q⟩:=p;rcases q with⟨y,ex,K,N,q⟩|⟨n,d,a,ex,C,E,r,M,f,q⟩|⟨z,(⟨i,ex,G,j⟩|⟨ex,j⟩|⟨b,ex,j⟩),f,q⟩;.subst ex;obtain⟨t,rfl⟩:=l;have f:=StrLaws.reprText_len y K;have c:(reprText y).length<=sizeLine:=anQ f (anQ (show 10*y.length+2<=50002 by omega) (by decide));exact pyReprObj_str (aoz (λo tk=>⟨.str (reprText y),m,(g.tok _).tok tk,⟨_,rfl⟩,q _ f⟩) c) c
 .subst ex;cases show u=Value.ref a from l;obtain⟨⟨R,A⟩,T,P⟩:=g.reads n d (.ref a) _ C rfl;have c:d.shown.length<=sizeLine:=anQ f (by decide);refine pyReprObj_of_reads A E (λz=>by rw[r]at z;cases z) J (by omega) (λ_ _ q=>q) (λS u tk v=>?_) c;exact aoz (λo w=>⟨.str d.shown,m,((ado g v).tok _).tok _,⟨_,rfl⟩,q⟩) c
 .subst ex j;obtain⟨t,rfl⟩:=l;exact pyReprObj_int G (aoz (λo tk=>⟨.str (toString i),m,(g.tok _).tok tk,⟨_,rfl⟩,q⟩) (anQ f (by decide)))
 .subst ex j;cases show u=Value.none from l;exact pyReprObj_none (aoz (λo tk=>⟨.str "None",m,(g.tok _).tok tk,⟨_,rfl⟩,q⟩) (anQ f (by decide)))
 .subst ex j;cases show u=Value.bool b from l;exact pyReprObj_bool (aoz (λo tk=>⟨.str _,m,(g.tok _).tok tk,⟨_,rfl⟩,q⟩) (anQ f (by decide)))
theorem gT:∀l:List PyData,(PyData.shownAll l).length=l.length|[]=>rfl|x::l=>by simp only[PyData.shownAll,anV,gT l]
theorem abP:∀{ws:List VW}{n k:Nat},WL.shL ws=some n->WL.iT (k+1) ws=true->PyData.showableAll (gy ws)=true/\PyData.hasDictAll (gy ws)=false/\((PyData.shownAll (gy ws)).map (·.length)).sum+2*(gy ws).length+3<=n
|[],n,k,e,_=>by cases e;exact⟨rfl,rfl,anP _⟩|.str x::ws,n,k,e,o=>by
 obtain⟨m,em,rfl⟩:=aol.mp (show(WL.shL ws).map (.+(10*x.length+4))=some n from e);have o:=aoC.mp o;obtain⟨b,a,l⟩:=abP em o.2;have h:∀c∈x.cps.toList,c<16^8:=λc j=>by
  have:=Array.all_eq_true_iff_forall_mem.mp o.1 c (by simpa using j);have g:c<1114112:=by simpa using this
  exact Nat.lt_trans g (by decide)
 have p:=StrLaws.reprText_len x h;refine⟨by simpa[gy,wK,wL,PyData.showableAll,PyData.showable]using b,by simpa[gy,wK,wL,PyData.hasDictAll,PyData.hasDict]using a,?_⟩;simp only[gy,wK,wL,PyData.shownAll,PyData.shown,aoa,List.sum_cons,anV];omega|.int i::ws,n,k,e,o=>by
 have e:(if i.natAbs<1000 then(WL.shL ws).map (.+12)else none)=some n:=e;by_cases d:i.natAbs<1000;.rw[anL d]at e;obtain⟨m,em,rfl⟩:=aol.mp e;have o:=aoC.mp o;obtain⟨b,a,l⟩:=abP em o.2;have f:=int_text d;refine⟨by simpa[gy,wK,wL,PyData.showableAll,PyData.showable,f.2]using b,by simpa[gy,wK,wL,PyData.hasDictAll,PyData.hasDict]using a,?_⟩;simp only[gy,wK,wL,PyData.shownAll,PyData.shown,aoa,List.sum_cons,anV];have:=f.1;omega
 .rw[anK d]at e;cases e|.non::_,_,_,e,_=>by cases e|.bl _::_,_,_,e,_=>by cases e|.ty _::_,_,_,e,_=>by cases e|.tup _::_,_,_,e,_=>by cases e|.lst _::_,_,_,e,_=>by cases e|.dic _ _::_,_,_,e,_=>by cases e|.cls _::_,_,_,e,_=>by cases e|.exc _ _::_,_,_,e,_=>by cases e|.ins _ _::_,_,_,e,_=>by cases e
inductive PJ(X:Cx)(B:Bx):List Expr->AF->Prop where|nil:PJ X B [] WL.aw|c{x:Str}{j:Nat}{pos:Pos}{es:List Expr}{t:AF}(h:PJ X B es t)(hl:x.length<=1000):PJ X B (.Constant (.str x) j pos::es) t|f{e:Expr}{pos:Pos}{es:List Expr}{ta:EF}{t:AF}(he:PE X e (lo B ta))(h:PJ X B es t):PJ X B (.FormattedValue e (-1) none pos::es) (WL.ae (WL.eFf ta) t)|r{e:Expr}{pos:Pos}{es:List Expr}{ta:EF}{t:AF}(hK:X.K=B.K)(hu:X.A.units+64<cLine)(hg:X.A.guards=some [])(he:PE X e (lo B ta))(h:PJ X B es t):PJ X B (.FormattedValue e 114 none pos::es) (WL.ae (WL.eFr ta) t)
def agL:PJ X B [] WL.aw:=.nil
def ana{x:Str}{j:Nat}{pos:Pos}{es:List Expr}{t:AF}(h:PJ X B es t)(a:x.length<=1000:=by decide+kernel):PJ X B (.Constant (.str x) j pos::es) t:=.c h a
def am9{e:Expr}{pos:Pos}{es:List Expr}{ta:EF}{t:AF}(c:X.K=B.K)(d:X.A.units+64<cLine)(b:X.A.guards=some [])(a:PE X e (lo B ta))(h:PJ X B es t):PJ X B (.FormattedValue e 114 none pos::es) (WL.ae (WL.eFr ta) t):=.r c d b a h
def ig(x y:Str):(x++y).length=x.length+y.length:=by show(x.cps++y.cps).size=_;rw[Array.size_append];rfl
def jn{n m:Nat}{a:Str}(h:a.length<=100000*n)(b:n+m<=50):a.length<=sizeLine:=anQ h (anQ (Nat.mul_le_mul_left 100000 (show n<=50 by omega)) (by decide))
theorem km:∀{es:List Expr}{t:AF},PJ X B es t->∃S,Paired (PE X) es S/\∀(σ:Ws)(j:L2.St)(F H:Hp)(Q:VK)(e:Str)(n:Nat),RS B σ j F H->n+es.length<=50->e.length<=100000*n->Rq B σ F (t σ) (λ_=>∀o p(y:Str),RS B σ j p o->Gr F H p o->Q (.str y) o)->tJ S e j H Q
|_,_,.nil=>⟨[],.nil,λσ j F H Q e n R O Z q=>⟨jn Z O,(show∀o p(y:Str),_ from q) H F e R Gr.refl⟩⟩|_,_,.c (x:=x) (es:=es) h hl=>by
  obtain⟨S,U,I⟩:=km h;refine⟨_,.cons kK U,λσ j F H Q e n R O Z q=>?_⟩;have g:n+1+es.length<=50:=by simp at O;omega
  have d:(e++x).length<=100000*(n+1):=by rw[ig];omega
  exact⟨x,rfl,jn d g,I σ j F H Q (e++x) (n+1) R g d q⟩|_,_,.f (es:=es) (ta:=ta) (t:=t) he h=>by
  obtain⟨S,U,I⟩:=km h;refine⟨_,.cons (vt he) U,λσ j F H Q e n R O Z q=>?_⟩;have g:n+1+es.length<=50:=by simp at O;omega
  have q:=Rq.bind (Rq.bind q);refine⟨σ,F,R,Rq.mono (ax.refl _) q λx f v M N J s r=>?_⟩;have rest:∀y:Str,y.length<=1000->(∃z,WL.amQ x=.ok z)->∃y',V.str y=.str y'/\(e++y').length<=sizeLine/\tJ S (e++y') j M Q:=λy hy⟨z,K⟩=>by
   rw[K]at f;have d:(e++y).length<=100000*(n+1):=by rw[ig];omega
   refine⟨y,rfl,jn d g,I σ j N M Q (e++y) (n+1) J g d ?_⟩;exact Rq.mono s.f (Rq.bind (show Rq B σ F ((t σ).bind λw=>.ok (z::w)) _ from f)) λws k o p A R2 C=>(show∀o p(y:Str),_ from k) o p A R2 (s.trans C)
  cases x with|int i=>
   simp only[RW]at r;subst r;by_cases l:i.natAbs<1000;.have P:=int_text l;exact .inl ⟨i,rfl,P.2,rest (toString i) (anQ P.1 (by decide)) ⟨_,anL l⟩⟩
   .have f:Rq B σ F (if i.natAbs<1000 then Res.ok (WL.W.int i)else .bad) _:=f;rw[anK l]at f;exact(show False from f).elim|str y=>
   simp only[RW]at r;subst r;by_cases l:y.length<=1000;.exact .inr ⟨y,rfl,anQ l (by decide),rest y l ⟨_,anL l⟩⟩
   .have f:Rq B σ F (if y.length<=1000 then Res.ok (WL.W.str y)else .bad) _:=f;rw[anK l]at f;exact(show False from f).elim|_=>exact(show False from f).elim
|_,_,.r (es:=es) (ta:=ta) (t:=t) hK hu hg he h=>by
  obtain⟨S,U,I⟩:=km h;refine⟨_,.cons (ahz hg he) U,λσ j F H Q e n R O Z q=>?_⟩;have g:n+1+es.length<=50:=by simp at O;omega
  have q:=Rq.bind (Rq.bind q);refine⟨σ,F,R,Rq.mono (ax.refl _) q λx f v M N J s r=>?_⟩;cases x with|str y=>
   simp only[RW]at r;subst r;by_cases l:y.length<=5000/\(y.cps.toList.all λc=>Nat.ble c 1114111)=true
   .have K:WL.agm (.str y)=.ok (.str y):=anL l;rw[K]at f;refine .inl ⟨y,rfl,λc hc=>ao3 (Nat.ble_eq.mp (aoB.mp l.2 c hc)) (by decide),l.1,λz hz=>?_⟩;have d:(e++z).length<=100000*(n+1):=by rw[ig];have:=l.1;omega
    refine⟨z,rfl,jn d g,I σ j N M Q (e++z) (n+1) J g d ?_⟩;exact Rq.mono s.f (Rq.bind (show Rq B σ F ((t σ).bind λw=>.ok (.str y::w)) _ from f)) λws k o p A R2 C=>(show∀o p(y:Str),_ from k) o p A R2 (s.trans C)
   .have f:Rq B σ F (if y.length<=5000/\(y.cps.toList.all λc=>Nat.ble c 1114111)=true then Res.ok (WL.W.str y)else .bad) _:=f;rw[anK l]at f;exact(show False from f).elim|lst ws=>
   by_cases l:WL.shC ws=true;.have K:WL.agm (.lst ws)=.ok (.lst ws):=anL l;rw[K]at f;have D:(WL.iT 51 ws&&match WL.shL ws with|some n=>decide (n<=80000)|none=>false)=true:=l;rw[an6]at D;obtain⟨Y,G⟩:=D;cases u:WL.shL ws with|none=>rw[u]at G;cases G|some m=>
     rw[u]at G;have G:m<=80000:=by simpa using G
     obtain⟨s1,s2,s3⟩:=abP u Y;have hd:=RW.isD 51 (.lst ws) v Y (r.keep J.rb.sub);simp only[RW]at r;obtain⟨a,vs,rfl,_,_⟩:=r;have E:(PyData.shown (.list (gy ws))).length<=80000:=by have h1:=listText_len_le (PyData.shownAll (gy ws));have h2:(PyData.shownAll (gy ws)).length=(gy ws).length:=gT (gy ws);simp only[PyData.shown];omega
     refine .inr (.inl ⟨51,.list (gy ws),a,rfl,by rw[hK];exact hd,by simpa only[PyData.showable]using s1,by simpa only[PyData.hasDict]using s2,by omega,E,?_⟩);have d:(e++PyData.shown (.list (gy ws))).length<=100000*(n+1):=by rw[ig];omega
     refine⟨_,rfl,jn d g,I σ j N M Q _ (n+1) J g d ?_⟩;exact Rq.mono s.f (Rq.bind (show Rq B σ F ((t σ).bind λw=>.ok (.lst ws::w)) _ from f)) λws k o p A R2 C=>(show∀o p(y:Str),_ from k) o p A R2 (s.trans C)
   .have f:Rq B σ F (if WL.shC ws=true then Res.ok (WL.W.lst ws)else .bad) _:=f;rw[anK l]at f;exact(show False from f).elim|tup ws=>
   by_cases l:WL.shC ws=true;.have K:WL.agm (.tup ws)=.ok (.tup ws):=anL l;rw[K]at f;have D:(WL.iT 51 ws&&match WL.shL ws with|some n=>decide (n<=80000)|none=>false)=true:=l;rw[an6]at D;obtain⟨Y,G⟩:=D;cases u:WL.shL ws with|none=>rw[u]at G;cases G|some m=>
     rw[u]at G;have G:m<=80000:=by simpa using G
     obtain⟨s1,s2,s3⟩:=abP u Y;have hd:=RW.isD 51 (.tup ws) v Y (r.keep J.rb.sub);simp only[RW]at r;obtain⟨a,vs,rfl,_,_⟩:=r;have E:(PyData.shown (.tuple (gy ws))).length<=80000:=by have h1:=tupleText_len_le (PyData.shownAll (gy ws));have h2:(PyData.shownAll (gy ws)).length=(gy ws).length:=gT (gy ws);simp only[PyData.shown];omega
     refine .inr (.inl ⟨51,.tuple (gy ws),a,rfl,by rw[hK];exact hd,by simpa only[PyData.showable]using s1,by simpa only[PyData.hasDict]using s2,by omega,E,?_⟩);have d:(e++PyData.shown (.tuple (gy ws))).length<=100000*(n+1):=by rw[ig];omega
     refine⟨_,rfl,jn d g,I σ j N M Q _ (n+1) J g d ?_⟩;exact Rq.mono s.f (Rq.bind (show Rq B σ F ((t σ).bind λw=>.ok (.tup ws::w)) _ from f)) λws k o p A R2 C=>(show∀o p(y:Str),_ from k) o p A R2 (s.trans C)
   .have f:Rq B σ F (if WL.shC ws=true then Res.ok (WL.W.tup ws)else .bad) _:=f;rw[anK l]at f;exact(show False from f).elim|bl b=>
   simp only[RW]at r;subst r;have T:(if b then("True":Str)else"False").length<=10:=by cases b<;>decide
   refine .inr (.inr ⟨if b then("True":Str)else"False",.inr (.inr ⟨b,rfl,rfl⟩),anQ T (by decide),?_⟩);have d:(e++if b then("True":Str)else"False").length<=100000*(n+1):=by rw[ig];omega
   refine⟨_,rfl,jn d g,I σ j N M Q _ (n+1) J g d ?_⟩;exact Rq.mono s.f (Rq.bind (show Rq B σ F ((t σ).bind λw=>.ok (.bl b::w)) _ from f)) λws k o p A R2 C=>(show∀o p(y:Str),_ from k) o p A R2 (s.trans C)|int i=>
   simp only[RW]at r;subst r;by_cases l:i.natAbs<1000
   .have K:WL.agm (.int i)=.ok (.int i):=anL l;rw[K]at f;have P:=int_text l;refine .inr (.inr ⟨toString i,.inl ⟨i,rfl,P.2,rfl⟩,anQ P.1 (by decide),?_⟩);have d:(e++(toString i:Str)).length<=100000*(n+1):=by rw[ig];have:=P.1;omega
    refine⟨_,rfl,jn d g,I σ j N M Q _ (n+1) J g d ?_⟩;exact Rq.mono s.f (Rq.bind (show Rq B σ F ((t σ).bind λw=>.ok (.int i::w)) _ from f)) λws k o p A R2 C=>(show∀o p(y:Str),_ from k) o p A R2 (s.trans C)
   .have f:Rq B σ F (if i.natAbs<1000 then Res.ok (WL.W.int i)else .bad) _:=f;rw[anK l]at f;exact(show False from f).elim|non=>
   simp only[RW]at r;subst r;refine .inr (.inr ⟨"None",.inr (.inl ⟨rfl,rfl⟩),by decide,?_⟩);have T:("None":Str).length<=10:=by decide
   have d:(e++("None":Str)).length<=100000*(n+1):=by rw[ig];omega
   refine⟨_,rfl,jn d g,I σ j N M Q _ (n+1) J g d ?_⟩;exact Rq.mono s.f (Rq.bind (show Rq B σ F ((t σ).bind λw=>.ok (.non::w)) _ from f)) λws k o p A R2 C=>(show∀o p(y:Str),_ from k) o p A R2 (s.trans C)|_=>exact(show False from f).elim
def yh{x:Str}{C:Addr}{nm:String}{h i:Expr}{es:List Expr}{a:AF}{v b d pos:Pos}(M:X.K=B.K)(E:XW X B)(I:X.calm=true)(G:Gl X x)(p:X.mg x=some (.ref C))(q:sG X.K C none)(n:ExcAt X.K nm C)(r:WL.fieldsOf nm=[])(u:PJ X B (h::i::es) a)(N:es.length<=40:=by decide)(w:Dbg x:=by decide)(k:evalEach es X.env=es.map λe=>eval e X.env:=by rfl)(hs:starEach [Expr.JoinedStr (h::i::es) b] X.env=(false,eval (.JoinedStr (h::i::es) b) X.env)::starEach [] X.env:=by rfl)(c:BT X d []:=by rfl):PS X (.Raise (some (.Call (.Name x v) [.JoinedStr (h::i::es) b] [] d)) none pos) (loS B (WL.tr nm a)):=by obtain⟨O,z,m⟩:=km u;refine PS.imp (vo I G p q (bL (tI z k) e7 hs) w hs c) λD f H j=>?_;obtain⟨σ,F,R,q⟩:=j;have q:=Oq.ofR q;refine m σ f F H _ Str.empty 0 R (by simp;omega) (anP _) (Rq.mono (ax.refl _) q λws K J l y A o=>?_);refine⟨show 1<=sizeLine by decide,λg s e t=>?_⟩;exact E g f J s σ l (.exc nm []) A (B.mono _ σ F l o.f K) e C none none _ t ⟨n,[],by rw[r];rfl,by simp[RWs],.inl ⟨rfl,rfl⟩⟩
end
end WS
namespace L2
open PySem PySem.Spec PyProof.Rows PySem.Builtin
end L2
namespace WS
open PySem PySem.Spec PyProof.Rows L2 PySem.Builtin PySem.Builtin.Str
open WL(Res Sl Ws EF TF AF LF GF GsF SF Out XF XA FS Fs KO KF OX RF Sr)
section
variable{X:Cx}{B:Bx}{K:W.Frag}
inductive PF(X:Cx)(B:Bx):List Expr->AF->Prop where|nil:PF X B [] WL.aw|c{x:Str}{j:Nat}{pos:Pos}{es:List Expr}{t:AF}(h:PF X B es t)(hl:x.length<=1000):PF X B (.Constant (.str x) j pos::es) (WL.ae (WL.eC (.str x)) t)|f{e:Expr}{pos:Pos}{es:List Expr}{ta:EF}{t:AF}(he:PE X e (lo B ta))(h:PF X B es t):PF X B (.FormattedValue e (-1) none pos::es) (WL.ae (WL.ePt ta) t)
end
end WS
namespace WS
open PySem PySem.Spec PyProof.Rows L2
open WL(Res Sl Ws EF TF AF LF GF GsF SF Out XF XA FS Fs KO KF OX RF Sr)
section
variable{B:Bx}{σ:Ws}{σV:L2.St}{F H:Hp}{a:Addr}{kvs:List (Key×V)}{od:Obj}{K:W.Frag}
noncomputable abbrev zD(od:Obj)(kvs:List (Key×V)):HO:=.frz od (.dK kvs)
def RW.one{w v}(h:RWs K F [w] [v]):RW K F w v:=by obtain⟨_,_,e,q,_⟩:=h;cases e;exact q
end
end WS
namespace PySem
end PySem
namespace L2
open PySem PySem.Spec PyProof.Rows
noncomputable def Its(x:Str):It:=⟨λi _=>i<x.cps.size,λi H v a=>a=H/\∃c,x.cps[i]?=some c/\v=.str ⟨#[c]⟩,λi _=>x.cps.size<=i⟩
end L2
namespace WS
open PySem PySem.Spec PyProof.Rows L2
open WL(Res Sl Ws EF TF AF LF GF GsF SF Out XF XA FS Fs KO KF OX RF Sr)
section
variable{X:Cx}{B:Bx}{K:W.Frag}
noncomputable def kW:Key->VW|.inl none=>.non|.inl (some i)=>.int i|.inr z=>.str z
def rP{F x a}(h:RW K F x (kV a)):x=kW a:=by rcases a with(_|i)|z<;>cases x<;>simp only[kV,RW,reduceCtorEq,false_and,exists_false]at h<;>cases h<;>rfl
def pV{F x y}:∀{a b},RW K F x (kV a)->RW K F y (kV b)->WL.hR x y=decide (a=b):=by intro a b d c;rw[rP d,rP c,aof];rcases a with(_|i)|z<;>rcases b with(_|j)|e<;>simp[WL.hR,kW]
set_option tactic.hygienic true
def aae{F}{k:VW}{v}(b:WL.sL k=true)(r:RW K F k v):∃a,v=kV a:=by
 cases k<;>simp [WL.sL]at b;.exact⟨.inl none,r⟩
 .rename_i i;exact⟨.inl (some i),r⟩
 .rename_i x;exact⟨.inr x,r⟩
set_option tactic.hygienic false
theorem aa7{F k a}(b:RW K F k (kV a)):∀{kvs:List (Key×V)}{ks},RWs K F ks (kvs.map λp=>kV p.1)->WL.afZ k ks=kvs.any λf=>decide (f.1=a)
|[],ks,r=>by cases ks with|nil=>rfl|cons x ks=>simp[RWs]at r
|p::kvs,ks,r=>by cases ks with|nil=>simp[RWs]at r|cons x ks=>obtain⟨g,h,e,d,c⟩:=r;cases e;show(WL.hR x k||WL.afZ k _)=_;rw[pV d b,aa7 b c];rfl
theorem aa6{F k w a v}(f:RW K F k (kV a))(g:RW K F w v):∀{kvs:List (Key×V)}{ks us},RWs K F ks (kvs.map λp=>kV p.1)->RWs K F us (kvs.map λp=>p.2)->RWs K F ks ((kvs.map λb=>if b.1=a then(b.1,v)else b).map λp=>kV p.1)/\RWs K F (WL.jE k w ks us) ((kvs.map λb=>if b.1=a then(b.1,v)else b).map λp=>p.2)
|[],ks,us,r1,r2=>by cases ks with
 |nil=>cases us with|nil=>exact⟨r1,r2⟩|cons _ _=>simp[RWs]at r2
 |cons x ks=>simp[RWs]at r1
|p::kvs,ks,us,r1,r2=>by cases ks with|nil=>simp[RWs]at r1|cons x ks=>cases us with|nil=>simp[RWs]at r2|cons y us=>
    obtain⟨r,s,l,c,j⟩:=r1;obtain⟨t,q,o,n,m⟩:=r2;cases l;cases o;obtain⟨i,d⟩:=aa6 f g j m;have e:=pV c f;unfold WL.jE;rw[e];by_cases h:p.1=a;.rw[apa h,anL rfl];simp only[aoa,anL h];exact⟨.cons c i,.cons g d⟩
    .rw[aoe h,anK an5];simp only[aoa,anK h];exact⟨.cons c i,.cons n d⟩
def zl{F k w a v}(c:RW K F k (kV a))(e:RW K F w v){kvs ks us}(b:RWs K F ks (kvs.map λp=>kV p.1))(d:RWs K F us (kvs.map λp=>p.2)):RWs K F (WL.putK ks k) ((putK kvs a v).map λp=>kV p.1)/\RWs K F (WL.agi ks us k w) ((putK kvs a v).map λp=>p.2):=by
 unfold WL.putK WL.agi L2.putK;rw[aa7 c b];by_cases h:(kvs.any λf=>decide (f.1=a))=true;.rw[anL h,anL h,anL h];exact aa6 c e b d
 .rw[anK h,anK h,anK h,apA,apA];exact⟨b.app (.one c),d.app (.one e)⟩
variable{i j:Nat}{pos pos':Pos}{x:Str}
def aeC{a}(t:X.N.Nodup)(o:X.N[i]?=some x)(k:Loc X.env.scope x)(hs:swapsWith (.Dict [] [] a) (some (.Name x pos')) pos.line X.env=pure false:=by rfl)(h:FL X x:=by first|exact .inl rfl|exact .inr rfl|assumption):PS X (.Assign [.Name x pos'] (.Dict [] [] a) pos) (loS B (WL.qV i)):=PS.imp (md t o k vu hs h) λD g H d=>by refine dE d λσ F R q=>?_;intro p c;refine q _ _ F ((R.ajF c _).amw (R.rb.sub.free c) (R.rb.base.free c) aq (rfl) (rfl) λj n r _ s m=>?_) (ax.refl _);refine kR (R.dd.od j n r s) λb l e _ _ f _=>?_;rw[m]at e;cases e;rw[c]at f;cases f
def oP{o m b tv tk}(G:X.A.units+1<cLine)(Z:PE X o (jP i))(U:PE X m (lo B tk))(J:PE X b (lo B tv))(hs:swapsWith b (some (.Subscript o m pos')) pos.line X.env=pure false:=by rfl):PS X (.Assign [.Subscript o m pos'] b pos) (loS B (WL.pk i tv tk)):=PS.imp (tE G Z U J hs) λD g H l=>by refine dE l λσ F R q=>?_;have q:Oq B D F (match σ[i]? with|some (.od ks us)=>WL.ofR σ (tv σ) _|_=>.bad):=q;cases d:σ[i]? with|none=>rw[d]at q;exact q.elim|some sl=>
 rw[d]at q;cases sl with|od ks us=>
   have q:=Oq.ofR q;refine⟨σ,F,R,Rq.mono (ax.refl _) q λw n v H1 T z p C=>?_⟩;refine dE (z.dd.od i ks us d) λa O h _=>?_;refine⟨.ref a,h,?_⟩;have n:=Oq.ofR n;refine⟨σ,T,z,Rq.mono p.f n λk c y H2 M R2 t r=>?_⟩;refine agw (R2.dd.od i ks us d) λa' e s I P u A E=>?_;rw[h]at s;cases s;have c:Oq B D F (if WL.sL k=true/\ks.length<WL.lim then .nx _ else .bad):=c;by_cases f:WL.sL k=true/\ks.length<WL.lim
   .rw[anL f]at c;obtain⟨S,rfl⟩:=aae f.1 r;have N:e.length<sizeLine:=by have:=A.length;rw[an0]at this;rw[<-this];exact anN f.2 hE
    obtain⟨Q,Y⟩:=zl r (C.keep t.f) A E;exact⟨a,_,rfl,agc.k u N,c g _ M (R2.adx d h I P u Q Y) (p.f.trans t.f)⟩
   .rw[anK f]at c;exact c.elim|_=>exact q.elim
end
end WS
set_option autoImplicit true
set_option relaxedAutoImplicit true
namespace L2
open PySem PySem.Spec PyProof.Rows
section
variable{X:Cx}{k:Nat}{f C:Addr}{fd:FuncData}{ps:List Str}{sp:Sp}{dvs:List V}{ds:List Value}{x:Str}{p pos:Pos}{e:Expr}{es:List Expr}{t:TA}
def ag6(X:Cx)(C:Addr)(sp:Sp)(dvs:List V)(t:TA):TE:=λσ H Q=>t σ H λi d=>∀x c,d x=none->d c=none->c≠x->∃E:XK,sp (.ref x::(i++dvs)) (upd (upd d c (.own x)) x (.ins C c [])) (λv j=>v=.non/\Q (.ref x) j) E/\∀a s e g b T h,Thr X a σ h s e g b .none (some T)->E (.ref g) b h->X.xe (.ref e) s
def ab7(M:Mk X.K C f)(F:FnOk X.prog X.w X.K X.mg X.base (CXX X.prog X.w) k f fd ps sp)(P:Room (k+1) X.A)(hg:Gl X x)(z:X.mg x=some (.ref C))(Z:Binds X.K fd ps ds)(R:Vals dvs ds)(A:PA X (e::es) t)(j:Dbg x:=by decide)(Y:SE X e es:=by rfl)(l:BT X pos es:=by rfl):PE X (.Call (.Name x p) (e::es) [] pos) (ag6 X C sp dvs t):=by
 intro b s0 σ O Q g h0;refine ao2 (gg g hg z ?_ j);refine aqw g.ok.mod.kin M.kp (thn (A pos b s0 σ O _ g h0) λc s⟨G,H,I,r,h⟩=>⟨I.kIn,?_⟩) Y l;obtain⟨E,n,S⟩:=h (s.heap.objs.size+1) s.heap.objs.size (I.hok.fresh (aqb _)) (I.hok.fresh (anP _)) (anW (ao0 _));have d:=Inv.made (C:=C) I;have o:Vals (V.ref (s.heap.objs.size+1)::(G++dvs)) (Value.ref (s.heap.objs.size+1)::(c++ds)):=.cons rfl (r.append R);have K:=by have e:=o.length;rw[F.len _ _ _ _ n]at e;exact e.symm
 refine apt (acr I.kIn M.makes M.init (aoW.mp M.fn) (apC (F.run _ X.stack _ _ _ (Value.ref (s.heap.objs.size+1)::(c++ds)) _ _ E (P.make C c []) trivial (d.ajQ.make C c []) (Z _ (Value.ref (s.heap.objs.size+1)::c) d.kIn K) o n) λr y a=>?_));cases r with|error e=>obtain⟨B,U,m,T,i,rfl,t,q⟩:=d.thrown a;exact S b y B U m T i t q|ok fl=>cases fl with|ret u=>obtain⟨v,i,w,N,J,D⟩:=d.after a;subst J;exact⟨N,⟨V.ref (s.heap.objs.size+1),i,w,rfl,D⟩⟩|next=>exact False.elim a|brk=>exact False.elim a|cont=>exact False.elim a
end
end L2
namespace WS
open PySem PySem.Spec PyProof.Rows L2
open WL(Res Sl Ws EF TF AF LF GF GsF SF Out XF XA FS Fs KO KF OX RF Sr)
section
variable{B B1:Bx}{σ:Ws}{σV:L2.St}{F H F' H':Hp}
structure Ex(f:Str)(x C dx d:Addr)(σV:L2.St)(F H:Hp):Prop where
 sl:σV[0]?=some (some (.ref x))F:F x=none
 H:H x=some (.ins C dx [(f,.ref d)])
def Oq4(B:Bx)(f:Str)(x C dx:Addr)(D:Ends)(F:Hp):Out->Prop|.nx σ'=>∀a d H' F',a.length=3->RS B σ' (a++[some (.ref d)]) F' H'->Ex f x C dx d a F' H'->ax F F'->D.nx a H'|.ex c σ'=>B.xp c σ' F|_=>False
theorem Oq4.mono{f x C dx D F F' o}(s:ax F F')(h:Oq4 B f x C dx D F o):Oq4 B f x C dx D F' o:=by cases o with|nx σ=>exact λσV d H G a R ex z=>h _ d H G a R ex (s.trans z)|ex c σ=>exact B.mono c σ F _ s h|_=>exact h
end
section
variable{K:W.Frag}{F:Hp}{x:Addr}{C dx:Addr}
def RWs.aly{F'}(h:∀b o,F b=some o->F' b=some o\/∃C dx,o=.ins C dx []){ws vs}(r:RWs K F ws vs):RWs K F' ws vs:=by
 have k:∀{b}{o:HO},F b=some o->(∀C dx,o≠.ins C dx [])->F' b=some o:=λ{b o}e n=>by grind
 refine RWs.via (λb a q=>?_) (λb a q=>?_) (λb i q=>?_) (λb c q=>k q λ_ _ z=>nomatch z) (λb c q=>k q λ_ _ z=>nomatch z) (λb C dx l g q=>k q λf d z=>by grind) ws vs r
 .rcases q with(q|⟨o,q⟩)|q;.exact .inl (.inl (k q λ_ _ z=>nomatch z))
  .exact .inl (.inr ⟨o,k q λ_ _ z=>nomatch z⟩)
  .exact .inr q
 .rcases q with(q|⟨o,q⟩)|q;.exact .inl (.inl (k q λ_ _ z=>nomatch z))
  .exact .inl (.inr ⟨o,k q λ_ _ z=>nomatch z⟩)
  .exact .inr q
 .rcases q with q|⟨o,q⟩;.exact .inl (k q λ_ _ z=>nomatch z)
  .exact .inr ⟨o,k q λ_ _ z=>nomatch z⟩
end
noncomputable def noI(F:Hp):Hp:=λb=>match F b with|some (.ins _ _ [])=>none|o=>o
def zV{F b o}(h:noI F b=some o):F b=some o:=by
 unfold noI at h;split at h;.cases h
 .exact h
set_option tactic.hygienic true
def ahW{F b o}(h:F b=some o):noI F b=some o\/∃C a,o=.ins C a []:=by
 unfold noI;rw[h];split;.rename_i C a e;cases e;exact .inr ⟨C,a,rfl⟩
 .exact .inl rfl
set_option tactic.hygienic false
noncomputable def jo(F F':Hp):Hp:=λb=>match F b with|some o=>some o|none=>F' b
def aim{F F' b o}(h:F b=some o):jo F F' b=some o:=by unfold jo;rw[h]
def ail{F F' b}(h:F b=none):jo F F' b=F' b:=by unfold jo;rw[h]
def ami(P:Program)(w:World)(K:W.Frag)(c:Str->Option Value)(a:Heap)(k:Nat)(fI:Addr)(ps:List Str)(sp:Sp):Prop:=∃b:FuncData,FnOk P w K c a (CXX P w) k fI b ps sp/\Binds K b ps []
def acP{P:Program}{w:World}{K:W.Frag}{i:Str->Option Value}{b:Heap}{k:Nat}{f:Addr}{a:Str}{st:Stmt}{ps:List Str}{sp:Sp}(D:∃c,Fun K "__init__" a st f c)(l:∀(kV e j:Value)(m:Option Addr)(d ct:Value)(g:List Value),g.length=ps.length->bindArgs (W.fnOf "__init__" a (bE st) (aP st) (af st) .none kV e j m d ct) ⟨g,[]⟩=pure (ps.zip g))(h:∀c:FuncData,Fun K "__init__" a st f c->FnOk P w K i b (CXX P w) k f c ps sp):ami P w K i b k f ps sp:=by obtain⟨c,F⟩:=D;exact⟨c,h c F,F.binds l⟩
def un1{n:Nat}(h:n+64<cLine):n+1<cLine:=by omega
end WS
namespace L2
open PySem PySem.Spec PyProof.Rows
section
variable{X:Cx}{k:Nat}{f C:Addr}{fd:FuncData}{ps:List Str}{sp:Sp}{dvs:List V}{ds:List Value}{m:Str}{apos pos:Pos}{o e:Expr}{es:List Expr}{ta:TE}{t:TA}
def adH(X:Cx)(C:Addr)(m:Str)(sp:Sp)(dvs:List V)(ta:TE)(t:TA):TE:=λσ H Q=>ta σ H λx h=>∃a j fs,x=.ref a/\h a=some (.ins C j fs)/\fs.lookup m=none/\t σ h λi l=>∃E:XK,sp (x::(i++dvs)) l Q E/\∀b s e d c T g,Thr X b σ g s e d c .none (some T)->E (.ref d) c g->X.xe (.ref e) s
def ab6{pl}(J:PE X o ta)(c:Cls X.K C)(j:Meth X.K C m f)(F:FnOk X.prog X.w X.K X.mg X.base (CXX X.prog X.w) k f fd ps sp)(B:Room k X.A)(M:Binds X.K fd ps ds)(D:Vals dvs ds)(y:PA X (e::es) t)(g:SE X e es:=by rfl)(i:BT X pos es:=by rfl)(w:eval (.Call (.Attribute o m apos) (e::es) [] pos) X.env=(do
  let n <-eval o X.env
  standAt apos.atName let(f,first)<-holding [n] (getMethod n m pl)callWith pos f first (backTo pos (starEach (e::es) X.env)) (backToKw pos (keywordEach [] X.env))):=by rfl):PE X (.Call (.Attribute o m apos) (e::es) [] pos) (adH X C m sp dvs ta t):=by intro b s σ H Q I h;refine W.methodCall_KW (thn (J b s σ H _ I h) λu A d=>?_) w;obtain⟨x,N,v,K,a,P,fs,ex,z,l,q⟩:=d;subst ex;obtain rfl:=K;exact xx v z c j l (aqw  I.ok.mod.kin j.kp (thn (y pos b A σ N _ v q) λT R⟨vs,S,p,r,E,O,G⟩=>⟨p.kIn,zd (vs:=.ref a::vs) F B M D G p (.cons rfl r) O⟩) g i)
end
end L2
namespace WS
open PySem PySem.Spec PyProof.Rows L2
open WL(Res Sl Ws EF TF AF LF GF GsF SF Out XF XA FS Fs KO KF OX RF Sr)
section
variable{B:Bx}{σ:Ws}{σV:L2.St}{F H:Hp}{x:Addr}{o:HO}
def RS.anv(R:RS B σ σV F H)(j:F x=none)(A:B.H0 x=none)(n:H x=some o)(k:NF o)(D:∀l,o≠.lst l)(nd:∀l,o≠.dK l):RS B σ σV (upd F x o) H:=by
 have s:ax F (upd F x o):=az j _;refine⟨⟨λb u q=>?_,R.rb.base,R.rb.fz0.trans s,λb u q=>?_⟩,R.len,λi w q=>?_,λi ws q=>?_,R.ap,λi r y q=>?_,R.dd.ad,λi q=>?_⟩
 .by_cases e:b=x;.subst e;rw[aq]at q;cases q;exact n
  .rw[aj e]at q;exact R.rb.sub b u q
 .by_cases e:b=x;.subst e;rw[aq]at q;cases q;exact .inr ⟨A,k⟩
  .rw[aj e]at q;exact R.rb.fr b u q
 .obtain⟨v,d,c⟩:=R.va i w q;exact⟨v,d,c.keep s⟩
 .refine kR (R.ow i ws q) λa p d c h f g=>?_;have e:a≠x:=λz=>by grind
  exact adt a p d (by rw[aj e];exact c) h f (g.keep s)
 .refine agw (R.dd.od i r y q) λa l d c h f g m=>?_;exact agH a l d (by rw[aj λz=>by grind];exact c) h f (g.keep s) (m.keep s)
 .refine wy (R.dd.ob i q) λa C t d c=>?_;exact abp a C t d (s _ _ c)
end
end WS
namespace L2
open PySem PySem.Spec PyProof.Rows
end L2
namespace WS
open PySem PySem.Spec PyProof.Rows L2
open WL(Res Sl Ws EF TF AF LF GF GsF SF Out XF XA FS Fs KO KF OX RF Sr)
section
variable{X:Cx}{B:Bx}{K:W.Frag}
theorem v5{F k a}(b:RW K F k (kV a))(w:VW):∀{kvs ks us},RWs K F ks (kvs.map λp=>kV p.1)->RWs K F us (kvs.map λp=>p.2)->WL.fP k ks us=some w->∃v,sJ kvs a=some v/\RW K F w v
|[],ks,us,r1,r2,e=>by cases ks with|nil=>cases e|cons x ks=>simp[RWs]at r1
|p::kvs,ks,us,r1,r2,e=>by cases ks with|nil=>cases e|cons x ks=>cases us with|nil=>cases e|cons y us=>
  obtain⟨o,q,g,f,c⟩:=r1;obtain⟨r,n,m,l,j⟩:=r2;cases g;cases m;unfold WL.fP at e;rw[pV f b]at e;by_cases h:p.1=a;.rw[apa h]at e;cases e;exact⟨_,er h,l⟩
  .rw[aoe h]at e;obtain⟨v,d,i⟩:=v5 b w c j e;exact⟨v,by rw[et h];exact d,i⟩
def adf:Calm WL.tY:=λx y c h=>by
 unfold WL.tY at h;split at h
 .split at h;.revert h;cases WL.fP _ _ _<;>simp[WL.ofO]
  .cases h
 .exact abd _ _ _ h
set_option tactic.hygienic true
def aka(p:X.K=K):IxR X (lo2 K WL.tY):=by
 intro g d i s σ H x y v u Q I m k⟨F,wx,n,j,h,b,q⟩l;unfold WL.tY at q;split at q
 .rename_i A E;split at q;.rename_i t;obtain⟨f,rfl⟩:=aae t b;obtain⟨a,c,rfl,rd,o,D⟩:=h;cases e:WL.fP n A E with|none=>rw[e]at q;exact q.elim|some w=>rw[e]at q;obtain⟨z,r,C⟩:=v5 b w o D e;exact aaj _ _ _ s σ H _ _ v u Q I m k ⟨a,c,f,z,rfl,rfl,j.rd rd,r,eq1 q C⟩ l
  .exact q.elim
 .exact akb p _ _ _ s σ H x y v u Q I m k ⟨F,_,_,j,h,b,q⟩ l
set_option tactic.hygienic false
variable{i:Nat}{pos pos':Pos}{x:Str}
end
end WS
namespace L2
open PySem PySem.Spec PyProof.Rows
end L2
namespace WS
open PySem PySem.Spec PyProof.Rows L2
open WL(Res Sl Ws EF TF AF LF GF GsF SF Out XF XA FS Fs KO KF OX RF Sr)
end WS
namespace L2
open PySem PySem.Spec PyProof.Rows
end L2
namespace WS
open PySem PySem.Spec PyProof.Rows L2
open WL(Res Sl Ws EF TF AF LF GF GsF SF Out XF XA FS Fs KO KF OX RF Sr)
end WS
namespace L2
open PySem PySem.Spec PyProof.Rows PySem.Calls
end L2
namespace WS
open PySem PySem.Spec PyProof.Rows L2
open WL(Res Sl Ws EF TF AF LF GF GsF SF Out XF XA FS Fs KO KF OX RF Sr)
def aje(P:Program)(w:World)(K:W.Frag)(c:Str->Option Value)(a:Heap)(k:Nat)(C f:Addr)(m:Str)(ps:List Str)(sp:Sp):Prop:=Meth K C m f/\∃b:FuncData,FnOk P w K c a (CXX P w) k f b ps sp/\Binds K b ps []
def ah0{K f nm a st g od j d kV e h b ct}(l:K.lookup f=some ⟨g,od,.func (W.fnOf nm a (bE st) (aP st) (af st) .none kV e h j b ct),d⟩)(c:W.codeIn K b a=true)(q:W.keepIn K (.ref f)=true):∃i,Fun K nm a st f i:=⟨_,aax l c q⟩
def t9{P w K i b k C f nm a st ps sp}(M:Meth K C nm f)(D:∃c,Fun K nm a st f c)(l:∀kV e j m d ct g,g.length=ps.length->bindArgs (W.fnOf nm a (bE st) (aP st) (af st) .none kV e j m d ct) ⟨g,[]⟩=pure (ps.zip g))(h:∀c,Fun K nm a st f c->FnOk P w K i b (CXX P w) k f c ps sp):aje P w K i b k C f nm ps sp:=by obtain⟨c,F⟩:=D;exact⟨M,c,h _ F,F.binds l⟩
section
variable{X:Cx}{B:Bx}{a b e o:Expr}{ta tb to:EF}{pos pos' cpos apos p:Pos}{x fl m nx_:Str}{es:List Expr}{tas:AF}{i j k n d:Nat}{C f g:Addr}{ps:List Str}{fn:List VW->Res VW}{c:String}{pl:Sem Bool}
def wxD(l:B.K=X.K)(q:PE X a (lo B ta))(h:PE X b (lo B tb))(hs:jc b:=by exact λ_ _=>rfl):PE X (.Subscript a b pos) (lo B (WL.eOp WL.tY ta tb)):=agP adf (aka l.symm) q h hs
end
def Frs(K:W.Frag)(F H:Hp):List (Addr×Addr)->Fs->Prop|[],[]=>True|(b,c)::r,(h,is)::fs=>(∃a d,H b=some (.lst [a,.ref c])/\H c=some (.lst d)/\RW K F h a/\RWs K F is d)/\Frs K F H r fs|_,_=>False
noncomputable def adr:List (Addr×Addr)->List Addr|[]=>[]|(b,c)::r=>b::c::adr r
structure Stk(B:Bx)(F H:Hp)(a:Addr)(r:List (Addr×Addr))(fs:Fs):Prop where
 top:H a=some (.lst (r.reverse.map λp=>.ref p.1))frs:Frs B.K F H r fs
 nd:(a::adr r).Nodup
 own:∀x∈a::adr r,F x=none/\B.H0 x=none
section
variable{K:W.Frag}{F H F' H':Hp}
theorem Frs.len:∀{r:List (Addr×Addr)}{fs:Fs},Frs K F H r fs->r.length=fs.length|[],[],_=>rfl|(_,_)::r,(_,_)::fs,h=>by simp only[anV,Frs.len h.2]
theorem Frs.there:∀{r:List (Addr×Addr)}{fs:Fs},Frs K F H r fs->∀x∈adr r,∃l,H x=some (.lst l)
|[],_,_,x,a=>nomatch a|(b,c)::r,(h,is)::fs,q,x,a=>by
 obtain⟨⟨g,i,f,d,_,_⟩,e⟩:=q;simp only[adr,anS]at a;rcases a with rfl|rfl|a;.exact⟨_,f⟩
 .exact⟨_,d⟩
 .exact e.there x a
theorem Frs.via(s:ax F F'):∀{r:List (Addr×Addr)}{fs:Fs},(∀x∈adr r,∀o,H x=some o->H' x=some o)->Frs K F H r fs->Frs K F' H' r fs|[],[],_,_=>trivial|(b,c)::r,(h,is)::fs,k,q=>by obtain⟨⟨d,l,j,e,g,f⟩,i⟩:=q;exact⟨⟨d,l,k b (by simp[adr]) _ j,k c (by simp[adr]) _ e,g.keep s,f.keep s⟩,i.via s λx a=>k x (by simp[adr,a])⟩
end
section
variable{B:Bx}{a:Addr}{r:List (Addr×Addr)}{fs:Fs}{F H F' H':Hp}
theorem Stk.there(S:Stk B F H a r fs):∀x∈a::adr r,∃l,H x=some (.lst l):=λx b=>by
 rcases anS.mp b with rfl|b;.exact⟨_,S.top⟩
 .exact S.frs.there x b
structure RK(B:Bx)(j:Nat)(a:Addr)(g:List (Nat×Addr))(r:List (Addr×Addr))(fs:Fs)(σ:Ws)(σV:L2.St)(F H:Hp):Prop where
 rs:RS B σ σV F H
 no:σ[j]?=some .no
 at_:σV[j]?=some (some (.ref a))st:Stk B F H a r fs
 ap:∀(k:Nat)(ws:List VW)(x:Addr),σ[k]?=some (.ow ws)->σV[k]?=some (some (.ref x))->x∉a::adr r
 fx:∀p∈g,σV[p.1]?=some (some (.ref p.2))
variable{g:List (Nat×Addr)}{j:Nat}{σ:Ws}{σV:L2.St}
open Classical in noncomputable def fzS(F H:Hp)(l:List Addr):Hp:=λx=>if x∈l then H x else F x
end
def OqK(B:Bx)(j:Nat)(a:Addr)(g:List (Nat×Addr))(D:Ends)(F:Hp):KO->Prop|.nx σ' fs'=>∀b d c e,RK B j a g e fs' σ' b c d->ax F c->D.nx b d|.rt w=>∀v d c,RB B c d->ax F c->RW B.K c w v->D.rt v d|.bad=>False
section
variable{B:Bx}{g:List (Nat×Addr)}{j:Nat}{a:Addr}{r:List (Addr×Addr)}{fs:Fs}{σ:Ws}{σV:L2.St}{F H F' H':Hp}{D:Ends}
def OqK.mono(s:ax F F'){o:KO}(h:OqK B j a g D F o):OqK B j a g D F' o:=by cases o with|nx σ fs=>exact λσV H G r R z=>h σV H G r R (s.trans z)|rt w=>exact λv H G R z=>h v H G R (s.trans z)|bad=>exact h
def aiD{g:List (Nat×Addr)}{σV:L2.St}{i:Nat}{v:Option V}(h:∀p∈g,σV[p.1]?=some (some (.ref p.2)))(c:∀p∈g,p.1≠i):∀p∈g,(σV.set i v)[p.1]?=some (some (.ref p.2)):=λp b=>by rw[anF (anY (c p b))];exact h p b
theorem RK.set(R:RK B j a g r fs σ σV F H){i:Nat}{w:VW}{v:V}(d:i≠j)(f:∀p∈g,p.1≠i)(hw:RW B.K F w v):RK B j a g r fs (σ.set i (.va w)) (σV.set i (some v)) F H:=by
 refine⟨R.rs.set hw,by rw[anF d];exact R.no,by rw[anF d];exact R.at_,R.st,λk ws x b e=>?_,aiD R.fx f⟩;by_cases c:i=k
 .subst c;have h:i<σ.length:=by have:=(anM.mp b).1;simpa using this
  rw[anH h]at b;cases b
 .rw[anF c]at b e;exact R.ap k ws x b e
end
section
variable{B:Bx}{l:List Addr}{σ:Ws}{σV:L2.St}{F H F' H':Hp}
abbrev am2(B:Bx)(H:Hp)(l:List Addr):Bx:=⟨B.K,fzS B.H0 H l,B.F0,B.xp,B.mono⟩
end
section
variable{P:Program}{w:World}{K:W.Frag}{mg:Str->Option Value}{base:Heap}
open Classical in end
end WS
namespace WS
open PySem PySem.Spec PyProof.Rows L2
open WL(Res Sl Ws EF TF AF LF GF GsF SF Out XF XA FS Fs KO KF OX RF Sr)
def yg{X:Cx}{B:Bx}{c:List Stmt}:PSs X c (loS B WL.agf):=λb s d H D I a=>by obtain⟨σ,F,R,q⟩:=a;exact(show False from q).elim
structure Rsc(S:Type)where
 adr:S->Addr
 rel:W.Frag->S->List Addr->Hp->Hp->Prop
 mono:∀{K s l F H F' H'},rel K s l F H->ax F F'->(∀x∈l,∀o,H x=some o->H' x=some o)->rel K s l F' H'
 there:∀{K s l F H},rel K s l F H->∀x∈l,∃o,H x=some o/\NF o/\∀xs,o≠.tup xs
 val:S->VW
 fz:∀{K s l F H a od kvs},rel K s l F H->(∀x∈l,F x=none)->F a=some (.dK kvs)->rel K s l (upd F a (zD od kvs)) (upd H a (zD od kvs))th:∀{K s l F H a od kvs},rel K s l F H->(∀x∈l,F x=none)->F a=some (zD od kvs)->rel K s l (upd F a (.dK kvs)) (upd H a (.dK kvs))rw:∀{K s l F H F'},rel K s l F H->ax F F'->(∀x∈l,∀o,H x=some o->F' x=some o)->RW K F' (val s) (.ref (adr s))
variable{S:Type}
structure RX(M:Rsc S)(B:Bx)(s:S)(l:List Addr)(σ:Ws)(σV:L2.St)(F H:Hp):Prop where
 rs:RS (am2 B H l) σ σV F H
 fr:∀x∈l,F x=none/\B.H0 x=none
 re:M.rel B.K s l F H
def OqX(M:Rsc S)(B:Bx)(D:Ends)(F:Hp):OX S->Prop|.nx σ' s'=>∀a d b e,RX M B s' e σ' a b d->ax F b->D.nx a d|.bk σ' s'=>∀a d b e,RX M B s' e σ' a b d->ax F b->D.bk a d|.ct σ' s'=>∀a d b e,RX M B s' e σ' a b d->ax F b->D.ct a d|.rt w s'=>∀v d b e,RB (am2 B d e) b d->(∀x∈e,b x=none/\B.H0 x=none)->M.rel B.K s' e b d->ax F b->RW B.K b w v->D.rt v d|.ex c σ'=>B.xp c σ' F|.bad=>False
section
variable{M:Rsc S}{B:Bx}{s:S}{l:List Addr}{σ:Ws}{σV:L2.St}{F H F' H':Hp}{D:Ends}{X:Cx}
theorem OqX.mono(k:ax F F'){o}(h:OqX M B D F o):OqX M B D F' o:=by cases o with|nx σ s|bk σ s|ct σ s=>exact λσV H G l R z=>h _ H G l R (k.trans z)|rt w s=>exact λv H G l R r q z=>h v H G l R r q (k.trans z)|ex c σ=>exact B.mono c σ F _ k h|bad=>exact h
theorem RX.there(R:RX M B s l σ σV F H):∀x∈l,∃o,H x=some o:=λx a=>let⟨o,h,_⟩:=M.there R.re x a;⟨o,h⟩
variable{st:Stmt}{rest ss:List Stmt}{t:SF}{t1 t2:RF S}
end
variable{S:Type}
section
variable{M:Rsc S}{B:Bx}{s:S}{l:List Addr}{σ σ1:Ws}{σV:L2.St}{F H F' H':Hp}{D:Ends}{X:Cx}{j:Nat}
open Classical in variable{c:Expr}{tt:TF}{st:Stmt}{ss ss':List Stmt}{t1 t2 b:RF S}{pos:Pos}
end
end WS
namespace WS
open PySem PySem.Spec PyProof.Rows L2
open WL(Res Sl Ws EF TF AF LF GF GsF SF Out XF XA FS Fs KO KF OX RF Sr)
variable{S:Type}
variable{S:Type}
open Classical in section
variable{P:Program}{w:World}{K:W.Frag}{mg:Str->Option Value}{base:Heap}{M:Rsc S}
end
end WS
namespace WS
open PySem PySem.Spec PyProof.Rows L2
open WL(Res Sl Ws EF TF AF LF GF GsF SF Out XF XA FS Fs KO KF OX RF Sr)
variable{S:Type}
variable{S:Type}
end WS
set_option autoImplicit true
set_option relaxedAutoImplicit true
namespace L2
open PySem PySem.Spec PyProof.Rows WS
section
variable{K:W.Frag}{F F' H:Hp}
def FKy.via{k a}(h:FKy K F k a)(s:∀b c,SqT K F b c->SqT K F' b c):FKy K F' k a:=by obtain⟨bs,e,d⟩:=h;exact⟨bs,s _ _ e,Paired.ad7 d λ_ _ z=>s _ _ z⟩
def FKy.keep{k a}(h:FKy K F k a)(s:ax F F'):FKy K F' k a:=h.via λ_ _ z=>s.tup z
end
end L2
namespace WS
open PySem PySem.Spec PyProof.Rows L2
open WL(Res Sl Ws EF TF AF LF GF GsF SF Out XF XA FS Fs KO KF OX RF Sr)
section
variable{P:Program}{w:World}{B:Bx}{s:Sr}{l:List Addr}{σ:Ws}{σV:L2.St}{F H:Hp}{D:Ends}{X:Cx}{i j:Nat}{st:Stmt}{c:Expr}{ss ss':List Stmt}{t1 t2:RF Sr}{pos:Pos}
set_option tactic.hygienic true
theorem OqX.at_{M o}(q:OqX M B D F (WL.at_ j σ s o)):σ[j]?=some (.va (.id s.a))/\OqX M B D F o:=by
 unfold WL.at_ at q;split at q
 .rename_i b e;split at q;.rename_i a;subst a;exact⟨e,q⟩
  .exact(q).elim
 .exact(q).elim
set_option tactic.hygienic false
end
end WS
set_option autoImplicit true
set_option relaxedAutoImplicit true
namespace WS
open PySem PySem.Spec PyProof.Rows L2
open WL(Res Sl Ws EF TF AF LF GF GsF SF Out XF XA FS Fs KO KF OX RF Sr)
theorem z5 :∀{fs:List (Str×V)}{n:Nat},(fs.map (·.1)).Nodup->fs[n]?=some (f,v)->fs.lookup f=some v
|[],_,_,e=>by simp at e|(g,u)::fs,0,_,e=>by grind|(g,u)::fs,n+1,nd,e=>by
 simp only[aoa,aoF]at nd;have a:=by simpa using e
 have b:(f==g)=false:=aox.mpr λz=>nd.1 (z▸aoD.mpr ⟨(f,v),apY a,rfl⟩);simp only[List.lookup,b];exact z5 nd.2 a
def afC:∀{fs:List (Str×V)},f∉fs.map (·.1)->fs.lookup f=none|[],_=>rfl|(g,u)::fs,h=>by grind
section
variable{X:Cx}{B:Bx}{fl m:Str}{c:String}{C f:Addr}{fd:FuncData}{ps:List Str}{k n:Nat}{fn:List VW->Res VW}{e o:Expr}{es:List Expr}{to:EF}{tas:AF}{pos:Pos}
set_option tactic.hygienic true
def sT(I:X.K=B.K)(D:W.nsIn X.K mainGlobals (Str.ofString c)=some (some (.ref C)))(cl:Cls X.K C)(A:fg X.K C fl)(nd:(WL.uh c).Nodup)(j:(WL.uh c)[n]?=some fl)(T:PE X o (lo B to))(N:attributeBase o fl X.env (eval o X.env)=eval o X.env:=by rfl):PE X (.Attribute o fl pos) (lo B (WL.aaS c n to)):=PE.imp (adZ T N) λJ H Q p=>by
 obtain⟨σ,F,R,q⟩:=p;have q:=Rq.bind q;refine⟨σ,F,R,Rq.mono (ax.refl _) q λy b v P M u E i=>?_⟩;unfold WL.aiK at b;split at b
 .rename_i Z ws;split at b
  .rename_i d;have d:=eq_of_beq d;subst d;split at b
   .rename_i w U;simp only[RW]at i;obtain⟨a,C',K,S,rfl,G,z,s,_,r⟩:=i;rw[<-I,D]at z;cases z;obtain⟨Y,h,i⟩:=r.get U;rw[an7,aol]at h;obtain⟨⟨g,x⟩,t,rfl⟩:=h;have O:g=fl:=by have:=apS (λl=>l[n]?) s;simp only[an7,t,j,aqI]at this;exact an3 this
    subst O;exact⟨a,C,K,_,x,rfl,u.rb.sub _ _ G,cl,A,z5 (by rw[s];exact nd) t,b x P M u E i⟩
   .exact(b).elim
  .exact(b).elim
 .exact(b).elim
set_option tactic.hygienic false
def acy (r:X.K=B.K)(M:XW X B)(D:W.nsIn X.K mainGlobals (Str.ofString c)=some (some (.ref C)))(l:m∉WL.uh c)(G:∀σ ws,tas σ=.ok ws->ws.length+1=n):∀d H Q,lo B (WL.oy c fn to tas) d H Q->adH X C m (spX X.K n fn) [] (lo B to) (loA B tas) d H Q:=by
 intro d H Q⟨σ,F,R,q⟩;have q:=Rq.bind q;refine⟨σ,F,R,Rq.mono (ax.refl _) q λy b v P s u x t=>?_⟩;by_cases g:WL.isN c y=true
 .rw[anL g]at b;have b:=Rq.bind b;obtain⟨w,rfl⟩:∃w,y=.ins c w:=by
   unfold WL.isN at g;split at g;.rw[eq_of_beq g];exact⟨_,rfl⟩
   .cases g
  have h:=t;simp only[RW]at h;refine aj3 h λa T I N j E z J _ _=>?_;subst j;rw[<-r,D]at z;cases z;refine⟨a,I,_,rfl,u.rb.sub _ _ E,afC (by rw[J];exact l),σ,s,u,?_⟩;cases i:tas σ with|bad=>rw[i]at b;exact b|ex c=>rw[i]at b;exact B.mono c σ F s x.f b|ok ws=>rw[i]at b;exact λO U S K p A=>o7 r M K (x.trans p) (.cons (t.keep p.f) A) (by rw[anV];exact G σ ws i) b (by rw[aom])
 .rw[anK g]at b;exact(b).elim
end
section
variable{S:Type}{M:Rsc S}{B:Bx}{s:S}{l:List Addr}{σ:Ws}{σV:L2.St}{F H F' H':Hp}{D:Ends}{X:Cx}{j:Nat}{st:Stmt}{rest:List Stmt}{t1 t2:RF S}
def OqE(B:Bx)(D:Ends)(F:Hp):OX S->Prop|.rt w _=>∀v H' F',RB B F' H'->ax F F'->RW B.K F' w v->D.rt v H'|.ex c σ'=>B.xp c σ' F|_=>False
theorem OqE.mono(k:ax F F'){o:OX S}(h:OqE B D F o):OqE B D F' o:=by cases o with|rt w s=>exact λv H G a z r=>h v H G a (k.trans z) r|ex c σ=>exact B.mono c σ F _ k h|_=>exact h
end
theorem RWs.erase{K F}:∀{ws vs}i,RWs K F ws vs->RWs K F (ws.eraseIdx i) (vs.eraseIdx i)|[],_,i,h=>by subst h;simp[RWs]|w::ws,_,0,h=>by obtain⟨v,r,rfl,_,h⟩:=h;exact h|w::ws,_,i+1,h=>by obtain⟨v,r,rfl,a,h⟩:=h;exact⟨v,_,rfl,a,RWs.erase i h⟩
section
variable{P:Program}{w:World}{K:W.Frag}{mg:Str->Option Value}{base:Heap}{k m n:Nat}{nm:Str}{ps N:List Str}{st:Stmt}{fn:List VW->Res VW}
abbrev MgA(K:W.Frag)(mg:Str->Option Value):Prop:=∀nm v,W.nsIn K mainGlobals nm=some (some v)->mg nm=some v
abbrev BdA(nm:Str)(ps:List Str)(st:Stmt):Prop:=∀(kV b d:Value)(e:Option Addr)(a ct:Value)(c:List Value),c.length=ps.length->bindArgs (W.fnOf nm nm (bE st) (aP st) (af st) .none kV b d e a ct) ⟨c,[]⟩=pure (ps.zip c)
def AtD.dN(D:AtD K nm st)(q:MgA K mg)(t)(S:FnScope N ps (af st))(h:∀{e f A g s H E B},B.K=K->Room k (A.deeper (envOfC nm (af st) s.heap.objs.size f e))->XW (iI CX0 P w K mg base N nm (af st) f e A g s H E).nox B->PassesOwn (model P w) (A.deeper (envOfC nm (af st) s.heap.objs.size f e)) (envOfC nm (af st) s.heap.objs.size f e) (λ_ _=>False)->PSs (iI CX0 P w K mg base N nm (af st) f e A g s H E).nox (aP st) (loS B t))(p:BdA nm ps st:=by intro _ _ _ _ _ _ u h;first|exact bind1 (by intros;rfl) u h|exact uG (by intros;rfl) u h|exact uF (by intros;rfl) u h|exact ai9 (by intros;rfl) u h|exact aja (by intros;rfl) u h|exact ai8 (by intros;rfl) u h|exact ai7 (by intros;rfl) u h)(o:N.length=n:=by rfl)(l:ps.length=m:=by rfl)(j:WL.run n t=fn:=by rfl)(i:ps.length<=N.length:=by decide):Cal P w K mg base CX0 (k+1) nm ps [] (spW K m fn):=D.cal q p λ_ _ r=>qe t r S o l j i λ_ _ _ _ _ _ _ a b c d=>h a b c d
def AtD.dX(D:AtD K nm st)(q:MgA K mg)(t)(S:FnScope N ps (af st))(h:∀{g f A e s H E B},B.K=K->Room k (A.deeper (envOfC nm (af st) s.heap.objs.size f g))->XW (iI (CXX P w) P w K mg base N nm (af st) f g A e s H E) B->PassesOwn (model P w) (iI (CXX P w) P w K mg base N nm (af st) f g A e s H E).A (iI (CXX P w) P w K mg base N nm (af st) f g A e s H E).env (iI (CXX P w) P w K mg base N nm (af st) f g A e s H E).xe->PSs (iI (CXX P w) P w K mg base N nm (af st) f g A e s H E) (aP st) (loS B t))(p:BdA nm ps st:=by intro _ _ _ _ _ _ u h;first|exact bind1 (by intros;rfl) u h|exact uG (by intros;rfl) u h|exact uF (by intros;rfl) u h|exact ai9 (by intros;rfl) u h|exact aja (by intros;rfl) u h|exact ai8 (by intros;rfl) u h|exact ai7 (by intros;rfl) u h)(o:N.length=n:=by rfl)(l:ps.length=m:=by rfl)(j:WL.run n t=fn:=by rfl)(i:ps.length<=N.length:=by decide):Cal P w K mg base (CXX P w) (k+1) nm ps [] (spX K m fn):=D.cal q p λ_ _ r=>uj t r S o l j i λ_ _ _ _ _ _ _ a b c d=>h a b c d
end
section
variable{X:Cx}{B:Bx}{x:Str}{pos:Pos}
def wki{i q}{w:VW}(d:B.K=X.K)(b:X.mg x=some (.int i q))(hw:w=.int i:=by rfl)(c:Gl X x:=by rfl)(a:Dbg x:=by decide):PE X (.Name x pos) (lo B (WL.eC w)):=by subst hw;exact wk d b ⟨_,rfl⟩ (v:=.int i) (λF=>rfl) c a
end
section
variable{X:Cx}{B:Bx}{z:Addr}{j i:Nat}{σ:Ws}{σV:L2.St}{F H:Hp}{st:Stmt}{e:Expr}{xa xv xk:XF}{x:Str}{pos pos':Pos}
theorem RR.write(R:RR B z j σ σV F H){ws us:List VW}{vs zs:List V}{a:Addr}(b:i≠j)(e:σ[i]?=some (.ow ws))(l:σV[i]?=some (some (.ref a)))(g:F a=none)(t:B.H0 a=none)(c:H a=some (.lst vs))(m:RWs B.K F us zs):RR B z j (σ.set i (.ow us)) σV F (upd H a (.lst zs)):=by
 refine jQ R.rm λst p h s f r=>?_;have n:z≠a:=λw=>by subst w;rw[f]at c;cases c
 refine⟨?_,R.zs,R.nf,R.n0,λk o d q=>R.apd k o d (zR (sl:=.ow us) b (λz=>z) q).2,st,p,by rw[anF b];exact h,s,by rw[aj n];exact f,r⟩;rw[aoP _ _ b];exact R.rs.write (R.own b e) l g t c m
set_option tactic.hygienic true
def agx(h:PE X e (tBM X.K "list" adQ (jP i) (jj (loY B z j xa) abr)))(m:i≠j:=by decide):PE X e (loY B z j (WL.yb i xa)):=PE.imp h λσV H Q⟨σ,F,R,q⟩=>by unfold WL.yb at q;cases d:σ[i]? with|none=>rw[d]at q;exact q.elim|some sl=>rw[d]at q;cases sl with
|ow ws0=>refine kR (R.rs.ow i ws0 (R.own m d)) λa k f _ _ A _=>?_;have q:=Xq.bind (show Xq ((xa σ).bind λp=>WL.ajq i p.1 p.2 p.2[i]?) _ from q);refine⟨.ref a,f,.inl ⟨rfl,k,SqL.of A⟩,σ,F,R,Xq.mono q λp b v H1 P l M o=>?_⟩;cases c:p.2[i]? with|none=>rw[c]at b;exact b.elim|some sl=>
  rw[c]at b
  cases sl with|ow ys=>
   refine kR (l.rs.ow i ys (l.own m c)) λa' s r O N t g=>?_;rw[f]at r;cases r;unfold WL.ajq at b;dsimp only at b;split at b
   .rename_i n U;rw[U]at o;split at b
    .rename_i C;obtain⟨w,J,Z⟩:=C;split at b
     .rename_i y T;refine fy (g.get T) λu K S=>?_;have I:=g.length;have E:WL.lim<=2^62:=by decide
      have G:n<(s.length:Int):=by rw[<-I];exact J
      subst o;refine am7 a s n n.toNat u rfl rfl t (by omega) (by omega) ?_ K ?_
      .have D:¬n<0:=by omega
       simp[seqIndex?,D,w,G]
      .exact(show∀v H' Y,_ from b) u _ P (l.write m c f O N t (g.erase n.toNat)) M S
     .exact b.elim
    .exact b.elim
   .exact b.elim|_=>exact b.elim
|_=>exact q.elim
set_option tactic.hygienic false
def aet{a}(N:X.N.Nodup)(f:i≠j:=by decide)(J:X.N[i]?=some x:=by rfl)(I:Loc X.env.scope x:=by first|exact Or.inl rfl|exact Or.inr rfl)(hs:swapsWith (.Dict [] [] a) (some (.Name x pos')) pos.line X.env=pure false:=by rfl)(A:FL X x:=by first|exact .inl rfl|exact .inr rfl|assumption):PS X (.Assign [.Name x pos'] (.Dict [] [] a) pos) (loW B z j (WL.qV i)):=PS.imp (md N J I vu hs A) λD σV H⟨σ,F,R,q⟩=>by
 intro p c;refine jQ R.rm λst K G E o r=>?_;have u:z≠p:=λw=>by subst w;rw[o]at c;cases c
 refine(show∀v P O,_ from q) _ _ F ⟨?_,by rw[anF f];exact R.zs,R.nf,R.n0,λk h n t d=>?_,st,K,by rw[anF f];exact G,E,by rw[aj u];exact o,r⟩ (ax.refl _);.rw[aoP _ _ f];refine(R.rs.ajF c _).amw (R.rs.rb.sub.free c) (R.rs.rb.base.free c) aq rfl rfl λk h n _ M C=>?_;refine kR (R.rs.dd.od k h n M) λb l s _ _ y _=>?_;rw[C]at s;cases s;rw[c]at y;cases y
 .by_cases g:i=k
  .subst g;have m:i<σV.length:=by have:=(anM.mp d).1;simpa using this
   rw[anH m]at d;cases d;exact u rfl
  .rw[anF g]at d;rw[aoP _ _ f,anF g]at t;exact R.apd k h n t d
def sQ{o C b}(hu:X.A.units+1<cLine)(ho:PE X o (jP i))(hi:PE X C (loY B z j xk))(hv:PE X b (loY B z j xv))(h:i≠j:=by decide)(hs:swapsWith b (some (.Subscript o C pos')) pos.line X.env=pure false:=by rfl):PS X (.Assign [.Subscript o C pos'] b pos) (loW B z j (WL.iR i xv xk)):=PS.imp (tE hu ho hi hv hs) λD σV H⟨σ,F,R,q⟩=>by unfold WL.iR at q;cases s:σ[i]? with|none=>rw[s]at q;exact(show False from q).elim|some sl=>rw[s]at q;cases sl with
|od ks0 us0=>refine dE (R.rs.dd.od i ks0 us0 (by rw[anF (anY h)];exact s)) λa M f _=>?_;have q:=Ow.ofX (show Ow B z j D F (WL.ofX (xv σ) λp=>WL.ofX (xk p.2) λq=>WL.afc i p.1 q.1 q.2 q.2[i]?)from q);refine cx σ F R (Xq.mono q λp I v H1 F1 R1 s1 Z=>⟨.ref a,f,?_⟩);have I:=Ow.ofX I;refine cx p.2 F1 R1 (Xq.mono I λm c y H2 F2 R2 T O=>?_);cases K:m.2[i]? with
 |none=>rw[K]at c;exact(show False from c).elim
 |some sl=>rw[K]at c;cases sl with|od ks us=>
   have d:(m.2.set j .no)[i]?=some (.od ks us):=by rw[anF (anY h)];exact K
   refine agw (R2.rs.dd.od i ks us d) λa' E Q k2 k3 S U k6=>?_;rw[f]at Q;cases Q;have c:Ow B z j D F (if WL.sL m.1=true/\ks.length<WL.lim then .nx _ else .bad):=c;by_cases l:WL.sL m.1=true/\ks.length<WL.lim
   .rw[anL l]at c;obtain⟨a0,rfl⟩:=aae l.1 O;have hl:E.length<sizeLine:=by have:=U.length;rw[an0]at this;rw[<-this];exact anN l.2 hE
    obtain⟨p1,t⟩:=zl O (Z.keep T) U k6;refine⟨a,_,rfl,agc.k S hl,(show∀P H' F',_ from c) σV _ F2 ?_ (s1.trans T)⟩;refine jQ R2.rm λst ts e3 G Y r=>?_;have N:z≠a:=λw=>by subst w;exact R2.apd i ks us d f
    refine⟨?_,R2.zs,R2.nf,R2.n0,λk u A n J=>?_,st,ts,by rw[anF h];exact e3,G,by rw[aj N];exact Y,r⟩;.rw[aoP _ _ h];exact R2.rs.adx d f k2 k3 S p1 t
    .rw[aoP _ _ h]at n;by_cases g:i=k;.subst g;rw[f]at J;cases J;exact N rfl
     .rw[anF g]at n;exact R2.apd k u A n J
   .rw[anK l]at c;exact(show False from c).elim|_=>exact(show False from c).elim
|_=>exact(show False from q).elim
end
def amg(K:W.Frag)(c:String)(h:List Str)(x dx C:Addr)(F H:Hp)(Q:VK)(E:XK):Res VW->Prop|.ok (.ins c' ws)=>c'=c/\∀d a e,ax F a->ax a d->(∀b o,b≠x->H b=some o->d b=some o)->d x=some (.ins C dx e)->a x=none->(∀b o,a b=some o->F b=some o\/(b=x\/H b=none)/\NF o)->e.map (·.1)=h->RWs K a ws (e.map (·.2))->Q .non d|.ex c=>∀g f d a,ax F a->ax a d->(∀b o,b≠x->H b=some o->d b=some o)->(∀b o,a b=some o->F b=some o\/(b=x\/H b=none)/\NF o)->XR K a c g f->E (.ref g) f d|_=>False
def spN(K:W.Frag)(c:String)(a:List Str)(d:List VW->Res VW):Sp:=λe H Q E=>∃x b C F w v,e=[.ref x,v]/\H x=some (.ins C b [])/\Cls K C/\(∀f∈a,fg K C f)/\F x=none/\ax F H/\RW K F w v/\amg K c a x b C F H Q E (d [w])
section
variable{P:Program}{w:World}{K:W.Frag}{mg:Str->Option Value}{base:Heap}
def acM{nm B st f fd Z U k O Y S c a g G g1 g2}(Fn:Fun K nm B st f fd)(Sc:FnScope [Z,U] [Z,U] (af st))(a8:aP st=[O,Y,S])(a0:a≠g)(a6:a≠G)(b2:g≠G)(h:∀J A d s H E X,X=iI (CXX P w) P w K mg base [Z,U] B (af st) f J A d s H E->Room k X.A->PS X O (ajk K (jP 0) (jP 1) a)/\PS X Y (ajk K (jP 0) (qG X (spX K 1 g1) [] (jj (jP 1) abr)) g)/\PS X S (ajk K (jP 0) (wR (spW K 2 g2) [] (λ_ _ _=>False) (jj (jP 1) (jj (amv K (jP 0) g) abr))) G)):FnOk P w K mg base (CXX P w) (k+1) f fd [Z,U] (spN K c [a,g,G] (WL.amy c g1 g2)):=by
 refine aep Fn.ex λoc od b4 b5 pm an J ct b3 a7 lk a9=>?_;subst a7;refine acW lk a9 Sc λvs H Q E R=>by obtain⟨x,I,C,F,w,v,e,_⟩:=R;rw[e];rfl λA d s H vs Q E hr _ R=>?_;refine am5 R λx I C F M v e hH cl na hF sm r l=>?_;subst e;obtain⟨X,eX⟩:∃X,X=iI (CXX P w) P w K mg base [Z,U] B (af st) f J A d s H E:=⟨_,rfl⟩;rw[<-eX];refine aeq (h J A d s H E X eX (by rw[eX];exact hr)) λh1 h2 h3=>?_;rw[a8];have p1:n7 a v []=[(a,v)]:=rfl;have p2:∀n,n7 g n [(a,v)]=[(a,v),(g,n)]:=λn=>by simp[n7,a0]
 have p3:∀n v3,n7 G v3 [(a,v),(g,n)]=[(a,v),(g,n),(G,v3)]:=λn v3=>by simp[n7,a6,b2]
 have lx:∀N s e Ce D T H',Thr X N (L2.start [Z,U] [.ref x,v]) H' s e Ce D .none (some T)->E (.ref Ce) D H'->X.xe (.ref e) s:=λN s e Ce D T H' t q=>by subst eX;exact uc t q
 refine⟨_,eZ h1 (eZ h2 (ma h3)),?_⟩;refine⟨v,rfl,.ref x,rfl,x,C,I,[],rfl,hH,cl,na a (by simp),by simp,?_⟩;rw[p1];have j:∀{F H:Hp}{o:HO},F x=none->ax F H->ax F (upd H x o):=λhF sm b u q=>by rw[aj λz=>by rw[z,hF]at q;cases q];exact sm b u q
 have l:amg K c [a,g,G] x I C F H Q E ((g1 [M]).bind λp=>match g2 [M,p]with|.ok m=>.ok (.ins c [M,p,m])|_=>.bad):=l;refine⟨v,rfl,E,xY F [M] (j hF sm) (RWs.one r) rfl ?_,lx⟩
 cases e1:g1 [M]with|bad=>rw[e1]at l;exact l.elim|ex ce=>
  rw[e1]at l;intro Ce D H' F' O Y S fr xr;refine l Ce D H' F' O Y (λb o i q=>S b o (by rw[aj i];exact q)) (λb o q=>(fr b o q).imp id λz=>⟨?_,z.2⟩) xr;by_cases i:b=x;.exact .inl i
  .have:=z.1;rw[aj i]at this;exact .inr this|ok p=>
  rw[e1]at l;intro n H1 F1 O Y S fr rp;have b0:H1 x=some (.ins C I [(a,v)]):=S x _ aq;have a3:F1 x=none:=by cases e:F1 x with|none=>rfl|some o=>
    rcases fr x o e with z|z;.rw[hF]at z;cases z
    .have:=z.1;rw[aq]at this;cases this
  have a5:∀b o,F1 b=some o->F b=some o\/(b=x\/H b=none)/\NF o:=λb o q=>(fr b o q).imp id λz=>⟨by
   by_cases i:b=x;.exact .inl i
   .have:=z.1;rw[aj i]at this;exact .inr this,z.2⟩;have a4:∀b o,b≠x->H b=some o->H1 b=some o:=λb o i q=>S b o (by rw[aj i];exact q);refine⟨.ref x,rfl,x,C,I,[(a,v)],rfl,b0,cl,na g (by simp),by simp,?_⟩;rw[p2];have l:amg K c [a,g,G] x I C F H Q E (match g2 [M,p]with|.ok m=>.ok (.ins c [M,p,m])|_=>.bad):=l;refine⟨v,rfl,.ref x,rfl,x,C,I,[(a,v),(g,n)],n,rfl,aq,cl,na g (by simp),by simp[List.lookup,aox.mpr (anY a0)],xY F1 [M,p] (j a3 Y) ?_ rfl ?_⟩;.exact .cons (r.keep O) (RWs.one rp)
  cases e2:g2 [M,p]with|bad|ex ce=>rw[e2]at l;exact l.elim|ok m=>
   rw[e2]at l;intro v3 H2 F2 t1 t2 t3 a1 rm;have b1:H2 x=some (.ins C I [(a,v),(g,n)]):=t3 x _ aq;have a2:F2 x=none:=by cases e:F2 x with|none=>rfl|some o=>
     rcases a1 x o e with z|z;.rw[a3]at z;cases z
     .have:=z.1;rw[aq]at this;cases this
   refine⟨.ref x,rfl,x,C,I,[(a,v),(g,n)],rfl,b1,cl,na G (by simp),by simp,?_⟩;rw[p3];refine l.2 _ F2 [(a,v),(g,n),(G,v3)] (O.trans t1) (j a2 t2) (λb o i q=>?_) aq a2 (λb o q=>?_) rfl ?_;.rw[aj i];exact t3 b o (by rw[aj i];exact a4 b o i q)
   .rcases a1 b o q with z|z;.exact a5 b o z
    .refine .inr ⟨?_,z.2⟩;by_cases i:b=x;.exact .inl i
     .have y:=z.1;rw[aj i]at y;cases e:H b with|none=>exact .inr rfl|some u=>rw[a4 b u i e]at y;cases y
   .exact .cons ((r.keep O).keep t1) (.cons (rp.keep t1) (RWs.one rm))
end
section
variable{X:Cx}{B:Bx}{x:Str}{c:String}{C f:Addr}{fd:FuncData}{ps fl:List Str}{k:Nat}{fn:List VW->Res VW}{e:Expr}{es:List Expr}{tas:AF}{p pos pos':Pos}
def abE(P:X.K=B.K)(hx:XW X B)(M:Mk X.K C f)(cl:Cls X.K C)(na:∀f∈fl,fg X.K C f)(a3:fl≠[])(a6:W.nsIn X.K mainGlobals (Str.ofString c)=some (some (.ref C)))(a9:WL.uh c=fl)(G:FnOk X.prog X.w X.K X.mg X.base (CXX X.prog X.w) k f fd ps (spN X.K c fl fn))(hr:Room (k+1) X.A)(hg:Gl X x)(hm:X.mg x=some (.ref C))(hb:Binds X.K fd ps [])(ha:PA X (e::es) (loA B tas))(hn:∀σ ws,tas σ=.ok ws->ws.length=1:=by repeat first|exact kQ|apply ek)(a5:Dbg x:=by decide)(he:SE X e es:=by rfl)(a8:BT X pos es:=by rfl):PE X (.Call (.Name x p) (e::es) [] pos) (lo B (WL.oz c fn tas)):=PE.imp (ab7 M G hr hg hm hb .nil ha a5 he a8) λD H Q a2=>by refine dE a2 λσ F R q=>?_;have q:=Rq.bind q;refine cx σ F R ?_;cases ea:tas σ with|bad|ex c=>rw[ea]at q;exact q|ok ws=>
 rw[ea]at q;have hl:=hn σ ws ea;obtain⟨w,rfl⟩:∃w,ws=[w]:=by match ws,hl with|[w],_=>exact⟨w,rfl⟩
 have q:=Rq.bind (show Rq B σ F ((fn [w]).bind λy=>if WL.isN c y=true then Res.ok y else .bad) _ from q);intro vs A d i g1 r1 x h l b0 b2;refine fy (fG r1) λv a7 r3=>?_;subst a7;rw[aom];have hc:∀b o,A b=some o->b≠x/\b≠h/\upd (upd A h (.own x)) x (.ins C h []) b=some o:=λb o z=>by
  have N:b≠x:=λy=>by rw[y,l]at z;cases z
  have E:b≠h:=λy=>by rw[y,b0]at z;cases z
  exact⟨N,E,by rw[aj N,aj E];exact z⟩
 have ext:∀{a j:Hp},ax (noI d) a->ax a j->(∀b o,b≠x->upd (upd A h (.own x)) x (.ins C h []) b=some o->j b=some o)->(∀b o,a b=some o->noI d b=some o\/(b=x\/upd (upd A h (.own x)) x (.ins C h []) b=none)/\NF o)->Gr d A (jo d a) j/\RB B (jo d a) j/\ax a (jo d a):=λ{a j}s1 K s3 fr=>by
  have sH:ax A j:=λb o z=>s3 b o (hc b o z).1 (hc b o z).2.2;have a0:∀b o,a b=some o->d b=none->A b=none/\NF o:=λb o z n=>by
   rcases fr b o z with y|⟨y,nf⟩;.rw[zV y]at n;cases n
   .refine⟨?_,nf⟩;rcases y with y|y;.rw[y];exact l
    .cases g:A b with|none=>rfl|some u=>rw[(hc b u g).2.2]at y;cases y
  refine⟨⟨λb o z=>aim z,sH,λb o z n=>?_⟩,⟨λb o z=>?_,i.rb.base.trans sH,λb o z=>aim (i.rb.fz0 b o z),λb o z=>?_⟩,λb o z=>?_⟩;.rw[ail n];cases e2:a b with|none=>rfl|some u=>rw[(a0 b u e2 n).1]at z;cases z
  .cases g:d b with|some u=>rw[aim g]at z;cases z;exact sH b _ (i.rb.sub b _ g)|none=>rw[ail g]at z;exact K b o z
  .cases g:d b with|some u=>rw[aim g]at z;cases z;exact i.rb.fr b _ g|none=>rw[ail g]at z;obtain⟨N,E⟩:=a0 b o z g;exact .inr ⟨i.rb.base.free N,E⟩
  .cases g:d b with|none=>rw[ail g];exact z|some u=>have N:=sH b _ (i.rb.sub b _ g);have E:=K b o z;rw[N]at E;cases E;exact aim g
 have U:d x=none:=i.rb.sub.free l;refine⟨λS r j=>∃Ca a c,S=.ref Ca/\RS B σ D a j/\B.xp c σ a/\XR B.K a c Ca r,?_,λZ s e S r T H' t⟨Ca,a,c,ec,R2,xp,xr⟩=>?_⟩
 .refine am6 x h C (noI d) w v rfl aq cl na ?_ (λb o z=>?_) ?_ ?_;.cases g:noI d x with|none=>rfl|some u=>have:=i.rb.sub x _ (zV g);rw[l]at this;cases this
  .exact(hc b o (i.rb.sub b o (zV z))).2.2
  .rw[P];exact RW.one ((RWs.one r3).aly λb o z=>ahW z)
  .cases ef:fn [w]with|bad=>rw[ef]at q;exact q|ok wd=>
    rw[ef]at q;have q:Rq B σ F (if WL.isN c wd=true then Res.ok wd else .bad) _:=q;by_cases O:WL.isN c wd=true
    .rw[anL O]at q;obtain⟨ws,rfl⟩:∃ws,wd=.ins c ws:=by
      unfold WL.isN at O;split at O;.rw[eq_of_beq O];exact⟨_,rfl⟩
      .cases O
     refine⟨rfl,λj a m s1 K s3 b1 a4 fr I a1=>?_⟩;have Y:m≠[]:=λz=>by rw[z]at I;exact a3 I.symm
     obtain⟨J,rb,sj⟩:=ext s1 K s3 fr;have fx:jo d a x=none:=by rw[ail U];exact a4
     have nf:NF (.ins C h m):=by cases m with|nil=>exact(Y rfl).elim|cons _ _=>trivial
     have R3:RS B σ D (upd (jo d a) x (.ins C h m)) j:=(i.grow J rb).anv fx (i.rb.base.free l) b1 nf (λ_ z=>nomatch z) λ_ z=>nomatch z;refine⟨rfl,(show∀v H' F',_ from q) (.ref x) j _ R3 (g1.trans ⟨J.f.trans (az fx _),J.h,λb o z n=>?_⟩) ?_⟩;.rw[aj (hc b o z).1];exact J.nf b o z n
     .exact⟨x,C,h,m,rfl,aq,P▸a6,by rw[a9];exact I,Y,(show RWs B.K a ws _ from P▸a1).keep (sj.trans (az fx _))⟩
    .rw[anK O]at q;exact q.elim|ex c=>rw[ef]at q;intro S r j a s1 K s3 fr xr;obtain⟨J,rb,sj⟩:=ext s1 K s3 fr;exact qt S (jo d a) c rfl (i.grow J rb) (B.mono c σ F _ (g1.f.trans J.f) q) ((P▸xr).keep sj)
 .cases ec;exact hx Z D H' s σ a c R2 xp e S r (some T) _ t (by rw[P];exact xr)
end
end WS
namespace L2
open PySem PySem.Spec PyProof.Rows
section
variable{X:Cx}
def ahh:V->List V->Hp->VK->Prop:=λx d H Q=>∃l b c a,x=.ref l/\d=[.ref b]/\H l=some (.lst c)/\Rd H b (.lst a)/\c.length+a.length<=sizeLine/\Q .non (upd H l (.lst (c++a)))
def afx:MtM X "list.extend" ahh:=by
 intro j s σ H x D v M Q I w p h;refine aj3 h λl b C K g i m A G q=>?_;subst g i;cases w;obtain⟨u,rfl,y⟩:=p.one;cases y;obtain⟨z,c,n,r,E,e⟩:=I.alu m;obtain⟨J,a,t,k,B⟩:=A.ok I.hok;have o:=k.length;have f:c.toArray.size+a.toArray.size<=sizeLine:=by grind
 have d:¬(!c.toArray.isEmpty&&Builtin.List.listTooLong (c.toArray.size+a.toArray.size))=true:=by rw[ack f,Bool.and_false];exact an5
 refine aqT F.slot_list_extend ⟨_,e,rfl⟩ F.entry_list_extend (F.args_list_extend_2 _ _) (AutoSeq1.list_extend_list_list_0 l c.toArray n b a.toArray t d (by rw[aod];omega) (by omega)) ⟨e,B,.non,_,I.alv m e (by simp) (r.append k) ?_,rfl,q⟩;rw[aoh];omega
end
end L2
namespace WS
open PySem PySem.Spec PyProof.Rows L2
open WL(Res Sl Ws EF TF AF LF GF GsF SF Out XF XA FS Fs KO KF OX RF Sr)
section
variable{X:Cx}{B:Bx}{st:Stmt}{i:Nat}{ta:EF}
def agK(z:X.K=B.K)(l:noL X.K=true)(h:PS X st (yU (tBM X.K "list" ahh (jP i) (jj (lo B ta) abr)))):PS X st (loS B (WL.ajl i ta)):=PS.imp h λD g H k=>by refine dE k λσ F R q=>?_;have q:Oq B D F (match σ[i]? with|some (.ow ws)=>WL.ofR σ (ta σ) _|_=>.bad):=q;cases e:σ[i]? with|none=>rw[e]at q;exact q.elim|some sl=>rw[e]at q;cases sl with|no|va _|od _ _|ob=>exact q.elim|ow ws=>
  refine kR (R.ow i ws e) λa r o y E f t=>?_;have q:=Oq.ofR q;refine⟨.ref a,o,.inl ⟨rfl,r,SqL.of f⟩,σ,F,R,Rq.mono (ax.refl _) q λw c v G A s d x=>?_⟩
  cases w with|lst zs=>
  refine gH x λb C j n u=>?_;subst j;have c:Oq B D F (if ws.length+zs.length<=WL.lim then Out.nx _ else .bad):=c;by_cases m:ws.length+zs.length<=WL.lim;.rw[anL m]at c;have p:=d.h a _ f;rw[<-z]at n;exact⟨a,b,r,C,rfl,rfl,p,s.rb.sub.rd (SqL.here l n),by rw[<-t.length,<-u.length];exact anQ m hE,c g _ A (s.write e o (d.nf a _ f y) E p ((t.keep d.f).app u)) d.f⟩
  .rw[anK m]at c;exact(c).elim|_=>exact(show False from c).elim
end
end WS
namespace L2
open PySem PySem.Spec PyProof.Rows PySem.W
section
variable{P:Program}{w:World}{H H':Hp}{h h':Heap}{a:Addr}{o:HO}
theorem dD.some(x:dD P w H h a o):∃u,h.get? a=some u:=by cases o with|lst xs=>obtain⟨_,_,_,_,e⟩:=x;exact⟨_,e⟩|tup xs=>obtain⟨_,_,_,o,e,_⟩:=x;exact⟨_,e⟩|dK kvs|dT kvs=>obtain⟨_,_,_,_,o,_,_,e,_⟩:=x;exact⟨_,e⟩|set S n=>refine aj4 x λo _ _ _ e _=>?_;exact⟨_,e⟩|ins C dx fs=>refine ajg x λ_ _ _ e _=>?_;exact⟨_,e⟩|own y=>exact x|xd fs=>obtain⟨_,⟨_,_,_,e,_⟩,_⟩:=x;exact⟨_,e⟩|rng lo hi=>obtain⟨_,_,_,e⟩:=x;exact⟨_,e⟩|frz ob u=>exact⟨_,x.1⟩|tbl ps|met f y=>exact⟨_,x⟩|ext φ=>exact x.2.1
end
def ahV{h:Heap}{L:Addr}{m f:Str->Option Value}(a:h.Ns L m)(b:h.Ns L f):m=f:=by refine uO a λo p q l g _ j=>?_;refine uO b λn k i d c _ e=>?_;rw[l]at d;cases d;rw[g]at c;cases c;funext x;rw[<-j,<-e]
section
variable{X:Cx}{pins:List (Addr×Obj)}{σ:List (Option V)}{H:Hp}{s:Shared}{h':Heap}
def Inv.alB{D:Addr}{m:Str->Option Value}{ys:List V}{its:List Value}{n:Nat}(I:Inv X pins σ H s)(r:s.heap.Ns X.env.locals m)(F:Fr X.base X.env.locals h' m)(N:News X.base X.env.locals h' ((D,listOf its.toArray n)::kC X.base s.heap X.env.locals))(g:∀q∈kC X.base s.heap X.env.locals,q.1<D)(t:Vals ys its)(hz:ys.length<=sizeLine):H D=none/\Inv X pins σ (upd H D (.lst ys)) {s with heap:=h'}:=by
 have h:=N _ (.head _);have j:s.heap.get? D=none:=by cases e:s.heap.get? D with|none=>rfl|some o=>exact absurd (g _ (i6 h.2.1 h.2.2 e)) (aoX _)
 have i:H D=none:=by cases e:H D with|none=>rfl|some u=>obtain⟨o,z⟩:=(I.hok D u e).some;rw[j]at z;cases z
 have keep:∀b o,b≠X.env.locals->s.heap.get? b=some o->h'.get? b=some o:=λb o a e=>by cases q:X.base.get? b with|some u=>have:=I.bk b u q;rw[e]at this;cases this;exact F.keep b _ q|none=>exact(N (b,o) (.tail _ (i6 a q e))).1
 have d:∀b u,H b=some u->b≠D:=λb u e z=>by rw[z,i]at e;cases e
 refine⟨i,I.yY (g':=s.gens) (t':=s.toks) (d':=s.drawn) (ch:=[]) (λ_ z=>nomatch z) (λb o a _ _ e _=>keep b o a e) (λb o a _ _ e _=>⟨o.slots,keep b o a e⟩) (λb o _ e n=>?_) (λb o _ e=>?_) (λb p e=>?_) (λb o u e=>?_) (λb x e=>⟨#[],?_⟩) (λw k=>?_) (λb u e=>?_) I.bare⟩;.rw[aj λz=>by rw[z,j]at e;cases e];exact n
 .by_cases a:b=X.env.locals;.refine wy F.ns λl _ _ z _=>?_;rw[a];exact⟨l,z⟩
  .exact⟨o,keep b o a e⟩
 .rw[aj (d b _ e)];exact e
 .rw[aj (d b _ e)];exact e
 .rw[aj (d b _ e),e];simp
 .rw[<-ahV r k];exact F.ns
 .by_cases a:b=D;.subst a;rw[aq]at e;cases e;exact⟨hz,its,n,t,h.1⟩
  .rw[aj a]at e;refine(I.hok b u e).u6 (λc v f q=>keep c v ?_ q) (λc q=>?_) λc p q=>?_
   .intro z;rcases f with f|f;.rw[<-f,z,I.free]at e;cases e
    .rw[z,I.free]at f;cases f
   .rw[aj (d c _ q)];exact q
   .rw[aj (d c _ q)];exact q
end
abbrev ame(K:W.Frag)(H:Hp):List V->List (Int×Int)->Prop:=Paired λv q=>∃a,v=.ref a/\SqT K H a [.int q.1,.int q.2]
abbrev fW(h:Heap):List Value->List (Int×Int)->Prop:=Paired λu q=>∃a o n b c,u=.ref a/\h.get? a=some o/\o.cls=.type "tuple"/\o.data=.seq #[.int q.1 b,.int q.2 c] n
theorem qE{X:Cx}{pins σ H s}(I:Inv X pins σ H s):∀{vs ps its},ame X.K H vs ps->Vals vs its->fW s.heap its ps|_,_,_,.nil,.nil=>.nil|_,_,_,.cons h t,.cons r rs=>by refine .cons ?_ (qE I t rs);obtain⟨a,rfl,b⟩:=h;cases r;obtain⟨its,j,⟨o,i,f,n,c⟩,_⟩:=I.tuple b;obtain⟨u,l,rfl,⟨g,d⟩,⟨e,k⟩⟩:=vals2 j;subst d k;exact⟨a,o,n,g,e,rfl,i,f,c⟩
theorem fW.get{h:Heap}:∀{its ps},fW h its ps->∀i,i<ps.length->∃a o n b c,its.getD i Value.none=.ref a/\h.get? a=some o/\o.cls=.type "tuple"/\o.data=.seq #[.int (ps.getD i (0,0)).1 b,.int (ps.getD i (0,0)).2 c] n|_,_,.nil,i,hi=>absurd hi (aoG _)|_,_,.cons h t,0,_=>h|_,_,.cons h t,i+1,hi=>by have:=fW.get t i (by simpa using hi);simpa using this
theorem fW.len{h:Heap}:∀{its ps},fW h its ps->its.length=ps.length|_,_,.nil=>rfl|_,_,.cons _ t=>by simp[fW.len t]
theorem fW.kat{h:Heap}:∀{its ps},fW h its ps->∃fs,KatTups h its fs/\fs.length=ps.length/\∀v∈fs,∃i t,v=Value.int i t
|_,_,.nil=>⟨[],.nil,rfl,λ_ z=>nomatch z⟩|_,_,.cons h t=>by
 refine aj2 h λa o n m l b j f d=>?_;subst b;refine je (fW.kat t) λfs k g e=>?_;refine⟨_::fs,.cons j f d rfl k,by simp[g],λv c=>?_⟩;rcases anS.mp c with rfl|c;.exact⟨_,_,rfl⟩
 .exact e v c
section
variable{prog:Program}{w:World}{A:Around}{s:Shared}
def adk{its ps i j}{C:Bool->Shared->Prop}(T:fW s.heap its ps)(m:i<ps.length)(l:j<ps.length)(h:C (WL.ltP (ps.getD i (0,0)) (ps.getD j (0,0))) s):kas_ask prog w A (tuples' true) its i j C s:=by
 refine aj2 (T.get i m) λa o n z v e r B f=>?_;refine aj2 (T.get j l) λu x y t k g c p b=>?_;unfold kas_ask;rw[e,g];refine kat_lt r f c b ?_;show KatLex prog w A true (decide (2<2)) C [(_,_),(_,_)] 0 s;refine kat_cons (aqt (kat_go (λq=>kat_yes (kat_cons (aqt (kat_go (λd=>kat_yes (kat_nil ?_)) λd=>kat_no ?_)))) λq=>kat_no ?_))
 .have:WL.ltP (ps.getD i (0,0)) (ps.getD j (0,0))=false:=by unfold WL.ltP;rw[anL q,eq_of_beq d];exact aoe (Int.lt_irrefl _)
  rw[this]at h;exact h
 .have:WL.ltP (ps.getD i (0,0)) (ps.getD j (0,0))=decide ((ps.getD i (0,0)).2<(ps.getD j (0,0)).2):=by unfold WL.ltP;rw[anL q]
  rw[this]at h;exact kat_one _ _ (lt_int h)
 .have:WL.ltP (ps.getD i (0,0)) (ps.getD j (0,0))=decide ((ps.getD i (0,0)).1<(ps.getD j (0,0)).1):=by unfold WL.ltP;rw[anK (by rw[q];simp)]
  rw[this]at h;exact oneLt_int h
theorem qX{its ps}{G:Array Nat->Shared->Prop}(T:fW s.heap its ps):∀t:KasT (Array Nat),WL.okT ps.length t=true->G (WL.agg (λi j=>WL.ltP (ps.getD i (0,0)) (ps.getD j (0,0))) t) s->t.kasWp (kas_ask prog w A (tuples' true) its) G s
|.ret p,_,h=>h|.ask i j k,ok,h=>by
 have ok:(decide (i<ps.length)&&decide (j<ps.length)&&WL.okT ps.length (k true)&&WL.okT ps.length (k false))=true:=ok;simp only[an6,aog]at ok;refine adk T ok.1.1.1 ok.1.1.2 ?_;refine qX T (k _) ?_ h;cases WL.ltP (ps.getD i (0,0)) (ps.getD j (0,0));.exact ok.2
 .exact ok.1.2
end
theorem qY{n c}:∀t:KasT (Array Nat),WL.okT n t=true->(WL.agg c t).size=n
|.ret p,h=>eq_of_beq h|.ask i j k,h=>by
 have ok:(decide (i<n)&&decide (j<n)&&WL.okT n (k true)&&WL.okT n (k false))=true:=h;simp only[an6,aog]at ok;refine qY (k (c i j)) ?_;cases c i j;.exact ok.2
 .exact ok.1.2
theorem yE:∀(l:List Nat){vs its},Vals vs its->Vals (l.map λi=>vs.getD i V.non) (l.map λi=>its.getD i Value.none)|[],_,_,_=>.nil|i::l,vs,its,r=>by refine .cons ?_ (yE l r);simp only[anI];cases e:vs[i]? with|some v=>obtain⟨u,b,a⟩:=r.get e;rw[b];exact a|none=>
   have:its[i]?=none:=by rw[aqs]at e⊢;rw[<-r.length];exact e
   rw[this];rfl
def si{X:Cx}:bN X (.builtin "sorted") λy H Q=>∃p vs d,y=[.ref p]/\SqL X.K H p vs/\ame X.K H vs d/\2<=d.length/\d.length<64/\WL.okT d.length (kas_sort d.length)=true/\∀l,H l=none->Q (.ref l) (upd H l (.lst ((WL.ixs d).map λi=>vs.getD i V.non))):=by
 intro J s σ H y us Q I rx⟨p,vs,d,e,k,hp,h2,j,ok,q⟩;subst e;obtain⟨u,rfl,Y⟩:=rx.one;cases show u=Value.ref p from Y;refine je (I.list k) λg B pl hz=>?_;have T:=qE I hp B;have P:=T.len;refine fy (id I.loc) λm w _=>?_;have F:Fr X.base X.env.locals s.heap m:=⟨w,I.bk,anQ I.ok.bsz I.ok.above⟩;refine kat_sorted (vs:=g) F acn pl.isList (by omega) (by omega) λD e1 h x A f=>?_;have keep:∀b o,b≠X.env.locals->s.heap.get? b=some o->h.get? b=some o:=λb o U e=>by cases q:X.base.get? b with|some u=>have:=I.bk b u q;rw[e]at this;cases this;exact x.keep b _ q|none=>exact(A (b,o) (.tail _ (i6 U q e))).1
 have G:fW h g d:=Paired.imp' (λu q⟨a,o,n,t1,t2,z1,E,Z,K⟩=>⟨a,o,n,t1,t2,z1,keep a o (λz=>by refine wu w λo' es ep M C _=>?_;rw[<-z,E]at M;cases M;rw[K]at C;cases C) E,Z,K⟩) T;refine je G.kat λfs N fl S=>?_;refine kat_kind (T:=.type "int") (s:={s with heap:=h}) N (by omega) (λv hv=>?_) (by decide) ?_;.obtain⟨i,t,rfl⟩:=S v hv;exact .now
 .rw[P];refine qX (s:={s with heap:=h}) G _ ok ?_;refine KasFin.intro x A (.head λq k=>anW (f q k)) λa0 c O N2=>?_;have r:(WL.ixs d).length=d.length:=by unfold WL.ixs;rw[ap8];exact qY _ ok
  obtain⟨R,I2⟩:=I.alB (ys:=(WL.ixs d).map λi=>vs.getD i V.non) w O N2 f (yE _ B) (by rw[an0,r];exact anQ (apX j) (by decide));exact jd (.ref D) _ I2 rfl (q D R)
end L2
namespace WS
open PySem PySem.Spec PyProof.Rows L2
open WL(Res Sl Ws EF TF AF LF GF GsF SF Out XF XA FS Fs KO KF OX RF Sr)
section
variable{X:Cx}{K:W.Frag}
set_option tactic.hygienic true
theorem vp{F:Hp}:∀{ws:List VW}{ps vs},WL.prs ws=some ps->RWs K F ws vs->ame K F vs ps
|[],_,_,e,r=>by cases e;cases r;exact .nil|w::ws,ps,vs,e,r=>by
 obtain⟨v,l,rfl,q,t⟩:=r;unfold WL.prs at e;split at e;.rename_i h;cases h
 .rename_i a b j h;cases h;obtain⟨f,g,rfl⟩:=aol.mp e;refine .cons ?_ (vp g t);obtain⟨x,n,rfl,c,k⟩:=q;obtain⟨m,o,rfl,i,d⟩:=two_of k;cases i;cases d;exact⟨x,rfl,c⟩
 .cases e
set_option tactic.hygienic false
theorem adN{F:Hp}:∀(l:List Nat){ws vs},RWs K F ws vs->RWs K F (l.map λi=>ws.getD i .non) (l.map λi=>vs.getD i V.non)|[],_,_,_=>rfl|i::l,ws,vs,r=>by refine .cons ?_ (adN l r);simp only[anI];cases e:ws[i]? with|some w=>obtain⟨v,b,a⟩:=r.get e;rw[b];exact a|none=>
   have:vs[i]?=none:=by rw[aqs]at e⊢;rw[<-r.length];exact e
   rw[this];rfl
def xT:∀a c,WL.kP a≠.ex c:=λa c h=>by
 unfold WL.kP at h;split at h
 .split at h;.split at h<;>cases h
  .cases h
 .cases h
set_option tactic.hygienic true
def aeJ(g:X.K=K):bN X (.builtin "sorted") (loN K WL.kP):=by
 subst g;refine bN.imp si λp H Q d=>?_;refine gH d λF ws s r q=>?_;unfold WL.kP at q;split at q
 .rename_i t;split at q
  .rename_i o i;split at q;.rename_i c;simp only[an6,aog]at c;refine fy (fG r) λv b h=>?_;subst b;refine gH h λa j b m e=>?_;subst b;refine⟨a,j,o,rfl,s.seq m,Paired.imp' (λv q⟨x,f,n⟩=>⟨x,f,s.tup n⟩) (vp i e),c.1.1,c.1.2,c.2,λl k=>?_⟩;exact alR s q (adN _ e) k
   .exact q.elim
  .exact q.elim
 .exact q.elim
set_option tactic.hygienic false
end
section
variable{X:Cx}{B:Bx}{ta:EF}
def yk{a:Expr}{p A pos b:Pos}(Y:X.K=B.K)(T:X.calm=true)(S:Gl X "list")(N:X.mg "list"=none)(C:Gl X "range")(s:X.mg "range"=none)(h:PE X a (lo B ta))(hs:starEach [a] X.env=[(false,eval a X.env)]:=by rfl)(o:starEach [a] X.env=(false,eval a X.env)::starEach [] X.env:=by rfl)(O:("list":Str)≠"__name__":=by decide)(u:(("list":Str)==("__debug__":Str))=false:=by decide)(J:starEach [Expr.Call (.Name "range" A) [a] [] b] X.env=(false,eval (.Call (.Name "range" A) [a] [] b) X.env)::starEach [] X.env:=by rfl)(z:BT X pos []:=by rfl):PE X (.Call (.Name "list" p) [.Call (.Name "range" A) [a] [] b] [] pos) (loL B (WL.lLR ta)):=PE.imp (rh (qk T) S N boot_list (bL (zy C s (aa h ah o) hs) e7 J) O u J z) λg H Q m=>by
  refine dE m λσ F R q=>?_;have q:=Rq.bind q;have U:Rq B σ F (WL.ae ta WL.aw σ) λws=>∀k f d,RS B σ g d f->Gr F H d f->RWs B.K d ws k->∃j:Int,k=[.int j]/\-2^62<=j/\j<2^62/\∀r,f r=none->∃(G:Addr)(n:Nat),[V.ref r]=[V.ref G]/\upd f r (.rng 0 j) G=some (.rng 0 n)/\n<=1000/\∀l,upd f r (.rng 0 j) l=none->Q (.ref l) (upd (upd f r (.rng 0 j)) l (.lst ((List.range n).map λi=>V.int (i:Nat)))):=by show Rq B σ F ((ta σ).bind λx=>.ok [x]) _;cases e:ta σ with
 |ok x=>
    rw[e]at q;intro k H1 Z I M K;refine fy (fG K) λv y E=>?_;subst y
    cases x with|int j=>
     simp only[RW]at E;subst E;have q:Rq B σ F (if 0<=j/\j<=1000 then Res.ok (WL.rng 0 j.toNat)else .bad) _:=q;by_cases D:0<=j/\j<=1000
     .rw[anL D]at q;refine⟨j,rfl,by omega,by omega,λr w=>⟨r,j.toNat,rfl,?_,by omega,λl P=>?_⟩⟩;.rw[aq];congr 2;omega
      .have t:=I.rb.sub.free w;have R2:=I.new w (.rng 0 j);have go:∀(d:Hp)(is:List Nat),RWs B.K d (is.map λi=>WL.W.int (0+(i:Nat))) (is.map λi=>V.int (i:Nat)):=λd is=>by induction is with|nil=>rfl|cons i is ih=>exact .cons (by simp[RW]) ih
       exact alk R2 (M.trans (Gr.new t w _)) (go _ _) P q
     .rw[anK D]at q;exact q.elim|_=>exact(show False from q).elim
 |ex c=>rw[e]at q;exact q|bad=>rw[e]at q;exact q
  exact cx σ F R U
end
end WS
namespace L2
def alG:List Nat->TGs|[]=>kN|i::is=>bu (au i) (alG is)
end L2
namespace WS
open PySem PySem.Spec PyProof.Rows L2
open WL(Res Sl Ws EF TF AF LF GF GsF SF Out XF XA FS Fs KO KF OX RF Sr)
section
variable{X:Cx}{B:Bx}{z:Addr}{j:Nat}{F H:Hp}
theorem vQ{Q:L2.St->Hp->Prop}:∀{is:List Nat}{ws:List VW}{vs:List V}{σ:Ws}{b:L2.St},j∉is->ws.length=is.length->RR B z j σ b F H->RWs B.K F ws vs->(∀a,RR B z j (WL.nK is ws σ) a F H->Q a H)->alG is vs b H Q|[],[],_,_,_,_,_,R,r,q=>by cases r;exact⟨rfl,q _ R⟩|i::is,w::ws,_,σ,b,hj,hl,R,r,q=>by obtain⟨v,c,rfl,d,t⟩:=r;exact⟨v,c,rfl,vQ (λz=>hj (anU _ z)) (by simpa using hl) (R.set (λz=>hj (by simp[z])) d) t q⟩|[],_::_,_,_,_,_,hl,_,_,_=>by cases hl|_::_,[],_,_,_,_,hl,_,_,_=>by cases hl
def ads{is:List Nat}{m:XF}{es:List Expr}{k:Nat}{e:Expr}{pos b:Pos}(A:B.K=X.K)(K:X.calm=true)(I:PE X e (loY B z j m))(J:PGs X es (alG is))(E:j∉is:=by decide)(C:(assignEach es X.env).length=is.length:=by rfl)(h:(assignEach es X.env).findIdx? (·.1)=none:=by rfl)(hs:swapsWithSole [.Tuple es k b] e pos.line X.env=pure false:=by rfl)(hw:swappedStores [.Tuple es k b] e X.env=pure none:=by rfl)(x:(assignEach [.Tuple es k b] X.env).map (·.2)=[assign (.Tuple es k b) X.env]:=by rfl):PS X (.Assign [.Tuple es k b] e pos) (loW B z j (WL.tq is m)):=PS.imp (adU I (adW K J C h) hs hw x) λD u H⟨σ,F,R,q⟩=>by
 have q:=Ow.ofX q;refine cx σ F R (Xq.mono q λp d v o l n s r=>?_)
 obtain⟨w,g⟩:=p;cases w with|tup ws=>
 have d:Ow B z j D F (if ws.length=is.length then Out.nx (WL.nK is ws g)else .bad):=d;by_cases f:ws.length=is.length;.rw[anL f]at d;refine gH r λa y i G t=>?_;subst i;exact xY a y rfl (by rw[<-A];exact n.rs.rb.sub.tup G) (by rw[<-t.length];exact f) (vQ E f n t λc R2=>(show∀c o l,_ from d) c o l R2 s)
 .rw[anK f]at d;exact d.elim|_=>exact(show False from d).elim
end
section
variable{X:Cx}{B:Bx}{e o:Expr}{es:List Expr}{pos apos p:Pos}{x m:Str}{ps fl:List Str}{ds:List Value}{sp:Sp}{t:TA}{j k n:Nat}{c:String}{C f g:Addr}{fn:List VW->Res VW}{tas:AF}{to:EF}{pl:Sem Bool}
def pcX(h:Room j X.A)(G:Cal X.prog X.w X.K X.mg X.base (CXX X.prog X.w) k x ps ds sp)(s:PA X (e::es) t)(i:k<=j:=by decide)(r:Gl X x:=by rfl)(a:Dbg x:=by decide)(l:SE X e es:=by rfl)(d:BT X pos es:=by rfl):PE X (.Call (.Name x p) (e::es) [] pos) (qG X sp [] t):=by obtain⟨f,u,F,m,q,b,_⟩:=G;exact pG F (h.mono i) r m q b .nil s a l d
def pc0(h:Room j X.A)(G:Cal X.prog X.w X.K X.mg X.base CX0 k x ps ds sp)(s:PA X (e::es) t)(i:k<=j:=by decide)(r:Gl X x:=by rfl)(a:Dbg x:=by decide)(l:SE X e es:=by rfl)(d:BT X pos es:=by rfl):PE X (.Call (.Name x p) (e::es) [] pos) (wR sp [] (λ_ _ _=>False) t):=by obtain⟨f,u,F,m,q,b,_⟩:=G;exact pH F (h.mono i) r m q b .nil zC s a l d
def mkN(D:B.K=X.K)(q:Room j X.A)(w:XW X B)(M:Mk X.K C f)(cl:Cls X.K C)(l:∀f∈fl,fg X.K C f)(r:W.nsIn X.K mainGlobals (Str.ofString c)=some (some (.ref C)))(G:ami X.prog X.w X.K X.mg X.base k f ps (spN X.K c fl fn))(s:X.mg x=some (.ref C))(u:PA X (e::es) (loA B tas))(y:k+1<=j:=by decide)(v:∀σ ws,tas σ=.ok ws->ws.length=1:=by repeat first|exact kQ|apply ek)(d:WL.uh c=fl:=by rfl)(i:fl≠[]:=by decide)(A:Gl X x:=by rfl)(a:Dbg x:=by decide)(z:SE X e es:=by rfl)(h:BT X pos es:=by rfl):PE X (.Call (.Name x p) (e::es) [] pos) (lo B (WL.oz c fn tas)):=by obtain⟨E,F,b⟩:=G;exact abE D.symm w M cl l i r d F (q.mono y) A s b u v a z h
def meN(z:B.K=X.K)(l:Room j X.A)(v:XW X B)(r:W.nsIn X.K mainGlobals (Str.ofString c)=some (some (.ref C)))(cl:Cls X.K C)(G:aje X.prog X.w X.K X.mg X.base k C g m ps (spX X.K n fn))(y:PE X o (lo B to))(s:PA X (e::es) (loA B tas))(u:∀σ ws,tas σ=.ok ws->ws.length+1=n)(w:k<=j:=by decide)(h:m∉WL.uh c:=by decide)(a:SE X e es:=by rfl)(d:BT X pos es:=by rfl)(q:eval (.Call (.Attribute o m apos) (e::es) [] pos) X.env=(do
  let i <-eval o X.env
  standAt apos.atName let(f,first)<-holding [i] (getMethod i m pl)callWith pos f first (backTo pos (starEach (e::es) X.env)) (backToKw pos (keywordEach [] X.env))):=by rfl):PE X (.Call (.Attribute o m apos) (e::es) [] pos) (lo B (WL.oy c fn to tas)):=by obtain⟨M,A,F,b⟩:=G;exact PE.imp (ab6 y cl M F (l.mono w) b .nil s a d q) (acy z.symm v r h u)
end
def ac6{P w K e b f i k m}{ps:List Str}:FnOk P w K e b (CXX P w) k f i ps (spX K m λ_=>.bad):=⟨λg H Q E a=>by obtain⟨_,_,_,_,_,h⟩:=a;exact h.elim,λA c s H d p g Q E j q l o n a=>by obtain⟨_,_,_,_,_,h⟩:=a;exact h.elim⟩
end WS
set_option autoImplicit true
set_option relaxedAutoImplicit true
namespace WS
open PySem PySem.Spec PyProof.Rows L2
open WL(Res Sl Ws EF TF AF LF GF GsF SF Out XF XA FS Fs KO KF OX RF Sr)
section
variable{X:Cx}{B:Bx}{e tg iter elt:Expr}{pos:Pos}{ta tb:EF}{tt:TF}{it:LF}{g:GF}{k:Nat}{scope:Scope}{ts:List Str}{ifs:List Expr}
def abz{iN y py a1}(hN:X.N.Nodup)(c6:X.N[iN]?=some y)(hy:X.env.scope.names.lookup y=some .local)(c8:swapsWith (.ListComp elt [⟨tg,iter,ifs,0⟩] scope pos) (some (.Name y py)) a1.line X.env=pure true)(b7:X.stack=X.env::X.outer)(b9:X.env.frame=some X.env.locals)(hK:X.K=B.K)(hx:XW X B)(L:CompLook X scope)(hc:X.calm=true)(hk:ts.length=k)(hg:Keeps k g)(hi:PI X tg iter (loI B it))(d0:∀C l j K E G,G.K=X.K->XW ((X.comp scope C ts l j K).tri E []) G->PG ((X.comp scope C ts l j K).tri E []) tg (loG true G g))(c1:∀C l j K E G,G.K=X.K->XW ((X.comp scope C ts l j K).tri E []) G->xX ((X.comp scope C ts l j K).tri E []) ifs (loT G tt))(b8:∀C l j K E G,G.K=X.K->XW ((X.comp scope C ts l j K).tri E []) G->PE ((X.comp scope C ts l j K).tri E []) elt (lo G ta))(hs:∀x,foldedSetIterable iter X.env x=pure x:=by intro _;rfl):PS X (.Assign [.Name y py] (.ListComp elt [⟨tg,iter,ifs,0⟩] scope pos) a1) (loS B (WL.gB iN (WL.mR k it g tt ta))):=by
 subst hk;intro pins s d H Dn I hh;obtain⟨Q,hQ⟩:∃Q:VK,Q=λv H1=>Dn.nx (d.set iN (some v)) H1:=⟨_,rfl⟩;have hh:=z8 (tV:=lo B (WL.mR ts.length it g tt ta)) (λ_ _ _ z=>z) Dn d H hh;have hh:lo B (WL.mR ts.length it g tt ta) d H Q:=by rw[hQ];exact hh
 refine dE hh λσ F R q=>?_;have S:CompScope X scope ts:=L.scope;have a6:closureFor scope X.env=pure (dm X.env.cells scope.names []):=ez λy hy hf=>by obtain⟨c,hc⟩:=I.ok.has y.1 (S.free y hy hf);rw[hc];rfl
 have q:=Rq.bind (Rq.bind q);rw[exec_Assign_Name_used _ _ _ _ c8];refine anE (apj (anE ?_));refine anE (an9 (apc rfl hs a6 S.kind S.names (thn (hi pins s d H (λJ H1=>∃F1 xs,RS B σ d F1 H1/\Gr F H F1 H1/\Walk B.K J xs F1/\Rq B σ F (if xs.length<=WL.lim then WL.br g tt ta (List.replicate ts.length .no++WL.qq σ) xs else .bad) λys=>∀v i A,RS B σ d A i->Gr F H A i->RW B.K A (.lst ys) v->Q v i) I (cx σ F R (Rq.mono (ax.refl _) q λxs O J H1 F1 R1 g1 wk=>xY F1 xs R1 g1 wk ?_))) λxv s1 h1=>thn h1 λd2 s2 h2=>?_)) (λ_ N hq=>anO (anO hq)) λ_ _ e=>e);.exact O
 obtain⟨it,K,tn,J,H2,e,Z,T,c3,f2,F1,xs,R1,g1,wk,O⟩:=h2;subst e;by_cases a4:xs.length<=WL.lim
 .rw[anL a4]at O;let G:Bx:=⟨B.K,H2,F1,λc _ A=>B.xp c σ A,λc _ A c5 sm h=>B.mono c σ A c5 sm h⟩;let EC:Addr->Value->Shared->Prop:=λC v N=>∃(e Ce:Addr)(dx:Option Addr)(fl:Value)(T:Option Addr)(M:L2.St)(i A:Hp)(c:VW),v=.ref e/\Thr (X.comp scope C ts s2 H2 K) [] M i N e Ce dx fl T/\RB G A i/\B.xp c σ A/\XR X.K A c Ce dx;have xw:∀C,XW ((X.comp scope C ts s2 H2 K).tri (EC C) []) G:=λC b3 M i N b5 A c R' xp e Ce dx T fl t xr=>⟨e,Ce,dx,fl,T,M,i,A,c,rfl,Thr.jh (X:=X.comp scope C ts s2 H2 K) (pins:=[]) t,R'.rb,xp,xr⟩;have hW:sI J (loG true G g) (loT G tt) (lo G ta) (List.replicate ts.length none++d) H2 Q:=by
   refine se hg (R1.qq rfl rfl rfl) wk a4 (λz=>by rw[z]at O;exact O) (λc z b5 A sm=>?_) λall z ys A i rb g' r D hD=>?_;.rw[z]at O;exact B.mono c σ F A (g1.f.trans sm) O
   .rw[z]at O;have U:RB B A i:=pE R1 rb rfl rfl;have R':=R1.grow g' U;exact O (.ref D) _ _ (R'.new hD _) (g1.trans (g'.trans (Gr.new (U.sub.free hD) hD _))) (by simp only[RW];exact jd D ys rfl (SqL.of aq) (r.keep (az (U.sub.free hD) _)))
  refine iC (Q:=Q) S EC (λ_ _ _=>hc) (λC=>d0 C s2 H2 K (EC C) G hK.symm (xw C)) (λC=>c1 C s2 H2 K (EC C) G hK.symm (xw C)) (λC=>b8 C s2 H2 K (EC C) G hK.symm (xw C)) Z T c3 f2 hW.c ?_ ?_
  .intro C D i N m ys c7 hC hD hn c0 I' q;have Y:=aoc (anN Z.lt hC);refine aqk (jk I' hN c6 (.inl hy) (show RelV (.ref D) (.ref D)from rfl) (λb4 c9 a5=>?_) (.inr hy));refine fy a5 λa a5 ha=>?_;have c2:a≠C:=by
    rcases ha with e|e;.rw[e];exact anY Y
    .obtain⟨v,q⟩:=Z.cell y a e;exact anW (anN q.lt hC)
   refine⟨m,hn.sameBut a5 (anY c2),λh' a0=>?_⟩;have I3:=c9.turned (t':=b4.toks) (λb o u e=>(a0.2 b u).trans e) (by rw[aj c7];exact c0) Y (.inr (anQ Z.sz hC)) (λx c e=>by obtain⟨v,q⟩:=Z.cell x c e;exact anW (anN q.lt hC)) λp n=>anW (anN (anR (Z.pin p n).1) hC);rw[hQ]at q;exact cx _ _ I3 q
  .rintro C D _ N hC⟨e,Ce,dx,fl,T,M,i,A,c,rfl,t,rb,xp,xr⟩;have J':Inv X pins d i N:=Z.adh (ch:=K) t.inv.os t.inv.base t.inv.hok t.inv.bare λb u=>⟨(f2 b u).2.2.2.1,(f2 b u).2.1,(f2 b u).2.2.2.2.1,(f2 b u).2.2.2.2.2⟩;refine fy t.inv.loc λm a9 _=>?_;refine wy (id a9) λoC es ep b2 a8=>?_;have a3:i C=none:=t.inv.free;have Y:C≠X.env.locals:=aoc (anN Z.lt hC);have b1:s2.heap.get? C=none:=aoj hC;have fC:FpX X pins i C:=Z.fpX b1 a3;have a2:∀v,oC.data≠.cell v:=λv z=>by obtain⟨hd,_⟩:=a8;rw[hd]at z;cases z
   have J2:Inv X (pins++[(C,oC)]) d i N:=J'.fk λp n=>by
    rcases aou.mp n with n|n;.exact J'.pin p (anZ _ n)
    .obtain rfl:p=(C,oC):=by simpa using n
     exact⟨b2,a3,Y,fC.2.2.1,a2⟩
   have P:∀b,FpX (X.comp scope C ts s2 H2 K) [] i b->FpX X pins i b/\b≠C:=λb z=>by
    refine⟨?_,z.2.1⟩;rcases z.2.2.2.1 with u|u;.have f:=f2 b u;exact⟨z.1,f.2.1,f.2.2.1,f.2.2.2.1.imp (λw=>w) λw=>aoj w,f.2.2.2.2.1,f.2.2.2.2.2⟩
    .exact Z.fpX u z.1
   have b0:∀b,FpX X pins i b->b≠C->FpX X (pins++[(C,oC)]) i b:=λb z ne=>⟨z.1,z.2.1,z.2.2.1,z.2.2.2.1,z.2.2.2.2.1,λp n=>by
    rcases aou.mp n with n|n;.exact z.2.2.2.2.2 p (aob _ n)
    .rcases aou.mp n with n|n;.exact z.2.2.2.2.2 p (anZ _ n)
     .obtain rfl:p=(C,oC):=by simpa using n
      exact anY ne⟩;have te:=P e t.fe;have t1:Thr X (pins++[(C,oC)]) d i N e Ce dx fl T:=⟨J2,t.trc,b0 e te.1 te.2,λb u=>b0 b (P b (t.fT b u)).1 (P b (t.fT b u)).2⟩;refine t1.note b7 b9 λa7 T1 b6 t2=>?_;have pC:=(t2.inv.pin (C,oC) (by simp)).1;refine⟨m,abp oC es ep pC a8,λh' a0 d1 _=>?_⟩;have drop:∀b,FpX X (pins++[(C,oC)]) i b->FpX X pins i b/\b≠C:=λb z=>⟨⟨z.1,z.2.1,z.2.2.1,z.2.2.2.1,z.2.2.2.2.1,λp n=>by
    rcases aou.mp n with n|n;.exact z.2.2.2.2.2 p (aob _ n)
    .exact z.2.2.2.2.2 p (anZ _ (aob _ n))⟩,λw=>z.2.2.2.2.2 (C,oC) (by simp) w.symm⟩;have J3:Inv X pins d i {N with heap:=a7}:=t2.inv.fk λp n=>t2.inv.pin p (anZ _ (aob _ n));have J4:Inv X pins d i {N with heap:=h'}:=Inv.turned (s:={N with heap:=a7}) (t':=N.toks) (it:=C) J3 (λb o u e=>(a0.2 b u).trans e) a3 Y (.inr (anQ Z.sz hC)) fC.2.2.2.2.1 fC.2.2.2.2.2;have t3:Thr X pins d i {N with heap:=h'} e Ce dx b6 (some T1):=⟨J4,t2.trc.keeps λb o u q=>(a0.2 b (by
    rcases u with rfl|u;.exact(drop _ t2.fe).2
    .exact(drop b (t2.fT b u)).2)).trans q,(drop e t2.fe).1,λb u=>(drop b (t2.fT b u)).1⟩;refine t3.pass λd3 c4 t4=>?_;have U:RB B A i:=pE R1 rb rfl rfl;exact hx pins d i _ σ A c (R1.grow (vN rb rfl rfl) U) xp e Ce dx (some T1) c4 t4 xr
 .rw[anK a4]at O;exact(O).elim
end
end WS
namespace WL
open PySem
section
variable{α β:Type}
@[simp]def ja(a)(f:α->Res β):(Res.ok a).bind f=f a:=(rfl)
@[simp]def al3(c)(f:α->Res β):(Res.ex c).bind f=.ex c:=(rfl)
@[simp]def ajU(f:α->Res β):(Res.bad:Res α).bind f=.bad:=(rfl)
@[simp]def ajT(p:Prop)[Decidable p](a b:Res α)(f:α->Res β):(if p then a else b).bind f=if p then a.bind f else b.bind f:=by split<;>rfl
@[simp]def g6(σ)(a)(f:α->Out):ofR σ (.ok a) f=f a:=(rfl)
@[simp]def amG(σ)(c)(f):ofR σ (.ex c:Res α) f=.ex c σ:=(rfl)
@[simp]def ak2(σ)(f):ofR σ (.bad:Res α) f=.bad:=(rfl)
@[simp]def ak1(σ)(p)[Decidable p](a b)(f:α->Out):ofR σ (if p then a else b) f=if p then ofR σ a f else ofR σ b f:=by grind
end
@[simp]def aiC{b:Type}(a)(l:List b):(a::l)[0]?=some a:=(rfl)
@[simp]def aiB{b:Type}(a)(l:List b)(n):(a::l)[n+1]?=l[n]?:=(rfl)
noncomputable def alE:Option Sl->Res W|some (.va w)=>.ok w|_=>.bad
@[simp]def mI(w):alE (some (.va w))=.ok w:=(rfl)
@[simp]def mP(i:Nat)(σ:Ws):ai i σ=alE σ[i]?:=by unfold ai alE;split<;>simp_all
@[simp]def aiY(w)(σ):eC w σ=.ok w:=(rfl)
@[simp]def vW(r)(a b)(σ):eOp r a b σ=(a σ).bind λx=>(b σ).bind λy=>r x y:=(rfl)
@[simp]def amU(r)(a)(σ):eUn r a σ=(a σ).bind r:=(rfl)
noncomputable def chB(z:W)(k:Res W):Res W:=match z with|.bl true=>k|.bl false=>.ok (.bl false)|_=>.bad
@[simp]def am0(b)(k):chB (.bl b) k=if b=true then k else .ok (.bl false):=by cases b<;>rfl
@[simp]def aiW(r d:W->W->Res W)(a b c:EF)(σ:Ws):oA r d a b c σ=(a σ).bind λx=>(b σ).bind λy=>(r x y).bind λz=>chB z ((c σ).bind λw=>d y w):=by unfold oA chB;rfl
@[simp]def uV(b):toB (.bl b)=.ok b:=(rfl)
@[simp]def abO(e)(σ):tB e σ=(e σ).bind toB:=(rfl)
@[simp]def akr(a b)(σ):yX a b σ=(a σ).bind λx=>if x=true then b σ else .ok false:=by unfold yX;congr 1;funext x;cases x<;>rfl
@[simp]def amr(a b)(σ):tOr a b σ=(a σ).bind λx=>if x=true then .ok true else b σ:=by unfold tOr;congr 1;funext x;cases x<;>rfl
@[simp]def akm(a)(σ):abq a σ=(a σ).bind λx=>.ok !x:=(rfl)
set_option tactic.hygienic true
@[simp]def alX(a b)(σ):aaU a b σ=(a σ).bind λx=>(toB x).bind λy=>if y=true then b σ else .ok (.bl false):=by
 unfold aaU;congr 1;funext x;cases x<;>try rfl
 rename_i k;cases k<;>rfl
set_option tactic.hygienic false
@[simp]def alU(a)(σ):aiU a σ=(a σ).bind λx=>(toB x).bind λy=>.ok (.bl !y):=by unfold aiU;congr 1;funext x;cases x<;>rfl
@[simp]def amX(t)(a b)(σ):eIf t a b σ=(t σ).bind λx=>if x=true then a σ else b σ:=by unfold eIf;congr 1;funext x;cases x<;>rfl
@[simp]def m6(σ):aw σ=.ok []:=(rfl)
@[simp]def jO(e)(a)(σ):ae e a σ=(e σ).bind λx=>(a σ).bind λb=>.ok (x::b):=(rfl)
@[simp]def alT(a)(σ):ff a σ=(a σ).bind λb=>if b.length<=lim then .ok (.tup b)else .bad:=(rfl)
@[simp]def alV(a)(σ):iB a σ=(a σ).bind λb=>if b.length<=lim then .ok (.lst b)else .bad:=(rfl)
@[simp]def alC(a)(σ):aia a σ=(a σ).bind λb=>if b.length<=lim then .ok b else .bad:=(rfl)
noncomputable def uD{b}:Res b->Res b|.ok a=>.ok a|_=>.bad
@[simp]def iD{b}(a:b):uD (.ok a)=.ok a:=(rfl)
@[simp]def vX(f)(a)(σ):aJ f a σ=(a σ).bind λws=>uD (f ws):=by unfold aJ;congr 1;funext ws;cases f _<;>rfl
@[simp]def aiX(f)(a)(σ):en f a σ=(a σ).bind f:=(rfl)
@[simp]def aeh(f)(a)(σ):eBi f a σ=(a σ).bind f:=(rfl)
def amZ(o:Option (List W×List W)):Res W:=match o with|some (ks,vs)=>if bY ks&&decide (ks.length<=15)then .ok (.dic ks vs)else .bad|none=>.bad
@[simp]def ai1(ks vs:List W):amZ (some (ks,vs))=if bY ks&&decide (ks.length<=15)then .ok (.dic ks vs)else .bad:=(rfl)
@[simp]def aaT(a:AF)(σ:Ws):aiV a σ=(a σ).bind λb=>amZ (gS b):=(rfl)
@[simp]def ale(ks vs)(k):oIx (.dic ks vs) (.str k)=ofO (mV k ks vs):=(rfl)
@[simp]def amD(σ):pNo σ=.ok none:=(rfl)
noncomputable def toI:W->Res (Option Int)|.int i=>.ok (some i)|_=>.bad
@[simp]def akh(i):toI (.int i)=.ok (some i):=(rfl)
@[simp]def ajr(e:EF)(σ:Ws):ke e σ=(e σ).bind toI:=by unfold ke;congr 1
@[simp]def amV(e)(lo a)(σ):eSl e lo a σ=(e σ).bind λx=>(lo σ).bind λl=>(a σ).bind λh=>oSl x l h:=(rfl)
@[simp]def ajE(i j):dq (.int i) (.int j)=.ok (.int (i+j)):=(rfl)
@[simp]def ajD(xs ys:List W):dq (.lst xs) (.lst ys)=if xs.length+ys.length<=lim then .ok (.lst (xs++ys))else .bad:=(rfl)
@[simp]def ajC(xs ys:List W):dq (.tup xs) (.tup ys)=if xs.length+ys.length<=lim then .ok (.tup (xs++ys))else .bad:=(rfl)
@[simp]def ajx(i j):jx (.int i) (.int j)=.ok (.int (i-j)):=(rfl)
def vA(i j):eS (.int i) (.int j)=if -2^64<i/\i<2^64\/-2^64<j/\j<2^64 then .ok (.int (i*j))else .bad:=(rfl)
def rG{i}(j)(a:-18446744073709551616<i)(b:i<18446744073709551616):eS (.int i) (.int j)=.ok (.int (i*j)):=by rw[vA,anL];exact .inl ⟨by omega,by omega⟩
def vz(i){j}(a:-18446744073709551616<j)(b:j<18446744073709551616):eS (.int i) (.int j)=.ok (.int (i*j)):=by rw[vA,anL];exact .inr ⟨by omega,by omega⟩
@[simp]def ajB(i j):oDiv (.int i) (.int j)=if 0<j/\j<10^100 then .ok (.int (i/j))else .bad:=(rfl)
@[simp]def ajA(i j):oMod (.int i) (.int j)=if 0<j then .ok (.int (i%j))else .bad:=(rfl)
@[simp]def ajy(i j:Int):afs (.int i) (.int j)=if 0<=j/\j<=1000/\i.natAbs<2^64 then .ok (.int (i^j.toNat))else .bad:=(rfl)
@[simp]def ajz(i):ni (.int i)=.ok (.int (-i)):=(rfl)
@[simp]def ak8(i j):oLt (.int i) (.int j)=.ok (.bl (decide (i<j))):=(rfl)
@[simp]def ak9(i j):oLe (.int i) (.int j)=.ok (.bl (decide (i<=j))):=(rfl)
@[simp]def afu(i j:Int):oGt (.int i) (.int j)=.ok (.bl (decide (j<i))):=(rfl)
@[simp]def alg(i j):oGe (.int i) (.int j)=.ok (.bl (decide (j<=i))):=(rfl)
@[simp] def ali (i j:Int):oEq (.int i) (.int j)=.ok (.bl (decide (i=j))):=by show Res.ok (W.bl (i==j))=_;rw[aps]
@[simp] theorem ak7 (i j:Int):oNe (.int i) (.int j)=.ok (.bl (!decide (i=j))):=by show Res.ok (W.bl !(i==j))=_;rw[aps]
@[simp] theorem amI (a b:Bool):oEq (.bl a) (.bl b)=.ok (.bl (a==b)):=rfl
@[simp]def amH(a b:Bool):oNe (.bl a) (.bl b)=.ok (.bl (a !=b)):=rfl
@[simp]def alf(x):oIs x .non=.ok (.bl (nr x)):=(rfl)
@[simp]def agk(x):iU x .non=.ok (.bl !nr x):=(rfl)
@[simp]def aio:nr .non=true:=(rfl)
@[simp]def aip(i):nr (.int i)=false:=(rfl)
@[simp]def g7(xs)(i):oIx (.lst xs) (.int i)=ofO (atI xs i):=(rfl)
@[simp]def ala(xs)(i):oIx (.tup xs) (.int i)=ofO (atI xs i):=(rfl)
@[simp]def ak5(xs)(l h):oSl (.lst xs) l h=.ok (.lst (cut xs l h)):=(rfl)
@[simp]def ak4(xs:List W)(l h:Option Int):oSl (.tup xs) l h=if sIx xs.length 0 l=0/\sIx xs.length xs.length h=xs.length then .bad else .ok (.tup (cut xs l h)):=(rfl)
def fw{a}(xs:List a)(k:Nat):atI xs k=xs[k]?:=by
 unfold atI ixN;by_cases h:k<xs.length;.rw[anL (by simp),anL (by omega)];simp
 .rw[anL (by simp),anK (by omega)];simp;omega
@[simp]def ama{a}(xs:List a)(k):atI xs no_index(@OfNat.ofNat Int k _)=xs[k]?:=fw _ k
def ajc{a}(xs:List a){i}(h:0<=i):atI xs i=xs[i.toNat]?:=by have e:=fw xs i.toNat;rwa[Int.toNat_of_nonneg h]at e
@[simp]def ajW(xs):oH [.lst xs]=.ok (.int xs.length):=(rfl)
@[simp]def ajV(xs):oH [.tup xs]=.ok (.int xs.length):=(rfl)
@[simp]def agr(xs):ie [.lst xs]=.ok (.tup xs):=(rfl)
@[simp]def agq(xs):ie [.tup xs]=.ok (.tup xs):=(rfl)
@[simp]def wo(i):ael [.int i]=.ok (.int (if i<0 then -i else i)):=(rfl)
@[simp]def al7(b:Bool):aek [.bl b]=.ok (.int (if b then 1 else 0)):=(rfl)
noncomputable def oB(o:Option Bool):Res W:=match o with|some b=>.ok (.bl b)|none=>.bad
@[simp]def alj(b):oB (some b)=.ok (.bl b):=(rfl)
@[simp]def ags(x:W)(t:String):bF [x,.ty t]=oB (isK x t):=by cases h:isK x t<;>simp[bF,oB,h]
@[simp]def al8(xs):adj [.lst xs]=oB (allB xs):=rfl
@[simp]def alD(e)(σ):sM e σ=(e σ).bind itemsOf:=(rfl)
def akH:W->Res (List W)|.int j=>if -2^62<=j/\j<2^62 then .ok (rng 0 j.toNat)else .bad|_=>.bad
@[simp]def ajn(j):akH (.int j)=if -2^62<=j/\j<2^62 then .ok (rng 0 j.toNat)else .bad:=(rfl)
@[simp]def ajL(e:EF)(σ:Ws):gi e σ=(e σ).bind akH:=by unfold gi akH;congr 1
def akG:W->W->Res (List W)|.int i,.int j=>if -2^62<=i/\i<2^62/\-2^62<=j/\j<2^62 then .ok (rng i (j-i).toNat)else .bad|_,_=>.bad
@[simp]def ajm(i j):akG (.int i) (.int j)=if -2^62<=i/\i<2^62/\-2^62<=j/\j<2^62 then .ok (rng i (j-i).toNat)else .bad:=(rfl)
@[simp]def ajK(e a:EF)(σ:Ws):rS e a σ=(e σ).bind λx=>(a σ).bind λy=>akG x y:=by unfold rS akG;congr 1
def afR:W->Res (List W)|.tup xs=>.ok (dY 0 xs)|.lst xs=>.ok (dY 0 xs)|_=>.bad
@[simp]def aiQ(xs):afR (.lst xs)=.ok (dY 0 xs):=(rfl)
@[simp]def ajM(e:EF)(σ:Ws):rT e σ=(e σ).bind afR:=by unfold rT afR;congr 1
@[simp] def agh (lo ) (n ):(rng lo n).length=n:=by simp[rng]
theorem pz (lo ) (n i ) (x ) (h:(rng lo n)[i]?=some x):i<n/\x=.int (lo+i):=by
  have a  := by
    have:=(anM.mp h).1
    simpa using this
  simp only[rng,an7,aoL a] at h
  exact⟨a,(an3 h).symm⟩
@[simp]def pZ(i)(w)(σ):au i w σ=.ok (σ.set i (.va w)):=(rfl)
@[simp]def vR(σ):kN [] σ=.ok σ:=(rfl)
@[simp]def ov(g)(b)(w)(r)(σ):bu g b (w::r) σ=(uD (g w σ)).bind λd=>uD (b r d):=by show(match g w σ with|.ok _=>(match b r _ with|.ok _=>Res.ok _|_=>.bad)|_=>.bad)=_;cases g w σ with|ok a=>simp ;cases b r a<;>rfl|ex c|bad=>rfl
@[simp]def vP(a)(ws)(σ):k7 a (.tup ws) σ=a ws σ:=(rfl)
def aeR(σ:Ws)(i:Nat)(ws:List W)(w:W):Res W->Res Ws
|.ok (.int k)=>match ixN ws.length k with|some j=>.ok (σ.set i (.ow (ws.set j w)))|none=>.bad
|_=>.bad
def aku(σ:Ws)(i:Nat)(w:W)(r:Res W):Option Sl->Res Ws|some (.ow ws)=>aeR σ i ws w r|_=>.bad
@[simp]def alF(i:Nat)(e:EF)(w:W)(σ:Ws):acV i e w σ=aku σ i w (e σ) σ[i]?:=by unfold acV aku;cases h:σ[i]? with|none=>rfl|some sl=>cases sl with|no|va _|od _ _|ob=>rfl|ow ws=>unfold aeR;cases e σ with|bad|ex c=>rfl|ok k=>cases k<;>rfl
@[simp]def akt(σ:Ws)(i:Nat)(w:W)(r:Res W)(ws:List W):aku σ i w r (some (.ow ws))=aeR σ i ws w r:=(rfl)
def uZ(σ:Ws)(i:Nat)(ws:List W)(w:W)(k:Int)(a:0<=k)(b:k<ws.length):aeR σ i ws w (.ok (.int k))=.ok (σ.set i (.ow (ws.set k.toNat w))):=by unfold aeR ixN;simp[a,b]
noncomputable def ajO(σ:Ws)(i:Nat):Option Sl->Ws|some (.ow ws)=>σ.set i (.va (.lst ws))|some (.od ks vs)=>σ.set i (.va (.dic ks vs))|_=>σ
@[simp]def amO(i:Nat)(σ:Ws):frz i σ=ajO σ i σ[i]?:=by unfold frz ajO;split<;>simp_all
@[simp]def alH(σ)(i)(ws):ajO σ i (some (.ow ws))=σ.set i (.va (.lst ws)):=(rfl)
@[simp]def alI(σ:Ws)(i:Nat)(ks vs:List W):ajO σ i (some (.od ks vs))=σ.set i (.va (.dic ks vs)):=(rfl)
def plR:Res W->Res W|.ok w=>if plain w then .ok w else .bad|_=>.bad
@[simp]def amC(w):plR (.ok w)=if plain w=true then .ok w else .bad:=(rfl)
@[simp]def alW(i:Nat)(e:EF)(σ:Ws):afV i e σ=plR (e (frz i σ)):=by unfold afV plR;cases e (frz i σ)<;>rfl
@[simp]def akq(i)(t)(σ):age i t σ=uD (t (frz i σ)):=by unfold age uD;cases t _<;>rfl
@[simp]def ahu(i):plain (.int i)=true:=(rfl)
@[simp]def aht(xs:List W):plain (.tup xs)=jt xs:=(rfl)
@[simp]def agj:jt []=true:=(rfl)
@[simp]def afh(x:W)(xs:List W):jt (x::xs)=(plain x&&jt xs):=(rfl)
def w4(xs):jt xs=true↔∀x∈xs,plain x=true:=by induction xs with|nil=>simp|cons x xs ih=>simp[ih]
@[simp]def akk(σ:Ws):fE σ=.ok true:=(rfl)
@[simp]def ajJ(k)(it)(g)(t)(e)(σ):ue k it g t e σ=(it σ).bind λa=>if a.length<=lim then uD (br g t e (List.replicate k .no++σ) a)else .bad:=by unfold ue;congr 1;funext a;cases br g t e _ _<;>rfl
@[simp]def ajS(k)(it)(g)(t)(e)(σ):fu k it g t e σ=(ue k it g t e σ).bind λa=>.ok (.lst a):=(rfl)
noncomputable def aeY(o:Out)(b:SF):Out:=match o with|.nx σ'=>b σ'|o=>o
@[simp]def f6(σ)(b):aeY (.nx σ) b=b σ:=(rfl)
@[simp]def akx(w)(b):aeY (.rt w) b=.rt w:=(rfl)
@[simp]def gX(a b)(σ):aG a b σ=aeY (a σ) b:=(rfl)
@[simp]def amx(σ):sNx σ=.nx σ:=(rfl)
@[simp]def akA(i)(e)(σ):gB i e σ=ofR σ (e σ) λw=>.nx (σ.set i (.va w)):=(rfl)
@[simp]def ajj(i)(l)(σ):qS i l σ=ofR σ (l σ) λws=>.nx (σ.set i (.ow ws)):=(rfl)
@[simp]def akD(e:EF)(g:GF)(σ:Ws):adM e g σ=ofR σ (e σ) λw=>ofR σ (g w σ) λa=>.nx a:=(rfl)
@[simp]def vj(t)(a b)(σ):sIf t a b σ=ofR σ (t σ) λx=>if x=true then a σ else b σ:=by unfold sIf;congr 1;funext x;cases x<;>rfl
@[simp]def akB(e)(σ):dn e σ=ofR σ (e σ) λw=>.rt w:=(rfl)
def amc(σ:Ws)(i:Nat)(r:Res W):Option Sl->Out|some (.ow ws)=>ofR σ r λw=>if ws.length<lim then .nx (σ.set i (.ow (ws++[w])))else .bad|_=>.bad
@[simp]def akE(i:Nat)(e:EF)(σ:Ws):ahf i e σ=amc σ i (e σ) σ[i]?:=by unfold ahf amc;split<;>simp_all
@[simp]def amb(σ)(i)(r)(ws):amc σ i r (some (.ow ws))=ofR σ r λw=>if ws.length<lim then .nx (σ.set i (.ow (ws++[w])))else .bad:=(rfl)
@[simp]def j6(i)(t)(σ):x4 i t σ=t (frz i σ):=(rfl)
@[simp]def ae3(it)(g)(b)(σ):qp it g b σ=ofR σ (it σ) λa=>forL g b a σ:=(rfl)
@[simp]def za(n)(c)(b)(σ):n4 n c b σ=iL c b (n σ) σ:=(rfl)
@[simp]def aky(c)(σ)(b):aeY (.ex c σ) b=.ex c σ:=(rfl)
@[simp]def ahd(nm:String)(a:AF)(σ:Ws):vi nm a σ=ofR σ (a σ) λws=>if ws.length<=100 then .ex (.exc nm []) σ else .bad:=(rfl)
@[simp]def af1(d nm)(fs):eg d (.exc nm fs)=nG nm d:=(rfl)
noncomputable def x3(o:Out)(k:W->Ws->Out):Out:=match o with|.ex c σ=>k c σ|o=>o
@[simp]def akf(σ)(k):x3 (.nx σ) k=.nx σ:=(rfl)
@[simp]def akg(c)(σ)(k):x3 (.ex c σ) k=k c σ:=(rfl)
@[simp]def ahc(b:SF)(d:String)(i:Nat)(h:SF)(σ:Ws):l3 b d i h σ=x3 (b σ) (mH d i h):=by unfold l3 x3;rfl
noncomputable def qo(i:Nat)(o:Out):Out:=match o with|.nx σ2=>.nx (σ2.set i .no)|.rt w=>.rt w|_=>.bad
@[simp]def ajY(i:Nat)(σ:Ws):qo i (.nx σ)=.nx (σ.set i .no):=(rfl)
@[simp]def ajN(d:String)(i:Nat)(h:SF)(c:W)(σ:Ws):mH d i h c σ=if eg d c then qo i (h (σ.set i (.va c)))else .bad:=by unfold mH qo;rfl
noncomputable def fin:Out->Res W|.rt w=>.ok w|.nx _=>.ok .non|.ex c _=>.ex c|_=>.bad
@[simp]def amR(w):fin (.rt w)=.ok w:=(rfl)
@[simp]def amS(c)(σ):fin (.ex c σ)=.ex c:=(rfl)
@[simp]def run_eq(n:Nat)(t:SF)(ws:List W):run n t ws=fin (t (ws.map .va++List.replicate (n-ws.length) .no)):=by unfold run fin;rfl
@[simp]def amL:lim=1000000:=(rfl)
noncomputable def pT(o:Out)(k:SF):Out:=match o with|.nx σ2=>k σ2|.ct σ2=>k σ2|.bk σ2=>.nx σ2|o=>o
@[simp]def ajH(σ)(k):pT (.nx σ) k=k σ:=(rfl)
@[simp]def ajG(w)(k):pT (.rt w) k=.rt w:=(rfl)
def eI(c)(b)(n)(σ):iL c b (n+1) σ=ofR σ (c σ) λx=>if x=true then pT (b σ) (iL c b n)else .nx σ:=by
 show ofR σ _ _=_;congr 1;funext x;cases x;.rfl
 .cases b σ<;>rfl
def dy(g)(b)(x)(xs)(σ):forL g b (x::xs) σ=ofR σ (g x σ) λa=>pT (b a) (forL g b xs):=rfl
@[simp]def ajP(g)(b)(σ):forL g b [] σ=.nx σ:=(rfl)
theorem kq{g b}:∀{xs}(P:Nat->Ws->Prop){σ},P 0 σ->(∀i x σ,xs[i]?=some x->P i σ->∃c,g x σ=.ok c/\∃a,b c=.nx a/\P (i+1) a)->∃d,forL g b xs σ=.nx d/\P xs.length d|[],P,σ,h0,_=>⟨σ,rfl,h0⟩|x::xs,P,σ,h0,hs=>by obtain⟨c,h,a,l,e⟩:=hs 0 x σ rfl h0;obtain⟨d,f,k⟩:=kq (xs:=xs) _ e λi y σ m j=>hs (i+1) y σ (by grind) j;exact⟨_,by simp [forL,h,l];exact f,k⟩
theorem ko{g b}:∀{xs}(P:Nat->Ws->Prop)(R:Nat->W->Prop){σ},P 0 σ->(∀i x σ,xs[i]?=some x->P i σ->∃a,g x σ=.ok a/\((∃d,b a=.nx d/\P (i+1) d)\/∃w,b a=.rt w/\R i w))->(∃c,forL g b xs σ=.nx c/\P xs.length c)\/∃i w,i<xs.length/\forL g b xs σ=.rt w/\R i w
|[],P,R,σ,h0,_=>.inl ⟨σ,rfl,h0⟩|x::xs,P,R,σ,h0,hs=>by
 obtain⟨a,j,h⟩:=hs 0 x σ rfl h0;rcases h with⟨d,e,f⟩|⟨w,e,f⟩
 .rcases ko (xs:=xs) _ _ f λi y σ l k=>hs (i+1) y σ (by simpa using l) k with⟨c,e3,h3⟩|⟨i,w,hi,e3,h3⟩;.exact .inl ⟨c,by simp only[forL,j,e,g6];exact e3,h3⟩
  .exact .inr ⟨i+1,w,by simpa using hi,by simp only[forL,j,e,g6];exact e3,h3⟩
 .exact .inr ⟨0,w,by simp,by simp only[forL,j,e,g6],f⟩
theorem bw{g t e σ}{i:Type}{emb f}:∀{xs:List i},(∀x∈xs,∃a,g (emb x) σ=.ok a/\t a=.ok true/\e a=.ok (f x))->br g t e σ (xs.map emb)=.ok (xs.map f)|[],_=>rfl|x::xs,h=>by obtain⟨a,j,b,d⟩:=h x (by simp);have c:=bw (xs:=xs) λy k=>h y (by grind);simp [br,j,b,d,c]
end WL
namespace ML
open PySem WL
abbrev S3:=Int×Int×Int
noncomputable def stW(p:S3):W:=.tup [.int p.1,.int p.2.1,.int p.2.2]
noncomputable def spW(p:Int×Int):W:=.tup [.int p.1,.int p.2]
def flW(f:List S3):W:=.tup (f.map stW)
noncomputable def aB(p:S3):Int×Int:=(p.1,p.2.1)
@[simp]def ak0(n:Nat)(i:Int):okD n (.int i)=true:=(rfl)
@[simp]def akY(n:Nat)(xs:List W):okD n (.tup xs)=iT n xs:=(rfl)
@[simp]def ajv(n:Nat):iT (n+1) []=true:=(rfl)
@[simp]def ahT(n:Nat)(x:W)(xs:List W):iT (n+1) (x::xs)=(okD n x&&iT (n+1) xs):=(rfl)
@[simp]def alO(a b:Str):eqv (.str a) (.str b)=(a==b):=(rfl)
@[simp]def alP(a b:Int):eqv (.int a) (.int b)=(a==b):=(rfl)
@[simp]def alN(a b:List W):eqv (.tup a) (.tup b)=aeg a b:=(rfl)
@[simp]def alL:aeg [] []=true:=(rfl)
@[simp]def alM(x y:W)(xs ys:List W):aeg (x::xs) (y::ys)=(eqv x y&&aeg xs ys):=(rfl)
@[simp] def amF (n:Nat) (p:Int×Int):okD (n+1) (spW p)=true:=by simp[spW]
theorem pM (n ):∀ a,(∀ x∈a,okD n x=true)->iT (n+1) a=true
  | [],_=>rfl
  | x::a,h=>by simp;exact⟨h x (by simp),pM n _ λy b=>h y (by grind)⟩
def aaL(p q):eqv (spW p) (spW q)=decide (p=q):=by obtain⟨a,b⟩:=p;obtain⟨c,d⟩:=q;rw[aof];simp[spW]
@[simp]def zS(p q):oEq (spW p) (spW q)=.ok (.bl (decide (p=q))):=by have:abS (spW p) (spW q)=false:=rfl;simp[oEq,this,aaL]
theorem aen(s:Int×Int):∀l:List (Int×Int),dB (spW s) (l.map spW)=decide (s∈l)|[]=>by simp[dB]|p::l=>by simp only[aoa,dB,aaL,aen s l];rw[aof];simp only[ap4,aog,anS];exact or_congr eq_comm Iff.rfl
def ad4(s:Int×Int)(l:List (Int×Int)):oIn (spW s) (.lst (l.map spW))=.ok (.bl (decide (s∈l))):=by
 have h:iT 51 (l.map spW)=true:=pM 50 _ λx a=>by obtain⟨p,_,rfl⟩:=aoD.mp a;simp
 simp[oIn,h,aen]
@[simp] def vq (p:S3):plain (stW p)=true:=by simp[stW]
@[simp] theorem alb (p:S3):oIx (stW p) (.int 2)=.ok (.int p.2.2):=(rfl)
@[simp]def ald(p):oIx (spW p) (.int 0)=.ok (.int p.1):=(rfl)
@[simp]def alc(p):oIx (spW p) (.int 1)=.ok (.int p.2):=(rfl)
@[simp] def pN (p:S3):oSl (stW p) none (some 2)=.ok (spW (aB p)):=by simp[stW,spW,aB,sIx,cut]
theorem ad3 {f p k} (h0:0<=k) (h:f[k.toNat]?=some p):oIx (flW f) (.int k)=.ok (stW p):=by
  simp[flW,ajc _ h0,h]
noncomputable def sfp(p:S3)(m n:Int):Int×Int:=if p.2.2=0 then(p.1+n,p.2.1+m)else if p.2.2=1 then(p.1-m,p.2.1+n)else if p.2.2=2 then(p.1-n,p.2.1-m)else(p.1+m,p.2.1-n)
noncomputable def aeE(s:Int×Int):Nat->List S3->W|_,[]=>.non|k,p::f=>if aB p=s then .int k else aeE s (k+1) f
def ju{c:Type}{R:c->c->Prop}{l:List c}{x:c}(h:l.Pairwise R)(d:∀y∈l,R y x):(l++[x]).Pairwise R:=by rw[List.pairwise_append];exact⟨h,List.pairwise_singleton _ _,λa f b e=>by rw[aoT.mp e];exact d a f⟩
theorem toNat_inj{a b:Char}(h:a.toNat=b.toNat):a=b:=Char.ext (UInt32.toNat_inj.mp h)
@[simp]def ad1(a b):(Str.ofString a=Str.ofString b)=(a=b):=by
 apply propext;constructor
 .intro h;rw[apR,apR]at h;have c:a.toList.map Char.toNat=b.toList.map Char.toNat:=by grind
  exact String.toList_inj.mp (List.map_inj_right (λ_ _=>toNat_inj)|>.mp c)
 .intro h;rw[h]
@[simp]def ad2(a b):(Str.ofString a==Str.ofString b)=(a==b):=by rw[aof];simp
def af0(c:Char):c.toNat<0x110000:=by have h:=c.valid;have a:c.toNat=c.val.toNat:=rfl;omega
@[simp]def akZ(n)(a):okD n (.str (Str.ofString a))=true:=by show(Str.ofString a).cps.all _=true;simp only[apR];simp only[List.all_toArray,List.all_map,aoB,Function.comp,aog];intro c _;exact af0 c
@[simp] def alh (a b:Str):oEq (.str a) (.str b)=.ok (.bl (decide (a=b))):=by show Res.ok (W.bl (a==b))=_;rw[aps]
@[simp] theorem ak6 (a b:Str):oNe (.str a) (.str b)=.ok (.bl (!decide (a=b))):=by show Res.ok (W.bl !(a==b))=_;rw[aps]
theorem aft (x ) (ys ):oIn x (.tup ys)=if okD 50 x&&iT 51 ys then .ok (.bl (dB x ys)) else .bad:=(rfl)
@[simp] def agt (x:W):dB x []=false:=by simp[dB]
@[simp] theorem uL (x y:W) (ys:List W):dB x (y::ys)=(eqv y x || dB x ys):=by simp[dB]
noncomputable def xZ (s:Int×Int):Nat->List S3->Option Nat
  | _,[]=>none
  | k,p::f=>if aB p=s then some k else xZ s (k+1) f
noncomputable def onW:Option Nat->W|none=>.non|some k=>.int k
@[simp]def aju:onW none=.non:=(rfl)
@[simp]def ajt(k):onW (some k)=.int k:=(rfl)
theorem ady(s):∀k f,aeE s k f=onW (xZ s k f)|_,[]=>rfl|k,p::f=>by simp [aeE,xZ,ady s _ f];split<;>rfl
theorem oR(s):∀k f i,xZ s k f=some i->k<=i/\i<k+f.length
|_,[],_,h=>by simp[xZ]at h|k,p::f,i,h=>by
 simp [xZ]at h;split at h;.cases h;simp
 .have:=oR s _ f i h;simp ;omega
inductive What where|none|any|same|left|about|right|partner|opposite
inductive Lone where|head|side|lefts|rights|inward|outward|sideways
noncomputable def What.w:What->String|.none=>"none"|.any=>"any"|.same=>"same"|.left=>"left"|.about=>"about"|.right=>"right"|.partner=>"partner"|.opposite=>"opposite"
noncomputable def Lone.w:Lone->String|.head=>"head"|.side=>"side"|.lefts=>"lefts"|.rights=>"rights"|.inward=>"inward"|.outward=>"outward"|.sideways=>"sideways"
inductive Tst where|lone(l:Lone)|at(a r:Int)(w:What)|inner(n:Int)
def Tst.W:Tst->WL.W|.lone l=>.tup [.str l.w]|.at a r w=>.tup [.str "at",.int a,.int r,.str w.w]|.inner n=>.tup [.str "inner",.int n]
def tsW(neg:Bool)(t:Tst):WL.W:=if neg then .tup [.str "not",t.W]else t.W
noncomputable def fb(f:List S3)(k:Nat):Int:=(f.getD k (0,0,0)).2.2
inductive Go where|ahead|back|left|right
inductive Tn where|left|right|about
noncomputable def Go.w:Go->String|.ahead=>"ahead"|.back=>"back"|.left=>"left"|.right=>"right"
noncomputable def Tn.w:Tn->String|.left=>"left"|.right=>"right"|.about=>"about"
inductive Stp where|go(g:Go)(n:Int)|turn(t:Tn)
def Stp.W:Stp->WL.W|.go g n=>.tup [.str g.w,.int n]|.turn t=>.tup [.str "turn",.str t.w]
structure Rl where ts:List (Bool×Tst)ss:Option (List Stp)
def tsL(ts:List (Bool×Tst)):WL.W:=.tup (ts.map λp=>tsW p.1 p.2)
def ssW:Option (List Stp)->WL.W|none=>.tup [.tup [.str "stay"]]|some l=>.tup (l.map Stp.W)
def Rl.W(r:Rl):WL.W:=.tup [tsL r.ts,ssW r.ss]
def zO{ι:Type}(n)(g)(l:List ι)(h:∀x∈l,okD n (g x)=true):iT (n+1) (l.map g)=true:=pM n _ λx a=>by grind
def adl(l:List Bool):allB (l.map .bl)=some (l.all id):=by induction l with|nil=>rfl|cons b l ih=>simp[allB,ih]
abbrev bG(f:List S3):Prop:=f.Pairwise λp r=>aB p≠aB r
inductive Met(f:List S3):W->Prop|none:bG f->Met f .non|two(i j:Nat):i<j->j<f.length->aB (f.getD i (0,0,0))=aB (f.getD j (0,0,0))->(∀a b,a<i->a<b->b<f.length->aB (f.getD a (0,0,0))≠aB (f.getD b (0,0,0)))->(∀b,i<b->b<j->aB (f.getD i (0,0,0))≠aB (f.getD b (0,0,0)))->Met f (.tup [.int i,.int j])
def lr{f}(h:∀a b,a<b->b<f.length->aB (f.getD a (0,0,0))≠aB (f.getD b (0,0,0))):bG f:=by rw[bG,ao9];intro i j e d c;have:=h i j c d;simpa[e,d]using this
def jH{f}(h:bG f){a b}(c:a<b)(d:b<f.length):aB (f.getD a (0,0,0))≠aB (f.getD b (0,0,0)):=by
 rw[bG,ao9]at h;have e:a<f.length:=by omega
 have:=h a b e d c;simpa[e,d]using this
def dH(p:S3):Stp->S3|.go .ahead n=>((sfp p n 0).1,(sfp p n 0).2,p.2.2)|.go .back n=>((sfp p (-n) 0).1,(sfp p (-n) 0).2,p.2.2)|.go .left n=>((sfp p 0 (-n)).1,(sfp p 0 (-n)).2,p.2.2)|.go .right n=>((sfp p 0 n).1,(sfp p 0 n).2,p.2.2)|.turn .left=>(p.1,p.2.1,(p.2.2+1)%4)|.turn .about=>(p.1,p.2.1,(p.2.2+2)%4)|.turn .right=>(p.1,p.2.1,(p.2.2+3)%4)
noncomputable def o6(p:S3):List Stp->List S3|[]=>[p]|s::l=>p::o6 (dH p s) l
def rn(p:S3):Option (List Stp)->List S3|none=>[p]|some l=>o6 p l
def Fac(p:S3):Prop:=0<=p.2.2/\p.2.2<4
def gR(p)(s)(h:Fac p):Fac (dH p s):=by obtain⟨a,b⟩:=h;cases s with|go g n=>cases g<;>exact⟨a,b⟩|turn t=>cases t<;>(constructor<;>simp [dH]<;>omega)
theorem qI:∀l p,Fac p->∀q∈o6 p l,Fac q
|[],p,h,q,a=>by simp [o6]at a;rw[a];exact h|s::l,p,h,q,a=>by
 simp [o6]at a;rcases a with rfl|a;.exact h
 .exact qI l _ (gR p s h) q a
def zI(s)(p)(h:Fac p):∀q∈rn p s,Fac q:=by cases s with|none=>intro q a;simp only[rn,aoT]at a;rw[a];exact h|some l=>exact qI l p h
noncomputable def inB(p:S3):Bool:=decide (-200<=p.1)&&decide (p.1<=200)&&(decide (-200<=p.2.1)&&decide (p.2.1<=200))
noncomputable def gG(w:List S3):S3:=w.getLastD (0,0,0)
def eU(w:List S3):W:=.lst (w.map stW)
def oU(ws:List (List S3)):W:=.lst (ws.map eU)
noncomputable def abt:Nat->List (List S3)->Option Nat|_,[]=>none|k,w::ws=>if(w.drop 1).all inB then abt (k+1) ws else some k
noncomputable def exN(nm:String)(d:Nat):W:=.exc nm [.int d]
def lq{a}(xs:List a):atI xs (-1)=xs.getLast?:=by unfold atI ixN;cases xs with|nil=>rfl|cons x xs=>
 have h:¬0 <=-1:=by omega
 rw[anK h];have b:-((x::xs).length:Int)<=-1:=by grind
 rw[anL b];simp only[apu,List.getLast?_eq_getElem?];congr 1;omega
end ML
namespace K53
open PySem WL
noncomputable def cN:W:=.int 8
noncomputable def kB:W:=.int 200
noncomputable def kA:W:=.tup [.tup [.int 0,.int 1],.tup [.int (-1),.int 0],.tup [.int 0,.int (-1)],.tup [.int 1,.int 0]]
noncomputable def oG:W:=.int 4
noncomputable def jG:W:=.dic [.str "same",.str "left",.str "about",.str "right"] [.int 0,.int 1,.int 2,.int 3]
noncomputable def wh:W:=.dic [.str "ahead",.str "back",.str "left",.str "right"] [.tup [.int 1,.int 0],.tup [.int (-1),.int 0],.tup [.int 0,.int (-1)],.tup [.int 0,.int 1]]
def fZ:SF:=aG (sIf (tB (eOp oLt (ai 1) (eBi oH (ae (ai 0) aw)))) (dn (eOp oIx (ai 0) (ai 1))) sNx) (dn (eC (.int 0)))
def bX:List W->Res W:=run 2 fZ
def ip:SF:=aG (gB 1 (eOp dq (fu 1 (sM (ai 0)) (au 0) fE (eOp oMod (ai 0) (eC (.int 1000000007)))) (iB (ae (eC (.int 0)) aw)))) (aG (sIf (tB (eOp oEq (eOp oMod (aJ bX (ae (ai 0) (ae (eC (.int 0)) aw))) (eC (.int 2))) (eC (.int 0)))) (dn (aiV (ae (eC (.str "left")) (ae (eBi ael (ae (aJ bX (ae (ai 0) (ae (eC (.int 1)) aw))) aw)) (ae (eC (.str "at")) (ae (eUn ni (eC (.int 1))) (ae (eC (.str "cells")) (ae (ai 1) aw)))))))) sNx) (dn (aiV (ae (eC (.str "left")) (ae (eC (.int 0)) (ae (eC (.str "at")) (ae (eC (.int 0)) (ae (eC (.str "cells")) (ae (ai 1) aw)))))))))
def eG:List W->Res W:=run 2 ip
def jW:SF:=aG (aW 2 (yR 0 (eOp oIx (ai 0) (eC (.str "at"))))) (aG (pq (yRT 0 (yX (tB (eOp oLt (ai 2) (eC (.int 0)))) (tB (eOp oEq (eOp oIx (ai 0) (eC (.str "left"))) (eC (.int 0)))))) (aW 2 (yP 0 (eC (.int 0)))) sNx) (aG (pq (yRT 0 (yX (tB (eOp oGe (ai 2) (eC (.int 0)))) (tB (eOp oLt (eOp oIx (ai 0) (eC (.str "left"))) (eOp afs (eC (.int 10)) (eC (.int 12))))))) (aG (aW 3 (yR 0 (eOp oIx (eOp oIx (ai 0) (eC (.str "cells"))) (eOp oMod (ai 2) (eBi oH (ae (eOp oIx (ai 0) (eC (.str "cells"))) aw)))))) (aG (aW 4 (yP 0 (eOp oMod (eOp eS (eOp dq (eOp dq (eOp dq (ai 3) (eOp eS (eOp eS (eC (.int 7919)) (ai 2)) (ai 2))) (ai 2)) (eC (.int 1))) (eC (.int 48271))) (eC (.int 2147483629))))) (aG (aW 5 (yP 0 (eOp oMod (eOp dq (eOp dq (eOp eS (ai 4) (ai 4)) (eOp eS (eOp eS (eC (.int 69621)) (ai 2)) (ai 2))) (eC (.int 1))) (eC (.int 2147483587))))) (aG (qU 0 0 (yP 0 (eOp dq (eOp eS (ai 5) (eC (.int 314159265358979323846264338327950288419))) (eOp eS (ai 4) (eC (.int 27182818284590452353)))))) (qU 0 1 (yP 0 (eOp dq (ai 2) (eC (.int 1))))))))) sNx) (aG (aW 6 (yR 0 (eOp oMod (eOp oIx (ai 0) (eC (.str "left"))) (ai 1)))) (aG (qU 0 0 (yR 0 (eOp oDiv (eOp oIx (ai 0) (eC (.str "left"))) (ai 1)))) (i2 0 (yP 0 (ai 6)))))))
def ar:FS:=ae4 7 jW
def lJ:SF:=i2 0 (xOp oIx (yP 0 (iB (ae (eC (.int 0)) (ae (eC (.int 0)) (ae (eC (.int 0)) (ae (eC (.int 185)) (ae (eUn ni (eC (.int 185))) aw))))))) (bq ar 0 (aF (yP 0 (eC (.int 5))) bc)))
def ia:FS:=ae4 1 lJ
def gQ:SF:=i2 0 (xOp oIx (aj8 (aF (bq ar 0 (aF (yP 0 (eC (.int 4))) bc)) (aF (yP 0 (eC (.int 0))) (aF (xOp eS (bq ar 0 (aF (yP 0 (eC (.int 2))) bc)) (yP 0 (eC (.int 2)))) bc)))) (bq ar 0 (aF (yP 0 (eC (.int 3))) bc)))
def dj:FS:=ae4 1 gQ
def jX:SF:=aG (adM (ai 0) (k7 (bu (au 3) (bu (au 4) (bu (au 5) kN))))) (aG (adM (eOp oIx (iB (ae (ff (ae (eC (.int 0)) (ae (eC (.int 1)) aw))) (ae (ff (ae (eUn ni (eC (.int 1))) (ae (eC (.int 0)) aw))) (ae (ff (ae (eC (.int 0)) (ae (eUn ni (eC (.int 1))) aw))) (ae (ff (ae (eC (.int 1)) (ae (eC (.int 0)) aw))) aw))))) (ai 5)) (k7 (bu (au 6) (bu (au 7) kN)))) (dn (ff (ae (eOp dq (eOp dq (ai 3) (eOp eS (ai 1) (ai 6))) (eOp eS (ai 2) (ai 7))) (ae (eOp jx (eOp dq (ai 4) (eOp eS (ai 1) (ai 7))) (eOp eS (ai 2) (ai 6))) aw)))))
def cB:List W->Res W:=run 8 jX
def jY:SF:=dn (iB (ae (eOp dq (aJ cB (ae (ff (ae (ai 0) (ae (ai 1) (ae (ai 2) aw)))) (ae (eC (.int 0)) (ae (eUn ni (eC (.int 1))) aw)))) (ff (ae (ai 2) aw))) (ae (eOp dq (aJ cB (ae (ff (ae (ai 0) (ae (ai 1) (ae (ai 2) aw)))) (ae (eC (.int 0)) (ae (eC (.int 1)) aw)))) (ff (ae (ai 2) aw))) aw)))
def dk:List W->Res W:=run 3 jY
def bU:SF:=aG (aW 10 (yP 0 (eOp dq (ai 10) (eOp oIx (iB (ae (eC (.int 1)) (ae (eUn ni (eC (.int 1))) aw))) (eBi aek (ae (eOp oLt (ai 1) (eC (.int 0))) aw)))))) (aW 12 (yP 0 (aJ dk (ae (ai 9) (ae (ai 10) (ae (eOp oIx (eOp oIx (ai 12) (eC (.int 0))) (eC (.int 2))) aw))))))
def cz:TF:=tOr (tB (eOp oIn (eSl (eOp oIx (ai 12) (eC (.int 0))) pNo (ke (eC (.int 2)))) (ai 4))) (tB (eOp oIn (eSl (eOp oIx (ai 12) (eC (.int 1))) pNo (ke (eC (.int 2)))) (ai 4)))
noncomputable def gf:Ws->Nat:=λ_=>200
def bC:SF:=aG (aW 9 (xOp dq (xOp dq (xOp jx (xOp eS (bq ar 0 (aF (yP 0 (eC (.int 3))) bc)) (yP 0 (eC (.int 4)))) (yP 0 (eC (.int 4)))) (xOp oDiv (bq ar 0 (aF (yP 0 (eC (.int 4))) bc)) (yP 0 (eC (.int 3))))) (yP 0 (ai 1)))) (aG (aW 10 (xOp jx (xOp jx (bq ar 0 (aF (yP 0 (eC (.int 5))) bc)) (yP 0 (eC (.int 2)))) (yP 0 (ai 1)))) (aG (aW 11 (bq dj 0 bc)) (aG (pq (yT 0 (tB (ai 6))) (aG (aW 11 (yP 0 (ai 7))) (tq [9,10] (yP 0 (aJ cB (ae (ff (ae (ai 1) (ae (eOp jx (eC (.int 0)) (ai 1)) (ae (ai 11) aw)))) (ae (eC (.int 0)) (ae (eOp jx (eOp eS (eC (.int 4)) (ai 8)) (eC (.int 6))) aw))))))) sNx) (aG (aW 12 (yP 0 (aJ dk (ae (ai 9) (ae (ai 10) (ae (ai 11) aw)))))) (aG (n4 gf (blk 0 cz) bU) (aG (aW 4 (yP 0 (eOp dq (ai 4) (iB (ae (eSl (eOp oIx (ai 12) (eC (.int 0))) pNo (ke (eC (.int 2)))) (ae (eSl (eOp oIx (ai 12) (eC (.int 1))) pNo (ke (eC (.int 2)))) aw)))))) (aG (iR 5 (yP 0 (eOp oIx (ai 12) (eC (.int 0)))) (yP 0 (eOp oIx (ai 3) (eOp eS (eC (.int 2)) (ai 8))))) (iR 5 (yP 0 (eOp oIx (ai 12) (eC (.int 1)))) (yP 0 (eOp oIx (ai 3) (eOp dq (eOp eS (eC (.int 2)) (ai 8)) (eC (.int 1)))))))))))))
def fY:SF:=aG (zb 0 2 (lLR (eC (.int 8)))) (aG (qT 3 (yP 0 (eC (.int 8))) aez (yb 3 (bq ar 1 (aF (yP 1 (eOp jx (eC (.int 8)) (ai 0))) bc)))) (aG (aW 4 (yP 0 (iB aw))) (aG (qV 5) (aG (aW 6 (xOp oEq (bq ar 0 (aF (yP 0 (eC (.int 8))) bc)) (yP 0 (eC (.int 1))))) (aG (aW 7 (bq ar 0 (aF (yP 0 (eC (.int 4))) bc))) (aG (qW (yP 0 (eC (.int 4))) (au 8) bC) (aG (pq (xOp oEq (bq ar 0 (aF (yP 0 (eC (.int 6))) bc)) (yP 0 (eC (.int 1)))) (aG (aW 13 (bq ar 0 (aF (yP 0 (eC (.int 8))) bc))) (aG (tq [9,10,11] (yP 0 (afV 5 (eOp tY (ai 5) (ai 13))))) (iR 5 (agI (aF (yP 0 (ai 9)) (aF (yP 0 (ai 10)) (aF (xOp oMod (xOp dq (yP 0 (eOp dq (ai 11) (eC (.int 1)))) (bq ar 0 (aF (yP 0 (eC (.int 3))) bc))) (yP 0 (eC (.int 4)))) bc)))) (yP 0 (ai 13))))) sNx) (x4 5 (i2 0 (yP 0 (eBi ie (ae (fu 1 (gi (eC (.int 8))) (au 0) fE (eOp tY (ai 6) (ai 0))) aw))))))))))))
def i9:FS:=ae4 14 fY
def qF:SF:=dn (ff (ae (eOp oIx (ai 0) (eC (.int 0))) (ae (eOp oIx (ai 0) (eC (.int 1))) aw)))
def h8:List W->Res W:=run 1 qF
def fH:SF:=sIf (tB (eOp oEq (aJ h8 (ae (ai 3) aw)) (ai 1))) (dn (ai 2)) sNx
def uW:SF:=aG (qp (rT (ai 0)) (k7 (bu (au 2) (bu (au 3) kN))) fH) (dn (eC .non))
def p6:List W->Res W:=run 4 uW
def iY:SF:=aG (gB 3 (eOp oIx (eC kA) (eOp oIx (ai 0) (eC (.int 2))))) (aG (gB 4 (eOp dq (eOp eS (eOp oIx (ai 3) (eC (.int 0))) (ai 1)) (eOp eS (eOp oIx (ai 3) (eC (.int 1))) (ai 2)))) (aG (gB 5 (eOp jx (eOp eS (eOp oIx (ai 3) (eC (.int 1))) (ai 1)) (eOp eS (eOp oIx (ai 3) (eC (.int 0))) (ai 2)))) (dn (ff (ae (eOp dq (eOp oIx (ai 0) (eC (.int 0))) (ai 4)) (ae (eOp dq (eOp oIx (ai 0) (eC (.int 1))) (ai 5)) aw))))))
def dM:List W->Res W:=run 6 iY
def eV:SF:=aG (gB 2 (eOp oIx (ai 0) (ai 1))) (aG (gB 3 (aJ p6 (ae (ai 0) (ae (aJ dM (ae (ai 2) (ae (eC (.int 0)) (ae (eC (.int 2)) aw)))) aw)))) (dn (eIf (yX (tB (eOp iU (ai 3) (eC .non))) (tB (eOp oEq (eOp oIx (eOp oIx (ai 0) (ai 3)) (eC (.int 2))) (eOp oIx (ai 2) (eC (.int 2)))))) (ai 3) (eC .non))))
def dh:List W->Res W:=run 4 eV
def dR:SF:=aG (sIf (tB (eOp oNe (eOp oMod (eBi oH (ae (ai 0) aw)) (eC (.int 2))) (eC (.int 0)))) (tr "NoPairs" (ae (eFr (ai 0)) aw)) sNx) (dn (fu 1 (aar (eC (.int 0)) (eBi oH (ae (ai 0) aw))) (au 0) fE (ff (ae (eOp oIx (ai 1) (ai 0)) (ae (eOp oIx (ai 1) (eOp dq (ai 0) (eC (.int 1)))) aw)))))
def cL:List W->Res W:=run 1 dR
def e8:SF:=ahf 2 (afV 2 (eOp oIx (ai 0) (eOp oIx (ai 2) (eUn ni (eC (.int 1))))))
def dg:TF:=age 2 (tB (eOp iU (eOp oIx (ai 0) (eOp oIx (ai 2) (eUn ni (eC (.int 1))))) (eC .non)))
noncomputable def kM:Ws->Nat:=λ_=>20
def jU:SF:=aG (qS 2 (aia (ae (ai 1) aw))) (aG (n4 kM dg e8) (x4 2 (dn (ai 2))))
def iz:List W->Res W:=run 3 jU
def aR:SF:=sIf (tB (eOp oEq (aJ h8 (ae (eOp oIx (ai 0) (ai 1)) aw)) (aJ h8 (ae (eOp oIx (ai 0) (ai 2)) aw)))) (dn (ff (ae (ai 1) (ae (ai 2) aw)))) sNx
def cA:SF:=qp (rS (eOp dq (ai 1) (eC (.int 1))) (eBi oH (ae (ai 0) aw))) (au 2) aR
def du:SF:=aG (qp (gi (eBi oH (ae (ai 0) aw))) (au 1) cA) (dn (eC .non))
def bo:List W->Res W:=run 3 du
def o4:SF:=aG (gB 2 (aJ dM (ae (ai 0) (ae (eC (.int 0)) (ae (ai 1) aw))))) (dn (ff (ae (eOp oIx (ai 2) (eC (.int 0))) (ae (eOp oIx (ai 2) (eC (.int 1))) (ae (eOp oIx (ai 0) (eC (.int 2))) aw)))))
def fc:List W->Res W:=run 3 o4
def gM:SF:=dn (fu 1 (sM (ai 1)) (au 0) fE (aJ fc (ae (eOp oIx (ai 1) (eOp oIx (ai 0) (eC (.int 0)))) (ae (eC (.int 1)) aw))))
def bP:List W->Res W:=run 2 gM
def aE:SF:=sIf (tB (eOp mw (ai 3) (ai 1))) (ajl 2 (en cL (ae (aJ iz (ae (ai 1) (ae (ai 3) aw))) aw))) sNx
def jV:SF:=aG (gB 1 (fu 1 (gi (eC cN)) (au 0) fE (aJ dh (ae (ai 1) (ae (ai 0) aw))))) (aG (qS 2 (aia aw)) (aG (qp (gi (eC cN)) (au 3) aE) (aG (sIf (age 2 (tB (eOp iU (aJ bo (ae (aJ bP (ae (ai 0) (ae (ai 2) aw))) aw)) (eC .non)))) (vi "NoPairs" (ae (eC (.str "two pairs of one middle")) aw)) sNx) (x4 2 (dn (eBi kP (ae (ai 2) aw)))))))
def di:List W->Res W:=run 4 jV
def lK:SF:=aG (gB 1 (iB (ae (eBi qm (ae (ai 0) (ae (eC (.cls "Blind")) aw))) (ae (eBi qm (ae (ai 0) (ae (eC (.cls "Out")) aw))) (ae (eBi qm (ae (ai 0) (ae (eC (.cls "Meet")) aw))) (ae (eBi qm (ae (ai 0) (ae (eC (.cls "NoPairs")) aw))) aw)))))) (aG (gB 2 (iB (ae (eBi qm (ae (ai 0) (ae (eC (.cls "Broken")) aw))) (ae (eBi qm (ae (ai 0) (ae (eC (.cls "NoCall")) aw))) (ae (eBi qm (ae (ai 0) (ae (eC (.cls "NoName")) aw))) (ae (eBi qm (ae (ai 0) (ae (eC (.cls "NoProgram")) aw))) aw)))))) (aG (gB 2 (eOp dq (ai 2) (iB (ae (eBi qm (ae (ai 0) (ae (eC (.cls "NoRow")) aw))) (ae (eBi qm (ae (ai 0) (ae (eC (.cls "NotEven")) aw))) (ae (eBi qm (ae (ai 0) (ae (eC (.cls "TooMany")) aw))) aw)))))) (aG (sIf (tOr (tB (eOp oNe (amW "list" om (ai 1) (ae (eC (.bl true)) aw)) (eC (.int 1)))) (tOr (tB (eOp oIn (eC (.bl true)) (ai 2))) (abq (tB (eBi qm (ae (ai 0) (ae (eC (.ty "ValueError")) aw))))))) (dn (iB (ae (eC (.str "none")) aw))) sNx) (aG (sIf (tB (eOp oIx (ai 1) (eC (.int 3)))) (dn (iB (ae (eC (.str "NoPairs")) aw))) sNx) (aG (sIf (tB (eOp oIx (ai 1) (eC (.int 2)))) (dn (iB (ae (eC (.str "Meet")) (ae (ajR (ai 0) "one") (ae (ajR (ai 0) "other") aw))))) sNx) (dn (iB (ae (eOp oIx (iB (ae (eC (.str "Blind")) (ae (eC (.str "Out")) aw))) (eBi aek (ae (eOp oIx (ai 1) (eC (.int 1))) aw))) (ae (ajR (ai 0) "who") aw)))))))))
def cw:List W->Res W:=run 3 lK
def cg:SF:=gB 1 (en di (ae (ai 0) aw))
def dt:SF:=gB 1 (aJ cw (ae (ai 2) aw))
def cQ:SF:=aG (gB 1 (iB aw)) (aG (l3 cg "FloorError" 2 dt) (dn (ai 1)))
def bB:List W->Res W:=run 3 cQ
def ik:SF:=aG (aW 1 (bq ar 0 (aF (yP 0 (eC (.int 8))) bc))) (aG (pq (yT 0 (tB (eOp oGt (ai 1) (eC (.int 4))))) (i2 0 (yP 0 (ff (ae (eC (.str "turn")) (ae (eOp oIx (iB (ae (eC (.str "left")) (ae (eC (.str "right")) (ae (eC (.str "about")) aw)))) (eOp jx (ai 1) (eC (.int 5)))) aw))))) sNx) (i2 0 (agI (aF (yP 0 (eOp oIx (iB (ae (eC (.str "ahead")) (ae (eC (.str "back")) (ae (eC (.str "left")) (ae (eC (.str "right")) (ae (eC (.str "ahead")) aw)))))) (ai 1))) (aF (xOp dq (yP 0 (eC (.int 1))) (bq ar 0 (aF (yP 0 (eC (.int 4))) bc))) bc)))))
def eF:FS:=ae4 2 ik
def lI:SF:=dn (aaU (eBi bF (ae (ai 0) (ae (eC (.ty "int")) aw))) (aiU (eBi bF (ae (ai 0) (ae (eC (.ty "bool")) aw)))))
def mK:List W->Res W:=run 1 lI
def e9(a:List W->Res W):SF:=sIf (abq (tB (aJ a (ae (ai 2) (ae (ai 3) aw))))) (dn (eC (.bl false))) sNx
def il(a:List W->Res W):SF:=aG (sIf (tB (eBi gq (ae (ai 1) (ae (ff (ae (eC (.ty "list")) (ae (eC (.ty "tuple")) aw))) aw)))) (aG (sIf (tOr (tB (eOp oNe (eBi bF (ae (ai 0) (ae (eC (.ty "list")) aw))) (eBi bF (ae (ai 1) (ae (eC (.ty "list")) aw))))) (tB (eOp oNe (eBi bF (ae (ai 0) (ae (eC (.ty "tuple")) aw))) (eBi bF (ae (ai 1) (ae (eC (.ty "tuple")) aw)))))) (dn (eC (.bl false))) sNx) (aG (sIf (tB (eOp oNe (eBi oH (ae (ai 0) aw)) (eBi oH (ae (ai 1) aw)))) (dn (eC (.bl false))) sNx) (aG (qp (aiv (ai 0) (ai 1)) (k7 (bu (au 2) (bu (au 3) kN))) (e9 a)) (dn (eC (.bl true)))))) sNx) (aG (sIf (tB (eBi bF (ae (ai 1) (ae (eC (.ty "str")) aw)))) (dn (aaU (eBi bF (ae (ai 0) (ae (eC (.ty "str")) aw))) (eOp oEq (ai 0) (ai 1)))) sNx) (dn (aaU (aJ mK (ae (ai 0) aw)) (eOp oEq (ai 0) (ai 1)))))
noncomputable def aI:Nat->List W->Res W|0=>λ_=>.bad|n+1=>run 4 (il (aI n))
def cW:SF:=sIf (tB (eOp oGt (eBi uH (ae (eBi ael (ae (eOp oIx (eOp oIx (ai 0) (ai 1)) (eC (.int 0))) aw)) (ae (eBi ael (ae (eOp oIx (eOp oIx (ai 0) (ai 1)) (eC (.int 1))) aw)) aw))) (eC (.int 200)))) (dn (iB (ae (eC (.str "Out")) (ae (ai 1) aw)))) sNx
def cq:SF:=sIf (tB (eOp oEq (eSl (eOp oIx (ai 0) (ai 1)) pNo (ke (eC (.int 2)))) (eSl (eOp oIx (ai 0) (ai 2)) pNo (ke (eC (.int 2)))))) (dn (iB (ae (eC (.str "Meet")) (ae (ai 1) (ae (ai 2) aw))))) sNx
def bT:SF:=qp (rS (eOp dq (ai 1) (eC (.int 1))) (eC (.int 8))) (au 2) cq
def gO:SF:=aG (qp (gi (eC (.int 8))) (au 1) cW) (aG (qp (gi (eC (.int 8))) (au 1) bT) (dn (ai 0)))
def dz:List W->Res W:=run 3 gO
def ir:SF:=aG (gB 1 (aJ bo (ae (ai 0) aw))) (aG (sIf (tB (eOp iU (ai 1) (eC .non))) (l4 "Meet" (ae (eOp oIx (ai 1) (eC (.int 0))) (ae (eOp oIx (ai 1) (eC (.int 1))) aw))) sNx) (dn (eBi ie (ae (ai 0) aw))))
def cb:List W->Res W:=run 2 ir
def yL(a:List W->Res W):SF:=agf
noncomputable def mL:Nat->List W->Res W|0=>λ_=>.bad|n+1=>run 4 (yL (mL n))
def hG:SF:=sIf (tB (eBi adj (ae (fu 1 (sM (eOp oIx (ai 4) (eC (.int 0)))) (au 0) fE (aJ (mL 3) (ae (ai 1) (ae (ai 2) (ae (ai 0) aw))))) aw))) (dn (ai 3)) sNx
def jT:SF:=aG (qp (rT (ai 2)) (k7 (bu (au 3) (bu (au 4) kN))) hG) (dn (eC .non))
def iy:List W->Res W:=run 5 jT
def jS:SF:=aG (sIf (yX (tB (eOp iU (ai 3) (eC .non))) (tB (eOp mw (ai 1) (ai 3)))) (dn (ff aw)) sNx) (aG (gB 4 (aJ iy (ae (ai 0) (ae (ai 1) (ae (ai 2) aw))))) (aG (sIf (tB (eOp oIs (ai 4) (eC .non))) agf sNx) (dn (eOp oIx (eOp oIx (ai 2) (ai 4)) (eC (.int 1))))))
def fK:List W->Res W:=run 5 jS
def iq:SF:=dn (aaU (eBi bF (ae (ai 0) (ae (eC (.ty "int")) aw))) (aiU (eBi bF (ae (ai 0) (ae (eC (.ty "bool")) aw)))))
def fM:List W->Res W:=run 1 iq
def j3:SF:=dn (aaU (aJ fM (ae (ai 0) aw)) (oA oLe oLe (eUn ni (eC kB)) (ai 0) (eC kB)))
def fO:List W->Res W:=run 1 j3
def i0:SF:=dn (aaU (aJ fM (ae (ai 0) aw)) (oA oLe oLt (eC (.int 0)) (ai 0) (eBi oH (ae (eC kA) aw))))
def gj:List W->Res W:=run 1 i0
def jZ:SF:=aG (sIf (tOr (abq (tB (eBi bF (ae (ai 0) (ae (eC (.ty "tuple")) aw))))) (tB (eOp oNe (eBi oH (ae (ai 0) aw)) (eC (.int 3))))) (dn (eC (.bl false))) sNx) (dn (aaU (aJ fO (ae (eOp oIx (ai 0) (eC (.int 0))) aw)) (aaU (aJ fO (ae (eOp oIx (ai 0) (eC (.int 1))) aw)) (aJ gj (ae (eOp oIx (ai 0) (eC (.int 2))) aw)))))
def fN:List W->Res W:=run 1 jZ
def cu:SF:=sIf (abq (tB (eBi adj (ae (fu 1 (sM (eSl (ai 2) (ke (eC (.int 1))) pNo)) (au 0) fE (aJ fN (ae (ai 0) aw))) aw)))) (l4 "Out" (ae (ai 1) aw)) sNx
def ji:SF:=aG (qp (rT (ai 0)) (k7 (bu (au 1) (bu (au 2) kN))) cu) (dn (ai 0))
def fL:List W->Res W:=run 3 ji
def eJ:SF:=dn (eOp oMod (eOp dq (ai 0) (eOp oIx (eC jG) (ai 1))) (eC oG))
def cv:List W->Res W:=run 2 eJ
def dQ:SF:=aG (sIf (tB (eOp oEq (eOp oIx (ai 1) (eC (.int 0))) (eC (.str "turn")))) (dn (ff (ae (eOp oIx (ai 0) (eC (.int 0))) (ae (eOp oIx (ai 0) (eC (.int 1))) (ae (aJ cv (ae (eOp oIx (ai 0) (eC (.int 2))) (ae (eOp oIx (ai 1) (eC (.int 1))) aw))) aw))))) sNx) (aG (gB 2 (eOp oIx (eC wh) (eOp oIx (ai 1) (eC (.int 0))))) (aG (gB 3 (aJ dM (ae (ai 0) (ae (eOp eS (eOp oIx (ai 2) (eC (.int 0))) (eOp oIx (ai 1) (eC (.int 1)))) (ae (eOp eS (eOp oIx (ai 2) (eC (.int 1))) (eOp oIx (ai 1) (eC (.int 1)))) aw))))) (dn (ff (ae (eOp oIx (ai 3) (eC (.int 0))) (ae (eOp oIx (ai 3) (eC (.int 1))) (ae (eOp oIx (ai 0) (eC (.int 2))) aw)))))))
def cK:List W->Res W:=run 4 dQ
def dJ:SF:=sIf (tB (eOp oNe (eOp oIx (ai 3) (eC (.int 0))) (eC (.str "stay")))) (ahf 2 (afV 2 (aJ cK (ae (eOp oIx (ai 2) (eUn ni (eC (.int 1)))) (ae (ai 3) aw))))) sNx
def ij:SF:=aG (qS 2 (aia (ae (ai 0) aw))) (aG (qp (sM (ai 1)) (au 3) dJ) (x4 2 (dn (ai 2))))
def cR:List W->Res W:=run 4 ij
def uX:SF:=aG (gB 3 (fu 1 (gi (eC cN)) (au 0) fE (aJ fK (ae (ai 1) (ae (ai 0) (ae (ai 2) (ae (ai 3) aw))))))) (dn (en fL (ae (fu 1 (gi (eC cN)) (au 0) fE (aJ cR (ae (eOp oIx (ai 1) (ai 0)) (ae (eOp oIx (ai 4) (ai 0)) aw)))) aw)))
def vU:List W->Res W:=run 4 uX
def la:SF:=dn (en cb (ae (fu 1 (sM (en vU (ae (ai 0) (ae (ai 1) (ae (ai 2) aw))))) (au 0) fE (eOp oIx (ai 0) (eUn ni (eC (.int 1))))) aw))
def iA:List W->Res W:=run 3 la
def bQ:SF:=gB 2 (en (λws=>iA (ws++[.non])) (ae (ai 0) (ae (iB (ae (ff (ae (ff aw) (ae (ff (ae (ai 1) aw)) aw))) aw)) aw)))
def cy:SF:=gB 2 (aJ cw (ae (ai 3) aw))
def lL:SF:=aG (sIf (tB (eOp oIn (eOp oIx (ai 1) (eC (.int 0))) (ff (ae (eC (.str "left")) (ae (eC (.str "right")) aw))))) (gB 1 (ff (ae (eOp oIx (ai 1) (eC (.int 0))) (ae (eOp eS (eC (.int 2)) (eOp oIx (ai 1) (eC (.int 1)))) aw)))) sNx) (aG (gB 2 (eC .non)) (aG (l3 bQ "FloorError" 3 cy) (dn (ai 2))))
def dO:List W->Res W:=run 4 lL
def gk:List W->Res W:=amy "PairedFloor" di bP
def da(a:List W->Res W):SF:=agf
noncomputable def aT:Nat->List W->Res W|0=>λ_=>.bad|n+1=>run 3 (da (aT n))
def bx:SF:=sIf (tB (eBi adj (ae (mR 1 (sM (eOp oIx (ai 3) (eC (.int 0)))) (au 0) fE (oy "PairedFloor" (aT 3) (ai 1) (ae (ai 2) (ae (ai 0) aw)))) aw))) (dn (eOp oIx (ai 3) (eC (.int 1)))) sNx
def bJ:SF:=aG (qp (sM (ai 2)) (au 3) bx) agf
def aS:List W->Res W:=run 4 bJ
def lH:SF:=dn (eIf (tB (eOp oIn (eOp oIx (ai 0) (eC (.int 0))) (ff (ae (eC (.str "left")) (ae (eC (.str "right")) aw))))) (ff (ae (eOp oIx (ai 0) (eC (.int 0))) (ae (eOp eS (eC (.int 2)) (eOp oIx (ai 0) (eC (.int 1)))) aw))) (ai 0))
def eQ:List W->Res W:=run 1 lH
def ba:SF:=aG (gB 7 (aJ cR (ae (eOp oIx (aaS "PairedFloor" 2 (ai 2)) (ai 5)) (ae (fu 1 (sM (eOp oIx (ai 3) (ai 5))) (au 0) fE (aJ eQ (ae (ai 0) aw))) aw)))) (aG (adM (fu 1 (sM (ai 7)) (au 0) fE (aJ fc (ae (ai 0) (ae (eUn ni (eC (.int 1))) aw)))) (acV 4 (eOp oIx (ai 6) (eC (.int 0))))) (adM (fu 1 (sM (ai 7)) (au 0) fE (aJ fc (ae (ai 0) (ae (eC (.int 1)) aw)))) (acV 4 (eOp oIx (ai 6) (eC (.int 1))))))
def bI:SF:=aG (gB 2 (oz "PairedFloor" gk (ae (ai 0) aw))) (aG (gB 3 (mR 1 (gi (eBi oH (ae (aaS "PairedFloor" 1 (ai 2)) aw))) (au 0) fE (oy "PairedFloor" aS (ai 3) (ae (ai 0) (ae (ai 2) aw))))) (aG (qS 4 (ue 1 (gi (eC cN)) (au 0) fE (iB aw))) (aG (qp (rT (aaS "PairedFloor" 1 (ai 2))) (k7 (bu (au 5) (bu (au 6) kN))) ba) (x4 4 (dn (en cb (ae (fu 1 (sM (en fL (ae (ai 4) aw))) (au 0) fE (eOp oIx (ai 0) (eUn ni (eC (.int 1))))) aw)))))))
def bb:List W->Res W:=run 8 bI
def cZ:SF:=gB 2 (en bb (ae (ai 0) (ae (ai 1) aw)))
def dU:SF:=gB 2 (aJ cw (ae (ai 3) aw))
def eE:SF:=aG (gB 2 (eC .non)) (aG (l3 cZ "FloorError" 3 dU) (dn (ai 2)))
def bA:List W->Res W:=run 4 eE
def bV:SF:=aG (adM (eOp oIx (ai 0) (ai 4)) (k7 (bu (au 6) (bu (au 7) (bu (au 8) kN))))) (aG (adM (eSl (eOp oIx (ai 0) (ai 5)) pNo (ke (eC (.int 2)))) (k7 (bu (au 9) (bu (au 10) kN)))) (aG (gB 11 (eOp oMod (eOp dq (ai 8) (eOp oIx (aiV (ae (eC (.str "left")) (ae (eC (.int 1)) (ae (eC (.str "about")) (ae (eC (.int 2)) (ae (eC (.str "right")) (ae (eC (.int 3)) aw))))))) (ai 2))) (eC (.int 4)))) (aG (gB 12 (ff (ae (eOp oDiv (eOp dq (ai 6) (ai 9)) (eC (.int 2))) (ae (eOp oDiv (eOp dq (ai 7) (ai 10)) (eC (.int 2))) (ae (ai 11) aw))))) (aG (pk 3 (eOp dq (aJ cB (ae (ai 12) (ae (eC (.int 0)) (ae (eUn ni (eC (.int 1))) aw)))) (ff (ae (ai 11) aw))) (ai 4)) (aG (pk 3 (eOp dq (aJ cB (ae (ai 12) (ae (eC (.int 0)) (ae (eC (.int 1)) aw)))) (ff (ae (ai 11) aw))) (ai 5)) (sIf (tB (eOp oEq (ai 2) (eC (.str "about")))) (aG (pk 3 (ff (ae (ai 9) (ae (ai 10) (ae (ai 11) aw)))) (ai 4)) (pk 3 (ff (ae (ai 6) (ae (ai 7) (ae (ai 11) aw)))) (ai 5))) sNx))))))
def iZ:SF:=aG (qV 3) (aG (qp (sM (ai 1)) (k7 (bu (au 4) (bu (au 5) kN))) bV) (x4 3 (dn (eBi ie (ae (fu 1 (gi (eC (.int 8))) (au 0) fE (eOp tY (ai 4) (ai 0))) aw)))))
def cY:List W->Res W:=run 13 iZ
def ki:SF:=aG (aW 6 (yP 1 (aJ bB (ae (ai 4) aw)))) (aG (aW 7 (bq eF 1 bc)) (aG (aW 8 (yP 1 (ai 6))) (aG (pq (yT 1 (tB (eOp oNe (ai 6) (iB (ae (eC (.str "NoPairs")) aw))))) (pq (yT 1 (tB (eOp oEq (eOp oIx (ai 7) (eC (.int 0))) (eC (.str "turn"))))) (aW 8 (yP 1 (aJ dz (ae (aJ cY (ae (ai 4) (ae (ai 6) (ae (eOp oIx (ai 7) (eC (.int 1))) aw)))) aw)))) (aW 8 (yP 1 (aJ dO (ae (ai 4) (ae (ai 7) aw)))))) sNx) (aG (pq (yT 1 (abq (tB (aJ (aI 3) (ae (aJ bA (ae (ai 4) (ae (iB (ae (ff (ae (ff aw) (ae (ff (ae (ai 7) aw)) aw))) aw)) aw))) (ae (ai 8) aw)))))) (i2 1 (yP 1 (eC (.bl false)))) sNx) (pq (yT 1 (tB (eBi bF (ae (ai 8) (ae (eC (.ty "tuple")) aw))))) (aW 4 (yP 1 (ai 8))) sNx)))))
def kj:SF:=aG (aW 4 (bq i9 1 (aF (yP 1 (ai 2)) bc))) (qW (xOp dq (yP 1 (eC (.int 1))) (bq ar 1 (aF (yP 1 (eC (.int 4))) bc))) (au 5) ki)
def yK:SF:=ae2 1 eG (ae (ai 0) aw) (aG (aW 2 (bq ia 1 bc)) (aG (qW (bq ar 1 (aF (yP 1 (eC (.int 41))) bc)) (au 3) kj) (i2 1 (yP 1 (eC (.bl true))))))
def ac0:List W->Res W:=run 9 yK
end K53
namespace K53
open PySem WL ML
noncomputable def el(hs:Nat->Option Nat):Nat->Nat->List Nat|0,d=>[d]|n+1,d=>d::match hs d with|some k=>el hs n k|none=>[]
def ra(hs:Nat->Option Nat)(n d:Nat):d∈el hs n d:=by cases n<;>simp[el]
structure Hands(hs:Nat->Option Nat)(rk:Nat->Nat):Prop where
 lt:∀d k,d<8->hs d=some k->k<8inj:∀d e k,d<8->e<8->hs d=some k->hs e=some k->d=e
 rl:∀d,d<8->rk d<8up:∀d k,d<8->hs d=some k->rk d<rk k
section
variable{hs:Nat->Option Nat}{rk:Nat->Nat}(H:Hands hs rk)
include H
theorem l6:∀(n d:Nat),d<8->∀x∈el hs n d,x<8/\rk d<=rk x
|0,d,hd,x,c=>by simp[el]at c;subst c;exact⟨hd,anP _⟩|n+1,d,hd,x,c=>by
 rcases anS.mp c with rfl|c;.exact⟨hd,anP _⟩
 .cases e:hs d with|none=>rw[e]at c;cases c|some k=>rw[e]at c;obtain⟨a,b⟩:=l6 n k (H.lt d k hd e) x c;have:=H.up d k hd e;exact⟨a,by omega⟩
theorem adP:∀(n d:Nat),d<8->(el hs n d).Nodup
|0,d,_=>by simp[el]|n+1,d,hd=>by
 refine aoF.mpr ⟨λb=>?_,?_⟩;.cases e:hs d with|none=>rw[e]at b;cases b|some k=>rw[e]at b;have a:=(l6 H n k (H.lt d k hd e) d b).2;have:=H.up d k hd e;omega
 .cases e:hs d with|none=>exact List.nodup_nil|some k=>exact adP n k (H.lt d k hd e)
theorem vk:∀(n d:Nat),d<8->8<=n+rk d+1->∀x∈el hs n d,∀k,hs x=some k->k∈el hs n d
|0,d,hd,hn,x,c,k,e=>by simp[el]at c;subst c;have a:=H.up x k hd e;have b:=H.rl k (H.lt x k hd e);omega|n+1,d,hd,hn,x,c,k,e=>by
 rcases anS.mp c with rfl|c;.refine anU _ ?_;rw[e];exact ra hs n k
 .refine anU _ ?_;cases f:hs d with|none=>rw[f]at c;cases c|some k0=>rw[f]at c;have a:=H.up d k0 hd f;exact vk n k0 (H.lt d k0 hd f) (by omega) x c k e
omit H in theorem lb:∀(n d x:Nat),x∈el hs n d->x=d\/∃y∈el hs n d,hs y=some x
|0,d,x,a=>by simp[el]at a;exact .inl a|n+1,d,x,a=>by
 rcases anS.mp a with rfl|a;.exact .inl rfl
 .right;cases e:hs d with|none=>rw[e]at a;cases a|some k=>
  rw[e]at a;rcases lb n k x a with rfl|⟨y,c,b⟩;.exact⟨d,an2,e⟩
  .exact⟨y,anU _ (by rw[e];exact c),b⟩
theorem q5{d e:Nat}(k:d<8)(i:e<8)(m:∀y,y<8->hs y≠some d)(o:∀y,y<8->hs y≠some e)(n:Nat):∀(r x:Nat),rk x<r->x∈el hs n d->x∈el hs n e->d=e
|0,_,h,_,_=>absurd h (aoG _)|r+1,x,h,h1,h2=>by
  rcases lb n d x h1 with rfl|⟨y,f,c⟩
  .rcases lb n e x h2 with rfl|⟨y,f,c⟩;.rfl
   .exact(m y (l6 H n e i y f).1 c).elim
  .have j:=(l6 H n d k y f).1;rcases lb n e x h2 with rfl|⟨l,b,g⟩;.exact(o y j c).elim
   .have:=H.inj y l x j (l6 H n e i l b).1 c g;subst this;have a:=H.up y x j c;exact q5 k i m o n r y (by omega) f b
noncomputable def startB(hs:Nat->Option Nat)(d:Nat):Bool:=(List.range 8).all λy=>hs y !=some d
omit H in theorem nH{d:Nat}:startB hs d=true↔∀y,y<8->hs y≠some d:=by simp[startB]
theorem q3:∀(r d:Nat),rk d<r->d<8->∃s,s<8/\startB hs s=true/\d∈el hs 8 s
|0,_,h,_=>absurd h (aoG _)|r+1,d,h,hd=>by
  by_cases c:startB hs d=true;.exact⟨d,hd,c,ra hs 8 d⟩
  .have:∃y,y<8/\hs y=some d:=by simpa[startB]using c
   obtain⟨y,f,b⟩:=this;have a:=H.up y d f b;obtain⟨s,e,g,i⟩:=q3 r y (by omega) f;exact⟨s,e,g,vk H 8 s e (by omega) y i d b⟩
omit H in def q0(hs:Nat->Option Nat):List (List Nat):=((List.range 8).filter (startB hs)).map (el hs 8)
theorem ze:(q0 hs).flatten.Perm (List.range 8):=by
 refine(List.perm_ext_iff_of_nodup ?_ apw).mpr λd=>?_
 .refine List.pairwise_flatten.mpr ⟨λl i=>?_,?_⟩;.obtain⟨s,c,rfl⟩:=aoD.mp i;have:=an1.mp (aoV.mp c).1;exact adP H 8 s this
  .refine List.pairwise_map.mpr ?_;have nd:((List.range 8).filter (startB hs)).Nodup:=apw.filter _;refine List.Pairwise.imp_of_mem ?_ nd;intro a b o p g x f y e j;subst j;have k:=aoV.mp o;have m:=aoV.mp p;exact g (q5 H (an1.mp k.1) (an1.mp m.1) (nH.mp k.2) (nH.mp m.2) 8 _ x (ao0 _) f e)
 .constructor;.intro h;obtain⟨l,i,n⟩:=List.mem_flatten.mp h;obtain⟨s,c,rfl⟩:=aoD.mp i;exact an1.mpr (l6 H 8 s (an1.mp (aoV.mp c).1) d n).1
  .intro h;obtain⟨s,f,e,q⟩:=q3 H _ d (ao0 _) (an1.mp h);exact List.mem_flatten.mpr ⟨_,aoD.mpr ⟨s,aoV.mpr ⟨an1.mpr f,e⟩,rfl⟩,q⟩
end
noncomputable def two2:List Nat->List (Nat×Nat)|a::b::l=>(a,b)::two2 l|_=>[]
theorem two2_flat:∀l:List Nat,l.length%2=0->(two2 l).flatMap (λp=>[p.1,p.2])=l|[],_=>rfl|[_],h=>by simp at h|a::b::l,h=>by have:=two2_flat l (by simp only[anV]at h;omega);simp[two2,this]
theorem n9:∀a:List (List Nat),(∀l∈a,l.length%2=0)->(a.flatMap two2).flatMap (λp=>[p.1,p.2])=a.flatten|[],_=>rfl|l::a,h=>by rw[List.flatMap_cons,List.flatMap_append,two2_flat l (h l an2),n9 a λx b=>h x (anU _ b)];rfl
theorem vS:∀a:List (Nat×Nat),(a.flatMap λp=>[p.1,p.2]).length=2*a.length|[]=>rfl|p::a=>by rw[List.flatMap_cons,aoh,vS a];simp;omega
def w9{hs:Nat->Option Nat}{b:Nat->Nat}(H:Hands hs b)(h:∀l∈q0 hs,l.length%2=0):((q0 hs).flatMap two2).length=4/\∀d,d<8↔∃p∈(q0 hs).flatMap two2,d=p.1\/d=p.2:=by
 have e:=n9 _ h;have P:=ze H;constructor;.have a:=vS ((q0 hs).flatMap two2);rw[e,P.length_eq,apm]at a;omega
 .intro d;rw[<-an1,<-P.mem_iff,<-e,List.mem_flatMap];simp
def rhO(f:List S3)(d:Nat):Option Nat:=match xZ (sfp (f.getD d (0,0,0)) 0 2) 0 f with|some k=>if fb f k=fb f d then some k else none|none=>none
set_option tactic.hygienic true
theorem yn(s:Int×Int):∀(f:List S3)(k i:Nat),xZ s k f=some i->aB (f.getD (i-k) (0,0,0))=s
|[],_,_,h=>by simp[xZ]at h|p::f,k,i,h=>by
 simp only[xZ]at h;split at h;.rename_i a;cases h;simpa using a
 .have b:=oR s _ f i h;have:=yn s f (k+1) i h;obtain⟨j,rfl⟩:∃j,i=k+1+j:=⟨i-(k+1),by omega⟩;rw[show k+1+j-(k+1)=j by omega]at this;rw[show k+1+j-k=j+1 by omega];simpa using this
def jq{f:List S3}{d k:Nat}(h:rhO f d=some k):k<f.length/\aB (f.getD k (0,0,0))=sfp (f.getD d (0,0,0)) 0 2/\(f.getD k (0,0,0)).2.2=(f.getD d (0,0,0)).2.2:=by unfold rhO at h;cases e:xZ (sfp (f.getD d (0,0,0)) 0 2) 0 f with|none=>rw[e]at h;cases h|some j=>
 rw[e]at h;simp only at h;split at h;.rename_i b;cases h;have c:=oR _ 0 f k e;have a:=yn _ f 0 k e;exact⟨by omega,a,b⟩
 .cases h
set_option tactic.hygienic false
noncomputable def aik(p:S3):Int:=if p.2.2=0 then p.1 else if p.2.2=1 then p.2.1 else if p.2.2=2 then -p.1 else -p.2.1
def aib{p q:S3}(a:aB q=sfp p 0 2)(b:q.2.2=p.2.2):aik q=aik p+2:=by
 obtain⟨x,y,c⟩:=p;obtain⟨e,d,f⟩:=q;simp only at b;subst b;simp only[aB,sfp]at a;simp only[aik];split at a;.simp only[aot]at a;simp[*]
 .split at a;.simp only[aot]at a;simp[*]
  .split at a;.simp only[aot]at a;simp[*];omega
   .simp only[aot]at a;simp[*];omega
def aeV{p q:S3}{m n:Int}(h:sfp p m n=sfp q m n)(a:p.2.2=q.2.2):aB p=aB q:=by
 obtain⟨x,y,c⟩:=p;obtain⟨d,b,e⟩:=q;simp only at a;subst a;simp only[sfp]at h;simp only[aB];split at h;.simp only[aot]at h⊢;omega
 .split at h;.simp only[aot]at h⊢;omega
  .split at h<;>(simp only[aot]at h⊢;omega)
def two_at{f:List S3}(j:bG f){d e:Nat}(b:d<f.length)(a:e<f.length)(h:aB (f.getD d (0,0,0))=aB (f.getD e (0,0,0))):d=e:=by
 have g:∀i(c:i<f.length),f.getD i (0,0,0)=f[i]:=λi c=>by rw[anI,anJ c];rfl
 rw[g d b,g e a]at h;rcases aqp d e with z|z|z;.exact(ao9.mp j d e b a z h).elim
 .exact z
 .exact(ao9.mp j e d a b z h.symm).elim
theorem wc{p q:Nat->Bool}:∀l:List Nat,(∀x∈l,p x=true->q x=true)->(∃x∈l,q x=true/\p x=false)->l.countP p<l.countP q
|[],_,h=>by obtain⟨x,b,_⟩:=h;cases b|a::l,h,b=>by
  have i:l.countP p<=l.countP q:=List.countP_mono_left λx b=>h x (anU _ b);rw[aqC,aqC];by_cases f:p a=true
  .have d:=h a an2 f;obtain⟨x,c,g,e⟩:=b;rcases anS.mp c with rfl|c;.rw[f]at e;cases e
   .have:=wc l (λx b=>h x (anU _ b)) ⟨x,c,g,e⟩;simp[f,d];omega
  .by_cases d:q a=true;.simp[f,d];omega
   .obtain⟨x,c,g,e⟩:=b;rcases anS.mp c with rfl|c;.exact(d g).elim
    .have:=wc l (λx b=>h x (anU _ b)) ⟨x,c,g,e⟩;simp[f,d];omega
def agl(f:List S3)(d e:Nat):Bool:=decide ((f.getD e (0,0,0)).2.2=(f.getD d (0,0,0)).2.2)&&decide (aik (f.getD e (0,0,0))<aik (f.getD d (0,0,0)))
def rkF(f:List S3)(d:Nat):Nat:=(List.range 8).countP (agl f d)
def vL{f:List S3}(hl:f.length=8)(ha:bG f):Hands (rhO f) (rkF f)where
 lt d k _ h:=by have:=(jq h).1;omega
 inj d e k hd he h1 h2:=by obtain⟨_,a1,a2⟩:=jq h1;obtain⟨_,b1,b2⟩:=jq h2;exact two_at ha (by omega) (by omega) (aeV (a1.symm.trans b1) (a2.symm.trans b2))
 rl d hd:=by have h:=wc (p:=agl f d) (q:=λ_=>true) (List.range 8) (λ_ _ _=>rfl) ⟨d,an1.mpr hd,rfl,by simp[agl]⟩;rw[List.countP_true,apm]at h;exact h
 up d k hd h:=by
  obtain⟨_,a1,a2⟩:=jq h;have hk:=aib a1 a2;refine wc _ (λx _ hx=>?_) ⟨d,an1.mpr hd,?_,?_⟩;.simp only[agl,an6,aog]at hx⊢;exact⟨hx.1.trans a2.symm,by omega⟩
  .simp only[agl,an6,aog];exact⟨a2.symm,by omega⟩
  .simp[agl]
noncomputable def ikT(k t:String):Option Bool:=if["int","bool","str","list","tuple"].contains t then some (k==t||k=="bool"&&t=="int")else none
def aiu(x t):isK (.int x) t=ikT "int" t:=(rfl)
def ais(x t):isK (.str x) t=ikT "str" t:=(rfl)
def ait(x t):isK (.lst x) t=ikT "list" t:=(rfl)
def air(x t):isK (.tup x) t=ikT "tuple" t:=(rfl)
def aiJ(l):agm (.lst l)=if shC l=true then .ok (.lst l)else .bad:=(rfl)
def sA2(i j u v σ):nK [i,j] [u,v] σ=(σ.set i (.va u)).set j (.va v):=(rfl)
def sA3(i j k u v w σ):nK [i,j,k] [u,v,w] σ=((σ.set i (.va u)).set j (.va v)).set k (.va w):=(rfl)
def agv(x y xs ys):sP (x::xs) (y::ys)=.tup [x,y]::sP xs ys:=(rfl)
def zm(i v k σ ks us):afc i v k σ (some (.od ks us))=putD i ks us k v σ:=(rfl)
def aiS(n w l):aiT (.rt (.exc n [w,.lst l]))=rtE n w:=(rfl)
def akv(a b c u v w):gS [.str a,u,.str b,v,.str c,w]=some ([.str a,.str b,.str c],[u,v,w]):=(rfl)
def alp(x σ):qq (.va x::σ)=.va x::qq σ:=(rfl)
def alr(σ):qq (.no::σ)=.no::qq σ:=(rfl)
def alq(x σ):qq (.ow x::σ)=.no::qq σ:=(rfl)
def als:qq []=[]:=(rfl)
def lN{n:Nat}(h:n<1000):nI (.int n)=true:=by
 show decide (n.log2<100)=true;simp;by_cases z:n=0;.rw[z];decide
 .rw[Nat.log2_lt z];exact anN h (by simp)
def aci(n)(l:List Nat):iT (n+1) (l.map λk:Nat=>.int k)=true:=zO n _ _ λ_ _=>rfl
def amY(x y f:Int)(m n:Int)(d:0<=f)(c:f<4):∃a b:Int,oIx kA (.int f)=.ok (.tup [.int a,.int b])/\oIx (.lst [.tup [.int 0,.int 1],.tup [.int (-1),.int 0],.tup [.int 0,.int (-1)],.tup [.int 1,.int 0]]) (.int f)=.ok (.tup [.int a,.int b])/\(-2<a/\a<2)/\(-2<b/\b<2)/\sfp (x,y,f) m n=(x+(a*m+b*n),y+(b*m-a*n)):=by
 have r:f=0\/f=1\/f=2\/f=3:=by grind
 rcases r with rfl|rfl|rfl|rfl;.exact⟨0,1,rfl,rfl,by decide,by decide,by simp[sfp]⟩
 .exact⟨-1,0,rfl,rfl,by decide,by decide,by simp[sfp,aqe]⟩
 .exact⟨0,-1,rfl,rfl,by decide,by decide,by simp[sfp,aqe]⟩
 .exact⟨1,0,rfl,rfl,by decide,by decide,by simp[sfp,aqe]⟩
def aeW(p)(m n)(g:0<=p.2.2)(d:p.2.2<4):dM [stW p,.int m,.int n]=.ok (spW (sfp p m n)):=by obtain⟨x,y,f⟩:=p;obtain⟨a,b,c,_,i,h,e⟩:=amY x y f m n g d;rw[e];simp(disch:=omega)[dM,iY,stW,spW,c,rG,List.replicate]
def iu(p):h8 [stW p]=.ok (spW (aB p)):=rfl
theorem uS(F)(s):∀f k a b,fin (aeY (forL (k7 (bu (au 2) (bu (au 3) kN))) fH (dY k (f.map stW)) [.va F,.va (spW s),a,b]) (dn (eC .non)))=.ok (aeE s k f)
|[],k,a,b=>rfl|p::f,k,a,b=>by
 simp [dY,dy];by_cases h:aB p=s;.simp[fH,iu,h,aeE]
 .have c:=uS F s f (k+1) (.va (.int k)) (.va (stW p));simp[fH,iu,h,aeE]at c⊢;exact c
def agN(f)(s):p6 [flW f,spW s]=.ok (aeE s 0 f):=by exact uS _ s f 0 _ _
def kU(f)(w)(q)(h:w="same"/\q=0\/w="left"/\q=1\/w="about"/\q=2\/w="right"/\q=3):cv [.int f,.str w]=.ok (.int ((f+q)%4)):=by
 have e:oIx jG (.str w)=.ok (.int q):=by rcases h with⟨rfl,rfl⟩|⟨rfl,rfl⟩|⟨rfl,rfl⟩|⟨rfl,rfl⟩<;>rfl
 simp[cv,eJ,e,oG]
def p5{f}{k:Nat}(a:k<f.length):oIx (flW f) (.int k)=.ok (stW (f.getD k (0,0,0))):=by refine ad3 (by simp) ?_;rw[aqn,anI,anJ a];rfl
def vJ{f S}(a:S=flW f\/S=.lst (f.map stW)){k}(b:k<f.length):oIx S (.int k)=.ok (stW (f.getD k (0,0,0))):=by
 have e:f[k]?=some (f.getD k (0,0,0)):=by grind
 rcases a with rfl|rfl;.exact ad3 (by simp) (by exact e)
 .rw[g7,fw,an7,e];rfl
def l7{lo n i x}(h:(rng lo n)[i]?=some x):i<n/\x=.int (lo+i):=pz _ n i x h
def ub{f S}(a:S=flW f\/S=.lst (f.map stW)):oH [S]=.ok (.int f.length):=by rcases a with rfl|rfl<;>simp[flW]
def ee(f:List S3)(N:f.length<=100)(S:W)(q:S=flW f\/S=.lst (f.map stW)):∃w,bo [S]=.ok w/\Met f w:=by
 have h:=ko (g:=au 1) (b:=cA) (xs:=rng 0 f.length) (σ:=[.va S,.no,.no]) (λi d=>(∃o c,d=[.va S,o,c])/\∀a b,a<i->a<b->b<f.length->aB (f.getD a (0,0,0))≠aB (f.getD b (0,0,0))) (λi w=>Met f w) ⟨⟨_,_,rfl⟩,λa b h=>absurd h (aoG _)⟩ (by
   rintro i x σ u⟨⟨o,c,rfl⟩,p⟩;obtain⟨H,rfl⟩:=l7 u;refine⟨_,rfl,?_⟩;have l:=ko (g:=au 2) (b:=aR) (xs:=rng (i+1) (f.length-(i+1))) (σ:=[.va S,.va (.int (0+i)),c]) (λj d=>(∃c,d=[.va S,.va (.int (0+i)),c])/\∀b,i<b->b<i+1+j->aB (f.getD i (0,0,0))≠aB (f.getD b (0,0,0))) (λj w=>Met f w) ⟨⟨_,rfl⟩,λb n m=>absurd m (by omega)⟩ (by
     rintro j x σ u⟨⟨c,rfl⟩,l⟩;obtain⟨M,rfl⟩:=l7 u;refine⟨_,rfl,?_⟩;have y:=vJ q H;have z:=vJ q (show i+1+j<f.length by omega);have K:(0:Int)+(i:Nat)=((i:Nat):Int):=by omega
     have J:(i:Int)+1+(j:Nat)=((i+1+j:Nat):Int):=by omega
     rw[K,J];by_cases h:aB (f.getD i (0,0,0))=aB (f.getD (i+1+j) (0,0,0));.refine .inr ⟨.tup [.int i,.int ((i+1+j:Nat):Int)],?_,Met.two i (i+1+j) (by omega) (by omega) h (λa b=>p a b) λb n m=>l b n m⟩;simp only[aR];rw[vj];simp only[abO,vW,vX,jO,m6,mP,aoI,aoH,aiB,aiC,mI,ja,y,z,iu,iD,zS,uV,g6,h,decide_true,apk];simp
     .refine .inl ⟨[.va S,.va (.int i),.va (.int ((i+1+j:Nat):Int))],?_,⟨_,rfl⟩,λb n m=>?_⟩;.simp only[aR];rw[vj];simp only[abO,vW,vX,jO,m6,mP,aoI,aoH,aiB,aiC,mI,ja,y,z,iu,iD,zS,uV,g6,h,decide_false];simp
      .by_cases v:b<i+1+j;.exact l b n v
       .have:b=i+1+j:=by omega
        rw[this];exact h);have E:∀o,ofR o (rS (eOp dq (ai 1) (eC (.int 1))) (eBi oH (ae (ai 0) aw)) [.va S,.va (.int (0+i)),c]) (λxs=>forL (au 2) aR xs [.va S,.va (.int (0+i)),c])=forL (au 2) aR (rng (i+1) (f.length-(i+1))) [.va S,.va (.int (0+i)),c]:=λo=>by
    have s:(f.length:Int)<4611686018427387904:=by omega
    have G:(i:Int)+1<4611686018427387904:=by omega
    have r:-4611686018427387904<=(f.length:Int):=by omega
    have A:-4611686018427387904<=(i:Int)+1:=by omega
    have D:((f.length:Int)-((i:Int)+1)).toNat=f.length-(i+1):=by omega
    simp[ub q,s,G,r,A,D]
   have v:cA (([.va S,o,c]:Ws).set 1 (.va (.int (0+i))))=forL (au 2) aR (rng (i+1) (f.length-(i+1))) [.va S,.va (.int (0+i)),c]:=by show qp _ _ _ _=_;rw[ae3];exact E _
   rw[v];rcases l with⟨d,e,⟨I,rfl⟩,k⟩|⟨j,w,_,e,t⟩
   .refine .inl ⟨_,e,⟨_,_,rfl⟩,λa b n m C=>?_⟩;by_cases B:a<i;.exact p a b B m C
    .have:a=i:=by omega
     subst this;exact k b m (by simp;omega)
   .exact .inr ⟨w,e,t⟩);have s:(f.length:Int)<4611686018427387904:=by omega
 have r:-4611686018427387904<=(f.length:Int):=by omega
 rcases h with⟨d,e,⟨o,c,rfl⟩,k⟩|⟨i,w,_,e,t⟩;.refine⟨.non,?_,.none (lr λa b n m=>k a b (by simp;omega) n m)⟩;simp[bo,du,List.replicate,ub q,s,r,e]
 .refine⟨w,?_,t⟩;simp[bo,du,List.replicate,ub q,s,r,e]
def jD(f)(c:f.length<=100)(S)(a:S=flW f\/S=.lst (f.map stW))(b:bG f):bo [S]=.ok .non:=by obtain⟨w,e,m⟩:=ee f c S a;cases m with|none _=>exact e|two i j hij hj h _ _=>exact absurd h (jH b hij hj)
def ug(f:List S3)(b:f.length<=100)(S:W)(a:S=flW f\/S=.lst (f.map stW))(c:bG f):cb [S]=.ok (flW f):=by have e:=jD f b S a c;rcases a with rfl|rfl<;>simp[cb,ir,List.replicate,e,flW]at e⊢<;>simp[e]
def lM(p)(h:Fac p)(s):cK [stW p,s.W]=.ok (stW (dH p s)):=by obtain⟨j,i⟩:=h;cases s with|go g n=>
 obtain⟨a,b,f,m,l,c⟩:∃a b:Int,oIx wh (.str g.w)=.ok (.tup [.int a,.int b])/\(-2<a/\a<2)/\(-2<b/\b<2)/\dH p (.go g n)=((sfp p (a*n) (b*n)).1,(sfp p (a*n) (b*n)).2,p.2.2):=by
  cases g;.exact⟨1,0,rfl,by decide,by decide,by simp[dH]⟩
  .exact⟨-1,0,rfl,by decide,by decide,by simp[dH]⟩
  .exact⟨0,-1,rfl,by decide,by decide,by simp[dH]⟩
  .exact⟨0,1,rfl,by decide,by decide,by simp[dH]⟩
 have d:=aeW p (a*n) (b*n) j i;have k:¬g.w="turn":=by cases g<;>decide
 rw[c];generalize sfp p (a*n) (b*n)=P at *;simp only[stW,spW]at d;simp(disch:=omega)[cK,dQ,List.replicate,Stp.W,f,rG,k,stW,d]|turn t=>
 obtain⟨q,e,c⟩:∃q:Int,cv [.int p.2.2,.str t.w]=.ok (.int ((p.2.2+q)%4))/\dH p (.turn t)=(p.1,p.2.1,(p.2.2+q)%4):=by
  cases t;.exact⟨_,kU _ _ 1 (.inr (.inl ⟨rfl,rfl⟩)),rfl⟩
  .exact⟨_,rfl,rfl⟩
  .exact⟨_,rfl,rfl⟩
 rw[c];simp[cK,dQ,List.replicate,Stp.W,e,stW]
def wU(s:Stp):∃w:String,oIx s.W (.int 0)=.ok (.str w)/\w≠"stay":=by cases s with|go g n=>cases g<;>exact⟨_,rfl,by decide⟩|turn t=>exact⟨_,rfl,by decide⟩
def vq(p:S3):plain (stW p)=true:=by simp[stW]
theorem oV(P S):∀l p a o,Fac p->a.length+l.length<999999->∃d,forL (au 3) dJ (l.map Stp.W) [.va P,.va S,.ow ((a++[p]).map stW),o]=.nx [.va P,.va S,.ow ((a++o6 p l).map stW),d]
|[],p,a,o,_,_=>⟨o,rfl⟩|s::l,p,a,o,h,hl=>by
 obtain⟨w,hw,g⟩:=wU s;have e:=lM p h s;obtain⟨d,f⟩:=oV P S l (dH p s) (a++[p]) (.va s.W) (gR p s h) (by simp at hl⊢;omega);refine⟨d,?_⟩;have b:atI ((a++[p]).map stW) (-1)=some (stW p):=by rw[lq];simp
 have c:((a++[p]).map stW).length<1000000:=by grind
 have j:=vq (dH p s);simp only[aoa,dy];have i:dJ [.va P,.va S,.ow ((a++[p]).map stW),.va s.W]=.nx [.va P,.va S,.ow ((a++[p]++[dH p s]).map stW),.va s.W]:=by simp at b c;simp[dJ,hw,g,b,e,j,c]
 simp only[pZ,aoI,aoH,g6,i];simp only[o6];rw[show a++p::o6 (dH p s) l=a++[p]++o6 (dH p s) l from by simp];exact f
def yw(p)(h:Fac p)(s)(hs:∀l,s=some l->l.length<=100):cR [stW p,ssW s]=.ok (eU (rn p s)):=by cases s with|none=>simp[cR,ij,ssW,dy,dJ,eU,rn]|some l=>obtain⟨a,e⟩:=oV (stW p) (ssW (some l)) l p [] .no h (by grind);simp[ssW]at e;simp[cR,ij,ssW,e,eU,rn]
def uf(p)(h:Fac p):fN [stW p]=.ok (.bl (inB p)):=by
 obtain⟨f,d⟩:=h;obtain⟨x,y,k⟩:=p;have c:gj [.int k]=.ok (.bl true):=by simp[gj,i0,fM,iq,ikT,aiu,ais,ait,air,kA,f,d]
 have e:∀z:Int,fO [.int z]=.ok (.bl (decide (-200<=z)&&decide (z<=200))):=λz=>by by_cases b:-200<=z<;>by_cases a:z<=200<;>simp[fO,j3,fM,iq,ikT,aiu,ais,ait,air,kB,b,a]
 simp only[inB];by_cases b:(decide (-200<=x)&&decide (x<=200))=true<;>by_cases a:(decide (-200<=y)&&decide (y<=200))=true<;>simp[fN,jZ,ikT,aiu,ais,ait,air,stW,c,e,b,a]at b a⊢<;>simp[b,a]
theorem rQ(A):∀ws k g i,(∀w∈ws,∀p∈w,Fac p)->(∀w∈ws,w.length<=1000)->k+ws.length<=900->match abt k ws with|some d=>∃σ,forL (k7 (bu (au 1) (bu (au 2) kN))) cu (dY k (ws.map eU)) [.va A,g,i]=.ex (exN "Out" d) σ|none=>∃l m,forL (k7 (bu (au 1) (bu (au 2) kN))) cu (dY k (ws.map eU)) [.va A,g,i]=.nx [.va A,l,m]
|[],k,g,i,_,_,_=>⟨g,i,rfl⟩|w::ws,k,g,i,hf,hl,hk=>by
  have n:=rQ A ws (k+1) (.va (.int k)) (.va (eU w)) (λw hw=>hf w (by simp[hw])) (λw hw=>hl w (by simp[hw])) (by simp at hk⊢;omega);have f:cut (w.map stW) (some 1) none=(w.drop 1).map stW:=by simp[cut,sIx,List.map_drop];cases w with|nil=>simp|cons x xs=>simp[List.take_of_length_le]
  have a:br (au 0) fE (aJ fN (ae (ai 0) aw)) [.no,.va A,.va (.int k),.va (eU w)] ((w.drop 1).map stW)=.ok ((w.drop 1).map λp=>.bl (inB p)):=bw λp o=>⟨_,rfl,rfl,by have e:=uf p (hf w (by simp) p (List.mem_of_mem_drop o));simp[e]⟩;have b:allB ((w.drop 1).map λp=>.bl (inB p))=some ((w.drop 1).all inB):=by have:=adl ((w.drop 1).map inB);simp only[aoM,List.all_map]at this;exact this
  have c:((w.drop 1).map stW).length<=1000000:=by have:=hl w (by simp);simp;omega
  have q:nI (.int k)=true:=lN (by simp at hk;omega);simp only[abt,aoa,dY,dy];have e:eU w=.lst (w.map stW):=rfl;generalize w.drop 1=v at *;rw[an0]at c;by_cases h:v.all inB=true
  .rw[anL h];have j:cu [.va A,.va (.int k),.va (eU w)]=.nx [.va A,.va (.int k),.va (eU w)]:=by rw[h]at b;rw[e]at a⊢;simp[cu,f,c,List.replicate,a,b]
   simp only[vP,ov,pZ,iD,ja,aoI,aoH,vR,g6,j];exact n
  .rw[anK h];have r:v.all inB=false:=by simpa using h
   have j:∃σ,cu [.va A,.va (.int k),.va (eU w)]=.ex (exN "Out" k) σ:=by rw[r]at b;rw[e]at a⊢;simp[cu,f,c,List.replicate,a,b,n5,WL.fieldsOf,q,exN]
   obtain⟨σ,j⟩:=j;refine⟨σ,?_⟩;simp only[vP,ov,pZ,iD,ja,aoI,aoH,vR,g6,j];rfl
def ot(ws)(b:∀w∈ws,∀p∈w,Fac p)(a:∀w∈ws,w.length<=1000)(g:ws.length<=800):fL [oU ws]=match abt 0 ws with|some d=>.ex (exN "Out" d)|none=>.ok (oU ws):=by have h:=rQ (oU ws) _ 0 .no .no b a (by omega);cases e:abt 0 _ with|some d=>rw[e]at h;obtain⟨σ,h⟩:=h;simp[oU]at h;simp[fL,ji,oU,h]|none=>rw[e]at h;obtain⟨c,f,h⟩:=h;simp[oU]at h;simp[fL,ji,oU,h]
def xl{f w b}(h:Met f w)(h':Met f b):w=b:=by cases h with
|none a=>cases h' with|none _=>rfl|two i j hij hj h _ _=>exact absurd h (jH a hij hj)
|two i j hij hj h p1 p2=>cases h' with|none a=>exact absurd h (jH a hij hj)|two i' j' hij' hj' h' q1 q2=>
   have c:i=i':=by
    rcases aqp i _ with z|z|z;.exact absurd h (q1 i j z hij hj)
    .exact z
    .exact absurd h' (p1 _ _ z hij' hj')
   subst c;have d:j=j':=by
    rcases aqp j _ with z|z|z;.exact absurd h (q2 j hij z)
    .exact z
    .exact absurd h' (p2 _ hij' z)
   subst d;rfl
def afH(w)(hw:w≠[]):oIx (eU w) (.int (-1))=.ok (stW (gG w)):=by have e:eU w=.lst _:=rfl;rw[e,g7,lq,List.getLast?_map,gG,List.getLastD_eq_getLast?,List.getLast?_eq_some_getLast hw];rfl
def oo(A)(ws:List (List S3))(h:∀w∈ws,w≠[]):br (au 0) fE (eOp oIx (ai 0) (eUn ni (eC (.int 1)))) (.no::A) (ws.map eU)=.ok ((ws.map gG).map stW):=by have:=bw (g:=au 0) (t:=fE) (e:=eOp oIx (ai 0) (eUn ni (eC (.int 1)))) (σ:=.no::A) (emb:=eU) (f:=λw=>stW (gG w)) (xs:=ws) λw hw=>⟨_,rfl,rfl,by simp[afH w (h w hw)]⟩;rw[this,aoM];rfl
def p0(f:List S3)(d:f.length<=100)(i j:Nat)(a:Met f (.tup [.int i,.int j]))(S:W)(c:S=flW f\/S=.lst (f.map stW)):cb [S]=.ex (.exc "Meet" [.int i,.int j]):=by
 obtain⟨w,e,m⟩:=ee f d S c;have h:i<f.length/\j<f.length:=by cases a with|two i' j' h1 h2 _ _ _=>simp at *;omega
 have hw:w=.tup [.int i,.int j]:=xl m a;subst hw;have b:=lN (n:=i) (by omega);have g:=lN (n:=j) (by omega);simp[cb,ir,List.replicate,e,n5,WL.fieldsOf,b,g,show nr (.tup [.int i,.int j])=false from rfl]
def pA(f:List S3)(t:f.length=8)(n:∀p∈f,Fac p)(d:Nat)(s:d<8):dh [flW f,.int d]=.ok (onW (rhO f d)):=by have h:=p5 (f:=f) (k:=d) (by omega);have i:Fac (f.getD d (0,0,0)):=n _ (by rw[anI,anJ (by omega)];exact ao1 _);have g:=aeW (f.getD d (0,0,0)) 0 2 i.1 i.2;have c:=agN f (sfp (f.getD d (0,0,0)) 0 2);rw[ady]at c;unfold rhO;cases e:xZ (sfp (f.getD d (0,0,0)) 0 2) 0 f with|none=>rw[e]at c;simp only[onW]at c;generalize f.getD d (0,0,0)=p at *;simp[dh,eV,List.replicate,h,g,c]|some k=>rw[e]at c;simp only[onW]at c;have r:=(oR _ 0 f k e).2;have m:=p5 (f:=f) (k:=k) (by omega);show _=Res.ok (onW (if fb f k=fb f d then some k else none));have l:fb f k=(f.getD k (0,0,0)).2.2:=rfl;have o:fb f d=(f.getD d (0,0,0)).2.2:=rfl;generalize fb f k=a at *;generalize fb f d=b at *;generalize flW f=FL at *;generalize f.getD d (0,0,0)=p at *;generalize f.getD k (0,0,0)=q at *;subst l o;by_cases j:q.2.2=p.2.2<;>simp[dh,eV,List.replicate,h,g,c,m,j]
noncomputable def nW(l:List Nat):List W:=l.map λk:Nat=>.int k
def hsW(hs:Nat->Option Nat):W:=.lst ((List.range 8).map λd=>onW (hs d))
def aix(hs:Nat->Option Nat){d:Nat}(a:d<8):oIx (hsW hs) (.int d)=.ok (onW (hs d)):=by unfold hsW;rw[g7,fw,an7,aoL a];rfl
def vH(l:List Nat)(d:Nat):oIx (.lst (nW (l++[d]))) (.int (-1))=.ok (.int d):=by rw[g7,lq];simp[nW]
def ab2(l:List Nat):jt (nW l)=true:=(w4 _).mpr λx a=>by obtain⟨k,_,rfl⟩:=aoD.mp a;rfl
def zf{hs:Nat->Option Nat}{l:Nat->Nat}(H:Hands hs l)(F:W):∀(n m d:Nat)(pre:List Nat),d<8->8<=n+l d+1->n<m->pre.length+n<1000->
 iL dg e8 m [.va (hsW hs),.va F,.ow (nW (pre++[d]))]=.nx [.va (hsW hs),.va F,.ow (nW (pre++el hs n d))]:=by intro n;induction n with|zero=>
 intro m d pre f r o q;obtain⟨m,rfl⟩:∃k,m=k+1:=⟨m-1,by omega⟩;have e:hs d=none:=by cases e:hs d with|none=>rfl|some k=>have a:=H.up d k f e;have b:=H.rl k (H.lt d k f e);omega
 have c:=aix hs f;have h:=vH pre d;rw[e]at c;rw[eI];have s:=ab2 (pre++[d]);show _=Out.nx [_,_,.ow (nW (pre++[d]))];generalize hsW hs=HS at *;generalize nW (pre++[d])=L at *;simp[dg,c,h]|succ n i=>
 intro m d pre f r o q;obtain⟨m,rfl⟩:∃k,m=k+1:=⟨m-1,by omega⟩
 have c:=aix hs f;have h:=vH pre d;cases e:hs d with|none=>
  rw[e]at c;have j:el hs (n+1) d=[d]:=by simp[el,e]
  rw[eI,j];generalize hsW hs=HS at *;generalize nW (pre++[d])=L at *;simp[dg,c,h]|some k=>
  rw[e]at c;have j:el hs (n+1) d=d::el hs n k:=by simp[el,e]
  have a:=H.up d k f e;have i:=i m k (pre++[d]) (H.lt d k f e) (by omega) (by omega) (by simp;omega);rw[eI,j,show pre++d::el hs n k=pre++[d]++el hs n k by simp,<-i];have p:nW (pre++[d]++[k])=nW (pre++[d])++[.int k]:=by simp[nW]
  have g:(nW (pre++[d])).length<1000000:=by simp[nW];omega
  rw[p];generalize hsW hs=HS at *;generalize nW (pre++[d])=L at *;simp only[onW]at c;simp[dg,e8,c,h,g]
def tx{hs:Nat->Option Nat}{b:Nat->Nat}(H:Hands hs b){d:Nat}(a:d<8):iz [hsW hs,.int d]=.ok (.lst (nW (el hs 8 d))):=by have h:=zf H (.int d) 8 20 d [] a (by omega) (by decide) (by decide);have e:nW ([]++[d])=[.int d]:=rfl;rw[e,aqM]at h;generalize hsW hs=HS at *;generalize nW (el hs 8 d)=L at *;simp[iz,jU,List.replicate,kM,h,j6]
noncomputable def prW(p:Nat×Nat):W:=.tup [.int p.1,.int p.2]
theorem two2_ix:∀l:List Nat,l.length%2=0->(List.range (l.length/2)).map (λi=>prW (l.getD (2*i) 0,l.getD (2*i+1) 0))=(two2 l).map prW
|[],_=>rfl|[_],h=>by simp at h|a::b::l,h=>by
 have c:=two2_ix l (by simp only[anV]at h;omega);have e:(a::b::l).length/2=l.length/2+1:=by simp only[anV];omega
 rw[e,List.range_succ_eq_map,aoa,aoM,two2,aoa,<-c];rfl
theorem adK:∀l:List Nat,(∀x∈l,x<1000)->shL (nW l)=some (12*l.length+3)|[],_=>rfl|a::l,h=>by have d:=h a an2;have c:=adK l λx b=>h x (anU _ b);show(if(a:Int).natAbs<1000 then(shL (nW l)).map (.+12)else none)=_;rw[anL (by omega),c];simp only[aqI,anV];congr 1
def aeU(l:List Nat)(h:∀x∈l,x<1000)(a:l.length<=100):shC (nW l)=true:=by unfold shC;rw[adK l h,show iT 51 (nW l)=true from aci 50 l];simp;omega
def vC(l:List Nat){i:Nat}(h:i<l.length):oIx (.lst (nW l)) (.int i)=.ok (.int (l.getD i 0:Nat)):=by rw[g7,fw];simp[nW,h]
def mi(l:List Nat)(h:∀x∈l,x<1000)(o:l.length<=100):cL [.lst (nW l)]=if l.length%2=0 then .ok (.lst ((two2 l).map prW))else .ex (.exc "NoPairs" []):=by
 have f:(nW l).length=l.length:=by simp[nW]
 by_cases b:l.length%2=0
 .rw[anL b];have a:(l.length:Int)%2=0:=by omega
  have c:∀A:List Sl,br (au 0) fE (ff (ae (eOp oIx (ai 1) (ai 0)) (ae (eOp oIx (ai 1) (eOp dq (ai 0) (eC (.int 1)))) aw))) (.no::.va (.lst (nW l))::A) (abZ 0 2 (l.length/2))=.ok ((two2 l).map prW):=λA=>by rw[<-two2_ix l b];refine bw λi a=>?_;have a:=an1.mp a;have m:=vC l (i:=2*i) (by omega);have d:=vC l (i:=2*i+1) (by omega);refine⟨_,rfl,rfl,?_⟩;rw[show(0:Int)+(i:Nat)*2=((2*i:Nat):Int)by omega];rw[show((2*i+1:Nat):Int)=((2*i:Nat):Int)+1 by omega]at d;generalize W.lst (nW l)=L at *;generalize((2*i:Nat):Int)=j at *;generalize l.getD (2*i) 0=u at *;generalize l.getD (2*i+1) 0=v at *;simp[m,d,prW]
  have c:=c [];have p:(-1152921504606846976:Int)<=l.length:=by omega
  have n:(l.length:Int)<1152921504606846976:=by omega
  have e:(((l.length:Int)-0+1)/2).toNat=l.length/2:=by omega
  generalize(two2 l).map prW=R at *;generalize nW l=L at *;simp only[Int.sub_zero]at e;have g:(abZ 0 2 (l.length/2)).length<=1000000:=by simp[abZ];omega
  simp[cL,dR,List.replicate,f,a,aar,p,n,e,g,c]
 .rw[anK b];have a:¬(l.length:Int)%2=0:=by omega
  have k:=aeU l h o;generalize nW l=L at *;simp[cL,dR,List.replicate,f,a,eFr,aiJ,k,tr]
def bsd(p:S3)(n:Int):S3:=((sfp p 0 n).1,(sfp p 0 n).2,p.2.2)
def sC(p:S3)(h:Fac p)(n:Int):fc [stW p,.int n]=.ok (stW (bsd p n)):=by have a:=aeW p 0 n h.1 h.2;simp[fc,o4,List.replicate,a,bsd];simp[stW]
def ql{p:S3}(h:Fac p)(n:Int):Fac (bsd p n):=h
def lh(f:List S3)(ps:List (Nat×Nat)):List S3:=ps.map λp=>bsd (f.getD p.1 (0,0,0)) 1
def jy(f:List S3)(e:∀p∈f,Fac p)(ps:List (Nat×Nat))(h:∀p∈ps,p.1<f.length)(j:ps.length<=1000):bP [flW f,.lst (ps.map prW)]=.ok (.lst ((lh f ps).map stW)):=by
 have c:br (au 0) fE (aJ fc (ae (eOp oIx (ai 1) (eOp oIx (ai 0) (eC (.int 0)))) (ae (eC (.int 1)) aw))) [.no,.va (flW f),.va (.lst (ps.map prW))] (ps.map prW)=.ok ((lh f ps).map stW):=by unfold lh;rw[aoM];refine bw λp a=>⟨_,rfl,rfl,?_⟩;have g:=p5 (h p a);have b:=sC (f.getD p.1 (0,0,0)) (e _ (by rw[anI,anJ (h p a)];exact ao1 _)) 1;have d:oIx (prW p) (.int 0)=.ok (.int p.1):=rfl;show _=Res.ok (stW (bsd (f.getD p.1 (0,0,0)) 1));generalize flW f=FL at *;generalize prW p=P at *;generalize stW (bsd (f.getD p.1 (0,0,0)) 1)=Z at *;generalize stW (f.getD p.1 (0,0,0))=Y at *;simp[g,b,d]
 have i:(ps.map prW).length<=1000000:=by simp;omega
 generalize ps.map prW=L at *;generalize flW f=FL at *;simp[bP,gM,List.replicate,c,i]
def acj(hs:Nat->Option Nat)(d:Nat):mw (.int d) (hsW hs)=.ok (.bl (startB hs d)):=by
 have b:iT 51 ((List.range 8).map λy=>onW (hs y))=true:=zO 50 _ _ λy _=>by cases hs y<;>rfl
 have a:dB (.int d) ((List.range 8).map λy=>onW (hs y))=!startB hs d:=by
  have go:∀l:List Nat,dB (.int d) (l.map λy=>onW (hs y))=!l.all λy=>hs y !=some d:=λl=>by induction l with|nil=>rfl|cons y l ih=>rw[aoa,uL,ih,aqi,Bool.not_and];congr 1;cases hs y with|none=>rfl|some k=>rw[aof];simp[onW];omega
  exact go _
 unfold hsW;show(if(okD 50 (.int d)&&iT 51 _)=true then Res.ok (W.bl !dB _ _)else .bad)=_;rw[b,a];simp
noncomputable def pl(hs:Nat->Option Nat):List Nat->List (Nat×Nat)->Option (List (Nat×Nat))|[],acc=>some acc|d::ds,acc=>if startB hs d=true then if(el hs 8 d).length%2=0 then pl hs ds (acc++two2 (el hs 8 d))else none else pl hs ds acc
theorem ab3(hs:Nat->Option Nat):∀(ds:List Nat)(a:List (Nat×Nat)),pl hs ds a=if((ds.filter (startB hs)).map (el hs 8)).all λl=>l.length%2==0=true then some (a++((ds.filter (startB hs)).map (el hs 8)).flatMap two2)else none
|[],a=>by simp[pl]|d::ds,a=>by
  unfold pl;by_cases h:startB hs d=true
  .rw[anL h];by_cases b:(el hs 8 d).length%2=0;.rw[anL b,ab3 hs ds];simp[h,b]
   .rw[anK b];simp[h,b]
  .rw[anK h,ab3 hs ds];simp[h]
theorem two2_len:∀l:List Nat,(two2 l).length<=l.length|[]=>anP _|[_]=>by simp[two2]|a::b::l=>by have:=two2_len l;simp[two2];omega
theorem px{hs:Nat->Option Nat}:∀(n d:Nat),(el hs n d).length<=n+1|0,d=>by simp[el]|n+1,d=>by unfold el;cases hs d with|none=>simp|some k=>have:=px (hs:=hs) n k;simp;omega
theorem kd{hs:Nat->Option Nat}{r:Nat->Nat}(H:Hands hs r)(FL:W):∀(ds:List Nat)(a:List (Nat×Nat))(o:Sl),(∀d∈ds,d<8)->a.length+9*ds.length<900->(∀f,pl hs ds a=some f->∃m,forL (au 3) aE (nW ds) [.va FL,.va (hsW hs),.ow (a.map prW),o]=.nx [.va FL,.va (hsW hs),.ow (f.map prW),m])/\(pl hs ds a=none->∃b,forL (au 3) aE (nW ds) [.va FL,.va (hsW hs),.ow (a.map prW),o]=.ex (.exc "NoPairs" []) b)
|[],a,o,_,_=>⟨λf h=>⟨o,by cases h;rfl⟩,λh=>by cases h⟩|d::ds,a,o,hd,hl=>by
  have i:=hd d an2;have g:∀x∈ds,x<8:=λx n=>hd x (anU _ n);have e:=acj hs d;have p:=tx H i;have k:=mi (el hs 8 d) λx n=>by have:=(l6 H 8 d i x n).1;omega (by have:=px (hs:=hs) 8 d;omega);have u:(two2 (el hs 8 d)).length<=9:=by have:=px (hs:=hs) 8 d;have:=two2_len (el hs 8 d);omega
  have t:nW (d::ds)=.int d::nW ds:=rfl;simp only[anV]at hl;rw[t,dy];unfold pl;by_cases h:startB hs d=true
  .rw[anL h];by_cases j:(el hs 8 d).length%2=0
   .rw[anL j];rw[anL j]at k;have l:=kd H FL ds (a++two2 (el hs 8 d)) (.va (.int d)) g (by simp;omega);have c:aE [.va FL,.va (hsW hs),.ow (a.map prW),.va (.int d)]=.nx [.va FL,.va (hsW hs),.ow ((a++two2 (el hs 8 d)).map prW),.va (.int d)]:=by
     have q:(a.map prW).length+((two2 (el hs 8 d)).map prW).length<=lim:=by simp[lim];omega
     rw[apA];generalize hsW hs=HS at *;generalize a.map prW=A at *;generalize(two2 (el hs 8 d)).map prW=R at *;generalize nW (el hs 8 d)=L at *;rw[h]at e;simp only[lim]at q;simp[aE,e,p,k,ajl,q]
    show(∀f,_->∃m,pT (aE [.va FL,.va (hsW hs),.ow (a.map prW),.va (.int d)]) _=_)/\(_->∃b,pT (aE [.va FL,.va (hsW hs),.ow (a.map prW),.va (.int d)]) _=_);rw[c];exact l
   .rw[anK j];rw[anK j]at k;refine⟨λf z=>(nomatch z),λ_=>?_⟩;have c:∃b,aE [.va FL,.va (hsW hs),.ow (a.map prW),.va (.int d)]=.ex (.exc "NoPairs" []) b:=by generalize hsW hs=HS at *;generalize a.map prW=A at *;generalize nW (el hs 8 d)=L at *;rw[h]at e;simp[aE,e,p,k,ajl]
    obtain⟨b,c⟩:=c;refine⟨b,?_⟩;show pT (aE [.va FL,.va (hsW hs),.ow (a.map prW),.va (.int d)]) _=_;rw[c];rfl
  .rw[anK h];have l:=kd H FL ds a (.va (.int d)) g (by omega);have c:aE [.va FL,.va (hsW hs),.ow (a.map prW),.va (.int d)]=.nx [.va FL,.va (hsW hs),.ow (a.map prW),.va (.int d)]:=by
    have s:startB hs d=false:=by simpa using h
    rw[s]at e;generalize hsW hs=HS at *;generalize a.map prW=A at *;simp[aE,e]
   show(∀f,_->∃m,pT (aE [.va FL,.va (hsW hs),.ow (a.map prW),.va (.int d)]) _=_)/\(_->∃b,pT (aE [.va FL,.va (hsW hs),.ow (a.map prW),.va (.int d)]) _=_);rw[c];exact l
open PySem.W(KasT kas_sort)
noncomputable def w6(n:Nat):KasT (Array Nat)->Bool|.ret p=>p.toList.isPerm (List.range n)|.ask _ _ k=>w6 n (k true)&&w6 n (k false)
theorem l5{n:Nat}{c:Nat->Nat->Bool}:∀t:KasT (Array Nat),w6 n t=true->(agg c t).toList.Perm (List.range n)
|.ret p,h=>List.isPerm_iff.mp h|.ask i j k,h=>by
 have h:(w6 n (k true)&&w6 n (k false))=true:=h;rw[an6]at h;show(agg c (k (c i j))).toList.Perm _;cases c i j;.exact l5 _ h.2
 .exact l5 _ h.1
def amN:okT 4 (kas_sort 4)=true/\w6 4 (kas_sort 4)=true:=by decide+kernel
noncomputable def zP(p:Nat×Nat):Int×Int:=(p.1,p.2)
theorem adV:∀a:List (Nat×Nat),prs (a.map prW)=some (a.map zP)|[]=>rfl|p::a=>by show(prs (a.map prW)).map _=_;rw[adV a];rfl
def srt(ps:List (Nat×Nat)):List (Nat×Nat):=(ixs (ps.map zP)).map λi=>ps.getD i (0,0)
def vI{ps:List (Nat×Nat)}(h:ps.length=4):(ixs (ps.map zP)).Perm (List.range 4):=by unfold ixs;rw[an0,h];exact l5 _ amN.2
def u7{ps:List (Nat×Nat)}(h:ps.length=4):(srt ps).Perm ps:=by
 have e:ps=(List.range 4).map λi=>ps.getD i (0,0):=by match ps,h with|[a,b,c,d],_=>rfl
 have:=(vI h).map λi=>ps.getD i (0,0);rw[<-e]at this;exact this
def aeS{ps:List (Nat×Nat)}(h:ps.length=4):kP [.lst (ps.map prW)]=.ok (.lst ((srt ps).map prW)):=by
 unfold kP;simp only[adV];have b:(ps.map zP).length=4:=by rw[an0,h]
 rw[b,amN.1];rw[anL (by decide)];congr 2;unfold srt;rw[aoM];refine List.map_congr_left λi a=>?_;have a:i<4:=an1.mp ((vI h).mem_iff.mp a);show(ps.map prW).getD i .non=prW (ps.getD i (0,0));rw[anI,an7,anI,anJ (by omega)];rfl
def kc(f:List S3):Option (List (Nat×Nat)):=match pl (rhO f) (List.range 8) []with|some ps=>if decide (bG (lh f ps))=true then some (srt ps)else none|none=>none
def ahr:Option (List (Nat×Nat))->Res W|some ps=>.ok (.lst (ps.map prW))|none=>.ex (.exc "NoPairs" [])
structure Prs(ps:List (Nat×Nat)):Prop where len:ps.length=4lt:∀p∈ps,p.1<8/\p.2<8all:∀d,d<8->∃p∈ps,d=p.1\/d=p.2
set_option tactic.hygienic true
def tF{f:List S3}(c:f.length=8)(m:bG f){ps:List (Nat×Nat)}(h:pl (rhO f) (List.range 8) []=some ps):Prs ps:=by
 rw[ab3]at h;split at h
 .rename_i j;have e:(q0 (rhO f)).flatMap two2=ps:=by unfold q0;simpa using h
  have b:∀l∈q0 (rhO f),l.length%2=0:=λl c=>by have:=aoB.mp j l c;simpa using this
  obtain⟨g,a⟩:=w9 (vL c m) b;rw[e]at g a;exact⟨g,λp i=>⟨(a p.1).mpr ⟨p,i,.inl rfl⟩,(a p.2).mpr ⟨p,i,.inr rfl⟩⟩,λd k=>(a d).mp k⟩
 .cases h
set_option tactic.hygienic false
theorem Prs.srt{ps:List (Nat×Nat)}(h:Prs ps):Prs (srt ps):=by have P:=u7 h.len;refine⟨P.length_eq.trans h.len,λp a=>h.lt p (P.mem_iff.mp a),λd b=>?_⟩;obtain⟨p,a,e⟩:=h.all d b;exact⟨p,P.mem_iff.mpr a,e⟩
set_option tactic.hygienic true
def eM{f:List S3}(a:f.length=8)(b:bG f){ps:List (Nat×Nat)}(h:kc f=some ps):Prs ps:=by
 unfold kc at h;split at h
 .rename_i c e;split at h;.cases h;exact(tF a b e).srt
  .cases h
 .cases h
set_option tactic.hygienic false
def mh(f:List S3)(a:f.length=8)(n:∀p∈f,Fac p)(l:bG f):di [flW f]=ahr (kc f):=by
 have H:=vL a l;have q:br (au 0) fE (aJ dh (ae (ai 1) (ae (ai 0) aw))) [.no,.va (flW f),.no,.no,.no] (rng 0 8)=.ok ((List.range 8).map λd=>onW (rhO f d)):=by refine bw λd b=>⟨_,rfl,rfl,?_⟩;have g:=pA f a n d (an1.mp b);rw[ap5];generalize flW f=FL at *;simp[g]
 have r:rng 0 8=nW (List.range 8):=by simp[rng,nW]
 have s:(nW (List.range 8)).length=8:=rfl;rw[r]at q;obtain⟨v,B⟩:=kd H (flW f) (List.range 8) [] .no (λd b=>an1.mp b) (by decide);have c:di [flW f]=fin (aeY (forL (au 3) aE (nW (List.range 8)) [.va (flW f),.va (hsW (rhO f)),.ow [],.no]) (aG (sIf (age 2 (tB (eOp iU (aJ bo (ae (aJ bP (ae (ai 0) (ae (ai 2) aw))) aw)) (eC .non)))) (vi "NoPairs" (ae (eC (.str "two pairs of one middle")) aw)) sNx) (x4 2 (dn (eBi kP (ae (ai 2) aw)))))):=by generalize flW f=FL at *;simp[di,jV,List.replicate,cN,q,hsW,r,s]
 rw[c];unfold kc;cases e:pl (rhO f) (List.range 8) []with|none=>obtain⟨y,h⟩:=B e;have h:forL (au 3) aE (nW (List.range 8)) [.va (flW f),.va (hsW (rhO f)),.ow [],.no]=_:=h;rw[h];rfl|some ps=>obtain⟨C,h⟩:=v ps e;have h:forL (au 3) aE (nW (List.range 8)) [.va (flW f),.va (hsW (rhO f)),.ow [],.no]=_:=h;rw[h,f6];have G:=tF a l e;have o:=jy f n ps (λp u=>by rw[a];exact(G.lt p u).1) (by rw[G.len];decide);obtain⟨w,m,t⟩:=ee (lh f ps) (by simp[lh,G.len]) (.lst ((lh f ps).map stW)) (.inr rfl);have A:=aeS G.len;show _=ahr (if decide (bG (lh f ps))=true then some (srt ps)else none);cases t with|none k=>rw[anL (apa k)];show _=Res.ok (W.lst ((srt ps).map prW));generalize ps.map prW=PS at *;generalize flW f=FL at *;generalize hsW (rhO f)=HS at *;generalize(lh f ps).map stW=MS at *;simp[o,m,A,j6]|two i j g h2 h3 h4 h5=>have k:¬bG (lh f ps):=λz=>jH z g h2 h3;rw[anK (by simpa using k)];show _=Res.ex (W.exc "NoPairs" []);generalize ps.map prW=PS at *;generalize flW f=FL at *;generalize hsW (rhO f)=HS at *;generalize(lh f ps).map stW=MS at *;have x:nr (.tup [.int i,.int j])=false:=rfl;simp[o,m,x]
def PF(f:List S3)(ps:List (Nat×Nat)):W:=.ins "PairedFloor" [flW f,.lst (ps.map prW),.lst ((lh f ps).map stW)]
def ano(f:List S3)(ps:List (Nat×Nat)):aiK "PairedFloor" 1 (PF f ps)=.ok (.lst (ps.map prW)):=rfl
def anm(f:List S3)(ps:List (Nat×Nat)):aiK "PairedFloor" 2 (PF f ps)=.ok (.lst ((lh f ps).map stW)):=rfl
def anl(f:List S3)(ps:List (Nat×Nat)):isN "PairedFloor" (PF f ps)=true:=rfl
def qd(c:String)(n:Nat)(e:EF)(σ:Ws):aaS c n e σ=(e σ).bind (aiK c n):=rfl
def aaR(c:String)(b:List W->Res W)(o:EF)(a:AF)(σ:Ws):oy c b o a σ=(o σ).bind λy=>if isN c y=true then(a σ).bind λws=>b (y::ws)else .bad:=rfl
def pJ(f:List S3)(ps:List (Nat×Nat))(i:Nat):S3:=(lh f ps).getD i (0,0,0)
def tL{f:List S3}(h:f.length=8)(d:∀p∈f,Fac p){ps:List (Nat×Nat)}(G:Prs ps){i:Nat}(c:i<4):Fac (pJ f ps i):=by
 have a:i<(lh f ps).length:=by simp[lh,G.len,c]
 have b:pJ f ps i∈lh f ps:=by unfold pJ;rw[anI,anJ a];exact ao1 a
 obtain⟨p,g,e⟩:=aoD.mp b;rw[<-e];have:=(G.lt p g).1;exact ql (d _ (by rw[anI,anJ (by omega)];exact ao1 _)) 1
noncomputable def prt(ps:List (Nat×Nat))(i:Nat):Nat×Nat:=ps.getD i (0,0)
def pF{ps:List (Nat×Nat)}(G:Prs ps){i:Nat}(a:i<4):prt ps i∈ps:=by
 have:i<ps.length:=by rw[G.len];exact a
 unfold prt;rw[anI,anJ this];exact ao1 this
noncomputable def wid(s:Stp):Stp:=match s with|.go .left n=>.go .left (2*n)|.go .right n=>.go .right (2*n)|s=>s
def wC(s:Stp):eQ [s.W]=.ok (wid s).W:=by cases s with|go g n=>cases g<;>kernel_rfl|turn t=>cases t<;>kernel_rfl
def ssL:Option (List Stp)->List W|none=>[.tup [.str "stay"]]|some l=>l.map Stp.W
def amn(s:Option (List Stp)):Option (List Stp):=s.map (List.map wid)
def abD(s:Option (List Stp))(A:List Sl):br (au 0) fE (aJ eQ (ae (ai 0) aw)) (.no::A) (ssL s)=.ok (ssL (amn s)):=by
 cases s with|none=>
 have e:eQ [.tup [.str "stay"]]=.ok (.tup [.str "stay"]):=by simp[eQ,lH,List.replicate,aft]
 simp[ssL,amn,br,e]|some l=>show _=Res.ok ((l.map wid).map Stp.W);rw[aoM];refine bw λs _=>⟨_,rfl,rfl,?_⟩;have:=wC s;generalize s.W=T at *;simp[this]
def aeH(p:S3)(h:Fac p)(s:Option (List Stp))(hs:∀l,s=some l->l.length<=100):cR [stW p,.lst (ssL s)]=.ok (eU (rn p s)):=by cases s with|none=>simp[cR,ij,List.replicate,ssL,dy,dJ,eU,rn]|some l=>obtain⟨a,e⟩:=oV (stW p) (.lst (ssL (some l))) l p [] .no h (by have:=hs l rfl;simp;omega);simp[ssL]at e;simp[cR,ij,List.replicate,ssL,e,eU,rn]
def wm(w:List S3)(hw:∀p∈w,Fac p)(n:Int)(e:EF)(a:∀σ,e σ=.ok (.int n))(A:List Sl):br (au 0) fE (aJ fc (ae (ai 0) (ae e aw))) (.no::A) (w.map stW)=.ok ((w.map (bsd . n)).map stW):=by rw[aoM];refine bw λp b=>⟨_,rfl,rfl,?_⟩;have h:=sC p (hw p b) n;show _=Res.ok (stW (bsd p n));generalize stW (bsd p n)=Z at *;generalize stW p=Y at *;simp[h,a]
theorem rZ:∀(xs:List W)(k i:Nat)(x:W),(dY k xs)[i]?=some x->∃y,xs[i]?=some y/\x=.tup [.int ((k+i:Nat):Int),y]|[],_,_,_,h=>by simp[dY]at h|y::xs,k,0,x,h=>by simp[dY]at h;exact⟨y,rfl,by rw[<-h];rfl⟩|y::xs,k,i+1,x,h=>by simp[dY]at h;obtain⟨z,b,a⟩:=rZ xs (k+1) i x h;exact⟨z,by simpa using b,by rw[a];congr 4;omega⟩
theorem rY:∀(xs:List W)(k:Nat),(dY k xs).length=xs.length|[],_=>rfl|_::xs,k=>by simp[dY,rY xs]
def lj{f:List S3}(b:∀p∈f,Fac p){d:Nat}(a:d<f.length):Fac (f.getD d (0,0,0)):=b _ (by rw[anI,anJ a];exact ao1 _)
def zF(f:List S3)(a:f.length=8)(c:∀p∈f,Fac p)(b:bG f):gk [flW f]=match kc f with|some ps=>.ok (PF f ps)|none=>.ex (.exc "NoPairs" []):=by have g:=mh f a c b;show((di [flW f]).bind λp=>match bP [flW f,p]with|.ok m=>Res.ok (W.ins "PairedFloor" [flW f,p,m])|_=>.bad)=_;rw[g];cases e:kc f with|none=>rfl|some ps=>have G:=eM a b e;have d:=jy f c ps (λp h=>by rw[a];exact(G.lt p h).1) (by rw[G.len];decide);show(match bP [flW f,.lst (ps.map prW)]with|.ok m=>Res.ok (W.ins "PairedFloor" [flW f,.lst (ps.map prW),m])|_=>.bad)=_;rw[d];rfl
structure Fl(f:List S3):Prop where len:f.length=8fac:∀p∈f,Fac p
def mX(d:Nat):cw [exN "Blind" d]=.ok (.lst [.str "Blind",.int d])/\cw [exN "Out" d]=.ok (.lst [.str "Out",.int d])/\(∀e:Nat,cw [.exc "Meet" [.int d,.int e]]=.ok (.lst [.str "Meet",.int d,.int e]))/\cw [.exc "NoPairs" []]=.ok (.lst [.str "NoPairs"]):=by refine⟨?_,?_,λe=>?_,?_⟩<;>kernel_rfl
def ace:Option (List (Nat×Nat))->W|some ps=>.lst (ps.map prW)|none=>.lst [.str "NoPairs"]
def afd(f:W)(o:Option (List (Nat×Nat)))(h:di [f]=ahr o):bB [f]=.ok (ace o):=by cases o with|some ps=>simp only[ahr]at h;show _=Res.ok (W.lst (ps.map prW));generalize ps.map prW=PS at *;simp[bB,cQ,List.replicate,cg,h]|none=>have k:=(mX 0).2.2.2;simp only[ahr]at h;simp[bB,cQ,List.replicate,cg,h,ace,dt,nG,k]
def same_int(n:Nat)(i:Int):aI (n+1) [.int i,.int i]=.ok (.bl true):=by
 have h:∀j,aI (n+1) [.int i,.int j]=.ok (.bl (i==j)):=λj=>by kernel_rfl
 rw[h];simp
def same_str(n:Nat)(s:String):aI (n+1) [.str s,.str s]=.ok (.bl true):=by
 have h:∀t:Str,aI (n+1) [.str s,.str t]=.ok (.bl (Str.ofString s==t)):=λt=>by kernel_rfl
 rw[h];simp
theorem oJ(r:List W->Res W)(A B:W):∀(xs:List W)(c d:Sl),(∀x∈xs,r [x,x]=.ok (.bl true))->∃f g,forL (k7 (bu (au 2) (bu (au 3) kN))) (e9 r) (sP xs xs) [.va A,.va B,c,d]=.nx [.va A,.va B,f,g]|[],c,d,_=>⟨c,d,rfl⟩|x::xs,c,d,h=>by obtain⟨a,b,i⟩:=oJ r A B xs (.va x) (.va x) λy j=>h y (by simp[j]);refine⟨a,b,?_⟩;have e:=h x (by simp);simp[agv,dy,e9,e];exact i
def jl(n:Nat)(xs:List W)(h:∀x∈xs,aI n [x,x]=.ok (.bl true)):aI (n+1) [.lst xs,.lst xs]=.ok (.bl true)/\aI (n+1) [.tup xs,.tup xs]=.ok (.bl true):=by
 constructor;.obtain⟨a,b,e⟩:=oJ (aI n) (.lst xs) (.lst xs) xs .no .no h;simp[aI,il,List.replicate,ikT,aiu,ais,ait,air,m5,aaq,e]
 .obtain⟨a,b,e⟩:=oJ (aI n) (.tup xs) (.tup xs) xs .no .no h;simp[aI,il,List.replicate,ikT,aiu,ais,ait,air,m5,aaq,e]
def ae0(n:Nat)(p:S3):aI (n+2) [stW p,stW p]=.ok (.bl true):=(jl (n+1) _ λx a=>by simp at a;rcases a with rfl|rfl|rfl<;>exact same_int n _).2
def y9(n:Nat)(s:String)(d:Nat):aI (n+2) [.lst [.str s,.int d],.lst [.str s,.int d]]=.ok (.bl true):=(jl (n+1) _ λx a=>by
 simp at a;rcases a with rfl|rfl;.exact same_str n _
 .exact same_int n _).1
noncomputable def okX(r:Res (W×List W))(k:W×List W->Res (W×Ws)):Res (W×Ws):=match r with|.ok q=>k q|_=>.bad
def gD(q:W×List W)(k:W×List W->Res (W×Ws)):okX (.ok q) k=k q:=(rfl)
def cl0(f:FS)(ws:List W):Ws->Res (W×Ws)|.ow st::σ=>okX (f st ws) λq=>.ok (q.1,.ow q.2::σ)|_=>.bad
def cl1(f:FS)(ws:List W):Ws->Res (W×Ws)|s::.ow st::σ=>okX (f st ws) λq=>.ok (q.1,s::.ow q.2::σ)|_=>.bad
def jF(f:FS)(ws st:List W)(σ:Ws):cl0 f ws (.ow st::σ)=okX (f st ws) λq=>.ok (q.1,.ow q.2::σ):=(rfl)
def sf(f:FS)(ws st:List W)(s:Sl)(σ:Ws):cl1 f ws (s::.ow st::σ)=okX (f st ws) λq=>.ok (q.1,s::.ow q.2::σ):=(rfl)
def gJ(f:FS)(a:XA)(st:List W)(σ:Ws):bq f 0 a (.ow st::σ)=(a (.ow st::σ)).bind λp=>cl0 f p.1 p.2:=by show((a (.ow st::σ)).bind λp=>_)=_;congr 1;funext p;obtain⟨ws,b⟩:=p;match b with|[]=>rfl|.no::b=>rfl|.va w::b=>rfl|.od _ _::b=>rfl|.ob::b=>rfl|.ow st1::b=>show(match f st1 ws with|.ok q=>Res.ok (q.1,(Sl.ow st1::b).set 0 (.ow q.2))|_=>.bad)=_;rw[jF];cases f st1 ws<;>rfl
def oM(f:FS)(a:XA)(st:List W)(s:Sl)(σ:Ws):bq f 1 a (s::.ow st::σ)=(a (s::.ow st::σ)).bind λp=>cl1 f p.1 p.2:=by show((a (s::.ow st::σ)).bind λp=>_)=_;congr 1;funext p;obtain⟨ws,b⟩:=p;match b with|[]=>rfl|[s]=>rfl|s::.no::b=>rfl|s::.va w::b=>rfl|s::.od _ _::b=>rfl|s::.ob::b=>rfl|s::.ow st1::b=>show(match f st1 ws with|.ok q=>Res.ok (q.1,(s::Sl.ow st1::b).set 1 (.ow q.2))|_=>.bad)=_;rw[sf];cases f st1 ws<;>rfl
def qZ(st:List W)(w:W)(σ:Ws):rtS 0 w (.ow st::σ)=.rt (.exc "" [w,.lst st]):=(rfl)
def akF(st:List W)(w:W)(s:Sl)(σ:Ws):rtS 1 w (s::.ow st::σ)=.rt (.exc "" [w,.lst st]):=(rfl)
def j8(a b c:W):mV (Str.ofString "left") rks [a,b,c]=some a:=(rfl)
def wZ(a b c:W):mV (Str.ofString "at") rks [a,b,c]=some b:=(rfl)
def pB(a b c:W):mV (Str.ofString "cells") rks [a,b,c]=some c:=(rfl)
def Rm(n:Nat)(st:List W):Prop:=∃(l k:Int)(a:List Int),st=[.int l,.int k,.lst (a.map .int)]/\a≠[]/\a.length<=100/\-1<=k/\k<=n
def Rm.mono{n m:Nat}{st:List W}(h:Rm n st)(f:n<=m):Rm m st:=by obtain⟨l,k,d,e,c,a,b,g⟩:=h;exact⟨l,k,d,e,c,a,b,by omega⟩
def acK(a:List Int)(k:Int)(h:a≠[]):∃c,oIx (.lst (a.map .int)) (.int (k%(a.length:Nat)))=.ok (.int c):=by
 have g:0<a.length:=List.length_pos_iff.mpr h;have j:=ap6 k (b:=(a.length:Int)) (by omega);have f:=apI k (b:=(a.length:Int)) (by omega);obtain⟨i,d⟩:∃i:Nat,k%(a.length:Int)=i:=⟨(k%(a.length:Int)).toNat,by omega⟩;rw[d];have e:i<a.length:=by omega
 exact⟨a[i],by simp[fw,e]⟩
def lF:SF:=aG (pq (yRT 0 (yX (tB (eOp oGe (ai 2) (eC (.int 0)))) (tB (eOp oLt (eOp oIx (ai 0) (eC (.str "left"))) (eOp afs (eC (.int 10)) (eC (.int 12))))))) (aG (aW 3 (yR 0 (eOp oIx (eOp oIx (ai 0) (eC (.str "cells"))) (eOp oMod (ai 2) (eBi oH (ae (eOp oIx (ai 0) (eC (.str "cells"))) aw)))))) (aG (aW 4 (yP 0 (eOp oMod (eOp eS (eOp dq (eOp dq (eOp dq (ai 3) (eOp eS (eOp eS (eC (.int 7919)) (ai 2)) (ai 2))) (ai 2)) (eC (.int 1))) (eC (.int 48271))) (eC (.int 2147483629))))) (aG (aW 5 (yP 0 (eOp oMod (eOp dq (eOp dq (eOp eS (ai 4) (ai 4)) (eOp eS (eOp eS (eC (.int 69621)) (ai 2)) (ai 2))) (eC (.int 1))) (eC (.int 2147483587))))) (aG (qU 0 0 (yP 0 (eOp dq (eOp eS (ai 5) (eC (.int 314159265358979323846264338327950288419))) (eOp eS (ai 4) (eC (.int 27182818284590452353)))))) (qU 0 1 (yP 0 (eOp dq (ai 2) (eC (.int 1))))))))) sNx) (aG (aW 6 (yR 0 (eOp oMod (eOp oIx (ai 0) (eC (.str "left"))) (ai 1)))) (aG (qU 0 0 (yR 0 (eOp oDiv (eOp oIx (ai 0) (eC (.str "left"))) (ai 1)))) (i2 0 (yP 0 (ai 6)))))
def jR:jW=aG (aW 2 (yR 0 (eOp oIx (ai 0) (eC (.str "at"))))) (aG (pq (yRT 0 (yX (tB (eOp oLt (ai 2) (eC (.int 0)))) (tB (eOp oEq (eOp oIx (ai 0) (eC (.str "left"))) (eC (.int 0)))))) (aW 2 (yP 0 (eC (.int 0)))) sNx) lF):=rfl
def cp{n:Nat}{st:List W}(h:Rm n st)(N:n<1000000000000)(m:Int)(u:0<m)(D:m<1000000):∃r p,ar st [.int m]=.ok (.int r,p)/\0<=r/\r<m/\Rm (n+1) p:=by
 obtain⟨l,k,i,rfl,t,s,E,H⟩:=h;have o:m<10^100:=Int.lt_trans D (by decide);have B:∀l:Int,0<=l%m:=λl=>ap6 l (by omega);have A:∀l:Int,l%m<m:=λl=>apI l u;have go:∀a:Int,-1<=a->a<=n->∃d k':Int,0<=k'+1/\k'<=n+1/\lF [.ow [.int l,.int k,.lst (i.map .int)],.va (.int m),.va (.int a),.no,.no,.no,.no]=.rt (.exc "" [.int (d%m),.lst [.int (d/m),.int k',.lst (i.map .int)]]):=λa O P=>by
  by_cases x:0<=a/\l<1000000000000;.obtain⟨f,j⟩:=x;obtain⟨c,q⟩:=acK i a t;have v:0<i.length:=List.length_pos_iff.mpr t;have G:=ap6 ((c+7919*a*a+a+1)*48271) (b:=2147483629) (by decide);have I:=apI ((c+7919*a*a+a+1)*48271) (b:=2147483629) (by decide);generalize ho:(c+7919*a*a+a+1)*48271%2147483629=o1 at G I;have C:=ap6 (o1*o1+69621*a*a+1) (b:=2147483587) (by decide);have J:=apI (o1*o1+69621*a*a+1) (b:=2147483587) (by decide);generalize hw:(o1*o1+69621*a*a+1)%2147483587=o2 at C J;refine⟨o2*314159265358979323846264338327950288419+o1*27182818284590452353,a+1,by omega,by omega,?_⟩;simp at o q;simp(disch:=omega)[lF,bR,aN,pj,tD,eu,nC,wz,cG,n6,j8,wZ,pB,bj,f,j,v,q,rG,vz,ho,hw,u,o,qZ]
  .refine⟨l,k,by omega,by omega,?_⟩;simp at o;by_cases f:0<=a;.have j:¬l<1000000000000:=λz=>x ⟨f,z⟩;simp(disch:=omega)[lF,bR,aN,pj,tD,eu,nC,wz,cG,n6,j8,wZ,pB,bj,f,j,u,o,qZ]
   .simp(disch:=omega)[lF,bR,aN,pj,tD,eu,nC,wz,cG,n6,j8,wZ,pB,bj,f,u,o,qZ]
 by_cases y:k<0/\l=0;.obtain⟨d,k',M,K,e⟩:=go 0 (by omega) (by omega);refine⟨d%m,[.int (d/m),.int k',.lst (i.map .int)],?_,B d,A d,d/m,k',i,rfl,t,s,by omega,by omega⟩;obtain⟨g,rfl⟩:=y;simp[ar,i3,jR,List.replicate,aN,wz,n6,wZ,bj,bR,nC,cG,j8,g,e,ib]
 .obtain⟨d,k',M,K,e⟩:=go k (by omega) (by omega);refine⟨d%m,[.int (d/m),.int k',.lst (i.map .int)],?_,B d,A d,d/m,k',i,rfl,t,s,by omega,by omega⟩;by_cases g:k<0;.have w:¬l=0:=λz=>y ⟨g,z⟩;simp[ar,i3,jR,List.replicate,aN,wz,n6,wZ,bj,bR,nC,cG,j8,g,w,e,ib]
  .simp[ar,i3,jR,List.replicate,aN,wz,n6,wZ,bj,bR,nC,cG,j8,g,e,ib]
def aaE{n:Nat}{st:List W}(h:Rm n st)(w:n<1000000000):∃c a,dj st []=.ok (.int c,a)/\0<=c/\c<4/\Rm (n+3) a:=by
 obtain⟨e,r,i,x,z,k⟩:=cp h (by omega) 4 (by decide) (by decide);obtain⟨m,v,q,y,t,f⟩:=cp k (by omega) 2 (by decide) (by decide);obtain⟨b,l,g,s,u,o⟩:=cp f (by omega) 3 (by decide) (by decide);obtain⟨c,d,j,p⟩:∃c:Int,oIx (.lst [.int e,.int 0,.int (m*2)]) (.int b)=.ok (.int c)/\0<=c/\c<4:=by
  have:b=0\/b=1\/b=2:=by omega
  rcases this with rfl|rfl|rfl<;>simp<;>omega
 refine⟨c,l,?_,j,p,o⟩;simp at d;simp(disch:=omega)[dj,i3,gQ,List.replicate,eu,kE,aeA,cn,cO,gJ,jF,gD,cG,i,q,g,vz,d,bj,qZ,ib]
def j7(n:Nat):(rng 0 n).length=n:=by simp[rng]
def eO(p:S3)(h:Fac p)(m n:Int):cB [stW p,.int m,.int n]=.ok (spW (sfp p m n)):=by
 obtain⟨x,y,f⟩:=p;obtain⟨a,b,_,i,l,j,e⟩:=amY x y f m n h.1 h.2;rw[e];have d:∀k c:Int,k+m*a+n*b-c=k+(a*m+b*n)-c:=λk c=>by rw[aqD m,aqD n,Int.add_assoc]
 have g:∀k c:Int,k+m*b-n*a-c=k+(b*m-a*n)-c:=λk c=>by rw[aqD m,aqD n];omega
 have d:=d x 0;have g:=g y 0;simp only[Int.sub_zero]at d g;simp only[g7]at i;simp(disch:=omega)[cB,jX,stW,spW,i,vz,List.replicate,d,g]
def ud(x y c:Int)(h:Fac (x,y,c)):dk [.int x,.int y,.int c]=.ok (.lst [stW (bsd (x,y,c) (-1)),stW (bsd (x,y,c) 1)]):=by
 have b:=eO (x,y,c) h 0 (-1);have a:=eO (x,y,c) h 0 1;have e:stW (x,y,c)=.tup [.int x,.int y,.int c]:=rfl;rw[e]at b a;have f:∀(s:Int×Int)(c:Int),dq (spW s) (.tup [.int c])=.ok (stW (s.1,s.2,c)):=λs c=>by simp[spW,stW]
 have d:stW (bsd (x,y,c) (-1))=stW ((sfp (x,y,c) 0 (-1)).1,(sfp (x,y,c) 0 (-1)).2,c):=rfl;have g:stW (bsd (x,y,c) 1)=stW ((sfp (x,y,c) 0 1).1,(sfp (x,y,c) 0 1).2,c):=rfl;rw[d,g];generalize sfp (x,y,c) 0 (-1)=s1 at *;generalize sfp (x,y,c) 0 1=s2 at *;simp[dk,jY,List.replicate,b,a,f]
theorem nE{c:TF}{b:SF}{S:Nat->Ws}{bad:Nat->Bool}(d:∀n,c (S n)=.ok (bad n))(g:∀n,b (S n)=.nx (S (n+1))):∀(m n:Nat),(∃j,j<=m/\bad (n+j)=false)->∀a,m<a->∃j,bad (n+j)=false/\iL c b a (S n)=.nx (S (n+j))
|m,n,h,0,hf=>absurd hf (aoG _)|m,n,h,a+1,hf=>by
  by_cases e:bad n=true
  .obtain⟨j,q,f⟩:=h;have p:1<=j:=by cases j with|zero=>rw[Nat.add_zero,e]at f;cases f|succ j=>omega
   obtain⟨m,rfl⟩:∃k,m=k+1:=⟨m-1,by omega⟩;obtain⟨i,o,l⟩:=nE d g m (n+1) ⟨j-1,by omega,by rw[show n+1+(j-1)=n+j by omega];exact f⟩ a (by omega);refine⟨i+1,by rw[show n+(i+1)=n+1+i by omega];exact o,?_⟩;rw[eI,d,e,show n+(i+1)=n+1+i by omega,<-l,g6,anL rfl,g];rfl
  .have e:bad n=false:=by simpa using e
   refine⟨0,by rw[Nat.add_zero];exact e,?_⟩;rw[eI,d,e];rfl
theorem kf{c:Type}[DecidableEq c]{g:Nat->c}(d:∀i j,g i=g j->i=j)(a:c):∀b:List Nat,b.Nodup->(b.filter λj=>decide (g j=a)).length<=1
|[],_=>by simp|j::b,nd=>by
 have nd:=aoF.mp nd;by_cases h:g j=a;.have:b.filter (λj=>decide (g j=a))=[]:=List.filter_eq_nil_iff.mpr λi e z=>nd.1 (by
  have:g i=a:=by simpa using z
  rw[d j i (h.trans this.symm)];exact e);simp[h,this]
 .simpa[h]using kf d a b nd.2
theorem amM{p q r:Nat->Bool}:∀a:List Nat,(∀j∈a,p j=true\/q j=true\/r j=true)->a.length<=(a.filter p).length+(a.filter q).length+(a.filter r).length
|[],_=>by simp|j::a,h=>by
 have d:=amM a λi c=>h i (anU _ c);have b:=h j an2;have l:∀f:Nat->Bool,(a.filter f).length<=((j::a).filter f).length:=λf=>by rw[apV];split<;>simp
 have e:=l p;have k:=l q;have g:=l r;rw[anV];rcases b with b|b|b
 .have:((j::a).filter p).length=(a.filter p).length+1:=by rw[apV,anL b,anV]
  omega
 .have:((j::a).filter q).length=(a.filter q).length+1:=by rw[apV,anL b,anV]
  omega
 .have:((j::a).filter r).length=(a.filter r).length+1:=by rw[apV,anL b,anV]
  omega
theorem pig{e:Type}[DecidableEq e]{g h:Nat->e}(f:∀i j,g i=g j->i=j)(k:∀i j,h i=h j->i=j):∀(l:List e)(b:List Nat),b.Nodup->(∀j∈b,g j∈l\/h j∈l)->b.length<=2*l.length
|[],b,_,hj=>by cases b with|nil=>simp|cons j b=>rcases hj j an2 with z|z<;>cases z
|a::l,b,nd,hj=>by
 have s:=pig f k l (b.filter λj=>decide (g j≠a)&&decide (h j≠a)) (nd.filter _) λj d=>by
  obtain⟨o,c⟩:=aoV.mp d;simp only[an6,aog]at c;rcases hj j o with z|z;.exact .inl ((anS.mp z).resolve_left c.1)
  .exact .inr ((anS.mp z).resolve_left c.2)
 have u:=kf f a b nd;have v:=kf k a b nd;have t:=amM (p:=λj=>decide (g j≠a)&&decide (h j≠a)) (q:=λj=>decide (g j=a)) (r:=λj=>decide (h j=a)) b λj _=>by
  by_cases m:g j=a;.simp[m]
  .by_cases n:h j=a<;>simp[m,n]
 rw[anV];omega
theorem rL{b c:Type}(f:b->c):∀(l:List b)(j:Nat),(l.map f).eraseIdx j=(l.eraseIdx j).map f|[],_=>rfl|a::l,0=>rfl|a::l,j+1=>by show f a::(l.map f).eraseIdx j=f a::(l.eraseIdx j).map f;rw[rL f l j]
theorem n8:∀(l:List Nat)(r:Nat)(h:r<l.length),(l[r]::l.eraseIdx r).Perm l
|[],_,h=>absurd h (aoG _)|a::l,0,_=>.refl _|a::l,r+1,h=>by
 have c:r<l.length:=by simpa using h
 have b:=n8 l r c;exact(List.Perm.swap a l[r] (l.eraseIdx r)).trans (b.cons a)
def ahs{n:Nat}{st:List W}(h:Rm n st)(s:n<1000000000)(k:Nat)(left:List Nat)(t:k<8)(v:left.length=8-k)(f:W)(σ:Ws):∃(r:Nat)(q:r<left.length)(c:List W),yb 3 (bq ar 1 (aF (yP 1 (eOp jx (eC (.int 8)) (ai 0))) bc)) (.va (.int k)::.ow st::.va f::.ow (nW left)::σ)=.ok (.int (left[r]:Nat),.va (.int k)::.ow c::.va f::.ow (nW (left.eraseIdx r))::σ)/\Rm (n+1) c:=by
 obtain⟨r,g,i,u,w,l⟩:=cp h (by omega) (8-(k:Int)) (by omega) (by omega);obtain⟨j,rfl⟩:∃j:Nat,r=j:=⟨r.toNat,by omega⟩;have e:j<left.length:=by omega
 refine⟨j,e,g,?_,l⟩;have p:(nW left)[j]?=some (.int (left[j]:Nat)):=by simp[nW,e]
 have m:(nW left).eraseIdx j=nW (left.eraseIdx j):=rL _ _ _;have b:(nW left).length=left.length:=by simp[nW]
 have o:(j:Int)<(nW left).length:=by rw[b];omega
 have d:(nW left).length<=1000000:=by rw[b];omega
 rw[<-m];generalize(left[j]:Nat)=a at *;generalize nW left=L at *;simp[yb,ajq,oM,sf,gD,cn,cO,cG,i,p,o,d,lim]
theorem og(e:W)(σ:Ws):∀(m k n:Nat)(st:List W)(left:List Nat)(f:Sl),k+m=8->left.length=m->Rm n st->n+m<1000000000->∃(ks:List Nat)(d:List W)(b:Sl),iJ aez (yb 3 (bq ar 1 (aF (yP 1 (eOp jx (eC (.int 8)) (ai 0))) bc))) (f::.ow st::.va e::.ow (nW left)::σ) ((List.range m).map λj:Nat=>W.int ((k+j:Nat):Int))=.ok (nW ks,b::.ow d::.va e::.ow (nW [])::σ)/\ks.Perm left/\Rm (n+m) d
|0,k,n,st,left,f,_,hl,h,_=>by have:left=[]:=apL.mp hl;subst this;exact⟨[],st,f,rfl,.nil,h⟩|m+1,k,n,st,left,f,hk,hl,h,hn=>by
 have i:(List.range (m+1)).map (λj:Nat=>W.int ((k+j:Nat):Int))=.int (k:Int)::(List.range m).map λj:Nat=>W.int ((k+1+j:Nat):Int):=by rw[List.range_succ_eq_map,aoa,aoM];congr 1;refine List.map_congr_left λj _=>?_;simp only[Function.comp];congr 2;omega
 obtain⟨r,c,g,o,p⟩:=ahs h (by omega) k left (by omega) (by omega) e σ;obtain⟨ks,q,b,t,s,l⟩:=og e σ m (k+1) (n+1) g (left.eraseIdx r) (.va (.int k)) (by omega) (by rw[List.length_eraseIdx];simp[c];omega) p (by omega);refine⟨left[r]::ks,q,b,?_,(s.cons _).trans (n8 left r c),by rw[show n+(m+1)=n+1+m by omega];exact l⟩;rw[i,oD];have u:nW (left[r]::ks)=.int (left[r]:Nat)::nW ks:=rfl;rw[u];generalize yb 3 (bq ar 1 (aF (yP 1 (eOp jx (eC (.int 8)) (ai 0))) bc))=X at *;generalize(left[r]:Nat)=a at *;generalize(List.range m).map (λj:Nat=>W.int ((k+1+j:Nat):Int))=L at *;simp[aey,o,t]
def hJ(a b:Nat):hR (.int a) (.int b)=decide (a=b):=by show((a:Int)==(b:Int))=_;rw[aof];simp only[aoW,aog];omega
theorem pY(k:Nat):∀b:List Nat,afZ (.int k) (nW b)=decide (k∈b)
|[]=>rfl|a::b=>by
 have c:=pY k b;unfold afZ at c⊢;show(hR (.int a) (.int k)||(nW b).any _)=_;rw[c,hJ,aof];simp only[ap4,aog,anS];constructor
 .rintro(h|h);.exact .inl h.symm
  .exact .inr h
 .rintro(h|h);.exact .inl h.symm
  .exact .inr h
theorem aaw{k:Nat}:∀(ks:List Nat)(vs:List W),ks.length=vs.length->k∈ks->fP (.int k) (nW ks) vs=vs[ks.idxOf k]?
|[],_,_,h=>by cases h|a::ks,[],hl,_=>by cases hl|a::ks,v::vs,hl,h=>by
 show(if hR (.int a) (.int k)=true then some v else fP (.int k) (nW ks) vs)=_;rw[hJ];by_cases e:a=k;.subst e;simp[List.idxOf_cons_self]
 .have b:k∈ks:=(anS.mp h).resolve_left λz=>e z.symm;rw[anK (by simpa using e),aaw ks vs (by simpa using hl) b,List.idxOf_cons,show(a==k)=false by simpa using e];rfl
theorem vm{k:Nat}{v:W}:∀(ks:List Nat)(vs:List W),ks.Nodup->ks.length=vs.length->k∈ks->jE (.int k) v (nW ks) vs=vs.set (ks.idxOf k) v
|[],_,_,_,h=>by cases h|a::ks,[],_,c,_=>by cases c|a::ks,u::vs,nd,c,h=>by
 have nd:=aoF.mp nd;have out:∀(ks:List Nat)(vs:List W),k∉ks->ks.length=vs.length->jE (.int k) v (nW ks) vs=vs:=λks=>by induction ks with
 |nil=>intro vs _ c;cases vs with|nil=>rfl|cons _ _=>cases c
 |cons b ks ih=>intro vs d c;cases vs with|nil=>cases c|cons u vs=>show(if hR (.int b) (.int k)=true then v else u)::jE (.int k) v (nW ks) vs=_;rw[hJ,anK (by simpa using λz=>d (by simp[z])),ih vs (λz=>d (anU _ z)) (by simpa using c)]
 show(if hR (.int a) (.int k)=true then v else u)::jE (.int k) v (nW ks) vs=_;rw[hJ];by_cases e:a=k;.subst e;rw[anL (by simp),out ks vs nd.1 (by simpa using c)];simp[List.idxOf_cons_self]
 .have f:k∈ks:=(anS.mp h).resolve_left λz=>e z.symm;rw[anK (by simpa using e),vm ks vs nd.2 (by simpa using c) f,List.idxOf_cons,show(a==k)=false by simpa using e];rfl
noncomputable def yJ(y d:Int)(j:Nat):Int:=y+j*d
def lft(x y c:Int):S3:=bsd (x,y,c) (-1)
def rgt(x y c:Int):S3:=bsd (x,y,c) 1
def kO{x y a c n:Int}(h:aB (bsd (x,y,c) n)=aB (bsd (x,a,c) n)):y=a:=by
 simp only[bsd,aB,sfp]at h;split at h;.simp only[aot]at h;omega
 .split at h;.simp only[aot]at h;omega
  .split at h<;>(simp only[aot]at h;omega)
def alw(x y c:Int):aB (lft x y c)≠aB (rgt x y c):=by
 intro h;simp only[lft,rgt,bsd,aB,sfp]at h;split at h;.simp only[aot]at h;omega
 .split at h;.simp only[aot]at h;omega
  .split at h<;>(simp only[aot]at h;omega)
def af8(a:List (Int×Int))(x y c d:Int)(j:Nat):Bool:=decide (aB (lft x (yJ y d j) c)∈a)||decide (aB (rgt x (yJ y d j) c)∈a)
def aiG(a:List (Int×Int))(hs:a.length<=6)(x y c d:Int)(k:d=1\/d=-1):∃j,j<=12/\af8 a x y c d j=false:=by
 apply Classical.byContradiction;intro m;have b:∀i j:Nat,yJ y d i=yJ y d j->i=j:=λi j h=>by unfold yJ at h;rcases k with rfl|rfl<;>omega
 have:=pig (g:=λj=>aB (lft x (yJ y d j) c)) (h:=λj=>aB (rgt x (yJ y d j) c)) (λi j h=>b i j (kO h)) (λi j h=>b i j (kO h)) a (List.range 13) apw λj f=>by
  have l:af8 a x y c d j=true:=by cases e:af8 a x y c d j with|true=>rfl|false=>exact(m ⟨j,by have:=an1.mp f;omega,e⟩).elim
  simpa[af8]using l
 rw[apm]at this;omega
def twoW(x y c:Int):W:=.lst [stW (lft x y c),stW (rgt x y c)]
def two_0(x y c:Int):oIx (twoW x y c) (.int 0)=.ok (stW (lft x y c)):=rfl
def two_1(x y c:Int):oIx (twoW x y c) (.int 1)=.ok (stW (rgt x y c)):=rfl
def wj(x y c:Int)(h:Fac (x,y,c)):dk [.int x,.int y,.int c]=.ok (twoW x y c):=ud x y c h
def alz(j k o n t l f s m d e b:Sl)(a:List (Int×Int))(x y c:Int):blk 0 cz [j,k,o,n,.va (.lst (a.map spW)),t,l,f,s,m,d,e,.va (twoW x y c),b]=.ok (decide (aB (lft x y c)∈a)||decide (aB (rgt x y c)∈a)):=by have i:=two_0 x y c;have g:=two_1 x y c;have r:=ad4 (aB (lft x y c)) a;have h:=ad4 (aB (rgt x y c)) a;have v:=pN (lft x y c);have u:=pN (rgt x y c);generalize twoW x y c=T at *;generalize W.lst (a.map spW)=SS at *;generalize lft x y c=p at *;generalize rgt x y c=q at *;by_cases z:aB p∈a<;>simp[ai6,cz,i,g,r,h,z]
def alA(j n m k r l g q e b:Sl)(f x y c d:Int)(s:Fac (x,y,c))(a:oIx (.lst [.int 1,.int (-1)]) (.int (if f<0 then 1 else 0))=.ok (.int d)):bU [j,.va (.int f),n,m,k,r,l,g,q,.va (.int x),.va (.int y),e,.va (twoW x y c),b]=.nx [j,.va (.int f),n,m,k,r,l,g,q,.va (.int x),.va (.int (y+d)),e,.va (twoW x (y+d) c),b]:=by
 have i:=two_0 x y c;have h:oIx (stW (lft x y c)) (.int 2)=.ok (.int c):=rfl;have o:=wj x (y+d) c s;generalize twoW x (y+d) c=T' at *;generalize twoW x y c=T at *;generalize stW (lft x y c)=p at *;by_cases z:f<0;.rw[anL z]at a;simp at a;subst a;simp[bU,aN,cG,bj,z,i,h,o]
 .rw[anK z]at a;simp at a;subst a;simp[bU,aN,cG,bj,z,i,h,o]
def aaC:SF:=aG (aW 4 (yP 0 (eOp dq (ai 4) (iB (ae (eSl (eOp oIx (ai 12) (eC (.int 0))) pNo (ke (eC (.int 2)))) (ae (eSl (eOp oIx (ai 12) (eC (.int 1))) pNo (ke (eC (.int 2)))) aw)))))) (aG (iR 5 (yP 0 (eOp oIx (ai 12) (eC (.int 0)))) (yP 0 (eOp oIx (ai 3) (eOp eS (eC (.int 2)) (ai 8))))) (iR 5 (yP 0 (eOp oIx (ai 12) (eC (.int 1)))) (yP 0 (eOp oIx (ai 3) (eOp dq (eOp eS (eC (.int 2)) (ai 8)) (eC (.int 1)))))))
def p4:SF:=pq (yT 0 (tB (ai 6))) (aG (aW 11 (yP 0 (ai 7))) (tq [9,10] (yP 0 (aJ cB (ae (ff (ae (ai 1) (ae (eOp jx (eC (.int 0)) (ai 1)) (ae (ai 11) aw)))) (ae (eC (.int 0)) (ae (eOp jx (eOp eS (eC (.int 4)) (ai 8)) (eC (.int 6))) aw))))))) sNx
def acY:bC=aG (aW 9 (xOp dq (xOp dq (xOp jx (xOp eS (bq ar 0 (aF (yP 0 (eC (.int 3))) bc)) (yP 0 (eC (.int 4)))) (yP 0 (eC (.int 4)))) (xOp oDiv (bq ar 0 (aF (yP 0 (eC (.int 4))) bc)) (yP 0 (eC (.int 3))))) (yP 0 (ai 1)))) (aG (aW 10 (xOp jx (xOp jx (bq ar 0 (aF (yP 0 (eC (.int 5))) bc)) (yP 0 (eC (.int 2)))) (yP 0 (ai 1)))) (aG (aW 11 (bq dj 0 bc)) (aG p4 (aG (aW 12 (yP 0 (aJ dk (ae (ai 9) (ae (ai 10) (ae (ai 11) aw)))))) (aG (n4 gf (blk 0 cz) bU) aaC))))):=rfl
def afF(w p o n q f d:Sl)(a b x y c:Int)(m:0<=b/\b<4)(r:0<=c/\c<4)(g:Bool)(i:Nat)(z:i<4)(st:List W):∃k j l:Int,Fac (k,j,l)/\p4 [.ow st,.va (.int a),p,o,n,q,.va (.bl g),.va (.int b),.va (.int i),.va (.int x),.va (.int y),.va (.int c),f,d]=.nx [.ow st,.va (.int a),p,o,n,q,.va (.bl g),.va (.int b),.va (.int i),.va (.int k),.va (.int j),.va (.int l),f,d]:=by cases g with|false=>exact⟨x,y,c,r,by simp[p4,bR,ly,bj]⟩|true=>have h:=eO (a,0-a,b) m 0 (4*i-6);have e:stW (a,0-a,b)=.tup [.int a,.int (0-a),.int b]:=rfl;rw[e]at h;refine⟨(sfp (a,0-a,b) 0 (4*i-6)).1,(sfp (a,0-a,b) 0 (4*i-6)).2,b,m,?_⟩;have t:∀s:Int×Int,spW s=.tup [.int s.1,.int s.2]:=λ_=>rfl;rw[t]at h;generalize(sfp (a,0-a,b) 0 (4*i-6)).1=u at *;generalize(sfp (a,0-a,b) 0 (4*i-6)).2=v at *;simp at h;simp(disch:=omega)[p4,bR,ly,bj,aN,cG,tq,sA2,sA3,rG,h]
def nj{a:List Nat}(nd:a.Nodup){m:Nat}(h:m<a.length):a[m]∉a.take m:=λz=>by
 obtain⟨j,b,e⟩:=ape z;rw[List.getElem_take]at e;have c:j<m:=by simp at b;omega
 have:=(List.getElem_inj nd).mp e;omega
def zk(a:List Nat)(nd:a.Nodup){m:Nat}(c:m<a.length)(g:a.length=8)(vs:List W)(v:W)(A:Ws):putD 5 (nW (a.take m)) vs (.int (a[m]:Nat)) v A=.nx (A.set 5 (.od (nW (a.take (m+1))) (vs++[v]))):=by
 have h:=pY a[m] (a.take m);rw[aoe (nj nd c)]at h;have d:sL (.int (a[m]:Nat))=true:=rfl;have b:(nW (a.take m)).length<lim:=by simp[nW,lim];omega
 have f:nW (a.take (m+1))=nW (a.take m)++[.int (a[m]:Nat)]:=by
  have e:a.take (m+1)=a.take m++[a[m]]:=by rw[List.take_succ,anJ c];rfl
  rw[e];unfold nW;rw[apA];rfl
 unfold putD putK agi;rw[h,anL ⟨d,b⟩,f];rfl
def aiR(K n s o l r f g e:Sl)(st:List W)(d:List Nat)(nd:d.Nodup)(t:d.length=8)(i:Nat)(N:i<4)(T:List S3)(I:T.length=2*i)(x y c:Int):aaC [.ow st,n,s,.va (.lst (nW d)),.va (.lst ((T.map aB).map spW)),.od (nW (d.take (2*i))) (T.map stW),o,l,.va (.int i),r,f,g,.va (twoW x y c),e]=.nx [.ow st,n,s,.va (.lst (nW d)),.va (.lst (((T++[lft x y c,rgt x y c]).map aB).map spW)),.od (nW (d.take (2*(i+1)))) ((T++[lft x y c,rgt x y c]).map stW),o,l,.va (.int i),r,f,g,.va (twoW x y c),e]:=by
 have C:=two_0 x y c;have u:=two_1 x y c;have M:=pN (lft x y c);have J:=pN (rgt x y c);have k:=vC d (i:=2*i) (by omega);have h:=vC d (i:=2*i+1) (by omega);have w:d.getD (2*i) 0=d[2*i]:=by rw[anI,anJ (by omega)];rfl
 have B:d.getD (2*i+1) 0=d[2*i+1]:=by rw[anI,anJ (by omega)];rfl
 rw[w]at k;rw[B]at h;have H:=λj v A=>zk d nd (m:=2*i) (by omega) t j v A;have E:=λj v A=>zk d nd (m:=2*i+1) (by omega) t j v A;rw[show 2*(i+1)=2*i+1+1 by omega];have D:((T++[lft x y c,rgt x y c]).map aB).map spW=(T.map aB).map spW++[spW (aB (lft x y c)),spW (aB (rgt x y c))]:=by simp
 have G:(T++[lft x y c,rgt x y c]).map stW=T.map stW++[stW (lft x y c)]++[stW (rgt x y c)]:=by simp
 have z:((T.map aB).map spW).length+2<=1000000:=by simp;omega
 rw[D,G];rw[show((2*i+1:Nat):Int)=2*(i:Int)+1 by omega]at h;rw[show((2*i:Nat):Int)=2*(i:Int)by omega]at k;generalize twoW x y c=TW at *;generalize W.lst (nW d)=OR at *;generalize(T.map aB).map spW=SS at *;generalize T.map stW=TS at *;generalize nW (d.take (2*i))=K0 at *;generalize nW (d.take (2*i+1))=K1 at *;generalize nW (d.take (2*i+1+1))=K2 at *;generalize lft x y c=p at *;generalize rgt x y c=q at *;generalize(d[2*i]:Nat)=a at *;generalize(d[2*i+1]:Nat)=b at *;simp(disch:=omega)[aaC,aN,cG,bj,C,u,z,iR,zm,rG,k,h,H,E]
def alK{n:Nat}{st:List W}(h:Rm n st)(hn:n<900000000)(f g:Int)(hf:0<=g/\g<4)(l:Bool)(m:Sl)(a:List Nat)(nd:a.Nodup)(Q:a.length=8)(i:Nat)(N:i<4)(T:List S3)(hT:T.length=2*i)(K r v k e:Sl):∃(x y c:Int)(t:List W)(p9 E D C:Sl),bC [.ow st,.va (.int f),m,.va (.lst (nW a)),.va (.lst ((T.map aB).map spW)),.od (nW (a.take (2*i))) (T.map stW),.va (.bl l),.va (.int g),.va (.int i),K,r,v,k,e]=.nx [.ow t,.va (.int f),m,.va (.lst (nW a)),.va (.lst (((T++[lft x y c,rgt x y c]).map aB).map spW)),.od (nW (a.take (2*(i+1)))) ((T++[lft x y c,rgt x y c]).map stW),.va (.bl l),.va (.int g),.va (.int i),p9,E,D,C,e]/\Fac (x,y,c)/\aB (lft x y c)∉T.map aB/\aB (rgt x y c)∉T.map aB/\Rm (n+6) t:=by
 obtain⟨I,s1,e1,a1,b1,h1⟩:=cp h (by omega) 3 (by decide) (by decide);obtain⟨J,s2,e2,a2,b2,U⟩:=cp h1 (by omega) 4 (by decide) (by decide);obtain⟨M,s3,e3,a3,b3,h3⟩:=cp U (by omega) 5 (by decide) (by decide);obtain⟨H,o,e4,Y,Z,O⟩:=aaE h3 (by omega);obtain⟨x,y,c,G,p⟩:=afF (.ow o) m (.va (.lst (nW a))) (.va (.lst ((T.map aB).map spW))) (.od (nW (a.take (2*i))) (T.map stW)) k e f g (I*4-4+J/3+f) (M-2-f) H hf ⟨Y,Z⟩ l i N o;obtain⟨d,hd,hd1⟩:∃d:Int,oIx (.lst [.int 1,.int (-1)]) (.int (if f<0 then 1 else 0))=.ok (.int d)/\(d=1\/d=-1):=by
  by_cases z:f<0;.exact⟨-1,by rw[anL z];rfl,.inr rfl⟩
  .exact⟨1,by rw[anK z];rfl,.inl rfl⟩
 have X:=wj x y c G;obtain⟨j0,B,q⟩:=aiG (T.map aB) (by simp;omega) x y c d hd1;obtain⟨j,u,hw⟩:=nE (c:=blk 0 cz) (b:=bU) (S:=λj=>[.ow o,.va (.int f),m,.va (.lst (nW a)),.va (.lst ((T.map aB).map spW)),.od (nW (a.take (2*i))) (T.map stW),.va (.bl l),.va (.int g),.va (.int i),.va (.int x),.va (.int (yJ y d j)),.va (.int c),.va (twoW x (yJ y d j) c),e]) (bad:=af8 (T.map aB) x y c d) (λn=>alz _ _ _ _ _ _ _ _ _ _ _ _ (T.map aB) x (yJ y d n) c) λn=>by have:=alA (.ow o) m (.va (.lst (nW a))) (.va (.lst ((T.map aB).map spW))) (.od (nW (a.take (2*i))) (T.map stW)) (.va (.bl l)) (.va (.int g)) (.va (.int i)) (.va (.int c)) e f x (yJ y d n) c d G hd;rw[show yJ y d (n+1)=yJ y d n+d by unfold yJ;rcases hd1 with rfl|rfl<;>omega];exact this
  12 0 ⟨j0,B,by rw[aqE];exact q⟩ 200 (by decide);rw[aqE]at u hw;have P:yJ y d 0=y:=by simp[yJ]
 rw[P]at hw;have s:=aiR (.ow o) (.va (.int f)) m (.va (.bl l)) (.va (.int g)) (.va (.int x)) (.va (.int (yJ y d j))) (.va (.int c)) e o a nd Q i N T hT x (yJ y d j) c;refine⟨x,yJ y d j,c,o,.va (.int x),.va (.int (yJ y d j)),.va (.int c),.va (twoW x (yJ y d j) c),?_,G,?_,?_,O.mono (by omega)⟩
 .rw[acY];have w:∀R:SF,(aG (aW 9 (xOp dq (xOp dq (xOp jx (xOp eS (bq ar 0 (aF (yP 0 (eC (.int 3))) bc)) (yP 0 (eC (.int 4)))) (yP 0 (eC (.int 4)))) (xOp oDiv (bq ar 0 (aF (yP 0 (eC (.int 4))) bc)) (yP 0 (eC (.int 3))))) (yP 0 (ai 1)))) (aG (aW 10 (xOp jx (xOp jx (bq ar 0 (aF (yP 0 (eC (.int 5))) bc)) (yP 0 (eC (.int 2)))) (yP 0 (ai 1)))) (aG (aW 11 (bq dj 0 bc)) R))) [.ow st,.va (.int f),m,.va (.lst (nW a)),.va (.lst ((T.map aB).map spW)),.od (nW (a.take (2*i))) (T.map stW),.va (.bl l),.va (.int g),.va (.int i),K,r,v,k,e]=R [.ow o,.va (.int f),m,.va (.lst (nW a)),.va (.lst ((T.map aB).map spW)),.od (nW (a.take (2*i))) (T.map stW),.va (.bl l),.va (.int g),.va (.int i),.va (.int (I*4-4+J/3+f)),.va (.int (M-2-f)),.va (.int H),k,e]:=λR=>by generalize W.lst (nW a)=OR at *;generalize W.lst ((T.map aB).map spW)=SS at *;generalize T.map stW=TS at *;generalize nW (a.take (2*i))=K0 at *;simp(disch:=omega)[aN,kE,gJ,jF,gD,cn,cO,cG,bj,e1,e2,e3,e4,vz]
  rw[w,gX,p,f6,gX];have A:aW 12 (yP 0 (aJ dk (ae (ai 9) (ae (ai 10) (ae (ai 11) aw))))) [.ow o,.va (.int f),m,.va (.lst (nW a)),.va (.lst ((T.map aB).map spW)),.od (nW (a.take (2*i))) (T.map stW),.va (.bl l),.va (.int g),.va (.int i),.va (.int x),.va (.int y),.va (.int c),k,e]=.nx [.ow o,.va (.int f),m,.va (.lst (nW a)),.va (.lst ((T.map aB).map spW)),.od (nW (a.take (2*i))) (T.map stW),.va (.bl l),.va (.int g),.va (.int i),.va (.int x),.va (.int y),.va (.int c),.va (twoW x y c),e]:=by generalize W.lst (nW a)=OR at *;generalize W.lst ((T.map aB).map spW)=SS at *;generalize T.map stW=TS at *;generalize nW (a.take (2*i))=K0 at *;generalize twoW x y c=TW at *;simp[aN,cG,bj,X]
  rw[A,f6,gX,za,show gf _=200 from rfl,hw,f6,s]
 .simp only[af8,Bool.or_eq_false_iff,decide_eq_false_iff_not]at u;exact u.1
 .simp only[af8,Bool.or_eq_false_iff,decide_eq_false_iff_not]at u;exact u.2
noncomputable def byD(a:List Nat)(T:List S3):List S3:=(List.range 8).map λd=>T.getD (a.idxOf d) (0,0,0)
def aea{a:List Nat}(P:a.Perm (List.range 8)){T:List S3}(g:T.length=8){d:Nat}(e:d<8):tY (.dic (nW a) (T.map stW)) (.int d)=.ok (stW (T.getD (a.idxOf d) (0,0,0))):=by
 have b:d∈a:=P.mem_iff.mpr (an1.mpr e);have f:a.length=8:=P.length_eq;have c:a.idxOf d<T.length:=by have:=aoK b;omega
 show(if sL (.int d)=true then ofO (fP (.int d) (nW a) (T.map stW))else .bad)=_;rw[anL (show sL (.int d)=true from rfl),aaw a _ (by simp[f,g]) b,an7,anJ c,anI,anJ c];rfl
def aiL{a:List Nat}(P:a.Perm (List.range 8)){T:List S3}(r:T.length=8)(st:List W)(j o n l k h p m e f c b:Sl):x4 5 (i2 0 (yP 0 (eBi ie (ae (fu 1 (gi (eC (.int 8))) (au 0) fE (eOp tY (ai 6) (ai 0))) aw)))) [.ow st,j,o,n,l,.od (nW a) (T.map stW),k,h,p,m,e,f,c,b]=.rt (.exc "" [flW (byD a T),.lst st]):=by
 have t:∀i:Sl,br (au 0) fE (eOp tY (ai 6) (ai 0)) [.no,i,j,o,n,l,.va (.dic (nW a) (T.map stW)),k,h,p,m,e,f,c,b] (rng 0 8)=.ok ((byD a T).map stW):=λi=>by unfold byD;rw[aoM];refine bw λd q=>⟨_,rfl,rfl,?_⟩;have:=aea P r (an1.mp q);rw[ap5];show _=Res.ok (stW (T.getD (a.idxOf d) (0,0,0)));generalize W.dic (nW a) (T.map stW)=DD at *;generalize stW (T.getD (a.idxOf d) (0,0,0))=Z at *;simp[this]
 have s:(byD a T).length=8:=by simp[byD]
 have g:((byD a T).map stW).length<=1000000:=by simp[s]
 have u:flW (byD a T)=.tup ((byD a T).map stW):=rfl;rw[u];generalize(byD a T).map stW=R at *;generalize hK:nW a=K at *;generalize hV:T.map stW=V at *;simp[j6,eu,cG,bj,t,g,List.replicate,qZ]
def afM{c:List Nat}{a b:Nat}(f:a∈c)(e:b∈c)(h:c.idxOf a=c.idxOf b):a=b:=by have g:=List.getElem_idxOf (aoK f);have d:=List.getElem_idxOf (aoK e);rw[<-g,<-d];congr 1
def adi{c:List Nat}(P:c.Perm (List.range 8)){T:List S3}(o:T.length=8)(j:∀p∈T,Fac p)(l:bG T):Fl (byD c T)/\bG (byD c T):=by
 have h:∀d,d<8->d∈c:=λd f=>P.mem_iff.mpr (an1.mpr f);have q:c.length=8:=P.length_eq;have i:∀d,d<8->c.idxOf d<T.length:=λd f=>by have:=aoK (h d f);omega
 refine⟨⟨by simp[byD],λp k=>?_⟩,lr λa b n m=>?_⟩;.obtain⟨d,f,rfl⟩:=aoD.mp k;exact lj j (i d (an1.mp f))
 .have e:b<8:=by simpa[byD]using m
  have g:∀d,d<8->(byD c T).getD d (0,0,0)=T.getD (c.idxOf d) (0,0,0):=λd f=>by unfold byD;rw[anI,an7,aoL f];rfl
  rw[g a (by omega),g b e];intro z;have:=afM (h a (by omega)) (h b e) (two_at l (i a (by omega)) (i b e) z);omega
def afP{n:Nat}{st:List W}(h:Rm n st)(hn:n<800000000)(A s:Int)(Q:0<=s/\s<4)(v:Bool)(C:Sl)(a:List Nat)(nd:a.Nodup)(U:a.length=8):∃(T:List S3)(k:List W)(B r j f d:Sl),forL (au 8) bC (rng 0 4) [.ow st,.va (.int A),C,.va (.lst (nW a)),.va (.lst []),.od [] [],.va (.bl v),.va (.int s),.no,.no,.no,.no,.no,.no]=.nx [.ow k,.va (.int A),C,.va (.lst (nW a)),.va (.lst ((T.map aB).map spW)),.od (nW a) (T.map stW),.va (.bl v),.va (.int s),B,r,j,f,d,.no]/\T.length=8/\(∀p∈T,Fac p)/\bG T/\Rm (n+24) k:=by
 obtain⟨D,e,M⟩:=kq (g:=au 8) (b:=bC) (xs:=rng 0 4) (λi D=>i<=4->∃(T:List S3)(k:List W)(B r j f d:Sl),D=[.ow k,.va (.int A),C,.va (.lst (nW a)),.va (.lst ((T.map aB).map spW)),.od (nW (a.take (2*i))) (T.map stW),.va (.bl v),.va (.int s),B,r,j,f,d,.no]/\T.length=2*i/\(∀p∈T,Fac p)/\bG T/\Rm (n+6*i) k) (σ:=[.ow st,.va (.int A),C,.va (.lst (nW a)),.va (.lst []),.od [] [],.va (.bl v),.va (.int s),.no,.no,.no,.no,.no,.no]) (λ_=>⟨[],st,.no,.no,.no,.no,.no,rfl,rfl,λ_ l=>(by cases l),.nil,h⟩) (by
   intro i w σ hw l;obtain⟨hi,rfl⟩:=pz _ _ _ _ hw;obtain⟨T,J,B,r,j,f,d,rfl,E,u,t,H⟩:=l (by omega);obtain⟨x,y,c,Z,q9,I,G,K,S,O,R,Y,X⟩:=alK H (by omega) A s Q v C a nd U i hi T E r j f d .no;refine⟨[.ow J,.va (.int A),C,.va (.lst (nW a)),.va (.lst ((T.map aB).map spW)),.od (nW (a.take (2*i))) (T.map stW),.va (.bl v),.va (.int s),.va (.int (0+(i:Nat))),r,j,f,d,.no],rfl,_,by rw[ap5];exact S,λ_=>⟨T++[lft x y c,rgt x y c],Z,_,q9,I,G,K,rfl,by simp[E];omega,λp l=>?_,?_,by rw[show n+6*(i+1)=n+6*i+6 by omega];exact X⟩⟩
   .rcases aou.mp l with l|l;.exact u p l
    .simp at l;rcases l with rfl|rfl;.exact ql O _
     .exact ql O _
   .have m:∀q∈T,aB q∈T.map aB:=λq o=>apf o;have a1:=ju t (x:=lft x y c) λq o z=>R (z▸m q o);have N:=ju a1 (x:=rgt x y c) λq o z=>by
     rcases aou.mp o with o|o;.exact Y (z▸m q o)
     .rw[aoT.mp o]at z;exact alw x y c z
    rw[List.append_assoc]at N;exact N);rw[j7]at M;obtain⟨T,J,B,r,j,f,d,rfl,E,u,t,H⟩:=M (anP _);have P:a.take (2*4)=a:=List.take_of_length_le (by omega);rw[P]at e;exact⟨T,J,B,r,j,f,d,e,E,u,t,H⟩
def vT:SF:=pq (xOp oEq (bq ar 0 (aF (yP 0 (eC (.int 6))) bc)) (yP 0 (eC (.int 1)))) (aG (aW 13 (bq ar 0 (aF (yP 0 (eC (.int 8))) bc))) (aG (tq [9,10,11] (yP 0 (afV 5 (eOp tY (ai 5) (ai 13))))) (iR 5 (agI (aF (yP 0 (ai 9)) (aF (yP 0 (ai 10)) (aF (xOp oMod (xOp dq (yP 0 (eOp dq (ai 11) (eC (.int 1)))) (bq ar 0 (aF (yP 0 (eC (.int 3))) bc))) (yP 0 (eC (.int 4)))) bc)))) (yP 0 (ai 13))))) sNx
def abQ{T:List S3}(k:∀p∈T,Fac p)(m:bG T){j:Nat}(n:j<T.length){p:S3}(l:Fac p)(hs:aB p=aB (T.getD j (0,0,0))):(∀q∈T.set j p,Fac q)/\bG (T.set j p):=by
 refine⟨λq i=>?_,lr λa b f c=>?_⟩
 .rcases List.mem_or_eq_of_mem_set i with h|e;.exact k q h
  .rw[e];exact l
 .rw[ap0]at c;have g:∀d,d<T.length->aB ((T.set j p).getD d (0,0,0))=aB (T.getD d (0,0,0)):=λd o=>by
   by_cases e:j=d;.subst e;rw[anI,anH n];exact hs
   .rw[anI,anF e,<-anI]
  rw[g a (by omega),g b c];exact jH m f c
def ahR{n:Nat}{st:List W}(h:Rm n st)(hn:n<900000000){a:List Nat}(P:a.Perm (List.range 8)){T:List S3}(r:T.length=8)(t:∀p∈T,Fac p)(o:bG T)(O X G R Q B J U i m e:Sl):∃(q:List S3)(f:List W)(p9 x w u:Sl),vT [.ow st,O,X,G,R,.od (nW a) (T.map stW),Q,B,J,U,i,m,e,.no]=.nx [.ow f,O,X,G,R,.od (nW a) (q.map stW),Q,B,J,p9,x,w,e,u]/\q.length=8/\(∀p∈q,Fac p)/\bG q/\Rm (n+3) f:=by
 obtain⟨Y,s1,C,a1,b1,D⟩:=cp h (by omega) 6 (by decide) (by decide);by_cases M:Y=1
 .obtain⟨H,s2,e2,a2,b2,h2⟩:=cp D (by omega) 8 (by decide) (by decide);obtain⟨b,s3,e3,a3,b3,h3⟩:=cp h2 (by omega) 3 (by decide) (by decide);obtain⟨d,rfl⟩:∃d:Nat,H=d:=⟨H.toNat,by omega⟩;have N:d<8:=by omega
  have s:d∈a:=P.mem_iff.mpr (an1.mpr N);have g:a.length=8:=P.length_eq;have S:a.idxOf d<T.length:=by have:=aoK s;omega
  have y:=aea P r N;have hp:=lj t S;obtain⟨p,E⟩:∃p,T.getD (a.idxOf d) (0,0,0)=p:=⟨_,rfl⟩;rw[E]at y hp;have Z:Fac (p.1,p.2.1,(p.2.2+1+b)%4):=⟨by show 0<=(p.2.2+1+b)%4;omega,by show(p.2.2+1+b)%4<4;omega⟩;obtain⟨g1,g2⟩:=abQ t o S Z (by rw[E];rfl);have nd:a.Nodup:=P.nodup_iff.mpr apw;have c:=pY d a;rw[apa s]at c;have l:=vm (k:=d) (v:=stW (p.1,p.2.1,(p.2.2+1+b)%4)) a (T.map stW) nd (by simp[g,r]) s;have j:(nW a).length<1000000:=by simp[nW,g]
  have hk:sL (.int d)=true:=rfl;have I:∀A:Ws,putD 5 (nW a) (T.map stW) (.int d) (stW (p.1,p.2.1,(p.2.2+1+b)%4)) A=.nx (A.set 5 (.od (nW a) ((T.set (a.idxOf d) (p.1,p.2.1,(p.2.2+1+b)%4)).map stW))):=λA=>by unfold putD putK agi;rw[c,anL ⟨hk,j⟩,l,List.map_set];rfl
  refine⟨T.set (a.idxOf d) (p.1,p.2.1,(p.2.2+1+b)%4),s3,.va (.int p.1),.va (.int p.2.1),.va (.int p.2.2),.va (.int d),?_,by simp[r],g1,g2,h3.mono (by omega)⟩;subst M;have es:stW p=.tup [.int p.1,.int p.2.1,.int p.2.2]:=rfl;have z:stW (p.1,p.2.1,(p.2.2+1+b)%4)=.tup [.int p.1,.int p.2.1,.int ((p.2.2+1+b)%4)]:=rfl;rw[es]at y;rw[z]at I;generalize nW a=K at *;generalize(T.set (a.idxOf d) (p.1,p.2.1,(p.2.2+1+b)%4)).map stW=V' at *;generalize T.map stW=V at *;simp[vT,bR,aN,kE,gJ,jF,gD,cn,cO,yd,cG,bj,C,e2,e3,tq,sA2,sA3,y,iR,zm,I]
 .refine⟨T,s1,U,i,m,.no,?_,r,t,o,D.mono (by omega)⟩;generalize nW a=K at *;generalize T.map stW=V at *;simp[vT,bR,kE,gJ,jF,gD,cn,cO,cG,bj,C,M]
def acX{n:Nat}{st:List W}(h:Rm n st)(hn:n<700000000)(b:Int):∃f i,i9 st [.int b]=.ok (flW f,i)/\Fl f/\bG f/\Rm (n+60) i:=by
 obtain⟨a,B,S,D,p,M⟩:=og (.int b) [.no,.no,.no,.no,.no,.no,.no,.no,.no,.no,.no] 8 0 n st (List.range 8) .no rfl (by simp) h (by omega);have K:rng 0 8=(List.range 8).map λj:Nat=>W.int ((0+j:Nat):Int):=by simp[rng]
 rw[<-K]at D;obtain⟨d,s2,e2,a2,b2,Z⟩:=cp M (by omega) 8 (by decide) (by decide);obtain⟨e,C,e3,a3,N,U⟩:=cp Z (by omega) 4 (by decide) (by decide);have nd:a.Nodup:=p.nodup_iff.mpr apw;have u:a.length=8:=p.length_eq;obtain⟨T,I,y,z,m,l,c,P,hT,w,v,J⟩:=afP U (by omega) b e ⟨a3,N⟩ (decide (d=1)) (.ow (nW [])) a nd u;obtain⟨T',E,q9,t,q,x,G,o,k,g,O⟩:=ahR J (by omega) p hT w v (.va (.int b)) (.ow (nW [])) (.va (.lst (nW a))) (.va (.lst ((T.map aB).map spW))) (.va (.bl (decide (d=1)))) (.va (.int e)) y z m l c;obtain⟨G1,G2⟩:=adi p o k g;refine⟨byD a T',E,?_,G1,G2,O.mono (by omega)⟩;have Y:=aiL p o E (.va (.int b)) (.ow (nW [])) (.va (.lst (nW a))) (.va (.lst ((T.map aB).map spW))) (.va (.bl (decide (d=1)))) (.va (.int e)) y q9 t q c x;have split:fY=aG (zb 0 2 (lLR (eC (.int 8)))) (aG (qT 3 (yP 0 (eC (.int 8))) aez (yb 3 (bq ar 1 (aF (yP 1 (eOp jx (eC (.int 8)) (ai 0))) bc)))) (aG (aW 4 (yP 0 (iB aw))) (aG (qV 5) (aG (aW 6 (xOp oEq (bq ar 0 (aF (yP 0 (eC (.int 8))) bc)) (yP 0 (eC (.int 1))))) (aG (aW 7 (bq ar 0 (aF (yP 0 (eC (.int 4))) bc))) (aG (qW (yP 0 (eC (.int 4))) (au 8) bC) (aG vT (x4 5 (i2 0 (yP 0 (eBi ie (ae (fu 1 (gi (eC (.int 8))) (au 0) fE (eOp tY (ai 6) (ai 0))) aw)))))))))))):=rfl;have H:zb 0 2 (lLR (eC (.int 8))) [.ow st,.va (.int b),.no,.no,.no,.no,.no,.no,.no,.no,.no,.no,.no,.no]=.nx [.ow st,.va (.int b),.ow (nW (List.range 8)),.no,.no,.no,.no,.no,.no,.no,.no,.no,.no,.no]:=by
  have Q:rng 0 8=nW (List.range 8):=by simp[rng,nW]
  generalize nW (List.range 8)=L at *;simp[abU,lLR,Q,bj]
 have r:qT 3 (yP 0 (eC (.int 8))) aez (yb 3 (bq ar 1 (aF (yP 1 (eOp jx (eC (.int 8)) (ai 0))) bc))) [.ow st,.va (.int b),.ow (nW (List.range 8)),.no,.no,.no,.no,.no,.no,.no,.no,.no,.no,.no]=.nx [.ow B,.va (.int b),.ow (nW []),.va (.lst (nW a)),.no,.no,.no,.no,.no,.no,.no,.no,.no,.no]:=by have A:=abw (yP 0 (eC (.int 8))) aez (yb 3 (bq ar 1 (aF (yP 1 (eOp jx (eC (.int 8)) (ai 0))) bc))) [.ow st,.va (.int b),.ow (nW (List.range 8)),.no,.no,.no,.no,.no,.no,.no,.no,.no,.no,.no];generalize yb 3 (bq ar 1 (aF (yP 1 (eOp jx (eC (.int 8)) (ai 0))) bc))=X at *;generalize nW (List.range 8)=L at *;generalize nW []=L0 at *;generalize nW a=LO at *;simp[cG,lim,D]at A;simp[zc,A,bj]
 have s:∀R:SF,(aG (aW 4 (yP 0 (iB aw))) (aG (qV 5) (aG (aW 6 (xOp oEq (bq ar 0 (aF (yP 0 (eC (.int 8))) bc)) (yP 0 (eC (.int 1))))) (aG (aW 7 (bq ar 0 (aF (yP 0 (eC (.int 4))) bc))) R)))) [.ow B,.va (.int b),.ow (nW []),.va (.lst (nW a)),.no,.no,.no,.no,.no,.no,.no,.no,.no,.no]=R [.ow C,.va (.int b),.ow (nW []),.va (.lst (nW a)),.va (.lst []),.od [] [],.va (.bl (decide (d=1))),.va (.int e),.no,.no,.no,.no,.no,.no]:=λR=>by generalize nW []=L0 at *;generalize W.lst (nW a)=LO at *;simp[aN,kE,gJ,jF,gD,cn,cO,cG,bj,qV,e2,e3]
 have r4:qW (yP 0 (eC (.int 4))) (au 8) bC [.ow C,.va (.int b),.ow (nW []),.va (.lst (nW a)),.va (.lst []),.od [] [],.va (.bl (decide (d=1))),.va (.int e),.no,.no,.no,.no,.no,.no]=.nx [.ow I,.va (.int b),.ow (nW []),.va (.lst (nW a)),.va (.lst ((T.map aB).map spW)),.od (nW a) (T.map stW),.va (.bl (decide (d=1))),.va (.int e),y,z,m,l,c,.no]:=by rw[<-P];generalize nW []=L0 at *;generalize W.lst (nW a)=LO at *;simp[pw,cG,bj]
 show agn (fY [.ow st,.va (.int b),.no,.no,.no,.no,.no,.no,.no,.no,.no,.no,.no,.no])=_;rw[split,gX,H,f6,gX,r,f6,s,gX,r4,f6,gX,G,f6,Y,ib]
def aiN{n:Nat}{st:List W}(h:Rm n st)(l:n<900000000):∃(b:Int)(d:List W),ia st []=.ok (.int b,d)/\Rm (n+1) d:=by
 obtain⟨a,i,f,k,j,g⟩:=cp h (by omega) 5 (by decide) (by decide);obtain⟨b,c⟩:∃b:Int,oIx (.lst [.int 0,.int 0,.int 0,.int 185,.int (-185)]) (.int a)=.ok (.int b):=by
  have e:a=0\/a=1\/a=2\/a=3\/a=4:=by omega
  rcases e with h|h|h|h|h<;>rw[h]<;>simp
 refine⟨b,i,?_,g⟩;simp at c;simp[ia,i3,lJ,List.replicate,eu,kE,gJ,jF,gD,cn,cO,cG,bj,f,c,qZ,ib]
def abb(ns:List Int)(k:Int)(a:0<=k):bX [.lst (ns.map .int),.int k]=.ok (.int (ns.getD k.toNat 0)):=by obtain⟨n,rfl⟩:∃n:Nat,k=n:=⟨k.toNat,by omega⟩;by_cases h:n<ns.length<;>simp[bX,fZ,h,fw]
def ka3:bY [.str "left",.str "at",.str "cells"]=true:=by decide
def ae5(ns:List Int)(o:ns.length<=63):∃st,aej (eG [.lst (ns.map .int)])=some st/\Rm 0 st:=by
 have h:br (au 0) fE (eOp oMod (ai 0) (eC (.int 1000000007))) [.no,.va (.lst (ns.map .int)),.no] (ns.map .int)=.ok (ns.map λc=>.int (c%1000000007)):=bw λc _=>⟨_,rfl,rfl,by simp⟩;have i:ns.length<=1000000:=by omega
 have b:ns.length+1<=1000000:=by omega
 have d:bX [.lst (ns.map .int),.int 0]=.ok (.int (ns.getD 0 0)):=abb ns 0 (by decide);have f:bX [.lst (ns.map .int),.int 1]=.ok (.int (ns.getD 1 0)):=abb ns 1 (by decide);have j:∀l:List Int,gh (l.map .int)=true:=λl=>by induction l with|nil=>rfl|cons a l ih=>exact ih
 have e:∃l k:Int,eG [.lst (ns.map .int)]=.ok (.dic [.str "left",.str "at",.str "cells"] [.int l,.int k,.lst ((ns.map (.%1000000007)++[0]).map .int)])/\-1<=k/\k<=0:=by
  generalize hz:ns.getD 0 0=z0 at d;generalize hz:ns.getD 1 0=z1 at f;by_cases g:z0%2=0;.refine⟨if z1<0 then -z1 else z1,-1,?_,by decide,by decide⟩;simp[eG,ip,List.replicate,h,i,b,d,f,g,aaT,akv,ka3]
  .refine⟨0,0,?_,by decide,by decide⟩;simp[eG,ip,List.replicate,h,i,b,d,f,g,aaT,akv,ka3]
 obtain⟨l,k,e,m,n⟩:=e;refine⟨[.int l,.int k,.lst ((ns.map (.%1000000007)++[0]).map .int)],?_,l,k,_,rfl,by simp,by simp;omega,m,by omega⟩;rw[e];exact anL ⟨rfl,rfl,rfl,j _⟩
theorem two2_next{hs:Nat->Option Nat}:∀(n d:Nat),∀p∈two2 (el hs n d),hs p.1=some p.2
|0,d,p,h=>by cases h|1,d,p,h=>by unfold el at h;cases e:hs d with|none=>rw[e]at h;cases h|some k=>rw[e]at h;simp only[el,two2,anS,aoo,apU]at h;rw[h];exact e
|n+2,d,p,h=>by unfold el at h;cases e:hs d with|none=>rw[e]at h;cases h|some k=>rw[e]at h;simp only at h;unfold el at h;cases a:hs k with|none=>rw[a]at h;simp only[two2,anS,aoo,apU]at h;rw[h];exact e|some j=>
  rw[a]at h;simp only[two2,anS]at h;rcases h with h|h;.rw[h];exact e
  .exact two2_next n j p h
def afi{hs:Nat->Option Nat}{ps:List (Nat×Nat)}(h:pl hs (List.range 8) []=some ps):∀p∈ps,hs p.1=some p.2:=λp a=>by
 rw[ab3]at h;split at h;.rw[aqM]at h;cases h;obtain⟨l,b,a⟩:=List.mem_flatMap.mp a;obtain⟨d,_,rfl⟩:=aoD.mp b;exact two2_next 8 d p a
 .cases h
set_option tactic.hygienic true
def zu{f:List S3}(b:f.length=8)(a:bG f){ps:List (Nat×Nat)}(h:kc f=some ps):∀p∈ps,rhO f p.1=some p.2:=λp c=>by
 unfold kc at h;split at h
 .rename_i d e;split at h;.cases h;exact afi e p ((u7 (tF b a e).len).mem_iff.mp c)
  .cases h
 .cases h
set_option tactic.hygienic false
def abi(p:S3)(m n:Int):bsd (bsd p m) n=bsd p (m+n):=by
 obtain⟨x,y,c⟩:=p;by_cases b:c=0;.simp[bsd,sfp,b,Int.add_assoc]
 .by_cases d:c=1;.simp[bsd,sfp,d,Int.add_assoc]
  .by_cases a:c=2;.simp[bsd,sfp,a];omega
   .simp[bsd,sfp,b,d,a];omega
def al2(p:S3):bsd p 0=p:=by obtain⟨x,y,c⟩:=p;simp only[bsd,sfp];split<;>simp
def af5{p q:S3}(b:aB q=sfp p 0 2)(a:q.2.2=p.2.2):q=bsd p 2:=by obtain⟨x,y,c⟩:=q;simp only[aB]at b;simp only at a;unfold bsd;rw[<-b,a]
def ahF{f:List S3}{ps:List (Nat×Nat)}(G:Prs ps){i:Nat}(b:i<4):pJ f ps i=bsd (f.getD (prt ps i).1 (0,0,0)) 1:=by
 have a:i<ps.length:=by rw[G.len];exact b
 unfold pJ lh prt;rw[anI,an7,anI (l:=ps),anJ a];rfl
def zG{f:List S3}(c:f.length=8)(b:bG f){ps:List (Nat×Nat)}(h:kc f=some ps){i:Nat}(a:i<4):bsd (pJ f ps i) (-1)=f.getD (prt ps i).1 (0,0,0)/\bsd (pJ f ps i) 1=f.getD (prt ps i).2 (0,0,0):=by have G:=eM c b h;have r:=jq (zu c b h _ (pF G a));rw[ahF G a,abi,abi,af5 r.2.1 r.2.2];exact⟨al2 _,rfl⟩
def aiA(p:S3)(g:Go)(k n:Int):bsd (dH p (.go g k)) n=dH (bsd p n) (.go g k):=by
 obtain⟨x,y,c⟩:=p;by_cases b:c=0;.cases g<;>simp[bsd,sfp,dH,b]<;>omega
 .by_cases d:c=1;.cases g<;>simp[bsd,sfp,dH,d]<;>omega
  .by_cases a:c=2;.cases g<;>simp[bsd,sfp,dH,a]<;>omega
   .cases g<;>simp[bsd,sfp,dH,b,d,a]<;>omega
def cS(s:Stp):W:=.lst [.tup [.tup [],.tup [s.W]]]
def pI(P:W)(i:Int)(s:Stp):aS [P,.int i,cS s]=.ok (.tup [s.W]):=by have e:cS s=.lst [.tup [.tup [],.tup [s.W]]]:=rfl;rw[e];generalize s.W=S;simp[aS,bJ,List.replicate,dy,bx,mQ,mD,lim,alp,alr,alq,als,br,allB]
def wyM(f:List S3)(ps:List (Nat×Nat))(s:Stp)(i:Nat):List S3:=[pJ f ps i,dH (pJ f ps i) (wid s)]
def put2(f:List S3)(ps:List (Nat×Nat))(s:Stp)(t:List (List S3))(i:Nat):List (List S3):=(t.set (prt ps i).1 ((wyM f ps s i).map (bsd . (-1)))).set (prt ps i).2 ((wyM f ps s i).map (bsd . 1))
def tlF(f:List S3)(ps:List (Nat×Nat))(s:Stp)(n:Nat):List (List S3):=(List.range n).foldl (put2 f ps s) (List.replicate 8 [])
def oZ(f:List S3)(ps:List (Nat×Nat))(s:Stp)(n:Nat):tlF f ps s (n+1)=put2 f ps s (tlF f ps s n) n:=by unfold tlF;rw[List.range_succ,List.foldl_append];rfl
theorem iX(f:List S3)(ps:List (Nat×Nat))(s:Stp):∀n,(tlF f ps s n).length=8|0=>by simp[tlF]|n+1=>by rw[oZ];simp[put2,iX f ps s n]
def adF{f:List S3}{ps:List (Nat×Nat)}(G:Prs ps)(s:Stp){n:Nat}(c:n<4)(d:Nat):(tlF f ps s (n+1)).getD d []=if d=(prt ps n).2 then(wyM f ps s n).map (bsd . 1)else if d=(prt ps n).1 then(wyM f ps s n).map (bsd . (-1))else(tlF f ps s n).getD d []:=by
 have lt:=G.lt _ (pF G c);have len:=iX f ps s n;rw[oZ];unfold put2;by_cases a:d=(prt ps n).2;.rw[anL a];subst a;rw[anI,anH (by simp;omega)];rfl
 .rw[anK a,anI,anF λz=>a z.symm];by_cases b:d=(prt ps n).1;.rw[anL b];subst b;rw[anH (by omega)];rfl
  .rw[anK b,anF λz=>b z.symm,<-anI]
def Wy(f:List S3)(s:Stp)(d:Nat)(w:List S3):Prop:=∃x,w=[f.getD d (0,0,0),x]/\Fac x/\∀g k,s=.go g k->x=dH (f.getD d (0,0,0)) (wid s)
def aiz(g:Go)(k:Int):∃j,wid (.go g k)=.go g j:=by cases g<;>exact⟨_,rfl⟩
def ye{f:List S3}{ps:List (Nat×Nat)}{s:Stp}{i d:Nat}{n:Int}(b:Fac (pJ f ps i))(h:bsd (pJ f ps i) n=f.getD d (0,0,0)):Wy f s d ((wyM f ps s i).map (bsd . n)):=by
 refine⟨bsd (dH (pJ f ps i) (wid s)) n,?_,ql (gR _ _ b) n,λg k e=>?_⟩;.rw[<-h];rfl
 .obtain⟨j,a⟩:=aiz g k;rw[e,a,aiA,h]
theorem adG{f:List S3}(g:f.length=8)(k:∀p∈f,Fac p)(j:bG f){ps:List (Nat×Nat)}(h:kc f=some ps)(s:Stp):∀n,n<=4->∀d,(∀i,i<n->d≠(prt ps i).1/\d≠(prt ps i).2)/\(tlF f ps s n).getD d []=[]\/Wy f s d ((tlF f ps s n).getD d [])
|0,_,d=>.inl ⟨λi m=>absurd m (aoG _),by
   unfold tlF;rw[anI];rcases aqA d 8 with z|z;.rw[show(List.range 0).foldl (put2 f ps s) (List.replicate 8 [])=List.replicate 8 ([]:List S3)from rfl,aor,anL z];rfl
   .rw[show(List.range 0).foldl (put2 f ps s) (List.replicate 8 [])=List.replicate 8 ([]:List S3)from rfl,aor,anK (by omega)];rfl⟩|n+1,hn,d=>by
  have G:=eM g j h;have q:=adG g k j h s n (by omega) d;have o:=zG g j h (i:=n) (by omega);have l:=tL g k G (i:=n) (by omega);rw[adF G s (by omega)];by_cases c:d=(prt ps n).2;.rw[anL c,c];exact .inr (ye l o.2)
  .rw[anK c];by_cases e:d=(prt ps n).1;.rw[anL e,e];exact .inr (ye l o.1)
   .rw[anK e];rcases q with⟨a,b⟩|b
    .refine .inl ⟨λi m=>?_,b⟩;rcases aqA i n with z|z;.exact a i z
     .have:i=n:=by omega
      subst this;exact⟨e,c⟩
    .exact .inr b
def ag1{f:List S3}(j:f.length=8)(l:∀p∈f,Fac p)(c:bG f){ps:List (Nat×Nat)}(h:kc f=some ps)(s:Stp){d:Nat}(k:d<8):Wy f s d ((tlF f ps s 4).getD d []):=by
 rcases adG j l c h s 4 (anP _) d with⟨a,_⟩|b
 .have G:=eM j c h;obtain⟨p,m,e⟩:=G.all d k;obtain⟨i,g,rfl⟩:=ape m;have n:prt ps i=ps[i]:=by unfold prt;rw[anI,anJ g];rfl
  have:=a i (by rw[<-G.len];exact g);rw[n]at this;rcases e with e|e;.exact absurd e this.1
  .exact absurd e this.2
 .exact b
def Tw(f:List S3)(T:List (List S3)):Prop:=T.length=8/\∀d,d<8->∃x,T.getD d []=[f.getD d (0,0,0),x]/\Fac x
def aeM{f:List S3}(g:f.length=8)(i:∀p∈f,Fac p)(e:bG f){ps:List (Nat×Nat)}(h:kc f=some ps)(s:Stp):Tw f (tlF f ps s 4):=⟨iX f ps s 4,λd c=>by obtain⟨x,a,b,_⟩:=ag1 g i e h s c;exact⟨x,a,b⟩⟩
def tw_mem{f:List S3}(h:f.length=8)(g:∀p∈f,Fac p){T:List (List S3)}(H:Tw f T):∀w∈T,∃p x,w=[p,x]/\Fac p/\Fac x:=λw hw=>by
 obtain⟨d,e,rfl⟩:=ape hw;have c:d<8:=by rw[<-H.1];exact e
 obtain⟨x,a,b⟩:=H.2 d c;rw[anI,anJ e]at a;exact⟨_,x,a,lj g (by omega),b⟩
def aki{f:List S3}(i:f.length=8)(m:∀p∈f,Fac p)(l:bG f){ps:List (Nat×Nat)}(h:kc f=some ps)(g:Go)(k:Int):tlF f ps (.go g k) 4=f.map λp=>[p,dH p (wid (.go g k))]:=by
 refine aqF (by rw[iX,an0,i]) λd b n=>?_;have j:d<8:=by rw[iX]at b;exact b
 obtain⟨x,a,_,c⟩:=ag1 i m l h (.go g k) j;rw[c g k rfl,anI,anJ b]at a;rw[List.getElem_map];have e:f.getD d (0,0,0)=f[d]:=by rw[anI,anJ (by omega)];rfl
 rw[e]at a;exact a
def wyR(T:List (List S3)):Res W:=match abt 0 T with|some d=>.ex (exN "Out" d)|none=>cb [.lst ((T.map gG).map stW)]
def ac8(f:List S3)(d:f.length=8)(v:∀p∈f,Fac p)(ps:List (Nat×Nat))(G:Prs ps)(s:Stp)(FL C:W)(j:W)(i:Nat)(h:i<4)(c:oIx j (.int i)=.ok (.tup [s.W]))(t:List (List S3))(r:t.length=8)(D:Sl):∃I,ba [.va FL,.va C,.va (PF f ps),.va j,.ow (t.map eU),.va (.int i),.va (prW (prt ps i)),D]=.nx [.va FL,.va C,.va (PF f ps),.va j,.ow ((put2 f ps s t i).map eU),.va (.int i),.va (prW (prt ps i)),I]:=by
 have g:i<(lh f ps).length:=by simp[lh,G.len,h]
 have m:=tL d v G h;have b:=vJ (f:=lh f ps) (S:=.lst ((lh f ps).map stW)) (.inr rfl) g;have b:oIx (.lst ((lh f ps).map stW)) (.int i)=.ok (stW (pJ f ps i)):=b;have K:=anm f ps;have e:=λA=>abD (some [s]) A;have k:=aeH (pJ f ps i) m (some [wid s]) λl d=>by cases d;exact by simp
 have k:cR [stW (pJ f ps i),.lst [(wid s).W]]=.ok (.lst ((wyM f ps s i).map stW)):=k;have n:∀p∈wyM f ps s i,Fac p:=zI (some [wid s]) _ m;have B:=λA=>wm (wyM f ps s i) n (-1) (eUn ni (eC (.int 1))) (λσ=>rfl) A;have H:=λA=>wm (wyM f ps s i) n 1 (eC (.int 1)) (λσ=>rfl) A;have lt:=G.lt _ (pF G h);have o:oIx (prW (prt ps i)) (.int 0)=.ok (.int (prt ps i).1):=rfl;have u:oIx (prW (prt ps i)) (.int 1)=.ok (.int (prt ps i).2):=rfl;have M:((wyM f ps s i).map stW).length<=1000000:=by simp[wyM]
 have z:(put2 f ps s t i).map eU=((t.map eU).set (prt ps i).1 (.lst (((wyM f ps s i).map (bsd . (-1))).map stW))).set (prt ps i).2 (.lst (((wyM f ps s i).map (bsd . 1)).map stW)):=by simp[put2,List.map_set,eU]
 have N:(t.map eU).length=8:=by simp[r]
 have e:∀A,br (au 0) fE (aJ eQ (ae (ai 0) aw)) (.no::A) [s.W]=.ok [(wid s).W]:=e;rw[z];generalize PF f ps=P at *;generalize W.lst ((lh f ps).map stW)=MS at *;generalize pJ f ps i=q at *;generalize((wyM f ps s i).map (bsd . (-1))).map stW=B1 at *;generalize((wyM f ps s i).map (bsd . 1)).map stW=B2 at *;generalize(wyM f ps s i).map stW=WY at *;generalize(wid s).W=WS at *;generalize s.W=SL at *;generalize t.map eU=T at *;generalize prW (prt ps i)=PR at *;generalize(prt ps i).1=x at *;generalize(prt ps i).2=y at *;refine⟨.va (.lst WY),?_⟩;have E:∀(σ:Ws)(w:W),aeR σ 4 T w (.ok (.int x))=.ok (σ.set 4 (.ow (T.set x w))):=λσ w=>by have:=uZ σ 4 T w x (by omega) (by omega);simpa using this
 have J:∀(σ:Ws)(w a:W),aeR σ 4 (T.set x a) w (.ok (.int y))=.ok (σ.set 4 (.ow ((T.set x a).set y w))):=λσ w a=>by have:=uZ σ 4 (T.set x a) w y (by omega) (by simp;omega);simpa using this
 simp[ba,qd,K,b,c,e,k,B,H,M,o,u,List.replicate,E,J]
def ac7(f:List S3)(u:f.length=8)(q:∀p∈f,Fac p)(ps:List (Nat×Nat))(G:Prs ps)(s:Stp)(FL C:W)(c:W)(n:∀i:Nat,i<4->oIx c (.int i)=.ok (.tup [s.W])):∃d j a,forL (k7 (bu (au 5) (bu (au 6) kN))) ba (dY 0 (ps.map prW)) [.va FL,.va C,.va (PF f ps),.va c,.ow ((List.replicate 8 []).map eU),.no,.no,.no]=.nx [.va FL,.va C,.va (PF f ps),.va c,.ow ((tlF f ps s 4).map eU),d,j,a]:=by
 obtain⟨l,e,h⟩:=kq (g:=k7 (bu (au 5) (bu (au 6) kN))) (b:=ba) (xs:=dY 0 (ps.map prW)) (λi l=>∃d j a,l=[.va FL,.va C,.va (PF f ps),.va c,.ow ((tlF f ps s i).map eU),d,j,a]) (σ:=[.va FL,.va C,.va (PF f ps),.va c,.ow ((List.replicate 8 []).map eU),.no,.no,.no]) ⟨_,_,_,rfl⟩ (by
 rintro i w σ hw⟨d,j,a,rfl⟩;obtain⟨y,m,rfl⟩:=rZ _ 0 i w hw;have o:i<4:=by have:=(anM.mp m).1;simpa[G.len]using this
 have r:y=prW (prt ps i):=by
  rw[an7]at m;have k:i<ps.length:=by rw[G.len];exact o
  rw[anJ k]at m;unfold prt;rw[anI,anJ k];exact(an3 m).symm
 subst r;rw[aqE];obtain⟨v,t⟩:=ac8 f u q ps G s FL C c i o (n i o) (tlF f ps s i) (iX f ps s i) a;refine⟨[.va FL,.va C,.va (PF f ps),.va c,.ow ((tlF f ps s i).map eU),.va (.int i),.va (prW (prt ps i)),a],?_,_,t,?_⟩;.generalize PF f ps=P at *;generalize prW (prt ps i)=Q at *;simp
 .exact⟨_,_,_,by rw[oZ]⟩);rw[rY,an0,G.len]at h;obtain⟨d,j,a,rfl⟩:=h;exact⟨d,j,a,e⟩
def v9(f:List S3)(o:f.length=8)(q:∀p∈f,Fac p)(n:bG f)(s:Stp):bb [flW f,cS s]=match kc f with|none=>.ex (.exc "NoPairs" [])|some ps=>wyR (tlF f ps s 4):=by have l:=zF f o q n;cases e:kc f with|none=>rw[e]at l;simp only at l;generalize flW f=FL at *;generalize cS s=C at *;simp[bb,bI,List.replicate,oz,l]|some ps=>
 rw[e]at l;simp only at l⊢;have G:=eM o n e;have v:=anl f ps;have D:=ano f ps;have j:br (au 0) fE (oy "PairedFloor" aS (ai 3) (ae (ai 0) (ae (ai 2) aw))) [.no,.va (flW f),.va (cS s),.va (PF f ps),.no,.no,.no,.no,.no] (rng 0 4)=.ok ((List.range 4).map λ_=>.tup [s.W]):=bw λi H=>⟨_,rfl,rfl,by have h:=pI (PF f ps) (i:Nat) s;generalize PF f ps=P at *;generalize cS s=C at *;generalize s.W=Z at *;simp[aaR,v,h]⟩;have B:(ps.map prW).length=4:=by rw[an0,G.len]
 have x:∀i:Nat,i<4->oIx (.lst ((List.range 4).map λ_=>.tup [s.W])) (.int i)=.ok (.tup [s.W]):=λi H=>by rw[g7,fw,an7,aoL H];rfl
 obtain⟨Q,N,O,c⟩:=ac7 f o q ps G s (flW f) (cS s) _ x;have z:=aeM o q n e s;have u:=tw_mem o q z;have m:=ot (tlF f ps s 4) (λw hw p E=>by
  obtain⟨a,b,rfl,n,K⟩:=u w hw;simp at E;rcases E with rfl|rfl;.exact n
  .exact K) λw hw=>by obtain⟨a,b,rfl,_⟩:=u w hw;simp (by rw[z.1];decide);have y:=λA=>oo A (tlF f ps s 4) λw hw=>by obtain⟨a,b,rfl,_⟩:=u w hw;exact List.cons_ne_nil _ _
 have J:((tlF f ps s 4).map eU).length<=1000000:=by rw[an0,z.1];decide
 have M:(List.replicate 8 ([]:List S3)).map eU=List.replicate 8 (.lst []):=by simp[eU]
 rw[M]at c;have k:∀A:List Sl,br (au 0) fE (iB aw) (.no::A) (rng 0 8)=.ok (List.replicate 8 (.lst [])):=λA=>by have:=bw (g:=au 0) (t:=fE) (e:=iB aw) (σ:=.no::A) (emb:=λi:Nat=>W.int (0+(i:Nat))) (f:=λ_=>W.lst []) (xs:=List.range 8) λi _=>⟨_,rfl,rfl,rfl⟩;exact this
 unfold oU at m;unfold wyR;have k:=k [.va (flW f),.va (cS s),.va (PF f ps),.va (.lst ((List.range 4).map λ_=>.tup [s.W])),.no,.no,.no,.no];generalize PF f ps=P at *;generalize flW f=FL at *;generalize cS s=C at *;generalize ps.map prW=PS at *;generalize(List.range 4).map (λ_=>W.tup [s.W])=SS at *;cases I:abt 0 (tlF f ps s 4)with|some d=>rw[I]at m;simp only at m⊢;generalize(tlF f ps s 4).map eU=TL at *;generalize exN "Out" d=X at *;simp[bb,bI,List.replicate,oz,l,v,qd,D,B,mQ,mD,lim,alp,alr,alq,als,j,cN,k];simp[List.replicate]at c;simp[c,j6,m]|none=>rw[I]at m;simp only at m⊢;generalize((tlF f ps s 4).map gG).map stW=LS at *;generalize(tlF f ps s 4).map eU=TL at *;simp[bb,bI,List.replicate,oz,l,v,qd,D,B,mQ,mD,lim,alp,alr,alq,als,j,cN,k];simp[List.replicate]at c;simp[c,j6,m,J,y];generalize cb [.lst LS]=r;cases r<;>rfl
def tw(F D:W)(s:Stp):iy [F,D,cS s]=.ok (.int 0):=by have e:cS s=.lst [.tup [.tup [],.tup [s.W]]]:=rfl;rw[e];generalize s.W=S;simp[iy,jT,List.replicate,dy,dY,hG,br,allB]
def sY(F D:W)(s:Stp):fK [F,D,cS s,.non]=.ok (.tup [s.W]):=by have h:=tw F D s;have e:cS s=.lst [.tup [.tup [],.tup [s.W]]]:=rfl;rw[e]at h⊢;generalize s.W=S at *;simp[fK,jS,List.replicate,h,nr]
def aaZ(f:List S3)(g:f.length=8)(o:∀p∈f,Fac p)(s:Stp):iA [flW f,cS s,.non]=wyR (f.map λp=>[p,dH p s]):=by
 have e:br (au 0) fE (aJ fK (ae (ai 1) (ae (ai 0) (ae (ai 2) (ae (ai 3) aw))))) [.no,.va (flW f),.va (cS s),.va .non,.no] (rng 0 8)=.ok ((List.range 8).map λ_=>.tup [s.W]):=bw λi y=>⟨_,rfl,rfl,by have h:=sY (flW f) (.int (i:Nat)) s;generalize flW f=FL at *;generalize cS s=C at *;generalize s.W=Z at *;simp[h]⟩;have b:br (au 0) fE (aJ cR (ae (eOp oIx (ai 1) (ai 0)) (ae (eOp oIx (ai 4) (ai 0)) aw))) [.no,.va (flW f),.va (cS s),.va .non,.va (.lst ((List.range 8).map λ_=>.tup [s.W]))] (rng 0 8)=.ok ((List.range 8).map λd=>eU [f.getD d (0,0,0),dH (f.getD d (0,0,0)) s]):=bw λi y=>⟨_,rfl,rfl,by
   have n:=an1.mp y;have x:=p5 (f:=f) (k:=i) (by omega);have m:oIx (.lst ((List.range 8).map λ_=>.tup [s.W])) (.int i)=.ok (.tup [s.W]):=by rw[g7,fw,an7,aoL n];rfl
   have u:=yw (f.getD i (0,0,0)) (lj o (by omega)) (some [s]) λl g=>by cases g;exact by simp
   have u:cR [stW (f.getD i (0,0,0)),.tup [s.W]]=.ok (eU [f.getD i (0,0,0),dH (f.getD i (0,0,0)) s]):=u;rw[ap5];generalize flW f=FL at *;generalize eU [f.getD i (0,0,0),dH (f.getD i (0,0,0)) s]=Y at *;generalize W.lst ((List.range 8).map λ_=>.tup [s.W])=L at *;generalize s.W=Z at *;generalize stW (f.getD i (0,0,0))=X at *;simp[x,m,u]⟩;have E:((List.range 8).map λd=>eU [f.getD d (0,0,0),dH (f.getD d (0,0,0)) s])=(f.map λp=>[p,dH p s]).map eU:=by
  rw[aoM];refine aqF (by simp[g]) λd x m=>?_;have D:d<f.length:=by simpa using m
  simp[anI,anJ D]
 rw[E]at b;have j:∀w∈f.map λp=>[p,dH p s],∃p,p∈f/\w=[p,dH p s]:=λw hw=>by obtain⟨p,c,rfl⟩:=aoD.mp hw;exact⟨p,c,rfl⟩
 have a:=ot (f.map λp=>[p,dH p s]) (λw hw q v=>by
  obtain⟨p,c,rfl⟩:=j w hw;simp at v;rcases v with rfl|rfl;.exact o _ c
  .exact gR _ _ (o _ c)) λw hw=>by obtain⟨p,c,rfl⟩:=j w hw;simp (by rw[an0,g];decide);have t:=λA=>oo A (f.map λp=>[p,dH p s]) λw hw=>by obtain⟨p,c,rfl⟩:=j w hw;exact List.cons_ne_nil _ _
 have B:((f.map λp=>[p,dH p s]).map eU).length<=1000000:=by rw[an0,an0,g];decide
 unfold oU at a;unfold wyR;generalize(f.map λp=>[p,dH p s])=T at *;generalize flW f=FL at *;generalize cS s=C at *;generalize(List.range 8).map (λ_=>W.tup [s.W])=SS at *;cases z:abt 0 T with|some d=>rw[z]at a;simp only at a⊢;generalize T.map eU=TL at *;generalize exN "Out" d=X at *;simp[iA,la,vU,uX,List.replicate,cN,e,b,a]|none=>rw[z]at a;simp only at a⊢;generalize(T.map gG).map stW=LS at *;generalize T.map eU=TL at *;simp[iA,la,vU,uX,List.replicate,cN,e,b,a,B,t];generalize cb [.lst LS]=r;cases r<;>rfl
inductive Oc where|nop|out(d:Nat)|meet(i j:Nat)|ok(g:List S3)
def Oc.res:Oc->Res W|.nop=>.ex (.exc "NoPairs" [])|.out d=>.ex (exN "Out" d)|.meet i j=>.ex (.exc "Meet" [.int i,.int j])|.ok g=>.ok (flW g)
def Oc.due:Oc->W|.nop=>.lst [.str "NoPairs"]|.out d=>.lst [.str "Out",.int d]|.meet i j=>.lst [.str "Meet",.int i,.int j]|.ok g=>flW g
def Oc.Good:Oc->Prop|.ok g=>Fl g/\bG g|_=>True
def adE(f C:W)(o:Oc)(h:bb [f,C]=o.res):bA [f,C]=.ok o.due:=by cases o with|ok g=>simp only[Oc.res]at h;simp[bA,eE,List.replicate,cZ,h,Oc.due,x3]|nop=>have k:=(mX 0).2.2.2;simp only[Oc.res]at h;simp[bA,eE,List.replicate,cZ,h,Oc.due,x3,dU,eg,nG,k,qo]|out d=>have k:=(mX d).2.1;simp only[Oc.res]at h;simp[exN]at k h;simp[bA,eE,List.replicate,cZ,h,Oc.due,x3,dU,eg,nG,k,qo]|meet i j=>have k:=(mX i).2.2.1 j;simp only[Oc.res]at h;simp[bA,eE,List.replicate,cZ,h,Oc.due,x3,dU,eg,nG,k,qo]
def abT(o:Oc):aI 3 [o.due,o.due]=.ok (.bl true):=by cases o with|ok g=>exact(jl 2 _ λx a=>by obtain⟨p,_,rfl⟩:=aoD.mp a;exact ae0 0 p).2|nop=>exact(jl 2 _ λx a=>by simp at a;subst a;exact same_str 1 _).1|out d=>exact y9 1 _ d|meet i j=>exact(jl 2 _ λx a=>by
  simp at a;rcases a with rfl|rfl|rfl;.exact same_str 1 _
  .exact same_int 1 _
  .exact same_int 1 _).1
def afL(o:Oc):bF [o.due,.ty "tuple"]=.ok (.bl (match o with|.ok _=>true|_=>false)):=by cases o<;>rfl
noncomputable def outF:Nat->List S3->Option Nat|_,[]=>none|k,p::f=>if inB p then outF (k+1) f else some k
theorem ahG:∀(T:List (List S3))(k:Nat),(∀w∈T,∃p x,w=[p,x])->abt k T=outF k (T.map gG)|[],_,_=>rfl|w::T,k,h=>by obtain⟨p,x,rfl⟩:=h w an2;have a:=ahG T (k+1) λw hw=>h w (anU _ hw);show(if(([p,x]:List S3).drop 1).all inB=true then abt (k+1) T else some k)=if inB x=true then outF (k+1) (T.map gG)else some k;rw[a];simp
theorem vx:∀(f:List S3)(k i:Nat),i<f.length->inB (f.getD i (0,0,0))=false->(∀j,j<i->inB (f.getD j (0,0,0))=true)->outF k f=some (k+i)|[],_,_,h,_,_=>absurd h (aoG _)|p::f,k,0,_,h,_=>by have h:inB p=false:=h;simp[outF,h]|p::f,k,i+1,hi,h,hj=>by have b:inB p=true:=hj 0 (Nat.succ_pos _);have a:=vx f (k+1) i (by simpa using hi) h λj z=>hj (j+1) (by omega);simp only[outF,b,apk];rw[a];congr 1;omega
theorem rj:∀(f:List S3)(k:Nat),(∀i,i<f.length->inB (f.getD i (0,0,0))=true)->outF k f=none|[],_,_=>rfl|p::f,k,h=>by have b:inB p=true:=h 0 (by simp);have a:=rj f (k+1) λi c=>h (i+1) (by simpa using c);simp only[outF,b,apk];exact a
def aiM(p:S3):∃M:Int,uH [.int (if p.1<0 then -p.1 else p.1),.int (if p.2.1<0 then -p.2.1 else p.2.1)]=.ok (.int M)/\decide (M>200)=!inB p:=by refine⟨_,rfl,?_⟩;rw[aof];unfold inB;simp;split<;>split<;>(try split)<;>omega
def afz(f:List S3)(C:f.length=8):(∃c,forL (au 1) cW (rng 0 8) [.va (flW f),.no,.no]=.nx [.va (flW f),c,.no]/\outF 0 f=none)\/∃d,forL (au 1) cW (rng 0 8) [.va (flW f),.no,.no]=.rt (Oc.out d).due/\outF 0 f=some d:=by
 have h:=ko (g:=au 1) (b:=cW) (xs:=rng 0 8) (σ:=[.va (flW f),.no,.no]) (λi m=>(∃c,m=[.va (flW f),c,.no])/\∀j,j<i->inB (f.getD j (0,0,0))=true) (λi w=>∃d,w=(Oc.out d).due/\outF 0 f=some d) ⟨⟨_,rfl⟩,λj h=>absurd h (aoG _)⟩ (by
   rintro i x σ v⟨⟨c,rfl⟩,l⟩;obtain⟨y,rfl⟩:=l7 v;refine⟨_,rfl,?_⟩;have q:=p5 (f:=f) (k:=i) (by omega);obtain⟨M,s,a⟩:=aiM (f.getD i (0,0,0));have A:(0:Int)+(i:Nat)=((i:Nat):Int):=by omega
   have r:oIx (stW (f.getD i (0,0,0))) (.int 0)=.ok (.int (f.getD i (0,0,0)).1):=rfl;have t:oIx (stW (f.getD i (0,0,0))) (.int 1)=.ok (.int (f.getD i (0,0,0)).2.1):=rfl;rw[A];cases o:inB (f.getD i (0,0,0))with
 |true=>
    rw[o]at a;have a:¬200<M:=by simpa using a
    refine .inl ⟨[.va (flW f),.va (.int i),.no],?_,⟨_,rfl⟩,λj B=>?_⟩;.generalize flW f=FL at *;generalize f.getD i (0,0,0)=p at *;generalize stW p=S at *;simp only[cW,vj,abO,vW,aeh,jO,m6,mP,aiY,aoI,aoH,aiB,aiC,mI,ja,q,r,t,wo,s,afu,uV,g6,a,iD];simp[a]
    .rcases aqA j i with z|z;.exact l j z
     .have:j=i:=by omega
      rw[this];exact o|false=>
    rw[o]at a;have a:200<M:=by simpa using a
    refine .inr ⟨(Oc.out i).due,?_,i,rfl,?_⟩;.show _=Out.rt (W.lst [.str "Out",.int i]);generalize flW f=FL at *;generalize f.getD i (0,0,0)=p at *;generalize stW p=S at *;simp only[cW,vj,abO,vW,aeh,jO,m6,mP,aiY,aoI,aoH,aiB,aiC,mI,ja,q,r,t,wo,s,uV,g6,iD];simp[a]
    .have:=vx f 0 i (by omega) o l;rw[this,aqE]);rcases h with⟨m,e,⟨c,rfl⟩,n⟩|⟨i,w,_,e,d,rfl,u⟩;.exact .inl ⟨c,e,rj f 0 λi y=>n i (by simp[rng];omega)⟩
 .exact .inr ⟨d,e,u⟩
def afy(f:List S3)(S:f.length=8)(o:Sl):∃c,forL (au 1) bT (rng 0 8) [.va (flW f),o,.no]=.nx c/\(∃u d,c=[.va (flW f),u,d])/\bG f\/∃i j,forL (au 1) bT (rng 0 8) [.va (flW f),o,.no]=.rt (Oc.meet i j).due/\Met f (.tup [.int i,.int j]):=by
 have h:=ko (g:=au 1) (b:=bT) (xs:=rng 0 8) (σ:=[.va (flW f),o,.no]) (λi c=>(∃u d,c=[.va (flW f),u,d])/\∀a b,a<i->a<b->b<f.length->aB (f.getD a (0,0,0))≠aB (f.getD b (0,0,0))) (λ_ w=>∃i j,w=(Oc.meet i j).due/\Met f (.tup [.int i,.int j])) ⟨⟨_,_,rfl⟩,λa b h=>absurd h (aoG _)⟩ (by
   rintro i x σ A⟨⟨u,d,rfl⟩,t⟩;obtain⟨T,rfl⟩:=l7 A;refine⟨_,rfl,?_⟩;have P:(0:Int)+(i:Nat)=((i:Nat):Int):=by omega
   rw[P];have m:=ko (g:=au 2) (b:=cq) (xs:=rng ((i:Int)+1) (8-(i+1))) (σ:=[.va (flW f),.va (.int i),d]) (λj c=>(∃d,c=[.va (flW f),.va (.int i),d])/\∀b,i<b->b<i+1+j->aB (f.getD i (0,0,0))≠aB (f.getD b (0,0,0))) (λ_ w=>∃i j,w=(Oc.meet i j).due/\Met f (.tup [.int i,.int j])) ⟨⟨_,rfl⟩,λb n r=>absurd r (by omega)⟩ (by
     rintro j x σ A⟨⟨d,rfl⟩,m⟩;obtain⟨R,rfl⟩:=l7 A;refine⟨_,rfl,?_⟩;have D:=p5 (f:=f) (k:=i) (by omega);have Q:=p5 (f:=f) (k:=i+1+j) (by omega);have O:(i:Int)+1+(j:Nat)=((i+1+j:Nat):Int):=by omega
     rw[O];have z:cq [.va (flW f),.va (.int i),.va (.int ((i+1+j:Nat):Int))]=if aB (f.getD i (0,0,0))=aB (f.getD (i+1+j) (0,0,0))then .rt (Oc.meet i (i+1+j)).due else .nx [.va (flW f),.va (.int i),.va (.int ((i+1+j:Nat):Int))]:=by
      show _=if _ then Out.rt (W.lst [.str "Meet",.int i,.int ((i+1+j:Nat):Int)])else _;generalize flW f=FL at *;generalize f.getD i (0,0,0)=p at *;generalize f.getD (i+1+j) (0,0,0)=q at *;generalize((i+1+j:Nat):Int)=J at *;have I:∀p:S3,cut [W.int p.1,.int p.2.1,.int p.2.2] none (some 2)=[.int p.1,.int p.2.1]:=λp=>rfl;have M:¬(sIx 3 0 none=0/\sIx 3 3 (some 2)=3):=by decide
      have y:=zS (aB p) (aB q);by_cases h:aB p=aB q<;>simp[cq,D,Q,stW,I,h]<;>simp[h,spW]at y<;>simp[aB]at h y⊢<;>simp[h,y,M]
     show(∃s,cq [.va (flW f),.va (.int i),.va (.int ((i+1+j:Nat):Int))]=.nx s/\_)\/∃w,cq [.va (flW f),.va (.int i),.va (.int ((i+1+j:Nat):Int))]=.rt w/\_;rw[z];by_cases h:aB (f.getD i (0,0,0))=aB (f.getD (i+1+j) (0,0,0));.rw[anL h];exact .inr ⟨_,rfl,i,i+1+j,rfl,Met.two i (i+1+j) (by omega) (by omega) h (λa b=>t a b) λb n r=>m b n r⟩
     .rw[anK h];refine .inl ⟨_,rfl,⟨_,rfl⟩,λb n r=>?_⟩;by_cases B:b<i+1+j;.exact m b n B
      .have:b=i+1+j:=by omega
       rw[this];exact h);have B:bT [.va (flW f),.va (.int i),d]=forL (au 2) cq (rng ((i:Int)+1) (8-(i+1))) [.va (flW f),.va (.int i),d]:=by
    have K:(i:Int)+1<4611686018427387904:=by omega
    have C:-4611686018427387904<=(i:Int)+1:=by omega
    have H:((8:Int)-((i:Int)+1)).toNat=8-(i+1):=by omega
    simp[bT,K,C,H]
   show(∃s,bT [.va (flW f),.va (.int i),d]=.nx s/\_)\/∃w,bT [.va (flW f),.va (.int i),d]=.rt w/\_;rw[B];rcases m with⟨c,e,⟨N,rfl⟩,l⟩|⟨j,w,_,e,v⟩
   .refine .inl ⟨_,e,⟨_,_,rfl⟩,λa b n r G=>?_⟩;by_cases E:a<i;.exact t a b E r G
    .have:a=i:=by omega
     subst this;exact l b r (by simp[rng];omega)
   .exact .inr ⟨w,e,v⟩);rcases h with⟨c,e,n,l⟩|⟨i,w,_,e,a,b,rfl,v⟩;.exact⟨c,.inl ⟨e,n,lr λa b n r=>l a b (by simp[rng];omega) n r⟩⟩
 .exact⟨[],.inr ⟨a,b,e,v⟩⟩
def afG{f:List S3}(c:f.length=8)(d:∀p∈f,Fac p){T:List (List S3)}(H:Tw f T):Fl (T.map gG):=⟨by rw[an0,H.1],λp e=>by obtain⟨w,hw,rfl⟩:=aoD.mp e;obtain⟨a,b,rfl,_,h⟩:=tw_mem c d H w hw;exact h⟩
def am8{f:List S3}(n:f.length=8)(m:∀p∈f,Fac p){T:List (List S3)}(H:Tw f T):∃o:Oc,wyR T=o.res/\o.Good/\dz [flW (T.map gG)]=.ok o.due:=by
 have F:=afG n m H;have s:=ahG T 0 λw hw=>by obtain⟨a,b,h,_⟩:=tw_mem n m H w hw;exact⟨a,b,h⟩
 unfold wyR;rw[s];generalize T.map gG=g at *;rcases afz g F.len with⟨q,e,k⟩|⟨d,e,k⟩
 .rw[k];obtain⟨t,c⟩:=afy g F.len q;rcases c with⟨l,⟨r,u,rfl⟩,c⟩|⟨i,j,l,c⟩;.refine⟨.ok g,ug g (by rw[F.len];decide) _ (.inr rfl) c,⟨F,c⟩,?_⟩;show _=Res.ok (flW g);generalize flW g=G at *;simp[dz,gO,List.replicate,e,l]
  .refine⟨.meet i j,p0 g (by rw[F.len];decide) i j c _ (.inr rfl),trivial,?_⟩;generalize flW g=G at *;generalize(Oc.meet i j).due=D at *;simp[dz,gO,List.replicate,e,l]
 .rw[k];refine⟨.out d,rfl,trivial,?_⟩;generalize flW g=G at *;generalize(Oc.out d).due=D at *;simp[dz,gO,List.replicate,e]
theorem vO(d k:Nat)(v:W):∀(l:List Nat)(us:List W),l.length=us.length->fP (.int d) (nW l) (jE (.int k) v (nW l) us)=if d=k/\k∈l then some v else fP (.int d) (nW l) us
|[],us,_=>by simp[nW,jE,fP]|a::l,[],h=>by cases h|a::l,u::us,h=>by
  have c:=vO d k v l us (by simpa using h);show(if hR (.int a) (.int d)=true then some (if hR (.int a) (.int k)=true then v else u)else fP (.int d) (nW l) (jE (.int k) v (nW l) us))=if _ then some v else if hR (.int a) (.int d)=true then some u else fP (.int d) (nW l) us;rw[c,hJ,hJ];by_cases e:a=d
  .subst e;by_cases b:a=k;.simp[b]
   .simp[b]
  .by_cases b:d=k;.subst b;have:¬d=a:=λz=>e z.symm;simp[e,this]
   .simp[e,b]
theorem aav(d k:Nat)(v:W):∀(l:List Nat)(us:List W),l.length=us.length->k∉l->fP (.int d) (nW l++[.int k]) (us++[v])=if d=k then some v else fP (.int d) (nW l) us
|[],[],_,_=>by
 show(if hR (.int k) (.int d)=true then some v else none)=if d=k then some v else none;rw[hJ];by_cases e:d=k;.simp[e]
 .have:¬k=d:=λz=>e z.symm;simp[e,this]|[],u::us,h,_=>by cases h|a::l,[],h,_=>by cases h|a::l,u::us,h,hk=>by
 have b:=aav d k v l us (by simpa using h) λz=>hk (anU _ z);show(if hR (.int a) (.int d)=true then some u else fP (.int d) (nW l++[.int k]) (us++[v]))=if _ then some v else if hR (.int a) (.int d)=true then some u else fP (.int d) (nW l) us;rw[b,hJ];by_cases e:a=d;.subst e;have:¬a=k:=λz=>hk (by simp[z]);simp[this]
 .simp[e]
theorem vY(k v:W):∀(ks us:List W),ks.length=us.length->(jE k v ks us).length=us.length|[],[],_=>rfl|[],u::us,h=>by cases h|a::l,[],h=>by cases h|a::l,u::us,h=>by show(jE k v l us).length+1=us.length+1;rw[vY k v l us (by simpa using h)]
def DG(o:Sl)(n:Nat)(g:Nat->Option S3):Prop:=∃(l:List Nat)(a:List W),o=.od (nW l) a/\l.length=a.length/\l.length<=n/\∀d:Nat,fP (.int d) (nW l) a=(g d).map stW
noncomputable def upd(g:Nat->Option S3)(k:Nat)(p:S3):Nat->Option S3:=λd=>if d=k then some p else g d
def v7{ks us:List W}{n:Nat}{g:Nat->Option S3}(h:DG (.od ks us) n g)(r:n<1000)(k:Nat)(p:S3):∃b c,(∀A,putD 3 ks us (.int k) (stW p) A=.nx (A.set 3 (.od b c)))/\DG (.od b c) (n+1) (upd g k p):=by
 obtain⟨l,_,e,a,q,m⟩:=h;cases e;have f:(nW l).length<lim:=by simp[nW,lim];omega
 have o:sL (.int (k:Nat))=true:=rfl;refine⟨_,_,λA=>by unfold putD;rw[anL ⟨o,f⟩],?_⟩;unfold putK agi;have j:=pY k l;by_cases i:k∈l
 .rw[apa i]at j;rw[j];refine⟨l,jE (.int k) (stW p) (nW l) us,rfl,?_,by omega,λd=>?_⟩;.rw[vY _ _ _ _ (by simp[nW,a])];exact a
  .rw[vO d k _ l us a,m];unfold upd;by_cases e:d=k;.simp[e,i]
   .simp[e]
 .rw[aoe i]at j;rw[j];refine⟨l++[k],us++[stW p],?_,by simp[a],by simp;omega,λd=>?_⟩;.simp[nW]
  .rw[show nW (l++[k])=nW l++[.int k]by simp[nW],aav d k _ l us a i,m];unfold upd;by_cases e:d=k;.simp[e]
   .simp[e]
def ai2{ks us:List W}{n:Nat}{g:Nat->Option S3}(h:DG (.od ks us) n g){d:Nat}{p:S3}(a:g d=some p):tY (.dic ks us) (.int d)=.ok (stW p):=by obtain⟨l,_,e,f,c,b⟩:=h;cases e;show(if sL (.int d)=true then ofO (fP (.int d) (nW l) us)else .bad)=_;rw[anL (show sL (.int d)=true from rfl),b,a];rfl
def DG.mono{o:Sl}{n m:Nat}{g:Nat->Option S3}(h:DG o n g)(f:n<=m):DG o m g:=by obtain⟨l,a,e,c,d,b⟩:=h;exact⟨l,a,e,c,by omega,b⟩
theorem DG.od{o:Sl}{n:Nat}{g:Nat->Option S3}(h:DG o n g):∃b a,o=.od b a:=by obtain⟨l,a,e,_⟩:=h;exact⟨_,a,e⟩
noncomputable def tnQ:Tn->Int|.left=>1|.about=>2|.right=>3
def fD(m:S3)(t:Tn):dH m (.turn t)=(m.1,m.2.1,(m.2.2+tnQ t)%4):=by cases t<;>rfl
def af6{m:S3}(h:Fac m):((bsd m (-1)).1+(bsd m 1).1)/2=m.1/\((bsd m (-1)).2.1+(bsd m 1).2.1)/2=m.2.1:=by
 obtain⟨x,y,c⟩:=m;have a:c=0\/c=1\/c=2\/c=3:=by unfold Fac at h;simp only at h;omega
 rcases a with rfl|rfl|rfl|rfl<;>simp[bsd,sfp]<;>omega
def abj{m:S3}(h:Fac m):bsd (dH m (.turn .about)) (-1)=((bsd m 1).1,(bsd m 1).2.1,(m.2.2+2)%4)/\bsd (dH m (.turn .about)) 1=((bsd m (-1)).1,(bsd m (-1)).2.1,(m.2.2+2)%4):=by
 obtain⟨x,y,c⟩:=m;have a:c=0\/c=1\/c=2\/c=3:=by unfold Fac at h;simp only at h;omega
 rcases a with rfl|rfl|rfl|rfl<;>simp[bsd,sfp,dH]<;>omega
def yF(g:Nat->Option S3)(i j:Nat)(a b:S3):upd (upd (upd (upd g i a) j b) i a) j b=upd (upd g i a) j b:=by
 funext d;unfold upd;by_cases h:d=j;.simp[h]
 .by_cases c:d=i;.simp[h,c]
  .simp[h,c]
def ae9(f:List S3)(hl:f.length=8)(p:Nat×Nat)(lt:p.1<8/\p.2<8)(m:S3)(D:Fac m)(h1:bsd m (-1)=f.getD p.1 (0,0,0))(h2:bsd m 1=f.getD p.2 (0,0,0))(t:Tn)(v:W){o3:Sl}{n:Nat}{g:Nat->Option S3}(h:DG o3 n g)(hn:n<900)(S Z o8 o9 u j o:Sl):∃s R H O Q b e d,bV [.va (flW f),.va v,.va (.str t.w),o3,.va (.int p.1),.va (.int p.2),S,Z,o8,o9,u,j,o]=.nx [.va (flW f),.va v,.va (.str t.w),s,.va (.int p.1),.va (.int p.2),R,H,O,Q,b,e,d]/\DG s (n+4) (upd (upd g p.1 (bsd (dH m (.turn t)) (-1))) p.2 (bsd (dH m (.turn t)) 1)):=by
 have E:=p5 (f:=f) (k:=p.1) (by omega);have P:=p5 (f:=f) (k:=p.2) (by omega);rw[<-h1]at E;rw[<-h2]at P;obtain⟨hx,hy⟩:=af6 D;have i:Fac (dH m (.turn t)):=gR m _ D;have I:=eO (dH m (.turn t)) i 0 (-1);have K:=eO (dH m (.turn t)) i 0 1;have A:∀z:Int,bsd (dH m (.turn t)) z=((sfp (dH m (.turn t)) 0 z).1,(sfp (dH m (.turn t)) 0 z).2,(m.2.2+tnQ t)%4):=λz=>by unfold bsd;rw[fD]
 have T:=abj D;obtain⟨ks,us,rfl⟩:=h.od;obtain⟨a0,us1,y,d1⟩:=v7 h (by omega) p.1 (bsd (dH m (.turn t)) (-1));obtain⟨a,us2,B,J⟩:=v7 d1 (by omega) p.2 (bsd (dH m (.turn t)) 1);obtain⟨a2,us3,x,d3⟩:=v7 J (by omega) p.1 (bsd (dH m (.turn t)) (-1));obtain⟨N,us4,w,d4⟩:=v7 d3 (by omega) p.2 (bsd (dH m (.turn t)) 1);rw[yF]at d4;have s1:∀p:S3,cut [W.int p.1,.int p.2.1,.int p.2.2] none (some 2)=[.int p.1,.int p.2.1]:=λp=>rfl;have s2:¬(sIx 3 0 none=0/\sIx 3 3 (some 2)=3):=by decide
 have cX:(bsd m (-1)).2.2=m.2.2:=rfl;rw[fD]at I K;simp only[stW,spW]at I K E P;have ka:bY [.str "left",.str "about",.str "right"]=true:=by decide+kernel
 have hq:oIx (.dic [.str "left",.str "about",.str "right"] [.int 1,.int 2,.int 3]) (.str t.w)=.ok (.int (tnQ t)):=by cases t<;>rfl
 have l:=A (-1);have r:=A 1;rw[fD]at l r;generalize hT:(m.2.2+tnQ t)%4=c at *;simp only[fD,hT]at y B x w;rw[l]at y x;rw[r]at B w;simp only[stW]at y B x w;generalize hX:bsd m (-1)=X at *;generalize hY:bsd m 1=Y at *;generalize hU:sfp (m.1,m.2.1,c) 0 (-1)=U at *;generalize hV:sfp (m.1,m.2.1,c) 0 1=V at *;have G:bV [.va (flW f),.va v,.va (.str t.w),.od ks us,.va (.int p.1),.va (.int p.2),S,Z,o8,o9,u,j,o]=sIf (tB (eOp oEq (ai 2) (eC (.str "about")))) (aG (pk 3 (ff (ae (ai 9) (ae (ai 10) (ae (ai 11) aw)))) (ai 4)) (pk 3 (ff (ae (ai 6) (ae (ai 7) (ae (ai 11) aw)))) (ai 5))) sNx [.va (flW f),.va v,.va (.str t.w),.od a us2,.va (.int p.1),.va (.int p.2),.va (.int X.1),.va (.int X.2.1),.va (.int m.2.2),.va (.int Y.1),.va (.int Y.2.1),.va (.int c),.va (.tup [.int m.1,.int m.2.1,.int c])]:=by generalize flW f=FL at *;generalize t.w=TW at *;generalize tnQ t=q at *;simp[bV,E,P,s1,s2,hx,hy,cX,hq,ka,hT,I,K,akv,pk,y,B]
 rw[G];cases t with|about=>have C:=A (-1);have M:=A 1;rw[T.1,fD]at C;rw[T.2,fD]at M;simp only[tnQ]at hT;simp only[tnQ,hT,hU,hV,aot]at C M;obtain⟨y1,y2,_⟩:=C;obtain⟨x1,x2,_⟩:=M;refine⟨.od N us4,.va (.int X.1),.va (.int X.2.1),.va (.int m.2.2),.va (.int Y.1),.va (.int Y.2.1),.va (.int c),.va (.tup [.int m.1,.int m.2.1,.int c]),?_,d4⟩;generalize flW f=FL at *;simp[Tn.w,pk,y1,y2,x1,x2,x,w]|left=>exact⟨.od a us2,.va (.int X.1),.va (.int X.2.1),.va (.int m.2.2),.va (.int Y.1),.va (.int Y.2.1),.va (.int c),.va (.tup [.int m.1,.int m.2.1,.int c]),by simp[Tn.w],J.mono (by omega)⟩|right=>exact⟨.od a us2,.va (.int X.1),.va (.int X.2.1),.va (.int m.2.2),.va (.int Y.1),.va (.int Y.2.1),.va (.int c),.va (.tup [.int m.1,.int m.2.1,.int c]),by simp[Tn.w],J.mono (by omega)⟩
def ane(f:List S3)(ps:List (Nat×Nat))(s:Stp)(d:Nat):(tlF f ps s 0).getD d []=[]:=by show(List.replicate 8 ([]:List S3)).getD d []=[];rw[anI,aor];by_cases z:d<8<;>simp[z]
def ae8(f:List S3)(B:f.length=8)(O:∀p∈f,Fac p)(J:bG f){ps:List (Nat×Nat)}(h:kc f=some ps)(t:Tn)(s:W):∃k q r l m o n j a c,forL (k7 (bu (au 4) (bu (au 5) kN))) bV (ps.map prW) [.va (flW f),.va s,.va (.str t.w),.od [] [],.no,.no,.no,.no,.no,.no,.no,.no,.no]=.nx [.va (flW f),.va s,.va (.str t.w),k,q,r,l,m,o,n,j,a,c]/\DG k 16 λd=>((tlF f ps (.turn t) 4).getD d []).getLast?:=by
 have G:=eM B J h;obtain⟨u,e,M⟩:=kq (g:=k7 (bu (au 4) (bu (au 5) kN))) (b:=bV) (xs:=ps.map prW) (λi u=>∃k q r l m o n j a c,u=[.va (flW f),.va s,.va (.str t.w),k,q,r,l,m,o,n,j,a,c]/\DG k (4*i) λd=>((tlF f ps (.turn t) i).getD d []).getLast?) (σ:=[.va (flW f),.va s,.va (.str t.w),.od [] [],.no,.no,.no,.no,.no,.no,.no,.no,.no]) ⟨_,_,_,_,_,_,_,_,_,_,rfl,[],[],rfl,rfl,anP _,λd=>by show _=Option.map stW ((tlF f ps (.turn t) 0).getD d []).getLast?;rw[ane];rfl⟩ (by
  rintro i w σ hw⟨k,q,r,l,m,o,n,j,a,c,rfl,E⟩;rw[an7]at hw;have y:i<4:=by rw[<-G.len];cases z:ps[i]? with|none=>rw[z]at hw;cases hw|some x=>exact(anM.mp z).1
  have v:i<ps.length:=by rw[G.len];exact y
  have X:w=prW (prt ps i):=by rw[anJ v]at hw;unfold prt;rw[anI,anJ v];exact(an3 hw).symm
  subst X;have N:=zG B J h y;obtain⟨R,Y,P,S,U,H,K,I,Q,D⟩:=ae9 f B (prt ps i) (G.lt _ (pF G y)) (pJ f ps i) (tL B O G y) N.1 N.2 t s E (by omega) l m o n j a c;refine⟨_,?_,_,Q,_,_,_,_,_,_,_,_,_,_,rfl,?_⟩;.generalize flW f=FL;show k7 (bu (au 4) (bu (au 5) kN)) (.tup [.int (prt ps i).1,.int (prt ps i).2]) _=_;simp
  .have T:(λd=>((tlF f ps (.turn t) (i+1)).getD d []).getLast?)=upd (upd (λd=>((tlF f ps (.turn t) i).getD d []).getLast?) (prt ps i).1 (bsd (dH (pJ f ps i) (.turn t)) (-1))) (prt ps i).2 (bsd (dH (pJ f ps i) (.turn t)) 1):=by
    funext d;rw[adF G _ y];unfold upd;by_cases C:d=(prt ps i).2;.rw[anL C,anL C];rfl
    .rw[anK C,anK C];by_cases A:d=(prt ps i).1;.rw[anL A,anL A];rfl
     .rw[anK A,anK A]
   rw[T];exact D);rw[an0,G.len]at M;obtain⟨k,q,r,l,m,o,n,j,a,c,rfl,E⟩:=M;exact⟨k,q,r,l,m,o,n,j,a,c,e,E⟩
def abW(f:List S3)(k:f.length=8)(g:∀p∈f,Fac p)(c:bG f){ps:List (Nat×Nat)}(h:kc f=some ps)(t:Tn):cY [flW f,.lst (ps.map prW),.str t.w]=.ok (flW ((tlF f ps (.turn t) 4).map gG)):=by
 obtain⟨M,w,N,y,z,O,K,u,o,q,e,l⟩:=ae8 f k g c h t (.lst (ps.map prW));have H:=aeM k g c h (.turn t);obtain⟨j,n,rfl⟩:=l.od;have m:∀A B C D E F G I J:Sl,br (au 0) fE (eOp tY (ai 4) (ai 0)) [.no,.va (flW f),.va (.lst (ps.map prW)),.va (.str t.w),.va (.dic j n),A,B,C,D,E,F,G,I,J] (rng 0 8)=.ok ((List.range 8).map λd=>stW (gG ((tlF f ps (.turn t) 4).getD d []))):=λA B C D E F G I J=>bw λd b=>⟨_,rfl,rfl,by obtain⟨x,a,_⟩:=H.2 d (an1.mp b);have i:=ai2 l (d:=d) (p:=x) (by rw[a];rfl);rw[a,ap5];show _=Res.ok (stW x);generalize flW f=FL;generalize W.dic j n=DD at *;generalize stW x=X at *;simp[i]⟩;have v:((List.range 8).map λd=>stW (gG ((tlF f ps (.turn t) 4).getD d [])))=((tlF f ps (.turn t) 4).map gG).map stW:=by
  rw[aoM];have s:=iX f ps (.turn t) 4;generalize tlF f ps (.turn t) 4=T at *;refine aqF (by simp[s]) λd i r=>?_;have b:d<T.length:=by simpa using r
  simp[anI,anJ b]
 rw[v]at m;show _=Res.ok (W.tup (((tlF f ps (.turn t) 4).map gG).map stW));generalize flW f=FL at *;generalize((tlF f ps (.turn t) 4).map gG).map stW=LS at *;generalize ps.map prW=PS at *;simp[cY,iZ,List.replicate,qV,e,j6,m]
def step_eq{n:Nat}{st:List W}(h:Rm n st)(p:n<1000000000):∃(t:Stp)(b:List W),eF st []=.ok (t.W,b)/\Rm (n+2) b:=by
 obtain⟨a,i,d,q,s,e⟩:=cp h (by omega) 8 (by decide) (by decide);by_cases hw:4<a
 .obtain⟨t,c⟩:∃t:Tn,oIx (.lst [.str "left",.str "right",.str "about"]) (.int (a-5))=.ok (.str t.w):=by
   have:a=5\/a=6\/a=7:=by omega
   rcases this with rfl|rfl|rfl;.exact⟨.left,rfl⟩
   .exact⟨.right,rfl⟩
   .exact⟨.about,rfl⟩
  refine⟨.turn t,i,?_,e.mono (by omega)⟩;simp at c;simp[eF,i3,ik,List.replicate,aN,bR,eu,cn,cO,gJ,jF,gD,cG,ly,d,hw,c,bj,qZ,ib,Stp.W]
 .obtain⟨l,k,m,r,o,j⟩:=cp e (by omega) 4 (by decide) (by decide);obtain⟨g,f⟩:∃g:Go,oIx (.lst [.str "ahead",.str "back",.str "left",.str "right",.str "ahead"]) (.int a)=.ok (.str g.w):=by
   have:a=0\/a=1\/a=2\/a=3\/a=4:=by omega
   rcases this with rfl|rfl|rfl|rfl|rfl;.exact⟨.ahead,rfl⟩
   .exact⟨.back,rfl⟩
   .exact⟨.left,rfl⟩
   .exact⟨.right,rfl⟩
   .exact⟨.ahead,rfl⟩
  refine⟨.go g (1+l),k,?_,j⟩;simp at f;simp[eF,i3,ik,List.replicate,aN,bR,eu,kE,yd,cn,cO,gJ,jF,gD,cG,ly,d,m,hw,f,bj,qZ,ib,Stp.W]
def abm(F:W)(g:Go)(k:Int):dO [F,(Stp.go g k).W]=fin ((aG (gB 2 (eC .non)) (aG (l3 bQ "FloorError" 3 cy) (dn (ai 2)))) [.va F,.va (wid (.go g k)).W,.no,.no]):=by cases g<;>kernel_rfl
def aga(F:W)(g:Go)(k:Int)(o:Oc)(h:iA [F,cS (wid (.go g k)),.non]=o.res):dO [F,(Stp.go g k).W]=.ok o.due:=by rw[abm];have e:cS (wid (.go g k))=.lst [.tup [.tup [],.tup [(wid (.go g k)).W]]]:=rfl;rw[e]at h;generalize(wid (.go g k)).W=S at *;cases o with|ok g=>simp only[Oc.res]at h;simp[bQ,h,Oc.due,x3]|nop=>have k:=(mX 0).2.2.2;simp only[Oc.res]at h;simp[bQ,h,Oc.due,x3,cy,eg,nG,k,qo]|out d=>have k:=(mX d).2.1;simp only[Oc.res]at h;simp[exN]at k h;simp[bQ,h,Oc.due,x3,cy,eg,nG,k,qo]|meet i j=>have k:=(mX i).2.2.1 j;simp only[Oc.res]at h;simp[bQ,h,Oc.due,x3,cy,eg,nG,k,qo]
def ahY:oNe (.lst [.str "NoPairs"]) (.lst [.str "NoPairs"])=.ok (.bl false):=by kernel_rfl
def ahX{ps:List (Nat×Nat)}(h:ps.length=4):oNe (.lst (ps.map prW)) (.lst [.str "NoPairs"])=.ok (.bl true):=by match ps,h with|[a,b,c,d],_=>kernel_rfl
def alY{f:List S3}(F:Fl f)(a:bG f){ps:List (Nat×Nat)}(h:kc f=some ps)(s:Stp):∃o:Oc,o.Good/\bA [flW f,cS s]=.ok o.due/\(∀t,s=.turn t->(cY [flW f,.lst (ps.map prW),.str t.w]).bind (λg=>dz [g])=.ok o.due)/\∀g k,s=.go g k->dO [flW f,s.W]=.ok o.due:=by
 obtain⟨o,b,c,d⟩:=am8 F.len F.fac (aeM F.len F.fac a h s);refine⟨o,c,?_,λt e=>?_,λg k e=>?_⟩;.refine adE _ _ o ?_;rw[v9 f F.len F.fac a s,h];exact b
 .subst e;rw[abW f F.len F.fac a h t];exact d
 .subst e;refine aga _ g k o ?_;rw[aaZ f F.len F.fac,<-b,aki F.len F.fac a h]
def abM{f:List S3}(F:Fl f)(a:bG f)(h:kc f=none)(s:Stp):bA [flW f,cS s]=.ok Oc.nop.due:=by refine adE _ _ .nop ?_;rw[v9 f F.len F.fac a s,h];rfl
def mG:SF:=aG (pq (yT 1 (abq (tB (aJ (aI 3) (ae (aJ bA (ae (ai 4) (ae (iB (ae (ff (ae (ff aw) (ae (ff (ae (ai 7) aw)) aw))) aw)) aw))) (ae (ai 8) aw)))))) (i2 1 (yP 1 (eC (.bl false)))) sNx) (pq (yT 1 (tB (eBi bF (ae (ai 8) (ae (eC (.ty "tuple")) aw))))) (aW 4 (yP 1 (ai 8))) sNx)
def jC:SF:=pq (yT 1 (tB (eOp oNe (ai 6) (iB (ae (eC (.str "NoPairs")) aw))))) (pq (yT 1 (tB (eOp oEq (eOp oIx (ai 7) (eC (.int 0))) (eC (.str "turn"))))) (aW 8 (yP 1 (aJ dz (ae (aJ cY (ae (ai 4) (ae (ai 6) (ae (eOp oIx (ai 7) (eC (.int 1))) aw)))) aw)))) (aW 8 (yP 1 (aJ dO (ae (ai 4) (ae (ai 7) aw)))))) sNx
def acQ:ki=aG (aW 6 (yP 1 (aJ bB (ae (ai 4) aw)))) (aG (aW 7 (bq eF 1 bc)) (aG (aW 8 (yP 1 (ai 6))) (aG jC mG))):=rfl
def alS(p J K l:W)(st:List W){f:List S3}(F:Fl f)(k:bG f)(s:Stp)(o:Oc)(n:o.Good)(h:bA [flW f,cS s]=.ok o.due)(m:Sl):∃c,mG [.va p,.ow st,.va l,.va J,.va (flW f),.va K,m,.va s.W,.va o.due]=.nx [.va p,.ow st,.va l,.va J,.va (flW c),.va K,m,.va s.W,.va o.due]/\Fl c/\bG c:=by have b:=abT o;have a:=afL o;have e:cS s=.lst [.tup [.tup [],.tup [s.W]]]:=rfl;rw[e]at h;cases o with|ok g=>refine⟨g,?_,n.1,n.2⟩;have q:(Oc.ok g).due=flW g:=rfl;rw[q]at h b a⊢;generalize flW f=FL at *;generalize flW g=G at *;generalize s.W=S at *;simp only at a;simp[mG,bR,ly,cG,bj,aN,h,b,a]|nop=>refine⟨f,?_,F,k⟩;generalize Oc.nop.due=D at *;generalize flW f=FL at *;generalize s.W=S at *;simp only at a;simp[mG,bR,ly,cG,bj,aN,h,b,a]|out d=>refine⟨f,?_,F,k⟩;generalize(Oc.out d).due=D at *;generalize flW f=FL at *;generalize s.W=S at *;simp only at a;simp[mG,bR,ly,cG,bj,aN,h,b,a]|meet i j=>refine⟨f,?_,F,k⟩;generalize(Oc.meet i j).due=D at *;generalize flW f=FL at *;generalize s.W=S at *;simp only at a;simp[mG,bR,ly,cG,bj,aN,h,b,a]
def acL(b J K a:W){n:Nat}{st:List W}(h:Rm n st)(Q:n<900000000){f:List S3}(F:Fl f)(i:bG f)(y z A:Sl):∃(e:List S3)(j:List W)(I M P:Sl),ki [.va b,.ow st,.va a,.va J,.va (flW f),.va K,y,z,A]=.nx [.va b,.ow j,.va a,.va J,.va (flW e),.va K,I,M,P]/\Fl e/\bG e/\Rm (n+2) j:=by
 obtain⟨s,c,C,G⟩:=step_eq h (by omega);have w1:=afd _ _ (mh f F.len F.fac i);have p:ki [.va b,.ow st,.va a,.va J,.va (flW f),.va K,y,z,A]=aeY (jC [.va b,.ow c,.va a,.va J,.va (flW f),.va K,.va (ace (kc f)),.va s.W,.va (ace (kc f))]) mG:=by rw[acQ];generalize flW f=FL at *;generalize s.W=S at *;generalize ace (kc f)=PD at *;simp[aN,oM,cO,sf,gD,cG,bj,w1,C]
 have w:∃o:Oc,o.Good/\bA [flW f,cS s]=.ok o.due/\jC [.va b,.ow c,.va a,.va J,.va (flW f),.va K,.va (ace (kc f)),.va s.W,.va (ace (kc f))]=.nx [.va b,.ow c,.va a,.va J,.va (flW f),.va K,.va (ace (kc f)),.va s.W,.va o.due]:=by cases v:kc f with|none=>refine⟨.nop,trivial,abM F i v s,?_⟩;have l:=ahY;show jC [.va b,.ow c,.va a,.va J,.va (flW f),.va K,.va (.lst [.str "NoPairs"]),.va s.W,.va (.lst [.str "NoPairs"])]=.nx [.va b,.ow c,.va a,.va J,.va (flW f),.va K,.va (.lst [.str "NoPairs"]),.va s.W,.va (.lst [.str "NoPairs"])];generalize flW f=FL at *;generalize s.W=S at *;generalize hN:W.lst [W.str "NoPairs"]=N at *;simp[jC,bR,ly,bj,hN,l]|some ps=>obtain⟨o,x,r,d,q⟩:=alY F i v s;refine⟨o,x,r,?_⟩;have l:=ahX (eM F.len i v).len;show jC [.va b,.ow c,.va a,.va J,.va (flW f),.va K,.va (.lst (ps.map prW)),.va s.W,.va (.lst (ps.map prW))]=.nx [.va b,.ow c,.va a,.va J,.va (flW f),.va K,.va (.lst (ps.map prW)),.va s.W,.va o.due];cases s with
 |turn t=>have d:=d t rfl;show jC [.va b,.ow c,.va a,.va J,.va (flW f),.va K,.va (.lst (ps.map prW)),.va (.tup [.str "turn",.str t.w]),.va (.lst (ps.map prW))]=.nx [.va b,.ow c,.va a,.va J,.va (flW f),.va K,.va (.lst (ps.map prW)),.va (.tup [.str "turn",.str t.w]),.va o.due];generalize flW f=FL at *;generalize o.due=D at *;generalize ps.map prW=PS at *;generalize t.w=T at *;cases u:cY [FL,.lst PS,.str T]with|ok g=>rw[u]at d;have d:dz [g]=.ok D:=d;simp[jC,bR,ly,cG,bj,aN,l,u,d]|_=>rw[u]at d;cases d
 |go g k=>
    have q:=q g k rfl;have H:¬g.w="turn":=by cases g<;>decide
    have E:oIx (Stp.go g k).W (.int 0)=.ok (.str g.w):=rfl;generalize flW f=FL at *;generalize o.due=D at *;generalize ps.map prW=PS at *;generalize(Stp.go g k).W=S at *;generalize g.w=T at *;simp[jC,bR,ly,cG,bj,aN,l,E,H,q]
 obtain⟨o,x,r,em⟩:=w;obtain⟨e,O,B,m⟩:=alS b J K a c F i s o x r (.va (ace (kc f)));exact⟨e,c,_,_,_,by rw[p,em,f6];exact O,B,m,G⟩
def af7(p J:W)(c:Int)(n:Nat)(st:List W)(h:Rm n st)(X:n<600000000)(D o d j l:Sl):∃(a:List W)(N u v x y:Sl),kj [.va p,.ow st,.va (.int c),.va J,D,o,d,j,l]=.nx [.va p,.ow a,.va (.int c),.va J,N,u,v,x,y]/\Rm (n+100) a:=by
 obtain⟨f,Z,E,F,s,G⟩:=acX h (by omega) c;obtain⟨r,B,U,Y,b2,O⟩:=cp G (by omega) 4 (by decide) (by decide);obtain⟨k,I⟩:∃k:Nat,1+r=k:=⟨(1+r).toNat,by omega⟩;obtain⟨m,M,A⟩:=kq (g:=au 5) (b:=ki) (xs:=rng 0 k) (λi m=>i<=4->∃(f:List S3)(st:List W)(o d j l:Sl),m=[.va p,.ow st,.va (.int c),.va J,.va (flW f),o,d,j,l]/\Fl f/\bG f/\Rm (n+60+1+2*i) st) (σ:=[.va p,.ow B,.va (.int c),.va J,.va (flW f),o,d,j,l]) (λ_=>⟨f,B,_,_,_,_,rfl,F,s,O⟩) (by intro i w σ hw P;obtain⟨K,rfl⟩:=pz _ _ _ _ hw;obtain⟨f,st,o,d,j,l,rfl,F,s,h⟩:=P (by omega);obtain⟨q,a,T,H,Q,e,C,t,z⟩:=acL p J (.int (0+i)) (.int c) h (by omega) F s d j l;exact⟨_,rfl,_,e,λ_=>⟨q,a,_,_,_,_,rfl,C,t,z⟩⟩);rw[j7]at A;obtain⟨q,a,u,v,x,y,rfl,_,_,z⟩:=A (by omega);have S:(k:Int)<4611686018427387904:=by omega
 have R:-4611686018427387904<=(k:Int):=by omega
 refine⟨a,.va (flW q),u,v,x,y,?_,z.mono (by omega)⟩;generalize flW q=F2 at *;generalize flW f=F1 at *;simp[kj,aN,pw,oM,sf,gD,cO,cn,kE,cG,bj,E,U,I,S,R,M]
def acE(ns:List Int)(z:ns.length<=63):ac0 [.lst (ns.map .int)]=.ok (.bl true):=by
 obtain⟨st,H,M⟩:=ae5 ns z;obtain⟨p,T,v,x⟩:=aiN M (by decide);obtain⟨r,u,R,S,U,G⟩:=cp x (by decide) 41 (by decide) (by decide);obtain⟨k,rfl⟩:∃k:Nat,r=k:=⟨r.toNat,by omega⟩;have K:∀l:List Int,gh (l.map .int)=true:=λl=>by induction l with|nil=>rfl|cons a l ih=>exact ih
 have s:aem [.lst (ns.map .int)]=true:=K ns;obtain⟨d,C,t⟩:=kq (g:=au 3) (b:=kj) (xs:=rng 0 k) (λi d=>i<=41->∃(st:List W)(q f n j m o:Sl),d=[.va (.lst (ns.map .int)),.ow st,.va (.int p),q,f,n,j,m,o]/\Rm (0+1+1+100*i) st) (σ:=[.va (.lst (ns.map .int)),.ow u,.va (.int p),.no,.no,.no,.no,.no,.no]) (λ_=>⟨u,_,_,_,_,_,_,rfl,G⟩) (by intro i w σ hw I;obtain⟨B,rfl⟩:=pz _ _ _ _ hw;obtain⟨st,q,f,n,j,m,o,rfl,h⟩:=I (by omega);obtain⟨c,A,E,Q,y,J,e,N⟩:=af7 (.lst (ns.map .int)) (.int (0+i)) p _ st h (by omega) f n j m o;exact⟨_,rfl,_,e,λ_=>⟨c,_,_,_,_,_,_,rfl,by rw[show 0+1+1+100*(i+1)=0+1+1+100*i+100 by omega];exact N⟩⟩);rw[j7]at t;obtain⟨c,q,f,n,j,m,o,rfl,_⟩:=t (by omega);have P:(k:Int)<4611686018427387904:=by omega
 have O:-4611686018427387904<=(k:Int):=by omega
 have em:ac0 [.lst (ns.map .int)]=fin (yK [.va (.lst (ns.map .int)),.no,.no,.no,.no,.no,.no,.no,.no]):=rfl;rw[em];have D:yK [.va (.lst (ns.map .int)),.no,.no,.no,.no,.no,.no,.no,.no]=aiT (aG (aW 2 (bq ia 1 bc)) (aG (qW (bq ar 1 (aF (yP 1 (eC (.int 41))) bc)) (au 3) kj) (i2 1 (yP 1 (eC (.bl true))))) [.va (.lst (ns.map .int)),.ow st,.no,.no,.no,.no,.no,.no,.no]):=by simp only[yK,abV,jO,m6,mP,aiB,aiC,mI,ja,bj];rw[anL s,H];rfl
 rw[D,gX];simp[aN,pw,eu,oM,sf,gD,cO,cn,cG,bj,v,R,P,O,C,akF,aiS,rtE]
end K53
namespace PySem.W.Fast
def tw15351581712887491875:=0
def tw8657296777085152240:=0
def tw5365982005770227912:=0
def tw10101402783398622866:=0
def tw15869641291369207788:=0
def tw4357748194808069269:=0
def tw9432358259700618303:=0
def tw8891480452236650379:=0
def tw4052306300572460493:=0
def tw4539527761749961415:=0
def tw12958685015564152945:=0
def tw3878206894202842377:=0
def tw17158755343567664633:=0
def tw7672289883653828622:=0
def tw2648836558748124446:=0
def tw1516751677862262988:=0
def tw14845304606673687102:=0
def tw14116031894658742932:=0
def tw14584829733628295324:=0
def tw5780426017096884070:=0
def tw16144339872173637818:=0
def tw17393696381561238994:=0
def tw1476491461680036573:=0
def tw8489593624347639962:=0
def tw16446475147727598352:=0
def tw10601954419168878094:=0
def tw3515919546119110507:=0
def tw13703051086451841526:=0
def tw17277594040532663234:=0
def tw13050814366085091774:=0
def tw10240121259127244801:=0
def tw2734122868957865139:=0
def tw14053454215187888909:=0
def tw8712686280850638385:=0
def tw6876192799028243106:=0
def tw12649570554117185161:=0
def tw11947867137297396860:=0
def tw13025807825306467243:=0
def tw7401984781023375551:=0
def tw13771203787105760257:=0
def tw6549184205520479176:=0
def tw11482287623867037317:=0
def tw17579596162894523263:=0
def tw10841049466919246892:=0
def tw14683176219481655476:=0
def tw10144579179890763113:=0
def tw5350008491847354962:=0
def tw11062197947632061954:=0
def tw5616562596254137490:=0
def tw5898134686310751813:=0
def tw11584489243643273792:=0
def tw2256873110494767453:=0
def tw426110124729991824:=0
def tw15236775994274743833:=0
def tw3999757876578134419:=0
def tw1509140243983379097:=0
def tw10557903587446443447:=0
def tw14362976402339110826:=0
def tw10884956251317342957:=0
def tw13769206195855178371:=0
def tw12188217869007753238:=0
def tw7418646182005824234:=0
def tw1091229026438564782:=0
def tw8012022799489285035:=0
def tw8747154825996487645:=0
def tw15763484198099525405:=0
def tw770986475058513031:=0
def tw8567148992146957521:=0
def tw2770858191000229103:=0
def tw7846334093638383147:=0
def tw1872375860892709513:=0
def tw7630570316472120729:=0
def tw10306916628137875209:=0
def tw13429500893427823618:=0
def tw8283941154311102143:=0
def tw6102913709948147018:=0
def tw8649077869369398467:=0
def tw17304791685305056866:=0
def tw8714344041083131099:=0
def tw6247598170916219315:=0
def tw13067514497204858017:=0
def tw15579061721984381131:=0
def tw17535946841313466896:=0
def tw8168872002938096372:=0
def tw6840722921908933597:=0
def tw11545013088811993583:=0
def tw2885936868178670588:=0
def tw13821533385959009549:=0
def tw13521817938189540355:=0
def tw3614556698555327856:=0
def tw4088692501581008647:=0
def tw6130989938808813790:=0
def tw13880474576054426144:=0
def tw1502721717207034139:=0
def tw365572005643648480:=0
def tw246722009167501081:=0
def tw16070696107715939868:=0
def tw3687093236754152877:=0
def tw1793282612573149807:=0
def tw1428896671382210982:=0
def tw4839847677505732965:=0
def tw16994876111881575344:=0
def tw10119226595603196284:=0
def tw5097850284078236401:=0
def tw2810482290250859433:=0
def tw4701839805091522808:=0
def tw8080281532630903672:=0
def tw6415849273596924322:=0
def tw2190129129489696588:=0
def tw12183552968895777501:=0
def tw6071204296921132275:=0
def tw11290805821717059103:=0
def tw13398993650099994905:=0
def tw17382702342633682365:=0
def tw10143410456565689968:=0
def tw8575858965442906742:=0
def tw15174482398506922611:=0
def tw7719669717330637546:=0
def tw1297274550133487252:=0
def tw5361161814571758864:=0
def tw9911166105153313808:=0
def tw17940534985695415088:=0
def tw14911004661733970510:=0
def tw8395503268788784660:=0
def tw13954021531515675035:=0
def tw8709654976984530036:=0
def tw6076013892878769042:=0
def tw15241042533876732775:=0
def tw6021791691884318469:=0
def tw4305916540832640606:=0
def tw9570105928495498492:=0
def tw5987706507268795900:=0
def tw13313186679650081550:=0
def tw17519469325467437619:=0
def tw8554232408767241427:=0
def tw9220546448556632023:=0
def tw7660479172477724510:=0
def tw13476688220430422542:=0
def tw17323992155507776389:=0
def tw1408093016570636979:=0
def tw16127556084685009548:=0
def tw14737829593496721994:=0
def tw15812695741909149337:=0
def tw10664768232401270044:=0
def tw16700144886856545769:=0
def tw17554585666164259792:=0
def tw7629953394373022440:=0
def tw2730433757432361799:=0
def tw2023702779662010118:=0
def tw3298967022350979557:=0
def tw10631497586385363140:=0
def tw11749654320255598540:=0
def tw17638937374695986881:=0
def tw16067403980225681519:=0
def tw4353118295061320719:=0
def tw10568122198342653014:=0
def tw312123636647050348:=0
def tw12243490268220586548:=0
def tw15018953758871663684:=0
def tw1890704955854264975:=0
def tw15850684498568902394:=0
def tw4697534201467494197:=0
def tw8919548685696084030:=0
def tw12275865556112919762:=0
def tw4348690298889818143:=0
def tw8641503908837456469:=0
def tw5872129734341243010:=0
def tw9379404050595754595:=0
def tw4786146320742349836:=0
def tw13934851101472073852:=0
def tw17868929633699228909:=0
def tw18373943922919023204:=0
def tw8095135059759791188:=0
def tw16308258221375817668:=0
def tw15987415050864003097:=0
def tw10351854531990342958:=0
def tw15274061375928470798:=0
def tw17864580725064646004:=0
def tw6542182124302271278:=0
def tw4500772777561593606:=0
def tw3440934543022032637:=0
def tw4347808987343570264:=0
def tw13962584716050378919:=0
def tw2291529950050214464:=0
def tw8164040498506869345:=0
def tw16054389590768207579:=0
def tw9491432231252277850:=0
def tw2066646702445960180:=0
def tw8127048622744888821:=0
def tw11558497006884688009:=0
def tw5449602723084952562:=0
def tw13651600364482841395:=0
def tw581939943162849578:=0
def tw2700440507445592748:=0
def tw14708778528117740531:=0
def tw14556929976458470656:=0
def tw12376730991355168620:=0
def tw16502111410641614373:=0
def tw4740677261409836779:=0
def tw10699289841582331267:=0
def tw4682451735977074237:=0
def tw8446364046201696863:=0
def tw17081843988611889200:=0
def tw13057839093816534771:=0
def tw12072950228845657934:=0
def tw7696625851248586497:=0
def tw13292631926933359845:=0
def tw5757339188557943665:=0
def tw7985894629687272841:=0
def tw14924691093993650325:=0
def tw5728611388837216037:=0
def tw2584408310354976760:=0
def tw1743568988108065845:=0
def tw11061467987681665196:=0
def tw7904691180015347232:=0
def tw12343928728324043340:=0
def tw12199058456370202435:=0
def tw4248528207214285141:=0
def tw13734860365615368820:=0
def tw1689309520290803917:=0
def tw12443723389765667633:=0
def tw6072813803842032680:=0
def tw5661358772878923185:=0
def tw14450389917404654072:=0
def tw18428102095775458812:=0
def tw13078865824836537561:=0
def tw6918734137260320123:=0
def tw15834661842494611666:=0
def tw622805696173327385:=0
def tw14225668789755642662:=0
def tw910528981098342374:=0
def tw7366643548499519577:=0
def tw12223603445091773179:=0
def tw3351189681628923011:=0
def tw14430261762655442134:=0
def tw11497442860432087623:=0
def tw14679020899633779827:=0
def tw13451504423466511312:=0
def tw2269998807052557407:=0
def tw5790003258984684185:=0
def tw5497212063324661238:=0
def tw4641914937473012613:=0
def tw8049761467012140656:=0
def tw11760394821175698277:=0
def tw7133061138155775949:=0
def tw17584684237290213179:=0
def tw8629263943271949707:=0
def tw13156652236514454648:=0
def tw4739589489588578534:=0
def tw285358869966718371:=0
end PySem.W.Fast
namespace K53
open PySem PySem.Spec PyProof.Rows L2 WS
open WL(Res Sl Ws EF TF AF LF GF GsF SF Out RF OX Sr XF XA FS)
seal L2.PE L2.PS L2.PSs L2.PA L2.PT L2.PW L2.PG L2.PGs L2.PI L2.PO L2.xX L2.PC
def top(i:Nat):Stmt:=PySem.Challenge.pw_squarecall_k53_whole_pairs_move_as_dance.main.body.getD i (.Pass ⟨0,0,0,0⟩)
local macro_rules|`(tactic|trivial)=>`(tactic|exact⟨rfl,rfl,rfl,by decide+kernel,rfl,by decide+kernel,by decide+kernel⟩)
noncomputable def mY:Stmt->List Stmt|.ClassDef _ _ _ b _ _ _ _ _ _ _=>b|_=>[]
abbrev y3:Stmt:=(mY (top 11)).getD 0 (.Pass ⟨0,0,0,0⟩)
def abR:FnScope ["self","one","other"] ["self","one","other"] (af y3):=by trivial
abbrev adJ:Stmt:=(mY (top 10)).getD 0 (.Pass ⟨0,0,0,0⟩)
def aeZ:FnScope ["self","who"] ["self","who"] (af adJ):=by trivial
abbrev jm:Stmt:=top 62
def m8:FnScope ["_law_script","_law_k"] ["_law_script","_law_k"] (af jm):=by trivial
abbrev nS:Stmt:=top 63
def lU:FnScope ["_law_script","_law_cells"] ["_law_script"] (af nS):=by trivial
abbrev nQ:Stmt:=top 64
def cU:FnScope ["_law_room_here","_law_many","_law_k","_law_cell","_law_one","_law_two","_law_found"] ["_law_room_here","_law_many"] (af nQ):=by trivial
abbrev qQ:Stmt:=top 69
def wY:FnScope ["_law_room_here"] ["_law_room_here"] (af qQ):=by trivial
abbrev kI:Stmt:=top 67
def ph:FnScope ["_law_room_here"] ["_law_room_here"] (af kI):=by trivial
abbrev nU:Stmt:=top 65
def dI:FnScope ["_law_stand","_law_ahead","_law_right","_law_x","_law_y","_law_facing_here","_law_east","_law_north"] ["_law_stand","_law_ahead","_law_right"] (af nU):=by trivial
abbrev nV:Stmt:=top 66
def sZ:FnScope ["_law_x","_law_y","_law_facing_here"] ["_law_x","_law_y","_law_facing_here"] (af nV):=by trivial
abbrev lZ:Stmt:=top 68
def aA:FnScope ["_law_room_here","_law_far_here","_law_left","_law_order","_law_spots","_law_stands","_law_line","_law_line_facing","_law_k","_law_x","_law_y","_law_facing_here","_law_two","_law_one"] ["_law_room_here","_law_far_here"] (af lZ):=by trivial
abbrev qO:Stmt:=top 21
def wX:FnScope ["stand"] ["stand"] (af qO):=by trivial
abbrev vd:Stmt:=top 25
def lO:FnScope ["floor","spot","dancer","stand"] ["floor","spot"] (af vd):=by trivial
abbrev lW:Stmt:=top 24
def eW:FnScope ["stand","ahead","right","step","east","north"] ["stand","ahead","right"] (af lW):=by trivial
abbrev kG:Stmt:=top 52
def f7:FnScope ["floor","dancer","own","who"] ["floor","dancer"] (af kG):=by trivial
abbrev iQ:Stmt:=top 54
def lS:FnScope ["row"] ["row"] (af iQ):=by trivial
abbrev nN:Stmt:=top 53
def lR:FnScope ["hands","first","row"] ["hands","first"] (af nN):=by trivial
abbrev gW:Stmt:=top 22
def dZ:FnScope ["stands","one","other"] ["stands"] (af gW):=by trivial
abbrev vh:Stmt:=top 55
def qM:FnScope ["stand","right","spot"] ["stand","right"] (af vh):=by trivial
abbrev kH:Stmt:=top 56
def pf:FnScope ["floor","pairs"] ["floor","pairs"] (af kH):=by trivial
abbrev nO:Stmt:=top 57
def f9:FnScope ["floor","hands","pairs","dancer"] ["floor"] (af nO):=by trivial
abbrev l0:Stmt:=top 70
def eY:FnScope ["_law_e","_law_kinds","_law_others"] ["_law_e"] (af l0):=by trivial
abbrev gA:Stmt:=top 78
def bK:FnScope ["_law_floor_here","_law_found","_law_e"] ["_law_floor_here"] (af gA):=by trivial
abbrev nR:Stmt:=top 74
def lT:FnScope ["_law_room_here","_law_way"] ["_law_room_here"] (af nR):=by trivial
abbrev lX:Stmt:=top 71
def qK:FnScope ["_law_found"] ["_law_found"] (af lX):=by trivial
abbrev j5:Stmt:=top 72
def gb:FnScope ["_law_found","_law_due","_law_one","_law_other"] ["_law_found","_law_due"] (af j5):=by trivial
abbrev qP:Stmt:=top 77
def iv:FnScope ["_law_stands","_law_one","_law_other"] ["_law_stands"] (af qP):=by trivial
abbrev n3:Stmt:=top 23
def lV:FnScope ["stands","meeting"] ["stands"] (af n3):=by trivial
abbrev tm:Stmt:=top 41
def vb:FnScope ["floor","dancer","test","word"] ["floor","dancer","test"] (af tm):=by trivial
abbrev nM:Stmt:=top 42
def i1:FnScope ["floor","dancer","call","place","rule"] ["floor","dancer","call"] (af nM):=by trivial
abbrev nL:Stmt:=top 45
def lQ:FnScope ["floor","dancer","call","some","place"] ["floor","dancer","call","some"] (af nL):=by trivial
abbrev nX:Stmt:=top 17
def s9:FnScope ["thing"] ["thing"] (af nX):=by trivial
abbrev nZ:Stmt:=top 18
def tj:FnScope ["thing"] ["thing"] (af nZ):=by trivial
abbrev l2:Stmt:=top 19
def qL:FnScope ["thing"] ["thing"] (af l2):=by trivial
abbrev nY:Stmt:=top 20
def tf:FnScope ["thing"] ["thing"] (af nY):=by trivial
abbrev qR:Stmt:=top 48
def j4:FnScope ["told","dancer","way"] ["told"] (af qR):=by trivial
abbrev gU:Stmt:=top 31
def kY:FnScope ["facing","way"] ["facing","way"] (af gU):=by trivial
abbrev iP:Stmt:=top 46
def eK:FnScope ["stand","step","going","spot"] ["stand","step"] (af iP):=by trivial
abbrev vf:Stmt:=top 47
def lP:FnScope ["stand","steps","way","step"] ["stand","steps"] (af vf):=by trivial
abbrev adL:Stmt:=top 49
def y7:FnScope ["floor","call","some","steps"] ["floor","call","some"] (af adL):=by trivial
abbrev vg:Stmt:=top 50
def y8:FnScope ["floor","call","some"] ["floor","call","some"] (af vg):=by trivial
abbrev l1:Stmt:=top 75
def dc:FnScope ["_law_floor_here","_law_step_here","_law_found","_law_e"] ["_law_floor_here","_law_step_here"] (af l1):=by trivial
abbrev iO:Stmt:=(mY (top 58)).getD 0 (.Pass ⟨0,0,0,0⟩)
def m9:FnScope ["self","floor"] ["self","floor"] (af iO):=by trivial
abbrev df:Stmt:=(mY (top 58)).getD 2 (.Pass ⟨0,0,0,0⟩)
def fj:FnScope ["self","place","test"] ["self","place","test"] (af df):=by trivial
abbrev de:Stmt:=(mY (top 58)).getD 3 (.Pass ⟨0,0,0,0⟩)
def cI:FnScope ["self","place","call","rule"] ["self","place","call"] (af de):=by trivial
abbrev qN:Stmt:=top 59
def wW:FnScope ["step"] ["step"] (af qN):=by trivial
abbrev fF:Stmt:=top 60
def aV:FnScope ["floor","call","paired","steps","told","place","pair","way"] ["floor","call"] (af fF):=by trivial
abbrev nP:Stmt:=top 73
def eL:FnScope ["_law_floor_here","_law_call","_law_found","_law_e"] ["_law_floor_here","_law_call"] (af nP):=by trivial
abbrev lY:Stmt:=top 76
def bh:FnScope ["_law_floor_here","_law_some","_law_way","_law_stands","_law_left","_law_right","_law_x","_law_y","_law_facing_here","_law_more","_law_most","_law_turn","_law_middle"] ["_law_floor_here","_law_some","_law_way"] (af lY):=by trivial
abbrev ae1:Stmt:=top 79
def gz:FnScope ["_law_script","_law_room_here","_law_far_here","_law_j","_law_floor_here","_law_k","_law_some","_law_step_here","_law_due"] ["_law_script"] (af ae1):=by trivial
structure Txt(w:World)(K:W.Frag)(mg:Str->Option Value)(l9 kb:Tok)(jb jN jM jL jK:Addr)(j9:Tok)(eB lu fV fU fS fR bf gv iF iE eA gu eR jI jJ dP ck iG av i8 mJ bD fm_PairedFloor_pair_holds fm_PairedFloor_pair_steps:Addr):Prop where
 mgA:∀nm v,W.nsIn K mainGlobals nm=some (some v)->mg nm=some v
 g9:mg "DANCERS"=some (.int 8 l9)oj:mg "FARTHEST"=some (.int 200 kb)zY:mg "STEPS"=some (.ref jb)aeN:∀H:Hp,SqT K H jb [.ref jN,.ref jM,.ref jL,.ref jK]yQ:∀H:Hp,SqT K H jN [.int 0,.int 1]yO:∀H:Hp,SqT K H jM [.int (-1),.int 0]yN:∀H:Hp,SqT K H jL [.int 0,.int (-1)]yM:∀H:Hp,SqT K H jK [.int 1,.int 0]xt:mg "QUARTERS"=some (.int 4 j9)pR:mg "QUARTERS_OF"=some (.ref eB)o5:abo w K eB [("same",.int 0),("left",.int 1),("about",.int 2),("right",.int 3)]acv:mg "GOINGS"=some (.ref lu)abN:abo w K lu [("ahead",.ref fV),("back",.ref fU),("left",.ref fS),("right",.ref fR)]wQ:∀H:Hp,SqT K H fV [.int 1,.int 0]wO:∀H:Hp,SqT K H fU [.int (-1),.int 0]wN:∀H:Hp,SqT K H fS [.int 0,.int (-1)]wM:∀H:Hp,SqT K H fR [.int 0,.int 1]nl:WS.noL K=true
 rJ:mg "ValueError"=none
 afw:mg "abs"=none
 afv:mg "all"=none
 ad6:mg "bool"=none
 gc:mg "enumerate"=none
 acp:mg "int"=none
 ay:mg "isinstance"=none
 mx:mg "len"=none
 vE:mg "list"=none
 alo:mg "max"=none
 bS:mg "range"=none
 aco:mg "sorted"=none
 ahZ:mg "str"=none
 g8:mg "tuple"=none
 aln:mg "zip"=none
 dW:mg "FloorError"=some (.ref bf)ic:ExcAt K "FloorError" bf
 zZ:mg "NotEven"=some (.ref gv)aaP:ExcAt K "NotEven" gv
 acu:mg "NoCall"=some (.ref iF)ac4:ExcAt K "NoCall" iF
 acs:mg "NoName"=some (.ref iE)ac3:ExcAt K "NoName" iE
 ua:mg "NoProgram"=some (.ref eA)ui:ExcAt K "NoProgram" eA
 zX:mg "TooMany"=some (.ref gu)aaO:ExcAt K "TooMany" gu
 mz:mg "NoPairs"=some (.ref eR)mO:ExcAt K "NoPairs" eR
 qu:sG K eR none
 afA:mg "NoRow"=some (.ref jI)afT:ExcAt K "NoRow" jI
 afB:mg "Blind"=some (.ref jJ)afU:ExcAt K "Blind" jJ
 ah1:mg "Out"=some (.ref dP)afS:ExcAt K "Out" dP
 ad8:mg "Meet"=some (.ref ck)aaQ:ExcAt K "Meet" ck
 acw:mg "Broken"=some (.ref iG)ac5:ExcAt K "Broken" iG
 xs:ExcAll K
 aiP:∀nm C,ExcAt K nm C->("one":Str)∈WL.fieldsOf nm->W.findIn K (.ref C) "one"=some none/\W.hasDictIn K C=true
 acZ:∀nm C,ExcAt K nm C->("other":Str)∈WL.fieldsOf nm->W.findIn K (.ref C) "other"=some none/\W.hasDictIn K C=true
 aiO:∀nm C,ExcAt K nm C->("who":Str)∈WL.fieldsOf nm->W.findIn K (.ref C) "who"=some none/\W.hasDictIn K C=true
 aj6:W.findIn K (.ref ck) "__init__"=some (some (.ref i8))afO:∃fd,Fun K "__init__" "Meet.__init__" y3 i8 fd
 adR:sG K ck (some (.ref i8))afa:W.typeIn K (.ref i8)=some (.type "function")aew:(W.clsIn K ck).map (·.mro)=some (.ref ck::.ref bf::gF)aev:W.hasDictIn K ck=true
 aeu:W.findIn K (.ref ck) "__setattr__"=some (some (.builtin "object.__setattr__"))t6:W.findIn K (.ref ck) "one"=some none
 pQ:W.findIn K (.ref ck) "other"=some none
 aml:W.findIn K (.ref dP) "__init__"=some (some (.ref mJ))aiI:∃fd,Fun K "__init__" "Out.__init__" adJ mJ fd
 ahk:sG K dP (some (.ref mJ))ahj:W.typeIn K (.ref mJ)=some (.type "function")agG:(W.clsIn K dP).map (·.mro)=some (.ref dP::.ref bf::gF)agE:W.hasDictIn K dP=true
 agD:W.findIn K (.ref dP) "__setattr__"=some (some (.builtin "object.__setattr__"))xj:W.findIn K (.ref dP) "who"=some none
 rd:W.readsIn K bf (.type "type")=true
 rf:W.findCls K (.ref bf) (.type "type") "__init__"=some (.val (.builtin "ValueError.__init__"))rs:W.specialIn K (.ref bf) "__getattribute__"=some (some (.builtin "type.__getattribute__"))pS:mg "PairedFloor"=some (.ref av)z1_PairedFloor:W.makesIn K av=true
 z2_PairedFloor:W.findIn K (.ref av) "__init__"=some (some (.ref bD))nu:∃fd,Fun K "__init__" "PairedFloor.__init__" iO bD fd
 z3_PairedFloor:W.isFn K (.ref bD)=true
 z4_PairedFloor:W.keepIn K (.ref av)=true
 z5_PairedFloor:W.plainGet K av Str.empty=true
 z6_PairedFloor:W.hasDictIn K av=true
 z7_PairedFloor:W.plainOver K av=true
 z8_PairedFloor:W.findIn K (.ref av) "__setattr__"=some (some (.builtin "object.__setattr__"))iH:fg K av "floor"cE:fg K av "pairs"dG:fg K av "middles"cC:W.nsIn K mainGlobals (Str.ofString "PairedFloor")=some (some (.ref av))y1_PairedFloor_pair_holds:W.findIn K (.ref av) "pair_holds"=some (some (.ref fm_PairedFloor_pair_holds))y2_PairedFloor_pair_holds:W.isFn K (.ref fm_PairedFloor_pair_holds)=true
 y3_PairedFloor_pair_holds:W.keepIn K (.ref fm_PairedFloor_pair_holds)=true
 cJ:∃fd,Fun K "pair_holds" "PairedFloor.pair_holds" df fm_PairedFloor_pair_holds fd
 y1_PairedFloor_pair_steps:W.findIn K (.ref av) "pair_steps"=some (some (.ref fm_PairedFloor_pair_steps))y2_PairedFloor_pair_steps:W.isFn K (.ref fm_PairedFloor_pair_steps)=true
 y3_PairedFloor_pair_steps:W.keepIn K (.ref fm_PairedFloor_pair_steps)=true
 fq:∃fd,Fun K "pair_steps" "PairedFloor.pair_steps" de fm_PairedFloor_pair_steps fd
 qf:AtD K "_law_cell_at" jm
 xK:AtD K "_law_room" nS
 xH:AtD K "_law_take" nQ
 aa4:AtD K "_law_far" qQ
 sd:AtD K "_law_facing" kI
 xM:AtD K "_law_from" nU
 xN:AtD K "_law_both" nV
 uv:AtD K "_law_floor" lZ
 aa1:AtD K "spot_of" qO
 ac9:AtD K "who_at" vd
 uq:AtD K "spot_from" lW
 r6:AtD K "right_hand" kG
 nB:AtD K "pairs_of_row" iQ
 xE:AtD K "row_from" nN
 mU:AtD K "first_meeting" gW
 ade:AtD K "beside" vh
 r9:AtD K "middles_of" kH
 xF:AtD K "pairs_on" nO
 uw:AtD K "_law_class" l0
 k8:AtD K "_law_pairs_told" gA
 xI:AtD K "_law_step" nR
 ur:AtD K "_law_whole" lX
 xJ:AtD K "_law_same" j5
 aa3:AtD K "_law_met" qP
 xR:AtD K "floor_of" n3
 afY:AtD K "holds" tm
 xD:AtD K "rule_for" nM
 xC:AtD K "steps_of" nL
 xO:AtD K "is_whole" nX
 xQ:AtD K "is_place" nZ
 uy:AtD K "is_facing" l2
 xP:AtD K "is_stand" nY
 aa5:AtD K "kept_in" qR
 mT:AtD K "turned_facing" gU
 nA:AtD K "stand_behind" iP
 ada:AtD K "way_of" vf
 ai3:AtE K "ways" adL #[.none]adb:AtE K "danced" vg #[.none]ux:AtD K "_law_alone" l1
 aa0:AtD K "widened" qN
 ku:AtD K "danced_by_pairs" fF
 xG:AtD K "_law_told" nP
 uu:AtD K "_law_round" lY
 al1:AtD K "law" ae1
variable{P:Program}{w:World}{K:W.Frag}{mg:Str->Option Value}{base:Heap}{l9 kb:Tok}{jb jN jM jL jK:Addr}{j9:Tok}{eB lu fV fU fS fR bf gv iF iE eA gu eR jI jJ dP ck iG av i8 mJ bD fm_PairedFloor_pair_holds fm_PairedFloor_pair_steps:Addr}
def zh:RelV (.ref jb) (.ref jb):=rfl
variable(T:Txt w K mg l9 kb jb jN jM jL jK j9 eB lu fV fU fS fR bf gv iF iE eA gu eR jI jJ dP ck iG av i8 mJ bD fm_PairedFloor_pair_holds fm_PairedFloor_pair_steps)
include T
theorem yD:∀F,RW K F kA (.ref jb):=λF=>by simp only[RW,RWs,kA];exact⟨_,_,rfl,T.aeN F,_,_,rfl,⟨_,_,rfl,T.yQ F,_,_,rfl,rfl,_,_,rfl,rfl,rfl⟩,_,_,rfl,⟨_,_,rfl,T.yO F,_,_,rfl,rfl,_,_,rfl,rfl,rfl⟩,_,_,rfl,⟨_,_,rfl,T.yN F,_,_,rfl,rfl,_,_,rfl,rfl,rfl⟩,_,_,rfl,⟨_,_,rfl,T.yM F,_,_,rfl,rfl,_,_,rfl,rfl,rfl⟩,rfl⟩
theorem oW:∀F k u,WL.mV k [.str "same",.str "left",.str "about",.str "right"] [.int 0,.int 1,.int 2,.int 3]=some u->∃v,List.lookup k [(("same":Str),(.int 0:V)),(("left":Str),(.int 1:V)),(("about":Str),(.int 2:V)),(("right":Str),(.int 3:V))]=some v/\RW K F u v:=λF=>hZ (by simp[RW]) (hZ (by simp[RW]) (hZ (by simp[RW]) (hZ (by simp[RW]) aee)))
theorem abK:∀F k u,WL.mV k [.str "ahead",.str "back",.str "left",.str "right"] [.tup [.int 1,.int 0],.tup [.int (-1),.int 0],.tup [.int 0,.int (-1)],.tup [.int 0,.int 1]]=some u->∃v,List.lookup k [(("ahead":Str),(.ref fV:V)),(("back":Str),(.ref fU:V)),(("left":Str),(.ref fS:V)),(("right":Str),(.ref fR:V))]=some v/\RW K F u v:=λF=>hZ (by simp only[RW,RWs];exact⟨_,_,rfl,T.wQ F,⟨_,_,rfl,rfl,⟨_,_,rfl,rfl,rfl⟩⟩⟩) (hZ (by simp only[RW,RWs];exact⟨_,_,rfl,T.wO F,⟨_,_,rfl,rfl,⟨_,_,rfl,rfl,rfl⟩⟩⟩) (hZ (by simp only[RW,RWs];exact⟨_,_,rfl,T.wN F,⟨_,_,rfl,rfl,⟨_,_,rfl,rfl,rfl⟩⟩⟩) (hZ (by simp only[RW,RWs];exact⟨_,_,rfl,T.wM F,⟨_,_,rfl,rfl,⟨_,_,rfl,rfl,rfl⟩⟩⟩) aee)))
theorem zj:ExcS K ck:=aaJ T.xs T.aaQ T.aew T.aev T.aeu
theorem rE:aj1 P w K mg base i8 ["self","one","other"] (spI ck ["one","other"]):=aap T.afO (λ_ _ _ _ _ _ h g=>uF (λ_ _ _=>rfl) h g) λj i=>acN i abR (by decide) (by decide) (λ_ _ _ _ e c d f=>all_cons (ri (by decide)) (all_cons (zE e d) (all_cons (ri (by decide)) (all_cons (zE c f) (all_cons (ri (by decide)) all_nil))))) λb A a s H E hr=>eZ (me (vv (by rfl) T.dW T.rd T.rf T.rs T.adR (bL (pv 0) (bL (tI (.cons kK (.cons (vt (pv 1)) (.cons kK (.cons (vt (pv 2)) (.cons kK .nil)))))) e7)))) (eZ (ahp (zj T) T.t6 (pv 0) (pv 1) rfl) (ma (akN (zj T) T.pQ (pv 0) (pv 2) rfl)))
theorem ahi:ExcS K dP:=aaJ T.xs T.afS T.agG T.agE T.agD
theorem tW:aj1 P w K mg base mJ ["self","who"] (spI dP ["who"]):=aap T.aiI (λ_ _ _ _ _ _ e d=>uG (λ_ _=>rfl) e d) λh g=>acO g aeZ (by decide) (λ_ _ _ f c=>all_cons (ri (by decide)) (all_cons (zE f c) (all_cons (ri (by decide)) all_nil))) λb A a s H E hr=>eZ (me (vv (by rfl) T.dW T.rd T.rf T.rs T.ahk (bL (pv 0) (bL (tI (.cons kK (.cons (vt (pv 1)) (.cons kK .nil)))) e7)))) (ma (ahp (ahi T) T.xj (pv 0) (pv 1) rfl))
theorem nq:Mk K av bD:=⟨T.z1_PairedFloor,T.z2_PairedFloor,T.z3_PairedFloor,T.z4_PairedFloor⟩
theorem bM:Cls K av:=⟨T.z5_PairedFloor,T.z6_PairedFloor,T.z7_PairedFloor,T.z8_PairedFloor⟩
theorem iS:Cal P w K mg base CX0 1 "_law_cell_at" ["_law_script","_law_k"] [] (spW K 2 bX):=T.qf.dN T.mgA fZ m8 λhB hr hx hp=>ak (dC (cH kz w_lt (va 1) (wB dA (lB hB.symm) T.mx aoE (aa (va 0) ah)) (dv _)) (ao (aD (wx hB (va 0) (va 1)))) aY) (ao (aD ag))
theorem tT:Cal P w K mg base CX0 41 "_law_room" ["_law_script"] [] (spW K 1 eG):=T.xK.dN T.mgA ip lU λhB hr hx hp=>(ak (wS 1 lU.nd (aK aH (w_add hB.symm) (dr (ts:=["_law_cell"]) ⟨rfl,rfl,rfl,rfl,rfl⟩ (cm hr) rfl (aM (by decide)) (fB hB.symm (va 0)) (λ_ _ _ _=>gN 0) (λ_ _ _ _=>dF) λ_ _ _ _=>aK dS w_mod (va 0) ag) (cf (aa ag ah)))) (ak (dC (we2 hB hr.units (aK dS w_mod (cl hB hr (iS T) (aa (va 0) (aa ag ah))) ag) ag) (ao (aD (yp (fX aO (wB qi aeK T.afw boot_abs (aa (cl hB hr (iS T) (aa (va 0) (aa ag ah))) ah)) (fX aO (jf cj jg ag) (fX aO (va 1) yv)))))) aY) (ao (aD (yp (fX aO ag (fX aO ag (fX aO (va 1) yv))))))))
theorem aL:Cal P w K mg base CX0 1 "_law_take" ["_law_room_here","_law_many"] [] (spY K 1 ar):=T.xH.cal T.mgA (λ_ _ _ _ _ _ d c=>uG (λ_ _=>rfl) d c) λ_ _ e=>mS jW e cU rfl rfl rfl (by decide) λb A a s H E B z hB hr hp=>(aC (yS 2 cU.nd (ajh (wx hB (va 0) aO))) (aC (oK (amk (PW.pt (uR (cH kz w_lt (va 2) ag (dv _)) (oN (we2 hB hr.units (wx hB (va 0) aO) ag))))) (bH (yS 2 cU.nd (cF ag))) gI) (aC (oK (amk (PW.pt (uR (cH abe anc (va 2) ag (dv _)) (oN (cH kz w_lt (wx hB (va 0) aO) (aK wg w_pow ag ag) (dv _)))))) (aC (yS 3 cU.nd (ajh (wx hB (wx hB (va 0) aO) (aK dS w_mod (va 2) (wB dA (lB hB.symm) T.mx aoE (aa (wx hB (va 0) aO) ah)))))) (aC (yS 4 cU.nd (cF (aK dS w_mod (aK aU w_mul (aK aH (w_add hB.symm) (aK aH (w_add hB.symm) (aK aH (w_add hB.symm) (va 3) (aK aU w_mul (aK aU w_mul ag (va 2)) (va 2))) (va 2)) ag) ag) ag))) (aC (yS 5 cU.nd (cF (aK dS w_mod (aK aH (w_add hB.symm) (aK aH (w_add hB.symm) (aK aU w_mul (va 4) (va 4)) (aK aU w_mul (aK aU w_mul ag (va 2)) (va 2))) ag) ag))) (aC (x9 (n:=0) hr.units (pv 0) (cF (aK aH (w_add hB.symm) (aK aU w_mul (va 5) ag) (aK aU w_mul (va 4) ag))) rfl) (bH (x9 (n:=1) hr.units (pv 0) (cF (aK aH (w_add hB.symm) (va 2) ag)) rfl)))))) gI) (aC (yS 6 cU.nd (ajh (aK dS w_mod (wx hB (va 0) aO) (va 1)))) (aC (x9 (n:=0) hr.units (pv 0) (ajh (aK lp w_div (wx hB (va 0) aO) (va 1))) rfl) (bH (kD (cF (va 6)))))))))
theorem xh:Cal P w K mg base CX0 2 "_law_far" ["_law_room_here"] [] (spY K 0 ia):=T.aa4.cal T.mgA (λ_ _ _ _ _ _ d c=>bind1 (λ_=>rfl) d c) λ_ _ e=>mS lJ e wY rfl rfl rfl (by decide) λb A a s H E B z hB hr hp=>bH (kD (agz hB (cF (cf (aa ag (aa ag (aa ag (aa ag (aa (jf cj jg ag) ah))))))) (clY hB hr (aL T) (pv 0) (aX (cF ag) bO))))
theorem pL:Cal P w K mg base CX0 2 "_law_facing" ["_law_room_here"] [] (spY K 0 dj):=T.sd.cal T.mgA (λ_ _ _ _ _ _ d c=>bind1 (λ_=>rfl) d c) λ_ _ e=>mS gQ e ph rfl rfl rfl (by decide) λb A a s H E B z hB hr hp=>bH (kD (agz hB (agy (aX (clY hB hr (aL T) (pv 0) (aX (cF ag) bO)) (aX (cF ag) (aX (kS w_mul (clY hB hr (aL T) (pv 0) (aX (cF ag) bO)) (cF ag)) bO)))) (clY hB hr (aL T) (pv 0) (aX (cF ag) bO))))
theorem eN:Cal P w K mg base CX0 41 "_law_from" ["_law_stand","_law_ahead","_law_right"] [] (spW K 3 cB):=T.xM.dN T.mgA jX dI λhB hr hx hp=>ak (nD (va 0) (iM hB.symm (cm hr) (aZ (gN 3 dI.nd) (aZ (gN 4 dI.nd) (aZ (gN 5 dI.nd) fh))) rfl (bz (bz (bz iW))) dw) (vM dw)) (ak (nD (wx hB (cf (aa (bg (aa ag (aa ag ah))) (aa (bg (aa (jf cj jg ag) (aa ag ah))) (aa (bg (aa ag (aa (jf cj jg ag) ah))) (aa (bg (aa ag (aa ag ah))) ah))))) (va 5)) (iM hB.symm (cm hr) (aZ (gN 6 dI.nd) (aZ (gN 7 dI.nd) fh)) rfl (bz (bz iW)) dw) (vM dw)) (ao (aD (bg (aa (aK aH (w_add hB.symm) (aK aH (w_add hB.symm) (va 3) (aK aU w_mul (va 1) (va 6))) (aK aU w_mul (va 2) (va 7))) (aa (aK gp w_sub (aK aH (w_add hB.symm) (va 4) (aK aU w_mul (va 1) (va 7))) (aK aU w_mul (va 2) (va 6))) ah))))))
theorem mn:Cal P w K mg base CX0 42 "_law_both" ["_law_x","_law_y","_law_facing_here"] [] (spW K 3 dk):=T.xN.dN T.mgA jY sZ λhB hr hx hp=>ao (aD (cf (aa (aK aH (w_add hB.symm) (cl hB hr (eN T) (aa (bg (aa (va 0) (aa (va 1) (aa (va 2) ah)))) (aa ag (aa (jf cj jg ag) ah)))) (bg (aa (va 2) ah))) (aa (aK aH (w_add hB.symm) (cl hB hr (eN T) (aa (bg (aa (va 0) (aa (va 1) (aa (va 2) ah)))) (aa ag (aa ag ah)))) (bg (aa (va 2) ah))) ah))))
theorem rB:Cal P w K mg base CX0 43 "_law_floor" ["_law_room_here","_law_far_here"] [] (spY K 1 i9):=T.uv.cal T.mgA (λ_ _ _ _ _ _ d c=>uG (λ_ _=>rfl) d c) λ_ _ e=>mS fY e aA rfl rfl rfl (by decide) λb A a s H E B z hB hr hp=>(aC (ySO 2 aA.nd (yk hB.symm (cm hr) (by rfl) T.vE (by rfl) T.bS ag)) (aC (aer (i:=3) aA.nd rfl rfl (by rfl) (ts:=["_law_k"]) ⟨rfl,rfl,rfl,rfl,rfl⟩ (cm hr) rfl (by rfl) T.bS (cF ag) (λ_ _ _ _=>gP 0) (λ_ _ _ _=>agF) λ_ _ _ _=>(agx (i:=3) (zB aoY PySem.F.slot_list_pop PySem.F.type_list_pop acq (pv 3) (bL (clY hB hr (aL T) (pv 1) (aX (cF (aK gp w_sub ag (va 0))) bO)) e7)))) (aC (yS 4 aA.nd (cF (cf ah))) (aC (aet (i:=5) aA.nd) (aC (yS 6 aA.nd (agA (w_eq hB.symm hr.units) (clY hB hr (aL T) (pv 0) (aX (cF ag) bO)) (cF ag) (dv _))) (aC (yS 7 aA.nd (clY hB hr (aL T) (pv 0) (aX (cF ag) bO))) (aC (ya hp (cm hr) (by rfl) T.bS (cF ag) (gP 8 aA.nd) (show PSs _ _ (loW _ _ _ K53.bC)from(aC (yS 9 aA.nd (kS (w_add hB.symm) (kS (w_add hB.symm) (kS w_sub (kS w_mul (clY hB hr (aL T) (pv 0) (aX (cF ag) bO)) (cF ag)) (cF ag)) (kS w_div (clY hB hr (aL T) (pv 0) (aX (cF ag) bO)) (cF ag))) (cF (va 1)))) (aC (yS 10 aA.nd (kS w_sub (kS w_sub (clY hB hr (aL T) (pv 0) (aX (cF ag) bO)) (cF ag)) (cF (va 1)))) (aC (yS 11 aA.nd (clY hB hr (pL T) (pv 0) bO)) (aC (oK (agd (fA (va 6))) (aC (yS 11 aA.nd (cF (va 7))) (bH (ads (is:=[9,10]) hB (cm hr) (cF (cl hB hr (eN T) (aa (bg (aa (va 1) (aa (aK gp w_sub ag (va 1)) (aa (va 11) ah)))) (aa ag (aa (aK gp w_sub (aK aU w_mul ag (va 8)) ag) ah))))) (iw (i4 (i:=9) aA.nd rfl (Or.inl rfl)) (iw (i4 (i:=10) aA.nd rfl (Or.inl rfl)) tH))))) gI) (aC (yS 12 aA.nd (cF (cl hB hr (mn T) (aa (va 9) (aa (va 10) (aa (va 11) ah)))))) (aC (abv hp (show PT _ _ (loT _ K53.cz)from PW.pt (yf (cH mZ (agV hB.symm hr.units) (qz (adB hB.symm) (wx hB (va 12) ag) gL (gK ag)) (va 4) (by rfl)) (uQ (cH mZ (agV hB.symm hr.units) (qz (adB hB.symm) (wx hB (va 12) ag) gL (gK ag)) (va 4) (by rfl))))) (show PSs _ _ (loW _ _ _ K53.bU)from aC (yS 10 aA.nd (cF (aK aH (w_add hB.symm) (va 10) (wx hB (cf (aa ag (aa (jf cj jg ag) ah))) (wT sh adC T.acp boot_int (aa (yq kz w_lt (va 1) ag (dv _)) ah)))))) (bH (yS 12 aA.nd (cF (cl hB hr (mn T) (aa (va 9) (aa (va 10) (aa (wx hB (wx hB (va 12) ag) ag) ah))))))))) (aC (yS 4 aA.nd (cF (aK aH (w_add hB.symm) (va 4) (cf (aa (qz (adB hB.symm) (wx hB (va 12) ag) gL (gK ag)) (aa (qz (adB hB.symm) (wx hB (va 12) ag) gL (gK ag)) ah)))))) (aC (sQ (i:=5) (un1 hr.units) (pv 5) (cF (wx hB (va 3) (aK aU w_mul ag (va 8)))) (cF (wx hB (va 12) ag))) (bH (sQ (i:=5) (un1 hr.units) (pv 5) (cF (wx hB (va 3) (aK aH (w_add hB.symm) (aK aU w_mul ag (va 8)) ag))) (cF (wx hB (va 12) ag)))))))))))))) (aC (oK (agB (w_eq hB.symm hr.units) (clY hB hr (aL T) (pv 0) (aX (cF ag) bO)) (cF ag) (dv _)) (aC (yS 13 aA.nd (clY hB hr (aL T) (pv 0) (aX (cF ag) bO))) (aC (ads (is:=[9,10,11]) hB (cm hr) (cF (yu (i:=5) (wxD hB (va 5) (va 13)))) (iw (i4 (i:=9) aA.nd rfl (Or.inl rfl)) (iw (i4 (i:=10) aA.nd rfl (Or.inl rfl)) (iw (i4 (i:=11) aA.nd rfl (Or.inl rfl)) tH)))) (bH (sQ (i:=5) (un1 hr.units) (pv 5) (cF (va 13)) (adq (aX (cF (va 9)) (aX (cF (va 10)) (aX (kS w_mod (kS (w_add hB.symm) (cF (aK aH (w_add hB.symm) (va 11) ag)) (clY hB hr (aL T) (pv 0) (aX (cF ag) bO))) (cF ag)) bO)))))))) gI) (bH (agC (i:=5) (kD (cF (wT ky (sU hB.symm) T.g8 apx (aa (dr (ts:=["_law_k"]) ⟨rfl,rfl,rfl,rfl,rfl⟩ (cm hr) rfl (aM (by decide)) (eH (by rfl) T.bS ag) (λ_ _ _ _=>gN 0) (λ_ _ _ _=>dF) λ_ _ _ _=>wxD hB (va 6) (va 0)) ah))))))))))))))
theorem kg:Cal P w K mg base CX0 1 "spot_of" ["stand"] [] (spW K 1 h8):=T.aa1.dN T.mgA qF wX λhB hr hx hp=>ao (aD (bg (aa (wx hB (va 0) ag) (aa (wx hB (va 0) ag) ah))))
theorem zM:Cal P w K mg base CX0 41 "who_at" ["floor","spot"] [] (spW K 2 p6):=T.ac9.dN T.mgA uW lO λhB hr hx hp=>ak (eT hp (cm hr) (oQ hB.symm (by rfl) T.gc (va 0)) (iM hB.symm (cm hr) (aZ (gN 2 lO.nd) (aZ (gN 3 lO.nd) fh)) rfl (bz (bz iW)) dw) (show PSs _ _ (loS _ K53.fH)from ao (dC (we2 hB hr.units (cl hB hr (kg T) (aa (va 3) ah)) (va 1)) (ao (aD (va 2))) aY))) (ao (aD gw))
theorem gZ:Cal P w K mg base CX0 1 "spot_from" ["stand","ahead","right"] [] (spW K 3 dM):=T.uq.dN T.mgA iY eW λhB hr hx hp=>ak (wS 3 eW.nd (wx hB (wk hB T.zY zh (yD T)) (wx hB (va 0) ag))) (ak (wS 4 eW.nd (aK aH (w_add hB.symm) (aK aU w_mul (wx hB (va 3) ag) (va 1)) (aK aU w_mul (wx hB (va 3) ag) (va 2)))) (ak (wS 5 eW.nd (aK gp w_sub (aK aU w_mul (wx hB (va 3) ag) (va 1)) (aK aU w_mul (wx hB (va 3) ag) (va 2)))) (ao (aD (bg (aa (aK aH (w_add hB.symm) (wx hB (va 0) ag) (va 4)) (aa (aK aH (w_add hB.symm) (wx hB (va 0) ag) (va 5)) ah)))))))
theorem pK:Cal P w K mg base CX0 42 "right_hand" ["floor","dancer"] [] (spW K 2 dh):=T.r6.dN T.mgA eV f7 λhB hr hx hp=>ak (wS 2 f7.nd (wx hB (va 0) (va 1))) (ak (wS 3 f7.nd (cl hB hr (zM T) (aa (va 0) (aa (cl hB hr (gZ T) (aa (va 2) (aa ag (aa ag ah)))) ah)))) (ao (aD (agQ (PW.pt (uR (cH fQ lC (va 3) gw (dv _)) (oN (we2 hB hr.units (wx hB (wx hB (va 0) (va 3)) ag) (wx hB (va 2) ag))))) (va 3) gw))))
theorem mm:Cal P w K mg base (CXX P w) 41 "pairs_of_row" ["row"] [] (spX K 1 cL):=T.nB.dX T.mgA dR lS λhB hr hx hp=>(ak (dC (wn2 hB hr.units (aK dS w_mod (wB dA (lB hB.symm) T.mx aoE (aa (va 0) ah)) ag) ag) (ao (yh hB.symm hx (cm hr) (by rfl) T.mz T.qu T.mO rfl (ana (am9 hB.symm hr.units hr.gd (va 0) agL)))) aY) (ao (aD (dr (ts:=["place"]) ⟨rfl,rfl,rfl,rfl,rfl⟩ (cm hr) rfl (aM (by decide)) (aeD (by rfl) T.bS ag (wB dA (lB hB.symm) T.mx aoE (aa (va 0) ah))) (λ_ _ _ _=>gN 0) (λ_ _ _ _=>dF) λ_ _ _ _=>bg (aa (wx hB (va 1) (va 0)) (aa (wx hB (va 1) (aK aH (w_add hB.symm) (va 0) ag)) ah))))))
theorem tP:Cal P w K mg base CX0 1 "row_from" ["hands","first"] [] (spW K 2 iz):=T.xE.dN T.mgA jU lR λhB hr hx hp=>(ak (sR (i:=2) lR.nd rfl (Or.inl rfl) (yj (aa (va 1) ah))) (ak (aby hp (show PT _ _ (loT _ K53.dg)from(adu (i:=2) (cH fQ lC (wx hB (va 0) (wx hB (va 2) (jf cj jg ag))) gw (dv _)))) (show PSs _ _ (loS _ K53.e8)from(ao (adw hB.symm (me (zB aoY aqG aqH rK (pv 2) (bL (yu (i:=2) (wx hB (va 0) (wx hB (va 2) (jf cj jg ag)))) e7))))))) (ao (qy (i:=2) (aD (va 2))))))
theorem gC:Cal P w K mg base CX0 41 "first_meeting" ["stands"] [] (spW K 1 bo):=T.mU.dN T.mgA du dZ λhB hr hx hp=>ak (eT hp (cm hr) (eH (by rfl) T.bS (wB dA (lB hB.symm) T.mx aoE (aa (va 0) ah))) (gN 1 dZ.nd) (show PSs _ _ (loS _ K53.cA)from ao (eT hp (cm hr) (ym (by rfl) T.bS (aK aH (w_add hB.symm) (va 1) ag) (wB dA (lB hB.symm) T.mx aoE (aa (va 0) ah))) (gN 2 dZ.nd) (show PSs _ _ (loS _ K53.aR)from ao (dC (we2 hB hr.units (cl hB hr (kg T) (aa (wx hB (va 0) (va 1)) ah)) (cl hB hr (kg T) (aa (wx hB (va 0) (va 2)) ah))) (ao (aD (bg (aa (va 1) (aa (va 2) ah))))) aY))))) (ao (aD gw))
theorem mv:Cal P w K mg base CX0 2 "beside" ["stand","right"] [] (spW K 2 fc):=T.ade.dN T.mgA o4 qM λhB hr hx hp=>ak (wS 2 qM.nd (cl hB hr (gZ T) (aa (va 0) (aa ag (aa (va 1) ah))))) (ao (aD (bg (aa (wx hB (va 2) ag) (aa (wx hB (va 2) ag) (aa (wx hB (va 0) ag) ah))))))
theorem jv:Cal P w K mg base CX0 41 "middles_of" ["floor","pairs"] [] (spW K 2 bP):=T.r9.dN T.mgA gM pf λhB hr hx hp=>(ao (aD (dr (ts:=["pair"]) ⟨rfl,rfl,rfl,rfl,rfl⟩ (cm hr) rfl (aM (by decide)) (fB hB.symm (va 1)) (λ_ _ _ _=>gN 0) (λ_ _ _ _=>dF) λ_ _ _ _=>cl hB hr (mv T) (aa (wx hB (va 1) (wx hB (va 0) ag)) (aa ag ah)))))
theorem ml:Cal P w K mg base (CXX P w) 43 "pairs_on" ["floor"] [] (spX K 1 di):=T.xF.dX T.mgA jV f9 λhB hr hx hp=>(ak (aeB (i:=1) f9.nd rfl rfl (by rfl) (ts:=["dancer"]) ⟨rfl,rfl,rfl,rfl,rfl⟩ (cm hr) rfl (aM (by decide)) (eH (by rfl) T.bS (wki hB T.g9)) (λ_ _ _ _=>gN 0) (λ_ _ _ _=>dF) λ_ _ _ _=>cl hB hr (pK T) (aa (va 1) (aa (va 0) ah))) (ak (sR (i:=2) f9.nd rfl (Or.inl rfl) (yj ah)) (ak (eT hp (cm hr) (eH (by rfl) T.bS (wki hB T.g9)) (gN 3 f9.nd) (show PSs _ _ (loS _ K53.aE)from(ao (dC (cH oF (yB hB.symm hr.units) (va 3) (va 1) (by rfl)) (ao (agK (i:=2) hB.symm T.nl (me (zB aoY PySem.F.slot_list_extend PySem.F.type_list_extend afx (pv 2) (bL (clX hB hr hx (mm T) (aa (cl hB hr (tP T) (aa (va 1) (aa (va 3) ah))) ah)) e7))))) aY)))) (ak (dC (adu (i:=2) (cH fQ lC (cl hB hr (gC T) (aa (cl hB hr (jv T) (aa (va 0) (aa (va 2) ah))) ah)) gw (dv _))) (ao (abB hB.symm hx (cm hr) (by rfl) T.mz T.qu T.mO rfl (aa aO ah))) aY) (ao (qy (i:=2) (aD (wB xT (aeJ hB.symm) T.aco boot_sorted (aa (va 2) ah)))))))))
theorem g0:Cal P w K mg base CX0 1 "_law_class" ["_law_e"] [] (spW K 1 cw):=T.uw.dN T.mgA lK eY λhB hr hx hp=>ak (wS 1 eY.nd (cf (aa (wB cT (kT hB.symm T.xs) T.ay an4 (aa (va 0) (aa (wcl hB T.afB T.afU) ah))) (aa (wB cT (kT hB.symm T.xs) T.ay an4 (aa (va 0) (aa (wcl hB T.ah1 T.afS) ah))) (aa (wB cT (kT hB.symm T.xs) T.ay an4 (aa (va 0) (aa (wcl hB T.ad8 T.aaQ) ah))) (aa (wB cT (kT hB.symm T.xs) T.ay an4 (aa (va 0) (aa (wcl hB T.mz T.mO) ah))) ah)))))) (ak (wS 2 eY.nd (cf (aa (wB cT (kT hB.symm T.xs) T.ay an4 (aa (va 0) (aa (wcl hB T.acw T.ac5) ah))) (aa (wB cT (kT hB.symm T.xs) T.ay an4 (aa (va 0) (aa (wcl hB T.acu T.ac4) ah))) (aa (wB cT (kT hB.symm T.xs) T.ay an4 (aa (va 0) (aa (wcl hB T.acs T.ac3) ah))) (aa (wB cT (kT hB.symm T.xs) T.ay an4 (aa (va 0) (aa (wcl hB T.ua T.ui) ah))) ah)))))) (ak (wS 2 eY.nd (aK aH (w_add hB.symm) (va 2) (cf (aa (wB cT (kT hB.symm T.xs) T.ay an4 (aa (va 0) (aa (wcl hB T.afA T.afT) ah))) (aa (wB cT (kT hB.symm T.xs) T.ay an4 (aa (va 0) (aa (wcl hB T.zZ T.aaP) ah))) (aa (wB cT (kT hB.symm T.xs) T.ay an4 (aa (va 0) (aa (wcl hB T.zX T.aaO) ah))) ah)))))) (ak (dC (PW.pt (yf (wn2 hB hr.units (abC hB.symm hr.units (va 1) (aa oS ah)) ag) (yf (cH mZ (agV hB.symm hr.units) oS (va 2) (by rfl)) (uQ (qv (fA (wB cT (kT hB.symm T.xs) T.ay an4 (aa (va 0) (aa (wty T.rJ m3) ah))))))))) (ao (aD (cf (aa aO ah)))) aY) (ak (dC (fA (wx hB (va 1) ag)) (ao (aD (cf (aa aO ah)))) aY) (ak (dC (fA (wx hB (va 1) ag)) (ao (aD (cf (aa aO (aa (yo hB.symm T.xs T.aiP (va 0) rfl) (aa (yo hB.symm T.xs T.acZ (va 0) rfl) ah)))))) aY) (ao (aD (cf (aa (wx hB (cf (aa aO (aa aO ah))) (wT sh adC T.acp boot_int (aa (wx hB (va 1) ag) ah))) (aa (yo hB.symm T.xs T.aiO (va 0) rfl) ah))))))))))
theorem kh:Cal P w K mg base CX0 44 "_law_pairs_told" ["_law_floor_here"] [] (spW K 1 bB):=T.k8.dN T.mgA cQ bK λhB hr hx hp=>(ak (wS 1 bK.nd (cf ah)) (ak (oO (tb:=K53.cg) (th:=K53.dt) (i:=2) hB.symm rfl rfl bK.nd rfl rfl (by rfl) T.dW (λb c h=>T.xs.ex b c _ _ h T.ic) (λ_ _ B hB hx hp=>ao (wS 1 bK.nd (clX hB hr hx (ml T) (aa (va 0) ah)))) λa B hB hx=>have hr:=hr.sui (v:=some (.ref a)) (by decide);ao (wS 1 bK.nd (cl hB hr (g0 T) (aa (va 2) ah)))) (ao (aD (va 1)))))
theorem tR:Cal P w K mg base CX0 2 "_law_step" ["_law_room_here"] [] (spY K 0 eF):=T.xI.cal T.mgA (λ_ _ _ _ _ _ d c=>bind1 (λ_=>rfl) d c) λ_ _ e=>mS ik e lT rfl rfl rfl (by decide) λb A a s H E B z hB hr hp=>aC (yS 1 lT.nd (clY hB hr (aL T) (pv 0) (aX (cF ag) bO))) (aC (oK (agd (cH uC amo (va 1) ag (dv _))) (bH (kD (cF (bg (aa aO (aa (wx hB (cf (aa aO (aa aO (aa aO ah)))) (aK gp w_sub (va 1) ag)) ah)))))) gI) (bH (kD (adq (aX (cF (wx hB (cf (aa aO (aa aO (aa aO (aa aO (aa aO ah)))))) (va 1))) (aX (kS (w_add hB.symm) (cF ag) (clY hB hr (aL T) (pv 0) (aX (cF ag) bO))) bO))))))
theorem rz:Cal P w K mg base CX0 1 "_law_whole" ["_law_found"] [] (spW K 1 mK):=T.ur.dN T.mgA lI qK λhB hr hx hp=>ao (aD (kF (wB bt (cP hB.symm) T.ay an4 (aa (va 0) (aa (wty T.acp boot_int) ah))) (lA (adA (wB bt (cP hB.symm) T.ay an4 (aa (va 0) (aa (wty T.ad6 boot_bool) ah)))))))
theorem kL{f:Addr}{c:FuncData}(b:Fun K "_law_same" "_law_same" j5 f c)(g:mg "_law_same"=some (.ref f))(e:Binds K c ["_law_found","_law_due"] []):∀n:Nat,FnOk P w K mg base CX0 (40+n) f c ["_law_found","_law_due"] (spW K 2 (aI n))|0=>aaW b gb rfl|n+1=>have a:=kL b g e n;qe (il (aI n)) b gb rfl rfl rfl (by decide) λh A d s H E B hB hr hx hp=>(ak (dC (fA (wB sg (yC hB.symm) T.ay an4 (aa (va 1) (aa (bg (aa (wty T.vE boot_list) (aa (wty T.g8 apx) ah))) ah)))) (ak (dC (PW.pt (yf (wn2 hB hr.units (wB bt (cP hB.symm) T.ay an4 (aa (va 0) (aa (wty T.vE boot_list) ah))) (wB bt (cP hB.symm) T.ay an4 (aa (va 1) (aa (wty T.vE boot_list) ah)))) (uQ (wn2 hB hr.units (wB bt (cP hB.symm) T.ay an4 (aa (va 0) (aa (wty T.g8 apx) ah))) (wB bt (cP hB.symm) T.ay an4 (aa (va 1) (aa (wty T.g8 apx) ah))))))) (ao (aD oS)) aY) (ak (dC (wn2 hB hr.units (wB dA (lB hB.symm) T.mx aoE (aa (va 0) ah)) (wB dA (lB hB.symm) T.mx aoE (aa (va 1) ah))) (ao (aD oS)) aY) (ak (eT hp (cm hr) (agM hB.symm (by rfl) T.aln (va 0) (va 1)) (iM hB.symm (cm hr) (aZ (gN 2 gb.nd) (aZ (gN 3 gb.nd) fh)) rfl (bz (bz iW)) dw) (show PSs _ _ (loS _ (K53.e9 (K53.aI n)))from ao (dC (qv (fA (yt hB.symm a (hr.mono (anP _)) (by rfl) g b.kp e (aa (va 2) (aa (va 3) ah)) (ek (ek kQ))))) (ao (aD oS)) aY))) (ao (aD oS))))) aY) (ak (dC (fA (wB bt (cP hB.symm) T.ay an4 (aa (va 1) (aa (wty T.ahZ boot_str) ah)))) (ao (aD (kF (wB bt (cP hB.symm) T.ay an4 (aa (va 0) (aa (wty T.ahZ boot_str) ah))) (lA (yq calm_eq (w_eq hB.symm hr.units) (va 0) (va 1) (dv _)))))) aY) (ao (aD (kF (cl hB hr (rz T) (aa (va 0) ah) (anQ (by decide) (aqB _ _))) (lA (yq calm_eq (w_eq hB.symm hr.units) (va 0) (va 1) (dv _))))))))
theorem tS:Cal P w K mg base CX0 43 "_law_same" ["_law_found","_law_due"] [] (spW K 2 (aI 3)):=T.xJ.am1 T.mgA (λ_ _ _ _ _ _ b a=>uG (λ_ _=>rfl) b a) λ_ _ e d c=>kL T e d c 3
theorem xg:Cal P w K mg base CX0 41 "_law_met" ["_law_stands"] [] (spW K 1 dz):=T.aa3.dN T.mgA gO iv λhB hr hx hp=>ak (eT hp (cm hr) (eH (by rfl) T.bS ag) (gN 1 iv.nd) (show PSs _ _ (loS _ K53.cW)from ao (dC (cH uC amo (wB abc (agU (cm hr)) T.alo boot_max (aa (wB qi aeK T.afw boot_abs (aa (wx hB (wx hB (va 0) (va 1)) ag) ah)) (aa (wB qi aeK T.afw boot_abs (aa (wx hB (wx hB (va 0) (va 1)) ag) ah)) ah))) ag (dv _)) (ao (aD (cf (aa aO (aa (va 1) ah))))) aY))) (ak (eT hp (cm hr) (eH (by rfl) T.bS ag) (gN 1 iv.nd) (show PSs _ _ (loS _ K53.bT)from ao (eT hp (cm hr) (ym (by rfl) T.bS (aK aH (w_add hB.symm) (va 1) ag) ag) (gN 2 iv.nd) (show PSs _ _ (loS _ K53.cq)from ao (dC (we2 hB hr.units (qz (adB hB.symm) (wx hB (va 0) (va 1)) gL (gK ag)) (qz (adB hB.symm) (wx hB (va 0) (va 2)) gL (gK ag))) (ao (aD (cf (aa aO (aa (va 1) (aa (va 2) ah)))))) aY))))) (ao (aD (va 0))))
theorem mu:Cal P w K mg base (CXX P w) 42 "floor_of" ["stands"] [] (spX K 1 cb):=T.xR.dX T.mgA ir lV λhB hr hx hp=>ak (wS 1 lV.nd (cl hB hr (gC T) (aa (va 0) ah))) (ak (dC (cH fQ lC (va 1) gw (dv _)) (ao (rI hB hr hx (cm hr) T.ad8 T.adR T.afa (rE T) T.aaQ (aa (wx hB (va 1) ag) (aa (wx hB (va 1) ag) ah)))) aY) (ao (aD (wT ky (sU hB.symm) T.g8 apx (aa (va 0) ah)))))
theorem rF{f:Addr}{b:FuncData}(d:Fun K "holds" "holds" tm f b)(h:mg "holds"=some (.ref f))(g:Binds K b ["floor","dancer","test"] []):∀n:Nat,FnOk P w K mg base CX0 (0+n) f b ["floor","dancer","test"] (spW K 3 (mL n))|0=>aaW d vb rfl|n+1=>have a:=rF d h g n;qe (yL (mL n)) d vb rfl rfl rfl (by decide) λe A c s H E B hB hr hx hp=>yg
theorem ach:Cal P w K mg base CX0 3 "holds" ["floor","dancer","test"] [] (spW K 3 (mL 3)):=T.afY.am1 T.mgA (λ_ _ _ _ _ _ b a=>uF (λ_ _ _=>rfl) b a) λ_ _ e d c=>rF T e d c 3
theorem tN:Cal P w K mg base CX0 41 "rule_for" ["floor","dancer","call"] [] (spW K 3 iy):=T.xD.dN T.mgA jT i1 λhB hr hx hp=>(ak (eT hp (cm hr) (oQ hB.symm (by rfl) T.gc (va 2)) (iM hB.symm (cm hr) (aZ (gN 3 i1.nd) (aZ (gN 4 i1.nd) fh)) rfl (bz (bz iW)) dw) (show PSs _ _ (loS _ K53.hG)from(ao (dC (fA (wB qh (w_all (cm hr) hB.symm) T.afv boot_all (aa (dr (ts:=["test"]) ⟨rfl,rfl,rfl,rfl,rfl⟩ (cm hr) rfl (aM (by decide)) (fB hB.symm (wx hB (va 4) ag)) (λ_ _ _ _=>gN 0) (λ_ _ _ _=>dF) λ_ _ _ _=>cl hB hr (ach T) (aa (va 1) (aa (va 2) (aa (va 0) ah)))) ah))) (ao (aD (va 3))) aY)))) (ao (aD gw)))
theorem tM:Cal P w K mg base CX0 42 "steps_of" ["floor","dancer","call","some"] [] (spW K 4 fK):=T.xC.dN T.mgA jS lQ λhB hr hx hp=>ak (dC (PW.pt (uR (cH fQ lC (va 3) gw (dv _)) (oN (cH oF (yB hB.symm hr.units) (va 1) (va 3) (by rfl))))) (ao (aD (bg ah))) aY) (ak (wS 4 lQ.nd (cl hB hr (tN T) (aa (va 0) (aa (va 1) (aa (va 2) ah))))) (ak (dC (cH af4 w_is (va 4) gw (dv _)) (ao adv) aY) (ao (aD (wx hB (wx hB (va 2) (va 4)) ag)))))
theorem mq:Cal P w K mg base CX0 1 "is_whole" ["thing"] [] (spW K 1 fM):=T.xO.dN T.mgA iq s9 λhB hr hx hp=>ao (aD (kF (wB bt (cP hB.symm) T.ay an4 (aa (va 0) (aa (wty T.acp boot_int) ah))) (lA (adA (wB bt (cP hB.symm) T.ay an4 (aa (va 0) (aa (wty T.ad6 boot_bool) ah)))))))
theorem mr:Cal P w K mg base CX0 2 "is_place" ["thing"] [] (spW K 1 fO):=T.xQ.dN T.mgA j3 tj λhB hr hx hp=>ao (aD (kF (cl hB hr (mq T) (aa (va 0) ah)) (lA (uT qg qg aj9 aj9 (jf cj jg (wki hB T.oj)) (va 0) (wki hB T.oj)))))
theorem rD:Cal P w K mg base CX0 2 "is_facing" ["thing"] [] (spW K 1 gj):=T.uy.dN T.mgA i0 qL λhB hr hx hp=>ao (aD (kF (cl hB hr (mq T) (aa (va 0) ah)) (lA (uT qg kz aj9 w_lt ag (va 0) (wB dA (lB hB.symm) T.mx aoE (aa (wk hB T.zY zh (yD T)) ah))))))
theorem tU:Cal P w K mg base CX0 3 "is_stand" ["thing"] [] (spW K 1 fN):=T.xP.dN T.mgA jZ tf λhB hr hx hp=>ak (dC (PW.pt (yf (qv (fA (wB bt (cP hB.symm) T.ay an4 (aa (va 0) (aa (wty T.g8 apx) ah))))) (uQ (wn2 hB hr.units (wB dA (lB hB.symm) T.mx aoE (aa (va 0) ah)) ag)))) (ao (aD oS)) aY) (ao (aD (kF (cl hB hr (mr T) (aa (wx hB (va 0) ag) ah)) (kF (cl hB hr (mr T) (aa (wx hB (va 0) ag) ah)) (lA (cl hB hr (rD T) (aa (wx hB (va 0) ag) ah)))))))
theorem oh:Cal P w K mg base (CXX P w) 41 "kept_in" ["told"] [] (spX K 1 fL):=T.aa5.dX T.mgA ji j4 λhB hr hx hp=>(ak (eT hp (cm hr) (oQ hB.symm (by rfl) T.gc (va 0)) (iM hB.symm (cm hr) (aZ (gN 1 j4.nd) (aZ (gN 2 j4.nd) fh)) rfl (bz (bz iW)) dw) (show PSs _ _ (loS _ K53.cu)from(ao (dC (qv (fA (wB qh (w_all (cm hr) hB.symm) T.afv boot_all (aa (dr (ts:=["stand"]) ⟨rfl,rfl,rfl,rfl,rfl⟩ (cm hr) rfl (aM (by decide)) (fB hB.symm (qz (adB hB.symm) (va 2) (gK ag) gL)) (λ_ _ _ _=>gN 0) (λ_ _ _ _=>dF) λ_ _ _ _=>cl hB hr (tU T) (aa (va 0) ah)) ah)))) (ao (rI hB hr hx (cm hr) T.ah1 T.ahk T.ahj (tW T) T.afS (aa (va 1) ah))) aY)))) (ao (aD (va 0))))
theorem kZ:Cal P w K mg base CX0 1 "turned_facing" ["facing","way"] [] (spW K 2 cv):=T.mT.dN T.mgA eJ kY λhB hr hx hp=>ao (aD (aK dS w_mod (aK aH (w_add hB.symm) (va 0) (gx hB T.pR T.o5 (oW T) (va 1))) (wki hB T.xt)))
theorem mj:Cal P w K mg base CX0 2 "stand_behind" ["stand","step"] [] (spW K 2 cK):=T.nA.dN T.mgA dQ eK λhB hr hx hp=>ak (dC (we2 hB hr.units (wx hB (va 1) ag) aO) (ao (aD (bg (aa (wx hB (va 0) ag) (aa (wx hB (va 0) ag) (aa (cl hB hr (kZ T) (aa (wx hB (va 0) ag) (aa (wx hB (va 1) ag) ah))) ah)))))) aY) (ak (wS 2 eK.nd (gx hB T.acv T.abN (abK T) (wx hB (va 1) ag))) (ak (wS 3 eK.nd (cl hB hr (gZ T) (aa (va 0) (aa (aK aU w_mul (wx hB (va 2) ag) (wx hB (va 1) ag)) (aa (aK aU w_mul (wx hB (va 2) ag) (wx hB (va 1) ag)) ah))))) (ao (aD (bg (aa (wx hB (va 3) ag) (aa (wx hB (va 3) ag) (aa (wx hB (va 0) ag) ah))))))))
theorem ry:Cal P w K mg base CX0 41 "way_of" ["stand","steps"] [] (spW K 2 cR):=T.ada.dN T.mgA ij lP λhB hr hx hp=>(ak (sR (i:=2) lP.nd rfl (Or.inl rfl) (yj (aa (va 0) ah))) (ak (eT hp (cm hr) (fB hB.symm (va 1)) (gN 3 lP.nd) (show PSs _ _ (loS _ K53.dJ)from(ao (dC (wn2 hB hr.units (wx hB (va 3) ag) aO) (ao (adw hB.symm (me (zB aoY aqG aqH rK (pv 2) (bL (yu (i:=2) (cl hB hr (mj T) (aa (wx hB (va 2) (jf cj jg ag)) (aa (va 3) ah)))) e7))))) aY)))) (ao (qy (i:=2) (aD (va 2))))))
theorem afq:Cal P w K mg base (CXX P w) 43 "ways" ["floor","call","some"] [.none] (spX K 3 vU):=T.ai3.cal (ps:=["floor","call","some"]) (ds:=[.none]) T.mgA (λ_ _ _ _ _ _ _ b a=>ud3 (λ_ _ _=>⟨_,rfl,rfl⟩) b (by simpa using a)) (λ_ _ _ _ _ _ _ b a=>ud2 (λ_ _=>⟨_,rfl,rfl⟩) b (by simpa using a)) λ_ _ _ e=>v8 uX e y7 rfl rfl rfl (by decide) λd A c s H E B hB hr hx hp=>(ak (wS 3 y7.nd (dr (ts:=["dancer"]) ⟨rfl,rfl,rfl,rfl,rfl⟩ (cm hr) rfl (aM (by decide)) (eH (by rfl) T.bS (wki hB T.g9)) (λ_ _ _ _=>gN 0) (λ_ _ _ _=>dF) λ_ _ _ _=>cl hB hr (tM T) (aa (va 1) (aa (va 0) (aa (va 2) (aa (va 3) ah)))))) (ao (aD (clX hB hr hx (oh T) (aa (dr (ts:=["dancer"]) ⟨rfl,rfl,rfl,rfl,rfl⟩ (cm hr) rfl (aM (by decide)) (eH (by rfl) T.bS (wki hB T.g9)) (λ_ _ _ _=>gN 0) (λ_ _ _ _=>dF) λ_ _ _ _=>cl hB hr (ry T) (aa (wx hB (va 1) (va 0)) (aa (wx hB (va 4) (va 0)) ah))) ah)))))
theorem zN:Cal P w K mg base (CXX P w) 44 "danced" ["floor","call","some"] [.none] (spX K 3 iA):=T.adb.cal (ps:=["floor","call","some"]) (ds:=[.none]) T.mgA (λ_ _ _ _ _ _ _ b a=>ud3 (λ_ _ _=>⟨_,rfl,rfl⟩) b (by simpa using a)) (λ_ _ _ _ _ _ _ b a=>ud2 (λ_ _=>⟨_,rfl,rfl⟩) b (by simpa using a)) λ_ _ _ e=>v8 la e y8 rfl rfl rfl (by decide) λd A c s H E B hB hr hx hp=>(ao (aD (clX hB hr hx (mu T) (aa (dr (ts:=["way"]) ⟨rfl,rfl,rfl,rfl,rfl⟩ (cm hr) rfl (aM (by decide)) (fB hB.symm (clX hB hr hx (afq T) (aa (va 0) (aa (va 1) (aa (va 2) ah))))) (λ_ _ _ _=>gN 0) (λ_ _ _ _=>dF) λ_ _ _ _=>wx hB (va 0) (jf cj jg ag)) ah))))
theorem rC:Cal P w K mg base CX0 45 "_law_alone" ["_law_floor_here","_law_step_here"] [] (spW K 2 dO):=T.ux.dN T.mgA lL dc λhB hr hx hp=>(ak (dC (cH mZ (agV hB.symm hr.units) (wx hB (va 1) ag) (bg (aa aO (aa aO ah))) (by rfl)) (ao (wS 1 dc.nd (bg (aa (wx hB (va 1) ag) (aa (aK aU w_mul ag (wx hB (va 1) ag)) ah))))) aY) (ak (wS 2 dc.nd gw) (ak (oO (tb:=K53.bQ) (th:=K53.cy) (i:=3) hB.symm rfl rfl dc.nd rfl rfl (by rfl) T.dW (λb c h=>T.xs.ex b c _ _ h T.ic) (λ_ _ B hB hx hp=>(ao (wS 2 dc.nd (clD (dws:=[.non]) (dvs:=[.non]) hB hr hx (zN T) (.cons rfl .nil) λ_=>by simp[RWs,RW] (aa (va 0) (aa (cf (aa (bg (aa (bg ah) (aa (bg (aa (va 1) ah)) ah))) ah)) ah)) λσ ws z=>by rw[(ek (ek kQ)) σ ws z];rfl)))) λa B hB hx=>have hr:=hr.sui (v:=some (.ref a)) (by decide);ao (wS 2 dc.nd (cl hB hr (g0 T) (aa (va 3) ah)))) (ao (aD (va 2))))))
theorem nk:∀f∈(["floor","pairs","middles"]:List Str),fg K av f:=λf a=>by
 rcases anS.mp a with rfl|a;.exact T.iH
 rcases anS.mp a with rfl|a;.exact T.cE
 rcases anS.mp a with rfl|a;.exact T.dG
 cases a
theorem ng:ami P w K mg base 44 bD ["self","floor"] (spN K "PairedFloor" ["floor","pairs","middles"] gk):=acP T.nu (λ_ _ _ _ _ _ d c=>uG (λ_ _=>rfl) d c) λg f=>acM f m9 rfl (by decide) (by decide) (by decide) λb A a s H E X e hr=>by subst e;exact⟨zt (pv 0) (pv 1) rfl,zt (pv 0) (pcX hr (ml T) (bL (pv 1) e7)) rfl,zt (pv 0) (pc0 hr (jv T) (bL (pv 1) (bL (adZ (pv 0) rfl) e7))) rfl⟩
theorem cD:∀n:Nat,aje P w K mg base (40+n) av fm_PairedFloor_pair_holds "pair_holds" ["self","place","test"] (spX K 3 (aT n))|0=>t9 ⟨T.y1_PairedFloor_pair_holds,T.y2_PairedFloor_pair_holds,T.y3_PairedFloor_pair_holds⟩ T.cJ (λ_ _ _ _ _ _ d c=>uF (λ_ _ _=>rfl) d c) λg e=>ac6|n+1=>have a:=cD n;t9 ⟨T.y1_PairedFloor_pair_holds,T.y2_PairedFloor_pair_holds,T.y3_PairedFloor_pair_holds⟩ T.cJ (λ_ _ _ _ _ _ d c=>uF (λ_ _ _=>rfl) d c) λg e=>uj (da (aT n)) e fj rfl rfl rfl (by decide) λf A b s H E B hB hr hx hp=>yg
theorem fo:aje P w K mg base 43 av fm_PairedFloor_pair_holds "pair_holds" ["self","place","test"] (spX K 3 (aT 3)):=cD T 3
theorem fm:aje P w K mg base 44 av fm_PairedFloor_pair_steps "pair_steps" ["self","place","call"] (spX K 3 aS):=t9 ⟨T.y1_PairedFloor_pair_steps,T.y2_PairedFloor_pair_steps,T.y3_PairedFloor_pair_steps⟩ T.fq (λ_ _ _ _ _ _ d c=>uF (λ_ _ _=>rfl) d c) λf e=>uj bJ e cI rfl rfl rfl (by decide) λb A a s H E B hB hr hx hp=>(ak (eT hp (cm hr) (fB hB.symm (va 2)) (gN 3 cI.nd) (show PSs _ _ (loS _ K53.bx)from(ao (dC (fA (wB qh (w_all (cm hr) hB.symm) T.afv boot_all (aa (abF rfl rfl hB.symm hx (ts:=["test"]) ⟨rfl,rfl,rfl,rfl,rfl⟩ (cm hr) rfl (aM (by decide)) (fB hB.symm (wx hB (va 3) ag)) (λ_ _ _ _ _ B hB hx=>gN 0) (λ_ _ _ _ _ B hB hx=>dF) λ_ _ _ _ _ B hB hx=>meN hB hr hx T.cC (bM T) (fo T) (va 1) (aa (va 2) (aa (va 0) ah)) λσ ws z=>by rw[(ek (ek kQ)) σ ws z]) ah))) (ao (aD (wx hB (va 3) ag))) aY)))) (ao adv))
theorem xf:Cal P w K mg base CX0 1 "widened" ["step"] [] (spW K 1 eQ):=T.aa0.dN T.mgA lH wW λhB hr hx hp=>ao (aD (agQ (cH mZ (agV hB.symm hr.units) (wx hB (va 0) ag) (bg (aa aO (aa aO ah))) (by rfl)) (bg (aa (wx hB (va 0) ag) (aa (aK aU w_mul ag (wx hB (va 0) ag)) ah))) (va 0)))
theorem jw:Cal P w K mg base (CXX P w) 46 "danced_by_pairs" ["floor","call"] [] (spX K 2 bb):=T.ku.dX T.mgA bI aV λhB hr hx hp=>(ak (wS 2 aV.nd (mkN hB hr hx (nq T) (bM T) (nk T) T.cC (ng T) T.pS (aa (va 0) ah))) (ak (abz (iN:=3) aV.nd rfl rfl (by rfl) rfl rfl hB.symm hx (ts:=["place"]) ⟨rfl,rfl,rfl,rfl,rfl⟩ (cm hr) rfl (aM (by decide)) (eH (by rfl) T.bS (wB dA (lB hB.symm) T.mx aoE (aa (sT (n:=1) hB.symm T.cC (bM T) T.cE (by decide) rfl (va 2)) ah))) (λ_ _ _ _ _ B hB hx=>gN 0) (λ_ _ _ _ _ B hB hx=>dF) λ_ _ _ _ _ B hB hx=>meN hB hr hx T.cC (bM T) (fm T) (va 3) (aa (va 0) (aa (va 2) ah)) λσ ws z=>by rw[(ek (ek kQ)) σ ws z]) (ak (abA (i:=4) aV.nd rfl rfl (by rfl) (ts:=["dancer"]) ⟨rfl,rfl,rfl,rfl,rfl⟩ (cm hr) rfl (aM (by decide)) (eH (by rfl) T.bS (wki hB T.g9)) (λ_ _ _ _=>gN 0) (λ_ _ _ _=>dF) λ_ _ _ _=>cf ah) (ak (eT hp (cm hr) (oQ hB.symm (by rfl) T.gc (sT (n:=1) hB.symm T.cC (bM T) T.cE (by decide) rfl (va 2))) (iM hB.symm (cm hr) (aZ (gN 5 aV.nd) (aZ (gN 6 aV.nd) fh)) rfl (bz (bz iW)) dw) (show PSs _ _ (loS _ K53.ba)from(ak (wS 7 aV.nd (cl hB hr (ry T) (aa (wx hB (sT (n:=2) hB.symm T.cC (bM T) T.dG (by decide) rfl (va 2)) (va 5)) (aa (dr (ts:=["step"]) ⟨rfl,rfl,rfl,rfl,rfl⟩ (cm hr) rfl (aM (by decide)) (fB hB.symm (wx hB (va 3) (va 5))) (λ_ _ _ _=>gN 0) (λ_ _ _ _=>dF) λ_ _ _ _=>cl hB hr (xf T) (aa (va 0) ah)) ah)))) (ak (nD (dr (ts:=["middle"]) ⟨rfl,rfl,rfl,rfl,rfl⟩ (cm hr) rfl (aM (by decide)) (fB hB.symm (va 7)) (λ_ _ _ _=>gN 0) (λ_ _ _ _=>dF) λ_ _ _ _=>cl hB hr (mv T) (aa (va 0) (aa (jf cj jg ag) ah))) (adz (pv 4) (wx hB (va 6) ag)) aed) (ao (nD (dr (ts:=["middle"]) ⟨rfl,rfl,rfl,rfl,rfl⟩ (cm hr) rfl (aM (by decide)) (fB hB.symm (va 7)) (λ_ _ _ _=>gN 0) (λ_ _ _ _=>dF) λ_ _ _ _=>cl hB hr (mv T) (aa (va 0) (aa ag ah))) (adz (pv 4) (wx hB (va 6) ag)) aed)))))) (ao (qy (i:=4) (aD (clX hB hr hx (mu T) (aa (dr (ts:=["way"]) ⟨rfl,rfl,rfl,rfl,rfl⟩ (cm hr) rfl (aM (by decide)) (fB hB.symm (clX hB hr hx (oh T) (aa (va 4) ah))) (λ_ _ _ _=>gN 0) (λ_ _ _ _=>dF) λ_ _ _ _=>wx hB (va 0) (jf cj jg ag)) ah)))))))))
theorem tQ:Cal P w K mg base CX0 47 "_law_told" ["_law_floor_here","_law_call"] [] (spW K 2 bA):=T.xG.dN T.mgA eE eL λhB hr hx hp=>(ak (wS 2 eL.nd gw) (ak (oO (tb:=K53.cZ) (th:=K53.dU) (i:=3) hB.symm rfl rfl eL.nd rfl rfl (by rfl) T.dW (λb c h=>T.xs.ex b c _ _ h T.ic) (λ_ _ B hB hx hp=>ao (wS 2 eL.nd (clX hB hr hx (jw T) (aa (va 0) (aa (va 1) ah))))) λa B hB hx=>have hr:=hr.sui (v:=some (.ref a)) (by decide);ao (wS 2 eL.nd (cl hB hr (g0 T) (aa (va 3) ah)))) (ao (aD (va 2)))))
theorem rA:Cal P w K mg base CX0 42 "_law_round" ["_law_floor_here","_law_some","_law_way"] [] (spW K 3 cY):=T.uu.dN T.mgA iZ bh λhB hr hx hp=>(ak (aeC (i:=3) bh.nd rfl (Or.inr rfl)) (ak (eT hp (cm hr) (fB hB.symm (va 1)) (iM hB.symm (cm hr) (aZ (gN 4 bh.nd) (aZ (gN 5 bh.nd) fh)) rfl (bz (bz iW)) dw) (show PSs _ _ (loS _ K53.bV)from(ak (nD (wx hB (va 0) (va 4)) (iM hB.symm (cm hr) (aZ (gN 6 bh.nd) (aZ (gN 7 bh.nd) (aZ (gN 8 bh.nd) fh))) rfl (bz (bz (bz iW))) dw) (vM dw)) (ak (nD (qz (adB hB.symm) (wx hB (va 0) (va 5)) gL (gK ag)) (iM hB.symm (cm hr) (aZ (gN 9 bh.nd) (aZ (gN 10 bh.nd) fh)) rfl (bz (bz iW)) dw) (vM dw)) (ak (wS 11 bh.nd (aK dS w_mod (aK aH (w_add hB.symm) (va 8) (wx hB (yp (fX aO ag (fX aO ag (fX aO ag yv)))) (va 2))) ag)) (ak (wS 12 bh.nd (bg (aa (aK lp w_div (aK aH (w_add hB.symm) (va 6) (va 9)) ag) (aa (aK lp w_div (aK aH (w_add hB.symm) (va 7) (va 10)) ag) (aa (va 11) ah))))) (ak (oP (i:=3) (un1 hr.units) (pv 3) (va 4) (aK aH (w_add hB.symm) (cl hB hr (eN T) (aa (va 12) (aa ag (aa (jf cj jg ag) ah)))) (bg (aa (va 11) ah)))) (ak (oP (i:=3) (un1 hr.units) (pv 3) (va 5) (aK aH (w_add hB.symm) (cl hB hr (eN T) (aa (va 12) (aa ag (aa ag ah)))) (bg (aa (va 11) ah)))) (ao (dC (we2 hB hr.units (va 2) aO) (ak (oP (i:=3) (un1 hr.units) (pv 3) (va 4) (bg (aa (va 9) (aa (va 10) (aa (va 11) ah))))) (ao (oP (i:=3) (un1 hr.units) (pv 3) (va 5) (bg (aa (va 6) (aa (va 7) (aa (va 11) ah))))))) aY)))))))))) (ao (qy (i:=3) (aD (wT ky (sU hB.symm) T.g8 apx (aa (dr (ts:=["_law_k"]) ⟨rfl,rfl,rfl,rfl,rfl⟩ (cm hr) rfl (aM (by decide)) (eH (by rfl) T.bS ag) (λ_ _ _ _=>gN 0) (λ_ _ _ _=>dF) λ_ _ _ _=>wxD hB (va 4) (va 0)) ah)))))))
theorem ahS{f:Addr}{b:FuncData}(d:Fun K "law" "law" ae1 f b):FnOk P w K mg base CX0 48 f b ["_law_script"] (spW K 1 ac0):=qe yK d gz rfl rfl rfl (by decide) λc A a s H E B hB hr hx hp=>(aes (j:=1) hB hr (tT T) gz.nd rfl (Or.inl rfl) (aa (va 0) ah) λz=>aC (yS 2 gz.nd (clY hB hr (xh T) (pv 1) bO)) (aC (ya hp (cm hr) (by rfl) T.bS (clY hB hr (aL T) (pv 1) (aX (cF ag) bO)) (gP 3 gz.nd) (show PSs _ _ (loW _ _ _ K53.kj)from aC (yS 4 gz.nd (clY hB hr (rB T) (pv 1) (aX (cF (va 2)) bO))) (bH (ya hp (cm hr) (by rfl) T.bS (kS (w_add hB.symm) (cF ag) (clY hB hr (aL T) (pv 1) (aX (cF ag) bO))) (gP 5 gz.nd) (show PSs _ _ (loW _ _ _ K53.ki)from aC (yS 6 gz.nd (cF (cl hB hr (kh T) (aa (va 4) ah)))) (aC (yS 7 gz.nd (clY hB hr (tR T) (pv 1) bO)) (aC (yS 8 gz.nd (cF (va 6))) (aC (oK (agd (wn2 hB hr.units (va 6) (cf (aa aO ah)))) (bH (oK (agd (we2 hB hr.units (wx hB (va 7) ag) aO)) (bH (yS 8 gz.nd (cF (cl hB hr (xg T) (aa (cl hB hr (rA T) (aa (va 4) (aa (va 6) (aa (wx hB (va 7) ag) ah)))) ah))))) (bH (yS 8 gz.nd (cF (cl hB hr (rC T) (aa (va 4) (aa (va 7) ah)))))))) gI) (aC (oK (agd (qv (fA (cl hB hr (tS T) (aa (cl hB hr (tQ T) (aa (va 4) (aa (cf (aa (bg (aa (bg ah) (aa (bg (aa (va 7) ah)) ah))) ah)) ah))) (aa (va 8) ah)))))) (bH (kD (cF oS))) gI) (bH (oK (agd (fA (wB bt (cP hB.symm) T.ay an4 (aa (va 8) (aa (wty T.g8 apx) ah))))) (bH (yS 4 gz.nd (cF (va 8)))) gI))))))))))) (bH (kD (cF oS)))))
theorem all_mk(a:∀c:List Int,c.length<=63->ac0 [.lst (c.map .int)]=.ok (.bl true)){l:W.OpenLaw}{d:Addr}(b:mg "law"=some (.ref d)):∃e:FuncData,(∀(s:Shared)(v:Value),BindsTo s e ⟨[v],[]⟩ [("_law_script",v)])/\∀base:Heap,K.In base->base.Ns mainGlobals mg->FnOk l.prog w K mg base CX0 48 d e ["_law_script"] (WS.yZ K):=ah9 T.al1 T.mgA b (λ_ _ _ _ _ _ _=>rfl) (λ_ _ _ f=>ahS T f) a
omit T
def walk{l:W.OpenLaw}{q:Program}{b:List Str}{r:(Str->Option Value)->Heap->Prop}{g:World->Heap->Prop}{d:DefRec}{K:Params->W.Frag}(p:l.most=some 63)(c:d.params.defaults=[])(v:∀(w:World)(h:Heap),g w h->(K w.params).In h)(F:∀(w:World)(mg:Str->Option Value)(e:Addr)(h:Heap),(K w.params).In h->h.Ns mainGlobals mg->mg d.name=some (.ref e)->∃i:FuncData,(∀(s:Shared)(u:Value),BindsTo s i ⟨[u],[]⟩ [("_law_script",u)])/\∀base:Heap,(K w.params).In base->base.Ns mainGlobals mg->FnOk l.prog w (K w.params) mg base CX0 48 e i ["_law_script"] (WS.yZ (K w.params))):W.WalkO q b r g l.row.toRowW d [] λf o=>PySem.call f o:=L2.aeI (n:=63) (k:=48) (x:="_law_script") (CX:=λ_=>CX0) (sp:=λw=>WS.yZ (K w.params)) p (by decide) c ⟨λ_=>rfl,by decide,by decide,rfl⟩ v F (λ_ _ a m t _ j=>⟨a,m,rfl,j,t,λ_=>rfl⟩) λ_ _ _ _ _ z=>z
end K53
open PySem PySem.W PyProof.Rows
set_option maxRecDepth 100000 in
set_option maxHeartbeats 0 in
theorem PySem.Challenge.cw_squarecall_k53_whole_pairs_move_as_dance_holds : PySem.Challenge.rw_squarecall_k53_whole_pairs_move_as_dance.Holds := by
 w_on;o_law;k_head;(case hw=>w_witness2)
 k_fill
 refine K53.walk (l:=PySem.Challenge.rw_squarecall_k53_whole_pairs_move_as_dance) rfl rfl (λw h Y=>W.kIn_of Y) ?F
 case F =>
 intro w mg fa h KX G hmg
 refine' K53.all_mk ?T K53.acE hmg
 case T =>
  constructor<;>first|(exact WS.al9 (by k_is) (by k_is) (by k_is) (by k_is))|(exact WS.ajd (by k_is) (by k_is) (by k_is) (by k_is) (by k_is))|(exact WS.ag9 (by k_is) (by repeat first|exact .nil|exact .cons rfl .nil|exact .cons ⟨_,rfl⟩ .nil|refine .cons rfl ?_|refine .cons ⟨_,rfl⟩ ?_) (by decide))|(exact WS.aaK (tab:=[("FloorError",_),("NotEven",_),("NoCall",_),("NoName",_),("NoProgram",_),("TooMany",_),("NoPairs",_),("NoRow",_),("Blind",_),("Out",_),("Meet",_),("Broken",_)]) (.head _) (by(refine WS.all_cons (WS.ac1 (by first|k_is|exact rfl) (by first|k_is|exact rfl) (by first|k_is|exact rfl) (by first|k_is|exact rfl) (by first|k_is|exact rfl) (by first|k_is|exact rfl)) ?_);(iterate 11 (refine WS.all_cons (WS.afQ (by first|k_is|exact rfl) (by first|k_is|exact rfl) (by first|k_is|exact rfl) (by first|k_is|exact rfl) (by first|k_is|exact rfl) (by first|k_is|exact rfl)) ?_));exact WS.all_nil) (λ_ h=>.inl (by simpa [WL.ll] using h)) (show (["FloorError","NotEven","NoCall","NoName","NoProgram","TooMany","NoPairs","NoRow","Blind","Out","Meet","Broken"]:List String).Nodup from by decide) (by decide) (by first|k_is|exact rfl) (by first|k_is|exact rfl))|(exact WS.amT (WS.ft (by decide)) (WS.ft (by decide)) (WS.ft (by decide)) (WS.ft (by decide)) (WS.ft (by decide)) (WS.ft (by decide)) (WS.ft (by decide)) (WS.ft (by decide)) (WS.ft (by decide)) (WS.ft (by decide)) (WS.aaF (by first|k_is|exact rfl) (by first|k_is|exact rfl) (by first|k_is|exact rfl)) (WS.ft (by decide)))|(exact WS.amT (WS.ft (by decide)) (WS.ft (by decide)) (WS.ft (by decide)) (WS.ft (by decide)) (WS.ft (by decide)) (WS.ft (by decide)) (WS.ft (by decide)) (WS.ft (by decide)) (WS.aaF (by first|k_is|exact rfl) (by first|k_is|exact rfl) (by first|k_is|exact rfl)) (WS.aaF (by first|k_is|exact rfl) (by first|k_is|exact rfl) (by first|k_is|exact rfl)) (WS.ft (by decide)) (WS.ft (by decide)))|(exact WS.aiq (by k_is) (by k_is) (by k_is))|(exact WS.ah0 (by k_is) (by k_is) (by k_is))|(exact λ_ _=>W.mg_of KX G)|(refine W.mg_of KX G ?_;k_is)|(refine W.mg_none_of KX G ?_;k_is)|(exact⟨_,_,by k_is,by exact .cons ⟨⟨_,rfl⟩,rfl,⟨_,rfl⟩⟩ (.cons ⟨⟨_,rfl⟩,rfl,⟨_,rfl⟩⟩ (.cons ⟨⟨_,rfl⟩,rfl,⟨_,rfl⟩⟩ (.cons ⟨⟨_,rfl⟩,rfl,⟨_,rfl⟩⟩ (.nil))))⟩)|(exact⟨_,_,by k_is,by exact .cons ⟨⟨_,rfl⟩,rfl,rfl⟩ (.cons ⟨⟨_,rfl⟩,rfl,rfl⟩ (.cons ⟨⟨_,rfl⟩,rfl,rfl⟩ (.cons ⟨⟨_,rfl⟩,rfl,rfl⟩ (.nil))))⟩)|(refine⟨by decide,?_⟩;k_is)|(exact L2.sG.mk (by k_is) (by kernel_rfl))|(show W.findIn _ _ _=_;first|k_is|exact rfl)|(first|kernel_rfl|exact rfl)|(k_is)|(exact rfl)

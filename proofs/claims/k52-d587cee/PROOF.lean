import PyProof.Rows.All
import Wide.All
import OpenK.AllK
import Wide.FinOn
import Lean
import PyProof.EqAt
import PyProof.EqKinds
import PyProof.TupleCall
import PyProof.ExcStr
import PyProof.ExcStrAll.ValueError
import PySem.SetOps
import PyProof.SetScanFacts
import PyProof.TupleKey
import PyProof.SetRoads
import PyProof.IsRules
import PyProof.Rows.SetFrom
import PySem.Str
import PyProof.Rows.StrJoin2
import KE.KSortTup
import PyProof.Rows.Range3
import PyProof.StrLoop
import KE.KIntText
import KE.KLam
import PyProof.ListRange
import KE.KNestM
import PyProof.TableCode
import PySem.Challenge.RW_squarecall_k52_danced_by_pairs
set_option bootstrap.genMatcherCode false
set_option linter.all false
open PySem renaming wpAny_bind->anY,wpAny_pure->an0,wpAny_mono->aoA,wpAny_field->aoB,mem_of_lookup->aoM,wpAny_holding->aoV,wpAny_setField_rec->aoZ,wpAny_callSpecial?_slot->ao5,wpAny_call_entry->apn,wpAny_seqItems->aps,codeAny_mono->apA,wpAny_Call_Name_kw->apB,wpAny_passesOwn->apD,wpAny_truthy_bool->apH,wpAny_call->apJ,sizeLine_eq->apM,wpAny_comprehension_free->apN,plainObj_wpAny_Assign_Attribute->apS,wpAny_standAt->apV,wpAny_pyIter_list->ap1,codeAny_call_builtin->ap6,wpAny_attempt->ap9,wpAny_execs_nil->aqc,codeAny_builtin->aqf,wpAny_pyIter_tuple->aqj,wpAny_setField->aqm,wpAny_newObj_type->aqo,wpAny_pyIter_enum->aqq,wpAny_setState_of->aqr,wpAny_loadPart->aqI,boot_len->aqM,wpAny_letOwnedTupleGo_enum->aqU,wpAny_assign_Name->aqX,wpAny_loadPart_at->aq1,wpAny_rule->aq3,wpAny_eqBool_int->aq9,wpAny_lookBehind->ara,pastItsLine_dict->arb,concat_meets->ard,noFill_tuple_add->arf,wpAny_forIn_list->ark,wpAny_specialOf->ars,typeIs_none->ary,refuseLoop_ref->arC,call_meets->arF
open PySem.Heap renaming get?_push_of_some->anZ,lt_size->an9,get?_push_size->aoj,get?_none_of_le->aoG,get?_update_other->aoT,get?_update_self->apd,size_push->apq
open List renaming getElem?_set_ne->an3,mem_cons->an7,getElem?_eq_some_iff->aoa,mem_range->aoc,getElem?_eq_getElem->aod,getD_eq_getElem?_getD->aoe,getElem?_set_self->aof,mem_cons_of_mem->aog,mem_append_right->aok,mem_cons_self->aol,length_cons->aon,not_mem_nil->aop,map_cons->aor,length_map->aos,mem_append_left->aou,mem_map->aox,getElem?_map->aoy,all_eq_true->aoD,mem_append->aoH,mem_singleton->aoK,nodup_cons->aoN,lookup_cons->aoO,size_toArray->aoQ,map_map->aoR,mem_of_getElem?->aoS,mem_filter->aoX,length_append->aoY,mem_singleton_self->ao6,getElem?_append_right->apa,append_nil->apc,mem_filterMap->ape,nodup_range->apf,map_append->apg,idxOf_lt_length_of_mem->api,getElem?_range->apj,getElem?_append_left->apt,pairwise_iff_getElem->apu,length_range->apv,filter_cons->apz,drop_eq_getElem_cons->apK,getElem_mem->apO,getElem_of_mem->apQ,mem_map_of_mem->apR,getElem?_replicate->apU,pairwise_cons->apX,filter_eq_nil_iff->apZ,length_replicate->ap2,length_take->ap4,length_nil->aqd,take_of_length_le->aqt,all_cons->aqu,drop_length->aqv,exists_of_findSome?_eq_some->aqw,length_singleton->aqx,find?_cons->aqB,getElem?_of_mem->aqD,pairwise_append->aqE,idxOf_cons_self->aqF,filterMap_cons->aqG,find?_eq_none->aqR,getElem?_eq_none_iff->aq6,mem_or_eq_of_mem_set->aq7,mem_of_find?_eq_some->aq8,length_drop->arh,length_erase_of_mem->arj,countP_cons->arl,mem_flatMap->arp,of_mem_zip->art,forIn_cons->aru,idxOf_cons->arx,nodup_nil->arB,drop_zero->arD
open Nat renaming lt_of_lt_of_le->an6,le_refl->aob,le_trans->aoh,ne_of_lt->aoi,ne_of_gt->aoE,zero_le->aoF,le_add_right->aoP,not_lt_of_le->ao8,le_of_lt->ao9,not_lt_zero->aph,lt_irrefl->apw,lt_succ_self->apx,le_of_ble_eq_true->apE,min_le_right->ap5,lt_of_lt_of_eq->aqi,lt_succ_of_lt->aqp,lt_trichotomy->aq2,succ_pos->ari,le_succ->arA,mod_lt->arG
open Ne renaming symm->aom
open Bool renaming and_eq_true->aoo,false_ne_true->aov,eq_iff_iff->aoz,false_eq_true->aoU,and_eq_true_iff->ao7,not_true->aqV,or_eq_true->arv
open PyProof.Rows renaming boot_isinstance->aot,callWith_type1->aoW,boot_tuple->apL,slot_tuple_getitem->apT,boot_int->ap0,boot_abs->ap8,callWith_builtin1->aqz,formatField_str->aqL,boot_range->arE
open Option.some renaming inj->aow,injEq->aqW
open Option renaming map_eq_some_iff->aoI,isSome_iff_exists->ao2,bind_some->ap7,isNone_iff_eq_none->aq4
open PySem.F renaming plainAttrs_list->aoL,slot_list_append->ao3,type_list_append->ao4,excBase_ValueError->apm,slot_NoneType_hash->apF,slot_tuple_iterator_next->apG,called_set->apP,slot_enumerate_next->ap3,args_tuple_add_2->aqh,entry_tuple_add->aqn,slot_tuple_add->aqs,slot_zip_next->aqC,args_tuple_iterator_next_1->aqJ,entry_tuple_iterator_next->aqP,slot_dict_getitem->aq5
open Prod.mk renaming injEq->ao1
open Array renaming getElem?_eq_some_iff->apb,length_toList->aqb,getElem?_setIfInBounds->aqK,find?_toList->aqO
open Int renaming zero_add->apk,emod_lt_of_pos->apY,emod_nonneg->aqg,mul_one->aqN,sub_eq_add_neg->aqQ,toNat_natCast->aq0,mul_comm->aro,mul_zero->arq
open PySem.W renaming kia_one->apr,looks_clsIn->aqT,callWith_K->arc,kitx_list->arz
open PyProof.Rows.F renaming plain_set_update_loop->apC,entry_set_update_loop->aql
open PySem.Obj renaming data_mapFields->apW,isFreed_of_fields->aqy
open Classical renaming byContradiction->aqe
open PySem.Code renaming quiet_builtin->aqk
open PySem.Calls renaming evalArgs_plain->aqA,Name_function_global->aqS
open PySem.Heap.SameBut renaming update->aqH
open PySem.Within renaming cons->aqY
open PySem.Heap.Ns1 renaming of_empty->aqZ
open Nat.succ renaming inj->arn
open List.cons renaming injEq->arw
def an4:=@if_pos
def an5:=@if_neg
def an8:=@congrArg
def aoq:=@decide_eq_false
def aoC:=@decide_eq_true
def aoJ:=@decide_eq_true_eq
def ao0:=@beq_eq_false_iff_ne
def apl:=@beq_iff_eq
def apo:=@or_false
def apy:=@if_false
def apI:=@of_decide_eq_true
def aqa:=@if_true
noncomputable section
set_option compiler.extract_closed false
set_option tactic.hygienic false
set_option autoImplicit true
set_option relaxedAutoImplicit true
def agE{p q r:Prop}{C:Prop}(h:p/\q/\r)(K:p->q->r->C):C:=let⟨h0,h1,h2⟩:=h;K h0 h1 h2
def akf{p q r s:Prop}{C:Prop}(h:p/\q/\r/\s)(K:p->q->r->s->C):C:=let⟨h0,h1,h2,h3⟩:=h;K h0 h1 h2 h3
def ajm{p q r s t:Prop}{C:Prop}(h:p/\q/\r/\s/\t)(K:p->q->r->s->t->C):C:=let⟨h0,h1,h2,h3,h4⟩:=h;K h0 h1 h2 h3 h4
def gB{p q:α->Prop}{C:Prop}(h:∃a,p a/\q a)(K:∀a,p a->q a->C):C:=let⟨a,h0,h1⟩:=h;K a h0 h1
def ix{p q r:α->Prop}{C:Prop}(h:∃a,p a/\q a/\r a)(K:∀a,p a->q a->r a->C):C:=let⟨a,h0,h1,h2⟩:=h;K a h0 h1 h2
def eG{p q:α->β->Prop}{C:Prop}(h:∃a b,p a b/\q a b)(K:∀a b,p a b->q a b->C):C:=let⟨a,b,h0,h1⟩:=h;K a b h0 h1
def fv{p q:α->β->Prop}(a b)(h0:p a b)(h1:q a b):∃a b,p a b/\q a b:=⟨a,b,h0,h1⟩
def ke{p q r:α->β->Prop}{C:Prop}(h:∃a b,p a b/\q a b/\r a b)(K:∀a b,p a b->q a b->r a b->C):C:=let⟨a,b,h0,h1,h2⟩:=h;K a b h0 h1 h2
def i5{p q r:α->β->Prop}(a b)(h0:p a b)(h1:q a b)(h2:r a b):∃a b,p a b/\q a b/\r a b:=⟨a,b,h0,h1,h2⟩
def xR{p q r s:α->β->Prop}{C:Prop}(h:∃a b,p a b/\q a b/\r a b/\s a b)(K:∀a b,p a b->q a b->r a b->s a b->C):C:=let⟨a,b,h0,h1,h2,h3⟩:=h;K a b h0 h1 h2 h3
def aby{p q r s:α->β->Prop}(a b)(h0:p a b)(h1:q a b)(h2:r a b)(h3:s a b):∃a b,p a b/\q a b/\r a b/\s a b:=⟨a,b,h0,h1,h2,h3⟩
def pE{p q r s t:α->β->Prop}{C:Prop}(h:∃a b,p a b/\q a b/\r a b/\s a b/\t a b)(K:∀a b,p a b->q a b->r a b->s a b->t a b->C):C:=let⟨a,b,h0,h1,h2,h3,h4⟩:=h;K a b h0 h1 h2 h3 h4
def adJ{p q r s t:α->β->Prop}(a b)(h0:p a b)(h1:q a b)(h2:r a b)(h3:s a b)(h4:t a b):∃a b,p a b/\q a b/\r a b/\s a b/\t a b:=⟨a,b,h0,h1,h2,h3,h4⟩
def ajl{p q r s t u:α->β->Prop}{C:Prop}(h:∃a b,p a b/\q a b/\r a b/\s a b/\t a b/\u a b)(K:∀a b,p a b->q a b->r a b->s a b->t a b->u a b->C):C:=let⟨a,b,h0,h1,h2,h3,h4,h5⟩:=h;K a b h0 h1 h2 h3 h4 h5
def aki{p q r s t u:α->β->Prop}(a b)(h0:p a b)(h1:q a b)(h2:r a b)(h3:s a b)(h4:t a b)(h5:u a b):∃a b,p a b/\q a b/\r a b/\s a b/\t a b/\u a b:=⟨a,b,h0,h1,h2,h3,h4,h5⟩
def vV{p q:α->β->γ->Prop}{C:Prop}(h:∃a b c,p a b c/\q a b c)(K:∀a b c,p a b c->q a b c->C):C:=let⟨a,b,c,h0,h1⟩:=h;K a b c h0 h1
def abx{p q:α->β->γ->Prop}(a b c)(h0:p a b c)(h1:q a b c):∃a b c,p a b c/\q a b c:=⟨a,b,c,h0,h1⟩
def xQ{p q r:α->β->γ->Prop}{C:Prop}(h:∃a b c,p a b c/\q a b c/\r a b c)(K:∀a b c,p a b c->q a b c->r a b c->C):C:=let⟨a,b,c,h0,h1,h2⟩:=h;K a b c h0 h1 h2
def agl{p q r:α->β->γ->Prop}(a b c)(h0:p a b c)(h1:q a b c)(h2:r a b c):∃a b c,p a b c/\q a b c/\r a b c:=⟨a,b,c,h0,h1,h2⟩
def x1{p q r s:α->β->γ->Prop}{C:Prop}(h:∃a b c,p a b c/\q a b c/\r a b c/\s a b c)(K:∀a b c,p a b c->q a b c->r a b c->s a b c->C):C:=let⟨a,b,c,h0,h1,h2,h3⟩:=h;K a b c h0 h1 h2 h3
def vW{p q r s:α->β->γ->Prop}(a b c)(h0:p a b c)(h1:q a b c)(h2:r a b c)(h3:s a b c):∃a b c,p a b c/\q a b c/\r a b c/\s a b c:=⟨a,b,c,h0,h1,h2,h3⟩
def ajk{p q r s t:α->β->γ->Prop}{C:Prop}(h:∃a b c,p a b c/\q a b c/\r a b c/\s a b c/\t a b c)(K:∀a b c,p a b c->q a b c->r a b c->s a b c->t a b c->C):C:=let⟨a,b,c,h0,h1,h2,h3,h4⟩:=h;K a b c h0 h1 h2 h3 h4
def akh{p q r s t:α->β->γ->Prop}(a b c)(h0:p a b c)(h1:q a b c)(h2:r a b c)(h3:s a b c)(h4:t a b c):∃a b c,p a b c/\q a b c/\r a b c/\s a b c/\t a b c:=⟨a,b,c,h0,h1,h2,h3,h4⟩
def agD{p q:α->β->γ->δ->Prop}{C:Prop}(h:∃a b c d,p a b c d/\q a b c d)(K:∀a b c d,p a b c d->q a b c d->C):C:=let⟨a,b,c,d,h0,h1⟩:=h;K a b c d h0 h1
def ajo{p q:α->β->γ->δ->Prop}(a b c d)(h0:p a b c d)(h1:q a b c d):∃a b c d,p a b c d/\q a b c d:=⟨a,b,c,d,h0,h1⟩
def ake{p q r s t u:α->β->γ->δ->Prop}{C:Prop}(h:∃a b c d,p a b c d/\q a b c d/\r a b c d/\s a b c d/\t a b c d/\u a b c d)(K:∀a b c d,p a b c d->q a b c d->r a b c d->s a b c d->t a b c d->u a b c d->C):C:=let⟨a,b,c,d,h0,h1,h2,h3,h4,h5⟩:=h;K a b c d h0 h1 h2 h3 h4 h5
def akd{p q r s:α->β->γ->δ->ε->Prop}{C:Prop}(h:∃a b c d e,p a b c d e/\q a b c d e/\r a b c d e/\s a b c d e)(K:∀a b c d e,p a b c d e->q a b c d e->r a b c d e->s a b c d e->C):C:=let⟨a,b,c,d,e,h0,h1,h2,h3⟩:=h;K a b c d e h0 h1 h2 h3
def amo{p q r s t u:α->β->γ->δ->ε->Prop}(a b c d e)(h0:p a b c d e)(h1:q a b c d e)(h2:r a b c d e)(h3:s a b c d e)(h4:t a b c d e)(h5:u a b c d e):∃a b c d e,p a b c d e/\q a b c d e/\r a b c d e/\s a b c d e/\t a b c d e/\u a b c d e:=⟨a,b,c,d,e,h0,h1,h2,h3,h4,h5⟩
def ano{p q r s t u v w:α->β->γ->δ->ε->ζ->Prop}{C:Prop}(h:∃a b c d e f,p a b c d e f/\q a b c d e f/\r a b c d e f/\s a b c d e f/\t a b c d e f/\u a b c d e f/\v a b c d e f/\w a b c d e f)(K:∀a b c d e f,p a b c d e f->q a b c d e f->r a b c d e f->s a b c d e f->t a b c d e f->u a b c d e f->v a b c d e f->w a b c d e f->C):C:=let⟨a,b,c,d,e,f,h0,h1,h2,h3,h4,h5,h6,h7⟩:=h;K a b c d e f h0 h1 h2 h3 h4 h5 h6 h7
def anp{p q r s t u v w:α->β->γ->δ->ε->ζ->Prop}(a b c d e f)(h0:p a b c d e f)(h1:q a b c d e f)(h2:r a b c d e f)(h3:s a b c d e f)(h4:t a b c d e f)(h5:u a b c d e f)(h6:v a b c d e f)(h7:w a b c d e f):∃a b c d e f,p a b c d e f/\q a b c d e f/\r a b c d e f/\s a b c d e f/\t a b c d e f/\u a b c d e f/\v a b c d e f/\w a b c d e f:=⟨a,b,c,d,e,f,h0,h1,h2,h3,h4,h5,h6,h7⟩
def agC{p q r:α->β->γ->δ->ε->ζ->η->θ->ι->Prop}{C:Prop}(h:∃a b c d e f g i j,p a b c d e f g i j/\q a b c d e f g i j/\r a b c d e f g i j)(K:∀a b c d e f g i j,p a b c d e f g i j->q a b c d e f g i j->r a b c d e f g i j->C):C:=let⟨a,b,c,d,e,f,g,i,j,h0,h1,h2⟩:=h;K a b c d e f g i j h0 h1 h2
set_option Elab.async false
set_option linter.all false
set_option maxRecDepth 100000
namespace L2
open PySem PySem.Spec PyProof.Rows
abbrev Key:=Sum (Option Int) Str
noncomputable def km:Int:=0xFCA86420
def aam{prog w A E s Q}(h:Q km {s with toks:=s.toks+1}):wpAny (model prog w) A (pyHash .none) Q E s:=by unfold pyHash;refine anY ?_;refine an0 ?_;refine anY<|ars (ary s) apF.lookup ?_;refine anY<|ars (ary s) apF.lookup ?_;refine anY<|wpAny_callSpecialIfBoundUnlessNone?_slot (ary s) apF<|apn apF (ary s) PySem.F.entry_NoneType_hash (wpAny_ret_mkInt ?_)<|PySem.F.args_NoneType_hash_1 _;show wpAny _ _ (if(decide (-(2:Int)^63<=km)&&decide (km<2^63))=true then _ else _) Q E _;rw[an4 (by decide)];exact an0 h
noncomputable def xa:Key->Value->Bool|.inl (some k),v=>Value.isInt k v|.inl none,.none=>true|.inl none,_=>false|.inr x,v=>Value.isStrOf x v
def anQ(w:World):Key->Int|.inl (some k)=>hashInt k|.inl none=>km|.inr x=>hashStr w x
def bP:∀{k v},xa k v=true->(∃i t,k=Sum.inl (some i)/\v=Value.int i t)\/(∃x t,k=Sum.inr x/\v=Value.str x t)\/k=Sum.inl none/\v=.none
|.inl (some i),v,h=>by obtain⟨t,e⟩:=Value.isInt_shape  h;exact .inl ⟨i,t,rfl,e⟩|.inl none,v,h=>by cases v<;>first|exact .inr<|.inr ⟨rfl,rfl⟩|exact nomatch h
|.inr x,v,h=>by obtain⟨t,e⟩:=Value.isStrOf_shape  h;exact .inr<|.inl ⟨x,t,rfl,e⟩
def z8(i)(t):xa (.inl<|some i) (.int i t)=true:=by simp[xa,Value.isInt]
def z7(x)(t):xa (.inr x) (.str x t)=true:=by simp[xa,Value.isStrOf]
def aiz(a b):decide ((Sum.inl (some a):Key)=Sum.inl (some b))=(a==b):=by grind
def aiv(a b):decide ((Sum.inr a:Key)=Sum.inr b)=decide (a=b):=by simp
def key_is(a)(b):decide ((Sum.inl (some a):Key)=Sum.inr b)=false:=aoq λq=>nomatch q
def aiA(a):decide ((Sum.inl (some a):Key)=Sum.inl none)=false:=aoq λq=>nomatch q
def aiu(a)(b):decide ((Sum.inr a:Key)=Sum.inl (some b))=false:=aoq λq=>nomatch q
def ait(a):decide ((Sum.inr a:Key)=Sum.inl none)=false:=aoq λq=>nomatch q
def aiy(a):decide ((Sum.inl none:Key)=Sum.inl (some a))=false:=aoq λq=>nomatch q
def aix(a):decide ((Sum.inl none:Key)=Sum.inr a)=false:=aoq λq=>nomatch q
def cE(prog:Program)(w:World):PySem.KeyKind prog w Key where
 is:=xa;hash:=anQ w;inj:=λv a b ha hb=>by rcases bP ha with⟨i,t,rfl,rfl⟩|⟨x,t,rfl,rfl⟩|⟨rfl,rfl⟩<;>rcases bP hb with⟨j,u,rfl,e⟩|⟨y,u,rfl,e⟩|⟨rfl,e⟩<;>(cases e;try rfl)
 byValue:=λk v h=>by rcases bP h with⟨i,t,rfl,rfl⟩|⟨x,t,rfl,rfl⟩|⟨rfl,rfl⟩<;>rfl
 pyHash:=λhv h=>by
  rcases bP hv with⟨i,t,rfl,rfl⟩|⟨x,t,rfl,rfl⟩|⟨rfl,rfl⟩;.exact wpAny_pyHash_int h
  .exact wpAny_pyHash_str h
  .exact aam h
 eqBool:=λhu hv h=>by
  rcases bP hu with⟨i,t,rfl,rfl⟩|⟨x,t,rfl,rfl⟩|⟨rfl,rfl⟩
  .rcases bP hv with⟨j,u,rfl,rfl⟩|⟨y,u,rfl,rfl⟩|⟨rfl,rfl⟩;.rw[aiz]at h;exact aq9 h
   .rw[key_is]at h;exact SeqAt.EqAt.int_str i t y u _ _ _ _ h
   .rw[aiA]at h;exact SeqAt.EqAt.int_none i t _ _ _ _ h
  .rcases bP hv with⟨j,u,rfl,rfl⟩|⟨y,u,rfl,rfl⟩|⟨rfl,rfl⟩;.rw[aiu]at h;exact SeqAt.EqAt.str_int x t j u _ _ _ _ h
   .rw[aiv]at h;exact wpAny_eqBool_str h
   .rw[ait]at h;exact SeqAt.EqAt.str_none x t _ _ _ _ h
  .rcases bP hv with⟨j,u,rfl,rfl⟩|⟨y,u,rfl,rfl⟩|⟨rfl,rfl⟩;.rw[aiy]at h;exact SeqAt.EqAt.none_int j u _ _ _ _ h
   .rw[aix]at h;exact SeqAt.EqAt.none_str y u _ _ _ _ h
   .rw[aoC rfl]at h;unfold eqBool;rw[an4 (show(Value.none==Value.none)=true from rfl)];exact anY (aq3<|an0 h)
 «strs»:=λk x t v h=>by
  rcases bP h with⟨i,u,rfl,e⟩|⟨y,u,rfl,e⟩|⟨_,e⟩;.exact nomatch e
  .injection e with e1 _;subst e1;cases v<;>rfl
  .exact nomatch e
def sN(prog)(w)(i)(t):(cE prog w).is (.inl<|some i) (.int i t)=true:=z8 i t
def sM(prog)(w)(x)(t):(cE prog w).is (.inr x) (.str x t)=true:=z7 x t
inductive V where|non|bl(b:Bool)|int(i:Int)|str(x:Str)|byt(b:Array UInt8)|flt(b:UInt64)|ref(a:Addr)|ty(n:String)deriving DecidableEq
def RelV:V->Value->Prop|.non,u=>u=Value.none|.bl b,u=>u=Value.bool b|.int i,u=>∃t,u=Value.int i t|.str x,u=>∃t,u=Value.str x t|.byt b,u=>∃t,u=Value.bytes b t|.flt b,u=>∃t,u=Value.float b t|.ref a,u=>u=Value.ref a|.ty n,u=>u=Value.type n
abbrev Vals:List V->List Value->Prop:=Paired RelV
theorem Vals.length{xs us}(r:Vals xs us):xs.length=us.length:=Paired.length r
theorem Vals.get:∀{xs:List V}{us:List Value}{i:Nat}{x:V},Vals xs us->xs[i]?=some x->∃u,us[i]?=some u/\RelV x u|_,_,_,_,.nil,e=>by simp at e|_,_,0,_,.cons r _,e=>by simp at e;subst e;exact⟨_,rfl,r⟩|_,_,i+1,x,.cons _ t,e=>by obtain⟨u,a,b⟩:=Vals.get (i:=i) (x:=x) t (by simpa using e);exact⟨u,by simpa using a,b⟩
theorem Vals.set{x:V}{u:Value}(r:RelV x u):∀{xs:List V}{us:List Value}(i:Nat),Vals xs us->Vals (xs.set i x) (us.set i u)|_,_,_,.nil=>.nil|_,_,0,.cons _ t=>.cons r t|_,_,i+1,.cons q t=>.cons q<|Vals.set r i t
theorem Vals.append:∀{xs ys us ws},Vals xs us->Vals ys ws->Vals (xs++ys) (us++ws)|_,_,_,_,.nil,s=>s|_,_,_,_,.cons r t,s=>.cons r<|Vals.append t s
theorem Vals.take:∀{xs us}n,Vals xs us->Vals (xs.take n) (us.take n)|_,_,0,_=>.nil|_,_,_+1,.nil=>.nil|_,_,n+1,.cons r t=>.cons r<|Vals.take n t
theorem Vals.drop:∀{xs us}n,Vals xs us->Vals (xs.drop n) (us.drop n)|_,_,0,r=>r|_,_,_+1,.nil=>.nil|_,_,n+1,.cons _ t=>Vals.drop n t
def rG:Option V->Option Value->Prop|some v,some u=>RelV v u|none,none=>True|_,_=>False
def KV{a}:List (a×V)->List (a×Value)->Prop:=Paired λ(p:a×V)(q:a×Value)=>p.1=q.1/\RelV p.2 q.2
noncomputable def kV:Key->V|.inl (some i)=>.int i|.inl none=>.non|.inr x=>.str x
inductive HO where/-- a list -/|lst(xs:List V)/-- a tuple (never changes) -/|tup(xs:List V)/-- a dict whose keys are ints and texts;one whose keys are tuples of ints and texts (the empty one is both) -/|dK(kvs:List (Key×V))|dT(kvs:List (List Key×V))/-- a set of ints: its members,its size -/|set(S:Int->Bool)(n:Nat)/-- an instance of the class at C,its dict at dx,its attributes -/|ins(C dx:Addr)(fs:List (Str×V))/-- the dict of the instance at x -/|own(x:Addr)/-- the dict of an exception -/|xd(fs:List (Str×V))/-- a bound method,f of x -/|met(f x:Addr)/-- a range object lo,lo+1,.. below hi -/|rng(lo hi:Int)/-- a thing that is known to the object (the script;a dict while a loop walks it): read,never written while it is so -/|frz(o:Obj)(u:HO)/-- a code object's table -/|tbl(ps:Array Value)/-- a code object's table as TabAt tells -/|tab(ps:Array Value)/-- any other thing,by what is true of its one object (a def of one's own: SetO a S n:=HO.ext λh => ..) -/|ext(φ:Heap->Prop)
abbrev Hp:=Addr->Option HO
noncomputable def upd(H:Hp)(a:Addr)(o:HO):Hp:=λb=>if b=a then some o else H b
def aj{H a o}:upd H a o a=some o:=by unfold upd;rw[an4 rfl]
def ai{H a b o}(h:b≠a):upd H a o b=H b:=by unfold upd;rw[an5 h]
def aly{H:Hp}{a b o u}(h:H a=some o)(h':H b=some u)(d:o≠u):a≠b:=by grind
def aS{H:Hp}{a b o}(h:H a=some o)(h':H b=none):a≠b:=by grind
def TabAt(H:Hp)(h:Heap)(a:Addr)(ps:Array Value):Prop:=h.get? a=some {cls:=.none,data:=.fields #[]}\/∃(c:Addr)(q:Str)(t:Tok),H c=some (.own a)/\ps[2]?=some (.str q t)/\h.get? a=some {cls:=.none,data:=.fields #[ps.getD 0 .none,ps.getD 1 .none,.ref c]}/\h.CodeRec (.ref c) q
section
variable(P:Program)(w:World)
def cQ(H:Hp)(h:Heap)(a:Addr):HO->Prop|.lst c=>c.length<=sizeLine/\∃(b:List Value)(n:Nat),Vals c b/\h.get? a=some {cls:=.type "list",data:=.seq b.toArray n}|.tup c=>c.length<=sizeLine/\∃b:List Value,Vals c b/\IsTup h a b.toArray|.dK kvs=>kvs.length<=sizeLine/\(a==sysModules)=false/\∃g,KV kvs g/\h.DictOf (cE P w) a g|.dT kvs=>kvs.length<=sizeLine/\(a==sysModules)=false/\∃c:List (List Key×Addr×Value),Paired (λ(p:List Key×V)(q:List Key×Addr×Value)=>p.1=q.1/\H q.2.1=some (.tup<|p.1.map kV)/\RelV p.2 q.2.2) kvs c/\∃o e k,h.get? a=some o/\o.ExactDict/\o.data=.dict e k/\e.toList=c.map (entryOfKey<|tupleKind<|cE P w)/\(c.map (·.1)).Nodup|.set S n=>h.SetOf (intKind P w) a S n|.ins C dx fs=>H dx=some (.own a)/\fs.length<=1000/\dx≠a/\h.get? a=some (W.instObj C dx)/\∃d,h.Ns1 dx d/\(∀f,rG (fs.lookup f)<|d f)/\PySem.Within d (fs.map (·.1))|.own _=>∃o,h.get? a=some o|.xd fs=>∃d,h.Ns1 a d/\∀f,rG (fs.lookup f)<|d f|.rng lo hi=>∃t u v,h.get? a=some {cls:=.type "range",data:=.fields #[.int lo t,.int hi u,.int 1 v]}|.frz o u=>h.get? a=some o/\cQ H h a u|.tbl ps=>h.get? a=some {cls:=.none,data:=.fields ps}|.tab ps=>TabAt H h a ps|.met f x=>h.get? a=some (W.methodObj (.ref f)<|.ref x)|.ext φ=>φ h/\(∃o,h.get? a=some o)/\∀i j:Heap,φ i->(∀o,i.get? a=some o->j.get? a=some o)->φ j
def HOk(H:Hp)(h:Heap):Prop:=∀a o,H a=some o->cQ P w H h a o
end
section
variable{P:Program}{w:World}{H H':Hp}{h h':Heap}{a:Addr}{o:HO}
theorem cQ.lt(x:cQ P w H h a o):a<h.objs.size:=by cases o with|lst xs=>obtain⟨_,_,_,_,e⟩:=x;exact an9 e|tup xs=>obtain⟨_,_,_,p⟩:=x;exact p.lt|dK kvs|dT kvs=>obtain⟨_,_,_,_,o,_,_,e,_⟩:=x;exact an9 e|set S n=>obtain⟨o,_,_,_,e,_⟩:=x;exact an9 e|ins C dx fs=>obtain⟨_,_,_,e,_⟩:=x;exact an9 e|own y=>obtain⟨_,e⟩:=x;exact an9 e|xd fs=>obtain⟨_,⟨_,_,_,e,_⟩,_⟩:=x;exact an9 e|rng lo hi=>obtain⟨_,_,_,e⟩:=x;exact an9 e|frz ob u=>obtain⟨e,_⟩:=x;exact an9 e|tbl ps|met f y=>exact an9 x|tab ps=>rcases x with e|⟨_,_,_,_,_,e,_⟩<;>exact an9 e|ext φ=>obtain⟨_,⟨_,e⟩,_⟩:=x;exact an9 e
theorem Paired.ajN{c d F G}:∀{l₁:List c}{l₂:List d},Paired F l₁ l₂->(∀a b,F a b->G a b)->Paired G l₁ l₂|_,_,.nil,_=>.nil|_,_,.cons r t,f=>.cons (f _ _ r)<|Paired.ajN t f
def Paired.imp'{c d:Type}{F G:c->d->Prop}(f:∀a b,F a b->G a b){l₁:List c}{l₂:List d}(r:Paired F l₁ l₂):Paired G l₁ l₂:=Paired.ajN r f
def cQ.n5(x:cQ P w H h a o)(k:∀b u,b=a\/H b=some (.own a)->h.get? b=some u->h'.get? b=some u)(B:∀b,H b=some (.own a)->H' b=some (.own a))(ht:∀b l,H b=some (.tup l)->H' b=some (.tup l)):cQ P w H' h' a o:=by
 induction o with|lst l=>obtain⟨z,j,n,r,e⟩:=x;exact⟨z,j,n,r,k _ _ (.inl rfl) e⟩|tup l=>obtain⟨z,j,r,ob,e,c⟩:=x;exact⟨z,j,r,ob,k _ _ (.inl rfl) e,c⟩|dK kvs=>obtain⟨z,y,m,r,ob,g,i,e,c⟩:=x;exact⟨z,y,m,r,ob,g,i,k _ _ (.inl rfl) e,c⟩|dT kvs=>obtain⟨z,y,l,r,ob,g,i,e,c⟩:=x;exact⟨z,y,l,Paired.ajN r λp q z=>⟨z.1,ht _ _ z.2.1,z.2.2⟩,ob,g,i,k _ _ (.inl rfl) e,c⟩|set S n=>obtain⟨ob,g,i,t,e,c⟩:=x;exact⟨ob,g,i,t,k _ _ (.inl rfl) e,c⟩|ins C dx fs=>obtain⟨d,z,J,e,A,⟨od,g,i,s,c⟩,r⟩:=x;exact⟨B _ d,z,J,k _ _ (.inl rfl) e,A,⟨od,g,i,k _ _ (.inr d) s,c⟩,r⟩|own y=>obtain⟨ob,e⟩:=x;exact⟨ob,k _ _ (.inl rfl) e⟩|xd fs=>obtain⟨A,⟨od,g,i,e,c⟩,r⟩:=x;exact⟨A,⟨od,g,i,k _ _ (.inl rfl) e,c⟩,r⟩|rng lo hi=>obtain⟨t,u,v,e⟩:=x;exact⟨t,u,v,k _ _ (.inl rfl) e⟩|frz ob u ih=>obtain⟨e,q⟩:=x;exact⟨k _ _ (.inl rfl) e,ih q⟩|tab ps=>
 rcases x with e|⟨c,q,t,D,G,e,N,I,m,K,s,E,M⟩;.exact .inl (k a _ (.inl rfl) e)
 .cases s;exact .inr ⟨c,q,t,B c D,G,k a _ (.inl rfl) e,c,I,m,K,rfl,k c _ (.inr D) E,M⟩|tbl ps=>have e:=x;exact k a _ (.inl rfl) e|met f y=>have e:=x;exact k a _ (.inl rfl) e|ext φ=>obtain⟨p,⟨o,e⟩,st⟩:=x;exact⟨st _ _ p λo q=>k _ _ (.inl rfl) q,⟨o,k _ _ (.inl rfl) e⟩,st⟩
theorem HOk.lt(x:HOk P w H h)(e:H a=some o):a<h.objs.size:=(x a o e).lt
def HOk.fresh(x:HOk P w H h)(e:h.objs.size<=a):H a=none:=by cases q:H a with|none=>rfl|some u=>exact absurd (an6 (x.lt q) e)<|apw _
def HOk.kept(x:HOk P w H h)(k:∀b u,h.get? b=some u->h'.get? b=some u):HOk P w H h':=λa o e=>(x a o e).n5 (λb u _ q=>k b u q) (λ_ q=>q) λ_ _ q=>q
def HOk.laid(x:HOk P w H h)(k:∀b u,h.get? b=some u->h'.get? b=some u)(g:h.objs.size<=a)(new:cQ P w (upd H a o) h' a o):HOk P w (upd H a o) h':=λb u e=>by
 have d:=x.fresh g;by_cases f:b=a;.subst f;rw[aj]at e;cases e;exact new
 .rw[ai f]at e;exact(x b u e).n5 (λc v _ q=>k c v q) (λc q=>by rw[ai (aS q d)];exact q) λc i q=>by rw[ai (aS q d)];exact q
end
def Rd(H:Hp)(a:Addr)(u:HO):Prop:=H a=some u\/∃o,H a=some (.frz o u)
def Rd.ok{P w H h a u}(r:Rd H a u)(x:HOk P w H h):cQ P w H h a u:=by
 rcases r with r|⟨o,r⟩;.exact x a u r
 .obtain⟨_,q⟩:=x a _ r;exact q
def Mut:Option HO->Prop|some (.lst _)=>True|some (.dK _)=>True|some (.dT _)=>True|some (.set _ _)=>True|some (.ins _ _ _)=>True|some (.ext _)=>True|_=>False
section
variable{P:Program}{w:World}{H:Hp}{h h':Heap}{x e:Addr}{o':HO}
def HOk.write(ok:HOk P w H h)(d:Mut (H x))(n:e=x\/H e=some (.own x))(k:∀b u,b≠e->h.get? b=some u->h'.get? b=some u)(i:∃u,h'.get? e=some u)(new:cQ P w (upd H x o') h' x o'):HOk P w (upd H x o') h':=λb u q=>by
 have a:∀c y,H c=some (.own y)->c≠x:=λc y r z=>by subst z;rw[r]at d;exact d
 by_cases g:b=x;.subst g;rw[aj]at q;cases q;exact new
 .rw[ai g]at q;by_cases j:b=e
  .have m:H b=some (.own x):=by grind
   rw[q]at m;cases m;obtain⟨v,o⟩:=i;exact⟨v,by grind⟩
  .refine(ok b u q).n5 (λc v f r=>k c v ?_ r) (λc r=>by rw[ai (a c b r)];exact r) λc l r=>by rw[ai ((λc l r z=>by subst z;rw[r]at d;exact d) c l r)];exact r
   rcases f with rfl|f;.exact j
   .rintro rfl;rcases n with z|z;.exact a c b f z
    .rw[f]at z;cases z;exact g rfl
end
structure Un(fs ex:List Addr)(H H':Hp)(h h':Heap):Prop where
 keep:∀b o,h.get? b=some o->H b=none->b∉fs->b∉ex->h'.get? b=some o
 slot:∀b o,h.get? b=some o->H b=none->b∈fs->b∉ex->∃sl,h'.get? b=some {o with slots:=sl}free:∀b o,h.get? b=some o->H b=none->b∉ex->H' b=none
 there:∀b o,h.get? b=some o->b∉ex->∃o',h'.get? b=some o'
 tups:∀b xs,H b=some (.tup xs)->H' b=some (.tup xs)frzs:∀b o u,H b=some (.frz o u)->H' b=some (.frz o u)tbls:∀b ps,H b=some (.tbl ps)->∃more,H' b=some (.tbl<|ps++more)
section
variable{fs ex:List Addr}{H H1:Hp}{h h1 h':Heap}{a x e:Addr}{o:HO}
def Un.any(u:Un fs ex H H1 h h1){b ob}(q:h.get? b=some ob)(n:H b=none)(d:b∉ex):∃f,h1.get? b=some {ob with slots:=f}:=by
 by_cases c:b∈fs;.exact u.slot b _ q n c d
 .exact⟨_,u.keep b _ q n c d⟩
def Un.kept(k:∀b u,h.get? b=some u->h'.get? b=some u):Un fs ex H H h h':=⟨λb ob q _ _ _=>k b ob q,λb ob q _ _ _=>⟨ob.slots,k b ob q⟩,λ_ _ _ n _=>n,λb ob q _=>⟨ob,k b ob q⟩,λ_ _ q=>q,λ_ _ _ q=>q,λ_ ps q=>⟨#[],by rw[q];simp⟩⟩
def Un.refl:Un fs ex H H h h:=Un.kept λ_ _ q=>q
def Un.laid(k:∀b u,h.get? b=some u->h'.get? b=some u)(hp:h.objs.size<=a)(hn:H a=none):Un fs ex H (upd H a o) h h' where
 keep:=λb u q _ _ _=>k b u q;slot:=λb u q _ _ _=>⟨u.slots,k b u q⟩;free:=λb u q n _=>by rw[ai (aoi<|an6 (an9 q) hp)];exact n
 there:=λb u q _=>⟨u,k b u q⟩;tups:=λb xs q=>by rw[ai (aS q hn)];exact q
 frzs:=λb u xs q=>by rw[ai (aS q hn)];exact q
 tbls:=λb ps q=>⟨#[],by rw[ai (aS q hn),q];simp⟩
def Un.write(i:Mut (H x))(p:e=x\/H e=some (.own x))(k:∀b u,b≠e->h.get? b=some u->h'.get? b=some u)(d:∃u,h'.get? e=some u):Un fs ex H (upd H x o) h h':=by
 have j:∀b,H b=none->b≠x:=λb n z=>by subst z;rw[n]at i;exact i
 have g:∀b,H b=none->b≠e:=λb n z=>by grind
 have f:∀b u,H b=some u->¬Mut (some u)->b≠x:=λb u q m z=>by grind
 refine⟨λb u q n _ _=>k b u (g b n) q,λb u q n _ _=>⟨u.slots,k b u (g b n) q⟩,λb u q n _=>by rw[ai (j b n)];exact n,λb u q _=>?_,λb l q=>by rw[ai (f b _ q λz=>z)];exact q,λb u l q=>by rw[ai (f b _ q λz=>z)];exact q,λb ps q=>⟨#[],by rw[ai (f b _ q λz=>z),q];simp⟩⟩;by_cases c:b=e;.subst c;exact d
 .exact⟨u,k b u c q⟩
end
noncomputable def trk(h:Heap)(H:Hp):List Addr:=(List.range h.objs.size).filter λa=>(H a).isSome
def aak(h:Heap)(H:Hp):Heap:=W.hideAll h<|trk h H
def aaj(h)(H):(aak h H).objs.size=h.objs.size:=W.hideAll_size _ _
def vv{h H b o}(e:h.get? b=some o)(n:H b=none):(aak h H).get? b=some o:=W.hideAll_get _ e λa=>by have q:=(aoX.mp a).2;rw[n]at q;simp at q
def afB{h H b o}(e:(aak h H).get? b=some o):h.get? b=some o/\H b=none:=by have a:=W.of_hideAll _ e;refine⟨a,?_⟩;cases q:H b with|none=>rfl|some x=>have z:(aak h H).get? b=none:=W.hideAll_none _ (aoX.mpr ⟨aoc.mpr<|an9 a,by grind⟩);rw[z]at e;cases e
noncomputable def gA(g h:Heap)(L:Addr):List (Addr×Obj):=(List.range h.objs.size).filterMap λa=>if a=L\/(g.get? a).isSome=true then none else(h.get? a).map λo=>(a,o)
def eu{g h:Heap}{L a:Addr}{o:Obj}(c:a≠L)(d:g.get? a=none)(b:h.get? a=some o):(a,o)∈gA g h L:=ape.mpr ⟨a,aoc.mpr<|an9 b,by simp[c,d,b]⟩
def mw{g h:Heap}{L:Addr}{p:Addr×Obj}(c:p∈gA g h L):p.1≠L/\g.get? p.1=none/\h.get? p.1=some p.2:=by
 obtain⟨b,_,e⟩:=ape.mp c;split at e;.cases e
 .rename_i a;cases q:h.get? b with|none=>rw[q]at e;simp at e|some u=>rw[q]at e;simp only[Option.map_some,aqW]at e;subst e;refine⟨λz=>a<|.inl z,?_,q⟩;show g.get? b=none;cases r:g.get? b with|none=>rfl|some v=>exact(a<|.inr<|by simp[r]).elim
def rest(g h:Heap)(L d:Addr):List (Addr×Obj):=(gA g h L).filter λp=>decide (p.1≠d)
def kn{g h:Heap}{L:Addr}:News g L h (gA g h L):=λp d=>let⟨a,b,c⟩:=mw d;⟨c,a,b⟩
structure Mod(K:W.Frag)(mg:Str->Option Value)(base:Heap):Prop where
 kin:K.In base
 glob:base.Ns mainGlobals mg
 blt:∃mb,base.Ns builtinsNs mb/\∀x:Str,x≠"__name__"->mb x=bootBuiltins x
 nolimit:base.NoLimit
structure Cx where
 prog:Program
 w:World
 K:W.Frag
 mg:Str->Option Value
 base:Heap
 A:Around
 N:List Str
 s₀:Shared
 H₀:Hp
 env:Env
 outer:List Env
 stack:List Env
 ex:List Addr
 fn:Str->Bool
 calm:Bool
 pn:List (Addr×Obj)xe:Value->Shared->Prop
noncomputable def frs(l:List Env):List Addr:=l.filterMap (·.frame)
abbrev Cx.fs(X:Cx):List Addr:=frs X.outer
def Vis(a:Scope)(x:Str):Prop:=a.names.lookup x=some .local\/a.names.lookup x=some .cell\/a.names.lookup x=some .free
def Loc(a:Scope)(x:Str):Prop:=a.names.lookup x=some .local\/a.names.lookup x=some .cell
def Look(a:Env)(h:Heap)(m:Str->Option Value)(x:Str)(u:Value):Prop:=a.kindOf x=some .local/\m x=some u\/(a.kindOf x=some .cell\/a.kindOf x=some .free)/\∃c,a.cells.lookup x=some c/\h.IsCell c (some u)
abbrev Dbg(x:Str):Prop:=(x==("__debug__":Str))=false
abbrev SE(X:Cx)(e:Expr)(es:List Expr):Prop:=starEach (e::es) X.env=(false,eval e X.env)::starEach es X.env
abbrev BT(X:Cx)(p:Pos)(es:List Expr):Prop:=(backTo p<|starEach es X.env).any (·.1)=false
abbrev FL(X:Cx)(x:Str):Prop:=X.fn x=true\/X.env.scope.names.lookup x=some .local
structure Cx.Ok(X:Cx):Prop where
 mod:Mod X.K X.mg X.base
 kind:X.env.scope.kind=.function
 glob:X.env.globals=mainGlobals
 blt:X.env.builtins=builtinsNs
 above:X.s₀.heap.objs.size<=X.env.locals
 inj:∀x y c,X.env.cells.lookup x=some c->X.env.cells.lookup y=some c->x=y
 has:∀x,X.env.kindOf x=some .cell\/X.env.kindOf x=some .free->∃c,X.env.cells.lookup x=some c
 cab:∀x c,X.fn x=true->X.env.cells.lookup x=some c->X.s₀.heap.objs.size<=c
 hd:X.calm=true->X.A.handled=none
 frames:X.A.frames=some X.stack
 stk:X.stack=X.outer\/X.stack=X.env::X.outer/\X.env.frame=some X.env.locals
 exf:∀b∈X.ex,b≠X.env.locals/\∀x c,X.env.cells.lookup x=some c->c≠b
 bs:∀b o,X.base.get? b=some o->X.s₀.heap.get? b=some o/\X.H₀ b=none
 bsz:X.base.objs.size<=X.s₀.heap.objs.size
 noex:∀b o,X.base.get? b=some o->b∉X.ex
 exfs:∀b∈X.ex,b∉X.fs
 nj:X.s₀.heap.FunFrames X.base X.outer
 frf:∀b∈X.fs,X.H₀ b=none
structure Inv(X:Cx)(pins:List (Addr×Obj))(σ:List (Option V))(H:Hp)(s:Shared):Prop where
 ok:X.Ok
 os:s.os=X.s₀.os
 bare:AllBare s.gens
 base:Un X.fs X.ex X.H₀ H X.s₀.heap s.heap
 loc:∃m,s.heap.Ns X.env.locals m/\∀(i:Nat)(x:Str)(v:V),X.N[i]?=some x->σ[i]?=some (some v)->Vis X.env.scope x->∃u,RelV v u/\Look X.env s.heap m x u
 cell:∀x c,X.env.cells.lookup x=some c->∃v,s.heap.IsCell c v
 free:H X.env.locals=none
 freeC:∀x c,X.env.cells.lookup x=some c->H c=none
 pin:∀p∈X.pn++pins,s.heap.get? p.1=some p.2/\H p.1=none/\p.1≠X.env.locals/\p.1∉X.fs/\∀v,p.2.data≠.cell v
 hok:HOk X.prog X.w H s.heap
 len:σ.length=X.N.length
section
variable{X:Cx}{pins:List (Addr×Obj)}{σ:List (Option V)}{H H':Hp}{s:Shared}{h':Heap}
def Cx.Ok.anN(ok:X.Ok){b o}(e:X.base.get? b=some o):b∉X.fs:=λa=>by have:=(ok.nj.mem a).1;rw[e]at this;cases this
theorem Inv.bs(I:Inv X pins σ H s):∀b o,X.base.get? b=some o->s.heap.get? b=some o/\H b=none:=λb o e=>⟨I.base.keep b o (I.ok.bs b o e).1 (I.ok.bs b o e).2 (I.ok.anN e)<|I.ok.noex b o e,I.base.free b o (I.ok.bs b o e).1 (I.ok.bs b o e).2<|I.ok.noex b o e⟩
def Inv.bk(I:Inv X pins σ H s):∀b o,X.base.get? b=some o->s.heap.get? b=some o:=λb o e=>(I.bs b o e).1
theorem Inv.mod(I:Inv X pins σ H s):Mod X.K X.mg X.base:=I.ok.mod
def Inv.kIn(I:Inv X pins σ H s):X.K.In s.heap:=I.ok.mod.kin.keeps I.bk
theorem Inv.lt(I:Inv X pins σ H s):X.env.locals<s.heap.objs.size:=let⟨_,a,_⟩:=I.loc;a.lt
def Inv.sz(I:Inv X pins σ H s):X.s₀.heap.objs.size<=s.heap.objs.size:=aoh I.ok.above<|ao9 I.lt
def Inv.agt(I:Inv X pins σ H s){a:Addr}(h:s.heap.objs.size<=a):a∉X.fs:=λc=>by obtain⟨_,o,b,_⟩:=I.ok.nj.mem c;exact absurd (an6 (an9 b)<|aoh I.sz h)<|apw _
def Inv.cne(I:Inv X pins σ H s):∀x c,X.env.cells.lookup x=some c->c≠X.env.locals:=λx c e z=>by obtain⟨v,o,f,d⟩:=I.cell x c e;obtain⟨m,⟨h,i,g,b,a,_⟩,_⟩:=I.loc;rw[z,b]at f;cases f;rw[a]at d;cases d
theorem Inv.nj(I:Inv X pins σ H s):s.heap.FunFrames X.base X.outer:=by
 have all:∀(l),(∀b∈frs l,b∈X.fs)->X.s₀.heap.FunFrames X.base l->s.heap.FunFrames X.base l:=by intro l;induction l with|nil=>intro _ _;trivial|cons env r ih=>intro f j;obtain⟨g,⟨L,o,a,h,k,i⟩,m⟩:=j;have d:=f L (by unfold frs;rw[aqG,a];exact aol);obtain⟨n,e⟩:=I.base.slot L o k (I.ok.frf L d) d λz=>I.ok.exfs L z d;exact⟨g,aby L _ a h e i,ih (λb c=>f b<|by unfold frs;rw[aqG,a];exact aog _ c) m⟩
 exact all _ (λ_ c=>c) I.ok.nj
theorem Inv.stack(I:Inv X pins σ H s):s.heap.FunFrames X.base X.stack:=by
 rcases I.ok.stk with e|⟨e,b⟩;.rw[e];exact I.nj
 .rw[e];obtain⟨m,a,_⟩:=I.loc;exact .cons (by rw[I.ok.kind];decide) b a (aoG<|aoh I.ok.bsz I.ok.above) I.nj
def Inv.uK(I:Inv X pins σ H s):∀b∈frs X.stack,b∈X.env.locals::X.fs:=λb a=>by
 rcases I.ok.stk with e|⟨e,c⟩;.rw[e]at a;exact aog _ a
 .rw[e]at a;unfold frs at a;rw[aqG,c]at a;exact a
def Inv.kR(I:Inv X pins σ H s):∀b∈frs X.stack,H b=none:=λb a=>by
 rcases an7.mp (I.uK b a)with e|a;.rw[e];exact I.free
 .obtain⟨_,o,c,_⟩:=I.ok.nj.mem a;exact I.base.free b o c (I.ok.frf b a) λz=>I.ok.exfs b z a
def Inv.n4{g' t' d'}{ch:List Addr}(I:Inv X pins σ H s)(h:∀b∈ch,(b∈X.ex\/X.s₀.heap.get? b=none)/\b≠X.env.locals/\(∀x c,X.env.cells.lookup x=some c->c≠b)/\∀p∈X.pn++pins,p.1≠b)(keep:∀b o,b≠X.env.locals->b∉X.fs->b∉ch->s.heap.get? b=some o->H b=none->h'.get? b=some o)(w:∀b o,b≠X.env.locals->b∈X.fs->b∉ch->s.heap.get? b=some o->H b=none->∃P,h'.get? b=some {o with slots:=P})(free:∀b o,b∉ch->s.heap.get? b=some o->H b=none->H' b=none)(there:∀b o,b∉ch->s.heap.get? b=some o->∃D,h'.get? b=some D)(J:∀b y,H b=some (.tup y)->H' b=some (.tup y))(K:∀b o u,H b=some (.frz o u)->H' b=some (.frz o u))(C:∀b ps,H b=some (.tbl ps)->∃G,H' b=some (.tbl<|ps++G))(ns:∀m,s.heap.Ns X.env.locals m->h'.Ns X.env.locals m)(O:HOk X.prog X.w H' h')(Z:AllBare g'):Inv X pins σ H' {s with heap:=h',gens:=g',drawn:=d',toks:=t'}:=by
 have E:∀b o,X.s₀.heap.get? b=some o->b≠X.env.locals:=λb o e=>aoi<|an6 (an9 e) I.ok.above;have t:∀b o,X.s₀.heap.get? b=some o->b∉X.ex->b∉ch:=λb o e a A=>by
  rcases(h b A).1 with z|z;.exact a z
  .rw[z]at e;cases e
 have f:∀x c,X.env.cells.lookup x=some c->∀v,s.heap.IsCell c v->h'.IsCell c v:=λx c e v⟨o,B,N⟩=>by
  have g:c∉ch:=λz=>(h c z).2.2.1 x c e rfl;by_cases T:c∈X.fs;.obtain⟨P,q⟩:=w c o (I.cne x c e) T g B<|I.freeC x c e;exact⟨_,q,N⟩
  .exact⟨o,keep c o (I.cne x c e) T g B<|I.freeC x c e,N⟩
 refine⟨I.ok,I.os,Z,⟨λb o e n A a=>?_,λb o e n A a=>?_,λb o e n a=>?_,λb o e a=>?_,λb y e=>J b y<|I.base.tups b y e,λb o y e=>K b o y<|I.base.frzs b o y e,λb ps e=>?_⟩,?_,λx c e=>?_,?_,λx c e=>?_,λp U=>?_,O,I.len⟩;.exact keep b o (E b o e) A (t b o e a) (I.base.keep b o e n A a) (I.base.free b o e n a)
 .obtain⟨P,j⟩:=I.base.slot b o e n A a;obtain⟨Q,M⟩:=w b _ (E b o e) A (t b o e a) j<|I.base.free b o e n a;exact⟨Q,M⟩
 .obtain⟨D,j⟩:=I.base.there b o e a;exact free b D (t b o e a) j<|I.base.free b o e n a
 .obtain⟨D,j⟩:=I.base.there b o e a;exact there b D (t b o e a) j
 .obtain⟨m1,j⟩:=I.base.tbls b ps e;obtain⟨m2,M⟩:=C b _ j;exact⟨m1++m2,by rw[M,Array.append_assoc]⟩
 .refine gB I.loc λm hn hl=>?_;refine⟨m,ns m hn,λi x v j M Y=>?_⟩;obtain⟨u,r,l⟩:=hl i x v j M Y;refine⟨u,r,?_⟩;rcases l with l|⟨k,c,e,z⟩;.exact .inl l
  .exact .inr ⟨k,c,e,f x c e _ z⟩
 .obtain⟨v,z⟩:=I.cell x c e;exact⟨v,f x c e v z⟩
 .obtain⟨m,⟨o,_,_,B,_⟩,_⟩:=I.loc;exact free _ o (λz=>(h _ z).2.1 rfl) B I.free
 .obtain⟨v,o,B,N⟩:=I.cell x c e;exact free c o (λz=>(h c z).2.2.1 x c e rfl) B<|I.freeC x c e
 .refine ajm (I.pin p U) λe n R S d=>?_;have g:p.1∉ch:=λz=>(h p.1 z).2.2.2 p U rfl;exact⟨keep p.1 p.2 R S g e n,free p.1 p.2 g e n,R,S,d⟩
def Inv.step{g' t' d' h' H'}{ch:List Addr}(I:Inv X pins σ H s)(a:∀b∈ch,(b∈X.ex\/X.s₀.heap.objs.size<=b)/\b≠X.env.locals/\(∀x c,X.env.cells.lookup x=some c->c≠b)/\∀p∈X.pn++pins,p.1≠b):=I.n4 (g':=g') (t':=t') (d':=d') (h':=h') (H':=H') λb d=>⟨(a b d).1.imp_right aoG,(a b d).2⟩
def Inv.un{t'}(I:Inv X pins σ H s)(u:Un X.fs [] H H' s.heap h')(c:HOk X.prog X.w H' h'):Inv X pins σ H' {s with heap:=h',toks:=t'}:=by obtain⟨m,⟨o,p,q,f,r⟩,_⟩:=id I.loc;obtain⟨t,j⟩:=u.any f I.free (by simp);exact I.step (ch:=[]) (λ_ z=>nomatch z) (λb o _ d _ e n=>u.keep b o e n d<|by simp) (λb o _ d _ e n=>u.slot b o e n d<|by simp) (λb o _ e n=>u.free b o e n<|by simp) (λb o _ e=>u.there b o e<|by simp) u.tups u.frzs u.tbls (λl i=>by refine vV i λv k g a h=>?_;rw[f]at a;cases a;exact abx _ _ _ j h) c I.bare
def Inv.call{g' t' d' ch}(I:Inv X pins σ H s)(u:Un (frs X.stack) ch H H' s.heap h')(g:HOk X.prog X.w H' h')(k:AllBare g')(f:∀b∈ch,(b∈X.ex\/X.s₀.heap.objs.size<=b)/\b≠X.env.locals/\(∀x c,X.env.cells.lookup x=some c->c≠b)/\∀p∈X.pn++pins,p.1≠b):Inv X pins σ H' {s with heap:=h',gens:=g',drawn:=d',toks:=t'}:=by obtain⟨m,⟨o,y,C,i,r⟩,_⟩:=id I.loc;obtain⟨A,h⟩:=u.any i I.free λz=>(f _ z).2.1 rfl;exact I.step f (λb o h q a e n=>u.keep b o e n (λz=>(an7.mp<|I.uK b z).elim h q) a) (λb o _ _ a e n=>u.any e n a) (λb o a e n=>u.free b o e n a) (λb o a e=>u.there b o e a) u.tups u.frzs u.tbls (λw t=>by refine vV t λB v j d l=>?_;rw[i]at d;cases d;exact abx _ _ _ h l) g k
def Inv.turned{t' it}(I:Inv X pins σ H s)(k:∀b o,b≠it->s.heap.get? b=some o->h'.get? b=some o)(A:H it=none)(f:it≠X.env.locals)(i:it∈X.ex\/X.s₀.heap.objs.size<=it)(y:∀x c,X.env.cells.lookup x=some c->c≠it)(t:∀p∈X.pn++pins,p.1≠it):Inv X pins σ H {s with heap:=h',toks:=t'}:=by
 have d:∀b u,H b=some u->b≠it:=λb u e z=>by grind
 refine I.step (g':=s.gens) (ch:=[it]) (λb l=>?_) (λb o _ _ a e _=>k b o (λz=>a<|by simp[z]) e) (λb o _ _ a e _=>⟨o.slots,k b o (λz=>a<|by simp[z]) e⟩) (λ_ _ _ _ n=>n) (λb o a e=>⟨o,k b o (λz=>a<|by simp[z]) e⟩) (λ_ _ e=>e) (λ_ _ _ e=>e) (λb ps e=>⟨#[],by rw[e];simp⟩) (λm w=>?_) (λb u e=>?_) I.bare
 .have e:b=it:=by simpa using l
  subst e;exact⟨i,f,y,t⟩
 .refine vV w λo h j g r=>?_;exact abx o h j (k _ o (aom f) g) r
 .refine(I.hok b u e).n5 (λc v a q=>k c v ?_ q) (λ_ q=>q) λ_ _ q=>q;rcases a with z|z;.rw[z];exact d b u e
  .exact d c _ z
def Inv.tok(I:Inv X pins σ H s)(t):Inv X pins σ H {s with toks:=t}:=I.un  Un.refl I.hok
theorem Inv.kept{t'}(I:Inv X pins σ H s)(k:∀b u,s.heap.get? b=some u->h'.get? b=some u):Inv X pins σ H {s with heap:=h',toks:=t'}:=I.un (Un.kept k)<|I.hok.kept k
theorem Inv.laid{a:Addr}{o t'}(I:Inv X pins σ H s)(k:∀b u,s.heap.get? b=some u->h'.get? b=some u)(c:s.heap.objs.size<=a)(new:cQ X.prog X.w (upd H a o) h' a o):Inv X pins σ (upd H a o) {s with heap:=h',toks:=t'}:=I.un (Un.laid k c<|I.hok.fresh c)<|I.hok.laid k c new
theorem Inv.write{x e o t'}(I:Inv X pins σ H s)(d:Mut (H x))(c:e=x\/H e=some (.own x))(k:∀b u,b≠e->s.heap.get? b=some u->h'.get? b=some u)(a:∃u,h'.get? e=some u)(new:cQ X.prog X.w (upd H x o) h' x o):Inv X pins σ (upd H x o) {s with heap:=h',toks:=t'}:=I.un (Un.write d c k a)<|I.hok.write d c k a new
def Inv.eU{a}(I:Inv X pins σ H s)(h:∀p∈a,s.heap.get? p.1=some p.2/\H p.1=none/\p.1≠X.env.locals/\p.1∉X.fs/\∀v,p.2.data≠.cell v):Inv X a σ H s:=⟨I.ok,I.os,I.bare,I.base,I.loc,I.cell,I.free,I.freeC,λp b=>(aoH.mp b).elim (λz=>I.pin p<|aou _ z)<|h p,I.hok,I.len⟩
def ov{N:List Str}(e:N.Nodup){i j:Nat}{x}(a:N[i]?=some x)(b:N[j]?=some x):i=j:=by obtain⟨f,d⟩:=aoa.mp a;obtain⟨g,c⟩:=aoa.mp b;exact(List.getElem_inj e).mp (d.trans c.symm)
def iF{M A E i x v u Q}(I:Inv X pins σ H s)(hN:X.N.Nodup)(P:X.N[i]?=some x)(w:Loc X.env.scope x)(r:RelV v u)(h:∀s',Inv X pins (σ.set i<|some v) H s'->(∃a,Heap.SameBut a s.heap s'.heap/\(a=X.env.locals\/X.env.cells.lookup x=some a))->Q () s')(hf:FL X x:=by first|exact .inl rfl|exact .inr rfl|assumption):wpAny M A (storeName X.env x u) Q E s:=by
 refine gB (id I.loc) λm hn hl=>?_;have T:(X.env.scope.kind==.class||X.env.scope.kind==.module&&X.env.locals !=X.env.globals)=false:=by rw[I.ok.kind];rfl
 have D:i<σ.length:=by rw[I.len];exact(aoa.mp P).1
 have cne:=I.cne;have l:∀{a:Addr}{h':Heap},(∃o,s.heap.get? a=some o/\H a=none)->Heap.SameBut a s.heap h'->HOk X.prog X.w H h':=λ{a h'}ha f b ob e=>by
  obtain⟨_,_,B⟩:=ha;refine(I.hok b ob e).n5 (λc w' t q=>(f.2 c ?_).trans q) (λ_ q=>q) λ_ _ q=>q;rintro rfl;rcases t with rfl|t;.rw[B]at e;cases e
  .rw[B]at t;cases t
 rcases w with N|N
 .refine wpAny_storeName_local N hn (λh' a1 f=>?_) T;obtain⟨oL,_,_,a0,_⟩:=id hn;refine h _ ⟨I.ok,I.os,I.bare,⟨λb o e n K w=>?_,λb o e n K w=>?_,I.base.free,λb o e w=>?_,I.base.tups,I.base.frzs,I.base.tbls⟩,⟨_,a1,λj y v' g C e3=>?_⟩,λy c e=>?_,I.free,I.freeC,λp hp=>?_,l ⟨oL,a0,I.free⟩ f,by simpa using I.len⟩ ⟨_,f,.inl rfl⟩;.exact(f.2 b<|aoi<|an6 (an9 e) I.ok.above).trans (I.base.keep b o e n K w)
  .obtain⟨sl,g⟩:=I.base.slot b o e n K w;exact⟨sl,(f.2 b<|aoi<|an6 (an9 e) I.ok.above).trans g⟩
  .obtain⟨o',g⟩:=I.base.there b o e w;exact⟨o',(f.2 b<|aoi<|an6 (an9 e) I.ok.above).trans g⟩
  .by_cases G:j=i;.subst G;rw[P]at g;cases g;rw[aof D]at C;cases C;exact⟨u,r,.inl ⟨N,by simp⟩⟩
   .rw[an3 (aom G)]at C;obtain⟨u',r',q⟩:=hl j y v' g C e3;refine⟨u',r',?_⟩;rcases q with⟨k,e⟩|⟨k,c,e,z⟩;.refine .inl ⟨k,?_⟩;have:y≠x:=λe=>G<|ov hN g<|e▸P;simp[this,e]
    .exact .inr ⟨k,c,e,z.sameBut f<|cne y c e⟩
  .obtain⟨w',z⟩:=I.cell y c e;exact⟨w',z.sameBut f<|cne y c e⟩
  .refine ajm (I.pin p hp) λe n Z nf d=>?_;exact⟨(f.2 p.1 Z).trans e,n,Z,nf,d⟩
 .have J:X.fn x=true:=by grind
  obtain⟨c,t⟩:=I.ok.has x<|.inl N;obtain⟨w',z⟩:=I.cell x c t;refine wpAny_storeName_cell I.ok.kind N t z λh' R f=>?_;refine gB (id z) λoc O U=>?_;refine h {s with heap:=h'} ⟨I.ok,I.os,I.bare,⟨λb o e n K w=>?_,λb o e n K w=>?_,I.base.free,λb o e w=>?_,I.base.tups,I.base.frzs,I.base.tbls⟩,⟨m,hn.sameBut f<|aom<|cne x c t,λj y v' g C e3=>?_⟩,λy Y e=>?_,I.free,I.freeC,λp hp=>?_,l ⟨oc,O,I.freeC x c t⟩ f,by simpa using I.len⟩ ⟨c,f,.inr t⟩;.exact(f.2 b<|aoi<|an6 (an9 e)<|I.ok.cab x c J t).trans (I.base.keep b o e n K w)
  .obtain⟨sl,g⟩:=I.base.slot b o e n K w;exact⟨sl,(f.2 b<|aoi<|an6 (an9 e)<|I.ok.cab x c J t).trans g⟩
  .obtain⟨o',g⟩:=I.base.there b o e w;exact⟨o',(f.2 b<|aoi<|an6 (an9 e)<|I.ok.cab x c J t).trans g⟩
  .by_cases G:j=i;.subst G;rw[P]at g;cases g;rw[aof D]at C;cases C;exact⟨u,r,.inr ⟨.inl N,c,t,R⟩⟩
   .rw[an3 (aom G)]at C;obtain⟨u',r',q⟩:=hl j y v' g C e3;refine⟨u',r',?_⟩;rcases q with q|⟨k,Y,e,z'⟩;.exact .inl q
    .refine .inr ⟨k,Y,e,z'.sameBut f ?_⟩;rintro rfl;exact G<|ov hN g<|I.ok.inj _ _ _ e t▸P
  .by_cases S:Y=c;.subst S;exact⟨_,R⟩
   .obtain⟨w2,z2⟩:=I.cell y Y e;exact⟨w2,z2.sameBut f S⟩
  .refine ajm (I.pin p hp) λe n Z nf d=>?_;refine⟨(f.2 p.1 ?_).trans e,n,Z,nf,d⟩;intro q;rw[q,O]at e;have q':oc=p.2:=aow e;exact d w' (by rw[<-q'];exact U)
def uJ{M A E i x v u Q}(I:Inv X pins σ H s)(e:X.N.Nodup)(b:X.N[i]?=some x)(d:Loc X.env.scope x)(r:RelV v u)(h:∀a,Inv X pins (σ.set i<|some v) H a->Q () a)(c:FL X x:=by first|exact .inl rfl|exact .inr rfl|assumption):wpAny M A (storeName X.env x u) Q E s:=iF I e b d r (λa f _=>h _ f) c
def Inv.adz{s' ch}(I:Inv X pins σ H s)(g:s'.os=s.os)(u:Un (frs X.stack) ch H H' s.heap s'.heap)(a:HOk X.prog X.w H' s'.heap)(f:AllBare s'.gens)(d:∀b∈ch,(b∈X.ex\/X.s₀.heap.objs.size<=b)/\b≠X.env.locals/\(∀x c,X.env.cells.lookup x=some c->c≠b)/\∀p∈X.pn++pins,p.1≠b):Inv X pins σ H' s':=by obtain⟨h',j,k,h,i⟩:=s';have e:=g;subst e;exact I.call  u a f d
end
abbrev DX:=Option Addr×Value×Value
abbrev XK:=Value->DX->Hp->Prop
abbrev St:=List<|Option V
abbrev VK:=V->Hp->Prop
abbrev TE:=St->Hp->VK->Prop
abbrev TT:=St->Hp->(Bool->Hp->Prop)->Prop
abbrev TA:=St->Hp->(List V->Hp->Prop)->Prop
structure Ends where
 nx:St->Hp->Prop
 rt:VK
 bk:St->Hp->Prop:=λ_ _=>False
 ct:St->Hp->Prop:=λ_ _=>False
abbrev TS:=Ends->St->Hp->Prop
def EP(X:Cx)(pins:List (Addr×Obj))(σ:St)(Q:VK)(u:Value)(s':Shared):Prop:=∃v a,Inv X pins σ a s'/\RelV v u/\Q v a
def TP(X:Cx)(pins:List (Addr×Obj))(σ:St)(Q:Bool->Hp->Prop)(b:Bool)(s':Shared):Prop:=∃a,Inv X pins σ a s'/\Q b a
def AP(X:Cx)(pins:List (Addr×Obj))(σ:St)(Q:List V->Hp->Prop)(us:List Value)(s':Shared):Prop:=∃a b,Inv X pins σ b s'/\Vals a us/\Q a b
def SP(X:Cx)(pins:List (Addr×Obj))(D:Ends)(f:Flow)(s':Shared):Prop:=match f with|.next=>∃a b,Inv X pins a b s'/\D.nx a b|.brk=>∃a b,Inv X pins a b s'/\D.bk a b|.cont=>∃a b,Inv X pins a b s'/\D.ct a b|.ret u=>∃v a b,Inv X pins a b s'/\RelV v u/\D.rt v b
def PE(X:Cx)(e:Expr)(t:TE):Prop:=∀(a:List (Addr×Obj))(s:Shared)(b:St)(H:Hp)(Q:VK),Inv X a b H s->t b H Q->wpAny (model X.prog X.w) X.A (eval e X.env) (EP X a b Q) X.xe s
def PT(X:Cx)(e:Expr)(t:TT):Prop:=∀(a:List (Addr×Obj))(s:Shared)(b:St)(H:Hp)(Q:Bool->Hp->Prop),Inv X a b H s->t b H Q->wpAny (model X.prog X.w) X.A (isTrue e X.env<|eval e X.env) (TP X a b Q) X.xe s
def PW(X:Cx)(e:Expr)(t:TT):Prop:=∀(b:Sem Value)(a:List (Addr×Obj))(s:Shared)(c:St)(H:Hp)(Q:Bool->Hp->Prop),Inv X a c H s->t c H Q->wpAny (model X.prog X.w) X.A (isTrue e X.env b) (TP X a c Q) X.xe s
def PW.pt{X e t}(h:PW X e t):PT X e t:=h _
def PA(X:Cx)(es:List Expr)(t:TA):Prop:=∀(c:Pos)(a:List (Addr×Obj))(s:Shared)(b:St)(H:Hp)(Q:List V->Hp->Prop),Inv X a b H s->t b H Q->wpAny (model X.prog X.w) X.A (spliced<|backTo c<|starEach es X.env) (AP X a b Q) X.xe s
def PS(X:Cx)(st:Stmt)(t:TS):Prop:=∀(a:List (Addr×Obj))(s:Shared)(b:St)(H:Hp)(D:Ends),Inv X a b H s->t D b H->wpAny (model X.prog X.w) X.A (exec st X.env) (SP X a D) X.xe s
def PSs(X:Cx)(st:List Stmt)(t:TS):Prop:=∀(a:List (Addr×Obj))(s:Shared)(b:St)(H:Hp)(D:Ends),Inv X a b H s->t D b H->wpAny (model X.prog X.w) X.A (execs st X.env) (SP X a D) X.xe s
def thn{d t}{Q b:d->Shared->Prop}{M A E s}(h:wpAny M A t Q E s)(c:∀a s,Q a s->b a s):wpAny M A t b E s:=aoA h c λ_ _ x=>x
section
variable{X:Cx}
def kQ(i:Nat):TE:=λa H Q=>∃v,a[i]?=some (some v)/\Q v H
def tC(v:V):TE:=λ_ H Q=>Q v H
def ahP{i x pos}(q:X.N[i]?=some x)(o:Vis X.env.scope x)(d:Dbg x:=by decide)(f:(x=="__classdict__")=false:=by decide):PE X (.Name x pos) (kQ i):=by
 intro g s p H Q I h;refine gB h λv e h=>?_;refine gB I.loc λm k n=>?_;obtain⟨u,r,l⟩:=n i x v q e o;have fin:EP X _ p Q u s:=⟨v,H,I,r,h⟩;rcases l with⟨b,t⟩|⟨b,c,j,a⟩;.exact wpAny_Name (wpAny_loadName_local I.ok.kind b k t fin) d
 .rcases b with b|b;.exact wpAny_Name (wpAny_loadName_cell I.ok.kind b j a fin) d
  .exact wpAny_Name (wpAny_loadName_free I.ok.kind b j a fin f) d
def ad8{i j pos}:PE X (.Constant (.int i) j pos) (tC<|.int i):=λ_ _ _ H _ I h=>wpAny_Constant_int ⟨.int i,H,I.tok _,⟨_,rfl⟩,h⟩
def alb{b j pos}:PE X (.Constant (.bool b) j pos) (tC<|.bl b):=λ_ _ _ H _ I h=>Constant_bool ⟨.bl b,H,I,rfl,h⟩
def ahU{j pos}:PE X (.Constant .none j pos) (tC .non):=λ_ _ _ H _ I h=>Constant_none ⟨.non,H,I,rfl,h⟩
def jS{x j pos}:PE X (.Constant (.str x) j pos) (tC<|.str x):=λ_ _ _ H _ I h=>Calls.Constant_str ⟨.str x,H,I.tok _,⟨_,rfl⟩,h⟩
def Gl(X:Cx)(x:Str):Prop:=X.env.kindOf x=some .globalImplicit
def gi{E pins s}{σ:St}{H x u pos Q}(I:Inv X pins σ H s)(b:Gl X x)(c:X.mg x=some u)(h:Q u s)(a:Dbg x:=by decide):wpAny (model X.prog X.w) X.A (eval (.Name x pos) X.env) Q E s:=aqS I.ok.kind b (Calls.loadGlobal_global (by rw[I.ok.glob];exact I.mod.glob.keeps I.bk) c h) a
def g0{E pins s}{σ:St}{H x u pos Q}(I:Inv X pins σ H s)(c:Gl X x)(f:X.mg x=none)(e:bootBuiltins x=some u)(h:Q u s)(a:x≠"__name__":=by decide)(b:Dbg x:=by decide):wpAny (model X.prog X.w) X.A (eval (.Name x pos) X.env) Q E s:=by obtain⟨i,d,g⟩:=I.mod.blt;exact aqS I.ok.kind c (Calls.loadGlobal_builtin (by rw[I.ok.glob];exact I.mod.glob.keeps I.bk) f (by rw[I.ok.blt];exact d.keeps I.bk) ((g x a).trans e) h) b
def sd{x v u pos}(b:Gl X x)(c:X.mg x=some u)(r:RelV v u)(a:Dbg x:=by decide):PE X (.Name x pos) (tC v):=λ_ _ _ H _ I h=>gi I b c ⟨v,H,I,r,h⟩ a
def afu{x v u pos}(c:Gl X x)(e:X.mg x=none)(b:bootBuiltins x=some u)(r:RelV v u)(a:x≠"__name__":=by decide)(d:Dbg x:=by decide):PE X (.Name x pos) (tC v):=λ_ _ _ H _ I h=>g0 I c e b ⟨v,H,I,r,h⟩ a d
variable{a b:Expr}{ta tb:TE}{pos:Pos}
def PC(X:Cx)(op:CmpOp)(a b:Expr)(t:TE):Prop:=∀(c:List (Addr×Obj))(s:Shared)(f:St)(H:Hp)(Q:VK),Inv X c f H s->t f H Q->wpAny (model X.prog X.w) X.A (eval a X.env) (λv e=>wpAny (model X.prog X.w) X.A (eval b X.env) (λu d=>wpAny (model X.prog X.w) X.A (compareOp op v u) (EP X c f Q) X.xe d) X.xe e) X.xe s
def acz(b:Expr){op:CmpOp}(h:op≠.In)(e:op≠.NotIn):behindInMarks op b=false:=by
 have c:(op==CmpOp.In)=false:=by cases op<;>first|rfl|exact absurd rfl h
 have d:(op==CmpOp.NotIn)=false:=by cases op<;>first|rfl|exact absurd rfl e
 cases b<;>first|rfl|(show(_&&(_||_)&&_)=false;simp[c,d])
def tB(t:TE):TT:=λe H Q=>t e H λx d=>∃c,x=.bl c/\Q c d
def ahD{e t}(h:PE X e t)(g:∀c,isTrue e X.env c=(do let v <-c;standAt e.pos;holding [v] (truthy v)):=by intro _;rfl):PT X e (tB t):=by intro f s l H Q I hw;refine isTrue_plain (thn (h _ s l H _ I hw) λv n⟨x,k,i,j,m⟩=>?_)<|g _;obtain⟨d,rfl,q⟩:=m;cases j;exact apH ⟨k,i,q⟩
variable{tA tB':TT}{rest:List Expr}
def abo(t u:TT):TT:=λe H Q=>t e H λc d=>if c=true then u e d Q else Q false d
def tOr(t u:TT):TT:=λe H Q=>t e H λc d=>if c=true then Q true d else u e d Q
def yy(t:TT):TT:=λe H Q=>t e H λc d=>Q (!c) d
def aff(f:PT X a tA):PW X (.BoolOp .And [a] pos) tA:=by intro i d s g H Q I h;refine isTrue_and (thn (f _ s g H Q I h) λc j e=>?_);cases c with|true=>exact isTrue_and_nil e|false=>exact e
def ahA(f:PT X a tA):PW X (.BoolOp .Or [a] pos) tA:=by intro i d s g H Q I h;refine isTrue_or (thn (f _ s g H Q I h) λc j e=>?_);cases c with|false=>exact isTrue_or_nil e|true=>exact e
def ahB(j:PT X a tA)(i:PW X (.BoolOp .And (b::rest) pos) tB'):PW X (.BoolOp .And (a::b::rest) pos) (abo tA tB'):=by intro l f s d H Q I h;refine isTrue_and (thn (j _ s d H _ I h) λc m⟨k,e,g⟩=>?_);cases c with|true=>exact i _ _ _ d _ Q e g|false=>exact⟨k,e,g⟩
def ak2(j:PT X a tA)(i:PW X (.BoolOp .Or (b::rest) pos) tB'):PW X (.BoolOp .Or (a::b::rest) pos) (tOr tA tB'):=by intro l f s d H Q I h;refine isTrue_or (thn (j _ s d H _ I h) λc m⟨k,e,g⟩=>?_);cases c with|true=>exact⟨k,e,g⟩|false=>exact i _ _ _ d _ Q e g
def ahE(d:PT X a tA):PT X (.UnaryOp .Not a pos) (yy tA):=by intro c s e H Q I h;exact isTrue_not<|d _ s e H _ I h
def akD(ta tb:TE):TE:=λe H Q=>ta e H λx d=>∃c,x=.bl c/\if c=true then tb e d Q else Q (.bl false) d
def akz(ta:TE):TE:=λe H Q=>ta e H λx d=>∃c,x=.bl c/\Q (.bl !c) d
def ahS{op t}(h:PE X a t):PE X (.BoolOp op [a] pos) t:=λc s d H Q I hw=>BoolOp_one<|h _ s d H Q I hw
def ahW(i:PE X a ta)(k:PE X (.BoolOp .And (b::rest) pos) tb):PE X (.BoolOp .And (a::b::rest) pos) (akD ta tb):=by intro f s g H Q I h;refine BoolOp_and (thn (i _ s g H _ I h) λv m⟨x,l,e,j,d⟩=>?_);obtain⟨c,rfl,d⟩:=d;cases j;refine apH ?_;cases c with|true=>exact k _ _ g _ Q e d|false=>exact⟨.bl _,l,e,rfl,d⟩
def ahT(f:PE X a ta):PE X (.UnaryOp .Not a pos) (akz ta):=by intro e s k H Q I h;refine UnaryOp_ (thn (f _ s k H _ I h) λv l⟨x,j,g,i,d⟩=>?_);obtain⟨c,rfl,d⟩:=d;cases i;exact not_of<|apH ⟨.bl _,j,g,rfl,d⟩
def tIf(t:TT)(ta tb:TE):TE:=λd H Q=>t d H λc e=>if c=true then ta d e Q else tb d e Q
def acm{c}(k:PT X c tA)(l:PE X a ta)(j:PE X b tb):PE X (.IfExp c a b pos) (tIf tA ta tb):=by intro g s e H Q I h;refine wpAny_IfExp (thn (k _ s e H _ I h) λd n⟨m,f,i⟩=>?_);cases d with|true=>exact l _ _ e _ Q f i|false=>exact j _ _ e _ Q f i
end
def SqL(K:W.Frag)(H:Hp)(a:Addr)(xs:List V):Prop:=Rd H a (.lst xs)\/∃(o:Obj)(b:Array Value)(n:Nat),K.lookup a=some o/\o.cls=.type "list"/\o.dict=none/\o.data=.seq b n/\b.size<=sizeLine/\Vals xs b.toList
def SqT(K:W.Frag)(H:Hp)(a:Addr)(xs:List V):Prop:=Rd H a (.tup xs)\/∃(o:Obj)(b:Array Value)(n:Nat),K.lookup a=some o/\o.cls=.type "tuple"/\o.data=.seq b n/\b.size<=sizeLine/\Vals xs b.toList
noncomputable def anU:Value->Option V|.none=>some .non|.bool b=>some<|.bl b|.int i _=>some<|.int i|.str x _=>some<|.str x|.bytes b _=>some<|.byt b|.float b _=>some<|.flt b|.ref a=>some<|.ref a|.type n=>some<|.ty n|_=>none
def RelV.abs{x u}(r:RelV x u):anU u=some x:=by cases x with|non|bl _=>cases r;rfl|int _|str _|byt _|flt _=>obtain⟨t,rfl⟩:=r;rfl|ref _|ty _=>cases r;rfl
def RelV.inj{x y u}(r:RelV x u)(q:RelV y u):x=y:=aow<|r.abs.symm.trans q.abs
theorem Vals.inj:∀{xs ys us},Vals xs us->Vals ys us->xs=ys|_,_,_,.nil,.nil=>rfl|_,_,_,.cons r t,.cons r' t'=>by rw[r.inj r',Vals.inj t t']
section
variable{X:Cx}{pins:List (Addr×Obj)}{σ:St}{H:Hp}{s:Shared}{a:Addr}{xs ys:List V}
def SqL.of{K}(h:H a=some (.lst xs)):SqL K H a xs:=.inl<|.inl h
def SqT.of{K}(h:H a=some (.tup xs)):SqT K H a xs:=.inl<|.inl h
def Inv.list(I:Inv X pins σ H s)(h:SqL X.K H a xs):∃b,Vals xs b/\PlainL s.heap a b.toArray/\xs.length<=sizeLine:=by
 rcases h with h|⟨o,b,n,c,d,f,g,i,r⟩;.obtain⟨z,b,n,r,e⟩:=h.ok I.hok;exact⟨_,r,aby _ n e rfl rfl rfl,z⟩
 .refine⟨_,r,aby o n (I.kIn a o c) d f (by omega),?_⟩;have e:=r.length;simp  at e;omega
def Inv.tuple(I:Inv X pins σ H s)(h:SqT X.K H a xs):∃b,Vals xs b/\IsTup s.heap a b.toArray/\xs.length<=sizeLine:=by
 rcases h with h|⟨o,b,n,c,d,f,g,r⟩;.obtain⟨z,b,r,p⟩:=h.ok I.hok;exact⟨_,r,p,z⟩
 .refine⟨_,r,⟨o,I.kIn a o c,d,n,by omega⟩,?_⟩;have e:=r.length;simp  at e;omega
def Inv.oE(I:Inv X pins σ H s)(h:SqL X.K H a xs)(h':SqL X.K H a ys):xs=ys:=by
 obtain⟨c,r,⟨o,n,e,_,_,d⟩,_⟩:=I.list h;obtain⟨b,f,⟨i,j,g,_,_,k⟩,_⟩:=I.list h';have:c=b:=by grind
 subst this;exact r.inj f
def Inv.kG(I:Inv X pins σ H s)(h:SqT X.K H a xs)(h':SqT X.K H a ys):xs=ys:=by
 obtain⟨c,r,⟨o,e,_,n,d⟩,_⟩:=I.tuple h;obtain⟨b,f,⟨i,g,_,j,k⟩,_⟩:=I.tuple h';have:c=b:=by grind
 subst this;exact r.inj f
end
abbrev Cx.uj(X:Cx)(E:Value->Shared->Prop):Cx:={X with xe:=E}
abbrev Cx.nox(X:Cx):Cx:=X.uj λ_ _=>False
theorem Cx.Ok.uj{X:Cx}(ok:X.Ok)(E):(X.uj E).Ok:=⟨ok.mod,ok.kind,ok.glob,ok.blt,ok.above,ok.inj,ok.has,ok.cab,ok.hd,ok.frames,ok.stk,ok.exf,ok.bs,ok.bsz,ok.noex,ok.exfs,ok.nj,ok.frf⟩
def Cx.Ok.mM{X:Cx}{E}(ok:(X.uj E).Ok):X.Ok:=⟨ok.mod,ok.kind,ok.glob,ok.blt,ok.above,ok.inj,ok.has,ok.cab,ok.hd,ok.frames,ok.stk,ok.exf,ok.bs,ok.bsz,ok.noex,ok.exfs,ok.nj,ok.frf⟩
section
variable{X:Cx}{pins:List (Addr×Obj)}{σ:St}{H:Hp}{s:Shared}{E:Value->Shared->Prop}
theorem Inv.uj(I:Inv X pins σ H s)(E):Inv (X.uj E) pins σ H s:=⟨I.ok.uj E,I.os,I.bare,I.base,I.loc,I.cell,I.free,I.freeC,I.pin,I.hok,I.len⟩
theorem Inv.mM(I:Inv (X.uj E) pins σ H s):Inv X pins σ H s:=⟨I.ok.mM,I.os,I.bare,I.base,I.loc,I.cell,I.free,I.freeC,I.pin,I.hok,I.len⟩
theorem SP.mM{D f s'}(h:SP (X.uj E) pins D f s'):SP X pins D f s':=by cases f with|next|brk|cont=>obtain⟨a,b,I,q⟩:=h;exact⟨_,b,I.mM,q⟩|ret u=>refine xQ h λv a b I r q=>?_;exact⟨v,_,b,I.mM,r,q⟩
theorem PSs.nox{st t}(h:PSs X.nox st t):PSs X st t:=λpins s σ H D I hw=>aoA (h _ s σ H D (I.uj _) hw) (λ_ _ q=>q.mM) λ_ _ z=>False.elim z
end
section
variable{X:Cx}{st:Stmt}{rest:List Stmt}{t u:TS}{e:Expr}{te:TE}{pos:Pos}
def akA:TS:=λD a H=>D.nx a H
def ahc(t u:TS):TS:=λD a H=>t {D with nx:=u D} a H
def afj:PSs X [] akA:=λ_ _ a H _ I h=>aqc ⟨a,H,I,h⟩
def dq(b:PS X st t)(i:PSs X rest u):PSs X (st::rest) (ahc t u):=by intro a s d H D I h;refine wpAny_execs_cons (thn (b _ s d H _ I h) λf j q=>?_);cases f with|next=>obtain⟨c,k,g,q⟩:=q;exact i _ _ _ _ D g q|ret v=>exact q|brk=>exact q|cont=>exact q
def hX(b:PS X st t):PSs X [st] t:=by intro a s c H D I h;refine wpAny_execs_cons (thn (b _ s c H D I h) λf d q=>?_);cases f with|next=>exact aqc q|ret v|brk|cont=>exact q
def Inv.quiet{pins}{σ:St}{H s}(I:Inv X pins σ H s):interactive X.env=false:=by simp[interactive,I.ok.kind]
def wu(te:TE):TS:=λD a H=>te a H λ_ b=>D.nx a b
def eh(d:PE X e te)(hs:swapsWith e none pos.line X.env=pure false:=by rfl):PS X (.Expr e pos) (wu te):=by intro b s a H D I h;exact wpAny_Expr_any (thn (d _ s a H _ I h) λv i⟨x,c,f,j,g⟩=>⟨a,c,f,g⟩) I.quiet hs
def amC(te:TE):TS:=λD a H=>te a H D.rt
def ad3(d:PE X e te):PS X (.Return (some e) pos) (amC te):=by intro b s a H D I h;exact wpAny_Return_some (thn (d _ s a H _ I h) λv j⟨x,c,f,g,i⟩=>⟨x,a,c,f,g,i⟩)
def anF(c:TT)(t u:TS):TS:=λD a H=>c a H λb d=>if b=true then t D a d else u D a d
def ak4{c a b g}(n:PT X c g)(l:PSs X a t)(m:PSs X b u):PS X (.If c a b pos) (anF g t u):=by intro j s f H D I h;refine wpAny_If (thn (n _ s f H _ I h) λd o⟨p,i,k⟩=>?_);cases d with|true=>exact l _ _ f _ D i k|false=>exact m _ _ f _ D i k
end
abbrev TG:=V->St->Hp->(St->Hp->Prop)->Prop
abbrev TGs:=List V->St->Hp->(St->Hp->Prop)->Prop
def PG(X:Cx)(a:Expr)(t:TG):Prop:=∀(b:List (Addr×Obj))(s:Shared)(d:St)(H:Hp)(v:V)(u:Value)(Q:St->Hp->Prop),Inv X b d H s->RelV v u->t v d H Q->wpAny (model X.prog X.w) X.A (assign a X.env u) (λ_ f=>∃c e,Inv X b c e f/\Q c e) X.xe s
def PGs(X:Cx)(ts:List Expr)(t:TGs):Prop:=∀(a:List (Addr×Obj))(s:Shared)(e:St)(H:Hp)(c:List V)(d:List Value)(Q:St->Hp->Prop),Inv X a e H s->Vals c d->t c e H Q->wpAny (model X.prog X.w) X.A (assignInOrder ((assignEach ts X.env).map (·.2)) d) (λ_ g=>∃b f,Inv X a b f g/\Q b f) X.xe s
abbrev ami:=V->V->V->Hp->(Hp->Prop)->Prop
def anm(X:Cx)(t:ami):Prop:=∀(a:List (Addr×Obj))(s:Shared)(c:St)(H:Hp)(o i v:V)(d b u:Value)(Q:Hp->Prop),Inv X a c H s->RelV o d->RelV i b->RelV v u->t o i v H Q->wpAny (model X.prog X.w) X.A (setItem d b u) (λ_ f=>∃e,Inv X a c e f/\Q e) X.xe s
section
variable{X:Cx}{pos:Pos}
def aq(i:Nat):TG:=λv a H Q=>Q (a.set i<|some v) H
def zd{i x}(e:X.N.Nodup)(b:X.N[i]?=some x)(f:Loc X.env.scope x)(c:FL X x:=by first|exact .inl rfl|exact .inr rfl|assumption):PG X (.Name x pos) (aq i):=by intro a s j H v u Q I r h;exact aqX (uJ I e b f r (λg d=>⟨_,H,d,h⟩) c)
def kr:TGs:=λa b H Q=>a=[]/\Q b H
def bu(t:TG)(u:TGs):TGs:=λb c H Q=>∃v r,b=v::r/\t v c H λa d=>u r a d Q
def afr:PGs X [] kr:=by intro a s b H c d Q I r h;obtain⟨e,h⟩:=h;exact assignInOrder_nil ⟨b,H,I,h⟩
def acf{e es t u}(d:PG X e t)(g:PGs X es u)(hs:(assignEach (e::es) X.env).map (·.2)=assign e X.env::(assignEach es X.env).map (·.2):=by rfl):PGs X (e::es) (bu t u):=by intro a s f H m k Q I r h;obtain⟨v,j,c,h⟩:=h;subst c;cases r with|cons r rr=>rw[hs];exact assignInOrder_cons (thn (d _ s f H _ _ _ I r h) λ_ l⟨_,n,b,i⟩=>g _ _ _ _ _ _ Q b rr i)
def kq(K:W.Frag)(n:Nat)(t:TGs):TG:=λv c H Q=>∃a b,v=.ref a/\SqT K H a b/\b.length=n/\t b c H Q
def ahM{es k t n}(w:X.calm=true)(h:PGs X es t)(f:(assignEach es X.env).length=n:=by rfl)(c:(assignEach es X.env).findIdx? (·.1)=none:=by rfl):PG X (.Tuple es k pos) (kq X.K n t):=by intro d s x H v u Q I r hw;obtain⟨a,z,l,q,j,hw⟩:=hw;subst l;cases r;refine ix (I.tuple q) λm g ht A=>?_;refine assign_Tuple_tuple (I.ok.hd w) ht (by simp[f,<-j,g.length]) c λy p=>?_;have i:=I.kept (t':=s.toks) λb o e=>p b o (aoi<|an9 e) e;exact h _ _ x H _ _ Q i (by grind) hw
def abq(e d:TE)(t:ami):TG:=λv a H Q=>e a H λo c=>d a c λi f=>t o i v f λb=>Q a b
def ahN{o i:Expr}{e f:TE}{t:ami}(E:PE X o e)(g:PE X i f)(hs:anm X t)(B:∀v,assign (.Subscript o i pos) X.env v=(do
  let b <-holding [v] (eval o X.env)let c <-holding [v,b] (eval i X.env)standAt pos
  holding [v,b,c] (setItem b c v)release [v,b,c] []):=by intro _;rfl):PG X (.Subscript o i pos) (abq e f t):=by intro a s d H v u Q I r h;rw[B];refine anY (aoV<|thn (E a s d H _ I h) λb D⟨x,n,C,j,G⟩=>?_);refine anY (aoV<|thn (g a D d n _ C G) λc m⟨y,w,q,p,k⟩=>?_);refine anY (apV<|anY<|aoV<|thn (hs a m d w x y v b c u _ q j p r k) λ_ J⟨A,l,z⟩=>?_);exact wpAny_release ⟨d,A,l,z⟩
def agn(b:TE)(g:TG):TS:=λD a H=>b a H λx c=>g x a c D.nx
def ahG{a e c g}(j:PE X e c)(f:PG X a g)(hs:swapsWithSole [a] e pos.line X.env=pure false:=by rfl)(hw:swappedStores [a] e X.env=pure none:=by rfl)(l:(assignEach [a] X.env).map (·.2)=[assign a X.env]:=by rfl):PS X (.Assign [a] e pos) (agn c g):=by intro b s d H D I h;refine wpAny_Assign_stores (thn (j _ s d H _ I h) λv n⟨x,p,i,k,m⟩=>?_) hs hw;rw[l];exact thn (f _ _ d _ x v _ i k m) λ_ o q=>q
def uX{i x e c a}(p:X.N.Nodup)(d:X.N[i]?=some x)(l:Loc X.env.scope x)(g:PE X e c)(hs:swapsWith e (some<|.Name x a) pos.line X.env=pure false:=by rfl)(f:FL X x:=by first|exact .inl rfl|exact .inr rfl|assumption):PS X (.Assign [.Name x a] e pos) (agn c<|aq i):=by intro b s n H D I h;exact wpAny_Assign_Name (thn (g _ s n H _ I h) λv r⟨y,m,j,k,q⟩=>uJ j p d l k (λt o=>⟨_,m,o,q⟩) f) hs
end
section
variable{X:Cx}{pos:Pos}
def ag9(c:TT)(tb:TS):TS:=λD a H=>∃W:Nat->St->Hp->Prop,(∃m,W m a H)/\∀m a H,W m a H->c a H λb e=>if b=true then∃N:St->Hp->Prop,(∀d g,N d g->∃f,f<m/\W f d g)/\tb {D with nx:=N,ct:=N,bk:=D.nx} a e else D.nx a e
def ab7{c body w tb}(z:PassesOwn (model X.prog X.w) X.A X.env X.xe)(M:PT X c w)(K:PSs X body tb):PS X (.While c body [] pos) (ag9 w tb):=by intro x s O H D I h;obtain⟨W,⟨A,B⟩,turn⟩:=h;refine wpAny_While (codeAny_whileLoop (λn E=>∃g y,Inv X _ g y E/\W n g y) ?_ A ⟨O,H,I,B⟩);rintro n J⟨d,q,G,w1⟩;refine apD z (thn (M _ J d q _ G<|turn n d q w1) λb C⟨u,r,i⟩=>?_);cases b with
|true=>refine gB i λN t i=>?_;refine apD z (thn (K _ C d u _ r i) λf P j=>?_);cases f with|next=>obtain⟨a,e,k,l⟩:=j;obtain⟨m,p,o⟩:=t a e l;exact⟨m,p,a,e,k,o⟩|cont=>obtain⟨a,e,k,l⟩:=j;obtain⟨m,p,o⟩:=t a e l;exact⟨m,p,a,e,k,o⟩|brk=>exact j|ret v=>exact j
|false=>exact aqc ⟨d,u,r,i⟩
end
structure It where
 go:Nat->Hp->Prop
 yld:Nat->Hp->V->Hp->Prop
 stop:Nat->Hp->Prop
def uc(X:Cx)(pins:List (Addr×Obj))(H:Hp)(b:Addr):Prop:=H b=none/\b≠X.env.locals/\b∉X.fs/\(b∈X.ex\/X.s₀.heap.objs.size<=b)/\(∀x c,X.env.cells.lookup x=some c->c≠b)/\∀p∈X.pn++pins,p.1≠b
def Inv.aiP{X:Cx}{pins:List (Addr×Obj)}{σ:St}{H H':Hp}{s:Shared}{b:Addr}(I:Inv X pins σ H s)(a:s.heap.objs.size<=b)(d:H' b=none):uc X pins H' b:=by
 refine⟨d,aoE<|an6 I.lt a,I.agt a,.inr<|aoh I.sz a,λx c e z=>?_,λp f z=>?_⟩;.obtain⟨v,q⟩:=I.cell x c e;exact absurd (an6 q.lt<|by rw[z];exact a)<|apw _
 .exact absurd (an6 (an9 (I.pin p f).1)<|by rw[z];exact a) (apw _)
structure Turn(P:Program)(w:World)(K:W.Frag)(tg:Expr)(J:It)(fp:List Addr)(it:Addr)(tn:Nat->Heap->Prop)(cl:Cx->Hp->Prop:=λX _=>X.calm=true):Prop where
 mem:it∈fp
 obj:∀i h,tn i h->∀b∈fp,∃o,h.get? b=some o/\∀v,o.data≠.cell v
 keep:∀i h h',tn i h->(∀b∈fp,∀o,h.get? b=some o->h'.get? b=some o)->tn i h'
 item:∀(X:Cx),X.prog=P->X.w=w->X.K=K->∀(i:Nat)(pins:List (Addr×Obj))(s:Shared)(σ:St)(H:Hp)(E:Value->Shared->Prop),cl X H->Inv X pins σ H s->(∀b∈fp,uc X pins H b)->tn i s.heap->J.go i H->wpAny (model P w) X.A (pyNext<|.ref it) (λr s1=>∃u,r=some u/\wpAny (model P w) X.A (letOwnedTupleGo tg (.ref it) u) (λ_ s2=>∃x H',Inv X pins σ H' s2/\RelV x u/\J.yld i H x H'/\tn (i+1) s2.heap/\∀b∈fp,H' b=none) E s1) E s
 done:∀(X:Cx),X.prog=P->X.w=w->X.K=K->∀(i:Nat)(pins:List (Addr×Obj))(s:Shared)(σ:St)(H:Hp)(E:Value->Shared->Prop),cl X H->Inv X pins σ H s->(∀b∈fp,uc X pins H b)->tn i s.heap->J.stop i H->wpAny (model P w) X.A (pyNext<|.ref it) (λr s1=>r=none/\Inv X pins σ H s1) E s
 self:∀(A:Around)(i:Nat)(s:Shared)(Q:Value->Shared->Prop)(E:Value->Shared->Prop),tn i s.heap->Q (.ref it) s->wpAny (model P w) A (pyIter<|.ref it) Q E s
abbrev TI:=St->Hp->(It->Hp->Prop)->Prop
def PIE(X:Cx)(pins:List (Addr×Obj))(σ:St)(g:Expr)(R:It->Hp->Prop)(a:Value)(d:Shared):Prop:=∃(it:Addr)(f:List Addr)(e:Nat->Heap->Prop)(J:It)(c:Hp),a=.ref it/\Inv X pins σ c d/\Turn X.prog X.w X.K g J f it e/\e 0 d.heap/\(∀b∈f,uc X pins c b)/\R J c
def PI(X:Cx)(e b:Expr)(wi:TI):Prop:=∀(a:List (Addr×Obj))(s:Shared)(c:St)(H:Hp)(R:It->Hp->Prop),Inv X a c H s->wi c H R->wpAny (model X.prog X.w) X.A (eval b X.env) (λv d=>wpAny (model X.prog X.w) X.A (pyIter v) (PIE X a c e R) X.xe d) X.xe s
def ac8{M A E s b it u o n vs Q}(d:s.heap.get? it=some o)(e:o.cls=.type n)(c:o.data=.fields vs)(f:["enumerate","zip","dict_itemiterator","dict_reverseitemiterator","odict_iterator","itertools.zip_longest","itertools.pairwise"].contains n=false)(a:Q () s):wpAny M A (letOwnedTupleGo b (.ref it) u) Q E s:=by cases b<;>first|exact an0 a|(cases u<;>first|exact an0 a| (refine anY<|wpAny_load d ?_;rw[e,c];show wpAny M A (if(["enumerate","zip","dict_itemiterator","dict_reverseitemiterator","odict_iterator","itertools.zip_longest","itertools.pairwise"].contains n&&vs[0]?==some (rawInt _))=true then _ else _) Q E s;rw[an5 (by grind)];exact an0 a))
noncomputable def Itl(K:W.Frag)(a:Addr):It:=⟨λi H=>∃b x,SqL K H a b/\b[i]?=some x,λi H x c=>c=H/\∀b,SqL K H a b->b[i]?=some x,λi H=>∃b,SqL K H a b/\b.length<=i⟩
noncomputable def Itt(K:W.Frag)(a:Addr):It:=⟨λi H=>∃b x,SqT K H a b/\b[i]?=some x,λi H x c=>c=H/\∀b,SqT K H a b->b[i]?=some x,λi H=>∃b,SqT K H a b/\b.length<=i⟩
noncomputable def Itr(lo:Int)(n:Nat):It:=⟨λi _=>i<n,λi H x a=>a=H/\x=.int (lo+i),λi _=>n<=i⟩
def yt{P:Program}{w:World}{K:W.Frag}{tg:Expr}(a it:Addr):Turn P w K tg (Itl K a) [it] it λi h=>h.IsListIter it a i where
 mem:=by simp
 obj:=λi h st b hb=>by
  have e:b=it:=by simpa using hb
  subst e;obtain⟨o,e,c,d⟩:=st;exact⟨o,e,λv z=>by rw[d]at z;cases z⟩
 keep:=λi h h' st k=>st.at λo e=>k it (by simp) o e;item:=by intro X hP hw hK i pins s σ H E hc I hf st hg;subst hP hw hK;obtain⟨xs,x,hq,hx⟩:=hg;obtain⟨its,rv,p,hz⟩:=I.list hq;obtain⟨u,hu,ru⟩:=rv.get hx;obtain⟨f0,f1,f2,f3,f4,f5⟩:=hf it (by simp);refine wpAny_pyNext_list_item st p.isList (x:=u) (by simpa using hu) λh' st' sb=>?_;have I1:Inv X pins σ H {s with heap:=h'}:=I.turned (t':=s.toks) (λb o hb e=>(sb.2 b hb).trans e) f0 f1 f3 f4 f5;obtain⟨o,e,c,d⟩:=id st';exact⟨u,rfl,ac8 (s:={s with heap:=h'}) e c d (by decide) ⟨x,H,I1,ru,⟨rfl,λys hy=>by rw[I.oE hy hq];exact hx⟩,st',λb hb=>(hf b hb).1⟩⟩
 done:=by intro X hP hw hK i pins s σ H E hc I hf st hg;subst hP hw hK;obtain⟨xs,hq,hx⟩:=hg;obtain⟨its,rv,p,hz⟩:=I.list hq;obtain⟨f0,f1,f2,f3,f4,f5⟩:=hf it (by simp);have hl:=rv.length;exact wpAny_pyNext_list_end (I.ok.hd hc) st p.isList (by simp;omega) λh' eb=>⟨rfl,I.turned (t':=s.toks) (λb o hb e=>eb b o hb e) f0 f1 f3 f4 f5⟩
 self:=λ_ _ _ _ _ st h=>wpAny_pyIter_listiter st h
def wc{P:Program}{w:World}{K:W.Frag}{tg:Expr}(a it:Addr):Turn P w K tg (Itt K a) [it] it λi h=>h.IsTupleIter it a i where
 mem:=by simp
 obj:=λi h st b hb=>by
  have e:b=it:=by simpa using hb
  subst e;obtain⟨o,e,c,d⟩:=st;exact⟨o,e,λv z=>by rw[d]at z;cases z⟩
 keep:=λi h h' st k=>st.at λo e=>k it (by simp) o e;item:=by intro X hP hw hK i pins s σ H E hc I hf st hg;subst hP hw hK;obtain⟨xs,x,hq,hx⟩:=hg;obtain⟨its,rv,p,hz⟩:=I.tuple hq;obtain⟨u,hu,ru⟩:=rv.get hx;obtain⟨f0,f1,f2,f3,f4,f5⟩:=hf it (by simp);refine wpAny_pyNext_tuple_item st (show s.heap.IsTuple a its.toArray from p) (x:=u) (by simpa using hu) λh' st' sb=>?_;have I1:Inv X pins σ H {s with heap:=h'}:=I.turned (t':=s.toks) (λb o hb e=>(sb.2 b hb).trans e) f0 f1 f3 f4 f5;obtain⟨o,e,c,d⟩:=id st';exact⟨u,rfl,ac8 (s:={s with heap:=h'}) e c d (by decide) ⟨x,H,I1,ru,⟨rfl,λys hy=>by rw[I.kG hy hq];exact hx⟩,st',λb hb=>(hf b hb).1⟩⟩
 done:=by intro X hP hw hK i pins s σ H E hc I hf st hg;subst hP hw hK;obtain⟨xs,hq,hx⟩:=hg;obtain⟨its,rv,p,hz⟩:=I.tuple hq;obtain⟨f0,f1,f2,f3,f4,f5⟩:=hf it (by simp);have hl:=rv.length;exact wpAny_pyNext_tuple_end (I.ok.hd hc) st (show s.heap.IsTuple a its.toArray from p) (by simp;omega) λh' eb=>⟨rfl,I.turned (t':=s.toks) (λb o hb e=>eb b o hb e) f0 f1 f3 f4 f5⟩
 self:=λ_ _ _ _ _ st h=>wpAny_pyIter_tupleiter st h
def we{P:Program}{w:World}{K:W.Frag}{tg:Expr}(it:Addr)(lo:Int)(n:Nat):Turn P w K tg (Itr lo n) [it] it λi h=>IsRangeIter h it (lo+(i:Nat)*1) ((n:Int)-(i:Nat)) 1 where
 mem:=by simp
 obj:=λi h st b hb=>by
  have e:b=it:=by simpa using hb
  subst e;exact⟨_,st,λv z=>by have z':Data.fields _=Data.cell v:=z;cases z'⟩
 keep:=λi h h' st k=>k it (by simp) _ st;item:=by intro X hP hw hK i pins s σ H E hc I hf st hg;subst hP hw hK;obtain⟨f0,f1,f2,f3,f4,f5⟩:=hf it (by simp);have W:=Walks.range (prog:=X.prog) (w:=X.w) (I.ok.hd hc) it lo 1 n;refine W.item i s _ _ hg st λv h' tk hv st' kk=>?_;obtain⟨t,rfl⟩:=hv;have I1:Inv X pins σ H {s with heap:=h',toks:=tk}:=I.turned (λb o hb e=>kk b o (by simpa using hb) e) f0 f1 f3 f4 f5;refine⟨_,rfl,ac8 (s:={s with heap:=h',toks:=tk}) (n:="range_iterator") st' rfl rfl (by decide) ⟨.int<|lo+i,H,I1,⟨t,?_⟩,⟨rfl,rfl⟩,st',λb hb=>(hf b hb).1⟩⟩;rw[aqN]
 done:=by intro X hP hw hK i pins s σ H E hc I hf st hg;subst hP hw hK;obtain⟨f0,f1,f2,f3,f4,f5⟩:=hf it (by simp);exact wpAny_pyNext_range_end (I.ok.hd hc) st (by have:n<=i:=hg;omega) λh' eb=>⟨rfl,I.turned (t':=s.toks) (λb o hb e=>eb b o hb e) f0 f1 f3 f4 f5⟩
 self:=λ_ _ _ _ _ st h=>wpAny_pyIter_rangeiter st h
section
variable{X:Cx}{tg:Expr}
def uV{pins}{σ:St}{H s R E lo a t u v d}(I:Inv X pins σ H s)(h:-2^62<=lo)(l:lo<2^62)(k:-2^62<=a)(f:a<2^62)(q:R (Itr lo (a-lo).toNat) H):wpAny (model X.prog X.w) X.A (pyIter<|.ref s.heap.objs.size) (PIE X pins σ tg R) E {s with heap:=s.heap.push {cls:=.type "range",data:=.fields #[.int lo t,.int a u,.int 1 v]},toks:=d}:=by
 refine wpAny_pyIter_range (IsRange.new ..) (small_one h l k f) ?_;have c:Inv X pins σ H {s with heap:=s.heap.push {cls:=.type "range",data:=.fields #[.int lo t,.int a u,.int 1 v]},toks:=d}:=I.kept λb o e=>anZ _ e;refine⟨_,_,_,_,H,rfl,c.kept (t':=d) λb o e=>anZ _ e,we _ lo _,?_,λb i=>?_,q⟩
 .have g:lo+((0:Nat):Int)*1=lo:=by simp
  have j:(((a-lo).toNat:Nat):Int)-((0:Nat):Int)=Builtin.Range.rangeSize lo a 1:=by rw[rangeSize_one];split<;>omega
  rw[g,j];exact aoj _ rfl
 .have e:b=(s.heap.push {cls:=.type "range",data:=.fields #[.int lo t,.int a u,.int 1 v]}).objs.size:=by simpa using i
  subst e;exact c.aiP (aob _)<|c.hok.fresh<|aob _
def dz(ta:TA):TI:=λc H R=>ta c H λa b=>∃j:Int,a=[.int j]/\-2^62<=j/\j<2^62/\R (Itr 0 j.toNat) b
def sW(ta:TA):TI:=λc H R=>ta c H λa b=>∃i j:Int,a=[.int i,.int j]/\(-2^62<=i/\i<2^62/\-2^62<=j/\j<2^62)/\R (Itr i (j-i).toNat) b
def zc{a ta p pos}(f:Gl X "range")(m:X.mg "range"=none)(d:PA X [a] ta)(hs:starEach [a] X.env=[(false,eval a X.env)]:=by rfl):PI X tg (.Call (.Name "range" p) [a] [] pos) (dz ta):=by intro c s l H R I h;refine Call_ (g0 I f m arE<|aoW (thn (d _ _ s l H _ I h) λn o⟨u,v,g,i,b⟩=>?_) hs rfl);obtain⟨j,e,b,k,q⟩:=b;subst e;cases i with|cons r rr=>cases rr;obtain⟨t,rfl⟩:=r;exact call_range_1 (uV g (by omega) (by omega) b k<|by grind)
def zb{a b ta p pos}(k:Gl X "range")(v:X.mg "range"=none)(g:PA X [a,b] ta)(hs:starEach [a,b] X.env=[(false,eval a X.env),(false,eval b X.env)]:=by rfl)(c:starEach [b] X.env=[(false,eval b X.env)]:=by rfl):PI X tg (.Call (.Name "range" p) [a,b] [] pos) (sW ta):=by intro f s u H R I h;refine Call_ (g0 I k v arE<|aoW (thn (g pos _ s u H _ I h) λy z⟨A,B,l,n,d⟩=>?_) (by grind)<|by rw[c];rfl);obtain⟨i,j,e,⟨d,o,w,m⟩,q⟩:=d;subst e;cases n with|cons r rr=>cases rr with|cons r' rr=>cases rr;obtain⟨t,rfl⟩:=r;obtain⟨x,rfl⟩:=r';exact call_range_2<|uV l d o w m q
def amE(wi:TI)(g:TG)(tb:TS):TS:=λD a H=>wi a H λJ f=>∃W:Nat->Nat->St->Hp->Prop,(∃m,W 0 m a f)/\∀i m a H,W i m a H->J.stop i H/\D.nx a H\/J.go i H/\∃N:St->Hp->Prop,(∀b c,N b c->∃e,e<m/\W (i+1) e b c)/\∀x c,J.yld i H x c->g x a c λd h=>tb {D with nx:=N,ct:=N,bk:=D.nx} d h
noncomputable def qo(a:List Addr)(h:Heap):List (Addr×Obj):=a.filterMap λb=>(h.get? b).map λo=>(b,o)
def gF{a h b o}(c:b∈a)(e:h.get? b=some o):(b,o)∈qo a h:=ape.mpr ⟨b,c,by grind⟩
def zm{a h p}(f:p∈qo a h):p.1∈a/\h.get? p.1=some p.2:=by obtain⟨b,c,e⟩:=ape.mp f;cases q:h.get? b with|none=>rw[q]at e;cases e|some o=>rw[q]at e;have d:=aow e;subst d;exact⟨c,q⟩
def Inv.pinned{pins}{σ:St}{H s a}(I:Inv X pins σ H s)(g:∀b∈a,uc X pins H b)(h:∀b∈a,∃o,s.heap.get? b=some o/\∀v,o.data≠.cell v):Inv X (pins++qo a s.heap) σ H s:=I.eU λp l=>(aoH.mp l).elim (λz=>I.pin p<|aok _ z) λz=>by obtain⟨f,e⟩:=zm z;refine akf (g _ f) λi j k _=>?_;refine gB (h _ f) λo c d=>?_;rw[e]at c;cases c;exact⟨e,i,j,k,d⟩
def Inv.nX{pins pl}{σ:St}{H s}(I:Inv X (pins++pl) σ H s):Inv X pins σ H s:=I.eU λp a=>I.pin p<|aok _<|aou _ a
def ad4{q body wi g tb pos}(K:PassesOwn (model X.prog X.w) X.A X.env X.xe)(hc:X.calm=true)(hi:PI X tg q wi)(hg:PG X tg g)(k:PSs X body tb)(hs:∀x,foldedSetIterable q X.env x=pure x:=by intro _;rfl):PS X (.For tg q body [] pos) (amE wi g tb):=by
 intro a s σ H D I h;refine wpAny_For (thn (hi a s σ H _ I h) λv s1 h1=>thn h1 λa0 s2 h2=>?_) hs;obtain⟨it,G,Z,J,H2,e,I2,T,R,f2,W,⟨m0,w0⟩,turn⟩:=h2;subst e;-- what stays true of the iterator's objects through the loop
 have p:∀{t:Hp},(∀b∈G,t b=none)->∀b∈G,uc X a t b:=λhn b k=>⟨hn b k,(f2 b k).2⟩;refine codeAny_forLoop_any (λn s'=>∃i l t,Inv X a l t s'/\Z i s'.heap/\(∀b∈G,t b=none)/\W i n l t) ?_ m0 (vW 0 σ H2 I2 R (λb k=>(f2 b k).1) w0);rintro n s3⟨i,j,M,I3,C,E,w3⟩;rcases turn i n j M w3 with⟨B,qn⟩|⟨go,N,hN,step⟩;.refine apD K (thn (T.done X rfl rfl rfl i a s3 j M X.xe hc I3 (p E) C B) λr s4⟨U,I4⟩=>?_);subst U;exact aqc ⟨j,M,I4,qn⟩
 .refine apD K (thn (T.item X rfl rfl rfl i a s3 j M X.xe hc I3 (p E) C go) λr s4⟨u,U,h4⟩=>?_);subst U;refine apD K (thn h4 λ_ s5⟨x,H5,I5,r5,y5,A,Y⟩=>?_);have P:=I5.pinned (p Y)<|T.obj _ _ A;refine apD K (thn (hg _ s5 j H5 x u _ P r5<|step x H5 y5) λ_ s6⟨Q,H6,I6,q6⟩=>?_);refine apD K (thn (k _ s6 Q H6 _ I6 q6) λf O z=>?_);have again:∀{c:St}{w:Hp},Inv X (a++qo G s5.heap) c w O->N c w->∃m,m<n/\∃i l t,Inv X a l t O/\Z i O.heap/\(∀b∈G,t b=none)/\W i m l t:=λ{c w}y S=>by refine gB (hN c w S) λm' hm w7=>?_;refine⟨m',hm,i+1,c,w,y.nX,T.keep _ _ _ A λb k o e=>(y.pin (b,o)<|aok _<|aok _<|gF k e).1,λb k=>?_,w7⟩;obtain⟨o,e,d⟩:=T.obj _ _ A b k;exact(y.pin (b,o)<|aok _<|aok _<|gF k e).2.1
  cases f with|next|cont=>obtain⟨c,w,y,S⟩:=z;exact again y S|brk=>refine eG z λc w y z=>?_;exact⟨c,w,y.nX,z⟩|ret v=>refine xQ z λx7 c w y r7 z=>?_;exact agl x7 c w y.nX r7 z
end
abbrev R2:=V->V->Hp->VK->Prop
def OpR(X:Cx)(f:Value->Value->Sem Value)(r:R2):Prop:=∀(a:List (Addr×Obj))(s:Shared)(b:St)(H:Hp)(x y:V)(v u:Value)(Q:VK),Inv X a b H s->RelV x v->RelV y u->r x y H Q->wpAny (model X.prog X.w) X.A (f v u) (EP X a b Q) X.xe s
def UnR(X:Cx)(f:Value->Sem Value)(r:V->Hp->VK->Prop):Prop:=∀(a:List (Addr×Obj))(s:Shared)(b:St)(H:Hp)(x:V)(v:Value)(Q:VK),Inv X a b H s->RelV x v->r x H Q->wpAny (model X.prog X.w) X.A (f v) (EP X a b Q) X.xe s
def bC(X:Cx)(f:Value)(r:List V->Hp->VK->Prop):Prop:=∀(a:List (Addr×Obj))(s:Shared)(c:St)(H:Hp)(d:List V)(b:List Value)(Q:VK),Inv X a c H s->Vals d b->r d H Q->wpAny (model X.prog X.w) X.A (call f b) (EP X a c Q) X.xe s
def tOp(r:R2)(ta tb:TE):TE:=λa H Q=>ta a H λx b=>tb a b λy c=>r x y c Q
def tUn(r:V->Hp->VK->Prop)(ta:TE):TE:=λb H Q=>ta b H λx a=>r x a Q
def rI(C:Int->Int->Prop)(g:Int->Int->V):R2:=λx y H Q=>∃i j,x=.int i/\y=.int j/\C i j/\Q (g i j) H
def rI0(g:Int->Int->V):R2:=λx y H Q=>∃i j,x=.int i/\y=.int j/\Q (g i j) H
def rU(g:Int->V):V->Hp->VK->Prop:=λx H Q=>∃i,x=.int i/\Q (g i) H
section
variable{X:Cx}{a b:Expr}{ta tb:TE}{pos:Pos}
def ama(k:PE X a ta)(p:PE X b tb){pins s}{σ:St}{H}{R:V->V->Hp->Prop}(I:Inv X pins σ H s)(h:ta σ H λx j=>tb σ j λy g=>R x y g){Q}{f:Value->Value->Sem Value}(l:∀v u i x y g,Inv X pins σ g i->RelV x v->RelV y u->R x y g->wpAny (model X.prog X.w) X.A (f v u) Q X.xe i):wpAny (model X.prog X.w) X.A (eval a X.env) (λv e=>wpAny (model X.prog X.w) X.A (eval b X.env) (λu d=>wpAny (model X.prog X.w) X.A (f v u) Q X.xe d) X.xe e) X.xe s:=by exact thn (k _ s σ H _ I h) λv w⟨x,j,m,n,t⟩=>thn (p _ _ σ _ _ m t) λu i⟨y,g,r,q,o⟩=>l v u _ x y _ r n q o
def ala{op r}(f:OpR X (binaryOp op) r)(e:PE X a ta)(i:PE X b tb):PE X (.BinOp a op b pos) (tOp r ta tb):=by intro d s k H Q I h;exact wpAny_BinOp (ama e i I h λv u n x y m l g j q=>f _ _ k _ x y v u Q l g j q)
def ak8{op r}(j:UnR X (unaryOp op) r)(f:PE X a ta):PE X (.UnaryOp op a pos) (tUn r ta):=by intro e s d H Q I h;exact UnaryOp_ (thn (f _ s d H _ I h) λv m⟨x,l,g,i,k⟩=>j _ _ d _ x v Q g i k)
def opI{f C}{g:Int->Int->Int}(rule:∀i j t u s Q E,C i j->Q (.int (g i j) s.toks) {s with toks:=s.toks+1}->wpAny (model X.prog X.w) X.A (f (.int i t)<|.int j u) Q E s):OpR X f (rI C λi j=>.int<|g i j):=by intro k s p H x y v u Q I l n h;refine xR h λi j e d m q=>?_;subst e d;obtain⟨t,rfl⟩:=l;obtain⟨o,rfl⟩:=n;exact rule i j t _ s _ _ m<|i5 (.int _) H (I.tok _) ⟨_,rfl⟩ q
def amS{f}{g:Int->Int->Int}(rule:∀i j t u s Q E,Q (.int (g i j) s.toks) {s with toks:=s.toks+1}->wpAny (model X.prog X.w) X.A (f (.int i t)<|.int j u) Q E s):OpR X f (rI0 λi j=>.int<|g i j):=by intro k s o H x y v u Q I l m h;refine ke h λi j e d q=>?_;subst e d;obtain⟨t,rfl⟩:=l;obtain⟨n,rfl⟩:=m;exact rule i j t _ s _ _<|i5 (.int _) H (I.tok _) ⟨_,rfl⟩ q
def ali{f}{g:Int->Int->Bool}(rule:∀i j t u s Q E,Q (.bool<|g i j) s->wpAny (model X.prog X.w) X.A (f (.int i t)<|.int j u) Q E s):OpR X f (rI0 λi j=>.bl<|g i j):=by intro d s m H x y v u Q I e k h;obtain⟨i,j,rfl,rfl,q⟩:=h;obtain⟨t,rfl⟩:=e;obtain⟨l,rfl⟩:=k;exact rule i j t _ s _ _ ⟨.bl _,H,I,rfl,q⟩
def amm(i j:Int):Prop:=-2^64<i/\i<2^64\/-2^64<j/\j<2^64
def amm.ok{i j}(h:amm i j):IntMulOk i j:=by
 rcases h with⟨d,e⟩|⟨d,e⟩;.exact .of_left (intBits_le_64 d e)
 .exact .of_right (intBits_le_64 d e)
def ah6:OpR X (binaryOp .Add) (rI0 λi j=>.int<|i+j):=amS λ_ _ _ _ _ _ _ q=>add_int q
def ahY:OpR X (binaryOp .Sub) (rI0 λi j=>.int<|i-j):=amS λ_ _ _ _ _ _ _ q=>sub_int q
def ah0:OpR X (binaryOp .Mult) (rI amm λi j=>.int<|i*j):=opI λ_ _ _ _ _ _ _ d q=>mul_int q d.ok
def ah1:OpR X (binaryOp .Mod) (rI (λ_ j=>0<j) λi j=>.int<|i%j):=opI λi j _ _ _ _ _ d q=>by have e:(0:Int)<j:=d;exact mod_int' (by omega) (by rw[Int.fmod_eq_emod_of_nonneg i (by omega)];exact q)
def unI{f}{g:Int->Int}(rule:∀i t s Q E,Q (.int (g i) s.toks) {s with toks:=s.toks+1}->wpAny (model X.prog X.w) X.A (f<|.int i t) Q E s):UnR X f (rU λi=>.int<|g i):=by intro d s j H x v Q I e h;obtain⟨i,rfl,q⟩:=h;obtain⟨t,rfl⟩:=e;exact rule i t s _ _ ⟨.int _,H,I.tok _,⟨_,rfl⟩,q⟩
def ag2:UnR X (unaryOp .USub) (rU λi=>.int<|-i):=unI λ_ _ _ _ _ q=>neg_int q
end
noncomputable def akL:V->V->Bool|.non,.non=>true|.non,.int _=>true|.int _,.non=>true|.non,.bl _=>true|.bl _,.non=>true|.non,.str _=>true|.str _,.non=>true|.int _,.int _=>true|.bl _,.bl _=>true|.str _,.str _=>true|.byt _,.byt _=>true|.int _,.str _=>true|.str _,.int _=>true|.bl _,.str _=>true|.str _,.bl _=>true|_,_=>false
def rEq:R2:=λx y H Q=>akL x y=true/\Q (.bl<|decide (x=y)) H
def rNe:R2:=λx y H Q=>akL x y=true/\Q (.bl !decide (x=y)) H
def tG{i j:Int}:decide (V.int i=V.int j)=(i==j):=by rw[aoz];simp
def aaM{i j:Bool}:decide (V.bl i=V.bl j)=(i==j):=by rw[aoz];simp
def tF{i j:Str}:decide (V.str i=V.str j)=(i==j):=by rw[aoz];simp
def aaL{i j}:decide (V.byt i=V.byt j)=(i.toList==j.toList):=by rw[aoz];cases i;cases j;simp
section
variable{X:Cx}{a b c:Expr}{ta tb tc:TE}{pos:Pos}
def bf{pins}{σ:St}{H s Q k k'}(I:Inv X pins σ H s)(q:Q (.bl k) H)(e:k=k'):EP X pins σ Q (.bool k') s:=by subst e;exact⟨.bl k,H,I,rfl,q⟩
def alh:OpR X (compareOp .Eq) rEq:=by intro k s l H x y v u Q I g d h;obtain⟨f,q⟩:=h;cases x with
|non=>cases g;cases y with|non=>cases d;exact PySem.EqNone.eq_none_none (bf I q<|by simp)|bl j=>cases d;exact PySem.EqNone.eq_none_bool (bf I q<|by simp)|int j=>obtain⟨e,rfl⟩:=d;exact PySem.EqNone.eq_none_int (bf I q<|by simp)|str j=>obtain⟨e,rfl⟩:=d;exact PySem.EqNone.eq_none_str (bf I q<|by simp)|_=>exact absurd (show false=true from f) aov
|bl i=>cases g;cases y with|non=>cases d;exact PySem.EqNone.eq_bool_none (bf I q<|by simp)|bl j=>cases d;exact eq_bool<|bf I q aaM|str j=>obtain⟨e,rfl⟩:=d;exact PySem.EqMixed.eq_bool_str (bf I q<|by simp)|_=>exact absurd (show false=true from f) aov
|int i=>obtain⟨t,rfl⟩:=g;cases y with|non=>cases d;exact PySem.EqNone.eq_int_none (bf I q<|by simp)|int j=>obtain⟨e,rfl⟩:=d;exact eq_int<|bf I q tG|str j=>obtain⟨e,rfl⟩:=d;exact PySem.EqMixed.eq_int_str (bf I q<|by simp)|_=>exact absurd (show false=true from f) aov
|str i=>obtain⟨t,rfl⟩:=g;cases y with|non=>cases d;exact PySem.EqNone.eq_str_none (bf I q<|by simp)|bl j=>cases d;exact PySem.EqMixed.eq_str_bool (bf I q<|by simp)|int j=>obtain⟨e,rfl⟩:=d;exact PySem.EqMixed.eq_str_int (bf I q<|by simp)|str j=>obtain⟨e,rfl⟩:=d;exact eq_str<|bf I q tF|_=>exact absurd (show false=true from f) aov
|byt i=>obtain⟨t,rfl⟩:=g;cases y with|byt j=>obtain⟨e,rfl⟩:=d;exact W.eq_bytes<|bf I q aaL|_=>exact absurd (show false=true from f) aov
|_=>cases y<;>exact absurd (show false=true from f) aov
def ald:OpR X (compareOp .NotEq) rNe:=by intro k s l H x y v u Q I g d h;obtain⟨f,q⟩:=h;cases x with
|non=>cases g;cases y with|non=>cases d;exact PySem.EqNone.ne_none_none (bf I q<|by simp)|bl j=>cases d;exact PySem.EqNone.ne_none_bool (bf I q<|by simp)|int j=>obtain⟨e,rfl⟩:=d;exact PySem.EqNone.ne_none_int (bf I q<|by simp)|str j=>obtain⟨e,rfl⟩:=d;exact PySem.EqNone.ne_none_str (bf I q<|by simp)|_=>exact absurd (show false=true from f) aov
|bl i=>cases g;cases y with|non=>cases d;exact PySem.EqNone.ne_bool_none (bf I q<|by simp)|bl j=>cases d;exact ne_bool<|bf I q<|an8 not aaM|str j=>obtain⟨e,rfl⟩:=d;exact PySem.EqMixed.ne_bool_str (bf I q<|by simp)|_=>exact absurd (show false=true from f) aov
|int i=>obtain⟨t,rfl⟩:=g;cases y with|non=>cases d;exact PySem.EqNone.ne_int_none (bf I q<|by simp)|int j=>obtain⟨e,rfl⟩:=d;exact ne_int<|bf I q<|an8 not tG|str j=>obtain⟨e,rfl⟩:=d;exact PySem.EqMixed.ne_int_str (bf I q<|by simp)|_=>exact absurd (show false=true from f) aov
|str i=>obtain⟨t,rfl⟩:=g;cases y with|non=>cases d;exact PySem.EqNone.ne_str_none (bf I q<|by simp)|bl j=>cases d;exact PySem.EqMixed.ne_str_bool (bf I q<|by simp)|int j=>obtain⟨e,rfl⟩:=d;exact PySem.EqMixed.ne_str_int (bf I q<|by simp)|str j=>obtain⟨e,rfl⟩:=d;exact ne_str<|bf I q<|an8 not tF|_=>exact absurd (show false=true from f) aov
|byt i=>obtain⟨t,rfl⟩:=g;cases y with|byt j=>obtain⟨e,rfl⟩:=d;exact W.ne_bytes<|bf I q<|an8 not aaL|_=>exact absurd (show false=true from f) aov
|_=>cases y<;>exact absurd (show false=true from f) aov
def ale:OpR X (compareOp .Lt) (rI0 λi j=>.bl<|decide (i<j)):=ali λ_ _ _ _ _ _ _ q=>lt_int q
def alf:OpR X (compareOp .LtE) (rI0 λi j=>.bl<|decide (i<=j)):=ali λ_ _ _ _ _ _ _ q=>le_int q
def alg:OpR X (compareOp .Gt) (rI0 λi j=>.bl<|decide (j<i)):=ali λ_ _ _ _ _ _ _ q=>gt_int q
def ah2:OpR X (compareOp .Is) λx y H Q=>y=.non/\Q (.bl<|decide (x=.non)) H:=by intro d s g H x y v u Q I e f h;obtain⟨rfl,q⟩:=h;cases f;refine is_none_gen<|bf I q ?_;cases x<;>(obtain⟨t,rfl⟩:=e;rfl)
def afx:OpR X (compareOp .IsNot) λx y H Q=>y=.non/\Q (.bl !decide (x=.non)) H:=by intro d s g H x y v u Q I e f h;obtain⟨rfl,q⟩:=h;cases f;refine isnot_none_gen<|bf I q ?_;cases x<;>(obtain⟨t,rfl⟩:=e;rfl)
def OpR.or{f r i}(h:OpR X f r)(h':OpR X f i):OpR X f λx y H Q=>r x y H Q\/i x y H Q:=by
 intro g s e H x y v u Q I j d q;rcases q with q|q;.exact h _ s e H x y v u Q I j d q
 .exact h' _ s e H x y v u Q I j d q
def bG(b){op}(h:op≠.In:=by decide)(d:op≠.NotIn:=by decide):behindInMarks op b=false:=acz b h d
def aft{op r}(f:OpR X (compareOp op) r)(e:PE X a ta)(i:PE X b tb)(m:behindInMarks op b=false):PE X (.Compare a [op] [b] pos) (tOp r ta tb):=by intro d s k H Q I h;exact wpAny_Compare1 (ama e i I h λv u o x y n l g j q=>f _ _ k _ x y v u Q l g j q) m
def aha(t:TE):TT:=λe H Q=>t e H λx d=>∃k,x=.bl k/\Q k d
def afi{op r}(m:OpR X (compareOp op) r)(i:PE X a ta)(q:PE X b tb)(A:behindInMarks op b=false):PT X (.Compare a [op] [b] pos) (aha<|tOp r ta tb):=by intro f s d H Q I h;refine wpAny_isTrue_Compare1 (thn (i _ s d H _ I h) λv E⟨x,K,j,l,C⟩=>thn (q _ _ d _ _ j C) λu J⟨y,G,w,t,o⟩=>thn (m _ _ d _ x y v u _ w l t o) λc D⟨z,g,p,n,k,e,B⟩=>?_) A;subst e;cases n;exact apH ⟨g,p,B⟩
def adQ(r h:R2)(ta tb tc:TE):TE:=λd H Q=>ta d H λx f=>tb d f λy i=>r x y i λz e=>∃k,z=.bl k/\if k=true then tc d e λj g=>h y j g Q else Q (.bl false) e
def aco{op g r l}(S:OpR X (compareOp op) r)(j:OpR X (compareOp g) l)(N:PE X a ta)(U:PE X b tb)(Y:PE X c tc)(Z:lastMarks [op,g] [b,c]=false:=by with_unfolding_all rfl):PE X (.Compare a [op,g] [b,c] pos) (adQ r l ta tb tc):=by intro f s i H Q I h;refine Compare_chain (thn (N _ s i H _ I h) λv R⟨x,B,P,t,q1⟩=>chain_link<|thn (U _ R i B _ P q1) λu A⟨y,J,C,n,w⟩=>thn (S _ A i J x y v u _ C t n w) λd M⟨z,p,m,T,k,e,o⟩=>?_) Z;subst e;cases T;refine apH ?_;cases k with|false=>exact ite_ff ⟨.bl _,p,m,rfl,o⟩|true=>exact ite_tt (chain_last<|thn (Y f M i p _ m o) λw' G⟨O,D,K,E,q⟩=>j f G i D y O u w' Q K n E q)
def vl:sizeLine<2^63:=by decide
def vals1{x us}(r:Vals [x] us):∃u,us=[u]/\RelV x u:=by cases r with|cons r1 r2=>cases r2;exact⟨_,rfl,r1⟩
def vals2{x y us}(r:Vals [x,y] us):∃u d,us=[u,d]/\RelV x u/\RelV y d:=by cases r with|cons r1 r2=>cases r2 with|cons r3 r4=>cases r4;exact⟨_,_,rfl,r1,r3⟩
def ady:bC X (.builtin "abs") λe H Q=>∃i,e=[.int i]/\Q (.int<|if i<0 then -i else i) H:=by intro d s j H e f Q I r h;obtain⟨i,rfl,q⟩:=h;obtain⟨u,rfl,t,rfl⟩:=vals1 r;exact call_abs_int λu g=>i5 (.int _) H (I.tok _) ⟨_,rfl⟩ q
def aa8(l:X.calm=true):bC X (.builtin "max") λg H Q=>∃i j,g=[.int i,.int j]/\Q (.int<|if j>i then j else i) H:=by
 intro f s v H g n Q I r h;refine eG h λi j e q=>?_;subst e;obtain⟨u,w,rfl,⟨t,rfl⟩,⟨m,rfl⟩⟩:=vals2 r;refine max_two_ints (I.ok.hd l) λp o k=>i5 _ H (I.kept k) ?_ q;by_cases d:j>i;.rw[an4 d,an4 d];exact⟨_,rfl⟩
 .rw[an5 d,an5 d];exact⟨_,rfl⟩
def aba:bC X (.type "int") λd H Q=>(∃i,d=[.int i]/\Q (.int i) H)\/∃k,d=[.bl k]/\Q (.int<|if k then 1 else 0) H:=by
 intro e s j H d g Q I r h;rcases h with⟨i,rfl,q⟩|⟨k,rfl,q⟩;.obtain⟨u,rfl,t,rfl⟩:=vals1 r;exact call_int_int ⟨.int i,H,I,⟨_,rfl⟩,q⟩
 .obtain⟨u,rfl,f⟩:=vals1 r;cases f;exact call_int_bool ⟨.int (if k then 1 else 0),H,I.tok _,⟨_,rfl⟩,q⟩
end
structure ObjM(h:Heap)(x dx C:Addr)(mA:Str->Option Value):Prop where
 obj:h.get? x=some (W.instObj C dx)ns:h.Ns1 dx mA
 ne:dx≠x
def qG{h:Heap}{dx f}(n:h.Ns1 dx f):∃od,h.get? dx=some od/\∀b,W.lookIn b od=some (f b):=by
 refine ajk n λo d p k j i _ l=>?_;refine⟨o,k,λb=>?_⟩;have e:=l b;unfold nsFind findBy at e;rw[<-aqO]at e;unfold W.lookIn;rw[j];dsimp ;split;.rename_i y q;rw[q]at e;exact an8 _ e
 .rename_i q;rw[q]at e;have a:d.toList.any (·.refKey)=false:=by rw[List.any_eq_false];intro y g;obtain⟨z,t,c⟩:=i y<|Array.mem_toList_iff.mp g;simp[DictEntry.refKey,c]
  have m:¬d.toList.any (·.refKey)=true:=by grind
  rw[an5 m];exact an8 _ e
def ObjM.look{h x dx C b}(I:ObjM h x dx C b):∃od,W.InstAt h x (W.instObj C dx) C (some od)/\∀a,W.lookIn a od=some (b a):=let⟨od,d,c⟩:=qG I.ns;⟨od,⟨I.obj,rfl,rfl,d⟩,c⟩
section
variable{prog:Program}{w:World}{A:Around}{E:Value->Shared->Prop}{s:Shared}{K:W.Frag}{x dx C f:Addr}{mA:Str->Option Value}{name:Str}{v:Value}
def get_map{a Q}(X:K.In s.heap)(I:ObjM s.heap x dx C mA)(d:W.plainGet K C name=true)(e:W.hasDictIn K C=true)(c:W.findIn K (.ref C) name=some none)(g:mA name=some v)(b:W.handedIn v=true)(h:Q v {s with toks:=s.toks+1}):wpAny (model prog w) A (getAttr (.ref x) name a) Q E s:=by obtain⟨od,J,i⟩:=I.look;exact W.get_value X J (W.plainGet_of d).1 (W.findObj_own e c rfl<|by grind) b h
def ac9{pl Q}(X:K.In s.heap)(I:ObjM s.heap x dx C mA)(a:W.plainGet K C name=true)(b:W.findIn K (.ref C) name=some (some<|.ref f))(ht:W.isFn K (.ref f)=true)(c:mA name=none)(h:Q (.ref f,[.ref x]) s):wpAny (model prog w) A (getMethod (.ref x) name pl) Q E s:=by obtain⟨od,J,d⟩:=I.look;exact W.method_fn X J (W.plainGet_of a).1 (W.plainGet_of a).2 b (apl.mp ht) (by show(W.lookIn _ _).map _=some _;rw[d,c];rfl) h
def ae1{ns Q}(X:K.In s.heap)(I:ObjM s.heap x dx C mA)(hs:W.findIn K (.ref C) "__setattr__"=some (some<|.builtin "object.__setattr__"))(m:W.plainOver K C=true)(ht:W.takerIn K C name=some none)(l:W.hasDictIn K C=true)(hw:PySem.Within mA ns)(hsz:ns.length<=sizeLine)(h:∀e,ObjM e x dx C (λy=>if y=name then some v else mA y)->Heap.SameBut dx s.heap e->Q () {s with heap:=e,toks:=s.toks+2}):wpAny (model prog w) A (setAttr (.ref x) name v) Q E s:=by refine gB I.look λod J q=>?_;refine W.set_plain X J hs (W.osa_open (s:={s with toks:=s.toks+1}) (r:=none) X J m ht λb=>?_);refine gB (W.any_some l) λu n k=>?_;refine anY<|an0<|anY<|anY<|aqI I.obj<|anY<|W.Looks.here (aqT X n) ?_;rw[k];refine an0 (a:=some dx)<|anY<|an0<|anY ?_;refine wpAny_nsSet1 I.ns λe d c=>?_;refine xQ (d.count<|aqY name v hw) λt p o i g j=>?_;refine anY (ara i (by rw[g];exact arb<|aoh j<|by rw[aon];omega) ?_);exact an0<|h _ ⟨(c.2 _<|aom I.ne).trans I.obj,d,I.ne⟩ c
def acA{R vs a}(X:K.In s.heap)(e:W.makesIn K C=true)(c:W.findIn K (.ref C) "__init__"=some (some<|.ref f))(d:W.typeIn K (.ref f)=some (.type "function"))(h:codeAny (model prog w) (A.under<|.builtin "type.__call__" ⟨.ref C::vs,a⟩) (.call (.ref f) ⟨.ref (s.heap.objs.size+1)::vs,a⟩) (W.InitBack (s.heap.objs.size+1) R) {s with heap:=(s.heap.push W.emptyDict).push (W.instObj C s.heap.objs.size)}):codeAny (model prog w) A (.call (.ref C) ⟨vs,a⟩) R s:=by exact W.make_core (W.makes_of X e) (W.looks_findIn X c) (λb=>W.bind_fn X _ d) (.inl rfl) h
end
noncomputable def m3(f:Str)(v:V):List (Str×V)->List (Str×V)|[]=>[(f,v)]|(g,x)::r=>if g=f then(g,v)::r else(g,x)::m3 f v r
theorem lK(f g)(v):∀fs,(m3 f v fs).lookup g=if g=f then some v else fs.lookup g
|[]=>by
 show List.lookup g [(f,v)]=_;by_cases h:g=f;.simp only[List.lookup,apl.mpr h,an4 h]
 .simp only[List.lookup,ao0.mpr h,an5 h]|(k,x)::r=>by
  have c:=lK f g v r;rw[show m3 f v ((k,x)::r)=if k=f then(k,v)::r else(k,x)::m3 f v r from rfl];by_cases a:k=f
  .rw[an4 a];by_cases h:g=k;.have b:(g==k)=true:=apl.mpr h;simp only[List.lookup,b,an4<|h.trans a]
   .simp only[List.lookup,ao0.mpr h,an5 λe:g=f=>h<|e.trans a.symm]
  .rw[an5 a];by_cases h:g=k;.simp only[List.lookup,apl.mpr h,an5 λe:g=f=>a<|h.symm.trans e]
   .simp only[List.lookup,ao0.mpr h];exact c
theorem lN(f)(v):∀fs,f∈(m3 f v fs).map (·.1)/\∀g,g∈fs.map (·.1)->g∈(m3 f v fs).map (·.1)
|[]=>⟨by simp[m3],λg h=>by simp at h⟩|(k,x)::r=>by
  obtain⟨c,b⟩:=lN f v r;rw[show m3 f v _=if k=f then(k,v)::r else(k,x)::m3 f v r from rfl];by_cases a:k=f;.subst a;exact⟨by simp,λg h=>by simpa using h⟩
  .rw[an5 a];refine⟨?_,λg h=>?_⟩;.exact aog _ c
   .rcases an7.mp h with e|e;.exact an7.mpr (.inl e)
    .exact aog _ (b g e)
theorem lL(f)(v):∀fs,(m3 f v fs).length<=fs.length+1
|[]=>by simp[m3]|(k,x)::r=>by
 have b:=lL f v r;rw[show m3 f v _=if k=f then(k,v)::r else(k,x)::m3 f v r from rfl];by_cases a:k=f;.rw[an4 a,aon,aon];omega
 .rw[an5 a,aon,aon];omega
def rG.some_of{v o}(r:rG (some v) o):∃u,o=some u/\RelV v u:=by cases o with|none=>exact(r).elim|some u=>exact⟨u,rfl,r⟩
def rG.none_of{o}(r:rG none o):o=none:=by cases o with|none=>rfl|some u=>exact(r).elim
def qN{v u}(r:RelV v u):W.handedIn u=true:=by cases v with|non|bl b=>cases r;rfl|int i|str x|byt b|flt b=>obtain⟨t,e⟩:=r;cases e;rfl|ref a|ty n=>cases r;rfl
section
variable{P:Program}{w:World}{H:Hp}{h:Heap}{a C dx:Addr}{fs:List (Str×V)}
def oM(c:HOk P w H h)(e:H a=some (.ins C dx fs)):∃b,ObjM h a dx C b/\(∀f,rG (fs.lookup f)<|b f)/\PySem.Within b (fs.map (·.1))/\fs.length<=1000/\H dx=some (.own a):=by obtain⟨d,z,g,ob,b,n,r,q⟩:=c a _ e;exact⟨b,⟨ob,n,g⟩,r,q,z,d⟩
end
structure Cls(K:W.Frag)(C:Addr):Prop where
 pg:W.plainGet K C Str.empty=true
 hd:W.hasDictIn K C=true
 po:W.plainOver K C=true
 sa:W.findIn K (.ref C) "__setattr__"=some (some<|.builtin "object.__setattr__")
def Cls.get{K C}(c:Cls K C)(f):W.plainGet K C f=true:=c.pg
def eF(K:W.Frag)(C:Addr)(f:Str):Prop:=W.findIn K (.ref C) f=some none
def eF.akv{K C f}(n:eF K C f):W.takerIn K C f=some none:=by unfold W.takerIn;rw[n];rfl
structure Meth(K:W.Frag)(C:Addr)(m:Str)(f:Addr):Prop where
 at_:W.findIn K (.ref C) m=some (some<|.ref f)fn:W.isFn K (.ref f)=true
 kp:W.keepIn K (.ref f)=true
section
variable{X:Cx}{pins:List (Addr×Obj)}{σ:St}{H:Hp}{s:Shared}{a C dx:Addr}{fs:List (Str×V)}{f:Str}{v:V}{A:Around}{E:Value->Shared->Prop}
def xh{b Q}(I:Inv X pins σ H s)(e:H a=some (.ins C dx fs))(c:Cls X.K C)(n:eF X.K C f)(l:fs.lookup f=some v)(h:∀u g,Inv X pins σ H g->RelV v u->Q u g):wpAny (model X.prog X.w) A (getAttr (.ref a) f b) Q E s:=by obtain⟨j,O,r,_,_,_⟩:=oM I.hok e;obtain⟨u,i,d⟩:=rG.some_of (v:=v) (o:=j f) (by grind);exact get_map I.kIn O (c.get f) c.hd n i (qN d)<|h u _ (I.tok _) d
def xg{m g pl Q}(I:Inv X pins σ H s)(e:H a=some (.ins C dx fs))(c:Cls X.K C)(k:Meth X.K C m g)(l:fs.lookup m=none)(h:Q (.ref g,[.ref a]) s):wpAny (model X.prog X.w) A (getMethod (.ref a) m pl) Q E s:=by obtain⟨b,O,r,_,_,_⟩:=oM I.hok e;exact ac9 I.kIn O (c.get m) k.at_ k.fn (rG.none_of<|by grind) h
def wC{y u Q}(I:Inv X pins σ H s)(e:H a=some (.ins C dx fs))(c:Cls X.K C)(n:eF X.K C f)(K:fs.length<1000)(D:RelV y u)(h:∀j,Inv X pins σ (upd H a<|.ins C dx<|m3 f y fs) j->Q () j):wpAny (model X.prog X.w) A (setAttr (.ref a) f u) Q E s:=by
 obtain⟨B,O,r,k,_,i⟩:=oM I.hok e;have G:(fs.map (·.1)).length<=sizeLine:=by rw[aos,apM];omega
 refine ae1 I.kIn O c.sa c.po n.akv c.hd k G λt d J=>h _ ?_;have m:∃o,t.get? dx=some o:=let⟨o,_,_,l,_⟩:=d.ns;⟨o,l⟩;refine I.write (x:=a) (e:=dx) (by rw[e];exact True.intro) (.inr i) (λb q w z=>(J.2 b w).trans z) m ⟨by rw[ai O.ne];exact i,?_,O.ne,d.obj,_,d.ns,λg=>?_,λg p=>?_⟩;.have:=lL f y fs;omega
 .rw[lK];by_cases q:g=f;.rw[an4 q,an4 q];exact D
  .rw[an5 q,an5 q];exact r g
 .by_cases q:g=f;.rw[q];exact(lN f y fs).1
  .refine(lN f y fs).2 g (k g λz=>p ?_);show(if g=f then some u else B g)=none;rw[an5 q];exact z
def Inv.made(I:Inv X pins σ H s):Inv X pins σ (upd (upd H s.heap.objs.size<|.own<|s.heap.objs.size+1) (s.heap.objs.size+1)<|.ins C s.heap.objs.size []) {s with heap:=(s.heap.push W.emptyDict).push (W.instObj C s.heap.objs.size)}:=by
 have d:(s.heap.push W.emptyDict).get? s.heap.objs.size=some W.emptyDict:=aoj s.heap rfl;have h:=by have:=aoj (s.heap.push W.emptyDict) (o:=W.instObj C s.heap.objs.size) rfl;rwa[apq]at this
 have j:=I.laid (o:=.own<|s.heap.objs.size+1) (t':=s.toks) (λb u q=>anZ _ q) (aob _) ⟨_,d⟩;refine j.laid  (λb u q=>anZ _ q) (Nat.le_of_eq<|apq _ _) ?_;have c:s.heap.objs.size≠s.heap.objs.size+1:=aoi<|apx _;refine⟨by rw[ai c,aj],aoF _,c,h,_,(aqZ<|vW W.emptyDict #[] _ d rfl (λe i=>absurd i<|by simp) λ_=>rfl).at λo q=>anZ _ q,λ_=>True.intro,λy g=>absurd rfl g⟩
def abh{prog w b e f pos s Q}(d:attributeBase e f b (eval e b)=eval e b)(h:wpAny (model prog w) A (eval e b) (λo c=>wpAny (model prog w) A (getAttr o f true) Q E c) E s):wpAny (model prog w) A (eval (.Attribute e f pos) b) Q E s:=Attribute_any_ h (by rw[arm_eval_Attribute,d])
end
def amG(K:W.Frag)(ta:TE)(f:Str):TE:=λd H Q=>ta d H λx b=>∃a C c fs v,x=.ref a/\b a=some (.ins C c fs)/\Cls K C/\eF K C f/\fs.lookup f=some v/\Q v b
def ajA(K:W.Frag)(ta tv:TE)(f:Str):TS:=λD b H=>tv b H λy e=>ta b e λx d=>∃a C c fs,x=.ref a/\d a=some (.ins C c fs)/\Cls K C/\eF K C f/\fs.length<1000/\D.nx b (upd d a<|.ins C c<|m3 f y fs)
section
variable{X:Cx}{o e value:Expr}{f:Str}{pos pos':Pos}{ta tv:TE}
def ad9(d:PE X e ta)(j:attributeBase e f X.env (eval e X.env)=eval e X.env):PE X (.Attribute e f pos) (amG X.K ta f):=by intro b s p H Q I h;refine abh j (thn (d _ s p H _ I h) λu w⟨x,k,g,i,a,C,y,fs,v,ex,m,c,n,l,q⟩=>?_);subst ex;obtain rfl:=i;exact xh g m c n l λA z r t=>⟨v,k,r,t,q⟩
def y4(p:PE X o ta)(v:PE X value tv)(hs:swapsWith value (some<|.Attribute o f pos') pos.line X.env=pure false):PS X (.Assign [.Attribute o f pos'] value pos) (ajA X.K ta tv f):=by intro d s b H D I h;refine apS (thn (v _ s b H _ I h) λu G⟨y,z,r,k,q⟩=>thn (p _ _ b _ _ r q) λA w⟨x,B,m,t,a,C,J,fs,ex,j,c,n,l,g⟩=>?_) hs;subst ex;obtain rfl:=t;exact wC m j c n l k λE i=>⟨b,_,i,g⟩
end
section
variable{X:Cx}{pins:List (Addr×Obj)}{σ:St}{H:Hp}{s:Shared}{A:Around}{E:Value->Shared->Prop}{Q:Value->Shared->Prop}{c:Value}{b:Bool}
inductive TyOf(K:W.Frag)(H:Hp):V->Value->Prop where|non:TyOf K H .non (.type "NoneType")|bl(x:Bool):TyOf K H (.bl x) (.type "bool")|int(i:Int):TyOf K H (.int i) (.type "int")|str(x:Str):TyOf K H (.str x) (.type "str")|flt(x:UInt64):TyOf K H (.flt x) (.type "float")|lst{a:Addr}{xs:List V}(e:H a=some (.lst xs)):TyOf K H (.ref a) (.type "list")|frz{a:Addr}{o:Obj}{xs:List V}(e:H a=some (.frz o<|.lst xs)):TyOf K H (.ref a) (.type "list")|tup{a:Addr}{xs:List V}(e:H a=some (.tup xs)):TyOf K H (.ref a) (.type "tuple")|dK{a:Addr}{kvs:List (Key×V)}(e:H a=some (.dK kvs)):TyOf K H (.ref a) (.type "dict")|dT{a:Addr}{kvs:List (List Key×V)}(e:H a=some (.dT kvs)):TyOf K H (.ref a) (.type "dict")|ins{a C dx:Addr}{fs:List (Str×V)}(e:H a=some (.ins C dx fs))(cl:Cls K C)(ha:W.findIn K (.ref C) "__class__"=some (some<|.builtin "object.__class__"))(hn:W.specialIn K (.builtin "object.__class__") "__get__"=some (some<|.builtin "getset_descriptor.__get__"))(htk:W.takesIn K (.builtin "object.__class__")=some true)(hm:W.mroIn K C (.type "object")=some true):TyOf K H (.ref a) (.ref C)
def aad{x u t}(I:Inv X pins σ H s)(d:RelV x u)(ty:TyOf X.K H x t)(e:W.kitOne X.K t c=some b)(h:∀k,Q (.bool b) {s with toks:=k}):wpAny (model X.prog X.w) A (call (.builtin "isinstance") [u,c]) Q E s:=by cases ty with|non=>cases show u=Value.none from d;exact apr W.kitx_none I.kIn True.intro e (λz=>nomatch z) h|bl y=>cases show u=Value.bool y from d;exact apr W.kitx_bool I.kIn True.intro e (λz=>nomatch z) h|int i=>obtain⟨t,q⟩:=show∃t,u=Value.int i t from d;cases q;exact apr W.kitx_int I.kIn True.intro e (λz=>nomatch z) h|str y=>obtain⟨t,q⟩:=show∃t,u=Value.str y t from d;cases q;exact apr W.kitx_str I.kIn True.intro e (λz=>nomatch z) h|flt y=>obtain⟨t,q⟩:=show∃t,u=Value.float y t from d;cases q;exact apr W.kitx_float I.kIn True.intro e (λz=>nomatch z) h|@lst a j ea=>cases show u=Value.ref a from d;obtain⟨_,_,n,_,f⟩:=I.hok a _ ea;exact apr arz I.kIn ⟨_,f,rfl⟩ e (λz=>nomatch z) h|@frz a ob j ea=>cases show u=Value.ref a from d;obtain⟨_,_,_,n,_,f⟩:=I.hok a _ ea;exact apr arz I.kIn ⟨_,f,rfl⟩ e (λz=>nomatch z) h|@tup a j ea=>cases show u=Value.ref a from d;obtain⟨_,_,_,p⟩:=show cQ X.prog X.w H s.heap a (.tup j)from I.hok a _ ea;refine ix p λo f g _=>?_;exact apr W.kitx_tuple I.kIn ⟨o,f,g⟩ e (λz=>nomatch z) h|@dK a kvs ea=>cases show u=Value.ref a from d;obtain⟨_,_,r,_,p⟩:=I.hok a _ ea;refine xQ p λo l m f g _=>?_;exact apr W.kitx_dict I.kIn ⟨o,f,g.1⟩ e (λz=>nomatch z) h|@dT a kvs ea=>cases show u=Value.ref a from d;obtain⟨_,_,j,_,o,l,m,f,g,_⟩:=show cQ X.prog X.w H s.heap a (.dT kvs)from I.hok a _ ea;exact apr W.kitx_dict I.kIn ⟨o,f,g.1⟩ e (λz=>nomatch z) h|@ins a C dx fs ea cl ha hn htk hm=>cases show u=Value.ref a from d;refine gB (oM I.hok ea) λv O _=>?_;obtain⟨od,J,_⟩:=O.look;exact apr (W.kitx_own (cl.get _) cl.hd ha hn htk hm) I.kIn J e (λz=>nomatch z) h
end
structure Room(k:Nat)(A:Around):Prop where
 hd:40<=k->A.handled=none
 dp:A.depth+3*k+5<recursionLimit
 un:A.units+16*k+200<cLine
 gd:A.guards=some []
def Room.mono{j k A}(r:Room k A)(h:j<=k):Room j A:=⟨λz=>r.hd (by omega),by have:=r.dp;omega,by have:=r.un;omega,r.gd⟩
theorem Room.deeper{k A}(r:Room (k+1) A)(a):Room k (A.deeper a):=⟨λz=>r.hd (by omega),by have:=r.dp;show A.depth+1+3*k+5<_;omega,by have:=r.un;show A.units+3+16*k+200<_;omega,r.gd⟩
theorem Room.in1{k:Nat}{A:Around}(r:Room (k+1) A):Room k A.in1:=⟨λz=>r.hd (by omega),by have:=r.dp;show A.depth+3*k+5<_;omega,by have:=r.un;show A.units+1+16*k+200<_;omega,r.gd⟩
def w5{A:Around}{C us a}:(A.under<|.builtin "type.__call__" ⟨.ref C::us,a⟩).depth=A.depth+1:=by rfl
def w4{A:Around}{C us a}:(A.under<|.builtin "type.__call__" ⟨.ref C::us,a⟩).units=A.units+1:=rfl
def Room.make{k A}(r:Room (k+1) A)(C)(us)(a):Room k (A.under<|.builtin "type.__call__" ⟨.ref C::us,a⟩):=⟨λz=>r.hd (by omega),by have:=r.dp;rw[w5];omega,by have:=r.un;rw[w4];omega,r.gd⟩
def Room.calm{k}{A:Around}{a}(r:Room k (A.deeper a))(h:40<=k):A.handled.isNone=true:=by rw[show A.handled=none from r.hd h];rfl
def Room.sui{k A v}(r:Room k A)(h:39<=k):Room 39 (A.mark v):=⟨λz=>by omega,by have:=r.dp;show A.depth+3*39+5<_;omega,by have:=r.un;show A.units+16*39+200<_;omega,r.gd⟩
theorem Room.depth{k A}(r:Room k A):A.depth<recursionLimit:=by have:=r.dp;omega
theorem Room.units{k A}(r:Room k A):A.units+64<cLine:=by have:=r.un;omega
def xT:TA:=λ_ H Q=>Q [] H
def hU(ta:TE)(c:TA):TA:=λa H Q=>ta a H λx b=>c a b λe d=>Q (x::e) d
section
variable{X:Cx}{e:Expr}{es:List Expr}{te:TE}{t:TA}{pos:Pos}
def bY:PA X [] xT:=λ_ _ _ _ H Q I h=>Calls.spliced_nil ⟨[],H,I,.nil,h⟩
def aU(c:PE X e te)(j:PA X es t)(hs:SE X e es:=by rfl):PA X (e::es) (hU te t):=by intro pos a s b H Q I h;rw[hs];exact Calls.spliced_cons (thn (c _ s b H _ I h) λu o⟨x,r,d,f,m⟩=>thn (j _ _ _ b _ _ d m) λn q⟨p,i,l,k,g⟩=>i5 _ i l (.cons f k) g)
def anD(t:TA):TE:=λc H Q=>t c H λb a=>b.length<=sizeLine/\∀p,a p=none->Q (.ref p) (upd a p<|.tup b)
def ahg(t:TA):TE:=λc H Q=>t c H λb a=>b.length<=sizeLine/\∀p,a p=none->Q (.ref p) (upd a p<|.lst b)
def ahQ{f}(h:PA X es t):PE X (.Tuple es f pos) (anD t):=by intro c s i H Q I g;refine wpAny_Tuple_spliced (thn (h _ _ s i H _ I g) λd j⟨k,l,a,r,z,q⟩=>⟨by rw[<-r.length];exact z,.ref _,_,a.laid (λb u e=>anZ _ e) (aob _) ?_,rfl,q _<|a.hok.fresh<|aob _⟩);exact⟨z,d,r,⟨_,aoj _ rfl,rfl,_,rfl⟩⟩
def qp(h:PA X es t):PE X (.List es pos) (ahg t):=by intro c s g H Q I f;refine wpAny_List_spliced (thn (h _ _ s g H _ I f) λd i⟨j,k,a,r,z,q⟩=>⟨by rw[<-r.length];exact z,.ref _,_,a.laid (λb u e=>anZ _ e) (aob _) ?_,rfl,q _<|a.hok.fresh<|aob _⟩);exact⟨z,d,0,r,aoj _ rfl⟩
end
abbrev Sp:=List V->Hp->VK->XK->Prop
abbrev CXT:=List Env->Hp->Shared->XK->Value->Shared->Prop
structure Env0(P:Program)(w:World)(K:W.Frag)(mg:Str->Option Value)(base:Heap)(A:Around)(outer:List Env)(s:Shared)(H:Hp):Prop where
 frames:A.frames=some outer
 mod:Mod K mg base
 bs:∀b o,base.get? b=some o->s.heap.get? b=some o/\H b=none
 bsz:base.objs.size<=s.heap.objs.size
 nj:s.heap.FunFrames base outer
 frf:∀b∈frs outer,H b=none
 hok:HOk P w H s.heap
 bare:AllBare s.gens
def CE(a:List Env)(P:Program)(w:World)(H:Hp)(s:Shared)(Q:VK)(u:Value)(s':Shared):Prop:=∃v b,s'.os=s.os/\AllBare s'.gens/\Un (frs a) [] H b s.heap s'.heap/\HOk P w b s'.heap/\RelV v u/\Q v b
def CR(CX:CXT)(a:List Env)(P:Program)(w:World)(H:Hp)(s:Shared)(Q:VK)(E:XK)(r:Result)(s':Shared):Prop:=match r with|.ok (.ret u)=>CE a P w H s Q u s'|.ok _=>False|.error e=>CX a H s E e s'
structure FnOk(P:Program)(w:World)(K:W.Frag)(mg:Str->Option Value)(base:Heap)(CX:CXT)(k:Nat)(f:Addr)(fd:FuncData)(ps:List Str)(sp:Sp)(hn:Around->Hp->Prop:=λ_ _=>True):Prop where
 len:∀vs H Q E,sp vs H Q E->vs.length=ps.length
 run:∀(A:Around)(outer:List Env)(s:Shared)(H:Hp)(args:Args)(us:List Value)(vs:List V)(Q:VK)(E:XK),Room k A->hn A H->Env0 P w K mg base A outer s H->BindsTo s fd args (ps.zip us)->Vals vs us->sp vs H Q E->codeAny (model P w) A (.call (.ref f) args) (CR CX outer P w H s Q E) s
def FnOk.imp{P w K mg a CX k f g ps sp b}(F:FnOk P w K mg a CX k f g ps sp)(h:∀c H Q E,b c H Q E->sp c H Q E):FnOk P w K mg a CX k f g ps b:=⟨λc H Q E q=>F.len _ H Q E<|h _ _ _ _ q,λA d s H e p c Q E m o i l n j=>F.run A _ s H _ _ _ Q E m o i l n<|h _ _ _ _ j⟩
def Env0.make{P w K mg b A a s H}(e:Env0 P w K mg b A a s H)(C)(us)(c):Env0 P w K mg b (A.under<|.builtin "type.__call__" ⟨.ref C::us,c⟩) a s H:=⟨by exact e.frames,e.mod,e.bs,e.bsz,e.nj,e.frf,e.hok,e.bare⟩
theorem Env0.in1{P:Program}{w:World}{K:W.Frag}{mg:Str->Option Value}{b:Heap}{A:Around}{a:List Env}{s:Shared}{H:Hp}(e:Env0 P w K mg b A a s H):Env0 P w K mg b A.in1 a s H:=⟨e.frames,e.mod,e.bs,e.bsz,e.nj,e.frf,e.hok,e.bare⟩
section
variable{X:Cx}{pins:List (Addr×Obj)}{σ:St}{H:Hp}{s s':Shared}
def Inv.aiW(I:Inv X pins σ H s):Env0 X.prog X.w X.K X.mg X.base X.A X.stack s H:=⟨I.ok.frames,I.ok.mod,I.bs,aoh I.ok.bsz I.sz,I.stack,I.kR,I.hok,I.bare⟩
def Inv.after{Q u}(I:Inv X pins σ H s)(h:CE X.stack X.prog X.w H s Q u s'):EP X pins σ Q u s':=by refine ajl h λv e os a un c r q=>?_;obtain⟨i,g,d,t,f⟩:=s';obtain rfl:=os;exact i5 v e (I.call   un c a λb z=>absurd z<|by simp) r q
end
def abU(sp:Sp)(a:List V)(E:XK)(t:TA):TE:=λd H Q=>t d H λb c=>sp (b++a) c Q E
def Binds(K:W.Frag)(c:FuncData)(ps:List Str)(b:List Value):Prop:=∀(s:Shared)(a:List Value),K.In s.heap->(a++b).length=ps.length->BindsTo s c ⟨a,[]⟩ (ps.zip<|a++b)
def Binds.all{K b ps}(h:∀a,a.length=ps.length->bindArgs b ⟨a,[]⟩=pure (ps.zip a)):Binds K b ps []:=λs a _ c=>by rw[apc]at c⊢;exact .of_eq<|h _ c
def Passes(CX:CXT)(X:Cx)(E:XK):Prop:=∀(a:List (Addr×Obj))(c:St)(H:Hp)(s:Shared)(e:Value)(b:Shared),Inv X a c H s->CX X.stack H s E e b->X.xe e b
section
variable{X:Cx}{CX:CXT}{k:Nat}{f C:Addr}{fd:FuncData}{ps:List Str}{sp:Sp}{dvs:List V}{ds:List Value}{E:XK}{x:Str}{p pos:Pos}{e:Expr}{es:List Expr}{t:TA}
def ahq{b pins}{σ:St}{H s Q us vs}(F:FnOk X.prog X.w X.K X.mg X.base CX k f fd ps sp b)(l:Room k X.A)(j:Binds X.K fd ps ds)(d:Vals dvs ds)(i:Passes CX X E)(I:Inv X pins σ H s)(r:Vals vs us)(h:sp (vs++dvs) H Q E)(n:b X.A H:=by exact trivial):wpAny (model X.prog X.w) X.A (call (.ref f) us) (EP X pins σ Q) X.xe s:=by
 have c:=r.append d;have g:(us++ds).length=ps.length:=by rw[<-c.length];exact F.len _ _ _ _ h
 refine apJ (apA (F.run _ _ s H _ _ _ Q E l n I.aiW (j s _ I.kIn g) c h) λr q a=>?_);cases r with|error e=>exact i _ σ H s e _ I a|ok fl=>cases fl with|ret u=>exact I.after a|next|brk|cont=>exact False.elim a
def se(F:FnOk X.prog X.w X.K X.mg X.base CX k f fd ps sp)(v:Room k X.A)(j:Gl X x)(y:X.mg x=some (.ref f))(hk:W.keepIn X.K (.ref f)=true)(u:Binds X.K fd ps ds)(i:Vals dvs ds)(n:Passes CX X E)(g:PA X (e::es) t)(b:Dbg x:=by decide)(l:SE X e es:=by rfl)(a:BT X pos es:=by rfl):PE X (.Call (.Name x p) (e::es) [] pos) (abU sp dvs E t):=by intro d s w H Q I h;exact apB (gi I j y (arc I.ok.mod.kin hk (thn (g _ _ s w H _ I h) λz A⟨B,D,c,r,q⟩=>⟨c.kIn,ahq F v u i n c r q⟩) l a) b)
structure Mk(K:W.Frag)(C f:Addr):Prop where
 makes:W.makesIn K C=true
 init:W.findIn K (.ref C) "__init__"=some (some<|.ref f)fn:W.isFn K (.ref f)=true
 kp:W.keepIn K (.ref C)=true
end
structure FnScope(N P:List Str)(sc:Scope):Prop where
 kind:sc.kind=.function
 co:sc.isCoroutine=false
 gen:sc.isGenerator=false
 nd:N.Nodup
 pre:N.take P.length=P
 par:∀x∈P,sc.names.lookup x=some .local\/sc.names.lookup x=some .cell
 nofree:∀y∈sc.names,y.2≠.free
theorem rn{kindOf x}:∀{binds m},(∀v,(x,v)∉binds)->bindL kindOf binds m x=m x
|[],_,_=>rfl|(n,v)::r,m,h=>by
 unfold bindL;rw[rn λw hw=>h w<|aog _ hw];split
 .have:x≠n:=by grind
  simp[this]
 .rfl
theorem rq{kindOf x}:∀{binds m},(∀v,(x,v)∉binds)->bindC kindOf binds m x=m x
|[],_,_=>rfl|(n,v)::r,m,h=>by
 unfold bindC;rw[rq λw hw=>h w<|aog _ hw];split;.rfl
 .have:x≠n:=by grind
  simp[this]
theorem ro{kindOf:Str->Option NameKind}{x:Str}{v:Value}:∀{P:List Str}{vs:List Value}{i:Nat}{m:Str->Option Value},P.Nodup->P[i]?=some x->vs[i]?=some v->kindOf x=some .local->bindL kindOf (P.zip vs) m x=some v|[],_,_,_,_,h,_,_=>by simp at h|_::_,[],_,_,_,_,h,_=>by simp at h|p::P,w::vs,0,m,nd,h1,h2,hk=>by simp at h1 h2;subst h1;subst h2;show bindL kindOf ((p,w)::P.zip vs) m p=_;unfold bindL;rw[rn λv a=>(aoN.mp nd).1 (art a).1,an4 hk];simp|p::P,w::vs,i+1,m,nd,h1,h2,hk=>by show bindL kindOf ((p,w)::P.zip vs) m x=_;unfold bindL;exact ro (i:=i) (aoN.mp nd).2 (by simpa using h1) (by simpa using h2) hk
theorem rx{kindOf x v}:∀{P:List Str}{vs}{i:Nat}{m},P.Nodup->P[i]?=some x->vs[i]?=some v->kindOf x≠some .local->bindC kindOf (P.zip vs) m x=some v|[],_,_,_,_,h,_,_=>by simp at h|_::_,[],_,_,_,_,h,_=>by simp at h|p::P,w::vs,0,m,nd,h1,h2,hk=>by simp at h1 h2;subst h1;subst h2;show bindC kindOf ((p,w)::P.zip vs) m p=_;unfold bindC;rw[rq λv a=>(aoN.mp nd).1 (art a).1,an5 hk];simp|p::P,w::vs,i+1,m,nd,h1,h2,hk=>by unfold bindC;exact rx (i:=i) (aoN.mp nd).2 (by simpa using h1) (by grind) hk
noncomputable def start(N:List Str)(vs:List V):St:=vs.map some++List.replicate (N.length-vs.length) none
noncomputable def iu(CX:CXT)(P:Program)(w:World)(K:W.Frag)(mg:Str->Option Value)(base:Heap)(N:List Str)(qual:Str)(scope:Scope)(f:Addr)(cd:Value)(A:Around)(outer:List Env)(s:Shared)(H:Hp)(E:XK):Cx where prog:=P;w:=w;K:=K;mg:=mg;base:=base;A:=A.deeper<|envOfC qual scope s.heap.objs.size f cd;N:=N;s₀:=s;H₀:=H;env:=envOfC qual scope s.heap.objs.size f cd;outer:=outer;stack:=envOfC qual scope s.heap.objs.size f cd::outer;ex:=[];calm:=A.handled.isNone;fn:=λ_=>true;pn:=[];xe:=λe s'=>wpAny (model P w) (A.deeper<|envOfC qual scope s.heap.objs.size f cd) (leaving (envOfC qual scope s.heap.objs.size f cd) e) (λ_ s''=>CX outer H s E e s'') (λe' s''=>CX outer H s E e' s'') s'
def vJ{a:Scope}{n x}(h:a.names.lookup x=some .cell):∃c,(cellsFrom n a.names []).lookup x=some c:=by exact ao2.mp<|W.cellsFrom_some _ n _<|.inl h
def aaf{CX P w K mg l N ps g scope f I A d s Q H E us vs}(S:FnScope N ps scope)(m:Env0 P w K mg l A d s H)(X:vs.length=ps.length)(r:Vals vs us)(x:InCallC s s.heap.objs.size (bindL (envOfC g scope s.heap.objs.size f I).kindOf (ps.zip us) λ_=>none) (cellsFrom (s.heap.objs.size+1) scope.names []) (bindC (envOfC g scope s.heap.objs.size f I).kindOf (ps.zip us) λ_=>none) Q):Inv (iu CX P w K mg l N g scope f I A d s H E) [] (start N vs) H Q:=by
 have R:ps.length<=N.length:=by have:=an8 List.length S.pre;rw[ap4]at this;omega
 refine eG x.done λG Y J O=>?_;subst J;have o:∀b:Addr,b ∉(iu CX P w K mg l N g scope f I A d s H E).ex:=λb z=>absurd (show b∈([]:List Addr)from z) (by simp);refine⟨⟨m.mod,S.kind,rfl,rfl,aob _,λy z c G j=>?_,λy t=>?_,λy c _ h=>?_,λz=>aq4.mp z,Around.frames_deeper m.frames,.inr ⟨rfl,rfl⟩,λb z=>absurd z<|o b,m.bs,m.bsz,λb _ _=>o b,λb z=>absurd z<|o b,m.nj,m.frf⟩,rfl,m.bare,Un.kept O,⟨_,x.toInCall.ns,λi y v G j Z=>?_⟩,λy c h=>⟨_,x.cell y c h⟩,m.hok.fresh<|aob _,λy c h=>?_,λp C=>absurd (show p∈([]:List (Addr×Obj))from C) (by simp),m.hok.kept O,?_⟩;.exact name_of_addr x.apart (aoM G) (aoM j)
 .rcases t with t|t;.exact vJ t
  .exact absurd rfl (S.nofree _<|aoM t)
 .exact ao9 (x.above y c<|aoM h)
 .have D:i<vs.length:=by
   unfold start at j;by_cases D:i<vs.length;.exact D
   .rw[apa (by simpa using D)]at j;rw[apU]at j;split at j<;>cases j
  have U:vs[i]?=some v:=by unfold start at j;rw[apt (by simpa using D),aoy]at j;cases e:vs[i]? with|none=>rw[e]at j;cases j|some a=>rw[e]at j;cases j;rfl
  refine gB (r.get U) λu M T=>?_;have C:ps[i]?=some y:=by rw[<-S.pre,List.getElem?_take_of_lt<|by omega];exact G
  have B:ps.Nodup:=by rw[<-S.pre];exact S.nd.sublist<|List.take_sublist _ _
  refine⟨u,T,?_⟩;rcases S.par y (aoS C)with k|k;.exact .inl ⟨k,ro B C M k⟩
  .obtain⟨c,e⟩:=vJ (n:=s.heap.objs.size+1) k;refine .inr ⟨.inl k,c,e,?_⟩;have q:=x.cell y c e;rw[rx B C M (by show scope.names.lookup y≠_;rw[k];decide)]at q;exact q
 .exact m.hok.fresh (ao9<|x.above y c<|aoM h)
 .unfold start;show _=N.length;rw[aoY,aos,ap2];omega
def ada{CX P w K mg g k f name c h body scope T kV C Y d ct oc an od M N ps sp}(lk:K.lookup f=some ⟨oc,od,.func<|W.fnOf name c h body scope T kV C Y an d ct,M⟩)(R:W.codeIn K d c=true)(S:FnScope N ps scope)(len:∀i H Q E,sp i H Q E->i.length=ps.length){Z}(p:∀A a s H i Q E,Room k (A.deeper<|envOfC c scope s.heap.objs.size f d)->Z A H->sp i H Q E->∃t,PSs (iu CX P w K mg g N c scope f d A a s H E) body t/\t {nx:=λ_ l=>Q .non l,rt:=Q} (start N i) H):FnOk P w K mg g CX (k+1) f (W.fnOf name c h body scope T kV C Y an d ct) ps sp Z:=by
 refine⟨len,λA a s H U us i Q E hr hN B hb r D=>?_⟩;have X:K.In s.heap:=B.mod.kin.keeps λb o e=>(B.bs b o e).1;have lim:s.heap.NoLimit:=B.mod.nolimit.keeps λb o e=>(B.bs b o e).1;have m:∀y∈ps.zip us,scope.names.lookup y.1=some .local\/scope.names.lookup y.1=some .cell/\((cellsFrom (s.heap.objs.size+1) scope.names []).lookup y.1).isSome=true:=λ⟨n,v⟩hy=>by
  rcases S.par n (art hy).1 with q|q;.exact .inl q
  .exact .inr ⟨q,W.cellsFrom_some _ _ _<|.inl q⟩
 refine codeAny_call_function hr.depth (X _ _ lk) rfl S.co S.gen rfl (W.codeRec_of X R)<|hb _ _ _ _ ?_;refine wpAny_newFunctionEnv_cells S.kind m λa0 he s1 x=>?_;subst he;refine⟨lim.keeps x.toInCall.keep,codeAny_func ?_⟩;refine gB (p A a s H i Q E (hr.deeper _) hN D) λt ht hq=>?_;have I:Inv (iu CX P w K mg g N c scope f d A a s H E) [] (start N i) H s1:=aaf S B (len _ _ _ _ D) r x;refine aoA (ht [] s1 (start N i) H _ I hq) (λfl O z=>?_) λe O z=>z;have fin:∀{j:St}{l:Hp}{v:V}{u:Value},Inv (iu CX P w K mg g N c scope f d A a s H E) [] j l O->RelV v u->Q v l->CE a P w H s Q u O:=λ{j l v u}J G q=>aki v l J.os J.bare J.base J.hok G q;cases fl with|ret u=>refine xQ z λv j l J G q=>?_;exact fin J G q|next=>obtain⟨j,l,J,q⟩:=z;exact fin (v:=V.non) (u:=Value.none) J rfl q|brk=>obtain⟨_,_,_,q⟩:=z;exact False.elim q|cont=>obtain⟨_,_,_,q⟩:=z;exact False.elim q
section
variable{X:Cx}{x:Str}{p pos:Pos}{e:Expr}{es:List Expr}{t:TA}{id T:String}{r:List V->Hp->VK->Prop}
def tCB(r:List V->Hp->VK->Prop)(t:TA):TE:=λc H Q=>t c H λa b=>r a b Q
def u5(m:bC X (.builtin id) r)(i:Gl X x)(o:X.mg x=none)(n:bootBuiltins x=some (.builtin id))(g:PA X (e::es) t)(f:x≠"__name__":=by decide)(b:Dbg x:=by decide)(j:SE X e es:=by rfl)(a:BT X pos es:=by rfl):PE X (.Call (.Name x p) (e::es) [] pos) (tCB r t):=by intro c s d H Q I h;exact apB (g0 I i o n (aqz (thn (g _ _ s d H _ I h) λu v⟨w,y,k,l,q⟩=>m _ _ d _ _ _ Q k l q) j a) f b)
def qq(m:bC X (.type T) r)(i:Gl X x)(o:X.mg x=none)(n:bootBuiltins x=some (.type T))(g:PA X (e::es) t)(f:x≠"__name__":=by decide)(b:Dbg x:=by decide)(j:SE X e es:=by rfl)(a:BT X pos es:=by rfl):PE X (.Call (.Name x p) (e::es) [] pos) (tCB r t):=by intro c s d H Q I h;exact apB (g0 I i o n (aoW (thn (g _ _ s d H _ I h) λu v⟨w,y,k,l,q⟩=>m _ _ d _ _ _ Q k l q) j a) f b)
end
end L2
namespace HT
open PySem PyProof.Rows
section
open PySem.SeqAt
open PySem.AutoSeq1(wpAny_loadPart')
open PySem.MeetsSeq PySem.MeetsSeq2 PySem.MeetsSeq3
end
section
variable{prog:Program}{w:World}{A:Around}{E:Value->Shared->Prop}{s:Shared}
def agg{t b:Addr}{vs ws:List Value}{Q:Value->Shared->Prop}(ht:IsTup s.heap t vs.toArray)(q:IsTup s.heap b ws.toArray)(l:vs≠[])(p:ws=[]->Q (.ref t) s)(r:ws≠[]->Q (.ref s.heap.objs.size) {s with heap:=s.heap.push {cls:=.type "tuple",data:=.seq (vs++ws).toArray}})(hsz:vs.length+ws.length<=sizeLine):wpAny (model prog w) A (binaryOp .Add (.ref t)<|.ref b) Q E s:=by
 obtain⟨⟨cls,dd,data,m⟩,h,k,n,i⟩:=id ht;obtain⟨⟨j,g,data2,c⟩,a,d,o,f⟩:=id q;simp only at k i d f;subst k i d f;have e:vs.toArray++ws.toArray=(vs++ws).toArray:=by simp
 by_cases hw:ws=[];.exact ard ⟨_,h,rfl⟩ ⟨_,a,rfl⟩ arf seq_tuple_add aqs aqn (aqh _ _) (tuple_addW1 t b vs.toArray ws.toArray n o dd g m c (by simpa using l)<|by simp[hw]) ⟨h,a,p hw⟩
 .refine ard ⟨_,h,rfl⟩ ⟨_,a,rfl⟩ arf seq_tuple_add aqs aqn (aqh _ _) (tuple_addW2 t b vs.toArray ws.toArray n o dd g m c (by simpa using l) (by simpa using hw)<|by rw[aoQ,aoQ];exact hsz) ⟨h,a,?_⟩;rw[e];exact r hw
noncomputable def sIx(n d:Nat):Option Int->Nat|none=>d|some v=>if v<0 then(v+(n:Int)).toNat else min v.toNat n
def ahp(n d)(b:d<=n)(o):sIx n d o<=n:=by cases o with|none=>exact b|some v=>
 show(if v<0 then(v+n).toNat else min _ n)<=n;by_cases a:v<0;.rw[an4 a];omega
 .rw[an5 a];exact ap5 _ _
def aa3(v)(n d:Nat):(if v<0 then max (v+(n:Int)) 0 else min v n)=(sIx n d (some v):Nat):=by
 show(if v<0 then max _ 0 else min v n)=if v<0 then(v+n).toNat else min _ n;by_cases a:v<0;.simp only[an4 a];omega
 .simp [an5 a];omega
def xO(lo a)(n:Nat):Builtin.Slice.sliceAdjust lo a 1 n=((sIx n 0 lo:Int),(sIx n n a:Int)):=by
 refine Prod.ext ?_ ?_;.cases lo with|none=>rfl|some v=>exact aa3 v n 0
 .cases a with|none=>rfl|some v=>exact aa3 v n n
def wI(i j:Nat):Builtin.Slice.slicePlaces (i:Int) (j:Int) 1=j-i:=by
 unfold Builtin.Slice.slicePlaces;have a:(1:Int)>0:=by omega
 simp only[a,aqa,Int.ediv_one];split<;>omega
def mZ{v o Q}(p:IsPart v o)(h:Q o s):wpAny (model prog w) A (Builtin.Slice.slicePartIndex v) Q E s:=by cases p with|none=>exact slicePart_none h|int i t=>exact slicePart_int h
def j5{sl e d lo c n}{Q:Int×Int×Nat->Shared->Prop}(hs:s.heap.IsSliceOf sl e d .none)(pl:IsPart e lo)(f:IsPart d c)(h:Q ((sIx n 0 lo:Nat),1,sIx n n c-sIx n 0 lo) s):wpAny (model prog w) A (Builtin.Slice.sliceApplied (.ref sl)<|pure n) Q E s:=by refine ix (id hs) λos a g b=>?_;refine anY<|anY<|aoB a b (x:=e) rfl<|anY<|aoB a b (x:=d) rfl<|anY<|aoB a b rfl<|an0 ?_;refine anY<|slicePart_none ?_;refine anY<|mZ pl<|anY<|mZ f<|anY<|an0 ?_;show wpAny _ _ (match Builtin.Slice.sliceAdjust lo c 1 (n:Int)with|(lo,c)=>pure (lo,(1:Int),Builtin.Slice.slicePlaces lo c 1)) _ _ s;rw[xO lo c n];show wpAny _ _ (pure _) _ _ s;rw[wI];exact an0 h
def ace(xs:Array Value)(i k:Nat):((List.range k).filterMap λ(m:Nat)=>xs[((i:Int)+(m:Int)*1).toNat]?).toArray=((xs.toList.drop i).take k).toArray:=by
 have e:(λ(m:Nat)=>xs[((i:Int)+(m:Int)*1).toNat]?)=λm=>xs[i+m]?:=by
  funext m;have:((i:Int)+(m:Int)*1).toNat=i+m:=by omega
  rw[this]
 rw[e];have:=pick_run xs i k;rw[List.filterMap_map]at this;have a:((λx=>xs[x]?)∘λx=>i+x)=λm=>xs[i+m]?:=rfl;rw[a]at this;rw[this]
def js{t sl items g i lo a Q}(ht:IsTup s.heap t items)(hs:s.heap.IsSliceOf sl g i .none)(pl:IsPart g lo)(j:IsPart i a)(hw:¬(sIx items.size 0 lo=0/\sIx items.size items.size a=items.size))(h:Q (.ref s.heap.objs.size) {s with heap:=s.heap.push {cls:=.type "tuple",data:=.seq ((items.toList.drop<|sIx items.size 0 lo).take<|sIx items.size items.size a-sIx items.size 0 lo).toArray}})(hsz:items.size<=sizeLine):wpAny (model prog w) A (getItem (.ref t)<|.ref sl) Q E s:=by
 have b:sizeOk (.seq ((items.toList.drop<|sIx items.size 0 lo).take<|sIx items.size items.size a-sIx items.size 0 lo).toArray):=by show((items.toList.drop<|sIx items.size 0 lo).take<|sIx items.size items.size a-sIx items.size 0 lo).toArray.size<=sizeLine;rw[aoQ,ap4,arh,aqb];omega
 have l:sIx items.size items.size a<=items.size:=ahp _ _ (aob _) a;refine ix (id hs) λos c d k=>?_;have e:s.TypeIs (.ref sl) "slice":=⟨os,c,d⟩;unfold getItem;try with_reducible refine aoV ?_
 first|refine anY<|an0 ?_|skip
 refine anY (wpAny_sequenceKey ht.typeIs (by decide) ?_);refine anY<|ao5 (name:=Str.ofString "__getitem__") ht.typeIs apT<|apn apT ht.typeIs entry_tuple_getitem ?_<|args_tuple_getitem _ _;show wpAny _ _ (Builtin.Tuple.tupleItemsOf (.ref t)>>=_) _ _ s;refine anY<|tupleItemsOf_ ht ?_;refine anY<|wpAny_typeOf e ?_;rw[an4 (by decide)];refine anY<|j5 hs pl j ?_;have f:¬(((sIx items.size 0 lo:Nat):Int)==0&&(1:Int)==1&&sIx items.size items.size a-sIx items.size 0 lo==items.size)=true:=by grind
 show wpAny _ _ (if(((sIx items.size 0 lo:Nat):Int)==0&&(1:Int)==1&&sIx items.size items.size a-sIx items.size 0 lo==items.size)=true then _ else _) _ _ s;rw[an5 f,ace];exact anY (m:=Builtin.Tuple.tupleExact _)<|aqo (an0 ⟨_,rfl,an0 h⟩) b
end
end HT
namespace L2
open PySem PySem.Spec PyProof.Rows
abbrev TO:=St->Hp->(Option Int->Hp->Prop)->Prop
def PO(X:Cx)(e:Option Expr)(t:TO):Prop:=∀(a:List (Addr×Obj))(s:Shared)(b:St)(H:Hp)(Q:Option Int->Hp->Prop),Inv X a b H s->t b H Q->wpAny (model X.prog X.w) X.A (evalPart e X.env) (λu d=>∃o c,Inv X a b c d/\IsPart u o/\Q o c) X.xe s
def aeS:TO:=λ_ H Q=>Q none H
def akx(t:TE):TO:=λb H Q=>t b H λx a=>∃i,x=.int i/\Q (some i) a
section
variable{X:Cx}{e:Expr}{te:TE}{lo hi:Option Expr}{tl th:TO}{pos p2:Pos}
def afo:PO X none aeS:=by intro a s b H Q I h;exact an0 ⟨_,H,I,.none,h⟩
def afn(h:PE X e te):PO X (some e) (akx te):=by intro a s f H Q I hw;refine thn (h _ s f H _ I hw) λu j⟨x,d,b,c,g⟩=>?_;obtain⟨i,rfl,q⟩:=g;obtain⟨t,rfl⟩:=c;exact⟨_,d,b,.int i t,q⟩
def SlR(X:Cx)(r:V->Option Int->Option Int->Hp->VK->Prop):Prop:=∀(a:List (Addr×Obj))(s:Shared)(f:St)(H:Hp)(x:V)(v d b:Value)(lo hi:Option Int)(c:Addr)(Q:VK),Inv X a f H s->RelV x v->s.heap.IsSliceOf c d b .none->IsPart d lo->IsPart b hi->r x lo hi H Q->∃T id,typeLookup (.type T) "__getitem__"=pure (some<|.builtin id)/\s.TypeIs v T/\wpAny (model X.prog X.w) X.A (getItem v<|.ref c) (EP X a f Q) X.xe s
def SlR.or{r d}(h:SlR X r)(h':SlR X d):SlR X λx lo hi H Q=>r x lo hi H Q\/d x lo hi H Q:=by
 intro b s g H x v i j lo hi k Q I f a pl c q;rcases q with q|q;.exact h _ s g H x v _ _ _ _ _ Q I f a pl c q
 .exact h' _ s g H x v _ _ _ _ _ Q I f a pl c q
def tSl(r:V->Option Int->Option Int->Hp->VK->Prop)(te:TE)(tl th:TO):TE:=λa H Q=>te a H λx d=>tl a d λl c=>th a c λu b=>r x l u b Q
def ach{r}(K:SlR X r)(D:PE X e te)(m:PO X lo tl)(j:PO X hi th):PE X (.Subscript e (.Slice lo hi none p2) pos) (tSl r te tl th):=by intro a s c H Q I h;refine Subscript_ (thn (D a s c H _ I h) λv G⟨x,y,E,o,M⟩=>wpAny_Slice<|thn (m a G c y _ E M) λg w⟨l,A,z,pl,p⟩=>thn (j a w c A _ z p) λi d⟨u,f,t,n,B⟩=>an0 ?_);have C:Inv X a c f {d with heap:=d.heap.push {cls:=.type "slice",data:=.fields #[g,i,.none]}}:=t.kept λb ob q=>anZ _ q;refine ke (K a _ c f x v g i l u d.heap.objs.size Q C o (Heap.IsSliceOf.new ..) pl n B) λT id J ht k=>?_;exact tail_any ht J k<|rfl
def agx(xs:List V)(lo hi:Option Int):List V:=(xs.drop<|HT.sIx xs.length 0 lo).take<|HT.sIx xs.length xs.length hi-HT.sIx xs.length 0 lo
def l7(xs)(lo hi):(agx xs lo hi).length<=xs.length:=by unfold agx;rw[ap4,arh];omega
def anJ(K:W.Frag):V->Option Int->Option Int->Hp->VK->Prop:=λx lo hi H Q=>∃a b,x=.ref a/\SqT K H a b/\¬(HT.sIx b.length 0 lo=0/\HT.sIx b.length b.length hi=b.length)/\∀p,H p=none->Q (.ref p) (upd H p<|.tup<|agx b lo hi)
def ahk:SlR X (anJ X.K):=by
 intro g s u H x v o p lo hi t Q I l j pl k h;refine xR h λa i d m hw q=>?_;subst d;cases l;refine ix (I.tuple m) λf r ht n=>?_;have c:f.toArray.size=i.length:=by rw[aoQ];exact r.length.symm
 refine i5 "tuple" _ apT.lookup ht.typeIs ?_;refine HT.js ht j pl k (by grind) ?_ (by omega);rw[c];refine(i5 (.ref s.heap.objs.size) _ (I.laid (t':=s.toks) (λb ob q=>anZ _ q) (aob _) ?_) rfl<|q _<|I.hok.fresh<|aob _);exact⟨aoh (l7 i lo hi) n,_,(r.drop _).take _,IsTup.new _ _⟩
def ak1(K:W.Frag):R2:=λx y H Q=>∃a b d c,x=.ref a/\y=.ref b/\SqT K H a d/\SqT K H b c/\d≠[]/\d.length+c.length<=sizeLine/\(c=[]->Q (.ref a) H)/\(c≠[]->∀p,H p=none->Q (.ref p) (upd H p<|.tup<|d++c))
def Vals.sJ{xs us}(r:Vals xs us):us=[]↔ xs=[]:=by cases r with|nil|cons _ _=>simp
def afy:OpR X (binaryOp .Add) (ak1 X.K):=by intro i s D H x y v u Q I p k h;obtain⟨a,b,A,n,rfl,rfl,m,B,r,g,C,j⟩:=h;cases p;cases k;obtain⟨t,d,l,_⟩:=I.tuple m;obtain⟨f,c,p2,_⟩:=I.tuple B;refine HT.agg l p2 (λz=>r<|d.sJ.mp z) (λz=>⟨.ref a,H,I,rfl,C<|c.sJ.mp z⟩) (λz=>?_) (by rw[<-d.length,<-c.length];exact g);refine⟨.ref s.heap.objs.size,_,I.laid (t':=s.toks) (o:=.tup<|A++n) (λb ob q=>anZ _ q) (aob _) ?_,rfl,j (λw=>z<|c.sJ.mpr w) _<|I.hok.fresh<|aob _⟩;exact⟨by rw[aoY];exact g,_,d.append c,IsTup.new _ _⟩
end
noncomputable def ixN(n:Nat)(i:Int):Option Nat:=if 0<=i then if i<n then some i.toNat else none else if -(n:Int)<=i then some (i+n).toNat else none
def atI{a:Type}(xs:List a)(i:Int):Option a:=(ixN xs.length i).bind λj=>xs[j]?
def aac{n i j}(h:ixN n i=some j):seqIndex? i n=some j/\j<n/\-n<=i/\i<n:=by
 unfold ixN at h;by_cases b:0<=i
 .rw[an4 b]at h;by_cases a:i<n;.rw[an4 a]at h;have e:=aow h;exact⟨by rw[seqIndex_of b a,e],by omega,by omega,a⟩
  .rw[an5 a]at h;cases h
 .rw[an5 b]at h;by_cases a:-(n:Int)<=i;.rw[an4 a]at h;have e:=aow h;exact⟨by rw[seqIndex_neg (by omega) a,e],by omega,a,by omega⟩
  .rw[an5 a]at h;cases h
def abi{d xs i}{v:d}(h:atI xs i=some v):∃j,seqIndex? i xs.length=some j/\xs[j]?=some v/\j<xs.length/\-xs.length<=i/\i<xs.length:=by unfold atI at h;cases e:ixN xs.length i with|none=>rw[e]at h;cases h|some j=>rw[e]at h;refine akf (aac e) λa f b c=>?_;exact⟨j,a,h,f,b,c⟩
def jI(b:Expr):Prop:=∀o i,subscripted b false o i=operate [o,i] (getItem o i)
def IxR(X:Cx)(r:R2):Prop:=∀(c a:Expr)(b:List (Addr×Obj))(s:Shared)(d:St)(H:Hp)(x y:V)(v u:Value)(Q:VK),Inv X b d H s->RelV x v->RelV y u->r x y H Q->subscripted a false v u=operate [v,u] (getItem v u)->wpAny (model X.prog X.w) X.A (subscriptTail c a v u) (EP X b d Q) X.xe s
def MtR(X:Cx)(id:String)(r:V->List V->Hp->VK->Prop):Prop:=∀(a:List (Addr×Obj))(s:Shared)(c:St)(H:Hp)(x:V)(d:List V)(v:Value)(b:List Value)(Q:VK),Inv X a c H s->RelV x v->Vals d b->r x d H Q->wpAny (model X.prog X.w) X.A (call (.builtin id) (v::b)) (EP X a c Q) X.xe s
section
variable{X:Cx}{a b:Expr}{ta tb:TE}{pos:Pos}
def IxR.or{r g}(h:IxR X r)(h':IxR X g):IxR X λx y H Q=>r x y H Q\/g x y H Q:=by
 intro c d f s k H x y v u Q I i j q e;rcases q with q|q;.exact h _ _ _ s k H x y v u Q I i j q e
 .exact h' _ _ _ s k H x y v u Q I i j q e
def MtR.or{id:String}{r g:V->List V->Hp->VK->Prop}(h:MtR X id r)(h':MtR X id g):MtR X id λx d H Q=>r x d H Q\/g x d H Q:=by
 intro c s f H x d v e Q I i rs q;rcases q with q|q;.exact h c s f H x d v e Q I i rs q
 .exact h' c s f H x d v e Q I i rs q
def ahV{r}(g:IxR X r)(d:PE X a ta)(f:PE X b tb)(hs:jI b):PE X (.Subscript a b pos) (tOp r ta tb):=by intro c s j H Q I h;exact Subscript_ (ama d f I h λv u m x y l k e i q=>g a b _ _ j _ x y v u Q k e i q<|hs _ _)
def amM(K:W.Frag):R2:=λx y H Q=>∃p c i v,x=.ref p/\y=.int i/\SqL K H p c/\atI c i=some v/\Q v H
def amL(K:W.Frag):R2:=λx y H Q=>∃p c i v,x=.ref p/\y=.int i/\SqT K H p c/\atI c i=some v/\Q v H
def anL:R2:=λx y H Q=>∃z i c,x=.str z/\y=.int i/\z.length<=sizeLine/\atI z.cps.toList i=some c/\Q (.str ⟨#[c]⟩) H
def afS:IxR X (amM X.K):=by
 intro f l c s A H x y v u Q I M G h n;obtain⟨p,S,i,z,rfl,rfl,D,J,q⟩:=h;cases M;obtain⟨t,rfl⟩:=G;obtain⟨g,r,pl,P⟩:=I.list D;obtain⟨j,d,N,O,K,C⟩:=abi J;obtain⟨w,m,k⟩:=r.get N;have B:=r.length;have R:=vl;have fin:EP X c A Q w s:=⟨z,H,I,k,q⟩;by_cases o:0<=i
 .have e:i.toNat=j:=by rw[seqIndex_of o C]at d;exact aow d
  exact item_listR pl.isList o (by omega) (by rw[e];simpa using m) fin n
 .have e:(i+(g.toArray.size:Int)).toNat=j:=by rw[seqIndex_neg (by omega) K]at d;rw[aoQ,<-B];exact aow d
  exact subscriptTail_builtinR (x:=w) pl.isList.typeIs slot_list_getitem.lookup (wpAny_getItem_list_neg (Q:=λr E=>r=w/\EP X c A Q r E) pl.isList (by omega) (by rw[aoQ]<;>omega) (by omega) (by rw[e];simpa using m) ⟨rfl,fin⟩) n
def aiF:IxR X (amL X.K):=by intro c e f s O H x y v u Q I n l h g;obtain⟨p,N,i,z,rfl,rfl,k,m,q⟩:=h;cases n;obtain⟨t,rfl⟩:=l;obtain⟨o,r,pl,J⟩:=I.tuple k;obtain⟨j,E,A,G,M,D⟩:=abi m;obtain⟨w,B,d⟩:=r.get A;have C:=r.length;have K:=vl;exact subscriptTail_builtinR pl.typeIs slot_tuple_getitem.lookup (getItem_tuple (j:=j) pl (by omega) (by omega) (by grind) (by grind) ⟨rfl,⟨z,H,I,d,q⟩⟩) g
def rIx(K:W.Frag):R2:=λx y H Q=>amM K x y H Q\/amL K x y H Q\/anL x y H Q
def wZ(c:List Value)(n j:Nat)(u:Value):Obj.mapSeq (·.setIfInBounds j u) {cls:=.type "list",data:=.seq c.toArray n}={cls:=.type "list",data:=.seq (c.set j u).toArray n}:=by simp[Obj.mapSeq]
theorem Inv.lst{pins:List (Addr×Obj)}{σ:St}{H:Hp}{s:Shared}{p:Addr}{xs:List V}(I:Inv X pins σ H s)(h:H p=some (.lst xs)):∃(c:List Value)(n:Nat),Vals xs c/\s.heap.get? p=some {cls:=.type "list",data:=.seq c.toArray n}/\xs.length<=sizeLine:=by obtain⟨z,c,n,r,e⟩:=I.hok p _ h;exact⟨c,n,r,e,z⟩
def Inv.aim{pins:List (Addr×Obj)}{σ:St}{H:Hp}{s:Shared}{p:Addr}{xs ys:List V}{c its':List Value}{n d:Nat}{f:Obj->Obj}(I:Inv X pins σ H s)(h:H p=some (.lst xs))(i:s.heap.get? p=some {cls:=.type "list",data:=.seq c.toArray n})(g:f {cls:=.type "list",data:=.seq c.toArray n}={cls:=.type "list",data:=.seq its'.toArray d})(r:Vals ys its')(hz:ys.length<=sizeLine)(t:Nat):Inv X pins σ (upd H p<|.lst ys) {s with heap:=s.heap.update p f,toks:=t}:=by
 have e:(s.heap.update p f).get? p=some {cls:=.type "list",data:=.seq its'.toArray d}:=by rw[apd f i (by rw[g]<;>rfl),g]
 refine I.write (x:=p) (e:=p) (by rw[h];trivial) (.inl rfl) (λb u j q=>(aoT _ _<|aom j).trans q) ⟨_,e⟩ ?_;exact⟨hz,its',d,r,e⟩
def ak0:V->V->V->Hp->(Hp->Prop)->Prop:=λo i v H Q=>∃p c k j,o=.ref p/\i=.int k/\H p=some (.lst c)/\ixN c.length k=some j/\Q (upd H p<|.lst<|c.set j v)
def set_list:anm X ak0:=by
 intro c s J H o i v M K u Q I G A B h;obtain⟨p,E,k,j,rfl,rfl,z,C,q⟩:=h;cases G;obtain⟨t,rfl⟩:=A;obtain⟨d,n,r,l,D⟩:=I.lst z;obtain⟨e,O,m,x⟩:=aac C;have f:=r.length;have N:=vl;have w:Inv X c J (upd H p<|.lst<|E.set j v) {s with heap:=s.heap.update p (Obj.mapSeq (·.setIfInBounds j u))}:=I.aim z l (wZ d n j u) (r.set B j) (by rw[List.length_set];exact D) s.toks;by_cases y:0<=k
 .have g:k.toNat=j:=by rw[seqIndex_of y x]at e;exact aow e
  exact W.ki_setAt l y (by omega) (by rw[aoQ,<-f];exact x) (by rw[g];exact⟨_,w,q⟩)
 .have g:(k+(d.toArray.size:Int)).toNat=j:=by rw[seqIndex_neg (by omega) m]at e;rw[aoQ,<-f];exact aow e
  exact W.ki_setBack l (by omega) (by rw[aoQ,<-f];exact m) (by omega) (by rw[g];exact⟨_,w,q⟩)
def qd(lo c)(n):(sliceBounds lo c none n).1=(HT.sIx n 0 lo:Nat)/\(sliceBounds lo c none n).2.1=(HT.sIx n n c:Nat)/\(sliceBounds lo c none n).2.2=1:=by
 refine⟨?_,?_,rfl⟩;.cases lo with|none=>simp[sliceBounds,HT.sIx]|some i=>
  simp only[sliceBounds,HT.sIx,Option.getD_none,show(1:Int)>0 by decide,aqa];by_cases h:i<0;.simp only[h,aqa]<;>omega
  .simp only[h,apy]<;>omega
 .cases c with|none=>simp[sliceBounds,HT.sIx]|some i=>
  simp only[sliceBounds,HT.sIx,Option.getD_none,show(1:Int)>0 by decide,aqa];by_cases h:i<0;.simp only[h,aqa]<;>omega
  .simp only[h,apy]<;>omega
def n6(c:List Value)(lo d):slicePick c.toArray lo d none=((c.drop<|HT.sIx c.length 0 lo).take<|HT.sIx c.length c.length d-HT.sIx c.length 0 lo).toArray:=by obtain⟨e,f,g⟩:=qd _ _ _;unfold slicePick;rw[e,f,g];simp only[sliceRange_one,pick_run,aoQ]
def anK(K:W.Frag):V->Option Int->Option Int->Hp->VK->Prop:=λx lo d H Q=>∃a c,x=.ref a/\SqL K H a c/\∀p,H p=none->Q (.ref p) (upd H p<|.lst<|agx c lo d)
def aeY:SlR X (anK X.K):=by intro e s u H x v o p lo f t Q I j g pl i h;refine ke h λa m d k q=>?_;subst d;cases j;refine ix (I.list k) λl r ht n=>?_;have c:=r.length;refine i5 "list" _ slot_list_getitem.lookup ht.isList.typeIs (wpAny_getItem_list_slice ht.isList g pl i .none (by simp) ?_<|by grind);rw[n6,<-c];refine i5 (.ref s.heap.objs.size) _ (I.laid (λb ob q=>anZ _ q) (aob _) ?_) rfl<|q _<|I.hok.fresh<|aob _;exact⟨aoh (l7 m lo f) n,_,0,(r.drop _).take _,aoj _ rfl⟩
def rh:bC X (.builtin "len") λk H Q=>∃p c,k=[.ref p]/\(SqL X.K H p c\/SqT X.K H p c)/\Q (.int c.length) H:=by
 intro j s t H k o Q I r h;refine ke h λp c f d q=>?_;subst f;obtain⟨u,rfl,l⟩:=vals1 r;cases l;have n:=vl;rcases d with d|d;.obtain⟨i,g,pl,m⟩:=I.list d;have e:=g.length;exact Calls.call_len_list pl.isList (by grind) ⟨.int c.length,H,I.tok _,⟨s.toks+1,by grind⟩,q⟩
 .obtain⟨i,g,pl,m⟩:=I.tuple d;have e:=g.length;exact len_tuple pl (by grind) ⟨.int c.length,H,I.tok _,⟨s.toks+1,by grind⟩,q⟩
def bC.or{f r g}(h:bC X f r)(h':bC X f g):bC X f λc H Q=>r c H Q\/g c H Q:=by
 intro e s d H c i Q I rs q;rcases q with q|q;.exact h _ s d H _ _ Q I rs q
 .exact h' _ s d H _ _ Q I rs q
def pe:bC X (.type "tuple") λk H Q=>∃p c,k=[.ref p]/\((SqL X.K H p c/\∀l,H l=none->Q (.ref l) (upd H l<|.tup c))\/SqT X.K H p c/\Q (.ref p) H):=by
 intro j s z H k x Q I r h;obtain⟨p,c,rfl,h⟩:=h;obtain⟨u,rfl,v⟩:=vals1 r;cases v;rcases h with⟨g,q⟩|⟨g,q⟩;.obtain⟨d,f,pl,n⟩:=I.list g;have m:=f.length;refine call_tuple_list pl.isList (λy t=>?_) (by grind);have i:=I.kept (t':=s.toks) t;have w:=i.laid (t':=s.toks) (λb o e=>anZ _ e) (aob _) (show cQ _ X.w _ _ _ (.tup c)from⟨n,d,f,IsTup.new _ _⟩);exact i5 (.ref _) _ w rfl<|q _<|i.hok.fresh<|aob _
 .obtain⟨d,f,pl,n⟩:=I.tuple g;exact call_tuple_same pl<|i5 (.ref p) H I rfl q
def tyV(K:W.Frag)(T:String)(x:V)(H:Hp):Prop:=match x with|.str _=>T="str"|.int _=>T="int"|.ref p=>(T="list"/\∃d,SqL K H p d)\/(T="tuple"/\∃o,K.lookup p=some o/\o.cls=.type "tuple"/\o.dict=none)\/T="dict"/\((∃c,H p=some (.dK c))\/∃c,H p=some (.dT c))\/T="set"/\∃S n,H p=some (.set S n)|_=>False
def ag3{pins}{σ:St}{H s T x v}(I:Inv X pins σ H s)(r:RelV x v)(ty:tyV X.K T x H):
 s.TypeIs v T/\∀a,v=.ref a->∃ob,s.heap.get? a=some ob/\ob.dict=none:=by cases x with|str z=>obtain⟨t,rfl⟩:=r;cases show T="str"from ty;exact⟨typeIs_str s z t,λ_ e=>nomatch e⟩|int i=>obtain⟨t,rfl⟩:=r;cases show T="int"from ty;exact⟨typeIs_int s i t,λ_ e=>nomatch e⟩|ref p=>
  cases r;rcases ty with⟨rfl,m,k⟩|⟨rfl,o,d,l,f⟩|⟨rfl,d⟩|⟨rfl,S,n,d⟩;.obtain⟨j,_,pl,_⟩:=I.list k;refine⟨pl.isList.typeIs,λa e=>?_⟩;cases e;obtain⟨o,n,e,c,f,_⟩:=pl;exact⟨o,e,f⟩
  .refine⟨⟨o,I.kIn p o d,l⟩,λa e=>?_⟩;cases e;exact⟨o,I.kIn _ o d,f⟩
  .have z:∃o,s.heap.get? p=some o/\o.ExactDict:=by
    rcases d with⟨h,d⟩|⟨h,d⟩;.obtain⟨_,_,_,_,o,_,_,e,ex,_⟩:=I.hok p _ d;exact⟨o,e,ex⟩
    .obtain⟨_,_,_,_,o,_,_,e,ex,_⟩:=I.hok p _ d;exact⟨o,e,ex⟩
   obtain⟨o,e,ex⟩:=z;refine⟨⟨o,e,ex.1⟩,λa g=>?_⟩;cases g;exact⟨o,e,ex.2.1⟩
  .obtain⟨o,_,_,_,e,ex,_⟩:=I.hok p _ d;refine⟨⟨o,e,ex.1⟩,λa g=>?_⟩;cases g;exact⟨o,e,ex.2.1⟩|_=>exact False.elim ty
def tBM(K:W.Frag)(T:String)(r:V->List V->Hp->VK->Prop)(e:TE)(t:TA):TE:=λd H Q=>e d H λx c=>tyV K T x c/\t d c λg f=>r x g f Q
variable{o e:Expr}{es:List Expr}{to:TE}{t:TA}{name:Str}{apos cpos:Pos}{T id:String}{r:V->List V->Hp->VK->Prop}
def mr(y:PlainAttrs T)(i:Slot T name id)(k:typeOf (.builtin id)=pure (.type "method_descriptor"))(M:MtR X id r)(z:PE X o to)(u:PA X (e::es) t)(f:attributeBase o name X.env (eval o X.env)=eval o X.env:=by rfl)(j:((backTo cpos<|starEach (e::es) X.env).all (λx=>!x.1)&&(backToKw cpos<|keywordEach [] X.env).all (λx=>x.1.isSome)&&decide ((e::es).length+([]:List Keyword).length+(if([]:List Keyword).isEmpty then 0 else 1)<30))=true:=by rfl)(g:(apos.endLine==cpos.line)=true:=by rfl)(hs:SE X e es:=by rfl)(d:BT X cpos es:=by rfl):PE X (.Call (.Attribute o name apos) (e::es) [] cpos) (tBM X.K T r to t):=by intro c s l H Q I h;refine wpAny_Call_method_late f j g rfl (thn (z c s l H _ I h) λv w⟨x,J,m,n,ty,O⟩=>?_);obtain⟨C,N⟩:=ag3 m n ty;refine⟨T,id,y,i,k,C,N,?_⟩;have p:=u cpos c w l J _ m O;rw[hs]at p⊢;refine Calls.callWith_builtin (by show(false||(backTo cpos<|starEach es X.env).any (·.1))=false;rw[d]<;>rfl)<|aqA ?_;exact thn p λq E⟨A,D,K,G,B⟩=>M c E l D x A v q Q K n G B
end
def MtM(X:Cx)(id:String)(r:V->List V->Hp->VK->Prop):Prop:=∀(a:List (Addr×Obj))(s:Shared)(c:St)(H:Hp)(x:V)(d:List V)(v:Value)(b:List Value)(Q:VK),Inv X a c H s->RelV x v->Vals d b->r x d H Q->wpAny (model X.prog X.w) X.A (call (.builtin id) (v::b)) (EP X a c Q) X.xe s
def Vals.one:∀{x us},Vals [x] us->∃u,us=[u]/\RelV x u|_,_,.cons r .nil=>⟨_,rfl,r⟩
section
variable{X:Cx}{pins:List (Addr×Obj)}{σ:St}{H:Hp}{s:Shared}{l:Addr}{xs ys:List V}
def Inv.amZ{a its':List Value}{n f t'}(I:Inv X pins σ H s)(i:H l=some (.lst xs))(e:s.heap.get? l=some {cls:=.type "list",data:=.seq a.toArray n})(d:f a.toArray=its'.toArray)(h:Vals ys its')(hz:ys.length<=sizeLine):Inv X pins σ (upd H l<|.lst ys) {s with heap:=s.heap.update l<|Obj.mapSeq f,toks:=t'}:=by have q:=PySem.IsL.update e f;rw[d]at q;refine I.write (by rw[i];exact trivial) (.inl rfl) (λj u g c=>(aoT _ _<|aom g).trans c) ⟨_,q⟩ ?_;exact⟨hz,_,_,h,q⟩
def Inv.anP{a t'}(I:Inv X pins σ H s)(c:Vals ys a)(hz:ys.length<=sizeLine):Inv X pins σ (upd H s.heap.objs.size<|.lst ys) {s with heap:=s.heap.push {cls:=.type "list",data:=.seq a.toArray},toks:=t'}:=I.laid (λ_ _ q=>anZ _ q) (aob _) ⟨hz,_,0,c,aoj _ rfl⟩
theorem Inv.fresh(I:Inv X pins σ H s):H s.heap.objs.size=none:=I.hok.fresh<|aob _
def Inv.amY(I:Inv X pins σ H s)(c:H l=some (.lst xs)):xs.length<=sizeLine/\∃a n,Vals xs a/\xs.length=a.length/\s.heap.get? l=some {cls:=.type "list",data:=.seq a.toArray n}:=by obtain⟨z,a,n,r,e⟩:=I.hok l _ c;exact⟨z,_,n,r,r.length,e⟩
def acy{n:Nat}(h:n<=sizeLine):Builtin.List.listTooLong n=false:=by unfold Builtin.List.listTooLong;exact aoq (by omega)
end
section
variable{X:Cx}
def r0:V->List V->Hp->VK->Prop:=λx b H Q=>∃l a y,x=.ref l/\b=[y]/\H l=some (.lst a)/\a.length<sizeLine/\Q .non (upd H l<|.lst<|a++[y])
def et:MtM X "list.append" r0:=by intro c s t H x p v k Q I i g h;refine ajk h λl o y b a d w q=>?_;subst b a;cases i;obtain⟨u,rfl,f⟩:=g.one;obtain⟨z,j,n,r,m,e⟩:=I.amY d;refine arF F.slot_list_append ⟨_,e,rfl⟩ F.entry_list_append (F.args_list_append_2 _ _) (PySem.list_append l _ n u<|by grind) ⟨e,.non,_,I.amZ d e (by simp) (r.append<|.cons f .nil) ?_,rfl,q⟩;rw[aoY,aqx];omega
end
end L2
namespace Att
open PySem PySem.W PySem.Calls PyProof.Rows
def lQ{P h}:∀c d,WellAll P h d (c.map WData.int)->IntsAre d c:=by intro c;induction c with|nil=>intro d w;cases w;exact .nil|cons n c ih=>intro d w;cases w with|cons a b=>cases a;exact .cons _ _<|ih _ b
def yI{l:OpenLaw}{n}(p:l.most=some n){P h args b}(c:l.row.toRowW.claim.pre args=true)(j:WellAll P h b args):∃a m e,b=[Value.ref a]/\args=[WData.list<|e.map WData.int]/\h.get? a=some {cls:=.type "list",data:=.seq m.toArray}/\IntsAre m e/\e.length<=n:=by
 have o:l.pre.holds [] {args:=args}=true:=(pre_splitW c).2;refine ke (hasAllW_cons (pre_splitW c).1) λd r i s u=>?_;subst i;obtain rfl:=hasAllW_nil u;obtain⟨v,rfl,t⟩:=hasW_list s;obtain⟨e,rfl⟩:=items_int t;have f:e.length<=n:=by
  unfold OpenLaw.pre at o;have g:=by have g:=(holds_andW o).1;rw[p]at g;exact g
  have k:=condW_of g<|w_not<|w_lt w_lit<|w_len_list<|w_arg rfl;rw[aos]at k;refine Nat.le_of_not_lt λq=>?_;(simp at k;omega)
 cases j with|cons w1 w2=>cases w2;cases w1 with|list ho hall=>exact akh _ _ e rfl rfl ho (lQ e _ hall) f
def y7(l:OpenLaw)(a):l.row.toRowW.claim.post a (.bool true) a=true:=postW_of (rfl) (w_eq_bool (w_res rfl) w_lit) rfl
def t7{l:OpenLaw}{n q c J N d}(X:l.most=some n)(D:d.params.defaults=[])(call:∀w e b t B s o C x g a j u,Ground q c [] J w e t B b.heap->N w b.heap->b.heap.get? s=some o->o.data=.func (docDef d.name d.params d.body d.scope C x g)->b.heap.CodeRec x d.name->t d.name=some (.ref s)->b.heap.get? a=some {cls:=.type "list",data:=.seq j.toArray}->IntsAre j u->u.length<=n->b.gens=#[]->codeAny (model l.prog w) callerA (.call (.ref s) ⟨[.ref a],[]⟩) (λr v=>r=.ok (.ret<|.bool true)/\OldK b.heap v.heap/\v.os=b.os/\AllBare v.gens) b):WalkO q c J N l.row.toRowW d [] λf j=>PySem.call f j:=by intro w e b t B G Y s o C x g O kV ho Q E K A R H I as m M P z S;obtain rfl:O=.none:=Dflts.none K D;obtain rfl:kV=.none:=Dflts.noKw K;refine ajk (yI X m z) λa j u h y k i p=>?_;subst h y;refine enter_call (apA (call w e b t B s o C x g a j u G Y ho (fd_plain Q) E A k i p R) λr v T=>?_);refine akf T λh h2 U Z=>?_;subst h;exact⟨.inl (akh _ (.bool true) [] rfl (λ_=>rfl) (.bool true) (y7 l _) λ_=>⟨List.Pairwise.nil,λ_ hm=>nomatch hm⟩),h2,U,Z⟩
end Att
namespace L2
open PySem PySem.Spec PyProof.Rows
theorem pM:∀{vs ns},IntsAre vs ns->Vals (ns.map V.int) vs|_,_,.nil=>.nil|_,_,.cons n t h=>.cons ⟨t,rfl⟩<|pM h
noncomputable def cq(s:Stmt):Arguments:=match s with|.FunctionDef _ a _ _ _ _ _ _ _ _=>a|_=>{posonlyargs:=[],args:=[],vararg:=none,kwonlyargs:=[],kw_defaults:=[],kwarg:=none,defaults:=[]}
noncomputable def aZ(s:Stmt):List Stmt:=match s with|.FunctionDef _ _ b _ _ _ _ _ _ _=>b|_=>[]
noncomputable def ak(s:Stmt):Scope:=match s with|.FunctionDef _ _ _ _ _ _ sc _ _ _=>sc|_=>{kind:=.function,names:=[],isGenerator:=false,isCoroutine:=false}
abbrev CX0:CXT:=λ_ _ _ _ _ _=>False
abbrev E0:XK:=λ_ _ _=>False
def afv{X}:Passes CX0 X E0:=λ_ _ _ _ _ _ _ h=>h.elim
structure Fun(K:W.Frag)(x qual:Str)(st:Stmt)(f:Addr)(fd:FuncData):Prop where
 ex:∃(oc:Value)(od:Option Addr)(kV doc pm:Value)(an:Option Addr)(cdv ct:Value)(osl:Array (Option Value)),fd=W.fnOf x qual (cq st) (aZ st) (ak st) .none kV doc pm an cdv ct/\K.lookup f=some ⟨oc,od,.func fd,osl⟩/\W.codeIn K cdv qual=true
 kp:W.keepIn K (.ref f)=true
section
variable{P:Program}{w:World}{K:W.Frag}{mg:Str->Option Value}{base:Heap}
def Fun.ok{x b st f l N ps k sp}(F:Fun K x b st f l)(S:FnScope N ps (ak st))(len:∀e H Q E,sp e H Q E->e.length=ps.length)(c:∀d A a s H e Q E,Room k (A.deeper<|envOfC b (ak st) s.heap.objs.size f d)->sp e H Q E->∃t,PSs (iu CX0 P w K mg base N b (ak st) f d A a s H E).nox (aZ st) t/\t {nx:=λ_ p=>Q .non p,rt:=Q} (start N e) H):FnOk P w K mg base CX0 (k+1) f l ps sp:=by refine agC F.ex λu od kV o v y d ct m g n i=>?_;subst g;refine ada n i S len λA a s H e Q E r _ j=>?_;obtain⟨t,h,q⟩:=c _ A _ s H _ Q E r j;exact⟨t,h.nox,q⟩
def Fun.binds{x a st f g ps}(F:Fun K x a st f g)(h:∀kV b i j c ct d,d.length=ps.length->bindArgs (W.fnOf x a (cq st) (aZ st) (ak st) .none kV b i j c ct) ⟨d,[]⟩=pure (ps.zip d)):Binds K g ps []:=by refine agC F.ex λn od kV b i j c ct k e m l=>?_;subst e;exact .all<|h _ _ _ _ _ _
def vz{x a st f i od h e kV d g b ct}(l:K.lookup f=some ⟨i,od,.func<|W.fnOf x a (cq st) (aZ st) (ak st) .none kV d g h b ct,e⟩)(c:W.codeIn K b a=true)(k:W.keepIn K (.ref f)=true):Fun K x a st f (W.fnOf x a (cq st) (aZ st) (ak st) .none kV d g h b ct):=⟨⟨i,od,kV,_,g,h,_,ct,_,rfl,l,c⟩,k⟩
end
section
variable{X:Cx}
def pv(i){x pos}(b:X.N[i]?=some x:=by rfl)(d:Vis X.env.scope x:=by first|exact Or.inl rfl|exact Or.inr<|Or.inl rfl|exact Or.inr<|Or.inr rfl)(c:Dbg x:=by decide)(a:(x=="__classdict__")=false:=by decide):PE X (.Name x pos) (kQ i):=ahP b d c a
end
def aB(H H':Hp):Prop:=∀b o,H b=some o->H' b=some o
def aB.refl(H):aB H H:=λ_ _ h=>h
def aB.trans{H e d}(a:aB H e)(b:aB e d):aB H d:=λc o h=>b c o<|a c o h
def aB.free{H H'}(e:aB H H'){l}(h:H' l=Option.none):H l=Option.none:=by cases q:H l with|none=>rfl|some o=>rw[e l o q]at h;cases h
def aB.seq{K H H' a xs}(e:aB H H')(h:SqL K H a xs):SqL K H' a xs:=by
 rcases h with(h|⟨o,h⟩)|h;.exact .inl (.inl<|e _ _ h)
 .exact .inl (.inr ⟨o,e _ _ h⟩)
 .exact .inr h
end L2
set_option maxHeartbeats 4000000
set_option autoImplicit true
set_option relaxedAutoImplicit true
namespace L2
open PySem PySem.Spec PyProof.Rows
noncomputable def cP(a:List (Str×Addr)):List (Str×NameKind)->List (Str×Addr)->List (Str×Addr)|[],acc=>acc|(n,k)::r,acc=>if k==.free then match a.lookup n with|some c=>cP a r ((n,c)::acc)|none=>cP a r acc else cP a r acc
def ed (h:∀y∈scope.names,y.2=.free->(env.cells.lookup y.1).isSome=true):closureFor scope env=pure (cP env.cells scope.names []):=by
 have all:∀(a:List (Str×NameKind))(b:List (Str×Addr)),(∀y∈a,y.2=.free->(env.cells.lookup y.1).isSome=true)->(forIn a b λ(x:Str×NameKind)r=>match x with|(name,kind)=>if(kind==NameKind.free)=true then do let c <-cellOf env name;pure (ForInStep.yield ((name,c)::r))else pure (ForInStep.yield r))=pure (cP env.cells a b):=by intro a;induction a with|nil=>intro b _;rfl|cons y r ih=>
   intro b i;obtain⟨n,k⟩:=y;rw[aru];have j:=λd=>ih d λz o=>i z<|aog _ o;by_cases f:(k==NameKind.free)=true
   .have g:k=.free:=by simpa using f
    obtain⟨c,l⟩:=ao2.mp<|i (n,k) aol g;have m:cellOf env n=pure c:=by unfold cellOf;rw[l]
    simp only[cP,f,aqa,l];rw[m];simpa using j ((n,c)::b)
   .simp only[cP,f,apy];simpa using j b
 have e:=all scope.names [] h;unfold closureFor;(simpa using e)
theorem cx :∀b a,(cP cells b a).lookup x=some c->a.lookup x=some c\/cells.lookup x=some c
|[],a,h=>.inl h|(n,k)::r,a,h=>by
 unfold cP at h;split at h;.cases e:cells.lookup n with|none=>rw[e]at h;exact cx r _ h|some d=>
  rw[e]at h;rcases cx r _ h with q|q
  .rw[aoO]at q;split at q;.exact .inr (by grind)
   .exact .inl q
  .exact .inr q
 .exact cx r _ h
theorem fO :∀b(a:List (Str×Addr)),(a.lookup x).isSome=true->((cP cells b a).lookup x).isSome=true
|[],a,h=>h|(n,k)::r,a,h=>by
 unfold cP;split;.cases e:cells.lookup n with|none=>exact fO r _ h|some d=>
  refine fO r _ ?_;rw[aoO];split;.rfl
  .exact h
 .exact fO r _ h
theorem jB :∀a b,(x,NameKind.free)∈a->(cells.lookup x).isSome=true->((cP cells a b).lookup x).isSome=true
|(n,k)::r,b,g,f=>by
 rcases an7.mp g with e|g;.cases e;obtain⟨c,f⟩:=ao2.mp f;unfold cP;simp only[f];refine fO r _ ?_;simp
 .unfold cP;split;.cases e:cells.lookup n with|none|some d=>exact jB r _ g f
  .exact jB r _ g f
theorem bS{a:Env}{x}:∀{b:List (Str×NameKind)}{k},(b.map λ(n,k)=>if k==NameKind.free&&a.scope.kind==.function&&a.kindOf n==some .cell then(n,NameKind.cell)else(n,k)).lookup x=some k->b.lookup x=some k\/k=.cell/\b.lookup x=some .free
|[],_,h=>by simp at h|(n,k0)::r,k,h=>by
  have g:=@bS a x r k;have c:List.lookup x ((if(k0==NameKind.free&&a.scope.kind==.function&&a.kindOf n==some .cell)=true then(n,NameKind.cell)else(n,k0))::r.map λ(n,k)=>if k==NameKind.free&&a.scope.kind==.function&&a.kindOf n==some .cell then(n,NameKind.cell)else(n,k))=some k:=h
  cases e:x==n with|true=>
   rw[aoO,e];by_cases d:(k0==NameKind.free&&a.scope.kind==.function&&a.kindOf n==some .cell)=true
   .rw[an4 d,aoO,e]at c;have f:k0=.free:=by simp only[aoo]at d;simpa using d.1.1
    cases c;exact .inr ⟨rfl,by rw[f]⟩
   .rw[an5 d,aoO,e]at c;exact .inl c|false=>
   rw[aoO,e];by_cases d:(k0==NameKind.free&&a.scope.kind==.function&&a.kindOf n==some .cell)=true;.rw[an4 d,aoO,e]at c;exact g c
   .rw[an5 d,aoO,e]at c;exact g c
section
variable{X:Cx}{pins:List (Addr×Obj)}{σ:St}{H:Hp}{s:Shared}
def HOk.wj{P w h a o}(x:HOk P w H h)(f:H a=none)(new:cQ P w (upd H a o) h a o):HOk P w (upd H a o) h:=λb u e=>by
 by_cases d:b=a;.subst d;rw[aj]at e;cases e;exact new
 .rw[ai d]at e;exact(x b u e).n5 (λc v _ q=>q) (λc q=>by rw[ai (aS q f)];exact q) λc g q=>by rw[ai (aS q f)];exact q
theorem Inv.wj (I:Inv X pins σ H s)(hn:H a=none)(ha:X.s₀.heap.objs.size<=a)(hL:a≠X.env.locals)(hc:∀x c,X.env.cells.lookup x=some c->c≠a)(hp:∀p∈X.pn++pins,p.1≠a)(new:cQ X.prog X.w (upd H a o) s.heap a o):Inv X pins σ (upd H a o) s where
 ok:=I.ok;os:=I.os;bare:=I.bare;base:=⟨I.base.keep,I.base.slot,λb u q n hx=>by rw[ai (aoi<|an6 (an9 q) ha)];exact I.base.free b u q n hx,I.base.there,λb xs q=>by have z:=I.base.tups b xs q;rw[ai (aS z hn)];exact z,λb u v q=>by have z:=I.base.frzs b u v q;rw[ai (aS z hn)];exact z,λb ps q=>by obtain⟨more,z⟩:=I.base.tbls b ps q;exact⟨more,by rw[ai (aS z hn)];exact z⟩⟩;loc:=I.loc;cell:=I.cell;free:=by rw[ai (aom hL)];exact I.free
 freeC:=λx c e=>by rw[ai (hc x c e)];exact I.freeC x c e
 pin:=λp hp'=>by obtain⟨e,n,r⟩:=I.pin p hp';exact⟨e,by rw[ai (hp p hp')];exact n,r⟩
 hok:=I.hok.wj hn new;len:=I.len
end
abbrev Cx.tri(X:Cx)(E:Value->Shared->Prop)(pn:List (Addr×Obj)):Cx:={X with xe:=E,pn:=pn}
theorem Cx.Ok.tri{X:Cx}(ok:X.Ok)(E)(a):(X.tri E a).Ok:=⟨ok.mod,ok.kind,ok.glob,ok.blt,ok.above,ok.inj,ok.has,ok.cab,ok.hd,ok.frames,ok.stk,ok.exf,ok.bs,ok.bsz,ok.noex,ok.exfs,ok.nj,ok.frf⟩
section
variable{X:Cx}{pins:List (Addr×Obj)}{σ:St}{H:Hp}{s:Shared}
theorem Inv.tri(I:Inv X pins σ H s)(E:Value->Shared->Prop):Inv (X.tri E<|X.pn++pins) [] σ H s:=⟨I.ok.tri E _,I.os,I.bare,I.base,I.loc,I.cell,I.free,I.freeC,λp a=>I.pin p (by simpa using a),I.hok,I.len⟩
end
noncomputable def hd1(y:Str):Str:=⟨y.cps.push 32⟩
def hid(scope:Scope)(y:Str):Str:=match scope.names.lookup y with|some .local=>hd1 y|_=>y
set_option tactic.hygienic true in
def aiN (h:hid scope y=x):x=hd1 y/\scope.names.lookup y=some .local\/x=y/\scope.names.lookup y≠some .local:=by
 unfold hid at h;split at h;.rename_i e;exact .inl ⟨h.symm,e⟩
 .rename_i e;exact .inr ⟨h.symm,e⟩
abbrev Cx.comp(X:Cx)(scope:Scope)(C:Addr)(ts:List Str)(b:Shared)(a:Hp)(c:List Addr):Cx:={X with N:=ts++X.N.map (hid scope),s₀:=b,H₀:=a,env:=compEnvC scope (cP X.env.cells scope.names []) C X.env,outer:=X.stack,stack:=X.stack,ex:=c,fn:=λ_=>false,pn:=[],xe:=λ_ _=>False}
structure CompLook(X:Cx)(scope:Scope):Prop where
 kind:scope.kind=.function
 nocell:scope.names.all λy=>y.2!=.cell=true
 names:scope.names.all λy=>y.2!=.local||scope.names.lookup y.1==some .local=true
 free:scope.names.all λy=>y.2!=.free||X.env.scope.names.lookup y.1==some .cell||X.env.scope.names.lookup y.1==some .free=true
 apart:(scope.names.all λy=>(scope.names.lookup<|hd1 y.1).isNone)=true
structure CompScope(X:Cx)(scope:Scope)(ts:List Str):Prop where
 kind:scope.kind=.function
 nocell:∀y∈scope.names,y.2≠.cell
 names:∀y∈scope.names,y.2=.local->scope.names.lookup y.1=some .local
 free:∀y∈scope.names,y.2=.free->X.env.scope.names.lookup y.1=some .cell\/X.env.scope.names.lookup y.1=some .free
 apart:∀y∈scope.names,scope.names.lookup (hd1 y.1)=none
theorem CompLook.scope{X:Cx}{scope:Scope}{ts:List Str}(L:CompLook X scope):CompScope X scope ts where
 kind:=L.kind;nocell:=λy hy=>by simpa using aoD.mp L.nocell y hy
 names:=λy hy e=>by have h:=aoD.mp L.names y hy;rw[e]at h;simpa using h
 free:=λy hy e=>by have h:=aoD.mp L.free y hy;rw[e]at h;simpa using h
 apart:=λy hy=>by simpa using aoD.mp L.apart y hy
noncomputable def zr:List Str->Bool|[]=>true|x::r=>!(r.any λy=>decide (y=x))&&zr r
theorem vf:∀{N},zr N=true->N.Nodup|[],_=>arB|x::r,h=>by simp [zr]at h;exact aoN.mpr ⟨λa=>h.1 x a rfl,vf h.2⟩
section
variable{X:Cx}{pins:List (Addr×Obj)}{σ:St}{H:Hp}{s:Shared}
def tT{scope:Scope}{ts:List Str}{C:Addr}{fp:List Addr}(S:CompScope X scope ts)(I:Inv X pins σ H s)(hf:∀b∈fp,uc X pins H b)(hfl:∀b∈fp,b<s.heap.objs.size)(hC:s.heap.objs.size<=C):(X.comp scope C ts s H fp).Ok where
 mod:=I.ok.mod;kind:=S.kind;glob:=I.ok.glob;blt:=I.ok.blt;above:=hC;inj:=λx y c e1 e2=>by have q1:=(cx scope.names [] e1).resolve_left (by simp);have q2:=(cx scope.names [] e2).resolve_left (by simp);exact I.ok.inj x y c q1 q2
 has:=λx hx=>by
  have hx':scope.names.lookup x=some .free:=by
   rcases hx with hx|hx
   .rcases bS hx with q|⟨_,q⟩;.exact absurd rfl (S.nocell _<|aoM q)
    .exact q
   .rcases bS hx with q|⟨q,_⟩;.exact q
    .cases q
  have hm:=aoM hx';obtain⟨c,hc⟩:=I.ok.has x<|S.free _ hm rfl;exact ao2.mp (jB scope.names [] hm<|by rw[hc];rfl)
 cab:=λx c h _=>by cases h
 hd:=I.ok.hd;frames:=I.ok.frames;stk:=.inl rfl;exf:=λb hb=>⟨aoi<|an6 (hfl b hb) hC,λx c e=>by have q:=(cx scope.names [] e).resolve_left (by simp);exact(hf b hb).2.2.2.2.1 x c q⟩;bs:=I.bs;bsz:=aoh I.ok.bsz I.sz;noex:=λb o e hb=>by
  rcases(hf b hb).2.2.2.1 with z|z;.exact I.ok.noex b o e z
  .exact absurd (an6 (an9 e)<|aoh I.ok.bsz z) (apw _)
 exfs:=λb hb z=>by
  rcases an7.mp (I.uK b z)with e|e;.exact(hf b hb).2.1 e
  .exact(hf b hb).2.2.1 e
 nj:=I.stack;frf:=I.kR
def xK{scope:Scope}{ts:List Str}{C:Addr}{fp:List Addr}{s4:Shared}(S:CompScope X scope ts)(I:Inv X pins σ H s)(hf:∀b∈fp,uc X pins H b)(hfl:∀b∈fp,b<s.heap.objs.size)(hC:s.heap.objs.size<=C)(ho:s4.os=s.os)(hg:s4.gens=s.gens)(hk:∀b o,s.heap.get? b=some o->s4.heap.get? b=some o){m:Str->Option Value}(hn:s4.heap.Ns C m):Inv (X.comp scope C ts s H fp) [] (List.replicate ts.length none++σ) H s4 where
 ok:=tT S I hf hfl hC;os:=ho;bare:=by rw[hg];exact I.bare
 base:=Un.kept hk;loc:=⟨m,hn,λi x v e1 e2 e3=>by
  have hi:ts.length<=i:=by
   rcases Nat.lt_or_ge i ts.length with h|h;.rw[apt (by simpa using h),apU]at e2;simp[h]at e2
   .exact h
  rw[apa (by simpa using hi)]at e2;rw[apa hi]at e1;simp only[ap2]at e2;rw[aoy]at e1;obtain⟨y,ey,hy⟩:=aoI.mp e1;have hv:scope.names.lookup x≠none:=by
   rcases e3 with q|q|q;.rcases bS q with q|⟨_,q⟩<;>(rw[q];exact nofun)
   .rcases bS q with q|⟨_,q⟩<;>(rw[q];exact nofun)
   .rcases bS q with q|⟨_,q⟩<;>(rw[q];exact nofun)
  have hxy:x=y/\scope.names.lookup y≠some .local:=by
   rcases aiN hy with z|z;.exact absurd (by rw[z.1];exact S.apart _<|aoM z.2) hv
   .exact z
  have e1:X.N[i-ts.length]?=some x:=by rw[ey,hxy.1]
  have hap:scope.names.lookup x≠some .local:=by rw[hxy.1];exact hxy.2
  have hfree:scope.names.lookup x=some .free:=by
   rcases e3 with q|q|q
   .rcases bS q with q|⟨q,_⟩;.exact absurd q hap
    .cases q
   .rcases bS q with q|⟨_,q⟩;.exact absurd rfl (S.nocell _<|aoM q)
    .exact q
   .rcases bS q with q|⟨q,_⟩;.exact q
    .cases q
  have hm:=aoM hfree;have hk0:=S.free _ hm rfl;obtain⟨m0,_,hl⟩:=I.loc;obtain⟨u,r,l⟩:=hl (i-ts.length) x v e1 e2 (hk0.elim (λq=>.inr<|.inl q) λq=>.inr<|.inr q);refine⟨u,r,?_⟩;rcases l with⟨kl,_⟩|⟨_,c,ec,z⟩
  .exfalso;have kl':X.env.scope.names.lookup x=some .local:=kl;rcases hk0 with q|q;.rw[q]at kl';cases kl'
   .rw[q]at kl';cases kl'
  .have kk:(X.comp scope C ts s H fp).env.kindOf x=some .cell\/(X.comp scope C ts s H fp).env.kindOf x=some .free:=by
    rcases e3 with q|q|q
    .rcases bS q with q|⟨q,_⟩;.exact absurd q hap
     .cases q
    .exact .inl q
    .exact .inr q
   obtain⟨c',ec'⟩:=(tT S I hf hfl hC).has x kk;have ec2:=(cx scope.names [] ec').resolve_left (by simp);rw[ec]at ec2;cases ec2;obtain⟨o,ho',hd⟩:=z;exact .inr ⟨kk,c,ec',o,hk _ o ho',hd⟩⟩;cell:=λx c e=>by have q:=(cx scope.names [] e).resolve_left (by simp);obtain⟨v,o,ho',hd⟩:=I.cell x c q;exact⟨v,o,hk _ o ho',hd⟩
 free:=I.hok.fresh hC;freeC:=λx c e=>I.freeC x c ((cx scope.names [] e).resolve_left<|by simp);pin:=λp hp=>by cases hp
 hok:=I.hok.kept hk;len:=by rw[aoY,aoY,ap2,I.len,aos]
end
section
variable{prog:Program}{w:World}{A:Around}{R:Result->Shared->Prop}{s:Shared}
def gQ{u b E y scope pos it z a}(I:Nat->Shared->Prop)(turn:∀n s,I n s->wpAny (model prog w) A (pyNext it) (λr j=>match r with|none=>R (.ok .next) j|some v=>wpAny (model prog w) A (letOwnedTupleGo b it v) (λ_ d=>wpAny (model prog w) A (assign b a v) (λ_ o=>wpAny (model prog w) A (forIn y true λc r=>if r=true then do let ok <-isTrue c a (eval c a);pure (ForInStep.yield ok)else pure (ForInStep.yield r)) (λok g=>if ok=true then wpAny (model prog w) A (eval u a) (λx l=>wpAny (model prog w) A (call (.builtin "list.append") [z,x]) (λ_ p=>∃m,m<n/\I m p) (notedBy (model prog w) A a λe i=>R (.error e) i) l) (notedBy (model prog w) A a λe i=>R (.error e) i) g else∃m,m<n/\I m g) (notedBy (model prog w) A a λe i=>R (.error e) i) o) (notedBy (model prog w) A a λe i=>R (.error e) i) d) (notedBy (model prog w) A a λe i=>R (.error e) i) j) (notedBy (model prog w) A a λe i=>R (.error e) i) s)(n)(h:I n s):codeAny (model prog w) A (.compLoop (.ListComp u [⟨b,E,y,0⟩] scope pos) 0 it z a) R s:=by refine codeAny_loop rfl I (λn s G=>wpAny_noted ?_) n h;rw[compTurn_list];refine anY (apV<|anY<|aoA (turn n s G) (λr j k=>?_) λ_ _ f=>f);cases r with|none=>exact an0 k|some v=>refine anY (aoA k (λ_ d t=>?_) λ_ _ f=>f);refine anY (aoA t (λ_ o D=>anY<|aoA D (λok g q=>?_) λ_ _ f=>f) λ_ _ f=>f);cases ok with|false=>exact an0 ⟨rfl,q⟩|true=>exact anY (anY<|aoA q (λx l B=>anY<|aoA B (λ_ p C=>an0<|an0 ⟨rfl,C⟩) λ_ _ f=>f) λ_ _ f=>f)
end
def xP(X:Cx)(b:List Expr)(t:TT):Prop:=∀(a:List (Addr×Obj))(s:Shared)(d:St)(H:Hp)(Q:Bool->Hp->Prop),Inv X a d H s->t d H Q->wpAny (model X.prog X.w) X.A (forIn b true λc r=>if r=true then do let ok <-isTrue c X.env (eval c X.env);pure (ForInStep.yield ok)else pure (ForInStep.yield r)) (TP X a d Q) X.xe s
def fF:TT:=λ_ H Q=>Q true H
def acd:xP X [] fF:=λa s b H Q I h=>wpAny_tests_nil ⟨H,I,h⟩
def acb  (h:PT X c t):xP X [c] t:=λa s b H Q I hw=>wpAny_tests_one<|h a s b H Q I hw
def ud(J:It)(g:TG)(o:TT)(n:TE)(h:St)(p:Hp)(F:V->Hp->Prop):Prop:=∃W:Nat->Nat->List V->St->Hp->Prop,(∃m,W 0 m [] h p)/\∀i m d l H,W i m d l H->d.length<sizeLine/\((J.stop i H/\∀D,H D=none->F (.ref D) (upd H D<|.lst d))\/J.go i H/\∃N:List V->St->Hp->Prop,(∀f e c,N f e c->∃k,k<m/\W (i+1) k f e c)/\∀x c,J.yld i H x c->g x l c λa r=>o a r λb j=>if b=true then n a j λy q=>N (d++[y]) a q else N d a j)
def ml(c:Hp->Prop)(J:It)(g:TG)(p:TT)(o:TE)(j:St)(q:Hp)(F:V->Hp->Prop):Prop:=∃W:Nat->Nat->List V->St->Hp->Prop,(∃m,W 0 m [] j q)/\∀i m e n H,W i m e n H->c H/\e.length<sizeLine/\((J.stop i H/\∀D,H D=none->F (.ref D) (upd H D<|.lst e))\/J.go i H/\∃N:List V->St->Hp->Prop,(∀h f d,N h f d->∃l,l<m/\W (i+1) l h f d)/\∀x d,J.yld i H x d->g x n d λa s=>p a s λb k=>if b=true then o a k λy r=>N (e++[y]) a r else N e a k)
theorem ml.w    (h:ml c J g tt te σ0 H1 F):ud J g tt te σ0 H1 F:=by obtain⟨W,a,t⟩:=h;exact⟨W,a,λi m d b H w=>(t i m _ b H w).2⟩
theorem ud.c    (h:ud J g tt te σ0 H1 F):ml (λ_=>True) J g tt te σ0 H1 F:=by obtain⟨W,b,t⟩:=h;exact⟨W,b,λi m c a H w=>⟨trivial,t i m _ a H w⟩⟩
def abT(k:Nat)(wi:TI)(g:TG)(b:TT)(c:TE):TE:=λa H Q=>wi a H λJ d=>ud J g b c (List.replicate k none++a) d Q
section
variable{X:Cx}{tg elt iter:Expr}{ifs:List Expr}{scope:Scope}{ts:List Str}{wi:TI}{g:TG}{tt:TT}{te:TE}
def gM{pins}{σ:St}{H j pos it k tn J}{Q:VK}{RR:Value->Addr->Result->Shared->Prop}{E}(S:CompScope X scope ts){cl cc}(O:Addr->Value->Shared->Prop)(d0:∀C U,cc U->cl ((X.comp scope C ts j H k).tri (O C) []) U)(hg:∀C,PG ((X.comp scope C ts j H k).tri (O C) []) tg g)(ht:∀C,xP ((X.comp scope C ts j H k).tri (O C) []) ifs tt)(he:∀C,PE ((X.comp scope C ts j H k).tri (O C) []) elt te)(I:Inv X pins σ H j)(T:Turn X.prog X.w X.K tg J k it tn cl)(st:tn 0 j.heap)(hf:∀b∈k,uc X pins H b)(hW:ml cc J g tt te (List.replicate ts.length none++σ) H Q)(fin:∀(C D:Addr)U B m Z,C≠D->j.heap.objs.size<=C->j.heap.objs.size<=D->B.heap.Ns C m->U C=none->Inv X pins σ (upd U D<|.lst Z) B->Q (.ref D) (upd U D<|.lst Z)->RR (.ref D) C (.ok .next) B)(hx:∀(C D:Addr)e B,j.heap.objs.size<=C->O C e B->notedBy (model X.prog X.w) X.A (compEnvC scope (cP X.env.cells scope.names []) C X.env) (λe B=>RR (.ref D) C (.error e) B) e B):wpAny (model X.prog X.w) X.A (newList []) (λb8 M=>wpAny (model X.prog X.w) X.A (newFunctionEnv scope X.env.globals (cP X.env.cells scope.names []) [] X.env.qual none .none<|some X.env) (λa4 c0=>codeAny (model X.prog X.w) X.A (.compStart (.ListComp elt [⟨tg,iter,ifs,0⟩] scope pos) 0 (.ref it) b8 {a4 with scope:=relabel scope X.env}) (RR b8 a4.locals) c0) E M) E j:=by
 refine aqo (wpAny_newFunctionEnv S.nocell (by intro y hy;simp at hy) (λG A s=>?_) S.kind);dsimp only at A s⊢;generalize hH2:j.heap.push {cls:=.type "list",dict:=none,data:=.seq ([]:List Value).toArray}=H2 at A s⊢;have a6:H2.objs.size=j.heap.objs.size+1:=by rw[<-hH2,apq]
 have a7:j.heap.objs.size≠H2.objs.size:=by rw[a6];exact aoi<|apx _
 have t:j.heap.objs.size<=H2.objs.size:=by rw[a6];exact arA _
 have b0:∀b o,j.heap.get? b=some o->G.get? b=some o:=λb o e=>s.extBut b o (by rw[a6];exact aoi<|aqp<|an9 e)<|anZ _<|hH2▸anZ _ e;have b9:G.PlainList j.heap.objs.size #[]:=⟨_,s.extBut _ _ a7<|anZ _<|hH2▸aoj _ rfl⟩;have b5:∀b∈k,b<j.heap.objs.size:=λb l=>by obtain⟨o,e,_⟩:=T.obj _ _ st b l;exact an9 e
 generalize hCdef:H2.objs.size=C at *;generalize hDdef:j.heap.objs.size=D at *;have a9:D∉k:=λhm=>apw _<|b5 _ hm;have a3:((X.comp scope C ts j H k).tri (O C) []).Ok:=(tT S I hf (by rw[hDdef];exact b5)<|by rw[hDdef];exact t).tri _ _;have a0:∀x c,((X.comp scope C ts j H k).tri (O C) []).env.cells.lookup x=some c->c<D:=λx c e=>by have q:=(cx scope.names [] e).resolve_left (by simp);obtain⟨v,z⟩:=I.cell x c q;rw[<-hDdef];exact z.lt
 have a1:∀{U:Hp}{pl:List (Addr×Obj)},(∀b∈k,U b=none)->(∀p∈pl,p.1∉k)->∀b∈k,uc ((X.comp scope C ts j H k).tri (O C) []) pl U b:=λhn K b l=>⟨hn b l,(a3.exf b l).1,a3.exfs b l,.inl l,(a3.exf b l).2,λp e4 z=>K p (by simpa using e4)<|z▸l⟩;obtain⟨W,⟨m0,w0⟩,turn⟩:=hW;have loop:∀M:Shared,M={j with heap:=G,toks:=j.toks+([]:List (Str×Value)).length}->codeAny (model X.prog X.w) X.A (.compLoop (.ListComp elt [⟨tg,iter,ifs,0⟩] scope pos) 0 (.ref it) (.ref D)<|compEnvC scope (cP X.env.cells scope.names []) C X.env) (RR (.ref D) C) M:=by
  rintro M rfl;have d9:Inv (X.comp scope C ts j H k) [] (List.replicate ts.length none++σ) H {j with heap:=G,toks:=j.toks+([]:List (Str×Value)).length}:=xK S I hf (by rw[hDdef];exact b5) (by rw[hDdef];exact t) rfl rfl b0 A;have I0:Inv ((X.comp scope C ts j H k).tri (O C) []) [] (List.replicate ts.length none++σ) H {j with heap:=G,toks:=j.toks+([]:List (Str×Value)).length}:=d9.tri _;refine gQ (λn B=>∃i Z c9 U h,Inv ((X.comp scope C ts j H k).tri (O C) []) [] c9 U B/\tn i B.heap/\(∀b∈k,U b=none)/\B.heap.PlainList D h/\Vals Z h.toList/\U D=none/\W i n Z c9 U) ?_ m0 ⟨0,[],_,H,#[],I0,T.keep _ _ _ st λb _ o e=>b0 b o e,λb l=>(hf b l).1,b9,.nil,I.hok.fresh (by rw[hDdef];exact aob _),w0⟩;rintro n s3⟨i,Z,Y,H3,h,I3,c8,c3,d8,v3,d3,w3⟩;obtain⟨c4,d4,a8⟩:=turn i n Z Y H3 w3;obtain⟨R,eD⟩:=id d8;have c5:∀v,({cls:=.type "list",data:=.seq h R}:Obj).data≠.cell v:=λv z=>by cases z
  have a2:=a7;have a5:D ∉((X.comp scope C ts j H k).tri (O C) []).fs:=λl=>by obtain⟨_,o,ho,_⟩:=a3.nj.mem l;exact absurd (aqi (an9 ho) hDdef)<|apw _
  rcases a8 with⟨c7,qn⟩|⟨go,N,hN,step⟩;.-- the end
   have b6:Inv ((X.comp scope C ts j H k).tri (O C) []) [(D,{cls:=.type "list",data:=.seq h R})] Y H3 s3:=I3.eU λp K=>by
    obtain rfl:p=(D,({cls:=.type "list",data:=.seq h R}:Obj)):=by simpa using K
    exact⟨eD,d3,a2,a5,c5⟩
   refine aoA (T.done ((X.comp scope C ts j H k).tri (O C) []) rfl rfl rfl i _ s3 Y H3 (λ_ _=>False) (d0 C H3 c4) b6 (a1 c3 λp K=>by
    obtain rfl:p=(D,({cls:=.type "list",data:=.seq h R}:Obj)):=by simpa using K
    exact a9) c8 c7) (λr s4⟨hr,I4⟩=>?_) λ_ _ f=>f.elim;subst hr;have pD:=(I4.pin (D,{cls:=.type "list",data:=.seq h R})<|by simp).1;obtain⟨m4,d6,_⟩:=I4.loc;have I5:=I.adz I4.os I4.base I4.hok I4.bare λb l=>⟨(hf b l).2.2.2.1,(hf b l).2.1,(hf b l).2.2.2.2.1,(hf b l).2.2.2.2.2⟩;have e0:=aoE<|aqi I.lt hDdef;have d1:∀x c,X.env.cells.lookup x=some c->c≠D:=λx c e=>by obtain⟨v,z⟩:=I.cell x c e;exact aoi<|aqi z.lt hDdef
   have e2:∀p∈X.pn++pins,p.1≠D:=λp K=>aoi<|aqi (an9 (I.pin p K).1) hDdef;have new:cQ X.prog X.w (upd H3 D<|.lst Z) s4.heap D (.lst Z):=⟨ao9 d4,h.toList,R,v3,by simpa using pD⟩;have I6:=I5.wj d3 (by rw[<-hDdef];exact I.sz) e0 d1 e2 new;exact fin C D H3 s4 m4 Z (aom a7) t (aob _) d6 I4.free I6 (qn D d3)
  .-- a turn
   have b6:Inv ((X.comp scope C ts j H k).tri (O C) []) [(D,{cls:=.type "list",data:=.seq h R})] Y H3 s3:=I3.eU λp K=>by
    obtain rfl:p=(D,({cls:=.type "list",data:=.seq h R}:Obj)):=by simpa using K
    exact⟨eD,d3,a2,a5,c5⟩
   have c2:∀p∈[((D,{cls:=.type "list",data:=.seq h R}):Addr×Obj)],p.1∉k:=λp K=>by
    obtain rfl:p=(D,({cls:=.type "list",data:=.seq h R}:Obj)):=by simpa using K
    exact a9
   refine aoA (T.item ((X.comp scope C ts j H k).tri (O C) []) rfl rfl rfl i _ s3 Y H3 (λ_ _=>False) (d0 C H3 c4) b6 (a1 c3 c2) c8 go) (λr s4 w=>?_) λ_ _ f=>f.elim;obtain⟨u,hr,h4⟩:=w;subst hr;refine aoA h4 (λ_ s5 w=>?_) λ_ _ f=>f.elim;obtain⟨x,H5,I5,r5,y5,b7,d7⟩:=w;have d2:=I5.pinned (a1 d7 c2)<|T.obj _ _ b7;have back:∀{c1:St}{H7:Hp}{s7:Shared},Inv ((X.comp scope C ts j H k).tri (O C) []) ([(D,{cls:=.type "list",data:=.seq h R})]++qo k s5.heap) c1 H7 s7->tn (i+1) s7.heap/\(∀b∈k,H7 b=none)/\s7.heap.get? D=some {cls:=.type "list",data:=.seq h R}/\H7 D=none:=λ{c1 H7 s7}I7=>by have pD:=I7.pin (D,({cls:=.type "list",data:=.seq h R}:Obj))<|aok _<|aou _ aol;refine⟨T.keep _ _ _ b7 λb l o e=>(I7.pin (b,o)<|aok _<|aok _<|gF l e).1,λb l=>?_,pD.1,pD.2.1⟩;obtain⟨o,e,d⟩:=T.obj _ _ b7 b l;exact(I7.pin (b,o)<|aok _<|aok _<|gF l e).2.1
   refine aoA (hg C _ s5 Y H5 x u _ d2 r5<|step x H5 y5) (λ_ s6 w=>?_) λe B f=>hx C D e B t f;obtain⟨P,H6,I6,q6⟩:=w;refine aoA (ht C _ s6 P H6 _ I6 q6) (λb s7 w=>?_) λe B f=>hx C D e B t f;obtain⟨H7,I7,q7⟩:=w;cases b with|false=>obtain⟨m',hm,w7⟩:=hN _ _ _ (by simpa using q7);obtain⟨b1,b2,b3,b4⟩:=back I7;exact⟨m',hm,i+1,Z,P,H7,h,I7.eU λp K=>absurd K aop,b1,b2,⟨R,b3⟩,v3,b4,w7⟩|true=>
    have e3:te P H7 λy H4=>N (Z++[y]) P H4:=by simpa using q7
    refine aoA (he C _ s7 P H7 _ I7 e3) (λu8 s8 w=>?_) λe B f=>hx C D e B t f;obtain⟨y,H8,I8,r8,q8⟩:=w;obtain⟨m',hm,w8⟩:=hN _ _ _ q8;obtain⟨b1,b2,b3,b4⟩:=back I8;have e5:h.size<=sizeLine:=by have e1:=v3.length;simp only[aqb]at e1;omega
    refine wpAny_list_append_plain ⟨R,b3⟩ λh9 d5 c6=>?_;have I9:Inv ((X.comp scope C ts j H k).tri (O C) []) [] P H8 {s8 with heap:=h9}:=(I8.eU λp K=>absurd K aop).turned (λb o l e=>(c6.2 b l).trans e) b4 a2 (.inr<|Nat.le_of_eq hDdef) (λx c e=>aoi<|a0 x c e) λp K=>absurd K aop;refine⟨m',hm,i+1,Z++[y],P,H8,h.push u8,I9,T.keep _ _ _ b1 λb l o e=>(c6.2 b λz=>a9<|z▸l).trans e,b2,d5,?_,b4,w8⟩;simpa using v3.append (.cons r8 .nil)
 exact codeAny_compStart_list (loop _ rfl) (T.self _ 0 _ _ _ (T.keep _ _ _ st λb _ o e=>b0 b o e)<|loop _ rfl)
def ack (L:CompLook X scope)(B:X.calm=true)(E:PI X tg iter wi)(hg:∀C d a i,PG (X.comp scope C ts d a i) tg g)(ht:∀C d a i,xP (X.comp scope C ts d a i) ifs tt)(Z:∀C d a i,PE (X.comp scope C ts d a i) elt te)(hs:∀x,foldedSetIterable iter X.env x=pure x:=by intro _;rfl):PE X (.ListComp elt [⟨tg,iter,ifs,0⟩] scope pos) (abT ts.length wi g tt te):=by
 intro k s σ H Q I h;have S:CompScope X scope ts:=L.scope;have f:=ed λy U G=>by obtain⟨c,B⟩:=I.ok.has y.1<|S.free y U G;rw[B];rfl
 rw[eval_ListComp];refine apN rfl hs f S.kind S.names (thn (E k s σ H _ I h) λxv s1 N=>thn N λM s2 h2=>?_);obtain⟨it,i,tn,J,H2,e,j,T,n,P,K⟩:=h2;subst e;refine gM S _ (λ_ _ _=>B) (λC=>hg C _ _ _) (λC=>ht C _ _ _) (λC=>Z C _ _ _) j T n P K.c ?_ λ_ _ _ _ _ z=>z.elim;intro C D H' O m ys r l hD Y A R q;refine⟨m,Y,λh' w=>?_⟩;have t:=aoE<|an6 j.lt l;have u:=R.turned (t':=O.toks) (λb o hb e=>(w.2 b hb).trans e) (by rw[ai r];exact A) t (.inr<|aoh j.sz l) (λx c e=>by obtain⟨v,q⟩:=j.cell x c e;exact aoi<|an6 q.lt l) λp hp=>aoi<|an6 (an9 (j.pin p hp).1) l;exact⟨.ref D,_,u,rfl,q⟩
def jR  (hN:X.N.Nodup)(M:X.N[i]?=some y)(w:X.env.scope.names.lookup y=some .local)(P:swapsWith (.ListComp elt [⟨tg,iter,ifs,0⟩] scope pos) (some<|.Name y py) spos.line X.env=pure true)(L:CompLook X scope)(G:X.calm=true)(hi:PI X tg iter wi)(U:∀C f d n,PG (X.comp scope C ts f d n) tg g)(ht:∀C f d n,xP (X.comp scope C ts f d n) ifs tt)(he:∀C f d n,PE (X.comp scope C ts f d n) elt te)(hs:∀x,foldedSetIterable iter X.env x=pure x:=by intro _;rfl):PS X (.Assign [.Name y py] (.ListComp elt [⟨tg,iter,ifs,0⟩] scope pos) spos) (agn (abT ts.length wi g tt te)<|aq i):=by
 intro t s σ H Dn I h;have S:CompScope X scope ts:=L.scope;have j:=ed λy w R=>by obtain⟨c,G⟩:=I.ok.has y.1<|S.free y w R;rw[G];rfl
 rw[exec_Assign_Name_used _ _ _ _ P];refine anY<|apV<|anY ?_;refine anY (aoA (apN rfl hs j S.kind S.names<|thn (hi t s σ H _ I h) λxv s1 Z=>thn Z λa0 s2 h2=>?_) (λ_ s' hq=>an0<|an0 hq) λ_ _ e=>e);obtain⟨it,n,tn,J,H2,e,l,T,N,f2,Y⟩:=h2;subst e;refine gM S (λ_ _ _=>False) (λ_ _ _=>G) (λC=>U C _ _ _) (λC=>ht C _ _ _) (λC=>he C _ _ _) l T N f2 Y.c ?_ λ_ _ _ _ _ z=>z.elim;intro C D H' s' m ys A r hD hn Q I' q;have u:=aoE<|an6 l.lt r;refine aqX (iF I' hN M (.inl w) (show RelV (.ref D) (.ref D)from rfl) (λO B k=>?_)<|.inr w);obtain⟨a,k,ha⟩:=k;have K:a≠C:=by
  rcases ha with e|e;.rw[e];exact aom u
  .obtain⟨v,q⟩:=l.cell y a e;exact aoi<|an6 q.lt r
 refine⟨m,hn.sameBut k<|aom K,λh' E=>?_⟩;have I3:=B.turned (t':=O.toks) (λb o hb e=>(E.2 b hb).trans e) (by rw[ai A];exact Q) u (.inr<|aoh l.sz r) (λx c e=>by obtain⟨v,q⟩:=l.cell x c e;exact aoi<|an6 q.lt r) λp hp=>aoi<|an6 (an9 (l.pin p hp).1) r;exact⟨_,_,I3,q⟩
end
def IsD(K:W.Frag)(H:Hp):Nat->V->PyData->Prop|_,x,.none=>x=.non|_,x,.bool b=>x=.bl b|_,x,.int i=>x=.int i|_,x,.str z=>x=.str z/\PyData.strOk z=true|_,_,.dict _=>False|0,_,.tuple _=>False|0,_,.list _=>False|n+1,x,.tuple ds=>∃a c,x=.ref a/\SqT K H a c/\Paired (IsD K H n) c ds|n+1,x,.list ds=>∃a c,x=.ref a/\SqL K H a c/\Paired (IsD K H n) c ds
section
variable{X:Cx}{pins:List (Addr×Obj)}{σ:St}{H:Hp}{s:Shared}
theorem k9{h n R}(one:∀x d u,R x d->RelV x u->(∃b,Reads h u d b)/\d.canLay0=true/\d.depth<=n):∀{xs a us},Paired R xs a->Vals xs us->(∃b,ReadsAll h us a b)/\PyData.canLayAll0 a=true/\PyData.depthAll a<=n
|_,_,_,.nil,.nil=>⟨⟨_,.nil⟩,rfl,aoF _⟩|_,_,_,.cons r t,.cons q t'=>by
 obtain⟨⟨b,e⟩,f,i⟩:=one _ _ _ r q;obtain⟨⟨bs,g⟩,c,j⟩:=k9 one t t';refine⟨⟨_,.cons e g⟩,?_,?_⟩;.simp[PyData.canLayAll0,f,c]
 .simp [PyData.depthAll];omega
def Inv.reads(I:Inv X pins σ H s):∀n d x u,IsD X.K H n x d->RelV x u->(∃p,Reads s.heap u d p)/\d.canLay0=true/\d.depth<=n:=by intro n;induction n with
|zero=>intro d x u h r;cases d with|none=>subst h;cases r;exact⟨⟨_,.none⟩,rfl,aoF _⟩|bool b=>subst h;cases r;exact⟨⟨_,.bool b⟩,rfl,aoF _⟩|int i=>subst h;obtain⟨t,rfl⟩:=r;exact⟨⟨_,.int i t⟩,rfl,aoF _⟩|str z=>obtain⟨rfl,c⟩:=h;obtain⟨t,rfl⟩:=r;exact⟨⟨_,.str z t⟩,by simpa[PyData.canLay0]using c,aoF _⟩|dict kvs|tuple ds|list ds=>exact h.elim
|succ n ih=>intro d x u h r;cases d with|none=>subst h;cases r;exact⟨⟨_,.none⟩,rfl,aoF _⟩|bool b=>subst h;cases r;exact⟨⟨_,.bool b⟩,rfl,aoF _⟩|int i=>subst h;obtain⟨t,rfl⟩:=r;exact⟨⟨_,.int i t⟩,rfl,aoF _⟩|str z=>obtain⟨rfl,c⟩:=h;obtain⟨t,rfl⟩:=r;exact⟨⟨_,.str z t⟩,by simpa[PyData.canLay0]using c,aoF _⟩|dict kvs=>exact h.elim|tuple ds=>obtain⟨a,y,rfl,q,w⟩:=h;cases r;obtain⟨m,e,⟨o,l,v,k,f⟩,c⟩:=I.tuple q;obtain⟨⟨p,g⟩,j,A⟩:=k9 (λx d u=>ih d x u) w e;exact⟨⟨_,.tuple l v f<|by simpa using g⟩,by simpa[PyData.canLay0]using j,by simp only[PyData.depth];omega⟩|list ds=>obtain⟨a,y,rfl,q,w⟩:=h;cases r;obtain⟨m,e,pl,c⟩:=I.list q;obtain⟨o,l,v,k,f⟩:=pl.isList;obtain⟨⟨p,g⟩,j,A⟩:=k9 (λx d u=>ih d x u) w e;exact⟨⟨_,.list l v f<|by simpa using g⟩,by simpa[PyData.canLay0]using j,by simp only[PyData.depth];omega⟩
end
def aB.tup{K H H' a xs}(e:aB H H')(h:SqT K H a xs):SqT K H' a xs:=by
 rcases h with(h|⟨o,h⟩)|h;.exact .inl (.inl<|e _ _ h)
 .exact .inl (.inr ⟨o,e _ _ h⟩)
 .exact .inr h
section
variable{X:Cx}
def ah5:OpR X (compareOp .Eq) λx y H Q=>∃n d e,IsD X.K H n x d/\IsD X.K H n y e/\X.A.units+n<cLine/\Q (.bl<|PyData.eqv d e) H:=by intro a s p H x y v u Q I i k⟨n,d,e,j,b,l,q⟩;obtain⟨⟨m,f⟩,g,o⟩:=I.reads n d x v j i;obtain⟨⟨bs,h⟩,c,r⟩:=I.reads n e y u b k;exact SeqAt.compareEq_reads f h g c (by omega)<|i5 (.bl _) H I rfl q
def ahZ:OpR X (compareOp .NotEq) λx y H Q=>∃n d e,IsD X.K H n x d/\IsD X.K H n y e/\X.A.units+n<cLine/\Q (.bl !PyData.eqv d e) H:=by intro a s p H x y v u Q I i k⟨n,d,e,j,b,l,q⟩;obtain⟨⟨m,f⟩,g,o⟩:=I.reads n d x v j i;obtain⟨⟨bs,h⟩,c,r⟩:=I.reads n e y u b k;exact SeqAt.compareNe_reads f h g c (by omega)<|i5 (.bl _) H I rfl q
def ah4:OpR X (compareOp .In) λx y H Q=>∃n d a,IsD X.K H n x d/\(IsD X.K H (n+1) y (.list a)\/IsD X.K H (n+1) y (.tuple a))/\X.A.units+1+n<cLine/\Q (.bl<|a.any λz=>PyData.eqv z d) H:=by
 intro g s r H x y v u Q I j i⟨n,d,a,k,b,m,q⟩;obtain⟨⟨o,f⟩,h,p⟩:=I.reads n d x v k j;rcases b with b|b;.obtain⟨⟨bs,e⟩,c,l⟩:=I.reads _ _ y u b i;exact SeqAt.in_list_reads e f (by simpa[PyData.canLay0]using c) h (by have:=ap5 (PyData.depthAll a) d.depth;omega) ⟨.bl _,H,I,rfl,q⟩
 .obtain⟨⟨bs,e⟩,c,l⟩:=I.reads _ _ y u b i;exact SeqAt.in_tuple_reads e f (by simpa[PyData.canLay0]using c) h (by have:=ap5 (PyData.depthAll a) d.depth;omega) ⟨.bl _,H,I,rfl,q⟩
def zi:OpR X (compareOp .NotIn) λx y H Q=>∃n d b,IsD X.K H n x d/\(IsD X.K H (n+1) y (.list b)\/IsD X.K H (n+1) y (.tuple b))/\X.A.units+1+n<cLine/\Q (.bl !b.any λz=>PyData.eqv z d) H:=by
 intro f s r H x y v u Q I j h⟨n,d,b,k,a,m,q⟩;obtain⟨⟨o,e⟩,g,p⟩:=I.reads n d x v k j;rcases a with a|a;.obtain⟨⟨bs,c⟩,i,l⟩:=I.reads _ _ y u a h;exact SeqAt.notIn_list_reads c e (by assumption) g (by omega) ⟨.bl _,H,I,rfl,q⟩
 .obtain⟨⟨bs,c⟩,i,l⟩:=I.reads _ _ y u a h;exact SeqAt.notIn_tuple_reads c e (by assumption) g (by grind) ⟨.bl _,H,I,rfl,q⟩
def ak9{x T pos}(d:Gl X x)(e:X.mg x=none)(c:bootBuiltins x=some (.type T))(a:x≠"__name__":=by decide)(b:Dbg x:=by decide):PE X (.Name x pos) (tC<|.ty T):=afu d e c rfl a b
def TyV(K:W.Frag)(H:Hp)(x:V)(t:Value):Prop:=TyOf K H x t\/∃a b,x=.ref a/\t=.type "tuple"/\SqT K H a b
def tY:bC X (.builtin "isinstance") λf H Q=>∃x T t b,f=[x,.ty T]/\TyV X.K H x t/\W.kitOne X.K t (.type T)=some b/\Q (.bl b) H:=by
 intro c s v H f n Q I r h;obtain⟨x,T,t,b,rfl,ty,e,q⟩:=h;obtain⟨u,w,rfl,d,k⟩:=vals2 r;cases k;rcases ty with ty|⟨a,p,rfl,rfl,i⟩;.exact aad I d ty e λg=>⟨.bl b,H,I.tok _,rfl,q⟩
 .cases d;obtain⟨l,_,⟨o,j,m,_⟩,_⟩:=I.tuple i;exact apr W.kitx_tuple I.kIn ⟨o,j,m⟩ e (λz=>nomatch z) λg=>⟨.bl b,H,I.tok _,rfl,q⟩
end
def av{H p}(h:H p=none)(o):aB H (upd H p o):=λb u q=>by rw[ai (aS q h)];exact q
end L2
set_option autoImplicit true
set_option relaxedAutoImplicit true
namespace L2
open PySem PySem.Spec PyProof.Rows
section
variable{prog:Program}{w:World}{A:Around}{E:Value->Shared->Prop}{s:Shared}
def m8{it t i c x Q}(a:s.heap.IsTupleIter it t i)(ht:s.heap.IsTuple t c)(h:c[i]?=some x)(j:∀g,g.IsTupleIter it t (i+1)->Heap.SameBut it s.heap g->Q x {s with heap:=g}):wpAny (model prog w) A (Builtin.SmallTypes.nextOf<|.ref it) Q E s:=by refine ix (id a) λo d k b=>?_;obtain⟨m,f,_,l,e⟩:=ht;unfold Builtin.SmallTypes.nextOf;refine anY<|ao5 a.typeIs apG<|apn apG a.typeIs aqP ?_<|aqJ _;show wpAny _ _ (field (.ref it) 0 >>=_) _ _ s;refine anY<|aoB d b (x:=.ref t) rfl ?_;refine anY<|aoB d b (x:=.int i 0) rfl ?_;refine anY<|aps f e ?_;simp only[aq0,h];refine anY (aqm d b (by simp) (an0 ⟨x,rfl,an0 (j _ ?_ (aqH ..))⟩));exact⟨_,apd _ d<|aqy<|apW b _,(Obj.cls_mapFields ..).trans k,by rw[apW b];simp[rawInt]⟩
def qD  (j:A.handled=none)(b:s.heap.IsTupleIter it t i)(ht:s.heap.IsTuple t its)(l:its[i]?=none)(k:∀h e,Heap.ExtBut it s.heap h->(∃o,h.get? e=some o/\o.cls=.type "StopIteration")->E (.ref e) {s with heap:=h}):wpAny (model prog w) A (Builtin.SmallTypes.nextOf<|.ref it) Q E s:=by refine ix (id b) λo f n c=>?_;obtain⟨q,g,_,p,d⟩:=ht;unfold Builtin.SmallTypes.nextOf;refine anY<|ao5 b.typeIs apG<|apn apG b.typeIs aqP ?_<|aqJ _;show wpAny _ _ (field (.ref it) 0 >>=_) _ _ s;refine anY<|aoB f c (x:=.ref t) rfl ?_;refine anY<|aoB f c (x:=.int i 0) rfl ?_;refine anY<|aps g d ?_;simp only[aq0,l];refine anY (aq3<|anY<|aqm f c (by simp) ?_);refine anY ?_;refine anY (m:=firstArgMember _ _)<|wpAny_of_eq (a:=Value.none) (rfl) ?_;refine aqo ?_ (by size_fits);refine anY<|wpAny_handled ?_;rw[j];refine anY<|an0<|wpAny_throw ?_;exact k _ _ (((aqH ..).extBut.push _).push _) ⟨_,aoj _ rfl,rfl⟩
def xk{e it t}{i:Nat}{z x a Q}(B:IsEnum s.heap e it i a)(N:s.heap.IsTupleIter it t i)(ht:s.heap.IsTuple t z)(hx:z[i]?=some x)(c:e≠it)(hQ:∀y,IsEnumOut y e it (i+1) x s.heap.objs.size->y.IsTupleIter it t (i+1)->y.get? s.heap.objs.size=some {cls:=.type "tuple",data:=.seq #[.int i s.toks,x]}->(∀b o,b≠e->b≠it->s.heap.get? b=some o->y.get? b=some o)->Q (some<|.ref s.heap.objs.size) {s with heap:=y,toks:=s.toks+1}):wpAny (model prog w) A (pyNext<|.ref e) Q E s:=by
 have hT:s.TypeIs (.ref e) "enumerate":=⟨_,B,rfl⟩;unfold pyNext;refine anY<|ap9<|ao5 (name:=Str.ofString "__next__") hT ap3<|apn ap3 hT F.entry_enumerate_next ?_<|F.args_enumerate_next_1 _;obtain⟨l,g,d,f,os⟩:=s;show wpAny _ _ (field (.ref e) 2 >>=_) _ _ _;refine anY<|aoB B rfl (x:=.ref it) rfl ?_;refine anY (m8 N ht hx λj K v=>?_);replace v:Heap.SameBut it l j:=v;have I:IsEnum j e it i a:=(v.2 e c).trans B;show wpAny _ _ (field (.ref e) 3 >>=_) _ _ ⟨j,g,d,f,os⟩;refine anY<|aoB I rfl (x:=rawInt i) rfl ?_;show wpAny _ _ (field (.ref e) 4 >>=_) _ _ ⟨j,g,d,f,os⟩;refine anY<|aoB I rfl (x:=.none) rfl ?_;show wpAny _ _ (mkInt i >>=_) _ _ ⟨j,g,d,f,os⟩;refine anY<|wpAny_mkInt ?_;refine anY (aoZ I (by simp) λD Y n=>?_);replace n:Heap.SameBut e j D:=n;replace Y:IsEnum D e it ((i:Int)+1) a:=Y;show wpAny _ _ (setField (.ref e) 4 .none >>=_) _ _ ⟨D,g,d,f+1,os⟩;refine anY (aoZ Y (by simp) λk G u=>?_);replace u:Heap.SameBut e D k:=u;replace G:IsEnum k e it ((i:Int)+1) a:=G;show wpAny _ _ (newTuple [.int i f,x]>>=_) _ _ ⟨k,g,d,f+1,os⟩;refine anY<|wpAny_newTuple ?_;have C:IsEnum (k.push {cls:=.type "tuple",data:=.seq #[.int i f,x]}) e it ((i:Int)+1) a:=anZ _ G;generalize q4:k.push {cls:=.type "tuple",data:=.seq #[.int i f,x]}=h4 at C;have Z:k.objs.size=l.objs.size:=by rw[u.1,n.1,v.1]
 have J:=an9 B;have t4:h4.get? l.objs.size=some {cls:=.type "tuple",data:=.seq #[.int i f,x]}:=by rw[<-q4,<-Z];exact aoj _ rfl
 have k4:∀b o,b≠e->b≠it->l.get? b=some o->h4.get? b=some o:=λb o h R U=>by rw[<-q4];exact anZ _<|u.extBut b o h<|n.extBut b o h<|v.extBut b o R U
 have O:h4.IsTupleIter it t (i+1):=by rw[<-q4];refine gB ((K.extBut n.extBut<|aom c).extBut u.extBut<|aom c) λo ho r=>?_;exact⟨o,anZ _ ho,r⟩
 show wpAny _ _ (Builtin.SmallTypes.ownedTupleIsFree (.ref e)>>=_) _ _ ⟨h4,g,d,f+1,os⟩;rw[Z];refine anY ?_;unfold Builtin.SmallTypes.ownedTupleIsFree;refine anY<|aoB C rfl (x:=.none) rfl<|an0 ?_;simp only[aqa];refine anY<|aq3 ?_;refine anY<|aoB C rfl (x:=a) rfl ?_;refine anY (aoZ C (by simp) λM P q=>?_);replace q:Heap.SameBut e h4 M:=q;replace P:IsEnum M e it ((i:Int)+1) x:=P;refine anY ?_;unfold Builtin.SmallTypes.ownedTupleHandOut;refine anY (aoZ P (by simp) λS H p=>?_);replace p:Heap.SameBut e M S:=p;replace H:IsEnumOut S e it ((i:Int)+1) x l.objs.size:=H;refine aoZ H (by simp) λT X m=>?_;replace m:Heap.SameBut e S T:=m;replace X:IsEnumOut T e it ((i:Int)+1) x l.objs.size:=X;refine anY<|wpAny_letGo<|an0 ⟨_,rfl,an0<|hQ T X ?_ ?_ ?_⟩;.exact((O.extBut q.extBut<|aom c).extBut p.extBut<|aom c).extBut m.extBut (aom c)
 .exact m.extBut _ _ (aoE J) (p.extBut _ _ (aoE J)<|q.extBut _ _ (aoE J) t4)
 .exact λb o h R U=>m.extBut b o h<|p.extBut b o h<|q.extBut b o h<|k4 b o h R U
def aaC{e it t}{i:Nat}{a b Q}(j:A.handled=none)(g:IsEnum s.heap e it i b)(d:s.heap.IsTupleIter it t i)(ht:s.heap.IsTuple t a)(l:a[i]?=none)(m:∀c,Heap.ExtBut it s.heap c->Q none {s with heap:=c}):wpAny (model prog w) A (pyNext<|.ref e) Q E s:=by have h:s.TypeIs (.ref e) "enumerate":=⟨_,g,rfl⟩;refine anY<|ap9<|ao5 h ap3<|apn ap3 h F.entry_enumerate_next ?_<|F.args_enumerate_next_1 _;show wpAny _ _ (field (.ref e) 2 >>=_) _ _ _;refine anY<|aoB g rfl rfl ?_;refine anY (qD j d ht l λc x p f=>?_);refine gB f λo k n=>?_;refine anY<|wpAny_isInstance ⟨o,k,n⟩ isSubtype_stop ?_;exact an0<|m _ p
end
section
open PySem.AutoSeq1(wpAny_loadPart')
def aaB(l)(a)(n)(d)(sl):Meets (Builtin.«enumerate.__new__» ⟨[.type "enumerate",.ref l],[]⟩) λ_ R s=>s.heap.get? l=some {cls:=.type "tuple",dict:=d,data:=.seq a n,slots:=sl}/\R (.ok<|.ret<|.ref (s.heap.push {cls:=.type "tuple_iterator",data:=.fields #[.ref l,.int 0 0]}).objs.size) {s with heap:=(s.heap.push {cls:=.type "tuple_iterator",data:=.fields #[.ref l,.int 0 0]}).push {cls:=.type "enumerate",data:=.fields #[.none,.bool false,.ref s.heap.objs.size,rawInt 0,.none,.none]}}:=.of_wp λe w A R s h=>by obtain⟨c,h⟩:=h;have f:=sub_enumerate;have g:Heap.IsTuple _ l a:=⟨_,c,rfl,n,rfl⟩;wp_walk using wpAny_loadPart' c;refine wpAny_stack_any λst=>an0 ?_;generalize Builtin.SmallTypes.calledThroughType.match_1 (λ_=>Bool) _ _ _=b;cases b<;>(wp_walk using wpAny_loadPart' c,aqj g;exact⟨_,rfl,h⟩)
variable{prog:Program}{w:World}{A:Around}{E:Value->Shared->Prop}{s:Shared}
def xN{l a Q}(q:s.heap.IsTuple l a)(h:∀d,IsEnum d (s.heap.objs.size+1) s.heap.objs.size 0 .none->d.IsTupleIter s.heap.objs.size l 0->(∀b o,s.heap.get? b=some o->d.get? b=some o)->Q (.ref<|s.heap.objs.size+1) {s with heap:=d}):wpAny (model prog w) A (call (.type "enumerate") [.ref l]) Q E s:=by
 obtain⟨⟨c,g,r,p⟩,m,f,n,k⟩:=q;replace f:c=.type "tuple":=f;subst f k;refine callType_new F.called_enumerate (by decide) (F.typeCall_enumerate_1 _) (F.newCall_enumerate_1 _) (λe=>F.args_object_init_2 e _) F.entry_enumerate_new (aaB l a n g p) ⟨m,?_⟩;have j:(s.heap.push {cls:=.type "tuple_iterator",data:=.fields #[.ref l,.int 0 0]}).objs.size=s.heap.objs.size+1:=apq ..;show _/\_;rw[j];have i:=by have z:=aoj (s.heap.push {cls:=.type "tuple_iterator",data:=.fields #[.ref l,.int 0 0]}) (o:={cls:=.type "enumerate",data:=.fields #[.none,.bool false,.ref s.heap.objs.size,rawInt 0,.none,.none]}) rfl;rw[j]at z;exact z
 exact⟨⟨_,i,rfl⟩,h _ i ⟨_,anZ _<|aoj _ rfl,rfl,rfl⟩ λb o x=>anZ _<|anZ _ x⟩
end
def Inv.yr    (I:Inv X pins σ H s)(k:∀c o,c≠a->c≠b->s.heap.get? c=some o->h'.get? c=some o)(g:uc X pins H a)(h:uc X pins H b):Inv X pins σ H {s with heap:=h',toks:=t'}:=by
 have i:∀c u,H c=some u->c≠a/\c≠b:=λc u e=>⟨aS e g.1,aS e h.1⟩;have f:∀{c:Addr},c∉[a,b]->c≠a/\c≠b:=λ{c}d=>⟨λz=>d (by simp[z]),λz=>d<|by simp[z]⟩;refine I.step (d':=s.drawn) (λc d=>?_) (λc o _ _ d e _=>k c o (f d).1 (f d).2 e) (λc o _ _ d e _=>⟨o.slots,k c o (f d).1 (f d).2 e⟩) (λ_ _ _ _ n=>n) (λc o d e=>⟨o,k c o (f d).1 (f d).2 e⟩) (λ_ _ e=>e) (λ_ _ _ e=>e) (λc ps e=>⟨#[],by rw[e];simp⟩) (λm x=>?_) (λc u e=>?_) I.bare
 .have j:c=a\/c=b:=by simpa using d
  rcases j with rfl|rfl;.exact⟨g.2.2.2.1,g.2.1,g.2.2.2.2.1,g.2.2.2.2.2⟩
  .exact⟨h.2.2.2.1,h.2.1,h.2.2.2.2.1,h.2.2.2.2.2⟩
 .refine vV x λo t w p r=>?_;exact abx o t w (k _ o (aom g.2.1) (aom h.2.1) p) r
 .refine(I.hok c u e).n5 (λl v d q=>k l v ?_ ?_ q) (λ_ q=>q) λ_ _ q=>q
  .rcases d with z|z;.rw[z];exact(i c u e).1
   .exact(i l _ z).1
  .rcases d with z|z;.rw[z];exact(i c u e).2
   .exact(i l _ z).2
def Ite(K:W.Frag)(a:Addr):It:=⟨λi H=>∃b x,SqT K H a b/\b[i]?=some x,λi H x c=>∃p,x=.ref p/\H p=none/\∀b,SqT K H a b->∃y,b[i]?=some y/\c=upd H p (.tup [.int i,y]),λi H=>∃b,SqT K H a b/\b.length<=i⟩
def wg{P:Program}{w:World}{K:W.Frag}{es:List Expr}{k:Nat}{pos:Pos}(a e it:Addr)(hne:e≠it):Turn P w K (.Tuple es k pos) (Ite K a) [e,it] e λi h=>(∃old,IsEnum h e it i old)/\h.IsTupleIter it a i where
 mem:=by simp
 obj:=λi h st b hb=>by
  obtain⟨⟨old,he⟩,o,ho,hc,hd⟩:=st;have hb':b=e\/b=it:=by simpa using hb
  rcases hb' with rfl|rfl;.exact⟨_,he,λv z=>by cases z⟩
  .exact⟨o,ho,λv z=>by rw[hd]at z;cases z⟩
 keep:=λi h h' st kk=>by obtain⟨⟨old,he⟩,o,ho,r⟩:=st;exact⟨⟨old,kk e (by simp) _ he⟩,o,kk it (by simp) o ho,r⟩
 item:=by
  intro X hP hw hK i pins s σ H E hc I hf st hg;subst hP hw hK;obtain⟨⟨old,he⟩,hit⟩:=st;obtain⟨xs,x,hq,hx⟩:=hg;obtain⟨its,rv,p,hz⟩:=I.tuple hq;obtain⟨u,hu,ru⟩:=rv.get hx;have fe:=hf e (by simp);have fi:=hf it (by simp);refine xk he hit (show s.heap.IsTuple a its.toArray from p) (x:=u) (by simpa using hu) hne λh' eo it' tp kp=>?_;have I1:=I.yr (t':=s.toks+1) kp fe fi;have hfr:=I.hok.fresh<|aob _;have hnT:∀b o,s.heap.get? b=some o->b≠s.heap.objs.size:=λb o q=>aoi<|an9 q;have I2:Inv X pins σ (upd H s.heap.objs.size<|.tup [.int i,x]) {s with heap:=h',toks:=s.toks+1}:=by
   refine I1.wj hfr I.sz (aoE I.lt) (λy c q=>?_) (λpp hp=>hnT _ _ (I.pin pp hp).1) ⟨by show 2<=sizeLine;decide,[.int i s.toks,u],.cons ⟨_,rfl⟩<|.cons ru .nil,?_⟩;.obtain⟨v,z⟩:=I.cell y c q;exact aoi z.lt
   .exact⟨_,tp,rfl,0,rfl⟩
  refine⟨_,rfl,aqU (s:={s with heap:=h',toks:=s.toks+1}) eo λh2 e2 s2=>?_⟩;have hTe:=aom<|hnT _ _ he;obtain⟨o1,ho1,_⟩:=hit;have hTi:=aom<|hnT _ _ ho1;refine⟨.ref s.heap.objs.size,upd H s.heap.objs.size<|.tup [.int i,x],?_,rfl,⟨_,rfl,hfr,λys hy=>⟨x,by rw[I.kG hy hq];exact hx,rfl⟩⟩,⟨⟨_,e2⟩,?_⟩,λb hb=>?_⟩;.exact I2.turned (t':=s.toks+1) (it:=e) (λb o hb q=>(s2.2 b hb).trans q) (by rw[ai (aom hTe)];exact fe.1) fe.2.1 fe.2.2.2.1 fe.2.2.2.2.1 fe.2.2.2.2.2
  .exact it'.extBut s2.extBut (aom hne)
  .have hb':b=e\/b=it:=by simpa using hb
   rcases hb' with rfl|rfl;.rw[ai (aom hTe)];exact fe.1
   .rw[ai (aom hTi)];exact fi.1
 done:=by intro X hP hw hK i pins s σ H E hc I hf st hg;subst hP hw hK;obtain⟨⟨old,he⟩,hit⟩:=st;obtain⟨xs,hq,hx⟩:=hg;obtain⟨its,rv,p,hz⟩:=I.tuple hq;have fi:=hf it (by simp);have hl:=rv.length;exact aaC (I.ok.hd hc) he hit (show s.heap.IsTuple a its.toArray from p) (by simp;omega) λh' eb=>⟨rfl,I.turned (t':=s.toks) (λb o hb q=>eb b o hb q) fi.1 fi.2.1 fi.2.2.2.1 fi.2.2.2.2.1 fi.2.2.2.2.2⟩
 self:=λ_ _ _ _ _ h0_ h=>by obtain⟨⟨_,he⟩,_⟩:=h0_;exact aqq he h
end L2
namespace L2
open PySem PySem.Spec PyProof.Rows
def akc(K:W.Frag)(a:Addr):It:=⟨λi H=>∃b x,SqL K H a b/\b[i]?=some x,λi H x c=>∃p,x=.ref p/\H p=none/\∀b,SqL K H a b->∃y,b[i]?=some y/\c=upd H p (.tup [.int i,y]),λi H=>∃b,SqL K H a b/\b.length<=i⟩
def wh{P:Program}{w:World}{K:W.Frag}{es:List Expr}{k:Nat}{pos:Pos}(a e it:Addr)(hne:e≠it):Turn P w K (.Tuple es k pos) (akc K a) [e,it] e λi h=>(∃old,IsEnum h e it i old)/\h.IsListIter it a i where
 mem:=by simp
 obj:=λi h st b hb=>by
  obtain⟨⟨old,he⟩,o,ho,hc,hd⟩:=st;have hb':b=e\/b=it:=by simpa using hb
  rcases hb' with rfl|rfl;.exact⟨_,he,λv z=>by cases z⟩
  .exact⟨o,ho,λv z=>by rw[hd]at z;cases z⟩
 keep:=λi h h' st kk=>by obtain⟨⟨old,he⟩,o,ho,r⟩:=st;exact⟨⟨old,kk e (by simp) _ he⟩,o,kk it (by simp) o ho,r⟩
 item:=by
  intro X hP hw hK i pins s σ H E hc I hf st hg;subst hP hw hK;obtain⟨⟨old,he⟩,hit⟩:=st;obtain⟨xs,x,hq,hx⟩:=hg;obtain⟨its,rv,p,hz⟩:=I.list hq;obtain⟨u,hu,ru⟩:=rv.get hx;have fe:=hf e (by simp);have fi:=hf it (by simp);refine wpAny_pyNext_enum_item he hit p.isList (x:=u) (by simpa using hu) hne λh' eo it' tp _ kp=>?_;have I1:Inv X pins σ H {s with heap:=h',toks:=s.toks+1}:=I.yr (t':=s.toks+1) kp fe fi;have hfr:H s.heap.objs.size=none:=I.hok.fresh<|aob _;have hnT:∀b o,s.heap.get? b=some o->b≠s.heap.objs.size:=λb o q=>aoi<|an9 q;have I2:Inv X pins σ (upd H s.heap.objs.size<|.tup [.int i,x]) {s with heap:=h',toks:=s.toks+1}:=by
   refine I1.wj hfr I.sz (aoE I.lt) (λy c q=>?_) (λpp hp=>hnT _ _ (I.pin pp hp).1) ⟨by show 2<=sizeLine;decide,[.int i s.toks,u],.cons ⟨_,rfl⟩<|.cons ru .nil,?_⟩;.obtain⟨v,z⟩:=I.cell y c q;exact aoi z.lt
   .exact⟨_,tp,rfl,0,rfl⟩
  refine⟨_,rfl,aqU (s:={s with heap:=h',toks:=s.toks+1}) eo λh2 e2 s2=>?_⟩;have hTe:s.heap.objs.size≠e:=aom<|hnT _ _ he;obtain⟨o1,ho1,_⟩:=hit;have hTi:s.heap.objs.size≠it:=aom<|hnT _ _ ho1;refine⟨.ref s.heap.objs.size,upd H s.heap.objs.size<|.tup [.int i,x],?_,rfl,⟨_,rfl,hfr,λys hy=>⟨x,by rw[I.oE hy hq];exact hx,rfl⟩⟩,⟨⟨_,e2⟩,?_⟩,λb hb=>?_⟩;.exact I2.turned (t':=s.toks+1) (it:=e) (λb o hb q=>(s2.2 b hb).trans q) (by rw[ai (aom hTe)];exact fe.1) fe.2.1 fe.2.2.2.1 fe.2.2.2.2.1 fe.2.2.2.2.2
  .exact it'.extBut s2.extBut (aom hne)
  .have hb':b=e\/b=it:=by simpa using hb
   rcases hb' with rfl|rfl;.rw[ai (aom hTe)];exact fe.1
   .rw[ai (aom hTi)];exact fi.1
 done:=by intro X hP hw hK i pins s σ H E hc I hf st hg;subst hP hw hK;obtain⟨⟨old,he⟩,hit⟩:=st;obtain⟨xs,hq,hx⟩:=hg;obtain⟨its,rv,p,hz⟩:=I.list hq;have fi:=hf it (by simp);have hl:=rv.length;exact wpAny_pyNext_enum_end (I.ok.hd hc) he hit p.isList (by simp;omega) λh' eb=>⟨rfl,I.turned (t':=s.toks) (λb o hb q=>eb b o hb q) fi.1 fi.2.1 fi.2.2.2.1 fi.2.2.2.2.1 fi.2.2.2.2.2⟩
 self:=λ_ _ _ _ _ h0_ h=>by obtain⟨⟨_,he⟩,_⟩:=h0_;exact aqq he h
section
variable{X:Cx}
def aiK(K:W.Frag)(e:TE):TI:=λd H R=>e d H λx b=>∃a,x=.ref a/\((∃c,SqT K b a c)/\R (Ite K a) b\/(∃c,SqL K b a c)/\R (akc K a) b)
def r9{l:Expr}{B:TE}{es:List Expr}{k:Nat}{N p pos:Pos}(G:Gl X "enumerate")(S:X.mg "enumerate"=none)(J:PE X l B)(hs:starEach [l] X.env=[(false,eval l X.env)]:=by rfl):PI X (.Tuple es k N) (.Call (.Name "enumerate" p) [l] [] pos) (aiK X.K B):=by intro g s Q H R I h;have M:PA X [l] (hU B xT):=aU J bY (by unfold SE;rw[hs];rfl);refine Call_ (g0 I G S boot_enumerate<|aoW (thn (M pos g s Q H (λw f=>match w with|[x]=>∃a,x=.ref a/\((∃r,SqT X.K f a r)/\R (Ite X.K a) f\/(∃r,SqL X.K f a r)/\R (akc X.K a) f)|_=>False) I h) λU c z=>?_) hs rfl);obtain⟨w,f,j,t,d⟩:=z;match w,d,t with
|[x],d,t=>
  obtain⟨a,rfl,d⟩:=d;obtain⟨u,rfl,T⟩:=vals1 t;cases T;have C:c.heap.objs.size+1≠c.heap.objs.size:=Nat.succ_ne_self _;have D:∀b∈[c.heap.objs.size+1,c.heap.objs.size],uc X g f b:=λb P=>by
   have A:b=c.heap.objs.size+1\/b=c.heap.objs.size:=by simpa using P
   have m:c.heap.objs.size<=b:=by
    rcases A with e|e;.rw[e];exact arA _
    .rw[e];exact aob _
   exact j.aiP m<|j.hok.fresh m
  rcases d with⟨⟨r,y⟩,q⟩|⟨⟨r,y⟩,q⟩;.obtain⟨o,E,p,K⟩:=j.tuple y;refine xN (show c.heap.IsTuple a o.toArray from p) λO n i v=>aqq n ?_;exact⟨c.heap.objs.size+1,[c.heap.objs.size+1,c.heap.objs.size],_,_,f,rfl,j.kept (t':=c.toks) v,wg a _ _ C,⟨⟨_,n⟩,i⟩,D,q⟩
  .obtain⟨o,E,p,K⟩:=j.list y;refine call_enumerate_list p.isList λO n i _ v=>aqq n ?_;exact⟨c.heap.objs.size+1,[c.heap.objs.size+1,c.heap.objs.size],_,_,f,rfl,j.kept (t':=c.toks) v,wh a _ _ C,⟨⟨_,n⟩,i⟩,D,q⟩|[],d,_=>exact d.elim|_::_::_,d,_=>exact d.elim
end
section
variable{κ:Type}[DecidableEq κ]
noncomputable def rD(a:List (κ×V))(k:κ):Option V:=(a.find? λb=>decide (b.1=k)).map (·.2)
noncomputable def putK(a:List (κ×V))(k:κ)(v:V):List (κ×V):=if(a.any λb=>decide (b.1=k))=true then a.map λb=>if b.1=k then(b.1,v)else b else a++[(k,v)]
def dR{p r}{k:κ}(e:p.1=k):rD (p::r) k=some p.2:=by simp[rD,e]
def dU{p r}{k:κ}(e:¬p.1=k):rD (p::r) k=rD r k:=by simp[rD,e]
theorem nU(k):∀a:List (κ×V),(a.any λb=>decide (b.1=k))=(rD a k).isSome
|[]=>rfl|p::r=>by
 rw[List.any_cons];by_cases e:p.1=k;.simp [dR e,aoC e]
 .rw[dU e,aoq e];exact nU k r
theorem pN(k j:κ)(y:V):∀a:List (κ×V),rD a k=none->rD (a++[(k,y)]) j=if j=k then some y else rD a j
|[],_=>by
 by_cases e:k=j;.rw[an4 e.symm];exact dR (p:=(k,y)) e
 .rw[an5 λz=>e z.symm];exact dU (p:=(k,y)) e|p::r,hn=>by
 rw[List.cons_append];have b:¬p.1=k:=λz=>by rw[dR z]at hn;cases hn
 rw[dU b]at hn;have c:=pN k j y r hn;by_cases e:p.1=j;.rw[dR e,dR e,an5 λz=>b<|e.trans z]
 .rw[dU e,dU e,c]
def ie(a)(k:κ)(v):(putK a k v).length<=a.length+1:=by
 unfold putK;split;.rw[aos];omega
 .rw[aoY,aon,aqd];omega
def ab6{a:List (κ×V)}{k:κ}(v:V)(h:rD a k=none):putK a k v=a++[(k,v)]:=by unfold putK;rw[nU,h];exact an5 (by decide)
def rG.aae{o u}(r:rG o u):o.isSome=u.isSome:=by cases o with
|none=>cases u with|none=>rfl|some _=>exact(r).elim
|some _=>cases u with|none=>exact(r).elim|some _=>rfl
def KV.val{a vs}(r:KV a vs)(k:κ):rG (rD a k) (valueAt vs k):=by induction r with|nil=>exact True.intro|@cons p q ps qs h t ih=>
 obtain⟨c,f⟩:=h;by_cases e:p.1=k
 .have b:valueAt (q::qs) k=some q.2:=by simp[valueAt,c.symm.trans e]
  rw[dR e,b];exact f
 .have d:¬q.1=k:=λz=>e<|c.trans z;have b:valueAt (q::qs) k=valueAt qs k:=by simp[valueAt,d]
  rw[dU e,b];exact ih
theorem KV.any{a vs}(r:KV a vs)(k:κ):(a.any λb=>decide (b.1=k))=vs.any λb=>decide (b.1=k):=by induction r with|nil=>rfl|cons h t ih=>rw[List.any_cons,List.any_cons,ih,h.1]
def KV.akX{b vs}(r:KV b vs)(k:κ){y u}(d:RelV y u):KV (b.map λa=>if a.1=k then(a.1,y)else a) (vs.map λa=>if a.1=k then(a.1,u)else a):=by induction r with|nil=>exact .nil|@cons p q ps qs h t ih=>
 rw[aor,aor];refine .cons ?_ ih;obtain⟨c,f⟩:=h;by_cases e:p.1=k;.rw[an4 e,an4<|c.symm.trans e];exact⟨c,d⟩
 .rw[an5 e,an5 λz=>e<|c.trans z];exact⟨c,f⟩
def KV.put{a vs}(r:KV a vs)(k:κ){y u}(b:RelV y u):KV (putK a k y) (stored vs k u):=by
 unfold putK stored;rw[r.any k];by_cases e:(vs.any λc=>decide (c.1=k))=true;.rw[an4 e,an4 e];exact r.akX k b
 .rw[an5 e,an5 e];exact Paired.snoc r ⟨rfl,b⟩
theorem KV.length{a}{vs:List (κ×Value)}(r:KV a vs):a.length=vs.length:=Paired.length r
end
def acY{P w}:∀{k u},RelV (kV k) u->(cE P w).is k u=true|.inl (some i),u,r=>by obtain⟨t,e⟩:=r;subst e;exact sN P w i t|.inl none,u,r=>by cases r;rfl|.inr x,u,r=>by obtain⟨t,e⟩:=r;subst e;exact sM P w x t
theorem qL{P w}:∀{ks us},Vals (ks.map kV) us->ItemsAre (cE P w) ks us|[],_,r=>by cases r;exact .nil|k::ks,_,r=>by cases r with|cons h t=>exact .cons (acY h)<|qL t
abbrev KT(H:Hp):List (List Key×V)->List (List Key×Addr×Value)->Prop:=Paired λp q=>p.1=q.1/\H q.2.1=some (.tup<|p.1.map kV)/\RelV p.2 q.2.2
def KT.val{H a xs}(r:KT H a xs)(k):rG (rD a k) ((atKey xs k).map (·.2)):=by induction r with|nil=>exact True.intro|@cons p q ps qs h t ih=>
 refine agE h λc _ f=>?_;by_cases e:p.1=k
 .have b:atKey (q::qs) k=some q.2:=by simp[atKey,c.symm.trans e]
  rw[dR e,b];exact f
 .have d:¬q.1=k:=λz=>e<|c.trans z;have b:atKey (q::qs) k=atKey qs k:=by simp[atKey,d]
  rw[dU e,b];exact ih
def KT.akX{H a xs}(r:KT H a xs)(k){y u}(f:RelV y u):KT H (a.map λc=>if c.1=k then(c.1,y)else c) (xs.map<|putAt k u):=by induction r with|nil=>exact .nil|@cons p q ps qs h t ih=>
 rw[aor];refine .cons ?_ ih;refine agE h λb d g=>?_;unfold putAt;by_cases e:p.1=k;.rw[an4 e,an4<|b.symm.trans e];exact⟨b,d,f⟩
 .rw[an5 e,an5 λz=>e<|b.trans z];exact⟨b,d,g⟩
def KT.put{H a xs}(r:KT H a xs)(k){b y u}(d:H b=some (.tup<|k.map kV))(c:RelV y u):KT H (putK a k y) (storedH xs k b u):=by
 have e:(a.any λf=>decide (f.1=k))=(atKey xs k).isSome:=by rw[nU,(r.val k).aae,Option.isSome_map]
 unfold putK storedH;rw[e];by_cases q:(atKey xs k).isSome=true;.rw[an4 q,an4 q];exact r.akX k c
 .rw[an5 q,an5 q];exact Paired.snoc r ⟨rfl,d,c⟩
def KT.keeps{H H' a xs}(r:KT H a xs)(ht:∀b c,H b=some (.tup c)->H' b=some (.tup c)):KT H' a xs:=Paired.ajN r λ_ _ z=>⟨z.1,ht _ _ z.2.1,z.2.2⟩
section
variable{P:Program}{w:World}{H:Hp}{h:Heap}{a:Addr}
def ahu{u}(ok:HOk P w H h)(e:Rd H a u):cQ P w H h a u:=e.ok ok
def ai4{b}(ok:HOk P w H h)(e:Rd H a (.dK b)):b.length<=sizeLine/\(a==sysModules)=false/\∃c,KV b c/\h.DictOf (cE P w) a c:=ahu ok e
def ai5{b}(ok:HOk P w H h)(e:H a=some (.dK b)):b.length<=sizeLine/\(a==sysModules)=false/\∃c,KV b c/\h.DictOf (cE P w) a c:=ai4 ok<|.inl e
def qK{ks}(ok:HOk P w H h)(e:H a=some (.tup<|ks.map kV)):(tupleKind<|cE P w).is h ks a:=by obtain⟨_,d,r,o,b,f,n,c⟩:=ok a _ e;exact⟨o,_,n,b,f,c,by simpa using qL r⟩
def al4{c}(ok:HOk P w H h)(e:Rd H a (.dT c)):c.length<=sizeLine/\(a==sysModules)=false/\∃d,KT H c d/\h.DictOfH (tupleKind<|cE P w) a d:=by
 obtain⟨z,y,d,r,o,g,k,j,s,n,f,i⟩:=ahu ok e;refine⟨z,y,d,r,o,g,k,j,s,n,f,λx b=>?_,i⟩;have all:∀{l}{m},KT H l m->∀x∈m,(tupleKind<|cE P w).is h x.1 x.2.1:=by intro l m q;induction q with|nil=>intro x b;exact nomatch b|@cons p q ps qs hq t ih=>
   intro x b;rcases an7.mp b with e|b;.exact qK ok (by grind)
   .exact ih x b
 exact all r x b
def al5{b}(ok:HOk P w H h)(e:H a=some (.dT b)):b.length<=sizeLine/\(a==sysModules)=false/\∃c,KT H b c/\h.DictOfH (tupleKind<|cE P w) a c:=al4 ok<|.inl e
end
def ajh(H:Hp)(a:Addr)(y v:V)(H':Hp):Prop:=(∃c k,H a=some (.dK c)/\y=kV k/\c.length<sizeLine/\H'=upd H a (.dK<|putK c k v))\/∃c k b,H a=some (.dT c)/\y=.ref b/\H b=some (.tup<|k.map kV)/\c.length<sizeLine/\H'=upd H a (.dT<|putK c k v)
theorem ajh.k{H a b k v}(e:H a=some (.dK b))(c:b.length<sizeLine):ajh H a (kV k) v (upd H a<|.dK<|putK b k v):=.inl ⟨_,k,e,rfl,c,rfl⟩
section
variable{X:Cx}{pins:List (Addr×Obj)}{σ:St}{H:Hp}{s:Shared}{a:Addr}{y v:V}{u r:Value}{A:Around}{E:Value->Shared->Prop}
def Inv.big(I:Inv X pins σ H s):sysModules<s.heap.objs.size:=by exact Nat.lt_trans (by decide) (I.mod.glob.keeps I.bk).lt
def tH{h' t' ob}(I:Inv X pins σ H s)(e:Mut (H a))(hs:Heap.SameBut a s.heap h')(d:∃q,h'.get? a=some q)(new:cQ X.prog X.w (upd H a ob) h' a ob):Inv X pins σ (upd H a ob) {s with heap:=h',toks:=t'}:=I.write  e (.inl rfl) (λb q c z=>(hs.2 b c).trans z) d new
def aeu{P w H' h' b vs}(z:b.length<=sizeLine)(d:(a==sysModules)=false)(c:KV b vs)(dd:h'.DictOf (cE P w) a vs):cQ P w H' h' a (.dK b):=⟨z,d,vs,c,dd⟩
def aaQ{H' Q}(M:A.units+1<cLine)(I:Inv X pins σ H s)(g:ajh H a y v H')(J:RelV y u)(B:RelV v r)(h:∀D,Inv X pins σ H' D->Q () D):wpAny (model X.prog X.w) A (setItem (.ref a) u r) Q E s:=by
 rcases g with⟨f,k,e,x,l,t⟩|⟨f,k,b,e,x,G,l,t⟩
 .subst x t;obtain⟨z,m,P,d,dd⟩:=ai5 I.hok e;have w:P.length<=sizeLine:=by rw[<-d.length];exact z
  have p:(putK f k v).length<=sizeLine:=by have:=ie f k v;omega
  refine wpAny_setItem_pairs (hsz:=w) (acY J) dd λK i n=>h _ ?_;have T:∃q,K.get? a=some q:=let⟨q,_,_,j,_⟩:=i;⟨q,j⟩;exact tH I (by rw[e];exact True.intro) n T<|aeu p m (d.put k B) i
 .subst x t;cases J;obtain⟨z,m,Y,d,dd⟩:=al5 I.hok e;have w:Y.length<=sizeLine:=by rw[<-Paired.length d];exact z
  have p:(putK f k v).length<=sizeLine:=by have:=ie f k v;omega
  refine wpAny_setItem_heap (hsz:=w) (tupleKind_room_in1 M) (qK I.hok G) dd λK i n=>h _ ?_;obtain⟨q,O,S,j,Z,R,U,_,N⟩:=i;refine tH I (by rw[e];exact True.intro) n ⟨q,j⟩ ⟨p,m,_,(d.put k G B).keeps λc ys C=>?_,q,O,S,j,Z,R,U,N⟩;rw[ai (aly C e λz=>nomatch z)];exact C
end
def akO(f ty tv:TE):TS:=λD b H=>tv b H λv e=>f b e λx g=>ty b g λy d=>∃a c,x=.ref a/\ajh d a y v c/\D.nx b c
section
variable{X:Cx}{o i value:Expr}{pos pos':Pos}{td ty tv:TE}
def afl(d:X.A.units+1<cLine)(z:PE X o td)(f:PE X i ty)(B:PE X value tv)(hs:swapsWith value (some<|.Subscript o i pos') pos.line X.env=pure false):PS X (.Assign [.Subscript o i pos'] value pos) (akO td ty tv):=by intro c s b H D I h;refine wpAny_Assign_Subscript (thn (B _ s b H _ I h) λr P⟨v,J,w,j,C⟩=>thn (z _ _ b _ _ w C) λu E⟨x,M,n,A,k⟩=>thn (f _ _ b _ _ n k) λG O⟨y,N,l,m,a,p,ex,g,q⟩=>?_) hs;subst ex;obtain rfl:=A;exact aaQ d l g m j λK t=>⟨b,p,t,q⟩
end
def vD{P w H}(h:Heap)(a:sysModules<h.objs.size):cQ P w H (h.push {cls:=.type "dict",data:=.dict #[]}) h.objs.size (.dK []):=⟨aoF _,ao0.mpr<|aom<|aoi a,[],.nil,Heap.DictOf.new h⟩
def ahh:TE:=λ_ H Q=>∀p,H p=none->Q (.ref p) (upd H p<|.dK [])
section
variable{X:Cx}{pos:Pos}
def acn:PE X (.Dict [] [] pos) ahh:=λa s b H Q I h=>wpAny_Dict_empty ⟨.ref _,_,I.laid  (λ_ _ q=>anZ _ q) (aob _)<|vD _ I.big,rfl,h _<|I.hok.fresh<|aob _⟩
end
def uH:List (TE×TE)->St->Hp->(List (V×V)->Hp->Prop)->Prop|[],_,H,Q=>Q [] H|(tk,tv)::r,σ,H,Q=>tk σ H λx c=>tv σ c λy a=>uH r σ a λps b=>Q ((x,y)::ps) b
abbrev VV:List (V×V)->List (Value×Value)->Prop:=Paired λp q=>RelV p.1 q.1/\RelV p.2 q.2
def PPs(X:Cx)(pos:Pos)(keys:List (Option Expr))(a:List Expr)(d:List (TE×TE)):Prop:=∀(b:List (Addr×Obj))(s:Shared)(c:St)(H:Hp)(Q:List (V×V)->Hp->Prop),Inv X b c H s->uH d c H Q->wpAny (model X.prog X.w) X.A (evalPairs<|pairTrees keys a X.env pos) (λf g=>∃ps e,Inv X b c e g/\VV ps f/\Q ps e) X.xe s
def afm{X:Cx}{pos:Pos}:PPs X pos [] [] []:=λa s b H Q I h=>pairTrees_nil_walk ⟨[],H,I,.nil,h⟩
def ab8{X:Cx}{pos:Pos}{k v:Expr}{ks:List (Option Expr)}{vs:List Expr}{e tv:TE}{b:List (TE×TE)}(hk:PE X k e)(z:PE X v tv)(w:PPs X pos ks vs b):PPs X pos (some k::ks) (v::vs) ((e,tv)::b):=λa s c H Q I h=>pairTrees_cons_walk (thn (hk a s c H _ I h) λu r⟨x,j,q,t,A⟩=>thn (z a r c j _ q A) λC i⟨y,n,m,l,f⟩=>thn (w a i c n _ m f) λws B⟨ps,p,g,d,o⟩=>⟨(x,y)::ps,p,g,.cons ⟨t,l⟩ d,o⟩)
def iQ(b a:List (Key×V)):List (Key×V):=a.foldl (λc d=>putK c d.1 d.2) b
def KV.merge:∀{a:List (Key×V)}{rs:List (Key×Value)}{b:List (Key×V)}{vs:List (Key×Value)},KV a rs->KV b vs->KV (iQ b a) (merged vs rs):=by intro a rs b vs r;unfold KV at r;induction r generalizing b vs with|nil=>intro q;exact q|@cons p q ps qs h t ih=>
 intro c;have e:KV (putK b p.1 p.2) (stored vs q.1 q.2):=by have:=c.put p.1 h.2;rw[<-h.1];exact this
 exact ih e
theorem iR:∀(b a:List (Key×V)),(iQ a b).length<=a.length+b.length|[],a=>by show a.length<=a.length+0;omega|p::r,a=>by have c:=iR r<|putK a p.1 p.2;have d:=ie a p.1 p.2;show(iQ (putK a p.1 p.2) r).length<=_;rw[aon];omega
theorem ny{P:Program}{w:World}:∀{d:List (Key×V)}{ws:List (Value×Value)},VV (d.map λe=>(kV e.1,e.2)) ws->∃rs,Carries (cE P w) ws rs/\KV d rs|[],_,r=>by rw[List.map_nil]at r;cases r;exact⟨[],True.intro,.nil⟩|p::d,_,r=>by rw[aor]at r;cases r with|@cons a b as bs h t=>obtain⟨rs,c,q⟩:=ny (P:=P) (w:=w) t;obtain⟨g,f⟩:=b;exact⟨(p.1,f)::rs,⟨acY h.1,rfl,c⟩,.cons ⟨rfl,h.2⟩ q⟩
def akB(b:List (TE×TE)):TE:=λe H Q=>∀p,H p=none->uH b e (upd H p<|.dK []) λps d=>d p=some (.dK [])/\∃a:List (Key×V),ps=a.map (λc=>(kV c.1,c.2))/\a.length<=15/\Q (.ref p) (upd d p<|.dK<|iQ [] a)
def afs{X:Cx}{pos:Pos}{keys:List (Option Expr)}{b:List Expr}{f:List (TE×TE)}(h:PPs X pos keys b f)(i:keys.all (·.isSome)=true)(r:keys.length=b.length)(G:keys≠[])(k:keys.length<=15):PE X (.Dict keys b pos) (akB f):=by
 intro g s J H Q I q;have C:=I.hok.fresh<|aob s.heap.objs.size;have E:=I.laid (a:=s.heap.objs.size) (o:=.dK []) (h':=s.heap.push {cls:=.type "dict",data:=.dict #[]}) (t':=s.toks) (λ_ _ q=>anZ _ q) (aob _)<|vD s.heap I.big;refine wpAny_Dict_walk (knd:=cE X.prog X.w) i r G k (thn (h g _ J _ _ E<|q _ C) λws M⟨ps,O,m,l,e,j,A,N,t⟩=>?_);subst A;obtain⟨rs,c,y⟩:=ny (P:=X.prog) (w:=X.w) l;obtain⟨z,n,x,K,dd⟩:=ai5 m.hok e;cases K;refine⟨rs,c,dd,λh' d p=>⟨.ref s.heap.objs.size,_,?_,rfl,t⟩⟩;have B:(iQ [] j).length<=sizeLine:=by have u:=iR j [];rw[aqd]at u;rw[apM];omega
 have D:∃q,h'.get? s.heap.objs.size=some q:=let⟨q,_,_,v,_⟩:=d;⟨q,v⟩;exact tH m (by rw[e];exact True.intro) p D<|aeu B n (y.merge .nil) d
section
variable{X:Cx}
theorem lb{h:Heap}:∀{us:List Value}{a:List PyData}{b:List Addr},ReadsAll h us a b->us.length=a.length|_,_,_,.nil=>rfl|_,_,_,.cons _ t=>by rw[aon,aon,lb t]
def abm(p:PyData->Bool)(a:List PyData)(k:Nat):Prop:=(∃d,a[k]?=some d/\p d=true)/\∀m d,m<k->a[m]?=some d->p d=false
def zx:MtR X "list.index" λx r H Q=>∃n y d b k,r=[y]/\IsD X.K H n y d/\IsD X.K H (n+1) x (.list b)/\X.A.units+1+n<cLine/\abm (λz=>PyData.eqv z d) b k/\b.length<=1000000/\Q (.int k) H:=by
 intro w s σ H x r v Z Q I M B⟨n,y,d,b,k,e,G,N,P,⟨⟨U,f,E⟩,l⟩,R,q⟩;subst e;obtain⟨u,rfl,O⟩:=vals1 B;obtain⟨⟨as,J⟩,C,S⟩:=I.reads n d y u G O;obtain⟨⟨bs,K⟩,i,T⟩:=I.reads _ _ x v N M;have i:PyData.canLayAll0 b=true:=by simpa[PyData.canLay0]using i
 cases K with|@list a o its m ds' as' h1 h2 h3 h4=>
 obtain⟨cl,dd,dt,D⟩:=o;cases h2;cases h3;have h:=SeqAt.readsAll_map b _ _ i h4;have c:=lb h4;have g:∀m(j:m<its.size),b[m]?=some (SeqAt.readOf s.heap its[m]):=λm j=>by rw[<-h,aoy];simp[j]
 have t:k<its.size:=by have:=(aoa.mp f).1;have:its.toList.length=b.length:=c;simp at this;omega
 have A:=g k t;rw[f]at A;have Y:its.size<=1000000:=by have:its.toList.length=b.length:=c;simp at this;omega
 refine arF F.slot_list_index ⟨_,h1,rfl⟩ F.entry_list_index (F.args_list_index_2 _ _) (SeqAt.list_indexAt a its m dd D u (λz=>PyData.eqv (SeqAt.readOf s.heap z) d) k t (by omega) ?_ λm j p=>?_) ⟨h1,SeqAt.items_eqAt h4 J i C (by have:=ap5 (PyData.depthAll b) d.depth;omega),⟨.int k,H,I.tok _,⟨_,rfl⟩,q⟩⟩;.show PyData.eqv (SeqAt.readOf s.heap its[k]) d=true;rw[<-aow A];exact E
 .exact l m _ p (g m j)
def abb(U:X.calm=true):bC X (.builtin "all") λE H Q=>∃(l:Addr)(bs:List Bool),E=[.ref l]/\SqL X.K H l (bs.map V.bl)/\Q (.bl<|bs.all id) H:=by
 intro D s σ H E us Q I r h;obtain⟨l,bs,rfl,N,q⟩:=h;obtain⟨u,rfl,S⟩:=vals1 r;cases S;obtain⟨a,B,pl,hz⟩:=I.list N;have M:=B.length;have T:l<s.heap.objs.size:=by obtain⟨o,_,t,_⟩:=pl;exact an9 t
 have x:∀(i:Nat)(v:Value),a.toArray[i]?=some v->∃b,bs[i]?=some b/\v=Value.bool b:=λi v Y=>by
  have f:a[i]?=some v:=by simpa using Y
  have c:i<(bs.map V.bl).length:=by have:=(aoa.mp f).1;omega
  obtain⟨u,d,G⟩:=B.get<|aod c;rw[f]at d;cases d;have n:i<bs.length:=by simpa using c
  refine⟨bs[i],aod n,?_⟩;rw[List.getElem_map]at G;exact G
 refine call_all_walk (ap1 pl.isList ⟨s.heap.objs.size,_,_,_,_,_,λi=>bs.getD i false,rfl,Walks.list (prog:=X.prog) (w:=X.w) (A:=X.A.in1) (show X.A.in1.handled=none from I.ok.hd U) s.heap.objs.size l (aoi T) a.toArray,⟨⟨_,aoj _ rfl,rfl,rfl⟩,?_⟩,?_,λh' tk R=>?_⟩);.obtain⟨o,k,t,j,Z,y⟩:=pl;exact⟨o,anZ _ t,j,k,y⟩
 .intro i v O P E' K g;obtain⟨b,p,rfl⟩:=x i v K;have g:P (bs.getD i false) O:=g;rw[aoe,p]at g;exact apH g
 .have e:(List.range a.toArray.size).all (λi=>bs.getD i false)=bs.all id:=by
   have m:a.toArray.size=bs.length:=by simp at M⊢;omega
   rw[m,aoz,aoD,aoD];constructor;.intro h b x;obtain⟨i,c,rfl⟩:=apQ x;have:=h i<|aoc.mpr c;rw[aoe,aod c]at this;exact this
   .intro h i c;have c:=aoc.mp c;rw[aoe,aod c];exact h _<|apO c
  rw[e];exact⟨.bl _,H,I.kept λb o C=>R b o (by
  intro z;have J:b=s.heap.objs.size:=by simpa using z
  exact absurd (an9 C)<|by rw[J];exact apw _)<|anZ _ C,rfl,q⟩
def aab:IxR X λx y H Q=>∃a b k v,x=.ref a/\y=kV k/\Rd H a (.dK b)/\rD b k=some v/\Q v H:=by intro d g h s t H x y v u Q I n j⟨a,_,k,z,ex,m,e,l,q⟩i;subst ex m;cases n;obtain⟨r,o,p,c,dd⟩:=ai4 I.hok e;refine gB (rG.some_of<|by rw[<-l];exact c.val k) λw hw f=>?_;exact tail_any dd.typeIs aq5.lookup (wpAny_getItem_of (acY j) dd.mapOf hw<|i5 z H (I.tok _) f q) i
def abn(w:World)(K:W.Frag)(a:Addr)(b:List (Str×V)):Prop:=∃c n,K.lookup a=some ⟨.type "dict",none,.dict c n,#[]⟩/\Paired (λ(p:Str×V)(e:DictEntry)=>(∃t,e.key=.str p.1 t)/\e.hash=PyData.keyHash w.params p.1/\RelV p.2 e.val) b c.toList
theorem nc{w:World}:∀{a es},Paired (λ(p:Str×V)e=>(∃t,e.key=.str p.1 t)/\e.hash=PyData.keyHash w.params p.1/\RelV p.2 e.val) a es->W.KeysLit w.params es|_,_,.nil=>trivial|_,_,.cons ⟨⟨t,e1⟩,e2,_⟩ r=>⟨⟨_,t,e1,e2⟩,nc r⟩
theorem aas{w:World}(k)(v):∀{c es},Paired (λp(e:DictEntry)=>(∃t,e.key=.str p.1 t)/\e.hash=PyData.keyHash w.params p.1/\RelV p.2 e.val) c es->c.lookup k=some v->∃e,es.find? (λe=>Value.isStrOf k e.key)=some e/\RelV v e.val
|_,_,.nil,h=>by simp at h|_,_,.cons (a:=p) (b:=e) ⟨⟨t,e1⟩,e2,rv⟩ r,h=>by
 by_cases d:k=p.1;.obtain⟨g,l⟩:=p;subst d;simp[List.lookup]at h;subst h;exact⟨e,by simp[List.find?,e1,Value.isStrOf],rv⟩
 .obtain⟨g,l⟩:=p;have f:(k==g)=false:=by simpa using d
  simp only[List.lookup,f]at h;refine gB (aas k v r h) λj i m=>?_;refine⟨j,?_,m⟩;rw[aqB,e1];have:Value.isStrOf k (.str g t)=false:=by simp[Value.isStrOf];exact λz=>d z.symm
  rw[this];exact i
def acZ{a0 a}(D:abn X.w X.K a0 a):IxR X λx y H Q=>x=.ref a0/\∃k v,y=.str k/\a.lookup k=some v/\Q v H:=by intro b c d s A H x y v u Q I i o⟨ex,k,z,g,l,q⟩h;subst ex g;cases i;obtain⟨t,rfl⟩:=o;refine eG D λw n m p=>?_;refine gB (aas k z p l) λe j r=>?_;have f:=W.mapOf_K (prog:=X.prog) I.kIn m<|nc p;refine tail_any f.typeIs aq5.lookup (wpAny_getItem_of (strKind_is _ _ k t) f ?_<|i5 z H (I.tok _) r q) h;unfold findBy;rw[<-aqO,j];rfl
end
end L2
set_option autoImplicit true
set_option relaxedAutoImplicit true
namespace L2
open PySem PySem.Spec PyProof.Rows
def V12(dx:DX)(vs:Array Value)(v:Value):Prop:=vs[1]?=some v/\vs[2]?=some dx.2.2/\vs[0]?=some dx.2.1
def Trc(h:Heap)(e C:Addr)(dx:DX)(fl:Value):Option Addr->Prop|none=>∃a b,h.get? e=some a/\a.cls=.ref C/\a.dict=dx.1/\a.data=.fields b/\V12 dx b .none|some T=>T≠e/\∃a b c d,h.get? e=some a/\a.cls=.ref C/\a.dict=dx.1/\a.data=.fields b/\V12 dx b (.ref T)/\h.get? T=some c/\c.data=.fields d/\d[3]?=some fl
def Trc.there{h e C dx fl T}(t:Trc h e C dx fl T):∃a b,h.get? e=some a/\a.cls=.ref C/\a.dict=dx.1/\a.data=.fields b/\b[2]?=some dx.2.2/\b[0]?=some dx.2.1:=by cases T with|none=>refine pE t λa b c i d f g=>?_;exact⟨a,b,c,i,d,f,g.2⟩|some T=>obtain⟨_,a,b,_,_,c,i,d,f,g,_⟩:=t;exact adJ a b c i d f g.2
def Trc.keeps{h h' e C dx fl T}(t:Trc h e C dx fl T)(k:∀b o,b=e\/T=some b->h.get? b=some o->h'.get? b=some o):Trc h' e C dx fl T:=by cases T with|none=>refine eG t λa c d r=>?_;exact⟨a,c,k _ _ (.inl rfl) d,r⟩|some T=>obtain⟨i,a,c,n,j,d,p,m,g,l,f,r⟩:=t;exact⟨i,a,c,n,j,k _ _ (.inl rfl) d,p,m,g,l,k _ _ (.inr rfl) f,r⟩
def Obj.mF(f)(o:Obj):(o.mapFields f).dict=o.dict:=by obtain⟨c,d,a,b⟩:=o;cases a<;>rfl
section
variable{M:Model}{A:Around}{E:Value->Shared->Prop}{s:Shared}
def qT{x g d L e C y vs head l Q}{dx:DX}(N:A.frames=some (g::d))(O:s.heap.FunFrames x (g::d))(S:g.frame=some L)(R:s.heap.get? e=some y)(H:y.data=.fields vs)(hsz:1<vs.size)(n:vs[2]?=some dx.2.2/\vs[0]?=some dx.2.1)(J:y.dict=dx.1)(h:∀G P,(∀b o,s.heap.get? b=some o->b≠e->b∉frs (g::d)->G.get? b=some o)->(∀b o,s.heap.get? b=some o->b∈frs (g::d)->∃I,G.get? b=some {o with slots:=I})->s.heap.objs.size<=P->Trc G e C dx (rawInt L) (some P)->Q () {s with heap:=G})(T:y.cls=.ref C):wpAny M A (do let a <-frameOf g;let pl <-entryPlaceOf L l;let b <-EntryCells.newEntry head a .none (rawInt L) .none pl;setField (.ref e) 1 b) Q E s:=by
 have m:e ∉(g::d).filterMap (·.frame):=λU=>by obtain⟨_,o,D,K⟩:=O.mem U;rw[R]at D;injection D with D;subst D;exact K vs H
 refine anY (wpAny_frameOf_fun N O S λc f=>?_);refine anY (wpAny_entryPlaceOf λpl v=>?_);unfold EntryCells.newEntry newFields;refine anY<|aqo ?_<|v.sizeOk5 _ _ _ _ _;have i:c.get? e=some y:=(f.2.1 e m).trans R;have k:=anZ {cls:=.type "traceback",dict:=none,data:=.fields ([head,.ref L,.none,rawInt L,.none]++if pl.isEmpty then List.replicate 6 Value.none else pl).toArray} i;refine aqm k H hsz ?_;have w:=aoE<|an9 i;have j:=apW H (·.setIfInBounds 1 (Value.ref c.objs.size));have t:=apd (Obj.mapFields (·.setIfInBounds 1 (Value.ref c.objs.size))) k<|aqy j;have r:=(aoT (c.push {cls:=.type "traceback",dict:=none,data:=.fields ([head,.ref L,.none,rawInt L,.none]++if pl.isEmpty then List.replicate 6 Value.none else pl).toArray}) (Obj.mapFields (·.setIfInBounds 1 (Value.ref c.objs.size)))<|aom w).trans<|aoj c rfl;have keep:∀b o,b≠e->c.get? b=some o->((c.push {cls:=.type "traceback",dict:=none,data:=.fields ([head,.ref L,.none,rawInt L,.none]++if pl.isEmpty then List.replicate 6 Value.none else pl).toArray}).update e<|Obj.mapFields (·.setIfInBounds 1 (Value.ref c.objs.size))).get? b=some o:=λb o p B=>by rw[aoT _ _ (aom p)];exact anZ _ B
 refine h _ c.objs.size (λb o B p u=>keep b o p<|(f.2.1 b u).trans B) (λb o B u=>?_) ?_ ?_;.obtain⟨I,q⟩:=f.2.2 b o B;exact⟨I,keep b _ (λz=>m<|z▸u) q⟩
 .rw[f.1];exact aob _
 .exact⟨w,_,_,_,_,t,(Obj.cls_mapFields _ _).trans T,(Obj.mF _ _).trans J,j,⟨by simp[hsz],by rw[aqK];simpa using n.1,by rw[aqK];simpa using n.2⟩,r,rfl,by first|(simp;done)|(rcases v with rfl|⟨_,_,_,_,_,_,_,rfl⟩<;>simp)⟩
def vd{n d a L e C dx fl T Q}(t:A.frames=some (d::a))(x:s.heap.FunFrames n (d::a))(w:d.frame=some L)(ht:Trc s.heap e C dx fl T)(y:(fl==rawInt L)=false)(h:∀i l,(∀b o,s.heap.get? b=some o->b≠e->T≠some b->b∉frs (d::a)->i.get? b=some o)->(∀b o,s.heap.get? b=some o->b∈frs (d::a)->∃X,i.get? b=some {o with slots:=X})->s.heap.objs.size<=l->Trc i e C dx (rawInt L) (some l)->Q () {s with heap:=i}):wpAny M A (noteFrame (.ref e) d) Q E s:=by unfold noteFrame;simp only[w];cases T with|none=>refine pE ht λZ B r O k m j=>?_;refine anY<|aoB r m j.1 ?_;rw[an5 (by decide)];exact qT t x w r m (apb.mp j.1).1 j.2 k (λi l K N J P=>h i l (λb o f I _ H=>K b o f I H) N J P) O|some T=>
 obtain⟨v,Z,B,oT,ts,r,O,k,m,j,S,p,R⟩:=ht;refine anY<|aoB r m j.1 ?_;rw[an4 (by simp)];refine anY<|aoB S p R ?_;rw[an5 (by rw[y];exact aov)];refine anY<|aqm S p (apb.mp R).1 ?_;have other:∀b,b≠T->(s.heap.update T<|Obj.mapFields (·.setIfInBounds 3 Value.none)).get? b=s.heap.get? b:=λb f=>aoT _ _<|aom f;have c:∀b o,s.heap.get? b=some o->(∀B,o.data≠.fields B)->b≠T:=λb o f g q=>by grind
 have G:∀b∈frs (d::a),b≠T:=λb f=>by obtain⟨_,o,Y,g⟩:=x.mem f;exact c b o Y g
 refine qT t (x.of_keeps λb o f g=>⟨o,(other b<|c b o f g).trans f,rfl⟩) w ((other e<|aom v).trans r) m (apb.mp j.1).1 j.2 k (λi l K N J P=>h i l (λb o f I U H=>?_) (λb o f u=>?_) ?_ P) O;.have D:b≠T:=λz=>U (by rw[z]);exact K b o ((other b D).trans f) I H
 .exact N b o ((other b<|G b u).trans f) u
 .rw[<-Heap.size_after_update ..];exact J
def zq{a}{L e C T:Addr}{dx fl Q}(f:a.frame=some L)(ht:Trc s.heap e C dx fl (some T))(c:(fl==rawInt L)=true)(h:Q () s):wpAny M A (noteFrame (.ref e) a) Q E s:=by unfold noteFrame;simp only[f];obtain⟨d,o,p,r,n,i,q,l,g,k,j,b,m⟩:=ht;refine anY<|aoB i g k.1<|anY<|aoB j b m ?_;rw[an4 c];exact an0 h
def xj   (ht:Trc s.heap e C dx fl (some T))(h:∀g,(∀b o,s.heap.get? b=some o->b≠T->g.get? b=some o)->Trc g e C dx (fr.elim .none λf=>rawInt f) (some T)->Q () {s with heap:=g}):wpAny M A (setFlight (.ref e) fr) Q E s:=by obtain⟨d,q,r,w,v,l,t,j,k,n,m,c,u⟩:=ht;have a:=(apb.mp u).1;have other:∀b,b≠T->(s.heap.update T<|Obj.mapFields (·.setIfInBounds 3 (fr.elim Value.none λf=>rawInt f))).get? b=s.heap.get? b:=λb i=>aoT _ _<|aom i;exact anY (aoB l k n.1<|aqm m c a<|h _ (λb o i p=>(other b p).trans i) ⟨d,q,r,_,_,(other e<|aom d).trans l,t,j,k,n,apd _ m<|aqy<|apW c _,apW c _,by simp[a]⟩)
end
def fJ{P w H h a o}(x:cQ P w H h a o):∃ob,h.get? a=some ob:=by cases o with|lst xs=>obtain⟨_,_,_,_,e⟩:=x;exact⟨_,e⟩|tup xs=>obtain⟨_,_,_,o,e,_⟩:=x;exact⟨_,e⟩|dK kvs|dT kvs=>obtain⟨_,_,_,_,o,_,_,e,_⟩:=x;exact⟨_,e⟩|set S n=>obtain⟨o,_,_,_,e,_⟩:=x;exact⟨_,e⟩|ins C dx fs=>obtain⟨_,_,_,e,_⟩:=x;exact⟨_,e⟩|own y=>exact x|xd fs=>obtain⟨_,⟨_,_,_,e,_⟩,_⟩:=x;exact⟨_,e⟩|rng lo hi=>obtain⟨_,_,_,e⟩:=x;exact⟨_,e⟩|frz ob u=>obtain⟨e,_⟩:=x;exact⟨_,e⟩|tbl ps|met f y=>exact⟨_,x⟩|tab ps=>rcases x with e|⟨_,_,_,_,_,e,_⟩<;>exact⟨_,e⟩|ext φ=>obtain⟨_,e,_⟩:=x;exact e
def FpX(X:Cx)(pins:List (Addr×Obj))(H:Hp)(b:Addr):Prop:=H b=none/\b≠X.env.locals/\b∉X.fs/\(b∈X.ex\/X.s₀.heap.get? b=none)/\(∀x c,X.env.cells.lookup x=some c->c≠b)/\∀p∈X.pn++pins,p.1≠b
structure Thr(X:Cx)(pins:List (Addr×Obj))(σ:St)(H:Hp)(s:Shared)(e C:Addr)(dx:DX)(fl:Value)(T:Option Addr):Prop where
 inv:Inv X pins σ H s
 trc:Trc s.heap e C dx fl T
 fe:FpX X pins H e
 fT:∀t,T=some t->FpX X pins H t
section
variable{X:Cx}{pins:List (Addr×Obj)}{σ:St}{H:Hp}{s:Shared}{e C:Addr}{dx:DX}{fl:Value}{T:Option Addr}
def Inv.fpX{H'}(I:Inv X pins σ H s){b}(d:s.heap.get? b=none)(h:H' b=none):FpX X pins H' b:=by
 refine⟨h,λz=>?_,λz=>?_,?_,λx c i z=>?_,λp j z=>?_⟩;.obtain⟨m,⟨o,k,n,a,_⟩,_⟩:=I.loc;rw[<-z,d]at a;cases a
 .obtain⟨_,o,a,_⟩:=I.nj.mem z;rw[d]at a;cases a
 .by_cases g:b∈X.ex;.exact .inl g
  .refine .inr ?_;cases q:X.s₀.heap.get? b with|none=>rfl|some o=>obtain⟨l,f⟩:=I.base.there b o q g;rw[d]at f;cases f
 .obtain⟨v,o,a,_⟩:=I.cell x c i;rw[z,d]at a;cases a
 .have:=(I.pin p j).1;rw[z,d]at this;cases this
def Inv.ajD(I:Inv X pins σ H s){ch:List Addr}{h'}(d:∀b∈ch,FpX X pins H b)(k:∀b o,s.heap.get? b=some o->b∉ch->b∉frs X.stack->h'.get? b=some o)(f:∀b o,s.heap.get? b=some o->b∉ch->b∈frs X.stack->∃i,h'.get? b=some {o with slots:=i}):Inv X pins σ H {s with heap:=h'}:=by
 have any:=λb o q a=>by
  by_cases g:b∈frs X.stack;.exact f b o q a g
  .exact⟨o.slots,k b o q a g⟩
 have trk:∀b u,H b=some u->b∉ch/\b∉frs X.stack:=λb u q=>⟨(λz=>by rw[(d b z).1]at q;cases q),λz=>by rw[I.kR b z]at q;cases q⟩;refine I.n4 (λb g=>⟨(d b g).2.2.2.1,(d b g).2.1,(d b g).2.2.2.2.1,(d b g).2.2.2.2.2⟩) (λb o h j a q _=>k b o q a<|(λb h j z=>(an7.mp<|I.uK b z).elim h j) b h j) (λb o _ _ a q _=>any b o q a) (λ_ _ _ _ n=>n) (λb o a q=>let⟨i,z⟩:=any b o q a;⟨_,z⟩) (λ_ _ q=>q) (λ_ _ _ q=>q) (λb ps q=>⟨#[],by rw[q];simp⟩) (λm x=>?_) (λb u q=>?_) I.bare;.refine vV x λo p t l r=>?_;obtain⟨i,w⟩:=any _ o l λz=>(d _ z).2.1 rfl;exact abx _ p t w r
 .refine(I.hok b u q).n5 (λc v a z=>?_) (λ_ z=>z) λ_ _ z=>z;rcases a with rfl|a;.exact k c v z (trk c u q).1 (trk c u q).2
  .exact k c v z (trk c _ a).1 (trk c _ a).2
variable{M:Model}{E:Value->Shared->Prop}{Q:Unit->Shared->Prop}
def Thr.note(t:Thr X pins σ H s e C dx fl T)(hs:X.stack=X.env::X.outer)(n:X.env.frame=some X.env.locals)(h:∀i l p,Thr X pins σ H {s with heap:=i} e C dx p (some l)->Q () {s with heap:=i}):wpAny M X.A (noteFrame (.ref e) X.env) Q E s:=by
 have I:=t.inv;have g:=I.stack;rw[hs]at g;have j:(fl==rawInt X.env.locals)=false->wpAny M X.A (noteFrame (.ref e) X.env) Q E s:=λc=>by
  refine vd (by rw[<-hs];exact I.ok.frames) g n t.trc c λi l r u k x=>h i l (rawInt X.env.locals) ?_;have f:=I.hok.fresh k;have v:∀b∈e::T.toList,FpX X pins H b:=λb a=>by
   rcases an7.mp a with rfl|a;.exact t.fe
   .exact t.fT b (by grind)
  have d:∀b,b∉e::T.toList->b≠e/\T≠some b:=λb a=>⟨λz=>a (by rw[z];exact aol),λz=>a<|by rw[z];simp⟩;have w:=I.ajD v (λb o q m a=>r b o q (d b m).1 (d b m).2<|by rw[<-hs];exact a) λb o q _ a=>u b o q (by rw[<-hs];exact a);exact⟨w,x,t.fe,λb a=>by cases a;exact I.fpX (aoG k) f⟩
 cases T with|none=>exact(show Thr X pins σ H s e C dx .none none->_ from λt=>by
   have c:((.none:Value)==rawInt X.env.locals)=false:=by simp[rawInt]
   refine vd (by rw[<-hs];exact I.ok.frames) g n t.trc c λi l r u k x=>h i l (rawInt X.env.locals) ?_;have f:=I.hok.fresh k;have w:=I.ajD (λb a=>by rw[aoK.mp a];exact t.fe) (λb o q m a=>r b o q (λz=>m<|by rw[z];exact aol) (by intro z;cases z)<|by rw[<-hs];exact a) λb o q _ a=>u b o q (by rw[<-hs];exact a);exact⟨w,x,t.fe,λb a=>by cases a;exact I.fpX (aoG k) f⟩) ⟨t.inv,t.trc,t.fe,t.fT⟩|some T0=>cases c:fl==rawInt X.env.locals with|false=>exact j c|true=>exact zq n t.trc c<|h s.heap T0 fl t
def Thr.aaq{T fr}(t:Thr X pins σ H s e C dx fl (some T))(h:∀c a,Thr X pins σ H {s with heap:=c} e C dx a (some T)->(fr=none->a=.none)->Q () {s with heap:=c}){A}:wpAny M A (setFlight (.ref e) fr) Q E s:=by exact xj t.trc λc f i=>h c _ ⟨t.inv.ajD (λb g=>by rw[aoK.mp g];exact t.fT T rfl) (λb o q d _=>f b o q λz=>d<|by grind) λb o q d _=>⟨o.slots,f b o q λz=>d<|by grind⟩,i,t.fe,t.fT⟩ λz=>by grind
def Thr.aar{T}(t:Thr X pins σ H s e C dx fl (some T))(h:∀a,Thr X pins σ H {s with heap:=a} e C dx .none (some T)->Q () {s with heap:=a}){A}:wpAny M A (setFlight (.ref e) none) Q E s:=t.aaq λa c b z=>h _<|z rfl▸b
def Thr.pass{n T b c Q}(t:Thr X pins σ H s e C dx fl (some T))(h:∀d a,Thr X pins σ H {s with heap:=d} e C dx a (some T)->E (.ref e) {s with heap:=d}){A}:wpAny M A (PySem.passOn b (.ref e) c:Sem n) Q E s:=by obtain⟨i,q,r,w,p,k,u,m,j,l,o,f,v⟩:=id t.trc;exact anY (aoB k j l.1<|anY<|t.aaq λd a g _=>wpAny_throw<|h _ _ g)
end
def CXX(P:Program)(w:World):CXT:=λa H s E e b=>∃d C f T c,e=.ref d/\b.os=s.os/\AllBare b.gens/\Un (frs a) [] H c s.heap b.heap/\HOk P w c b.heap/\Trc b.heap d C f .none (some T)/\s.heap.get? d=none/\s.heap.get? T=none/\c d=none/\c T=none/\E (.ref C) f c
section
variable{X:Cx}{pins:List (Addr×Obj)}{σ:St}{H:Hp}{s s':Shared}{e:Value}{E:XK}
def Inv.thrown(I:Inv X pins σ H s)(h:CXX X.prog X.w X.stack H s E e s'):∃d C c T a,e=.ref d/\Thr X pins σ a s' d C c .none (some T)/\E (.ref C) c a:=by obtain⟨d,C,c,T,a,rfl,i,k,un,f,g,l,m,j,n,q⟩:=h;exact⟨d,C,c,T,a,rfl,⟨I.adz i un f k λb z=>absurd z (by simp),g,I.fpX l j,λt z=>by cases z;exact I.fpX m n⟩,q⟩
end
def zO{P w K mg d N g scope f h A a s H E pins σ H' s' e C dx T fl}(t:Thr (iu (CXX P w) P w K mg d N g scope f h A a s H E) pins σ H' s' e C dx fl T)(q:E (.ref C) dx H'):(iu (CXX P w) P w K mg d N g scope f h A a s H E).xe (.ref e) s':=by
 refine anY (t.note rfl rfl λl i _ j=>j.aar λk c=>?_);have I:=c.inv;have new:∀b,FpX (iu (CXX P w) P w K mg d N g scope f h A a s H E) pins H' b->s.heap.get? b=none:=λb z=>by
  rcases z.2.2.2.1 with z|z;.exact absurd (show b∈[]from z) (by simp)
  .exact z
 exact⟨e,C,dx,i,H',rfl,I.os,I.bare,I.base,I.hok,c.trc,new e c.fe,new i<|c.fT i rfl,c.fe.1,(c.fT i rfl).1,q⟩
section
variable{X:Cx}{k:Nat}{f:Addr}{fd:FuncData}{ps:List Str}{sp:Sp}{dvs:List V}{ds:List Value}{x:Str}{p pos:Pos}{e:Expr}{es:List Expr}{t:TA}
def uI(X:Cx)(sp:Sp)(dvs:List V)(t:TA):TE:=λc H Q=>t c H λg h=>∃E:XK,sp (g++dvs) h Q E/\∀a s e C b T d,Thr X a c d s e C b .none (some T)->E (.ref C) b d->X.xe (.ref e) s
def yQ    (F:FnOk X.prog X.w X.K X.mg X.base (CXX X.prog X.w) k f fd ps sp)(n:Room k X.A)(m:Binds X.K fd ps ds)(i:Vals dvs ds)(l:∀a s e C c T b,Thr X a σ b s e C c .none (some T)->E (.ref C) c b->X.xe (.ref e) s)(I:Inv X a σ H s)(r:Vals vs us)(h:sp (vs++dvs) H Q E):wpAny (model X.prog X.w) X.A (call (.ref f) us) (EP X a σ Q) X.xe s:=by
 have g:=r.append i;have j:(us++ds).length=ps.length:=by rw[<-g.length];exact F.len _ _ _ _ h
 refine apJ (apA (F.run _ _ s H _ _ _ Q E n trivial I.aiW (m s us I.kIn j) g h) λr o d=>?_);cases r with|error e=>obtain⟨v,C,c,T,b,rfl,t,q⟩:=I.thrown d;exact l _ o v C c T b t q|ok fl=>cases fl with|ret u=>exact I.after d|next|brk|cont=>exact False.elim d
def u4(F:FnOk X.prog X.w X.K X.mg X.base (CXX X.prog X.w) k f fd ps sp)(o:Room k X.A)(j:Gl X x)(v:X.mg x=some (.ref f))(hk:W.keepIn X.K (.ref f)=true)(n:Binds X.K fd ps ds)(i:Vals dvs ds)(g:PA X (e::es) t)(b:Dbg x:=by decide)(l:SE X e es:=by rfl)(a:BT X pos es:=by rfl):PE X (.Call (.Name x p) (e::es) [] pos) (uI X sp dvs t):=by intro d s u H Q I h;exact apB (gi I j v (arc I.ok.mod.kin hk (thn (g _ _ s u H _ I h) λw y⟨z,A,c,r,E,q,m⟩=>⟨c.kIn,yQ F o n i m c r q⟩) l a) b)
end
section
variable{X:Cx}{pins:List (Addr×Obj)}{σ:St}{H:Hp}{s:Shared}{e:Addr}
def Inv.adN{g:HO}(I:Inv X pins σ H s)(f:FpX X pins H e)(new:cQ X.prog X.w (upd H e g) s.heap e g):Inv X pins σ (upd H e g) s:=by
 have d:∀b u,H b=some u->b≠e:=λb u q z=>by rw[z,f.1]at q;cases q
 have:=I.n4 (H':=upd H e g) (d':=s.drawn) (t':=s.toks) (λb a=>by rw[aoK.mp a];exact⟨f.2.2.2.1,f.2.1,f.2.2.2.2.1,f.2.2.2.2.2⟩) (λb o _ _ _ q _=>q) (λb o _ _ _ q _=>⟨o.slots,q⟩) (λb o a _ n=>by rw[ai λz=>a<|by grind];exact n) (λb o _ q=>⟨o,q⟩) (λb i q=>by rw[ai (d b _ q)];exact q) (λb o u q=>by rw[ai (d b _ q)];exact q) (λb ps q=>⟨#[],by rw[ai (d b _ q),q];simp⟩) (λm h=>h) (λb u q=>by
   by_cases a:b=e;.subst a;rw[aj]at q;cases q;exact new
   .rw[ai a]at q;exact(I.hok b u q).n5 (λ_ _ _ z=>z) (λc z=>by rw[ai (d c _ z)];exact z) λc i z=>by rw[ai (d c _ z)];exact z) I.bare;exact this
end
section
variable{X:Cx}{t:TA}{x:Str}{C:Addr}{np cpos pos:Pos}{e:Expr}{es:List Expr}
noncomputable abbrev fD:List Value:=[.type "ValueError",.type "Exception",.type "BaseException",.type "object"]
def ahd(X:Cx)(C:Addr)(t:TA):TS:=λ_ f H=>t f H λc d=>c.length<=sizeLine/\∀a s e b,d b=none->Thr X a f (upd d b<|.tup c) s e C (none,.ref b,.none) .none none->X.xe (.ref e) s
def pz(K:W.Frag)(C:Addr)(r:Option Value):Prop:=∃c b m n bs f d sub l a dd g i j h k,K.lookup C=some (excClassObj m n C b bs c f d sub l a dd g i j h k "ValueError.__new__")/\(W.tailIn K fD c&&W.nsOkIn K b&&W.nsIn K b "__init__"==some r)=true
def pz.mk{K C r bm ns nm b bs a sn sub ab col dd k0 k1 k2 k3 k5}(h:K.lookup C=some (excClassObj nm b C ns bs bm a sn sub ab col dd k0 k1 k2 k3 k5 "ValueError.__new__"))(q:(W.tailIn K fD bm&&W.nsOkIn K ns&&W.nsIn K ns "__init__"==some r)=true):pz K C r:=⟨_,_,_,_,_,_,_,_,_,_,_,_,_,_,_,_,h,q⟩
def pz.out{K:W.Frag}{h:Heap}{r}{P:Prop}(X:K.In h)(q:pz K C r)(k:∀c b o p bs f d sub n a dd g j l i m,h.get? C=some (excClassObj o p C b bs c f d sub n a dd g j l i m "ValueError.__new__")->W.nsOkIn K b=true->W.nsIn K b "__init__"=some r->OwnTail h fD c->P):P:=by obtain⟨c,b,o,p,bs,f,d,sub,n,a,dd,g,j,l,i,m,s,q⟩:=q;simp only[aoo,apl]at q;exact k _ _ _ _ _ _ _ _ _ _ _ _ _ _ _ _ (X _ _ s) q.1.2 q.2<|W.tail_of_in X q.1.1
def ai7{K:W.Frag}{h:Heap}{mg:Str->Option Value}(X:K.In h)(e:mg x=some (.ref C))(q:pz K C none):OwnCls x C fD "ValueError.__new__" mg h:=q.out X λr n p s bs f d sub o b dd i k l j m g a c t=>⟨e,r,n,p,s,bs,f,d,sub,o,b,dd,i,k,l,j,m,_,g,.of_isNs<|W.isNs_of_in X a,W.nsMap_none_of_in X a c,t⟩
def uY(S:X.calm=true)(G:Gl X x)(y:X.mg x=some (.ref C))(q:pz X.K C none)(Q:PA X (e::es) t)(E:Dbg x:=by decide)(r:SE X e es:=by rfl)(a:BT X cpos es:=by rfl):PS X (.Raise (some<|.Call (.Name x np) (e::es) [] cpos) none pos) (ahd X C t):=by
 intro c s U H D I h;obtain⟨Z,N,nm,O,bs,hdct,sn,sub,ab,col,dd,k0,k1,k2,k3,k5,mN,B,M,l,T⟩:=(ai7 (x:=x) I.mod.kin y q).obj;refine wpAny_Raise_call_subT (C:=C) (nm:=nm) (q:=O) (N:=N) (bs:=bs) (bm:=Z) (hdct:=hdct) (sn:=sn) (sub:=sub) (ab:=ab) (col:=col) (dd:=dd) (k0:=k0) (k1:=k1) (k2:=k2) (k3:=k3) (k5:=k5) apm (mN:=mN) (T.hasType apm.hasBase) (I.ok.hd S) (by rw[r];show(false||(backTo cpos _).any (·.1))=false;rw[a];rfl) l<|gi I G y ⟨rfl,?_⟩ E;have v:=Q cpos c s U H _ I h;rw[r]at v⊢;refine aqA (thn v λP K⟨vs,i,b,n,m,J⟩=>⟨rfl,by rw[<-n.length];exact m,b.bk _ _ B,M.keeps b.bk,T.keeps b.bk,λh' d j=>?_⟩);refine ix j.there λf k A p=>?_;have Y:i d=none:=by cases z:i d with|none=>rfl|some u=>obtain⟨o,g⟩:=fJ<|b.hok d u z;rw[j.new]at g;cases g
 have w:i f=none:=by cases z:i f with|none=>rfl|some u=>obtain⟨o,g⟩:=fJ<|b.hok f u z;rw[A]at g;cases g
 have R:d≠f:=λz=>by rw[z,p]at k;cases k
 refine J c _ d f w ⟨(b.kept (t':=K.toks) j.keeps).adN (b.fpX A w) ⟨m,P,n,_,p,rfl,_,rfl⟩,⟨_,_,k,rfl,rfl,rfl,rfl,rfl,rfl⟩,b.fpX j.new (by rw[ai R];exact Y),λt z=>by cases z⟩
end
abbrev Cx.sui(X:Cx)(e:Addr):Cx:={X with A:=X.A.mark<|some<|.ref e,calm:=false,xe:=λ_ _=>False}
def Cx.Ok.iC{X:Cx}{E a}(ok:(X.tri E a).Ok):X.Ok:=⟨ok.mod,ok.kind,ok.glob,ok.blt,ok.above,ok.inj,ok.has,ok.cab,ok.hd,ok.frames,ok.stk,ok.exf,ok.bs,ok.bsz,ok.noex,ok.exfs,ok.nj,ok.frf⟩
theorem Cx.Ok.sui{X:Cx}(ok:X.Ok)(e):(X.sui e).Ok:=⟨ok.mod,ok.kind,ok.glob,ok.blt,ok.above,ok.inj,ok.has,ok.cab,λz=>by grind,ok.frames,ok.stk,ok.exf,ok.bs,ok.bsz,ok.noex,ok.exfs,ok.nj,ok.frf⟩
section
variable{X:Cx}{pins pins':List (Addr×Obj)}{σ:St}{H:Hp}{s:Shared}{E:Value->Shared->Prop}
theorem Inv.iC(I:Inv (X.tri E<|X.pn++pins) pins' σ H s):Inv X pins σ H s:=⟨I.ok.iC,I.os,I.bare,I.base,I.loc,I.cell,I.free,I.freeC,λp a=>I.pin p<|aou _ a,I.hok,I.len⟩
theorem Inv.sui(I:Inv X pins σ H s)(e):Inv (X.sui e) pins σ H s:=⟨I.ok.sui e,I.os,I.bare,I.base,I.loc,I.cell,I.free,I.freeC,I.pin,I.hok,I.len⟩
def Inv.back(I:Inv X pins σ H s){e}{a:St}{H' s'}(J:Inv (X.sui e) pins a H' s'):Inv X pins a H' s':=⟨I.ok,J.os,J.bare,J.base,J.loc,J.cell,J.free,J.freeC,J.pin,J.hok,J.len⟩
def FpX.iC{b}(h:FpX (X.tri E<|X.pn++pins) pins' H b):FpX X pins H b:=⟨h.1,h.2.1,h.2.2.1,h.2.2.2.1,h.2.2.2.2.1,λp a=>h.2.2.2.2.2 p<|aou _ a⟩
theorem Thr.iC{e C dx fl T}(t:Thr (X.tri E<|X.pn++pins) pins' σ H s e C dx fl T):Thr X pins σ H s e C dx fl T:=⟨t.inv.iC,t.trc,t.fe.iC,λb a=>(t.fT b a).iC⟩
theorem SP.iC{D f s'}(h:SP (X.tri E<|X.pn++pins) pins' D f s'):SP X pins D f s':=by cases f with|next|brk|cont=>obtain⟨a,b,I,q⟩:=h;exact⟨_,b,I.iC,q⟩|ret u=>refine xQ h λv a b I r q=>?_;exact agl v _ b I.iC r q
end
section
variable{X:Cx}{pins:List (Addr×Obj)}{σ:St}{H:Hp}{s:Shared}{e Ce C:Addr}{dx:DX}{fl:Value}{T:Addr}{x n:Str}{np hpos:Pos}{b0:Stmt}{suite:List Stmt}{Q:Flow->Shared->Prop}{E:Value->Shared->Prop}
def Thr.ty(t:Thr X pins σ H s e Ce dx fl (some T)){M}:W.Looks M s.heap (typeOf<|.ref e) (.ref Ce):=by obtain⟨d,c,a,b,_,_⟩:=t.trc.there;exact b▸(W.Looks.ld a).andThen .now
def aan(t:Thr X pins σ H s e Ce dx fl (some T))(h:Gl X x)(j:X.mg x=some (.ref C))(l:W.exmOne X.K (.ref Ce) (.ref C)=some true)(k:∀a,Thr X pins σ H {s with heap:=a} e Ce dx .none (some T)->wpAny (model X.prog X.w) (X.A.mark<|some<|.ref e) (storeName X.env n<|.ref e) (λ_ b=>wpAny (model X.prog X.w) (X.A.mark<|some<|.ref e) (execs (b0::suite) X.env) (λf d=>wpAny (model X.prog X.w) X.A (do bindName X.env n .none;unbindBehindTheSuite X.env n hpos) (λ_ i=>Q f i) E d) (λ_ _=>False) b) (λ_ _=>False) {s with heap:=a})(g:Dbg x:=by decide):wpAny (model X.prog X.w) X.A (handleBy (.ref e) X.env [.ExceptHandler (some<|.Name x np) (some n) (b0::suite) hpos]) Q E s:=by refine wpAny_handleBy_cons (codeAny_handlers_test<|gi (X:=X.sui e) (t.inv.sui e) h j ?_ g) (by intro q;cases q);refine(W.exm_one t.inv.kIn t.ty l).here ?_;refine codeAny_handlers_suite_as (t.aar λa c=>?_);exact aoA (k a c) (λ_ b q=>aoA q (λ_ _ z=>z) λ_ _ z=>z.elim) λ_ _ z=>z.elim
def zu{i:Nat}(I:Inv X pins σ H s)(hN:X.N.Nodup)(hi:X.N[i]?=some n)(hl:X.env.scope.names.lookup n=some .local){Q:Unit->Shared->Prop}(h:∀K,Inv X pins (σ.set i none) H K->(∀b,b≠X.env.locals->K.heap.get? b=s.heap.get? b)->Q () K){A:Around}:wpAny (model X.prog X.w) A (do bindName X.env n .none;unbindBehindTheSuite X.env n hpos) Q E s:=by
 obtain⟨m,Y,M⟩:=id I.loc;have B:(X.env.scope.kind==.class||X.env.scope.kind==.module&&X.env.locals !=X.env.globals)=false:=by rw[I.ok.kind];rfl
 refine wpAny_nameGoes_keeps hl Y B λh' v P a=>h _ ?_ a.2;obtain⟨oL,_,_,a0,_⟩:=id Y;have N:∀b o,X.s₀.heap.get? b=some o->b≠X.env.locals:=λb o e=>aoi<|an6 (an9 e) I.ok.above;refine⟨I.ok,I.os,I.bare,⟨λb o e n R D=>(a.2 b<|N b o e).trans<|I.base.keep b o e n R D,λb o e n R D=>?_,I.base.free,λb o e D=>?_,I.base.tups,I.base.frzs,I.base.tbls⟩,⟨_,P,λj y v' f g Z=>?_⟩,λy c e=>?_,I.free,I.freeC,λp hp=>?_,λb ob e=>?_,by simpa using I.len⟩;.obtain⟨sl,f⟩:=I.base.slot b o e n R D;exact⟨sl,(a.2 b<|N b o e).trans f⟩
 .obtain⟨o',f⟩:=I.base.there b o e D;exact⟨o',(a.2 b<|N b o e).trans f⟩
 .have w:i≠j:=λz=>by
   subst z;by_cases U:i<σ.length;.rw[aof U]at g;cases g
   .rw[List.getElem?_eq_none (by simpa using U)]at g;cases g
  rw[an3 w]at g;obtain⟨u,r,l⟩:=M j y v' f g Z;refine⟨u,r,?_⟩;have hy:y≠n:=λz=>by subst z;exact w<|ov hN hi f
  rcases l with⟨k,l⟩|⟨k,c,S,z⟩;.exact .inl ⟨k,by show(if y=n then v else m y)=some u;rw[an5 hy];exact l⟩
  .refine .inr ⟨k,c,S,?_⟩;obtain⟨o,O,J⟩:=z;exact⟨o,(a.2 c<|I.cne y c S).trans O,J⟩
 .obtain⟨v,o,O,J⟩:=I.cell y c e;exact⟨v,o,(a.2 c<|I.cne y c e).trans O,J⟩
 .obtain⟨e,n,t,nf,d⟩:=I.pin p hp;exact⟨(a.2 p.1 t).trans e,n,t,nf,d⟩
 .refine(I.hok b ob e).n5 (λc w' G q=>(a.2 c ?_).trans q) (λ_ q=>q) λ_ _ q=>q;rintro rfl;rcases G with rfl|G;.rw[I.free]at e;cases e
  .rw[I.free]at G;cases G
def vh{i:Nat}(I:Inv X pins σ H s)(d:X.N.Nodup)(b:X.N[i]?=some n)(c:X.env.scope.names.lookup n=some .local){Q:Unit->Shared->Prop}(h:∀a,Inv X pins (σ.set i none) H a->Q () a){A:Around}:wpAny (model X.prog X.w) A (do bindName X.env n .none;unbindBehindTheSuite X.env n hpos) Q E s:=zu I d b c λa J _=>h a J
def excAt(a C:Addr)(dx:DX)(h:Heap):Prop:=∃b c,h.get? a=some b/\b.cls=.ref C/\b.dict=dx.1/\b.data=.fields c/\c[2]?=some dx.2.2/\c[0]?=some dx.2.1
def Thr.known(t:Thr X pins σ H s e Ce dx fl (some T)):Inv X pins σ (upd H e<|.ext<|excAt e Ce dx) s:=by
 have I:=t.inv;have g:=t.fe;have f:∀b u,H b=some u->b≠e:=λb u q z=>by rw[z,g.1]at q;cases q
 have:=I.n4 (h':=s.heap) (H':=upd H e<|.ext<|excAt e Ce dx) (g':=s.gens) (d':=s.drawn) (t':=s.toks) (ch:=[e]) (λb d=>by rw[aoK.mp d];exact⟨g.2.2.2.1,g.2.1,g.2.2.2.2.1,g.2.2.2.2.2⟩) (λb o _ _ _ q _=>q) (λb o _ _ _ q _=>⟨o.slots,q⟩) (λb o d _ n=>by rw[ai λz=>d<|by rw[z];exact aol];exact n) (λb o _ q=>⟨o,q⟩) (λb w q=>by rw[ai (f b _ q)];exact q) (λb o u q=>by rw[ai (f b _ q)];exact q) (λb ps q=>⟨#[],by rw[ai (f b _ q),q];simp⟩) (λm A=>A) (λb u q=>by
   by_cases d:b=e;.subst d;rw[aj]at q;cases q;obtain⟨l,i,j,p,y,v⟩:=t.trc.there;exact⟨⟨l,i,j,p,y,v⟩,⟨l,j⟩,λj p h k=>by obtain⟨o,i,a,r⟩:=h;exact⟨o,i,k o a,r⟩⟩
   .rw[ai d]at q;exact(I.hok b u q).n5 (λ_ _ _ z=>z) (λc z=>by rw[ai (f c _ z)];exact z) λc w z=>by rw[ai (f c _ z)];exact z) I.bare;exact this
end
end L2
namespace L2
open PySem PySem.Spec PyProof.Rows
open PySem.W(findIn mroIn findObj specialIn takesIn clsIn hasDictIn KitX looks_findIn looks_mroIn looks_find)
section
variable{prog:Program}{w:World}{A:Around}{E:Value->Shared->Prop}{s:Shared}{K:W.Frag}{x D:Addr}{ox:Obj}{od:Option Obj}{name:Str}
def aaz{nm:Value}{Q:Unit->Shared->Prop}(X:K.In s.heap)(I:W.InstAt s.heap x ox D od)(f:mroIn K D (.type "BaseException")=some true)(c:Q () s):wpAny (model prog w) A (checkBuiltinCall "BaseException.__getattribute__" ⟨[.ref x,nm],[]⟩) Q E s:=by
 have e:builtinKind "BaseException.__getattribute__"=some .slot:=by decide+kernel
 have a:splitId "BaseException.__getattribute__"=some ("BaseException","__getattribute__"):=by decide+kernel
 have h:=F.args_bexc_ga (.ref x) nm;have b:W.Looks (model prog w) s.heap (isInstance (.ref x)<|.type "BaseException") true:=I.type.andThen<|looks_mroIn X f;obtain⟨i,g,d,t,os⟩:=s;simp only[checkBuiltinCall,e,a];refine anY<|b.at ?_;repeat(first|wp_step)
 exact c
def aer{i:Tok}{fill a:Bool}{Q:Value->Shared->Prop}(X:K.In s.heap)(I:W.InstAt s.heap x ox D od)(e:findIn K (.ref D) "__getattribute__"=some (some<|.builtin "BaseException.__getattribute__"))(c:findIn K (.ref D) "__getattr__"=some none)(n:mroIn K D (.type "BaseException")=some true)(h:∀o,wpAny (model prog w) o (Builtin.«object.__getattribute__» ⟨[.ref x,.str name i],[]⟩) (λfin j=>match fin with|.done (.ret v)=>wpAny (model prog w) A (handedOut v) Q E j|_=>False) (λ_ _=>False) s):wpAny (model prog w) A (getAttrBy (.ref x) (.str name i) fill a) Q E s:=by
 have k:=I.type (M:=model prog w);have p:=looks_findIn (M:=model prog w) X e;have l:=looks_findIn (M:=model prog w) X c;have m:=F.excAttr_ValueError.ga.bind<|.ref x;have b:(a&&onTheHeap (Value.builtin "BaseException.__getattribute__"))=false:=by cases a<;>rfl
 have f:(Value.builtin "BaseException.__getattribute__"==Value.builtin "object.__getattribute__")=false:=by decide+kernel
 obtain⟨q,g,d,t,os⟩:=s;unfold getAttrBy;refine aoV<|anY<|k.at<|anY<|p.at ?_;dsimp only;rw[f,Bool.and_false,an5<|by decide];unfold getAttrByItsOwn hookBefore;rw[an4 (show onTheHeap (Value.ref D)=true from rfl)];refine anY<|l.at<|anY<|ap9<|aoV ?_;unfold callGetattribute boundAndCalled;rw[b,an5 (by decide),m];refine anY (an0<|apJ<|ap6 F.excAttr_ValueError.ga.plain F.entry_bexc_ga<|aaz X I n<|aoA (h _) (λfin j z=>?_) λ_ _ z=>z.elim);rcases fin with(_|_|_|_)|_<;>first|exact z|exact z.elim
def mE{g a:Value}{f:Tok}{P:Value->Shared->Prop}(X:K.In s.heap)(I:W.InstAt s.heap x ox D od)(c:findObj K D od name=some (.bind g a))(h:wpAny (model prog w) A (call g [a,.ref x,.ref D]) P E s):wpAny (model prog w) A (Builtin.«object.__getattribute__» ⟨[.ref x,.str name f],[]⟩) (λfin b=>match fin with|.done (.ret v)=>P v b|_=>False) E s:=by have e:=I.type (M:=model prog w);have i:=looks_find (M:=model prog w) X I c;obtain⟨k,j,d,t,os⟩:=s;refine anY<|an0<|anY<|an0<|anY<|e.at<|anY<|i.at ?_;show wpAny _ _ (holding [a] (call g [a,.ref x,.ref D])>>=ret) _ _ _;exact anY (aoV<|aoA h (λv b z=>an0 z) λ_ _ z=>z)
def oW{v:Value}{e:Tok}{P:Value->Shared->Prop}(X:K.In s.heap)(I:W.InstAt s.heap x ox D od)(b:findObj K D od name=some (.value v))(h:P v s):wpAny (model prog w) A (Builtin.«object.__getattribute__» ⟨[.ref x,.str name e],[]⟩) (λfin a=>match fin with|.done (.ret v)=>P v a|_=>False) E s:=by have c:=I.type (M:=model prog w);have f:=looks_find (M:=model prog w) X I b;obtain⟨i,g,d,t,os⟩:=s;refine anY<|an0<|anY<|an0<|anY<|c.at<|anY<|f.at ?_;exact an0 h
structure ExcK(K:W.Frag)(D:Addr):Prop where
 cls:(clsIn K D).isSome=true
 ga:findIn K (.ref D) "__getattribute__"=some (some<|.builtin "BaseException.__getattribute__")gn:findIn K (.ref D) "__getattr__"=some none
 mb:mroIn K D (.type "BaseException")=some true
 mo:mroIn K D (.type "object")=some true
 cl:findIn K (.ref D) "__class__"=some (some<|.builtin "object.__class__")hn:specialIn K (.builtin "object.__class__") "__get__"=some (some<|.builtin "getset_descriptor.__get__")tk:takesIn K (.builtin "object.__class__")=some true
def ExcK.findCls(k:ExcK K D):findObj K D od "__class__"=some (.bind (.builtin "getset_descriptor.__get__")<|.builtin "object.__class__"):=by obtain⟨b,a⟩:=ao2.mp k.cls;unfold findObj;rw[a,ap7,k.cl,ap7];simp[k.hn,k.tk]
def aay{Q:Option Value->Shared->Prop}(k:ExcK K D)(X:K.In s.heap)(I:W.InstAt s.heap x ox D od)(h:Q (some<|.ref D) {s with toks:=s.toks+1}):wpAny (model prog w) A (getAttr? (.ref x) "__class__") Q E s:=by unfold getAttr? getAttrBy?;refine anY<|wpAny_mkText<|anY<|ap9 ?_;refine aer (s:={s with toks:=s.toks+1}) X I k.ga k.gn k.mb λa=>?_;refine mE (s:={s with toks:=s.toks+1}) X I k.findCls ?_;refine apJ<|W.class_get (s:={s with toks:=s.toks+1}) (ox:=ox) (od:=od) X I k.mo ?_;exact an0<|an0 h
def adj{v:Value}{a:Bool}{Q:Value->Shared->Prop}(k:ExcK K D)(X:K.In s.heap)(I:W.InstAt s.heap x ox D od)(b:findObj K D od name=some (.value v))(c:W.handedIn v=true)(h:Q v {s with toks:=s.toks+1}):wpAny (model prog w) A (getAttr (.ref x) name a) Q E s:=by unfold getAttr;refine anY<|wpAny_mkText ?_;refine aer (s:={s with toks:=s.toks+1}) X I k.ga k.gn k.mb λd=>?_;refine oW (s:={s with toks:=s.toks+1}) X I b ?_;rw[W.handedOut_of c];exact an0 h
def adI(x D:Addr)(h:Heap):Prop:=∃ox od,W.InstAt h x ox D od
set_option tactic.hygienic true in
def acX(k:ExcK K D):KitX K (.ref x) (.ref D) (adI x D)where
 ty:=λ_ _ _ h0_=>by obtain⟨_,_,I⟩:=h0_;exact I.type
 it:=λ_ _ X _=>by
  obtain⟨cdD,hcD⟩:=ao2.mp k.cls;unfold clsIn at hcD;split at hcD;.rename_i c' d' cd' sl' ho;intro A' Q' E' s' k q;unfold isType loadHead;exact anY<|aqI (k _ _<|X _ _ ho)<|an0 q
  .cases hcD
 ne:=λh tp dd its n sl X htp=>by
  obtain⟨cdD,hcD⟩:=ao2.mp k.cls;refine Bool.eq_false_iff.mpr λq=>?_;have e:D=tp:=Value.ref.inj<|apl.mp q;subst e;unfold clsIn at hcD;split at hcD;.rename_i c' d' cd' sl' ho;have z:=(X _ _ ho).symm.trans htp;cases z
  .cases hcD
 ca:=λX h0_ q=>by obtain⟨_,_,I⟩:=h0_;exact aay k X I q
end
end L2
namespace L2
open PySem PySem.Spec PyProof.Rows
noncomputable abbrev eO(C:Addr)(dx:Option Addr)(a0:Value):Obj:={cls:=.ref C,dict:=dx,data:=.fields #[a0,.none,.none,.none,.bool false,.none]}
def ka(e C:Addr)(dx:Option Addr)(a0:Value)(h:Heap):Prop:=h.get? e=some (eO C dx a0)
section
variable{prog:Program}{w:World}{A:Around}{E:Value->Shared->Prop}
variable{nm q:Str}{C N:Addr}{bs bm bmB:List Value}{hdct:Bool}{sn:List Str}{sub:List Value}{ab:Bool}{col:Option Bool}{dd:Option Addr}{k0 k1 k2 k3 k5:Option Value}{B newId initId:String}
variable{h:Heap}{g:Array GenState}{d:Drawn}{t:Nat}{os:OsState}
def kE(F:ExcBaseFacts B newId initId bmB)(T:OwnTail h bmB bm){mN:Str->Option Value}{rest:List Value}{fI:Addr}{s:Obj}{Q:Fin->Shared->Prop}(j:h.get? C=some (excClassObj nm q C N bs bm hdct sn sub ab col dd k0 k1 k2 k3 k5 newId))(u:h.Ns N mN)(v:mN "__init__"=some (.ref fI))(n:h.get? fI=some s)(l:s.cls=.type "function")(z:∀h' e,Heap.MadeExcOf h h' e (.ref C) rest->wpAny (model prog w) A (call (.ref fI) (.ref e::rest)) (λr p=>r=.none/\Q (.done<|.ret<|.ref e) p) E ⟨h',g,d,t,os⟩)(hrest:rest.length<=sizeLine:=by size_fits):wpAny (model prog w) A (Builtin.«type.__call__» ⟨.ref C::rest,[]⟩) Q E ⟨h,g,d,t,os⟩:=by
 repeat(first|with_reducible refine aq1 j ?_|with_reducible refine wpAny_madeBy_exc j ?_|wp_step)
 refine codeAny_call_builtin_code (aqk _ F.quiet)<|wpAny_check_new_subT F T j ?_;refine codeAny_exc_new_subT F T j ?_ hrest;show wpAny _ _ _ _ _ _;have a:=anZ {cls:=.ref C,data:=.fields #[.ref h.objs.size,.none,.none,.none,.bool false,.none]} (anZ {cls:=.type "tuple",data:=.seq rest.toArray} j);have c:=anZ {cls:=.ref C,data:=.fields #[.ref h.objs.size,.none,.none,.none,.bool false,.none]} (anZ {cls:=.type "tuple",data:=.seq rest.toArray} n);have i:((h.push {cls:=.type "tuple",data:=.seq rest.toArray}).push {cls:=.ref C,data:=.fields #[.ref h.objs.size,.none,.none,.none,.bool false,.none]}).Ns N mN:=let⟨o,y,H,e,r⟩:=u;abx o y H (anZ _<|anZ _ e) r;have f:((h.push {cls:=.type "tuple",data:=.seq rest.toArray}).push {cls:=.ref C,data:=.fields #[.ref h.objs.size,.none,.none,.none,.bool false,.none]}).get? (h.objs.size+1)=some {cls:=.ref C,data:=.fields #[.ref h.objs.size,.none,.none,.none,.bool false,.none]}:=by heap_get
 have m:(Value.ref C::bm).contains (.ref C)=true:=by simp
 have k:=T.keeps (h':=(h.push {cls:=.type "tuple",data:=.seq rest.toArray}).push {cls:=.ref C,data:=.fields #[.ref h.objs.size,.none,.none,.none,.bool false,.none]}) λb o e=>anZ _<|anZ _ e;unfold isInstance;repeat(first|with_reducible refine aq1 f ?_|(with_reducible refine wpAny_isSubtype_exc a ?_;rw[m])|wp_step)
 show wpAny _ _ (typeLookup (.ref C) _) _ _ _;refine wpAny_typeLookup_tail a i k F.mroIs F.init.lookup ?_;rw[v];refine aoV<|anY ?_;unfold bindSpecial;refine anY<|wpAny_typeOf (T:="function") ⟨_,c,l⟩ ?_;rw[an4 (by decide)];refine an0 (anY<|aoA (z _ (h.objs.size+1) ⟨λb o D=>anZ _<|anZ _ D,aoG<|arA _,h.objs.size,f,aoG<|aob _,?_⟩) (λr p G=>?_) λ_ _ x=>x);.exact anZ _ (Heap.get?_push_at rfl rfl)
 .obtain⟨rfl,I⟩:=G;wp_walk;exact I
def xM(F:ExcBaseFacts B newId initId bmB)(T:OwnTail h bmB bm){mN:Str->Option Value}{rest:List Value}{fI:Addr}{i:Obj}{Q:Value->Shared->Prop}(a:h.get? C=some (excClassObj nm q C N bs bm hdct sn sub ab col dd k0 k1 k2 k3 k5 newId))(j:h.Ns N mN)(k:mN "__init__"=some (.ref fI))(f:h.get? fI=some i)(c:i.cls=.type "function")(l:∀b e,Heap.MadeExcOf h b e (.ref C) rest->wpAny (model prog w) (A.under<|.builtin "type.__call__" ⟨.ref C::rest,[]⟩) (call (.ref fI) (.ref e::rest)) (λr m=>r=.none/\Q (.ref e) m) E ⟨b,g,d,t,os⟩)(hrest:rest.length<=sizeLine:=by size_fits):wpAny (model prog w) A (call (.ref C) rest) Q E ⟨h,g,d,t,os⟩:=by
 have p:=tc_lookup;have s:=tc_bind<|.ref C;have o:(⟨h,g,d,t,os⟩:Shared).TypeIs (.ref C) "type":=⟨_,a,rfl⟩;refine apJ<|codeAny_of_tree ?_;show wpAny _ _ (callAny (.ref C) _) _ _ _;repeat(any_goals(first|assumption|with_reducible refine aq1 a ?_|wp_step))
 refine⟨rfl,?_⟩;refine codeAny_call_builtin_at (aqk _<|by decide+kernel) entry_typeCall (wpAny_check_type_call_sub a<|kE (hrest:=hrest) F T a j k f c λb e n=>?_);exact l b e n
end
end L2
namespace L2
open PySem PySem.Spec PyProof.Rows
open PySem.W(findIn mroIn findObj specialIn takesIn clsIn hasDictIn looks_findIn looks_mroIn looks_find InstAt)
def jQ(a):refuseLoop a "__setattr__" fD=pure ():=by kernel_rfl
structure ExcS(K:W.Frag)(C:Addr):Prop where
 k:ExcK K C
 m:∃cd,clsIn K C=some cd/\cd.hasDict=true/\(cd.mro=.ref C::fD\/∃D:Addr,cd.mro=.ref C::.ref D::fD)sa:findIn K (.ref C) "__setattr__"=some (some<|.builtin "object.__setattr__")
section
variable{prog:Program}{w:World}{A:Around}{E:Value->Shared->Prop}{s:Shared}{K:W.Frag}{x C:Addr}{ox:Obj}{od:Option Obj}{name:Str}{v:Value}{R:Result->Shared->Prop}
def zh{d}(k:ExcS K C)(X:K.In s.heap)(I:InstAt s.heap x ox C od)(ht:findIn K (.ref C) name=some none)(h:∀b,wpAny (model prog w) A.in1 (Builtin.ObjectAttr.storeInOwnDict (.ref x) (.ref C) (.str name d) name v b) (λfin a=>match fin with|.done f=>R (.ok f) a|.again c'=>c'.quiet=true/\codeAny (model prog w) A c' R a) (λe a=>R (.error e) a) s):codeAny (model prog w) A (.call (.builtin "object.__setattr__") ⟨[.ref x,.str name d,v],[]⟩) R s:=by
 have SF:=PySem.F.store_object;refine ix k.m λc g _ j=>?_;refine ap6 SF.slot.plain SF.entry<|@W.check_slot (model prog w) _ _ s "object.__setattr__" "object" "__setattr__" (.ref x) _ [] _ SF.kind SF.split (I.type.andThen<|looks_mroIn X k.k.mo) (SF.args (.ref x) _ v) ?_;have i:W.Looks (model prog w) s.heap (mroOf<|.ref C) c.mro:=(aqT X g).andThen .now;rw[W.osa_eq,refuse_eq];refine anY<|anY<|I.type.here<|anY<|i.here ?_;rw[show refuseLoop (.ref x) "__setattr__" c.mro=pure ()from by
 rcases j with e|⟨D,e⟩;.rw[e,arC,jQ]
 .rw[e,arC,arC,jQ]];refine an0<|anY<|I.type.here<|anY<|(looks_findIn X ht).here<|anY<|an0 ?_;exact h _
def oV{a0 Q}(k:ExcS K C)(X:K.In s.heap)(a:s.heap.get? x=some (eO C none a0))(ht:findIn K (.ref C) name=some none)(h:∀d,Heap.SameBut s.heap.objs.size ((s.heap.push W.emptyDict).update x λo:Obj=>{o with dict:=some s.heap.objs.size}) d->d.Ns1 s.heap.objs.size (λy=>if y=name then some v else none)->Q () {s with heap:=d,toks:=s.toks+2}):wpAny (model prog w) A (setAttr (.ref x) name v) Q E s:=by have I:InstAt s.heap x (eO C none a0) C none:=⟨a,rfl,rfl,True.intro⟩;refine W.set_plain X I k.sa (zh (s:={s with toks:=s.toks+1}) k X I ht λb=>?_);refine ix k.m λH z r _=>?_;unfold Builtin.ObjectAttr.storeInOwnDict;refine anY<|an0<|anY<|anY<|aqI a<|anY<|W.Looks.here (s:={s with toks:=s.toks+1}) (aqT X z) ?_;rw[r];rw[an5 (by decide)];have l:=anZ (h:=s.heap) W.emptyDict a;have hd1:(s.heap.push W.emptyDict).get? s.heap.objs.size=some W.emptyDict:=aoj s.heap rfl;have t:s.heap.objs.size≠x:=aoE<|an9 a;refine anY<|wpAny_alloc<|anY<|wpAny_update (o:=eO C none a0) l<|an0 ?_;have i:∀b,b≠x->((s.heap.push W.emptyDict).update x λo:Obj=>{o with dict:=some s.heap.objs.size}).get? b=(s.heap.push W.emptyDict).get? b:=λb u=>aoT _ _<|aom u;have n:=(i _ t).trans hd1;have q:((s.heap.push W.emptyDict).update x λo:Obj=>{o with dict:=some s.heap.objs.size}).Ns s.heap.objs.size λ_=>none:=vW W.emptyDict #[] _ n rfl (λe a=>absurd a<|by simp) λ_=>rfl;unfold Builtin.ObjectAttr.storeInDict;refine anY<|an0<|anY ?_;refine wpAny_nsSet1 (aqZ q) λd c j=>?_;refine xQ (c.count (ns:=[name])<|aqY name v λy p=>absurd rfl p) λG D B g f m=>?_;refine anY (ara g (by rw[f];exact arb<|aoh m<|by rw[aon,aqd,apM];omega) ?_);exact an0<|h _ j c
def qR{a0 d l ns Q}(k:ExcS K C)(X:K.In s.heap)(p:s.heap.get? x=some (eO C (some d) a0))(r:s.heap.Ns1 d l)(ht:findIn K (.ref C) name=some none)(hw:PySem.Within l ns)(hz:ns.length<=100)(h:∀f,Heap.SameBut d s.heap f->f.Ns1 d (λy=>if y=name then some v else l y)->Q () {s with heap:=f,toks:=s.toks+2}):wpAny (model prog w) A (setAttr (.ref x) name v) Q E s:=by refine vV (id r) λn q o c _=>?_;have I:InstAt s.heap x (eO C (some d) a0) C (some n):=⟨p,rfl,rfl,c⟩;refine W.set_plain X I k.sa (zh k X I ht λb=>?_);refine ix k.m λG u t _=>?_;unfold Builtin.ObjectAttr.storeInOwnDict;refine anY<|an0<|anY<|anY<|aqI p<|anY<|W.Looks.here (s:={s with toks:=s.toks+1}) (aqT X u) ?_;rw[t,an5<|by decide];refine an0 (a:=some d) ?_;unfold Builtin.ObjectAttr.storeInDict;refine anY<|an0<|anY ?_;refine wpAny_nsSet1 r λf e j=>?_;refine xQ (e.count<|aqY name v hw) λD B z i g m=>?_;refine anY (ara i (by rw[g];exact arb<|aoh m<|by rw[aon,apM];omega) ?_);exact an0<|h _ j e
end
end L2
namespace L2
open PySem PySem.Spec PyProof.Rows
section
variable{prog:Program}{w:World}{A:Around}{E:Value->Shared->Prop}{h:Heap}{g:Array GenState}{d:Drawn}{t:Nat}{os:OsState}
variable{nm q:Str}{C N:Addr}{bs bm bmB:List Value}{hdct:Bool}{sn:List Str}{sub:List Value}{ab:Bool}{col:Option Bool}{dd:Option Addr}{k0 k1 k2 k3 k5:Option Value}{B newId initId:String}
def abf(F:ExcBaseFacts B newId initId bmB)(T:OwnTail h bmB bm){e:Addr}{dx:Option Addr}{a0:Value}{rest:List Value}{Q:Value->Shared->Prop}(c:h.get? C=some (excClassObj nm q C N bs bm hdct sn sub ab col dd k0 k1 k2 k3 k5 newId))(f:h.get? e=some (eO C dx a0))(hrest:rest.length<=sizeLine)(i:Q .none ⟨(h.push {cls:=.type "tuple",data:=.seq rest.toArray}).update e (Obj.mapFields λx=>x.setIfInBounds 0<|Value.ref h.objs.size),g,d,t,os⟩):wpAny (model prog w) A (call (.builtin initId) (.ref e::rest)) Q E ⟨h,g,d,t,os⟩:=by
 refine apJ<|ap6 F.init.plain F.initEntry<|wpAny_check_init_subT F T c f rfl ?_;wp_walk;have fin:∀b:Shared,b=⟨(h.push {cls:=.type "tuple",data:=.seq rest.toArray}).update e (Obj.mapFields λx=>x.setIfInBounds 0<|Value.ref h.objs.size),g,d,t,os⟩->Q .none b:=λb z=>by subst z;exact i
 have go:∀v:Value,wpAny (model prog w) A.in1 (match v with|.ref a=>letGo [v]|x=>pure ()) (λ_ b=>b=⟨(h.push {cls:=.type "tuple",data:=.seq rest.toArray}).update e (Obj.mapFields λx=>x.setIfInBounds 0<|Value.ref h.objs.size),g,d,t,os⟩) (λ_ _=>False) ⟨(h.push {cls:=.type "tuple",data:=.seq rest.toArray}).update e (Obj.mapFields λx=>x.setIfInBounds 0<|Value.ref h.objs.size),g,d,t,os⟩:=λv=>by cases v<;>first|exact an0 rfl|(wp_walk;rfl)
 refine aoA (go _) (λ_ b z=>an0<|fin b z) λ_ _ z=>z.elim
end
end L2
namespace L2
open PySem PySem.Spec PyProof.Rows
open PySem.W(findIn InstAt)
def fY(d:Addr)(fs:List (Str×V))(h:Heap):Prop:=∃a,h.Ns1 d a/\(∀f,rG (fs.lookup f)<|a f)/\PySem.Within a (fs.map (·.1))
def aea{P w H h e C dx a0}(a:h.get? e=some (eO C dx a0)):cQ P w H h e (.ext<|ka e C dx a0):=⟨a,⟨_,a⟩,λ_ _ q k=>k _ q⟩
def sG{P w H h d fs}(a:fY d fs h):cQ P w H h d (.ext<|fY d fs):=by
 refine⟨a,?_,λl m⟨b,f,r,j⟩k=>⟨b,?_,r,j⟩⟩;.obtain⟨b,⟨o,_,_,e,_⟩,_⟩:=a;exact⟨o,e⟩
 .refine vV f λo g i e c=>?_;exact abx o g i (k _ e) c
section
variable{X:Cx}{pins:List (Addr×Obj)}{σ:St}{H:Hp}{s:Shared}{e C:Addr}{f:Str}{A:Around}{E:Value->Shared->Prop}
def vC(I:Inv X pins σ H s){dx a0}(q:H e=some (.ext<|ka e C dx a0)):s.heap.get? e=some (eO C dx a0):=(I.hok e _ q).1
def vX{y u Q a0}(k:ExcS X.K C)(I:Inv X pins σ H s)(q:H e=some (.ext<|ka e C none a0))(R:findIn X.K (.ref C) f=some none)(N:RelV y u)(h:∀d G,H d=none->d≠e->Inv X pins σ (upd (upd H d<|.ext<|fY d [(f,y)]) e<|.ext<|ka e C (some d) a0) G->Q () G):wpAny (model X.prog X.w) A (setAttr (.ref e) f u) Q E s:=by
 have c:=vC I q;refine oV k I.kIn c R λh' v l=>h s.heap.objs.size _ (I.hok.fresh<|aob _) (aoE<|an9 c) ?_;have r:=aoE<|an9 c;have p:=anZ (h:=s.heap) W.emptyDict c;have hd1:(s.heap.push W.emptyDict).get? s.heap.objs.size=some W.emptyDict:=aoj s.heap rfl;have J:(s.heap.push W.emptyDict).Ns s.heap.objs.size λ_=>none:=vW W.emptyDict #[] _ hd1 rfl (λe c=>absurd c<|by simp) λ_=>rfl;have S:=I.laid (a:=s.heap.objs.size) (o:=.ext<|fY s.heap.objs.size []) (h':=s.heap.push W.emptyDict) (t':=s.toks) (λb u q=>anZ _ q) (aob _) (sG ⟨_,aqZ J,λ_=>True.intro,λy P=>absurd rfl P⟩);have j:=apd (h:=s.heap.push W.emptyDict) (λo:Obj=>{o with dict:=some s.heap.objs.size}) p rfl;have t:∀b,b≠e->((s.heap.push W.emptyDict).update e λo:Obj=>{o with dict:=some s.heap.objs.size}).get? b=(s.heap.push W.emptyDict).get? b:=λb m=>aoT _ _<|aom m;have T:upd H s.heap.objs.size (.ext<|fY s.heap.objs.size []) e=some (.ext<|ka e C none a0):=by rw[ai (aom r)];exact q
 have O:=S.write (x:=e) (e:=e) (o:=.ext<|ka e C (some s.heap.objs.size) a0) (t':=s.toks) (by rw[T];exact True.intro) (.inl rfl) (λb u m q=>(t b m).trans q) ⟨_,j⟩<|aea (a0:=a0) j;have w:∃o,h'.get? s.heap.objs.size=some o:=let⟨o,_,_,K,_⟩:=l;⟨o,K⟩;have D:=O.write (x:=s.heap.objs.size) (e:=s.heap.objs.size) (o:=.ext<|fY s.heap.objs.size [(f,y)]) (h':=h') (t':=s.toks+2) (by rw[ai r,aj];exact True.intro) (.inl rfl) (λb u m q=>(v.2 b m).trans q) w (sG ⟨_,l,λg=>by
 by_cases z:g=f;.rw[an4 z,z];simp only[List.lookup,beq_self_eq_true];exact N
 .rw[an5 z,show([(f,y)]:List (Str×V)).lookup g=none from by simp[List.lookup,ao0.mpr z]];exact True.intro,λg M=>by
  by_cases z:g=f;.rw[z];exact aol
  .exact absurd (an5 z) M⟩);have B:upd (upd (upd H s.heap.objs.size<|.ext<|fY s.heap.objs.size []) e<|.ext<|ka e C (some s.heap.objs.size) a0) s.heap.objs.size (.ext<|fY s.heap.objs.size [(f,y)])=upd (upd H s.heap.objs.size<|.ext<|fY s.heap.objs.size [(f,y)]) e (.ext<|ka e C (some s.heap.objs.size) a0):=by
  funext b;unfold upd;by_cases i:b=s.heap.objs.size;.rw[an4 i,an5 (by rw[i];exact r),an4 i]
  .rw[an5 i];by_cases n:b=e;.rw[an4 n,an4 n]
   .rw[an5 n,an5 n,an5 i,an5 i]
 rw[B]at D;exact D
def x2{y u d fs Q a0}(k:ExcS X.K C)(I:Inv X pins σ H s)(q:H e=some (.ext<|ka e C (some d) a0))(n:H d=some (.ext<|fY d fs))(O:d≠e)(D:findIn X.K (.ref C) f=some none)(x:RelV y u)(N:fs.length<=50)(t:fs.lookup f=none)(h:∀m,Inv X pins σ (upd H d<|.ext<|fY d<|fs++[(f,y)]) m->Q () m):wpAny (model X.prog X.w) A (setAttr (.ref e) f u) Q E s:=by
 have G:=vC I q;refine ix (I.hok d _ n).1 λP B r p=>?_;refine qR k I.kIn G B D p (by rw[aos];omega) λK j a=>h _ ?_;have l:∃o,K.get? d=some o:=let⟨o,_,_,c,_⟩:=a;⟨o,c⟩;refine I.write (by rw[n];exact True.intro) (.inl rfl) (λb u M q=>(j.2 b M).trans q) l (sG ⟨_,a,λg=>?_,λg w=>?_⟩)
 .have J:(fs++[(f,y)]).lookup g=match fs.lookup g with|some v=>some v|none=>([(f,y)]:List (Str×V)).lookup g:=by grind
  rw[J];by_cases z:g=f;.rw[an4 z,z,t];simp only[List.lookup,beq_self_eq_true];exact x
  .have i:=r g;rw[an5 z];cases c:fs.lookup g with|some v=>rw[c]at i;exact i|none=>rw[c]at i;rw[show[(f,y)].lookup g=none from by simp[List.lookup,ao0.mpr z]];exact i
 .rw[apg];by_cases z:g=f;.rw[z];exact aok _ aol
  .exact aou _ (p g λy=>w<|by grind)
end
section
variable{X:Cx}{e:Expr}{es:List Expr}{pos:Pos}{ta:TE}{ts:List TE}
def amF(ta:TE):TE:=λb H Q=>ta b H λx a=>(∃i:Int,x=.int i/\i.natAbs.log2<1920/\Q (.str<|toString i) a)\/∃y:Str,x=.str y/\y.length<=sizeLine/\Q (.str y) a
def u3(k:PE X e ta):PE X (.FormattedValue e (-1) none pos) (amF ta):=by
 intro a s m H Q I h;refine PyProof.Rows.FormattedValue_plain (thn (k a s m H _ I h) λu o b=>?_);refine ke b λx f c d q=>?_;rcases q with⟨i,rfl,j,q⟩|⟨y,rfl,g,q⟩;.obtain⟨t,rfl⟩:=d;exact PyProof.Rows.formatField_int_small j<|i5 (.str _) f (c.tok _) ⟨_,rfl⟩ q
 .obtain⟨t,rfl⟩:=d;exact aqL (λn l=>i5 (.str y) f (c.tok l) ⟨_,rfl⟩ q) g
def tJ:List TE->Str->TE|[],acc=>λa H Q=>acc.length<=sizeLine/\Q (.str acc) H|t::ts,acc=>λa H Q=>t a H λx b=>∃y:Str,x=.str y/\(acc++y).length<=sizeLine/\tJ ts (acc++y) a b Q
theorem nh:∀{es ts},Paired (PE X) es ts->∀b a s(σ:St)H Q,Inv X a σ H s->tJ ts b σ H Q->wpAny (model X.prog X.w) X.A (joinParts b<|es.map λe=>eval e X.env) (EP X a σ Q) X.xe s|[],[],_,b,a,s,σ,H,Q,I,h=>PyProof.Rows.joinParts_nil (i5 (.str _) H (I.tok _) ⟨_,rfl⟩ h.2) h.1|e::es,t::ts,.cons p ps,b,a,s,σ,H,Q,I,h=>by refine PyProof.Rows.joinParts_cons (thn (p _ s σ H _ I h) λu j c=>?_);obtain⟨x,i,d,g,y,ex,f,q⟩:=c;subst ex;obtain⟨t,rfl⟩:=g;exact⟨f,nh ps _ _ _ σ i Q d q⟩
def oj{c a es}(g:Paired (PE X) (c::a::es) ts)(d:evalEach es X.env=es.map λe=>eval e X.env:=by rfl):PE X (.JoinedStr (c::a::es) pos) (tJ ts Str.empty):=by intro b s f H Q I h;refine PyProof.Rows.JoinedStr_many ?_;rw[d];exact nh g _ _ s f H Q I h
end
set_option tactic.hygienic true in
def wW{K h N mg n v}(X:K.In h)(G:h.Ns N mg)(e:W.nsIn K N n=some (some v)):mg n=some v:=by
 refine x1 G λo k l g b _ a=>?_;unfold W.nsIn at e;split at e
 .rename_i c d i p m q;have:=X _ _ q;rw[g]at this;cases this;cases b;split at e;.rename_i j f;cases e;rw[<-a];unfold nsFind findBy;rw[<-aqO,f];rfl
  .split at e<;>cases e
 .cases e
def anV(h:Heap)(C fI:Addr):Prop:=∃(b:List Value)(N:Addr)(m n:Str)(bs:List Value)(e:Bool)(d:List Str)(sub:List Value)(l:Bool)(a:Option Bool)(dd:Option Addr)(f i j g k:Option Value)(c:Str->Option Value),h.get? C=some (excClassObj m n C N bs b e d sub l a dd f i j g k "ValueError.__new__")/\h.Ns N c/\c "__init__"=some (.ref fI)/\OwnTail h fD b
def aa2{K:W.Frag}{h:Heap}{C fI:Addr}(X:K.In h)(q:pz K C (some<|.ref fI)):anV h C fI:=q.out X λp m o r bs e d sub n b dd f j k i l g a c t=>⟨p,m,o,r,bs,e,d,sub,n,b,dd,f,j,k,i,l,_,g,.of_isNs<|W.isNs_of_in X a,wW X (.of_isNs<|W.isNs_of_in X a) c,t⟩
section
variable{X:Cx}{e:Expr}{es:List Expr}{x:Str}{np apos pos:Pos}{t:TA}{C D fI:Addr}
def yA(C:Addr)(t:TA):TE:=λf H Q=>t f H λd b=>∃ex c g y,d=[.ref ex,.str y]/\b ex=some (.ext<|ka ex C c g)/\∀a,b a=none->a≠ex->Q .non (upd (upd b a<|.tup [.str y]) ex<|.ext<|ka ex C c<|.ref a)
def om{pl}(S:Gl X x)(hm:X.mg x=some (.ref D))(hr:W.readsIn X.K D (.type "type")=true)(R:W.findCls X.K (.ref D) (.type "type") "__init__"=some (.val<|.builtin "ValueError.__init__"))(hs:W.specialIn X.K (.ref D) "__getattribute__"=some (some<|.builtin "type.__getattribute__"))(P:pz X.K C (some<|.ref fI))(Z:PA X (e::es) t)(w:Dbg x:=by decide)(v:SE X e es:=by rfl)(z:BT X pos es:=by rfl)(ht:eval (.Call (.Attribute (.Name x np) "__init__" apos) (e::es) [] pos) X.env=(do
   let E <-eval (.Name x np) X.env
   standAt apos.atName let(f,first)<-holding [E] (getMethod E "__init__" pl)callWith pos f first (backTo pos<|starEach (e::es) X.env) (backToKw pos<|keywordEach [] X.env)):=by rfl):PE X (.Call (.Attribute (.Name x np) "__init__" apos) (e::es) [] pos) (yA C t):=by
 intro j s σ H Q I h;refine W.methodCall_KW (pl:=pl) (gi I S hm ?_ w) ht;refine W.method_cls I.kIn hs<|W.cls_value I.kIn hr R rfl ?_;have I0:=I.tok<|s.toks+1;refine aqz (thn (Z pos j _ σ H _ I0 h) λus s1 B=>?_) v z;obtain⟨vs,H1,m,U,ex,dx,a0,y,ev,K,q1⟩:=B;subst ev;obtain⟨n,c,rfl,ru,O⟩:∃n c,us=n::c/\RelV (.ref ex) n/\Vals [.str y] c:=by cases U with|cons a b=>exact⟨_,_,rfl,a,b⟩
 cases show n=Value.ref ex from ru;have r:=vC m K;obtain⟨bm,N,nm,qn,bs,hd,sn,sub,ab,Y,dd,k0,k1,k2,k3,k5,mN,A,hN,_,T⟩:=aa2 m.kIn P;have l:c.length<=sizeLine:=by rw[<-O.length];exact show 1<=sizeLine by decide
 obtain⟨i,g,d,M,os⟩:=s1;have G:=aoE<|an9 r;refine abf apm T A r l ⟨.non,_,?_,rfl,q1 i.objs.size (m.hok.fresh<|aob _) G⟩;have p:=anZ (h:=i) {cls:=.type "tuple",data:=.seq c.toArray} r;have J:=m.laid (a:=i.objs.size) (o:=.tup [.str y]) (h':=i.push {cls:=.type "tuple",data:=.seq c.toArray}) (t':=M) (λb u q=>anZ _ q) (aob _) ⟨show 1<=sizeLine by decide,c,O,⟨_,aoj _ rfl,rfl,_,rfl⟩⟩;have k:=apd (Obj.mapFields λx=>x.setIfInBounds 0<|Value.ref i.objs.size) p rfl;exact J.write (x:=ex) (e:=ex) (t':=M) (by rw[ai (aom G),K];exact True.intro) (.inl rfl) (λb u hb q=>by rw[aoT _ _ (aom hb)];exact q) ⟨_,k⟩<|aea k
end
end L2
set_option autoImplicit true
set_option relaxedAutoImplicit true
namespace L2
open PySem PySem.Spec PyProof.Rows
open PySem.W(findIn InstAt)
section
variable{prog:Program}{w:World}{A:Around}{E:Value->Shared->Prop}{s:Shared}{env:Env}
variable{nm q:Str}{C N:Addr}{bs bm bmB:List Value}{hdct:Bool}{sn:List Str}{sub:List Value}{ab:Bool}{col:Option Bool}{dd:Option Addr}{k0 k1 k2 k3 k5:Option Value}{B newId initId:String}
def ExB(C:Addr)(h:Heap):Prop:=∃nm q N bs bm hdct sn sub ab col dd k0 k1 k2 k3 k5 newId,bm.contains (.type "BaseException")=true/\h.get? C=some (excClassObj nm q C N bs bm hdct sn sub ab col dd k0 k1 k2 k3 k5 newId)
def aji(F:ExcBaseFacts B newId initId bmB){mN fI x J i d}{Z:Value->Shared->Prop}(m:bm.contains (.type "BaseException")=true)(j:(backTo i<|starEach d env).any (·.1)=false)(O:mN "__init__"=some (.ref fI))(h:wpAny (model prog w) A (eval (.Name x J) env) (λf l=>f=.ref C/\wpAny (model prog w) A (evalArgs (.ref C) true (backTo i<|starEach d env) []) (λa b=>a.kw=[]/\a.pos.length<=sizeLine/\b.heap.get? C=some (excClassObj nm q C N bs bm hdct sn sub ab col dd k0 k1 k2 k3 k5 newId)/\b.heap.Ns N mN/\OwnTail b.heap bmB bm/\(∃H,b.heap.get? fI=some H/\H.cls=.type "function")/\∀t e,Heap.MadeExcOf b.heap t e (.ref C) a.pos->wpAny (model prog w) (A.under<|.builtin "type.__call__" ⟨.ref C::a.pos,[]⟩) (call (.ref fI) (.ref e::a.pos)) (λr k=>r=.none/\k.heap.get? C=some (excClassObj nm q C N bs bm hdct sn sub ab col dd k0 k1 k2 k3 k5 newId)/\∃o n,k.heap.get? e=some (eO C o n)/\Z (.ref e) k) E {b with heap:=t}) E l) E s):wpAny (model prog w) A (eval (.Call (.Name x J) d [] i) env) (λv k=>∃e o n,v=.ref e/\ExB C k.heap/\k.heap.get? e=some (eO C o n)/\Z (.ref e) k) E s:=by refine wpAny_Call_ofName (aoA h (λf l c=>?_) λ_ _ x=>x);obtain⟨rfl,c⟩:=c;refine anY (aoV<|aoA c (λa b g=>anY<|apV ?_) λ_ _ x=>x);obtain⟨K,y⟩:=a;obtain⟨u,p,I,R,T,⟨H,G,D⟩,g⟩:=g;obtain rfl:y=[]:=u;simp only[j];refine anY<|wpAny_keeperOf_exc I ?_;refine anY (xM (hrest:=p) F T I R O G D λt e U=>aoA (g t e U) (λr k M=>⟨M.1,anY<|aoV<|wpAny_point<|an0 ?_⟩) λ_ _ z=>z);obtain⟨_,Q,o,n,S,P⟩:=M;exact⟨e,o,n,rfl,⟨_,_,_,_,_,_,_,_,_,_,_,_,_,_,_,_,_,m,Q⟩,S,P⟩
def wF{x pos Q}(k:A.handled=none)(h:wpAny (model prog w) A (eval x env) (λv b=>∃e g d,v=.ref e/\ExB C b.heap/\b.heap.get? e=some (eO C g d)/\E (.ref e) b) E s):wpAny (model prog w) A (exec (.Raise (some x) none pos) env) Q E s:=by
 rw[arm_exec_Raise];refine anY (apV<|anY<|anY<|aoA h (λv f a=>anY<|apV<|an0 ?_) λ_ _ x=>x);obtain⟨e,g,d,rfl,⟨nm,q,N,bs,bm,hdct,sn,sub,ab,col,dd,k0,k1,k2,k3,k5,newId,m,i⟩,l,j⟩:=a;have c:(Value.ref C::bm).contains (.type "BaseException")=true:=by grind
 repeat(first|(with_reducible refine wpAny_isSubtype_exc i ?_;rw[c])|wp_step)
 exact wpAny_raiseNew_none k j
end
section
variable{X:Cx}{o value:Expr}{f:Str}{pos pos':Pos}{ta tv:TE}{C:Addr}
def sX1(C:Addr)(ta tv:TE)(f:Str):TS:=λD a H=>tv a H λy g=>ta a g λx b=>∃e c,x=.ref e/\b e=some (.ext<|ka e C none c)/\∀d,b d=none->d≠e->D.nx a (upd (upd b d<|.ext<|fY d [(f,y)]) e<|.ext<|ka e C (some d) c)
def sX2(C:Addr)(ta tv:TE)(f:Str):TS:=λD a H=>tv a H λy c=>ta a c λx b=>∃e d fs g,x=.ref e/\b e=some (.ext<|ka e C (some d) g)/\b d=some (.ext<|fY d fs)/\d≠e/\fs.length<=50/\fs.lookup f=none/\D.nx a (upd b d<|.ext<|fY d<|fs++[(f,y)])
def afk(k:ExcS X.K C)(p:findIn X.K (.ref C) f=some none)(r:PE X o ta)(z:PE X value tv)(hs:swapsWith value (some<|.Attribute o f pos') pos.line X.env=pure false):PS X (.Assign [.Attribute o f pos'] value pos) (sX1 C ta tv f):=by intro c s b H D I h;refine apS (thn (z _ s b H _ I h) λu M⟨y,B,t,m,q⟩=>thn (r _ _ b _ _ t q) λG A a=>?_) hs;obtain⟨x,J,n,w,e,E,ex,l,i⟩:=a;subst ex;obtain rfl:=w;exact vX k n l p m λd K g v j=>⟨b,_,j,i d g v⟩
def ak3(k:ExcS X.K C)(t:findIn X.K (.ref C) f=some none)(v:PE X o ta)(B:PE X value tv)(hs:swapsWith value (some<|.Attribute o f pos') pos.line X.env=pure false):PS X (.Assign [.Attribute o f pos'] value pos) (sX2 C ta tv f):=by intro c s b H D I h;refine apS (thn (B _ s b H _ I h) λu O⟨y,G,w,n,q⟩=>thn (v _ _ b _ _ w q) λK E a=>?_) hs;obtain⟨x,M,p,A,e,d,fs,J,ex,m,r,z,i,g,j⟩:=a;subst ex;obtain rfl:=A;exact x2 k p m r z t n i g λN l=>⟨b,_,l,j⟩
end
noncomputable def del(H:Hp)(e:Addr):Hp:=λb=>if b=e then none else H b
section
variable{X:Cx}{pins:List (Addr×Obj)}{σ:St}{H:Hp}{s:Shared}{e d:Addr}{fs:List (Str×V)}
def Inv.aeO{φ}(I:Inv X pins σ H s)(q:H e=some (.ext φ)):Inv X pins σ (del H e) s:=by
 have none_of:∀{b},H b=none->del H e b=none:=λ{b}h=>by unfold del;split<;>first|rfl|exact h
 have keep:∀{b o},H b=some o->(∀k,o≠.ext k)->del H e b=some o:=λ{b o}h n=>by unfold del;rw[an5 λz=>by grind];exact h
 refine⟨I.ok,I.os,I.bare,⟨I.base.keep,I.base.slot,λb o f i g=>none_of<|I.base.free b o f i g,I.base.there,λb j h=>keep (I.base.tups b j h) (λ_ z=>by cases z),λb o u h=>keep (I.base.frzs b o u h) (λ_ z=>by cases z),λb ps h=>?_⟩,I.loc,I.cell,none_of I.free,λx c h=>none_of<|I.freeC x c h,λp r=>?_,λb u h=>?_,I.len⟩;.obtain⟨a,l⟩:=I.base.tbls b ps h;exact⟨a,keep l λ_ z=>by cases z⟩
 .refine agE (I.pin p r) λf i g=>?_;exact⟨f,none_of i,g⟩
 .have m:=by
   unfold del at h;split at h;.cases h
   .exact h
  exact(I.hok b u m).n5 (λ_ _ _ z=>z) (λc z=>keep z λ_ y=>by cases y) λc j z=>keep z λ_ y=>by cases y
theorem Inv.xd(I:Inv X pins σ H s)(q:H d=some (.ext<|fY d fs)):Inv X pins σ (upd H d<|.xd fs) s:=by obtain⟨f,a,r,g⟩:=(I.hok d _ q).1;have c:∃u,s.heap.get? d=some u:=let⟨o,_,_,b,_⟩:=a;⟨o,b⟩;exact I.write (by rw[q];exact True.intro) (.inl rfl) (λ_ _ _ z=>z) c ⟨f,a,r⟩
end
def spG(C:Addr)(fl:List Str)(L:Nat)(G:List V->Hp->Prop):Sp:=λb H Q _=>∃e ws c,b=.ref e::ws/\ws.length=fl.length/\H e=some (.ext<|ka e C none c)/\G ws H/\∀a y d,H a=none->y.length<=L->upd H a (.tup [.str y]) d=none->d≠e->Q .non (upd (upd (upd H a<|.tup [.str y]) d<|.ext<|fY d<|fl.zip ws) e<|.ext<|ka e C (some d)<|.ref a)
def adW(ws:List V)(_:Hp):Prop:=∀w∈ws,∃i:Int,w=.int i/\i.natAbs.log2<100
abbrev spI(C:Addr)(fl:List Str):Sp:=spG C fl 50000 adW
section
variable{X:Cx}{t:TA}{x:Str}{C fI:Addr}{fd:FuncData}{ps fl:List Str}{k:Nat}{np cpos pos:Pos}{e:Expr}{es:List Expr}
def acB{G L}(hg:Gl X x)(hm:X.mg x=some (.ref C))(q:pz X.K C (some<|.ref fI))(a1:W.typeIn X.K (.ref fI)=some (.type "function"))(F:FnOk X.prog X.w X.K X.mg X.base CX0 k fI fd ps (spG C fl L G))(gm:∀ws H b o,H b=none->G ws H->G ws (upd H b o))(hr:Room (k+1) X.A)(hb:Binds X.K fd ps [])(ha:PA X (e::es) t){pins s σ H}{Z:Value->Shared->Prop}{R:List V->Hp->Prop}(I:Inv X pins σ H s)(h:t σ H R)(hR:∀f D,R f D->f.length=fl.length/\G f D/\fl.length<=50/\∀s e d c y,D c=none->y.length<=L->upd D c (.tup [.str y]) d=none->d≠e->Inv X pins σ (upd (upd D c<|.tup [.str y]) d<|.xd<|fl.zip f) s->s.heap.get? e=some (eO C (some d)<|.ref c)->FpX X pins (upd (upd D c<|.tup [.str y]) d<|.xd<|fl.zip f) e->Z (.ref e) s)(hd:Dbg x:=by decide)(he:SE X e es:=by rfl)(l:BT X cpos es:=by rfl):wpAny (model X.prog X.w) X.A (eval (.Call (.Name x np) (e::es) [] cpos) X.env) (λv P=>∃e dx a0,v=.ref e/\ExB C P.heap/\P.heap.get? e=some (eO C dx a0)/\Z (.ref e) P) X.xe s:=by
 obtain⟨bm,N,nm,qn,bs,hdct,sn,sub,ab,col,dd,k0,k1,k2,k3,k5,mN,hC,hN,hi,T⟩:=aa2 I.mod.kin q;refine gB (aoI.mp a1) λoI a5 a4=>?_;refine aji (C:=C) (nm:=nm) (q:=qn) (N:=N) (bs:=bs) (bm:=bm) (hdct:=hdct) (sn:=sn) (sub:=sub) (ab:=ab) (col:=col) (dd:=dd) (k0:=k0) (k1:=k1) (k2:=k2) (k3:=k3) (k5:=k5) apm (mN:=mN) (fI:=fI) (T.hasType apm.hasBase) (by rw[he];show(false||(backTo cpos<|starEach es X.env).any (·.1))=false;rw[l];rfl) hi<|gi I hg hm ⟨rfl,?_⟩ hd;have hA:=ha cpos pins s σ H _ I h;rw[he]at hA⊢;refine aqA (thn hA λA s2⟨f,i,w,r2,O⟩=>⟨rfl,?_,w.bk _ _ hC,hN.keeps w.bk,T.keeps w.bk,⟨oI,w.bk _ _<|I.mod.kin _ _ a5,a4⟩,λh' a hx=>?_⟩);.rw[<-r2.length,(hR _ _ O).1];exact aoh (hR _ _ O).2.2.1 (by decide)
 obtain⟨hl,a2,a6,O⟩:=hR _ _ O;refine ix hx.there λg h1 h2 h3=>?_;have hH:i a=none:=by cases z:i a with|none=>rfl|some u=>obtain⟨o,ho⟩:=fJ<|w.hok a u z;rw[hx.new]at ho;cases ho
 have J:=w.kept (t':=s2.toks) hx.keeps;have fp:∀M,M a=none->FpX X pins M a:=λM hn=>w.fpX hx.new hn;have J2:Inv X pins σ (upd i a<|.ext<|ka a C none<|.ref g) {s2 with heap:=h'}:=J.adN (fp i hH) ⟨h1,⟨_,h1⟩,λ_ _ z k=>k _ z⟩;have r3:Vals (V.ref a::f) (Value.ref a::A):=.cons rfl r2;let Q':VK:=λv M=>v=.non/\∃c y d,upd i a (.ext<|ka a C none<|.ref g) c=none/\y.length<=L/\upd (upd i a<|.ext<|ka a C none<|.ref g) c (.tup [.str y]) d=none/\d≠a/\M=upd (upd (upd (upd i a<|.ext<|ka a C none<|.ref g) c<|.tup [.str y]) d<|.ext<|fY d<|fl.zip f) a (.ext<|ka a C (some d)<|.ref c);have sp:spG C fl L G (V.ref a::f) (upd i a<|.ext<|ka a C none<|.ref g) Q' λ_ _ _=>False:=⟨a,f,_,rfl,hl,aj,gm _ _ _ _ hH a2,λc y d p E Q z4=>⟨rfl,c,y,d,p,E,Q,z4,rfl⟩⟩;have Y:(Value.ref a::A).length=ps.length:=by rw[<-r3.length];exact F.len _ _ _ _ sp
 have U:=hb {s2 with heap:=h'} (Value.ref a::A) J2.kIn (by rw[apc];exact Y);rw[apc]at U;refine apJ (apA (F.run _ X.stack _ _ ⟨Value.ref a::A,[]⟩ (Value.ref a::A) _ Q' (λ_ _ _=>False) (hr.make C A []) trivial (J2.aiW.make C A []) U r3 sp) λr P B=>?_);cases r with|error e'=>exact False.elim B|ok fl'=>cases fl' with|next|brk|cont=>exact False.elim B|ret u=>
   obtain⟨v,M,I3,rv,ev,c,y,d,m,hy,j,K,eH⟩:=J2.after B;subst ev eH;have n:c≠a:=λz=>by rw[z,aj]at m;cases m
   have a3:d≠c:=λz=>by rw[z,aj]at j;cases j
   have S:=vC I3 (e:=a) (C:=C) (dx:=some d) aj;refine⟨rv,I3.bk _ _ hC,some d,_,S,?_⟩;have I4:=I3.xd (d:=d) (fs:=fl.zip f) (by rw[ai K,aj]);have I5:=I4.aeO (e:=a) (φ:=ka a C (some d)<|.ref c) (by rw[ai (aom K),aj]);have eH:del (upd (upd (upd (upd (upd i a<|.ext<|ka a C none<|.ref g) c<|.tup [.str y]) d<|.ext<|fY d<|fl.zip f) a<|.ext<|ka a C (some d)<|.ref c) d<|.xd<|fl.zip f) a=upd (upd i c<|.tup [.str y]) d (.xd<|fl.zip f):=by
    funext b;unfold del;by_cases p:b=a;.rw[an4 p,p,ai<|aom K,ai<|aom n,hH]
    .rw[an5 p];by_cases E:b=d;.rw[E,aj,aj]
     .rw[ai E,ai p,ai E,ai E];by_cases Q:b=c;.rw[Q,aj,aj]
      .rw[ai Q,ai Q,ai p]
   rw[eH]at I5;refine O P a d c y (by rwa[ai n]at m) hy (by rw[ai a3]at j⊢;rwa[ai K]at j) K I5 S (fp _<|by rw[ai (aom K),ai<|aom n];exact hH)
def aeR(X:Cx)(C:Addr)(fl:List Str)(t:TA):TS:=λ_ g H=>t g H λf b=>f.length=fl.length/\adW f b/\fl.length<=50/\∀a s e d c y,b c=none->y.length<=50000->upd b c (.tup [.str y]) d=none->d≠e->Thr X a g (upd (upd b c<|.tup [.str y]) d<|.xd<|fl.zip f) s e C (some d,.ref c,.none) .none none->X.xe (.ref e) s
def y3(B:X.calm=true)(i:Gl X x)(E:X.mg x=some (.ref C))(q:pz X.K C (some<|.ref fI))(c:W.typeIn X.K (.ref fI)=some (.type "function"))(F:FnOk X.prog X.w X.K X.mg X.base CX0 k fI fd ps (spI C fl))(A:Room (k+1) X.A)(w:Binds X.K fd ps [])(p:PA X (e::es) t)(g:Dbg x:=by decide)(f:SE X e es:=by rfl)(a:BT X cpos es:=by rfl):PS X (.Raise (some<|.Call (.Name x np) (e::es) [] cpos) none pos) (aeR X C fl t):=λb s O H D I h=>wF (C:=C) (I.ok.hd B) (acB i E q c F (λ_ _ _ _ _ z=>z) A w p I h (λM N⟨G,j,u,v⟩=>⟨G,j,u,λs e d l y K o n m J f r=>v b s e d l y K o n m ⟨J,⟨_,_,f,rfl,rfl,rfl,rfl,rfl,rfl⟩,r,λt z=>by cases z⟩⟩) g f a)
end
end L2
set_option autoImplicit true
set_option relaxedAutoImplicit true
namespace L2
open PySem PySem.Spec PyProof.Rows
open PySem.W(findIn InstAt mroIn)
section
variable{K:W.Frag}{C:Addr}
structure StrK(K:W.Frag)(C:Addr):Prop where
 fm:findIn K (.ref C) "__format__"=some (some<|.builtin "object.__format__")st:findIn K (.ref C) "__str__"=some (some<|.builtin "BaseException.__str__")mo:mroIn K C (.type "object")=some true
 mb:mroIn K C (.type "BaseException")=some true
end
end L2
set_option autoImplicit true
set_option relaxedAutoImplicit true
namespace L2
open PySem PySem.Spec PyProof.Rows
open PySem.W(findIn InstAt mroIn)
def Chn(H:Hp):Nat->Value->Prop|0,v=>v=.none|n+1,v=>∃a C b,v=.ref a/\H a=some (.ext<|excAt a C b)/\Chn H n b.2.2
end L2
namespace L2
open PySem PySem.Spec PyProof.Rows
section
variable{X:Cx}
inductive TyW(K:W.Frag)(H:Hp):V->Value->Prop where|non:TyW K H .non (.type "NoneType")|bl(x:Bool):TyW K H (.bl x) (.type "bool")|int(i:Int):TyW K H (.int i) (.type "int")|str(x:Str):TyW K H (.str x) (.type "str")|lst{a:Addr}{xs:List V}(e:SqL K H a xs):TyW K H (.ref a) (.type "list")|tup{a:Addr}{xs:List V}(e:SqT K H a xs):TyW K H (.ref a) (.type "tuple")
def TyW.kit{pins:List (Addr×Obj)}{σ:St}{H:Hp}{s:Shared}{x:V}{u t:Value}(ty:TyW X.K H x t)(I:Inv X pins σ H s)(b:RelV x u):(∃P:Heap->Prop,W.KitX X.K u t P/\P s.heap)/\u≠.builtin "__main__.__loader__#opaque":=by cases ty with|non=>cases show u=Value.none from b;exact⟨⟨_,W.kitx_none,trivial⟩,λz=>nomatch z⟩|bl y=>cases show u=Value.bool y from b;exact⟨⟨_,W.kitx_bool,trivial⟩,λz=>nomatch z⟩|int i=>obtain⟨t,q⟩:=show∃t,u=Value.int i t from b;cases q;exact⟨⟨_,W.kitx_int,trivial⟩,λz=>nomatch z⟩|str y=>obtain⟨t,q⟩:=show∃t,u=Value.str y t from b;cases q;exact⟨⟨_,W.kitx_str,trivial⟩,λz=>nomatch z⟩|@lst a xs e=>cases show u=Value.ref a from b;obtain⟨c,_,p,_⟩:=I.list e;obtain⟨o,d,f,_⟩:=p.isList;exact⟨⟨_,arz,⟨o,d,f⟩⟩,λz=>nomatch z⟩|@tup a xs e=>cases show u=Value.ref a from b;obtain⟨c,_,⟨o,d,f,_⟩,_⟩:=I.tuple e;exact⟨⟨_,W.kitx_tuple,⟨o,d,f⟩⟩,λz=>nomatch z⟩
def rj:bC X (.builtin "isinstance") λd H Q=>∃x a T U t b,d=[x,.ref a]/\SqT X.K H a [.ty T,.ty U]/\TyW X.K H x t/\W.kitAny X.K t [.type T,.type U]=some b/\Q (.bl b) H:=by intro c s M H d K Q I r h;obtain⟨x,a,T,U,t,b,rfl,l,ty,e,q⟩:=h;obtain⟨u,E,rfl,A,w⟩:=vals2 r;cases show E=Value.ref a from w;obtain⟨⟨P,Z,D⟩,z⟩:=ty.kit I A;obtain⟨B,f,⟨o,m,G,n,y⟩,_⟩:=I.tuple l;obtain⟨i,g,rfl,j,p⟩:=vals2 f;cases show i=Value.type T from j;cases show g=Value.type U from p;obtain⟨v,od,C,J⟩:=o;cases show v=_ from G;cases show C=_ from y;exact W.kia_tup Z I.kIn D m e z λk=>⟨.bl b,H,I.tok k,rfl,q⟩
def zy:MtR X "list.count" λx g H Q=>∃n y d b,g=[y]/\IsD X.K H n y d/\IsD X.K H (n+1) x (.list b)/\X.A.units+1+n<cLine/\Q (.int (b.countP λz=>PyData.eqv z d:Nat)) H:=by
 intro h s M H x g v G Q I w i⟨n,y,d,b,e,p,A,C,q⟩;subst e;obtain⟨u,rfl,B⟩:=vals1 i;obtain⟨⟨J,r⟩,j,D⟩:=I.reads n d y u p B;obtain⟨⟨bs,t⟩,f,E⟩:=I.reads _ _ x v A w;have f:PyData.canLayAll0 b=true:=by simpa[PyData.canLay0]using f
 cases t with|@list a o its m ds' as' h1 h2 h3 h4=>
 obtain⟨cl,dd,K,l⟩:=o;cases h2;cases h3;have c:=SeqAt.readsAll_map b _ _ f h4;refine arF F.slot_list_count ⟨_,h1,rfl⟩ F.entry_list_count (F.args_list_count_2 _ _) (SeqAt.list_countAt a its m dd l u λz=>PyData.eqv (SeqAt.readOf s.heap z) d) ⟨h1,SeqAt.items_eqAt h4 r f j (by have:=ap5 (PyData.depthAll b) d.depth;omega),?_⟩;have k:(its.toList.countP λz=>PyData.eqv (SeqAt.readOf s.heap z) d)=b.countP λz=>PyData.eqv z d:=by rw[<-c,List.countP_map];rfl
 rw[k];exact⟨.int _,H,I.tok _,⟨_,rfl⟩,q⟩
def yx(t:TA):TE:=λc H Q=>t c H λb a=>∃j:Int,b=[.int j]/\-2^62<=j/\j<2^62/\∀r,a r=none->Q (.ref r) (upd a r<|.rng 0 j)
def zf{a:Expr}{ta:TA}{p pos:Pos}(i:Gl X "range")(n:X.mg "range"=none)(g:PA X [a] ta)(hs:starEach [a] X.env=[(false,eval a X.env)]:=by rfl):PE X (.Call (.Name "range" p) [a] [] pos) (yx ta):=by intro c s m H Q I h;refine Call_ (g0 I i n arE<|aoW (thn (g pos c s m H _ I h) λw k d=>?_) hs rfl);obtain⟨x,y,f,l,v⟩:=d;obtain⟨j,rfl,_,_,q⟩:=v;obtain⟨u,rfl,r⟩:=vals1 l;obtain⟨t,rfl⟩:=r;exact call_range_1 ⟨.ref k.heap.objs.size,_,f.laid (o:=.rng 0 j) (λb o e=>anZ _ e) (aob _) ⟨_,_,_,aoj _ rfl⟩,rfl,q _<|f.hok.fresh<|aob _⟩
end
def Wlk(h:Heap):Bool->Addr->Addr->Nat->Prop|true,it,a,k=>h.IsListIter it a k|false,it,a,k=>h.IsTupleIter it a k
def rC(h:Heap):Bool->Addr->Array Value->Prop|true,a,xs=>h.IsList a xs|false,a,xs=>h.IsTuple a xs
def SqB(K:W.Frag)(H:Hp):Bool->Addr->List V->Prop|true,a,xs=>SqL K H a xs|false,a,xs=>SqT K H a xs
def Wlk.go{h h':Heap}{lt:Bool}{it a:Addr}{k:Nat}(w:Wlk h lt it a k)(e:∀o,h.get? it=some o->h'.get? it=some o):Wlk h' lt it a k:=by cases lt with|true|false=>obtain⟨o,b,r⟩:=w;exact⟨o,e o b,r⟩
def rC.go{h h':Heap}{lt:Bool}{a:Addr}{xs:Array Value}(w:rC h lt a xs)(e:∀o,h.get? a=some o->h'.get? a=some o):rC h' lt a xs:=by cases lt with|true|false=>obtain⟨o,b,r⟩:=w;exact⟨o,e o b,r⟩
def Wlk.ajE{h:Heap}{lt:Bool}{it a:Addr}{k:Nat}(w:Wlk h lt it a k):∃o b,h.get? it=some o/\o.data=.fields b:=by cases lt with|true|false=>obtain⟨o,c,_,r⟩:=w;exact⟨o,_,c,r⟩
def rC.there{h:Heap}{lt:Bool}{a:Addr}{xs:Array Value}(w:rC h lt a xs):∃o,h.get? a=some o:=by cases lt with|true|false=>obtain⟨o,b,_⟩:=w;exact⟨o,b⟩
section
variable{prog:Program}{w:World}{A:Around}{E:Value->Shared->Prop}{s:Shared}
def pK{lt:Bool}{it a:Addr}{k:Nat}{xs:Array Value}{x:Value}{Q:Value->Shared->Prop}(hw:Wlk s.heap lt it a k)(d:rC s.heap lt a xs)(e:xs[k]?=some x)(c:∀b,Wlk b lt it a (k+1)->Heap.SameBut it s.heap b->Q x {s with heap:=b}):wpAny (model prog w) A (Builtin.SmallTypes.nextOf<|.ref it) Q E s:=by cases lt with|true=>exact wpAny_nextOf_list_item hw d e c|false=>exact m8 hw d e c
def yi{lt:Bool}{it a:Addr}{k:Nat}{xs:Array Value}{Q:Value->Shared->Prop}(d:A.handled=none)(hw:Wlk s.heap lt it a k)(c:rC s.heap lt a xs)(g:xs[k]?=none)(f:∀b e,Heap.ExtBut it s.heap b->(∃o,b.get? e=some o/\o.cls=.type "StopIteration")->E (.ref e) {s with heap:=b}):wpAny (model prog w) A (Builtin.SmallTypes.nextOf<|.ref it) Q E s:=by cases lt with|true=>exact wpAny_nextOf_list_end d hw c g f|false=>exact qD d hw c g f
def xY{lt:Bool}{a h b f g r B:Addr}{k:Nat}{xs ys:Array Value}{x y u v:Value}{Q:Option Value->Shared->Prop}(D:ZipApart a h b f g r B)(hz:IsZip s.heap a h b .none)(hI:IsPair s.heap h (.ref f) (.ref g))(hO:IsPair s.heap b u v)(w1:Wlk s.heap lt f r k)(w2:Wlk s.heap lt g B k)(q1:rC s.heap lt r xs)(q2:rC s.heap lt B ys)(hx:xs[k]?=some x)(hy:ys[k]?=some y)(hQ:∀p,IsZip p a h b (rawInt s.heap.objs.size)->IsPair p b x y->Wlk p lt f r (k+1)->Wlk p lt g B (k+1)->IsPair p s.heap.objs.size x y->(∀c o,c≠a->c≠b->c≠f->c≠g->s.heap.get? c=some o->p.get? c=some o)->Q (some<|.ref s.heap.objs.size) {s with heap:=p}):wpAny (model prog w) A (pyNext<|.ref a) Q E s:=by
 have hT:s.TypeIs (.ref a) "zip":=⟨_,hz,rfl⟩;unfold pyNext;refine anY<|ap9<|ao5 (name:=Str.ofString "__next__") hT aqC<|apn aqC hT F.entry_zip_next ?_<|F.args_zip_next_1 _;show wpAny _ _ (field (.ref a) 2 >>=_) _ _ s;refine anY<|aoB (s:=s) hz rfl (x:=.bool false) rfl ?_;show wpAny _ _ (field (.ref a) 3 >>=_) _ _ s;refine anY<|aoB (s:=s) hz rfl (x:=.ref h) rfl<|anY<|aps hI rfl ?_;show wpAny _ _ (Builtin.SmallTypes.ownedTupleIsFree (.ref a)>>=_) _ _ s;unfold Builtin.SmallTypes.ownedTupleIsFree;refine anY<|anY<|aoB (s:=s) hz rfl (x:=.none) rfl<|an0 ?_;simp only[aqa];refine anY (aq3<|anY<|aoB (s:=s) hz rfl (x:=.ref b) rfl<|anY<|aoZ hz (by simp) λM X l=>?_);replace X:IsZip M a h b .ellipsis:=X;simp only[List.zipIdx_cons,List.zipIdx_nil,aru,List.forIn_nil];refine anY<|anY<|anY<|wpAny_onRaise ?_;show wpAny _ _ (Builtin.SmallTypes.nextOf (.ref f)>>=_) _ _ {s with heap:=M};refine anY (pK (s:={s with heap:=M}) (w1.go λo=>l.extBut _ o D.i1z) (q1.go λo=>l.extBut _ o D.l1z) hx λG n1 j=>an0 ?_);replace j:Heap.SameBut f M G:=j;have O2:IsPair G b u v:=j.extBut _ _ D.TOi1<|l.extBut _ _ D.TOz hO;refine anY (aps (s:={s with heap:=G}) O2 rfl<|anY<|wpAny_updateSeq_pair (s:={s with heap:=G}) O2 λt T i=>anY<|wpAny_letGo<|an0 ?_);replace T:IsPair t b x v:=T;replace i:Heap.SameBut b G t:=i;refine anY<|anY<|wpAny_onRaise ?_;show wpAny _ _ (Builtin.SmallTypes.nextOf (.ref g)>>=_) _ _ {s with heap:=t};refine anY (pK (s:={s with heap:=t}) (w2.go λo z=>i.extBut _ o D.TOi2.symm<|j.extBut _ o D.i12.symm<|l.extBut _ o D.i2z z) (q2.go λo z=>i.extBut _ o D.l2TO<|j.extBut _ o D.l2i1<|l.extBut _ o D.l2z z) hy λC n2 q=>an0 ?_);replace q:Heap.SameBut g t C:=q;have O4:IsPair C b x v:=q.extBut _ _ D.TOi2 T;refine anY (aps (s:={s with heap:=C}) O4 rfl<|anY<|wpAny_updateSeq_pair (s:={s with heap:=C}) O4 λd I n=>anY<|wpAny_letGo<|an0<|an0 ?_);replace I:IsPair d b x y:=I;replace n:Heap.SameBut b C d:=n;refine anY<|aps (s:={s with heap:=d}) I rfl<|anY<|wpAny_newTuple ?_;have sz:d.objs.size=s.heap.objs.size:=by rw[n.1,q.1,i.1,j.1,l.1]
 have z5:IsZip d a h b .ellipsis:=n.extBut _ _ D.TOz.symm<|q.extBut _ _ D.i2z.symm<|i.extBut _ _ D.TOz.symm<|j.extBut _ _ D.i1z.symm X;have k5:∀c o,c≠a->c≠b->c≠f->c≠g->s.heap.get? c=some o->d.get? c=some o:=λc o m K Y S e=>n.extBut _ _ K<|q.extBut _ _ S<|i.extBut _ _ K<|j.extBut _ _ Y<|l.extBut _ _ m e;have m1:Wlk d lt f r (k+1):=n1.go λo z=>n.extBut _ o D.TOi1.symm<|q.extBut _ o D.i12<|i.extBut _ o D.TOi1.symm z;have m2:Wlk d lt g B (k+1):=n2.go λo z=>n.extBut _ o D.TOi2.symm z;have Z:a<d.objs.size:=an9 z5;show wpAny _ _ (Builtin.SmallTypes.ownedTupleHandOut (.ref a) (.ref d.objs.size)>>=_) _ _ _;unfold Builtin.SmallTypes.ownedTupleHandOut;refine anY (anY<|aoZ (s:={s with heap:=d.push {cls:=.type "tuple",data:=.seq #[x,y]}}) (anZ _ z5) (by simp) λP U O=>?_);replace U:IsZip P a h b (rawInt d.objs.size):=U;replace O:Heap.SameBut a (d.push {cls:=.type "tuple",data:=.seq #[x,y]}) P:=O;refine aoZ (s:={s with heap:=P}) U (by simp) λH R J=>?_;replace R:IsZip H a h b (rawInt d.objs.size):=R;replace J:Heap.SameBut a P H:=J;have N:∀c o,c≠a->d.get? c=some o->H.get? c=some o:=λc o m e=>J.extBut _ _ m<|O.extBut _ _ m<|anZ _ e;have T8:IsPair H d.objs.size x y:=J.extBut _ _ (aoE Z)<|O.extBut _ _ (aoE Z)<|aoj _ rfl;rw[sz]at R T8;refine an0 ⟨_,rfl,an0 ?_⟩;show Q (some<|.ref d.objs.size) _;rw[sz];exact hQ H R (N _ _ D.TOz I) (m1.go λo z=>N _ o D.i1z z) (m2.go λo z=>N _ o D.i2z z) T8 λc o m K Y S e=>N c o m<|k5 c o m K Y S e
def abt{lt:Bool}{a h f g H p K:Addr}{k:Nat}{xs:Array Value}{Q:Option Value->Shared->Prop}(M:A.handled=none)(D:ZipApart a h f g H p K)(hz:IsZip s.heap a h f .none)(J:IsPair s.heap h (.ref g) (.ref H))(I:∃u v,IsPair s.heap f u v)(w1:Wlk s.heap lt g p k)(X:rC s.heap lt p xs)(P:xs[k]?=none)(S:∀G,(∀c o,c≠a->c≠g->s.heap.get? c=some o->G.get? c=some o)->Q none {s with heap:=G}):wpAny (model prog w) A (pyNext<|.ref a) Q E s:=by
 have C:s.TypeIs (.ref a) "zip":=⟨_,hz,rfl⟩;obtain⟨u,v,I⟩:=I;unfold pyNext;refine anY<|ap9<|ao5 (name:=Str.ofString "__next__") C aqC<|apn aqC C F.entry_zip_next ?_<|F.args_zip_next_1 _;show wpAny _ _ (field (.ref a) 2 >>=_) _ _ s;refine anY<|aoB (s:=s) hz rfl (x:=.bool false) rfl ?_;show wpAny _ _ (field (.ref a) 3 >>=_) _ _ s;refine anY<|aoB (s:=s) hz rfl (x:=.ref h) rfl<|anY<|aps J rfl ?_;show wpAny _ _ (Builtin.SmallTypes.ownedTupleIsFree (.ref a)>>=_) _ _ s;unfold Builtin.SmallTypes.ownedTupleIsFree;refine anY<|anY<|aoB (s:=s) hz rfl (x:=.none) rfl<|an0 ?_;simp only[aqa];refine anY (aq3<|anY<|aoB (s:=s) hz rfl (x:=.ref f) rfl<|anY<|aoZ hz (by simp) λl r q=>?_);replace r:IsZip l a h f .ellipsis:=r;simp only[List.zipIdx_cons,List.zipIdx_nil,aru,List.forIn_nil];refine anY<|anY<|anY<|wpAny_onRaise ?_;show wpAny _ _ (Builtin.SmallTypes.nextOf (.ref g)>>=_) _ _ {s with heap:=l};refine anY (yi (s:={s with heap:=l}) M (w1.go λo=>q.extBut _ o D.i1z) (X.go λo=>q.extBut _ o D.l1z) P λm e n N=>?_);replace n:Heap.ExtBut g l m:=n;obtain⟨R,d,i⟩:=N;have B:IsZip m a h f .ellipsis:=n _ _ D.i1z.symm r;have O:e≠a:=λx=>by subst x;rw[B]at d;cases d;simp at i
 refine aoZ (s:={s with heap:=m}) B (by simp) λt _ j=>?_;replace j:Heap.SameBut a m t:=j;refine anY (wpAny_isInstance (s:={s with heap:=t}) (T:="StopIteration") (b:=true) ⟨R,j.extBut _ _ O d,i⟩ isSubtype_stop<|an0<|S t λc o y U z=>j.extBut _ _ y<|n _ _ U<|q.extBut _ _ y z)
end
def xX{n a b:Nat}(c:a<n)(d:b<n):ZipApart (n+4) (n+2) (n+3) n (n+1) a b:=by constructor<;>(intro h;have h:(_:Nat)=_:=h;omega)
noncomputable abbrev g4(lt:Bool)(a:Addr):Obj:={cls:=.type (if lt then"list_iterator"else"tuple_iterator"),data:=.fields #[.ref a,.int 0 0]}
abbrev zh2(h:Heap)(lt:Bool)(a b:Addr):Heap:=(h.push<|g4 lt a).push<|g4 lt b
abbrev zh4(h:Heap)(lt:Bool)(a b:Addr):Heap:=((zh2 h lt a b).push {cls:=.type "tuple",data:=.seq #[.ref h.objs.size,.ref (h.push<|g4 lt a).objs.size]}).push {cls:=.type "tuple",data:=.seq #[.none,.none]}
abbrev zh5(h:Heap)(lt:Bool)(a b:Addr):Heap:=(zh4 h lt a b).push {cls:=.type "zip",data:=.fields #[.none,.bool false,.bool false,.ref (zh2 h lt a b).objs.size,.ref ((zh2 h lt a b).push {cls:=.type "tuple",data:=.seq #[.ref h.objs.size,.ref (h.push<|g4 lt a).objs.size]}).objs.size]}
def vU(lt:Bool)(a b:Addr)(xs ys:Array Value):Meets (Builtin.«zip.__new__» ⟨[.type "zip",.ref a,.ref b],[]⟩) λ_ R s=>rC s.heap lt a xs/\rC s.heap lt b ys/\R (.ok<|.ret<|.ref (zh4 s.heap lt a b).objs.size) {s with heap:=zh5 s.heap lt a b}:=.of_wp λl w A R s h=>by
 obtain⟨e,g,d,c,os⟩:=s;obtain⟨k,m,h⟩:=h;have j:=sub_zip;cases lt;.have i:Heap.IsTuple (Shared.heap ⟨e,g,d,c,os⟩) a xs:=k;have f:Heap.IsTuple (Shared.heap ⟨e.push {cls:=.type "tuple_iterator",data:=.fields #[.ref a,.int 0 0]},g,d,c,os⟩) b ys:=rC.go (lt:=false) m λo z=>anZ _ z;wp_walk using aqj i,aqj f;exact⟨_,rfl,h⟩
 .have i:Heap.IsList (Shared.heap ⟨e,g,d,c,os⟩) a xs:=k;have f:Heap.IsList (Shared.heap ⟨e.push {cls:=.type "list_iterator",data:=.fields #[.ref a,.int 0 0]},g,d,c,os⟩) b ys:=rC.go (lt:=true) m λo z=>anZ _ z;wp_walk using ap1 i,ap1 f;exact⟨_,rfl,h⟩
section
variable{prog:Program}{w:World}{A:Around}{E:Value->Shared->Prop}{s:Shared}
def xZ{lt:Bool}{a b:Addr}{xs ys:Array Value}{Q:Value->Shared->Prop}(q:rC s.heap lt a xs)(r:rC s.heap lt b ys)(h:∀d,IsZip d (s.heap.objs.size+4) (s.heap.objs.size+2) (s.heap.objs.size+3) .none->IsPair d (s.heap.objs.size+2) (.ref s.heap.objs.size) (.ref<|s.heap.objs.size+1)->IsPair d (s.heap.objs.size+3) .none .none->Wlk d lt s.heap.objs.size a 0->Wlk d lt (s.heap.objs.size+1) b 0->(∀c o,s.heap.get? c=some o->d.get? c=some o)->Q (.ref<|s.heap.objs.size+4) {s with heap:=d}):wpAny (model prog w) A (call (.type "zip") [.ref a,.ref b]) Q E s:=by
 refine callType_new F.called_zip (by decide) (F.typeCall_zip_2 _ _) (F.newCall_zip_2 _ _) (λg=>F.args_object_init_3 g _ _) F.entry_zip_new (vU lt a b xs ys) ⟨q,r,?_⟩;have f:(s.heap.push<|g4 lt a).objs.size=s.heap.objs.size+1:=apq ..;have i:(zh2 s.heap lt a b).objs.size=s.heap.objs.size+2:=by rw[apq,f]
 have e:((zh2 s.heap lt a b).push {cls:=.type "tuple",data:=.seq #[.ref s.heap.objs.size,.ref (s.heap.push<|g4 lt a).objs.size]}).objs.size=s.heap.objs.size+3:=by rw[apq,i]
 have n:(zh4 s.heap lt a b).objs.size=s.heap.objs.size+4:=by rw[apq,e]
 have j:(zh5 s.heap lt a b).get? (zh4 s.heap lt a b).objs.size=some _:=aoj _ rfl;have l:(zh5 s.heap lt a b).get? ((zh2 s.heap lt a b).push {cls:=.type "tuple",data:=.seq #[.ref s.heap.objs.size,.ref (s.heap.push<|g4 lt a).objs.size]}).objs.size=some _:=anZ _<|aoj _ rfl;have m:(zh5 s.heap lt a b).get? (zh2 s.heap lt a b).objs.size=some _:=anZ _<|anZ _<|aoj _ rfl;have k:(zh5 s.heap lt a b).get? (s.heap.push<|g4 lt a).objs.size=some (g4 lt b):=anZ _<|anZ _<|anZ _<|aoj _ rfl;have p:(zh5 s.heap lt a b).get? s.heap.objs.size=some (g4 lt a):=anZ _<|anZ _<|anZ _<|anZ _<|aoj _ rfl;show _/\_;rw[i,e,n]at j;rw[f,i]at m;rw[e]at l;rw[f]at k;rw[n];refine⟨⟨_,j,rfl⟩,h _ j m l ?_ ?_ λc o x=>anZ _<|anZ _<|anZ _<|anZ _<|anZ _ x⟩
 .cases lt;.exact⟨_,p,rfl,rfl⟩
  .exact⟨_,p,rfl,rfl⟩
 .cases lt;.exact⟨_,k,rfl,rfl⟩
  .exact⟨_,k,rfl,rfl⟩
end
def Inv.yq{X:Cx}{pins:List (Addr×Obj)}{σ:L2.St}{H:Hp}{s:Shared}{h':Heap}{t':Nat}{ch:List Addr}(I:Inv X pins σ H s)(k:∀c o,c∉ch->s.heap.get? c=some o->h'.get? c=some o)(b:∀c∈ch,uc X pins H c):Inv X pins σ H {s with heap:=h',toks:=t'}:=by
 have d:∀c u,H c=some u->c∉ch:=λc u e z=>by rw[(b c z).1]at e;cases e
 refine I.step (g':=s.gens) (d':=s.drawn) (ch:=ch) (λc a=>⟨(b c a).2.2.2.1,(b c a).2.1,(b c a).2.2.2.2.1,(b c a).2.2.2.2.2⟩) (λc o _ _ a e _=>k c o a e) (λc o _ _ a e _=>⟨o.slots,k c o a e⟩) (λ_ _ _ _ n=>n) (λc o a e=>⟨o,k c o a e⟩) (λ_ _ e=>e) (λ_ _ _ e=>e) (λc ps e=>⟨#[],by rw[e];simp⟩) (λm i=>?_) (λc u e=>?_) I.bare;.obtain⟨o,h,j,g,r⟩:=i;exact⟨o,h,j,k _ o (λz=>(b _ z).2.1 rfl) g,r⟩
 .refine(I.hok c u e).n5 (λf v a q=>k f v ?_ q) (λ_ q=>q) λ_ _ q=>q;rcases a with z|z;.rw[z];exact d c u e
  .exact d f _ z
def Itz(K:W.Frag)(lt:Bool)(a b:Addr):It:=⟨λi H=>∃c d x y,SqB K H lt a c/\SqB K H lt b d/\c[i]?=some x/\d[i]?=some y,λi H v e=>∃p,v=.ref p/\H p=none/\∀c d,SqB K H lt a c->SqB K H lt b d->∃x y,c[i]?=some x/\d[i]?=some y/\e=upd H p (.tup [x,y]),λi H=>∃c,SqB K H lt a c/\c.length<=i⟩
def Inv.ahm{X:Cx}{pins:List (Addr×Obj)}{σ:L2.St}{H:Hp}{s:Shared}{lt:Bool}{a:Addr}{xs:List V}(I:Inv X pins σ H s)(h:SqB X.K H lt a xs):∃b:List Value,Vals xs b/\rC s.heap lt a b.toArray:=by cases lt with|true=>obtain⟨b,r,p,_⟩:=I.list h;exact⟨b,r,p.isList⟩|false=>obtain⟨b,r,p,_⟩:=I.tuple h;exact⟨b,r,p⟩
def Inv.uQ{X:Cx}{pins:List (Addr×Obj)}{σ:L2.St}{H:Hp}{s:Shared}{lt:Bool}{a:Addr}{xs ys:List V}(I:Inv X pins σ H s)(h:SqB X.K H lt a xs)(h':SqB X.K H lt a ys):xs=ys:=by cases lt with|true=>exact I.oE h h'|false=>exact I.kG h h'
def abP{P:Program}{w:World}{K:W.Frag}{es:List Expr}{k:Nat}{pos:Pos}{lt:Bool}{a b zp ti tO j1 j2:Addr}(D:ZipApart zp ti tO j1 j2 a b):Turn P w K (.Tuple es k pos) (Itz K lt a b) [zp,ti,tO,j1,j2] zp λi h=>IsZip h zp ti tO .none/\IsPair h ti (.ref j1) (.ref j2)/\(∃u v,IsPair h tO u v)/\Wlk h lt j1 a i/\Wlk h lt j2 b i where
 mem:=by simp
 obj:=λi h st c hc=>by
  obtain⟨hz,hI,⟨u,v,hO⟩,w1,w2⟩:=st;simp only[an7,aop,apo]at hc;rcases hc with rfl|rfl|rfl|rfl|rfl;.exact⟨_,hz,λv z=>by cases z⟩
  .exact⟨_,hI,λv z=>by cases z⟩
  .exact⟨_,hO,λv z=>by cases z⟩
  .obtain⟨o,vs,ho,hd⟩:=w1.ajE;exact⟨o,ho,λv z=>by rw[hd]at z;cases z⟩
  .obtain⟨o,vs,ho,hd⟩:=w2.ajE;exact⟨o,ho,λv z=>by rw[hd]at z;cases z⟩
 keep:=λi h h' st kk=>by obtain⟨hz,hI,⟨u,v,hO⟩,w1,w2⟩:=st;exact⟨kk _ (by simp) _ hz,kk _ (by simp) _ hI,⟨u,v,kk _ (by simp) _ hO⟩,w1.go λo=>kk _ (by simp) o,w2.go λo=>kk _ (by simp) o⟩
 item:=by
  intro X hP hw hK i pins s σ H E hc I hf st hg;subst hP hw hK;obtain⟨hz,hI,⟨u0,v0,hO⟩,w1,w2⟩:=st;obtain⟨xs,ys,x,y,hq1,hq2,hx,hy⟩:=hg;obtain⟨its,rv,p1⟩:=I.ahm hq1;obtain⟨jts,rw',p2⟩:=I.ahm hq2;obtain⟨u,hu,ru⟩:=rv.get hx;obtain⟨v,hv,rv'⟩:=rw'.get hy;refine xY D hz hI hO w1 w2 p1 p2 (x:=u) (y:=v) (by simpa using hu) (by simpa using hv) λh' z' O' m1 m2 tp kp=>?_;have hfr:H s.heap.objs.size=none:=I.hok.fresh<|aob _;have hnT:∀c o,s.heap.get? c=some o->c≠s.heap.objs.size:=λc o q=>aoi<|an9 q;have I1:Inv X pins σ H {s with heap:=h'}:=I.yq (t':=s.toks) (ch:=[zp,ti,tO,j1,j2]) (λc o hc q=>by simp only[an7,aop,apo,not_or]at hc;exact kp c o hc.1 hc.2.2.1 hc.2.2.2.1 hc.2.2.2.2 q) hf;have I2:Inv X pins σ (upd H s.heap.objs.size<|.tup [x,y]) {s with heap:=h'}:=by refine I1.wj hfr I.sz (aoE I.lt) (λn c q=>?_) (λpp hp=>hnT _ _ (I.pin pp hp).1) ⟨by show 2<=sizeLine;decide,[u,v],.cons ru<|.cons rv' .nil,⟨_,tp,rfl,0,rfl⟩⟩;obtain⟨_,z⟩:=I.cell n c q;exact aoi z.lt
  refine⟨_,rfl,wpAny_letOwnedTupleGo_zip (s:={s with heap:=h'}) z' λh2 z2 e2=>?_⟩;replace e2:Heap.SameBut zp h' h2:=e2;have nz:s.heap.objs.size≠zp:=aom<|hnT _ _ hz;have fz:=hf zp (by simp);refine⟨.ref s.heap.objs.size,upd H s.heap.objs.size<|.tup [x,y],?_,rfl,⟨_,rfl,hfr,λxs' ys' h1 h2=>⟨x,y,by rw[I.uQ h1 hq1];exact hx,by rw[I.uQ h2 hq2];exact hy,rfl⟩⟩,⟨z2,?_,⟨_,_,e2.extBut _ _ D.TOz O'⟩,m1.go λo z=>e2.extBut _ o D.i1z z,m2.go λo z=>e2.extBut _ o D.i2z z⟩,λc hc=>?_⟩;.exact I2.turned (t':=s.toks) (it:=zp) (λc o hc q=>(e2.2 c hc).trans q) (by rw[ai (aom nz)];exact fz.1) fz.2.1 fz.2.2.2.1 fz.2.2.2.2.1 fz.2.2.2.2.2
  .exact e2.extBut _ _ D.TIz (kp _ _ D.TIz D.TITO D.TIi1 D.TIi2 hI)
  .have hne:c≠s.heap.objs.size:=by
    simp only[an7,aop,apo]at hc;rcases hc with rfl|rfl|rfl|rfl|rfl;.exact hnT _ _ hz
    .exact hnT _ _ hI
    .exact hnT _ _ hO
    .obtain⟨o,_,ho,_⟩:=w1.ajE;exact hnT _ _ ho
    .obtain⟨o,_,ho,_⟩:=w2.ajE;exact hnT _ _ ho
   rw[ai hne];exact(hf c hc).1
 done:=by intro X hP hw hK i pins s σ H E hc I hf st hg;subst hP hw hK;obtain⟨hz,hI,hO,w1,w2⟩:=st;obtain⟨xs,hq,hx⟩:=hg;obtain⟨its,rv,p⟩:=I.ahm hq;have hl:=rv.length;refine abt (I.ok.hd hc) D hz hI hO w1 p (by simp;omega) λh' kp=>⟨rfl,?_⟩;exact I.yq (t':=s.toks) (ch:=[zp,ti,tO,j1,j2]) (λc o hc q=>by simp only[an7,aop,apo,not_or]at hc;exact kp c o hc.1 hc.2.2.2.1 q) hf
 self:=λ_ _ _ _ _⟨hz,_⟩h=>wpAny_pyIter_zip hz h
section
variable{X:Cx}
def aiJ(K:W.Frag)(t:TA):TI:=λe H R=>t e H λd c=>∃(lt:Bool)(a b:Addr),d=[.ref a,.ref b]/\(∃g,SqB K c lt a g)/\(∃f,SqB K c lt b f)/\R (Itz K lt a b) c
def ahK{l m:Expr}{t:TA}{es:List Expr}{k:Nat}{T p pos:Pos}(E:Gl X "zip")(Y:X.mg "zip"=none)(O:PA X [l,m] t)(hs:starEach [l,m] X.env=[(false,eval l X.env),(false,eval m X.env)]:=by rfl)(j:starEach [m] X.env=[(false,eval m X.env)]:=by rfl):PI X (.Tuple es k T) (.Call (.Name "zip" p) [l,m] [] pos) (aiJ X.K t):=by
 intro i s U H R I h;refine Call_ (g0 I E Y boot_zip<|aoW (thn (O pos i s U H _ I h) λus d o=>?_) (by rw[hs,j])<|by rw[j];rfl);obtain⟨vs,M,g,G,q1⟩:=o;obtain⟨lt,a,b,rfl,⟨xs,x⟩,⟨ys,n⟩,q⟩:=q1;obtain⟨u,v,rfl,ru,C⟩:=vals2 G;cases show u=Value.ref a from ru;cases show v=Value.ref b from C;obtain⟨Q,_,z⟩:=g.ahm x;obtain⟨Z,_,y⟩:=g.ahm n;obtain⟨oa,w⟩:=z.there;obtain⟨ob,r⟩:=y.there;have P:=an9 w;have N:=an9 r;refine xZ z y λh' A K hO w1 S J=>wpAny_pyIter_zip A ?_;have D:ZipApart (d.heap.objs.size+4) (d.heap.objs.size+2) (d.heap.objs.size+3) d.heap.objs.size (d.heap.objs.size+1) a b:=xX P N;refine⟨d.heap.objs.size+4,[d.heap.objs.size+4,d.heap.objs.size+2,d.heap.objs.size+3,d.heap.objs.size,d.heap.objs.size+1],_,_,M,rfl,g.kept (t':=d.toks) J,abP D,⟨A,K,⟨_,_,hO⟩,w1,S⟩,λc B=>?_,q⟩;have f:d.heap.objs.size<=c:=by simp only[an7,aop,apo]at B;rcases B with e|e|e|e|e<;>rw[e]<;>first|exact aob _|exact aoP _ _
 exact g.aiP f<|g.hok.fresh f
end
end L2
namespace ST
open PySem
noncomputable def T0(m:Nat):SetTable:={mask:=m,place:=#[],dummies:=#[],finger:=0,led:=true,moves:=0,plain:=true}
noncomputable def pr(m:Nat)(h:Int):Nat->SetTable.Probe|0=>(T0 m).probeStart h|n+1=>(T0 m).advance<|pr m h n
noncomputable def rs(m:Nat)(h:Int):Nat->Nat×Nat|0=>(SetTable.bits h%(m+1),SetTable.bits h)|n+1=>SetTable.leap m (rs m h n).1 (rs m h n).2
noncomputable def rl(m i:Nat):Nat:=SetTable.runEnd m i-i
noncomputable def ps(m:Nat)(h:Int):Nat->Nat|0=>0|n+1=>ps m h n+rl m (rs m h n).1+1
def akV(m i:Nat):rl m i<=9:=by unfold rl SetTable.runEnd;split<;>omega
theorem ahF(m:Nat)(h:Int):∀n,ps m h n<=10*n|0=>aob _|n+1=>by have:=ahF m h n;have:=akV m (rs m h n).1;simp only[ps];omega
theorem ad0(m:Nat)(h:Int)(n:Nat)(e:pr m h (ps m h n)=⟨(rs m h n).1,rl m (rs m h n).1,(rs m h n).1,(rs m h n).2,none⟩):∀k,k<=rl m (rs m h n).1->pr m h (ps m h n+k)=⟨(rs m h n).1+k,rl m (rs m h n).1-k,(rs m h n).1,(rs m h n).2,none⟩|0,_=>e|k+1,hk=>by show(T0 m).advance (pr m h<|ps m h n+k)=_;rw[ad0 m h n e k (by omega)];unfold SetTable.advance;rw[an4 (by show rl m (rs m h n).1-k>0;omega)];simp only[SetTable.Probe.mk.injEq,and_true,true_and];omega
theorem qf(m:Nat)(h:Int):∀n,pr m h (ps m h n)=⟨(rs m h n).1,rl m (rs m h n).1,(rs m h n).1,(rs m h n).2,none⟩|0=>rfl|n+1=>by show(T0 m).advance (pr m h<|ps m h n+rl m (rs m h n).1)=_;rw[ad0 m h n (qf m h n) _ (aob _)];unfold SetTable.advance;rw[an5 (by show¬rl m (rs m h n).1-rl m (rs m h n).1>0;omega)];rfl
theorem oh(m:Nat)(h:Int):∀n,(pr m h n).dummy=none
|0=>rfl|n+1=>by
 show((T0 m).advance<|pr m h n).dummy=none;unfold SetTable.advance;split;.exact oh m h n
 .exact oh m h n
def agi(h:Int):SetTable.bits h<2^64:=by unfold SetTable.bits;omega
theorem yR(m:Nat)(h:Int):∀n,(rs m h n).2=SetTable.bits h/32^n|0=>by simp[rs]|n+1=>by show(rs m h n).2/32=_;rw[yR m h n,Nat.div_div_eq_div_mul,Nat.pow_succ]
def afc(m:Nat)(h:Int)(k:Nat):(rs m h<|13+k).2=0:=by rw[yR,Nat.div_eq_of_lt];have a:=agi h;have:32^13<=32 ^(13+k):=Nat.pow_le_pow_right (by decide) (by omega);exact an6 a (aoh (by decide) this)
noncomputable def it(m i:Nat):Nat->Nat|0=>i|k+1=>(it m i k*5+1)%(m+1)
theorem ahr(m:Nat)(h:Int):∀k,(rs m h<|13+k).1=it m (rs m h 13).1 k|0=>rfl|k+1=>by show((rs m h<|13+k).1*5+1+(rs m h<|13+k).2/32)%(m+1)=_;rw[afc,ahr m h k];simp[it]
def akR(m:Nat)(h:Int):∀n,(rs m h n).1<m+1|0=>arG _<|ari _|n+1=>arG _<|ari _
def cover(m:Nat):Bool:=(List.range<|m+1).all λi=>(List.range<|m+1).all λe=>(List.range<|m+1).any λk=>it m i k==e
def Mk(m:Nat):Prop:=m=7\/m=31
def aaZ{m:Nat}(a:Mk m):cover m=true:=by rcases a with rfl|rfl<;>decide+kernel
def ai6{m:Nat}(b:Mk m)(h:Int){e:Nat}(d:e<=m):∃n,n<=m+13/\(rs m h n).1=e:=by have:=aaZ b;simp only[cover,aoD,List.any_eq_true,aoc,apl]at this;obtain⟨k,c,a⟩:=this _ (akR m h 13) e (by omega);exact⟨13+k,by omega,by rw[ahr];exact a⟩
theorem mW{b:Type}[DecidableEq b]:∀(l P:List b),l.Nodup->(∀x∈l,x∈P)->l.length<=P.length|[],_,_,_=>aoF _|x::l,P,hn,hs=>by have c:=hs x aol;rw[aoN]at hn;have:=mW l (P.erase x) hn.2 λy a=>(List.mem_erase_of_ne λe:y=x=>hn.1<|e▸a).mpr<|hs y<|aog _ a;rw[arj c]at this;have:=List.length_pos_of_mem c;simp only[aon];omega
def xi{m:Nat}{P:List Nat}(h:P.length<=m):∃e,e<=m/\e∉P:=by apply aqe;intro a;have:=mW (List.range<|m+1) P apf λx c=>aqe λb=>a ⟨x,by have:=aoc.mp c;omega,b⟩;rw[apv]at this;omega
def wY{m:Nat}(c:Mk m)(h:Int){P:List Nat}(f:P.length<=m):∃n,n<=m+13/\(rs m h n).1∉P:=by obtain⟨e,b,d⟩:=xi f;obtain⟨n,a,rfl⟩:=ai6 c h b;exact⟨n,a,d⟩
def ak5(m:Nat)(h:Int)(n:Nat):(pr m h<|ps m h n).j=(rs m h n).1:=by rw[qf]
def Srt(xs:List Nat):Prop:=xs.Pairwise (.<.)
def rS{xs:List Nat}(hs:Srt xs){a b x y:Nat}(f:xs[a]?=some x)(e:xs[b]?=some y)(c:a<b):x<y:=by obtain⟨d,rfl⟩:=aoa.mp f;obtain⟨g,rfl⟩:=aoa.mp e;exact apu.mp hs a b d g c
theorem pj{xs:Array Nat}{j:Nat}(hs:Srt xs.toList):∀(fuel lo a:Nat),lo<=a->a<=xs.size->a-lo<=fuel->(∀i v,i<lo->xs[i]?=some v->v<j)->(∀i v,a<=i->xs[i]?=some v->j<=v)->SetTable.below.go xs j fuel lo a<=xs.size/\(∀i v,i<SetTable.below.go xs j fuel lo a->xs[i]?=some v->v<j)/\∀i v,SetTable.below.go xs j fuel lo a<=i->xs[i]?=some v->j<=v
|0,lo,a,h1,h2,h3,hl,hh=>by
  have:lo=a:=by omega
  subst this;unfold SetTable.below.go;exact⟨h2,hl,hh⟩|fuel+1,lo,a,h1,h2,h3,hl,hh=>by
  unfold SetTable.below.go;by_cases b:lo<a
  .rw[an4 b];have l:(lo+a)/2<xs.size:=by omega
   have m:xs.getD ((lo+a)/2) j=xs[(lo+a)/2]:=by simp[Array.getD,l]
   have c:xs[(lo+a)/2]?=some xs[(lo+a)/2]:=by simp[l]
   have f:∀{i v:Nat},xs[i]?=some v->xs.toList[i]?=some v:=λh=>by simpa using h
   dsimp only;rw[m];by_cases d:xs[(lo+a)/2]<j
   .rw[an4 d];refine pj hs fuel _ _ (by omega) h2 (by omega) (λi v g e=>?_) hh;by_cases k:i=(lo+a)/2;.subst k;rw[c]at e;cases e;exact d
    .exact Nat.lt_trans (rS hs (f e) (f c)<|by omega) d
   .rw[an5 d];refine pj hs fuel _ _ (by omega) (by omega) (by omega) hl λi v g e=>?_;by_cases k:i=(lo+a)/2;.subst k;rw[c]at e;cases e;omega
    .have:=rS hs (f c) (f e) (by omega);omega
  .rw[an5 b];have:lo=a:=by omega
   subst this;exact⟨h2,hl,hh⟩
def nF{xs:Array Nat}(hs:Srt xs.toList)(j:Nat):SetTable.below xs j<=xs.size/\(∀i v,i<SetTable.below xs j->xs[i]?=some v->v<j)/\∀i v,SetTable.below xs j<=i->xs[i]?=some v->j<=v:=pj hs _ _ _ (aoF _) (aob _) (by omega) (λi v h=>absurd h<|aph _) λi v h e=>by have:=(apb.mp e).1;omega
def has_none(j:Nat):SetTable.has #[] j=false:=by simp[SetTable.has]
def qc{t:SetTable}(hs:Srt t.place.toList){i j:Nat}(e:t.place[i]?=some j):t.slot j=.live i:=by
 obtain⟨o,m,k⟩:=nF hs j;have l:SetTable.below t.place j=i:=by
  have f:∀{i v:Nat},t.place[i]?=some v->t.place.toList[i]?=some v:=λh=>by simpa using h
  rcases aq2 (SetTable.below t.place j) i with c|b|a
  .have n:i<t.place.size:=(apb.mp e).1;have g:SetTable.below t.place j<t.place.size:=by omega
   have d:t.place[SetTable.below t.place j]?=some t.place[SetTable.below t.place j]:=by simp[g]
   have:=rS hs (f d) (f e) c;have:=k _ _ (aob _) d;omega
  .exact b
  .have:=m i j a e;omega
 unfold SetTable.slot;dsimp only;rw[l,e];simp
def wA{t:SetTable}(a:t.dummies=#[]){j:Nat}(h:j∉t.place.toList):t.slot j=.empty:=by
 unfold SetTable.slot;dsimp only;rw[an5,a,has_none];.simp
 .intro e;simp only[apl]at e;exact h (by have:=Array.mem_of_getElem? e;simpa using this)
theorem u1{t:SetTable}(hs:Srt t.place.toList)(r:t.dummies=#[])(f:Nat->Int)(h:Int):∀(fuel n N:Nat),n<=N->N-n<fuel->(pr t.mask h N).j∉t.place.toList->∃g,n<=g/\g<=N/\(∀k,n<=k->k<g->∃i,t.place[i]?=some (pr t.mask h k).j/\f i≠h)/\((pr t.mask h g).j∉t.place.toList/\SetTable.probe.go t f h fuel (pr t.mask h n)=some (.empty (pr t.mask h g).j none)\/∃i,t.place[i]?=some (pr t.mask h g).j/\f i=h/\SetTable.probe.go t f h fuel (pr t.mask h n)=some (.candidate (pr t.mask h g).j i<|pr t.mask h<|g+1))
|0,n,N,h1,h2,_=>absurd h2<|aph _|fuel+1,n,N,h1,h2,he=>by
  by_cases o:(pr t.mask h n).j∈t.place.toList
  .obtain⟨i,u⟩:=aqD o;have j:t.place[i]?=some (pr t.mask h n).j:=by simpa using u
   have l:=qc hs j;by_cases m:f i=h;.refine⟨n,aob _,h1,λk a b=>absurd b (by omega),.inr ⟨i,j,m,?_⟩⟩;unfold SetTable.probe.go;rw[l];dsimp only;rw[an4 (by simpa using m)];rfl
   .have v:n≠N:=λe=>he<|e▸o;obtain⟨g,a,b,c,d⟩:=u1 hs r f h fuel (n+1) N (by omega) (by omega) he;have w:SetTable.probe.go t f h (fuel+1) (pr t.mask h n)=SetTable.probe.go t f h fuel (pr t.mask h<|n+1):=by rw[SetTable.probe.go.eq_def];dsimp only;rw[l];dsimp only;rw[an5 (by simpa using m)];rfl
    rw[w];refine⟨g,by omega,b,λk p q=>?_,d⟩;by_cases s:k=n;.subst s;exact⟨i,j,m⟩
    .exact c k (by omega) q
  .refine⟨n,aob _,h1,λk a b=>absurd b (by omega),.inl ⟨o,?_⟩⟩;unfold SetTable.probe.go;rw[wA r o];dsimp only;rw[oh]
abbrev Row:=Nat×List Int×Addr
noncomputable def plc(L:List Row):List Nat:=L.map (·.1)
structure Good(hf:List Int->Int)(m:Nat)(L:List Row):Prop where
 srt:Srt (plc L)bnd:∀x∈L,x.1<=m
 rch:∀x∈L,∃n,(pr m (hf x.2.1) n).j=x.1/\∀k,k<n->(pr m (hf x.2.1) k).j∈plc L
 dst:(L.map (·.2.1)).Nodup
def tab(m:Nat)(L:List Row)(a b:Nat)(led:Bool):SetTable:={mask:=m,place:=(plc L).toArray,dummies:=#[],finger:=a,led:=led,moves:=b,plain:=true}
noncomputable def ents(a:List Int->Int)(L:List Row):Array (Int×Value):=(L.map λx=>(a x.2.1,Value.ref x.2.2)).toArray
def qS(a:List Int->Int)(L:List Row):(ents a L).size=L.length:=by simp[ents]
def iE(c:List Int->Int){m:Nat}{L:List Row}{a b:Nat}{led:Bool}(h:L.length<=m):(tab m L a b led).fits (ents c L).size=true:=by simp[SetTable.fits,tab,SetTable.fill,ents,plc,h]
def iS{a:Type}(xs:List a)(p:Nat)(x:a):SetTable.insertAt xs.toArray p x=(xs.take p++x::xs.drop p).toArray:=by apply Array.ext';rw[SetTable.toList_insertAt]
def ins(L:List Row)(j:Nat)(k:List Int)(b:Addr):List Row:=L.take (SetTable.below (plc L).toArray j)++(j,k,b)::L.drop (SetTable.below (plc L).toArray j)
def oK(L:List Row)(j:Nat)(k:List Int)(b:Addr):(ins L j k b).Perm ((j,k,b)::L):=by unfold ins;have:=List.perm_middle (a:=(j,k,b)) (l₁:=L.take<|SetTable.below (plc L).toArray j) (l₂:=L.drop<|SetTable.below (plc L).toArray j);rw[List.take_append_drop]at this;exact this
def afW(L:List Row)(j:Nat)(k:List Int)(b:Addr):(ins L j k b).length=L.length+1:=(oK L j k b).length_eq
def afg{m:Nat}{L:List Row}{a c:Nat}{led:Bool}(j:Nat)(k:List Int)(b:Addr):(tab m L a c led).put j=(tab m (ins L j k b) a c led,SetTable.below (plc L).toArray j):=by unfold SetTable.put tab;dsimp only;rw[has_none];simp only[aoU,apy];refine Prod.ext ?_ rfl;simp only[SetTable.mk.injEq,true_and,and_true];rw[iS];simp[ins,plc]
def adk(a:List Int->Int)(L:List Row)(j:Nat)(k:List Int)(b:Addr):SetTable.insertAt (ents a L) (SetTable.below (plc L).toArray j) (a k,.ref b)=ents a (ins L j k b):=by unfold ents;rw[iS];simp[ins]
def aeV{L:List Row}(hs:Srt (plc L)){j:Nat}(k:List Int)(b:Addr)(l:j∉plc L):Srt (plc<|ins L j k b):=by
 obtain⟨m,h,g⟩:=nF (xs:=(plc L).toArray) (by simpa using hs) j;unfold ins;generalize SetTable.below (plc L).toArray j=p at m h g;have e:plc (L.take p++(j,k,b)::L.drop p)=(plc L).take p++j::(plc L).drop p:=by simp[plc]
 rw[e];unfold Srt at hs⊢;rw[<-List.take_append_drop p (plc L),aqE]at hs;rw[aqE,apX];have lo:∀a∈(plc L).take p,a<j:=λa d=>by
  obtain⟨i,c⟩:=aqD d;rw[List.getElem?_take]at c;split at c;.exact h i a (by assumption) (by simpa using c)
  .cases c
 have c:∀a∈(plc L).drop p,j<a:=λa d=>by have n:a≠j:=λe=>l<|e▸List.mem_of_mem_drop d;obtain⟨i,c⟩:=aqD d;rw[List.getElem?_drop]at c;have:=g (p+i) a (aoP _ _) (by simpa using c);omega
 refine⟨hs.1,⟨c,hs.2.1⟩,λa d x f=>?_⟩;rcases an7.mp f with rfl|f;.exact lo a d
 .exact hs.2.2 a d x f
def ab9{L a:List Row}(p:a.Perm L):(plc a).Perm (plc L):=p.map _
def ac7{c:List Int->Int}{m:Nat}{L:List Row}(G:Good c m L){j n:Nat}{k:List Int}(b:Addr)(f:(pr m (c k) n).j=j)(l:∀i,i<n->(pr m (c k) i).j∈plc L)(g:j∉plc L)(o:j<=m)(hk:k∉L.map (·.2.1)):Good c m (ins L j k b):=by
 have P:=oK L j k b;have sub:∀x,x∈plc L->x∈plc (ins L j k b):=λx a=>(ab9 P).mem_iff.mpr<|aog _ a;refine⟨aeV G.srt k b g,λx a=>?_,λx a=>?_,?_⟩
 .rcases an7.mp (P.mem_iff.mp a)with rfl|a;.exact o
  .exact G.bnd x a
 .rcases an7.mp (P.mem_iff.mp a)with rfl|a;.exact⟨n,f,λi d=>sub _<|l i d⟩
  .obtain⟨q,e,h⟩:=G.rch x a;exact⟨q,e,λi d=>sub _<|h i d⟩
 .have:=(P.map (·.2.1)).nodup_iff.mpr<|aoN.mpr ⟨hk,G.dst⟩;exact this
section
noncomputable def ow(owner:Array (Option Nat))(j:Nat):Option Nat:=owner.getD j none
end
section
variable{prog:Program}{w:World}{A:Around}{E:Value->Shared->Prop}{s:Shared}{knd:KeyKind prog w Int}
def afC(n:Nat){v:Value}(h:carriedByValue v=true):ofAClassStatement n v=pure false:=by cases v with|ref a=>simp[carriedByValue]at h|_=>first|rfl|(unfold ofAClassStatement;rfl)|(cases n<;>rfl)
def qB{ks:List Int}{a:Addr}{Q:Bool->Shared->Prop}(hk:IsTupleKey knd s.heap ks a)(h:Q false s):wpAny (model prog w) A (ofAClassStatement 8<|.ref a) Q E s:=by
 have k:=hk.typeIs;obtain⟨o,c,n,j,_,i,g⟩:=hk;unfold ofAClassStatement;refine anY<|wpAny_typeOf k ?_;dsimp only;rw[an4 (by decide)];refine anY<|an0 ?_;simp only[aqV,aoU,apy];refine anY<|aps j i ?_;dsimp only;refine anY ?_;show wpAny _ _ (forIn c _ _) _ _ s;rw[<-Array.forIn_toList];refine ark _ (λrest r f=>r.1=none/\f=s/\∀v∈rest,carriedByValue v=true) _ ?_ ?_ _ _ ⟨rfl,rfl,g.byValue⟩;.rintro v rest r f⟨e,rfl,b⟩;rw[afC _ (b v aol)];refine anY<|an0 ?_;simp only[aoU,apy];exact an0 ⟨rfl,rfl,λu d=>b u<|aog _ d⟩
 .rintro⟨l,m⟩f⟨e,rfl,_⟩;simp only at e;subst e;exact an0 h
def items_int{ks:List Int}{vs:List Value}(b:ItemsAre (intKind prog w) ks vs):∀v∈vs,∃i t,v=Value.int i t:=by induction b with|nil=>intro v a;simp at a|@cons k v' ks vs h1 _ ih=>
 intro v a;rcases an7.mp a with rfl|a;.obtain⟨t,rfl⟩:=Value.isInt_shape h1;exact⟨_,_,rfl⟩
 .exact ih v a
def aal{ks:List Int}{a:Addr}{Q:Bool->Shared->Prop}(hk:IsTupleKey (intKind prog w) s.heap ks a)(h:Q true s):wpAny (model prog w) A (hashByValue 8<|.ref a) Q E s:=by
 have p:=hk.typeIs;obtain⟨o,d,n,m,_,l,k⟩:=hk;have c:=items_int k;unfold hashByValue;refine anY<|ars p F.slot_tuple_hash.lookup ?_;dsimp only;refine anY<|aps m l ?_;refine anY ?_;show wpAny _ _ (forIn d _ _) _ _ s;rw[<-Array.forIn_toList];refine ark _ (λrest r j=>r.1=none/\j=s/\∀v∈rest,∃i t,v=Value.int i t) _ ?_ ?_ _ _ ⟨rfl,rfl,c⟩
 .rintro v rest r j⟨g,rfl,b⟩;obtain⟨i,t,rfl⟩:=b v aol;have e:hashByValue 7 (.int i t)=pure true:=by first|rfl|(unfold hashByValue;rfl)
  rw[e];refine anY<|an0 ?_;simp only[aqV,aoU,apy];exact an0 ⟨rfl,rfl,λu f=>b u<|aog _ f⟩
 .rintro⟨q,x⟩j⟨g,rfl,_⟩;simp only at g;subst g;exact an0 h
def ae3{ks:List Int}{b:Addr}(hk:IsTupleKey knd s.heap ks b){l:List Value}(j:∀v∈l,∃k a,v=.ref a/\IsTupleKey knd s.heap k a){Q:Bool->Shared->Prop}(h:Q false s):wpAny (model prog w) A (searchCouldBeSeen (.ref b) l) Q E s:=by
 unfold searchCouldBeSeen;refine anY ?_;refine ark _ (λrest r f=>r.1=none/\f=s/\∀v∈rest,∃k a,v=.ref a/\IsTupleKey knd s.heap k a) _ ?_ ?_ _ _ ⟨rfl,rfl,j⟩
 .rintro v rest r f⟨e,rfl,c⟩;obtain⟨k,a,rfl,g⟩:=c v aol;have i:=λu(d:u∈rest)=>c u<|aog _ d;dsimp only;split;.exact an0 ⟨rfl,rfl,i⟩
  .refine anY (wpAny_eqIsQuiet_tuple hk ?_);simp only[aqV,aoU,apy];refine anY<|wpAny_eqIsQuiet_tuple g ?_;simp only[aqV,aoU,apy];refine anY<|qB hk ?_;simp only[aoU,apy];refine anY<|qB g ?_;simp only[aoU,apy];exact an0 ⟨rfl,rfl,i⟩
 .rintro⟨m,n⟩f⟨e,rfl,_⟩;simp only at e;subst e;exact an0 h
end
section
variable{prog:Program}{w:World}{A:Around}{E:Value->Shared->Prop}{s:Shared}
noncomputable abbrev kH(prog:Program)(w:World):List Int->Int:=tupleKeyHash<|intKind prog w
def tm{a:List Int->Int}{L:List Row}{i:Nat}{x:Row}(e:L[i]?=some x):(ents a L)[i]?=some (a x.2.1,.ref x.2.2):=by simp[ents,e]
def ad6{m:Nat}{L:List Row}{a b:Nat}{led:Bool}{i j:Nat}(e:(tab m L a b led).place[i]?=some j):∃x,L[i]?=some x/\x.1=j:=by simpa[tab,plc]using e
def afQ{L:List Row}(c:(L.map (·.1)).Nodup){x y:Row}(d:x∈L)(f:y∈L)(e:x.1=y.1):x=y:=by induction L with|nil=>exact absurd d aop|cons z L ih=>
 rw[aor,aoN]at c;rcases an7.mp d with a|a<;>rcases an7.mp f with b|b;.rw[a,b]
 .exact(c.1<|aox.mpr ⟨y,b,by rw[<-e,a]⟩).elim
 .exact(c.1<|aox.mpr ⟨x,a,by rw[e,b]⟩).elim
 .exact ih c.2 a b
def yB{xs:List Nat}(h:Srt xs):xs.Nodup:=List.Pairwise.imp (λh=>aoi h) h
def search{S b:Addr}{o:Obj}{ep m:Nat}{L:List Row}{l c:Nat}{led:Bool}{k:List Int}(hu:A.units<cLine)(hm:Mk m)(hl:L.length<=m)(ho:s.heap.get? S=some o)(hd:o.data=.set (ents (kH prog w) L) ep (tab m L l c led))(G:Good (kH prog w) m L)(hK:∀x∈L,IsTupleKey (intKind prog w) s.heap x.2.1 x.2.2)(hk:IsTupleKey (intKind prog w) s.heap k b){Q:SetFound->Shared->Prop}(h1:k∈L.map (·.2.1)->Q (.there none) s)(h2:∀n,(pr m (kH prog w k) n).j∉plc L->(pr m (kH prog w k) n).j<=m->(∀i,i<n->(pr m (kH prog w k) i).j∈plc L)->k∉L.map (·.2.1)->Q (.free (pr m (kH prog w k) n).j false) s):∀(N fuel n:Nat)(st:Option SetTable.Probe),(pr m (kH prog w k) N).j∉plc L->N<10*SetTable.turns m->(∀i,(pr m (kH prog w k) i).j<=m)->n<=N->N-n<fuel->st.getD ((tab m L l c led).probeStart<|kH prog w k)=pr m (kH prog w k) n->(∀i,i<n->∃x∈L,x.1=(pr m (kH prog w k) i).j/\x.2.1≠k)->wpAny (model prog w) A (setSearchFrom S (.ref b) (kH prog w k) true fuel st) Q E s:=by intro N fuel;induction fuel with|zero=>intro n st _ _ _ _ h;exact absurd h<|aph _|succ fuel ih=>
  intro n st O hT D hn a4 U H;have r:Srt (tab m L l c led).place.toList:=by simpa[tab]using G.srt
  have I:(tab m L l c led).place.toList=plc L:=by simp[tab]
  obtain⟨g,p1,p2,p3,p4⟩:=u1 (t:=tab m L l c led) r rfl (λi=>((ents (kH prog w) L)[i]?.map (·.1)).getD 0) (kH prog w k) (10*SetTable.turns m) n N hn (by omega) (by rw[I];exact O);have a:∀i,i<g->∃x∈L,x.1=(pr m (kH prog w k) i).j/\x.2.1≠k:=λi Y=>by
   by_cases B:i<n;.exact H i B
   .obtain⟨q,K,T⟩:=p3 i (by omega) Y;obtain⟨x,d,e⟩:=ad6 K;refine⟨x,aoS d,e,λek=>T ?_⟩;show((ents (kH prog w) L)[q]?.map (·.1)).getD 0=_;rw[tm d,ek];rfl
  have J:∀i,i<g->(pr m (kH prog w k) i).j∈plc L:=λi Y=>by obtain⟨x,d,e,_⟩:=a i Y;exact aox.mpr ⟨x,d,e⟩
  unfold setSearchFrom;refine anY<|aqr ho hd (iE _ hl) ?_;dsimp only;rw[an5 (by rcases hm with rfl|rfl<;>simp[SetTable.gaveWay,tab])];rw[U];have a2:∀f,SetTable.probe (tab m L l c led) f (kH prog w k) (pr m (kH prog w k) n)=SetTable.probe.go (tab m L l c led) f (kH prog w k) (10*SetTable.turns m) (pr m (kH prog w k) n):=λf=>rfl;generalize hg:SetTable.probe (tab m L l c led) _ (kH prog w k) (pr m (kH prog w k) n)=R;rcases p4 with⟨C,q2⟩|⟨i,C,q2,q3⟩
  .obtain rfl:R=some (.empty (pr m (kH prog w k) g).j none):=hg.symm.trans q2;dsimp only;rw[I]at C;refine an0 (h2 g C (D _) J λB=>?_);obtain⟨x,d,rfl⟩:=aox.mp B;obtain⟨q,K,T⟩:=G.rch x d;rcases aq2 q g with a1|M|X;.obtain⟨y,P,e3,e4⟩:=a q a1;exact e4 (by rw[afQ (yB G.srt) P d (e3.trans K)])
   .subst M;exact C (by show(pr m _ _).j∈_;rw[K];exact aox.mpr ⟨x,d,rfl⟩)
   .exact C (T g X)
  .obtain rfl:R=some (.candidate (pr m (kH prog w k) g).j i<|pr m (kH prog w k)<|g+1):=hg.symm.trans q3;dsimp only;obtain⟨x,d,ej⟩:=ad6 C;have p:x∈L:=aoS d;have a0:=hK x p;have seen:∀{Q':Bool->Shared->Prop},Q' false s->wpAny (model prog w) A (searchCouldBeSeen (.ref b)<|((ents (kH prog w) L).filter (·.1==kH prog w k)).toList.map (·.2)) Q' E s:=λhq=>by refine ae3 hk (λv hv=>?_) hq;simp only[aox,Array.mem_toList_iff,Array.mem_filter]at hv;obtain⟨e,⟨he,_⟩,rfl⟩:=hv;simp only[ents,List.mem_toArray,aox]at he;obtain⟨y,P,rfl⟩:=he;exact⟨_,_,rfl,hK y P⟩
   rw[tm d];dsimp only;have u:(tab m L l c led).sameMemory (tab m L l c led).moves (tab m L l c led).mask=some true:=by simp[SetTable.sameMemory]
   have z:(tab m L l c led).slot (pr m (kH prog w k) g).j=.live i:=qc r C;have a3:g≠N:=λe=>O (by subst e;exact aox.mpr ⟨x,p,ej⟩);split;case' isTrue=>refine anY<|seen ?_;rw[an5 aov]
   all_goals
    refine anY<|aoV<|wpAny_eqBool_tuple hu a0 hk ?_;refine anY<|aqr ho hd (iE _ hl) ?_;dsimp only;by_cases e:x.2.1=k;.rw[aoC e,an4<|show(true&&true)=true from rfl];exact an0<|h1<|aox.mpr ⟨x,p,e⟩
    .rw[aoq e,an5 (show¬(true&&false)=true by decide),u];dsimp only;rw[an4 rfl,z];dsimp only;rw[tm d];dsimp only;refine anY<|wpAny_isSame_ref_self ?_;rw[an4 rfl];refine anY<|an0 ?_;dsimp only;rw[an5 (by decide)];refine ih (g+1) _ O hT D (by omega) (by omega) rfl λj hj=>?_;by_cases Z:j=g;.subst Z;exact⟨x,p,ej,e⟩
     .exact a j (by omega)
end
theorem ahH(m:Nat)(h:Int):∀n,(pr m h n).j+(pr m h n).more<=m
|0=>by have:SetTable.bits h%(m+1)<m+1:=arG _<|ari _;show SetTable.bits h%(m+1)+(SetTable.runEnd m (SetTable.bits h%(m+1))-SetTable.bits h%(m+1))<=m;unfold SetTable.runEnd;split<;>omega|n+1=>by
 have a:=ahH m h n;show((T0 m).advance<|pr m h n).j+((T0 m).advance<|pr m h n).more<=m;unfold SetTable.advance;split;.dsimp only;omega
 .dsimp only;have:(SetTable.leap (T0 m).mask (pr m h n).i (pr m h n).perturb).1<m+1:=arG _<|ari _;show(SetTable.leap (T0 m).mask (pr m h n).i (pr m h n).perturb).1+(SetTable.runEnd m (SetTable.leap (T0 m).mask (pr m h n).i (pr m h n).perturb).1-(SetTable.leap (T0 m).mask (pr m h n).i (pr m h n).perturb).1)<=m;unfold SetTable.runEnd;split<;>omega
section
variable{prog:Program}{w:World}{A:Around}{E:Value->Shared->Prop}{s:Shared}
def ajf(prog:Program)(w:World)(h:Heap)(S:Addr)(L:List Row):Prop:=∃o d m b c a,h.get? S=some o/\o.ExactSet/\o.data=.set (ents (kH prog w) L) d (tab m L b c a)/\Good (kH prog w) m L/\m=7/\L.length<=4
def zZ{h h':Heap}{ks:List Int}{a S:Addr}{o:Obj}{es:Array (Int×Value)}{k:Nat}{t:SetTable}(x:IsTupleKey (intKind prog w) h ks a)(j:h.get? S=some o)(i:o.data=.set es k t)(hs:Heap.SameBut S h h'):IsTupleKey (intKind prog w) h' ks a:=by
 obtain⟨f,c,n,d,l,b,g⟩:=x;have e:a≠S:=by rintro rfl;obtain rfl:f=o:=aow<|d.symm.trans j;rw[i]at b;exact nomatch b
 exact⟨f,c,n,(hs.2 a e).trans d,l,b,g⟩
def find{S b:Addr}{o:Obj}{t m:Nat}{L:List Row}{p u:Nat}{led:Bool}{k:List Int}(f:A.units<cLine)(c:Mk m)(e:L.length<=m)(l:s.heap.get? S=some o)(j:o.data=.set (ents (kH prog w) L) t (tab m L p u led))(G:Good (kH prog w) m L)(hK:∀x∈L,IsTupleKey (intKind prog w) s.heap x.2.1 x.2.2)(hk:IsTupleKey (intKind prog w) s.heap k b){Q:SetFound->Shared->Prop}(q:k∈L.map (·.2.1)->Q (.there none) s)(v:∀n,(pr m (kH prog w k) n).j∉plc L->(pr m (kH prog w k) n).j<=m->(∀i,i<n->(pr m (kH prog w k) i).j∈plc L)->k∉L.map (·.2.1)->Q (.free (pr m (kH prog w k) n).j false) s):wpAny (model prog w) A (setSearch S (.ref b) (kH prog w k) true) Q E s:=by
 obtain⟨r,y,a⟩:=wY c (kH prog w k) (P:=plc L) (by simpa[plc]using e);have g:=ahF m (kH prog w k) r;have d:m<=31:=by rcases c with rfl|rfl<;>decide
 unfold setSearch;exact search f c e l j G hK hk q v (ps m (kH prog w k) r) 100000 0 none (by rw[ak5];exact a) (by unfold SetTable.turns;omega) λi=>by have:=ahH m (kH prog w k) i;omega (aoF _) (by omega) rfl λi h=>absurd h<|aph _
def add{S b:Addr}{L:List Row}{k:List Int}(I:A.units<cLine)(T:ajf prog w s.heap S L)(hK:∀x∈L,IsTupleKey (intKind prog w) s.heap x.2.1 x.2.2)(hk:IsTupleKey (intKind prog w) s.heap k b)(X:L.length<4){Q:Bool->Shared->Prop}(h:∀v B r,Heap.SameBut S s.heap v->ajf prog w v S B->(if k∈L.map (·.2.1)then(B.map (·.2)).Perm (L.map (·.2))else(B.map (·.2)).Perm ((k,b)::L.map (·.2)))->Q r {s with heap:=v}):wpAny (model prog w) A (setAddHashed S (.ref b)<|kH prog w k) Q E s:=by
 obtain⟨o,H,m,d,e,a,i,j,f,G,t⟩:=T;obtain⟨rfl,z⟩:=t;have P:Mk 7:=.inl rfl;have J:L.length+1<=7:=by omega
 unfold setAddHashed;refine aoV ?_;unfold setAddHashedIn;refine anY (aqr i f (iE _<|by omega) ?_);dsimp only;rw[an5 (by simp[byScan,Value.scannable])];refine anY (find I P (by omega) i f G hK hk (λy=>?_) λn U M N C=>?_);.dsimp only;refine an0 ?_;have:=h s.heap L false (.refl ..) ⟨o,H,7,d,e,a,i,j,f,G,rfl,z⟩ (by rw[an4 y]);exact this
 .dsimp only;refine anY (aqr i f (iE _<|by omega) ?_);dsimp only;rw[afg _ k b];dsimp only;have D:=ac7 G b rfl N U M C;have R:(tab 7 (ins L (pr 7 (kH prog w k) n).j k b) d e a).plain=true:=rfl;rw[R,an4 rfl];refine anY<|aal hk ?_;rw[an4 rfl,adk];have O:∀{n:Nat},n<=32->n<=sizeLine:=λY=>by rw[apM];omega
  have l:=afW L (pr 7 (kH prog w k) n).j k b;have c:=oK L (pr 7 (kH prog w k) n).j k b;generalize hL1:ins L (pr 7 (kH prog w k) n).j k b=L1 at D l c⊢;refine anY (wpAny_storeSet_of i f ?_<|O<|by rw[qS];omega);have K:(s.heap.update S<|Obj.putSet (ents (kH prog w) L1)<|tab 7 L1 d e a).get? S=some {o with data:=.set (ents (kH prog w) L1) (H+1) (tab 7 L1 d e a)}:=by have:=apd (Obj.putSet (ents (kH prog w) L1)<|tab 7 L1 d e a) i (by rw[putSet_of _ _ f];rfl);rw[putSet_of _ _ f]at this;exact this
  have u:=aqH s.heap S<|Obj.putSet (ents (kH prog w) L1)<|tab 7 L1 d e a;have p:(tab 7 L1 d e a).tooFull=decide (L1.length*5 ≥ 7*3):=by simp[SetTable.tooFull,SetTable.fill,tab,plc]
  simp only[Bool.not_false,Bool.true_and];rw[p];have q:¬(k∈L.map (·.2.1)):=C;have g:¬L1.length*5 ≥ 7*3:=by omega
  rw[an5 (by simpa using g)];refine an0 (h _ L1 true u ⟨_,_,7,d,e,a,K,j,rfl,D,rfl,by omega⟩ ?_);rw[an5 q];exact c.map _
end
noncomputable def dd:List (List Int)->List (List Int):=List.foldl (λa k=>if k∈a then a else k::a) []
def af9(l:List (List Int))(k:List Int):dd (l++[k])=if k∈dd l then dd l else k::dd l:=by unfold dd;rw[List.foldl_append];rfl
def aev(l:List (List Int)):(dd l).length<=l.length:=by
 suffices h:∀(l a:List (List Int)),(l.foldl (λa k=>if k∈a then a else k::a) a).length<=a.length+l.length by simpa[dd]using h l []
 intro l;induction l with|nil=>intro a;simp|cons k l ih=>intro a;rw[List.foldl_cons];refine aoh (ih _) ?_;split<;>simp only[aon]<;>omega
section
variable{prog:Program}{w:World}{A:Around}{R:Result->Shared->Prop}{I:Addr}{fp wr:List Addr}{G:Array GenState->Array GenState->Prop}{n:Nat}{P:Nat->Value->Prop}{St:Nat->Shared->Prop}
structure Run(prog:Program)(w:World)(S:Addr)(wr:List Addr)(ks:List (List Int×Addr))(i:Nat)(s:Shared)(L:List Row):Prop where
 set:ajf prog w s.heap S L
 pm:(L.map (·.2.1)).Perm (dd<|(ks.take i).map (·.1))rows:∀x∈L,IsTupleKey (intKind prog w) s.heap x.2.1 x.2.2/\x.2.2∉wr
 keys:∀x∈ks,IsTupleKey (intKind prog w) s.heap x.1 x.2/\x.2∉wr
def z6{h h':Heap}{ks:List Int}{a:Addr}(x:IsTupleKey (intKind prog w) h ks a)(e:∀o,h.get? a=some o->h'.get? a=some o):IsTupleKey (intKind prog w) h' ks a:=by obtain⟨o,it,n,b,c⟩:=x;exact⟨o,it,n,e o b,c⟩
def Run.moved{S:Addr}{ks:List (List Int×Addr)}{i:Nat}{s s':Shared}{L:List Row}(u:Run prog w S wr ks i s L)(j:S∉wr)(g:Moved wr G s s'):Run prog w S wr ks i s' L:=by refine⟨?_,u.pm,λx f=>⟨z6 (u.rows x f).1 λo e=>g.heap _ _ (u.rows x f).2 e,(u.rows x f).2⟩,λx f=>⟨z6 (u.keys x f).1 λo e=>g.heap _ _ (u.keys x f).2 e,(u.keys x f).2⟩⟩;obtain⟨o,a,b,c,d,e,h,rest⟩:=u.set;exact⟨o,a,b,c,d,e,g.heap S _ j h,rest⟩
def alC(W:WalksS prog w A.in1 I fp wr G n P St)(S:Addr)(H:S∉fp)(ks:List (List Int×Addr))(hn:ks.length=n)(hv:∀i v,P i v->∃x,ks[i]?=some x/\v=.ref x.2)(C:n<=4)(hu:A.in1.units<cLine):∀(d i:Nat)(s:Shared)(L:List Row),n-i=d->i<=n->St i s->Run prog w S wr ks i s L->(∀u D,Moved (S::wr) G s u->Run prog w S wr ks n u D->R (.ok<|.ret .none) u)->
 codeAny (model prog w) A (.builtin "set.update.loop" ⟨[.ref S,.ref I],[]⟩) R s:=by have E:S∉wr:=λh=>H<|W.sub _ h;have j:∀b∈wr,b∈S::wr:=λb C=>aog _ C;intro d;induction d with|zero=>
 intro i s L hk hi q U hR;obtain rfl:i=n:=by omega
 refine aqf aql ?_;rw[Around.under_plainId apC _];show wpAny _ A.in1 (pyNext (.ref I)>>=_) _ _ s;refine anY (W.done s _ _ q λu M=>?_);show wpAny _ A.in1 (ret Value.none) _ _ u;exact an0<|hR u L (M.mono j)<|U.moved E M|succ d ih=>
  intro i s L hk hi q U hR;have O:i<n:=by omega
  refine aqf aql ?_;rw[Around.under_plainId apC _];show wpAny _ A.in1 (pyNext (.ref I)>>=_) _ _ s;refine anY (W.item i s _ _ O q λv K hP J M=>?_);obtain⟨x,hx,rfl⟩:=hv i v hP;have g:=U.moved E M;have N:=(g.keys x<|aoS hx).1;show wpAny _ A.in1 (holding [Value.ref x.2] (setAdd S<|.ref x.2)>>=_) _ _ K;refine anY<|aoV ?_;unfold setAdd;refine aoV ?_;refine anY<|wpAny_pyHash_tuple hu N ?_;have hL:L.length<4:=by have Q:=U.pm.length_eq;have t:=aev<|(ks.take i).map (·.1);simp only[aos,ap4]at Q t;omega
  refine add (s:={K with toks:=K.toks+(x.1.length+1)}) hu g.set (λy B=>(g.rows y B).1) N hL λh' D r p T' k=>?_;have l:(ks.take<|i+1).map (·.1)=(ks.take i).map (·.1)++[x.1]:=by rw[List.take_add_one,hx];simp
  have f:x.1∈L.map (·.2.1)↔ x.1∈dd ((ks.take i).map (·.1)):=U.pm.mem_iff;obtain⟨o0,e0,m0,f0,v0,l0,X,_,Y,_⟩:=g.set;have T:∀{kk:List Int}{a:Addr},IsTupleKey (intKind prog w) K.heap kk a->IsTupleKey (intKind prog w) h' kk a:=λz=>zZ z X Y p;have Z:(D.map (·.2.1)).Perm (dd<|(ks.take<|i+1).map (·.1)):=by
   rw[l,af9];by_cases c:x.1∈L.map (·.2.1);.rw[an4 c]at k;rw[an4 (f.mp c)];have:=k.map (·.1);rw[aoR,aoR]at this;exact List.Perm.trans this U.pm
   .rw[an5 c]at k;rw[an5 λz=>c<|f.mpr z];have:=k.map (·.1);rw[aor,aoR,aoR]at this;exact List.Perm.trans this<|U.pm.cons x.1
  have m:∀y∈D,IsTupleKey (intKind prog w) h' y.2.1 y.2.2/\y.2.2∉wr:=λy B=>by
   have Q:y.2∈D.map (·.2):=aox.mpr ⟨y,B,rfl⟩;have t:y.2∈L.map (·.2)\/y.2=x:=by
    by_cases c:x.1∈L.map (·.2.1);.rw[an4 c]at k;exact .inl<|k.mem_iff.mp Q
    .rw[an5 c]at k;rcases an7.mp (k.mem_iff.mp Q)with e|e;.exact .inr e
     .exact .inl e
   rcases t with t|t;.obtain⟨z,hz,e⟩:=aox.mp t;have:=g.rows z hz;rw[<-e];exact⟨T this.1,this.2⟩
   .rw[t];have:=g.keys x<|aoS hx;exact⟨T this.1,this.2⟩
  refine an0 ⟨plainId_quiet apC _,ih (i+1) _ D (by omega) O (W.frame _ K _ _ J (aoP _ _) λb C o e=>?_) ⟨T',Z,m,λy B=>⟨T (g.keys y B).1,(g.keys y B).2⟩⟩ λs2 L2 a0 U2=>?_⟩;.rw[p.2 b λh:b=S=>H<|by rw[<-h];exact C];exact e
  .refine hR s2 L2 (Moved.trans W.gtrans ((M.mono j).then_heap (aoP _ _) λb o C e=>?_) a0) U2;rw[p.2 b λh:b=S=>C<|by rw[h];exact aol];exact e
end
section
variable{prog:Program}{w:World}{A:Around}{E:Value->Shared->Prop}{s:Shared}
noncomputable def rT(led:Bool):Obj:={cls:=.type "set",dict:=none,data:=.set #[] 0 (.fresh 0 0 led)}
def ac6(b:List Int->Int):Good b 7 []:=⟨.nil,λx a=>absurd a aop,λx a=>absurd a aop,arB⟩
def akH{h:Heap}{S:Addr}{led:Bool}(e:h.get? S=some (rT led)):ajf prog w h S []:=⟨rT led,0,7,0,0,led,e,⟨rfl,rfl,rfl⟩,rfl,ac6 _,⟨rfl,aoF _⟩⟩
def Left(prog:Program)(w:World)(s:Shared)(ks:List (List Int×Addr))(h':Heap):Prop:=(∃L,ajf prog w h' s.heap.objs.size L/\L.length=(dd<|ks.map (·.1)).length)/\∀b o,b<s.heap.objs.size->s.heap.get? b=some o->h'.get? b=some o
def aah{l:Addr}{items:Array Value}{ks:List (List Int×Addr)}{led:Bool}(P:A.handled=none)(X:A.units+32<cLine)(G:s.heap.IsList l items)(u:items.toList=ks.map λx=>Value.ref x.2)(hk:∀x∈ks,IsTupleKey (intKind prog w) s.heap x.1 x.2)(t:ks.length<=4):wpAny (model prog w) A (Builtin.«set.__init__» ⟨[.ref s.heap.objs.size,.ref l],[]⟩) (λfin p=>∃r,fin=.done (.ret r)/\r=.none/\∃h H,p={s with heap:=h,toks:=H}/\Left prog w s ks h) E {s with heap:=s.heap.push (rT led)}:=by
 have J:(s.heap.push<|rT led).get? s.heap.objs.size=some (rT led):=aoj _ rfl;obtain⟨I,hol,f,y,g⟩:=G;obtain⟨Y,od,N,m⟩:=I;simp only at f g;subst f;subst g;have S:(s.heap.push<|rT led).get? l=some {cls:=.type "list",dict:=od,data:=.seq items y,slots:=m}:=anZ _ hol;have n1:=F.sub_list_set;have n2:=F.sub_list_frozenset;have Z:(Value.type "list"==Value.type "dict")=false:=by decide
 have z:(s.heap.push<|rT led).IsList l items:=⟨_,S,rfl,y,rfl⟩;unfold Builtin.«set.__init__» noKeywords Builtin.Frozenset.updateFrom;generalize hPI:pyIter=PI;wp_walk;subst hPI;refine ap1 z<|anY<|wpAny_runValue ?_;have d:l<s.heap.objs.size:=an9 hol;have sz:(s.heap.push<|rT led).objs.size=s.heap.objs.size+1:=apq ..;have n:l≠(s.heap.push<|rT led).objs.size:=by rw[sz];exact aoi<|aqp d
 have O:items.size=ks.length:=by have:=an8 List.length u;simpa using this
 have q:∀x∈ks,x.2<s.heap.objs.size:=λx a=>by obtain⟨o,_,_,Q,_⟩:=hk x a;exact an9 Q
 have B:∀(b:Addr)(o:Obj)(it:Obj),s.heap.get? b=some o->((s.heap.push<|rT led).push it).get? b=some o:=λb o it e=>anZ _<|anZ _ e;have W:=(Walks.list (prog:=prog) (w:=w) (A:=A.in1) (by simpa using P) _ l n items).toS;have k:s.heap.objs.size∉[(s.heap.push<|rT led).objs.size,l]:=by rw[sz];simp only[an7,aop,apo,not_or];exact⟨aoi<|apx _,aoE d⟩
 refine alC W s.heap.objs.size k ks O.symm (λi v T=>?_) (by omega) (by show A.units+1<cLine;omega) (items.size-0) 0 _ [] rfl (aoF _) ⟨⟨_,aoj _ rfl,rfl,rfl⟩,z.push _⟩ ⟨akH (led:=led)<|anZ _ J,?_,λx a=>absurd a aop,λx a=>⟨z6 (hk x a) λo e=>B _ _ _ e,?_⟩⟩ λp C j U=>?_;.have c:items[i]?=some v:=T;rw[<-Array.getElem?_toList,u,aoy]at c;obtain⟨x,a,e⟩:=aoI.mp c;exact⟨x,a,e.symm⟩
 .exact .nil
 .have:=q x a;rw[sz];simp only[an7,aop,apo];exact aoi<|aqp this
 .obtain⟨h,M,R,D,K⟩:=p;obtain rfl:M=s.gens:=j.gens;obtain rfl:R=s.drawn:=j.drawn;obtain rfl:K=s.os:=j.os;refine an0 (an0 ⟨_,rfl,rfl,h,D,rfl,⟨C,U.set,?_⟩,λb o t e=>?_⟩);.have:=U.pm.length_eq;rw[aqt (by omega)]at this;simpa using this
  .refine j.heap b o ?_ (B _ _ _ e);rw[sz];simp only[an7,aop,apo,not_or];exact⟨aoi t,aoi<|aqp t⟩
def aa6{l:Addr}{items:Array Value}{ks:List (List Int×Addr)}{Q:Value->Shared->Prop}(q:A.handled=none)(z:A.units+64<cLine)(k:s.heap.IsList l items)(j:items.toList=ks.map λx=>Value.ref x.2)(hk:∀x∈ks,IsTupleKey (intKind prog w) s.heap x.1 x.2)(y:ks.length<=4)(h:∀b c,Left prog w s ks b->Q (.ref s.heap.objs.size) {s with heap:=b,toks:=c}):wpAny (model prog w) A (call (.type "set") [.ref l]) Q E s:=by
 obtain⟨C,D,B⟩:=apP.mro;have N:=apP.made;have H:=apP.sub;have K:=apP.notType;have J:=apP.canCreate;have I:=F.typeCall_set_1<|.ref l;refine apJ<|codeAny_of_tree ?_;show wpAny (model prog w) _ (callAny (.type "set") _) _ _ s;refine an0 ⟨aqk _ (by decide+kernel),aqf F.entry_type_call ?_⟩;rw[Around.under_plain (weight_type_call_type "set" [.ref l] []) rfl];repeat(any_goals(first|assumption|wp_step))
 refine apA (code_set_new_1 (.ref l) (E:=E) (Q₁:=λv i=>∃led,v=.ref s.heap.objs.size/\i={s with heap:=s.heap.push (rT led)}) λled=>⟨led,rfl,rfl⟩) λr i f=>?_;cases r with|error e=>exact f|ok fl=>cases fl with
 |ret v=>
   obtain⟨led,rfl,rfl⟩:=f;have m:(s.heap.push<|rT led).get? s.heap.objs.size=some (rT led):=aoj _ rfl;have u:Shared.TypeIs {s with heap:=s.heap.push (rT led)} (.ref s.heap.objs.size) "set":=⟨_,m,rfl⟩;have G:=apP.init.lookup;have M:=apP.init.bind<|.ref s.heap.objs.size;repeat(any_goals(first|assumption|wp_step))
   refine apA (ap6 (R:=wants (λr g=>r=.none/\∃b c,g={s with heap:=b,toks:=c}/\Left prog w s ks b) E) apP.init.plain F.entry_set_init<|check_set_init_1 u ?_) λn g a=>?_
   .refine aoA (aah (E:=E) (led:=led) (by simpa using q) (by show A.units+1+1+32<cLine;omega) k j hk y) (λfin o d=>?_) λe o t=>?_;.obtain⟨r,rfl,d⟩:=d;exact d
    .exact t
   .cases n with|error e=>exact a|ok f2=>cases f2 with
  |ret v=>
   obtain⟨rfl,b,c,rfl,p⟩:=a;repeat(any_goals(first|assumption|wp_step))
   exact h _ _ p|_=>exact a.elim
 |_=>exact f.elim
end
end ST
namespace WL
open PySem
inductive W where|non|bl(b:Bool)|int(i:Int)|str(x:Str)|ty(n:String)|tup(xs:List W)|lst(xs:List W)/-- a dict that is read alone: its keys,its values;a class of the text;an exception: its class,its fields -/|dic(ks vs:List W)|cls(c:String)|exc(c:String)(fs:List W)/-- an object that is made: its class,its fields -/|ins(c:String)(fs:List W)/-- a thing that is written,by its place alone -/|id(a:Nat)
inductive Res(α:Type)where|ok(a:α)|ex(c:W)|bad
noncomputable def Res.bind{d b}:Res d->(d->Res b)->Res b|.ok a,f=>f a|.ex c,_=>.ex c|.bad,_=>.bad
inductive Sl where|no|va(w:W)|ow(ws:List W)|od(ks vs:List W)|ob
abbrev Ws:=List Sl
abbrev EF:=Ws->Res W
abbrev TF:=Ws->Res Bool
abbrev AF:=Ws->Res (List W)
abbrev LF:=Ws->Res (List W)
abbrev GF:=W->Ws->Res Ws
inductive Out where|nx(σ:Ws)|rt(w:W)|bk(σ:Ws)|ct(σ:Ws)|ex(c:W)(σ:Ws)|bad
abbrev SF:=Ws->Out
mutual def eqv:W->W->Bool|.non,.non=>true|.bl a,.bl b=>a==b|.bl a,.int j=>(if a then 1 else 0)==j|.int i,.bl b=>i==if b then 1 else 0|.int i,.int j=>i==j|.str x,.str y=>x==y|.lst xs,.lst ys=>xW xs ys|.tup xs,.tup ys=>xW xs ys|_,_=>false def xW:List W->List W->Bool|[],[]=>true|x::xs,y::ys=>eqv x y&&xW xs ys|_,_=>false end
mutual def okD:Nat->W->Bool|_,.non=>true|_,.bl _=>true|_,.int _=>true|_,.str x=>x.cps.all (.<0x110000)|_,.ty _=>false|n,.tup xs=>gP n xs|n,.lst xs=>gP n xs|_,.dic _ _=>false|_,.cls _=>false|_,.exc _ _=>false|_,.ins _ _=>false|_,.id _=>false def gP:Nat->List W->Bool|0,_=>false|_+1,[]=>true|n+1,x::xs=>okD n x&&gP (n+1) xs end
noncomputable def yM:W->W->Bool|.non,.non=>true|.non,.int _=>true|.int _,.non=>true|.non,.bl _=>true|.bl _,.non=>true|.non,.str _=>true|.str _,.non=>true|.int _,.int _=>true|.bl _,.bl _=>true|.str _,.str _=>true|.int _,.str _=>true|.str _,.int _=>true|.bl _,.str _=>true|.str _,.bl _=>true|_,_=>false
def oEq(x y:W):Res W:=if yM x y then .ok (.bl<|eqv x y)else if okD 50 x&&okD 50 y then .ok (.bl<|eqv x y)else .bad
def oNe(x y:W):Res W:=if yM x y then .ok (.bl !eqv x y)else if okD 50 x&&okD 50 y then .ok (.bl !eqv x y)else .bad
noncomputable def eB(x:W):List W->Bool|[]=>false|y::ys=>eqv y x||eB x ys
def oIn(x:W):W->Res W|.lst ys=>if okD 50 x&&gP 51 ys then .ok (.bl<|eB x ys)else .bad|.tup ys=>if okD 50 x&&gP 51 ys then .ok (.bl<|eB x ys)else .bad|_=>.bad
def lD(x:W):W->Res W|.lst ys=>if okD 50 x&&gP 51 ys then .ok (.bl !eB x ys)else .bad|.tup ys=>if okD 50 x&&gP 51 ys then .ok (.bl !eB x ys)else .bad|_=>.bad
noncomputable def lim:Nat:=1000000
def cV:W->W->Res W|.int i,.int j=>.ok<|.int<|i+j|.lst xs,.lst ys=>if xs.length+ys.length<=lim then .ok (.lst<|xs++ys)else .bad|.tup xs,.tup ys=>if xs.length+ys.length<=lim then .ok (.tup<|xs++ys)else .bad|_,_=>.bad
noncomputable def kj:W->W->Res W|.int i,.int j=>.ok<|.int<|i-j|_,_=>.bad
noncomputable def fw:W->W->Res W|.int i,.int j=>if -2^64<i/\i<2^64\/-2^64<j/\j<2^64 then .ok (.int<|i*j)else .bad|_,_=>.bad
noncomputable def oDiv:W->W->Res W|.int i,.int j=>if 0<j/\j<10^100 then .ok (.int<|i/j)else .bad|_,_=>.bad
noncomputable def oMod:W->W->Res W|.int i,.int j=>if 0<j then .ok (.int<|i%j)else .bad|_,_=>.bad
noncomputable def lE:W->Res W|.int i=>.ok<|.int<|-i|_=>.bad
noncomputable def oLt:W->W->Res W|.int i,.int j=>.ok (.bl<|decide (i<j))|_,_=>.bad
noncomputable def oLe:W->W->Res W|.int i,.int j=>.ok (.bl<|decide (i<=j))|_,_=>.bad
noncomputable def oGt:W->W->Res W|.int i,.int j=>.ok (.bl<|decide (j<i))|_,_=>.bad
noncomputable def xf:W->Bool|.non=>true|_=>false
noncomputable def isB(b:Bool):W->Bool|.bl c=>b==c|_=>false
def oIs(x:W):W->Res W|.non=>.ok<|.bl<|xf x|.bl b=>.ok<|.bl<|isB b x|_=>.bad
def gY(x:W):W->Res W|.non=>.ok<|.bl !xf x|.bl b=>.ok<|.bl !isB b x|_=>.bad
noncomputable def ixN(n:Nat)(i:Int):Option Nat:=if 0<=i then if i<n then some i.toNat else none else if -(n:Int)<=i then some (i+n).toNat else none
def atI{a:Type}(xs:List a)(i:Int):Option a:=(ixN xs.length i).bind λj=>xs[j]?
noncomputable def ofO{b}:Option b->Res b|some a=>.ok a|none=>.bad
@[simp]def ajI{b}(a:b):ofO (some a)=.ok a:=(rfl)
noncomputable def o5(k:Str):List W->List W->Option W|.str x::ks,v::vs=>if x==k then some v else o5 k ks vs|_,_=>none
def oIx:W->W->Res W|.lst xs,.int i=>ofO<|atI xs i|.tup xs,.int i=>ofO<|atI xs i|.dic ks vs,.str k=>ofO<|o5 k ks vs|_,_=>.bad
noncomputable def sIx(n d:Nat):Option Int->Nat|none=>d|some v=>if v<0 then(v+(n:Int)).toNat else min v.toNat n
def cut{a:Type}(xs:List a)(lo b:Option Int):List a:=(xs.drop<|sIx xs.length 0 lo).take<|sIx xs.length xs.length b-sIx xs.length 0 lo
def oSl:W->Option Int->Option Int->Res W|.lst xs,lo,hi=>.ok<|.lst<|cut xs lo hi|.tup xs,lo,hi=>if sIx xs.length 0 lo=0/\sIx xs.length xs.length hi=xs.length then .bad else .ok (.tup<|cut xs lo hi)|_,_,_=>.bad
noncomputable def mh:List W->Res W|[.lst xs]=>.ok<|.int xs.length|[.tup xs]=>.ok<|.int xs.length|_=>.bad
noncomputable def gy:List W->Res W|[.lst xs]=>.ok<|.tup xs|[.tup xs]=>.ok<|.tup xs|_=>.bad
noncomputable def rF:List W->Res W|[.int i]=>.ok (.int<|if i<0 then -i else i)|_=>.bad
noncomputable def mf:List W->Res W|[.int i,.int j]=>.ok (.int<|if j>i then j else i)|_=>.bad
noncomputable def mI:List W->Res W|[.bl b]=>.ok (.int<|if b then 1 else 0)|[.int i]=>.ok<|.int i|_=>.bad
noncomputable def allB:List W->Option Bool|[]=>some true|.bl b::xs=>(allB xs).map λc=>b&&c|_=>none
def abr:List W->Res W
|[.lst xs]=>match allB xs with|some b=>.ok<|.bl b|none=>.bad
|_=>.bad
noncomputable def afP:W->String|.non=>"NoneType"|.bl _=>"bool"|.int _=>"int"|.str _=>"str"|.ty _=>"type"|.tup _=>"tuple"|.lst _=>"list"|.dic _ _=>"dict"|.cls _=>"type"|.exc _ _=>"exception"|.ins _ _=>"object"|.id _=>"object"
def isK(w:W)(t:String):Option Bool:=match w with|.ty _=>none|.dic _ _=>none|.cls _=>none|.exc _ _=>none|.ins _ _=>none|.id _=>none|_=>if["int","bool","str","list","tuple"].contains t then some (afP w==t||afP w=="bool"&&t=="int")else none
def bj:List W->Res W
|[x,.ty t]=>match isK x t with|some b=>.ok<|.bl b|none=>.bad
|_=>.bad
noncomputable def ah(i:Nat):EF:=λa=>match a[i]? with|some (.va w)=>.ok w|_=>.bad
noncomputable def eC(w:W):EF:=λ_=>.ok w
def eOp(r:W->W->Res W)(a b:EF):EF:=λc=>(a c).bind λx=>(b c).bind λy=>r x y
def eUn(r:W->Res W)(a:EF):EF:=λb=>(a b).bind r
def nv(r e:W->W->Res W)(a b c:EF):EF:=λd=>(a d).bind λx=>(b d).bind λy=>(r x y).bind λz=>match z with|.bl true=>(c d).bind λw=>e y w|.bl false=>.ok<|.bl false|_=>.bad
noncomputable def toB:W->Res Bool|.bl b=>.ok b|_=>.bad
def tB(e:EF):TF:=λa=>(e a).bind toB
def abo(a b:TF):TF:=λc=>(a c).bind λx=>match x with|true=>b c|false=>.ok false
def tOr(a b:TF):TF:=λc=>(a c).bind λx=>match x with|true=>.ok true|false=>b c
def yy(a:TF):TF:=λb=>(a b).bind λx=>.ok !x
def xl(a b:EF):EF:=λc=>(a c).bind λx=>match x with|.bl true=>b c|.bl false=>.ok<|.bl false|_=>.bad
def aet(a:EF):EF:=λc=>(a c).bind λx=>match x with|.bl b=>.ok<|.bl !b|_=>.bad
def eIf(t:TF)(a b:EF):EF:=λc=>(t c).bind λx=>match x with|true=>a c|false=>b c
noncomputable def ao:AF:=λ_=>.ok []
def aa(e:EF)(a:AF):AF:=λb=>(e b).bind λx=>(a b).bind λc=>.ok (x::c)
def dB(a:AF):EF:=λc=>(a c).bind λb=>if b.length<=lim then .ok (.tup b)else .bad
def e8(a:AF):EF:=λc=>(a c).bind λb=>if b.length<=lim then .ok (.lst b)else .bad
def ax(f:List W->Res W)(a:AF):EF:=λb=>(a b).bind λws=>match f ws with|.ok w=>.ok w|_=>.bad
def eBi(f:List W->Res W)(a:AF):EF:=λb=>(a b).bind f
def aiY(T:String)(r:W->List W->Res W)(o:EF)(a:AF):EF:=λb=>(o b).bind λx=>if afP x==T then(a b).bind λws=>r x ws else .bad
noncomputable def idx(x:W):Nat->List W->Option Nat|_,[]=>none|k,y::ys=>if eqv y x then some k else idx x (k+1) ys
def gh:W->List W->Res W|.lst ys,[x]=>if okD 50 x&&gP 51 ys&&decide (ys.length<=lim)then match idx x 0 ys with|some k=>.ok<|.int k|none=>.bad else .bad|_,_=>.bad
noncomputable def iG:List W->Option (List W×List W)|[]=>some ([],[])|.str k::v::r=>(iG r).map λp=>(.str k::p.1,v::p.2)|_=>none
noncomputable def dy:List W->Bool|[]=>true|.str k::ks=>!(ks.any λx=>match x with|.str y=>y==k|_=>true)&&dy ks|_=>false
def ang(a:AF):EF:=λc=>(a c).bind λb=>match iG b with|some (ks,vs)=>if dy ks&&decide (ks.length<=15)then .ok (.dic ks vs)else .bad|none=>.bad
noncomputable def pNo:Ws->Res (Option Int):=λ_=>.ok none
def en(e:EF):Ws->Res (Option Int):=λa=>(e a).bind λx=>match x with|.int i=>.ok<|some i|_=>.bad
def eSl(e:EF)(lo b:Ws->Res (Option Int)):EF:=λa=>(e a).bind λx=>(lo a).bind λl=>(b a).bind λh=>oSl x l h
noncomputable def itemsOf:W->Res (List W)|.lst xs=>.ok xs|.tup xs=>.ok xs|_=>.bad
@[simp]def afU(xs):itemsOf (.lst xs)=.ok xs:=(rfl)
@[simp]def afT(xs):itemsOf (.tup xs)=.ok xs:=(rfl)
def iw(e:EF):LF:=λa=>(e a).bind itemsOf
noncomputable def rng(lo:Int)(n:Nat):List W:=(List.range n).map λi=>.int<|lo+(i:Nat)
def dz(e:EF):LF:=λa=>(e a).bind λx=>match x with|.int j=>if -2^62<=j/\j<2^62 then .ok (rng 0 j.toNat)else .bad|_=>.bad
def sW(e b:EF):LF:=λa=>(e a).bind λx=>(b a).bind λy=>match x,y with|.int i,.int j=>if -2^62<=i/\i<2^62/\-2^62<=j/\j<2^62 then .ok (rng i (j-i).toNat)else .bad|_,_=>.bad
noncomputable def iY:Nat->List W->List W|_,[]=>[]|k,x::xs=>.tup [.int k,x]::iY (k+1) xs
def ac4(e:EF):LF:=λa=>(e a).bind λx=>match x with|.tup xs=>.ok<|iY 0 xs|.lst xs=>.ok<|iY 0 xs|_=>.bad
noncomputable def aq(i:Nat):GF:=λw a=>.ok<|a.set i<|.va w
abbrev GsF:=List W->Ws->Res Ws
noncomputable def kr:GsF:=λws a=>match ws with|[]=>.ok a|_=>.bad
noncomputable def bu(g:GF)(a:GsF):GsF:=λws b=>match ws with|w::r=>(match g w b with|.ok σ'=>(match a r σ' with|.ok σ2=>.ok σ2|_=>.bad)|_=>.bad)|[]=>.bad
noncomputable def kq(a:GsF):GF:=λw b=>match w with|.tup ws=>a ws b|_=>.bad
def abq(i:Nat)(e:EF):GF:=λw a=>match a[i]? with
|some (.ow ws)=>match e a with|.ok (.int k)=>(match ixN ws.length k with|some j=>.ok<|a.set i<|.ow<|ws.set j w|none=>.bad)|_=>.bad
|_=>.bad
noncomputable def ba(g:GF)(t:TF)(e:EF)(σ:Ws):List W->Res (List W)|[]=>.ok []|x::xs=>(g x σ).bind λa=>(t a).bind λb=>match b with|true=>(e a).bind λy=>(ba g t e σ xs).bind λc=>.ok (y::c)|false=>ba g t e σ xs
noncomputable def fF:TF:=λ_=>.ok true
def sR(k:Nat)(it:LF)(g:GF)(t:TF)(e:EF):LF:=λa=>(it a).bind λb=>if b.length<=lim then match ba g t e (List.replicate k .no++a) b with|.ok ys=>.ok ys|_=>.bad else .bad
def cZ(k:Nat)(it:LF)(g:GF)(t:TF)(e:EF):EF:=λa=>(sR k it g t e a).bind λb=>.ok<|.lst b
noncomputable def frz(i:Nat)(σ:Ws):Ws:=match σ[i]? with|some (.ow ws)=>σ.set i<|.va<|.lst ws|some (.od ks vs)=>σ.set i<|.va<|.dic ks vs|_=>σ
mutual def plain:W->Bool|.tup xs=>iK xs|.lst _=>false|.dic _ _=>false|.exc _ _=>false|.ins _ _=>false|.id _=>false|_=>true def iK:List W->Bool|[]=>true|x::xs=>plain x&&iK xs end
def aaI(i:Nat)(e:EF):EF:=λa=>match e (frz i a)with|.ok w=>if plain w then .ok w else .bad|_=>.bad
def adR(i:Nat)(t:TF):TF:=λa=>match t (frz i a)with|.ok b=>.ok b|_=>.bad
noncomputable def sNx:SF:=λa=>.nx a
noncomputable def aD(a b:SF):SF:=λc=>match a c with|.nx σ'=>b σ'|o=>o
noncomputable def ofR{b}(σ:Ws)(r:Res b)(f:b->Out):Out:=match r with|.ok a=>f a|.ex c=>.ex c σ|.bad=>.bad
def bq(i:Nat)(e:EF):SF:=λa=>ofR a (e a) λw=>.nx<|a.set i<|.va w
def jf(i:Nat)(l:LF):SF:=λa=>ofR a (l a) λws=>.nx<|a.set i<|.ow ws
def acW(a:AF):LF:=λc=>(a c).bind λb=>if b.length<=lim then .ok b else .bad
def wD(e:EF)(g:GF):SF:=λa=>ofR a (e a) λw=>ofR a (g w a) λb=>.nx b
def sIf(t:TF)(a b:SF):SF:=λc=>ofR c (t c) λx=>match x with|true=>a c|false=>b c
def bg(e:EF):SF:=λa=>ofR a (e a) λw=>.rt w
def abp(i:Nat)(e:EF):SF:=λa=>match a[i]? with|some (.ow ws)=>ofR a (e a) λw=>if ws.length<lim then .nx (a.set i<|.ow<|ws++[w])else .bad|_=>.bad
def yO(i:Nat)(t:SF):SF:=λa=>t<|frz i a
noncomputable def forL(g:GF)(b:SF):List W->Ws->Out|[],σ=>.nx σ|x::xs,σ=>ofR σ (g x σ) λa=>match b a with|.nx σ2=>forL g b xs σ2|.ct σ2=>forL g b xs σ2|.bk σ2=>.nx σ2|o=>o
def jh(it:LF)(g:GF)(b:SF):SF:=λa=>ofR a (it a) λc=>forL g b c a
noncomputable def df(c:TF)(b:SF):Nat->Ws->Out|0,_=>.bad|n+1,σ=>ofR σ (c σ) λx=>match x with
 |true=>match b σ with|.nx σ2=>df c b n σ2|.ct σ2=>df c b n σ2|.bk σ2=>.nx σ2|o=>o
 |false=>.nx σ
def uS(n:Ws->Nat)(c:TF)(b:SF):SF:=λa=>df c b (n a) a
noncomputable def kx:List String:=["FloorError","NotEven","NoCall","NoName","NoProgram","TooMany","NoPairs","NoRow","Blind","Out","Meet","Broken"]
noncomputable def pZ(nm d:String):Bool:=nm==d||d=="FloorError"
noncomputable def fieldsOf(nm:String):List Str:=if nm=="Blind"then["who"]else if nm=="Out"then["who"]else if nm=="Meet"then["one","other"]else if nm=="Broken"then["at","why"]else[]
def l8(d:String):W->Bool|.exc nm _=>pZ nm d|_=>false
noncomputable def ab0:SF:=λ_=>.bad
noncomputable def akr:List W->Bool|[.str x]=>decide (x.length<=5000)|_=>false
def adZ(nm:String)(a:AF):SF:=λb=>ofR b (a b) λws=>if akr ws=true then .ex (.exc nm []) b else .bad
def fk(f:List W->Res W)(a:AF):EF:=λb=>(a b).bind f
def lR(d:String)(i:Nat)(h:SF)(c:W)(σ:Ws):Out:=if l8 d c then match h (σ.set i<|.va c)with|.nx σ2=>.nx<|σ2.set i .no|.rt w=>.rt w|_=>.bad else .bad
def uT(b:SF)(d:String)(i:Nat)(h:SF):SF:=λa=>match b a with|.ex c σ'=>lR d i h c σ'|o=>o
noncomputable def oO(c:String):List Str:=if c=="Book"then["calls"]else if c=="Search"then["goal","most","rows","seen"]else if c=="PairedFloor"then["floor","pairs","middles"]else if c=="Run"then["book","floors"]else if c=="Desk"then["texts","book","floor","past"]else[]
noncomputable def run(n:Nat)(t:SF)(ws:List W):Res W:=match t (ws.map .va++List.replicate (n-ws.length) .no)with|.rt w=>.ok w|.nx _=>.ok .non|.ex c _=>.ex c|_=>.bad
def pq:List W->Res W|[.exc nm _,.cls d]=>.ok<|.bl<|pZ nm d|[.exc _ _,.ty "ValueError"]=>.ok<|.bl true|_=>.bad
@[simp]def aj7(nm d:String)(fs:List W):pq [.exc nm fs,.cls d]=.ok (.bl<|pZ nm d):=rfl
@[simp]def amb(nm:String)(fs:List W):pq [.exc nm fs,.ty "ValueError"]=.ok (.bl true):=rfl
noncomputable def mY:W->Bool|.int i=>decide (i.natAbs.log2<100)|_=>false
def hV(nm:String)(a:AF):SF:=λb=>ofR b (a b) λws=>if ws.length=(fieldsOf nm).length/\ws.all mY=true then .ex (.exc nm ws) b else .bad
def jg(nm:String)(a:AF)(σ:Ws):hV nm a σ=ofR σ (a σ) λws=>if ws.length=(fieldsOf nm).length/\ws.all mY=true then .ex (.exc nm ws) σ else .bad:=(rfl)
def am7(f:Str):W->Res W
|.exc nm fs=>match((fieldsOf nm).zip fs).lookup f with|some w=>.ok w|none=>.bad
|_=>.bad
def aj1(a:EF)(f:Str):EF:=λb=>(a b).bind<|am7 f
noncomputable def xV(σ:Ws):Ws:=σ.map λs=>match s with|.ow _=>.no|.od _ _=>.no|s=>s
def zV(k:Nat)(it:LF)(g:GF)(t:TF)(e:EF):LF:=λa=>(it a).bind λb=>if b.length<=lim then ba g t e (List.replicate k .no++xV a) b else .bad
def jW(k:Nat)(it:LF)(g:GF)(t:TF)(e:EF):EF:=λa=>(zV k it g t e a).bind λb=>.ok<|.lst b
def zU(k:Nat)(it:LF)(g:GF)(t:TF)(e:EF)(σ:Ws):zV k it g t e σ=(it σ).bind λa=>if a.length<=lim then ba g t e (List.replicate k .no++xV σ) a else .bad:=(rfl)
def aaG(k:Nat)(it:LF)(g:GF)(t:TF)(e:EF)(σ:Ws):jW k it g t e σ=(zV k it g t e σ).bind λa=>.ok (.lst a):=(rfl)
noncomputable def ug:List W->List W->List W|x::xs,y::ys=>.tup [x,y]::ug xs ys|_,_=>[]
def aiJ(a b:EF):LF:=λc=>(a c).bind λx=>(b c).bind λy=>match x,y with|.lst xs,.lst ys=>if xs.length=ys.length then .ok (ug xs ys)else .bad|.tup xs,.tup ys=>if xs.length=ys.length then .ok (ug xs ys)else .bad|_,_=>.bad
noncomputable def cnt(x:W):List W->Nat|[]=>0|y::ys=>cnt x ys+if eqv y x then 1 else 0
def m9:W->List W->Res W|.lst ys,[x]=>if okD 50 x&&gP 51 ys then .ok (.int<|cnt x ys)else .bad|_,_=>.bad
def fP:List W->Res W
|[x,.tup [.ty t,.ty u]]=>match isK x t,isK x u with|some b,some c=>.ok (.bl<|b||c)|_,_=>.bad
|_=>.bad
noncomputable def intsOf:List W->Option (List Int)|[]=>some []|.int n::r=>(intsOf r).map (n::.)|_=>none
noncomputable def keysOf:List W->Option (List<|List Int)|[]=>some []|.tup ws::r=>(intsOf ws).bind λk=>(keysOf r).map (k::.)|_=>none
noncomputable def dd:List (List Int)->List (List Int):=List.foldl (λa k=>if k∈a then a else k::a) []
def t6:W->Res W
|.lst ws=>match keysOf ws with|some ks=>if ks.length<=4 then .ok (.int (dd ks).length)else .bad|none=>.bad
|_=>.bad
def tx(e:EF):EF:=λa=>(e a).bind t6
noncomputable def ab3(lo st:Int)(n:Nat):List W:=(List.range n).map λi=>.int<|lo+(i:Nat)*st
def aai(a b:EF):LF:=λc=>(a c).bind λx=>(b c).bind λy=>match x,y with|.int i,.int j=>if -2^60<=i/\i<2^60/\-2^60<=j/\j<2^60 then .ok (ab3 i 2 ((j-i+1)/2).toNat)else .bad|_,_=>.bad
noncomputable def shL:List W->Option Nat|[]=>some 3|.int i::r=>if i.natAbs<1000 then(shL r).map (.+12)else none|_=>none
def shC(ws:List W):Bool:=gP 51 ws&&match shL ws with|some n=>decide (n<=80000)|none=>false
def alQ:W->Res W|.lst ws=>if shC ws=true then .ok (.lst ws)else .bad|_=>.bad
def eFr(e:EF):EF:=λa=>(e a).bind alQ
def rW(nm:String)(a:AF):SF:=λb=>ofR b (a b) λ_=>.ex (.exc nm []) b
noncomputable def ael:W->Bool|.str _=>true|.int _=>true|.non=>true|_=>false
noncomputable def lO:W->W->Bool|.str x,.str y=>x==y|.int i,.int j=>i==j|.non,.non=>true|_,_=>false
def agw(k:W)(ks:List W):Bool:=ks.any λx=>lO x k
noncomputable def qZ(k v:W):List W->List W->List W|k'::ks,v'::vs=>(if lO k' k then v else v')::qZ k v ks vs|_,_=>[]
noncomputable def afb(i:Nat):SF:=λa=>.nx<|a.set i<|.od [] []
def putK(ks:List W)(k:W):List W:=if agw k ks then ks else ks++[k]
def ahC(ks us:List W)(k v:W):List W:=if agw k ks then qZ k v ks us else us++[v]
def putD(i:Nat)(ks us:List W)(k v:W)(σ:Ws):Out:=if ael k=true/\ks.length<lim then .nx (σ.set i<|.od (putK ks k)<|ahC ks us k v)else .bad
def n7(i:Nat)(c b:EF):SF:=λa=>match a[i]? with|some (.od ks us)=>ofR a (c a) λv=>ofR a (b a) λk=>putD i ks us k v a|_=>.bad
end WL
namespace WL
end WL
namespace WL
open PySem
noncomputable def o4(k:W):List W->List W->Option W|k'::ks,v::vs=>if lO k' k then some v else o4 k ks vs|_,_=>none
def qC(x y:W):Res W:=match x with|.dic ks us=>if ael y=true then ofO (o4 y ks us)else .bad|_=>oIx x y
inductive OX(S:Type)where|nx(σ:Ws)(s:S)|bk(σ:Ws)(s:S)|ct(σ:Ws)(s:S)|rt(w:W)(s:S)|ex(c:W)(σ:Ws)|bad
abbrev RF(S:Type):=Ws->S->OX S
variable{S:Type}
noncomputable def mm(t:SF):RF S:=λa s=>match t a with|.nx σ'=>.nx σ' s|.bk σ'=>.bk σ' s|.ct σ'=>.ct σ' s|.rt w=>.rt w s|.ex c σ'=>.ex c σ'|.bad=>.bad
noncomputable def xS(a b:RF S):RF S:=λc s=>match a c s with|.nx σ' s'=>b σ' s'|o=>o
noncomputable def seen(adr:S->Nat)(val:S->W)(j:Nat)(σ:Ws)(s:S):Option Ws:=match σ[j]? with|some (.va<|.id b)=>if b=adr s then some (σ.set j<|.va<|val s)else none|_=>none
noncomputable def nL(k:Nat)(b:RF S):List W->Ws->S->OX S|[],σ,s=>.nx σ s|x::xs,σ,s=>match b (σ.set k<|.va x) s with|.nx σ2 s2=>nL k b xs σ2 s2|.ct σ2 s2=>nL k b xs σ2 s2|.bk σ2 s2=>.nx σ2 s2|o=>o
noncomputable def aiS(c:String)(n:Nat):W->Res W|.ins c' ws=>if c'==c then match ws[n]? with|some w=>.ok w|none=>.bad else .bad|_=>.bad
def iq(c:String)(n:Nat)(e:EF):EF:=λa=>(e a).bind<|aiS c n
noncomputable def isN(c:String):W->Bool|.ins c' _=>c'==c|_=>false
def iZ(c:String)(d:List W->Res W)(o:EF)(a:AF):EF:=λb=>(o b).bind λy=>if isN c y=true then(a b).bind λws=>d (y::ws)else .bad
def amI(c:String)(g h:List W->Res W):List W->Res W
|[w]=>(g [w]).bind λp=>match h [w,p]with|.ok m=>.ok<|.ins c [w,p,m]|_=>.bad
|_=>.bad
def qV(c:String)(f:List W->Res W)(a:AF):EF:=λb=>(a b).bind λws=>(f ws).bind λy=>if isN c y=true then .ok y else .bad
end WL
namespace WL
def ago(i:Nat)(e:EF):SF:=λa=>match a[i]? with
|some (.ow ws)=>ofR a (e a) λw=>match w with|.lst zs=>if ws.length+zs.length<=lim then .nx (a.set i<|.ow<|ws++zs)else .bad|_=>.bad
|_=>.bad
end WL
namespace WL
open PySem.W(KasT kas_sort)
noncomputable def prs:List W->Option (List<|Int×Int)|[]=>some []|.tup [.int a,.int b]::ws=>(prs ws).map ((a,b)::.)|_=>none
noncomputable def ltP(p q:Int×Int):Bool:=if p.1==q.1 then decide (p.2<q.2)else decide (p.1<q.1)
noncomputable def okT(n:Nat):KasT (Array Nat)->Bool|.ret p=>p.size==n|.ask i j k=>decide (i<n)&&decide (j<n)&&okT n (k true)&&okT n (k false)
noncomputable def ab1(c:Nat->Nat->Bool):KasT (Array Nat)->Array Nat|.ret p=>p|.ask i j k=>ab1 c<|k<|c i j
def ixs(ps:List (Int×Int)):List Nat:=(ab1 (λi j=>ltP (ps.getD i (0,0))<|ps.getD j (0,0))<|kas_sort ps.length).toList
def jZ:List W->Res W
|[.lst ws]=>match prs ws with|some ps=>if(decide (2<=ps.length)&&decide (ps.length<64)&&okT ps.length (kas_sort ps.length))=true then .ok (.lst<|(ixs ps).map λi=>ws.getD i .non)else .bad|none=>.bad
|_=>.bad
end WL
namespace WL
end WL
namespace WL
open PySem.W(kas_sort)
noncomputable def gK(f:List W->Res W)(z c:Int)(i:Nat):Int:=match f [.int z,.int<|c+i]with|.ok (.int m)=>m|_=>0
noncomputable def okK(f:List W->Res W)(z c:Int)(n:Nat):Bool:=(List.range n).all λi=>match f [.int z,.int<|c+i]with|.ok (.int _)=>true|_=>false
def ajT(g:Nat->Int)(n:Nat):List W:=(ixs<|(List.range n).map λi=>(g i,(i:Int))).map λi=>((List.range n).map λi=>W.int (i:Nat)).getD i .non
def aeX(f:List W->Res W)(n:Nat)(c:Int):W->Res W|.int z=>if(okK f z c n&&okT n (kas_sort n))=true then .ok (.lst<|ajT (gK f z c) n)else .bad|_=>.bad
def nu(f:List W->Res W)(n:Nat)(c:Int)(e:EF):EF:=λa=>(e a).bind<|aeX f n c
def ebK(f:List W->Res W)(c:Int):EF:=dB<|aa (ax f<|aa (ah 1)<|aa (eOp cV (eC<|.int c)<|ah 0) ao)<|aa (ah 0) ao
end WL
namespace WL
open PySem
variable{S:Type}
def x5(it:LF)(k:Nat)(b:RF S):RF S:=λa s=>match it a with|.ok xs=>nL k b xs a s|_=>.bad
abbrev eI(i:Int):EF:=eC<|.int i
abbrev eS(x:Str):EF:=eC<|.str x
structure Tw where
 a:Nat
 x:Nat
 y:Nat
 xs:List W
 ys:List W
def Tw.val(s:Tw):W:=.lst [.lst s.xs,.lst s.ys]
def Tw.agm(s:Tw):W:=.lst [.id s.x,.id s.y]
def Tw.put(s:Tw)(k:Bool)(w:W):Tw:=if k then{s with ys:=s.ys++[w]}else{s with xs:=s.xs++[w]}
def x6(j:Nat)(k:Bool)(e:EF):RF Tw:=λa s=>match seen Tw.a Tw.agm j a s with
|some _=>match e a with|.ok w=>if s.xs.length<lim/\s.ys.length<lim then .nx a (s.put k w)else .bad|_=>.bad
|none=>.bad
def x4(j:Nat):RF Tw:=λa s=>match seen Tw.a Tw.val j a s with|some _=>.rt s.val s|none=>.bad
def ajp{S:Type}(i:Nat)(t:RF S):RF S:=λa s=>t (frz i a) s
def vT(t:RF Tw)(σ:Ws)(j:Nat)(o:W):Prop:=∀a x y:Nat,match t (σ.set j<|.va<|.id a) ⟨a,x,y,[],[]⟩with|.rt w _=>o=w|_=>False
noncomputable def ahn(j:Nat)(t:RF Tw):SF:=λa=>@dite _ (∃o:W,vT t a j o) (Classical.propDecidable _) (λh=>.rt<|Classical.choose h) λ_=>.bad
section
variable{α β:Type}
@[simp]def me(a)(f:α->Res β):(Res.ok a).bind f=f a:=(rfl)
@[simp]def al9(c)(f:α->Res β):(Res.ex c).bind f=.ex c:=(rfl)
@[simp]def lC(σ)(a)(f:α->Out):ofR σ (.ok a) f=f a:=(rfl)
@[simp]def amU(σ)(c)(f):ofR σ (.ex c:Res α) f=.ex c σ:=(rfl)
end
@[simp]def anW{b:Type}(a)(l:List b):(a::l)[0]?=some a:=(rfl)
noncomputable def alM:Option Sl->Res W|some (.va w)=>.ok w|_=>.bad
@[simp]def alL(w):alM (some<|.va w)=.ok w:=(rfl)
@[simp]def alZ(i:Nat)(σ:Ws):ah i σ=alM σ[i]?:=by unfold ah alM;split<;>simp_all
@[simp]def anR(w)(σ):eC w σ=.ok w:=(rfl)
@[simp]def ane(r)(a b)(σ):eOp r a b σ=(a σ).bind λx=>(b σ).bind λy=>r x y:=(rfl)
@[simp]def anb(r)(a)(σ):eUn r a σ=(a σ).bind r:=(rfl)
noncomputable def chB(z:W)(k:Res W):Res W:=match z with|.bl true=>k|.bl false=>.ok<|.bl false|_=>.bad
@[simp]def anj(b)(k):chB (.bl b) k=if b=true then k else .ok (.bl false):=by cases b<;>rfl
@[simp]def aiZ(r d:W->W->Res W)(a b c:EF)(σ:Ws):nv r d a b c σ=(a σ).bind λx=>(b σ).bind λy=>(r x y).bind λz=>chB z ((c σ).bind λw=>d y w):=by unfold nv chB;rfl
@[simp]def amB(b):toB (.bl b)=.ok b:=(rfl)
@[simp]def anG(e)(σ):tB e σ=(e σ).bind toB:=(rfl)
@[simp]def akC(a b)(σ):abo a b σ=(a σ).bind λx=>if x=true then b σ else .ok false:=by unfold abo;congr 1;funext x;cases x<;>rfl
@[simp]def amD(a b)(σ):tOr a b σ=(a σ).bind λx=>if x=true then .ok true else b σ:=by unfold tOr;congr 1;funext x;cases x<;>rfl
@[simp]def aky(a)(σ):yy a σ=(a σ).bind λx=>.ok !x:=(rfl)
set_option tactic.hygienic true
@[simp]def al3(a b)(σ):xl a b σ=(a σ).bind λx=>(toB x).bind λy=>if y=true then b σ else .ok (.bl false):=by
 unfold xl;congr 1;funext x;cases x<;>try rfl
 rename_i k;cases k<;>rfl
set_option tactic.hygienic false
@[simp]def al1(a)(σ):aet a σ=(a σ).bind λx=>(toB x).bind λy=>.ok (.bl !y):=by unfold aet;congr 1;funext x;cases x<;>rfl
@[simp]def anf(t)(a b)(σ):eIf t a b σ=(t σ).bind λx=>if x=true then a σ else b σ:=by unfold eIf;congr 1;funext x;cases x<;>rfl
@[simp]def amh(σ):ao σ=.ok []:=(rfl)
@[simp]def aj9(e)(a)(σ):aa e a σ=(e σ).bind λx=>(a σ).bind λb=>.ok (x::b):=(rfl)
@[simp]def al0(a)(σ):dB a σ=(a σ).bind λb=>if b.length<=lim then .ok (.tup b)else .bad:=(rfl)
@[simp]def al2(a)(σ):e8 a σ=(a σ).bind λb=>if b.length<=lim then .ok (.lst b)else .bad:=(rfl)
@[simp]def alI(a)(σ):acW a σ=(a σ).bind λb=>if b.length<=lim then .ok b else .bad:=(rfl)
noncomputable def tX{b}:Res b->Res b|.ok a=>.ok a|_=>.bad
@[simp]def aj4{b}(a:b):tX (.ok a)=.ok a:=(rfl)
@[simp]def aj3(f)(a)(σ):ax f a σ=(a σ).bind λws=>tX (f ws):=by unfold ax;congr 1;funext ws;cases f _<;>rfl
@[simp]def ai0(f)(a)(σ):fk f a σ=(a σ).bind f:=(rfl)
@[simp]def anh(f)(a)(σ):eBi f a σ=(a σ).bind f:=(rfl)
@[simp]def amR(σ):pNo σ=.ok none:=(rfl)
noncomputable def toI:W->Res (Option Int)|.int i=>.ok<|some i|_=>.bad
@[simp]def aku(i):toI (.int i)=.ok (some i):=(rfl)
@[simp]def ajG(e:EF)(σ:Ws):en e σ=(e σ).bind toI:=by unfold en;congr 1
@[simp]def anc(e)(lo a)(σ):eSl e lo a σ=(e σ).bind λx=>(lo σ).bind λl=>(a σ).bind λh=>oSl x l h:=(rfl)
@[simp]def ajM(i j):cV (.int i) (.int j)=.ok (.int<|i+j):=(rfl)
@[simp]def ajL(xs ys:List W):cV (.lst xs) (.lst ys)=if xs.length+ys.length<=lim then .ok (.lst<|xs++ys)else .bad:=(rfl)
def u9(i j):fw (.int i) (.int j)=if -2^64<i/\i<2^64\/-2^64<j/\j<2^64 then .ok (.int<|i*j)else .bad:=(rfl)
def fU{i}(j)(a:-18446744073709551616<i)(b:i<18446744073709551616):fw (.int i) (.int j)=.ok (.int<|i*j):=by rw[u9,an4];exact .inl ⟨by omega,by omega⟩
def m7(i){j}(a:-18446744073709551616<j)(b:j<18446744073709551616):fw (.int i) (.int j)=.ok (.int<|i*j):=by rw[u9,an4];exact .inr ⟨by omega,by omega⟩
@[simp]def ajK(i j):oMod (.int i) (.int j)=if 0<j then .ok (.int<|i%j)else .bad:=(rfl)
@[simp]def ajJ(i):lE (.int i)=.ok (.int<|-i):=(rfl)
@[simp]def als(i j):oLt (.int i) (.int j)=.ok (.bl<|decide (i<j)):=(rfl)
@[simp]def alu(i j):oLe (.int i) (.int j)=.ok (.bl<|decide (i<=j)):=(rfl)
@[simp] def alw (i j:Int):oEq (.int i) (.int j)=.ok (.bl<|decide (i=j)):=by show Res.ok (W.bl<|i==j)=_;rw[Bool.beq_eq_decide_eq]
@[simp] theorem alr (i j:Int):oNe (.int i) (.int j)=.ok (.bl<|!decide (i=j)):=by show Res.ok (W.bl !(i==j))=_;rw[Bool.beq_eq_decide_eq]
@[simp] theorem amW (a b:Bool):oEq (.bl a) (.bl b)=.ok (.bl<|a==b):=rfl
@[simp]def amV(a b:Bool):oNe (.bl a) (.bl b)=.ok (.bl<|a !=b):=rfl
@[simp]def ags(x):gY x .non=.ok (.bl !xf x):=(rfl)
@[simp]def aiG:xf .non=true:=(rfl)
@[simp]def fK(xs)(i):oIx (.lst xs) (.int i)=ofO (atI xs i):=(rfl)
@[simp]def alv(xs)(i):oIx (.tup xs) (.int i)=ofO (atI xs i):=(rfl)
@[simp]def alq(xs)(l h):oSl (.lst xs) l h=.ok (.lst<|cut xs l h):=(rfl)
@[simp]def alo(xs:List W)(l h:Option Int):oSl (.tup xs) l h=if sIx xs.length 0 l=0/\sIx xs.length xs.length h=xs.length then .bad else .ok (.tup<|cut xs l h):=(rfl)
def gz{a}(xs:List a)(k:Nat):atI xs k=xs[k]?:=by
 unfold atI ixN;by_cases h:k<xs.length;.rw[an4 (by simp),an4<|by omega];simp
 .rw[an4 (by simp),an5<|by omega];simp;omega
@[simp]def ame{a}(xs:List a)(k):atI xs no_index(@OfNat.ofNat Int k _)=xs[k]?:=gz _ k
def aex{a}(xs:List a){i}(h:0<=i):atI xs i=xs[i.toNat]?:=by have e:=gz xs i.toNat;rwa[Int.toNat_of_nonneg h]at e
@[simp]def aj6(xs):mh [.lst xs]=.ok (.int xs.length):=(rfl)
@[simp]def aj5(xs):mh [.tup xs]=.ok (.int xs.length):=(rfl)
@[simp]def agy(xs):gy [.lst xs]=.ok (.tup xs):=(rfl)
@[simp]def amc(b:Bool):mI [.bl b]=.ok (.int<|if b then 1 else 0):=(rfl)
noncomputable def oB(o:Option Bool):Res W:=match o with|some b=>.ok<|.bl b|none=>.bad
@[simp]def alx(b):oB (some b)=.ok (.bl b):=(rfl)
@[simp]def agz(x:W)(t:String):bj [x,.ty t]=oB (isK x t):=by cases h:isK x t<;>simp[bj,oB,h]
@[simp]def abg(xs):abr [.lst xs]=oB (allB xs):=rfl
@[simp]def alK(e)(σ):iw e σ=(e σ).bind itemsOf:=(rfl)
def akU:W->Res (List W)|.int j=>if -2^62<=j/\j<2^62 then .ok (rng 0 j.toNat)else .bad|_=>.bad
@[simp]def ajC(j):akU (.int j)=if -2^62<=j/\j<2^62 then .ok (rng 0 j.toNat)else .bad:=(rfl)
@[simp]def ajV(e:EF)(σ:Ws):dz e σ=(e σ).bind akU:=by unfold dz akU;congr 1
def akT:W->W->Res (List W)|.int i,.int j=>if -2^62<=i/\i<2^62/\-2^62<=j/\j<2^62 then .ok (rng i (j-i).toNat)else .bad|_,_=>.bad
@[simp]def ajB(i j):akT (.int i) (.int j)=if -2^62<=i/\i<2^62/\-2^62<=j/\j<2^62 then .ok (rng i (j-i).toNat)else .bad:=(rfl)
@[simp]def ajU(e a:EF)(σ:Ws):sW e a σ=(e σ).bind λx=>(a σ).bind λy=>akT x y:=by unfold sW akT;congr 1
@[simp] def agp (lo ) (n ):(rng lo n).length=n:=by simp[rng]
theorem afd (lo ) (n i ) (x ) (h:(rng lo n)[i]?=some x):i<n/\x=.int (lo+i):=by
  have a  := by
    have:=(aoa.mp h).1
    simpa using this
  simp only[rng,aoy,apj a] at h
  exact⟨a,(aow h).symm⟩
@[simp]def ajZ(i)(w)(σ):aq i w σ=.ok (σ.set i<|.va w):=(rfl)
@[simp]def ajY(σ):kr [] σ=.ok σ:=(rfl)
@[simp]def agv(g)(b)(w)(r)(σ):bu g b (w::r) σ=(tX<|g w σ).bind λd=>tX (b r d):=by show(match g w σ with|.ok _=>(match b r _ with|.ok _=>Res.ok _|_=>.bad)|_=>.bad)=_;cases g w σ with|ok a=>simp ;cases b r a<;>rfl|ex c|bad=>rfl
@[simp]def ajX(a)(ws)(σ):kq a (.tup ws) σ=a ws σ:=(rfl)
def ahi(σ:Ws)(i:Nat)(ws:List W)(w:W):Res W->Res Ws
|.ok (.int k)=>match ixN ws.length k with|some j=>.ok<|σ.set i<|.ow<|ws.set j w|none=>.bad
|_=>.bad
def akF(σ:Ws)(i:Nat)(w:W)(r:Res W):Option Sl->Res Ws|some (.ow ws)=>ahi σ i ws w r|_=>.bad
@[simp]def alN(i:Nat)(e:EF)(w:W)(σ:Ws):abq i e w σ=akF σ i w (e σ) σ[i]?:=by unfold abq akF;cases h:σ[i]? with|none=>rfl|some sl=>cases sl with|no|va _|od _ _|ob=>rfl|ow ws=>unfold ahi;cases e σ with|bad|ex c=>rfl|ok k=>cases k<;>rfl
@[simp]def akE(σ:Ws)(i:Nat)(w:W)(r:Res W)(ws:List W):akF σ i w r (some<|.ow ws)=ahi σ i ws w r:=(rfl)
def abV(σ:Ws)(i:Nat)(ws:List W)(w:W)(k:Int)(b:0<=k)(a:k<ws.length):ahi σ i ws w (.ok<|.int k)=.ok (σ.set i<|.ow<|ws.set k.toNat w):=by unfold ahi ixN;simp[b,a]
noncomputable def alP(σ:Ws)(i:Nat):Option Sl->Ws|some (.ow ws)=>σ.set i<|.va<|.lst ws|some (.od ks vs)=>σ.set i<|.va<|.dic ks vs|_=>σ
@[simp]def am5(i:Nat)(σ:Ws):frz i σ=alP σ i σ[i]?:=by unfold frz alP;split<;>simp_all
@[simp]def alO(σ)(i)(ws):alP σ i (some<|.ow ws)=σ.set i (.va<|.lst ws):=(rfl)
def plR:Res W->Res W|.ok w=>if plain w then .ok w else .bad|_=>.bad
@[simp]def amP(w):plR (.ok w)=if plain w=true then .ok w else .bad:=(rfl)
@[simp]def aaH(i:Nat)(e:EF)(σ:Ws):aaI i e σ=plR (e<|frz i σ):=by unfold aaI plR;cases e (frz i σ)<;>rfl
@[simp]def yz(i)(t)(σ):adR i t σ=tX (t<|frz i σ):=by unfold adR tX;cases t _<;>rfl
@[simp]def ahJ(i):plain (.int i)=true:=(rfl)
@[simp]def ahI(xs:List W):plain (.tup xs)=iK xs:=(rfl)
@[simp]def agq:iK []=true:=(rfl)
@[simp]def afp(x:W)(xs:List W):iK (x::xs)=(plain x&&iK xs):=(rfl)
def wH(xs):iK xs=true↔∀x∈xs,plain x=true:=by induction xs with|nil=>simp|cons x xs ih=>simp[ih]
@[simp]def akw(σ:Ws):fF σ=.ok true:=(rfl)
@[simp]def ajS(k)(it)(g)(t)(e)(σ):sR k it g t e σ=(it σ).bind λa=>if a.length<=lim then tX (ba g t e (List.replicate k .no++σ) a)else .bad:=by unfold sR;congr 1;funext a;cases ba g t e _ _<;>rfl
@[simp]def aj2(k)(it)(g)(t)(e)(σ):cZ k it g t e σ=(sR k it g t e σ).bind λa=>.ok (.lst a):=(rfl)
noncomputable def gW(o:Out)(b:SF):Out:=match o with|.nx σ'=>b σ'|o=>o
@[simp]def yH(σ)(b):gW (.nx σ) b=b σ:=(rfl)
@[simp]def akJ(w)(b):gW (.rt w) b=.rt w:=(rfl)
@[simp]def afa(a b)(σ):aD a b σ=gW (a σ) b:=(rfl)
@[simp]def amH(σ):sNx σ=.nx σ:=(rfl)
@[simp]def ae9(i)(e)(σ):bq i e σ=ofR σ (e σ) λw=>.nx (σ.set i<|.va w):=(rfl)
@[simp]def ajz(i)(l)(σ):jf i l σ=ofR σ (l σ) λws=>.nx (σ.set i<|.ow ws):=(rfl)
@[simp]def akP(e:EF)(g:GF)(σ:Ws):wD e g σ=ofR σ (e σ) λw=>ofR σ (g w σ) λa=>.nx a:=(rfl)
@[simp]def yN(t)(a b)(σ):sIf t a b σ=ofR σ (t σ) λx=>if x=true then a σ else b σ:=by unfold sIf;congr 1;funext x;cases x<;>rfl
@[simp]def akM(e)(σ):bg e σ=ofR σ (e σ) λw=>.rt w:=(rfl)
def amg(σ:Ws)(i:Nat)(r:Res W):Option Sl->Out|some (.ow ws)=>ofR σ r λw=>if ws.length<lim then .nx (σ.set i<|.ow<|ws++[w])else .bad|_=>.bad
@[simp]def akQ(i:Nat)(e:EF)(σ:Ws):abp i e σ=amg σ i (e σ) σ[i]?:=by unfold abp amg;split<;>simp_all
@[simp]def amf(σ)(i)(r)(ws):amg σ i r (some<|.ow ws)=ofR σ r λw=>if ws.length<lim then .nx (σ.set i<|.ow<|ws++[w])else .bad:=(rfl)
@[simp]def akN(it)(g)(b)(σ):jh it g b σ=ofR σ (it σ) λa=>forL g b a σ:=(rfl)
@[simp]def akK(c)(σ)(b):gW (.ex c σ) b=.ex c σ:=(rfl)
@[simp]def agf(d nm)(fs):l8 d (.exc nm fs)=pZ nm d:=(rfl)
noncomputable def ajw(o:Out)(k:W->Ws->Out):Out:=match o with|.ex c σ=>k c σ|o=>o
@[simp]def aks(σ)(k):ajw (.nx σ) k=.nx σ:=(rfl)
@[simp]def akt(c)(σ)(k):ajw (.ex c σ) k=k c σ:=(rfl)
@[simp]def aho(b:SF)(d:String)(i:Nat)(h:SF)(σ:Ws):uT b d i h σ=ajw (b σ) (lR d i h):=by unfold uT ajw;rfl
noncomputable def agj(i:Nat)(o:Out):Out:=match o with|.nx σ2=>.nx<|σ2.set i .no|.rt w=>.rt w|_=>.bad
@[simp]def aj8(i:Nat)(σ:Ws):agj i (.nx σ)=.nx (σ.set i .no):=(rfl)
@[simp]def ajW(d:String)(i:Nat)(h:SF)(c:W)(σ:Ws):lR d i h c σ=if l8 d c then agj i (h<|σ.set i<|.va c)else .bad:=by unfold lR agj;rfl
noncomputable def fin:Out->Res W|.rt w=>.ok w|.nx _=>.ok .non|.ex c _=>.ex c|_=>.bad
@[simp]def am8(w):fin (.rt w)=.ok w:=(rfl)
@[simp]def am9(c)(σ):fin (.ex c σ)=.ex c:=(rfl)
@[simp]def run_eq(n:Nat)(t:SF)(ws:List W):run n t ws=fin (t<|ws.map .va++List.replicate (n-ws.length) .no):=by unfold run fin;rfl
@[simp]def am1:lim=1000000:=(rfl)
noncomputable def mC(o:Out)(k:SF):Out:=match o with|.nx σ2=>k σ2|.ct σ2=>k σ2|.bk σ2=>.nx σ2|o=>o
@[simp]def ajQ(σ)(k):mC (.nx σ) k=k σ:=(rfl)
@[simp]def ajP(w)(k):mC (.rt w) k=.rt w:=(rfl)
def fA(c)(b)(n)(σ):df c b (n+1) σ=ofR σ (c σ) λx=>if x=true then mC (b σ) (df c b n)else .nx σ:=by
 show ofR σ _ _=_;congr 1;funext x;cases x;.rfl
 .cases b σ<;>rfl
def cW(g)(b)(x)(xs)(σ):forL g b (x::xs) σ=ofR σ (g x σ) λa=>mC (b a) (forL g b xs):=rfl
@[simp]def aj0(g)(b)(σ):forL g b [] σ=.nx σ:=(rfl)
theorem sY{g b}:∀{xs}(P:Nat->Ws->Prop){σ},P 0 σ->(∀i x σ,xs[i]?=some x->P i σ->∃c,g x σ=.ok c/\∃a,b c=.nx a/\P (i+1) a)->∃d,forL g b xs σ=.nx d/\P xs.length d|[],P,σ,h0,_=>⟨σ,rfl,h0⟩|x::xs,P,σ,h0,hs=>by obtain⟨c,f,a,h,l⟩:=hs 0 x σ rfl h0;obtain⟨d,e,j⟩:=sY (xs:=xs) _ l λi y σ m k=>hs (i+1) y σ (by grind) k;exact⟨_,by simp [forL,f,h];exact e,j⟩
theorem bA{g t e σ}{c:Type}{emb f}:∀{xs:List c},(∀x∈xs,∃a,g (emb x) σ=.ok a/\t a=.ok true/\e a=.ok (f x))->ba g t e σ (xs.map emb)=.ok (xs.map f)|[],_=>rfl|x::xs,h=>by obtain⟨a,b,j,d⟩:=h x (by simp);have i:=bA (xs:=xs) λy k=>h y (by grind);simp [ba,b,j,d,i]
theorem eQ{g:GF}{t:TF}{e:EF}{σ:Ws}{b:Type}{emb f:b->W}{p:b->Bool}:∀{xs:List b},(∀x∈xs,∃a,g (emb x) σ=.ok a/\t a=.ok (p x)/\(p x=true->e a=.ok (f x)))->ba g t e σ (xs.map emb)=.ok ((xs.filter p).map f)|[],_=>rfl|x::xs,h=>by obtain⟨a,d,j,l⟩:=h x (by simp);have i:=eQ (p:=p) (xs:=xs) λy k=>h y (by simp[k]);cases c:p x with|true=>simp only[aor,ba,d,j,c,l c,me,i,apz,aqa]|false=>simp[aor,ba,d,j,c,me,i,apz]
end WL
namespace L2
open PySem PySem.Spec PyProof.Rows
def aB.rd{H H'}(e:aB H H'){a u}(q:Rd H a u):Rd H' a u:=q.imp (e _ _) λ⟨o,z⟩=>⟨o,e _ _ z⟩
end L2
namespace WS
open PySem PySem.Spec PyProof.Rows L2
open WL(Res Sl Ws EF TF AF LF GF GsF SF Out OX RF Tw)
abbrev VW:=WL.W
def ExcAt(K:W.Frag)(nm:String)(C:Addr):Prop:=nm∈WL.kx/\W.nsIn K mainGlobals (Str.ofString nm)=some (some<|.ref C)
mutual def RW(K:W.Frag)(H:Hp):VW->V->Prop|.non,v=>v=.non|.bl b,v=>v=.bl b|.int i,v=>v=.int i|.str x,v=>v=.str x|.ty n,v=>v=.ty n|.tup ws,v=>∃a vs,v=.ref a/\SqT K H a vs/\RWs K H ws vs|.lst ws,v=>∃a vs,v=.ref a/\SqL K H a vs/\RWs K H ws vs|.dic ks vs,v=>∃a kvs,v=.ref a/\Rd H a (.dK kvs)/\RWs K H ks (kvs.map λp=>kV p.1)/\RWs K H vs (kvs.map λp=>p.2)|.cls d,v=>∃a,v=.ref a/\ExcAt K d a|.exc nm fs,v=>∃a C dx,v=.ref a/\H a=some (.ext<|excAt a C dx)/\ExcAt K nm C/\∃fvs:List (Str×V),fvs.map (·.1)=WL.fieldsOf nm/\RWs K H fs (fvs.map (·.2))/\(fvs=[]/\dx.1=none\/∃d,dx.1=some d/\H d=some (.xd fvs))|.ins c fs,v=>∃a C dx,∃fvs:List (Str×V),v=.ref a/\H a=some (.ins C dx fvs)/\W.nsIn K mainGlobals (Str.ofString c)=some (some<|.ref C)/\fvs.map (·.1)=WL.oO c/\fvs≠[]/\RWs K H fs (fvs.map (·.2))|.id a,v=>v=.ref a def RWs(K:W.Frag)(H:Hp):List VW->List V->Prop|[],vs=>vs=[]|w::ws,vs=>∃v r,vs=v::r/\RW K H w v/\RWs K H ws r end
section
variable{K:W.Frag}{H H':Hp}
mutual theorem RW.via(ht:∀a xs,SqT K H a xs->SqT K H' a xs)(hl:∀a xs,SqL K H a xs->SqL K H' a xs)(hd:∀a kvs,Rd H a (.dK kvs)->Rd H' a (.dK kvs))(he:∀a φ,H a=some (.ext φ)->H' a=some (.ext φ))(hx:∀a fs,H a=some (.xd fs)->H' a=some (.xd fs))(hi:∀a C dx fs,fs≠[]->H a=some (.ins C dx fs)->H' a=some (.ins C dx fs)):∀(w:VW)(v:V),RW K H w v->RW K H' w v|.non,_,h=>by simpa only[RW]using h|.bl _,_,h=>by simpa only[RW]using h|.int _,_,h=>by simpa only[RW]using h|.str _,_,h=>by simpa only[RW]using h|.ty _,_,h=>by simpa only[RW]using h|.tup ws,_,h=>by obtain⟨a,vs,e,q,r⟩:=h;exact⟨a,vs,e,ht a vs q,RWs.via ht hl hd he hx hi ws vs r⟩|.lst ws,_,h=>by simp only[RW]at h⊢;obtain⟨a,vs,e,q,r⟩:=h;exact⟨a,vs,e,hl a vs q,RWs.via ht hl hd he hx hi ws vs r⟩|.dic ks vs,_,h=>by simp only[RW]at h⊢;obtain⟨a,kvs,e,q,r1,r2⟩:=h;exact⟨a,kvs,e,hd a kvs q,RWs.via ht hl hd he hx hi ks _ r1,RWs.via ht hl hd he hx hi vs _ r2⟩|.cls _,_,h=>by simpa only[RW]using h|.id _,_,h=>by simpa only[RW]using h|.exc nm fs,_,h=>by simp only[RW]at h⊢;obtain⟨a,C,dx,e,q,c,fvs,f1,f2,f3⟩:=h;exact⟨a,C,dx,e,he _ _ q,c,fvs,f1,RWs.via ht hl hd he hx hi fs _ f2,f3.imp (λz=>z) λ⟨d,z1,z2⟩=>⟨d,z1,hx _ _ z2⟩⟩|.ins c fs,_,h=>by simp only[RW]at h⊢;obtain⟨a,C,dx,fvs,e,q,c1,c2,c3,r⟩:=h;exact⟨a,C,dx,fvs,e,hi _ _ _ _ c3 q,c1,c2,c3,RWs.via ht hl hd he hx hi fs _ r⟩theorem RWs.via(ht:∀a xs,SqT K H a xs->SqT K H' a xs)(hl:∀a xs,SqL K H a xs->SqL K H' a xs)(hd:∀a kvs,Rd H a (.dK kvs)->Rd H' a (.dK kvs))(he:∀a φ,H a=some (.ext φ)->H' a=some (.ext φ))(hx:∀a fs,H a=some (.xd fs)->H' a=some (.xd fs))(hi:∀a C dx fs,fs≠[]->H a=some (.ins C dx fs)->H' a=some (.ins C dx fs)):∀(ws:List VW)(vs:List V),RWs K H ws vs->RWs K H' ws vs|[],_,h=>by simpa only[RWs]using h|w::ws,_,h=>by simp only[RWs]at h⊢;obtain⟨v,r,e,q,t⟩:=h;exact⟨v,r,e,RW.via ht hl hd he hx hi w v q,RWs.via ht hl hd he hx hi ws r t⟩end
def RW.keep(e:aB H H'){w v}(h:RW K H w v):RW K H' w v:=RW.via (λ_ _ q=>e.tup q) (λ_ _ q=>e.seq q) (λ_ _ q=>e.rd q) (λ_ _ q=>e _ _ q) (λ_ _ q=>e _ _ q) (λ_ _ _ _ _ q=>e _ _ q) w v h
def RWs.keep(e:aB H H'){ws vs}(h:RWs K H ws vs):RWs K H' ws vs:=RWs.via (λ_ _ q=>e.tup q) (λ_ _ q=>e.seq q) (λ_ _ q=>e.rd q) (λ_ _ q=>e _ _ q) (λ_ _ q=>e _ _ q) (λ_ _ _ _ _ q=>e _ _ q) _ _ h
mutual theorem RW.less(ht:∀a xs,SqT K H a xs->SqT K H' a xs):∀(w:VW)(v:V),WL.plain w=true->RW K H w v->RW K H' w v|.non,_,_,h=>by simpa only[RW]using h|.bl _,_,_,h=>by simpa only[RW]using h|.int _,_,_,h=>by simpa only[RW]using h|.str _,_,_,h=>by simpa only[RW]using h|.ty _,_,_,h=>by simpa only[RW]using h|.tup ws,_,p,h=>by obtain⟨a,vs,e,q,r⟩:=h;exact⟨a,vs,e,ht a vs q,RWs.less ht ws vs (by assumption) r⟩|.lst ws,_,p,_=>by cases p|.dic _ _,_,p,_=>by cases p|.cls _,_,_,h=>by simpa only[RW]using h|.id _,_,_,h=>by simpa only[RW]using h|.exc _ _,_,p,_=>by cases p|.ins _ _,_,p,_=>by cases p theorem RWs.less(ht:∀a xs,SqT K H a xs->SqT K H' a xs):∀(ws:List VW)(vs:List V),WL.iK ws=true->RWs K H ws vs->RWs K H' ws vs|[],_,_,h=>by simpa only[RWs]using h|w::ws,_,p,h=>by simp only[RWs]at h⊢;have p:=ao7.mp p;obtain⟨v,r,e,q,t⟩:=h;exact⟨v,r,e,RW.less ht w v p.1 q,RWs.less ht ws r p.2 t⟩end
theorem RWs.length:∀{ws vs},RWs K H ws vs->ws.length=vs.length|[],_,h=>by subst h;rfl|w::ws,_,h=>by obtain⟨v,r,rfl,_,t⟩:=h;simp [RWs.length t]
theorem RWs.get:∀{ws:List VW}{vs:List V}{i:Nat}{w:VW},RWs K H ws vs->ws[i]?=some w->∃v,vs[i]?=some v/\RW K H w v|[],_,_,_,_,e=>by simp at e|x::ws,_,0,w,h,e=>by simp only[RWs]at h;obtain⟨v,r,rfl,q,_⟩:=h;simp at e;subst e;exact⟨v,rfl,q⟩|x::ws,_,i+1,w,h,e=>by simp only[RWs]at h;obtain⟨v,r,rfl,_,t⟩:=h;obtain⟨u,a,b⟩:=RWs.get t (by simpa using e);exact⟨u,by simpa using a,b⟩
def RWs.get':∀{ws:List VW}{vs:List V}{i:Nat}{v:V},RWs K H ws vs->vs[i]?=some v->∃w,ws[i]?=some w/\RW K H w v:=λ{ws vs i v}h e=>by have f:=h.length;have c:i<vs.length:=(aoa.mp e).1;obtain⟨d,a,b⟩:=RWs.get (w:=ws[i]) h (aod<|by omega);rw[e]at a;cases a;exact⟨_,aod (by omega),b⟩
theorem RWs.app:∀{ws b vs a},RWs K H ws vs->RWs K H b a->RWs K H (ws++b) (vs++a)|[],_,_,_,h,h'=>by subst h;exact h'|w::ws,_,_,_,h,h'=>by obtain⟨v,r,rfl,q,t⟩:=h;exact⟨v,_,rfl,q,RWs.app t h'⟩
def RWs.one{w v}(h:RW K H w v):RWs K H [w] [v]:=by exact⟨v,[],rfl,h,rfl⟩
def RWs.cons{w v ws vs}(h:RW K H w v)(t:RWs K H ws vs):RWs K H (w::ws) (v::vs):=by exact⟨v,vs,rfl,h,t⟩
theorem RWs.drop:∀{ws vs}n,RWs K H ws vs->RWs K H (ws.drop n) (vs.drop n)|_,_,0,h=>by grind|[],_,n+1,h=>by subst h;simp[RWs]|w::ws,_,n+1,h=>by obtain⟨v,r,rfl,_,t⟩:=h;simpa using RWs.drop n t
theorem RWs.take:∀{ws vs}n,RWs K H ws vs->RWs K H (ws.take n) (vs.take n)|_,_,0,h=>rfl|[],_,n+1,h=>by subst h;simp[RWs]|w::ws,_,n+1,h=>by obtain⟨v,r,rfl,q,t⟩:=h;exact⟨v,_,rfl,q,RWs.take n t⟩
theorem RWs.set{w:VW}{v:V}(hw:RW K H w v):∀{ws:List VW}{vs:List V}(n:Nat),RWs K H ws vs->RWs K H (ws.set n w) (vs.set n v)|[],_,n,h=>by simp only[RWs]at h;subst h;simp[RWs]|x::ws,_,0,h=>by simp only[RWs]at h;obtain⟨u,r,rfl,q,t⟩:=h;simp only[List.set_cons_zero,RWs];exact⟨v,r,rfl,hw,t⟩|x::ws,_,n+1,h=>by simp only[RWs]at h;obtain⟨u,r,rfl,q,t⟩:=h;simp only[List.set_cons_succ,RWs];exact⟨u,_,rfl,q,RWs.set hw n t⟩
theorem RWs.cut{ws vs}(h:RWs K H ws vs)(lo a):RWs K H (WL.cut ws lo a) (agx vs lo a):=by unfold WL.cut agx;rw[<-h.length];exact(h.drop _).take _
def RWs.ints(ns:List Int):RWs K H (ns.map .int) (ns.map V.int):=by induction ns with|nil=>simp[RWs]|cons n ns ih=>exact⟨_,_,rfl,rfl,ih⟩
end
def NF:HO->Prop|.frz _ _=>False|.ins _ _ []=>False|_=>True
structure Bx where
 K:W.Frag
 H0:Hp
 F0:Hp
 xp:VW->Ws->Hp->Prop
 mono:∀c σ F F',aB F F'->xp c σ F->xp c σ F'
structure RB(B:Bx)(F H:Hp):Prop where
 sub:aB F H
 base:aB B.H0 H
 fz0:aB B.F0 F
 fr:∀a o,F a=some o->B.F0 a=some o\/B.H0 a=none/\NF o
def IsO:Sl->Prop|.od _ _=>True|.ob=>True|_=>False
structure OD(K:W.Frag)(H0:Hp)(σ:Ws)(σV:L2.St)(F H:Hp):Prop where
 od:∀(i:Nat)(ks us:List VW),σ[i]?=some (.od ks us)->∃a kvs,σV[i]?=some (some<|.ref a)/\F a=none/\H0 a=none/\H a=some (.dK kvs)/\RWs K F ks (kvs.map λp=>kV p.1)/\RWs K F us (kvs.map λp=>p.2)ad:∀(i j:Nat)(ks us ks' us':List VW)(a:Addr),i≠j->σ[i]?=some (.od ks us)->σ[j]?=some (.od ks' us')->σV[i]?=some (some<|.ref a)->σV[j]?=some (some<|.ref a)->False
 ob:∀i:Nat,σ[i]?=some .ob->∃a C dx,σV[i]?=some (some<|.ref a)/\F a=some (.ins C dx [])
def OD.via{K E D m σ g l k F x H H'}(R:OD K D σ l F H)(hK:E=K)(f:Nat->Nat)(G:∀i j,f i=f j->i=j\/∀c d,g[i]?≠some (.od c d))(h:∀i v,IsO v->g[i]?=some v->σ[f i]?=some v/\k[i]?=l[f i]?)(s:aB F x)(n:∀i(c d:List VW)a b,g[i]?=some (.od c d)->l[f i]?=some (some<|.ref a)->H a=some (.dK b)->F a=none->D a=none->x a=none/\m a=none/\H' a=some (.dK b)):OD E m g k x H':=by
 subst hK;refine⟨λi c d e=>?_,λi j c d p o a u B S T M=>?_,λi e=>?_⟩;.obtain⟨r,y⟩:=h i (.od c d) trivial e;refine ajl (R.od (f i) c d r) λa b q A J P I N=>?_;refine agE (n i c d a b e q P A J) λU X O=>?_;exact aki a b (y.trans q) U X O (I.keep s)<|N.keep s
 .obtain⟨t,v1⟩:=h i (.od c d) trivial B;obtain⟨w,v2⟩:=h j (.od p o) trivial S;refine R.ad _ (f j) c d p o a (λz=>?_) t w (v1.symm.trans T)<|v2.symm.trans M;rcases G i j z with z|z;.exact u z
  .exact z _ _ B
 .obtain⟨r,y⟩:=h i .ob trivial e;refine vV (R.ob (f i) r) λa C Q q A=>?_;exact⟨a,C,Q,y.trans q,s _ _ A⟩
structure RS(B:Bx)(σ:Ws)(σV:L2.St)(F H:Hp):Prop where
 rb:RB B F H
 len:σ.length=σV.length
 va:∀(i:Nat)(w:VW),σ[i]?=some (.va w)->∃v,σV[i]?=some (some v)/\RW B.K F w v
 ow:∀(i:Nat)(ws:List VW),σ[i]?=some (.ow ws)->∃a vs,σV[i]?=some (some<|.ref a)/\F a=none/\B.H0 a=none/\H a=some (.lst vs)/\RWs B.K F ws vs
 ap:∀(i j:Nat)(ws ws':List VW)(a:Addr),i≠j->σ[i]?=some (.ow ws)->σ[j]?=some (.ow ws')->σV[i]?=some (some<|.ref a)->σV[j]?=some (some<|.ref a)->False
 dd:OD B.K B.H0 σ σV F H
def RS.af8{B σ c F H d H'}(R:RS B σ c F H)(s:aB F d)(n:∀a b,H a=some (.dK b)->F a=none->d a=none/\H' a=some (.dK b)):OD B.K B.H0 σ c d H':=R.dd.via rfl _ (λ_ _ z=>.inl z) (λ_ _ _ e=>⟨e,rfl⟩) s λ_ _ _ a b _ _ g f h=>⟨(n a _ g f).1,h,(n a _ g f).2⟩
def RS.ai2{B σ c F H g H'}(R:RS B σ c F H)(i){sl}(hs:¬IsO sl)(x)(s:aB F g)(n:∀j(f d:List VW)a b,i≠j->σ[j]?=some (.od f d)->c[j]?=some (some<|.ref a)->H a=some (.dK b)->F a=none->g a=none/\H' a=some (.dK b)):OD B.K B.H0 (σ.set i sl) (c.set i x) g H':=by
 have h:∀{j:Nat}{s':Sl},IsO s'->(σ.set i sl)[j]?=some s'->i≠j:=λ{j s'}o e z=>by
  subst z;have l:i<σ.length:=by have:=(aoa.mp e).1;simpa using this
  rw[aof l]at e;exact hs<|aow e▸o
 refine R.dd.via rfl id (λ_ _ z=>.inl z) (λj f d e=>?_) s λj f d a b e q r m p=>?_;.have:=h d e;rw[an3 this]at e;exact⟨e,by rw[an3 this];rfl⟩
 .have k:=h (s':=.od f d) trivial e;rw[an3 k]at e;obtain⟨t,u⟩:=n j f d a b k e q r m;exact⟨t,p,u⟩
def set_same{a:L2.St}{i x}(e:a[i]?=some x):a.set i x=a:=by
 apply List.ext_getElem?;intro j;by_cases b:i=j;.subst b;rw[aof (aoa.mp e).1,e]
 .rw[an3 b]
structure Ext(F H F' H':Hp):Prop where
 same:aB F F'
 rs:∀B σ σV,RS B σ σV F H->RS B σ σV F' H'
 rb:∀B,RB B F H->RB B F' H'
 own:∀a o,H a=some o->H' a=some o/\(F a=none->F' a=none)
structure Gr(F H F' H':Hp):Prop where
 f:aB F F'
 h:aB H H'
 nf:∀a o,H a=some o->F a=none->F' a=none
theorem Gr.refl{F H}:Gr F H F H:=⟨aB.refl _,aB.refl _,λ_ _ _ z=>z⟩
theorem Gr.trans{F H d c f g}(a:Gr F H d c)(b:Gr d c f g):Gr F H f g:=⟨a.f.trans b.f,a.h.trans b.h,λx o e z=>b.nf x o (a.h x o e)<|a.nf x o e z⟩
def Ext.gr{F H b H'}(e:Ext F H b H'):Gr F H b H':=⟨e.same,λa o q=>(e.own a o q).1,λa o q=>(e.own a o q).2⟩
section
variable{B:Bx}{σ:Ws}{σV:L2.St}{F H:Hp}
def Gr.new{p}(c:F p=none)(b:H p=none)(o):Gr F H (upd F p o) (upd H p o):=⟨av c o,av b o,λa u e z=>by rw[ai (aS e b)];exact z⟩
theorem Ext.refl(F H):Ext F H F H:=⟨aB.refl _,λ_ _ _ h=>h,λ_ h=>h,λ_ _ h=>⟨h,λz=>z⟩⟩
def RB.new(R:RB B F H){p}(d:H p=none)(o)(f:NF o:=by trivial):RB B (upd F p o) (upd H p o):=by
 refine⟨λb u e=>?_,λb u e=>?_,R.fz0.trans<|av (R.sub.free d) o,λa u e=>?_⟩
 .by_cases c:b=p;.subst c;rw[aj]at e⊢;exact e
  .rw[ai c]at e⊢;exact R.sub b u e
 .exact av d o b u (R.base b u e)
 .by_cases c:a=p;.subst c;rw[aj]at e;cases e;exact .inr ⟨R.base.free d,f⟩
  .rw[ai c]at e;exact R.fr a u e
theorem RS.new(R:RS B σ σV F H){p}(b:H p=none)(o)(k:NF o:=by trivial):RS B σ σV (upd F p o) (upd H p o):=by
 have c:=R.rb.sub.free b;refine⟨R.rb.new b o k,R.len,λi w e=>?_,λi ws e=>?_,R.ap,R.af8 (av c o) λa r f n=>⟨by rw[ai (aS f b)];exact n,by rw[ai (aS f b)];exact f⟩⟩;.obtain⟨v,d,g⟩:=R.va i w e;exact⟨v,d,g.keep<|av c o⟩
 .refine pE (R.ow i _ e) λa m d g q j l=>?_;have h:a≠p:=λz=>by grind
  exact adJ a m d (by rw[ai h];exact g) q (by rw[ai h];exact j)<|l.keep<|av c o
theorem Ext.new{p}(f:F p=none)(d:H p=none)(o)(c:NF o:=by trivial):Ext F H (upd F p o) (upd H p o):=⟨av f o,λ_ _ _ R=>R.new d o c,λ_ R=>R.new d o c,λa u e=>by
 have b:a≠p:=λz=>by grind
 exact⟨by rw[ai b];exact e,λz=>by rw[ai b];exact z⟩⟩
def RS.aif(R:RS B σ σV F H){p}(c:H p=none)(o):RS B σ σV F (upd H p o):=by refine⟨⟨λb u e=>av c o b u<|R.rb.sub b u e,λb u e=>av c o b u<|R.rb.base b u e,R.rb.fz0,R.rb.fr⟩,R.len,R.va,λi ws e=>?_,R.ap,R.af8 (aB.refl _) λa n d j=>⟨j,by rw[ai (aS d c)];exact d⟩⟩;refine pE (R.ow i _ e) λa h k m l f g=>?_;exact⟨a,h,k,m,l,av c o _ _ f,g⟩
def RS.grow(R:RS B σ σV F H){b H'}(g:Gr F H b H')(j:RB B b H'):RS B σ σV b H':=by
 refine⟨j,R.len,λi w e=>?_,λi ws e=>?_,R.ap,R.af8 g.f λa o h m=>⟨g.nf a _ h m,g.h a _ h⟩⟩;.obtain⟨v,c,d⟩:=R.va i w e;exact⟨v,c,d.keep g.f⟩
 .refine pE (R.ow i _ e) λa l c d n f k=>?_;exact⟨a,l,c,g.nf a _ f d,n,g.h a _ f,k.keep g.f⟩
theorem RS.set(R:RS B σ σV F H){i:Nat}{w:VW}{v:V}(hw:RW B.K F w v):RS B (σ.set i<|.va w) (σV.set i<|some v) F H:=by
 have n:=R.len;refine⟨R.rb,by simp[n],λj u e=>?_,λj ws e=>?_,λj k ws g a h c f l m=>?_,R.ai2 i (sl:=.va w) (λz=>z) _ (aB.refl _) λ_ _ _ _ _ _ _ _ r o=>⟨o,r⟩⟩
 .by_cases d:i=j
  .subst d;have b:i<σ.length:=by have:=(aoa.mp e).1;simpa using this
   rw[aof b]at e;cases e;exact⟨v,aof (by omega),hw⟩
  .rw[an3 d]at e⊢;exact R.va j u e
 .by_cases d:i=j
  .subst d;have b:i<σ.length:=by have:=(aoa.mp e).1;simpa using this
   rw[aof b]at e;cases e
  .rw[an3 d]at e⊢;exact R.ow j ws e
 .have p:i≠j:=λz=>by
   subst z;have b:i<σ.length:=by have:=(aoa.mp c).1;simpa using this
   rw[aof b]at c;cases c
  have q:i≠k:=λz=>by
   subst z;have b:i<σ.length:=by have:=(aoa.mp f).1;simpa using this
   rw[aof b]at f;cases f
  rw[an3 p]at c l;rw[an3 q]at f m;exact R.ap j k ws g a h c f l m
def RS.anH(R:RS B σ σV F H){i:Nat}{ws:List VW}{vs:List V}{a:Addr}(t:F a=none)(w:B.H0 a=none)(y:H a=some (.lst vs))(hw:RWs B.K F ws vs)(s:∀(j:Nat)(c:List VW),j≠i->σ[j]?=some (.ow c)->σV[j]?≠some (some<|.ref a)):RS B (σ.set i<|.ow ws) (σV.set i<|some<|.ref a) F H:=by
 have v:=R.len;have g:∀{j:Nat}{c:List VW},(σ.set i<|.ow ws)[j]?=some (.ow c)->i=j->c=ws/\(σV.set i<|some<|V.ref a)[j]?=some (some<|.ref a):=λ{j c}e z=>by
  subst z;have r:i<σ.length:=by have:=(aoa.mp e).1;simpa using this
  rw[aof r]at e;cases e;exact⟨rfl,aof<|by omega⟩
 refine⟨R.rb,by simp[v],λj u e=>?_,λj c e=>?_,λj k c l b m p n q o=>?_,R.ai2 i (sl:=.ow ws) (λz=>z) _ (aB.refl _) λ_ _ _ _ _ _ _ _ A x=>⟨x,A⟩⟩
 .by_cases d:i=j
  .subst d;have r:i<σ.length:=by have:=(aoa.mp e).1;simpa using this
   rw[aof r]at e;cases e
  .rw[an3 d]at e⊢;exact R.va j u e
 .by_cases d:i=j;.obtain⟨rfl,f⟩:=g e d;exact⟨a,vs,f,t,w,y,hw⟩
  .rw[an3 d]at e⊢;exact R.ow j c e
 .by_cases d:i=j;.obtain⟨_,f⟩:=g p d;rw[q]at f;cases f;have h:i≠k:=λz=>m<|d.symm.trans z;rw[an3 h]at n o;exact s k l (aom h) n o
  .rw[an3 d]at p q;by_cases h:i=k;.obtain⟨_,f⟩:=g n h;rw[o]at f;cases f;exact s j c (aom d) p q
   .rw[an3 h]at n o;exact R.ap j k c l b m p n q o
def RS.write(R:RS B σ σV F H){i}{ws us:List VW}{vs h a}(e:σ[i]?=some (.ow ws))(m:σV[i]?=some (some<|.ref a))(s:F a=none)(v:B.H0 a=none)(P:H a=some (.lst vs))(x:RWs B.K F us h):RS B (σ.set i<|.ow us) σV F (upd H a<|.lst h):=by
 have r:i<σ.length:=(aoa.mp e).1;refine⟨⟨λb u q=>by rw[ai ((λb o q z=>by subst z;rw[s]at q;cases q) b u q)];exact R.rb.sub b u q,λb u q=>by
  have f:b≠a:=λz=>by subst z;rw[v]at q;cases q
  rw[ai f];exact R.rb.base b u q,R.rb.fz0,R.rb.fr⟩,by simp[R.len],λj w q=>?_,λj d q=>?_,λj k d M b l A N O G=>?_,by
 have y:=R.ai2 (H':=upd H a<|.lst h) i (sl:=.ow us) (λz=>z) (some<|.ref a) (aB.refl _) λ_ _ _ b S _ _ _ p D=>⟨D,by
   have f:b≠a:=λz=>by subst z;rw[P]at p;cases p
   rw[ai f];exact p⟩;rwa[set_same m]at y⟩
 .by_cases c:i=j;.subst c;rw[aof r]at q;cases q
  .rw[an3 c]at q;exact R.va j w q
 .by_cases c:i=j;.subst c;rw[aof r]at q;cases q;exact adJ a h m s v aj x
  .rw[an3 c]at q;refine pE (R.ow j d q) λb g t Q E J C=>?_;have f:b≠a:=λz=>by subst z;exact R.ap i j ws d b c e q m t
   exact adJ b g t Q E (by rw[ai f];exact J) C
 .have back:∀{j:Nat}{d:List VW},(σ.set i<|.ow us)[j]?=some (.ow d)->∃g,σ[j]?=some (.ow g):=λ{j d}q=>by
   by_cases c:i=j;.subst c;exact⟨ws,e⟩
   .rw[an3 c]at q;exact⟨d,q⟩
  obtain⟨g,I⟩:=back A;obtain⟨n,K⟩:=back N;exact R.ap j k g n b l I K O G
def RS.am6(R:RS B σ σV F H){i:Nat}{sl:Sl}{a:Addr}{o:HO}{w:VW}(e:σ[i]?=some sl)(A:σV[i]?=some (some<|.ref a))(C:F a=none)(T:B.H0 a=none)(Y:H a=some o)(N:NF o)(hw:RW B.K (upd F a o) w (.ref a))(E:∀(j:Nat)(ws:List VW),i≠j->σ[j]?=some (.ow ws)->σV[j]?≠some (some<|.ref a))(S:∀(j:Nat)(n r:List VW),i≠j->σ[j]?=some (.od n r)->σV[j]?≠some (some<|.ref a)):RS B (σ.set i<|.va w) σV (upd F a o) H:=by
 have f:i<σ.length:=(aoa.mp e).1;have s:aB F (upd F a o):=av C _;refine⟨⟨λb u q=>?_,R.rb.base,R.rb.fz0.trans s,λb u q=>?_⟩,by simp[R.len],λj w' q=>?_,λj l q=>?_,λj k l y b p g m X J=>?_,by
 have D:=R.ai2 i (sl:=.va w) (λz=>z) (some<|.ref a) s λj n r b a0 c I U M G=>⟨by
  have t:b≠a:=λz=>by subst z;exact S j n r c I U
  rw[ai t];exact G,M⟩;rwa[set_same A]at D⟩
 .by_cases d:b=a;.subst d;rw[aj]at q;cases q;exact Y
  .rw[ai d]at q;exact R.rb.sub b u q
 .by_cases d:b=a;.subst d;rw[aj]at q;cases q;exact .inr ⟨T,N⟩
  .rw[ai d]at q;exact R.rb.fr b u q
 .by_cases c:i=j;.subst c;rw[aof f]at q;cases q;exact⟨.ref a,A,hw⟩
  .rw[an3 c]at q;obtain⟨v,h,x⟩:=R.va j w' q;exact⟨v,h,x.keep s⟩
 .by_cases c:i=j;.subst c;rw[aof f]at q;cases q
  .rw[an3 c]at q;obtain⟨b,P,h,x,g3,O,Q⟩:=R.ow j l q;have t:b≠a:=λz=>by subst z;exact E j l c q h
   exact⟨b,P,h,by rw[ai t];exact x,g3,O,Q.keep s⟩
 .have Z:i≠j:=λz=>by subst z;rw[aof f]at g;cases g
  have K:i≠k:=λz=>by subst z;rw[aof f]at m;cases m
  rw[an3 Z]at g;rw[an3 K]at m;exact R.ap j k l y b p g m X J
def Ow1:HO->Prop|.lst _=>True|.dK _=>True|_=>False
theorem RS.frz(R:RS B σ σV F H)(i):∃s,aB F s/\RS B (WL.frz i σ) σV s H/\(s=F/\WL.frz i σ=σ\/∃a o w,s=upd F a o/\Ow1 o/\F a=none/\WL.frz i σ=σ.set i (.va w)/\σV[i]?=some (some<|.ref a)/\H a=some o/\B.H0 a=none):=by cases e:σ[i]? with
|none=>
 have c:WL.frz i σ=σ:=by unfold WL.frz;rw[e]
 rw[c];exact⟨F,aB.refl _,R,.inl ⟨rfl,rfl⟩⟩
|some sl=>cases sl with|no=>
  have c:WL.frz i σ=σ:=by unfold WL.frz;rw[e]
  rw[c];exact⟨F,aB.refl _,R,.inl ⟨rfl,rfl⟩⟩|va w=>
  have c:WL.frz i σ=σ:=by unfold WL.frz;rw[e]
  rw[c];exact⟨F,aB.refl _,R,.inl ⟨rfl,rfl⟩⟩|ob=>
  have c:WL.frz i σ=σ:=by unfold WL.frz;rw[e]
  rw[c];exact⟨F,aB.refl _,R,.inl ⟨rfl,rfl⟩⟩|ow ws=>
  have c:WL.frz i σ=σ.set i (.va<|.lst ws):=by unfold WL.frz;rw[e]
  rw[c];obtain⟨a,x,g,d,p,f,u⟩:=R.ow i ws e;refine⟨upd F a<|.lst x,av d _,R.am6 e g d p f trivial (by simp only[RW];exact⟨a,x,rfl,SqL.of aj,u.keep<|av d _⟩) (λj v m q z=>R.ap i j ws v a m e q g z) λj n h m q z=>?_,.inr ⟨a,_,_,rfl,trivial,d,rfl,g,f,p⟩⟩;obtain⟨b,r,k,_,_,l,_⟩:=R.dd.od j n h q;rw[z]at k;cases k;rw[f]at l;cases l|od n h=>
  have c:WL.frz i σ=σ.set i (.va<|.dic n h):=by unfold WL.frz;rw[e]
  rw[c];obtain⟨a,r,g,d,p,f,u,A⟩:=R.dd.od i n h e;refine⟨_,av d _,R.am6 e g d p f trivial (by simp only[RW];exact⟨a,r,rfl,.inl aj,u.keep<|av d _,A.keep<|av d _⟩) (λj v m q z=>?_) λj y t m q z=>R.dd.ad i j n h y t a m e q g z,.inr ⟨a,_,_,rfl,trivial,d,rfl,g,f,p⟩⟩;obtain⟨b,x,k,_,_,l,_⟩:=R.ow j v q;rw[z]at k;cases k;rw[f]at l;cases l
def RS.anI(R:RS B σ σV F H){i:Nat}{ks us:List VW}{m:List (Key×V)}{a:Addr}(C:F a=none)(I:B.H0 a=none)(J:H a=some (.dK m))(hk:RWs B.K F ks (m.map λp=>kV p.1))(y:RWs B.K F us (m.map λp=>p.2))(x:∀(j:Nat)(r o:List VW),j≠i->σ[j]?=some (.od r o)->σV[j]?≠some (some<|.ref a)):RS B (σ.set i<|.od ks us) (σV.set i<|some<|.ref a) F H:=by
 have D:=R.len;have c:∀{j:Nat}{t:Sl},(σ.set i<|.od ks us)[j]?=some t->i=j->t=.od ks us/\(σV.set i<|some<|V.ref a)[j]?=some (some<|.ref a):=λ{j t}e z=>by
  subst z;have A:i<σ.length:=by have:=(aoa.mp e).1;simpa using this
  rw[aof A]at e;exact⟨(aow e).symm,aof<|by omega⟩
 refine⟨R.rb,by simp[D],λj u e=>?_,λj w e=>?_,λj k w v b l h g q n=>?_,λj r o e=>?_,λj k G us1 E us2 b l h g q n=>?_,λj e=>?_⟩
 .by_cases d:i=j;.cases(c e d).1
  .rw[an3 d]at e⊢;exact R.va j u e
 .by_cases d:i=j;.cases(c e d).1
  .rw[an3 d]at e⊢;exact R.ow j w e
 .have K:i≠j:=λz=>by cases(c h z).1
  have M:i≠k:=λz=>by cases(c g z).1
  rw[an3 K]at h q;rw[an3 M]at g n;exact R.ap j k w v b l h g q n
 .by_cases d:i=j;.obtain⟨h,g⟩:=c e d;cases h;exact⟨a,m,g,C,I,J,hk,y⟩
  .rw[an3 d]at e⊢;exact R.dd.od j r o e
 .by_cases d:i=j;.have s:=(c h d).2;rw[q]at s;cases s;have f:i≠k:=λz=>l<|d.symm.trans z;rw[an3 f]at g n;exact x k _ _ (aom f) g n
  .rw[an3 d]at h q;by_cases f:i=k;.have s:=(c g f).2;rw[n]at s;cases s;exact x j _ _ (aom d) h q
   .rw[an3 f]at g n;exact R.dd.ad j k _ _ _ _ b l h g q n
 .have d:i≠j:=λz=>by cases(c e z).1
  rw[an3 d]at e⊢;exact R.dd.ob j e
def RS.agM(R:RS B σ σV F H){i:Nat}{ks us f us2:List VW}{M d:List (Key×V)}{a:Addr}(e:σ[i]?=some (.od ks us))(O:σV[i]?=some (some<|.ref a))(N:F a=none)(P:B.H0 a=none)(hH:H a=some (.dK M))(hk:RWs B.K F f (d.map λp=>kV p.1))(Q:RWs B.K F us2 (d.map λp=>p.2)):RS B (σ.set i<|.od f us2) σV F (upd H a<|.dK d):=by
 have h:i<σ.length:=(aoa.mp e).1;have S:∀b o,F b=some o->b≠a:=λb o q z=>by subst z;rw[N]at q;cases q
 refine⟨⟨λb u q=>by rw[ai (S b u q)];exact R.rb.sub b u q,λb u q=>by
 have r:b≠a:=λz=>by subst z;rw[P]at q;cases q
 rw[ai r];exact R.rb.base b u q,R.rb.fz0,R.rb.fr⟩,by simp[R.len],λj w q=>?_,λj G q=>?_,λj k G E b g l m I A=>?_,λj J D q=>?_,λj k U us1 T us3 b g l m I A=>?_,λj q=>?_⟩
 .by_cases c:i=j;.subst c;rw[aof h]at q;cases q
  .rw[an3 c]at q;exact R.va j w q
 .by_cases c:i=j;.subst c;rw[aof h]at q;cases q
  .rw[an3 c]at q;obtain⟨b,C,s,K,v,n,t⟩:=R.ow j G q;have r:b≠a:=λz=>by subst z;rw[hH]at n;cases n
   exact⟨b,C,s,K,v,by rw[ai r];exact n,t⟩
 .have n1:i≠j:=λz=>by subst z;rw[aof h]at l;cases l
  have n2:i≠k:=λz=>by subst z;rw[aof h]at m;cases m
  rw[an3 n1]at l;rw[an3 n2]at m;exact R.ap j k G E b g l m I A
 .by_cases c:i=j;.subst c;rw[aof h]at q;cases q;exact⟨a,d,O,N,P,aj,hk,Q⟩
  .rw[an3 c]at q;obtain⟨b,C,s,K,v,n,t⟩:=R.dd.od j J D q;have r:b≠a:=λz=>by subst z;exact R.dd.ad i j _ _ _ _ b c e q O s
   exact⟨b,C,s,K,v,by rw[ai r];exact n,t⟩
 .have back:∀{j:Nat}{x y:List VW},(σ.set i<|.od f us2)[j]?=some (.od x y)->∃Y y',σ[j]?=some (.od Y y'):=λ{j x y}q=>by
   by_cases c:i=j;.subst c;exact⟨_,_,e⟩
   .rw[an3 c]at q;exact⟨_,_,q⟩
  obtain⟨_,_,X⟩:=back l;obtain⟨_,_,Z⟩:=back m;exact R.dd.ad j k _ _ _ _ b g X Z I A
 .have c:i≠j:=λz=>by subst z;rw[aof h]at q;cases q
  rw[an3 c]at q;exact R.dd.ob j q
end
end WS
set_option autoImplicit true
set_option relaxedAutoImplicit true
namespace WS
open PySem PySem.Spec PyProof.Rows L2
open WL(Res Sl Ws EF TF AF LF GF GsF SF Out OX RF Tw)
section
variable{X:Cx}{e:Expr}{es:List Expr}{st:Stmt}{sts:List Stmt}
def PE.imp{t t'}(h:PE X e t)(f:∀a H Q,t' a H Q->t a H Q):PE X e t':=λb s a H Q I q=>h _ s a H Q I<|f a H Q q
def PT.imp{t t'}(h:PT X e t)(f:∀a H Q,t' a H Q->t a H Q):PT X e t':=λb s a H Q I q=>h _ s a H Q I<|f a H Q q
def PW.imp{t t'}(h:PW X e t)(f:∀a H Q,t' a H Q->t a H Q):PW X e t':=λc b s a H Q I q=>h _ _ s a H Q I<|f a H Q q
def PA.imp{t t'}(h:PA X es t)(f:∀a H Q,t' a H Q->t a H Q):PA X es t':=λc b s a H Q I q=>h _ _ s a H Q I<|f a H Q q
def PS.imp{t t'}(h:PS X st t)(f:∀D a H,t' D a H->t D a H):PS X st t':=λb s a H D I q=>h _ s a H D I<|f D a H q
def PSs.imp{t t'}(h:PSs X sts t)(f:∀D a H,t' D a H->t D a H):PSs X sts t':=λb s a H D I q=>h _ s a H D I<|f D a H q
def PG.imp{t t'}(h:PG X e t)(f:∀v a H Q,t' v a H Q->t v a H Q):PG X e t':=λb s a H v u Q I r q=>h _ s a H v u Q I r<|f v a H Q q
def PGs.imp{t t'}(h:PGs X es t)(f:∀v a H Q,t' v a H Q->t v a H Q):PGs X es t':=λb s a H v u Q I r q=>h _ s a H v u Q I r<|f v a H Q q
def PI.imp{c t t'}(h:PI X c e t)(f:∀a H Q,t' a H Q->t a H Q):PI X c e t':=λb s a H Q I q=>h _ s a H Q I<|f a H Q q
def PO.imp{o t t'}(h:PO X o t)(f:∀a H Q,t' a H Q->t a H Q):PO X o t':=λb s a H Q I q=>h _ s a H Q I<|f a H Q q
end
def Rq(B:Bx)(σ:Ws)(F:Hp){b}(r:Res b)(k:b->Prop):Prop:=match r with|.ok a=>k a|.ex c=>B.xp c σ F|.bad=>False
theorem Rq.mono{B σ F b d r}{k k':d->Prop}(s:aB F b)(h:Rq B σ F r k)(f:∀a,k a->k' a):Rq B σ b r k':=by cases r with|ok a=>exact f a h|ex c=>exact B.mono c σ F _ s h|bad=>exact h
theorem Rq.bind{B σ F b d r}{g:b->Res d}{k}(h:Rq B σ F (r.bind g) k):Rq B σ F r λa=>Rq B σ F (g a) k:=by cases r with|ok a|ex c|bad=>exact h
def lo(B:Bx)(t:EF):TE:=λa H Q=>∃b F,RS B b a F H/\Rq B b F (t b) λw=>∀v c d,RS B b a d c->Gr F H d c->RW B.K d w v->Q v c
def loT(B:Bx)(t:TF):TT:=λa H Q=>∃c F,RS B c a F H/\Rq B c F (t c) λb=>∀d e,RS B c a e d->Gr F H e d->Q b d
def loA(B:Bx)(t:AF):TA:=λa H Q=>∃b F,RS B b a F H/\Rq B b F (t b) λws=>∀e c d,RS B b a d c->Gr F H d c->RWs B.K d ws e->Q e c
def loO(B:Bx)(t:Ws->Res (Option Int)):TO:=λa H Q=>∃b F,RS B b a F H/\Rq B b F (t b) λo=>∀c d,RS B b a d c->Gr F H d c->Q o c
def loL(B:Bx)(t:LF):TE:=λb H Q=>∃c F,RS B c b F H/\Rq B c F (t c) λws=>∀a f d e,RS B c b e d->Gr F H e d->e a=none->B.H0 a=none->d a=some (.lst f)->RWs B.K e ws f->(∀(j:Nat)(g:List VW),c[j]?=some (.ow g)->b[j]?≠some (some<|.ref a))->Q (.ref a) d
structure Gm(m:Bool)(F H F' H':Hp):Prop where
 f:aB F F'
 nf:∀a o,H a=some o->F a=none->F' a=none
 th:∀a o,H a=some o->∃o',H' a=some o'
 h:m=true->aB H H'
theorem Gm.refl{m F H}:Gm m F H F H:=⟨aB.refl _,λ_ _ _ z=>z,λ_ o e=>⟨o,e⟩,λ_=>aB.refl _⟩
theorem Gm.trans{m F H f d h i}(a:Gm m F H f d)(b:Gm m f d h i):Gm m F H h i:=⟨a.f.trans b.f,λx o e z=>by obtain⟨j,c⟩:=a.th x o e;exact b.nf x _ c<|a.nf x o e z,λx o e=>by obtain⟨j,c⟩:=a.th x o e;exact b.th x _ c,λg=>(a.h g).trans<|b.h g⟩
def loG(m:Bool)(B:Bx)(g:GF):TG:=λv d H Q=>∃c F w,RS B c d F H/\RW B.K F w v/\Rq B c F (g w c) λb=>∀a e f,RS B b a f e->Gm m F H f e->Q a e
def ajR(m:Bool)(B:Bx)(g:GsF):TGs:=λh d H Q=>∃c F ws,RS B c d F H/\RWs B.K F ws h/\Rq B c F (g ws c) λb=>∀a e f,RS B b a f e->Gm m F H f e->Q a e
def Oq(B:Bx)(D:Ends)(F:Hp)(o:Out):Prop:=match o with|.nx σ'=>∀a d b,RS B σ' a b d->aB F b->D.nx a d|.bk σ'=>∀a d b,RS B σ' a b d->aB F b->D.bk a d|.ct σ'=>∀a d b,RS B σ' a b d->aB F b->D.ct a d|.rt w=>∀v d b,RB B b d->aB F b->RW B.K b w v->D.rt v d|.ex c σ'=>B.xp c σ' F|.bad=>False
def loS(B:Bx)(t:SF):TS:=λD a H=>∃b F,RS B b a F H/\Oq B D F (t b)
theorem Oq.mono{B D F a o}(s:aB F a)(h:Oq B D F o):Oq B D a o:=by cases o with|nx σ|bk σ|ct σ|rt w=>exact λb H G R z=>h _ H G R<|s.trans z|ex c σ=>exact B.mono c σ F _ s h|bad=>exact h
theorem Oq.ofR    (h:Oq B D F (WL.ofR σ r f)):Rq B σ F r λa=>Oq B D F (f a):=by cases r with|ok a|ex c|bad=>exact h
def Eq1(F H:Hp)(K:W.Frag)(r:Res VW)(Q:VK):Prop:=match r with|.ok w=>∀v b a,Ext F H b a->RW K b w v->Q v a|_=>False
def lo2(K:W.Frag)(r:VW->VW->Res VW):R2:=λx y H Q=>∃F wx a,aB F H/\RW K F wx x/\RW K F a y/\Eq1 F H K (r wx a) Q
def lo1(K:W.Frag)(r:VW->Res VW):V->Hp->VK->Prop:=λx H Q=>∃F wx,aB F H/\RW K F wx x/\Eq1 F H K (r wx) Q
def loN(K:W.Frag)(r:List VW->Res VW):List V->Hp->VK->Prop:=λa H Q=>∃F ws,aB F H/\RWs K F ws a/\Eq1 F H K (r ws) Q
def Calm(r:VW->VW->Res VW):Prop:=∀x y c,r x y≠.ex c
def OpR.imp{X f r b}(h:OpR X f r)(g:∀x y H Q,b x y H Q->r x y H Q):OpR X f b:=λa s e H x y v u Q I c d q=>h _ s e H x y v u Q I c d<|g x y H Q q
def UnR.imp{X f r b}(h:UnR X f r)(g:∀x H Q,b x H Q->r x H Q):UnR X f b:=λa s c H x v Q I d q=>h _ s c H x v Q I d<|g x H Q q
def bC.imp{X f r c}(h:bC X f r)(g:∀a H Q,c a H Q->r a H Q):bC X f c:=λb s d H a i Q I e q=>h _ s d H _ _ Q I e<|g _ H Q q
def IxR.imp{X r d}(h:IxR X r)(g:∀x y H Q,d x y H Q->r x y H Q):IxR X d:=λa b c s j H x y v u Q I f i q e=>h _ _ _ s j H x y v u Q I f i (g x y H Q q) e
def SlR.imp{X r e}(h:SlR X r)(g:∀x a b H Q,e x a b H Q->r x a b H Q):SlR X e:=λd s i H x v k l lo j m Q I f a b c q=>h _ s i H x v _ _ _ _ _ Q I f a b c<|g x _ _ H Q q
section
variable{X:Cx}{B:Bx}{e a b c:Expr}{es:List Expr}{pos:Pos}{ta tb tc:EF}{K:W.Frag}
set_option tactic.hygienic true in
def agQ{i}(h:PE X e (kQ i)):PE X e (lo B<|WL.ah i):=PE.imp h λf H Q d=>by
 refine eG d λj F R q=>?_;simp [WL.ah]at q;split at q;.rename_i w e;obtain⟨v,g,r⟩:=R.va i w e;exact⟨v,g,q v H F R Gr.refl r⟩
 .exact q.elim
def aeK (h:PE X e (tC v))(r:∀F,RW B.K F w v):PE X e (lo B<|WL.eC w):=PE.imp h λf H Q d=>by obtain⟨g,F,R,q⟩:=d;exact q v H F R Gr.refl<|r F
def af{i j pos}:PE X (.Constant (.int i) j pos) (lo B<|WL.eC<|.int i):=aeK ad8 λ_=>rfl
def nS{i j pos}:PE X (.Constant (.bool i) j pos) (lo B<|WL.eC<|.bl i):=aeK alb λ_=>rfl
def dv{j pos}:PE X (.Constant .none j pos) (lo B<|WL.eC .non):=aeK ahU λ_=>rfl
def ar{x j pos}:PE X (.Constant (.str x) j pos) (lo B<|WL.eC<|.str x):=aeK jS λ_=>rfl
def acK (cm:Calm r)(f:∀x y H Q,lo2 B.K r x y H Q->rV x y H Q):∀d H Q,lo B (WL.eOp r ta tb) d H Q->tOp rV (lo B ta) (lo B tb) d H Q:=by intro d H Q⟨h,F,R,q⟩;have q:=Rq.bind q;refine fv h F R (Rq.mono (aB.refl _) q λx l v1 z p k i m=>fv h p k<|Rq.mono i.f (Rq.bind l) λy g v2 A s R2 j o=>f _ _ _ _<|vW s x y R2.rb.sub (m.keep j.f) o ?_);cases e:r x y with|ok w=>rw[e]at g;exact λv u t E n=>g v _ _ (E.rs B h _ R2) ((i.trans j).trans E.gr) n|ex c=>exact(cm x y c e).elim|bad=>rw[e]at g;exact g
def aJ (cm:Calm r)(h:OpR X (binaryOp op) (lo2 B.K r))(f:PE X a (lo B ta))(d:PE X b (lo B tb)):PE X (.BinOp a op b pos) (lo B<|WL.eOp r ta tb):=PE.imp (ala h f d) (acK cm λ_ _ _ _ q=>q)
def iz (cm:Calm r)(h:OpR X (compareOp op) (lo2 B.K r))(g:PE X a (lo B ta))(d:PE X b (lo B tb))(f:behindInMarks op b=false):PE X (.Compare a [op] [b] pos) (lo B<|WL.eOp r ta tb):=PE.imp (aft h g d f) (acK cm λ_ _ _ _ q=>q)
def agR (cm:Calm r)(h:IxR X (lo2 B.K r))(f:PE X a (lo B ta))(d:PE X b (lo B tb))(hs:jI b):PE X (.Subscript a b pos) (lo B<|WL.eOp r ta tb):=PE.imp (ahV h f d hs) (acK cm λ_ _ _ _ q=>q)
def g7 (cm:∀x c,r x≠.ex c)(h:UnR X (unaryOp op) (lo1 B.K r))(j:PE X a (lo B ta)):PE X (.UnaryOp op a pos) (lo B<|WL.eUn r ta):=PE.imp (ak8 h j) λo H Q f=>by refine eG f λi F R q=>?_;have q:=Rq.bind q;refine⟨i,F,R,Rq.mono (aB.refl _) q λx d v1 t n g k l=>⟨n,x,g.rb.sub,l,?_⟩⟩;cases e:r x with|ok w=>rw[e]at d;exact λv s p E m=>d v _ _ (E.rs B i _ g) (k.trans E.gr) m|ex c=>exact(cm x c e).elim|bad=>rw[e]at d;exact d
def zJ:∀d H Q,loT B (WL.tB t) d H Q->aha (lo B t) d H Q:=by
 intro d H Q⟨g,F,R,q⟩;have q:=Rq.bind q;refine fv g F R (Rq.mono (aB.refl _) q λx f v1 k l h i j=>?_);cases x<;>first|exact f.elim|skip
 exact⟨_,j,f _ _ h i⟩
def bo (cm:Calm r)(h:OpR X (compareOp op) (lo2 B.K r))(f:PE X a (lo B ta))(d:PE X b (lo B tb))(i:behindInMarks op b=false):PT X (.Compare a [op] [b] pos) (loT B<|WL.tB<|WL.eOp r ta tb):=PT.imp (afi h f d i) λg H Q q=>acK cm (λ_ _ _ _ q=>q) _ H _<|zJ _ H Q q
def fQ (h:PE X e (lo B t))(f:∀d,isTrue e X.env d=(do let v <-d;standAt e.pos;holding [v] (truthy v)):=by intro _;rfl):PT X e (loT B<|WL.tB t):=PT.imp (ahD h f) zJ
def acN (cm:Calm r)(o:Calm r'):∀d H Q,lo B (WL.nv r r' ta tb tc) d H Q->adQ (lo2 B.K r) (lo2 B.K r') (lo B ta) (lo B tb) (lo B tc) d H Q:=by intro d H Q⟨f,F,R,q⟩;have q:=Rq.bind q;refine fv f F R (Rq.mono (aB.refl _) q λx p v1 Y T E m G=>?_);have p:=Rq.bind p;refine fv f T E (Rq.mono m.f p λy i v2 H2 N R2 l s=>?_);refine vW N x y R2.rb.sub (G.keep l.f) s ?_;unfold Eq1;cases e:r x y with|ex c=>exact(cm x y c e).elim|bad=>rw[e]at i;exact i|ok z=>rw[e]at i;intro v3 A P g S;have h:=i;cases z with
 |bl k=>refine⟨k,S,?_⟩;cases k with|false=>exact h (.bl false) P A (g.rs B f d R2) ((m.trans l).trans g.gr) (by simp[RW])|true=>have h:=Rq.bind (show Rq B f F ((tc f).bind λw=>r' y w) _ from h);refine fv f A (g.rs B f d R2) (Rq.mono ((m.trans l).trans g.gr).f h λw j v4 Z O C t M=>?_);refine vW O y w C.rb.sub ((s.keep g.same).keep t.f) M ?_;unfold Eq1;cases n:r' y w with|ex c=>exact(o y w c n).elim|bad=>rw[n]at j;exact j|ok u=>rw[n]at j;exact λv I U D J=>j v U I (D.rs B f d C) ((((m.trans l).trans g.gr).trans t).trans D.gr) J
 |_=>exact h.elim
def uo (cm:Calm r)(d:Calm r')(k:OpR X (compareOp op) (lo2 B.K r))(f:OpR X (compareOp op') (lo2 B.K r'))(h:PE X a (lo B ta))(g:PE X b (lo B tb))(i:PE X c (lo B tc))(j:lastMarks [op,op'] [b,c]=false:=by with_unfolding_all rfl):PE X (.Compare a [op,op'] [b,c] pos) (lo B<|WL.nv r r' ta tb tc):=PE.imp (aco k f h g i j)<|acN cm d
variable{uA uB:TF}{rest:List Expr}
def nM(d:PT X a (loT B uA)):PW X (.BoolOp .And [a] pos) (loT B uA):=aff d
def pG(d:PT X a (loT B uA)):PW X (.BoolOp .Or [a] pos) (loT B uA):=ahA d
def uh(j:PT X a (loT B uA))(k:PW X (.BoolOp .And (b::rest) pos) (loT B uB)):PW X (.BoolOp .And (a::b::rest) pos) (loT B<|WL.abo uA uB):=PW.imp (ahB j k) λn H Q f=>by refine eG f λi F R q=>?_;have q:=Rq.bind q;refine⟨i,F,R,Rq.mono (aB.refl _) q λx h p m g d=>?_⟩;cases x with|true=>exact⟨i,m,g,Rq.mono d.f h λb o s r R2 l=>o _ _ R2<|d.trans l⟩|false=>exact h _ _ g d
def vY(j:PT X a (loT B uA))(k:PW X (.BoolOp .Or (b::rest) pos) (loT B uB)):PW X (.BoolOp .Or (a::b::rest) pos) (loT B<|WL.tOr uA uB):=PW.imp (ak2 j k) λn H Q f=>by refine eG f λi F R q=>?_;have q:=Rq.bind q;refine⟨i,F,R,Rq.mono (aB.refl _) q λx h p m g d=>?_⟩;cases x with|false=>exact⟨i,m,g,Rq.mono d.f h λb o s r R2 l=>o _ _ R2<|d.trans l⟩|true=>exact h _ _ g d
def mJ(f:PT X a (loT B uA)):PT X (.UnaryOp .Not a pos) (loT B<|WL.yy uA):=PT.imp (ahE f) λh H Q d=>by obtain⟨g,F,R,q⟩:=d;have q:=Rq.bind q;exact⟨g,F,R,Rq.mono (aB.refl _) q λx i=>i⟩
def kB{op}(h:PE X a (lo B ta)):PE X (.BoolOp op [a] pos) (lo B ta):=ahS h
def jK(j:PE X a (lo B ta))(m:PE X (.BoolOp .And (b::rest) pos) (lo B tb)):PE X (.BoolOp .And (a::b::rest) pos) (lo B<|WL.xl ta tb):=PE.imp (ahW j m) λr H Q g=>by refine eG g λi F R q=>?_;have q:=Rq.bind q;refine fv i F R (Rq.mono (aB.refl _) q λx f v t p h d l=>?_);cases x with
|bl k=>refine⟨k,l,?_⟩;cases k with|true=>exact fv i p h (Rq.mono d.f f λb s v2 w u R2 n o=>s _ _ _ R2 (d.trans n) o)|false=>exact f _ _ _ h d (rfl)
|_=>exact f.elim
def um(g:PE X a (lo B ta)):PE X (.UnaryOp .Not a pos) (lo B<|WL.aet ta):=PE.imp (ahT g) λm H Q d=>by refine eG d λl F R q=>?_;have q:=Rq.bind q;refine⟨l,F,R,Rq.mono (aB.refl _) q λx f v n o h i j=>?_⟩;cases x with|bl k=>exact⟨k,j,f _ _ _ h i<|rfl⟩|_=>exact f.elim
def aeJ(n:PT X c (loT B uA))(h:PE X a (lo B ta))(k:PE X b (lo B tb)):PE X (.IfExp c a b pos) (lo B<|WL.eIf uA ta tb):=PE.imp (acm n h k) λp H Q d=>by refine eG d λg F R q=>?_;have q:=Rq.bind q;refine fv g F R (Rq.mono (aB.refl _) q λx j s o i f=>?_);cases x with|true|false=>exact⟨g,o,i,Rq.mono f.f j λb r v2 u t R2 l m=>r _ _ _ R2 (f.trans l) m⟩
variable{tas:AF}
def aM:PA X [] (loA B WL.ao):=PA.imp bY λf H Q d=>by obtain⟨g,F,R,q⟩:=d;exact q _ H F R Gr.refl<|rfl
def afK:∀d H Q,loA B (WL.aa ta tas) d H Q->hU (lo B ta) (loA B tas) d H Q:=λd H Q h=>by refine eG h λk F R q=>?_;have q:=Rq.bind q;refine fv k F R (Rq.mono (aB.refl _) q λx g v s o l i m=>?_);have g:=Rq.bind g;exact fv k o l (Rq.mono i.f g λp f r u t R2 j n=>f _ _ _ R2 (i.trans j)<|.cons (m.keep j.f) n)
def ae(d:PE X e (lo B ta))(f:PA X es (loA B tas))(hs:SE X e es:=by rfl):PA X (e::es) (loA B<|WL.aa ta tas):=PA.imp (aU d f hs) afK
def gZ:WL.lim<=sizeLine:=by decide
def aQ{m}(h:PA X es (loA B tas)):PE X (.Tuple es m pos) (lo B<|WL.dB tas):=PE.imp (ahQ h) λs H Q j=>by
 refine eG j λr F R q=>?_;have q:=Rq.bind q;refine⟨r,F,R,Rq.mono (aB.refl _) q λn d o t u g l k=>?_⟩;by_cases i:n.length<=WL.lim;.rw[an4 i]at d;exact⟨by rw[<-k.length];exact aoh i gZ,λp f=>d _ _ _ (g.new f _) (l.trans<|Gr.new (g.rb.sub.free f) f _)<|by exact i5 p o rfl (SqT.of aj)<|k.keep<|av (g.rb.sub.free f) _⟩
 .rw[an5 i]at d;exact d.elim
def aio:∀d H Q,lo B (WL.e8 tas) d H Q->ahg (loA B tas) d H Q:=λd H Q j=>by
 refine eG j λo F R q=>?_;have q:=Rq.bind q;refine⟨o,F,R,Rq.mono (aB.refl _) q λm f n r s h l k=>?_⟩;by_cases i:m.length<=WL.lim;.rw[an4 i]at f;exact⟨by rw[<-k.length];exact aoh i gZ,λp g=>f _ _ _ (h.new g _) (l.trans<|Gr.new (h.rb.sub.free g) g _)<|by exact i5 p n rfl (SqL.of aj)<|k.keep<|av (h.rb.sub.free g) _⟩
 .rw[an5 i]at f;exact f.elim
def aY(h:PA X es (loA B tas)):PE X (.List es pos) (lo B<|WL.e8 tas):=PE.imp (qp h) aio
def amX{σ d F l k xs vs p}{Q:VK}(g:RS B σ d l k){H}(r:Gr F H l k)(s:RWs B.K l xs vs)(f:k p=none)(q:∀a vs h i,RS B σ d i h->Gr F H i h->i a=none->B.H0 a=none->h a=some (.lst vs)->RWs B.K i xs vs->(∀(j:Nat)(m:List VW),σ[j]?=some (.ow m)->d[j]?≠some (some<|.ref a))->Q (.ref a) h):Q (.ref p) (upd k p<|.lst vs):=q p _ _ _ (g.aif f _) (r.trans ⟨aB.refl _,av f _,λ_ _ _ z=>z⟩) (g.rb.sub.free f) (g.rb.base.free f) aj s λj m e z=>by refine pE (g.ow j _ e) λa v o w u n t=>?_;rw[z]at o;cases o;rw[f]at n;cases n
def mK(h:PA X es (loA B tas)):PE X (.List es pos) (loL B<|WL.acW tas):=PE.imp (qp h) λn H Q g=>by
 refine eG g λm F R q=>?_;have q:=Rq.bind q;refine⟨m,F,R,Rq.mono (aB.refl _) q λl d r s t j k i=>?_⟩;by_cases f:l.length<=WL.lim;.rw[an4 f]at d;exact⟨by rw[<-i.length];exact aoh f gZ,λp o=>amX j k i o d⟩
 .rw[an5 f]at d;exact d.elim
def alD (cm:∀g c,r g≠.ex c):∀d H Q,lo B (WL.eBi r tas) d H Q->tCB (loN B.K r) (loA B tas) d H Q:=by intro d H Q⟨i,F,R,q⟩;have q:=Rq.bind q;refine fv i F R (Rq.mono (aB.refl _) q λg f p s m h j k=>⟨m,g,h.rb.sub,k,?_⟩);cases e:r _ with|ok w=>rw[e]at f;exact λv o n E l=>f v _ _ (E.rs B i _ h) (j.trans E.gr) l|ex c=>exact(cm _ c e).elim|bad=>rw[e]at f;exact f
def agV (cm:∀d c,r d≠.ex c)(h:PE X e (tCB (loN B.K r)<|loA B tas)):PE X e (lo B<|WL.eBi r tas):=PE.imp h<|alD cm
def dE:PO X none (loO B WL.pNo):=PO.imp afo λf H Q d=>by obtain⟨g,F,R,q⟩:=d;exact q H F R Gr.refl
def cS(h:PE X e (lo B ta)):PO X (some e) (loO B<|WL.en ta):=PO.imp (afn h) λm H Q d=>by refine eG d λl F R q=>?_;have q:=Rq.bind q;refine⟨l,F,R,Rq.mono (aB.refl _) q λx f v n o g j k=>?_⟩;cases x with|int i=>exact⟨i,k,f _ _ g j⟩|_=>exact f.elim
def am0(K:W.Frag):V->Option Int->Option Int->Hp->VK->Prop:=λx l h H Q=>∃F wx,aB F H/\RW K F wx x/\Eq1 F H K (WL.oSl wx l h) Q
variable{l u:Option Expr}{tl tu:Ws->Res (Option Int)}{p2:Pos}
def i9(M:SlR X (am0 B.K))(I:PE X e (lo B ta))(t:PO X l (loO B tl))(p:PO X u (loO B tu)):PE X (.Subscript e (.Slice l u none p2) pos) (lo B<|WL.eSl ta tl tu):=PE.imp (ach M I t p) λm H Q i=>by refine eG i λg F R q=>?_;have q:=Rq.bind q;refine fv g F R (Rq.mono (aB.refl _) q λx J v O N s k y=>fv g N s<|Rq.mono k.f (Rq.bind J) λlo h P C R2 j=>?_);refine fv g C R2 (Rq.mono (k.trans j).f (Rq.bind h) λr d S G n o=>?_);refine⟨G,x,n.rb.sub,(y.keep j.f).keep o.f,?_⟩;cases f:WL.oSl x lo r with|ok w=>rw[f]at d;exact λv D z E A=>d v z D (E.rs B g m n) (((k.trans j).trans o).trans E.gr) A|ex c=>cases x<;>simp[WL.oSl]at f;split at f<;>cases f|bad=>rw[f]at d;exact d
def lend  (R:RS B σ σV F H)(x:Hp)(S:aB F x)(M:x=F/\WL.frz i σ=σ\/∃a o w,x=upd F a o/\Ow1 o/\F a=none/\WL.frz i σ=σ.set i (.va w)/\σV[i]?=some (some<|.ref a)/\H a=some o/\B.H0 a=none)(R2:RS B (WL.frz i σ) σV F2 H2)(f:Gr x H F2 H2):∃G,RS B σ σV G H2/\Gr F H G H2/\∀w v,WL.plain w=true->RW B.K F2 w v->RW B.K G w v:=by
 rcases M with⟨rfl,D⟩|⟨a,ow,wa,rfl,m,y,D,C,hH,h0⟩;.rw[D]at R2;exact⟨F2,R2,f,λ_ _ _ h=>h⟩
 .rw[D]at R2;have p:=f.f _ _ aj;have n:aB F λb=>if b=a then none else F2 b:=λb o q=>by
   have r:b≠a:=λz=>by subst z;rw[y]at q;cases q
   show(if b=a then none else F2 b)=some o;rw[an5 r];exact f.f b o<|S b o q
  have k:∀b o,(if b=a then none else F2 b)=some o->b≠a/\F2 b=some o:=λb o q=>by
   by_cases d:b=a;.rw[an4 d]at q;cases q
   .rw[an5 d]at q;exact⟨d,q⟩
  refine⟨λb=>if b=a then none else F2 b,⟨⟨λb o q=>R2.rb.sub b o (k b o q).2,R2.rb.base,R.rb.fz0.trans n,λb o q=>R2.rb.fr b o (k b o q).2⟩,R.len,λj w q=>?_,λj t q=>?_,R.ap,?_⟩,⟨n,f.h,λb o q z=>?_⟩,λw v P h=>?_⟩;.obtain⟨v,g,I⟩:=R.va j w q;exact⟨v,g,I.keep n⟩
  .obtain⟨b,zs,g,I,g3,T,Y⟩:=R.ow j t q;refine⟨b,zs,g,?_,g3,f.h b _ T,Y.keep n⟩;by_cases d:b=a;.exact an4 d
   .show(if b=a then none else F2 b)=none;rw[an5 d];have A:i≠j:=λz=>by subst z;rw[C]at g;cases g;exact d rfl
    obtain⟨Z,U,s,E,_⟩:=R2.ow j t (by rw[an3 A];exact q);rw[g]at s;cases s;exact E
  .refine R.dd.via rfl id (λ_ _ z=>.inl z) (λ_ _ _ e=>⟨e,rfl⟩) n λj N t b a0 O J q1 q2 Q=>⟨?_,Q,f.h b _ q1⟩;by_cases d:b=a;.exact an4 d
   .show(if b=a then none else F2 b)=none;rw[an5 d];have A:i≠j:=λz=>by subst z;rw[show σV[i]?=_ from J]at C;cases C;exact d rfl
    obtain⟨Z,U,s,E,_⟩:=R2.dd.od j N t (by rw[an3 A];exact O);rw[show σV[j]?=_ from J]at s;cases s;exact E
  .show(if b=a then none else F2 b)=none;by_cases d:b=a;.exact an4 d
   .rw[an5 d];exact f.nf b o q (by rw[ai d];exact z)
  .refine RW.less (λc xs q=>?_) w v P h;rcases q with(q|⟨o,q⟩)|q
   .refine .inl (.inl ?_);have r:c≠a:=λz=>by subst z;rw[p]at q;cases q;exact m
    show(if c=a then none else F2 c)=_;rw[an5 r];exact q
   .refine .inl (.inr ⟨o,?_⟩);have r:c≠a:=λz=>by subst z;rw[p]at q;cases q;exact m
    show(if c=a then none else F2 c)=_;rw[an5 r];exact q
   .exact .inr q
def pJ (h:PE X e (lo B ta)):PE X e (lo B<|WL.aaI i ta):=PE.imp h λy H Q f=>by
 refine eG f λj F R q=>?_;refine ix (R.frz i) λx o n m=>?_;refine fv _ x n ?_;have q:Rq B j F (match ta _ with|.ok w=>if WL.plain w then .ok w else .bad|_=>.bad) _:=q
 cases d:ta _ with|ok w=>
 rw[d]at q;intro v C A R2 r s;refine ix (lend R _ o m R2 r) λz p t k=>?_;have q:Rq B j F (if WL.plain w=true then .ok w else .bad) _:=q;by_cases g:WL.plain w=true;.rw[an4 g]at q;exact q v _ _ p t<|k w v g s
 .rw[an5 g]at q;exact q.elim|ex c=>rw[d]at q;exact q.elim|bad=>rw[d]at q;exact q
def x8 (h:PT X e (loT B uA)):PT X e (loT B<|WL.adR i uA):=PT.imp h λt H Q f=>by refine eG f λr F R q=>?_;refine ix (R.frz i) λs m j g=>?_;refine fv _ s j ?_;have q:Rq B r F (match uA _ with|.ok b=>.ok b|_=>.bad) _:=q;cases d:uA _ with|ok w=>rw[d]at q;intro y x R2 o;refine ix (lend R _ m g R2 o) λv n p k=>?_;exact q _ _ n p|ex c=>rw[d]at q;exact q.elim|bad=>rw[d]at q;exact q
end
mutual def toD:VW->PyData|.non=>.none|.bl b=>.bool b|.int i=>.int i|.str x=>.str x|.ty _=>.none|.tup xs=>.tuple<|fZ xs|.lst xs=>.list<|fZ xs|.dic _ _=>.none|.cls _=>.none|.exc _ _=>.none|.ins _ _=>.none|.id _=>.none def fZ:List VW->List PyData|[]=>[]|x::xs=>toD x::fZ xs end
def aeP(x):toD (.str x)=.str x:=(rfl)
def aeQ(x):toD (.int x)=.int x:=(rfl)
mutual theorem RW.isD{K:W.Frag}{H:Hp}:∀(n:Nat)(w:VW)(v:V),WL.okD n w=true->RW K H w v->IsD K H n v (toD w)
|n,.non,v,_,h=>by cases n<;>exact h|n,.bl b,v,_,h=>by cases n<;>exact h|n,.int i,v,_,h=>by cases n<;>exact h|n,.str x,v,o,h=>by cases n<;>exact⟨h,o⟩|n,.tup xs,v,o,h=>by obtain⟨a,vs,e,q,r⟩:=h;cases n with|zero=>cases xs<;>cases o|succ n=>exact⟨a,vs,e,q,RWs.isD n xs _ o r⟩
|n,.lst xs,v,o,h=>by obtain⟨a,vs,e,q,r⟩:=h;cases n with|zero=>cases xs<;>cases o|succ n=>exact⟨a,vs,e,q,RWs.isD n xs vs o r⟩theorem RWs.isD{K:W.Frag}{H:Hp}:∀(n:Nat)(ws:List VW)(vs:List V),WL.gP (n+1) ws=true->RWs K H ws vs->Paired (IsD K H n) vs (fZ ws)|n,[],vs,_,h=>by simp only[RWs]at h;subst h;exact .nil|n,w::ws,vs,o,h=>by simp only[RWs]at h;obtain⟨v,r,rfl,q,t⟩:=h;have o:=ao7.mp o;exact .cons (RW.isD n w v o.1 q) (RWs.isD n ws r o.2 t)end
mutual theorem jy:∀(n m:Nat)(x y:VW),WL.okD n x=true->WL.okD m y=true->PyData.eqv (toD x) (toD y)=WL.eqv x y
|n,m,.tup xs,y,h1,h2=>by cases y with|tup ys=>exact oX n m xs ys h1 h2|_=>first|rfl|cases h2
|n,m,.lst xs,y,h1,h2=>by cases y with|lst ys=>exact oX n m xs ys h1 h2|_=>first|rfl|cases h2
|n,m,.ty _,_,h1,_=>by cases h1|n,m,.non,y,_,h2=>by cases y<;>first|rfl|cases h2
|n,m,.bl b,y,_,h2=>by cases y<;>rfl|n,m,.int b,y,_,h2=>by cases y<;>first|rfl|cases h2
|n,m,.str b,y,_,h2=>by cases y<;>first|rfl|cases h2 theorem oX:∀(n m:Nat)(xs ys:List VW),WL.gP n xs=true->WL.gP m ys=true->PyData.eqvAll (fZ xs) (fZ ys)=WL.xW xs ys|n,m,[],ys,_,_=>by cases ys<;>rfl|n,m,x::xs,ys,h1,h2=>by cases ys with|nil=>rfl|cons y ys=>cases n with|zero=>cases h1|succ n=>cases m with|zero=>cases h2|succ m=>have h1:=ao7.mp h1;have h2:=ao7.mp h2;show(PyData.eqv _ _&&PyData.eqvAll _ _)=(_&&_);rw[jy n m x y h1.1 h2.1,oX (n+1) (m+1) xs ys h1.2 h2.2]end
theorem t9{n m}{x:VW}(a:WL.okD n x=true):∀{ys:List VW},WL.gP m ys=true->((fZ ys).any λz=>PyData.eqv z<|toD x)=WL.eB x ys|[],_=>rfl|y::ys,h=>by cases m with|zero=>cases h|succ m=>have h:=ao7.mp h;simp [fZ,WL.eB];rw[jy m n y x h.1 a,t9 a h.2]
section
variable{X:Cx}{K:W.Frag}
def eq1{F H w Q v}(q:Eq1 F H K (.ok w) Q)(r:RW K F w v):Q v H:=q v F H (Ext.refl F H) r
def alX{F H}{ws:List VW}{vs Q}(s:aB F H)(q:Eq1 F H K (.ok<|.lst ws) Q)(r:RWs K F ws vs){p}(a:H p=none):Q (.ref p) (upd H p<|.lst vs):=q _ _ _ (Ext.new (s.free a) a _) (by exact⟨p,vs,rfl,SqL.of aj,r.keep<|av (s.free a) _⟩)
def alW{F H}{ws:List VW}{vs Q}(s:aB F H)(q:Eq1 F H K (.ok<|.tup ws) Q)(r:RWs K F ws vs){p}(a:H p=none):Q (.ref p) (upd H p<|.tup vs):=q _ _ _ (Ext.new (s.free a) a _) (by exact⟨p,vs,rfl,SqT.of aj,r.keep<|av (s.free a) _⟩)
def afz:OpR X (binaryOp .Add) λx y H Q=>∃l b f g,x=.ref l/\y=.ref b/\SqL X.K H l f/\SqL X.K H b g/\f.length+g.length<=sizeLine/\∀p,H p=none->Q (.ref p) (upd H p<|.lst<|f++g):=by
 intro B s U H x y v u Q I N M h;refine ake h λl b f g t i G O T q=>?_;subst t i;cases N;cases M;refine ix (I.list G) λc r pl _=>?_;refine ix (I.list O) λa A m _=>?_;obtain⟨⟨cls,dd,z,J⟩,C,P,n,E⟩:=pl.isList;obtain⟨⟨D,w,data2,j⟩,d,k,R,o⟩:=m.isList;subst P E k o;have e:c.toArray++a.toArray=(c++a).toArray:=by simp
 have S:=r.length;have Y:=A.length;refine ard ⟨_,C,rfl⟩ ⟨_,d,rfl⟩ noFill_list_add seq_list_add PySem.F.slot_list_add PySem.F.entry_list_add (PySem.F.args_list_add_2 _ _) (list_addW l b c.toArray a.toArray n R dd w J j<|by grind) ⟨C,d,?_⟩;rw[e];exact i5 (.ref _) _ (I.anP (r.append A)<|by grind) rfl<|q _ I.fresh
def acr:OpR X (binaryOp .Add) λx y H Q=>∃a b o,x=.ref a/\y=.ref b/\SqT X.K H a []/\SqT X.K H b o/\Q (.ref b) H:=by intro l s P H x y v u Q I D A h;refine ajk h λa b o i d C G q=>?_;subst i d;cases D;cases A;refine ix (I.tuple C) λE r B _=>?_;refine ix (I.tuple G) λj O w _=>?_;cases r;obtain⟨⟨cls,dd,k,z⟩,m,J,n,t⟩:=id B;obtain⟨⟨p,N,data2,e⟩,c,f,M,g⟩:=id w;subst J t f g;exact ard ⟨_,m,rfl⟩ ⟨_,c,rfl⟩ arf seq_tuple_add aqs aqn (aqh _ _) (tuple_addW0 a b _ _ n M dd _ z e<|rfl) ⟨m,c,⟨.ref b,H,I,rfl,q⟩⟩
set_option tactic.hygienic true in
def w_add(hK:X.K=K):OpR X (binaryOp .Add) (lo2 K WL.cV):=by
 subst hK;refine OpR.imp (ah6.or<|afz.or<|afy.or acr) λx y H Q t=>?_;obtain⟨F,wx,z,s,g,i,q⟩:=t;unfold WL.cV at q;split at q;.simp only[RW]at g i;exact .inl ⟨_,_,g,i,q _ F H (Ext.refl F H)<|by simp[RW]⟩
 rotate_left
 .rename_i k j;simp only[RW]at g i;obtain⟨a,h,rfl,l,e⟩:=g;obtain⟨b,d,rfl,m,f⟩:=i;by_cases c:k.length+j.length<=WL.lim
  .rw[an4 c]at q;have n:=e.length;have o:=f.length;have r:h.length+d.length<=sizeLine:=by rw[<-n,<-o];exact aoh c gZ
   by_cases w:h=[];.subst w;have:k=[]:=List.length_eq_zero_iff.mp n;subst this;refine .inr<|.inr<|.inr ⟨a,b,d,rfl,rfl,s.tup l,s.tup m,?_⟩;exact eq1 q (by simp only[RW,List.nil_append];exact⟨b,d,rfl,m,f⟩)
   .refine .inr (.inr<|.inl ⟨a,b,h,d,rfl,rfl,s.tup l,s.tup m,w,r,λv=>?_,λv p u=>?_⟩);.subst v;have:j=[]:=List.length_eq_zero_iff.mp o;subst this;exact eq1 q (by simp only[RW,apc];exact⟨a,h,rfl,l,e⟩)
    .exact alW s q (e.app f) u
  .rw[an5 c]at q;exact q.elim
 .exact q.elim
 .rename_i k j;simp only[RW]at g i;obtain⟨a,h,rfl,l,e⟩:=g;obtain⟨b,d,rfl,m,f⟩:=i;by_cases c:k.length+j.length<=WL.lim;.rw[an4 c]at q;have q:Eq1 F H X.K (.ok<|.lst<|k++j) Q:=q;have n:=e.length;have o:=f.length;exact .inr (.inl ⟨a,b,h,d,rfl,rfl,s.seq l,s.seq m,by rw[<-n,<-o];exact aoh c gZ,λp u=>alX s q (e.app f) u⟩)
  .rw[an5 c]at q;exact q.elim
def adx:Calm WL.cV:=λx y c h=>by unfold WL.cV at h;split at h<;>first|(cases h)|(split at h<;>cases h)
def aeN{f C g r}(h:OpR X f (rI C g))(k:∀x y w,r x y=.ok w->∃i j,x=.int i/\y=.int j/\C i j/\∀F,RW K F w<|g i j)(cm:Calm r):OpR X f (lo2 K r):=by refine OpR.imp h λx y H Q d=>?_;refine x1 d λF wx p s l o q=>?_;cases e:r _ _ with|bad=>rw[e]at q;exact q.elim|ex c=>exact(cm _ _ _ e).elim|ok w=>refine xR (k _ _ w e) λi j b a n m=>?_;subst b a;rw[e]at q;exact aby i j l o n<|eq1 q<|m F
def uv{f g r}(h:OpR X f (rI0 g))(k:∀x y w,r x y=.ok w->∃i j,x=.int i/\y=.int j/\∀F,RW K F w<|g i j)(cm:Calm r):OpR X f (lo2 K r):=by refine OpR.imp h λx y H Q d=>?_;refine x1 d λF wx o s l n q=>?_;cases e:r _ _ with|bad=>rw[e]at q;exact q.elim|ex c=>exact(cm _ _ _ e).elim|ok w=>refine ke (k _ _ w e) λi j b a m=>?_;subst b a;rw[e]at q;exact⟨i,j,l,n,eq1 q<|m F⟩
def bD:Calm WL.kj:=λx y c h=>by unfold WL.kj at h;split at h<;>cases h
def aI:Calm WL.fw:=λx y c h=>by unfold WL.fw at h;split at h<;>first|(cases h)|(split at h<;>cases h)
def aK:Calm WL.oDiv:=λx y c h=>by unfold WL.oDiv at h;split at h<;>first|(cases h)|(split at h<;>cases h)
def vK:Calm WL.oMod:=λx y c h=>by unfold WL.oMod at h;split at h<;>first|(cases h)|(split at h<;>cases h)
def jC:Calm WL.oLt:=λx y c h=>by unfold WL.oLt at h;split at h<;>cases h
def jD:Calm WL.oLe:=λx y c h=>by unfold WL.oLe at h;split at h<;>cases h
def l9:Calm WL.oGt:=λx y c h=>by unfold WL.oGt at h;split at h<;>cases h
def w_sub:OpR X (binaryOp .Sub) (lo2 K WL.kj):=uv ahY (λx y w e=>by unfold WL.kj at e;split at e<;>cases e;exact⟨_,_,rfl,rfl,λF=>rfl⟩) bD
def w_mul:OpR X (binaryOp .Mult) (lo2 K WL.fw):=aeN ah0 (λx y w e=>by
 unfold WL.fw at e;split at e<;>first|(cases e)|skip
 split at e;.rename_i a;cases e;exact⟨_,_,rfl,rfl,a,λF=>rfl⟩
 .cases e) aI
def acq:OpR X (binaryOp .FloorDiv) (rI (λ_ j=>0<j/\j<10^100) λi j=>.int<|i/j):=opI λi j _ _ _ _ _ a q=>by
 have c:(0:Int)<j:=a.1;have d:j<10^100:=a.2;refine floordiv_int (by omega) (by rw[Int.fdiv_eq_ediv_of_nonneg i (by omega)];exact q)<|.inl<|PyProof.noPylong_of_log2 ?_;have b:j.natAbs<10^100:=by omega
 have:j.natAbs.log2<400:=(Nat.log2_lt<|by omega).mpr (an6 b<|by decide+kernel);omega
def w_div:OpR X (binaryOp .FloorDiv) (lo2 K WL.oDiv):=aeN acq (λx y w e=>by
 unfold WL.oDiv at e;split at e<;>first|(cases e)|skip
 split at e;.rename_i a;cases e;exact⟨_,_,rfl,rfl,a,λF=>rfl⟩
 .cases e) aK
def w_mod:OpR X (binaryOp .Mod) (lo2 K WL.oMod):=aeN ah1 (λx y w e=>by
 unfold WL.oMod at e;split at e<;>first|(cases e)|skip
 split at e;.rename_i a;cases e;exact⟨_,_,rfl,rfl,a,λF=>rfl⟩
 .cases e) vK
def w_lt:OpR X (compareOp .Lt) (lo2 K WL.oLt):=uv ale (λx y w e=>by unfold WL.oLt at e;split at e<;>cases e;exact⟨_,_,rfl,rfl,λF=>rfl⟩) jC
def agX:OpR X (compareOp .LtE) (lo2 K WL.oLe):=uv alf (λx y w e=>by unfold WL.oLe at e;split at e<;>cases e;exact⟨_,_,rfl,rfl,λF=>rfl⟩) jD
def ajq:OpR X (compareOp .Gt) (lo2 K WL.oGt):=uv alg (λx y w e=>by unfold WL.oGt at e;split at e<;>cases e;exact⟨_,_,rfl,rfl,λF=>rfl⟩) l9
def g8:UnR X (unaryOp .USub) (lo1 K WL.lE):=UnR.imp ag2 λx H Q a=>by
 refine ke a λF wx s b q=>?_;cases wx<;>first|exact q.elim|skip
 exact⟨_,b,q _ F H (Ext.refl F H)<|rfl⟩
def bR:∀x c,WL.lE x≠.ex c:=λx c h=>by cases x<;>simp[WL.lE]at h
def yL{F}{x y:VW}{v u}(h:WL.yM x y=true)(b:RW K F x v)(a:RW K F y u):akL v u=true/\decide (v=u)=WL.eqv x y:=by
 cases x<;>first|(cases h)|skip
 all_goals cases y<;>first|(cases h;done)|(subst b;subst a;exact⟨rfl,by first|rfl|exact tG|exact aaM|exact tF ⟩)
def calm_eq:Calm WL.oEq:=λx y c h=>by simp only[WL.oEq]at h;split at h<;>first|(cases h)|(split at h<;>cases h)
def agh:Calm WL.oNe:=λx y c h=>by simp only[WL.oNe]at h;split at h<;>first|(cases h)|(split at h<;>cases h)
def w_eq(hK:X.K=K)(g:X.A.units+64<cLine):OpR X (compareOp .Eq) (lo2 K WL.oEq):=by
 subst hK;refine OpR.imp (alh.or ah5) λx y H Q a=>?_;refine x1 a λF wx d s c b q=>?_;simp only[WL.oEq]at q;split at q;.rename_i h;obtain⟨e,f⟩:=yL h c b;exact .inl ⟨e,eq1 q<|by simp[RW,f]⟩
 .split at q;.rename_i h;rw[aoo]at h;refine .inr (vW 50 _ _ (RW.isD _ _ x h.1<|c.keep s) (RW.isD 50 d y h.2<|b.keep s) (by omega) ?_);rw[jy 50 50 wx d h.1 h.2];exact eq1 q<|rfl
  .exact q.elim
def ans(hK:X.K=K)(g:X.A.units+64<cLine):OpR X (compareOp .NotEq) (lo2 K WL.oNe):=by
 subst hK;refine OpR.imp (ald.or ahZ) λx y H Q a=>?_;refine x1 a λF wx d s c b q=>?_;simp only[WL.oNe]at q;split at q;.rename_i h;obtain⟨e,f⟩:=yL h c b;exact .inl ⟨e,eq1 q<|by simp[RW,f]⟩
 .split at q;.rename_i h;rw[aoo]at h;refine .inr (vW 50 _ _ (RW.isD _ _ x h.1<|c.keep s) (RW.isD 50 d y h.2<|b.keep s) (by omega) ?_);rw[jy 50 50 wx d h.1 h.2];exact eq1 q<|rfl
  .exact q.elim
def dm:Calm WL.oIn:=λx y c h=>by cases y<;>simp only[WL.oIn]at h<;>first|(cases h)|(split at h<;>cases h)
def nB:Calm WL.lD:=λx y c h=>by cases y<;>simp only[WL.lD]at h<;>first|(cases h)|(split at h<;>cases h)
set_option tactic.hygienic true
def v9(hK:X.K=K)(g:X.A.units+64<cLine):OpR X (compareOp .In) (lo2 K WL.oIn):=by
 subst hK;refine OpR.imp ah4 λx y H Q a=>?_;refine x1 a λF wx f s e d q=>?_;cases f<;>simp only[WL.oIn]at q<;>first|exact q.elim|skip
 all_goals
 rename_i c;by_cases h:(WL.okD 50 wx&&WL.gP 51 c)=true;.rw[an4 h]at q;rw[aoo]at h;have b:=RW.isD 51 _ y (by exact h.2)<|d.keep s;refine vW 50 _ (fZ c) (RW.isD 50 wx x h.1<|e.keep s) (by first|exact .inl b|exact .inr b) (by omega) ?_;rw[t9 h.1 h.2];exact eq1 q<|rfl
 .rw[an5 h]at q;exact q.elim
def yn(hK:X.K=K)(g:X.A.units+64<cLine):OpR X (compareOp .NotIn) (lo2 K WL.lD):=by
 subst hK;refine OpR.imp zi λx y H Q a=>?_;refine x1 a λF wx f s e d q=>?_;cases f<;>simp only[WL.lD]at q<;>first|exact q.elim|skip
 all_goals
 rename_i c;by_cases h:(WL.okD 50 wx&&WL.gP 51 c)=true;.rw[an4 h]at q;rw[aoo]at h;have b:=RW.isD 51 _ y (by exact h.2)<|d.keep s;refine vW 50 _ (fZ c) (RW.isD 50 wx x h.1<|e.keep s) (by first|exact .inl b|exact .inr b) (by omega) ?_;rw[t9 h.1 h.2];exact eq1 q<|rfl
 .rw[an5 h]at q;exact q.elim
set_option tactic.hygienic false
def vq{F w v}(r:RW K F w v):decide (v=V.non)=WL.xf w:=by cases w;all_goals first|(subst r;rfl)|(refine eG r λa d b _=>?_;subst b;rfl)|(obtain⟨a,rfl,_⟩:=r;rfl)|(refine vV r λa C c b _=>?_;subst b;rfl)|(refine agD r λa C c l b _=>?_;subst b;rfl)
def ah3:OpR X (compareOp .Is) λx y H Q=>∃b,y=.bl b/\Q (.bl<|decide (x=.bl b)) H:=by
 intro d s f H x y v u Q I a e h;obtain⟨b,rfl,q⟩:=h;cases e;refine wpAny_is_plain ?_<|bf I q ?_;.cases x<;>(obtain⟨t,rfl⟩:=a;rfl)
 .cases x with|bl c=>cases a;cases b<;>cases c<;>rfl|_=>(obtain⟨t,rfl⟩:=a;cases b<;>rfl)
def zj:OpR X (compareOp .IsNot) λx y H Q=>∃b,y=.bl b/\Q (.bl !decide (x=.bl b)) H:=by
 intro d s f H x y v u Q I a e h;obtain⟨b,rfl,q⟩:=h;cases e;refine wpAny_isNot_plain ?_<|bf I q ?_;.cases x<;>(obtain⟨t,rfl⟩:=a;rfl)
 .cases x with|bl c=>cases a;cases b<;>cases c<;>rfl|_=>(obtain⟨t,rfl⟩:=a;cases b<;>rfl)
set_option tactic.hygienic true in
def aeo{F w v b}(r:RW K F w v):decide (v=V.bl b)=WL.isB b w:=by cases w;all_goals first|(subst r;cases b<;>first|rfl|(rename_i c;cases c<;>rfl))|(refine eG r λa f d _=>?_;subst d;cases b<;>rfl)|(obtain⟨a,rfl,_⟩:=r;cases b<;>rfl)|(refine vV r λa C e d _=>?_;subst d;cases b<;>rfl)|(refine agD r λa C e l d _=>?_;subst d;cases b<;>rfl)
def pa:Calm WL.oIs:=λx y c h=>by cases y<;>simp[WL.oIs]at h
def ft:Calm WL.gY:=λx y c h=>by cases y<;>simp[WL.gY]at h
def w_is:OpR X (compareOp .Is) (lo2 K WL.oIs):=by
 refine OpR.imp (ah2.or ah3) λx y H Q a=>?_;refine x1 a λF wx d s c b q=>?_;cases d<;>first|exact q.elim|skip
 .exact .inl ⟨b,eq1 q<|by simp[RW,vq c]⟩
 .exact .inr ⟨_,b,eq1 q<|by simp[RW,aeo c]⟩
def kD:OpR X (compareOp .IsNot) (lo2 K WL.gY):=by
 refine OpR.imp (afx.or zj) λx y H Q a=>?_;refine x1 a λF wx d s c b q=>?_;cases d<;>first|exact q.elim|skip
 .exact .inl ⟨b,eq1 q<|by simp[RW,vq c]⟩
 .exact .inr ⟨_,b,eq1 q<|by simp[RW,aeo c]⟩
def ajc{F ws vs i w}(r:RWs K F ws vs)(h:WL.atI ws i=some w):∃v,L2.atI vs i=some v/\RW K F w v:=by unfold WL.atI at h;cases e:WL.ixN _ i with|none=>rw[e]at h;cases h|some j=>rw[e]at h;obtain⟨v,a,b⟩:=r.get h;refine⟨v,?_,b⟩;unfold L2.atI;rw[<-r.length,show L2.ixN _ i=some j from e];exact a
def aa5:Calm WL.oIx:=λx y c h=>by
 unfold WL.oIx at h;split at h<;>first|(cases h)|skip
 all_goals revert h;first|(cases WL.atI _ _<;>simp[WL.ofO];done)|(cases WL.o5 _ _ _<;>simp[WL.ofO])
theorem aaJ{F}(k)(w:VW):∀{a:List (Key×V)}{ks vs},RWs K F ks (a.map λp=>kV p.1)->RWs K F vs (a.map λp=>p.2)->WL.o5 k ks vs=some w->∃v,rD a (Sum.inr k)=some v/\RW K F w v
|[],ks,vs,r1,r2,e=>by cases ks with|nil=>simp[WL.o5]at e|cons x ks=>simp[RWs]at r1
|p::a,ks,vs,r1,r2,e=>by cases ks with|nil=>simp[WL.o5]at e|cons x ks=>
 cases vs with|nil=>cases x<;>cases e|cons y vs=>obtain⟨v1,r,f,b,d⟩:=r1;obtain⟨v2,q,n,j,m⟩:=r2;cases f;cases n;cases x with|str x=>
     simp only[RW]at b;have c:p.1=Sum.inr x:=by cases c:p.1 with|inl i=>rw[c]at b;cases i<;>exact absurd b (by simp[kV])|inr z=>rw[c]at b;simp only[kV]at b;cases b;rfl
     simp only[WL.o5]at e;by_cases h:x=k;.subst h;simp at e;subst e;exact⟨p.2,dR c,j⟩
     .have g:(x==k)=false:=by simpa using h
      rw[g]at e;obtain⟨v,l,o⟩:=aaJ k w d m (by simpa using e);exact⟨v,by rw[dU λz=>h<|by rw[c]at z;exact Sum.inr.inj z];exact l,o⟩|_=>simp[WL.o5]at e
set_option tactic.hygienic true in
def amq(hK:X.K=K):IxR X (lo2 K WL.oIx):=by
 subst hK;refine IxR.imp ((afS.or aiF).or aab) λx y H Q g=>?_;obtain⟨F,wx,t,s,j,h,q⟩:=g;unfold WL.oIx at q;split at q;rotate_left 2;.rename_i o b k;obtain⟨a,r,rfl,d,m,p⟩:=j;cases e:WL.o5 k o b with|none=>rw[e]at q;exact q.elim|some w=>rw[e]at q;obtain⟨v,c,f⟩:=aaJ k w m p e;exact .inr ⟨a,_,Sum.inr k,v,rfl,h,s.rd d,c,eq1 q f⟩
 .exact q.elim
 all_goals rename_i n i;obtain⟨a,b,rfl,d,l⟩:=j;cases e:WL.atI n i with|none=>rw[e]at q;exact q.elim|some w=>rw[e]at q;obtain⟨v,c,f⟩:=ajc l e;first|exact .inl<|.inl ⟨a,b,i,v,rfl,h,s.seq d,c,eq1 q f⟩|exact .inl<|.inr ⟨a,b,i,v,rfl,h,s.tup d,c,eq1 q f⟩
def v8(hK:X.K=K):SlR X (am0 K):=by
 subst hK;have i:WL.sIx=HT.sIx:=rfl;refine SlR.imp (aeY.or ahk) λx lo g H Q c=>?_;refine ke c λF wx s h q=>?_;cases wx<;>simp [WL.oSl]at q<;>first|exact q.elim|skip
 .obtain⟨a,d,rfl,e,b⟩:=h;split at q;.exact q.elim
  .rename_i hw;rw[i,b.length]at hw;exact .inr (aby a d rfl (s.tup e) hw λp f=>alW s q (b.cut lo g) f)
 .obtain⟨a,d,rfl,e,b⟩:=h;exact .inl (i5 a d rfl (s.seq e) λp f=>alX s q (b.cut lo g) f)
def eJ{F w xs}(r:RWs K F [w] xs):∃v,xs=[v]/\RW K F w v:=by obtain⟨v,t,rfl,h,rfl⟩:=r;exact⟨v,rfl,h⟩
def two_of{F w b xs}(r:RWs K F [w,b] xs):∃v a,xs=[v,a]/\RW K F w v/\RW K F b a:=by obtain⟨v,t,rfl,h,a,d,rfl,c,rfl⟩:=r;exact⟨v,a,rfl,h,c⟩
def aeM(hK:X.K=K):bC X (.builtin "len") (loN K WL.mh):=by
 subst hK;refine bC.imp rh λf H Q c=>?_;refine ke c λF ws s r q=>?_;unfold WL.mh at q;split at q;.obtain⟨v,rfl,h⟩:=eJ r;obtain⟨a,d,rfl,e,b⟩:=h;exact⟨a,d,rfl,.inl<|s.seq e,eq1 q<|by simp[RW,b.length]⟩
 .obtain⟨v,rfl,h⟩:=eJ r;obtain⟨a,d,rfl,e,b⟩:=h;exact⟨a,d,rfl,.inr<|s.tup e,eq1 q<|by simp[RW,b.length]⟩
 .exact q.elim
def kC(hK:X.K=K):bC X (.type "tuple") (loN K WL.gy):=by
 subst hK;refine bC.imp pe λj H Q c=>?_;refine ke c λF ws s r q=>?_;unfold WL.gy at q;split at q;.obtain⟨v,rfl,h⟩:=eJ r;refine ke h λa d b e f=>?_;subst b;exact⟨a,d,rfl,.inl ⟨s.seq e,λl g=>alW s q f g⟩⟩
 .refine gB (eJ r) λv b h=>?_;subst b;have i:=h;refine ke h λa d b e f=>?_;subst b;exact⟨a,d,rfl,.inr ⟨s.tup e,eq1 q i⟩⟩
 .exact q.elim
set_option tactic.hygienic true in
def mn:bC X (.builtin "abs") (loN K WL.rF):=bC.imp ady λb H Q a=>by
 refine ke a λF ws s r q=>?_;unfold WL.rF at q;split at q;.rename_i i;obtain⟨v,rfl,h⟩:=eJ r;subst h;exact⟨i,rfl,eq1 q<|rfl⟩
 .exact q.elim
def pL(d:X.calm=true):bC X (.builtin "max") (loN K WL.mf):=bC.imp (aa8 d) λi H Q b=>by refine ke b λF ws s r q=>?_;cases e:WL.mf _ with|bad|ex c=>rw[e]at q;exact q.elim|ok w=>
 unfold WL.mf at e;split at e;.refine ke (two_of r) λv g a h f=>?_;subst a;subst h f;exact⟨_,_,rfl,eq1 q<|rfl⟩
 .cases e
def iA:bC X (.type "int") (loN K WL.mI):=bC.imp aba λb H Q a=>by obtain⟨F,ws,s,r,q⟩:=a;cases e:WL.mI ws with|bad|ex c=>rw[e]at q;exact q.elim|ok w=>
 rw[e]at q;unfold WL.mI at e;split at e;.cases e;obtain⟨v,rfl,h⟩:=eJ r;simp only[RW]at h;subst h;exact .inr ⟨_,rfl,eq1 q<|by simp[RW]⟩
 .cases e;obtain⟨v,rfl,h⟩:=eJ r;simp only[RW]at h;subst h;exact .inl ⟨_,rfl,eq1 q<|by simp[RW]⟩
 .cases e
noncomputable def akl:VW->Value|.non=>.type "NoneType"|.bl _=>.type "bool"|.int _=>.type "int"|.str _=>.type "str"|.ty _=>.type "type"|.tup _=>.type "tuple"|.lst _=>.type "list"|.dic _ _=>.type "dict"|.cls _=>.type "type"|.exc _ _=>.none|.ins _ _=>.none|.id _=>.none
def zW{w:VW}{t b}(h:WL.isK w t=some b):W.kitOne K (akl w) (.type t)=some b:=by
 have ht:=by
  cases w<;>first|(cases h;done)|(change(if _ then _ else _)=_ at h)
  all_goals
  split at h;.rename_i a;simpa using a
  .cases h
 cases w<;>rcases ht with rfl|rfl|rfl|rfl|rfl<;>first|(cases h;done)|(rw[<-h];rfl)
def ail{F H a vs}(s:aB F H)(h:SqL K F a vs):TyOf K H (.ref a) (.type "list")\/∃o b n,K.lookup a=some o/\o.cls=.type "list"/\o.dict=none/\o.data=.seq b n:=by
 rcases h with(h|⟨o,h⟩)|⟨o,b,n,c,f,e,d,_⟩;.exact .inl (.lst<|s _ _ h)
 .exact .inl (.frz<|s _ _ h)
 .exact .inr (vW o _ n c f e d)
def ri:bC X (.builtin "isinstance") λd H Q=>∃a o T b,d=[.ref a,.ty T]/\X.K.lookup a=some o/\o.cls=.type "list"/\W.kitOne X.K (.type "list") (.type T)=some b/\Q (.bl b) H:=by intro c s m H d k Q I r h;obtain⟨a,o,T,b,rfl,f,i,e,q⟩:=h;obtain⟨u,n,rfl,g,j⟩:=vals2 r;cases j;cases g;exact apr arz I.kIn ⟨o,I.kIn a o f,i⟩ e (λz=>nomatch z) λl=>⟨.bl b,H,I.tok _,rfl,q⟩
set_option tactic.hygienic true in
def cy(hK:X.K=K):bC X (.builtin "isinstance") (loN K WL.bj):=by subst hK;refine bC.imp (tY.or ri) λC H Q f=>?_;obtain⟨F,ws,s,r,q⟩:=f;cases e:WL.bj ws with|bad|ex c=>rw[e]at q;exact q.elim|ok w=>
  rw[e]at q;unfold WL.bj at e;split at e
  .rename_i x t;split at e;.rename_i b j;cases e;obtain⟨v,A,rfl,h,p⟩:=two_of r;subst p;have d:=zW (K:=X.K) j;have fin:Q (.bl b) H:=eq1 q (by simp[RW]);cases x with|non=>simp only[RW]at h;subst h;exact .inl ⟨_,t,_,b,rfl,.inl .non,d,fin⟩|bl k=>simp only[RW]at h;subst h;exact .inl ⟨_,t,_,b,rfl,.inl<|.bl k,d,fin⟩|int k=>simp only[RW]at h;subst h;exact .inl ⟨_,t,_,b,rfl,.inl<|.int k,d,fin⟩|str k=>simp only[RW]at h;subst h;exact .inl ⟨_,t,_,b,rfl,.inl<|.str k,d,fin⟩|ty k|dic _ _|cls _|exc _ _|ins _ _|id _=>cases j|tup ys=>obtain⟨a,i,rfl,g,m⟩:=h;exact .inl ⟨_,t,_,b,rfl,.inr ⟨a,i,rfl,rfl,s.tup g⟩,d,fin⟩|lst ys=>
     obtain⟨a,i,rfl,g,m⟩:=h;rcases ail s g with ty|⟨o,u,n,l,y,z,B⟩;.exact .inl ⟨_,t,_,b,rfl,.inl ty,d,fin⟩
     .exact .inr ⟨a,o,t,b,rfl,l,y,d,fin⟩
   .cases e
  .cases e
theorem uD:∀a,fZ a=a.map toD|[]=>rfl|x::a=>by simp [fZ,uD _]
def o6:∀a c,WL.mh a≠.ex c:=λa c h=>by unfold WL.mh at h;split at h<;>cases h
def fq:∀a c,WL.gy a≠.ex c:=λa c h=>by unfold WL.gy at h;split at h<;>cases h
def du:∀a c,WL.rF a≠.ex c:=λa c h=>by unfold WL.rF at h;split at h<;>cases h
def gw:∀a c,WL.mf a≠.ex c:=λa c h=>by unfold WL.mf at h;split at h<;>cases h
def dc:∀a c,WL.mI a≠.ex c:=λa c h=>by unfold WL.mI at h;split at h<;>cases h
def bh:∀a c,WL.bj a≠.ex c:=λa c h=>by
 unfold WL.bj at h;split at h;.split at h<;>cases h
 .cases h
end
structure Walk(K:W.Frag)(J:It)(xs:List VW)(F:Hp):Prop where
 go:∀(i:Nat)(x:VW),xs[i]?=some x->∀F1 H1:Hp,aB F F1->aB F1 H1->J.go i H1/\∀v H2,J.yld i H1 v H2->∃F2,Ext F1 H1 F2 H2/\RW K F2 x v
 stop:∀F1 H1:Hp,aB F F1->aB F1 H1->J.stop xs.length H1
def loI(B:Bx)(it:LF):TI:=λa H R=>∃b F,RS B b a F H/\Rq B b F (it b) λe=>∀J c d,RS B b a d c->Gr F H d c->Walk B.K J e d->R J c
def yj{K a xs vs F}(h:SqL K F a vs)(r:RWs K F xs vs):Walk K (Itl K a) xs F:=by refine⟨λi x e g l b c=>?_,λg l b c=>⟨vs,c.seq<|b.seq h,by rw[r.length];exact aob _⟩⟩;refine gB (r.get e) λv f j=>?_;refine⟨⟨vs,v,c.seq<|b.seq h,f⟩,λu m d=>?_⟩;obtain⟨k,y⟩:=d;subst k;have:=y _<|c.seq<|b.seq h;rw[f]at this;cases this;exact⟨g,Ext.refl _ _,j.keep b⟩
def abK{K a xs vs F}(h:SqT K F a vs)(r:RWs K F xs vs):Walk K (Itt K a) xs F:=by refine⟨λi x e g l b c=>?_,λg l b c=>⟨vs,c.tup<|b.tup h,by rw[r.length];exact aob _⟩⟩;refine gB (r.get e) λv f j=>?_;refine⟨⟨vs,v,c.tup<|b.tup h,f⟩,λu m d=>?_⟩;obtain⟨k,y⟩:=d;subst k;have:=y _<|c.tup<|b.tup h;rw[f]at this;cases this;exact⟨g,Ext.refl _ _,j.keep b⟩
def rZ(lo)(n):(WL.rng lo n).length=n:=by simp[WL.rng]
def uu{K lo n F}:Walk K (Itr lo n) (WL.rng lo n) F:=by
 refine⟨λi x e c g h d=>?_,λc g h d=>by rw[rZ];exact aob n⟩;have b:=by have:=(aoa.mp e).1;rwa[rZ]at this
 refine⟨b,λv j a=>?_⟩;obtain⟨f,y⟩:=a;subst f y;refine⟨c,Ext.refl _ _,?_⟩;simp only[WL.rng,aoy,apj b]at e;have e:=aow e;subst e;simp[RW]
theorem oZ:∀(xs:List VW)(k i:Nat),(WL.iY k xs)[i]?=xs[i]?.map λx=>.tup [.int (k+i:Nat),x]|[],_,_=>rfl|x::xs,k,0=>rfl|x::xs,k,i+1=>by simp only[WL.iY,List.getElem?_cons_succ];rw[oZ _ _ i];congr 1;funext y;congr 4;omega
theorem oY:∀(xs:List VW)k,(WL.iY k xs).length=xs.length|[],_=>rfl|x::xs,k=>by simp [WL.iY,oY _ _]
def yk{K a xs vs F}(h:SqT K F a vs)(r:RWs K F xs vs):Walk K (Ite K a) (WL.iY 0 xs) F:=by refine⟨λi x e q n b c=>?_,λq n b c=>⟨vs,c.tup<|b.tup h,by rw[oY,r.length];exact aob _⟩⟩;rw[oZ]at e;cases d:xs[i]? with|none=>rw[d]at e;cases e|some y=>rw[d]at e;obtain⟨v,j,m⟩:=r.get d;have e:=aow e;subst e;refine⟨⟨vs,v,c.tup<|b.tup h,j⟩,λu t f=>?_⟩;refine ix f λp s k o=>?_;subst s;obtain⟨z,l,rfl⟩:=o vs<|c.tup<|b.tup h;rw[j]at l;cases l;have g:=c.free k;refine⟨_,Ext.new g k _,p,_,rfl,SqT.of aj,?_⟩;simp only[RWs,RW];refine⟨_,_,rfl,?_,_,_,rfl,(m.keep b).keep<|av g _,rfl⟩;simp
def v7{K a xs vs F}(h:SqL K F a vs)(r:RWs K F xs vs):Walk K (akc K a) (WL.iY 0 xs) F:=by refine⟨λi x e q n b c=>?_,λq n b c=>⟨vs,c.seq<|b.seq h,by rw[oY,r.length];exact aob _⟩⟩;rw[oZ]at e;cases d:xs[i]? with|none=>rw[d]at e;cases e|some y=>rw[d]at e;obtain⟨v,j,m⟩:=r.get d;have e:=aow e;subst e;refine⟨⟨vs,v,c.seq<|b.seq h,j⟩,λu t f=>?_⟩;refine ix f λp s k o=>?_;subst s;obtain⟨z,l,rfl⟩:=o _<|c.seq<|b.seq h;rw[j]at l;cases l;have g:=c.free k;refine⟨_,Ext.new g k _,p,_,rfl,SqT.of aj,?_⟩;simp only[RWs,RW];refine⟨_,_,rfl,?_,_,_,rfl,(m.keep b).keep<|av g _,rfl⟩;simp
section
variable{X:Cx}{B:Bx}{e tg:Expr}{pos:Pos}{ta tb:EF}{g:GF}{b:SF}
def tSq(K:W.Frag)(h:TE):TI:=λf H R=>h f H λx c=>∃a,x=.ref a/\((∃d,SqL K c a d)/\R (Itl K a) c\/(∃d,SqT K c a d)/\R (Itt K a) c)
def afq{pins}{σ:L2.St}{d R c x v}(f:Inv X pins σ d c)(m:RelV x v)(q:∃a,x=.ref a/\((∃h,SqL X.K d a h)/\R (Itl X.K a) d\/(∃h,SqT X.K d a h)/\R (Itt X.K a) d)):wpAny (model X.prog X.w) X.A (pyIter v) (PIE X pins σ tg R) X.xe c:=by
 obtain⟨a,e,r⟩:=q;subst e;cases m;have k:∀b∈[c.heap.objs.size],uc X pins d b:=λb s=>by
  have e:b=c.heap.objs.size:=by grind
  subst e;exact f.aiP (aob _)<|f.hok.fresh<|aob _
 rcases r with⟨⟨h,j⟩,q⟩|⟨⟨h,j⟩,q⟩;.obtain⟨i,l,p,n⟩:=f.list j;exact ap1 p.isList (amo c.heap.objs.size [c.heap.objs.size] _ _ d rfl (f.kept λb o e=>anZ _ e) (yt a _) ⟨_,aoj _ rfl,rfl,rfl⟩ k q)
 .obtain⟨i,l,p,n⟩:=f.tuple j;exact aqj p (amo c.heap.objs.size [c.heap.objs.size] _ _ d rfl (f.kept λb o e=>anZ _ e) (wc a _) ⟨_,aoj _ rfl,rfl,rfl⟩ k q)
def ahL{l d}(k:PE X l d):PI X tg l (tSq X.K d):=λc s f H R I h=>thn (k _ s f H _ I h) λv n a=>by refine ke a λx m i j q=>?_;exact afq i j q
def afJ{K}(hK:K=B.K):∀c H R,loI B (WL.iw ta) c H R->tSq K (lo B ta) c H R:=λc H R j=>by refine eG j λr F o q=>?_;have q:=Rq.bind q;refine fv r F o (Rq.mono (aB.refl _) q λx i v p n f l m=>?_);cases x with|lst xs=>obtain⟨a,k,rfl,d,h⟩:=m;refine⟨a,rfl,.inl ⟨⟨k,by rw[hK];exact f.rb.sub.seq d⟩,?_⟩⟩;rw[hK];exact i _ _ n f l<|yj d h|tup xs=>obtain⟨a,k,rfl,d,h⟩:=m;refine⟨a,rfl,.inr ⟨⟨k,by rw[hK];exact f.rb.sub.tup d⟩,?_⟩⟩;rw[hK];exact i _ p n f l<|abK d h|_=>exact(i).elim
def cw(hK:X.K=B.K)(h:PE X e (lo B ta)):PI X tg e (loI B<|WL.iw ta):=PI.imp (ahL h)<|afJ hK
def bW{a p pos}(u:Gl X "range")(E:X.mg "range"=none)(h:PE X a (lo B ta))(hs:starEach [a] X.env=[(false,eval a X.env)]:=by rfl)(k:starEach [a] X.env=(false,eval a X.env)::starEach [] X.env:=by rfl):PI X tg (.Call (.Name "range" p) [a] [] pos) (loI B<|WL.dz ta):=PI.imp (zc u E (ae h aM k) hs) λr H R l=>by
 refine eG l λd F s q=>?_;have q:=Rq.bind q;have A:Rq B d F (WL.aa ta WL.ao d) λws=>∀o m n,RS B d r n m->Gr F H n m->RWs B.K n ws o->∃j:Int,o=[.int j]/\-2^62<=j/\j<2^62/\R (Itr 0 j.toNat) m:=by show Rq B d F ((ta d).bind λx=>.ok [x]) _;cases e:ta d with
 |ok x=>
   rw[e]at q;intro o C D w t y;refine gB (eJ y) λv i z=>?_;subst i
   cases x with|int j=>
    subst z;have q:Rq B d F (if -2^62<=j/\j<2^62 then .ok (WL.rng 0 j.toNat)else .bad) _:=q;by_cases f:-2^62<=j/\j<2^62;.rw[an4 f]at q;exact⟨j,rfl,f.1,f.2,q _ C D w t uu⟩
    .rw[an5 f]at q;exact q.elim|_=>exact(q).elim
 |ex c=>rw[e]at q;exact q|bad=>rw[e]at q;exact q
 exact fv d F s A
def yc{a c p pos}(A:Gl X "range")(O:X.mg "range"=none)(h:PE X a (lo B ta))(h':PE X c (lo B tb))(hs:starEach [a,c] X.env=[(false,eval a X.env),(false,eval c X.env)]:=by rfl)(t:starEach [c] X.env=[(false,eval c X.env)]:=by rfl)(r:starEach [a,c] X.env=(false,eval a X.env)::starEach [c] X.env:=by rfl)(f:starEach [c] X.env=(false,eval c X.env)::starEach [] X.env:=by rfl):PI X tg (.Call (.Name "range" p) [a,c] [] pos) (loI B<|WL.sW ta tb):=PI.imp (zb A O (ae h (ae h' aM f) r) hs t) λw H R l=>by
 refine eG l λd F z q=>?_;have q:=Rq.bind q;have M:Rq B d F (WL.aa ta (WL.aa tb WL.ao) d) λws=>∀n s u,RS B d w u s->Gr F H u s->RWs B.K u ws n->∃i j:Int,n=[.int i,.int j]/\(-2^62<=i/\i<2^62/\-2^62<=j/\j<2^62)/\R (Itr i (j-i).toNat) s:=by show Rq B d F ((ta d).bind λx=>((tb d).bind _).bind λJ=>.ok (x::J)) _;cases e:ta d with
 |ok x=>rw[e]at q;have q:=Rq.bind q;cases k:tb d with
  |ok y=>rw[k]at q;intro n G N C I D;refine ke (two_of D) λv P o K E=>?_;subst o;cases x with
   |int i=>cases y with|int j=>
      subst K E;have q:Rq B d F (if -2^62<=i/\i<2^62/\-2^62<=j/\j<2^62 then .ok (WL.rng i (j-i).toNat)else .bad) _:=q;by_cases m:-2^62<=i/\i<2^62/\-2^62<=j/\j<2^62;.rw[an4 m]at q;exact⟨i,j,rfl,m,q _ G N C I uu⟩
      .rw[an5 m]at q;exact q.elim|_=>exact(q).elim
   |_=>exact(q).elim
  |ex c=>rw[k]at q;exact q|bad=>rw[k]at q;exact q
 |ex c=>rw[e]at q;exact q|bad=>rw[e]at q;exact q
 exact fv d F z M
def rL{l es k w p pos}(hK:X.K=B.K)(u:Gl X "enumerate")(A:X.mg "enumerate"=none)(h:PE X l (lo B ta))(hs:starEach [l] X.env=[(false,eval l X.env)]:=by rfl):PI X (.Tuple es k w) (.Call (.Name "enumerate" p) [l] [] pos) (loI B<|WL.ac4 ta):=PI.imp (r9 u A h hs) λz H R j=>by refine eG j λy F t q=>?_;have q:=Rq.bind q;refine fv y F t (Rq.mono (aB.refl _) q λx i v r s d n o=>?_);cases x with|tup xs=>obtain⟨a,m,rfl,c,f⟩:=o;refine⟨a,rfl,.inl ⟨⟨m,by rw[hK];exact d.rb.sub.tup c⟩,?_⟩⟩;rw[hK];exact i _ r s d n<|yk c f|lst xs=>obtain⟨a,m,rfl,c,f⟩:=o;refine⟨a,rfl,.inr ⟨⟨m,by rw[hK];exact d.rb.sub.seq c⟩,?_⟩⟩;rw[hK];exact i _ r s d n<|v7 c f|_=>exact(i).elim
variable{m:Bool}{es:List Expr}{gs:GsF}
def aeI{i}(h:PG X e (L2.aq i)):PG X e (loG m B<|WL.aq i):=PG.imp h λv c H Q a=>by obtain⟨d,F,w,R,r,q⟩:=a;exact q _ H F (R.set r) Gm.refl
def eR:PGs X [] (ajR m B WL.kr):=PGs.imp afr λd c H Q a=>by refine xQ a λf F ws R r q=>?_;cases ws with|nil=>exact⟨r,q _ H F R Gm.refl⟩|cons w ws=>exact(q).elim
def aV(o:PG X e (loG m B g))(y:PGs X es (ajR m B gs))(hs:(assignEach (e::es) X.env).map (·.2)=assign e X.env::(assignEach es X.env).map (·.2):=by rfl):PGs X (e::es) (ajR m B<|WL.bu g gs):=PGs.imp (acf o y hs) λz p H Q f=>by refine xQ f λa F ws R r q=>?_;cases ws with|nil=>exact(q).elim|cons w ws=>obtain⟨v,t,rfl,r,rt⟩:=r;refine⟨v,t,rfl,a,F,w,R,r,?_⟩;have q:Rq B a F (match g w a with|.ok σ'=>(match gs _ σ' with|.ok σ2=>.ok σ2|_=>.bad)|_=>.bad) _:=q;cases d:g w a with|bad=>rw[d]at q;exact q|ex c=>rw[d]at q;exact q.elim|ok σ1=>rw[d]at q;intro j A s l i;have q:Rq B a F (match gs ws σ1 with|.ok σ2=>.ok _|_=>.bad) _:=q;refine agl σ1 s ws l (rt.keep i.f) ?_;cases h:gs ws σ1 with|bad=>rw[h]at q;exact q|ok σ2=>rw[h]at q;exact λk x u R2 n=>q _ x u R2<|i.trans n|ex c=>rw[h]at q;exact q.elim
def gR{k n}(hK:X.K=B.K)(z:X.calm=true)(h:PGs X es (ajR m B gs))(s:(assignEach es X.env).length=n)(t:∀ws d f,gs ws d=.ok f->ws.length=n)(u:∀ws d c,gs ws d≠.ex c)(o:(assignEach es X.env).findIdx? (·.1)=none:=by rfl):PG X (.Tuple es k pos) (loG m B<|WL.kq gs):=PG.imp (ahM z h s o) λv A H Q l=>by refine xQ l λd F w R r q=>?_;cases w with
|tup ws=>refine ke r λa x j y p=>?_;subst j;have q:Rq B d F (gs _ d) _:=q;refine⟨a,x,rfl,by rw[hK];exact R.rb.sub.tup y,?_,d,F,ws,R,p,q⟩;cases i:gs _ d with|ok f=>rw[<-p.length];exact t _ _ _ i|ex c=>exact(u _ _ _ i).elim|bad=>rw[i]at q;exact q.elim
|_=>exact(q).elim
def g6:∀ws c a,WL.kr ws c=.ok a->ws.length=0:=λws c a h=>by cases ws<;>simp[WL.kr]at h;rfl
def bx{n}(h:∀ws d a,gs ws d=.ok a->ws.length=n):∀ws d a,WL.bu g gs ws d=.ok a->ws.length=n+1:=λws d a q=>by cases ws with|nil=>simp[WL.bu]at q|cons w ws=>have q:(match g w d with|.ok _=>(match gs _ _ with|.ok _=>Res.ok _|_=>.bad)|_=>.bad)=.ok _:=q;cases f:g w d with
 |ok σ1=>rw[f]at q;have q:(match gs ws _ with|.ok σ2=>Res.ok _|_=>.bad)=.ok _:=q;cases i:gs ws σ1 with|ok σ2=>simp[h _ _ _ i]|ex c|bad=>rw[i]at q;cases q
 |ex c=>rw[f]at q;cases q|bad=>rw[f]at q;cases q
def cI:∀ws a c,WL.bu g gs ws a≠.ex c:=λws a c q=>by cases ws with|nil=>simp[WL.bu]at q|cons w ws=>have q:(match g w a with|.ok _=>(match gs _ _ with|.ok _=>Res.ok _|_=>.bad)|_=>.bad)=.ex c:=q;cases d:g w a with|ok σ1=>rw[d]at q;have q:(match gs _ _ with|.ok σ2=>Res.ok _|_=>.bad)=.ex c:=q;cases f:gs _ _<;>rw[f]at q<;>cases q|ex c=>rw[d]at q;cases q|bad=>rw[d]at q;cases q
def adL{i:Nat}{o h:Expr}(S:PE X o (kQ i))(K:PE X h (lo B ta))(P:∀v,assign (.Subscript o h pos) X.env v=(do
  let l <-holding [v] (eval o X.env)let t <-holding [v,l] (eval h X.env)standAt pos
  holding [v,l,t] (setItem l t v)release [v,l,t] []):=by intro _;rfl):PG X (.Subscript o h pos) (loG false B<|WL.abq i ta):=PG.imp (ahN S K set_list P) λv y H Q p=>by obtain⟨d,F,w,R,r,q⟩:=p;have q:Rq B d F (match d[i]? with|some (.ow ws)=>(match ta d with|.ok (.int k)=>(match WL.ixN ws.length k with|some j=>.ok<|d.set i<|.ow<|ws.set j w|none=>.bad)|_=>.bad)|_=>.bad) _:=q;cases e:d[i]? with|none=>rw[e]at q;exact q.elim|some sl=>rw[e]at q;cases sl with|no|va _|od _ _|ob=>exact q.elim|ow ws=>obtain⟨a,N,D,Y,O,G,C⟩:=R.ow i ws e;have q:=q;refine⟨.ref a,D,d,F,R,?_⟩;cases x:ta d with|bad=>rw[x]at q;exact q|ex c=>rw[x]at q;exact(q).elim|ok k=>rw[x]at q;intro u Z U M f A;cases k with
 |int k=>simp only[RW]at A;have n:Rq B d F (match WL.ixN ws.length k with|some j=>.ok<|d.set i<|.ow<|ws.set j w|none=>.bad) _:=q;cases s:WL.ixN ws.length k with|none=>rw[s]at n;exact n.elim|some j=>
   rw[s]at n;have J:=f.h a _ G;refine⟨a,N,k,j,rfl,A,J,by rw[<-C.length];exact s,?_⟩;refine n y _ U (M.write e D (f.nf a _ G Y) O J<|RWs.set (r.keep f.f) j<|C.keep f.f) ⟨f.f,f.nf,λb E T=>?_,λz=>nomatch z⟩;by_cases I:b=a;.subst I;exact⟨_,aj⟩
   .exact⟨E,by rw[ai I];exact f.h b E T⟩
 |_=>exact(q).elim
def qO(h:∀ws a c,gs ws a≠.ex c):∀w a c,WL.kq gs w a≠.ex c:=λw a c q=>by cases w<;>simp [WL.kq]at q<;>exact h _ _ _ q
def aep{i:Nat}:∀w a c,WL.abq i ta w a≠.ex c:=λw a c q=>by
 simp only[WL.abq]at q;split at q
 .split at q;.split at q<;>cases q
  .cases q
 .cases q
abbrev Bx.calm(B:Bx):Bx:=⟨B.K,B.H0,B.F0,λ_ _ _=>False,λ_ _ _ _ _ h=>h⟩
def RS.ag6{σ a F H}(R:RS B σ a F H):RS B.calm σ a F H:=⟨⟨R.rb.sub,R.rb.base,R.rb.fz0,R.rb.fr⟩,R.len,R.va,R.ow,R.ap,R.dd⟩
def RB.aic{F H}(R:RB B.calm F H):RB B F H:=⟨R.sub,R.base,R.fz0,R.fr⟩
def RS.ahead{σ:Ws}{f:L2.St}{F H:Hp}(R:RS B σ f F H)(k:Nat):RS B (List.replicate k .no++σ) (List.replicate k none++f) F H:=by
 have c:∀{i:Nat}{p:Sl},(List.replicate k Sl.no++σ)[i]?=some p->p≠.no->k<=i/\σ[i-k]?=some p:=λ{i p}e M=>by
  by_cases d:i<k;.rw[apt (by simpa using d)]at e;rw[apU,an4 d]at e;exact absurd (aow e).symm M
  .rw[apa (by simp;omega)]at e;simp only[ap2]at e;exact⟨by omega,e⟩
 have r:∀{i:Nat}{x:Option V},k<=i->f[i-k]?=some x->(List.replicate k none++f)[i]?=some x:=λ{i x}d e=>by rw[apa (by simp;omega)];simpa using e
 have q:∀{i:Nat}{x:Option V},k<=i->(List.replicate k none++f)[i]?=some x->f[i-k]?=some x:=λ{i x}d e=>by rw[apa (by simp;omega)]at e;simpa using e
 refine⟨R.rb,by simp[R.len],λi w e=>?_,λi ws e=>?_,λi j ws D a t h n G y=>?_,λi u A e=>?_,λi j u A J E a t h n G y=>?_,λi e=>?_⟩;rotate_left 3;.obtain⟨d,e⟩:=c e (by intro z;cases z);obtain⟨a,I,l,o⟩:=R.dd.od _ u A e;exact⟨a,I,r d l,o⟩
 .obtain⟨d,h⟩:=c h (by intro z;cases z);obtain⟨s,n⟩:=c n (by intro z;cases z);exact R.dd.ad _ _ u A J E a (by omega) h n (q d G)<|q s y
 .obtain⟨d,e⟩:=c e (by intro z;cases z);obtain⟨a,C,N,l,o⟩:=R.dd.ob _ e;exact⟨a,C,N,r d l,o⟩
 .obtain⟨d,e⟩:=c e (by intro z;cases z);obtain⟨v,l,o⟩:=R.va _ w e;exact⟨v,r d l,o⟩
 .obtain⟨d,e⟩:=c e (by intro z;cases z);obtain⟨a,K,l,o⟩:=R.ow _ ws e;exact⟨a,K,r d l,o⟩
 .obtain⟨d,h⟩:=c h (by intro z;cases z);obtain⟨s,n⟩:=c n (by intro z;cases z);exact R.ap _ _ ws D a (by omega) h n (q d G)<|q s y
def RS.forget{σ c d F H}(R:RS B σ d F H)(o:c.length=σ.length)(h:∀(i:Nat)f,c[i]?=some f->f≠.no->σ[i]?=some f):RS B c d F H:=⟨R.rb,by rw[o];exact R.len,λi w e=>R.va i w (h i _ e<|by simp),λi ws e=>R.ow i ws (h i _ e<|by simp),λi j ws k a l p r=>R.ap i j ws k a l (h i _ p<|by simp) (h j _ r<|by simp),R.dd.via rfl id (λ_ _ z=>.inl z) (λi f n e=>⟨h i _ e (by intro z;subst z;exact n),rfl⟩) (aB.refl _) λ_ _ _ a u _ _ s q t=>⟨q,t,s⟩⟩
def Keeps(k:Nat)(g:GF):Prop:=∀w c a,g w c=.ok a->a.length=c.length/\∀j:Nat,k<=j->a[j]?=c[j]?
def bt{k i}(h:i<k):Keeps k (WL.aq i):=λw c a e=>by cases e;exact⟨by simp,λj d=>by grind⟩
end
end WS
set_option autoImplicit true
set_option relaxedAutoImplicit true
namespace WS
open PySem PySem.Spec PyProof.Rows L2
open WL(Res Sl Ws EF TF AF LF GF GsF SF Out OX RF Tw)
section
variable{X:Cx}{B:Bx}{e tg iter:Expr}{pos:Pos}{ta:EF}{tt:TF}{it:LF}{g:GF}{b:SF}{k:Nat}
def vG   (hg:Keeps k g)(R1:RS B σ σV F1 H1)(wk:Walk B.K J xs F1)(hx:xs.length<=WL.lim)(hc:WL.ba g tt ta (List.replicate k .no++σ) xs=.ok all)(fin:∀n l h,RB B l h->Gr F1 H1 l h->RWs B.K l all n->∀D,h D=none->Q (.ref D) (upd h D<|.lst n)):ml (aB H1) J (loG true B.calm g) (loT B.calm tt) (lo B.calm ta) (List.replicate k none++σV) H1 Q:=by
 refine⟨λi m n p h=>m=xs.length-i/\i<=xs.length/\n.length<=i/\∃l d rest,RS B.calm (List.replicate k .no++σ) p l h/\Gr F1 H1 l h/\RWs B.K l d n/\WL.ba g tt ta (List.replicate k .no++σ) (xs.drop i)=.ok rest/\d++rest=all,⟨xs.length,rfl,aoF _,aoF _,F1,[],all,(R1.ag6).ahead k,Gr.refl,by simp[RWs],by simpa using hc,rfl⟩,?_⟩;rintro i m n p h⟨rfl,hi,R,l,d,rest,K,t,N,a,f⟩;refine⟨t.h,Nat.lt_of_le_of_lt (aoh R<|aoh hi hx) (by decide),?_⟩;by_cases s:i<xs.length;.have hd:=apK s;rw[hd]at a;obtain⟨go,yl⟩:=wk.go i xs[i] (aod s) l h t.f K.rb.sub;refine .inr ⟨go,λr x C=>r.length<=i+1/\∃A d rest,RS B.calm (List.replicate k .no++σ) x A C/\Gr F1 H1 A C/\RWs B.K A d r/\WL.ba g tt ta (List.replicate k .no++σ) (xs.drop<|i+1)=.ok rest/\d++rest=all,λr x C⟨a1,a2⟩=>⟨xs.length-(i+1),by omega,rfl,s,a1,a2⟩,λv C hy=>?_⟩;obtain⟨A,U,r2⟩:=yl v C hy;simp only[WL.ba]at a;cases z:g xs[i] (List.replicate k .no++σ)with|bad=>rw[z]at a;cases a|ex c=>rw[z]at a;cases a|ok σ1=>
   rw[z]at a;obtain⟨kl,kk⟩:=hg _ _ _ z;refine⟨_,A,xs[i],U.rs _ _ _ K,r2,?_⟩;rw[z];intro q H3 F3 R3 S;have back:∀{w G:Hp},RS B.calm σ1 q w G->RS B.calm (List.replicate k .no++σ) q w G:=λ{w G}H=>H.forget kl.symm λj sl O ne=>by
    by_cases T:j<k;.rw[apt (by simpa using T),apU,an4 T]at O;exact absurd (aow O).symm ne
    .rw[kk j (by omega)];exact O
   have o:=U.gr.trans ⟨S.f,S.h rfl,S.nf⟩;have a:((tt σ1).bind λb=>match b with|true=>(ta σ1).bind λy=>(WL.ba g tt ta (List.replicate k .no++σ)<|xs.drop<|i+1).bind λn=>.ok (y::n)|false=>WL.ba g tt ta (List.replicate k .no++σ)<|xs.drop<|i+1)=.ok rest:=a;cases M:tt σ1 with|bad=>rw[M]at a;cases a|ex c=>rw[M]at a;cases a|ok b=>rw[M]at a;refine⟨σ1,F3,R3,?_⟩;rw[M];intro G w H I;cases b with|false=>rw[an5 aov];exact⟨by omega,w,d,rest,back H,t.trans<|o.trans I,N.keep (o.trans I).f,a,f⟩|true=>rw[an4 rfl];have a:=a;cases E:ta σ1 with|bad=>rw[E]at a;cases a|ex c=>rw[E]at a;cases a|ok y=>rw[E]at a;refine⟨σ1,w,H,?_⟩;rw[E];intro u H5 F5 R5 Y r5;have a:=a;cases P:WL.ba g tt ta (List.replicate k .no++σ) (xs.drop<|i+1)with|bad=>rw[P]at a;cases a|ex c=>rw[P]at a;cases a|ok zs=>rw[P]at a;cases a;exact⟨by rw[aoY,aqx];omega,F5,d++[y],zs,back R5,t.trans<|(o.trans I).trans Y,(N.keep ((o.trans I).trans Y).f).app<|.one r5,rfl,by rw[<-f];simp⟩
 .have Z:i=xs.length:=by omega
  subst Z;rw[aqv]at a;simp only[WL.ba]at a;cases a;rw[apc]at f;subst f;exact .inl ⟨wk.stop l h t.f K.rb.sub,λD hD=>fin n l h K.rb.aic t N D hD⟩
def zM(o:Keeps k g):∀d H Q,lo B (WL.cZ k it g tt ta) d H Q->abT k (loI B it) (loG true B.calm g) (loT B.calm tt) (lo B.calm ta) d H Q:=by
 intro d H Q⟨s,F,R,q⟩;have q:=Rq.bind<|Rq.bind q;refine⟨s,F,R,Rq.mono (aB.refl _) q λl a J v w j n wk=>?_⟩;by_cases i:l.length<=WL.lim;.rw[an4 i]at a;cases e:WL.ba g tt ta _ l with|bad|ex c=>rw[e]at a;exact(a).elim|ok all=>rw[e]at a;refine ml.w (vG o j wk i e λp u t h m r D f=>?_);exact a (.ref D) _ _ ((j.grow m h).new f _) (n.trans<|m.trans<|Gr.new (h.sub.free f) f _) (by exact i5 D p rfl (SqL.of aj)<|r.keep<|av (h.sub.free f) _)
 .rw[an5 i]at a;exact(a).elim
def acM(n:Keeps k g):∀d H Q,loL B (WL.sR k it g tt ta) d H Q->abT k (loI B it) (loG true B.calm g) (loT B.calm tt) (lo B.calm ta) d H Q:=by
 intro d H Q⟨j,F,R,q⟩;have q:=Rq.bind q;refine⟨j,F,R,Rq.mono (aB.refl _) q λi a J v w h m wk=>?_⟩;by_cases f:i.length<=WL.lim;.rw[an4 f]at a;cases e:WL.ba g tt ta (List.replicate k .no++j) i with|bad|ex c=>rw[e]at a;exact(a).elim|ok all=>rw[e]at a;refine ml.w (vG n h wk f e λt u s o l r D p=>?_);exact amX (h.grow l o) (m.trans l) r p a
 .rw[an5 f]at a;exact(a).elim
variable{scope:Scope}{ts:List Str}{elt:Expr}{ifs:List Expr}
def gS:xP X [] (loT B WL.fF):=λc s f H Q I a=>by obtain⟨d,F,R,q⟩:=a;exact acd _ s f H Q I<|q H F R Gr.refl
def ye (h:PT X c (loT B tt)):xP X [c] (loT B tt):=acb h
def nR(L:CompLook X scope)(h:X.calm=true)(hk:ts.length=k)(j:Keeps k g)(i:PI X tg iter (loI B it))(f:∀C c a d,PG (X.comp scope C ts c a d) tg<|loG true B.calm g)(m:∀C c a d,xP (X.comp scope C ts c a d) ifs<|loT B.calm tt)(l:∀C c a d,PE (X.comp scope C ts c a d) elt<|lo B.calm ta)(hs:∀x,foldedSetIterable iter X.env x=pure x:=by intro _;rfl):PE X (.ListComp elt [⟨tg,iter,ifs,0⟩] scope pos) (lo B<|WL.cZ k it g tt ta):=by subst hk;exact PE.imp (ack L h i f m l hs)<|zM j
variable{st:Stmt}{rest:List Stmt}{s1 s2:SF}{i:Nat}
def dD:PSs X [] (loS B WL.sNx):=PSs.imp afj λD c H a=>by obtain⟨d,F,R,q⟩:=a;exact q _ H F R<|aB.refl _
def ain:∀D a H,loS B (WL.aD s1 s2) D a H->ahc (loS B s1) (loS B s2) D a H:=λD a H f=>by refine eG f λd F R q=>?_;refine fv d F R ?_;have q:Oq B D F (match s1 d with|.nx _=>s2 _|o=>o):=q;cases e:s1 d with|nx σ'=>rw[e]at q;exact λh m l j s=>⟨_,l,j,Oq.mono s q⟩|bk σ'|ct σ'|rt w|ex c σ'|bad=>rw[e]at q;exact q
def ag(a:PS X st (loS B s1))(c:PSs X rest (loS B s2)):PSs X (st::rest) (loS B<|WL.aD s1 s2):=PSs.imp (dq a c) ain
def au(a:PS X st (loS B s1)):PSs X [st] (loS B s1):=hX a
def cR(c:PE X e (lo B ta)):PS X (.Return (some e) pos) (loS B<|WL.bg ta):=PS.imp (ad3 c) λD j H a=>by obtain⟨h,F,R,q⟩:=a;have q:=Oq.ofR q;exact⟨h,F,R,Rq.mono (aB.refl _) q λw d v l m f g r=>d v _ _ f.rb g.f r⟩
def i8 (l:PT X c (loT B tt))(m:PSs X a (loS B s1))(n:PSs X d (loS B s2)):PS X (.If c a d pos) (loS B<|WL.sIf tt s1 s2):=PS.imp (ak4 l m n) λD o H f=>by refine eG f λh F R q=>?_;have q:=Oq.ofR q;refine fv h F R (Rq.mono (aB.refl _) q λx p s r j g=>?_);cases x with|true|false=>exact⟨h,r,j,Oq.mono g.f p⟩
def zL (f:∀a H Q,lo B ta a H Q->tV a H Q):∀D a H,loS B (WL.bq i ta) D a H->agn tV (L2.aq i) D a H:=λD a H c=>by obtain⟨j,F,R,q⟩:=c;have q:=Oq.ofR q;exact f _ _ _ ⟨j,F,R,Rq.mono (aB.refl _) q λw d v l m h g r=>d _ _ _ (h.set r) g.f⟩
def zK (f:∀c H Q,loL B l c H Q->tV c H Q):∀D c H,loS B (WL.jf i l) D c H->agn tV (L2.aq i) D c H:=λD c H d=>by refine eG d λs F R q=>?_;have q:=Oq.ofR q;exact f _ _ _ (fv s F R<|Rq.mono (aB.refl _) q λws o a x v w p g h n t r m=>o _ _ _ (p.anH h n t r λj u _ e=>m j _ e) g.f)
def agK (f:X.N.Nodup)(a:X.N[i]?=some x)(h:Loc X.env.scope x)(d:PE X e (lo B ta))(hs:swapsWith e (some<|.Name x pos') pos.line X.env=pure false:=by rfl)(c:FL X x:=by first|exact .inl rfl|exact .inr rfl|assumption):PS X (.Assign [.Name x pos'] e pos) (loS B<|WL.bq i ta):=PS.imp (uX f a h d hs c) (zL λ_ _ _ q=>q)
def i6  (f:X.N.Nodup)(a:X.N[i]?=some x)(h:Loc X.env.scope x)(d:PE X e (loL B l))(hs:swapsWith e (some<|.Name x pos') pos.line X.env=pure false:=by rfl)(c:FL X x:=by first|exact .inl rfl|exact .inr rfl|assumption):PS X (.Assign [.Name x pos'] e pos) (loS B<|WL.jf i l):=PS.imp (uX f a h d hs c) (zK λ_ _ _ q=>q)
def i7 (q:X.N.Nodup)(h:X.N[i]?=some y)(j:X.env.scope.names.lookup y=some .local)(f:swapsWith (.ListComp elt [⟨tg,iter,ifs,0⟩] scope pos) (some<|.Name y py) spos.line X.env=pure true)(L:CompLook X scope)(o:X.calm=true)(hk:ts.length=k)(m:Keeps k g)(l:PI X tg iter (loI B it))(n:∀C c a d,PG (X.comp scope C ts c a d) tg<|loG true B.calm g)(r:∀C c a d,xP (X.comp scope C ts c a d) ifs<|loT B.calm tt)(p:∀C c a d,PE (X.comp scope C ts c a d) elt<|lo B.calm ta)(hs:∀x,foldedSetIterable iter X.env x=pure x:=by intro _;rfl):PS X (.Assign [.Name y py] (.ListComp elt [⟨tg,iter,ifs,0⟩] scope pos) spos) (loS B<|WL.bq i<|WL.cZ k it g tt ta):=by subst hk;exact PS.imp (jR q h j f L o l n r p hs)<|zL<|zM m
def abC (q:X.N.Nodup)(h:X.N[i]?=some y)(j:X.env.scope.names.lookup y=some .local)(f:swapsWith (.ListComp elt [⟨tg,iter,ifs,0⟩] scope pos) (some<|.Name y py) spos.line X.env=pure true)(L:CompLook X scope)(o:X.calm=true)(hk:ts.length=k)(m:Keeps k g)(l:PI X tg iter (loI B it))(n:∀C c a d,PG (X.comp scope C ts c a d) tg<|loG true B.calm g)(r:∀C c a d,xP (X.comp scope C ts c a d) ifs<|loT B.calm tt)(p:∀C c a d,PE (X.comp scope C ts c a d) elt<|lo B.calm ta)(hs:∀x,foldedSetIterable iter X.env x=pure x:=by intro _;rfl):PS X (.Assign [.Name y py] (.ListComp elt [⟨tg,iter,ifs,0⟩] scope pos) spos) (loS B<|WL.jf i<|WL.sR k it g tt ta):=by subst hk;exact PS.imp (jR q h j f L o l n r p hs)<|zK<|acM m
def kA(m:PE X e (lo B ta))(l:PG X tg (loG false B g))(z:∀w a c,g w a≠.ex c)(hs:swapsWithSole [tg] e pos.line X.env=pure false:=by rfl)(hw:swappedStores [tg] e X.env=pure none:=by rfl)(t:(assignEach [tg] X.env).map (·.2)=[assign tg X.env]:=by rfl):PS X (.Assign [tg] e pos) (loS B<|WL.wD ta g):=PS.imp (ahG m l hs hw t) λD x H d=>by refine eG d λa F R q=>?_;have q:=Oq.ofR q;exact fv a F R (Rq.mono (aB.refl _) q λw p v y o s f r=>agl a o w s r<|Rq.mono f.f (Oq.ofR p) λu j h C A R2 n=>j _ _ _ R2<|f.f.trans n.f)
def pH(hK:X.K=B.K)(h:PS X st (wu<|tBM X.K "list" r0 (kQ i)<|hU (lo B ta) xT)):PS X st (loS B<|WL.abp i ta):=PS.imp h λD n H m=>by refine eG m λc F R q=>?_;have q:Oq B D F (match c[i]? with|some (.ow ws)=>WL.ofR c (ta c) _|_=>.bad):=q;cases d:c[i]? with|none=>rw[d]at q;exact q.elim|some sl=>rw[d]at q;cases sl with|no|va _|od _ _|ob=>exact q.elim|ow ws=>
   refine pE (R.ow i ws d) λa r s A y l p=>?_;have q:=Oq.ofR q;refine⟨.ref a,s,.inl ⟨rfl,r,SqL.of l⟩,c,F,R,Rq.mono (aB.refl _) q λw j v C z u f x=>?_⟩;by_cases o:ws.length<WL.lim;.rw[an4 o]at j;have t:=f.h a _ l;exact akh a r v rfl rfl t (by rw[<-p.length];exact an6 o gZ)<|j n _ z (u.write d s (f.nf a _ l A) y t<|(p.keep f.f).app<|.one x) f.f
   .rw[an5 o]at j;exact(j).elim
def jJ(h:PS X st (loS B s1)):PS X st (loS B<|WL.yO i s1):=PS.imp h λD d H a=>by refine eG a λj F R q=>?_;refine ix (R.frz i) λf s c _=>?_;exact⟨_,f,c,Oq.mono s q⟩
def aip:∀D o H,loS B (WL.jh it g b) D o H->amE (loI B it) (loG false B g) (loS B b) D o H:=λD o H G=>by
 refine eG G λO F R q=>?_;have q:=Oq.ofR q;refine fv O F R (Rq.mono (aB.refl _) q λh qx J H1 P U g1 wk=>?_);refine⟨λi m d A=>m=h.length-i/\i<=h.length/\∃j l,RS B j d l A/\aB P l/\Oq B D l (WL.forL g b (h.drop i) j),⟨h.length,rfl,aoF _,O,P,U,aB.refl _,by rw[arD];exact Oq.mono g1.f qx⟩,?_⟩;rintro i m d A⟨rfl,a0,j,l,E,K,s⟩;by_cases p:i<h.length;.have T:=apK p;rw[T]at s;obtain⟨go,yl⟩:=wk.go i h[i] (aod p) l A K E.rb.sub;refine .inr ⟨go,_,λa M h2=>⟨h.length-(i+1),by omega,rfl,p,h2⟩,λv M hy=>?_⟩;refine gB (yl v M hy) λF2 I Y=>?_;have s:=Oq.ofR s;refine agl j F2 h[i] (I.rs _ _ _ E) Y (Rq.mono I.same s λu f Q H3 N Z g3=>?_);refine fv u N Z ?_;have y:=I.same.trans g3.f;cases t:b u with|nx a|ct a=>rw[t]at f;exact λn C x z r=>⟨a,x,z,(K.trans y).trans r,Oq.mono (y.trans r) f⟩|bk a=>rw[t]at f;exact λn C x z r=>f n C x z<|y.trans r|rt w=>rw[t]at f;exact λv4 C x z r=>f v4 C x z<|y.trans r|ex c a=>rw[t]at f;exact B.mono c a l N y f|bad=>rw[t]at f;exact f
 .have S:i=h.length:=by omega
  subst S;rw[aqv]at s;exact .inl ⟨wk.stop l A K E.rb.sub,s d A l E<|aB.refl _⟩
def cu (h:PassesOwn (model X.prog X.w) X.A X.env X.xe)(c:X.calm=true)(d:PI X tg iter (loI B it))(f:PG X tg (loG false B g))(a:PSs X body (loS B b))(hs:∀x,foldedSetIterable iter X.env x=pure x:=by intro _;rfl):PS X (.For tg iter body [] pos) (loS B<|WL.jh it g b):=PS.imp (ad4 h c d f a hs) aip
def nN  (O:PassesOwn (model X.prog X.w) X.A X.env X.xe)(K:PT X c (loT B tt))(J:PSs X body (loS B b)):PS X (.While c body [] pos) (loS B<|WL.uS n tt b):=PS.imp (ab7 O K J) λD N H v=>by refine eG v λC F R q=>?_;refine⟨λm f A=>∃a r,RS B a f r A/\Oq B D r (WL.df tt b m a),⟨n C,C,F,R,q⟩,?_⟩;rintro m f A⟨a,r,I,t⟩;cases m with|zero=>exact(t).elim|succ m=>have t:=Oq.ofR t;refine fv a r I (Rq.mono (aB.refl _) t λx d M y z l=>?_);cases x with|false=>rw[an5 aov];exact d f M y z l.f|true=>refine⟨_,λE P G=>⟨m,apx m,G⟩,a,y,z,?_⟩;cases p:b a with|nx σ2|ct σ2=>rw[p]at d;exact λh u j o s=>⟨σ2,j,o,Oq.mono (l.f.trans s) d⟩|bk σ2=>rw[p]at d;exact λh u j o s=>d h u j o<|l.f.trans s|rt w=>rw[p]at d;exact λv4 u j o s=>d v4 u j o<|l.f.trans s|ex c σ2=>rw[p]at d;exact B.mono c σ2 r y l.f d|bad=>rw[p]at d;exact d
end
def spW(K:W.Frag)(n:Nat)(f:List VW->Res VW):Sp:=λd H Q _=>∃F ws,aB F H/\RWs K F ws d/\ws.length=n/\match f ws with|.ok w=>∀v c b,aB F b->aB b c->aB H c->(∀a o,b a=some o->F a=some o\/H a=none/\NF o)->RW K b w v->Q v c|_=>False
section
variable{K:W.Frag}
theorem RS.start{N F H ws vs}(s:aB F H)(r:RWs K F ws vs)(B:ws.length<=N.length):RS ⟨K,H,F,λ_ _ _=>False,λ_ _ _ _ _ h=>h⟩ (ws.map .va++List.replicate (N.length-ws.length) .no) (L2.start N vs) F H:=by
 have t:=r.length;have b:∀{i:Nat}{c:Sl},(ws.map Sl.va++List.replicate (N.length-ws.length) Sl.no)[i]?=some c->c≠.no->∃u,ws[i]?=some u/\c=.va u:=λ{i c}e A=>by grind
 refine⟨⟨s,aB.refl _,aB.refl _,λa o h=>.inl h⟩,by simp[L2.start,t],λi u e=>?_,λi d e=>?_,λi j d g a k f q _ _=>?_,λi p d e=>?_,λi j p d y g a k f q _ _=>?_,λi e=>?_⟩;rotate_left 3;.refine gB (b e<|by intro z;cases z) λx ex h=>?_;cases h
 .obtain⟨x,ex,h⟩:=b f (by intro z;cases z);cases h
 .obtain⟨x,ex,h⟩:=b e (by intro z;cases z);cases h
 .refine gB (b e<|by intro z;cases z) λx ex h=>?_;cases h;obtain⟨v,l,n⟩:=r.get ex;refine⟨v,?_,n⟩;have m:i<vs.length:=(aoa.mp l).1;unfold L2.start;rw[apt (by simpa using m),aoy,l];rfl
 .obtain⟨x,ex,h⟩:=b e (by intro z;cases z);cases h
 .obtain⟨x,ex,h⟩:=b f (by intro z;cases z);cases h
end
section
variable{X:Cx}{B:Bx}{k:Nat}{f:Addr}{fd:FuncData}{ps:List Str}{fn:List VW->Res VW}{x:Str}{p pos:Pos}{e:Expr}{es:List Expr}{tas:AF}{n:Nat}
def zN(hK:X.K=B.K){E}(J:∀g ws,tas g=.ok ws->ws.length=n):∀b H Q,lo B (WL.ax fn tas) b H Q->abU (spW X.K n fn) [] E (loA B tas) b H Q:=by intro b H Q⟨g,F,R,q⟩;have q:=Rq.bind q;refine fv g F R ?_;cases j:tas g with|bad|ex c=>rw[j]at q;exact q|ok ws=>rw[j]at q;intro N O A d K C;rw[apc,hK];refine aby A ws d.rb.sub C (J g ws j) ?_;have h:Rq B g F (match fn ws with|.ok w=>.ok w|_=>.bad) _:=q;cases y:fn ws with
|bad|ex c=>rw[y]at h;exact h.elim
|ok w=>rw[y]at h;intro v l i t D s fr G;have u:Gr A _ i l:=⟨t,s,λa o I m=>by cases r:i a with|none=>rfl|some o2=>
  rcases fr a o2 r with z|z;.rw[m]at z;cases z
  .rw[I]at z;cases z.1⟩;have M:RB B i l:=⟨D,d.rb.base.trans s,d.rb.fz0.trans t,λa o r=>by
  rcases fr a o r with z|z;.exact d.rb.fr a o z
  .exact .inr ⟨d.rb.base.free z.1,z.2⟩⟩;exact h v l i (d.grow u M) (K.trans u) G
def rN(hK:X.K=B.K)(F:FnOk X.prog X.w X.K X.mg X.base CX0 k f fd ps (spW X.K n fn))(d:Room k X.A)(i:Gl X x)(m:X.mg x=some (.ref f))(hk:W.keepIn X.K (.ref f)=true)(c:Binds X.K fd ps [])(g:PA X (e::es) (loA B tas))(h:∀l ws,tas l=.ok ws->ws.length=n)(b:Dbg x:=by decide)(j:SE X e es:=by rfl)(a:BT X pos es:=by rfl):PE X (.Call (.Name x p) (e::es) [] pos) (lo B<|WL.ax fn tas):=PE.imp (se F d i m hk c .nil afv g b j a)<|zN hK h
def i2:∀a(ws:List VW),WL.ao a=.ok ws->ws.length=0:=λa ws e=>by cases e;rfl
def de (h:∀a(ws:List VW),tas a=.ok ws->ws.length=n):∀a(ws:List VW),WL.aa t tas a=.ok ws->ws.length=n+1:=λa ws q=>by have q:(t a).bind _=.ok _:=q;cases d:t a with|bad|ex c=>rw[d]at q;cases q|ok x=>rw[d]at q;cases b:tas a with|bad|ex c=>rw[b]at q;cases q|ok xs=>rw[b]at q;cases q;simp[h a _ b]
end
section
variable{X:Cx}{K:W.Frag}
def pb:∀a c,WL.abr a≠.ex c:=λa c h=>by
 unfold WL.abr at h;split at h;.split at h<;>cases h
 .cases h
theorem abl{F}:∀{xs vs b},RWs K F xs vs->WL.allB xs=some b->∃bs:List Bool,vs=bs.map V.bl/\bs.all id=b|[],vs,b,r,e=>by subst r;cases e;exact⟨[],rfl,rfl⟩|x::xs,vs,b,r,e=>by obtain⟨v,t,rfl,q,s⟩:=r;cases x with
 |bl k=>simp only[WL.allB]at e;cases a:WL.allB xs with|none=>rw[a]at e;cases e|some c=>rw[a]at e;cases e;obtain⟨bs,rfl,h⟩:=abl s a;subst q;exact⟨k::bs,rfl,by simp only[aqu,id,h]⟩
 |_=>simp[WL.allB]at e
set_option tactic.hygienic true in
def w_all(l:X.calm=true)(hK:X.K=K):bC X (.builtin "all") (loN K WL.abr):=by subst hK;refine bC.imp (abb l) λm H Q f=>?_;refine ke f λF ws s r q=>?_;cases e:WL.abr _ with|bad|ex c=>rw[e]at q;exact q.elim|ok w=>
  rw[e]at q;unfold WL.abr at e;split at e
  .split at e;.rename_i b j;cases e;obtain⟨v,rfl,h⟩:=eJ r;refine ke h λa n d k i=>?_;subst d;obtain⟨bs,rfl,g⟩:=abl i j;subst g;exact⟨a,bs,rfl,s.seq k,eq1 q<|rfl⟩
   .cases e
  .cases e
end
section
variable{X:Cx}{B:Bx}{K:W.Frag}{o e:Expr}{to:EF}{tas:AF}{pos apos cpos:Pos}
theorem qM:∀{ys:List VW}{x:VW}{j k:Nat}{n m:Nat},WL.okD n x=true->WL.gP m ys=true->WL.idx x j ys=some k->∃i,k=j+i/\abm (λz=>PyData.eqv z<|toD x) (fZ ys) i|[],_,_,_,_,_,_,_,e=>by simp[WL.idx]at e|y::ys,x,j,k,n,m,hx,a,e=>by cases m with|zero=>cases a|succ m=>
   have a:=ao7.mp a;simp only[WL.idx]at e;have f:=jy m n y x a.1 hx;by_cases h:WL.eqv y x=true;.rw[an4 h]at e;cases e;refine⟨0,rfl,⟨toD y,rfl,by show PyData.eqv (toD y) (toD x)=true;rw[f];exact h⟩,λm d g=>absurd g<|aph _⟩
   .rw[an5 h]at e;obtain⟨i,rfl,⟨d,p,r⟩,q⟩:=qM hx a.2 e;refine⟨i+1,by omega,⟨d,by simpa[fZ]using p,r⟩,λb l g c=>?_⟩;cases b with|zero=>simp[fZ]at c;subst c;show PyData.eqv (toD y) (toD x)=false;rw[f];simpa using h|succ b=>exact q b l (by omega) (by simpa[fZ]using c)
set_option tactic.hygienic true in
def ui{x:Expr}(hK:X.K=B.K)(hu:X.A.units+64<cLine)(T:PE X o (lo B to))(S:PA X [x] (loA B tas))(f:attributeBase o "index" X.env (eval o X.env)=eval o X.env:=by rfl)(l:((backTo cpos<|starEach [x] X.env).all (λx=>!x.1)&&(backToKw cpos<|keywordEach [] X.env).all (λx=>x.1.isSome)&&decide (([x]:List Expr).length+([]:List Keyword).length+(if([]:List Keyword).isEmpty then 0 else 1)<30))=true:=by rfl)(g:(apos.endLine==cpos.line)=true:=by rfl)(hs:starEach [x] X.env=(false,eval x X.env)::starEach [] X.env:=by rfl)(d:BT X cpos []:=by rfl):PE X (.Call (.Attribute o "index" apos) [x] [] cpos) (lo B<|WL.aiY "list" WL.gh to tas):=PE.imp (mr aoL PySem.F.slot_list_index PySem.F.type_list_index zx T S f l g hs d) λa0 H Q r=>by obtain⟨p,F,R,q⟩:=r;have q:=Rq.bind q;refine⟨p,F,R,Rq.mono (aB.refl _) q λw n v H1 Z A C s=>?_⟩;cases w with
 |lst ys=>have n:=Rq.bind (show Rq B p F ((tas p).bind λws=>WL.gh (.lst ys) ws) _ from n);have t:=s;simp only[RW]at s;obtain⟨a,I,rfl,Y,ra⟩:=s;refine⟨.inl ⟨rfl,I,by rw[hK];exact A.rb.sub.seq Y⟩,p,Z,A,Rq.mono C.f n λws m us O M R2 E J=>?_⟩;cases em:WL.gh (.lst ys) ws with
  |bad=>rw[em]at m;exact m.elim|ex c=>
    unfold WL.gh at em;split at em
    .split at em;.split at em<;>cases em
     .cases em
    .cases em|ok z=>
    rw[em]at m;unfold WL.gh at em;split at em
    .rename_i e1 e2 N D G;cases G;split at em
     .rename_i b;rw[aoo,aoo]at b;obtain⟨b,h⟩:=b;split at em
      .rename_i k P;cases em;obtain⟨u,rfl,ru⟩:=eJ J;obtain⟨i,y,fa⟩:=qM b.1 b.2 P;have y:k=i:=by omega
       subst y;have sub:=R2.rb.sub;have U:=RW.isD 51 (.lst ys) (.ref a) b.2<|(t.keep E.f).keep sub;have j:(fZ ys).length<=1000000:=by rw[uD,aos];exact apI h
       refine⟨50,u,toD D,fZ ys,k,rfl,by rw[hK];exact RW.isD 50 D u b.1<|ru.keep sub,by rw[hK];exact U,by omega,fa,j,?_⟩;exact m (.int k) O M R2 (C.trans E) (by simp[RW])
      .cases em
     .cases em
    .cases em
 |_=>exact(show False from n).elim
def aaK{P w K mg b x c st f i N ps k m}(t:Fun K x c st f i)(S:FnScope N ps (ak st))(v:ps.length=m):FnOk P w K mg b CX0 k f i ps (spW K m λ_=>.bad):=⟨λj H Q E a=>by refine xR a λ_ _ _ _ _ h=>?_;exact h.elim,λA d s H g l j Q E q u n p r a=>by refine xR a λ_ _ _ _ _ h=>?_;exact h.elim⟩
noncomputable def adD:List (EF×EF)->AF|[]=>WL.ao|p::ps=>WL.aa p.1<|WL.aa p.2<|adD ps
def PD(X:Cx)(B:Bx)(pos:Pos)(keys:List (Option Expr))(b:List Expr)(a:AF):Prop:=∃ps:List (EF×EF),PPs X pos keys b (ps.map λp=>(lo B p.1,lo B p.2))/\a=adD ps
def agW:PD X B pos [] [] WL.ao:=⟨[],afm,rfl⟩
def rO{k v:Expr}{ks:List (Option Expr)}{vs:List Expr}{b tv:EF}{a:AF}(hk:PE X k (lo B b))(d:PE X v (lo B tv))(c:PD X B pos ks vs a):PD X B pos (some k::ks) (v::vs) (WL.aa b<|WL.aa tv a):=by obtain⟨ps,h,rfl⟩:=c;exact⟨(b,tv)::ps,ab8 hk d h,rfl⟩
theorem u7{σ:Ws}{b:L2.St}:∀(ps:List (EF×EF)){F H:Hp}(R:RS B σ b F H){k:List VW->Prop}(q:Rq B σ F (adD ps σ) k){Q:List (V×V)->Hp->Prop}(f:∀ws a c d,k ws->RS B σ b c d->Gr F H c d->RWs B.K c ws (a.flatMap λp=>[p.1,p.2])->Q a d),uH (ps.map λp=>(lo B p.1,lo B p.2)) b H Q|[],F,H,R,k,q,Q,f=>f [] [] F H q R Gr.refl (by simp[RWs])|p::ps,F,H,R,k,q,Q,f=>by have q:=Rq.bind (show Rq B σ F ((p.1 σ).bind λx=>(WL.aa p.2 (adD ps) σ).bind λw=>.ok (x::w)) k from q);refine⟨σ,F,R,Rq.mono (aB.refl _) q λx i v1 D C n h r=>?_⟩;have i:=Rq.bind<|Rq.bind i;refine⟨σ,C,n,Rq.mono h.f i λy g v2 d c R2 j s=>?_⟩;have g:=Rq.bind g;refine u7 ps R2 (Rq.mono (h.f.trans j.f) g λ_ z=>z) λws a m v u t l A=>?_;refine f (x::y::ws) ((v1,v2)::a) m v u t ((h.trans j).trans l) ?_;show RWs B.K m (x::y::ws) (v1::v2::a.flatMap λp=>[p.1,p.2]);exact .cons ((r.keep j.f).keep l.f)<|.cons (s.keep l.f) A
theorem p0{F:Hp}:∀{ws ks vs:List VW}{a:List (V×V)},WL.iG ws=some (ks,vs)->RWs K F ws (a.flatMap λp=>[p.1,p.2])->∃b:List (Key×V),a=b.map (λd=>(kV d.1,d.2))/\RWs K F ks (b.map λp=>kV p.1)/\RWs K F vs (b.map λp=>p.2)
|[],ks,vs,a,e,r=>by simp only[WL.iG]at e;cases e;cases a with|nil=>exact⟨[],rfl,by simp[RWs],by simp[RWs]⟩|cons p a=>simp[RWs]at r
|[w],ks,vs,a,e,r=>by cases w<;>simp[WL.iG]at e|w::u::ws,ks,vs,a,e,r=>by cases w with
 |str k=>simp only[WL.iG]at e;cases c:WL.iG ws with|none=>rw[c]at e;cases e|some p=>rw[c]at e;cases e;cases a with|nil=>simp[RWs]at r|cons pv a=>obtain⟨v1,v2⟩:=pv;have r:RWs K F (.str k::u::ws) (v1::v2::a.flatMap λp=>[p.1,p.2]):=r;simp only[RWs]at r;obtain⟨m,q,i,f,s,n,l,h,r⟩:=r;cases i;cases l;obtain⟨b,rfl,g,j⟩:=p0 c r;simp only[RW]at f;subst f;exact⟨(Sum.inr k,v2)::b,rfl,.cons (by simp[RW,kV]) g,.cons h j⟩
 |_=>simp[WL.iG]at e
theorem lI:∀(a b:List (Key×V)),(∀p∈a,rD b p.1=none)->a.Pairwise (λp q=>p.1≠q.1)->iQ b a=b++a
|[],b,_,_=>by simp[iQ]|p::a,b,h,hp=>by
 rw[apX]at hp;show iQ (putK b p.1 p.2) a=_;rw[ab6 _ (h p<|by simp),lI a _ (λq c=>?_) hp.2];.simp
 .rw[pN _ _ _ _ (h p<|by simp),an5<|aom<|hp.1 q c];exact h q (by simp[c])
theorem vP{F:Hp}:∀{ks:List VW}{c:List (Key×V)},WL.dy ks=true->RWs K F ks (c.map λp=>kV p.1)->c.Pairwise λp q=>p.1≠q.1
|[],c,_,r=>by cases c with|nil=>exact .nil|cons p c=>simp[RWs]at r
|w::ks,c,h,r=>by cases c with|nil=>simp[RWs]at r|cons p c=>simp only[aor,RWs]at r;obtain⟨v,t,e,q,r⟩:=r;cases e;cases w with
 |str k=>
  simp only[WL.dy,aoo]at h;refine apX.mpr ⟨λg f=>?_,vP h.2 r⟩;simp only[RW]at q;intro z;rw[z]at q;have mem:∃w∈ks,RW K F w (kV g.1):=by have:kV g.1∈c.map λp=>kV p.1:=aox.mpr ⟨g,f,rfl⟩;obtain⟨i,n,m⟩:=apQ this;obtain⟨w,d,l⟩:=RWs.get' r<|aod n;rw[m]at l;exact⟨w,aoS d,l⟩
  obtain⟨w,hw,a⟩:=mem;rw[q]at a;have d:=h.1;simp only[Bool.not_eq_true',List.any_eq_false]at d;have:=d w hw;cases w with|str y=>simp only[RW]at a;cases a;simp at this|non=>simp[RW]at a|bl b=>simp[RW]at a|int i=>simp[RW]at a|ty i=>simp[RW]at a|tup i=>simp[RW]at a|lst i=>simp[RW]at a|dic i j=>simp[RW]at a|cls i=>simp[RW]at a|exc i j=>simp[RW]at a|ins i j=>simp[RW]at a|id i=>simp[RW]at a
 |_=>simp[WL.dy]at h
def RS.put{σ:Ws}{d:L2.St}{F H:Hp}(R:RS B σ d F H){p:Addr}{o o':HO}(g:F p=none)(r:B.H0 p=none)(J:H p=some o)(E:∀G,o≠.lst G)(nd:∀(j:Nat)(k l:List VW),σ[j]?=some (.od k l)->d[j]?≠some (some<|.ref p))(D:NF o':=by trivial):RS B σ d (upd F p o') (upd H p o'):=by
 refine⟨⟨λb u e=>?_,λb u e=>?_,R.rb.fz0.trans<|av g _,λa u e=>?_⟩,R.len,λi w e=>?_,λi ws e=>?_,R.ap,R.dd.via rfl id (λ_ _ z=>.inl z) (λ_ _ _ e=>⟨e,rfl⟩) (av g _) λj k l b M x I A t C=>by
 have f:b≠p:=λz=>by subst z;exact nd j k l x I
 exact⟨by rw[ai f];exact t,C,by rw[ai f];exact A⟩⟩
 .by_cases c:b=p;.subst c;rw[aj]at e⊢;exact e
  .rw[ai c]at e⊢;exact R.rb.sub b u e
 .have c:b≠p:=λz=>by subst z;rw[r]at e;cases e
  rw[ai c];exact R.rb.base b u e
 .by_cases c:a=p;.subst c;rw[aj]at e;cases e;exact .inr ⟨r,D⟩
  .rw[ai c]at e;exact R.rb.fr a u e
 .obtain⟨v,h,n⟩:=R.va i w e;exact⟨v,h,n.keep<|av g _⟩
 .obtain⟨a,q,h,n,y,m,s⟩:=R.ow i ws e;have f:a≠p:=λz=>by subst z;rw[J]at m;cases m;exact E q rfl
  exact⟨a,q,h,by rw[ai f];exact n,y,by rw[ai f];exact m,s.keep<|av g _⟩
def agT{keys:List (Option Expr)}{c:List Expr}{a:AF}(h:PD X B pos keys c a)(s:keys.all (·.isSome)=true:=by rfl)(M:keys.length=c.length:=by rfl)(h0:keys≠[]:=by intro z;cases z)(x:keys.length<=15:=by decide):PE X (.Dict keys c pos) (lo B<|WL.ang a):=by obtain⟨ps,hp,rfl⟩:=h;refine PE.imp (afs hp s M h0 x) λa0 H Q w=>?_;obtain⟨I,F,R,q⟩:=w;intro p l;have q:=Rq.bind q;have J:=R.rb.sub.free l;have y:=R.rb.base.free l;refine u7 ps (R.aif l<|.dK []) q λws P U Y d R2 r S=>?_;have i:U p=none:=r.nf p _ aj J;have n:Y p=some (.dK []):=r.h p _ aj;cases e:WL.iG ws with|none=>rw[e]at d;exact(show False from d).elim|some kv=>
  obtain⟨g,D⟩:=kv;rw[e]at d;obtain⟨f,rfl,A,T⟩:=p0 e S;by_cases m:(WL.dy g&&decide (g.length<=15))=true
  .have d:Rq B I F (if(WL.dy g&&decide (g.length<=15))=true then Res.ok (WL.W.dic g D)else Res.bad) _:=d;rw[an4 m]at d;rw[aoo]at m;have hm:iQ [] f=f:=by rw[lI f [] (λ_ _=>rfl) (vP m.1 A)];rfl
   refine⟨n,f,rfl,?_,?_⟩;.have:=A.length;rw[aos]at this;have:=apI m.2;omega
   .rw[hm];have N:H p=none:=l;refine(show∀v H' F',_ from d) (.ref p) _ _ (R2.put i y n (λxs z=>by cases z) λj g Z O hv=>by obtain⟨b,C,E,_,_,G,_⟩:=R.dd.od j g Z O;rw[hv]at E;cases E;rw[l]at G;cases G) ⟨r.f.trans<|av i _,λb u k=>?_,λb u k z=>?_⟩ ?_
    .have t:b≠p:=λz=>by subst z;rw[l]at k;cases k
     rw[ai t];exact r.h b u (by rw[ai t];exact k)
    .have t:b≠p:=λz=>by subst z;rw[l]at k;cases k
     rw[ai t];exact r.nf b u (by rw[ai t];exact k) z
    .simp only[RW];exact⟨p,f,rfl,.inl aj,A.keep<|av i _,T.keep<|av i _⟩
  .have d:Rq B I F (if(WL.dy g&&decide (g.length<=15))=true then Res.ok (WL.W.dic g D)else Res.bad) _:=d;rw[an5 m]at d;exact(show False from d).elim
def aeq{F}:∀k u,WL.o5 k [] []=some u->∃v,List.lookup k []=some v/\RW K F u v:=λk u h=>by simp[WL.o5]at h
def gu{F x b v0}{ks vs:List VW}{a}(f:RW K F b v0)(h:∀k u,WL.o5 k ks vs=some u->∃v,a.lookup k=some v/\RW K F u v):∀k u,WL.o5 k (.str x::ks) (b::vs)=some u->∃v,List.lookup k ((x,v0)::a)=some v/\RW K F u v:=λk u e=>by
 simp only[WL.o5]at e;by_cases d:x=k;.subst d;simp at e;subst e;exact⟨v0,by simp,f⟩
 .obtain⟨v,g,c⟩:=h k u (by grind);exact⟨v,by grind,c⟩
def agS{a i g a0 c}{ks vs:List VW}(hK:X.K=B.K)(j:PE X a (tC<|.ref a0))(D:abn X.w X.K a0 c)(l:PE X i (lo B g))(x:∀F k w,WL.o5 k ks vs=some w->∃v,c.lookup k=some v/\RW B.K F w v)(hs:jI i):PE X (.Subscript a i pos) (lo B<|WL.eOp WL.oIx (WL.eC<|.dic ks vs) g):=PE.imp (ahV (acZ D) j l hs) λt H Q f=>by refine eG f λd F R q=>?_;have q:=Rq.bind (show Rq B d F ((g d).bind _) _ from q);refine fv d F R (Rq.mono (aB.refl _) q λy b v s h n m p=>?_);cases y with
 |str k=>have b:Rq B d F (WL.ofO _) _:=b;cases e:WL.o5 k ks vs with|none=>rw[e]at b;exact b.elim|some w=>rw[e]at b;refine gB (x h k w e) λu r z=>?_;exact⟨rfl,k,u,p,r,b u s h n m z⟩
 |_=>exact(b).elim
end
end WS
set_option autoImplicit true
set_option relaxedAutoImplicit true
namespace WS
open PySem PySem.Spec PyProof.Rows L2
open WL(Res Sl Ws EF TF AF LF GF GsF SF Out OX RF Tw)
def Tex:HO->Prop|.tup _=>True|.ext _=>True|.xd _=>True|_=>False
def adE(K:W.Frag)(H:Hp)(h:Addr)(y:Str):Prop:=∃C a t,H h=some (.ext<|excAt h C a)/\StrK K C/\(a.1=none\/∃d b,a.1=some d/\H d=some (.xd b))/\a.2.1=.ref t/\H t=some (.tup [.str y])/\y.length<=5000000
def adE.via{K F c h y}(q:adE K F h y)(k:∀a o,Tex o->F a=some o->c a=some o):adE K c h y:=by obtain⟨C,j,t,i,p,m,f,g,e⟩:=q;exact⟨C,j,t,k _ _ trivial i,p,m.imp id λ⟨d,b,n,l⟩=>⟨d,b,n,k _ _ trivial l⟩,f,k _ _ trivial g,e⟩
theorem Chn.via{F b:Hp}(k:∀a o,Tex o->F a=some o->b a=some o):∀{n v},Chn F n v->Chn b n v|0,_,z=>z|n+1,_,⟨a,C,dx,z,h,r⟩=>⟨a,C,dx,z,k _ _ trivial h,Chn.via k r⟩
def AX(K:W.Frag)(F:Hp)(nm:String)(a:List (Str×V))(dx:DX):Prop:=(∃n,Chn F n dx.2.2)/\(nm="Broken"/\(∃n h y,a=[(("at":Str),V.int n),(("why":Str),V.ref h)]/\adE K F h y)\/nm≠"Broken"/\∃t y,dx.2.1=.ref t/\F t=some (.tup [.str y])/\y.length<=5000000)
theorem AX.via{K F c nm b dx}(h:AX K F nm b dx)(k:∀a o,Tex o->F a=some o->c a=some o):AX K c nm b dx:=⟨h.1.elim λn z=>⟨n,Chn.via k z⟩,h.2.imp (λ⟨z,n,a,y,e,q⟩=>⟨z,n,a,y,e,q.via k⟩) λ⟨z,t,y,g,f,d⟩=>⟨z,t,y,g,k _ _ trivial f,d⟩⟩
def XR(K:W.Frag)(F:Hp):VW->Addr->DX->Prop|.exc nm fs,C,dx=>ExcAt K nm C/\∃a:List (Str×V),a.map (·.1)=WL.fieldsOf nm/\RWs K F fs (a.map (·.2))/\(a=[]/\dx.1=none\/∃d,dx.1=some d/\F d=some (.xd a))/\AX K F nm a dx|_,_,_=>False
theorem XR.keep{K F b}(s:aB F b){c C dx}(h:XR K F c C dx):XR K b c C dx:=by cases c with|exc nm fs=>obtain⟨i,e,m,k,f,g⟩:=h;exact⟨i,_,m,k.keep s,f.imp (λz=>z) λa=>by obtain⟨d,l,j⟩:=a;exact⟨d,l,s _ _ j⟩,g.via λ_ _ _ z=>s _ _ z⟩|_=>exact h
def aih{nm}(h:WL.fieldsOf nm=[]):nm≠"Broken":=λz=>by rw[z]at h;cases h
def XR.is{K F c C dx}(h:XR K F c C dx):∃a fs,c=.exc a fs/\ExcAt K a C:=by cases c with|exc a fs=>exact⟨a,fs,rfl,h.1⟩|_=>exact h.elim
def XW(X:Cx)(B:Bx):Prop:=∀(b:List (Addr×Obj))(a:L2.St)(H:Hp)(s:Shared)(f:Ws)(F:Hp)(c:VW),RS B f a F H->B.xp c f F->∀(e C:Addr)(d:DX)(T:Option Addr)(fl:Value),Thr X b a H s e C d fl T->XR X.K F c C d->X.xe (.ref e) s
abbrev Bx.uj(B:Bx)(a:VW->Ws->Hp->Prop)(mono:∀c d F b,aB F b->a c d F->a c d b):Bx:=⟨B.K,B.H0,B.F0,a,mono⟩
abbrev Bx.never(B:Bx):Bx:=B.uj (λ_ _ _=>False) λ_ _ _ _ _ h=>h
def nJ (h:∀c a F,¬B.xp c a F):XW X B:=λ_ _ _ _ a F c _ q=>(h c a F q).elim
section
variable{B B':Bx}{σ:Ws}{σV:L2.St}{F H:Hp}
def RB.box(R:RB B F H)(c:B'.H0=B.H0)(b:B'.F0=B.F0):RB B' F H:=⟨R.sub,c▸R.base,b▸R.fz0,λa o e=>by rw[c,b];exact R.fr a o e⟩
theorem RS.box(R:RS B σ σV F H)(hk:B'.K=B.K)(a:B'.H0=B.H0)(b:B'.F0=B.F0):RS B' σ σV F H:=⟨R.rb.box a b,R.len,λi w e=>by rw[hk];exact R.va i w e,λi ws e=>by rw[hk,a];exact R.ow i _ e,R.ap,by rw[hk,a];exact R.dd⟩
end
section
variable{X:Cx}{B:Bx}{k:Nat}{f:Addr}{fd:FuncData}{ps:List Str}{fn:List VW->Res VW}{x:Str}{p pos np cpos:Pos}{e:Expr}{es:List Expr}{tas:AF}{n:Nat}
def spX(K:W.Frag)(n:Nat)(f:List VW->Res VW):Sp:=λh H Q E=>∃F ws,aB F H/\RWs K F ws h/\ws.length=n/\match f ws with|.ok w=>∀v d b,aB F b->aB b d->aB H d->(∀a o,b a=some o->F a=some o\/H a=none/\NF o)->RW K b w v->Q v d|.ex c=>∀C g d b,aB F b->aB b d->aB H d->(∀a o,b a=some o->F a=some o\/H a=none/\NF o)->XR K b c C g->E (.ref C) g d|.bad=>False
def RS.ext3{σ i h d b j}(c:RS B σ i h d)(r:aB h b)(s:aB b j)(q:aB d j)(fr:∀a o,b a=some o->h a=some o\/d a=none/\NF o):Gr h d b j/\RS B σ i b j:=by
 have g:Gr h d b j:=⟨r,q,λa o t l=>by cases m:b a with|none=>rfl|some o2=>
  rcases fr a o2 m with z|z;.rw[l]at z;cases z
  .rw[t]at z;cases z.1⟩;exact⟨g,c.grow g ⟨s,c.rb.base.trans q,c.rb.fz0.trans r,λa o m=>(fr a o m).elim (λz=>c.rb.fr a o z) λz=>.inr ⟨c.rb.base.free z.1,z.2⟩⟩⟩
def uM{σ b F H m z ws vs us Q}(hK:X.K=B.K)(R:XW X B)(u:RS B σ b m z)(g:Gr F H m z)(r:RWs B.K m ws vs)(M:ws.length=n)(q:Rq B σ F (fn ws) λw=>∀v h G,RS B σ b G h->Gr F H G h->RW B.K G w v->Q v h)(K:us=vs):∃E:XK,spX X.K n fn us z Q E/\∀a s e C i T h,Thr X a b h s e C i .none (some T)->E (.ref C) i h->X.xe (.ref e) s:=by
 rw[hK,K];refine⟨λC i j=>∃o d c,C=.ref o/\RS B σ b d j/\B.xp c σ d/\XR B.K d c o i,⟨m,ws,u.rb.sub,r,M,?_⟩,λa s e C i T h t⟨o,d,c,N,R2,O,A⟩=>?_⟩;.cases I:fn ws with|bad=>rw[I]at q;exact q.elim|ok w=>rw[I]at q;intro v j d l y D fr P;obtain⟨J,R2⟩:=u.ext3 l y D fr;exact q v j d R2 (g.trans J) P|ex c=>rw[I]at q;intro C i j d l y D fr A;obtain⟨J,R2⟩:=u.ext3 l y D fr;exact⟨C,d,c,rfl,R2,B.mono c σ F d (g.f.trans l) q,A⟩
 .cases N;exact R a b h s σ d c R2 O e C i (some T) _ t (by rw[hK];exact A)
def acO(hK:X.K=B.K)(l:XW X B)(g:∀b ws,tas b=.ok ws->ws.length=n):∀a H Q,lo B (WL.fk fn tas) a H Q->uI X (spX X.K n fn) [] (loA B tas) a H Q:=by intro a H Q⟨b,F,R,q⟩;have q:=Rq.bind q;refine fv b F R ?_;cases d:tas b with|bad|ex c=>rw[d]at q;exact q|ok ws=>rw[d]at q;exact λm o r i h j=>uM hK l i h j (g b ws d) q<|apc _
def abJ(hK:X.K=B.K)(o:XW X B)(F:FnOk X.prog X.w X.K X.mg X.base (CXX X.prog X.w) k f fd ps (spX X.K n fn))(d:Room k X.A)(i:Gl X x)(m:X.mg x=some (.ref f))(hk:W.keepIn X.K (.ref f)=true)(c:Binds X.K fd ps [])(g:PA X (e::es) (loA B tas))(h:∀l ws,tas l=.ok ws->ws.length=n)(b:Dbg x:=by decide)(j:SE X e es:=by rfl)(a:BT X pos es:=by rfl):PE X (.Call (.Name x p) (e::es) [] pos) (lo B<|WL.fk fn tas):=PE.imp (u4 F d i m hk c .nil g b j a)<|acO hK o h
def abD (hK:X.K=B.K)(G:XW X B)(I:X.calm=true)(r:Gl X x)(J:X.mg x=some (.ref C))(q:pz X.K C none)(m:ExcAt X.K nm C)(j:WL.fieldsOf nm=[])(z:PA X (e::es) (loA B tas))(o:Dbg x:=by decide)(E:SE X e es:=by rfl)(a:BT X cpos es:=by rfl):PS X (.Raise (some<|.Call (.Name x np) (e::es) [] cpos) none pos) (loS B<|WL.adZ nm tas):=PS.imp (uY I r J q z o E a) λD i H g=>by
 refine eG g λh F R q=>?_;have q:=Oq.ofR q;refine fv h F R (Rq.mono (aB.refl _) q λws d K M O l A u=>?_);by_cases b:WL.akr ws=true
 .rw[an4 b]at d;obtain⟨y,rfl,N⟩:∃y,ws=[.str y]/\y.length<=5000:=by
   unfold WL.akr at b;split at b;.exact⟨_,rfl,apI b⟩
   .cases b
  obtain⟨v,_,rfl,rfl,rfl⟩:=u;refine⟨show 1<=sizeLine by decide,λc s e w ht t=>?_⟩;have k:=av (l.rb.sub.free ht)<|.tup [.str y];exact G c i _ s h _ _ (l.new ht _) (B.mono _ h F _ (A.f.trans k) d) e C _ none _ t ⟨m,[],by rw[j];rfl,by simp[RWs],.inl ⟨rfl,rfl⟩,⟨0,rfl⟩,.inr ⟨aih j,w,y,rfl,aj,by omega⟩⟩
 .rw[an5 b]at d;exact(d).elim
theorem Oq.box  (hk:B'.K=B.K)(d:B'.H0=B.H0)(b:B'.F0=B.F0)(l:∀c a,o=.ex c a->B'.xp c a F)(h:Oq B D F o):Oq B' D F o:=by cases o with|nx a|bk a|ct a=>exact λg i j R s=>h _ _ _ (R.box hk.symm d.symm b.symm) s|rt w=>exact λv i j R s r=>h v _ _ (R.box d.symm b.symm) s (by grind)|ex c a=>exact l c a rfl|bad=>exact h
def Oq.anS{f:VW->Ws->Out}(hk:B'.K=B.K)(g:B'.H0=B.H0)(b:B'.F0=B.F0)(d:∀c a,Oq B D F (f c a)->B'.xp c a F)(h:Oq B D F (match o with|.ex c a=>f c a|o=>o)):Oq B' D F o:=by cases o with|ex c a=>exact d c a h|_=>exact Oq.box hk g b (λ_ _ z=>by cases z) h
end
section
variable{P:Program}{w:World}{K:W.Frag}{mg:Str->Option Value}{base:Heap}
def tE{x a st f D N ps k m n}{I:List VW->Res VW}(t)(R:Fun K x a st f D)(S:FnScope N ps (ak st))(T:N.length=n)(g:ps.length=m)(l:WL.run n t=I)(J:ps.length<=N.length)(h:∀d A b s H E B,B.K=K->Room k (A.deeper<|envOfC a (ak st) s.heap.objs.size f d)->XW (iu CX0 P w K mg base N a (ak st) f d A b s H E).nox B->PassesOwn (model P w) (A.deeper<|envOfC a (ak st) s.heap.objs.size f d) (envOfC a (ak st) s.heap.objs.size f d) (λ_ _=>False)->PSs (iu CX0 P w K mg base N a (ak st) f d A b s H E).nox (aZ st) (loS B t)):FnOk P w K mg base CX0 (k+1) f D ps (spW K m I):=by subst T g l;refine R.ok S (λM H Q E i=>by refine xR i λF ws _ r C _=>?_;rw[<-r.length];exact C) λd A b s H M Q E U i=>?_;refine xR i λF ws O r C g=>?_;refine⟨_,h d A b s H E _ rfl U (nJ λ_ _ _ z=>z) PassesOwn.never,_,F,RS.start O r (by omega),?_⟩;unfold WL.run at g;cases e:t _ with|rt w=>rw[e]at g;exact λv o q p j u=>g v o q j p.sub p.base p.fr u|nx σ'=>rw[e]at g;exact λG o q y j=>g .non o q j y.rb.sub y.rb.base y.rb.fr<|rfl|bk σ'|ct σ'|ex c σ'|bad=>rw[e]at g;exact g.elim
def tD{x b st f R N ps k m n}{Y:List VW->Res VW}(t)(Fn:Fun K x b st f R)(S:FnScope N ps (ak st))(hn:N.length=n)(g:ps.length=m)(z:WL.run n t=Y)(Z:ps.length<=N.length)(h:∀d A a s H E B,B.K=K->Room k (A.deeper<|envOfC b (ak st) s.heap.objs.size f d)->XW (iu (CXX P w) P w K mg base N b (ak st) f d A a s H E) B->PassesOwn (model P w) (iu (CXX P w) P w K mg base N b (ak st) f d A a s H E).A (iu (CXX P w) P w K mg base N b (ak st) f d A a s H E).env (iu (CXX P w) P w K mg base N b (ak st) f d A a s H E).xe->PSs (iu (CXX P w) P w K mg base N b (ak st) f d A a s H E) (aZ st) (loS B t)):FnOk P w K mg base (CXX P w) (k+1) f R ps (spX K m Y):=by subst hn g z;refine agC Fn.ex λoc od kV a1 pm an d ct a0 D lk I=>?_;subst D;refine ada lk I S (λvs H Q E o=>by refine xR o λF ws _ r M _=>?_;rw[<-r.length];exact M) λA a s H vs Q E hr _ o=>?_;refine xR o λF ws sm r M g=>?_;let O:Bx:=⟨K,H,F,λ_ _ _=>False,λ_ _ _ _ _ h=>h⟩;let B1:Bx:=O.uj (λc _ u=>∀C l j i,aB u i->RB O i j->XR K i c C l->E (.ref C) l j) λc σ u F2 s h C l j i p=>h C l j i<|s.trans p;refine⟨_,h d A a s H E B1 rfl hr (λX a2 H1 s1 σ u c R1 xp e C l T fl t y=>zO t<|xp C l H1 u (aB.refl _) (R1.rb.box rfl rfl) y) PassesOwn.leaving,_,F,(RS.start sm r<|by omega).box rfl rfl rfl,?_⟩;unfold WL.run at g;cases e:t _ with|rt w=>rw[e]at g;exact λv j i q p G=>g v j i p q.sub q.base q.fr G|nx σ'=>rw[e]at g;exact λU j i J p=>g .non j i p J.rb.sub J.rb.base J.rb.fr<|rfl|bk σ'|ct σ'=>rw[e]at g;exact g.elim|ex c σ'=>rw[e]at g;exact λC l j i p q y=>g C l j i p q.sub q.base q.fr y|bad=>rw[e]at g;exact g.elim
end
def md:bootBuiltins "ValueError"=some (.type "ValueError"):=by decide+kernel
structure Exc1(K:W.Frag)(FE Ca:Addr):Prop where
 ty:W.typeIn K (.ref Ca)=some (.type "type")mro:(W.clsIn K Ca).map (·.mro)=some (.ref Ca::fD)/\Ca=FE\/(W.clsIn K Ca).map (·.mro)=some (.ref Ca::.ref FE::fD)ga:W.findIn K (.ref Ca) "__getattribute__"=some (some<|.builtin "BaseException.__getattribute__")gn:W.findIn K (.ref Ca) "__getattr__"=some none
 cl:W.findIn K (.ref Ca) "__class__"=some (some<|.builtin "object.__class__")
structure ExcAll(K:W.Frag):Prop where
 k:∀nm Ca,ExcAt K nm Ca->ExcK K Ca
 is:∀nm Ca d D,ExcAt K nm Ca->ExcAt K d D->W.kitOne K (.ref Ca) (.ref D)=some (WL.pZ nm d)ve:∀nm Ca,ExcAt K nm Ca->W.kitOne K (.ref Ca) (.type "ValueError")=some true
 ex:∀nm Ca d D,ExcAt K nm Ca->ExcAt K d D->W.exmOne K (.ref Ca) (.ref D)=some (WL.pZ nm d)
def all_nil{a:Type}{P:a->Prop}:∀p∈[],P p:=λ_ h=>nomatch h
def all_cons{b:Type}{P:b->Prop}{a l}(h:P a)(t:∀p∈l,P p):∀p∈a::l,P p:=λp c=>(an7.mp c).elim (λe=>e▸h)<|t p
section
variable{K:W.Frag}{FE:Addr}{tab:List (String×Addr)}
theorem kI:∀{tab:List (String×Addr)},(tab.map (·.1)).Nodup->(tab.map (·.2)).Nodup->∀p∈tab,∀q∈tab,p.1=q.1↔p.2=q.2
|[],_,_,p,hp,_,_=>nomatch hp|a::l,h1,h2,p,hp,q,hq=>by
 rw[aor,aoN]at h1 h2;rcases an7.mp hp with z|b<;>rcases an7.mp hq with y|c;.rw[z,y];exact⟨λ_=>rfl,λ_=>rfl⟩
 .subst z;exact⟨λe=>absurd (e▸apR c) h1.1,λe=>absurd (e▸apR c) h2.1⟩
 .subst y;exact⟨λe=>absurd (e▸apR b) h1.1,λe=>absurd (e▸apR b) h2.1⟩
 .exact kI h1.2 h2.2 p b q c
def aaA(q:("FloorError",FE)∈tab)(t:∀p∈tab,W.nsIn K mainGlobals (Str.ofString p.1)=some (some<|.ref p.2)/\Exc1 K FE p.2)(w:∀b∈WL.kx,b∈tab.map (·.1)\/W.nsIn K mainGlobals (Str.ofString b)=some none)(l:(tab.map (·.1)).Nodup)(n:(tab.map (·.2)).Nodup)(v:W.specialIn K (.builtin "object.__class__") "__get__"=some (some<|.builtin "getset_descriptor.__get__"))(o:W.takesIn K (.builtin "object.__class__")=some true):ExcAll K:=by
 have mem:∀b a,ExcAt K b a->(b,a)∈tab/\Exc1 K FE a:=λb a⟨f,c⟩=>by grind
 have j:∀b a,ExcAt K b a->∃i,W.clsIn K a=some i/\(i.mro=.ref a::fD/\a=FE\/i.mro=.ref a::.ref FE::fD):=λb a h=>by
  rcases(mem b a h).2.mro with⟨e,z⟩|e;.obtain⟨i,f,c⟩:=aoI.mp e;exact⟨i,f,.inl ⟨c,z⟩⟩
  .obtain⟨i,f,c⟩:=aoI.mp e;exact⟨i,f,.inr c⟩
 have k:∀b a T,ExcAt K b a->Value.type T∈fD->W.mroIn K a (.type T)=some true:=λb a T h r=>by
  obtain⟨i,f,c⟩:=j b a h;unfold W.mroIn;rw[f,ap7];rcases c with⟨c,_⟩|c<;>rw[c]<;>simp only[List.isEmpty_cons,aoU,apy,aqW,List.contains_eq_mem,aoJ,an7];.exact .inr (by simpa using r)
  .exact .inr (.inr<|by simpa using r)
 have sub:∀b a d D,ExcAt K b a->ExcAt K d D->W.mroIn K a (.ref D)=some (WL.pZ b d):=λb a d D h g=>by
  refine gB (j b a h) λi f c=>?_;have s:=kI l n _ (mem b a h).1 _ (mem d D g).1;have u:=kI l n _ q _ (mem d D g).1;have x:=kI l n _ q _ (mem b a h).1;dsimp only at s u x;unfold W.mroIn;rw[f,ap7];have e:WL.pZ b d=decide (a=D\/FE=D):=by unfold WL.pZ;rw[aoz];simp only[arv,apl,aoJ];exact or_congr s (by rw[eq_comm];exact u)
  rw[e];rcases c with⟨c,z⟩|c<;>rw[c]<;>simp only[List.isEmpty_cons,aoU,apy,aqW,List.contains_eq_mem];.subst z;congr 1;simp[eq_comm]
  .congr 1;simp[eq_comm]
 have cls:∀b a d D,ExcAt K b a->ExcAt K d D->W.kitCls K (.ref a) (.ref D)=some (WL.pZ b d):=λb a d D h g=>by obtain⟨i,f,_⟩:=j d D g;unfold W.kitCls;dsimp only;rw[an4 (by rw[f,(mem d D g).2.ty];rfl)];exact sub b a d D h g
 refine⟨λb a h=>?_,λb a d D h g=>?_,λb a h=>?_,λb a d D h g=>?_⟩;.obtain⟨i,f,_⟩:=j b a h;have m:=(mem b a h).2;exact⟨by rw[f];rfl,m.ga,m.gn,k b a _ h (by simp),k b a _ h (by simp),m.cl,v,o⟩
 .unfold W.kitOne;by_cases e:(Value.ref a==Value.ref D)=true;.rw[an4 e];have e:=Value.ref.inj<|apl.mp e;subst e;have:=(kI l n _ (mem b a h).1 _ (mem d a g).1).mpr rfl;dsimp only at this;subst this;simp[WL.pZ]
  .rw[an5 e];exact cls b a d D h g
 .unfold W.kitOne;rw[an5 (by intro z;cases apl.mp z)];unfold W.kitCls;dsimp only;rw[an4 (by decide+kernel)];exact k b a _ h (by simp)
 .unfold W.exmOne;rw[an4 (by rw[show W.subIn K (.ref D) (.type "BaseException")=W.mroIn K D (.type "BaseException")from rfl,k d D _ g<|by simp];rfl)];exact cls b a d D h g
end
section
variable{X:Cx}{K:W.Frag}
def aax{F H:Hp}{a C:Addr}{dx:DX}{b:List (Str×V)}{pins:List (Addr×Obj)}{σ:L2.St}{s:Shared}(I:Inv X pins σ H s)(i:aB F H)(n:F a=some (.ext<|excAt a C dx))(m:b=[]/\dx.1=none\/∃d,dx.1=some d/\F d=some (.xd b)):∃j od,W.InstAt s.heap a j C od/\j.dict=dx.1:=by
 obtain⟨⟨f,o,g,h,e,k⟩,_⟩:=I.hok a _<|i _ _ n;have c:W.notCls f=true:=by unfold W.notCls;rw[k.1]
 rcases m with⟨_,z⟩|⟨d,z,q⟩;.exact⟨f,none,⟨g,h,c,by rw[e,z];trivial⟩,e⟩
 .obtain⟨od,l⟩:=fJ<|I.hok d _<|i _ _ q;exact⟨f,some od,⟨g,h,c,by rw[e,z];exact l⟩,e⟩
set_option tactic.hygienic true in
def j3(hK:X.K=K)(k:ExcAll X.K):bC X (.builtin "isinstance") (loN K WL.pq):=by
 subst hK;intro e s R H S J Q I r⟨F,ws,A,l,q⟩;have go:∀c fs j b,ws=[.exc c fs,j]->WL.pq ws=.ok (.bl b)->(∀C v,ExcAt X.K c C->RW X.K F j v->∀u,RelV v u->W.kitOne X.K (.ref C) u=some b)->wpAny (model X.prog X.w) X.A (call (.builtin "isinstance") J) (EP X e R Q) X.xe s:=λc fs j b o P G=>by subst o;rw[P]at q;obtain⟨v,M,rfl,h,N⟩:=two_of l;obtain⟨u,E,rfl,t,y⟩:=vals2 r;simp only[RW]at h;obtain⟨a,C,U,rfl,x,m,n,_,_,w⟩:=h;obtain⟨B,od,T,_⟩:=aax I A x w;cases show u=Value.ref a from t;have fin:Q (.bl b) H:=eq1 q (by simp[RW]);exact apr (acX<|k.k c C m) I.kIn ⟨B,od,T⟩ (G C M m N E y) (λz=>nomatch z) λp=>⟨.bl b,H,I.tok p,rfl,fin⟩
 unfold WL.pq at q;split at q;.rename_i c fs d;exact go c fs (.cls d) _ rfl rfl λC v i f u g=>by simp only[RW]at f;obtain⟨D,rfl,O⟩:=f;cases show u=Value.ref D from g;exact k.is c C d D i O
 .rename_i c fs;exact go c fs (.ty "ValueError") _ rfl rfl λC v i f u g=>by simp only[RW]at f;subst f;cases show u=Value.type "ValueError"from g;exact k.ve c C i
 .exact q.elim
def cB:∀a c,WL.pq a≠.ex c:=λa c h=>by unfold WL.pq at h;split at h<;>cases h
end
section
variable{B:Bx}{σ:Ws}{σV:L2.St}{F H:Hp}
def RS.akI(R:RS B σ σV F H)(i:Nat):RS B (σ.set i .no) (σV.set i none) F H:=by
 have p:=R.len;have b:∀{j:Nat}{w:Sl},(σ.set i .no)[j]?=some w->w≠.no->i≠j:=λ{j w}e n z=>by
  subst z;have o:i<σ.length:=by have:=(aoa.mp e).1;simpa using this
  rw[aof o]at e;cases e;exact n rfl
 refine⟨R.rb,by simp[p],λj u e=>?_,λj ws e=>?_,λj k ws c a g d h l m=>?_,R.ai2 i (sl:=.no) (λz=>z) _ (aB.refl _) λ_ _ _ _ _ _ _ _ t q=>⟨q,t⟩⟩;.have f:=b e (by intro z;cases z);rw[an3 f]at e⊢;exact R.va j u e
 .have f:=b e (by intro z;cases z);rw[an3 f]at e⊢;exact R.ow j ws e
 .have r:=b d (by intro z;cases z);have s:=b h (by intro z;cases z);rw[an3 r]at d l;rw[an3 s]at h m;exact R.ap j k ws c a g d h l m
end
section
variable{X:Cx}{B:Bx}{x n:Str}{pos np hpos:Pos}
def abA{body j:List Stmt}{b0:Stmt}{C:Addr}{d:String}{i:Nat}{tb th:SF}(hK:X.K=B.K)(hs:X.stack=X.env::X.outer)(hf:X.env.frame=some X.env.locals)(hN:X.N.Nodup)(hi:X.N[i]?=some n)(hl:X.env.scope.names.lookup n=some .local)(hg:Gl X x)(hm:X.mg x=some (.ref C))(hc:∀k Ca,ExcAt X.K k Ca->W.exmOne X.K (.ref Ca) (.ref C)=some (WL.pZ k d))(hb:∀(E:Value->Shared->Prop)(pn:List (Addr×Obj))(B':Bx),B'.K=X.K->XW (X.tri E pn) B'->PassesOwn (model X.prog X.w) X.A X.env E->PSs (X.tri E pn) body (loS B' tb))(hh:∀(e:Addr)(B':Bx),B'.K=X.K->XW (X.sui e) B'->PSs (X.sui e) (b0::j) (loS B' th))(hd:Dbg x:=by decide):PS X (.Try body [.ExceptHandler (some<|.Name x np) (some n) (b0::j) hpos] [] [] pos) (loS B<|WL.uT tb d i th):=by
 intro a s a4 H D I⟨σ,F,R,q⟩;refine wpAny_Try_except ?_;let E':Value->Shared->Prop:=λe a0=>wpAny (model X.prog X.w) X.A (noteFrame e X.env) (λ_ U=>wpAny (model X.prog X.w) X.A (setFlight e none) (λ_ S=>wpAny (model X.prog X.w) X.A (handleBy e X.env [.ExceptHandler (some<|.Name x np) (some n) (b0::j) hpos]) (SP X a D) X.xe S) X.xe U) X.xe a0;let B1:Bx:=B.uj (λc b O=>Oq B D O<|WL.lR d i th c b) λc b O a5 s h=>Oq.mono s h;have xw:XW (X.tri E'<|X.pn++a) B1:=by
  intro a3 m H1 s1 g M c R1 f e y G T fl t xr;have t2:Thr X a m H1 s1 e y G fl T:=t.iC;obtain⟨k,fs,rfl,ce⟩:=xr.is;have f:Oq B D M (WL.lR d i th (.exc k fs) g):=f;have ex:=hc k y ce
  cases A:WL.pZ k d with|false=>
   have:WL.lR d i th (.exc k fs) g=.bad:=by simp[WL.lR,WL.l8,A]
   rw[this]at f;exact f.elim|true=>
   have hO:WL.lR d i th (.exc k fs) g=match th (g.set i<|.va<|.exc k fs)with|.nx σ2=>.nx<|σ2.set i .no|.rt w=>.rt w|_=>.bad:=by unfold WL.lR;rw[show WL.l8 d (.exc k fs)=true from A];rfl
   rw[hO]at f;rw[A]at ex;refine t2.note hs hf λh' T' _ t3=>t3.aar λa6 t4=>aan t4 hg hm ex (λh3 t5=>?_) hd;have J:=t5.known;have he:H1 e=none:=t5.fe.1;have Z:RS B g m M H1:=R1.box rfl rfl rfl;have R2:=Z.new he<|.ext<|excAt e y G;have hF:M e=none:=Z.rb.sub.free he;have sF:aB M (upd M e<|.ext<|excAt e y G):=av hF _;have a1:RW B.K (upd M e<|.ext<|excAt e y G) (.exc k fs) (.ref e):=by obtain⟨z1,a2,z2,z3,z4⟩:=xr.keep sF;simp only[RW];rw[<-hK];exact⟨e,y,G,rfl,aj,z1,a2,z2,z3,z4.1⟩
   let B2:Bx:=B.never;have P:=hh e B2 hK.symm (nJ λ_ _ _ z=>z);let D2:Ends:=⟨λp l=>D.nx (p.set i none) l,D.rt,λ_ _=>False,λ_ _=>False⟩;refine iF (X:=X.sui e) (J.sui e) hN hi (Or.inl hl) (v:=.ref e) (u:=.ref e) rfl (λs2 J2 _=>?_)<|Or.inr hl;have R3:RS B2 (g.set i<|.va<|.exc k fs) (m.set i<|some<|.ref e) (upd M e<|.ext<|excAt e y G) (upd H1 e<|.ext<|excAt e y G):=(R2.set (i:=i) a1).box rfl rfl rfl;refine aoA (P a _ _ _ D2 J2 ⟨_,_,R3,?_⟩) (λfl s3 h=>?_) λ_ _ z=>z;.cases Q:th (g.set i<|.va<|.exc k fs)with|ex c2 σ2=>rw[Q]at f;exact f.elim|nx σ2=>rw[Q]at f;exact λp l O R' N=>f (p.set i none) l O ((RS.box (B:=B2) (B':=B) R' rfl rfl rfl).akI i)<|sF.trans N|bk σ2|ct σ2=>rw[Q]at f;exact f.elim|rt w=>rw[Q]at f;exact λv l O R' N r=>f v l O (RB.box (B:=B2) (B':=B) R' rfl rfl) (sF.trans N) r|bad=>rw[Q]at f;exact f
   .cases fl with|next=>obtain⟨b,l,Y,K⟩:=h;exact vh (J.back Y) hN hi hl λN I2=>⟨_,l,I2,K⟩|brk=>obtain⟨b,l,Y,K⟩:=h;exact K.elim|cont=>obtain⟨b,l,Y,K⟩:=h;exact K.elim|ret u=>obtain⟨v,b,l,Y,r,K⟩:=h;exact vh (J.back Y) hN hi hl λN I2=>⟨v,_,l,I2,r,K⟩
 have P:=hb E' (X.pn++a) B1 hK.symm xw PassesOwn.looking;refine aoA (P [] s a4 H D (I.tri E') ⟨σ,F,R.box rfl rfl rfl,?_⟩) (λfl N h=>?_) λ_ _ z=>z;.have q:Oq B D F (match tb σ with|.ex c b=>WL.lR d i th c b|o=>o):=q;exact Oq.anS (B:=B) (B':=B1) rfl rfl rfl (λ_ _ z=>z) q
 .have h:=SP.iC h;cases fl with|next=>exact aqc h|_=>exact h
end
end WS
namespace WS
open PySem PySem.Spec PyProof.Rows L2
def agU{X:Cx}{B:Bx}{x:Str}{nm:String}{C:Addr}{pos:Pos}(hK:X.K=B.K)(b:Gl X x)(d:X.mg x=some (.ref C))(a:ExcAt X.K nm C)(c:Dbg x:=by decide):PE X (.Name x pos) (lo B<|WL.eC<|.cls nm):=aeK (sd (v:=.ref C) b d rfl c) λF=>by simp only[RW];rw[<-hK];exact⟨C,rfl,a⟩
end WS
namespace WS
open PySem PySem.Spec PyProof.Rows L2
open WL(Res Sl Ws EF TF AF LF GF GsF SF Out OX RF Tw)
section
variable{σ:L2.St}{H:Hp}
def Part(t:TE)(σ:L2.St)(H:Hp):Prop:=∀Q:VK,(∀y:Str,y.length<=1000->Q (.str y) H)->t σ H Q
def m5{y}(h:y.length<=1000):Part (tC<|.str y) σ H:=λQ k=>k y h
def u6{i n}(h:σ[i]?=some (some<|.int n))(a:n.natAbs.log2<100):Part (amF<|kQ i) σ H:=λQ k=>⟨_,h,.inl ⟨n,rfl,an6 a (by simp),k _ (by have e:=int_text_length_le (by simp) a;rw[PySem.ofString_length];omega)⟩⟩
theorem aeT{Q}:∀b a,a.length+1000*b.length<=100000->(∀t∈b,Part t σ H)->(∀y,y.length<=a.length+1000*b.length->Q (.str y) H)->tJ b a σ H Q|[],a,hl,_,k=>⟨by rw[apM];omega,k _<|by simp⟩|t::b,a,hl,hp,k=>hp t aol _ λy c=>by rw[aon]at hl;have e:(a++y).length=a.length+y.length:=strLen_append ..;exact⟨y,rfl,by rw[apM];omega,aeT b _ (by omega) (λt ht=>hp t<|aog _ ht) λz d=>k z<|by rw[aon];omega⟩
end
section
variable{P:Program}{w:World}{K:W.Frag}{mg:Str->Option Value}{base:Heap}
def amy{G:Hp}{e d a b c}:upd (upd (upd G e a) d b) e c=upd (upd G d b) e c:=by
 funext z;by_cases f:z=e;.rw[f,aj,aj]
 .rw[ai f,ai f];by_cases g:z=d;.rw[g,aj,aj]
  .rw[ai g,ai g,ai f]
def anC{G:Hp}{e d:Addr}{a b c}(h:d≠e):upd (upd (upd G d a) e b) d c=upd (upd G d c) e b:=by
 funext z;by_cases f:z=d;.rw[f,aj,ai h,aj]
 .rw[ai f];by_cases g:z=e;.rw[g,aj,aj]
  .rw[ai g,ai g,ai f,ai f]
def vr{g u a b st f C o k ts}(D:Fun K "__init__" g st f o)(S:FnScope [a,b] [a,b] (ak st))(z:ts.length<=50)(R:∀r H n,r[1]?=some (some<|.int n)->n.natAbs.log2<100->∀t∈ts,Part t r H)(h:∀i A c s H E,Room k (A.deeper<|envOfC g (ak st) s.heap.objs.size f i)->PSs (iu CX0 P w K mg base [a,b] g (ak st) f i A c s H E).nox (aZ st) (ahc (wu<|yA C<|hU (kQ 0)<|hU (tJ ts Str.empty) xT)<|sX1 C (kQ 0) (kQ 1) u)):FnOk P w K mg base CX0 (k+1) f o [a,b] (spI C [u]):=by refine D.ok S λB H Q E j=>by obtain⟨e,ws,_,m,l,_⟩:=j;rw[m,aon,l];rfl λi A c s H B Q E O j=>?_;obtain⟨e,ws,G,m,l,N,v,q⟩:=j;subst m;obtain⟨w1,rfl⟩:=List.length_eq_one_iff.mp l;obtain⟨n,rfl,M⟩:=v w1 aol;refine⟨_,h i A c s H E O,?_⟩;refine⟨.ref e,rfl,aeT ts _ (by have:Str.empty.length=0:=rfl;omega) (R _ H n rfl M) λy J=>⟨e,none,G,y,rfl,N,λI ht T=>?_⟩⟩;refine⟨.int n,rfl,.ref e,rfl,e,_,rfl,aj,λd x p=>?_⟩;have:=q I y d ht (aoh J (by have:Str.empty.length=0:=rfl;omega)) (by rwa[ai p]at x) p;rw[<-amy]at this;exact this
def ac2{i r v a b c st f C D k ts}(N:Fun K "__init__" i st f D)(S:FnScope [a,b,c] [a,b,c] (ak st))(G:v≠r)(J:ts.length<=50)(hp:∀z H n m,z[1]?=some (some<|.int n)->z[2]?=some (some<|.int m)->n.natAbs.log2<100->m.natAbs.log2<100->∀t∈ts,Part t z H)(h:∀j A g s H E,Room k (A.deeper<|envOfC i (ak st) s.heap.objs.size f j)->PSs (iu CX0 P w K mg base [a,b,c] i (ak st) f j A g s H E).nox (aZ st) (ahc (wu<|yA C<|hU (kQ 0)<|hU (tJ ts Str.empty) xT)<|ahc (sX1 C (kQ 0) (kQ 1) r)<|sX2 C (kQ 0) (kQ 2) v)):FnOk P w K mg base CX0 (k+1) f D [a,b,c] (spI C [r,v]):=by
 refine N.ok S λM H Q E l=>by obtain⟨e,ws,_,x,u,_⟩:=l;rw[x,aon,u];rfl λj A g s H M Q E Y l=>?_;obtain⟨e,ws,O,x,u,X,B,q⟩:=l;subst x;obtain⟨w1,p,rfl⟩:∃w1 p,ws=[w1,p]:=by match ws,u with|[w1,p],_=>exact⟨w1,p,rfl⟩
 obtain⟨n,rfl,U⟩:=B w1 aol;obtain⟨m,rfl,Z⟩:=B p<|aog _ aol;refine⟨_,h j A g s H E Y,?_⟩;refine⟨.ref e,rfl,aeT ts _ (by have:Str.empty.length=0:=rfl;omega) (hp _ H n m rfl rfl U Z) λy T=>⟨e,none,O,y,rfl,X,λR ht nt=>?_⟩⟩;refine⟨.int n,rfl,.ref e,rfl,e,_,rfl,aj,λd I o=>?_⟩;refine⟨.int m,rfl,.ref e,rfl,e,d,[(r,.int n)],_,rfl,aj,by rw[ai o,aj],o,by simp,by simp[List.lookup,ao0.mpr G],?_⟩;have:=q R y d ht (aoh T (by have:Str.empty.length=0:=rfl;omega)) (by rwa[ai o]at I) o;show Q .non (upd _ d _);rw[anC o,amy];exact this
end
section
variable{X:Cx}{B:Bx}{k:Nat}{fI C:Addr}{fd:FuncData}{ps:List Str}{x:Str}{pos np cpos:Pos}{e:Expr}{es:List Expr}{tas:AF}{nm:String}
theorem aag{K F}:∀{ws vs},RWs K F ws vs->ws.all WL.mY=true->∀v∈vs,∃i,v=.int i/\i.natAbs.log2<100
|[],vs,h,_,v,a=>by subst h;cases a|w::ws,vs,h,ha,v,a=>by
 obtain⟨v0,r,rfl,b,c⟩:=h;rw[aqu,aoo]at ha;rcases an7.mp a with rfl|a;.cases w with|int i=>subst b;exact⟨i,rfl,apI ha.1⟩|_=>cases ha.1
 .exact aag c ha.2 v a
def ya(r:nm≠"Broken")(hK:X.K=B.K)(O:XW X B)(S:X.calm=true)(G:Gl X x)(T:X.mg x=some (.ref C))(q:pz X.K C (some<|.ref fI))(m:W.typeIn X.K (.ref fI)=some (.type "function"))(F:FnOk X.prog X.w X.K X.mg X.base CX0 k fI fd ps (spI C<|WL.fieldsOf nm))(Q:Room (k+1) X.A)(P:Binds X.K fd ps [])(A:ExcAt X.K nm C)(E:(WL.fieldsOf nm).length<=50)(K:PA X (e::es) (loA B tas))(b:Dbg x:=by decide)(N:SE X e es:=by rfl)(a:BT X cpos es:=by rfl):PS X (.Raise (some<|.Call (.Name x np) (e::es) [] cpos) none pos) (loS B<|WL.hV nm tas):=PS.imp (y3 S G T q m F Q P K b N a) λD o H i=>by
 refine eG i λn F R q=>?_;have q:=Oq.ofR q;refine fv n F R (Rq.mono (aB.refl _) q λws h l U F1 u M j=>?_);by_cases g:ws.length=(WL.fieldsOf nm).length/\ws.all WL.mY=true
 .rw[an4 g]at h;have f:l.length=(WL.fieldsOf nm).length:=by rw[<-j.length];exact g.1
  refine⟨f,aag j g.2,E,λc s e d w y ht Y b Z t=>?_⟩;have R2:=u.new ht<|.tup [.str y];have J:=av (u.rb.sub.free ht)<|.tup [.str y];have v:=J.trans<|av (R2.rb.sub.free b)<|.xd<|(WL.fieldsOf nm).zip l;have I:w≠d:=λz=>by rw[<-z,aj]at b;cases b
  refine O c o _ s n _ (.exc nm ws) (R2.new b _) (B.mono _ n F _ (M.f.trans v) h) e C _ none _ t ⟨A,(WL.fieldsOf nm).zip l,?_,?_,.inr ⟨d,rfl,aj⟩,⟨0,rfl⟩,.inr ⟨r,w,y,rfl,by rw[ai I,aj],by omega⟩⟩;.rw[List.map_fst_zip (by omega)]
  .rw[List.map_snd_zip (by omega),hK];exact j.keep v
 .rw[an5 g]at h;exact(show False from h).elim
end
section
variable{X:Cx}{B:Bx}{o:Expr}{f:Str}{pos:Pos}{ta:EF}
theorem vk{f:Str}{v:V}:∀{l:List (Str×V)},l.lookup f=some v->f∈l.map (·.1)|[],h=>by simp at h|(a,b)::l,h=>by rw[aoO]at h;cases z:f==a with|true=>rw[aor,apl.mp z];exact aol|false=>rw[z]at h;exact aog _<|vk h
theorem uf{K:W.Frag}{F:Hp}{f:Str}{w:VW}:∀{l:List Str}{ws:List VW}{c:List (Str×V)},c.map (·.1)=l->RWs K F ws (c.map (·.2))->(l.zip ws).lookup f=some w->∃v,c.lookup f=some v/\RW K F w v|[],ws,c,_,_,h=>by simp at h|a::l,[],c,_,_,h=>by simp at h|a::l,w0::ws,[],h,_,_=>by simp at h|a::l,w0::ws,(b,v0)::c,d,h2,h3=>by simp only[aor,arw]at d;obtain⟨rfl,d⟩:=d;simp only[aor,RWs]at h2;obtain⟨v,r,e,g,i⟩:=h2;simp only[arw]at e;obtain⟨rfl,rfl⟩:=e;rw[List.zip_cons_cons,aoO]at h3;rw[aoO];cases z:f==b with|true=>rw[z]at h3;cases h3;exact⟨v0,rfl,g⟩|false=>rw[z]at h3;exact uf d i h3
def tXf(K:W.Frag)(ta:TE)(f:Str):TE:=λh H Q=>ta h H λx c=>∃a C e d b g v,x=.ref a/\c a=some (.ext<|excAt a C e)/\ExcAt K g C/\f∈WL.fieldsOf g/\e.1=some d/\c d=some (.xd b)/\b.lookup f=some v/\Q v c
def ak7{ta:TE}(P:ExcAll X.K)(D:∀c C,ExcAt X.K c C->f∈WL.fieldsOf c->W.findIn X.K (.ref C) f=some none/\W.hasDictIn X.K C=true)(G:PE X o ta)(U:attributeBase o f X.env (eval o X.env)=eval o X.env):PE X (.Attribute o f pos) (tXf X.K ta f):=by intro b s i H Q I h;refine abh U (thn (G b s i H _ I h) λu K⟨x,t,e,R,a,C,dx,d,m,c,v,ex,p,k,w,J,n,A,q⟩=>?_);subst ex;cases show u=Value.ref a from R;obtain⟨Y,y,r⟩:=e.hok d _ n;obtain⟨od,O,g⟩:=qG y;obtain⟨⟨S,es,E,N,g3,M⟩,_⟩:=e.hok a _ p;have T:W.InstAt K.heap a S C (some od):=⟨E,N,by unfold W.notCls;rw[M.1],by rw[g3,J];exact O⟩;obtain⟨u,l,j⟩:=rG.some_of (v:=v) (o:=Y f) (by rw[<-A];exact r f);obtain⟨Z,z⟩:=D c C k w;exact adj (P.k c C k) e.kIn T (W.findObj_own z Z rfl<|by rw[g,l]) (qN j) ⟨v,t,e.tok _,j,q⟩
def yg(hK:X.K=B.K)(D:ExcAll X.K)(u:∀c C,ExcAt X.K c C->f∈WL.fieldsOf c->W.findIn X.K (.ref C) f=some none/\W.hasDictIn X.K C=true)(z:PE X o (lo B ta))(E:attributeBase o f X.env (eval o X.env)=eval o X.env):PE X (.Attribute o f pos) (lo B<|WL.aj1 ta f):=PE.imp (ak7 D u z E) λK H Q i=>by obtain⟨I,F,R,q⟩:=i;have q:=Rq.bind q;refine⟨I,F,R,Rq.mono (aB.refl _) q λw b x s J g y n=>?_⟩;cases w with
|exc c fs=>dsimp only[WL.am7]at b;cases h:((WL.fieldsOf c).zip fs).lookup f with|none=>rw[h]at b;exact b.elim|some w'=>
  rw[h]at b;obtain⟨a,C,G,rfl,r,M,e,k,A,p⟩:=n;obtain⟨v,j,l⟩:=uf k A h;rcases p with⟨rfl,_⟩|⟨d,t,m⟩;.simp at j
  exact⟨a,C,G,d,e,c,v,rfl,g.rb.sub _ _ r,by rw[hK];exact M,by rw[<-k];exact vk j,t,g.rb.sub _ _ m,j,b v s J g y l⟩
|_=>exact b.elim
end
end WS
namespace WS
open PySem PySem.Spec PyProof.Rows L2
section
variable{K:W.Frag}{a:Addr}{f nm:Str}
def tj{C d n}(x:ExcAll K)(h:ExcAt K n C)(m:(W.clsIn K C).map (·.mro)=some (.ref C::.ref d::fD))(i:W.hasDictIn K C=true)(g:W.findIn K (.ref C) "__setattr__"=some (some<|.builtin "object.__setattr__")):ExcS K C:=by obtain⟨k,b,e⟩:=aoI.mp m;obtain⟨l,c,j⟩:=W.any_some i;rw[b]at c;cases c;exact⟨x.k n C h,⟨k,b,j,.inr ⟨d,e⟩⟩,g⟩
def FA(K:W.Frag)(f:Str)(nm:String):Prop:=f∈WL.fieldsOf nm->∀b,W.nsIn K mainGlobals (Str.ofString nm)=some (some<|.ref b)->W.findIn K (.ref b) f=some none/\W.hasDictIn K b=true
def e6{nm:String}(h:¬f∈WL.fieldsOf nm):FA K f nm:=λz=>absurd z h
def aat{nm:String}(e:W.nsIn K mainGlobals (Str.ofString nm)=some (some<|.ref a))(b:W.findIn K (.ref a) f=some none)(c:W.hasDictIn K a=true):FA K f nm:=λ_ d h=>by have:=e.symm.trans h;cases this;exact⟨b,c⟩
def ana(o:FA K f "FloorError")(p:FA K f "NotEven")(r:FA K f "NoCall")(q:FA K f "NoName")(m:FA K f "NoProgram")(n:FA K f "TooMany")(j:FA K f "NoPairs")(k:FA K f "NoRow")(i:FA K f "Blind")(l:FA K f "Out")(e:FA K f "Meet")(g:FA K f "Broken"):∀nm C,ExcAt K nm C->f∈WL.fieldsOf nm->W.findIn K (.ref C) f=some none/\W.hasDictIn K C=true:=λnm d⟨h,c⟩b=>by
 simp only[WL.kx,an7,aop,apo]at h;rcases h with rfl|rfl|rfl|rfl|rfl|rfl|rfl|rfl|rfl|rfl|rfl|rfl;.exact o b d c
 .exact p b d c
 .exact r b d c
 .exact q b d c
 .exact m b d c
 .exact n b d c
 .exact j b d c
 .exact k b d c
 .exact i b d c
 .exact l b d c
 .exact e b d c
 .exact g b d c
end
end WS
namespace WS
open PySem PySem.Spec PyProof.Rows L2
open WL(Res Sl Ws EF TF AF LF GF GsF SF Out OX RF Tw)
section
variable{X:Cx}{B:Bx}{e tg iter elt:Expr}{pos:Pos}{ta:EF}{tt:TF}{it:LF}{g:GF}{k:Nat}{scope:Scope}{ts:List Str}{ifs:List Expr}
def q0{σ H w C J xs Q}(hg:Keeps k g)(R1:RS B σ H w C)(wk:Walk B.K J xs w)(hx:xs.length<=WL.lim)(Y:WL.ba g tt ta (List.replicate k .no++σ) xs≠.bad)(ex:∀c,WL.ba g tt ta (List.replicate k .no++σ) xs=.ex c->∀T f,aB w f->B.xp c T f)(fin:∀all,WL.ba g tt ta (List.replicate k .no++σ) xs=.ok all->∀t f l,RB B f l->Gr w C f l->RWs B.K f all t->∀D,l D=none->Q (.ref D) (upd l D<|.lst t)):ud J (loG true B g) (loT B tt) (lo B ta) (List.replicate k none++H) C Q:=by
 refine⟨λi m t o l=>m=xs.length-i/\i<=xs.length/\t.length<=i/\∃f d,RS B (List.replicate k .no++σ) o f l/\Gr w C f l/\RWs B.K f d t/\WL.ba g tt ta (List.replicate k .no++σ) xs=(WL.ba g tt ta (List.replicate k .no++σ)<|xs.drop i).bind λr=>.ok<|d++r,⟨xs.length,rfl,aoF _,aoF _,w,[],R1.ahead k,Gr.refl,by simp[RWs],?_⟩,?_⟩;.rw[arD];cases WL.ba g tt ta (List.replicate k .no++σ) xs<;>rfl
 rintro i m t o l⟨rfl,hi,Z,f,d,N,n,P,a⟩;refine⟨Nat.lt_of_le_of_lt (aoh Z<|aoh hi hx) (by decide),?_⟩;by_cases x:i<xs.length;.have hd:=apK x;rw[hd]at a;obtain⟨go,yl⟩:=wk.go i xs[i] (aod x) f l n.f N.rb.sub;refine .inr ⟨go,λq A E=>q.length<=i+1/\∃z d,RS B (List.replicate k .no++σ) A z E/\Gr w C z E/\RWs B.K z d q/\WL.ba g tt ta (List.replicate k .no++σ) xs=(WL.ba g tt ta (List.replicate k .no++σ)<|xs.drop<|i+1).bind λr=>.ok<|d++r,λq A E⟨a1,a2⟩=>⟨xs.length-(i+1),by omega,rfl,x,a1,a2⟩,λv E hy=>?_⟩;refine gB (yl v E hy) λz R r2=>?_;have U:=n.f.trans R.same;simp only[WL.ba]at a;refine agl _ z xs[i] (R.rs _ _ _ N) r2 ?_;cases I:g xs[i] (List.replicate k .no++σ)with|bad=>rw[I]at a;exact(Y a).elim|ex c=>rw[I]at a;exact ex c a _ z U|ok σ1=>
   rw[I]at a;obtain⟨kl,kk⟩:=hg _ _ _ I;intro p H3 F3 R3 g3;have back:∀{s K:Hp},RS B σ1 p s K->RS B (List.replicate k .no++σ) p s K:=λ{s K}M=>M.forget kl.symm λj sl ej ne=>by grind
   have h:=R.gr.trans ⟨g3.f,g3.h rfl,g3.nf⟩;have a:WL.ba g tt ta (List.replicate k .no++σ) xs=((tt σ1).bind _).bind λr=>.ok (d++r):=a;refine fv σ1 F3 R3 ?_;cases S:tt σ1 with|bad=>rw[S]at a;exact(Y a).elim|ex c=>rw[S]at a;exact ex c a _ F3<|n.f.trans h.f|ok b=>rw[S]at a;intro K s M G;cases b with|false=>rw[an5 aov];exact⟨by omega,s,d,back M,n.trans<|h.trans G,P.keep (h.trans G).f,a⟩|true=>rw[an4 rfl];have a:=a;refine fv σ1 s M ?_;cases O:ta σ1 with|bad=>rw[O]at a;exact(Y a).elim|ex c=>rw[O]at a;exact ex c a _ s<|n.f.trans (h.trans G).f|ok y=>rw[O]at a;intro u H5 F5 R5 g5 r5;refine⟨by rw[aoY,aqx];omega,F5,d++[y],back R5,n.trans<|(h.trans G).trans g5,(P.keep ((h.trans G).trans g5).f).app<|.one r5,?_⟩;rw[a];cases WL.ba g tt ta (List.replicate k .no++σ) (xs.drop<|i+1)with|ok zs=>show Res.ok _=Res.ok _;rw[List.append_assoc];rfl|ex c|bad=>rfl
 .have ei:i=xs.length:=by omega
  subst ei;rw[aqv]at a;have a:WL.ba g tt ta (List.replicate k .no++σ) xs=.ok (d++[]):=a;rw[apc]at a;exact .inl ⟨wk.stop f l n.f N.rb.sub,λD hD=>fin d a t f l N.rb n P D hD⟩
theorem RS.xV{B' σ h F H}(R:RS B σ h F H)(hk:B'.K=B.K)(q:B'.H0=H)(n:B'.F0=F):RS B' (WL.xV σ) h F H:=by
 have b:∀{i:Nat}{f:Sl},(WL.xV σ)[i]?=some f->(∀w,f=.va w->σ[i]?=some (.va w))/\(∀ws,f≠.ow ws)/\(∀d c,f≠.od d c)/\(f=.ob->σ[i]?=some .ob):=λ{i f}e=>by unfold WL.xV at e;rw[aoy]at e;cases m:σ[i]? with|none=>rw[m]at e;cases e|some s0=>rw[m]at e;have e:=aow e;subst e;cases s0 with|no=>exact⟨λw z=>(by cases z),λws z=>(by cases z),λd c z=>(by cases z),λz=>by cases z⟩|va w=>exact⟨λr z=>by grind,λws z=>(by cases z),λd c z=>(by cases z),λz=>by cases z⟩|ow ws|od d c=>exact⟨λw z=>(by cases z),λws z=>(by cases z),λd c z=>(by cases z),λz=>by cases z⟩|ob=>exact⟨λw z=>(by cases z),λws z=>(by cases z),λd c z=>(by cases z),λz=>rfl⟩
 refine⟨⟨R.rb.sub,q▸aB.refl _,n▸aB.refl _,λa o e=>.inl<|n▸e⟩,by rw[<-R.len];simp[WL.xV],λi w e=>?_,λi ws e=>((b e).2.1 ws rfl).elim,λi j ws p a _ l=>((b l).2.1 ws rfl).elim,λi d c e=>((b e).2.2.1 d c rfl).elim,λi j d c _ _ a _ l=>((b l).2.2.1 d c rfl).elim,λi e=>R.dd.ob i<|(b e).2.2.2 rfl⟩;rw[hk];exact R.va i w<|(b e).1 w rfl
def vw{B' f d c H'}(b:RB B' c H')(m:B'.H0=d)(h:B'.F0=f):Gr f d c H':=by subst m h;refine⟨b.fz0,b.base,λa o j l=>?_⟩;cases i:c a with|none=>rfl|some o2=>
 rcases b.fr a _ i with z|z;.rw[l]at z;cases z
 .rw[j]at z;cases z.1
def oe{B' σ c f d h H'}(R:RS B σ c f d)(b:RB B' h H')(j:B'.H0=d)(i:B'.F0=f):RB B h H':=by
 subst j i;refine⟨b.sub,R.rb.base.trans b.base,R.rb.fz0.trans b.fz0,λa o e=>?_⟩;rcases b.fr a o e with z|z;.exact R.rb.fr a o z
 .exact .inr ⟨R.rb.base.free z.1,z.2⟩
def abI(c0:X.stack=X.env::X.outer)(b8:X.env.frame=some X.env.locals)(hK:X.K=B.K)(hx:XW X B)(L:CompLook X scope)(hc:X.calm=true)(hk:ts.length=k)(hg:Keeps k g)(hi:PI X tg iter (loI B it))(c2:∀C j i G E A,A.K=X.K->XW ((X.comp scope C ts j i G).tri E []) A->PG ((X.comp scope C ts j i G).tri E []) tg (loG true A g))(c3:∀C j i G E A,A.K=X.K->XW ((X.comp scope C ts j i G).tri E []) A->xP ((X.comp scope C ts j i G).tri E []) ifs (loT A tt))(b1:∀C j i G E A,A.K=X.K->XW ((X.comp scope C ts j i G).tri E []) A->PE ((X.comp scope C ts j i G).tri E []) elt (lo A ta))(hs:∀x,foldedSetIterable iter X.env x=pure x:=by intro _;rfl):PE X (.ListComp elt [⟨tg,iter,ifs,0⟩] scope pos) (lo B<|WL.jW k it g tt ta):=by
 subst hk;intro pins s d H Q I⟨Z,F,R,q⟩;have S:CompScope X scope ts:=L.scope;have a2:closureFor scope X.env=pure (cP X.env.cells scope.names []):=ed λy hy hf=>by obtain⟨c,hc⟩:=I.ok.has y.1<|S.free y hy hf;rw[hc];rfl
 have q:=Rq.bind<|Rq.bind q;rw[eval_ListComp];refine apN (use:=none) rfl hs a2 S.kind S.names (thn (hi pins s d H (λJ H1=>∃F1 xs,RS B Z d F1 H1/\Gr F H F1 H1/\Walk B.K J xs F1/\Rq B Z F (if xs.length<=WL.lim then WL.ba g tt ta (List.replicate ts.length .no++WL.xV Z) xs else .bad) λys=>∀v a u,RS B Z d u a->Gr F H u a->RW B.K u (.lst ys) v->Q v a) I ⟨Z,F,R,Rq.mono (aB.refl _) q λxs P J H1 F1 R1 g1 wk=>⟨F1,xs,R1,g1,wk,?_⟩⟩) λxv s1 h1=>thn h1 λc8 s2 h2=>?_);.exact P
 obtain⟨it,G,tn,J,H2,e,Y,T,c1,f2,F1,xs,R1,g1,wk,P⟩:=h2;subst e;by_cases a4:xs.length<=WL.lim
 .rw[an4 a4]at P;let A:Bx:=⟨B.K,H2,F1,λc _ u=>B.xp c Z u,λc _ u b3 sm h=>B.mono c Z u b3 sm h⟩;let EC:Addr->Value->Shared->Prop:=λC v K=>∃(e Ce:Addr)(dx:DX)(fl:Value)(T:Option Addr)(M:L2.St)(a u:Hp)(c:VW),v=.ref e/\Thr (X.comp scope C ts s2 H2 G) [] M a K e Ce dx fl T/\RB A u a/\B.xp c Z u/\XR X.K u c Ce dx;have xw:∀C,XW ((X.comp scope C ts s2 H2 G).tri (EC C) []) A:=λC b2 M a K b9 u c R' xp e Ce dx T fl t xr=>⟨e,Ce,dx,fl,T,M,a,u,c,rfl,Thr.iC (X:=X.comp scope C ts s2 H2 G) (pins:=[]) t,R'.rb,xp,xr⟩;have hW:ud J (loG true A g) (loT A tt) (lo A ta) (List.replicate ts.length none++d) H2 Q:=by
   refine q0 hg (R1.xV rfl rfl rfl) wk a4 (λz=>by rw[z]at P;exact P) (λc z b9 u sm=>?_) λall z ys u a rb g' r D hD=>?_;.rw[z]at P;exact B.mono c Z F u (g1.f.trans sm) P
   .rw[z]at P;have N:RB B u a:=oe R1 rb rfl rfl;have R':=R1.grow g' N;exact P (.ref D) _ _ (R'.new hD _) (g1.trans<|g'.trans<|Gr.new (N.sub.free hD) hD _) (by simp only[RW];exact⟨D,ys,rfl,SqL.of aj,r.keep<|av (N.sub.free hD) _⟩)
  refine gM (Q:=Q) (RR:=λb5 C=>compPost (model X.prog X.w) X.A X.xe none (EP X pins d Q) b5 C) S EC (λ_ _ _=>hc) (λC=>c2 C s2 H2 G (EC C) A hK.symm<|xw C) (λC=>c3 C s2 H2 G (EC C) A hK.symm<|xw C) (λC=>b1 C s2 H2 G (EC C) A hK.symm<|xw C) Y T c1 f2 hW.c ?_ ?_;.intro C D a K m ys b0 hC hD hn c5 I' q;refine⟨m,hn,λh' a0=>?_⟩;have a1:C≠X.env.locals:=aoE<|an6 Y.lt hC;have b6:Inv X pins d (upd a D<|.lst ys) {K with heap:=h'}:=I'.turned (t':=K.toks) (it:=C) (λb o n e=>(a0.2 b n).trans e) (by rw[ai b0];exact c5) a1 (.inr<|aoh Y.sz hC) (λx c e=>by obtain⟨v,q⟩:=Y.cell x c e;exact aoi<|an6 q.lt hC) λp l=>aoi<|an6 (an9 (Y.pin p l).1) hC;exact⟨.ref D,_,b6,rfl,q⟩
  .rintro C D _ K hC⟨e,Ce,dx,fl,T,M,a,u,c,rfl,t,rb,xp,xr⟩;have J':Inv X pins d a K:=Y.adz (ch:=G) t.inv.os t.inv.base t.inv.hok t.inv.bare λb n=>⟨(f2 b n).2.2.2.1,(f2 b n).2.1,(f2 b n).2.2.2.2.1,(f2 b n).2.2.2.2.2⟩;obtain⟨m,a6,_⟩:=t.inv.loc;obtain⟨U,es,ep,b7,a8⟩:=id a6;have a3:a C=none:=t.inv.free;have a1:C≠X.env.locals:=aoE<|an6 Y.lt hC;have a9:s2.heap.get? C=none:=aoG hC;have fC:FpX X pins a C:=Y.fpX a9 a3;have a5:∀v,U.data≠.cell v:=λv z=>by obtain⟨hd,_⟩:=a8;rw[hd]at z;cases z
   have J2:Inv X (pins++[(C,U)]) d a K:=J'.eU λp l=>by
    rcases aoH.mp l with l|l;.exact J'.pin p (aok _ l)
    .obtain rfl:p=(C,U):=by simpa using l
     exact⟨b7,a3,a1,fC.2.2.1,a5⟩
   have O:∀b,FpX (X.comp scope C ts s2 H2 G) [] a b->FpX X pins a b/\b≠C:=λb z=>by
    refine⟨?_,z.2.1⟩;rcases z.2.2.2.1 with n|n;.have f:=f2 b n;exact⟨z.1,f.2.1,f.2.2.1,f.2.2.2.1.imp (λw=>w) λw=>aoG w,f.2.2.2.2.1,f.2.2.2.2.2⟩
    .exact Y.fpX n z.1
   have add:∀b,FpX X pins a b->b≠C->FpX X (pins++[(C,U)]) a b:=λb z ne=>⟨z.1,z.2.1,z.2.2.1,z.2.2.2.1,z.2.2.2.2.1,λp l=>by
    rcases aoH.mp l with l|l;.exact z.2.2.2.2.2 p (aou _ l)
    .rcases aoH.mp l with l|l;.exact z.2.2.2.2.2 p (aok _ l)
     .obtain rfl:p=(C,U):=by simpa using l
      exact aom ne⟩;have te:=O e t.fe;have t1:Thr X (pins++[(C,U)]) d a K e Ce dx fl T:=⟨J2,t.trc,add e te.1 te.2,λb n=>add b (O b<|t.fT b n).1 (O b<|t.fT b n).2⟩;refine t1.note c0 b8 λa7 T1 c4 t2=>?_;have pC:=(t2.inv.pin (C,U)<|by simp).1;refine⟨m,⟨U,es,ep,pC,a8⟩,λh' a0 c6 _=>?_⟩;have drop:∀b,FpX X (pins++[(C,U)]) a b->FpX X pins a b/\b≠C:=λb z=>⟨⟨z.1,z.2.1,z.2.2.1,z.2.2.2.1,z.2.2.2.2.1,λp l=>by
    rcases aoH.mp l with l|l;.exact z.2.2.2.2.2 p (aou _ l)
    .exact z.2.2.2.2.2 p (aok _<|aou _ l)⟩,λw=>z.2.2.2.2.2 (C,U) (by simp) w.symm⟩;have J3:Inv X pins d a {K with heap:=a7}:=t2.inv.eU λp l=>t2.inv.pin p<|aok _<|aou _ l;have J4:Inv X pins d a {K with heap:=h'}:=Inv.turned (s:={K with heap:=a7}) (t':=K.toks) (it:=C) J3 (λb o n e=>(a0.2 b n).trans e) a3 a1 (.inr<|aoh Y.sz hC) fC.2.2.2.2.1 fC.2.2.2.2.2;have t3:Thr X pins d a {K with heap:=h'} e Ce dx c4 (some T1):=⟨J4,t2.trc.keeps λb o n q=>(a0.2 b (by
    rcases n with rfl|n;.exact(drop _ t2.fe).2
    .exact(drop b<|t2.fT b n).2)).trans q,(drop e t2.fe).1,λb n=>(drop b<|t2.fT b n).1⟩;refine t3.pass λc7 b4 t4=>?_;have N:RB B u a:=oe R1 rb rfl rfl;exact hx pins d a _ Z u c (R1.grow (vw rb rfl rfl) N) xp e Ce dx (some T1) b4 t4 xr
 .rw[an5 a4]at P;exact(P).elim
end
theorem zip_get:∀(xs ys:List VW)(i:Nat)(x y:VW),xs[i]?=some x->ys[i]?=some y->(WL.ug xs ys)[i]?=some (.tup [x,y])|[],_,_,_,_,h,_=>by simp at h|_::_,[],_,_,_,_,h=>by simp at h|x::xs,y::ys,0,_,_,h,h'=>by simp at h h';subst h h';rfl|x::xs,y::ys,i+1,u,v,h,h'=>by simp only[WL.ug,List.getElem?_cons_succ]at h h'⊢;exact zip_get xs ys i u v h h'
theorem rH:∀(xs ys:List VW),xs.length=ys.length->(WL.ug xs ys).length=xs.length|[],[],_=>rfl|[],_::_,h=>by simp at h|_::_,[],h=>by simp at h|x::xs,y::ys,h=>by simp only[WL.ug,aon,rH xs ys<|by simpa using h]
def ur{K:W.Frag}{lt:Bool}{a b:Addr}{xs ys:List VW}{vs us:List V}{F:Hp}(keep:∀{G H:Hp}{c:Addr}{ws:List V},aB G H->SqB K G lt c ws->SqB K H lt c ws)(h:SqB K F lt a vs)(h':SqB K F lt b us)(r:RWs K F xs vs)(y:RWs K F ys us)(j:xs.length=ys.length):Walk K (Itz K lt a b) (WL.ug xs ys) F:=by
 refine⟨λi x e E B d f=>?_,λE B d f=>⟨vs,keep f<|keep d h,by rw[rH _ _ j,r.length];exact aob _⟩⟩;have l:i<xs.length:=by have:=(aoa.mp e).1;rwa[rH _ _ j]at this
 have ex:=aod l;have o:=aod<|j▸l;rw[zip_get xs ys i _ _ ex o]at e;have e:=aow e;subst e;obtain⟨v,m,w⟩:=r.get ex;obtain⟨u,q,A⟩:=y.get o;refine⟨⟨vs,us,v,u,keep f<|keep d h,keep f<|keep d h',m,q⟩,λz J k=>?_⟩;obtain⟨p,C,s,D⟩:=k;subst C;obtain⟨M,I,t,n,rfl⟩:=D vs us (keep f<|keep d h)<|keep f<|keep d h';rw[m]at t;rw[q]at n;cases t;cases n;have g:=f.free s;refine⟨_,Ext.new g s _,?_⟩;simp only[RW];refine⟨p,_,rfl,SqT.of aj,?_⟩;simp only[RWs];exact⟨_,_,rfl,(w.keep d).keep<|av g _,_,_,rfl,(A.keep d).keep<|av g _,rfl⟩
section
variable{X:Cx}{B:Bx}{ta tb:EF}
def agO{l m:Expr}{es:List Expr}{k:Nat}{S p pos:Pos}(hK:X.K=B.K)(P:Gl X "zip")(U:X.mg "zip"=none)(h:PE X l (lo B ta))(h':PE X m (lo B tb))(hs:starEach [l,m] X.env=[(false,eval l X.env),(false,eval m X.env)]:=by rfl)(I:starEach [m] X.env=[(false,eval m X.env)]:=by rfl)(D:starEach [l,m] X.env=(false,eval l X.env)::starEach [m] X.env:=by rfl)(r:starEach [m] X.env=(false,eval m X.env)::starEach [] X.env:=by rfl):PI X (.Tuple es k S) (.Call (.Name "zip" p) [l,m] [] pos) (loI B<|WL.aiJ ta tb):=PI.imp (ahK P U (ae h (ae h' aM r) D) hs I) λT H R A=>by obtain⟨g,F,O,q⟩:=A;have q:=Rq.bind q;refine⟨g,F,O,?_⟩;show Rq B g F ((ta g).bind λx=>((tb g).bind λy=>(Res.ok []).bind λd=>.ok (y::d)).bind λf=>.ok (x::f)) _;cases e:ta g with
|ok x=>rw[e]at q;have q:=Rq.bind q;cases w:tb g with
 |ok y=>rw[w]at q;intro Y K N j M Q;obtain⟨v,Z,rfl,u,t⟩:=two_of Q;cases x with
  |lst f=>cases y with|lst d=>
     simp only[RW]at u t;obtain⟨a,C,rfl,n,E⟩:=u;obtain⟨b,J,rfl,o,G⟩:=t;have q:Rq B g F (if f.length=d.length then .ok (WL.ug f d)else .bad) _:=q;by_cases i:f.length=d.length;.rw[an4 i]at q;refine⟨true,a,b,rfl,⟨C,by rw[hK];exact j.rb.sub.seq n⟩,⟨J,by rw[hK];exact j.rb.sub.seq o⟩,?_⟩;rw[hK];exact q _ K N j M (ur (λs z=>s.seq z) n o E G i)
     .rw[an5 i]at q;exact q.elim|_=>exact(q).elim
  |tup f=>cases y with|tup d=>
     simp only[RW]at u t;obtain⟨a,C,rfl,n,E⟩:=u;obtain⟨b,J,rfl,o,G⟩:=t;have q:Rq B g F (if f.length=d.length then .ok (WL.ug f d)else .bad) _:=q;by_cases i:f.length=d.length;.rw[an4 i]at q;refine⟨false,a,b,rfl,⟨C,by rw[hK];exact j.rb.sub.tup n⟩,⟨J,by rw[hK];exact j.rb.sub.tup o⟩,?_⟩;rw[hK];exact q _ K N j M (ur (λs z=>s.tup z) n o E G i)
     .rw[an5 i]at q;exact q.elim|_=>exact(q).elim
  |_=>exact(q).elim
 |ex c=>rw[w]at q;exact q|bad=>rw[w]at q;exact q
|ex c=>rw[e]at q;exact q|bad=>rw[e]at q;exact q
end
section
variable{X:Cx}{K:W.Frag}
def q9:∀a c,WL.fP a≠.ex c:=λa c h=>by
 unfold WL.fP at h;split at h;.split at h<;>cases h
 .cases h
def RW.tyW{F H:Hp}{w:VW}{v:V}{t:String}{b:Bool}(s:aB F H)(h:RW K F w v)(e:WL.isK w t=some b):TyW K H v (akl w):=by cases w with|non=>simp only[RW]at h;subst h;exact .non|bl k=>simp only[RW]at h;subst h;exact .bl k|int k=>simp only[RW]at h;subst h;exact .int k|str k=>simp only[RW]at h;subst h;exact .str k|tup ys=>simp only[RW]at h;obtain⟨a,d,rfl,c,f⟩:=h;exact .tup<|s.tup c|lst ys=>simp only[RW]at h;obtain⟨a,d,rfl,c,f⟩:=h;exact .lst<|s.seq c|ty k|dic _ _|cls _|exc _ _|ins _ _|id _=>cases e
set_option tactic.hygienic true in
def yp(hK:X.K=K):bC X (.builtin "isinstance") (loN K WL.fP):=by subst hK;refine bC.imp rj λo H Q a=>?_;obtain⟨F,ws,s,r,q⟩:=a;cases e:WL.fP ws with|bad|ex c=>rw[e]at q;exact q.elim|ok w=>
  rw[e]at q;unfold WL.fP at e;split at e
  .rename_i x t u;split at e;.rename_i b c g l;cases e;obtain⟨v,n,rfl,h,f⟩:=two_of r;simp only[RW]at f;obtain⟨k,m,rfl,j,rt⟩:=f;obtain⟨v1,v2,rfl,d,i⟩:=two_of rt;simp only[RW]at d i;subst d i;refine⟨v,k,t,u,akl x,b||c,rfl,s.tup j,RW.tyW s h g,?_,eq1 q<|by simp[RW]⟩;simp only[W.kitAny,zW (K:=X.K) g,zW (K:=X.K) l];cases b<;>cases c<;>rfl
   .cases e
  .cases e
end
section
variable{X:Cx}{B:Bx}{K:W.Frag}{o:Expr}{to:EF}{tas:AF}{apos cpos:Pos}
theorem aa1:∀{ys:List VW}{x:VW}{n m:Nat},WL.okD n x=true->WL.gP m ys=true->((fZ ys).countP λz=>PyData.eqv z<|toD x)=WL.cnt x ys|[],_,_,_,_,_=>by simp[fZ,WL.cnt]|y::ys,x,n,m,hx,a=>by cases m with|zero=>cases a|succ m=>have a:=ao7.mp a;have b:=jy m n y x a.1 hx;simp only[fZ,arl,WL.cnt,b,aa1 hx a.2]
set_option tactic.hygienic true in
def abE{x:Expr}(hK:X.K=B.K)(T:X.A.units+64<cLine)(J:PE X o (lo B to))(I:PA X [x] (loA B tas))(f:attributeBase o "count" X.env (eval o X.env)=eval o X.env:=by rfl)(h:((backTo cpos<|starEach [x] X.env).all (λx=>!x.1)&&(backToKw cpos<|keywordEach [] X.env).all (λx=>x.1.isSome)&&decide (([x]:List Expr).length+([]:List Keyword).length+(if([]:List Keyword).isEmpty then 0 else 1)<30))=true:=by rfl)(g:(apos.endLine==cpos.line)=true:=by rfl)(hs:starEach [x] X.env=(false,eval x X.env)::starEach [] X.env:=by rfl)(d:BT X cpos []:=by rfl):PE X (.Call (.Attribute o "count" apos) [x] [] cpos) (lo B<|WL.aiY "list" WL.m9 to tas):=PE.imp (mr aoL PySem.F.slot_list_count PySem.F.type_list_count zy J I f h g hs d) λP H Q l=>by obtain⟨k,F,R,q⟩:=l;have q:=Rq.bind q;refine⟨k,F,R,Rq.mono (aB.refl _) q λw j v Y O p r m=>?_⟩;cases w with
 |lst ys=>have j:=Rq.bind (show Rq B k F ((tas k).bind λws=>WL.m9 (.lst ys) ws) _ from j);have n:=m;simp only[RW]at m;obtain⟨a,A,rfl,N,ra⟩:=m;refine⟨.inl ⟨rfl,A,by rw[hK];exact p.rb.sub.seq N⟩,k,O,p,Rq.mono r.f j λws i Z G D R2 t C=>?_⟩;cases em:WL.m9 (.lst ys) ws with
  |bad=>rw[em]at i;exact i.elim|ex c=>
    unfold WL.m9 at em;split at em;.split at em<;>cases em
    .cases em|ok z=>
    rw[em]at i;unfold WL.m9 at em;split at em
    .rename_i U e2 E s y;cases y;split at em;.rename_i b;rw[aoo]at b;cases em;obtain⟨u,rfl,S⟩:=eJ C;have sub:=R2.rb.sub;have M:=RW.isD 51 (.lst ys) (.ref a) b.2<|(n.keep t.f).keep sub;refine⟨50,u,toD s,fZ ys,rfl,by rw[hK];exact RW.isD 50 s u b.1<|S.keep sub,by rw[hK];exact M,by omega,?_⟩;rw[aa1 b.1 b.2];exact i (.int _) G D R2 (r.trans t) (by simp[RW])
     .cases em
    .cases em
 |_=>exact(show False from j).elim
end
section
variable{P:List Value->Prop}
def us0(h:P []):∀a,a.length=0->P a:=λa e=>by grind
def us1(h:∀c,P [c]):∀b,b.length=1->P b:=λb e=>by cases b with|nil=>cases e|cons a t=>exact us0 (P:=λt=>P _) (h a) t<|arn e
def us2(h:∀d c,P [d,c]):∀b,b.length=2->P b:=λb e=>by cases b with|nil=>cases e|cons a t=>exact us1 (P:=λt=>P _) (λc=>h a _) t<|arn e
def us3(h:∀f c d,P [f,c,d]):∀b,b.length=3->P b:=λb e=>by cases b with|nil=>cases e|cons a t=>exact us2 (P:=λt=>P _) (λc d=>h a _ _) t<|arn e
def us4(h:∀g d f c,P [g,d,f,c]):∀b,b.length=4->P b:=λb e=>by cases b with|nil=>cases e|cons a t=>exact us3 (P:=λt=>P _) (λd f c=>h a _ _ _) t<|arn e
end
def AtD(K:W.Frag)(nm:Str)(st:Stmt):Prop:=∃(f:Addr)(a:FuncData),Fun K nm nm st f a/\W.nsIn K mainGlobals nm=some (some<|.ref f)
def Cal(P:Program)(w:World)(K:W.Frag)(mg:Str->Option Value)(a:Heap)(CX:CXT)(k:Nat)(nm:Str)(ps:List Str)(c:List Value)(sp:Sp):Prop:=∃(f:Addr)(b:FuncData),FnOk P w K mg a CX k f b ps sp/\mg nm=some (.ref f)/\W.keepIn K (.ref f)=true/\Binds K b ps []/\Binds K b ps c
section
variable{P:Program}{w:World}{K:W.Frag}{mg:Str->Option Value}{base:Heap}{CX:CXT}{k:Nat}{nm:Str}{ps:List Str}{sp:Sp}{st:Stmt}
def amd{f g od i e kV d h b ct}(a:W.nsIn K mainGlobals nm=some (some<|.ref f))(l:K.lookup f=some ⟨g,od,.func<|W.fnOf nm nm (cq st) (aZ st) (ak st) .none kV d h i b ct,e⟩)(c:W.codeIn K b nm=true)(q:W.keepIn K (.ref f)=true):AtD K nm st:=⟨f,_,vz l c q,a⟩
def AtD.ank(D:AtD K nm st)(i:∀nm v,W.nsIn K mainGlobals nm=some (some v)->mg nm=some v)(d:∀kV e j l g ct c,c.length=ps.length->bindArgs (W.fnOf nm nm (cq st) (aZ st) (ak st) .none kV e j l g ct) ⟨c,[]⟩=pure (ps.zip c))(h:∀f b,Fun K nm nm st f b->mg nm=some (.ref f)->Binds K b ps []->FnOk P w K mg base CX k f b ps sp):Cal P w K mg base CX k nm ps [] sp:=by obtain⟨f,b,F,a⟩:=D;exact⟨f,b,h f _ F (i _ _ a)<|F.binds d,i _ _ a,F.kp,F.binds d,F.binds d⟩
end
section
variable{X:Cx}{B:Bx}{k j:Nat}{ps:List Str}{ds:List Value}{fn:List VW->Res VW}{x:Str}{p pos:Pos}{e:Expr}{es:List Expr}{tas:AF}{n:Nat}
def cl(l:B.K=X.K)(o:Room j X.A)(C:Cal X.prog X.w X.K X.mg X.base CX0 k x ps ds (spW X.K n fn))(g:PA X (e::es) (loA B tas))(hk:k<=j:=by decide)(d:∀r ws,tas r=.ok ws->ws.length=n:=by repeat first|exact i2|apply de)(h:Gl X x:=by rfl)(c:Dbg x:=by decide)(i:SE X e es:=by rfl)(a:BT X pos es:=by rfl):PE X (.Call (.Name x p) (e::es) [] pos) (lo B<|WL.ax fn tas):=by refine pE C λf s G m q b _=>?_;exact rN l.symm G (o.mono hk) h m q b g d c i a
def clX(l:B.K=X.K)(r:Room j X.A)(o:XW X B)(C:Cal X.prog X.w X.K X.mg X.base (CXX X.prog X.w) k x ps ds (spX X.K n fn))(g:PA X (e::es) (loA B tas))(hk:k<=j:=by decide)(d:∀s ws,tas s=.ok ws->ws.length=n:=by repeat first|exact i2|apply de)(h:Gl X x:=by rfl)(c:Dbg x:=by decide)(i:SE X e es:=by rfl)(a:BT X pos es:=by rfl):PE X (.Call (.Name x p) (e::es) [] pos) (lo B<|WL.fk fn tas):=by refine pE C λf t G m q b _=>?_;exact abJ l.symm o G (r.mono hk) h m q b g d c i a
end
def aja{a}{ps:List Str}(h:bindArgs a ⟨[],[]⟩=pure (ps.zip []))(us)(e:us.length=0):bindArgs a ⟨us,[]⟩=pure (ps.zip us):=by grind
def bind1{b}{ps:List Str}(h:∀a,bindArgs b ⟨[a],[]⟩=pure (ps.zip [a]))(us)(e:us.length=1):bindArgs b ⟨us,[]⟩=pure (ps.zip us):=us1 (P:=λus=>bindArgs _ ⟨us,[]⟩=pure _) h _ e
def rz{b}{ps:List Str}(h:∀c a,bindArgs b ⟨[c,a],[]⟩=pure (ps.zip [c,a]))(us)(e:us.length=2):bindArgs b ⟨us,[]⟩=pure (ps.zip us):=us2 (P:=λus=>bindArgs _ ⟨us,[]⟩=pure _) h _ e
def abd{b}{ps:List Str}(h:∀c a d,bindArgs b ⟨[c,a,d],[]⟩=pure (ps.zip [c,a,d]))(us)(e:us.length=3):bindArgs b ⟨us,[]⟩=pure (ps.zip us):=us3 (P:=λus=>bindArgs _ ⟨us,[]⟩=pure _) h _ e
def adB{c}{ps:List Str}(h:∀d b f a,bindArgs c ⟨[d,b,f,a],[]⟩=pure (ps.zip [d,b,f,a]))(us)(e:us.length=4):bindArgs c ⟨us,[]⟩=pure (ps.zip us):=us4 (P:=λus=>bindArgs _ ⟨us,[]⟩=pure _) h _ e
def cm{k}{A:Around}{a}(r:Room k (A.deeper a))(h:40<=k:=by first|decide|omega|exact aoh (show 40<=_ by decide)<|aoP _ _):A.handled.isNone=true:=r.calm h
section
variable{X:Cx}{B:Bx}{a b e:Expr}{ta tb:EF}{pos:Pos}{x:Str}
def va(i)(d:X.N[i]?=some x:=by rfl)(f:Vis X.env.scope x:=by first|exact Or.inl rfl|exact Or.inr<|Or.inl rfl|exact Or.inr<|Or.inr rfl)(g:Dbg x:=by decide)(c:(x=="__classdict__")=false:=by decide):PE X (.Name x pos) (lo B<|WL.ah i):=agQ<|pv i d f g c
def wx(f:B.K=X.K)(d:PE X a (lo B ta))(c:PE X b (lo B tb))(hs:jI b:=by exact λ_ _=>rfl):PE X (.Subscript a b pos) (lo B<|WL.eOp WL.oIx ta tb):=agR aa5 (amq f.symm) d c hs
def wk{v u w}(g:B.K=X.K)(f:X.mg x=some u)(r:RelV v u)(hw:∀F,RW X.K F w v)(d:Gl X x:=by rfl)(c:Dbg x:=by decide):PE X (.Name x pos) (lo B<|WL.eC w):=aeK (sd d f r c) (by grind)
def wty{T}(d:X.mg x=none)(h:bootBuiltins x=some (.type T))(g:Gl X x:=by rfl)(c:x≠"__name__":=by decide)(f:Dbg x:=by decide):PE X (.Name x pos) (lo B<|WL.eC<|.ty T):=aeK (ak9 g d h c f) λ_=>rfl
def wcl{nm:String}{C:Addr}(c:B.K=X.K)(f:X.mg x=some (.ref C))(d:ExcAt X.K nm C)(h:Gl X x:=by rfl)(g:Dbg x:=by decide):PE X (.Name x pos) (lo B<|WL.eC<|.cls nm):=agU c.symm h f d g
def gx{i d a0 c}{ks vs:List VW}{p}(f:B.K=X.K)(m:X.mg x=some (.ref a0))(D:abn X.w X.K a0 c)(l:∀F k w,WL.o5 k ks vs=some w->∃v,c.lookup k=some v/\RW X.K F w v)(g:PE X i (lo B d))(j:Gl X x:=by rfl)(hs:jI i:=by exact λ_ _=>rfl)(h:Dbg x:=by decide):PE X (.Subscript (.Name x p) i pos) (lo B<|WL.eOp WL.oIx (WL.eC<|.dic ks vs) d):=agS f.symm (sd j m rfl h) D g (by rw[f];exact l) hs
def we2(d:B.K=X.K)(f:X.A.units+64<cLine)(c:PE X a (lo B ta))(g:PE X b (lo B tb)):PT X (.Compare a [.Eq] [b] pos) (loT B<|WL.tB<|WL.eOp WL.oEq ta tb):=bo calm_eq (w_eq d.symm f) c g<|bG _
def wn2(d:B.K=X.K)(f:X.A.units+64<cLine)(c:PE X a (lo B ta))(g:PE X b (lo B tb)):PT X (.Compare a [.NotEq] [b] pos) (loT B<|WL.tB<|WL.eOp WL.oNe ta tb):=bo agh (ans d.symm f) c g<|bG _
def wS(i){c}(h:X.N.Nodup)(g:PE X e (lo B ta))(d:X.N[i]?=some x:=by rfl)(j:Loc X.env.scope x:=by first|exact Or.inl rfl|exact Or.inr rfl)(hs:swapsWith e (some<|.Name x c) pos.line X.env=pure false:=by rfl)(f:FL X x:=by first|exact .inl rfl|exact .inr rfl|assumption):PS X (.Assign [.Name x c] e pos) (loS B<|WL.bq i ta):=agK h d j g hs f
def gN(i){b}(c:X.N.Nodup:=by exact vf rfl)(d:X.N[i]?=some x:=by rfl)(f:Loc X.env.scope x:=by first|exact Or.inl rfl|exact Or.inr rfl)(g:FL X x:=by first|exact .inl rfl|exact .inr rfl|assumption):PG X (.Name x pos) (loG b B<|WL.aq i):=aeI<|zd c d f g
end
section
variable{X:Cx}{B:Bx}{r:List VW->Res VW}{tas:AF}{x:Str}{e:Expr}{es:List Expr}{p pos:Pos}{id:String}
def wB(cm:∀l c,r l≠.ex c)(g:bC X (.builtin id) (loN B.K r))(k:X.mg x=none)(h:bootBuiltins x=some (.builtin id))(f:PA X (e::es) (loA B tas))(i:Gl X x:=by rfl)(d:x≠"__name__":=by decide)(b:Dbg x:=by decide)(j:SE X e es:=by rfl)(a:BT X pos es:=by rfl):PE X (.Call (.Name x p) (e::es) [] pos) (lo B<|WL.eBi r tas):=agV cm<|u5 g i k h f d b j a
def wT(cm:∀l c,r l≠.ex c)(g:bC X (.type id) (loN B.K r))(k:X.mg x=none)(h:bootBuiltins x=some (.type id))(f:PA X (e::es) (loA B tas))(i:Gl X x:=by rfl)(d:x≠"__name__":=by decide)(b:Dbg x:=by decide)(j:SE X e es:=by rfl)(a:BT X pos es:=by rfl):PE X (.Call (.Name x p) (e::es) [] pos) (lo B<|WL.eBi r tas):=agV cm<|qq g i k h f d b j a
def ajj(P:Program)(w:World)(K:W.Frag)(mg:Str->Option Value)(a:Heap)(fI:Addr)(ps:List Str)(sp:Sp):Prop:=∃b:FuncData,FnOk P w K mg a CX0 1 fI b ps sp/\Binds K b ps []
def rI{j C fI ps nm s c}(w:B.K=X.K)(t:Room j X.A)(o:XW X B)(u:X.calm=true)(v:X.mg x=some (.ref C))(q:pz X.K C (some<|.ref fI))(d:W.typeIn X.K (.ref fI)=some (.type "function"))(I:ajj X.prog X.w X.K X.mg X.base fI ps (spI C<|WL.fieldsOf nm))(g:ExcAt X.K nm C)(h:PA X (e::es) (loA B tas))(n:2<=j:=by decide)(l:Gl X x:=by rfl)(i:(WL.fieldsOf nm).length<=50:=by decide)(f:nm≠"Broken":=by decide)(k:Dbg x:=by decide)(m:SE X e es:=by rfl)(a:BT X c es:=by rfl):PS X (.Raise (some<|.Call (.Name x s) (e::es) [] c) none pos) (loS B<|WL.hV nm tas):=by obtain⟨y,F,b⟩:=I;exact ya f w.symm o u l v q d F (t.mono n) b g i h k m a
end
section
variable{K:W.Frag}
def adT{a d n sl vs xs}(l:K.lookup a=some ⟨.type "tuple",d,.seq vs n,sl⟩)(c:Vals xs vs.toList)(b:vs.size<=sizeLine):∀H,SqT K H a xs:=λ_=>.inr ⟨_,_,_,l,rfl,rfl,b,c⟩
def aiH{f a st h od j d kV e i b ct}(l:K.lookup f=some ⟨h,od,.func<|W.fnOf "__init__" a (cq st) (aZ st) (ak st) .none kV e i j b ct,d⟩)(c:W.codeIn K b a=true)(q:W.keepIn K (.ref f)=true):∃g,Fun K "__init__" a st f g:=⟨_,vz l c q⟩
def sV{P w mg b f a st ps sp}(D:∃c,Fun K "__init__" a st f c)(i:∀kV e j k g ct d,d.length=ps.length->bindArgs (W.fnOf "__init__" a (cq st) (aZ st) (ak st) .none kV e j k g ct) ⟨d,[]⟩=pure (ps.zip d))(h:∀c,Fun K "__init__" a st f c->FnOk P w K mg b CX0 1 f c ps sp):ajj P w K mg b f ps sp:=by obtain⟨c,F⟩:=D;exact⟨c,h _ F,F.binds i⟩
def adi{nm a}(b:W.nsIn K mainGlobals (Str.ofString nm)=some (some<|.ref a))(c:W.typeIn K (.ref a)=some (.type "type"))(d:(W.clsIn K a).map (·.mro)=some (.ref a::fD))(e:W.findIn K (.ref a) "__getattribute__"=some (some<|.builtin "BaseException.__getattribute__"))(f:W.findIn K (.ref a) "__getattr__"=some none)(g:W.findIn K (.ref a) "__class__"=some (some<|.builtin "object.__class__")):W.nsIn K mainGlobals (Str.ofString (nm,a).1)=some (some<|.ref (nm,a).2)/\Exc1 K a (nm,a).2:=⟨b,c,.inl ⟨d,rfl⟩,e,f,g⟩
def af3{nm a b}(h:W.nsIn K mainGlobals (Str.ofString nm)=some (some<|.ref a))(c:W.typeIn K (.ref a)=some (.type "type"))(d:(W.clsIn K a).map (·.mro)=some (.ref a::.ref b::fD))(e:W.findIn K (.ref a) "__getattribute__"=some (some<|.builtin "BaseException.__getattribute__"))(f:W.findIn K (.ref a) "__getattr__"=some none)(g:W.findIn K (.ref a) "__class__"=some (some<|.builtin "object.__class__")):W.nsIn K mainGlobals (Str.ofString (nm,a).1)=some (some<|.ref (nm,a).2)/\Exc1 K b (nm,a).2:=⟨h,c,.inr d,e,f,g⟩
end
noncomputable def aka(a:Addr)(n:Nat):HO:=.ext λh=>∃(o:Obj)(b:Array (Int×Value))(c:Nat)(t:SetTable),h.get? a=some o/\o.ExactSet/\o.data=.set b c t/\t.fits b.size=true/\b.size=n
section
variable{X:Cx}{B:Bx}
theorem ni{P:Program}{w:World}:∀{k:List Int}{a:List Value},Vals (k.map .int) a->ItemsAre (intKind P w) k a|[],_,.nil=>.nil|n::k,_,.cons ⟨t,rfl⟩ r=>.cons (intKind_is P w n t)<|ni r
theorem qk:∀{bs:List Addr}{a:List Value},Vals (bs.map .ref) a->a=bs.map .ref|[],_,.nil=>rfl|b::bs,_,.cons (b:=u) h r=>by cases show u=Value.ref b from h;rw[qk r];rfl
def aa7(R:X.calm=true)(w:X.A.units+64<cLine):bC X (.type "set") (λv H Q=>∃(a:Addr)(ks:List (List Int×Addr)),v=[.ref a]/\SqL X.K H a (ks.map λx=>V.ref x.2)/\(∀x∈ks,SqT X.K H x.2<|x.1.map .int)/\ks.length<=4/\∀l,H l=none->Q (.ref l) (upd H l<|aka l (ST.dd<|ks.map (·.1)).length)):=by
 intro j s σ H v us Q I r h;obtain⟨a,ks,rfl,hL,hT,hz,q⟩:=h;obtain⟨u,rfl,N⟩:=vals1 r;cases show u=Value.ref a from N;obtain⟨c,T,pl,_⟩:=I.list hL;have y:c=ks.map λx=>Value.ref x.2:=by have:=qk (bs:=ks.map (·.2)) (by simpa[Function.comp_def]using T);simpa[Function.comp_def]using this
 refine ST.aa6 (items:=c.toArray) (ks:=ks) (I.ok.hd R) w pl.isList (by simpa using y) (λx O=>?_) hz λh' Z Y=>?_;.obtain⟨a0,A,C,_⟩:=I.tuple<|hT x O;obtain⟨o,z,S,n,D⟩:=C;exact⟨o,_,n,z,S,D,ni<|by simpa using A⟩
 .obtain⟨⟨L,sT,hn⟩,kp⟩:=Y;obtain⟨o,E,m,fg,mv,P,p,i,U,G,J⟩:=sT;have f:∀b o,s.heap.get? b=some o->h'.get? b=some o:=λb o e=>kp b o (an9 e) e;refine⟨.ref s.heap.objs.size,_,I.laid (t':=Z) (o:=aka s.heap.objs.size (ST.dd<|ks.map (·.1)).length) f (aob _) ⟨⟨o,_,E,_,p,i,U,ST.iE _ ?_,by rw[ST.qS];exact hn⟩,⟨o,p⟩,λh1 h2⟨k,es,d,t,K,M⟩g=>⟨k,es,d,t,g k K,M⟩⟩,rfl,q _<|I.hok.fresh<|aob _⟩;omega
def aa9:bC X (.builtin "len") λd H Q=>∃(a:Addr)(n:Nat),d=[.ref a]/\H a=some (aka a n)/\n<=1000/\Q (.int n) H:=by intro c s v H d l Q I r h;obtain⟨a,n,rfl,e,m,q⟩:=h;obtain⟨u,rfl,j⟩:=vals1 r;cases show u=Value.ref a from j;obtain⟨⟨o,p,w,t,i,b,g,f,k⟩,_⟩:=show cQ X.prog X.w H s.heap a (aka a n)from I.hok a _ e;exact call_len_set i b g f (by omega) ⟨.int n,H,I.tok _,⟨_,by rw[k]⟩,q⟩
def zX{K:W.Frag}{F:Hp}:∀{ws:List VW}{ks:List (List Int)}{vs:List V},WL.keysOf ws=some ks->RWs K F ws vs->∃bs:List Addr,vs=bs.map V.ref/\bs.length=ks.length/\∀x∈ks.zip bs,SqT K F x.2 (x.1.map .int):=by
 have m:∀{ws:List VW}{k:List Int}{vs:List V},WL.intsOf ws=some k->RWs K F ws vs->vs=k.map V.int:=by intro ws;induction ws with|nil=>intro k vs e r;cases e;simpa[RWs]using r|cons w ws ih=>intro k vs e r;cases w with|int n=>simp only[WL.intsOf]at e;obtain⟨k',h,rfl⟩:=aoI.mp e;simp only[RWs,RW]at r;obtain⟨v,f,rfl,rfl,d⟩:=r;rw[ih h d];rfl|_=>simp[WL.intsOf]at e
 intro ws;induction ws with|nil=>intro ks vs e r;cases e;simp only[RWs]at r;exact⟨[],r,rfl,λx a=>absurd a aop⟩|cons w ws ih=>
 intro ks vs e r
 cases w with|tup us=>
  simp only[WL.keysOf]at e;obtain⟨k,j,o⟩:=Option.bind_eq_some_iff.mp e;obtain⟨p,g,rfl⟩:=aoI.mp o;simp only[RWs,RW]at r;obtain⟨v,f,rfl,⟨b,s,rfl,l,q⟩,d⟩:=r;obtain⟨bs,rfl,i,c⟩:=ih g d;have:=m j q;subst this;refine⟨b::bs,rfl,by simp[i],λx a=>?_⟩;rw[List.zip_cons_cons]at a;rcases an7.mp a with rfl|a;.exact l
  .exact c x a|_=>simp[WL.keysOf]at e
def yf{a:Expr}{ta:EF}{p r pos b:Pos}(w:B.K=X.K)(I:X.calm=true)(y:X.A.units+64<cLine)(K:X.mg "len"=none)(j:X.mg "set"=none)(h:PE X a (lo B ta))(z:Gl X "len":=by rfl)(k:Gl X "set":=by rfl)(hs:starEach [a] X.env=(false,eval a X.env)::starEach [] X.env:=by rfl)(A:(backTo b<|starEach [] X.env).any (·.1)=false:=by rfl)(d:starEach [Expr.Call (.Name "set" r) [a] [] b] X.env=(false,eval (.Call (.Name "set" r) [a] [] b) X.env)::starEach [] X.env:=by rfl)(m:(backTo pos<|starEach [] X.env).any (·.1)=false:=by rfl):PE X (.Call (.Name "len" p) [.Call (.Name "set" r) [a] [] b] [] pos) (lo B<|WL.tx ta):=PE.imp (u5 aa9 z K aqM (aU (qq (aa7 I y) k j boot_set (aU h bY hs) (by decide) (by decide) hs A) bY d) (by decide) (by decide) d m) λJ H Q⟨g,F,R,q⟩=>by refine⟨g,F,R,?_⟩;have q:=Rq.bind q;show Rq B g F (ta g) _;cases e:ta g with
 |ok x=>rw[e]at q;intro v P S i E s;cases x with
  |lst ws=>have q:Rq B g F (match WL.keysOf ws with|some ks=>if ks.length<=4 then Res.ok (WL.W.int (WL.dd ks).length)else .bad|none=>.bad) _:=q;cases n:WL.keysOf ws with|none=>rw[n]at q;exact(show False from q).elim|some ks=>
     rw[n]at q;dsimp only at q;by_cases t:ks.length<=4
     .rw[an4 t]at q;simp only[RW]at s;obtain⟨a,O,rfl,C,M⟩:=s;obtain⟨bs,rfl,N,f⟩:=zX n M;have u:(ks.zip bs).map (·.1)=ks:=by rw[List.map_fst_zip];omega
      have D:(ks.zip bs).map (λx=>V.ref x.2)=bs.map V.ref:=by
       have:(ks.zip bs).map (·.2)=bs:=by rw[List.map_snd_zip];omega
       conv=>rhs;rw[<-this]
       rw[aoR];rfl
      refine⟨a,ks.zip bs,rfl,?_,λx G=>?_,by rw[List.length_zip];omega,λl o=>⟨l,_,rfl,aj,?_,?_⟩⟩;.rw[D,<-w];exact i.rb.sub.seq C
      .rw[<-w];exact i.rb.sub.tup<|f x G
      .exact aoh (ST.aev _) (by rw[u];omega)
      .rw[u];exact q (.int _) _ _ (i.new o _) (E.trans<|Gr.new (i.rb.sub.free o) o _) (by simp only[RW];rfl)
     .rw[an5 t]at q;exact(show False from q).elim
  |_=>exact(show False from q).elim
 |ex c=>rw[e]at q;exact q|bad=>rw[e]at q;exact q
end
noncomputable def noL(K:W.Frag):Bool:=K.all λp=>match p.2.cls with|.type n=>n !="list"|_=>true
theorem aed:∀{K:W.Frag},noL K=true->∀{a:Addr}{o:Obj},K.lookup a=some o->o.cls≠.type "list"
|[],_,a,o,e=>by simp at e|(b,u)::K,h,a,o,e=>by
 simp only[noL,aqu,aoo]at h;rw[aoO]at e;split at e;.cases e;intro z;have c:=h.1;rw[z]at c;simp at c
 .exact aed h.2 e
def SqL.here{K:W.Frag}{F:Hp}{a:Addr}{vs:List V}(h:noL K=true)(q:SqL K F a vs):Rd F a (.lst vs):=by
 rcases q with q|⟨o,d,n,b,c,_⟩;.exact q
 .exact absurd c (aed h b)
section
variable{B:Bx}{σ:Ws}{σV:L2.St}{F H:Hp}
def RS.away(R:RS B σ σV F H){a:Addr}(o:HO)(k:F a=none)(n:B.H0 a=none)(i:∀(j:Nat)(ws:List VW),σ[j]?=some (Sl.ow ws)->σV[j]?≠some (some<|V.ref a))(g:∀(j:Nat)(f d:List VW),σ[j]?=some (Sl.od f d)->σV[j]?≠some (some<|V.ref a)):RS B σ σV F (upd H a o):=by
 refine⟨⟨λb u e=>?_,λb u e=>?_,R.rb.fz0,R.rb.fr⟩,R.len,R.va,λj ws e=>?_,R.ap,R.dd.via rfl id (λ_ _ z=>.inl z) (λ_ _ _ e=>⟨e,rfl⟩) (aB.refl _) λj f d b v r s y q w=>⟨q,w,by
  have c:b≠a:=λz=>by subst z;exact g j f d r s
  rw[ai c];exact y⟩⟩
 .have c:b≠a:=λz=>by subst z;rw[k]at e;cases e
  rw[ai c];exact R.rb.sub b u e
 .have c:b≠a:=λz=>by subst z;rw[n]at e;cases e
  rw[ai c];exact R.rb.base b u e
 .obtain⟨b,p,h,x,t,l,m⟩:=R.ow j ws e;have c:b≠a:=λz=>by subst z;exact i j ws e h
  exact⟨b,p,h,x,t,by rw[ai c];exact l,m⟩
end
end WS
namespace L2
open PySem PySem.Spec PyProof.Rows
noncomputable def akb(lo:Int)(n:Nat):It:=⟨λi _=>i<n,λi H x a=>a=H/\x=.int (lo+(i:Nat)*2),λi _=>n<=i⟩
def rR{P:Program}{w:World}{K:W.Frag}{tg:Expr}(it:Addr)(lo:Int)(n:Nat):Turn P w K tg (akb lo n) [it] it λi h=>IsRangeIter h it (lo+(i:Nat)*2) ((n:Int)-(i:Nat)) 2 where
 mem:=by simp
 obj:=λi h st b hb=>by
  have e:b=it:=by simpa using hb
  subst e;exact⟨_,st,λv z=>by have z':Data.fields _=Data.cell v:=z;cases z'⟩
 keep:=λi h h' st k=>k it (by simp) _ st;item:=by intro X hP hw hK i pins s σ H E hc I hf st hg;subst hP hw hK;obtain⟨f0,f1,f2,f3,f4,f5⟩:=hf it (by simp);have W:=Walks.range (prog:=X.prog) (w:=X.w) (I.ok.hd hc) it lo 2 n;refine W.item i s _ _ hg st λv h' tk hv st' kk=>?_;obtain⟨t,rfl⟩:=hv;have I1:Inv X pins σ H {s with heap:=h',toks:=tk}:=I.turned (λb o hb e=>kk b o (by simpa using hb) e) f0 f1 f3 f4 f5;exact⟨_,rfl,ac8 (s:={s with heap:=h',toks:=tk}) (n:="range_iterator") st' rfl rfl (by decide) ⟨.int<|lo+i*2,H,I1,⟨t,rfl⟩,⟨rfl,rfl⟩,st',λb hb=>(hf b hb).1⟩⟩
 done:=by intro X hP hw hK i pins s σ H E hc I hf st hg;subst hP hw hK;obtain⟨f0,f1,f2,f3,f4,f5⟩:=hf it (by simp);exact wpAny_pyNext_range_end (I.ok.hd hc) st (by have:n<=i:=hg;omega) λh' eb=>⟨rfl,I.turned (t':=s.toks) (λb o hb e=>eb b o hb e) f0 f1 f3 f4 f5⟩
 self:=λ_ _ _ _ _ st h=>wpAny_pyIter_rangeiter st h
def iJ(a b):Builtin.Range.rangeSize a b 2=((b-a+1)/2).toNat:=by unfold Builtin.Range.rangeSize;split<;>omega
def yD{a b}(f:-2^60<=a)(d:a<2^60)(e:-2^60<=b)(c:b<2^60):Builtin.Range.small a b 2=true:=by unfold Builtin.Range.small;rw[iJ];simp only[Builtin.Range.rangeFitsLong,aoo,arv,aoJ,show(2:Int)>0 by decide,aqa];omega
section
variable{X:Cx}{tg:Expr}
def yZ{pins}{σ:St}{H s R E lo a t u v d}(I:Inv X pins σ H s)(h:-2^60<=lo)(l:lo<2^60)(k:-2^60<=a)(f:a<2^60)(q:R (akb lo ((a-lo+1)/2).toNat) H):wpAny (model X.prog X.w) X.A (pyIter<|.ref s.heap.objs.size) (PIE X pins σ tg R) E {s with heap:=s.heap.push {cls:=.type "range",data:=.fields #[.int lo t,.int a u,.int 2 v]},toks:=d}:=by
 refine wpAny_pyIter_range (IsRange.new ..) (yD h l k f) ?_;have c:Inv X pins σ H {s with heap:=s.heap.push {cls:=.type "range",data:=.fields #[.int lo t,.int a u,.int 2 v]},toks:=d}:=I.kept λb o e=>anZ _ e;refine⟨_,_,_,_,H,rfl,c.kept (t':=d) λb o e=>anZ _ e,rR _ lo ((a-lo+1)/2).toNat,?_,λb i=>?_,q⟩
 .have g:lo+((0:Nat):Int)*2=lo:=by simp
  have j:((((a-lo+1)/2).toNat:Nat):Int)-((0:Nat):Int)=Builtin.Range.rangeSize lo a 2:=by rw[iJ];simp
  rw[g,j];exact aoj _ rfl
 .have e:b=(s.heap.push {cls:=.type "range",data:=.fields #[.int lo t,.int a u,.int 2 v]}).objs.size:=by simpa using i
  subst e;exact c.aiP (aob _)<|c.hok.fresh<|aob _
def aai(ta:TA):TI:=λc H R=>ta c H λa b=>∃i j:Int,a=[.int i,.int j,.int 2]/\(-2^60<=i/\i<2^60/\-2^60<=j/\j<2^60)/\R (akb i ((j-i+1)/2).toNat) b
def za{a b c ta p pos}(m:Gl X "range")(y:X.mg "range"=none)(l:PA X [a,b,c] ta)(hs:starEach [a,b,c] X.env=[(false,eval a X.env),(false,eval b X.env),(false,eval c X.env)]:=by rfl)(d:starEach [b,c] X.env=[(false,eval b X.env),(false,eval c X.env)]:=by rfl):PI X tg (.Call (.Name "range" p) [a,b,c] [] pos) (aai ta):=by intro k s x H R I h;refine Call_ (g0 I m y arE<|aoW (thn (l _ _ s x H _ I h) λB C f=>?_) (by grind)<|by rw[d];rfl);obtain⟨D,E,n,u,g⟩:=f;obtain⟨i,j,e,⟨g,w,z,o⟩,q⟩:=g;subst e;cases u with|cons r rr=>cases rr with|cons r' rr=>cases rr with|cons r'' rr=>cases rr;obtain⟨t,rfl⟩:=r;obtain⟨A,rfl⟩:=r';obtain⟨v,rfl⟩:=r'';exact call_range_3 (by decide) (yZ n g w z o q) (Or.inl<|PyProof.noPylong_small<|by omega)
end
end L2
namespace WS
open PySem PySem.Spec PyProof.Rows L2 PySem.Builtin PySem.Builtin.Str
open WL(Res Sl Ws EF TF AF LF GF GsF SF Out OX RF Tw)
section
variable{X:Cx}{B:Bx}{K:W.Frag}{tg:Expr}{ta tb:EF}
def yh{lo n F}:Walk K (akb lo n) (WL.ab3 lo 2 n) F:=by
 refine⟨λi x e c g h d=>?_,λc g h d=>by show n<=(WL.ab3 _ 2 n).length;simp[WL.ab3]⟩;have b:=by have:=(aoa.mp e).1;simpa[WL.ab3]using this
 simp [WL.ab3,apj b]at e;cases e;refine⟨b,λu k a=>?_⟩;obtain⟨j,f⟩:=a;subst j f;exact⟨c,Ext.refl _ _,rfl⟩
def aeF{a c d p pos b}(r:Gl X "range")(I:X.mg "range"=none)(h:PE X a (lo B ta))(h':PE X c (lo B tb))(hs:starEach [a,c,.Constant (.int 2) d b] X.env=[(false,eval a X.env),(false,eval c X.env),(false,eval (.Constant (.int 2) d b) X.env)]:=by rfl)(l:starEach [c,.Constant (.int 2) d b] X.env=[(false,eval c X.env),(false,eval (.Constant (.int 2) d b) X.env)]:=by rfl)(u:starEach [a,c,.Constant (.int 2) d b] X.env=(false,eval a X.env)::starEach [c,.Constant (.int 2) d b] X.env:=by rfl)(M:starEach [c,.Constant (.int 2) d b] X.env=(false,eval c X.env)::starEach [.Constant (.int 2) d b] X.env:=by rfl)(z:starEach [.Constant (.int 2) d b] X.env=(false,eval (.Constant (.int 2) d b) X.env)::starEach [] X.env:=by rfl):PI X tg (.Call (.Name "range" p) [a,c,.Constant (.int 2) d b] [] pos) (loI B<|WL.aai ta tb):=PI.imp (za r I (aU h (aU h' (aU ad8 bY z) M) u) hs l) λG H R f=>by refine eG f λm F o q=>?_;have q:=Rq.bind q;refine fv m F o (Rq.mono (aB.refl _) q λx j v N E s n t=>?_);have j:=Rq.bind j;refine fv m E s (Rq.mono n.f j λy e v2 C A R2 D w=>?_);cases x with
|int i=>cases y with|int k=>
   have e:Rq B m F (if -2^60<=i/\i<2^60/\-2^60<=k/\k<2^60 then Res.ok _ else .bad) _:=e;subst t w;by_cases g:-2^60<=i/\i<2^60/\-2^60<=k/\k<2^60;.rw[an4 g]at e;exact i5 i k rfl g ((show∀J O P,_ from e) _ C A R2 (n.trans D) yh)
   .rw[an5 g]at e;exact(show False from e).elim|_=>exact(show False from e).elim
|_=>exact(show False from e).elim
end
section
variable{X:Cx}{B:Bx}
def int_text{i:Int}(h:i.natAbs<1000):(Str.ofString<|toString i).length<=10/\i.natAbs.log2<1920:=by
 have a:((List.range 1000).all λn=>Nat.ble (Str.ofString<|toString<|Int.ofNat n).length 10&&Nat.ble (Str.ofString<|toString<|Int.neg<|Int.ofNat n).length 10)=true:=by decide+kernel
 have k:=aoD.mp a i.natAbs<|aoc.mpr h;rw[aoo,Nat.ble_eq,Nat.ble_eq]at k;refine⟨?_,?_⟩
 .rcases Int.natAbs_eq i with e|e;.rw[e];exact k.1
  .rw[e];exact k.2
 .by_cases z:i.natAbs=0;.rw[z];decide
  .rw[Nat.log2_lt z];exact an6 h (by decide)
def adH{pins:List (Addr×Obj)}{σ:L2.St}{H:Hp}{s:Shared}(I:Inv X pins σ H s){h':Heap}(k:∀b o,s.heap.get? b=some o->h'.get? b=some o):Inv X pins σ H {s with heap:=h'}:=I.ajD (ch:=[]) (λb a=>absurd a aop) (λb o q _ _=>k b o q) λb o q _ _=>⟨o.slots,k b o q⟩
def anE(K:W.Frag)(U:Nat)(ta:TE):TE:=λc H Q=>ta c H λx b=>∃n d a,x=.ref a/\IsD K b n x d/\d.showable=true/\d.hasDict=false/\U+n<cLine/\d.shown.length<=80000/\Q (.str d.shown) b
def ahR{e:Expr}{pos:Pos}{ta:TE}(j:X.A.guards=some [])(r:PE X e ta):PE X (.FormattedValue e 114 none pos) (anE X.K X.A.units ta):=by intro c s y H Q I h;refine wpAny_FormattedValue_repr (thn (r c s y H _ I h) λu J f=>?_);obtain⟨x,l,g,w,q⟩:=f;obtain⟨n,d,a,ex,i,k,p,A,m,q⟩:=q;subst ex;cases show u=Value.ref a from w;obtain⟨⟨M,t⟩,D,G⟩:=g.reads n d (.ref a) _ i rfl;have b:d.shown.length<=sizeLine:=aoh m (by decide);refine pyReprObj_of_reads t k (λz=>by rw[p]at z;cases z) j (by omega) (λ_ _ q=>q) (λK u E o=>?_) b;exact aqL (λC v=>⟨.str d.shown,l,((adH g o).tok _).tok _,⟨_,rfl⟩,q⟩) b
theorem jO:∀l:List PyData,(PyData.shownAll l).length=l.length|[]=>rfl|x::l=>by simp only[PyData.shownAll,aon,jO l]
theorem ahl:∀{ws:List VW}{n k:Nat},WL.shL ws=some n->WL.gP (k+1) ws=true->PyData.showableAll (fZ ws)=true/\PyData.hasDictAll (fZ ws)=false/\((PyData.shownAll<|fZ ws).map (·.length)).sum+2*(fZ ws).length+3<=n
|[],n,k,e,_=>by cases e;exact⟨rfl,rfl,aob _⟩|.int i::ws,n,k,e,o=>by
 have e:(if i.natAbs<1000 then(WL.shL ws).map (.+12)else none)=some n:=e;by_cases a:i.natAbs<1000;.rw[an4 a]at e;obtain⟨m,em,rfl⟩:=aoI.mp e;have o:=ao7.mp o;obtain⟨b,c,d⟩:=ahl em o.2;have ht:=int_text a;refine⟨by simpa[fZ,aeP,aeQ,PyData.showableAll,PyData.showable,ht.2]using b,by simpa[fZ,aeP,aeQ,PyData.hasDictAll,PyData.hasDict]using c,?_⟩;simp only[fZ,aeP,aeQ,PyData.shownAll,PyData.shown,aor,List.sum_cons,aon];have:=ht.1;omega
 .rw[an5 a]at e;cases e|.non::_,_,_,e,_=>by cases e|.str _::_,_,_,e,_=>by cases e|.bl _::_,_,_,e,_=>by cases e|.ty _::_,_,_,e,_=>by cases e|.tup _::_,_,_,e,_=>by cases e|.lst _::_,_,_,e,_=>by cases e|.dic _ _::_,_,_,e,_=>by cases e|.cls _::_,_,_,e,_=>by cases e|.exc _ _::_,_,_,e,_=>by cases e|.ins _ _::_,_,_,e,_=>by cases e
inductive PJ(X:Cx)(B:Bx):List Expr->AF->Prop where|nil:PJ X B [] WL.ao|c{x:Str}{j:Nat}{pos:Pos}{es:List Expr}{t:AF}(h:PJ X B es t)(hl:x.length<=1000):PJ X B (.Constant (.str x) j pos::es) t|r{e:Expr}{pos:Pos}{es:List Expr}{ta:EF}{t:AF}(hK:X.K=B.K)(hu:X.A.units+64<cLine)(hg:X.A.guards=some [])(he:PE X e (lo B ta))(h:PJ X B es t):PJ X B (.FormattedValue e 114 none pos::es) (WL.aa (WL.eFr ta) t)
def agN:PJ X B [] WL.ao:=.nil
def anr{x:Str}{j:Nat}{pos:Pos}{es:List Expr}{t:AF}(h:PJ X B es t)(a:x.length<=1000:=by decide+kernel):PJ X B (.Constant (.str x) j pos::es) t:=.c h a
def anq{e:Expr}{pos:Pos}{es:List Expr}{ta:EF}{t:AF}(hK:X.K=B.K)(a:X.A.units+64<cLine)(b:X.A.guards=some [])(c:PE X e (lo B ta))(h:PJ X B es t):PJ X B (.FormattedValue e 114 none pos::es) (WL.aa (WL.eFr ta) t):=.r hK a b c h
def abj(x y:Str):(x++y).length=x.length+y.length:=by show(x.cps++y.cps).size=_;rw[Array.size_append];rfl
def yU{n m:Nat}{a:Str}(h:a.length<=100000*n)(b:n+m<=50):a.length<=sizeLine:=aoh h (aoh (Nat.mul_le_mul_left 100000<|show n<=50 by omega)<|by decide)
theorem sS:∀{es:List Expr}{t:AF},PJ X B es t->∃s,Paired (PE X) es s/\∀(σ:Ws)(c:L2.St)(F H:Hp)(Q:VK)(b:Str)(n:Nat),RS B σ c F H->n+es.length<=50->b.length<=100000*n->Rq B σ F (t σ) (λ_=>∀i l(y:Str),y.length<=5000000->RS B σ c l i->Gr F H l i->Q (.str y) i)->tJ s b c H Q
|_,_,.nil=>⟨[],.nil,λσ c F H Q b n R j A q=>⟨yU A j,(show∀i l(y:Str),_ from q) H F b (by simp at j;omega) R Gr.refl⟩⟩|_,_,.c (x:=x) (es:=es) h hl=>by
  obtain⟨s,D,z⟩:=sS h;refine⟨_,.cons jS D,λσ c F H Q b n R j A q=>?_⟩;have d:n+1+es.length<=50:=by simp at j;omega
  have e:(b++x).length<=100000*(n+1):=by rw[abj];omega
  exact⟨x,rfl,yU e d,z σ c F H Q (b++x) (n+1) R d e q⟩|_,_,.r (es:=es) (ta:=ta) (t:=t) hK hu hg he h=>by
  obtain⟨s,D,z⟩:=sS h;refine⟨_,.cons (ahR hg he) D,λσ c F H Q b n R j A q=>?_⟩;have d:n+1+es.length<=50:=by simp at j;omega
  have q:=Rq.bind<|Rq.bind q;refine⟨σ,F,R,Rq.mono (aB.refl _) q λx g v M U E G w=>?_⟩;cases x with|lst ws=>
   by_cases u:WL.shC ws=true;.have O:WL.alQ (.lst ws)=.ok (.lst ws):=an4 u;rw[O]at g;have o:(WL.gP 51 ws&&match WL.shL ws with|some n=>decide (n<=80000)|none=>false)=true:=u;rw[aoo]at o;obtain⟨I,p⟩:=o;cases f:WL.shL ws with|none=>rw[f]at p;cases p|some m=>
     rw[f]at p;have p:m<=80000:=by simpa using p
     obtain⟨P,K,s3⟩:=ahl f I;have J:=RW.isD 51 (.lst ws) v I<|w.keep E.rb.sub;simp only[RW]at w;obtain⟨a,Y,rfl,_,_⟩:=w;have r:(PyData.shown<|.list<|fZ ws).length<=80000:=by have Z:=listText_len_le<|PyData.shownAll<|fZ ws;have h2:(PyData.shownAll<|fZ ws).length=(fZ ws).length:=jO<|fZ ws;simp only[PyData.shown];omega
     refine⟨51,.list<|fZ ws,a,rfl,by rw[hK];exact J,by simpa only[PyData.showable]using P,by simpa only[PyData.hasDict]using K,by omega,r,?_⟩;have e:(b++PyData.shown (.list<|fZ ws)).length<=100000*(n+1):=by rw[abj];omega
     refine⟨_,rfl,yU e d,z σ c U M Q _ (n+1) E d e ?_⟩;exact Rq.mono G.f (Rq.bind<|show Rq B σ F ((t σ).bind λT=>.ok (.lst ws::T)) _ from g) λws k i l N C R2 S=>(show∀i l(y:Str),_ from k) i l N C R2<|G.trans S
   .have g:Rq B σ F (if WL.shC ws=true then Res.ok (WL.W.lst ws)else .bad) _:=g;rw[an5 u]at g;exact(show False from g).elim|_=>exact(show False from g).elim
def x9{x:Str}{C:Addr}{nm:String}{h i:Expr}{es:List Expr}{a:AF}{w b d pos:Pos}(hK:X.K=B.K)(J:XW X B)(K:X.calm=true)(u:Gl X x)(M:X.mg x=some (.ref C))(q:pz X.K C none)(p:ExcAt X.K nm C)(n:WL.fieldsOf nm=[])(v:PJ X B (h::i::es) a)(O:es.length<=40:=by decide)(r:Dbg x:=by decide)(l:evalEach es X.env=es.map λe=>eval e X.env:=by rfl)(hs:starEach [Expr.JoinedStr (h::i::es) b] X.env=(false,eval (.JoinedStr (h::i::es) b) X.env)::starEach [] X.env:=by rfl)(c:BT X d []:=by rfl):PS X (.Raise (some<|.Call (.Name x w) [.JoinedStr (h::i::es) b] [] d) none pos) (loS B<|WL.rW nm a):=by obtain⟨Q,N,z⟩:=sS v;refine PS.imp (uY K u M q (aU (oj N l) bY hs) r hs c) λD g H j=>?_;obtain⟨m,F,R,q⟩:=j;have q:=Oq.ofR q;refine z m g F H _ Str.empty 0 R (by simp;omega) (aob _) (Rq.mono (aB.refl _) q λws A P S y G o I=>?_);refine⟨show 1<=sizeLine by decide,λf s e E ht t=>?_⟩;have k:=av (o.rb.sub.free ht)<|.tup [.str y];exact J f g _ s m _ (.exc nm []) (o.new ht _) (B.mono _ m F _ (I.f.trans k) A) e C _ none _ t ⟨p,[],by rw[n];rfl,by simp[RWs],.inl ⟨rfl,rfl⟩,⟨0,rfl⟩,.inr ⟨aih n,E,y,rfl,aj,G⟩⟩
end
end WS
namespace WS
open PySem PySem.Spec PyProof.Rows L2
open WL(Res Sl Ws EF TF AF LF GF GsF SF Out OX RF Tw)
section
variable{F:Hp}{a:Addr}{kvs:List (Key×V)}{od:Obj}{K:W.Frag}
noncomputable abbrev zD(od:Obj)(kvs:List (Key×V)):HO:=.frz od<|.dK kvs
def akZ(e:F a=some (.dK kvs)){b l}(h:Rd F b (.dK l)):Rd (upd F a<|zD od kvs) b (.dK l):=by
 by_cases c:b=a;.subst c;rcases h with h|⟨o,h⟩<;>rw[e]at h<;>cases h;exact .inr ⟨od,aj⟩
 .unfold Rd;rw[ai c];exact h
def akY(e:F a=some (zD od kvs)){b l}(h:Rd F b (.dK l)):Rd (upd F a<|.dK kvs) b (.dK l):=by
 by_cases c:b=a;.subst c;rcases h with h|⟨o,h⟩<;>rw[e]at h<;>cases h;exact .inl aj
 .unfold Rd;rw[ai c];exact h
def adS{o o'}(e:F a=some o)(c:∀xs,o≠.tup xs)(d:∀ob xs,o≠.frz ob (.tup xs)){b xs}(h:SqT K F b xs):SqT K (upd F a o') b xs:=by
 rcases h with(h|⟨ob,h⟩)|h;.exact .inl (.inl<|by rw[ai λz=>by grind];exact h)
 .exact .inl (.inr ⟨ob,by rw[ai λz=>by grind];exact h⟩)
 .exact .inr h
def adU{o o'}(e:F a=some o)(c:∀xs,o≠.lst xs)(d:∀ob xs,o≠.frz ob (.lst xs)){b xs}(h:SqL K F b xs):SqL K (upd F a o') b xs:=by
 rcases h with(h|⟨ob,h⟩)|h;.exact .inl (.inl<|by rw[ai λz=>by grind];exact h)
 .exact .inl (.inr ⟨ob,by rw[ai λz=>by grind];exact h⟩)
 .exact .inr h
def RWs.fz(e:F a=some (.dK kvs)){ws vs}(h:RWs K F ws vs):RWs K (upd F a<|zD od kvs) ws vs:=RWs.via (λ_ _ q=>adS e (λ_ z=>nomatch z) (λ_ _ z=>nomatch z) q) (λ_ _ q=>adU e (λ_ z=>nomatch z) (λ_ _ z=>nomatch z) q) (λ_ _ q=>akZ e q) (λb c q=>by rw[ai λz=>by grind];exact q) (λb c q=>by rw[ai λz=>by grind];exact q) (λb _ _ _ _ q=>by rw[ai λz=>by grind];exact q) _ _ h
def RWs.th(e:F a=some (zD od kvs)){ws vs}(h:RWs K F ws vs):RWs K (upd F a<|.dK kvs) ws vs:=RWs.via (λ_ _ q=>adS e (λ_ z=>nomatch z) (λ_ _ z=>nomatch z) q) (λ_ _ q=>adU e (λ_ z=>nomatch z) (λ_ _ z=>nomatch z) q) (λ_ _ q=>akY e q) (λb c q=>by rw[ai λz=>by grind];exact q) (λb c q=>by rw[ai λz=>by grind];exact q) (λb _ _ _ _ q=>by rw[ai λz=>by grind];exact q) _ _ h
def RW.one{w v}(h:RWs K F [w] [v]):RW K F w v:=by obtain⟨_,_,e,q,_⟩:=h;cases e;exact q
end
end WS
namespace PySem
end PySem
namespace L2
open PySem PySem.Spec PyProof.Rows
end L2
namespace WS
open PySem PySem.Spec PyProof.Rows L2
open WL(Res Sl Ws EF TF AF LF GF GsF SF Out OX RF Tw)
section
variable{X:Cx}{B:Bx}{K:W.Frag}
noncomputable def kW:Key->VW|.inl none=>.non|.inl (some i)=>.int i|.inr z=>.str z
def qK{F x a}(h:RW K F x (kV a)):x=kW a:=by rcases a with(_|i)|z<;>cases x<;>simp only[kV,RW,reduceCtorEq,false_and,exists_false]at h<;>cases h<;>rfl
def oJ{F x y}:∀{a b},RW K F x (kV a)->RW K F y (kV b)->WL.lO x y=decide (a=b):=by intro a b c d;rw[qK c,qK d,aoz];rcases a with(_|i)|z<;>rcases b with(_|j)|e<;>simp[WL.lO,kW]
set_option tactic.hygienic true in
def aek{F}{k:VW}{v}(hk:WL.ael k=true)(r:RW K F k v):∃a,v=kV a:=by
 cases k<;>simp [WL.ael]at hk;.exact⟨.inl none,r⟩
 .rename_i i;exact⟨.inl<|some i,r⟩
 .rename_i x;exact⟨.inr x,r⟩
theorem aaY{F k b}(c:RW K F k (kV b)):∀{a:List (Key×V)}{ks},RWs K F ks (a.map λp=>kV p.1)->WL.agw k ks=a.any λd=>decide (d.1=b)
|[],ks,r=>by cases ks with|nil=>rfl|cons x ks=>simp[RWs]at r
|p::a,ks,r=>by cases ks with|nil=>simp[RWs]at r|cons x ks=>obtain⟨v1,h,f,g,e⟩:=r;cases f;show(WL.lO x k||WL.agw k _)=_;rw[oJ g c,aaY c e];rfl
theorem aaX{F k w b v}(i:RW K F k (kV b))(f:RW K F w v):∀{a:List (Key×V)}{ks us},RWs K F ks (a.map λp=>kV p.1)->RWs K F us (a.map λp=>p.2)->RWs K F ks ((a.map λc=>if c.1=b then(c.1,v)else c).map λp=>kV p.1)/\RWs K F (WL.qZ k w ks us) ((a.map λc=>if c.1=b then(c.1,v)else c).map λp=>p.2)
|[],ks,us,r1,r2=>by cases ks with
 |nil=>cases us with|nil=>exact⟨r1,r2⟩|cons _ _=>simp[RWs]at r2
 |cons x ks=>simp[RWs]at r1
|p::a,ks,us,r1,r2=>by cases ks with|nil=>simp[RWs]at r1|cons x ks=>cases us with|nil=>simp[RWs]at r2|cons y us=>
    obtain⟨v1,s,m,d,l⟩:=r1;obtain⟨v2,r,q,n,o⟩:=r2;cases m;cases q;obtain⟨g,j⟩:=aaX i f l o;have e:=oJ d i;unfold WL.qZ;rw[e];by_cases h:p.1=b;.rw[aoC h,an4 rfl];simp only[aor,an4 h];exact⟨.cons d g,.cons f j⟩
    .rw[aoq h,an5 aov];simp only[aor,an5 h];exact⟨.cons d g,.cons n j⟩
def afh{F k w b v}(c:RW K F k (kV b))(f:RW K F w v){a ks us}(d:RWs K F ks (a.map λp=>kV p.1))(e:RWs K F us (a.map λp=>p.2)):RWs K F (WL.putK ks k) ((putK a b v).map λp=>kV p.1)/\RWs K F (WL.ahC ks us k w) ((putK a b v).map λp=>p.2):=by
 unfold WL.putK WL.ahC L2.putK;rw[aaY c d];by_cases h:(a.any λg=>decide (g.1=b))=true;.rw[an4 h,an4 h,an4 h];exact aaX c f d e
 .rw[an5 h,an5 h,an5 h,apg,apg];exact⟨d.app<|.one c,e.app<|.one f⟩
variable{i j:Nat}{pos pos':Pos}{x:Str}
def yb{a}(t:X.N.Nodup)(h:X.N[i]?=some x)(m:Loc X.env.scope x)(hs:swapsWith (.Dict [] [] a) (some<|.Name x pos') pos.line X.env=pure false:=by rfl)(k:FL X x:=by first|exact .inl rfl|exact .inr rfl|assumption):PS X (.Assign [.Name x pos'] (.Dict [] [] a) pos) (loS B<|WL.afb i):=PS.imp (uX t h m acn hs k) λD s H d=>by refine eG d λu F R q=>?_;intro p c;refine q _ _ F ((R.aif c _).anI (R.rb.sub.free c) (R.rb.base.free c) aj (rfl) (rfl) λj n g _ o r=>?_)<|aB.refl _;refine pE (R.dd.od j n g o) λb l e _ _ f _=>?_;rw[r]at e;cases e;rw[c]at f;cases f
def kz{o h b tv s}(G:X.A.units+1<cLine)(Y:PE X o (kQ i))(J:PE X h (lo B s))(Z:PE X b (lo B tv))(hs:swapsWith b (some<|.Subscript o h pos') pos.line X.env=pure false:=by rfl):PS X (.Assign [.Subscript o h pos'] b pos) (loS B<|WL.n7 i tv s):=PS.imp (afl G Y J Z hs) λD p H l=>by refine eG l λd F R q=>?_;have q:Oq B D F (match d[i]? with|some (.od ks us)=>WL.ofR d (tv d) _|_=>.bad):=q;cases f:d[i]? with|none=>rw[f]at q;exact q.elim|some sl=>
 rw[f]at q;cases sl with|od ks us=>
   have q:=Oq.ofR q;refine⟨d,F,R,Rq.mono (aB.refl _) q λw n v H1 F1 r z N=>?_⟩;refine eG (r.dd.od i ks us f) λa a0 m _=>?_;refine⟨.ref a,m,?_⟩;have n:=Oq.ofR n;refine⟨d,F1,r,Rq.mono z.f n λk c y H2 S R2 A u=>?_⟩;refine ajl (R2.dd.od i ks us f) λa' e C U T E t O=>?_;rw[m]at C;cases C;have c:Oq B D F (if WL.ael k=true/\ks.length<WL.lim then .nx _ else .bad):=c;by_cases g:WL.ael k=true/\ks.length<WL.lim
   .rw[an4 g]at c;obtain⟨I,rfl⟩:=aek g.1 u;have M:e.length<sizeLine:=by have:=t.length;rw[aos]at this;rw[<-this];exact an6 g.2 gZ
    obtain⟨Q,P⟩:=afh u (N.keep A.f) t O;exact⟨a,_,rfl,ajh.k E M,c p _ S (R2.agM f m U T E Q P)<|z.f.trans A.f⟩
   .rw[an5 g]at c;exact c.elim|_=>exact q.elim
end
end WS
set_option autoImplicit true
set_option relaxedAutoImplicit true
namespace L2
open PySem PySem.Spec PyProof.Rows
section
variable{X:Cx}{k:Nat}{f C:Addr}{fd:FuncData}{ps:List Str}{sp:Sp}{dvs:List V}{ds:List Value}{x:Str}{p pos:Pos}{e:Expr}{es:List Expr}{t:TA}
def ahf(X:Cx)(C:Addr)(sp:Sp)(dvs:List V)(t:TA):TE:=λi H Q=>t i H λj d=>∀x c,d x=none->d c=none->c≠x->∃E:XK,sp (.ref x::(j++dvs)) (upd (upd d c<|.own x) x<|.ins C c []) (λv l=>v=.non/\Q (.ref x) l) E/\∀a s e h b T g,Thr X a i g s e h b .none (some T)->E (.ref h) b g->X.xe (.ref e) s
def acj(M:Mk X.K C f)(F:FnOk X.prog X.w X.K X.mg X.base (CXX X.prog X.w) k f fd ps sp)(Z:Room (k+1) X.A)(z:Gl X x)(hm:X.mg x=some (.ref C))(Y:Binds X.K fd ps ds)(y:Vals dvs ds)(P:PA X (e::es) t)(m:Dbg x:=by decide)(R:SE X e es:=by rfl)(g:BT X pos es:=by rfl):PE X (.Call (.Name x p) (e::es) [] pos) (ahf X C sp dvs t):=by
 intro b s0 σ N Q i U;refine apB<|gi i z hm ?_ m;refine arc i.ok.mod.kin M.kp (thn (P pos b s0 σ N _ i U) λc s⟨D,H,I,r,h⟩=>⟨I.kIn,?_⟩) R g;obtain⟨E,n,S⟩:=h (s.heap.objs.size+1) s.heap.objs.size (I.hok.fresh<|arA _) (I.hok.fresh<|aob _)<|aoi<|apx _;have d:=Inv.made (C:=C) I;have o:Vals (V.ref (s.heap.objs.size+1)::(D++dvs)) (Value.ref (s.heap.objs.size+1)::(c++ds)):=.cons rfl<|r.append y;have A:=by have e:=o.length;rw[F.len _ _ _ _ n]at e;exact e.symm
 refine apJ (acA I.kIn M.makes M.init (apl.mp M.fn)<|apA (F.run _ X.stack _ _ _ (Value.ref (s.heap.objs.size+1)::(c++ds)) _ _ E (Z.make C c []) trivial (d.aiW.make C c []) (Y _ (Value.ref (s.heap.objs.size+1)::c) d.kIn A) o n) λr J a=>?_);cases r with|error e=>obtain⟨K,B,l,T,j,rfl,t,q⟩:=d.thrown a;exact S b J K B l T j t q|ok fl=>cases fl with|ret u=>obtain⟨v,j,G,w,ev,O⟩:=d.after a;subst ev;exact⟨w,⟨V.ref<|s.heap.objs.size+1,j,G,rfl,O⟩⟩|next=>exact False.elim a|brk=>exact False.elim a|cont=>exact False.elim a
end
end L2
namespace WS
open PySem PySem.Spec PyProof.Rows L2
open WL(Res Sl Ws EF TF AF LF GF GsF SF Out OX RF Tw)
section
variable{K:W.Frag}{F:Hp}{C dx:Addr}
def RWs.alE{a}(h:∀b o,F b=some o->a b=some o\/∃C dx,o=.ins C dx []){ws vs}(r:RWs K F ws vs):RWs K a ws vs:=by
 have k:∀{b}{o:HO},F b=some o->(∀C dx,o≠.ins C dx [])->a b=some o:=λ{b o}e n=>by grind
 refine RWs.via (λb c q=>?_) (λb c q=>?_) (λb j q=>?_) (λb f q=>k q λ_ _ z=>nomatch z) (λb f q=>k q λ_ _ z=>nomatch z) (λb C dx l g q=>k q λi d z=>by grind) ws vs r
 .rcases q with(q|⟨o,q⟩)|q;.exact .inl (.inl<|k q λ_ _ z=>nomatch z)
  .exact .inl (.inr ⟨o,k q λ_ _ z=>nomatch z⟩)
  .exact .inr q
 .rcases q with(q|⟨o,q⟩)|q;.exact .inl (.inl<|k q λ_ _ z=>nomatch z)
  .exact .inl (.inr ⟨o,k q λ_ _ z=>nomatch z⟩)
  .exact .inr q
 .rcases q with q|⟨o,q⟩;.exact .inl (k q λ_ _ z=>nomatch z)
  .exact .inr ⟨o,k q λ_ _ z=>nomatch z⟩
end
noncomputable def noI(F:Hp):Hp:=λb=>match F b with|some (.ins _ _ [])=>none|o=>o
def zt{F b o}(h:noI F b=some o):F b=some o:=by
 unfold noI at h;split at h;.cases h
 .exact h
set_option tactic.hygienic true in
def aie{F b o}(h:F b=some o):noI F b=some o\/∃C a,o=.ins C a []:=by
 unfold noI;rw[h];split;.rename_i C a e;cases e;exact .inr ⟨C,a,rfl⟩
 .exact .inl rfl
noncomputable def jo(F a:Hp):Hp:=λb=>match F b with|some o=>some o|none=>a b
def aiD{F a b o}(h:F b=some o):jo F a b=some o:=by unfold jo;rw[h]
def aiC{F a b}(h:F b=none):jo F a b=a b:=by unfold jo;rw[h]
def aml(P:Program)(w:World)(K:W.Frag)(mg:Str->Option Value)(a:Heap)(k:Nat)(fI:Addr)(ps:List Str)(sp:Sp):Prop:=∃b:FuncData,FnOk P w K mg a (CXX P w) k fI b ps sp/\Binds K b ps []
def ac3{P:Program}{w:World}{K:W.Frag}{mg:Str->Option Value}{b:Heap}{k:Nat}{f:Addr}{a:Str}{st:Stmt}{ps:List Str}{sp:Sp}(D:∃c,Fun K "__init__" a st f c)(i:∀(kV e j:Value)(l:Option Addr)(g ct:Value)(d:List Value),d.length=ps.length->bindArgs (W.fnOf "__init__" a (cq st) (aZ st) (ak st) .none kV e j l g ct) ⟨d,[]⟩=pure (ps.zip d))(h:∀c:FuncData,Fun K "__init__" a st f c->FnOk P w K mg b (CXX P w) k f c ps sp):aml P w K mg b k f ps sp:=by obtain⟨c,F⟩:=D;exact⟨c,h c F,F.binds i⟩
def un1{n:Nat}(h:n+64<cLine):n+1<cLine:=by omega
end WS
namespace L2
open PySem PySem.Spec PyProof.Rows
section
variable{X:Cx}{k:Nat}{f C:Addr}{fd:FuncData}{ps:List Str}{sp:Sp}{dvs:List V}{ds:List Value}{m:Str}{apos pos:Pos}{o e:Expr}{es:List Expr}{ta:TE}{t:TA}
def adP(X:Cx)(C:Addr)(m:Str)(sp:Sp)(dvs:List V)(ta:TE)(t:TA):TE:=λd H Q=>ta d H λx i=>∃a l fs,x=.ref a/\i a=some (.ins C l fs)/\fs.lookup m=none/\t d i λj n=>∃E:XK,sp (x::(j++dvs)) n Q E/\∀b s e h c T g,Thr X b d g s e h c .none (some T)->E (.ref h) c g->X.xe (.ref e) s
def aci{pl}(G:PE X o ta)(c:Cls X.K C)(w:Meth X.K C m f)(F:FnOk X.prog X.w X.K X.mg X.base (CXX X.prog X.w) k f fd ps sp)(O:Room k X.A)(N:Binds X.K fd ps ds)(y:Vals dvs ds)(D:PA X (e::es) t)(i:SE X e es:=by rfl)(d:BT X pos es:=by rfl)(ht:eval (.Call (.Attribute o m apos) (e::es) [] pos) X.env=(do
  let n <-eval o X.env
  standAt apos.atName let(f,first)<-holding [n] (getMethod n m pl)callWith pos f first (backTo pos<|starEach (e::es) X.env) (backToKw pos<|keywordEach [] X.env)):=by rfl):PE X (.Call (.Attribute o m apos) (e::es) [] pos) (adP X C m sp dvs ta t):=by intro b s v H Q I h;refine W.methodCall_KW (thn (G b s v H _ I h) λu J g=>?_) ht;obtain⟨x,A,p,K,a,T,fs,ex,B,l,q⟩:=g;subst ex;obtain rfl:=K;exact xg p B c w l (arc  I.ok.mod.kin w.kp (thn (D pos b J v A _ p q) λS P⟨vs,R,j,r,E,z,M⟩=>⟨j.kIn,yQ (vs:=.ref a::vs) F O N y M j (.cons rfl r) z⟩) i d)
end
end L2
namespace WS
open PySem PySem.Spec PyProof.Rows L2
open WL(Res Sl Ws EF TF AF LF GF GsF SF Out OX RF Tw)
section
variable{B:Bx}{σ:Ws}{σV:L2.St}{F H:Hp}{x:Addr}{o:HO}
def RS.anT(R:RS B σ σV F H)(m:F x=none)(p:B.H0 x=none)(A:H x=some o)(n:NF o)(D:∀l,o≠.lst l)(nd:∀l,o≠.dK l):RS B σ σV (upd F x o) H:=by
 have s:aB F (upd F x o):=av m _;refine⟨⟨λb u q=>?_,R.rb.base,R.rb.fz0.trans s,λb u q=>?_⟩,R.len,λi w q=>?_,λi ws q=>?_,R.ap,λi t k q=>?_,R.dd.ad,λi q=>?_⟩
 .by_cases d:b=x;.subst d;rw[aj]at q;cases q;exact A
  .rw[ai d]at q;exact R.rb.sub b u q
 .by_cases d:b=x;.subst d;rw[aj]at q;cases q;exact .inr ⟨p,n⟩
  .rw[ai d]at q;exact R.rb.fr b u q
 .obtain⟨v,c,e⟩:=R.va i w q;exact⟨v,c,e.keep s⟩
 .refine pE (R.ow i ws q) λa r c e h f g=>?_;have d:a≠x:=λz=>by grind
  exact adJ a r c (by rw[ai d];exact e) h f<|g.keep s
 .refine ajl (R.dd.od i t k q) λa l c e h f g j=>?_;exact aki a l c (by rw[ai λz=>by grind];exact e) h f (g.keep s)<|j.keep s
 .refine vV (R.dd.ob i q) λa C y c e=>?_;exact abx a C y c<|s _ _ e
end
end WS
namespace L2
open PySem PySem.Spec PyProof.Rows
end L2
namespace WS
open PySem PySem.Spec PyProof.Rows L2
open WL(Res Sl Ws EF TF AF LF GF GsF SF Out OX RF Tw)
section
variable{X:Cx}{K:W.Frag}
theorem vE{F k b}(c:RW K F k (kV b))(w:VW):∀{a ks us},RWs K F ks (a.map λp=>kV p.1)->RWs K F us (a.map λp=>p.2)->WL.o4 k ks us=some w->∃v,rD a b=some v/\RW K F w v
|[],ks,us,r1,r2,e=>by cases ks with|nil=>cases e|cons x ks=>simp[RWs]at r1
|p::a,ks,us,r1,r2,e=>by cases ks with|nil=>cases e|cons x ks=>cases us with|nil=>cases e|cons y us=>
  obtain⟨v1,q,g,n,f⟩:=r1;obtain⟨v2,o,m,j,l⟩:=r2;cases g;cases m;unfold WL.o4 at e;rw[oJ n c]at e;by_cases h:p.1=b;.rw[aoC h]at e;cases e;exact⟨_,dR h,j⟩
  .rw[aoq h]at e;obtain⟨v,d,i⟩:=vE c w f l e;exact⟨v,by rw[dU h];exact d,i⟩
def adw:Calm WL.qC:=λx y c h=>by
 unfold WL.qC at h;split at h
 .split at h;.revert h;cases WL.o4 _ _ _<;>simp[WL.ofO]
  .cases h
 .exact aa5 _ _ _ h
set_option tactic.hygienic true in
def akj(hK:X.K=K):IxR X (lo2 K WL.qC):=by
 intro d f l s n H x y v u Q I m k⟨F,wx,t,j,i,c,q⟩h;unfold WL.qC at q;split at q
 .rename_i p C;split at q;.rename_i A;obtain⟨b,rfl⟩:=aek A c;obtain⟨a,g,rfl,rd,r,D⟩:=i;cases e:WL.o4 t p C with|none=>rw[e]at q;exact q.elim|some w=>rw[e]at q;obtain⟨z,o,E⟩:=vE c w r D e;exact aab _ _ _ s n H _ _ v u Q I m k ⟨a,g,b,z,rfl,rfl,j.rd rd,o,eq1 q E⟩ h
  .exact q.elim
 .exact amq hK _ _ _ s n H x y v u Q I m k ⟨F,_,_,j,i,c,q⟩ h
end
def agk(P:Program)(w:World)(K:W.Frag)(mg:Str->Option Value)(a:Heap)(k:Nat)(C f:Addr)(m:Str)(ps:List Str)(sp:Sp):Prop:=Meth K C m f/\∃b:FuncData,FnOk P w K mg a (CXX P w) k f b ps sp/\Binds K b ps []
def aeg{K f nm a st h od j d kV e i b ct}(l:K.lookup f=some ⟨h,od,.func<|W.fnOf nm a (cq st) (aZ st) (ak st) .none kV e i j b ct,d⟩)(c:W.codeIn K b a=true)(q:W.keepIn K (.ref f)=true):∃g,Fun K nm a st f g:=⟨_,vz l c q⟩
def sP{P w K mg b k C f nm a st ps sp}(M:Meth K C nm f)(D:∃c,Fun K nm a st f c)(i:∀kV e j l g ct d,d.length=ps.length->bindArgs (W.fnOf nm a (cq st) (aZ st) (ak st) .none kV e j l g ct) ⟨d,[]⟩=pure (ps.zip d))(h:∀c,Fun K nm a st f c->FnOk P w K mg b (CXX P w) k f c ps sp):agk P w K mg b k C f nm ps sp:=by obtain⟨c,F⟩:=D;exact⟨M,c,h _ F,F.binds i⟩
section
variable{X:Cx}{B:Bx}{a b:Expr}{ta tb:EF}{pos:Pos}
def wxD(q:B.K=X.K)(l:PE X a (lo B ta))(h:PE X b (lo B tb))(hs:jI b:=by exact λ_ _=>rfl):PE X (.Subscript a b pos) (lo B<|WL.eOp WL.qC ta tb):=agR adw (akj q.symm) l h hs
def an1:∀h(ws:List VW),WL.aa t WL.ao h=.ok ws->ws.length+1=2:=λa w z=>by rw[de i2 a w z]
def an2:∀h(ws:List VW),WL.aa t (WL.aa u WL.ao) h=.ok ws->ws.length+1=3:=λa w z=>by rw[de (de i2) a w z]
end
section
variable{F H:Hp}
open Classical in noncomputable def fzS(F H:Hp)(l:List Addr):Hp:=λx=>if x∈l then H x else F x
def iT{l:List Addr}{x:Addr}(h:x∈l):fzS F H l x=H x:=an4 h
def cJ{l:List Addr}{x:Addr}(h:x∉l):fzS F H l x=F x:=an5 h
end
section
variable{B:Bx}{l:List Addr}{σ:Ws}{σV:L2.St}{F H F' H':Hp}
abbrev pA(B:Bx)(H:Hp)(l:List Addr):Bx:=⟨B.K,fzS B.H0 H l,B.F0,B.xp,B.mono⟩
def RS.inS(R:RS B σ σV F H)(v:∀x∈l,F x=none)(ap:∀(k:Nat)(ws:List VW)x,σ[k]?=some (.ow ws)->σV[k]?=some (some<|.ref x)->x∉l)(ad:∀x∈l,∀(k:Nat)(d c:List VW),σ[k]?=some (.od d c)->σV[k]?≠some (some<|.ref x)):RS (pA B H l) σ σV F H:=by
 refine⟨⟨R.rb.sub,λx o q=>?_,R.rb.fz0,λx o q=>?_⟩,R.len,R.va,λk ws e=>?_,R.ap,R.dd.via rfl id (λ_ _ z=>.inl z) (λ_ _ _ e=>⟨e,rfl⟩) (aB.refl _) λk d c b p r m u j s=>⟨j,?_,u⟩⟩
 .have q:fzS B.H0 H l x=some o:=q;by_cases a:x∈l;.rw[iT a]at q;exact q
  .rw[cJ a]at q;exact R.rb.base x o q
 .rcases R.rb.fr x o q with z|z;.exact .inl z
  .refine .inr ⟨?_,z.2⟩;show fzS B.H0 H l x=none;rw[cJ λa=>by grind];exact z.1
 .refine pE (R.ow k ws e) λb i f t n g h=>?_;refine adJ b i f t ?_ g h;show fzS B.H0 H l b=none;rw[cJ (ap k ws b e f)];exact n
 .show fzS B.H0 H l b=none;rw[cJ λa=>ad b a k d c r m];exact s
def RS.alc(R:RS (pA B H l) σ σV F' H')(d:∀x∈l,B.H0 x=none)(w:∀x∈l,∃o,H x=some o):RS B σ σV F' H':=by
 have n:∀{x},fzS B.H0 H l x=none->B.H0 x=none:=λ{x}z=>by
  by_cases a:x∈l;.exact d x a
  .rw[cJ a]at z;exact z
 refine⟨⟨R.rb.sub,λx o q=>?_,R.rb.fz0,λx o q=>?_⟩,R.len,R.va,λk ws e=>?_,R.ap,R.dd.via rfl id (λ_ _ z=>.inl z) (λ_ _ _ e=>⟨e,rfl⟩) (aB.refl _) λk u t b m y v s h p=>⟨h,n p,s⟩⟩;.refine R.rb.base x o (show fzS _ H l x=some o from ?_);rw[cJ λa=>by grind];exact q
 .rcases R.rb.fr x o q with z|z;.exact .inl z
  .exact .inr ⟨n z.1,z.2⟩
 .refine pE (R.ow k ws e) λb g i r j c f=>?_;exact adJ b g i r (n j) c f
def zg(b:∀x∈l,∃o,H x=some o){x}(h:fzS B.H0 H l x=none):x∉l:=λa=>by obtain⟨o,c⟩:=b x a;rw[iT a,c]at h;cases h
end
def f6{X:Cx}{B:Bx}{d:List Stmt}:PSs X d (loS B WL.ab0):=λb s c H D I a=>by obtain⟨e,F,R,q⟩:=a;exact(show False from q).elim
structure Rsc(S:Type)where
 adr:S->Addr
 rel:W.Frag->S->List Addr->Hp->Hp->Prop
 mono:∀{K s l F H F' H'},rel K s l F H->aB F F'->(∀x∈l,∀o,H x=some o->H' x=some o)->rel K s l F' H'
 there:∀{K s l F H},rel K s l F H->∀x∈l,∃o,H x=some o/\NF o/\∀xs,o≠.tup xs
 val:S->VW
 fz:∀{K s l F H a od kvs},rel K s l F H->(∀x∈l,F x=none)->F a=some (.dK kvs)->rel K s l (upd F a<|zD od kvs) (upd H a<|zD od kvs)th:∀{K s l F H a od kvs},rel K s l F H->(∀x∈l,F x=none)->F a=some (zD od kvs)->rel K s l (upd F a<|.dK kvs) (upd H a<|.dK kvs)rw:∀{K s l F H F'},rel K s l F H->aB F F'->(∀x∈l,∀o,H x=some o->F' x=some o)->RW K F' (val s) (.ref<|adr s)
variable{S:Type}
structure RX(M:Rsc S)(B:Bx)(s:S)(l:List Addr)(σ:Ws)(σV:L2.St)(F H:Hp):Prop where
 rs:RS (pA B H l) σ σV F H
 fr:∀x∈l,F x=none/\B.H0 x=none
 re:M.rel B.K s l F H
def OqX(M:Rsc S)(B:Bx)(D:Ends)(F:Hp):OX S->Prop|.nx σ' s'=>∀a d b e,RX M B s' e σ' a b d->aB F b->D.nx a d|.bk σ' s'=>∀a d b e,RX M B s' e σ' a b d->aB F b->D.bk a d|.ct σ' s'=>∀a d b e,RX M B s' e σ' a b d->aB F b->D.ct a d|.rt w s'=>∀v d b e,RB (pA B d e) b d->(∀x∈e,b x=none/\B.H0 x=none)->M.rel B.K s' e b d->aB F b->RW B.K b w v->D.rt v d|.ex c σ'=>B.xp c σ' F|.bad=>False
def loX(M:Rsc S)(B:Bx)(t:RF S):TS:=λD a H=>∃b F s l,RX M B s l b a F H/\OqX M B D F (t b s)
section
variable{M:Rsc S}{B:Bx}{s:S}{l:List Addr}{σ:Ws}{σV:L2.St}{F H F' H':Hp}{D:Ends}{X:Cx}
theorem OqX.mono(k:aB F F'){o}(h:OqX M B D F o):OqX M B D F' o:=by cases o with|nx σ s|bk σ s|ct σ s=>exact λσV H G l R z=>h _ H G l R<|k.trans z|rt w s=>exact λv H G l R r q z=>h v H G l R r q<|k.trans z|ex c σ=>exact B.mono c σ F _ k h|bad=>exact h
theorem RX.there(R:RX M B s l σ σV F H):∀x∈l,∃o,H x=some o:=λx a=>let⟨o,h,_⟩:=M.there R.re x a;⟨o,h⟩
def z9(c:∀x∈l,∃o,H x=some o)(a:RB (pA B H l) F' H'):∀x∈l,∀o,H x=some o->H' x=some o:=λx b o q=>a.base x o (by show fzS _ H l x=some o;rw[iT b];exact q)
def aew(c:∀x∈l,∃o,H x=some o)(k:∀x∈l,∀o,H x=some o->H' x=some o):pA B H l=pA B H' l:=by
 have:fzS B.H0 H l=fzS B.H0 H' l:=by
  funext x;by_cases a:x∈l;.obtain⟨o,b⟩:=c x a;rw[iT a,iT a,b,k x a o b]
  .rw[cJ a,cJ a]
 simp [pA,this]
def aap(g:∀x∈l,∃o,H x=some o)(f:∀x∈l,F x=none)(d:aB B.F0 F)(c:RB (pA B H l) F' H'):∀x∈l,F' x=none:=λx a=>by cases e:F' x with|none=>rfl|some o=>
 rcases c.fr x o e with z|⟨z,_⟩;.have:=d x o z;rw[f x a]at this;cases this
 .have z:fzS _ H l x=none:=z;obtain⟨u,b⟩:=g x a;rw[iT a,b]at z;cases z
def RX.next(R:RX M B s l σ σV F H){b a}(c:RS (pA B H l) b a F' H')(k:aB F F'):RX M B s l b a F' H':=by have d:=z9 R.there c.rb;refine⟨?_,λx e=>⟨aap (B:=B) R.there (λy f=>(R.fr y f).1) R.rs.rb.fz0 c.rb x e,(R.fr x e).2⟩,M.mono R.re k d⟩;rw[<-aew R.there d];exact c
def XW.inS(d:XW X B)(e:∀x∈l,B.H0 x=none)(b:∀x∈l,∃o,H x=some o):XW X (pA B H l):=λa σV H' f σ F c R q=>d _ _ _ _ σ F c (R.alc e b) q
variable{st:Stmt}{rest:List Stmt}{t:SF}{t1 t2:RF S}
def afw(R:RX M B s l σ σV F H)(q:OqX M B D F (WL.mm t σ s)):Oq (pA B H l) D F (t σ):=by unfold WL.mm at q;cases e:t σ with|nx σ'|bk σ'=>rw[e]at q;exact λa H' F' b k=>q _ H' _ l (R.next b k) k|ct σ'=>rw[e]at q;exact λa H' F' b k=>q _ H' F' l (R.next b k) k|rt w=>rw[e]at q;intro v H' F' d k r;have f:=z9 R.there d;refine q v H' F' l (by rw[<-aew R.there f];exact d) (λx g=>⟨aap (B:=B) R.there (λy h=>(R.fr y h).1) R.rs.rb.fz0 d x g,(R.fr x g).2⟩) (M.mono R.re k f) k r|ex c σ'|bad=>rw[e]at q;exact q
def rK(d:B.K=X.K)(b:XW X B)(h:∀a,a.K=X.K->XW X a->PS X st (loS a t)):PS X st (loX M B<|WL.mm t):=by intro c e σV H D I⟨σ,F,s,l,R,q⟩;exact h (pA B H l) d (XW.inS b (λx b=>(R.fr x b).2) R.there) _ _ _ H D I ⟨σ,F,R.rs,afw R q⟩
def agI(h:PS X st (loX M B t1)):PSs X [st] (loX M B t1):=hX h
def adK(g:PS X st (loX M B t1))(f:PSs X rest (loX M B t2)):PSs X (st::rest) (loX M B<|WL.xS t1 t2):=PSs.imp (dq g f) λD σV H a=>by refine agD a λσ F s l R q=>?_;refine ajo σ F s l R ?_;have q:OqX M B D F (match t1 σ s with|.nx σ' s'=>t2 _ _|o=>o):=q;cases b:t1 σ s with|nx σ' s'=>rw[b]at q;exact λd H' F' e h k=>ajo _ F' s' e h<|OqX.mono k q|bk σ' s'|ct σ' s'|rt w s'|ex c σ'|bad=>rw[b]at q;exact q
end
variable{S:Type}
section
variable{M:Rsc S}{B:Bx}{s:S}{l:List Addr}{σ σ1:Ws}{σV:L2.St}{F H:Hp}{j:Nat}
set_option tactic.hygienic true in
def RX.frz(R:RX M B s l σ σV F H)(e:WL.seen M.adr M.val j σ s=some σ1):aB F (fzS F H l)/\RS B σ1 σV (fzS F H l) H:=by
 have A:=R.there;have k:aB F (fzS F H l):=λx o q=>by rw[cJ λz=>by rw[(R.fr x z).1]at q;cases q];exact q
 have c:RS B σ σV F H:=R.rs.alc (λx a=>(R.fr x a).2) A;have Y:RB B (fzS F H l) H:=⟨λx o q=>by
  by_cases a:x∈l;.rw[iT a]at q;exact q
  .rw[cJ a]at q;exact c.rb.sub x o q,c.rb.base,c.rb.fz0.trans k,λx o q=>by
  by_cases a:x∈l;.rw[iT a]at q;refine ix (M.there R.re x a) λu E T _=>?_;rw[E]at q;cases q;exact .inr ⟨(R.fr x a).2,T⟩
  .rw[cJ a]at q;exact c.rb.fr x o q⟩;have out:∀{b:Addr},(pA B H l).H0 b=none->b∉l:=λ{b}z=>zg (B:=B) A z;have t:RS B σ σV (fzS F H l) H:=by
  refine⟨Y,c.len,λi w q=>?_,λi ws q=>?_,c.ap,c.dd.via rfl id (λ_ _ z=>.inl z) (λ_ _ _ q=>⟨q,rfl⟩) k λi J Q b a0 C h O I P=>⟨?_,P,O⟩⟩;.obtain⟨v,d,g⟩:=c.va i w q;exact⟨v,d,g.keep k⟩
  .refine pE (R.rs.ow i ws q) λb vs d g N h4 h5=>?_;refine pE (c.ow i ws q) λy m f g2 n U Z=>?_;rw[d]at f;cases f;exact adJ b m d (by rw[cJ (out N)];exact g) n U<|Z.keep k
  .refine xR (R.rs.dd.od i J Q C) λy p f _ n _=>?_;have f:σV[i]?=some (some<|.ref y):=f;have h:σV[i]?=some (some<|.ref b):=h;rw[h]at f;cases f;rw[cJ (out n)];exact I
 refine⟨k,?_⟩;unfold WL.seen at e;split at e
 .rename_i b K;split at e
  .rename_i hb;cases e;subst hb;obtain⟨v,d,g⟩:=t.va j _ K;subst g;have G:σV.set j (some<|.ref<|M.adr s)=σV:=by
    apply List.ext_getElem?;intro i;by_cases r:j=i;.subst r;rw[aof (aoa.mp d).1,d]
    .rw[an3 r]
   have:=t.set (i:=j) (w:=M.val s) (v:=.ref<|M.adr s) (M.rw R.re k λx a o q=>by rw[iT a];exact q);rw[G]at this;exact this
  .cases e
 .cases e
open Classical in end
end WS
namespace WS
open PySem PySem.Spec PyProof.Rows L2
open WL(Res Sl Ws EF TF AF LF GF GsF SF Out OX RF Tw)
variable{S:Type}
section
variable{M:Rsc S}{B:Bx}{s s':S}{l:List Addr}{σ:Ws}{σV:L2.St}{F H:Hp}
def RX.write(R:RX M B s l σ σV F H){x}(g:x∈l){o}(n:M.rel B.K s' l F (upd H x o)):RX M B s' l σ σV F (upd H x o):=by
 have j:=R.there;have m:∀(k:Nat)(ws)(y:Addr),σ[k]?=some (.ow ws)->σV[k]?=some (some<|.ref y)->y∉l:=λk ws y a e=>by refine xR (R.rs.ow k ws a) λb _ d _ i _=>?_;rw[e]at d;cases d;exact zg (B:=B) j i
 have nd:∀y∈l,∀(k:Nat)(h f:List VW),σ[k]?=some _->σV[k]?≠some (some<|.ref y):=λy c k h f a e=>by refine xR (R.rs.dd.od k h f a) λb _ d _ i _=>?_;rw[e]at d;cases d;exact zg (B:=B) j i c
 exact⟨((R.rs.alc (λy c=>(R.fr y c).2) j).away o (R.fr x g).1 (R.fr x g).2 (λk ws a e=>m k ws x a e g) λk h f a=>nd x g k h f a).inS (λy c=>(R.fr y c).1) m nd,R.fr,n⟩
end
open Classical in section
end
end WS
set_option autoImplicit true
set_option relaxedAutoImplicit true
namespace WS
open PySem PySem.Spec PyProof.Rows L2
open WL(Res Sl Ws EF TF AF LF GF GsF SF Out OX RF Tw)
theorem zI :∀{fs:List (Str×V)}{n:Nat},(fs.map (·.1)).Nodup->fs[n]?=some (f,v)->fs.lookup f=some v
|[],_,_,e=>by simp at e|(g,u)::fs,0,_,e=>by grind|(g,u)::fs,n+1,nd,e=>by
 simp only[aor,aoN]at nd;have a:=by simpa using e
 have b:(f==g)=false:=ao0.mpr λz=>nd.1<|z▸aox.mpr ⟨(f,v),aoS a,rfl⟩;simp only[List.lookup,b];exact zI nd.2 a
def afI:∀{fs:List (Str×V)},f∉fs.map (·.1)->fs.lookup f=none|[],_=>rfl|(g,u)::fs,h=>by grind
section
variable{X:Cx}{B:Bx}{fl m:Str}{c:String}{C f:Addr}{n:Nat}{fn:List VW->Res VW}{o:Expr}{to:EF}{tas:AF}{pos:Pos}
set_option tactic.hygienic true in
def nQ(hK:X.K=B.K)(z:W.nsIn X.K mainGlobals (Str.ofString c)=some (some<|.ref C))(cl:Cls X.K C)(I:eF X.K C fl)(nd:(WL.oO c).Nodup)(p:(WL.oO c)[n]?=some fl)(M:PE X o (lo B to))(N:attributeBase o fl X.env (eval o X.env)=eval o X.env:=by rfl):PE X (.Attribute o fl pos) (lo B<|WL.iq c n to):=PE.imp (ad9 M N) λT H Q j=>by
 obtain⟨P,F,R,q⟩:=j;have q:=Rq.bind q;refine⟨P,F,R,Rq.mono (aB.refl _) q λy b v J S t K i=>?_⟩;unfold WL.aiS at b;split at b
 .rename_i Y ws;split at b
  .rename_i d;have d:=eq_of_beq d;subst d;split at b
   .rename_i w D;simp only[RW]at i;obtain⟨a,U,O,E,rfl,G,u,s,_,r⟩:=i;rw[<-hK,z]at u;cases u;obtain⟨v1,h,i⟩:=r.get D;rw[aoy,aoI]at h;obtain⟨⟨g,v2⟩,x,rfl⟩:=h;have A:g=fl:=by have:=an8 (λl=>l[n]?) s;simp only[aoy,x,p,Option.map_some]at this;exact aow this
    subst A;exact⟨a,C,O,_,v2,rfl,t.rb.sub _ _ G,cl,I,zI (by rw[s];exact nd) x,b v2 J S t K i⟩
   .exact(b).elim
  .exact(b).elim
 .exact(b).elim
def acL (hK:X.K=B.K)(M:XW X B)(D:W.nsIn X.K mainGlobals (Str.ofString c)=some (some<|.ref C))(l:m∉WL.oO c)(K:∀d ws,tas d=.ok ws->ws.length+1=n):∀g H Q,lo B (WL.iZ c fn to tas) g H Q->adP X C m (spX X.K n fn) [] (lo B to) (loA B tas) g H Q:=by
 intro g H Q⟨d,F,R,q⟩;have q:=Rq.bind q;refine⟨d,F,R,Rq.mono (aB.refl _) q λy b v T w r s z=>?_⟩;by_cases h:WL.isN c y=true
 .rw[an4 h]at b;have b:=Rq.bind b;obtain⟨t,rfl⟩:∃t,y=.ins c t:=by
   unfold WL.isN at h;split at h;.rw[eq_of_beq h];exact⟨_,rfl⟩
   .cases h
  have i:=z;simp only[RW]at i;refine ake i λa O N E p I x A _ _=>?_;subst p;rw[<-hK,D]at x;cases x;refine⟨a,N,_,rfl,r.rb.sub _ _ I,afI (by rw[A];exact l),d,w,r,?_⟩;cases j:tas d with|bad=>rw[j]at b;exact b|ex c=>rw[j]at b;exact B.mono c d F w s.f b|ok ws=>rw[j]at b;exact λP S U G u J=>uM hK M G (s.trans u) (.cons (z.keep u.f) J) (by rw[aon];exact K d ws j) b (by rw[apc])
 .rw[an5 h]at b;exact(b).elim
end
section
variable{S:Type}{M:Rsc S}{B:Bx}{s:S}{l:List Addr}{σ:Ws}{σV:L2.St}{F H F' H':Hp}{D:Ends}{X:Cx}{st:Stmt}{rest:List Stmt}{t1 t2:RF S}
def OqE(B:Bx)(D:Ends)(F:Hp):OX S->Prop|.rt w _=>∀v H' F',RB B F' H'->aB F F'->RW B.K F' w v->D.rt v H'|.ex c σ'=>B.xp c σ' F|_=>False
def loE(M:Rsc S)(B:Bx)(t:RF S):TS:=λD σV H=>∃σ F s l,RX M B s l σ σV F H/\OqE B D F (t σ s)
theorem OqE.mono(k:aB F F'){o:OX S}(h:OqE B D F o):OqE B D F' o:=by cases o with|rt w s=>exact λv H G a z r=>h v H G a (k.trans z) r|ex c σ=>exact B.mono c σ F _ k h|_=>exact h
def ahv(a:RB (pA B H l) F H)(fr:∀x∈l,F x=none/\B.H0 x=none):RB B F H:=by
 refine⟨a.sub,λx o q=>?_,a.fz0,λx o q=>?_⟩;.exact a.base x o (by show fzS _ H l x=some o;rw[cJ λz=>by grind];exact q)
 .rcases a.fr x o q with z|⟨z,b⟩;.exact .inl z
  .have z:fzS _ H l x=none:=z;rw[cJ λc=>by grind]at z;exact .inr ⟨z,b⟩
def rJ(h:PS X st (loX M B t1))(g:PSs X rest (loE M B t2)):PSs X (st::rest) (loE M B<|WL.xS t1 t2):=PSs.imp (dq h g) λD σV H b=>by refine agD b λσ F s l R q=>?_;refine ajo σ F s l R ?_;have q:OqE B D F (match t1 σ s with|.nx σ' s'=>t2 σ' s'|o=>o):=q;cases a:t1 σ s with|nx σ' s'=>rw[a]at q;exact λe H' F' d i k=>ajo σ' F' s' d i<|OqE.mono k q|bk σ' s'|ct σ' s'=>rw[a]at q;exact q.elim|rt w s'=>rw[a]at q;exact λv H' F' d f fr m k r=>q v _ _ (ahv f fr) k r|ex c σ'|bad=>rw[a]at q;exact q
end
section
variable{K:W.Frag}{mg:Str->Option Value}{nm:Str}{ps:List Str}{st:Stmt}
abbrev MgA(K:W.Frag)(mg:Str->Option Value):Prop:=∀nm v,W.nsIn K mainGlobals nm=some (some v)->mg nm=some v
abbrev BdA(nm:Str)(ps:List Str)(st:Stmt):Prop:=∀(kV b d:Value)(e:Option Addr)(c ct:Value)(a:List Value),a.length=ps.length->bindArgs (W.fnOf nm nm (cq st) (aZ st) (ak st) .none kV b d e c ct) ⟨a,[]⟩=pure (ps.zip a)
end
def amk(K:W.Frag)(c:String)(fl:List Str)(x dx C:Addr)(F H:Hp)(Q:VK)(E:XK):Res VW->Prop|.ok (.ins c' ws)=>c'=c/\∀d a e,aB F a->aB a d->(∀b o,b≠x->H b=some o->d b=some o)->d x=some (.ins C dx e)->a x=none->(∀b o,a b=some o->F b=some o\/(b=x\/H b=none)/\NF o)->e.map (·.1)=fl->RWs K a ws (e.map (·.2))->Q .non d|.ex c=>∀g f d a,aB F a->aB a d->(∀b o,b≠x->H b=some o->d b=some o)->(∀b o,a b=some o->F b=some o\/(b=x\/H b=none)/\NF o)->XR K a c g f->E (.ref g) f d|_=>False
def spN(K:W.Frag)(c:String)(fl:List Str)(d:List VW->Res VW):Sp:=λb H Q E=>∃x a C F w v,b=[.ref x,v]/\H x=some (.ins C a [])/\Cls K C/\(∀f∈fl,eF K C f)/\F x=none/\aB F H/\RW K F w v/\amk K c fl x a C F H Q E (d [w])
section
variable{P:Program}{w:World}{K:W.Frag}{mg:Str->Option Value}{base:Heap}
def ac1{nm n st f fd U S k M Y R c d g D g1 g2}(Fn:Fun K nm n st f fd)(Sc:FnScope [U,S] [U,S] (ak st))(a7:aZ st=[M,Y,R])(a2:d≠g)(a8:d≠D)(a4:g≠D)(h:∀I A a s H E X,X=iu (CXX P w) P w K mg base [U,S] n (ak st) f I A a s H E->Room k X.A->PS X M (ajA K (kQ 0) (kQ 1) d)/\PS X Y (ajA K (kQ 0) (uI X (spX K 1 g1) []<|hU (kQ 1) xT) g)/\PS X R (ajA K (kQ 0) (abU (spW K 2 g2) [] (λ_ _ _=>False)<|hU (kQ 1)<|hU (amG K (kQ 0) g) xT) D)):FnOk P w K mg base (CXX P w) (k+1) f fd [U,S] (spN K c [d,g,D]<|WL.amI c g1 g2):=by
 refine agC Fn.ex λoc od b2 b4 pm an I ct b3 a9 lk b1=>?_;subst a9;refine ada lk b1 Sc λvs H Q E O=>by obtain⟨x,G,C,F,w,v,e,_⟩:=O;rw[e];rfl λA a s H vs Q E hr _ O=>?_;refine ano O λx G C F J v e hH cl na hF sm r l=>?_;subst e;obtain⟨X,eX⟩:∃X,X=iu (CXX P w) P w K mg base [U,S] n (ak st) f I A a s H E:=⟨_,rfl⟩;rw[<-eX];refine agE (h I A a s H E X eX<|by rw[eX];exact hr) λh1 h2 h3=>?_;rw[a7];have p1:m3 d v []=[(d,v)]:=rfl;have p2:∀v2,m3 g v2 [(d,v)]=[(d,v),(g,v2)]:=λv2=>by simp[m3,a2]
 have p3:∀v2 v3,m3 D v3 [(d,v),(g,v2)]=[(d,v),(g,v2),(D,v3)]:=λv2 v3=>by simp[m3,a8,a4]
 have lx:∀N s e Ce B T H',Thr X N (L2.start [U,S] [.ref x,v]) H' s e Ce B .none (some T)->E (.ref Ce) B H'->X.xe (.ref e) s:=λN s e Ce B T H' t q=>by subst eX;exact zO t q
 refine⟨_,dq h1<|dq h2<|hX h3,?_⟩;refine⟨v,rfl,.ref x,rfl,x,C,G,[],rfl,hH,cl,na d (by simp),by simp,?_⟩;rw[p1];have j:∀{F H:Hp}{o:HO},F x=none->aB F H->aB F (upd H x o):=λhF sm b u q=>by rw[ai λz=>by rw[z,hF]at q;cases q];exact sm b u q
 have l:amk K c [d,g,D] x G C F H Q E ((g1 [J]).bind λp=>match g2 [J,p]with|.ok m=>.ok<|.ins c [J,p,m]|_=>.bad):=l;refine⟨v,rfl,E,aby F [J] (j hF sm) (RWs.one r) rfl ?_,lx⟩
 cases e1:g1 [J]with|bad=>rw[e1]at l;exact l.elim|ex ce=>
  rw[e1]at l;intro Ce B H' F' M Y R fr xr;refine l Ce B H' F' M Y (λb o i q=>R b o<|by rw[ai i];exact q) (λb o q=>(fr b o q).imp id λz=>⟨?_,z.2⟩) xr;by_cases i:b=x;.exact .inl i
  .have:=z.1;rw[ai i]at this;exact .inr this|ok p=>
  rw[e1]at l;intro v2 H1 F1 M Y R fr rp;have a6:H1 x=some (.ins C G [(d,v)]):=R x _ aj;have a0:F1 x=none:=by cases e:F1 x with|none=>rfl|some o=>
    rcases fr x o e with z|z;.rw[hF]at z;cases z
    .have:=z.1;rw[aj]at this;cases this
  have b0:∀b o,F1 b=some o->F b=some o\/(b=x\/H b=none)/\NF o:=λb o q=>(fr b o q).imp id λz=>⟨by
   by_cases i:b=x;.exact .inl i
   .have:=z.1;rw[ai i]at this;exact .inr this,z.2⟩;have a3:∀b o,b≠x->H b=some o->H1 b=some o:=λb o i q=>R b o (by rw[ai i];exact q);refine⟨.ref x,rfl,x,C,G,[(d,v)],rfl,a6,cl,na g (by simp),by simp,?_⟩;rw[p2];have l:amk K c [d,g,D] x G C F H Q E (match g2 [J,p]with|.ok m=>.ok<|.ins c [J,p,m]|_=>.bad):=l;refine⟨v,rfl,.ref x,rfl,x,C,G,[(d,v),(g,v2)],v2,rfl,aj,cl,na g (by simp),by simp[List.lookup,ao0.mpr<|aom a2],aby F1 [J,p] (j a0 Y) ?_ rfl ?_⟩;.exact .cons (r.keep M) (RWs.one rp)
  cases e2:g2 [J,p]with|bad|ex ce=>rw[e2]at l;exact l.elim|ok m=>
   rw[e2]at l;intro v3 H2 F2 t1 t2 t3 a1 rm;have a5:H2 x=some (.ins C G [(d,v),(g,v2)]):=t3 x _ aj;have Z:F2 x=none:=by cases e:F2 x with|none=>rfl|some o=>
     rcases a1 x o e with z|z;.rw[a0]at z;cases z
     .have:=z.1;rw[aj]at this;cases this
   refine⟨.ref x,rfl,x,C,G,[(d,v),(g,v2)],rfl,a5,cl,na D (by simp),by simp,?_⟩;rw[p3];refine l.2 _ F2 [(d,v),(g,v2),(D,v3)] (M.trans t1) (j Z t2) (λb o i q=>?_) aj Z (λb o q=>?_) rfl ?_;.rw[ai i];exact t3 b o (by rw[ai i];exact a3 b o i q)
   .rcases a1 b o q with z|z;.exact b0 b o z
    .refine .inr ⟨?_,z.2⟩;by_cases i:b=x;.exact .inl i
     .have y:=z.1;rw[ai i]at y;cases e:H b with|none=>exact .inr rfl|some u=>rw[a3 b u i e]at y;cases y
   .exact .cons ((r.keep M).keep t1) (.cons (rp.keep t1)<|RWs.one rm)
end
section
variable{X:Cx}{B:Bx}{x:Str}{c:String}{C f:Addr}{fd:FuncData}{ps fl:List Str}{k:Nat}{fn:List VW->Res VW}{e:Expr}{es:List Expr}{tas:AF}{p pos:Pos}
def abH(hK:X.K=B.K)(hx:XW X B)(M:Mk X.K C f)(cl:Cls X.K C)(na:∀f∈fl,eF X.K C f)(a8:fl≠[])(a4:W.nsIn X.K mainGlobals (Str.ofString c)=some (some<|.ref C))(a7:WL.oO c=fl)(G:FnOk X.prog X.w X.K X.mg X.base (CXX X.prog X.w) k f fd ps (spN X.K c fl fn))(hr:Room (k+1) X.A)(hg:Gl X x)(hm:X.mg x=some (.ref C))(hb:Binds X.K fd ps [])(ha:PA X (e::es) (loA B tas))(hn:∀l ws,tas l=.ok ws->ws.length=1:=by repeat first|exact i2|apply de)(a5:Dbg x:=by decide)(he:SE X e es:=by rfl)(a6:BT X pos es:=by rfl):PE X (.Call (.Name x p) (e::es) [] pos) (lo B<|WL.qV c fn tas):=PE.imp (acj M G hr hg hm hb .nil ha a5 he a6) λJ H Q a1=>by refine eG a1 λl F R q=>?_;have q:=Rq.bind q;refine fv l F R ?_;cases ea:tas l with|bad|ex c=>rw[ea]at q;exact q|ok ws=>
 rw[ea]at q;have hl:=hn l ws ea;obtain⟨w,rfl⟩:∃w,ws=[w]:=by match ws,hl with|[w],_=>exact⟨w,rfl⟩
 have q:=Rq.bind (show Rq B l F ((fn [w]).bind λy=>if WL.isN c y=true then Res.ok y else .bad) _ from q);intro vs D g i g1 r1 x h r a9 b2;refine gB (eJ r1) λv b1 r3=>?_;subst b1;rw[apc];have hc:∀b o,D b=some o->b≠x/\b≠h/\upd (upd D h<|.own x) x (.ins C h []) b=some o:=λb o z=>by
  have N:b≠x:=λy=>by rw[y,r]at z;cases z
  have K:b≠h:=λy=>by rw[y,a9]at z;cases z
  exact⟨N,K,by rw[ai N,ai K];exact z⟩
 have ext:∀{a j:Hp},aB (noI g) a->aB a j->(∀b o,b≠x->upd (upd D h<|.own x) x (.ins C h []) b=some o->j b=some o)->(∀b o,a b=some o->noI g b=some o\/(b=x\/upd (upd D h<|.own x) x (.ins C h []) b=none)/\NF o)->Gr g D (jo g a) j/\RB B (jo g a) j/\aB a (jo g a):=λ{a j}s1 P Y fr=>by
  have sH:aB D j:=λb o z=>Y b o (hc b o z).1 (hc b o z).2.2;have S:∀b o,a b=some o->g b=none->D b=none/\NF o:=λb o z n=>by
   rcases fr b o z with y|⟨y,nf⟩;.rw[zt y]at n;cases n
   .refine⟨?_,nf⟩;rcases y with y|y;.rw[y];exact r
    .cases d:D b with|none=>rfl|some u=>rw[(hc b u d).2.2]at y;cases y
  refine⟨⟨λb o z=>aiD z,sH,λb o z n=>?_⟩,⟨λb o z=>?_,i.rb.base.trans sH,λb o z=>aiD<|i.rb.fz0 b o z,λb o z=>?_⟩,λb o z=>?_⟩;.rw[aiC n];cases e2:a b with|none=>rfl|some u=>rw[(S b u e2 n).1]at z;cases z
  .cases d:g b with|some u=>rw[aiD d]at z;cases z;exact sH b _<|i.rb.sub b _ d|none=>rw[aiC d]at z;exact P b o z
  .cases d:g b with|some u=>rw[aiD d]at z;cases z;exact i.rb.fr b _ d|none=>rw[aiC d]at z;obtain⟨N,K⟩:=S b o z d;exact .inr ⟨i.rb.base.free N,K⟩
  .cases d:g b with|none=>rw[aiC d];exact z|some u=>have N:=sH b _<|i.rb.sub b _ d;have K:=P b o z;rw[N]at K;cases K;exact aiD d
 have a0:g x=none:=i.rb.sub.free r;refine⟨λCe A j=>∃Ca a c,Ce=.ref Ca/\RS B l J a j/\B.xp c l a/\XR B.K a c Ca A,?_,λZ s e Ce A T H' t⟨Ca,a,c,ec,R2,xp,xr⟩=>?_⟩
 .refine anp x h C (noI g) w v rfl aj cl na ?_ (λb o z=>?_) ?_ ?_;.cases d:noI g x with|none=>rfl|some u=>have:=i.rb.sub x _<|zt d;rw[r]at this;cases this
  .exact(hc b o<|i.rb.sub b o<|zt z).2.2
  .rw[hK];exact RW.one ((RWs.one r3).alE λb o z=>aie z)
  .cases ef:fn [w]with|bad=>rw[ef]at q;exact q|ok wd=>
    rw[ef]at q;have q:Rq B l F (if WL.isN c wd=true then Res.ok wd else .bad) _:=q;by_cases O:WL.isN c wd=true
    .rw[an4 O]at q;obtain⟨ws,rfl⟩:∃ws,wd=.ins c ws:=by
      unfold WL.isN at O;split at O;.rw[eq_of_beq O];exact⟨_,rfl⟩
      .cases O
     refine⟨rfl,λj a m s1 P Y a3 a2 fr I b0=>?_⟩;have U:m≠[]:=λz=>by rw[z]at I;exact a8 I.symm
     obtain⟨E,rb,sj⟩:=ext s1 P Y fr;have fx:jo g a x=none:=by rw[aiC a0];exact a2
     have nf:NF (.ins C h m):=by cases m with|nil=>exact(U rfl).elim|cons _ _=>trivial
     have R3:RS B l J (upd (jo g a) x<|.ins C h m) j:=(i.grow E rb).anT fx (i.rb.base.free r) a3 nf (λ_ z=>nomatch z) λ_ z=>nomatch z;refine⟨rfl,(show∀v H' F',_ from q) (.ref x) j _ R3 (g1.trans ⟨E.f.trans<|av fx _,E.h,λb o z n=>?_⟩) ?_⟩;.rw[ai (hc b o z).1];exact E.nf b o z n
     .exact⟨x,C,h,m,rfl,aj,hK▸a4,by rw[a7];exact I,U,(show RWs B.K a ws _ from hK▸b0).keep<|sj.trans<|av fx _⟩
    .rw[an5 O]at q;exact q.elim|ex c=>rw[ef]at q;intro Ce A j a s1 P Y fr xr;obtain⟨E,rb,sj⟩:=ext s1 P Y fr;exact vW Ce (jo g a) c rfl (i.grow E rb) (B.mono c l F _ (g1.f.trans E.f) q)<|(hK▸xr).keep sj
 .cases ec;exact hx Z J H' s l a c R2 xp e Ce A (some T) _ t (by rw[hK];exact xr)
end
end WS
namespace L2
open PySem PySem.Spec PyProof.Rows
section
variable{X:Cx}
def ahw:V->List V->Hp->VK->Prop:=λx d H Q=>∃l b c a,x=.ref l/\d=[.ref b]/\H l=some (.lst c)/\Rd H b (.lst a)/\c.length+a.length<=sizeLine/\Q .non (upd H l<|.lst<|c++a)
def afF:MtM X "list.extend" ahw:=by
 intro k s N H x D v J Q I t o h;refine ake h λl b K M i f m A G q=>?_;subst i f;cases t;obtain⟨u,rfl,B⟩:=o.one;cases B;obtain⟨z,c,n,r,C,e⟩:=I.amY m;obtain⟨E,a,p,j,w⟩:=A.ok I.hok;have y:=j.length;have g:c.toArray.size+a.toArray.size<=sizeLine:=by grind
 have d:¬(!c.toArray.isEmpty&&Builtin.List.listTooLong (c.toArray.size+a.toArray.size))=true:=by rw[acy g,Bool.and_false];exact aov
 refine arF F.slot_list_extend ⟨_,e,rfl⟩ F.entry_list_extend (F.args_list_extend_2 _ _) (AutoSeq1.list_extend_list_list_0 l c.toArray n b a.toArray p d (by rw[aoQ];omega)<|by omega) ⟨e,w,.non,_,I.amZ m e (by simp) (r.append j) ?_,rfl,q⟩;rw[aoY];omega
end
end L2
namespace WS
open PySem PySem.Spec PyProof.Rows L2
open WL(Res Sl Ws EF TF AF LF GF GsF SF Out OX RF Tw)
section
variable{X:Cx}{B:Bx}{st:Stmt}{i:Nat}{ta:EF}
def agL(hK:X.K=B.K)(m:noL X.K=true)(h:PS X st (wu<|tBM X.K "list" ahw (kQ i)<|hU (lo B ta) xT)):PS X st (loS B<|WL.ago i ta):=PS.imp h λD l H k=>by refine eG k λd F R q=>?_;have q:Oq B D F (match d[i]? with|some (.ow ws)=>WL.ofR d (ta d) _|_=>.bad):=q;cases e:d[i]? with|none=>rw[e]at q;exact q.elim|some sl=>rw[e]at q;cases sl with|no|va _|od _ _|ob=>exact q.elim|ow ws=>
  refine pE (R.ow i ws e) λa r s E A j p=>?_;have q:=Oq.ofR q;refine⟨.ref a,s,.inl ⟨rfl,r,SqL.of j⟩,d,F,R,Rq.mono (aB.refl _) q λw c v G C o f z=>?_⟩
  cases w with|lst zs=>
  refine ke z λb y g x u=>?_;subst g;have c:Oq B D F (if ws.length+zs.length<=WL.lim then Out.nx _ else .bad):=c;by_cases n:ws.length+zs.length<=WL.lim;.rw[an4 n]at c;have t:=f.h a _ j;rw[<-hK]at x;exact⟨a,b,r,y,rfl,rfl,t,o.rb.sub.rd<|SqL.here m x,by rw[<-p.length,<-u.length];exact aoh n gZ,c l _ C (o.write e s (f.nf a _ j E) A t<|(p.keep f.f).app u) f.f⟩
  .rw[an5 n]at c;exact(c).elim|_=>exact(show False from c).elim
end
end WS
namespace L2
open PySem PySem.Spec PyProof.Rows PySem.W
section
variable{P:Program}{w:World}{H:Hp}{h:Heap}{a:Addr}{o:HO}
theorem cQ.some(x:cQ P w H h a o):∃u,h.get? a=some u:=by cases o with|lst xs=>obtain⟨_,_,_,_,e⟩:=x;exact⟨_,e⟩|tup xs=>obtain⟨_,_,_,o,e,_⟩:=x;exact⟨_,e⟩|dK kvs|dT kvs=>obtain⟨_,_,_,_,o,_,_,e,_⟩:=x;exact⟨_,e⟩|set S n=>refine agD x λo _ _ _ e _=>?_;exact⟨_,e⟩|ins C dx fs=>refine ajm x λ_ _ _ e _=>?_;exact⟨_,e⟩|own y=>exact x|xd fs=>obtain⟨_,⟨_,_,_,e,_⟩,_⟩:=x;exact⟨_,e⟩|rng lo hi=>obtain⟨_,_,_,e⟩:=x;exact⟨_,e⟩|frz ob u=>exact⟨_,x.1⟩|tbl ps|met f y=>exact⟨_,x⟩|tab ps=>rcases x with e|⟨_,_,_,_,_,e,_⟩<;>exact⟨_,e⟩|ext φ=>exact x.2.1
end
def zo{h:Heap}{L:Addr}{m f:Str->Option Value}(a:h.Ns L m)(b:h.Ns L f):m=f:=by refine x1 a λo n q k j _ i=>?_;refine x1 b λp l g c d _ e=>?_;rw[k]at c;cases c;rw[j]at d;cases d;funext x;rw[<-i,<-e]
section
variable{X:Cx}{pins:List (Addr×Obj)}{σ:List (Option V)}{H:Hp}{s:Shared}{h':Heap}
def Inv.alH{D:Addr}{m:Str->Option Value}{ys:List V}{f:List Value}{n:Nat}(I:Inv X pins σ H s)(l:s.heap.Ns X.env.locals m)(F:Fr X.base X.env.locals h' m)(N:News X.base X.env.locals h' ((D,listOf f.toArray n)::gA X.base s.heap X.env.locals))(i:∀q∈gA X.base s.heap X.env.locals,q.1<D)(r:Vals ys f)(hz:ys.length<=sizeLine):H D=none/\Inv X pins σ (upd H D<|.lst ys) {s with heap:=h'}:=by
 have h:=N _<|.head _;have j:s.heap.get? D=none:=by cases e:s.heap.get? D with|none=>rfl|some o=>exact absurd (i _<|eu h.2.1 h.2.2 e)<|apw _
 have k:H D=none:=by cases e:H D with|none=>rfl|some u=>obtain⟨o,z⟩:=(I.hok D u e).some;rw[j]at z;cases z
 have keep:∀b o,b≠X.env.locals->s.heap.get? b=some o->h'.get? b=some o:=λb o d e=>by cases q:X.base.get? b with|some u=>have:=I.bk b u q;rw[e]at this;cases this;exact F.keep b _ q|none=>exact(N (b,o)<|.tail _<|eu d q e).1
 have a:∀b u,H b=some u->b≠D:=λb u e z=>by rw[z,k]at e;cases e
 refine⟨k,I.n4 (g':=s.gens) (t':=s.toks) (d':=s.drawn) (ch:=[]) (λ_ z=>nomatch z) (λb o d _ _ e _=>keep b o d e) (λb o d _ _ e _=>⟨o.slots,keep b o d e⟩) (λb o _ e n=>?_) (λb o _ e=>?_) (λb p e=>?_) (λb o u e=>?_) (λb ps e=>⟨#[],?_⟩) (λx t=>?_) (λb u e=>?_) I.bare⟩;.rw[ai λz=>by rw[z,j]at e;cases e];exact n
 .by_cases d:b=X.env.locals;.refine vV F.ns λw _ _ z _=>?_;rw[d];exact⟨w,z⟩
  .exact⟨o,keep b o d e⟩
 .rw[ai (a b _ e)];exact e
 .rw[ai (a b _ e)];exact e
 .rw[ai (a b _ e),e];simp
 .rw[<-zo l t];exact F.ns
 .by_cases d:b=D;.subst d;rw[aj]at e;cases e;exact⟨hz,f,n,r,h.1⟩
  .rw[ai d]at e;refine(I.hok b u e).n5 (λc v g q=>keep c v ?_ q) (λc q=>?_) λc p q=>?_
   .intro z;rcases g with g|g;.rw[<-g,z,I.free]at e;cases e
    .rw[z,I.free]at g;cases g
   .rw[ai (a c _ q)];exact q
   .rw[ai (a c _ q)];exact q
end
abbrev adF(K:W.Frag)(H:Hp):List V->List (Int×Int)->Prop:=Paired λv q=>∃a,v=.ref a/\SqT K H a [.int q.1,.int q.2]
abbrev fu(h:Heap):List Value->List (Int×Int)->Prop:=Paired λu q=>∃a o n c b,u=.ref a/\h.get? a=some o/\o.cls=.type "tuple"/\o.data=.seq #[.int q.1 c,.int q.2 b] n
theorem kF{X:Cx}{pins σ H s}(I:Inv X pins σ H s):∀{vs ps b},adF X.K H vs ps->Vals vs b->fu s.heap b ps|_,_,_,.nil,.nil=>.nil|_,_,_,.cons h t,.cons r rs=>by refine .cons ?_<|kF I t rs;obtain⟨a,rfl,l⟩:=h;cases r;obtain⟨b,c,⟨o,f,g,n,d⟩,_⟩:=I.tuple l;obtain⟨u,m,rfl,⟨j,e⟩,⟨k,i⟩⟩:=vals2 c;subst e i;exact⟨a,o,n,j,k,rfl,f,g,d⟩
theorem fu.get{h:Heap}:∀{b ps},fu h b ps->∀i,i<ps.length->∃a o n c d,b.getD i Value.none=.ref a/\h.get? a=some o/\o.cls=.type "tuple"/\o.data=.seq #[.int (ps.getD i (0,0)).1 c,.int (ps.getD i (0,0)).2 d] n|_,_,.nil,i,hi=>absurd hi<|aph _|_,_,.cons h t,0,_=>h|_,_,.cons h t,i+1,hi=>by have:=fu.get t i (by simpa using hi);simpa using this
theorem fu.len{h:Heap}:∀{a ps},fu h a ps->a.length=ps.length|_,_,.nil=>rfl|_,_,.cons _ t=>by simp[fu.len t]
theorem fu.kat{h:Heap}:∀{b ps},fu h b ps->∃fs,KatTups h b fs/\fs.length=ps.length/\∀v∈fs,∃i t,v=Value.int i t
|_,_,.nil=>⟨[],.nil,rfl,λ_ z=>nomatch z⟩|_,_,.cons h t=>by
 refine akd h λa o n p m c j l f=>?_;subst c;refine ix (fu.kat t) λfs k g e=>?_;refine⟨_::fs,.cons j l f rfl k,by simp[g],λv d=>?_⟩;rcases an7.mp d with rfl|d;.exact⟨_,_,rfl⟩
 .exact e v d
section
variable{prog:Program}{w:World}{A:Around}{s:Shared}
def adC{b ps i j}{C:Bool->Shared->Prop}(T:fu s.heap b ps)(k:i<ps.length)(t:j<ps.length)(h:C (WL.ltP (ps.getD i (0,0))<|ps.getD j (0,0)) s):kas_ask prog w A (tuples' true) b i j C s:=by
 refine akd (T.get i k) λa o n B y e r v p=>?_;refine akd (T.get j t) λD x z u g l c m d=>?_;unfold kas_ask;rw[e,l];refine kat_lt r p c d ?_;show KatLex prog w A true (decide (2<2)) C [(_,_),(_,_)] 0 s;refine kat_cons (aq9<|kat_go (λq=>kat_yes<|kat_cons<|aq9<|kat_go (λf=>kat_yes<|kat_nil ?_) λf=>kat_no ?_) λq=>kat_no ?_)
 .have:WL.ltP (ps.getD i (0,0)) (ps.getD j (0,0))=false:=by unfold WL.ltP;rw[an4 q,eq_of_beq f];exact aoq<|Int.lt_irrefl _
  rw[this]at h;exact h
 .have:WL.ltP (ps.getD i (0,0)) (ps.getD j (0,0))=decide ((ps.getD i (0,0)).2<(ps.getD j (0,0)).2):=by unfold WL.ltP;rw[an4 q]
  rw[this]at h;exact kat_one _ _<|lt_int h
 .have:WL.ltP (ps.getD i (0,0)) (ps.getD j (0,0))=decide ((ps.getD i (0,0)).1<(ps.getD j (0,0)).1):=by unfold WL.ltP;rw[an5 (by rw[q];simp)]
  rw[this]at h;exact oneLt_int h
theorem kZ{a ps}{G:Array Nat->Shared->Prop}(T:fu s.heap a ps):∀t:KasT (Array Nat),WL.okT ps.length t=true->G (WL.ab1 (λi j=>WL.ltP (ps.getD i (0,0))<|ps.getD j (0,0)) t) s->t.kasWp (kas_ask prog w A (tuples' true) a) G s
|.ret p,_,h=>h|.ask i j k,ok,h=>by
 have ok:(decide (i<ps.length)&&decide (j<ps.length)&&WL.okT ps.length (k true)&&WL.okT ps.length (k false))=true:=ok;simp only[aoo,aoJ]at ok;refine adC T ok.1.1.1 ok.1.1.2 ?_;refine kZ T (k _) ?_ h;cases WL.ltP (ps.getD i (0,0)) (ps.getD j (0,0));.exact ok.2
 .exact ok.1.2
end
theorem k6{n c}:∀t:KasT (Array Nat),WL.okT n t=true->(WL.ab1 c t).size=n
|.ret p,h=>eq_of_beq h|.ask i j k,h=>by
 have ok:(decide (i<n)&&decide (j<n)&&WL.okT n (k true)&&WL.okT n (k false))=true:=h;simp only[aoo,aoJ]at ok;refine k6 (k<|c i j) ?_;cases c i j;.exact ok.2
 .exact ok.1.2
theorem rQ:∀(l:List Nat){vs a},Vals vs a->Vals (l.map λi=>vs.getD i V.non) (l.map λi=>a.getD i Value.none)|[],_,_,_=>.nil|i::l,vs,a,r=>by refine .cons ?_<|rQ l r;simp only[aoe];cases e:vs[i]? with|some v=>obtain⟨u,b,c⟩:=r.get e;rw[b];exact c|none=>
   have:a[i]?=none:=by rw[aq6]at e⊢;rw[<-r.length];exact e
   rw[this];rfl
def rg{X:Cx}:bC X (.builtin "sorted") λJ H Q=>∃p vs ps,J=[.ref p]/\SqL X.K H p vs/\adF X.K H vs ps/\2<=ps.length/\ps.length<64/\WL.okT ps.length (kas_sort ps.length)=true/\∀l,H l=none->Q (.ref l) (upd H l<|.lst<|(WL.ixs ps).map λi=>vs.getD i V.non):=by
 intro A s σ H J us Q I U⟨p,vs,ps,e,h,hp,h2,j,ok,q⟩;subst e;obtain⟨u,rfl,ru⟩:=U.one;cases show u=Value.ref p from ru;refine ix (I.list h) λd G pl hz=>?_;have T:=kF I hp G;have hl:=T.len;refine gB (id I.loc) λm r _=>?_;have F:Fr X.base X.env.locals s.heap m:=⟨r,I.bk,aoh I.ok.bsz I.ok.above⟩;refine kat_sorted (vs:=d) F kn pl.isList (by omega) (by omega) λD e1 g B K f=>?_;have keep:∀b o,b≠X.env.locals->s.heap.get? b=some o->g.get? b=some o:=λb o Y e=>by cases q:X.base.get? b with|some u=>have:=I.bk b u q;rw[e]at this;cases this;exact B.keep b _ q|none=>exact(K (b,o)<|.tail _<|eu Y q e).1
 have w:fu g d ps:=Paired.imp' (λu q⟨a,o,n,P,t2,Z,x,S,C⟩=>⟨a,o,n,P,t2,Z,keep a o (λz=>by refine xQ r λo' es ep E y _=>?_;rw[<-z,x]at E;cases E;rw[C]at y;cases y) x,S,C⟩) T;refine ix w.kat λfs N fl M=>?_;refine kat_kind (T:=.type "int") (s:={s with heap:=g}) N (by omega) (λv hv=>?_) (by decide) ?_;.obtain⟨i,t,rfl⟩:=M v hv;exact .now
 .rw[hl];refine kZ (s:={s with heap:=g}) w _ ok ?_;refine KasFin.intro B K (.head λq h=>aoi<|f q h) λO c F2 R=>?_;have k:(WL.ixs ps).length=ps.length:=by unfold WL.ixs;rw[aqb];exact k6 _ ok
  obtain⟨hD,I2⟩:=I.alH (ys:=(WL.ixs ps).map λi=>vs.getD i V.non) r F2 R f (rQ _ G) (by rw[aos,k];exact aoh (ao9 j)<|by decide);exact i5 (.ref D) _ I2 rfl<|q D hD
end L2
namespace WS
open PySem PySem.Spec PyProof.Rows L2
open WL(Res Sl Ws EF TF AF LF GF GsF SF Out OX RF Tw)
section
variable{X:Cx}{K:W.Frag}
set_option tactic.hygienic true
theorem uZ{F:Hp}:∀{ws:List VW}{ps vs},WL.prs ws=some ps->RWs K F ws vs->adF K F vs ps
|[],_,_,e,r=>by cases e;cases r;exact .nil|w::ws,ps,vs,e,r=>by
 obtain⟨v,m,rfl,q,t⟩:=r;unfold WL.prs at e;split at e;.rename_i h;cases h
 .rename_i a b d h;cases h;obtain⟨g,c,rfl⟩:=aoI.mp e;refine .cons ?_<|uZ c t;obtain⟨x,l,rfl,i,j⟩:=q;obtain⟨v1,v2,rfl,f,k⟩:=two_of j;cases f;cases k;exact⟨x,rfl,i⟩
 .cases e
set_option tactic.hygienic false
theorem yP{F:Hp}:∀(l:List Nat){ws vs},RWs K F ws vs->RWs K F (l.map λi=>ws.getD i .non) (l.map λi=>vs.getD i V.non)|[],_,_,_=>rfl|i::l,ws,vs,r=>by refine .cons ?_<|yP l r;simp only[aoe];cases e:ws[i]? with|some w=>obtain⟨v,a,b⟩:=r.get e;rw[a];exact b|none=>
   have:vs[i]?=none:=by rw[aq6]at e⊢;rw[<-r.length];exact e
   rw[this];rfl
def nA:∀a c,WL.jZ a≠.ex c:=λa c h=>by
 unfold WL.jZ at h;split at h
 .split at h;.split at h<;>cases h
  .cases h
 .cases h
set_option tactic.hygienic true in
def ym(hK:X.K=K):bC X (.builtin "sorted") (loN K WL.jZ):=by
 subst hK;refine bC.imp rg λo H Q d=>?_;refine ke d λF ws s r q=>?_;unfold WL.jZ at q;split at q
 .rename_i n;split at q
  .rename_i ps i;split at q;.rename_i c;simp only[aoo,aoJ]at c;refine gB (eJ r) λv b h=>?_;subst b;refine ke h λa j b k e=>?_;subst b;refine⟨a,j,ps,rfl,s.seq k,Paired.imp' (λv q⟨x,g,m⟩=>⟨x,g,s.tup m⟩)<|uZ i e,c.1.1,c.1.2,c.2,λl f=>?_⟩;exact alX s q (yP _ e) f
   .exact q.elim
  .exact q.elim
 .exact q.elim
end
section
variable{X:Cx}{B:Bx}{e o:Expr}{es:List Expr}{pos apos p:Pos}{x m:Str}{ps fl:List Str}{ds:List Value}{sp:Sp}{t:TA}{j k n:Nat}{c:String}{C f g:Addr}{fn:List VW->Res VW}{tas:AF}{to:EF}{pl:Sem Bool}
def pcX(h:Room j X.A)(G:Cal X.prog X.w X.K X.mg X.base (CXX X.prog X.w) k x ps ds sp)(i:PA X (e::es) t)(hk:k<=j:=by decide)(l:Gl X x:=by rfl)(d:Dbg x:=by decide)(r:SE X e es:=by rfl)(a:BT X pos es:=by rfl):PE X (.Call (.Name x p) (e::es) [] pos) (uI X sp [] t):=by obtain⟨f,s,F,m,q,b,_⟩:=G;exact u4 F (h.mono hk) l m q b .nil i d r a
def pc0(h:Room j X.A)(G:Cal X.prog X.w X.K X.mg X.base CX0 k x ps ds sp)(i:PA X (e::es) t)(hk:k<=j:=by decide)(l:Gl X x:=by rfl)(d:Dbg x:=by decide)(r:SE X e es:=by rfl)(a:BT X pos es:=by rfl):PE X (.Call (.Name x p) (e::es) [] pos) (abU sp [] (λ_ _ _=>False) t):=by obtain⟨f,s,F,m,q,b,_⟩:=G;exact se F (h.mono hk) l m q b .nil afv i d r a
def mkN(v:B.K=X.K)(y:Room j X.A)(w:XW X B)(M:Mk X.K C f)(cl:Cls X.K C)(z:∀f∈fl,eF X.K C f)(l:W.nsIn X.K mainGlobals (Str.ofString c)=some (some<|.ref C))(G:aml X.prog X.w X.K X.mg X.base k f ps (spN X.K c fl fn))(D:X.mg x=some (.ref C))(r:PA X (e::es) (loA B tas))(hk:k+1<=j:=by decide)(q:∀A ws,tas A=.ok ws->ws.length=1:=by repeat first|exact i2|apply de)(d:WL.oO c=fl:=by rfl)(h:fl≠[]:=by decide)(s:Gl X x:=by rfl)(i:Dbg x:=by decide)(u:SE X e es:=by rfl)(a:BT X pos es:=by rfl):PE X (.Call (.Name x p) (e::es) [] pos) (lo B<|WL.qV c fn tas):=by obtain⟨E,F,b⟩:=G;exact abH v.symm w M cl z h l d F (y.mono hk) s D b r q i u a
def meN(y:B.K=X.K)(v:Room j X.A)(u:XW X B)(l:W.nsIn X.K mainGlobals (Str.ofString c)=some (some<|.ref C))(cl:Cls X.K C)(G:agk X.prog X.w X.K X.mg X.base k C g m ps (spX X.K n fn))(s:PE X o (lo B to))(r:PA X (e::es) (loA B tas))(q:∀w ws,tas w=.ok ws->ws.length+1=n:=by first|exact an1|exact an2)(hk:k<=j:=by decide)(d:m∉WL.oO c:=by decide)(h:SE X e es:=by rfl)(a:BT X pos es:=by rfl)(ht:eval (.Call (.Attribute o m apos) (e::es) [] pos) X.env=(do
  let i <-eval o X.env
  standAt apos.atName let(f,first)<-holding [i] (getMethod i m pl)callWith pos f first (backTo pos<|starEach (e::es) X.env) (backToKw pos<|keywordEach [] X.env)):=by rfl):PE X (.Call (.Attribute o m apos) (e::es) [] pos) (lo B<|WL.iZ c fn to tas):=by obtain⟨M,z,F,b⟩:=G;exact PE.imp (aci s cl M F (v.mono hk) b .nil r h a ht)<|acL y.symm u l d q
end
def adq{P w K mg b f g k m}{ps:List Str}:FnOk P w K mg b (CXX P w) k f g ps (spX K m λ_=>.bad):=⟨λe H Q E a=>by obtain⟨_,_,_,_,_,h⟩:=a;exact h.elim,λA c s H d i e Q E n p j l o a=>by obtain⟨_,_,_,_,_,h⟩:=a;exact h.elim⟩
end WS
set_option autoImplicit true
set_option relaxedAutoImplicit true
namespace WS
open PySem PySem.Spec PyProof.Rows L2
open WL(Res Sl Ws EF TF AF LF GF GsF SF Out OX RF Tw)
section
variable{X:Cx}{B:Bx}{e tg iter elt:Expr}{pos:Pos}{ta:EF}{tt:TF}{it:LF}{g:GF}{k:Nat}{scope:Scope}{ts:List Str}{ifs:List Expr}
def abB{iN y py a1}(hN:X.N.Nodup)(b3:X.N[iN]?=some y)(hy:X.env.scope.names.lookup y=some .local)(c8:swapsWith (.ListComp elt [⟨tg,iter,ifs,0⟩] scope pos) (some<|.Name y py) a1.line X.env=pure true)(c4:X.stack=X.env::X.outer)(c2:X.env.frame=some X.env.locals)(hK:X.K=B.K)(hx:XW X B)(L:CompLook X scope)(hc:X.calm=true)(hk:ts.length=k)(hg:Keeps k g)(hi:PI X tg iter (loI B it))(b5:∀C l j K E G,G.K=X.K->XW ((X.comp scope C ts l j K).tri E []) G->PG ((X.comp scope C ts l j K).tri E []) tg (loG true G g))(c6:∀C l j K E G,G.K=X.K->XW ((X.comp scope C ts l j K).tri E []) G->xP ((X.comp scope C ts l j K).tri E []) ifs (loT G tt))(b7:∀C l j K E G,G.K=X.K->XW ((X.comp scope C ts l j K).tri E []) G->PE ((X.comp scope C ts l j K).tri E []) elt (lo G ta))(hs:∀x,foldedSetIterable iter X.env x=pure x:=by intro _;rfl):PS X (.Assign [.Name y py] (.ListComp elt [⟨tg,iter,ifs,0⟩] scope pos) a1) (loS B<|WL.bq iN<|WL.jW k it g tt ta):=by
 subst hk;intro pins s d H Dn I hh;obtain⟨Q,hQ⟩:∃Q:VK,Q=λv H1=>Dn.nx (d.set iN<|some v) H1:=⟨_,rfl⟩;have hh:=zL (tV:=lo B<|WL.jW ts.length it g tt ta) (λ_ _ _ z=>z) Dn d H hh;have hh:lo B (WL.jW ts.length it g tt ta) d H Q:=by rw[hQ];exact hh
 refine eG hh λσ F R q=>?_;have S:CompScope X scope ts:=L.scope;have a5:closureFor scope X.env=pure (cP X.env.cells scope.names []):=ed λy hy hf=>by obtain⟨c,hc⟩:=I.ok.has y.1<|S.free y hy hf;rw[hc];rfl
 have q:=Rq.bind<|Rq.bind q;rw[exec_Assign_Name_used _ _ _ _ c8];refine anY<|apV<|anY ?_;refine anY (aoA (apN rfl hs a5 S.kind S.names<|thn (hi pins s d H (λJ H1=>∃F1 xs,RS B σ d F1 H1/\Gr F H F1 H1/\Walk B.K J xs F1/\Rq B σ F (if xs.length<=WL.lim then WL.ba g tt ta (List.replicate ts.length .no++WL.xV σ) xs else .bad) λys=>∀v i A,RS B σ d A i->Gr F H A i->RW B.K A (.lst ys) v->Q v i) I<|fv σ F R<|Rq.mono (aB.refl _) q λxs P J H1 F1 R1 g1 wk=>aby F1 xs R1 g1 wk ?_) λxv s1 h1=>thn h1 λd2 s2 h2=>?_) (λ_ N hq=>an0<|an0 hq) λ_ _ e=>e);.exact P
 obtain⟨it,K,tn,J,H2,e,Y,T,b4,f2,F1,xs,R1,g1,wk,P⟩:=h2;subst e;by_cases a3:xs.length<=WL.lim
 .rw[an4 a3]at P;let G:Bx:=⟨B.K,H2,F1,λc _ A=>B.xp c σ A,λc _ A b9 sm h=>B.mono c σ A b9 sm h⟩;let EC:Addr->Value->Shared->Prop:=λC v N=>∃(e Ce:Addr)(dx:DX)(fl:Value)(T:Option Addr)(M:L2.St)(i A:Hp)(c:VW),v=.ref e/\Thr (X.comp scope C ts s2 H2 K) [] M i N e Ce dx fl T/\RB G A i/\B.xp c σ A/\XR X.K A c Ce dx;have xw:∀C,XW ((X.comp scope C ts s2 H2 K).tri (EC C) []) G:=λC b8 M i N c3 A c R' xp e Ce dx T fl t xr=>⟨e,Ce,dx,fl,T,M,i,A,c,rfl,Thr.iC (X:=X.comp scope C ts s2 H2 K) (pins:=[]) t,R'.rb,xp,xr⟩;have hW:ud J (loG true G g) (loT G tt) (lo G ta) (List.replicate ts.length none++d) H2 Q:=by
   refine q0 hg (R1.xV rfl rfl rfl) wk a3 (λz=>by rw[z]at P;exact P) (λc z c3 A sm=>?_) λall z ys A i rb g' r D hD=>?_;.rw[z]at P;exact B.mono c σ F A (g1.f.trans sm) P
   .rw[z]at P;have U:RB B A i:=oe R1 rb rfl rfl;have R':=R1.grow g' U;exact P (.ref D) _ _ (R'.new hD _) (g1.trans<|g'.trans<|Gr.new (U.sub.free hD) hD _) (by simp only[RW];exact i5 D ys rfl (SqL.of aj)<|r.keep<|av (U.sub.free hD) _)
  refine gM (Q:=Q) S EC (λ_ _ _=>hc) (λC=>b5 C s2 H2 K (EC C) G hK.symm<|xw C) (λC=>c6 C s2 H2 K (EC C) G hK.symm<|xw C) (λC=>b7 C s2 H2 K (EC C) G hK.symm<|xw C) Y T b4 f2 hW.c ?_ ?_
  .intro C D i N m ys b1 hC hD hn c9 I' q;have Z:=aoE<|an6 Y.lt hC;refine aqX (iF I' hN b3 (.inl hy) (show RelV (.ref D) (.ref D)from rfl) (λc7 c0 a6=>?_)<|.inr hy);refine gB a6 λa a6 ha=>?_;have c5:a≠C:=by
    rcases ha with e|e;.rw[e];exact aom Z
    .obtain⟨v,q⟩:=Y.cell y a e;exact aoi<|an6 q.lt hC
   refine⟨m,hn.sameBut a6<|aom c5,λh' a0=>?_⟩;have I3:=c0.turned (t':=c7.toks) (λb o u e=>(a0.2 b u).trans e) (by rw[ai b1];exact c9) Z (.inr<|aoh Y.sz hC) (λx c e=>by obtain⟨v,q⟩:=Y.cell x c e;exact aoi<|an6 q.lt hC) λp n=>aoi<|an6 (an9 (Y.pin p n).1) hC;rw[hQ]at q;exact fv _ _ I3 q
  .rintro C D _ N hC⟨e,Ce,dx,fl,T,M,i,A,c,rfl,t,rb,xp,xr⟩;have J':Inv X pins d i N:=Y.adz (ch:=K) t.inv.os t.inv.base t.inv.hok t.inv.bare λb u=>⟨(f2 b u).2.2.2.1,(f2 b u).2.1,(f2 b u).2.2.2.2.1,(f2 b u).2.2.2.2.2⟩;refine gB t.inv.loc λm a7 _=>?_;refine vV (id a7) λoC es ep c1 a8=>?_;have a2:i C=none:=t.inv.free;have Z:C≠X.env.locals:=aoE<|an6 Y.lt hC;have b0:s2.heap.get? C=none:=aoG hC;have fC:FpX X pins i C:=Y.fpX b0 a2;have a4:∀v,oC.data≠.cell v:=λv z=>by obtain⟨hd,_⟩:=a8;rw[hd]at z;cases z
   have J2:Inv X (pins++[(C,oC)]) d i N:=J'.eU λp n=>by
    rcases aoH.mp n with n|n;.exact J'.pin p (aok _ n)
    .obtain rfl:p=(C,oC):=by simpa using n
     exact⟨c1,a2,Z,fC.2.2.1,a4⟩
   have O:∀b,FpX (X.comp scope C ts s2 H2 K) [] i b->FpX X pins i b/\b≠C:=λb z=>by
    refine⟨?_,z.2.1⟩;rcases z.2.2.2.1 with u|u;.have f:=f2 b u;exact⟨z.1,f.2.1,f.2.2.1,f.2.2.2.1.imp (λw=>w) λw=>aoG w,f.2.2.2.2.1,f.2.2.2.2.2⟩
    .exact Y.fpX u z.1
   have add:∀b,FpX X pins i b->b≠C->FpX X (pins++[(C,oC)]) i b:=λb z ne=>⟨z.1,z.2.1,z.2.2.1,z.2.2.2.1,z.2.2.2.2.1,λp n=>by
    rcases aoH.mp n with n|n;.exact z.2.2.2.2.2 p (aou _ n)
    .rcases aoH.mp n with n|n;.exact z.2.2.2.2.2 p (aok _ n)
     .obtain rfl:p=(C,oC):=by simpa using n
      exact aom ne⟩;have te:=O e t.fe;have t1:Thr X (pins++[(C,oC)]) d i N e Ce dx fl T:=⟨J2,t.trc,add e te.1 te.2,λb u=>add b (O b<|t.fT b u).1 (O b<|t.fT b u).2⟩;refine t1.note c4 c2 λa9 T1 b6 t2=>?_;have pC:=(t2.inv.pin (C,oC)<|by simp).1;refine⟨m,abx oC es ep pC a8,λh' a0 d0 _=>?_⟩;have drop:∀b,FpX X (pins++[(C,oC)]) i b->FpX X pins i b/\b≠C:=λb z=>⟨⟨z.1,z.2.1,z.2.2.1,z.2.2.2.1,z.2.2.2.2.1,λp n=>by
    rcases aoH.mp n with n|n;.exact z.2.2.2.2.2 p (aou _ n)
    .exact z.2.2.2.2.2 p (aok _<|aou _ n)⟩,λw=>z.2.2.2.2.2 (C,oC) (by simp) w.symm⟩;have J3:Inv X pins d i {N with heap:=a9}:=t2.inv.eU λp n=>t2.inv.pin p<|aok _<|aou _ n;have J4:Inv X pins d i {N with heap:=h'}:=Inv.turned (s:={N with heap:=a9}) (t':=N.toks) (it:=C) J3 (λb o u e=>(a0.2 b u).trans e) a2 Z (.inr<|aoh Y.sz hC) fC.2.2.2.2.1 fC.2.2.2.2.2;have t3:Thr X pins d i {N with heap:=h'} e Ce dx b6 (some T1):=⟨J4,t2.trc.keeps λb o u q=>(a0.2 b (by
    rcases u with rfl|u;.exact(drop _ t2.fe).2
    .exact(drop b<|t2.fT b u).2)).trans q,(drop e t2.fe).1,λb u=>(drop b<|t2.fT b u).1⟩;refine t3.pass λd1 b2 t4=>?_;have U:RB B A i:=oe R1 rb rfl rfl;exact hx pins d i _ σ A c (R1.grow (vw rb rfl rfl) U) xp e Ce dx (some T1) b2 t4 xr
 .rw[an5 a3]at P;exact(P).elim
end
end WS
namespace L2
open PySem PySem.Spec PySem.Calls PyProof.Rows PySem.W
section
variable{prog:Program}{w:World}{A:Around}{E:Value->Shared->Prop}{s:Shared}
def tW{r:Addr}{a b c:Int}{t u v:Tok}{n:Nat}{Q:List Value->Shared->Prop}(y:A.handled=none)(B:IsRange s.heap r a b c t u v)(f:Builtin.Range.small a b c=true)(p:Builtin.Range.rangeSize a b c=n)(j:n<=2^24)(h:∀g k d e,(∀b o,s.heap.get? b=some o->g.get? b=some o)->g.get? s.heap.objs.size=some (seqObj "list" d e)->ItemsOf (λi v=>∃t,v=.int (a+i*c) t) d n->Q d.toList {s with heap:=g,toks:=k}):
 wpAny (model prog w) A (collect<|.ref r) Q E s:=by unfold collect;refine anY<|wpAny_runValue<|aqf entry_proto_collect' ?_;show wpAny _ _ (do again (.builtin "list.__iadd__" ⟨[<-newList [],.ref r],[]⟩)) _ _ s;refine anY (wpAny_newList<|an0 ⟨aqk _ (by decide+kernel),aqf entry_list_iadd' ?_⟩);show wpAny _ _ (Builtin.List.listExtendWith (.ref s.heap.objs.size) (.ref r)<|.ref s.heap.objs.size) _ _ {s with heap:=s.heap.push (seqObj "list" #[] 0)};refine wpAny_extend_range (prog:=prog) (w:=w) (A:=A) (R:=λr m=>match r with
 |.ok (.ret v)=>wpAny (model prog w) A (match v with
 |.ref a=>do match(<-load a).data with|.seq xs _=>pure xs.toList|_=>unsupported "internal:collect"
   |_=>unsupported "internal:collect") Q E m|.ok _=>False|.error e=>E e m) (s:={s with heap:=s.heap.push (seqObj "list" #[] 0)}) y (anZ _ B) f p j _ _ 0 (aoj _ rfl) λg k d e z l x=>?_;show wpAny (model prog w) A (do let o <-load s.heap.objs.size match o.data with|.seq xs _=>pure xs.toList|_=>unsupported "internal:collect") Q E {s with heap:=g,toks:=k};refine anY<|wpAny_load l ?_;exact an0 (h g k d e (λb o q=>z b o (aoi<|an9 q)<|anZ _ q) l x)
end
section
variable{X:Cx}{pins:List (Addr×Obj)}{σ:St}{H:Hp}{s:Shared}{e P c:Addr}
def dQ{b:Addr}(h:b≠e):del H e b=H b:=an5 h
def da:del H e e=none:=an4 rfl
def eP{b:Addr}(h:H b=none):del H e b=none:=by unfold del;split<;>first|rfl|exact h
def Inv.acQ{o:HO}(I:Inv X pins σ H s)(q:H e=some o)(r:∀d,o≠.tup d)(B:∀a u,o≠.frz a u)(v:∀ps,o≠.tbl ps)(j:∀a,o=.own a->H a=none):Inv X pins σ (del H e) s:=by
 have keep:∀{b u},H b=some u->(b=e->False)->del H e b=some u:=λh n=>by rw[dQ n];exact h
 have g:∀{b d},H b=some (.tup d)->del H e b=some (.tup d):=λh=>keep h λz=>by rw[z,q]at h;cases h;exact r _ rfl
 refine⟨I.ok,I.os,I.bare,⟨I.base.keep,I.base.slot,λb o C l A=>eP<|I.base.free b o C l A,I.base.there,λb d h=>g<|I.base.tups b d h,λb o u h=>keep (I.base.frzs b o u h) λz=>?_,λb ps h=>?_⟩,I.loc,I.cell,eP I.free,λx c h=>eP<|I.freeC x c h,λp w=>?_,λb u h=>?_,I.len⟩;.have:=I.base.frzs b o u h;rw[z,q]at this;cases this;exact B _ _ rfl
 .obtain⟨f,z⟩:=I.base.tbls b ps h;exact⟨f,keep z λy=>by rw[y,q]at z;cases z;exact v _ rfl⟩
 .obtain⟨i,k,m⟩:=I.pin p w;exact⟨i,eP k,m⟩
 .have t:b≠e:=λz=>by rw[z,da]at h;cases h
  rw[dQ t]at h;refine(I.hok b u h).n5 (λ_ _ _ z=>z) (λc z=>keep z λy=>?_) λc d z=>g z;rw[y,q]at z;cases z;rw[j b rfl]at h;cases h
def Inv.ad7{o:Obj}(I:Inv X pins σ H s)(b:s.heap.get? e=some o)(h:H e=none)(f:e≠X.env.locals)(d:e∉X.fs)(g:∀v,o.data≠.cell v):Inv X ((e,o)::pins) σ H s:=⟨I.ok,I.os,I.bare,I.base,I.loc,I.cell,I.free,I.freeC,λp a=>by
 rcases aoH.mp a with a|a;.exact I.pin p (aou _ a)
 .rcases an7.mp a with rfl|a;.exact⟨b,h,f,d,g⟩
  .exact I.pin p (aok _ a),I.hok,I.len⟩
def Inv.pQ{p:Addr×Obj}(I:Inv X (p::pins) σ H s):Inv X pins σ H s:=⟨I.ok,I.os,I.bare,I.base,I.loc,I.cell,I.free,I.freeC,λq a=>I.pin q (by
 rcases aoH.mp a with a|a;.exact aou _ a
 .exact aok _ (aog _ a)),I.hok,I.len⟩
def Inv.agr{o:Obj}(I:Inv X ((e,o)::pins) σ H s):s.heap.get? e=some o/\H e=none/\e≠X.env.locals/\e∉X.fs/\∀v,o.data≠.cell v:=I.pin (e,o)<|aok _<|.head _
def Inv.amQ{p:Addr×Obj}{o:Obj}(I:Inv X (p::(e,o)::pins) σ H s):s.heap.get? e=some o/\H e=none/\e≠X.env.locals/\e∉X.fs/\∀v,o.data≠.cell v:=I.pQ.agr
noncomputable abbrev akS(ps:Array Value)(c:Addr):Obj:=tabObj #[ps.getD 0 .none,ps.getD 1 .none,.ref c]
def Inv.akW{ps vs:Array Value}{w:Obj}{q:Str}{t D:Tok}(I:Inv X ((P,akS ps c)::(c,w)::pins) σ H s)(Q:c≠P)(h0:X.H₀ P≠none)(y:∀o,X.s₀.heap.get? c=some o->X.H₀ c=none->c∉X.ex->False)(j:∀p∈X.pn++pins,p.1≠P/\p.1≠c)(m:ps[2]?=some (.str q t))(k:w.data=.fields vs)(hv:vs[1]?=some (.str q D)):Inv X pins σ (upd (upd H P<|.tab ps) c<|.own P) s:=by
 obtain⟨B,R,N,p4,T⟩:=I.agr;obtain⟨n,M,c3,c4,c5⟩:=I.amQ;have S:∀{b u},H b=some u->b≠P:=λh z=>by rw[z,R]at h;cases h
 have U:∀{b u},H b=some u->b≠c:=λh z=>by rw[z,M]at h;cases h
 have g:∀{b},b≠P->b≠c->upd (upd H P<|.tab ps) c (.own P) b=H b:=λO h2=>by rw[ai h2,ai O]
 have keep:∀{b u},H b=some u->upd (upd H P<|.tab ps) c (.own P) b=some u:=λh=>by rw[g (S h) (U h)];exact h
 have a:∀x d,X.env.cells.lookup x=some d->d≠P/\d≠c:=λx d e=>by
  obtain⟨v,o,l,k⟩:=I.cell x d e;refine⟨λz=>?_,λz=>?_⟩;.rw[z,B]at l;cases l;exact T _ k
  .rw[z,n]at l;cases l;exact c5 _ k
 have J:=I.pQ.pQ;refine⟨I.ok,I.os,I.bare,⟨I.base.keep,I.base.slot,λb o G r C=>?_,I.base.there,λb Z h=>keep<|I.base.tups b Z h,λb o u h=>keep<|I.base.frzs b o u h,λb ps h=>?_⟩,I.loc,I.cell,?_,λx d h=>?_,λp A=>?_,λb u h=>?_,I.len⟩;.rw[g (λz=>h0<|z▸r) λz=>by subst z;exact y o G r C];exact I.base.free b o G r C
 .obtain⟨f,z⟩:=I.base.tbls b ps h;exact⟨f,keep z⟩
 .rw[g (aom N) (aom c3)];exact I.free
 .rw[g (a x d h).1 (a x d h).2];exact I.freeC x d h
 .obtain⟨K,Y,a3⟩:=J.pin p A;exact⟨K,by rw[g (j p A).1 (j p A).2];exact Y,a3⟩
 .by_cases E:b=c;.subst E;rw[aj]at h;cases h;exact⟨_,n⟩
  .rw[ai E]at h;by_cases i:b=P;.subst i;rw[aj]at h;cases h;exact .inr ⟨c,q,t,aj,m,B,c,w,vs,D,rfl,n,k,hv⟩
   .rw[ai i]at h;exact(I.hok b u h).n5 (λ_ _ _ z=>z) (λ_ z=>keep z) λ_ _ z=>keep z
end
structure Lm(X:Cx)(c P:Addr):Prop where
 code:X.env.code=.ref c
 hd:CodeHd X.base c P
 bm:∃bm ob,X.mg "__builtins__"=some (.ref bm)/\bm≠builtinsNs/\X.base.get? bm=some ob/\ob.cls=.type "module"/\ob.dict=some builtinsNs/\ob.data=.plain
section
variable{X:Cx}{pins:List (Addr×Obj)}{σ:St}{H:Hp}{s:Shared}{P c:Addr}{E:Value->Shared->Prop}
abbrev acV(X:Cx)(d:Str)(a:Arguments)(body:Expr)(scope:Scope)(b:List (Str×Addr))(f:Addr)(e:Value):Obj:=kla_obj "<lambda>" d a body scope b ((X.mg "__name__").getD .none) f e
structure LamAt(X:Cx)(pins:List (Addr×Obj))(σ:St)(H:Hp)(P:Addr)(ps:Array Value)(q:Str)(params:Arguments)(body:Expr)(scope:Scope)(clos:List (Str×Addr))(f c':Addr)(oc:Obj)(ctv:Value)(s:Shared):Prop where
 inv:Inv X ((P,akS ps c')::(c',oc)::(f,acV X q params body scope clos c' ctv)::pins) σ (del (del H P) c') s
 ne:c'≠P
 cod:∃vs tq,oc.data=.fields vs/\vs[1]?=some (.str q tq)old:∀o,X.s₀.heap.get? c'=some o->X.H₀ c'=none->c'∉X.ex->False
 pn:∀p∈X.pn++pins,p.1≠P/\p.1≠c'/\p.1≠f
 own:H c'=none\/H c'=some (.own P)fne:f≠P/\f≠c'
def acT{j:Str}{g:Arguments}{body:Expr}{scope:Scope}{k:List (Str×Addr)}{pos:Pos}{t:Tok}{ps:Array Value}{Q:Value->Shared->Prop}(I:Inv X pins σ H s)(L:Lm X c P)(D:H P=some (.tab ps))(N:ps=#[rawInt pos.line,rawInt pos.col,.str j t])(a1:closureFor scope X.env=pure k)(hq:X.env.qual++"<lambda>"=j)(a0:defaultsOf g X.env=([],[]))(h:∀f i Z l s',LamAt X pins σ H P ps j g body scope k f i Z l s'->Q (.ref f) s'):wpAny (model X.prog X.w) X.A (eval (.Lambda g body scope pos) X.env) Q E s:=by
 refine kla_eval a0 ?_;rw[hq];have hg:s.heap.Ns mainGlobals X.mg:=I.mod.glob.keeps I.bk;have C:CodeHd s.heap c P:=L.hd.keeps I.bk;have Y:P≠X.env.locals:=λz=>by rw[z,I.free]at D;cases D
 have a2:P∉X.fs:=λz=>by have:=I.kR P (by
   rcases I.ok.stk with e|⟨e,_⟩;.rw[e];exact z
   .rw[e];exact ape.mpr (by obtain⟨a,b,d⟩:=ape.mp z;exact⟨a,aog _ b,d⟩));rw[D]at this;cases this
 have a3:∀p∈X.pn++pins,p.1≠P:=λp hp z=>by have:=(I.pin p hp).2.1;rw[z,D]at this;cases this
 obtain⟨bm,ob,b1,b2,b3,b4,b5,b6⟩:=L.bm;have S:∀{o:Obj}{U:Array Value},s.heap.get? P=some o->o.data=.fields U->o.cls=.none->mainGlobals≠P/\s.heap.BuiltinsAt X.mg P:=λ{o U}e d cl=>by
  have g1:mainGlobals≠P:=λq=>by obtain⟨o',es,ep,e',r,_⟩:=hg;rw[q,e]at e';cases e';rw[d]at r;cases r
  refine⟨g1,bm,ob,b1,b2,λq=>?_,λq=>?_,I.bk _ _ b3,b4,b5,b6⟩;.obtain⟨o',es,ep,e',r,_⟩:=hg;have:=I.bk _ _ b3;rw[q,e']at this;cases this;rw[r]at b6;cases b6
  .have:=I.bk _ _ b3;rw[q,e]at this;cases this;rw[d]at b6;cases b6
 have T:=I.hok P _ D;rcases T with e|⟨i,q,tq,K,a4,e,G⟩
 .obtain⟨g1,g2⟩:=S e rfl rfl;refine kla_makeFunction (mg:=X.mg) a1 I.ok.glob hg L.code C e (by trivial) rfl g1 g2 λi l B tk hx w a5 G a7=>?_;obtain⟨c2,Z,U,tq,e2,M,r,hv⟩:=G;cases e2;have O:H i=none:=I.hok.fresh w;have R:i≠P:=λz=>by rw[z,D]at O;cases O
  have kO:∀b o,b≠P->s.heap.get? b=some o->(B.push<|acV X j g body scope k i l).get? b=some o:=λb o A q=>anZ _<|hx b o A q;have nP:∀{b},H b=none->b≠P:=λn z=>by rw[z,D]at n;cases n
  have oP:(B.push<|acV X j g body scope k i l).get? P=some (akS ps i):=by rw[N];exact anZ _ a7
  have oC:(B.push<|acV X j g body scope k i l).get? i=some Z:=anZ _ M;have nC:∀{b u},H b=some u->b≠i:=λq z=>by rw[z,O]at q;cases q
  have J:Inv X pins σ (upd H i<|.own P) {s with heap:=B.push<|acV X j g body scope k i l,toks:=tk}:=by
   refine I.n4 (g':=s.gens) (d':=s.drawn) (ch:=[]) (λ_ z=>nomatch z) (λb o _ _ _ q n=>kO b o (nP n) q) (λb o _ _ _ q n=>⟨o.slots,kO b o (nP n) q⟩) (λb o _ q n=>?_) (λb o _ q=>?_) (λb xs q=>?_) (λb o u q=>?_) (λb ps q=>⟨#[],?_⟩) (λm hm=>(hm.extBut hx<|aom Y).push _) (λb u q=>?_) I.bare;.rw[ai λz=>absurd (an9 q)<|by rw[z];exact ao8 w];exact n
   .by_cases A:b=P;.rw[A];exact⟨_,oP⟩
    .exact⟨o,kO b o A q⟩
   .rw[ai (nC q)];exact q
   .rw[ai (nC q)];exact q
   .rw[ai (nC q),q];simp
   .by_cases A:b=i;.subst A;rw[aj]at q;cases q;exact⟨_,oC⟩
    .rw[ai A]at q;by_cases x:b=P;.subst x;rw[D]at q;cases q;exact .inr ⟨i,j,t,aj,by rw[N];rfl,oP,i,Z,U,tq,rfl,oC,r,hv⟩
     .refine(I.hok b u q).n5 (λd v r q'=>kO d v ?_ q') (λd q'=>by rw[ai (nC q')];exact q') λd xs q'=>by rw[ai (nC q')];exact q'
      rcases r with rfl|r;.exact x
      .intro z;rw[z,D]at r;cases r
  have J1:=J.acQ (e:=P) (o:=.tab ps) (by rw[ai (aom R)];exact D) (λ_ z=>by cases z) (λ_ _ z=>by cases z) (λ_ z=>by cases z) λ_ z=>by cases z
  have J2:=J1.acQ (e:=i) (o:=.own P) (by rw[dQ R];exact aj) (λ_ z=>by cases z) (λ_ _ z=>by cases z) (λ_ z=>by cases z) λa z=>by cases z;exact da
  have eH:del (del (upd H i<|.own P) P) i=del (del H P) i:=by
   funext b;by_cases A:b=i;.rw[A,da,da]
   .rw[dQ A,dQ A];by_cases x:b=P;.rw[x,da,da]
    .rw[dQ x,dQ x,ai A]
  rw[eH]at J2;have lf:s.heap.objs.size<=B.objs.size:=aoh w<|ao9 a5;have J3:=J2.ad7 (e:=B.objs.size) (aoj _ rfl) (eP<|eP<|I.hok.fresh lf) (λz=>absurd I.lt<|by rw[<-z];exact ao8 lf) (I.agt lf) λv z=>by cases z
  have J4:=J3.ad7 (e:=i) oC da (λz=>absurd I.lt<|by rw[<-z];exact ao8 w) (I.agt w) λv z=>by rw[r]at z;cases z
  have J5:=J4.ad7 (e:=P) oP (by rw[dQ (aom R)];exact da) Y a2 λv z=>by cases z
  refine h B.objs.size i Z l _ ⟨J5,R,⟨U,tq,r,hv⟩,λo q _ _=>absurd (an6 (an9 q) I.sz)<|ao8 w,λp hp=>?_,.inl O,aom<|aoi<|an6 (an9 e) lf,aom<|aoi a5⟩;have lp:=an9 (I.pin p hp).1;exact⟨a3 p hp,aoi<|an6 lp w,aoi<|an6 lp lf⟩
 .obtain⟨g1,g2⟩:=S e rfl rfl;obtain⟨c2,Z,U,a6,e2,M,r,hv⟩:=G;cases e2;have eq:q=j:=by rw[N]at a4;cases a4;rfl
  subst eq;have R:i≠P:=λz=>by rw[z,D]at K;cases K
  have a8:i∉X.fs:=λz=>by have:=I.kR i (by
    rcases I.ok.stk with e|⟨e,_⟩;.rw[e];exact z
    .rw[e];exact ape.mpr (by obtain⟨a,b,d⟩:=ape.mp z;exact⟨a,aog _ b,d⟩));rw[K]at this;cases this
  have e':s.heap.get? P=some (tabObj #[rawInt pos.line,rawInt pos.col,.ref i]):=by rw[N]at e;exact e
  refine kla_makeFunctionHit (cv:=.ref i) (mg:=X.mg) a1 I.ok.glob hg L.code C e' (by trivial) (by simp[codeAmong,rawInt]) g2 λl B tk hk y=>?_;have kO:∀b o,s.heap.get? b=some o->(B.push<|acV X q g body scope k i l).get? b=some o:=λb o z=>anZ _<|hk b o z;have J:Inv X pins σ H {s with heap:=B.push<|acV X q g body scope k i l,toks:=tk}:=I.n4 (g':=s.gens) (d':=s.drawn) (ch:=[]) (λ_ z=>nomatch z) (λb o _ _ _ q n=>kO b o q) (λb o _ _ _ q n=>⟨o.slots,kO b o q⟩) (λb o _ q n=>n) (λb o _ q=>⟨o,kO b o q⟩) (λb xs q=>q) (λb o u q=>q) (λb ps q=>⟨#[],by rw[q];simp⟩) (λm hm=>(hm.keeps hk).push _) (I.hok.kept kO) I.bare;have J1:=J.acQ (e:=P) (o:=.tab ps) D (λ_ z=>by cases z) (λ_ _ z=>by cases z) (λ_ z=>by cases z) λ_ z=>by cases z
  have J2:=J1.acQ (e:=i) (o:=.own P) (by rw[dQ R];exact K) (λ_ z=>by cases z) (λ_ _ z=>by cases z) (λ_ z=>by cases z) λa z=>by cases z;exact da
  have J3:=J2.ad7 (e:=B.objs.size) (aoj _ rfl) (eP<|eP<|I.hok.fresh y) (λz=>absurd I.lt<|by rw[<-z];exact ao8 y) (I.agt y) λv z=>by cases z
  have J4:=J3.ad7 (e:=i) (kO _ _ M) da (λz=>by rw[z,I.free]at K;cases K) a8 λv z=>by rw[r]at z;cases z
  have J5:=J4.ad7 (e:=P) (kO _ _ e) (by rw[dQ (aom R)];exact da) Y a2 λv z=>by cases z
  refine h B.objs.size i Z l _ ⟨J5,R,⟨U,a6,r,hv⟩,λo q1 q2 q3=>?_,λp hp=>?_,.inr K,aom<|aoi<|an6 (an9 e) y,aom<|aoi<|an6 (an9 M) y⟩;.have:=I.base.free i o q1 q2 q3;rw[K]at this;cases this
  .have pp:=I.pin p hp;exact⟨a3 p hp,λz=>by rw[z,K]at pp;exact(nomatch pp.2.1),aoi<|an6 (an9 pp.1) y⟩
end
noncomputable def xJ(P:Program)(w:World)(K:Frag)(mg:Str->Option Value)(base:Heap)(x y:Str)(qual:Str)(scope:Scope)(ca f:Addr)(cd:Value)(A:Around)(outer:List Env)(s:Shared)(H:Hp):Cx where prog:=P;w:=w;K:=K;mg:=mg;base:=base;A:=A.deeper<|envX qual scope s.heap.objs.size f cd [(y,ca)];N:=[x,y];s₀:=s;H₀:=H;env:=envX qual scope s.heap.objs.size f cd [(y,ca)];outer:=outer;stack:=envX qual scope s.heap.objs.size f cd [(y,ca)]::outer;ex:=[];calm:=A.handled.isNone;fn:=λ_=>false;pn:=[];xe:=λ_ _=>False
structure LamScope(x y:Str)(sc:Scope):Prop where
 kind:sc.kind=.function
 co:sc.isCoroutine=false
 gen:sc.isGenerator=false
 ne:x≠y
 hx:sc.names.lookup x=some .local
 hy:sc.names.lookup y=some .free
 nocell:∀z∈sc.names,z.2≠.cell
 free:∀z,sc.names.lookup z=some .free->z=y
section
variable{P:Program}{w:World}{K:Frag}{mg:Str->Option Value}{base:Heap}{x y qual:Str}{scope:Scope}{ca f:Addr}{cd:Value}{A:Around}{outer:List Env}{s:Shared}{H:Hp}{ux uy:Value}{vx vy:V}{h₁:Heap}{tk:Tok}
def afV(S:LamScope x y scope)(e:Env0 P w K mg base A outer s H)(u:h₁.Ns s.heap.objs.size λz=>[(x,ux)].reverse.lookup z)(hk:∀b o,s.heap.get? b=some o->h₁.get? b=some o)(t:s.heap.IsCell ca (some uy))(r:H ca=none)(D:RelV vx ux)(G:RelV vy uy):Inv (xJ P w K mg base x y qual scope ca f cd A outer s H) [] [some vx,some vy] H {s with heap:=h₁,toks:=tk}:=by
 have g:∀b:Addr,b ∉(xJ P w K mg base x y qual scope ca f cd A outer s H).ex:=λb z=>absurd (show b∈([]:List Addr)from z) (by simp);have n:∀z d,(xJ P w K mg base x y qual scope ca f cd A outer s H).env.cells.lookup z=some d->z=y/\d=ca:=λz d h=>by
  have h:([(y,ca)]:List (Str×Addr)).lookup z=some d:=h;rw[aoO]at h;split at h;.rename_i E;cases h;exact⟨eq_of_beq E,rfl⟩
  .cases h
 obtain⟨C,l,k⟩:=id t;have B:([(y,ca)]:List (Str×Addr)).lookup y=some ca:=by simp[List.lookup]
 refine⟨⟨e.mod,S.kind,rfl,rfl,aob _,λa b c j q=>(n a c j).1.trans (n b c q).1.symm,λz m=>?_,λz c h=>(by cases h),λz=>aq4.mp z,Around.frames_deeper e.frames,.inr ⟨rfl,rfl⟩,λb z=>absurd z<|g b,e.bs,e.bsz,λb _ _=>g b,λb z=>absurd z<|g b,e.nj,e.frf⟩,rfl,e.bare,Un.kept hk,⟨_,u,λi z v j q J=>?_⟩,λz c h=>?_,e.hok.fresh<|aob _,λz c h=>?_,λp I=>absurd (show p∈([]:List (Addr×Obj))from I) (by simp),e.hok.kept hk,rfl⟩
 .rcases m with m|m;.exact absurd rfl (S.nocell _<|aoM m)
  .rw[S.free z m];exact⟨ca,B⟩
 .have j:([x,y]:List Str)[i]?=some z:=j;rcases i with _|_|i;.cases j;cases q;exact⟨ux,D,.inl ⟨S.hx,by simp[List.lookup]⟩⟩
  .cases j;cases q;exact⟨uy,G,.inr ⟨.inr S.hy,ca,B,C,hk _ _ l,k⟩⟩
  .cases j
 .rw[(n z c h).2];exact⟨_,C,hk _ _ l,k⟩
 .rw[(n z c h).2];exact r
def acU{a:Arguments}{body:Expr}{C h:Value}{i:Addr}{t:TE}{Q:VK}(S:LamScope x y scope)(j:Env0 P w K mg base A outer s H)(N:s.heap.get? f=some (kla_obj "<lambda>" qual a body scope [(y,ca)] C i h))(p:s.heap.CodeRec (.ref i) qual)(d:A.depth<recursionLimit)(g:bindArgs (kla_fn "<lambda>" qual a body scope [(y,ca)] C (.ref i) h) ⟨[ux],[]⟩=pure [(x,ux)])(l:s.heap.IsCell ca (some uy))(m:H ca=none)(O:RelV vx ux)(G:RelV vy uy)(R:PE (xJ P w K mg base x y qual scope ca f (.ref i) A outer s H) body t)(ht:t [some vx,some vy] H Q):codeAny (model P w) A (.call (.ref f) ⟨[ux],[]⟩) (λr B=>∃u,r=.ok (.ret u)/\CE outer P w H s Q u B) s:=by refine kla_callFunE d N rfl S.co S.gen rfl p ?_;rw[g];refine an0 (wpAny_newFunctionEnv S.nocell (λz I=>by rw[aoK.mp I];exact S.hx) (λh₁ n k=>?_) S.kind);have c:∀b o,s.heap.get? b=some o->h₁.get? b=some o:=λb o e=>k.extBut b o (aoi<|an9 e)<|anZ _ e;refine⟨(j.mod.nolimit.keeps λb o e=>(j.bs b o e).1).keeps c,?_⟩;show codeAny _ _ (.expr body<|envX qual scope s.heap.objs.size f (.ref i) [(y,ca)]) _ _;refine kla_codeExpr (aoA (R [] _ _ H Q (afV S j n c l m O G) ht) (λu B D=>?_) λ_ _ z=>z.elim);obtain⟨v,M,J,E,q⟩:=D;exact⟨u,rfl,v,M,J.os,J.bare,J.base,J.hok,E,q⟩
end
section
variable{X:Cx}{pins:List (Addr×Obj)}{σ:St}{H:Hp}{s:Shared}{h':Heap}{kS:Addr}{m:Str->Option Value}
structure Rec(X:Cx)(pins:List (Addr×Obj))(k:Addr):Prop where
 s0:X.s₀.heap.get? k=none
 b0:X.base.get? k=none
 ne:k≠X.env.locals
 fs:k∉X.fs
 cl:∀x c,X.env.cells.lookup x=some c->c≠k
 pn:∀p∈X.pn++pins,p.1≠k
def Inv.aeU{o:Obj}{t':Tok}(I:Inv X pins σ H s)(R:Rec X pins kS)(hk:H kS=none)(j:s.heap.Ns X.env.locals m)(d:h'.Ns X.env.locals m)(keep:∀b u,b≠X.env.locals->b≠kS->s.heap.get? b=some u->h'.get? b=some u)(l:h'.get? kS=some o)(k:∀v,o.data≠.cell v):Inv X ((kS,o)::pins) σ H {s with heap:=h',toks:=t'}:=by
 have h:∀{b u},H b=some u->b≠kS:=λq z=>by rw[z,hk]at q;cases q
 have i:∀{b u},H b=some u->b≠X.env.locals:=λq z=>by rw[z,I.free]at q;cases q
 have J:Inv X pins σ H {s with heap:=h',toks:=t'}:=by
  refine I.n4 (g':=s.gens) (d':=s.drawn) (ch:=[kS]) (λb f=>by rw[aoK.mp f];exact⟨.inr R.s0,R.ne,R.cl,R.pn⟩) (λb o g _ e q n=>keep b o g (λz=>e<|by rw[z];exact ao6 _) q) (λb o g _ e q n=>⟨o.slots,keep b o g (λz=>e<|by rw[z];exact ao6 _) q⟩) (λb o _ q n=>n) (λb o e q=>?_) (λb p q=>q) (λb o u q=>q) (λb ps q=>⟨#[],by rw[q];simp⟩) (λw r=>?_) (λb u q=>?_) I.bare
  .by_cases f:b=X.env.locals;.obtain⟨t,_,_,z,_⟩:=d;rw[f];exact⟨t,z⟩
   .exact⟨o,keep b o f (λz=>e<|by rw[z];exact ao6 _) q⟩
  .rw[<-zo j r];exact d
  .refine(I.hok b u q).n5 (λc v a z=>keep c v ?_ ?_ z) (λc z=>z) λc p z=>z
   .rcases a with rfl|a;.exact i q
    .exact i a
   .rcases a with rfl|a;.exact h q
    .exact h a
 exact J.ad7 l hk R.ne R.fs k
def Inv.anM(I:Inv X pins σ H s){H':Hp}{s':Shared}(un:Un (frs X.stack) [] H H' s.heap s'.heap)(a:s.heap.Ns X.env.locals m):s'.heap.Ns X.env.locals m:=by obtain⟨o,d,c,b,r⟩:=a;obtain⟨e,z⟩:=un.any b I.free (by simp);exact⟨_,d,c,z,r⟩
def restOf(X:Cx)(s:Shared)(kS:Addr):List (Addr×Obj):=(gA X.base s.heap X.env.locals).filter λp=>p.1!=kS
def zz{b:Addr}{o:Obj}(a:b≠X.env.locals)(d:b≠kS)(e:X.base.get? b=none)(c:s.heap.get? b=some o):(b,o)∈restOf X s kS:=aoX.mpr ⟨eu a e c,by simpa using d⟩
def ji(I:Inv X pins σ H s):News X.base X.env.locals s.heap (restOf X s kS):=λp a=>(kn (g:=X.base) (h:=s.heap) (L:=X.env.locals)) p (aoX.mp a).1
def n9:∀p∈restOf X s kS,p.1≠kS:=λp a=>by have:=(aoX.mp a).2;simpa using this
def Inv.afR(I:Inv X pins σ H s)(F:Fr X.base X.env.locals h' m)(N:∀p∈restOf X s kS,h'.get? p.1=some p.2):∀b u,b≠X.env.locals->b≠kS->s.heap.get? b=some u->h'.get? b=some u:=λb o c a e=>by cases q:X.base.get? b with|some u=>have:=I.bk b u q;rw[e]at this;cases this;exact F.keep b _ q|none=>exact N (b,o)<|zz c a q e
end
abbrev anl(K:Frag)(H:Hp)(a:List V)(g:Nat->Int)(j:Nat):Prop:=adF K H a ((List.range j).map λi=>(g i,(i:Int)))
def adF.alJ{K:Frag}{H H':Hp}(e:aB H H'){vs ps}(h:adF K H vs ps):adF K H' vs ps:=Paired.imp' (λv q⟨x,b,a⟩=>⟨x,b,e.tup a⟩) h
theorem Paired.snoc{c d:Type}{R:c->d->Prop}:∀{e:List c}{bs:List d}{a b},Paired R e bs->R a b->Paired R (e++[a]) (bs++[b])|_,_,_,_,.nil,h=>.cons h .nil|_,_,_,_,.cons x t,h=>.cons x<|Paired.snoc t h
theorem Vals.snoc:∀{vs us v u},Vals vs us->RelV v u->Vals (vs++[v]) (us++[u])|_,_,_,_,.nil,h=>.cons h .nil|_,_,_,_,.cons x t,h=>.cons x<|Vals.snoc t h
def adG(X:Cx)(f l c:Addr)(h:Obj)(q:Str)(k:V)(g:Nat->Int)(n:Nat):Prop:=∀(s:Shared)(H:Hp)(j:Nat)(u e:Value),j<n->Env0 X.prog X.w X.K X.mg X.base X.A.in1.in1 X.stack s H->s.heap.get? f=some h->s.heap.CodeRec (.ref l) q->s.heap.IsCell c (some e)->H c=none->RelV k e->RelV (.int j) u->codeAny (model X.prog X.w) X.A.in1.in1 (.call (.ref f) ⟨[u],[]⟩) (λr i=>∃d,r=.ok (.ret d)/\CE X.stack X.prog X.w H s (λv b=>aB H b/\∃a,v=.ref a/\SqT X.K b a [.int<|g j,.int j]) d i) s
section
variable{X:Cx}{pins:List (Addr×Obj)}{σ:St}{H₀:Hp}{kS f c' ca:Addr}{m:Str->Option Value}{fo oc:Obj}{q y:Str}{vy:V}{g:Nat->Int}{n:Nat}
theorem vm{Fin:List Value->Nat->Shared->Prop}(R:Rec X pins kS)(hk:adG X f c' ca fo q vy g n)(T:(f,fo)∈pins)(hc:(c',oc)∈pins)(hq:∃l K,oc.data=.fields l/\l[1]?=some (.str q K))(N:X.env.cells.lookup y=some ca)(B:X.env.kindOf y=some .cell\/X.env.kindOf y=some .free){iy:Nat}(Y:X.N[iy]?=some y)(u:σ[iy]?=some (some vy))(hv:Vis X.env.scope y)(fin:∀(ks:List Value)(d:List V)(e:Nat)(s:Shared)(H:Hp),Inv X ((kS,seqObj "list" ks.toArray e)::pins) σ H s->s.heap.Ns X.env.locals m->aB H₀ H->Vals d ks->anl X.K H d g n->Fin ks e s):∀(rest:List Value)(j:Nat)(ks:List Value)(d:List V)(e:Nat)(s:Shared)(H:Hp),(∀(i:Nat)(v:Value),rest[i]?=some v->∃t,v=.int ((j+i:Nat):Int) t)->j+rest.length=n->Inv X ((kS,seqObj "list" ks.toArray e)::pins) σ H s->s.heap.Ns X.env.locals m->aB H₀ H->Vals d ks->anl X.K H d g j->KatKeys X.prog X.w X.A.in1.in1 X.base X.env.locals m kS (.ref f) Fin rest ks e s
|[],j,ks,d,e,s,H,_,hj,I,hn,sm,rv,pr=>by
 have:j=n:=by simpa using hj
 subst this;exact KatKeys.nil<|fin ks d e s H I hn sm rv pr|v::rest,j,ks,d,e,s,H,hr,hj,I,hn,sm,rv,pr=>by
  obtain⟨t,ev⟩:=hr 0 v rfl;have pf:=I.pin _<|aok _<|.tail _ T;have pc:=I.pin _<|aok _<|.tail _ hc;obtain⟨l,K,hd,D⟩:=hq;obtain⟨m',a1,hl⟩:=id I.loc;obtain⟨uy,ry,lk⟩:=hl iy y vy Y u hv;have h:s.heap.IsCell ca (some uy):=by
   rcases lk with⟨k,_⟩|⟨_,c,U,e2⟩;.rcases B with z|z<;>rw[z]at k<;>cases k
   .rw[N]at U;cases U;exact e2
  refine KatKeys.cons (apJ<|apA (hk s H j v uy (by simp at hj;omega) I.aiW.in1.in1 pf.1 ⟨c',oc,l,K,rfl,pc.1,hd,D⟩ h (I.freeC y ca N) ry ⟨t,by rw[ev];rfl⟩) λr s' P=>?_);obtain⟨u',rfl,w,H',os,A,un,M,O,x,a,ea,sq⟩:=P;subst ea;obtain⟨hh,S,dd,G,a0⟩:=s';obtain rfl:=os;have o:=I.call (ch:=[]) (g':=S) (t':=G) (d':=dd) un M A λb z=>absurd z (by simp);have C:=I.anM (s':=⟨hh,S,dd,G,s.os⟩) un hn;have pk:=o.agr;refine KatBack.intro (news:=(kS,seqObj "list" ks.toArray e)::restOf X ⟨hh,S,dd,G,s.os⟩ kS) ⟨C,o.bk,aoh I.ok.bsz I.ok.above⟩ (λp E=>?_) (.head n9) λh2 c2 Q Z=>?_
  .rcases an7.mp E with rfl|E;.exact⟨pk.1,R.ne,R.b0⟩
   .exact ji o p E
  .have kp:=o.afR (kS:=kS) Q λp E=>(Z p<|.tail _ E).1;have J:=o.pQ.aeU (t':=G) R pk.2.1 C Q.ns kp (Z _<|.head _).1 λv z=>by cases z
   refine vm R hk T hc ⟨l,K,hd,D⟩ N B Y u hv fin rest (j+1) (ks++[u']) (d++[.ref a]) c2 _ H' (λi v hi=>?_) (by simp at hj;omega) J Q.ns (sm.trans x) (Vals.snoc rv O) ?_;.obtain⟨t,e⟩:=hr (i+1) v (by simpa using hi);exact⟨t,by rw[e];congr 1;omega⟩
   .show adF X.K H' _ ((List.range<|j+1).map _);rw[List.range_succ,apg];exact Paired.snoc (adF.alJ x pr) ⟨a,rfl,sq⟩
end
section
variable{X:Cx}{pins:List (Addr×Obj)}{σ:St}{H:Hp}{s:Shared}{h':Heap}{D:Addr}{m:Str->Option Value}
def Inv.ag4{ys:List V}{d:List Value}{n:Nat}{t':Tok}(I:Inv X pins σ H s)(R:Rec X pins D)(r:H D=none)(k:s.heap.Ns X.env.locals m)(h:h'.Ns X.env.locals m)(keep:∀b u,b≠X.env.locals->b≠D->s.heap.get? b=some u->h'.get? b=some u)(l:h'.get? D=some (listOf d.toArray n))(t:Vals ys d)(hz:ys.length<=sizeLine):Inv X pins σ (upd H D<|.lst ys) {s with heap:=h',toks:=t'}:=by
 have a:∀{b u},H b=some u->b≠D:=λq z=>by rw[z,r]at q;cases q
 have j:∀{b u},H b=some u->b≠X.env.locals:=λq z=>by rw[z,I.free]at q;cases q
 refine I.n4 (g':=s.gens) (d':=s.drawn) (ch:=[D]) (λb e=>by rw[aoK.mp e];exact⟨.inr R.s0,R.ne,R.cl,R.pn⟩) (λb o i _ f q n=>keep b o i (λz=>f<|by rw[z];exact ao6 _) q) (λb o i _ f q n=>⟨o.slots,keep b o i (λz=>f<|by rw[z];exact ao6 _) q⟩) (λb o f q n=>?_) (λb o f q=>?_) (λb p q=>?_) (λb o u q=>?_) (λb ps q=>⟨#[],?_⟩) (λy w=>?_) (λb u q=>?_) I.bare;.rw[ai λz=>f<|by rw[z];exact ao6 _];exact n
 .by_cases e:b=X.env.locals;.obtain⟨x,_,_,z,_⟩:=h;rw[e];exact⟨x,z⟩
  .exact⟨o,keep b o e (λz=>f<|by rw[z];exact ao6 _) q⟩
 .rw[ai (a q)];exact q
 .rw[ai (a q)];exact q
 .rw[ai (a q),q];simp
 .rw[<-zo k w];exact h
 .by_cases e:b=D;.subst e;rw[aj]at q;cases q;exact⟨hz,d,n,t,l⟩
  .rw[ai e]at q;refine(I.hok b u q).n5 (λc v g z=>keep c v ?_ ?_ z) (λc z=>by rw[ai (a z)];exact z) λc p z=>by rw[ai (a z)];exact z
   .rcases g with rfl|g;.exact j q
    .exact j g
   .rcases g with rfl|g;.exact a q
    .exact a g
def Inv.amK(I:Inv X pins σ H s){k:Addr}(hk:s.heap.objs.size<=k)(a:X.base.get? k=none):Rec X pins k:=⟨aoG<|aoh I.sz hk,a,λz=>absurd I.lt (by rw[<-z];exact ao8 hk),I.agt hk,λx c e z=>by obtain⟨v,o,b,_⟩:=I.cell x c e;exact absurd (an9 b) (by rw[z];exact ao8 hk),λp d z=>absurd (an9 (I.pin p d).1)<|by rw[z];exact ao8 hk⟩
def ab2{a:List Value}{n:Nat}(f:a.length=n)(h:∀(i:Nat)(v:Value),a[i]?=some v->∃t,v=.int ((i:Nat):Int) t):Vals ((List.range n).map λi=>V.int (i:Nat)) a:=by
 have go:∀(b:List Value)(k:Nat),(∀(i:Nat)(v:Value),b[i]?=some v->∃t,v=.int ((k+i:Nat):Int) t)->Vals ((List.range' k b.length).map λi=>V.int (i:Nat)) b:=by intro b;induction b with|nil=>intro k _;exact .nil|cons u b ih=>
   intro k d;rw[aon,List.range'_succ,aor];refine .cons ?_ (ih (k+1) λi v c=>?_);.obtain⟨t,e⟩:=d 0 u rfl;exact⟨t,by simpa using e⟩
   .obtain⟨t,e⟩:=d (i+1) v (by simpa using c);exact⟨t,by rw[e];congr 1;omega⟩
 have:=go a 0 λi v c=>by obtain⟨t,e⟩:=h i v c;exact⟨t,by rw[e];congr 1;omega⟩
 rw[f]at this;rw[List.range_eq_range'];exact this
end
section
variable{X:Cx}{pins:List (Addr×Obj)}{σ:St}{H:Hp}{s:Shared}{f c' ca r:Addr}{fo oc:Obj}{q y:Str}{vy:V}{g:Nat->Int}{n:Nat}{Q:Value->Shared->Prop}{E:Value->Shared->Prop}
noncomputable abbrev y6(g:Nat->Int)(n:Nat):List (Int×Int):=(List.range n).map λi=>(g i,(i:Int))
def wz(I:Inv X pins σ H s)(a3:X.calm=true)(hr:H r=some (.rng 0 n))(h2:2<=n)(a6:n<64)(ok:WL.okT n (kas_sort n)=true)(hk:adG X f c' ca fo q vy g n)(hf:(f,fo)∈pins)(hc:(c',oc)∈pins)(hq:∃vs tq,oc.data=.fields vs/\vs[1]?=some (.str q tq))(hy:X.env.cells.lookup y=some ca)(a1:X.env.kindOf y=some .cell\/X.env.kindOf y=some .free){iy:Nat}(hN:X.N[iy]?=some y)(Y:σ[iy]?=some (some vy))(B:Vis X.env.scope y)(h:∀D Z s',s.heap.get? D=none->Z D=none->aB H Z->Inv X pins σ (upd Z D<|.lst<|(WL.ixs<|y6 g n).map λi=>((List.range n).map λi=>V.int (i:Nat)).getD i V.non) s'->Q (.ref D) s'):wpAny (model X.prog X.w) X.A (call (.builtin "sorted") [.ref r] [(Str.ofString "key",.ref f)]) Q E s:=by
 obtain⟨t,u,v,er⟩:=show cQ X.prog X.w H s.heap r (.rng 0 n)from I.hok r _ hr;obtain⟨m,hn,_⟩:=id I.loc;refine call_function_entry_kw kind_sorted plain_sorted entry_sorted (ksk_s1 _ _) ?_;unfold Builtin.«sorted»;refine anY (m:=checkCount "sorted" 1 1 _)<|an0 ?_;refine anY (tW (A:=X.A.in1) (n:=n) (I.ok.hd a3) er (small_one (by omega) (by omega) (by omega)<|by omega) (by rw[rangeSize_one];split<;>omega) (by omega) λk tk d e kp hS hi=>?_);have la:d.toList.length=n:=by simpa using hi.1
 have ia:∀(i:Nat)(v:Value),d.toList[i]?=some v->∃t,v=.int ((i:Nat):Int) t:=λi v B=>by obtain⟨t,e⟩:=hi.2 i v (by simpa using B);exact⟨t,by rw[e];congr 1;omega⟩
 refine anY (wpAny_newList ?_<|by rw[apM,la];omega);have c:s.heap.objs.size<k.objs.size:=an9 hS;have C:(k.push<|seqObj "list" d.toList.toArray 0).get? k.objs.size=some (seqObj "list" d.toList.toArray 0):=aoj _ rfl;have keep:∀b o,s.heap.get? b=some o->(k.push<|seqObj "list" d.toList.toArray 0).get? b=some o:=λb o z=>anZ _<|kp b o z;have F0:Fr X.base X.env.locals s.heap m:=⟨hn,I.bk,aoh I.ok.bsz I.ok.above⟩;have lz:X.base.objs.size<=k.objs.size:=aoh (aoh I.ok.bsz I.sz)<|ao9 c;refine anY<|aoV<|wpAny_call_entry_kw slot_list_sort ⟨_,C,rfl⟩ entry_list_sort ?body<|ksk_l1 _ _;case body=>
  show wpAny (model X.prog X.w) X.A.in1.in1 (Builtin.«list.sort» ⟨[.ref k.objs.size],[(Str.ofString "key",.ref f)]⟩) _ _ _;rw[ksk_t1];refine kat_keyed (h₀:=X.base) (L:=X.env.locals) (m:=m) (vs:=d.toList) (news:=gA X.base s.heap X.env.locals) (F0.kept keep) (kn.grown keep) C (λz=>absurd I.lt<|by rw[<-z];exact ao8<|ao9 c) (aoG lz) (λp a z=>absurd (an9 (kn p a).1)<|by rw[z];exact ao8<|ao9 c) (by omega) (by omega) λkS R S F' N' l0 l1=>?_;have nD:=N' _<|.tail _<|.head _;have nK:=N' _<|.head _;have P:∀b u,b≠X.env.locals->s.heap.get? b=some u->S.get? b=some u:=λb o hb e=>by cases z:X.base.get? b with|some u=>have:=I.bk b u z;rw[e]at this;cases this;exact F'.keep b _ z|none=>exact(N' (b,o)<|.tail _<|.tail _<|eu hb z e).1
  have w:s.heap.objs.size<=kS:=ao9<|Nat.lt_trans c l0;have N:Rec X pins k.objs.size:=I.amK (ao9 c) nD.2.2;have I1:=I.aeU (t':=tk) N (I.hok.fresh<|ao9 c) hn F'.ns (λb u hb _ e=>P b u hb e) nD.1 λv z=>by cases z
  have I2:=I1.ad7 (e:=kS) nK.1 (I.hok.fresh w) nK.2.1 (I.agt w) λv z=>by cases z
  have x:Rec X pins kS:=I.amK w nK.2.2;have RK:Rec X ((k.objs.size,seqObj "list" #[] R)::pins) kS:=⟨x.s0,x.b0,x.ne,x.fs,x.cl,λp a=>by
   rcases aoH.mp a with a|a;.exact x.pn p (aou _ a)
   .rcases an7.mp a with rfl|a;.exact aoi l0
    .exact x.pn p (aok _ a)⟩;refine vm (pins:=(k.objs.size,seqObj "list" #[] R)::pins) (H₀:=H) (n:=n) RK hk (.tail _ hf) (.tail _ hc) hq hy a1 hN Y B (λks kv e2 G H2 J K sm rv pr=>?_) d.toList 0 [] [] 0 _ H (λi v B=>by obtain⟨t,e⟩:=ia i v B;exact⟨t,by rw[e];congr 1;omega⟩) (by omega) I2 F'.ns (aB.refl _) .nil .nil;have T:=kF J pr rv;have a5:=T.len;have l:(y6 g n).length=n:=by simp[y6]
  have a4:WL.ixs (y6 g n)=(WL.ab1 (λi j=>WL.ltP ((y6 g n).getD i (0,0))<|(y6 g n).getD j (0,0))<|kas_sort n).toList:=by unfold WL.ixs;rw[l]
  obtain⟨fs,kt,fl,fi⟩:=T.kat;refine kat_kind (T:=.type "int") kt (by rw[fl,aos,apv];omega) (λv B=>?_) (by decide) ?_;.obtain⟨i,t,rfl⟩:=fi v B;exact .now
  .rw[la];show(kas_sort n).kasWp (kas_ask X.prog X.w X.A.in1.in1 (tuples' true) ks) _ G;refine kZ (ps:=y6 g n) T _ (by rw[l];exact ok) ?_;have pk:=J.agr;refine KatFin.intro (news:=(kS,seqObj "list" ks.toArray e2)::restOf X G kS) ⟨K,J.bk,aoh I.ok.bsz I.ok.above⟩ (λp a=>?_) (.head n9) λh3 c3 O N3=>?_
   .rcases an7.mp a with rfl|a;.exact⟨pk.1,RK.ne,RK.b0⟩
    .exact ji J p a
   .have a2:=J.afR (kS:=kS) O λp a=>(N3 p<|.tail _ a).1;have M:=(J.pQ.aeU (t':=G.toks) RK pk.2.1 K O.ns a2 (N3 _<|.head _).1 λv z=>by cases z).pQ;have pd:=M.agr;refine KasFin.intro (news:=(k.objs.size,seqObj "list" #[] R)::restOf X {G with heap:=h3} k.objs.size) O (λp a=>?_) (.head n9) λh4 c4 F4 N4=>?_
    .rcases an7.mp a with rfl|a;.exact⟨pd.1,N.ne,N.b0⟩
     .exact ji M p a
    .have U:=M.afR (kS:=k.objs.size) F4 λp a=>(N4 p<|.tail _ a).1;have J4:=M.pQ.ag4 (t':=G.toks) (ys:=(WL.ixs<|y6 g n).map λi=>((List.range n).map λi=>V.int (i:Nat)).getD i V.non) N pd.2.1 O.ns F4.ns U (N4 _<|.head _).1 (by rw[a4];exact rQ _<|ab2 la ia) (by
      have a0:(WL.ixs<|y6 g n).length=(y6 g n).length:=by unfold WL.ixs;rw[aqb];exact k6 _ (by rw[l];exact ok)
      rw[aos,a0,l,apM];omega);exact⟨_,rfl,an0 ⟨_,rfl,h _ H2 _ (aoG<|ao9 c) pd.2.1 sm J4⟩⟩
end
abbrev ysG(g:Nat->Int)(n:Nat):List V:=(WL.ixs<|y6 g n).map λi=>((List.range n).map λi=>V.int (i:Nat)).getD i V.non
section
variable{X:Cx}{c P ca:Addr}{y qual:Str}{iy:Nat}{ps:Array Value}{params:Arguments}{body a:Expr}{scope:Scope}{ta:TA}{lpos kp p p' pos pos':Pos}{t:Tok}
def adV(X:Cx)(P ca:Addr)(iy:Nat)(ps:Array Value)(y qual:Str)(params:Arguments)(body:Expr)(scope:Scope)(σ:St)(Q:VK)(v:V)(d:Hp):Prop:=∃r n g i,v=.ref r/\d r=some (.rng 0 (n:Nat))/\2<=n/\n<64/\WL.okT n (kas_sort n)=true/\d P=some (.tab ps)/\σ[iy]?=some (some i)/\(∀f b e,adG X f b ca (acV X qual params body scope [(y,ca)] b e) qual i g n)/\∀D b h,d D=none->D≠P->D≠b->b≠P->d b=none\/d b=some (.own P)->h D=none->aB (del (del d P) b) h->Q (.ref D) (upd (upd (upd h D<|.lst<|ysG g n) P<|.tab ps) b<|.own P)
def ahb(X:Cx)(P ca:Addr)(iy:Nat)(ps:Array Value)(y qual:Str)(params:Arguments)(body:Expr)(scope:Scope)(ta:TA):TE:=λb H Q=>yx ta b H<|adV X P ca iy ps y qual params body scope b Q
def acg(Y:X.calm=true)(hg:Gl X "sorted")(hm:X.mg "sorted"=none)(S:Gl X "range")(O:X.mg "range"=none)(ha:PA X [a] ta)(L:Lm X c P)(h0:X.H₀ P≠none)(m:ps=#[rawInt lpos.line,rawInt lpos.col,.str qual t])(N:closureFor scope X.env=pure [(y,ca)])(hq:X.env.qual++"<lambda>"=qual)(k:defaultsOf params X.env=([],[]))(hy:X.env.cells.lookup y=some ca)(U:X.env.kindOf y=some .cell\/X.env.kindOf y=some .free)(hN:X.N[iy]?=some y)(hv:Vis X.env.scope y)(hs:starEach [a] X.env=[(false,eval a X.env)]:=by rfl)(M:SE X (.Call (.Name "range" p') [a] [] pos') []:=by rfl)(R:BT X pos []:=by rfl):PE X (.Call (.Name "sorted" p) [.Call (.Name "range" p') [a] [] pos'] [⟨some<|Str.ofString "key",.Lambda params body scope lpos,kp⟩] pos) (ahb X P ca iy ps y qual params body scope ta):=by intro l s σ H Q I h;have hR:=aU (zf S O ha hs (p:=p') (pos:=pos')) bY M;refine apB (g0 I hg hm boot_sorted (callWith_kw (thn (hR pos l s σ H (λE j=>match E with|[v]=>adV X P ca iy ps y qual params body scope σ Q v j|_=>False) I h) λus s1 z=>?_) (by rw[M];rfl)<|by rw[M];exact R) (by decide)<|by decide);obtain⟨E,j,I1,C,q1⟩:=z;match E,C,q1 with
|[v],C,q1=>
  obtain⟨r,n,g,vy,rfl,A,h2,T,ok,hP,G,hk,q⟩:=q1;obtain⟨u,rfl,ru⟩:=C.one;cases show u=Value.ref r from ru;refine kws_cons (acT I1 L hP m N hq k λf x oc B s2 b=>kws_nil ?_);have cH:del (del j P) x r=some (.rng 0 n):=by rw[dQ (λz=>by rcases b.own with w|w<;>rw[<-z,A]at w<;>cases w),dQ λz=>by rw[z,hP]at A;cases A];exact A
  obtain⟨a0,tq,hd,Z⟩:=b.cod;show wpAny (model X.prog X.w) X.A (call (.builtin "sorted") [.ref r] [(Str.ofString "key",.ref f)]) _ _ s2;refine wz b.inv Y cH h2 T ok (hk f x B) (.tail _<|.tail _<|.head _) (.tail _<|.head _) b.cod hy U hN G hv λD H' s' d hD sm J=>?_;have pP:=b.inv.agr;have pC:=b.inv.amQ;have dP:D≠P:=λz=>by rw[z,pP.1]at d;cases d
  have dC:D≠x:=λz=>by rw[z,pC.1]at d;cases d
  have dH:j D=none:=by cases e:j D with|none=>rfl|some o=>obtain⟨o',e'⟩:=(b.inv.hok D o<|by rw[dQ dC,dQ dP];exact e).some;rw[d]at e';cases e'
  have K:=(J.akW b.ne h0 b.old (λp i=>?_) (by rw[m];rfl) hd Z).pQ;.exact⟨.ref D,_,K,rfl,q D x H' dH dP dC b.ne b.own hD sm⟩
  .rcases aoH.mp i with i|i;.have:=b.pn p<|aou _ i;exact⟨this.1,this.2.1⟩
   .rcases an7.mp i with rfl|i;.exact b.fne
    .have:=b.pn p<|aok _ i;exact⟨this.1,this.2.1⟩
end
end L2
namespace WS
open PySem PySem.Spec PySem.Calls PyProof.Rows PySem.W L2
open WL(Res Sl Ws EF TF AF LF GF GsF SF Out OX RF Tw)
def ah9{f:List VW->Res VW}{z c:Int}{n j:Nat}(h:WL.okK f z c n=true)(a:j<n):f [.int z,.int<|c+j]=.ok (.int<|WL.gK f z c j):=by have:=aoD.mp h j<|aoc.mpr a;unfold WL.gK;cases e:f [.int z,.int<|c+j]with
|ok w=>rw[e]at this;cases w<;>first|rfl|cases this
|_=>rw[e]at this;cases this
def aiX{f:List VW->Res VW}{z c:Int}{n j:Nat}(h:WL.okK f z c n=true)(a:j<n):WL.ebK f c [.va<|.int j,.va<|.int z]=.ok (.tup [.int<|WL.gK f z c j,.int j]):=by have e:=ah9 h a;simp[WL.ebK,e]
section
variable{X:Cx}{x y qual:Str}{scope:Scope}{params:Arguments}{body:Expr}{ca:Addr}{k n:Nat}{fn:List VW->Res VW}{z c:Int}
def aiw(Q:Room (k+3) X.A)(S:LamScope x y scope)(P:∀{A b s H f i B},B.K=X.K->Room k (A.deeper<|envX qual scope s.heap.objs.size f i [(y,ca)])->PE (xJ X.prog X.w X.K X.mg X.base x y qual scope ca f i A b s H) body (lo B<|WL.ebK fn c))(g:∀J i d u,bindArgs (kla_fn "<lambda>" qual params body scope [(y,ca)] J i d) ⟨[u],[]⟩=pure [(x,u)])(l:WL.okK fn z c n=true)(f r:Addr)(d:Value):adG X f r ca (acV X qual params body scope [(y,ca)] r d) qual (.int z) (WL.gK fn z c) n:=by
 intro s H j u Y C w K p e m G M;have q:=Q.in1.in1;refine acU S w K p q.depth (g _ _ _ _) e m M G (P (B:=⟨X.K,H,λ_=>none,λ_ _ _=>False,λ_ _ _ _ _ h=>h⟩) rfl<|q.deeper _) ⟨[.va<|.int j,.va<|.int z],λ_=>none,?_,?_⟩;.exact RS.start (N:=[x,y]) (ws:=[.int j,.int z]) (vs:=[.int j,.int z]) (λa o h=>nomatch h) ⟨_,_,rfl,rfl,_,_,rfl,rfl,rfl⟩ (aob _)
 .rw[aiX l C];intro v T U O I t;refine⟨I.h,?_⟩;obtain⟨a,vs,rfl,R,rs⟩:=t;obtain⟨v1,v2,rfl,E,D⟩:=two_of rs;cases E;cases D;exact⟨a,rfl,O.rb.sub.tup R⟩
end
section
variable{X:Cx}{B:Bx}{x y qual:Str}{scope:Scope}{params:Arguments}{body:Expr}{ca P cc:Addr}{k n iy:Nat}{fn:List VW->Res VW}{c:Int}{ps:Array Value}{t:Tok}{lpos kp p p' pos pos' np:Pos}{ck:Nat}
def ac0{K:Frag}{F:Hp}{g:Nat->Int}{n:Nat}:RWs K F (WL.ajT g n) (ysG g n):=by
 unfold WL.ajT ysG;refine yP _ ?_;have h:∀l:List Nat,RWs K F (l.map λi=>WL.W.int (i:Nat)) (l.map λi=>V.int (i:Nat)):=λl=>by induction l with|nil=>rfl|cons a l ih=>exact⟨_,_,rfl,rfl,ih⟩
 exact h _
set_option tactic.hygienic true in
def abG(hB:B.K=X.K)(b0:X.calm=true)(hr:Room (k+3) X.A)(hT:B.H0 P=some (.tab ps))(h0:X.H₀ P≠none)(L:Lm X cc P)(a6:ps=#[rawInt lpos.line,rawInt lpos.col,.str qual t])(hm:X.mg "sorted"=none)(a4:X.mg "range"=none)(S:LamScope x y scope)(a3:closureFor scope X.env=pure [(y,ca)])(hq:X.env.qual++"<lambda>"=qual)(M:defaultsOf params X.env=([],[]))(hy:X.env.cells.lookup y=some ca)(a9:X.env.kindOf y=some .cell\/X.env.kindOf y=some .free)(hN:X.N[iy]?=some y)(hv:Vis X.env.scope y)(m:∀{A C s H f Y B},B.K=X.K->Room k (A.deeper<|envX qual scope s.heap.objs.size f Y [(y,ca)])->PE (xJ X.prog X.w X.K X.mg X.base x y qual scope ca f Y A C s H) body (lo B<|WL.ebK fn c))(E:∀pm Y a0 u,bindArgs (kla_fn "<lambda>" qual params body scope [(y,ca)] pm Y a0) ⟨[u],[]⟩=pure [(x,u)])(h2:2<=n)(a8:n<64)(hg:Gl X "sorted":=by rfl)(a7:Gl X "range":=by rfl)(hs:starEach [.Constant (.int (n:Nat)) ck np] X.env=[(false,eval (.Constant (.int (n:Nat)) ck np) X.env)]:=by rfl)(a2:SE X (.Constant (.int (n:Nat)) ck np) []:=by rfl)(he:SE X (.Call (.Name "range" p') [.Constant (.int (n:Nat)) ck np] [] pos') []:=by rfl)(a5:BT X pos []:=by rfl):PE X (.Call (.Name "sorted" p) [.Call (.Name "range" p') [.Constant (.int (n:Nat)) ck np] [] pos'] [⟨some<|Str.ofString "key",.Lambda params body scope lpos,kp⟩] pos) (lo B<|WL.nu fn n c<|WL.ah iy):=by refine PE.imp (acg b0 hg hm a7 a4 (ae (B:=B) (af (i:=(n:Nat))) aM a2) L h0 a6 a3 hq M hy a9 hN hv hs he a5) λJ H Q a1=>?_;obtain⟨σ,F,R,q⟩:=a1;show yx _ J H _;refine⟨σ,F,R,?_⟩;show∀vs H' F',RS B σ J F' H'->Gr F H F' H'->RWs B.K F' [.int (n:Nat)] vs->_;intro vs U O h g1 r1;obtain⟨v,rfl,rv⟩:=eJ r1;cases rv;refine⟨n,rfl,by omega,by omega,λr N=>?_⟩;unfold WL.nu at q;replace q:=Rq.bind q;cases d:WL.ah iy σ with|bad=>rw[d]at q;exact q.elim|ex z=>unfold WL.ah at d;split at d<;>cases d|ok w=>
  rw[d]at q;replace q:Rq B σ F (WL.aeX fn n c w) _:=q;unfold WL.aeX at q;split at q
  .rename_i z;split at q
   .rename_i l;rw[aoo]at l;have sv:J[iy]?=some (some<|.int z):=by
     unfold WL.ah at d;split at d;.rename_i w' e;cases d;obtain⟨v,e1,e2⟩:=R.va iy _ e;cases e2;exact e1
     .cases d
    have g:U P=some (.tab ps):=h.rb.base _ _ hT;have rP:P≠r:=λz=>by rw[z,N]at g;cases g
    refine⟨r,n,WL.gK fn z c,.int z,rfl,aj,h2,a8,l.2,by rw[ai rP];exact g,sv,aiw hr S m E l.1,λD K Z I d2 d3 d4 T d6 d7=>?_⟩;have dr:D≠r:=λz=>by rw[z,aj]at I;cases I
    rw[ai dr]at I;have sm:aB U (upd (upd (upd Z D<|.lst<|ysG (WL.gK fn z c) n) P<|.tab ps) K<|.own P):=λb u e=>by
     have j:upd U r (.rng 0 (n:Nat)) b=some u:=av N _ b u e;by_cases b1:b=K
     .subst b1;rw[aj];rcases T with T|T;.rw[T]at j;cases j
      .rw[T]at j;exact j
     .rw[ai b1];by_cases b2:b=P;.subst b2;rw[aj];rw[g]at e;exact e
      .rw[ai b2,ai λz=>by rw[z,I]at e;cases e];exact d7 b u (by rw[dQ b1,dQ b2];exact j)
    have sF:aB O (upd O D<|.lst<|ysG (WL.gK fn z c) n):=av (h.rb.sub.free I) _;have hD:upd (upd (upd Z D<|.lst<|ysG (WL.gK fn z c) n) P<|.tab ps) K (.own P) D=some (.lst<|ysG (WL.gK fn z c) n):=by rw[ai d3,ai d2,aj]
    have G:Gr O U (upd O D<|.lst<|ysG (WL.gK fn z c) n) (upd (upd (upd Z D<|.lst<|ysG (WL.gK fn z c) n) P<|.tab ps) K<|.own P):=⟨sF,sm,λa o e j=>by rw[ai λz=>by rw[z,I]at e;cases e];exact j⟩;have rb:RB B (upd O D<|.lst<|ysG (WL.gK fn z c) n) (upd (upd (upd Z D<|.lst<|ysG (WL.gK fn z c) n) P<|.tab ps) K<|.own P):=⟨λb u e=>by
      by_cases m:b=D;.subst m;rw[aj]at e;rw[hD];exact e
      .rw[ai m]at e;exact sm b u<|h.rb.sub b u e,h.rb.base.trans sm,h.rb.fz0.trans sF,λa o e=>by
      by_cases m:a=D;.subst m;rw[aj]at e;cases e;exact .inr ⟨h.rb.base.free I,trivial⟩
      .rw[ai m]at e;exact h.rb.fr a o e⟩;exact q (.ref D) _ _ (h.grow G rb) (g1.trans G) ⟨D,_,rfl,.inl<|.inl aj,ac0⟩
   .exact q.elim
  .exact q.elim
end
def aeW(P:Addr)(b:Array Value)(sp:Sp):Sp:=λa H Q E=>H P=some (.tab b)/\sp a H Q E
def BmA(mg:Str->Option Value)(a:Heap):Prop:=∃b ob,mg "__builtins__"=some (.ref b)/\b≠builtinsNs/\a.get? b=some ob/\ob.cls=.type "module"/\ob.dict=some builtinsNs/\ob.data=.plain
section
variable{P:Program}{w:World}{K:W.Frag}{mg:Str->Option Value}{base:Heap}{Pt:Addr}{tp:Array Value}
def vF{x a st f j N ps k m n}{M:List VW->Res VW}(t)(Z:Fun K x a st f j)(S:FnScope N ps (ak st))(hn:N.length=n)(g:ps.length=m)(o:WL.run n t=M)(O:ps.length<=N.length)(h:∀d A b s H E B,j.code=d->H Pt=some (.tab tp)->B.H0 Pt=some (.tab tp)->B.K=K->Room k (A.deeper<|envOfC a (ak st) s.heap.objs.size f d)->XW (iu CX0 P w K mg base N a (ak st) f d A b s H E).nox B->PassesOwn (model P w) (A.deeper<|envOfC a (ak st) s.heap.objs.size f d) (envOfC a (ak st) s.heap.objs.size f d) (λ_ _=>False)->PSs (iu CX0 P w K mg base N a (ak st) f d A b s H E).nox (aZ st) (loS B t)):FnOk P w K mg base CX0 (k+1) f j ps (aeW Pt tp<|spW K m M):=by subst hn g o;refine agC Z.ex λoc od kV a0 pm an d ct T p X D=>?_;subst p;refine ada X D S (λU H Q E i=>by obtain⟨_,F,ws,_,r,G,_⟩:=i;rw[<-r.length];exact G) λA b s H U Q E hr _ i=>?_;obtain⟨J,F,ws,Y,r,G,g⟩:=i;refine⟨_,(h d A b s H E ⟨K,H,F,λ_ _ _=>False,λ_ _ _ _ _ h=>h⟩ rfl J J rfl hr (nJ λ_ _ _ z=>z) PassesOwn.never).nox,_,F,RS.start Y r (by omega),?_⟩;unfold WL.run at g;cases e:t _ with|rt w=>rw[e]at g;exact λv q y u l C=>g v q y l u.sub u.base u.fr C|nx σ'=>rw[e]at g;exact λI q y R l=>g .non q y l R.rb.sub R.rb.base R.rb.fr rfl|_=>rw[e]at g;exact g.elim
section
variable{X:Cx}{B:Bx}{j k n:Nat}{x:Str}{p pos:Pos}{ps:List Str}{ds:List Value}{fn:List VW->Res VW}{e:Expr}{es:List Expr}{tas:AF}
def clT(A:B.K=X.K)(M:Room j X.A)(E:B.H0 Pt=some (.tab tp))(C:Cal X.prog X.w X.K X.mg X.base CX0 k x ps ds (aeW Pt tp<|spW X.K n fn))(t:PA X (e::es) (loA B tas))(hk:k<=j:=by decide)(s:∀h ws,tas h=.ok ws->ws.length=n:=by repeat first|exact i2|apply de)(u:Gl X x:=by rfl)(l:Dbg x:=by decide)(v:SE X e es:=by rfl)(a:BT X pos es:=by rfl):PE X (.Call (.Name x p) (e::es) [] pos) (lo B<|WL.ax fn tas):=by obtain⟨f,N,G,m,q,b,_⟩:=C;refine PE.imp (se G (M.mono hk) u m q b .nil afv t l v a) λi H Q d=>?_;obtain⟨h,F,R,z⟩:=zN A.symm s i H Q d;exact⟨h,F,R,z.mono (aB.refl _) λws y J D I o g r=>⟨o.rb.base _ _ E,y J D I o g r⟩⟩
end
def kX(Pt:Addr)(tp:Array Value)(K:W.Frag):Sp:=λe H Q _=>∃(a:Addr)(b:List Int),e=[.ref a]/\SqL K H a (b.map V.int)/\b.length<=63/\H Pt=some (.tab tp)/\∀d,aB H d->Q (.bl true) d
def afN{k f i ps g}(G:FnOk P w K mg base CX0 k f i ps (aeW Pt tp<|spW K 1 g))(h:∀d:List Int,d.length<=63->g [.lst<|d.map .int]=.ok (.bl true)):FnOk P w K mg base CX0 k f i ps (kX Pt tp K):=G.imp λs H Q E b=>by obtain⟨a,d,e,n,j,m,q⟩:=b;subst e;refine⟨m,H,[.lst _],aB.refl _,.one (by exact⟨a,_,rfl,n,RWs.ints _⟩),rfl,?_⟩;rw[h _ j];exact λv l p _ _ o _ r=>by cases r;exact q l o
end
end WS
namespace WS
open PySem PySem.Spec PySem.Calls PyProof.Rows PySem.W L2
section
variable{P:Program}{w:World}{K:W.Frag}{mg mb:Str->Option Value}{Pt c fa a:Addr}{tp:Array Value}{k:Nat}{fd:FuncData}{x:Str}{s₁:Shared}{vs:List Value}{ns:List Int}
abbrev ajg(s₁:Shared)(r:Result)(s':Shared):Prop:=r=.ok (.ret<|.bool true)/\OldK s₁.heap s'.heap/\s'.os=s₁.os/\AllBare s'.gens
def qJ(KX:K.In s₁.heap)(E:s₁.heap.Ns mainGlobals mg)(A:s₁.heap.Ns builtinsNs mb)(Z:∀x:Str,x≠"__name__"->mb x=bootBuiltins x)(G:s₁.heap.NoLimit)(hg:s₁.gens=#[])(hr:Room k callerA)(S:BmA mg s₁.heap)(hC:CodeHd s₁.heap c Pt)(i:s₁.heap.get? Pt=some (tabObj #[]))(hK:noTabs K=true)(F:∀g,K.In g->g.Ns mainGlobals mg->BmA mg g->CodeHd g c Pt->FnOk P w K mg g CX0 k fa fd [x] (kX Pt tp K))(p:∀s u,BindsTo s fd ⟨[u],[]⟩ [(x,u)])(H:Hp)(hP:H Pt=some (.tab tp))(X:∀b,b≠Pt->H b=none\/∃o xs,H b=some (.frz o<|.lst xs)/\s₁.heap.get? b=some o/\(∃f n,o.data=.seq f n)/\K.lookup b=none)(hS:SqL K H a (ns.map V.int))(R:HOk P w H s₁.heap)(hl:ns.length<=63):codeAny (model P w) callerA (.call (.ref fa) ⟨[.ref a],[]⟩) (ajg s₁) s₁:=by
 have kP:K.lookup Pt=none:=by cases e:K.lookup Pt with|none=>rfl|some o=>have C:=KX Pt o e;rw[i]at C;cases C;have:=aoD.mp hK _<|mem_of_lookupK e;exact absurd this (by simp)
 have free:∀{b:Addr}{o:Obj},s₁.heap.get? b=some o->b≠Pt->(∀f n,o.data≠.seq f n)->H b=none:=λ{b o}e n d=>by
  rcases X b n with z|⟨o',xs,z,B,⟨f,m,d'⟩,_⟩;.exact z
  .rw[e]at B;cases B;exact absurd d'<|d f m
 have q:∀{b:Addr}{o:Obj},s₁.heap.get? b=some o->(∀v,o.data=.fields v->o.cls≠.none)->b≠Pt:=λ{b o}e d z=>by rw[z,i]at e;cases e;exact d _ rfl rfl
 have get:∀{b:Addr}{o:Obj},s₁.heap.get? b=some o->b≠Pt->(∀f n,o.data≠.seq f n)->(aak s₁.heap H).get? b=some o:=λe n d=>vv e<|free e n d;have j:∀{b:Addr}{m:Str->Option Value},s₁.heap.Ns b m->(aak s₁.heap H).Ns b m:=λ{b m}⟨o,es,ep,e,d,r⟩=>⟨o,es,ep,get e (q e λv z=>by rw[d]at z;cases z) (λf n z=>by rw[d]at z;cases z),d,r⟩;have J:K.In (aak s₁.heap H):=λb o e=>vv (KX b o e) (by
 rcases X b (λz=>by rw[z,kP]at e;cases e)with z|⟨_,_,_,_,_,z⟩;.exact z
 .rw[z]at e;cases e);have hM:Mod K mg (aak s₁.heap H):=⟨J,j E,⟨mb,j A,Z⟩,let⟨mc,h1,h2⟩:=G;⟨mc,j h1,h2⟩⟩;have hB:BmA mg (aak s₁.heap H):=by obtain⟨bm,ob,b1,b2,b3,b4,b5,U⟩:=S;exact⟨bm,ob,b1,b2,get b3 (q b3 λv z=>by rw[U]at z;cases z) (λf n z=>by rw[U]at z;cases z),b4,b5,U⟩
 have Y:CodeHd (aak s₁.heap H) c Pt:=by obtain⟨o,vs,D,tf,t,tg,O,M,tt,C,N,e3,r⟩:=hC;exact⟨o,vs,D,tf,t,tg,O,M,tt,get C (q C λv _ z=>by rw[N]at z;cases z) (λf n z=>by rw[e3]at z;cases z),N,e3,r⟩
 have e0:Env0 P w K mg (aak s₁.heap H) callerA [] s₁ H:=⟨rfl,hM,λb o e=>afB e,Nat.le_of_eq<|aaj _ _,trivial,λb A=>absurd (show b∈([]:List Addr)from A) (by simp),R,.of_eq hg⟩;refine apA ((F _ J (j E) hB Y).run callerA [] s₁ H ⟨[.ref a],[]⟩ [.ref a] [.ref a] (λv T=>v=.bl true/\T Pt=some (.tab tp)) (λ_ _ _=>False) hr trivial e0 (p s₁<|.ref a) (.cons rfl .nil) ⟨a,ns,rfl,hS,hl,hP,λT sm=>⟨rfl,sm _ _ hP⟩⟩) λr s' h=>?_;cases r with|error e=>exact False.elim h|ok fl=>cases fl with|next|brk|cont=>exact False.elim h|ret u=>
   obtain⟨v,T,os,I,un,l,r',q1,q2⟩:=h;subst q1;obtain rfl:u=Value.bool true:=r';have Q:∀b o,s₁.heap.get? b=some o->asItWas s₁.heap s'.heap b o:=λb o e=>by
    by_cases A:b=Pt
    .subst A;rw[i]at e;cases e;rcases l _ _ q2 with z|⟨_,_,_,_,_,z,_⟩;.exact .inl z
     .exact .inr (.inl ⟨(hC.tab i).isCodeTable,rfl,#[],_,rfl,by rw[Array.empty_append];exact z⟩)
    .rcases X b A with z|⟨o',xs,z,B,_⟩;.exact .inl (un.keep b o e z (by intro y;exact absurd (show b∈([]:List Addr)from y)<|by simp)<|by simp)
     .have z2:=un.frzs b o' _ z;obtain⟨N,_⟩:=l b _ z2;rw[e]at B;cases B;exact .inl N
   refine⟨rfl,⟨Q,λb o e=>un.there b o e<|by simp⟩,os,I⟩
def zQ(B:K.In s₁.heap)(t:s₁.heap.Ns mainGlobals mg)(f:s₁.heap.Ns builtinsNs mb)(q:∀x:Str,x≠"__name__"->mb x=bootBuiltins x)(j:s₁.heap.NoLimit)(H:s₁.gens=#[])(m:s₁.heap.get? a=some {cls:=.type "list",data:=.seq vs.toArray})(D:IntsAre vs ns)(v:ns.length<=63)(I:Room k callerA)(r:BmA mg s₁.heap)(C:CodeHd s₁.heap c Pt)(g:s₁.heap.get? Pt=some (tabObj #[]))(hK:noTabs K=true)(F:∀d,K.In d->d.Ns mainGlobals mg->BmA mg d->CodeHd d c Pt->FnOk P w K mg d CX0 k fa fd [x] (kX Pt tp K))(h:∀s u,BindsTo s fd ⟨[u],[]⟩ [(x,u)]):codeAny (model P w) callerA (.call (.ref fa) ⟨[.ref a],[]⟩) (ajg s₁) s₁:=by
 have G:=pM D;have p:=D.length;have E:a≠Pt:=λz=>by rw[z,g]at m;cases m
 cases y:K.lookup a with|some o=>
  have e:=B a o y;rw[m]at e;cases e;refine qJ B t f q j H I r C g hK F h (λb=>if b=Pt then some (.tab tp)else none) (an4 rfl) (λb n=>.inl<|an5 n) (.inr ⟨_,vs.toArray,_,y,rfl,rfl,rfl,by rw[aoQ,p];exact aoh v (by decide),by simpa using G⟩) (λb u z=>?_) v;by_cases f:b=Pt;.have i:=(an4 f).symm.trans z;cases i;subst f;exact .inl g
  .have i:=(an5 f).symm.trans z;cases i|none=>
  refine qJ B t f q j H I r C g hK F h (λb=>if b=Pt then some (.tab tp)else if b=a then some (.frz {cls:=.type "list",data:=.seq vs.toArray} (.lst<|ns.map V.int))else none) (an4 rfl) (λb n=>?_) (.inl<|.inr ⟨{cls:=.type "list",data:=.seq vs.toArray},by simp[E]⟩) (λb u z=>?_) v
  .by_cases f:b=a;.exact .inr ⟨{cls:=.type "list",data:=.seq vs.toArray},ns.map V.int,by simp[f,E],by rw[f];exact m,⟨_,_,rfl⟩,by rw[f];exact y⟩
   .exact .inl (by simp[n,f])
  .by_cases f:b=Pt;.have i:=(an4 f).symm.trans z;cases i;subst f;exact .inl g
   .have i:=(an5 f).symm.trans z;by_cases l:b=a;.have A:=(an4 l).symm.trans i;cases A;subst l;exact⟨m,by rw[aos];exact aoh v (by decide),vs,_,G,m⟩
    .have A:=(an5 l).symm.trans i;cases A
end
def abL{l:W.OpenLaw}{k q g O z d}{K:Params->W.Frag}{x:Str}{c n:Addr}{N:Array Value}(M:l.most=some 63)(y:d.params.defaults=[])(R:Room k callerA)(I:∀w h,z w h->(K w.params).In h)(hYt:∀w h,z w h->h.get? n=some (tabObj #[]))(hK:∀w:World,noTabs (K w.params)=true)(D:∀w:World,codeHdIn (K w.params) c n=true)(F:∀(w:World)e p h,(K w.params).In h->h.Ns mainGlobals e->e d.name=some (.ref p)->∃t,(∀s u,BindsTo s t ⟨[u],[]⟩ [(x,u)])/\∀b,(K w.params).In b->b.Ns mainGlobals e->BmA e b->CodeHd b c n->FnOk l.prog w (K w.params) e b CX0 k p t [x] (kX n N<|K w.params)):W.WalkO q g O z l.row.toRowW d [] λf A=>PySem.call f A:=by refine Att.t7 M y λw C B e U p o Z X J a A T G Y ho S P r j i m H=>?_;have v:=I w _ Y;obtain⟨t,Q,E⟩:=F w e p _ v G.T.g r;exact zQ v G.T.g G.T.b G.T.builtins G.T.nolimit H j i m R G.T.bmain (codeHd_of_K v<|D w) (hYt w _ Y) (hK w) E Q
end WS
namespace WS
open PySem PySem.Spec PySem.Calls PyProof.Rows PySem.W L2
open WL(Res Sl Ws EF TF AF LF GF GsF SF Out OX RF Tw)
set_option tactic.hygienic true in
def abQ{K:Frag}{nm:Str}{c g f:Addr}{h:Value}{od:Option Addr}{d:FuncData}{b:Array (Option Value)}(ht:tabIn K nm=some (c,g))(a:nsIn K mainGlobals nm=some (some<|.ref f))(l:K.lookup f=some ⟨h,od,.func d,b⟩):d.code=.ref c:=by
 unfold tabIn at ht;simp only[a,l]at ht;split at ht
 .rename_i i e;split at ht
  .split at ht;.cases ht;exact e
   .cases ht
  .cases ht
 .cases ht
def zT{x y:Str}{a:Scope}(c:a.kind=.function)(k:a.isCoroutine=false)(g:a.isGenerator=false)(f:x≠y)(i:a.names.lookup x=some .local)(d:a.names.lookup y=some .free)(e:(a.names.all λp=>p.2!=.cell&&(p.2!=.free||p.1==y))=true):LamScope x y a:=by
 have h:∀p∈a.names,p.2≠.cell/\(p.2=.free->p.1=y):=λp b=>by
  have:=aoD.mp e p b;rw[aoo]at this;refine⟨λz=>?_,λz=>?_⟩;.rw[z]at this;exact absurd this.1 (by decide)
  .rw[z]at this;have:=this.2;simpa using this
 exact⟨c,k,g,f,i,d,λp b=>(h p b).1,λz j=>(h _<|aoM j).2 rfl⟩
section
variable{P:Program}{w:World}{K:W.Frag}{mg:Str->Option Value}{base:Heap}{Pt c:Addr}{tp:Array Value}{nm:Str}{st:Stmt}{N ps:List Str}{k m n:Nat}{fn:List VW->Res VW}
def AtD.dTb(D:AtD K nm st)(q:MgA K mg)(ht:tabIn K nm=some (c,Pt))(t)(S:FnScope N ps (ak st))(h:∀{f A b s H E B},H Pt=some (.tab tp)->B.H0 Pt=some (.tab tp)->B.K=K->Room k (A.deeper<|envOfC nm (ak st) s.heap.objs.size f<|.ref c)->XW (iu CX0 P w K mg base N nm (ak st) f (.ref c) A b s H E).nox B->PassesOwn (model P w) (A.deeper<|envOfC nm (ak st) s.heap.objs.size f<|.ref c) (envOfC nm (ak st) s.heap.objs.size f<|.ref c) (λ_ _=>False)->PSs (iu CX0 P w K mg base N nm (ak st) f (.ref c) A b s H E).nox (aZ st) (loS B t))(l:BdA nm ps st:=by intro _ _ _ _ _ _ u h;first|exact bind1 (by intros;rfl) u h|exact rz (by intros;rfl) u h)(C:N.length=n:=by rfl)(O:ps.length=m:=by rfl)(i:WL.run n t=fn:=by rfl)(g:ps.length<=N.length:=by decide):Cal P w K mg base CX0 (k+1) nm ps [] (aeW Pt tp<|spW K m fn):=by
 obtain⟨f,j,F,a⟩:=D;have J:j.code=.ref c:=by obtain⟨Q,od,kV,y,R,T,d,ct,v,e,x,_⟩:=F.ex;exact abQ ht a x
 exact⟨f,j,vF t F S C O i g λd A b s H E B r M o G z p I=>by have:d=.ref c:=r.symm.trans J;subst this;exact h M o G z p I,q _ _ a,F.kp,F.binds l,F.binds l⟩
def afO{o:Addr}{x:Str}(D:AtD K "law" st)(A:MgA K mg)(i:mg "law"=some (.ref o))(z:∀kV d l p g ct v,bindArgs (W.fnOf "law" "law" (cq st) (aZ st) (ak st) .none kV d l p g ct) ⟨[v],[]⟩=pure [(x,v)])(h:∀base f b,BmA mg base->CodeHd base c Pt->Fun K "law" "law" st f b->FnOk P w K mg base CX0 k f b ps (aeW Pt tp<|spW K 1 fn))(q:∀j:List Int,j.length<=63->fn [.lst<|j.map .int]=.ok (.bl true)):∃b,(∀s v,BindsTo s b ⟨[v],[]⟩ [(x,v)])/\∀base,K.In base->base.Ns mainGlobals mg->BmA mg base->CodeHd base c Pt->FnOk P w K mg base CX0 k o b ps (kX Pt tp K):=by obtain⟨f,b,F,a⟩:=D;have e:=i.symm.trans<|A _ _ a;cases e;refine⟨b,λs v=>?_,λbase _ _ r u=>afN (h _ _ _ r u F) q⟩;obtain⟨C,od,kV,d,l,p,g,ct,t,rfl,B,y⟩:=F.ex;exact .of_eq<|z _ _ _ _ _ _ v
def adO{f c Pt:Addr}{o ty:Value}{od e:Option Addr}{g:FuncData}{d b:Array (Option Value)}{vs:Array Value}(a:nsIn K mainGlobals nm=some (some<|.ref f))(l:K.lookup f=some ⟨o,od,.func g,d⟩)(i:g.code=.ref c)(h:K.lookup c=some ⟨ty,e,.fields vs,b⟩)(j:vs[11]?=some (.ref Pt)):tabIn K nm=some (c,Pt):=by unfold tabIn;simp only[a,l,i,h,j]
end
end WS
set_option autoImplicit true
set_option relaxedAutoImplicit true
namespace WS
open PySem PySem.Spec PyProof.Rows L2
open WL(Res Sl Ws EF TF AF LF GF GsF SF Out OX RF Tw)
section
variable{x:Str}
def me{b c}{r:Res b}{f:b->Res c}{y}(h:r.bind f=.ok y):∃x,r=.ok x/\f x=.ok y:=by cases r with|ok x=>exact⟨x,rfl,h⟩|_=>cases h
end
end WS
set_option autoImplicit true
set_option relaxedAutoImplicit true
namespace WS
open PySem PySem.Spec PyProof.Rows L2
open WL(Res Sl Ws EF TF AF LF GF GsF SF Out OX RF Tw)
section
variable{M:Rsc S}{B:Bx}{σ:Ws}{σV:L2.St}{F H:Hp}{D:Ends}{X:Cx}{k:Nat}{tg e:Expr}{body:List Stmt}{b:RF S}{it:LF}{pos:Pos}
set_option tactic.hygienic true in
def aeC(hK:B.K=X.K)(hp:PassesOwn (model X.prog X.w) X.A X.env X.xe)(hc:X.calm=true)(hi:∀B',B'.K=X.K->PI X tg e (loI B' it))(hg:PG X tg (L2.aq k))(hb:PSs X body (loX M B b))(hs:∀x,foldedSetIterable e X.env x=pure x:=by intro _;rfl):PS X (.For tg e body [] pos) (loX M B<|WL.x5 it k b):=by
 intro z sh σV H D I⟨σ,F,s,l,R,q⟩;unfold WL.x5 at q;split at q
 .rename_i g ex;refine ad4 hp hc (hi (pA B H l) hK) hg hb hs z sh σV H D I ⟨σ,F,R.rs,?_⟩;rw[ex];intro J H0 Z R0 U wk;refine⟨λj m d y=>m=g.length-j/\j<=g.length/\∃f i p u,RX M B p u f d i y/\aB Z i/\OqX M B D i (WL.nL k b (g.drop j) f p),⟨g.length,rfl,aoF _,σ,Z,s,l,R.next R0 U.f,aB.refl _,by rw[arD];exact OqX.mono U.f q⟩,?_⟩;rintro j m d y⟨rfl,hj,f,i,p,u,t,T,h⟩;by_cases r:j<g.length;.rw[apK r]at h;obtain⟨go,yl⟩:=wk.go j g[j] (aod r) i y T t.rs.rb.sub;refine .inr ⟨go,_,λa O h2=>⟨g.length-(j+1),by omega,rfl,r,h2⟩,λv O hy=>?_⟩;obtain⟨N,G,r2⟩:=yl v O hy;have R2:RX M B p u f d N O:=t.next (G.rs _ _ _ t.rs) G.same;refine⟨f.set k<|.va g[j],N,p,u,⟨R2.rs.set r2,R2.fr,R2.re⟩,?_⟩;have h:OqX M B D i (match b (f.set k<|.va g[j]) p with|.nx a s2=>WL.nL k b (g.drop<|j+1) a s2|.ct a s2=>WL.nL k b (g.drop<|j+1) a s2|.bk a s2=>.nx a s2|o=>o):=h;have E:aB i N:=G.same;cases A:b (f.set k<|.va g[j]) p with|nx a s2|ct a s2=>rw[A]at h;exact λn Y P K Q C=>⟨a,P,s2,K,Q,(T.trans E).trans C,OqX.mono (E.trans C) h⟩|bk a s2=>rw[A]at h;exact λn Y P K Q C=>(show∀d H' F' l',_ from h) n Y P K Q<|E.trans C|rt w s2|ex c a=>rw[A]at h;exact OqX.mono (D:=D) E h|bad=>rw[A]at h;exact h
  .have ei:j=g.length:=by omega
   subst ei;rw[aqv]at h;exact .inl ⟨wk.stop i y T t.rs.rb.sub,(show∀d H' F' l',_ from h) d y i u t<|aB.refl _⟩
 .exact(show False from q).elim
end
end WS
set_option autoImplicit true
set_option relaxedAutoImplicit true
namespace WS
open PySem PySem.Spec PyProof.Rows L2
open WL(Res Sl Ws EF TF AF LF GF GsF SF Out OX RF Tw)
def amj(K:W.Frag)(C f:Addr)(nm a:Str)(st:Stmt):Prop:=Meth K C nm f/\∃b,Fun K nm a st f b
abbrev BdM(nm a:Str)(ps:List Str)(st:Stmt):Prop:=∀kV c e f d ct b,b.length=ps.length->bindArgs (W.fnOf nm a (cq st) (aZ st) (ak st) .none kV c e f d ct) ⟨b,[]⟩=pure (ps.zip b)
def amj.dX{P w K mg i nm e st C f N ps k n m p}(D:amj K C f nm e st)(t)(S:FnScope N ps (ak st))(h:∀{j A g s H E B},B.K=K->Room k (A.deeper<|envOfC e (ak st) s.heap.objs.size f j)->XW (iu (CXX P w) P w K mg i N e (ak st) f j A g s H E) B->PassesOwn (model P w) (iu (CXX P w) P w K mg i N e (ak st) f j A g s H E).A (iu (CXX P w) P w K mg i N e (ak st) f j A g s H E).env (iu (CXX P w) P w K mg i N e (ak st) f j A g s H E).xe->PSs (iu (CXX P w) P w K mg i N e (ak st) f j A g s H E) (aZ st) (loS B t))(v:BdM nm e ps st:=by intro _ _ _ _ _ _ u h;first|exact rz (by intros;rfl) u h|exact bind1 (by intros;rfl) u h|exact abd (by intros;rfl) u h|exact adB (by intros;rfl) u h)(r:N.length=n:=by rfl)(x:ps.length=m:=by rfl)(o:WL.run n t=p:=by rfl)(l:ps.length<=N.length:=by decide):agk P w K mg i (k+1) C f nm ps (spX K m p):=sP D.1 D.2 v λ_ q=>tD t q S r x o l λ_ _ _ _ _ _ _ a b c d=>h a b c d
end WS
set_option autoImplicit true
set_option relaxedAutoImplicit true
namespace WS
open PySem PySem.Spec PyProof.Rows L2
open WL(Res Sl Ws EF TF AF LF GF GsF SF Out OX RF Tw)
variable{K:W.Frag}{mg:Str->Option Value}{w:World}{P:Program}{base:Heap}{st:Stmt}{nm q:Str}{N:List Str}{m k:Nat}{C f:Addr}
def Rep(K:W.Frag)(c:VW)(u:Value):Prop:=∃v,RelV v u/\∀F,RW K F c v
def yY:Rep K (.int i) (.int i t):=⟨.int i,⟨_,rfl⟩,λ_=>rfl⟩
def yW:Rep K (.str i) (.str i t):=⟨.str i,⟨_,rfl⟩,λ_=>rfl⟩
theorem amJ:∀{ws us},Paired (Rep K) ws us->∃c,Vals c us/\∀F,RWs K F ws c|_,_,.nil=>⟨[],.nil,λ_=>rfl⟩|_,_,.cons ⟨v,r,h⟩ t=>by obtain⟨c,a,b⟩:=amJ t;exact⟨_,.cons r a,λF=>⟨_,_,rfl,h F,b F⟩⟩
def yX(l:K.lookup a=some ⟨.type "tuple",d,.seq vs n,sl⟩)(e:vs.size<=sizeLine)(h:Paired (Rep K) ws vs.toList):∀F,RW K F (.tup ws) (.ref a):=by obtain⟨g,b,c⟩:=amJ h;exact λF=>⟨a,g,rfl,adT l b e F,c F⟩
def yV(l:K.lookup a=some ⟨.type "tuple",d,.seq vs n,sl⟩)(b:vs.size<=sizeLine)(h:Paired (Rep K) ws vs.toList):Rep K (.tup ws) (.ref a):=⟨.ref a,rfl,yX l b h⟩
def Kc(K:W.Frag)(mg:Str->Option Value)(x:Str)(c:VW):Prop:=∃u,mg x=some u/\Rep K c u
section
variable{X:Cx}{B:Bx}
def wkc(d:B.K=X.K)(h:Kc X.K X.mg x c)(b:Gl X x:=by rfl)(a:Dbg x:=by decide):PE X (.Name x pos) (lo B<|WL.eC c):=by obtain⟨u,m,v,r,h⟩:=h;exact wk d m r h b a
def wa1(a:PE X e (lo B ta))(hs:SE X e []:=by rfl):PA X [e] (loA B<|WL.aa ta WL.ao):=ae a aM hs
def wr(a:PE X e (lo B ta)):PSs X [.Return (some e) pos] (loS B<|WL.bg ta):=au<|cR a
def wi1(b:PT X c (loT B tt))(d:PSs X a (loS B s1)):PS X (.If c a [] pos) (loS B<|WL.sIf tt s1 WL.sNx):=i8 b d dD
def wln(s:X.K=B.K)(c:X.mg "len"=none)(d:PE X e (lo B ta))(g:Gl X "len":=by rfl)(b:SE X e []:=by rfl)(a:BT X pos []:=by rfl):PE X (.Call (.Name "len" p) [e] [] pos) (lo B<|WL.eBi WL.mh<|WL.aa ta WL.ao):=wB o6 (aeM s) c aqM (ae d aM b) g (by decide) (rfl) b a
def weq(s:X.K=B.K)(d:X.A.units+64<cLine)(c:PE X a (lo B ta))(e:PE X b (lo B tb)):PE X (.Compare a [.Eq] [b] pos) (lo B<|WL.eOp WL.oEq ta tb):=iz calm_eq (w_eq s d) c e<|bG _
def wad(s:X.K=B.K)(c:PE X a (lo B ta))(d:PE X b (lo B tb)):PE X (.BinOp a .Add b pos) (lo B<|WL.eOp WL.cV ta tb):=aJ adx (w_add s) c d
def wmo(c:PE X a (lo B ta))(d:PE X b (lo B tb)):PE X (.BinOp a .Mod b pos) (lo B<|WL.eOp WL.oMod ta tb):=aJ vK w_mod c d
def wco(x)(e:X.calm=true)(g:PI X tg iter (loI B it))(h:∀C b a c,PE (X.comp scope C [x] b a c) elt<|lo B.calm ta)(L:CompLook X scope:=by exact⟨rfl,rfl,rfl,rfl,rfl⟩)(d:∀C b a c,PG (X.comp scope C [x] b a c) tg (loG true B.calm<|WL.aq 0):=by exact λ_ _ _ _=>gN 0)(hs:∀x,foldedSetIterable iter X.env x=pure x:=by intro _;rfl):PE X (.ListComp elt [⟨tg,iter,[],0⟩] scope pos) (lo B<|WL.cZ 1 it (WL.aq 0) WL.fF ta):=nR L e rfl (bt<|by simp) g d (λ_ _ _ _=>gS) h hs
def wfn(n)(s:X.K=B.K)(b:W.nsIn X.K mainGlobals (Str.ofString c)=some (some<|.ref C))(cl:Cls X.K C)(e:eF X.K C fl)(g:PE X o (lo B to))(nd:(WL.oO c).Nodup:=by decide)(a:(WL.oO c)[n]?=some fl:=by rfl)(d:attributeBase o fl X.env (eval o X.env)=eval o X.env:=by rfl):PE X (.Attribute o fl pos) (lo B<|WL.iq c n to):=nQ s b cl e nd a g d
structure VV(X:Cx)(x:Str)(i:Nat):Prop where
 n:X.N[i]?=some x
 v:Vis X.env.scope x
 d:Dbg x
 c:(x=="__classdict__")=false
def VV.e(h:VV X x i):PE X (.Name x pos) (lo B<|WL.ah i):=va i h.n h.v h.d h.c
def v0(h:VV X x 0:=by first|exact⟨rfl,Or.inl rfl,by decide,by decide⟩|exact⟨rfl,Or.inr<|Or.inl rfl,by decide,by decide⟩|exact⟨rfl,Or.inr<|Or.inr rfl,by decide,by decide⟩):PE X (.Name x pos) (lo B<|WL.ah 0):=h.e
def v1(h:VV X x 1:=by first|exact⟨rfl,Or.inl rfl,by decide,by decide⟩|exact⟨rfl,Or.inr<|Or.inl rfl,by decide,by decide⟩|exact⟨rfl,Or.inr<|Or.inr rfl,by decide,by decide⟩):PE X (.Name x pos) (lo B<|WL.ah 1):=h.e
def v2(h:VV X x 2:=by first|exact⟨rfl,Or.inl rfl,by decide,by decide⟩|exact⟨rfl,Or.inr<|Or.inl rfl,by decide,by decide⟩|exact⟨rfl,Or.inr<|Or.inr rfl,by decide,by decide⟩):PE X (.Name x pos) (lo B<|WL.ah 2):=h.e
def v3(h:VV X x 3:=by first|exact⟨rfl,Or.inl rfl,by decide,by decide⟩|exact⟨rfl,Or.inr<|Or.inl rfl,by decide,by decide⟩|exact⟨rfl,Or.inr<|Or.inr rfl,by decide,by decide⟩):PE X (.Name x pos) (lo B<|WL.ah 3):=h.e
def v4(h:VV X x 4:=by first|exact⟨rfl,Or.inl rfl,by decide,by decide⟩|exact⟨rfl,Or.inr<|Or.inl rfl,by decide,by decide⟩|exact⟨rfl,Or.inr<|Or.inr rfl,by decide,by decide⟩):PE X (.Name x pos) (lo B<|WL.ah 4):=h.e
end
abbrev cN(P:Program)(w:World)(K:W.Frag)(mg:Str->Option Value)(base:Heap)(N:List Str)(q:Str)(st:Stmt)(f:Addr)(b:Value)(A:Around)(a:List Env)(s:Shared)(H:Hp)(E:XK):Cx:=(iu CX0 P w K mg base N q (ak st) f b A a s H E).nox
abbrev cX(P:Program)(w:World)(K:W.Frag)(mg:Str->Option Value)(base:Heap)(N:List Str)(q:Str)(st:Stmt)(f:Addr)(b:Value)(A:Around)(a:List Env)(s:Shared)(H:Hp)(E:XK):Cx:=iu (CXX P w) P w K mg base N q (ak st) f b A a s H E
abbrev Go(k:Nat)(st:Stmt)(X:Cx)(B:Bx)(t:TS):Prop:=B.K=X.K->X.K=B.K->Room k X.A->X.A.units+64<cLine->XW X B->PassesOwn (model X.prog X.w) X.A X.env X.xe->X.N.Nodup->PSs X (aZ st) t
abbrev BdN(nm a:Str)(ps:List Str)(st:Stmt):Prop:=∀kV c e g d ct b,b.length=ps.length->bindArgs (W.fnOf nm a (cq st) (aZ st) (ak st) .none kV c e g d ct) ⟨b,[]⟩=pure (ps.zip b)
structure Hd(w:World)(mg:Str->Option Value)(nm qual:Str)(st:Stmt)(N:List Str)(m:Nat):Prop where
 sc:FnScope N (N.take m) (ak st)bd:BdN nm qual (N.take m) st
 le:m<=N.length
def Hd.lp(D:Hd w mg nm q st N m):(N.take m).length=m:=by simp[D.le]
def Hd.ln(D:Hd w mg nm q st N m):(N.take m).length<=N.length:=by grind
def AtG(w:World)(K:W.Frag)(mg:Str->Option Value)(nm a:Str)(st:Stmt)(N:List Str)(m:Nat):Prop:=MgA K mg/\Hd w mg a a st N m/\∃f b,Fun K a a st f b/\W.nsIn K mainGlobals nm=some (some<|.ref f)
def AtG.cal(D:AtG w K mg nm q st N m)(h:∀f b,Fun K q q st f b->FnOk P w K mg base CX k f b (N.take m) sp):Cal P w K mg base CX k nm (N.take m) [] sp:=by obtain⟨g,c,f,b,F,a⟩:=D;exact⟨f,b,h f _ F,g _ _ a,F.kp,F.binds c.bd,F.binds c.bd⟩
def AtG.dN(D:AtG w K mg nm q st N m)(P base k t)(h:∀{f d A a s H E B},Go k st (cN P w K mg base N q st f d A a s H E) B<|loS B t):Cal P w K mg base CX0 (k+1) nm (N.take m) [] (spW K m<|WL.run N.length t):=D.cal λf g e=>tE t e D.2.1.sc rfl D.2.1.lp rfl D.2.1.ln λd A a s H E B b r c p=>h b b.symm r r.units c p D.2.1.sc.nd
def AtG.dX(D:AtG w K mg nm q st N m)(P base k t)(h:∀{f d A a s H E B},Go k st (cX P w K mg base N q st f d A a s H E) B<|loS B t):Cal P w K mg base (CXX P w) (k+1) nm (N.take m) [] (spX K m<|WL.run N.length t):=D.cal λf g e=>tD t e D.2.1.sc rfl D.2.1.lp rfl D.2.1.ln λd A a s H E B b r c p=>h b b.symm r r.units c p D.2.1.sc.nd
abbrev AtF(w:World)(K:W.Frag)(mg:Str->Option Value)(nm:Str)(st:Stmt)(N:List Str)(m:Nat):Prop:=AtG w K mg nm nm st N m
def ajd{kV g j d ct K h mg}(i:K.In h)(G:h.Ns mainGlobals mg)(a:W.nsIn K mainGlobals nm=some (some<|.ref f))(l:K.lookup f=some ⟨oc,od,.func<|W.fnOf fn fn (cq st) (aZ st) (ak st) .none kV g j an d ct,osl⟩)(c:W.codeIn K d fn=true)(q:W.keepIn K (.ref f)=true)(S:FnScope N (N.take m) (ak st))(b:BdN fn fn (N.take m) st)(e:m<=N.length):AtG w K mg nm fn st N m:=⟨λ_ _=>W.mg_of i G,⟨S,b,e⟩,f,_,vz l c q,a⟩
def agA(w:World)(K:W.Frag)(mg:Str->Option Value)(C f:Addr)(nm a:Str)(st:Stmt)(N:List Str)(m:Nat):Prop:=Meth K C nm f/\(∃b,Fun K nm a st f b)/\Hd w mg nm a st N m
def agA.cal(D:agA w K mg C f nm q st N m)(h:∀a,Fun K nm q st f a->FnOk P w K mg base (CXX P w) k f a (N.take m) sp):agk P w K mg base k C f nm (N.take m) sp:=sP D.1 D.2.1 D.2.2.bd h
def agA.dX(D:agA w K mg C f nm q st N m)(P base k t)(h:∀{d A a s H E B},Go k st (cX P w K mg base N q st f d A a s H E) B<|loS B t):agk P w K mg base (k+1) C f nm (N.take m) (spX K m<|WL.run N.length t):=D.cal λg e=>tD t e D.2.2.sc rfl D.2.2.lp rfl D.2.2.ln λd A a s H E B b r c p=>h b b.symm r r.units c p D.2.2.sc.nd
end WS
set_option autoImplicit true
set_option relaxedAutoImplicit true
namespace WS
open PySem PySem.Spec PyProof.Rows L2
open WL(Res Sl Ws EF TF AF LF GF GsF SF Out OX RF Tw)
structure TRel(K:W.Frag)(s:Tw)(F H:Hp)(vs us:List V):Prop where
 at_:F s.a=some (.lst [.ref s.x,.ref s.y])ne:s.x≠s.y
 xo:H s.x=some (.lst vs)yo:H s.y=some (.lst us)xs:RWs K F s.xs vs
 ys:RWs K F s.ys us
def amA(K:W.Frag)(s:Tw)(l:List Addr)(F H:Hp):Prop:=∃a b,l=[s.x,s.y]/\TRel K s F H a b
def twM:Rsc Tw where
 adr:=Tw.a;rel:=amA;val:=Tw.val;mono:=λh0_ k h=>by obtain⟨vs,us,el,R⟩:=h0_;subst el;exact⟨vs,us,rfl,k _ _ R.at_,R.ne,h _ (by simp) _ R.xo,h _ (by simp) _ R.yo,R.xs.keep k,R.ys.keep k⟩
 there:=λh0_ x hx=>by
  obtain⟨vs,us,el,R⟩:=h0_;subst el;rcases an7.mp hx with rfl|hx;.exact⟨_,R.xo,trivial,λ_ z=>nomatch z⟩
  .rw[aoK.mp hx];exact⟨_,R.yo,trivial,λ_ z=>nomatch z⟩
 fz:=λ{K s l F H a od kvs}h0_ hF e=>by
  obtain⟨vs,us,el,R⟩:=h0_;subst el;have n1:s.x≠a:=λz=>by have:=hF s.x (by simp);rw[z,e]at this;cases this
  have n2:s.y≠a:=λz=>by have:=hF s.y (by simp);rw[z,e]at this;cases this
  have n3:s.a≠a:=λz=>by have:=R.at_;rw[z,e]at this;cases this
  exact⟨vs,us,rfl,by rw[ai n3];exact R.at_,R.ne,by rw[ai n1];exact R.xo,by rw[ai n2];exact R.yo,R.xs.fz e,R.ys.fz e⟩
 th:=λ{K s l F H a od kvs}h0_ hF e=>by
  obtain⟨vs,us,el,R⟩:=h0_;subst el;have n1:s.x≠a:=λz=>by have:=hF s.x (by simp);rw[z,e]at this;cases this
  have n2:s.y≠a:=λz=>by have:=hF s.y (by simp);rw[z,e]at this;cases this
  have n3:s.a≠a:=λz=>by have:=R.at_;rw[z,e]at this;cases this
  exact⟨vs,us,rfl,by rw[ai n3];exact R.at_,R.ne,by rw[ai n1];exact R.xo,by rw[ai n2];exact R.yo,R.xs.th e,R.ys.th e⟩
 rw:=λ{K s l F H F'}h0_ k h=>by obtain⟨vs,us,el,R⟩:=h0_;subst el;unfold WL.Tw.val;simp only[RW,RWs];exact⟨s.a,_,rfl,SqL.of<|k _ _ R.at_,_,_,rfl,⟨s.x,vs,rfl,SqL.of (h _ (by simp) _ R.xo),R.xs.keep k⟩,_,_,rfl,⟨s.y,us,rfl,SqL.of (h _ (by simp) _ R.yo),R.ys.keep k⟩,rfl⟩
section
variable{B:Bx}{s:Tw}{l:List Addr}{σ:Ws}{σV:L2.St}{F H:Hp}{D:Ends}{X:Cx}{j:Nat}{te:EF}{st:Stmt}
def tw_val2{K}(h:amA K s l F H):RW K F s.agm (.ref s.a):=by obtain⟨a,b,c,R⟩:=h;unfold WL.Tw.agm;simp only[RW,RWs];exact⟨s.a,_,rfl,SqL.of R.at_,_,_,rfl,rfl,_,_,rfl,rfl,rfl⟩
set_option tactic.hygienic true
def RX.akk(R:RX twM B s l σ σV F H){a}(e:WL.seen Tw.a Tw.agm j σ s=some a):RS (pA B H l) a σV F H/\a[j]?=some (.va s.agm):=by
 unfold WL.seen at e;split at e
 .rename_i b c;split at e;.rename_i f;cases e;subst f;obtain⟨v,d,g⟩:=R.rs.va j _ c;subst g;have:=R.rs.set (i:=j)<|tw_val2 R.re;rw[set_same d]at this;exact⟨this,by rw[aof (aoa.mp c).1]⟩
  .cases e
 .cases e
def x3(k:Bool)(N:B.K=X.K)(h:∀t,t.K=X.K->PS X st (wu<|tBM X.K "list" r0 (lo t<|WL.eOp WL.oIx (WL.ah j)<|WL.eC<|.int<|if k then 1 else 0)<|hU (lo t te) xT)):PS X st (loX twM B<|WL.x6 j k te):=by
 intro f K σV H D I⟨σ,F,s,l,R,q⟩;refine h (pA B H l) N f K σV H D I ?_;unfold WL.x6 at q;split at q
 .rename_i e G;obtain⟨E,M⟩:=R.akk G;split at q
  .rename_i w u;split at q
   .rename_i z;refine⟨e,F,E,?_⟩;have C:WL.eOp WL.oIx (WL.ah j) (WL.eC<|.int<|if k then 1 else 0) e=.ok (.id<|if k then s.y else s.x):=by cases k<;>simp[WL.eOp,WL.ah,M,WL.eC,Res.bind,WL.Tw.agm]<;>rfl
    rw[C];intro v O A n b x;obtain⟨g,m,i,S⟩:=R.re;have y:=R.rs.grow b n.rb;cases k with|false=>have r:v=.ref s.x:=x;subst r;refine⟨.inl ⟨rfl,g,SqL.of<|b.h _ _ S.xo⟩,σ,A,y,?_⟩;rw[u];intro v2 J p c d o;have a:=b.f.trans d.f;refine⟨s.x,g,v2,rfl,rfl,d.h _ _<|b.h _ _ S.xo,by rw[<-S.xs.length];exact an6 z.1 gZ,?_⟩;exact q σV _ p l ((R.next c a).write (by rw[i];simp) ⟨g++[v2],m,i,a _ _ S.at_,S.ne,aj,(ai<|aom S.ne).trans<|d.h _ _<|b.h _ _ S.yo,(S.xs.keep a).app<|.one o,S.ys.keep a⟩) a|true=>have r:v=.ref s.y:=x;subst r;refine⟨.inl ⟨rfl,m,SqL.of<|b.h _ _ S.yo⟩,σ,A,y,?_⟩;rw[u];intro v2 J p c d o;have a:=b.f.trans d.f;refine⟨s.y,m,v2,rfl,rfl,d.h _ _<|b.h _ _ S.yo,by rw[<-S.ys.length];exact an6 z.2 gZ,?_⟩;exact q σV _ p l ((R.next c a).write (by rw[i];simp) ⟨g,m++[v2],i,a _ _ S.at_,S.ne,(ai S.ne).trans<|d.h _ _<|b.h _ _ S.xo,aj,S.xs.keep a,(S.ys.keep a).app<|.one o⟩) a
   .exact(q).elim
  .exact(q).elim
 .exact(q).elim
def abz(h:PS X st (amC<|lo B<|WL.ah j)):PSs X [st] (loE twM B<|WL.x4 j):=PSs.imp (hX h) λD σV H⟨σ,F,s,l,R,q⟩=>by
 unfold WL.x4 at q;split at q
 .rename_i c a;obtain⟨k,e⟩:=R.frz a;refine⟨c,_,e,?_⟩;have d:WL.ah j c=.ok s.val:=by
   unfold WL.seen at a;split at a
   .rename_i b i;split at a;.cases a;simp[WL.ah,aof (aoa.mp i).1]
    .cases a
   .cases a
  rw[d];exact λv m n R2 f g=>q v m _ R2.rb (k.trans f.f) g
 .exact(q).elim
set_option tactic.hygienic false
def agJ{S:Type}{M:Rsc S}{i:Nat}{t:RF S}(h:PS X st (loX M B t)):PS X st (loX M B<|WL.ajp i t):=PS.imp h λD σV H⟨σ,F,s,l,R,q⟩=>by obtain⟨b,k,a,_⟩:=R.rs.frz i;exact⟨_,b,s,l,R.next a k,OqX.mono k q⟩
def aeD{I:Stmt}{rest:List Stmt}{t:RF Tw}(Z:B.K=X.K)(Y:XW X B)(o:PS X I (agn (ahg<|hU (ahg xT)<|hU (ahg xT) xT)<|L2.aq j))(g:∀A,A.K=X.K->XW X A->PSs X rest (loE twM A t)):PSs X (I::rest) (loS B<|WL.ahn j t):=by
 refine PSs.imp (dq o<|g B Z Y) λD σV H⟨σ,F,R,q⟩=>?_;unfold WL.ahn at q;split at q
 .rename_i E;have c:=Classical.choose_spec E;refine⟨aoF _,λx o=>⟨aoF _,λy g=>⟨show 2<=sizeLine by decide,λa i=>?_⟩⟩⟩;have f:y≠x:=λz=>by rw[z,aj]at g;cases g
  have nay:a≠y:=λz=>by rw[z,aj]at i;cases i
  have e:=i;rw[ai nay]at e;have h:a≠x:=λz=>by rw[z,aj]at e;cases e
  have N:H y=none:=by rw[ai f]at g;exact g
  have inl:∀z∈[x,y],z≠a/\H z=none:=λz d=>by
   rcases an7.mp d with rfl|d;.exact⟨aom h,o⟩
   .rw[aoK.mp d];exact⟨aom nay,N⟩
  have G:=(R.aif o<|.lst []).aif g<|.lst [];have S:=G.rb.sub.free i;have M:=G.new i<|.lst [.ref x,.ref y];have T:aB F (upd F a<|.lst [.ref x,.ref y]):=av S _;have Fl:∀z∈[x,y],upd F a (.lst [.ref x,.ref y]) z=none:=λz d=>by rw[ai (inl z d).1];exact R.rb.sub.free (inl z d).2
  have Rd:=M.inS Fl (λk ws z p u d=>by obtain⟨b,J,m,_,_,n,_⟩:=R.ow k ws p;rw[u]at m;cases m;rw[(inl z d).2]at n;cases n) λz d k K P p u=>by obtain⟨b,J,m,_,_,n,_⟩:=R.dd.od k K P p;rw[u]at m;cases m;rw[(inl z d).2]at n;cases n
  refine⟨σ.set j<|.va<|.id a,_,⟨a,x,y,[],[]⟩,[x,y],⟨Rd.set (by simp only[RW]),λz d=>⟨Fl z d,R.rb.base.free (inl z d).2⟩,[],[],rfl,aj,aom f,?_,?_,rfl,rfl⟩,?_⟩;.exact(ai<|aom h).trans ((ai<|aom f).trans aj)
  .exact(ai<|aom nay).trans aj
  .have c:=c a x y;cases C:t (σ.set j<|.va<|.id a) ⟨a,x,y,[],[]⟩with|rt w s'=>rw[C]at c;have c:Classical.choose E=w:=c;rw[c]at q;exact λv O Q U k4 r=>q v O Q U (T.trans k4) r|_=>rw[C]at c;exact c.elim
 .exact(q).elim
end
end WS
namespace ML
open PySem WL
abbrev S3:=Int×Int×Int
noncomputable def stW(p:S3):W:=.tup [.int p.1,.int p.2.1,.int p.2.2]
noncomputable def spW(p:Int×Int):W:=.tup [.int p.1,.int p.2]
def flW(f:List S3):W:=.tup<|f.map stW
noncomputable def ay(p:S3):Int×Int:=(p.1,p.2.1)
@[simp]def alm(n:Nat)(i:Int):okD n (.int i)=true:=(rfl)
@[simp]def alj(n:Nat)(xs:List W):okD n (.tup xs)=gP n xs:=(rfl)
@[simp]def afA(n:Nat)(xs:List W):okD n (.lst xs)=gP n xs:=(rfl)
@[simp]def ajH(n:Nat):gP (n+1) []=true:=(rfl)
@[simp]def zl(n:Nat)(x:W)(xs:List W):gP (n+1) (x::xs)=(okD n x&&gP (n+1) xs):=(rfl)
@[simp]def alU(a b:Str):eqv (.str a) (.str b)=(a==b):=(rfl)
@[simp]def alV(a b:Int):eqv (.int a) (.int b)=(a==b):=(rfl)
@[simp]def alT(a b:List W):eqv (.tup a) (.tup b)=xW a b:=(rfl)
@[simp]def af5(a b:List W):eqv (.lst a) (.lst b)=xW a b:=(rfl)
@[simp]def alR:xW [] []=true:=(rfl)
@[simp]def alS(x:W)(xs:List W):xW (x::xs) []=false:=(rfl)
@[simp]def af4(x y:W)(xs ys:List W):xW (x::xs) (y::ys)=(eqv x y&&xW xs ys):=(rfl)
@[simp] def amT (n:Nat) (p:Int×Int):okD (n+1) (spW p)=true:=by simp[spW]
@[simp] theorem aib (n:Nat) (p:S3):okD (n+1) (stW p)=true:=by simp[stW]
theorem ot (n ):∀ a,(∀ x∈a,okD n x=true)->gP (n+1) a=true
  | [],_=>rfl
  | x::a,h=>by simp;exact⟨h x (by simp),ot n _ λy b=>h y<|by grind⟩
def aes(p q):eqv (spW p) (spW q)=decide (p=q):=by obtain⟨a,b⟩:=p;obtain⟨c,d⟩:=q;rw[aoz];simp[spW]
@[simp]def vb(p q):oEq (spW p) (spW q)=.ok (.bl<|decide (p=q)):=by have:yM (spW p) (spW q)=false:=rfl;simp[oEq,this,aes]
theorem aey(s:Int×Int):∀l:List (Int×Int),eB (spW s) (l.map spW)=decide (s∈l)|[]=>by simp[eB]|p::l=>by simp only[aor,eB,aes,aey s l];rw[aoz];simp only[arv,aoJ,an7];exact or_congr eq_comm Iff.rfl
def aec(s:Int×Int)(l:List (Int×Int)):oIn (spW s) (.lst<|l.map spW)=.ok (.bl<|decide (s∈l)):=by
 have h:gP 51 (l.map spW)=true:=ot 50 _ λx a=>by obtain⟨p,_,rfl⟩:=aox.mp a;simp
 simp[oIn,h,aey]
@[simp] def u2 (p:S3):plain (stW p)=true:=by simp[stW]
@[simp] theorem y8 (f:List S3):iK (f.map stW)=true:=(wH _).mpr λx a=>by
  obtain⟨p,_,rfl⟩:=aox.mp a
  simp
@[simp] def alp (p:S3):oSl (stW p) none (some 2)=.ok (spW<|ay p):=by simp[stW,spW,ay,sIx,cut]
theorem aeb {f p k} (h0:0<=k) (h:f[k.toNat]?=some p):oIx (flW f) (.int k)=.ok (stW p):=by
  simp[flW,aex _ h0,h]
noncomputable def sfp(p:S3)(m n:Int):Int×Int:=if p.2.2=0 then(p.1+n,p.2.1+m)else if p.2.2=1 then(p.1-m,p.2.1+n)else if p.2.2=2 then(p.1-n,p.2.1-m)else(p.1+m,p.2.1-n)
noncomputable def aeH(s:Int×Int):Nat->List S3->W|_,[]=>.non|k,p::f=>if ay p=s then .int k else aeH s (k+1) f
def iL{c:Type}{R:c->c->Prop}{l:List c}{x:c}(h:l.Pairwise R)(f:∀y∈l,R y x):(l++[x]).Pairwise R:=by rw[aqE];exact⟨h,List.pairwise_singleton _ _,λa e b d=>by rw[aoK.mp d];exact f a e⟩
mutual theorem eqv_refl:∀(n:Nat)(x:W),okD n x=true->eqv x x=true|_,.non,_=>rfl|_,.bl _,_=>by show(_==_)=_;simp|_,.int _,_=>by simp|_,.str _,_=>by simp|_,.ty _,h=>by cases h|n,.tup xs,h=>by exact lY n xs (by assumption)|n,.lst xs,h=>by exact lY n xs (by assumption)|_,.dic _ _,h=>by cases h|_,.cls _,h=>by cases h|_,.exc _ _,h=>by cases h|_,.ins _ _,h=>by cases h|_,.id _,h=>by cases h theorem lY:∀(n:Nat)(xs:List W),gP n xs=true->xW xs xs=true|_,[],_=>rfl|0,_::_,h=>by cases h|n+1,x::xs,h=>by simp only[zl,aoo]at h;simp only[af4,aoo];exact⟨eqv_refl n x h.1,lY (n+1) xs h.2⟩end
def acx{x}(h:okD 50 x=true):oNe x x=.ok (.bl false):=by unfold oNe;simp[h,eqv_refl _ x h]
def age(c:Char):c.toNat<0x110000:=by have h:=c.valid;have ht:c.toNat=c.val.toNat:=rfl;omega
@[simp]def alk(n)(a):okD n (.str<|Str.ofString a)=true:=by show(Str.ofString a).cps.all _=true;simp only[Str.ofString_eq_toList];simp only[List.all_toArray,List.all_map,aoD,Function.comp,aoJ];intro c _;exact age c
@[simp] def ua (x y:W) (ys:List W):eB x (y::ys)=(eqv y x || eB x ys):=by simp[eB]
theorem sI (xs:List W) (n:Int) (k:Nat) (hk:xs.length=k) (h0:0<k):∃ x∈xs,oIx (.lst xs) (.int<|n%k)=.ok x:=by
  have a:=aqg n (b:=(k:Int)) (by omega)
  have b:=apY n (b:=(k:Int)) (by omega)
  have c:(n%(k:Int)).toNat<xs.length:=by omega
  exact⟨xs[(n%(k:Int)).toNat],apO c,by rw[fK,aex _ a,aod c];rfl⟩
def lF{ws:List String}(n:Int)(k:Nat)(hk:ws.length=k)(b:0<k):∃w∈ws,oIx (.lst<|ws.map λ(w:String)=>.str<|Str.ofString w) (.int<|n%k)=.ok (.str w):=by obtain⟨x,a,e⟩:=sI (ws.map λ(w:String)=>.str<|Str.ofString w) n k (by simp[hk]) b;obtain⟨w,hw,rfl⟩:=aox.mp a;exact⟨w,hw,e⟩
noncomputable def kf(s:Int×Int):Nat->List S3->Option Nat|_,[]=>none|k,p::f=>if ay p=s then some k else kf s (k+1) f
noncomputable def onW:Option Nat->W|none=>.non|some k=>.int k
theorem yd(s):∀k f,aeH s k f=onW (kf s k f)|_,[]=>rfl|k,p::f=>by simp [aeH,kf,yd s _ f];split<;>rfl
theorem f7(s):∀k f i,kf s k f=some i->k<=i/\i<k+f.length
|_,[],_,h=>by simp[kf]at h|k,p::f,i,h=>by
 simp [kf]at h;split at h;.cases h;simp
 .have:=f7 s _ f i h;simp ;omega
inductive What where|none|any|same|left|about|right|partner|opposite
inductive Lone where|head|side|lefts|rights|inward|outward|sideways
noncomputable def What.w:What->String|.none=>"none"|.any=>"any"|.same=>"same"|.left=>"left"|.about=>"about"|.right=>"right"|.partner=>"partner"|.opposite=>"opposite"
noncomputable def Lone.w:Lone->String|.head=>"head"|.side=>"side"|.lefts=>"lefts"|.rights=>"rights"|.inward=>"inward"|.outward=>"outward"|.sideways=>"sideways"
inductive Tst where|lone(l:Lone)|at(a r:Int)(w:What)|inner(n:Int)
def Tst.W:Tst->WL.W|.lone l=>.tup [.str l.w]|.at a r w=>.tup [.str "at",.int a,.int r,.str w.w]|.inner n=>.tup [.str "inner",.int n]
def tsW(a:Bool)(t:Tst):WL.W:=if a then .tup [.str "not",t.W]else t.W
def Tst.Ok:Tst->Prop|.at a r _=>-9<=a/\a<=9/\-9<=r/\r<=9|_=>True
noncomputable def far(s:Int×Int):Int:=if(if s.2<0 then -s.2 else s.2)>if s.1<0 then -s.1 else s.1 then if s.2<0 then -s.2 else s.2 else if s.1<0 then -s.1 else s.1
noncomputable def aX(f:List S3)(k:Nat):Int:=(f.getD k (0,0,0)).2.2
def ae4(f:List S3)(d:Nat)(p:S3)(w:What):Option Nat->Bool
|none=>match w with|.none=>true|_=>false
|some k=>match w with|.none=>false|.any=>true|.same=>decide (aX f k=p.2.2)|.left=>decide (aX f k=(p.2.2+1)%4)|.about=>decide (aX f k=(p.2.2+2)%4)|.right=>decide (aX f k=(p.2.2+3)%4)|.partner=>decide ((k:Int)=if(d:Int)%2=0 then(d:Int)+1 else d-1)|.opposite=>decide ((k:Int)=(d+4)%8)
def gq(f:List S3)(d:Nat)(p:S3):Tst->Bool|.lone .head=>decide ((d:Int)/2%2=0)|.lone .side=>!decide ((d:Int)/2%2=0)|.lone .lefts=>decide ((d:Int)%2=0)|.lone .rights=>!decide ((d:Int)%2=0)|.lone .inward=>decide (far (sfp p 1 0)<far (ay p))|.lone .outward=>decide (far (ay p)<far (sfp p 1 0))|.lone .sideways=>decide (far (sfp p 1 0)=far (ay p))|.inner n=>decide (far (ay p)<=n)|.at a r w=>ae4 f d p w<|kf (sfp p a r) 0 f
def adg(p:S3)(d:0<=p.2.2)(c:p.2.2<4):far (sfp p 1 0)=far (ay p)\/far (sfp p 1 0)=far (ay p)+1\/far (sfp p 1 0)=far (ay p)-1:=by
 obtain⟨x,y,f⟩:=p;have r:f=0\/f=1\/f=2\/f=3:=by have a:0<=f:=d;have b:f<4:=c;omega
 rcases r with rfl|rfl|rfl|rfl<;>simp[far,sfp,ay]<;>omega
inductive Go where|ahead|back|left|right
inductive Tn where|left|right|about
noncomputable def Go.w:Go->String|.ahead=>"ahead"|.back=>"back"|.left=>"left"|.right=>"right"
noncomputable def Tn.w:Tn->String|.left=>"left"|.right=>"right"|.about=>"about"
inductive Stp where|go(g:Go)(n:Int)|turn(t:Tn)
def Stp.W:Stp->WL.W|.go g n=>.tup [.str g.w,.int n]|.turn t=>.tup [.str "turn",.str t.w]
def Stp.Ok:Stp->Prop|.go _ n=>1<=n/\n<=9|.turn _=>True
structure Rl where ts:List (Bool×Tst)ss:Option (List Stp)
def tsL(ts:List (Bool×Tst)):WL.W:=.tup (ts.map λp=>tsW p.1 p.2)
def ssW:Option (List Stp)->WL.W|none=>.tup [.tup [.str "stay"]]|some l=>.tup<|l.map Stp.W
def Rl.W(r:Rl):WL.W:=.tup [tsL r.ts,ssW r.ss]
def clW(c:List Rl):WL.W:=.lst<|c.map Rl.W
structure Rl.Ok(r:Rl):Prop where
 ts:∀p∈r.ts,p.2.Ok
 ss:∀l,r.ss=some l->l≠[]/\∀s∈l,s.Ok
 nt:r.ts.length<=100ns:∀l,r.ss=some l->l.length<=100
@[simp] theorem aln (n:Nat) (t:Tst):okD (n+1) t.W=true:=by cases t<;>simp[Tst.W]
@[simp] theorem aia (n:Nat) (g:Bool) (t:Tst):okD (n+2) (tsW g t)=true:=by
  cases g
  · exact aln (n+1) t
  · simp[tsW]
def ou{ι:Type}(n)(g)(l:List ι)(h:∀x∈l,okD n (g x)=true):gP (n+1) (l.map g)=true:=ot n _ λx a=>by grind
noncomputable def aee(g b:Bool):Bool:=if g then !b else b
def vR(l:List Bool):allB (l.map .bl)=some (l.all id):=by induction l with|nil=>rfl|cons b l ih=>simp[allB,ih]
abbrev cK(f:List S3):Prop:=f.Pairwise λp r=>ay p≠ay r
def px{f}(h:∀a b,a<b->b<f.length->ay (f.getD a (0,0,0))≠ay (f.getD b (0,0,0))):cK f:=by rw[cK,apu];intro i j e d c;have:=h i j c d;simpa[e,d]using this
def vQ{f}(h:cK f){a b}(c:a<b)(e:b<f.length):ay (f.getD a (0,0,0))≠ay (f.getD b (0,0,0)):=by
 rw[cK,apu]at h;have d:a<f.length:=by omega
 have:=h a b d e c;simpa[d,e]using this
def xU(p:S3):Stp->S3|.go .ahead n=>((sfp p n 0).1,(sfp p n 0).2,p.2.2)|.go .back n=>((sfp p (-n) 0).1,(sfp p (-n) 0).2,p.2.2)|.go .left n=>((sfp p 0<|-n).1,(sfp p 0<|-n).2,p.2.2)|.go .right n=>((sfp p 0 n).1,(sfp p 0 n).2,p.2.2)|.turn .left=>(p.1,p.2.1,(p.2.2+1)%4)|.turn .about=>(p.1,p.2.1,(p.2.2+2)%4)|.turn .right=>(p.1,p.2.1,(p.2.2+3)%4)
noncomputable def j4(p:S3):List Stp->List S3|[]=>[p]|s::l=>p::j4 (xU p s) l
def hY(p:S3):Option (List Stp)->List S3|none=>[p]|some l=>j4 p l
def Fac(p:S3):Prop:=0<=p.2.2/\p.2.2<4
def kU(p)(s)(h:Fac p):Fac (xU p s):=by obtain⟨b,a⟩:=h;cases s with|go g n=>cases g<;>exact⟨b,a⟩|turn t=>cases t<;>(constructor<;>simp [xU]<;>omega)
theorem qb:∀l p,Fac p->∀q∈j4 p l,Fac q
|[],p,h,q,a=>by simp [j4]at a;rw[a];exact h|s::l,p,h,q,a=>by
 simp [j4]at a;rcases a with rfl|a;.exact h
 .exact qb l _ (kU p s h) q a
def lq(s)(p)(h:Fac p):∀q∈hY p s,Fac q:=by cases s with|none=>intro q a;simp only[hY,aoK]at a;rw[a];exact h|some l=>exact qb l p h
theorem qa:∀l p,(j4 p l).length=l.length+1|[],p=>rfl|s::l,p=>by simp[j4,qa l]
def wy:∀l p,∃t,j4 p l=p::t|[],p=>⟨[],rfl⟩|s::l,p=>⟨_,rfl⟩
def wL(s)(p):∃t,hY p s=p::t:=by cases s with|none=>exact⟨[],rfl⟩|some l=>exact wy l p
noncomputable def inB(p:S3):Bool:=decide (-200<=p.1)&&decide (p.1<=200)&&(decide (-200<=p.2.1)&&decide (p.2.1<=200))
noncomputable def jr(w:List S3):S3:=w.getLastD (0,0,0)
def fX(w:List S3):W:=.lst<|w.map stW
noncomputable def exN(nm:String)(d:Nat):W:=.exc nm [.int d]
noncomputable def ahs{a}:List (Res a)->Res (List a)|[]=>.ok []|r::rs=>r.bind λx=>(ahs rs).bind λb=>.ok (x::b)
theorem q5{g t e σ}{c:Type}{emb h}:∀{xs:List c},(∀x∈xs,∃a,g (emb x) σ=.ok a/\t a=.ok true/\e a=h x)->ba g t e σ (xs.map emb)=ahs (xs.map h)|[],_=>rfl|x::xs,hh=>by obtain⟨a,b,i,d⟩:=hh x (by simp);have f:=q5 (xs:=xs) λy j=>hh y (by grind);simp [ba,b,i,d,ahs,f]
noncomputable def stR{b:Type}(k:b->W)(x:W):Option b->Res W|some a=>.ok<|k a|none=>.ex x
noncomputable def stN{b:Type}(k:b->W):Option b->W|some a=>k a|none=>.non
@[simp]def ajx{a}(k:a->W)(x):stR k x none=.ex x:=(rfl)
@[simp]def ajy{b}(k)(a:b):stN k (some a)=k a:=(rfl)
theorem qi{c b:Type}{h:b->Option c}{k}{x:b->W}:∀(l:List b),ahs (l.map λi=>stR k (x i)<|h i)=(l.find? λi=>(h i).isNone).elim (.ok<|l.map λi=>stN k<|h i) λi=>.ex<|x i|[]=>rfl|i::l=>by simp [ahs,aqB];cases e:h i with|none=>simp|some a=>rw[qi l];cases l.find? _<;>rfl
def zS{w}(h:w≠[]):jr w∈w:=by cases w with|nil=>exact absurd rfl h|cons x xs=>exact List.getLast_mem h
def pw{b}(xs:List b):atI xs (-1)=xs.getLast?:=by unfold atI ixN;cases xs with|nil=>rfl|cons x xs=>
 have h:¬0 <=-1:=by omega
 rw[an5 h];have a:-((x::xs).length:Int)<=-1:=by grind
 rw[an4 a];simp only[ap7,List.getLast?_eq_getElem?];congr 1;omega
end ML
namespace K52
open PySem WL
noncomputable def i1:W:=.int 8
noncomputable def gO:W:=.int 200
noncomputable def ma:W:=.tup [.tup [.int 0,.int 1],.tup [.int<|-1,.int 0],.tup [.int 0,.int<|-1],.tup [.int 1,.int 0]]
noncomputable def nE:W:=.int 4
noncomputable def ph:W:=.dic [.str "same",.str "left",.str "about",.str "right"] [.int 0,.int 1,.int 2,.int 3]
noncomputable def i0:W:=.tup [.str "inward",.str "outward",.str "sideways"]
noncomputable def vL:W:=.dic [.str "ahead",.str "back",.str "left",.str "right"] [.tup [.int 1,.int 0],.tup [.int<|-1,.int 0],.tup [.int 0,.int<|-1],.tup [.int 0,.int 1]]
def hE:SF:=aD (bq 2<|eOp oMod (eOp fw (eOp cV (eOp cV (eOp cV (eOp oMod (ah 0)<|eI 1000003)<|eOp fw (eOp fw (eI 7919)<|ah 1)<|ah 1)<|ah 1)<|eI 1)<|eI 48271)<|eI 2147483629)<|bg<|eOp oMod (eOp fw (ah 2)<|ah 2)<|eI 2147483587
def aG:List W->Res W:=run 3 hE
def kM:SF:=bg<|eOp oIx (e8<|aa (eI 0)<|aa (eI 0)<|aa (eI 0)<|aa (eI 185)<|aa (eUn lE<|eI 185) ao)<|eOp oMod (ax aG<|aa (ah 0)<|aa (eI 91) ao)<|eI 5
def iV:List W->Res W:=run 1 kM
def fE:SF:=aD (sIf (tB<|eOp oLt (ah 1)<|eBi mh<|aa (ah 0) ao) (bg<|eOp oIx (ah 0)<|ah 1) sNx)<|bg<|eI 0
def bz:List W->Res W:=run 2 fE
def mS:SF:=aD (wD (ah 0)<|kq<|bu (aq 3)<|bu (aq 4)<|bu (aq 5) kr)<|aD (wD (eOp oIx (e8<|aa (dB<|aa (eI 0)<|aa (eI 1) ao)<|aa (dB<|aa (eUn lE<|eI 1)<|aa (eI 0) ao)<|aa (dB<|aa (eI 0)<|aa (eUn lE<|eI 1) ao)<|aa (dB<|aa (eI 1)<|aa (eI 0) ao) ao)<|ah 5)<|kq<|bu (aq 6)<|bu (aq 7) kr)<|bg<|dB<|aa (eOp cV (eOp cV (ah 3)<|eOp fw (ah 1)<|ah 6)<|eOp fw (ah 2)<|ah 7)<|aa (eOp kj (eOp cV (ah 4)<|eOp fw (ah 1)<|ah 7)<|eOp fw (ah 2)<|ah 6) ao
def cn:List W->Res W:=run 8 mS
def mT:SF:=bg<|e8<|aa (eOp cV (ax cn<|aa (dB<|aa (ah 0)<|aa (ah 1)<|aa (ah 2) ao)<|aa (eI 0)<|aa (eUn lE<|eI 1) ao)<|dB<|aa (ah 2) ao)<|aa (eOp cV (ax cn<|aa (dB<|aa (ah 0)<|aa (ah 1)<|aa (ah 2) ao)<|aa (eI 0)<|aa (eI 1) ao)<|dB<|aa (ah 2) ao) ao
def ee:List W->Res W:=run 3 mT
def dY:SF:=aD (bq 9<|eOp cV (ah 9)<|eOp oIx (e8<|aa (eI 1)<|aa (eUn lE<|eI 1) ao)<|eBi mI<|aa (eOp oLt (ah 1)<|eI 0) ao)<|bq 11<|ax ee<|aa (ah 8)<|aa (ah 9)<|aa (eOp oIx (eOp oIx (ah 11)<|eI 0)<|eI 2) ao
def dW:TF:=tOr (tB<|eOp oIn (eSl (eOp oIx (ah 11)<|eI 0) pNo<|en<|eI 2)<|ah 3)<|tB<|eOp oIn (eSl (eOp oIx (ah 11)<|eI 1) pNo<|en<|eI 2)<|ah 3
noncomputable def oG:Ws->Nat:=λ_=>200
def dZ:SF:=aD (bq 7<|ax aG<|aa (ah 0)<|aa (eOp cV (eI 70)<|ah 6) ao)<|aD (bq 8<|eOp cV (eOp cV (eOp kj (eOp fw (eOp oMod (ah 7)<|eI 3)<|eI 4)<|eI 4)<|eOp oDiv (eOp oMod (eOp oDiv (ah 7)<|eI 3)<|eI 4)<|eI 3)<|ah 1)<|aD (bq 9<|eOp kj (eOp kj (eOp oMod (eOp oDiv (ah 7)<|eI 12)<|eI 5)<|eI 2)<|ah 1)<|aD (bq 10<|eOp oIx (e8<|aa (eOp oMod (eOp oDiv (ah 7)<|eI 60)<|eI 4)<|aa (eI 0)<|aa (eOp fw (eOp oMod (eOp oDiv (ah 7)<|eI 60)<|eI 2)<|eI 2) ao)<|eOp oMod (eOp oDiv (ah 7)<|eI 240)<|eI 3)<|aD (sIf (tB<|eOp oEq (eOp oMod (ah 5)<|eI 8)<|eI 1) (aD (bq 10<|eOp oMod (eOp oDiv (ah 5)<|eI 8)<|eI 4)<|wD (ax cn<|aa (dB<|aa (ah 1)<|aa (eOp kj (eI 0)<|ah 1)<|aa (ah 10) ao)<|aa (eI 0)<|aa (eOp kj (eOp fw (eI 4)<|ah 6)<|eI 6) ao)<|kq<|bu (aq 8)<|bu (aq 9) kr) sNx)<|aD (bq 11<|ax ee<|aa (ah 8)<|aa (ah 9)<|aa (ah 10) ao)<|aD (uS oG dW dY)<|aD (bq 3<|eOp cV (ah 3)<|e8<|aa (eSl (eOp oIx (ah 11)<|eI 0) pNo<|en<|eI 2)<|aa (eSl (eOp oIx (ah 11)<|eI 1) pNo<|en<|eI 2) ao)<|aD (n7 4 (eOp oIx (ah 11)<|eI 0)<|eOp oIx (ah 2)<|eOp fw (eI 2)<|ah 6)<|n7 4 (eOp oIx (ah 11)<|eI 1)<|eOp oIx (ah 2)<|eOp cV (eOp fw (eI 2)<|ah 6)<|eI 1
def hG:SF:=aD (bq 2<|nu aG 8 60<|ah 0)<|aD (bq 3<|e8 ao)<|aD (afb 4)<|aD (bq 5<|ax aG<|aa (ah 0)<|aa (eI 82) ao)<|aD (jh (dz<|eI 4) (aq 6) dZ)<|aD (bq 12<|ax aG<|aa (ah 0)<|aa (eI 80) ao)<|aD (sIf (tB<|eOp oEq (eOp oMod (ah 12)<|eI 6)<|eI 1) (aD (wD (aaI 4<|eOp qC (ah 4)<|eOp oMod (eOp oDiv (ah 12)<|eI 6)<|eI 8)<|kq<|bu (aq 8)<|bu (aq 9)<|bu (aq 10) kr)<|n7 4 (dB<|aa (ah 8)<|aa (ah 9)<|aa (eOp oMod (eOp cV (eOp cV (ah 10)<|eI 1)<|eOp oMod (eOp oDiv (ah 12)<|eI 48)<|eI 3)<|eI 4) ao)<|eOp oMod (eOp oDiv (ah 12)<|eI 6)<|eI 8) sNx)<|yO 4<|bg<|eBi gy<|aa (cZ 1 (dz<|eI 8) (aq 0) fF<|eOp qC (ah 5)<|ah 0) ao
def il:List W->Res W:=run 13 hG
def gC:SF:=aD (bq 1<|eOp oDiv (ah 0)<|eI 16)<|aD (bq 2<|eOp oIx (e8<|aa (eS "head")<|aa (eS "side")<|aa (eS "lefts")<|aa (eS "rights")<|aa (eS "inward")<|aa (eS "outward")<|aa (eS "sideways") ao)<|eOp oMod (ah 1)<|eI 7)<|aD (bq 3<|dB<|aa (ah 2) ao)<|aD (sIf (tB<|eOp oGt (eOp oMod (ah 0)<|eI 16)<|eI 6) (aD (bq 4<|eOp kj (eOp oMod (ah 1)<|eI 7)<|eI 3)<|aD (bq 5<|eOp kj (eOp oMod (eOp oDiv (ah 1)<|eI 7)<|eI 7)<|eI 3)<|aD (sIf (tB<|eOp oEq (eOp oMod (eOp oDiv (ah 1)<|eI 49)<|eI 8)<|eI 1) (bq 4<|eOp kj (eOp oMod (eOp oDiv (ah 1)<|eI 392)<|eI 19)<|eI 9) sNx)<|aD (sIf (tB<|eOp oEq (eOp oMod (eOp oDiv (ah 1)<|eI 49)<|eI 8)<|eI 2) (bq 5<|eOp kj (eOp oMod (eOp oDiv (ah 1)<|eI 392)<|eI 19)<|eI 9) sNx)<|aD (sIf (abo (tB<|eOp oEq (ah 4)<|eI 0)<|tB<|eOp oEq (ah 5)<|eI 0) (bq 5<|eI 1) sNx)<|aD (bq 6<|eOp oIx (e8<|aa (eS "none")<|aa (eS "any")<|aa (eS "same")<|aa (eS "left")<|aa (eS "about")<|aa (eS "right")<|aa (eS "partner")<|aa (eS "opposite") ao)<|eOp oMod (eOp oDiv (ah 1)<|eI 7448)<|eI 8)<|bq 3<|dB<|aa (eS "at")<|aa (ah 4)<|aa (ah 5)<|aa (ah 6) ao)<|sIf (tB<|eOp oEq (eOp oMod (ah 0)<|eI 16)<|eI 6) (bq 3<|dB<|aa (eS "inner")<|aa (eOp oIx (e8<|aa (eI 1)<|aa (eI 2)<|aa (eI 3)<|aa (eOp oMod (eOp oDiv (ah 1)<|eI 4)<|eI 201) ao)<|eOp oMod (ah 1)<|eI 4) ao) sNx)<|aD (sIf (tB<|eOp oEq (eOp oMod (eOp oDiv (ah 0)<|eI 3)<|eI 4)<|eI 1) (bg<|dB<|aa (eS "not")<|aa (ah 3) ao) sNx)<|bg<|ah 3
def jw:List W->Res W:=run 7 gC
def mP:SF:=aD (bq 1<|eOp cV (eI 1)<|eOp oMod (eOp oDiv (ah 0)<|eI 8)<|eOp oIx (e8<|aa (eI 3)<|aa (eI 3)<|aa (eI 3)<|aa (eI 9) ao)<|eOp oMod (eOp oDiv (ah 0)<|eI 72)<|eI 4)<|aD (sIf (tB<|eOp oGt (eOp oMod (ah 0)<|eI 8)<|eI 5) (bg<|dB<|aa (eS "turn")<|aa (eOp oIx (e8<|aa (eS "left")<|aa (eS "right")<|aa (eS "about") ao)<|eOp oMod (eOp oDiv (ah 0)<|eI 8)<|eI 3) ao) sNx)<|bg<|dB<|aa (eOp oIx (e8<|aa (eS "ahead")<|aa (eS "ahead")<|aa (eS "ahead")<|aa (eS "back")<|aa (eS "left")<|aa (eS "right") ao)<|eOp oMod (ah 0)<|eI 8)<|aa (ah 1) ao
def jx:List W->Res W:=run 2 mP
def kK:SF:=aD (bq 3<|ax aG<|aa (ah 0)<|aa (eOp cV (eI 40)<|ah 1) ao)<|aD (sIf (tB<|eOp oEq (eOp oMod (ah 3)<|eI 9)<|eI 1) (bg<|dB<|aa (dB<|aa (eS "stay") ao) ao) sNx)<|bg<|eBi gy<|aa (cZ 1 (dz<|eOp cV (eI 1)<|eOp oMod (eOp oDiv (ah 3)<|eI 9)<|ah 2) (aq 0) fF<|ax jx<|aa (ax aG<|aa (ah 1)<|aa (eOp cV (eOp cV (eI 60)<|eOp fw (eI 9)<|ah 2)<|ah 0) ao) ao) ao
def lV:List W->Res W:=run 4 kK
def eN:SF:=aD (bq 5<|eOp oMod (ax aG<|aa (ah 0)<|aa (eOp cV (eI 200)<|ah 4) ao)<|eOp oIx (e8<|aa (eI 3)<|aa (eI 7) ao)<|ah 2)<|aD (sIf (abo (tB<|eOp oEq (eOp cV (ah 4)<|eI 1)<|ah 3)<|tB<|eOp oGt (eOp oMod (ax aG<|aa (ah 0)<|aa (eI 30) ao)<|eI 4)<|eI 0) (bq 5<|eI 0) sNx)<|aD (bq 6<|eBi gy<|aa (cZ 1 (dz<|ah 5) (aq 0) fF<|ax jw<|aa (ax aG<|aa (ah 1)<|aa (eOp cV (eOp cV (eI 300)<|eOp fw (eI 7)<|ah 5)<|ah 0) ao) ao) ao)<|abp 1<|dB<|aa (ah 6)<|aa (ax lV<|aa (ah 0)<|aa (ah 4)<|aa (eOp oIx (e8<|aa (eI 4)<|aa (eI 8) ao)<|ah 2) ao) ao
def jc:SF:=aD (jf 1<|acW ao)<|aD (bq 2<|eBi mI<|aa (eOp oEq (eOp oMod (ax aG<|aa (ah 0)<|aa (eI 31) ao)<|eI 8)<|eI 1) ao)<|aD (bq 3<|eOp cV (eI 1)<|eOp oMod (ax aG<|aa (ah 0)<|aa (eI 20) ao)<|eOp oIx (e8<|aa (eI 4)<|aa (eI 12) ao)<|ah 2)<|aD (jh (dz<|ah 3) (aq 4) eN)<|yO 1<|bg<|ah 1
def nq:List W->Res W:=run 7 jc
def gp:SF:=sIf (abo (tB<|eOp oEq (eSl (eOp oIx (ah 0)<|ah 3) pNo<|en<|eI 2)<|ah 2)<|tB<|eOp oEq (eOp oIx (eOp oIx (ah 0)<|ah 3)<|eI 2)<|eOp oIx (eOp oIx (ah 0)<|ah 1)<|eI 2) (bg<|ah 3) sNx
def mR:SF:=aD (bq 2<|ax cn<|aa (eOp oIx (ah 0)<|ah 1)<|aa (eI 0)<|aa (eI 2) ao)<|aD (jh (dz<|eI 8) (aq 3) gp)<|bg<|eC .non
def nk:List W->Res W:=run 4 mR
def jN:SF:=aD (bq 2<|eOp oIx (ah 0)<|eOp oIx (ah 1)<|eI 0)<|aD (bq 3<|eOp oIx (ah 0)<|eOp oIx (ah 1)<|eI 1)<|bg<|dB<|aa (eOp oDiv (eOp cV (eOp oIx (ah 2)<|eI 0)<|eOp oIx (ah 3)<|eI 0)<|eI 2)<|aa (eOp oDiv (eOp cV (eOp oIx (ah 2)<|eI 1)<|eOp oIx (ah 3)<|eI 1)<|eI 2)<|aa (eOp oIx (ah 2)<|eI 2) ao
def bJ:List W->Res W:=run 4 jN
def bL:SF:=aD (bq 5<|eOp oIx (ah 1)<|ah 4)<|aD (sIf (tB<|eOp oIs (ah 5)<|eC .non) (bg<|eC .non) sNx)<|aD (abp 2<|dB<|aa (ah 4)<|aa (ah 5) ao)<|bq 4<|eOp oIx (ah 1)<|ah 5
def bK:TF:=tB<|eOp gY (ah 4)<|eC .non
noncomputable def oF:Ws->Nat:=λ_=>20
def bM:SF:=sIf (tB<|eOp lD (ah 3)<|ah 1) (aD (bq 4<|ah 3)<|uS oF bK bL) sNx
def kL:SF:=aD (bq 1<|cZ 1 (dz<|eI 8) (aq 0) fF<|ax nk<|aa (ah 1)<|aa (ah 0) ao)<|aD (jf 2<|acW ao)<|aD (jh (dz<|eI 8) (aq 3) bM)<|aD (yO 2<|bq 6<|cZ 1 (iw<|ah 2) (aq 0) fF<|eSl (ax bJ<|aa (ah 1)<|aa (ah 0) ao) pNo<|en<|eI 2)<|aD (sIf (tB<|eOp oLt (tx<|ah 6)<|eBi mh<|aa (ah 6) ao) (bg<|eC .non) sNx)<|yO 2<|bg<|eBi jZ<|aa (ah 2) ao
def lW:List W->Res W:=run 7 kL
def dG:SF:=aD (bq 3<|ax cn<|aa (ah 0)<|aa (eOp oIx (ah 2)<|eI 1)<|aa (eOp fw (eI 2)<|eOp oIx (ah 2)<|eI 2) ao)<|aD (bq 4<|cZ 1 (iw<|ah 1) (aq 0) (tB<|eOp oEq (eSl (ah 0) pNo<|en<|eI 2)<|ah 4)<|eOp oIx (ah 0)<|eI 2)<|aD (sIf (tB<|eOp oIn (eOp oIx (ah 2)<|eI 3)<|dB<|aa (eS "none")<|aa (eS "any") ao) (bg<|eOp oEq (eOp oEq (ah 4)<|e8 ao)<|eOp oEq (eOp oIx (ah 2)<|eI 3)<|eS "none") sNx)<|aD (sIf (tOr (tB<|eOp oEq (ah 4)<|e8 ao)<|tB<|eOp oIn (eOp oIx (ah 2)<|eI 3)<|dB<|aa (eS "partner")<|aa (eS "opposite") ao) (bg<|eC<|.bl false) sNx)<|bg<|eOp oEq (eOp oMod (eOp kj (eOp oIx (ah 4)<|eI 0)<|eOp oIx (ah 0)<|eI 2)<|eI 4)<|aiY "list" gh (e8<|aa (eS "same")<|aa (eS "left")<|aa (eS "about")<|aa (eS "right") ao)<|aa (eOp oIx (ah 2)<|eI 3) ao
def fW:List W->Res W:=run 5 dG
def gf:SF:=aD (sIf (tB<|eOp oEq (ah 2)<|eS "inner") (bg<|eOp oLe (eBi mf<|aa (eBi rF<|aa (eOp oIx (ah 0)<|eI 0) ao)<|aa (eBi rF<|aa (eOp oIx (ah 0)<|eI 1) ao) ao)<|ah 3) sNx)<|aD (sIf (tB<|eOp oIn (ah 2)<|dB<|aa (eS "head")<|aa (eS "side") ao) (bg<|eOp oEq (eOp oMod (eOp oDiv (ah 1)<|eI 2)<|eI 2)<|eBi mI<|aa (eOp oEq (ah 2)<|eS "side") ao) sNx)<|bg<|eOp oEq (eOp oMod (ah 1)<|eI 2)<|eBi mI<|aa (eOp oEq (ah 2)<|eS "rights") ao
def ez:List W->Res W:=run 4 gf
def cz(a:List W->Res W):SF:=aD (sIf (tB<|eOp oEq (eOp oIx (ah 3)<|eI 0)<|eS "not") (bg<|aet<|ax a<|aa (ah 0)<|aa (ah 1)<|aa (ah 2)<|aa (eOp oIx (ah 3)<|eI 1) ao) sNx)<|aD (bq 4<|ax bJ<|aa (ah 0)<|aa (ah 1) ao)<|aD (sIf (tB<|eOp oEq (eOp oIx (ah 3)<|eI 0)<|eS "at") (bg<|ax fW<|aa (ah 4)<|aa (ah 2)<|aa (ah 3) ao) sNx)<|aD (sIf (tB<|eOp oIn (eOp oIx (ah 3)<|eI 0)<|dB<|aa (eS "inward")<|aa (eS "outward")<|aa (eS "sideways") ao) (aD (wD (ax cn<|aa (ah 4)<|aa (eI 1)<|aa (eI 0) ao)<|kq<|bu (aq 5)<|bu (aq 6) kr)<|aD (bq 7<|eOp kj (eBi mf<|aa (eBi rF<|aa (ah 5) ao)<|aa (eBi rF<|aa (ah 6) ao) ao)<|eBi mf<|aa (eBi rF<|aa (eOp oIx (ah 4)<|eI 0) ao)<|aa (eBi rF<|aa (eOp oIx (ah 4)<|eI 1) ao) ao)<|bg<|eOp oEq (ah 7)<|eOp oIx (ang<|aa (eS "inward")<|aa (eUn lE<|eI 1)<|aa (eS "outward")<|aa (eI 1)<|aa (eS "sideways")<|aa (eI 0) ao)<|eOp oIx (ah 3)<|eI 0) sNx)<|aD (bq 8<|eOp oIx (ah 3)<|eUn lE<|eI 1)<|aD (bq 9<|cZ 1 (iw<|ah 1) (aq 0) fF<|ax ez<|aa (eOp oIx (ah 1)<|ah 0)<|aa (ah 0)<|aa (eOp oIx (ah 4)<|eI 0)<|aa (ah 9) ao)<|bg<|eOp oEq (ah 9)<|e8<|aa (eC<|.bl true)<|aa (eC<|.bl true) ao
noncomputable def aP:Nat->List W->Res W|0=>λ_=>.bad|n+1=>run 10<|cz<|aP n
def cj:SF:=sIf (tB<|eOp oEq (cZ 1 (iw<|ah 4) (aq 0) (yy<|tB<|ax (aP 3)<|aa (ah 1)<|aa (ah 2)<|aa (ah 3)<|aa (ah 0) ao)<|ah 0)<|e8 ao) (bg<|ah 5) sNx
def gc:SF:=aD (jh (iw<|ah 3) (kq<|bu (aq 4)<|bu (aq 5) kr) cj)<|bg<|eC .non
def gv:List W->Res W:=run 6 gc
def gb:SF:=aD (bq 2<|eOp oIx (ah 1)<|eI 0)<|aD (sIf (tB<|eOp oEq (ah 2)<|eS "turn") (bg<|eOp cV (eSl (ah 0) pNo<|en<|eI 2)<|dB<|aa (eOp oMod (eOp cV (eOp oIx (ah 0)<|eI 2)<|aiY "list" gh (e8<|aa (eS "")<|aa (eS "left")<|aa (eS "about")<|aa (eS "right") ao)<|aa (eOp oIx (ah 1)<|eI 1) ao)<|eI 4) ao) sNx)<|aD (bq 3<|eOp oIx (ah 1)<|eI 1)<|aD (bq 4<|eOp fw (ah 3)<|eOp kj (eBi mI<|aa (eOp oEq (ah 2)<|eS "ahead") ao)<|eBi mI<|aa (eOp oEq (ah 2)<|eS "back") ao)<|aD (bq 5<|eOp fw (eOp fw (eI 2)<|ah 3)<|eOp kj (eBi mI<|aa (eOp oEq (ah 2)<|eS "right") ao)<|eBi mI<|aa (eOp oEq (ah 2)<|eS "left") ao)<|bg<|eOp cV (ax cn<|aa (ah 0)<|aa (ah 4)<|aa (ah 5) ao)<|eSl (ah 0) (en<|eI 2) pNo
def cY:List W->Res W:=run 6 gb
def bc:SF:=sIf (tB<|eOp oNe (ah 4)<|dB<|aa (eS "stay") ao) (abp 3<|aaI 3<|ax cY<|aa (eOp oIx (ah 3)<|eUn lE<|eI 1)<|aa (ah 4) ao) sNx
def bb:RF Tw:=xS (mm<|bq 6<|ax ee<|aa (eOp oIx (ah 5)<|eI 0)<|aa (eOp oIx (ah 5)<|eI 1)<|aa (eOp oIx (ah 5)<|eI 2) ao)<|xS (x6 2 false<|eOp oIx (ah 6)<|eI 0)<|x6 2 true<|eOp oIx (ah 6)<|eI 1
def dF:SF:=ahn 2<|xS (mm<|jf 3<|acW<|aa (ah 0) ao)<|xS (mm<|jh (iw<|ah 1) (aq 4) bc)<|xS (ajp 3<|x5 (iw<|ah 3) 5 bb)<|x4 2
def dJ:List W->Res W:=run 7 dF
def bN:SF:=aD (bq 6<|ax gv<|aa (ah 0)<|aa (ah 5)<|aa (ah 3)<|aa (ah 1) ao)<|aD (sIf (tB<|eOp oIs (ah 6)<|eC .non) (bg<|e8<|aa (eS "Blind")<|aa (eOp oIx (ah 5)<|eI 0) ao) sNx)<|aD (bq 7<|ax dJ<|aa (ax bJ<|aa (ah 0)<|aa (ah 5) ao)<|aa (ah 6) ao)<|aD (n7 4 (eOp oIx (ah 7)<|eI 0)<|eOp oIx (ah 5)<|eI 0)<|n7 4 (eOp oIx (ah 7)<|eI 1)<|eOp oIx (ah 5)<|eI 1
def fM:SF:=sIf (adR 4<|tB<|eOp oNe (cZ 1 (iw<|eOp qC (ah 4)<|ah 8) (aq 0) (tB<|eOp oGt (eBi mf<|aa (eBi rF<|aa (eOp oIx (ah 0)<|eI 0) ao)<|aa (eBi rF<|aa (eOp oIx (ah 0)<|eI 1) ao) ao)<|eI 200)<|ah 0)<|e8 ao) (bg<|e8<|aa (eS "Out")<|aa (ah 8) ao) sNx
def fL:SF:=sIf (tB<|eOp oEq (eSl (eOp oIx (ah 9)<|ah 10) pNo<|en<|eI 2)<|eSl (eOp oIx (ah 9)<|ah 11) pNo<|en<|eI 2) (bg<|e8<|aa (eS "Meet")<|aa (ah 10)<|aa (ah 11) ao) sNx
def cF:SF:=jh (sW (eOp cV (ah 10)<|eI 1)<|eI 8) (aq 11) fL
def pU:SF:=aD (bq 2<|ax lW<|aa (ah 0) ao)<|aD (sIf (tB<|eOp oIs (ah 2)<|eC .non) (bg<|e8<|aa (eS "NoPairs") ao) sNx)<|aD (bq 3<|cZ 1 (iw<|ah 2) (aq 0) fF<|ax bJ<|aa (ah 1)<|aa (ah 0) ao)<|aD (afb 4)<|aD (jh (iw<|ah 2) (aq 5) bN)<|aD (jh (dz<|eI 8) (aq 8) fM)<|aD (bq 9<|aaI 4<|eBi gy<|aa (cZ 1 (dz<|eI 8) (aq 0) fF<|eOp oIx (eOp qC (ah 5)<|ah 0)<|eUn lE<|eI 1) ao)<|aD (jh (dz<|eI 8) (aq 10) cF)<|bg<|ah 9
def qQ:List W->Res W:=run 12 pU
def kJ:SF:=bg<|xl (eBi bj<|aa (ah 0)<|aa (eC<|.ty "int") ao)<|aet<|eBi bj<|aa (ah 0)<|aa (eC<|.ty "bool") ao
def s9:List W->Res W:=run 1 kJ
def eM(a:List W->Res W):SF:=sIf (yy<|tB<|ax a<|aa (ah 2)<|aa (ah 3) ao) ab0 sNx
def mQ(a:List W->Res W):SF:=aD (sIf (tB<|eBi fP<|aa (ah 1)<|aa (dB<|aa (eC<|.ty "list")<|aa (eC<|.ty "tuple") ao) ao) (aD (sIf (tOr (tB<|eOp oNe (eBi bj<|aa (ah 0)<|aa (eC<|.ty "list") ao)<|eBi bj<|aa (ah 1)<|aa (eC<|.ty "list") ao)<|tB<|eOp oNe (eBi bj<|aa (ah 0)<|aa (eC<|.ty "tuple") ao)<|eBi bj<|aa (ah 1)<|aa (eC<|.ty "tuple") ao) ab0 sNx)<|aD (sIf (tB<|eOp oNe (eBi mh<|aa (ah 0) ao)<|eBi mh<|aa (ah 1) ao) ab0 sNx)<|aD (jh (aiJ (ah 0)<|ah 1) (kq<|bu (aq 2)<|bu (aq 3) kr)<|eM a)<|bg<|eC<|.bl true) sNx)<|aD (sIf (tB<|eBi bj<|aa (ah 1)<|aa (eC<|.ty "str") ao) (bg<|xl (eBi bj<|aa (ah 0)<|aa (eC<|.ty "str") ao)<|eOp oEq (ah 0)<|ah 1) sNx)<|bg<|xl (ax s9<|aa (ah 0) ao)<|eOp oEq (ah 0)<|ah 1
noncomputable def aO:Nat->List W->Res W|0=>λ_=>.bad|n+1=>run 4<|mQ<|aO n
def pT:SF:=bg<|dB<|aa (eOp oIx (ah 0)<|eI 0)<|aa (eOp oIx (ah 0)<|eI 1) ao
def fj:List W->Res W:=run 1 pT
def fh:SF:=sIf (tB<|eOp oEq (ax fj<|aa (ah 3) ao)<|ah 1) (bg<|ah 2) sNx
def uE:SF:=aD (jh (ac4<|ah 0) (kq<|bu (aq 2)<|bu (aq 3) kr) fh)<|bg<|eC .non
def ku:List W->Res W:=run 4 uE
def g9:SF:=aD (bq 3<|eOp oIx (eC ma)<|eOp oIx (ah 0)<|eI 2)<|aD (bq 4<|eOp cV (eOp fw (eOp oIx (ah 3)<|eI 0)<|ah 1)<|eOp fw (eOp oIx (ah 3)<|eI 1)<|ah 2)<|aD (bq 5<|eOp kj (eOp fw (eOp oIx (ah 3)<|eI 1)<|ah 1)<|eOp fw (eOp oIx (ah 3)<|eI 0)<|ah 2)<|bg<|dB<|aa (eOp cV (eOp oIx (ah 0)<|eI 0)<|ah 4)<|aa (eOp cV (eOp oIx (ah 0)<|eI 1)<|ah 5) ao
def di:List W->Res W:=run 6 g9
def jL:SF:=aD (bq 2<|eOp oIx (ah 0)<|ah 1)<|aD (bq 3<|ax ku<|aa (ah 0)<|aa (ax di<|aa (ah 2)<|aa (eI 0)<|aa (eI 2) ao) ao)<|bg<|eIf (abo (tB<|eOp gY (ah 3)<|eC .non)<|tB<|eOp oEq (eOp oIx (eOp oIx (ah 0)<|ah 3)<|eI 2)<|eOp oIx (ah 2)<|eI 2) (ah 3)<|eC .non
def jV:List W->Res W:=run 4 jL
def dn:SF:=aD (sIf (tB<|eOp oNe (eOp oMod (eBi mh<|aa (ah 0) ao)<|eI 2)<|eI 0) (rW "NoPairs"<|aa (eFr<|ah 0) ao) sNx)<|bg<|cZ 1 (aai (eI 0)<|eBi mh<|aa (ah 0) ao) (aq 0) fF<|dB<|aa (eOp oIx (ah 1)<|ah 0)<|aa (eOp oIx (ah 1)<|eOp cV (ah 0)<|eI 1) ao
def bT:List W->Res W:=run 1 dn
def gk:SF:=abp 2<|aaI 2<|eOp oIx (ah 0)<|eOp oIx (ah 2)<|eUn lE<|eI 1
def gj:TF:=adR 2<|tB<|eOp gY (eOp oIx (ah 0)<|eOp oIx (ah 2)<|eUn lE<|eI 1)<|eC .non
noncomputable def qH:Ws->Nat:=λ_=>20
def jb:SF:=aD (jf 2<|acW<|aa (ah 1) ao)<|aD (uS qH gj gk)<|yO 2<|bg<|ah 2
def ju:List W->Res W:=run 3 jb
def cg:SF:=sIf (tB<|eOp oEq (ax fj<|aa (eOp oIx (ah 0)<|ah 1) ao)<|ax fj<|aa (eOp oIx (ah 0)<|ah 2) ao) (bg<|dB<|aa (ah 1)<|aa (ah 2) ao) sNx
def bH:SF:=jh (sW (eOp cV (ah 1)<|eI 1)<|eBi mh<|aa (ah 0) ao) (aq 2) cg
def eg:SF:=aD (jh (dz<|eBi mh<|aa (ah 0) ao) (aq 1) bH)<|bg<|eC .non
def cb:List W->Res W:=run 3 eg
def uG:SF:=aD (bq 2<|ax di<|aa (ah 0)<|aa (eI 0)<|aa (ah 1) ao)<|bg<|dB<|aa (eOp oIx (ah 2)<|eI 0)<|aa (eOp oIx (ah 2)<|eI 1)<|aa (eOp oIx (ah 0)<|eI 2) ao
def iX:List W->Res W:=run 3 uG
def jM:SF:=bg<|cZ 1 (iw<|ah 1) (aq 0) fF<|ax iX<|aa (eOp oIx (ah 1)<|eOp oIx (ah 0)<|eI 0)<|aa (eI 1) ao
def dA:List W->Res W:=run 2 jM
def bZ:SF:=sIf (tB<|eOp lD (ah 3)<|ah 1) (ago 2<|fk bT<|aa (ax ju<|aa (ah 1)<|aa (ah 3) ao) ao) sNx
def mO:SF:=aD (bq 1<|cZ 1 (dz<|eC i1) (aq 0) fF<|ax jV<|aa (ah 1)<|aa (ah 0) ao)<|aD (jf 2<|acW ao)<|aD (jh (dz<|eC i1) (aq 3) bZ)<|aD (sIf (adR 2<|tB<|eOp gY (ax cb<|aa (ax dA<|aa (ah 0)<|aa (ah 2) ao) ao)<|eC .non) (adZ "NoPairs"<|aa (eS "two pairs of one middle") ao) sNx)<|yO 2<|bg<|eBi jZ<|aa (ah 2) ao
def jv:List W->Res W:=run 4 mO
def fN:List W->Res W:=amI "PairedFloor" jv dA
def f9:SF:=bg<|eOp oMod (eOp cV (ah 0)<|eOp oIx (eC ph)<|ah 1)<|eC nE
def ew:List W->Res W:=run 2 f9
def yv:SF:=aD (sIf (tB<|eOp oIs (ah 2)<|eC .non) (bg<|eOp oEq (ah 3)<|eS "none") sNx)<|aD (sIf (tB<|eOp oIn (ah 3)<|dB<|aa (eS "none")<|aa (eS "any") ao) (bg<|eOp oEq (ah 3)<|eS "any") sNx)<|bg<|eOp oEq (eOp oIx (eOp oIx (ah 1)<|ah 2)<|eI 2)<|ax ew<|aa (eOp oIx (ah 0)<|eI 2)<|aa (ah 3) ao
def oS:List W->Res W:=run 4 yv
def cT:SF:=aD (sIf (tB<|eOp oIn (eOp oIx (ah 2)<|eI 3)<|dB<|aa (eS "partner")<|aa (eS "opposite") ao) (bg<|eC<|.bl false) sNx)<|aD (bq 3<|eOp oIx (iq "PairedFloor" 2<|ah 0)<|ah 1)<|aD (bq 4<|ax ku<|aa (iq "PairedFloor" 2<|ah 0)<|aa (ax di<|aa (ah 3)<|aa (eOp oIx (ah 2)<|eI 1)<|aa (eOp fw (eI 2)<|eOp oIx (ah 2)<|eI 2) ao) ao)<|bg<|ax oS<|aa (ah 3)<|aa (iq "PairedFloor" 2<|ah 0)<|aa (ah 4)<|aa (eOp oIx (ah 2)<|eI 3) ao
def bQ:List W->Res W:=run 5 cT
def mV:SF:=bg<|eBi mf<|aa (eBi rF<|aa (eOp oIx (ah 0)<|eI 0) ao)<|aa (eBi rF<|aa (eOp oIx (ah 0)<|eI 1) ao) ao
def gL:List W->Res W:=run 1 mV
def nY:SF:=aD (bq 1<|ax gL<|aa (ax fj<|aa (ah 0) ao) ao)<|aD (bq 2<|ax gL<|aa (ax di<|aa (ah 0)<|aa (eI 1)<|aa (eI 0) ao) ao)<|aD (sIf (tB<|eOp oEq (ah 2)<|ah 1) (bg<|eS "sideways") sNx)<|bg<|eIf (tB<|eOp oLt (ah 2)<|ah 1) (eS "inward")<|eS "outward"
def lX:List W->Res W:=run 3 nY
def pY:SF:=bg<|eOp oEq (eOp oMod (eOp oDiv (ah 0)<|eI 2)<|eI 2)<|eI 0
def aaw:List W->Res W:=run 1 pY
def pX:SF:=bg<|eOp oEq (eOp oMod (ah 0)<|eI 2)<|eI 0
def aav:List W->Res W:=run 1 pX
def pW:SF:=aD (sIf (tB<|eOp oIn (ah 1)<|dB<|aa (eS "head")<|aa (eS "side") ao) (bg<|eOp oEq (ax aaw<|aa (ah 0) ao)<|eOp oEq (ah 1)<|eS "head") sNx)<|bg<|eOp oEq (ax aav<|aa (ah 0) ao)<|eOp oEq (ah 1)<|eS "lefts"
def aau:List W->Res W:=run 2 pW
def yw:SF:=aD (bq 3<|eOp oIx (ah 2)<|eI 0)<|aD (sIf (tB<|eOp oEq (ah 3)<|eS "not") ab0 sNx)<|aD (sIf (tB<|eOp oEq (ah 3)<|eS "at") ab0 sNx)<|aD (sIf (tB<|eOp oEq (ah 3)<|eS "inner") (bg<|eOp oLe (ax gL<|aa (ax fj<|aa (eOp oIx (ah 0)<|ah 1) ao) ao)<|eOp oIx (ah 2)<|eI 1) sNx)<|aD (sIf (tB<|eOp oIn (ah 3)<|eC i0) ab0 sNx)<|bg<|ax aau<|aa (ah 1)<|aa (ah 3) ao
def oU:List W->Res W:=run 4 yw
def bF(a:List W->Res W):SF:=aD (sIf (tB<|eOp oEq (eOp oIx (ah 2)<|eI 0)<|eS "not") (bg<|aet<|iZ "PairedFloor" a (ah 0)<|aa (ah 1)<|aa (eOp oIx (ah 2)<|eI 1) ao) sNx)<|aD (sIf (tB<|eOp oEq (eOp oIx (ah 2)<|eI 0)<|eS "at") (bg<|iZ "PairedFloor" bQ (ah 0)<|aa (ah 1)<|aa (ah 2) ao) sNx)<|aD (sIf (tB<|eOp oIn (eOp oIx (ah 2)<|eI 0)<|eC i0) (bg<|eOp oEq (ax lX<|aa (eOp oIx (iq "PairedFloor" 2<|ah 0)<|ah 1) ao)<|eOp oIx (ah 2)<|eI 0) sNx)<|bg<|eBi abr<|aa (cZ 1 (iw<|eOp oIx (iq "PairedFloor" 1<|ah 0)<|ah 1) (aq 0) fF<|ax oU<|aa (iq "PairedFloor" 0<|ah 1)<|aa (ah 0)<|aa (ah 3) ao) ao
noncomputable def aC:Nat->List W->Res W|0=>λ_=>.bad|n+1=>run 3<|bF<|aC n
def aW:SF:=sIf (tB<|eBi abr<|aa (jW 1 (iw<|eOp oIx (ah 3)<|eI 0) (aq 0) fF<|iZ "PairedFloor" (aC 3) (ah 1)<|aa (ah 2)<|aa (ah 0) ao) ao) (bg<|eOp oIx (ah 3)<|eI 1) sNx
def cM:SF:=aD (jh (iw<|ah 2) (aq 3) aW)<|hV "Blind"<|aa (eOp oIx (eOp oIx (iq "PairedFloor" 1<|ah 0)<|ah 1)<|eI 0) ao
def bI:List W->Res W:=run 4 cM
def gU:SF:=aD (sIf (tB<|eOp oEq (eOp oIx (ah 1)<|eI 0)<|eS "turn") (bg<|dB<|aa (eOp oIx (ah 0)<|eI 0)<|aa (eOp oIx (ah 0)<|eI 1)<|aa (ax ew<|aa (eOp oIx (ah 0)<|eI 2)<|aa (eOp oIx (ah 1)<|eI 1) ao) ao) sNx)<|aD (bq 2<|eOp oIx (eC vL)<|eOp oIx (ah 1)<|eI 0)<|aD (bq 3<|ax di<|aa (ah 0)<|aa (eOp fw (eOp oIx (ah 2)<|eI 0)<|eOp oIx (ah 1)<|eI 1)<|aa (eOp fw (eOp oIx (ah 2)<|eI 1)<|eOp oIx (ah 1)<|eI 1) ao)<|bg<|dB<|aa (eOp oIx (ah 3)<|eI 0)<|aa (eOp oIx (ah 3)<|eI 1)<|aa (eOp oIx (ah 0)<|eI 2) ao
def e7:List W->Res W:=run 4 gU
def jq:SF:=sIf (tB<|eOp oNe (eOp oIx (ah 3)<|eI 0)<|eS "stay") (abp 2<|aaI 2<|ax e7<|aa (eOp oIx (ah 2)<|eUn lE<|eI 1)<|aa (ah 3) ao) sNx
def uF:SF:=aD (jf 2<|acW<|aa (ah 0) ao)<|aD (jh (iw<|ah 1) (aq 3) jq)<|yO 2<|bg<|ah 2
def vB:List W->Res W:=run 4 uF
def pS:SF:=bg<|eIf (tB<|eOp oIn (eOp oIx (ah 0)<|eI 0)<|dB<|aa (eS "left")<|aa (eS "right") ao) (dB<|aa (eOp oIx (ah 0)<|eI 0)<|aa (eOp fw (eI 2)<|eOp oIx (ah 0)<|eI 1) ao)<|ah 0
def lU:List W->Res W:=run 1 pS
def gE:SF:=aD (bq 1<|ax cb<|aa (ah 0) ao)<|aD (sIf (tB<|eOp gY (ah 1)<|eC .non) (hV "Meet"<|aa (eOp oIx (ah 1)<|eI 0)<|aa (eOp oIx (ah 1)<|eI 1) ao) sNx)<|bg<|eBi gy<|aa (ah 0) ao
def gJ:List W->Res W:=run 2 gE
def gD:SF:=bg<|xl (eBi bj<|aa (ah 0)<|aa (eC<|.ty "int") ao)<|aet<|eBi bj<|aa (ah 0)<|aa (eC<|.ty "bool") ao
def gH:List W->Res W:=run 1 gD
def jd:SF:=bg<|xl (ax gH<|aa (ah 0) ao)<|nv oLe oLe (eUn lE<|eC gO) (ah 0)<|eC gO
def gI:List W->Res W:=run 1 jd
def hJ:SF:=bg<|xl (ax gH<|aa (ah 0) ao)<|nv oLe oLt (eI 0) (ah 0)<|eBi mh<|aa (eC ma) ao
def ip:List W->Res W:=run 1 hJ
def mU:SF:=aD (sIf (tOr (yy<|tB<|eBi bj<|aa (ah 0)<|aa (eC<|.ty "tuple") ao)<|tB<|eOp oNe (eBi mh<|aa (ah 0) ao)<|eI 3) (bg<|eC<|.bl false) sNx)<|bg<|xl (ax gI<|aa (eOp oIx (ah 0)<|eI 0) ao)<|xl (ax gI<|aa (eOp oIx (ah 0)<|eI 1) ao)<|ax ip<|aa (eOp oIx (ah 0)<|eI 2) ao
def nr:List W->Res W:=run 1 mU
def ik:SF:=sIf (yy<|tB<|eBi abr<|aa (cZ 1 (iw<|eSl (ah 2) (en<|eI 1) pNo) (aq 0) fF<|ax nr<|aa (ah 0) ao) ao) (hV "Out"<|aa (ah 1) ao) sNx
def pV:SF:=aD (jh (ac4<|ah 0) (kq<|bu (aq 1)<|bu (aq 2) kr) ik)<|bg<|ah 0
def iW:List W->Res W:=run 3 pV
def bO:SF:=aD (bq 7<|ax vB<|aa (eOp oIx (iq "PairedFloor" 2<|ah 2)<|ah 5)<|aa (cZ 1 (iw<|eOp oIx (ah 3)<|ah 5) (aq 0) fF<|ax lU<|aa (ah 0) ao) ao)<|aD (wD (cZ 1 (iw<|ah 7) (aq 0) fF<|ax iX<|aa (ah 0)<|aa (eUn lE<|eI 1) ao)<|abq 4<|eOp oIx (ah 6)<|eI 0)<|wD (cZ 1 (iw<|ah 7) (aq 0) fF<|ax iX<|aa (ah 0)<|aa (eI 1) ao)<|abq 4<|eOp oIx (ah 6)<|eI 1
def fb:SF:=aD (bq 2<|qV "PairedFloor" fN<|aa (ah 0) ao)<|aD (bq 3<|jW 1 (dz<|eBi mh<|aa (iq "PairedFloor" 1<|ah 2) ao) (aq 0) fF<|iZ "PairedFloor" bI (ah 3)<|aa (ah 0)<|aa (ah 2) ao)<|aD (jf 4<|sR 1 (dz<|eC i1) (aq 0) fF<|e8 ao)<|aD (jh (ac4<|iq "PairedFloor" 1<|ah 2) (kq<|bu (aq 5)<|bu (aq 6) kr) bO)<|yO 4<|bg<|fk gJ<|aa (cZ 1 (iw<|fk iW<|aa (ah 4) ao) (aq 0) fF<|eOp oIx (ah 0)<|eUn lE<|eI 1) ao
def dk:List W->Res W:=run 8 fb
def kN:SF:=aD (bq 1<|e8<|aa (eBi pq<|aa (ah 0)<|aa (eC<|.cls "Blind") ao)<|aa (eBi pq<|aa (ah 0)<|aa (eC<|.cls "Out") ao)<|aa (eBi pq<|aa (ah 0)<|aa (eC<|.cls "Meet") ao)<|aa (eBi pq<|aa (ah 0)<|aa (eC<|.cls "NoPairs") ao) ao)<|aD (bq 2<|e8<|aa (eBi pq<|aa (ah 0)<|aa (eC<|.cls "Broken") ao)<|aa (eBi pq<|aa (ah 0)<|aa (eC<|.cls "NoCall") ao)<|aa (eBi pq<|aa (ah 0)<|aa (eC<|.cls "NoName") ao)<|aa (eBi pq<|aa (ah 0)<|aa (eC<|.cls "NoProgram") ao) ao)<|aD (bq 2<|eOp cV (ah 2)<|e8<|aa (eBi pq<|aa (ah 0)<|aa (eC<|.cls "NoRow") ao)<|aa (eBi pq<|aa (ah 0)<|aa (eC<|.cls "NotEven") ao)<|aa (eBi pq<|aa (ah 0)<|aa (eC<|.cls "TooMany") ao) ao)<|aD (sIf (tOr (tB<|eOp oNe (aiY "list" m9 (ah 1)<|aa (eC<|.bl true) ao)<|eI 1)<|tOr (tB<|eOp oIn (eC<|.bl true)<|ah 2)<|yy<|tB<|eBi pq<|aa (ah 0)<|aa (eC<|.ty "ValueError") ao) ab0 sNx)<|aD (sIf (tB<|eOp oIx (ah 1)<|eI 3) (bg<|e8<|aa (eS "NoPairs") ao) sNx)<|aD (sIf (tB<|eOp oIx (ah 1)<|eI 2) (bg<|e8<|aa (eS "Meet")<|aa (aj1 (ah 0) "one")<|aa (aj1 (ah 0) "other") ao) sNx)<|bg<|e8<|aa (eOp oIx (e8<|aa (eS "Blind")<|aa (eS "Out") ao)<|eBi mI<|aa (eOp oIx (ah 1)<|eI 1) ao)<|aa (aj1 (ah 0) "who") ao
def eA:List W->Res W:=run 3 kN
def bX:SF:=bq 2<|fk dk<|aa (ah 0)<|aa (ah 1) ao
def cL:SF:=bq 2<|ax eA<|aa (ah 3) ao
def dg:SF:=aD (bq 2<|eC .non)<|aD (uT bX "FloorError" 3 cL)<|bg<|ah 2
def dj:List W->Res W:=run 4 dg
def ig:SF:=aD (bq 5<|ax nq<|aa (eOp cV (ah 2)<|eOp fw (eI 7)<|ah 4) ao)<|aD (bq 6<|ax qQ<|aa (ah 3)<|aa (ah 5) ao)<|aD (sIf (yy<|tB<|ax (aO 3)<|aa (ax dj<|aa (ah 3)<|aa (ah 5) ao)<|aa (ah 6) ao) ab0 sNx)<|sIf (tB<|eBi bj<|aa (ah 6)<|aa (eC<|.ty "tuple") ao) (bq 3<|ah 6) sNx
def ij:SF:=aD (bq 3<|ax il<|aa (ah 2)<|aa (ah 1) ao)<|jh (dz<|eI 2) (aq 4) ig
def abR:SF:=aD (bq 1<|ax iV<|aa (ax bz<|aa (ah 0)<|aa (eI 0) ao) ao)<|aD (jh (iw<|eOp cV (e8<|aa (ax bz<|aa (ah 0)<|aa (eI 1) ao) ao)<|eSl (ah 0) (en<|eI 2)<|en<|eI 32) (aq 2) ij)<|bg<|eC<|.bl true
def af2:List W->Res W:=run 7 abR
end K52
namespace K52
open PySem WL ML
def aL{i e R σ v}(h:e σ=.ok v):aD (bq i e) R σ=R (σ.set i<|.va v):=by simp[h]
def v_t{c a b R σ}(h:c σ=.ok true):aD (sIf c a b) R σ=aD a R σ:=by simp[h]
def v_f{c a b R σ}(h:c σ=.ok false):aD (sIf c a b) R σ=aD b R σ:=by simp[h]
def ja{a b R σ}:aD (aD a b) R σ=aD a (aD b R) σ:=by simp ;cases a σ<;>rfl
def gT{R σ}:aD sNx R σ=R σ:=rfl
def uz{c i e R σ b x y}(P:Out->Prop)(a:c σ=.ok b)(f:e σ=.ok x)(d:σ.set i (.va y)=σ)(h:∀z,z=x\/z=y->P (R<|σ.set i<|.va z)):P (aD (sIf c (bq i e) sNx) R σ):=by
 cases b;.rw[v_f a];have:=h y<|.inr rfl;rw[d]at this;exact this
 .rw[v_t a,aL f];exact h x<|.inl rfl
def pO{a b σ x y}(h:a σ=.ok x)(g:b σ=.ok y):dB (aa a<|aa b ao) σ=.ok (.tup [x,y]):=by simp_all
def n0{a b σ x y}(h:a σ=.ok x)(g:b σ=.ok y):abo a b σ=.ok (x&&y):=by cases x<;>simp[h,g]
def aE{r a b σ x y z}(h:a σ=.ok x)(g:b σ=.ok y)(k:r x y=.ok z):eOp r a b σ=.ok z:=by simp_all
def bU{f a σ xs w}(h:a σ=.ok xs)(g:f xs=.ok w):ax f a σ=.ok w:=by simp_all
def iB{e σ w}(h:e σ=.ok w):bg e σ=.rt w:=by simp[h]
def uw{e R σ w}(h:e σ=.ok w):aD (bg e) R σ=.rt w:=by simp[h]
def agY{a σ x}(h:a σ=.ok x):dB (aa a ao) σ=.ok (.tup [x]):=by simp[h]
def abO{e σ p}(h:e σ=.ok (stW p)):eSl e pNo (en<|eI 2) σ=.ok (spW<|ay p):=by simp[h]
def bV{e a σ x xs}(h:e σ=.ok x)(k:a σ=.ok xs):aa e a σ=.ok (x::xs):=by simp_all
def fB{e σ b}(h:e σ=.ok (.bl b)):tB e σ=.ok b:=by simp[h]
def nV{it g t e σ xs vs}(h:it σ=.ok xs)(a:xs.length<=1000000)(k:ba g t e (.no::σ) xs=.ok vs):cZ 1 it g t e σ=.ok (.lst vs):=by simp_all
def ag0{e σ x xs v vs}(h:e (.va x::σ)=.ok v)(k:ba (aq 0) fF e (.no::σ) xs=.ok vs):ba (aq 0) fF e (.no::σ) (x::xs)=.ok (v::vs):=by simp[ba,h,k]
def wb{e g R σ a w}(h:e σ=.ok w)(k:g w σ=.ok a):aD (wD e g) R σ=R a:=by simp_all
def uC(h:a σ=.ok xs)(g:f xs=.ok w):eBi f a σ=.ok w:=by simp_all
def aju(h:e σ=.ok w)(g:itemsOf w=.ok xs):iw e σ=.ok xs:=by simp_all
def akp{it g t e σ xs r}(h:it σ=.ok xs)(a:xs.length<=lim)(k:ba g t e (List.replicate 1 .no++xV σ) xs=r):jW 1 it g t e σ=r.bind λxs=>.ok (.lst xs):=by simp only[aaG,zU,h,me,an4 a,k]
def adM(h:e σ=.ok w)(k:aiS c n w=.ok v):iq c n e σ=.ok v:=by rw[show iq c n e σ=(e σ).bind _ from rfl,h];exact k
def ajt(h:o σ=.ok y)(n:isN c y=true)(k:a σ=.ok ws)(g:fn (y::ws)=r):iZ c fn o a σ=r:=by rw[show iZ c _ o a σ=(o σ).bind _ from rfl,h];exact(an4 n).trans (by rw[k];exact g)
def bw{g b x xs σ a σ2 o}(c:g x σ=.ok a)(e:b a=.nx σ2)(d:forL g b xs σ2=o):forL g b (x::xs) σ=o:=by rw[cW,c,lC,e];exact d
def amw{i ws}{k:Nat}(h:σ[i]?=some (.ow ws))(g:e σ=.ok (.int k))(hk:k<ws.length):abq i e w σ=.ok (σ.set i<|.ow<|ws.set k w):=by have:=abV σ i ws w k (by simp) (by omega);simp[h,g]at this⊢;exact this
def anA{e:EF}{g}(h:e σ=.ok w)(k:g w σ=.ok σ'):wD e g σ=.nx σ':=by simp_all
def akq{i L w}(h:σ[i]?=some (.ow L))(a:L.length<1000000)(k:e (σ.set i<|.va<|.lst L)=.ok w)(p:plain w=true):abp i (aaI i e) σ=.nx (σ.set i<|.ow<|L++[w]):=by simp_all
def v_i{c a b σ}(h:c σ=.ok true):sIf c a b σ=a σ:=by simp[h]
def v_not(h:e σ=.ok (.bl b)):aet e σ=.ok (.bl !b):=by simp_all
def ams{t}(h:t σ=.ok b):yy t σ=.ok !b:=by simp[h]
def anv(h:a σ=.ok ws)(k:ws.length=(WL.fieldsOf nm).length/\ws.all mY=true):hV nm a σ=.ex (.exc nm ws) σ:=by rw[jg,h,lC,an4 k]
def amt(h:e σ=.ex x):aD (bq k e) R σ=.ex x σ:=by simp[h]
def ajs{e σ j}(h:e σ=.ok (.int j))(b:-2^62<=j/\j<2^62):dz e σ=.ok (rng 0 j.toNat):=by simp_all
def ant{it:LF}(h:it σ=.ex x):bg (fk f<|aa (cZ 1 it g t e) ao) σ=.ex x σ:=by simp[h]
def anu{e:EF}(h:e σ=.ok x):fin (bg (fk f<|aa e ao) σ)=f [x]:=by simp[h];cases f _<;>rfl
def abN{a b}(h:a σ=.nx σ'):aD a b σ=b σ':=by simp[h]
def agZ{j K U}(h:σ[j]?=some (.od K U))(k1:ev σ=.ok v)(k2:ek σ=.ok k)(g:putD j K U k v σ=o):n7 j ev ek σ=o:=by unfold n7;rw[h,k1,k2];exact g
def amv(h:c σ=.ok false):sIf c a sNx σ=.nx σ:=by simp[h]
def akn(h:e σ=.ok v):bq k e σ=.nx (σ.set k<|.va v):=by simp[h]
def ajr(h:l σ=.ok ws):aD (jf k l) R σ=R (σ.set k<|.ow ws):=by simp[h]
def ag1{i L}(h:σ[i]?=some (.ow L))(a:L.length<1000000)(k:e σ=.ok w):abp i e σ=.nx (σ.set i<|.ow<|L++[w]):=by simp_all
def v_w(h:c σ=.ok true):df c b (m+1) σ=mC (b σ) (df c b m):=by rw[fA,h];rfl
def akm(h:c σ=.ok false):df c b (m+1) σ=.nx σ:=by rw[fA,h];rfl
def amr(h:c σ=.ok true)(k:b σ=.nx σ'):df c b (m+1) σ=df c b m σ':=by rw[v_w h,k];rfl
def vA{g b x xs σ a o}(c:g x σ=.ok a)(d:b a=o)(h:∀k,mC o k=o):forL g b (x::xs) σ=o:=by rw[cW,c,lC,d];exact h _
def anz(h:a σ=.ok xs)(g:f xs=r):fk f a σ=r:=by simp_all
def ajv(h:t (frz i σ)=o):yO i t σ=o:=h
def ako(h:a σ=.ok xs)(b:xs.length<=lim):e8 a σ=.ok (.lst xs):=by simp_all
def anB{xs ys}(h:xs.length+ys.length<=lim):cV (.lst xs) (.lst ys)=.ok (.lst<|xs++ys):=an4 h
def ahe{a b}(h:a σ=.ok x)(g:b σ=.ok y):tOr a b σ=.ok (x||y):=by cases x<;>simp[h,g]
def amx{g b}(h:it σ=.ok xs)(k:forL g b xs σ=.nx σ'):aD (jh it g b) R σ=R σ':=by simp_all
def v_bor(h:t (frz i σ)=.ok b):adR i t σ=.ok b:=by rw[yz,h];rfl
theorem jt{c d:Type}{emb g a A b}(l:b=sIf a A sNx)(p)(T:c->Out)(f:∀x k,mC (T x) k=T x)(S:d->Ws)(q:c->d):∀(xs:List c),(∀x∈xs,(∀o,g (emb x) (S o)=.ok (S<|q x))/\a (S<|q x)=.ok (p x)/\A (S<|q x)=T x)->∀o,match xs.find? p with|some x=>forL g b (xs.map emb) (S o)=T x|none=>∃n,forL g b (xs.map emb) (S o)=.nx (S n)
|[],_,o=>⟨o,rfl⟩|x::xs,h,o=>by obtain⟨j,r,m⟩:=h x (by simp);subst l;rw[aor,cW,j,lC,aqB,yN,r];cases e:p x with|true=>exact(an8 (mC . _) m).trans (f x _)|false=>exact jt rfl p T f S q xs (λy i=>h y<|by simp[i])<|q x
noncomputable def cU(hs:Nat->Option Nat):Nat->Nat->List Nat|0,d=>[d]|n+1,d=>d::match hs d with|some k=>cU hs n k|none=>[]
def qj(hs)(n d):d∈cU hs n d:=by cases n<;>simp[cU]
structure Hands(hs:Nat->Option Nat)(rk:Nat->Nat):Prop where
 lt:∀d k,d<8->hs d=some k->k<8inj:∀d e k,d<8->e<8->hs d=some k->hs e=some k->d=e
 rl:∀d,d<8->rk d<8up:∀d k,d<8->hs d=some k->rk d<rk k
section
variable{hs:Nat->Option Nat}{rk:Nat->Nat}(H:Hands hs rk)
include H
theorem k8:∀n d,d<8->∀x∈cU hs n d,x<8/\rk d<=rk x
|0,d,hd,x,c=>by simp[cU]at c;subst c;exact⟨hd,aob _⟩|n+1,d,hd,x,c=>by
 rcases an7.mp c with rfl|c;.exact⟨hd,aob _⟩
 .cases e:hs d with|none=>rw[e]at c;cases c|some k=>rw[e]at c;obtain⟨a,b⟩:=k8 n k (H.lt d k hd e) x c;have:=H.up d k hd e;exact⟨a,by omega⟩
theorem ad1:∀n d,d<8->(cU hs n d).Nodup
|0,d,_=>by simp[cU]|n+1,d,hd=>by
 refine aoN.mpr ⟨λb=>?_,?_⟩;.cases e:hs d with|none=>rw[e]at b;cases b|some k=>rw[e]at b;have a:=(k8 H n k (H.lt d k hd e) d b).2;have:=H.up d k hd e;omega
 .cases e:hs d with|none=>exact arB|some k=>exact ad1 n k<|H.lt d k hd e
theorem uU:∀n d,d<8->8<=n+rk d+1->∀x∈cU hs n d,∀k,hs x=some k->k∈cU hs n d
|0,d,hd,hn,x,c,k,e=>by simp[cU]at c;subst c;have a:=H.up x k hd e;have b:=H.rl k<|H.lt x k hd e;omega|n+1,d,hd,hn,x,c,k,e=>by
 rcases an7.mp c with rfl|c;.refine aog _ ?_;rw[e];exact qj _ n k
 .refine aog _ ?_;cases f:hs d with|none=>rw[f]at c;cases c|some k0=>rw[f]at c;have a:=H.up d k0 hd f;exact uU n k0 (H.lt d k0 hd f) (by omega) x c k e
omit H in theorem kg:∀n d x,x∈cU hs n d->x=d\/∃y∈cU hs n d,hs y=some x
|0,d,x,a=>by simp[cU]at a;exact .inl a|n+1,d,x,a=>by
 rcases an7.mp a with rfl|a;.exact .inl rfl
 .right;cases e:hs d with|none=>rw[e]at a;cases a|some k=>
  rw[e]at a;rcases kg n k x a with rfl|⟨y,c,b⟩;.exact⟨d,aol,e⟩
  .exact⟨y,aog _ (by grind),b⟩
theorem qh{d e}(l:d<8)(i:e<8)(k:∀y,y<8->hs y≠some d)(m:∀y,y<8->hs y≠some e)(n):∀r x,rk x<r->x∈cU hs n d->x∈cU hs n e->d=e
|0,_,h,_,_=>absurd h<|aph _|r+1,x,h,h1,h2=>by
  rcases kg n d x h1 with rfl|⟨y,f,b⟩
  .rcases kg n e x h2 with rfl|⟨y,f,b⟩;.rfl
   .exact(k y (k8 H n e i y f).1 b).elim
  .have g:=(k8 H n d l y f).1;rcases kg n e x h2 with rfl|⟨o,c,j⟩;.exact(m y g b).elim
   .have:=H.inj y _ x g (k8 H n e i _ c).1 b j;subst this;have a:=H.up y x g b;exact qh l i k m n r y (by omega) f c
noncomputable def startB(hs:Nat->Option Nat)(d:Nat):Bool:=(List.range 8).all λy=>hs y !=some d
omit H in theorem mX{d}:startB hs d=true↔∀y,y<8->hs y≠some d:=by simp[startB]
theorem qg:∀r d,rk d<r->d<8->∃s,s<8/\startB hs s=true/\d∈cU hs 8 s
|0,_,h,_=>absurd h<|aph _|r+1,d,h,hd=>by
  by_cases f:startB hs d=true;.exact⟨d,hd,f,qj _ 8 d⟩
  .have:=by simpa[startB]using f
   obtain⟨y,b,c⟩:=this;have a:=H.up y d b c;obtain⟨s,e,i,g⟩:=qg r y (by omega) b;exact⟨s,e,i,uU H 8 s e (by omega) y g d c⟩
omit H in def rX(hs:Nat->Option Nat):List (List Nat):=((List.range 8).filter<|startB hs).map<|cU hs 8
theorem yS:(rX hs).flatten.Perm (List.range 8):=by
 refine(List.perm_ext_iff_of_nodup ?_ apf).mpr λd=>?_
 .refine List.pairwise_flatten.mpr ⟨λl f=>?_,?_⟩;.obtain⟨s,c,rfl⟩:=aox.mp f;have:=aoc.mp (aoX.mp c).1;exact ad1 H 8 s this
  .refine List.pairwise_map.mpr (List.Pairwise.imp_of_mem ?_<|apf.filter _);intro a b n p e x g y j i;subst i;have k:=aoX.mp n;have m:=aoX.mp p;exact e<|qh H (aoc.mp k.1) (aoc.mp m.1) (mX.mp k.2) (mX.mp m.2) 8 _ x (apx _) g j
 .constructor;.intro h;obtain⟨l,f,o⟩:=List.mem_flatten.mp h;obtain⟨s,c,rfl⟩:=aox.mp f;exact aoc.mpr (k8 H 8 s (aoc.mp (aoX.mp c).1) d o).1
  .intro h;obtain⟨s,g,j,q⟩:=qg H _ d (apx _)<|aoc.mp h;exact List.mem_flatten.mpr ⟨_,aox.mpr ⟨s,aoX.mpr ⟨aoc.mpr g,j⟩,rfl⟩,q⟩
end
noncomputable def two2:List Nat->List (Nat×Nat)|a::b::l=>(a,b)::two2 l|_=>[]
theorem two2_flat:∀l,l.length%2=0->(two2 l).flatMap (λp=>[p.1,p.2])=l|[],_=>rfl|[_],h=>by grind|a::b::l,h=>by have:=two2_flat l (by grind);simp[two2,this]
theorem m6:∀a:List (List Nat),(∀l∈a,l.length%2=0)->(a.flatMap two2).flatMap (λp=>[p.1,p.2])=a.flatten|[],_=>rfl|l::a,h=>by rw[List.flatMap_cons,List.flatMap_append,two2_flat l<|h l aol,m6 _ λx b=>h x<|aog _ b];rfl
theorem oQ:∀ps:List (Nat×Nat),(ps.flatMap λp=>[p.1,p.2]).length=2*ps.length|[]=>rfl|p::ps=>by rw[List.flatMap_cons,aoY,oQ _];simp;omega
def wK{hs b}(H:Hands hs b)(h:∀l∈rX hs,l.length%2=0):((rX hs).flatMap two2).length=4/\∀d,d<8↔∃p∈(rX hs).flatMap two2,d=p.1\/d=p.2:=by
 have e:=m6 _ h;have P:=yS H;constructor;.have a:=oQ<|(rX hs).flatMap two2;rw[e,P.length_eq,apv]at a;omega
 .intro d;rw[<-aoc,<-P.mem_iff,<-e];simp
def rhO(f:List S3)(d:Nat):Option Nat:=match kf (sfp (f.getD d (0,0,0)) 0 2) 0 f with|some k=>if aX f k=aX f d then some k else none|none=>none
theorem rM(s):∀f k i,kf s k f=some i->ay (f.getD (i-k) (0,0,0))=s
|[],_,_,h=>by simp[kf]at h|p::f,k,i,h=>by
 simp [kf]at h;split at h;.rename_i a;cases h;simpa using a
 .have b:=f7 s _ f i h;have:=rM s f (k+1) i h;obtain⟨j,rfl⟩:∃j,i=k+1+j:=⟨i-(k+1),by omega⟩;rw[show k+1+j-k=j+1 by omega];simpa using this
def fH{f d k}(h:rhO f d=some k):k<f.length/\ay (f.getD k (0,0,0))=sfp (f.getD d (0,0,0)) 0 2/\(f.getD k (0,0,0)).2.2=(f.getD d (0,0,0)).2.2:=by unfold rhO at h;cases e:kf (sfp (f.getD d (0,0,0)) 0 2) 0 f with|none=>rw[e]at h;cases h|some j=>
 rw[e]at h;simp only at h;split at h;.rename_i a;cases h;have c:=f7 _ 0 f k e;have b:=rM _ f 0 k e;exact⟨by omega,b,a⟩
 .cases h
noncomputable def aiB(p:S3):Int:=if p.2.2=0 then p.1 else if p.2.2=1 then p.2.1 else if p.2.2=2 then -p.1 else -p.2.1
def ais{p q}(a:ay q=sfp p 0 2)(b:q.2.2=p.2.2):aiB q=aiB p+2:=by
 obtain⟨x,y,c⟩:=p;subst b;simp only[ay,sfp]at a;simp only[aiB];split at a;.simp only[ao1]at a;simp[*]
 .split at a;.simp only[ao1]at a;simp[*]
  .split at a;.simp only[ao1]at a;simp[*];omega
   .simp only[ao1]at a;simp[*];omega
def ae0{p q m n}(h:sfp p m n=sfp q m n)(a:p.2.2=q.2.2):ay p=ay q:=by
 obtain⟨x,y,c⟩:=p;subst a;simp only[sfp]at h;simp only[ay];split at h;.simp only[ao1]at h⊢;omega
 .split at h;.simp only[ao1]at h⊢;omega
  .split at h<;>(simp only[ao1]at h⊢;omega)
def two_at{f}(j:cK f){d e}(a:d<f.length)(b:e<f.length)(h:ay (f.getD d (0,0,0))=ay (f.getD e (0,0,0))):d=e:=by
 have g:∀i(c:i<f.length),f.getD i (0,0,0)=f[i]:=λi c=>by rw[aoe,aod c];rfl
 rw[g d a,g e b]at h;rcases aq2 d e with z|z|z;.exact(apu.mp j d e a b z h).elim
 .exact z
 .exact(apu.mp j e d b a z h.symm).elim
theorem vH{p q}:∀l:List Nat,(∀x∈l,p x=true->q x=true)->(∃x∈l,q x=true/\p x=false)->l.countP p<l.countP q
|[],_,h=>by grind|a::l,h,b=>by
  have i:l.countP p<=l.countP q:=List.countP_mono_left λx b=>h x<|aog _ b;rw[arl,arl];by_cases f:p a=true
  .have d:=h a aol f;obtain⟨x,c,g,e⟩:=b;rcases an7.mp c with rfl|c;.rw[f]at e;cases e
   .have:=vH l (λx b=>h x<|aog _ b) ⟨x,c,g,e⟩;simp[f,d];omega
  .by_cases d:q a=true;.simp[f,d];omega
   .obtain⟨x,c,g,e⟩:=b;rcases an7.mp c with rfl|c;.exact(d g).elim
    .have:=vH l (λx b=>h x<|aog _ b) ⟨x,c,g,e⟩;simp[f,d];omega
def agu(f:List S3)(d e:Nat):Bool:=decide ((f.getD e (0,0,0)).2.2=(f.getD d (0,0,0)).2.2)&&decide (aiB (f.getD e (0,0,0))<aiB (f.getD d (0,0,0)))
def rkF(f:List S3)(d:Nat):Nat:=(List.range 8).countP<|agu f d
def oN{f:List S3}(hl:f.length=8)(ha:cK f):Hands (rhO f) (rkF f)where
 lt d k _ h:=by have:=(fH h).1;omega
 inj d e k hd he h1 h2:=by obtain⟨_,a1,a2⟩:=fH h1;obtain⟨_,b1,b2⟩:=fH h2;exact two_at ha (by omega) (by omega) (ae0 (a1.symm.trans b1)<|a2.symm.trans b2)
 rl d hd:=by have h:=vH (p:=agu f d) (q:=λ_=>true) (List.range 8) (λ_ _ _=>rfl) ⟨d,aoc.mpr hd,rfl,by simp[agu]⟩;rw[List.countP_true,apv]at h;exact h
 up d k hd h:=by
  obtain⟨_,a1,a2⟩:=fH h;have hk:=ais a1 a2;refine vH _ (λx _ hx=>?_) ⟨d,aoc.mpr hd,?_,?_⟩;.simp only[agu,aoo,aoJ]at hx⊢;exact⟨hx.1.trans a2.symm,by omega⟩
  .simp only[agu,aoo,aoJ];exact⟨a2.symm,by omega⟩
  .simp[agu]
noncomputable def ikT(k t:String):Option Bool:=if["int","bool","str","list","tuple"].contains t then some (k==t||k=="bool"&&t=="int")else none
def am4(x t):isK (.int x) t=ikT "int" t:=(rfl)
def aiR(l):alQ (.lst l)=if shC l=true then .ok (.lst l)else .bad:=(rfl)
def agB(x y xs ys):ug (x::xs) (y::ys)=.tup [x,y]::ug xs ys:=(rfl)
def iH{n:Nat}(h:n<1000):mY (.int n)=true:=by
 show decide _=true;simp;by_cases z:n=0;.rw[z];decide
 .rw[Nat.log2_lt z];exact an6 h (by simp)
def acw(n)(l:List Nat):gP (n+1) (l.map λk:Nat=>.int k)=true:=ou n _ _ λ_ _=>rfl
def ani(x y f)(m n)(d:0<=f)(c:f<4):∃a b,oIx ma (.int f)=.ok (.tup [.int a,.int b])/\oIx (.lst [.tup [.int 0,.int 1],.tup [.int<|-1,.int 0],.tup [.int 0,.int<|-1],.tup [.int 1,.int 0]]) (.int f)=.ok (.tup [.int a,.int b])/\(-2<a/\a<2)/\(-2<b/\b<2)/\sfp (x,y,f) m n=(x+(a*m+b*n),y+(b*m-a*n)):=by
 have r:f=0\/f=1\/f=2\/f=3:=by grind
 rcases r with rfl|rfl|rfl|rfl;.exact⟨0,1,rfl,rfl,by decide,by decide,by simp[sfp]⟩
 .exact⟨-1,0,rfl,rfl,by decide,by decide,by simp[sfp,aqQ]⟩
 .exact⟨0,-1,rfl,rfl,by decide,by decide,by simp[sfp,aqQ]⟩
 .exact⟨1,0,rfl,rfl,by decide,by decide,by simp[sfp,aqQ]⟩
def yF(p)(m n)(k:0<=p.2.2)(f:p.2.2<4):di [stW p,.int m,.int n]=.ok (spW<|sfp p m n):=by obtain⟨a,b,g,_,d,c,e⟩:=ani p.1 p.2.1 p.2.2 m n k f;rw[e];have o:∀i,-2<i/\i<2->∀j,fw (.int i) (.int j)=.ok (.int<|i*j):=λi h j=>fU j (by omega) (by omega);exact an8 fin (a₁:=g9 [.va<|stW p,.va<|.int m,.va<|.int n,.no,.no,.no]) (a₂:=.rt _)<|(aL<|aE rfl rfl g).trans<|(aL<|aE (aE (x:=.int a) (y:=.int m) rfl rfl<|o a d m) (aE (x:=.int b) (y:=.int n) rfl rfl<|o b c n) rfl).trans<|(aL<|aE (r:=kj) (aE (x:=.int b) (y:=.int m) rfl rfl<|o b c m) (aE (x:=.int a) (y:=.int n) rfl rfl<|o a d n) rfl).trans rfl
def dh(p):fj [stW p]=.ok (spW<|ay p):=rfl
theorem nO(F)(s):∀f k a b,fin (gW (forL (kq<|bu (aq 2)<|bu (aq 3) kr) fh (iY k<|f.map stW) [.va F,.va<|spW s,a,b])<|bg<|eC .non)=.ok (aeH s k f)
|[],k,a,b=>rfl|p::f,k,a,b=>by
 simp [iY,cW];by_cases h:ay p=s;.simp[fh,dh,h,aeH]
 .have c:=nO F s f (k+1) (.va<|.int k)<|.va<|stW p;simp[fh,dh,h,aeH]at c⊢;exact c
def agP(f)(s):ku [flW f,spW s]=.ok (aeH s 0 f):=by exact nO _ s f 0 _ _
def oR{f}{k:Nat}(hk:k<f.length):oIx (flW f) (.int k)=.ok (stW<|f.getD k (0,0,0)):=by refine aeb (by simp) ?_;rw[aq0,aoe,aod hk];rfl
def vp{f S}(a:S=flW f\/S=.lst (f.map stW)){k}(hk:k<f.length):oIx S (.int k)=.ok (stW<|f.getD k (0,0,0)):=by
 have e:f[k]?=some (f.getD k (0,0,0)):=by grind
 rcases a with rfl|rfl;.exact aeb (by simp) (by grind)
 .rw[fK,gz,aoy,e];rfl
def afM{f S}(a:S=flW f\/S=.lst (f.map stW)):mh [S]=.ok (.int f.length):=by rcases a with rfl|rfl<;>simp[flW]
theorem lS{j k:Type}{emb g b}(p:j->Option k)(F:k->W)(R:Ws->Prop):∀(xs:List j)a,R a->(∀x∈xs,∀a,R a->∃d,g (emb x) a=.ok d/\match p x with|some y=>b d=.rt (F y)|none=>∃c,b d=.nx c/\R c)->match xs.findSome? p with|some y=>forL g b (xs.map emb) a=.rt (F y)|none=>∃i,forL g b (xs.map emb) a=.nx i/\R i
|[],a,h,_=>⟨a,rfl,h⟩|x::xs,a,h,hs=>by obtain⟨d,m,f⟩:=hs x (by simp) a h;rw[aor,cW,m,lC,List.findSome?_cons];cases e:p x with|some y=>rw[e]at f;simp only at f⊢;rw[f];rfl|none=>rw[e]at f;obtain⟨c,n,o⟩:=f;rw[n];exact lS p F R xs c o λy l=>hs y (by simp[l])
def eqB(f:List S3)(i j:Nat):Option (Nat×Nat):=if ay (f.getD i (0,0,0))=ay (f.getD j (0,0,0))then some (i,j)else none
def vi(f:List S3):Option (Nat×Nat):=(List.range f.length).findSome? λi=>(List.range<|f.length-(i+1)).findSome? λk=>eqB f i<|i+1+k
def sO(f):vi f=none↔cK f:=by simp only[vi,List.findSome?_eq_none_iff,aoc,eqB,ite_eq_right_iff,reduceCtorEq];refine⟨λh=>px λa b c g=>?_,λh i e k d=>vQ h (by omega)<|by omega⟩;have:=h a (by omega) (b-(a+1)) (by omega);rwa[show a+1+(b-(a+1))=b by omega]at this
def aij{f p}(h:vi f=some p):p.1<f.length/\p.2<f.length:=by obtain⟨i,b,h⟩:=aqw h;obtain⟨k,a,h⟩:=aqw h;have:=aoc.mp a;unfold eqB at h;split at h<;>cases h;constructor<;>omega
def vj{f u v b0 b1}(F:Nat×Nat->W)(S:Sl->Sl->Ws)(m:∀x o p,aq u x (S o p)=.ok (S (.va x) p))(r:∀x o p,aq v x (S o p)=.ok (S o<|.va x))(n:∀i:Nat,i<f.length->∀p,b0 (S (.va<|.int i) p)=forL (aq v) b1 (rng (i+1)<|f.length-(i+1)) (S (.va<|.int i) p))(q:∀i j:Nat,i<f.length->j<f.length->b1 (S (.va<|.int i)<|.va<|.int j)=if decide (ay (f.getD i (0,0,0))=ay (f.getD j (0,0,0)))then .rt (F (i,j))else .nx (S (.va<|.int i)<|.va<|.int j)):match vi f with|some p=>forL (aq u) b0 (rng 0 f.length) (S .no .no)=.rt (F p)|none=>∃o p,forL (aq u) b0 (rng 0 f.length) (S .no .no)=.nx (S o p):=by
 have L:=lS (emb:=λi:Nat=>W.int<|0+(i:Nat)) (g:=aq u) (b:=b0) (λi=>(List.range<|f.length-(i+1)).findSome? λk=>eqB f i<|i+1+k) F (λc=>∃o p,c=S o p) (List.range f.length) (S .no .no) ⟨_,_,rfl⟩ (by
 rintro i d c⟨o,p,rfl⟩;have d:=aoc.mp d;refine⟨_,m _ _ _,?_⟩;rw[apk,n i d];have M:=lS (emb:=λk:Nat=>W.int<|(i:Int)+1+(k:Nat)) (g:=aq v) (b:=b1) (λk=>eqB f i<|i+1+k) F (λc=>∃p,c=S (.va<|.int i) p) (List.range<|f.length-(i+1)) (S (.va<|.int i) p) ⟨_,rfl⟩ (by
  rintro k l c⟨p,rfl⟩;have l:=aoc.mp l;refine⟨_,r _ _ _,?_⟩;rw[show(i:Int)+1+(k:Nat)=((i+1+k:Nat):Int)by omega,q i _ d<|by omega];unfold eqB;by_cases e:ay (f.getD i (0,0,0))=ay (f.getD (i+1+k) (0,0,0));.rw[an4 e,an4<|aoC e]
  .rw[an5 e,an5<|by simpa using e];exact⟨_,rfl,_,rfl⟩);revert M;cases(List.range<|f.length-(i+1)).findSome? λk=>eqB f i (i+1+k)with|some y=>exact id|none=>exact λ⟨a,e,p,h⟩=>⟨a,e,_,p,h⟩);revert L;unfold vi;cases(List.range f.length).findSome? _ with|some y=>exact id|none=>exact λ⟨a,e,o,p,h⟩=>⟨o,p,h▸e⟩
noncomputable def meW:Option (Nat×Nat)->W|some p=>.tup [.int p.1,.int p.2]|none=>.non
def fV(f)(n:f.length<=100):cb [.lst<|f.map stW]=.ok (meW<|vi f):=by
 have d:=afM (f:=f)<|.inr rfl;have b:=λ{k}=>vp (f:=f) (S:=.lst<|f.map stW) (.inr rfl) (k:=k);have b1:(f.length:Int)<4611686018427387904:=by omega
 have c:-4611686018427387904<=(f.length:Int):=by omega
 generalize W.lst (f.map stW)=S at *;have M:=vj (f:=f) (u:=1) (v:=2) (b0:=bH) (b1:=cg) (λp=>meW<|some p) (λo p=>[.va S,o,p]) (λ_ _ _=>rfl) (λ_ _ _=>rfl) λi a p=>by
  have h:(i:Int)+1<4611686018427387904:=by omega
  have l:-4611686018427387904<=(i:Int)+1:=by omega
  have m:((f.length:Int)-((i:Int)+1)).toNat=f.length-(i+1):=by omega
  simp[bH,d,b1,h,c,l,m] λi j a g=>by rw[cg,yN,fB<|aE (bU (bV (aE rfl rfl<|b a) rfl)<|dh _) (bU (bV (aE rfl rfl<|b g) rfl)<|dh _)<|vb _ _];rfl
 have e:cb [S]=fin (gW (forL (aq 1) bH (rng 0 f.length) [.va S,.no,.no])<|bg<|eC .non):=by simp[cb,eg,List.replicate,d,b1,c]
 rw[e];revert M;cases vi f with|some p=>exact λM=>by rw[M];rfl|none=>exact λ⟨_,_,M⟩=>by rw[M];rfl
def sZ(f)(d:f.length<=100):gJ [.lst<|f.map stW]=match vi f with|some p=>.ex<|.exc "Meet" [.int p.1,.int p.2]|none=>.ok (flW f):=by
 have e:=fV f d;have a:(f.map stW).length<=1000000:=by simp;omega
 have g:flW f=.tup (f.map stW):=rfl;rw[g];cases h:vi f with|none=>rw[h]at e;simp[gJ,gE,List.replicate,e,meW,a]|some p=>obtain⟨i,j⟩:=aij h;have c:=iH (n:=p.1) (by omega);have b:=iH (n:=p.2) (by omega);rw[h]at e;simp[gJ,gE,List.replicate,e,meW,jg,WL.fieldsOf,c,b,show xf (.tup [.int p.1,.int p.2])=false from rfl]
def n8(f)(o:f.length=8)(l:∀p∈f,Fac p)(d:Nat)(n:d<8):jV [flW f,.int d]=.ok (onW<|rhO f d):=by have j:=oR (f:=f) (k:=d) (by omega);have i:Fac (f.getD d (0,0,0)):=l _ (by rw[aoe,aod<|by omega];exact apO _);have h:=agP f<|sfp (f.getD d (0,0,0)) 0 2;rw[yd]at h;refine(an8 fin<|(aL<|aE rfl rfl j).trans<|aL<|bU (bV rfl<|bV (bU rfl<|yF _ 0 2 i.1 i.2) rfl) h).trans ?_;unfold rhO;cases e:kf (sfp (f.getD d (0,0,0)) 0 2) 0 f with|none=>rfl|some k=>
 have m:=oR (f:=f) (k:=k) (by have:=(f7 _ 0 f k e).2;omega);have c:=n0 (σ:=[.va<|flW f,.va<|.int d,.va<|stW<|f.getD d (0,0,0),.va<|.int k]) (a:=tB<|eOp gY (ah 3)<|eC .non) (b:=tB<|eOp oEq (eOp oIx (eOp oIx (ah 0)<|ah 3)<|eI 2)<|eOp oIx (ah 2)<|eI 2) (x:=true) rfl<|fB<|aE (aE (aE rfl rfl m) rfl rfl) rfl rfl;refine(an8 (λr=>fin<|ofR _ (Res.bind r _) _) c).trans ?_;show _=Res.ok (onW<|if aX f k=aX f d then some k else none);by_cases g:aX f k=aX f d;.rw[an4 g,show eqv (.int (f.getD k (0,0,0)).2.2) (.int (f.getD d (0,0,0)).2.2)=true from aoC g];rfl
 .rw[an5 g,show eqv (.int (f.getD k (0,0,0)).2.2) (.int (f.getD d (0,0,0)).2.2)=false from aoq g];rfl
noncomputable def nW(l:List Nat):List W:=l.map λk:Nat=>.int k
def hsW(hs:Nat->Option Nat):W:=.lst ((List.range 8).map λd=>onW<|hs d)
def ac5(hs){d:Nat}(a:d<8):oIx (hsW hs) (.int d)=.ok (onW<|hs d):=by unfold hsW;rw[fK,gz,aoy,apj a];rfl
def ko(l)(d:Nat):oIx (.lst<|nW<|l++[d]) (.int<|-1)=.ok (.int d):=by rw[fK,pw];simp[nW]
def yT{hs i}(H:Hands hs i)(F):∀n m d c,d<8->8<=n+i d+1->n<m->c.length+n<1000->df gj gk m [.va<|hsW hs,.va F,.ow<|nW<|c++[d]]=.nx [.va<|hsW hs,.va F,.ow<|nW<|c++cU hs n d]:=by intro n;induction n with
|zero=>intro m d c g j l o;obtain⟨m,rfl⟩:∃k,m=k+1:=⟨m-1,by omega⟩;have f:=ac5 hs g;cases e:hs d with|none=>rw[e]at f;exact akm<|v_bor<|fB<|aE (aE rfl (aE rfl rfl<|ko c d) f) rfl rfl|some k=>have a:=H.up d k g e;have b:=H.rl k<|H.lt d k g e;omega
|succ n h=>intro m d c g j l o;obtain⟨m,rfl⟩:∃k,m=k+1:=⟨m-1,by omega⟩;have f:=ac5 hs g;unfold cU;cases e:hs d with|none=>rw[e]at f;exact akm<|v_bor<|fB<|aE (aE rfl (aE rfl rfl<|ko c d) f) rfl rfl|some k=>rw[e]at f;have a:=H.up d k g e;have h:=h m k (c++[d]) (H.lt d k g e) (by omega) (by omega) (by simp;omega);rw[show c++d::cU hs n k=c++[d]++cU hs n k by simp,<-h,show nW (c++[d]++[k])=nW (c++[d])++[.int k]by simp[nW]];exact amr (v_bor<|fB<|aE (aE rfl (aE rfl rfl<|ko c d) f) rfl rfl) (akq rfl (by simp[nW];omega) (aE rfl (aE rfl rfl<|ko c d) f) rfl)
def rY{hs a}(H:Hands hs a){d:Nat}(b:d<8):ju [hsW hs,.int d]=.ok (.lst<|nW<|cU hs 8 d):=an8 fin (a₁:=jb _) (a₂:=.rt _) ((ajr rfl).trans<|(abN<|yT H _ 8 20 d [] b (by omega) (by decide)<|by decide).trans rfl)
noncomputable def prW(p:Nat×Nat):W:=.tup [.int p.1,.int p.2]
theorem two2_ix:∀l,l.length%2=0->(List.range<|l.length/2).map (λi=>prW (l.getD (2*i) 0,l.getD (2*i+1) 0))=(two2 l).map prW
|[],_=>rfl|[_],h=>by simp at h|a::b::l,h=>by
 have e:(a::b::l).length/2=l.length/2+1:=by grind
 rw[e,List.range_succ_eq_map,aor,aoR,two2,aor,<-two2_ix l (by grind)];rfl
theorem adY:∀l,(∀x∈l,x<1000)->shL (nW l)=some (12*l.length+3)|[],_=>rfl|a::l,h=>by have c:=h a aol;show(if(a:Int).natAbs<1000 then(shL<|nW l).map _ else none)=_;rw[an4 (by omega),adY l λx b=>h x<|aog _ b];congr 1
def aeZ(l)(h:∀x∈l,x<1000)(a:l.length<=100):shC (nW l)=true:=by unfold shC;rw[adY l h,show gP 51 (nW l)=true from acw _ l];simp;omega
def vg(l){i:Nat}(h:i<l.length):oIx (.lst<|nW l) (.int i)=.ok (.int<|l.getD i 0):=by rw[fK,gz];simp[nW,h]
def lh(l)(h:∀x∈l,x<1000)(n:l.length<=100):bT [.lst<|nW l]=if l.length%2=0 then .ok (.lst<|(two2 l).map prW)else .ex (.exc "NoPairs" []):=by
 have e:(nW l).length=l.length:=by simp[nW]
 by_cases c:l.length%2=0
 .rw[an4 c];have a:(l.length:Int)%2=0:=by omega
  have b:∀A:List Sl,ba (aq 0) fF (dB<|aa (eOp oIx (ah 1)<|ah 0)<|aa (eOp oIx (ah 1)<|eOp cV (ah 0)<|eI 1) ao) (.no::.va (.lst<|nW l)::A) (ab3 0 2<|l.length/2)=.ok ((two2 l).map prW):=λA=>by rw[<-two2_ix l c];refine bA λi a=>?_;have a:=aoc.mp a;have k:=vg l (i:=2*i) (by omega);have f:=vg l (i:=2*i+1) (by omega);refine⟨_,rfl,rfl,?_⟩;rw[show(0:Int)+(i:Nat)*2=((2*i:Nat):Int)by omega];rw[show((2*i+1:Nat):Int)=((2*i:Nat):Int)+1 by omega]at f;generalize W.lst (nW l)=L at *;generalize((2*i:Nat):Int)=j at *;generalize l.getD (2*i) 0=u at *;generalize l.getD (2*i+1) 0=v at *;simp[k,f,prW]
  have b:=b [];have o:(-1152921504606846976:Int)<=l.length:=by omega
  have g:(l.length:Int)<1152921504606846976:=by omega
  have d:(((l.length:Int)-0+1)/2).toNat=l.length/2:=by omega
  generalize(two2 l).map prW=R at *;generalize nW l=L at *;simp only[Int.sub_zero]at d;have p:(ab3 0 2<|l.length/2).length<=1000000:=by simp[ab3];omega
  simp[bT,dn,List.replicate,e,a,aai,o,g,d,p,b]
 .rw[an5 c];have a:¬(l.length:Int)%2=0:=by omega
  have m:=aeZ l h n;generalize nW l=L at *;simp[bT,dn,List.replicate,e,a,eFr,aiR,m,rW]
def bsd(p:S3)(n:Int):S3:=((sfp p 0 n).1,(sfp p 0 n).2,p.2.2)
def rA(p)(h:Fac p)(n):iX [stW p,.int n]=.ok (stW<|bsd p n):=an8 fin<|aL<|bU rfl<|yF p 0 n h.1 h.2
def tZ{p}(h:Fac p)(n):Fac (bsd p n):=h
def dO(f:List S3)(ps:List (Nat×Nat)):List S3:=ps.map λp=>bsd (f.getD p.1 (0,0,0)) 1
def iP(f)(b:∀p∈f,Fac p)(ps)(h:∀p∈ps,p.1<f.length)(c:ps.length<=1000):dA [flW f,.lst<|ps.map prW]=.ok (.lst<|(dO f ps).map stW):=by refine an8 fin (iB<|nV rfl (by grind) (k:=?_));unfold dO;rw[aoR];exact bA λp a=>⟨_,rfl,rfl,bU (bV (aE rfl rfl<|oR<|h p a) rfl)<|rA _ (b _<|by grind) 1⟩
def vc(hs)(d:Nat):lD (.int d) (hsW hs)=.ok (.bl<|startB hs d):=by
 have a:eB (.int d) ((List.range 8).map λy=>onW<|hs y)=!startB hs d:=by
  have go:∀l:List Nat,eB (.int d) (l.map λy=>onW<|hs y)=!l.all λy=>hs y !=some d:=λl=>by induction l with|nil=>rfl|cons y l ih=>rw[aor,ua,ih,aqu,Bool.not_and];congr 1;cases hs y with|none=>rfl|some k=>rw[aoz];simp[onW];omega
  exact go _
 show(if(okD 50 (.int d)&&gP 51 _)=true then Res.ok _ else .bad)=_;rw[ou 50 _ _ λy _=>by cases hs y<;>rfl,a];simp
noncomputable def pl(hs:Nat->Option Nat):List Nat->List (Nat×Nat)->Option (List<|Nat×Nat)|[],acc=>some acc|d::ds,acc=>if startB hs d=true then if(cU hs 8 d).length%2=0 then pl hs ds (acc++two2 (cU hs 8 d))else none else pl hs ds acc
theorem aca(hs):∀b a,pl hs b a=if((b.filter<|startB hs).map<|cU hs 8).all λl=>l.length%2==0=true then some (a++((b.filter<|startB hs).map<|cU hs 8).flatMap two2)else none
|[],a=>by simp[pl]|d::b,a=>by
  unfold pl;by_cases h:startB hs d=true
  .by_cases c:(cU hs 8 d).length%2=0;.rw[aca hs b];simp[h,c]
   .simp[h,c]
  .rw[an5 h,aca hs b];simp[h]
theorem two2_len:∀l,(two2 l).length<=l.length|[]=>aob _|[_]=>by simp[two2]|a::b::l=>by have:=two2_len l;simp[two2];omega
theorem kh{hs}:∀n d,(cU hs n d).length<=n+1|0,d=>by simp[cU]|n+1,d=>by unfold cU;cases hs d with|none=>simp|some k=>have:=kh (hs:=hs) n k;simp;omega
def anx{i L a}(h:σ[i]?=some (.ow L))(k:e σ=.ok (.lst a))(b:L.length+a.length<=lim):ago i e σ=.nx (σ.set i<|.ow<|L++a):=by unfold ago;rw[h,k];exact an4 b
def anw{i L}(h:σ[i]?=some (.ow L))(k:e σ=.ex x):ago i e σ=.ex x σ:=by unfold ago;rw[h,k];rfl
theorem jj{hs q}(H:Hands hs q)(FL):∀c a o,(∀d∈c,d<8)->a.length+9*c.length<900->match pl hs c a with|some ps=>∃p,forL (aq 3) bZ (nW c) [.va FL,.va<|hsW hs,.ow<|a.map prW,o]=.nx [.va FL,.va<|hsW hs,.ow<|ps.map prW,p]|none=>∃k,forL (aq 3) bZ (nW c) [.va FL,.va<|hsW hs,.ow<|a.map prW,o]=.ex (.exc "NoPairs" []) k
|[],a,o,_,_=>⟨o,rfl⟩|d::c,a,o,hd,hl=>by
  have f:=hd d aol;have e:∀x∈c,x<8:=λx j=>hd x<|aog _ j;have g:=vc hs d;have i:=lh (cU hs 8 d) λx j=>by have:=(k8 H 8 d f x j).1;omega (by have:=kh (hs:=hs) 8 d;omega);have s:(two2<|cU hs 8 d).length<=9:=by have:=kh (hs:=hs) 8 d;have:=two2_len<|cU hs 8 d;omega
  simp only[aon]at hl;rw[show nW (d::c)=.int d::nW c from rfl];unfold pl;by_cases h:startB hs d=true
  .rw[h]at g;have cX:∀r,bT [.lst<|nW<|cU hs 8 d]=r->fk bT (aa (ax ju<|aa (ah 1)<|aa (ah 3) ao) ao) [.va FL,.va<|hsW hs,.ow<|a.map prW,.va<|.int d]=r:=λr n=>anz (bV (bU rfl<|rY H f) rfl) n;rw[an4 h];by_cases m:(cU hs 8 d).length%2=0;.rw[an4 m]at i⊢;have b:bZ [.va FL,.va<|hsW hs,.ow<|a.map prW,.va<|.int d]=_:=(v_i<|fB<|aE rfl rfl g).trans (anx rfl (cX _ i)<|by simp[lim];omega);rw[bw rfl b rfl];have l:=jj H FL c (a++two2 (cU hs 8 d)) (.va<|.int d) e (by simp;omega);rw[apg]at l;exact l
   .rw[an5 m]at i⊢;exact⟨_,vA rfl ((v_i<|fB<|aE rfl rfl g).trans<|anw rfl<|cX _ i) λ_=>rfl⟩
  .rw[an5 h];rw[show startB hs d=false by simpa using h]at g;have b:bZ [.va FL,.va<|hsW hs,.ow<|a.map prW,.va<|.int d]=_:=amv<|fB<|aE rfl rfl g;rw[bw rfl b rfl];exact jj H FL c a (.va<|.int d) e (by omega)
open PySem.W(KasT kas_sort)
noncomputable def wJ(n:Nat):KasT (Array Nat)->Bool|.ret p=>p.toList.isPerm<|List.range n|.ask _ _ k=>wJ n (k true)&&wJ n (k false)
theorem k7{n c}:∀t,wJ n t=true->(ab1 c t).toList.Perm (List.range n)
|.ret p,h=>List.isPerm_iff.mp h|.ask i j k,h=>by
 have h:(wJ n _&&wJ n _)=true:=h;rw[aoo]at h;show(ab1 c<|k _).toList.Perm _;cases c i j;.exact k7 _ h.2
 .exact k7 _ h.1
def am3:okT 4 (kas_sort 4)=true/\wJ 4 (kas_sort 4)=true:=by decide+kernel
noncomputable def zP(p:Nat×Nat):Int×Int:=(p.1,p.2)
theorem ad5:∀ps:List (Nat×Nat),prs (ps.map prW)=some (ps.map zP)|[]=>rfl|p::ps=>by show(prs _).map _=_;rw[ad5 _];rfl
def srt(ps:List (Nat×Nat)):List (Nat×Nat):=(ixs<|ps.map zP).map λi=>ps.getD i (0,0)
def vo{ps:List (Nat×Nat)}(h:ps.length=4):(ixs<|ps.map zP).Perm (List.range 4):=by unfold ixs;rw[aos,h];exact k7 _ am3.2
def uL{ps}(h:ps.length=4):(srt ps).Perm ps:=by
 have e:ps=(List.range 4).map λi=>ps.getD i (0,0):=by match ps,h with|[a,b,c,d],_=>rfl
 have:=(vo h).map λi=>ps.getD i (0,0);rw[<-e]at this;exact this
def yC{ps}(h:ps.length=4):jZ [.lst<|ps.map prW]=.ok (.lst<|(srt ps).map prW):=by
 unfold jZ;simp only[ad5];have b:(ps.map zP).length=4:=by grind
 rw[b,am3.1];rw[an4 (by decide)];congr 2;unfold srt;rw[aoR];refine List.map_congr_left λi a=>?_;have a:i<4:=aoc.mp<|(vo h).mem_iff.mp a;show(ps.map prW).getD i .non=prW (ps.getD i (0,0));rw[aoe,aoy,aoe,aod<|by omega];rfl
def wG(f:List S3):Option (List<|Nat×Nat):=match pl (rhO f) (List.range 8) []with|some ps=>if decide (cK<|dO f ps)=true then some (srt ps)else none|none=>none
def amN:Option (List<|Nat×Nat)->Res W|some ps=>.ok<|.lst<|ps.map prW|none=>.ex<|.exc "NoPairs" []
structure Prs(ps:List (Nat×Nat)):Prop where len:ps.length=4lt:∀p∈ps,p.1<8/\p.2<8all:∀d,d<8->∃p∈ps,d=p.1\/d=p.2
def oi{f}(c:f.length=8)(j:cK f){ps}(h:pl (rhO f) (List.range 8) []=some ps):Prs ps:=by
 rw[aca]at h;split at h
 .rename_i m;have e:(rX<|rhO f).flatMap two2=ps:=by unfold rX;simpa using h
  have b:=λl c=>by have:=aoD.mp m l c;simpa using this
  obtain⟨g,a⟩:=wK (oN c j) b;rw[e]at g a;exact⟨g,λp i=>⟨(a _).mpr ⟨p,i,.inl rfl⟩,(a p.2).mpr ⟨p,i,.inr rfl⟩⟩,λd k=>(a d).mp k⟩
 .cases h
theorem Prs.srt{ps}(h:Prs ps):Prs (srt ps):=by have P:=uL h.len;refine⟨P.length_eq.trans h.len,λp a=>h.lt p<|P.mem_iff.mp a,λd b=>?_⟩;obtain⟨p,a,e⟩:=h.all d b;exact⟨p,P.mem_iff.mpr a,e⟩
set_option tactic.hygienic true in
def qm{f}(a:f.length=8)(b:cK f){ps}(h:wG f=some ps):Prs ps:=by
 unfold wG at h;split at h
 .rename_i c e;split at h;.cases h;exact(oi a b e).srt
  .cases h
 .cases h
def sf(f)(b:f.length=8)(k:∀p∈f,Fac p)(j:cK f):jv [flW f]=amN (wG f):=by have L:=jj (oN b j) (flW f) (List.range 8) [] .no (λd i=>aoc.mp i) (by decide);refine(an8 fin<|(aL<|nV rfl (by decide)<|bA λd i=>⟨_,rfl,rfl,by rw[apk];exact bU rfl<|n8 f b k d<|aoc.mp i⟩).trans<|ajr rfl).trans ?_;show fin (gW (forL (aq 3) bZ (nW<|List.range 8) [.va<|flW f,.va<|hsW<|rhO f,.ow [],.no]) _)=_;unfold wG;cases e:pl (rhO f) (List.range 8) []with|none=>rw[e]at L;obtain⟨m,h⟩:=L;exact an8 (λo=>fin<|gW o _) h|some ps=>rw[e]at L;obtain⟨q,h⟩:=L;refine(an8 (λo=>fin<|gW o _) h).trans ?_;have G:=oi b j e;have l:=iP f k ps (λp n=>by rw[b];exact(G.lt p n).1) (by rw[G.len];decide);have g:=fV (dO f ps) (by simp[dO,G.len]);show _=amN (if decide (cK<|dO f ps)=true then some (srt ps)else none);cases c:vi (dO f ps)with|none=>rw[c]at g;rw[an4 (aoC<|(sO _).mp c)];exact an8 fin<|(v_f<|v_bor<|fB<|aE (bU (bV (bU rfl l) rfl) g) rfl rfl).trans<|gT.trans<|ajv<|iB<|uC (a:=aa (ah 2) ao) rfl<|yC G.len|some p=>rw[c]at g;rw[an5 λz=>nomatch c.symm.trans ((sO _).mpr<|apI z)];exact an8 fin<|v_t<|v_bor<|fB<|aE (bU (bV (bU rfl l) rfl) g) rfl rfl
def gG{f:List S3}(a:∀p∈f,Fac p){d}(b:d<f.length):Fac (f.getD d (0,0,0)):=a _ (by grind)
structure Fl(f:List S3):Prop where len:f.length=8fac:∀p∈f,Fac p
def vI(d):eA [exN "Blind" d]=.ok (.lst [.str "Blind",.int d])/\eA [exN "Out" d]=.ok (.lst [.str "Out",.int d])/\(∀e:Nat,eA [.exc "Meet" [.int d,.int e]]=.ok (.lst [.str "Meet",.int d,.int e]))/\eA [.exc "NoPairs" []]=.ok (.lst [.str "NoPairs"]):=by refine⟨?_,?_,λe=>?_,?_⟩<;>kernel_rfl
def same_int(n)(i):aO (n+1) [.int i,.int i]=.ok (.bl true):=by have h:∀j,aO (n+1) [.int i,.int j]=.ok _:=λj=>rfl;rw[h];simp
def same_str(n)(s:String):aO (n+1) [.str s,.str s]=.ok (.bl true):=by have h:∀t,aO (n+1) [.str s,.str t]=.ok _:=λt=>rfl;rw[h];simp
theorem ue(r)(A B):∀c f d,(∀x∈c,r [x,x]=.ok (.bl true))->∃g i,forL (kq<|bu (aq 2)<|bu (aq 3) kr) (eM r) (ug c c) [.va A,.va B,f,d]=.nx [.va A,.va B,g,i]|[],f,d,_=>⟨f,d,rfl⟩|x::c,f,d,h=>by obtain⟨a,b,j⟩:=ue r A B c _ _ λy k=>h y (by grind);refine⟨a,b,?_⟩;have e:=h x (by simp);simp[agB,cW,eM,e];exact j
def uR(n){S xs}(h:∀x∈xs,aO n [x,x]=.ok (.bl true))(d:∀A B,tB (eBi fP<|aa (ah 1)<|aa (dB<|aa (eC<|.ty "list")<|aa (eC<|.ty "tuple") ao) ao) [.va S,.va S,A,B]=.ok true)(g:∀A B,tOr (tB<|eOp oNe (eBi bj<|aa (ah 0)<|aa (eC<|.ty "list") ao)<|eBi bj<|aa (ah 1)<|aa (eC<|.ty "list") ao) (tB<|eOp oNe (eBi bj<|aa (ah 0)<|aa (eC<|.ty "tuple") ao)<|eBi bj<|aa (ah 1)<|aa (eC<|.ty "tuple") ao) [.va S,.va S,A,B]=.ok false)(c:mh [S]=.ok (.int xs.length))(f:∀A B,aiJ (ah 0) (ah 1) [.va S,.va S,A,B]=.ok (ug xs xs)):aO (n+1) [S,S]=.ok (.bl true):=by obtain⟨a,b,e⟩:=ue _ S S xs .no .no h;exact an8 fin<|(v_t<|d _ _).trans<|ja.trans<|(v_f<|g _ _).trans<|gT.trans<|ja.trans<|(v_f<|fB<|aE (uC rfl c) (uC rfl c)<|acx rfl).trans<|gT.trans<|ja.trans<|(amx (f _ _) e).trans<|uw rfl
def iI(n)(xs)(h:∀x∈xs,aO n [x,x]=.ok (.bl true)):aO (n+1) [.lst xs,.lst xs]=.ok (.bl true)/\aO (n+1) [.tup xs,.tup xs]=.ok (.bl true):=⟨uR n h (λ_ _=>rfl) (λ_ _=>rfl) rfl λ_ _=>an4 rfl,uR n h (λ_ _=>rfl) (λ_ _=>rfl) rfl λ_ _=>an4 rfl⟩
def ae6(n)(p):aO (n+2) [stW p,stW p]=.ok (.bl true):=(iI _ _ λx a=>by simp at a;rcases a with rfl|rfl|rfl<;>exact same_int n _).2
def qe(n)(s:String)(d:Nat):aO (n+2) [.lst [.str s,.int d],.lst [.str s,.int d]]=.ok (.bl true):=(iI _ _ λx a=>by
 simp at a;rcases a with rfl|rfl;.exact same_str n _
 .exact same_int n _).1
def cG(p)(h:Fac p)(m n):cn [stW p,.int m,.int n]=.ok (spW<|sfp p m n):=by obtain⟨a,b,_,f,d,c,e⟩:=ani p.1 p.2.1 p.2.2 m n h.1 h.2;have o:∀i,-2<i/\i<2->∀j,fw (.int j) (.int i)=.ok (.int<|j*i):=λi h j=>m7 j (by omega) (by omega);refine(an8 fin<|(wb rfl rfl).trans<|(wb (aE rfl rfl f) rfl).trans<|iB<|pO (aE (aE rfl (aE (x:=.int m) (y:=.int a) rfl rfl<|o a d m) rfl) (aE (x:=.int n) (y:=.int b) rfl rfl<|o b c n) rfl)<|aE (aE rfl (aE (x:=.int m) (y:=.int b) rfl rfl<|o b c m) rfl) (aE (x:=.int n) (y:=.int a) rfl rfl<|o a d n) rfl).trans ?_;rw[e,aro a m,aro b n,aro b m,aro a n,<-Int.add_assoc,<-Int.add_sub_assoc];rfl
def lM(x y c)(h:Fac (x,y,c)):ee [.int x,.int y,.int c]=.ok (.lst [stW<|bsd (x,y,c)<|-1,stW<|bsd (x,y,c) 1]):=an8 fin<|iB<|ako (bV (aE (bU (bV (x:=stW (x,y,c)) rfl rfl)<|cG _ h 0<|-1) rfl rfl)<|bV (aE (bU (bV (x:=stW (x,y,c)) rfl rfl)<|cG _ h 0 1) rfl rfl) rfl)<|apE rfl
theorem mL{c b}{S:Nat->Ws}{bad:Nat->Bool}(a:∀n,c (S n)=.ok (bad n))(d:∀n,b (S n)=.nx (S<|n+1)):∀m n,(∃j,j<=m/\bad (n+j)=false)->∀fuel,m<fuel->∃j,j<=m/\bad (n+j)=false/\df c b fuel (S n)=.nx (S<|n+j)
|m,n,h,0,hf=>absurd hf<|aph _|m,n,h,fuel+1,hf=>by
 by_cases e:bad n=true
 .obtain⟨j,o,g⟩:=h;have q:1<=j:=by grind
  obtain⟨m,rfl⟩:∃k,m=k+1:=⟨m-1,by omega⟩;obtain⟨i,p,f,l⟩:=mL a d m (n+1) ⟨j-1,by omega,by rw[show n+1+(j-1)=n+j by omega];exact g⟩ fuel (by omega);refine⟨i+1,by omega,by rw[show n+(i+1)=n+1+i by omega];exact f,?_⟩;rw[fA,a,e,show n+(i+1)=n+1+i by omega,<-l,lC,an4 rfl,d];rfl
 .have e:bad n=false:=by simpa using e
  refine⟨0,by omega,by rw[Nat.add_zero];exact e,?_⟩;rw[fA,a,e];rfl
theorem jk{d:Type}[DecidableEq d]{g:Nat->d}(c:∀i j,g i=g j->i=j)(a):∀b:List Nat,b.Nodup->(b.filter λj=>decide (g j=a)).length<=1
|[],_=>by simp|j::b,nd=>by
 have nd:=aoN.mp nd;by_cases h:g j=a;.have:b.filter (λj=>decide (g j=a))=[]:=apZ.mpr λi e z=>nd.1 (by
  have:g i=a:=by simpa using z
  rw[c j i (h.trans this.symm)];exact e);simp[h,this]
 .simpa[h]using jk c a b nd.2
theorem am2{p q r}:∀a:List Nat,(∀j∈a,p j=true\/q j=true\/r j=true)->a.length<=(a.filter p).length+(a.filter q).length+(a.filter r).length
|[],_=>by simp|j::a,h=>by
 have g:=am2 a λi c=>h i<|aog _ c;have b:=h j aol;have l:∀f:Nat->Bool,(a.filter f).length<=((j::a).filter f).length:=λf=>by rw[apz];split<;>simp
 have e:=l p;have k:=l q;have d:=l r;rw[aon];rcases b with b|b|b
 .have:((j::a).filter p).length=(a.filter p).length+1:=by rw[apz,an4 b,aon]
  omega
 .have:((j::a).filter q).length=(a.filter q).length+1:=by rw[apz,an4 b,aon]
  omega
 .have:((j::a).filter r).length=(a.filter r).length+1:=by rw[apz,an4 b,aon]
  omega
theorem pig{d:Type}[DecidableEq d]{g h:Nat->d}(f:∀i j,g i=g j->i=j)(k:∀i j,h i=h j->i=j):∀(l:List d)(b:List Nat),b.Nodup->(∀j∈b,g j∈l\/h j∈l)->b.length<=2*l.length
|[],b,_,hj=>by cases b with|nil=>simp|cons j b=>rcases hj j aol with z|z<;>cases z
|a::l,b,nd,hj=>by
 have u:=pig f k l (b.filter λj=>decide (g j≠a)&&decide (h j≠a)) (nd.filter _) λj c=>by
  obtain⟨n,e⟩:=aoX.mp c;simp only[aoo,aoJ]at e;rcases hj j n with z|z;.exact .inl ((an7.mp z).resolve_left e.1)
  .exact .inr ((an7.mp z).resolve_left e.2)
 have s:=jk f a b nd;have v:=jk k a b nd;have t:=am2 (p:=λj=>decide (g j≠a)&&decide (h j≠a)) (q:=λj=>decide (g j=a)) (r:=λj=>decide (h j=a)) b λj _=>by
  by_cases m:g j=a;.simp[m]
  .by_cases o:h j=a<;>simp[m,o]
 rw[aon];omega
def oH(a b:Nat):lO (.int a) (.int b)=decide (a=b):=by show(a==(b:Int))=_;rw[aoz];simp ;omega
theorem sX(k:Nat):∀b,agw (.int k) (nW b)=decide (k∈b)
|[]=>rfl|a::b=>by
 have c:=sX k b;unfold agw at c⊢;show(lO _ _||(nW _).any _)=_;rw[c,oH,aoz];simp ;constructor
 .rintro(h|h);.exact .inl h.symm
  .exact .inr h
 .rintro(h|h);.exact .inl h.symm
  .exact .inr h
theorem aao{k}:∀(ks:List Nat)b,ks.length=b.length->k∈ks->o4 (.int k) (nW ks) b=b[ks.idxOf k]?
|[],_,_,h=>by cases h|a::ks,[],hl,_=>by cases hl|a::ks,v::b,hl,h=>by
 show(if lO (.int a) (.int k)=true then some v else o4 (.int k) (nW ks) b)=_;rw[oH];by_cases e:a=k;.subst e;simp[aqF]
 .rw[an5 (by simpa using e),aao ks b (by grind) ((an7.mp h).resolve_left λz=>e z.symm),arx,show(a==k)=false by simpa using e];rfl
theorem uW{k v}:∀(ks:List Nat)c,ks.Nodup->ks.length=c.length->k∈ks->qZ (.int k) v (nW ks) c=c.set (ks.idxOf k) v
|[],_,_,_,h=>by cases h|a::ks,[],_,d,_=>by cases d|a::ks,u::c,nd,d,h=>by
 have nd:=aoN.mp nd;have out:∀(ks:List Nat)(c:List W),k∉ks->ks.length=c.length->qZ (.int k) v (nW ks) c=c:=λks=>by induction ks with
 |nil=>intro c _ d;cases c with|nil=>rfl|cons _ _=>cases d
 |cons b ks ih=>intro c f d;cases c with|nil=>cases d|cons u c=>show(if lO (.int b) (.int k)=true then v else u)::qZ (.int k) v (nW ks) c=_;rw[oH,an5 (by grind),ih c (λz=>f<|aog _ z)<|by simpa using d]
 show(if lO (.int a) (.int k)=true then v else u)::qZ (.int k) v (nW ks) c=_;rw[oH];by_cases e:a=k;.subst e;rw[an4 (by simp),out ks c nd.1<|by simpa using d];simp[aqF]
 .have g:k∈ks:=(an7.mp h).resolve_left λz=>e z.symm;rw[an5 (by simpa using e),uW ks c nd.2 (by simpa using d) g,arx,show(a==k)=false by simpa using e];rfl
def Nr(k a x y:Int):Prop:=a-k<=x/\x<=a+k/\-a-k<=y/\y <=-a+k
noncomputable def yJ(y d:Int)(j:Nat):Int:=y+j*d
def aiI{a x y c d n j}(b:a=0\/a=185\/a=-185)(h:Nr 6 a x y)(f:d=if a<0 then -1 else 1)(i:j<=12)(e:n=1\/n=-1):inB (bsd (x,yJ y d j,c) n)=true:=by
 unfold Nr at h;have g:-191<=yJ y d j/\yJ y d j<=191:=by unfold yJ at *;subst f;rcases b with rfl|rfl|rfl<;>simp at*<;>omega
 generalize yJ y d j=y' at *;unfold inB bsd sfp;simp only[aoo,aoJ];rcases e with rfl|rfl<;>(split<;>(try split)<;>(try split)<;>simp only<;>omega)
def lft(x y c:Int):S3:=bsd (x,y,c)<|-1
def rgt(x y c:Int):S3:=bsd (x,y,c) 1
def jY{x y a c n}(h:ay (bsd (x,y,c) n)=ay (bsd (x,a,c) n)):y=a:=by
 simp only[bsd,ay,sfp]at h;split at h;.simp only[ao1]at h;omega
 .split at h;.simp  at h;omega
  .split at h<;>(simp only[ao1]at h;omega)
def alB(x y c):ay (lft x y c)≠ay (rgt x y c):=by
 intro h;simp only[lft,rgt,bsd,ay,sfp]at h;split at h;.simp only[ao1]at h;omega
 .split at h;.simp only[ao1]at h;omega
  .split at h<;>(simp only[ao1]at h;omega)
def ajb(a:List (Int×Int))(x y c d:Int)(j:Nat):Bool:=decide (ay (lft x (yJ y d j) c)∈a)||decide (ay (rgt x (yJ y d j) c)∈a)
def aiO(a)(hs:a.length<=6)(x y c d)(f:d=1\/d=-1):∃j,j<=12/\ajb a x y c d j=false:=by
 apply aqe;intro k;have b:∀i j:Nat,yJ y d i=yJ y d j->i=j:=λi j h=>by unfold yJ at h;rcases f with rfl|rfl<;>omega
 have:=pig (g:=λj=>ay<|lft x (yJ y d j) c) (h:=λj=>ay<|rgt x (yJ y d j) c) (λi j h=>b i j<|jY h) (λi j h=>b i j<|jY h) a (List.range 13) apf λj l=>by
  have e:ajb a x y c d j=true:=by grind
  simpa[ajb]using e
 rw[apv]at this;omega
def twoW(x y c:Int):W:=.lst [stW<|lft x y c,stW<|rgt x y c]
def two_0(x y c):oIx (twoW x y c) (.int 0)=.ok (stW<|lft x y c):=rfl
def two_1(x y c):oIx (twoW x y c) (.int 1)=.ok (stW<|rgt x y c):=rfl
def vM(x y c)(h:Fac (x,y,c)):ee [.int x,.int y,.int c]=.ok (twoW x y c):=lM x y c h
def mx{a:List Nat}(nd:a.Nodup){m}(h):a[m]∉a.take m:=λz=>by
 obtain⟨j,c,e⟩:=apQ z;rw[List.getElem_take]at e;have b:j<m:=by grind
 have:=(List.getElem_inj nd).mp e;omega
noncomputable def byD(a:List Nat)(T:List S3):List S3:=(List.range 8).map λd=>T.getD (a.idxOf d) (0,0,0)
def aiE{e:Type}(g)(z){a}(P:a.Perm (List.range 8)){T:List e}(i:T.length=8){d:Nat}(f:d<8):qC (.dic (nW a)<|T.map g) (.int d)=.ok (g<|T.getD (a.idxOf d) z):=by
 have c:d∈a:=P.mem_iff.mpr<|aoc.mpr f;have h:a.length=8:=P.length_eq;have b:a.idxOf d<T.length:=by have:=api c;omega
 show(if ael (.int d)=true then ofO (o4 (.int d) (nW a)<|T.map g)else .bad)=_;rw[aao a _ (by simp[h,i]) c,aoy,aod b,aoe,aod b];rfl
def aen{a}(P:a.Perm (List.range 8)){T:List S3}(b:T.length=8){d:Nat}(c:d<8):qC (.dic (nW a)<|T.map stW) (.int d)=.ok (stW<|T.getD (a.idxOf d) (0,0,0)):=aiE stW _ P b c
def afY{c:List Nat}{a b}(e:a∈c)(d:b∈c)(h:c.idxOf a=c.idxOf b):a=b:=by rw[<-List.getElem_idxOf (api e),<-List.getElem_idxOf (api d)];congr 1
def adA{c}(P:c.Perm (List.range 8)){T}(q:T.length=8)(l:∀p∈T,Fac p)(k:cK T):Fl (byD c T)/\cK (byD c T):=by
 have i:∀d,d<8->d∈c:=λd f=>P.mem_iff.mpr<|aoc.mpr f;have o:c.length=8:=P.length_eq;have h:∀d,d<8->c.idxOf d<T.length:=λd f=>by grind
 refine⟨⟨by simp[byD],λp n=>?_⟩,px λa b j m=>?_⟩;.obtain⟨d,f,rfl⟩:=aox.mp n;exact gG l<|h d<|aoc.mp f
 .have e:b<8:=by simpa[byD]using m
  have g:∀d,d<8->(byD c T).getD d (0,0,0)=T.getD (c.idxOf d) (0,0,0):=λd f=>by unfold byD;rw[aoe,aoy,apj f];rfl
  rw[g a (by omega),g b e];intro z;have:=afY (i a<|by omega) (i b e) (two_at k (h a<|by omega) (h b e) z);omega
def abX{T}(k:∀p∈T,Fac p)(i:cK T){j}(l:j<T.length){p}(n:Fac p)(hs:ay p=ay (T.getD j (0,0,0))):(∀q∈T.set j p,Fac q)/\cK (T.set j p):=by
 refine⟨λq m=>?_,px λa b c f=>?_⟩
 .rcases aq7 m with h|e;.exact k q h
  .rw[e];exact n
 .rw[List.length_set]at f;have g:∀d,d<T.length->ay ((T.set j p).getD d (0,0,0))=ay (T.getD d (0,0,0)):=λd o=>by
   by_cases e:j=d;.subst e;rw[aoe,aof l];exact hs
   .rw[aoe,an3 e,<-aoe]
  rw[g a (by omega),g b f];exact vQ i c f
def aa4(ns:List Int)(k)(hk:0<=k):bz [.lst<|ns.map .int,.int k]=.ok (.int<|ns.getD k.toNat 0):=by obtain⟨n,rfl⟩:∃n:Nat,k=n:=⟨k.toNat,by omega⟩;by_cases h:n<ns.length<;>simp[bz,fE,h,gz]
open PySem.W(KasT kas_sort kas_rev kas_asc kas_desc kas_tail3 kas_descPart kas_count kas_place kas_bin)
def pB{b}(n:Nat)(P:b->Prop):KasT b->Prop|.ret a=>P a|.ask i j k=>i<n/\j<n/\pB n P (k true)/\pB n P (k false)
theorem pB.bind{b c n P Q}{f:b->KasT c}:∀{t},pB n P t->(∀a,P a->pB n Q (f a))->pB n Q (t.bind f)|.ret a,h,hf=>hf a h|.ask i j k,⟨h1,h2,h3,h4⟩,hf=>⟨h1,h2,pB.bind h3 hf,pB.bind h4 hf⟩
abbrev Pm(n:Nat)(p:Array Nat):Prop:=p.toList.Perm<|List.range n
def Pm.lt{n p}(h:Pm n p)(a:0<n)(i):p.getD i 0<n:=by
 unfold Array.getD;split;.exact aoc.mp (h.mem_iff.mp<|by simp)
 .exact a
def Pm.rev{n p}(h:Pm n p)(i j):Pm n (kas_rev p i j):=(PyProof.Rows.mirror_perm _ _ _ _).toList.trans h
theorem t8{n p}(h:Pm n p)(a:0<n):∀f m,pB n (λ_=>True)<|kas_asc p f m|0,_=>trivial|f+1,m=>⟨h.lt a _,h.lt a _,trivial,t8 h a f _⟩
theorem ky{n}(a:0<n):∀f p m q,Pm n p->pB n (λr=>Pm n r.1) (kas_desc f p m q)
|0,_,_,_,h=>h|f+1,p,m,q,h=>by
 refine⟨h.lt a _,h.lt a _,?_,h.lt a _,h.lt a _,h,ky a f p _ _ h⟩;split;.exact ky a f _ _ _ (h.rev _ _)
 .exact ky a f _ _ _ h
def pR{n}(a:0<n){p}(h:Pm n p)(m r):pB n (λr=>Pm n r.2) (kas_tail3 m r p):=(t8 (h.rev 0 m) a _ _).bind λ_ _=>h.rev 0 m
def jX{n}(b:0<n){p}(h:Pm n p)(m r):pB n (λr=>Pm n r.2) (kas_descPart m r p):=(ky b _ p _ _ h).bind λa c=>by
 split;.exact pR b (c.rev _ _) _ _
 .exact pR b c _ _
def aa0{n}(b:0<n){p}(h:Pm n p)(r):pB n (λr=>Pm n r.2) (kas_count r p):=(t8 h b _ _).bind λa _=>by
 split;.exact h
 .split;.exact⟨h.lt b _,h.lt b _,h,jX b (h.rev 0 a) _ _⟩
  .exact jX b h _ _
theorem lg{n}(a:0<n){p}(h:Pm n p)(k):∀f l r,pB n (λ_=>True) (kas_place p k f l r)
|0,_,_=>trivial|f+1,l,r=>by
 unfold kas_place;split;.trivial
 .exact⟨h.lt a _,h.lt a _,lg a h k f _ _,lg a h k f _ _⟩
theorem abe{n}(a:0<n):∀f p k,Pm n p->pB n (Pm n) (kas_bin f p k)|0,_,_,h=>h|f+1,p,k,h=>(lg a h k _ _ _).bind λl _=>abe a f _ _<|(PyProof.Rows.bubble_perm _ _ _).toList.trans h
def uN{n}(a:0<n):pB n (Pm n) (kas_sort n):=(aa0 a (List.Perm.refl _) _).bind λr b=>by
 split;.exact abe a _ _ _ b
 .exact b
theorem abk{n}:∀{t},pB n (Pm n) t->okT n t=true|.ret p,h=>by have:=h.length_eq;simp at this;simp[okT,this]|.ask i j k,⟨h1,h2,h3,h4⟩=>by simp[okT,h1,h2,abk h3,abk h4]
theorem ub{n c}:∀{t},pB n (Pm n) t->Pm n (ab1 c t)
|.ret p,h=>h|.ask i j k,⟨_,_,h3,h4⟩=>by
 show Pm n (ab1 c<|k _);cases c i j;.exact ub h4
 .exact ub h3
def cA(c k)(hk:0<=k)(a:k<100000):∃z,aG [.int c,.int k]=.ok (.int z)/\0<=z/\z<2147483587:=by simp(disch:=omega)[aG,hE,m7];omega
def abW(f)(n)(b:0<n)(k c)(σ)(e)(h:e σ=.ok (.int c))(hk:okK f c k n=true):∃a,nu f n k e σ=.ok (.lst<|nW a)/\a.Perm (List.range n):=by
 have j:((List.range n).map λi=>(gK f c k i,(i:Int))).length=n:=by simp
 have d:(ixs<|(List.range n).map λi=>(gK f c k i,(i:Int))).Perm (List.range n):=by unfold ixs;rw[j];exact ub<|uN b
 refine⟨_,?_,d⟩;unfold nu;rw[h];show(if(okK f c k n&&okT n (kas_sort n))=true then Res.ok _ else Res.bad)=_;rw[hk,abk<|uN b,an4<|by rfl];unfold ajT;congr 2;unfold nW;refine List.map_congr_left λi g=>?_;rw[aoe,aoy,apj<|aoc.mp<|d.mem_iff.mp g];rfl
def order_eq(c)(σ)(e)(d:e σ=.ok (.int c)):∃a,nu aG 8 60 e σ=.ok (.lst<|nW a)/\a.Perm (List.range 8):=abW _ 8 (by simp) _ c σ e d (aoD.mpr λi b=>by have b:=aoc.mp b;obtain⟨z,e,_⟩:=cA c (60+i) (by omega) (by omega);rw[e])
def alF(h l m k e f g j i b a)(d:List (Int×Int))(x y c):dW [h,l,m,.va<|.lst<|d.map spW,k,e,f,g,j,i,b,.va<|twoW x y c,a]=.ok (decide (ay (lft x y c)∈d)||decide (ay (rgt x y c)∈d)):=ahe (fB<|aE (abO<|aE rfl rfl<|two_0 x y c) rfl<|aec _ _)<|fB<|aE (abO<|aE rfl rfl<|two_1 x y c) rfl<|aec _ _
def alG(k h f l i g j b a)(e x y c d)(o:Fac (x,y,c))(m:oIx (.lst [.int 1,.int<|-1]) (.int<|if e<0 then 1 else 0)=.ok (.int d)):dY [k,.va<|.int e,h,f,l,i,g,j,.va<|.int x,.va<|.int y,b,.va<|twoW x y c,a]=.nx [k,.va<|.int e,h,f,l,i,g,j,.va<|.int x,.va<|.int<|y+d,b,.va<|twoW x (y+d) c,a]:=by
 have n:eBi mI (aa (eOp oLt (ah 1)<|eI 0) ao) [k,.va<|.int e,h,f,l,i,g,j,.va<|.int x,.va<|.int y,b,.va<|twoW x y c,a]=.ok (.int<|if e<0 then 1 else 0):=by simp
 exact(aL<|aE  rfl (aE rfl n m) rfl).trans (akn<|bU (bV rfl<|bV rfl<|bV (aE (aE rfl rfl<|two_0 x y c) rfl rfl) rfl)<|vM x (y+d) c o)
def og(a:List Nat)(nd:a.Nodup){m}(c)(g:a.length=8)(vs)(v)(A):putD 4 (nW<|a.take m) vs (.int a[m]) v A=.nx (A.set 4<|.od (nW<|a.take<|m+1)<|vs++[v]):=by
 have h:=sX a[m] (a.take m);rw[aoq (mx nd c)]at h;have d:ael (.int (a[m]:Nat))=true:=rfl;have b:(nW<|a.take m).length<lim:=by simp[nW,lim];omega
 have f:nW (a.take<|m+1)=nW (a.take m)++[.int (a[m]:Nat)]:=by
  have e:a.take (m+1)=a.take m++[a[m]]:=by rw[List.take_succ,aod c];rfl
  rw[e];unfold nW;rw[apg];rfl
 unfold putD putK ahC;rw[h,an4 ⟨d,b⟩,f];rfl
def afL(o m k p n f d)(a b x y c)(r:0<=c/\c<4)(i:Nat)(u:i<4)(s:Nr 6 a x y):∃g j q,Fac (g,j,q)/\Nr 6 a g j/\∀R,aD (sIf (tB<|eOp oEq (eOp oMod (ah 5)<|eI 8)<|eI 1) (aD (bq 10<|eOp oMod (eOp oDiv (ah 5)<|eI 8)<|eI 4)<|wD (ax cn<|aa (dB<|aa (ah 1)<|aa (eOp kj (eI 0)<|ah 1)<|aa (ah 10) ao)<|aa (eI 0)<|aa (eOp kj (eOp fw (eI 4)<|ah 6)<|eI 6) ao)<|kq<|bu (aq 8)<|bu (aq 9) kr) sNx) R [o,.va<|.int a,m,k,p,.va<|.int b,.va<|.int i,n,.va<|.int x,.va<|.int y,.va<|.int c,f,d]=R [o,.va<|.int a,m,k,p,.va<|.int b,.va<|.int i,n,.va<|.int g,.va<|.int j,.va<|.int q,f,d]:=by
 by_cases h:b%8=1
 .have l:Fac (a,0-a,b/8%4):=by unfold Fac;simp only;omega
  have e:=cG (a,0-a,b/8%4) l 0<|4*(i:Int)-6;have t:Nr 6 a (sfp (a,0-a,b/8%4) 0<|4*(i:Int)-6).1 (sfp (a,0-a,b/8%4) 0<|4*(i:Int)-6).2:=by unfold Nr sfp;split<;>(try split)<;>(try split)<;>simp only<;>omega
  exact⟨(sfp (a,0-a,b/8%4) 0<|4*(i:Int)-6).1,(sfp (a,0-a,b/8%4) 0<|4*(i:Int)-6).2,b/8%4,l,t,λR=>(v_t<|an8 Res.ok<|aoC h).trans<|ja.trans<|(aL (v:=.int<|b/8%4) rfl).trans<|wb (bU (bV (x:=stW (a,0-a,b/8%4)) rfl<|bV rfl<|bV (aE (x:=.int<|4*(i:Int)) (y:=.int 6) (aE (x:=.int 4) (y:=.int i) rfl rfl<|fU _ (by decide)<|by decide) rfl rfl) rfl) e) rfl⟩
 .exact⟨x,y,c,r,s,λR=>(v_f<|an8 Res.ok<|aoq h).trans gT⟩
structure Gp(i:Nat)(T:List S3):Prop where
 len:T.length=2*i
 fi:∀p∈T,Fac p/\inB p=true
 two:cK T
def adf(w e C)(u:e=0\/e=185\/e=-185)(a)(nd:a.Nodup)(P:a.length=8)(i)(Y:i<4){T}(E:Gp i T)(o7 o8 o9 N r):∃H p7 p8 p9 K J,Gp (i+1) H/\dZ [.va<|.int w,.va<|.int e,.va<|.lst<|nW a,.va<|.lst<|(T.map ay).map spW,.od (nW<|a.take<|2*i)<|T.map stW,.va<|.int C,.va<|.int i,o7,o8,o9,N,r,.no]=.nx [.va<|.int w,.va<|.int e,.va<|.lst<|nW a,.va<|.lst<|(H.map ay).map spW,.od (nW<|a.take<|2*(i+1))<|H.map stW,.va<|.int C,.va<|.int i,p7,p8,p9,K,J,.no]:=by
 obtain⟨z,e1,z0,z1⟩:=cA w (70+i) (by omega) (by omega);obtain⟨s,O,a4,b4⟩:∃s:Int,oIx (.lst [.int<|z/60%4,.int 0,.int<|z/60%2*2]) (.int<|z/240%3)=.ok (.int s)/\0<=s/\s<4:=by
  have:z/240%3=0\/z/240%3=1\/z/240%3=2:=by omega
  rcases this with h|h|h<;>rw[h]<;>simp<;>omega
 obtain⟨x,y,c,G,Q,l⟩:=afL (.va<|.int w) (.va<|.lst<|nW a) (.va<|.lst<|(T.map ay).map spW) (.od (nW<|a.take<|2*i)<|T.map stW) (.va<|.int z) r .no e C (z%3*4-4+z/3%4/3+e) (z/12%5-2-e) s ⟨a4,b4⟩ i Y (by unfold Nr;omega);obtain⟨d,Z,k⟩:∃d:Int,oIx (.lst [.int 1,.int<|-1]) (.int<|if e<0 then 1 else 0)=.ok (.int d)/\d=if e<0 then -1 else 1:=by
  by_cases z:e<0;.exact⟨-1,by rw[an4 z];rfl,by rw[an4 z]⟩
  .exact⟨1,by rw[an5 z];rfl,by rw[an5 z]⟩
 have hd1:d=1\/d=-1:=by rw[k];split<;>simp
 obtain⟨j0,M,B⟩:=aiO (T.map ay) (by simp[E.len];omega) x y c d hd1;obtain⟨j,g,D,hw⟩:=mL (c:=dW) (b:=dY) (S:=λj=>[.va<|.int w,.va<|.int e,.va<|.lst<|nW a,.va<|.lst<|(T.map ay).map spW,.od (nW<|a.take<|2*i)<|T.map stW,.va<|.int C,.va<|.int i,.va<|.int z,.va<|.int x,.va<|.int<|yJ y d j,.va<|.int c,.va<|twoW x (yJ y d j) c,.no]) (bad:=ajb (T.map ay) x y c d) (λn=>alF _ _ _ _ _ _ _ _ _ _ _ (T.map ay) x (yJ y d n) c) λn=>by rw[show yJ y d (n+1)=yJ y d n+d by unfold yJ;rcases hd1 with rfl|rfl<;>omega];exact alG _ _ _ _ _ _ _ _ _ e x (yJ y d n) c d G Z
  12 0 ⟨j0,M,by rw[Nat.zero_add];exact B⟩ 200 (by decide);rw[Nat.zero_add]at D hw;rw[show yJ y d 0=y by simp[yJ]]at hw;simp only[ajb,Bool.or_eq_false_iff,decide_eq_false_iff_not]at D;have t:=E.len;have U:=vg a (i:=2*i) (by omega);have R:=vg a (i:=2*i+1) (by omega);rw[show a.getD (2*i) 0=a[2*i]by rw[aoe,aod<|by omega];rfl,show((2*i:Nat):Int)=2*(i:Int)by omega]at U;rw[show a.getD (2*i+1) 0=a[2*i+1]by rw[aoe,aod<|by omega];rfl,show((2*i+1:Nat):Int)=2*(i:Int)+1 by omega]at R;have k1:=λI v A=>og a nd (m:=2*i) (by omega) P I v A;have k2:=λI v A=>og a nd (m:=2*i+1) (by omega) P I v A;refine⟨T++[lft x (yJ y d j) c,rgt x (yJ y d j) c],.va<|.int z,.va<|.int x,.va<|.int<|yJ y d j,.va<|.int c,.va<|twoW x (yJ y d j) c,⟨by simp[t];omega,λp o=>?_,?_⟩,?_⟩
 .rcases aoH.mp o with o|o;.exact E.fi p o
  .simp at o;rcases o with rfl|rfl;.exact⟨G,aiI u Q k g<|.inr rfl⟩
   .exact⟨G,aiI u Q k g<|.inl rfl⟩
 .have m:∀q∈T,ay q∈T.map ay:=λq f=>apR f;have X:=iL (iL E.two (x:=lft x (yJ y d j) c) λq f z=>D.1<|z▸m q f) (x:=rgt x (yJ y d j) c) λq f z=>by
   rcases aoH.mp f with f|f;.exact D.2 (z▸m q f)
   .rw[aoK.mp f]at z;exact alB x _ c z
  rw[List.append_assoc]at X;exact X
 .rw[show((T++[lft x (yJ y d j) c,rgt x (yJ y d j) c]).map ay).map spW=(T.map ay).map spW++[spW<|ay<|lft x (yJ y d j) c,spW<|ay<|rgt x (yJ y d j) c]by simp,show(T++[lft x (yJ y d j) c,rgt x (yJ y d j) c]).map stW=T.map stW++[stW<|lft x (yJ y d j) c]++[stW<|rgt x (yJ y d j) c]by simp];exact(aL<|bU rfl e1).trans ((aL<|aE (aE (aE (aE (x:=.int<|z%3) (y:=.int 4) rfl rfl<|m7 _ (by decide)<|by decide) rfl rfl) rfl rfl) rfl rfl).trans<|(aL rfl).trans<|(aL<|aE (ako (bV rfl<|bV rfl<|bV (aE (x:=.int<|z/60%2) (y:=.int 2) rfl rfl<|m7 _ (by decide)<|by decide) rfl)<|apE rfl) rfl O).trans<|(l _).trans<|(aL<|bU rfl<|vM x y c G).trans<|(abN hw).trans<|(aL<|aE rfl (ako (bV (abO<|aE rfl rfl<|two_0 _ _ _)<|bV (abO<|aE rfl rfl<|two_1 _ _ _) rfl)<|apE rfl)<|anB<|by simp[t,lim];omega).trans<|(abN<|agZ rfl (two_0 _ _ _) (aE rfl (aE (x:=.int 2) (y:=.int i) rfl rfl<|fU _ (by decide)<|by decide) U)<|k1 _ _ _).trans<|agZ rfl (two_1 _ _ _) (aE rfl (aE (aE (x:=.int 2) (y:=.int i) rfl rfl<|fU _ (by decide)<|by decide) rfl rfl) R)<|k2 _ _ _)
def rZ(n):(rng 0 n).length=n:=by simp 
def af1(e c d)(b:c=0\/c=185\/c=-185)(a)(nd:a.Nodup)(f:a.length=8):∃T E N z K i g,Gp 4 T/\forL (aq 6) dZ (rng 0 4) [.va<|.int e,.va<|.int c,.va<|.lst<|nW a,.va<|.lst [],.od [] [],.va<|.int d,.no,.no,.no,.no,.no,.no,.no]=.nx [.va<|.int e,.va<|.int c,.va<|.lst<|nW a,.va<|.lst<|(T.map ay).map spW,.od (nW a)<|T.map stW,.va<|.int d,E,N,z,K,i,g,.no]:=by obtain⟨U,n,y,H,Q,o,v,r⟩:=adf e c d b a nd f 0 (by decide) (T:=[]) ⟨rfl,λ_ h=>(by cases h),.nil⟩ .no .no .no .no .no;obtain⟨X,B,I,J,R,x,C,O⟩:=adf e c d b a nd f 1 (by decide) v n y H Q o;obtain⟨Y,s,p,S,k,M,D,m⟩:=adf e c d b a nd f 2 (by decide) C B I J R x;obtain⟨q,u,w,G,t,P,A,j⟩:=adf e c d b a nd f 3 (by decide) D s p S k M;rw[aqt (l:=a) (show a.length<=2*(3+1)by omega)]at j;exact⟨q,_,u,w,G,t,P,A,bw rfl r<|bw rfl O<|bw rfl m<|bw rfl j rfl⟩
def ah7(z){a}(P:a.Perm (List.range 8)){T}(b:Gp 4 T)(J s I E t G v B u f e):∃r N O j,Gp 4 r/\∀R,aD (sIf (tB<|eOp oEq (eOp oMod (ah 12)<|eI 6)<|eI 1) (aD (wD (aaI 4<|eOp qC (ah 4)<|eOp oMod (eOp oDiv (ah 12)<|eI 6)<|eI 8)<|kq<|bu (aq 8)<|bu (aq 9)<|bu (aq 10) kr)<|n7 4 (dB<|aa (ah 8)<|aa (ah 9)<|aa (eOp oMod (eOp cV (eOp cV (ah 10)<|eI 1)<|eOp oMod (eOp oDiv (ah 12)<|eI 48)<|eI 3)<|eI 4) ao)<|eOp oMod (eOp oDiv (ah 12)<|eI 6)<|eI 8) sNx) R [J,s,I,E,.od (nW a)<|T.map stW,t,G,v,B,u,f,e,.va<|.int z]=R [J,s,I,E,.od (nW a)<|r.map stW,t,G,v,N,O,j,e,.va<|.int z]:=by
 by_cases K:z%6=1
 .obtain⟨d,C⟩:∃d:Nat,z/6%8=d:=⟨(z/6%8).toNat,by omega⟩;have o:d<8:=by omega
  have l:d∈a:=P.mem_iff.mpr<|aoc.mpr o;have i:a.length=8:=P.length_eq;have m:a.idxOf d<T.length:=by have:=api l;have:=b.len;omega
  have H:=aen P b.len o;have g:=b.fi (T.getD (a.idxOf d) (0,0,0)) (by rw[aoe,aod m];exact apO _);obtain⟨p,D⟩:∃p,T.getD (a.idxOf d) (0,0,0)=p:=⟨_,rfl⟩;rw[D]at H g;have n:Fac (p.1,p.2.1,(p.2.2+1+z/48%3)%4):=⟨by show 0<=(p.2.2+1+z/48%3)%4;omega,by show(p.2.2+1+z/48%3)%4<4;omega⟩;have nd:a.Nodup:=P.nodup_iff.mpr apf;have c:=sX d a;rw[aoC l]at c;have Q:∀A:Ws,putD 4 (nW a) (T.map stW) (.int d) (stW (p.1,p.2.1,(p.2.2+1+z/48%3)%4)) A=.nx (A.set 4<|.od (nW a)<|(T.set (a.idxOf d) (p.1,p.2.1,(p.2.2+1+z/48%3)%4)).map stW):=λA=>by unfold putD putK ahC;rw[c,an4 ⟨rfl,by simp[nW,i,lim]⟩,uW a _ nd (by have:=b.len;simp;omega) l,List.map_set];rfl
  refine⟨T.set (a.idxOf d) (p.1,p.2.1,(p.2.2+1+z/48%3)%4),.va<|.int p.1,.va<|.int p.2.1,.va<|.int p.2.2,⟨by simp[b.len],λq M=>?_,(abX (λp g=>(b.fi p g).1) b.two m n<|by rw[D];rfl).2⟩,λR=>(v_t<|an8 Res.ok<|aoC K).trans<|ja.trans<|(wb (w:=stW p) ((aaH _ _ _).trans<|an8 plR<|aE (x:=.dic (nW a)<|T.map stW) rfl (aE (x:=.int<|z/6) (y:=.int 8) rfl rfl<|an8 (λk=>Res.ok<|W.int k) C) H) rfl).trans<|abN<|agZ rfl rfl (aE (x:=.int<|z/6) (y:=.int 8) rfl rfl<|an8 (λk=>Res.ok<|W.int k) C)<|Q _⟩;rcases aq7 M with h|rfl;.exact b.fi q h
  .exact⟨n,g.2⟩
 .exact⟨T,B,u,f,b,λR=>(v_f<|an8 Res.ok<|aoq K).trans gT⟩
def ade(c e)(l:e=0\/e=185\/e=-185):∃f,il [.int c,.int e]=.ok (flW f)/\Fl f/\cK f/\∀p∈f,inB p=true:=by
 obtain⟨a,s,g⟩:=order_eq c [.va<|.int c,.va<|.int e,.no,.no,.no,.no,.no,.no,.no,.no,.no,.no,.no] (ah 0) rfl;obtain⟨o,D,_⟩:=cA c 82 (by decide) (by decide);obtain⟨z,q,_⟩:=cA c 80 (by decide) (by decide);have j:a.length=8:=g.length_eq;obtain⟨T,B,E,x,C,m,k,y,w⟩:=af1 c e o l a (g.nodup_iff.mpr apf) j;obtain⟨h,G,H,u,b,v⟩:=ah7 z g y (.va<|.int c) (.va<|.int e) (.va<|.lst<|nW a) (.va<|.lst<|(T.map ay).map spW) (.va<|.int o) B E x C m k;obtain⟨t,A⟩:=adA g b.len (λp n=>(b.fi p n).1) b.two;refine⟨byD a h,?_,t,A,λp n=>?_⟩;.refine an8 fin (a₁:=hG [.va<|.int c,.va<|.int e,.no,.no,.no,.no,.no,.no,.no,.no,.no,.no,.no]) (a₂:=.rt _) ?_;refine(aL s).trans ((aL rfl).trans<|(abN rfl).trans<|(aL<|bU rfl D).trans<|(abN w).trans<|(aL<|bU rfl q).trans<|(v _).trans ?_);exact ajv (iB<|uC (bV (nV rfl (by decide)<|bA λd i=>⟨_,rfl,rfl,by rw[apk];exact aE rfl rfl<|aen g b.len<|aoc.mp i⟩) rfl)<|by rw[show flW (byD a h)=.tup ((byD a h).map stW)from rfl];unfold byD;rw[aoR];rfl)
 .obtain⟨d,i,rfl⟩:=aox.mp n;have r:a.idxOf d<h.length:=by have:=api<|g.mem_iff.mpr i;have:=b.len;omega
  exact(b.fi _<|by rw[aoe,aod r];exact apO _).2
def aiT(d):∃a,iV [.int d]=.ok (.int a)/\(a=0\/a=185\/a=-185):=by
 obtain⟨z,e,g,_⟩:=cA d 91 (by decide) (by decide);obtain⟨a,b,c⟩:∃a:Int,oIx (.lst [.int 0,.int 0,.int 0,.int 185,.int<|-185]) (.int<|z%5)=.ok (.int a)/\(a=0\/a=185\/a=-185):=by
  have f:z%5=0\/z%5=1\/z%5=2\/z%5=3\/z%5=4:=by omega
  rcases f with h|h|h|h|h<;>rw[h]<;>simp
 refine⟨a,?_,c⟩;simp[iV,kM,List.replicate,e,b]
theorem pI{s}:∀{f k},kf s k f=none->∀p∈f,ay p≠s
|[],_,_,p,a=>by grind|q::f,k,h,p,a=>by
 unfold kf at h;split at h;.cases h
 .rename_i b;rcases an7.mp a with rfl|a;.exact b
  .exact pI h p a
def aht{f}(b:cK f){d i}(c:i<f.length)(a:ay (f.getD i (0,0,0))=sfp (f.getD d (0,0,0)) 0 2)(j:(f.getD i (0,0,0)).2.2=(f.getD d (0,0,0)).2.2):rhO f d=some i:=by
 have h:f.getD i (0,0,0)∈f:=by grind
 unfold rhO;cases e:kf _ 0 f with|none=>exact absurd a<|pI e _ h|some k=>have l:=(f7 _ 0 f k e).2;have g:=rM _ f 0 k e;have:k=i:=two_at b (by omega) c<|g.trans a.symm;subst this;show(if(f.getD k (0,0,0)).2.2=(f.getD d _).2.2 then some k else none)=_;rw[an4 j]
def afZ(f)(F:Fl f)(m:cK f)(d:Nat)(h:d<8):nk [flW f,.int d]=.ok (onW<|rhO f d):=by have c:=λk(l:k<8)=>oR (f:=f) (k:=k) (by rw[F.len];exact l);have j:=c d h;have L:=jt (emb:=λi:Nat=>W.int<|0+(i:Nat)) (g:=aq 3) (b:=gp) rfl (λi=>decide (ay (f.getD i (0,0,0))=sfp (f.getD d (0,0,0)) 0 2)&&decide ((f.getD i (0,0,0)).2.2=(f.getD d (0,0,0)).2.2)) (λi=>.rt<|.int<|0+(i:Nat)) (λ_ _=>rfl) (λo=>[.va<|flW f,.va<|.int d,.va<|spW<|sfp (f.getD d (0,0,0)) 0 2,o]) (λi=>.va<|.int<|0+(i:Nat)) (List.range 8) (λi a=>⟨λ_=>rfl,by have e:=c i<|aoc.mp a;rw[apk];exact n0 (fB<|aE (abO<|aE rfl rfl e) rfl<|vb _ _)<|fB<|aE (aE (aE rfl rfl e) rfl rfl) (aE (aE rfl rfl j) rfl rfl) rfl,rfl⟩) .no;refine(an8 fin<|aL<|bU (bV (aE rfl rfl j) rfl)<|cG _ (gG F.fac<|by rw[F.len];exact h) 0 2).trans ?_;cases e:(List.range 8).find? _ with|some i=>rw[e]at L;have a:=List.find?_some e;simp only[aoo,aoJ]at a;rw[aht m (by rw[F.len];exact aoc.mp<|aq8 e) a.1 a.2];refine(an8 (λo=>fin<|gW o _) L).trans ?_;rw[apk];rfl|none=>rw[e]at L;obtain⟨o,L⟩:=L;refine(an8 (λo=>fin<|gW o _) L).trans ?_;cases z:rhO f d with|none=>rfl|some k=>obtain⟨q,p,n⟩:=fH z;exact absurd (by rw[p,n];simp) (aqR.mp e k<|aoc.mpr<|by rw[<-F.len];exact q)
def v5{hs t}(H:Hands hs t)(FL)(b c):∀n m d a g,d<8->8<=n+t d+1->n<m->a.length+n<900->if(cU hs n d).length%2=0 then∃o,df bK bL m [.va FL,.va<|hsW hs,.ow<|a.map prW,b,.va<|.int d,g,c]=.nx [.va FL,.va<|hsW hs,.ow<|(a++two2 (cU hs n d)).map prW,b,.va .non,o,c]else df bK bL m [.va FL,.va<|hsW hs,.ow<|a.map prW,b,.va<|.int d,g,c]=.rt .non:=by intro n;induction n using Nat.strongRecOn with
|_ n ih=>intro m d a g p y B z;obtain⟨m,rfl⟩:∃k,m=k+1:=⟨m-1,by omega⟩;have h:=ac5 hs p;cases e:hs d with|none=>
   have q:cU hs n d=[d]:=by cases n<;>simp[cU,e]
   rw[e]at h;rw[q,an5<|by simp];exact(v_w rfl).trans (an8 (mC . _)<|(aL<|aE rfl rfl h).trans<|(v_t rfl).trans<|uw rfl)|some k=>
   have f:=H.lt d k p e;have x:=H.up d k p e;have A:=H.rl k f;obtain⟨n,rfl⟩:∃j,n=j+1:=⟨n-1,by omega⟩;have w:=ac5 hs f;rw[e]at h;have step:df bK bL (m+1) [.va FL,.va<|hsW hs,.ow<|a.map prW,b,.va<|.int d,g,c]=df bK bL m [.va FL,.va<|hsW hs,.ow<|(a++[(d,k)]).map prW,b,.va<|onW<|hs k,.va<|.int k,c]:=by rw[show(a++[(d,k)]).map prW=a.map prW++[.tup [.int d,.int k]]by simp[prW]];exact amr rfl ((aL<|aE rfl rfl h).trans<|(v_f rfl).trans<|gT.trans<|(abN<|ag1 rfl (by simp;omega) rfl).trans<|akn<|aE rfl rfl w)
   rw[step];cases l:hs k with|none=>
    have q:cU hs (n+1) d=[d,k]:=by simp only[cU,e];cases n<;>simp[cU,l]
    rw[q,an4<|by simp];obtain⟨m,rfl⟩:∃j,m=j+1:=⟨m-1,by omega⟩;exact⟨_,akm rfl⟩|some j=>have s:=H.lt k j f l;have u:=H.up k j f l;have v:=H.rl j s;obtain⟨n,rfl⟩:∃i,n=i+1:=⟨n-1,by omega⟩;have r:=ih n (by omega) m j (a++[(d,k)]) (.va<|.int k) s (by omega) (by omega) (by simp;omega);rw[show cU hs (n+1+1) d=d::k::cU hs n j by simp only[cU,e,l],show(d::k::cU hs n j).length%2=(cU hs n j).length%2 by simp only[aon];omega,show a++two2 (d::k::cU hs n j)=a++[(d,k)]++two2 (cU hs n j)by simp[two2]];exact r
theorem ic{hs w}(H:Hands hs w)(FL):∀c a k g f e,(∀d∈c,d<8)->a.length+9*c.length<800->match pl hs c a with|some ps=>∃t v u,forL (aq 3) bM (nW c) [.va FL,.va<|hsW hs,.ow<|a.map prW,k,g,f,e]=.nx [.va FL,.va<|hsW hs,.ow<|ps.map prW,t,v,u,e]|none=>forL (aq 3) bM (nW c) [.va FL,.va<|hsW hs,.ow<|a.map prW,k,g,f,e]=.rt .non
|[],a,k,g,f,e,_,_=>⟨k,g,f,rfl⟩|d::c,a,k,g,f,e,hd,hl=>by
  have n:=hd d aol;have j:∀x∈c,x<8:=λx s=>hd x<|aog _ s;have l:=vc hs d;have y:(two2<|cU hs 8 d).length<=9:=by have:=kh (hs:=hs) 8 d;have:=two2_len<|cU hs 8 d;omega
  simp only[aon]at hl;rw[show nW (d::c)=.int d::nW c from rfl];unfold pl;by_cases h:startB hs d=true
  .rw[h]at l;have i:=v5 H FL (.va<|.int d) e 8 20 d a f n (by omega) (by decide) (by omega);have p:∀o,df bK bL 20 _=o->bM [.va FL,.va<|hsW hs,.ow<|a.map prW,.va<|.int d,g,f,e]=o:=λo r=>(v_i<|fB<|aE rfl rfl l).trans<|(aL rfl).trans r;rw[an4 h];by_cases q:(cU hs 8 d).length%2=0;.rw[an4 q]at i⊢;obtain⟨m,i⟩:=i;rw[bw rfl (p _ i) rfl];exact ic H FL c (a++two2 (cU hs 8 d)) (.va<|.int d) (.va .non) m e j (by simp;omega)
   .rw[an5 q]at i⊢;exact vA rfl (p _ i) λ_=>rfl
  .rw[an5 h];rw[show startB hs d=false by simpa using h]at l;have b:bM [.va FL,.va<|hsW hs,.ow<|a.map prW,.va<|.int d,g,f,e]=_:=amv<|fB<|aE rfl rfl l;rw[bw rfl b rfl];exact ic H FL c a (.va<|.int d) g f e j (by omega)
theorem two2_next{hs}:∀n d,∀p∈two2 (cU hs n d),hs p.1=some p.2
|0,d,p,h=>by cases h|1,d,p,h=>by unfold cU at h;cases e:hs d with|none=>rw[e]at h;cases h|some k=>rw[e]at h;simp only[cU,two2,an7,aop,apo]at h;rw[h];exact e
|n+2,d,p,h=>by unfold cU at h;cases e:hs d with|none=>rw[e]at h;cases h|some k=>rw[e]at h;simp only at h;unfold cU at h;cases a:hs k with|none=>rw[a]at h;simp only[two2,an7,aop,apo]at h;rw[h];exact e|some j=>
  rw[a]at h;simp only[two2,an7]at h;rcases h with h|h;.rw[h];exact e
  .exact two2_next n j p h
def y9{hs ps}(h:pl hs (List.range 8) []=some ps):∀p∈ps,hs p.1=some p.2:=λp a=>by
 rw[aca]at h;split at h;.cases h;obtain⟨l,b,a⟩:=arp.mp a;obtain⟨d,_,rfl⟩:=aox.mp b;exact two2_next 8 d p a
 .cases h
def afG{p q}(a:Fac p)(b:ay q=sfp p 0 2):(p.1+q.1)/2=(bsd p 1).1/\(p.2.1+q.2.1)/2=(bsd p 1).2.1:=by
 obtain⟨x,y,c⟩:=p;have d:c=0\/c=1\/c=2\/c=3:=by unfold Fac at a;simp only at a;omega
 rcases d with rfl|rfl|rfl|rfl<;>simp[ay,sfp]at b<;>simp[bsd,sfp]<;>omega
def lH(f)(F:Fl f)(p)(a:p.1<8)(h:rhO f p.1=some p.2):bJ [flW f,prW p]=.ok (stW<|bsd (f.getD p.1 (0,0,0)) 1):=by
 obtain⟨e,g,i⟩:=fH h;have a:p.1<f.length:=by rw[F.len];exact a
 obtain⟨d,c⟩:=afG (gG F.fac a) g;refine(an8 fin<|(aL<|aE rfl rfl<|oR a).trans<|(aL<|aE rfl rfl<|oR e).trans (b:=Out.rt _) rfl).trans ?_;rw[d,c];rfl
noncomputable def aem(p:S3):List Int:=[p.1,p.2.1]
theorem zY:∀f:List S3,keysOf (f.map λp=>spW<|ay p)=some (f.map aem)|[]=>rfl|p::f=>by have a:=zY f;simp [keysOf,spW]at a⊢;rw[a];rfl
theorem aga:∀(l d:List (List Int)),(l.foldl (λd k=>if k∈d then d else k::d) d).length<=d.length+l.length/\((l.foldl (λd k=>if k∈d then d else k::d) d).length=d.length+l.length↔l.Pairwise (.≠.)/\∀k∈l,k∉d)
|[],d=>by simp|k::l,d=>by
  simp only[List.foldl_cons];by_cases h:k∈d;.rw[an4 h];have f:=aga l d;refine⟨by simp;omega,⟨λz=>?_,λz=>absurd h<|z.2 k aol⟩⟩;simp at z;omega
  .rw[an5 h];have f:=aga l (k::d);simp only[aon]at f⊢;refine⟨by omega,?_⟩;rw[show d.length+(l.length+1)=d.length+1+l.length by omega,f.2,apX];constructor
   .rintro⟨a,b⟩;refine⟨⟨λx e z=>b x e (by rw[z];exact aol),a⟩,λx e=>?_⟩;rcases an7.mp e with rfl|e;.exact h
    .exact λz=>b x e<|aog _ z
   .rintro⟨⟨a,b⟩,c⟩;refine⟨b,λx e z=>?_⟩;rcases an7.mp z with rfl|z;.exact a x e rfl
    .exact c x (aog _ e) z
def ads(f):(dd<|f.map aem).length<=f.length/\((dd<|f.map aem).length=f.length↔cK f):=by
 have h:=aga (f.map aem) [];simp only[aqd,Nat.zero_add,aos,aop,not_false_eq_true,implies_true,and_true]at h;refine⟨h.1,h.2.trans ?_⟩;rw[List.pairwise_map];constructor;.exact λz=>z.imp λa e=>a (by simp only[ay,ao1]at e;simp[aem,e])
 .exact λz=>z.imp λa e=>a (by simp only[aem,arw]at e;simp[ay,e])
def amO:Option (List<|Nat×Nat)->W|some ps=>.lst<|ps.map prW|none=>.non
def qI(f)(F:Fl f)(i:cK f):lW [flW f]=.ok (amO<|wG f):=by have l:=F.len;have L:=ic (oN l i) (flW f) (List.range 8) [] .no .no .no .no (λd j=>aoc.mp j) (by decide);refine(an8 fin<|(aL<|nV rfl (by decide)<|bA λd j=>⟨_,rfl,rfl,by rw[apk];exact bU rfl<|afZ f F i d<|aoc.mp j⟩).trans<|ajr rfl).trans ?_;show fin (gW (forL (aq 3) bM (nW<|List.range 8) [.va<|flW f,.va<|hsW<|rhO f,.ow [],.no,.no,.no,.no]) _)=_;unfold wG;cases e:pl (rhO f) (List.range 8) []with|none=>rw[e]at L;exact an8 (λo=>fin<|gW o _) L|some ps=>
 rw[e]at L;obtain⟨m,q,n,h⟩:=L;refine(an8 (λo=>fin<|gW o _) h).trans ?_;have G:=oi l i e;have k:(dO f ps).length=4:=by simp[dO,G.len]
 have u:ba (aq 0) fF (eSl (ax bJ<|aa (ah 1)<|aa (ah 0) ao) pNo<|en<|eI 2) [.no,.va<|flW f,.va<|hsW<|rhO f,.va<|.lst<|ps.map prW,m,q,n,.no] (ps.map prW)=.ok ((dO f ps).map λp=>spW<|ay p):=by unfold dO;rw[aoR];exact bA λp r=>⟨_,rfl,rfl,abO<|bU rfl<|lH f F p (G.lt p r).1<|y9 e p r⟩
 have s:t6 (.lst<|(dO f ps).map λp=>spW<|ay p)=.ok (.int (dd<|(dO f ps).map aem).length):=by simp[t6,zY,k]
 have g:mh [.lst<|(dO f ps).map λp=>spW<|ay p]=.ok (.int 4):=by show Res.ok (W.int<|List.length _)=_;rw[aos,k];rfl
 have dl:=ads<|dO f ps;rw[k]at dl;refine(an8 fin<|abN<|ajv<|akn<|nV rfl (by rw[aos,G.len];decide) u).trans ?_;have c:∀b,decide (((dd<|(dO f ps).map aem).length:Int)<4)=b->tB (eOp oLt (tx<|ah 6)<|eBi mh<|aa (ah 6) ao) [.va<|flW f,.va<|hsW<|rhO f,.va<|.lst<|ps.map prW,m,q,n,.va<|.lst<|(dO f ps).map λp=>spW<|ay p]=.ok b:=λb t=>t▸fB (aE (x:=.int _) s (uC (a:=aa (ah 6) ao) rfl g) rfl);show _=Res.ok (amO<|if decide (cK<|dO f ps)=true then some (srt ps)else none);by_cases g:cK (dO f ps);.rw[an4 (aoC g)];exact an8 fin ((v_f<|c _<|aoq (by have:=dl.2.mpr g;omega)).trans<|gT.trans<|ajv<|iB<|uC (a:=aa (ah 2) ao) rfl<|yC G.len)
 .rw[an5 (by simpa using g)];exact an8 fin ((v_t<|c _<|aoC (by have:=mt dl.2.mp g;have:=dl.1;omega)).trans<|uw rfl)
def acG(n)(H:0<=n):∃g t,jw [.int n]=.ok (tsW g t)/\t.Ok:=by
 obtain⟨m,E⟩:∃m,n/16=m:=⟨_,rfl⟩;obtain⟨l,C⟩:∃l:Lone,oIx (.lst [.str "head",.str "side",.str "lefts",.str "rights",.str "inward",.str "outward",.str "sideways"]) (.int<|m%7)=.ok (.str l.w):=by
  obtain⟨w,hw,e⟩:=lF (ws:=["head","side","lefts","rights","inward","outward","sideways"]) m 7 rfl (by decide);simp only[an7,aop,apo]at hw;rcases hw with rfl|rfl|rfl|rfl|rfl|rfl|rfl;.exact⟨.head,e⟩
  .exact⟨.side,e⟩
  .exact⟨.lefts,e⟩
  .exact⟨.rights,e⟩
  .exact⟨.inward,e⟩
  .exact⟨.outward,e⟩
  .exact⟨.sideways,e⟩
 obtain⟨w,hw⟩:∃w:What,oIx (.lst [.str "none",.str "any",.str "same",.str "left",.str "about",.str "right",.str "partner",.str "opposite"]) (.int<|m/7448%8)=.ok (.str w.w):=by
  obtain⟨w,hw,e⟩:=lF (ws:=["none","any","same","left","about","right","partner","opposite"]) (m/7448) 8 rfl (by decide);simp only[an7,aop,apo]at hw;rcases hw with rfl|rfl|rfl|rfl|rfl|rfl|rfl|rfl;.exact⟨.none,e⟩
  .exact⟨.any,e⟩
  .exact⟨.same,e⟩
  .exact⟨.left,e⟩
  .exact⟨.about,e⟩
  .exact⟨.right,e⟩
  .exact⟨.partner,e⟩
  .exact⟨.opposite,e⟩
 obtain⟨k,D⟩:∃k:Int,oIx (.lst [.int 1,.int 2,.int 3,.int<|m/4%201]) (.int<|m%4)=.ok (.int k):=by obtain⟨x,q,e⟩:=sI [.int 1,.int 2,.int 3,.int<|m/4%201] m 4 rfl (by decide);simp only[an7,aop,apo]at q;rcases q with rfl|rfl|rfl|rfl<;>exact⟨_,e⟩
 have c:∀(t:Tst)(f s u:Sl),t.Ok->∃g d,fin ((aD (sIf (tB<|eOp oEq (eOp oMod (eOp oDiv (ah 0)<|eI 3)<|eI 4)<|eI 1) (bg<|dB<|aa (eS "not")<|aa (ah 3) ao) sNx)<|bg<|ah 3) [.va<|.int n,.va<|.int m,.va<|.str l.w,.va t.W,f,s,u])=.ok (tsW g d)/\d.Ok:=λt f s u ok=>by
  by_cases h:n/3%4=1;.exact⟨true,t,by rw[v_t (an8 Res.ok<|aoC h)];rfl,ok⟩
  .exact⟨false,t,by rw[v_f (an8 Res.ok<|aoq h)];rfl,ok⟩
 show∃g t,fin (gC [.va<|.int n,.no,.no,.no,.no,.no,.no])=.ok (tsW g t)/\t.Ok;unfold gC;rw[aL (v:=.int m) (E▸rfl),aL (v:=.str l.w) C,aL (v:=.tup [.str l.w]) rfl];by_cases j:6<n%16
 .rw[v_t (an8 Res.ok<|aoC j),ja,aL (v:=.int<|m%7-3) rfl,ja,aL (v:=.int<|m/7%7-3) rfl,ja];refine uz (y:=.int<|m%7-3) (λo=>∃g t,fin o=.ok (tsW g t)/\t.Ok) rfl rfl rfl λz b=>?_;obtain⟨a,rfl,B,G⟩:∃a:Int,z=.int a/\-9<=a/\a<=9:=by rcases b with rfl|rfl<;>exact⟨_,rfl,by omega,by omega⟩
  rw[ja];refine uz (y:=.int<|m/7%7-3) (λo=>∃g t,fin o=.ok (tsW g t)/\t.Ok) rfl rfl rfl λz b=>?_;obtain⟨r,rfl,i,p⟩:∃a:Int,z=.int a/\-9<=a/\a<=9:=by rcases b with rfl|rfl<;>exact⟨_,rfl,by omega,by omega⟩
  rw[ja];refine uz (y:=.int r) (λo=>∃g t,fin o=.ok (tsW g t)/\t.Ok) (n0 rfl rfl) rfl rfl λz b=>?_;obtain⟨r,rfl,i,p⟩:∃a:Int,z=.int a/\-9<=a/\a<=9:=by rcases b with rfl|rfl<;>exact⟨_,rfl,by omega,by omega⟩
  rw[ja,aL (v:=.str w.w) hw,aL (v:=(Tst.at a r w).W) rfl];exact c (.at a r w) _ _ _ ⟨B,G,i,p⟩
 .rw[v_f (an8 Res.ok<|aoq j)];by_cases A:n%16=6;.rw[v_t (an8 Res.ok<|aoC A),aL<|pO (x:=.str "inner") rfl D];exact c (.inner k) _ _ _ trivial
  .rw[v_f (an8 Res.ok<|aoq A),gT];exact c (.lone l) _ _ _ trivial
def acH(n)(k:0<=n):∃s:Stp,jx [.int n]=.ok s.W/\s.Ok:=by
 obtain⟨q,j,d,m⟩:∃q:Int,oIx (.lst [.int 3,.int 3,.int 3,.int 9]) (.int<|n/72%4)=.ok (.int q)/\0<q/\q<=9:=by obtain⟨x,a,e⟩:=sI [.int 3,.int 3,.int 3,.int 9] (n/72) 4 rfl (by decide);simp only[an7,aop,apo]at a;rcases a with rfl|rfl|rfl|rfl<;>exact⟨_,e,by decide,by decide⟩
 obtain⟨t,ht⟩:∃t:Tn,oIx (.lst [.str "left",.str "right",.str "about"]) (.int<|n/8%3)=.ok (.str t.w):=by
  obtain⟨w,hw,e⟩:=lF (ws:=["left","right","about"]) (n/8) 3 rfl (by decide);simp only[an7,aop,apo]at hw;rcases hw with rfl|rfl|rfl;.exact⟨.left,e⟩
  .exact⟨.right,e⟩
  .exact⟨.about,e⟩
 have o:=aqg (n/8) (b:=q) (by omega);have l:=apY (n/8) (b:=q) d;have c:∀R,aD (bq 1<|eOp cV (eI 1)<|eOp oMod (eOp oDiv (ah 0)<|eI 8)<|eOp oIx (e8<|aa (eI 3)<|aa (eI 3)<|aa (eI 3)<|aa (eI 9) ao)<|eOp oMod (eOp oDiv (ah 0)<|eI 72)<|eI 4) R [.va<|.int n,.no]=R [.va<|.int n,.va<|.int<|1+n/8%q]:=λR=>aL<|aE (x:=.int 1) (y:=.int<|n/8%q) rfl (aE rfl (aE rfl rfl j)<|an4 d) rfl;by_cases h:5<n%8;.exact⟨.turn t,an8 fin<|(c _).trans<|(v_t<|an8 Res.ok<|aoC h).trans<|uw<|pO rfl<|aE rfl rfl ht,trivial⟩
 .obtain⟨g,i⟩:∃g:Go,oIx (.lst [.str "ahead",.str "ahead",.str "ahead",.str "back",.str "left",.str "right"]) (.int<|n%8)=.ok (.str g.w):=by
   have f:n%8=0\/n%8=1\/n%8=2\/n%8=3\/n%8=4\/n%8=5:=by omega
   rcases f with h|h|h|h|h|h<;>rw[h];.exact⟨.ahead,rfl⟩
   .exact⟨.ahead,rfl⟩
   .exact⟨.ahead,rfl⟩
   .exact⟨.back,rfl⟩
   .exact⟨.left,rfl⟩
   .exact⟨.right,rfl⟩
  exact⟨.go g<|1+n/8%q,an8 fin<|(c _).trans<|(v_f<|an8 Res.ok<|aoq h).trans<|gT.trans<|iB<|pO (aE rfl rfl i) rfl,by simp only[Stp.Ok];omega⟩
theorem tU{g t e σ}{l d:Type}{emb f}(P:d->Prop):∀{xs:List l},(∀x∈xs,∃a k,g (emb x) σ=.ok a/\t a=.ok true/\e a=.ok (f k)/\P k)->∃c:List d,ba g t e σ (xs.map emb)=.ok (c.map f)/\c.length=xs.length/\∀k∈c,P k
|[],_=>⟨[],rfl,rfl,λk j=>by cases j⟩|x::xs,h=>by
 obtain⟨a,k,o,r,q,m⟩:=h x (by simp);obtain⟨c,n,p,i⟩:=tU P (xs:=xs) λy b=>h y (by simp[b]);refine⟨k::c,?_,by simp[p],λy b=>?_⟩;.simp only[aor,ba,o,r,q,me,n]
 .rcases an7.mp b with rfl|b;.exact m
  .exact i y b
def zE(c k m)(hk:0<=k)(B:k<=100)(d:0<m)(A:m<=8):∃s,lV [.int c,.int k,.int m]=.ok (ssW s)/\(∀l,s=some l->l≠[]/\∀s∈l,s.Ok)/\∀l,s=some l->l.length<=100:=by
 obtain⟨z,j,C,_⟩:=cA c (40+k) (by omega) (by omega);by_cases h:z%9=1;.exact⟨none,an8 fin<|(aL<|bU rfl j).trans<|(v_t<|an8 Res.ok<|aoC h).trans<|uw rfl,λl e=>(by cases e),λl e=>by cases e⟩
 .have E:=aqg (z/9) (b:=m) (by omega);have D:=apY (z/9) (b:=m) d;obtain⟨l,w,a,o⟩:=tU (g:=aq 0) (t:=fF) (e:=ax jx<|aa (ax aG<|aa (ah 1)<|aa (eOp cV (eOp cV (eI 60)<|eOp fw (eI 9)<|ah 2)<|ah 0) ao) ao) (σ:=[.no,.va<|.int c,.va<|.int k,.va<|.int m,.va<|.int z]) (emb:=λi:Nat=>.int<|0+(i:Nat)) (f:=Stp.W) Stp.Ok (xs:=List.range (1+z/9%m).toNat) λi q=>by have r:=aoc.mp q;obtain⟨y,n,u,_⟩:=cA c (60+9*k+(0+(i:Nat))) (by omega) (by omega);obtain⟨s,v,ok⟩:=acH y u;exact⟨_,s,rfl,rfl,bU (bV (bU (bV rfl<|bV (aE (aE rfl (aE (x:=.int 9) (y:=.int k) rfl rfl<|fU k (by decide)<|by decide) rfl) rfl rfl) rfl) n) rfl) v,ok⟩
  rw[apv]at a;refine⟨some l,an8 fin ((aL<|bU rfl j).trans<|(v_f<|an8 Res.ok<|aoq h).trans<|gT.trans<|iB<|uC (bV (nV (ajs (aE (x:=.int 1) (y:=.int<|z/9%m) rfl (aE rfl rfl<|an4 d) rfl)<|by omega) (by simp[rng];omega) w) rfl) rfl),λp e=>?_,λp e=>?_⟩;.cases e;exact⟨λz=>by rw[z]at a;simp at a;omega,o⟩
  .cases e;omega
def lcP(z gr:Int)(N:W)(i:Nat)(b:List Rl)(o:Out):Prop:=∃r:Rl,r.Ok/\∃c a,o=.nx [.va<|.int z,.ow<|(b++[r]).map Rl.W,.va<|.int gr,.va N,.va<|.int i,c,a]
def w6(z gr a d K)(N)(k:aG [.int z,.int 30]=.ok (.int K))(h:oIx (.lst [.int 3,.int 7]) (.int gr)=.ok (.int a))(X:a=3\/a=7)(q:oIx (.lst [.int 4,.int 8]) (.int gr)=.ok (.int d))(U:d=4\/d=8)(i)(Q:i<100)(G:∃n,N=.int n)(c)(R:c.length<=100)(O u):lcP z gr N i c (eN [.va<|.int z,.ow<|c.map Rl.W,.va<|.int gr,.va N,.va<|.int i,O,u]):=by
 obtain⟨y,l,s,_⟩:=cA z (200+i) (by omega) (by omega);obtain⟨N,rfl⟩:=G;have r:0<a:=by omega
 have J:=aqg y (b:=a) (by omega);have T:=apY y (b:=a) r;refine(an8 (lcP z gr (.int N) i c)<|aL<|aE (bU rfl l) (aE rfl rfl h)<|an4 r).mpr (uz (y:=.int<|y%a) (lcP z gr (.int N) i c) (n0 rfl<|fB<|aE (aE (bU rfl k) rfl rfl) rfl rfl) rfl rfl λw hw=>?_);obtain⟨M,rfl,S⟩:∃M:Nat,w=.int M/\M<7:=by
  rcases hw with rfl|rfl;.exact⟨0,rfl,by decide⟩
  .exact⟨(y%a).toNat,by rw[Int.toNat_of_nonneg J],by omega⟩
 obtain⟨m,B,P,v⟩:=tU (g:=aq 0) (t:=fF) (e:=ax jw<|aa (ax aG<|aa (ah 1)<|aa (eOp cV (eOp cV (eI 300)<|eOp fw (eI 7)<|ah 5)<|ah 0) ao) ao) (σ:=[.no,.va<|.int z,.ow<|c.map Rl.W,.va<|.int gr,.va<|.int N,.va<|.int i,.va<|.int M,u]) (emb:=λi:Nat=>.int<|0+(i:Nat)) (f:=λp:Bool×Tst=>tsW p.1 p.2) (λp=>p.2.Ok) (xs:=List.range M) λj D=>by have C:=aoc.mp D;obtain⟨y,l,s,_⟩:=cA z (300+7*i+(0+(j:Nat))) (by omega) (by omega);obtain⟨g,t,A,ok⟩:=acG y s;exact⟨_,(g,t),rfl,rfl,bU (bV (bU (bV rfl<|bV (aE (aE rfl (aE (x:=.int 7) (y:=.int i) rfl rfl<|fU _ (by decide)<|by decide) rfl) rfl rfl) rfl) l) rfl) A,ok⟩
 obtain⟨H,o,I,E⟩:=zE z i d (by omega) (by omega) (by omega) (by omega);rw[apv]at P;refine⟨⟨m,H⟩,⟨v,I,by show m.length<=100;omega,E⟩,.va<|.int M,.va<|tsL m,(aL<|uC (bV (nV (ajs (j:=M) rfl<|by omega) (by simp[rng];omega) B) rfl) rfl).trans<|(ag1 rfl (by simp;omega)<|pO rfl<|bU (bV rfl<|bV rfl<|bV (aE rfl rfl q) rfl) o).trans ?_⟩;rw[apg];rfl
def acR(z):∃c,nq [.int z]=.ok (clW c)/\(∀r∈c,r.Ok)/\c.length<=12/\c≠[]:=by
 obtain⟨M,A,R,_⟩:=cA z 31 (by decide) (by decide);obtain⟨f,D,Q,_⟩:=cA z 20 (by decide) (by decide);obtain⟨T,E,X,_⟩:=cA z 30 (by decide) (by decide);obtain⟨gr,C,u⟩:∃gr:Int,gr=(if M%8=1 then 1 else 0)/\(gr=0\/gr=1):=⟨_,rfl,by split<;>simp⟩;obtain⟨d,I,Z⟩:∃q:Int,oIx (.lst [.int 4,.int 12]) (.int gr)=.ok (.int q)/\(q=4\/q=12):=by rcases u with h|h<;>rw[h]<;>simp
 obtain⟨K,B,Y⟩:∃q:Int,oIx (.lst [.int 3,.int 7]) (.int gr)=.ok (.int q)/\(q=3\/q=7):=by rcases u with h|h<;>rw[h]<;>simp
 obtain⟨S,J,U⟩:∃q:Int,oIx (.lst [.int 4,.int 8]) (.int gr)=.ok (.int q)/\(q=4\/q=8):=by rcases u with h|h<;>rw[h]<;>simp
 have O:0<d:=by omega
 have p2:0<K:=by omega
 have n1:=aqg f (b:=d) (by omega);have n2:=apY f (b:=d) O;obtain⟨N,hN⟩:∃N:Nat,(N:Int)=1+f%d:=⟨(1+f%d).toNat,by omega⟩;obtain⟨o,l,k,a,m,v,p,t,rfl⟩:=sY (g:=aq 4) (b:=eN) (xs:=rng 0 N) (σ:=[.va<|.int z,.ow [],.va<|.int gr,.va<|.int<|1+f%d,.no,.no,.no]) (λi o=>∃k:List Rl,k.length=i/\(∀r∈k,r.Ok)/\∃v p t,o=[.va<|.int z,.ow<|k.map Rl.W,.va<|.int gr,.va<|.int<|1+f%d,v,p,t]) ⟨[],rfl,λr H=>(by cases H),_,_,_,rfl⟩ (by
   rintro i w σ hw⟨k,P,m,v,p,t,rfl⟩;obtain⟨hi,rfl⟩:=afd _ _ _ _ hw;obtain⟨r,ok,p5,p6,e⟩:=w6 z gr K S T (.int<|1+f%d) E B Y J U i (by omega) ⟨_,rfl⟩ k (by omega) p t;refine⟨_,rfl,_,by rw[apk];exact e,k++[r],by simp[P],λs n=>?_,_,_,_,rfl⟩;rcases aoH.mp n with n|n;.exact m s n
   .rw[aoK.mp n];exact ok);refine⟨k,?_,m,by simp at a;omega,λe=>by rw[e]at a;simp at a;omega⟩;have G:eBi mI (aa (eOp oEq (eOp oMod (ax aG<|aa (ah 0)<|aa (eI 31) ao)<|eI 8)<|eI 1) ao) [.va<|.int z,.ow [],.no,.no,.no,.no,.no]=.ok (.int gr):=by rw[C];refine uC (bV (aE (aE (bU rfl A) rfl rfl) rfl rfl) rfl) ?_;by_cases h:M%8=1<;>simp[h]
 have H:dz (ah 3) [.va<|.int z,.ow [],.va<|.int gr,.va<|.int<|1+f%d,.no,.no,.no]=.ok (rng 0 N):=by rw[ajs (j:=1+f%d) rfl (by omega)];congr 2;omega
 exact an8 fin (a₁:=jc [.va<|.int z,.no,.no,.no,.no,.no,.no]) (a₂:=.rt<|clW k)<|(ajr rfl).trans<|(aL G).trans<|(aL<|aE (x:=.int 1) (y:=.int<|f%d) rfl (aE (bU rfl D) (aE rfl rfl I)<|an4 O) rfl).trans<|(amx H l).trans rfl
def kT(p)(h:Fac p)(s):e7 [stW p,s.W]=.ok (stW<|xU p s):=by
 have go:∀(w:String)(n a b:Int),tB _ [.va<|stW p,.va<|.tup [.str w,.int n],.no,.no]=.ok false->oIx vL (.str w)=.ok (.tup [.int a,.int b])->-2<a/\a<2->-2<b/\b<2->e7 [stW p,.tup [.str w,.int n]]=.ok (stW ((sfp p (a*n)<|b*n).1,(sfp p (a*n)<|b*n).2,p.2.2)):=λw n a b c d f e=>an8 fin ((v_f c).trans<|gT.trans<|(aL<|aE rfl rfl d).trans<|(aL<|bU (bV rfl<|bV (aE (x:=.int a) (y:=.int n) rfl rfl<|fU n (by omega)<|by omega)<|bV (aE (x:=.int b) (y:=.int n) rfl rfl<|fU n (by omega)<|by omega) rfl)<|yF p _ _ h.1 h.2).trans rfl)
 cases s with|go g n=>
 cases g;.exact(go _ n 1 0 (by kernel_rfl) rfl (by decide)<|by decide).trans (by simp[xU])
 .exact(go _ n (-1) 0 (by kernel_rfl) rfl (by decide)<|by decide).trans (by simp[xU])
 .exact(go _ n 0 (-1) (by kernel_rfl) rfl (by decide)<|by decide).trans (by simp[xU])
 .exact(go _ n 0 1 (by kernel_rfl) rfl (by decide)<|by decide).trans (by simp[xU])|turn t=>cases t<;>kernel_rfl
def ssL:Option (List Stp)->List W|none=>[.tup [.str "stay"]]|some l=>l.map Stp.W
def ahj(s):ssW s=.tup (ssL s):=by cases s<;>rfl
def vO(p)(pre):oIx (.lst<|(pre++[p]).map stW) (.int<|-1)=.ok (stW p):=by rw[fK,pw];simp
theorem uq(P S):∀l p a o,Fac p->a.length+l.length<999999->∃b,forL (aq 3) jq (l.map Stp.W) [.va P,.va S,.ow<|(a++[p]).map stW,o]=.nx [.va P,.va S,.ow<|(a++j4 p l).map stW,b]
|[],p,a,o,_,_=>⟨o,rfl⟩|s::l,p,a,o,h,hl=>by
 obtain⟨b,d⟩:=uq P S l (xU p s) (a++[p]) (.va s.W) (kU p s h) (by simp at hl⊢;omega);refine⟨b,bw rfl ?_<|by rw[d];simp[j4]⟩;have c:tB (eOp oNe (eOp oIx (ah 3)<|eI 0)<|eS "stay") [.va P,.va S,.ow<|(a++[p]).map stW,.va s.W]=.ok true:=by generalize(a++[p]).map stW=L;cases s with|go g n=>cases g<;>kernel_rfl|turn t=>kernel_rfl
 rw[apg (l₁:=a++[p])];exact(v_i c).trans (akq rfl (by simp at hl⊢;omega) (bU (bV (aE rfl rfl<|vO p a) rfl)<|kT p h s)<|u2 _)
noncomputable def wid(s:Stp):Stp:=match s with|.go .left n=>.go .left<|2*n|.go .right n=>.go .right<|2*n|s=>s
def vZ(s):lU [s.W]=.ok (wid s).W:=by cases s with|go g n=>cases g<;>kernel_rfl|turn t=>cases t<;>kernel_rfl
def uk(s:Option (List Stp)):Option (List Stp):=s.map<|List.map wid
def abF(s)(A):ba (aq 0) fF (ax lU<|aa (ah 0) ao) (.no::A) (ssL s)=.ok (ssL<|uk s):=by cases s with|none=>exact ag0 (bU rfl<|by kernel_rfl) rfl|some l=>show _=Res.ok ((l.map _).map _);rw[aoR];exact bA λs _=>⟨_,rfl,rfl,bU rfl<|vZ s⟩
def aeL{p}(h:Fac p){s}(hs:∀l,s=some l->l.length<=100):vB [stW p,.lst<|ssL s]=.ok (fX<|hY p s):=by cases s with|none=>kernel_rfl|some l=>obtain⟨a,e⟩:=uq _ _ l p [] _ h (by grind);exact an8 fin (an8 (gW . _) e)
variable{i:Nat}
structure Pd(f:List S3)(ps:List (Nat×Nat)):Prop where
 fl:Fl f
 two:cK f
 prs:Prs ps
 nx:∀p∈ps,rhO f p.1=some p.2mid:cK (dO f ps)
structure Gc(c:List Rl):Prop where nt:∀r∈c,r.ts.length<=100ns:∀r∈c,∀l,r.ss=some l->l.length<=100
set_option tactic.hygienic true in
def r6{f}(F:Fl f)(a:cK f){ps}(h:wG f=some ps):Pd f ps:=by
 have G:=qm F.len a h;unfold wG at h;split at h
 .rename_i d e;have S:=uL (oi F.len a e).len;split at h;.rename_i b;cases h;exact⟨F,a,G,λp c=>y9 e p<|S.mem_iff.mp c,(List.Perm.pairwise_iff (λh=>aom h)<|S.map _).mpr<|apI b⟩
  .cases h
 .cases h
def jT(f:List S3)(ps:List (Nat×Nat))(i:Nat):S3:=(dO f ps).getD i (0,0,0)
noncomputable def prt(ps:List (Nat×Nat))(i:Nat):Nat×Nat:=ps.getD i (0,0)
theorem Pd.prt(P:Pd f ps)(a:i<4):ps[i]?=some (prt ps i):=by
 have:i<ps.length:=by rw[P.prs.len];exact a
 unfold K52.prt;rw[aoe,aod this];rfl
def Pd.mem(P:Pd f ps)(a:i<4):K52.prt ps i∈ps:=aoS<|P.prt a
theorem Pd.lt(P:Pd f ps)(a:i<4):(K52.prt ps i).1<f.length/\(K52.prt ps i).2<f.length:=by rw[P.fl.len];exact P.prs.lt _<|P.mem a
def Pd.ow(P:Pd f ps)(a:i<4):jT f ps i=bsd (f.getD (K52.prt ps i).1 (0,0,0)) 1:=by unfold jT dO;rw[aoe,aoy,P.prt a];rfl
theorem Pd.fac(P:Pd f ps)(a:i<4):Fac (jT f ps i):=by rw[P.ow a];exact tZ (gG P.fl.fac (P.lt a).1) 1
def Pd.own(P:Pd f ps)(a:i<4):oIx (.lst<|(dO f ps).map stW) (.int i)=.ok (stW<|jT f ps i):=vp (.inr rfl) (by simp[dO,P.prs.len,a])
def Pd.pair(P:Pd f ps)(a:i<4):oIx (.lst<|ps.map prW) (.int i)=.ok (prW<|K52.prt ps i):=by rw[fK,gz,aoy,P.prt a];rfl
def Pd.middle(P:Pd f ps)(a:i<4):bJ [flW f,prW<|K52.prt ps i]=.ok (stW<|jT f ps i):=by rw[P.ow a];exact lH f P.fl _ (P.prs.lt _<|P.mem a).1<|P.nx _<|P.mem a
def PF(f:List S3)(ps:List (Nat×Nat)):W:=.ins "PairedFloor" [flW f,.lst<|ps.map prW,.lst<|(dO f ps).map stW]
def ak6:aiS "PairedFloor" 1 (PF f ps)=.ok (.lst<|ps.map prW):=rfl
def ahO:aiS "PairedFloor" 2 (PF f ps)=.ok (.lst<|(dO f ps).map stW):=rfl
def ajF:isN "PairedFloor" (PF f ps)=true:=rfl
def aeG(f)(s):ku [.lst<|f.map stW,spW s]=.ok (onW<|kf s 0 f):=by have h:=nO (.lst<|f.map stW) s f 0 .no .no;rw[yd]at h;exact h
def acJ(f){p}(b:Fac p)(o)(w)(d)(h:∀k,o=some k->k<f.length)(hw:w≠.partner)(a:w≠.opposite):oS [stW p,.lst<|f.map stW,onW o,.str w.w]=.ok (.bl<|ae4 f d p w o):=by cases o with|none=>cases w<;>kernel_rfl|some k=>
 have go:∀(w:String)(q:Int),ew [.int p.2.2,.str w]=.ok (.int q)->(∀A B C,tB _ [A,B,C,.va<|.str w]=.ok false)->oS [stW p,.lst<|f.map stW,.int k,.str w]=.ok (.bl<|decide (aX f k=q)):=λw q t n=>an8 fin<|(v_f rfl).trans<|gT.trans<|(v_f<|n _ _ _).trans<|gT.trans<|iB<|aE (aE (aE rfl rfl<|vp (.inr rfl)<|h k rfl) rfl rfl) (bU rfl t) rfl;cases w;case none=>kernel_rfl
 case any=>kernel_rfl
 case partner=>exact absurd rfl hw
 case opposite=>exact absurd rfl a
 case same=>exact(go _ _ rfl λ_ _ _=>by kernel_rfl).trans (by rw[show(p.2.2+0)%4=p.2.2 from by have:=b.1;have:=b.2;omega];rfl)
 all_goals exact go _ _ rfl λ_ _ _=>by kernel_rfl
def y2(f:List S3)(ps:List (Nat×Nat))(i:Nat)(a r:Int):What->Bool|.partner=>false|.opposite=>false|w=>ae4 (dO f ps) i (jT f ps i) w<|kf (sfp (jT f ps i) a<|2*r) 0<|dO f ps
def Pd.sees(P:Pd f ps)(c:i<4)(a r)(w):bQ [PF f ps,.int i,(Tst.at a r w).W]=.ok (.bl<|y2 f ps i a r w):=by
 have g:=yF (jT f ps i) a (2*r) (P.fac c).1 (P.fac c).2;have h:=acJ (dO f ps) (P.fac c) (kf (sfp (jT f ps i) a<|2*r) 0<|dO f ps) w i λk e=>by have:=f7 (sfp (jT f ps i) a<|2*r) 0 (dO f ps) k e;omega
 have go:∀b,oS _=.ok (.bl b)->tB (eOp oIn (eOp oIx (ah 2)<|eI 3)<|dB<|aa (eS "partner")<|aa (eS "opposite") ao) [.va<|PF f ps,.va<|.int i,.va (Tst.at a r w).W,.no,.no]=.ok false->bQ [PF f ps,.int i,(Tst.at a r w).W]=.ok (.bl b):=λb d j=>an8 fin ((v_f j).trans<|gT.trans<|(aL<|aE (adM rfl ahO) rfl<|P.own c).trans<|(aL<|bU (bV (adM rfl ahO)<|bV (bU (bV rfl<|bV (x:=.int a) rfl<|bV (aE (x:=.int 2) (y:=.int r) rfl rfl<|fU r (by decide)<|by decide) rfl) g) rfl)<|aeG (dO f ps) _).trans<|iB<|bU (bV rfl<|bV (adM rfl ahO) rfl) d);cases w;case partner=>exact an8 fin (v_t<|by kernel_rfl)
 case opposite=>exact an8 fin (v_t<|by kernel_rfl)
 all_goals exact go _ (h (λz=>nomatch z) λz=>nomatch z) (by kernel_rfl)
def ai3:Lone->Prop|.inward|.outward|.sideways=>True|_=>False
def ir(s):gL [spW s]=.ok (.int<|far s):=rfl
def adp{p}(h:Fac p):lX [stW p]=.ok (.str<|if far (sfp p 1 0)=far (ay p)then"sideways"else if far (sfp p 1 0)<far (ay p)then"inward"else"outward"):=by
 have a:=yF p 1 0 h.1 h.2;by_cases b:far (sfp p 1 0)=far (ay p);.simp[lX,nY,dh,ir,a,b]
 .by_cases c:far (sfp p 1 0)<far (ay p)<;>simp[lX,nY,dh,ir,a,b,c]
def xm(f d){p}(a:Fac p)(l)(h:ai3 l):∃D,lX [stW p]=.ok (.str D)/\oEq (.str D) (.str l.w)=.ok (.bl<|gq f d p<|.lone l):=by
 refine⟨_,adp a,?_⟩;cases l<;>try exact h.elim
 all_goals
 simp only[gq];generalize far (sfp p 1 0)=A;generalize far (ay p)=B;rcases Int.lt_trichotomy A B with st|st|st
 .rw[an5 (by omega),an4 st];first|rw[aoC (by omega)]|rw[aoq (by omega)]
  rfl
 .rw[an4 st];first|rw[aoC (by omega)]|rw[aoq (by omega)]
  rfl
 .rw[an5 (by omega),an5<|by omega];first|rw[aoC (by omega)]|rw[aoq (by omega)]
  rfl
def vu(f)(q)(d:Nat)(l)(h:¬ai3 l):oU [flW f,.int d,(Tst.lone l).W]=.ok (.bl<|gq f d q<|.lone l):=by
 have k:∀b:Bool,(b==true)=b/\(b==false)=!b:=by decide
 cases l with|head=>exact(show _=Res.ok (.bl<|decide ((d:Int)/2%2=0)==true)from by kernel_rfl).trans (by rw[(k _).1];rfl)|side=>exact(show _=Res.ok (.bl<|decide ((d:Int)/2%2=0)==false)from by kernel_rfl).trans (by rw[(k _).2];rfl)|lefts=>exact(show _=Res.ok (.bl<|decide ((d:Int)%2=0)==true)from by kernel_rfl).trans (by rw[(k _).1];rfl)|rights=>exact(show _=Res.ok (.bl<|decide ((d:Int)%2=0)==false)from by kernel_rfl).trans (by rw[(k _).2];rfl)|_=>exact(h trivial).elim
def aiL(f){d:Nat}(h:d<f.length)(n):oU [flW f,.int d,(Tst.inner n).W]=.ok (.bl<|gq f d (f.getD d (0,0,0))<|.inner n):=an8 fin ((aL rfl).trans<|(v_f<|by kernel_rfl).trans<|gT.trans<|(v_f<|by kernel_rfl).trans<|gT.trans<|(v_t<|by kernel_rfl).trans<|uw<|aE (bU (bV (bU (bV (aE rfl rfl<|oR h) rfl)<|dh _) rfl)<|ir _) (aE rfl rfl rfl) rfl)
def ai8(f:List S3)(p:Nat×Nat)(t:Tst):Bool:=gq f p.1 (f.getD p.1 (0,0,0)) t&&gq f p.2 (f.getD p.2 (0,0,0)) t
def gg(f:List S3)(ps:List (Nat×Nat))(i:Nat):Tst->Bool|.at a r w=>y2 f ps i a r w|.lone .inward=>gq f 0 (jT f ps i)<|.lone .inward|.lone .outward=>gq f 0 (jT f ps i)<|.lone .outward|.lone .sideways=>gq f 0 (jT f ps i)<|.lone .sideways|t=>ai8 f (prt ps i) t
def amz{Q:Tst->Bool->Prop}(e:∀a r w,Q (.at a r w)<|y2 f ps i a r w)(c:∀l,ai3 l->oEq (.str l.w) (.str "not")=.ok (.bl false)->oEq (.str l.w) (.str "at")=.ok (.bl false)->oIn (.str l.w) i0=.ok (.bl true)->Q (.lone l) (gq f 0 (jT f ps i)<|.lone l))(b:∀t w m,oIx t.W (.int 0)=.ok w->oIx t.W (.int<|-1)=.ok m->oEq w (.str "not")=.ok (.bl false)->oEq w (.str "at")=.ok (.bl false)->oIn w i0=.ok (.bl false)->(∀d,d<f.length->oU [flW f,.int d,t.W]=.ok (.bl<|gq f d (f.getD d (0,0,0)) t)/\ez [stW<|f.getD d (0,0,0),.int d,w,m]=.ok (.bl<|gq f d (f.getD d (0,0,0)) t))->Q t (ai8 f (prt ps i) t))(t):Q t (gg f ps i t):=by
 have lone:∀(q:S3)(d:Nat)(l:Lone),¬ai3 l->ez [stW q,.int d,.str l.w,.str l.w]=.ok (.bl<|gq f d q<|.lone l):=λq d l h=>by cases l with|head|lefts=>kernel_rfl|side=>exact(show _=Res.ok (.bl<|decide ((d:Int)/2%2=1))from by kernel_rfl).trans (by congr 2;show _=!decide _;rw[aoz];simp;omega)|rights=>exact(show _=Res.ok (.bl<|decide ((d:Int)%2=1))from by kernel_rfl).trans (by congr 2;show _=!decide _;rw[aoz];simp;omega)|_=>exact(h trivial).elim
 cases t with|«at» a r w=>exact e a r w|inner m=>exact b _ _ (.int m) rfl rfl (by kernel_rfl) (by kernel_rfl) (by kernel_rfl) λd g=>⟨aiL f g m,by kernel_rfl⟩|lone l=>
  cases l;case head=>exact b _ _ _ rfl rfl (by kernel_rfl) (by kernel_rfl) (by kernel_rfl) λd _=>⟨vu f _ d .head id,lone _ d .head id⟩
  case side=>exact b _ _ _ rfl rfl (by kernel_rfl) (by kernel_rfl) (by kernel_rfl) λd _=>⟨vu f _ d .side id,lone _ d .side id⟩
  case lefts=>exact b _ _ _ rfl rfl (by kernel_rfl) (by kernel_rfl) (by kernel_rfl) λd _=>⟨vu f _ d .lefts id,lone _ d .lefts id⟩
  case rights=>exact b _ _ _ rfl rfl (by kernel_rfl) (by kernel_rfl) (by kernel_rfl) λd _=>⟨vu f _ d .rights id,lone _ d .rights id⟩
  case inward=>exact c .inward trivial (by kernel_rfl) (by kernel_rfl) (by kernel_rfl)
  case outward=>exact c .outward trivial (by kernel_rfl) (by kernel_rfl) (by kernel_rfl)
  case sideways=>exact c .sideways trivial (by kernel_rfl) (by kernel_rfl) (by kernel_rfl)
def Pd.aiM(P:Pd f ps)(c:i<4)(n)(t):aC (n+1) [PF f ps,.int i,t.W]=.ok (.bl<|gg f ps i t):=by
 refine an8 fin (a₂:=.rt _) ?_;refine amz (Q:=λt b=>bF (aC n) [.va<|PF f ps,.va<|.int i,.va t.W]=.rt (.bl b)) (λa r w=>(v_f<|by kernel_rfl).trans<|gT.trans<|(v_t<|by kernel_rfl).trans<|uw<|ajt rfl ajF rfl<|P.sees c a r w) (λl o g h d=>?_) (λt w m e _ g h d j=>?_) t;.obtain⟨D,k,p⟩:=xm f 0 (P.fac c) l o;exact(v_f<|fB<|aE rfl rfl g).trans (gT.trans<|(v_f<|fB<|aE rfl rfl h).trans<|gT.trans<|(v_t<|fB<|aE rfl rfl d).trans<|uw<|aE (bU (bV (aE (adM rfl ahO) rfl<|P.own c) rfl) k) rfl p)
 .have q:∀a b:Bool,abr [.lst [.bl a,.bl b]]=.ok (.bl<|a&&b):=by intro a b;cases a<;>cases b<;>rfl
  exact(v_f<|fB<|aE (aE rfl rfl e) rfl g).trans (gT.trans<|(v_f<|fB<|aE (aE rfl rfl e) rfl h).trans<|gT.trans<|(v_f<|fB<|aE (aE rfl rfl e) rfl d).trans<|gT.trans<|iB<|uC (bV (nV (xs:=[.int (K52.prt ps i).1,.int (K52.prt ps i).2]) (aju (aE (adM rfl ak6) rfl<|P.pair c) rfl) (apE rfl)<|ag0 (bU rfl (j _ (P.lt c).1).1)<|ag0 (bU rfl (j _ (P.lt c).2).1) rfl) rfl)<|q _ _)
def Pd.holds(P:Pd f ps)(a:i<4)(g)(t):aC 3 [PF f ps,.int i,tsW g t]=.ok (.bl<|aee g<|gg f ps i t):=by cases g with|false=>exact P.aiM a 2 t|true=>exact an8 fin<|(v_t<|rfl).trans<|uw<|v_not<|ajt rfl ajF rfl<|P.aiM a 1 t
theorem yu(s):∀a k,cK a->(a.filter λm=>decide (ay m=s)).map (λm=>W.int m.2.2)=match kf s k a with|none=>[]|some j=>[.int<|aX a<|j-k]
|[],k,_=>rfl|m::a,k,h=>by
 have b:=apX.mp h;by_cases e:ay m=s
 .have c:a.filter (λm=>decide (ay m=s))=[]:=apZ.mpr λr d=>by grind
  simp[kf,e,c,aX]
 .simp only[kf,an5 e,apz,aoq e,aoU,apy];rw[yu s a (k+1) b.2];cases w:kf s (k+1) a with|none=>rfl|some j=>have:=(f7 s (k+1) a j w).1;simp only[aX];rw[show j-k=j-(k+1)+1 by omega];rfl
def Pd.asked(P:Pd f ps)(l:i<4)(a r)(w):fW [stW<|jT f ps i,.lst<|(dO f ps).map stW,(Tst.at a r w).W]=.ok (.bl<|y2 f ps i a r w):=by
 have c:∀m∈dO f ps,Fac m:=λm o=>by obtain⟨p,s,rfl⟩:=aox.mp o;exact tZ (gG P.fl.fac<|by rw[P.fl.len];exact(P.prs.lt p s).1) 1
 have h:=P.fac l;have n:=cG _ h a<|2*r;have ht:=yu (sfp (jT f ps i) a<|2*r) (dO f ps) 0 P.mid;have k:((dO f ps).map stW).length<=1000000:=by simp[dO,P.prs.len]
 unfold y2;generalize jT f ps i=own at *;generalize dO f ps=ms at *;have g:ba (aq 0) (tB<|eOp oEq (eSl (ah 0) pNo<|en<|eI 2)<|ah 4) (eOp oIx (ah 0)<|eI 2) [.no,.va<|stW own,.va<|.lst<|ms.map stW,.va (Tst.at a r w).W,.va<|spW<|sfp own a<|2*r,.no] (ms.map stW)=.ok ((ms.filter λm=>decide (ay m=sfp own a (2*r))).map λm=>W.int m.2.2):=eQ λm _=>⟨_,rfl,fB<|aE (abO rfl) rfl<|vb _ _,λ_=>rfl⟩;rw[ht]at g;refine an8 fin (a₁:=dG [.va<|stW own,.va<|.lst<|ms.map stW,.va (Tst.at a r w).W,.no,.no]) (a₂:=.rt _) ?_;refine(aL<|bU (bV rfl<|bV (x:=.int a) rfl<|bV (aE (x:=.int 2) (y:=.int r) rfl rfl<|fU r (by decide)<|by decide) rfl) n).trans ((aL<|nV rfl k g).trans ?_);cases e:kf (sfp own a<|2*r) 0 ms with|none=>clear g ht;generalize ms.map stW=MS;cases w<;>kernel_rfl|some j=>
  have c:=gG c (d:=j) (by have:=(f7 _ 0 ms j e).2;omega);have A:0<=aX ms j:=c.1;have t:aX ms j<4:=c.2;have u:=h.1;have v:=h.2;have b:∀q:Int,0<=q->q<4->∀z,z=(own.2.2+q)%4->decide ((aX ms j-own.2.2)%4=q)=decide (aX ms j=z):=λq _ _ z B=>by rw[aoz];simp;omega
  clear g ht;generalize ms.map stW=MS;cases w with|same=>exact(show _=Out.rt (.bl<|decide ((aX ms j-own.2.2)%4=0))from by kernel_rfl).trans (by rw[b 0 (by decide) (by decide) own.2.2 (by omega)];rfl)|left=>exact(show _=Out.rt (.bl<|decide ((aX ms j-own.2.2)%4=1))from by kernel_rfl).trans (by rw[b 1 (by decide) (by decide) _ rfl];rfl)|about=>exact(show _=Out.rt (.bl<|decide ((aX ms j-own.2.2)%4=2))from by kernel_rfl).trans (by rw[b 2 (by decide) (by decide) _ rfl];rfl)|right=>exact(show _=Out.rt (.bl<|decide ((aX ms j-own.2.2)%4=3))from by kernel_rfl).trans (by rw[b 3 (by decide) (by decide) _ rfl];rfl)|_=>kernel_rfl
def ado(f)(d){q}(h:Fac q)(l)(a:ai3 l):∃k,oIx (.dic [.str "inward",.str "outward",.str "sideways"] [.int<|-1,.int 1,.int 0]) (.str l.w)=.ok (.int k)/\decide (far (sfp q 1 0)-far (ay q)=k)=gq f d q (.lone l):=by have:=adg q h.1 h.2;cases l with|inward=>exact⟨-1,by kernel_rfl,by rw[aoz];simp[gq];omega⟩|outward=>exact⟨1,by kernel_rfl,by rw[aoz];simp[gq];omega⟩|sideways=>exact⟨0,by kernel_rfl,by rw[aoz];simp[gq];omega⟩|_=>exact a.elim
def Pd.aej(P:Pd f ps)(c:i<4)(n)(t):aP (n+1) [flW f,prW<|K52.prt ps i,.lst<|(dO f ps).map stW,t.W]=.ok (.bl<|gg f ps i t):=by
 have h:=P.middle c;refine an8 fin (a₁:=cz (aP n) [.va<|flW f,.va<|prW<|K52.prt ps i,.va<|.lst<|(dO f ps).map stW,.va t.W,.no,.no,.no,.no,.no,.no]) (a₂:=.rt _) ?_;refine amz (Q:=λt b=>cz (aP n) [.va<|flW f,.va<|prW<|K52.prt ps i,.va<|.lst<|(dO f ps).map stW,.va t.W,.no,.no,.no,.no,.no,.no]=.rt (.bl b)) (λa r w=>(v_f<|by kernel_rfl).trans<|gT.trans<|(aL<|bU rfl h).trans<|(v_t<|by kernel_rfl).trans<|uw<|bU rfl<|P.asked c a r w) (λl q g j e=>?_) (λt w m d em g j e o=>?_) t;.obtain⟨k,u,p⟩:=ado f 0 (P.fac c) l q;rw[<-p];exact(v_f<|fB<|aE rfl rfl g).trans (gT.trans<|(aL<|bU rfl h).trans<|(v_f<|fB<|aE rfl rfl j).trans<|gT.trans<|(v_t<|fB<|aE rfl rfl e).trans<|ja.trans<|(wb (bU rfl<|cG _ (P.fac c) 1 0) rfl).trans<|ja.trans<|(aL (v:=.int<|far (sfp (jT f ps i) 1 0)-far (ay<|jT f ps i)) rfl).trans<|uw<|aE rfl (aE (x:=.dic [.str "inward",.str "outward",.str "sideways"] [.int<|-1,.int 1,.int 0]) (by kernel_rfl) rfl u) rfl)
 .have s:∀a b:Bool,oEq (.lst [.bl a,.bl b]) (.lst [.bl true,.bl true])=.ok (.bl<|a&&b):=by intro a b;cases a<;>cases b<;>rfl
  exact(v_f<|fB<|aE (aE rfl rfl d) rfl g).trans (gT.trans<|(aL<|bU rfl h).trans<|(v_f<|fB<|aE (aE rfl rfl d) rfl j).trans<|gT.trans<|(v_f<|fB<|aE (aE rfl rfl d) rfl e).trans<|gT.trans<|(aL<|aE rfl rfl em).trans<|(aL<|nV (xs:=[.int (K52.prt ps i).1,.int (K52.prt ps i).2]) rfl (apE rfl)<|ag0 (bU (bV (aE rfl rfl<|oR (P.lt c).1)<|bV rfl<|bV (aE rfl rfl d) rfl) (o _ (P.lt c).1).2)<|ag0 (bU (bV (aE rfl rfl<|oR (P.lt c).2)<|bV rfl<|bV (aE rfl rfl d) rfl) (o _ (P.lt c).2).2) rfl).trans<|iB<|aE rfl rfl<|s _ _)
def Pd.aiq(P:Pd f ps)(a:i<4)(g)(t):aP 3 [flW f,prW<|K52.prt ps i,.lst<|(dO f ps).map stW,tsW g t]=.ok (.bl<|aee g<|gg f ps i t):=by cases g with|false=>exact P.aej a 2 t|true=>exact an8 fin<|(v_t<|rfl).trans<|uw<|v_not<|bU rfl<|P.aej a 1 t
def prB(f:List S3)(ps:List (Nat×Nat))(i:Nat)(r:Rl):Bool:=r.ts.all λp=>aee p.1<|gg f ps i p.2
def ki(f:List S3)(ps:List (Nat×Nat))(c:List Rl)(i:Nat):Option (Option<|List Stp):=(c.find?<|prB f ps i).map (·.ss)
def Pd.steps(P:Pd f ps)(d:i<4)(l:Gc c):bI [PF f ps,.int i,clW c]=stR ssW (exN "Blind" (K52.prt ps i).1) (ki f ps c i):=by have L:=jt (emb:=Rl.W) (g:=aq 3) (b:=aW) rfl (prB f ps i) (λr=>.rt<|ssW r.ss) (λ_ _=>rfl) (λo=>[.va<|PF f ps,.va<|.int i,.va<|clW c,o]) (λr=>.va r.W) c (λr j=>⟨λ_=>rfl,by have a:=vR (r.ts.map λp=>aee p.1<|gg f ps i p.2);simp only[aoR,List.all_map]at a;exact fB (uC (bV (akp (xs:=r.ts.map λp=>tsW p.1 p.2) rfl (by have:=l.nt r j;simp[lim];omega)<|bA λp _=>⟨_,rfl,rfl,ajt rfl ajF rfl<|P.holds d p.1 p.2⟩) rfl)<|(abg _).trans<|an8 oB a),rfl⟩) .no;refine(show _=fin (gW (forL (aq 3) aW (c.map Rl.W) [.va<|PF f ps,.va<|.int i,.va<|clW c,.no]) _)from rfl).trans ?_;unfold ki;cases h:c.find? (prB f ps i)with|some r=>rw[h]at L;exact an8 (λo=>fin<|gW o _) L|none=>rw[h]at L;obtain⟨o,L⟩:=L;have k:=iH (n:=(K52.prt ps i).1) (by have:=(P.lt d).1;have:=P.fl.len;omega);have x:=aE (r:=oIx) (aE (r:=oIx) (adM (c:="PairedFloor") (n:=1) (e:=ah 0) (σ:=[.va<|PF f ps,.va<|.int i,.va<|clW c,o]) rfl ak6) (b:=ah 1) rfl<|P.pair d) (b:=eC<|.int 0) rfl (z:=.int (K52.prt ps i).1) rfl;have m:(WL.fieldsOf "Blind").length=1:=rfl;generalize PF f ps=P at *;generalize clW c=C at *;rw[L,yH,jg,bV x rfl];simp[k,m,exN]
def Pd.rule(P:Pd f ps)(m:i<4)(n:Gc c):gv [flW f,prW<|K52.prt ps i,.lst<|(dO f ps).map stW,clW c]=.ok (stN ssW<|ki f ps c i):=by have L:=jt (emb:=Rl.W) (g:=kq<|bu (aq 4)<|bu (aq 5) kr) (b:=cj) rfl (prB f ps i) (λr=>.rt<|ssW r.ss) (λ_ _=>rfl) (λo:Sl×Sl=>[.va<|flW f,.va<|prW<|K52.prt ps i,.va<|.lst<|(dO f ps).map stW,.va<|clW c,o.1,o.2]) (λr=>(.va<|tsL r.ts,.va<|ssW r.ss)) c (λr k=>⟨λ_=>rfl,by
  have e:oEq (.lst<|(r.ts.filter λp=>!aee p.1 (gg f ps i p.2)).map λp=>tsW p.1 p.2) (.lst [])=.ok (.bl<|prB f ps i r):=by
   have d:gP 50 ((r.ts.filter λp=>!aee p.1 (gg f ps i p.2)).map λp=>tsW p.1 p.2)=true:=ou 49 _ _ λp _=>aia 47 p.1 p.2;have j:xW ((r.ts.filter λp=>!aee p.1 (gg f ps i p.2)).map λp=>tsW p.1 p.2) []=prB f ps i r:=by unfold prB;cases e:r.ts.filter λp=>!aee p.1 (gg f ps i p.2)with|nil=>exact(aoD.mpr λp q=>by simpa using apZ.mp e p q).symm|cons p l=>have:=aoX.mp<|e▸aol (a:=p) (l:=l);exact(List.all_eq_false.mpr ⟨p,this.1,by simpa using this.2⟩).symm
   unfold oEq;rw[an5 (show¬yM (.lst _) (.lst _)=true from aov)];simp only[afA,d,af5,j];simp
  exact fB (aE (nV (xs:=r.ts.map λp=>tsW p.1 p.2) rfl (by have:=n.nt r k;simp;omega)<|eQ λp _=>⟨_,rfl,ams<|fB<|bU rfl<|P.aiq m p.1 p.2,λ_=>rfl⟩) rfl e),rfl⟩) (.no,.no);refine(show _=fin (gW (forL (kq<|bu (aq 4)<|bu (aq 5) kr) cj (c.map Rl.W) [.va<|flW f,.va<|prW<|K52.prt ps i,.va<|.lst<|(dO f ps).map stW,.va<|clW c,.no,.no]) _)from rfl).trans ?_;unfold ki;cases h:c.find? (prB f ps i)with|some r=>rw[h]at L;exact an8 (λo=>fin<|gW o _) L|none=>rw[h]at L;obtain⟨o,L⟩:=L;exact an8 (λo=>fin<|gW o _) L
def ajO{p}(h:Fac p){w:String}{n a b}(c:∀A B C D E,tB (eOp oEq (ah 2)<|eS "turn") [A,B,.va<|.str w,C,D,E]=.ok false)(f:∀A B C D E,eOp kj (eBi mI<|aa (eOp oEq (ah 2)<|eS "ahead") ao) (eBi mI<|aa (eOp oEq (ah 2)<|eS "back") ao) [A,B,.va<|.str w,C,D,E]=.ok (.int a))(d:∀A B C D E,eOp kj (eBi mI<|aa (eOp oEq (ah 2)<|eS "right") ao) (eBi mI<|aa (eOp oEq (ah 2)<|eS "left") ao) [A,B,.va<|.str w,C,D,E]=.ok (.int b))(g:-2<a/\a<2)(j:-2<b/\b<2):cY [stW p,.tup [.str w,.int n]]=.ok (.tup [.int (sfp p (n*a)<|2*n*b).1,.int (sfp p (n*a)<|2*n*b).2,.int p.2.2]):=by have e:=cG p h (n*a)<|2*n*b;refine an8 fin (a₂:=.rt _) ?_;refine(aL (v:=.str w) rfl).trans ((v_f<|c _ _ _ _ _).trans<|gT.trans<|(aL (v:=.int n) rfl).trans<|(aL<|aE (x:=.int n) rfl (f _ _ _ _ _)<|m7 n ?_ ?_).trans<|(aL<|aE (aE (x:=.int 2) (y:=.int n) rfl rfl<|fU n ?_ ?_) (d _ _ _ _ _)<|m7 _ ?_ ?_).trans<|iB<|aE (bU rfl e) rfl rfl)<;>omega
def anO{p}{w:String}{q}(h:gh (.lst [.str "",.str "left",.str "about",.str "right"]) [.str w]=.ok (.int q)):cY [stW p,.tup [.str "turn",.str w]]=.ok (stW (p.1,p.2.1,(p.2.2+q)%4)):=by refine an8 fin (a₂:=.rt _) ?_;exact(aL rfl).trans ((v_t<|by kernel_rfl).trans<|uw<|aE rfl (agY<|aE (aE (x:=.int p.2.2) rfl h rfl) rfl rfl) rfl)
def ix4:gh (.lst [.str "",.str "left",.str "about",.str "right"]) [.str "left"]=.ok (.int 1)/\gh (.lst [.str "",.str "left",.str "about",.str "right"]) [.str "about"]=.ok (.int 2)/\gh (.lst [.str "",.str "left",.str "about",.str "right"]) [.str "right"]=.ok (.int 3):=⟨by kernel_rfl,by kernel_rfl,by kernel_rfl⟩
def zF(p)(h:Fac p)(s):cY [stW p,s.W]=.ok (stW<|xU p<|wid s):=by obtain⟨d,e,c⟩:=ix4;cases s with|go g n=>
 cases g;.exact(ajO h (a:=1) (b:=0) λ_ _ _ _ _=>by kernel_rfl λ_ _ _ _ _=>by kernel_rfl λ_ _ _ _ _=>by kernel_rfl (by decide) (by decide)).trans (by simp only[aqN,arq];rfl)
 .exact(ajO h (a:=-1) (b:=0) λ_ _ _ _ _=>by kernel_rfl λ_ _ _ _ _=>by kernel_rfl λ_ _ _ _ _=>by kernel_rfl (by decide) (by decide)).trans (by simp only[Int.mul_neg,aqN,arq];rfl)
 .exact(ajO h (a:=0) (b:=-1) λ_ _ _ _ _=>by kernel_rfl λ_ _ _ _ _=>by kernel_rfl λ_ _ _ _ _=>by kernel_rfl (by decide) (by decide)).trans (by simp only[Int.mul_neg,aqN,arq];rfl)
 .exact(ajO h (a:=0) (b:=1) λ_ _ _ _ _=>by kernel_rfl λ_ _ _ _ _=>by kernel_rfl λ_ _ _ _ _=>by kernel_rfl (by decide) (by decide)).trans (by simp only[aqN,arq];rfl)|turn t=>cases t<;>exact anO (by assumption)
def two(w:List S3):W:=.lst [.lst (w.map λq=>stW<|bsd q<|-1),.lst<|w.map λq=>stW<|bsd q 1]
theorem zH(P S O):∀(l:List Stp)p a o,Fac p->a.length+l.length<999999->∃b,forL (aq 4) bc (l.map Stp.W) [P,S,O,.ow<|(a++[p]).map stW,o,.no,.no]=.nx [P,S,O,.ow<|(a++j4 p (l.map wid)).map stW,b,.no,.no]
|[],p,a,o,_,_=>⟨o,rfl⟩|s::l,p,a,o,h,hl=>by
 obtain⟨b,d⟩:=zH P S O l (xU p<|wid s) (a++[p]) (.va s.W) (kU p _ h) (by simp at hl⊢;omega);refine⟨b,bw rfl (σ2:=[P,S,O,.ow<|(a++[p]++[xU p<|wid s]).map stW,.va s.W,.no,.no]) ?_<|by rw[d];simp[j4]⟩;have c:tB (eOp oNe (ah 4)<|dB<|aa (eS "stay") ao) [P,S,O,.ow<|(a++[p]).map stW,.va s.W,.no,.no]=.ok true:=by generalize(a++[p]).map stW=L;cases s with|go g n=>cases g<;>kernel_rfl|turn t=>cases t<;>kernel_rfl
 rw[apg (l₁:=a++[p])];exact(v_i c).trans (akq rfl (by simp at hl⊢;omega) (bU (bV (aE rfl rfl<|vO p a) rfl)<|zF p h s)<|u2 _)
theorem aei(a x y)(P S F G):∀(w:List S3)b c j g,(∀q∈w,Fac q)->b.length+w.length<999999->c.length+w.length<999999->∃d f,nL 5 bb (w.map stW) [P,S,.va<|.id a,F,G,j,g] ⟨a,x,y,b,c⟩=.nx [P,S,.va<|.id a,F,G,d,f] ⟨a,x,y,b++w.map λq=>stW<|bsd q<|-1,c++w.map λq=>stW<|bsd q 1⟩
|[],b,c,j,g,_,_,_=>⟨j,g,by simp[nL]⟩|q::w,b,c,j,g,h,h1,h2=>by
 have m:b.length<1000000/\b.length<999999:=by simp at h1;omega
 have n:c.length<1000000:=by simp at h2;omega
 obtain⟨d,f,p⟩:=aei a x y P S F G w (b++[stW<|bsd q<|-1]) (c++[stW<|bsd q 1]) (.va<|stW q) (.va<|.lst [stW<|bsd q<|-1,stW<|bsd q 1]) (λr o=>h r<|by simp[o]) (by simp at h1⊢;omega) (by simp at h2⊢;omega);refine⟨d,f,?_⟩;have k:bb [P,S,.va<|.id a,F,G,.va<|stW q,g] ⟨a,x,y,b,c⟩=.nx [P,S,.va<|.id a,F,G,.va<|stW q,.va<|.lst [stW<|bsd q<|-1,stW<|bsd q 1]] ⟨a,x,y,b++[stW<|bsd q<|-1],c++[stW<|bsd q 1]⟩:=by have e:ax ee (aa (eOp oIx (ah 5)<|eI 0)<|aa (eOp oIx (ah 5)<|eI 1)<|aa (eOp oIx (ah 5)<|eI 2) ao) [P,S,.va<|.id a,F,G,.va<|stW q,g]=.ok (.lst [stW<|bsd q<|-1,stW<|bsd q 1]):=bU rfl (lM q.1 q.2.1 q.2.2<|h q<|by simp);generalize stW (bsd q<|-1)=B1 at *;generalize stW (bsd q 1)=B2 at *;generalize stW q=Q at *;have l:=(ae9 6 _ _).trans (an8 (ofR _ . _) e);simp only[bb,xS,mm,l,lC];simp[x6,seen,Tw.put,m,n]
 simp only[aor,nL,List.set_cons_succ,List.set_cons_zero,k];rw[p];simp
def ae8{t σ j o}(h:vT t σ j o):ahn j t σ=.rt o:=by unfold ahn;have c:∃o,vT t σ j o:=⟨o,h⟩;rw[dif_pos c];have b:=Classical.choose_spec c 0 0 0;have a:=h 0 0 0;cases e:t _ _ with|rt w s=>rw[e]at b a;exact an8 _<|(b).trans (a).symm|_=>rw[e]at a;exact a.elim
def acI(p)(h:Fac p)(s)(hs:∀l,s=some l->l.length<=100)(P S O):∃a,forL (aq 4) bc (ssL s) [P,S,O,.ow [stW p],.no,.no,.no]=.nx [P,S,O,.ow<|(hY p<|uk s).map stW,a,.no,.no]:=by
 cases s with|none=>
 refine⟨.va<|.tup [.str "stay"],?_⟩;have e:oNe (.tup [.str "stay"]) (.tup [.str "stay"])=.ok (.bl false):=by kernel_rfl
 simp[ssL,cW,bc,e,hY,uk]|some l=>exact zH P S O l p [] .no h (by grind)
def ll(p)(s)(hs:∀l,s=some l->l.length<=100):(hY p<|uk s).length<=101:=by cases s with|none=>simp[hY,uk]|some l=>have:=hs l rfl;simp[hY,uk,qa];omega
def zG(p)(h:Fac p)(s)(hs:∀l,s=some l->l.length<=100):dJ [stW p,ssW s]=.ok (two<|hY p<|uk s):=by
 have d:=lq (uk s) p h;have j:=ll p s hs;have b:vT (xS (mm<|jf 3<|acW<|aa (ah 0) ao)<|xS (mm<|jh (iw<|ah 1) (aq 4) bc)<|xS (ajp 3<|x5 (iw<|ah 3) 5 bb)<|x4 2) [.va<|stW p,.va<|ssW s,.no,.no,.no,.no,.no] 2 (two<|hY p<|uk s):=by intro a x y;obtain⟨f,g⟩:=acI p h s hs (.va<|stW p) (.va<|ssW s)<|.va<|.id a;obtain⟨m,k,e⟩:=aei a x y (.va<|stW p) (.va<|ssW s) (.va<|.lst<|(hY p<|uk s).map stW) f (hY p<|uk s) [] [] .no .no d (by simp;omega) (by simp;omega);have c:=ahj s;generalize ssW s=SS at *;subst c;simp[xS,mm,g,ajp,frz,x5,e,x4,seen,Tw.val,two]
 have:=ae8 b;simp only[dJ,dF,WL.run,aor,List.map_nil,aon,aqd,List.replicate,List.cons_append,List.nil_append];rw[this]
theorem ze:∀(xs ys:List Nat),xs.Nodup->(∀x∈xs,x∈ys)->ys.length=xs.length->ys.Perm xs|[],ys,_,_,h=>by grind|x::xs,ys,a,hs,h=>by have b:=hs x aol;have a:=aoN.mp a;refine(List.perm_cons_erase b).trans (List.Perm.cons x<|ze xs _ a.2 (λz c=>(List.mem_erase_of_ne λ(e:z=x)=>a.1<|e▸c).mpr<|hs z<|aog _ c) ?_);rw[arj b,h];rfl
noncomputable def rE(ps:List (Nat×Nat)):List Nat:=ps.flatMap λp=>[p.1,p.2]
def lj{ps}(G:Prs ps):(rE ps).Perm (List.range 8):=by
 refine ze _ _ apf (λd b=>?_) ?_;.obtain⟨p,a,e⟩:=G.all d<|aoc.mp b;exact arp.mpr ⟨p,a,by grind⟩
 .show(ps.flatMap _).length=8;rw[oQ,G.len]
noncomputable def ae2{a:Type}:List Nat->List a->List a->List a|k::ks,v::vs,t=>ae2 ks vs<|t.set k v|_,_,t=>t
theorem uP{b}:∀a(vs t:List b),(ae2 a vs t).length=t.length|[],_,_=>rfl|_::_,[],_=>rfl|k::a,v::vs,t=>by simp[ae2,uP _]
theorem yG{c}:∀a(vs t:List c),a.Nodup->a.length=vs.length->∀d,d<t.length->(ae2 a vs t)[d]?=if d∈a then vs[a.idxOf d]? else t[d]?
|[],vs,t,_,_,d,_=>by simp[ae2]|k::a,[],t,_,h,d,_=>by cases h|k::a,v::vs,t,b,h,d,hd=>by
 have b:=aoN.mp b;show(ae2 a vs<|t.set k v)[d]?=_;rw[yG a vs (t.set k v) b.2 (by simpa using h) d (by simpa using hd)];by_cases e:k=d;.subst e;rw[an5 b.1,an4 aol,aqF];simp[hd]
 .rw[an3 e,arx,show(k==d)=false by simpa using e];simp[aom e]
def wyM(f:List S3)(ps:List (Nat×Nat))(c:List Rl)(i:Nat):List S3:=hY (jT f ps i)<|uk<|(ki f ps c i).getD none
def wsL(f:List S3)(ps:List (Nat×Nat))(c:List Rl)(n:Nat):List (List S3):=(List.range n).flatMap λi=>[(wyM f ps c i).map (bsd .<|-1),(wyM f ps c i).map (bsd . 1)]
def tlW(f:List S3)(ps:List (Nat×Nat))(c:List Rl):List (List S3):=ae2 (rE ps) (wsL f ps c 4)<|List.replicate 8 []
def iD:(tlW f ps c).length=8:=uP _ _ _
def four{ps:List (Nat×Nat)}(h:ps.length=4):∃a b c d,ps=[a,b,c,d]:=by match ps,h with|[a,b,c,d],_=>exact⟨a,b,c,d,rfl⟩
def Pd.ag8(P:Pd f ps){d}(a:d<8):(tlW f ps c)[d]?=(wsL f ps c 4)[(rE ps).idxOf d]?:=by have G:=lj P.prs;have h:=yG _ (wsL f ps c 4) (List.replicate 8 []) (G.nodup_iff.mpr apf) G.length_eq d (by grind);rwa[an4 (G.mem_iff.mpr<|aoc.mpr a)]at h
def Pd.ag7(P:Pd f ps){d}(g:d<8):∃i n,i<4/\(n=1\/n=-1)/\(tlW f ps c).getD d []=(wyM f ps c i).map (bsd . n):=by
 have a:d<(tlW f ps c).length:=by rw[iD];exact g
 have e:=P.ag8 (c:=c) g;rw[aod a]at e;obtain⟨i,b,h⟩:=arp.mp<|aoS e.symm;rw[aoe,aod a];simp  at h;rcases h with h|h;.exact⟨i,-1,aoc.mp b,.inr rfl,h⟩
 .exact⟨i,1,aoc.mp b,.inl rfl,h⟩
def ql(a:Gc c):∀l,(ki f ps c i).getD none=some l->l.length<=100:=λl h=>by unfold ki at h;cases e:c.find? _ with|none=>rw[e]at h;cases h|some r=>rw[e]at h;exact a.ns r (aq8 e) l h
def aeE{s}(h:∀l,s=some l->l.length<=100):∀l,uk s=some l->l.length<=100:=λl e=>by cases s with|none=>cases e|some m=>cases e;rw[aos];exact h m rfl
def vt{p q}(h:ay p=ay q):inB p=inB q:=by simp [ay]at h;simp[inB,h.1,h.2]
def abc(p)(n):ay (bsd (bsd p 1) n)=sfp p 0 (1+n):=by simp only[bsd,sfp,ay];split<;>(try split)<;>(try split)<;>simp<;>omega
def akG(p):sfp p 0 0=ay p:=by simp only[sfp,ay];split<;>simp
def Pd.way(P:Pd f ps)(s:Gc c)(m:∀p∈f,inB p=true){d}(b:d<8):∃p t,(tlW f ps c).getD d []=p::t/\inB p=true/\t.length<=100/\∀q∈p::t,Fac q:=by
 obtain⟨i,n,a,l,e⟩:=P.ag7 (c:=c) b;obtain⟨t,k⟩:=wL _<|jT f ps i;have g:wyM f ps c i=jT f ps i::t:=k;have h:=ll (jT f ps i) _<|ql (f:=f) (ps:=ps) (i:=i) s;rw[k]at h;rw[e,g,aor];have mem:∀d,d<f.length->inB (f.getD d (0,0,0))=true:=λd b=>m _ (by rw[aoe,aod b];exact apO b);have nx:=(fH<|P.nx _<|P.mem a).2.1;refine⟨_,_,rfl,?_,by simp at h⊢;omega,λq j=>?_⟩
 .rw[P.ow a];rcases l with rfl|rfl;.rw[vt ((abc _ 1).trans nx.symm)];exact mem _ (P.lt a).2
  .rw[vt ((abc _<|-1).trans<|akG _)];exact mem _ (P.lt a).1
 .rw[<-aor (f:=(bsd . n)),<-g]at j;obtain⟨r,o,rfl⟩:=aox.mp j;exact tZ (lq _ _ (P.fac a) r o) n
def vN{w:List S3}(hw:∀p∈w,Fac p)(n){e}(a:∀b,e b=.ok (.int n))(A):ba (aq 0) fF (ax iX<|aa (ah 0)<|aa e ao) (.no::A) (w.map stW)=.ok ((w.map (bsd . n)).map stW):=by rw[aoR];exact bA λp c=>⟨_,rfl,rfl,bU (bV rfl<|bV (a _) rfl)<|rA p (hw p c) n⟩
def put2(f:List S3)(ps:List (Nat×Nat))(c:List Rl)(t:List (List S3))(i:Nat):List (List S3):=(t.set (prt ps i).1 ((wyM f ps c i).map (bsd .<|-1))).set (prt ps i).2 ((wyM f ps c i).map (bsd . 1))
def Pd.body(P:Pd f ps)(b:i<4)(d:Gc c)(FL C){g}(a:oIx g (.int i)=.ok (ssW<|(ki f ps c i).getD none)){t}(ht:t.length=8)(n):∃o,bO [.va FL,.va C,.va<|PF f ps,.va g,.ow<|t.map fX,.va<|.int i,.va<|prW<|K52.prt ps i,n]=.nx [.va FL,.va C,.va<|PF f ps,.va g,.ow<|(put2 f ps c t i).map fX,.va<|.int i,.va<|prW<|K52.prt ps i,o]:=by
 have lt:=P.lt b;rw[P.fl.len]at lt;have m:(ssL<|(ki f ps c i).getD none).length<=1000000:=by cases e:(ki f ps c i).getD none with|none=>simp[ssL]|some l=>have:=ql d l e;simp[ssL];omega
 have j:((wyM f ps c i).map stW).length<=1000000:=by have:=ll (jT f ps i) _<|ql (f:=f) (ps:=ps) (i:=i) d;simp[wyM];omega
 have h:∀p∈wyM f ps c i,Fac p:=lq _ _<|P.fac b;rw[ahj]at a;refine⟨.va<|fX<|wyM f ps c i,(aL<|bU (bV (aE (adM rfl ahO) rfl<|P.own b)<|bV (nV (aju (aE rfl rfl a) rfl) m<|abF _ _) rfl)<|aeL (P.fac b)<|aeE<|ql d).trans<|(wb (nV rfl j<|vN h (-1) (λ_=>rfl) _)<|amw rfl (k:=(K52.prt ps i).1) rfl<|by simp;omega).trans<|(anA (nV rfl j<|vN h 1 (λ_=>rfl) _)<|amw rfl (k:=(K52.prt ps i).2) rfl<|by simp;omega).trans ?_⟩;unfold put2;rw[List.map_set,List.map_set];rfl
def Pd.loop(P:Pd f ps)(b:Gc c)(FL C){d}(a:∀i:Nat,i<4->oIx d (.int i)=.ok (ssW<|(ki f ps c i).getD none)):∃l v g,forL (kq<|bu (aq 5)<|bu (aq 6) kr) bO (iY 0<|ps.map prW) [.va FL,.va C,.va<|PF f ps,.va d,.ow<|(List.replicate 8 []).map fX,.no,.no,.no]=.nx [.va FL,.va C,.va<|PF f ps,.va d,.ow<|(tlW f ps c).map fX,l,v,g]:=by
 obtain⟨w,h⟩:=P.body (i:=0) (by decide) b FL C (a 0<|by decide) (t:=List.replicate 8 []) rfl .no;obtain⟨k,j⟩:=P.body (i:=1) (by decide) b FL C (a 1<|by decide) (t:=put2 f ps c (List.replicate 8 []) 0) (by simp[put2]) w;obtain⟨u,m⟩:=P.body (i:=2) (by decide) b FL C (a 2<|by decide) (t:=put2 f ps c (put2 f ps c (List.replicate 8 []) 0) 1) (by simp[put2]) k;obtain⟨x,n⟩:=P.body (i:=3) (by decide) b FL C (a 3<|by decide) (t:=put2 f ps c (put2 f ps c (put2 f ps c (List.replicate 8 []) 0) 1) 2) (by simp[put2]) u;have e:iY 0 (ps.map prW)=[.tup [.int 0,prW<|K52.prt ps 0],.tup [.int 1,prW<|K52.prt ps 1],.tup [.int 2,prW<|K52.prt ps 2],.tup [.int 3,prW<|K52.prt ps 3]]:=by obtain⟨p,q,r,s,rfl⟩:=four P.prs.len;rfl
 have o:rE ps=[(K52.prt ps 0).1,(K52.prt ps 0).2,(K52.prt ps 1).1,(K52.prt ps 1).2,(K52.prt ps 2).1,(K52.prt ps 2).2,(K52.prt ps 3).1,(K52.prt ps 3).2]:=by obtain⟨p,q,r,s,rfl⟩:=four P.prs.len;rfl
 refine⟨.va<|.int 3,.va<|prW<|K52.prt ps 3,x,?_⟩;unfold tlW;rw[e,o];exact bw rfl h<|bw rfl j<|bw rfl m<|bw rfl n rfl
def sU{p}(h:Fac p):nr [stW p]=.ok (.bl<|inB p):=by
 obtain⟨x,y,k⟩:=p;have j:ip [.int k]=.ok (.bl true):=by have m:0<=k:=h.1;have l:k<4:=h.2;simp[ip,hJ,gH,gD,ikT,am4,ma,m,l]
 have d:∀z:Int,gI [.int z]=.ok (.bl<|decide (-200<=z)&&decide (z<=200)):=λz=>by by_cases o:-200<=z<;>by_cases n:z<=200<;>simp[gI,jd,gH,gD,ikT,am4,gO,o,n]
 have f:∀{e g:EF}{c a b},e c=.ok (.bl a)->g c=.ok (.bl b)->xl e g c=.ok (.bl<|a&&b):=λ{e g c a b}h k=>by rw[show xl e g c=(e c).bind _ from rfl,h];cases a;rfl;exact k
 exact an8 fin ((v_f<|by kernel_rfl).trans<|gT.trans<|iB<|(f (bU rfl<|d x)<|f (bU rfl<|d y)<|bU rfl j).trans<|by rw[Bool.and_true];rfl)
def outD(a:List (List S3)):Option Nat:=(List.range 8).find? λd=>!(a.getD d []).all inB
structure Wy(tl:List (List S3)):Prop where len:tl.length=8way:∀d,d<8->∃p t,tl.getD d []=p::t/\inB p=true/\t.length<=100/\∀q∈p::t,Fac q
def al7(x)(xs:List α):cut (x::xs) (some 1) none=xs:=by simp[cut,sIx]
def alY{j:List (List S3)}(h:j.length=8):iY 0 (j.map fX)=(List.range 8).map λd:Nat=>.tup [.int d,fX<|j.getD d []]:=by match j,h with|[a,b,c,d,e,f,g,h],_=>rfl
def xb{a}(Y:Wy a):iW [.lst<|a.map fX]=match outD a with|some d=>.ex<|exN "Out" d|none=>.ok (.lst<|a.map fX):=by have L:=jt (emb:=λd:Nat=>.tup [.int d,fX<|a.getD d []]) (g:=kq<|bu (aq 1)<|bu (aq 2) kr) (b:=ik) rfl (λd=>!(a.getD d []).all inB) (λd=>.ex (exN "Out" d) [.va<|.lst<|a.map fX,.va<|.int d,.va<|fX<|a.getD d []]) (λ_ _=>rfl) (λo:Sl×Sl=>[.va<|.lst<|a.map fX,o.1,o.2]) (λd=>(.va<|.int d,.va<|fX<|a.getD d [])) (List.range 8) (λd f=>⟨λ_=>rfl,by obtain⟨p,t,e,k,s,r⟩:=Y.way d<|aoc.mp f;rw[e,aqu,k,Bool.true_and];have c:=vR<|t.map inB;simp only[aoR,List.all_map]at c;have j:eSl (ah 2) (en<|eI 1) pNo [.va<|.lst<|a.map fX,.va<|.int d,.va<|fX (p::t)]=.ok (.lst<|t.map stW):=(an8 (λl=>Res.ok<|W.lst l) (al7 (stW p)<|t.map stW):);exact ams (fB<|uC (bV (nV (aju j rfl) (by simp;omega)<|bA λq m=>⟨_,rfl,rfl,bU rfl<|sU<|r q<|aog _ m⟩) rfl)<|(abg _).trans<|an8 oB c),anv rfl ⟨rfl,by have:=iH (n:=d) (by have:=aoc.mp f;omega);simp[this]⟩⟩) (.no,.no);rw[<-alY Y.len]at L;unfold outD;cases h:(List.range 8).find? _ with|some d=>rw[h]at L;exact an8 (λo=>fin<|gW o _) L|none=>rw[h]at L;obtain⟨o,L⟩:=L;exact an8 (λo=>fin<|gW o _) L
def zR(w)(hw:w≠[]):oIx (fX w) (.int<|-1)=.ok (stW<|jr w):=by have e:fX w=.lst _:=rfl;rw[e,fK,pw,List.getLast?_map,jr,List.getLastD_eq_getLast?,List.getLast?_eq_some_getLast hw];rfl
def w9(A)(ws:List (List S3))(h:∀w∈ws,w≠[]):ba (aq 0) fF (eOp oIx (ah 0)<|eUn lE<|eI 1) (.no::A) (ws.map fX)=.ok ((ws.map jr).map stW):=by have:=bA (g:=aq 0) (t:=fF) (e:=eOp oIx (ah 0)<|eUn lE<|eI 1) (σ:=.no::A) (emb:=fX) (f:=λw=>stW<|jr w) (xs:=ws) λw hw=>⟨_,rfl,rfl,by simp[zR w (h w hw)]⟩;rw[this,aoR];rfl
inductive Oc where|nop|blind(d:Nat)|out(d:Nat)|meet(i j:Nat)|ok(g:List S3)
def Oc.res:Oc->Res W|.nop=>.ex<|.exc "NoPairs" []|.blind d=>.ex<|exN "Blind" d|.out d=>.ex<|exN "Out" d|.meet i j=>.ex<|.exc "Meet" [.int i,.int j]|.ok g=>.ok<|flW g
def Oc.fl(g:List S3):Oc:=match vi g with|some p=>.meet p.1 p.2|none=>.ok g
def ocD(f:List S3)(c:List Rl):Oc:=match wG f with|none=>.nop|some ps=>match(List.range 4).find? λi=>(ki f ps c i).isNone with|some i=>.blind (prt ps i).1|none=>match outD (tlW f ps c)with|some d=>.out d|none=>.fl<|(tlW f ps c).map jr
def amu(h:f ws=r)(k:∀y,r=.ok y->isN c y=true)(g:a σ=.ok ws):qV c f a σ=r:=by rw[show qV c f a σ=(a σ).bind _ from rfl,g];show(f _).bind _=_;rw[h];cases r with|ok y=>exact an4<|k y rfl|_=>rfl
def aaN{f}(F:Fl f)(l:cK f)(C:∀p∈f,inB p=true){c}(q:Gc c):dk [flW f,clW c]=(ocD f c).res:=by
 have k:fN [flW f]=match wG f with|some ps=>.ok<|PF f ps|none=>.ex (.exc "NoPairs" []):=by show((jv [flW f]).bind λp=>match dA [flW f,p]with|.ok m=>Res.ok<|W.ins "PairedFloor" [flW f,p,m]|_=>.bad)=_;rw[sf f F.len F.fac l];cases e:wG f with|none=>rfl|some ps=>have G:=qm F.len l e;show(match dA [flW f,.lst<|ps.map prW]with|.ok m=>Res.ok<|W.ins "PairedFloor" [flW f,.lst<|ps.map prW,m]|_=>.bad)=_;rw[iP f F.fac ps (λp E=>by rw[F.len];exact(G.lt p E).1) (by rw[G.len];decide)];rfl
 unfold ocD;cases e:wG f with|none=>rw[e]at k;exact an8 fin (amt<|amu k (λ_ z=>nomatch z) rfl)|some ps=>rw[e]at k;dsimp only;have P:=r6 F l e;have Y:Wy (tlW f ps c):=⟨iD,λd a=>P.way q C a⟩;have cm:=q5 (g:=aq 0) (t:=fF) (e:=iZ "PairedFloor" bI (ah 3)<|aa (ah 0)<|aa (ah 2) ao) (σ:=[.no,.va<|flW f,.va<|clW c,.va<|PF f ps,.no,.no,.no,.no,.no]) (emb:=λi:Nat=>W.int<|0+(i:Nat)) (h:=λi=>stR ssW (exN "Blind" (K52.prt ps i).1)<|ki f ps c i) (xs:=List.range 4) λi b=>⟨_,rfl,rfl,by rw[apk];exact ajt rfl ajF rfl<|P.steps (aoc.mp b) q⟩;rw[qi]at cm;refine(an8 fin<|aL<|amu k λ_ z=>by cases z;rfl rfl).trans ?_;have x:dz (eBi mh<|aa (iq "PairedFloor" 1<|ah 2) ao) [.va<|flW f,.va<|clW c,.va<|PF f ps,.no,.no,.no,.no,.no]=.ok (rng 0 4):=ajs (j:=4) (uC (bV (adM rfl ak6) rfl)<|by show Res.ok (W.int (ps.map prW).length)=_;rw[aos,P.prs.len];rfl) (by decide);cases n:(List.range 4).find? λi=>(ki f ps c i).isNone with|some i=>rw[n]at cm;exact an8 fin (amt<|akp x (by decide) cm)|none=>
   rw[n]at cm;have o:∀i:Nat,i<4->oIx (.lst<|(List.range 4).map λi=>stN ssW<|ki f ps c i) (.int i)=.ok (ssW<|(ki f ps c i).getD none):=λi b=>by rw[fK,gz,aoy,apj b];have:=aqR.mp n i<|aoc.mpr b;cases v:ki f ps c i with|none=>rw[v]at this;simp at this|some s=>simp[v]
   obtain⟨B,D,y,A⟩:=P.loop q (flW f) (clW c) o;refine(an8 fin<|aL<|akp x (by decide) cm).trans ((an8 fin (an8 (gW .<|yO 4 _) A)).trans ?_);have K:=xb Y;have it:∀r,iW [.lst<|(tlW f ps c).map fX]=r->iw (fk iW<|aa (ah 4) ao) [.va<|flW f,.va<|clW c,.va<|PF f ps,.va (.lst<|(List.range 4).map λi=>stN ssW<|ki f ps c i),.va<|.lst<|(tlW f ps c).map fX,B,D,y]=r.bind itemsOf:=λr h=>by rw[<-h];rfl
   cases u:outD (tlW f ps c)with|some d=>rw[u]at K;exact an8 fin<|ant<|it _ K|none=>
    rw[u]at K;refine(anu<|nV (it _ K) (by simp[iD])<|w9 _ _ λw hw=>?_).trans ((sZ _<|by simp[iD]).trans ?_);.obtain⟨d,a,rfl⟩:=apQ hw;obtain⟨p,t,e,_⟩:=Y.way d (by rw[iD]at a;exact a);rw[aoe,aod a]at e;exact λz=>nomatch z.symm.trans e
    .dsimp only;unfold Oc.fl;cases vi _<;>rfl
def Oc.due:Oc->W|.nop=>.lst [.str "NoPairs"]|.blind d=>.lst [.str "Blind",.int d]|.out d=>.lst [.str "Out",.int d]|.meet i j=>.lst [.str "Meet",.int i,.int j]|.ok g=>flW g
def ahX{ps}(h:ps.length=4)(a:i<4):(rE ps)[2*i]?=some (prt ps i).1/\(rE ps)[2*i+1]?=some (prt ps i).2:=by
 obtain⟨p,q,r,s,rfl⟩:=four h;rcases i with _|_|_|_|i;.exact⟨rfl,rfl⟩
 .exact⟨rfl,rfl⟩
 .exact⟨rfl,rfl⟩
 .exact⟨rfl,rfl⟩
 .omega
abbrev dS(f:List S3)(ps:List (Nat×Nat))(c:List Rl)(i:Nat)(a b e d:Sl):Ws:=[.va<|flW f,.va<|clW c,.va<|.lst<|ps.map prW,.va<|.lst<|(dO f ps).map stW,.od (nW<|(rE ps).take<|2*i)<|(wsL f ps c i).map fX,a,b,e,d,.no,.no,.no]
def Pd.put(P:Pd f ps)(e:i<4)(vs)(v)(A):putD 4 (nW<|(rE ps).take<|2*i) vs (.int (K52.prt ps i).1) v A=.nx (A.set 4<|.od (nW<|(rE ps).take<|2*i+1)<|vs++[v])/\putD 4 (nW<|(rE ps).take<|2*i+1) vs (.int (K52.prt ps i).2) v A=.nx (A.set 4<|.od (nW<|(rE ps).take<|2*(i+1))<|vs++[v]):=by have G:=lj P.prs;have nd:=G.nodup_iff.mpr apf;have a:(rE ps).length=8:=G.length_eq;obtain⟨d,g⟩:=ahX P.prs.len e;have b:=og _ nd (m:=2*i) (by omega) a vs v A;have c:=og _ nd (m:=2*i+1) (by omega) a vs v A;rw[(aoa.mp d).2]at b;rw[(aoa.mp g).2]at c;exact⟨b,c⟩
def two_way(w:List S3)(n):W.lst (w.map λq=>stW<|bsd q n)=fX (w.map (bsd . n)):=by unfold fX;rw[aoR];rfl
theorem Pd.due(P:Pd f ps)(r:Gc c):∀n i,i+n=4->∀a b d,match(List.range' i n).find? λi=>(ki f ps c i).isNone with|some j=>forL (aq 5) bN ((List.range' i n).map λi=>prW<|K52.prt ps i) (dS f ps c i a b d .no)=.rt (.lst [.str "Blind",.int (K52.prt ps j).1])|none=>∃u t q,forL (aq 5) bN ((List.range' i n).map λi=>prW<|K52.prt ps i) (dS f ps c i a b d .no)=.nx (dS f ps c 4 u t q .no)
|0,i,h,a,b,d=>by
  obtain rfl:i=4:=by omega
  exact⟨a,b,d,rfl⟩|n+1,i,h,a,b,d=>by
  have g:i<4:=by omega
  have m:=P.rule g r;rw[List.range'_succ,aqB,aor];cases e:ki f ps c i with|none=>rw[e]at m;refine(cW _ _ _ _ _).trans ?_;show mC (bN<|dS f ps c i (.va<|prW<|K52.prt ps i) b d .no) _=_;rw[show bN (dS f ps c i (.va<|prW<|K52.prt ps i) b d .no)=.rt (.lst [.str "Blind",.int (K52.prt ps i).1])from(aL<|bU rfl m).trans ((v_t rfl).trans<|uw rfl)];rfl|some s=>
   rw[e]at m;have v:=zG (jT f ps i) (P.fac g) s λl w=>ql (f:=f) (ps:=ps) (i:=i) r l (by rw[e];exact w);have p:hY (jT f ps i) (uk s)=wyM f ps c i:=by unfold wyM;rw[e];rfl
   rw[p]at v;have k:=P.due r n (i+1) (by omega) (.va<|prW<|K52.prt ps i) (.va<|ssW s)<|.va<|K52.two<|wyM f ps c i;have st:∀o,forL (aq 5) bN ((List.range' (i+1) n).map λi=>prW<|K52.prt ps i) (dS f ps c (i+1) (.va<|prW<|K52.prt ps i) (.va<|ssW s) (.va<|K52.two<|wyM f ps c i) .no)=o->forL (aq 5) bN (prW (K52.prt ps i)::(List.range' (i+1) n).map λi=>prW<|K52.prt ps i) (dS f ps c i a b d .no)=o:=λo x=>by
    refine bw rfl ((aL<|bU rfl m).trans<|(v_f<|by cases s<;>rfl).trans<|gT.trans<|(aL<|bU (bV (bU rfl<|P.middle g) rfl) v).trans<|(abN<|agZ rfl rfl rfl (P.put g _ _ _).1).trans<|agZ rfl rfl rfl (P.put g _ _ _).2) ?_;rw[<-x];show forL _ _ _ [_,_,_,_,.od _<|(wsL f ps c i).map fX++[_]++[_],_,_,_,_,_,_,_]=_;rw[two_way,two_way];have p:(wsL f ps c<|i+1).map fX=(wsL f ps c i).map fX++[fX ((wyM f ps c i).map (bsd .<|-1))]++[fX ((wyM f ps c i).map (bsd . 1))]:=by simp[wsL,List.range_succ]
    unfold dS;rw[p];rfl
   revert k;simp only[Option.isNone_some];cases(List.range' (i+1) n).find? λi=>(ki f ps c i).isNone with|some j=>exact λk=>st _ k|none=>exact λ⟨u,t,q,k⟩=>⟨u,t,q,st _ k⟩
def afX(p):decide (far (ay p)>200)=!inB p:=by
 obtain⟨x,y,k⟩:=p;have h:far (x,y)<=200 ↔(-200<=x/\x<=200)/\-200<=y/\y<=200:=by unfold far;simp only;by_cases a:x<0<;>by_cases b:y<0<;>split<;>omega
 have e:inB (x,y,k)=decide (far (x,y)<=200):=by rw[aoz];simp only[inB,aoo,aoJ];exact h.symm
 rw[e,aoz];show decide (far (x,y)>200)=true↔_;simp
def aid(l:List S3):oNe (.lst<|l.map stW) (.lst [])=.ok (.bl !l.isEmpty):=by unfold oNe;simp [ou 49 _ _ λp _=>aib _ p];cases l<;>simp
def acp{l f h a j c k K V}{d:Nat}{w}(hw:w.length<=1000)(g:qC (.dic K V) (.int d)=.ok (fX w)):adR 4 (tB<|eOp oNe (cZ 1 (iw<|eOp qC (ah 4)<|ah 8) (aq 0) (tB<|eOp oGt (eBi mf<|aa (eBi rF<|aa (eOp oIx (ah 0)<|eI 0) ao)<|aa (eBi rF<|aa (eOp oIx (ah 0)<|eI 1) ao) ao)<|eI 200)<|ah 0)<|e8 ao) [l,f,h,a,.od K V,j,c,k,.va<|.int d,.no,.no,.no]=.ok !w.all inB:=by
 have e:(w.filter λp=>!inB p).isEmpty=w.all inB:=by rw[aoz,List.isEmpty_iff,apZ,aoD];simp
 rw[yz,fB (aE (nV (aju (aE rfl rfl g) rfl) (by simp;omega)<|eQ (p:=λp=>!inB p) λp _=>⟨_,rfl,(fB (b:=decide (far (ay p)>200)) rfl).trans (by rw[afX]),λ_=>rfl⟩) rfl<|aid _),e];rfl
def air{j:List (List S3)}(h:j.length=8):(List.range 8).map (λd=>stW<|jr<|j.getD d [])=(j.map jr).map stW:=by match j,h with|[a,b,c,d,e,f,g,h],_=>rfl
def acP(h c d a m e b g l)(f)(r:f.length=8):match vi f with|some p=>forL (aq 10) cF (rng 0 8) [h,c,d,a,m,e,b,g,l,.va<|flW f,.no,.no]=.rt (.lst [.str "Meet",.int p.1,.int p.2])|none=>∃o p,forL (aq 10) cF (rng 0 8) [h,c,d,a,m,e,b,g,l,.va<|flW f,.no,.no]=.nx [h,c,d,a,m,e,b,g,l,.va<|flW f,o,p]:=by
 have q:=λ{k}=>vp (f:=f) (S:=flW f) (.inl rfl) (k:=k);have M:=vj (f:=f) (u:=10) (v:=11) (b0:=cF) (b1:=fL) (λp=>.lst [.str "Meet",.int p.1,.int p.2]) (λo p=>[h,c,d,a,m,e,b,g,l,.va<|flW f,o,p]) (λ_ _ _=>rfl) (λ_ _ _=>rfl) λi n p=>by
  have t:(i:Int)+1<4611686018427387904:=by omega
  have w:-4611686018427387904<=(i:Int)+1:=by omega
  have x:((8:Int)-((i:Int)+1)).toNat=f.length-(i+1):=by omega
  generalize flW f=FL at *;simp[cF,t,w,x] λi j n s=>by rw[fL,yN,fB<|aE (abO<|aE rfl rfl<|q n) (abO<|aE rfl rfl<|q s)<|vb _ _];rfl
 rw[r]at M;exact M
def ai1{f}(F:Fl f)(y:cK f)(H:∀p∈f,inB p=true){c}(B:Gc c):qQ [flW f,clW c]=.ok (ocD f c).due:=by have h:=qI f F y;unfold ocD;cases e:wG f with|none=>rw[e]at h;exact an8 fin<|(aL<|bU rfl h).trans<|v_t rfl|some ps=>
  rw[e]at h;have P:=r6 F y e;dsimp only;have Y:Wy (tlW f ps c):=⟨iD,λd a=>P.way B H a⟩;have I:ba (aq 0) fF (ax bJ<|aa (ah 1)<|aa (ah 0) ao) [.no,.va<|flW f,.va<|clW c,.va<|.lst<|ps.map prW,.no,.no,.no,.no,.no,.no,.no,.no,.no] (ps.map prW)=.ok ((dO f ps).map stW):=by unfold dO;rw[aoR];exact bA λp h=>⟨_,rfl,rfl,bU rfl<|lH f F p (P.prs.lt p h).1<|P.nx p h⟩
  have L:=P.due B 4 0 rfl .no .no .no;have C:(List.range' 0 4).map (λi=>prW<|K52.prt ps i)=ps.map prW:=by obtain⟨p,q,r,s,rfl⟩:=four P.prs.len;rfl
  rw[C]at L;refine(an8 fin<|(aL<|bU rfl h).trans<|(v_f rfl).trans<|gT.trans<|aL<|nV rfl (by rw[aos,P.prs.len];decide) I).trans ?_;show fin (gW (forL (aq 5) bN (ps.map prW)<|dS f ps c 0 .no .no .no .no) _)=_;rw[show(List.range 4).find? (λi=>(ki f ps c i).isNone)=(List.range' 0 4).find? λi=>(ki f ps c i).isNone from rfl];cases x:(List.range' 0 4).find? λi=>(ki f ps c i).isNone with|some j=>rw[x]at L;exact an8 (λo=>fin<|gW o _) L|none=>
   rw[x]at L;obtain⟨l,m,k,L⟩:=L;dsimp only;refine(an8 (λo=>fin<|gW o _) L).trans ?_;have G:=lj P.prs;have A:∀d:Nat,d<8->qC (.dic (nW<|(rE ps).take<|2*4)<|(wsL f ps c 4).map fX) (.int d)=.ok (fX<|(tlW f ps c).getD d []):=λd a=>by rw[aqt (show(rE ps).length<=2*4 by rw[G.length_eq];decide),aiE fX [] G rfl a,aoe,aoe,P.ag8 a]
   have O:=jt (emb:=λd:Nat=>W.int<|0+(d:Nat)) (g:=aq 8) (b:=fM) rfl (λd=>!((tlW f ps c).getD d []).all inB) (λd=>.rt<|.lst [.str "Out",.int<|0+(d:Nat)]) (λ_ _=>rfl) (λo=>dS f ps c 4 l m k o) (λd=>.va<|.int<|0+(d:Nat)) (List.range 8) (λd a=>⟨λ_=>rfl,by obtain⟨p,t,e,_,N,_⟩:=Y.way d<|aoc.mp a;rw[apk];exact acp (by rw[e];simp;omega)<|A d<|aoc.mp a,rfl⟩) .no;show fin (gW (forL (aq 8) fM ((List.range 8).map λd:Nat=>W.int<|0+(d:Nat))<|dS f ps c 4 l m k .no) _)=_;unfold outD;cases v:(List.range 8).find? λd=>!((tlW f ps c).getD d []).all inB with|some d=>rw[v]at O;refine(an8 (λo=>fin<|gW o _) O).trans ?_;rw[apk];rfl|none=>
  rw[v]at O;obtain⟨n,O⟩:=O;refine(an8 (λo=>fin<|gW o _) O).trans ?_;have u:ba (aq 0) fF (eOp oIx (eOp qC (ah 5)<|ah 0)<|eUn lE<|eI 1) (.no::[.va<|flW f,.va<|clW c,.va<|.lst<|ps.map prW,.va<|.lst<|(dO f ps).map stW,.va<|.dic (nW<|(rE ps).take<|2*4)<|(wsL f ps c 4).map fX,l,m,k,n,.no,.no,.no]) (rng 0 8)=.ok (((tlW f ps c).map jr).map stW):=by rw[<-air Y.len];exact bA λd a=>⟨_,rfl,rfl,by obtain⟨p,t,e,_⟩:=Y.way d<|aoc.mp a;rw[apk];exact aE (aE rfl rfl<|A d<|aoc.mp a) rfl<|zR _<|by rw[e];exact λz=>nomatch z⟩
  have D:((tlW f ps c).map jr).length=8:=by rw[aos,iD]
  have M:=acP (.va<|flW f) (.va<|clW c) (.va<|.lst<|ps.map prW) (.va<|.lst<|(dO f ps).map stW) (.od (nW<|(rE ps).take<|2*4)<|(wsL f ps c 4).map fX) l m k n _ D;generalize(tlW f ps c).map jr=g at *;have E:aaI 4 (eBi gy<|aa (cZ 1 (dz<|eI 8) (aq 0) fF<|eOp oIx (eOp qC (ah 5)<|ah 0)<|eUn lE<|eI 1) ao) (dS f ps c 4 l m k n)=.ok (flW g):=by
   rw[aaH];refine(an8 plR<|uC (bV (nV rfl (by decide) u) rfl) (w:=flW g) ?_).trans ?_;.rfl
   .exact an4 (y8 g)
  refine(an8 fin<|aL E).trans ?_;show fin (gW (forL (aq 10) cF (rng 0 8) _) _)=_;unfold Oc.fl;cases em:vi g with|none=>rw[em]at M;obtain⟨J,K,M⟩:=M;exact an8 (λo=>fin<|gW o _) M|some p=>rw[em]at M;exact an8 (λo=>fin<|gW o _) M
structure Gf(f:List S3):Prop where
 fl:Fl f
 two:cK f
 inb:∀p∈f,inB p=true
set_option tactic.hygienic true in
def afD{f g}(G:Gf f){c}(o:Gc c)(h:ocD f c=.ok g):Gf g:=by
 unfold ocD at h;split at h;.cases h
 .rename_i ps e;have P:=r6 G.fl G.two e;split at h;.cases h
  .split at h;.cases h
   .rename_i n;unfold Oc.fl at h;split at h;.cases h
    .rename_i em;cases h;have b:∀p∈(tlW f ps c).map jr,Fac p/\inB p=true:=λp k=>by
      obtain⟨w,hw,rfl⟩:=aox.mp k;obtain⟨d,l,rfl⟩:=apQ hw;have j:d<8:=by rw[iD]at l;exact l
      obtain⟨p,t,e,_,_,q⟩:=P.way o G.inb j;have a:=aqR.mp n d<|aoc.mpr j;rw[e]at a;rw[aoe,aod l]at e;have e:(tlW f ps c)[d]=p::t:=e;rw[e];have m:jr (p::t)∈p::t:=zS λz=>nomatch z;exact⟨q _ m,aoD.mp (by simpa using a) _ m⟩
     exact⟨⟨by rw[aos,iD],λp k=>(b p k).1⟩,(sO _).mp em,λp k=>(b p k).2⟩
def ag5(f C)(o:Oc)(h:dk [f,C]=o.res):dj [f,C]=.ok o.due:=by cases o with|ok g=>simp only[Oc.res]at h;simp[dj,dg,List.replicate,bX,h,Oc.due]|nop=>have k:=(vI 0).2.2.2;simp only[Oc.res]at h;simp[dj,dg,List.replicate,bX,h,Oc.due,cL,pZ,k]|blind d=>have k:=(vI d).1;simp only[Oc.res]at h;simp[exN]at k h;simp[dj,dg,List.replicate,bX,h,Oc.due,cL,pZ,k]|out d=>have k:=(vI d).2.1;simp only[Oc.res]at h;simp[exN]at k h;simp[dj,dg,List.replicate,bX,h,Oc.due,cL,pZ,k]|meet i j=>have k:=(vI i).2.2.1 j;simp only[Oc.res]at h;simp[dj,dg,List.replicate,bX,h,Oc.due,cL,pZ,k]
def abZ(o:Oc):aO 3 [o.due,o.due]=.ok (.bl true):=by cases o with|ok g=>exact(iI 2 _ λx a=>by obtain⟨p,_,rfl⟩:=aox.mp a;exact ae6 0 p).2|nop=>exact(iI 2 _ λx a=>by simp at a;subst a;exact same_str 1 _).1|blind d=>exact qe 1 _ d|out d=>exact qe 1 _ d|meet i j=>exact(iI 2 _ λx a=>by
  simp at a;rcases a with rfl|rfl|rfl;.exact same_str 1 _
  .exact same_int 1 _
  .exact same_int 1 _).1
def ai9(b FA)(a){f}(G:Gf f)(k:Nat)(l m):∃g u s,ig [.va b,.va FA,.va<|.int a,.va<|flW f,.va<|.int k,l,m]=.nx [.va b,.va FA,.va<|.int a,.va<|flW g,.va<|.int k,u,s]/\Gf g:=by
 obtain⟨c,p,ok,_⟩:=acR<|a+7*(k:Int);have h:Gc c:=⟨λr e=>(ok r e).nt,λr e=>(ok r e).ns⟩;have t:=ai1 G.fl G.two G.inb h;have q:=ag5 _ _ _<|aaN G.fl G.two G.inb h;have n:=λ{g}=>afD (g:=g) G h;generalize ocD f c=o at *;have v:=abZ o;have st:ig [.va b,.va FA,.va<|.int a,.va<|flW f,.va<|.int k,l,m]=sIf (tB<|eBi bj<|aa (ah 6)<|aa (eC<|.ty "tuple") ao) (bq 3<|ah 6) sNx [.va b,.va FA,.va<|.int a,.va<|flW f,.va<|.int k,.va<|clW c,.va o.due]:=by generalize o.due=D at *;generalize flW f=FL at *;generalize clW c=C at *;simp(disch:=omega)[ig,fU,p,t,q,v]
 rw[st];have d:∀D,isK D "tuple"=some false->sIf (tB<|eBi bj<|aa (ah 6)<|aa (eC<|.ty "tuple") ao) (bq 3<|ah 6) sNx [.va b,.va FA,.va<|.int a,.va<|flW f,.va<|.int k,.va<|clW c,.va D]=.nx [.va b,.va FA,.va<|.int a,.va<|flW f,.va<|.int k,.va<|clW c,.va D]:=λD j=>by generalize flW f=FL at *;generalize clW c=C at *;simp[j]
 cases o with|ok g=>refine⟨g,.va<|clW c,.va<|flW g,?_,n rfl⟩;have j:isK (flW g) "tuple"=some true:=rfl;show sIf _ _ _ [.va b,.va FA,.va<|.int a,.va<|flW f,.va<|.int k,.va<|clW c,.va<|flW g]=_;generalize flW g=GW at *;generalize flW f=FL at *;generalize clW c=C at *;simp[j]|_=>exact⟨f,_,_,d _ rfl,G⟩
def al8(c)(a b)(k:a=0\/a=185\/a=-185)(v q m o):∃r w j d,ij [.va c,.va<|.int a,.va<|.int b,v,q,m,o]=.nx [.va c,.va<|.int a,.va<|.int b,r,w,j,d]:=by obtain⟨f,e,F,p,s⟩:=ade b a k;obtain⟨g,j,d,l,G⟩:=ai9 c (.int a) b ⟨F,p,s⟩ 0 m o;obtain⟨h,x,t,n,_⟩:=ai9 c (.int a) b G 1 j d;refine⟨.va<|flW h,.va<|.int 1,x,t,?_⟩;have l:ig [.va c,.va<|.int a,.va<|.int b,.va<|flW f,.va<|.int 0,m,o]=_:=l;have n:ig [.va c,.va<|.int a,.va<|.int b,.va<|flW g,.va<|.int 1,j,d]=_:=n;have u:rng 0 2=[.int 0,.int 1]:=rfl;simp[ij,e,u,cW,l,n]
def acS(ns:List Int)(y:ns.length<=63):af2 [.lst<|ns.map .int]=.ok (.bl true):=by
 obtain⟨a,r,n⟩:=aiT<|ns.getD 0 0;have q:bz [.lst<|ns.map .int,.int 0]=.ok (.int<|ns.getD 0 0):=aa4 ns 0 (by decide);have s:bz [.lst<|ns.map .int,.int 1]=.ok (.int<|ns.getD 1 0):=aa4 ns 1 (by decide);obtain⟨l,p⟩:∃l:List Int,cut (ns.map W.int) (some 2) (some 32)=l.map .int:=⟨cut ns (some 2)<|some 32,by simp[cut,sIx]⟩;obtain⟨d,x,v⟩:=sY (g:=aq 2) (b:=ij) (xs:=(ns.getD 1 0::l).map .int) (λi d=>∃o k h j m,d=[.va<|.lst<|ns.map .int,.va<|.int a,o,k,h,j,m]) (σ:=[.va<|.lst<|ns.map .int,.va<|.int a,.no,.no,.no,.no,.no]) ⟨_,_,_,_,_,rfl⟩ (by rintro i w σ hw⟨o,k,h,j,m,rfl⟩;obtain⟨c,_,rfl⟩:=aox.mp<|aoS hw;obtain⟨A,D,C,B,e⟩:=al8 (.lst<|ns.map .int) a c n k h j m;exact⟨_,rfl,_,e,_,_,_,_,_,rfl⟩);obtain⟨o,k,h,j,m,rfl⟩:=v;have f:1+l.length<=1000000:=by
  have:(cut (ns.map W.int) (some 2)<|some 32).length<=ns.length:=by unfold cut;rw[ap4,arh,aos];omega
  rw[p,aos]at this;omega
 have u:(jh (iw<|eOp cV (e8<|aa (ax bz<|aa (ah 0)<|aa (eI 1) ao) ao)<|eSl (ah 0) (en<|eI 2)<|en<|eI 32) (aq 2) ij) [.va<|.lst<|ns.map .int,.va<|.int a,.no,.no,.no,.no,.no]=forL (aq 2) ij ((ns.getD 1 0::l).map .int) [.va<|.lst<|ns.map .int,.va<|.int a,.no,.no,.no,.no,.no]:=by generalize ns.map W.int=NS at *;simp[s,p,f]
 have t:∀R:SF,(aD (bq 1<|ax iV<|aa (ax bz<|aa (ah 0)<|aa (eI 0) ao) ao) R) [.va<|.lst<|ns.map .int,.no,.no,.no,.no,.no,.no]=R [.va<|.lst<|ns.map .int,.va<|.int a,.no,.no,.no,.no,.no]:=λR=>by generalize ns.map W.int=NS at *;generalize ns.getD 0 0=z at *;simp[q,r]
 show fin (abR [.va<|.lst<|ns.map .int,.no,.no,.no,.no,.no,.no])=_;unfold abR;rw[t,afa,u,x,yH];rfl
end K52
namespace PySem.W.Fast
def tw5238715066670843191:=0
def tw12883121614687844202:=0
def tw11911804707553063964:=0
def tw7533678806705534736:=0
def tw4994900983418626543:=0
def tw13544731750254408352:=0
def tw11321137810144006987:=0
def tw4963783409308137599:=0
def tw11388483957355681375:=0
def tw18094346273989736973:=0
def tw9608822692846759428:=0
def tw14856296250725327883:=0
def tw18241319781812108848:=0
def tw17141764816420401715:=0
def tw1477231027571360688:=0
def tw8184100727051022324:=0
def tw4517484750759900752:=0
def tw7254009199249979574:=0
def tw3580262332086341764:=0
def tw15303958989640073888:=0
def tw3753790493564905408:=0
def tw5532697430824322690:=0
def tw4122361191511375599:=0
def tw7581354483841328015:=0
def tw1787603952606463306:=0
def tw14323897209144429044:=0
def tw7250614508207449180:=0
def tw2693252602285137166:=0
def tw3905759104586795318:=0
def tw9343010626595161668:=0
def tw6216909260665413350:=0
def tw6363948998093502117:=0
def tw3158889035672366871:=0
def tw5189312188206874233:=0
def tw5807799436086262862:=0
def tw7147331351284964490:=0
def tw15067949829243766040:=0
def tw2179198207221609939:=0
def tw16327333524974229974:=0
def tw17847587360730066860:=0
def tw17645859250894501520:=0
def tw14348639068322410928:=0
def tw9629553046620712074:=0
def tw2794654911246687428:=0
def tw388546949425687995:=0
def tw11603258868365642401:=0
def tw13824441036638010868:=0
def tw9203564997806059450:=0
def tw6257493480063421922:=0
def tw10886275199899441151:=0
def tw18075570695623661130:=0
def tw1132206639628339829:=0
def tw9008684595811820299:=0
def tw12699420322813124613:=0
def tw8858515095438950850:=0
def tw6953662703709814474:=0
def tw8754488343270537672:=0
def tw3049346666110622789:=0
def tw11392145137169236186:=0
def tw6574163534782757242:=0
def tw15517311161318896959:=0
def tw15959131408847116964:=0
def tw17569145919486847178:=0
def tw6229713409509763421:=0
def tw17254056754829206457:=0
def tw16231033818356426393:=0
def tw5876792671227403186:=0
def tw325162260735208851:=0
def tw11403000666012945091:=0
def tw368782489978231325:=0
def tw991415109451701258:=0
def tw17171764831935314220:=0
def tw3146490004374131762:=0
def tw1549380327903565162:=0
def tw1306630478217432432:=0
def tw12509781891145088084:=0
def tw3644331762169942298:=0
def tw1468292780895128122:=0
def tw17456071161194940493:=0
def tw3999727037549348233:=0
def tw11085975554115091972:=0
def tw2417062865999204359:=0
def tw16160232428979927423:=0
def tw13218672495321157800:=0
def tw8147850747661136700:=0
def tw10669767611158540451:=0
def tw121259910831832648:=0
def tw12709611423471755398:=0
def tw1436504634948093962:=0
def tw5239114629069791725:=0
def tw1711362824321946157:=0
def tw11295870629102813561:=0
def tw9125850576974353399:=0
def tw6522415492420707477:=0
def tw8104263342158684224:=0
def tw762038450298613078:=0
def tw12421540712021833332:=0
def tw10180990802253371177:=0
def tw7145990206989379789:=0
def tw4727756635889032228:=0
def tw8182748629447155066:=0
def tw4309592456506917907:=0
def tw7016778928022753604:=0
def tw14808688030492817462:=0
def tw4467720416819650343:=0
def tw9794243495295573164:=0
def tw2782603770945127368:=0
def tw13306869537510742545:=0
def tw634885778677117471:=0
def tw13944138385399028906:=0
def tw13282346817750797526:=0
def tw7631400906536433291:=0
def tw17057413773709204611:=0
def tw13924738591874992136:=0
def tw4113604503259271180:=0
def tw14887212789840864825:=0
def tw7016047329930274149:=0
def tw4019574230867902995:=0
def tw15094079129151679941:=0
def tw3476763815666228267:=0
def tw3405181713454174247:=0
def tw13183630368461538378:=0
def tw9097603665801516473:=0
def tw9013840406791234928:=0
def tw2623022345647821166:=0
def tw11941026036358749002:=0
def tw17641422431878296298:=0
def tw17595106082227451946:=0
def tw10665215592966697652:=0
def tw11610491136974217493:=0
def tw11262696661653396193:=0
def tw11365447027641323662:=0
def tw14684464648546370700:=0
def tw3340282309743598719:=0
def tw1556045894128722084:=0
def tw13211483170134185046:=0
def tw15053732528935750216:=0
def tw7991692475713911465:=0
def tw15912597012996920699:=0
def tw15257134469403499764:=0
def tw10376529156944268793:=0
def tw17613469669915679854:=0
def tw14635271890035300060:=0
def tw14693443648199340943:=0
def tw7004831405524511628:=0
def tw18358499165446574847:=0
def tw16408929741424105593:=0
def tw4408120337606795207:=0
def tw8866341742694145552:=0
def tw6852385665090300307:=0
def tw655656362569942339:=0
def tw12310854148202519401:=0
def tw841445514597739661:=0
def tw12128369019264165634:=0
def tw4013459021781281255:=0
def tw2786029896269297761:=0
def tw5404983980408417342:=0
def tw13775362600762221065:=0
def tw11605601310439163526:=0
def tw6823858725150027125:=0
end PySem.W.Fast
namespace K52
open PySem PySem.Spec PyProof.Rows L2 WS
open WL(Res Sl Ws EF TF AF LF GF GsF SF Out RF OX)
seal L2.PE L2.PS L2.PSs L2.PA L2.PT L2.PW L2.PG L2.PGs L2.PI L2.PO L2.xP L2.PC
def top(i:Nat):Stmt:=PySem.Challenge.pw_squarecall_k52_danced_by_pairs.main.body.getD i<|.Pass ⟨0,0,0,0⟩
local macro_rules|`(tactic|trivial)=>`(tactic|exact⟨rfl,rfl,rfl,by decide+kernel,rfl,by decide+kernel,by decide+kernel⟩)
noncomputable def jA:Stmt->List Stmt|.ClassDef _ _ _ b _ _ _ _ _ _ _=>b|_=>[]
def mth(i j:Nat):Stmt:=(jA<|top i).getD j<|.Pass ⟨0,0,0,0⟩
abbrev uO:Stmt:=(jA<|top 9).getD 0<|.Pass ⟨0,0,0,0⟩
def yK:FnScope ["self","who"] ["self","who"] (ak uO):=by trivial
abbrev yE:Stmt:=(jA<|top 11).getD 0<|.Pass ⟨0,0,0,0⟩
def abY:FnScope ["self","one","other"] ["self","one","other"] (ak yE):=by trivial
abbrev adX:Stmt:=(jA<|top 10).getD 0<|.Pass ⟨0,0,0,0⟩
def ae5:FnScope ["self","who"] ["self","who"] (ak adX):=by trivial
abbrev kY:Stmt:=top 62
def az:FnScope ["_law_cell","_law_far_here","_law_order","_law_spots","_law_stands","_law_line","_law_k","_law_number","_law_x","_law_y","_law_facing","_law_two","_law_one"] ["_law_cell","_law_far_here"] (ak kY):=by trivial
abbrev dI:Stmt:=top 73
def aR:FnScope ["_law_floor_here","_law_pair","_law_middles","_law_test_here","_law_own","_law_x","_law_y","_law_more","_law_most","_law_both_here"] ["_law_floor_here","_law_pair","_law_middles","_law_test_here"] (ak dI):=by trivial
abbrev je:Stmt:=top 80
def fG:FnScope ["_law_found","_law_due_here","_law_one","_law_other"] ["_law_found","_law_due_here"] (ak je):=by trivial
abbrev gV:Stmt:=(jA<|top 54).getD 0<|.Pass ⟨0,0,0,0⟩
def mq:FnScope ["self","floor"] ["self","floor"] (ak gV):=by trivial
abbrev cO:Stmt:=(jA<|top 54).getD 2<|.Pass ⟨0,0,0,0⟩
def eT:FnScope ["self","place","test"] ["self","place","test"] (ak cO):=by trivial
abbrev ae7:Stmt:=top 82
def jP:FnScope ["_law_script","_law_far_here","_law_cell","_law_floor_here","_law_k","_law_call_here","_law_due_here"] ["_law_script"] (ak ae7):=by trivial
structure Ad where(i4 vS jH jG jF jE br mj nH nG i3 mi iv rB cf eE cC nI aF iU lT qP eZ fm_PairedFloor_pair_sees fm_PairedFloor_pair_holds fm_PairedFloor_pair_steps tc tP:Addr)
structure Txt(w:World)(K:W.Frag)(mg:Str->Option Value)(D:Ad):Prop where
 mgA:∀nm v,W.nsIn K mainGlobals nm=some (some v)->mg nm=some v
 lP:Kc K mg "DANCERS" i1
 ng:Kc K mg "FARTHEST" gO
 aaa:Kc K mg "STEPS" ma
 xc:Kc K mg "QUARTERS" nE
 oA:mg "QUARTERS_OF"=some (.ref D.i4)nZ:abn w K D.i4 [("same",.int 0),("left",.int 1),("about",.int 2),("right",.int 3)]vn:Kc K mg "DRIFTS" i0
 acE:mg "GOINGS"=some (.ref D.vS)abS:abn w K D.vS [("ahead",.ref D.jH),("back",.ref D.jG),("left",.ref D.jF),("right",.ref D.jE)]wt:∀H:Hp,SqT K H D.jH [.int 1,.int 0]wq:∀H:Hp,SqT K H D.jG [.int<|-1,.int 0]wo:∀H:Hp,SqT K H D.jF [.int 0,.int<|-1]wm:∀H:Hp,SqT K H D.jE [.int 0,.int 1]tab:W.tabIn K "_law_floor"=some (D.tc,D.tP)nl:WS.noL K=true
 qF:mg "ValueError"=none
 mz:mg "abs"=none
 afE:mg "all"=none
 aef:mg "bool"=none
 ib:mg "enumerate"=none
 lG:mg "int"=none
 aw:mg "isinstance"=none
 j9:mg "len"=none
 zw:mg "list"=none
 zv:mg "max"=none
 bB:mg "range"=none
 alA:mg "set"=none
 oz:mg "sorted"=none
 aii:mg "str"=none
 eY:mg "tuple"=none
 alz:mg "zip"=none
 eL:mg "FloorError"=some (.ref D.br)qU:ExcAt K "FloorError" D.br
 zB:mg "NotEven"=some (.ref D.mj)aaE:ExcAt K "NotEven" D.mj
 acD:mg "NoCall"=some (.ref D.nH)adm:ExcAt K "NoCall" D.nH
 acC:mg "NoName"=some (.ref D.nG)adl:ExcAt K "NoName" D.nG
 sQ:mg "NoProgram"=some (.ref D.i3)tr:ExcAt K "NoProgram" D.i3
 zA:mg "TooMany"=some (.ref D.mi)aaD:ExcAt K "TooMany" D.mi
 lJ:mg "NoPairs"=some (.ref D.iv)lZ:ExcAt K "NoPairs" D.iv
 pF:pz K D.iv none
 afH:mg "NoRow"=some (.ref D.rB)af7:ExcAt K "NoRow" D.rB
 zC:mg "Blind"=some (.ref D.cf)tw:ExcAt K "Blind" D.cf
 aik:mg "Out"=some (.ref D.eE)af6:ExcAt K "Out" D.eE
 aeh:mg "Meet"=some (.ref D.cC)aaF:ExcAt K "Meet" D.cC
 acF:mg "Broken"=some (.ref D.nI)adn:ExcAt K "Broken" D.nI
 xs:ExcAll K
 aiV:∀nm C,ExcAt K nm C->("one":Str)∈WL.fieldsOf nm->W.findIn K (.ref C) "one"=some none/\W.hasDictIn K C=true
 adh:∀nm C,ExcAt K nm C->("other":Str)∈WL.fieldsOf nm->W.findIn K (.ref C) "other"=some none/\W.hasDictIn K C=true
 aiU:∀nm C,ExcAt K nm C->("who":Str)∈WL.fieldsOf nm->W.findIn K (.ref C) "who"=some none/\W.hasDictIn K C=true
 ajn:W.findIn K (.ref D.cf) "__init__"=some (some<|.ref D.iU)adb:∃fd,Fun K "__init__" "Blind.__init__" uO D.iU fd
 y1:pz K D.cf (some<|.ref D.iU)ab5:W.typeIn K (.ref D.iU)=some (.type "function")abw:(W.clsIn K D.cf).map (·.mro)=some (.ref D.cf::.ref D.br::fD)abv:W.hasDictIn K D.cf=true
 abu:W.findIn K (.ref D.cf) "__setattr__"=some (some<|.builtin "object.__setattr__")qE:W.findIn K (.ref D.cf) "who"=some none
 akg:W.findIn K (.ref D.cC) "__init__"=some (some<|.ref D.lT)af0:∃fd,Fun K "__init__" "Meet.__init__" yE D.lT fd
 ad2:pz K D.cC (some<|.ref D.lT)afe:W.typeIn K (.ref D.lT)=some (.type "function")aeB:(W.clsIn K D.cC).map (·.mro)=some (.ref D.cC::.ref D.br::fD)aeA:W.hasDictIn K D.cC=true
 aez:W.findIn K (.ref D.cC) "__setattr__"=some (some<|.builtin "object.__setattr__")sL:W.findIn K (.ref D.cC) "one"=some none
 oy:W.findIn K (.ref D.cC) "other"=some none
 amn:W.findIn K (.ref D.eE) "__init__"=some (some<|.ref D.qP)aiQ:∃fd,Fun K "__init__" "Out.__init__" adX D.qP fd
 ahz:pz K D.eE (some<|.ref D.qP)ahy:W.typeIn K (.ref D.qP)=some (.type "function")agH:(W.clsIn K D.eE).map (·.mro)=some (.ref D.eE::.ref D.br::fD)agG:W.hasDictIn K D.eE=true
 agF:W.findIn K (.ref D.eE) "__setattr__"=some (some<|.builtin "object.__setattr__")wX:W.findIn K (.ref D.eE) "who"=some none
 rd:W.readsIn K D.br (.type "type")=true
 rf:W.findCls K (.ref D.br) (.type "type") "__init__"=some (.val<|.builtin "ValueError.__init__")rs:W.specialIn K (.ref D.br) "__getattribute__"=some (some<|.builtin "type.__getattribute__")oD:mg "PairedFloor"=some (.ref D.aF)mB:Mk K D.aF D.eZ
 mD:∃fd,Fun K "__init__" "PairedFloor.__init__" gV D.eZ fd
 aA:Cls K D.aF
 dM:eF K D.aF "floor"bp:eF K D.aF "pairs"aN:eF K D.aF "middles"aH:W.nsIn K mainGlobals (Str.ofString "PairedFloor")=some (some<|.ref D.aF)fy:agA w K mg D.aF D.fm_PairedFloor_pair_sees "pair_sees" "PairedFloor.pair_sees" (mth 54 1) ["self","place","test","own","who"] 3bE:amj K D.aF D.fm_PairedFloor_pair_holds "pair_holds" "PairedFloor.pair_holds" cO
 e9:agA w K mg D.aF D.fm_PairedFloor_pair_steps "pair_steps" "PairedFloor.pair_steps" (mth 54 3) ["self","place","call","rule"] 3tN:AtF w K mg "_law_mixed" (top 59) ["_law_cell","_law_k","_law_number"] 2aaR:AtF w K mg "_law_far" (top 63) ["_law_cell"] 1o3:AtF w K mg "_law_cell_at" (top 58) ["_law_script","_law_k"] 2xB:AtF w K mg "_law_from" (top 60) ["_law_stand","_law_ahead","_law_right","_law_x","_law_y","_law_facing","_law_east","_law_north"] 3xD:AtF w K mg "_law_both" (top 61) ["_law_x","_law_y","_law_facing"] 3tQ:AtD K "_law_floor" kY
 xu:AtF w K mg "_law_test" (top 64) ["_law_number","_law_more","_law_word","_law_test_here","_law_a","_law_r","_law_what"] 1xx:AtF w K mg "_law_step" (top 65) ["_law_number","_law_many"] 1tL:AtF w K mg "_law_steps" (top 66) ["_law_cell","_law_k","_law_most","_law_number"] 3xC:AtF w K mg "_law_call" (top 67) ["_law_cell","_law_rules","_law_great","_law_many","_law_k","_law_count","_law_tests"] 1xA:AtF w K mg "_law_hand" (top 68) ["_law_floor_here","_law_dancer","_law_spot","_law_k"] 2qY:AtF w K mg "_law_middle" (top 70) ["_law_floor_here","_law_pair","_law_one","_law_other"] 2tM:AtF w K mg "_law_pairs" (top 69) ["_law_floor_here","_law_hands","_law_found","_law_first","_law_left","_law_right","_law_middles"] 1kd:AtF w K mg "_law_pair_asked" (top 71) ["_law_own","_law_middles","_law_test_here","_law_spot","_law_there"] 3l5:AtF w K mg "_law_one_holds" (top 72) ["_law_stand","_law_dancer","_law_word","_law_most"] 4kc:AtD K "_law_pair_holds" dI
 l4:AtF w K mg "_law_pair_rule" (top 76) ["_law_floor_here","_law_pair","_law_middles","_law_call_here","_law_tests","_law_steps_here"] 4l3:AtF w K mg "_law_pair_step" (top 74) ["_law_stand","_law_step_here","_law_word","_law_many","_law_ahead","_law_right"] 2kb:AtF w K mg "_law_pair_paths" (top 75) ["_law_middle_here","_law_steps_here","_law_paths","_law_found","_law_step_here","_law_stand","_law_two"] 2aaS:AtF w K mg "_law_due" (top 77) ["_law_floor_here","_law_call_here","_law_some","_law_middles","_law_paths","_law_pair","_law_steps_here","_law_two","_law_k","_law_stands","_law_one","_law_other"] 2tK:AtF w K mg "_law_whole" (top 79) ["_law_found"] 1xy:AtD K "_law_same" je
 aaP:AtF w K mg "spot_of" (top 21) ["stand"] 1adt:AtF w K mg "who_at" (top 25) ["floor","spot","dancer","stand"] 2tI:AtF w K mg "spot_from" (top 24) ["stand","ahead","right","step","east","north"] 3qW:AtF w K mg "right_hand" (top 48) ["floor","dancer","own","who"] 2mH:AtF w K mg "pairs_of_row" (top 50) ["row"] 1xn:AtF w K mg "row_from" (top 49) ["hands","first","row"] 2l6:AtF w K mg "first_meeting" (top 22) ["stands","one","other"] 1adv:AtF w K mg "beside" (top 51) ["stand","right","spot"] 2qX:AtF w K mg "middles_of" (top 52) ["floor","pairs"] 2xq:AtF w K mg "pairs_on" (top 53) ["floor","hands","pairs","dancer"] 1l2:AtF w K mg "turned_facing" (top 31) ["facing","way"] 2agb:AtF w K mg "looks" (top 38) ["own","stands","who","what"] 4xI:AtF w K mg "distance" (top 36) ["spot"] 1agd:AtF w K mg "drift" (top 37) ["stand","before","behind"] 1aaW:AtF w K mg "is_head" (top 34) ["dancer"] 1aaV:AtF w K mg "is_left" (top 35) ["dancer"] 1aaU:AtF w K mg "is_such" (top 40) ["dancer","word"] 2agc:AtF w K mg "holds" (top 41) ["floor","dancer","test","word"] 3mG:AtF w K mg "stand_behind" (top 44) ["stand","step","going","spot"] 2adu:AtF w K mg "way_of" (top 45) ["stand","steps","way","step"] 2aaO:AtF w K mg "widened" (top 55) ["step"] 1xH:AtF w K mg "floor_of" (top 23) ["stands","meeting"] 1xE:AtF w K mg "is_whole" (top 17) ["thing"] 1xG:AtF w K mg "is_place" (top 18) ["thing"] 1tS:AtF w K mg "is_facing" (top 19) ["thing"] 1xF:AtF w K mg "is_stand" (top 20) ["thing"] 1aaT:AtF w K mg "kept_in" (top 46) ["told","dancer","way"] 1jz:AtF w K mg "danced_by_pairs" (top 56) ["floor","call","paired","steps","told","place","pair","way"] 2tR:AtF w K mg "_law_class" (top 78) ["_law_e","_law_kinds","_law_others"] 1xt:AtF w K mg "_law_told" (top 81) ["_law_floor_here","_law_call_here","_law_found","_law_e"] 2al6:AtD K "law" ae7
variable{P:Program}{w:World}{K:W.Frag}{mg:Str->Option Value}{base:Heap}{D:Ad}
noncomputable abbrev tp0:Array Value:=#[rawInt ((231:Nat):Int),rawInt ((38:Nat):Int),.str (("_law_floor":Str)++".<locals>."++"<lambda>") 0]
variable(T:Txt w K mg D)
include T
theorem nT:∀F k u,WL.o5 k [.str "same",.str "left",.str "about",.str "right"] [.int 0,.int 1,.int 2,.int 3]=some u->∃v,List.lookup k [(("same":Str),(.int 0:V)),(("left":Str),(.int 1:V)),(("about":Str),(.int 2:V)),(("right":Str),(.int 3:V))]=some v/\RW K F u v:=λF=>gu (by simp[RW]) (gu (by simp[RW])<|gu (by simp[RW])<|gu (by simp[RW]) aeq)
theorem abM:∀F k u,WL.o5 k [.str "ahead",.str "back",.str "left",.str "right"] [.tup [.int 1,.int 0],.tup [.int<|-1,.int 0],.tup [.int 0,.int<|-1],.tup [.int 0,.int 1]]=some u->∃v,List.lookup k [(("ahead":Str),(.ref D.jH:V)),(("back":Str),(.ref D.jG:V)),(("left":Str),(.ref D.jF:V)),(("right":Str),(.ref D.jE:V))]=some v/\RW K F u v:=λF=>gu (by simp only[RW,RWs];exact⟨_,_,rfl,T.wt F,⟨_,_,rfl,rfl,⟨_,_,rfl,rfl,rfl⟩⟩⟩) (gu (by simp only[RW,RWs];exact⟨_,_,rfl,T.wq F,⟨_,_,rfl,rfl,⟨_,_,rfl,rfl,rfl⟩⟩⟩)<|gu (by simp only[RW,RWs];exact⟨_,_,rfl,T.wo F,⟨_,_,rfl,rfl,⟨_,_,rfl,rfl,rfl⟩⟩⟩)<|gu (by simp only[RW,RWs];exact⟨_,_,rfl,T.wm F,⟨_,_,rfl,rfl,⟨_,_,rfl,rfl,rfl⟩⟩⟩) aeq)
theorem ab4:ExcS K D.cf:=tj T.xs T.tw T.abw T.abv T.abu
theorem oq:ajj P w K mg base D.iU ["self","who"] (spI D.cf ["who"]):=sV T.adb (λ_ _ _ _ _ _ c e=>rz (λ_ _=>rfl) c e) λh d=>vr d yK (by decide) (λ_ _ _ b f=>all_cons (m5<|by decide)<|all_cons (u6 b f) all_nil) λg A a s H E r=>dq (eh<|om (by rfl) T.eL T.rd T.rf T.rs T.y1<|aU (pv 0)<|aU (oj<|.cons jS<|.cons (u3<|pv 1) .nil) bY)<|hX<|afk (ab4 T) T.qE (pv 0) (pv 1) rfl
theorem y0:ExcS K D.cC:=tj T.xs T.aaF T.aeB T.aeA T.aez
theorem qA:ajj P w K mg base D.lT ["self","one","other"] (spI D.cC ["one","other"]):=sV T.af0 (λ_ _ _ _ _ _ b c=>abd (λ_ _ _=>rfl) b c) λj f=>ac2 f abY (by decide) (by decide) (λ_ _ _ _ e i d g=>all_cons (m5<|by decide)<|all_cons (u6 e d)<|all_cons (m5<|by decide)<|all_cons (u6 i g)<|all_cons (m5<|by decide) all_nil) λh A a s H E r=>dq (eh<|om (by rfl) T.eL T.rd T.rf T.rs T.ad2<|aU (pv 0)<|aU (oj<|.cons jS<|.cons (u3<|pv 1)<|.cons jS<|.cons (u3<|pv 2)<|.cons jS .nil) bY)<|dq (afk (y0 T) T.sL (pv 0) (pv 1) rfl)<|hX<|ak3 (y0 T) T.oy (pv 0) (pv 2) rfl
theorem ahx:ExcS K D.eE:=tj T.xs T.af6 T.agH T.agG T.agF
theorem sD:ajj P w K mg base D.qP ["self","who"] (spI D.eE ["who"]):=sV T.aiQ (λ_ _ _ _ _ _ c e=>rz (λ_ _=>rfl) c e) λh d=>vr d ae5 (by decide) (λ_ _ _ b f=>all_cons (m5<|by decide)<|all_cons (u6 b f)<|all_cons (m5<|by decide) all_nil) λg A a s H E r=>dq (eh<|om (by rfl) T.eL T.rd T.rf T.rs T.ahz<|aU (pv 0)<|aU (oj<|.cons jS<|.cons (u3<|pv 1)<|.cons jS .nil) bY)<|hX<|afk (ahx T) T.wX (pv 0) (pv 1) rfl
def aT:=T.tN.dN P base 0 hE λb s r u c p d=>ag (wS 2 d<|wmo (aJ aI w_mul (wad s (wad s (wad s (wmo v0 af)<|aJ aI w_mul (aJ aI w_mul af v1) v1) v1) af) af) af)<|wr<|wmo (aJ aI w_mul v2 v2) af
def wN:=T.aaR.dN P base 1 kM λb s r u c p d=>wr<|wx b (aY<|ae af<|ae af<|ae af<|ae af<|wa1<|g7 bR g8 af)<|wmo (cl b r (aT T)<|ae v0<|wa1 af) af
def gX:=T.o3.dN P base 0 fE λb s r u c p d=>ag (wi1 (bo jC w_lt v1 (wln s T.j9 v0)<|bG _)<|wr<|wx b v0 v1)<|wr af
def cD:=T.xB.dN P base 40 mS λb s r u c p d=>ag (kA v0 (gR s (cm r) (aV (gN 3 d)<|aV (gN 4 d)<|aV (gN 5 d) eR) rfl (bx<|bx<|bx g6) cI)<|qO cI)<|ag (kA (wx b (aY<|ae (aQ<|ae af<|wa1 af)<|ae (aQ<|ae (g7 bR g8 af)<|wa1 af)<|ae (aQ<|ae af<|wa1<|g7 bR g8 af)<|wa1<|aQ<|ae af<|wa1 af)<|va 5) (gR s (cm r) (aV (gN 6 d)<|aV (gN 7 d) eR) rfl (bx<|bx g6) cI)<|qO cI)<|wr<|aQ<|ae (wad s (wad s v3<|aJ aI w_mul v1<|va 6)<|aJ aI w_mul v2<|va 7)<|wa1<|aJ bD w_sub (wad s v4<|aJ aI w_mul v1<|va 7)<|aJ aI w_mul v2<|va 6
def hZ:=T.xD.dN P base 41 mT λb s r u c p d=>wr<|aY<|ae (wad s (cl b r (cD T)<|ae (aQ<|ae v0<|ae v1<|wa1 v2)<|ae af<|wa1<|g7 bR g8 af)<|aQ<|wa1 v2)<|wa1<|wad s (cl b r (cD T)<|ae (aQ<|ae v0<|ae v1<|wa1 v2)<|ae af<|wa1 af)<|aQ<|wa1 v2
theorem qw(a:BmA mg base)(d:W.CodeHd base D.tc D.tP):Cal P w K mg base CX0 43 "_law_floor" ["_law_cell","_law_far_here"] [] (aeW D.tP tp0<|spW K 2 il):=T.tQ.dTb T.mgA T.tab hG az λe f b r c p=>(ag (wS 2 az.nd<|abG (x:="_law_k") (y:="_law_cell") (k:=39) (iy:=0) (ps:=tp0) (t:=0) b (cm r) r f (λz=>nomatch e.symm.trans z) ⟨rfl,d,a⟩ rfl T.oz T.bB (zT rfl rfl rfl (by decide) rfl rfl<|by decide+kernel) rfl rfl rfl rfl (Or.inl rfl) rfl (Or.inr<|Or.inl rfl) (λb r=>aQ<|ae (cl b r (aT T)<|ae v1<|wa1<|wad b.symm af v0)<|wa1 v0) (λ_ _ _ _=>rfl) (by decide)<|by decide)<|ag (wS 3 az.nd<|aY aM)<|ag (yb (i:=4) az.nd rfl<|Or.inr rfl)<|ag (wS 5 az.nd<|cl b r (aT T)<|ae v0<|wa1 af)<|ag (cu p (cm r) (bW (by rfl) T.bB af) (gN 6 az.nd)<|show PSs _ _ (loS _ K52.dZ)from(ag (wS 7 az.nd<|cl b r (aT T)<|ae v0<|wa1<|wad b.symm af<|va 6)<|ag (wS 8 az.nd<|wad b.symm (wad b.symm (aJ bD w_sub (aJ aI w_mul (wmo (va 7) af) af) af)<|aJ aK w_div (wmo (aJ aK w_div (va 7) af) af) af) v1)<|ag (wS 9 az.nd<|aJ bD w_sub (aJ bD w_sub (wmo (aJ aK w_div (va 7) af) af) af) v1)<|ag (wS 10 az.nd<|wx b (aY<|ae (wmo (aJ aK w_div (va 7) af) af)<|ae af<|wa1<|aJ aI w_mul (wmo (aJ aK w_div (va 7) af) af) af)<|wmo (aJ aK w_div (va 7) af) af)<|ag (wi1 (we2 b r.units (wmo (va 5) af) af)<|ag (wS 10 az.nd<|wmo (aJ aK w_div (va 5) af) af)<|au<|kA (cl b r (cD T)<|ae (aQ<|ae v1<|ae (aJ bD w_sub af v1)<|wa1<|va 10)<|ae af<|wa1<|aJ bD w_sub (aJ aI w_mul af<|va 6) af) (gR b.symm (cm r) (aV (gN 8 az.nd)<|aV (gN 9 az.nd) eR) rfl (bx<|bx g6) cI)<|qO cI)<|ag (wS 11 az.nd<|cl b r (hZ T)<|ae (va 8)<|ae (va 9)<|wa1<|va 10)<|ag (nN p (show PT _ _ (loT _ K52.dW)from PW.pt<|vY (bo dm (v9 b.symm r.units) (i9 (v8 b.symm) (wx b (va 11) af) dE<|cS af) v3<|by rfl)<|pG<|bo dm (v9 b.symm r.units) (i9 (v8 b.symm) (wx b (va 11) af) dE<|cS af) v3<|by rfl)<|show PSs _ _ (loS _ K52.dY)from ag (wS 9 az.nd<|wad b.symm (va 9)<|wx b (aY<|ae af<|wa1<|g7 bR g8 af)<|wT dc iA T.lG ap0<|wa1<|iz jC w_lt v1 af<|bG _)<|au<|wS 11 az.nd<|cl b r (hZ T)<|ae (va 8)<|ae (va 9)<|wa1<|wx b (wx b (va 11) af) af)<|ag (wS 3 az.nd<|wad b.symm v3<|aY<|ae (i9 (v8 b.symm) (wx b (va 11) af) dE<|cS af)<|wa1<|i9 (v8 b.symm) (wx b (va 11) af) dE<|cS af)<|ag (kz (i:=4) (un1 r.units) (pv 4) (wx b v2<|aJ aI w_mul af<|va 6)<|wx b (va 11) af)<|au<|kz (i:=4) (un1 r.units) (pv 4) (wx b v2<|wad b.symm (aJ aI w_mul af<|va 6) af)<|wx b (va 11) af))<|ag (wS 12 az.nd<|cl b r (aT T)<|ae v0<|wa1 af)<|ag (wi1 (we2 b r.units (wmo (va 12) af) af)<|ag (kA (pJ (i:=4)<|wxD b v4<|wmo (aJ aK w_div (va 12) af) af) (gR b.symm (cm r) (aV (gN 8 az.nd)<|aV (gN 9 az.nd)<|aV (gN 10 az.nd) eR) rfl (bx<|bx<|bx g6) cI)<|qO cI)<|au<|kz (i:=4) (un1 r.units) (pv 4) (wmo (aJ aK w_div (va 12) af) af)<|aQ<|ae (va 8)<|ae (va 9)<|wa1<|wmo (wad b.symm (wad b.symm (va 10) af)<|wmo (aJ aK w_div (va 12) af) af) af)<|au<|jJ (i:=4)<|cR<|wT fq (kC b.symm) T.eY apL<|wa1<|wco "_law_k" (cm r) (bW (by rfl) T.bB af) λ_ _ _ _=>wxD b (va 5) v0)
def sr:=T.xu.dN P base 0 gC λb s r u c p d=>ag (wS 1 d<|aJ aK w_div v0 af)<|ag (wS 2 d<|wx b (aY<|ae ar<|ae ar<|ae ar<|ae ar<|ae ar<|ae ar<|wa1 ar)<|wmo v1 af)<|ag (wS 3 d<|aQ<|wa1 v2)<|ag (i8 (bo l9 ajq (wmo v0 af) af<|bG _) (ag (wS 4 d<|aJ bD w_sub (wmo v1 af) af)<|ag (wS 5 d<|aJ bD w_sub (wmo (aJ aK w_div v1 af) af) af)<|ag (wi1 (we2 b u (wmo (aJ aK w_div v1 af) af) af)<|au<|wS 4 d<|aJ bD w_sub (wmo (aJ aK w_div v1 af) af) af)<|ag (wi1 (we2 b u (wmo (aJ aK w_div v1 af) af) af)<|au<|wS 5 d<|aJ bD w_sub (wmo (aJ aK w_div v1 af) af) af)<|ag (wi1 (PW.pt<|uh (we2 b u v4 af)<|nM<|we2 b u (va 5) af)<|au<|wS 5 d af)<|ag (wS 6 d<|wx b (aY<|ae ar<|ae ar<|ae ar<|ae ar<|ae ar<|ae ar<|ae ar<|wa1 ar)<|wmo (aJ aK w_div v1 af) af)<|au<|wS 3 d<|aQ<|ae ar<|ae v4<|ae (va 5)<|wa1<|va 6)<|au<|wi1 (we2 b u (wmo v0 af) af)<|au<|wS 3 d<|aQ<|ae ar<|wa1<|wx b (aY<|ae af<|ae af<|ae af<|wa1<|wmo (aJ aK w_div v1 af) af)<|wmo v1 af)<|ag (wi1 (we2 b u (wmo (aJ aK w_div v0 af) af) af)<|wr<|aQ<|ae ar<|wa1 v3)<|wr v3
def su:=T.xx.dN P base 0 mP λb s r u c p d=>ag (wS 1 d<|wad s af<|wmo (aJ aK w_div v0 af)<|wx b (aY<|ae af<|ae af<|ae af<|wa1 af)<|wmo (aJ aK w_div v0 af) af)<|ag (wi1 (bo l9 ajq (wmo v0 af) af<|bG _)<|wr<|aQ<|ae ar<|wa1<|wx b (aY<|ae ar<|ae ar<|wa1 ar)<|wmo (aJ aK w_div v0 af) af)<|wr<|aQ<|ae (wx b (aY<|ae ar<|ae ar<|ae ar<|ae ar<|ae ar<|wa1 ar)<|wmo v0 af)<|wa1 v1
def qu:=T.tL.dN P base 40 kK λb s r u c p d=>ag (wS 3 d<|cl b r (aT T)<|ae v0<|wa1<|wad s af v1) (ag (wi1 (we2 b u (wmo v3 af) af)<|wr<|aQ<|wa1<|aQ<|wa1 ar)<|wr<|wT fq (kC s) T.eY apL<|wa1<|wco "_law_j" (cm r) (bW (by rfl) T.bB<|wad s af<|wmo (aJ aK w_div v3 af) v2) λ_ _ _ _=>cl b r (su T)<|wa1<|cl b r (aT T)<|ae v1<|wa1<|wad s (wad s af<|aJ aI w_mul af v2) v0)
def sA:=T.xC.dN P base 41 jc λb s r u c p d=>(ag (i6 (i:=1) d rfl (Or.inl rfl)<|mK aM)<|ag (wS 2 d<|wT dc iA T.lG ap0<|wa1<|weq s u (wmo (cl b r (aT T)<|ae v0<|wa1 af) af) af)<|ag (wS 3 d<|wad s af<|wmo (cl b r (aT T)<|ae v0<|wa1 af)<|wx b (aY<|ae af<|wa1 af) v2)<|ag (cu p (cm r) (bW (by rfl) T.bB v3) (gN 4 d)<|show PSs _ _ (loS _ K52.eN)from ag (wS 5 d<|wmo (cl b r (aT T)<|ae v0<|wa1<|wad s af v4)<|wx b (aY<|ae af<|wa1 af) v2)<|ag (wi1 (PW.pt<|uh (we2 b u (wad s v4 af) v3)<|nM<|bo l9 ajq (wmo (cl b r (aT T)<|ae v0<|wa1 af) af) af<|bG _)<|au<|wS 5 d af)<|ag (wS 6 d<|wT fq (kC s) T.eY apL<|wa1<|wco "_law_j" (cm r) (bW (by rfl) T.bB<|va 5) λ_ _ _ _=>cl b r (sr T)<|wa1<|cl b r (aT T)<|ae v1<|wa1<|wad s (wad s af<|aJ aI w_mul af<|va 5) v0)<|au<|pH s<|eh<|mr aoL ao3 ao4 et (pv 1)<|aU (aQ<|ae (va 6)<|wa1<|cl b r (qu T)<|ae v0<|ae v4<|wa1<|wx b (aY<|ae af<|wa1 af) v2) bY)<|au<|jJ (i:=1)<|cR v1)
def sy:=T.xA.dN P base 41 mR λb s r u c p d=>ag (wS 2 d<|cl b r (cD T)<|ae (wx b v0 v1)<|ae af<|wa1 af) (ag (cu p (cm r) (bW (by rfl) T.bB af) (gN 3 d)<|show PSs _ _ (loS _ K52.gp)from au<|wi1 (PW.pt<|uh (we2 b u (i9 (v8 s) (wx b v0 v3) dE<|cS af) v2)<|nM<|we2 b u (wx b (wx b v0 v3) af)<|wx b (wx b v0 v1) af)<|wr v3)<|wr dv)
def dV:=T.qY.dN P base 0 jN λb s r u c p d=>ag (wS 2 d<|wx b v0<|wx b v1 af)<|ag (wS 3 d<|wx b v0<|wx b v1 af)<|wr<|aQ<|ae (aJ aK w_div (wad s (wx b v2 af)<|wx b v3 af) af)<|ae (aJ aK w_div (wad s (wx b v2 af)<|wx b v3 af) af)<|wa1<|wx b v2 af
def qv:=T.tM.dN P base 42 kL λb s r u c p d=>(ag (i7 (i:=1) d rfl rfl (by rfl) (ts:=["_law_k"]) ⟨rfl,rfl,rfl,rfl,rfl⟩ (cm r) rfl (bt<|by decide) (bW (by rfl) T.bB af) (λ_ _ _ _=>gN 0) (λ_ _ _ _=>gS) λ_ _ _ _=>cl b r (sy T)<|ae v1<|wa1 v0)<|ag (i6 (i:=2) d rfl (Or.inl rfl)<|mK aM)<|ag (cu p (cm r) (bW (by rfl) T.bB af) (gN 3 d)<|show PSs _ _ (loS _ K52.bM)from au<|wi1 (bo nB (yn s u) v3 v1<|by rfl)<|ag (wS 4 d v3)<|au<|nN p (show PT _ _ (loT _ K52.bK)from bo ft kD v4 dv<|bG _)<|show PSs _ _ (loS _ K52.bL)from ag (wS 5 d<|wx b v1 v4)<|ag (wi1 (bo pa w_is (va 5) dv<|bG _)<|wr dv)<|ag (pH s<|eh<|mr aoL ao3 ao4 et (pv 2)<|aU (aQ<|ae v4<|wa1<|va 5) bY)<|au<|wS 4 d<|wx b v1<|va 5)<|ag (jJ (i:=2)<|i7 (i:=6) d rfl rfl (by rfl) (ts:=["_law_pair"]) ⟨rfl,rfl,rfl,rfl,rfl⟩ (cm r) rfl (bt<|by decide) (cw s v2) (λ_ _ _ _=>gN 0) (λ_ _ _ _=>gS) λ_ _ _ _=>i9 (v8 s) (cl b r (dV T)<|ae v1<|wa1 v0) dE<|cS af)<|ag (wi1 (bo jC w_lt (yf b (cm r) u T.j9 T.alA<|va 6) (wln s T.j9<|va 6)<|bG _)<|wr dv)<|au<|jJ (i:=2)<|cR<|wB nA (ym s) T.oz boot_sorted<|wa1 v2)
def jn:=T.kd.dN P base 41 dG λb s r u c p d=>(ag (wS 3 d<|cl b r (cD T)<|ae v0<|ae (wx b v2 af)<|wa1<|aJ aI w_mul af<|wx b v2 af)<|ag (i7 (i:=4) d rfl rfl (by rfl) (ts:=["_law_middle_here"]) ⟨rfl,rfl,rfl,rfl,rfl⟩ (cm r) rfl (bt<|by decide) (cw s v1) (λ_ _ _ _=>gN 0) (λ_ _ _ _=>ye<|we2 b u (i9 (v8 s) v0 dE<|cS af) v4) λ_ _ _ _=>wx b v0 af)<|ag (wi1 (bo dm (v9 s u) (wx b v2 af) (aQ<|ae ar<|wa1 ar)<|by rfl)<|wr<|weq s u (weq s u v4<|aY aM)<|weq s u (wx b v2 af) ar)<|ag (wi1 (PW.pt<|vY (we2 b u v4<|aY aM)<|pG<|bo dm (v9 s u) (wx b v2 af) (aQ<|ae ar<|wa1 ar)<|by rfl)<|wr nS)<|wr<|weq s u (wmo (aJ bD w_sub (wx b v4 af)<|wx b v0 af) af)<|ui s u (aY<|ae ar<|ae ar<|ae ar<|wa1 ar)<|wa1<|wx b v2 af)
def j8:=T.l5.dN P base 40 gf λb s r u c p d=>ag (wi1 (we2 b u v2 ar)<|wr<|iz jD agX (wB gw (pL<|cm r) T.zv boot_max<|ae (wB du mn T.mz ap8<|wa1<|wx b v0 af)<|wa1<|wB du mn T.mz ap8<|wa1<|wx b v0 af) v3<|bG _) (ag (wi1 (bo dm (v9 s u) v2 (aQ<|ae ar<|wa1 ar)<|by rfl)<|wr<|weq s u (wmo (aJ aK w_div v1 af) af)<|wT dc iA T.lG ap0<|wa1<|weq s u v2 ar)<|wr<|weq s u (wmo v1 af)<|wT dc iA T.lG ap0<|wa1<|weq s u v2 ar)
theorem eK{f:Addr}{g:FuncData}(d:Fun K "_law_pair_holds" "_law_pair_holds" dI f g)(j:mg "_law_pair_holds"=some (.ref f))(h:Binds K g ["_law_floor_here","_law_pair","_law_middles","_law_test_here"] []):∀n:Nat,FnOk P w K mg base CX0 (42+n) f g ["_law_floor_here","_law_pair","_law_middles","_law_test_here"]<|spW K 4<|aP n|0=>aaK d aR rfl|n+1=>have a:=eK d j h n;tE (cz<|aP n) d aR rfl rfl rfl (by decide) λk A e s H E B b r c p=>(ag (i8 (we2 b r.units (wx b v3 af) ar) (au<|cR<|um<|rN b.symm a (r.mono<|aob _) (by rfl) j d.kp h (ae v0<|ae v1<|ae v2<|ae (wx b v3 af) aM)<|de<|de<|de<|de i2) dD)<|ag (wS 4 aR.nd<|cl b r (dV T) (ae v0<|ae v1 aM)<|aoh (by decide)<|aoP _ _)<|ag (i8 (we2 b r.units (wx b v3 af) ar) (au<|cR<|cl b r (jn T) (ae v4<|ae v2<|ae v3 aM)<|aoh (by decide)<|aoP _ _) dD)<|ag (i8 (bo dm (v9 b.symm r.units) (wx b v3 af) (aQ<|ae ar<|ae ar<|ae ar aM)<|by rfl) (ag (kA (cl b r (cD T) (ae v4<|ae af<|ae af aM)<|aoh (by decide)<|aoP _ _) (gR b.symm (cm r) (aV (gN 5 aR.nd)<|aV (gN 6 aR.nd) eR) rfl (bx<|bx g6) cI)<|qO cI)<|ag (wS 7 aR.nd<|aJ bD w_sub (wB gw (pL<|cm r) T.zv boot_max<|ae (wB du mn T.mz ap8<|ae (va 5) aM)<|ae (wB du mn T.mz ap8<|ae (va 6) aM) aM)<|wB gw (pL<|cm r) T.zv boot_max<|ae (wB du mn T.mz ap8<|ae (wx b v4 af) aM)<|ae (wB du mn T.mz ap8<|ae (wx b v4 af) aM) aM)<|au<|cR<|iz calm_eq (w_eq b.symm r.units) (va 7) (wx b (agT<|rO ar (g7 bR g8 af)<|rO ar af<|rO ar af agW)<|wx b v3 af)<|bG _) dD)<|ag (wS 8 aR.nd<|wx b v3<|g7 bR g8 af)<|ag (i7 (i:=9) aR.nd rfl rfl (by rfl) (ts:=["_law_dancer"]) ⟨rfl,rfl,rfl,rfl,rfl⟩ (cm r) rfl (bt<|by decide) (cw b.symm v1) (λ_ _ _ _=>gN 0) (λ_ _ _ _=>gS) λ_ _ _ _=>cl b r (j8 T) (ae (wx b v1 v0)<|ae v0<|ae (wx b v4 af)<|ae (va 9) aM)<|aoh (by decide)<|aoP _ _)<|au<|cR<|iz calm_eq (w_eq b.symm r.units) (va 9) (aY<|ae nS<|ae nS aM)<|bG _)
theorem jm:Cal P w K mg base CX0 45 "_law_pair_holds" ["_law_floor_here","_law_pair","_law_middles","_law_test_here"] [] (spW K 4<|aP 3):=T.kc.ank T.mgA (λ_ _ _ _ _ _ b a=>adB (λ_ _ _ _=>rfl) b a) λ_ _ e c d=>eK T e c d 3
def j7:=T.l4.dN P base 45 gc λb s r u c p d=>(ag (cu p (cm r) (cw s v3) (gR s (cm r) (aV (gN 4 d)<|aV (gN 5 d) eR) rfl (bx<|bx g6) cI)<|show PSs _ _ (loS _ K52.cj)from(au<|wi1 (we2 b u (nR (ts:=["_law_test_here"]) ⟨rfl,rfl,rfl,rfl,rfl⟩ (cm r) rfl (bt<|by decide) (cw s v4) (λ_ _ _ _=>gN 0) (λ_ _ _ _=>ye<|mJ<|fQ<|cl b r (jm T)<|ae v1<|ae v2<|ae v3<|wa1 v0) λ_ _ _ _=>v0)<|aY aM)<|wr<|va 5))<|wr dv)
def j6:=T.l3.dN P base 41 gb λb s r u c p d=>ag (wS 2 d<|wx b v1 af)<|ag (wi1 (we2 b u v2 ar)<|wr<|wad s (i9 (v8 s) v0 dE<|cS af)<|aQ<|wa1<|wmo (wad s (wx b v0 af)<|ui s u (aY<|ae ar<|ae ar<|ae ar<|wa1 ar)<|wa1<|wx b v1 af) af)<|ag (wS 3 d<|wx b v1 af)<|ag (wS 4 d<|aJ aI w_mul v3<|aJ bD w_sub (wT dc iA T.lG ap0<|wa1<|weq s u v2 ar)<|wT dc iA T.lG ap0<|wa1<|weq s u v2 ar)<|ag (wS 5 d<|aJ aI w_mul (aJ aI w_mul af v3)<|aJ bD w_sub (wT dc iA T.lG ap0<|wa1<|weq s u v2 ar)<|wT dc iA T.lG ap0<|wa1<|weq s u v2 ar)<|wr<|wad s (cl b r (cD T)<|ae v0<|ae v4<|wa1<|va 5)<|i9 (v8 s) v0 (cS af) dE
def jl:=T.kb.dN P base 42 dF λb s r u c p d=>(aeD (j:=2) b c (uX d rfl (Or.inl rfl)<|qp<|aU (qp bY)<|aU (qp bY) bY) λB b c=>(rJ (rK b c λB b c=>(i6 (i:=3) d rfl (Or.inl rfl)<|mK<|wa1 v0))<|rJ (rK b c λB b c=>(cu p (cm r) (cw b.symm v1) (gN 4 d)<|show PSs _ _ (loS _ K52.bc)from(au<|wi1 (wn2 b u v4<|aQ<|wa1 ar)<|au<|pH b.symm<|eh<|mr aoL ao3 ao4 et (pv 3)<|aU (pJ (i:=3)<|cl b r (j6 T)<|ae (wx b v3<|g7 bR g8 af)<|wa1 v4) bY)))<|rJ (agJ (i:=3)<|aeC b p (cm r) (λB b=>cw b.symm v3) (zd d rfl<|Or.inl rfl)<|show PSs _ _ (loX _ _ K52.bb)from(adK (rK b c λB b c=>wS 6 d<|cl b r (hZ T)<|ae (wx b (va 5) af)<|ae (wx b (va 5) af)<|wa1<|wx b (va 5) af)<|adK (x3 (j:=2) false b λB b=>eh<|mr aoL ao3 ao4 et (wx b v2 af)<|aU (wx b (va 6) af) bY)<|agI<|x3 (j:=2) true b λB b=>eh<|mr aoL ao3 ao4 et (wx b v2 af)<|aU (wx b (va 6) af) bY))<|abz (j:=2)<|ad3 v2))
def wO:=T.aaS.dN P base 46 pU λb s r u c p d=>(ag (wS 2 d<|cl b r (qv T)<|wa1 v0)<|ag (wi1 (bo pa w_is v2 dv<|bG _)<|wr<|aY<|wa1 ar)<|ag (i7 (i:=3) d rfl rfl (by rfl) (ts:=["_law_pair"]) ⟨rfl,rfl,rfl,rfl,rfl⟩ (cm r) rfl (bt<|by decide) (cw s v2) (λ_ _ _ _=>gN 0) (λ_ _ _ _=>gS) λ_ _ _ _=>cl b r (dV T)<|ae v1<|wa1 v0)<|ag (yb (i:=4) d rfl<|Or.inr rfl)<|ag (cu p (cm r) (cw s v2) (gN 5 d)<|show PSs _ _ (loS _ K52.bN)from(ag (wS 6 d<|cl b r (j7 T)<|ae v0<|ae (va 5)<|ae v3<|wa1 v1)<|ag (wi1 (bo pa w_is (va 6) dv<|bG _)<|wr<|aY<|ae ar<|wa1<|wx b (va 5) af)<|ag (wS 7 d<|cl b r (jl T)<|ae (cl b r (dV T)<|ae v0<|wa1<|va 5)<|wa1<|va 6)<|ag (kz (i:=4) (un1 u) (pv 4) (wx b (va 5) af)<|wx b (va 7) af)<|au<|kz (i:=4) (un1 u) (pv 4) (wx b (va 5) af)<|wx b (va 7) af))<|ag (cu p (cm r) (bW (by rfl) T.bB af) (gN 8 d)<|show PSs _ _ (loS _ K52.fM)from(au<|wi1 (x8 (i:=4)<|wn2 b u (nR (ts:=["_law_one"]) ⟨rfl,rfl,rfl,rfl,rfl⟩ (cm r) rfl (bt<|by decide) (cw s<|wxD b v4<|va 8) (λ_ _ _ _=>gN 0) (λ_ _ _ _=>ye<|bo l9 ajq (wB gw (pL<|cm r) T.zv boot_max<|ae (wB du mn T.mz ap8<|wa1<|wx b v0 af)<|wa1<|wB du mn T.mz ap8<|wa1<|wx b v0 af) af<|bG _) λ_ _ _ _=>v0)<|aY aM)<|wr<|aY<|ae ar<|wa1<|va 8))<|ag (wS 9 d<|pJ (i:=4)<|wT fq (kC s) T.eY apL<|wa1<|wco "_law_k" (cm r) (bW (by rfl) T.bB af) λ_ _ _ _=>wx b (wxD b (va 5) v0)<|g7 bR g8 af)<|ag (cu p (cm r) (bW (by rfl) T.bB af) (gN 10 d)<|show PSs _ _ (loS _ K52.cF)from au<|cu p (cm r) (yc (by rfl) T.bB (wad s (va 10) af) af) (gN 11 d)<|show PSs _ _ (loS _ K52.fL)from au<|wi1 (we2 b u (i9 (v8 s) (wx b (va 9)<|va 10) dE<|cS af)<|i9 (v8 s) (wx b (va 9)<|va 11) dE<|cS af)<|wr<|aY<|ae ar<|ae (va 10)<|wa1<|va 11)<|wr<|va 9)
def qt:=T.tK.dN P base 0 kJ λb s r u c p d=>wr<|jK (wB bh (cy s) T.aw aot<|ae v0<|wa1<|wty T.lG ap0)<|kB<|um<|wB bh (cy s) T.aw aot<|ae v0<|wa1<|wty T.aef boot_bool
theorem jU{f:Addr}{g:FuncData}(d:Fun K "_law_same" "_law_same" je f g)(i:mg "_law_same"=some (.ref f))(h:Binds K g ["_law_found","_law_due_here"] []):∀n:Nat,FnOk P w K mg base CX0 (40+n) f g ["_law_found","_law_due_here"]<|spW K 2<|aO n|0=>aaK d fG rfl|n+1=>have a:=jU d i h n;tE (mQ<|aO n) d fG rfl rfl rfl (by decide) λj A e s H E B b r c p=>(ag (i8 (fQ<|wB q9 (yp b.symm) T.aw aot<|ae v1<|ae (aQ<|ae (wty T.zw boot_list)<|ae (wty T.eY apL) aM) aM) (ag (i8 (PW.pt<|vY (wn2 b r.units (wB bh (cy b.symm) T.aw aot<|ae v0<|ae (wty T.zw boot_list) aM)<|wB bh (cy b.symm) T.aw aot<|ae v1<|ae (wty T.zw boot_list) aM)<|pG<|wn2 b r.units (wB bh (cy b.symm) T.aw aot<|ae v0<|ae (wty T.eY apL) aM)<|wB bh (cy b.symm) T.aw aot<|ae v1<|ae (wty T.eY apL) aM) f6 dD)<|ag (i8 (wn2 b r.units (wB o6 (aeM b.symm) T.j9 aqM<|ae v0 aM)<|wB o6 (aeM b.symm) T.j9 aqM<|ae v1 aM) f6 dD)<|ag (cu p (cm r) (agO b.symm (by rfl) T.alz v0 v1) (gR b.symm (cm r) (aV (gN 2 fG.nd)<|aV (gN 3 fG.nd) eR) rfl (bx<|bx g6) cI)<|show PSs _ _ (loS _<|K52.eM<|K52.aO n)from au<|i8 (mJ<|fQ<|rN b.symm a (r.mono<|aob _) (by rfl) i d.kp h (ae v2<|ae v3 aM)<|de<|de i2) f6 dD)<|au<|cR nS) dD)<|ag (i8 (fQ<|wB bh (cy b.symm) T.aw aot<|ae v1<|ae (wty T.aii boot_str) aM) (au<|cR<|jK (wB bh (cy b.symm) T.aw aot<|ae v0<|ae (wty T.aii boot_str) aM)<|kB<|iz calm_eq (w_eq b.symm r.units) v0 v1<|bG _) dD)<|au<|cR<|jK (cl b r (qt T) (ae v0 aM)<|aoh (by decide)<|aoP _ _)<|kB<|iz calm_eq (w_eq b.symm r.units) v0 v1<|bG _)
theorem sx:Cal P w K mg base CX0 43 "_law_same" ["_law_found","_law_due_here"] [] (spW K 2<|aO 3):=T.xy.ank T.mgA (λ_ _ _ _ _ _ b a=>rz (λ_ _=>rfl) b a) λ_ _ e c d=>jU T e c d 3
def fc:=T.aaP.dN P base 0 pT λb s r u c p d=>wr<|aQ<|ae (wx b v0 af)<|wa1<|wx b v0 af
def qr:=T.adt.dN P base 40 uE λb s r u c p d=>ag (cu p (cm r) (rL s (by rfl) T.ib v0) (gR s (cm r) (aV (gN 2 d)<|aV (gN 3 d) eR) rfl (bx<|bx g6) cI)<|show PSs _ _ (loS _ K52.fh)from au<|wi1 (we2 b u (cl b r (fc T)<|wa1 v3) v1)<|wr v2)<|wr dv
def dw:=T.tI.dN P base 0 g9 λb s r u c p d=>ag (wS 3 d<|wx b (wkc b T.aaa)<|wx b v0 af)<|ag (wS 4 d<|wad s (aJ aI w_mul (wx b v3 af) v1)<|aJ aI w_mul (wx b v3 af) v2)<|ag (wS 5 d<|aJ bD w_sub (aJ aI w_mul (wx b v3 af) v1)<|aJ aI w_mul (wx b v3 af) v2)<|wr<|aQ<|ae (wad s (wx b v0 af) v4)<|wa1<|wad s (wx b v0 af)<|va 5
def oo:=T.qW.dN P base 41 jL λb s r u c p d=>ag (wS 2 d<|wx b v0 v1)<|ag (wS 3 d<|cl b r (qr T)<|ae v0<|wa1<|cl b r (dw T)<|ae v2<|ae af<|wa1 af)<|wr<|aeJ (PW.pt<|uh (bo ft kD v3 dv<|bG _)<|nM<|we2 b u (wx b (wx b v0 v3) af)<|wx b v2 af) v3 dv
def lu:=T.mH.dX P base 40 dn λb s r u c p d=>ag (wi1 (wn2 b u (wmo (wln s T.j9 v0) af) af)<|au<|x9 s c (cm r) (by rfl) T.lJ T.pF T.lZ rfl<|anr<|anq s u r.gd v0 agN) (wr<|wco "place" (cm r) (aeF (by rfl) T.bB af<|wln s T.j9 v0) λ_ _ _ _=>aQ<|ae (wx b v1 v0)<|wa1<|wx b v1<|wad s v0 af)
def sg:=T.xn.dN P base 0 jb λb s r u c p d=>(ag (i6 (i:=2) d rfl (Or.inl rfl)<|mK<|wa1 v1)<|ag (nN p (show PT _ _ (loT _ K52.gj)from(x8 (i:=2)<|bo ft kD (wx b v0<|wx b v2<|g7 bR g8 af) dv<|bG _))<|show PSs _ _ (loS _ K52.gk)from(au<|pH s<|eh<|mr aoL ao3 ao4 et (pv 2)<|aU (pJ (i:=2)<|wx b v0<|wx b v2<|g7 bR g8 af) bY))<|au<|jJ (i:=2)<|cR v2)
def fS:=T.l6.dN P base 40 eg λb s r u c p d=>ag (cu p (cm r) (bW (by rfl) T.bB<|wln s T.j9 v0) (gN 1 d)<|show PSs _ _ (loS _ K52.bH)from au<|cu p (cm r) (yc (by rfl) T.bB (wad s v1 af)<|wln s T.j9 v0) (gN 2 d)<|show PSs _ _ (loS _ K52.cg)from au<|wi1 (we2 b u (cl b r (fc T)<|wa1<|wx b v0 v1)<|cl b r (fc T)<|wa1<|wx b v0 v2)<|wr<|aQ<|ae v1<|wa1 v2)<|wr dv
def lB:=T.adv.dN P base 1 uG λb s r u c p d=>ag (wS 2 d<|cl b r (dw T)<|ae v0<|ae af<|wa1 v1)<|wr<|aQ<|ae (wx b v2 af)<|ae (wx b v2 af)<|wa1<|wx b v0 af
def iM:=T.qX.dN P base 40 jM λb s r u c p d=>wr (wco "pair" (cm r) (cw s v1) λ_ _ _ _=>cl b r (lB T)<|ae (wx b v1<|wx b v0 af)<|wa1 af)
def si:=T.xq.dX P base 42 mO λb s r u c p d=>(ag (i7 (i:=1) d rfl rfl (by rfl) (ts:=["dancer"]) ⟨rfl,rfl,rfl,rfl,rfl⟩ (cm r) rfl (bt<|by decide) (bW (by rfl) T.bB<|wkc b T.lP) (λ_ _ _ _=>gN 0) (λ_ _ _ _=>gS) λ_ _ _ _=>cl b r (oo T)<|ae v1<|wa1 v0)<|ag (i6 (i:=2) d rfl (Or.inl rfl)<|mK aM)<|ag (cu p (cm r) (bW (by rfl) T.bB<|wkc b T.lP) (gN 3 d)<|show PSs _ _ (loS _ K52.bZ)from(au<|wi1 (bo nB (yn s u) v3 v1<|by rfl)<|au<|agL (i:=2) s T.nl<|eh<|mr aoL PySem.F.slot_list_extend PySem.F.type_list_extend afF (pv 2)<|aU (clX b r c (lu T)<|wa1<|cl b r (sg T)<|ae v1<|wa1 v3) bY))<|ag (wi1 (x8 (i:=2)<|bo ft kD (cl b r (fS T)<|wa1<|cl b r (iM T)<|ae v0<|wa1 v2) dv<|bG _)<|au<|abD s c (cm r) (by rfl) T.lJ T.pF T.lZ rfl<|wa1 ar)<|au<|jJ (i:=2)<|cR<|wB nA (ym s) T.oz boot_sorted<|wa1 v2)
theorem my:∀f∈(["floor","pairs","middles"]:List Str),eF K D.aF f:=λf a=>by
 rcases an7.mp a with rfl|a;.exact T.dM
 rcases an7.mp a with rfl|a;.exact T.bp
 rcases an7.mp a with rfl|a;.exact T.aN
 cases a
theorem mu:aml P w K mg base 44 D.eZ ["self","floor"] (spN K "PairedFloor" ["floor","pairs","middles"] fN):=ac3 T.mD (λ_ _ _ _ _ _ c e=>rz (λ_ _=>rfl) c e) λg d=>ac1 d mq rfl (by decide) (by decide) (by decide) λf A a s H E X b r=>by subst b;exact⟨y4 (pv 0) (pv 1) rfl,y4 (pv 0) (pcX r (si T)<|aU (pv 1) bY) rfl,y4 (pv 0) (pc0 r (iM T)<|aU (pv 1)<|aU (ad9 (pv 0) rfl) bY) rfl⟩
def fR:=T.l2.dN P base 0 f9 λb s r u c p d=>wr<|wmo (wad s v0<|gx b T.oA T.nZ (nT T) v1)<|wkc b T.xc
def acs:=T.agb.dN P base 1 yv λb s r u c p d=>ag (wi1 (bo pa w_is v2 dv<|bG _)<|wr<|weq s u v3 ar) (ag (wi1 (bo dm (v9 s u) v3 (aQ<|ae ar<|wa1 ar)<|by rfl)<|wr<|weq s u v3 ar)<|wr<|weq s u (wx b (wx b v1 v2) af)<|cl b r (fR T)<|ae (wx b v0 af)<|wa1 v3)
def ff:=T.fy.dX P base 41 cT λb s r u c p d=>ag (wi1 (bo dm (v9 s u) (wx b v2 af) (aQ<|ae ar<|wa1 ar)<|by rfl)<|wr nS)<|ag (wS 3 d<|wx b (wfn 2 s T.aH T.aA T.aN v0) v1)<|ag (wS 4 d<|cl b r (qr T)<|ae (wfn 2 s T.aH T.aA T.aN v0)<|wa1<|cl b r (dw T)<|ae v3<|ae (wx b v2 af)<|wa1<|aJ aI w_mul af<|wx b v2 af)<|wr<|cl b r (acs T)<|ae v3<|ae (wfn 2 s T.aH T.aA T.aN v0)<|ae v4<|wa1<|wx b v2 af
def h8:=T.xI.dN P base 40 mV λb s r u c p d=>wr<|wB gw (pL<|cm r) T.zv boot_max<|ae (wB du mn T.mz ap8<|wa1<|wx b v0 af)<|wa1<|wB du mn T.mz ap8<|wa1<|wx b v0 af
def acv:=T.agd.dN P base 41 nY λb s r u c p d=>ag (wS 1 d<|cl b r (h8 T)<|wa1<|cl b r (fc T)<|wa1 v0)<|ag (wS 2 d<|cl b r (h8 T)<|wa1<|cl b r (dw T)<|ae v0<|ae af<|wa1 af)<|ag (wi1 (we2 b u v2 v1)<|wr ar)<|wr<|aeJ (bo jC w_lt v2 v1<|bG _) ar ar
def wV:=T.aaW.dN P base 0 pY λb s r u c p d=>wr<|weq s u (wmo (aJ aK w_div v0 af) af) af
def wU:=T.aaV.dN P base 0 pX λb s r u c p d=>wr<|weq s u (wmo v0 af) af
def wR:=T.aaU.dN P base 1 pW λb s r u c p d=>ag (wi1 (bo dm (v9 s u) v1 (aQ<|ae ar<|wa1 ar)<|by rfl)<|wr<|weq s u (cl b r (wV T)<|wa1 v0)<|weq s u v1 ar)<|wr<|weq s u (cl b r (wU T)<|wa1 v0)<|weq s u v1 ar
def acu:=T.agc.dN P base 41 yw λb s r u c p d=>ag (wS 3 d<|wx b v2 af) (ag (wi1 (we2 b u v3 ar) f6)<|ag (wi1 (we2 b u v3 ar) f6)<|ag (wi1 (we2 b u v3 ar)<|wr<|iz jD agX (cl b r (h8 T)<|wa1<|cl b r (fc T)<|wa1<|wx b v0 v1) (wx b v2 af)<|bG _)<|ag (wi1 (bo dm (v9 s u) v3 (wkc b T.vn)<|by rfl) f6)<|wr<|cl b r (wR T)<|ae v1<|wa1 v3)
theorem cp:∀n:Nat,agk P w K mg base (42+n) D.aF D.fm_PairedFloor_pair_holds "pair_holds" ["self","place","test"]<|spX K 3<|aC n|0=>sP T.bE.1 T.bE.2 (λ_ _ _ _ _ _ d e=>abd (λ_ _ _=>rfl) d e) λf g=>adq|n+1=>have a:=cp n;T.bE.dX (bF<|aC n) eT λb r c p=>(ag (i8 (we2 b r.units (wx b v2 af) ar) (au<|cR<|um<|meN b r c T.aH T.aA a v0 (ae v1<|ae (wx b v2 af) aM) (hk:=aob _)) dD)<|ag (i8 (we2 b r.units (wx b v2 af) ar) (au<|cR<|meN b r c T.aH T.aA (ff T) v0 (ae v1<|ae v2 aM) (hk:=aoh (by decide)<|aoP _ _)) dD)<|ag (i8 (bo dm (v9 b.symm r.units) (wx b v2 af) (wkc b T.vn)<|by rfl) (au<|cR<|iz calm_eq (w_eq b.symm r.units) (cl b r (acv T) (ae (wx b (nQ (n:=2) b.symm T.aH T.aA T.aN (by decide) rfl v0) v1) aM)<|aoh (by decide)<|aoP _ _) (wx b v2 af)<|bG _) dD)<|au<|cR<|wB pb (w_all (cm r) b.symm) T.afE boot_all<|ae (nR (ts:=["dancer"]) ⟨rfl,rfl,rfl,rfl,rfl⟩ (cm r) rfl (bt<|by decide) (cw b.symm<|wx b (nQ (n:=1) b.symm T.aH T.aA T.bp (by decide) rfl v0) v1) (λ_ _ _ _=>gN 0) (λ_ _ _ _=>gS) λ_ _ _ _=>(cl b r (acu T) (ae (nQ (n:=0) b.symm T.aH T.aA T.dM (by decide) rfl v1)<|ae v0<|ae v3 aM)<|aoh (by decide)<|aoP _ _)) aM)
theorem eW:agk P w K mg base 45 D.aF D.fm_PairedFloor_pair_holds "pair_holds" ["self","place","test"] (spX K 3<|aC 3):=cp T 3
def eV:=T.e9.dX P base 45 cM λb s r u c p d=>(ag (cu p (cm r) (cw s v2) (gN 3 d)<|show PSs _ _ (loS _ K52.aW)from(au<|wi1 (fQ<|wB pb (w_all (cm r) s) T.afE boot_all<|wa1<|abI rfl rfl s c (ts:=["test"]) ⟨rfl,rfl,rfl,rfl,rfl⟩ (cm r) rfl (bt<|by decide) (cw s<|wx b v3 af) (λ_ _ _ _ _ B b c=>gN 0) (λ_ _ _ _ _ B b c=>gS) λ_ _ _ _ _ B b c=>meN b r c T.aH T.aA (eW T) v1<|ae v2<|wa1 v0)<|wr<|wx b v3 af))<|au<|rI b r c (cm r) T.zC T.y1 T.ab5 (oq T) T.tw<|wa1<|wx b (wx b (wfn 1 s T.aH T.aA T.bp v0) v1) af)
def lr:=T.mG.dN P base 1 gU λb s r u c p d=>ag (wi1 (we2 b u (wx b v1 af) ar)<|wr<|aQ<|ae (wx b v0 af)<|ae (wx b v0 af)<|wa1<|cl b r (fR T)<|ae (wx b v0 af)<|wa1<|wx b v1 af)<|ag (wS 2 d<|gx b T.acE T.abS (abM T)<|wx b v1 af)<|ag (wS 3 d<|cl b r (dw T)<|ae v0<|ae (aJ aI w_mul (wx b v2 af)<|wx b v1 af)<|wa1<|aJ aI w_mul (wx b v2 af)<|wx b v1 af)<|wr<|aQ<|ae (wx b v3 af)<|ae (wx b v3 af)<|wa1<|wx b v0 af
def zk:=T.adu.dN P base 40 uF λb s r u c p d=>(ag (i6 (i:=2) d rfl (Or.inl rfl)<|mK<|wa1 v0)<|ag (cu p (cm r) (cw s v1) (gN 3 d)<|show PSs _ _ (loS _ K52.jq)from(au<|wi1 (wn2 b u (wx b v3 af) ar)<|au<|pH s<|eh<|mr aoL ao3 ao4 et (pv 2)<|aU (pJ (i:=2)<|cl b r (lr T)<|ae (wx b v2<|g7 bR g8 af)<|wa1 v3) bY))<|au<|jJ (i:=2)<|cR v2)
def wM:=T.aaO.dN P base 0 pS λb s r u c p d=>wr (aeJ (bo dm (v9 s u) (wx b v0 af) (aQ<|ae ar<|wa1 ar)<|by rfl) (aQ<|ae (wx b v0 af)<|wa1<|aJ aI w_mul af<|wx b v0 af) v0)
def sE:=T.xH.dX P base 41 gE λb s r u c p d=>ag (wS 1 d<|cl b r (fS T)<|wa1 v0)<|ag (wi1 (bo ft kD v1 dv<|bG _)<|au<|rI b r c (cm r) T.aeh T.ad2 T.afe (qA T) T.aaF<|ae (wx b v1 af)<|wa1<|wx b v1 af)<|wr<|wT fq (kC s) T.eY apL<|wa1 v0
def ly:=T.xE.dN P base 0 gD λb s r u c p d=>wr<|jK (wB bh (cy s) T.aw aot<|ae v0<|wa1<|wty T.lG ap0)<|kB<|um<|wB bh (cy s) T.aw aot<|ae v0<|wa1<|wty T.aef boot_bool
def lA:=T.xG.dN P base 1 jd λb s r u c p d=>wr<|jK (cl b r (ly T)<|wa1 v0)<|kB<|uo jD jD agX agX (g7 bR g8<|wkc b T.ng) v0<|wkc b T.ng
def qz:=T.tS.dN P base 1 hJ λb s r u c p d=>wr<|jK (cl b r (ly T)<|wa1 v0)<|kB<|uo jD jC agX w_lt af v0<|wln s T.j9<|wkc b T.aaa
def sC:=T.xF.dN P base 2 mU λb s r u c p d=>ag (wi1 (PW.pt<|vY (mJ<|fQ<|wB bh (cy s) T.aw aot<|ae v0<|wa1<|wty T.eY apL)<|pG<|wn2 b u (wln s T.j9 v0) af)<|wr nS)<|wr<|jK (cl b r (lA T)<|wa1<|wx b v0 af)<|jK (cl b r (lA T)<|wa1<|wx b v0 af)<|kB<|cl b r (qz T)<|wa1<|wx b v0 af
def wQ:=T.aaT.dX P base 40 pV λb s r u c p d=>ag (cu p (cm r) (rL s (by rfl) T.ib v0) (gR s (cm r) (aV (gN 1 d)<|aV (gN 2 d) eR) rfl (bx<|bx g6) cI)<|show PSs _ _ (loS _ K52.ik)from au<|wi1 (mJ<|fQ<|wB pb (w_all (cm r) s) T.afE boot_all<|wa1<|wco "stand" (cm r) (cw s<|i9 (v8 s) v2 (cS af) dE) λ_ _ _ _=>cl b r (sC T)<|wa1 v0)<|au<|rI b r c (cm r) T.aik T.ahz T.ahy (sD T) T.af6<|wa1 v1)<|wr v0
def iO:=T.jz.dX P base 46 fb λb s r u c p d=>(ag (wS 2 d<|mkN b r c T.mB T.aA (my T) T.aH (mu T) T.oD<|wa1 v0)<|ag (abB (iN:=3) d rfl rfl (by rfl) rfl rfl s c (ts:=["place"]) ⟨rfl,rfl,rfl,rfl,rfl⟩ (cm r) rfl (bt<|by decide) (bW (by rfl) T.bB<|wln s T.j9<|wfn 1 s T.aH T.aA T.bp v2) (λ_ _ _ _ _ B b c=>gN 0) (λ_ _ _ _ _ B b c=>gS) λ_ _ _ _ _ B b c=>meN b r c T.aH T.aA (eV T) v3<|ae v0<|wa1 v2)<|ag (abC (i:=4) d rfl rfl (by rfl) (ts:=["dancer"]) ⟨rfl,rfl,rfl,rfl,rfl⟩ (cm r) rfl (bt<|by decide) (bW (by rfl) T.bB<|wkc b T.lP) (λ_ _ _ _=>gN 0) (λ_ _ _ _=>gS) λ_ _ _ _=>aY aM)<|ag (cu p (cm r) (rL s (by rfl) T.ib<|wfn 1 s T.aH T.aA T.bp v2) (gR s (cm r) (aV (gN 5 d)<|aV (gN 6 d) eR) rfl (bx<|bx g6) cI)<|show PSs _ _ (loS _ K52.bO)from ag (wS 7 d<|cl b r (zk T)<|ae (wx b (wfn 2 s T.aH T.aA T.aN v2)<|va 5)<|wa1<|wco "step" (cm r) (cw s<|wx b v3<|va 5) λ_ _ _ _=>cl b r (wM T)<|wa1 v0)<|ag (kA (wco "middle" (cm r) (cw s<|va 7) λ_ _ _ _=>cl b r (lB T)<|ae v0<|wa1<|g7 bR g8 af) (adL (pv 4)<|wx b (va 6) af) aep)<|au<|kA (wco "middle" (cm r) (cw s<|va 7) λ_ _ _ _=>cl b r (lB T)<|ae v0<|wa1 af) (adL (pv 4)<|wx b (va 6) af) aep)<|au<|jJ (i:=4)<|cR<|clX b r c (sE T)<|wa1<|wco "way" (cm r) (cw s<|clX b r c (wQ T)<|wa1 v4) λ_ _ _ _=>wx b v0<|g7 bR g8 af)
def qy:=T.tR.dN P base 0 kN λb s r u c p d=>ag (wS 1 d<|aY<|ae (wB cB (j3 s T.xs) T.aw aot<|ae v0<|wa1<|wcl b T.zC T.tw)<|ae (wB cB (j3 s T.xs) T.aw aot<|ae v0<|wa1<|wcl b T.aik T.af6)<|ae (wB cB (j3 s T.xs) T.aw aot<|ae v0<|wa1<|wcl b T.aeh T.aaF)<|wa1<|wB cB (j3 s T.xs) T.aw aot<|ae v0<|wa1<|wcl b T.lJ T.lZ) (ag (wS 2 d<|aY<|ae (wB cB (j3 s T.xs) T.aw aot<|ae v0<|wa1<|wcl b T.acF T.adn)<|ae (wB cB (j3 s T.xs) T.aw aot<|ae v0<|wa1<|wcl b T.acD T.adm)<|ae (wB cB (j3 s T.xs) T.aw aot<|ae v0<|wa1<|wcl b T.acC T.adl)<|wa1<|wB cB (j3 s T.xs) T.aw aot<|ae v0<|wa1<|wcl b T.sQ T.tr)<|ag (wS 2 d<|wad s v2<|aY<|ae (wB cB (j3 s T.xs) T.aw aot<|ae v0<|wa1<|wcl b T.afH T.af7)<|ae (wB cB (j3 s T.xs) T.aw aot<|ae v0<|wa1<|wcl b T.zB T.aaE)<|wa1<|wB cB (j3 s T.xs) T.aw aot<|ae v0<|wa1<|wcl b T.zA T.aaD)<|ag (wi1 (PW.pt<|vY (wn2 b u (abE s u v1<|wa1 nS) af)<|vY (bo dm (v9 s u) nS v2<|by rfl)<|pG<|mJ<|fQ<|wB cB (j3 s T.xs) T.aw aot<|ae v0<|wa1<|wty T.qF md) f6)<|ag (wi1 (fQ<|wx b v1 af)<|wr<|aY<|wa1 ar)<|ag (wi1 (fQ<|wx b v1 af)<|wr<|aY<|ae ar<|ae (yg s T.xs T.aiV v0 rfl)<|wa1<|yg s T.xs T.adh v0 rfl)<|wr<|aY<|ae (wx b (aY<|ae ar<|wa1 ar)<|wT dc iA T.lG ap0<|wa1<|wx b v1 af)<|wa1<|yg s T.xs T.aiU v0 rfl)
def sk:=T.xt.dN P base 47 dg λb s r u c p d=>(ag (wS 2 d dv)<|ag (abA (tb:=K52.bX) (th:=K52.cL) (i:=3) s rfl rfl d rfl rfl (by rfl) T.eL (λe f h=>T.xs.ex e f _ _ h T.qU) (λ_ _ B b c p=>au<|wS 2 d<|clX b r c (iO T)<|ae v0<|wa1 v1) λa B b c=>have r:=r.sui (v:=some<|.ref a) (by decide);au (wS 2 d<|cl b r (qy T)<|wa1 v3))<|wr v2)
theorem ah8(d:BmA mg base)(g:W.CodeHd base D.tc D.tP){f:Addr}{e:FuncData}(i:Fun K "law" "law" ae7 f e):FnOk P w K mg base CX0 49 f e ["_law_script"] (aeW D.tP tp0<|spW K 1 af2):=vF abR i jP rfl rfl rfl (by decide) λj A a s H E B _ k h b r c p=>ag (wS 1 jP.nd<|cl b r (wN T)<|wa1<|cl b r (gX T)<|ae v0<|wa1 af) (ag (cu p (cm r) (cw b.symm<|wad b.symm (aY<|wa1<|cl b r (gX T)<|ae v0<|wa1 af)<|i9 (v8 b.symm) v0 (cS af)<|cS af) (gN 2 jP.nd)<|show PSs _ _ (loS _ K52.ij)from ag (wS 3 jP.nd<|clT b r h (qw T d g)<|ae v2<|wa1 v1)<|au<|cu p (cm r) (bW (by rfl) T.bB af) (gN 4 jP.nd)<|show PSs _ _ (loS _ K52.ig)from ag (wS 5 jP.nd<|cl b r (sA T)<|wa1<|wad b.symm v2<|aJ aI w_mul af v4)<|ag (wS 6 jP.nd<|cl b r (wO T)<|ae v3<|wa1<|va 5)<|ag (wi1 (mJ<|fQ<|cl b r (sx T)<|ae (cl b r (sk T)<|ae v3<|wa1<|va 5)<|wa1<|va 6) f6)<|au<|wi1 (fQ<|wB bh (cy b.symm) T.aw aot<|ae (va 6)<|wa1<|wty T.eY apL)<|au<|wS 3 jP.nd<|va 6)<|wr nS)
theorem all_mk(a:∀c:List Int,c.length<=63->af2 [.lst<|c.map .int]=.ok (.bl true)){l:W.OpenLaw}{d:Addr}(b:mg "law"=some (.ref d)):∃e:FuncData,(∀(s:Shared)(v:Value),BindsTo s e ⟨[v],[]⟩ [("_law_script",v)])/\∀base:Heap,K.In base->base.Ns mainGlobals mg->BmA mg base->W.CodeHd base D.tc D.tP->FnOk l.prog w K mg base CX0 49 d e ["_law_script"] (WS.kX D.tP tp0 K):=afO T.al6 T.mgA b (λ_ _ _ _ _ _ _=>rfl) (λ_ _ _ h f g=>ah8 T h f g) a
omit T
def aje{a0 u G A C v B z y x c b p k a e q f d g i n t s o m r j}(T:Txt w K mg ⟨a0,u,G,A,C,v,B,z,y,x,c,b,p,k,a,e,q,f,d,g,i,n,t,s,o,m,r,j⟩){l:W.OpenLaw}{E:Addr}(h:mg "law"=some (.ref E)):=all_mk T acS (l:=l) h
def walk{l:W.OpenLaw}{m:Program}{a:List Str}{n:(Str->Option Value)->Heap->Prop}{g:World->Heap->Prop}{d:DefRec}{K:Params->W.Frag}{c b:Addr}(k:l.most=some 63)(e:d.params.defaults=[])(p:∀(w:World)(h:Heap),g w h->(K w.params).In h)(hYt:∀(w:World)(h:Heap),g w h->h.get? b=some (W.tabObj #[]))(hK:∀w:World,W.noTabs (K w.params)=true)(hCd:∀w:World,W.codeHdIn (K w.params) c b=true)(ht:∀w:World,W.tabIn (K w.params) "_law_floor"=some (c,b))(F:∀(w:World)(mg:Str->Option Value)(j:Addr)(h:Heap),(K w.params).In h->h.Ns mainGlobals mg->mg d.name=some (.ref j)->∃i:FuncData,(∀(s:Shared)(u:Value),BindsTo s i ⟨[u],[]⟩ [("_law_script",u)])/\∀base:Heap,(K w.params).In base->base.Ns mainGlobals mg->BmA mg base->W.CodeHd base c b->FnOk l.prog w (K w.params) mg base CX0 49 j i ["_law_script"] (WS.kX b tp0<|K w.params)):W.WalkO m a n g l.row.toRowW d [] λf o=>PySem.call f o:=WS.abL k e ⟨λ_=>rfl,by decide,by decide,rfl⟩ p hYt hK hCd F
end K52
open PySem PySem.W PyProof.Rows
set_option maxRecDepth 100000 in
set_option maxHeartbeats 0 in
theorem PySem.Challenge.cw_squarecall_k52_danced_by_pairs_holds : PySem.Challenge.rw_squarecall_k52_danced_by_pairs.Holds := by
 w_on;o_law;k_head;(case hw=>w_witness2)
 k_fill
 refine' K52.walk (l:=PySem.Challenge.rw_squarecall_k52_danced_by_pairs) rfl rfl (λw h Y=>W.km_in_of Y) ?hYt ?hK ?hCd ?ht ?F
 case ht=>exact λw=>WS.adO (by k_is) (by k_is) rfl (by k_is) rfl
 case hYt=>exact λw h Y=>W.km_tabs_of Y _ (by decide)
 case hK=>exact λw=>by kernel_rfl
 case hCd=>exact λw=>by kernel_rfl
 case F =>
 intro w mg fa h KX G hmg
 refine' K52.aje ?T hmg
 case T =>
  constructor<;>(try dsimp only)<;>first|(exact WS.ajd KX G (by k_is) (by k_is) (by k_is) (by k_is) ⟨rfl,rfl,rfl,by decide +kernel,rfl,by decide +kernel,by decide +kernel⟩ (by intro _ _ _ _ _ _ u h;first|exact WS.bind1 (by intros;rfl) u h|exact WS.rz (by intros;rfl) u h|exact WS.abd (by intros;rfl) u h|exact WS.adB (by intros;rfl) u h|exact WS.aja (by intros;rfl) u h)<|by decide)|(exact⟨⟨by k_is,by k_is,by k_is⟩,WS.aeg (by k_is) (by k_is) (by k_is),⟨⟨rfl,rfl,rfl,by decide +kernel,rfl,by decide +kernel,by decide +kernel⟩,(by intro _ _ _ _ _ _ u h;first|exact WS.bind1 (by intros;rfl) u h|exact WS.rz (by intros;rfl) u h|exact WS.abd (by intros;rfl) u h|exact WS.adB (by intros;rfl) u h|exact WS.aja (by intros;rfl) u h),by decide⟩⟩)|(exact⟨_,W.mg_of KX G (by k_is),by repeat first|exact WS.yY|exact WS.yW|exact .nil|refine WS.yV (by k_is) (by decide) ?_|refine .cons ?_ ?_⟩)|(exact WS.yX (by k_is) (by decide)<|by repeat first|exact WS.yY|exact WS.yW|exact .nil|refine WS.yV (by k_is) (by decide) ?_|refine .cons ?_ ?_)|(exact WS.amd (by k_is) (by k_is) (by k_is)<|by k_is)|(exact WS.adT (by k_is) (by repeat first|exact .nil|exact .cons rfl .nil|exact .cons ⟨_,rfl⟩ .nil|refine .cons rfl ?_|refine .cons ⟨_,rfl⟩ ?_)<|by decide)|(exact WS.adO (by k_is) (by k_is) rfl (by k_is) rfl)|(exact WS.aaA (tab:=[("FloorError",_),("NotEven",_),("NoCall",_),("NoName",_),("NoProgram",_),("TooMany",_),("NoPairs",_),("NoRow",_),("Blind",_),("Out",_),("Meet",_),("Broken",_)]) (.head _) (by(refine WS.all_cons (WS.adi (by first|k_is|exact rfl) (by first|k_is|exact rfl) (by first|k_is|exact rfl) (by first|k_is|exact rfl) (by first|k_is|exact rfl)<|by first|k_is|exact rfl) ?_);(iterate 11 (refine WS.all_cons (WS.af3 (by first|k_is|exact rfl) (by first|k_is|exact rfl) (by first|k_is|exact rfl) (by first|k_is|exact rfl) (by first|k_is|exact rfl)<|by first|k_is|exact rfl) ?_));exact WS.all_nil) (λ_ h=>.inl<|by simpa [WL.kx] using h) (show (["FloorError","NotEven","NoCall","NoName","NoProgram","TooMany","NoPairs","NoRow","Blind","Out","Meet","Broken"]:List String).Nodup from by decide) (by decide) (by first|k_is|exact rfl)<|by first|k_is|exact rfl)|(exact WS.ana (WS.e6<|by decide) (WS.e6<|by decide) (WS.e6<|by decide) (WS.e6<|by decide) (WS.e6<|by decide) (WS.e6<|by decide) (WS.e6<|by decide) (WS.e6<|by decide) (WS.e6<|by decide) (WS.e6<|by decide) (WS.aat (by first|k_is|exact rfl) (by first|k_is|exact rfl)<|by first|k_is|exact rfl)<|WS.e6<|by decide)|(exact WS.ana (WS.e6<|by decide) (WS.e6<|by decide) (WS.e6<|by decide) (WS.e6<|by decide) (WS.e6<|by decide) (WS.e6<|by decide) (WS.e6<|by decide) (WS.e6<|by decide) (WS.aat (by first|k_is|exact rfl) (by first|k_is|exact rfl)<|by first|k_is|exact rfl) (WS.aat (by first|k_is|exact rfl) (by first|k_is|exact rfl)<|by first|k_is|exact rfl) (WS.e6<|by decide)<|WS.e6<|by decide)|(exact WS.aiH (by k_is) (by k_is)<|by k_is)|(exact⟨⟨by k_is,by k_is,by k_is⟩,WS.aeg (by k_is) (by k_is)<|by k_is⟩)|(exact⟨by first|k_is|exact rfl,by first|k_is|exact rfl,by first|k_is|exact rfl,by first|k_is|exact rfl⟩)|(exact λ_ _=>W.mg_of KX G)|(refine W.mg_of KX G ?_;k_is)|(refine W.mg_none_of KX G ?_;k_is)|(exact⟨_,_,by k_is,by exact .cons ⟨⟨_,rfl⟩,rfl,⟨_,rfl⟩⟩<|.cons ⟨⟨_,rfl⟩,rfl,⟨_,rfl⟩⟩<|.cons ⟨⟨_,rfl⟩,rfl,⟨_,rfl⟩⟩<|.cons ⟨⟨_,rfl⟩,rfl,⟨_,rfl⟩⟩<|.nil⟩)|(exact⟨_,_,by k_is,by exact .cons ⟨⟨_,rfl⟩,rfl,rfl⟩<|.cons ⟨⟨_,rfl⟩,rfl,rfl⟩<|.cons ⟨⟨_,rfl⟩,rfl,rfl⟩<|.cons ⟨⟨_,rfl⟩,rfl,rfl⟩<|.nil⟩)|(refine⟨by decide,?_⟩;k_is)|(exact L2.pz.mk (by k_is)<|by kernel_rfl)|(show W.findIn _ _ _=_;first|k_is|exact rfl)|(first|kernel_rfl|exact rfl)|(k_is)|(exact rfl)

import PyProof.Rows.All
import Wide.All
import OpenK.AllK
import Wide.FinOn
import Lean
import PyProof.EqAt
import PyProof.EqKinds
import PyProof.TupleCall
import PyProof.DictWalks
import PyProof.DictIter
import PySem.Str
import KE.KRevIter
import PyProof.ListNew
import PySem.SetOps
import PyProof.SetScanFacts
import PyProof.TupleKey
import PyProof.SetRoads
import PyProof.IsRules
import PyProof.Rows.SetFrom
import PyProof.StrLawsIn
import PyProof.Rows.StrNews2
import PyProof.Rows.StrLawsPart
import PyProof.Rows.StrJoin2
import PyProof.Rows.Range3
import PyProof.StrLoop
import PyProof.Rows.SortStr
import KE.KDictList
import KE.KEqDict
import KE.KDictSum
import PyProof.P3Eq
import KE.KSortTup
import KE.KLam
import PyProof.ListRange
import KE.KNestM
import PyProof.TableCode
import PySem.Challenge.RW_squarecall_k51_pairs_on_floors
set_option linter.all false
open PySem renaming wpAny_bind->agl,wpAny_pure->agp,wpAny_mono->agN,wpAny_field->agQ,mem_of_lookup->agW,wpAny_setField_rec->ag8,wpAny_callSpecial?_slot->ahh,wpAny_holding->ahn,wpAny_call_entry->ahw,wpAny_seqItems->ahy,boot_len->ahz,wpAny_passesOwn->ahI,codeAny_mono->ahT,wpAny_Call_Name_kw->ahY,wpAny_setState_of->ah2,wpAny_call->ah6,wpAny_attempt->aia,wpAny_execs_nil->aie,codeAny_builtin->aif,wpAny_pyIter_tuple->aik,wpAny_setField->air,wpAny_truthy_bool->ait,wpAny_newObj_type->aiu,wpAny_pyIter_enum->aiw,wpAny_pyIter_list->aix,wpAny_standAt->aiz,wpAny_letOwnedTupleGo_enum->aiS,wpAny_loadPart_at->aiW,wpAny_rule->ai0,wpAny_eqBool_int->ai3,concat_meets->ai4,noFill_tuple_add->ai5,wpAny_comprehension_free->ai6,wpAny_forIn_list->ajb,wpAny_specialOf->ajd,typeIs_none->ajj,sizeLine_eq->ajl
open PySem.Heap renaming get?_push_of_some->agm,lt_size->agt,get?_push_size->agA,get?_none_of_le->ag6,get?_update_other->ahG,get?_update_self->ahJ,size_push->ahS
open List renaming getElem?_set_ne->agn,getElem?_set_self->agr,mem_cons->ags,getElem?_eq_some_iff->agu,mem_cons_of_mem->agw,mem_range->agB,getD_eq_getElem?_getD->agC,mem_cons_self->agD,mem_append_right->agF,getElem?_eq_getElem->agH,not_mem_nil->agI,length_cons->agJ,mem_map->agM,length_map->agO,map_cons->agP,getElem?_map->agT,filterMap_cons->agU,lookup_cons->agY,mem_append_left->ag0,nodup_cons->ag1,all_eq_true->ag3,mem_filterMap->ag5,mem_singleton->ag9,mem_filter->ahe,length_append->ahg,mem_singleton_self->ahi,getElem?_append_right->ahm,size_toArray->ahp,getElem?_range->ahq,mem_append->ahr,getElem?_append_left->ahs,map_map->aht,mem_of_getElem?->ahu,idxOf_lt_length_of_mem->ahv,pairwise_iff_getElem->ahA,append_nil->ahB,nodup_range->ahF,length_range->ahP,drop_eq_getElem_cons->ahQ,mem_map_of_mem->ahV,getElem?_replicate->ahX,length_replicate->ah3,length_take->ah7,map_append->aih,length_drop->aiB,getElem_mem->aiC,filter_cons->aiD,getElem?_of_mem->aiI,pairwise_append->aiJ,foldl_cons->aiK,set_cons_zero->aiO,set_cons_succ->aiP,pairwise_map->aiZ,getElem?_eq_none_iff->ai2,countP_cons->ai8,of_mem_zip->ajf,forIn_cons->ajg,nil_append->ajh,nodup_nil->ajm
open Nat renaming lt_of_lt_of_le->agv,le_refl->agx,le_trans->agy,ne_of_lt->agz,zero_le->agV,ne_of_gt->ahb,not_lt_zero->ahf,not_lt_of_le->ahk,le_of_lt->ahl,le_add_right->ahE,lt_irrefl->ahL,lt_succ_self->ah8,lt_of_lt_of_eq->aij,lt_succ_of_lt->aiv,min_le_right->aiA,lt_trichotomy->aiX,lt_trans->ai7,succ_pos->ai9,zero_add->aja,mod_lt->ajo
open Bool renaming and_eq_true->agE,false_ne_true->agK,eq_iff_iff->ag7,false_eq_true->aha,and_eq_true_iff->ahj,or_eq_true->aiH,not_true->aiT
open Ne renaming symm->agG
open PyProof.Rows renaming boot_isinstance->agL,callWith_type1->ag4,formatField_str->ahd,slot_tuple_getitem->ahW,boot_range->ajn,boot_tuple->ajp
open Option renaming map_eq_some_iff->agR,isSome_iff_exists->ahc,bind_some->ah9,isNone_iff_eq_none->ai1,map_some->aje
open Option.some renaming inj->agS,injEq->aiU
open Prod.mk renaming injEq->ag2
open Array renaming getElem?_eq_some_iff->aho,length_toList->aic
open PySem.W renaming kia_one->ahx,kitx_list->ajk
open PySem.F renaming plainAttrs_list->ahC,slot_NoneType_hash->ahK,slot_tuple_iterator_next->ahN,excBase_ValueError->ahO,called_set->ahU,slot_enumerate_next->ah4,args_tuple_add_2->aii,slot_list_append->aip,type_list_append->aiq,entry_tuple_add->ais,slot_tuple_add->aiy,slot_zip_next->aiG,args_tuple_iterator_next_1->aiM,entry_tuple_iterator_next->aiN
open PyProof.Rows.F renaming plain_set_update_loop->ahH,entry_set_update_loop->aio
open Classical renaming byContradiction->ahR
open PySem.Obj renaming data_mapFields->ahZ,isFreed_of_fields->aiE
open PySem.Heap.SameBut renaming update->aid
open PySem.Code renaming quiet_builtin->ail
open Nat.succ renaming inj->aim
open PySem.List renaming filterMap_getElem?_range_length->ain
open PySem.Calls renaming evalArgs_plain->aiF,Name_function_global->aiR
open Int renaming zero_add->aiL,sub_eq_add_neg->aiQ,toNat_natCast->aiV,mul_comm->ajc
open Function renaming comp_def->aiY
open List.cons renaming injEq->aji
def ago:=@if_pos
def agq:=@if_neg
def agX:=@decide_eq_false
def agZ:=@decide_eq_true_eq
def ahD:=@decide_eq_true
def ahM:=@if_false
def ah0:=@beq_iff_eq
def ah1:=@or_false
def ah5:=@congrArg
def aib:=@if_true
noncomputable section
set_option compiler.extract_closed false
set_option autoImplicit true
set_option relaxedAutoImplicit true
def acD{p q r:Prop}{C:Prop}(h:p/\q/\r)(K:p->q->r->C):C:=let⟨h0,h1,h2⟩:=h;K h0 h1 h2
def ado{p q r s:Prop}{C:Prop}(h:p/\q/\r/\s)(K:p->q->r->s->C):C:=let⟨h0,h1,h2,h3⟩:=h;K h0 h1 h2 h3
def acC{p q r s t:Prop}{C:Prop}(h:p/\q/\r/\s/\t)(K:p->q->r->s->t->C):C:=let⟨h0,h1,h2,h3,h4⟩:=h;K h0 h1 h2 h3 h4
def gD{p q:α->Prop}{C:Prop}(h:∃a,p a/\q a)(K:∀a,p a->q a->C):C:=let⟨a,h0,h1⟩:=h;K a h0 h1
def gL{p q r:α->Prop}{C:Prop}(h:∃a,p a/\q a/\r a)(K:∀a,p a->q a->r a->C):C:=let⟨a,h0,h1,h2⟩:=h;K a h0 h1 h2
def cW{p q:α->β->Prop}{C:Prop}(h:∃a b,p a b/\q a b)(K:∀a b,p a b->q a b->C):C:=let⟨a,b,h0,h1⟩:=h;K a b h0 h1
def eI{p q:α->β->Prop}(a b)(h0:p a b)(h1:q a b):∃a b,p a b/\q a b:=⟨a,b,h0,h1⟩
def jN{p q r:α->β->Prop}{C:Prop}(h:∃a b,p a b/\q a b/\r a b)(K:∀a b,p a b->q a b->r a b->C):C:=let⟨a,b,h0,h1,h2⟩:=h;K a b h0 h1 h2
def hJ{p q r:α->β->Prop}(a b)(h0:p a b)(h1:q a b)(h2:r a b):∃a b,p a b/\q a b/\r a b:=⟨a,b,h0,h1,h2⟩
def qv{p q r s:α->β->Prop}{C:Prop}(h:∃a b,p a b/\q a b/\r a b/\s a b)(K:∀a b,p a b->q a b->r a b->s a b->C):C:=let⟨a,b,h0,h1,h2,h3⟩:=h;K a b h0 h1 h2 h3
def zV{p q r s:α->β->Prop}(a b)(h0:p a b)(h1:q a b)(h2:r a b)(h3:s a b):∃a b,p a b/\q a b/\r a b/\s a b:=⟨a,b,h0,h1,h2,h3⟩
def qu{p q r s t:α->β->Prop}{C:Prop}(h:∃a b,p a b/\q a b/\r a b/\s a b/\t a b)(K:∀a b,p a b->q a b->r a b->s a b->t a b->C):C:=let⟨a,b,h0,h1,h2,h3,h4⟩:=h;K a b h0 h1 h2 h3 h4
def aaj{p q r s t:α->β->Prop}(a b)(h0:p a b)(h1:q a b)(h2:r a b)(h3:s a b)(h4:t a b):∃a b,p a b/\q a b/\r a b/\s a b/\t a b:=⟨a,b,h0,h1,h2,h3,h4⟩
def adn{p q r s t u:α->β->Prop}{C:Prop}(h:∃a b,p a b/\q a b/\r a b/\s a b/\t a b/\u a b)(K:∀a b,p a b->q a b->r a b->s a b->t a b->u a b->C):C:=let⟨a,b,h0,h1,h2,h3,h4,h5⟩:=h;K a b h0 h1 h2 h3 h4 h5
def acE{p q r s t u:α->β->Prop}(a b)(h0:p a b)(h1:q a b)(h2:r a b)(h3:s a b)(h4:t a b)(h5:u a b):∃a b,p a b/\q a b/\r a b/\s a b/\t a b/\u a b:=⟨a,b,h0,h1,h2,h3,h4,h5⟩
def uR{p q:α->β->γ->Prop}{C:Prop}(h:∃a b c,p a b c/\q a b c)(K:∀a b c,p a b c->q a b c->C):C:=let⟨a,b,c,h0,h1⟩:=h;K a b c h0 h1
def zU{p q:α->β->γ->Prop}(a b c)(h0:p a b c)(h1:q a b c):∃a b c,p a b c/\q a b c:=⟨a,b,c,h0,h1⟩
def uQ{p q r:α->β->γ->Prop}{C:Prop}(h:∃a b c,p a b c/\q a b c/\r a b c)(K:∀a b c,p a b c->q a b c->r a b c->C):C:=let⟨a,b,c,h0,h1,h2⟩:=h;K a b c h0 h1 h2
def aai{p q r:α->β->γ->Prop}(a b c)(h0:p a b c)(h1:q a b c)(h2:r a b c):∃a b c,p a b c/\q a b c/\r a b c:=⟨a,b,c,h0,h1,h2⟩
def qt{p q r s:α->β->γ->Prop}{C:Prop}(h:∃a b c,p a b c/\q a b c/\r a b c/\s a b c)(K:∀a b c,p a b c->q a b c->r a b c->s a b c->C):C:=let⟨a,b,c,h0,h1,h2,h3⟩:=h;K a b c h0 h1 h2 h3
def wZ{p q r s:α->β->γ->Prop}(a b c)(h0:p a b c)(h1:q a b c)(h2:r a b c)(h3:s a b c):∃a b c,p a b c/\q a b c/\r a b c/\s a b c:=⟨a,b,c,h0,h1,h2,h3⟩
def acB{p q r s t:α->β->γ->Prop}{C:Prop}(h:∃a b c,p a b c/\q a b c/\r a b c/\s a b c/\t a b c)(K:∀a b c,p a b c->q a b c->r a b c->s a b c->t a b c->C):C:=let⟨a,b,c,h0,h1,h2,h3,h4⟩:=h;K a b c h0 h1 h2 h3 h4
def adp{p q r s t:α->β->γ->Prop}(a b c)(h0:p a b c)(h1:q a b c)(h2:r a b c)(h3:s a b c)(h4:t a b c):∃a b c,p a b c/\q a b c/\r a b c/\s a b c/\t a b c:=⟨a,b,c,h0,h1,h2,h3,h4⟩
def adm{p q:α->β->γ->δ->Prop}{C:Prop}(h:∃a b c d,p a b c d/\q a b c d)(K:∀a b c d,p a b c d->q a b c d->C):C:=let⟨a,b,c,d,h0,h1⟩:=h;K a b c d h0 h1
def ae0{p q r s t u:α->β->γ->δ->Prop}{C:Prop}(h:∃a b c d,p a b c d/\q a b c d/\r a b c d/\s a b c d/\t a b c d/\u a b c d)(K:∀a b c d,p a b c d->q a b c d->r a b c d->s a b c d->t a b c d->u a b c d->C):C:=let⟨a,b,c,d,h0,h1,h2,h3,h4,h5⟩:=h;K a b c d h0 h1 h2 h3 h4 h5
def adl{p q r s:α->β->γ->δ->ε->Prop}{C:Prop}(h:∃a b c d e,p a b c d e/\q a b c d e/\r a b c d e/\s a b c d e)(K:∀a b c d e,p a b c d e->q a b c d e->r a b c d e->s a b c d e->C):C:=let⟨a,b,c,d,e,h0,h1,h2,h3⟩:=h;K a b c d e h0 h1 h2 h3
def ae1{p q r s t u:α->β->γ->δ->ε->Prop}(a b c d e)(h0:p a b c d e)(h1:q a b c d e)(h2:r a b c d e)(h3:s a b c d e)(h4:t a b c d e)(h5:u a b c d e):∃a b c d e,p a b c d e/\q a b c d e/\r a b c d e/\s a b c d e/\t a b c d e/\u a b c d e:=⟨a,b,c,d,e,h0,h1,h2,h3,h4,h5⟩
def acA{p q r:α->β->γ->δ->ε->ζ->η->θ->ι->Prop}{C:Prop}(h:∃a b c d e f g i j,p a b c d e f g i j/\q a b c d e f g i j/\r a b c d e f g i j)(K:∀a b c d e f g i j,p a b c d e f g i j->q a b c d e f g i j->r a b c d e f g i j->C):C:=let⟨a,b,c,d,e,f,g,i,j,h0,h1,h2⟩:=h;K a b c d e f g i j h0 h1 h2
set_option Elab.async false
set_option linter.all false
set_option maxRecDepth 100000
namespace L2
open PySem PySem.Spec PyProof.Rows
abbrev Key:=Sum (Option Int) Str
noncomputable def gR:Int:=0xFCA86420
def tK{prog w A E s Q}(h:Q gR {s with toks:=s.toks+1}):wpAny (model prog w) A (pyHash .none) Q E s:=by unfold pyHash;refine agl ?_;refine agp ?_;refine agl (ajd (ajj s) ahK.lookup ?_);refine agl (ajd (ajj s) ahK.lookup ?_);refine agl (wpAny_callSpecialIfBoundUnlessNone?_slot (ajj s) ahK (ahw ahK (ajj s) PySem.F.entry_NoneType_hash (wpAny_ret_mkInt ?_) (PySem.F.args_NoneType_hash_1 _)));show wpAny _ _ (if(decide (-(2:Int)^63<=gR)&&decide (gR<2^63))=true then _ else _) Q E _;rw[ago (by decide)];exact agp h
noncomputable def qa:Key->Value->Bool|.inl (some k),v=>Value.isInt k v|.inl none,.none=>true|.inl none,_=>false|.inr x,v=>Value.isStrOf x v
def af7(w:World):Key->Int|.inl (some k)=>hashInt k|.inl none=>gR|.inr x=>hashStr w x
def ba:∀{k v},qa k v=true->(∃i t,k=Sum.inl (some i)/\v=Value.int i t)\/(∃x t,k=Sum.inr x/\v=Value.str x t)\/k=Sum.inl none/\v=.none
|.inl (some i),v,h=>by obtain⟨t,e⟩:=Value.isInt_shape  h;exact .inl ⟨i,t,rfl,e⟩|.inl none,v,h=>by cases v<;>first|exact .inr (.inr ⟨rfl,rfl⟩)|exact nomatch h
|.inr x,v,h=>by obtain⟨t,e⟩:=Value.isStrOf_shape  h;exact .inr (.inl ⟨x,t,rfl,e⟩)
def sX(i)(t):qa (.inl (some i)) (.int i t)=true:=by simp[qa,Value.isInt]
def sW(x)(t):qa (.inr x) (.str x t)=true:=by simp[qa,Value.isStrOf]
def abU(a b):decide ((Sum.inl (some a):Key)=Sum.inl (some b))=(a==b):=by grind
def abQ(a b):decide ((Sum.inr a:Key)=Sum.inr b)=decide (a=b):=by simp
def key_is(a)(b):decide ((Sum.inl (some a):Key)=Sum.inr b)=false:=agX λq=>nomatch q
def abV(a):decide ((Sum.inl (some a):Key)=Sum.inl none)=false:=agX λq=>nomatch q
def abP(a)(b):decide ((Sum.inr a:Key)=Sum.inl (some b))=false:=agX λq=>nomatch q
def abO(a):decide ((Sum.inr a:Key)=Sum.inl none)=false:=agX λq=>nomatch q
def abT(a):decide ((Sum.inl none:Key)=Sum.inl (some a))=false:=agX λq=>nomatch q
def abS(a):decide ((Sum.inl none:Key)=Sum.inr a)=false:=agX λq=>nomatch q
def bP(prog:Program)(w:World):PySem.KeyKind prog w Key where
 is:=qa;hash:=af7 w;inj:=λv a b ha hb=>by rcases ba ha with⟨i,t,rfl,rfl⟩|⟨x,t,rfl,rfl⟩|⟨rfl,rfl⟩<;>rcases ba hb with⟨j,u,rfl,e⟩|⟨y,u,rfl,e⟩|⟨rfl,e⟩<;>(cases e;try rfl)
 byValue:=λk v h=>by rcases ba h with⟨i,t,rfl,rfl⟩|⟨x,t,rfl,rfl⟩|⟨rfl,rfl⟩<;>rfl
 pyHash:=λhv h=>by
  rcases ba hv with⟨i,t,rfl,rfl⟩|⟨x,t,rfl,rfl⟩|⟨rfl,rfl⟩;.exact wpAny_pyHash_int h
  .exact wpAny_pyHash_str h
  .exact tK h
 eqBool:=λhu hv h=>by
  rcases ba hu with⟨i,t,rfl,rfl⟩|⟨x,t,rfl,rfl⟩|⟨rfl,rfl⟩
  .rcases ba hv with⟨j,u,rfl,rfl⟩|⟨y,u,rfl,rfl⟩|⟨rfl,rfl⟩;.rw[abU]at h;exact ai3 h
   .rw[key_is]at h;exact SeqAt.EqAt.int_str i t y u _ _ _ _ h
   .rw[abV]at h;exact SeqAt.EqAt.int_none i t _ _ _ _ h
  .rcases ba hv with⟨j,u,rfl,rfl⟩|⟨y,u,rfl,rfl⟩|⟨rfl,rfl⟩;.rw[abP]at h;exact SeqAt.EqAt.str_int x t j u _ _ _ _ h
   .rw[abQ]at h;exact wpAny_eqBool_str h
   .rw[abO]at h;exact SeqAt.EqAt.str_none x t _ _ _ _ h
  .rcases ba hv with⟨j,u,rfl,rfl⟩|⟨y,u,rfl,rfl⟩|⟨rfl,rfl⟩;.rw[abT]at h;exact SeqAt.EqAt.none_int j u _ _ _ _ h
   .rw[abS]at h;exact SeqAt.EqAt.none_str y u _ _ _ _ h
   .rw[ahD rfl]at h;unfold eqBool;rw[ago (show(Value.none==Value.none)=true from rfl)];exact agl (ai0 (agp h))
 «strs»:=λk x t v h=>by
  rcases ba h with⟨i,u,rfl,e⟩|⟨y,u,rfl,e⟩|⟨_,e⟩;.exact nomatch e
  .injection e with e1 _;subst e1;cases v<;>rfl
  .exact nomatch e
def m8(prog)(w)(i)(t):(bP prog w).is (.inl (some i)) (.int i t)=true:=sX i t
def m7(prog)(w)(x)(t):(bP prog w).is (.inr x) (.str x t)=true:=sW x t
inductive V where|non|bl(b:Bool)|int(i:Int)|str(x:Str)|byt(b:Array UInt8)|flt(b:UInt64)|ref(a:Addr)|ty(n:String)deriving DecidableEq
def RelV:V->Value->Prop|.non,u=>u=Value.none|.bl b,u=>u=Value.bool b|.int i,u=>∃t,u=Value.int i t|.str x,u=>∃t,u=Value.str x t|.byt b,u=>∃t,u=Value.bytes b t|.flt b,u=>∃t,u=Value.float b t|.ref a,u=>u=Value.ref a|.ty n,u=>u=Value.type n
abbrev Vals:List V->List Value->Prop:=Paired RelV
theorem Vals.length{xs us}(r:Vals xs us):xs.length=us.length:=Paired.length r
theorem Vals.get:∀{xs:List V}{us:List Value}{i:Nat}{x:V},Vals xs us->xs[i]?=some x->∃u,us[i]?=some u/\RelV x u|_,_,_,_,.nil,e=>by simp at e|_,_,0,_,.cons r _,e=>by simp at e;subst e;exact⟨_,rfl,r⟩|_,_,i+1,x,.cons _ t,e=>by obtain⟨u,b,a⟩:=Vals.get (i:=i) (x:=x) t (by simpa using e);exact⟨u,by simpa using b,a⟩
theorem Vals.set{x:V}{u:Value}(r:RelV x u):∀{xs:List V}{us:List Value}(i:Nat),Vals xs us->Vals (xs.set i x) (us.set i u)|_,_,_,.nil=>.nil|_,_,0,.cons _ t=>.cons r t|_,_,i+1,.cons q t=>.cons q (Vals.set r i t)
theorem Vals.append:∀{xs ys us ws},Vals xs us->Vals ys ws->Vals (xs++ys) (us++ws)|_,_,_,_,.nil,s=>s|_,_,_,_,.cons r t,s=>.cons r (Vals.append t s)
theorem Vals.take:∀{xs us}n,Vals xs us->Vals (xs.take n) (us.take n)|_,_,0,_=>.nil|_,_,_+1,.nil=>.nil|_,_,n+1,.cons r t=>.cons r (Vals.take n t)
theorem Vals.drop:∀{xs us}n,Vals xs us->Vals (xs.drop n) (us.drop n)|_,_,0,r=>r|_,_,_+1,.nil=>.nil|_,_,n+1,.cons _ t=>Vals.drop n t
def qz:Option V->Option Value->Prop|some v,some u=>RelV v u|none,none=>True|_,_=>False
def KV{a}:List (a×V)->List (a×Value)->Prop:=Paired λ(p:a×V)(q:a×Value)=>p.1=q.1/\RelV p.2 q.2
noncomputable def kV:Key->V|.inl (some i)=>.int i|.inl none=>.non|.inr x=>.str x
inductive HO where/-- a list -/|lst(xs:List V)/-- a tuple (never changes) -/|tup(xs:List V)/-- a dict whose keys are ints and texts;one whose keys are tuples of ints and texts (the empty one is both) -/|dK(kvs:List (Key×V))|dT(kvs:List (List Key×V))/-- a set of ints: its members,its size -/|set(S:Int->Bool)(n:Nat)/-- an instance of the class at C,its dict at dx,its attributes -/|ins(C dx:Addr)(fs:List (Str×V))/-- the dict of the instance at x -/|own(x:Addr)/-- the dict of an exception -/|xd(fs:List (Str×V))/-- a bound method,f of x -/|met(f x:Addr)/-- a range object lo,lo+1,.. below hi -/|rng(lo hi:Int)/-- a thing that is known to the object (the script;a dict while a loop walks it): read,never written while it is so -/|frz(o:Obj)(u:HO)/-- a code object's table -/|tbl(ps:Array Value)/-- a code object's table as TabAt tells -/|tab(ps:Array Value)/-- any other thing,by what is true of its one object (a def of one's own: SetO a S n:=HO.ext λh => ..) -/|ext(φ:Heap->Prop)
abbrev Hp:=Addr->Option HO
noncomputable def upd(H:Hp)(a:Addr)(o:HO):Hp:=λb=>if b=a then some o else H b
def aq{H a o}:upd H a o a=some o:=by unfold upd;rw[ago rfl]
def ai{H a b o}(h:b≠a):upd H a o b=H b:=by unfold upd;rw[agq h]
def aeh{H:Hp}{a b o u}(h:H a=some o)(h':H b=some u)(d:o≠u):a≠b:=by grind
def aJ{H:Hp}{a b o}(h:H a=some o)(h':H b=none):a≠b:=by grind
def TabAt(H:Hp)(h:Heap)(a:Addr)(ps:Array Value):Prop:=h.get? a=some {cls:=.none,data:=.fields #[]}\/∃(c:Addr)(q:Str)(t:Tok),H c=some (.own a)/\ps[2]?=some (.str q t)/\h.get? a=some {cls:=.none,data:=.fields #[ps.getD 0 .none,ps.getD 1 .none,.ref c]}/\h.CodeRec (.ref c) q
section
variable(P:Program)(w:World)
def bS(H:Hp)(h:Heap)(a:Addr):HO->Prop|.lst c=>c.length<=sizeLine/\∃(b:List Value)(n:Nat),Vals c b/\h.get? a=some {cls:=.type "list",data:=.seq b.toArray n}|.tup c=>c.length<=sizeLine/\∃b:List Value,Vals c b/\IsTup h a b.toArray|.dK kvs=>kvs.length<=sizeLine/\(a==sysModules)=false/\∃g,KV kvs g/\h.DictOf (bP P w) a g|.dT kvs=>kvs.length<=sizeLine/\(a==sysModules)=false/\∃c:List (List Key×Addr×Value),Paired (λ(p:List Key×V)(q:List Key×Addr×Value)=>p.1=q.1/\H q.2.1=some (.tup (p.1.map kV))/\RelV p.2 q.2.2) kvs c/\∃o j k,h.get? a=some o/\o.ExactDict/\o.data=.dict j k/\j.toList=c.map (entryOfKey (tupleKind (bP P w)))/\(c.map (·.1)).Nodup|.set S n=>h.SetOf (intKind P w) a S n|.ins C dx fs=>H dx=some (.own a)/\fs.length<=1000/\dx≠a/\h.get? a=some (W.instObj C dx)/\∃d,h.Ns1 dx d/\(∀f,qz (fs.lookup f) (d f))/\PySem.Within d (fs.map (·.1))|.own _=>∃o,h.get? a=some o|.xd fs=>∃d,h.Ns1 a d/\∀f,qz (fs.lookup f) (d f)|.rng lo hi=>∃t u v,h.get? a=some {cls:=.type "range",data:=.fields #[.int lo t,.int hi u,.int 1 v]}|.frz o u=>h.get? a=some o/\bS H h a u|.tbl ps=>h.get? a=some {cls:=.none,data:=.fields ps}|.tab ps=>TabAt H h a ps|.met f x=>h.get? a=some (W.methodObj (.ref f) (.ref x))|.ext φ=>φ h/\(∃o,h.get? a=some o)/\∀i e:Heap,φ i->(∀o,i.get? a=some o->e.get? a=some o)->φ e
def HOk(H:Hp)(h:Heap):Prop:=∀a o,H a=some o->bS P w H h a o
end
section
variable{P:Program}{w:World}{H H':Hp}{h h':Heap}{a:Addr}{o:HO}
theorem bS.lt(x:bS P w H h a o):a<h.objs.size:=by cases o with|lst xs=>obtain⟨_,_,_,_,e⟩:=x;exact agt e|tup xs=>obtain⟨_,_,_,p⟩:=x;exact p.lt|dK kvs|dT kvs=>obtain⟨_,_,_,_,o,_,_,e,_⟩:=x;exact agt e|set S n=>obtain⟨o,_,_,_,e,_⟩:=x;exact agt e|ins C dx fs=>obtain⟨_,_,_,e,_⟩:=x;exact agt e|own y=>obtain⟨_,e⟩:=x;exact agt e|xd fs=>obtain⟨_,⟨_,_,_,e,_⟩,_⟩:=x;exact agt e|rng lo hi=>obtain⟨_,_,_,e⟩:=x;exact agt e|frz ob u=>obtain⟨e,_⟩:=x;exact agt e|tbl ps|met f y=>exact agt x|tab ps=>rcases x with e|⟨_,_,_,_,_,e,_⟩<;>exact agt e|ext φ=>obtain⟨_,⟨_,e⟩,_⟩:=x;exact agt e
theorem Paired.yZ{c d F G}:∀{l₁:List c}{l₂:List d},Paired F l₁ l₂->(∀a b,F a b->G a b)->Paired G l₁ l₂|_,_,.nil,_=>.nil|_,_,.cons r t,f=>.cons (f _ _ r) (Paired.yZ t f)
def Paired.imp'{c d:Type}{F G:c->d->Prop}(f:∀a b,F a b->G a b){l₁:List c}{l₂:List d}(r:Paired F l₁ l₂):Paired G l₁ l₂:=Paired.yZ r f
def bS.jV(x:bS P w H h a o)(k:∀b u,b=a\/H b=some (.own a)->h.get? b=some u->h'.get? b=some u)(B:∀b,H b=some (.own a)->H' b=some (.own a))(ht:∀b l,H b=some (.tup l)->H' b=some (.tup l)):bS P w H' h' a o:=by
 induction o with|lst l=>obtain⟨z,j,n,r,e⟩:=x;exact⟨z,j,n,r,k _ _ (.inl rfl) e⟩|tup l=>obtain⟨z,j,r,ob,e,c⟩:=x;exact⟨z,j,r,ob,k _ _ (.inl rfl) e,c⟩|dK kvs=>obtain⟨z,y,s,r,ob,g,i,e,c⟩:=x;exact⟨z,y,s,r,ob,g,i,k _ _ (.inl rfl) e,c⟩|dT kvs=>obtain⟨z,y,l,r,ob,g,i,e,c⟩:=x;exact⟨z,y,l,Paired.yZ r λp q z=>⟨z.1,ht _ _ z.2.1,z.2.2⟩,ob,g,i,k _ _ (.inl rfl) e,c⟩|set S n=>obtain⟨ob,g,i,t,e,c⟩:=x;exact⟨ob,g,i,t,k _ _ (.inl rfl) e,c⟩|ins C dx fs=>obtain⟨d,z,K,e,m,⟨od,g,i,A,c⟩,r⟩:=x;exact⟨B _ d,z,K,k _ _ (.inl rfl) e,m,⟨od,g,i,k _ _ (.inr d) A,c⟩,r⟩|own y=>obtain⟨ob,e⟩:=x;exact⟨ob,k _ _ (.inl rfl) e⟩|xd fs=>obtain⟨m,⟨od,g,i,e,c⟩,r⟩:=x;exact⟨m,⟨od,g,i,k _ _ (.inl rfl) e,c⟩,r⟩|rng lo hi=>obtain⟨t,u,v,e⟩:=x;exact⟨t,u,v,k _ _ (.inl rfl) e⟩|frz ob u ih=>obtain⟨e,q⟩:=x;exact⟨k _ _ (.inl rfl) e,ih q⟩|tab ps=>
 rcases x with e|⟨c,q,t,D,J,e,M,G,s,tq,A,E,I⟩;.exact .inl (k a _ (.inl rfl) e)
 .cases A;exact .inr ⟨c,q,t,B c D,J,k a _ (.inl rfl) e,c,G,s,tq,rfl,k c _ (.inr D) E,I⟩|tbl ps=>have e:=x;exact k a _ (.inl rfl) e|met f y=>have e:=x;exact k a _ (.inl rfl) e|ext φ=>obtain⟨p,⟨o,e⟩,st⟩:=x;exact⟨st _ _ p λo q=>k _ _ (.inl rfl) q,⟨o,k _ _ (.inl rfl) e⟩,st⟩
theorem HOk.lt(x:HOk P w H h)(e:H a=some o):a<h.objs.size:=(x a o e).lt
def HOk.fresh(x:HOk P w H h)(e:h.objs.size<=a):H a=none:=by cases q:H a with|none=>rfl|some u=>exact absurd (agv (x.lt q) e) (ahL _)
def HOk.kept(x:HOk P w H h)(k:∀b u,h.get? b=some u->h'.get? b=some u):HOk P w H h':=λa o e=>(x a o e).jV (λb u _ q=>k b u q) (λ_ q=>q) λ_ _ q=>q
def HOk.laid(x:HOk P w H h)(k:∀b u,h.get? b=some u->h'.get? b=some u)(g:h.objs.size<=a)(new:bS P w (upd H a o) h' a o):HOk P w (upd H a o) h':=λb u e=>by
 have d:=x.fresh g;by_cases f:b=a;.subst f;rw[aq]at e;cases e;exact new
 .rw[ai f]at e;exact(x b u e).jV (λc v _ q=>k c v q) (λc q=>by rw[ai (aJ q d)];exact q) λc i q=>by rw[ai (aJ q d)];exact q
end
def Rd(H:Hp)(a:Addr)(u:HO):Prop:=H a=some u\/∃o,H a=some (.frz o u)
def Rd.ok{P w H h a u}(r:Rd H a u)(x:HOk P w H h):bS P w H h a u:=by
 rcases r with r|⟨o,r⟩;.exact x a u r
 .obtain⟨_,q⟩:=x a _ r;exact q
def Mut:Option HO->Prop|some (.lst _)=>True|some (.dK _)=>True|some (.dT _)=>True|some (.set _ _)=>True|some (.ins _ _ _)=>True|some (.ext _)=>True|_=>False
section
variable{P:Program}{w:World}{H:Hp}{h h':Heap}{x e:Addr}{o':HO}
def HOk.write(ok:HOk P w H h)(f:Mut (H x))(n:e=x\/H e=some (.own x))(k:∀b u,b≠e->h.get? b=some u->h'.get? b=some u)(j:∃u,h'.get? e=some u)(new:bS P w (upd H x o') h' x o'):HOk P w (upd H x o') h':=λb u q=>by
 have a:∀c y,H c=some (.own y)->c≠x:=λc y r z=>by subst z;rw[r]at f;exact f
 by_cases g:b=x;.subst g;rw[aq]at q;cases q;exact new
 .rw[ai g]at q;by_cases i:b=e
  .have m:H b=some (.own x):=by grind
   rw[q]at m;cases m;obtain⟨v,o⟩:=j;exact⟨v,by grind⟩
  .refine(ok b u q).jV (λc v d r=>k c v ?_ r) (λc r=>by rw[ai (a c b r)];exact r) λc l r=>by rw[ai ((λc l r z=>by subst z;rw[r]at f;exact f) c l r)];exact r
   rcases d with rfl|d;.exact i
   .rintro rfl;rcases n with z|z;.exact a c b d z
    .rw[d]at z;cases z;exact g rfl
end
structure Un(fs ex:List Addr)(H H':Hp)(h h':Heap):Prop where
 keep:∀b o,h.get? b=some o->H b=none->b∉fs->b∉ex->h'.get? b=some o
 slot:∀b o,h.get? b=some o->H b=none->b∈fs->b∉ex->∃sl,h'.get? b=some {o with slots:=sl}free:∀b o,h.get? b=some o->H b=none->b∉ex->H' b=none
 there:∀b o,h.get? b=some o->b∉ex->∃o',h'.get? b=some o'
 tups:∀b xs,H b=some (.tup xs)->H' b=some (.tup xs)frzs:∀b o u,H b=some (.frz o u)->H' b=some (.frz o u)tbls:∀b ps,H b=some (.tbl ps)->∃more,H' b=some (.tbl (ps++more))
section
variable{fs fs' ex ex':List Addr}{H H1 H2:Hp}{h h1 h2 h':Heap}{a x e:Addr}{o:HO}
def Un.any(u:Un fs ex H H1 h h1){b ob}(q:h.get? b=some ob)(n:H b=none)(c:b∉ex):∃f,h1.get? b=some {ob with slots:=f}:=by
 by_cases d:b∈fs;.exact u.slot b _ q n d c
 .exact⟨_,u.keep b _ q n d c⟩
def Un.trans(a:Un fs ex H H1 h h1)(b:Un fs ex H1 H2 h1 h2):Un fs ex H H2 h h2 where
 keep:=λc ob q n hc hx=>b.keep c ob (a.keep c ob q n hc hx) (a.free c ob q n hx) hc hx;slot:=λc ob q n hc hx=>by obtain⟨sl,e1⟩:=a.slot c ob q n hc hx;obtain⟨sl',e2⟩:=b.slot c _ e1 (a.free c ob q n hx) hc hx;exact⟨sl',e2⟩
 free:=λc ob q n hx=>by obtain⟨o',e1⟩:=a.there c ob q hx;exact b.free c o' e1 (a.free c ob q n hx) hx
 there:=λc ob q hx=>by obtain⟨o',e1⟩:=a.there c ob q hx;exact b.there c o' e1 hx
 tups:=λc xs q=>b.tups c xs (a.tups c xs q);frzs:=λc ob xs q=>b.frzs c ob xs (a.frzs c ob xs q);tbls:=λc ps q=>by obtain⟨m1,e1⟩:=a.tbls c ps q;obtain⟨m2,e2⟩:=b.tbls c _ e1;exact⟨m1++m2,by rw[e2,Array.append_assoc]⟩
def Un.kept(k:∀b u,h.get? b=some u->h'.get? b=some u):Un fs ex H H h h':=⟨λb ob q _ _ _=>k b ob q,λb ob q _ _ _=>⟨ob.slots,k b ob q⟩,λ_ _ _ n _=>n,λb ob q _=>⟨ob,k b ob q⟩,λ_ _ q=>q,λ_ _ _ q=>q,λ_ ps q=>⟨#[],by rw[q];simp⟩⟩
def Un.refl:Un fs ex H H h h:=Un.kept λ_ _ q=>q
def Un.laid(k:∀b u,h.get? b=some u->h'.get? b=some u)(hp:h.objs.size<=a)(hn:H a=none):Un fs ex H (upd H a o) h h' where
 keep:=λb u q _ _ _=>k b u q;slot:=λb u q _ _ _=>⟨u.slots,k b u q⟩;free:=λb u q n _=>by rw[ai (agz (agv (agt q) hp))];exact n
 there:=λb u q _=>⟨u,k b u q⟩;tups:=λb xs q=>by rw[ai (aJ q hn)];exact q
 frzs:=λb u xs q=>by rw[ai (aJ q hn)];exact q
 tbls:=λb ps q=>⟨#[],by rw[ai (aJ q hn),q];simp⟩
def Un.write(g:Mut (H x))(p:e=x\/H e=some (.own x))(k:∀b u,b≠e->h.get? b=some u->h'.get? b=some u)(f:∃u,h'.get? e=some u):Un fs ex H (upd H x o) h h':=by
 have l:∀b,H b=none->b≠x:=λb n z=>by subst z;rw[n]at g;exact g
 have i:∀b,H b=none->b≠e:=λb n z=>by grind
 have d:∀b u,H b=some u->¬Mut (some u)->b≠x:=λb u q m z=>by grind
 refine⟨λb u q n _ _=>k b u (i b n) q,λb u q n _ _=>⟨u.slots,k b u (i b n) q⟩,λb u q n _=>by rw[ai (l b n)];exact n,λb u q _=>?_,λb j q=>by rw[ai (d b _ q λz=>z)];exact q,λb u j q=>by rw[ai (d b _ q λz=>z)];exact q,λb ps q=>⟨#[],by rw[ai (d b _ q λz=>z),q];simp⟩⟩;by_cases c:b=e;.subst c;exact f
 .exact⟨u,k b u c q⟩
def Un.mono(u:Un fs ex H H1 h h1)(hs:∀b∈fs,b∈fs')(d:∀b∈ex,b∈ex'):Un fs' ex' H H1 h h1:=⟨λb ob q n f c=>u.keep b ob q n (λz=>f (hs b z)) λz=>c (d b z),λ_ _ q n _ c=>u.any q n λz=>c (d _ z),λb ob q n c=>u.free b ob q n λz=>c (d b z),λb ob q c=>u.there b ob q λz=>c (d b z),u.tups,u.frzs,u.tbls⟩
end
noncomputable def trk(h:Heap)(H:Hp):List Addr:=(List.range h.objs.size).filter λa=>(H a).isSome
def tH(h:Heap)(H:Hp):Heap:=W.hideAll h (trk h H)
def tG(h)(H):(tH h H).objs.size=h.objs.size:=W.hideAll_size _ _
def o5{h H b o}(e:h.get? b=some o)(n:H b=none):(tH h H).get? b=some o:=W.hideAll_get _ e λa=>by have q:=(ahe.mp a).2;rw[n]at q;simp at q
def yU{h H b o}(e:(tH h H).get? b=some o):h.get? b=some o/\H b=none:=by have a:=W.of_hideAll _ e;refine⟨a,?_⟩;cases q:H b with|none=>rfl|some x=>have z:(tH h H).get? b=none:=W.hideAll_none _ (ahe.mpr ⟨agB.mpr (agt a),by grind⟩);rw[z]at e;cases e
noncomputable def dU(g h:Heap)(L:Addr):List (Addr×Obj):=(List.range h.objs.size).filterMap λa=>if a=L\/(g.get? a).isSome=true then none else(h.get? a).map λo=>(a,o)
def cx{g h:Heap}{L a:Addr}{o:Obj}(d:a≠L)(c:g.get? a=none)(b:h.get? a=some o):(a,o)∈dU g h L:=ag5.mpr ⟨a,agB.mpr (agt b),by simp[d,c,b]⟩
def jc{g h:Heap}{L:Addr}{p:Addr×Obj}(c:p∈dU g h L):p.1≠L/\g.get? p.1=none/\h.get? p.1=some p.2:=by
 obtain⟨b,_,e⟩:=ag5.mp c;split at e;.cases e
 .rename_i a;cases q:h.get? b with|none=>rw[q]at e;simp at e|some u=>rw[q]at e;simp only[aje,aiU]at e;subst e;refine⟨λz=>a (.inl z),?_,q⟩;show g.get? b=none;cases r:g.get? b with|none=>rfl|some v=>exact(a (.inr (by simp[r]))).elim
def rest(g h:Heap)(L d:Addr):List (Addr×Obj):=(dU g h L).filter λp=>decide (p.1≠d)
def gS{g h:Heap}{L:Addr}:News g L h (dU g h L):=λp d=>let⟨a,b,c⟩:=jc d;⟨c,a,b⟩
structure Mod(K:W.Frag)(mg:Str->Option Value)(base:Heap):Prop where
 kin:K.In base
 glob:base.Ns mainGlobals mg
 blt:∃mb,base.Ns builtinsNs mb/\∀x:Str,x≠"__name__"->mb x=bootBuiltins x
 nolimit:base.NoLimit
structure Cx where
 prog:Program
 w:World
 K:W.Frag
 mg:Str->Option Value
 base:Heap
 A:Around
 N:List Str
 s₀:Shared
 H₀:Hp
 env:Env
 outer:List Env
 stack:List Env
 ex:List Addr
 fn:Str->Bool
 calm:Bool
 pn:List (Addr×Obj)xe:Value->Shared->Prop
noncomputable def frs(l:List Env):List Addr:=l.filterMap (·.frame)
abbrev Cx.fs(X:Cx):List Addr:=frs X.outer
def Vis(a:Scope)(x:Str):Prop:=a.names.lookup x=some .local\/a.names.lookup x=some .cell\/a.names.lookup x=some .free
def Loc(a:Scope)(x:Str):Prop:=a.names.lookup x=some .local\/a.names.lookup x=some .cell
def Look(a:Env)(h:Heap)(m:Str->Option Value)(x:Str)(u:Value):Prop:=a.kindOf x=some .local/\m x=some u\/(a.kindOf x=some .cell\/a.kindOf x=some .free)/\∃c,a.cells.lookup x=some c/\h.IsCell c (some u)
abbrev Dbg(x:Str):Prop:=(x==("__debug__":Str))=false
abbrev SE(X:Cx)(e:Expr)(es:List Expr):Prop:=starEach (e::es) X.env=(false,eval e X.env)::starEach es X.env
abbrev BT(X:Cx)(p:Pos)(es:List Expr):Prop:=(backTo p (starEach es X.env)).any (·.1)=false
abbrev FL(X:Cx)(x:Str):Prop:=X.fn x=true\/X.env.scope.names.lookup x=some .local
structure Cx.Ok(X:Cx):Prop where
 mod:Mod X.K X.mg X.base
 kind:X.env.scope.kind=.function
 glob:X.env.globals=mainGlobals
 blt:X.env.builtins=builtinsNs
 above:X.s₀.heap.objs.size<=X.env.locals
 inj:∀x y c,X.env.cells.lookup x=some c->X.env.cells.lookup y=some c->x=y
 has:∀x,X.env.kindOf x=some .cell\/X.env.kindOf x=some .free->∃c,X.env.cells.lookup x=some c
 cab:∀x c,X.fn x=true->X.env.cells.lookup x=some c->X.s₀.heap.objs.size<=c
 hd:X.calm=true->X.A.handled=none
 frames:X.A.frames=some X.stack
 stk:X.stack=X.outer\/X.stack=X.env::X.outer/\X.env.frame=some X.env.locals
 exf:∀b∈X.ex,b≠X.env.locals/\∀x c,X.env.cells.lookup x=some c->c≠b
 bs:∀b o,X.base.get? b=some o->X.s₀.heap.get? b=some o/\X.H₀ b=none
 bsz:X.base.objs.size<=X.s₀.heap.objs.size
 noex:∀b o,X.base.get? b=some o->b∉X.ex
 exfs:∀b∈X.ex,b∉X.fs
 jF:X.s₀.heap.FunFrames X.base X.outer
 frf:∀b∈X.fs,X.H₀ b=none
structure Inv(X:Cx)(pins:List (Addr×Obj))(σ:List (Option V))(H:Hp)(s:Shared):Prop where
 ok:X.Ok
 os:s.os=X.s₀.os
 bare:AllBare s.gens
 base:Un X.fs X.ex X.H₀ H X.s₀.heap s.heap
 loc:∃m,s.heap.Ns X.env.locals m/\∀(i:Nat)(x:Str)(v:V),X.N[i]?=some x->σ[i]?=some (some v)->Vis X.env.scope x->∃u,RelV v u/\Look X.env s.heap m x u
 cell:∀x c,X.env.cells.lookup x=some c->∃v,s.heap.IsCell c v
 free:H X.env.locals=none
 freeC:∀x c,X.env.cells.lookup x=some c->H c=none
 pin:∀p∈X.pn++pins,s.heap.get? p.1=some p.2/\H p.1=none/\p.1≠X.env.locals/\p.1∉X.fs/\∀v,p.2.data≠.cell v
 hok:HOk X.prog X.w H s.heap
 len:σ.length=X.N.length
section
variable{X:Cx}{pins:List (Addr×Obj)}{σ:List (Option V)}{H H':Hp}{s:Shared}{h':Heap}
def Cx.Ok.af4(ok:X.Ok){b o}(e:X.base.get? b=some o):b∉X.fs:=λa=>by have:=(ok.jF.mem a).1;rw[e]at this;cases this
theorem Inv.bs(I:Inv X pins σ H s):∀b o,X.base.get? b=some o->s.heap.get? b=some o/\H b=none:=λb o e=>⟨I.base.keep b o (I.ok.bs b o e).1 (I.ok.bs b o e).2 (I.ok.af4 e) (I.ok.noex b o e),I.base.free b o (I.ok.bs b o e).1 (I.ok.bs b o e).2 (I.ok.noex b o e)⟩
def Inv.bk(I:Inv X pins σ H s):∀b o,X.base.get? b=some o->s.heap.get? b=some o:=λb o e=>(I.bs b o e).1
theorem Inv.mod(I:Inv X pins σ H s):Mod X.K X.mg X.base:=I.ok.mod
def Inv.kIn(I:Inv X pins σ H s):X.K.In s.heap:=I.ok.mod.kin.keeps I.bk
def Inv.fr(I:Inv X pins σ H s):∃m,Fr X.base X.env.locals s.heap m:=let⟨m,a,_⟩:=I.loc;⟨m,a,I.bk,agy I.ok.bsz I.ok.above⟩
theorem Inv.lt(I:Inv X pins σ H s):X.env.locals<s.heap.objs.size:=let⟨_,a,_⟩:=I.loc;a.lt
def Inv.sz(I:Inv X pins σ H s):X.s₀.heap.objs.size<=s.heap.objs.size:=agy I.ok.above (ahl I.lt)
def Inv.z7(I:Inv X pins σ H s){a:Addr}(h:s.heap.objs.size<=a):a∉X.fs:=λb=>by obtain⟨_,o,c,_⟩:=I.ok.jF.mem b;exact absurd (agv (agt c) (agy I.sz h)) (ahL _)
def Inv.cne(I:Inv X pins σ H s):∀x c,X.env.cells.lookup x=some c->c≠X.env.locals:=λx c e z=>by obtain⟨v,o,f,d⟩:=I.cell x c e;obtain⟨m,⟨g,h,i,b,a,_⟩,_⟩:=I.loc;rw[z,b]at f;cases f;rw[a]at d;cases d
theorem Inv.jF(I:Inv X pins σ H s):s.heap.FunFrames X.base X.outer:=by
 have all:∀(l),(∀b∈frs l,b∈X.fs)->X.s₀.heap.FunFrames X.base l->s.heap.FunFrames X.base l:=by intro l;induction l with|nil=>intro _ _;trivial|cons env r ih=>intro f k;obtain⟨j,⟨L,o,a,h,m,i⟩,g⟩:=k;have d:=f L (by unfold frs;rw[agU,a];exact agD);obtain⟨n,e⟩:=I.base.slot L o m (I.ok.frf L d) d λz=>I.ok.exfs L z d;exact⟨j,zV L _ a h e i,ih (λb c=>f b (by unfold frs;rw[agU,a];exact agw _ c)) g⟩
 exact all _ (λ_ c=>c) I.ok.jF
theorem Inv.stack(I:Inv X pins σ H s):s.heap.FunFrames X.base X.stack:=by
 rcases I.ok.stk with e|⟨e,a⟩;.rw[e];exact I.jF
 .rw[e];obtain⟨m,b,_⟩:=I.loc;exact .cons (by rw[I.ok.kind];decide) a b (ag6 (agy I.ok.bsz I.ok.above)) I.jF
def Inv.oo(I:Inv X pins σ H s):∀b∈frs X.stack,b∈X.env.locals::X.fs:=λb a=>by
 rcases I.ok.stk with e|⟨e,c⟩;.rw[e]at a;exact agw _ a
 .rw[e]at a;unfold frs at a;rw[agU,c]at a;exact a
def Inv.ig(I:Inv X pins σ H s):∀b∈frs X.stack,H b=none:=λb a=>by
 rcases ags.mp (I.oo b a)with e|a;.rw[e];exact I.free
 .obtain⟨_,o,c,_⟩:=I.ok.jF.mem a;exact I.base.free b o c (I.ok.frf b a) λz=>I.ok.exfs b z a
def Inv.jU{g' t' d'}{ch:List Addr}(I:Inv X pins σ H s)(f:∀b∈ch,(b∈X.ex\/X.s₀.heap.get? b=none)/\b≠X.env.locals/\(∀x c,X.env.cells.lookup x=some c->c≠b)/\∀p∈X.pn++pins,p.1≠b)(keep:∀b o,b≠X.env.locals->b∉X.fs->b∉ch->s.heap.get? b=some o->H b=none->h'.get? b=some o)(y:∀b o,b≠X.env.locals->b∈X.fs->b∉ch->s.heap.get? b=some o->H b=none->∃O,h'.get? b=some {o with slots:=O})(free:∀b o,b∉ch->s.heap.get? b=some o->H b=none->H' b=none)(there:∀b o,b∉ch->s.heap.get? b=some o->∃E,h'.get? b=some E)(G:∀b w,H b=some (.tup w)->H' b=some (.tup w))(C:∀b o u,H b=some (.frz o u)->H' b=some (.frz o u))(D:∀b ps,H b=some (.tbl ps)->∃M,H' b=some (.tbl (ps++M)))(ns:∀m,s.heap.Ns X.env.locals m->h'.Ns X.env.locals m)(Q:HOk X.prog X.w H' h')(hg:AllBare g'):Inv X pins σ H' {s with heap:=h',gens:=g',drawn:=d',toks:=t'}:=by
 have J:∀b o,X.s₀.heap.get? b=some o->b≠X.env.locals:=λb o e=>agz (agv (agt e) I.ok.above);have j:∀b o,X.s₀.heap.get? b=some o->b∉X.ex->b∉ch:=λb o e a A=>by
  rcases(f b A).1 with z|z;.exact a z
  .rw[z]at e;cases e
 have g:∀x c,X.env.cells.lookup x=some c->∀v,s.heap.IsCell c v->h'.IsCell c v:=λx c e v⟨o,B,N⟩=>by
  have h:c∉ch:=λz=>(f c z).2.2.1 x c e rfl;by_cases R:c∈X.fs;.obtain⟨O,q⟩:=y c o (I.cne x c e) R h B (I.freeC x c e);exact⟨_,q,N⟩
  .exact⟨o,keep c o (I.cne x c e) R h B (I.freeC x c e),N⟩
 refine⟨I.ok,I.os,hg,⟨λb o e n A a=>?_,λb o e n A a=>?_,λb o e n a=>?_,λb o e a=>?_,λb w e=>G b w (I.base.tups b w e),λb o w e=>C b o w (I.base.frzs b o w e),λb ps e=>?_⟩,?_,λx c e=>?_,?_,λx c e=>?_,λp S=>?_,Q,I.len⟩;.exact keep b o (J b o e) A (j b o e a) (I.base.keep b o e n A a) (I.base.free b o e n a)
 .obtain⟨O,t⟩:=I.base.slot b o e n A a;obtain⟨P,K⟩:=y b _ (J b o e) A (j b o e a) t (I.base.free b o e n a);exact⟨P,K⟩
 .obtain⟨E,t⟩:=I.base.there b o e a;exact free b E (j b o e a) t (I.base.free b o e n a)
 .obtain⟨E,t⟩:=I.base.there b o e a;exact there b E (j b o e a) t
 .obtain⟨Z,t⟩:=I.base.tbls b ps e;obtain⟨Y,K⟩:=D b _ t;exact⟨Z++Y,by rw[K,Array.append_assoc]⟩
 .refine gD I.loc λm hn hl=>?_;refine⟨m,ns m hn,λi x v t K e3=>?_⟩;obtain⟨u,r,l⟩:=hl i x v t K e3;refine⟨u,r,?_⟩;rcases l with l|⟨k,c,e,z⟩;.exact .inl l
  .exact .inr ⟨k,c,e,g x c e _ z⟩
 .obtain⟨v,z⟩:=I.cell x c e;exact⟨v,g x c e v z⟩
 .obtain⟨m,⟨o,_,_,B,_⟩,_⟩:=I.loc;exact free _ o (λz=>(f _ z).2.1 rfl) B I.free
 .obtain⟨v,o,B,N⟩:=I.cell x c e;exact free c o (λz=>(f c z).2.2.1 x c e rfl) B (I.freeC x c e)
 .refine acC (I.pin p S) λe n T U d=>?_;have h:p.1∉ch:=λz=>(f p.1 z).2.2.2 p S rfl;exact⟨keep p.1 p.2 T U h e n,free p.1 p.2 h e n,T,U,d⟩
def Inv.step{g' t' d' h' H'}{ch:List Addr}(I:Inv X pins σ H s)(a:∀b∈ch,(b∈X.ex\/X.s₀.heap.objs.size<=b)/\b≠X.env.locals/\(∀x c,X.env.cells.lookup x=some c->c≠b)/\∀p∈X.pn++pins,p.1≠b):=I.jU (g':=g') (t':=t') (d':=d') (h':=h') (H':=H') λb d=>⟨(a b d).1.imp_right ag6,(a b d).2⟩
def Inv.un{t'}(I:Inv X pins σ H s)(u:Un X.fs [] H H' s.heap h')(d:HOk X.prog X.w H' h'):Inv X pins σ H' {s with heap:=h',toks:=t'}:=by obtain⟨m,⟨o,q,t,f,r⟩,_⟩:=id I.loc;obtain⟨l,h⟩:=u.any f I.free (by simp);exact I.step (ch:=[]) (λ_ z=>nomatch z) (λb o _ c _ e n=>u.keep b o e n c (by simp)) (λb o _ c _ e n=>u.slot b o e n c (by simp)) (λb o _ e n=>u.free b o e n (by simp)) (λb o _ e=>u.there b o e (by simp)) u.tups u.frzs u.tbls (λp k=>by refine uR k λv j i a g=>?_;rw[f]at a;cases a;exact zU _ _ _ h g) d I.bare
def Inv.call{g' t' d' ch}(I:Inv X pins σ H s)(u:Un (frs X.stack) ch H H' s.heap h')(h:HOk X.prog X.w H' h')(l:AllBare g')(f:∀b∈ch,(b∈X.ex\/X.s₀.heap.objs.size<=b)/\b≠X.env.locals/\(∀x c,X.env.cells.lookup x=some c->c≠b)/\∀p∈X.pn++pins,p.1≠b):Inv X pins σ H' {s with heap:=h',gens:=g',drawn:=d',toks:=t'}:=by obtain⟨m,⟨o,A,B,i,r⟩,_⟩:=id I.loc;obtain⟨w,g⟩:=u.any i I.free λz=>(f _ z).2.1 rfl;exact I.step f (λb o g k a e n=>u.keep b o e n (λz=>(ags.mp (I.oo b z)).elim g k) a) (λb o _ _ a e n=>u.any e n a) (λb o a e n=>u.free b o e n a) (λb o a e=>u.there b o e a) u.tups u.frzs u.tbls (λy v=>by refine uR v λC t q d j=>?_;rw[i]at d;cases d;exact zU _ _ _ g j) h l
def Inv.turned{t' it}(I:Inv X pins σ H s)(k:∀b o,b≠it->s.heap.get? b=some o->h'.get? b=some o)(A:H it=none)(f:it≠X.env.locals)(i:it∈X.ex\/X.s₀.heap.objs.size<=it)(g:∀x c,X.env.cells.lookup x=some c->c≠it)(w:∀p∈X.pn++pins,p.1≠it):Inv X pins σ H {s with heap:=h',toks:=t'}:=by
 have d:∀b u,H b=some u->b≠it:=λb u e z=>by grind
 refine I.step (g':=s.gens) (ch:=[it]) (λb h=>?_) (λb o _ _ a e _=>k b o (λz=>a (by simp[z])) e) (λb o _ _ a e _=>⟨o.slots,k b o (λz=>a (by simp[z])) e⟩) (λ_ _ _ _ n=>n) (λb o a e=>⟨o,k b o (λz=>a (by simp[z])) e⟩) (λ_ _ e=>e) (λ_ _ _ e=>e) (λb ps e=>⟨#[],by rw[e];simp⟩) (λm t=>?_) (λb u e=>?_) I.bare
 .have e:b=it:=by simpa using h
  subst e;exact⟨i,f,g,w⟩
 .refine uR t λo j l y r=>?_;exact zU o j l (k _ o (agG f) y) r
 .refine(I.hok b u e).jV (λc v a q=>k c v ?_ q) (λ_ q=>q) λ_ _ q=>q;rcases a with z|z;.rw[z];exact d b u e
  .exact d c _ z
def Inv.tok(I:Inv X pins σ H s)(t):Inv X pins σ H {s with toks:=t}:=I.un  Un.refl I.hok
theorem Inv.kept{t'}(I:Inv X pins σ H s)(k:∀b u,s.heap.get? b=some u->h'.get? b=some u):Inv X pins σ H {s with heap:=h',toks:=t'}:=I.un (Un.kept k) (I.hok.kept k)
theorem Inv.laid{a:Addr}{o t'}(I:Inv X pins σ H s)(k:∀b u,s.heap.get? b=some u->h'.get? b=some u)(c:s.heap.objs.size<=a)(new:bS X.prog X.w (upd H a o) h' a o):Inv X pins σ (upd H a o) {s with heap:=h',toks:=t'}:=I.un (Un.laid k c (I.hok.fresh c)) (I.hok.laid k c new)
theorem Inv.write{x e o t'}(I:Inv X pins σ H s)(d:Mut (H x))(c:e=x\/H e=some (.own x))(k:∀b u,b≠e->s.heap.get? b=some u->h'.get? b=some u)(a:∃u,h'.get? e=some u)(new:bS X.prog X.w (upd H x o) h' x o):Inv X pins σ (upd H x o) {s with heap:=h',toks:=t'}:=I.un (Un.write d c k a) (I.hok.write d c k a new)
def Inv.fY{a}(I:Inv X pins σ H s)(h:∀p∈a,s.heap.get? p.1=some p.2/\H p.1=none/\p.1≠X.env.locals/\p.1∉X.fs/\∀v,p.2.data≠.cell v):Inv X a σ H s:=⟨I.ok,I.os,I.bare,I.base,I.loc,I.cell,I.free,I.freeC,λp b=>(ahr.mp b).elim (λz=>I.pin p (ag0 _ z)) (h p),I.hok,I.len⟩
def kb{N:List Str}(e:N.Nodup){i j:Nat}{x}(a:N[i]?=some x)(b:N[j]?=some x):i=j:=by obtain⟨g,d⟩:=agu.mp a;obtain⟨f,c⟩:=agu.mp b;exact(List.getElem_inj e).mp (d.trans c.symm)
def ie{M A E i x v u Q}(I:Inv X pins σ H s)(hN:X.N.Nodup)(T:X.N[i]?=some x)(w:Loc X.env.scope x)(r:RelV v u)(h:∀s',Inv X pins (σ.set i (some v)) H s'->(∃a,Heap.SameBut a s.heap s'.heap/\(a=X.env.locals\/X.env.cells.lookup x=some a))->Q () s')(hf:FL X x:=by first|exact .inl rfl|exact .inr rfl|assumption):wpAny M A (storeName X.env x u) Q E s:=by
 refine gD (id I.loc) λm hn hl=>?_;have S:(X.env.scope.kind==.class||X.env.scope.kind==.module&&X.env.locals !=X.env.globals)=false:=by rw[I.ok.kind];rfl
 have D:i<σ.length:=by rw[I.len];exact(agu.mp T).1
 have cne:=I.cne;have g:∀{a:Addr}{h':Heap},(∃o,s.heap.get? a=some o/\H a=none)->Heap.SameBut a s.heap h'->HOk X.prog X.w H h':=λ{a h'}ha f b ob e=>by
  obtain⟨_,_,B⟩:=ha;refine(I.hok b ob e).jV (λc Y t q=>(f.2 c ?_).trans q) (λ_ q=>q) λ_ _ q=>q;rintro rfl;rcases t with rfl|t;.rw[B]at e;cases e
  .rw[B]at t;cases t
 rcases w with N|N
 .refine wpAny_storeName_local N hn (λh' a1 f=>?_) S;obtain⟨oL,_,_,a0,_⟩:=id hn;refine h _ ⟨I.ok,I.os,I.bare,⟨λb o e n J w=>?_,λb o e n J w=>?_,I.base.free,λb o e w=>?_,I.base.tups,I.base.frzs,I.base.tbls⟩,⟨_,a1,λj y v' l C e3=>?_⟩,λy c e=>?_,I.free,I.freeC,λp hp=>?_,g ⟨oL,a0,I.free⟩ f,by simpa using I.len⟩ ⟨_,f,.inl rfl⟩;.exact(f.2 b (agz (agv (agt e) I.ok.above))).trans (I.base.keep b o e n J w)
  .obtain⟨sl,l⟩:=I.base.slot b o e n J w;exact⟨sl,(f.2 b (agz (agv (agt e) I.ok.above))).trans l⟩
  .obtain⟨o',l⟩:=I.base.there b o e w;exact⟨o',(f.2 b (agz (agv (agt e) I.ok.above))).trans l⟩
  .by_cases G:j=i;.subst G;rw[T]at l;cases l;rw[agr D]at C;cases C;exact⟨u,r,.inl ⟨N,by simp⟩⟩
   .rw[agn (agG G)]at C;obtain⟨u',r',q⟩:=hl j y v' l C e3;refine⟨u',r',?_⟩;rcases q with⟨k,e⟩|⟨k,c,e,z⟩;.refine .inl ⟨k,?_⟩;have:y≠x:=λe=>G (kb hN l (e▸T));simp[this,e]
    .exact .inr ⟨k,c,e,z.sameBut f (cne y c e)⟩
  .obtain⟨Y,z⟩:=I.cell y c e;exact⟨Y,z.sameBut f (cne y c e)⟩
  .refine acC (I.pin p hp) λe n Z nf d=>?_;exact⟨(f.2 p.1 Z).trans e,n,Z,nf,d⟩
 .have K:X.fn x=true:=by grind
  obtain⟨c,t⟩:=I.ok.has x (.inl N);obtain⟨Y,z⟩:=I.cell x c t;refine wpAny_storeName_cell I.ok.kind N t z λh' R f=>?_;refine gD (id z) λoc O U=>?_;refine h {s with heap:=h'} ⟨I.ok,I.os,I.bare,⟨λb o e n J w=>?_,λb o e n J w=>?_,I.base.free,λb o e w=>?_,I.base.tups,I.base.frzs,I.base.tbls⟩,⟨m,hn.sameBut f (agG (cne x c t)),λj y v' l C e3=>?_⟩,λy c' e=>?_,I.free,I.freeC,λp hp=>?_,g ⟨oc,O,I.freeC x c t⟩ f,by simpa using I.len⟩ ⟨c,f,.inr t⟩;.exact(f.2 b (agz (agv (agt e) (I.ok.cab x c K t)))).trans (I.base.keep b o e n J w)
  .obtain⟨sl,l⟩:=I.base.slot b o e n J w;exact⟨sl,(f.2 b (agz (agv (agt e) (I.ok.cab x c K t)))).trans l⟩
  .obtain⟨o',l⟩:=I.base.there b o e w;exact⟨o',(f.2 b (agz (agv (agt e) (I.ok.cab x c K t)))).trans l⟩
  .by_cases G:j=i;.subst G;rw[T]at l;cases l;rw[agr D]at C;cases C;exact⟨u,r,.inr ⟨.inl N,c,t,R⟩⟩
   .rw[agn (agG G)]at C;obtain⟨u',r',q⟩:=hl j y v' l C e3;refine⟨u',r',?_⟩;rcases q with q|⟨k,c',e,z'⟩;.exact .inl q
    .refine .inr ⟨k,c',e,z'.sameBut f ?_⟩;rintro rfl;exact G (kb hN l (I.ok.inj _ _ _ e t▸T))
  .by_cases P:c'=c;.subst P;exact⟨_,R⟩
   .obtain⟨w2,z2⟩:=I.cell y c' e;exact⟨w2,z2.sameBut f P⟩
  .refine acC (I.pin p hp) λe n Z nf d=>?_;refine⟨(f.2 p.1 ?_).trans e,n,Z,nf,d⟩;intro q;rw[q,O]at e;have q':oc=p.2:=agS e;exact d Y (by rw[<-q'];exact U)
def om{M A E i x v u Q}(I:Inv X pins σ H s)(e:X.N.Nodup)(b:X.N[i]?=some x)(d:Loc X.env.scope x)(r:RelV v u)(h:∀a,Inv X pins (σ.set i (some v)) H a->Q () a)(c:FL X x:=by first|exact .inl rfl|exact .inr rfl|assumption):wpAny M A (storeName X.env x u) Q E s:=ie I e b d r (λa f _=>h _ f) c
def Inv.aco{s' ch}(I:Inv X pins σ H s)(f:s'.os=s.os)(u:Un (frs X.stack) ch H H' s.heap s'.heap)(a:HOk X.prog X.w H' s'.heap)(g:AllBare s'.gens)(d:∀b∈ch,(b∈X.ex\/X.s₀.heap.objs.size<=b)/\b≠X.env.locals/\(∀x c,X.env.cells.lookup x=some c->c≠b)/\∀p∈X.pn++pins,p.1≠b):Inv X pins σ H' s':=by obtain⟨h',k,i,j,h⟩:=s';have e:=f;subst e;exact I.call  u a g d
end
abbrev XK:=Value->Option Addr->Hp->Prop
abbrev St:=List (Option V)
abbrev VK:=V->Hp->Prop
abbrev TE:=St->Hp->VK->Prop
abbrev TT:=St->Hp->(Bool->Hp->Prop)->Prop
abbrev TA:=St->Hp->(List V->Hp->Prop)->Prop
structure Ends where
 nx:St->Hp->Prop
 rt:VK
 bk:St->Hp->Prop:=λ_ _=>False
 ct:St->Hp->Prop:=λ_ _=>False
abbrev TS:=Ends->St->Hp->Prop
def EP(X:Cx)(pins:List (Addr×Obj))(σ:St)(Q:VK)(u:Value)(s':Shared):Prop:=∃v a,Inv X pins σ a s'/\RelV v u/\Q v a
def TP(X:Cx)(pins:List (Addr×Obj))(σ:St)(Q:Bool->Hp->Prop)(b:Bool)(s':Shared):Prop:=∃a,Inv X pins σ a s'/\Q b a
def AP(X:Cx)(pins:List (Addr×Obj))(σ:St)(Q:List V->Hp->Prop)(us:List Value)(s':Shared):Prop:=∃b a,Inv X pins σ a s'/\Vals b us/\Q b a
def SP(X:Cx)(pins:List (Addr×Obj))(D:Ends)(f:Flow)(s':Shared):Prop:=match f with|.next=>∃a b,Inv X pins a b s'/\D.nx a b|.brk=>∃a b,Inv X pins a b s'/\D.bk a b|.cont=>∃a b,Inv X pins a b s'/\D.ct a b|.ret u=>∃v a b,Inv X pins a b s'/\RelV v u/\D.rt v b
def PE(X:Cx)(e:Expr)(t:TE):Prop:=∀(a:List (Addr×Obj))(s:Shared)(σ:St)(H:Hp)(Q:VK),Inv X a σ H s->t σ H Q->wpAny (model X.prog X.w) X.A (eval e X.env) (EP X a σ Q) X.xe s
def PT(X:Cx)(e:Expr)(t:TT):Prop:=∀(a:List (Addr×Obj))(s:Shared)(σ:St)(H:Hp)(Q:Bool->Hp->Prop),Inv X a σ H s->t σ H Q->wpAny (model X.prog X.w) X.A (isTrue e X.env (eval e X.env)) (TP X a σ Q) X.xe s
def PW(X:Cx)(e:Expr)(t:TT):Prop:=∀(b:Sem Value)(a:List (Addr×Obj))(s:Shared)(σ:St)(H:Hp)(Q:Bool->Hp->Prop),Inv X a σ H s->t σ H Q->wpAny (model X.prog X.w) X.A (isTrue e X.env b) (TP X a σ Q) X.xe s
def PW.pt{X e t}(h:PW X e t):PT X e t:=h _
def PA(X:Cx)(es:List Expr)(t:TA):Prop:=∀(b:Pos)(a:List (Addr×Obj))(s:Shared)(σ:St)(H:Hp)(Q:List V->Hp->Prop),Inv X a σ H s->t σ H Q->wpAny (model X.prog X.w) X.A (spliced (backTo b (starEach es X.env))) (AP X a σ Q) X.xe s
def PS(X:Cx)(st:Stmt)(t:TS):Prop:=∀(a:List (Addr×Obj))(s:Shared)(σ:St)(H:Hp)(D:Ends),Inv X a σ H s->t D σ H->wpAny (model X.prog X.w) X.A (exec st X.env) (SP X a D) X.xe s
def PSs(X:Cx)(st:List Stmt)(t:TS):Prop:=∀(a:List (Addr×Obj))(s:Shared)(σ:St)(H:Hp)(D:Ends),Inv X a σ H s->t D σ H->wpAny (model X.prog X.w) X.A (execs st X.env) (SP X a D) X.xe s
def thn{d t}{Q b:d->Shared->Prop}{M A E s}(h:wpAny M A t Q E s)(c:∀a s,Q a s->b a s):wpAny M A t b E s:=agN h c λ_ _ x=>x
section
variable{X:Cx}
def yd(i:Nat):TE:=λσ H Q=>∃v,σ[i]?=some (some v)/\Q v H
def tC(v:V):TE:=λ_ H Q=>Q v H
def abi{i x pos}(q:X.N[i]?=some x)(n:Vis X.env.scope x)(d:Dbg x:=by decide)(f:(x=="__classdict__")=false:=by decide):PE X (.Name x pos) (yd i):=by
 intro j s σ H Q I h;refine gD h λv e h=>?_;refine gD I.loc λm k o=>?_;obtain⟨u,r,l⟩:=o i x v q e n;have fin:EP X _ σ Q u s:=⟨v,H,I,r,h⟩;rcases l with⟨b,p⟩|⟨b,c,g,a⟩;.exact wpAny_Name (wpAny_loadName_local I.ok.kind b k p fin) d
 .rcases b with b|b;.exact wpAny_Name (wpAny_loadName_cell I.ok.kind b g a fin) d
  .exact wpAny_Name (wpAny_loadName_free I.ok.kind b g a fin f) d
def xE{i j pos}:PE X (.Constant (.int i) j pos) (tC (.int i)):=λ_ _ _ H _ I h=>wpAny_Constant_int ⟨.int i,H,I.tok _,⟨_,rfl⟩,h⟩
def adZ{b j pos}:PE X (.Constant (.bool b) j pos) (tC (.bl b)):=λ_ _ _ H _ I h=>Constant_bool ⟨.bl b,H,I,rfl,h⟩
def xC{j pos}:PE X (.Constant .none j pos) (tC .non):=λ_ _ _ H _ I h=>Constant_none ⟨.non,H,I,rfl,h⟩
def xB{x j pos}:PE X (.Constant (.str x) j pos) (tC (.str x)):=λ_ _ _ H _ I h=>Calls.Constant_str ⟨.str x,H,I.tok _,⟨_,rfl⟩,h⟩
def Gl(X:Cx)(x:Str):Prop:=X.env.kindOf x=some .globalImplicit
def gc{E pins s}{σ:St}{H x u pos Q}(I:Inv X pins σ H s)(c:Gl X x)(a:X.mg x=some u)(h:Q u s)(b:Dbg x:=by decide):wpAny (model X.prog X.w) X.A (eval (.Name x pos) X.env) Q E s:=aiR I.ok.kind c (Calls.loadGlobal_global (by rw[I.ok.glob];exact I.mod.glob.keeps I.bk) a h) b
def eM{E pins s}{σ:St}{H x u pos Q}(I:Inv X pins σ H s)(e:Gl X x)(g:X.mg x=none)(f:bootBuiltins x=some u)(h:Q u s)(a:x≠"__name__":=by decide)(c:Dbg x:=by decide):wpAny (model X.prog X.w) X.A (eval (.Name x pos) X.env) Q E s:=by obtain⟨i,d,b⟩:=I.mod.blt;exact aiR I.ok.kind e (Calls.loadGlobal_builtin (by rw[I.ok.glob];exact I.mod.glob.keeps I.bk) g (by rw[I.ok.blt];exact d.keeps I.bk) ((b x a).trans f) h) c
def rZ{x v u pos}(c:Gl X x)(a:X.mg x=some u)(r:RelV v u)(b:Dbg x:=by decide):PE X (.Name x pos) (tC v):=λ_ _ _ H _ I h=>gc I c a ⟨v,H,I,r,h⟩ b
def yP{x v u pos}(e:Gl X x)(b:X.mg x=none)(a:bootBuiltins x=some u)(r:RelV v u)(c:x≠"__name__":=by decide)(d:Dbg x:=by decide):PE X (.Name x pos) (tC v):=λ_ _ _ H _ I h=>eM I e b a ⟨v,H,I,r,h⟩ c d
variable{a b:Expr}{ta tb:TE}{pos:Pos}
def PC(X:Cx)(op:CmpOp)(a b:Expr)(t:TE):Prop:=∀(c:List (Addr×Obj))(s:Shared)(σ:St)(H:Hp)(Q:VK),Inv X c σ H s->t σ H Q->wpAny (model X.prog X.w) X.A (eval a X.env) (λv e=>wpAny (model X.prog X.w) X.A (eval b X.env) (λu d=>wpAny (model X.prog X.w) X.A (compareOp op v u) (EP X c σ Q) X.xe d) X.xe e) X.xe s
def vQ(b:Expr){op:CmpOp}(h:op≠.In)(c:op≠.NotIn):behindInMarks op b=false:=by
 have d:(op==CmpOp.In)=false:=by cases op<;>first|rfl|exact absurd rfl h
 have e:(op==CmpOp.NotIn)=false:=by cases op<;>first|rfl|exact absurd rfl c
 cases b<;>first|rfl|(show(_&&(_||_)&&_)=false;simp[d,e])
def tB(t:TE):TT:=λσ H Q=>t σ H λx d=>∃c,x=.bl c/\Q c d
def aa3{e t}(h:PE X e t)(i:∀c,isTrue e X.env c=(do let v <-c;standAt e.pos;holding [v] (truthy v)):=by intro _;rfl):PT X e (tB t):=by intro f s σ H Q I hw;refine isTrue_plain (thn (h _ s σ H _ I hw) λv m⟨x,g,l,j,k⟩=>?_) (i _);obtain⟨d,rfl,q⟩:=k;cases j;exact ait ⟨g,l,q⟩
variable{tA tB':TT}{rest:List Expr}
def yh(t u:TT):TT:=λσ H Q=>t σ H λc d=>if c=true then u σ d Q else Q false d
def tOr(t u:TT):TT:=λσ H Q=>t σ H λc d=>if c=true then Q true d else u σ d Q
def vj(t:TT):TT:=λσ H Q=>t σ H λc d=>Q (!c) d
def yz(f:PT X a tA):PW X (.BoolOp .And [a] pos) tA:=by intro g d s σ H Q I h;refine isTrue_and (thn (f _ s σ H Q I h) λc i e=>?_);cases c with|true=>exact isTrue_and_nil e|false=>exact e
def aa0(f:PT X a tA):PW X (.BoolOp .Or [a] pos) tA:=by intro g d s σ H Q I h;refine isTrue_or (thn (f _ s σ H Q I h) λc i e=>?_);cases c with|false=>exact isTrue_or_nil e|true=>exact e
def aa1(g:PT X a tA)(j:PW X (.BoolOp .And (b::rest) pos) tB'):PW X (.BoolOp .And (a::b::rest) pos) (yh tA tB'):=by intro k d s σ H Q I h;refine isTrue_and (thn (g _ s σ H _ I h) λc l⟨i,f,e⟩=>?_);cases c with|true=>exact j _ _ _ σ _ Q f e|false=>exact⟨i,f,e⟩
def adU(g:PT X a tA)(j:PW X (.BoolOp .Or (b::rest) pos) tB'):PW X (.BoolOp .Or (a::b::rest) pos) (tOr tA tB'):=by intro k d s σ H Q I h;refine isTrue_or (thn (g _ s σ H _ I h) λc l⟨i,f,e⟩=>?_);cases c with|true=>exact⟨i,f,e⟩|false=>exact j _ _ _ σ _ Q f e
def aa4(d:PT X a tA):PT X (.UnaryOp .Not a pos) (vj tA):=by intro c s σ H Q I h;exact isTrue_not (d _ s σ H _ I h)
def adC(ta tb:TE):TE:=λσ H Q=>ta σ H λx d=>∃c,x=.bl c/\if c=true then tb σ d Q else Q (.bl false) d
def ady(ta:TE):TE:=λσ H Q=>ta σ H λx d=>∃c,x=.bl c/\Q (.bl !c) d
def abl{op t}(h:PE X a t):PE X (.BoolOp op [a] pos) t:=λc s σ H Q I hw=>BoolOp_one (h _ s σ H Q I hw)
def abo(g:PE X a ta)(k:PE X (.BoolOp .And (b::rest) pos) tb):PE X (.BoolOp .And (a::b::rest) pos) (adC ta tb):=by intro e s σ H Q I h;refine BoolOp_and (thn (g _ s σ H _ I h) λv l⟨x,i,f,j,d⟩=>?_);obtain⟨c,rfl,d⟩:=d;cases j;refine ait ?_;cases c with|true=>exact k _ _ σ _ Q f d|false=>exact⟨.bl _,i,f,rfl,d⟩
def abm(f:PE X a ta):PE X (.UnaryOp .Not a pos) (ady ta):=by intro e s σ H Q I h;refine UnaryOp_ (thn (f _ s σ H _ I h) λv k⟨x,g,j,i,d⟩=>?_);obtain⟨c,rfl,d⟩:=d;cases i;exact not_of (ait ⟨.bl _,g,j,rfl,d⟩)
def tIf(t:TT)(ta tb:TE):TE:=λσ H Q=>t σ H λc d=>if c=true then ta σ d Q else tb σ d Q
def vJ{c}(j:PT X c tA)(i:PE X a ta)(k:PE X b tb):PE X (.IfExp c a b pos) (tIf tA ta tb):=by intro e s σ H Q I h;refine wpAny_IfExp (thn (j _ s σ H _ I h) λd l⟨m,g,f⟩=>?_);cases d with|true=>exact i _ _ σ _ Q g f|false=>exact k _ _ σ _ Q g f
end
def SqL(K:W.Frag)(H:Hp)(a:Addr)(xs:List V):Prop:=Rd H a (.lst xs)\/∃(o:Obj)(b:Array Value)(n:Nat),K.lookup a=some o/\o.cls=.type "list"/\o.dict=none/\o.data=.seq b n/\b.size<=sizeLine/\Vals xs b.toList
def SqT(K:W.Frag)(H:Hp)(a:Addr)(xs:List V):Prop:=Rd H a (.tup xs)\/∃(o:Obj)(b:Array Value)(n:Nat),K.lookup a=some o/\o.cls=.type "tuple"/\o.data=.seq b n/\b.size<=sizeLine/\Vals xs b.toList
noncomputable def agc:Value->Option V|.none=>some .non|.bool b=>some (.bl b)|.int i _=>some (.int i)|.str x _=>some (.str x)|.bytes b _=>some (.byt b)|.float b _=>some (.flt b)|.ref a=>some (.ref a)|.type n=>some (.ty n)|_=>none
def RelV.abs{x u}(r:RelV x u):agc u=some x:=by cases x with|non|bl _=>cases r;rfl|int _|str _|byt _|flt _=>obtain⟨t,rfl⟩:=r;rfl|ref _|ty _=>cases r;rfl
def RelV.inj{x y u}(r:RelV x u)(q:RelV y u):x=y:=agS (r.abs.symm.trans q.abs)
theorem Vals.inj:∀{xs ys us},Vals xs us->Vals ys us->xs=ys|_,_,_,.nil,.nil=>rfl|_,_,_,.cons r t,.cons r' t'=>by rw[r.inj r',Vals.inj t t']
section
variable{X:Cx}{pins:List (Addr×Obj)}{σ:St}{H:Hp}{s:Shared}{a:Addr}{xs ys:List V}
def SqL.of{K}(h:H a=some (.lst xs)):SqL K H a xs:=.inl (.inl h)
def SqT.of{K}(h:H a=some (.tup xs)):SqT K H a xs:=.inl (.inl h)
def Inv.list(I:Inv X pins σ H s)(h:SqL X.K H a xs):∃b,Vals xs b/\PlainL s.heap a b.toArray/\xs.length<=sizeLine:=by
 rcases h with h|⟨o,b,n,c,d,f,g,i,r⟩;.obtain⟨z,b,n,r,e⟩:=h.ok I.hok;exact⟨_,r,zV _ n e rfl rfl rfl,z⟩
 .refine⟨_,r,zV o n (I.kIn a o c) d f (by omega),?_⟩;have e:=r.length;simp  at e;omega
def Inv.tuple(I:Inv X pins σ H s)(h:SqT X.K H a xs):∃b,Vals xs b/\IsTup s.heap a b.toArray/\xs.length<=sizeLine:=by
 rcases h with h|⟨o,b,n,c,d,f,g,r⟩;.obtain⟨z,b,r,p⟩:=h.ok I.hok;exact⟨_,r,p,z⟩
 .refine⟨_,r,⟨o,I.kIn a o c,d,n,by omega⟩,?_⟩;have e:=r.length;simp  at e;omega
def Inv.gT(I:Inv X pins σ H s)(h:SqL X.K H a xs)(h':SqL X.K H a ys):xs=ys:=by
 obtain⟨c,r,⟨o,n,e,_,_,d⟩,_⟩:=I.list h;obtain⟨b,f,⟨g,j,k,_,_,i⟩,_⟩:=I.list h';have:c=b:=by grind
 subst this;exact r.inj f
def Inv.fh(I:Inv X pins σ H s)(h:SqT X.K H a xs)(h':SqT X.K H a ys):xs=ys:=by
 obtain⟨c,r,⟨o,e,_,n,d⟩,_⟩:=I.tuple h;obtain⟨b,f,⟨g,k,_,j,i⟩,_⟩:=I.tuple h';have:c=b:=by grind
 subst this;exact r.inj f
end
abbrev Cx.n7(X:Cx)(E:Value->Shared->Prop):Cx:={X with xe:=E}
abbrev Cx.nox(X:Cx):Cx:=X.n7 λ_ _=>False
theorem Cx.Ok.n7{X:Cx}(ok:X.Ok)(E):(X.n7 E).Ok:=⟨ok.mod,ok.kind,ok.glob,ok.blt,ok.above,ok.inj,ok.has,ok.cab,ok.hd,ok.frames,ok.stk,ok.exf,ok.bs,ok.bsz,ok.noex,ok.exfs,ok.jF,ok.frf⟩
def Cx.Ok.jk{X:Cx}{E}(ok:(X.n7 E).Ok):X.Ok:=⟨ok.mod,ok.kind,ok.glob,ok.blt,ok.above,ok.inj,ok.has,ok.cab,ok.hd,ok.frames,ok.stk,ok.exf,ok.bs,ok.bsz,ok.noex,ok.exfs,ok.jF,ok.frf⟩
section
variable{X:Cx}{pins:List (Addr×Obj)}{σ:St}{H:Hp}{s:Shared}{E:Value->Shared->Prop}
theorem Inv.n7(I:Inv X pins σ H s)(E):Inv (X.n7 E) pins σ H s:=⟨I.ok.n7 E,I.os,I.bare,I.base,I.loc,I.cell,I.free,I.freeC,I.pin,I.hok,I.len⟩
theorem Inv.jk(I:Inv (X.n7 E) pins σ H s):Inv X pins σ H s:=⟨I.ok.jk,I.os,I.bare,I.base,I.loc,I.cell,I.free,I.freeC,I.pin,I.hok,I.len⟩
theorem SP.jk{D f s'}(h:SP (X.n7 E) pins D f s'):SP X pins D f s':=by cases f with|next|brk|cont=>obtain⟨b,a,I,q⟩:=h;exact⟨_,a,I.jk,q⟩|ret u=>refine uQ h λv b a I r q=>?_;exact⟨v,_,a,I.jk,r,q⟩
theorem PSs.nox{st t}(h:PSs X.nox st t):PSs X st t:=λpins s σ H D I hw=>agN (h _ s σ H D (I.n7 _) hw) (λ_ _ q=>q.jk) λ_ _ z=>False.elim z
end
section
variable{X:Cx}{st:Stmt}{rest:List Stmt}{t u:TS}{e:Expr}{te:TE}{pos:Pos}
def adz:TS:=λD σ H=>D.nx σ H
def ae3(t u:TS):TS:=λD σ H=>t {D with nx:=u D} σ H
def rN:PSs X [] adz:=λ_ _ σ H _ I h=>aie ⟨σ,H,I,h⟩
def gP(b:PS X st t)(c:PSs X rest u):PSs X (st::rest) (ae3 t u):=by intro a s σ H D I h;refine wpAny_execs_cons (thn (b _ s σ H _ I h) λf i q=>?_);cases f with|next=>obtain⟨g,j,d,q⟩:=q;exact c _ _ _ _ D d q|ret v=>exact q|brk=>exact q|cont=>exact q
def yD(b:PS X st t):PSs X [st] t:=by intro a s σ H D I h;refine wpAny_execs_cons (thn (b _ s σ H D I h) λf c q=>?_);cases f with|next=>exact aie q|ret v|brk|cont=>exact q
def Inv.quiet{pins}{σ:St}{H s}(I:Inv X pins σ H s):interactive X.env=false:=by simp[interactive,I.ok.kind]
def vk(te:TE):TS:=λD σ H=>te σ H λ_ a=>D.nx σ a
def j5(d:PE X e te)(hs:swapsWith e none pos.line X.env=pure false:=by rfl):PS X (.Expr e pos) (vk te):=by intro a s σ H D I h;exact wpAny_Expr_any (thn (d _ s σ H _ I h) λv g⟨x,b,f,i,c⟩=>⟨σ,b,f,c⟩) I.quiet hs
def afS(te:TE):TS:=λD σ H=>te σ H D.rt
def aa5(d:PE X e te):PS X (.Return (some e) pos) (afS te):=by intro a s σ H D I h;exact wpAny_Return_some (thn (d _ s σ H _ I h) λv i⟨x,b,f,g,c⟩=>⟨x,σ,b,f,g,c⟩)
def afU(c:TT)(t u:TS):TS:=λD σ H=>c σ H λb a=>if b=true then t D σ a else u D σ a
def aa7{c a b f}(l:PT X c f)(k:PSs X a t)(m:PSs X b u):PS X (.If c a b pos) (afU f t u):=by intro g s σ H D I h;refine wpAny_If (thn (l _ s σ H _ I h) λd n⟨o,j,i⟩=>?_);cases d with|true=>exact k _ _ σ _ D j i|false=>exact m _ _ σ _ D j i
end
abbrev TG:=V->St->Hp->(St->Hp->Prop)->Prop
abbrev TGs:=List V->St->Hp->(St->Hp->Prop)->Prop
def PG(X:Cx)(a:Expr)(t:TG):Prop:=∀(b:List (Addr×Obj))(s:Shared)(σ:St)(H:Hp)(v:V)(u:Value)(Q:St->Hp->Prop),Inv X b σ H s->RelV v u->t v σ H Q->wpAny (model X.prog X.w) X.A (assign a X.env u) (λ_ e=>∃c d,Inv X b c d e/\Q c d) X.xe s
def PGs(X:Cx)(ts:List Expr)(t:TGs):Prop:=∀(a:List (Addr×Obj))(s:Shared)(σ:St)(H:Hp)(e:List V)(d:List Value)(Q:St->Hp->Prop),Inv X a σ H s->Vals e d->t e σ H Q->wpAny (model X.prog X.w) X.A (assignInOrder ((assignEach ts X.env).map (·.2)) d) (λ_ f=>∃b c,Inv X a b c f/\Q b c) X.xe s
section
variable{X:Cx}{pos:Pos}
def aA(i:Nat):TG:=λv σ H Q=>Q (σ.set i (some v)) H
def yM{i x}(f:X.N.Nodup)(b:X.N[i]?=some x)(d:Loc X.env.scope x)(c:FL X x:=by first|exact .inl rfl|exact .inr rfl|assumption):PG X (.Name x pos) (aA i):=by intro a s σ H v u Q I r h;exact wpAny_assign_Name (om I f b d r (λg e=>⟨_,H,e,h⟩) c)
def mr:TGs:=λa σ H Q=>a=[]/\Q σ H
def bA(t:TG)(u:TGs):TGs:=λc σ H Q=>∃v r,c=v::r/\t v σ H λa b=>u r a b Q
def yL:PGs X [] mr:=by intro a s σ H c b Q I r h;obtain⟨e,h⟩:=h;exact assignInOrder_nil ⟨σ,H,I,h⟩
def vF{e es t u}(c:PG X e t)(b:PGs X es u)(hs:(assignEach (e::es) X.env).map (·.2)=assign e X.env::(assignEach es X.env).map (·.2):=by rfl):PGs X (e::es) (bA t u):=by intro a s σ H k m Q I r h;obtain⟨v,l,f,h⟩:=h;subst f;cases r with|cons r rr=>rw[hs];exact assignInOrder_cons (thn (c _ s σ H _ _ _ I r h) λ_ i⟨_,j,g,d⟩=>b _ _ _ _ _ _ Q g rr d)
def mq(K:W.Frag)(n:Nat)(t:TGs):TG:=λv σ H Q=>∃a b,v=.ref a/\SqT K H a b/\b.length=n/\t b σ H Q
def abh{es k t n}(i:X.calm=true)(h:PGs X es t)(g:(assignEach es X.env).length=n:=by rfl)(c:(assignEach es X.env).findIdx? (·.1)=none:=by rfl):PG X (.Tuple es k pos) (mq X.K n t):=by intro d s σ H v u Q I r hw;obtain⟨a,x,q,m,l,hw⟩:=hw;subst q;cases r;refine gL (I.tuple m) λj f ht z=>?_;refine assign_Tuple_tuple (I.ok.hd i) ht (by simp[g,<-l,f.length]) c λy p=>?_;have w:=I.kept (t':=s.toks) λb o e=>p b o (agz (agt e)) e;exact h _ _ σ H _ _ Q w (by grind) hw
def aaL(a:TE)(g:TG):TS:=λD σ H=>a σ H λx b=>g x σ b D.nx
def aa9{a e b g}(d:PE X e b)(j:PG X a g)(hs:swapsWithSole [a] e pos.line X.env=pure false:=by rfl)(hw:swappedStores [a] e X.env=pure none:=by rfl)(i:(assignEach [a] X.env).map (·.2)=[assign a X.env]:=by rfl):PS X (.Assign [a] e pos) (aaL b g):=by intro c s σ H D I h;refine wpAny_Assign_stores (thn (d _ s σ H _ I h) λv m⟨x,n,l,f,k⟩=>?_) hs hw;rw[i];exact thn (j _ _ σ _ x v _ l f k) λ_ o q=>q
def oG{i x e b a}(p:X.N.Nodup)(d:X.N[i]?=some x)(n:Loc X.env.scope x)(j:PE X e b)(hs:swapsWith e (some (.Name x a)) pos.line X.env=pure false:=by rfl)(g:FL X x:=by first|exact .inl rfl|exact .inr rfl|assumption):PS X (.Assign [.Name x a] e pos) (aaL b (aA i)):=by intro c s σ H D I h;exact wpAny_Assign_Name (thn (j _ s σ H _ I h) λv q⟨y,f,o,k,m⟩=>om o p d n k (λr l=>⟨_,f,l,m⟩) g) hs
end
section
variable{X:Cx}{pos:Pos}
def aaD(c:TT)(tb:TS):TS:=λD σ H=>∃W:Nat->St->Hp->Prop,(∃m,W m σ H)/\∀m σ H,W m σ H->c σ H λb d=>if b=true then∃N:St->Hp->Prop,(∀a e,N a e->∃f,f<m/\W f a e)/\tb {D with nx:=N,ct:=N,bk:=D.nx} σ d else D.nx σ d
def vz{c body w tb}(y:PassesOwn (model X.prog X.w) X.A X.env X.xe)(J:PT X c w)(K:PSs X body tb):PS X (.While c body [] pos) (aaD w tb):=by intro x s σ H D I h;obtain⟨W,⟨M,B⟩,turn⟩:=h;refine wpAny_While (codeAny_whileLoop (λn A=>∃g t,Inv X _ g t A/\W n g t) ?_ M ⟨σ,H,I,B⟩);rintro n E⟨d,q,C,w1⟩;refine ahI y (thn (J _ E d q _ C (turn n d q w1)) λb G⟨r,z,i⟩=>?_);cases b with
|true=>refine gD i λN u i=>?_;refine ahI y (thn (K _ G d r _ z i) λf O j=>?_);cases f with|next=>obtain⟨a,e,l,k⟩:=j;obtain⟨o,p,m⟩:=u a e k;exact⟨o,p,a,e,l,m⟩|cont=>obtain⟨a,e,l,k⟩:=j;obtain⟨o,p,m⟩:=u a e k;exact⟨o,p,a,e,l,m⟩|brk=>exact j|ret v=>exact j
|false=>exact aie ⟨d,r,z,i⟩
end
structure It where
 go:Nat->Hp->Prop
 yld:Nat->Hp->V->Hp->Prop
 stop:Nat->Hp->Prop
def n3(X:Cx)(pins:List (Addr×Obj))(H:Hp)(b:Addr):Prop:=H b=none/\b≠X.env.locals/\b∉X.fs/\(b∈X.ex\/X.s₀.heap.objs.size<=b)/\(∀x c,X.env.cells.lookup x=some c->c≠b)/\∀p∈X.pn++pins,p.1≠b
def Inv.ab7{X:Cx}{pins:List (Addr×Obj)}{σ:St}{H H':Hp}{s:Shared}{b:Addr}(I:Inv X pins σ H s)(a:s.heap.objs.size<=b)(f:H' b=none):n3 X pins H' b:=by
 refine⟨f,ahb (agv I.lt a),I.z7 a,.inr (agy I.sz a),λx c e z=>?_,λp d z=>?_⟩;.obtain⟨v,q⟩:=I.cell x c e;exact absurd (agv q.lt (by rw[z];exact a)) (ahL _)
 .exact absurd (agv (agt (I.pin p d).1) (by rw[z];exact a)) (ahL _)
structure Turn(P:Program)(w:World)(K:W.Frag)(tg:Expr)(J:It)(fp:List Addr)(it:Addr)(tn:Nat->Heap->Prop)(cl:Cx->Hp->Prop:=λX _=>X.calm=true):Prop where
 mem:it∈fp
 obj:∀i h,tn i h->∀b∈fp,∃o,h.get? b=some o/\∀v,o.data≠.cell v
 keep:∀i h h',tn i h->(∀b∈fp,∀o,h.get? b=some o->h'.get? b=some o)->tn i h'
 item:∀(X:Cx),X.prog=P->X.w=w->X.K=K->∀(i:Nat)(pins:List (Addr×Obj))(s:Shared)(σ:St)(H:Hp)(E:Value->Shared->Prop),cl X H->Inv X pins σ H s->(∀b∈fp,n3 X pins H b)->tn i s.heap->J.go i H->wpAny (model P w) X.A (pyNext (.ref it)) (λr s1=>∃u,r=some u/\wpAny (model P w) X.A (letOwnedTupleGo tg (.ref it) u) (λ_ s2=>∃x H',Inv X pins σ H' s2/\RelV x u/\J.yld i H x H'/\tn (i+1) s2.heap/\∀b∈fp,H' b=none) E s1) E s
 done:∀(X:Cx),X.prog=P->X.w=w->X.K=K->∀(i:Nat)(pins:List (Addr×Obj))(s:Shared)(σ:St)(H:Hp)(E:Value->Shared->Prop),cl X H->Inv X pins σ H s->(∀b∈fp,n3 X pins H b)->tn i s.heap->J.stop i H->wpAny (model P w) X.A (pyNext (.ref it)) (λr s1=>r=none/\Inv X pins σ H s1) E s
 self:∀(A:Around)(i:Nat)(s:Shared)(Q:Value->Shared->Prop)(E:Value->Shared->Prop),tn i s.heap->Q (.ref it) s->wpAny (model P w) A (pyIter (.ref it)) Q E s
abbrev TI:=St->Hp->(It->Hp->Prop)->Prop
def PIE(X:Cx)(pins:List (Addr×Obj))(σ:St)(g:Expr)(R:It->Hp->Prop)(c:Value)(f:Shared):Prop:=∃(it:Addr)(e:List Addr)(d:Nat->Heap->Prop)(J:It)(a:Hp),c=.ref it/\Inv X pins σ a f/\Turn X.prog X.w X.K g J e it d/\d 0 f.heap/\(∀b∈e,n3 X pins a b)/\R J a
def PI(X:Cx)(d b:Expr)(wi:TI):Prop:=∀(a:List (Addr×Obj))(s:Shared)(σ:St)(H:Hp)(R:It->Hp->Prop),Inv X a σ H s->wi σ H R->wpAny (model X.prog X.w) X.A (eval b X.env) (λv c=>wpAny (model X.prog X.w) X.A (pyIter v) (PIE X a σ d R) X.xe c) X.xe s
def wj{M A E s b it u o n vs Q}(e:s.heap.get? it=some o)(d:o.cls=.type n)(c:o.data=.fields vs)(f:["enumerate","zip","dict_itemiterator","dict_reverseitemiterator","odict_iterator","itertools.zip_longest","itertools.pairwise"].contains n=false)(a:Q () s):wpAny M A (letOwnedTupleGo b (.ref it) u) Q E s:=by cases b<;>first|exact agp a|(cases u<;>first|exact agp a| (refine agl (wpAny_load e ?_);rw[d,c];show wpAny M A (if(["enumerate","zip","dict_itemiterator","dict_reverseitemiterator","odict_iterator","itertools.zip_longest","itertools.pairwise"].contains n&&vs[0]?==some (rawInt _))=true then _ else _) Q E s;rw[agq (by grind)];exact agp a))
noncomputable def Itl(K:W.Frag)(a:Addr):It:=⟨λi H=>∃b x,SqL K H a b/\b[i]?=some x,λi H x c=>c=H/\∀b,SqL K H a b->b[i]?=some x,λi H=>∃b,SqL K H a b/\b.length<=i⟩
noncomputable def Itt(K:W.Frag)(a:Addr):It:=⟨λi H=>∃b x,SqT K H a b/\b[i]?=some x,λi H x c=>c=H/\∀b,SqT K H a b->b[i]?=some x,λi H=>∃b,SqT K H a b/\b.length<=i⟩
noncomputable def Itr(lo:Int)(n:Nat):It:=⟨λi _=>i<n,λi H x a=>a=H/\x=.int (lo+i),λi _=>n<=i⟩
def q0{P:Program}{w:World}{K:W.Frag}{tg:Expr}(a it:Addr):Turn P w K tg (Itl K a) [it] it λi h=>h.IsListIter it a i where
 mem:=by simp
 obj:=λi h st b hb=>by
  have e:b=it:=by simpa using hb
  subst e;obtain⟨o,e,c,d⟩:=st;exact⟨o,e,λv z=>by rw[d]at z;cases z⟩
 keep:=λi h h' st k=>st.at λo e=>k it (by simp) o e;item:=by intro X hP hw hK i pins s σ H E hc I hf st hg;subst hP hw hK;obtain⟨xs,x,hq,hx⟩:=hg;obtain⟨its,rv,p,hz⟩:=I.list hq;obtain⟨u,hu,ru⟩:=rv.get hx;obtain⟨f0,f1,f2,f3,f4,f5⟩:=hf it (by simp);refine wpAny_pyNext_list_item st p.isList (x:=u) (by simpa using hu) λh' st' sb=>?_;have I1:Inv X pins σ H {s with heap:=h'}:=I.turned (t':=s.toks) (λb o hb e=>(sb.2 b hb).trans e) f0 f1 f3 f4 f5;obtain⟨o,e,c,d⟩:=id st';exact⟨u,rfl,wj (s:={s with heap:=h'}) e c d (by decide) ⟨x,H,I1,ru,⟨rfl,λys hy=>by rw[I.gT hy hq];exact hx⟩,st',λb hb=>(hf b hb).1⟩⟩
 done:=by intro X hP hw hK i pins s σ H E hc I hf st hg;subst hP hw hK;obtain⟨xs,hq,hx⟩:=hg;obtain⟨its,rv,p,hz⟩:=I.list hq;obtain⟨f0,f1,f2,f3,f4,f5⟩:=hf it (by simp);have hl:=rv.length;exact wpAny_pyNext_list_end (I.ok.hd hc) st p.isList (by simp;omega) λh' eb=>⟨rfl,I.turned (t':=s.toks) (λb o hb e=>eb b o hb e) f0 f1 f3 f4 f5⟩
 self:=λ_ _ _ _ _ st h=>wpAny_pyIter_listiter st h
def pI{P:Program}{w:World}{K:W.Frag}{tg:Expr}(a it:Addr):Turn P w K tg (Itt K a) [it] it λi h=>h.IsTupleIter it a i where
 mem:=by simp
 obj:=λi h st b hb=>by
  have e:b=it:=by simpa using hb
  subst e;obtain⟨o,e,c,d⟩:=st;exact⟨o,e,λv z=>by rw[d]at z;cases z⟩
 keep:=λi h h' st k=>st.at λo e=>k it (by simp) o e;item:=by intro X hP hw hK i pins s σ H E hc I hf st hg;subst hP hw hK;obtain⟨xs,x,hq,hx⟩:=hg;obtain⟨its,rv,p,hz⟩:=I.tuple hq;obtain⟨u,hu,ru⟩:=rv.get hx;obtain⟨f0,f1,f2,f3,f4,f5⟩:=hf it (by simp);refine wpAny_pyNext_tuple_item st (show s.heap.IsTuple a its.toArray from p) (x:=u) (by simpa using hu) λh' st' sb=>?_;have I1:Inv X pins σ H {s with heap:=h'}:=I.turned (t':=s.toks) (λb o hb e=>(sb.2 b hb).trans e) f0 f1 f3 f4 f5;obtain⟨o,e,c,d⟩:=id st';exact⟨u,rfl,wj (s:={s with heap:=h'}) e c d (by decide) ⟨x,H,I1,ru,⟨rfl,λys hy=>by rw[I.fh hy hq];exact hx⟩,st',λb hb=>(hf b hb).1⟩⟩
 done:=by intro X hP hw hK i pins s σ H E hc I hf st hg;subst hP hw hK;obtain⟨xs,hq,hx⟩:=hg;obtain⟨its,rv,p,hz⟩:=I.tuple hq;obtain⟨f0,f1,f2,f3,f4,f5⟩:=hf it (by simp);have hl:=rv.length;exact wpAny_pyNext_tuple_end (I.ok.hd hc) st (show s.heap.IsTuple a its.toArray from p) (by simp;omega) λh' eb=>⟨rfl,I.turned (t':=s.toks) (λb o hb e=>eb b o hb e) f0 f1 f3 f4 f5⟩
 self:=λ_ _ _ _ _ st h=>wpAny_pyIter_tupleiter st h
def pJ{P:Program}{w:World}{K:W.Frag}{tg:Expr}(it:Addr)(lo:Int)(n:Nat):Turn P w K tg (Itr lo n) [it] it λi h=>IsRangeIter h it (lo+(i:Nat)*1) ((n:Int)-(i:Nat)) 1 where
 mem:=by simp
 obj:=λi h st b hb=>by
  have e:b=it:=by simpa using hb
  subst e;exact⟨_,st,λv z=>by have z':Data.fields _=Data.cell v:=z;cases z'⟩
 keep:=λi h h' st k=>k it (by simp) _ st;item:=by intro X hP hw hK i pins s σ H E hc I hf st hg;subst hP hw hK;obtain⟨f0,f1,f2,f3,f4,f5⟩:=hf it (by simp);have W:=Walks.range (prog:=X.prog) (w:=X.w) (I.ok.hd hc) it lo 1 n;refine W.item i s _ _ hg st λv h' tk hv st' kk=>?_;obtain⟨t,rfl⟩:=hv;have I1:Inv X pins σ H {s with heap:=h',toks:=tk}:=I.turned (λb o hb e=>kk b o (by simpa using hb) e) f0 f1 f3 f4 f5;refine⟨_,rfl,wj (s:={s with heap:=h',toks:=tk}) (n:="range_iterator") st' rfl rfl (by decide) ⟨.int (lo+i),H,I1,⟨t,?_⟩,⟨rfl,rfl⟩,st',λb hb=>(hf b hb).1⟩⟩;rw[Int.mul_one]
 done:=by intro X hP hw hK i pins s σ H E hc I hf st hg;subst hP hw hK;obtain⟨f0,f1,f2,f3,f4,f5⟩:=hf it (by simp);exact wpAny_pyNext_range_end (I.ok.hd hc) st (by have:n<=i:=hg;omega) λh' eb=>⟨rfl,I.turned (t':=s.toks) (λb o hb e=>eb b o hb e) f0 f1 f3 f4 f5⟩
 self:=λ_ _ _ _ _ st h=>wpAny_pyIter_rangeiter st h
section
variable{X:Cx}{tg:Expr}
def oE{pins}{σ:St}{H s R E lo a t u v tk}(I:Inv X pins σ H s)(h:-2^62<=lo)(f:lo<2^62)(j:-2^62<=a)(d:a<2^62)(q:R (Itr lo (a-lo).toNat) H):wpAny (model X.prog X.w) X.A (pyIter (.ref s.heap.objs.size)) (PIE X pins σ tg R) E {s with heap:=s.heap.push {cls:=.type "range",data:=.fields #[.int lo t,.int a u,.int 1 v]},toks:=tk}:=by
 refine wpAny_pyIter_range (IsRange.new ..) (small_one h f j d) ?_;have c:Inv X pins σ H {s with heap:=s.heap.push {cls:=.type "range",data:=.fields #[.int lo t,.int a u,.int 1 v]},toks:=tk}:=I.kept λb o e=>agm _ e;refine⟨_,_,_,_,H,rfl,c.kept (t':=tk) λb o e=>agm _ e,pJ _ lo _,?_,λb g=>?_,q⟩
 .have k:lo+((0:Nat):Int)*1=lo:=by simp
  have i:(((a-lo).toNat:Nat):Int)-((0:Nat):Int)=Builtin.Range.rangeSize lo a 1:=by rw[rangeSize_one];split<;>omega
  rw[k,i];exact agA _ rfl
 .have e:b=(s.heap.push {cls:=.type "range",data:=.fields #[.int lo t,.int a u,.int 1 v]}).objs.size:=by simpa using g
  subst e;exact c.ab7 (agx _) (c.hok.fresh (agx _))
def dj(ta:TA):TI:=λσ H R=>ta σ H λa b=>∃j:Int,a=[.int j]/\-2^62<=j/\j<2^62/\R (Itr 0 j.toNat) b
def ni(ta:TA):TI:=λσ H R=>ta σ H λa b=>∃i j:Int,a=[.int i,.int j]/\(-2^62<=i/\i<2^62/\-2^62<=j/\j<2^62)/\R (Itr i (j-i).toNat) b
def rX{a ta p pos}(g:Gl X "range")(i:X.mg "range"=none)(d:PA X [a] ta)(hs:starEach [a] X.env=[(false,eval a X.env)]:=by rfl):PI X tg (.Call (.Name "range" p) [a] [] pos) (dj ta):=by intro c s σ H R I h;refine Call_ (eM I g i ajn (ag4 (thn (d _ _ s σ H _ I h) λu m⟨o,n,k,f,b⟩=>?_) hs rfl));obtain⟨j,e,b,l,q⟩:=b;subst e;cases f with|cons r rr=>cases rr;obtain⟨t,rfl⟩:=r;exact call_range_1 (oE k (by omega) (by omega) b l (by grind))
def rW{a b ta p pos}(m:Gl X "range")(o:X.mg "range"=none)(k:PA X [a,b] ta)(hs:starEach [a,b] X.env=[(false,eval a X.env),(false,eval b X.env)]:=by rfl)(c:starEach [b] X.env=[(false,eval b X.env)]:=by rfl):PI X tg (.Call (.Name "range" p) [a,b] [] pos) (ni ta):=by intro f s σ H R I h;refine Call_ (eM I m o ajn (ag4 (thn (k pos _ s σ H _ I h) λA w⟨z,x,u,l,d⟩=>?_) (by grind) (by rw[c];rfl)));obtain⟨i,j,e,⟨d,v,g,n⟩,q⟩:=d;subst e;cases l with|cons r rr=>cases rr with|cons r' rr=>cases rr;obtain⟨t,rfl⟩:=r;obtain⟨y,rfl⟩:=r';exact call_range_2 (oE u d v g n q)
def ae6(wi:TI)(g:TG)(tb:TS):TS:=λD σ H=>wi σ H λJ e=>∃W:Nat->Nat->St->Hp->Prop,(∃m,W 0 m σ e)/\∀i m σ H,W i m σ H->J.stop i H/\D.nx σ H\/J.go i H/\∃N:St->Hp->Prop,(∀b a,N b a->∃d,d<m/\W (i+1) d b a)/\∀x a,J.yld i H x a->g x σ a λc f=>tb {D with nx:=N,ct:=N,bk:=D.nx} c f
noncomputable def lI(a:List Addr)(h:Heap):List (Addr×Obj):=a.filterMap λb=>(h.get? b).map λo=>(b,o)
def en{a h b o}(c:b∈a)(e:h.get? b=some o):(b,o)∈lI a h:=ag5.mpr ⟨b,c,by grind⟩
def sh{a h p}(c:p∈lI a h):p.1∈a/\h.get? p.1=some p.2:=by obtain⟨b,f,e⟩:=ag5.mp c;cases q:h.get? b with|none=>rw[q]at e;cases e|some o=>rw[q]at e;have d:=agS e;subst d;exact⟨f,q⟩
def Inv.pinned{pins}{σ:St}{H s a}(I:Inv X pins σ H s)(h:∀b∈a,n3 X pins H b)(l:∀b∈a,∃o,s.heap.get? b=some o/\∀v,o.data≠.cell v):Inv X (pins++lI a s.heap) σ H s:=I.fY λp k=>(ahr.mp k).elim (λz=>I.pin p (agF _ z)) λz=>by obtain⟨c,e⟩:=sh z;refine ado (h _ c) λj i g _=>?_;refine gD (l _ c) λo f d=>?_;rw[e]at f;cases f;exact⟨e,j,i,g,d⟩
def Inv.jR{pins pl}{σ:St}{H s}(I:Inv X (pins++pl) σ H s):Inv X pins σ H s:=I.fY λp a=>I.pin p (agF _ (ag0 _ a))
def aa8{p body wi g tb pos}(K:PassesOwn (model X.prog X.w) X.A X.env X.xe)(hc:X.calm=true)(hi:PI X tg p wi)(hg:PG X tg g)(k:PSs X body tb)(hs:∀x,foldedSetIterable p X.env x=pure x:=by intro _;rfl):PS X (.For tg p body [] pos) (ae6 wi g tb):=by
 intro a s σ H D I h;refine wpAny_For (thn (hi a s σ H _ I h) λv s1 h1=>thn h1 λa0 s2 h2=>?_) hs;obtain⟨it,E,tn,J,H2,e,I2,T,U,f2,W,⟨m0,w0⟩,turn⟩:=h2;subst e;-- what stays true of the iterator's objects through the loop
 have q:∀{t:Hp},(∀b∈E,t b=none)->∀b∈E,n3 X a t b:=λhn b k=>⟨hn b k,(f2 b k).2⟩;refine codeAny_forLoop_any (λn s'=>∃i l t,Inv X a l t s'/\tn i s'.heap/\(∀b∈E,t b=none)/\W i n l t) ?_ m0 (wZ 0 σ H2 I2 U (λb k=>(f2 b k).1) w0);rintro n Z⟨i,j,M,I3,B,C,w3⟩;rcases turn i n j M w3 with⟨G,qn⟩|⟨go,N,hN,step⟩;.refine ahI K (thn (T.done X rfl rfl rfl i a Z j M X.xe hc I3 (q C) B G) λr s4⟨Q,I4⟩=>?_);subst Q;exact aie ⟨j,M,I4,qn⟩
 .refine ahI K (thn (T.item X rfl rfl rfl i a Z j M X.xe hc I3 (q C) B go) λr s4⟨u,Q,h4⟩=>?_);subst Q;refine ahI K (thn h4 λ_ s5⟨x,H5,I5,r5,y5,A,R⟩=>?_);have S:=I5.pinned (q R) (T.obj _ _ A);refine ahI K (thn (hg _ s5 j H5 x u _ S r5 (step x H5 y5)) λ_ s6⟨P,H6,I6,q6⟩=>?_);refine ahI K (thn (k _ s6 P H6 _ I6 q6) λf O z=>?_);have again:∀{c:St}{w:Hp},Inv X (a++lI E s5.heap) c w O->N c w->∃m,m<n/\∃i l t,Inv X a l t O/\tn i O.heap/\(∀b∈E,t b=none)/\W i m l t:=λ{c w}y Y=>by refine gD (hN c w Y) λm' hm w7=>?_;refine⟨m',hm,i+1,c,w,y.jR,T.keep _ _ _ A λb k o e=>(y.pin (b,o) (agF _ (agF _ (en k e)))).1,λb k=>?_,w7⟩;obtain⟨o,e,d⟩:=T.obj _ _ A b k;exact(y.pin (b,o) (agF _ (agF _ (en k e)))).2.1
  cases f with|next|cont=>obtain⟨c,w,y,Y⟩:=z;exact again y Y|brk=>refine cW z λc w y z=>?_;exact⟨c,w,y.jR,z⟩|ret v=>refine uQ z λx7 c w y r7 z=>?_;exact aai x7 c w y.jR r7 z
end
abbrev R2:=V->V->Hp->VK->Prop
def OpR(X:Cx)(f:Value->Value->Sem Value)(r:R2):Prop:=∀(a:List (Addr×Obj))(s:Shared)(σ:St)(H:Hp)(x y:V)(v u:Value)(Q:VK),Inv X a σ H s->RelV x v->RelV y u->r x y H Q->wpAny (model X.prog X.w) X.A (f v u) (EP X a σ Q) X.xe s
def UnR(X:Cx)(f:Value->Sem Value)(r:V->Hp->VK->Prop):Prop:=∀(a:List (Addr×Obj))(s:Shared)(σ:St)(H:Hp)(x:V)(v:Value)(Q:VK),Inv X a σ H s->RelV x v->r x H Q->wpAny (model X.prog X.w) X.A (f v) (EP X a σ Q) X.xe s
def bu(X:Cx)(f:Value)(r:List V->Hp->VK->Prop):Prop:=∀(a:List (Addr×Obj))(s:Shared)(σ:St)(H:Hp)(b:List V)(c:List Value)(Q:VK),Inv X a σ H s->Vals b c->r b H Q->wpAny (model X.prog X.w) X.A (call f c) (EP X a σ Q) X.xe s
def tOp(r:R2)(ta tb:TE):TE:=λσ H Q=>ta σ H λx a=>tb σ a λy b=>r x y b Q
def tUn(r:V->Hp->VK->Prop)(ta:TE):TE:=λσ H Q=>ta σ H λx a=>r x a Q
def rI(C:Int->Int->Prop)(g:Int->Int->V):R2:=λx y H Q=>∃i j,x=.int i/\y=.int j/\C i j/\Q (g i j) H
def rI0(g:Int->Int->V):R2:=λx y H Q=>∃i j,x=.int i/\y=.int j/\Q (g i j) H
def rU(g:Int->V):V->Hp->VK->Prop:=λx H Q=>∃i,x=.int i/\Q (g i) H
section
variable{X:Cx}{a b c:Expr}{ta tb tc:TE}{pos:Pos}
def aeQ(k:PE X a ta)(o:PE X b tb){pins s}{σ:St}{H}{R:V->V->Hp->Prop}(I:Inv X pins σ H s)(h:ta σ H λx j=>tb σ j λy d=>R x y d){Q}{f:Value->Value->Sem Value}(l:∀v u i x y d,Inv X pins σ d i->RelV x v->RelV y u->R x y d->wpAny (model X.prog X.w) X.A (f v u) Q X.xe i):wpAny (model X.prog X.w) X.A (eval a X.env) (λv g=>wpAny (model X.prog X.w) X.A (eval b X.env) (λu e=>wpAny (model X.prog X.w) X.A (f v u) Q X.xe e) X.xe g) X.xe s:=by exact thn (k _ s σ H _ I h) λv w⟨x,j,t,n,r⟩=>thn (o _ _ σ _ _ t r) λu i⟨y,d,q,m,p⟩=>l v u _ x y _ q n m p
def adX{op r}(k:OpR X (binaryOp op) r)(f:PE X a ta)(g:PE X b tb):PE X (.BinOp a op b pos) (tOp r ta tb):=by intro d s σ H Q I h;exact wpAny_BinOp (aeQ f g I h λv u l x y m i j e q=>k _ _ σ _ x y v u Q i j e q)
def adV{op r}(j:UnR X (unaryOp op) r)(e:PE X a ta):PE X (.UnaryOp op a pos) (tUn r ta):=by intro d s σ H Q I h;exact UnaryOp_ (thn (e _ s σ H _ I h) λv k⟨x,l,g,i,f⟩=>j _ _ σ _ x v Q g i f)
def opI{f C}{g:Int->Int->Int}(rule:∀i j t u s Q E,C i j->Q (.int (g i j) s.toks) {s with toks:=s.toks+1}->wpAny (model X.prog X.w) X.A (f (.int i t) (.int j u)) Q E s):OpR X f (rI C λi j=>.int (g i j)):=by intro k s σ H x y v u Q I n l h;refine qv h λi j e d m q=>?_;subst e d;obtain⟨t,rfl⟩:=n;obtain⟨o,rfl⟩:=l;exact rule i j t _ s _ _ m (hJ (.int _) H (I.tok _) ⟨_,rfl⟩ q)
def afg{f}{g:Int->Int->Int}(rule:∀i j t u s Q E,Q (.int (g i j) s.toks) {s with toks:=s.toks+1}->wpAny (model X.prog X.w) X.A (f (.int i t) (.int j u)) Q E s):OpR X f (rI0 λi j=>.int (g i j)):=by intro k s σ H x y v u Q I m l h;refine jN h λi j e d q=>?_;subst e d;obtain⟨t,rfl⟩:=m;obtain⟨n,rfl⟩:=l;exact rule i j t _ s _ _ (hJ (.int _) H (I.tok _) ⟨_,rfl⟩ q)
def af1{f}{g:Int->Int->Bool}(rule:∀i j t u s Q E,Q (.bool (g i j)) s->wpAny (model X.prog X.w) X.A (f (.int i t) (.int j u)) Q E s):OpR X f (rI0 λi j=>.bl (g i j)):=by intro d s σ H x y v u Q I k e h;obtain⟨i,j,rfl,rfl,q⟩:=h;obtain⟨t,rfl⟩:=k;obtain⟨l,rfl⟩:=e;exact rule i j t _ s _ _ ⟨.bl _,H,I,rfl,q⟩
def aeZ(i j:Int):Prop:=-2^64<i/\i<2^64\/-2^64<j/\j<2^64
def aeZ.ok{i j}(h:aeZ i j):IntMulOk i j:=by
 rcases h with⟨e,d⟩|⟨e,d⟩;.exact .of_left (intBits_le_64 e d)
 .exact .of_right (intBits_le_64 e d)
def abz:OpR X (binaryOp .Add) (rI0 λi j=>.int (i+j)):=afg λ_ _ _ _ _ _ _ q=>add_int q
def abq:OpR X (binaryOp .Sub) (rI0 λi j=>.int (i-j)):=afg λ_ _ _ _ _ _ _ q=>sub_int q
def abt:OpR X (binaryOp .Mult) (rI aeZ λi j=>.int (i*j)):=opI λ_ _ _ _ _ _ _ d q=>mul_int q d.ok
def abu:OpR X (binaryOp .Mod) (rI (λ_ j=>0<j) λi j=>.int (i%j)):=opI λi j _ _ _ _ _ d q=>by have e:(0:Int)<j:=d;exact mod_int' (by omega) (by rw[Int.fmod_eq_emod_of_nonneg i (by omega)];exact q)
def unI{f}{g:Int->Int}(rule:∀i t s Q E,Q (.int (g i) s.toks) {s with toks:=s.toks+1}->wpAny (model X.prog X.w) X.A (f (.int i t)) Q E s):UnR X f (rU λi=>.int (g i)):=by intro d s σ H x v Q I e h;obtain⟨i,rfl,q⟩:=h;obtain⟨t,rfl⟩:=e;exact rule i t s _ _ ⟨.int _,H,I.tok _,⟨_,rfl⟩,q⟩
def aaw:UnR X (unaryOp .USub) (rU λi=>.int (-i)):=unI λ_ _ _ _ _ q=>neg_int q
end
noncomputable def adH:V->V->Bool|.non,.non=>true|.non,.int _=>true|.int _,.non=>true|.non,.bl _=>true|.bl _,.non=>true|.non,.str _=>true|.str _,.non=>true|.int _,.int _=>true|.bl _,.bl _=>true|.str _,.str _=>true|.byt _,.byt _=>true|.int _,.str _=>true|.str _,.int _=>true|.bl _,.str _=>true|.str _,.bl _=>true|_,_=>false
def rEq:R2:=λx y H Q=>adH x y=true/\Q (.bl (decide (x=y))) H
def rNe:R2:=λx y H Q=>adH x y=true/\Q (.bl !decide (x=y)) H
def ny{i j:Int}:decide (V.int i=V.int j)=(i==j):=by rw[ag7];simp
def uh{i j:Bool}:decide (V.bl i=V.bl j)=(i==j):=by rw[ag7];simp
def nv{i j:Str}:decide (V.str i=V.str j)=(i==j):=by rw[ag7];simp
def ug{i j}:decide (V.byt i=V.byt j)=(i.toList==j.toList):=by rw[ag7];cases i;cases j;simp
section
variable{X:Cx}{a b c:Expr}{ta tb tc:TE}{pos:Pos}
def aO{pins}{σ:St}{H s Q k k'}(I:Inv X pins σ H s)(q:Q (.bl k) H)(e:k=k'):EP X pins σ Q (.bool k') s:=by subst e;exact⟨.bl k,H,I,rfl,q⟩
def ad3:OpR X (compareOp .Eq) rEq:=by intro k s σ H x y v u Q I g d h;obtain⟨f,q⟩:=h;cases x with
|non=>cases g;cases y with|non=>cases d;exact PySem.EqNone.eq_none_none (aO I q (by simp))|bl j=>cases d;exact PySem.EqNone.eq_none_bool (aO I q (by simp))|int j=>obtain⟨e,rfl⟩:=d;exact PySem.EqNone.eq_none_int (aO I q (by simp))|str j=>obtain⟨e,rfl⟩:=d;exact PySem.EqNone.eq_none_str (aO I q (by simp))|_=>exact absurd (show false=true from f) agK
|bl i=>cases g;cases y with|non=>cases d;exact PySem.EqNone.eq_bool_none (aO I q (by simp))|bl j=>cases d;exact eq_bool (aO I q uh)|str j=>obtain⟨e,rfl⟩:=d;exact PySem.EqMixed.eq_bool_str (aO I q (by simp))|_=>exact absurd (show false=true from f) agK
|int i=>obtain⟨t,rfl⟩:=g;cases y with|non=>cases d;exact PySem.EqNone.eq_int_none (aO I q (by simp))|int j=>obtain⟨e,rfl⟩:=d;exact eq_int (aO I q ny)|str j=>obtain⟨e,rfl⟩:=d;exact PySem.EqMixed.eq_int_str (aO I q (by simp))|_=>exact absurd (show false=true from f) agK
|str i=>obtain⟨t,rfl⟩:=g;cases y with|non=>cases d;exact PySem.EqNone.eq_str_none (aO I q (by simp))|bl j=>cases d;exact PySem.EqMixed.eq_str_bool (aO I q (by simp))|int j=>obtain⟨e,rfl⟩:=d;exact PySem.EqMixed.eq_str_int (aO I q (by simp))|str j=>obtain⟨e,rfl⟩:=d;exact eq_str (aO I q nv)|_=>exact absurd (show false=true from f) agK
|byt i=>obtain⟨t,rfl⟩:=g;cases y with|byt j=>obtain⟨e,rfl⟩:=d;exact W.eq_bytes (aO I q ug)|_=>exact absurd (show false=true from f) agK
|_=>cases y<;>exact absurd (show false=true from f) agK
def ad1:OpR X (compareOp .NotEq) rNe:=by intro k s σ H x y v u Q I g d h;obtain⟨f,q⟩:=h;cases x with
|non=>cases g;cases y with|non=>cases d;exact PySem.EqNone.ne_none_none (aO I q (by simp))|bl j=>cases d;exact PySem.EqNone.ne_none_bool (aO I q (by simp))|int j=>obtain⟨e,rfl⟩:=d;exact PySem.EqNone.ne_none_int (aO I q (by simp))|str j=>obtain⟨e,rfl⟩:=d;exact PySem.EqNone.ne_none_str (aO I q (by simp))|_=>exact absurd (show false=true from f) agK
|bl i=>cases g;cases y with|non=>cases d;exact PySem.EqNone.ne_bool_none (aO I q (by simp))|bl j=>cases d;exact ne_bool (aO I q (ah5 not uh))|str j=>obtain⟨e,rfl⟩:=d;exact PySem.EqMixed.ne_bool_str (aO I q (by simp))|_=>exact absurd (show false=true from f) agK
|int i=>obtain⟨t,rfl⟩:=g;cases y with|non=>cases d;exact PySem.EqNone.ne_int_none (aO I q (by simp))|int j=>obtain⟨e,rfl⟩:=d;exact ne_int (aO I q (ah5 not ny))|str j=>obtain⟨e,rfl⟩:=d;exact PySem.EqMixed.ne_int_str (aO I q (by simp))|_=>exact absurd (show false=true from f) agK
|str i=>obtain⟨t,rfl⟩:=g;cases y with|non=>cases d;exact PySem.EqNone.ne_str_none (aO I q (by simp))|bl j=>cases d;exact PySem.EqMixed.ne_str_bool (aO I q (by simp))|int j=>obtain⟨e,rfl⟩:=d;exact PySem.EqMixed.ne_str_int (aO I q (by simp))|str j=>obtain⟨e,rfl⟩:=d;exact ne_str (aO I q (ah5 not nv))|_=>exact absurd (show false=true from f) agK
|byt i=>obtain⟨t,rfl⟩:=g;cases y with|byt j=>obtain⟨e,rfl⟩:=d;exact W.ne_bytes (aO I q (ah5 not ug))|_=>exact absurd (show false=true from f) agK
|_=>cases y<;>exact absurd (show false=true from f) agK
def ad2:OpR X (compareOp .Lt) (rI0 λi j=>.bl (decide (i<j))):=af1 λ_ _ _ _ _ _ _ q=>lt_int q
def abv:OpR X (compareOp .Is) λx y H Q=>y=.non/\Q (.bl (decide (x=.non))) H:=by intro d s σ H x y v u Q I f e h;obtain⟨rfl,q⟩:=h;cases e;refine is_none_gen (aO I q ?_);cases x<;>(obtain⟨t,rfl⟩:=f;rfl)
def yR:OpR X (compareOp .IsNot) λx y H Q=>y=.non/\Q (.bl !decide (x=.non)) H:=by intro d s σ H x y v u Q I f e h;obtain⟨rfl,q⟩:=h;cases e;refine isnot_none_gen (aO I q ?_);cases x<;>(obtain⟨t,rfl⟩:=f;rfl)
def OpR.or{f r i}(h:OpR X f r)(h':OpR X f i):OpR X f λx y H Q=>r x y H Q\/i x y H Q:=by
 intro e s σ H x y v u Q I g d q;rcases q with q|q;.exact h _ s σ H x y v u Q I g d q
 .exact h' _ s σ H x y v u Q I g d q
def cT(b){op}(h:op≠.In:=by decide)(d:op≠.NotIn:=by decide):behindInMarks op b=false:=vQ b h d
def yO{op r}(l:OpR X (compareOp op) r)(f:PE X a ta)(g:PE X b tb)(k:behindInMarks op b=false):PE X (.Compare a [op] [b] pos) (tOp r ta tb):=by intro d s σ H Q I h;exact wpAny_Compare1 (aeQ f g I h λv u m x y n i j e q=>l _ _ σ _ x y v u Q i j e q) k
def aaE(t:TE):TT:=λσ H Q=>t σ H λx d=>∃k,x=.bl k/\Q k d
def yC{op r}(A:OpR X (compareOp op) r)(i:PE X a ta)(n:PE X b tb)(q:behindInMarks op b=false):PT X (.Compare a [op] [b] pos) (aaE (tOp r ta tb)):=by intro d s σ H Q I h;refine wpAny_isTrue_Compare1 (thn (i _ s σ H _ I h) λv C⟨x,E,w,m,t⟩=>thn (n _ _ σ _ _ w t) λu G⟨y,J,o,j,B⟩=>thn (A _ _ σ _ x y v u _ o m j B) λc D⟨z,f,p,l,k,e,g⟩=>?_) q;subst e;cases l;exact ait ⟨f,p,g⟩
def oX:sizeLine<2^63:=by decide
def vals1{x us}(r:Vals [x] us):∃u,us=[u]/\RelV x u:=by cases r with|cons r1 r2=>cases r2;exact⟨_,rfl,r1⟩
def vals2{x y us}(r:Vals [x,y] us):∃u d,us=[u,d]/\RelV x u/\RelV y d:=by cases r with|cons r1 r2=>cases r2 with|cons r3 r4=>cases r4;exact⟨_,_,rfl,r1,r3⟩
def uH:bu X (.type "int") λd H Q=>(∃i,d=[.int i]/\Q (.int i) H)\/∃k,d=[.bl k]/\Q (.int (if k then 1 else 0)) H:=by
 intro e s σ H d g Q I r h;rcases h with⟨i,rfl,q⟩|⟨k,rfl,q⟩;.obtain⟨u,rfl,t,rfl⟩:=vals1 r;exact call_int_int ⟨.int i,H,I,⟨_,rfl⟩,q⟩
 .obtain⟨u,rfl,f⟩:=vals1 r;cases f;exact call_int_bool ⟨.int (if k then 1 else 0),H,I.tok _,⟨_,rfl⟩,q⟩
end
structure ObjM(h:Heap)(x dx C:Addr)(mA:Str->Option Value):Prop where
 obj:h.get? x=some (W.instObj C dx)ns:h.Ns1 dx mA
 ne:dx≠x
def lT{h:Heap}{dx d}(n:h.Ns1 dx d):∃od,h.get? dx=some od/\∀b,W.lookIn b od=some (d b):=by
 refine acB n λo f p m g i _ k=>?_;refine⟨o,m,λb=>?_⟩;have e:=k b;unfold nsFind findBy at e;rw[<-Array.find?_toList]at e;unfold W.lookIn;rw[g];dsimp ;split;.rename_i y q;rw[q]at e;exact ah5 _ e
 .rename_i q;rw[q]at e;have a:f.toList.any (·.refKey)=false:=by rw[List.any_eq_false];intro y j;obtain⟨z,t,c⟩:=i y (Array.mem_toList_iff.mp j);simp[DictEntry.refKey,c]
  have l:¬f.toList.any (·.refKey)=true:=by grind
  rw[agq l];exact ah5 _ e
def ObjM.look{h x dx C b}(I:ObjM h x dx C b):∃od,W.InstAt h x (W.instObj C dx) C (some od)/\∀a,W.lookIn a od=some (b a):=let⟨od,d,c⟩:=lT I.ns;⟨od,⟨I.obj,rfl,rfl,d⟩,c⟩
def qz.some_of{v o}(r:qz (some v) o):∃u,o=some u/\RelV v u:=by cases o with|none=>exact(r).elim|some u=>exact⟨u,rfl,r⟩
def tM{v u}(r:RelV v u):W.handedIn u=true:=by cases v with|non|bl b=>cases r;rfl|int i|str x|byt b|flt b=>obtain⟨t,e⟩:=r;cases e;rfl|ref a|ty n=>cases r;rfl
section
variable{P:Program}{w:World}{H H':Hp}{h h':Heap}{a C dx:Addr}{fs fs':List (Str×V)}
def zl(c:HOk P w H h)(e:H a=some (.ins C dx fs)):∃b,ObjM h a dx C b/\(∀f,qz (fs.lookup f) (b f))/\PySem.Within b (fs.map (·.1))/\fs.length<=1000/\H dx=some (.own a):=by obtain⟨d,z,g,ob,b,n,r,q⟩:=c a _ e;exact⟨b,⟨ob,n,g⟩,r,q,z,d⟩
end
structure Cls(K:W.Frag)(C:Addr):Prop where
 pg:W.plainGet K C Str.empty=true
 hd:W.hasDictIn K C=true
 po:W.plainOver K C=true
 sa:W.findIn K (.ref C) "__setattr__"=some (some (.builtin "object.__setattr__"))
def Cls.get{K C}(c:Cls K C)(f):W.plainGet K C f=true:=c.pg
section
variable{X:Cx}{pins:List (Addr×Obj)}{σ:St}{H:Hp}{s:Shared}{a C dx:Addr}{fs:List (Str×V)}{f:Str}{v:V}{A:Around}{E:Value->Shared->Prop}
def zR{prog w b e f pos s Q}(d:attributeBase e f b (eval e b)=eval e b)(h:wpAny (model prog w) A (eval e b) (λo c=>wpAny (model prog w) A (getAttr o f true) Q E c) E s):wpAny (model prog w) A (eval (.Attribute e f pos) b) Q E s:=Attribute_any_ h (by rw[arm_eval_Attribute,d])
end
section
variable{X:Cx}{pins:List (Addr×Obj)}{σ:St}{H:Hp}{s:Shared}{A:Around}{E:Value->Shared->Prop}{Q:Value->Shared->Prop}{c:Value}{b:Bool}
inductive TyOf(K:W.Frag)(H:Hp):V->Value->Prop where|non:TyOf K H .non (.type "NoneType")|bl(x:Bool):TyOf K H (.bl x) (.type "bool")|int(i:Int):TyOf K H (.int i) (.type "int")|str(x:Str):TyOf K H (.str x) (.type "str")|flt(x:UInt64):TyOf K H (.flt x) (.type "float")|lst{a:Addr}{xs:List V}(e:H a=some (.lst xs)):TyOf K H (.ref a) (.type "list")|frz{a:Addr}{o:Obj}{xs:List V}(e:H a=some (.frz o (.lst xs))):TyOf K H (.ref a) (.type "list")|tup{a:Addr}{xs:List V}(e:H a=some (.tup xs)):TyOf K H (.ref a) (.type "tuple")|dK{a:Addr}{kvs:List (Key×V)}(e:H a=some (.dK kvs)):TyOf K H (.ref a) (.type "dict")|dT{a:Addr}{kvs:List (List Key×V)}(e:H a=some (.dT kvs)):TyOf K H (.ref a) (.type "dict")|ins{a C dx:Addr}{fs:List (Str×V)}(e:H a=some (.ins C dx fs))(cl:Cls K C)(ha:W.findIn K (.ref C) "__class__"=some (some (.builtin "object.__class__")))(hn:W.specialIn K (.builtin "object.__class__") "__get__"=some (some (.builtin "getset_descriptor.__get__")))(htk:W.takesIn K (.builtin "object.__class__")=some true)(hm:W.mroIn K C (.type "object")=some true):TyOf K H (.ref a) (.ref C)
def tj{x u t}(I:Inv X pins σ H s)(d:RelV x u)(ty:TyOf X.K H x t)(e:W.kitOne X.K t c=some b)(h:∀tk,Q (.bool b) {s with toks:=tk}):wpAny (model X.prog X.w) A (call (.builtin "isinstance") [u,c]) Q E s:=by cases ty with|non=>cases show u=Value.none from d;exact ahx W.kitx_none I.kIn True.intro e (λz=>nomatch z) h|bl y=>cases show u=Value.bool y from d;exact ahx W.kitx_bool I.kIn True.intro e (λz=>nomatch z) h|int i=>obtain⟨t,q⟩:=show∃t,u=Value.int i t from d;cases q;exact ahx W.kitx_int I.kIn True.intro e (λz=>nomatch z) h|str y=>obtain⟨t,q⟩:=show∃t,u=Value.str y t from d;cases q;exact ahx W.kitx_str I.kIn True.intro e (λz=>nomatch z) h|flt y=>obtain⟨t,q⟩:=show∃t,u=Value.float y t from d;cases q;exact ahx W.kitx_float I.kIn True.intro e (λz=>nomatch z) h|@lst a j ea=>cases show u=Value.ref a from d;obtain⟨_,_,n,_,f⟩:=I.hok a _ ea;exact ahx ajk I.kIn ⟨_,f,rfl⟩ e (λz=>nomatch z) h|@frz a ob j ea=>cases show u=Value.ref a from d;obtain⟨_,_,_,n,_,f⟩:=I.hok a _ ea;exact ahx ajk I.kIn ⟨_,f,rfl⟩ e (λz=>nomatch z) h|@tup a j ea=>cases show u=Value.ref a from d;obtain⟨_,_,_,p⟩:=show bS X.prog X.w H s.heap a (.tup j)from I.hok a _ ea;refine gL p λo f g _=>?_;exact ahx W.kitx_tuple I.kIn ⟨o,f,g⟩ e (λz=>nomatch z) h|@dK a kvs ea=>cases show u=Value.ref a from d;obtain⟨_,_,r,_,p⟩:=I.hok a _ ea;refine uQ p λo k l f g _=>?_;exact ahx W.kitx_dict I.kIn ⟨o,f,g.1⟩ e (λz=>nomatch z) h|@dT a kvs ea=>cases show u=Value.ref a from d;obtain⟨_,_,j,_,o,k,l,f,g,_⟩:=show bS X.prog X.w H s.heap a (.dT kvs)from I.hok a _ ea;exact ahx W.kitx_dict I.kIn ⟨o,f,g.1⟩ e (λz=>nomatch z) h|@ins a C dx fs ea cl ha hn htk hm=>cases show u=Value.ref a from d;refine gD (zl I.hok ea) λm O _=>?_;obtain⟨od,J,_⟩:=O.look;exact ahx (W.kitx_own (cl.get _) cl.hd ha hn htk hm) I.kIn J e (λz=>nomatch z) h
end
structure Room(k:Nat)(A:Around):Prop where
 hd:40<=k->A.handled=none
 dp:A.depth+3*k+5<recursionLimit
 un:A.units+16*k+200<cLine
 gd:A.guards=some []
def Room.mono{j k A}(r:Room k A)(h:j<=k):Room j A:=⟨λz=>r.hd (by omega),by have:=r.dp;omega,by have:=r.un;omega,r.gd⟩
theorem Room.deeper{k A}(r:Room (k+1) A)(a):Room k (A.deeper a):=⟨λz=>r.hd (by omega),by have:=r.dp;show A.depth+1+3*k+5<_;omega,by have:=r.un;show A.units+3+16*k+200<_;omega,r.gd⟩
theorem Room.in1{k:Nat}{A:Around}(r:Room (k+1) A):Room k A.in1:=⟨λz=>r.hd (by omega),by have:=r.dp;show A.depth+3*k+5<_;omega,by have:=r.un;show A.units+1+16*k+200<_;omega,r.gd⟩
def p9{A:Around}{C us a}:(A.under (.builtin "type.__call__" ⟨.ref C::us,a⟩)).depth=A.depth+1:=by rfl
def p8{A:Around}{C us a}:(A.under (.builtin "type.__call__" ⟨.ref C::us,a⟩)).units=A.units+1:=rfl
def Room.make{k A}(r:Room (k+1) A)(C)(us)(a):Room k (A.under (.builtin "type.__call__" ⟨.ref C::us,a⟩)):=⟨λz=>r.hd (by omega),by have:=r.dp;rw[p9];omega,by have:=r.un;rw[p8];omega,r.gd⟩
def Room.calm{k}{A:Around}{a}(r:Room k (A.deeper a))(h:40<=k):A.handled.isNone=true:=by rw[show A.handled=none from r.hd h];rfl
def Room.sui{k A v}(r:Room k A)(h:39<=k):Room 39 (A.mark v):=⟨λz=>by omega,by have:=r.dp;show A.depth+3*39+5<_;omega,by have:=r.un;show A.units+16*39+200<_;omega,r.gd⟩
theorem Room.depth{k A}(r:Room k A):A.depth<recursionLimit:=by have:=r.dp;omega
theorem Room.units{k A}(r:Room k A):A.units+64<cLine:=by have:=r.un;omega
def aaH:TA:=λ_ H Q=>Q [] H
def pQ(ta:TE)(b:TA):TA:=λσ H Q=>ta σ H λx c=>b σ c λa d=>Q (x::a) d
section
variable{X:Cx}{e:Expr}{es:List Expr}{te:TE}{t:TA}{pos:Pos}
def dM:PA X [] aaH:=λ_ _ _ _ H Q I h=>Calls.spliced_nil ⟨[],H,I,.nil,h⟩
def bO(c:PE X e te)(b:PA X es t)(hs:SE X e es:=by rfl):PA X (e::es) (pQ te t):=by intro pos a s σ H Q I h;rw[hs];exact Calls.spliced_cons (thn (c _ s σ H _ I h) λu n⟨x,o,k,f,j⟩=>thn (b _ _ _ σ _ _ k j) λq p⟨m,g,i,d,l⟩=>hJ _ g i (.cons f d) l)
def afR(t:TA):TE:=λσ H Q=>t σ H λa b=>a.length<=sizeLine/\∀p,b p=none->Q (.ref p) (upd b p (.tup a))
def ae5(t:TA):TE:=λσ H Q=>t σ H λa b=>a.length<=sizeLine/\∀p,b p=none->Q (.ref p) (upd b p (.lst a))
def abj{d}(h:PA X es t):PE X (.Tuple es d pos) (afR t):=by intro a s σ H Q I f;refine wpAny_Tuple_spliced (thn (h _ _ s σ H _ I f) λg j⟨i,k,c,r,z,q⟩=>⟨by rw[<-r.length];exact z,.ref _,_,c.laid (λb u e=>agm _ e) (agx _) ?_,rfl,q _ (c.hok.fresh (agx _))⟩);exact⟨z,g,r,⟨_,agA _ rfl,rfl,_,rfl⟩⟩
def xD(h:PA X es t):PE X (.List es pos) (ae5 t):=by intro a s σ H Q I d;refine wpAny_List_spliced (thn (h _ _ s σ H _ I d) λf i⟨g,j,c,r,z,q⟩=>⟨by rw[<-r.length];exact z,.ref _,_,c.laid (λb u e=>agm _ e) (agx _) ?_,rfl,q _ (c.hok.fresh (agx _))⟩);exact⟨z,f,0,r,agA _ rfl⟩
end
abbrev Sp:=List V->Hp->VK->XK->Prop
abbrev CXT:=List Env->Hp->Shared->XK->Value->Shared->Prop
structure Env0(P:Program)(w:World)(K:W.Frag)(mg:Str->Option Value)(base:Heap)(A:Around)(outer:List Env)(s:Shared)(H:Hp):Prop where
 frames:A.frames=some outer
 mod:Mod K mg base
 bs:∀b o,base.get? b=some o->s.heap.get? b=some o/\H b=none
 bsz:base.objs.size<=s.heap.objs.size
 jF:s.heap.FunFrames base outer
 frf:∀b∈frs outer,H b=none
 hok:HOk P w H s.heap
 bare:AllBare s.gens
def CE(a:List Env)(P:Program)(w:World)(H:Hp)(s:Shared)(Q:VK)(u:Value)(s':Shared):Prop:=∃v b,s'.os=s.os/\AllBare s'.gens/\Un (frs a) [] H b s.heap s'.heap/\HOk P w b s'.heap/\RelV v u/\Q v b
def CR(CX:CXT)(a:List Env)(P:Program)(w:World)(H:Hp)(s:Shared)(Q:VK)(E:XK)(r:Result)(s':Shared):Prop:=match r with|.ok (.ret u)=>CE a P w H s Q u s'|.ok _=>False|.error e=>CX a H s E e s'
structure FnOk(P:Program)(w:World)(K:W.Frag)(mg:Str->Option Value)(base:Heap)(CX:CXT)(k:Nat)(f:Addr)(fd:FuncData)(ps:List Str)(sp:Sp)(hn:Around->Hp->Prop:=λ_ _=>True):Prop where
 len:∀vs H Q E,sp vs H Q E->vs.length=ps.length
 run:∀(A:Around)(outer:List Env)(s:Shared)(H:Hp)(args:Args)(us:List Value)(vs:List V)(Q:VK)(E:XK),Room k A->hn A H->Env0 P w K mg base A outer s H->BindsTo s fd args (ps.zip us)->Vals vs us->sp vs H Q E->codeAny (model P w) A (.call (.ref f) args) (CR CX outer P w H s Q E) s
theorem FnOk.mono{P:Program}{w:World}{K:W.Frag}{mg:Str->Option Value}{a:Heap}{CX:CXT}{j k:Nat}{f:Addr}{d:FuncData}{ps:List Str}{sp:Sp}(F:FnOk P w K mg a CX j f d ps sp)(h:j<=k):FnOk P w K mg a CX k f d ps sp:=⟨F.len,λA b s H c i g Q E e=>F.run A b s H c i g Q E (e.mono h)⟩
def FnOk.imp{P w K mg a CX k f e ps sp b}(F:FnOk P w K mg a CX k f e ps sp)(h:∀c H Q E,b c H Q E->sp c H Q E):FnOk P w K mg a CX k f e ps b:=⟨λc H Q E q=>F.len _ H Q E (h _ _ _ _ q),λA d s H g p c Q E i o j m n l=>F.run A _ s H _ _ _ Q E i o j m n (h _ _ _ _ l)⟩
def Env0.make{P w K mg b A a s H}(e:Env0 P w K mg b A a s H)(C)(us)(c):Env0 P w K mg b (A.under (.builtin "type.__call__" ⟨.ref C::us,c⟩)) a s H:=⟨by exact e.frames,e.mod,e.bs,e.bsz,e.jF,e.frf,e.hok,e.bare⟩
theorem Env0.in1{P:Program}{w:World}{K:W.Frag}{mg:Str->Option Value}{b:Heap}{A:Around}{a:List Env}{s:Shared}{H:Hp}(e:Env0 P w K mg b A a s H):Env0 P w K mg b A.in1 a s H:=⟨e.frames,e.mod,e.bs,e.bsz,e.jF,e.frf,e.hok,e.bare⟩
section
variable{X:Cx}{pins:List (Addr×Obj)}{σ:St}{H:Hp}{s s':Shared}
def Inv.ac9(I:Inv X pins σ H s):Env0 X.prog X.w X.K X.mg X.base X.A X.stack s H:=⟨I.ok.frames,I.ok.mod,I.bs,agy I.ok.bsz I.sz,I.stack,I.ig,I.hok,I.bare⟩
def Inv.after{Q u}(I:Inv X pins σ H s)(h:CE X.stack X.prog X.w H s Q u s'):EP X pins σ Q u s':=by refine adn h λv e os a un c r q=>?_;obtain⟨i,g,d,t,f⟩:=s';obtain rfl:=os;exact hJ v e (I.call   un c a λb z=>absurd z (by simp)) r q
end
def aaJ(sp:Sp)(a:List V)(E:XK)(t:TA):TE:=λσ H Q=>t σ H λc b=>sp (c++a) b Q E
def Binds(K:W.Frag)(c:FuncData)(ps:List Str)(b:List Value):Prop:=∀(s:Shared)(a:List Value),K.In s.heap->(a++b).length=ps.length->BindsTo s c ⟨a,[]⟩ (ps.zip (a++b))
def Binds.all{K c ps}(h:∀a,a.length=ps.length->bindArgs c ⟨a,[]⟩=pure (ps.zip a)):Binds K c ps []:=λs a _ b=>by rw[ahB]at b⊢;exact .of_eq (h _ b)
def Passes(CX:CXT)(X:Cx)(E:XK):Prop:=∀(a:List (Addr×Obj))(σ:St)(H:Hp)(s:Shared)(e:Value)(b:Shared),Inv X a σ H s->CX X.stack H s E e b->X.xe e b
section
variable{X:Cx}{CX:CXT}{k:Nat}{f C:Addr}{fd:FuncData}{ps:List Str}{sp:Sp}{dvs:List V}{ds:List Value}{E:XK}{x m:Str}{p pos apos:Pos}{e o:Expr}{es:List Expr}{ta:TE}{t:TA}
def aaU{b pins}{σ:St}{H s Q us vs}(F:FnOk X.prog X.w X.K X.mg X.base CX k f fd ps sp b)(d:Room k X.A)(i:Binds X.K fd ps ds)(g:Vals dvs ds)(l:Passes CX X E)(I:Inv X pins σ H s)(r:Vals vs us)(h:sp (vs++dvs) H Q E)(n:b X.A H:=by exact trivial):wpAny (model X.prog X.w) X.A (call (.ref f) us) (EP X pins σ Q) X.xe s:=by
 have c:=r.append g;have j:(us++ds).length=ps.length:=by rw[<-c.length];exact F.len _ _ _ _ h
 refine ah6 (ahT (F.run _ _ s H _ _ _ Q E d n I.ac9 (i s _ I.kIn j) c h) λr q a=>?_);cases r with|error e=>exact l _ σ H s e _ I a|ok fl=>cases fl with|ret u=>exact I.after a|next|brk|cont=>exact False.elim a
def mW(F:FnOk X.prog X.w X.K X.mg X.base CX k f fd ps sp)(g:Room k X.A)(u:Gl X x)(w:X.mg x=some (.ref f))(v:W.keepIn X.K (.ref f)=true)(n:Binds X.K fd ps ds)(l:Vals dvs ds)(y:Passes CX X E)(i:PA X (e::es) t)(b:Dbg x:=by decide)(j:SE X e es:=by rfl)(a:BT X pos es:=by rfl):PE X (.Call (.Name x p) (e::es) [] pos) (aaJ sp dvs E t):=by intro c s σ H Q I h;exact ahY (gc I u w (W.callWith_K I.ok.mod.kin v (thn (i _ _ s σ H _ I h) λD z⟨B,A,d,r,q⟩=>⟨d.kIn,aaU F g n l y d r q⟩) j a) b)
structure Mk(K:W.Frag)(C f:Addr):Prop where
 makes:W.makesIn K C=true
 init:W.findIn K (.ref C) "__init__"=some (some (.ref f))fn:W.isFn K (.ref f)=true
 kp:W.keepIn K (.ref C)=true
end
structure FnScope(N P:List Str)(sc:Scope):Prop where
 kind:sc.kind=.function
 co:sc.isCoroutine=false
 gen:sc.isGenerator=false
 nd:N.Nodup
 pre:N.take P.length=P
 par:∀x∈P,sc.names.lookup x=some .local\/sc.names.lookup x=some .cell
 nofree:∀y∈sc.names,y.2≠.free
theorem me{kindOf x}:∀{binds m},(∀v,(x,v)∉binds)->bindL kindOf binds m x=m x
|[],_,_=>rfl|(n,v)::r,m,h=>by
 unfold bindL;rw[me λw hw=>h w (agw _ hw)];split
 .have:x≠n:=by grind
  simp[this]
 .rfl
theorem mh{kindOf x}:∀{binds m},(∀v,(x,v)∉binds)->bindC kindOf binds m x=m x
|[],_,_=>rfl|(n,v)::r,m,h=>by
 unfold bindC;rw[mh λw hw=>h w (agw _ hw)];split;.rfl
 .have:x≠n:=by grind
  simp[this]
theorem mf{kindOf:Str->Option NameKind}{x:Str}{v:Value}:∀{P:List Str}{vs:List Value}{i:Nat}{m:Str->Option Value},P.Nodup->P[i]?=some x->vs[i]?=some v->kindOf x=some .local->bindL kindOf (P.zip vs) m x=some v|[],_,_,_,_,h,_,_=>by simp at h|_::_,[],_,_,_,_,h,_=>by simp at h|p::P,w::vs,0,m,nd,h1,h2,hk=>by simp at h1 h2;subst h1;subst h2;show bindL kindOf ((p,w)::P.zip vs) m p=_;unfold bindL;rw[me λv a=>(ag1.mp nd).1 (ajf a).1,ago hk];simp|p::P,w::vs,i+1,m,nd,h1,h2,hk=>by show bindL kindOf ((p,w)::P.zip vs) m x=_;unfold bindL;exact mf (i:=i) (ag1.mp nd).2 (by simpa using h1) (by simpa using h2) hk
theorem mi{kindOf x v}:∀{P:List Str}{vs}{i:Nat}{m},P.Nodup->P[i]?=some x->vs[i]?=some v->kindOf x≠some .local->bindC kindOf (P.zip vs) m x=some v|[],_,_,_,_,h,_,_=>by simp at h|_::_,[],_,_,_,_,h,_=>by simp at h|p::P,w::vs,0,m,nd,h1,h2,hk=>by simp at h1 h2;subst h1;subst h2;show bindC kindOf ((p,w)::P.zip vs) m p=_;unfold bindC;rw[mh λv a=>(ag1.mp nd).1 (ajf a).1,agq hk];simp|p::P,w::vs,i+1,m,nd,h1,h2,hk=>by unfold bindC;exact mi (i:=i) (ag1.mp nd).2 (by simpa using h1) (by grind) hk
noncomputable def start(N:List Str)(vs:List V):St:=vs.map some++List.replicate (N.length-vs.length) none
noncomputable def gi(CX:CXT)(P:Program)(w:World)(K:W.Frag)(mg:Str->Option Value)(base:Heap)(N:List Str)(qual:Str)(scope:Scope)(f:Addr)(cd:Value)(A:Around)(outer:List Env)(s:Shared)(H:Hp)(E:XK):Cx where prog:=P;w:=w;K:=K;mg:=mg;base:=base;A:=A.deeper (envOfC qual scope s.heap.objs.size f cd);N:=N;s₀:=s;H₀:=H;env:=envOfC qual scope s.heap.objs.size f cd;outer:=outer;stack:=envOfC qual scope s.heap.objs.size f cd::outer;ex:=[];calm:=A.handled.isNone;fn:=λ_=>true;pn:=[];xe:=λe s'=>wpAny (model P w) (A.deeper (envOfC qual scope s.heap.objs.size f cd)) (leaving (envOfC qual scope s.heap.objs.size f cd) e) (λ_ s''=>CX outer H s E e s'') (λe' s''=>CX outer H s E e' s'') s'
def pj{a:Scope}{n x}(h:a.names.lookup x=some .cell):∃c,(cellsFrom n a.names []).lookup x=some c:=by exact ahc.mp (W.cellsFrom_some _ n _ (.inl h))
def tr{CX P w K mg l N ps g scope f D A d s O H E us vs}(S:FnScope N ps scope)(m:Env0 P w K mg l A d s H)(Y:vs.length=ps.length)(r:Vals vs us)(x:InCallC s s.heap.objs.size (bindL (envOfC g scope s.heap.objs.size f D).kindOf (ps.zip us) λ_=>none) (cellsFrom (s.heap.objs.size+1) scope.names []) (bindC (envOfC g scope s.heap.objs.size f D).kindOf (ps.zip us) λ_=>none) O):Inv (gi CX P w K mg l N g scope f D A d s H E) [] (start N vs) H O:=by
 have U:ps.length<=N.length:=by have:=ah5 List.length S.pre;rw[ah7]at this;omega
 refine cW x.done λI tk J M=>?_;subst J;have o:∀b:Addr,b ∉(gi CX P w K mg l N g scope f D A d s H E).ex:=λb z=>absurd (show b∈([]:List Addr)from z) (by simp);refine⟨⟨m.mod,S.kind,rfl,rfl,agx _,λy z c I j=>?_,λy B=>?_,λy c _ h=>?_,λz=>ai1.mp z,Around.frames_deeper m.frames,.inr ⟨rfl,rfl⟩,λb z=>absurd z (o b),m.bs,m.bsz,λb _ _=>o b,λb z=>absurd z (o b),m.jF,m.frf⟩,rfl,m.bare,Un.kept M,⟨_,x.toInCall.ns,λi y v I j X=>?_⟩,λy c h=>⟨_,x.cell y c h⟩,m.hok.fresh (agx _),λy c h=>?_,λp C=>absurd (show p∈([]:List (Addr×Obj))from C) (by simp),m.hok.kept M,?_⟩;.exact name_of_addr x.apart (agW I) (agW j)
 .rcases B with B|B;.exact pj B
  .exact absurd rfl (S.nofree _ (agW B))
 .exact ahl (x.above y c (agW h))
 .have G:i<vs.length:=by
   unfold start at j;by_cases G:i<vs.length;.exact G
   .rw[ahm (by simpa using G)]at j;rw[ahX]at j;split at j<;>cases j
  have T:vs[i]?=some v:=by unfold start at j;rw[ahs (by simpa using G),agT]at j;cases e:vs[i]? with|none=>rw[e]at j;cases j|some a=>rw[e]at j;cases j;rfl
  refine gD (r.get T) λu Q R=>?_;have C:ps[i]?=some y:=by rw[<-S.pre,List.getElem?_take_of_lt (by omega)];exact I
  have t:ps.Nodup:=by rw[<-S.pre];exact S.nd.sublist (List.take_sublist _ _)
  refine⟨u,R,?_⟩;rcases S.par y (ahu C)with k|k;.exact .inl ⟨k,mf t C Q k⟩
  .obtain⟨c,e⟩:=pj (n:=s.heap.objs.size+1) k;refine .inr ⟨.inl k,c,e,?_⟩;have q:=x.cell y c e;rw[mi t C Q (by show scope.names.lookup y≠_;rw[k];decide)]at q;exact q
 .exact m.hok.fresh (ahl (x.above y c (agW h)))
 .unfold start;show _=N.length;rw[ahg,agO,ah3];omega
def zv{CX P w K mg g k f name c h body scope X kV C U d ct oc Y od R N ps sp}(lk:K.lookup f=some ⟨oc,od,.func (W.fnOf name c h body scope X kV C U Y d ct),R⟩)(O:W.codeIn K d c=true)(S:FnScope N ps scope)(len:∀i H Q E,sp i H Q E->i.length=ps.length){Z}(p:∀A a s H i Q E,Room k (A.deeper (envOfC c scope s.heap.objs.size f d))->Z A H->sp i H Q E->∃t,PSs (gi CX P w K mg g N c scope f d A a s H E) body t/\t {nx:=λ_ l=>Q .non l,rt:=Q} (start N i) H):FnOk P w K mg g CX (k+1) f (W.fnOf name c h body scope X kV C U Y d ct) ps sp Z:=by
 refine⟨len,λA a s H a0 us i Q E T hN D hb r B=>?_⟩;have KX:K.In s.heap:=D.mod.kin.keeps λb o e=>(D.bs b o e).1;have lim:s.heap.NoLimit:=D.mod.nolimit.keeps λb o e=>(D.bs b o e).1;have m:∀y∈ps.zip us,scope.names.lookup y.1=some .local\/scope.names.lookup y.1=some .cell/\((cellsFrom (s.heap.objs.size+1) scope.names []).lookup y.1).isSome=true:=λ⟨n,v⟩hy=>by
  rcases S.par n (ajf hy).1 with q|q;.exact .inl q
  .exact .inr ⟨q,W.cellsFrom_some _ _ _ (.inl q)⟩
 refine codeAny_call_function T.depth (KX _ _ lk) rfl S.co S.gen rfl (W.codeRec_of KX O) (hb _ _ _ _ ?_);refine wpAny_newFunctionEnv_cells S.kind m λa1 he s1 x=>?_;subst he;refine⟨lim.keeps x.toInCall.keep,codeAny_func ?_⟩;refine gD (p A a s H i Q E (T.deeper _) hN B) λt ht hq=>?_;have I:Inv (gi CX P w K mg g N c scope f d A a s H E) [] (start N i) H s1:=tr S D (len _ _ _ _ B) r x;refine agN (ht [] s1 (start N i) H _ I hq) (λfl M z=>?_) λe M z=>z;have fin:∀{j:St}{l:Hp}{v:V}{u:Value},Inv (gi CX P w K mg g N c scope f d A a s H E) [] j l M->RelV v u->Q v l->CE a P w H s Q u M:=λ{j l v u}J G q=>acE v l J.os J.bare J.base J.hok G q;cases fl with|ret u=>refine uQ z λv j l J G q=>?_;exact fin J G q|next=>obtain⟨j,l,J,q⟩:=z;exact fin (v:=V.non) (u:=Value.none) J rfl q|brk=>obtain⟨_,_,_,q⟩:=z;exact False.elim q|cont=>obtain⟨_,_,_,q⟩:=z;exact False.elim q
section
variable{X:Cx}{x:Str}{p pos:Pos}{e:Expr}{es:List Expr}{t:TA}{id T:String}{r:List V->Hp->VK->Prop}
def tCB(r:List V->Hp->VK->Prop)(t:TA):TE:=λσ H Q=>t σ H λa b=>r a b Q
def oM(i:bu X (.builtin id) r)(l:Gl X x)(m:X.mg x=none)(k:bootBuiltins x=some (.builtin id))(d:PA X (e::es) t)(f:x≠"__name__":=by decide)(b:Dbg x:=by decide)(g:SE X e es:=by rfl)(a:BT X pos es:=by rfl):PE X (.Call (.Name x p) (e::es) [] pos) (tCB r t):=by intro c s σ H Q I h;exact ahY (eM I l m k (PyProof.Rows.callWith_builtin1 (thn (d _ _ s σ H _ I h) λw q⟨v,u,o,j,n⟩=>i _ _ σ _ _ _ Q o j n) g a) f b)
def lJ(i:bu X (.type T) r)(l:Gl X x)(m:X.mg x=none)(k:bootBuiltins x=some (.type T))(d:PA X (e::es) t)(f:x≠"__name__":=by decide)(b:Dbg x:=by decide)(g:SE X e es:=by rfl)(a:BT X pos es:=by rfl):PE X (.Call (.Name x p) (e::es) [] pos) (tCB r t):=by intro c s σ H Q I h;exact ahY (eM I l m k (ag4 (thn (d _ _ s σ H _ I h) λw q⟨v,u,o,j,n⟩=>i _ _ σ _ _ _ Q o j n) g a) f b)
end
end L2
namespace HT
open PySem PyProof.Rows
section
open PySem.SeqAt
open PySem.AutoSeq1(wpAny_loadPart')
open PySem.MeetsSeq PySem.MeetsSeq2 PySem.MeetsSeq3
end
section
variable{prog:Program}{w:World}{A:Around}{E:Value->Shared->Prop}{s:Shared}
def zL{t b:Addr}{vs ws:List Value}{Q:Value->Shared->Prop}(ht:IsTup s.heap t vs.toArray)(q:IsTup s.heap b ws.toArray)(m:vs≠[])(r:ws=[]->Q (.ref t) s)(p:ws≠[]->Q (.ref s.heap.objs.size) {s with heap:=s.heap.push {cls:=.type "tuple",data:=.seq (vs++ws).toArray}})(hsz:vs.length+ws.length<=sizeLine):wpAny (model prog w) A (binaryOp .Add (.ref t) (.ref b)) Q E s:=by
 obtain⟨⟨cls,dd,data,j⟩,h,k,n,l⟩:=id ht;obtain⟨⟨i,f,data2,c⟩,a,g,o,d⟩:=id q;simp only at k l g d;subst k l g d;have e:vs.toArray++ws.toArray=(vs++ws).toArray:=by simp
 by_cases hw:ws=[];.exact ai4 ⟨_,h,rfl⟩ ⟨_,a,rfl⟩ ai5 seq_tuple_add aiy ais (aii _ _) (tuple_addW1 t b vs.toArray ws.toArray n o dd f j c (by simpa using m) (by simp[hw])) ⟨h,a,r hw⟩
 .refine ai4 ⟨_,h,rfl⟩ ⟨_,a,rfl⟩ ai5 seq_tuple_add aiy ais (aii _ _) (tuple_addW2 t b vs.toArray ws.toArray n o dd f j c (by simpa using m) (by simpa using hw) (by rw[ahp,ahp];exact hsz)) ⟨h,a,?_⟩;rw[e];exact p hw
noncomputable def sIx(n d:Nat):Option Int->Nat|none=>d|some v=>if v<0 then(v+(n:Int)).toNat else min v.toNat n
def aaS(n d)(b:d<=n)(o):sIx n d o<=n:=by cases o with|none=>exact b|some v=>
 show(if v<0 then(v+n).toNat else min _ n)<=n;by_cases a:v<0;.rw[ago a];omega
 .rw[agq a];exact aiA _ _
def uw(v)(n d:Nat):(if v<0 then max (v+(n:Int)) 0 else min v n)=(sIx n d (some v):Nat):=by
 show(if v<0 then max _ 0 else min v n)=if v<0 then(v+n).toNat else min _ n;by_cases a:v<0;.simp only[ago a];omega
 .simp [agq a];omega
def qr(lo a)(n:Nat):Builtin.Slice.sliceAdjust lo a 1 n=((sIx n 0 lo:Int),(sIx n n a:Int)):=by
 refine Prod.ext ?_ ?_;.cases lo with|none=>rfl|some v=>exact uw v n 0
 .cases a with|none=>rfl|some v=>exact uw v n n
def pY(i j:Nat):Builtin.Slice.slicePlaces (i:Int) (j:Int) 1=j-i:=by
 unfold Builtin.Slice.slicePlaces;have a:(1:Int)>0:=by omega
 simp only[a,aib,Int.ediv_one];split<;>omega
def jn{v o Q}(p:IsPart v o)(h:Q o s):wpAny (model prog w) A (Builtin.Slice.slicePartIndex v) Q E s:=by cases p with|none=>exact slicePart_none h|int i t=>exact slicePart_int h
def gH{sl e d lo c n}{Q:Int×Int×Nat->Shared->Prop}(hs:s.heap.IsSliceOf sl e d .none)(pl:IsPart e lo)(f:IsPart d c)(h:Q ((sIx n 0 lo:Nat),1,sIx n n c-sIx n 0 lo) s):wpAny (model prog w) A (Builtin.Slice.sliceApplied (.ref sl) (pure n)) Q E s:=by refine gL (id hs) λos a g b=>?_;refine agl (agl (agQ a b (x:=e) rfl (agl (agQ a b (x:=d) rfl (agl (agQ a b rfl (agp ?_)))))));refine agl (slicePart_none ?_);refine agl (jn pl (agl (jn f (agl (agp ?_)))));show wpAny _ _ (match Builtin.Slice.sliceAdjust lo c 1 (n:Int)with|(lo,c)=>pure (lo,(1:Int),Builtin.Slice.slicePlaces lo c 1)) _ _ s;rw[qr lo c n];show wpAny _ _ (pure _) _ _ s;rw[pY];exact agp h
def vE(xs:Array Value)(i k:Nat):((List.range k).filterMap λ(m:Nat)=>xs[((i:Int)+(m:Int)*1).toNat]?).toArray=((xs.toList.drop i).take k).toArray:=by
 have e:(λ(m:Nat)=>xs[((i:Int)+(m:Int)*1).toNat]?)=λm=>xs[i+m]?:=by
  funext m;have:((i:Int)+(m:Int)*1).toNat=i+m:=by omega
  rw[this]
 rw[e];have:=pick_run xs i k;rw[List.filterMap_map]at this;have a:((λx=>xs[x]?)∘λx=>i+x)=λm=>xs[i+m]?:=rfl;rw[a]at this;rw[this]
def gg{t sl items i g lo a Q}(ht:IsTup s.heap t items)(hs:s.heap.IsSliceOf sl i g .none)(pl:IsPart i lo)(j:IsPart g a)(hw:¬(sIx items.size 0 lo=0/\sIx items.size items.size a=items.size))(h:Q (.ref s.heap.objs.size) {s with heap:=s.heap.push {cls:=.type "tuple",data:=.seq ((items.toList.drop (sIx items.size 0 lo)).take (sIx items.size items.size a-sIx items.size 0 lo)).toArray}})(hsz:items.size<=sizeLine):wpAny (model prog w) A (getItem (.ref t) (.ref sl)) Q E s:=by
 have b:sizeOk (.seq ((items.toList.drop (sIx items.size 0 lo)).take (sIx items.size items.size a-sIx items.size 0 lo)).toArray):=by show((items.toList.drop (sIx items.size 0 lo)).take (sIx items.size items.size a-sIx items.size 0 lo)).toArray.size<=sizeLine;rw[ahp,ah7,aiB,aic];omega
 have l:sIx items.size items.size a<=items.size:=aaS _ _ (agx _) a;refine gL (id hs) λos c d k=>?_;have f:s.TypeIs (.ref sl) "slice":=⟨os,c,d⟩;unfold getItem;try with_reducible refine ahn ?_
 first|refine agl (agp ?_)|skip
 refine agl (wpAny_sequenceKey ht.typeIs (by decide) ?_);refine agl (ahh (name:=Str.ofString "__getitem__") ht.typeIs ahW (ahw ahW ht.typeIs entry_tuple_getitem ?_ (args_tuple_getitem _ _)));show wpAny _ _ (Builtin.Tuple.tupleItemsOf (.ref t)>>=_) _ _ s;refine agl (tupleItemsOf_ ht ?_);refine agl (wpAny_typeOf f ?_);rw[ago (by decide)];refine agl (gH hs pl j ?_);have e:¬(((sIx items.size 0 lo:Nat):Int)==0&&(1:Int)==1&&sIx items.size items.size a-sIx items.size 0 lo==items.size)=true:=by grind
 show wpAny _ _ (if(((sIx items.size 0 lo:Nat):Int)==0&&(1:Int)==1&&sIx items.size items.size a-sIx items.size 0 lo==items.size)=true then _ else _) _ _ s;rw[agq e,vE];exact agl (m:=Builtin.Tuple.tupleExact _) (aiu (agp ⟨_,rfl,agp h⟩) b)
end
end HT
namespace L2
open PySem PySem.Spec PyProof.Rows
abbrev TO:=St->Hp->(Option Int->Hp->Prop)->Prop
def PO(X:Cx)(e:Option Expr)(t:TO):Prop:=∀(a:List (Addr×Obj))(s:Shared)(σ:St)(H:Hp)(Q:Option Int->Hp->Prop),Inv X a σ H s->t σ H Q->wpAny (model X.prog X.w) X.A (evalPart e X.env) (λu c=>∃o b,Inv X a σ b c/\IsPart u o/\Q o b) X.xe s
def yf:TO:=λ_ H Q=>Q none H
def adw(t:TE):TO:=λσ H Q=>t σ H λx a=>∃i,x=.int i/\Q (some i) a
section
variable{X:Cx}{e:Expr}{te:TE}{lo hi:Option Expr}{tl th:TO}{pos p2:Pos}
def yG:PO X none yf:=by intro a s σ H Q I h;exact agp ⟨_,H,I,.none,h⟩
def yF(h:PE X e te):PO X (some e) (adw te):=by intro a s σ H Q I hw;refine thn (h _ s σ H _ I hw) λu g⟨x,b,f,c,d⟩=>?_;obtain⟨i,rfl,q⟩:=d;obtain⟨t,rfl⟩:=c;exact⟨_,b,f,.int i t,q⟩
def SlR(X:Cx)(r:V->Option Int->Option Int->Hp->VK->Prop):Prop:=∀(a:List (Addr×Obj))(s:Shared)(σ:St)(H:Hp)(x:V)(v c b:Value)(lo hi:Option Int)(d:Addr)(Q:VK),Inv X a σ H s->RelV x v->s.heap.IsSliceOf d c b .none->IsPart c lo->IsPart b hi->r x lo hi H Q->∃T id,typeLookup (.type T) "__getitem__"=pure (some (.builtin id))/\s.TypeIs v T/\wpAny (model X.prog X.w) X.A (getItem v (.ref d)) (EP X a σ Q) X.xe s
def SlR.or{r c}(h:SlR X r)(h':SlR X c):SlR X λx lo hi H Q=>r x lo hi H Q\/c x lo hi H Q:=by
 intro d s σ H x v j i lo hi g Q I f b pl a q;rcases q with q|q;.exact h _ s σ H x v _ _ _ _ _ Q I f b pl a q
 .exact h' _ s σ H x v _ _ _ _ _ Q I f b pl a q
def tSl(r:V->Option Int->Option Int->Hp->VK->Prop)(te:TE)(tl th:TO):TE:=λσ H Q=>te σ H λx b=>tl σ b λl c=>th σ c λu a=>r x l u a Q
def vH{r}(j:SlR X r)(m:PE X e te)(G:PO X lo tl)(K:PO X hi th):PE X (.Subscript e (.Slice lo hi none p2) pos) (tSl r te tl th):=by intro a s σ H Q I h;refine Subscript_ (thn (m a s σ H _ I h) λv B⟨x,k,y,D,w⟩=>wpAny_Slice (thn (G a B σ k _ y w) λg C⟨l,n,E,pl,z⟩=>thn (K a C σ n _ E z) λf c⟨u,d,t,i,A⟩=>agp ?_));have p:Inv X a σ d {c with heap:=c.heap.push {cls:=.type "slice",data:=.fields #[g,f,.none]}}:=t.kept λb ob q=>agm _ q;refine jN (j a _ σ d x v g f l u c.heap.objs.size Q p D (Heap.IsSliceOf.new ..) pl i A) λT id J ht o=>?_;exact tail_any ht J o (rfl)
def aae(xs:List V)(lo hi:Option Int):List V:=(xs.drop (HT.sIx xs.length 0 lo)).take (HT.sIx xs.length xs.length hi-HT.sIx xs.length 0 lo)
def i4(xs)(lo hi):(aae xs lo hi).length<=xs.length:=by unfold aae;rw[ah7,aiB];omega
def afZ(K:W.Frag):V->Option Int->Option Int->Hp->VK->Prop:=λx lo hi H Q=>∃a b,x=.ref a/\SqT K H a b/\¬(HT.sIx b.length 0 lo=0/\HT.sIx b.length b.length hi=b.length)/\∀p,H p=none->Q (.ref p) (upd H p (.tup (aae b lo hi)))
def aaN:SlR X (afZ X.K):=by
 intro i s σ H x v t p lo hi o Q I l k pl j h;refine qv h λa g f m hw q=>?_;subst f;cases l;refine gL (I.tuple m) λd r ht n=>?_;have c:d.toArray.size=g.length:=by rw[ahp];exact r.length.symm
 refine hJ "tuple" _ ahW.lookup ht.typeIs ?_;refine HT.gg ht k pl j (by grind) ?_ (by omega);rw[c];refine(hJ (.ref s.heap.objs.size) _ (I.laid (t':=s.toks) (λb ob q=>agm _ q) (agx _) ?_) rfl (q _ (I.hok.fresh (agx _))));exact⟨agy (i4 g lo hi) n,_,(r.drop _).take _,IsTup.new _ _⟩
def adT(K:W.Frag):R2:=λx y H Q=>∃a b d c,x=.ref a/\y=.ref b/\SqT K H a d/\SqT K H b c/\d≠[]/\d.length+c.length<=sizeLine/\(c=[]->Q (.ref a) H)/\(c≠[]->∀p,H p=none->Q (.ref p) (upd H p (.tup (d++c))))
def Vals.m5{xs us}(r:Vals xs us):us=[]↔ xs=[]:=by cases r with|nil|cons _ _=>simp
def yS:OpR X (binaryOp .Add) (adT X.K):=by intro i s σ H x y v u Q I C j h;obtain⟨a,b,p,r,rfl,rfl,t,A,l,g,k,n⟩:=h;cases C;cases j;obtain⟨B,d,m,_⟩:=I.tuple t;obtain⟨f,c,p2,_⟩:=I.tuple A;refine HT.zL m p2 (λz=>l (d.m5.mp z)) (λz=>⟨.ref a,H,I,rfl,k (c.m5.mp z)⟩) (λz=>?_) (by rw[<-d.length,<-c.length];exact g);refine⟨.ref s.heap.objs.size,_,I.laid (t':=s.toks) (o:=.tup (p++r)) (λb ob q=>agm _ q) (agx _) ?_,rfl,n (λw=>z (c.m5.mpr w)) _ (I.hok.fresh (agx _))⟩;exact⟨by rw[ahg];exact g,_,d.append c,IsTup.new _ _⟩
end
noncomputable def ixN(n:Nat)(i:Int):Option Nat:=if 0<=i then if i<n then some i.toNat else none else if -(n:Int)<=i then some (i+n).toNat else none
def atI{a:Type}(xs:List a)(i:Int):Option a:=(ixN xs.length i).bind λj=>xs[j]?
def zh{n i j}(h:ixN n i=some j):seqIndex? i n=some j/\j<n/\-n<=i/\i<n:=by
 unfold ixN at h;by_cases b:0<=i
 .rw[ago b]at h;by_cases a:i<n;.rw[ago a]at h;have e:=agS h;exact⟨by rw[seqIndex_of b a,e],by omega,by omega,a⟩
  .rw[agq a]at h;cases h
 .rw[agq b]at h;by_cases a:-(n:Int)<=i;.rw[ago a]at h;have e:=agS h;exact⟨by rw[seqIndex_neg (by omega) a,e],by omega,a,by omega⟩
  .rw[agq a]at h;cases h
def nU{a xs i}{v:a}(h:atI xs i=some v):∃j,seqIndex? i xs.length=some j/\xs[j]?=some v/\j<xs.length/\-xs.length<=i/\i<xs.length:=by unfold atI at h;cases e:ixN xs.length i with|none=>rw[e]at h;cases h|some j=>rw[e]at h;refine ado (zh e) λf d c b=>?_;exact⟨j,f,h,d,c,b⟩
def eZ{a:Type}{xs:List a}{j:Nat}{v:a}(h:xs[j]?=some v):atI xs (j:Int)=some v:=by
 have b:j<xs.length:=(agu.mp h).1;have e:ixN xs.length (j:Int)=some j:=by unfold ixN;rw[ago (by omega),ago (by omega)];simp
 unfold atI;rw[e];exact h
def pz{a:Type}(xs:List a)(v:a):atI (xs++[v]) (-1)=some v:=by
 have b:(xs++[v]).length=xs.length+1:=by simp
 have e:ixN (xs++[v]).length (-1)=some xs.length:=by unfold ixN;rw[b,agq (by decide),ago (by omega)];congr 1;omega
 unfold atI;rw[e];show(xs++[v])[xs.length]?=some v;simp
def kN(b:Expr):Prop:=∀o i,subscripted b false o i=operate [o,i] (getItem o i)
def IxR(X:Cx)(r:R2):Prop:=∀(c a:Expr)(b:List (Addr×Obj))(s:Shared)(σ:St)(H:Hp)(x y:V)(v u:Value)(Q:VK),Inv X b σ H s->RelV x v->RelV y u->r x y H Q->subscripted a false v u=operate [v,u] (getItem v u)->wpAny (model X.prog X.w) X.A (subscriptTail c a v u) (EP X b σ Q) X.xe s
def MtR(X:Cx)(id:String)(r:V->List V->Hp->VK->Prop):Prop:=∀(a:List (Addr×Obj))(s:Shared)(σ:St)(H:Hp)(x:V)(b:List V)(v:Value)(c:List Value)(Q:VK),Inv X a σ H s->RelV x v->Vals b c->r x b H Q->wpAny (model X.prog X.w) X.A (call (.builtin id) (v::c)) (EP X a σ Q) X.xe s
section
variable{X:Cx}{a b:Expr}{ta tb:TE}{pos:Pos}
def IxR.or{r g}(h:IxR X r)(h':IxR X g):IxR X λx y H Q=>r x y H Q\/g x y H Q:=by
 intro d c i s σ H x y v u Q I j e q f;rcases q with q|q;.exact h _ _ _ s σ H x y v u Q I j e q f
 .exact h' _ _ _ s σ H x y v u Q I j e q f
def MtR.or{id:String}{r f:V->List V->Hp->VK->Prop}(h:MtR X id r)(h':MtR X id f):MtR X id λx d H Q=>r x d H Q\/f x d H Q:=by
 intro c s σ H x d v g Q I e rs q;rcases q with q|q;.exact h c s σ H x d v g Q I e rs q
 .exact h' c s σ H x d v g Q I e rs q
def adY{r}(e:IxR X r)(f:PE X a ta)(g:PE X b tb)(hs:kN b):PE X (.Subscript a b pos) (tOp r ta tb):=by intro c s σ H Q I h;exact Subscript_ (aeQ f g I h λv u k x y l i j d q=>e a b _ _ σ _ x y v u Q i j d q (hs _ _))
def afc(K:W.Frag):R2:=λx y H Q=>∃p c i v,x=.ref p/\y=.int i/\SqL K H p c/\atI c i=some v/\Q v H
def afa(K:W.Frag):R2:=λx y H Q=>∃p c i v,x=.ref p/\y=.int i/\SqT K H p c/\atI c i=some v/\Q v H
def afb:R2:=λx y H Q=>∃z i c,x=.str z/\y=.int i/\z.length<=sizeLine/\atI z.cps.toList i=some c/\Q (.str ⟨#[c]⟩) H
def sZ:IxR X (afc X.K):=by
 intro l f c s σ H x y v u Q I K A h n;obtain⟨p,R,i,z,rfl,rfl,G,C,q⟩:=h;cases K;obtain⟨t,rfl⟩:=A;obtain⟨g,r,pl,P⟩:=I.list G;obtain⟨j,d,D,O,B,M⟩:=nU C;obtain⟨w,o,k⟩:=r.get D;have J:=r.length;have N:=oX;have fin:EP X c σ Q w s:=⟨z,H,I,k,q⟩;by_cases m:0<=i
 .have e:i.toNat=j:=by rw[seqIndex_of m M]at d;exact agS d
  exact item_listR pl.isList m (by omega) (by rw[e];simpa using o) fin n
 .have e:(i+(g.toArray.size:Int)).toNat=j:=by rw[seqIndex_neg (by omega) B]at d;rw[ahp,<-J];exact agS d
  exact subscriptTail_builtinR (x:=w) pl.isList.typeIs slot_list_getitem.lookup (wpAny_getItem_list_neg (Q:=λr E=>r=w/\EP X c σ Q r E) pl.isList (by omega) (by rw[ahp]<;>omega) (by omega) (by rw[e];simpa using o) ⟨rfl,fin⟩) n
def xN:IxR X (afa X.K):=by intro e c f s σ H x y v u Q I A g h n;obtain⟨p,G,i,z,rfl,rfl,m,k,q⟩:=h;cases A;obtain⟨t,rfl⟩:=g;obtain⟨o,r,pl,E⟩:=I.tuple m;obtain⟨j,J,l,D,B,N⟩:=nU k;obtain⟨w,M,d⟩:=r.get l;have K:=r.length;have C:=oX;exact subscriptTail_builtinR pl.typeIs slot_tuple_getitem.lookup (getItem_tuple (j:=j) pl (by omega) (by omega) (by grind) (by grind) ⟨rfl,⟨z,H,I,d,q⟩⟩) n
def abX:IxR X afb:=by
 intro e d g s σ H x y v u Q I r k h o;obtain⟨z,i,c,rfl,rfl,G,m,q⟩:=h;obtain⟨t,rfl⟩:=r;obtain⟨D,rfl⟩:=k;obtain⟨j,f,n,E,l,B⟩:=nU m;have p:z.cps.toList.length=z.length:=by simp[Str.length]
 rw[p]at f l B;have C:=oX;exact tail_any (typeIs_str s z t) slot_str_getitem.lookup (getItem_str (c:=c) (by have A:decide (i < -(2^63:Int))=false:=agX (by omega);have w:decide (i ≥ 2^63)=false:=agX (by omega);rw[A,w,Bool.or_false]) (by rw[f];simpa using n) ⟨.str ⟨#[c]⟩,H,I.tok _,⟨_,rfl⟩,q⟩) o
def rIx(K:W.Frag):R2:=λx y H Q=>afc K x y H Q\/afa K x y H Q\/afb x y H Q
def sY:IxR X (rIx X.K):=sZ.or (xN.or abX)
theorem Inv.lst{pins:List (Addr×Obj)}{σ:St}{H:Hp}{s:Shared}{p:Addr}{xs:List V}(I:Inv X pins σ H s)(h:H p=some (.lst xs)):∃(its:List Value)(n:Nat),Vals xs its/\s.heap.get? p=some {cls:=.type "list",data:=.seq its.toArray n}/\xs.length<=sizeLine:=by obtain⟨z,its,n,r,e⟩:=I.hok p _ h;exact⟨its,n,r,e,z⟩
def ll(lo c)(n):(sliceBounds lo c none n).1=(HT.sIx n 0 lo:Nat)/\(sliceBounds lo c none n).2.1=(HT.sIx n n c:Nat)/\(sliceBounds lo c none n).2.2=1:=by
 refine⟨?_,?_,rfl⟩;.cases lo with|none=>simp[sliceBounds,HT.sIx]|some i=>
  simp only[sliceBounds,HT.sIx,Option.getD_none,show(1:Int)>0 by decide,aib];by_cases h:i<0;.simp only[h,aib]<;>omega
  .simp only[h,ahM]<;>omega
 .cases c with|none=>simp[sliceBounds,HT.sIx]|some i=>
  simp only[sliceBounds,HT.sIx,Option.getD_none,show(1:Int)>0 by decide,aib];by_cases h:i<0;.simp only[h,aib]<;>omega
  .simp only[h,ahM]<;>omega
def jW(its:List Value)(lo c):slicePick its.toArray lo c none=((its.drop (HT.sIx its.length 0 lo)).take (HT.sIx its.length its.length c-HT.sIx its.length 0 lo)).toArray:=by obtain⟨f,e,d⟩:=ll _ _ _;unfold slicePick;rw[f,e,d];simp only[sliceRange_one,pick_run,ahp]
def af0(K:W.Frag):V->Option Int->Option Int->Hp->VK->Prop:=λx lo d H Q=>∃a c,x=.ref a/\SqL K H a c/\∀p,H p=none->Q (.ref p) (upd H p (.lst (aae c lo d)))
def yl:SlR X (af0 X.K):=by intro e s σ H x v t p lo g o Q I l j pl f h;refine jN h λa i d m q=>?_;subst d;cases l;refine gL (I.list m) λk r ht n=>?_;have c:=r.length;refine hJ "list" _ slot_list_getitem.lookup ht.isList.typeIs (wpAny_getItem_list_slice ht.isList j pl f .none (by simp) ?_ (by grind));rw[jW,<-c];refine hJ (.ref s.heap.objs.size) _ (I.laid (λb ob q=>agm _ q) (agx _) ?_) rfl (q _ (I.hok.fresh (agx _)));exact⟨agy (i4 i lo g) n,_,0,(r.drop _).take _,agA _ rfl⟩
def l9:bu X (.builtin "len") λj H Q=>∃p c,j=[.ref p]/\(SqL X.K H p c\/SqT X.K H p c)/\Q (.int c.length) H:=by
 intro k s σ H j o Q I r h;refine jN h λp c i e q=>?_;subst i;obtain⟨u,rfl,l⟩:=vals1 r;cases l;have n:=oX;rcases e with e|e;.obtain⟨g,f,pl,m⟩:=I.list e;have d:=f.length;exact Calls.call_len_list pl.isList (by grind) ⟨.int c.length,H,I.tok _,⟨s.toks+1,by grind⟩,q⟩
 .obtain⟨g,f,pl,m⟩:=I.tuple e;have d:=f.length;exact len_tuple pl (by grind) ⟨.int c.length,H,I.tok _,⟨s.toks+1,by grind⟩,q⟩
def bu.or{f r e}(h:bu X f r)(h':bu X f e):bu X f λc H Q=>r c H Q\/e c H Q:=by
 intro d s σ H c g Q I rs q;rcases q with q|q;.exact h _ s σ H _ _ Q I rs q
 .exact h' _ s σ H _ _ Q I rs q
def kG:bu X (.type "tuple") λi H Q=>∃p c,i=[.ref p]/\((SqL X.K H p c/\∀l,H l=none->Q (.ref l) (upd H l (.tup c)))\/SqT X.K H p c/\Q (.ref p) H):=by
 intro j s σ H i y Q I r h;obtain⟨p,c,rfl,h⟩:=h;obtain⟨u,rfl,w⟩:=vals1 r;cases w;rcases h with⟨g,q⟩|⟨g,q⟩;.obtain⟨d,f,pl,m⟩:=I.list g;have k:=f.length;refine call_tuple_list pl.isList (λx t=>?_) (by grind);have n:=I.kept (t':=s.toks) t;have v:=n.laid (t':=s.toks) (λb o e=>agm _ e) (agx _) (show bS _ X.w _ _ _ (.tup c)from⟨m,d,f,IsTup.new _ _⟩);exact hJ (.ref _) _ v rfl (q _ (n.hok.fresh (agx _)))
 .obtain⟨d,f,pl,m⟩:=I.tuple g;exact call_tuple_same pl (hJ (.ref p) H I rfl q)
def tyV(K:W.Frag)(T:String)(x:V)(H:Hp):Prop:=match x with|.str _=>T="str"|.int _=>T="int"|.ref p=>(T="list"/\∃d,SqL K H p d)\/(T="tuple"/\∃o,K.lookup p=some o/\o.cls=.type "tuple"/\o.dict=none)\/T="dict"/\((∃c,H p=some (.dK c))\/∃c,H p=some (.dT c))\/T="set"/\∃S n,H p=some (.set S n)|_=>False
def aax{pins}{σ:St}{H s T x v}(I:Inv X pins σ H s)(r:RelV x v)(ty:tyV X.K T x H):
 s.TypeIs v T/\∀a,v=.ref a->∃ob,s.heap.get? a=some ob/\ob.dict=none:=by cases x with|str z=>obtain⟨t,rfl⟩:=r;cases show T="str"from ty;exact⟨typeIs_str s z t,λ_ e=>nomatch e⟩|int i=>obtain⟨t,rfl⟩:=r;cases show T="int"from ty;exact⟨typeIs_int s i t,λ_ e=>nomatch e⟩|ref p=>
  cases r;rcases ty with⟨rfl,m,l⟩|⟨rfl,o,d,j,g⟩|⟨rfl,d⟩|⟨rfl,S,n,d⟩;.obtain⟨k,_,pl,_⟩:=I.list l;refine⟨pl.isList.typeIs,λa e=>?_⟩;cases e;obtain⟨o,n,e,c,g,_⟩:=pl;exact⟨o,e,g⟩
  .refine⟨⟨o,I.kIn p o d,j⟩,λa e=>?_⟩;cases e;exact⟨o,I.kIn _ o d,g⟩
  .have z:∃o,s.heap.get? p=some o/\o.ExactDict:=by
    rcases d with⟨f,d⟩|⟨f,d⟩;.obtain⟨_,_,_,_,o,_,_,e,ex,_⟩:=I.hok p _ d;exact⟨o,e,ex⟩
    .obtain⟨_,_,_,_,o,_,_,e,ex,_⟩:=I.hok p _ d;exact⟨o,e,ex⟩
   obtain⟨o,e,ex⟩:=z;refine⟨⟨o,e,ex.1⟩,λa h=>?_⟩;cases h;exact⟨o,e,ex.2.1⟩
  .obtain⟨o,_,_,_,e,ex,_⟩:=I.hok p _ d;refine⟨⟨o,e,ex.1⟩,λa h=>?_⟩;cases h;exact⟨o,e,ex.2.1⟩|_=>exact False.elim ty
def tBM(K:W.Frag)(T:String)(r:V->List V->Hp->VK->Prop)(e:TE)(t:TA):TE:=λσ H Q=>e σ H λx c=>tyV K T x c/\t σ c λd f=>r x d f Q
variable{o e:Expr}{es:List Expr}{to:TE}{t:TA}{name:Str}{apos cpos:Pos}{T id:String}{r:V->List V->Hp->VK->Prop}
def r0(p:PlainAttrs T)(j:Slot T name id)(k:typeOf (.builtin id)=pure (.type "method_descriptor"))(G:MtR X id r)(M:PE X o to)(u:PA X (e::es) t)(f:attributeBase o name X.env (eval o X.env)=eval o X.env:=by rfl)(i:((backTo cpos (starEach (e::es) X.env)).all (λx=>!x.1)&&(backToKw cpos (keywordEach [] X.env)).all (λx=>x.1.isSome)&&decide ((e::es).length+([]:List Keyword).length+(if([]:List Keyword).isEmpty then 0 else 1)<30))=true:=by rfl)(g:(apos.endLine==cpos.line)=true:=by rfl)(hs:SE X e es:=by rfl)(d:BT X cpos es:=by rfl):PE X (.Call (.Attribute o name apos) (e::es) [] cpos) (tBM X.K T r to t):=by intro c s σ H Q I h;refine wpAny_Call_method_late f i g rfl (thn (M c s σ H _ I h) λv q⟨x,w,n,l,ty,J⟩=>?_);obtain⟨C,z⟩:=aax n l ty;refine⟨T,id,p,j,k,C,z,?_⟩;have m:=u cpos c q σ w _ n J;rw[hs]at m⊢;refine Calls.callWith_builtin (by show(false||(backTo cpos (starEach es X.env)).any (·.1))=false;rw[d]<;>rfl) (aiF ?_);exact thn m λK y⟨B,D,E,A,N⟩=>G c y σ D x B v K Q E l A N
end
def MtM(X:Cx)(id:String)(r:V->List V->Hp->VK->Prop):Prop:=∀(a:List (Addr×Obj))(s:Shared)(σ:St)(H:Hp)(x:V)(b:List V)(v:Value)(c:List Value)(Q:VK),Inv X a σ H s->RelV x v->Vals b c->r x b H Q->wpAny (model X.prog X.w) X.A (call (.builtin id) (v::c)) (EP X a σ Q) X.xe s
def Vals.one:∀{x us},Vals [x] us->∃u,us=[u]/\RelV x u|_,_,.cons r .nil=>⟨_,rfl,r⟩
section
variable{X:Cx}{pins:List (Addr×Obj)}{σ:St}{H:Hp}{s:Shared}{l b:Addr}{xs ys zs:List V}
def Inv.afn{its its':List Value}{n f t'}(I:Inv X pins σ H s)(g:H l=some (.lst xs))(e:s.heap.get? l=some {cls:=.type "list",data:=.seq its.toArray n})(a:f its.toArray=its'.toArray)(d:Vals ys its')(hz:ys.length<=sizeLine):Inv X pins σ (upd H l (.lst ys)) {s with heap:=s.heap.update l (Obj.mapSeq f),toks:=t'}:=by have q:=PySem.IsL.update e f;rw[a]at q;refine I.write (by rw[g];exact trivial) (.inl rfl) (λi u c h=>(ahG _ _ (agG c)).trans h) ⟨_,q⟩ ?_;exact⟨hz,_,_,d,q⟩
def Inv.af6{its t'}(I:Inv X pins σ H s)(a:Vals ys its)(hz:ys.length<=sizeLine):Inv X pins σ (upd H s.heap.objs.size (.lst ys)) {s with heap:=s.heap.push {cls:=.type "list",data:=.seq its.toArray},toks:=t'}:=I.laid (λ_ _ q=>agm _ q) (agx _) ⟨hz,_,0,a,agA _ rfl⟩
theorem Inv.fresh(I:Inv X pins σ H s):H s.heap.objs.size=none:=I.hok.fresh (agx _)
def Inv.afm(I:Inv X pins σ H s)(c:H l=some (.lst xs)):xs.length<=sizeLine/\∃a n,Vals xs a/\xs.length=a.length/\s.heap.get? l=some {cls:=.type "list",data:=.seq a.toArray n}:=by obtain⟨z,a,n,r,e⟩:=I.hok l _ c;exact⟨z,_,n,r,r.length,e⟩
def vP{n:Nat}(h:n<=sizeLine):Builtin.List.listTooLong n=false:=by unfold Builtin.List.listTooLong;exact agX (by omega)
end
section
variable{X:Cx}
def mT:V->List V->Hp->VK->Prop:=λx b H Q=>∃l a y,x=.ref l/\b=[y]/\H l=some (.lst a)/\a.length<sizeLine/\Q .non (upd H l (.lst (a++[y])))
def iQ:MtM X "list.append" mT:=by intro c s σ H x m v t Q I j f h;refine acB h λl k y b a d p q=>?_;subst b a;cases j;obtain⟨u,rfl,g⟩:=f.one;obtain⟨z,i,n,r,o,e⟩:=I.afm d;refine call_meets F.slot_list_append ⟨_,e,rfl⟩ F.entry_list_append (F.args_list_append_2 _ _) (PySem.list_append l _ n u (by grind)) ⟨e,.non,_,I.afn d e (by simp) (r.append (.cons g .nil)) ?_,rfl,q⟩;rw[ahg,List.length_singleton];omega
end
end L2
namespace Att
open PySem PySem.W PySem.Calls PyProof.Rows
def iV{P h}:∀c d,WellAll P h d (c.map WData.int)->IntsAre d c:=by intro c;induction c with|nil=>intro d w;cases w;exact .nil|cons n c ih=>intro d w;cases w with|cons a b=>cases a;exact .cons _ _ (ih _ b)
def rz{l:OpenLaw}{n}(p:l.most=some n){P h args c}(b:l.row.toRowW.claim.pre args=true)(j:WellAll P h c args):∃a m e,c=[Value.ref a]/\args=[WData.list (e.map WData.int)]/\h.get? a=some {cls:=.type "list",data:=.seq m.toArray}/\IntsAre m e/\e.length<=n:=by
 have k:l.pre.holds [] {args:=args}=true:=(pre_splitW b).2;refine jN (hasAllW_cons (pre_splitW b).1) λd r i t s=>?_;subst i;obtain rfl:=hasAllW_nil s;obtain⟨v,rfl,u⟩:=hasW_list t;obtain⟨e,rfl⟩:=items_int u;have f:e.length<=n:=by
  unfold OpenLaw.pre at k;have g:=by have g:=(holds_andW k).1;rw[p]at g;exact g
  have o:=condW_of g (w_not (w_lt w_lit (w_len_list (w_arg rfl))));rw[agO]at o;refine Nat.le_of_not_lt λq=>?_;(simp at o;omega)
 cases j with|cons w1 w2=>cases w2;cases w1 with|list ho hall=>exact adp _ _ e rfl rfl ho (iV e _ hall) f
def rS(l:OpenLaw)(a):l.row.toRowW.claim.post a (.bool true) a=true:=postW_of (rfl) (w_eq_bool (w_res rfl) w_lit) rfl
def nS{l:OpenLaw}{n q c H I d}(Q:l.most=some n)(E:d.params.defaults=[])(call:∀w e b x C m o y u h a j v,Ground q c [] H w e x C b.heap->I w b.heap->b.heap.get? m=some o->o.data=.func (docDef d.name d.params d.body d.scope y u h)->b.heap.CodeRec u d.name->x d.name=some (.ref m)->b.heap.get? a=some {cls:=.type "list",data:=.seq j.toArray}->IntsAre j v->v.length<=n->b.gens=#[]->codeAny (model l.prog w) callerA (.call (.ref m) ⟨[.ref a],[]⟩) (λr t=>r=.ok (.ret (.bool true))/\OldK b.heap t.heap/\t.os=b.os/\AllBare t.gens) b):WalkO q c H I l.row.toRowW d [] λf j=>PySem.call f j:=by intro w e b x C G Y m o y u h P kV ho S A N z T K M as s J a0 B Z;obtain rfl:P=.none:=Dflts.none N E;obtain rfl:kV=.none:=Dflts.noKw N;refine acB (rz Q s B) λa j v i D k g p=>?_;subst i D;refine enter_call (ahT (call w e b x C m o y u h a j v G Y ho (fd_plain S) A z k g p T) λr t U=>?_);refine ado U λi R X O=>?_;subst i;exact⟨.inl (adp _ (.bool true) [] rfl (λ_=>rfl) (.bool true) (rS l _) λ_=>⟨List.Pairwise.nil,λ_ hm=>nomatch hm⟩),R,X,O⟩
end Att
namespace L2
open PySem PySem.Spec PyProof.Rows
theorem k7:∀{vs ns},IntsAre vs ns->Vals (ns.map V.int) vs|_,_,.nil=>.nil|_,_,.cons n t h=>.cons ⟨t,rfl⟩ (k7 h)
noncomputable def dn(s:Stmt):Arguments:=match s with|.FunctionDef _ a _ _ _ _ _ _ _ _=>a|_=>{posonlyargs:=[],args:=[],vararg:=none,kwonlyargs:=[],kw_defaults:=[],kwarg:=none,defaults:=[]}
noncomputable def bt(s:Stmt):List Stmt:=match s with|.FunctionDef _ _ b _ _ _ _ _ _ _=>b|_=>[]
noncomputable def ag(s:Stmt):Scope:=match s with|.FunctionDef _ _ _ _ _ _ sc _ _ _=>sc|_=>{kind:=.function,names:=[],isGenerator:=false,isCoroutine:=false}
abbrev CX0:CXT:=λ_ _ _ _ _ _=>False
abbrev E0:XK:=λ_ _ _=>False
def yQ{X}:Passes CX0 X E0:=λ_ _ _ _ _ _ _ h=>h.elim
structure Fun(K:W.Frag)(x qual:Str)(st:Stmt)(f:Addr)(fd:FuncData):Prop where
 ex:∃(oc:Value)(od:Option Addr)(kV doc pm:Value)(an:Option Addr)(cdv ct:Value)(osl:Array (Option Value)),fd=W.fnOf x qual (dn st) (bt st) (ag st) .none kV doc pm an cdv ct/\K.lookup f=some ⟨oc,od,.func fd,osl⟩/\W.codeIn K cdv qual=true
 kp:W.keepIn K (.ref f)=true
section
variable{P:Program}{w:World}{K:W.Frag}{mg:Str->Option Value}{base:Heap}
def Fun.ok{x a st f l N ps k sp}(F:Fun K x a st f l)(S:FnScope N ps (ag st))(len:∀e H Q E,sp e H Q E->e.length=ps.length)(d:∀c A b s H e Q E,Room k (A.deeper (envOfC a (ag st) s.heap.objs.size f c))->sp e H Q E->∃t,PSs (gi CX0 P w K mg base N a (ag st) f c A b s H E).nox (bt st) t/\t {nx:=λ_ n=>Q .non n,rt:=Q} (start N e) H):FnOk P w K mg base CX0 (k+1) f l ps sp:=by refine acA F.ex λy od kV p u v c ct o j r g=>?_;subst j;refine zv r g S len λA b s H e Q E m _ i=>?_;obtain⟨t,h,q⟩:=d _ A _ s H _ Q E m i;exact⟨t,h.nox,q⟩
def Fun.binds{x a st f j ps}(F:Fun K x a st f j)(h:∀kV b g i c ct e,e.length=ps.length->bindArgs (W.fnOf x a (dn st) (bt st) (ag st) .none kV b g i c ct) ⟨e,[]⟩=pure (ps.zip e)):Binds K j ps []:=by refine acA F.ex λn od kV b g i c ct l d m k=>?_;subst d;exact .all (h _ _ _ _ _ _)
def ab4{x a st f i od g h kV d e b ct}(l:K.lookup f=some ⟨i,od,.func (W.fnOf x a (dn st) (bt st) (ag st) .none kV d e g b ct),h⟩)(c:W.codeIn K b a=true)(k:W.keepIn K (.ref f)=true):Fun K x a st f (W.fnOf x a (dn st) (bt st) (ag st) .none kV d e g b ct):=⟨⟨i,od,kV,_,e,g,_,ct,_,rfl,l,c⟩,k⟩
end
section
variable{X:Cx}
def pv(i){x pos}(d:X.N[i]?=some x:=by rfl)(b:Vis X.env.scope x:=by first|exact Or.inl rfl|exact Or.inr (Or.inl rfl)|exact Or.inr (Or.inr rfl))(c:Dbg x:=by decide)(a:(x=="__classdict__")=false:=by decide):PE X (.Name x pos) (yd i):=abi d b c a
end
def aw(H H':Hp):Prop:=∀b o,H b=some o->H' b=some o
def aw.refl(H):aw H H:=λ_ _ h=>h
def aw.trans{H d e}(a:aw H d)(b:aw d e):aw H e:=λc o h=>b c o (a c o h)
def aw.free{H H'}(e:aw H H'){l}(h:H' l=Option.none):H l=Option.none:=by cases q:H l with|none=>rfl|some o=>rw[e l o q]at h;cases h
def aw.seq{K H H' a xs}(e:aw H H')(h:SqL K H a xs):SqL K H' a xs:=by
 rcases h with(h|⟨o,h⟩)|h;.exact .inl (.inl (e _ _ h))
 .exact .inl (.inr ⟨o,e _ _ h⟩)
 .exact .inr h
end L2
set_option maxHeartbeats 4000000
namespace FM
noncomputable def nx(x:Int):Int:=if x=200 then -200 else x+1
noncomputable def xk(x:Int):Nat->Int|0=>x|k+1=>nx (xk x k)
abbrev S3:=Int×Int×Int
noncomputable def tq(p:S3):S3:=(-p.2.1,p.1,(p.2.2+1)%4)
noncomputable def lt(q:Int)(p:S3):S3:=let r:=q%4;if r=0 then(p.1,p.2.1,(p.2.2+q)%4)else if r=1 then(0-p.2.1,p.1,(p.2.2+q)%4)else if r=2 then(0-p.1,0-p.2.1,(p.2.2+q)%4)else(p.2.1,0-p.1,(p.2.2+q)%4)
def Good(p:S3):Prop:=-200<=p.1/\p.1<=200/\-200<=p.2.1/\p.2.1<=200/\0<=p.2.2/\p.2.2<4
end FM
set_option autoImplicit true
set_option relaxedAutoImplicit true
namespace L2
open PySem PySem.Spec PyProof.Rows
noncomputable def bM(a:List (Str×Addr)):List (Str×NameKind)->List (Str×Addr)->List (Str×Addr)|[],acc=>acc|(n,k)::r,acc=>if k==.free then match a.lookup n with|some c=>bM a r ((n,c)::acc)|none=>bM a r acc else bM a r acc
def fF (h:∀y∈scope.names,y.2=.free->(env.cells.lookup y.1).isSome=true):closureFor scope env=pure (bM env.cells scope.names []):=by
 have all:∀(a:List (Str×NameKind))(b:List (Str×Addr)),(∀y∈a,y.2=.free->(env.cells.lookup y.1).isSome=true)->(forIn a b λ(x:Str×NameKind)r=>match x with|(name,kind)=>if(kind==NameKind.free)=true then do let c <-cellOf env name;pure (ForInStep.yield ((name,c)::r))else pure (ForInStep.yield r))=pure (bM env.cells a b):=by intro a;induction a with|nil=>intro b _;rfl|cons y r ih=>
   intro b l;obtain⟨n,k⟩:=y;rw[ajg];have i:=λd=>ih d λz o=>l z (agw _ o);by_cases g:(k==NameKind.free)=true
   .have f:k=.free:=by simpa using g
    obtain⟨c,j⟩:=ahc.mp (l (n,k) agD f);have m:cellOf env n=pure c:=by unfold cellOf;rw[j]
    simp only[bM,g,aib,j];rw[m];simpa using i ((n,c)::b)
   .simp only[bM,g,ahM];simpa using i b
 have e:=all scope.names [] h;unfold closureFor;(simpa using e)
theorem bx :∀b a,(bM cells b a).lookup x=some c->a.lookup x=some c\/cells.lookup x=some c
|[],a,h=>.inl h|(n,k)::r,a,h=>by
 unfold bM at h;split at h;.cases e:cells.lookup n with|none=>rw[e]at h;exact bx r _ h|some d=>
  rw[e]at h;rcases bx r _ h with q|q
  .rw[agY]at q;split at q;.exact .inr (by grind)
   .exact .inl q
  .exact .inr q
 .exact bx r _ h
theorem dq :∀b(a:List (Str×Addr)),(a.lookup x).isSome=true->((bM cells b a).lookup x).isSome=true
|[],a,h=>h|(n,k)::r,a,h=>by
 unfold bM;split;.cases e:cells.lookup n with|none=>exact dq r _ h|some d=>
  refine dq r _ ?_;rw[agY];split;.rfl
  .exact h
 .exact dq r _ h
theorem gj :∀a b,(x,NameKind.free)∈a->(cells.lookup x).isSome=true->((bM cells a b).lookup x).isSome=true
|(n,k)::r,b,g,f=>by
 rcases ags.mp g with e|g;.cases e;obtain⟨c,f⟩:=ahc.mp f;unfold bM;simp only[f];refine dq r _ ?_;simp
 .unfold bM;split;.cases e:cells.lookup n with|none|some d=>exact gj r _ g f
  .exact gj r _ g f
theorem bb{a:Env}{x}:∀{b:List (Str×NameKind)}{k},(b.map λ(n,k)=>if k==NameKind.free&&a.scope.kind==.function&&a.kindOf n==some .cell then(n,NameKind.cell)else(n,k)).lookup x=some k->b.lookup x=some k\/k=.cell/\b.lookup x=some .free
|[],_,h=>by simp at h|(n,k0)::r,k,h=>by
  have g:=@bb a x r k;have c:List.lookup x ((if(k0==NameKind.free&&a.scope.kind==.function&&a.kindOf n==some .cell)=true then(n,NameKind.cell)else(n,k0))::r.map λ(n,k)=>if k==NameKind.free&&a.scope.kind==.function&&a.kindOf n==some .cell then(n,NameKind.cell)else(n,k))=some k:=h
  cases e:x==n with|true=>
   rw[agY,e];by_cases d:(k0==NameKind.free&&a.scope.kind==.function&&a.kindOf n==some .cell)=true
   .rw[ago d,agY,e]at c;have f:k0=.free:=by simp only[agE]at d;simpa using d.1.1
    cases c;exact .inr ⟨rfl,by rw[f]⟩
   .rw[agq d,agY,e]at c;exact .inl c|false=>
   rw[agY,e];by_cases d:(k0==NameKind.free&&a.scope.kind==.function&&a.kindOf n==some .cell)=true;.rw[ago d,agY,e]at c;exact g c
   .rw[agq d,agY,e]at c;exact g c
section
variable{X:Cx}{pins:List (Addr×Obj)}{σ:St}{H:Hp}{s:Shared}
def HOk.pM{P w h a o}(x:HOk P w H h)(d:H a=none)(new:bS P w (upd H a o) h a o):HOk P w (upd H a o) h:=λb u e=>by
 by_cases f:b=a;.subst f;rw[aq]at e;cases e;exact new
 .rw[ai f]at e;exact(x b u e).jV (λc v _ q=>q) (λc q=>by rw[ai (aJ q d)];exact q) λc g q=>by rw[ai (aJ q d)];exact q
theorem Inv.pM (I:Inv X pins σ H s)(hn:H a=none)(ha:X.s₀.heap.objs.size<=a)(hL:a≠X.env.locals)(hc:∀x c,X.env.cells.lookup x=some c->c≠a)(hp:∀p∈X.pn++pins,p.1≠a)(new:bS X.prog X.w (upd H a o) s.heap a o):Inv X pins σ (upd H a o) s where
 ok:=I.ok;os:=I.os;bare:=I.bare;base:=⟨I.base.keep,I.base.slot,λb u q n hx=>by rw[ai (agz (agv (agt q) ha))];exact I.base.free b u q n hx,I.base.there,λb xs q=>by have z:=I.base.tups b xs q;rw[ai (aJ z hn)];exact z,λb u v q=>by have z:=I.base.frzs b u v q;rw[ai (aJ z hn)];exact z,λb ps q=>by obtain⟨more,z⟩:=I.base.tbls b ps q;exact⟨more,by rw[ai (aJ z hn)];exact z⟩⟩;loc:=I.loc;cell:=I.cell;free:=by rw[ai (agG hL)];exact I.free
 freeC:=λx c e=>by rw[ai (hc x c e)];exact I.freeC x c e
 pin:=λp hp'=>by obtain⟨e,n,r⟩:=I.pin p hp';exact⟨e,by rw[ai (hp p hp')];exact n,r⟩
 hok:=I.hok.pM hn new;len:=I.len
end
abbrev Cx.tri(X:Cx)(E:Value->Shared->Prop)(pn:List (Addr×Obj)):Cx:={X with xe:=E,pn:=pn}
theorem Cx.Ok.tri{X:Cx}(ok:X.Ok)(E)(a):(X.tri E a).Ok:=⟨ok.mod,ok.kind,ok.glob,ok.blt,ok.above,ok.inj,ok.has,ok.cab,ok.hd,ok.frames,ok.stk,ok.exf,ok.bs,ok.bsz,ok.noex,ok.exfs,ok.jF,ok.frf⟩
section
variable{X:Cx}{pins:List (Addr×Obj)}{σ:St}{H:Hp}{s:Shared}
theorem Inv.tri(I:Inv X pins σ H s)(E:Value->Shared->Prop):Inv (X.tri E (X.pn++pins)) [] σ H s:=⟨I.ok.tri E _,I.os,I.bare,I.base,I.loc,I.cell,I.free,I.freeC,λp a=>I.pin p (by simpa using a),I.hok,I.len⟩
end
noncomputable def hd1(y:Str):Str:=⟨y.cps.push 32⟩
def hid(scope:Scope)(y:Str):Str:=match scope.names.lookup y with|some .local=>hd1 y|_=>y
def ab3 (h:hid scope y=x):x=hd1 y/\scope.names.lookup y=some .local\/x=y/\scope.names.lookup y≠some .local:=by
 unfold hid at h;split at h;.rename_i e;exact .inl ⟨h.symm,e⟩
 .rename_i e;exact .inr ⟨h.symm,e⟩
abbrev Cx.comp(X:Cx)(scope:Scope)(C:Addr)(ts:List Str)(b:Shared)(a:Hp)(c:List Addr):Cx:={X with N:=ts++X.N.map (hid scope),s₀:=b,H₀:=a,env:=compEnvC scope (bM X.env.cells scope.names []) C X.env,outer:=X.stack,stack:=X.stack,ex:=c,fn:=λ_=>false,pn:=[],xe:=λ_ _=>False}
structure CompLook(X:Cx)(scope:Scope):Prop where
 kind:scope.kind=.function
 nocell:scope.names.all λy=>y.2!=.cell=true
 names:scope.names.all λy=>y.2!=.local||scope.names.lookup y.1==some .local=true
 free:scope.names.all λy=>y.2!=.free||X.env.scope.names.lookup y.1==some .cell||X.env.scope.names.lookup y.1==some .free=true
 apart:(scope.names.all λy=>(scope.names.lookup (hd1 y.1)).isNone)=true
structure CompScope(X:Cx)(scope:Scope)(ts:List Str):Prop where
 kind:scope.kind=.function
 nocell:∀y∈scope.names,y.2≠.cell
 names:∀y∈scope.names,y.2=.local->scope.names.lookup y.1=some .local
 free:∀y∈scope.names,y.2=.free->X.env.scope.names.lookup y.1=some .cell\/X.env.scope.names.lookup y.1=some .free
 apart:∀y∈scope.names,scope.names.lookup (hd1 y.1)=none
theorem CompLook.scope{X:Cx}{scope:Scope}{ts:List Str}(L:CompLook X scope):CompScope X scope ts where
 kind:=L.kind;nocell:=λy hy=>by simpa using ag3.mp L.nocell y hy
 names:=λy hy e=>by have h:=ag3.mp L.names y hy;rw[e]at h;simpa using h
 free:=λy hy e=>by have h:=ag3.mp L.free y hy;rw[e]at h;simpa using h
 apart:=λy hy=>by simpa using ag3.mp L.apart y hy
noncomputable def sy:List Str->Bool|[]=>true|x::r=>!(r.any λy=>decide (y=x))&&sy r
theorem oS:∀{N},sy N=true->N.Nodup|[],_=>ajm|x::r,h=>by simp [sy]at h;exact ag1.mpr ⟨λa=>h.1 x a rfl,oS h.2⟩
section
variable{X:Cx}{pins:List (Addr×Obj)}{σ:St}{H:Hp}{s:Shared}
def nJ{scope:Scope}{ts:List Str}{C:Addr}{fp:List Addr}(S:CompScope X scope ts)(I:Inv X pins σ H s)(hf:∀b∈fp,n3 X pins H b)(hfl:∀b∈fp,b<s.heap.objs.size)(hC:s.heap.objs.size<=C):(X.comp scope C ts s H fp).Ok where
 mod:=I.ok.mod;kind:=S.kind;glob:=I.ok.glob;blt:=I.ok.blt;above:=hC;inj:=λx y c e1 e2=>by have q1:=(bx scope.names [] e1).resolve_left (by simp);have q2:=(bx scope.names [] e2).resolve_left (by simp);exact I.ok.inj x y c q1 q2
 has:=λx hx=>by
  have hx':scope.names.lookup x=some .free:=by
   rcases hx with hx|hx
   .rcases bb hx with q|⟨_,q⟩;.exact absurd rfl (S.nocell _ (agW q))
    .exact q
   .rcases bb hx with q|⟨q,_⟩;.exact q
    .cases q
  have hm:=agW hx';obtain⟨c,hc⟩:=I.ok.has x (S.free _ hm rfl);exact ahc.mp (gj scope.names [] hm (by rw[hc];rfl))
 cab:=λx c h _=>by cases h
 hd:=I.ok.hd;frames:=I.ok.frames;stk:=.inl rfl;exf:=λb hb=>⟨agz (agv (hfl b hb) hC),λx c e=>by have q:=(bx scope.names [] e).resolve_left (by simp);exact(hf b hb).2.2.2.2.1 x c q⟩;bs:=I.bs;bsz:=agy I.ok.bsz I.sz;noex:=λb o e hb=>by
  rcases(hf b hb).2.2.2.1 with z|z;.exact I.ok.noex b o e z
  .exact absurd (agv (agt e) (agy I.ok.bsz z)) (ahL _)
 exfs:=λb hb z=>by
  rcases ags.mp (I.oo b z)with e|e;.exact(hf b hb).2.1 e
  .exact(hf b hb).2.2.1 e
 jF:=I.stack;frf:=I.ig
def qm{scope:Scope}{ts:List Str}{C:Addr}{fp:List Addr}{s4:Shared}(S:CompScope X scope ts)(I:Inv X pins σ H s)(hf:∀b∈fp,n3 X pins H b)(hfl:∀b∈fp,b<s.heap.objs.size)(hC:s.heap.objs.size<=C)(ho:s4.os=s.os)(hg:s4.gens=s.gens)(hk:∀b o,s.heap.get? b=some o->s4.heap.get? b=some o){m:Str->Option Value}(hn:s4.heap.Ns C m):Inv (X.comp scope C ts s H fp) [] (List.replicate ts.length none++σ) H s4 where
 ok:=nJ S I hf hfl hC;os:=ho;bare:=by rw[hg];exact I.bare
 base:=Un.kept hk;loc:=⟨m,hn,λi x v e1 e2 e3=>by
  have hi:ts.length<=i:=by
   rcases Nat.lt_or_ge i ts.length with h|h;.rw[ahs (by simpa using h),ahX]at e2;simp[h]at e2
   .exact h
  rw[ahm (by simpa using hi)]at e2;rw[ahm hi]at e1;simp only[ah3]at e2;rw[agT]at e1;obtain⟨y,ey,hy⟩:=agR.mp e1;have hv:scope.names.lookup x≠none:=by
   rcases e3 with q|q|q;.rcases bb q with q|⟨_,q⟩<;>(rw[q];exact nofun)
   .rcases bb q with q|⟨_,q⟩<;>(rw[q];exact nofun)
   .rcases bb q with q|⟨_,q⟩<;>(rw[q];exact nofun)
  have hxy:x=y/\scope.names.lookup y≠some .local:=by
   rcases ab3 hy with z|z;.exact absurd (by rw[z.1];exact S.apart _ (agW z.2)) hv
   .exact z
  have e1:X.N[i-ts.length]?=some x:=by rw[ey,hxy.1]
  have hap:scope.names.lookup x≠some .local:=by rw[hxy.1];exact hxy.2
  have hfree:scope.names.lookup x=some .free:=by
   rcases e3 with q|q|q
   .rcases bb q with q|⟨q,_⟩;.exact absurd q hap
    .cases q
   .rcases bb q with q|⟨_,q⟩;.exact absurd rfl (S.nocell _ (agW q))
    .exact q
   .rcases bb q with q|⟨q,_⟩;.exact q
    .cases q
  have hm:=agW hfree;have hk0:=S.free _ hm rfl;obtain⟨m0,_,hl⟩:=I.loc;obtain⟨u,r,l⟩:=hl (i-ts.length) x v e1 e2 (hk0.elim (λq=>.inr (.inl q)) λq=>.inr (.inr q));refine⟨u,r,?_⟩;rcases l with⟨kl,_⟩|⟨_,c,ec,z⟩
  .exfalso;have kl':X.env.scope.names.lookup x=some .local:=kl;rcases hk0 with q|q;.rw[q]at kl';cases kl'
   .rw[q]at kl';cases kl'
  .have kk:(X.comp scope C ts s H fp).env.kindOf x=some .cell\/(X.comp scope C ts s H fp).env.kindOf x=some .free:=by
    rcases e3 with q|q|q
    .rcases bb q with q|⟨q,_⟩;.exact absurd q hap
     .cases q
    .exact .inl q
    .exact .inr q
   obtain⟨c',ec'⟩:=(nJ S I hf hfl hC).has x kk;have ec2:=(bx scope.names [] ec').resolve_left (by simp);rw[ec]at ec2;cases ec2;obtain⟨o,ho',hd⟩:=z;exact .inr ⟨kk,c,ec',o,hk _ o ho',hd⟩⟩;cell:=λx c e=>by have q:=(bx scope.names [] e).resolve_left (by simp);obtain⟨v,o,ho',hd⟩:=I.cell x c q;exact⟨v,o,hk _ o ho',hd⟩
 free:=I.hok.fresh hC;freeC:=λx c e=>I.freeC x c ((bx scope.names [] e).resolve_left (by simp));pin:=λp hp=>by cases hp
 hok:=I.hok.kept hk;len:=by rw[ahg,ahg,ah3,I.len,agO]
end
section
variable{prog:Program}{w:World}{A:Around}{R:Result->Shared->Prop}{s:Shared}
def eG{z b C D scope pos it u a}(I:Nat->Shared->Prop)(turn:∀n s,I n s->wpAny (model prog w) A (pyNext it) (λr j=>match r with|none=>R (.ok .next) j|some v=>wpAny (model prog w) A (letOwnedTupleGo b it v) (λ_ d=>wpAny (model prog w) A (assign b a v) (λ_ o=>wpAny (model prog w) A (forIn D true λc r=>if r=true then do let ok <-isTrue c a (eval c a);pure (ForInStep.yield ok)else pure (ForInStep.yield r)) (λok f=>if ok=true then wpAny (model prog w) A (eval z a) (λx q=>wpAny (model prog w) A (call (.builtin "list.append") [u,x]) (λ_ p=>∃m,m<n/\I m p) (notedBy (model prog w) A a λe i=>R (.error e) i) q) (notedBy (model prog w) A a λe i=>R (.error e) i) f else∃m,m<n/\I m f) (notedBy (model prog w) A a λe i=>R (.error e) i) o) (notedBy (model prog w) A a λe i=>R (.error e) i) d) (notedBy (model prog w) A a λe i=>R (.error e) i) j) (notedBy (model prog w) A a λe i=>R (.error e) i) s)(n)(h:I n s):codeAny (model prog w) A (.compLoop (.ListComp z [⟨b,C,D,0⟩] scope pos) 0 it u a) R s:=by refine codeAny_loop rfl I (λn s G=>wpAny_noted ?_) n h;rw[compTurn_list];refine agl (aiz (agl (agN (turn n s G) (λr j k=>?_) λ_ _ g=>g)));cases r with|none=>exact agp k|some v=>refine agl (agN k (λ_ d t=>?_) λ_ _ g=>g);refine agl (agN t (λ_ o B=>agl (agN B (λok f l=>?_) λ_ _ g=>g)) λ_ _ g=>g);cases ok with|false=>exact agp ⟨rfl,l⟩|true=>exact agl (agl (agN l (λx q y=>agl (agN y (λ_ p E=>agp (agp ⟨rfl,E⟩)) λ_ _ g=>g)) λ_ _ g=>g))
end
def xW(X:Cx)(b:List Expr)(t:TT):Prop:=∀(a:List (Addr×Obj))(s:Shared)(σ:St)(H:Hp)(Q:Bool->Hp->Prop),Inv X a σ H s->t σ H Q->wpAny (model X.prog X.w) X.A (forIn b true λc r=>if r=true then do let ok <-isTrue c X.env (eval c X.env);pure (ForInStep.yield ok)else pure (ForInStep.yield r)) (TP X a σ Q) X.xe s
def kQ:TT:=λ_ H Q=>Q true H
def vD:xW X [] kQ:=λa s σ H Q I h=>wpAny_tests_nil ⟨H,I,h⟩
def wY(J:It)(g:TG)(l:TT)(n:TE)(h:St)(o:Hp)(F:V->Hp->Prop):Prop:=∃W:Nat->Nat->List V->St->Hp->Prop,(∃m,W 0 m [] h o)/\∀i m c σ H,W i m c σ H->c.length<sizeLine/\((J.stop i H/\∀D,H D=none->F (.ref D) (upd H D (.lst c)))\/J.go i H/\∃N:List V->St->Hp->Prop,(∀e f d,N e f d->∃k,k<m/\W (i+1) k e f d)/\∀x d,J.yld i H x d->g x σ d λa p=>l a p λb j=>if b=true then n a j λy q=>N (c++[y]) a q else N c a j)
def jL(c:Hp->Prop)(J:It)(g:TG)(n:TT)(o:TE)(j:St)(p:Hp)(F:V->Hp->Prop):Prop:=∃W:Nat->Nat->List V->St->Hp->Prop,(∃m,W 0 m [] j p)/\∀i m d σ H,W i m d σ H->c H/\d.length<sizeLine/\((J.stop i H/\∀D,H D=none->F (.ref D) (upd H D (.lst d)))\/J.go i H/\∃N:List V->St->Hp->Prop,(∀f h e,N f h e->∃l,l<m/\W (i+1) l f h e)/\∀x e,J.yld i H x e->g x σ e λa q=>n a q λb k=>if b=true then o a k λy r=>N (d++[y]) a r else N d a k)
theorem jL.w    (h:jL c J g tt te σ0 H1 F):wY J g tt te σ0 H1 F:=by obtain⟨W,a,t⟩:=h;exact⟨W,a,λi m b σ H w=>(t i m _ σ H w).2⟩
def wY.c    (h:wY J g tt te σ0 H1 F):jL (λ_=>True) J g tt te σ0 H1 F:=by obtain⟨W,a,t⟩:=h;exact⟨W,a,λi m b σ H w=>⟨trivial,t i m _ σ H w⟩⟩
def yg(k:Nat)(wi:TI)(g:TG)(a:TT)(b:TE):TE:=λσ H Q=>wi σ H λJ c=>wY J g a b (List.replicate k none++σ) c Q
section
variable{X:Cx}{tg elt iter:Expr}{ifs:List Expr}{scope:Scope}{ts:List Str}{wi:TI}{g:TG}{tt:TT}{te:TE}
def jH{pins}{σ:St}{H j pos it k tn J}{Q:VK}{RR:Value->Addr->Result->Shared->Prop}{E}(S:CompScope X scope ts){cl cc}(O:Addr->Value->Shared->Prop)(c8:∀C U,cc U->cl ((X.comp scope C ts j H k).tri (O C) []) U)(hg:∀C,PG ((X.comp scope C ts j H k).tri (O C) []) tg g)(ht:∀C,xW ((X.comp scope C ts j H k).tri (O C) []) ifs tt)(he:∀C,PE ((X.comp scope C ts j H k).tri (O C) []) elt te)(I:Inv X pins σ H j)(T:Turn X.prog X.w X.K tg J k it tn cl)(st:tn 0 j.heap)(hf:∀b∈k,n3 X pins H b)(hW:jL cc J g tt te (List.replicate ts.length none++σ) H Q)(fin:∀(C D:Addr)U B m Y,C≠D->j.heap.objs.size<=C->j.heap.objs.size<=D->B.heap.Ns C m->U C=none->Inv X pins σ (upd U D (.lst Y)) B->Q (.ref D) (upd U D (.lst Y))->RR (.ref D) C (.ok .next) B)(hx:∀(C D:Addr)e B,j.heap.objs.size<=C->O C e B->notedBy (model X.prog X.w) X.A (compEnvC scope (bM X.env.cells scope.names []) C X.env) (λe B=>RR (.ref D) C (.error e) B) e B):wpAny (model X.prog X.w) X.A (newList []) (λc0 K=>wpAny (model X.prog X.w) X.A (newFunctionEnv scope X.env.globals (bM X.env.cells scope.names []) [] X.env.qual none .none (some X.env)) (λa4 c5=>codeAny (model X.prog X.w) X.A (.compStart (.ListComp elt [⟨tg,iter,ifs,0⟩] scope pos) 0 (.ref it) c0 {a4 with scope:=relabel scope X.env}) (RR c0 a4.locals) c5) E K) E j:=by
 refine aiu (wpAny_newFunctionEnv S.nocell (by intro y hy;simp at hy) (λG w s=>?_) S.kind);dsimp only at w s⊢;generalize hH2:j.heap.push {cls:=.type "list",dict:=none,data:=.seq ([]:List Value).toArray}=H2 at w s⊢;have b6:H2.objs.size=j.heap.objs.size+1:=by rw[<-hH2,ahS]
 have b7:j.heap.objs.size≠H2.objs.size:=by rw[b6];exact agz (ah8 _)
 have t:j.heap.objs.size<=H2.objs.size:=by rw[b6];exact Nat.le_succ _
 have a7:∀b o,j.heap.get? b=some o->G.get? b=some o:=λb o e=>s.extBut b o (by rw[b6];exact agz (aiv (agt e))) (agm _ (hH2▸agm _ e));have c9:G.PlainList j.heap.objs.size #[]:=⟨_,s.extBut _ _ b7 (agm _ (hH2▸agA _ rfl))⟩;have b0:∀b∈k,b<j.heap.objs.size:=λb l=>by obtain⟨o,e,_⟩:=T.obj _ _ st b l;exact agt e
 generalize hCdef:H2.objs.size=C at *;generalize hDdef:j.heap.objs.size=D at *;have b8:D∉k:=λhm=>ahL _ (b0 _ hm);have a3:((X.comp scope C ts j H k).tri (O C) []).Ok:=(nJ S I hf (by rw[hDdef];exact b0) (by rw[hDdef];exact t)).tri _ _;have a2:∀x c,((X.comp scope C ts j H k).tri (O C) []).env.cells.lookup x=some c->c<D:=λx c e=>by have q:=(bx scope.names [] e).resolve_left (by simp);obtain⟨v,z⟩:=I.cell x c q;rw[<-hDdef];exact z.lt
 have a1:∀{U:Hp}{pl:List (Addr×Obj)},(∀b∈k,U b=none)->(∀p∈pl,p.1∉k)->∀b∈k,n3 ((X.comp scope C ts j H k).tri (O C) []) pl U b:=λhn M b l=>⟨hn b l,(a3.exf b l).1,a3.exfs b l,.inl l,(a3.exf b l).2,λp d8 z=>M p (by simpa using d8) (z▸l)⟩;obtain⟨W,⟨m0,w0⟩,turn⟩:=hW;have a6:∀K:Shared,K={j with heap:=G,toks:=j.toks+([]:List (Str×Value)).length}->codeAny (model X.prog X.w) X.A (.compLoop (.ListComp elt [⟨tg,iter,ifs,0⟩] scope pos) 0 (.ref it) (.ref D) (compEnvC scope (bM X.env.cells scope.names []) C X.env)) (RR (.ref D) C) K:=by
  rintro K rfl;have d5:Inv (X.comp scope C ts j H k) [] (List.replicate ts.length none++σ) H {j with heap:=G,toks:=j.toks+([]:List (Str×Value)).length}:=qm S I hf (by rw[hDdef];exact b0) (by rw[hDdef];exact t) rfl rfl a7 w;have I0:Inv ((X.comp scope C ts j H k).tri (O C) []) [] (List.replicate ts.length none++σ) H {j with heap:=G,toks:=j.toks+([]:List (Str×Value)).length}:=d5.tri _;refine eG (λn B=>∃i Y c2 U h,Inv ((X.comp scope C ts j H k).tri (O C) []) [] c2 U B/\tn i B.heap/\(∀b∈k,U b=none)/\B.heap.PlainList D h/\Vals Y h.toList/\U D=none/\W i n Y c2 U) ?_ m0 ⟨0,[],_,H,#[],I0,T.keep _ _ _ st λb _ o e=>a7 b o e,λb l=>(hf b l).1,c9,.nil,I.hok.fresh (by rw[hDdef];exact agx _),w0⟩;rintro n s3⟨i,Y,Z,H3,h,I3,c4,c3,e0,v3,d3,w3⟩;obtain⟨d1,d9,b5⟩:=turn i n Y Z H3 w3;obtain⟨R,eD⟩:=id e0;have c6:∀v,({cls:=.type "list",data:=.seq h R}:Obj).data≠.cell v:=λv z=>by cases z
  have a0:=b7;have a5:D ∉((X.comp scope C ts j H k).tri (O C) []).fs:=λl=>by obtain⟨_,o,ho,_⟩:=a3.jF.mem l;exact absurd (aij (agt ho) hDdef) (ahL _)
  rcases b5 with⟨d0,qn⟩|⟨go,N,hN,step⟩;.-- the end
   have a8:Inv ((X.comp scope C ts j H k).tri (O C) []) [(D,{cls:=.type "list",data:=.seq h R})] Z H3 s3:=I3.fY λp M=>by
    obtain rfl:p=(D,({cls:=.type "list",data:=.seq h R}:Obj)):=by simpa using M
    exact⟨eD,d3,a0,a5,c6⟩
   refine agN (T.done ((X.comp scope C ts j H k).tri (O C) []) rfl rfl rfl i _ s3 Z H3 (λ_ _=>False) (c8 C H3 d1) a8 (a1 c3 λp M=>by
    obtain rfl:p=(D,({cls:=.type "list",data:=.seq h R}:Obj)):=by simpa using M
    exact b8) c4 d0) (λr s4⟨hr,I4⟩=>?_) λ_ _ f=>f.elim;subst hr;have pD:=(I4.pin (D,{cls:=.type "list",data:=.seq h R}) (by simp)).1;obtain⟨m4,d7,_⟩:=I4.loc;have I5:=I.aco I4.os I4.base I4.hok I4.bare λb l=>⟨(hf b l).2.2.2.1,(hf b l).2.1,(hf b l).2.2.2.2.1,(hf b l).2.2.2.2.2⟩;have e3:=ahb (aij I.lt hDdef);have d4:∀x c,X.env.cells.lookup x=some c->c≠D:=λx c e=>by obtain⟨v,z⟩:=I.cell x c e;exact agz (aij z.lt hDdef)
   have d6:∀p∈X.pn++pins,p.1≠D:=λp M=>agz (aij (agt (I.pin p M).1) hDdef);have new:bS X.prog X.w (upd H3 D (.lst Y)) s4.heap D (.lst Y):=⟨ahl d9,h.toList,R,v3,by simpa using pD⟩;have I6:=I5.pM d3 (by rw[<-hDdef];exact I.sz) e3 d4 d6 new;exact fin C D H3 s4 m4 Y (agG b7) t (agx _) d7 I4.free I6 (qn D d3)
  .-- a turn
   have a8:Inv ((X.comp scope C ts j H k).tri (O C) []) [(D,{cls:=.type "list",data:=.seq h R})] Z H3 s3:=I3.fY λp M=>by
    obtain rfl:p=(D,({cls:=.type "list",data:=.seq h R}:Obj)):=by simpa using M
    exact⟨eD,d3,a0,a5,c6⟩
   have b9:∀p∈[((D,{cls:=.type "list",data:=.seq h R}):Addr×Obj)],p.1∉k:=λp M=>by
    obtain rfl:p=(D,({cls:=.type "list",data:=.seq h R}:Obj)):=by simpa using M
    exact b8
   refine agN (T.item ((X.comp scope C ts j H k).tri (O C) []) rfl rfl rfl i _ s3 Z H3 (λ_ _=>False) (c8 C H3 d1) a8 (a1 c3 b9) c4 go) (λr s4 A=>?_) λ_ _ f=>f.elim;obtain⟨u,hr,h4⟩:=A;subst hr;refine agN h4 (λ_ s5 A=>?_) λ_ _ f=>f.elim;obtain⟨x,H5,I5,r5,y5,a9,e2⟩:=A;have e5:=I5.pinned (a1 e2 b9) (T.obj _ _ a9);have back:∀{c7:St}{H7:Hp}{s7:Shared},Inv ((X.comp scope C ts j H k).tri (O C) []) ([(D,{cls:=.type "list",data:=.seq h R})]++lI k s5.heap) c7 H7 s7->tn (i+1) s7.heap/\(∀b∈k,H7 b=none)/\s7.heap.get? D=some {cls:=.type "list",data:=.seq h R}/\H7 D=none:=λ{c7 H7 s7}I7=>by have pD:=I7.pin (D,({cls:=.type "list",data:=.seq h R}:Obj)) (agF _ (ag0 _ agD));refine⟨T.keep _ _ _ a9 λb l o e=>(I7.pin (b,o) (agF _ (agF _ (en l e)))).1,λb l=>?_,pD.1,pD.2.1⟩;obtain⟨o,e,d⟩:=T.obj _ _ a9 b l;exact(I7.pin (b,o) (agF _ (agF _ (en l e)))).2.1
   refine agN (hg C _ s5 Z H5 x u _ e5 r5 (step x H5 y5)) (λ_ s6 A=>?_) λe B f=>hx C D e B t f;obtain⟨P,H6,I6,q6⟩:=A;refine agN (ht C _ s6 P H6 _ I6 q6) (λb s7 A=>?_) λe B f=>hx C D e B t f;obtain⟨H7,I7,q7⟩:=A;cases b with|false=>obtain⟨m',hm,w7⟩:=hN _ _ _ (by simpa using q7);obtain⟨b1,b2,b3,b4⟩:=back I7;exact⟨m',hm,i+1,Y,P,H7,h,I7.fY λp M=>absurd M agI,b1,b2,⟨R,b3⟩,v3,b4,w7⟩|true=>
    have d2:te P H7 λy H4=>N (Y++[y]) P H4:=by simpa using q7
    refine agN (he C _ s7 P H7 _ I7 d2) (λu8 s8 A=>?_) λe B f=>hx C D e B t f;obtain⟨y,H8,I8,r8,q8⟩:=A;obtain⟨m',hm,w8⟩:=hN _ _ _ q8;obtain⟨b1,b2,b3,b4⟩:=back I8;have e6:h.size<=sizeLine:=by have e1:=v3.length;simp only[aic]at e1;omega
    refine wpAny_list_append_plain ⟨R,b3⟩ λh9 e4 c1=>?_;have I9:Inv ((X.comp scope C ts j H k).tri (O C) []) [] P H8 {s8 with heap:=h9}:=(I8.fY λp M=>absurd M agI).turned (λb o l e=>(c1.2 b l).trans e) b4 a0 (.inr (Nat.le_of_eq hDdef)) (λx c e=>agz (a2 x c e)) λp M=>absurd M agI;refine⟨m',hm,i+1,Y++[y],P,H8,h.push u8,I9,T.keep _ _ _ b1 λb l o e=>(c1.2 b λz=>b8 (z▸l)).trans e,b2,e4,?_,b4,w8⟩;simpa using v3.append (.cons r8 .nil)
 exact codeAny_compStart_list (a6 _ rfl) (T.self _ 0 _ _ _ (T.keep _ _ _ st λb _ o e=>a7 b o e) (a6 _ rfl))
def vI (L:CompLook X scope)(A:X.calm=true)(U:PI X tg iter wi)(N:∀C a d i,PG (X.comp scope C ts a d i) tg g)(ht:∀C a d i,xW (X.comp scope C ts a d i) ifs tt)(K:∀C a d i,PE (X.comp scope C ts a d i) elt te)(hs:∀x,foldedSetIterable iter X.env x=pure x:=by intro _;rfl):PE X (.ListComp elt [⟨tg,iter,ifs,0⟩] scope pos) (yg ts.length wi g tt te):=by
 intro j s σ H Q I h;have S:CompScope X scope ts:=L.scope;have f:=fF λy O Z=>by obtain⟨c,A⟩:=I.ok.has y.1 (S.free y O Z);rw[A];rfl
 rw[eval_ListComp];refine ai6 rfl hs f S.kind S.names (thn (U j s σ H _ I h) λxv s1 h1=>thn h1 λa0 s2 G=>?_);obtain⟨it,i,tn,J,H2,e,k,T,B,Y,P⟩:=G;subst e;refine jH S _ (λ_ _ _=>A) (λC=>N C _ _ _) (λC=>ht C _ _ _) (λC=>K C _ _ _) k T B Y P.c ?_ λ_ _ _ _ _ z=>z.elim;intro C D H' M m ys r l hD E t R q;refine⟨m,E,λh' u=>?_⟩;have n:=ahb (agv k.lt l);have w:=R.turned (t':=M.toks) (λb o hb e=>(u.2 b hb).trans e) (by rw[ai r];exact t) n (.inr (agy k.sz l)) (λx c e=>by obtain⟨v,q⟩:=k.cell x c e;exact agz (agv q.lt l)) λp hp=>agz (agv (agt (k.pin p hp).1) l);exact⟨.ref D,_,w,rfl,q⟩
def lH  (hN:X.N.Nodup)(G:X.N[i]?=some y)(w:X.env.scope.names.lookup y=some .local)(P:swapsWith (.ListComp elt [⟨tg,iter,ifs,0⟩] scope pos) (some (.Name y py)) spos.line X.env=pure true)(L:CompLook X scope)(E:X.calm=true)(hi:PI X tg iter wi)(Y:∀C d f l,PG (X.comp scope C ts d f l) tg g)(ht:∀C d f l,xW (X.comp scope C ts d f l) ifs tt)(U:∀C d f l,PE (X.comp scope C ts d f l) elt te)(hs:∀x,foldedSetIterable iter X.env x=pure x:=by intro _;rfl):PS X (.Assign [.Name y py] (.ListComp elt [⟨tg,iter,ifs,0⟩] scope pos) spos) (aaL (yg ts.length wi g tt te) (aA i)):=by
 intro u s σ H Dn I h;have S:CompScope X scope ts:=L.scope;have j:=fF λy w hf=>by obtain⟨c,E⟩:=I.ok.has y.1 (S.free y w hf);rw[E];rfl
 rw[exec_Assign_Name_used _ _ _ _ P];refine agl (aiz (agl ?_));refine agl (agN (ai6 rfl hs j S.kind S.names (thn (hi u s σ H _ I h) λxv s1 h1=>thn h1 λa0 s2 R=>?_)) (λ_ s' hq=>agp (agp hq)) λ_ _ e=>e);obtain⟨it,l,tn,J,H2,e,n,T,Q,f2,Z⟩:=R;subst e;refine jH S (λ_ _ _=>False) (λ_ _ _=>E) (λC=>Y C _ _ _) (λC=>ht C _ _ _) (λC=>U C _ _ _) n T Q f2 Z.c ?_ λ_ _ _ _ _ z=>z.elim;intro C D H' s' m ys A r hD hn K I' q;have t:=ahb (agv n.lt r);refine wpAny_assign_Name (ie I' hN G (.inl w) (show RelV (.ref D) (.ref D)from rfl) (λN O k=>?_) (.inr w));obtain⟨a,k,ha⟩:=k;have M:a≠C:=by
  rcases ha with e|e;.rw[e];exact agG t
  .obtain⟨v,q⟩:=n.cell y a e;exact agz (agv q.lt r)
 refine⟨m,hn.sameBut k (agG M),λh' B=>?_⟩;have I3:=O.turned (t':=N.toks) (λb o hb e=>(B.2 b hb).trans e) (by rw[ai A];exact K) t (.inr (agy n.sz r)) (λx c e=>by obtain⟨v,q⟩:=n.cell x c e;exact agz (agv q.lt r)) λp hp=>agz (agv (agt (n.pin p hp).1) r);exact⟨_,_,I3,q⟩
end
def IsD(K:W.Frag)(H:Hp):Nat->V->PyData->Prop|_,x,.none=>x=.non|_,x,.bool b=>x=.bl b|_,x,.int i=>x=.int i|_,x,.str z=>x=.str z/\PyData.strOk z=true|_,_,.dict _=>False|0,_,.tuple _=>False|0,_,.list _=>False|n+1,x,.tuple ds=>∃a c,x=.ref a/\SqT K H a c/\Paired (IsD K H n) c ds|n+1,x,.list ds=>∃a c,x=.ref a/\SqL K H a c/\Paired (IsD K H n) c ds
section
variable{X:Cx}{pins:List (Addr×Obj)}{σ:St}{H:Hp}{s:Shared}
theorem iG{h n R}(one:∀x d u,R x d->RelV x u->(∃b,Reads h u d b)/\d.canLay0=true/\d.depth<=n):∀{xs a us},Paired R xs a->Vals xs us->(∃b,ReadsAll h us a b)/\PyData.canLayAll0 a=true/\PyData.depthAll a<=n
|_,_,_,.nil,.nil=>⟨⟨_,.nil⟩,rfl,agV _⟩|_,_,_,.cons r t,.cons q t'=>by
 obtain⟨⟨b,g⟩,c,j⟩:=one _ _ _ r q;obtain⟨⟨bs,e⟩,f,i⟩:=iG one t t';refine⟨⟨_,.cons g e⟩,?_,?_⟩;.simp[PyData.canLayAll0,c,f]
 .simp [PyData.depthAll];omega
def Inv.reads(I:Inv X pins σ H s):∀n d x u,IsD X.K H n x d->RelV x u->(∃q,Reads s.heap u d q)/\d.canLay0=true/\d.depth<=n:=by intro n;induction n with
|zero=>intro d x u h r;cases d with|none=>subst h;cases r;exact⟨⟨_,.none⟩,rfl,agV _⟩|bool b=>subst h;cases r;exact⟨⟨_,.bool b⟩,rfl,agV _⟩|int i=>subst h;obtain⟨t,rfl⟩:=r;exact⟨⟨_,.int i t⟩,rfl,agV _⟩|str z=>obtain⟨rfl,c⟩:=h;obtain⟨t,rfl⟩:=r;exact⟨⟨_,.str z t⟩,by simpa[PyData.canLay0]using c,agV _⟩|dict kvs|tuple ds|list ds=>exact h.elim
|succ n ih=>intro d x u h r;cases d with|none=>subst h;cases r;exact⟨⟨_,.none⟩,rfl,agV _⟩|bool b=>subst h;cases r;exact⟨⟨_,.bool b⟩,rfl,agV _⟩|int i=>subst h;obtain⟨t,rfl⟩:=r;exact⟨⟨_,.int i t⟩,rfl,agV _⟩|str z=>obtain⟨rfl,c⟩:=h;obtain⟨t,rfl⟩:=r;exact⟨⟨_,.str z t⟩,by simpa[PyData.canLay0]using c,agV _⟩|dict kvs=>exact h.elim|tuple ds=>obtain⟨a,y,rfl,p,m⟩:=h;cases r;obtain⟨l,f,⟨o,v,g,k,j⟩,c⟩:=I.tuple p;obtain⟨⟨q,w⟩,e,A⟩:=iG (λx d u=>ih d x u) m f;exact⟨⟨_,.tuple v g j (by simpa using w)⟩,by simpa[PyData.canLay0]using e,by simp only[PyData.depth];omega⟩|list ds=>obtain⟨a,y,rfl,p,m⟩:=h;cases r;obtain⟨l,f,pl,c⟩:=I.list p;obtain⟨o,v,g,k,j⟩:=pl.isList;obtain⟨⟨q,w⟩,e,A⟩:=iG (λx d u=>ih d x u) m f;exact⟨⟨_,.list v g j (by simpa using w)⟩,by simpa[PyData.canLay0]using e,by simp only[PyData.depth];omega⟩
end
def IsD.mono{K:W.Frag}{H H':Hp}(ht:∀a c,SqT K H a c->SqT K H' a c)(f:∀a c,SqL K H a c->SqL K H' a c):∀(n:Nat)(x:V)(d:PyData),IsD K H n x d->IsD K H' n x d:=by intro n;induction n with|zero=>intro x d h;cases d<;>exact h|succ n ih=>intro x d h;cases d with|tuple ds=>obtain⟨a,c,e,q,p⟩:=h;exact⟨a,c,e,ht a c q,Paired.yZ p ih⟩|list ds=>obtain⟨a,c,e,q,p⟩:=h;exact⟨a,c,e,f a c q,Paired.yZ p ih⟩|none=>exact h|bool b=>exact h|int i=>exact h|str z=>exact h|dict kvs=>exact h
def aw.tup{K H H' a xs}(e:aw H H')(h:SqT K H a xs):SqT K H' a xs:=by
 rcases h with(h|⟨o,h⟩)|h;.exact .inl (.inl (e _ _ h))
 .exact .inl (.inr ⟨o,e _ _ h⟩)
 .exact .inr h
section
variable{X:Cx}
def aby:OpR X (compareOp .Eq) λx y H Q=>∃n d e,IsD X.K H n x d/\IsD X.K H n y e/\X.A.units+n<cLine/\Q (.bl (PyData.eqv d e)) H:=by intro a s σ H x y v u Q I i b⟨n,d,e,j,h,p,q⟩;obtain⟨⟨o,k⟩,c,m⟩:=I.reads n d x v j i;obtain⟨⟨bs,f⟩,g,l⟩:=I.reads n e y u h b;exact SeqAt.compareEq_reads k f c g (by omega) (hJ (.bl _) H I rfl q)
def abr:OpR X (compareOp .NotEq) λx y H Q=>∃n d e,IsD X.K H n x d/\IsD X.K H n y e/\X.A.units+n<cLine/\Q (.bl !PyData.eqv d e) H:=by intro a s σ H x y v u Q I i b⟨n,d,e,j,h,p,q⟩;obtain⟨⟨o,k⟩,c,m⟩:=I.reads n d x v j i;obtain⟨⟨bs,f⟩,g,l⟩:=I.reads n e y u h b;exact SeqAt.compareNe_reads k f c g (by omega) (hJ (.bl _) H I rfl q)
def abx:OpR X (compareOp .In) λx y H Q=>∃n d a,IsD X.K H n x d/\(IsD X.K H (n+1) y (.list a)\/IsD X.K H (n+1) y (.tuple a))/\X.A.units+1+n<cLine/\Q (.bl (a.any λz=>PyData.eqv z d)) H:=by
 intro h s σ H x y v u Q I k f⟨n,d,a,l,b,p,q⟩;obtain⟨⟨o,i⟩,g,m⟩:=I.reads n d x v l k;rcases b with b|b;.obtain⟨⟨bs,c⟩,e,j⟩:=I.reads _ _ y u b f;exact SeqAt.in_list_reads c i (by simpa[PyData.canLay0]using e) g (by have:=aiA (PyData.depthAll a) d.depth;omega) ⟨.bl _,H,I,rfl,q⟩
 .obtain⟨⟨bs,c⟩,e,j⟩:=I.reads _ _ y u b f;exact SeqAt.in_tuple_reads c i (by simpa[PyData.canLay0]using e) g (by have:=aiA (PyData.depthAll a) d.depth;omega) ⟨.bl _,H,I,rfl,q⟩
def r9:OpR X (compareOp .NotIn) λx y H Q=>∃n d b,IsD X.K H n x d/\(IsD X.K H (n+1) y (.list b)\/IsD X.K H (n+1) y (.tuple b))/\X.A.units+1+n<cLine/\Q (.bl !b.any λz=>PyData.eqv z d) H:=by
 intro g s σ H x y v u Q I k e⟨n,d,b,l,a,p,q⟩;obtain⟨⟨o,h⟩,f,m⟩:=I.reads n d x v l k;rcases a with a|a;.obtain⟨⟨bs,c⟩,j,i⟩:=I.reads _ _ y u a e;exact SeqAt.notIn_list_reads c h (by assumption) f (by omega) ⟨.bl _,H,I,rfl,q⟩
 .obtain⟨⟨bs,c⟩,j,i⟩:=I.reads _ _ y u a e;exact SeqAt.notIn_tuple_reads c h (by assumption) f (by grind) ⟨.bl _,H,I,rfl,q⟩
def adW{x T pos}(e:Gl X x)(b:X.mg x=none)(a:bootBuiltins x=some (.type T))(c:x≠"__name__":=by decide)(d:Dbg x:=by decide):PE X (.Name x pos) (tC (.ty T)):=yP e b a rfl c d
def TyV(K:W.Frag)(H:Hp)(x:V)(t:Value):Prop:=TyOf K H x t\/∃a b,x=.ref a/\t=.type "tuple"/\SqT K H a b
def nQ:bu X (.builtin "isinstance") λc H Q=>∃x T t b,c=[x,.ty T]/\TyV X.K H x t/\W.kitOne X.K t (.type T)=some b/\Q (.bl b) H:=by
 intro d s σ H c m Q I r h;obtain⟨x,T,t,b,rfl,ty,e,q⟩:=h;obtain⟨u,n,rfl,f,g⟩:=vals2 r;cases g;rcases ty with ty|⟨a,p,rfl,rfl,j⟩;.exact tj I f ty e λtk=>⟨.bl b,H,I.tok _,rfl,q⟩
 .cases f;obtain⟨l,_,⟨o,k,i,_⟩,_⟩:=I.tuple j;exact ahx W.kitx_tuple I.kIn ⟨o,k,i⟩ e (λz=>nomatch z) λtk=>⟨.bl b,H,I.tok _,rfl,q⟩
end
abbrev St3:=Int×Int×Int
noncomputable def stV(p:St3):List V:=[.int p.1,.int p.2.1,.int p.2.2]
def wR(K:W.Frag)(H:Hp)(v:V)(p:St3):Prop:=∃a,v=.ref a/\SqT K H a (stV p)
def zT(K:W.Frag)(H:Hp)(v:V)(f:List St3):Prop:=∃a b,v=.ref a/\SqT K H a b/\Paired (wR K H) b f
def Spot(K:W.Frag)(H:Hp)(v:V)(x y:Int):Prop:=∃a,v=.ref a/\SqT K H a [.int x,.int y]
noncomputable def spD(p:Int×Int):PyData:=.tuple [.int p.1,.int p.2]
section
variable{K:W.Frag}{H H':Hp}{v:V}{p:St3}{f:List St3}{x y:Int}
def wR.keep(e:aw H H')(h:wR K H v p):wR K H' v p:=let⟨a,r,q⟩:=h;⟨a,r,e.tup q⟩
def Spot.keep(e:aw H H')(h:Spot K H v x y):Spot K H' v x y:=let⟨a,r,q⟩:=h;⟨a,r,e.tup q⟩
theorem zT.keep(e:aw H H')(h:zT K H v f):zT K H' v f:=let⟨a,b,r,q,t⟩:=h;⟨a,b,r,e.tup q,Paired.yZ t λ_ _ z=>z.keep e⟩
end
def t7(p q:Int×Int):PyData.eqv (spD p) (spD q)=decide (p=q):=by obtain⟨a,b⟩:=p;obtain⟨d,e⟩:=q;simp only[spD,PyData.eqv,PyData.eqvAll,Bool.and_true];rw[ag7];simp[Prod.ext_iff]
def aC{H p}(h:H p=none)(o):aw H (upd H p o):=λb u q=>by rw[ai (aJ q h)];exact q
end L2
set_option autoImplicit true
set_option relaxedAutoImplicit true
namespace L2
open PySem PySem.Spec PyProof.Rows
section
open PySem.AutoSeq1(wpAny_loadPart')
open PySem.MeetsSeq PySem.MeetsSeq2 PySem.MeetsSeq3 PySem.SeqAt
end
end L2
set_option autoImplicit true
set_option relaxedAutoImplicit true
namespace L2
open PySem PySem.Spec PyProof.Rows
section
variable{prog:Program}{w:World}{A:Around}{E:Value->Shared->Prop}{s:Shared}
def jz{it t i its x Q}(a:s.heap.IsTupleIter it t i)(ht:s.heap.IsTuple t its)(j:its[i]?=some x)(h:∀e,e.IsTupleIter it t (i+1)->Heap.SameBut it s.heap e->Q x {s with heap:=e}):wpAny (model prog w) A (Builtin.SmallTypes.nextOf (.ref it)) Q E s:=by refine gL (id a) λo c g b=>?_;obtain⟨l,f,_,k,d⟩:=ht;unfold Builtin.SmallTypes.nextOf;refine agl (ahh a.typeIs ahN (ahw ahN a.typeIs aiN ?_ (aiM _)));show wpAny _ _ (field (.ref it) 0 >>=_) _ _ s;refine agl (agQ c b (x:=.ref t) rfl ?_);refine agl (agQ c b (x:=.int i 0) rfl ?_);refine agl (ahy f d ?_);simp only[aiV,j];refine agl (air c b (by simp) (agp ⟨x,rfl,agp (h _ ?_ (aid ..))⟩));exact⟨_,ahJ _ c (aiE (ahZ b _)),(Obj.cls_mapFields ..).trans g,by rw[ahZ b];simp[rawInt]⟩
def lP  (j:A.handled=none)(b:s.heap.IsTupleIter it t i)(ht:s.heap.IsTuple t its)(l:its[i]?=none)(k:∀d e,Heap.ExtBut it s.heap d->(∃o,d.get? e=some o/\o.cls=.type "StopIteration")->E (.ref e) {s with heap:=d}):wpAny (model prog w) A (Builtin.SmallTypes.nextOf (.ref it)) Q E s:=by refine gL (id b) λo h q f=>?_;obtain⟨p,g,_,n,c⟩:=ht;unfold Builtin.SmallTypes.nextOf;refine agl (ahh b.typeIs ahN (ahw ahN b.typeIs aiN ?_ (aiM _)));show wpAny _ _ (field (.ref it) 0 >>=_) _ _ s;refine agl (agQ h f (x:=.ref t) rfl ?_);refine agl (agQ h f (x:=.int i 0) rfl ?_);refine agl (ahy g c ?_);simp only[aiV,l];refine agl (ai0 (agl (air h f (by simp) ?_)));refine agl ?_;refine agl (m:=firstArgMember _ _) (wpAny_of_eq (a:=Value.none) (rfl) ?_);refine aiu ?_ (by size_fits);refine agl (wpAny_handled ?_);rw[j];refine agl (agp (wpAny_throw ?_));exact k _ _ (((aid ..).extBut.push _).push _) ⟨_,agA _ rfl,rfl⟩
def qd{e it t}{i:Nat}{its x c Q}(z:IsEnum s.heap e it i c)(D:s.heap.IsTupleIter it t i)(ht:s.heap.IsTuple t its)(hx:its[i]?=some x)(a:e≠it)(hQ:∀l,IsEnumOut l e it (i+1) x s.heap.objs.size->l.IsTupleIter it t (i+1)->l.get? s.heap.objs.size=some {cls:=.type "tuple",data:=.seq #[.int i s.toks,x]}->(∀b o,b≠e->b≠it->s.heap.get? b=some o->l.get? b=some o)->Q (some (.ref s.heap.objs.size)) {s with heap:=l,toks:=s.toks+1}):wpAny (model prog w) A (pyNext (.ref e)) Q E s:=by
 have Y:s.TypeIs (.ref e) "enumerate":=⟨_,z,rfl⟩;unfold pyNext;refine agl (aia (ahh (name:=Str.ofString "__next__") Y ah4 (ahw ah4 Y F.entry_enumerate_next ?_ (F.args_enumerate_next_1 _))));obtain⟨k,g,d,tk,os⟩:=s;show wpAny _ _ (field (.ref e) 2 >>=_) _ _ _;refine agl (agQ z rfl (x:=.ref it) rfl ?_);refine agl (jz D ht hx λj H p=>?_);replace p:Heap.SameBut it k j:=p;have T:IsEnum j e it i c:=(p.2 e a).trans z;show wpAny _ _ (field (.ref e) 3 >>=_) _ _ ⟨j,g,d,tk,os⟩;refine agl (agQ T rfl (x:=rawInt i) rfl ?_);show wpAny _ _ (field (.ref e) 4 >>=_) _ _ ⟨j,g,d,tk,os⟩;refine agl (agQ T rfl (x:=.none) rfl ?_);show wpAny _ _ (mkInt i >>=_) _ _ ⟨j,g,d,tk,os⟩;refine agl (wpAny_mkInt ?_);refine agl (ag8 T (by simp) λy S u=>?_);replace u:Heap.SameBut e j y:=u;replace S:IsEnum y e it ((i:Int)+1) c:=S;show wpAny _ _ (setField (.ref e) 4 .none >>=_) _ _ ⟨y,g,d,tk+1,os⟩;refine agl (ag8 S (by simp) λh G q=>?_);replace q:Heap.SameBut e y h:=q;replace G:IsEnum h e it ((i:Int)+1) c:=G;show wpAny _ _ (newTuple [.int i tk,x]>>=_) _ _ ⟨h,g,d,tk+1,os⟩;refine agl (wpAny_newTuple ?_);have B:IsEnum (h.push {cls:=.type "tuple",data:=.seq #[.int i tk,x]}) e it ((i:Int)+1) c:=agm _ G;generalize q4:h.push {cls:=.type "tuple",data:=.seq #[.int i tk,x]}=h4 at B;have X:h.objs.size=k.objs.size:=by rw[q.1,u.1,p.1]
 have K:=agt z;have Z:h4.get? k.objs.size=some {cls:=.type "tuple",data:=.seq #[.int i tk,x]}:=by rw[<-q4,<-X];exact agA _ rfl
 have k4:∀b o,b≠e->b≠it->k.get? b=some o->h4.get? b=some o:=λb o f O R=>by rw[<-q4];exact agm _ (q.extBut b o f (u.extBut b o f (p.extBut b o O R)))
 have N:h4.IsTupleIter it t (i+1):=by rw[<-q4];refine gD ((H.extBut u.extBut (agG a)).extBut q.extBut (agG a)) λo ho r=>?_;exact⟨o,agm _ ho,r⟩
 show wpAny _ _ (Builtin.SmallTypes.ownedTupleIsFree (.ref e)>>=_) _ _ ⟨h4,g,d,tk+1,os⟩;rw[X];refine agl ?_;unfold Builtin.SmallTypes.ownedTupleIsFree;refine agl (agQ B rfl (x:=.none) rfl (agp ?_));simp only[aib];refine agl (ai0 ?_);refine agl (agQ B rfl (x:=c) rfl ?_);refine agl (ag8 B (by simp) λU C v=>?_);replace v:Heap.SameBut e h4 U:=v;replace C:IsEnum U e it ((i:Int)+1) x:=C;refine agl ?_;unfold Builtin.SmallTypes.ownedTupleHandOut;refine agl (ag8 C (by simp) λP J m=>?_);replace m:Heap.SameBut e U P:=m;replace J:IsEnumOut P e it ((i:Int)+1) x k.objs.size:=J;refine ag8 J (by simp) λM I n=>?_;replace n:Heap.SameBut e P M:=n;replace I:IsEnumOut M e it ((i:Int)+1) x k.objs.size:=I;refine agl (wpAny_letGo (agp ⟨_,rfl,agp (hQ M I ?_ ?_ ?_)⟩));.exact((N.extBut v.extBut (agG a)).extBut m.extBut (agG a)).extBut n.extBut (agG a)
 .exact n.extBut _ _ (ahb K) (m.extBut _ _ (ahb K) (v.extBut _ _ (ahb K) Z))
 .exact λb o f O R=>n.extBut b o f (m.extBut b o f (v.extBut b o f (k4 b o f O R)))
def t9{e it t}{i:Nat}{its d Q}(h:A.handled=none)(f:IsEnum s.heap e it i d)(a:s.heap.IsTupleIter it t i)(ht:s.heap.IsTuple t its)(l:its[i]?=none)(k:∀b,Heap.ExtBut it s.heap b->Q none {s with heap:=b}):wpAny (model prog w) A (pyNext (.ref e)) Q E s:=by have g:s.TypeIs (.ref e) "enumerate":=⟨_,f,rfl⟩;refine agl (aia (ahh g ah4 (ahw ah4 g F.entry_enumerate_next ?_ (F.args_enumerate_next_1 _))));show wpAny _ _ (field (.ref e) 2 >>=_) _ _ _;refine agl (agQ f rfl rfl ?_);refine agl (lP h a ht l λb x n c=>?_);refine gD c λo m j=>?_;refine agl (wpAny_isInstance ⟨o,m,j⟩ isSubtype_stop ?_);exact agp (k _ n)
end
section
open PySem.AutoSeq1(wpAny_loadPart')
def t8(l)(its)(n)(c)(sl):Meets (Builtin.«enumerate.__new__» ⟨[.type "enumerate",.ref l],[]⟩) λ_ R s=>s.heap.get? l=some {cls:=.type "tuple",dict:=c,data:=.seq its n,slots:=sl}/\R (.ok (.ret (.ref (s.heap.push {cls:=.type "tuple_iterator",data:=.fields #[.ref l,.int 0 0]}).objs.size))) {s with heap:=(s.heap.push {cls:=.type "tuple_iterator",data:=.fields #[.ref l,.int 0 0]}).push {cls:=.type "enumerate",data:=.fields #[.none,.bool false,.ref s.heap.objs.size,rawInt 0,.none,.none]}}:=.of_wp λe w A R s h=>by obtain⟨a,h⟩:=h;have d:=sub_enumerate;have f:Heap.IsTuple _ l its:=⟨_,a,rfl,n,rfl⟩;wp_walk using wpAny_loadPart' a;refine wpAny_stack_any λst=>agp ?_;generalize Builtin.SmallTypes.calledThroughType.match_1 (λ_=>Bool) _ _ _=b;cases b<;>(wp_walk using wpAny_loadPart' a,aik f;exact⟨_,rfl,h⟩)
variable{prog:Program}{w:World}{A:Around}{E:Value->Shared->Prop}{s:Shared}
def qq{l its Q}(m:s.heap.IsTuple l its)(h:∀a,IsEnum a (s.heap.objs.size+1) s.heap.objs.size 0 .none->a.IsTupleIter s.heap.objs.size l 0->(∀b o,s.heap.get? b=some o->a.get? b=some o)->Q (.ref (s.heap.objs.size+1)) {s with heap:=a}):wpAny (model prog w) A (call (.type "enumerate") [.ref l]) Q E s:=by
 obtain⟨⟨c,d,q,j⟩,p,e,n,k⟩:=m;replace e:c=.type "tuple":=e;subst e k;refine callType_new F.called_enumerate (by decide) (F.typeCall_enumerate_1 _) (F.newCall_enumerate_1 _) (λf=>F.args_object_init_2 f _) F.entry_enumerate_new (t8 l its n d j) ⟨p,?_⟩;have i:(s.heap.push {cls:=.type "tuple_iterator",data:=.fields #[.ref l,.int 0 0]}).objs.size=s.heap.objs.size+1:=ahS ..;show _/\_;rw[i];have g:=by have z:=agA (s.heap.push {cls:=.type "tuple_iterator",data:=.fields #[.ref l,.int 0 0]}) (o:={cls:=.type "enumerate",data:=.fields #[.none,.bool false,.ref s.heap.objs.size,rawInt 0,.none,.none]}) rfl;rw[i]at z;exact z
 exact⟨⟨_,g,rfl⟩,h _ g ⟨_,agm _ (agA _ rfl),rfl,rfl⟩ λb o x=>agm _ (agm _ x)⟩
end
def Inv.qZ    (I:Inv X pins σ H s)(k:∀c o,c≠a->c≠b->s.heap.get? c=some o->h'.get? c=some o)(g:n3 X pins H a)(h:n3 X pins H b):Inv X pins σ H {s with heap:=h',toks:=t'}:=by
 have i:∀c u,H c=some u->c≠a/\c≠b:=λc u e=>⟨aJ e g.1,aJ e h.1⟩;have f:∀{c:Addr},c∉[a,b]->c≠a/\c≠b:=λ{c}d=>⟨λz=>d (by simp[z]),λz=>d (by simp[z])⟩;refine I.step (d':=s.drawn) (λc d=>?_) (λc o _ _ d e _=>k c o (f d).1 (f d).2 e) (λc o _ _ d e _=>⟨o.slots,k c o (f d).1 (f d).2 e⟩) (λ_ _ _ _ n=>n) (λc o d e=>⟨o,k c o (f d).1 (f d).2 e⟩) (λ_ _ e=>e) (λ_ _ _ e=>e) (λc ps e=>⟨#[],by rw[e];simp⟩) (λm w=>?_) (λc u e=>?_) I.bare
 .have l:c=a\/c=b:=by simpa using d
  rcases l with rfl|rfl;.exact⟨g.2.2.2.1,g.2.1,g.2.2.2.2.1,g.2.2.2.2.2⟩
  .exact⟨h.2.2.2.1,h.2.1,h.2.2.2.2.1,h.2.2.2.2.2⟩
 .refine uR w λo p t x r=>?_;exact zU o p t (k _ o (agG g.2.1) (agG h.2.1) x) r
 .refine(I.hok c u e).jV (λj v d q=>k j v ?_ ?_ q) (λ_ q=>q) λ_ _ q=>q
  .rcases d with z|z;.rw[z];exact(i c u e).1
   .exact(i j _ z).1
  .rcases d with z|z;.rw[z];exact(i c u e).2
   .exact(i j _ z).2
def Ite(K:W.Frag)(a:Addr):It:=⟨λi H=>∃b x,SqT K H a b/\b[i]?=some x,λi H x c=>∃p,x=.ref p/\H p=none/\∀b,SqT K H a b->∃y,b[i]?=some y/\c=upd H p (.tup [.int i,y]),λi H=>∃b,SqT K H a b/\b.length<=i⟩
def pK{P:Program}{w:World}{K:W.Frag}{es:List Expr}{k:Nat}{pos:Pos}(a e it:Addr)(hne:e≠it):Turn P w K (.Tuple es k pos) (Ite K a) [e,it] e λi h=>(∃old,IsEnum h e it i old)/\h.IsTupleIter it a i where
 mem:=by simp
 obj:=λi h st b hb=>by
  obtain⟨⟨old,he⟩,o,ho,hc,hd⟩:=st;have hb':b=e\/b=it:=by simpa using hb
  rcases hb' with rfl|rfl;.exact⟨_,he,λv z=>by cases z⟩
  .exact⟨o,ho,λv z=>by rw[hd]at z;cases z⟩
 keep:=λi h h' st kk=>by obtain⟨⟨old,he⟩,o,ho,r⟩:=st;exact⟨⟨old,kk e (by simp) _ he⟩,o,kk it (by simp) o ho,r⟩
 item:=by
  intro X hP hw hK i pins s σ H E hc I hf st hg;subst hP hw hK;obtain⟨⟨old,he⟩,hit⟩:=st;obtain⟨xs,x,hq,hx⟩:=hg;obtain⟨its,rv,p,hz⟩:=I.tuple hq;obtain⟨u,hu,ru⟩:=rv.get hx;have fe:=hf e (by simp);have fi:=hf it (by simp);refine qd he hit (show s.heap.IsTuple a its.toArray from p) (x:=u) (by simpa using hu) hne λh' eo it' tp kp=>?_;have I1:=I.qZ (t':=s.toks+1) kp fe fi;have hfr:=I.hok.fresh (agx _);have hnT:∀b o,s.heap.get? b=some o->b≠s.heap.objs.size:=λb o q=>agz (agt q);have I2:Inv X pins σ (upd H s.heap.objs.size (.tup [.int i,x])) {s with heap:=h',toks:=s.toks+1}:=by
   refine I1.pM hfr I.sz (ahb I.lt) (λy c q=>?_) (λpp hp=>hnT _ _ (I.pin pp hp).1) ⟨by show 2<=sizeLine;decide,[.int i s.toks,u],.cons ⟨_,rfl⟩ (.cons ru .nil),?_⟩;.obtain⟨v,z⟩:=I.cell y c q;exact agz z.lt
   .exact⟨_,tp,rfl,0,rfl⟩
  refine⟨_,rfl,aiS (s:={s with heap:=h',toks:=s.toks+1}) eo λh2 e2 s2=>?_⟩;have hTe:=agG (hnT _ _ he);obtain⟨o1,ho1,_⟩:=hit;have hTi:=agG (hnT _ _ ho1);refine⟨.ref s.heap.objs.size,upd H s.heap.objs.size (.tup [.int i,x]),?_,rfl,⟨_,rfl,hfr,λys hy=>⟨x,by rw[I.fh hy hq];exact hx,rfl⟩⟩,⟨⟨_,e2⟩,?_⟩,λb hb=>?_⟩;.exact I2.turned (t':=s.toks+1) (it:=e) (λb o hb q=>(s2.2 b hb).trans q) (by rw[ai (agG hTe)];exact fe.1) fe.2.1 fe.2.2.2.1 fe.2.2.2.2.1 fe.2.2.2.2.2
  .exact it'.extBut s2.extBut (agG hne)
  .have hb':b=e\/b=it:=by simpa using hb
   rcases hb' with rfl|rfl;.rw[ai (agG hTe)];exact fe.1
   .rw[ai (agG hTi)];exact fi.1
 done:=by intro X hP hw hK i pins s σ H E hc I hf st hg;subst hP hw hK;obtain⟨⟨old,he⟩,hit⟩:=st;obtain⟨xs,hq,hx⟩:=hg;obtain⟨its,rv,p,hz⟩:=I.tuple hq;have fi:=hf it (by simp);have hl:=rv.length;exact t9 (I.ok.hd hc) he hit (show s.heap.IsTuple a its.toArray from p) (by simp;omega) λh' eb=>⟨rfl,I.turned (t':=s.toks) (λb o hb q=>eb b o hb q) fi.1 fi.2.1 fi.2.2.2.1 fi.2.2.2.2.1 fi.2.2.2.2.2⟩
 self:=λ_ _ _ _ _ h0_ h=>by obtain⟨⟨_,he⟩,_⟩:=h0_;exact aiw he h
section
variable{X:Cx}
def zq(K:W.Frag)(d:TE):TI:=λσ H R=>d σ H λx b=>∃a,x=.ref a/\(∃c,SqT K b a c)/\R (Ite K a) b
end
end L2
namespace L2
open PySem PySem.Spec PyProof.Rows
section
variable{κ:Type}[DecidableEq κ]
noncomputable def qX(kvs:List (κ×V))(k:κ):Option V:=(kvs.find? λa=>decide (a.1=k)).map (·.2)
noncomputable def putK(kvs:List (κ×V))(k:κ)(v:V):List (κ×V):=if(kvs.any λa=>decide (a.1=k))=true then kvs.map λa=>if a.1=k then(a.1,v)else a else kvs++[(k,v)]
def fb{p r}{k:κ}(e:p.1=k):qX (p::r) k=some p.2:=by simp[qX,e]
def fc{p r}{k:κ}(e:¬p.1=k):qX (p::r) k=qX r k:=by simp[qX,e]
theorem oh(k):∀a:List (κ×V),(a.any λb=>decide (b.1=k))=(qX a k).isSome
|[]=>rfl|p::r=>by
 rw[List.any_cons];by_cases e:p.1=k;.simp [fb e,ahD e]
 .rw[fc e,agX e];exact oh k r
def iT(kvs)(k:κ)(v):(putK kvs k v).length<=kvs.length+1:=by
 unfold putK;split;.rw[agO];omega
 .rw[ahg,agJ,List.length_nil];omega
def qz.tm{o u}(r:qz o u):o.isSome=u.isSome:=by cases o with
|none=>cases u with|none=>rfl|some _=>exact(r).elim
|some _=>cases u with|none=>exact(r).elim|some _=>rfl
def KV.val{kvs vs}(r:KV kvs vs)(k:κ):qz (qX kvs k) (valueAt vs k):=by induction r with|nil=>exact True.intro|@cons p q ps qs h t ih=>
 obtain⟨a,d⟩:=h;by_cases e:p.1=k
 .have b:valueAt (q::qs) k=some q.2:=by simp[valueAt,a.symm.trans e]
  rw[fb e,b];exact d
 .have c:¬q.1=k:=λz=>e (a.trans z);have b:valueAt (q::qs) k=valueAt qs k:=by simp[valueAt,c]
  rw[fc e,b];exact ih
theorem KV.any{kvs vs}(r:KV kvs vs)(k:κ):(kvs.any λa=>decide (a.1=k))=vs.any λa=>decide (a.1=k):=by induction r with|nil=>rfl|cons h t ih=>rw[List.any_cons,List.any_cons,ih,h.1]
def KV.adS{kvs vs}(r:KV kvs vs)(k:κ){y u}(c:RelV y u):KV (kvs.map λa=>if a.1=k then(a.1,y)else a) (vs.map λa=>if a.1=k then(a.1,u)else a):=by induction r with|nil=>exact .nil|@cons p q ps qs h t ih=>
 rw[agP,agP];refine .cons ?_ ih;obtain⟨b,d⟩:=h;by_cases e:p.1=k;.rw[ago e,ago (b.symm.trans e)];exact⟨b,c⟩
 .rw[agq e,agq λz=>e (b.trans z)];exact⟨b,d⟩
def KV.put{kvs vs}(r:KV kvs vs)(k:κ){y u}(a:RelV y u):KV (putK kvs k y) (stored vs k u):=by
 unfold putK stored;rw[r.any k];by_cases e:(vs.any λb=>decide (b.1=k))=true;.rw[ago e,ago e];exact r.adS k a
 .rw[agq e,agq e];exact Paired.snoc r ⟨rfl,a⟩
theorem KV.length{kvs}{vs:List (κ×Value)}(r:KV kvs vs):kvs.length=vs.length:=Paired.length r
end
def zg{P w}:∀{k u},RelV (kV k) u->(bP P w).is k u=true|.inl (some i),u,r=>by obtain⟨t,e⟩:=r;subst e;exact m8 P w i t|.inl none,u,r=>by cases r;rfl|.inr x,u,r=>by obtain⟨t,e⟩:=r;subst e;exact m7 P w x t
theorem lX{P w}:∀{ks us},Vals (ks.map kV) us->ItemsAre (bP P w) ks us|[],_,r=>by cases r;exact .nil|k::ks,_,r=>by cases r with|cons h t=>exact .cons (zg h) (lX t)
abbrev KT(H:Hp):List (List Key×V)->List (List Key×Addr×Value)->Prop:=Paired λp q=>p.1=q.1/\H q.2.1=some (.tup (p.1.map kV))/\RelV p.2 q.2.2
def KT.val{H kvs xs}(r:KT H kvs xs)(k):qz (qX kvs k) ((atKey xs k).map (·.2)):=by induction r with|nil=>exact True.intro|@cons p q ps qs h t ih=>
 refine acD h λa _ d=>?_;by_cases e:p.1=k
 .have b:atKey (q::qs) k=some q.2:=by simp[atKey,a.symm.trans e]
  rw[fb e,b];exact d
 .have c:¬q.1=k:=λz=>e (a.trans z);have b:atKey (q::qs) k=atKey qs k:=by simp[atKey,c]
  rw[fc e,b];exact ih
def KT.adS{H kvs xs}(r:KT H kvs xs)(k){y u}(d:RelV y u):KT H (kvs.map λb=>if b.1=k then(b.1,y)else b) (xs.map (putAt k u)):=by induction r with|nil=>exact .nil|@cons p q ps qs h t ih=>
 rw[agP];refine .cons ?_ ih;refine acD h λa c f=>?_;unfold putAt;by_cases e:p.1=k;.rw[ago e,ago (a.symm.trans e)];exact⟨a,c,d⟩
 .rw[agq e,agq λz=>e (a.trans z)];exact⟨a,c,f⟩
def KT.put{H kvs xs}(r:KT H kvs xs)(k){b y u}(d:H b=some (.tup (k.map kV)))(a:RelV y u):KT H (putK kvs k y) (storedH xs k b u):=by
 have e:(kvs.any λc=>decide (c.1=k))=(atKey xs k).isSome:=by rw[oh,(r.val k).tm,Option.isSome_map]
 unfold putK storedH;rw[e];by_cases q:(atKey xs k).isSome=true;.rw[ago q,ago q];exact r.adS k a
 .rw[agq q,agq q];exact Paired.snoc r ⟨rfl,d,a⟩
def KT.keeps{H H' kvs xs}(r:KT H kvs xs)(ht:∀b a,H b=some (.tup a)->H' b=some (.tup a)):KT H' kvs xs:=Paired.yZ r λ_ _ z=>⟨z.1,ht _ _ z.2.1,z.2.2⟩
section
variable{P:Program}{w:World}{H:Hp}{h:Heap}{a:Addr}
def aaX{u}(ok:HOk P w H h)(e:Rd H a u):bS P w H h a u:=e.ok ok
def aci{kvs}(ok:HOk P w H h)(e:Rd H a (.dK kvs)):kvs.length<=sizeLine/\(a==sysModules)=false/\∃b,KV kvs b/\h.DictOf (bP P w) a b:=aaX ok e
def aeO{kvs}(ok:HOk P w H h)(e:H a=some (.dK kvs)):kvs.length<=sizeLine/\(a==sysModules)=false/\∃b,KV kvs b/\h.DictOf (bP P w) a b:=aci ok (.inl e)
def lW{ks}(ok:HOk P w H h)(e:H a=some (.tup (ks.map kV))):(tupleKind (bP P w)).is h ks a:=by obtain⟨_,b,r,o,f,d,n,c⟩:=ok a _ e;exact⟨o,_,n,f,d,c,by simpa using lX r⟩
def aeM{kvs}(ok:HOk P w H h)(e:Rd H a (.dT kvs)):kvs.length<=sizeLine/\(a==sysModules)=false/\∃c,KT H kvs c/\h.DictOfH (tupleKind (bP P w)) a c:=by
 obtain⟨z,y,c,r,o,i,j,g,f,k,d,n⟩:=aaX ok e;refine⟨z,y,c,r,o,i,j,g,f,k,d,λx b=>?_,n⟩;have all:∀{l}{m},KT H l m->∀x∈m,(tupleKind (bP P w)).is h x.1 x.2.1:=by intro l m q;induction q with|nil=>intro x b;exact nomatch b|@cons p q ps qs hq t ih=>
   intro x b;rcases ags.mp b with e|b;.exact lW ok (by grind)
   .exact ih x b
 exact all r x b
def aeN{kvs}(ok:HOk P w H h)(e:H a=some (.dT kvs)):kvs.length<=sizeLine/\(a==sysModules)=false/\∃b,KT H kvs b/\h.DictOfH (tupleKind (bP P w)) a b:=aeM ok (.inl e)
end
def acz(H:Hp)(a:Addr)(y v:V)(H':Hp):Prop:=(∃c k,H a=some (.dK c)/\y=kV k/\c.length<sizeLine/\H'=upd H a (.dK (putK c k v)))\/∃c k b,H a=some (.dT c)/\y=.ref b/\H b=some (.tup (k.map kV))/\c.length<sizeLine/\H'=upd H a (.dT (putK c k v))
theorem acz.k{H a kvs k v}(e:H a=some (.dK kvs))(b:kvs.length<sizeLine):acz H a (kV k) v (upd H a (.dK (putK kvs k v))):=.inl ⟨_,k,e,rfl,b,rfl⟩
section
variable{X:Cx}{pins:List (Addr×Obj)}{σ:St}{H:Hp}{s:Shared}{a:Addr}{y v:V}{u r:Value}{o:Option V}{A:Around}{E:Value->Shared->Prop}
def Inv.big(I:Inv X pins σ H s):sysModules<s.heap.objs.size:=by exact ai7 (by decide) (I.mod.glob.keeps I.bk).lt
def ui{h' t' ob}(I:Inv X pins σ H s)(d:Mut (H a))(hs:Heap.SameBut a s.heap h')(c:∃q,h'.get? a=some q)(new:bS X.prog X.w (upd H a ob) h' a ob):Inv X pins σ (upd H a ob) {s with heap:=h',toks:=t'}:=I.write  d (.inl rfl) (λb q e z=>(hs.2 b e).trans z) c new
def acj{P w H' h' kvs vs}(z:kvs.length<=sizeLine)(c:(a==sysModules)=false)(b:KV kvs vs)(dd:h'.DictOf (bP P w) a vs):bS P w H' h' a (.dK kvs):=⟨z,c,vs,b,dd⟩
def uk{H' Q}(Y:A.units+1<cLine)(I:Inv X pins σ H s)(g:acz H a y v H')(B:RelV y u)(C:RelV v r)(h:∀G,Inv X pins σ H' G->Q () G):wpAny (model X.prog X.w) A (setItem (.ref a) u r) Q E s:=by
 rcases g with⟨f,k,e,t,l,m⟩|⟨f,k,b,e,t,K,l,m⟩
 .subst t m;obtain⟨z,n,S,d,dd⟩:=aeO I.hok e;have p:S.length<=sizeLine:=by rw[<-d.length];exact z
  have x:(putK f k v).length<=sizeLine:=by have:=iT f k v;omega
  refine wpAny_setItem_pairs (hsz:=p) (zg B) dd λD i w=>h _ ?_;have N:∃q,D.get? a=some q:=let⟨q,_,_,j,_⟩:=i;⟨q,j⟩;exact ui I (by rw[e];exact True.intro) w N (acj x n (d.put k C) i)
 .subst t m;cases B;obtain⟨z,n,R,d,dd⟩:=aeN I.hok e;have p:R.length<=sizeLine:=by rw[<-Paired.length d];exact z
  have x:(putK f k v).length<=sizeLine:=by have:=iT f k v;omega
  refine wpAny_setItem_heap (hsz:=p) (tupleKind_room_in1 Y) (lW I.hok K) dd λD i w=>h _ ?_;obtain⟨q,T,U,j,O,P,M,_,Z⟩:=i;refine ui I (by rw[e];exact True.intro) w ⟨q,j⟩ ⟨x,n,_,(d.put k K C).keeps λc ys J=>?_,q,T,U,j,O,P,M,Z⟩;rw[ai (aeh J e λz=>nomatch z)];exact J
end
def adJ(d ty tv:TE):TS:=λD σ H=>tv σ H λv e=>d σ e λx f=>ty σ f λy c=>∃a b,x=.ref a/\acz c a y v b/\D.nx σ b
section
variable{X:Cx}{o i e value:Expr}{pos pos' tpos:Pos}{td ty tv:TE}
def yE(B:X.A.units+1<cLine)(n:PE X o td)(t:PE X i ty)(w:PE X value tv)(hs:swapsWith value (some (.Subscript o i pos')) pos.line X.env=pure false):PS X (.Assign [.Subscript o i pos'] value pos) (adJ td ty tv):=by intro b s σ H D I h;refine wpAny_Assign_Subscript (thn (w _ s σ H _ I h) λr K⟨v,G,l,d,k⟩=>thn (n _ _ σ _ _ l k) λu N⟨x,J,z,A,p⟩=>thn (t _ _ σ _ _ z p) λO M⟨y,C,j,c,a,m,ex,g,q⟩=>?_) hs;subst ex;obtain rfl:=A;exact uk B j g c d λE f=>⟨σ,m,f,q⟩
end
def wD{P w H}(h:Heap)(a:sysModules<h.objs.size):bS P w H (h.push {cls:=.type "dict",data:=.dict #[]}) h.objs.size (.dK []):=⟨agV _,beq_eq_false_iff_ne.mpr (agG (agz a)),[],.nil,Heap.DictOf.new h⟩
def aaI:TE:=λ_ H Q=>∀p,H p=none->Q (.ref p) (upd H p (.dK []))
section
variable{X:Cx}{pos:Pos}
def vK:PE X (.Dict [] [] pos) aaI:=λa s σ H Q I h=>wpAny_Dict_empty ⟨.ref _,_,I.laid  (λ_ _ q=>agm _ q) (agx _) (wD _ I.big),rfl,h _ (I.hok.fresh (agx _))⟩
end
def adk(K:W.Frag)(a:Addr):It:=⟨λi H=>∃b x,SqL K H a b/\b[i]?=some x,λi H x c=>∃p,x=.ref p/\H p=none/\∀b,SqL K H a b->∃y,b[i]?=some y/\c=upd H p (.tup [.int i,y]),λi H=>∃b,SqL K H a b/\b.length<=i⟩
def pL{P:Program}{w:World}{K:W.Frag}{es:List Expr}{k:Nat}{pos:Pos}(a e it:Addr)(hne:e≠it):Turn P w K (.Tuple es k pos) (adk K a) [e,it] e λi h=>(∃old,IsEnum h e it i old)/\h.IsListIter it a i where
 mem:=by simp
 obj:=λi h st b hb=>by
  obtain⟨⟨old,he⟩,o,ho,hc,hd⟩:=st;have hb':b=e\/b=it:=by simpa using hb
  rcases hb' with rfl|rfl;.exact⟨_,he,λv z=>by cases z⟩
  .exact⟨o,ho,λv z=>by rw[hd]at z;cases z⟩
 keep:=λi h h' st kk=>by obtain⟨⟨old,he⟩,o,ho,r⟩:=st;exact⟨⟨old,kk e (by simp) _ he⟩,o,kk it (by simp) o ho,r⟩
 item:=by
  intro X hP hw hK i pins s σ H E hc I hf st hg;subst hP hw hK;obtain⟨⟨old,he⟩,hit⟩:=st;obtain⟨xs,x,hq,hx⟩:=hg;obtain⟨its,rv,p,hz⟩:=I.list hq;obtain⟨u,hu,ru⟩:=rv.get hx;have fe:=hf e (by simp);have fi:=hf it (by simp);refine wpAny_pyNext_enum_item he hit p.isList (x:=u) (by simpa using hu) hne λh' eo it' tp _ kp=>?_;have I1:Inv X pins σ H {s with heap:=h',toks:=s.toks+1}:=I.qZ (t':=s.toks+1) kp fe fi;have hfr:H s.heap.objs.size=none:=I.hok.fresh (agx _);have hnT:∀b o,s.heap.get? b=some o->b≠s.heap.objs.size:=λb o q=>agz (agt q);have I2:Inv X pins σ (upd H s.heap.objs.size (.tup [.int i,x])) {s with heap:=h',toks:=s.toks+1}:=by
   refine I1.pM hfr I.sz (ahb I.lt) (λy c q=>?_) (λpp hp=>hnT _ _ (I.pin pp hp).1) ⟨by show 2<=sizeLine;decide,[.int i s.toks,u],.cons ⟨_,rfl⟩ (.cons ru .nil),?_⟩;.obtain⟨v,z⟩:=I.cell y c q;exact agz z.lt
   .exact⟨_,tp,rfl,0,rfl⟩
  refine⟨_,rfl,aiS (s:={s with heap:=h',toks:=s.toks+1}) eo λh2 e2 s2=>?_⟩;have hTe:s.heap.objs.size≠e:=agG (hnT _ _ he);obtain⟨o1,ho1,_⟩:=hit;have hTi:s.heap.objs.size≠it:=agG (hnT _ _ ho1);refine⟨.ref s.heap.objs.size,upd H s.heap.objs.size (.tup [.int i,x]),?_,rfl,⟨_,rfl,hfr,λys hy=>⟨x,by rw[I.gT hy hq];exact hx,rfl⟩⟩,⟨⟨_,e2⟩,?_⟩,λb hb=>?_⟩;.exact I2.turned (t':=s.toks+1) (it:=e) (λb o hb q=>(s2.2 b hb).trans q) (by rw[ai (agG hTe)];exact fe.1) fe.2.1 fe.2.2.2.1 fe.2.2.2.2.1 fe.2.2.2.2.2
  .exact it'.extBut s2.extBut (agG hne)
  .have hb':b=e\/b=it:=by simpa using hb
   rcases hb' with rfl|rfl;.rw[ai (agG hTe)];exact fe.1
   .rw[ai (agG hTi)];exact fi.1
 done:=by intro X hP hw hK i pins s σ H E hc I hf st hg;subst hP hw hK;obtain⟨⟨old,he⟩,hit⟩:=st;obtain⟨xs,hq,hx⟩:=hg;obtain⟨its,rv,p,hz⟩:=I.list hq;have fi:=hf it (by simp);have hl:=rv.length;exact wpAny_pyNext_enum_end (I.ok.hd hc) he hit p.isList (by simp;omega) λh' eb=>⟨rfl,I.turned (t':=s.toks) (λb o hb q=>eb b o hb q) fi.1 fi.2.1 fi.2.2.2.1 fi.2.2.2.2.1 fi.2.2.2.2.2⟩
 self:=λ_ _ _ _ _ h0_ h=>by obtain⟨⟨_,he⟩,_⟩:=h0_;exact aiw he h
section
variable{X:Cx}
def ab2(K:W.Frag)(d:TE):TI:=λσ H R=>d σ H λx b=>∃a,x=.ref a/\((∃c,SqT K b a c)/\R (Ite K a) b\/(∃c,SqL K b a c)/\R (adk K a) b)
def mV{l:Expr}{y:TE}{es:List Expr}{k:Nat}{S p pos:Pos}(J:Gl X "enumerate")(Q:X.mg "enumerate"=none)(P:PE X l y)(hs:starEach [l] X.env=[(false,eval l X.env)]:=by rfl):PI X (.Tuple es k S) (.Call (.Name "enumerate" p) [l] [] pos) (ab2 X.K y):=by intro g s σ H R I h;have M:PA X [l] (pQ y aaH):=bO P dM (by unfold SE;rw[hs];rfl);refine Call_ (eM I J Q boot_enumerate (ag4 (thn (M pos g s σ H (λz f=>match z with|[x]=>∃a,x=.ref a/\((∃n,SqT X.K f a n)/\R (Ite X.K a) f\/(∃n,SqL X.K f a n)/\R (adk X.K a) f)|_=>False) I h) λT c v=>?_) hs rfl));obtain⟨z,f,j,A,d⟩:=v;match z,d,A with
|[x],d,A=>
  obtain⟨a,rfl,d⟩:=d;obtain⟨u,rfl,N⟩:=vals1 A;cases N;have C:c.heap.objs.size+1≠c.heap.objs.size:=Nat.succ_ne_self _;have D:∀b∈[c.heap.objs.size+1,c.heap.objs.size],n3 X g f b:=λb O=>by
   have B:b=c.heap.objs.size+1\/b=c.heap.objs.size:=by simpa using O
   have o:c.heap.objs.size<=b:=by
    rcases B with e|e;.rw[e];exact Nat.le_succ _
    .rw[e];exact agx _
   exact j.ab7 o (j.hok.fresh o)
  rcases d with⟨⟨n,t⟩,q⟩|⟨⟨n,t⟩,q⟩;.obtain⟨r,E,p,K⟩:=j.tuple t;refine qq (show c.heap.IsTuple a r.toArray from p) λG m i w=>aiw m ?_;exact⟨c.heap.objs.size+1,[c.heap.objs.size+1,c.heap.objs.size],_,_,f,rfl,j.kept (t':=c.toks) w,pK a _ _ C,⟨⟨_,m⟩,i⟩,D,q⟩
  .obtain⟨r,E,p,K⟩:=j.list t;refine call_enumerate_list p.isList λG m i _ w=>aiw m ?_;exact⟨c.heap.objs.size+1,[c.heap.objs.size+1,c.heap.objs.size],_,_,f,rfl,j.kept (t':=c.toks) w,pL a _ _ C,⟨⟨_,m⟩,i⟩,D,q⟩|[],d,_=>exact d.elim|_::_::_,d,_=>exact d.elim
end
section
variable{X:Cx}
def s9:IxR X λx y H Q=>∃a b k v,x=.ref a/\y=kV k/\Rd H a (.dK b)/\qX b k=some v/\Q v H:=by intro g d h s σ H x y v u Q I n i⟨a,_,k,z,ex,j,e,l,q⟩m;subst ex j;cases n;obtain⟨t,o,r,c,dd⟩:=aci I.hok e;refine gD (qz.some_of (by rw[<-l];exact c.val k)) λp hw f=>?_;exact tail_any dd.typeIs PySem.F.slot_dict_getitem.lookup (wpAny_getItem_of (zg i) dd.mapOf hw (hJ z H (I.tok _) f q)) m
end
end L2
set_option autoImplicit true
set_option relaxedAutoImplicit true
namespace L2
open PySem PySem.Spec PyProof.Rows
def V12(vs:Array Value)(v:Value):Prop:=vs[1]?=some v/\vs[2]?=some .none
def Trc(h:Heap)(e C:Addr)(dx:Option Addr)(f:Value):Option Addr->Prop|none=>∃a b,h.get? e=some a/\a.cls=.ref C/\a.dict=dx/\a.data=.fields b/\V12 b .none|some T=>T≠e/\∃a b c d,h.get? e=some a/\a.cls=.ref C/\a.dict=dx/\a.data=.fields b/\V12 b (.ref T)/\h.get? T=some c/\c.data=.fields d/\d[3]?=some f
def Trc.there{h e C dx j T}(t:Trc h e C dx j T):∃a b,h.get? e=some a/\a.cls=.ref C/\a.dict=dx/\a.data=.fields b/\b[2]?=some .none:=by cases T with|none=>refine qu t λa b i f d c g=>?_;exact⟨a,b,i,f,d,c,g.2⟩|some T=>obtain⟨_,a,b,_,_,i,f,d,c,g,_⟩:=t;exact aaj a b i f d c g.2
def Trc.keeps{h h' e C dx f T}(t:Trc h e C dx f T)(k:∀b o,b=e\/T=some b->h.get? b=some o->h'.get? b=some o):Trc h' e C dx f T:=by cases T with|none=>refine cW t λa c d r=>?_;exact⟨a,c,k _ _ (.inl rfl) d,r⟩|some T=>obtain⟨m,a,c,g,n,d,j,p,i,q,l,r⟩:=t;exact⟨m,a,c,g,n,k _ _ (.inl rfl) d,j,p,i,q,k _ _ (.inr rfl) l,r⟩
def Obj.jf(f)(o:Obj):(o.mapFields f).dict=o.dict:=by obtain⟨c,d,a,b⟩:=o;cases a<;>rfl
section
variable{M:Model}{A:Around}{E:Value->Shared->Prop}{s:Shared}
def lY{u g d L e C x vs head j Q}(K:A.frames=some (g::d))(P:s.heap.FunFrames u (g::d))(R:g.frame=some L)(N:s.heap.get? e=some x)(H:x.data=.fields vs)(hsz:1<vs.size)(w:vs[2]?=some .none)(h:∀D O,(∀b o,s.heap.get? b=some o->b≠e->b∉frs (g::d)->D.get? b=some o)->(∀b o,s.heap.get? b=some o->b∈frs (g::d)->∃J,D.get? b=some {o with slots:=J})->s.heap.objs.size<=O->Trc D e C x.dict (rawInt L) (some O)->Q () {s with heap:=D})(S:x.cls=.ref C):wpAny M A (do let a <-frameOf g;let pl <-entryPlaceOf L j;let b <-EntryCells.newEntry head a .none (rawInt L) .none pl;setField (.ref e) 1 b) Q E s:=by
 have m:e ∉(g::d).filterMap (·.frame):=λT=>by obtain⟨_,o,G,I⟩:=P.mem T;rw[N]at G;injection G with G;subst G;exact I vs H
 refine agl (wpAny_frameOf_fun K P R λc f=>?_);refine agl (wpAny_entryPlaceOf λpl y=>?_);unfold EntryCells.newEntry newFields;refine agl (aiu ?_ (y.sizeOk5 _ _ _ _ _));have i:c.get? e=some x:=(f.2.1 e m).trans N;have l:=agm {cls:=.type "traceback",dict:=none,data:=.fields ([head,.ref L,.none,rawInt L,.none]++if pl.isEmpty then List.replicate 6 Value.none else pl).toArray} i;refine air l H hsz ?_;have v:=ahb (agt i);have k:=ahZ H (·.setIfInBounds 1 (Value.ref c.objs.size));have r:=ahJ (Obj.mapFields (·.setIfInBounds 1 (Value.ref c.objs.size))) l (aiE k);have p:=(ahG (c.push {cls:=.type "traceback",dict:=none,data:=.fields ([head,.ref L,.none,rawInt L,.none]++if pl.isEmpty then List.replicate 6 Value.none else pl).toArray}) (Obj.mapFields (·.setIfInBounds 1 (Value.ref c.objs.size))) (agG v)).trans (agA c rfl);have keep:∀b o,b≠e->c.get? b=some o->((c.push {cls:=.type "traceback",dict:=none,data:=.fields ([head,.ref L,.none,rawInt L,.none]++if pl.isEmpty then List.replicate 6 Value.none else pl).toArray}).update e (Obj.mapFields (·.setIfInBounds 1 (Value.ref c.objs.size)))).get? b=some o:=λb o t B=>by rw[ahG _ _ (agG t)];exact agm _ B
 refine h _ c.objs.size (λb o B t n=>keep b o t ((f.2.1 b n).trans B)) (λb o B n=>?_) ?_ ?_;.obtain⟨J,q⟩:=f.2.2 b o B;exact⟨J,keep b _ (λz=>m (z▸n)) q⟩
 .rw[f.1];exact agx _
 .exact⟨v,_,_,_,_,r,(Obj.cls_mapFields _ _).trans S,Obj.jf _ _,k,⟨by simp[hsz],by rw[Array.getElem?_setIfInBounds];simpa using w⟩,p,rfl,by first|(simp;done)|(rcases y with rfl|⟨_,_,_,_,_,_,_,rfl⟩<;>simp)⟩
def oR{p f a L e C dx S T Q}(u:A.frames=some (f::a))(N:s.heap.FunFrames p (f::a))(G:f.frame=some L)(ht:Trc s.heap e C dx S T)(H:(S==rawInt L)=false)(h:∀j m,(∀b o,s.heap.get? b=some o->b≠e->T≠some b->b∉frs (f::a)->j.get? b=some o)->(∀b o,s.heap.get? b=some o->b∈frs (f::a)->∃sl,j.get? b=some {o with slots:=sl})->s.heap.objs.size<=m->Trc j e C dx (rawInt L) (some m)->Q () {s with heap:=j}):wpAny M A (noteFrame (.ref e) f) Q E s:=by unfold noteFrame;simp only[G];cases T with|none=>refine qu ht λZ J r I k t l=>?_;refine agl (agQ r t l.1 ?_);rw[agq (by decide)];subst k;exact lY u N G r t (aho.mp l.1).1 l.2 (λj m R O y w=>h j m (λb o g K _ x=>R b o g K x) O y w) I|some T=>
 obtain⟨B,Z,J,oT,ts,r,I,k,t,l,X,v,U⟩:=ht;subst k;refine agl (agQ r t l.1 ?_);rw[ago (by simp)];refine agl (agQ X v U ?_);rw[agq (by rw[H];exact agK)];refine agl (air X v (aho.mp U).1 ?_);have d:∀b,b≠T->(s.heap.update T (Obj.mapFields (·.setIfInBounds 3 Value.none))).get? b=s.heap.get? b:=λb g=>ahG _ _ (agG g);have c:∀b o,s.heap.get? b=some o->(∀J,o.data≠.fields J)->b≠T:=λb o g i q=>by grind
 have P:∀b∈frs (f::a),b≠T:=λb g=>by obtain⟨_,o,Y,i⟩:=N.mem g;exact c b o Y i
 refine lY u (N.of_keeps λb o g i=>⟨o,(d b (c b o g i)).trans g,rfl⟩) G ((d e (agG B)).trans r) t (aho.mp l.1).1 l.2 (λj m R O y w=>h j m (λb o g K nT x=>?_) (λb o g n=>?_) ?_ w) I;.have D:b≠T:=λz=>nT (by rw[z]);exact R b o ((d b D).trans g) K x
 .exact O b o ((d b (P b n)).trans g) n
 .rw[<-Heap.size_after_update ..];exact y
def su{a}{L e C T:Addr}{dx d Q}(f:a.frame=some L)(ht:Trc s.heap e C dx d (some T))(b:(d==rawInt L)=true)(h:Q () s):wpAny M A (noteFrame (.ref e) a) Q E s:=by unfold noteFrame;simp only[f];obtain⟨l,p,r,o,t,i,q,g,j,k,n,c,m⟩:=ht;refine agl (agQ i j k.1 (agl (agQ n c m ?_)));rw[ago b];exact agp h
def qc   (ht:Trc s.heap e C dx fl (some T))(h:∀j,(∀b o,s.heap.get? b=some o->b≠T->j.get? b=some o)->Trc j e C dx (fr.elim .none λf=>rawInt f) (some T)->Q () {s with heap:=j}):wpAny M A (setFlight (.ref e) fr) Q E s:=by obtain⟨g,q,t,w,x,l,r,i,m,n,p,d,v⟩:=ht;have c:=(aho.mp v).1;have a:∀b,b≠T->(s.heap.update T (Obj.mapFields (·.setIfInBounds 3 (fr.elim Value.none λf=>rawInt f)))).get? b=s.heap.get? b:=λb k=>ahG _ _ (agG k);exact agl (agQ l m n.1 (air p d c (h _ (λb o k u=>(a b u).trans k) ⟨g,q,t,_,_,(a e (agG g)).trans l,r,i,m,n,ahJ _ p (aiE (ahZ d _)),ahZ d _,by simp[c]⟩)))
end
def eV{P w H h a o}(x:bS P w H h a o):∃ob,h.get? a=some ob:=by cases o with|lst xs=>obtain⟨_,_,_,_,e⟩:=x;exact⟨_,e⟩|tup xs=>obtain⟨_,_,_,o,e,_⟩:=x;exact⟨_,e⟩|dK kvs|dT kvs=>obtain⟨_,_,_,_,o,_,_,e,_⟩:=x;exact⟨_,e⟩|set S n=>obtain⟨o,_,_,_,e,_⟩:=x;exact⟨_,e⟩|ins C dx fs=>obtain⟨_,_,_,e,_⟩:=x;exact⟨_,e⟩|own y=>exact x|xd fs=>obtain⟨_,⟨_,_,_,e,_⟩,_⟩:=x;exact⟨_,e⟩|rng lo hi=>obtain⟨_,_,_,e⟩:=x;exact⟨_,e⟩|frz ob u=>obtain⟨e,_⟩:=x;exact⟨_,e⟩|tbl ps|met f y=>exact⟨_,x⟩|tab ps=>rcases x with e|⟨_,_,_,_,_,e,_⟩<;>exact⟨_,e⟩|ext φ=>obtain⟨_,e,_⟩:=x;exact e
def FpX(X:Cx)(pins:List (Addr×Obj))(H:Hp)(b:Addr):Prop:=H b=none/\b≠X.env.locals/\b∉X.fs/\(b∈X.ex\/X.s₀.heap.get? b=none)/\(∀x c,X.env.cells.lookup x=some c->c≠b)/\∀p∈X.pn++pins,p.1≠b
structure Thr(X:Cx)(pins:List (Addr×Obj))(σ:St)(H:Hp)(s:Shared)(e C:Addr)(dx:Option Addr)(fl:Value)(T:Option Addr):Prop where
 inv:Inv X pins σ H s
 trc:Trc s.heap e C dx fl T
 fe:FpX X pins H e
 fT:∀t,T=some t->FpX X pins H t
section
variable{X:Cx}{pins:List (Addr×Obj)}{σ:St}{H:Hp}{s:Shared}{e C:Addr}{dx:Option Addr}{fl:Value}{T:Option Addr}
def Inv.fpX{H'}(I:Inv X pins σ H s){b}(d:s.heap.get? b=none)(h:H' b=none):FpX X pins H' b:=by
 refine⟨h,λz=>?_,λz=>?_,?_,λx c i z=>?_,λp j z=>?_⟩;.obtain⟨m,⟨o,k,l,a,_⟩,_⟩:=I.loc;rw[<-z,d]at a;cases a
 .obtain⟨_,o,a,_⟩:=I.jF.mem z;rw[d]at a;cases a
 .by_cases g:b∈X.ex;.exact .inl g
  .refine .inr ?_;cases q:X.s₀.heap.get? b with|none=>rfl|some o=>obtain⟨n,f⟩:=I.base.there b o q g;rw[d]at f;cases f
 .obtain⟨v,o,a,_⟩:=I.cell x c i;rw[z,d]at a;cases a
 .have:=(I.pin p j).1;rw[z,d]at this;cases this
def Inv.acK(I:Inv X pins σ H s){ch:List Addr}{h'}(d:∀b∈ch,FpX X pins H b)(k:∀b o,s.heap.get? b=some o->b∉ch->b∉frs X.stack->h'.get? b=some o)(f:∀b o,s.heap.get? b=some o->b∉ch->b∈frs X.stack->∃h,h'.get? b=some {o with slots:=h}):Inv X pins σ H {s with heap:=h'}:=by
 have any:=λb o q a=>by
  by_cases g:b∈frs X.stack;.exact f b o q a g
  .exact⟨o.slots,k b o q a g⟩
 have trk:∀b u,H b=some u->b∉ch/\b∉frs X.stack:=λb u q=>⟨(λz=>by rw[(d b z).1]at q;cases q),λz=>by rw[I.ig b z]at q;cases q⟩;refine I.jU (λb g=>⟨(d b g).2.2.2.1,(d b g).2.1,(d b g).2.2.2.2.1,(d b g).2.2.2.2.2⟩) (λb o j i a q _=>k b o q a ((λb j i z=>(ags.mp (I.oo b z)).elim j i) b j i)) (λb o _ _ a q _=>any b o q a) (λ_ _ _ _ n=>n) (λb o a q=>let⟨h,z⟩:=any b o q a;⟨_,z⟩) (λ_ _ q=>q) (λ_ _ _ q=>q) (λb ps q=>⟨#[],by rw[q];simp⟩) (λm w=>?_) (λb u q=>?_) I.bare;.refine uR w λo l p x r=>?_;obtain⟨h,t⟩:=any _ o x λz=>(d _ z).2.1 rfl;exact zU _ l p t r
 .refine(I.hok b u q).jV (λc v a z=>?_) (λ_ z=>z) λ_ _ z=>z;rcases a with rfl|a;.exact k c v z (trk c u q).1 (trk c u q).2
  .exact k c v z (trk c _ a).1 (trk c _ a).2
variable{M:Model}{E:Value->Shared->Prop}{Q:Unit->Shared->Prop}
def Thr.note(t:Thr X pins σ H s e C dx fl T)(hs:X.stack=X.env::X.outer)(r:X.env.frame=some X.env.locals)(h:∀i k p,Thr X pins σ H {s with heap:=i} e C dx p (some k)->Q () {s with heap:=i}):wpAny M X.A (noteFrame (.ref e) X.env) Q E s:=by
 have I:=t.inv;have g:=I.stack;rw[hs]at g;have l:(fl==rawInt X.env.locals)=false->wpAny M X.A (noteFrame (.ref e) X.env) Q E s:=λc=>by
  refine oR (by rw[<-hs];exact I.ok.frames) g r t.trc c λi k x u j n=>h i k (rawInt X.env.locals) ?_;have f:=I.hok.fresh j;have v:∀b∈e::T.toList,FpX X pins H b:=λb a=>by
   rcases ags.mp a with rfl|a;.exact t.fe
   .exact t.fT b (by grind)
  have d:∀b,b∉e::T.toList->b≠e/\T≠some b:=λb a=>⟨λz=>a (by rw[z];exact agD),λz=>a (by rw[z];simp)⟩;have w:=I.acK v (λb o q m a=>x b o q (d b m).1 (d b m).2 (by rw[<-hs];exact a)) λb o q _ a=>u b o q (by rw[<-hs];exact a);exact⟨w,n,t.fe,λb a=>by cases a;exact I.fpX (ag6 j) f⟩
 cases T with|none=>exact(show Thr X pins σ H s e C dx .none none->_ from λt=>by
   have c:((.none:Value)==rawInt X.env.locals)=false:=by simp[rawInt]
   refine oR (by rw[<-hs];exact I.ok.frames) g r t.trc c λi k x u j n=>h i k (rawInt X.env.locals) ?_;have f:=I.hok.fresh j;have w:=I.acK (λb a=>by rw[ag9.mp a];exact t.fe) (λb o q m a=>x b o q (λz=>m (by rw[z];exact agD)) (by intro z;cases z) (by rw[<-hs];exact a)) λb o q _ a=>u b o q (by rw[<-hs];exact a);exact⟨w,n,t.fe,λb a=>by cases a;exact I.fpX (ag6 j) f⟩) ⟨t.inv,t.trc,t.fe,t.fT⟩|some T0=>cases c:fl==rawInt X.env.locals with|false=>exact l c|true=>exact su r t.trc c (h s.heap T0 fl t)
def Thr.zw{T fr}(t:Thr X pins σ H s e C dx fl (some T))(h:∀c a,Thr X pins σ H {s with heap:=c} e C dx a (some T)->(fr=none->a=.none)->Q () {s with heap:=c}){A}:wpAny M A (setFlight (.ref e) fr) Q E s:=by exact qc t.trc λc f g=>h c _ ⟨t.inv.acK (λb i=>by rw[ag9.mp i];exact t.fT T rfl) (λb o q d _=>f b o q λz=>d (by grind)) λb o q d _=>⟨o.slots,f b o q λz=>d (by grind)⟩,g,t.fe,t.fT⟩ λz=>by grind
def Thr.tS{T}(t:Thr X pins σ H s e C dx fl (some T))(h:∀a,Thr X pins σ H {s with heap:=a} e C dx .none (some T)->Q () {s with heap:=a}){A}:wpAny M A (setFlight (.ref e) none) Q E s:=t.zw λa b c z=>h _ (z rfl▸c)
end
def CXX(P:Program)(w:World):CXT:=λa H s E e c=>∃d C f T b,e=.ref d/\c.os=s.os/\AllBare c.gens/\Un (frs a) [] H b s.heap c.heap/\HOk P w b c.heap/\Trc c.heap d C f .none (some T)/\s.heap.get? d=none/\s.heap.get? T=none/\b d=none/\b T=none/\E (.ref C) f b
section
variable{X:Cx}{pins:List (Addr×Obj)}{σ:St}{H:Hp}{s s':Shared}{e:Value}{E:XK}
def Inv.thrown(I:Inv X pins σ H s)(h:CXX X.prog X.w X.stack H s E e s'):∃a C c T d,e=.ref a/\Thr X pins σ d s' a C c .none (some T)/\E (.ref C) c d:=by obtain⟨a,C,c,T,d,rfl,n,k,un,f,i,g,m,l,j,q⟩:=h;exact⟨a,C,c,T,d,rfl,⟨I.aco n un f k λb z=>absurd z (by simp),i,I.fpX g l,λt z=>by cases z;exact I.fpX m j⟩,q⟩
end
def y9{P w K mg d N g scope f h A a s H E pins σ H' s' e C dx T k}(t:Thr (gi (CXX P w) P w K mg d N g scope f h A a s H E) pins σ H' s' e C dx k T)(q:E (.ref C) dx H'):(gi (CXX P w) P w K mg d N g scope f h A a s H E).xe (.ref e) s':=by
 refine agl (t.note rfl rfl λm i _ j=>j.tS λl c=>?_);have I:=c.inv;have new:∀b,FpX (gi (CXX P w) P w K mg d N g scope f h A a s H E) pins H' b->s.heap.get? b=none:=λb z=>by
  rcases z.2.2.2.1 with z|z;.exact absurd (show b∈[]from z) (by simp)
  .exact z
 exact⟨e,C,dx,i,H',rfl,I.os,I.bare,I.base,I.hok,c.trc,new e c.fe,new i (c.fT i rfl),c.fe.1,(c.fT i rfl).1,q⟩
section
variable{X:Cx}{k:Nat}{f:Addr}{fd:FuncData}{ps:List Str}{sp:Sp}{dvs:List V}{ds:List Value}{x:Str}{p pos:Pos}{e:Expr}{es:List Expr}{t:TA}
def xl(X:Cx)(sp:Sp)(dvs:List V)(t:TA):TE:=λσ H Q=>t σ H λg d=>∃E:XK,sp (g++dvs) d Q E/\∀a s e C b T c,Thr X a σ c s e C b .none (some T)->E (.ref C) b c->X.xe (.ref e) s
def yv    (F:FnOk X.prog X.w X.K X.mg X.base (CXX X.prog X.w) k f fd ps sp)(i:Room k X.A)(n:Binds X.K fd ps ds)(j:Vals dvs ds)(v:∀a s e C b T c,Thr X a σ c s e C b .none (some T)->E (.ref C) b c->X.xe (.ref e) s)(I:Inv X a σ H s)(r:Vals vs us)(h:sp (vs++dvs) H Q E):wpAny (model X.prog X.w) X.A (call (.ref f) us) (EP X a σ Q) X.xe s:=by
 have g:=r.append j;have o:(us++ds).length=ps.length:=by rw[<-g.length];exact F.len _ _ _ _ h
 refine ah6 (ahT (F.run _ _ s H _ _ _ Q E i trivial I.ac9 (n s us I.kIn o) g h) λr m d=>?_);cases r with|error e=>obtain⟨l,C,b,T,c,rfl,t,q⟩:=I.thrown d;exact v _ m l C b T c t q|ok fl=>cases fl with|ret u=>exact I.after d|next|brk|cont=>exact False.elim d
def vL(F:FnOk X.prog X.w X.K X.mg X.base (CXX X.prog X.w) k f fd ps sp)(g:Room k X.A)(n:Gl X x)(u:X.mg x=some (.ref f))(o:W.keepIn X.K (.ref f)=true)(m:Binds X.K fd ps ds)(l:Vals dvs ds)(i:PA X (e::es) t)(b:Dbg x:=by decide)(j:SE X e es:=by rfl)(a:BT X pos es:=by rfl):PE X (.Call (.Name x p) (e::es) [] pos) (xl X sp dvs t):=by intro c s σ H Q I h;exact ahY (gc I n u (W.callWith_K I.ok.mod.kin o (thn (i _ _ s σ H _ I h) λA w⟨z,y,d,r,E,q,v⟩=>⟨d.kIn,yv F g m l v d r q⟩) j a) b)
end
section
variable{X:Cx}{t:TA}{x:Str}{C:Addr}{np cpos pos:Pos}{e:Expr}{es:List Expr}
noncomputable abbrev gF:List Value:=[.type "ValueError",.type "Exception",.type "BaseException",.type "object"]
def aaG(X:Cx)(C:Addr)(t:TA):TS:=λ_ σ H=>t σ H λc b=>c.length<=sizeLine/\∀a s e,Thr X a σ b s e C none .none none->X.xe (.ref e) s
def pE(K:W.Frag)(C:Addr)(r:Option Value):Prop:=∃c b g j bs h l sub i a dd d n m k f,K.lookup C=some (excClassObj g j C b bs c h l sub i a dd d n m k f "ValueError.__new__")/\(W.tailIn K gF c&&W.nsOkIn K b&&W.nsIn K b "__init__"==some r)=true
def pE.mk{K C r bm ns nm b bs a sn sub ab col dd k0 k1 k2 k3 k5}(h:K.lookup C=some (excClassObj nm b C ns bs bm a sn sub ab col dd k0 k1 k2 k3 k5 "ValueError.__new__"))(q:(W.tailIn K gF bm&&W.nsOkIn K ns&&W.nsIn K ns "__init__"==some r)=true):pE K C r:=⟨_,_,_,_,_,_,_,_,_,_,_,_,_,_,_,_,h,q⟩
def pE.out{K:W.Frag}{h:Heap}{r}{P:Prop}(X:K.In h)(q:pE K C r)(k:∀c b g l bs i n sub j a dd d p o m f,h.get? C=some (excClassObj g l C b bs c i n sub j a dd d p o m f "ValueError.__new__")->W.nsOkIn K b=true->W.nsIn K b "__init__"=some r->OwnTail h gF c->P):P:=by obtain⟨c,b,g,l,bs,i,n,sub,j,a,dd,d,p,o,m,f,s,q⟩:=q;simp only[agE,ah0]at q;exact k _ _ _ _ _ _ _ _ _ _ _ _ _ _ _ _ (X _ _ s) q.1.2 q.2 (W.tail_of_in X q.1.1)
def acm{K:W.Frag}{h:Heap}{mg:Str->Option Value}(X:K.In h)(e:mg x=some (.ref C))(q:pE K C none):OwnCls x C gF "ValueError.__new__" mg h:=q.out X λi k j m bs l o sub s b dd d p r n f g a c t=>⟨e,i,k,j,m,bs,l,o,sub,s,b,dd,d,p,r,n,f,_,g,.of_isNs (W.isNs_of_in X a),W.nsMap_none_of_in X a c,t⟩
def oH(E:X.calm=true)(p:Gl X x)(m:X.mg x=some (.ref C))(q:pE X.K C none)(y:PA X (e::es) t)(n:Dbg x:=by decide)(i:SE X e es:=by rfl)(a:BT X cpos es:=by rfl):PS X (.Raise (some (.Call (.Name x np) (e::es) [] cpos)) none pos) (aaG X C t):=by
 intro b s σ H D I h;obtain⟨O,N,nm,G,bs,hdct,sn,sub,ab,col,dd,k0,k1,k2,k3,k5,mN,K,v,g,T⟩:=(acm (x:=x) I.mod.kin m q).obj;refine wpAny_Raise_call_subT (C:=C) (nm:=nm) (q:=G) (N:=N) (bs:=bs) (bm:=O) (hdct:=hdct) (sn:=sn) (sub:=sub) (ab:=ab) (col:=col) (dd:=dd) (k0:=k0) (k1:=k1) (k2:=k2) (k3:=k3) (k5:=k5) ahO (mN:=mN) (T.hasType ahO.hasBase) (I.ok.hd E) (by rw[i];show(false||(backTo cpos _).any (·.1))=false;rw[a];rfl) g (gc I p m ⟨rfl,?_⟩ n);have k:=y cpos b s σ H _ I h;rw[i]at k⊢;refine aiF (thn k λS A⟨U,j,c,B,M,w⟩=>⟨rfl,by rw[<-B.length];exact M,c.bk _ _ K,v.keeps c.bk,T.keeps c.bk,λP d f=>?_⟩);refine gL f.there λY J Q R=>?_;have r:j d=none:=by cases z:j d with|none=>rfl|some u=>obtain⟨o,l⟩:=eV (c.hok d u z);rw[f.new]at l;cases l
 refine w b _ d ⟨c.kept (t':=A.toks) f.keeps,acE _ _ J rfl rfl rfl rfl rfl,c.fpX f.new r,λt z=>by cases z⟩
end
abbrev Cx.sui(X:Cx)(e:Addr):Cx:={X with A:=X.A.mark (some (.ref e)),calm:=false,xe:=λ_ _=>False}
def Cx.Ok.gG{X:Cx}{E a}(ok:(X.tri E a).Ok):X.Ok:=⟨ok.mod,ok.kind,ok.glob,ok.blt,ok.above,ok.inj,ok.has,ok.cab,ok.hd,ok.frames,ok.stk,ok.exf,ok.bs,ok.bsz,ok.noex,ok.exfs,ok.jF,ok.frf⟩
theorem Cx.Ok.sui{X:Cx}(ok:X.Ok)(e):(X.sui e).Ok:=⟨ok.mod,ok.kind,ok.glob,ok.blt,ok.above,ok.inj,ok.has,ok.cab,λz=>by grind,ok.frames,ok.stk,ok.exf,ok.bs,ok.bsz,ok.noex,ok.exfs,ok.jF,ok.frf⟩
section
variable{X:Cx}{pins pins':List (Addr×Obj)}{σ:St}{H:Hp}{s:Shared}{E:Value->Shared->Prop}
theorem Inv.gG(I:Inv (X.tri E (X.pn++pins)) pins' σ H s):Inv X pins σ H s:=⟨I.ok.gG,I.os,I.bare,I.base,I.loc,I.cell,I.free,I.freeC,λp a=>I.pin p (ag0 _ a),I.hok,I.len⟩
theorem Inv.sui(I:Inv X pins σ H s)(e):Inv (X.sui e) pins σ H s:=⟨I.ok.sui e,I.os,I.bare,I.base,I.loc,I.cell,I.free,I.freeC,I.pin,I.hok,I.len⟩
def Inv.back(I:Inv X pins σ H s){e}{a:St}{H' s'}(J:Inv (X.sui e) pins a H' s'):Inv X pins a H' s':=⟨I.ok,J.os,J.bare,J.base,J.loc,J.cell,J.free,J.freeC,J.pin,J.hok,J.len⟩
def FpX.gG{b}(h:FpX (X.tri E (X.pn++pins)) pins' H b):FpX X pins H b:=⟨h.1,h.2.1,h.2.2.1,h.2.2.2.1,h.2.2.2.2.1,λp a=>h.2.2.2.2.2 p (ag0 _ a)⟩
theorem Thr.gG{e C dx a T}(t:Thr (X.tri E (X.pn++pins)) pins' σ H s e C dx a T):Thr X pins σ H s e C dx a T:=⟨t.inv.gG,t.trc,t.fe.gG,λb c=>(t.fT b c).gG⟩
theorem SP.gG{D f s'}(h:SP (X.tri E (X.pn++pins)) pins' D f s'):SP X pins D f s':=by cases f with|next|brk|cont=>obtain⟨b,a,I,q⟩:=h;exact⟨_,a,I.gG,q⟩|ret u=>refine uQ h λv b a I r q=>?_;exact aai v _ a I.gG r q
end
section
variable{X:Cx}{pins:List (Addr×Obj)}{σ:St}{H:Hp}{s:Shared}{e Ce C:Addr}{dx:Option Addr}{fl:Value}{T:Addr}{x n:Str}{np hpos:Pos}{b0:Stmt}{suite:List Stmt}{Q:Flow->Shared->Prop}{E:Value->Shared->Prop}
def Thr.ty(t:Thr X pins σ H s e Ce dx fl (some T)){M}:W.Looks M s.heap (typeOf (.ref e)) (.ref Ce):=by obtain⟨d,c,b,a,_,_⟩:=t.trc.there;exact a▸(W.Looks.ld b).andThen .now
def tL(t:Thr X pins σ H s e Ce dx fl (some T))(l:Gl X x)(g:X.mg x=some (.ref C))(h:W.exmOne X.K (.ref Ce) (.ref C)=some true)(k:∀a,Thr X pins σ H {s with heap:=a} e Ce dx .none (some T)->wpAny (model X.prog X.w) (X.A.mark (some (.ref e))) (storeName X.env n (.ref e)) (λ_ b=>wpAny (model X.prog X.w) (X.A.mark (some (.ref e))) (execs (b0::suite) X.env) (λf d=>wpAny (model X.prog X.w) X.A (do bindName X.env n .none;unbindBehindTheSuite X.env n hpos) (λ_ c=>Q f c) E d) (λ_ _=>False) b) (λ_ _=>False) {s with heap:=a})(j:Dbg x:=by decide):wpAny (model X.prog X.w) X.A (handleBy (.ref e) X.env [.ExceptHandler (some (.Name x np)) (some n) (b0::suite) hpos]) Q E s:=by refine wpAny_handleBy_cons (codeAny_handlers_test (gc (X:=X.sui e) (t.inv.sui e) l g ?_ j)) (by intro q;cases q);refine(W.exm_one t.inv.kIn t.ty h).here ?_;refine codeAny_handlers_suite_as (t.tS λa i=>?_);exact agN (k a i) (λ_ b q=>agN q (λ_ _ z=>z) λ_ _ z=>z.elim) λ_ _ z=>z.elim
def oV{i:Nat}(I:Inv X pins σ H s)(hN:X.N.Nodup)(hi:X.N[i]?=some n)(hl:X.env.scope.names.lookup n=some .local){Q:Unit->Shared->Prop}(h:∀S,Inv X pins (σ.set i none) H S->Q () S){A:Around}:wpAny (model X.prog X.w) A (do bindName X.env n .none;unbindBehindTheSuite X.env n hpos) Q E s:=by
 obtain⟨m,R,M⟩:=id I.loc;have D:(X.env.scope.kind==.class||X.env.scope.kind==.module&&X.env.locals !=X.env.globals)=false:=by rw[I.ok.kind];rfl
 refine wpAny_nameGoes_keeps hl R D λh' v P a=>h _ ?_;obtain⟨oL,_,_,a0,_⟩:=id R;have O:∀b o,X.s₀.heap.get? b=some o->b≠X.env.locals:=λb o e=>agz (agv (agt e) I.ok.above);refine⟨I.ok,I.os,I.bare,⟨λb o e n N w=>(a.2 b (O b o e)).trans (I.base.keep b o e n N w),λb o e n N w=>?_,I.base.free,λb o e w=>?_,I.base.tups,I.base.frzs,I.base.tbls⟩,⟨_,P,λj y v' g f Z=>?_⟩,λy c e=>?_,I.free,I.freeC,λp hp=>?_,λb ob e=>?_,by simpa using I.len⟩;.obtain⟨sl,g⟩:=I.base.slot b o e n N w;exact⟨sl,(a.2 b (O b o e)).trans g⟩
 .obtain⟨o',g⟩:=I.base.there b o e w;exact⟨o',(a.2 b (O b o e)).trans g⟩
 .have B:i≠j:=λz=>by
   subst z;by_cases U:i<σ.length;.rw[agr U]at f;cases f
   .rw[List.getElem?_eq_none (by simpa using U)]at f;cases f
  rw[agn B]at f;obtain⟨u,r,l⟩:=M j y v' g f Z;refine⟨u,r,?_⟩;have hy:y≠n:=λz=>by subst z;exact B (kb hN hi g)
  rcases l with⟨k,l⟩|⟨k,c,Y,z⟩;.exact .inl ⟨k,by show(if y=n then v else m y)=some u;rw[agq hy];exact l⟩
  .refine .inr ⟨k,c,Y,?_⟩;obtain⟨o,K,J⟩:=z;exact⟨o,(a.2 c (I.cne y c Y)).trans K,J⟩
 .obtain⟨v,o,K,J⟩:=I.cell y c e;exact⟨v,o,(a.2 c (I.cne y c e)).trans K,J⟩
 .obtain⟨e,n,t,nf,d⟩:=I.pin p hp;exact⟨(a.2 p.1 t).trans e,n,t,nf,d⟩
 .refine(I.hok b ob e).jV (λc w' G q=>(a.2 c ?_).trans q) (λ_ q=>q) λ_ _ q=>q;rintro rfl;rcases G with rfl|G;.rw[I.free]at e;cases e
  .rw[I.free]at G;cases G
def excAt(a C:Addr)(dx:Option Addr)(h:Heap):Prop:=∃b c,h.get? a=some b/\b.cls=.ref C/\b.dict=dx/\b.data=.fields c/\c[2]?=some .none
def Thr.known(t:Thr X pins σ H s e Ce dx fl (some T)):Inv X pins σ (upd H e (.ext (excAt e Ce dx))) s:=by
 have I:=t.inv;have g:=t.fe;have f:∀b u,H b=some u->b≠e:=λb u q z=>by rw[z,g.1]at q;cases q
 have:=I.jU (h':=s.heap) (H':=upd H e (.ext (excAt e Ce dx))) (g':=s.gens) (d':=s.drawn) (t':=s.toks) (ch:=[e]) (λb d=>by rw[ag9.mp d];exact⟨g.2.2.2.1,g.2.1,g.2.2.2.2.1,g.2.2.2.2.2⟩) (λb o _ _ _ q _=>q) (λb o _ _ _ q _=>⟨o.slots,q⟩) (λb o d _ n=>by rw[ai λz=>d (by rw[z];exact agD)];exact n) (λb o _ q=>⟨o,q⟩) (λb v q=>by rw[ai (f b _ q)];exact q) (λb o u q=>by rw[ai (f b _ q)];exact q) (λb ps q=>⟨#[],by rw[ai (f b _ q),q];simp⟩) (λm y=>y) (λb u q=>by
   by_cases d:b=e;.subst d;rw[aq]at q;cases q;obtain⟨l,h,i,p,A,w⟩:=t.trc.there;exact⟨⟨l,h,i,p,A,w⟩,⟨l,i⟩,λi p j k=>by obtain⟨o,h,a,r⟩:=j;exact⟨o,h,k o a,r⟩⟩
   .rw[ai d]at q;exact(I.hok b u q).jV (λ_ _ _ z=>z) (λc z=>by rw[ai (f c _ z)];exact z) λc v z=>by rw[ai (f c _ z)];exact z) I.bare;exact this
end
end L2
namespace WL
open PySem
inductive W where|non|bl(b:Bool)|int(i:Int)|str(x:Str)|ty(n:String)|tup(xs:List W)|lst(xs:List W)/-- a dict that is read alone: its keys,its values;a class of the text;an exception: its class,its fields -/|dic(ks vs:List W)|cls(c:String)|exc(c:String)(fs:List W)/-- an object that is made: its class,its fields -/|ins(c:String)(fs:List W)/-- a thing that is written,by its place alone -/|id(a:Nat)
inductive Res(α:Type)where|ok(a:α)|ex(c:W)|bad
noncomputable def Res.bind{b d}:Res b->(b->Res d)->Res d|.ok a,f=>f a|.ex c,_=>.ex c|.bad,_=>.bad
inductive Sl where|no|va(w:W)|ow(ws:List W)|od(ks vs:List W)|ob
abbrev Ws:=List Sl
abbrev EF:=Ws->Res W
abbrev TF:=Ws->Res Bool
abbrev AF:=Ws->Res (List W)
abbrev LF:=Ws->Res (List W)
abbrev GF:=W->Ws->Res Ws
inductive Out where|nx(σ:Ws)|rt(w:W)|bk(σ:Ws)|ct(σ:Ws)|ex(c:W)(σ:Ws)|bad
abbrev SF:=Ws->Out
mutual def eqv:W->W->Bool|.non,.non=>true|.bl a,.bl b=>a==b|.bl a,.int j=>(if a then 1 else 0)==j|.int i,.bl b=>i==if b then 1 else 0|.int i,.int j=>i==j|.str x,.str y=>x==y|.lst xs,.lst ys=>xR xs ys|.tup xs,.tup ys=>xR xs ys|_,_=>false def xR:List W->List W->Bool|[],[]=>true|x::xs,y::ys=>eqv x y&&xR xs ys|_,_=>false end
mutual def okD:Nat->W->Bool|_,.non=>true|_,.bl _=>true|_,.int _=>true|_,.str x=>x.cps.all (.<0x110000)|_,.ty _=>false|n,.tup xs=>e8 n xs|n,.lst xs=>e8 n xs|_,.dic _ _=>false|_,.cls _=>false|_,.exc _ _=>false|_,.ins _ _=>false|_,.id _=>false def e8:Nat->List W->Bool|0,_=>false|_+1,[]=>true|n+1,x::xs=>okD n x&&e8 (n+1) xs end
noncomputable def vq:W->W->Bool|.non,.non=>true|.non,.int _=>true|.int _,.non=>true|.non,.bl _=>true|.bl _,.non=>true|.non,.str _=>true|.str _,.non=>true|.int _,.int _=>true|.bl _,.bl _=>true|.str _,.str _=>true|.int _,.str _=>true|.str _,.int _=>true|.bl _,.str _=>true|.str _,.bl _=>true|_,_=>false
def oEq(x y:W):Res W:=if vq x y then .ok (.bl (eqv x y))else if okD 50 x&&okD 50 y then .ok (.bl (eqv x y))else .bad
def oNe(x y:W):Res W:=if vq x y then .ok (.bl !eqv x y)else if okD 50 x&&okD 50 y then .ok (.bl !eqv x y)else .bad
noncomputable def cf(x:W):List W->Bool|[]=>false|y::ys=>eqv y x||cf x ys
def oIn(x:W):W->Res W|.lst ys=>if okD 50 x&&e8 51 ys then .ok (.bl (cf x ys))else .bad|.tup ys=>if okD 50 x&&e8 51 ys then .ok (.bl (cf x ys))else .bad|_=>.bad
def iO(x:W):W->Res W|.lst ys=>if okD 50 x&&e8 51 ys then .ok (.bl !cf x ys)else .bad|.tup ys=>if okD 50 x&&e8 51 ys then .ok (.bl !cf x ys)else .bad|_=>.bad
noncomputable def lim:Nat:=1000000
def cu:W->W->Res W|.int i,.int j=>.ok (.int (i+j))|.lst xs,.lst ys=>if xs.length+ys.length<=lim then .ok (.lst (xs++ys))else .bad|.tup xs,.tup ys=>if xs.length+ys.length<=lim then .ok (.tup (xs++ys))else .bad|_,_=>.bad
noncomputable def jy:W->W->Res W|.int i,.int j=>.ok (.int (i-j))|_,_=>.bad
noncomputable def eW:W->W->Res W|.int i,.int j=>if -2^64<i/\i<2^64\/-2^64<j/\j<2^64 then .ok (.int (i*j))else .bad|_,_=>.bad
noncomputable def oDiv:W->W->Res W|.int i,.int j=>if 0<j/\j<10^100 then .ok (.int (i/j))else .bad|_,_=>.bad
noncomputable def oMod:W->W->Res W|.int i,.int j=>if 0<j then .ok (.int (i%j))else .bad|_,_=>.bad
noncomputable def si:W->Res W|.int i=>.ok (.int (-i))|_=>.bad
noncomputable def oLt:W->W->Res W|.int i,.int j=>.ok (.bl (decide (i<j)))|_,_=>.bad
noncomputable def fy:W->Bool|.non=>true|_=>false
noncomputable def isB(b:Bool):W->Bool|.bl c=>b==c|_=>false
def oIs(x:W):W->Res W|.non=>.ok (.bl (fy x))|.bl b=>.ok (.bl (isB b x))|_=>.bad
def fu(x:W):W->Res W|.non=>.ok (.bl !fy x)|.bl b=>.ok (.bl !isB b x)|_=>.bad
noncomputable def ixN(n:Nat)(i:Int):Option Nat:=if 0<=i then if i<n then some i.toNat else none else if -(n:Int)<=i then some (i+n).toNat else none
def atI{a:Type}(xs:List a)(i:Int):Option a:=(ixN xs.length i).bind λj=>xs[j]?
noncomputable def ofO{b}:Option b->Res b|some a=>.ok a|none=>.bad
@[simp]def acR{b}(a:b):ofO (some a)=.ok a:=(rfl)
noncomputable def wJ(k:Str):List W->List W->Option W|.str x::ks,v::vs=>if x==k then some v else wJ k ks vs|_,_=>none
def oIx:W->W->Res W|.lst xs,.int i=>ofO (atI xs i)|.tup xs,.int i=>ofO (atI xs i)|.dic ks vs,.str k=>ofO (wJ k ks vs)|_,_=>.bad
noncomputable def sIx(n d:Nat):Option Int->Nat|none=>d|some v=>if v<0 then(v+(n:Int)).toNat else min v.toNat n
def cut{a:Type}(xs:List a)(lo b:Option Int):List a:=(xs.drop (sIx xs.length 0 lo)).take (sIx xs.length xs.length b-sIx xs.length 0 lo)
def oSl:W->Option Int->Option Int->Res W|.lst xs,lo,hi=>.ok (.lst (cut xs lo hi))|.tup xs,lo,hi=>if sIx xs.length 0 lo=0/\sIx xs.length xs.length hi=xs.length then .bad else .ok (.tup (cut xs lo hi))|_,_,_=>.bad
noncomputable def mu:List W->Res W|[.lst xs]=>.ok (.int xs.length)|[.tup xs]=>.ok (.int xs.length)|_=>.bad
noncomputable def gC:List W->Res W|[.lst xs]=>.ok (.tup xs)|[.tup xs]=>.ok (.tup xs)|_=>.bad
noncomputable def aeR:List W->Res W|[.lst xs]=>.ok (.lst xs)|[.tup xs]=>.ok (.lst xs)|_=>.bad
noncomputable def xU:List W->Res W|[.bl b]=>.ok (.int (if b then 1 else 0))|[.int i]=>.ok (.int i)|_=>.bad
noncomputable def allB:List W->Option Bool|[]=>some true|.bl b::xs=>(allB xs).map λc=>b&&c|_=>none
def agb:List W->Res W
|[.lst xs]=>match allB xs with|some b=>.ok (.bl b)|none=>.bad
|_=>.bad
noncomputable def zd:W->String|.non=>"NoneType"|.bl _=>"bool"|.int _=>"int"|.str _=>"str"|.ty _=>"type"|.tup _=>"tuple"|.lst _=>"list"|.dic _ _=>"dict"|.cls _=>"type"|.exc _ _=>"exception"|.ins _ _=>"object"|.id _=>"object"
def isK(w:W)(t:String):Option Bool:=match w with|.ty _=>none|.dic _ _=>none|.cls _=>none|.exc _ _=>none|.ins _ _=>none|.id _=>none|_=>if["int","bool","str","list","tuple"].contains t then some (zd w==t||zd w=="bool"&&t=="int")else none
def bB:List W->Res W
|[x,.ty t]=>match isK x t with|some b=>.ok (.bl b)|none=>.bad
|_=>.bad
noncomputable def ak(i:Nat):EF:=λσ=>match σ[i]? with|some (.va w)=>.ok w|_=>.bad
noncomputable def eC(w:W):EF:=λ_=>.ok w
def eOp(r:W->W->Res W)(a b:EF):EF:=λσ=>(a σ).bind λx=>(b σ).bind λy=>r x y
def eUn(r:W->Res W)(a:EF):EF:=λσ=>(a σ).bind r
def afJ(r d:W->W->Res W)(a b c:EF):EF:=λσ=>(a σ).bind λx=>(b σ).bind λy=>(r x y).bind λz=>match z with|.bl true=>(c σ).bind λw=>d y w|.bl false=>.ok (.bl false)|_=>.bad
noncomputable def toB:W->Res Bool|.bl b=>.ok b|_=>.bad
def tB(e:EF):TF:=λσ=>(e σ).bind toB
def yh(a b:TF):TF:=λσ=>(a σ).bind λx=>match x with|true=>b σ|false=>.ok false
def tOr(a b:TF):TF:=λσ=>(a σ).bind λx=>match x with|true=>.ok true|false=>b σ
def vj(a:TF):TF:=λσ=>(a σ).bind λx=>.ok !x
def ade(a b:EF):EF:=λσ=>(a σ).bind λx=>match x with|.bl true=>b σ|.bl false=>.ok (.bl false)|_=>.bad
def afG(a:EF):EF:=λσ=>(a σ).bind λx=>match x with|.bl b=>.ok (.bl !b)|_=>.bad
def eIf(t:TF)(a b:EF):EF:=λσ=>(t σ).bind λx=>match x with|true=>a σ|false=>b σ
noncomputable def ax:AF:=λ_=>.ok []
def ae(e:EF)(a:AF):AF:=λσ=>(e σ).bind λx=>(a σ).bind λb=>.ok (x::b)
def eF(a:AF):EF:=λσ=>(a σ).bind λb=>if b.length<=lim then .ok (.tup b)else .bad
def fE(a:AF):EF:=λσ=>(a σ).bind λb=>if b.length<=lim then .ok (.lst b)else .bad
def aG(f:List W->Res W)(a:AF):EF:=λσ=>(a σ).bind λws=>match f ws with|.ok w=>.ok w|_=>.bad
def eBi(f:List W->Res W)(a:AF):EF:=λσ=>(a σ).bind f
def afH(T:String)(r:W->List W->Res W)(o:EF)(a:AF):EF:=λσ=>(o σ).bind λx=>if zd x==T then(a σ).bind λws=>r x ws else .bad
noncomputable def idx(x:W):Nat->List W->Option Nat|_,[]=>none|k,y::ys=>if eqv y x then some k else idx x (k+1) ys
noncomputable def pNo:Ws->Res (Option Int):=λ_=>.ok none
def eB(e:EF):Ws->Res (Option Int):=λσ=>(e σ).bind λx=>match x with|.int i=>.ok (some i)|_=>.bad
def eSl(e:EF)(lo a:Ws->Res (Option Int)):EF:=λσ=>(e σ).bind λx=>(lo σ).bind λl=>(a σ).bind λh=>oSl x l h
noncomputable def itemsOf:W->Res (List W)|.lst xs=>.ok xs|.tup xs=>.ok xs|_=>.bad
@[simp]def zi(xs):itemsOf (.lst xs)=.ok xs:=(rfl)
def zo(e:EF):LF:=λσ=>(e σ).bind itemsOf
noncomputable def rng(lo:Int)(n:Nat):List W:=(List.range n).map λi=>.int (lo+(i:Nat))
def dj(e:EF):LF:=λσ=>(e σ).bind λx=>match x with|.int j=>if -2^62<=j/\j<2^62 then .ok (rng 0 j.toNat)else .bad|_=>.bad
def ni(e a:EF):LF:=λσ=>(e σ).bind λx=>(a σ).bind λy=>match x,y with|.int i,.int j=>if -2^62<=i/\i<2^62/\-2^62<=j/\j<2^62 then .ok (rng i (j-i).toNat)else .bad|_,_=>.bad
noncomputable def i1:Nat->List W->List W|_,[]=>[]|k,x::xs=>.tup [.int k,x]::i1 (k+1) xs
def zq(e:EF):LF:=λσ=>(e σ).bind λx=>match x with|.tup xs=>.ok (i1 0 xs)|.lst xs=>.ok (i1 0 xs)|_=>.bad
noncomputable def aA(i:Nat):GF:=λw σ=>.ok (σ.set i (.va w))
abbrev GsF:=List W->Ws->Res Ws
noncomputable def mr:GsF:=λws σ=>match ws with|[]=>.ok σ|_=>.bad
noncomputable def bA(g:GF)(a:GsF):GsF:=λws σ=>match ws with|w::r=>(match g w σ with|.ok σ'=>(match a r σ' with|.ok σ2=>.ok σ2|_=>.bad)|_=>.bad)|[]=>.bad
noncomputable def mq(a:GsF):GF:=λw σ=>match w with|.tup ws=>a ws σ|_=>.bad
def agj(i:Nat)(e:EF):GF:=λw σ=>match σ[i]? with
|some (.ow ws)=>match e σ with|.ok (.int k)=>(match ixN ws.length k with|some j=>.ok (σ.set i (.ow (ws.set j w)))|none=>.bad)|_=>.bad
|_=>.bad
noncomputable def cD(g:GF)(t:TF)(e:EF)(σ:Ws):List W->Res (List W)|[]=>.ok []|x::xs=>(g x σ).bind λa=>(t a).bind λb=>match b with|true=>(e a).bind λy=>(cD g t e σ xs).bind λc=>.ok (y::c)|false=>cD g t e σ xs
noncomputable def kQ:TF:=λ_=>.ok true
def v9(k:Nat)(it:LF)(g:GF)(t:TF)(e:EF):LF:=λσ=>(it σ).bind λa=>if a.length<=lim then match cD g t e (List.replicate k .no++σ) a with|.ok ys=>.ok ys|_=>.bad else .bad
def gh(k:Nat)(it:LF)(g:GF)(t:TF)(e:EF):EF:=λσ=>(v9 k it g t e σ).bind λa=>.ok (.lst a)
noncomputable def frz(i:Nat)(σ:Ws):Ws:=match σ[i]? with|some (.ow ws)=>σ.set i (.va (.lst ws))|some (.od ks vs)=>σ.set i (.va (.dic ks vs))|_=>σ
mutual def plain:W->Bool|.tup xs=>fq xs|.lst _=>false|.dic _ _=>false|.exc _ _=>false|.ins _ _=>false|.id _=>false|_=>true def fq:List W->Bool|[]=>true|x::xs=>plain x&&fq xs end
def aac(i:Nat)(e:EF):EF:=λσ=>match e (frz i σ)with|.ok w=>if plain w then .ok w else .bad|_=>.bad
def zW(i:Nat)(t:TF):TF:=λσ=>match t (frz i σ)with|.ok b=>.ok b|_=>.bad
noncomputable def sNx:SF:=λσ=>.nx σ
noncomputable def aN(a b:SF):SF:=λσ=>match a σ with|.nx σ'=>b σ'|o=>o
noncomputable def ofR{b}(σ:Ws)(r:Res b)(f:b->Out):Out:=match r with|.ok a=>f a|.ex c=>.ex c σ|.bad=>.bad
def bj(i:Nat)(e:EF):SF:=λσ=>ofR σ (e σ) λw=>.nx (σ.set i (.va w))
def mP(i:Nat)(l:LF):SF:=λσ=>ofR σ (l σ) λws=>.nx (σ.set i (.ow ws))
def z9(a:AF):LF:=λσ=>(a σ).bind λb=>if b.length<=lim then .ok b else .bad
def xt(e:EF)(g:GF):SF:=λσ=>ofR σ (e σ) λw=>ofR σ (g w σ) λa=>.nx a
def sIf(t:TF)(a b:SF):SF:=λσ=>ofR σ (t σ) λx=>match x with|true=>a σ|false=>b σ
def cB(e:EF):SF:=λσ=>ofR σ (e σ) λw=>.rt w
def aaT(i:Nat)(e:EF):SF:=λσ=>match σ[i]? with|some (.ow ws)=>ofR σ (e σ) λw=>if ws.length<lim then .nx (σ.set i (.ow (ws++[w])))else .bad|_=>.bad
def uO(i:Nat)(t:SF):SF:=λσ=>t (frz i σ)
noncomputable def forL(g:GF)(b:SF):List W->Ws->Out|[],σ=>.nx σ|x::xs,σ=>ofR σ (g x σ) λa=>match b a with|.nx σ2=>forL g b xs σ2|.ct σ2=>forL g b xs σ2|.bk σ2=>.nx σ2|o=>o
def lA(it:LF)(g:GF)(b:SF):SF:=λσ=>ofR σ (it σ) λa=>forL g b a σ
noncomputable def bZ(c:TF)(b:SF):Nat->Ws->Out|0,_=>.bad|n+1,σ=>ofR σ (c σ) λx=>match x with
 |true=>match b σ with|.nx σ2=>bZ c b n σ2|.ct σ2=>bZ c b n σ2|.bk σ2=>.nx σ2|o=>o
 |false=>.nx σ
def jv(n:Ws->Nat)(c:TF)(b:SF):SF:=λσ=>bZ c b (n σ) σ
noncomputable def gX:List String:=["FloorError","NotEven","NoCall","NoName","NoProgram","TooMany","NoPairs","NoRow","Blind","Out","Meet","Broken"]
noncomputable def pR(nm d:String):Bool:=nm==d||d=="FloorError"
noncomputable def fieldsOf(nm:String):List Str:=if nm=="Blind"then["who"]else if nm=="Out"then["who"]else if nm=="Meet"then["one","other"]else if nm=="Broken"then["at","why"]else[]
def gk(d:String):W->Bool|.exc nm _=>pR nm d|_=>false
def oA(nm:String)(a:AF):SF:=λσ=>ofR σ (a σ) λws=>if ws.length<=100 then .ex (.exc nm []) σ else .bad
def jG(f:List W->Res W)(a:AF):EF:=λσ=>(a σ).bind f
def hOut(d:String)(h:SF)(c:W)(σ:Ws):Out:=if gk d c then match h σ with|.ex _ _=>.bad|o=>o else .bad
def iX(d:String)(i:Nat)(h:SF)(c:W)(σ:Ws):Out:=if gk d c then match h (σ.set i (.va c))with|.nx σ2=>.nx (σ2.set i .no)|.rt w=>.rt w|_=>.bad else .bad
def oz(b:SF)(d:String)(i:Nat)(h:SF):SF:=λσ=>match b σ with|.ex c σ'=>iX d i h c σ'|o=>o
noncomputable def aez(c:String):List Str:=if c=="Book"then["calls"]else if c=="Search"then["goal","most","rows","seen"]else if c=="PairedFloor"then["floor","pairs","middles"]else[]
noncomputable def run(n:Nat)(t:SF)(ws:List W):Res W:=match t (ws.map .va++List.replicate (n-ws.length) .no)with|.rt w=>.ok w|.nx _=>.ok .non|.ex c _=>.ex c|_=>.bad
end WL
namespace L2
open PySem PySem.Spec PyProof.Rows
def aw.rd{H H'}(e:aw H H'){a u}(q:Rd H a u):Rd H' a u:=q.imp (e _ _) λ⟨o,z⟩=>⟨o,e _ _ z⟩
end L2
namespace WS
open PySem PySem.Spec PyProof.Rows L2
open WL(Res Sl Ws EF TF AF LF GF GsF SF Out)
abbrev VW:=WL.W
def ExcAt(K:W.Frag)(nm:String)(C:Addr):Prop:=nm∈WL.gX/\W.nsIn K mainGlobals (Str.ofString nm)=some (some (.ref C))
mutual def RW(K:W.Frag)(H:Hp):VW->V->Prop|.non,v=>v=.non|.bl b,v=>v=.bl b|.int i,v=>v=.int i|.str x,v=>v=.str x|.ty n,v=>v=.ty n|.tup ws,v=>∃a vs,v=.ref a/\SqT K H a vs/\RWs K H ws vs|.lst ws,v=>∃a vs,v=.ref a/\SqL K H a vs/\RWs K H ws vs|.dic ks vs,v=>∃a kvs,v=.ref a/\Rd H a (.dK kvs)/\RWs K H ks (kvs.map λp=>kV p.1)/\RWs K H vs (kvs.map λp=>p.2)|.cls d,v=>∃a,v=.ref a/\ExcAt K d a|.exc nm fs,v=>∃a C dx,v=.ref a/\H a=some (.ext (excAt a C dx))/\ExcAt K nm C/\∃fvs:List (Str×V),fvs.map (·.1)=WL.fieldsOf nm/\RWs K H fs (fvs.map (·.2))/\(fvs=[]/\dx=none\/∃d,dx=some d/\H d=some (.xd fvs))|.ins c fs,v=>∃a C dx,∃fvs:List (Str×V),v=.ref a/\H a=some (.ins C dx fvs)/\W.nsIn K mainGlobals (Str.ofString c)=some (some (.ref C))/\fvs.map (·.1)=WL.aez c/\fvs≠[]/\RWs K H fs (fvs.map (·.2))|.id a,v=>v=.ref a def RWs(K:W.Frag)(H:Hp):List VW->List V->Prop|[],vs=>vs=[]|w::ws,vs=>∃v r,vs=v::r/\RW K H w v/\RWs K H ws r end
section
variable{K:W.Frag}{H H':Hp}
mutual theorem RW.via(ht:∀a xs,SqT K H a xs->SqT K H' a xs)(hl:∀a xs,SqL K H a xs->SqL K H' a xs)(hd:∀a kvs,Rd H a (.dK kvs)->Rd H' a (.dK kvs))(he:∀a φ,H a=some (.ext φ)->H' a=some (.ext φ))(hx:∀a fs,H a=some (.xd fs)->H' a=some (.xd fs))(hi:∀a C dx fs,fs≠[]->H a=some (.ins C dx fs)->H' a=some (.ins C dx fs)):∀(w:VW)(v:V),RW K H w v->RW K H' w v|.non,_,h=>by simpa only[RW]using h|.bl _,_,h=>by simpa only[RW]using h|.int _,_,h=>by simpa only[RW]using h|.str _,_,h=>by simpa only[RW]using h|.ty _,_,h=>by simpa only[RW]using h|.tup ws,_,h=>by obtain⟨a,vs,e,q,r⟩:=h;exact⟨a,vs,e,ht a vs q,RWs.via ht hl hd he hx hi ws vs r⟩|.lst ws,_,h=>by simp only[RW]at h⊢;obtain⟨a,vs,e,q,r⟩:=h;exact⟨a,vs,e,hl a vs q,RWs.via ht hl hd he hx hi ws vs r⟩|.dic ks vs,_,h=>by simp only[RW]at h⊢;obtain⟨a,kvs,e,q,r1,r2⟩:=h;exact⟨a,kvs,e,hd a kvs q,RWs.via ht hl hd he hx hi ks _ r1,RWs.via ht hl hd he hx hi vs _ r2⟩|.cls _,_,h=>by simpa only[RW]using h|.id _,_,h=>by simpa only[RW]using h|.exc nm fs,_,h=>by simp only[RW]at h⊢;obtain⟨a,C,dx,e,q,c,fvs,f1,f2,f3⟩:=h;exact⟨a,C,dx,e,he _ _ q,c,fvs,f1,RWs.via ht hl hd he hx hi fs _ f2,f3.imp (λz=>z) λ⟨d,z1,z2⟩=>⟨d,z1,hx _ _ z2⟩⟩|.ins c fs,_,h=>by simp only[RW]at h⊢;obtain⟨a,C,dx,fvs,e,q,c1,c2,c3,r⟩:=h;exact⟨a,C,dx,fvs,e,hi _ _ _ _ c3 q,c1,c2,c3,RWs.via ht hl hd he hx hi fs _ r⟩theorem RWs.via(ht:∀a xs,SqT K H a xs->SqT K H' a xs)(hl:∀a xs,SqL K H a xs->SqL K H' a xs)(hd:∀a kvs,Rd H a (.dK kvs)->Rd H' a (.dK kvs))(he:∀a φ,H a=some (.ext φ)->H' a=some (.ext φ))(hx:∀a fs,H a=some (.xd fs)->H' a=some (.xd fs))(hi:∀a C dx fs,fs≠[]->H a=some (.ins C dx fs)->H' a=some (.ins C dx fs)):∀(ws:List VW)(vs:List V),RWs K H ws vs->RWs K H' ws vs|[],_,h=>by simpa only[RWs]using h|w::ws,_,h=>by simp only[RWs]at h⊢;obtain⟨v,r,e,q,t⟩:=h;exact⟨v,r,e,RW.via ht hl hd he hx hi w v q,RWs.via ht hl hd he hx hi ws r t⟩end
def RW.keep(e:aw H H'){w v}(h:RW K H w v):RW K H' w v:=RW.via (λ_ _ q=>e.tup q) (λ_ _ q=>e.seq q) (λ_ _ q=>e.rd q) (λ_ _ q=>e _ _ q) (λ_ _ q=>e _ _ q) (λ_ _ _ _ _ q=>e _ _ q) w v h
def RWs.keep(e:aw H H'){ws vs}(h:RWs K H ws vs):RWs K H' ws vs:=RWs.via (λ_ _ q=>e.tup q) (λ_ _ q=>e.seq q) (λ_ _ q=>e.rd q) (λ_ _ q=>e _ _ q) (λ_ _ q=>e _ _ q) (λ_ _ _ _ _ q=>e _ _ q) _ _ h
mutual theorem RW.less(ht:∀a xs,SqT K H a xs->SqT K H' a xs):∀(w:VW)(v:V),WL.plain w=true->RW K H w v->RW K H' w v|.non,_,_,h=>by simpa only[RW]using h|.bl _,_,_,h=>by simpa only[RW]using h|.int _,_,_,h=>by simpa only[RW]using h|.str _,_,_,h=>by simpa only[RW]using h|.ty _,_,_,h=>by simpa only[RW]using h|.tup ws,_,p,h=>by obtain⟨a,vs,e,q,r⟩:=h;exact⟨a,vs,e,ht a vs q,RWs.less ht ws vs (by assumption) r⟩|.lst ws,_,p,_=>by cases p|.dic _ _,_,p,_=>by cases p|.cls _,_,_,h=>by simpa only[RW]using h|.id _,_,_,h=>by simpa only[RW]using h|.exc _ _,_,p,_=>by cases p|.ins _ _,_,p,_=>by cases p theorem RWs.less(ht:∀a xs,SqT K H a xs->SqT K H' a xs):∀(ws:List VW)(vs:List V),WL.fq ws=true->RWs K H ws vs->RWs K H' ws vs|[],_,_,h=>by simpa only[RWs]using h|w::ws,_,p,h=>by simp only[RWs]at h⊢;have p:=ahj.mp p;obtain⟨v,r,e,q,t⟩:=h;exact⟨v,r,e,RW.less ht w v p.1 q,RWs.less ht ws r p.2 t⟩end
theorem RWs.length:∀{ws vs},RWs K H ws vs->ws.length=vs.length|[],_,h=>by subst h;rfl|w::ws,_,h=>by obtain⟨v,r,rfl,_,t⟩:=h;simp [RWs.length t]
theorem RWs.get:∀{ws:List VW}{vs:List V}{i:Nat}{w:VW},RWs K H ws vs->ws[i]?=some w->∃v,vs[i]?=some v/\RW K H w v|[],_,_,_,_,e=>by simp at e|x::ws,_,0,w,h,e=>by simp only[RWs]at h;obtain⟨v,r,rfl,q,_⟩:=h;simp at e;subst e;exact⟨v,rfl,q⟩|x::ws,_,i+1,w,h,e=>by simp only[RWs]at h;obtain⟨v,r,rfl,_,t⟩:=h;obtain⟨u,a,b⟩:=RWs.get t (by simpa using e);exact⟨u,by simpa using a,b⟩
theorem RWs.app:∀{ws a vs b},RWs K H ws vs->RWs K H a b->RWs K H (ws++a) (vs++b)|[],_,_,_,h,h'=>by subst h;exact h'|w::ws,_,_,_,h,h'=>by obtain⟨v,r,rfl,q,t⟩:=h;exact⟨v,_,rfl,q,RWs.app t h'⟩
def RWs.one{w v}(h:RW K H w v):RWs K H [w] [v]:=by exact⟨v,[],rfl,h,rfl⟩
def RWs.cons{w v ws vs}(h:RW K H w v)(t:RWs K H ws vs):RWs K H (w::ws) (v::vs):=by exact⟨v,vs,rfl,h,t⟩
theorem RWs.drop:∀{ws vs}n,RWs K H ws vs->RWs K H (ws.drop n) (vs.drop n)|_,_,0,h=>by grind|[],_,n+1,h=>by subst h;simp[RWs]|w::ws,_,n+1,h=>by obtain⟨v,r,rfl,_,t⟩:=h;simpa using RWs.drop n t
theorem RWs.take:∀{ws vs}n,RWs K H ws vs->RWs K H (ws.take n) (vs.take n)|_,_,0,h=>rfl|[],_,n+1,h=>by subst h;simp[RWs]|w::ws,_,n+1,h=>by obtain⟨v,r,rfl,q,t⟩:=h;exact⟨v,_,rfl,q,RWs.take n t⟩
theorem RWs.set{w:VW}{v:V}(hw:RW K H w v):∀{ws:List VW}{vs:List V}(n:Nat),RWs K H ws vs->RWs K H (ws.set n w) (vs.set n v)|[],_,n,h=>by simp only[RWs]at h;subst h;simp[RWs]|x::ws,_,0,h=>by simp only[RWs]at h;obtain⟨u,r,rfl,q,t⟩:=h;simp only[aiO,RWs];exact⟨v,r,rfl,hw,t⟩|x::ws,_,n+1,h=>by simp only[RWs]at h;obtain⟨u,r,rfl,q,t⟩:=h;simp only[aiP,RWs];exact⟨u,_,rfl,q,RWs.set hw n t⟩
theorem RWs.cut{ws vs}(h:RWs K H ws vs)(lo a):RWs K H (WL.cut ws lo a) (aae vs lo a):=by unfold WL.cut aae;rw[<-h.length];exact(h.drop _).take _
def RWs.ints(ns:List Int):RWs K H (ns.map .int) (ns.map V.int):=by induction ns with|nil=>simp[RWs]|cons n ns ih=>exact⟨_,_,rfl,rfl,ih⟩
end
def NF:HO->Prop|.frz _ _=>False|.ins _ _ []=>False|_=>True
structure Bx where
 K:W.Frag
 H0:Hp
 F0:Hp
 xp:VW->Ws->Hp->Prop
 mono:∀c σ F F',aw F F'->xp c σ F->xp c σ F'
structure RB(B:Bx)(F H:Hp):Prop where
 sub:aw F H
 base:aw B.H0 H
 fz0:aw B.F0 F
 fr:∀a o,F a=some o->B.F0 a=some o\/B.H0 a=none/\NF o
def IsO:Sl->Prop|.od _ _=>True|.ob=>True|_=>False
structure OD(K:W.Frag)(H0:Hp)(σ:Ws)(σV:L2.St)(F H:Hp):Prop where
 od:∀(i:Nat)(ks us:List VW),σ[i]?=some (.od ks us)->∃a kvs,σV[i]?=some (some (.ref a))/\F a=none/\H0 a=none/\H a=some (.dK kvs)/\RWs K F ks (kvs.map λp=>kV p.1)/\RWs K F us (kvs.map λp=>p.2)ad:∀(i j:Nat)(ks us ks' us':List VW)(a:Addr),i≠j->σ[i]?=some (.od ks us)->σ[j]?=some (.od ks' us')->σV[i]?=some (some (.ref a))->σV[j]?=some (some (.ref a))->False
 ob:∀i:Nat,σ[i]?=some .ob->∃a C dx,σV[i]?=some (some (.ref a))/\F a=some (.ins C dx [])
def OD.via{K B D o σ g l k F v H H'}(R:OD K D σ l F H)(hK:B=K)(f:Nat->Nat)(S:∀i j,f i=f j->i=j\/∀c d,g[i]?≠some (.od c d))(h:∀i w,IsO w->g[i]?=some w->σ[f i]?=some w/\k[i]?=l[f i]?)(s:aw F v)(n:∀i(c d:List VW)a b,g[i]?=some (.od c d)->l[f i]?=some (some (.ref a))->H a=some (.dK b)->F a=none->D a=none->v a=none/\o a=none/\H' a=some (.dK b)):OD B o g k v H':=by
 subst hK;refine⟨λi c d e=>?_,λi j c d p m a x E Y J Q=>?_,λi e=>?_⟩;.obtain⟨A,y⟩:=h i (.od c d) trivial e;refine adn (R.od (f i) c d A) λa b q t O G Z T=>?_;refine acD (n i c d a b e q G t O) λP N I=>?_;exact acE a b (y.trans q) P N I (Z.keep s) (T.keep s)
 .obtain⟨u,M⟩:=h i (.od c d) trivial E;obtain⟨r,X⟩:=h j (.od p m) trivial Y;refine R.ad _ (f j) c d p m a (λz=>?_) u r (M.symm.trans J) (X.symm.trans Q);rcases S i j z with z|z;.exact x z
  .exact z _ _ E
 .obtain⟨A,y⟩:=h i .ob trivial e;refine uR (R.ob (f i) A) λa C U q t=>?_;exact⟨a,C,U,y.trans q,s _ _ t⟩
structure RS(B:Bx)(σ:Ws)(σV:L2.St)(F H:Hp):Prop where
 rb:RB B F H
 len:σ.length=σV.length
 va:∀(i:Nat)(w:VW),σ[i]?=some (.va w)->∃v,σV[i]?=some (some v)/\RW B.K F w v
 ow:∀(i:Nat)(ws:List VW),σ[i]?=some (.ow ws)->∃a vs,σV[i]?=some (some (.ref a))/\F a=none/\B.H0 a=none/\H a=some (.lst vs)/\RWs B.K F ws vs
 ap:∀(i j:Nat)(ws ws':List VW)(a:Addr),i≠j->σ[i]?=some (.ow ws)->σ[j]?=some (.ow ws')->σV[i]?=some (some (.ref a))->σV[j]?=some (some (.ref a))->False
 dd:OD B.K B.H0 σ σV F H
def RS.zE{B σ c F H d H'}(R:RS B σ c F H)(s:aw F d)(n:∀a b,H a=some (.dK b)->F a=none->d a=none/\H' a=some (.dK b)):OD B.K B.H0 σ c d H':=R.dd.via rfl _ (λ_ _ z=>.inl z) (λ_ _ _ e=>⟨e,rfl⟩) s λ_ _ _ a b _ _ g f h=>⟨(n a _ g f).1,h,(n a _ g f).2⟩
def RS.aad{B σ c F H g H'}(R:RS B σ c F H)(i){sl}(hs:¬IsO sl)(x)(s:aw F g)(n:∀j(f d:List VW)a b,i≠j->σ[j]?=some (.od f d)->c[j]?=some (some (.ref a))->H a=some (.dK b)->F a=none->g a=none/\H' a=some (.dK b)):OD B.K B.H0 (σ.set i sl) (c.set i x) g H':=by
 have h:∀{j:Nat}{s':Sl},IsO s'->(σ.set i sl)[j]?=some s'->i≠j:=λ{j s'}u e z=>by
  subst z;have l:i<σ.length:=by have:=(agu.mp e).1;simpa using this
  rw[agr l]at e;exact hs (agS e▸u)
 refine R.dd.via rfl id (λ_ _ z=>.inl z) (λj f d e=>?_) s λj f d a b e p r m q=>?_;.have:=h d e;rw[agn this]at e;exact⟨e,by rw[agn this];rfl⟩
 .have k:=h (s':=.od f d) trivial e;rw[agn k]at e;obtain⟨o,t⟩:=n j f d a b k e p r m;exact⟨o,q,t⟩
def set_same{a:L2.St}{i x}(e:a[i]?=some x):a.set i x=a:=by
 apply List.ext_getElem?;intro j;by_cases b:i=j;.subst b;rw[agr (agu.mp e).1,e]
 .rw[agn b]
structure Ext(F H F' H':Hp):Prop where
 same:aw F F'
 rs:∀B σ σV,RS B σ σV F H->RS B σ σV F' H'
 rb:∀B,RB B F H->RB B F' H'
 own:∀a o,H a=some o->H' a=some o/\(F a=none->F' a=none)
structure Gr(F H F' H':Hp):Prop where
 f:aw F F'
 h:aw H H'
 nf:∀a o,H a=some o->F a=none->F' a=none
theorem Gr.refl{F H}:Gr F H F H:=⟨aw.refl _,aw.refl _,λ_ _ _ z=>z⟩
theorem Gr.trans{F H f d c g}(a:Gr F H f d)(b:Gr f d c g):Gr F H c g:=⟨a.f.trans b.f,a.h.trans b.h,λx o e z=>b.nf x o (a.h x o e) (a.nf x o e z)⟩
def Ext.gr{F H b H'}(e:Ext F H b H'):Gr F H b H':=⟨e.same,λa o q=>(e.own a o q).1,λa o q=>(e.own a o q).2⟩
section
variable{B:Bx}{σ:Ws}{σV:L2.St}{F H:Hp}
def Gr.new{p}(c:F p=none)(b:H p=none)(o):Gr F H (upd F p o) (upd H p o):=⟨aC c o,aC b o,λa u e z=>by rw[ai (aJ e b)];exact z⟩
theorem Ext.refl(F H):Ext F H F H:=⟨aw.refl _,λ_ _ _ h=>h,λ_ h=>h,λ_ _ h=>⟨h,λz=>z⟩⟩
theorem Ext.trans{e d c f:Hp}(a:Ext F H e d)(b:Ext e d c f):Ext F H c f:=⟨a.same.trans b.same,λB σ σV h=>b.rs B σ σV (a.rs B σ σV h),λB h=>b.rb B (a.rb B h),λx o h=>⟨(b.own x o (a.own x o h).1).1,λz=>(b.own x o (a.own x o h).1).2 ((a.own x o h).2 z)⟩⟩
def RB.new(R:RB B F H){p}(d:H p=none)(o)(f:NF o:=by trivial):RB B (upd F p o) (upd H p o):=by
 refine⟨λb u e=>?_,λb u e=>?_,R.fz0.trans (aC (R.sub.free d) o),λa u e=>?_⟩
 .by_cases c:b=p;.subst c;rw[aq]at e⊢;exact e
  .rw[ai c]at e⊢;exact R.sub b u e
 .exact aC d o b u (R.base b u e)
 .by_cases c:a=p;.subst c;rw[aq]at e;cases e;exact .inr ⟨R.base.free d,f⟩
  .rw[ai c]at e;exact R.fr a u e
theorem RS.new(R:RS B σ σV F H){p}(b:H p=none)(o)(k:NF o:=by trivial):RS B σ σV (upd F p o) (upd H p o):=by
 have c:=R.rb.sub.free b;refine⟨R.rb.new b o k,R.len,λi w e=>?_,λi ws e=>?_,R.ap,R.zE (aC c o) λa j g r=>⟨by rw[ai (aJ g b)];exact r,by rw[ai (aJ g b)];exact g⟩⟩;.obtain⟨v,f,d⟩:=R.va i w e;exact⟨v,f,d.keep (aC c o)⟩
 .refine qu (R.ow i _ e) λa m f d n l q=>?_;have h:a≠p:=λz=>by grind
  exact aaj a m f (by rw[ai h];exact d) n (by rw[ai h];exact l) (q.keep (aC c o))
theorem Ext.new{p}(f:F p=none)(b:H p=none)(o)(c:NF o:=by trivial):Ext F H (upd F p o) (upd H p o):=⟨aC f o,λ_ _ _ R=>R.new b o c,λ_ R=>R.new b o c,λa u e=>by
 have d:a≠p:=λz=>by grind
 exact⟨by rw[ai d];exact e,λz=>by rw[ai d];exact z⟩⟩
def RS.afl(R:RS B σ σV F H){p}(c:H p=none)(o):RS B σ σV F (upd H p o):=by refine⟨⟨λb u e=>aC c o b u (R.rb.sub b u e),λb u e=>aC c o b u (R.rb.base b u e),R.rb.fz0,R.rb.fr⟩,R.len,R.va,λi ws e=>?_,R.ap,R.zE (aw.refl _) λa f d n=>⟨n,by rw[ai (aJ d c)];exact d⟩⟩;refine qu (R.ow i _ e) λa j k h l g m=>?_;exact⟨a,j,k,h,l,aC c o _ _ g,m⟩
def RS.grow(R:RS B σ σV F H){d H'}(g:Gr F H d H')(k:RB B d H'):RS B σ σV d H':=by
 refine⟨k,R.len,λi w e=>?_,λi ws e=>?_,R.ap,R.zE g.f λa j h o=>⟨g.nf a _ h o,g.h a _ h⟩⟩;.obtain⟨v,c,b⟩:=R.va i w e;exact⟨v,c,b.keep g.f⟩
 .refine qu (R.ow i _ e) λa l c b m f n=>?_;exact⟨a,l,c,g.nf a _ f b,m,g.h a _ f,n.keep g.f⟩
theorem RS.set(R:RS B σ σV F H){i:Nat}{w:VW}{v:V}(hw:RW B.K F w v):RS B (σ.set i (.va w)) (σV.set i (some v)) F H:=by
 have o:=R.len;refine⟨R.rb,by simp[o],λj u e=>?_,λj ws e=>?_,λj k ws g a h f d m l=>?_,R.aad i (sl:=.va w) (λz=>z) _ (aw.refl _) λ_ _ _ _ _ _ _ _ q r=>⟨r,q⟩⟩
 .by_cases c:i=j
  .subst c;have b:i<σ.length:=by have:=(agu.mp e).1;simpa using this
   rw[agr b]at e;cases e;exact⟨v,agr (by omega),hw⟩
  .rw[agn c]at e⊢;exact R.va j u e
 .by_cases c:i=j
  .subst c;have b:i<σ.length:=by have:=(agu.mp e).1;simpa using this
   rw[agr b]at e;cases e
  .rw[agn c]at e⊢;exact R.ow j ws e
 .have n:i≠j:=λz=>by
   subst z;have b:i<σ.length:=by have:=(agu.mp f).1;simpa using this
   rw[agr b]at f;cases f
  have p:i≠k:=λz=>by
   subst z;have b:i<σ.length:=by have:=(agu.mp d).1;simpa using this
   rw[agr b]at d;cases d
  rw[agn n]at f m;rw[agn p]at d l;exact R.ap j k ws g a h f d m l
def RS.afX(R:RS B σ σV F H){i:Nat}{ws:List VW}{vs:List V}{a:Addr}(t:F a=none)(v:B.H0 a=none)(w:H a=some (.lst vs))(hw:RWs B.K F ws vs)(s:∀(j:Nat)(d:List VW),j≠i->σ[j]?=some (.ow d)->σV[j]?≠some (some (.ref a))):RS B (σ.set i (.ow ws)) (σV.set i (some (.ref a))) F H:=by
 have x:=R.len;have g:∀{j:Nat}{d:List VW},(σ.set i (.ow ws))[j]?=some (.ow d)->i=j->d=ws/\(σV.set i (some (V.ref a)))[j]?=some (some (.ref a)):=λ{j d}e z=>by
  subst z;have r:i<σ.length:=by have:=(agu.mp e).1;simpa using this
  rw[agr r]at e;cases e;exact⟨rfl,agr (by omega)⟩
 refine⟨R.rb,by simp[x],λj u e=>?_,λj d e=>?_,λj k d m b l q o p h=>?_,R.aad i (sl:=.ow ws) (λz=>z) _ (aw.refl _) λ_ _ _ _ _ _ _ _ y A=>⟨A,y⟩⟩
 .by_cases c:i=j
  .subst c;have r:i<σ.length:=by have:=(agu.mp e).1;simpa using this
   rw[agr r]at e;cases e
  .rw[agn c]at e⊢;exact R.va j u e
 .by_cases c:i=j;.obtain⟨rfl,f⟩:=g e c;exact⟨a,vs,f,t,v,w,hw⟩
  .rw[agn c]at e⊢;exact R.ow j d e
 .by_cases c:i=j;.obtain⟨_,f⟩:=g q c;rw[p]at f;cases f;have n:i≠k:=λz=>l (c.symm.trans z);rw[agn n]at o h;exact s k m (agG n) o h
  .rw[agn c]at q p;by_cases n:i=k;.obtain⟨_,f⟩:=g o n;rw[h]at f;cases f;exact s j d (agG c) q p
   .rw[agn n]at o h;exact R.ap j k d m b l q o p h
def RS.write(R:RS B σ σV F H){i}{ws us:List VW}{vs h a}(e:σ[i]?=some (.ow ws))(l:σV[i]?=some (some (.ref a)))(r:F a=none)(s:B.H0 a=none)(G:H a=some (.lst vs))(P:RWs B.K F us h):RS B (σ.set i (.ow us)) σV F (upd H a (.lst h)):=by
 have t:i<σ.length:=(agu.mp e).1;refine⟨⟨λb u q=>by rw[ai ((λb o q z=>by subst z;rw[r]at q;cases q) b u q)];exact R.rb.sub b u q,λb u q=>by
  have g:b≠a:=λz=>by subst z;rw[s]at q;cases q
  rw[ai g];exact R.rb.base b u q,R.rb.fz0,R.rb.fr⟩,by simp[R.len],λj w q=>?_,λj d q=>?_,λj k d E b p Q O D M=>?_,by
 have C:=R.aad (H':=upd H a (.lst h)) i (sl:=.ow us) (λz=>z) (some (.ref a)) (aw.refl _) λ_ _ _ b K _ _ _ m J=>⟨J,by
   have g:b≠a:=λz=>by subst z;rw[G]at m;cases m
   rw[ai g];exact m⟩;rwa[set_same l]at C⟩
 .by_cases c:i=j;.subst c;rw[agr t]at q;cases q
  .rw[agn c]at q;exact R.va j w q
 .by_cases c:i=j;.subst c;rw[agr t]at q;cases q;exact aaj a h l r s aq P
  .rw[agn c]at q;refine qu (R.ow j d q) λb f v A I y S=>?_;have g:b≠a:=λz=>by subst z;exact R.ap i j ws d b c e q l v
   exact aaj b f v A I (by rw[ai g];exact y) S
 .have back:∀{j:Nat}{d:List VW},(σ.set i (.ow us))[j]?=some (.ow d)->∃f,σ[j]?=some (.ow f):=λ{j d}q=>by
   by_cases c:i=j;.subst c;exact⟨ws,e⟩
   .rw[agn c]at q;exact⟨d,q⟩
  obtain⟨f,N⟩:=back Q;obtain⟨n,x⟩:=back O;exact R.ap j k f n b p N x D M
def RS.afz(R:RS B σ σV F H){i:Nat}{sl:Sl}{a:Addr}{o:HO}{w:VW}(e:σ[i]?=some sl)(A:σV[i]?=some (some (.ref a)))(D:F a=none)(J:B.H0 a=none)(K:H a=some o)(nf:NF o)(hw:RW B.K (upd F a o) w (.ref a))(nO:∀(j:Nat)(ws:List VW),i≠j->σ[j]?=some (.ow ws)->σV[j]?≠some (some (.ref a)))(M:∀(j:Nat)(r t:List VW),i≠j->σ[j]?=some (.od r t)->σV[j]?≠some (some (.ref a))):RS B (σ.set i (.va w)) σV (upd F a o) H:=by
 have g:i<σ.length:=(agu.mp e).1;have s:aw F (upd F a o):=aC D _;refine⟨⟨λb u q=>?_,R.rb.base,R.rb.fz0.trans s,λb u q=>?_⟩,by simp[R.len],λj S q=>?_,λj f q=>?_,λj k f p b x m l I Y=>?_,by
 have G:=R.aad i (sl:=.va w) (λz=>z) (some (.ref a)) s λj r t b T c Z hv O P=>⟨by
  have y:b≠a:=λz=>by subst z;exact M j r t c Z hv
  rw[ai y];exact P,O⟩;rwa[set_same A]at G⟩
 .by_cases d:b=a;.subst d;rw[aq]at q;cases q;exact K
  .rw[ai d]at q;exact R.rb.sub b u q
 .by_cases d:b=a;.subst d;rw[aq]at q;cases q;exact .inr ⟨J,nf⟩
  .rw[ai d]at q;exact R.rb.fr b u q
 .by_cases c:i=j;.subst c;rw[agr g]at q;cases q;exact⟨.ref a,A,hw⟩
  .rw[agn c]at q;obtain⟨v,h,n⟩:=R.va j S q;exact⟨v,h,n.keep s⟩
 .by_cases c:i=j;.subst c;rw[agr g]at q;cases q
  .rw[agn c]at q;obtain⟨b,U,h,n,C,Q,E⟩:=R.ow j f q;have y:b≠a:=λz=>by subst z;exact nO j f c q h
   exact⟨b,U,h,by rw[ai y];exact n,C,Q,E.keep s⟩
 .have X:i≠j:=λz=>by subst z;rw[agr g]at m;cases m
  have N:i≠k:=λz=>by subst z;rw[agr g]at l;cases l
  rw[agn X]at m;rw[agn N]at l;exact R.ap j k f p b x m l I Y
def Ow1:HO->Prop|.lst _=>True|.dK _=>True|_=>False
theorem RS.frz(R:RS B σ σV F H)(i):∃s,aw F s/\RS B (WL.frz i σ) σV s H/\(s=F/\WL.frz i σ=σ\/∃a o w,s=upd F a o/\Ow1 o/\F a=none/\WL.frz i σ=σ.set i (.va w)/\σV[i]?=some (some (.ref a))/\H a=some o/\B.H0 a=none):=by cases e:σ[i]? with
|none=>
 have c:WL.frz i σ=σ:=by unfold WL.frz;rw[e]
 rw[c];exact⟨F,aw.refl _,R,.inl ⟨rfl,rfl⟩⟩
|some sl=>cases sl with|no=>
  have c:WL.frz i σ=σ:=by unfold WL.frz;rw[e]
  rw[c];exact⟨F,aw.refl _,R,.inl ⟨rfl,rfl⟩⟩|va w=>
  have c:WL.frz i σ=σ:=by unfold WL.frz;rw[e]
  rw[c];exact⟨F,aw.refl _,R,.inl ⟨rfl,rfl⟩⟩|ob=>
  have c:WL.frz i σ=σ:=by unfold WL.frz;rw[e]
  rw[c];exact⟨F,aw.refl _,R,.inl ⟨rfl,rfl⟩⟩|ow ws=>
  have c:WL.frz i σ=σ.set i (.va (.lst ws)):=by unfold WL.frz;rw[e]
  rw[c];obtain⟨a,u,g,d,n,f,y⟩:=R.ow i ws e;refine⟨upd F a (.lst u),aC d _,R.afz e g d n f trivial (by simp only[RW];exact⟨a,u,rfl,SqL.of aq,y.keep (aC d _)⟩) (λj t m q z=>R.ap i j ws t a m e q g z) λj p k m q z=>?_,.inr ⟨a,_,_,rfl,trivial,d,rfl,g,f,n⟩⟩;obtain⟨b,h,l,_,_,r,_⟩:=R.dd.od j p k q;rw[z]at l;cases l;rw[f]at r;cases r|od p k=>
  have c:WL.frz i σ=σ.set i (.va (.dic p k)):=by unfold WL.frz;rw[e]
  rw[c];obtain⟨a,h,g,d,n,f,y,A⟩:=R.dd.od i p k e;refine⟨_,aC d _,R.afz e g d n f trivial (by simp only[RW];exact⟨a,h,rfl,.inl aq,y.keep (aC d _),A.keep (aC d _)⟩) (λj t m q z=>?_) λj x v m q z=>R.dd.ad i j p k x v a m e q g z,.inr ⟨a,_,_,rfl,trivial,d,rfl,g,f,n⟩⟩;obtain⟨b,u,l,_,_,r,_⟩:=R.ow j t q;rw[z]at l;cases l;rw[f]at r;cases r
def RS.afY(R:RS B σ σV F H){i:Nat}{ks us:List VW}{kvs:List (Key×V)}{a:Addr}(x:F a=none)(A:B.H0 a=none)(C:H a=some (.dK kvs))(D:RWs B.K F ks (kvs.map λp=>kV p.1))(M:RWs B.K F us (kvs.map λp=>p.2))(w:∀(j:Nat)(q o:List VW),j≠i->σ[j]?=some (.od q o)->σV[j]?≠some (some (.ref a))):RS B (σ.set i (.od ks us)) (σV.set i (some (.ref a))) F H:=by
 have K:=R.len;have c:∀{j:Nat}{v:Sl},(σ.set i (.od ks us))[j]?=some v->i=j->v=.od ks us/\(σV.set i (some (V.ref a)))[j]?=some (some (.ref a)):=λ{j v}e z=>by
  subst z;have G:i<σ.length:=by have:=(agu.mp e).1;simpa using this
  rw[agr G]at e;exact⟨(agS e).symm,agr (by omega)⟩
 refine⟨R.rb,by simp[K],λj u e=>?_,λj t e=>?_,λj k t s b l h g n m=>?_,λj q o e=>?_,λj k y us1 J us2 b l h g n m=>?_,λj e=>?_⟩
 .by_cases d:i=j;.cases(c e d).1
  .rw[agn d]at e⊢;exact R.va j u e
 .by_cases d:i=j;.cases(c e d).1
  .rw[agn d]at e⊢;exact R.ow j t e
 .have I:i≠j:=λz=>by cases(c h z).1
  have E:i≠k:=λz=>by cases(c g z).1
  rw[agn I]at h n;rw[agn E]at g m;exact R.ap j k t s b l h g n m
 .by_cases d:i=j;.obtain⟨h,g⟩:=c e d;cases h;exact⟨a,kvs,g,x,A,C,D,M⟩
  .rw[agn d]at e⊢;exact R.dd.od j q o e
 .by_cases d:i=j;.have r:=(c h d).2;rw[n]at r;cases r;have f:i≠k:=λz=>l (d.symm.trans z);rw[agn f]at g m;exact w k _ _ (agG f) g m
  .rw[agn d]at h n;by_cases f:i=k;.have r:=(c g f).2;rw[m]at r;cases r;exact w j _ _ (agG d) h n
   .rw[agn f]at g m;exact R.dd.ad j k _ _ _ _ b l h g n m
 .have d:i≠j:=λz=>by cases(c e z).1
  rw[agn d]at e⊢;exact R.dd.ob j e
def RS.aam(R:RS B σ σV F H){i:Nat}{ks us g us2:List VW}{kvs d:List (Key×V)}{a:Addr}(e:σ[i]?=some (.od ks us))(N:σV[i]?=some (some (.ref a)))(M:F a=none)(O:B.H0 a=none)(U:H a=some (.dK kvs))(Y:RWs B.K F g (d.map λp=>kV p.1))(hu:RWs B.K F us2 (d.map λp=>p.2)):RS B (σ.set i (.od g us2)) σV F (upd H a (.dK d)):=by
 have h:i<σ.length:=(agu.mp e).1;have nF:∀b o,F b=some o->b≠a:=λb o q z=>by subst z;rw[M]at q;cases q
 refine⟨⟨λb u q=>by rw[ai (nF b u q)];exact R.rb.sub b u q,λb u q=>by
 have r:b≠a:=λz=>by subst z;rw[O]at q;cases q
 rw[ai r];exact R.rb.base b u q,R.rb.fz0,R.rb.fr⟩,by simp[R.len],λj w q=>?_,λj E q=>?_,λj k E A b f m l v I=>?_,λj J C q=>?_,λj k S us1 Q us3 b f m l v I=>?_,λj q=>?_⟩
 .by_cases c:i=j;.subst c;rw[agr h]at q;cases q
  .rw[agn c]at q;exact R.va j w q
 .by_cases c:i=j;.subst c;rw[agr h]at q;cases q
  .rw[agn c]at q;obtain⟨b,G,s,t,D,n,K⟩:=R.ow j E q;have r:b≠a:=λz=>by subst z;rw[U]at n;cases n
   exact⟨b,G,s,t,D,by rw[ai r];exact n,K⟩
 .have n1:i≠j:=λz=>by subst z;rw[agr h]at m;cases m
  have Z:i≠k:=λz=>by subst z;rw[agr h]at l;cases l
  rw[agn n1]at m;rw[agn Z]at l;exact R.ap j k E A b f m l v I
 .by_cases c:i=j;.subst c;rw[agr h]at q;cases q;exact⟨a,d,N,M,O,aq,Y,hu⟩
  .rw[agn c]at q;obtain⟨b,G,s,t,D,n,K⟩:=R.dd.od j J C q;have r:b≠a:=λz=>by subst z;exact R.dd.ad i j _ _ _ _ b c e q N s
   exact⟨b,G,s,t,D,by rw[ai r];exact n,K⟩
 .have back:∀{j:Nat}{x y:List VW},(σ.set i (.od g us2))[j]?=some (.od x y)->∃T X,σ[j]?=some (.od T X):=λ{j x y}q=>by
   by_cases c:i=j;.subst c;exact⟨_,_,e⟩
   .rw[agn c]at q;exact⟨_,_,q⟩
  obtain⟨_,_,g1⟩:=back m;obtain⟨_,_,P⟩:=back l;exact R.dd.ad j k _ _ _ _ b f g1 P v I
 .have c:i≠j:=λz=>by subst z;rw[agr h]at q;cases q
  rw[agn c]at q;exact R.dd.ob j q
end
end WS
set_option autoImplicit true
set_option relaxedAutoImplicit true
namespace WS
open PySem PySem.Spec PyProof.Rows L2
open WL(Res Sl Ws EF TF AF LF GF GsF SF Out)
section
variable{X:Cx}{e:Expr}{es:List Expr}{st:Stmt}{sts:List Stmt}
def PE.imp{t t'}(h:PE X e t)(f:∀σ H Q,t' σ H Q->t σ H Q):PE X e t':=λa s σ H Q I q=>h _ s σ H Q I (f σ H Q q)
def PT.imp{t t'}(h:PT X e t)(f:∀σ H Q,t' σ H Q->t σ H Q):PT X e t':=λa s σ H Q I q=>h _ s σ H Q I (f σ H Q q)
def PW.imp{t t'}(h:PW X e t)(f:∀σ H Q,t' σ H Q->t σ H Q):PW X e t':=λb a s σ H Q I q=>h _ _ s σ H Q I (f σ H Q q)
def PA.imp{t t'}(h:PA X es t)(f:∀σ H Q,t' σ H Q->t σ H Q):PA X es t':=λb a s σ H Q I q=>h _ _ s σ H Q I (f σ H Q q)
def PS.imp{t t'}(h:PS X st t)(f:∀D σ H,t' D σ H->t D σ H):PS X st t':=λa s σ H D I q=>h _ s σ H D I (f D σ H q)
def PSs.imp{t t'}(h:PSs X sts t)(f:∀D σ H,t' D σ H->t D σ H):PSs X sts t':=λa s σ H D I q=>h _ s σ H D I (f D σ H q)
def PG.imp{t t'}(h:PG X e t)(f:∀v σ H Q,t' v σ H Q->t v σ H Q):PG X e t':=λa s σ H v u Q I r q=>h _ s σ H v u Q I r (f v σ H Q q)
def PGs.imp{t t'}(h:PGs X es t)(f:∀v σ H Q,t' v σ H Q->t v σ H Q):PGs X es t':=λa s σ H v u Q I r q=>h _ s σ H v u Q I r (f v σ H Q q)
def PI.imp{b t t'}(h:PI X b e t)(f:∀σ H Q,t' σ H Q->t σ H Q):PI X b e t':=λa s σ H Q I q=>h _ s σ H Q I (f σ H Q q)
def PO.imp{o t t'}(h:PO X o t)(f:∀σ H Q,t' σ H Q->t σ H Q):PO X o t':=λa s σ H Q I q=>h _ s σ H Q I (f σ H Q q)
end
def Rq(B:Bx)(σ:Ws)(F:Hp){b}(r:Res b)(k:b->Prop):Prop:=match r with|.ok a=>k a|.ex c=>B.xp c σ F|.bad=>False
theorem Rq.mono{B σ F b d r}{k k':d->Prop}(s:aw F b)(h:Rq B σ F r k)(f:∀a,k a->k' a):Rq B σ b r k':=by cases r with|ok a=>exact f a h|ex c=>exact B.mono c σ F _ s h|bad=>exact h
theorem Rq.bind{B σ F b d r}{g:b->Res d}{k}(h:Rq B σ F (r.bind g) k):Rq B σ F r λa=>Rq B σ F (g a) k:=by cases r with|ok a|ex c|bad=>exact h
def lo(B:Bx)(t:EF):TE:=λa H Q=>∃σ F,RS B σ a F H/\Rq B σ F (t σ) λw=>∀v b c,RS B σ a c b->Gr F H c b->RW B.K c w v->Q v b
def loT(B:Bx)(t:TF):TT:=λa H Q=>∃σ F,RS B σ a F H/\Rq B σ F (t σ) λb=>∀c d,RS B σ a d c->Gr F H d c->Q b c
def loA(B:Bx)(t:AF):TA:=λa H Q=>∃σ F,RS B σ a F H/\Rq B σ F (t σ) λws=>∀d b c,RS B σ a c b->Gr F H c b->RWs B.K c ws d->Q d b
def loO(B:Bx)(t:Ws->Res (Option Int)):TO:=λa H Q=>∃σ F,RS B σ a F H/\Rq B σ F (t σ) λo=>∀b c,RS B σ a c b->Gr F H c b->Q o b
def loL(B:Bx)(t:LF):TE:=λb H Q=>∃σ F,RS B σ b F H/\Rq B σ F (t σ) λws=>∀a e c d,RS B σ b d c->Gr F H d c->d a=none->B.H0 a=none->c a=some (.lst e)->RWs B.K d ws e->(∀(j:Nat)(f:List VW),σ[j]?=some (.ow f)->b[j]?≠some (some (.ref a)))->Q (.ref a) c
structure Gm(m:Bool)(F H F' H':Hp):Prop where
 f:aw F F'
 nf:∀a o,H a=some o->F a=none->F' a=none
 th:∀a o,H a=some o->∃o',H' a=some o'
 h:m=true->aw H H'
theorem Gm.refl{m F H}:Gm m F H F H:=⟨aw.refl _,λ_ _ _ z=>z,λ_ o e=>⟨o,e⟩,λ_=>aw.refl _⟩
theorem Gm.trans{m F H i f d g}(a:Gm m F H i f)(b:Gm m i f d g):Gm m F H d g:=⟨a.f.trans b.f,λx o e z=>by obtain⟨j,c⟩:=a.th x o e;exact b.nf x _ c (a.nf x o e z),λx o e=>by obtain⟨j,c⟩:=a.th x o e;exact b.th x _ c,λh=>(a.h h).trans (b.h h)⟩
def loG(m:Bool)(B:Bx)(g:GF):TG:=λv c H Q=>∃σ F w,RS B σ c F H/\RW B.K F w v/\Rq B σ F (g w σ) λd=>∀a b e,RS B d a e b->Gm m F H e b->Q a b
def ac1(m:Bool)(B:Bx)(g:GsF):TGs:=λf c H Q=>∃σ F ws,RS B σ c F H/\RWs B.K F ws f/\Rq B σ F (g ws σ) λd=>∀a b e,RS B d a e b->Gm m F H e b->Q a b
def Oq(B:Bx)(D:Ends)(F:Hp)(o:Out):Prop:=match o with|.nx σ'=>∀a d b,RS B σ' a b d->aw F b->D.nx a d|.bk σ'=>∀a d b,RS B σ' a b d->aw F b->D.bk a d|.ct σ'=>∀a d b,RS B σ' a b d->aw F b->D.ct a d|.rt w=>∀v d b,RB B b d->aw F b->RW B.K b w v->D.rt v d|.ex c σ'=>B.xp c σ' F|.bad=>False
def loS(B:Bx)(t:SF):TS:=λD a H=>∃σ F,RS B σ a F H/\Oq B D F (t σ)
theorem Oq.mono{B D F a o}(s:aw F a)(h:Oq B D F o):Oq B D a o:=by cases o with|nx σ|bk σ|ct σ|rt w=>exact λb H G R z=>h _ H G R (s.trans z)|ex c σ=>exact B.mono c σ F _ s h|bad=>exact h
theorem Oq.ofR    (h:Oq B D F (WL.ofR σ r f)):Rq B σ F r λa=>Oq B D F (f a):=by cases r with|ok a|ex c|bad=>exact h
def Eq1(F H:Hp)(K:W.Frag)(r:Res VW)(Q:VK):Prop:=match r with|.ok w=>∀v b a,Ext F H b a->RW K b w v->Q v a|_=>False
def lo2(K:W.Frag)(r:VW->VW->Res VW):R2:=λx y H Q=>∃F wx a,aw F H/\RW K F wx x/\RW K F a y/\Eq1 F H K (r wx a) Q
def lo1(K:W.Frag)(r:VW->Res VW):V->Hp->VK->Prop:=λx H Q=>∃F wx,aw F H/\RW K F wx x/\Eq1 F H K (r wx) Q
def loN(K:W.Frag)(r:List VW->Res VW):List V->Hp->VK->Prop:=λa H Q=>∃F ws,aw F H/\RWs K F ws a/\Eq1 F H K (r ws) Q
def Calm(r:VW->VW->Res VW):Prop:=∀x y c,r x y≠.ex c
def OpR.imp{X f r a}(h:OpR X f r)(g:∀x y H Q,a x y H Q->r x y H Q):OpR X f a:=λb s σ H x y v u Q I d c q=>h _ s σ H x y v u Q I d c (g x y H Q q)
def UnR.imp{X f r b}(h:UnR X f r)(g:∀x H Q,b x H Q->r x H Q):UnR X f b:=λa s σ H x v Q I c q=>h _ s σ H x v Q I c (g x H Q q)
def bu.imp{X f r c}(h:bu X f r)(g:∀a H Q,c a H Q->r a H Q):bu X f c:=λb s σ H a e Q I d q=>h _ s σ H _ _ Q I d (g _ H Q q)
def IxR.imp{X r c}(h:IxR X r)(g:∀x y H Q,c x y H Q->r x y H Q):IxR X c:=λb a d s σ H x y v u Q I i e q f=>h _ _ _ s σ H x y v u Q I i e (g x y H Q q) f
def SlR.imp{X r d}(h:SlR X r)(g:∀x a b H Q,d x a b H Q->r x a b H Q):SlR X d:=λe s σ H x v l k lo i j Q I f a b c q=>h _ s σ H x v _ _ _ _ _ Q I f a b c (g x _ _ H Q q)
section
variable{X:Cx}{B:Bx}{e a b c:Expr}{es:List Expr}{pos:Pos}{ta tb tc:EF}{K:W.Frag}
def aaq{i}(h:PE X e (yd i)):PE X e (lo B (WL.ak i)):=PE.imp h λf H Q d=>by
 refine cW d λσ F R q=>?_;simp [WL.ak]at q;split at q;.rename_i w e;obtain⟨v,g,r⟩:=R.va i w e;exact⟨v,g,q v H F R Gr.refl r⟩
 .exact q.elim
def x5 (h:PE X e (tC v))(r:∀F,RW B.K F w v):PE X e (lo B (WL.eC w)):=PE.imp h λf H Q d=>by obtain⟨σ,F,R,q⟩:=d;exact q v H F R Gr.refl (r F)
def af{i j pos}:PE X (.Constant (.int i) j pos) (lo B (WL.eC (.int i))):=x5 xE λ_=>rfl
def kY{i j pos}:PE X (.Constant (.bool i) j pos) (lo B (WL.eC (.bl i))):=x5 adZ λ_=>rfl
def cS{j pos}:PE X (.Constant .none j pos) (lo B (WL.eC .non)):=x5 xC λ_=>rfl
def hX{x j pos}:PE X (.Constant (.str x) j pos) (lo B (WL.eC (.str x))):=x5 xB λ_=>rfl
def vU (cm:Calm r)(f:∀x y H Q,lo2 B.K r x y H Q->rV x y H Q):∀d H Q,lo B (WL.eOp r ta tb) d H Q->tOp rV (lo B ta) (lo B tb) d H Q:=by intro d H Q⟨σ,F,R,q⟩;have q:=Rq.bind q;refine eI σ F R (Rq.mono (aw.refl _) q λx o z t p k h n=>eI σ p k (Rq.mono h.f (Rq.bind o) λy g A u j R2 i l=>f _ _ _ _ (wZ j x y R2.rb.sub (n.keep i.f) l ?_)));cases e:r x y with|ok w=>rw[e]at g;exact λv C s E m=>g v _ _ (E.rs B σ _ R2) ((h.trans i).trans E.gr) m|ex c=>exact(cm x y c e).elim|bad=>rw[e]at g;exact g
def az (cm:Calm r)(h:OpR X (binaryOp op) (lo2 B.K r))(d:PE X a (lo B ta))(f:PE X b (lo B tb)):PE X (.BinOp a op b pos) (lo B (WL.eOp r ta tb)):=PE.imp (adX h d f) (vU cm λ_ _ _ _ q=>q)
def qN (cm:Calm r)(h:OpR X (compareOp op) (lo2 B.K r))(d:PE X a (lo B ta))(f:PE X b (lo B tb))(g:behindInMarks op b=false):PE X (.Compare a [op] [b] pos) (lo B (WL.eOp r ta tb)):=PE.imp (yO h d f g) (vU cm λ_ _ _ _ q=>q)
def aas (cm:Calm r)(h:IxR X (lo2 B.K r))(d:PE X a (lo B ta))(f:PE X b (lo B tb))(hs:kN b):PE X (.Subscript a b pos) (lo B (WL.eOp r ta tb)):=PE.imp (adY h d f hs) (vU cm λ_ _ _ _ q=>q)
def mE (cm:∀x c,r x≠.ex c)(h:UnR X (unaryOp op) (lo1 B.K r))(j:PE X a (lo B ta)):PE X (.UnaryOp op a pos) (lo B (WL.eUn r ta)):=PE.imp (adV h j) λk H Q f=>by refine cW f λσ F R q=>?_;have q:=Rq.bind q;refine⟨σ,F,R,Rq.mono (aw.refl _) q λx d s p n g i m=>⟨n,x,g.rb.sub,m,?_⟩⟩;cases e:r x with|ok w=>rw[e]at d;exact λv t o E l=>d v _ _ (E.rs B σ _ g) (i.trans E.gr) l|ex c=>exact(cm x c e).elim|bad=>rw[e]at d;exact d
def sI:∀d H Q,loT B (WL.tB t) d H Q->aaE (lo B t) d H Q:=by
 intro d H Q⟨σ,F,R,q⟩;have q:=Rq.bind q;refine eI σ F R (Rq.mono (aw.refl _) q λx f j k l h g i=>?_);cases x<;>first|exact f.elim|skip
 exact⟨_,i,f _ _ h g⟩
def cp (cm:Calm r)(h:OpR X (compareOp op) (lo2 B.K r))(d:PE X a (lo B ta))(i:PE X b (lo B tb))(f:behindInMarks op b=false):PT X (.Compare a [op] [b] pos) (loT B (WL.tB (WL.eOp r ta tb))):=PT.imp (yC h d i f) λg H Q q=>vU cm (λ_ _ _ _ q=>q) _ H _ (sI _ H Q q)
def gp (h:PE X e (lo B t))(f:∀d,isTrue e X.env d=(do let v <-d;standAt e.pos;holding [v] (truthy v)):=by intro _;rfl):PT X e (loT B (WL.tB t)):=PT.imp (aa3 h f) sI
variable{uA uB:TF}{rest:List Expr}
def qE(d:PT X a (loT B uA)):PW X (.BoolOp .And [a] pos) (loT B uA):=yz d
def qD(d:PT X a (loT B uA)):PW X (.BoolOp .Or [a] pos) (loT B uA):=aa0 d
def w4(i:PT X a (loT B uA))(l:PW X (.BoolOp .And (b::rest) pos) (loT B uB)):PW X (.BoolOp .And (a::b::rest) pos) (loT B (WL.yh uA uB)):=PW.imp (aa1 i l) λj H Q f=>by refine cW f λσ F R q=>?_;have q:=Rq.bind q;refine⟨σ,F,R,Rq.mono (aw.refl _) q λx h p n g d=>?_⟩;cases x with|true=>exact⟨σ,n,g,Rq.mono d.f h λb m r o R2 k=>m _ _ R2 (d.trans k)⟩|false=>exact h _ _ g d
def uS(i:PT X a (loT B uA))(l:PW X (.BoolOp .Or (b::rest) pos) (loT B uB)):PW X (.BoolOp .Or (a::b::rest) pos) (loT B (WL.tOr uA uB)):=PW.imp (adU i l) λj H Q f=>by refine cW f λσ F R q=>?_;have q:=Rq.bind q;refine⟨σ,F,R,Rq.mono (aw.refl _) q λx h p n g d=>?_⟩;cases x with|false=>exact⟨σ,n,g,Rq.mono d.f h λb m r o R2 k=>m _ _ R2 (d.trans k)⟩|true=>exact h _ _ g d
def n5(f:PT X a (loT B uA)):PT X (.UnaryOp .Not a pos) (loT B (WL.vj uA)):=PT.imp (aa4 f) λg H Q d=>by obtain⟨σ,F,R,q⟩:=d;have q:=Rq.bind q;exact⟨σ,F,R,Rq.mono (aw.refl _) q λx h=>h⟩
def qL{op}(h:PE X a (lo B ta)):PE X (.BoolOp op [a] pos) (lo B ta):=abl h
def qP(i:PE X a (lo B ta))(o:PE X (.BoolOp .And (b::rest) pos) (lo B tb)):PE X (.BoolOp .And (a::b::rest) pos) (lo B (WL.ade ta tb)):=PE.imp (abo i o) λj H Q f=>by refine cW f λσ F R q=>?_;have q:=Rq.bind q;refine eI σ F R (Rq.mono (aw.refl _) q λx g v t r h d n=>?_);cases x with
|bl k=>refine⟨k,n,?_⟩;cases k with|true=>exact eI σ r h (Rq.mono d.f g λb p w u s R2 l m=>p _ _ _ R2 (d.trans l) m)|false=>exact g _ _ _ h d (rfl)
|_=>exact g.elim
def aar(h:PE X a (lo B ta)):PE X (.UnaryOp .Not a pos) (lo B (WL.afG ta)):=PE.imp (abm h) λj H Q d=>by refine cW d λσ F R q=>?_;have q:=Rq.bind q;refine⟨σ,F,R,Rq.mono (aw.refl _) q λx f v m n i g l=>?_⟩;cases x with|bl k=>exact⟨k,l,f _ _ _ i g (rfl)⟩|_=>exact f.elim
def adq(l:PT X c (loT B uA))(g:PE X a (lo B ta))(m:PE X b (lo B tb)):PE X (.IfExp c a b pos) (lo B (WL.eIf uA ta tb)):=PE.imp (vJ l g m) λi H Q d=>by refine cW d λσ F R q=>?_;have q:=Rq.bind q;refine eI σ F R (Rq.mono (aw.refl _) q λx o s p h f=>?_);cases x with|true|false=>exact⟨σ,p,h,Rq.mono f.f o λb n u t r R2 j k=>n _ _ _ R2 (f.trans j) k⟩
variable{tas:AF}
def ah:PA X [] (loA B WL.ax):=PA.imp dM λf H Q d=>by obtain⟨σ,F,R,q⟩:=d;exact q _ H F R Gr.refl (rfl)
def y7:∀d H Q,loA B (WL.ae ta tas) d H Q->pQ (lo B ta) (loA B tas) d H Q:=λd H Q g=>by refine cW g λσ F R q=>?_;have q:=Rq.bind q;refine eI σ F R (Rq.mono (aw.refl _) q λx h v r n k i m=>?_);have h:=Rq.bind h;exact eI σ n k (Rq.mono i.f h λo f s t p R2 j l=>f _ _ _ R2 (i.trans j) (.cons (m.keep j.f) l))
def aa(d:PE X e (lo B ta))(f:PA X es (loA B tas))(hs:SE X e es:=by rfl):PA X (e::es) (loA B (WL.ae ta tas)):=PA.imp (bO d f hs) y7
def fw:WL.lim<=sizeLine:=by decide
def bf{o}(h:PA X es (loA B tas)):PE X (.Tuple es o pos) (lo B (WL.eF tas)):=PE.imp (abj h) λn H Q j=>by
 refine cW j λσ F R q=>?_;have q:=Rq.bind q;refine⟨σ,F,R,Rq.mono (aw.refl _) q λl f r s t g m k=>?_⟩;by_cases i:l.length<=WL.lim;.rw[ago i]at f;exact⟨by rw[<-k.length];exact agy i fw,λp d=>f _ _ _ (g.new d _) (m.trans (Gr.new (g.rb.sub.free d) d _)) (by exact hJ p r rfl (SqT.of aq) (k.keep (aC (g.rb.sub.free d) _)))⟩
 .rw[agq i]at f;exact f.elim
def abL:∀d H Q,lo B (WL.fE tas) d H Q->ae5 (loA B tas) d H Q:=λd H Q j=>by
 refine cW j λσ F R q=>?_;have q:=Rq.bind q;refine⟨σ,F,R,Rq.mono (aw.refl _) q λl g n o r h m k=>?_⟩;by_cases i:l.length<=WL.lim;.rw[ago i]at g;exact⟨by rw[<-k.length];exact agy i fw,λp f=>g _ _ _ (h.new f _) (m.trans (Gr.new (h.rb.sub.free f) f _)) (by exact hJ p n rfl (SqL.of aq) (k.keep (aC (h.rb.sub.free f) _)))⟩
 .rw[agq i]at g;exact g.elim
def bL(h:PA X es (loA B tas)):PE X (.List es pos) (lo B (WL.fE tas)):=PE.imp (xD h) abL
def af5{σ d F l g xs vs p}{Q:VK}(h:RS B σ d l g){H}(r:Gr F H l g)(s:RWs B.K l xs vs)(f:g p=none)(q:∀a vs i k,RS B σ d k i->Gr F H k i->k a=none->B.H0 a=none->i a=some (.lst vs)->RWs B.K k xs vs->(∀(j:Nat)(o:List VW),σ[j]?=some (.ow o)->d[j]?≠some (some (.ref a)))->Q (.ref a) i):Q (.ref p) (upd g p (.lst vs)):=q p _ _ _ (h.afl f _) (r.trans ⟨aw.refl _,aC f _,λ_ _ _ z=>z⟩) (h.rb.sub.free f) (h.rb.base.free f) aq s λj o e z=>by refine qu (h.ow j _ e) λa w n t u m v=>?_;rw[z]at n;cases n;rw[f]at m;cases m
def qI(h:PA X es (loA B tas)):PE X (.List es pos) (loL B (WL.z9 tas)):=PE.imp (xD h) λm H Q g=>by
 refine cW g λσ F R q=>?_;have q:=Rq.bind q;refine⟨σ,F,R,Rq.mono (aw.refl _) q λj d r o s l k i=>?_⟩;by_cases f:j.length<=WL.lim;.rw[ago f]at d;exact⟨by rw[<-i.length];exact agy f fw,λp n=>af5 l k i n d⟩
 .rw[agq f]at d;exact d.elim
def aen (cm:∀g c,r g≠.ex c):∀d H Q,lo B (WL.eBi r tas) d H Q->tCB (loN B.K r) (loA B tas) d H Q:=by intro d H Q⟨σ,F,R,q⟩;have q:=Rq.bind q;refine eI σ F R (Rq.mono (aw.refl _) q λg f o n l h i k=>⟨l,g,h.rb.sub,k,?_⟩);cases e:r _ with|ok w=>rw[e]at f;exact λv p m E j=>f v _ _ (E.rs B σ _ h) (i.trans E.gr) j|ex c=>exact(cm _ c e).elim|bad=>rw[e]at f;exact f
def aau (cm:∀d c,r d≠.ex c)(h:PE X e (tCB (loN B.K r) (loA B tas))):PE X e (lo B (WL.eBi r tas)):=PE.imp h (aen cm)
def fO:PO X none (loO B WL.pNo):=PO.imp yG λf H Q d=>by obtain⟨σ,F,R,q⟩:=d;exact q H F R Gr.refl
def dz(h:PE X e (lo B ta)):PO X (some e) (loO B (WL.eB ta)):=PO.imp (yF h) λk H Q d=>by refine cW d λσ F R q=>?_;have q:=Rq.bind q;refine⟨σ,F,R,Rq.mono (aw.refl _) q λx f v m n j g l=>?_⟩;cases x with|int i=>exact⟨i,l,f _ _ j g⟩|_=>exact f.elim
def afo(K:W.Frag):V->Option Int->Option Int->Hp->VK->Prop:=λx l h H Q=>∃F wx,aw F H/\RW K F wx x/\Eq1 F H K (WL.oSl wx l h) Q
variable{l u:Option Expr}{tl tu:Ws->Res (Option Int)}{p2:Pos}
def mF(o:SlR X (afo B.K))(s:PE X e (lo B ta))(J:PO X l (loO B tl))(M:PO X u (loO B tu)):PE X (.Subscript e (.Slice l u none p2) pos) (lo B (WL.eSl ta tl tu)):=PE.imp (vH o s J M) λg H Q h=>by refine cW h λσ F R q=>?_;have q:=Rq.bind q;refine eI σ F R (Rq.mono (aw.refl _) q λx y v O A r i G=>eI σ A r (Rq.mono i.f (Rq.bind y) λlo k P p R2 j=>?_));refine eI σ p R2 (Rq.mono (i.trans j).f (Rq.bind k) λC d N t m n=>?_);refine⟨t,x,m.rb.sub,(G.keep j.f).keep n.f,?_⟩;cases f:WL.oSl x lo C with|ok w=>rw[f]at d;exact λv I z E D=>d v z I (E.rs B σ g m) (((i.trans j).trans n).trans E.gr) D|ex c=>cases x<;>simp[WL.oSl]at f;split at f<;>cases f|bad=>rw[f]at d;exact d
def lend  (R:RS B σ σV F H)(x:Hp)(s1:aw F x)(cs:x=F/\WL.frz i σ=σ\/∃a o w,x=upd F a o/\Ow1 o/\F a=none/\WL.frz i σ=σ.set i (.va w)/\σV[i]?=some (some (.ref a))/\H a=some o/\B.H0 a=none)(R2:RS B (WL.frz i σ) σV F2 H2)(f:Gr x H F2 H2):∃D,RS B σ σV D H2/\Gr F H D H2/\∀w v,WL.plain w=true->RW B.K F2 w v->RW B.K D w v:=by
 rcases cs with⟨rfl,E⟩|⟨a,ow,wa,rfl,p,y,E,A,hH,h0⟩;.rw[E]at R2;exact⟨F2,R2,f,λ_ _ _ h=>h⟩
 .rw[E]at R2;have n:=f.f _ _ aq;have r:aw F λb=>if b=a then none else F2 b:=λb o q=>by
   have m:b≠a:=λz=>by subst z;rw[y]at q;cases q
   show(if b=a then none else F2 b)=some o;rw[agq m];exact f.f b o (s1 b o q)
  have k:∀b o,(if b=a then none else F2 b)=some o->b≠a/\F2 b=some o:=λb o q=>by
   by_cases d:b=a;.rw[ago d]at q;cases q
   .rw[agq d]at q;exact⟨d,q⟩
  refine⟨λb=>if b=a then none else F2 b,⟨⟨λb o q=>R2.rb.sub b o (k b o q).2,R2.rb.base,R.rb.fz0.trans r,λb o q=>R2.rb.fr b o (k b o q).2⟩,R.len,λj w q=>?_,λj t q=>?_,R.ap,?_⟩,⟨r,f.h,λb o q z=>?_⟩,λw v P h=>?_⟩;.obtain⟨v,g,I⟩:=R.va j w q;exact⟨v,g,I.keep r⟩
  .obtain⟨b,zs,g,I,N,T,O⟩:=R.ow j t q;refine⟨b,zs,g,?_,N,f.h b _ T,O.keep r⟩;by_cases d:b=a;.exact ago d
   .show(if b=a then none else F2 b)=none;rw[agq d];have C:i≠j:=λz=>by subst z;rw[A]at g;cases g;exact d rfl
    obtain⟨M,Y,s,G,_⟩:=R2.ow j t (by rw[agn C];exact q);rw[g]at s;cases s;exact G
  .refine R.dd.via rfl id (λ_ _ z=>.inl z) (λ_ _ _ e=>⟨e,rfl⟩) r λj S t b Z ej J Q q2 U=>⟨?_,U,f.h b _ Q⟩;by_cases d:b=a;.exact ago d
   .show(if b=a then none else F2 b)=none;rw[agq d];have C:i≠j:=λz=>by subst z;rw[show σV[i]?=_ from J]at A;cases A;exact d rfl
    obtain⟨M,Y,s,G,_⟩:=R2.dd.od j S t (by rw[agn C];exact ej);rw[show σV[j]?=_ from J]at s;cases s;exact G
  .show(if b=a then none else F2 b)=none;by_cases d:b=a;.exact ago d
   .rw[agq d];exact f.nf b o q (by rw[ai d];exact z)
  .refine RW.less (λc xs q=>?_) w v P h;rcases q with(q|⟨o,q⟩)|q
   .refine .inl (.inl ?_);have m:c≠a:=λz=>by subst z;rw[n]at q;cases q;exact p
    show(if c=a then none else F2 c)=_;rw[agq m];exact q
   .refine .inl (.inr ⟨o,?_⟩);have m:c≠a:=λz=>by subst z;rw[n]at q;cases q;exact p
    show(if c=a then none else F2 c)=_;rw[agq m];exact q
   .exact .inr q
def xf (h:PE X e (lo B ta)):PE X e (lo B (WL.aac i ta)):=PE.imp h λn H Q f=>by
 refine cW f λσ F R q=>?_;refine gL (R.frz i) λx j m t=>?_;refine eI _ x m ?_;have q:Rq B σ F (match ta _ with|.ok w=>if WL.plain w then .ok w else .bad|_=>.bad) _:=q
 cases g:ta _ with|ok w=>
 rw[g]at q;intro v z y R2 o p;refine gL (lend R _ j t R2 o) λA s r k=>?_;have q:Rq B σ F (if WL.plain w=true then .ok w else .bad) _:=q;by_cases d:WL.plain w=true;.rw[ago d]at q;exact q v _ _ s r (k w v d p)
 .rw[agq d]at q;exact q.elim|ex c=>rw[g]at q;exact q.elim|bad=>rw[g]at q;exact q
def w5 (h:PT X e (loT B uA)):PT X e (loT B (WL.zW i uA)):=PT.imp h λm H Q d=>by refine cW d λσ F R q=>?_;refine gL (R.frz i) λs g j r=>?_;refine eI _ s j ?_;have q:Rq B σ F (match uA _ with|.ok b=>.ok b|_=>.bad) _:=q;cases f:uA _ with|ok w=>rw[f]at q;intro v t R2 n;refine gL (lend R _ g r R2 n) λx p o k=>?_;exact q _ _ p o|ex c=>rw[f]at q;exact q.elim|bad=>rw[f]at q;exact q
end
mutual def toD:VW->PyData|.non=>.none|.bl b=>.bool b|.int i=>.int i|.str x=>.str x|.ty _=>.none|.tup xs=>.tuple (dy xs)|.lst xs=>.list (dy xs)|.dic _ _=>.none|.cls _=>.none|.exc _ _=>.none|.ins _ _=>.none|.id _=>.none def dy:List VW->List PyData|[]=>[]|x::xs=>toD x::dy xs end
def pN(x):toD (.str x)=.str x:=(rfl)
def pO(x):toD (.int x)=.int x:=(rfl)
mutual theorem RW.isD{K:W.Frag}{H:Hp}:∀(n:Nat)(w:VW)(v:V),WL.okD n w=true->RW K H w v->IsD K H n v (toD w)
|n,.non,v,_,h=>by cases n<;>exact h|n,.bl b,v,_,h=>by cases n<;>exact h|n,.int i,v,_,h=>by cases n<;>exact h|n,.str x,v,o,h=>by cases n<;>exact⟨h,o⟩|n,.tup xs,v,o,h=>by obtain⟨a,vs,e,q,r⟩:=h;cases n with|zero=>cases xs<;>cases o|succ n=>exact⟨a,vs,e,q,RWs.isD n xs _ o r⟩
|n,.lst xs,v,o,h=>by obtain⟨a,vs,e,q,r⟩:=h;cases n with|zero=>cases xs<;>cases o|succ n=>exact⟨a,vs,e,q,RWs.isD n xs vs o r⟩theorem RWs.isD{K:W.Frag}{H:Hp}:∀(n:Nat)(ws:List VW)(vs:List V),WL.e8 (n+1) ws=true->RWs K H ws vs->Paired (IsD K H n) vs (dy ws)|n,[],vs,_,h=>by simp only[RWs]at h;subst h;exact .nil|n,w::ws,vs,o,h=>by simp only[RWs]at h;obtain⟨v,r,rfl,q,t⟩:=h;have o:=ahj.mp o;exact .cons (RW.isD n w v o.1 q) (RWs.isD n ws r o.2 t)end
mutual theorem i0:∀(n m:Nat)(x y:VW),WL.okD n x=true->WL.okD m y=true->PyData.eqv (toD x) (toD y)=WL.eqv x y
|n,m,.tup xs,y,h1,h2=>by cases y with|tup ys=>exact kz n m xs ys h1 h2|_=>first|rfl|cases h2
|n,m,.lst xs,y,h1,h2=>by cases y with|lst ys=>exact kz n m xs ys h1 h2|_=>first|rfl|cases h2
|n,m,.ty _,_,h1,_=>by cases h1|n,m,.non,y,_,h2=>by cases y<;>first|rfl|cases h2
|n,m,.bl b,y,_,h2=>by cases y<;>rfl|n,m,.int b,y,_,h2=>by cases y<;>first|rfl|cases h2
|n,m,.str b,y,_,h2=>by cases y<;>first|rfl|cases h2 theorem kz:∀(n m:Nat)(xs ys:List VW),WL.e8 n xs=true->WL.e8 m ys=true->PyData.eqvAll (dy xs) (dy ys)=WL.xR xs ys|n,m,[],ys,_,_=>by cases ys<;>rfl|n,m,x::xs,ys,h1,h2=>by cases ys with|nil=>rfl|cons y ys=>cases n with|zero=>cases h1|succ n=>cases m with|zero=>cases h2|succ m=>have h1:=ahj.mp h1;have h2:=ahj.mp h2;show(PyData.eqv _ _&&PyData.eqvAll _ _)=(_&&_);rw[i0 n m x y h1.1 h2.1,kz (n+1) (m+1) xs ys h1.2 h2.2]end
theorem nX{n m}{x:VW}(a:WL.okD n x=true):∀{ys:List VW},WL.e8 m ys=true->((dy ys).any λz=>PyData.eqv z (toD x))=WL.cf x ys|[],_=>rfl|y::ys,h=>by cases m with|zero=>cases h|succ m=>have h:=ahj.mp h;simp [dy,WL.cf];rw[i0 m n y x h.1 a,nX a h.2]
section
variable{X:Cx}{K:W.Frag}
def eq1{F H w Q v}(q:Eq1 F H K (.ok w) Q)(r:RW K F w v):Q v H:=q v F H (Ext.refl F H) r
def aeH{F H}{ws:List VW}{vs Q}(s:aw F H)(q:Eq1 F H K (.ok (.lst ws)) Q)(r:RWs K F ws vs){p}(a:H p=none):Q (.ref p) (upd H p (.lst vs)):=q _ _ _ (Ext.new (s.free a) a _) (by exact⟨p,vs,rfl,SqL.of aq,r.keep (aC (s.free a) _)⟩)
def aeG{F H}{ws:List VW}{vs Q}(s:aw F H)(q:Eq1 F H K (.ok (.tup ws)) Q)(r:RWs K F ws vs){p}(a:H p=none):Q (.ref p) (upd H p (.tup vs)):=q _ _ _ (Ext.new (s.free a) a _) (by exact⟨p,vs,rfl,SqT.of aq,r.keep (aC (s.free a) _)⟩)
def yT:OpR X (binaryOp .Add) λx y H Q=>∃l b f g,x=.ref l/\y=.ref b/\SqL X.K H l f/\SqL X.K H b g/\f.length+g.length<=sizeLine/\∀p,H p=none->Q (.ref p) (upd H p (.lst (f++g))):=by
 intro D s σ H x y v u Q I R E h;refine ae0 h λl b f g t m P O T q=>?_;subst t m;cases R;cases E;refine gL (I.list P) λc r pl _=>?_;refine gL (I.list O) λa C o _=>?_;obtain⟨⟨cls,dd,z,M⟩,A,N,n,G⟩:=pl.isList;obtain⟨⟨B,k,data2,i⟩,d,w,J,j⟩:=o.isList;subst N G w j;have e:c.toArray++a.toArray=(c++a).toArray:=by simp
 have U:=r.length;have S:=C.length;refine ai4 ⟨_,A,rfl⟩ ⟨_,d,rfl⟩ noFill_list_add seq_list_add PySem.F.slot_list_add PySem.F.entry_list_add (PySem.F.args_list_add_2 _ _) (list_addW l b c.toArray a.toArray n J dd k M i (by grind)) ⟨A,d,?_⟩;rw[e];exact hJ (.ref _) _ (I.af6 (r.append C) (by grind)) rfl (q _ I.fresh)
def vN:OpR X (binaryOp .Add) λx y H Q=>∃a b m,x=.ref a/\y=.ref b/\SqT X.K H a []/\SqT X.K H b m/\Q (.ref b) H:=by intro p s σ H x y v u Q I N w h;refine acB h λa b m g f D J q=>?_;subst g f;cases N;cases w;refine gL (I.tuple D) λM r C _=>?_;refine gL (I.tuple J) λj O t _=>?_;cases r;obtain⟨⟨cls,dd,k,E⟩,l,G,n,A⟩:=id C;obtain⟨⟨o,z,data2,d⟩,c,i,B,e⟩:=id t;subst G A i e;exact ai4 ⟨_,l,rfl⟩ ⟨_,c,rfl⟩ ai5 seq_tuple_add aiy ais (aii _ _) (tuple_addW0 a b _ _ n B dd _ E d (rfl)) ⟨l,c,⟨.ref b,H,I,rfl,q⟩⟩
def w_add(hK:X.K=K):OpR X (binaryOp .Add) (lo2 K WL.cu):=by
 subst hK;refine OpR.imp (abz.or (yT.or (yS.or vN))) λx y H Q u=>?_;obtain⟨F,wx,z,s,g,d,q⟩:=u;unfold WL.cu at q;split at q;.simp only[RW]at g d;exact .inl ⟨_,_,g,d,q _ F H (Ext.refl F H) (by simp[RW])⟩
 rotate_left
 .rename_i j k;simp only[RW]at g d;obtain⟨a,f,rfl,l,i⟩:=g;obtain⟨b,h,rfl,m,e⟩:=d;by_cases c:j.length+k.length<=WL.lim
  .rw[ago c]at q;have o:=i.length;have n:=e.length;have t:f.length+h.length<=sizeLine:=by rw[<-o,<-n];exact agy c fw
   by_cases v:f=[];.subst v;have:j=[]:=List.length_eq_zero_iff.mp o;subst this;refine .inr (.inr (.inr ⟨a,b,h,rfl,rfl,s.tup l,s.tup m,?_⟩));exact eq1 q (by simp only[RW,ajh];exact⟨b,h,rfl,m,e⟩)
   .refine .inr (.inr (.inl ⟨a,b,f,h,rfl,rfl,s.tup l,s.tup m,v,t,λw=>?_,λw p r=>?_⟩));.subst w;have:k=[]:=List.length_eq_zero_iff.mp n;subst this;exact eq1 q (by simp only[RW,ahB];exact⟨a,f,rfl,l,i⟩)
    .exact aeG s q (i.app e) r
  .rw[agq c]at q;exact q.elim
 .exact q.elim
 .rename_i j k;simp only[RW]at g d;obtain⟨a,f,rfl,l,i⟩:=g;obtain⟨b,h,rfl,m,e⟩:=d;by_cases c:j.length+k.length<=WL.lim;.rw[ago c]at q;have q:Eq1 F H X.K (.ok (.lst (j++k))) Q:=q;have o:=i.length;have n:=e.length;exact .inr (.inl ⟨a,b,f,h,rfl,rfl,s.seq l,s.seq m,by rw[<-o,<-n];exact agy c fw,λp r=>aeH s q (i.app e) r⟩)
  .rw[agq c]at q;exact q.elim
def aH:Calm WL.cu:=λx y c h=>by unfold WL.cu at h;split at h<;>first|(cases h)|(split at h<;>cases h)
def x9{f C g r}(h:OpR X f (rI C g))(k:∀x y w,r x y=.ok w->∃i j,x=.int i/\y=.int j/\C i j/\∀F,RW K F w (g i j))(cm:Calm r):OpR X f (lo2 K r):=by refine OpR.imp h λx y H Q d=>?_;refine qt d λF wx p s o l q=>?_;cases e:r _ _ with|bad=>rw[e]at q;exact q.elim|ex c=>exact(cm _ _ _ e).elim|ok w=>refine qv (k _ _ w e) λi j b a n m=>?_;subst b a;rw[e]at q;exact zV i j o l n (eq1 q (m F))
def xh{f g r}(h:OpR X f (rI0 g))(k:∀x y w,r x y=.ok w->∃i j,x=.int i/\y=.int j/\∀F,RW K F w (g i j))(cm:Calm r):OpR X f (lo2 K r):=by refine OpR.imp h λx y H Q d=>?_;refine qt d λF wx o s n l q=>?_;cases e:r _ _ with|bad=>rw[e]at q;exact q.elim|ex c=>exact(cm _ _ _ e).elim|ok w=>refine jN (k _ _ w e) λi j b a m=>?_;subst b a;rw[e]at q;exact⟨i,j,n,l,eq1 q (m F)⟩
def cO:Calm WL.jy:=λx y c h=>by unfold WL.jy at h;split at h<;>cases h
def aR:Calm WL.eW:=λx y c h=>by unfold WL.eW at h;split at h<;>first|(cases h)|(split at h<;>cases h)
def bq:Calm WL.oDiv:=λx y c h=>by unfold WL.oDiv at h;split at h<;>first|(cases h)|(split at h<;>cases h)
def aQ:Calm WL.oMod:=λx y c h=>by unfold WL.oMod at h;split at h<;>first|(cases h)|(split at h<;>cases h)
def kF:Calm WL.oLt:=λx y c h=>by unfold WL.oLt at h;split at h<;>cases h
def w_sub:OpR X (binaryOp .Sub) (lo2 K WL.jy):=xh abq (λx y w e=>by unfold WL.jy at e;split at e<;>cases e;exact⟨_,_,rfl,rfl,λF=>rfl⟩) cO
def w_mul:OpR X (binaryOp .Mult) (lo2 K WL.eW):=x9 abt (λx y w e=>by
 unfold WL.eW at e;split at e<;>first|(cases e)|skip
 split at e;.rename_i a;cases e;exact⟨_,_,rfl,rfl,a,λF=>rfl⟩
 .cases e) aR
def vM:OpR X (binaryOp .FloorDiv) (rI (λ_ j=>0<j/\j<10^100) λi j=>.int (i/j)):=opI λi j _ _ _ _ _ a q=>by
 have d:(0:Int)<j:=a.1;have c:j<10^100:=a.2;refine floordiv_int (by omega) (by rw[Int.fdiv_eq_ediv_of_nonneg i (by omega)];exact q) (.inl (PyProof.noPylong_of_log2 ?_));have b:j.natAbs<10^100:=by omega
 have:j.natAbs.log2<400:=(Nat.log2_lt (by omega)).mpr (agv b (by decide+kernel));omega
def w_div:OpR X (binaryOp .FloorDiv) (lo2 K WL.oDiv):=x9 vM (λx y w e=>by
 unfold WL.oDiv at e;split at e<;>first|(cases e)|skip
 split at e;.rename_i a;cases e;exact⟨_,_,rfl,rfl,a,λF=>rfl⟩
 .cases e) bq
def w_mod:OpR X (binaryOp .Mod) (lo2 K WL.oMod):=x9 abu (λx y w e=>by
 unfold WL.oMod at e;split at e<;>first|(cases e)|skip
 split at e;.rename_i a;cases e;exact⟨_,_,rfl,rfl,a,λF=>rfl⟩
 .cases e) aQ
def w_lt:OpR X (compareOp .Lt) (lo2 K WL.oLt):=xh ad2 (λx y w e=>by unfold WL.oLt at e;split at e<;>cases e;exact⟨_,_,rfl,rfl,λF=>rfl⟩) kF
def mH:UnR X (unaryOp .USub) (lo1 K WL.si):=UnR.imp aaw λx H Q a=>by
 refine jN a λF wx s b q=>?_;cases wx<;>first|exact q.elim|skip
 exact⟨_,b,q _ F H (Ext.refl F H) (rfl)⟩
def dt:∀x c,WL.si x≠.ex c:=λx c h=>by cases x<;>simp[WL.si]at h
def rA{F}{x y:VW}{v u}(h:WL.vq x y=true)(b:RW K F x v)(a:RW K F y u):adH v u=true/\decide (v=u)=WL.eqv x y:=by
 cases x<;>first|(cases h)|skip
 all_goals cases y<;>first|(cases h;done)|(subst b;subst a;exact⟨rfl,by first|rfl|exact ny|exact uh|exact nv ⟩)
def calm_eq:Calm WL.oEq:=λx y c h=>by simp only[WL.oEq]at h;split at h<;>first|(cases h)|(split at h<;>cases h)
def zM:Calm WL.oNe:=λx y c h=>by simp only[WL.oNe]at h;split at h<;>first|(cases h)|(split at h<;>cases h)
def w_eq(hK:X.K=K)(g:X.A.units+64<cLine):OpR X (compareOp .Eq) (lo2 K WL.oEq):=by
 subst hK;refine OpR.imp (ad3.or aby) λx y H Q a=>?_;refine qt a λF wx d s c b q=>?_;simp only[WL.oEq]at q;split at q;.rename_i h;obtain⟨f,e⟩:=rA h c b;exact .inl ⟨f,eq1 q (by simp[RW,e])⟩
 .split at q;.rename_i h;rw[agE]at h;refine .inr (wZ 50 _ _ (RW.isD _ _ x h.1 (c.keep s)) (RW.isD 50 d y h.2 (b.keep s)) (by omega) ?_);rw[i0 50 50 wx d h.1 h.2];exact eq1 q (rfl)
  .exact q.elim
def afQ(hK:X.K=K)(g:X.A.units+64<cLine):OpR X (compareOp .NotEq) (lo2 K WL.oNe):=by
 subst hK;refine OpR.imp (ad1.or abr) λx y H Q a=>?_;refine qt a λF wx d s c b q=>?_;simp only[WL.oNe]at q;split at q;.rename_i h;obtain⟨f,e⟩:=rA h c b;exact .inl ⟨f,eq1 q (by simp[RW,e])⟩
 .split at q;.rename_i h;rw[agE]at h;refine .inr (wZ 50 _ _ (RW.isD _ _ x h.1 (c.keep s)) (RW.isD 50 d y h.2 (b.keep s)) (by omega) ?_);rw[i0 50 50 wx d h.1 h.2];exact eq1 q (rfl)
  .exact q.elim
def nM:Calm WL.oIn:=λx y c h=>by cases y<;>simp only[WL.oIn]at h<;>first|(cases h)|(split at h<;>cases h)
def jJ:Calm WL.iO:=λx y c h=>by cases y<;>simp only[WL.iO]at h<;>first|(cases h)|(split at h<;>cases h)
def adt(hK:X.K=K)(g:X.A.units+64<cLine):OpR X (compareOp .In) (lo2 K WL.oIn):=by
 subst hK;refine OpR.imp abx λx y H Q a=>?_;refine qt a λF wx f s e d q=>?_;cases f<;>simp only[WL.oIn]at q<;>first|exact q.elim|skip
 all_goals
 rename_i b;by_cases h:(WL.okD 50 wx&&WL.e8 51 b)=true;.rw[ago h]at q;rw[agE]at h;have c:=RW.isD 51 _ y (by exact h.2) (d.keep s);refine wZ 50 _ (dy b) (RW.isD 50 wx x h.1 (e.keep s)) (by first|exact .inl c|exact .inr c) (by omega) ?_;rw[nX h.1 h.2];exact eq1 q (rfl)
 .rw[agq h]at q;exact q.elim
def qV(hK:X.K=K)(g:X.A.units+64<cLine):OpR X (compareOp .NotIn) (lo2 K WL.iO):=by
 subst hK;refine OpR.imp r9 λx y H Q a=>?_;refine qt a λF wx f s e d q=>?_;cases f<;>simp only[WL.iO]at q<;>first|exact q.elim|skip
 all_goals
 rename_i b;by_cases h:(WL.okD 50 wx&&WL.e8 51 b)=true;.rw[ago h]at q;rw[agE]at h;have c:=RW.isD 51 _ y (by exact h.2) (d.keep s);refine wZ 50 _ (dy b) (RW.isD 50 wx x h.1 (e.keep s)) (by first|exact .inl c|exact .inr c) (by omega) ?_;rw[nX h.1 h.2];exact eq1 q (rfl)
 .rw[agq h]at q;exact q.elim
def o4{F w v}(r:RW K F w v):decide (v=V.non)=WL.fy w:=by cases w;all_goals first|(subst r;rfl)|(refine cW r λa d b _=>?_;subst b;rfl)|(obtain⟨a,rfl,_⟩:=r;rfl)|(refine uR r λa C c b _=>?_;subst b;rfl)|(refine adm r λa C c l b _=>?_;subst b;rfl)
def abw:OpR X (compareOp .Is) λx y H Q=>∃b,y=.bl b/\Q (.bl (decide (x=.bl b))) H:=by
 intro d s σ H x y v u Q I a e h;obtain⟨b,rfl,q⟩:=h;cases e;refine wpAny_is_plain ?_ (aO I q ?_);.cases x<;>(obtain⟨t,rfl⟩:=a;rfl)
 .cases x with|bl c=>cases a;cases b<;>cases c<;>rfl|_=>(obtain⟨t,rfl⟩:=a;cases b<;>rfl)
def sd:OpR X (compareOp .IsNot) λx y H Q=>∃b,y=.bl b/\Q (.bl !decide (x=.bl b)) H:=by
 intro d s σ H x y v u Q I a e h;obtain⟨b,rfl,q⟩:=h;cases e;refine wpAny_isNot_plain ?_ (aO I q ?_);.cases x<;>(obtain⟨t,rfl⟩:=a;rfl)
 .cases x with|bl c=>cases a;cases b<;>cases c<;>rfl|_=>(obtain⟨t,rfl⟩:=a;cases b<;>rfl)
def xO{F w v b}(r:RW K F w v):decide (v=V.bl b)=WL.isB b w:=by cases w;all_goals first|(subst r;cases b<;>first|rfl|(rename_i c;cases c<;>rfl))|(refine cW r λa f d _=>?_;subst d;cases b<;>rfl)|(obtain⟨a,rfl,_⟩:=r;cases b<;>rfl)|(refine uR r λa C e d _=>?_;subst d;cases b<;>rfl)|(refine adm r λa C e l d _=>?_;subst d;cases b<;>rfl)
def uD:Calm WL.oIs:=λx y c h=>by cases y<;>simp[WL.oIs]at h
def eu:Calm WL.fu:=λx y c h=>by cases y<;>simp[WL.fu]at h
def w_is:OpR X (compareOp .Is) (lo2 K WL.oIs):=by
 refine OpR.imp (abv.or abw) λx y H Q a=>?_;refine qt a λF wx d s c b q=>?_;cases d<;>first|exact q.elim|skip
 .exact .inl ⟨b,eq1 q (by simp[RW,o4 c])⟩
 .exact .inr ⟨_,b,eq1 q (by simp[RW,xO c])⟩
def jQ:OpR X (compareOp .IsNot) (lo2 K WL.fu):=by
 refine OpR.imp (yR.or sd) λx y H Q a=>?_;refine qt a λF wx d s c b q=>?_;cases d<;>first|exact q.elim|skip
 .exact .inl ⟨b,eq1 q (by simp[RW,o4 c])⟩
 .exact .inr ⟨_,b,eq1 q (by simp[RW,xO c])⟩
def acv{F ws vs i w}(r:RWs K F ws vs)(h:WL.atI ws i=some w):∃v,L2.atI vs i=some v/\RW K F w v:=by unfold WL.atI at h;cases e:WL.ixN _ i with|none=>rw[e]at h;cases h|some j=>rw[e]at h;obtain⟨v,b,a⟩:=r.get h;refine⟨v,?_,a⟩;unfold L2.atI;rw[<-r.length,show L2.ixN _ i=some j from e];exact b
def uC:Calm WL.oIx:=λx y c h=>by
 unfold WL.oIx at h;split at h<;>first|(cases h)|skip
 all_goals revert h;first|(cases WL.atI _ _<;>simp[WL.ofO];done)|(cases WL.wJ _ _ _<;>simp[WL.ofO])
theorem ud{F}(k)(w:VW):∀{kvs:List (Key×V)}{ks vs},RWs K F ks (kvs.map λp=>kV p.1)->RWs K F vs (kvs.map λp=>p.2)->WL.wJ k ks vs=some w->∃v,qX kvs (Sum.inr k)=some v/\RW K F w v
|[],ks,vs,r1,r2,e=>by cases ks with|nil=>simp[WL.wJ]at e|cons x ks=>simp[RWs]at r1
|p::kvs,ks,vs,r1,r2,e=>by cases ks with|nil=>simp[WL.wJ]at e|cons x ks=>
 cases vs with|nil=>cases x<;>cases e|cons y vs=>obtain⟨q,s,m,a,c⟩:=r1;obtain⟨r,o,l,n,d⟩:=r2;cases m;cases l;cases x with|str x=>
     simp only[RW]at a;have b:p.1=Sum.inr x:=by cases b:p.1 with|inl i=>rw[b]at a;cases i<;>exact absurd a (by simp[kV])|inr z=>rw[b]at a;simp only[kV]at a;cases a;rfl
     simp only[WL.wJ]at e;by_cases h:x=k;.subst h;simp at e;subst e;exact⟨p.2,fb b,n⟩
     .have f:(x==k)=false:=by simpa using h
      rw[f]at e;obtain⟨v,j,g⟩:=ud k w c d (by simpa using e);exact⟨v,by rw[fc λz=>h (by rw[b]at z;exact Sum.inr.inj z)];exact j,g⟩|_=>simp[WL.wJ]at e
def ae2(hK:X.K=K):IxR X (lo2 K WL.oIx):=by
 subst hK;refine IxR.imp ((sZ.or xN).or s9) λx y H Q h=>?_;obtain⟨F,wx,t,s,j,g,q⟩:=h;unfold WL.oIx at q;split at q;rotate_left 2;.rename_i p c k;obtain⟨a,l,rfl,f,o,n⟩:=j;cases e:WL.wJ k p c with|none=>rw[e]at q;exact q.elim|some w=>rw[e]at q;obtain⟨v,d,b⟩:=ud k w o n e;exact .inr ⟨a,_,Sum.inr k,v,rfl,g,s.rd f,d,eq1 q b⟩
 .exact q.elim
 all_goals rename_i m i;obtain⟨a,c,rfl,f,r⟩:=j;cases e:WL.atI m i with|none=>rw[e]at q;exact q.elim|some w=>rw[e]at q;obtain⟨v,d,b⟩:=acv r e;first|exact .inl (.inl ⟨a,c,i,v,rfl,g,s.seq f,d,eq1 q b⟩)|exact .inl (.inr ⟨a,c,i,v,rfl,g,s.tup f,d,eq1 q b⟩)
def x8(hK:X.K=K):SlR X (afo K):=by
 subst hK;have i:WL.sIx=HT.sIx:=rfl;refine SlR.imp (yl.or aaN) λx lo g H Q f=>?_;refine jN f λF wx s h q=>?_;cases wx<;>simp [WL.oSl]at q<;>first|exact q.elim|skip
 .obtain⟨a,c,rfl,e,b⟩:=h;split at q;.exact q.elim
  .rename_i hw;rw[i,b.length]at hw;exact .inr (zV a c rfl (s.tup e) hw λp d=>aeG s q (b.cut lo g) d)
 .obtain⟨a,c,rfl,e,b⟩:=h;exact .inl (hJ a c rfl (s.seq e) λp d=>aeH s q (b.cut lo g) d)
def eK{F w xs}(r:RWs K F [w] xs):∃v,xs=[v]/\RW K F w v:=by obtain⟨v,t,rfl,h,rfl⟩:=r;exact⟨v,rfl,h⟩
def two_of{F w b xs}(r:RWs K F [w,b] xs):∃v a,xs=[v,a]/\RW K F w v/\RW K F b a:=by obtain⟨v,t,rfl,h,a,d,rfl,c,rfl⟩:=r;exact⟨v,a,rfl,h,c⟩
def k6(hK:X.K=K):bu X (.builtin "len") (loN K WL.mu):=by
 subst hK;refine bu.imp l9 λf H Q d=>?_;refine jN d λF ws s r q=>?_;unfold WL.mu at q;split at q;.obtain⟨v,rfl,h⟩:=eK r;obtain⟨a,b,rfl,c,e⟩:=h;exact⟨a,b,rfl,.inl (s.seq c),eq1 q (by simp[RW,e.length])⟩
 .obtain⟨v,rfl,h⟩:=eK r;obtain⟨a,b,rfl,c,e⟩:=h;exact⟨a,b,rfl,.inr (s.tup c),eq1 q (by simp[RW,e.length])⟩
 .exact q.elim
def x6(hK:X.K=K):bu X (.type "tuple") (loN K WL.gC):=by
 subst hK;refine bu.imp kG λj H Q e=>?_;refine jN e λF ws s r q=>?_;unfold WL.gC at q;split at q;.obtain⟨v,rfl,h⟩:=eK r;refine jN h λa c b d f=>?_;subst b;exact⟨a,c,rfl,.inl ⟨s.seq d,λl i=>aeG s q f i⟩⟩
 .refine gD (eK r) λv b h=>?_;subst b;have g:=h;refine jN h λa c b d f=>?_;subst b;exact⟨a,c,rfl,.inr ⟨s.tup d,eq1 q g⟩⟩
 .exact q.elim
def xg:bu X (.type "int") (loN K WL.xU):=bu.imp uH λb H Q a=>by obtain⟨F,ws,s,r,q⟩:=a;cases e:WL.xU ws with|bad|ex c=>rw[e]at q;exact q.elim|ok w=>
 rw[e]at q;unfold WL.xU at e;split at e;.cases e;obtain⟨v,rfl,h⟩:=eK r;simp only[RW]at h;subst h;exact .inr ⟨_,rfl,eq1 q (by simp[RW])⟩
 .cases e;obtain⟨v,rfl,h⟩:=eK r;simp only[RW]at h;subst h;exact .inl ⟨_,rfl,eq1 q (by simp[RW])⟩
 .cases e
noncomputable def adu:VW->Value|.non=>.type "NoneType"|.bl _=>.type "bool"|.int _=>.type "int"|.str _=>.type "str"|.ty _=>.type "type"|.tup _=>.type "tuple"|.lst _=>.type "list"|.dic _ _=>.type "dict"|.cls _=>.type "type"|.exc _ _=>.none|.ins _ _=>.none|.id _=>.none
def sP{w:VW}{t b}(h:WL.isK w t=some b):W.kitOne K (adu w) (.type t)=some b:=by
 have ht:=by
  cases w<;>first|(cases h;done)|(change(if _ then _ else _)=_ at h)
  all_goals
  split at h;.rename_i a;simpa using a
  .cases h
 cases w<;>rcases ht with rfl|rfl|rfl|rfl|rfl<;>first|(cases h;done)|(rw[<-h];rfl)
def abJ{F H a vs}(s:aw F H)(h:SqL K F a vs):TyOf K H (.ref a) (.type "list")\/∃o b n,K.lookup a=some o/\o.cls=.type "list"/\o.dict=none/\o.data=.seq b n:=by
 rcases h with(h|⟨o,h⟩)|⟨o,b,n,f,e,d,c,_⟩;.exact .inl (.lst (s _ _ h))
 .exact .inl (.frz (s _ _ h))
 .exact .inr (wZ o _ n f e d c)
def ma:bu X (.builtin "isinstance") λc H Q=>∃a o T b,c=[.ref a,.ty T]/\X.K.lookup a=some o/\o.cls=.type "list"/\W.kitOne X.K (.type "list") (.type T)=some b/\Q (.bl b) H:=by intro d s σ H c l Q I r h;obtain⟨a,o,T,b,rfl,i,g,e,q⟩:=h;obtain⟨u,k,rfl,j,f⟩:=vals2 r;cases f;cases j;exact ahx ajk I.kIn ⟨o,I.kIn a o i,g⟩ e (λz=>nomatch z) λtk=>⟨.bl b,H,I.tok _,rfl,q⟩
def cE(hK:X.K=K):bu X (.builtin "isinstance") (loN K WL.bB):=by subst hK;refine bu.imp (nQ.or ma) λC H Q f=>?_;obtain⟨F,ws,s,r,q⟩:=f;cases e:WL.bB ws with|bad|ex c=>rw[e]at q;exact q.elim|ok w=>
  rw[e]at q;unfold WL.bB at e;split at e
  .rename_i x t;split at e;.rename_i b j;cases e;obtain⟨v,A,rfl,h,l⟩:=two_of r;subst l;have d:=sP (K:=X.K) j;have fin:Q (.bl b) H:=eq1 q (by simp[RW]);cases x with|non=>simp only[RW]at h;subst h;exact .inl ⟨_,t,_,b,rfl,.inl .non,d,fin⟩|bl k=>simp only[RW]at h;subst h;exact .inl ⟨_,t,_,b,rfl,.inl (.bl k),d,fin⟩|int k=>simp only[RW]at h;subst h;exact .inl ⟨_,t,_,b,rfl,.inl (.int k),d,fin⟩|str k=>simp only[RW]at h;subst h;exact .inl ⟨_,t,_,b,rfl,.inl (.str k),d,fin⟩|ty k|dic _ _|cls _|exc _ _|ins _ _|id _=>cases j|tup ys=>obtain⟨a,i,rfl,g,y⟩:=h;exact .inl ⟨_,t,_,b,rfl,.inr ⟨a,i,rfl,rfl,s.tup g⟩,d,fin⟩|lst ys=>
     obtain⟨a,i,rfl,g,y⟩:=h;rcases abJ s g with ty|⟨o,u,n,p,m,B,z⟩;.exact .inl ⟨_,t,_,b,rfl,.inl ty,d,fin⟩
     .exact .inr ⟨a,o,t,b,rfl,p,m,d,fin⟩
   .cases e
  .cases e
def cP:∀a c,WL.mu a≠.ex c:=λa c h=>by unfold WL.mu at h;split at h<;>cases h
def qo:∀a c,WL.gC a≠.ex c:=λa c h=>by unfold WL.gC at h;split at h<;>cases h
def l7:∀a c,WL.xU a≠.ex c:=λa c h=>by unfold WL.xU at h;split at h<;>cases h
def bh:∀a c,WL.bB a≠.ex c:=λa c h=>by
 unfold WL.bB at h;split at h;.split at h<;>cases h
 .cases h
end
structure Walk(K:W.Frag)(J:It)(xs:List VW)(F:Hp):Prop where
 go:∀(i:Nat)(x:VW),xs[i]?=some x->∀F1 H1:Hp,aw F F1->aw F1 H1->J.go i H1/\∀v H2,J.yld i H1 v H2->∃F2,Ext F1 H1 F2 H2/\RW K F2 x v
 stop:∀F1 H1:Hp,aw F F1->aw F1 H1->J.stop xs.length H1
def loI(B:Bx)(it:LF):TI:=λa H R=>∃σ F,RS B σ a F H/\Rq B σ F (it σ) λd=>∀J b c,RS B σ a c b->Gr F H c b->Walk B.K J d c->R J b
def qS{K a xs vs F}(h:SqL K F a vs)(r:RWs K F xs vs):Walk K (Itl K a) xs F:=by refine⟨λi x e g j b c=>?_,λg j b c=>⟨vs,c.seq (b.seq h),by rw[r.length];exact agx _⟩⟩;refine gD (r.get e) λv f k=>?_;refine⟨⟨vs,v,c.seq (b.seq h),f⟩,λu m d=>?_⟩;obtain⟨l,y⟩:=d;subst l;have:=y _ (c.seq (b.seq h));rw[f]at this;cases this;exact⟨g,Ext.refl _ _,k.keep b⟩
def uZ{K a xs vs F}(h:SqT K F a vs)(r:RWs K F xs vs):Walk K (Itt K a) xs F:=by refine⟨λi x e g j b c=>?_,λg j b c=>⟨vs,c.tup (b.tup h),by rw[r.length];exact agx _⟩⟩;refine gD (r.get e) λv f k=>?_;refine⟨⟨vs,v,c.tup (b.tup h),f⟩,λu m d=>?_⟩;obtain⟨l,y⟩:=d;subst l;have:=y _ (c.tup (b.tup h));rw[f]at this;cases this;exact⟨g,Ext.refl _ _,k.keep b⟩
def j0(lo)(n):(WL.rng lo n).length=n:=by simp[WL.rng]
def og{K lo n F}:Walk K (Itr lo n) (WL.rng lo n) F:=by
 refine⟨λi x e c f d h=>?_,λc f d h=>by rw[j0];exact agx n⟩;have b:=by have:=(agu.mp e).1;rwa[j0]at this
 refine⟨b,λv j a=>?_⟩;obtain⟨g,y⟩:=a;subst g y;refine⟨c,Ext.refl _ _,?_⟩;simp only[WL.rng,agT,ahq b]at e;have e:=agS e;subst e;simp[RW]
theorem kB:∀(xs:List VW)(k i:Nat),(WL.i1 k xs)[i]?=xs[i]?.map λx=>.tup [.int (k+i:Nat),x]|[],_,_=>rfl|x::xs,k,0=>rfl|x::xs,k,i+1=>by simp only[WL.i1,List.getElem?_cons_succ];rw[kB _ _ i];congr 1;funext y;congr 4;omega
theorem kA:∀(xs:List VW)k,(WL.i1 k xs).length=xs.length|[],_=>rfl|x::xs,k=>by simp [WL.i1,kA _ _]
def qT{K a xs vs F}(h:SqT K F a vs)(r:RWs K F xs vs):Walk K (Ite K a) (WL.i1 0 xs) F:=by refine⟨λi x e s n b c=>?_,λs n b c=>⟨vs,c.tup (b.tup h),by rw[kA,r.length];exact agx _⟩⟩;rw[kB]at e;cases d:xs[i]? with|none=>rw[d]at e;cases e|some y=>rw[d]at e;obtain⟨v,k,o⟩:=r.get d;have e:=agS e;subst e;refine⟨⟨vs,v,c.tup (b.tup h),k⟩,λu t f=>?_⟩;refine gL f λp q j m=>?_;subst q;obtain⟨z,l,rfl⟩:=m vs (c.tup (b.tup h));rw[k]at l;cases l;have g:=c.free j;refine⟨_,Ext.new g j _,p,_,rfl,SqT.of aq,?_⟩;simp only[RWs,RW];refine⟨_,_,rfl,?_,_,_,rfl,(o.keep b).keep (aC g _),rfl⟩;simp
def pH{K a xs vs F}(h:SqL K F a vs)(r:RWs K F xs vs):Walk K (adk K a) (WL.i1 0 xs) F:=by refine⟨λi x e s n b c=>?_,λs n b c=>⟨vs,c.seq (b.seq h),by rw[kA,r.length];exact agx _⟩⟩;rw[kB]at e;cases d:xs[i]? with|none=>rw[d]at e;cases e|some y=>rw[d]at e;obtain⟨v,k,o⟩:=r.get d;have e:=agS e;subst e;refine⟨⟨vs,v,c.seq (b.seq h),k⟩,λu t f=>?_⟩;refine gL f λp q j m=>?_;subst q;obtain⟨z,l,rfl⟩:=m _ (c.seq (b.seq h));rw[k]at l;cases l;have g:=c.free j;refine⟨_,Ext.new g j _,p,_,rfl,SqT.of aq,?_⟩;simp only[RWs,RW];refine⟨_,_,rfl,?_,_,_,rfl,(o.keep b).keep (aC g _),rfl⟩;simp
section
variable{X:Cx}{B:Bx}{e tg iter:Expr}{pos:Pos}{ta tb:EF}{it:LF}{g:GF}{b:SF}
def tSq(K:W.Frag)(f:TE):TI:=λσ H R=>f σ H λx c=>∃a,x=.ref a/\((∃d,SqL K c a d)/\R (Itl K a) c\/(∃d,SqT K c a d)/\R (Itt K a) c)
def yK{pins}{σ:L2.St}{d R c x v}(f:Inv X pins σ d c)(m:RelV x v)(q:∃a,x=.ref a/\((∃h,SqL X.K d a h)/\R (Itl X.K a) d\/(∃h,SqT X.K d a h)/\R (Itt X.K a) d)):wpAny (model X.prog X.w) X.A (pyIter v) (PIE X pins σ tg R) X.xe c:=by
 obtain⟨a,e,n⟩:=q;subst e;cases m;have k:∀b∈[c.heap.objs.size],n3 X pins d b:=λb s=>by
  have e:b=c.heap.objs.size:=by grind
  subst e;exact f.ab7 (agx _) (f.hok.fresh (agx _))
 rcases n with⟨⟨h,j⟩,q⟩|⟨⟨h,j⟩,q⟩;.obtain⟨i,l,p,r⟩:=f.list j;exact aix p.isList (ae1 c.heap.objs.size [c.heap.objs.size] _ _ d rfl (f.kept λb o e=>agm _ e) (q0 a _) ⟨_,agA _ rfl,rfl,rfl⟩ k q)
 .obtain⟨i,l,p,r⟩:=f.tuple j;exact aik p (ae1 c.heap.objs.size [c.heap.objs.size] _ _ d rfl (f.kept λb o e=>agm _ e) (pI a _) ⟨_,agA _ rfl,rfl,rfl⟩ k q)
def abg{l d}(f:PE X l d):PI X tg l (tSq X.K d):=λc s σ H R I h=>thn (f _ s σ H _ I h) λv k a=>by refine jN a λx m i j q=>?_;exact yK i j q
def y4{K}(hK:K=B.K):∀c H R,loI B (WL.zo ta) c H R->tSq K (lo B ta) c H R:=λc H R i=>by refine cW i λσ F p q=>?_;have q:=Rq.bind q;refine eI σ F p (Rq.mono (aw.refl _) q λx j v o n f m l=>?_);cases x with|lst xs=>obtain⟨a,h,rfl,d,k⟩:=l;refine⟨a,rfl,.inl ⟨⟨h,by rw[hK];exact f.rb.sub.seq d⟩,?_⟩⟩;rw[hK];exact j _ _ n f m (qS d k)|tup xs=>obtain⟨a,h,rfl,d,k⟩:=l;refine⟨a,rfl,.inr ⟨⟨h,by rw[hK];exact f.rb.sub.tup d⟩,?_⟩⟩;rw[hK];exact j _ o n f m (uZ d k)|_=>exact(j).elim
def qJ(hK:X.K=B.K)(h:PE X e (lo B ta)):PI X tg e (loI B (WL.zo ta)):=PI.imp (abg h) (y4 hK)
def dA{a p pos}(z:Gl X "range")(C:X.mg "range"=none)(h:PE X a (lo B ta))(hs:starEach [a] X.env=[(false,eval a X.env)]:=by rfl)(f:starEach [a] X.env=(false,eval a X.env)::starEach [] X.env:=by rfl):PI X tg (.Call (.Name "range" p) [a] [] pos) (loI B (WL.dj ta)):=PI.imp (rX z C (aa h ah f) hs) λi H R l=>by
 refine cW l λσ F s q=>?_;have q:=Rq.bind q;have t:Rq B σ F (WL.ae ta WL.ax σ) λws=>∀k n o,RS B σ i o n->Gr F H o n->RWs B.K o ws k->∃j:Int,k=[.int j]/\-2^62<=j/\j<2^62/\R (Itr 0 j.toNat) n:=by show Rq B σ F ((ta σ).bind λx=>.ok [x]) _;cases e:ta σ with
 |ok x=>
   rw[e]at q;intro k r D u A y;refine gD (eK y) λv m w=>?_;subst m
   cases x with|int j=>
    subst w;have q:Rq B σ F (if -2^62<=j/\j<2^62 then .ok (WL.rng 0 j.toNat)else .bad) _:=q;by_cases d:-2^62<=j/\j<2^62;.rw[ago d]at q;exact⟨j,rfl,d.1,d.2,q _ r D u A og⟩
    .rw[agq d]at q;exact q.elim|_=>exact(q).elim
 |ex c=>rw[e]at q;exact q|bad=>rw[e]at q;exact q
 exact eI σ F s t
def x1{a c p pos}(D:Gl X "range")(N:X.mg "range"=none)(h:PE X a (lo B ta))(h':PE X c (lo B tb))(hs:starEach [a,c] X.env=[(false,eval a X.env),(false,eval c X.env)]:=by rfl)(f:starEach [c] X.env=[(false,eval c X.env)]:=by rfl)(r:starEach [a,c] X.env=(false,eval a X.env)::starEach [c] X.env:=by rfl)(d:starEach [c] X.env=(false,eval c X.env)::starEach [] X.env:=by rfl):PI X tg (.Call (.Name "range" p) [a,c] [] pos) (loI B (WL.ni ta tb)):=PI.imp (rW D N (aa h (aa h' ah d) r) hs f) λk H R l=>by
 refine cW l λσ F z q=>?_;have q:=Rq.bind q;have I:Rq B σ F (WL.ae ta (WL.ae tb WL.ax) σ) λws=>∀s n o,RS B σ k o n->Gr F H o n->RWs B.K o ws s->∃i j:Int,s=[.int i,.int j]/\(-2^62<=i/\i<2^62/\-2^62<=j/\j<2^62)/\R (Itr i (j-i).toNat) n:=by show Rq B σ F ((ta σ).bind λx=>((tb σ).bind _).bind λG=>.ok (x::G)) _;cases e:ta σ with
 |ok x=>rw[e]at q;have q:=Rq.bind q;cases u:tb σ with
  |ok y=>rw[u]at q;intro s w E A M K;refine jN (two_of K) λv O t C J=>?_;subst t;cases x with
   |int i=>cases y with|int j=>
      subst C J;have q:Rq B σ F (if -2^62<=i/\i<2^62/\-2^62<=j/\j<2^62 then .ok (WL.rng i (j-i).toNat)else .bad) _:=q;by_cases m:-2^62<=i/\i<2^62/\-2^62<=j/\j<2^62;.rw[ago m]at q;exact⟨i,j,rfl,m,q _ w E A M og⟩
      .rw[agq m]at q;exact q.elim|_=>exact(q).elim
   |_=>exact(q).elim
  |ex c=>rw[u]at q;exact q|bad=>rw[u]at q;exact q
 |ex c=>rw[e]at q;exact q|bad=>rw[e]at q;exact q
 exact eI σ F z I
def x2{l es k z p pos}(hK:X.K=B.K)(w:Gl X "enumerate")(y:X.mg "enumerate"=none)(h:PE X l (lo B ta))(hs:starEach [l] X.env=[(false,eval l X.env)]:=by rfl):PI X (.Tuple es k z) (.Call (.Name "enumerate" p) [l] [] pos) (loI B (WL.zq ta)):=PI.imp (mV w y h hs) λu H R i=>by refine cW i λσ F t q=>?_;have q:=Rq.bind q;refine eI σ F t (Rq.mono (aw.refl _) q λx j v n s d r o=>?_);cases x with|tup xs=>obtain⟨a,f,rfl,c,m⟩:=o;refine⟨a,rfl,.inl ⟨⟨f,by rw[hK];exact d.rb.sub.tup c⟩,?_⟩⟩;rw[hK];exact j _ n s d r (qT c m)|lst xs=>obtain⟨a,f,rfl,c,m⟩:=o;refine⟨a,rfl,.inr ⟨⟨f,by rw[hK];exact d.rb.sub.seq c⟩,?_⟩⟩;rw[hK];exact j _ n s d r (pH c m)|_=>exact(j).elim
variable{m:Bool}{es:List Expr}{gs:GsF}
def x4{i}(h:PG X e (L2.aA i)):PG X e (loG m B (WL.aA i)):=PG.imp h λv c H Q a=>by obtain⟨σ,F,w,R,r,q⟩:=a;exact q _ H F (R.set r) Gm.refl
def fP:PGs X [] (ac1 m B WL.mr):=PGs.imp yL λd c H Q a=>by refine uQ a λσ F ws R r q=>?_;cases ws with|nil=>exact⟨r,q _ H F R Gm.refl⟩|cons w ws=>exact(q).elim
def bc(s:PG X e (loG m B g))(p:PGs X es (ac1 m B gs))(hs:(assignEach (e::es) X.env).map (·.2)=assign e X.env::(assignEach es X.env).map (·.2):=by rfl):PGs X (e::es) (ac1 m B (WL.bA g gs)):=PGs.imp (vF s p hs) λz o H Q a=>by refine uQ a λσ F ws R r q=>?_;cases ws with|nil=>exact(q).elim|cons w ws=>obtain⟨v,t,rfl,r,rt⟩:=r;refine⟨v,t,rfl,σ,F,w,R,r,?_⟩;have q:Rq B σ F (match g w σ with|.ok σ'=>(match gs _ σ' with|.ok σ2=>.ok σ2|_=>.bad)|_=>.bad) _:=q;cases d:g w σ with|bad=>rw[d]at q;exact q|ex c=>rw[d]at q;exact q.elim|ok σ1=>rw[d]at q;intro i y x n j;have q:Rq B σ F (match gs ws σ1 with|.ok σ2=>.ok _|_=>.bad) _:=q;refine aai σ1 x ws n (rt.keep j.f) ?_;cases f:gs ws σ1 with|bad=>rw[f]at q;exact q|ok σ2=>rw[f]at q;exact λh u l R2 k=>q _ u l R2 (j.trans k)|ex c=>rw[f]at q;exact q.elim
def ji{k n}(hK:X.K=B.K)(t:X.calm=true)(h:PGs X es (ac1 m B gs))(p:(assignEach es X.env).length=n)(y:∀ws σ d,gs ws σ=.ok d->ws.length=n)(z:∀ws σ c,gs ws σ≠.ex c)(f:(assignEach es X.env).findIdx? (·.1)=none:=by rfl):PG X (.Tuple es k pos) (loG m B (WL.mq gs)):=PG.imp (abh t h p f) λv s H Q j=>by refine uQ j λσ F w R r q=>?_;cases w with
|tup ws=>refine jN r λa u i x o=>?_;subst i;have q:Rq B σ F (gs _ σ) _:=q;refine⟨a,u,rfl,by rw[hK];exact R.rb.sub.tup x,?_,σ,F,ws,R,o,q⟩;cases l:gs _ σ with|ok d=>rw[<-o.length];exact y _ _ _ l|ex c=>exact(z _ _ _ l).elim|bad=>rw[l]at q;exact q.elim
|_=>exact(q).elim
def jE:∀ws σ a,WL.mr ws σ=.ok a->ws.length=0:=λws σ a h=>by cases ws<;>simp[WL.mr]at h;rfl
def bI{n}(h:∀ws σ a,gs ws σ=.ok a->ws.length=n):∀ws σ a,WL.bA g gs ws σ=.ok a->ws.length=n+1:=λws σ a q=>by cases ws with|nil=>simp[WL.bA]at q|cons w ws=>have q:(match g w σ with|.ok _=>(match gs _ _ with|.ok _=>Res.ok _|_=>.bad)|_=>.bad)=.ok _:=q;cases d:g w σ with
 |ok σ1=>rw[d]at q;have q:(match gs ws _ with|.ok σ2=>Res.ok _|_=>.bad)=.ok _:=q;cases f:gs ws σ1 with|ok σ2=>simp[h _ _ _ f]|ex c|bad=>rw[f]at q;cases q
 |ex c=>rw[d]at q;cases q|bad=>rw[d]at q;cases q
def cQ:∀ws σ c,WL.bA g gs ws σ≠.ex c:=λws σ c q=>by cases ws with|nil=>simp[WL.bA]at q|cons w ws=>have q:(match g w σ with|.ok _=>(match gs _ _ with|.ok _=>Res.ok _|_=>.bad)|_=>.bad)=.ex c:=q;cases a:g w σ with|ok σ1=>rw[a]at q;have q:(match gs _ _ with|.ok σ2=>Res.ok _|_=>.bad)=.ex c:=q;cases d:gs _ _<;>rw[d]at q<;>cases q|ex c=>rw[a]at q;cases q|bad=>rw[a]at q;cases q
def o6(h:∀ws σ c,gs ws σ≠.ex c):∀w σ c,WL.mq gs w σ≠.ex c:=λw σ c q=>by cases w<;>simp [WL.mq]at q<;>exact h _ _ _ q
abbrev Bx.calm(B:Bx):Bx:=⟨B.K,B.H0,B.F0,λ_ _ _=>False,λ_ _ _ _ _ h=>h⟩
def RS.aaB{σ a F H}(R:RS B σ a F H):RS B.calm σ a F H:=⟨⟨R.rb.sub,R.rb.base,R.rb.fz0,R.rb.fr⟩,R.len,R.va,R.ow,R.ap,R.dd⟩
def RB.abE{F H}(R:RB B.calm F H):RB B F H:=⟨R.sub,R.base,R.fz0,R.fr⟩
def RS.ahead{σ:Ws}{f:L2.St}{F H:Hp}(R:RS B σ f F H)(k:Nat):RS B (List.replicate k .no++σ) (List.replicate k none++f) F H:=by
 have c:∀{i:Nat}{r:Sl},(List.replicate k Sl.no++σ)[i]?=some r->r≠.no->k<=i/\σ[i-k]?=some r:=λ{i r}e N=>by
  by_cases d:i<k;.rw[ahs (by simpa using d)]at e;rw[ahX,ago d]at e;exact absurd (agS e).symm N
  .rw[ahm (by simp;omega)]at e;simp only[ah3]at e;exact⟨by omega,e⟩
 have q:∀{i:Nat}{x:Option V},k<=i->f[i-k]?=some x->(List.replicate k none++f)[i]?=some x:=λ{i x}d e=>by rw[ahm (by simp;omega)];simpa using e
 have p:∀{i:Nat}{x:Option V},k<=i->(List.replicate k none++f)[i]?=some x->f[i-k]?=some x:=λ{i x}d e=>by rw[ahm (by simp;omega)]at e;simpa using e
 refine⟨R.rb,by simp[R.len],λi w e=>?_,λi ws e=>?_,λi j ws s a I o n t G=>?_,λi A D e=>?_,λi j A D J u a I o n t G=>?_,λi e=>?_⟩;rotate_left 3;.obtain⟨d,e⟩:=c e (by intro z;cases z);obtain⟨a,E,l,h⟩:=R.dd.od _ A D e;exact⟨a,E,q d l,h⟩
 .obtain⟨d,o⟩:=c o (by intro z;cases z);obtain⟨y,n⟩:=c n (by intro z;cases z);exact R.dd.ad _ _ A D J u a (by omega) o n (p d t) (p y G)
 .obtain⟨d,e⟩:=c e (by intro z;cases z);obtain⟨a,C,M,l,h⟩:=R.dd.ob _ e;exact⟨a,C,M,q d l,h⟩
 .obtain⟨d,e⟩:=c e (by intro z;cases z);obtain⟨v,l,h⟩:=R.va _ w e;exact⟨v,q d l,h⟩
 .obtain⟨d,e⟩:=c e (by intro z;cases z);obtain⟨a,K,l,h⟩:=R.ow _ ws e;exact⟨a,K,q d l,h⟩
 .obtain⟨d,o⟩:=c o (by intro z;cases z);obtain⟨y,n⟩:=c n (by intro z;cases z);exact R.ap _ _ ws s a (by omega) o n (p d t) (p y G)
def RS.forget{σ c d F H}(R:RS B σ d F H)(q:c.length=σ.length)(h:∀(i:Nat)f,c[i]?=some f->f≠.no->σ[i]?=some f):RS B c d F H:=⟨R.rb,by rw[q];exact R.len,λi w e=>R.va i w (h i _ e (by simp)),λi ws e=>R.ow i ws (h i _ e (by simp)),λi j ws k a l t r=>R.ap i j ws k a l (h i _ t (by simp)) (h j _ r (by simp)),R.dd.via rfl id (λ_ _ z=>.inl z) (λi f p e=>⟨h i _ e (by intro z;subst z;exact p),rfl⟩) (aw.refl _) λ_ _ _ a o _ _ s u n=>⟨u,n,s⟩⟩
def Keeps(k:Nat)(g:GF):Prop:=∀w σ a,g w σ=.ok a->a.length=σ.length/\∀j:Nat,k<=j->a[j]?=σ[j]?
def cj{k i}(h:i<k):Keeps k (WL.aA i):=λw σ a e=>by cases e;exact⟨by simp,λj c=>by grind⟩
end
end WS
set_option autoImplicit true
set_option relaxedAutoImplicit true
namespace WS
open PySem PySem.Spec PyProof.Rows L2
open WL(Res Sl Ws EF TF AF LF GF GsF SF Out)
section
variable{X:Cx}{B:Bx}{e tg iter:Expr}{pos:Pos}{ta tb:EF}{tt:TF}{it:LF}{g:GF}{b:SF}{k:Nat}
def wL   (hg:Keeps k g)(R1:RS B σ σV F1 H1)(wk:Walk B.K J xs F1)(hx:xs.length<=WL.lim)(hc:WL.cD g tt ta (List.replicate k .no++σ) xs=.ok all)(fin:∀n l h,RB B l h->Gr F1 H1 l h->RWs B.K l all n->∀D,h D=none->Q (.ref D) (upd h D (.lst n))):jL (aw H1) J (loG true B.calm g) (loT B.calm tt) (lo B.calm ta) (List.replicate k none++σV) H1 Q:=by
 refine⟨λi m n q h=>m=xs.length-i/\i<=xs.length/\n.length<=i/\∃l d rest,RS B.calm (List.replicate k .no++σ) q l h/\Gr F1 H1 l h/\RWs B.K l d n/\WL.cD g tt ta (List.replicate k .no++σ) (xs.drop i)=.ok rest/\d++rest=all,⟨xs.length,rfl,agV _,agV _,F1,[],all,(R1.aaB).ahead k,Gr.refl,by simp[RWs],by simpa using hc,rfl⟩,?_⟩;rintro i m n q h⟨rfl,hi,S,l,d,rest,K,w,P,a,f⟩;refine⟨w.h,Nat.lt_of_le_of_lt (agy S (agy hi hx)) (by decide),?_⟩;by_cases s:i<xs.length;.have hd:=ahQ s;rw[hd]at a;obtain⟨go,Z⟩:=wk.go i xs[i] (agH s) l h w.f K.rb.sub;refine .inr ⟨go,λr z A=>r.length<=i+1/\∃x d rest,RS B.calm (List.replicate k .no++σ) z x A/\Gr F1 H1 x A/\RWs B.K x d r/\WL.cD g tt ta (List.replicate k .no++σ) (xs.drop (i+1))=.ok rest/\d++rest=all,λr z A⟨a1,a2⟩=>⟨xs.length-(i+1),by omega,rfl,s,a1,a2⟩,λv A hy=>?_⟩;obtain⟨x,U,r2⟩:=Z v A hy;simp only[WL.cD]at a;cases C:g xs[i] (List.replicate k .no++σ)with|bad=>rw[C]at a;cases a|ex c=>rw[C]at a;cases a|ok σ1=>
   rw[C]at a;obtain⟨kl,kk⟩:=hg _ _ _ C;refine⟨_,x,xs[i],U.rs _ _ _ K,r2,?_⟩;rw[C];intro p H3 F3 R3 N;have back:∀{t H:Hp},RS B.calm σ1 p t H->RS B.calm (List.replicate k .no++σ) p t H:=λ{t H}G=>G.forget kl.symm λj sl R ne=>by
    by_cases Y:j<k;.rw[ahs (by simpa using Y),ahX,ago Y]at R;exact absurd (agS R).symm ne
    .rw[kk j (by omega)];exact R
   have o:=U.gr.trans ⟨N.f,N.h rfl,N.nf⟩;have a:((tt σ1).bind λb=>match b with|true=>(ta σ1).bind λy=>(WL.cD g tt ta (List.replicate k .no++σ) (xs.drop (i+1))).bind λn=>.ok (y::n)|false=>WL.cD g tt ta (List.replicate k .no++σ) (xs.drop (i+1)))=.ok rest:=a;cases M:tt σ1 with|bad=>rw[M]at a;cases a|ex c=>rw[M]at a;cases a|ok b=>rw[M]at a;refine⟨σ1,F3,R3,?_⟩;rw[M];intro H t G I;cases b with|false=>rw[agq agK];exact⟨by omega,t,d,rest,back G,w.trans (o.trans I),P.keep (o.trans I).f,a,f⟩|true=>rw[ago rfl];have a:=a;cases E:ta σ1 with|bad=>rw[E]at a;cases a|ex c=>rw[E]at a;cases a|ok y=>rw[E]at a;refine⟨σ1,t,G,?_⟩;rw[E];intro u H5 F5 R5 T r5;have a:=a;cases O:WL.cD g tt ta (List.replicate k .no++σ) (xs.drop (i+1))with|bad=>rw[O]at a;cases a|ex c=>rw[O]at a;cases a|ok zs=>rw[O]at a;cases a;exact⟨by rw[ahg,List.length_singleton];omega,F5,d++[y],zs,back R5,w.trans ((o.trans I).trans T),(P.keep ((o.trans I).trans T).f).app (.one r5),rfl,by rw[<-f];simp⟩
 .have ei:i=xs.length:=by omega
  subst ei;rw[List.drop_length]at a;simp only[WL.cD]at a;cases a;rw[ahB]at f;subst f;exact .inl ⟨wk.stop l h w.f K.rb.sub,λD hD=>fin n l h K.rb.abE w P D hD⟩
def sJ(o:Keeps k g):∀a H Q,lo B (WL.gh k it g tt ta) a H Q->yg k (loI B it) (loG true B.calm g) (loT B.calm tt) (lo B.calm ta) a H Q:=by
 intro a H Q⟨σ,F,R,q⟩;have q:=Rq.bind (Rq.bind q);refine⟨σ,F,R,Rq.mono (aw.refl _) q λj d J s v l p wk=>?_⟩;by_cases i:j.length<=WL.lim;.rw[ago i]at d;cases e:WL.cD g tt ta _ j with|bad|ex c=>rw[e]at d;exact(d).elim|ok all=>rw[e]at d;refine jL.w (wL o l wk i e λn u t h m r D f=>?_);exact d (.ref D) _ _ ((l.grow m h).new f _) (p.trans (m.trans (Gr.new (h.sub.free f) f _))) (by exact hJ D n rfl (SqL.of aq) (r.keep (aC (h.sub.free f) _)))
 .rw[agq i]at d;exact(d).elim
variable{scope:Scope}{ts:List Str}{elt:Expr}{ifs:List Expr}
def jj:xW X [] (loT B WL.kQ):=λc s σ H Q I a=>by obtain⟨d,F,R,q⟩:=a;exact vD _ s σ H Q I (q H F R Gr.refl)
def mG(L:CompLook X scope)(l:X.calm=true)(h:ts.length=k)(n:Keeps k g)(f:PI X tg iter (loI B it))(m:∀C c a d,PG (X.comp scope C ts c a d) tg (loG true B.calm g))(j:∀C c a d,xW (X.comp scope C ts c a d) ifs (loT B.calm tt))(i:∀C c a d,PE (X.comp scope C ts c a d) elt (lo B.calm ta))(hs:∀x,foldedSetIterable iter X.env x=pure x:=by intro _;rfl):PE X (.ListComp elt [⟨tg,iter,ifs,0⟩] scope pos) (lo B (WL.gh k it g tt ta)):=by subst h;exact PE.imp (vI L l f m j i hs) (sJ n)
variable{st:Stmt}{sts rest:List Stmt}{s1 s2:SF}{i:Nat}
def aS:PSs X [] (loS B WL.sNx):=PSs.imp rN λD c H a=>by obtain⟨σ,F,R,q⟩:=a;exact q _ H F R (aw.refl _)
def abK:∀D a H,loS B (WL.aN s1 s2) D a H->ae3 (loS B s1) (loS B s2) D a H:=λD a H d=>by refine cW d λσ F R q=>?_;refine eI σ F R ?_;have q:Oq B D F (match s1 σ with|.nx _=>s2 _|o=>o):=q;cases e:s1 σ with|nx σ'=>rw[e]at q;exact λf l j h s=>⟨_,j,h,Oq.mono s q⟩|bk σ'|ct σ'|rt w|ex c σ'|bad=>rw[e]at q;exact q
def aj(c:PS X st (loS B s1))(a:PSs X rest (loS B s2)):PSs X (st::rest) (loS B (WL.aN s1 s2)):=PSs.imp (gP c a) abK
def ao(a:PS X st (loS B s1)):PSs X [st] (loS B s1):=yD a
def aL(f:PE X e (lo B ta)):PS X (.Return (some e) pos) (loS B (WL.cB ta)):=PS.imp (aa5 f) λD d H a=>by obtain⟨σ,F,R,q⟩:=a;have q:=Oq.ofR q;exact⟨σ,F,R,Rq.mono (aw.refl _) q λw c v j l h g r=>c v _ _ h.rb g.f r⟩
def cC (o:PT X c (loT B tt))(j:PSs X a (loS B s1))(p:PSs X d (loS B s2)):PS X (.If c a d pos) (loS B (WL.sIf tt s1 s2)):=PS.imp (aa7 o j p) λD l H f=>by refine cW f λσ F R q=>?_;have q:=Oq.ofR q;refine eI σ F R (Rq.mono (aw.refl _) q λx m r n h g=>?_);cases x with|true|false=>exact⟨σ,n,h,Oq.mono g.f m⟩
def xJ (f:∀a H Q,lo B ta a H Q->tV a H Q):∀D a H,loS B (WL.bj i ta) D a H->aaL tV (L2.aA i) D a H:=λD a H c=>by obtain⟨σ,F,R,q⟩:=c;have q:=Oq.ofR q;exact f _ _ _ ⟨σ,F,R,Rq.mono (aw.refl _) q λw d v j l h g r=>d _ _ _ (h.set r) g.f⟩
def y6 (f:∀c H Q,loL B l c H Q->tV c H Q):∀D c H,loS B (WL.mP i l) D c H->aaL tV (L2.aA i) D c H:=λD c H d=>by refine cW d λσ F R q=>?_;have q:=Oq.ofR q;exact f _ _ _ (eI σ F R (Rq.mono (aw.refl _) q λws m a t u v s g h n o r p=>m _ _ _ (s.afX h n o r λj w _ e=>p j _ e) g.f))
def aak (h:X.N.Nodup)(a:X.N[i]?=some x)(d:Loc X.env.scope x)(f:PE X e (lo B ta))(hs:swapsWith e (some (.Name x pos')) pos.line X.env=pure false:=by rfl)(c:FL X x:=by first|exact .inl rfl|exact .inr rfl|assumption):PS X (.Assign [.Name x pos'] e pos) (loS B (WL.bj i ta)):=PS.imp (oG h a d f hs c) (xJ λ_ _ _ q=>q)
def my  (h:X.N.Nodup)(a:X.N[i]?=some x)(d:Loc X.env.scope x)(f:PE X e (loL B l))(hs:swapsWith e (some (.Name x pos')) pos.line X.env=pure false:=by rfl)(c:FL X x:=by first|exact .inl rfl|exact .inr rfl|assumption):PS X (.Assign [.Name x pos'] e pos) (loS B (WL.mP i l)):=PS.imp (oG h a d f hs c) (y6 λ_ _ _ q=>q)
def mz (s:X.N.Nodup)(h:X.N[i]?=some y)(q:X.env.scope.names.lookup y=some .local)(f:swapsWith (.ListComp elt [⟨tg,iter,ifs,0⟩] scope pos) (some (.Name y py)) spos.line X.env=pure true)(L:CompLook X scope)(m:X.calm=true)(p:ts.length=k)(o:Keeps k g)(j:PI X tg iter (loI B it))(n:∀C c a d,PG (X.comp scope C ts c a d) tg (loG true B.calm g))(l:∀C c a d,xW (X.comp scope C ts c a d) ifs (loT B.calm tt))(r:∀C c a d,PE (X.comp scope C ts c a d) elt (lo B.calm ta))(hs:∀x,foldedSetIterable iter X.env x=pure x:=by intro _;rfl):PS X (.Assign [.Name y py] (.ListComp elt [⟨tg,iter,ifs,0⟩] scope pos) spos) (loS B (WL.bj i (WL.gh k it g tt ta))):=by subst p;exact PS.imp (lH s h q f L m j n l r hs) (xJ (sJ o))
def n6(m:PE X e (lo B ta))(p:PG X tg (loG false B g))(A:∀w σ c,g w σ≠.ex c)(hs:swapsWithSole [tg] e pos.line X.env=pure false:=by rfl)(hw:swappedStores [tg] e X.env=pure none:=by rfl)(o:(assignEach [tg] X.env).map (·.2)=[assign tg X.env]:=by rfl):PS X (.Assign [tg] e pos) (loS B (WL.xt ta g)):=PS.imp (aa9 m p hs hw o) λD l H a=>by refine cW a λσ F R q=>?_;have q:=Oq.ofR q;exact eI σ F R (Rq.mono (aw.refl _) q λw j v z t s f r=>aai σ t w s r (Rq.mono f.f (Oq.ofR j) λn u d y x R2 h=>u _ _ _ R2 (f.f.trans h.f)))
def w6(hK:X.K=B.K)(h:PS X st (vk (tBM X.K "list" mT (yd i) (pQ (lo B ta) aaH)))):PS X st (loS B (WL.aaT i ta)):=PS.imp h λD l H m=>by refine cW m λσ F R q=>?_;have q:Oq B D F (match σ[i]? with|some (.ow ws)=>WL.ofR σ (ta σ) _|_=>.bad):=q;cases f:σ[i]? with|none=>rw[f]at q;exact q.elim|some sl=>rw[f]at q;cases sl with|no|va _|od _ _|ob=>exact q.elim|ow ws=>
   refine qu (R.ow i ws f) λa o p u y j s=>?_;have q:=Oq.ofR q;refine⟨.ref a,p,.inl ⟨rfl,o,SqL.of j⟩,σ,F,R,Rq.mono (aw.refl _) q λw c v A z t d x=>?_⟩;by_cases n:ws.length<WL.lim;.rw[ago n]at c;have r:=d.h a _ j;exact adp a o v rfl rfl r (by rw[<-s.length];exact agv n fw) (c l _ z (t.write f p (d.nf a _ j u) y r ((s.keep d.f).app (.one x))) d.f)
   .rw[agq n]at c;exact(c).elim
def kU(h:PS X st (loS B s1)):PS X st (loS B (WL.uO i s1)):=PS.imp h λD c H a=>by refine cW a λσ F R q=>?_;refine gL (R.frz i) λf s d _=>?_;exact⟨_,f,d,Oq.mono s q⟩
def abM:∀D o H,loS B (WL.lA it g b) D o H->ae6 (loI B it) (loG false B g) (loS B b) D o H:=λD o H K=>by
 refine cW K λσ F R q=>?_;have q:=Oq.ofR q;refine eI σ F R (Rq.mono (aw.refl _) q λj qx J H1 P Y g1 wk=>?_);refine⟨λi m d u=>m=j.length-i/\i<=j.length/\∃h l,RS B h d l u/\aw P l/\Oq B D l (WL.forL g b (j.drop i) h),⟨j.length,rfl,agV _,σ,P,Y,aw.refl _,by rw[List.drop_zero];exact Oq.mono g1.f qx⟩,?_⟩;rintro i m d u⟨rfl,Z,h,l,E,G,s⟩;by_cases p:i<j.length;.have hd:=ahQ p;rw[hd]at s;obtain⟨go,Q⟩:=wk.go i j[i] (agH p) l u G E.rb.sub;refine .inr ⟨go,_,λa M h2=>⟨j.length-(i+1),by omega,rfl,p,h2⟩,λv M hy=>?_⟩;refine gD (Q v M hy) λT I r2=>?_;have s:=Oq.ofR s;refine aai h T j[i] (I.rs _ _ _ E) r2 (Rq.mono I.same s λA f O H3 N U S=>?_);refine eI A N U ?_;have x:=I.same.trans S.f;cases z:b A with|nx a|ct a=>rw[z]at f;exact λn C y t r=>⟨a,y,t,(G.trans x).trans r,Oq.mono (x.trans r) f⟩|bk a=>rw[z]at f;exact λn C y t r=>f n C y t (x.trans r)|rt w=>rw[z]at f;exact λv4 C y t r=>f v4 C y t (x.trans r)|ex c a=>rw[z]at f;exact B.mono c a l N x f|bad=>rw[z]at f;exact f
 .have ei:i=j.length:=by omega
  subst ei;rw[List.drop_length]at s;exact .inl ⟨wk.stop l u G E.rb.sub,s d u l E (aw.refl _)⟩
def e9 (a:PassesOwn (model X.prog X.w) X.A X.env X.xe)(d:X.calm=true)(c:PI X tg iter (loI B it))(h:PG X tg (loG false B g))(f:PSs X body (loS B b))(hs:∀x,foldedSetIterable iter X.env x=pure x:=by intro _;rfl):PS X (.For tg iter body [] pos) (loS B (WL.lA it g b)):=PS.imp (aa8 a d c h f hs) abM
def jP  (M:PassesOwn (model X.prog X.w) X.A X.env X.xe)(J:PT X c (loT B tt))(K:PSs X body (loS B b)):PS X (.While c body [] pos) (loS B (WL.jv n tt b)):=PS.imp (vz M J K) λD G H v=>by refine cW v λσ F R q=>?_;refine⟨λm d C=>∃a r,RS B a d r C/\Oq B D r (WL.bZ tt b m a),⟨n σ,σ,F,R,q⟩,?_⟩;rintro m d C⟨a,r,N,t⟩;cases m with|zero=>exact(t).elim|succ m=>have t:=Oq.ofR t;refine eI a r N (Rq.mono (aw.refl _) t λx f E y A p=>?_);cases x with|false=>rw[agq agK];exact f d E y A p.f|true=>refine⟨_,λz P I=>⟨m,ah8 m,I⟩,a,y,A,?_⟩;cases s:b a with|nx σ2|ct σ2=>rw[s]at f;exact λh u l o j=>⟨σ2,l,o,Oq.mono (p.f.trans j) f⟩|bk σ2=>rw[s]at f;exact λh u l o j=>f h u l o (p.f.trans j)|rt w=>rw[s]at f;exact λO u l o j=>f O u l o (p.f.trans j)|ex c σ2=>rw[s]at f;exact B.mono c σ2 r y p.f f|bad=>rw[s]at f;exact f
end
def spW(K:W.Frag)(n:Nat)(f:List VW->Res VW):Sp:=λd H Q _=>∃F ws,aw F H/\RWs K F ws d/\ws.length=n/\match f ws with|.ok w=>∀v c b,aw F b->aw b c->aw H c->(∀a o,b a=some o->F a=some o\/H a=none/\NF o)->RW K b w v->Q v c|_=>False
section
variable{P:Program}{w:World}{K:W.Frag}{mg:Str->Option Value}{base:Heap}
theorem RS.start{N F H ws vs}(s:aw F H)(r:RWs K F ws vs)(B:ws.length<=N.length):RS ⟨K,H,F,λ_ _ _=>False,λ_ _ _ _ _ h=>h⟩ (ws.map .va++List.replicate (N.length-ws.length) .no) (L2.start N vs) F H:=by
 have p:=r.length;have b:∀{i:Nat}{c:Sl},(ws.map Sl.va++List.replicate (N.length-ws.length) Sl.no)[i]?=some c->c≠.no->∃u,ws[i]?=some u/\c=.va u:=λ{i c}e A=>by grind
 refine⟨⟨s,aw.refl _,aw.refl _,λa o h=>.inl h⟩,by simp[L2.start,p],λi u e=>?_,λi k e=>?_,λi j k f a d g t _ _=>?_,λi y k e=>?_,λi j y k q f a d g t _ _=>?_,λi e=>?_⟩;rotate_left 3;.refine gD (b e (by intro z;cases z)) λx ex h=>?_;cases h
 .obtain⟨x,ex,h⟩:=b g (by intro z;cases z);cases h
 .obtain⟨x,ex,h⟩:=b e (by intro z;cases z);cases h
 .refine gD (b e (by intro z;cases z)) λx ex h=>?_;cases h;obtain⟨v,l,n⟩:=r.get ex;refine⟨v,?_,n⟩;have m:i<vs.length:=(agu.mp l).1;unfold L2.start;rw[ahs (by simpa using m),agT,l];rfl
 .obtain⟨x,ex,h⟩:=b e (by intro z;cases z);cases h
 .obtain⟨x,ex,h⟩:=b g (by intro z;cases z);cases h
end
section
variable{X:Cx}{B:Bx}{k:Nat}{f:Addr}{fd:FuncData}{ps:List Str}{fn:List VW->Res VW}{x:Str}{p pos:Pos}{e:Expr}{es:List Expr}{tas:AF}{n:Nat}
def sL(hK:X.K=B.K){E}(C:∀σ ws,tas σ=.ok ws->ws.length=n):∀b H Q,lo B (WL.aG fn tas) b H Q->aaJ (spW X.K n fn) [] E (loA B tas) b H Q:=by intro b H Q⟨σ,F,R,q⟩;have q:=Rq.bind q;refine eI σ F R ?_;cases j:tas σ with|bad|ex c=>rw[j]at q;exact q|ok ws=>rw[j]at q;intro N M t d K J;rw[ahB,hK];refine zV t ws d.rb.sub J (C σ ws j) ?_;have h:Rq B σ F (match fn ws with|.ok w=>.ok w|_=>.bad) _:=q;cases s:fn ws with
|bad|ex c=>rw[s]at h;exact h.elim
|ok w=>rw[s]at h;intro v l g u G y fr I;have r:Gr t _ g l:=⟨u,y,λa o A i=>by cases m:g a with|none=>rfl|some o2=>
  rcases fr a o2 m with z|z;.rw[i]at z;cases z
  .rw[A]at z;cases z.1⟩;have D:RB B g l:=⟨G,d.rb.base.trans y,d.rb.fz0.trans u,λa o m=>by
  rcases fr a o m with z|z;.exact d.rb.fr a o z
  .exact .inr ⟨d.rb.base.free z.1,z.2⟩⟩;exact h v l g (d.grow r D) (K.trans r) I
def qO(hK:X.K=B.K)(F:FnOk X.prog X.w X.K X.mg X.base CX0 k f fd ps (spW X.K n fn))(c:Room k X.A)(m:Gl X x)(h:X.mg x=some (.ref f))(d:W.keepIn X.K (.ref f)=true)(l:Binds X.K fd ps [])(g:PA X (e::es) (loA B tas))(i:∀σ ws,tas σ=.ok ws->ws.length=n)(a:Dbg x:=by decide)(j:SE X e es:=by rfl)(b:BT X pos es:=by rfl):PE X (.Call (.Name x p) (e::es) [] pos) (lo B (WL.aG fn tas)):=PE.imp (mW F c m h d l .nil yQ g a j b) (sL hK i)
def mj:∀σ(ws:List VW),WL.ax σ=.ok ws->ws.length=0:=λσ ws e=>by cases e;rfl
def gm (h:∀σ(ws:List VW),tas σ=.ok ws->ws.length=n):∀σ(ws:List VW),WL.ae t tas σ=.ok ws->ws.length=n+1:=λσ ws q=>by have q:(t σ).bind _=.ok _:=q;cases b:t σ with|bad|ex c=>rw[b]at q;cases q|ok x=>rw[b]at q;cases a:tas σ with|bad|ex c=>rw[a]at q;cases q|ok xs=>rw[a]at q;cases q;simp[h σ _ a]
end
section
variable{X:Cx}{B:Bx}{K:W.Frag}{o e:Expr}{es:List Expr}{to ta:EF}{tas:AF}{pos apos cpos:Pos}
def zG{P w K mg b x c st f g N ps k m}(t:Fun K x c st f g)(S:FnScope N ps (ag st))(u:ps.length=m):FnOk P w K mg b CX0 k f g ps (spW K m λ_=>.bad):=⟨λj H Q E a=>by refine qv a λ_ _ _ _ _ h=>?_;exact h.elim,λA d s H i n j Q E l v p q r a=>by refine qv a λ_ _ _ _ _ h=>?_;exact h.elim⟩
end
end WS
set_option autoImplicit true
set_option relaxedAutoImplicit true
namespace WS
open PySem PySem.Spec PyProof.Rows L2
open WL(Res Sl Ws EF TF AF LF GF GsF SF Out)
def XR(K:W.Frag)(F:Hp):VW->Addr->Option Addr->Prop|.exc nm fs,C,dx=>ExcAt K nm C/\∃a:List (Str×V),a.map (·.1)=WL.fieldsOf nm/\RWs K F fs (a.map (·.2))/\(a=[]/\dx=none\/∃d,dx=some d/\F d=some (.xd a))|_,_,_=>False
theorem XR.keep{K F b}(s:aw F b){c C dx}(h:XR K F c C dx):XR K b c C dx:=by cases c with|exc nm fs=>obtain⟨l,e,j,i,f⟩:=h;exact⟨l,_,j,i.keep s,f.imp (λz=>z) λa=>by obtain⟨d,k,g⟩:=a;exact⟨d,k,s _ _ g⟩⟩|_=>exact h
def XR.is{K F c C dx}(h:XR K F c C dx):∃a fs,c=.exc a fs/\ExcAt K a C:=by cases c with|exc a fs=>exact⟨a,fs,rfl,h.1⟩|_=>exact h.elim
def XW(X:Cx)(B:Bx):Prop:=∀(a:List (Addr×Obj))(b:L2.St)(H:Hp)(s:Shared)(σ:Ws)(F:Hp)(c:VW),RS B σ b F H->B.xp c σ F->∀(e C:Addr)(d T:Option Addr)(f:Value),Thr X a b H s e C d f T->XR X.K F c C d->X.xe (.ref e) s
abbrev Bx.n7(B:Bx)(a:VW->Ws->Hp->Prop)(mono:∀c σ F b,aw F b->a c σ F->a c σ b):Bx:=⟨B.K,B.H0,B.F0,a,mono⟩
abbrev Bx.never(B:Bx):Bx:=B.n7 (λ_ _ _=>False) λ_ _ _ _ _ h=>h
def jO (h:∀c σ F,¬B.xp c σ F):XW X B:=λ_ _ _ _ σ F c _ q=>(h c σ F q).elim
section
variable{B B':Bx}{σ:Ws}{σV:L2.St}{F H:Hp}
def RB.box(R:RB B F H)(b:B'.H0=B.H0)(c:B'.F0=B.F0):RB B' F H:=⟨R.sub,b▸R.base,c▸R.fz0,λa o e=>by rw[b,c];exact R.fr a o e⟩
theorem RS.box(R:RS B σ σV F H)(b:B'.K=B.K)(a:B'.H0=B.H0)(c:B'.F0=B.F0):RS B' σ σV F H:=⟨R.rb.box a c,R.len,λi w e=>by rw[b];exact R.va i w e,λi ws e=>by rw[b,a];exact R.ow i _ e,R.ap,by rw[b,a];exact R.dd⟩
end
section
variable{X:Cx}{B:Bx}{k:Nat}{f:Addr}{fd:FuncData}{ps:List Str}{fn:List VW->Res VW}{x:Str}{p pos np hpos cpos:Pos}{e:Expr}{es:List Expr}{tas:AF}{n:Nat}{st:Stmt}
def spX(K:W.Frag)(n:Nat)(f:List VW->Res VW):Sp:=λh H Q E=>∃F ws,aw F H/\RWs K F ws h/\ws.length=n/\match f ws with|.ok w=>∀v d b,aw F b->aw b d->aw H d->(∀a o,b a=some o->F a=some o\/H a=none/\NF o)->RW K b w v->Q v d|.ex c=>∀C g d b,aw F b->aw b d->aw H d->(∀a o,b a=some o->F a=some o\/H a=none/\NF o)->XR K b c C g->E (.ref C) g d|.bad=>False
def RS.ext3{σ h j c b i}(d:RS B σ h j c)(q:aw j b)(t:aw b i)(r:aw c i)(fr:∀a o,b a=some o->j a=some o\/c a=none/\NF o):Gr j c b i/\RS B σ h b i:=by
 have g:Gr j c b i:=⟨q,r,λa o s l=>by cases m:b a with|none=>rfl|some o2=>
  rcases fr a o2 m with z|z;.rw[l]at z;cases z
  .rw[s]at z;cases z.1⟩;exact⟨g,d.grow g ⟨t,d.rb.base.trans r,d.rb.fz0.trans q,λa o m=>(fr a o m).elim (λz=>d.rb.fr a o z) λz=>.inr ⟨d.rb.base.free z.1,z.2⟩⟩⟩
def vm{σ a F H l o ws vs us Q}(hK:X.K=B.K)(M:XW X B)(u:RS B σ a l o)(g:Gr F H l o)(r:RWs B.K l ws vs)(P:ws.length=n)(q:Rq B σ F (fn ws) λw=>∀v h z,RS B σ a z h->Gr F H z h->RW B.K z w v->Q v h)(R:us=vs):∃E:XK,spX X.K n fn us o Q E/\∀b s e C i T h,Thr X b a h s e C i .none (some T)->E (.ref C) i h->X.xe (.ref e) s:=by
 rw[hK,R];refine⟨λC i j=>∃I d c,C=.ref I/\RS B σ a d j/\B.xp c σ d/\XR B.K d c I i,⟨l,ws,u.rb.sub,r,P,?_⟩,λb s e C i T h t⟨I,d,c,N,R2,K,A⟩=>?_⟩;.cases y:fn ws with|bad=>rw[y]at q;exact q.elim|ok w=>rw[y]at q;intro v j d m G D fr O;obtain⟨J,R2⟩:=u.ext3 m G D fr;exact q v j d R2 (g.trans J) O|ex c=>rw[y]at q;intro C i j d m G D fr A;obtain⟨J,R2⟩:=u.ext3 m G D fr;exact⟨C,d,c,rfl,R2,B.mono c σ F d (g.f.trans m) q,A⟩
 .cases N;exact M b a h s σ d c R2 K e C i (some T) _ t (by rw[hK];exact A)
def vV(hK:X.K=B.K)(h:XW X B)(i:∀σ ws,tas σ=.ok ws->ws.length=n):∀a H Q,lo B (WL.jG fn tas) a H Q->xl X (spX X.K n fn) [] (loA B tas) a H Q:=by intro a H Q⟨σ,F,R,q⟩;have q:=Rq.bind q;refine eI σ F R ?_;cases b:tas σ with|bad|ex c=>rw[b]at q;exact q|ok ws=>rw[b]at q;exact λl m o g d j=>vm hK h g d j (i σ ws b) q (ahB _)
def uY(hK:X.K=B.K)(j:XW X B)(F:FnOk X.prog X.w X.K X.mg X.base (CXX X.prog X.w) k f fd ps (spX X.K n fn))(c:Room k X.A)(o:Gl X x)(h:X.mg x=some (.ref f))(d:W.keepIn X.K (.ref f)=true)(m:Binds X.K fd ps [])(g:PA X (e::es) (loA B tas))(i:∀σ ws,tas σ=.ok ws->ws.length=n)(a:Dbg x:=by decide)(l:SE X e es:=by rfl)(b:BT X pos es:=by rfl):PE X (.Call (.Name x p) (e::es) [] pos) (lo B (WL.jG fn tas)):=PE.imp (vL F c o h d m .nil g a l b) (vV hK j i)
def uU (hK:X.K=B.K)(G:XW X B)(u:X.calm=true)(y:Gl X x)(E:X.mg x=some (.ref C))(q:pE X.K C none)(z:ExcAt X.K nm C)(o:WL.fieldsOf nm=[])(l:PA X (e::es) (loA B tas))(v:Dbg x:=by decide)(r:SE X e es:=by rfl)(a:BT X cpos es:=by rfl):PS X (.Raise (some (.Call (.Name x np) (e::es) [] cpos)) none pos) (loS B (WL.oA nm tas)):=PS.imp (oH u y E q l v r a) λD d H h=>by
 refine cW h λσ F R q=>?_;have q:=Oq.ofR q;refine eI σ F R (Rq.mono (aw.refl _) q λws c I j i m A w=>?_);by_cases g:ws.length<=100;.rw[ago g]at c;exact⟨by rw[<-w.length];exact agy g (by decide),λb s e t=>G b d j s σ i _ m (B.mono _ σ F i A.f c) e C none none _ t ⟨z,[],by rw[o];rfl,by simp[RWs],.inl ⟨rfl,rfl⟩⟩⟩
 .rw[agq g]at c;exact(c).elim
theorem Oq.box  (d:B'.K=B.K)(a:B'.H0=B.H0)(b:B'.F0=B.F0)(j:∀c σ,o=.ex c σ->B'.xp c σ F)(h:Oq B D F o):Oq B' D F o:=by cases o with|nx σ|bk σ|ct σ=>exact λi g l R s=>h _ _ _ (R.box d.symm a.symm b.symm) s|rt w=>exact λv g l R s r=>h v _ _ (R.box a.symm b.symm) s (by grind)|ex c σ=>exact j c σ rfl|bad=>exact h
def Oq.aga{f:VW->Ws->Out}(d:B'.K=B.K)(a:B'.H0=B.H0)(b:B'.F0=B.F0)(g:∀c σ,Oq B D F (f c σ)->B'.xp c σ F)(h:Oq B D F (match o with|.ex c σ=>f c σ|o=>o)):Oq B' D F o:=by cases o with|ex c σ=>exact g c σ h|_=>exact Oq.box d a b (λ_ _ z=>by cases z) h
end
section
variable{P:Program}{w:World}{K:W.Frag}{mg:Str->Option Value}{base:Heap}
def uf{x a st f I N ps k m n}{C:List VW->Res VW}(t)(U:Fun K x a st f I)(S:FnScope N ps (ag st))(M:N.length=n)(g:ps.length=m)(q:WL.run n t=C)(R:ps.length<=N.length)(h:∀d A b s H E B,B.K=K->Room k (A.deeper (envOfC a (ag st) s.heap.objs.size f d))->XW (gi CX0 P w K mg base N a (ag st) f d A b s H E).nox B->PassesOwn (model P w) (A.deeper (envOfC a (ag st) s.heap.objs.size f d)) (envOfC a (ag st) s.heap.objs.size f d) (λ_ _=>False)->PSs (gi CX0 P w K mg base N a (ag st) f d A b s H E).nox (bt st) (loS B t)):FnOk P w K mg base CX0 (k+1) f I ps (spW K m C):=by subst M g q;refine U.ok S (λT H Q E i=>by refine qv i λF ws _ r G _=>?_;rw[<-r.length];exact G) λd A b s H T Q E J i=>?_;refine qv i λF ws O r G g=>?_;refine⟨_,h d A b s H E _ rfl J (jO λ_ _ _ z=>z) PassesOwn.never,_,F,RS.start O r (by omega),?_⟩;unfold WL.run at g;cases e:t _ with|rt w=>rw[e]at g;exact λv l o p j u=>g v l o j p.sub p.base p.fr u|nx σ'=>rw[e]at g;exact λD l o y j=>g .non l o j y.rb.sub y.rb.base y.rb.fr (rfl)|bk σ'|ct σ'|ex c σ'|bad=>rw[e]at g;exact g.elim
def zF{x b st f Y N ps k m n}{O:List VW->Res VW}(t)(Fn:Fun K x b st f Y)(S:FnScope N ps (ag st))(hn:N.length=n)(g:ps.length=m)(D:WL.run n t=O)(a3:ps.length<=N.length)(h:∀d A a s H E B,B.K=K->Room k (A.deeper (envOfC b (ag st) s.heap.objs.size f d))->XW (gi (CXX P w) P w K mg base N b (ag st) f d A a s H E) B->PassesOwn (model P w) (gi (CXX P w) P w K mg base N b (ag st) f d A a s H E).A (gi (CXX P w) P w K mg base N b (ag st) f d A a s H E).env (gi (CXX P w) P w K mg base N b (ag st) f d A a s H E).xe->PSs (gi (CXX P w) P w K mg base N b (ag st) f d A a s H E) (bt st) (loS B t)):FnOk P w K mg base (CXX P w) (k+1) f Y ps (spX K m O):=by subst hn g D;refine acA Fn.ex λoc od kV a2 pm an d ct a1 I lk y=>?_;subst I;refine zv lk y S (λvs H Q E p=>by refine qv p λF ws _ r X _=>?_;rw[<-r.length];exact X) λA a s H vs Q E Z _ p=>?_;refine qv p λF ws sm r X g=>?_;let M:Bx:=⟨K,H,F,λ_ _ _=>False,λ_ _ _ _ _ h=>h⟩;let B1:Bx:=M.n7 (λc _ u=>∀C l j i,aw u i->RB M i j->XR K i c C l->E (.ref C) l j) λc σ u F2 s h C l j i o=>h C l j i (s.trans o);refine⟨_,h d A a s H E B1 rfl Z (λU a0 H1 s1 σ u c R1 xp e C l T fl t z=>y9 t (xp C l H1 u (aw.refl _) (R1.rb.box rfl rfl) z)) PassesOwn.leaving,_,F,(RS.start sm r (by omega)).box rfl rfl rfl,?_⟩;unfold WL.run at g;cases e:t _ with|rt w=>rw[e]at g;exact λv j i q o G=>g v j i o q.sub q.base q.fr G|nx σ'=>rw[e]at g;exact λR j i J o=>g .non j i o J.rb.sub J.rb.base J.rb.fr (rfl)|bk σ'|ct σ'=>rw[e]at g;exact g.elim|ex c σ'=>rw[e]at g;exact λC l j i o q z=>g C l j i o q.sub q.base q.fr z|bad=>rw[e]at g;exact g.elim
end
end WS
namespace L2
open PySem PySem.Spec PyProof.Rows
open PySem.W(findIn mroIn findObj specialIn takesIn clsIn hasDictIn KitX looks_findIn looks_mroIn looks_find)
section
variable{prog:Program}{w:World}{A:Around}{E:Value->Shared->Prop}{s:Shared}{K:W.Frag}{x D:Addr}{ox:Obj}{od:Option Obj}{name:Str}
def tY{nm:Value}{Q:Unit->Shared->Prop}(X:K.In s.heap)(I:W.InstAt s.heap x ox D od)(e:mroIn K D (.type "BaseException")=some true)(c:Q () s):wpAny (model prog w) A (checkBuiltinCall "BaseException.__getattribute__" ⟨[.ref x,nm],[]⟩) Q E s:=by
 have b:builtinKind "BaseException.__getattribute__"=some .slot:=by decide+kernel
 have a:splitId "BaseException.__getattribute__"=some ("BaseException","__getattribute__"):=by decide+kernel
 have i:=F.args_bexc_ga (.ref x) nm;have f:W.Looks (model prog w) s.heap (isInstance (.ref x) (.type "BaseException")) true:=I.type.andThen (looks_mroIn X e);obtain⟨h,g,d,t,os⟩:=s;simp only[checkBuiltinCall,b,a];refine agl (f.at ?_);repeat(first|wp_step)
 exact c
def xQ{tk:Tok}{fill a:Bool}{Q:Value->Shared->Prop}(X:K.In s.heap)(I:W.InstAt s.heap x ox D od)(c:findIn K (.ref D) "__getattribute__"=some (some (.builtin "BaseException.__getattribute__")))(f:findIn K (.ref D) "__getattr__"=some none)(o:mroIn K D (.type "BaseException")=some true)(h:∀n,wpAny (model prog w) n (Builtin.«object.__getattribute__» ⟨[.ref x,.str name tk],[]⟩) (λfin i=>match fin with|.done (.ret v)=>wpAny (model prog w) A (handedOut v) Q E i|_=>False) (λ_ _=>False) s):wpAny (model prog w) A (getAttrBy (.ref x) (.str name tk) fill a) Q E s:=by
 have l:=I.type (M:=model prog w);have j:=looks_findIn (M:=model prog w) X c;have m:=looks_findIn (M:=model prog w) X f;have k:=F.excAttr_ValueError.ga.bind (.ref x);have b:(a&&onTheHeap (Value.builtin "BaseException.__getattribute__"))=false:=by cases a<;>rfl
 have e:(Value.builtin "BaseException.__getattribute__"==Value.builtin "object.__getattribute__")=false:=by decide+kernel
 obtain⟨p,g,d,t,os⟩:=s;unfold getAttrBy;refine ahn (agl (l.at (agl (j.at ?_))));dsimp only;rw[e,Bool.and_false,agq (by decide)];unfold getAttrByItsOwn hookBefore;rw[ago (show onTheHeap (Value.ref D)=true from rfl)];refine agl (m.at (agl (aia (ahn ?_))));unfold callGetattribute boundAndCalled;rw[b,agq (by decide),k];refine agl (agp (ah6 (codeAny_call_builtin F.excAttr_ValueError.ga.plain F.entry_bexc_ga (tY X I o (agN (h _) (λfin i z=>?_) λ_ _ z=>z.elim)))));rcases fin with(_|_|_|_)|_<;>first|exact z|exact z.elim
def je{g a:Value}{tk:Tok}{P:Value->Shared->Prop}(X:K.In s.heap)(I:W.InstAt s.heap x ox D od)(e:findObj K D od name=some (.bind g a))(h:wpAny (model prog w) A (call g [a,.ref x,.ref D]) P E s):wpAny (model prog w) A (Builtin.«object.__getattribute__» ⟨[.ref x,.str name tk],[]⟩) (λfin b=>match fin with|.done (.ret v)=>P v b|_=>False) E s:=by have f:=I.type (M:=model prog w);have c:=looks_find (M:=model prog w) X I e;obtain⟨i,j,d,t,os⟩:=s;refine agl (agp (agl (agp (agl (f.at (agl (c.at ?_)))))));show wpAny _ _ (holding [a] (call g [a,.ref x,.ref D])>>=ret) _ _ _;exact agl (ahn (agN h (λv b z=>agp z) λ_ _ z=>z))
def ky{v:Value}{tk:Tok}{P:Value->Shared->Prop}(X:K.In s.heap)(I:W.InstAt s.heap x ox D od)(c:findObj K D od name=some (.value v))(h:P v s):wpAny (model prog w) A (Builtin.«object.__getattribute__» ⟨[.ref x,.str name tk],[]⟩) (λfin e=>match fin with|.done (.ret v)=>P v e|_=>False) E s:=by have a:=I.type (M:=model prog w);have b:=looks_find (M:=model prog w) X I c;obtain⟨f,g,d,t,os⟩:=s;refine agl (agp (agl (agp (agl (a.at (agl (b.at ?_)))))));exact agp h
structure ExcK(K:W.Frag)(D:Addr):Prop where
 cls:(clsIn K D).isSome=true
 ga:findIn K (.ref D) "__getattribute__"=some (some (.builtin "BaseException.__getattribute__"))gn:findIn K (.ref D) "__getattr__"=some none
 mb:mroIn K D (.type "BaseException")=some true
 mo:mroIn K D (.type "object")=some true
 cl:findIn K (.ref D) "__class__"=some (some (.builtin "object.__class__"))hn:specialIn K (.builtin "object.__class__") "__get__"=some (some (.builtin "getset_descriptor.__get__"))tk:takesIn K (.builtin "object.__class__")=some true
def ExcK.findCls(k:ExcK K D):findObj K D od "__class__"=some (.bind (.builtin "getset_descriptor.__get__") (.builtin "object.__class__")):=by obtain⟨b,a⟩:=ahc.mp k.cls;unfold findObj;rw[a,ah9,k.cl,ah9];simp[k.hn,k.tk]
def tX{Q:Option Value->Shared->Prop}(k:ExcK K D)(X:K.In s.heap)(I:W.InstAt s.heap x ox D od)(h:Q (some (.ref D)) {s with toks:=s.toks+1}):wpAny (model prog w) A (getAttr? (.ref x) "__class__") Q E s:=by unfold getAttr? getAttrBy?;refine agl (wpAny_mkText (agl (aia ?_)));refine xQ (s:={s with toks:=s.toks+1}) X I k.ga k.gn k.mb λa=>?_;refine je (s:={s with toks:=s.toks+1}) X I k.findCls ?_;refine ah6 (W.class_get (s:={s with toks:=s.toks+1}) (ox:=ox) (od:=od) X I k.mo ?_);exact agp (agp h)
def wu{v:Value}{a:Bool}{Q:Value->Shared->Prop}(k:ExcK K D)(X:K.In s.heap)(I:W.InstAt s.heap x ox D od)(c:findObj K D od name=some (.value v))(b:W.handedIn v=true)(h:Q v {s with toks:=s.toks+1}):wpAny (model prog w) A (getAttr (.ref x) name a) Q E s:=by unfold getAttr;refine agl (wpAny_mkText ?_);refine xQ (s:={s with toks:=s.toks+1}) X I k.ga k.gn k.mb λd=>?_;refine ky (s:={s with toks:=s.toks+1}) X I c ?_;rw[W.handedOut_of b];exact agp h
def wX(x D:Addr)(h:Heap):Prop:=∃ox od,W.InstAt h x ox D od
def wb(k:ExcK K D):KitX K (.ref x) (.ref D) (wX x D)where
 ty:=λ_ _ _ h0_=>by obtain⟨_,_,I⟩:=h0_;exact I.type
 it:=λ_ _ X _=>by
  obtain⟨cdD,hcD⟩:=ahc.mp k.cls;unfold clsIn at hcD;split at hcD;.rename_i c' d' cd' sl' ho;intro A' Q' E' s' k q;unfold isType loadHead;exact agl (wpAny_loadPart (k _ _ (X _ _ ho)) (agp q))
  .cases hcD
 ne:=λh tp dd its n sl X htp=>by
  obtain⟨cdD,hcD⟩:=ahc.mp k.cls;refine Bool.eq_false_iff.mpr λq=>?_;have e:D=tp:=Value.ref.inj (ah0.mp q);subst e;unfold clsIn at hcD;split at hcD;.rename_i c' d' cd' sl' ho;have z:=(X _ _ ho).symm.trans htp;cases z
  .cases hcD
 ca:=λX h0_ q=>by obtain⟨_,_,I⟩:=h0_;exact tX k X I q
end
end L2
namespace L2
open PySem PySem.Spec PyProof.Rows
noncomputable abbrev pa(C:Addr)(dx:Option Addr)(a0:Value):Obj:={cls:=.ref C,dict:=dx,data:=.fields #[a0,.none,.none,.none,.bool false,.none]}
def tZ(e C:Addr)(dx:Option Addr)(h:Heap):Prop:=∃a,h.get? e=some (pa C dx a)
section
variable{prog:Program}{w:World}{A:Around}{E:Value->Shared->Prop}{env:Env}
variable{nm q:Str}{C N:Addr}{bs bm bmB:List Value}{hdct:Bool}{sn:List Str}{sub:List Value}{ab:Bool}{col:Option Bool}{dd:Option Addr}{k0 k1 k2 k3 k5:Option Value}{B newId initId:String}
def ja{s x Q}(c:bm.contains (.type "BaseException")=true)(j:A.handled=none)(h:wpAny (model prog w) A x (λv a=>∃e g i,v=.ref e/\a.heap.get? C=some (excClassObj nm q C N bs bm hdct sn sub ab col dd k0 k1 k2 k3 k5 newId)/\a.heap.get? e=some (pa C g i)/\E (.ref e) a) E s):wpAny (model prog w) A (raiseStmt env (some x) none) Q E s:=by
 have d:(Value.ref C::bm).contains (.type "BaseException")=true:=by grind
 refine agl (agN h (λv a b=>?_) λ_ _ x=>x);refine qt b λe g i f k m l=>?_;subst f;repeat(first |(with_reducible refine wpAny_isSubtype_exc k ?_;rw[d])|wp_step)
 exact wpAny_raiseNew_none j l
variable{h:Heap}{g:Array GenState}{d:Drawn}{t:Nat}{os:OsState}
def hZ(F:ExcBaseFacts B newId initId bmB)(T:OwnTail h bmB bm){mN:Str->Option Value}{rest:List Value}{fI:Addr}{s:Obj}{Q:Fin->Shared->Prop}(j:h.get? C=some (excClassObj nm q C N bs bm hdct sn sub ab col dd k0 k1 k2 k3 k5 newId))(y:h.Ns N mN)(v:mN "__init__"=some (.ref fI))(l:h.get? fI=some s)(n:s.cls=.type "function")(I:∀h' e,Heap.MadeExcOf h h' e (.ref C) rest->wpAny (model prog w) A (call (.ref fI) (.ref e::rest)) (λr p=>r=.none/\Q (.done (.ret (.ref e))) p) E ⟨h',g,d,t,os⟩)(hrest:rest.length<=sizeLine:=by size_fits):wpAny (model prog w) A (Builtin.«type.__call__» ⟨.ref C::rest,[]⟩) Q E ⟨h,g,d,t,os⟩:=by
 repeat(first|with_reducible refine aiW j ?_|with_reducible refine wpAny_madeBy_exc j ?_|wp_step)
 refine codeAny_call_builtin_code (ail _ F.quiet) (wpAny_check_new_subT F T j ?_);refine codeAny_exc_new_subT F T j ?_ hrest;show wpAny _ _ _ _ _ _;have a:=agm {cls:=.ref C,data:=.fields #[.ref h.objs.size,.none,.none,.none,.bool false,.none]} (agm {cls:=.type "tuple",data:=.seq rest.toArray} j);have c:=agm {cls:=.ref C,data:=.fields #[.ref h.objs.size,.none,.none,.none,.bool false,.none]} (agm {cls:=.type "tuple",data:=.seq rest.toArray} l);have i:((h.push {cls:=.type "tuple",data:=.seq rest.toArray}).push {cls:=.ref C,data:=.fields #[.ref h.objs.size,.none,.none,.none,.bool false,.none]}).Ns N mN:=let⟨o,D,G,e,r⟩:=y;zU o D G (agm _ (agm _ e)) r;have f:((h.push {cls:=.type "tuple",data:=.seq rest.toArray}).push {cls:=.ref C,data:=.fields #[.ref h.objs.size,.none,.none,.none,.bool false,.none]}).get? (h.objs.size+1)=some {cls:=.ref C,data:=.fields #[.ref h.objs.size,.none,.none,.none,.bool false,.none]}:=by heap_get
 have m:(Value.ref C::bm).contains (.ref C)=true:=by simp
 have k:=T.keeps (h':=(h.push {cls:=.type "tuple",data:=.seq rest.toArray}).push {cls:=.ref C,data:=.fields #[.ref h.objs.size,.none,.none,.none,.bool false,.none]}) λb o e=>agm _ (agm _ e);unfold isInstance;repeat(first|with_reducible refine aiW f ?_|(with_reducible refine wpAny_isSubtype_exc a ?_;rw[m])|wp_step)
 show wpAny _ _ (typeLookup (.ref C) _) _ _ _;refine wpAny_typeLookup_tail a i k F.mroIs F.init.lookup ?_;rw[v];refine ahn (agl ?_);unfold bindSpecial;refine agl (wpAny_typeOf (T:="function") ⟨_,c,n⟩ ?_);rw[ago (by decide)];refine agp (agl (agN (I _ (h.objs.size+1) ⟨λb o z=>agm _ (agm _ z),ag6 (Nat.le_succ _),h.objs.size,f,ag6 (agx _),?_⟩) (λr p u=>?_) λ_ _ x=>x));.exact agm _ (Heap.get?_push_at rfl rfl)
 .obtain⟨rfl,H⟩:=u;wp_walk;exact H
def qp(F:ExcBaseFacts B newId initId bmB)(T:OwnTail h bmB bm){mN:Str->Option Value}{rest:List Value}{fI:Addr}{i:Obj}{Q:Value->Shared->Prop}(b:h.get? C=some (excClassObj nm q C N bs bm hdct sn sub ab col dd k0 k1 k2 k3 k5 newId))(k:h.Ns N mN)(j:mN "__init__"=some (.ref fI))(c:h.get? fI=some i)(f:i.cls=.type "function")(m:∀a e,Heap.MadeExcOf h a e (.ref C) rest->wpAny (model prog w) (A.under (.builtin "type.__call__" ⟨.ref C::rest,[]⟩)) (call (.ref fI) (.ref e::rest)) (λr l=>r=.none/\Q (.ref e) l) E ⟨a,g,d,t,os⟩)(hrest:rest.length<=sizeLine:=by size_fits):wpAny (model prog w) A (call (.ref C) rest) Q E ⟨h,g,d,t,os⟩:=by
 have p:=tc_lookup;have o:=tc_bind (.ref C);have s:(⟨h,g,d,t,os⟩:Shared).TypeIs (.ref C) "type":=⟨_,b,rfl⟩;refine ah6 (codeAny_of_tree ?_);show wpAny _ _ (callAny (.ref C) _) _ _ _;repeat(any_goals(first|assumption|with_reducible refine aiW b ?_|wp_step))
 refine⟨rfl,?_⟩;refine codeAny_call_builtin_at (ail _ (by decide+kernel)) entry_typeCall (wpAny_check_type_call_sub b (hZ (hrest:=hrest) F T b k j c f λa e n=>?_));exact m a e n
end
end L2
namespace L2
open PySem PySem.Spec PyProof.Rows
open PySem.W(findIn mroIn findObj specialIn takesIn clsIn hasDictIn looks_findIn looks_mroIn looks_find InstAt)
end L2
namespace L2
open PySem PySem.Spec PyProof.Rows
end L2
namespace L2
open PySem PySem.Spec PyProof.Rows
open PySem.W(findIn InstAt)
def wF(d:Addr)(fs:List (Str×V))(h:Heap):Prop:=∃a,h.Ns1 d a/\(∀f,qz (fs.lookup f) (a f))/\PySem.Within a (fs.map (·.1))
section
variable{X:Cx}{pins:List (Addr×Obj)}{σ:St}{H:Hp}{s:Shared}{e C:Addr}{f:Str}{A:Around}{E:Value->Shared->Prop}
def acd(I:Inv X pins σ H s){dx}(q:H e=some (.ext (tZ e C dx))):∃a,s.heap.get? e=some (pa C dx a):=(I.hok e _ q).1
end
section
variable{X:Cx}{e:Expr}{es:List Expr}{pos:Pos}{ta:TE}{ts:List TE}
def afV(ta:TE):TE:=λσ H Q=>ta σ H λx a=>(∃i:Int,x=.int i/\i.natAbs.log2<1920/\Q (.str (toString i)) a)\/∃y:Str,x=.str y/\y.length<=sizeLine/\Q (.str y) a
def abn(j:PE X e ta):PE X (.FormattedValue e (-1) none pos) (afV ta):=by
 intro a s σ H Q I h;refine PyProof.Rows.FormattedValue_plain (thn (j a s σ H _ I h) λu l b=>?_);refine jN b λx c f d q=>?_;rcases q with⟨i,rfl,g,q⟩|⟨y,rfl,k,q⟩;.obtain⟨t,rfl⟩:=d;exact PyProof.Rows.formatField_int_small g (hJ (.str _) c (f.tok _) ⟨_,rfl⟩ q)
 .obtain⟨t,rfl⟩:=d;exact ahd (λm tk=>hJ (.str y) c (f.tok tk) ⟨_,rfl⟩ q) k
def tJ:List TE->Str->TE|[],acc=>λσ H Q=>acc.length<=sizeLine/\Q (.str acc) H|t::ts,acc=>λσ H Q=>t σ H λx a=>∃y:Str,x=.str y/\(acc++y).length<=sizeLine/\tJ ts (acc++y) σ a Q
theorem jC:∀{es ts},Paired (PE X) es ts->∀b a s(σ:St)H Q,Inv X a σ H s->tJ ts b σ H Q->wpAny (model X.prog X.w) X.A (joinParts b (es.map λe=>eval e X.env)) (EP X a σ Q) X.xe s|[],[],_,b,a,s,σ,H,Q,I,h=>PyProof.Rows.joinParts_nil (hJ (.str _) H (I.tok _) ⟨_,rfl⟩ h.2) h.1|e::es,t::ts,.cons p ps,b,a,s,σ,H,Q,I,h=>by refine PyProof.Rows.joinParts_cons (thn (p _ s σ H _ I h) λu j c=>?_);obtain⟨x,d,i,g,y,ex,f,q⟩:=c;subst ex;obtain⟨t,rfl⟩:=g;exact⟨f,jC ps _ _ _ σ d Q i q⟩
def yN{c b es}(d:Paired (PE X) (c::b::es) ts)(f:evalEach es X.env=es.map λe=>eval e X.env:=by rfl):PE X (.JoinedStr (c::b::es) pos) (tJ ts Str.empty):=by intro a s σ H Q I h;refine PyProof.Rows.JoinedStr_many ?_;rw[f];exact jC d _ _ s σ H Q I h
end
def p7{K h N mg n v}(X:K.In h)(G:h.Ns N mg)(e:W.nsIn K N n=some (some v)):mg n=some v:=by
 refine qt G λo m p i f _ a=>?_;unfold W.nsIn at e;split at e
 .rename_i c d g j l q;have:=X _ _ q;rw[i]at this;cases this;cases f;split at e;.rename_i k b;cases e;rw[<-a];unfold nsFind findBy;rw[<-Array.find?_toList,b];rfl
  .split at e<;>cases e
 .cases e
def agd(h:Heap)(C fI:Addr):Prop:=∃(b:List Value)(N:Addr)(f j:Str)(bs:List Value)(g:Bool)(l:List Str)(sub:List Value)(i:Bool)(a:Option Bool)(dd:Option Addr)(d n m k e:Option Value)(c:Str->Option Value),h.get? C=some (excClassObj f j C N bs b g l sub i a dd d n m k e "ValueError.__new__")/\h.Ns N c/\c "__init__"=some (.ref fI)/\OwnTail h gF b
def zK{K:W.Frag}{h:Heap}{C fI:Addr}(X:K.In h)(q:pE K C (some (.ref fI))):agd h C fI:=q.out X λf j i l bs k n sub r b dd d o p m e g a c t=>⟨f,j,i,l,bs,k,n,sub,r,b,dd,d,o,p,m,e,_,g,.of_isNs (W.isNs_of_in X a),p7 X (.of_isNs (W.isNs_of_in X a)) c,t⟩
end L2
set_option autoImplicit true
set_option relaxedAutoImplicit true
namespace L2
open PySem PySem.Spec PyProof.Rows
open PySem.W(findIn InstAt)
section
variable{prog:Program}{w:World}{A:Around}{E:Value->Shared->Prop}{s:Shared}{env:Env}
variable{nm q:Str}{C N:Addr}{bs bm bmB:List Value}{hdct:Bool}{sn:List Str}{sub:List Value}{ab:Bool}{col:Option Bool}{dd:Option Addr}{k0 k1 k2 k3 k5:Option Value}{B newId initId:String}
def mm(F:ExcBaseFacts B newId initId bmB){mN fI x M g pos d Q}(l:bm.contains (.type "BaseException")=true)(R:A.handled=none)(j:(backTo g (starEach d env)).any (·.1)=false)(Y:mN "__init__"=some (.ref fI))(h:wpAny (model prog w) A (eval (.Name x M) env) (λf k=>f=.ref C/\wpAny (model prog w) A (evalArgs (.ref C) true (backTo g (starEach d env)) []) (λa b=>a.kw=[]/\a.pos.length<=sizeLine/\b.heap.get? C=some (excClassObj nm q C N bs bm hdct sn sub ab col dd k0 k1 k2 k3 k5 newId)/\b.heap.Ns N mN/\OwnTail b.heap bmB bm/\(∃u,b.heap.get? fI=some u/\u.cls=.type "function")/\∀o e,Heap.MadeExcOf b.heap o e (.ref C) a.pos->wpAny (model prog w) (A.under (.builtin "type.__call__" ⟨.ref C::a.pos,[]⟩)) (call (.ref fI) (.ref e::a.pos)) (λr p=>r=.none/\p.heap.get? C=some (excClassObj nm q C N bs bm hdct sn sub ab col dd k0 k1 k2 k3 k5 newId)/\∃G y,p.heap.get? e=some (pa C G y)/\E (.ref e) p) E {b with heap:=o}) E k) E s):wpAny (model prog w) A (exec (.Raise (some (.Call (.Name x M) d [] g)) none pos) env) Q E s:=by rw[arm_exec_Raise];refine agl (aiz (ja (C:=C) (nm:=nm) (q:=q) (N:=N) (bs:=bs) (bm:=bm) (hdct:=hdct) (sn:=sn) (sub:=sub) (ab:=ab) (col:=col) (dd:=dd) (k0:=k0) (k1:=k1) (k2:=k2) (k3:=k3) (k5:=k5) (newId:=newId) l R (agl (agN (wpAny_Call_ofName (agN h (λf k c=>?_) λ_ _ x=>x)) (λv O m=>agl (aiz (agp m))) λ_ _ x=>x))));obtain⟨rfl,c⟩:=c;refine agl (ahn (agN c (λa b i=>agl (aiz ?_)) λ_ _ x=>x));obtain⟨J,t⟩:=a;obtain⟨I,n,P,U,T,⟨u,D,H⟩,i⟩:=i;obtain rfl:t=[]:=I;simp only[j];refine agl (wpAny_keeperOf_exc P ?_);refine agl (qp (hrest:=n) F T P U Y D H λo e Z=>agN (i o e Z) (λr p K=>⟨K.1,agl (ahn (wpAny_point (agp ?_)))⟩) λ_ _ z=>z);obtain⟨_,X,G,y,S,h5⟩:=K;exact wZ e G y rfl X S h5
end
noncomputable def del(H:Hp)(e:Addr):Hp:=λb=>if b=e then none else H b
section
variable{X:Cx}{pins:List (Addr×Obj)}{σ:St}{H:Hp}{s:Shared}{e C d:Addr}{fs:List (Str×V)}
def Inv.yb{φ}(I:Inv X pins σ H s)(q:H e=some (.ext φ)):Inv X pins σ (del H e) s:=by
 have none_of:∀{b},H b=none->del H e b=none:=λ{b}h=>by unfold del;split<;>first|rfl|exact h
 have keep:∀{b o},H b=some o->(∀k,o≠.ext k)->del H e b=some o:=λ{b o}h n=>by unfold del;rw[agq λz=>by grind];exact h
 refine⟨I.ok,I.os,I.bare,⟨I.base.keep,I.base.slot,λb o g f i=>none_of (I.base.free b o g f i),I.base.there,λb j h=>keep (I.base.tups b j h) (λ_ z=>by cases z),λb o u h=>keep (I.base.frzs b o u h) (λ_ z=>by cases z),λb ps h=>?_⟩,I.loc,I.cell,none_of I.free,λx c h=>none_of (I.freeC x c h),λp r=>?_,λb u h=>?_,I.len⟩;.obtain⟨a,l⟩:=I.base.tbls b ps h;exact⟨a,keep l λ_ z=>by cases z⟩
 .refine acD (I.pin p r) λg f i=>?_;exact⟨g,none_of f,i⟩
 .have m:=by
   unfold del at h;split at h;.cases h
   .exact h
  exact(I.hok b u m).jV (λ_ _ _ z=>z) (λc z=>keep z λ_ y=>by cases y) λc j z=>keep z λ_ y=>by cases y
def Inv.aay (I:Inv X pins σ H s)(g:FpX X pins H e)(new:φ s.heap/\(∃o,s.heap.get? e=some o)/\∀i h,φ i->(∀o,i.get? e=some o->h.get? e=some o)->φ h):Inv X pins σ (upd H e (.ext φ)) s:=by
 have f:∀b u,H b=some u->b≠e:=λb u q z=>by rw[z,g.1]at q;cases q
 have:=I.jU (H':=upd H e (.ext φ)) (d':=s.drawn) (t':=s.toks) (λb a=>by rw[ag9.mp a];exact⟨g.2.2.2.1,g.2.1,g.2.2.2.2.1,g.2.2.2.2.2⟩) (λb o _ _ _ q _=>q) (λb o _ _ _ q _=>⟨o.slots,q⟩) (λb o a _ n=>by rw[ai λz=>a (by grind)];exact n) (λb o _ q=>⟨o,q⟩) (λb j q=>by rw[ai (f b _ q)];exact q) (λb o u q=>by rw[ai (f b _ q)];exact q) (λb ps q=>⟨#[],by rw[ai (f b _ q),q];simp⟩) (λm k=>k) (λb u q=>by
   by_cases a:b=e;.subst a;rw[aq]at q;cases q;exact new
   .rw[ai a]at q;exact(I.hok b u q).jV (λ_ _ _ z=>z) (λc z=>by rw[ai (f c _ z)];exact z) λc j z=>by rw[ai (f c _ z)];exact z) I.bare;exact this
theorem Inv.xd(I:Inv X pins σ H s)(q:H d=some (.ext (wF d fs))):Inv X pins σ (upd H d (.xd fs)) s:=by obtain⟨b,a,r,g⟩:=(I.hok d _ q).1;have f:∃u,s.heap.get? d=some u:=let⟨o,_,_,c,_⟩:=a;⟨o,c⟩;exact I.write (by rw[q];exact True.intro) (.inl rfl) (λ_ _ _ z=>z) f ⟨b,a,r⟩
end
def spI(C:Addr)(a:List Str):Sp:=λb H Q _=>∃e ws,b=.ref e::ws/\ws.length=a.length/\H e=some (.ext (tZ e C none))/\(∀w∈ws,∃i:Int,w=.int i/\i.natAbs.log2<100)/\∀d,H d=none->d≠e->Q .non (upd (upd H d (.ext (wF d (a.zip ws)))) e (.ext (tZ e C (some d))))
section
variable{X:Cx}{t:TA}{x:Str}{C fI:Addr}{fd:FuncData}{ps fl:List Str}{k:Nat}{np cpos pos:Pos}{e:Expr}{es:List Expr}
def ye(X:Cx)(C:Addr)(fl:List Str)(t:TA):TS:=λ_ σ H=>t σ H λb c=>b.length=fl.length/\(∀w∈b,∃i:Int,w=.int i/\i.natAbs.log2<100)/\fl.length<=50/\∀a s e d,c d=none->d≠e->Thr X a σ (upd c d (.xd (fl.zip b))) s e C (some d) .none none->X.xe (.ref e) s
def rO(hc:X.calm=true)(hg:Gl X x)(hm:X.mg x=some (.ref C))(q:pE X.K C (some (.ref fI)))(Q:W.typeIn X.K (.ref fI)=some (.type "function"))(F:FnOk X.prog X.w X.K X.mg X.base CX0 k fI fd ps (spI C fl))(hr:Room (k+1) X.A)(hb:Binds X.K fd ps [])(ha:PA X (e::es) t)(O:Dbg x:=by decide)(he:SE X e es:=by rfl)(i:BT X cpos es:=by rfl):PS X (.Raise (some (.Call (.Name x np) (e::es) [] cpos)) none pos) (ye X C fl t):=by
 intro f s σ H D I h;obtain⟨bm,N,nm,qn,bs,hdct,sn,sub,ab,col,dd,k0,k1,k2,k3,k5,mN,hC,hN,hi,T⟩:=zK I.mod.kin q;refine gD (agR.mp Q) λoI Y R=>?_;refine mm (C:=C) (nm:=nm) (q:=qn) (N:=N) (bs:=bs) (bm:=bm) (hdct:=hdct) (sn:=sn) (sub:=sub) (ab:=ab) (col:=col) (dd:=dd) (k0:=k0) (k1:=k1) (k2:=k2) (k3:=k3) (k5:=k5) ahO (mN:=mN) (fI:=fI) (T.hasType ahO.hasBase) (I.ok.hd hc) (by rw[he];show(false||(backTo cpos (starEach es X.env)).any (·.1))=false;rw[i];rfl) hi (gc I hg hm ⟨rfl,?_⟩ O);have hA:=ha cpos f s σ H _ I h;rw[he]at hA⊢;refine aiF (thn hA λn s2⟨j,g,p,r2,hl,P,a2,q2⟩=>⟨rfl,?_,p.bk _ _ hC,hN.keeps p.bk,T.keeps p.bk,⟨oI,p.bk _ _ (I.mod.kin _ _ Y),R⟩,λh' c K=>?_⟩);.rw[<-r2.length,hl];exact agy a2 (by decide)
 refine gL K.there λta h1 h2 h3=>?_;have Z:g c=none:=by cases z:g c with|none=>rfl|some u=>obtain⟨o,ho⟩:=eV (p.hok c u z);rw[K.new]at ho;cases ho
 have J:=p.kept (t':=s2.toks) K.keeps;have fp:∀w,w c=none->FpX X f w c:=λw hn=>p.fpX K.new hn;have S:Inv X f σ (upd g c (.ext (tZ c C none))) {s2 with heap:=h'}:=J.aay (fp g Z) ⟨⟨_,h1⟩,⟨_,h1⟩,λ_ _⟨a,z⟩k=>⟨a,k _ z⟩⟩;have r3:Vals (V.ref c::j) (Value.ref c::n):=.cons rfl r2;let Q':VK:=λv w=>v=.non/\∃d,upd g c (.ext (tZ c C none)) d=none/\d≠c/\w=upd (upd (upd g c (.ext (tZ c C none))) d (.ext (wF d (fl.zip j)))) c (.ext (tZ c C (some d)));have sp:spI C fl (V.ref c::j) (upd g c (.ext (tZ c C none))) Q' λ_ _ _=>False:=aaj c j rfl hl aq P λd O l=>⟨rfl,d,O,l,rfl⟩;have G:(Value.ref c::n).length=ps.length:=by rw[<-r3.length];exact F.len _ _ _ _ sp
 have E:=hb {s2 with heap:=h'} (Value.ref c::n) S.kIn (by rw[ahB];exact G);rw[ahB]at E;refine ah6 (ahT (F.run _ X.stack _ _ ⟨Value.ref c::n,[]⟩ (Value.ref c::n) _ Q' (λ_ _ _=>False) (hr.make C n []) trivial (S.ac9.make C n []) E r3 sp) λr s' m=>?_);cases r with|error e'=>exact False.elim m|ok fl'=>cases fl' with|next|brk|cont=>exact False.elim m|ret u=>
   obtain⟨v,w,I3,rv,ev,d,a1,l,M⟩:=S.after m;subst ev M;have U:g d=none:=by rwa[ai l]at a1
   obtain⟨a0,A⟩:=acd I3 (e:=c) (C:=C) (dx:=some d) aq;refine⟨rv,I3.bk _ _ hC,some d,a0,A,q2 f s' c d U l ?_⟩;have I4:=I3.xd (d:=d) (fs:=fl.zip j) (by rw[ai l,aq]);have I5:=I4.yb (e:=c) (φ:=tZ c C (some d)) (by rw[ai (agG l),aq]);have M:del (upd (upd (upd (upd g c (.ext (tZ c C none))) d (.ext (wF d (fl.zip j)))) c (.ext (tZ c C (some d)))) d (.xd (fl.zip j))) c=upd g d (.xd (fl.zip j)):=by
    funext b;unfold del upd;by_cases y:b=c;.rw[ago y,agq (by rw[y];exact agG l),y,Z]
    .rw[agq y];by_cases B:b=d;.rw[ago B,ago B]
     .rw[agq B,agq B,agq y,agq B,agq y]
   rw[M]at I5;exact⟨I5,acE _ _ A rfl rfl rfl rfl rfl,fp _ (by rw[ai (agG l)];exact Z),λt z=>by cases z⟩
end
end L2
namespace PySem
open Sem(wp)
end PySem
namespace L2
open PySem PySem.Spec PyProof.Rows
section
variable{X:Cx}
inductive TyW(K:W.Frag)(H:Hp):V->Value->Prop where|non:TyW K H .non (.type "NoneType")|bl(x:Bool):TyW K H (.bl x) (.type "bool")|int(i:Int):TyW K H (.int i) (.type "int")|str(x:Str):TyW K H (.str x) (.type "str")|lst{a:Addr}{xs:List V}(e:SqL K H a xs):TyW K H (.ref a) (.type "list")|tup{a:Addr}{xs:List V}(e:SqT K H a xs):TyW K H (.ref a) (.type "tuple")
def TyW.kit{pins:List (Addr×Obj)}{σ:St}{H:Hp}{s:Shared}{x:V}{u t:Value}(ty:TyW X.K H x t)(I:Inv X pins σ H s)(b:RelV x u):(∃P:Heap->Prop,W.KitX X.K u t P/\P s.heap)/\u≠.builtin "__main__.__loader__#opaque":=by cases ty with|non=>cases show u=Value.none from b;exact⟨⟨_,W.kitx_none,trivial⟩,λz=>nomatch z⟩|bl y=>cases show u=Value.bool y from b;exact⟨⟨_,W.kitx_bool,trivial⟩,λz=>nomatch z⟩|int i=>obtain⟨t,q⟩:=show∃t,u=Value.int i t from b;cases q;exact⟨⟨_,W.kitx_int,trivial⟩,λz=>nomatch z⟩|str y=>obtain⟨t,q⟩:=show∃t,u=Value.str y t from b;cases q;exact⟨⟨_,W.kitx_str,trivial⟩,λz=>nomatch z⟩|@lst a xs e=>cases show u=Value.ref a from b;obtain⟨f,_,p,_⟩:=I.list e;obtain⟨o,d,c,_⟩:=p.isList;exact⟨⟨_,ajk,⟨o,d,c⟩⟩,λz=>nomatch z⟩|@tup a xs e=>cases show u=Value.ref a from b;obtain⟨f,_,⟨o,d,c,_⟩,_⟩:=I.tuple e;exact⟨⟨_,W.kitx_tuple,⟨o,d,c⟩⟩,λz=>nomatch z⟩
def md:bu X (.builtin "isinstance") λc H Q=>∃x a T U t b,c=[x,.ref a]/\SqT X.K H a [.ty T,.ty U]/\TyW X.K H x t/\W.kitAny X.K t [.type T,.type U]=some b/\Q (.bl b) H:=by intro d s σ H c G Q I r h;obtain⟨x,a,T,U,t,b,rfl,k,ty,e,q⟩:=h;obtain⟨u,p,rfl,E,f⟩:=vals2 r;cases show p=Value.ref a from f;obtain⟨⟨P,Z,B⟩,D⟩:=ty.kit I E;obtain⟨C,g,⟨o,A,i,n,l⟩,_⟩:=I.tuple k;obtain⟨v,w,rfl,z,y⟩:=vals2 g;cases show v=Value.type T from z;cases show w=Value.type U from y;obtain⟨j,od,m,J⟩:=o;cases show j=_ from i;cases show m=_ from l;exact W.kia_tup Z I.kIn B A e D λtk=>⟨.bl b,H,I.tok tk,rfl,q⟩
def sC:MtR X "list.count" λx g H Q=>∃n y d b,g=[y]/\IsD X.K H n y d/\IsD X.K H (n+1) x (.list b)/\X.A.units+1+n<cLine/\Q (.int (b.countP λz=>PyData.eqv z d:Nat)) H:=by
 intro h s σ H x g v D Q I A i⟨n,y,d,b,e,j,k,K,q⟩;subst e;obtain⟨u,rfl,p⟩:=vals1 i;obtain⟨⟨J,B⟩,l,G⟩:=I.reads n d y u j p;obtain⟨⟨bs,r⟩,f,C⟩:=I.reads _ _ x v k A;have f:PyData.canLayAll0 b=true:=by simpa[PyData.canLay0]using f
 cases r with|@list a o its m ds' as' h1 h2 h3 h4=>
 obtain⟨cl,dd,E,w⟩:=o;cases h2;cases h3;have c:=SeqAt.readsAll_map b _ _ f h4;refine call_meets F.slot_list_count ⟨_,h1,rfl⟩ F.entry_list_count (F.args_list_count_2 _ _) (SeqAt.list_countAt a its m dd w u λz=>PyData.eqv (SeqAt.readOf s.heap z) d) ⟨h1,SeqAt.items_eqAt h4 B f l (by have:=aiA (PyData.depthAll b) d.depth;omega),?_⟩;have t:(its.toList.countP λz=>PyData.eqv (SeqAt.readOf s.heap z) d)=b.countP λz=>PyData.eqv z d:=by rw[<-c,List.countP_map];rfl
 rw[t];exact⟨.int _,H,I.tok _,⟨_,rfl⟩,q⟩
def ri(t:TA):TE:=λσ H Q=>t σ H λb a=>∃j:Int,b=[.int j]/\-2^62<=j/\j<2^62/\∀r,a r=none->Q (.ref r) (upd a r (.rng 0 j))
def rY{a:Expr}{ta:TA}{p pos:Pos}(m:Gl X "range")(n:X.mg "range"=none)(k:PA X [a] ta)(hs:starEach [a] X.env=[(false,eval a X.env)]:=by rfl):PE X (.Call (.Name "range" p) [a] [] pos) (ri ta):=by intro c s σ H Q I h;refine Call_ (eM I m n ajn (ag4 (thn (k pos c s σ H _ I h) λw g d=>?_) hs rfl));obtain⟨x,v,f,l,r⟩:=d;obtain⟨j,rfl,_,_,q⟩:=r;obtain⟨u,rfl,i⟩:=vals1 l;obtain⟨t,rfl⟩:=i;exact call_range_1 ⟨.ref g.heap.objs.size,_,f.laid (o:=.rng 0 j) (λb o e=>agm _ e) (agx _) ⟨_,_,_,agA _ rfl⟩,rfl,q _ (f.hok.fresh (agx _))⟩
end
def Wlk(h:Heap):Bool->Addr->Addr->Nat->Prop|true,it,a,k=>h.IsListIter it a k|false,it,a,k=>h.IsTupleIter it a k
def ml(h:Heap):Bool->Addr->Array Value->Prop|true,a,xs=>h.IsList a xs|false,a,xs=>h.IsTuple a xs
def SqB(K:W.Frag)(H:Hp):Bool->Addr->List V->Prop|true,a,xs=>SqL K H a xs|false,a,xs=>SqT K H a xs
def Wlk.go{h h':Heap}{lt:Bool}{it a:Addr}{k:Nat}(w:Wlk h lt it a k)(e:∀o,h.get? it=some o->h'.get? it=some o):Wlk h' lt it a k:=by cases lt with|true|false=>obtain⟨o,b,r⟩:=w;exact⟨o,e o b,r⟩
def ml.go{h h':Heap}{lt:Bool}{a:Addr}{xs:Array Value}(w:ml h lt a xs)(e:∀o,h.get? a=some o->h'.get? a=some o):ml h' lt a xs:=by cases lt with|true|false=>obtain⟨o,b,r⟩:=w;exact⟨o,e o b,r⟩
def Wlk.acL{h:Heap}{lt:Bool}{it a:Addr}{k:Nat}(w:Wlk h lt it a k):∃o b,h.get? it=some o/\o.data=.fields b:=by cases lt with|true|false=>obtain⟨o,c,_,r⟩:=w;exact⟨o,_,c,r⟩
def ml.there{h:Heap}{lt:Bool}{a:Addr}{xs:Array Value}(w:ml h lt a xs):∃o,h.get? a=some o:=by cases lt with|true|false=>obtain⟨o,b,_⟩:=w;exact⟨o,b⟩
section
variable{prog:Program}{w:World}{A:Around}{E:Value->Shared->Prop}{s:Shared}
def kZ{lt:Bool}{it a:Addr}{k:Nat}{xs:Array Value}{x:Value}{Q:Value->Shared->Prop}(hw:Wlk s.heap lt it a k)(d:ml s.heap lt a xs)(e:xs[k]?=some x)(c:∀b,Wlk b lt it a (k+1)->Heap.SameBut it s.heap b->Q x {s with heap:=b}):wpAny (model prog w) A (Builtin.SmallTypes.nextOf (.ref it)) Q E s:=by cases lt with|true=>exact wpAny_nextOf_list_item hw d e c|false=>exact jz hw d e c
def qR{lt:Bool}{it a:Addr}{k:Nat}{xs:Array Value}{Q:Value->Shared->Prop}(c:A.handled=none)(hw:Wlk s.heap lt it a k)(f:ml s.heap lt a xs)(g:xs[k]?=none)(d:∀b e,Heap.ExtBut it s.heap b->(∃o,b.get? e=some o/\o.cls=.type "StopIteration")->E (.ref e) {s with heap:=b}):wpAny (model prog w) A (Builtin.SmallTypes.nextOf (.ref it)) Q E s:=by cases lt with|true=>exact wpAny_nextOf_list_end c hw f g d|false=>exact lP c hw f g d
def qB{lt:Bool}{a f b h g C G:Addr}{k:Nat}{xs ys:Array Value}{x y u v:Value}{Q:Option Value->Shared->Prop}(D:ZipApart a f b h g C G)(hz:IsZip s.heap a f b .none)(hI:IsPair s.heap f (.ref h) (.ref g))(hO:IsPair s.heap b u v)(w1:Wlk s.heap lt h C k)(w2:Wlk s.heap lt g G k)(q1:ml s.heap lt C xs)(q2:ml s.heap lt G ys)(hx:xs[k]?=some x)(hy:ys[k]?=some y)(hQ:∀m,IsZip m a f b (rawInt s.heap.objs.size)->IsPair m b x y->Wlk m lt h C (k+1)->Wlk m lt g G (k+1)->IsPair m s.heap.objs.size x y->(∀c o,c≠a->c≠b->c≠h->c≠g->s.heap.get? c=some o->m.get? c=some o)->Q (some (.ref s.heap.objs.size)) {s with heap:=m}):wpAny (model prog w) A (pyNext (.ref a)) Q E s:=by
 have hT:s.TypeIs (.ref a) "zip":=⟨_,hz,rfl⟩;unfold pyNext;refine agl (aia (ahh (name:=Str.ofString "__next__") hT aiG (ahw aiG hT F.entry_zip_next ?_ (F.args_zip_next_1 _))));show wpAny _ _ (field (.ref a) 2 >>=_) _ _ s;refine agl (agQ (s:=s) hz rfl (x:=.bool false) rfl ?_);show wpAny _ _ (field (.ref a) 3 >>=_) _ _ s;refine agl (agQ (s:=s) hz rfl (x:=.ref f) rfl (agl (ahy hI rfl ?_)));show wpAny _ _ (Builtin.SmallTypes.ownedTupleIsFree (.ref a)>>=_) _ _ s;unfold Builtin.SmallTypes.ownedTupleIsFree;refine agl (agl (agQ (s:=s) hz rfl (x:=.none) rfl (agp ?_)));simp only[aib];refine agl (ai0 (agl (agQ (s:=s) hz rfl (x:=.ref b) rfl (agl (ag8 hz (by simp) λP Y q=>?_)))));replace Y:IsZip P a f b .ellipsis:=Y;simp only[List.zipIdx_cons,List.zipIdx_nil,ajg,List.forIn_nil];refine agl (agl (agl (wpAny_onRaise ?_)));show wpAny _ _ (Builtin.SmallTypes.nextOf (.ref h)>>=_) _ _ {s with heap:=P};refine agl (kZ (s:={s with heap:=P}) (w1.go λo=>q.extBut _ o D.i1z) (q1.go λo=>q.extBut _ o D.l1z) hx λr n1 j=>agp ?_);replace j:Heap.SameBut h P r:=j;have O2:IsPair r b u v:=j.extBut _ _ D.TOi1 (q.extBut _ _ D.TOz hO);refine agl (ahy (s:={s with heap:=r}) O2 rfl (agl (wpAny_updateSeq_pair (s:={s with heap:=r}) O2 λt X i=>agl (wpAny_letGo (agp ?_)))));replace X:IsPair t b x v:=X;replace i:Heap.SameBut b r t:=i;refine agl (agl (wpAny_onRaise ?_));show wpAny _ _ (Builtin.SmallTypes.nextOf (.ref g)>>=_) _ _ {s with heap:=t};refine agl (kZ (s:={s with heap:=t}) (w2.go λo z=>i.extBut _ o D.TOi2.symm (j.extBut _ o D.i12.symm (q.extBut _ o D.i2z z))) (q2.go λo z=>i.extBut _ o D.l2TO (j.extBut _ o D.l2i1 (q.extBut _ o D.l2z z))) hy λB n2 n=>agp ?_);replace n:Heap.SameBut g t B:=n;have O4:IsPair B b x v:=n.extBut _ _ D.TOi2 X;refine agl (ahy (s:={s with heap:=B}) O4 rfl (agl (wpAny_updateSeq_pair (s:={s with heap:=B}) O4 λd I l=>agl (wpAny_letGo (agp (agp ?_))))));replace I:IsPair d b x y:=I;replace l:Heap.SameBut b B d:=l;refine agl (ahy (s:={s with heap:=d}) I rfl (agl (wpAny_newTuple ?_)));have sz:d.objs.size=s.heap.objs.size:=by rw[l.1,n.1,i.1,j.1,q.1]
 have z5:IsZip d a f b .ellipsis:=l.extBut _ _ D.TOz.symm (n.extBut _ _ D.i2z.symm (i.extBut _ _ D.TOz.symm (j.extBut _ _ D.i1z.symm Y)));have k5:∀c o,c≠a->c≠b->c≠h->c≠g->s.heap.get? c=some o->d.get? c=some o:=λc o p O T S e=>l.extBut _ _ O (n.extBut _ _ S (i.extBut _ _ O (j.extBut _ _ T (q.extBut _ _ p e))));have m1:Wlk d lt h C (k+1):=n1.go λo z=>l.extBut _ o D.TOi1.symm (n.extBut _ o D.i12 (i.extBut _ o D.TOi1.symm z));have m2:Wlk d lt g G (k+1):=n2.go λo z=>l.extBut _ o D.TOi2.symm z;have Z:a<d.objs.size:=agt z5;show wpAny _ _ (Builtin.SmallTypes.ownedTupleHandOut (.ref a) (.ref d.objs.size)>>=_) _ _ _;unfold Builtin.SmallTypes.ownedTupleHandOut;refine agl (agl (ag8 (s:={s with heap:=d.push {cls:=.type "tuple",data:=.seq #[x,y]}}) (agm _ z5) (by simp) λR U J=>?_));replace U:IsZip R a f b (rawInt d.objs.size):=U;replace J:Heap.SameBut a (d.push {cls:=.type "tuple",data:=.seq #[x,y]}) R:=J;refine ag8 (s:={s with heap:=R}) U (by simp) λH K M=>?_;replace K:IsZip H a f b (rawInt d.objs.size):=K;replace M:Heap.SameBut a R H:=M;have N:∀c o,c≠a->d.get? c=some o->H.get? c=some o:=λc o p e=>M.extBut _ _ p (J.extBut _ _ p (agm _ e));have T8:IsPair H d.objs.size x y:=M.extBut _ _ (ahb Z) (J.extBut _ _ (ahb Z) (agA _ rfl));rw[sz]at K T8;refine agp ⟨_,rfl,agp ?_⟩;show Q (some (.ref d.objs.size)) _;rw[sz];exact hQ H K (N _ _ D.TOz I) (m1.go λo z=>N _ o D.i1z z) (m2.go λo z=>N _ o D.i2z z) T8 λc o p O T S e=>N c o p (k5 c o p O T S e)
def uP{lt:Bool}{a f g h C q U:Addr}{k:Nat}{xs:Array Value}{Q:Option Value->Shared->Prop}(J:A.handled=none)(D:ZipApart a f g h C q U)(hz:IsZip s.heap a f g .none)(N:IsPair s.heap f (.ref h) (.ref C))(B:∃u v,IsPair s.heap g u v)(w1:Wlk s.heap lt h q k)(P:ml s.heap lt q xs)(R:xs[k]?=none)(O:∀y,(∀c o,c≠a->c≠h->s.heap.get? c=some o->y.get? c=some o)->Q none {s with heap:=y}):wpAny (model prog w) A (pyNext (.ref a)) Q E s:=by
 have I:s.TypeIs (.ref a) "zip":=⟨_,hz,rfl⟩;obtain⟨u,v,B⟩:=B;unfold pyNext;refine agl (aia (ahh (name:=Str.ofString "__next__") I aiG (ahw aiG I F.entry_zip_next ?_ (F.args_zip_next_1 _))));show wpAny _ _ (field (.ref a) 2 >>=_) _ _ s;refine agl (agQ (s:=s) hz rfl (x:=.bool false) rfl ?_);show wpAny _ _ (field (.ref a) 3 >>=_) _ _ s;refine agl (agQ (s:=s) hz rfl (x:=.ref f) rfl (agl (ahy N rfl ?_)));show wpAny _ _ (Builtin.SmallTypes.ownedTupleIsFree (.ref a)>>=_) _ _ s;unfold Builtin.SmallTypes.ownedTupleIsFree;refine agl (agl (agQ (s:=s) hz rfl (x:=.none) rfl (agp ?_)));simp only[aib];refine agl (ai0 (agl (agQ (s:=s) hz rfl (x:=.ref g) rfl (agl (ag8 hz (by simp) λm r t=>?_)))));replace r:IsZip m a f g .ellipsis:=r;simp only[List.zipIdx_cons,List.zipIdx_nil,ajg,List.forIn_nil];refine agl (agl (agl (wpAny_onRaise ?_)));show wpAny _ _ (Builtin.SmallTypes.nextOf (.ref h)>>=_) _ _ {s with heap:=m};refine agl (qR (s:={s with heap:=m}) J (w1.go λo=>t.extBut _ o D.i1z) (P.go λo=>t.extBut _ o D.l1z) R λj e n M=>?_);replace n:Heap.ExtBut h m j:=n;obtain⟨S,d,i⟩:=M;have H:IsZip j a f g .ellipsis:=n _ _ D.i1z.symm r;have X:e≠a:=λx=>by subst x;rw[H]at d;cases d;simp at i
 refine ag8 (s:={s with heap:=j}) H (by simp) λp _ l=>?_;replace l:Heap.SameBut a j p:=l;refine agl (wpAny_isInstance (s:={s with heap:=p}) (T:="StopIteration") (b:=true) ⟨S,l.extBut _ _ X d,i⟩ isSubtype_stop (agp (O p λc o G K z=>l.extBut _ _ G (n _ _ K (t.extBut _ _ G z)))))
end
def qA{n a b:Nat}(c:a<n)(d:b<n):ZipApart (n+4) (n+2) (n+3) n (n+1) a b:=by constructor<;>(intro h;have h:(_:Nat)=_:=h;omega)
noncomputable abbrev eN(lt:Bool)(a:Addr):Obj:={cls:=.type (if lt then"list_iterator"else"tuple_iterator"),data:=.fields #[.ref a,.int 0 0]}
abbrev zh2(h:Heap)(lt:Bool)(a b:Addr):Heap:=(h.push (eN lt a)).push (eN lt b)
abbrev zh4(h:Heap)(lt:Bool)(a b:Addr):Heap:=((zh2 h lt a b).push {cls:=.type "tuple",data:=.seq #[.ref h.objs.size,.ref (h.push (eN lt a)).objs.size]}).push {cls:=.type "tuple",data:=.seq #[.none,.none]}
abbrev zh5(h:Heap)(lt:Bool)(a b:Addr):Heap:=(zh4 h lt a b).push {cls:=.type "zip",data:=.fields #[.none,.bool false,.bool false,.ref (zh2 h lt a b).objs.size,.ref ((zh2 h lt a b).push {cls:=.type "tuple",data:=.seq #[.ref h.objs.size,.ref (h.push (eN lt a)).objs.size]}).objs.size]}
def pF(lt:Bool)(a b:Addr)(xs ys:Array Value):Meets (Builtin.«zip.__new__» ⟨[.type "zip",.ref a,.ref b],[]⟩) λ_ R s=>ml s.heap lt a xs/\ml s.heap lt b ys/\R (.ok (.ret (.ref (zh4 s.heap lt a b).objs.size))) {s with heap:=zh5 s.heap lt a b}:=.of_wp λi w A R s h=>by
 obtain⟨c,g,d,tk,os⟩:=s;obtain⟨k,j,h⟩:=h;have l:=sub_zip;cases lt;.have e:Heap.IsTuple (Shared.heap ⟨c,g,d,tk,os⟩) a xs:=k;have f:Heap.IsTuple (Shared.heap ⟨c.push {cls:=.type "tuple_iterator",data:=.fields #[.ref a,.int 0 0]},g,d,tk,os⟩) b ys:=ml.go (lt:=false) j λo z=>agm _ z;wp_walk using aik e,aik f;exact⟨_,rfl,h⟩
 .have e:Heap.IsList (Shared.heap ⟨c,g,d,tk,os⟩) a xs:=k;have f:Heap.IsList (Shared.heap ⟨c.push {cls:=.type "list_iterator",data:=.fields #[.ref a,.int 0 0]},g,d,tk,os⟩) b ys:=ml.go (lt:=true) j λo z=>agm _ z;wp_walk using aix e,aix f;exact⟨_,rfl,h⟩
section
variable{prog:Program}{w:World}{A:Around}{E:Value->Shared->Prop}{s:Shared}
def qC{lt:Bool}{a b:Addr}{xs ys:Array Value}{Q:Value->Shared->Prop}(r:ml s.heap lt a xs)(q:ml s.heap lt b ys)(h:∀d,IsZip d (s.heap.objs.size+4) (s.heap.objs.size+2) (s.heap.objs.size+3) .none->IsPair d (s.heap.objs.size+2) (.ref s.heap.objs.size) (.ref (s.heap.objs.size+1))->IsPair d (s.heap.objs.size+3) .none .none->Wlk d lt s.heap.objs.size a 0->Wlk d lt (s.heap.objs.size+1) b 0->(∀c o,s.heap.get? c=some o->d.get? c=some o)->Q (.ref (s.heap.objs.size+4)) {s with heap:=d}):wpAny (model prog w) A (call (.type "zip") [.ref a,.ref b]) Q E s:=by
 refine callType_new F.called_zip (by decide) (F.typeCall_zip_2 _ _) (F.newCall_zip_2 _ _) (λj=>F.args_object_init_3 j _ _) F.entry_zip_new (pF lt a b xs ys) ⟨r,q,?_⟩;have e:(s.heap.push (eN lt a)).objs.size=s.heap.objs.size+1:=ahS ..;have g:(zh2 s.heap lt a b).objs.size=s.heap.objs.size+2:=by rw[ahS,e]
 have f:((zh2 s.heap lt a b).push {cls:=.type "tuple",data:=.seq #[.ref s.heap.objs.size,.ref (s.heap.push (eN lt a)).objs.size]}).objs.size=s.heap.objs.size+3:=by rw[ahS,g]
 have m:(zh4 s.heap lt a b).objs.size=s.heap.objs.size+4:=by rw[ahS,f]
 have k:(zh5 s.heap lt a b).get? (zh4 s.heap lt a b).objs.size=some _:=agA _ rfl;have l:(zh5 s.heap lt a b).get? ((zh2 s.heap lt a b).push {cls:=.type "tuple",data:=.seq #[.ref s.heap.objs.size,.ref (s.heap.push (eN lt a)).objs.size]}).objs.size=some _:=agm _ (agA _ rfl);have n:(zh5 s.heap lt a b).get? (zh2 s.heap lt a b).objs.size=some _:=agm _ (agm _ (agA _ rfl));have i:(zh5 s.heap lt a b).get? (s.heap.push (eN lt a)).objs.size=some (eN lt b):=agm _ (agm _ (agm _ (agA _ rfl)));have p:(zh5 s.heap lt a b).get? s.heap.objs.size=some (eN lt a):=agm _ (agm _ (agm _ (agm _ (agA _ rfl))));show _/\_;rw[g,f,m]at k;rw[e,g]at n;rw[f]at l;rw[e]at i;rw[m];refine⟨⟨_,k,rfl⟩,h _ k n l ?_ ?_ λc o x=>agm _ (agm _ (agm _ (agm _ (agm _ x))))⟩
 .cases lt;.exact⟨_,p,rfl,rfl⟩
  .exact⟨_,p,rfl,rfl⟩
 .cases lt;.exact⟨_,i,rfl,rfl⟩
  .exact⟨_,i,rfl,rfl⟩
end
def Inv.qY{X:Cx}{pins:List (Addr×Obj)}{σ:L2.St}{H:Hp}{s:Shared}{h':Heap}{t':Nat}{ch:List Addr}(I:Inv X pins σ H s)(k:∀c o,c∉ch->s.heap.get? c=some o->h'.get? c=some o)(b:∀c∈ch,n3 X pins H c):Inv X pins σ H {s with heap:=h',toks:=t'}:=by
 have d:∀c u,H c=some u->c∉ch:=λc u e z=>by rw[(b c z).1]at e;cases e
 refine I.step (g':=s.gens) (d':=s.drawn) (ch:=ch) (λc a=>⟨(b c a).2.2.2.1,(b c a).2.1,(b c a).2.2.2.2.1,(b c a).2.2.2.2.2⟩) (λc o _ _ a e _=>k c o a e) (λc o _ _ a e _=>⟨o.slots,k c o a e⟩) (λ_ _ _ _ n=>n) (λc o a e=>⟨o,k c o a e⟩) (λ_ _ e=>e) (λ_ _ _ e=>e) (λc ps e=>⟨#[],by rw[e];simp⟩) (λm i=>?_) (λc u e=>?_) I.bare;.obtain⟨o,g,h,j,r⟩:=i;exact⟨o,g,h,k _ o (λz=>(b _ z).2.1 rfl) j,r⟩
 .refine(I.hok c u e).jV (λf v a q=>k f v ?_ q) (λ_ q=>q) λ_ _ q=>q;rcases a with z|z;.rw[z];exact d c u e
  .exact d f _ z
def Itz(K:W.Frag)(lt:Bool)(a b:Addr):It:=⟨λi H=>∃c d x y,SqB K H lt a c/\SqB K H lt b d/\c[i]?=some x/\d[i]?=some y,λi H v e=>∃p,v=.ref p/\H p=none/\∀c d,SqB K H lt a c->SqB K H lt b d->∃x y,c[i]?=some x/\d[i]?=some y/\e=upd H p (.tup [x,y]),λi H=>∃c,SqB K H lt a c/\c.length<=i⟩
def Inv.aaP{X:Cx}{pins:List (Addr×Obj)}{σ:L2.St}{H:Hp}{s:Shared}{lt:Bool}{a:Addr}{xs:List V}(I:Inv X pins σ H s)(h:SqB X.K H lt a xs):∃b:List Value,Vals xs b/\ml s.heap lt a b.toArray:=by cases lt with|true=>obtain⟨b,r,p,_⟩:=I.list h;exact⟨b,r,p.isList⟩|false=>obtain⟨b,r,p,_⟩:=I.tuple h;exact⟨b,r,p⟩
def Inv.ou{X:Cx}{pins:List (Addr×Obj)}{σ:L2.St}{H:Hp}{s:Shared}{lt:Bool}{a:Addr}{xs ys:List V}(I:Inv X pins σ H s)(h:SqB X.K H lt a xs)(h':SqB X.K H lt a ys):xs=ys:=by cases lt with|true=>exact I.gT h h'|false=>exact I.fh h h'
def u3{P:Program}{w:World}{K:W.Frag}{es:List Expr}{k:Nat}{pos:Pos}{lt:Bool}{a b zp ti tO j1 j2:Addr}(D:ZipApart zp ti tO j1 j2 a b):Turn P w K (.Tuple es k pos) (Itz K lt a b) [zp,ti,tO,j1,j2] zp λi h=>IsZip h zp ti tO .none/\IsPair h ti (.ref j1) (.ref j2)/\(∃u v,IsPair h tO u v)/\Wlk h lt j1 a i/\Wlk h lt j2 b i where
 mem:=by simp
 obj:=λi h st c hc=>by
  obtain⟨hz,hI,⟨u,v,hO⟩,w1,w2⟩:=st;simp only[ags,agI,ah1]at hc;rcases hc with rfl|rfl|rfl|rfl|rfl;.exact⟨_,hz,λv z=>by cases z⟩
  .exact⟨_,hI,λv z=>by cases z⟩
  .exact⟨_,hO,λv z=>by cases z⟩
  .obtain⟨o,vs,ho,hd⟩:=w1.acL;exact⟨o,ho,λv z=>by rw[hd]at z;cases z⟩
  .obtain⟨o,vs,ho,hd⟩:=w2.acL;exact⟨o,ho,λv z=>by rw[hd]at z;cases z⟩
 keep:=λi h h' st kk=>by obtain⟨hz,hI,⟨u,v,hO⟩,w1,w2⟩:=st;exact⟨kk _ (by simp) _ hz,kk _ (by simp) _ hI,⟨u,v,kk _ (by simp) _ hO⟩,w1.go λo=>kk _ (by simp) o,w2.go λo=>kk _ (by simp) o⟩
 item:=by
  intro X hP hw hK i pins s σ H E hc I hf st hg;subst hP hw hK;obtain⟨hz,hI,⟨u0,v0,hO⟩,w1,w2⟩:=st;obtain⟨xs,ys,x,y,hq1,hq2,hx,hy⟩:=hg;obtain⟨its,rv,p1⟩:=I.aaP hq1;obtain⟨jts,rw',p2⟩:=I.aaP hq2;obtain⟨u,hu,ru⟩:=rv.get hx;obtain⟨v,hv,rv'⟩:=rw'.get hy;refine qB D hz hI hO w1 w2 p1 p2 (x:=u) (y:=v) (by simpa using hu) (by simpa using hv) λh' z' O' m1 m2 tp kp=>?_;have hfr:H s.heap.objs.size=none:=I.hok.fresh (agx _);have hnT:∀c o,s.heap.get? c=some o->c≠s.heap.objs.size:=λc o q=>agz (agt q);have I1:Inv X pins σ H {s with heap:=h'}:=I.qY (t':=s.toks) (ch:=[zp,ti,tO,j1,j2]) (λc o hc q=>by simp only[ags,agI,ah1,not_or]at hc;exact kp c o hc.1 hc.2.2.1 hc.2.2.2.1 hc.2.2.2.2 q) hf;have I2:Inv X pins σ (upd H s.heap.objs.size (.tup [x,y])) {s with heap:=h'}:=by refine I1.pM hfr I.sz (ahb I.lt) (λn c q=>?_) (λpp hp=>hnT _ _ (I.pin pp hp).1) ⟨by show 2<=sizeLine;decide,[u,v],.cons ru (.cons rv' .nil),⟨_,tp,rfl,0,rfl⟩⟩;obtain⟨_,z⟩:=I.cell n c q;exact agz z.lt
  refine⟨_,rfl,wpAny_letOwnedTupleGo_zip (s:={s with heap:=h'}) z' λh2 z2 e2=>?_⟩;replace e2:Heap.SameBut zp h' h2:=e2;have nz:s.heap.objs.size≠zp:=agG (hnT _ _ hz);have fz:=hf zp (by simp);refine⟨.ref s.heap.objs.size,upd H s.heap.objs.size (.tup [x,y]),?_,rfl,⟨_,rfl,hfr,λxs' ys' h1 h2=>⟨x,y,by rw[I.ou h1 hq1];exact hx,by rw[I.ou h2 hq2];exact hy,rfl⟩⟩,⟨z2,?_,⟨_,_,e2.extBut _ _ D.TOz O'⟩,m1.go λo z=>e2.extBut _ o D.i1z z,m2.go λo z=>e2.extBut _ o D.i2z z⟩,λc hc=>?_⟩;.exact I2.turned (t':=s.toks) (it:=zp) (λc o hc q=>(e2.2 c hc).trans q) (by rw[ai (agG nz)];exact fz.1) fz.2.1 fz.2.2.2.1 fz.2.2.2.2.1 fz.2.2.2.2.2
  .exact e2.extBut _ _ D.TIz (kp _ _ D.TIz D.TITO D.TIi1 D.TIi2 hI)
  .have hne:c≠s.heap.objs.size:=by
    simp only[ags,agI,ah1]at hc;rcases hc with rfl|rfl|rfl|rfl|rfl;.exact hnT _ _ hz
    .exact hnT _ _ hI
    .exact hnT _ _ hO
    .obtain⟨o,_,ho,_⟩:=w1.acL;exact hnT _ _ ho
    .obtain⟨o,_,ho,_⟩:=w2.acL;exact hnT _ _ ho
   rw[ai hne];exact(hf c hc).1
 done:=by intro X hP hw hK i pins s σ H E hc I hf st hg;subst hP hw hK;obtain⟨hz,hI,hO,w1,w2⟩:=st;obtain⟨xs,hq,hx⟩:=hg;obtain⟨its,rv,p⟩:=I.aaP hq;have hl:=rv.length;refine uP (I.ok.hd hc) D hz hI hO w1 p (by simp;omega) λh' kp=>⟨rfl,?_⟩;exact I.qY (t':=s.toks) (ch:=[zp,ti,tO,j1,j2]) (λc o hc q=>by simp only[ags,agI,ah1,not_or]at hc;exact kp c o hc.1 hc.2.2.2.1 q) hf
 self:=λ_ _ _ _ _⟨hz,_⟩h=>wpAny_pyIter_zip hz h
section
variable{X:Cx}
def ab1(K:W.Frag)(t:TA):TI:=λσ H R=>t σ H λf c=>∃(lt:Bool)(a b:Addr),f=[.ref a,.ref b]/\(∃d,SqB K c lt a d)/\(∃e,SqB K c lt b e)/\R (Itz K lt a b) c
def abf{l m:Expr}{t:TA}{es:List Expr}{k:Nat}{tp p pos:Pos}(K:Gl X "zip")(hm:X.mg "zip"=none)(Q:PA X [l,m] t)(hs:starEach [l,m] X.env=[(false,eval l X.env),(false,eval m X.env)]:=by rfl)(f:starEach [m] X.env=[(false,eval m X.env)]:=by rfl):PI X (.Tuple es k tp) (.Call (.Name "zip" p) [l,m] [] pos) (ab1 X.K t):=by
 intro j s σ H R I h;refine Call_ (eM I K hm boot_zip (ag4 (thn (Q pos j s σ H _ I h) λus d w=>?_) (by rw[hs,f]) (by rw[f];rfl)));obtain⟨vs,E,g,S,N⟩:=w;obtain⟨lt,a,b,rfl,⟨xs,r⟩,⟨ys,n⟩,q⟩:=N;obtain⟨u,v,rfl,P,C⟩:=vals2 S;cases show u=Value.ref a from P;cases show v=Value.ref b from C;obtain⟨T,_,A⟩:=g.aaP r;obtain⟨M,_,y⟩:=g.aaP n;obtain⟨oa,o⟩:=A.there;obtain⟨ob,x⟩:=y.there;have U:=agt o;have Y:=agt x;refine qC A y λh' z J G w1 Z O=>wpAny_pyIter_zip z ?_;have D:ZipApart (d.heap.objs.size+4) (d.heap.objs.size+2) (d.heap.objs.size+3) d.heap.objs.size (d.heap.objs.size+1) a b:=qA U Y;refine⟨d.heap.objs.size+4,[d.heap.objs.size+4,d.heap.objs.size+2,d.heap.objs.size+3,d.heap.objs.size,d.heap.objs.size+1],_,_,E,rfl,g.kept (t':=d.toks) O,u3 D,⟨z,J,⟨_,_,G⟩,w1,Z⟩,λc B=>?_,q⟩;have i:d.heap.objs.size<=c:=by simp only[ags,agI,ah1]at B;rcases B with e|e|e|e|e<;>rw[e]<;>first|exact agx _|exact ahE _ _
 exact g.ab7 i (g.hok.fresh i)
end
end L2
namespace WL
open PySem
def kK:List W->Res W|[.exc nm _,.cls d]=>.ok (.bl (pR nm d))|[.exc _ _,.ty "ValueError"]=>.ok (.bl true)|_=>.bad
@[simp]def adh(nm d:String)(fs:List W):kK [.exc nm fs,.cls d]=.ok (.bl (pR nm d)):=rfl
@[simp]def aeS(nm:String)(fs:List W):kK [.exc nm fs,.ty "ValueError"]=.ok (.bl true):=rfl
noncomputable def rq:W->Bool|.int i=>decide (i.natAbs.log2<100)|_=>false
def rC(nm:String)(a:AF):SF:=λσ=>ofR σ (a σ) λws=>if ws.length=(fieldsOf nm).length/\ws.all rq=true then .ex (.exc nm ws) σ else .bad
def aeA(f:Str):W->Res W
|.exc nm fs=>match((fieldsOf nm).zip fs).lookup f with|some w=>.ok w|none=>.bad
|_=>.bad
def ada(a:EF)(f:Str):EF:=λσ=>(a σ).bind (aeA f)
noncomputable def mx:List W->List W->List W|x::xs,y::ys=>.tup [x,y]::mx xs ys|_,_=>[]
def ab1(a b:EF):LF:=λσ=>(a σ).bind λx=>(b σ).bind λy=>match x,y with|.lst xs,.lst ys=>if xs.length=ys.length then .ok (mx xs ys)else .bad|.tup xs,.tup ys=>if xs.length=ys.length then .ok (mx xs ys)else .bad|_,_=>.bad
def tD(a b:EF)(σ:Ws):ab1 a b σ=(a σ).bind λx=>(b σ).bind λy=>match x,y with|.lst xs,.lst ys=>if xs.length=ys.length then .ok (mx xs ys)else .bad|.tup xs,.tup ys=>if xs.length=ys.length then .ok (mx xs ys)else .bad|_,_=>.bad:=(rfl)
def agk(e:EF)(st:Ws->Res (Option Int)):EF:=λσ=>(e σ).bind λx=>(st σ).bind λo=>match x,o with|.lst xs,some i=>if i=-1 then .ok (.lst xs.reverse)else .bad|_,_=>.bad
noncomputable def cnt(x:W):List W->Nat|[]=>0|y::ys=>cnt x ys+if eqv y x then 1 else 0
def jB:W->List W->Res W|.lst ys,[x]=>if okD 50 x&&e8 51 ys then .ok (.int (cnt x ys))else .bad|_,_=>.bad
def du:List W->Res W
|[x,.tup [.ty t,.ty u]]=>match isK x t,isK x u with|some b,some c=>.ok (.bl (b||c))|_,_=>.bad
|_=>.bad
def i7(x:W)(t u:String):du [x,.tup [.ty t,.ty u]]=match isK x t,isK x u with|some b,some c=>.ok (.bl (b||c))|_,_=>.bad:=(rfl)
end WL
namespace WS
open PySem PySem.Spec PyProof.Rows L2
open WL(Res Sl Ws EF TF AF LF GF GsF SF Out)
def i6:bootBuiltins "ValueError"=some (.type "ValueError"):=by decide+kernel
structure Exc1(K:W.Frag)(FE Ca:Addr):Prop where
 ty:W.typeIn K (.ref Ca)=some (.type "type")mro:(W.clsIn K Ca).map (·.mro)=some (.ref Ca::gF)/\Ca=FE\/(W.clsIn K Ca).map (·.mro)=some (.ref Ca::.ref FE::gF)ga:W.findIn K (.ref Ca) "__getattribute__"=some (some (.builtin "BaseException.__getattribute__"))gn:W.findIn K (.ref Ca) "__getattr__"=some none
 cl:W.findIn K (.ref Ca) "__class__"=some (some (.builtin "object.__class__"))
structure ExcAll(K:W.Frag):Prop where
 k:∀nm Ca,ExcAt K nm Ca->ExcK K Ca
 is:∀nm Ca d D,ExcAt K nm Ca->ExcAt K d D->W.kitOne K (.ref Ca) (.ref D)=some (WL.pR nm d)ve:∀nm Ca,ExcAt K nm Ca->W.kitOne K (.ref Ca) (.type "ValueError")=some true
 ex:∀nm Ca d D,ExcAt K nm Ca->ExcAt K d D->W.exmOne K (.ref Ca) (.ref D)=some (WL.pR nm d)
def all_nil{a:Type}{P:a->Prop}:∀p∈[],P p:=λ_ h=>nomatch h
def all_cons{c:Type}{P:c->Prop}{a l}(h:P a)(t:∀p∈l,P p):∀p∈a::l,P p:=λp b=>(ags.mp b).elim (λe=>e▸h) (t p)
section
variable{K:W.Frag}{FE:Addr}{tab:List (String×Addr)}
theorem h7:∀{tab:List (String×Addr)},(tab.map (·.1)).Nodup->(tab.map (·.2)).Nodup->∀p∈tab,∀q∈tab,p.1=q.1↔p.2=q.2
|[],_,_,p,hp,_,_=>nomatch hp|a::l,h1,h2,p,hp,q,hq=>by
 rw[agP,ag1]at h1 h2;rcases ags.mp hp with z|b<;>rcases ags.mp hq with y|c;.rw[z,y];exact⟨λ_=>rfl,λ_=>rfl⟩
 .subst z;exact⟨λe=>absurd (e▸ahV c) h1.1,λe=>absurd (e▸ahV c) h2.1⟩
 .subst y;exact⟨λe=>absurd (e▸ahV b) h1.1,λe=>absurd (e▸ahV b) h2.1⟩
 .exact h7 h1.2 h2.2 p b q c
def t6(r:("FloorError",FE)∈tab)(s:∀p∈tab,W.nsIn K mainGlobals (Str.ofString p.1)=some (some (.ref p.2))/\Exc1 K FE p.2)(y:∀b∈WL.gX,b∈tab.map (·.1)\/W.nsIn K mainGlobals (Str.ofString b)=some none)(n:(tab.map (·.1)).Nodup)(o:(tab.map (·.2)).Nodup)(x:W.specialIn K (.builtin "object.__class__") "__get__"=some (some (.builtin "getset_descriptor.__get__")))(q:W.takesIn K (.builtin "object.__class__")=some true):ExcAll K:=by
 have c:∀b a,ExcAt K b a->(b,a)∈tab/\Exc1 K FE a:=λb a⟨i,f⟩=>by grind
 have l:∀b a,ExcAt K b a->∃j,W.clsIn K a=some j/\(j.mro=.ref a::gF/\a=FE\/j.mro=.ref a::.ref FE::gF):=λb a h=>by
  rcases(c b a h).2.mro with⟨e,z⟩|e;.obtain⟨j,i,f⟩:=agR.mp e;exact⟨j,i,.inl ⟨f,z⟩⟩
  .obtain⟨j,i,f⟩:=agR.mp e;exact⟨j,i,.inr f⟩
 have k:∀b a T,ExcAt K b a->Value.type T∈gF->W.mroIn K a (.type T)=some true:=λb a T h u=>by
  obtain⟨j,i,f⟩:=l b a h;unfold W.mroIn;rw[i,ah9];rcases f with⟨f,_⟩|f<;>rw[f]<;>simp only[List.isEmpty_cons,aha,ahM,aiU,List.contains_eq_mem,agZ,ags];.exact .inr (by simpa using u)
  .exact .inr (.inr (by simpa using u))
 have sub:∀b a d D,ExcAt K b a->ExcAt K d D->W.mroIn K a (.ref D)=some (WL.pR b d):=λb a d D h g=>by
  refine gD (l b a h) λj i f=>?_;have t:=h7 n o _ (c b a h).1 _ (c d D g).1;have v:=h7 n o _ r _ (c d D g).1;have w:=h7 n o _ r _ (c b a h).1;dsimp only at t v w;unfold W.mroIn;rw[i,ah9];have e:WL.pR b d=decide (a=D\/FE=D):=by unfold WL.pR;rw[ag7];simp only[aiH,ah0,agZ];exact or_congr t (by rw[eq_comm];exact v)
  rw[e];rcases f with⟨f,z⟩|f<;>rw[f]<;>simp only[List.isEmpty_cons,aha,ahM,aiU,List.contains_eq_mem];.subst z;congr 1;simp[eq_comm]
  .congr 1;simp[eq_comm]
 have cls:∀b a d D,ExcAt K b a->ExcAt K d D->W.kitCls K (.ref a) (.ref D)=some (WL.pR b d):=λb a d D h g=>by obtain⟨j,i,_⟩:=l d D g;unfold W.kitCls;dsimp only;rw[ago (by rw[i,(c d D g).2.ty];rfl)];exact sub b a d D h g
 refine⟨λb a h=>?_,λb a d D h g=>?_,λb a h=>?_,λb a d D h g=>?_⟩;.obtain⟨j,i,_⟩:=l b a h;have m:=(c b a h).2;exact⟨by rw[i];rfl,m.ga,m.gn,k b a _ h (by simp),k b a _ h (by simp),m.cl,x,q⟩
 .unfold W.kitOne;by_cases e:(Value.ref a==Value.ref D)=true;.rw[ago e];have e:=Value.ref.inj (ah0.mp e);subst e;have:=(h7 n o _ (c b a h).1 _ (c d a g).1).mpr rfl;dsimp only at this;subst this;simp[WL.pR]
  .rw[agq e];exact cls b a d D h g
 .unfold W.kitOne;rw[agq (by intro z;cases ah0.mp z)];unfold W.kitCls;dsimp only;rw[ago (by decide+kernel)];exact k b a _ h (by simp)
 .unfold W.exmOne;rw[ago (by rw[show W.subIn K (.ref D) (.type "BaseException")=W.mroIn K D (.type "BaseException")from rfl,k d D _ g (by simp)];rfl)];exact cls b a d D h g
end
section
variable{X:Cx}{K:W.Frag}
def tW{F H:Hp}{a C:Addr}{dx:Option Addr}{b:List (Str×V)}{pins:List (Addr×Obj)}{σ:L2.St}{s:Shared}(I:Inv X pins σ H s)(h:aw F H)(l:F a=some (.ext (excAt a C dx)))(k:b=[]/\dx=none\/∃d,dx=some d/\F d=some (.xd b)):∃i od,W.InstAt s.heap a i C od/\i.dict=dx:=by
 obtain⟨⟨f,o,j,g,e,n⟩,_⟩:=I.hok a _ (h _ _ l);have c:W.notCls f=true:=by unfold W.notCls;rw[n.1]
 rcases k with⟨_,z⟩|⟨d,z,q⟩;.subst z;exact⟨f,none,⟨j,g,c,by rw[e];trivial⟩,e⟩
 .subst z;obtain⟨od,m⟩:=eV (I.hok d _ (h _ _ q));exact⟨f,some od,⟨j,g,c,by rw[e];exact m⟩,e⟩
def gE(hK:X.K=K)(g:ExcAll X.K):bu X (.builtin "isinstance") (loN K WL.kK):=by
 subst hK;intro e s σ H P x Q I r⟨F,ws,A,k,q⟩;have go:∀c fs i b,ws=[.exc c fs,i]->WL.kK ws=.ok (.bl b)->(∀C v,ExcAt X.K c C->RW X.K F i v->∀u,RelV v u->W.kitOne X.K (.ref C) u=some b)->wpAny (model X.prog X.w) X.A (call (.builtin "isinstance") x) (EP X e σ Q) X.xe s:=λc fs i b N M t=>by subst N;rw[M]at q;obtain⟨v,w,rfl,h,o⟩:=two_of k;obtain⟨u,p,rfl,E,B⟩:=vals2 r;simp only[RW]at h;obtain⟨a,C,R,rfl,G,m,J,_,_,O⟩:=h;obtain⟨n,od,T,_⟩:=tW I A G O;cases show u=Value.ref a from E;have fin:Q (.bl b) H:=eq1 q (by simp[RW]);exact ahx (wb (g.k c C m)) I.kIn ⟨n,od,T⟩ (t C w m o p B) (λz=>nomatch z) λtk=>⟨.bl b,H,I.tok tk,rfl,fin⟩
 unfold WL.kK at q;split at q;.rename_i c fs d;exact go c fs (.cls d) _ rfl rfl λC v j f u l=>by simp only[RW]at f;obtain⟨D,rfl,y⟩:=f;cases show u=Value.ref D from l;exact g.is c C d D j y
 .rename_i c fs;exact go c fs (.ty "ValueError") _ rfl rfl λC v j f u l=>by simp only[RW]at f;subst f;cases show u=Value.type "ValueError"from l;exact g.ve c C j
 .exact q.elim
def bz:∀a c,WL.kK a≠.ex c:=λa c h=>by unfold WL.kK at h;split at h<;>cases h
end
section
variable{X:Cx}{B:Bx}{σ:Ws}{σV:L2.St}{F H:Hp}
def RS.adE(R:RS B σ σV F H)(i:Nat):RS B (σ.set i .no) (σV.set i none) F H:=by
 have q:=R.len;have b:∀{j:Nat}{w:Sl},(σ.set i .no)[j]?=some w->w≠.no->i≠j:=λ{j w}e n z=>by
  subst z;have o:i<σ.length:=by have:=(agu.mp e).1;simpa using this
  rw[agr o]at e;cases e;exact n rfl
 refine⟨R.rb,by simp[q],λj u e=>?_,λj ws e=>?_,λj k ws c a d h g m l=>?_,R.aad i (sl:=.no) (λz=>z) _ (aw.refl _) λ_ _ _ _ _ _ _ _ r t=>⟨t,r⟩⟩;.have f:=b e (by intro z;cases z);rw[agn f]at e⊢;exact R.va j u e
 .have f:=b e (by intro z;cases z);rw[agn f]at e⊢;exact R.ow j ws e
 .have p:=b h (by intro z;cases z);have s:=b g (by intro z;cases z);rw[agn p]at h m;rw[agn s]at g l;exact R.ap j k ws c a d h g m l
end
section
variable{X:Cx}{B:Bx}{x n:Str}{pos np hpos:Pos}
def uT{body f:List Stmt}{b0:Stmt}{C:Addr}{d:String}{i:Nat}{tb th:SF}(hK:X.K=B.K)(hs:X.stack=X.env::X.outer)(hf:X.env.frame=some X.env.locals)(hN:X.N.Nodup)(hi:X.N[i]?=some n)(hl:X.env.scope.names.lookup n=some .local)(hg:Gl X x)(hm:X.mg x=some (.ref C))(hc:∀k Ca,ExcAt X.K k Ca->W.exmOne X.K (.ref Ca) (.ref C)=some (WL.pR k d))(hb:∀(E:Value->Shared->Prop)(pn:List (Addr×Obj))(B':Bx),B'.K=X.K->XW (X.tri E pn) B'->PassesOwn (model X.prog X.w) X.A X.env E->PSs (X.tri E pn) body (loS B' tb))(hh:∀(e:Addr)(B':Bx),B'.K=X.K->XW (X.sui e) B'->PSs (X.sui e) (b0::f) (loS B' th))(hd:Dbg x:=by decide):PS X (.Try body [.ExceptHandler (some (.Name x np)) (some n) (b0::f) hpos] [] [] pos) (loS B (WL.oz tb d i th)):=by
 intro b s a1 H D I⟨σ,F,R,q⟩;refine wpAny_Try_except ?_;let E':Value->Shared->Prop:=λe Z=>wpAny (model X.prog X.w) X.A (noteFrame e X.env) (λ_ Q=>wpAny (model X.prog X.w) X.A (setFlight e none) (λ_ S=>wpAny (model X.prog X.w) X.A (handleBy e X.env [.ExceptHandler (some (.Name x np)) (some n) (b0::f) hpos]) (SP X b D) X.xe S) X.xe Q) X.xe Z;let B1:Bx:=B.n7 (λc a N=>Oq B D N (WL.iX d i th c a)) λc a N a6 s h=>Oq.mono s h;have xw:XW (X.tri E' (X.pn++b)) B1:=by
  intro a4 p H1 s1 j G c R1 g e y A T U t xr;have t2:Thr X b p H1 s1 e y A U T:=t.gG;obtain⟨k,fs,rfl,ce⟩:=xr.is;have g:Oq B D G (WL.iX d i th (.exc k fs) j):=g;have ex:=hc k y ce
  cases K:WL.pR k d with|false=>
   have:WL.iX d i th (.exc k fs) j=.bad:=by simp[WL.iX,WL.gk,K]
   rw[this]at g;exact g.elim|true=>
   have hO:WL.iX d i th (.exc k fs) j=match th (j.set i (.va (.exc k fs)))with|.nx σ2=>.nx (σ2.set i .no)|.rt w=>.rt w|_=>.bad:=by unfold WL.iX;rw[show WL.gk d (.exc k fs)=true from K];rfl
   rw[hO]at g;rw[K]at ex;refine t2.note hs hf λh' T' _ t3=>t3.tS λa5 t4=>tL t4 hg hm ex (λh3 t5=>?_) hd;have J:=t5.known;have he:H1 e=none:=t5.fe.1;have a0:RS B j p G H1:=R1.box rfl rfl rfl;have R2:=a0.new he (.ext (excAt e y A));have hF:G e=none:=a0.rb.sub.free he;have sF:aw G (upd G e (.ext (excAt e y A))):=aC hF _;have a2:RW B.K (upd G e (.ext (excAt e y A))) (.exc k fs) (.ref e):=by obtain⟨z1,a3,z2,z3,z4⟩:=xr.keep sF;simp only[RW];rw[<-hK];exact⟨e,y,A,rfl,aq,z1,a3,z2,z3,z4⟩
   let B2:Bx:=B.never;have P:=hh e B2 hK.symm (jO λ_ _ _ z=>z);let D2:Ends:=⟨λm l=>D.nx (m.set i none) l,D.rt,λ_ _=>False,λ_ _=>False⟩;refine ie (X:=X.sui e) (J.sui e) hN hi (Or.inl hl) (v:=.ref e) (u:=.ref e) rfl (λs2 J2 _=>?_) (Or.inr hl);have R3:RS B2 (j.set i (.va (.exc k fs))) (p.set i (some (.ref e))) (upd G e (.ext (excAt e y A))) (upd H1 e (.ext (excAt e y A))):=(R2.set (i:=i) a2).box rfl rfl rfl;refine agN (P b _ _ _ D2 J2 ⟨_,_,R3,?_⟩) (λU s3 h=>?_) λ_ _ z=>z;.cases eo:th (j.set i (.va (.exc k fs)))with|ex c2 σ2=>rw[eo]at g;exact g.elim|nx σ2=>rw[eo]at g;exact λm l N R' O=>g (m.set i none) l N ((RS.box (B:=B2) (B':=B) R' rfl rfl rfl).adE i) (sF.trans O)|bk σ2|ct σ2=>rw[eo]at g;exact g.elim|rt w=>rw[eo]at g;exact λv l N R' O r=>g v l N (RB.box (B:=B2) (B':=B) R' rfl rfl) (sF.trans O) r|bad=>rw[eo]at g;exact g
   .cases U with|next=>obtain⟨a,l,Y,M⟩:=h;exact oV (J.back Y) hN hi hl λO I2=>⟨_,l,I2,M⟩|brk=>obtain⟨a,l,Y,M⟩:=h;exact M.elim|cont=>obtain⟨a,l,Y,M⟩:=h;exact M.elim|ret u=>obtain⟨v,a,l,Y,r,M⟩:=h;exact oV (J.back Y) hN hi hl λO I2=>⟨v,_,l,I2,r,M⟩
 have P:=hb E' (X.pn++b) B1 hK.symm xw PassesOwn.looking;refine agN (P [] s a1 H D (I.tri E') ⟨σ,F,R.box rfl rfl rfl,?_⟩) (λU O h=>?_) λ_ _ z=>z;.have q:Oq B D F (match tb σ with|.ex c a=>WL.iX d i th c a|o=>o):=q;exact Oq.aga (B:=B) (B':=B1) rfl rfl rfl (λ_ _ z=>z) q
 .have h:=SP.gG h;cases U with|next=>exact aie h|_=>exact h
end
end WS
namespace WS
open PySem PySem.Spec PyProof.Rows L2
def aat{X:Cx}{B:Bx}{x:Str}{nm:String}{C:Addr}{pos:Pos}(hK:X.K=B.K)(c:Gl X x)(a:X.mg x=some (.ref C))(d:ExcAt X.K nm C)(b:Dbg x:=by decide):PE X (.Name x pos) (lo B (WL.eC (.cls nm))):=x5 (rZ (v:=.ref C) c a rfl b) λF=>by simp only[RW];rw[<-hK];exact⟨C,rfl,d⟩
end WS
namespace WS
open PySem PySem.Spec PyProof.Rows L2
open WL(Res Sl Ws EF TF AF LF GF GsF SF Out)
section
variable{X:Cx}{B:Bx}{k:Nat}{fI C:Addr}{fd:FuncData}{ps:List Str}{x:Str}{p pos np cpos:Pos}{e:Expr}{es:List Expr}{tas:AF}{nm:String}
theorem tw{K F}:∀{ws vs},RWs K F ws vs->ws.all WL.rq=true->∀v∈vs,∃i,v=.int i/\i.natAbs.log2<100
|[],vs,h,_,v,a=>by subst h;cases a|w::ws,vs,h,ha,v,a=>by
 obtain⟨d,r,rfl,b,c⟩:=h;rw[List.all_cons,agE]at ha;rcases ags.mp a with rfl|a;.cases w with|int i=>subst b;exact⟨i,rfl,of_decide_eq_true ha.1⟩|_=>cases ha.1
 .exact tw c ha.2 v a
def qG(hK:X.K=B.K)(A:XW X B)(I:X.calm=true)(z:Gl X x)(N:X.mg x=some (.ref C))(q:pE X.K C (some (.ref fI)))(o:W.typeIn X.K (.ref fI)=some (.type "function"))(F:FnOk X.prog X.w X.K X.mg X.base CX0 k fI fd ps (spI C (WL.fieldsOf nm)))(w:Room (k+1) X.A)(J:Binds X.K fd ps [])(K:ExcAt X.K nm C)(G:(WL.fieldsOf nm).length<=50)(E:PA X (e::es) (loA B tas))(f:Dbg x:=by decide)(y:SE X e es:=by rfl)(a:BT X cpos es:=by rfl):PS X (.Raise (some (.Call (.Name x np) (e::es) [] cpos)) none pos) (loS B (WL.rC nm tas)):=PS.imp (rO I z N q o F w J E f y a) λD i H j=>by
 refine cW j λσ F R q=>?_;have q:=Oq.ofR q;refine eI σ F R (Rq.mono (aw.refl _) q λws g m O l r M n=>?_);by_cases h:ws.length=(WL.fieldsOf nm).length/\ws.all WL.rq=true
 .rw[ago h]at g;have c:m.length=(WL.fieldsOf nm).length:=by rw[<-n.length];exact h.1
  refine⟨c,tw n h.2,G,λb s e d f P t=>?_⟩;have v:l d=none:=r.rb.sub.free f;have u:aw l (upd l d (.xd ((WL.fieldsOf nm).zip m))):=aC v _;refine A b i _ s σ _ (.exc nm ws) (r.new f _) (B.mono _ σ F _ (M.f.trans u) g) e C (some d) none _ t ⟨K,(WL.fieldsOf nm).zip m,?_,?_,.inr ⟨d,rfl,aq⟩⟩;.rw[List.map_fst_zip (by omega)]
  .rw[List.map_snd_zip (by omega),hK];exact n.keep u
 .rw[agq h]at g;exact(show False from g).elim
end
section
variable{X:Cx}{B:Bx}{o:Expr}{f:Str}{pos:Pos}{ta:EF}
theorem oW{f:Str}{v:V}:∀{l:List (Str×V)},l.lookup f=some v->f∈l.map (·.1)|[],h=>by simp at h|(a,b)::l,h=>by rw[agY]at h;cases z:f==a with|true=>rw[agP,ah0.mp z];exact agD|false=>rw[z]at h;exact agw _ (oW h)
theorem n4{K:W.Frag}{F:Hp}{f:Str}{w:VW}:∀{l:List Str}{ws:List VW}{c:List (Str×V)},c.map (·.1)=l->RWs K F ws (c.map (·.2))->(l.zip ws).lookup f=some w->∃v,c.lookup f=some v/\RW K F w v|[],ws,c,_,_,h=>by simp at h|a::l,[],c,_,_,h=>by simp at h|a::l,w0::ws,[],h,_,_=>by simp at h|a::l,w0::ws,(b,v0)::c,d,h2,h3=>by simp only[agP,aji]at d;obtain⟨rfl,d⟩:=d;simp only[agP,RWs]at h2;obtain⟨v,r,e,g,i⟩:=h2;simp only[aji]at e;obtain⟨rfl,rfl⟩:=e;rw[List.zip_cons_cons,agY]at h3;rw[agY];cases z:f==b with|true=>rw[z]at h3;cases h3;exact⟨v0,rfl,g⟩|false=>rw[z]at h3;exact n4 d i h3
def qM(hK:X.K=B.K)(hA:ExcAll X.K)(hn:∀e C,ExcAt X.K e C->f∈WL.fieldsOf e->W.findIn X.K (.ref C) f=some none/\W.hasDictIn X.K C=true)(Y:PE X o (lo B ta))(hb:attributeBase o f X.env (eval o X.env)=eval o X.env):PE X (.Attribute o f pos) (lo B (WL.ada ta f)):=by intro l s g H Q I⟨σ,F,R,q⟩;have q:=Rq.bind q;refine zR hb (thn (Y l s g H _ I ⟨σ,F,R,Rq.mono (aw.refl _) q λw qw v M i R' N U=>show∃w i,RS B σ g i M/\RW B.K i w v/\Rq B σ i (WL.aeA f w) λz=>∀n b c,RS B σ g c b->Gr i M c b->RW B.K c z n->Q n b from⟨w,i,R',U,Rq.mono N.f qw λz k n b c y p=>k n b c y (N.trans p)⟩⟩) λu s1⟨x,J,m,rx,w,F1,D,S,h⟩=>?_);cases w with
|exc e fs=>dsimp only[WL.aeA]at h;cases G:((WL.fieldsOf e).zip fs).lookup f with|none=>rw[G]at h;exact h.elim|some z=>
   rw[G]at h;simp only[RW]at S;obtain⟨a,C,dx,rfl,h1,K,a0,O,h4,h5⟩:=S;cases show u=Value.ref a from rx;obtain⟨v,E,rv⟩:=n4 O h4 G;have j:f∈WL.fieldsOf e:=by rw[<-O];exact oW E
   rcases h5 with⟨rfl,_⟩|⟨d,rfl,Z⟩;.simp at E
   have t:=D.rb.sub _ _ Z;obtain⟨mA,hN,r⟩:=m.hok d _ t;obtain⟨od,ho,A⟩:=lT hN;obtain⟨⟨oe,es,g1,g2,g3,g4⟩,_⟩:=m.hok a _ (D.rb.sub _ _ h1);have T:W.InstAt s1.heap a oe C (some od):=⟨g1,g2,by unfold W.notCls;rw[g4.1],by rw[g3];exact ho⟩;obtain⟨u,hu,P⟩:=qz.some_of (v:=v) (o:=mA f) (by rw[<-E];exact r f);obtain⟨n1,n2⟩:=hn e C (by rw[hK];exact K) j;refine wu (hA.k e C (by rw[hK];exact K)) m.kIn T (W.findObj_own n2 n1 rfl (by rw[A,hu])) (tM P) ?_;exact⟨v,J,m.tok _,P,h v J F1 D Gr.refl rv⟩
|_=>exact h.elim
end
end WS
namespace WS
open PySem PySem.Spec PyProof.Rows L2
section
variable{K:W.Frag}{a:Addr}{f nm:Str}
def FA(K:W.Frag)(f:Str)(nm:String):Prop:=f∈WL.fieldsOf nm->∀b,W.nsIn K mainGlobals (Str.ofString nm)=some (some (.ref b))->W.findIn K (.ref b) f=some none/\W.hasDictIn K b=true
def cR{nm:String}(h:¬f∈WL.fieldsOf nm):FA K f nm:=λz=>absurd z h
def tU{nm:String}(e:W.nsIn K mainGlobals (Str.ofString nm)=some (some (.ref a)))(c:W.findIn K (.ref a) f=some none)(b:W.hasDictIn K a=true):FA K f nm:=λ_ d h=>by have:=e.symm.trans h;cases this;exact⟨c,b⟩
def afD(m:FA K f "FloorError")(l:FA K f "NotEven")(j:FA K f "NoCall")(o:FA K f "NoName")(i:FA K f "NoProgram")(q:FA K f "TooMany")(k:FA K f "NoPairs")(n:FA K f "NoRow")(r:FA K f "Blind")(p:FA K f "Out")(e:FA K f "Meet")(g:FA K f "Broken"):∀nm C,ExcAt K nm C->f∈WL.fieldsOf nm->W.findIn K (.ref C) f=some none/\W.hasDictIn K C=true:=λnm d⟨h,c⟩b=>by
 simp only[WL.gX,ags,agI,ah1]at h;rcases h with rfl|rfl|rfl|rfl|rfl|rfl|rfl|rfl|rfl|rfl|rfl|rfl;.exact m b d c
 .exact l b d c
 .exact j b d c
 .exact o b d c
 .exact i b d c
 .exact q b d c
 .exact k b d c
 .exact n b d c
 .exact r b d c
 .exact p b d c
 .exact e b d c
 .exact g b d c
end
end WS
namespace WS
open PySem PySem.Spec PyProof.Rows L2
open WL(Res Sl Ws EF TF AF LF GF GsF SF Out)
theorem zip_get:∀(xs ys:List VW)(i:Nat)(x y:VW),xs[i]?=some x->ys[i]?=some y->(WL.mx xs ys)[i]?=some (.tup [x,y])|[],_,_,_,_,h,_=>by simp at h|_::_,[],_,_,_,_,h=>by simp at h|x::xs,y::ys,0,_,_,h,h'=>by simp at h h';subst h h';rfl|x::xs,y::ys,i+1,u,v,h,h'=>by simp only[WL.mx,List.getElem?_cons_succ]at h h'⊢;exact zip_get xs ys i u v h h'
theorem mw:∀(xs ys:List VW),xs.length=ys.length->(WL.mx xs ys).length=xs.length|[],[],_=>rfl|[],_::_,h=>by simp at h|_::_,[],h=>by simp at h|x::xs,y::ys,h=>by simp only[WL.mx,agJ,mw xs ys (by simpa using h)]
def n9{K:W.Frag}{lt:Bool}{a b:Addr}{xs ys:List VW}{vs us:List V}{F:Hp}(keep:∀{G H:Hp}{c:Addr}{ws:List V},aw G H->SqB K G lt c ws->SqB K H lt c ws)(h:SqB K F lt a vs)(h':SqB K F lt b us)(r:RWs K F xs vs)(A:RWs K F ys us)(k:xs.length=ys.length):Walk K (Itz K lt a b) (WL.mx xs ys) F:=by
 refine⟨λi x e B y d f=>?_,λB y d f=>⟨vs,keep f (keep d h),by rw[mw _ _ k,r.length];exact agx _⟩⟩;have m:i<xs.length:=by have:=(agu.mp e).1;rwa[mw _ _ k]at this
 have ex:=agH m;have l:=agH (k▸m);rw[zip_get xs ys i _ _ ex l]at e;have e:=agS e;subst e;obtain⟨v,t,D⟩:=r.get ex;obtain⟨u,s,C⟩:=A.get l;refine⟨⟨vs,us,v,u,keep f (keep d h),keep f (keep d h'),t,s⟩,λz J j=>?_⟩;obtain⟨p,E,o,w⟩:=j;subst E;obtain⟨M,I,n,q,rfl⟩:=w vs us (keep f (keep d h)) (keep f (keep d h'));rw[t]at n;rw[s]at q;cases n;cases q;have g:=f.free o;refine⟨_,Ext.new g o _,?_⟩;simp only[RW];refine⟨p,_,rfl,SqT.of aq,?_⟩;simp only[RWs];exact⟨_,_,rfl,(D.keep d).keep (aC g _),_,_,rfl,(C.keep d).keep (aC g _),rfl⟩
section
variable{X:Cx}{B:Bx}{ta tb:EF}
def aao{l m:Expr}{es:List Expr}{k:Nat}{T p pos:Pos}(hK:X.K=B.K)(P:Gl X "zip")(S:X.mg "zip"=none)(h:PE X l (lo B ta))(h':PE X m (lo B tb))(hs:starEach [l,m] X.env=[(false,eval l X.env),(false,eval m X.env)]:=by rfl)(u:starEach [m] X.env=[(false,eval m X.env)]:=by rfl)(C:starEach [l,m] X.env=(false,eval l X.env)::starEach [m] X.env:=by rfl)(j:starEach [m] X.env=(false,eval m X.env)::starEach [] X.env:=by rfl):PI X (.Tuple es k T) (.Call (.Name "zip" p) [l,m] [] pos) (loI B (WL.ab1 ta tb)):=PI.imp (abf P S (aa h (aa h' ah j) C) hs u) λO H R w=>by obtain⟨σ,F,N,q⟩:=w;have q:=Rq.bind q;refine⟨σ,F,N,?_⟩;show Rq B σ F ((ta σ).bind λx=>((tb σ).bind λy=>(Res.ok []).bind λd=>.ok (y::d)).bind λf=>.ok (x::f)) _;cases e:ta σ with
|ok x=>rw[e]at q;have q:=Rq.bind q;cases E:tb σ with
 |ok y=>rw[E]at q;intro Y J K i M Q;obtain⟨v,U,rfl,r,t⟩:=two_of Q;cases x with
  |lst f=>cases y with|lst d=>
     simp only[RW]at r t;obtain⟨a,A,rfl,o,I⟩:=r;obtain⟨b,G,rfl,n,D⟩:=t;have q:Rq B σ F (if f.length=d.length then .ok (WL.mx f d)else .bad) _:=q;by_cases g:f.length=d.length;.rw[ago g]at q;refine⟨true,a,b,rfl,⟨A,by rw[hK];exact i.rb.sub.seq o⟩,⟨G,by rw[hK];exact i.rb.sub.seq n⟩,?_⟩;rw[hK];exact q _ J K i M (n9 (λs z=>s.seq z) o n I D g)
     .rw[agq g]at q;exact q.elim|_=>exact(q).elim
  |tup f=>cases y with|tup d=>
     simp only[RW]at r t;obtain⟨a,A,rfl,o,I⟩:=r;obtain⟨b,G,rfl,n,D⟩:=t;have q:Rq B σ F (if f.length=d.length then .ok (WL.mx f d)else .bad) _:=q;by_cases g:f.length=d.length;.rw[ago g]at q;refine⟨false,a,b,rfl,⟨A,by rw[hK];exact i.rb.sub.tup o⟩,⟨G,by rw[hK];exact i.rb.sub.tup n⟩,?_⟩;rw[hK];exact q _ J K i M (n9 (λs z=>s.tup z) o n I D g)
     .rw[agq g]at q;exact q.elim|_=>exact(q).elim
  |_=>exact(q).elim
 |ex c=>rw[E]at q;exact q|bad=>rw[E]at q;exact q
|ex c=>rw[e]at q;exact q|bad=>rw[e]at q;exact q
end
section
variable{X:Cx}{K:W.Frag}
def l6:∀a c,WL.du a≠.ex c:=λa c h=>by
 unfold WL.du at h;split at h;.split at h<;>cases h
 .cases h
def RW.tyW{F H:Hp}{w:VW}{v:V}{t:String}{b:Bool}(s:aw F H)(h:RW K F w v)(e:WL.isK w t=some b):TyW K H v (adu w):=by cases w with|non=>simp only[RW]at h;subst h;exact .non|bl k=>simp only[RW]at h;subst h;exact .bl k|int k=>simp only[RW]at h;subst h;exact .int k|str k=>simp only[RW]at h;subst h;exact .str k|tup ys=>simp only[RW]at h;obtain⟨a,d,rfl,c,f⟩:=h;exact .tup (s.tup c)|lst ys=>simp only[RW]at h;obtain⟨a,d,rfl,c,f⟩:=h;exact .lst (s.seq c)|ty k|dic _ _|cls _|exc _ _|ins _ _|id _=>cases e
def qW(hK:X.K=K):bu X (.builtin "isinstance") (loN K WL.du):=by subst hK;refine bu.imp md λm H Q a=>?_;obtain⟨F,ws,s,r,q⟩:=a;cases e:WL.du ws with|bad|ex c=>rw[e]at q;exact q.elim|ok w=>
  rw[e]at q;unfold WL.du at e;split at e
  .rename_i x t u;split at e;.rename_i b c i j;cases e;obtain⟨v,p,rfl,h,d⟩:=two_of r;simp only[RW]at d;obtain⟨k,y,rfl,l,rt⟩:=d;obtain⟨n,o,rfl,g,f⟩:=two_of rt;simp only[RW]at g f;subst g f;refine⟨v,k,t,u,adu x,b||c,rfl,s.tup l,RW.tyW s h i,?_,eq1 q (by simp[RW])⟩;simp only[W.kitAny,sP (K:=X.K) i,sP (K:=X.K) j];cases b<;>cases c<;>rfl
   .cases e
  .cases e
end
section
variable{X:Cx}{B:Bx}{K:W.Frag}{o e:Expr}{es:List Expr}{to ta:EF}{tas:AF}{pos apos cpos:Pos}
theorem uv:∀{ys:List VW}{x:VW}{n m:Nat},WL.okD n x=true->WL.e8 m ys=true->((dy ys).countP λz=>PyData.eqv z (toD x))=WL.cnt x ys|[],_,_,_,_,_=>by simp[dy,WL.cnt]|y::ys,x,n,m,hx,a=>by cases m with|zero=>cases a|succ m=>have a:=ahj.mp a;have b:=i0 m n y x a.1 hx;simp only[dy,ai8,WL.cnt,b,uv hx a.2]
def uW{x:Expr}(hK:X.K=B.K)(Y:X.A.units+64<cLine)(G:PE X o (lo B to))(M:PA X [x] (loA B tas))(f:attributeBase o "count" X.env (eval o X.env)=eval o X.env:=by rfl)(h:((backTo cpos (starEach [x] X.env)).all (λx=>!x.1)&&(backToKw cpos (keywordEach [] X.env)).all (λx=>x.1.isSome)&&decide (([x]:List Expr).length+([]:List Keyword).length+(if([]:List Keyword).isEmpty then 0 else 1)<30))=true:=by rfl)(g:(apos.endLine==cpos.line)=true:=by rfl)(hs:starEach [x] X.env=(false,eval x X.env)::starEach [] X.env:=by rfl)(d:BT X cpos []:=by rfl):PE X (.Call (.Attribute o "count" apos) [x] [] cpos) (lo B (WL.afH "list" WL.jB to tas)):=PE.imp (r0 ahC PySem.F.slot_list_count PySem.F.type_list_count sC G M f h g hs d) λy H Q l=>by obtain⟨σ,F,R,q⟩:=l;have q:=Rq.bind q;refine⟨σ,F,R,Rq.mono (aw.refl _) q λw i v S E p s m=>?_⟩;cases w with
 |lst ys=>have i:=Rq.bind (show Rq B σ F ((tas σ).bind λws=>WL.jB (.lst ys) ws) _ from i);have k:=m;simp only[RW]at m;obtain⟨a,O,rfl,P,ra⟩:=m;refine⟨.inl ⟨rfl,O,by rw[hK];exact p.rb.sub.seq P⟩,σ,E,p,Rq.mono s.f i λws j T C t R2 n N=>?_⟩;cases em:WL.jB (.lst ys) ws with
  |bad=>rw[em]at j;exact j.elim|ex c=>
    unfold WL.jB at em;split at em;.split at em<;>cases em
    .cases em|ok z=>
    rw[em]at j;unfold WL.jB at em;split at em
    .rename_i Z U D r A;cases A;split at em;.rename_i b;rw[agE]at b;cases em;obtain⟨u,rfl,J⟩:=eK N;have sub:=R2.rb.sub;have I:=RW.isD 51 (.lst ys) (.ref a) b.2 ((k.keep n.f).keep sub);refine⟨50,u,toD r,dy ys,rfl,by rw[hK];exact RW.isD 50 r u b.1 (J.keep sub),by rw[hK];exact I,by omega,?_⟩;rw[uv b.1 b.2];exact j (.int _) C t R2 (s.trans n) (by simp[RW])
     .cases em
    .cases em
 |_=>exact(show False from i).elim
end
section
variable{P:List Value->Prop}
def us0(h:P []):∀a,a.length=0->P a:=λa e=>by grind
def us1(h:∀c,P [c]):∀b,b.length=1->P b:=λb e=>by cases b with|nil=>cases e|cons a t=>exact us0 (P:=λt=>P _) (h a) t (aim e)
def us2(h:∀d c,P [d,c]):∀b,b.length=2->P b:=λb e=>by cases b with|nil=>cases e|cons a t=>exact us1 (P:=λt=>P _) (λc=>h a _) t (aim e)
def us3(h:∀f d c,P [f,d,c]):∀b,b.length=3->P b:=λb e=>by cases b with|nil=>cases e|cons a t=>exact us2 (P:=λt=>P _) (λd c=>h a _ _) t (aim e)
def us4(h:∀g d c f,P [g,d,c,f]):∀b,b.length=4->P b:=λb e=>by cases b with|nil=>cases e|cons a t=>exact us3 (P:=λt=>P _) (λd c f=>h a _ _ _) t (aim e)
def us5(h:∀i c d g f,P [i,c,d,g,f]):∀b,b.length=5->P b:=λb e=>by cases b with|nil=>cases e|cons a t=>exact us4 (P:=λt=>P _) (λc d g f=>h a _ _ _ _) t (aim e)
def us6(h:∀j c d g f i,P [j,c,d,g,f,i]):∀b,b.length=6->P b:=λb e=>by cases b with|nil=>cases e|cons a t=>exact us5 (P:=λt=>P _) (λc d g f i=>h a _ _ _ _ _) t (aim e)
end
def AtD(K:W.Frag)(nm:Str)(st:Stmt):Prop:=∃(f:Addr)(a:FuncData),Fun K nm nm st f a/\W.nsIn K mainGlobals nm=some (some (.ref f))
def Cal(P:Program)(w:World)(K:W.Frag)(mg:Str->Option Value)(a:Heap)(CX:CXT)(k:Nat)(nm:Str)(ps:List Str)(c:List Value)(sp:Sp):Prop:=∃(f:Addr)(b:FuncData),FnOk P w K mg a CX k f b ps sp/\mg nm=some (.ref f)/\W.keepIn K (.ref f)=true/\Binds K b ps []/\Binds K b ps c
section
variable{P:Program}{w:World}{K:W.Frag}{mg:Str->Option Value}{base:Heap}{CX:CXT}{k:Nat}{nm:Str}{ps:List Str}{sp:Sp}{st:Stmt}
def aeV{f g od i e kV d h b ct}(a:W.nsIn K mainGlobals nm=some (some (.ref f)))(l:K.lookup f=some ⟨g,od,.func (W.fnOf nm nm (dn st) (bt st) (ag st) .none kV d h i b ct),e⟩)(c:W.codeIn K b nm=true)(q:W.keepIn K (.ref f)=true):AtD K nm st:=⟨f,_,ab4 l c q,a⟩
def AtD.cal(D:AtD K nm st)(l:∀nm v,W.nsIn K mainGlobals nm=some (some v)->mg nm=some v)(g:∀kV c i j d ct e,e.length=ps.length->bindArgs (W.fnOf nm nm (dn st) (bt st) (ag st) .none kV c i j d ct) ⟨e,[]⟩=pure (ps.zip e))(h:∀f b,Fun K nm nm st f b->FnOk P w K mg base CX k f b ps sp):Cal P w K mg base CX k nm ps [] sp:=by obtain⟨f,b,F,a⟩:=D;exact⟨f,b,h f _ F,l _ _ a,F.kp,F.binds g,F.binds g⟩
def AtD.af9(D:AtD K nm st)(i:∀nm v,W.nsIn K mainGlobals nm=some (some v)->mg nm=some v)(g:∀kV c j l d ct e,e.length=ps.length->bindArgs (W.fnOf nm nm (dn st) (bt st) (ag st) .none kV c j l d ct) ⟨e,[]⟩=pure (ps.zip e))(h:∀f b,Fun K nm nm st f b->mg nm=some (.ref f)->Binds K b ps []->FnOk P w K mg base CX k f b ps sp):Cal P w K mg base CX k nm ps [] sp:=by obtain⟨f,b,F,a⟩:=D;exact⟨f,b,h f _ F (i _ _ a) (F.binds g),i _ _ a,F.kp,F.binds g,F.binds g⟩
end
section
variable{X:Cx}{B:Bx}{k j:Nat}{ps:List Str}{ds:List Value}{fn:List VW->Res VW}{x:Str}{p pos:Pos}{e:Expr}{es:List Expr}{tas:AF}{n:Nat}{dws:List VW}{dvs:List V}
def cl(r:B.K=X.K)(d:Room j X.A)(C:Cal X.prog X.w X.K X.mg X.base CX0 k x ps ds (spW X.K n fn))(g:PA X (e::es) (loA B tas))(o:k<=j:=by decide)(h:∀σ ws,tas σ=.ok ws->ws.length=n:=by repeat first|exact mj|apply gm)(l:Gl X x:=by rfl)(c:Dbg x:=by decide)(i:SE X e es:=by rfl)(a:BT X pos es:=by rfl):PE X (.Call (.Name x p) (e::es) [] pos) (lo B (WL.aG fn tas)):=by refine qu C λf s G m q b _=>?_;exact qO r.symm G (d.mono o) l m q b g h c i a
def clX(s:B.K=X.K)(d:Room j X.A)(r:XW X B)(C:Cal X.prog X.w X.K X.mg X.base (CXX X.prog X.w) k x ps ds (spX X.K n fn))(g:PA X (e::es) (loA B tas))(o:k<=j:=by decide)(h:∀σ ws,tas σ=.ok ws->ws.length=n:=by repeat first|exact mj|apply gm)(l:Gl X x:=by rfl)(c:Dbg x:=by decide)(i:SE X e es:=by rfl)(a:BT X pos es:=by rfl):PE X (.Call (.Name x p) (e::es) [] pos) (lo B (WL.jG fn tas)):=by refine qu C λf t G m q b _=>?_;exact uY s.symm r G (d.mono o) l m q b g h c i a
end
def acu{a}{ps:List Str}(h:bindArgs a ⟨[],[]⟩=pure (ps.zip []))(us)(e:us.length=0):bindArgs a ⟨us,[]⟩=pure (ps.zip us):=by grind
def bind1{b}{ps:List Str}(h:∀a,bindArgs b ⟨[a],[]⟩=pure (ps.zip [a]))(us)(e:us.length=1):bindArgs b ⟨us,[]⟩=pure (ps.zip us):=us1 (P:=λus=>bindArgs _ ⟨us,[]⟩=pure _) h _ e
def wO{b}{ps:List Str}(h:∀c a,bindArgs b ⟨[c,a],[]⟩=pure (ps.zip [c,a]))(us)(e:us.length=2):bindArgs b ⟨us,[]⟩=pure (ps.zip us):=us2 (P:=λus=>bindArgs _ ⟨us,[]⟩=pure _) h _ e
def acs{b}{ps:List Str}(h:∀d a c,bindArgs b ⟨[d,a,c],[]⟩=pure (ps.zip [d,a,c]))(us)(e:us.length=3):bindArgs b ⟨us,[]⟩=pure (ps.zip us):=us3 (P:=λus=>bindArgs _ ⟨us,[]⟩=pure _) h _ e
def acr{b}{ps:List Str}(h:∀d a c f,bindArgs b ⟨[d,a,c,f],[]⟩=pure (ps.zip [d,a,c,f]))(us)(e:us.length=4):bindArgs b ⟨us,[]⟩=pure (ps.zip us):=us4 (P:=λus=>bindArgs _ ⟨us,[]⟩=pure _) h _ e
def acq{b}{ps:List Str}(h:∀d a c g f,bindArgs b ⟨[d,a,c,g,f],[]⟩=pure (ps.zip [d,a,c,g,f]))(us)(e:us.length=5):bindArgs b ⟨us,[]⟩=pure (ps.zip us):=us5 (P:=λus=>bindArgs _ ⟨us,[]⟩=pure _) h _ e
def acp{b}{ps:List Str}(h:∀d a c g f i,bindArgs b ⟨[d,a,c,g,f,i],[]⟩=pure (ps.zip [d,a,c,g,f,i]))(us)(e:us.length=6):bindArgs b ⟨us,[]⟩=pure (ps.zip us):=us6 (P:=λus=>bindArgs _ ⟨us,[]⟩=pure _) h _ e
def cm{k}{A:Around}{a}(r:Room k (A.deeper a))(h:40<=k:=by first|decide|omega|exact agy (show 40<=_ by decide) (ahE _ _)):A.handled.isNone=true:=r.calm h
section
variable{X:Cx}{B:Bx}{a b e:Expr}{ta tb:EF}{pos:Pos}{x:Str}
def va(i)(g:X.N[i]?=some x:=by rfl)(d:Vis X.env.scope x:=by first|exact Or.inl rfl|exact Or.inr (Or.inl rfl)|exact Or.inr (Or.inr rfl))(f:Dbg x:=by decide)(c:(x=="__classdict__")=false:=by decide):PE X (.Name x pos) (lo B (WL.ak i)):=aaq (pv i g d f c)
def wx(f:B.K=X.K)(d:PE X a (lo B ta))(c:PE X b (lo B tb))(hs:kN b:=by exact λ_ _=>rfl):PE X (.Subscript a b pos) (lo B (WL.eOp WL.oIx ta tb)):=aas uC (ae2 f.symm) d c hs
def wk{v u w}(g:B.K=X.K)(c:X.mg x=some u)(r:RelV v u)(hw:∀F,RW X.K F w v)(f:Gl X x:=by rfl)(d:Dbg x:=by decide):PE X (.Name x pos) (lo B (WL.eC w)):=x5 (rZ f c r d) (by grind)
def wty{T}(h:X.mg x=none)(c:bootBuiltins x=some (.type T))(g:Gl X x:=by rfl)(f:x≠"__name__":=by decide)(d:Dbg x:=by decide):PE X (.Name x pos) (lo B (WL.eC (.ty T))):=x5 (adW g h c f d) λ_=>rfl
def wcl{nm:String}{C:Addr}(d:B.K=X.K)(h:X.mg x=some (.ref C))(g:ExcAt X.K nm C)(f:Gl X x:=by rfl)(c:Dbg x:=by decide):PE X (.Name x pos) (lo B (WL.eC (.cls nm))):=aat d.symm f h g c
def we2(d:B.K=X.K)(f:X.A.units+64<cLine)(c:PE X a (lo B ta))(g:PE X b (lo B tb)):PT X (.Compare a [.Eq] [b] pos) (loT B (WL.tB (WL.eOp WL.oEq ta tb))):=cp calm_eq (w_eq d.symm f) c g (cT _)
def wn2(d:B.K=X.K)(f:X.A.units+64<cLine)(c:PE X a (lo B ta))(g:PE X b (lo B tb)):PT X (.Compare a [.NotEq] [b] pos) (loT B (WL.tB (WL.eOp WL.oNe ta tb))):=cp zM (afQ d.symm f) c g (cT _)
def wS(i){c}(j:X.N.Nodup)(h:PE X e (lo B ta))(d:X.N[i]?=some x:=by rfl)(g:Loc X.env.scope x:=by first|exact Or.inl rfl|exact Or.inr rfl)(hs:swapsWith e (some (.Name x c)) pos.line X.env=pure false:=by rfl)(f:FL X x:=by first|exact .inl rfl|exact .inr rfl|assumption):PS X (.Assign [.Name x c] e pos) (loS B (WL.bj i ta)):=aak j d g h hs f
def gN(i){b}(g:X.N.Nodup:=by exact oS rfl)(d:X.N[i]?=some x:=by rfl)(f:Loc X.env.scope x:=by first|exact Or.inl rfl|exact Or.inr rfl)(c:FL X x:=by first|exact .inl rfl|exact .inr rfl|assumption):PG X (.Name x pos) (loG b B (WL.aA i)):=x4 (yM g d f c)
end
section
variable{X:Cx}{B:Bx}{r:List VW->Res VW}{tas:AF}{x:Str}{e:Expr}{es:List Expr}{p pos:Pos}{id:String}
def wB(cm:∀f c,r f≠.ex c)(k:bu X (.builtin id) (loN B.K r))(i:X.mg x=none)(d:bootBuiltins x=some (.builtin id))(g:PA X (e::es) (loA B tas))(l:Gl X x:=by rfl)(h:x≠"__name__":=by decide)(a:Dbg x:=by decide)(j:SE X e es:=by rfl)(b:BT X pos es:=by rfl):PE X (.Call (.Name x p) (e::es) [] pos) (lo B (WL.eBi r tas)):=aau cm (oM k l i d g h a j b)
def wT(cm:∀f c,r f≠.ex c)(k:bu X (.type id) (loN B.K r))(i:X.mg x=none)(d:bootBuiltins x=some (.type id))(g:PA X (e::es) (loA B tas))(l:Gl X x:=by rfl)(h:x≠"__name__":=by decide)(a:Dbg x:=by decide)(j:SE X e es:=by rfl)(b:BT X pos es:=by rfl):PE X (.Call (.Name x p) (e::es) [] pos) (lo B (WL.eBi r tas)):=aau cm (lJ k l i d g h a j b)
def age(P:Program)(w:World)(K:W.Frag)(mg:Str->Option Value)(a:Heap)(fI:Addr)(ps:List Str)(sp:Sp):Prop:=∃b:FuncData,FnOk P w K mg a CX0 1 fI b ps sp/\Binds K b ps []
def rI{j C fI ps nm u c}(v:B.K=X.K)(f:Room j X.A)(t:XW X B)(k:X.calm=true)(s:X.mg x=some (.ref C))(q:pE X.K C (some (.ref fI)))(d:W.typeIn X.K (.ref fI)=some (.type "function"))(I:age X.prog X.w X.K X.mg X.base fI ps (spI C (WL.fieldsOf nm)))(m:ExcAt X.K nm C)(g:PA X (e::es) (loA B tas))(o:2<=j:=by decide)(n:Gl X x:=by rfl)(h:(WL.fieldsOf nm).length<=50:=by decide)(l:Dbg x:=by decide)(i:SE X e es:=by rfl)(a:BT X c es:=by rfl):PS X (.Raise (some (.Call (.Name x u) (e::es) [] c)) none pos) (loS B (WL.rC nm tas)):=by obtain⟨w,F,b⟩:=I;exact qG v.symm t k n s q d F (f.mono o) b m h g l i a
end
section
variable{K:W.Frag}
def aaM{a d n sl vs xs}(l:K.lookup a=some ⟨.type "tuple",d,.seq vs n,sl⟩)(b:Vals xs vs.toList)(c:vs.size<=sizeLine):∀H,SqT K H a xs:=λ_=>.inr ⟨_,_,_,l,rfl,rfl,c,b⟩
def wt{nm a}(b:W.nsIn K mainGlobals (Str.ofString nm)=some (some (.ref a)))(c:W.typeIn K (.ref a)=some (.type "type"))(d:(W.clsIn K a).map (·.mro)=some (.ref a::gF))(e:W.findIn K (.ref a) "__getattribute__"=some (some (.builtin "BaseException.__getattribute__")))(f:W.findIn K (.ref a) "__getattr__"=some none)(g:W.findIn K (.ref a) "__class__"=some (some (.builtin "object.__class__"))):W.nsIn K mainGlobals (Str.ofString (nm,a).1)=some (some (.ref (nm,a).2))/\Exc1 K a (nm,a).2:=⟨b,c,.inl ⟨d,rfl⟩,e,f,g⟩
def zB{nm a b}(h:W.nsIn K mainGlobals (Str.ofString nm)=some (some (.ref a)))(c:W.typeIn K (.ref a)=some (.type "type"))(d:(W.clsIn K a).map (·.mro)=some (.ref a::.ref b::gF))(e:W.findIn K (.ref a) "__getattribute__"=some (some (.builtin "BaseException.__getattribute__")))(f:W.findIn K (.ref a) "__getattr__"=some none)(g:W.findIn K (.ref a) "__class__"=some (some (.builtin "object.__class__"))):W.nsIn K mainGlobals (Str.ofString (nm,a).1)=some (some (.ref (nm,a).2))/\Exc1 K b (nm,a).2:=⟨h,c,.inr d,e,f,g⟩
end
end WS
namespace ST
open PySem
noncomputable def T0(m:Nat):SetTable:={mask:=m,place:=#[],dummies:=#[],finger:=0,led:=true,moves:=0,plain:=true}
noncomputable def pr(m:Nat)(h:Int):Nat->SetTable.Probe|0=>(T0 m).probeStart h|n+1=>(T0 m).advance (pr m h n)
noncomputable def rs(m:Nat)(h:Int):Nat->Nat×Nat|0=>(SetTable.bits h%(m+1),SetTable.bits h)|n+1=>SetTable.leap m (rs m h n).1 (rs m h n).2
noncomputable def rl(m i:Nat):Nat:=SetTable.runEnd m i-i
noncomputable def ps(m:Nat)(h:Int):Nat->Nat|0=>0|n+1=>ps m h n+rl m (rs m h n).1+1
def adP(m i:Nat):rl m i<=9:=by unfold rl SetTable.runEnd;split<;>omega
theorem aa6(m:Nat)(h:Int):∀n,ps m h n<=10*n|0=>agx _|n+1=>by have:=aa6 m h n;have:=adP m (rs m h n).1;simp only[ps];omega
theorem lB(m:Nat)(h:Int)(n:Nat)(e:pr m h (ps m h n)=⟨(rs m h n).1,rl m (rs m h n).1,(rs m h n).1,(rs m h n).2,none⟩):∀k,k<=rl m (rs m h n).1->pr m h (ps m h n+k)=⟨(rs m h n).1+k,rl m (rs m h n).1-k,(rs m h n).1,(rs m h n).2,none⟩|0,_=>e|k+1,hk=>by show(T0 m).advance (pr m h (ps m h n+k))=_;rw[lB m h n e k (by omega)];unfold SetTable.advance;rw[ago (by show rl m (rs m h n).1-k>0;omega)];simp only[SetTable.Probe.mk.injEq,and_true,true_and];omega
theorem dJ(m:Nat)(h:Int):∀n,pr m h (ps m h n)=⟨(rs m h n).1,rl m (rs m h n).1,(rs m h n).1,(rs m h n).2,none⟩|0=>rfl|n+1=>by show(T0 m).advance (pr m h (ps m h n+rl m (rs m h n).1))=_;rw[lB m h n (dJ m h n) _ (agx _)];unfold SetTable.advance;rw[agq (by show¬rl m (rs m h n).1-rl m (rs m h n).1>0;omega)];rfl
theorem j6(m:Nat)(h:Int):∀n,(pr m h n).dummy=none
|0=>rfl|n+1=>by
 show((T0 m).advance (pr m h n)).dummy=none;unfold SetTable.advance;split;.exact j6 m h n
 .exact j6 m h n
def zO(h:Int):SetTable.bits h<2^64:=by unfold SetTable.bits;omega
theorem rG(m:Nat)(h:Int):∀n,(rs m h n).2=SetTable.bits h/32^n|0=>by simp[rs]|n+1=>by show(rs m h n).2/32=_;rw[rG m h n,Nat.div_div_eq_div_mul,Nat.pow_succ]
def yx(m:Nat)(h:Int)(k:Nat):(rs m h (13+k)).2=0:=by rw[rG,Nat.div_eq_of_lt];have a:=zO h;have:32^13<=32 ^(13+k):=Nat.pow_le_pow_right (by decide) (by omega);exact agv a (agy (by decide) this)
noncomputable def it(m i:Nat):Nat->Nat|0=>i|k+1=>(it m i k*5+1)%(m+1)
theorem aaV(m:Nat)(h:Int):∀k,(rs m h (13+k)).1=it m (rs m h 13).1 k|0=>rfl|k+1=>by show((rs m h (13+k)).1*5+1+(rs m h (13+k)).2/32)%(m+1)=_;rw[yx,aaV m h k];simp[it]
def yw(m:Nat)(h:Int):∀n,(rs m h n).1<m+1|0=>ajo _ (ai9 _)|n+1=>ajo _ (ai9 _)
def cover(m:Nat):Bool:=(List.range (m+1)).all λi=>(List.range (m+1)).all λe=>(List.range (m+1)).any λk=>it m i k==e
def Mk(m:Nat):Prop:=m=7\/m=31
def ur{m:Nat}(a:Mk m):cover m=true:=by rcases a with rfl|rfl<;>decide+kernel
def ack{m:Nat}(b:Mk m)(h:Int){e:Nat}(d:e<=m):∃n,n<=m+13/\(rs m h n).1=e:=by have:=ur b;simp only[cover,ag3,List.any_eq_true,agB,ah0]at this;obtain⟨k,c,a⟩:=this _ (yw m h 13) e (by omega);exact⟨13+k,by omega,by rw[aaV];exact a⟩
theorem jl{a:Type}[DecidableEq a]:∀(l P:List a),l.Nodup->(∀x∈l,x∈P)->l.length<=P.length|[],_,_,_=>agV _|x::l,P,hn,hs=>by have c:=hs x agD;rw[ag1]at hn;have:=jl l (P.erase x) hn.2 λy b=>(List.mem_erase_of_ne λe:y=x=>hn.1 (e▸b)).mpr (hs y (agw _ b));rw[List.length_erase_of_mem c]at this;have:=List.length_pos_of_mem c;simp only[agJ];omega
def qb{m:Nat}{P:List Nat}(h:P.length<=m):∃e,e<=m/\e∉P:=by apply ahR;intro c;have:=jl (List.range (m+1)) P ahF λx a=>ahR λb=>c ⟨x,by have:=agB.mp a;omega,b⟩;rw[ahP]at this;omega
def jA{m:Nat}(c:Mk m)(h:Int){P:List Nat}(d:P.length<=m):∃n,n<=m+13/\(rs m h n).1∉P:=by obtain⟨e,f,a⟩:=qb d;obtain⟨n,b,rfl⟩:=ack c h f;exact⟨n,b,a⟩
def abb(m:Nat)(h:Int)(n:Nat):(pr m h (ps m h n)).j=(rs m h n).1:=by rw[dJ]
def Srt(xs:List Nat):Prop:=xs.Pairwise (.<.)
def mK{xs:List Nat}(hs:Srt xs){a b x y:Nat}(e:xs[a]?=some x)(g:xs[b]?=some y)(c:a<b):x<y:=by obtain⟨d,rfl⟩:=agu.mp e;obtain⟨f,rfl⟩:=agu.mp g;exact ahA.mp hs a b d f c
theorem kJ{xs:Array Nat}{j:Nat}(hs:Srt xs.toList):∀(fuel lo a:Nat),lo<=a->a<=xs.size->a-lo<=fuel->(∀i v,i<lo->xs[i]?=some v->v<j)->(∀i v,a<=i->xs[i]?=some v->j<=v)->SetTable.below.go xs j fuel lo a<=xs.size/\(∀i v,i<SetTable.below.go xs j fuel lo a->xs[i]?=some v->v<j)/\∀i v,SetTable.below.go xs j fuel lo a<=i->xs[i]?=some v->j<=v
|0,lo,a,h1,h2,h3,hl,hh=>by
  have:lo=a:=by omega
  subst this;unfold SetTable.below.go;exact⟨h2,hl,hh⟩|fuel+1,lo,a,h1,h2,h3,hl,hh=>by
  unfold SetTable.below.go;by_cases b:lo<a
  .rw[ago b];have l:(lo+a)/2<xs.size:=by omega
   have m:xs.getD ((lo+a)/2) j=xs[(lo+a)/2]:=by simp[Array.getD,l]
   have d:xs[(lo+a)/2]?=some xs[(lo+a)/2]:=by simp[l]
   have f:∀{i v:Nat},xs[i]?=some v->xs.toList[i]?=some v:=λh=>by simpa using h
   dsimp only;rw[m];by_cases c:xs[(lo+a)/2]<j
   .rw[ago c];refine kJ hs fuel _ _ (by omega) h2 (by omega) (λi v g e=>?_) hh;by_cases k:i=(lo+a)/2;.subst k;rw[d]at e;cases e;exact c
    .exact ai7 (mK hs (f e) (f d) (by omega)) c
   .rw[agq c];refine kJ hs fuel _ _ (by omega) (by omega) (by omega) hl λi v g e=>?_;by_cases k:i=(lo+a)/2;.subst k;rw[d]at e;cases e;omega
    .have:=mK hs (f d) (f e) (by omega);omega
  .rw[agq b];have:lo=a:=by omega
   subst this;exact⟨h2,hl,hh⟩
def jK{xs:Array Nat}(hs:Srt xs.toList)(j:Nat):SetTable.below xs j<=xs.size/\(∀i v,i<SetTable.below xs j->xs[i]?=some v->v<j)/\∀i v,SetTable.below xs j<=i->xs[i]?=some v->j<=v:=kJ hs _ _ _ (agV _) (agx _) (by omega) (λi v h=>absurd h (ahf _)) λi v h e=>by have:=(aho.mp e).1;omega
def has_none(j:Nat):SetTable.has #[] j=false:=by simp[SetTable.has]
def lj{t:SetTable}(hs:Srt t.place.toList){i j:Nat}(e:t.place[i]?=some j):t.slot j=.live i:=by
 obtain⟨o,g,m⟩:=jK hs j;have l:SetTable.below t.place j=i:=by
  have f:∀{i v:Nat},t.place[i]?=some v->t.place.toList[i]?=some v:=λh=>by simpa using h
  rcases aiX (SetTable.below t.place j) i with b|c|a
  .have n:i<t.place.size:=(aho.mp e).1;have k:SetTable.below t.place j<t.place.size:=by omega
   have d:t.place[SetTable.below t.place j]?=some t.place[SetTable.below t.place j]:=by simp[k]
   have:=mK hs (f d) (f e) b;have:=m _ _ (agx _) d;omega
  .exact c
  .have:=g i j a e;omega
 unfold SetTable.slot;dsimp only;rw[l,e];simp
def pT{t:SetTable}(a:t.dummies=#[]){j:Nat}(h:j∉t.place.toList):t.slot j=.empty:=by
 unfold SetTable.slot;dsimp only;rw[agq,a,has_none];.simp
 .intro e;simp only[ah0]at e;exact h (by have:=Array.mem_of_getElem? e;simpa using this)
theorem oK{t:SetTable}(hs:Srt t.place.toList)(r:t.dummies=#[])(f:Nat->Int)(h:Int):∀(fuel n N:Nat),n<=N->N-n<fuel->(pr t.mask h N).j∉t.place.toList->∃g,n<=g/\g<=N/\(∀k,n<=k->k<g->∃i,t.place[i]?=some (pr t.mask h k).j/\f i≠h)/\((pr t.mask h g).j∉t.place.toList/\SetTable.probe.go t f h fuel (pr t.mask h n)=some (.empty (pr t.mask h g).j none)\/∃i,t.place[i]?=some (pr t.mask h g).j/\f i=h/\SetTable.probe.go t f h fuel (pr t.mask h n)=some (.candidate (pr t.mask h g).j i (pr t.mask h (g+1))))
|0,n,N,h1,h2,_=>absurd h2 (ahf _)|fuel+1,n,N,h1,h2,he=>by
  by_cases o:(pr t.mask h n).j∈t.place.toList
  .obtain⟨i,s⟩:=aiI o;have j:t.place[i]?=some (pr t.mask h n).j:=by simpa using s
   have l:=lj hs j;by_cases m:f i=h;.refine⟨n,agx _,h1,λk a b=>absurd b (by omega),.inr ⟨i,j,m,?_⟩⟩;unfold SetTable.probe.go;rw[l];dsimp only;rw[ago (by simpa using m)];rfl
   .have u:n≠N:=λe=>he (e▸o);obtain⟨g,a,b,c,d⟩:=oK hs r f h fuel (n+1) N (by omega) (by omega) he;have w:SetTable.probe.go t f h (fuel+1) (pr t.mask h n)=SetTable.probe.go t f h fuel (pr t.mask h (n+1)):=by rw[SetTable.probe.go.eq_def];dsimp only;rw[l];dsimp only;rw[agq (by simpa using m)];rfl
    rw[w];refine⟨g,by omega,b,λk p q=>?_,d⟩;by_cases v:k=n;.subst v;exact⟨i,j,m⟩
    .exact c k (by omega) q
  .refine⟨n,agx _,h1,λk a b=>absurd b (by omega),.inl ⟨o,?_⟩⟩;unfold SetTable.probe.go;rw[pT r o];dsimp only;rw[j6]
abbrev Row:=Nat×List Int×Addr
noncomputable def plc(L:List Row):List Nat:=L.map (·.1)
structure Good(hf:List Int->Int)(m:Nat)(L:List Row):Prop where
 srt:Srt (plc L)bnd:∀x∈L,x.1<=m
 rch:∀x∈L,∃n,(pr m (hf x.2.1) n).j=x.1/\∀k,k<n->(pr m (hf x.2.1) k).j∈plc L
 dst:(L.map (·.2.1)).Nodup
def tab(m:Nat)(L:List Row)(a b:Nat)(led:Bool):SetTable:={mask:=m,place:=(plc L).toArray,dummies:=#[],finger:=a,led:=led,moves:=b,plain:=true}
noncomputable def ents(a:List Int->Int)(L:List Row):Array (Int×Value):=(L.map λx=>(a x.2.1,Value.ref x.2.2)).toArray
def dR(a:List Int->Int)(L:List Row):(ents a L).size=L.length:=by simp[ents]
def dV(c:List Int->Int){m:Nat}{L:List Row}{a b:Nat}{led:Bool}(h:L.length<=m):(tab m L a b led).fits (ents c L).size=true:=by simp[SetTable.fits,tab,SetTable.fill,ents,plc,h]
def fA{a:Type}(xs:List a)(p:Nat)(x:a):SetTable.insertAt xs.toArray p x=(xs.take p++x::xs.drop p).toArray:=by apply Array.ext';rw[SetTable.toList_insertAt]
def ins(L:List Row)(j:Nat)(k:List Int)(b:Addr):List Row:=L.take (SetTable.below (plc L).toArray j)++(j,k,b)::L.drop (SetTable.below (plc L).toArray j)
def kn(L:List Row)(j:Nat)(k:List Int)(b:Addr):(ins L j k b).Perm ((j,k,b)::L):=by unfold ins;have:=List.perm_middle (a:=(j,k,b)) (l₁:=L.take (SetTable.below (plc L).toArray j)) (l₂:=L.drop (SetTable.below (plc L).toArray j));rw[List.take_append_drop]at this;exact this
def zk(L:List Row)(j:Nat)(k:List Int)(b:Addr):(ins L j k b).length=L.length+1:=(kn L j k b).length_eq
def yA{m:Nat}{L:List Row}{c a:Nat}{led:Bool}(j:Nat)(k:List Int)(b:Addr):(tab m L c a led).put j=(tab m (ins L j k b) c a led,SetTable.below (plc L).toArray j):=by unfold SetTable.put tab;dsimp only;rw[has_none];simp only[aha,ahM];refine Prod.ext ?_ rfl;simp only[SetTable.mk.injEq,true_and,and_true];rw[fA];simp[ins,plc]
def wy(a:List Int->Int)(L:List Row)(j:Nat)(k:List Int)(b:Addr):SetTable.insertAt (ents a L) (SetTable.below (plc L).toArray j) (a k,.ref b)=ents a (ins L j k b):=by unfold ents;rw[fA];simp[ins]
def yj{L:List Row}(hs:Srt (plc L)){j:Nat}(k:List Int)(b:Addr)(n:j∉plc L):Srt (plc (ins L j k b)):=by
 obtain⟨m,g,h⟩:=jK (xs:=(plc L).toArray) (by simpa using hs) j;unfold ins;generalize SetTable.below (plc L).toArray j=p at m g h;have e:plc (L.take p++(j,k,b)::L.drop p)=(plc L).take p++j::(plc L).drop p:=by simp[plc]
 rw[e];unfold Srt at hs⊢;rw[<-List.take_append_drop p (plc L),aiJ]at hs;rw[aiJ,List.pairwise_cons];have lo:∀a∈(plc L).take p,a<j:=λa d=>by
  obtain⟨i,c⟩:=aiI d;rw[List.getElem?_take]at c;split at c;.exact g i a (by assumption) (by simpa using c)
  .cases c
 have c:∀a∈(plc L).drop p,j<a:=λa d=>by have l:a≠j:=λe=>n (e▸List.mem_of_mem_drop d);obtain⟨i,c⟩:=aiI d;rw[List.getElem?_drop]at c;have:=h (p+i) a (ahE _ _) (by simpa using c);omega
 refine⟨hs.1,⟨c,hs.2.1⟩,λa d x f=>?_⟩;rcases ags.mp f with rfl|f;.exact lo a d
 .exact hs.2.2 a d x f
def vA{L a:List Row}(p:a.Perm L):(plc a).Perm (plc L):=p.map _
def wh{c:List Int->Int}{m:Nat}{L:List Row}(G:Good c m L){j n:Nat}{k:List Int}(b:Addr)(f:(pr m (c k) n).j=j)(g:∀i,i<n->(pr m (c k) i).j∈plc L)(l:j∉plc L)(p:j<=m)(h:k∉L.map (·.2.1)):Good c m (ins L j k b):=by
 have P:=kn L j k b;have sub:∀x,x∈plc L->x∈plc (ins L j k b):=λx a=>(vA P).mem_iff.mpr (agw _ a);refine⟨yj G.srt k b l,λx a=>?_,λx a=>?_,?_⟩
 .rcases ags.mp (P.mem_iff.mp a)with rfl|a;.exact p
  .exact G.bnd x a
 .rcases ags.mp (P.mem_iff.mp a)with rfl|a;.exact⟨n,f,λi d=>sub _ (g i d)⟩
  .obtain⟨q,e,o⟩:=G.rch x a;exact⟨q,e,λi d=>sub _ (o i d)⟩
 .have:=(P.map (·.2.1)).nodup_iff.mpr (ag1.mpr ⟨h,G.dst⟩);exact this
section
variable{m:Nat}
noncomputable def ow(a:Array (Option Nat))(j:Nat):Option Nat:=a.getD j none
theorem tR(H:Mk m){f:Array (Option Nat)}(hz:f.size=m+1)(h:Int):∀(fuel r N:Nat),r<=N->N-r<fuel->ow f (rs m h N).1=none->∃n,ps m h r<=n/\(∀k,ps m h r<=k->k<n->(ow f (pr m h k).j).isSome=true)/\ow f (pr m h n).j=none/\(pr m h n).j<=m/\SetTable.layClean.free m f fuel (rs m h r).1 (rs m h r).2=some (pr m h n).j
|0,r,N,h1,h2,_=>absurd h2 (ahf _)|fuel+1,r,N,h1,h2,he=>by
  have I:=yw m h r;have x:(rs m h r).1+rl m (rs m h r).1<=m:=by unfold rl SetTable.runEnd;split<;>omega
  have s:SetTable.runEnd m (rs m h r).1+1-(rs m h r).1=rl m (rs m h r).1+1:=by
   have:(rs m h r).1<=SetTable.runEnd m (rs m h r).1:=by unfold SetTable.runEnd;split<;>omega
   unfold rl;omega
  have t:∀k,k<=rl m (rs m h r).1->f.getD ((rs m h r).1+k) (some 0)=ow f (pr m h (ps m h r+k)).j:=λk g=>by rw[lB m h r (dJ m h r) k g];unfold ow;simp[Array.getD,show(rs m h r).1+k<f.size by omega]
  unfold SetTable.layClean.free;rw[s];cases j:List.find? (λk=>(f.getD ((rs m h r).1+k) (some 0)).isNone) (List.range (rl m (rs m h r).1+1))with
 |some k=>
   dsimp only;have g:=List.mem_of_find?_eq_some j;have C:=agB.mp g;have y:=List.find?_some j;rw[t k (by omega)]at y;refine⟨ps m h r+k,ahE _ _,λq A z=>?_,by simpa using y,?_,?_⟩
   .have B:q-ps m h r<k:=by omega
    have:=(List.find?_eq_some_iff_append.mp j).2;obtain⟨o,bs,e,i⟩:=this;have l:q-ps m h r∈o:=by
     have w:(List.range (rl m (rs m h r).1+1))[q-ps m h r]?=some (q-ps m h r):=by rw[ahq];omega
     have v:(List.range (rl m (rs m h r).1+1))[o.length]?=some k:=by rw[e];simp
     have J:o.length=k:=by
      have E:o.length<rl m (rs m h r).1+1:=by have:=ah5 List.length e;simp at this;omega
      rw[ahq E]at v;exact agS v
     rw[e,ahs (by omega)]at w;exact ahu w
    have:=i _ l;rw[t _ (by omega)]at this;rw[show ps m h r+(q-ps m h r)=q by omega]at this;cases u:ow f (pr m h q).j with|none=>rw[u]at this;simp at this|some _=>rfl
   .rw[lB m h r (dJ m h r) k (by omega)];dsimp only;omega
   .rw[lB m h r (dJ m h r) k (by omega)]|none=>
   dsimp only;rw[List.find?_eq_none]at j;have all:∀k,k<=rl m (rs m h r).1->(ow f (pr m h (ps m h r+k)).j).isSome=true:=λk g=>by have:=j k (agB.mpr (by omega));rw[t k g]at this;cases u:ow f (pr m h (ps m h r+k)).j with|none=>rw[u]at this;simp at this|some _=>rfl
   have G:r≠N:=λe=>by subst e;have:=all 0 (agV _);rw[Nat.add_zero,abb,he]at this;cases this
   obtain⟨n,a,b,c,d,e⟩:=tR H hz h fuel (r+1) N (by omega) (by omega) he;have D:ps m h (r+1)=ps m h r+rl m (rs m h r).1+1:=rfl;refine⟨n,by omega,λk p q=>?_,c,d,e⟩;by_cases g:k<ps m h (r+1);.have:=all (k-ps m h r) (by omega);rw[show ps m h r+(k-ps m h r)=k by omega]at this;exact this
   .exact b k (by omega) q
end
section
variable{m:Nat}
noncomputable def live(m:Nat)(a:Array (Option Nat)):List (Nat×Nat):=(List.range (m+1)).filterMap λj=>(a.getD j none).map (j,.)
def kg{c:Array (Option Nat)}{j k:Nat}:(j,k)∈live m c↔j<=m/\ow c j=some k:=by
 unfold live ow;simp only[ag5,agB,agR,ag2];constructor;.rintro⟨a,e,b,d,rfl,rfl⟩;exact⟨by omega,d⟩
 .rintro⟨e,d⟩;exact⟨j,by omega,k,d,rfl,rfl⟩
theorem o7{f g:Nat->Option (Nat×Nat)}:∀(l:List Nat),(∀i∈l,g i=f i)->l.filterMap g=l.filterMap f|[],_=>rfl|x::l,h=>by rw[agU,agU,h x agD,o7 l λi a=>h i (agw _ a)]
theorem xP{f g:Nat->Option (Nat×Nat)}{j:Nat}{v:Nat×Nat}:∀(l:List Nat),l.Nodup->j∈l->f j=none->g j=some v->(∀i,i≠j->g i=f i)->(l.filterMap g).Perm (v::l.filterMap f)
|[],_,h,_,_,_=>absurd h agI|x::l,hn,hm,hf,hg,ho=>by
 rw[ag1]at hn;by_cases a:x=j;.subst a;rw[agU,agU,hf,hg];have:l.filterMap g=l.filterMap f:=o7 l λi c=>ho i λe=>hn.1 (e▸c);rw[this]
 .have b:=xP l hn.2 ((ags.mp hm).resolve_left λe=>a e.symm) hf hg ho;rw[agU,agU,ho x a];cases f x with|none=>exact b|some u=>exact(b.cons u).trans (List.Perm.swap _ _ _)
def r6{a:Array (Option Nat)}{j k:Nat}(c:j<a.size)(i:Nat):ow (a.setIfInBounds j (some k)) i=if i=j then some k else ow a i:=by
 unfold ow;by_cases h:i=j;.subst h;simp[Array.getD,c]
 .rw[agq h];by_cases b:i<a.size;.simp[Array.getD,b,Array.getElem_setIfInBounds,agG h]
  .simp[Array.getD,b]
def vW{a:Array (Option Nat)}{j k:Nat}(hz:a.size=m+1)(d:j<=m)(c:ow a j=none):(live m (a.setIfInBounds j (some k))).Perm ((j,k)::live m a):=by
 unfold live;refine xP (j:=j) _ ahF (agB.mpr (by omega)) ?_ ?_ λi b=>?_;.show Option.map _ (ow a j)=none;rw[c];rfl
 .show Option.map _ (ow _ j)=_;rw[r6 (by omega)];simp
 .show Option.map _ (ow _ i)=Option.map _ (ow a i);rw[r6 (by omega),agq b]
structure Lay(m:Nat)(H:List Int)(owner:Array (Option Nat))(n:Nat):Prop where sz:owner.size=m+1pm:((live m owner).map (·.2)).Perm (List.range n)rc:∀j k,(j,k)∈live m owner->∃q,(pr m (H.getD k 0) q).j=j/\∀i,i<q->(ow owner (pr m (H.getD k 0) i).j).isSome=true
def vY(l:Mk m){H:List Int}{a:Array (Option Nat)}{n:Nat}(Y:Lay m H a n)(v:n<=m):∃j,SetTable.layClean.free m a (SetTable.turns m) (SetTable.bits (H.getD n 0)%(m+1)) (SetTable.bits (H.getD n 0))=some j/\Lay m H (a.setIfInBounds j (some n)) (n+1):=by
 have r:((live m a).map (·.1)).length<=m:=by have:=Y.pm.length_eq;simp only[agO,ahP]at this⊢;omega
 obtain⟨N,w,c⟩:=jA l (H.getD n 0) r;have g:ow a (rs m (H.getD n 0) N).1=none:=by cases e:ow a (rs m (H.getD n 0) N).1 with|none=>rfl|some k=>exact absurd (agM.mpr ⟨(_,k),kg.mpr ⟨by have:=yw m (H.getD n 0) N;omega,e⟩,rfl⟩) c
 obtain⟨q,_,o,s,h,e⟩:=tR l Y.sz (H.getD n 0) (SetTable.turns m) 0 N (agV _) (by unfold SetTable.turns;omega) g;refine⟨_,e,?_⟩;have f:(pr m (H.getD n 0) q).j<a.size:=by rw[Y.sz];omega
 have P:=vW (m:=m) (k:=n) Y.sz h s;have mono:∀i,(ow a i).isSome=true->(ow (a.setIfInBounds (pr m (H.getD n 0) q).j (some n)) i).isSome=true:=λi d=>by
  rw[r6 f];split;.rfl
  .exact d
 refine⟨by simp[Y.sz],?_,λj k b=>?_⟩;.refine(P.map (·.2)).trans ?_;rw[agP,List.range_succ];exact(Y.pm.cons n).trans (List.perm_append_singleton n (List.range n)).symm
 .rcases ags.mp (P.mem_iff.mp b)with e|b;.cases e;exact⟨q,rfl,λi d=>mono _ (o i (agV _) d)⟩
  .obtain⟨p,u,t⟩:=Y.rc j k b;exact⟨p,u,λi d=>mono _ (t i d)⟩
noncomputable def rj(m:Nat)(a:Option (Array (Option Nat)×Nat))(h:Int):Option (Array (Option Nat)×Nat):=do let(owner,k)<-a let j <-SetTable.layClean.free m owner (SetTable.turns m) (SetTable.bits h%(m+1)) (SetTable.bits h)pure (owner.setIfInBounds j (some k),k+1)
theorem sM(i:Mk m)(H:List Int):∀(R:List Int)(c:Array (Option Nat))(n:Nat),Lay m H c n->H.drop n=R->n+R.length<=m+1->∃d,R.foldl (rj m) (some (c,n))=some (d,n+R.length)/\Lay m H d (n+R.length)
|[],c,n,Y,_,_=>⟨c,rfl,Y⟩|h::R,c,n,Y,hd,hl=>by
 have f:n<H.length:=by have:=ah5 List.length hd;simp only[aiB,agJ]at this;omega
 have k:H.getD n 0=h:=by have:=ahQ f;rw[hd]at this;injection this with a b;simp[List.getD,f,a]
 have g:H.drop (n+1)=R:=by have:=ahQ f;rw[hd]at this;injection this with a b;exact b.symm
 simp only[agJ]at hl;obtain⟨j,e,l⟩:=vY i Y (by omega);rw[k]at e;obtain⟨o,r,q⟩:=sM i H R _ (n+1) l g (by omega);refine⟨o,?_,by rw[show n+(h::R).length=n+1+R.length by simp;omega];exact q⟩;rw[aiK];have p:rj m (some (c,n)) h=some (c.setIfInBounds j (some n),n+1):=by unfold rj;simp[e]
 rw[p,r];simp;omega
def za(H:List Int):Lay m H (Array.replicate (m+1) none) 0:=by
 have e:live m (Array.replicate (m+1) (none:Option Nat))=[]:=by unfold live;rw[List.filterMap_eq_nil_iff];intro j a;simp only[Option.map_eq_none_iff,Array.getD];split<;>simp
 exact⟨by simp,by rw[e];simp,λj k h=>by rw[e]at h;exact absurd h agI⟩
def ng(b:Mk m)(H:List Int)(c:H.length<=m+1):∃a,SetTable.layClean m H.toArray=some a/\Lay m H a H.length:=by
 obtain⟨o,e,Y⟩:=sM b H H _ 0 (za H) (by simp) (by omega);rw[aja]at e Y;refine⟨o,?_,Y⟩;unfold SetTable.layClean;have:H.toArray.foldl (rj m) (some (Array.replicate (m+1) none,0))=some (o,H.length):=by rw[List.foldl_toArray];exact e
 show Option.map _ (H.toArray.foldl (rj m) (some (Array.replicate (m+1) none,0)))=_;rw[this];rfl
def iF(L:List Row)(a:Array (Option Nat))(m:Nat):List Row:=(live m a).filterMap λp=>L[p.2]?.map λx=>(p.1,x.2)
def vw(T:Mk m)(d:List Int->Int){S:Nat}{L:List Row}(G:Good d S L)(Q:L.length<=m+1)(J K:Nat)(led:Bool):∃w f,SetTable.laid m J K led true ((ents d L).map (·.1))=some (tab m w J K led,f)/\f.filterMap ((ents d L)[.]?)=ents d w/\Good d m w/\(w.map (·.2)).Perm (L.map (·.2)):=by
 have N:(ents d L).map (·.1)=(L.map λx=>d x.2.1).toArray:=by simp[ents,aiY]
 obtain⟨c,e,Y⟩:=ng T (L.map λx=>d x.2.1) (by simpa using Q);rw[agO]at Y;have A:∀p∈live m c,p.2<L.length:=λp I=>by have:=Y.pm.mem_iff.mp (agM.mpr ⟨p,I,rfl⟩);exact agB.mp this
 have o:∀x,x∈iF L c m↔∃k,(x.1,k)∈live m c/\∃r,L[k]?=some r/\r.2=x.2:=λx=>by
  unfold iF;simp only[ag5,agR];constructor;.rintro⟨⟨j,k⟩,s,r,t,rfl⟩;exact⟨k,s,r,t,rfl⟩
  .rintro⟨k,s,r,t,C⟩;exact⟨(x.1,k),s,r,t,by rw[C]⟩
 have l:∀(D:List (Nat×Nat)),(∀p∈D,p.2<L.length)->plc (D.filterMap λp=>L[p.2]?.map λx=>(p.1,x.2))=D.map (·.1)/\(D.filterMap λp=>L[p.2]?.map λx=>(p.1,x.2)).map (·.2)=(D.map (·.2)).filterMap λk=>L[k]?.map (·.2):=by intro D;induction D with|nil=>intro _;exact⟨rfl,rfl⟩|cons p D ih=>
   intro h;have z:=h p agD;obtain⟨a,b⟩:=ih λq B=>h q (agw _ B);have u:L[p.2]?=some L[p.2]:=by simp[z]
   rw[agU,u];constructor;.show _::plc _=_;rw[a];rfl
   .show _::List.map _ _=_;rw[b,agP,agU,u];rfl
 have g:=(l (live m c) A).1;have n:=(l (live m c) A).2;refine⟨iF L c m,((live m c).map (·.2)).toArray,?_,?_,⟨?_,?_,?_,?_⟩,?_⟩;.unfold SetTable.laid;rw[N,e];show some _=some _;congr 1;refine Prod.ext ?_ rfl;unfold tab;simp only[SetTable.mk.injEq,true_and,and_true];rw[show plc (iF L c m)=(live m c).map (·.1)from g];rfl
 .apply Array.ext';rw[Array.toList_filterMap];unfold ents;have:∀D:List (Nat×Nat),(∀p∈D,p.2<L.length)->(D.map (·.2)).filterMap (λk=>(L.map λx=>(d x.2.1,Value.ref x.2.2)).toArray[k]?)=(D.filterMap λp=>L[p.2]?.map λx=>(p.1,x.2)).map λx=>(d x.2.1,Value.ref x.2.2):=by intro D;induction D with|nil=>intro _;rfl|cons p D ih=>
    intro h;have z:=h p agD;have:=ih λq B=>h q (agw _ B);have u:L[p.2]?=some L[p.2]:=by simp[z]
    rw[agP,agU,agU,u];simp only[List.getElem?_toArray,agT,u,aje,agP]at this⊢;rw[this]
  exact this _ A
 .show Srt (plc (iF L c m));rw[show plc (iF L c m)=(live m c).map (·.1)from g];unfold Srt live;rw[aiZ];refine List.Pairwise.filterMap (R:=(.<.)) _ (λa Z H b M X v=>?_) List.pairwise_lt_range;simp only[agR]at M v;obtain⟨_,_,rfl⟩:=M;obtain⟨_,_,rfl⟩:=v;exact H
 .intro x E;obtain⟨k,s,_⟩:=(o x).mp E;exact(kg.mp s).1
 .intro x E;obtain⟨k,s,r,t,C⟩:=(o x).mp E;obtain⟨q,a,b⟩:=Y.rc _ _ s;have U:(L.map λx=>d x.2.1).getD k 0=d x.2.1:=by simp[List.getD,t,C]
  rw[U]at a b;refine⟨q,a,λi O=>?_⟩;show _∈plc (iF L c m);rw[show plc (iF L c m)=(live m c).map (·.1)from g];have:=b i O;cases y:ow c (pr m (d x.2.1) i).j with|none=>rw[y]at this;cases this|some k'=>
   refine agM.mpr ⟨(_,k'),kg.mpr ⟨?_,y⟩,rfl⟩;apply ahR;intro P;have:ow c (pr m (d x.2.1) i).j=none:=by unfold ow;simp[Array.getD,Y.sz,show¬(pr m (d x.2.1) i).j<m+1 by omega]
   rw[this]at y;cases y
 .have I:((iF L c m).map (·.2)).Perm (L.map (·.2)):=by rw[show(iF L c m).map (·.2)=_ from n];refine(Y.pm.filterMap _).trans ?_;have:=ain (L.map (·.2));simp only[agO,agT]at this;rw[this]
  have:=(I.map (·.1)).nodup_iff.mpr (by rw[aht];exact G.dst);rw[aht]at this;exact this
 .rw[show(iF L c m).map (·.2)=_ from n];refine(Y.pm.filterMap _).trans ?_;have:=ain (L.map (·.2));simp only[agO,agT]at this;rw[this]
end
section
variable{prog:Program}{w:World}{A:Around}{E:Value->Shared->Prop}{s:Shared}{knd:KeyKind prog w Int}
def yV(n:Nat){v:Value}(h:carriedByValue v=true):ofAClassStatement n v=pure false:=by cases v with|ref a=>simp[carriedByValue]at h|_=>first|rfl|(unfold ofAClassStatement;rfl)|(cases n<;>rfl)
def lO{ks:List Int}{a:Addr}{Q:Bool->Shared->Prop}(g:IsTupleKey knd s.heap ks a)(h:Q false s):wpAny (model prog w) A (ofAClassStatement 8 (.ref a)) Q E s:=by
 have l:=g.typeIs;obtain⟨o,c,n,k,_,j,i⟩:=g;unfold ofAClassStatement;refine agl (wpAny_typeOf l ?_);dsimp only;rw[ago (by decide)];refine agl (agp ?_);simp only[aiT,aha,ahM];refine agl (ahy k j ?_);dsimp only;refine agl ?_;show wpAny _ _ (forIn c _ _) _ _ s;rw[<-Array.forIn_toList];refine ajb _ (λrest r f=>r.1=none/\f=s/\∀v∈rest,carriedByValue v=true) _ ?_ ?_ _ _ ⟨rfl,rfl,i.byValue⟩;.rintro v rest r f⟨d,rfl,b⟩;rw[yV _ (b v agD)];refine agl (agp ?_);simp only[aha,ahM];exact agp ⟨rfl,rfl,λu e=>b u (agw _ e)⟩
 .rintro⟨p,m⟩f⟨d,rfl,_⟩;simp only at d;subst d;exact agp h
def items_int{ks:List Int}{vs:List Value}(b:ItemsAre (intKind prog w) ks vs):∀v∈vs,∃i t,v=Value.int i t:=by induction b with|nil=>intro v a;simp at a|@cons k v' ks vs h1 _ ih=>
 intro v a;rcases ags.mp a with rfl|a;.obtain⟨t,rfl⟩:=Value.isInt_shape h1;exact⟨_,_,rfl⟩
 .exact ih v a
def tI{ks:List Int}{a:Addr}{Q:Bool->Shared->Prop}(k:IsTupleKey (intKind prog w) s.heap ks a)(h:Q true s):wpAny (model prog w) A (hashByValue 8 (.ref a)) Q E s:=by
 have q:=k.typeIs;obtain⟨o,c,n,p,_,m,l⟩:=k;have d:=items_int l;unfold hashByValue;refine agl (ajd q F.slot_tuple_hash.lookup ?_);dsimp only;refine agl (ahy p m ?_);refine agl ?_;show wpAny _ _ (forIn c _ _) _ _ s;rw[<-Array.forIn_toList];refine ajb _ (λrest r j=>r.1=none/\j=s/\∀v∈rest,∃i t,v=Value.int i t) _ ?_ ?_ _ _ ⟨rfl,rfl,d⟩
 .rintro v rest r j⟨f,rfl,b⟩;obtain⟨i,t,rfl⟩:=b v agD;have e:hashByValue 7 (.int i t)=pure true:=by first|rfl|(unfold hashByValue;rfl)
  rw[e];refine agl (agp ?_);simp only[aiT,aha,ahM];exact agp ⟨rfl,rfl,λu g=>b u (agw _ g)⟩
 .rintro⟨y,x⟩j⟨f,rfl,_⟩;simp only at f;subst f;exact agp h
def yp{ks:List Int}{b:Addr}(i:IsTupleKey knd s.heap ks b){l:List Value}(m:∀v∈l,∃k a,v=.ref a/\IsTupleKey knd s.heap k a){Q:Bool->Shared->Prop}(h:Q false s):wpAny (model prog w) A (searchCouldBeSeen (.ref b) l) Q E s:=by
 unfold searchCouldBeSeen;refine agl ?_;refine ajb _ (λrest r f=>r.1=none/\f=s/\∀v∈rest,∃k a,v=.ref a/\IsTupleKey knd s.heap k a) _ ?_ ?_ _ _ ⟨rfl,rfl,m⟩
 .rintro v rest r f⟨d,rfl,c⟩;obtain⟨k,a,rfl,g⟩:=c v agD;have j:=λu(e:u∈rest)=>c u (agw _ e);dsimp only;split;.exact agp ⟨rfl,rfl,j⟩
  .refine agl (wpAny_eqIsQuiet_tuple i ?_);simp only[aiT,aha,ahM];refine agl (wpAny_eqIsQuiet_tuple g ?_);simp only[aiT,aha,ahM];refine agl (lO i ?_);simp only[aha,ahM];refine agl (lO g ?_);simp only[aha,ahM];exact agp ⟨rfl,rfl,j⟩
 .rintro⟨o,n⟩f⟨d,rfl,_⟩;simp only at d;subst d;exact agp h
end
section
variable{prog:Program}{w:World}{A:Around}{E:Value->Shared->Prop}{s:Shared}
noncomputable abbrev kH(prog:Program)(w:World):List Int->Int:=tupleKeyHash (intKind prog w)
def nt{a:List Int->Int}{L:List Row}{i:Nat}{x:Row}(e:L[i]?=some x):(ents a L)[i]?=some (a x.2.1,.ref x.2.2):=by simp[ents,e]
def xy{m:Nat}{L:List Row}{b a:Nat}{led:Bool}{i j:Nat}(e:(tab m L b a led).place[i]?=some j):∃x,L[i]?=some x/\x.1=j:=by simpa[tab,plc]using e
def ze{L:List Row}(c:(L.map (·.1)).Nodup){x y:Row}(d:x∈L)(f:y∈L)(e:x.1=y.1):x=y:=by induction L with|nil=>exact absurd d agI|cons z L ih=>
 rw[agP,ag1]at c;rcases ags.mp d with b|b<;>rcases ags.mp f with a|a;.rw[b,a]
 .exact(c.1 (agM.mpr ⟨y,a,by rw[<-e,b]⟩)).elim
 .exact(c.1 (agM.mpr ⟨x,b,by rw[e,a]⟩)).elim
 .exact ih c.2 b a
def rn{xs:List Nat}(h:Srt xs):xs.Nodup:=List.Pairwise.imp (λh=>agz h) h
def search{S b:Addr}{o:Obj}{ep m:Nat}{L:List Row}{c d:Nat}{led:Bool}{k:List Int}(hu:A.units<cLine)(hm:Mk m)(hl:L.length<=m)(ho:s.heap.get? S=some o)(hd:o.data=.set (ents (kH prog w) L) ep (tab m L c d led))(G:Good (kH prog w) m L)(hK:∀x∈L,IsTupleKey (intKind prog w) s.heap x.2.1 x.2.2)(hk:IsTupleKey (intKind prog w) s.heap k b){Q:SetFound->Shared->Prop}(h1:k∈L.map (·.2.1)->Q (.there none) s)(h2:∀n,(pr m (kH prog w k) n).j∉plc L->(pr m (kH prog w k) n).j<=m->(∀i,i<n->(pr m (kH prog w k) i).j∈plc L)->k∉L.map (·.2.1)->Q (.free (pr m (kH prog w k) n).j false) s):∀(N fuel n:Nat)(st:Option SetTable.Probe),(pr m (kH prog w k) N).j∉plc L->N<10*SetTable.turns m->(∀i,(pr m (kH prog w k) i).j<=m)->n<=N->N-n<fuel->st.getD ((tab m L c d led).probeStart (kH prog w k))=pr m (kH prog w k) n->(∀i,i<n->∃x∈L,x.1=(pr m (kH prog w k) i).j/\x.2.1≠k)->wpAny (model prog w) A (setSearchFrom S (.ref b) (kH prog w k) true fuel st) Q E s:=by intro N fuel;induction fuel with|zero=>intro n st _ _ _ _ h;exact absurd h (ahf _)|succ fuel ih=>
  intro n st X hT H hn a3 a0 D;have r:Srt (tab m L c d led).place.toList:=by simpa[tab]using G.srt
  have J:(tab m L c d led).place.toList=plc L:=by simp[tab]
  obtain⟨l,p1,p2,p3,p4⟩:=oK (t:=tab m L c d led) r rfl (λi=>((ents (kH prog w) L)[i]?.map (·.1)).getD 0) (kH prog w k) (10*SetTable.turns m) n N hn (by omega) (by rw[J];exact X);have a:∀i,i<l->∃x∈L,x.1=(pr m (kH prog w k) i).j/\x.2.1≠k:=λi Y=>by
   by_cases z:i<n;.exact D i z
   .obtain⟨q,K,U⟩:=p3 i (by omega) Y;obtain⟨x,g,e⟩:=xy K;refine⟨x,ahu g,e,λek=>U ?_⟩;show((ents (kH prog w) L)[q]?.map (·.1)).getD 0=_;rw[nt g,ek];rfl
  have I:∀i,i<l->(pr m (kH prog w k) i).j∈plc L:=λi Y=>by obtain⟨x,g,e,_⟩:=a i Y;exact agM.mpr ⟨x,g,e⟩
  unfold setSearchFrom;refine agl (ah2 ho hd (dV _ hl) ?_);dsimp only;rw[agq (by rcases hm with rfl|rfl<;>simp[SetTable.gaveWay,tab])];rw[a0];have a2:∀f,SetTable.probe (tab m L c d led) f (kH prog w k) (pr m (kH prog w k) n)=SetTable.probe.go (tab m L c d led) f (kH prog w k) (10*SetTable.turns m) (pr m (kH prog w k) n):=λf=>rfl;generalize hg:SetTable.probe (tab m L c d led) _ (kH prog w k) (pr m (kH prog w k) n)=R;rcases p4 with⟨u,q2⟩|⟨i,u,q2,q3⟩
  .obtain rfl:R=some (.empty (pr m (kH prog w k) l).j none):=hg.symm.trans q2;dsimp only;rw[J]at u;refine agp (h2 l u (H _) I λz=>?_);obtain⟨x,g,rfl⟩:=agM.mp z;obtain⟨q,K,U⟩:=G.rch x g;rcases aiX q l with P|a1|Z;.obtain⟨y,O,e3,e4⟩:=a q P;exact e4 (by rw[ze (rn G.srt) O g (e3.trans K)])
   .subst a1;exact u (by show(pr m _ _).j∈_;rw[K];exact agM.mpr ⟨x,g,rfl⟩)
   .exact u (U l Z)
  .obtain rfl:R=some (.candidate (pr m (kH prog w k) l).j i (pr m (kH prog w k) (l+1))):=hg.symm.trans q3;dsimp only;obtain⟨x,g,ej⟩:=xy u;have p:x∈L:=ahu g;have M:=hK x p;have seen:∀{Q':Bool->Shared->Prop},Q' false s->wpAny (model prog w) A (searchCouldBeSeen (.ref b) (((ents (kH prog w) L).filter (·.1==kH prog w k)).toList.map (·.2))) Q' E s:=λhq=>by refine yp hk (λv hv=>?_) hq;simp only[agM,Array.mem_toList_iff,Array.mem_filter]at hv;obtain⟨e,⟨he,_⟩,rfl⟩:=hv;simp only[ents,List.mem_toArray,agM]at he;obtain⟨y,O,rfl⟩:=he;exact⟨_,_,rfl,hK y O⟩
   rw[nt g];dsimp only;have C:(tab m L c d led).sameMemory (tab m L c d led).moves (tab m L c d led).mask=some true:=by simp[SetTable.sameMemory]
   have B:(tab m L c d led).slot (pr m (kH prog w k) l).j=.live i:=lj r u;have a4:l≠N:=λe=>X (by subst e;exact agM.mpr ⟨x,p,ej⟩);split;case' isTrue=>refine agl (seen ?_);rw[agq agK]
   all_goals
    refine agl (ahn (wpAny_eqBool_tuple hu M hk ?_));refine agl (ah2 ho hd (dV _ hl) ?_);dsimp only;by_cases e:x.2.1=k;.rw[ahD e,ago (show(true&&true)=true from rfl)];exact agp (h1 (agM.mpr ⟨x,p,e⟩))
    .rw[agX e,agq (show¬(true&&false)=true by decide),C];dsimp only;rw[ago rfl,B];dsimp only;rw[nt g];dsimp only;refine agl (wpAny_isSame_ref_self ?_);rw[ago rfl];refine agl (agp ?_);dsimp only;rw[agq (by decide)];refine ih (l+1) _ X hT H (by omega) (by omega) rfl λj hj=>?_;by_cases T:j=l;.subst T;exact⟨x,p,ej,e⟩
     .exact a j (by omega)
end
theorem abc(m:Nat)(h:Int):∀n,(pr m h n).j+(pr m h n).more<=m
|0=>by have:SetTable.bits h%(m+1)<m+1:=ajo _ (ai9 _);show SetTable.bits h%(m+1)+(SetTable.runEnd m (SetTable.bits h%(m+1))-SetTable.bits h%(m+1))<=m;unfold SetTable.runEnd;split<;>omega|n+1=>by
 have a:=abc m h n;show((T0 m).advance (pr m h n)).j+((T0 m).advance (pr m h n)).more<=m;unfold SetTable.advance;split;.dsimp only;omega
 .dsimp only;have:(SetTable.leap (T0 m).mask (pr m h n).i (pr m h n).perturb).1<m+1:=ajo _ (ai9 _);show(SetTable.leap (T0 m).mask (pr m h n).i (pr m h n).perturb).1+(SetTable.runEnd m (SetTable.leap (T0 m).mask (pr m h n).i (pr m h n).perturb).1-(SetTable.leap (T0 m).mask (pr m h n).i (pr m h n).perturb).1)<=m;unfold SetTable.runEnd;split<;>omega
section
variable{prog:Program}{w:World}{A:Around}{E:Value->Shared->Prop}{s:Shared}
def acx(prog:Program)(w:World)(h:Heap)(S:Addr)(L:List Row):Prop:=∃o b m d c a,h.get? S=some o/\o.ExactSet/\o.data=.set (ents (kH prog w) L) b (tab m L d c a)/\Good (kH prog w) m L/\(m=7/\L.length<=4\/m=31/\L.length<=18)
def sS{h h':Heap}{ks:List Int}{a S:Addr}{o:Obj}{es:Array (Int×Value)}{ep:Nat}{t:SetTable}(x:IsTupleKey (intKind prog w) h ks a)(k:h.get? S=some o)(j:o.data=.set es ep t)(hs:Heap.SameBut S h h'):IsTupleKey (intKind prog w) h' ks a:=by
 obtain⟨f,b,n,d,i,c,g⟩:=x;have e:a≠S:=by rintro rfl;obtain rfl:f=o:=agS (d.symm.trans k);rw[j]at c;exact nomatch c
 exact⟨f,b,n,(hs.2 a e).trans d,i,c,g⟩
def find{S b:Addr}{o:Obj}{ep m:Nat}{L:List Row}{h t:Nat}{led:Bool}{k:List Int}(u:A.units<cLine)(c:Mk m)(e:L.length<=m)(v:s.heap.get? S=some o)(l:o.data=.set (ents (kH prog w) L) ep (tab m L h t led))(G:Good (kH prog w) m L)(hK:∀x∈L,IsTupleKey (intKind prog w) s.heap x.2.1 x.2.2)(q:IsTupleKey (intKind prog w) s.heap k b){Q:SetFound->Shared->Prop}(p:k∈L.map (·.2.1)->Q (.there none) s)(j:∀n,(pr m (kH prog w k) n).j∉plc L->(pr m (kH prog w k) n).j<=m->(∀i,i<n->(pr m (kH prog w k) i).j∈plc L)->k∉L.map (·.2.1)->Q (.free (pr m (kH prog w k) n).j false) s):wpAny (model prog w) A (setSearch S (.ref b) (kH prog w k) true) Q E s:=by
 obtain⟨r,y,a⟩:=jA c (kH prog w k) (P:=plc L) (by simpa[plc]using e);have g:=aa6 m (kH prog w k) r;have d:m<=31:=by rcases c with rfl|rfl<;>decide
 unfold setSearch;exact search u c e v l G hK q p j (ps m (kH prog w k) r) 100000 0 none (by rw[abb];exact a) (by unfold SetTable.turns;omega) λi=>by have:=abc m (kH prog w k) i;omega (agV _) (by omega) rfl λi f=>absurd f (ahf _)
def add{S b:Addr}{L:List Row}{k:List Int}(hu:A.units<cLine)(T:acx prog w s.heap S L)(hK:∀x∈L,IsTupleKey (intKind prog w) s.heap x.2.1 x.2.2)(O:IsTupleKey (intKind prog w) s.heap k b)(hl:L.length<18){Q:Bool->Shared->Prop}(h:∀B f r,Heap.SameBut S s.heap B->acx prog w B S f->(if k∈L.map (·.2.1)then(f.map (·.2)).Perm (L.map (·.2))else(f.map (·.2)).Perm ((k,b)::L.map (·.2)))->Q r {s with heap:=B}):wpAny (model prog w) A (setAddHashed S (.ref b) (kH prog w k)) Q E s:=by
 obtain⟨o,N,m,c,d,a,q,p,l,G,g⟩:=T;have hm:Mk m:=by rcases g with⟨rfl,_⟩|⟨rfl,_⟩;exact .inl rfl;exact .inr rfl
 have a0:L.length+1<=m:=by rcases g with⟨rfl,_⟩|⟨rfl,_⟩<;>omega
 unfold setAddHashed;refine ahn ?_;unfold setAddHashedIn;refine agl (ah2 q l (dV _ (by omega)) ?_);dsimp only;rw[agq (by simp[byScan,Value.scannable])];refine agl (find hu hm (by omega) q l G hK O (λM=>?_) λn Y Z q3 U=>?_);.dsimp only;refine agp ?_;have:=h s.heap L false (.refl ..) ⟨o,N,m,c,d,a,q,p,l,G,g⟩ (by rw[ago M]);exact this
 .dsimp only;refine agl (ah2 q l (dV _ (by omega)) ?_);dsimp only;rw[yA _ k b];dsimp only;have C:=wh G b rfl q3 Y Z U;have hp:(tab m (ins L (pr m (kH prog w k) n).j k b) c d a).plain=true:=rfl;rw[hp,ago rfl];refine agl (tI O ?_);rw[ago rfl,wy];have P:∀{n:Nat},n<=32->n<=sizeLine:=λhn=>by rw[ajl];omega
  have y:=zk L (pr m (kH prog w k) n).j k b;have e:=kn L (pr m (kH prog w k) n).j k b;generalize hL1:ins L (pr m (kH prog w k) n).j k b=L1 at C y e⊢;refine agl (wpAny_storeSet_of q l ?_ (P (by rw[dR];omega)));have z:(s.heap.update S (Obj.putSet (ents (kH prog w) L1) (tab m L1 c d a))).get? S=some {o with data:=.set (ents (kH prog w) L1) (N+1) (tab m L1 c d a)}:=by have:=ahJ (Obj.putSet (ents (kH prog w) L1) (tab m L1 c d a)) q (by rw[putSet_of _ _ l];rfl);rw[putSet_of _ _ l]at this;exact this
  have t:=aid s.heap S (Obj.putSet (ents (kH prog w) L1) (tab m L1 c d a));have K:(tab m L1 c d a).tooFull=decide (L1.length*5 ≥ m*3):=by simp[SetTable.tooFull,SetTable.fill,tab,plc]
  simp only[Bool.not_false,Bool.true_and];rw[K];have u:¬(k∈L.map (·.2.1)):=U;by_cases i:L1.length*5 ≥ m*3
  .rw[ago (by simpa using i)];have H:m=7/\L1.length=5:=by rcases g with⟨rfl,_⟩|⟨rfl,_⟩<;>omega
   obtain⟨rfl,X⟩:=H;have J:(ents (kH prog w) L).size+1=5:=by rw[dR];omega
   rw[J];obtain⟨f,j,e1,e2,G',R⟩:=vw (m:=31) (.inr rfl) (kH prog w) C (by omega) c (d+1) a;have D:f.length=5:=by have:=R.length_eq;simpa[X]using this
   unfold setRelay;refine agl (agl (ah2 z rfl (dV _ (by omega)) ?_));dsimp only;rw[agq (by rw[ajl];decide)];have v:(tab 7 L1 c d a).relaid ((ents (kH prog w) L1).map (·.1)) (SetTable.grown 5)=some (tab 31 f c (d+1) a,j):=e1;rw[v];refine agl ?_;show wpAny (model prog w) A (ite _ _ _) _ _ _;rw[e2];rw[agq (by simp[dR,D,X])];refine agp ?_;dsimp only;refine wpAny_storeSet_of z rfl ?_ (P (by rw[dR];omega));have I:((s.heap.update S (Obj.putSet (ents (kH prog w) L1) (tab 7 L1 c d a))).update S (Obj.putSet (ents (kH prog w) f) (tab 31 f c (d+1) a))).get? S=some {o with data:=.set (ents (kH prog w) f) (N+1+1) (tab 31 f c (d+1) a)}:=ahJ (Obj.putSet (ents (kH prog w) f) (tab 31 f c (d+1) a)) z rfl;refine agp (h _ f true (t.trans (aid _ S _)) ⟨_,_,31,c,d+1,a,I,p,rfl,G',.inr ⟨rfl,by omega⟩⟩ ?_);rw[agq u];exact R.trans (e.map _)
  .rw[agq (by simpa using i)];refine agp (h _ L1 true t ⟨_,_,m,c,d,a,z,p,rfl,C,?_⟩ ?_)
   .rcases g with⟨rfl,_⟩|⟨rfl,_⟩;.exact .inl ⟨rfl,by omega⟩
    .exact .inr ⟨rfl,by omega⟩
   .rw[agq u];exact e.map _
end
noncomputable def dd:List (List Int)->List (List Int):=List.foldl (λa k=>if k∈a then a else k::a) []
def zH(l:List (List Int))(k:List Int):dd (l++[k])=if k∈dd l then dd l else k::dd l:=by unfold dd;rw[List.foldl_append];rfl
def xT(l:List (List Int)):(dd l).length<=l.length:=by
 suffices h:∀(l a:List (List Int)),(l.foldl (λa k=>if k∈a then a else k::a) a).length<=a.length+l.length by simpa[dd]using h l []
 intro l;induction l with|nil=>intro a;simp|cons k l ih=>intro a;rw[aiK];refine agy (ih _) ?_;split<;>simp only[agJ]<;>omega
section
variable{prog:Program}{w:World}{A:Around}{R:Result->Shared->Prop}{I:Addr}{fp wr:List Addr}{G:Array GenState->Array GenState->Prop}{n:Nat}{P:Nat->Value->Prop}{St:Nat->Shared->Prop}
structure Run(prog:Program)(w:World)(S:Addr)(wr:List Addr)(ks:List (List Int×Addr))(i:Nat)(s:Shared)(L:List Row):Prop where
 set:acx prog w s.heap S L
 pm:(L.map (·.2.1)).Perm (dd ((ks.take i).map (·.1)))rows:∀x∈L,IsTupleKey (intKind prog w) s.heap x.2.1 x.2.2/\x.2.2∉wr
 keys:∀x∈ks,IsTupleKey (intKind prog w) s.heap x.1 x.2/\x.2∉wr
def sT{h h':Heap}{ks:List Int}{a:Addr}(x:IsTupleKey (intKind prog w) h ks a)(e:∀o,h.get? a=some o->h'.get? a=some o):IsTupleKey (intKind prog w) h' ks a:=by obtain⟨o,it,n,c,b⟩:=x;exact⟨o,it,n,e o c,b⟩
def Run.moved{S:Addr}{ks:List (List Int×Addr)}{i:Nat}{s s':Shared}{L:List Row}(u:Run prog w S wr ks i s L)(j:S∉wr)(g:Moved wr G s s'):Run prog w S wr ks i s' L:=by refine⟨?_,u.pm,λx f=>⟨sT (u.rows x f).1 λo e=>g.heap _ _ (u.rows x f).2 e,(u.rows x f).2⟩,λx f=>⟨sT (u.keys x f).1 λo e=>g.heap _ _ (u.keys x f).2 e,(u.keys x f).2⟩⟩;obtain⟨o,a,b,c,d,e,h,rest⟩:=u.set;exact⟨o,a,b,c,d,e,g.heap S _ j h,rest⟩
def aem(W:WalksS prog w A.in1 I fp wr G n P St)(S:Addr)(H:S∉fp)(ks:List (List Int×Addr))(hn:ks.length=n)(hv:∀i v,P i v->∃x,ks[i]?=some x/\v=.ref x.2)(D:n<=18)(hu:A.in1.units<cLine):∀(d i:Nat)(s:Shared)(L:List Row),n-i=d->i<=n->St i s->Run prog w S wr ks i s L->(∀u C,Moved (S::wr) G s u->Run prog w S wr ks n u C->R (.ok (.ret .none)) u)->
 codeAny (model prog w) A (.builtin "set.update.loop" ⟨[.ref S,.ref I],[]⟩) R s:=by have N:S∉wr:=λh=>H (W.sub _ h);have j:∀b∈wr,b∈S::wr:=λb D=>agw _ D;intro d;induction d with|zero=>
 intro i s L hk hi t U Y;obtain rfl:i=n:=by omega
 refine aif aio ?_;rw[Around.under_plainId ahH _];show wpAny _ A.in1 (pyNext (.ref I)>>=_) _ _ s;refine agl (W.done s _ _ t λu O=>?_);show wpAny _ A.in1 (ret Value.none) _ _ u;exact agp (Y u L (O.mono j) (U.moved N O))|succ d ih=>
  intro i s L hk hi t U Y;have J:i<n:=by omega
  refine aif aio ?_;rw[Around.under_plainId ahH _];show wpAny _ A.in1 (pyNext (.ref I)>>=_) _ _ s;refine agl (W.item i s _ _ J t λv K hP E O=>?_);obtain⟨x,Z,rfl⟩:=hv i v hP;have f:=U.moved N O;have M:=(f.keys x (ahu Z)).1;show wpAny _ A.in1 (holding [Value.ref x.2] (setAdd S (.ref x.2))>>=_) _ _ K;refine agl (ahn ?_);unfold setAdd;refine ahn ?_;refine agl (wpAny_pyHash_tuple hu M ?_);have hL:L.length<18:=by have Q:=U.pm.length_eq;have m:=xT ((ks.take i).map (·.1));simp only[agO,ah7]at Q m;omega
  refine add (s:={K with toks:=K.toks+(x.1.length+1)}) hu f.set (λy B=>(f.rows y B).1) M hL λh' C r l T' g=>?_;have p:(ks.take (i+1)).map (·.1)=(ks.take i).map (·.1)++[x.1]:=by rw[List.take_add_one,Z];simp
  have k:x.1∈L.map (·.2.1)↔ x.1∈dd ((ks.take i).map (·.1)):=U.pm.mem_iff;obtain⟨o0,e0,m0,f0,v0,l0,a1,_,a0,_⟩:=f.set;have kp:∀{kk:List Int}{a:Addr},IsTupleKey (intKind prog w) K.heap kk a->IsTupleKey (intKind prog w) h' kk a:=λz=>sS z a1 a0 l;have T:(C.map (·.2.1)).Perm (dd ((ks.take (i+1)).map (·.1))):=by
   rw[p,zH];by_cases c:x.1∈L.map (·.2.1);.rw[ago c]at g;rw[ago (k.mp c)];have:=g.map (·.1);rw[aht,aht]at this;exact List.Perm.trans this U.pm
   .rw[agq c]at g;rw[agq λz=>c (k.mpr z)];have:=g.map (·.1);rw[agP,aht,aht]at this;exact List.Perm.trans this (U.pm.cons x.1)
  have q:∀y∈C,IsTupleKey (intKind prog w) h' y.2.1 y.2.2/\y.2.2∉wr:=λy B=>by
   have Q:y.2∈C.map (·.2):=agM.mpr ⟨y,B,rfl⟩;have m:y.2∈L.map (·.2)\/y.2=x:=by
    by_cases c:x.1∈L.map (·.2.1);.rw[ago c]at g;exact .inl (g.mem_iff.mp Q)
    .rw[agq c]at g;rcases ags.mp (g.mem_iff.mp Q)with e|e;.exact .inr e
     .exact .inl e
   rcases m with m|m;.obtain⟨z,hz,e⟩:=agM.mp m;have:=f.rows z hz;rw[<-e];exact⟨kp this.1,this.2⟩
   .rw[m];have:=f.keys x (ahu Z);exact⟨kp this.1,this.2⟩
  refine agp ⟨plainId_quiet ahH _,ih (i+1) _ C (by omega) J (W.frame _ K _ _ E (ahE _ _) λb D o e=>?_) ⟨T',T,q,λy B=>⟨kp (f.keys y B).1,(f.keys y B).2⟩⟩ λs2 L2 X U2=>?_⟩;.rw[l.2 b λh:b=S=>H (by rw[<-h];exact D)];exact e
  .refine Y s2 L2 (Moved.trans W.gtrans ((O.mono j).then_heap (ahE _ _) λb o D e=>?_) X) U2;rw[l.2 b λh:b=S=>D (by rw[h];exact agD)];exact e
end
section
variable{prog:Program}{w:World}{A:Around}{E:Value->Shared->Prop}{s:Shared}
noncomputable def mn(led:Bool):Obj:={cls:=.type "set",dict:=none,data:=.set #[] 0 (.fresh 0 0 led)}
def wg(b:List Int->Int):Good b 7 []:=⟨.nil,λx a=>absurd a agI,λx a=>absurd a agI,ajm⟩
def adD{h:Heap}{S:Addr}{led:Bool}(e:h.get? S=some (mn led)):acx prog w h S []:=⟨mn led,0,7,0,0,led,e,⟨rfl,rfl,rfl⟩,rfl,wg _,.inl ⟨rfl,agV _⟩⟩
def Left(prog:Program)(w:World)(s:Shared)(ks:List (List Int×Addr))(h':Heap):Prop:=(∃L,acx prog w h' s.heap.objs.size L/\L.length=(dd (ks.map (·.1))).length)/\∀b o,b<s.heap.objs.size->s.heap.get? b=some o->h'.get? b=some o
def tx{l:Addr}{items:Array Value}{ks:List (List Int×Addr)}{led:Bool}(H:A.handled=none)(hu:A.units+32<cLine)(S:s.heap.IsList l items)(C:items.toList=ks.map λx=>Value.ref x.2)(z:∀x∈ks,IsTupleKey (intKind prog w) s.heap x.1 x.2)(u:ks.length<=18):wpAny (model prog w) A (Builtin.«set.__init__» ⟨[.ref s.heap.objs.size,.ref l],[]⟩) (λfin n=>∃r,fin=.done (.ret r)/\r=.none/\∃j tk,n={s with heap:=j,toks:=tk}/\Left prog w s ks j) E {s with heap:=s.heap.push (mn led)}:=by
 have I:(s.heap.push (mn led)).get? s.heap.objs.size=some (mn led):=agA _ rfl;obtain⟨T,c,d,D,f⟩:=S;obtain⟨Z,od,N,p⟩:=T;simp only at d f;subst d;subst f;have Q:(s.heap.push (mn led)).get? l=some {cls:=.type "list",dict:=od,data:=.seq items D,slots:=p}:=agm _ c;have n1:=F.sub_list_set;have n2:=F.sub_list_frozenset;have Y:(Value.type "list"==Value.type "dict")=false:=by decide
 have y:(s.heap.push (mn led)).IsList l items:=⟨_,Q,rfl,D,rfl⟩;unfold Builtin.«set.__init__» noKeywords Builtin.Frozenset.updateFrom;generalize hPI:pyIter=PI;wp_walk;subst hPI;refine aix y (agl (wpAny_runValue ?_));have g:l<s.heap.objs.size:=agt c;have sz:(s.heap.push (mn led)).objs.size=s.heap.objs.size+1:=ahS ..;have q:l≠(s.heap.push (mn led)).objs.size:=by rw[sz];exact agz (aiv g)
 have J:items.size=ks.length:=by have:=ah5 List.length C;simpa using this
 have m:∀x∈ks,x.2<s.heap.objs.size:=λx a=>by obtain⟨o,_,_,P,_⟩:=z x a;exact agt P
 have B:∀(b:Addr)(o:Obj)(it:Obj),s.heap.get? b=some o->((s.heap.push (mn led)).push it).get? b=some o:=λb o it e=>agm _ (agm _ e);have W:=(Walks.list (prog:=prog) (w:=w) (A:=A.in1) (by simpa using H) _ l q items).toS;have t:s.heap.objs.size∉[(s.heap.push (mn led)).objs.size,l]:=by rw[sz];simp only[ags,agI,ah1,not_or];exact⟨agz (ah8 _),ahb g⟩
 refine aem W s.heap.objs.size t ks J.symm (λi v R=>?_) (by omega) (by show A.units+1<cLine;omega) (items.size-0) 0 _ [] rfl (agV _) ⟨⟨_,agA _ rfl,rfl,rfl⟩,y.push _⟩ ⟨adD (led:=led) (agm _ I),?_,λx a=>absurd a agI,λx a=>⟨sT (z x a) λo e=>B _ _ _ e,?_⟩⟩ λn O k U=>?_;.have h:items[i]?=some v:=R;rw[<-Array.getElem?_toList,C,agT]at h;obtain⟨x,a,e⟩:=agR.mp h;exact⟨x,a,e.symm⟩
 .exact .nil
 .have:=m x a;rw[sz];simp only[ags,agI,ah1];exact agz (aiv this)
 .obtain⟨j,X,G,K,M⟩:=n;obtain rfl:X=s.gens:=k.gens;obtain rfl:G=s.drawn:=k.drawn;obtain rfl:M=s.os:=k.os;refine agp (agp ⟨_,rfl,rfl,j,K,rfl,⟨O,U.set,?_⟩,λb o u e=>?_⟩);.have:=U.pm.length_eq;rw[List.take_of_length_le (by omega)]at this;simpa using this
  .refine k.heap b o ?_ (B _ _ _ e);rw[sz];simp only[ags,agI,ah1,not_or];exact⟨agz u,agz (aiv u)⟩
def uE{l:Addr}{items:Array Value}{ks:List (List Int×Addr)}{Q:Value->Shared->Prop}(i:A.handled=none)(M:A.units+64<cLine)(u:s.heap.IsList l items)(o:items.toList=ks.map λx=>Value.ref x.2)(n:∀x∈ks,IsTupleKey (intKind prog w) s.heap x.1 x.2)(q:ks.length<=18)(h:∀b tk,Left prog w s ks b->Q (.ref s.heap.objs.size) {s with heap:=b,toks:=tk}):wpAny (model prog w) A (call (.type "set") [.ref l]) Q E s:=by
 obtain⟨C,I,K⟩:=ahU.mro;have N:=ahU.made;have B:=ahU.sub;have z:=ahU.notType;have D:=ahU.canCreate;have J:=F.typeCall_set_1 (.ref l);refine ah6 (codeAny_of_tree ?_);show wpAny (model prog w) _ (callAny (.type "set") _) _ _ s;refine agp ⟨ail _ (by decide+kernel),aif F.entry_type_call ?_⟩;rw[Around.under_plain (weight_type_call_type "set" [.ref l] []) rfl];repeat(any_goals(first|assumption|wp_step))
 refine ahT (code_set_new_1 (.ref l) (E:=E) (Q₁:=λv f=>∃led,v=.ref s.heap.objs.size/\f={s with heap:=s.heap.push (mn led)}) λled=>⟨led,rfl,rfl⟩) λr f c=>?_;cases r with|error e=>exact c|ok fl=>cases fl with
 |ret v=>
   obtain⟨led,rfl,rfl⟩:=c;have j:(s.heap.push (mn led)).get? s.heap.objs.size=some (mn led):=agA _ rfl;have y:Shared.TypeIs {s with heap:=s.heap.push (mn led)} (.ref s.heap.objs.size) "set":=⟨_,j,rfl⟩;have G:=ahU.init.lookup;have H:=ahU.init.bind (.ref s.heap.objs.size);repeat(any_goals(first|assumption|wp_step))
   refine ahT (codeAny_call_builtin (R:=wants (λr g=>r=.none/\∃b tk,g={s with heap:=b,toks:=tk}/\Left prog w s ks b) E) ahU.init.plain F.entry_set_init (check_set_init_1 y ?_)) λp g a=>?_
   .refine agN (tx (E:=E) (led:=led) (by simpa using i) (by show A.units+1+1+32<cLine;omega) u o n q) (λfin m d=>?_) λe m k=>?_;.obtain⟨r,rfl,d⟩:=d;exact d
    .exact k
   .cases p with|error e=>exact a|ok f2=>cases f2 with
  |ret v=>
   obtain⟨rfl,b,tk,rfl,t⟩:=a;repeat(any_goals(first|assumption|wp_step))
   exact h _ _ t|_=>exact a.elim
 |_=>exact c.elim
end
end ST
namespace WL
open PySem
noncomputable def intsOf:List W->Option (List Int)|[]=>some []|.int n::r=>(intsOf r).map (n::.)|_=>none
noncomputable def keysOf:List W->Option (List (List Int))|[]=>some []|.tup ws::r=>(intsOf ws).bind λk=>(keysOf r).map (k::.)|_=>none
noncomputable def dd:List (List Int)->List (List Int):=List.foldl (λa k=>if k∈a then a else k::a) []
def nR:W->Res W
|.lst ws=>match keysOf ws with|some ks=>if ks.length<=18 then .ok (.int (dd ks).length)else .bad|none=>.bad
|_=>.bad
def kC(e:EF):EF:=λσ=>(e σ).bind nR
end WL
namespace WS
open PySem PySem.Spec PyProof.Rows L2
open WL(Res Sl Ws EF TF AF LF GF GsF SF Out)
noncomputable def adi(a:Addr)(n:Nat):HO:=.ext λh=>∃(o:Obj)(b:Array (Int×Value))(c:Nat)(t:SetTable),h.get? a=some o/\o.ExactSet/\o.data=.set b c t/\t.fits b.size=true/\b.size=n
section
variable{X:Cx}{B:Bx}
theorem jD{P:Program}{w:World}:∀{k:List Int}{its:List Value},Vals (k.map .int) its->ItemsAre (intKind P w) k its|[],_,.nil=>.nil|n::k,_,.cons ⟨t,rfl⟩ r=>.cons (intKind_is P w n t) (jD r)
theorem lG:∀{bs:List Addr}{its:List Value},Vals (bs.map .ref) its->its=bs.map .ref|[],_,.nil=>rfl|b::bs,_,.cons (b:=u) h r=>by cases show u=Value.ref b from h;rw[lG r];rfl
def uF(M:X.calm=true)(R:X.A.units+64<cLine):bu X (.type "set") (λp H Q=>∃(a:Addr)(ks:List (List Int×Addr)),p=[.ref a]/\SqL X.K H a (ks.map λx=>V.ref x.2)/\(∀x∈ks,SqT X.K H x.2 (x.1.map .int))/\ks.length<=18/\∀l,H l=none->Q (.ref l) (upd H l (adi l (ST.dd (ks.map (·.1))).length))):=by
 intro w s σ H p us Q I r h;obtain⟨a,ks,rfl,hL,P,hz,q⟩:=h;obtain⟨u,rfl,rx⟩:=vals1 r;cases show u=Value.ref a from rx;obtain⟨c,U,pl,_⟩:=I.list hL;have S:c=ks.map λx=>Value.ref x.2:=by have:=lG (bs:=ks.map (·.2)) (by simpa[aiY]using U);simpa[aiY]using this
 refine ST.uE (items:=c.toArray) (ks:=ks) (I.ok.hd M) R pl.isList (by simpa using S) (λx A=>?_) hz λZ tk hl=>?_;.obtain⟨C,K,y,_⟩:=I.tuple (P x A);obtain⟨o,J,p4,n,p5⟩:=y;exact⟨o,_,n,J,p4,p5,jD (by simpa using K)⟩
 .obtain⟨⟨L,O,Y⟩,E⟩:=hl;obtain⟨o,N,m,fg,mv,D,v,f,z,G,d⟩:=O;have i:∀b o,s.heap.get? b=some o->Z.get? b=some o:=λb o e=>E b o (agt e) e;refine⟨.ref s.heap.objs.size,_,I.laid (t':=tk) (o:=adi s.heap.objs.size (ST.dd (ks.map (·.1))).length) i (agx _) ⟨⟨o,_,N,_,v,f,z,ST.dV _ ?_,by rw[ST.dR];exact Y⟩,⟨o,v⟩,λh1 h2⟨k,es,j,t,g1,T⟩g=>⟨k,es,j,t,g k g1,T⟩⟩,rfl,q _ (I.hok.fresh (agx _))⟩;rcases d with⟨rfl,_⟩|⟨rfl,_⟩<;>omega
def uG:bu X (.builtin "len") λc H Q=>∃(a:Addr)(n:Nat),c=[.ref a]/\H a=some (adi a n)/\n<=1000/\Q (.int n) H:=by intro d s σ H c v Q I r h;obtain⟨a,n,rfl,e,l,q⟩:=h;obtain⟨u,rfl,i⟩:=vals1 r;cases show u=Value.ref a from i;obtain⟨⟨o,m,p,t,k,b,g,f,j⟩,_⟩:=show bS X.prog X.w H s.heap a (adi a n)from I.hok a _ e;exact call_len_set k b g f (by omega) ⟨.int n,H,I.tok _,⟨_,by rw[j]⟩,q⟩
def sQ{K:W.Frag}{F:Hp}:∀{ws:List VW}{ks:List (List Int)}{vs:List V},WL.keysOf ws=some ks->RWs K F ws vs->∃bs:List Addr,vs=bs.map V.ref/\bs.length=ks.length/\∀x∈ks.zip bs,SqT K F x.2 (x.1.map .int):=by
 have g:∀{ws:List VW}{k:List Int}{vs:List V},WL.intsOf ws=some k->RWs K F ws vs->vs=k.map V.int:=by intro ws;induction ws with|nil=>intro k vs e r;cases e;simpa[RWs]using r|cons w ws ih=>intro k vs e r;cases w with|int n=>simp only[WL.intsOf]at e;obtain⟨k',o,rfl⟩:=agR.mp e;simp only[RWs,RW]at r;obtain⟨v,f,rfl,rfl,d⟩:=r;rw[ih o d];rfl|_=>simp[WL.intsOf]at e
 intro ws;induction ws with|nil=>intro ks vs e r;cases e;simp only[RWs]at r;exact⟨[],r,rfl,λx a=>absurd a agI⟩|cons w ws ih=>
 intro ks vs e r
 cases w with|tup us=>
  simp only[WL.keysOf]at e;obtain⟨k,q,p⟩:=Option.bind_eq_some_iff.mp e;obtain⟨l,h,rfl⟩:=agR.mp p;simp only[RWs,RW]at r;obtain⟨v,f,rfl,⟨b,s,rfl,j,i⟩,d⟩:=r;obtain⟨bs,rfl,m,c⟩:=ih h d;have:=g q i;subst this;refine⟨b::bs,rfl,by simp[m],λx a=>?_⟩;rw[List.zip_cons_cons]at a;rcases ags.mp a with rfl|a;.exact j
  .exact c x a|_=>simp[WL.keysOf]at e
def qK{a:Expr}{ta:EF}{p i pos b:Pos}(s:B.K=X.K)(C:X.calm=true)(K:X.A.units+64<cLine)(J:X.mg "len"=none)(o:X.mg "set"=none)(h:PE X a (lo B ta))(z:Gl X "len":=by rfl)(n:Gl X "set":=by rfl)(hs:starEach [a] X.env=(false,eval a X.env)::starEach [] X.env:=by rfl)(E:(backTo b (starEach [] X.env)).any (·.1)=false:=by rfl)(f:starEach [Expr.Call (.Name "set" i) [a] [] b] X.env=(false,eval (.Call (.Name "set" i) [a] [] b) X.env)::starEach [] X.env:=by rfl)(m:(backTo pos (starEach [] X.env)).any (·.1)=false:=by rfl):PE X (.Call (.Name "len" p) [.Call (.Name "set" i) [a] [] b] [] pos) (lo B (WL.kC ta)):=PE.imp (oM uG z J ahz (bO (lJ (uF C K) n o boot_set (bO h dM hs) (by decide) (by decide) hs E) dM f) (by decide) (by decide) f m) λw H Q⟨σ,F,R,q⟩=>by refine⟨σ,F,R,?_⟩;have q:=Rq.bind q;show Rq B σ F (ta σ) _;cases e:ta σ with
 |ok x=>rw[e]at q;intro v M N g G u;cases x with
  |lst ws=>have q:Rq B σ F (match WL.keysOf ws with|some ks=>if ks.length<=18 then Res.ok (WL.W.int (WL.dd ks).length)else .bad|none=>.bad) _:=q;cases k:WL.keysOf ws with|none=>rw[k]at q;exact(show False from q).elim|some ks=>
     rw[k]at q;dsimp only at q;by_cases r:ks.length<=18
     .rw[ago r]at q;simp only[RW]at u;obtain⟨a,O,rfl,D,y⟩:=u;obtain⟨bs,rfl,P,d⟩:=sQ k y;have t:(ks.zip bs).map (·.1)=ks:=by rw[List.map_fst_zip];omega
      have I:(ks.zip bs).map (λx=>V.ref x.2)=bs.map V.ref:=by
       have:(ks.zip bs).map (·.2)=bs:=by rw[List.map_snd_zip];omega
       conv=>rhs;rw[<-this]
       rw[aht];rfl
      refine⟨a,ks.zip bs,rfl,?_,λx A=>?_,by rw[List.length_zip];omega,λl j=>⟨l,_,rfl,aq,?_,?_⟩⟩;.rw[I,<-s];exact g.rb.sub.seq D
      .rw[<-s];exact g.rb.sub.tup (d x A)
      .exact agy (ST.xT _) (by rw[t];omega)
      .rw[t];exact q (.int _) _ _ (g.new j _) (G.trans (Gr.new (g.rb.sub.free j) j _)) (by simp only[RW];rfl)
     .rw[agq r]at q;exact(show False from q).elim
  |_=>exact(show False from q).elim
 |ex c=>rw[e]at q;exact q|bad=>rw[e]at q;exact q
end
end WS
namespace WL
open PySem
mutual def eE:W->List (List W)|.tup xs=>aV xs|.lst xs=>xs::aV xs|_=>[]def aV:List W->List (List W)|[]=>[]|x::xs=>eE x++aV xs end
mutual def aU:W->Bool|.tup xs=>aM xs|.lst xs=>aM xs|.dic _ _=>false|.cls _=>false|.exc _ _=>false|.ins _ _=>false|.id _=>false|_=>true def aM:List W->Bool|[]=>true|x::xs=>aU x&&aM xs end
noncomputable def eO:List W->List W|.ins _ [.dic ks us]::r=>ks++(us++eO r)|w::r=>w::eO r|[]=>[]
def u5(i:Nat)(ws:List W)(s:List W->SF)(σ:Ws):Res W->Out|.ok w=>if aM (eO ws)=true then s (eO ws) (σ.set i (.va w))else .bad|_=>.bad
def yr(i:Nat)(f:List W->Res W)(a:AF)(s:List W->SF):SF:=λσ=>ofR σ (a σ) λws=>u5 i ws s σ (f ws)
noncomputable def adR:Out->Out|.rt w=>.rt w|_=>.bad
def jw(t:TF)(a b:SF):SF:=λσ=>ofR σ (t σ) λx=>match x with|true=>adR (a σ)|false=>b σ
def ae7(i:Nat)(a:List W)(s:SF)(σ:Ws):Option Sl->Out|some (.va (.lst (.lst us::r)))=>@ite _ (aM (.lst us::r)=true/\.lst us::r∉aV a/\us∉aV a/\r.length+1<lim) (Classical.propDecidable _) (s (σ.set i .no)) .bad|_=>.bad
def oq(i:Nat)(a:List W)(s:SF)(σ:Ws):Option Sl->Out|some (.va (.lst us))=>@ite _ (aM us=true/\us∉aV a/\us.length<lim) (Classical.propDecidable _) (s (σ.set i .no)) .bad|_=>.bad
def mO(i:Nat)(a:List W)(s:SF):SF:=λσ=>oq i a s σ σ[i]?
end WL
namespace WS
open PySem PySem.Spec PyProof.Rows L2
open WL(Res Sl Ws EF TF AF LF GF GsF SF Out)
noncomputable def noL(K:W.Frag):Bool:=K.all λp=>match p.2.cls with|.type n=>n !="list"|_=>true
theorem xI:∀{K:W.Frag},noL K=true->∀{a:Addr}{o:Obj},K.lookup a=some o->o.cls≠.type "list"
|[],_,a,o,e=>by simp at e|(b,u)::K,h,a,o,e=>by
 simp only[noL,List.all_cons,agE]at h;rw[agY]at e;split at e;.cases e;intro z;have c:=h.1;rw[z]at c;simp at c
 .exact xI h.2 e
def SqL.here{K:W.Frag}{F:Hp}{a:Addr}{vs:List V}(h:noL K=true)(q:SqL K F a vs):Rd F a (.lst vs):=by
 rcases q with q|⟨o,b,n,c,d,_⟩;.exact q
 .exact absurd d (xI h c)
noncomputable def uni(G b:Hp):Hp:=λa=>match G a with|some o=>some o|none=>b a
def jS{G b:Hp}:aw G (uni G b):=λa o e=>by unfold uni;rw[e]
def hY{G b F:Hp}(h:aw G F)(h':aw b F):aw b (uni G b):=λa o e=>by unfold uni;cases c:G a with|none=>exact e|some u=>rw[<-h a u c,h' a o e]
def k9{G c:Hp}{a:Addr}{o:HO}(e:uni G c a=some o):G a=some o\/G a=none/\c a=some o:=by unfold uni at e;cases b:G a with|none=>rw[b]at e;exact .inr ⟨rfl,e⟩|some u=>rw[b]at e;exact .inl e
def ff{G b F:Hp}(h:aw G F)(h':aw b F):aw (uni G b) F:=λa o e=>by
 rcases k9 e with e|⟨_,e⟩;.exact h a o e
 .exact h' a o e
def oi{G b:Hp}{a:Addr}{u:HO}(e:Rd (uni G b) a u):Rd G a u\/Rd b a u:=by
 rcases e with e|⟨o,e⟩
 .rcases k9 e with e|⟨_,e⟩;.exact .inl (.inl e)
  .exact .inr (.inl e)
 .rcases k9 e with e|⟨_,e⟩;.exact .inl (.inr ⟨o,e⟩)
  .exact .inr (.inr ⟨o,e⟩)
noncomputable def one(a:Addr)(o:HO):Hp:=λb=>if b=a then some o else none
def iK{a b:Addr}{o u:HO}(e:one a o b=some u):b=a/\u=o:=by
 unfold one at e;split at e;.rename_i h;cases e;exact⟨h,rfl⟩
 .cases e
def one_le{a:Addr}{o:HO}{F:Hp}(h:F a=some o):aw (one a o) F:=λb u e=>by obtain⟨rfl,rfl⟩:=iK e;exact h
def gQ{a:Addr}{o:HO}:one a o a=some o:=ago rfl
section
variable{K:W.Frag}{F:Hp}
def Sm(K:W.Frag)(F G:Hp)(c:List (List VW)):Prop:=∀a b,Rd G a (.lst b)->∃l∈c,RWs K F l b
def eS{a:Addr}{u:HO}(h:Rd (λ_=>none) a u):False:=by rcases h with h|⟨_,h⟩<;>cases h
mutual theorem small:∀(w:VW)(v:V),WL.aU w=true->RW K F w v->∃G,aw G F/\RW K G w v/\Sm K F G (WL.eE w)
|.non,v,_,h=>⟨λ_=>none,λ_ _ e=>(by cases e),by simpa only[RW]using h,λ_ _ e=>(eS e).elim⟩|.bl _,v,_,h=>⟨λ_=>none,λ_ _ e=>(by cases e),by simpa only[RW]using h,λ_ _ e=>(eS e).elim⟩|.int _,v,_,h=>⟨λ_=>none,λ_ _ e=>(by cases e),by simpa only[RW]using h,λ_ _ e=>(eS e).elim⟩|.str _,v,_,h=>⟨λ_=>none,λ_ _ e=>(by cases e),by simpa only[RW]using h,λ_ _ e=>(eS e).elim⟩|.ty _,v,_,h=>⟨λ_=>none,λ_ _ e=>(by cases e),by simpa only[RW]using h,λ_ _ e=>(eS e).elim⟩|.tup ws,v,f,h=>by
  simp only[RW]at h;obtain⟨a,vs,rfl,q,r⟩:=h;obtain⟨G,s,rg,sm⟩:=lh ws vs (by simpa only[WL.aU]using f) r;rcases q with q|q
  .obtain⟨x,ex,hx⟩:∃x,F a=some x/\(x=.tup vs\/∃o,x=.frz o (.tup vs)):=by
    rcases q with q|⟨o,q⟩;.exact⟨_,q,.inl rfl⟩
    .exact⟨_,q,.inr ⟨o,rfl⟩⟩
   have s1:aw (one a x) F:=one_le ex;refine⟨uni G (one a x),ff s s1,?_,λb us e=>?_⟩
   .simp only[RW];refine⟨a,vs,rfl,.inl ?_,rg.keep jS⟩;have e:=hY s s1 a x gQ;rcases hx with rfl|⟨o,rfl⟩;.exact .inl e
    .exact .inr ⟨o,e⟩
   .rcases oi e with e|e;.simpa only[WL.eE]using sm b us e
    .rcases e with e|⟨o,e⟩;.obtain⟨_,rfl⟩:=iK e;rcases hx with z|⟨o,z⟩<;>cases z
     .obtain⟨_,rfl⟩:=iK e;rcases hx with z|⟨o,z⟩<;>cases z
  .exact⟨G,s,by simp only[RW];exact⟨a,vs,rfl,.inr q,rg⟩,by simpa only[WL.eE]using sm⟩|.lst ws,v,f,h=>by
  simp only[RW]at h;obtain⟨a,vs,rfl,q,r⟩:=h;obtain⟨G,s,rg,sm⟩:=lh ws vs (by simpa only[WL.aU]using f) r;have up:Sm K F G (WL.eE (.lst ws)):=λb us e=>by obtain⟨l,hl,hr⟩:=sm b us e;exact⟨l,by simp only[WL.eE];exact agw _ hl,hr⟩
  rcases q with q|q
  .obtain⟨x,ex,hx⟩:∃x,F a=some x/\(x=.lst vs\/∃o,x=.frz o (.lst vs)):=by
    rcases q with q|⟨o,q⟩;.exact⟨_,q,.inl rfl⟩
    .exact⟨_,q,.inr ⟨o,rfl⟩⟩
   have s1:aw (one a x) F:=one_le ex;refine⟨uni G (one a x),ff s s1,?_,λb us e=>?_⟩
   .simp only[RW];refine⟨a,vs,rfl,.inl ?_,rg.keep jS⟩;have e:=hY s s1 a x gQ;rcases hx with rfl|⟨o,rfl⟩;.exact .inl e
    .exact .inr ⟨o,e⟩
   .rcases oi e with e|e;.exact up b us e
    .have e2:us=vs:=by
      rcases e with e|⟨o,e⟩;.obtain⟨_,z⟩:=iK e;rcases hx with y|⟨o,y⟩<;>rw[y]at z<;>cases z;rfl
      .obtain⟨_,z⟩:=iK e;rcases hx with y|⟨o,y⟩<;>rw[y]at z<;>cases z;rfl
     subst e2;exact⟨ws,by simp[WL.eE],r⟩
  .exact⟨G,s,by simp only[RW];exact⟨a,vs,rfl,.inr q,rg⟩,up⟩|.dic _ _,_,f,_=>by simp[WL.aU]at f|.cls _,_,f,_=>by simp[WL.aU]at f|.exc _ _,_,f,_=>by simp[WL.aU]at f|.ins _ _,_,f,_=>by simp[WL.aU]at f|.id _,_,f,_=>by simp[WL.aU]at f theorem lh:∀(ws:List VW)(vs:List V),WL.aM ws=true->RWs K F ws vs->∃G,aw G F/\RWs K G ws vs/\Sm K F G (WL.aV ws)
|[],vs,_,h=>⟨λ_=>none,λ_ _ e=>(by cases e),by simpa only[RWs]using h,λ_ _ e=>(eS e).elim⟩|w::ws,vs,f,h=>by
  simp only[RWs]at h;obtain⟨v,r,rfl,h1,h2⟩:=h;simp only[WL.aM,agE]at f;obtain⟨G1,s1,r1,m1⟩:=small w v f.1 h1;obtain⟨G2,s2,r2,m2⟩:=lh ws r f.2 h2;refine⟨uni G1 G2,ff s1 s2,.cons (r1.keep jS) (r2.keep (hY s1 s2)),λb us e=>?_⟩;simp only[WL.aV,ahr];rcases oi e with e|e;.obtain⟨l,hl,hr⟩:=m1 b us e;exact⟨l,.inl hl,hr⟩
  .obtain⟨l,hl,hr⟩:=m2 b us e;exact⟨l,.inr hl,hr⟩end
theorem iY:∀{xs ys:List VW},WL.aM (xs++ys)=true->WL.aM xs=true/\WL.aM ys=true|[],_,h=>⟨rfl,h⟩|x::xs,ys,h=>by simp only[List.cons_append,WL.aM,agE]at h⊢;obtain⟨a,b⟩:=iY h.2;exact⟨⟨h.1,a⟩,b⟩
theorem ki:∀(xs ys:List VW),WL.aV (xs++ys)=WL.aV xs++WL.aV ys|[],_=>rfl|x::xs,ys=>by simp only[List.cons_append,WL.aV,ki xs ys,List.append_assoc]
theorem Sm.uni{G c:Hp}{l d:List (List VW)}(h:Sm K F G l)(h':Sm K F c d):Sm K F (WS.uni G c) (l++d):=λa f e=>by
 rcases oi e with e|e;.obtain⟨z,b,r⟩:=h a f e;exact⟨z,ag0 _ b,r⟩
 .obtain⟨z,b,r⟩:=h' a f e;exact⟨z,agF _ b,r⟩
theorem Sm.one{a:Addr}{o:HO}(d:∀c,o≠.lst c)(f:∀u c,o≠.frz u (.lst c)):Sm K F (WS.one a o) []:=λb c e=>by
 rcases e with e|⟨u,e⟩;.exact(d c (iK e).2.symm).elim
 .exact(f u c (iK e).2.symm).elim
theorem mL:∀(ws:List VW)(vs:List V),WL.aM (WL.eO ws)=true->RWs K F ws vs->∃G,aw G F/\RWs K G ws vs/\Sm K F G (WL.aV (WL.eO ws))
|[],vs,_,h=>⟨λ_=>none,(λ_ _ z=>nomatch z),by simpa only[RWs]using h,λ_ _ z=>(eS z).elim⟩|w::ws,vs,f,h=>by
  have g:WL.eO (w::ws)=w::WL.eO ws->∃G,aw G F/\RWs K G (w::ws) vs/\Sm K F G (WL.aV (WL.eO (w::ws))):=λe=>by rw[e]at f⊢;simp only[WL.aM,agE]at f;simp only[RWs]at h;obtain⟨v,r,rfl,x,D⟩:=h;obtain⟨k,l,N,I⟩:=small w v f.1 x;obtain⟨n,s,O,M⟩:=mL ws r f.2 D;refine⟨WS.uni k n,ff l s,?_,I.uni M⟩;simp only[RWs];exact⟨v,r,rfl,N.keep jS,O.keep (hY l s)⟩
  match w,g,f,h with
 |.ins c [.dic ks us],_,f,h=>
   have f:WL.aM (ks++(us++WL.eO ws))=true:=f;obtain⟨f1,J⟩:=iY f;obtain⟨J,Z⟩:=iY J;simp only[RWs]at h;obtain⟨v,r,rfl,x,D⟩:=h;simp only[RW]at x;obtain⟨a,C,m,b,rfl,e1,e2,X,e4,Q⟩:=x;simp only[RWs,RW]at Q;obtain⟨v1,r1,ev,⟨d,q,rfl,rd,rk,ru⟩,T⟩:=Q;subst T;obtain⟨k,l,N,I⟩:=lh ks _ f1 rk;obtain⟨n,s,O,M⟩:=lh us _ J ru;obtain⟨t,R,c2,U⟩:=mL ws r Z D;obtain⟨od,ed,Y,A,H⟩:∃od,F d=some od/\(∀G:Hp,G d=some od->Rd G d (.dK q))/\(∀vs,od≠.lst vs)/\∀u vs,od≠.frz u (.lst vs):=by
    rcases rd with z|⟨o,z⟩;.exact⟨_,z,λG y=>.inl y,(λ_ y=>nomatch y),λ_ _ y=>nomatch y⟩
    .exact⟨_,z,λG y=>.inr ⟨o,y⟩,(λ_ y=>nomatch y),λ_ _ y=>nomatch y⟩
   have B:aw (WS.one a (.ins C m b)) F:=one_le e1;have S:aw (WS.one d od) F:=one_le ed;have j:=ff s R;have i:=ff l j;have E:=ff S i;refine⟨WS.uni (WS.one a (.ins C m b)) (WS.uni (WS.one d od) (WS.uni k (WS.uni n t))),ff B E,?_,?_⟩;.have k1:aw (WS.one d od) (WS.uni (WS.one a (.ins C m b)) (WS.uni (WS.one d od) (WS.uni k (WS.uni n t)))):=jS.trans (hY B E);have P:aw (WS.uni k (WS.uni n t)) (WS.uni (WS.one a (.ins C m b)) (WS.uni (WS.one d od) (WS.uni k (WS.uni n t)))):=(hY S i).trans (hY B E);simp only[RWs,RW];refine⟨.ref a,r,rfl,⟨a,C,m,b,rfl,jS _ _ gQ,e2,X,e4,.ref d,[],ev,⟨d,q,rfl,Y _ (k1 _ _ gQ),N.keep (jS.trans P),O.keep ((jS.trans (hY l j)).trans P)⟩,rfl⟩,c2.keep (((hY s R).trans (hY l j)).trans P)⟩
   .show Sm K F _ (WL.aV (ks++(us++WL.eO ws)));rw[ki,ki];have s0:Sm K F (WS.one a (.ins C m b)) []:=Sm.one (λ_ y=>nomatch y) λ_ _ y=>nomatch y;exact s0.uni ((Sm.one A H).uni (I.uni (M.uni U)))|.non,p,_,_=>exact p rfl|.bl _,p,_,_=>exact p rfl|.int _,p,_,_=>exact p rfl|.str _,p,_,_=>exact p rfl|.ty _,p,_,_=>exact p rfl|.tup _,p,_,_=>exact p rfl|.lst _,p,_,_=>exact p rfl|.dic _ _,p,_,_=>exact p rfl|.cls _,p,_,_=>exact p rfl|.exc _ _,p,_,_=>exact p rfl|.ins _ [],p,_,_=>exact p rfl|.ins _ [.non],p,_,_=>exact p rfl|.ins _ [.bl _],p,_,_=>exact p rfl|.ins _ [.int _],p,_,_=>exact p rfl|.ins _ [.str _],p,_,_=>exact p rfl|.ins _ [.ty _],p,_,_=>exact p rfl|.ins _ [.tup _],p,_,_=>exact p rfl|.ins _ [.lst _],p,_,_=>exact p rfl|.ins _ [.cls _],p,_,_=>exact p rfl|.ins _ [.exc _ _],p,_,_=>exact p rfl|.ins _ [.ins _ _],p,_,_=>exact p rfl|.ins _ [.id _],p,_,_=>exact p rfl|.ins _ (z::_::_),p,_,_=>exact p (by cases z<;>rfl)
mutual theorem zx:∀(w:VW),WL.aU w=true->∀l∈WL.eE w,WL.aM l=true
|.tup ws,f,l,h=>gU ws (by simpa only[WL.aU]using f) l (by simpa only[WL.eE]using h)|.lst ws,f,l,h=>by
 simp only[WL.eE,ags]at h;simp only[WL.aU]at f;rcases h with rfl|h;.exact f
 .exact gU ws f l h|.non,_,l,h=>by simp[WL.eE]at h|.bl _,_,l,h=>by simp[WL.eE]at h|.int _,_,l,h=>by simp[WL.eE]at h|.str _,_,l,h=>by simp[WL.eE]at h|.ty _,_,l,h=>by simp[WL.eE]at h|.dic _ _,f,_,_=>by simp[WL.aU]at f|.cls _,f,_,_=>by simp[WL.aU]at f|.exc _ _,f,_,_=>by simp[WL.aU]at f|.ins _ _,f,_,_=>by simp[WL.aU]at f|.id _,f,_,_=>by simp[WL.aU]at f theorem gU:∀(ws:List VW),WL.aM ws=true->∀l∈WL.aV ws,WL.aM l=true
|[],_,l,h=>by simp[WL.aV]at h|w::ws,f,l,h=>by
 simp only[WL.aM,agE]at f;simp only[WL.aV,ahr]at h;rcases h with h|h;.exact zx w f.1 l h
 .exact gU ws f.2 l h end
end
section
variable{X:Cx}{pins:List (Addr×Obj)}{σV:L2.St}{H:Hp}{s:Shared}
def sx(I:Inv X pins σV H s){a:Addr}{xs ys:List V}(h:SqT X.K H a xs)(h':SqL X.K H a ys):False:=by obtain⟨_,_,⟨o,e,c,_⟩,_⟩:=I.tuple h;obtain⟨_,_,⟨f,g,b,d,_⟩,_⟩:=I.list h';rw[e]at b;cases b;rw[c]at d;exact absurd d (by decide)
mutual theorem RW.det(I:Inv X pins σV H s):∀(w w':VW)(v:V),WL.aU w=true->WL.aU w'=true->RW X.K H w v->RW X.K H w' v->w=w'
|.non,w',v,_,f',h,h'=>by cases w'<;>simp_all[RW,WL.aU]|.bl _,w',v,_,f',h,h'=>by cases w'<;>simp_all[RW,WL.aU]|.int _,w',v,_,f',h,h'=>by cases w'<;>simp_all[RW,WL.aU]|.str _,w',v,_,f',h,h'=>by cases w'<;>simp_all[RW,WL.aU]|.ty _,w',v,_,f',h,h'=>by cases w'<;>simp_all[RW,WL.aU]|.tup ws,w',v,f,f',h,h'=>by simp only[RW]at h;obtain⟨a,vs,rfl,q,r⟩:=h;cases w' with|tup ws'=>simp only[RW]at h';obtain⟨a',vs',e,q',r'⟩:=h';cases e;cases I.fh q q';rw[RWs.det I ws ws' vs (by simpa only[WL.aU]using f) (by simpa only[WL.aU]using f') r r']|lst ws'=>simp only[RW]at h';obtain⟨a',vs',e,q',r'⟩:=h';cases e;exact(sx I q q').elim|dic _ _=>simp[WL.aU]at f'|cls _=>simp[WL.aU]at f'|exc _ _=>simp[WL.aU]at f'|ins _ _=>simp[WL.aU]at f'|id _=>simp[WL.aU]at f'|_=>simp[RW]at h'
|.lst ws,w',v,f,f',h,h'=>by simp only[RW]at h;obtain⟨a,vs,rfl,q,r⟩:=h;cases w' with|lst ws'=>simp only[RW]at h';obtain⟨a',vs',e,q',r'⟩:=h';cases e;cases I.gT q q';rw[RWs.det I ws ws' vs (by simpa only[WL.aU]using f) (by simpa only[WL.aU]using f') r r']|tup ws'=>simp only[RW]at h';obtain⟨a',vs',e,q',r'⟩:=h';cases e;exact(sx I q' q).elim|dic _ _=>simp[WL.aU]at f'|cls _=>simp[WL.aU]at f'|exc _ _=>simp[WL.aU]at f'|ins _ _=>simp[WL.aU]at f'|id _=>simp[WL.aU]at f'|_=>simp[RW]at h'
|.dic _ _,_,_,f,_,_,_=>by simp[WL.aU]at f|.cls _,_,_,f,_,_,_=>by simp[WL.aU]at f|.exc _ _,_,_,f,_,_,_=>by simp[WL.aU]at f|.ins _ _,_,_,f,_,_,_=>by simp[WL.aU]at f|.id _,_,_,f,_,_,_=>by simp[WL.aU]at f theorem RWs.det(I:Inv X pins σV H s):∀(ws ws':List VW)(vs:List V),WL.aM ws=true->WL.aM ws'=true->RWs X.K H ws vs->RWs X.K H ws' vs->ws=ws'
|[],ws',vs,_,_,h,h'=>by simp only[RWs]at h;subst h;cases ws' with|nil=>rfl|cons w ws'=>simp[RWs]at h'
|w::ws,ws',vs,f,f',h,h'=>by simp only[RWs]at h;obtain⟨v,r,rfl,h1,h2⟩:=h;cases ws' with|nil=>simp[RWs]at h'|cons w' ws'=>simp only[RWs]at h';obtain⟨v',r',e,h1',h2'⟩:=h';cases e;simp only[WL.aM,agE]at f f';rw[RW.det I w w' v f.1 f'.1 h1 h1',RWs.det I ws ws' r f.2 f'.2 h2 h2']end
end
section
variable{X:Cx}{B:Bx}{σ:Ws}{σV:L2.St}{F H:Hp}
def RS.drop(R:RS B σ σV F H)(i:Nat)(x:Option V):RS B (σ.set i .no) (σV.set i x) F H:=by
 have c:∀{j:Nat}{sl:Sl},(σ.set i .no)[j]?=some sl->sl≠.no->i≠j/\σ[j]?=some sl:=λ{j sl}e p=>by
  by_cases b:i=j
  .subst b;have n:i<σ.length:=by have:=(agu.mp e).1;simpa using this
   rw[agr n]at e;cases e;exact absurd rfl p
  .rw[agn b]at e;exact⟨b,e⟩
 refine⟨R.rb,by simp[R.len],λj w e=>?_,λj ws e=>?_,λj k ws d a f h g m l=>?_,R.aad i (sl:=.no) (λz=>z) _ (aw.refl _) λ_ _ _ _ _ _ _ _ q r=>⟨r,q⟩⟩;.obtain⟨b,e⟩:=c e (by intro z;cases z);rw[agn b];exact R.va j w e
 .obtain⟨b,e⟩:=c e (by intro z;cases z);rw[agn b];exact R.ow j ws e
 .obtain⟨b,h⟩:=c h (by intro z;cases z);obtain⟨o,g⟩:=c g (by intro z;cases z);rw[agn b]at m;rw[agn o]at l;exact R.ap j k ws d a f h g m l
def RS.away(R:RS B σ σV F H){a:Addr}(o:HO)(k:F a=none)(t:B.H0 a=none)(p:∀(j:Nat)(ws:List VW),σ[j]?=some (Sl.ow ws)->σV[j]?≠some (some (V.ref a)))(g:∀(j:Nat)(d f:List VW),σ[j]?=some (Sl.od d f)->σV[j]?≠some (some (V.ref a))):RS B σ σV F (upd H a o):=by
 refine⟨⟨λb u e=>?_,λb u e=>?_,R.rb.fz0,R.rb.fr⟩,R.len,R.va,λj ws e=>?_,R.ap,R.dd.via rfl id (λ_ _ z=>.inl z) (λ_ _ _ e=>⟨e,rfl⟩) (aw.refl _) λj d f b l n s v y i=>⟨y,i,by
  have c:b≠a:=λz=>by subst z;exact g j d f n s
  rw[ai c];exact v⟩⟩
 .have c:b≠a:=λz=>by subst z;rw[k]at e;cases e
  rw[ai c];exact R.rb.sub b u e
 .have c:b≠a:=λz=>by subst z;rw[t]at e;cases e
  rw[ai c];exact R.rb.base b u e
 .obtain⟨b,r,h,q,w,m,x⟩:=R.ow j ws e;have c:b≠a:=λz=>by subst z;exact p j ws e h
  exact⟨b,r,h,q,w,by rw[ai c];exact m,x⟩
structure Mid(B:Bx)(i:Nat)(as:List VW)(σ:Ws)(σV:L2.St)(F H F0:Hp):Prop where
 rs:RS B σ σV F H
 old:RS B (σ.set i .no) σV F0 H
 sub:aw F0 F
 fl:WL.aM as=true
 tl:∃(Fa Fr:Hp)(w:VW)(v:V),σ[i]?=some (.va w)/\σV[i]?=some (some v)/\aw Fr F/\RW B.K Fr w v/\Sm B.K F Fa (WL.aV as)/\∀a o,Fr a=some o->Fa a=some o\/F0 a=none/\B.H0 a=none/\NF o
theorem Mid.grow{i:Nat}{c:List VW}{d b H':Hp}(m:Mid B i c σ σV F H d)(o:RS B σ σV b H')(g:Gr F H b H'):Mid B i c σ σV b H' d:=by obtain⟨k,Fr,w,v,q,p,s,r,h,fr⟩:=m.tl;refine⟨o,m.old.grow ⟨aw.refl _,g.h,λ_ _ _ z=>z⟩ ⟨m.old.rb.sub.trans g.h,m.old.rb.base.trans g.h,m.old.rb.fz0,m.old.rb.fr⟩,m.sub.trans g.f,m.fl,k,Fr,w,v,q,p,s.trans g.f,r,λa j e=>?_,fr⟩;obtain⟨l,n,f⟩:=h a j e;exact⟨l,n,f.keep g.f⟩
def Mid.at{i:Nat}{b:List VW}{f:Hp}(m:Mid B i b σ σV F H f){pins:List (Addr×Obj)}{s:Shared}(e:B.K=X.K)(c:noL X.K=true)(I:Inv X pins σV H s){d Fr:Hp}(n:aw Fr F)(j:Sm B.K F d (WL.aV b))(fr:∀a o,Fr a=some o->d a=some o\/f a=none/\B.H0 a=none/\NF o){a:Addr}{ws:List VW}{vs:List V}(q:SqL B.K Fr a vs)(r:RWs B.K Fr ws vs)(k:WL.aM ws=true)(p:ws∉WL.aV b):Fr a=some (.lst vs)/\f a=none/\B.H0 a=none:=by
 have no:¬Rd d a (.lst vs):=λz=>by obtain⟨l,g,h⟩:=j a vs z;refine p ?_;have u:RWs X.K H ws vs:=e▸(r.keep n).keep m.rs.rb.sub;have t:RWs X.K H l vs:=e▸h.keep m.rs.rb.sub;rw[RWs.det I ws l vs k (gU b m.fl l g) u t];exact g
 rcases SqL.here (e▸c) q with q|⟨o,q⟩
 .rcases fr a _ q with z|z;.exact(no (.inl z)).elim
  .exact⟨q,z.1,z.2.1⟩
 .rcases fr a _ q with z|z;.exact(no (.inr ⟨o,z⟩)).elim
  .exact z.2.2.elim
def loM(B:Bx)(i:Nat)(b:List VW)(t:SF):TS:=λD σV H=>∃σ F a,Mid B i b σ σV F H a/\Oq B D a (t σ)
variable{i:Nat}{as:List VW}{s1 s2:SF}{st:Stmt}{sts rest:List Stmt}{tt:TF}{pos:Pos}
def uV{c:Expr}{a:List Stmt}(p:PT X c (loT B tt))(n:PSs X a (loS B s1))(k:PSs X rest (loM B i as s2)):PSs X (.If c a [] pos::rest) (loM B i as (WL.jw tt s1 s2)):=PSs.imp (gP (aa7 p n rN) k) λD σV H d=>by obtain⟨σ,F,j,m,q⟩:=d;have q:=Oq.ofR q;refine⟨σ,F,m.rs,Rq.mono m.sub q λx b u f h g=>?_⟩;cases x with
|true=>rw[ago rfl];refine⟨σ,f,h,?_⟩;have b:Oq B D j (WL.adR (s1 σ)):=b;cases e:s1 σ with|rt w=>rw[e]at b;exact λv t l o s r=>(show∀v u f,_ from b) v t l o ((m.sub.trans g.f).trans s) r|nx σ'|bk σ'|ct σ'|ex c σ'|bad=>rw[e]at b;exact(show False from b).elim
|false=>rw[agq agK];exact⟨σ,f,j,m.grow h g,b⟩
def qH(T:B.K=X.K)(t:noL X.K=true)(M:PS X st (vk (tBM X.K "list" mT (yd i) (pQ (tC .non) aaH))))(R:PSs X rest (loS B s1)):PSs X (st::rest) (loM B i as (WL.mO i as s1)):=by
 intro g s σV H D I⟨σ,F,E,m,q⟩;refine gP M R g s σV H D I ?_;obtain⟨Fa,Fr,w,v,C,e2,l,r,sm,fr⟩:=m.tl;have q:Oq B D E (WL.oq i as s1 σ σ[i]?):=q
 rw[C]at q;cases w with|lst d=>
  unfold WL.oq at q;dsimp only at q;by_cases k:WL.aM d=true/\d∉WL.aV as/\d.length<WL.lim
  .rw[ago k]at q;obtain⟨N,Z,S⟩:=k;simp only[RW]at r;obtain⟨a,x,rfl,Q,y⟩:=r;obtain⟨A,J,K⟩:=m.at T t I l sm fr Q y N Z;have n:H a=some (.lst x):=m.rs.rb.sub _ _ (l _ _ A);have hl:x.length<sizeLine:=by rw[<-y.length];exact agv S fw
   have U:∀(j:Nat)(ws:List VW),(σ.set i .no)[j]?=some (Sl.ow ws)->σV[j]?≠some (some (V.ref a)):=λj ws e p=>by
    have P:i≠j:=λz=>by subst z;have Y:i<σ.length:=(agu.mp C).1;rw[agr Y]at e;cases e
    rw[agn P]at e;obtain⟨G,O,c,f,_⟩:=m.rs.ow j ws e;rw[p]at c;cases c;rw[l _ _ A]at f;cases f
   have nd:∀{b:Addr}{u:List V},H b=some (.lst u)->∀(j:Nat)(o d:List VW),(σ.set i .no)[j]?=some (Sl.od o d)->σV[j]?≠some (some (V.ref b)):=λ{b u}eb j o d e p=>by obtain⟨G,_,c,_,_,h,_⟩:=m.old.dd.od j o d e;rw[p]at c;cases c;rw[eb]at h;cases h
   refine⟨.ref a,e2,.inl ⟨rfl,_,SqL.of n⟩,a,_,.non,rfl,rfl,n,hl,σ.set i .no,E,?_,q⟩;exact m.old.away _ J K U (nd n)
  .rw[agq k]at q;exact(show False from q).elim|_=>exact(show False from q).elim
end
section
variable{X:Cx}{B:Bx}{j k n:Nat}{f:Addr}{fd:FuncData}{ps:List Str}{ds:List Value}{fn:List VW->Res VW}{x y:Str}{p pos pos' apos:Pos}{e:Expr}{es:List Expr}{tas:AF}{i:Nat}{rest:List Stmt}{s:List VW->SF}
def xY(hB:B.K=X.K)(hr:Room j X.A)(C:Cal X.prog X.w X.K X.mg X.base CX0 k x ps ds (spW X.K n fn))(hN:X.N.Nodup)(hi:X.N[i]?=some y)(hy:Loc X.env.scope y)(ha:PA X (e::es) (loA B tas))(hrest:∀J,PSs X rest (loM B i J (s J)))(hk:k<=j:=by decide)(hn:∀σ ws,tas σ=.ok ws->ws.length=n:=by repeat first|exact mj|apply gm)(hg:Gl X x:=by rfl)(Y:Dbg x:=by decide)(he:SE X e es:=by rfl)(a0:BT X pos es:=by rfl)(hs:swapsWith (.Call (.Name x p) (e::es) [] pos) (some (.Name y pos')) apos.line X.env=pure false:=by rfl)(hf:X.fn y=true\/X.env.scope.names.lookup y=some .local:=by first|exact .inl rfl|exact .inr rfl|assumption):PSs X (.Assign [.Name y pos'] (.Call (.Name x p) (e::es) [] pos) apos::rest) (loS B (WL.yr i fn tas s)):=by
 obtain⟨f,fd,G,hm,hq,b,_⟩:=C;have r:PSs X rest λD g H=>∃J,loM B i J (s J) D g H:=λO s σ H D I⟨J,q⟩=>hrest J O s σ H D I q;intro u s0 g H D I⟨σ,F,R,q⟩;refine gP (oG hN hi hy (mW G (hr.mono hk) hg hm hq b .nil yQ ha Y he a0) hs hf) r u s0 g H D I ?_;have K:i<g.length:=by rw[I.len];exact(agu.mp hi).1
 have q:=Oq.ofR q;refine⟨σ,F,R,?_⟩;cases T:tas σ with|bad|ex c=>rw[T]at q;exact q|ok ws=>rw[T]at q;intro vs H1 h d g1 r1;rw[ahB,<-hB];have m:Oq B D F (WL.u5 i ws s σ (fn ws)):=q;cases ef:fn ws with|bad|ex c=>rw[ef]at m;exact(show False from m).elim|ok w=>
 rw[ef]at m;have m:Oq B D F (if WL.aM (WL.eO ws)=true then s (WL.eO ws) (σ.set i (.va w))else .bad):=m;by_cases t:WL.aM (WL.eO ws)=true
 .rw[ago t]at m;obtain⟨Fa,S,ra,la⟩:=mL ws vs t r1;refine⟨Fa,ws,S.trans d.rb.sub,ra,hn σ ws T,?_⟩;rw[ef];intro v P Fr t1 t2 N fr r2;have A:aw h P:=d.rb.sub.trans N;have Q:aw h (uni h Fr):=jS;have u2:aw Fr (uni h Fr):=hY A t2;have g2:Gr h H1 (uni h Fr) P:=⟨Q,N,λa o eh E=>by cases Z:uni h Fr a with|none=>rfl|some o2=>
    rcases k9 Z with z|⟨_,z⟩;.rw[E]at z;cases z
    .rcases fr a o2 z with z|z;.rw[S a _ z]at E;cases E
     .rw[eh]at z;cases z.1⟩;have rb:RB B (uni h Fr) P:=⟨ff A t2,d.rb.base.trans N,d.rb.fz0.trans Q,λa o Z=>by
   rcases k9 Z with z|⟨n1,z⟩;.exact d.rb.fr a o z
   .rcases fr a o z with z|z;.rw[S a _ z]at n1;cases n1
    .exact .inr ⟨d.rb.base.free z.1,z.2⟩⟩;have R2:=d.grow g2 rb;have R3:RS B σ g h P:=d.grow ⟨aw.refl _,N,λ_ _ _ z=>z⟩ ⟨A,d.rb.base.trans N,d.rb.fz0,d.rb.fr⟩;have M:i<σ.length:=by rw[d.len];exact K
  refine⟨WL.eO ws,σ.set i (.va w),uni h Fr,h,⟨R2.set (r2.keep u2),by rw[List.set_set];exact R3.drop i (some v),Q,t,Fa,Fr,w,v,agr M,agr K,u2,r2,λa us z=>?_,λa o z=>?_⟩,Oq.mono g1.f m⟩;.obtain⟨l,hl,U⟩:=la a us z;exact⟨l,hl,U.keep Q⟩
  .rcases fr a o z with z|z;.exact .inl z
   .exact .inr ⟨d.rb.sub.free z.1,d.rb.base.free z.1,z.2⟩
 .rw[agq t]at m;exact(show False from m).elim
end
end WS
namespace WL
open PySem
abbrev XF:=Ws->Res (W×Ws)
abbrev XA:=Ws->Res (List W×Ws)
abbrev FS:=List W->List W->Res (W×List W)
end WL
namespace WS
open PySem PySem.Spec PyProof.Rows L2
open WL(Res Sl Ws EF TF AF LF GF GsF SF Out XF XA FS)
def Xq{b:Type}(r:Res b)(k:b->Prop):Prop:=match r with|.ok a=>k a|_=>False
def Xq.mono{b:Type}{r:Res b}{k k':b->Prop}(h:Xq r k)(f:∀a,k a->k' a):Xq r k':=by cases r with|ok a=>exact f a h|ex c=>exact h|bad=>exact h
def Oz(B:Bx)(z:Addr)(D:Ends)(F:Hp)(o:Out):Prop:=match o with|.nx σ'=>∀a c b,RS B σ' a b c->a[0]?=some (some (.ref z))->aw F b->D.nx a c|.bk σ'=>∀a c b,RS B σ' a b c->a[0]?=some (some (.ref z))->aw F b->D.bk a c|.ct σ'=>∀a c b,RS B σ' a b c->a[0]?=some (some (.ref z))->aw F b->D.ct a c|.rt w=>∃w1 st,w=.exc "" [w1,.lst st]/\∀v c b d,RB B b c->aw F b->RW B.K b w1 v->b z=none->c z=some (.lst d)->RWs B.K b st d->D.rt v c|.ex _ _=>False|.bad=>False
def Oz.mono{B:Bx}{z:Addr}{D:Ends}{F d:Hp}{o:Out}(s:aw F d)(h:Oz B z D F o):Oz B z D d o:=by cases o with|nx σ=>exact λa H G R b w=>h a H G R b (s.trans w)|bk σ=>exact λa H G R b w=>h a H G R b (s.trans w)|ct σ=>exact λa H G R b w=>h a H G R b (s.trans w)|rt w=>obtain⟨w1,st,e,h⟩:=h;exact⟨w1,st,e,λv H G f R w=>h v H G f R (s.trans w)⟩|ex c σ=>exact h|bad=>exact h
theorem Oz.ofR{B:Bx}{z:Addr}{D:Ends}{F:Hp}{σ:Ws}{b:Type}{r:Res b}{f:b->Out}(h:Oz B z D F (WL.ofR σ r f)):Xq r λa=>Oz B z D F (f a):=by cases r with|ok a=>exact h|ex c=>exact h|bad=>exact h
section
variable{X:Cx}{B:Bx}{z:Addr}{e tg iter:Expr}{pos:Pos}{ta tb:EF}{tt:TF}{xa xn:XF}{g:GF}{b:SF}{st:Stmt}{sts rest:List Stmt}{s1 s2:SF}{i:Nat}{x:Str}
def mn{a:L2.St}{v:Option V}{w:Option (Option V)}(c:i≠0)(h:a[0]?=w):(a.set i v)[0]?=w:=by rw[agn c];exact h
variable{scope:Scope}{ts:List Str}{elt:Expr}
end
end WS
namespace WL
open PySem
end WL
namespace WS
open PySem PySem.Spec PyProof.Rows L2
open WL(Res Sl Ws EF TF AF LF GF GsF SF Out XF XA FS)
noncomputable def rmK:List V->List (Key×V)|[a,b,c]=>[(.inr "left",a),(.inr "at",b),(.inr "cells",c)]|_=>[]
structure RR(B:Bx)(z:Addr)(j:Nat)(σ:Ws)(σV:L2.St)(F H:Hp):Prop where
 rs:RS B (σ.set j .no) σV F H
 zs:σV[j]?=some (some (.ref z))nf:F z=none
 n0:B.H0 z=none
 apd:∀(k:Nat)(ks us:List VW),(σ.set j .no)[k]?=some (.od ks us)->σV[k]?≠some (some (.ref z))rm:∃st vs,σ[j]?=some (.ow st)/\vs.length=3/\H z=some (.dK (rmK vs))/\RWs B.K F st vs
section
variable{B:Bx}{z:Addr}{j:Nat}{σ:Ws}{σV:L2.St}{F H F' H':Hp}
def xF{i j sl}(b:i≠j)(hs:¬IsO sl){k}{ks us:List VW}(q:((σ.set i sl).set j .no)[k]?=some (.od ks us)):i≠k/\(σ.set j .no)[k]?=some (.od ks us):=by
 rw[List.set_comm _ _ b]at q;have a:i≠k:=λe=>by
  subst e;by_cases c:i<(σ.set j .no).length;.rw[agr c]at q;cases q;exact hs trivial
  .rw[List.getElem?_eq_none (by grind)]at q;cases q
 rw[agn a]at q;exact⟨a,q⟩
def RR.grow(R:RR B z j σ σV F H)(g:Gr F H F' H')(c:RS B (σ.set j .no) σV F' H'):RR B z j σ σV F' H':=by refine qv R.rm λst d e b a r=>?_;exact⟨c,R.zs,g.nf z _ a R.nf,R.n0,R.apd,st,d,e,b,g.h z _ a,r.keep g.f⟩
def RR.ext(R:RR B z j σ σV F H)(E:Ext F H F' H'):RR B z j σ σV F' H':=R.grow E.gr (E.rs B _ _ R.rs)
theorem RR.new(R:RR B z j σ σV F H){p}(a:H p=none)(o)(b:NF o:=by trivial):RR B z j σ σV (upd F p o) (upd H p o):=R.ext (Ext.new (R.rs.rb.sub.free a) a o b)
theorem RR.set(R:RR B z j σ σV F H){i w v}(a:i≠j)(hw:RW B.K F w v):RR B z j (σ.set i (.va w)) (σV.set i (some v)) F H:=by refine qv R.rm λst g e d c r=>?_;exact⟨by rw[List.set_comm _ _ a];exact R.rs.set hw,by rw[agn a];exact R.zs,R.nf,R.n0,λk h f q=>by obtain⟨b,q⟩:=xF (sl:=.va w) a (λz=>z) q;rw[agn b];exact R.apd k _ f q,st,g,by grind,d,c,r⟩
def RR.own(R:RR B z j σ σV F H){i}{ws:List VW}(a:i≠j)(e:σ[i]?=some (.ow ws)):(σ.set j .no)[i]?=some (.ow ws):=by grind
end
def Ow(B:Bx)(z:Addr)(j:Nat)(D:Ends)(F:Hp)(o:Out):Prop:=match o with|.nx σ'=>∀a c b,RR B z j σ' a b c->aw F b->D.nx a c|.bk σ'=>∀a c b,RR B z j σ' a b c->aw F b->D.bk a c|.ct σ'=>∀a c b,RR B z j σ' a b c->aw F b->D.ct a c|.rt w=>∃w1 st,w=.exc "" [w1,.lst st]/\∀v c b d,RB B b c->aw F b->RW B.K b w1 v->b z=none->d.length=3->c z=some (.dK (rmK d))->RWs B.K b st d->D.rt v c|.ex _ _=>False|.bad=>False
def Ow.mono{B z j D F b o}(s:aw F b)(h:Ow B z j D F o):Ow B z j D b o:=by cases o with|nx σ=>exact λa H G R w=>h _ H G R (s.trans w)|bk σ=>exact λa H G R w=>h _ H G R (s.trans w)|ct σ=>exact λa H G R w=>h _ H G R (s.trans w)|rt w=>refine cW h λw1 st e h=>?_;exact eI w1 st e λv H G d R w=>h v H G _ R (s.trans w)|ex c σ=>exact h|bad=>exact h
theorem Ow.ofR{B z j D F σ b r}{f:b->Out}(h:Ow B z j D F (WL.ofR σ r f)):Xq r λa=>Ow B z j D F (f a):=by cases r with|ok a=>exact h|ex c=>exact h|bad=>exact h
end WS
namespace WL
open PySem
end WL
namespace L2
open PySem PySem.Spec PyProof.Rows PySem.Builtin
end L2
namespace WS
open PySem PySem.Spec PyProof.Rows L2
open WL(Res Sl Ws EF TF AF LF GF GsF SF Out XF XA FS)
end WS
namespace SF
open PySem PySem.Builtin PySem.Builtin.Str PySem.StrLaws
noncomputable def wc(a:List Nat):List Str->List Nat|[]=>[]|[x]=>x.cps.toList|x::y::r=>x.cps.toList++(a++wc a (y::r))
theorem gf(b:Str):∀(r:List Str)(a:Array Nat),(r.foldl (λa p=>a++b.cps++p.cps) a).toList=a.toList++match r with|[]=>[]|_=>b.cps.toList++wc b.cps.toList r
|[],a=>by simp|[x],a=>by simp[wc]|x::y::r,a=>by have:=gf b (y::r) (a++b.cps++x.cps);rw[aiK,this];simp[wc]
end SF
namespace WL
open PySem
def agh:W->W->Res W|.lst xs,.int k=>if -1000000<=k/\k<=1000000/\xs.length*k.toNat<=lim then .ok (.lst (List.replicate k.toNat xs).flatten)else .bad|.tup xs,.int k=>if xs≠[]/\k≠1/\-1000000<=k/\k<=1000000/\xs.length*k.toNat<=lim then .ok (.tup (List.replicate k.toNat xs).flatten)else .bad|_,_=>.bad
noncomputable def vv(lo st:Int)(n:Nat):List W:=(List.range n).map λi=>.int (lo+(i:Nat)*st)
def tE(a b:EF):LF:=λσ=>(a σ).bind λx=>(b σ).bind λy=>match x,y with|.int i,.int j=>if -2^60<=i/\i<2^60/\-2^60<=j/\j<2^60 then .ok (vv i 2 ((j-i+1)/2).toNat)else .bad|_,_=>.bad
noncomputable def afA:W->Res W|.int i=>if i.natAbs<1000 then .ok (.int i)else .bad|.str x=>if x.length<=1000 then .ok (.str x)else .bad|_=>.bad
noncomputable def shL:List W->Option Nat|[]=>some 3|.str x::r=>(shL r).map (.+(10*x.length+4))|.int i::r=>if i.natAbs<1000 then(shL r).map (.+12)else none|_=>none
def shC(ws:List W):Bool:=e8 51 ws&&match shL ws with|some n=>decide (n<=80000)|none=>false
def aab:W->Res W|.str x=>if x.length<=5000/\(x.cps.toList.all λc=>Nat.ble c 1114111)=true then .ok (.str x)else .bad|.lst ws=>if shC ws=true then .ok (.lst ws)else .bad|.int i=>if i.natAbs<1000 then .ok (.int i)else .bad|.non=>.ok .non|.tup ws=>if shC ws=true then .ok (.tup ws)else .bad|.bl b=>.ok (.bl b)|_=>.bad
def eFf(e:EF):EF:=λσ=>(e σ).bind afA
def eFr(e:EF):EF:=λσ=>(e σ).bind aab
def mQ(nm:String)(a:AF):SF:=λσ=>ofR σ (a σ) λ_=>.ex (.exc nm []) σ
end WL
namespace WS
open PySem PySem.Spec PyProof.Rows L2 PySem.Builtin PySem.Builtin.Str
open WL(Res Sl Ws EF TF AF LF GF GsF SF Out)
end WS
namespace L2
open PySem PySem.Spec PyProof.Rows
noncomputable def adj(lo:Int)(n:Nat):It:=⟨λi _=>i<n,λi H x a=>a=H/\x=.int (lo+(i:Nat)*2),λi _=>n<=i⟩
def mJ{P:Program}{w:World}{K:W.Frag}{tg:Expr}(it:Addr)(lo:Int)(n:Nat):Turn P w K tg (adj lo n) [it] it λi h=>IsRangeIter h it (lo+(i:Nat)*2) ((n:Int)-(i:Nat)) 2 where
 mem:=by simp
 obj:=λi h st b hb=>by
  have e:b=it:=by simpa using hb
  subst e;exact⟨_,st,λv z=>by have z':Data.fields _=Data.cell v:=z;cases z'⟩
 keep:=λi h h' st k=>k it (by simp) _ st;item:=by intro X hP hw hK i pins s σ H E hc I hf st hg;subst hP hw hK;obtain⟨f0,f1,f2,f3,f4,f5⟩:=hf it (by simp);have W:=Walks.range (prog:=X.prog) (w:=X.w) (I.ok.hd hc) it lo 2 n;refine W.item i s _ _ hg st λv h' tk hv st' kk=>?_;obtain⟨t,rfl⟩:=hv;have I1:Inv X pins σ H {s with heap:=h',toks:=tk}:=I.turned (λb o hb e=>kk b o (by simpa using hb) e) f0 f1 f3 f4 f5;exact⟨_,rfl,wj (s:={s with heap:=h',toks:=tk}) (n:="range_iterator") st' rfl rfl (by decide) ⟨.int (lo+i*2),H,I1,⟨t,rfl⟩,⟨rfl,rfl⟩,st',λb hb=>(hf b hb).1⟩⟩
 done:=by intro X hP hw hK i pins s σ H E hc I hf st hg;subst hP hw hK;obtain⟨f0,f1,f2,f3,f4,f5⟩:=hf it (by simp);exact wpAny_pyNext_range_end (I.ok.hd hc) st (by have:n<=i:=hg;omega) λh' eb=>⟨rfl,I.turned (t':=s.toks) (λb o hb e=>eb b o hb e) f0 f1 f3 f4 f5⟩
 self:=λ_ _ _ _ _ st h=>wpAny_pyIter_rangeiter st h
def fm(a b):Builtin.Range.rangeSize a b 2=((b-a+1)/2).toNat:=by unfold Builtin.Range.rangeSize;split<;>omega
def rp{a b}(f:-2^60<=a)(c:a<2^60)(e:-2^60<=b)(d:b<2^60):Builtin.Range.small a b 2=true:=by unfold Builtin.Range.small;rw[fm];simp only[Builtin.Range.rangeFitsLong,agE,aiH,agZ,show(2:Int)>0 by decide,aib];omega
section
variable{X:Cx}{tg:Expr}
def rL{pins}{σ:St}{H s R E lo a t u v tk}(I:Inv X pins σ H s)(h:-2^60<=lo)(f:lo<2^60)(j:-2^60<=a)(d:a<2^60)(q:R (adj lo ((a-lo+1)/2).toNat) H):wpAny (model X.prog X.w) X.A (pyIter (.ref s.heap.objs.size)) (PIE X pins σ tg R) E {s with heap:=s.heap.push {cls:=.type "range",data:=.fields #[.int lo t,.int a u,.int 2 v]},toks:=tk}:=by
 refine wpAny_pyIter_range (IsRange.new ..) (rp h f j d) ?_;have c:Inv X pins σ H {s with heap:=s.heap.push {cls:=.type "range",data:=.fields #[.int lo t,.int a u,.int 2 v]},toks:=tk}:=I.kept λb o e=>agm _ e;refine⟨_,_,_,_,H,rfl,c.kept (t':=tk) λb o e=>agm _ e,mJ _ lo ((a-lo+1)/2).toNat,?_,λb g=>?_,q⟩
 .have k:lo+((0:Nat):Int)*2=lo:=by simp
  have i:((((a-lo+1)/2).toNat:Nat):Int)-((0:Nat):Int)=Builtin.Range.rangeSize lo a 2:=by rw[fm];simp
  rw[k,i];exact agA _ rfl
 .have e:b=(s.heap.push {cls:=.type "range",data:=.fields #[.int lo t,.int a u,.int 2 v]}).objs.size:=by simpa using g
  subst e;exact c.ab7 (agx _) (c.hok.fresh (agx _))
def tE(ta:TA):TI:=λσ H R=>ta σ H λa b=>∃i j:Int,a=[.int i,.int j,.int 2]/\(-2^60<=i/\i<2^60/\-2^60<=j/\j<2^60)/\R (adj i ((j-i+1)/2).toNat) b
def rT{a b c ta p pos}(o:Gl X "range")(w:X.mg "range"=none)(m:PA X [a,b,c] ta)(hs:starEach [a,b,c] X.env=[(false,eval a X.env),(false,eval b X.env),(false,eval c X.env)]:=by rfl)(d:starEach [b,c] X.env=[(false,eval b X.env),(false,eval c X.env)]:=by rfl):PI X tg (.Call (.Name "range" p) [a,b,c] [] pos) (tE ta):=by intro k s σ H R I h;refine Call_ (eM I o w ajn (ag4 (thn (m _ _ s σ H _ I h) λB z g=>?_) (by grind) (by rw[d];rfl)));obtain⟨D,A,x,n,f⟩:=g;obtain⟨i,j,e,⟨f,y,l,v⟩,q⟩:=f;subst e;cases n with|cons r rr=>cases rr with|cons r' rr=>cases rr with|cons r'' rr=>cases rr;obtain⟨t,rfl⟩:=r;obtain⟨C,rfl⟩:=r';obtain⟨u,rfl⟩:=r'';exact call_range_3 (by decide) (rL x f y l v q) (Or.inl (PyProof.noPylong_small (by omega)))
end
end L2
namespace WS
open PySem PySem.Spec PyProof.Rows L2 PySem.Builtin PySem.Builtin.Str
open WL(Res Sl Ws EF TF AF LF GF GsF SF Out)
section
variable{X:Cx}{B:Bx}{K:W.Frag}{tg:Expr}{ta tb:EF}
def qQ{lo n F}:Walk K (adj lo n) (WL.vv lo 2 n) F:=by
 refine⟨λi x e c f d h=>?_,λc f d h=>by show n<=(WL.vv _ 2 n).length;simp[WL.vv]⟩;have b:=by have:=(agu.mp e).1;simpa[WL.vv]using this
 simp [WL.vv,ahq b]at e;cases e;refine⟨b,λu k a=>?_⟩;obtain⟨j,g⟩:=a;subst j g;exact⟨c,Ext.refl _ _,rfl⟩
def xZ{a c d p pos b}(z:Gl X "range")(I:X.mg "range"=none)(h:PE X a (lo B ta))(h':PE X c (lo B tb))(hs:starEach [a,c,.Constant (.int 2) d b] X.env=[(false,eval a X.env),(false,eval c X.env),(false,eval (.Constant (.int 2) d b) X.env)]:=by rfl)(g:starEach [c,.Constant (.int 2) d b] X.env=[(false,eval c X.env),(false,eval (.Constant (.int 2) d b) X.env)]:=by rfl)(G:starEach [a,c,.Constant (.int 2) d b] X.env=(false,eval a X.env)::starEach [c,.Constant (.int 2) d b] X.env:=by rfl)(u:starEach [c,.Constant (.int 2) d b] X.env=(false,eval c X.env)::starEach [.Constant (.int 2) d b] X.env:=by rfl)(A:starEach [.Constant (.int 2) d b] X.env=(false,eval (.Constant (.int 2) d b) X.env)::starEach [] X.env:=by rfl):PI X tg (.Call (.Name "range" p) [a,c,.Constant (.int 2) d b] [] pos) (loI B (WL.tE ta tb)):=PI.imp (rT z I (bO h (bO h' (bO xE dM A) u) G) hs g) λt H R j=>by refine cW j λσ F r q=>?_;have q:=Rq.bind q;refine eI σ F r (Rq.mono (aw.refl _) q λx l v M C s m E=>?_);have l:=Rq.bind l;refine eI σ C s (Rq.mono m.f l λy e P w o R2 n D=>?_);cases x with
|int i=>cases y with|int k=>
   have e:Rq B σ F (if -2^60<=i/\i<2^60/\-2^60<=k/\k<2^60 then Res.ok _ else .bad) _:=e;subst E D;by_cases f:-2^60<=i/\i<2^60/\-2^60<=k/\k<2^60;.rw[ago f]at e;exact hJ i k rfl f ((show∀J N O,_ from e) _ w o R2 (m.trans n) qQ)
   .rw[agq f]at e;exact(show False from e).elim|_=>exact(show False from e).elim
|_=>exact(show False from e).elim
end
section
variable{X:Cx}{B:Bx}
def int_text{i:Int}(h:i.natAbs<1000):(Str.ofString (toString i)).length<=10/\i.natAbs.log2<1920:=by
 have a:((List.range 1000).all λn=>Nat.ble (Str.ofString (toString (Int.ofNat n))).length 10&&Nat.ble (Str.ofString (toString (Int.neg (Int.ofNat n)))).length 10)=true:=by decide+kernel
 have k:=ag3.mp a i.natAbs (agB.mpr h);rw[agE,Nat.ble_eq,Nat.ble_eq]at k;refine⟨?_,?_⟩
 .rcases Int.natAbs_eq i with e|e;.rw[e];exact k.1
  .rw[e];exact k.2
 .by_cases z:i.natAbs=0;.rw[z];decide
  .rw[Nat.log2_lt z];exact agv h (by decide)
def wW{pins:List (Addr×Obj)}{σ:L2.St}{H:Hp}{s:Shared}(I:Inv X pins σ H s){h':Heap}(k:∀b o,s.heap.get? b=some o->h'.get? b=some o):Inv X pins σ H {s with heap:=h'}:=I.acK (ch:=[]) (λb a=>absurd a agI) (λb o q _ _=>k b o q) λb o q _ _=>⟨o.slots,k b o q⟩
def afT(K:W.Frag)(U:Nat)(ta:TE):TE:=λσ H Q=>ta σ H λx e=>(∃y:Str,x=.str y/\(∀c∈y.cps.toList,c<16^8)/\y.length<=5000/\∀z:Str,z.length<=10*y.length+2->Q (.str z) e)\/(∃n d a,x=.ref a/\IsD K e n x d/\d.showable=true/\d.hasDict=false/\U+n<cLine/\d.shown.length<=80000/\Q (.str d.shown) e)\/∃z:Str,((∃i:Int,x=.int i/\i.natAbs.log2<1920/\z=toString i)\/x=.non/\z="None"\/∃b:Bool,x=.bl b/\z=if b then("True":Str)else"False")/\z.length<=1000/\Q (.str z) e
def abk{e:Expr}{pos:Pos}{ta:TE}(C:X.A.guards=some [])(v:PE X e ta):PE X (.FormattedValue e 114 none pos) (afT X.K X.A.units ta):=by
 intro l s σ H Q I h;refine wpAny_FormattedValue_repr (thn (v l s σ H _ I h) λu O p=>?_);obtain⟨x,j,g,m,q⟩:=p;rcases q with⟨y,ex,G,R,q⟩|⟨n,d,a,ex,w,J,r,T,f,q⟩|⟨z,(⟨i,ex,E,k⟩|⟨ex,k⟩|⟨b,ex,k⟩),f,q⟩;.subst ex;obtain⟨t,rfl⟩:=m;have f:=StrLaws.reprText_len y G;have c:(reprText y).length<=sizeLine:=agy f (agy (show 10*y.length+2<=50002 by omega) (by decide));exact pyReprObj_str (ahd (λo tk=>⟨.str (reprText y),j,(g.tok _).tok tk,⟨_,rfl⟩,q _ f⟩) c) c
 .subst ex;cases show u=Value.ref a from m;obtain⟨⟨S,K⟩,N,P⟩:=g.reads n d (.ref a) _ w rfl;have c:d.shown.length<=sizeLine:=agy f (by decide);refine pyReprObj_of_reads K J (λz=>by rw[r]at z;cases z) C (by omega) (λ_ _ q=>q) (λM u tk D=>?_) c;exact ahd (λo A=>⟨.str d.shown,j,((wW g D).tok _).tok _,⟨_,rfl⟩,q⟩) c
 .subst ex k;obtain⟨t,rfl⟩:=m;exact pyReprObj_int E (ahd (λo tk=>⟨.str (toString i),j,(g.tok _).tok tk,⟨_,rfl⟩,q⟩) (agy f (by decide)))
 .subst ex k;cases show u=Value.none from m;exact pyReprObj_none (ahd (λo tk=>⟨.str "None",j,(g.tok _).tok tk,⟨_,rfl⟩,q⟩) (agy f (by decide)))
 .subst ex k;cases show u=Value.bool b from m;exact pyReprObj_bool (ahd (λo tk=>⟨.str _,j,(g.tok _).tok tk,⟨_,rfl⟩,q⟩) (agy f (by decide)))
theorem dF:∀l:List PyData,(PyData.shownAll l).length=l.length|[]=>rfl|x::l=>by simp only[PyData.shownAll,agJ,dF l]
theorem vo:∀{ws:List VW}{n k:Nat},WL.shL ws=some n->WL.e8 (k+1) ws=true->PyData.showableAll (dy ws)=true/\PyData.hasDictAll (dy ws)=false/\((PyData.shownAll (dy ws)).map (·.length)).sum+2*(dy ws).length+3<=n
|[],n,k,e,_=>by cases e;exact⟨rfl,rfl,agx _⟩|.str x::ws,n,k,e,o=>by
 obtain⟨m,em,rfl⟩:=agR.mp (show(WL.shL ws).map (.+(10*x.length+4))=some n from e);have o:=ahj.mp o;obtain⟨d,b,h⟩:=vo em o.2;have j:∀c∈x.cps.toList,c<16^8:=λc g=>by
  have:=Array.all_eq_true_iff_forall_mem.mp o.1 c (by simpa using g);have f:c<1114112:=by simpa using this
  exact ai7 f (by decide)
 have l:=StrLaws.reprText_len x j;refine⟨by simpa[dy,pN,pO,PyData.showableAll,PyData.showable]using d,by simpa[dy,pN,pO,PyData.hasDictAll,PyData.hasDict]using b,?_⟩;simp only[dy,pN,pO,PyData.shownAll,PyData.shown,agP,List.sum_cons,agJ];omega|.int i::ws,n,k,e,o=>by
 have e:(if i.natAbs<1000 then(WL.shL ws).map (.+12)else none)=some n:=e;by_cases a:i.natAbs<1000;.rw[ago a]at e;obtain⟨m,em,rfl⟩:=agR.mp e;have o:=ahj.mp o;obtain⟨d,b,h⟩:=vo em o.2;have ht:=int_text a;refine⟨by simpa[dy,pN,pO,PyData.showableAll,PyData.showable,ht.2]using d,by simpa[dy,pN,pO,PyData.hasDictAll,PyData.hasDict]using b,?_⟩;simp only[dy,pN,pO,PyData.shownAll,PyData.shown,agP,List.sum_cons,agJ];have:=ht.1;omega
 .rw[agq a]at e;cases e|.non::_,_,_,e,_=>by cases e|.bl _::_,_,_,e,_=>by cases e|.ty _::_,_,_,e,_=>by cases e|.tup _::_,_,_,e,_=>by cases e|.lst _::_,_,_,e,_=>by cases e|.dic _ _::_,_,_,e,_=>by cases e|.cls _::_,_,_,e,_=>by cases e|.exc _ _::_,_,_,e,_=>by cases e|.ins _ _::_,_,_,e,_=>by cases e
inductive PJ(X:Cx)(B:Bx):List Expr->AF->Prop where|nil:PJ X B [] WL.ax|c{x:Str}{j:Nat}{pos:Pos}{es:List Expr}{t:AF}(h:PJ X B es t)(hl:x.length<=1000):PJ X B (.Constant (.str x) j pos::es) t|f{e:Expr}{pos:Pos}{es:List Expr}{ta:EF}{t:AF}(he:PE X e (lo B ta))(h:PJ X B es t):PJ X B (.FormattedValue e (-1) none pos::es) (WL.ae (WL.eFf ta) t)|r{e:Expr}{pos:Pos}{es:List Expr}{ta:EF}{t:AF}(hK:X.K=B.K)(hu:X.A.units+64<cLine)(hg:X.A.guards=some [])(he:PE X e (lo B ta))(h:PJ X B es t):PJ X B (.FormattedValue e 114 none pos::es) (WL.ae (WL.eFr ta) t)
def aan:PJ X B [] WL.ax:=.nil
def afP{x:Str}{j:Nat}{pos:Pos}{es:List Expr}{t:AF}(h:PJ X B es t)(a:x.length<=1000:=by decide+kernel):PJ X B (.Constant (.str x) j pos::es) t:=.c h a
def afO{e:Expr}{pos:Pos}{es:List Expr}{ta:EF}{t:AF}(hK:X.K=B.K)(a:X.A.units+64<cLine)(c:X.A.guards=some [])(b:PE X e (lo B ta))(h:PJ X B es t):PJ X B (.FormattedValue e 114 none pos::es) (WL.ae (WL.eFr ta) t):=.r hK a c b h
def dS(x y:Str):(x++y).length=x.length+y.length:=by show(x.cps++y.cps).size=_;rw[Array.size_append];rfl
def fk{n m:Nat}{a:Str}(h:a.length<=100000*n)(b:n+m<=50):a.length<=sizeLine:=agy h (agy (Nat.mul_le_mul_left 100000 (show n<=50 by omega)) (by decide))
theorem gf:∀{es:List Expr}{t:AF},PJ X B es t->∃P,Paired (PE X) es P/\∀(σ:Ws)(j:L2.St)(F H:Hp)(Q:VK)(e:Str)(n:Nat),RS B σ j F H->n+es.length<=50->e.length<=100000*n->Rq B σ F (t σ) (λ_=>∀o p(y:Str),RS B σ j p o->Gr F H p o->Q (.str y) o)->tJ P e j H Q
|_,_,.nil=>⟨[],.nil,λσ j F H Q e n R O Y q=>⟨fk Y O,(show∀o p(y:Str),_ from q) H F e R Gr.refl⟩⟩|_,_,.c (x:=x) (es:=es) h hl=>by
  obtain⟨P,U,J⟩:=gf h;refine⟨_,.cons xB U,λσ j F H Q e n R O Y q=>?_⟩;have g:n+1+es.length<=50:=by simp at O;omega
  have d:(e++x).length<=100000*(n+1):=by rw[dS];omega
  exact⟨x,rfl,fk d g,J σ j F H Q (e++x) (n+1) R g d q⟩|_,_,.f (es:=es) (ta:=ta) (t:=t) he h=>by
  obtain⟨P,U,J⟩:=gf h;refine⟨_,.cons (abn he) U,λσ j F H Q e n R O Y q=>?_⟩;have g:n+1+es.length<=50:=by simp at O;omega
  have q:=Rq.bind (Rq.bind q);refine⟨σ,F,R,Rq.mono (aw.refl _) q λx f v K N I s r=>?_⟩;have rest:∀y:Str,y.length<=1000->(∃z,WL.afA x=.ok z)->∃y',V.str y=.str y'/\(e++y').length<=sizeLine/\tJ P (e++y') j K Q:=λy hy⟨z,M⟩=>by
   rw[M]at f;have d:(e++y).length<=100000*(n+1):=by rw[dS];omega
   refine⟨y,rfl,fk d g,J σ j N K Q (e++y) (n+1) I g d ?_⟩;exact Rq.mono s.f (Rq.bind (show Rq B σ F ((t σ).bind λA=>.ok (z::A)) _ from f)) λws k o p C R2 w=>(show∀o p(y:Str),_ from k) o p C R2 (s.trans w)
  cases x with|int i=>
   simp only[RW]at r;subst r;by_cases l:i.natAbs<1000;.have ht:=int_text l;exact .inl ⟨i,rfl,ht.2,rest (toString i) (agy ht.1 (by decide)) ⟨_,ago l⟩⟩
   .have f:Rq B σ F (if i.natAbs<1000 then Res.ok (WL.W.int i)else .bad) _:=f;rw[agq l]at f;exact(show False from f).elim|str y=>
   simp only[RW]at r;subst r;by_cases l:y.length<=1000;.exact .inr ⟨y,rfl,agy l (by decide),rest y l ⟨_,ago l⟩⟩
   .have f:Rq B σ F (if y.length<=1000 then Res.ok (WL.W.str y)else .bad) _:=f;rw[agq l]at f;exact(show False from f).elim|_=>exact(show False from f).elim
|_,_,.r (es:=es) (ta:=ta) (t:=t) hK hu hg he h=>by
  obtain⟨P,U,J⟩:=gf h;refine⟨_,.cons (abk hg he) U,λσ j F H Q e n R O Y q=>?_⟩;have g:n+1+es.length<=50:=by simp at O;omega
  have q:=Rq.bind (Rq.bind q);refine⟨σ,F,R,Rq.mono (aw.refl _) q λx f v K N I s r=>?_⟩;cases x with|str y=>
   simp only[RW]at r;subst r;by_cases l:y.length<=5000/\(y.cps.toList.all λc=>Nat.ble c 1114111)=true
   .have M:WL.aab (.str y)=.ok (.str y):=ago l;rw[M]at f;refine .inl ⟨y,rfl,λc hc=>Nat.lt_of_le_of_lt (Nat.ble_eq.mp (ag3.mp l.2 c hc)) (by decide),l.1,λz hz=>?_⟩;have d:(e++z).length<=100000*(n+1):=by rw[dS];have:=l.1;omega
    refine⟨z,rfl,fk d g,J σ j N K Q (e++z) (n+1) I g d ?_⟩;exact Rq.mono s.f (Rq.bind (show Rq B σ F ((t σ).bind λA=>.ok (.str y::A)) _ from f)) λws k o p C R2 w=>(show∀o p(y:Str),_ from k) o p C R2 (s.trans w)
   .have f:Rq B σ F (if y.length<=5000/\(y.cps.toList.all λc=>Nat.ble c 1114111)=true then Res.ok (WL.W.str y)else .bad) _:=f;rw[agq l]at f;exact(show False from f).elim|lst ws=>
   by_cases l:WL.shC ws=true;.have M:WL.aab (.lst ws)=.ok (.lst ws):=ago l;rw[M]at f;have D:(WL.e8 51 ws&&match WL.shL ws with|some n=>decide (n<=80000)|none=>false)=true:=l;rw[agE]at D;obtain⟨S,E⟩:=D;cases u:WL.shL ws with|none=>rw[u]at E;cases E|some m=>
     rw[u]at E;have E:m<=80000:=by simpa using E
     obtain⟨s1,s2,s3⟩:=vo u S;have Z:=RW.isD 51 (.lst ws) v S (r.keep I.rb.sub);simp only[RW]at r;obtain⟨a,vs,rfl,_,_⟩:=r;have G:(PyData.shown (.list (dy ws))).length<=80000:=by have h1:=listText_len_le (PyData.shownAll (dy ws));have h2:(PyData.shownAll (dy ws)).length=(dy ws).length:=dF (dy ws);simp only[PyData.shown];omega
     refine .inr (.inl ⟨51,.list (dy ws),a,rfl,by rw[hK];exact Z,by simpa only[PyData.showable]using s1,by simpa only[PyData.hasDict]using s2,by omega,G,?_⟩);have d:(e++PyData.shown (.list (dy ws))).length<=100000*(n+1):=by rw[dS];omega
     refine⟨_,rfl,fk d g,J σ j N K Q _ (n+1) I g d ?_⟩;exact Rq.mono s.f (Rq.bind (show Rq B σ F ((t σ).bind λA=>.ok (.lst ws::A)) _ from f)) λws k o p C R2 w=>(show∀o p(y:Str),_ from k) o p C R2 (s.trans w)
   .have f:Rq B σ F (if WL.shC ws=true then Res.ok (WL.W.lst ws)else .bad) _:=f;rw[agq l]at f;exact(show False from f).elim|tup ws=>
   by_cases l:WL.shC ws=true;.have M:WL.aab (.tup ws)=.ok (.tup ws):=ago l;rw[M]at f;have D:(WL.e8 51 ws&&match WL.shL ws with|some n=>decide (n<=80000)|none=>false)=true:=l;rw[agE]at D;obtain⟨S,E⟩:=D;cases u:WL.shL ws with|none=>rw[u]at E;cases E|some m=>
     rw[u]at E;have E:m<=80000:=by simpa using E
     obtain⟨s1,s2,s3⟩:=vo u S;have Z:=RW.isD 51 (.tup ws) v S (r.keep I.rb.sub);simp only[RW]at r;obtain⟨a,vs,rfl,_,_⟩:=r;have G:(PyData.shown (.tuple (dy ws))).length<=80000:=by have h1:=tupleText_len_le (PyData.shownAll (dy ws));have h2:(PyData.shownAll (dy ws)).length=(dy ws).length:=dF (dy ws);simp only[PyData.shown];omega
     refine .inr (.inl ⟨51,.tuple (dy ws),a,rfl,by rw[hK];exact Z,by simpa only[PyData.showable]using s1,by simpa only[PyData.hasDict]using s2,by omega,G,?_⟩);have d:(e++PyData.shown (.tuple (dy ws))).length<=100000*(n+1):=by rw[dS];omega
     refine⟨_,rfl,fk d g,J σ j N K Q _ (n+1) I g d ?_⟩;exact Rq.mono s.f (Rq.bind (show Rq B σ F ((t σ).bind λA=>.ok (.tup ws::A)) _ from f)) λws k o p C R2 w=>(show∀o p(y:Str),_ from k) o p C R2 (s.trans w)
   .have f:Rq B σ F (if WL.shC ws=true then Res.ok (WL.W.tup ws)else .bad) _:=f;rw[agq l]at f;exact(show False from f).elim|bl b=>
   simp only[RW]at r;subst r;have T:(if b then("True":Str)else"False").length<=10:=by cases b<;>decide
   refine .inr (.inr ⟨if b then("True":Str)else"False",.inr (.inr ⟨b,rfl,rfl⟩),agy T (by decide),?_⟩);have d:(e++if b then("True":Str)else"False").length<=100000*(n+1):=by rw[dS];omega
   refine⟨_,rfl,fk d g,J σ j N K Q _ (n+1) I g d ?_⟩;exact Rq.mono s.f (Rq.bind (show Rq B σ F ((t σ).bind λA=>.ok (.bl b::A)) _ from f)) λws k o p C R2 w=>(show∀o p(y:Str),_ from k) o p C R2 (s.trans w)|int i=>
   simp only[RW]at r;subst r;by_cases l:i.natAbs<1000
   .have M:WL.aab (.int i)=.ok (.int i):=ago l;rw[M]at f;have ht:=int_text l;refine .inr (.inr ⟨toString i,.inl ⟨i,rfl,ht.2,rfl⟩,agy ht.1 (by decide),?_⟩);have d:(e++(toString i:Str)).length<=100000*(n+1):=by rw[dS];have:=ht.1;omega
    refine⟨_,rfl,fk d g,J σ j N K Q _ (n+1) I g d ?_⟩;exact Rq.mono s.f (Rq.bind (show Rq B σ F ((t σ).bind λA=>.ok (.int i::A)) _ from f)) λws k o p C R2 w=>(show∀o p(y:Str),_ from k) o p C R2 (s.trans w)
   .have f:Rq B σ F (if i.natAbs<1000 then Res.ok (WL.W.int i)else .bad) _:=f;rw[agq l]at f;exact(show False from f).elim|non=>
   simp only[RW]at r;subst r;refine .inr (.inr ⟨"None",.inr (.inl ⟨rfl,rfl⟩),by decide,?_⟩);have T:("None":Str).length<=10:=by decide
   have d:(e++("None":Str)).length<=100000*(n+1):=by rw[dS];omega
   refine⟨_,rfl,fk d g,J σ j N K Q _ (n+1) I g d ?_⟩;exact Rq.mono s.f (Rq.bind (show Rq B σ F ((t σ).bind λA=>.ok (.non::A)) _ from f)) λws k o p C R2 w=>(show∀o p(y:Str),_ from k) o p C R2 (s.trans w)|_=>exact(show False from f).elim
def qF{x:Str}{C:Addr}{nm:String}{i h:Expr}{es:List Expr}{a:AF}{w b d pos:Pos}(hK:X.K=B.K)(v:XW X B)(E:X.calm=true)(p:Gl X x)(K:X.mg x=some (.ref C))(q:pE X.K C none)(G:ExcAt X.K nm C)(A:WL.fieldsOf nm=[])(r:PJ X B (i::h::es) a)(N:es.length<=40:=by decide)(o:Dbg x:=by decide)(k:evalEach es X.env=es.map λe=>eval e X.env:=by rfl)(hs:starEach [Expr.JoinedStr (i::h::es) b] X.env=(false,eval (.JoinedStr (i::h::es) b) X.env)::starEach [] X.env:=by rfl)(c:BT X d []:=by rfl):PS X (.Raise (some (.Call (.Name x w) [.JoinedStr (i::h::es) b] [] d)) none pos) (loS B (WL.mQ nm a)):=by obtain⟨M,I,u⟩:=gf r;refine PS.imp (oH E p K q (bO (yN I k) dM hs) o hs c) λD f H j=>?_;obtain⟨σ,F,R,q⟩:=j;have q:=Oq.ofR q;refine u σ f F H _ Str.empty 0 R (by simp;omega) (agx _) (Rq.mono (aw.refl _) q λws z m l y n J=>?_);refine⟨show 1<=sizeLine by decide,λg s e t=>?_⟩;exact v g f m s σ l (.exc nm []) n (B.mono _ σ F l J.f z) e C none none _ t ⟨G,[],by rw[A];rfl,by simp[RWs],.inl ⟨rfl,rfl⟩⟩
end
end WS
namespace L2
open PySem PySem.Spec PyProof.Rows PySem.Builtin
end L2
namespace WS
open PySem PySem.Spec PyProof.Rows L2 PySem.Builtin PySem.Builtin.Str
open WL(Res Sl Ws EF TF AF LF GF GsF SF Out)
end WS
namespace WL
open PySem
noncomputable def ad0:W->Res W|.str y=>if y.length<=100000 then .ok (.str y)else .bad|_=>.bad
def ePt(e:EF):EF:=λσ=>(e σ).bind ad0
end WL
namespace WS
open PySem PySem.Spec PyProof.Rows L2 PySem.Builtin PySem.Builtin.Str
open WL(Res Sl Ws EF TF AF LF GF GsF SF Out)
section
variable{X:Cx}{B:Bx}{K:W.Frag}
inductive PF(X:Cx)(B:Bx):List Expr->AF->Prop where|nil:PF X B [] WL.ax|c{x:Str}{j:Nat}{pos:Pos}{es:List Expr}{t:AF}(h:PF X B es t)(hl:x.length<=1000):PF X B (.Constant (.str x) j pos::es) (WL.ae (WL.eC (.str x)) t)|f{e:Expr}{pos:Pos}{es:List Expr}{ta:EF}{t:AF}(he:PE X e (lo B ta))(h:PF X B es t):PF X B (.FormattedValue e (-1) none pos::es) (WL.ae (WL.ePt ta) t)
end
end WS
namespace WL
open PySem
end WL
namespace WS
open PySem PySem.Spec PyProof.Rows L2
open WL(Res Sl Ws EF TF AF LF GF GsF SF Out)
end WS
namespace WL
open PySem
noncomputable def sU:W->Bool|.str _=>true|.int _=>true|.non=>true|_=>false
noncomputable def iU:W->W->Bool|.str x,.str y=>x==y|.int i,.int j=>i==j|.non,.non=>true|_,_=>false
def zJ(k:W)(ks:List W):Bool:=ks.any λx=>iU x k
noncomputable def l5(k v:W):List W->List W->List W|k'::ks,v'::vs=>(if iU k' k then v else v')::l5 k v ks vs|_,_=>[]
noncomputable def rD(i:Nat):SF:=λσ=>.nx (σ.set i (.od [] []))
def putK(ks:List W)(k:W):List W:=if zJ k ks then ks else ks++[k]
def aa2(ks us:List W)(k v:W):List W:=if zJ k ks then l5 k v ks us else us++[v]
def putD(i:Nat)(ks us:List W)(k v:W)(σ:Ws):Out:=if sU k=true/\ks.length<lim then .nx (σ.set i (.od (putK ks k) (aa2 ks us k v)))else .bad
def jZ(i:Nat)(a b:EF):SF:=λσ=>match σ[i]? with|some (.od ks us)=>ofR σ (a σ) λv=>ofR σ (b σ) λk=>putD i ks us k v σ|_=>.bad
def af2(x y:W):Res W:=match x,y with|.str a,.str b=>.ok (.bl !(Builtin.Str.occurrences b a 0 b.length 1).isEmpty)|_,.str _=>.bad|x,y=>oIn x y
end WL
namespace WL
end WL
namespace WS
open PySem PySem.Spec PyProof.Rows L2
open WL(Res Sl Ws EF TF AF LF GF GsF SF Out)
end WS
namespace PySem
end PySem
namespace L2
open PySem PySem.Spec PyProof.Rows
end L2
namespace WS
open PySem PySem.Spec PyProof.Rows L2
open WL(Res Sl Ws EF TF AF LF GF GsF SF Out)
section
variable{X:Cx}{B:Bx}{K:W.Frag}
noncomputable def kW:Key->VW|.inl none=>.non|.inl (some i)=>.int i|.inr z=>.str z
def lW{F x a}(h:RW K F x (kV a)):x=kW a:=by rcases a with(_|i)|z<;>cases x<;>simp only[kV,RW,reduceCtorEq,false_and,exists_false]at h<;>cases h<;>rfl
def km{F x y}:∀{a b},RW K F x (kV a)->RW K F y (kV b)->WL.iU x y=decide (a=b):=by intro a b d c;rw[lW d,lW c,ag7];rcases a with(_|i)|z<;>rcases b with(_|j)|e<;>simp[WL.iU,kW]
def xK{F}{k:VW}{v}(b:WL.sU k=true)(r:RW K F k v):∃a,v=kV a:=by
 cases k<;>simp [WL.sU]at b;.exact⟨.inl none,r⟩
 .rename_i i;exact⟨.inl (some i),r⟩
 .rename_i x;exact⟨.inr x,r⟩
theorem uq{F k a}(b:RW K F k (kV a)):∀{kvs:List (Key×V)}{ks},RWs K F ks (kvs.map λp=>kV p.1)->WL.zJ k ks=kvs.any λc=>decide (c.1=a)
|[],ks,r=>by cases ks with|nil=>rfl|cons x ks=>simp[RWs]at r
|p::kvs,ks,r=>by cases ks with|nil=>simp[RWs]at r|cons x ks=>obtain⟨g,h,f,e,d⟩:=r;cases f;show(WL.iU x k||WL.zJ k _)=_;rw[km e b,uq b d];rfl
theorem uo{F k w a v}(i:RW K F k (kV a))(d:RW K F w v):∀{kvs:List (Key×V)}{ks us},RWs K F ks (kvs.map λp=>kV p.1)->RWs K F us (kvs.map λp=>p.2)->RWs K F ks ((kvs.map λb=>if b.1=a then(b.1,v)else b).map λp=>kV p.1)/\RWs K F (WL.l5 k w ks us) ((kvs.map λb=>if b.1=a then(b.1,v)else b).map λp=>p.2)
|[],ks,us,r1,r2=>by cases ks with
 |nil=>cases us with|nil=>exact⟨r1,r2⟩|cons _ _=>simp[RWs]at r2
 |cons x ks=>simp[RWs]at r1
|p::kvs,ks,us,r1,r2=>by cases ks with|nil=>simp[RWs]at r1|cons x ks=>cases us with|nil=>simp[RWs]at r2|cons y us=>
    obtain⟨r,t,n,c,j⟩:=r1;obtain⟨s,q,m,o,l⟩:=r2;cases n;cases m;obtain⟨g,f⟩:=uo i d j l;have e:=km c i;unfold WL.l5;rw[e];by_cases h:p.1=a;.rw[ahD h,ago rfl];simp only[agP,ago h];exact⟨.cons c g,.cons d f⟩
    .rw[agX h,agq agK];simp only[agP,agq h];exact⟨.cons c g,.cons o f⟩
def yB{F k w a v}(b:RW K F k (kV a))(d:RW K F w v){kvs ks us}(c:RWs K F ks (kvs.map λp=>kV p.1))(e:RWs K F us (kvs.map λp=>p.2)):RWs K F (WL.putK ks k) ((putK kvs a v).map λp=>kV p.1)/\RWs K F (WL.aa2 ks us k w) ((putK kvs a v).map λp=>p.2):=by
 unfold WL.putK WL.aa2 L2.putK;rw[uq b c];by_cases h:(kvs.any λf=>decide (f.1=a))=true;.rw[ago h,ago h,ago h];exact uo b d c e
 .rw[agq h,agq h,agq h,aih,aih];exact⟨c.app (.one b),e.app (.one d)⟩
variable{i j:Nat}{pos pos':Pos}{x:Str}
def xX{a}(n:X.N.Nodup)(g:X.N[i]?=some x)(r:Loc X.env.scope x)(hs:swapsWith (.Dict [] [] a) (some (.Name x pos')) pos.line X.env=pure false:=by rfl)(h:FL X x:=by first|exact .inl rfl|exact .inr rfl|assumption):PS X (.Assign [.Name x pos'] (.Dict [] [] a) pos) (loS B (WL.rD i)):=PS.imp (oG n g r vK hs h) λD m H d=>by refine cW d λσ F R q=>?_;intro p c;refine q _ _ F ((R.afl c _).afY (R.rb.sub.free c) (R.rb.base.free c) aq (rfl) (rfl) λj s t _ k o=>?_) (aw.refl _);refine qu (R.dd.od j s t k) λb l e _ _ f _=>?_;rw[o]at e;cases e;rw[c]at f;cases f
def mB{o l b tv tk}(Z:X.A.units+1<cLine)(M:PE X o (yd i))(Q:PE X l (lo B tk))(T:PE X b (lo B tv))(hs:swapsWith b (some (.Subscript o l pos')) pos.line X.env=pure false:=by rfl):PS X (.Assign [.Subscript o l pos'] b pos) (loS B (WL.jZ i tv tk)):=PS.imp (yE Z M Q T hs) λD g H h=>by refine cW h λσ F R q=>?_;have q:Oq B D F (match σ[i]? with|some (.od ks us)=>WL.ofR σ (tv σ) _|_=>.bad):=q;cases e:σ[i]? with|none=>rw[e]at q;exact q.elim|some sl=>
 rw[e]at q;cases sl with|od ks us=>
   have q:=Oq.ofR q;refine⟨σ,F,R,Rq.mono (aw.refl _) q λw m v H1 J t z S=>?_⟩;refine cW (t.dd.od i ks us e) λa P n _=>?_;refine⟨.ref a,n,?_⟩;have m:=Oq.ofR m;refine⟨σ,J,t,Rq.mono z.f m λk c y H2 E R2 p u=>?_⟩;refine adn (R2.dd.od i ks us e) λa' d A Y G r s I=>?_;rw[n]at A;cases A;have c:Oq B D F (if WL.sU k=true/\ks.length<WL.lim then .nx _ else .bad):=c;by_cases f:WL.sU k=true/\ks.length<WL.lim
   .rw[ago f]at c;obtain⟨O,rfl⟩:=xK f.1 u;have U:d.length<sizeLine:=by have:=s.length;rw[agO]at this;rw[<-this];exact agv f.2 fw
    obtain⟨N,C⟩:=yB u (S.keep p.f) s I;exact⟨a,_,rfl,acz.k r U,c g _ E (R2.aam e n Y G r N C) (z.f.trans p.f)⟩
   .rw[agq f]at c;exact c.elim|_=>exact q.elim
end
end WS
set_option autoImplicit true
set_option relaxedAutoImplicit true
namespace L2
open PySem PySem.Spec PyProof.Rows
end L2
namespace WS
open PySem PySem.Spec PyProof.Rows L2
open WL(Res Sl Ws EF TF AF LF GF GsF SF Out)
section
variable{B B1:Bx}{σ:Ws}{σV:L2.St}{F H F' H':Hp}
structure Ex(f:Str)(x C dx d:Addr)(σV:L2.St)(F H:Hp):Prop where
 sl:σV[0]?=some (some (.ref x))F:F x=none
 H:H x=some (.ins C dx [(f,.ref d)])
def Oq4(B:Bx)(f:Str)(x C dx:Addr)(D:Ends)(F:Hp):Out->Prop|.nx σ'=>∀a d H' F',a.length=3->RS B σ' (a++[some (.ref d)]) F' H'->Ex f x C dx d a F' H'->aw F F'->D.nx a H'|.ex c σ'=>B.xp c σ' F|_=>False
theorem Oq4.mono{f x C dx D F F' o}(s:aw F F')(h:Oq4 B f x C dx D F o):Oq4 B f x C dx D F' o:=by cases o with|nx σ=>exact λσV d H G a R ex z=>h _ d H G a R ex (s.trans z)|ex c σ=>exact B.mono c σ F _ s h|_=>exact h
end
noncomputable def zt(H:Hp)(x:Addr):Hp:=λb=>if b=x then none else H b
def iW{H x b}(h:b≠x):zt H x b=H b:=agq h
def zr :zt H x x=none:=ago rfl
def nj{H x b o}(h:zt H x b=some o):b≠x/\H b=some o:=by
 by_cases a:b=x;.subst a;rw[zr]at h;cases h
 .rw[iW a]at h;exact⟨a,h⟩
section
variable{K:W.Frag}{F:Hp}{x:Addr}{C dx:Addr}
def RWs.aeo{a}(h:∀b o,F b=some o->a b=some o\/∃C dx,o=.ins C dx []){ws vs}(r:RWs K F ws vs):RWs K a ws vs:=by
 have k:∀{b}{o:HO},F b=some o->(∀C dx,o≠.ins C dx [])->a b=some o:=λ{b o}e n=>by grind
 refine RWs.via (λb c q=>?_) (λb c q=>?_) (λb i q=>?_) (λb f q=>k q λ_ _ z=>nomatch z) (λb f q=>k q λ_ _ z=>nomatch z) (λb C dx l j q=>k q λg d z=>by grind) ws vs r
 .rcases q with(q|⟨o,q⟩)|q;.exact .inl (.inl (k q λ_ _ z=>nomatch z))
  .exact .inl (.inr ⟨o,k q λ_ _ z=>nomatch z⟩)
  .exact .inr q
 .rcases q with(q|⟨o,q⟩)|q;.exact .inl (.inl (k q λ_ _ z=>nomatch z))
  .exact .inl (.inr ⟨o,k q λ_ _ z=>nomatch z⟩)
  .exact .inr q
 .rcases q with q|⟨o,q⟩;.exact .inl (k q λ_ _ z=>nomatch z)
  .exact .inr ⟨o,k q λ_ _ z=>nomatch z⟩
def RWs.out(e:F x=some (.ins C dx [])){ws vs}(r:RWs K F ws vs):RWs K (zt F x) ws vs:=r.aeo λb o q=>by
 by_cases a:b=x;.subst a;rw[e]at q;cases q;exact .inr ⟨_,_,rfl⟩
 .exact .inl (by rw[iW a];exact q)
theorem XR.out(e:F x=some (.ins C dx [])){c b f}(h:XR K F c b f):XR K (zt F x) c b f:=by cases c with|exc nm fs=>obtain⟨n,g,l,k,i⟩:=h;exact⟨n,_,l,k.out e,i.imp id λa=>by obtain⟨d,m,j⟩:=a;exact⟨d,m,by rw[iW λz=>by grind];exact j⟩⟩|_=>exact h.elim
end
section
variable{B B1:Bx}{σ:Ws}{σV:L2.St}{F H F1 H1:Hp}{x C dx:Addr}
def RB.out(R:RB B1 F H)(c:B1.H0=H1)(d:B1.F0=upd F1 x (.ins C dx []))(h:F1 x=none)(g:B.H0=zt H1 x)(f:B.F0=F1):RB B (zt F x) H:=by
 refine⟨λb o e=>R.sub b o (nj e).2,λb o e=>?_,λb o e=>?_,λb o e=>?_⟩;.rw[g]at e;exact R.base b o (by rw[c];exact(nj e).2)
 .rw[f]at e;have a:b≠x:=λz=>by grind
  rw[iW a];exact R.fz0 b o (by rw[d,ai a];exact e)
 .obtain⟨a,e⟩:=nj e;rw[g,f];rcases R.fr b o e with z|z;.rw[d,ai a]at z;exact .inl z
  .exact .inr ⟨by rw[iW a,<-c];exact z.1,z.2⟩
end
def un1{n:Nat}(h:n+64<cLine):n+1<cLine:=by omega
end WS
namespace WL
open PySem
end WL
namespace L2
open PySem PySem.Spec PyProof.Rows
end L2
namespace WS
open PySem PySem.Spec PyProof.Rows L2
open WL(Res Sl Ws EF TF AF LF GF GsF SF Out)
end WS
namespace WL
open PySem
def agi(x y:W):Res W:=match y with|.dic ks _=>if sU x=true then .ok (.bl (zJ x ks))else .bad|_=>af2 x y
def afM:List W->Res W|[.dic ks _]=>if ks.length<=lim then .ok (.lst ks)else .bad|ws=>aeR ws
noncomputable def kE(k:W):List W->List W->Option W|k'::ks,v::vs=>if iU k' k then some v else kE k ks vs|_,_=>none
def qy(x y:W):Res W:=match x with|.dic ks us=>if sU y=true then ofO (kE y ks us)else .bad|_=>oIx x y
end WL
namespace L2
open PySem PySem.Spec PyProof.Rows
end L2
namespace WS
open PySem PySem.Spec PyProof.Rows L2
open WL(Res Sl Ws EF TF AF LF GF GsF SF Out)
section
variable{X:Cx}{B:Bx}{K:W.Frag}
theorem pe{F k a}(b:RW K F k (kV a))(w:VW):∀{kvs ks us},RWs K F ks (kvs.map λp=>kV p.1)->RWs K F us (kvs.map λp=>p.2)->WL.kE k ks us=some w->∃v,qX kvs a=some v/\RW K F w v
|[],ks,us,r1,r2,e=>by cases ks with|nil=>cases e|cons x ks=>simp[RWs]at r1
|p::kvs,ks,us,r1,r2,e=>by cases ks with|nil=>cases e|cons x ks=>cases us with|nil=>cases e|cons y us=>
  obtain⟨o,r,l,i,d⟩:=r1;obtain⟨q,n,j,m,f⟩:=r2;cases l;cases j;unfold WL.kE at e;rw[km i b]at e;by_cases h:p.1=a;.rw[ahD h]at e;cases e;exact⟨_,fb h,m⟩
  .rw[agX h]at e;obtain⟨v,g,c⟩:=pe b w d f e;exact⟨v,by rw[fc h];exact g,c⟩
def wM:Calm WL.qy:=λx y c h=>by
 unfold WL.qy at h;split at h
 .split at h;.revert h;cases WL.kE _ _ _<;>simp[WL.ofO]
  .cases h
 .exact uC _ _ _ h
def ads(hK:X.K=K):IxR X (lo2 K WL.qy):=by
 intro g d l s σ H x y v u Q I m h⟨F,wx,o,i,k,f,q⟩j;unfold WL.qy at q;split at q
 .rename_i r t;split at q;.rename_i p;obtain⟨b,rfl⟩:=xK p f;obtain⟨a,c,rfl,rd,D,A⟩:=k;cases e:WL.kE o r t with|none=>rw[e]at q;exact q.elim|some w=>rw[e]at q;obtain⟨z,C,n⟩:=pe f w D A e;exact s9 _ _ _ s σ H _ _ v u Q I m h ⟨a,c,b,z,rfl,rfl,i.rd rd,C,eq1 q n⟩ j
  .exact q.elim
 .exact ae2 hK _ _ _ s σ H x y v u Q I m h ⟨F,_,_,i,k,f,q⟩ j
variable{i:Nat}{pos pos':Pos}{x:Str}
end
end WS
namespace WL
open PySem PyProof.Rows PySem.Spec
end WL
namespace WL
open PySem
end WL
namespace L2
open PySem PySem.Spec PyProof.Rows
end L2
namespace WS
open PySem PySem.Spec PyProof.Rows L2
open WL(Res Sl Ws EF TF AF LF GF GsF SF Out)
end WS
namespace L2
open PySem PySem.Spec PyProof.Rows
end L2
namespace WS
open PySem PySem.Spec PyProof.Rows L2
open WL(Res Sl Ws EF TF AF LF GF GsF SF Out)
end WS
namespace WL
open PySem
end WL
namespace WS
open PySem PySem.Spec PyProof.Rows L2
open WL(Res Sl Ws EF TF AF LF GF GsF SF Out)
end WS
namespace L2
open PySem PySem.Spec PyProof.Rows PySem.Calls
end L2
namespace WS
open PySem PySem.Spec PyProof.Rows L2
open WL(Res Sl Ws EF TF AF LF GF GsF SF Out)
end WS
namespace WL
open PySem
end WL
namespace WS
open PySem PySem.Spec PyProof.Rows L2
open WL(Res Sl Ws EF TF AF LF GF GsF SF Out)
end WS
namespace WL
open PySem
end WL
namespace L2
open PySem PySem.Spec PyProof.Rows
end L2
namespace WS
open PySem PySem.Spec PyProof.Rows L2
open WL(Res Sl Ws EF TF AF LF GF GsF SF Out)
section
variable{X:Cx}{B:Bx}{a b e o:Expr}{ta tb to:EF}{pos pos' cpos apos p:Pos}{x fl m nx_:Str}{es:List Expr}{tas:AF}{i j k n d:Nat}{C f g:Addr}{ps:List Str}{fn:List VW->Res VW}{c:String}{pl:Sem Bool}
def wxD(q:B.K=X.K)(l:PE X a (lo B ta))(h:PE X b (lo B tb))(hs:kN b:=by exact λ_ _=>rfl):PE X (.Subscript a b pos) (lo B (WL.eOp WL.qy ta tb)):=aas wM (ads q.symm) l h hs
end
end WS
namespace WS
open PySem PySem.Spec PyProof.Rows L2
open WL(Res Sl Ws EF TF AF LF GF GsF SF Out)
section
variable{P:Program}{w:World}{K:W.Frag}{mg:Str->Option Value}{base:Heap}{k m n:Nat}{nm:Str}{ps N:List Str}{st:Stmt}{fn:List VW->Res VW}
abbrev MgA(K:W.Frag)(mg:Str->Option Value):Prop:=∀nm v,W.nsIn K mainGlobals nm=some (some v)->mg nm=some v
abbrev BdA(nm:Str)(ps:List Str)(st:Stmt):Prop:=∀(kV a d:Value)(e:Option Addr)(b ct:Value)(c:List Value),c.length=ps.length->bindArgs (W.fnOf nm nm (dn st) (bt st) (ag st) .none kV a d e b ct) ⟨c,[]⟩=pure (ps.zip c)
def AtD.dN(D:AtD K nm st)(p:MgA K mg)(t)(S:FnScope N ps (ag st))(h:∀{e f A g s H E B},B.K=K->Room k (A.deeper (envOfC nm (ag st) s.heap.objs.size f e))->XW (gi CX0 P w K mg base N nm (ag st) f e A g s H E).nox B->PassesOwn (model P w) (A.deeper (envOfC nm (ag st) s.heap.objs.size f e)) (envOfC nm (ag st) s.heap.objs.size f e) (λ_ _=>False)->PSs (gi CX0 P w K mg base N nm (ag st) f e A g s H E).nox (bt st) (loS B t))(o:BdA nm ps st:=by intro _ _ _ _ _ _ u h;first|exact bind1 (by intros;rfl) u h|exact wO (by intros;rfl) u h|exact acs (by intros;rfl) u h|exact acr (by intros;rfl) u h|exact acu (by intros;rfl) u h|exact acq (by intros;rfl) u h|exact acp (by intros;rfl) u h)(l:N.length=n:=by rfl)(r:ps.length=m:=by rfl)(j:WL.run n t=fn:=by rfl)(i:ps.length<=N.length:=by decide):Cal P w K mg base CX0 (k+1) nm ps [] (spW K m fn):=D.cal p o λ_ _ q=>uf t q S l r j i λ_ _ _ _ _ _ _ a b c d=>h a b c d
def AtD.dX(D:AtD K nm st)(p:MgA K mg)(t)(S:FnScope N ps (ag st))(h:∀{g f A e s H E B},B.K=K->Room k (A.deeper (envOfC nm (ag st) s.heap.objs.size f g))->XW (gi (CXX P w) P w K mg base N nm (ag st) f g A e s H E) B->PassesOwn (model P w) (gi (CXX P w) P w K mg base N nm (ag st) f g A e s H E).A (gi (CXX P w) P w K mg base N nm (ag st) f g A e s H E).env (gi (CXX P w) P w K mg base N nm (ag st) f g A e s H E).xe->PSs (gi (CXX P w) P w K mg base N nm (ag st) f g A e s H E) (bt st) (loS B t))(o:BdA nm ps st:=by intro _ _ _ _ _ _ u h;first|exact bind1 (by intros;rfl) u h|exact wO (by intros;rfl) u h|exact acs (by intros;rfl) u h|exact acr (by intros;rfl) u h|exact acu (by intros;rfl) u h|exact acq (by intros;rfl) u h|exact acp (by intros;rfl) u h)(l:N.length=n:=by rfl)(r:ps.length=m:=by rfl)(j:WL.run n t=fn:=by rfl)(i:ps.length<=N.length:=by decide):Cal P w K mg base (CXX P w) (k+1) nm ps [] (spX K m fn):=D.cal p o λ_ _ q=>zF t q S l r j i λ_ _ _ _ _ _ _ a b c d=>h a b c d
end
section
variable{X:Cx}{B:Bx}{x:Str}{pos:Pos}
def wki{i q}{w:VW}(c:B.K=X.K)(a:X.mg x=some (.int i q))(hw:w=.int i:=by rfl)(d:Gl X x:=by rfl)(b:Dbg x:=by decide):PE X (.Name x pos) (lo B (WL.eC w)):=by subst hw;exact wk c a ⟨_,rfl⟩ (v:=.int i) (λF=>rfl) d b
end
end WS
namespace WL
open PySem
end WL
namespace WS
open PySem PySem.Spec PyProof.Rows L2
open WL(Res Sl Ws EF TF AF LF GF GsF SF Out XF XA FS)
section
variable{X:Cx}{B:Bx}{z:Addr}{j i:Nat}{σ:Ws}{σV:L2.St}{F H:Hp}{st:Stmt}{e:Expr}{xa xv xk:XF}{x:Str}{pos pos':Pos}
theorem RR.write(R:RR B z j σ σV F H){ws us:List VW}{vs g:List V}{a:Addr}(b:i≠j)(e:σ[i]?=some (.ow ws))(m:σV[i]?=some (some (.ref a)))(h:F a=none)(n:B.H0 a=none)(d:H a=some (.lst vs))(t:RWs B.K F us g):RR B z j (σ.set i (.ow us)) σV F (upd H a (.lst g)):=by
 refine qv R.rm λst s l p f r=>?_;have o:z≠a:=λw=>by subst w;rw[f]at d;cases d
 refine⟨?_,R.zs,R.nf,R.n0,λk u c q=>R.apd k u c (xF (sl:=.ow us) b (λz=>z) q).2,st,s,by rw[agn b];exact l,p,by rw[ai o];exact f,r⟩;rw[List.set_comm _ _ b];exact R.rs.write (R.own b e) m h n d t
end
end WS
namespace WL
open PySem
def agg(c:String)(g h:List W->Res W):List W->Res W
|[w]=>(g [w]).bind λp=>match h [w,p]with|.ok m=>.ok (.ins c [w,p,m])|_=>.bad
|_=>.bad
end WL
namespace WL
def acH(i:Nat)(e:EF):SF:=λσ=>match σ[i]? with
|some (.ow ws)=>ofR σ (e σ) λw=>match w with|.lst zs=>if ws.length+zs.length<=lim then .nx (σ.set i (.ow (ws++zs)))else .bad|_=>.bad
|_=>.bad
end WL
namespace WL
open PySem.W(KasT kas_sort)
noncomputable def prs:List W->Option (List (Int×Int))|[]=>some []|.tup [.int a,.int b]::ws=>(prs ws).map ((a,b)::.)|_=>none
noncomputable def ltP(p q:Int×Int):Bool:=if p.1==q.1 then decide (p.2<q.2)else decide (p.1<q.1)
noncomputable def okT(n:Nat):KasT (Array Nat)->Bool|.ret p=>p.size==n|.ask i j k=>decide (i<n)&&decide (j<n)&&okT n (k true)&&okT n (k false)
noncomputable def vt(c:Nat->Nat->Bool):KasT (Array Nat)->Array Nat|.ret p=>p|.ask i j k=>vt c (k (c i j))
def ixs(ps:List (Int×Int)):List Nat:=(vt (λi j=>ltP (ps.getD i (0,0)) (ps.getD j (0,0))) (kas_sort ps.length)).toList
def fG:List W->Res W
|[.lst ws]=>match prs ws with|some ps=>if(decide (2<=ps.length)&&decide (ps.length<64)&&okT ps.length (kas_sort ps.length))=true then .ok (.lst ((ixs ps).map λi=>ws.getD i .non))else .bad|none=>.bad
|_=>.bad
end WL
namespace WL
end WL
namespace WL
open PySem.W(kas_sort)
noncomputable def gK(f:List W->Res W)(z c:Int)(i:Nat):Int:=match f [.int z,.int (c+i)]with|.ok (.int m)=>m|_=>0
noncomputable def okK(f:List W->Res W)(z c:Int)(n:Nat):Bool:=(List.range n).all λi=>match f [.int z,.int (c+i)]with|.ok (.int _)=>true|_=>false
def abY(g:Nat->Int)(n:Nat):List W:=(ixs ((List.range n).map λi=>(g i,(i:Int)))).map λi=>((List.range n).map λi=>W.int (i:Nat)).getD i .non
def yk(f:List W->Res W)(n:Nat)(c:Int):W->Res W|.int z=>if(okK f z c n&&okT n (kas_sort n))=true then .ok (.lst (abY (gK f z c) n))else .bad|_=>.bad
def fD(f:List W->Res W)(n:Nat)(c:Int)(e:EF):EF:=λσ=>(e σ).bind (yk f n c)
def ebK(f:List W->Res W)(c:Int):EF:=eF (ae (aG f (ae (ak 1) (ae (eOp cu (eC (.int c)) (ak 0)) ax))) (ae (ak 0) ax))
end WL
namespace WL
open PySem
section
variable{α β:Type}
@[simp]def uJ(a)(f:α->Res β):(Res.ok a).bind f=f a:=(rfl)
@[simp]def iN(σ)(a)(f:α->Out):ofR σ (.ok a) f=f a:=(rfl)
@[simp]def afi(σ)(c)(f):ofR σ (.ex c:Res α) f=.ex c σ:=(rfl)
end
@[simp]def afx{b:Type}(a)(l:List b):(a::l)[0]?=some a:=(rfl)
@[simp]def afw{b:Type}(a)(l:List b)(n):(a::l)[n+1]?=l[n]?:=(rfl)
noncomputable def aev:Option Sl->Res W|some (.va w)=>.ok w|_=>.bad
@[simp]def tQ(w):aev (some (.va w))=.ok w:=(rfl)
@[simp]def uc(i:Nat)(σ:Ws):ak i σ=aev σ[i]?:=by unfold ak aev;split<;>simp_all
@[simp]def af8(w)(σ):eC w σ=.ok w:=(rfl)
@[simp]def xS(r)(a b)(σ):eOp r a b σ=(a σ).bind λx=>(b σ).bind λy=>r x y:=(rfl)
@[simp]def afE(r)(a)(σ):eUn r a σ=(a σ).bind r:=(rfl)
@[simp]def xi(b):toB (.bl b)=.ok b:=(rfl)
@[simp]def aaK(e)(σ):tB e σ=(e σ).bind toB:=(rfl)
@[simp]def adB(a b)(σ):yh a b σ=(a σ).bind λx=>if x=true then b σ else .ok false:=by unfold yh;congr 1;funext x;cases x<;>rfl
@[simp]def ae4(a b)(σ):tOr a b σ=(a σ).bind λx=>if x=true then .ok true else b σ:=by unfold tOr;congr 1;funext x;cases x<;>rfl
@[simp]def adx(a)(σ):vj a σ=(a σ).bind λx=>.ok !x:=(rfl)
@[simp]def afI(t)(a b)(σ):eIf t a b σ=(t σ).bind λx=>if x=true then a σ else b σ:=by unfold eIf;congr 1;funext x;cases x<;>rfl
@[simp]def uN(σ):ax σ=.ok []:=(rfl)
@[simp]def pB(e)(a)(σ):ae e a σ=(e σ).bind λx=>(a σ).bind λb=>.ok (x::b):=(rfl)
@[simp]def aeJ(a)(σ):eF a σ=(a σ).bind λb=>if b.length<=lim then .ok (.tup b)else .bad:=(rfl)
@[simp]def aeK(a)(σ):fE a σ=(a σ).bind λb=>if b.length<=lim then .ok (.lst b)else .bad:=(rfl)
@[simp]def aes(a)(σ):z9 a σ=(a σ).bind λb=>if b.length<=lim then .ok b else .bad:=(rfl)
noncomputable def nN{b}:Res b->Res b|.ok a=>.ok a|_=>.bad
@[simp]def pq{b}(a:b):nN (.ok a)=.ok a:=(rfl)
@[simp]def pb(f)(a)(σ):aG f a σ=(a σ).bind λws=>nN (f ws):=by unfold aG;congr 1;funext ws;cases f _<;>rfl
@[simp]def ach(f)(a)(σ):jG f a σ=(a σ).bind f:=(rfl)
@[simp]def afK(f)(a)(σ):eBi f a σ=(a σ).bind f:=(rfl)
@[simp]def aff(σ):pNo σ=.ok none:=(rfl)
noncomputable def toI:W->Res (Option Int)|.int i=>.ok (some i)|_=>.bad
@[simp]def adv(i):toI (.int i)=.ok (some i):=(rfl)
@[simp]def acN(e:EF)(σ:Ws):eB e σ=(e σ).bind toI:=by unfold eB;congr 1
@[simp]def afF(e)(lo a)(σ):eSl e lo a σ=(e σ).bind λx=>(lo σ).bind λl=>(a σ).bind λh=>oSl x l h:=(rfl)
@[simp]def acY(i j):cu (.int i) (.int j)=.ok (.int (i+j)):=(rfl)
@[simp]def acX(xs ys:List W):cu (.lst xs) (.lst ys)=if xs.length+ys.length<=lim then .ok (.lst (xs++ys))else .bad:=(rfl)
@[simp]def acW(xs ys:List W):cu (.tup xs) (.tup ys)=if xs.length+ys.length<=lim then .ok (.tup (xs++ys))else .bad:=(rfl)
@[simp]def acS(i j):jy (.int i) (.int j)=.ok (.int (i-j)):=(rfl)
def oO(i j):eW (.int i) (.int j)=if -2^64<i/\i<2^64\/-2^64<j/\j<2^64 then .ok (.int (i*j))else .bad:=(rfl)
def oN{i}(j)(b:-18446744073709551616<i)(a:i<18446744073709551616):eW (.int i) (.int j)=.ok (.int (i*j)):=by rw[oO,ago];exact .inl ⟨by omega,by omega⟩
def sj(i){j}(b:-18446744073709551616<j)(a:j<18446744073709551616):eW (.int i) (.int j)=.ok (.int (i*j)):=by rw[oO,ago];exact .inr ⟨by omega,by omega⟩
@[simp]def acV(i j):oDiv (.int i) (.int j)=if 0<j/\j<10^100 then .ok (.int (i/j))else .bad:=(rfl)
@[simp]def acU(i j):oMod (.int i) (.int j)=if 0<j then .ok (.int (i%j))else .bad:=(rfl)
@[simp]def acT(i):si (.int i)=.ok (.int (-i)):=(rfl)
@[simp]def ad9(i j):oLt (.int i) (.int j)=.ok (.bl (decide (i<j))):=(rfl)
@[simp] def aef (i j:Int):oEq (.int i) (.int j)=.ok (.bl (decide (i=j))):=by show Res.ok (W.bl (i==j))=_;rw[Bool.beq_eq_decide_eq]
@[simp] theorem ad8 (i j:Int):oNe (.int i) (.int j)=.ok (.bl (!decide (i=j))):=by show Res.ok (W.bl !(i==j))=_;rw[Bool.beq_eq_decide_eq]
@[simp] theorem afk (a b:Bool):oEq (.bl a) (.bl b)=.ok (.bl (a==b)):=rfl
@[simp]def afj(a b:Bool):oNe (.bl a) (.bl b)=.ok (.bl (a !=b)):=rfl
@[simp]def aee(x):oIs x .non=.ok (.bl (fy x)):=(rfl)
@[simp]def z6(x):fu x .non=.ok (.bl !fy x):=(rfl)
@[simp]def abZ:fy .non=true:=(rfl)
@[simp]def ab0(i):fy (.int i)=false:=(rfl)
@[simp]def iP(xs)(i):oIx (.lst xs) (.int i)=ofO (atI xs i):=(rfl)
@[simp]def aea(xs)(i):oIx (.tup xs) (.int i)=ofO (atI xs i):=(rfl)
@[simp]def ad7(xs)(l h):oSl (.lst xs) l h=.ok (.lst (cut xs l h)):=(rfl)
@[simp]def ad6(xs:List W)(l h:Option Int):oSl (.tup xs) l h=if sIx xs.length 0 l=0/\sIx xs.length xs.length h=xs.length then .bad else .ok (.tup (cut xs l h)):=(rfl)
def eZ{a}(xs:List a)(k:Nat):atI xs k=xs[k]?:=by
 unfold atI ixN;by_cases h:k<xs.length;.rw[ago (by simp),ago (by omega)];simp
 .rw[ago (by simp),agq (by omega)];simp;omega
@[simp]def aeW{a}(xs:List a)(k):atI xs no_index(@OfNat.ofNat Int k _)=xs[k]?:=eZ _ k
def acw{a}(xs:List a){i}(h:0<=i):atI xs i=xs[i.toNat]?:=by have e:=eZ xs i.toNat;rwa[Int.toNat_of_nonneg h]at e
@[simp]def adg(xs):mu [.lst xs]=.ok (.int xs.length):=(rfl)
@[simp]def adf(xs):mu [.tup xs]=.ok (.int xs.length):=(rfl)
@[simp]def aaf(xs):gC [.lst xs]=.ok (.tup xs):=(rfl)
@[simp]def aeT(b:Bool):xU [.bl b]=.ok (.int (if b then 1 else 0)):=(rfl)
noncomputable def oB(o:Option Bool):Res W:=match o with|some b=>.ok (.bl b)|none=>.bad
@[simp]def aeg(b):oB (some b)=.ok (.bl b):=(rfl)
@[simp]def aag(x:W)(t:String):bB [x,.ty t]=oB (isK x t):=by cases h:isK x t<;>simp[bB,oB,h]
@[simp]def aeU(xs):agb [.lst xs]=oB (allB xs):=rfl
@[simp]def aeu(e)(σ):zo e σ=(e σ).bind itemsOf:=(rfl)
def adO:W->Res (List W)|.int j=>if -2^62<=j/\j<2^62 then .ok (rng 0 j.toNat)else .bad|_=>.bad
@[simp]def acJ(j):adO (.int j)=if -2^62<=j/\j<2^62 then .ok (rng 0 j.toNat)else .bad:=(rfl)
@[simp]def ac4(e:EF)(σ:Ws):dj e σ=(e σ).bind adO:=by unfold dj adO;congr 1
def adN:W->W->Res (List W)|.int i,.int j=>if -2^62<=i/\i<2^62/\-2^62<=j/\j<2^62 then .ok (rng i (j-i).toNat)else .bad|_,_=>.bad
@[simp]def acI(i j):adN (.int i) (.int j)=if -2^62<=i/\i<2^62/\-2^62<=j/\j<2^62 then .ok (rng i (j-i).toNat)else .bad:=(rfl)
@[simp]def ac3(e a:EF)(σ:Ws):ni e a σ=(e σ).bind λx=>(a σ).bind λy=>adN x y:=by unfold ni adN;congr 1
@[simp] def zX (lo ) (n ):(rng lo n).length=n:=by simp[rng]
theorem rK (lo ) (n i ) (x ) (h:(rng lo n)[i]?=some x):i<n/\x=.int (lo+i):=by
  have a  := by
    have:=(agu.mp h).1
    simpa using this
  simp only[rng,agT,ahq a] at h
  exact⟨a,(agS h).symm⟩
@[simp]def ac8(i)(w)(σ):aA i w σ=.ok (σ.set i (.va w)):=(rfl)
@[simp]def ac7(σ):mr [] σ=.ok σ:=(rfl)
@[simp]def aaa(g)(b)(w)(r)(σ):bA g b (w::r) σ=(nN (g w σ)).bind λd=>nN (b r d):=by show(match g w σ with|.ok _=>(match b r _ with|.ok _=>Res.ok _|_=>.bad)|_=>.bad)=_;cases g w σ with|ok a=>simp ;cases b r a<;>rfl|ex c|bad=>rfl
@[simp]def ac6(a)(ws)(σ):mq a (.tup ws) σ=a ws σ:=(rfl)
def afW(σ:Ws)(i:Nat)(ws:List W)(w:W):Res W->Res Ws
|.ok (.int k)=>match ixN ws.length k with|some j=>.ok (σ.set i (.ow (ws.set j w)))|none=>.bad
|_=>.bad
def agf(σ:Ws)(i:Nat)(w:W)(r:Res W):Option Sl->Res Ws|some (.ow ws)=>afW σ i ws w r|_=>.bad
noncomputable def ab5(σ:Ws)(i:Nat):Option Sl->Ws|some (.ow ws)=>σ.set i (.va (.lst ws))|some (.od ks vs)=>σ.set i (.va (.dic ks vs))|_=>σ
@[simp]def afy(i:Nat)(σ:Ws):frz i σ=ab5 σ i σ[i]?:=by unfold frz ab5;split<;>simp_all
@[simp]def aex(σ)(i)(ws):ab5 σ i (some (.ow ws))=σ.set i (.va (.lst ws)):=(rfl)
@[simp]def aey(σ:Ws)(i:Nat)(ks vs:List W):ab5 σ i (some (.od ks vs))=σ.set i (.va (.dic ks vs)):=(rfl)
@[simp]def aew(σ:Ws)(i:Nat)(w:W):ab5 σ i (some (.va w))=σ:=(rfl)
def plR:Res W->Res W|.ok w=>if plain w then .ok w else .bad|_=>.bad
@[simp]def afd(w):plR (.ok w)=if plain w=true then .ok w else .bad:=(rfl)
@[simp]def aeL(i:Nat)(e:EF)(σ:Ws):aac i e σ=plR (e (frz i σ)):=by unfold aac plR;cases e (frz i σ)<;>rfl
@[simp]def adA(i)(t)(σ):zW i t σ=nN (t (frz i σ)):=by unfold zW nN;cases t _<;>rfl
@[simp]def abe(i):plain (.int i)=true:=(rfl)
@[simp]def abd(xs:List W):plain (.tup xs)=fq xs:=(rfl)
@[simp]def zY:fq []=true:=(rfl)
@[simp]def yH(x:W)(xs:List W):fq (x::xs)=(plain x&&fq xs):=(rfl)
def pX(xs):fq xs=true↔∀x∈xs,plain x=true:=by induction xs with|nil=>simp|cons x xs ih=>simp[ih]
@[simp]def ac2(k)(it)(g)(t)(e)(σ):v9 k it g t e σ=(it σ).bind λa=>if a.length<=lim then nN (cD g t e (List.replicate k .no++σ) a)else .bad:=by unfold v9;congr 1;funext a;cases cD g t e _ _<;>rfl
@[simp]def adb(k)(it)(g)(t)(e)(σ):gh k it g t e σ=(v9 k it g t e σ).bind λa=>.ok (.lst a):=(rfl)
noncomputable def yo(o:Out)(b:SF):Out:=match o with|.nx σ'=>b σ'|o=>o
@[simp]def dG(σ)(b):yo (.nx σ) b=b σ:=(rfl)
@[simp]def adF(w)(b):yo (.rt w) b=.rt w:=(rfl)
@[simp]def fW(a b)(σ):aN a b σ=yo (a σ) b:=(rfl)
@[simp]def ae8(σ):sNx σ=.nx σ:=(rfl)
@[simp]def adI(i)(e)(σ):bj i e σ=ofR σ (e σ) λw=>.nx (σ.set i (.va w)):=(rfl)
@[simp]def acG(i)(l)(σ):mP i l σ=ofR σ (l σ) λws=>.nx (σ.set i (.ow ws)):=(rfl)
@[simp]def adK(e:EF)(g:GF)(σ:Ws):xt e g σ=ofR σ (e σ) λw=>ofR σ (g w σ) λa=>.nx a:=(rfl)
@[simp]def xq(t)(a b)(σ):sIf t a b σ=ofR σ (t σ) λx=>if x=true then a σ else b σ:=by unfold sIf;congr 1;funext x;cases x<;>rfl
@[simp]def yt(e)(σ):cB e σ=ofR σ (e σ) λw=>.rt w:=(rfl)
def aeY(σ:Ws)(i:Nat)(r:Res W):Option Sl->Out|some (.ow ws)=>ofR σ r λw=>if ws.length<lim then .nx (σ.set i (.ow (ws++[w])))else .bad|_=>.bad
@[simp]def adL(i:Nat)(e:EF)(σ:Ws):aaT i e σ=aeY σ i (e σ) σ[i]?:=by unfold aaT aeY;split<;>simp_all
@[simp]def aeX(σ)(i)(r)(ws):aeY σ i r (some (.ow ws))=ofR σ r λw=>if ws.length<lim then .nx (σ.set i (.ow (ws++[w])))else .bad:=(rfl)
@[simp]def iA(i)(t)(σ):uO i t σ=t (frz i σ):=(rfl)
@[simp]def yu(it)(g)(b)(σ):lA it g b σ=ofR σ (it σ) λa=>forL g b a σ:=(rfl)
@[simp]def ly(n)(c)(b)(σ):jv n c b σ=bZ c b (n σ) σ:=(rfl)
@[simp]def adG(c)(σ)(b):yo (.ex c σ) b=.ex c σ:=(rfl)
@[simp]def aaR(nm:String)(a:AF)(σ:Ws):oA nm a σ=ofR σ (a σ) λws=>if ws.length<=100 then .ex (.exc nm []) σ else .bad:=(rfl)
noncomputable def acF(o:Out)(k:W->Ws->Out):Out:=match o with|.ex c σ=>k c σ|o=>o
@[simp]def aaQ(b:SF)(d:String)(i:Nat)(h:SF)(σ:Ws):oz b d i h σ=acF (b σ) (iX d i h):=by unfold oz acF;rfl
noncomputable def zS(i:Nat)(o:Out):Out:=match o with|.nx σ2=>.nx (σ2.set i .no)|.rt w=>.rt w|_=>.bad
@[simp]def ac5(d:String)(i:Nat)(h:SF)(c:W)(σ:Ws):iX d i h c σ=if gk d c then zS i (h (σ.set i (.va c)))else .bad:=by unfold iX zS;rfl
noncomputable def fin:Out->Res W|.rt w=>.ok w|.nx _=>.ok .non|.ex c _=>.ex c|_=>.bad
@[simp]def afB(w):fin (.rt w)=.ok w:=(rfl)
@[simp]def afC(c)(σ):fin (.ex c σ)=.ex c:=(rfl)
@[simp]def run_eq(n:Nat)(t:SF)(ws:List W):run n t ws=fin (t (ws.map .va++List.replicate (n-ws.length) .no)):=by unfold run fin;rfl
@[simp]def afp:lim=1000000:=(rfl)
noncomputable def iS(o:Out)(k:SF):Out:=match o with|.nx σ2=>k σ2|.ct σ2=>k σ2|.bk σ2=>.nx σ2|o=>o
@[simp]def ac0(σ)(k):iS (.nx σ) k=k σ:=(rfl)
@[simp]def acZ(w)(k):iS (.rt w) k=.rt w:=(rfl)
def aY(c)(b)(n)(σ):bZ c b (n+1) σ=ofR σ (c σ) λx=>if x=true then iS (b σ) (bZ c b n)else .nx σ:=by
 show ofR σ _ _=_;congr 1;funext x;cases x;.rfl
 .cases b σ<;>rfl
def fB(g)(b)(x)(xs)(σ):forL g b (x::xs) σ=ofR σ (g x σ) λa=>iS (b a) (forL g b xs):=rfl
theorem nq{g b}:∀{xs}(P:Nat->Ws->Prop){σ},P 0 σ->(∀i x σ,xs[i]?=some x->P i σ->∃c,g x σ=.ok c/\∃a,b c=.nx a/\P (i+1) a)->∃d,forL g b xs σ=.nx d/\P xs.length d|[],P,σ,h0,_=>⟨σ,rfl,h0⟩|x::xs,P,σ,h0,hs=>by obtain⟨c,l,a,j,f⟩:=hs 0 x σ rfl h0;obtain⟨d,e,k⟩:=nq (xs:=xs) _ f λi y σ m h=>hs (i+1) y σ (by grind) h;exact⟨_,by simp [forL,l,j];exact e,k⟩
theorem kq{g b}:∀{xs}(P:Nat->Ws->Prop)(R:Nat->W->Prop){σ},P 0 σ->(∀i x σ,xs[i]?=some x->P i σ->∃a,g x σ=.ok a/\((∃d,b a=.nx d/\P (i+1) d)\/∃w,b a=.rt w/\R i w))->(∃c,forL g b xs σ=.nx c/\P xs.length c)\/∃i w,i<xs.length/\forL g b xs σ=.rt w/\R i w
|[],P,R,σ,h0,_=>.inl ⟨σ,rfl,h0⟩|x::xs,P,R,σ,h0,hs=>by
 obtain⟨a,j,h⟩:=hs 0 x σ rfl h0;rcases h with⟨d,e,f⟩|⟨w,e,f⟩
 .rcases kq (xs:=xs) _ _ f λi y σ l k=>hs (i+1) y σ (by simpa using l) k with⟨c,e3,h3⟩|⟨i,w,hi,e3,h3⟩;.exact .inl ⟨c,by simp only[forL,j,e,iN];exact e3,h3⟩
  .exact .inr ⟨i+1,w,by simpa using hi,by simp only[forL,j,e,iN];exact e3,h3⟩
 .exact .inr ⟨0,w,by simp,by simp only[forL,j,e,iN],f⟩
theorem cz{g t e σ}{j:Type}{b f}:∀{xs:List j},(∀x∈xs,∃a,g (b x) σ=.ok a/\t a=.ok true/\e a=.ok (f x))->cD g t e σ (xs.map b)=.ok (xs.map f)|[],_=>rfl|x::xs,h=>by obtain⟨a,k,i,d⟩:=h x (by simp);have c:=cz (xs:=xs) λy l=>h y (by grind);simp [cD,k,i,d,c]
end WL
namespace WS
open PySem PySem.Spec PyProof.Rows L2
open WL(Res Sl Ws EF TF AF LF GF GsF SF Out)
end WS
namespace L2
open PySem PySem.Spec PyProof.Rows
section
variable{X:Cx}
def aaZ:V->List V->Hp->VK->Prop:=λx d H Q=>∃l b a c,x=.ref l/\d=[.ref b]/\H l=some (.lst a)/\Rd H b (.lst c)/\a.length+c.length<=sizeLine/\Q .non (upd H l (.lst (a++c)))
def yX:MtM X "list.extend" aaZ:=by
 intro m s σ H x G v D Q I B o h;refine ae0 h λl b E M i f j w C q=>?_;subst i f;cases B;obtain⟨u,rfl,y⟩:=o.one;cases y;obtain⟨z,c,n,r,J,e⟩:=I.afm j;obtain⟨K,a,t,k,A⟩:=w.ok I.hok;have p:=k.length;have g:c.toArray.size+a.toArray.size<=sizeLine:=by grind
 have d:¬(!c.toArray.isEmpty&&Builtin.List.listTooLong (c.toArray.size+a.toArray.size))=true:=by rw[vP g,Bool.and_false];exact agK
 refine call_meets F.slot_list_extend ⟨_,e,rfl⟩ F.entry_list_extend (F.args_list_extend_2 _ _) (AutoSeq1.list_extend_list_list_0 l c.toArray n b a.toArray t d (by rw[ahp];omega) (by omega)) ⟨e,A,.non,_,I.afn j e (by simp) (r.append k) ?_,rfl,q⟩;rw[ahg];omega
end
end L2
namespace WS
open PySem PySem.Spec PyProof.Rows L2
open WL(Res Sl Ws EF TF AF LF GF GsF SF Out)
section
variable{X:Cx}{B:Bx}{st:Stmt}{i:Nat}{ta:EF}
def aal(hK:X.K=B.K)(j:noL X.K=true)(h:PS X st (vk (tBM X.K "list" aaZ (yd i) (pQ (lo B ta) aaH)))):PS X st (loS B (WL.acH i ta)):=PS.imp h λD g H l=>by refine cW l λσ F R q=>?_;have q:Oq B D F (match σ[i]? with|some (.ow ws)=>WL.ofR σ (ta σ) _|_=>.bad):=q;cases e:σ[i]? with|none=>rw[e]at q;exact q.elim|some sl=>rw[e]at q;cases sl with|no|va _|od _ _|ob=>exact q.elim|ow ws=>
  refine qu (R.ow i ws e) λa o p x z f u=>?_;have q:=Oq.ofR q;refine⟨.ref a,p,.inl ⟨rfl,o,SqL.of f⟩,σ,F,R,Rq.mono (aw.refl _) q λw c v E C n d y=>?_⟩
  cases w with|lst zs=>
  refine jN y λb A k r t=>?_;subst k;have c:Oq B D F (if ws.length+zs.length<=WL.lim then Out.nx _ else .bad):=c;by_cases m:ws.length+zs.length<=WL.lim;.rw[ago m]at c;have s:=d.h a _ f;rw[<-hK]at r;exact⟨a,b,o,A,rfl,rfl,s,n.rb.sub.rd (SqL.here j r),by rw[<-u.length,<-t.length];exact agy m fw,c g _ C (n.write e p (d.nf a _ f x) z s ((u.keep d.f).app t)) d.f⟩
  .rw[agq m]at c;exact(c).elim|_=>exact(show False from c).elim
end
end WS
namespace L2
open PySem PySem.Spec PyProof.Rows PySem.W
section
variable{P:Program}{w:World}{H H':Hp}{h h':Heap}{a:Addr}{o:HO}
theorem bS.some(x:bS P w H h a o):∃u,h.get? a=some u:=by cases o with|lst xs=>obtain⟨_,_,_,_,e⟩:=x;exact⟨_,e⟩|tup xs=>obtain⟨_,_,_,o,e,_⟩:=x;exact⟨_,e⟩|dK kvs|dT kvs=>obtain⟨_,_,_,_,o,_,_,e,_⟩:=x;exact⟨_,e⟩|set S n=>refine adm x λo _ _ _ e _=>?_;exact⟨_,e⟩|ins C dx fs=>refine acC x λ_ _ _ e _=>?_;exact⟨_,e⟩|own y=>exact x|xd fs=>obtain⟨_,⟨_,_,_,e,_⟩,_⟩:=x;exact⟨_,e⟩|rng lo hi=>obtain⟨_,_,_,e⟩:=x;exact⟨_,e⟩|frz ob u=>exact⟨_,x.1⟩|tbl ps|met f y=>exact⟨_,x⟩|tab ps=>rcases x with e|⟨_,_,_,_,_,e,_⟩<;>exact⟨_,e⟩|ext φ=>exact x.2.1
end
def sr{h:Heap}{L:Addr}{m f:Str->Option Value}(a:h.Ns L m)(b:h.Ns L f):m=f:=by refine qt a λo n p j i _ g=>?_;refine qt b λq k l d c _ e=>?_;rw[j]at d;cases d;rw[i]at c;cases c;funext x;rw[<-g,<-e]
section
variable{X:Cx}{pins:List (Addr×Obj)}{σ:List (Option V)}{H:Hp}{s:Shared}{h':Heap}
def Inv.aer{D:Addr}{m:Str->Option Value}{ys:List V}{its:List Value}{n:Nat}(I:Inv X pins σ H s)(l:s.heap.Ns X.env.locals m)(F:Fr X.base X.env.locals h' m)(N:News X.base X.env.locals h' ((D,listOf its.toArray n)::dU X.base s.heap X.env.locals))(g:∀q∈dU X.base s.heap X.env.locals,q.1<D)(r:Vals ys its)(hz:ys.length<=sizeLine):H D=none/\Inv X pins σ (upd H D (.lst ys)) {s with heap:=h'}:=by
 have h:=N _ (.head _);have j:s.heap.get? D=none:=by cases e:s.heap.get? D with|none=>rfl|some o=>exact absurd (g _ (cx h.2.1 h.2.2 e)) (ahL _)
 have i:H D=none:=by cases e:H D with|none=>rfl|some u=>obtain⟨o,z⟩:=(I.hok D u e).some;rw[j]at z;cases z
 have keep:∀b o,b≠X.env.locals->s.heap.get? b=some o->h'.get? b=some o:=λb o a e=>by cases q:X.base.get? b with|some u=>have:=I.bk b u q;rw[e]at this;cases this;exact F.keep b _ q|none=>exact(N (b,o) (.tail _ (cx a q e))).1
 have d:∀b u,H b=some u->b≠D:=λb u e z=>by rw[z,i]at e;cases e
 refine⟨i,I.jU (g':=s.gens) (t':=s.toks) (d':=s.drawn) (ch:=[]) (λ_ z=>nomatch z) (λb o a _ _ e _=>keep b o a e) (λb o a _ _ e _=>⟨o.slots,keep b o a e⟩) (λb o _ e n=>?_) (λb o _ e=>?_) (λb k e=>?_) (λb o u e=>?_) (λb ps e=>⟨#[],?_⟩) (λw t=>?_) (λb u e=>?_) I.bare⟩;.rw[ai λz=>by rw[z,j]at e;cases e];exact n
 .by_cases a:b=X.env.locals;.refine uR F.ns λp _ _ z _=>?_;rw[a];exact⟨p,z⟩
  .exact⟨o,keep b o a e⟩
 .rw[ai (d b _ e)];exact e
 .rw[ai (d b _ e)];exact e
 .rw[ai (d b _ e),e];simp
 .rw[<-sr l t];exact F.ns
 .by_cases a:b=D;.subst a;rw[aq]at e;cases e;exact⟨hz,its,n,r,h.1⟩
  .rw[ai a]at e;refine(I.hok b u e).jV (λc v f q=>keep c v ?_ q) (λc q=>?_) λc k q=>?_
   .intro z;rcases f with f|f;.rw[<-f,z,I.free]at e;cases e
    .rw[z,I.free]at f;cases f
   .rw[ai (d c _ q)];exact q
   .rw[ai (d c _ q)];exact q
end
abbrev wU(K:W.Frag)(H:Hp):List V->List (Int×Int)->Prop:=Paired λv q=>∃a,v=.ref a/\SqT K H a [.int q.1,.int q.2]
abbrev cV(h:Heap):List Value->List (Int×Int)->Prop:=Paired λu q=>∃a o n b c,u=.ref a/\h.get? a=some o/\o.cls=.type "tuple"/\o.data=.seq #[.int q.1 b,.int q.2 c] n
theorem h6{X:Cx}{pins σ H s}(I:Inv X pins σ H s):∀{vs ps its},wU X.K H vs ps->Vals vs its->cV s.heap its ps|_,_,_,.nil,.nil=>.nil|_,_,_,.cons h t,.cons r rs=>by refine .cons ?_ (h6 I t rs);obtain⟨a,rfl,f⟩:=h;cases r;obtain⟨its,b,⟨o,k,c,n,d⟩,_⟩:=I.tuple f;obtain⟨u,l,rfl,⟨i,j⟩,⟨e,g⟩⟩:=vals2 b;subst j g;exact⟨a,o,n,i,e,rfl,k,c,d⟩
theorem cV.get{h:Heap}:∀{its ps},cV h its ps->∀i,i<ps.length->∃a o n b c,its.getD i Value.none=.ref a/\h.get? a=some o/\o.cls=.type "tuple"/\o.data=.seq #[.int (ps.getD i (0,0)).1 b,.int (ps.getD i (0,0)).2 c] n|_,_,.nil,i,hi=>absurd hi (ahf _)|_,_,.cons h t,0,_=>h|_,_,.cons h t,i+1,hi=>by have:=cV.get t i (by simpa using hi);simpa using this
theorem cV.len{h:Heap}:∀{its ps},cV h its ps->its.length=ps.length|_,_,.nil=>rfl|_,_,.cons _ t=>by simp[cV.len t]
theorem cV.kat{h:Heap}:∀{its ps},cV h its ps->∃fs,KatTups h its fs/\fs.length=ps.length/\∀v∈fs,∃i t,v=Value.int i t
|_,_,.nil=>⟨[],.nil,rfl,λ_ z=>nomatch z⟩|_,_,.cons h t=>by
 refine adl h λa o n m l c j e f=>?_;subst c;refine gL (cV.kat t) λfs k g d=>?_;refine⟨_::fs,.cons j e f rfl k,by simp[g],λv b=>?_⟩;rcases ags.mp b with rfl|b;.exact⟨_,_,rfl⟩
 .exact d v b
section
variable{prog:Program}{w:World}{A:Around}{s:Shared}
def wQ{its ps i j}{C:Bool->Shared->Prop}(T:cV s.heap its ps)(g:i<ps.length)(m:j<ps.length)(h:C (WL.ltP (ps.getD i (0,0)) (ps.getD j (0,0))) s):kas_ask prog w A (tuples' true) its i j C s:=by
 refine adl (T.get i g) λa o n z x e t v l=>?_;refine adl (T.get j m) λB y u f k p c r b=>?_;unfold kas_ask;rw[e,p];refine kat_lt t l c b ?_;show KatLex prog w A true (decide (2<2)) C [(_,_),(_,_)] 0 s;refine kat_cons (ai3 (kat_go (λq=>kat_yes (kat_cons (ai3 (kat_go (λd=>kat_yes (kat_nil ?_)) λd=>kat_no ?_)))) λq=>kat_no ?_))
 .have:WL.ltP (ps.getD i (0,0)) (ps.getD j (0,0))=false:=by unfold WL.ltP;rw[ago q,eq_of_beq d];exact agX (Int.lt_irrefl _)
  rw[this]at h;exact h
 .have:WL.ltP (ps.getD i (0,0)) (ps.getD j (0,0))=decide ((ps.getD i (0,0)).2<(ps.getD j (0,0)).2):=by unfold WL.ltP;rw[ago q]
  rw[this]at h;exact kat_one _ _ (lt_int h)
 .have:WL.ltP (ps.getD i (0,0)) (ps.getD j (0,0))=decide ((ps.getD i (0,0)).1<(ps.getD j (0,0)).1):=by unfold WL.ltP;rw[agq (by rw[q];simp)]
  rw[this]at h;exact oneLt_int h
theorem iB{its ps}{G:Array Nat->Shared->Prop}(T:cV s.heap its ps):∀t:KasT (Array Nat),WL.okT ps.length t=true->G (WL.vt (λi j=>WL.ltP (ps.getD i (0,0)) (ps.getD j (0,0))) t) s->t.kasWp (kas_ask prog w A (tuples' true) its) G s
|.ret p,_,h=>h|.ask i j k,ok,h=>by
 have ok:(decide (i<ps.length)&&decide (j<ps.length)&&WL.okT ps.length (k true)&&WL.okT ps.length (k false))=true:=ok;simp only[agE,agZ]at ok;refine wQ T ok.1.1.1 ok.1.1.2 ?_;refine iB T (k _) ?_ h;cases WL.ltP (ps.getD i (0,0)) (ps.getD j (0,0));.exact ok.2
 .exact ok.1.2
end
theorem iC{n c}:∀t:KasT (Array Nat),WL.okT n t=true->(WL.vt c t).size=n
|.ret p,h=>eq_of_beq h|.ask i j k,h=>by
 have ok:(decide (i<n)&&decide (j<n)&&WL.okT n (k true)&&WL.okT n (k false))=true:=h;simp only[agE,agZ]at ok;refine iC (k (c i j)) ?_;cases c i j;.exact ok.2
 .exact ok.1.2
theorem mI:∀(l:List Nat){vs its},Vals vs its->Vals (l.map λi=>vs.getD i V.non) (l.map λi=>its.getD i Value.none)|[],_,_,_=>.nil|i::l,vs,its,r=>by refine .cons ?_ (mI l r);simp only[agC];cases e:vs[i]? with|some v=>obtain⟨u,b,a⟩:=r.get e;rw[b];exact a|none=>
   have:its[i]?=none:=by rw[ai2]at e⊢;rw[<-r.length];exact e
   rw[this];rfl
def l8{X:Cx}:bu X (.builtin "sorted") λA H Q=>∃p vs ps,A=[.ref p]/\SqL X.K H p vs/\wU X.K H vs ps/\2<=ps.length/\ps.length<64/\WL.okT ps.length (kas_sort ps.length)=true/\∀l,H l=none->Q (.ref l) (upd H l (.lst ((WL.ixs ps).map λi=>vs.getD i V.non))):=by
 intro J s σ H A us Q I rx⟨p,vs,ps,e,k,hp,h2,h,ok,q⟩;subst e;obtain⟨u,rfl,Y⟩:=rx.one;cases show u=Value.ref p from Y;refine gL (I.list k) λf C pl hz=>?_;have T:=h6 I hp C;have hl:=T.len;refine gD (id I.loc) λm j _=>?_;have F:Fr X.base X.env.locals s.heap m:=⟨j,I.bk,agy I.ok.bsz I.ok.above⟩;refine kat_sorted (vs:=f) F gS pl.isList (by omega) (by omega) λD e1 g y x d=>?_;have keep:∀b o,b≠X.env.locals->s.heap.get? b=some o->g.get? b=some o:=λb o O e=>by cases q:X.base.get? b with|some u=>have:=I.bk b u q;rw[e]at this;cases this;exact y.keep b _ q|none=>exact(x (b,o) (.tail _ (cx O q e))).1
 have G:cV g f ps:=Paired.imp' (λu q⟨a,o,n,t1,N,z1,B,M,w⟩=>⟨a,o,n,t1,N,z1,keep a o (λz=>by refine uQ j λo' es ep E K _=>?_;rw[<-z,B]at E;cases E;rw[w]at K;cases K) B,M,w⟩) T;refine gL G.kat λfs kt fl Z=>?_;refine kat_kind (T:=.type "int") (s:={s with heap:=g}) kt (by omega) (λv hv=>?_) (by decide) ?_;.obtain⟨i,t,rfl⟩:=Z v hv;exact .now
 .rw[hl];refine iB (s:={s with heap:=g}) G _ ok ?_;refine KasFin.intro y x (.head λq k=>agz (d q k)) λS c R P=>?_;have r:(WL.ixs ps).length=ps.length:=by unfold WL.ixs;rw[aic];exact iC _ ok
  obtain⟨U,I2⟩:=I.aer (ys:=(WL.ixs ps).map λi=>vs.getD i V.non) j R P d (mI _ C) (by rw[agO,r];exact agy (ahl h) (by decide));exact hJ (.ref D) _ I2 rfl (q D U)
end L2
namespace WS
open PySem PySem.Spec PyProof.Rows L2
open WL(Res Sl Ws EF TF AF LF GF GsF SF Out)
section
variable{X:Cx}{K:W.Frag}
theorem oJ{F:Hp}:∀{ws:List VW}{ps vs},WL.prs ws=some ps->RWs K F ws vs->wU K F vs ps
|[],_,_,e,r=>by cases e;cases r;exact .nil|w::ws,ps,vs,e,r=>by
 obtain⟨v,l,rfl,q,t⟩:=r;unfold WL.prs at e;split at e;.rename_i h;cases h
 .rename_i a b c h;cases h;obtain⟨k,j,rfl⟩:=agR.mp e;refine .cons ?_ (oJ j t);obtain⟨x,o,rfl,i,d⟩:=q;obtain⟨m,n,rfl,g,f⟩:=two_of d;cases g;cases f;exact⟨x,rfl,i⟩
 .cases e
theorem rF{F:Hp}:∀(l:List Nat){ws vs},RWs K F ws vs->RWs K F (l.map λi=>ws.getD i .non) (l.map λi=>vs.getD i V.non)|[],_,_,_=>rfl|i::l,ws,vs,r=>by refine .cons ?_ (rF l r);simp only[agC];cases e:ws[i]? with|some w=>obtain⟨v,b,a⟩:=r.get e;rw[b];exact a|none=>
   have:vs[i]?=none:=by rw[ai2]at e⊢;rw[<-r.length];exact e
   rw[this];rfl
def jI:∀a c,WL.fG a≠.ex c:=λa c h=>by
 unfold WL.fG at h;split at h
 .split at h;.split at h<;>cases h
  .cases h
 .cases h
def qU(hK:X.K=K):bu X (.builtin "sorted") (loN K WL.fG):=by
 subst hK;refine bu.imp l8 λn H Q d=>?_;refine jN d λF ws s r q=>?_;unfold WL.fG at q;split at q
 .rename_i o;split at q
  .rename_i ps i;split at q;.rename_i c;simp only[agE,agZ]at c;refine gD (eK r) λv b h=>?_;subst b;refine jN h λa g b j e=>?_;subst b;refine⟨a,g,ps,rfl,s.seq j,Paired.imp' (λv q⟨x,m,k⟩=>⟨x,m,s.tup k⟩) (oJ i e),c.1.1,c.1.2,c.2,λl f=>?_⟩;exact aeH s q (rF _ e) f
   .exact q.elim
  .exact q.elim
 .exact q.elim
end
end WS
namespace L2
end L2
namespace WS
open PySem PySem.Spec PyProof.Rows L2
open WL(Res Sl Ws EF TF AF LF GF GsF SF Out XF)
end WS
namespace WS
open PySem PySem.Spec PyProof.Rows L2
open WL(Res Sl Ws EF TF AF LF GF GsF SF Out)
end WS
set_option autoImplicit true
set_option relaxedAutoImplicit true
namespace WS
open PySem PySem.Spec PyProof.Rows L2
open WL(Res Sl Ws EF TF AF LF GF GsF SF Out)
end WS
namespace L2
open PySem PySem.Spec PySem.Calls PyProof.Rows PySem.W
section
variable{prog:Program}{w:World}{A:Around}{E:Value->Shared->Prop}{s:Shared}
def nL{r:Addr}{a b c:Int}{t u v:Tok}{n:Nat}{Q:List Value->Shared->Prop}(x:A.handled=none)(y:IsRange s.heap r a b c t u v)(f:Builtin.Range.small a b c=true)(z:Builtin.Range.rangeSize a b c=n)(j:n<=2^24)(h:∀g tk d e,(∀b o,s.heap.get? b=some o->g.get? b=some o)->g.get? s.heap.objs.size=some (seqObj "list" d e)->ItemsOf (λi v=>∃t,v=.int (a+i*c) t) d n->Q d.toList {s with heap:=g,toks:=tk}):
 wpAny (model prog w) A (collect (.ref r)) Q E s:=by unfold collect;refine agl (wpAny_runValue (aif entry_proto_collect' ?_));show wpAny _ _ (do again (.builtin "list.__iadd__" ⟨[<-newList [],.ref r],[]⟩)) _ _ s;refine agl (wpAny_newList (agp ⟨ail _ (by decide+kernel),aif entry_list_iadd' ?_⟩));show wpAny _ _ (Builtin.List.listExtendWith (.ref s.heap.objs.size) (.ref r) (.ref s.heap.objs.size)) _ _ {s with heap:=s.heap.push (seqObj "list" #[] 0)};refine wpAny_extend_range (prog:=prog) (w:=w) (A:=A) (R:=λr k=>match r with
 |.ok (.ret v)=>wpAny (model prog w) A (match v with
 |.ref a=>do match(<-load a).data with|.seq xs _=>pure xs.toList|_=>unsupported "internal:collect"
   |_=>unsupported "internal:collect") Q E k|.ok _=>False|.error e=>E e k) (s:={s with heap:=s.heap.push (seqObj "list" #[] 0)}) x (agm _ y) f z j _ _ 0 (agA _ rfl) λg tk d e m l p=>?_;show wpAny (model prog w) A (do let o <-load s.heap.objs.size match o.data with|.seq xs _=>pure xs.toList|_=>unsupported "internal:collect") Q E {s with heap:=g,toks:=tk};refine agl (wpAny_load l ?_);exact agp (h g tk d e (λb o q=>m b o (agz (agt q)) (agm _ q)) l p)
end
section
variable{X:Cx}{pins:List (Addr×Obj)}{σ:St}{H:Hp}{s:Shared}{e P c:Addr}
def cb{b:Addr}(h:b≠e):del H e b=H b:=agq h
def bJ:del H e e=none:=ago rfl
def cN{b:Addr}(h:H b=none):del H e b=none:=by unfold del;split<;>first|rfl|exact h
def Inv.vX{o:HO}(I:Inv X pins σ H s)(q:H e=some o)(t:∀d,o≠.tup d)(m:∀a u,o≠.frz a u)(A:∀ps,o≠.tbl ps)(k:∀a,o=.own a->H a=none):Inv X pins σ (del H e) s:=by
 have keep:∀{b u},H b=some u->(b=e->False)->del H e b=some u:=λh n=>by rw[cb n];exact h
 have g:∀{b d},H b=some (.tup d)->del H e b=some (.tup d):=λh=>keep h λz=>by rw[z,q]at h;cases h;exact t _ rfl
 refine⟨I.ok,I.os,I.bare,⟨I.base.keep,I.base.slot,λb o w C i=>cN (I.base.free b o w C i),I.base.there,λb d h=>g (I.base.tups b d h),λb o u h=>keep (I.base.frzs b o u h) λz=>?_,λb ps h=>?_⟩,I.loc,I.cell,cN I.free,λx c h=>cN (I.freeC x c h),λp v=>?_,λb u h=>?_,I.len⟩;.have:=I.base.frzs b o u h;rw[z,q]at this;cases this;exact m _ _ rfl
 .obtain⟨f,z⟩:=I.base.tbls b ps h;exact⟨f,keep z λy=>by rw[y,q]at z;cases z;exact A _ rfl⟩
 .obtain⟨j,l,B⟩:=I.pin p v;exact⟨j,cN l,B⟩
 .have r:b≠e:=λz=>by rw[z,bJ]at h;cases h
  rw[cb r]at h;refine(I.hok b u h).jV (λ_ _ _ z=>z) (λc z=>keep z λy=>?_) λc d z=>g z;rw[y,q]at z;cases z;rw[k b rfl]at h;cases h
def Inv.xA{o:Obj}(I:Inv X pins σ H s)(b:s.heap.get? e=some o)(g:H e=none)(f:e≠X.env.locals)(d:e∉X.fs)(h:∀v,o.data≠.cell v):Inv X ((e,o)::pins) σ H s:=⟨I.ok,I.os,I.bare,I.base,I.loc,I.cell,I.free,I.freeC,λp a=>by
 rcases ahr.mp a with a|a;.exact I.pin p (ag0 _ a)
 .rcases ags.mp a with rfl|a;.exact⟨b,g,f,d,h⟩
  .exact I.pin p (agF _ a),I.hok,I.len⟩
def Inv.k8{p:Addr×Obj}(I:Inv X (p::pins) σ H s):Inv X pins σ H s:=⟨I.ok,I.os,I.bare,I.base,I.loc,I.cell,I.free,I.freeC,λq a=>I.pin q (by
 rcases ahr.mp a with a|a;.exact ag0 _ a
 .exact agF _ (agw _ a)),I.hok,I.len⟩
def Inv.zZ{o:Obj}(I:Inv X ((e,o)::pins) σ H s):s.heap.get? e=some o/\H e=none/\e≠X.env.locals/\e∉X.fs/\∀v,o.data≠.cell v:=I.pin (e,o) (agF _ (.head _))
def Inv.afe{p:Addr×Obj}{o:Obj}(I:Inv X (p::(e,o)::pins) σ H s):s.heap.get? e=some o/\H e=none/\e≠X.env.locals/\e∉X.fs/\∀v,o.data≠.cell v:=I.k8.zZ
noncomputable abbrev adM(ps:Array Value)(c:Addr):Obj:=tabObj #[ps.getD 0 .none,ps.getD 1 .none,.ref c]
def Inv.adQ{ps vs:Array Value}{m:Obj}{q:Str}{t tq:Tok}(I:Inv X ((P,adM ps c)::(c,m)::pins) σ H s)(a0:c≠P)(O:X.H₀ P≠none)(n:∀o,X.s₀.heap.get? c=some o->X.H₀ c=none->c∉X.ex->False)(j:∀p∈X.pn++pins,p.1≠P/\p.1≠c)(y:ps[2]?=some (.str q t))(k:m.data=.fields vs)(hv:vs[1]?=some (.str q tq)):Inv X pins σ (upd (upd H P (.tab ps)) c (.own P)) s:=by
 obtain⟨D,G,S,p4,Z⟩:=I.zZ;obtain⟨w,c2,K,c4,R⟩:=I.afe;have nP:∀{b u},H b=some u->b≠P:=λh z=>by rw[z,G]at h;cases h
 have N:∀{b u},H b=some u->b≠c:=λh z=>by rw[z,c2]at h;cases h
 have f:∀{b},b≠P->b≠c->upd (upd H P (.tab ps)) c (.own P) b=H b:=λh1 M=>by rw[ai M,ai h1]
 have keep:∀{b u},H b=some u->upd (upd H P (.tab ps)) c (.own P) b=some u:=λh=>by rw[f (nP h) (N h)];exact h
 have a:∀x d,X.env.cells.lookup x=some d->d≠P/\d≠c:=λx d e=>by
  obtain⟨v,o,l,k⟩:=I.cell x d e;refine⟨λz=>?_,λz=>?_⟩;.rw[z,D]at l;cases l;exact Z _ k
  .rw[z,w]at l;cases l;exact R _ k
 have J:=I.k8.k8;refine⟨I.ok,I.os,I.bare,⟨I.base.keep,I.base.slot,λb o B r C=>?_,I.base.there,λb T h=>keep (I.base.tups b T h),λb o u h=>keep (I.base.frzs b o u h),λb ps h=>?_⟩,I.loc,I.cell,?_,λx d h=>?_,λp A=>?_,λb u h=>?_,I.len⟩;.rw[f (λz=>O (z▸r)) λz=>by subst z;exact n o B r C];exact I.base.free b o B r C
 .obtain⟨i,z⟩:=I.base.tbls b ps h;exact⟨i,keep z⟩
 .rw[f (agG S) (agG K)];exact I.free
 .rw[f (a x d h).1 (a x d h).2];exact I.freeC x d h
 .obtain⟨U,Y,Q⟩:=J.pin p A;exact⟨U,by rw[f (j p A).1 (j p A).2];exact Y,Q⟩
 .by_cases E:b=c;.subst E;rw[aq]at h;cases h;exact⟨_,w⟩
  .rw[ai E]at h;by_cases g:b=P;.subst g;rw[aq]at h;cases h;exact .inr ⟨c,q,t,aq,y,D,c,m,vs,tq,rfl,w,k,hv⟩
   .rw[ai g]at h;exact(I.hok b u h).jV (λ_ _ _ z=>z) (λ_ z=>keep z) λ_ _ z=>keep z
end
structure Lm(X:Cx)(c P:Addr):Prop where
 code:X.env.code=.ref c
 hd:CodeHd X.base c P
 bm:∃bm ob,X.mg "__builtins__"=some (.ref bm)/\bm≠builtinsNs/\X.base.get? bm=some ob/\ob.cls=.type "module"/\ob.dict=some builtinsNs/\ob.data=.plain
section
variable{X:Cx}{pins:List (Addr×Obj)}{σ:St}{H:Hp}{s:Shared}{P c:Addr}{E:Value->Shared->Prop}
abbrev v8(X:Cx)(b:Str)(a:Arguments)(body:Expr)(scope:Scope)(d:List (Str×Addr))(f:Addr)(e:Value):Obj:=kla_obj "<lambda>" b a body scope d ((X.mg "__name__").getD .none) f e
structure LamAt(X:Cx)(pins:List (Addr×Obj))(σ:St)(H:Hp)(P:Addr)(ps:Array Value)(q:Str)(params:Arguments)(body:Expr)(scope:Scope)(clos:List (Str×Addr))(f c':Addr)(oc:Obj)(ctv:Value)(s:Shared):Prop where
 inv:Inv X ((P,adM ps c')::(c',oc)::(f,v8 X q params body scope clos c' ctv)::pins) σ (del (del H P) c') s
 ne:c'≠P
 cod:∃vs tq,oc.data=.fields vs/\vs[1]?=some (.str q tq)old:∀o,X.s₀.heap.get? c'=some o->X.H₀ c'=none->c'∉X.ex->False
 pn:∀p∈X.pn++pins,p.1≠P/\p.1≠c'/\p.1≠f
 own:H c'=none\/H c'=some (.own P)fne:f≠P/\f≠c'
def v5{j:Str}{g:Arguments}{body:Expr}{scope:Scope}{k:List (Str×Addr)}{pos:Pos}{t:Tok}{ps:Array Value}{Q:Value->Shared->Prop}(I:Inv X pins σ H s)(L:Lm X c P)(A:H P=some (.tab ps))(N:ps=#[rawInt pos.line,rawInt pos.col,.str j t])(a2:closureFor scope X.env=pure k)(hq:X.env.qual++"<lambda>"=j)(a3:defaultsOf g X.env=([],[]))(h:∀f i Y l s',LamAt X pins σ H P ps j g body scope k f i Y l s'->Q (.ref f) s'):wpAny (model X.prog X.w) X.A (eval (.Lambda g body scope pos) X.env) Q E s:=by
 refine kla_eval a3 ?_;rw[hq];have hg:s.heap.Ns mainGlobals X.mg:=I.mod.glob.keeps I.bk;have C:CodeHd s.heap c P:=L.hd.keeps I.bk;have Z:P≠X.env.locals:=λz=>by rw[z,I.free]at A;cases A
 have a4:P∉X.fs:=λz=>by have:=I.ig P (by
   rcases I.ok.stk with e|⟨e,_⟩;.rw[e];exact z
   .rw[e];exact ag5.mpr (by obtain⟨a,b,d⟩:=ag5.mp z;exact⟨a,agw _ b,d⟩));rw[A]at this;cases this
 have a5:∀p∈X.pn++pins,p.1≠P:=λp hp z=>by have:=(I.pin p hp).2.1;rw[z,A]at this;cases this
 obtain⟨bm,ob,b1,b2,b3,b4,b5,b6⟩:=L.bm;have U:∀{o:Obj}{vs:Array Value},s.heap.get? P=some o->o.data=.fields vs->o.cls=.none->mainGlobals≠P/\s.heap.BuiltinsAt X.mg P:=λ{o vs}e d cl=>by
  have g1:mainGlobals≠P:=λq=>by obtain⟨o',es,ep,e',r,_⟩:=hg;rw[q,e]at e';cases e';rw[d]at r;cases r
  refine⟨g1,bm,ob,b1,b2,λq=>?_,λq=>?_,I.bk _ _ b3,b4,b5,b6⟩;.obtain⟨o',es,ep,e',r,_⟩:=hg;have:=I.bk _ _ b3;rw[q,e']at this;cases this;rw[r]at b6;cases b6
  .have:=I.bk _ _ b3;rw[q,e]at this;cases this;rw[d]at b6;cases b6
 have T:=I.hok P _ A;rcases T with e|⟨i,q,tq,O,a1,e,K⟩
 .obtain⟨g1,g2⟩:=U e rfl rfl;refine kla_makeFunction (mg:=X.mg) a2 I.ok.glob hg L.code C e (by trivial) rfl g1 g2 λi l D tk hx w a0 K a8=>?_;obtain⟨c2,Y,vs,tq,e2,M,r,hv⟩:=K;cases e2;have R:H i=none:=I.hok.fresh w;have S:i≠P:=λz=>by rw[z,A]at R;cases R
  have G:∀b o,b≠P->s.heap.get? b=some o->(D.push (v8 X j g body scope k i l)).get? b=some o:=λb o B q=>agm _ (hx b o B q);have nP:∀{b},H b=none->b≠P:=λn z=>by rw[z,A]at n;cases n
  have oP:(D.push (v8 X j g body scope k i l)).get? P=some (adM ps i):=by rw[N];exact agm _ a8
  have oC:(D.push (v8 X j g body scope k i l)).get? i=some Y:=agm _ M;have nC:∀{b u},H b=some u->b≠i:=λq z=>by rw[z,R]at q;cases q
  have J:Inv X pins σ (upd H i (.own P)) {s with heap:=D.push (v8 X j g body scope k i l),toks:=tk}:=by
   refine I.jU (g':=s.gens) (d':=s.drawn) (ch:=[]) (λ_ z=>nomatch z) (λb o _ _ _ q n=>G b o (nP n) q) (λb o _ _ _ q n=>⟨o.slots,G b o (nP n) q⟩) (λb o _ q n=>?_) (λb o _ q=>?_) (λb xs q=>?_) (λb o u q=>?_) (λb ps q=>⟨#[],?_⟩) (λm hm=>(hm.extBut hx (agG Z)).push _) (λb u q=>?_) I.bare;.rw[ai λz=>absurd (agt q) (by rw[z];exact ahk w)];exact n
   .by_cases B:b=P;.rw[B];exact⟨_,oP⟩
    .exact⟨o,G b o B q⟩
   .rw[ai (nC q)];exact q
   .rw[ai (nC q)];exact q
   .rw[ai (nC q),q];simp
   .by_cases B:b=i;.subst B;rw[aq]at q;cases q;exact⟨_,oC⟩
    .rw[ai B]at q;by_cases x:b=P;.subst x;rw[A]at q;cases q;exact .inr ⟨i,j,t,aq,by rw[N];rfl,oP,i,Y,vs,tq,rfl,oC,r,hv⟩
     .refine(I.hok b u q).jV (λd v r q'=>G d v ?_ q') (λd q'=>by rw[ai (nC q')];exact q') λd xs q'=>by rw[ai (nC q')];exact q'
      rcases r with rfl|r;.exact x
      .intro z;rw[z,A]at r;cases r
  have J1:=J.vX (e:=P) (o:=.tab ps) (by rw[ai (agG S)];exact A) (λ_ z=>by cases z) (λ_ _ z=>by cases z) (λ_ z=>by cases z) λ_ z=>by cases z
  have J2:=J1.vX (e:=i) (o:=.own P) (by rw[cb S];exact aq) (λ_ z=>by cases z) (λ_ _ z=>by cases z) (λ_ z=>by cases z) λa z=>by cases z;exact bJ
  have eH:del (del (upd H i (.own P)) P) i=del (del H P) i:=by
   funext b;by_cases B:b=i;.rw[B,bJ,bJ]
   .rw[cb B,cb B];by_cases x:b=P;.rw[x,bJ,bJ]
    .rw[cb x,cb x,ai B]
  rw[eH]at J2;have lf:s.heap.objs.size<=D.objs.size:=agy w (ahl a0);have J3:=J2.xA (e:=D.objs.size) (agA _ rfl) (cN (cN (I.hok.fresh lf))) (λz=>absurd I.lt (by rw[<-z];exact ahk lf)) (I.z7 lf) λv z=>by cases z
  have J4:=J3.xA (e:=i) oC bJ (λz=>absurd I.lt (by rw[<-z];exact ahk w)) (I.z7 w) λv z=>by rw[r]at z;cases z
  have J5:=J4.xA (e:=P) oP (by rw[cb (agG S)];exact bJ) Z a4 λv z=>by cases z
  refine h D.objs.size i Y l _ ⟨J5,S,⟨vs,tq,r,hv⟩,λo q _ _=>absurd (agv (agt q) I.sz) (ahk w),λp hp=>?_,.inl R,agG (agz (agv (agt e) lf)),agG (agz a0)⟩;have lp:=agt (I.pin p hp).1;exact⟨a5 p hp,agz (agv lp w),agz (agv lp lf)⟩
 .obtain⟨g1,g2⟩:=U e rfl rfl;obtain⟨c2,Y,vs,a6,e2,M,r,hv⟩:=K;cases e2;have eq:q=j:=by rw[N]at a1;cases a1;rfl
  subst eq;have S:i≠P:=λz=>by rw[z,A]at O;cases O
  have a7:i∉X.fs:=λz=>by have:=I.ig i (by
    rcases I.ok.stk with e|⟨e,_⟩;.rw[e];exact z
    .rw[e];exact ag5.mpr (by obtain⟨a,b,d⟩:=ag5.mp z;exact⟨a,agw _ b,d⟩));rw[O]at this;cases this
  have e':s.heap.get? P=some (tabObj #[rawInt pos.line,rawInt pos.col,.ref i]):=by rw[N]at e;exact e
  refine kla_makeFunctionHit (cv:=.ref i) (mg:=X.mg) a2 I.ok.glob hg L.code C e' (by trivial) (by simp[codeAmong,rawInt]) g2 λl D tk hk y=>?_;have G:∀b o,s.heap.get? b=some o->(D.push (v8 X q g body scope k i l)).get? b=some o:=λb o z=>agm _ (hk b o z);have J:Inv X pins σ H {s with heap:=D.push (v8 X q g body scope k i l),toks:=tk}:=I.jU (g':=s.gens) (d':=s.drawn) (ch:=[]) (λ_ z=>nomatch z) (λb o _ _ _ q n=>G b o q) (λb o _ _ _ q n=>⟨o.slots,G b o q⟩) (λb o _ q n=>n) (λb o _ q=>⟨o,G b o q⟩) (λb xs q=>q) (λb o u q=>q) (λb ps q=>⟨#[],by rw[q];simp⟩) (λm hm=>(hm.keeps hk).push _) (I.hok.kept G) I.bare;have J1:=J.vX (e:=P) (o:=.tab ps) A (λ_ z=>by cases z) (λ_ _ z=>by cases z) (λ_ z=>by cases z) λ_ z=>by cases z
  have J2:=J1.vX (e:=i) (o:=.own P) (by rw[cb S];exact O) (λ_ z=>by cases z) (λ_ _ z=>by cases z) (λ_ z=>by cases z) λa z=>by cases z;exact bJ
  have J3:=J2.xA (e:=D.objs.size) (agA _ rfl) (cN (cN (I.hok.fresh y))) (λz=>absurd I.lt (by rw[<-z];exact ahk y)) (I.z7 y) λv z=>by cases z
  have J4:=J3.xA (e:=i) (G _ _ M) bJ (λz=>by rw[z,I.free]at O;cases O) a7 λv z=>by rw[r]at z;cases z
  have J5:=J4.xA (e:=P) (G _ _ e) (by rw[cb (agG S)];exact bJ) Z a4 λv z=>by cases z
  refine h D.objs.size i Y l _ ⟨J5,S,⟨vs,a6,r,hv⟩,λo q1 q2 q3=>?_,λp hp=>?_,.inr O,agG (agz (agv (agt e) y)),agG (agz (agv (agt M) y))⟩;.have:=I.base.free i o q1 q2 q3;rw[O]at this;cases this
  .have pp:=I.pin p hp;exact⟨a5 p hp,λz=>by rw[z,O]at pp;exact(nomatch pp.2.1),agz (agv (agt pp.1) y)⟩
end
noncomputable def ql(P:Program)(w:World)(K:Frag)(mg:Str->Option Value)(base:Heap)(x y:Str)(qual:Str)(scope:Scope)(ca f:Addr)(cd:Value)(A:Around)(outer:List Env)(s:Shared)(H:Hp):Cx where prog:=P;w:=w;K:=K;mg:=mg;base:=base;A:=A.deeper (envX qual scope s.heap.objs.size f cd [(y,ca)]);N:=[x,y];s₀:=s;H₀:=H;env:=envX qual scope s.heap.objs.size f cd [(y,ca)];outer:=outer;stack:=envX qual scope s.heap.objs.size f cd [(y,ca)]::outer;ex:=[];calm:=A.handled.isNone;fn:=λ_=>false;pn:=[];xe:=λ_ _=>False
structure LamScope(x y:Str)(sc:Scope):Prop where
 kind:sc.kind=.function
 co:sc.isCoroutine=false
 gen:sc.isGenerator=false
 ne:x≠y
 hx:sc.names.lookup x=some .local
 hy:sc.names.lookup y=some .free
 nocell:∀z∈sc.names,z.2≠.cell
 free:∀z,sc.names.lookup z=some .free->z=y
section
variable{P:Program}{w:World}{K:Frag}{mg:Str->Option Value}{base:Heap}{x y qual:Str}{scope:Scope}{ca f:Addr}{cd:Value}{A:Around}{outer:List Env}{s:Shared}{H:Hp}{ux uy:Value}{vx vy:V}{h₁:Heap}{tk:Tok}
def zj(S:LamScope x y scope)(e:Env0 P w K mg base A outer s H)(u:h₁.Ns s.heap.objs.size λz=>[(x,ux)].reverse.lookup z)(r:∀b o,s.heap.get? b=some o->h₁.get? b=some o)(t:s.heap.IsCell ca (some uy))(B:H ca=none)(J:RelV vx ux)(E:RelV vy uy):Inv (ql P w K mg base x y qual scope ca f cd A outer s H) [] [some vx,some vy] H {s with heap:=h₁,toks:=tk}:=by
 have g:∀b:Addr,b ∉(ql P w K mg base x y qual scope ca f cd A outer s H).ex:=λb z=>absurd (show b∈([]:List Addr)from z) (by simp);have n:∀z d,(ql P w K mg base x y qual scope ca f cd A outer s H).env.cells.lookup z=some d->z=y/\d=ca:=λz d h=>by
  have h:([(y,ca)]:List (Str×Addr)).lookup z=some d:=h;rw[agY]at h;split at h;.rename_i G;cases h;exact⟨eq_of_beq G,rfl⟩
  .cases h
 obtain⟨C,l,k⟩:=id t;have D:([(y,ca)]:List (Str×Addr)).lookup y=some ca:=by simp[List.lookup]
 refine⟨⟨e.mod,S.kind,rfl,rfl,agx _,λa b c j q=>(n a c j).1.trans (n b c q).1.symm,λz m=>?_,λz c h=>(by cases h),λz=>ai1.mp z,Around.frames_deeper e.frames,.inr ⟨rfl,rfl⟩,λb z=>absurd z (g b),e.bs,e.bsz,λb _ _=>g b,λb z=>absurd z (g b),e.jF,e.frf⟩,rfl,e.bare,Un.kept r,⟨_,u,λi z v j q M=>?_⟩,λz c h=>?_,e.hok.fresh (agx _),λz c h=>?_,λp I=>absurd (show p∈([]:List (Addr×Obj))from I) (by simp),e.hok.kept r,rfl⟩
 .rcases m with m|m;.exact absurd rfl (S.nocell _ (agW m))
  .rw[S.free z m];exact⟨ca,D⟩
 .have j:([x,y]:List Str)[i]?=some z:=j;rcases i with _|_|i;.cases j;cases q;exact⟨ux,J,.inl ⟨S.hx,by simp[List.lookup]⟩⟩
  .cases j;cases q;exact⟨uy,E,.inr ⟨.inr S.hy,ca,D,C,r _ _ l,k⟩⟩
  .cases j
 .rw[(n z c h).2];exact⟨_,C,r _ _ l,k⟩
 .rw[(n z c h).2];exact B
def v7{a:Arguments}{body:Expr}{B i:Value}{h:Addr}{t:TE}{Q:VK}(S:LamScope x y scope)(n:Env0 P w K mg base A outer s H)(M:s.heap.get? f=some (kla_obj "<lambda>" qual a body scope [(y,ca)] B h i))(m:s.heap.CodeRec (.ref h) qual)(d:A.depth<recursionLimit)(g:bindArgs (kla_fn "<lambda>" qual a body scope [(y,ca)] B (.ref h) i) ⟨[ux],[]⟩=pure [(x,ux)])(k:s.heap.IsCell ca (some uy))(p:H ca=none)(O:RelV vx ux)(D:RelV vy uy)(N:PE (ql P w K mg base x y qual scope ca f (.ref h) A outer s H) body t)(ht:t [some vx,some vy] H Q):codeAny (model P w) A (.call (.ref f) ⟨[ux],[]⟩) (λr C=>∃u,r=.ok (.ret u)/\CE outer P w H s Q u C) s:=by refine kla_callFunE d M rfl S.co S.gen rfl m ?_;rw[g];refine agp (wpAny_newFunctionEnv S.nocell (λz I=>by rw[ag9.mp I];exact S.hx) (λh₁ l j=>?_) S.kind);have c:∀b o,s.heap.get? b=some o->h₁.get? b=some o:=λb o e=>j.extBut b o (agz (agt e)) (agm _ e);refine⟨(n.mod.nolimit.keeps λb o e=>(n.bs b o e).1).keeps c,?_⟩;show codeAny _ _ (.expr body (envX qual scope s.heap.objs.size f (.ref h) [(y,ca)])) _ _;refine kla_codeExpr (agN (N [] _ _ H Q (zj S n l c k p O D) ht) (λu C R=>?_) λ_ _ z=>z.elim);obtain⟨v,G,J,E,q⟩:=R;exact⟨u,rfl,v,G,J.os,J.bare,J.base,J.hok,E,q⟩
end
section
variable{X:Cx}{pins:List (Addr×Obj)}{σ:St}{H:Hp}{s:Shared}{h':Heap}{kS:Addr}{m:Str->Option Value}
structure Rec(X:Cx)(pins:List (Addr×Obj))(k:Addr):Prop where
 s0:X.s₀.heap.get? k=none
 b0:X.base.get? k=none
 ne:k≠X.env.locals
 fs:k∉X.fs
 cl:∀x c,X.env.cells.lookup x=some c->c≠k
 pn:∀p∈X.pn++pins,p.1≠k
def Inv.yi{o:Obj}{t':Tok}(I:Inv X pins σ H s)(R:Rec X pins kS)(h:H kS=none)(l:s.heap.Ns X.env.locals m)(e:h'.Ns X.env.locals m)(keep:∀b u,b≠X.env.locals->b≠kS->s.heap.get? b=some u->h'.get? b=some u)(w:h'.get? kS=some o)(p:∀v,o.data≠.cell v):Inv X ((kS,o)::pins) σ H {s with heap:=h',toks:=t'}:=by
 have j:∀{b u},H b=some u->b≠kS:=λq z=>by rw[z,h]at q;cases q
 have i:∀{b u},H b=some u->b≠X.env.locals:=λq z=>by rw[z,I.free]at q;cases q
 have J:Inv X pins σ H {s with heap:=h',toks:=t'}:=by
  refine I.jU (g':=s.gens) (d':=s.drawn) (ch:=[kS]) (λb f=>by rw[ag9.mp f];exact⟨.inr R.s0,R.ne,R.cl,R.pn⟩) (λb o g _ d q n=>keep b o g (λz=>d (by rw[z];exact ahi _)) q) (λb o g _ d q n=>⟨o.slots,keep b o g (λz=>d (by rw[z];exact ahi _)) q⟩) (λb o _ q n=>n) (λb o d q=>?_) (λb k q=>q) (λb o u q=>q) (λb ps q=>⟨#[],by rw[q];simp⟩) (λx t=>?_) (λb u q=>?_) I.bare
  .by_cases f:b=X.env.locals;.obtain⟨r,_,_,z,_⟩:=e;rw[f];exact⟨r,z⟩
   .exact⟨o,keep b o f (λz=>d (by rw[z];exact ahi _)) q⟩
  .rw[<-sr l t];exact e
  .refine(I.hok b u q).jV (λc v a z=>keep c v ?_ ?_ z) (λc z=>z) λc k z=>z
   .rcases a with rfl|a;.exact i q
    .exact i a
   .rcases a with rfl|a;.exact j q
    .exact j a
 exact J.xA w h R.ne R.fs p
def Inv.af3(I:Inv X pins σ H s){H':Hp}{s':Shared}(un:Un (frs X.stack) [] H H' s.heap s'.heap)(c:s.heap.Ns X.env.locals m):s'.heap.Ns X.env.locals m:=by obtain⟨o,a,b,d,r⟩:=c;obtain⟨e,z⟩:=un.any d I.free (by simp);exact⟨_,a,b,z,r⟩
def restOf(X:Cx)(s:Shared)(kS:Addr):List (Addr×Obj):=(dU X.base s.heap X.env.locals).filter λp=>p.1!=kS
def sE{b:Addr}{o:Obj}(e:b≠X.env.locals)(c:b≠kS)(a:X.base.get? b=none)(d:s.heap.get? b=some o):(b,o)∈restOf X s kS:=ahe.mpr ⟨cx e a d,by simpa using c⟩
def fX(I:Inv X pins σ H s):News X.base X.env.locals s.heap (restOf X s kS):=λp a=>(gS (g:=X.base) (h:=s.heap) (L:=X.env.locals)) p (ahe.mp a).1
def j4:∀p∈restOf X s kS,p.1≠kS:=λp a=>by have:=(ahe.mp a).2;simpa using this
def Inv.zf(I:Inv X pins σ H s)(F:Fr X.base X.env.locals h' m)(N:∀p∈restOf X s kS,h'.get? p.1=some p.2):∀b u,b≠X.env.locals->b≠kS->s.heap.get? b=some u->h'.get? b=some u:=λb o c a e=>by cases q:X.base.get? b with|some u=>have:=I.bk b u q;rw[e]at this;cases this;exact F.keep b _ q|none=>exact N (b,o) (sE c a q e)
end
abbrev afN(K:Frag)(H:Hp)(a:List V)(g:Nat->Int)(j:Nat):Prop:=wU K H a ((List.range j).map λi=>(g i,(i:Int)))
def wU.aet{K:Frag}{H H':Hp}(e:aw H H'){vs ps}(h:wU K H vs ps):wU K H' vs ps:=Paired.imp' (λv q⟨x,b,a⟩=>⟨x,b,e.tup a⟩) h
theorem Paired.snoc{c d:Type}{R:c->d->Prop}:∀{e:List c}{bs:List d}{a b},Paired R e bs->R a b->Paired R (e++[a]) (bs++[b])|_,_,_,_,.nil,h=>.cons h .nil|_,_,_,_,.cons x t,h=>.cons x (Paired.snoc t h)
theorem Vals.snoc:∀{vs us v u},Vals vs us->RelV v u->Vals (vs++[v]) (us++[u])|_,_,_,_,.nil,h=>.cons h .nil|_,_,_,_,.cons x t,h=>.cons x (Vals.snoc t h)
def wV(X:Cx)(f k b:Addr)(l:Obj)(q:Str)(i:V)(g:Nat->Int)(n:Nat):Prop:=∀(s:Shared)(H:Hp)(j:Nat)(u e:Value),j<n->Env0 X.prog X.w X.K X.mg X.base X.A.in1.in1 X.stack s H->s.heap.get? f=some l->s.heap.CodeRec (.ref k) q->s.heap.IsCell b (some e)->H b=none->RelV i e->RelV (.int j) u->codeAny (model X.prog X.w) X.A.in1.in1 (.call (.ref f) ⟨[u],[]⟩) (λr h=>∃c,r=.ok (.ret c)/\CE X.stack X.prog X.w H s (λv d=>aw H d/\∃a,v=.ref a/\SqT X.K d a [.int (g j),.int j]) c h) s
section
variable{X:Cx}{pins:List (Addr×Obj)}{σ:St}{H₀:Hp}{kS f c' ca:Addr}{m:Str->Option Value}{fo oc:Obj}{q y:Str}{vy:V}{g:Nat->Int}{n:Nat}
theorem oZ{Fin:List Value->Nat->Shared->Prop}(R:Rec X pins kS)(T:wV X f c' ca fo q vy g n)(hf:(f,fo)∈pins)(Y:(c',oc)∈pins)(hq:∃C tq,oc.data=.fields C/\C[1]?=some (.str q tq))(M:X.env.cells.lookup y=some ca)(l:X.env.kindOf y=some .cell\/X.env.kindOf y=some .free){iy:Nat}(hN:X.N[iy]?=some y)(B:σ[iy]?=some (some vy))(hv:Vis X.env.scope y)(fin:∀(ks:List Value)(d:List V)(e:Nat)(s:Shared)(H:Hp),Inv X ((kS,seqObj "list" ks.toArray e)::pins) σ H s->s.heap.Ns X.env.locals m->aw H₀ H->Vals d ks->afN X.K H d g n->Fin ks e s):∀(rest:List Value)(j:Nat)(ks:List Value)(d:List V)(e:Nat)(s:Shared)(H:Hp),(∀(i:Nat)(v:Value),rest[i]?=some v->∃t,v=.int ((j+i:Nat):Int) t)->j+rest.length=n->Inv X ((kS,seqObj "list" ks.toArray e)::pins) σ H s->s.heap.Ns X.env.locals m->aw H₀ H->Vals d ks->afN X.K H d g j->KatKeys X.prog X.w X.A.in1.in1 X.base X.env.locals m kS (.ref f) Fin rest ks e s
|[],j,ks,d,e,s,H,_,hj,I,hn,sm,rv,pr=>by
 have:j=n:=by simpa using hj
 subst this;exact KatKeys.nil (fin ks d e s H I hn sm rv pr)|v::rest,j,ks,d,e,s,H,hr,hj,I,hn,sm,rv,pr=>by
  obtain⟨t,ev⟩:=hr 0 v rfl;have pf:=I.pin _ (agF _ (.tail _ hf));have pc:=I.pin _ (agF _ (.tail _ Y));obtain⟨C,tq,S,E⟩:=hq;obtain⟨m',a0,hl⟩:=id I.loc;obtain⟨uy,ry,lk⟩:=hl iy y vy hN B hv;have h:s.heap.IsCell ca (some uy):=by
   rcases lk with⟨k,_⟩|⟨_,c,e1,e2⟩;.rcases l with z|z<;>rw[z]at k<;>cases k
   .rw[M]at e1;cases e1;exact e2
  refine KatKeys.cons (ah6 (ahT (T s H j v uy (by simp at hj;omega) I.ac9.in1.in1 pf.1 ⟨c',oc,C,tq,rfl,pc.1,S,E⟩ h (I.freeC y ca M) ry ⟨t,by rw[ev];rfl⟩) λr s' N=>?_));obtain⟨u',rfl,w,U,os,x,un,O,Q,u,a,ea,sq⟩:=N;subst ea;obtain⟨hh,K,dd,G,a1⟩:=s';obtain rfl:=os;have A:=I.call (ch:=[]) (g':=K) (t':=G) (d':=dd) un O x λb z=>absurd z (by simp);have o:=I.af3 (s':=⟨hh,K,dd,G,s.os⟩) un hn;have pk:=A.zZ;refine KatBack.intro (news:=(kS,seqObj "list" ks.toArray e)::restOf X ⟨hh,K,dd,G,s.os⟩ kS) ⟨o,A.bk,agy I.ok.bsz I.ok.above⟩ (λp D=>?_) (.head j4) λh2 c2 P Z=>?_
  .rcases ags.mp D with rfl|D;.exact⟨pk.1,R.ne,R.b0⟩
   .exact fX A p D
  .have kp:=A.zf (kS:=kS) P λp D=>(Z p (.tail _ D)).1;have J:=A.k8.yi (t':=G) R pk.2.1 o P.ns kp (Z _ (.head _)).1 λv z=>by cases z
   refine oZ R T hf Y ⟨C,tq,S,E⟩ M l hN B hv fin rest (j+1) (ks++[u']) (d++[.ref a]) c2 _ U (λi v hi=>?_) (by simp at hj;omega) J P.ns (sm.trans u) (Vals.snoc rv Q) ?_;.obtain⟨t,e⟩:=hr (i+1) v (by simpa using hi);exact⟨t,by rw[e];congr 1;omega⟩
   .show wU X.K U _ ((List.range (j+1)).map _);rw[List.range_succ,aih];exact Paired.snoc (wU.aet u pr) ⟨a,rfl,sq⟩
end
section
variable{X:Cx}{pins:List (Addr×Obj)}{σ:St}{H:Hp}{s:Shared}{h':Heap}{kS D:Addr}{m:Str->Option Value}
def Inv.aaz{ys:List V}{its:List Value}{n:Nat}{t':Tok}(I:Inv X pins σ H s)(R:Rec X pins D)(k:H D=none)(l:s.heap.Ns X.env.locals m)(g:h'.Ns X.env.locals m)(keep:∀b u,b≠X.env.locals->b≠D->s.heap.get? b=some u->h'.get? b=some u)(w:h'.get? D=some (listOf its.toArray n))(r:Vals ys its)(hz:ys.length<=sizeLine):Inv X pins σ (upd H D (.lst ys)) {s with heap:=h',toks:=t'}:=by
 have e:∀{b u},H b=some u->b≠D:=λq z=>by rw[z,k]at q;cases q
 have i:∀{b u},H b=some u->b≠X.env.locals:=λq z=>by rw[z,I.free]at q;cases q
 refine I.jU (g':=s.gens) (d':=s.drawn) (ch:=[D]) (λb d=>by rw[ag9.mp d];exact⟨.inr R.s0,R.ne,R.cl,R.pn⟩) (λb o h _ a q n=>keep b o h (λz=>a (by rw[z];exact ahi _)) q) (λb o h _ a q n=>⟨o.slots,keep b o h (λz=>a (by rw[z];exact ahi _)) q⟩) (λb o a q n=>?_) (λb o a q=>?_) (λb j q=>?_) (λb o u q=>?_) (λb ps q=>⟨#[],?_⟩) (λx t=>?_) (λb u q=>?_) I.bare;.rw[ai λz=>a (by rw[z];exact ahi _)];exact n
 .by_cases d:b=X.env.locals;.obtain⟨p,_,_,z,_⟩:=g;rw[d];exact⟨p,z⟩
  .exact⟨o,keep b o d (λz=>a (by rw[z];exact ahi _)) q⟩
 .rw[ai (e q)];exact q
 .rw[ai (e q)];exact q
 .rw[ai (e q),q];simp
 .rw[<-sr l t];exact g
 .by_cases d:b=D;.subst d;rw[aq]at q;cases q;exact⟨hz,its,n,r,w⟩
  .rw[ai d]at q;refine(I.hok b u q).jV (λc v f z=>keep c v ?_ ?_ z) (λc z=>by rw[ai (e z)];exact z) λc j z=>by rw[ai (e z)];exact z
   .rcases f with rfl|f;.exact i q
    .exact i f
   .rcases f with rfl|f;.exact e q
    .exact e f
def Inv.ae9(I:Inv X pins σ H s){k:Addr}(a:s.heap.objs.size<=k)(d:X.base.get? k=none):Rec X pins k:=⟨ag6 (agy I.sz a),d,λz=>absurd I.lt (by rw[<-z];exact ahk a),I.z7 a,λx c e z=>by obtain⟨v,o,f,_⟩:=I.cell x c e;exact absurd (agt f) (by rw[z];exact ahk a),λp b z=>absurd (agt (I.pin p b).1) (by rw[z];exact ahk a)⟩
def vu{a:List Value}{n:Nat}(f:a.length=n)(h:∀(i:Nat)(v:Value),a[i]?=some v->∃t,v=.int ((i:Nat):Int) t):Vals ((List.range n).map λi=>V.int (i:Nat)) a:=by
 have go:∀(b:List Value)(k:Nat),(∀(i:Nat)(v:Value),b[i]?=some v->∃t,v=.int ((k+i:Nat):Int) t)->Vals ((List.range' k b.length).map λi=>V.int (i:Nat)) b:=by intro b;induction b with|nil=>intro k _;exact .nil|cons u b ih=>
   intro k d;rw[agJ,List.range'_succ,agP];refine .cons ?_ (ih (k+1) λi v c=>?_);.obtain⟨t,e⟩:=d 0 u rfl;exact⟨t,by simpa using e⟩
   .obtain⟨t,e⟩:=d (i+1) v (by simpa using c);exact⟨t,by rw[e];congr 1;omega⟩
 have:=go a 0 λi v c=>by obtain⟨t,e⟩:=h i v c;exact⟨t,by rw[e];congr 1;omega⟩
 rw[f]at this;rw[List.range_eq_range'];exact this
end
section
variable{X:Cx}{pins:List (Addr×Obj)}{σ:St}{H:Hp}{s:Shared}{f c' ca r:Addr}{fo oc:Obj}{q y:Str}{vy:V}{g:Nat->Int}{n:Nat}{Q:Value->Shared->Prop}{E:Value->Shared->Prop}
noncomputable abbrev rR(g:Nat->Int)(n:Nat):List (Int×Int):=(List.range n).map λi=>(g i,(i:Int))
def pS(I:Inv X pins σ H s)(a1:X.calm=true)(hr:H r=some (.rng 0 n))(h2:2<=n)(a7:n<64)(ok:WL.okT n (kas_sort n)=true)(hk:wV X f c' ca fo q vy g n)(hf:(f,fo)∈pins)(hc:(c',oc)∈pins)(hq:∃vs tq,oc.data=.fields vs/\vs[1]?=some (.str q tq))(hy:X.env.cells.lookup y=some ca)(Z:X.env.kindOf y=some .cell\/X.env.kindOf y=some .free){iy:Nat}(hN:X.N[iy]?=some y)(a3:σ[iy]?=some (some vy))(B:Vis X.env.scope y)(h:∀D Y s',s.heap.get? D=none->Y D=none->aw H Y->Inv X pins σ (upd Y D (.lst ((WL.ixs (rR g n)).map λi=>((List.range n).map λi=>V.int (i:Nat)).getD i V.non))) s'->Q (.ref D) s'):wpAny (model X.prog X.w) X.A (call (.builtin "sorted") [.ref r] [(Str.ofString "key",.ref f)]) Q E s:=by
 obtain⟨t,u,v,er⟩:=show bS X.prog X.w H s.heap r (.rng 0 n)from I.hok r _ hr;obtain⟨m,hn,_⟩:=id I.loc;refine call_function_entry_kw kind_sorted plain_sorted entry_sorted (ksk_s1 _ _) ?_;unfold Builtin.«sorted»;refine agl (m:=checkCount "sorted" 1 1 _) (agp ?_);refine agl (nL (A:=X.A.in1) (n:=n) (I.ok.hd a1) er (small_one (by omega) (by omega) (by omega) (by omega)) (by rw[rangeSize_one];split<;>omega) (by omega) λk tk c e kp hS hi=>?_);have la:c.toList.length=n:=by simpa using hi.1
 have ia:∀(i:Nat)(v:Value),c.toList[i]?=some v->∃t,v=.int ((i:Nat):Int) t:=λi v B=>by obtain⟨t,e⟩:=hi.2 i v (by simpa using B);exact⟨t,by rw[e];congr 1;omega⟩
 refine agl (wpAny_newList ?_ (by rw[ajl,la];omega));have d:s.heap.objs.size<k.objs.size:=agt hS;have C:(k.push (seqObj "list" c.toList.toArray 0)).get? k.objs.size=some (seqObj "list" c.toList.toArray 0):=agA _ rfl;have keep:∀b o,s.heap.get? b=some o->(k.push (seqObj "list" c.toList.toArray 0)).get? b=some o:=λb o z=>agm _ (kp b o z);have F0:Fr X.base X.env.locals s.heap m:=⟨hn,I.bk,agy I.ok.bsz I.ok.above⟩;have lz:X.base.objs.size<=k.objs.size:=agy (agy I.ok.bsz I.sz) (ahl d);refine agl (ahn (wpAny_call_entry_kw slot_list_sort ⟨_,C,rfl⟩ entry_list_sort ?body (ksk_l1 _ _)));case body=>
  show wpAny (model X.prog X.w) X.A.in1.in1 (Builtin.«list.sort» ⟨[.ref k.objs.size],[(Str.ofString "key",.ref f)]⟩) _ _ _;rw[ksk_t1];refine kat_keyed (h₀:=X.base) (L:=X.env.locals) (m:=m) (vs:=c.toList) (news:=dU X.base s.heap X.env.locals) (F0.kept keep) (gS.grown keep) C (λz=>absurd I.lt (by rw[<-z];exact ahk (ahl d))) (ag6 lz) (λp a z=>absurd (agt (gS p a).1) (by rw[z];exact ahk (ahl d))) (by omega) (by omega) λkS e1 a2 F' S l0 l1=>?_;have nD:=S _ (.tail _ (.head _));have nK:=S _ (.head _);have a0:∀b u,b≠X.env.locals->s.heap.get? b=some u->a2.get? b=some u:=λb o hb e=>by cases z:X.base.get? b with|some u=>have:=I.bk b u z;rw[e]at this;cases this;exact F'.keep b _ z|none=>exact(S (b,o) (.tail _ (.tail _ (cx hb z e)))).1
  have x:s.heap.objs.size<=kS:=ahl (ai7 d l0);have N:Rec X pins k.objs.size:=I.ae9 (ahl d) nD.2.2;have I1:=I.yi (t':=tk) N (I.hok.fresh (ahl d)) hn F'.ns (λb u hb _ e=>a0 b u hb e) nD.1 λv z=>by cases z
  have I2:=I1.xA (e:=kS) nK.1 (I.hok.fresh x) nK.2.1 (I.z7 x) λv z=>by cases z
  have w:Rec X pins kS:=I.ae9 x nK.2.2;have M:Rec X ((k.objs.size,seqObj "list" #[] e1)::pins) kS:=⟨w.s0,w.b0,w.ne,w.fs,w.cl,λp a=>by
   rcases ahr.mp a with a|a;.exact w.pn p (ag0 _ a)
   .rcases ags.mp a with rfl|a;.exact agz l0
    .exact w.pn p (agF _ a)⟩;refine oZ (pins:=(k.objs.size,seqObj "list" #[] e1)::pins) (H₀:=H) (n:=n) M hk (.tail _ hf) (.tail _ hc) hq hy Z hN a3 B (λks kv e2 K H2 J G sm rv pr=>?_) c.toList 0 [] [] 0 _ H (λi v B=>by obtain⟨t,e⟩:=ia i v B;exact⟨t,by rw[e];congr 1;omega⟩) (by omega) I2 F'.ns (aw.refl _) .nil .nil;have T:=h6 J pr rv;have a6:=T.len;have l:(rR g n).length=n:=by simp[rR]
  have a4:WL.ixs (rR g n)=(WL.vt (λi j=>WL.ltP ((rR g n).getD i (0,0)) ((rR g n).getD j (0,0))) (kas_sort n)).toList:=by unfold WL.ixs;rw[l]
  obtain⟨fs,kt,fl,fi⟩:=T.kat;refine kat_kind (T:=.type "int") kt (by rw[fl,agO,ahP];omega) (λv B=>?_) (by decide) ?_;.obtain⟨i,t,rfl⟩:=fi v B;exact .now
  .rw[la];show(kas_sort n).kasWp (kas_ask X.prog X.w X.A.in1.in1 (tuples' true) ks) _ K;refine iB (ps:=rR g n) T _ (by rw[l];exact ok) ?_;have pk:=J.zZ;refine KatFin.intro (news:=(kS,seqObj "list" ks.toArray e2)::restOf X K kS) ⟨G,J.bk,agy I.ok.bsz I.ok.above⟩ (λp a=>?_) (.head j4) λh3 c3 O N3=>?_
   .rcases ags.mp a with rfl|a;.exact⟨pk.1,M.ne,M.b0⟩
    .exact fX J p a
   .have U:=J.zf (kS:=kS) O λp a=>(N3 p (.tail _ a)).1;have P:=(J.k8.yi (t':=K.toks) M pk.2.1 G O.ns U (N3 _ (.head _)).1 λv z=>by cases z).k8;have pd:=P.zZ;refine KasFin.intro (news:=(k.objs.size,seqObj "list" #[] e1)::restOf X {K with heap:=h3} k.objs.size) O (λp a=>?_) (.head j4) λh4 c4 F4 N4=>?_
    .rcases ags.mp a with rfl|a;.exact⟨pd.1,N.ne,N.b0⟩
     .exact fX P p a
    .have R:=P.zf (kS:=k.objs.size) F4 λp a=>(N4 p (.tail _ a)).1;have J4:=P.k8.aaz (t':=K.toks) (ys:=(WL.ixs (rR g n)).map λi=>((List.range n).map λi=>V.int (i:Nat)).getD i V.non) N pd.2.1 O.ns F4.ns R (N4 _ (.head _)).1 (by rw[a4];exact mI _ (vu la ia)) (by
      have a5:(WL.ixs (rR g n)).length=(rR g n).length:=by unfold WL.ixs;rw[aic];exact iC _ (by rw[l];exact ok)
      rw[agO,a5,l,ajl];omega);exact⟨_,rfl,agp ⟨_,rfl,h _ H2 _ (ag6 (ahl d)) pd.2.1 sm J4⟩⟩
end
abbrev ysG(g:Nat->Int)(n:Nat):List V:=(WL.ixs (rR g n)).map λi=>((List.range n).map λi=>V.int (i:Nat)).getD i V.non
section
variable{X:Cx}{c P ca:Addr}{y qual:Str}{iy:Nat}{ps:Array Value}{params:Arguments}{body a:Expr}{scope:Scope}{ta:TA}{lpos kp p p' pos pos':Pos}{t:Tok}
def xm(X:Cx)(P ca:Addr)(iy:Nat)(ps:Array Value)(y qual:Str)(params:Arguments)(body:Expr)(scope:Scope)(σ:St)(Q:VK)(v:V)(d:Hp):Prop:=∃r n g i,v=.ref r/\d r=some (.rng 0 (n:Nat))/\2<=n/\n<64/\WL.okT n (kas_sort n)=true/\d P=some (.tab ps)/\σ[iy]?=some (some i)/\(∀f b h,wV X f b ca (v8 X qual params body scope [(y,ca)] b h) qual i g n)/\∀D b e,d D=none->D≠P->D≠b->b≠P->d b=none\/d b=some (.own P)->e D=none->aw (del (del d P) b) e->Q (.ref D) (upd (upd (upd e D (.lst (ysG g n))) P (.tab ps)) b (.own P))
def aaF(X:Cx)(P ca:Addr)(iy:Nat)(ps:Array Value)(y qual:Str)(params:Arguments)(body:Expr)(scope:Scope)(ta:TA):TE:=λσ H Q=>ri ta σ H (xm X P ca iy ps y qual params body scope σ Q)
def vG(G:X.calm=true)(hg:Gl X "sorted")(hm:X.mg "sorted"=none)(S:Gl X "range")(M:X.mg "range"=none)(ha:PA X [a] ta)(L:Lm X c P)(h0:X.H₀ P≠none)(k:ps=#[rawInt lpos.line,rawInt lpos.col,.str qual t])(R:closureFor scope X.env=pure [(y,ca)])(hq:X.env.qual++"<lambda>"=qual)(l:defaultsOf params X.env=([],[]))(hy:X.env.cells.lookup y=some ca)(C:X.env.kindOf y=some .cell\/X.env.kindOf y=some .free)(hN:X.N[iy]?=some y)(hv:Vis X.env.scope y)(hs:starEach [a] X.env=[(false,eval a X.env)]:=by rfl)(B:SE X (.Call (.Name "range" p') [a] [] pos') []:=by rfl)(Z:BT X pos []:=by rfl):PE X (.Call (.Name "sorted" p) [.Call (.Name "range" p') [a] [] pos'] [⟨some (Str.ofString "key"),.Lambda params body scope lpos,kp⟩] pos) (aaF X P ca iy ps y qual params body scope ta):=by intro m s σ H Q I h;have hR:=bO (rY S M ha hs (p:=p') (pos:=pos')) dM B;refine ahY (eM I hg hm boot_sorted (callWith_kw (thn (hR pos m s σ H (λU j=>match U with|[v]=>xm X P ca iy ps y qual params body scope σ Q v j|_=>False) I h) λus s1 z=>?_) (by rw[B];rfl) (by rw[B];exact Z)) (by decide) (by decide));obtain⟨U,j,I1,Y,E⟩:=z;match U,Y,E with
|[v],Y,E=>
  obtain⟨r,n,g,vy,rfl,x,h2,O,ok,hP,T,hk,q⟩:=E;obtain⟨u,rfl,ru⟩:=Y.one;cases show u=Value.ref r from ru;refine kws_cons (v5 I1 L hP k R hq l λf A oc N s2 b=>kws_nil ?_);have cH:del (del j P) A r=some (.rng 0 n):=by rw[cb (λz=>by rcases b.own with w|w<;>rw[<-z,x]at w<;>cases w),cb λz=>by rw[z,hP]at x;cases x];exact x
  obtain⟨a1,tq,hd,a0⟩:=b.cod;show wpAny (model X.prog X.w) X.A (call (.builtin "sorted") [.ref r] [(Str.ofString "key",.ref f)]) _ _ s2;refine pS b.inv G cH h2 O ok (hk f A N) (.tail _ (.tail _ (.head _))) (.tail _ (.head _)) b.cod hy C hN T hv λD H' s' d hD sm J=>?_;have pP:=b.inv.zZ;have pC:=b.inv.afe;have dP:D≠P:=λz=>by rw[z,pP.1]at d;cases d
  have dC:D≠A:=λz=>by rw[z,pC.1]at d;cases d
  have dH:j D=none:=by cases e:j D with|none=>rfl|some o=>obtain⟨o',e'⟩:=(b.inv.hok D o (by rw[cb dC,cb dP];exact e)).some;rw[d]at e';cases e'
  have K:=(J.adQ b.ne h0 b.old (λp i=>?_) (by rw[k];rfl) hd a0).k8;.exact⟨.ref D,_,K,rfl,q D A H' dH dP dC b.ne b.own hD sm⟩
  .rcases ahr.mp i with i|i;.have:=b.pn p (ag0 _ i);exact⟨this.1,this.2.1⟩
   .rcases ags.mp i with rfl|i;.exact b.fne
    .have:=b.pn p (agF _ i);exact⟨this.1,this.2.1⟩
end
end L2
namespace WS
open PySem PySem.Spec PySem.Calls PyProof.Rows PySem.W L2
open WL(Res Sl Ws EF TF AF LF GF GsF SF Out)
def abC{f:List VW->Res VW}{z c:Int}{n j:Nat}(h:WL.okK f z c n=true)(a:j<n):f [.int z,.int (c+j)]=.ok (.int (WL.gK f z c j)):=by have:=ag3.mp h j (agB.mpr a);unfold WL.gK;cases e:f [.int z,.int (c+j)]with
|ok w=>rw[e]at this;cases w<;>first|rfl|cases this
|_=>rw[e]at this;cases this
def acf{f:List VW->Res VW}{z c:Int}{n j:Nat}(h:WL.okK f z c n=true)(a:j<n):WL.ebK f c [.va (.int j),.va (.int z)]=.ok (.tup [.int (WL.gK f z c j),.int j]):=by have e:=abC h a;simp[WL.ebK,e]
section
variable{X:Cx}{x y qual:Str}{scope:Scope}{params:Arguments}{body:Expr}{ca:Addr}{k n:Nat}{fn:List VW->Res VW}{z c:Int}
def abR(w:Room (k+3) X.A)(S:LamScope x y scope)(K:∀{A b s H f i B},B.K=X.K->Room k (A.deeper (envX qual scope s.heap.objs.size f i [(y,ca)]))->PE (ql X.prog X.w X.K X.mg X.base x y qual scope ca f i A b s H) body (lo B (WL.ebK fn c)))(e:∀C i d u,bindArgs (kla_fn "<lambda>" qual params body scope [(y,ca)] C i d) ⟨[u],[]⟩=pure [(x,u)])(m:WL.okK fn z c n=true)(f r:Addr)(d:Value):wV X f r ca (v8 X qual params body scope [(y,ca)] r d) qual (.int z) (WL.gK fn z c) n:=by
 intro s H j u uy G J I l g p t Q;have q:=w.in1.in1;refine v7 S J I l q.depth (e _ _ _ _) g p Q t (K (B:=⟨X.K,H,λ_=>none,λ_ _ _=>False,λ_ _ _ _ _ h=>h⟩) rfl (q.deeper _)) ⟨[.va (.int j),.va (.int z)],λ_=>none,?_,?_⟩;.exact RS.start (N:=[x,y]) (ws:=[.int j,.int z]) (vs:=[.int j,.int z]) (λa o h=>nomatch h) ⟨_,_,rfl,rfl,_,_,rfl,rfl,rfl⟩ (agx _)
 .rw[acf m G];intro v U Y P R D;refine⟨R.h,?_⟩;obtain⟨a,vs,rfl,O,rs⟩:=D;obtain⟨T,Z,rfl,M,E⟩:=two_of rs;cases M;cases E;exact⟨a,rfl,P.rb.sub.tup O⟩
end
section
variable{X:Cx}{B:Bx}{x y qual:Str}{scope:Scope}{params:Arguments}{body:Expr}{ca P cc:Addr}{k n iy:Nat}{fn:List VW->Res VW}{c:Int}{ps:Array Value}{t:Tok}{lpos kp p p' pos pos' np:Pos}{ck:Nat}
def wd{K:Frag}{F:Hp}{g:Nat->Int}{n:Nat}:RWs K F (WL.abY g n) (ysG g n):=by
 unfold WL.abY ysG;refine rF _ ?_;have h:∀l:List Nat,RWs K F (l.map λi=>WL.W.int (i:Nat)) (l.map λi=>V.int (i:Nat)):=λl=>by induction l with|nil=>rfl|cons a l ih=>exact⟨_,_,rfl,rfl,ih⟩
 exact h _
def uX(hB:B.K=X.K)(a4:X.calm=true)(hr:Room (k+3) X.A)(hT:B.H0 P=some (.tab ps))(h0:X.H₀ P≠none)(L:Lm X cc P)(a3:ps=#[rawInt lpos.line,rawInt lpos.col,.str qual t])(hm:X.mg "sorted"=none)(a5:X.mg "range"=none)(S:LamScope x y scope)(a8:closureFor scope X.env=pure [(y,ca)])(hq:X.env.qual++"<lambda>"=qual)(N:defaultsOf params X.env=([],[]))(hy:X.env.cells.lookup y=some ca)(a1:X.env.kindOf y=some .cell\/X.env.kindOf y=some .free)(hN:X.N[iy]?=some y)(hv:Vis X.env.scope y)(E:∀{A l s H f Z B},B.K=X.K->Room k (A.deeper (envX qual scope s.heap.objs.size f Z [(y,ca)]))->PE (ql X.prog X.w X.K X.mg X.base x y qual scope ca f Z A l s H) body (lo B (WL.ebK fn c)))(C:∀pm Z a6 u,bindArgs (kla_fn "<lambda>" qual params body scope [(y,ca)] pm Z a6) ⟨[u],[]⟩=pure [(x,u)])(h2:2<=n)(a7:n<64)(hg:Gl X "sorted":=by rfl)(a9:Gl X "range":=by rfl)(hs:starEach [.Constant (.int (n:Nat)) ck np] X.env=[(false,eval (.Constant (.int (n:Nat)) ck np) X.env)]:=by rfl)(a2:SE X (.Constant (.int (n:Nat)) ck np) []:=by rfl)(he:SE X (.Call (.Name "range" p') [.Constant (.int (n:Nat)) ck np] [] pos') []:=by rfl)(b0:BT X pos []:=by rfl):PE X (.Call (.Name "sorted" p) [.Call (.Name "range" p') [.Constant (.int (n:Nat)) ck np] [] pos'] [⟨some (Str.ofString "key"),.Lambda params body scope lpos,kp⟩] pos) (lo B (WL.fD fn n c (WL.ak iy))):=by refine PE.imp (vG a4 hg hm a9 a5 (aa (B:=B) (af (i:=(n:Nat))) ah a2) L h0 a3 a8 hq N hy a1 hN hv hs he b0) λj H Q a0=>?_;obtain⟨σ,F,R,q⟩:=a0;show ri _ j H _;refine⟨σ,F,R,?_⟩;show∀vs H' F',RS B σ j F' H'->Gr F H F' H'->RWs B.K F' [.int (n:Nat)] vs->_;intro vs U O h g1 r1;obtain⟨v,rfl,rv⟩:=eK r1;cases rv;refine⟨n,rfl,by omega,by omega,λr K=>?_⟩;unfold WL.fD at q;replace q:=Rq.bind q;cases g:WL.ak iy σ with|bad=>rw[g]at q;exact q.elim|ex z=>unfold WL.ak at g;split at g<;>cases g|ok w=>
  rw[g]at q;replace q:Rq B σ F (WL.yk fn n c w) _:=q;unfold WL.yk at q;split at q
  .rename_i z;split at q
   .rename_i I;rw[agE]at I;have sv:j[iy]?=some (some (.int z)):=by
     unfold WL.ak at g;split at g;.rename_i w' e;cases g;obtain⟨v,e1,e2⟩:=R.va iy _ e;cases e2;exact e1
     .cases g
    have d:U P=some (.tab ps):=h.rb.base _ _ hT;have rP:P≠r:=λz=>by rw[z,K]at d;cases d
    refine⟨r,n,WL.gK fn z c,.int z,rfl,aq,h2,a7,I.2,by rw[ai rP];exact d,sv,abR hr S E C I.1,λD T Y m d2 d3 d4 M d6 d7=>?_⟩;have dr:D≠r:=λz=>by rw[z,aq]at m;cases m
    rw[ai dr]at m;have sm:aw U (upd (upd (upd Y D (.lst (ysG (WL.gK fn z c) n))) P (.tab ps)) T (.own P)):=λb u e=>by
     have J:upd U r (.rng 0 (n:Nat)) b=some u:=aC K _ b u e;by_cases b1:b=T
     .subst b1;rw[aq];rcases M with M|M;.rw[M]at J;cases J
      .rw[M]at J;exact J
     .rw[ai b1];by_cases b2:b=P;.subst b2;rw[aq];rw[d]at e;exact e
      .rw[ai b2,ai λz=>by rw[z,m]at e;cases e];exact d7 b u (by rw[cb b1,cb b2];exact J)
    have sF:aw O (upd O D (.lst (ysG (WL.gK fn z c) n))):=aC (h.rb.sub.free m) _;have hD:upd (upd (upd Y D (.lst (ysG (WL.gK fn z c) n))) P (.tab ps)) T (.own P) D=some (.lst (ysG (WL.gK fn z c) n)):=by rw[ai d3,ai d2,aq]
    have G:Gr O U (upd O D (.lst (ysG (WL.gK fn z c) n))) (upd (upd (upd Y D (.lst (ysG (WL.gK fn z c) n))) P (.tab ps)) T (.own P)):=⟨sF,sm,λa o e J=>by rw[ai λz=>by rw[z,m]at e;cases e];exact J⟩;have rb:RB B (upd O D (.lst (ysG (WL.gK fn z c) n))) (upd (upd (upd Y D (.lst (ysG (WL.gK fn z c) n))) P (.tab ps)) T (.own P)):=⟨λb u e=>by
      by_cases E:b=D;.subst E;rw[aq]at e;rw[hD];exact e
      .rw[ai E]at e;exact sm b u (h.rb.sub b u e),h.rb.base.trans sm,h.rb.fz0.trans sF,λa o e=>by
      by_cases E:a=D;.subst E;rw[aq]at e;cases e;exact .inr ⟨h.rb.base.free m,trivial⟩
      .rw[ai E]at e;exact h.rb.fr a o e⟩;exact q (.ref D) _ _ (h.grow G rb) (g1.trans G) ⟨D,_,rfl,.inl (.inl aq),wd⟩
   .exact q.elim
  .exact q.elim
end
def spT(P:Addr)(a:Array Value)(sp:Sp):Sp:=λb H Q E=>H P=some (.tab a)/\sp b H Q E
def BmA(mg:Str->Option Value)(a:Heap):Prop:=∃b ob,mg "__builtins__"=some (.ref b)/\b≠builtinsNs/\a.get? b=some ob/\ob.cls=.type "module"/\ob.dict=some builtinsNs/\ob.data=.plain
section
variable{P:Program}{w:World}{K:W.Frag}{mg:Str->Option Value}{base:Heap}{Pt c:Addr}{tp:Array Value}
def ue{x a st f D N ps k m n}{G:List VW->Res VW}(t)(Fn:Fun K x a st f D)(S:FnScope N ps (ag st))(T:N.length=n)(g:ps.length=m)(u:WL.run n t=G)(Z:ps.length<=N.length)(h:∀d A b s H E B,D.code=d->H Pt=some (.tab tp)->B.H0 Pt=some (.tab tp)->B.K=K->Room k (A.deeper (envOfC a (ag st) s.heap.objs.size f d))->XW (gi CX0 P w K mg base N a (ag st) f d A b s H E).nox B->PassesOwn (model P w) (A.deeper (envOfC a (ag st) s.heap.objs.size f d)) (envOfC a (ag st) s.heap.objs.size f d) (λ_ _=>False)->PSs (gi CX0 P w K mg base N a (ag st) f d A b s H E).nox (bt st) (loS B t)):FnOk P w K mg base CX0 (k+1) f D ps (spT Pt tp (spW K m G)):=by subst T g u;refine acA Fn.ex λoc od kV X pm an d ct U C lk l=>?_;subst C;refine zv lk l S (λvs H Q E i=>by obtain⟨_,F,ws,_,r,J,_⟩:=i;rw[<-r.length];exact J) λA b s H vs Q E O _ i=>?_;obtain⟨M,F,ws,Y,r,J,g⟩:=i;refine⟨_,(h d A b s H E ⟨K,H,F,λ_ _ _=>False,λ_ _ _ _ _ h=>h⟩ rfl M M rfl O (jO λ_ _ _ z=>z) PassesOwn.never).nox,_,F,RS.start Y r (by omega),?_⟩;unfold WL.run at g;cases e:t _ with|rt w=>rw[e]at g;exact λv o p q j y=>g v o p j q.sub q.base q.fr y|nx σ'=>rw[e]at g;exact λI o p R j=>g .non o p j R.rb.sub R.rb.base R.rb.fr rfl|_=>rw[e]at g;exact g.elim
section
variable{X:Cx}{B:Bx}{j k n:Nat}{x:Str}{p pos:Pos}{ps:List Str}{ds:List Value}{fn:List VW->Res VW}{e:Expr}{es:List Expr}{tas:AF}
def clT(M:B.K=X.K)(o:Room j X.A)(I:B.H0 Pt=some (.tab tp))(C:Cal X.prog X.w X.K X.mg X.base CX0 k x ps ds (spT Pt tp (spW X.K n fn)))(s:PA X (e::es) (loA B tas))(D:k<=j:=by decide)(t:∀σ ws,tas σ=.ok ws->ws.length=n:=by repeat first|exact mj|apply gm)(A:Gl X x:=by rfl)(h:Dbg x:=by decide)(u:SE X e es:=by rfl)(d:BT X pos es:=by rfl):PE X (.Call (.Name x p) (e::es) [] pos) (lo B (WL.aG fn tas)):=by obtain⟨f,N,G,m,q,b,_⟩:=C;refine PE.imp (mW G (o.mono D) A m q b .nil yQ s h u d) λa H Q i=>?_;obtain⟨σ,F,R,z⟩:=sL M.symm t a H Q i;exact⟨σ,F,R,z.mono (aw.refl _) λws y v E J l g r=>⟨l.rb.base _ _ I,y v E J l g r⟩⟩
end
def ij(Pt:Addr)(tp:Array Value)(K:W.Frag):Sp:=λe H Q _=>∃(a:Addr)(d:List Int),e=[.ref a]/\SqL K H a (d.map V.int)/\d.length<=63/\H Pt=some (.tab tp)/\∀b,aw H b->Q (.bl true) b
def zb{k f i ps g}(G:FnOk P w K mg base CX0 k f i ps (spT Pt tp (spW K 1 g)))(h:∀b:List Int,b.length<=63->g [.lst (b.map .int)]=.ok (.bl true)):FnOk P w K mg base CX0 k f i ps (ij Pt tp K):=G.imp λp H Q E d=>by obtain⟨a,b,e,o,l,n,q⟩:=d;subst e;refine⟨n,H,[.lst _],aw.refl _,.one (by exact⟨a,_,rfl,o,RWs.ints _⟩),rfl,?_⟩;rw[h _ l];exact λv m s _ _ j _ r=>by cases r;exact q m j
end
end WS
namespace WS
open PySem PySem.Spec PySem.Calls PyProof.Rows PySem.W L2
section
variable{P:Program}{w:World}{K:W.Frag}{mg mb:Str->Option Value}{Pt c fa a:Addr}{tp:Array Value}{k:Nat}{fd:FuncData}{x:Str}{s₁:Shared}{vs:List Value}{ns:List Int}
abbrev acy(s₁:Shared)(r:Result)(s':Shared):Prop:=r=.ok (.ret (.bool true))/\OldK s₁.heap s'.heap/\s'.os=s₁.os/\AllBare s'.gens
def lV(KX:K.In s₁.heap)(G:s₁.heap.Ns mainGlobals mg)(A:s₁.heap.Ns builtinsNs mb)(X:∀x:Str,x≠"__name__"->mb x=bootBuiltins x)(B:s₁.heap.NoLimit)(hg:s₁.gens=#[])(hr:Room k callerA)(a0:BmA mg s₁.heap)(hC:CodeHd s₁.heap c Pt)(j:s₁.heap.get? Pt=some (tabObj #[]))(hK:noTabs K=true)(F:∀g,K.In g->g.Ns mainGlobals mg->BmA mg g->CodeHd g c Pt->FnOk P w K mg g CX0 k fa fd [x] (ij Pt tp K))(q:∀s u,BindsTo s fd ⟨[u],[]⟩ [(x,u)])(H:Hp)(hP:H Pt=some (.tab tp))(O:∀b,b≠Pt->H b=none\/∃o S,H b=some (.frz o (.lst S))/\s₁.heap.get? b=some o/\(∃f n,o.data=.seq f n)/\K.lookup b=none)(hS:SqL K H a (ns.map V.int))(T:HOk P w H s₁.heap)(hl:ns.length<=63):codeAny (model P w) callerA (.call (.ref fa) ⟨[.ref a],[]⟩) (acy s₁) s₁:=by
 have kP:K.lookup Pt=none:=by cases e:K.lookup Pt with|none=>rfl|some o=>have D:=KX Pt o e;rw[j]at D;cases D;have:=ag3.mp hK _ (mem_of_lookupK e);exact absurd this (by simp)
 have free:∀{b:Addr}{o:Obj},s₁.heap.get? b=some o->b≠Pt->(∀f n,o.data≠.seq f n)->H b=none:=λ{b o}e n d=>by
  rcases O b n with z|⟨o',S,z,C,⟨f,m,d'⟩,_⟩;.exact z
  .rw[e]at C;cases C;exact absurd d' (d f m)
 have t:∀{b:Addr}{o:Obj},s₁.heap.get? b=some o->(∀v,o.data=.fields v->o.cls≠.none)->b≠Pt:=λ{b o}e d z=>by rw[z,j]at e;cases e;exact d _ rfl rfl
 have get:∀{b:Addr}{o:Obj},s₁.heap.get? b=some o->b≠Pt->(∀f n,o.data≠.seq f n)->(tH s₁.heap H).get? b=some o:=λe n d=>o5 e (free e n d);have i:∀{b:Addr}{m:Str->Option Value},s₁.heap.Ns b m->(tH s₁.heap H).Ns b m:=λ{b m}⟨o,es,ep,e,d,r⟩=>⟨o,es,ep,get e (t e λv z=>by rw[d]at z;cases z) (λf n z=>by rw[d]at z;cases z),d,r⟩;have E:K.In (tH s₁.heap H):=λb o e=>o5 (KX b o e) (by
 rcases O b (λz=>by rw[z,kP]at e;cases e)with z|⟨_,_,_,_,_,z⟩;.exact z
 .rw[z]at e;cases e);have hM:Mod K mg (tH s₁.heap H):=⟨E,i G,⟨mb,i A,X⟩,let⟨mc,h1,h2⟩:=B;⟨mc,i h1,h2⟩⟩;have hB:BmA mg (tH s₁.heap H):=by obtain⟨bm,ob,b1,b2,b3,b4,b5,Y⟩:=a0;exact⟨bm,ob,b1,b2,get b3 (t b3 λv z=>by rw[Y]at z;cases z) (λf n z=>by rw[Y]at z;cases z),b4,b5,Y⟩
 have Z:CodeHd (tH s₁.heap H) c Pt:=by obtain⟨o,vs,M,tf,p,tg,Q,J,tt,D,N,e3,r⟩:=hC;exact⟨o,vs,M,tf,p,tg,Q,J,tt,get D (t D λv _ z=>by rw[N]at z;cases z) (λf n z=>by rw[e3]at z;cases z),N,e3,r⟩
 have e0:Env0 P w K mg (tH s₁.heap H) callerA [] s₁ H:=⟨rfl,hM,λb o e=>yU e,Nat.le_of_eq (tG _ _),trivial,λb A=>absurd (show b∈([]:List Addr)from A) (by simp),T,.of_eq hg⟩;refine ahT ((F _ E (i G) hB Z).run callerA [] s₁ H ⟨[.ref a],[]⟩ [.ref a] [.ref a] (λv R=>v=.bl true/\R Pt=some (.tab tp)) (λ_ _ _=>False) hr trivial e0 (q s₁ (.ref a)) (.cons rfl .nil) ⟨a,ns,rfl,hS,hl,hP,λR sm=>⟨rfl,sm _ _ hP⟩⟩) λr s' h=>?_;cases r with|error e=>exact False.elim h|ok fl=>cases fl with|next|brk|cont=>exact False.elim h|ret u=>
   obtain⟨v,R,os,I,un,l,r',q1,q2⟩:=h;subst q1;obtain rfl:u=Value.bool true:=r';have U:∀b o,s₁.heap.get? b=some o->asItWas s₁.heap s'.heap b o:=λb o e=>by
    by_cases A:b=Pt
    .subst A;rw[j]at e;cases e;rcases l _ _ q2 with z|⟨_,_,_,_,_,z,_⟩;.exact .inl z
     .exact .inr (.inl ⟨(hC.tab j).isCodeTable,rfl,#[],_,rfl,by rw[Array.empty_append];exact z⟩)
    .rcases O b A with z|⟨o',S,z,C,_⟩;.exact .inl (un.keep b o e z (by intro y;exact absurd (show b∈([]:List Addr)from y) (by simp)) (by simp))
     .have z2:=un.frzs b o' _ z;obtain⟨N,_⟩:=l b _ z2;rw[e]at C;cases C;exact .inl N
   refine⟨rfl,⟨U,λb o e=>un.there b o e (by simp)⟩,os,I⟩
def sN(y:K.In s₁.heap)(r:s₁.heap.Ns mainGlobals mg)(f:s₁.heap.Ns builtinsNs mb)(p:∀x:Str,x≠"__name__"->mb x=bootBuiltins x)(i:s₁.heap.NoLimit)(I:s₁.gens=#[])(m:s₁.heap.get? a=some {cls:=.type "list",data:=.seq vs.toArray})(C:IntsAre vs ns)(v:ns.length<=63)(D:Room k callerA)(t:BmA mg s₁.heap)(H:CodeHd s₁.heap c Pt)(g:s₁.heap.get? Pt=some (tabObj #[]))(hK:noTabs K=true)(F:∀d,K.In d->d.Ns mainGlobals mg->BmA mg d->CodeHd d c Pt->FnOk P w K mg d CX0 k fa fd [x] (ij Pt tp K))(h:∀s u,BindsTo s fd ⟨[u],[]⟩ [(x,u)]):codeAny (model P w) callerA (.call (.ref fa) ⟨[.ref a],[]⟩) (acy s₁) s₁:=by
 have E:=k7 C;have q:=C.length;have G:a≠Pt:=λz=>by rw[z,g]at m;cases m
 cases A:K.lookup a with|some o=>
  have e:=y a o A;rw[m]at e;cases e;refine lV y r f p i I D t H g hK F h (λb=>if b=Pt then some (.tab tp)else none) (ago rfl) (λb n=>.inl (agq n)) (.inr ⟨_,vs.toArray,_,A,rfl,rfl,rfl,by rw[ahp,q];exact agy v (by decide),by simpa using E⟩) (λb u z=>?_) v;by_cases f:b=Pt;.have j:=(ago f).symm.trans z;cases j;subst f;exact .inl g
  .have j:=(agq f).symm.trans z;cases j|none=>
  refine lV y r f p i I D t H g hK F h (λb=>if b=Pt then some (.tab tp)else if b=a then some (.frz {cls:=.type "list",data:=.seq vs.toArray} (.lst (ns.map V.int)))else none) (ago rfl) (λb n=>?_) (.inl (.inr ⟨{cls:=.type "list",data:=.seq vs.toArray},by simp[G]⟩)) (λb u z=>?_) v
  .by_cases f:b=a;.exact .inr ⟨{cls:=.type "list",data:=.seq vs.toArray},ns.map V.int,by simp[f,G],by rw[f];exact m,⟨_,_,rfl⟩,by rw[f];exact A⟩
   .exact .inl (by simp[n,f])
  .by_cases f:b=Pt;.have j:=(ago f).symm.trans z;cases j;subst f;exact .inl g
   .have j:=(agq f).symm.trans z;by_cases l:b=a;.have B:=(ago l).symm.trans j;cases B;subst l;exact⟨m,by rw[agO];exact agy v (by decide),vs,_,E,m⟩
    .have B:=(agq l).symm.trans j;cases B
end
def u1{l:W.OpenLaw}{k q g D r d}{K:Params->W.Frag}{x:Str}{c p:Addr}{R:Array Value}(I:l.most=some 63)(z:d.params.defaults=[])(H:Room k callerA)(O:∀w h,r w h->(K w.params).In h)(hYt:∀w h,r w h->h.get? p=some (tabObj #[]))(hK:∀w:World,noTabs (K w.params)=true)(Q:∀w:World,codeHdIn (K w.params) c p=true)(F:∀(w:World)i n h,(K w.params).In h->h.Ns mainGlobals i->i d.name=some (.ref n)->∃y,(∀s u,BindsTo s y ⟨[u],[]⟩ [(x,u)])/\∀b,(K w.params).In b->b.Ns mainGlobals i->BmA i b->CodeHd b c p->FnOk l.prog w (K w.params) i b CX0 k n y [x] (ij p R (K w.params))):W.WalkO q g D r l.row.toRowW d [] λf B=>PySem.call f B:=by refine Att.nS I z λw C A i Z n o S U N a B ns G Y X T M t j e m J=>?_;have v:=O w _ Y;obtain⟨y,P,E⟩:=F w i n _ v G.T.g t;exact sN v G.T.g G.T.b G.T.builtins G.T.nolimit J j e m H G.T.bmain (codeHd_of_K v (Q w)) (hYt w _ Y) (hK w) E P
end WS
namespace WS
open PySem PySem.Spec PySem.Calls PyProof.Rows PySem.W L2
open WL(Res Sl Ws EF TF AF LF GF GsF SF Out)
def u6{K:Frag}{nm:Str}{c g f:Addr}{h:Value}{od:Option Addr}{d:FuncData}{b:Array (Option Value)}(ht:tabIn K nm=some (c,g))(a:nsIn K mainGlobals nm=some (some (.ref f)))(l:K.lookup f=some ⟨h,od,.func d,b⟩):d.code=.ref c:=by
 unfold tabIn at ht;simp only[a,l]at ht;split at ht
 .rename_i i e;split at ht
  .split at ht;.cases ht;exact e
   .cases ht
  .cases ht
 .cases ht
def sO{x y:Str}{a:Scope}(k:a.kind=.function)(f:a.isCoroutine=false)(e:a.isGenerator=false)(d:x≠y)(j:a.names.lookup x=some .local)(i:a.names.lookup y=some .free)(c:(a.names.all λp=>p.2!=.cell&&(p.2!=.free||p.1==y))=true):LamScope x y a:=by
 have h:∀p∈a.names,p.2≠.cell/\(p.2=.free->p.1=y):=λp b=>by
  have:=ag3.mp c p b;rw[agE]at this;refine⟨λz=>?_,λz=>?_⟩;.rw[z]at this;exact absurd this.1 (by decide)
  .rw[z]at this;have:=this.2;simpa using this
 exact⟨k,f,e,d,j,i,λp b=>(h p b).1,λz g=>(h _ (agW g)).2 rfl⟩
section
variable{P:Program}{w:World}{K:W.Frag}{mg:Str->Option Value}{base:Heap}{Pt c:Addr}{tp:Array Value}{nm:Str}{st:Stmt}{N ps:List Str}{k m n:Nat}{fn:List VW->Res VW}
def AtD.dT(D:AtD K nm st)(y:MgA K mg)(ht:tabIn K nm=some (c,Pt))(t)(S:FnScope N ps (ag st))(h:∀{f A b s H E B},H Pt=some (.tab tp)->B.H0 Pt=some (.tab tp)->B.K=K->Room k (A.deeper (envOfC nm (ag st) s.heap.objs.size f (.ref c)))->XW (gi CX0 P w K mg base N nm (ag st) f (.ref c) A b s H E).nox B->PassesOwn (model P w) (A.deeper (envOfC nm (ag st) s.heap.objs.size f (.ref c))) (envOfC nm (ag st) s.heap.objs.size f (.ref c)) (λ_ _=>False)->PSs (gi CX0 P w K mg base N nm (ag st) f (.ref c) A b s H E).nox (bt st) (loS B t))(j:BdA nm ps st:=by intro _ _ _ _ _ _ u h;first|exact bind1 (by intros;rfl) u h|exact wO (by intros;rfl) u h)(p:N.length=n:=by rfl)(M:ps.length=m:=by rfl)(i:WL.run n t=fn:=by rfl)(g:ps.length<=N.length:=by decide):Cal P w K mg base CX0 (k+1) nm ps [] (spT Pt tp (spW K m fn)):=by
 obtain⟨f,l,F,a⟩:=D;have G:l.code=.ref c:=by obtain⟨T,od,kV,C,Q,R,d,ct,z,e,I,_⟩:=F.ex;exact u6 ht a I
 exact⟨f,l,ue t F S p M i g λd A b s H E B O J q x o v r=>by have:d=.ref c:=O.symm.trans G;subst this;exact h J q x o v r,y _ _ a,F.kp,F.binds j,F.binds j⟩
def zc{p:Addr}{x:Str}(D:AtD K "law" st)(z:MgA K mg)(i:mg "law"=some (.ref p))(r:∀kV d j l g ct v,bindArgs (W.fnOf "law" "law" (dn st) (bt st) (ag st) .none kV d j l g ct) ⟨[v],[]⟩=pure [(x,v)])(h:∀base f b,BmA mg base->CodeHd base c Pt->Fun K "law" "law" st f b->FnOk P w K mg base CX0 k f b ps (spT Pt tp (spW K 1 fn)))(u:∀o:List Int,o.length<=63->fn [.lst (o.map .int)]=.ok (.bl true)):∃b,(∀s v,BindsTo s b ⟨[v],[]⟩ [(x,v)])/\∀base,K.In base->base.Ns mainGlobals mg->BmA mg base->CodeHd base c Pt->FnOk P w K mg base CX0 k p b ps (ij Pt tp K):=by obtain⟨f,b,F,a⟩:=D;have e:=i.symm.trans (z _ _ a);cases e;refine⟨b,λs v=>?_,λbase _ _ A q=>zb (h _ _ _ A q F) u⟩;obtain⟨C,od,kV,d,j,l,g,ct,y,rfl,B,t⟩:=F.ex;exact .of_eq (r _ _ _ _ _ _ v)
def xj{f c Pt:Addr}{i ty:Value}{od d:Option Addr}{g:FuncData}{e b:Array (Option Value)}{vs:Array Value}(a:nsIn K mainGlobals nm=some (some (.ref f)))(l:K.lookup f=some ⟨i,od,.func g,e⟩)(h:g.code=.ref c)(o:K.lookup c=some ⟨ty,d,.fields vs,b⟩)(j:vs[11]?=some (.ref Pt)):tabIn K nm=some (c,Pt):=by unfold tabIn;simp only[a,l,h,o,j]
end
end WS
namespace ML
open PySem WL
abbrev S3:=Int×Int×Int
noncomputable def stW(p:S3):W:=.tup [.int p.1,.int p.2.1,.int p.2.2]
noncomputable def spW(p:Int×Int):W:=.tup [.int p.1,.int p.2]
def flW(f:List S3):W:=.tup (f.map stW)
noncomputable def ar(p:S3):Int×Int:=(p.1,p.2.1)
@[simp]def ad5(n:Nat)(i:Int):okD n (.int i)=true:=(rfl)
@[simp]def ad4(n:Nat)(xs:List W):okD n (.tup xs)=e8 n xs:=(rfl)
@[simp]def acQ(n:Nat):e8 (n+1) []=true:=(rfl)
@[simp]def abD(n:Nat)(x:W)(xs:List W):e8 (n+1) (x::xs)=(okD n x&&e8 (n+1) xs):=(rfl)
@[simp]def aeF(a b:Int):eqv (.int a) (.int b)=(a==b):=(rfl)
@[simp]def aeE(a b:List W):eqv (.tup a) (.tup b)=xR a b:=(rfl)
@[simp]def aeC:xR [] []=true:=(rfl)
@[simp]def aeD(x y:W)(xs ys:List W):xR (x::xs) (y::ys)=(eqv x y&&xR xs ys):=(rfl)
@[simp] def afh (n:Nat) (p:Int×Int):okD (n+1) (spW p)=true:=by simp[spW]
theorem ka (n ):∀ a,(∀ x∈a,okD n x=true)->e8 (n+1) a=true
  | [],_=>rfl
  | x::a,h=>by simp;exact⟨h x (by simp),ka n _ λy b=>h y (by grind)⟩
def t7(p q):eqv (spW p) (spW q)=decide (p=q):=by obtain⟨a,b⟩:=p;obtain⟨c,d⟩:=q;rw[ag7];simp[spW]
@[simp]def sk(p q):oEq (spW p) (spW q)=.ok (.bl (decide (p=q))):=by have:vq (spW p) (spW q)=false:=rfl;simp[oEq,this,t7]
theorem xV(s:Int×Int):∀l:List (Int×Int),cf (spW s) (l.map spW)=decide (s∈l)|[]=>by simp[cf]|p::l=>by simp only[agP,cf,t7,xV s l];rw[ag7];simp only[aiH,agZ,ags];exact or_congr eq_comm Iff.rfl
def xH(s:Int×Int)(l:List (Int×Int)):oIn (spW s) (.lst (l.map spW))=.ok (.bl (decide (s∈l))):=by
 have h:e8 51 (l.map spW)=true:=ka 50 _ λx a=>by obtain⟨p,_,rfl⟩:=agM.mp a;simp
 simp[oIn,h,xV]
@[simp]def aeb(p:S3):oIx (stW p) (.int 2)=.ok (.int p.2.2):=(rfl)
@[simp]def aed(p):oIx (spW p) (.int 0)=.ok (.int p.1):=(rfl)
@[simp]def aec(p):oIx (spW p) (.int 1)=.ok (.int p.2):=(rfl)
@[simp] def f9 (p:S3):oSl (stW p) none (some 2)=.ok (spW (ar p)):=by simp[stW,spW,ar,sIx,cut]
theorem xG {f p k} (h0:0<=k) (h:f[k.toNat]?=some p):oIx (flW f) (.int k)=.ok (stW p):=by
  simp[flW,acw _ h0,h]
noncomputable def sfp(p:S3)(m n:Int):Int×Int:=if p.2.2=0 then(p.1+n,p.2.1+m)else if p.2.2=1 then(p.1-m,p.2.1+n)else if p.2.2=2 then(p.1-n,p.2.1-m)else(p.1+m,p.2.1-n)
noncomputable def x3(s:Int×Int):Nat->List S3->W|_,[]=>.non|k,p::f=>if ar p=s then .int k else x3 s (k+1) f
def ft{c:Type}{R:c->c->Prop}{l:List c}{x:c}(h:l.Pairwise R)(e:∀y∈l,R y x):(l++[x]).Pairwise R:=by rw[aiJ];exact⟨h,List.pairwise_singleton _ _,λa d b f=>by rw[ag9.mp f];exact e a d⟩
@[simp] def nY (x y:W) (ys:List W):cf x (y::ys)=(eqv y x || cf x ys):=by simp[cf]
noncomputable def mD (s:Int×Int):Nat->List S3->Option Nat
  | _,[]=>none
  | k,p::f=>if ar p=s then some k else mD s (k+1) f
noncomputable def onW:Option Nat->W|none=>.non|some k=>.int k
@[simp]def acP:onW none=.non:=(rfl)
@[simp]def acO(k):onW (some k)=.int k:=(rfl)
theorem w9(s):∀k f,x3 s k f=onW (mD s k f)|_,[]=>rfl|k,p::f=>by simp [x3,mD,w9 s _ f];split<;>rfl
theorem hU(s):∀k f i,mD s k f=some i->k<=i/\i<k+f.length
|_,[],_,h=>by simp[mD]at h|k,p::f,i,h=>by
 simp [mD]at h;split at h;.cases h;simp
 .have:=hU s _ f i h;simp ;omega
inductive What where|none|any|same|left|about|right|partner|opposite
inductive Lone where|head|side|lefts|rights|inward|outward|sideways
noncomputable def What.w:What->String|.none=>"none"|.any=>"any"|.same=>"same"|.left=>"left"|.about=>"about"|.right=>"right"|.partner=>"partner"|.opposite=>"opposite"
noncomputable def Lone.w:Lone->String|.head=>"head"|.side=>"side"|.lefts=>"lefts"|.rights=>"rights"|.inward=>"inward"|.outward=>"outward"|.sideways=>"sideways"
inductive Tst where|lone(l:Lone)|at(a r:Int)(w:What)|inner(n:Int)
def Tst.W:Tst->WL.W|.lone l=>.tup [.str l.w]|.at a r w=>.tup [.str "at",.int a,.int r,.str w.w]|.inner n=>.tup [.str "inner",.int n]
def tsW(neg:Bool)(t:Tst):WL.W:=if neg then .tup [.str "not",t.W]else t.W
noncomputable def cM(f:List S3)(k:Nat):Int:=(f.getD k (0,0,0)).2.2
inductive Go where|ahead|back|left|right
inductive Tn where|left|right|about
noncomputable def Go.w:Go->String|.ahead=>"ahead"|.back=>"back"|.left=>"left"|.right=>"right"
noncomputable def Tn.w:Tn->String|.left=>"left"|.right=>"right"|.about=>"about"
inductive Stp where|go(g:Go)(n:Int)|turn(t:Tn)
def Stp.W:Stp->WL.W|.go g n=>.tup [.str g.w,.int n]|.turn t=>.tup [.str "turn",.str t.w]
structure Rl where ts:List (Bool×Tst)ss:Option (List Stp)
def tsL(ts:List (Bool×Tst)):WL.W:=.tup (ts.map λp=>tsW p.1 p.2)
def ssW:Option (List Stp)->WL.W|none=>.tup [.tup [.str "stay"]]|some l=>.tup (l.map Stp.W)
def Rl.W(r:Rl):WL.W:=.tup [tsL r.ts,ssW r.ss]
def sg{ι:Type}(n)(g)(l:List ι)(h:∀x∈l,okD n (g x)=true):e8 (n+1) (l.map g)=true:=ka n _ λx a=>by grind
abbrev bK(f:List S3):Prop:=f.Pairwise λp r=>ar p≠ar r
inductive Met(f:List S3):W->Prop|none:bK f->Met f .non|two(i j:Nat):i<j->j<f.length->ar (f.getD i (0,0,0))=ar (f.getD j (0,0,0))->(∀a b,a<i->a<b->b<f.length->ar (f.getD a (0,0,0))≠ar (f.getD b (0,0,0)))->(∀b,i<b->b<j->ar (f.getD i (0,0,0))≠ar (f.getD b (0,0,0)))->Met f (.tup [.int i,.int j])
def kL{f}(h:∀a b,a<b->b<f.length->ar (f.getD a (0,0,0))≠ar (f.getD b (0,0,0))):bK f:=by rw[bK,ahA];intro i j e d c;have:=h i j c d;simpa[e,d]using this
def pA{f}(h:bK f){a b}(c:a<b)(e:b<f.length):ar (f.getD a (0,0,0))≠ar (f.getD b (0,0,0)):=by
 rw[bK,ahA]at h;have d:a<f.length:=by omega
 have:=h a b d e c;simpa[d,e]using this
def Fac(p:S3):Prop:=0<=p.2.2/\p.2.2<4
noncomputable def exN(nm:String)(d:Nat):W:=.exc nm [.int d]
def pz{b}(xs:List b):atI xs (-1)=xs.getLast?:=by unfold atI ixN;cases xs with|nil=>rfl|cons x xs=>
 have h:¬0 <=-1:=by omega
 rw[agq h];have a:-((x::xs).length:Int)<=-1:=by grind
 rw[ago a];simp only[ah9,List.getLast?_eq_getElem?];congr 1;omega
end ML
namespace K51
open PySem WL
noncomputable def pw:W:=.tup [.tup [.int (-1),.int (-3),.int 0],.tup [.int 1,.int (-3),.int 0],.tup [.int 3,.int (-1),.int 1],.tup [.int 3,.int 1,.int 1],.tup [.int 1,.int 3,.int 2],.tup [.int (-1),.int 3,.int 2],.tup [.int (-3),.int 1,.int 3],.tup [.int (-3),.int (-1),.int 3]]
noncomputable def i5:W:=.int 8
noncomputable def kI:W:=.tup [.tup [.int 0,.int 1],.tup [.int (-1),.int 0],.tup [.int 0,.int (-1)],.tup [.int 1,.int 0]]
def eQ:SF:=aN (bj 2 (eOp oMod (eOp eW (eOp cu (eOp cu (eOp cu (eOp oMod (ak 0) (eC (.int 1000003))) (eOp eW (eOp eW (eC (.int 7919)) (ak 1)) (ak 1))) (ak 1)) (eC (.int 1))) (eC (.int 48271))) (eC (.int 2147483629)))) (cB (eOp oMod (eOp eW (ak 2) (ak 2)) (eC (.int 2147483587))))
def aD:List W->Res W:=run 3 eQ
def ib:SF:=cB (eOp oIx (fE (ae (eC (.int 0)) (ae (eC (.int 0)) (ae (eC (.int 0)) (ae (eC (.int 185)) (ae (eUn si (eC (.int 185))) ax)))))) (eOp oMod (aG aD (ae (ak 0) (ae (eC (.int 91)) ax))) (eC (.int 5))))
def dQ:List W->Res W:=run 1 ib
def cZ:SF:=aN (sIf (tB (eOp oLt (ak 1) (eBi mu (ae (ak 0) ax)))) (cB (eOp oIx (ak 0) (ak 1))) sNx) (cB (eC (.int 0)))
def aP:List W->Res W:=run 2 cZ
def fS:SF:=aN (xt (ak 0) (mq (bA (aA 3) (bA (aA 4) (bA (aA 5) mr))))) (aN (xt (eOp oIx (fE (ae (eF (ae (eC (.int 0)) (ae (eC (.int 1)) ax))) (ae (eF (ae (eUn si (eC (.int 1))) (ae (eC (.int 0)) ax))) (ae (eF (ae (eC (.int 0)) (ae (eUn si (eC (.int 1))) ax))) (ae (eF (ae (eC (.int 1)) (ae (eC (.int 0)) ax))) ax))))) (ak 5)) (mq (bA (aA 6) (bA (aA 7) mr)))) (cB (eF (ae (eOp cu (eOp cu (ak 3) (eOp eW (ak 1) (ak 6))) (eOp eW (ak 2) (ak 7))) (ae (eOp jy (eOp cu (ak 4) (eOp eW (ak 1) (ak 7))) (eOp eW (ak 2) (ak 6))) ax)))))
def bF:List W->Res W:=run 8 fS
def fU:SF:=cB (fE (ae (eOp cu (aG bF (ae (eF (ae (ak 0) (ae (ak 1) (ae (ak 2) ax)))) (ae (eC (.int 0)) (ae (eUn si (eC (.int 1))) ax)))) (eF (ae (ak 2) ax))) (ae (eOp cu (aG bF (ae (eF (ae (ak 0) (ae (ak 1) (ae (ak 2) ax)))) (ae (eC (.int 0)) (ae (eC (.int 1)) ax)))) (eF (ae (ak 2) ax))) ax)))
def bG:List W->Res W:=run 3 fU
def aZ:SF:=aN (bj 9 (eOp cu (ak 9) (eOp oIx (fE (ae (eC (.int 1)) (ae (eUn si (eC (.int 1))) ax))) (eBi xU (ae (eOp oLt (ak 1) (eC (.int 0))) ax))))) (bj 11 (aG bG (ae (ak 8) (ae (ak 9) (ae (eOp oIx (eOp oIx (ak 11) (eC (.int 0))) (eC (.int 2))) ax)))))
def bo:TF:=tOr (tB (eOp oIn (eSl (eOp oIx (ak 11) (eC (.int 0))) pNo (eB (eC (.int 2)))) (ak 3))) (tB (eOp oIn (eSl (eOp oIx (ak 11) (eC (.int 1))) pNo (eB (eC (.int 2)))) (ak 3)))
noncomputable def dh:Ws->Nat:=λ_=>200
def aT:SF:=aN (bj 7 (aG aD (ae (ak 0) (ae (eOp cu (eC (.int 70)) (ak 6)) ax)))) (aN (bj 8 (eOp cu (eOp cu (eOp jy (eOp eW (eOp oMod (ak 7) (eC (.int 3))) (eC (.int 4))) (eC (.int 4))) (eOp oDiv (eOp oMod (eOp oDiv (ak 7) (eC (.int 3))) (eC (.int 4))) (eC (.int 3)))) (ak 1))) (aN (bj 9 (eOp jy (eOp jy (eOp oMod (eOp oDiv (ak 7) (eC (.int 12))) (eC (.int 5))) (eC (.int 2))) (ak 1))) (aN (bj 10 (eOp oIx (fE (ae (eOp oMod (eOp oDiv (ak 7) (eC (.int 60))) (eC (.int 4))) (ae (eC (.int 0)) (ae (eOp eW (eOp oMod (eOp oDiv (ak 7) (eC (.int 60))) (eC (.int 2))) (eC (.int 2))) ax)))) (eOp oMod (eOp oDiv (ak 7) (eC (.int 240))) (eC (.int 3))))) (aN (sIf (tB (eOp oEq (eOp oMod (ak 5) (eC (.int 8))) (eC (.int 1)))) (aN (bj 10 (eOp oMod (eOp oDiv (ak 5) (eC (.int 8))) (eC (.int 4)))) (xt (aG bF (ae (eF (ae (ak 1) (ae (eOp jy (eC (.int 0)) (ak 1)) (ae (ak 10) ax)))) (ae (eC (.int 0)) (ae (eOp jy (eOp eW (eC (.int 4)) (ak 6)) (eC (.int 6))) ax)))) (mq (bA (aA 8) (bA (aA 9) mr))))) sNx) (aN (bj 11 (aG bG (ae (ak 8) (ae (ak 9) (ae (ak 10) ax))))) (aN (jv dh bo aZ) (aN (bj 3 (eOp cu (ak 3) (fE (ae (eSl (eOp oIx (ak 11) (eC (.int 0))) pNo (eB (eC (.int 2)))) (ae (eSl (eOp oIx (ak 11) (eC (.int 1))) pNo (eB (eC (.int 2)))) ax))))) (aN (jZ 4 (eOp oIx (ak 11) (eC (.int 0))) (eOp oIx (ak 2) (eOp eW (eC (.int 2)) (ak 6)))) (jZ 4 (eOp oIx (ak 11) (eC (.int 1))) (eOp oIx (ak 2) (eOp cu (eOp eW (eC (.int 2)) (ak 6)) (eC (.int 1)))))))))))))
def cY:SF:=aN (bj 2 (fD aD 8 60 (ak 0))) (aN (bj 3 (fE ax)) (aN (rD 4) (aN (bj 5 (aG aD (ae (ak 0) (ae (eC (.int 82)) ax)))) (aN (lA (dj (eC (.int 4))) (aA 6) aT) (aN (bj 12 (aG aD (ae (ak 0) (ae (eC (.int 80)) ax)))) (aN (sIf (tB (eOp oEq (eOp oMod (ak 12) (eC (.int 6))) (eC (.int 1)))) (aN (xt (aac 4 (eOp qy (ak 4) (eOp oMod (eOp oDiv (ak 12) (eC (.int 6))) (eC (.int 8))))) (mq (bA (aA 8) (bA (aA 9) (bA (aA 10) mr))))) (jZ 4 (eF (ae (ak 8) (ae (ak 9) (ae (eOp oMod (eOp cu (eOp cu (ak 10) (eC (.int 1))) (eOp oMod (eOp oDiv (ak 12) (eC (.int 48))) (eC (.int 3)))) (eC (.int 4))) ax)))) (eOp oMod (eOp oDiv (ak 12) (eC (.int 6))) (eC (.int 8))))) sNx) (uO 4 (cB (eBi gC (ae (gh 1 (dj (eC (.int 8))) (aA 0) kQ (eOp qy (ak 5) (ak 0))) ax))))))))))
def dm:List W->Res W:=run 13 cY
def bg:SF:=sIf (yh (tB (eOp oEq (eSl (eOp oIx (ak 0) (ak 3)) pNo (eB (eC (.int 2)))) (ak 2))) (tB (eOp oEq (eOp oIx (eOp oIx (ak 0) (ak 3)) (eC (.int 2))) (eOp oIx (eOp oIx (ak 0) (ak 1)) (eC (.int 2)))))) (cB (ak 3)) sNx
def dZ:SF:=aN (bj 2 (aG bF (ae (eOp oIx (ak 0) (ak 1)) (ae (eC (.int 0)) (ae (eC (.int 2)) ax))))) (aN (lA (dj (eC (.int 8))) (aA 3) bg) (cB (eC .non)))
def bQ:List W->Res W:=run 4 dZ
def dE:SF:=aN (bj 2 (eOp oIx (ak 0) (eOp oIx (ak 1) (eC (.int 0))))) (aN (bj 3 (eOp oIx (ak 0) (eOp oIx (ak 1) (eC (.int 1))))) (cB (eF (ae (eOp oDiv (eOp cu (eOp oIx (ak 2) (eC (.int 0))) (eOp oIx (ak 3) (eC (.int 0)))) (eC (.int 2))) (ae (eOp oDiv (eOp cu (eOp oIx (ak 2) (eC (.int 1))) (eOp oIx (ak 3) (eC (.int 1)))) (eC (.int 2))) (ae (eOp oIx (ak 2) (eC (.int 2))) ax))))))
def bX:List W->Res W:=run 4 dE
def aI:SF:=aN (bj 5 (eOp oIx (ak 1) (ak 4))) (aN (sIf (tB (eOp oIs (ak 5) (eC .non))) (cB (eC .non)) sNx) (aN (aaT 2 (eF (ae (ak 4) (ae (ak 5) ax)))) (bj 4 (eOp oIx (ak 1) (ak 5)))))
def aF:TF:=tB (eOp fu (ak 4) (eC .non))
noncomputable def fx:Ws->Nat:=λ_=>20
def aE:SF:=sIf (tB (eOp iO (ak 3) (ak 1))) (aN (bj 4 (ak 3)) (jv fx aF aI)) sNx
def cX:SF:=aN (bj 1 (gh 1 (dj (eC (.int 8))) (aA 0) kQ (aG bQ (ae (ak 1) (ae (ak 0) ax))))) (aN (mP 2 (z9 ax)) (aN (lA (dj (eC (.int 8))) (aA 3) aE) (aN (uO 2 (bj 6 (gh 1 (zo (ak 2)) (aA 0) kQ (eSl (aG bX (ae (ak 1) (ae (ak 0) ax))) pNo (eB (eC (.int 2))))))) (aN (sIf (tB (eOp oLt (kC (ak 6)) (eBi mu (ae (ak 6) ax)))) (cB (eC .non)) sNx) (uO 2 (cB (eBi fG (ae (ak 2) ax))))))))
def dk:List W->Res W:=run 7 cX
def lg:SF:=cB (eF (ae (eOp oIx (ak 0) (eC (.int 0))) (ae (eOp oIx (ak 0) (eC (.int 1))) ax)))
def dO:List W->Res W:=run 1 lg
def cU:SF:=sIf (tB (eOp oEq (aG dO (ae (ak 3) ax)) (ak 1))) (cB (ak 2)) sNx
def oj:SF:=aN (lA (zq (ak 0)) (mq (bA (aA 2) (bA (aA 3) mr))) cU) (cB (eC .non))
def kx:List W->Res W:=run 4 oj
def eP:SF:=aN (bj 3 (eOp oIx (eC kI) (eOp oIx (ak 0) (eC (.int 2))))) (aN (bj 4 (eOp cu (eOp eW (eOp oIx (ak 3) (eC (.int 0))) (ak 1)) (eOp eW (eOp oIx (ak 3) (eC (.int 1))) (ak 2)))) (aN (bj 5 (eOp jy (eOp eW (eOp oIx (ak 3) (eC (.int 1))) (ak 1)) (eOp eW (eOp oIx (ak 3) (eC (.int 0))) (ak 2)))) (cB (eF (ae (eOp cu (eOp oIx (ak 0) (eC (.int 0))) (ak 4)) (ae (eOp cu (eOp oIx (ak 0) (eC (.int 1))) (ak 5)) ax))))))
def cy:List W->Res W:=run 6 eP
def cG:SF:=aN (bj 2 (eOp oIx (ak 0) (ak 1))) (aN (bj 3 (aG kx (ae (ak 0) (ae (aG cy (ae (ak 2) (ae (eC (.int 0)) (ae (eC (.int 2)) ax)))) ax)))) (cB (eIf (yh (tB (eOp fu (ak 3) (eC .non))) (tB (eOp oEq (eOp oIx (eOp oIx (ak 0) (ak 3)) (eC (.int 2))) (eOp oIx (ak 2) (eC (.int 2)))))) (ak 3) (eC .non))))
def bD:List W->Res W:=run 4 cG
def bT:SF:=aN (sIf (tB (eOp oNe (eOp oMod (eBi mu (ae (ak 0) ax)) (eC (.int 2))) (eC (.int 0)))) (mQ "NoPairs" (ae (eFr (ak 0)) ax)) sNx) (cB (gh 1 (tE (eC (.int 0)) (eBi mu (ae (ak 0) ax))) (aA 0) kQ (eF (ae (eOp oIx (ak 1) (ak 0)) (ae (eOp oIx (ak 1) (eOp cu (ak 0) (eC (.int 1)))) ax)))))
def bw:List W->Res W:=run 1 bT
def cK:SF:=aaT 2 (aac 2 (eOp oIx (ak 0) (eOp oIx (ak 2) (eUn si (eC (.int 1))))))
def bC:TF:=zW 2 (tB (eOp fu (eOp oIx (ak 0) (eOp oIx (ak 2) (eUn si (eC (.int 1))))) (eC .non)))
noncomputable def gz:Ws->Nat:=λ_=>20
def fQ:SF:=aN (mP 2 (z9 (ae (ak 1) ax))) (aN (jv gz bC cK) (uO 2 (cB (ak 2))))
def et:List W->Res W:=run 3 fQ
def aK:SF:=sIf (tB (eOp oEq (aG dO (ae (eOp oIx (ak 0) (ak 1)) ax)) (aG dO (ae (eOp oIx (ak 0) (ak 2)) ax)))) (cB (eF (ae (ak 1) (ae (ak 2) ax)))) sNx
def bp:SF:=lA (ni (eOp cu (ak 1) (eC (.int 1))) (eBi mu (ae (ak 0) ax))) (aA 2) aK
def bH:SF:=aN (lA (dj (eBi mu (ae (ak 0) ax))) (aA 1) bp) (cB (eC .non))
def aW:List W->Res W:=run 3 bH
def jT:SF:=aN (bj 2 (aG cy (ae (ak 0) (ae (eC (.int 0)) (ae (ak 1) ax))))) (cB (eF (ae (eOp oIx (ak 2) (eC (.int 0))) (ae (eOp oIx (ak 2) (eC (.int 1))) (ae (eOp oIx (ak 0) (eC (.int 2))) ax)))))
def fC:List W->Res W:=run 3 jT
def dD:SF:=cB (gh 1 (zo (ak 1)) (aA 0) kQ (aG fC (ae (eOp oIx (ak 1) (eOp oIx (ak 0) (eC (.int 0)))) (ae (eC (.int 1)) ax))))
def bW:List W->Res W:=run 2 dD
def ay:SF:=sIf (tB (eOp iO (ak 3) (ak 1))) (acH 2 (jG bw (ae (aG et (ae (ak 1) (ae (ak 3) ax))) ax))) sNx
def fR:SF:=aN (bj 1 (gh 1 (dj (eC i5)) (aA 0) kQ (aG bD (ae (ak 1) (ae (ak 0) ax))))) (aN (mP 2 (z9 ax)) (aN (lA (dj (eC i5)) (aA 3) ay) (aN (sIf (zW 2 (tB (eOp fu (aG aW (ae (aG bW (ae (ak 0) (ae (ak 2) ax))) ax)) (eC .non)))) (oA "NoPairs" (ae (eC (.str "two pairs of one middle")) ax)) sNx) (uO 2 (cB (eBi fG (ae (ak 2) ax)))))))
def cn:List W->Res W:=run 4 fR
def ic:SF:=aN (bj 1 (fE (ae (eBi kK (ae (ak 0) (ae (eC (.cls "Blind")) ax))) (ae (eBi kK (ae (ak 0) (ae (eC (.cls "Out")) ax))) (ae (eBi kK (ae (ak 0) (ae (eC (.cls "Meet")) ax))) (ae (eBi kK (ae (ak 0) (ae (eC (.cls "NoPairs")) ax))) ax)))))) (aN (bj 2 (fE (ae (eBi kK (ae (ak 0) (ae (eC (.cls "Broken")) ax))) (ae (eBi kK (ae (ak 0) (ae (eC (.cls "NoCall")) ax))) (ae (eBi kK (ae (ak 0) (ae (eC (.cls "NoName")) ax))) (ae (eBi kK (ae (ak 0) (ae (eC (.cls "NoProgram")) ax))) ax)))))) (aN (bj 2 (eOp cu (ak 2) (fE (ae (eBi kK (ae (ak 0) (ae (eC (.cls "NoRow")) ax))) (ae (eBi kK (ae (ak 0) (ae (eC (.cls "NotEven")) ax))) (ae (eBi kK (ae (ak 0) (ae (eC (.cls "TooMany")) ax))) ax)))))) (aN (sIf (tOr (tB (eOp oNe (afH "list" jB (ak 1) (ae (eC (.bl true)) ax)) (eC (.int 1)))) (tOr (tB (eOp oIn (eC (.bl true)) (ak 2))) (vj (tB (eBi kK (ae (ak 0) (ae (eC (.ty "ValueError")) ax))))))) (cB (fE (ae (eC (.str "none")) ax))) sNx) (aN (sIf (tB (eOp oIx (ak 1) (eC (.int 3)))) (cB (fE (ae (eC (.str "NoPairs")) ax))) sNx) (aN (sIf (tB (eOp oIx (ak 1) (eC (.int 2)))) (cB (fE (ae (eC (.str "Meet")) (ae (ada (ak 0) "one") (ae (ada (ak 0) "other") ax))))) sNx) (cB (fE (ae (eOp oIx (fE (ae (eC (.str "Blind")) (ae (eC (.str "Out")) ax))) (eBi xU (ae (eOp oIx (ak 1) (eC (.int 1))) ax))) (ae (ada (ak 0) "who") ax)))))))))
def bR:List W->Res W:=run 3 ic
def cF:SF:=bj 1 (jG cn (ae (ak 0) ax))
def dB:SF:=bj 1 (aG bR (ae (ak 2) ax))
def dW:SF:=aN (bj 1 (eC .non)) (aN (oz cF "FloorError" 2 dB) (cB (ak 1)))
def bE:List W->Res W:=run 3 dW
def h8:SF:=cB (ade (eBi bB (ae (ak 0) (ae (eC (.ty "int")) ax))) (afG (eBi bB (ae (ak 0) (ae (eC (.ty "bool")) ax)))))
def iZ:List W->Res W:=run 1 h8
def cL(a:List W->Res W):SF:=sIf (vj (tB (aG a (ae (ak 2) (ae (ak 3) ax))))) (cB (eC (.bl false))) sNx
def dY(a:List W->Res W):SF:=aN (sIf (tB (eBi du (ae (ak 1) (ae (eF (ae (eC (.ty "list")) (ae (eC (.ty "tuple")) ax))) ax)))) (aN (sIf (tOr (tB (eOp oNe (eBi bB (ae (ak 0) (ae (eC (.ty "list")) ax))) (eBi bB (ae (ak 1) (ae (eC (.ty "list")) ax))))) (tB (eOp oNe (eBi bB (ae (ak 0) (ae (eC (.ty "tuple")) ax))) (eBi bB (ae (ak 1) (ae (eC (.ty "tuple")) ax)))))) (cB (eC (.bl false))) sNx) (aN (sIf (tB (eOp oNe (eBi mu (ae (ak 0) ax)) (eBi mu (ae (ak 1) ax)))) (cB (eC (.bl false))) sNx) (aN (lA (ab1 (ak 0) (ak 1)) (mq (bA (aA 2) (bA (aA 3) mr))) (cL a)) (cB (eC (.bl true)))))) sNx) (aN (sIf (tB (eBi bB (ae (ak 1) (ae (eC (.ty "str")) ax)))) (cB (ade (eBi bB (ae (ak 0) (ae (eC (.ty "str")) ax))) (eOp oEq (ak 0) (ak 1)))) sNx) (cB (ade (aG iZ (ae (ak 0) ax)) (eOp oEq (ak 0) (ak 1)))))
noncomputable def aB:Nat->List W->Res W|0=>λ_=>.bad|n+1=>run 4 (dY (aB n))
def eY:SF:=aN (bj 3 (aG dm (ae (ak 2) (ae (ak 1) ax)))) (aN (bj 4 (aG dk (ae (ak 3) ax))) (aN (sIf (tB (eOp oIs (ak 4) (eC .non))) (bj 4 (fE (ae (eC (.str "NoPairs")) ax))) sNx) (yr 5 bE (ae (ak 3) ax) λa=>jw (vj (tB (aG (aB 3) (ae (ak 5) (ae (ak 4) ax))))) (cB (eC (.bl false))) (mO 5 a (sIf (vj (tB (aG (aB 3) (ae (aG bE (ae (ak 3) ax)) (ae (ak 4) ax))))) (cB (eC (.bl false))) sNx)))))
def u7:SF:=aN (bj 1 (aG dQ (ae (aG aP (ae (ak 0) (ae (eC (.int 0)) ax))) ax))) (aN (lA (zo (eOp cu (fE (ae (aG aP (ae (ak 0) (ae (eC (.int 1)) ax))) ax)) (eSl (ak 0) (eB (eC (.int 2))) (eB (eC (.int 62)))))) (aA 2) eY) (cB (aG (aB 3) (ae (aG bE (ae (eC pw) ax)) (ae (fE (ae (eF (ae (eC (.int 0)) (ae (eC (.int 1)) ax))) (ae (eF (ae (eC (.int 2)) (ae (eC (.int 3)) ax))) (ae (eF (ae (eC (.int 4)) (ae (eC (.int 5)) ax))) (ae (eF (ae (eC (.int 6)) (ae (eC (.int 7)) ax))) ax))))) ax)))))
def zA:List W->Res W:=run 6 u7
end K51
namespace K51
open PySem WL ML
noncomputable def br(hs:Nat->Option Nat):Nat->Nat->List Nat|0,d=>[d]|n+1,d=>d::match hs d with|some k=>br hs n k|none=>[]
def lF(hs:Nat->Option Nat)(n d:Nat):d∈br hs n d:=by cases n<;>simp[br]
structure Hands(hs:Nat->Option Nat)(rk:Nat->Nat):Prop where
 lt:∀d k,d<8->hs d=some k->k<8inj:∀d e k,d<8->e<8->hs d=some k->hs e=some k->d=e
 rl:∀d,d<8->rk d<8up:∀d k,d<8->hs d=some k->rk d<rk k
section
variable{hs:Nat->Option Nat}{rk:Nat->Nat}(H:Hands hs rk)
include H
theorem iE:∀(n d:Nat),d<8->∀x∈br hs n d,x<8/\rk d<=rk x
|0,d,hd,x,c=>by simp[br]at c;subst c;exact⟨hd,agx _⟩|n+1,d,hd,x,c=>by
 rcases ags.mp c with rfl|c;.exact⟨hd,agx _⟩
 .cases e:hs d with|none=>rw[e]at c;cases c|some k=>rw[e]at c;obtain⟨a,b⟩:=iE n k (H.lt d k hd e) x c;have:=H.up d k hd e;exact⟨a,by omega⟩
theorem xu:∀(n d:Nat),d<8->(br hs n d).Nodup
|0,d,_=>by simp[br]|n+1,d,hd=>by
 refine ag1.mpr ⟨λb=>?_,?_⟩;.cases e:hs d with|none=>rw[e]at b;cases b|some k=>rw[e]at b;have a:=(iE H n k (H.lt d k hd e) d b).2;have:=H.up d k hd e;omega
 .cases e:hs d with|none=>exact ajm|some k=>exact xu n k (H.lt d k hd e)
theorem oD:∀(n d:Nat),d<8->8<=n+rk d+1->∀x∈br hs n d,∀k,hs x=some k->k∈br hs n d
|0,d,hd,hn,x,c,k,e=>by simp[br]at c;subst c;have a:=H.up x k hd e;have b:=H.rl k (H.lt x k hd e);omega|n+1,d,hd,hn,x,c,k,e=>by
 rcases ags.mp c with rfl|c;.refine agw _ ?_;rw[e];exact lF hs n k
 .refine agw _ ?_;cases f:hs d with|none=>rw[f]at c;cases c|some k0=>rw[f]at c;have a:=H.up d k0 hd f;exact oD n k0 (H.lt d k0 hd f) (by omega) x c k e
omit H in theorem gM:∀(n d x:Nat),x∈br hs n d->x=d\/∃y∈br hs n d,hs y=some x
|0,d,x,a=>by simp[br]at a;exact .inl a|n+1,d,x,a=>by
 rcases ags.mp a with rfl|a;.exact .inl rfl
 .right;cases e:hs d with|none=>rw[e]at a;cases a|some k=>
  rw[e]at a;rcases gM n k x a with rfl|⟨y,b,c⟩;.exact⟨d,agD,e⟩
  .exact⟨y,agw _ (by rw[e];exact b),c⟩
theorem lE{d e:Nat}(l:d<8)(i:e<8)(m:∀y,y<8->hs y≠some d)(k:∀y,y<8->hs y≠some e)(n:Nat):∀(r x:Nat),rk x<r->x∈br hs n d->x∈br hs n e->d=e
|0,_,h,_,_=>absurd h (ahf _)|r+1,x,h,h1,h2=>by
  rcases gM n d x h1 with rfl|⟨y,f,c⟩
  .rcases gM n e x h2 with rfl|⟨y,f,c⟩;.rfl
   .exact(m y (iE H n e i y f).1 c).elim
  .have g:=(iE H n d l y f).1;rcases gM n e x h2 with rfl|⟨o,b,j⟩;.exact(k y g c).elim
   .have:=H.inj y o x g (iE H n e i o b).1 c j;subst this;have a:=H.up y x g c;exact lE l i m k n r y (by omega) f b
noncomputable def startB(hs:Nat->Option Nat)(d:Nat):Bool:=(List.range 8).all λy=>hs y !=some d
omit H in theorem jm{d:Nat}:startB hs d=true↔∀y,y<8->hs y≠some d:=by simp[startB]
theorem lD:∀(r d:Nat),rk d<r->d<8->∃s,s<8/\startB hs s=true/\d∈br hs 8 s
|0,_,h,_=>absurd h (ahf _)|r+1,d,h,hd=>by
  by_cases e:startB hs d=true;.exact⟨d,hd,e,lF hs 8 d⟩
  .have:∃y,y<8/\hs y=some d:=by simpa[startB]using e
   obtain⟨y,b,c⟩:=this;have a:=H.up y d b c;obtain⟨s,f,i,g⟩:=lD r y (by omega) b;exact⟨s,f,i,oD H 8 s f (by omega) y g d c⟩
omit H in def lC(hs:Nat->Option Nat):List (List Nat):=((List.range 8).filter (startB hs)).map (br hs 8)
theorem rH:(lC hs).flatten.Perm (List.range 8):=by
 refine(List.perm_ext_iff_of_nodup ?_ ahF).mpr λd=>?_
 .refine List.pairwise_flatten.mpr ⟨λl j=>?_,?_⟩;.obtain⟨s,c,rfl⟩:=agM.mp j;have:=agB.mp (ahe.mp c).1;exact xu H 8 s this
  .refine aiZ.mpr ?_;have o:((List.range 8).filter (startB hs)).Nodup:=ahF.filter _;refine List.Pairwise.imp_of_mem ?_ o;intro a b n q i x g y e f;subst f;have k:=ahe.mp n;have m:=ahe.mp q;exact i (lE H (agB.mp k.1) (agB.mp m.1) (jm.mp k.2) (jm.mp m.2) 8 _ x (ah8 _) g e)
 .constructor;.intro h;obtain⟨l,j,p⟩:=List.mem_flatten.mp h;obtain⟨s,c,rfl⟩:=agM.mp j;exact agB.mpr (iE H 8 s (agB.mp (ahe.mp c).1) d p).1
  .intro h;obtain⟨s,g,e,r⟩:=lD H _ d (ah8 _) (agB.mp h);exact List.mem_flatten.mpr ⟨_,agM.mpr ⟨s,ahe.mpr ⟨agB.mpr g,e⟩,rfl⟩,r⟩
end
noncomputable def two2:List Nat->List (Nat×Nat)|a::b::l=>(a,b)::two2 l|_=>[]
theorem two2_flat:∀l:List Nat,l.length%2=0->(two2 l).flatMap (λp=>[p.1,p.2])=l|[],_=>rfl|[_],h=>by simp at h|a::b::l,h=>by have:=two2_flat l (by simp only[agJ]at h;omega);simp[two2,this]
theorem jx:∀a:List (List Nat),(∀l∈a,l.length%2=0)->(a.flatMap two2).flatMap (λp=>[p.1,p.2])=a.flatten|[],_=>rfl|l::a,h=>by rw[List.flatMap_cons,List.flatMap_append,two2_flat l (h l agD),jx a λx b=>h x (agw _ b)];rfl
theorem o8:∀ps:List (Nat×Nat),(ps.flatMap λp=>[p.1,p.2]).length=2*ps.length|[]=>rfl|p::ps=>by rw[List.flatMap_cons,ahg,o8 ps];simp;omega
def p0{hs:Nat->Option Nat}{b:Nat->Nat}(H:Hands hs b)(h:∀l∈lC hs,l.length%2=0):((lC hs).flatMap two2).length=4/\∀d,d<8↔∃p∈(lC hs).flatMap two2,d=p.1\/d=p.2:=by
 have e:=jx _ h;have P:=rH H;constructor;.have a:=o8 ((lC hs).flatMap two2);rw[e,P.length_eq,ahP]at a;omega
 .intro d;rw[<-agB,<-P.mem_iff,<-e,List.mem_flatMap];simp
def rhO(f:List S3)(d:Nat):Option Nat:=match mD (sfp (f.getD d (0,0,0)) 0 2) 0 f with|some k=>if cM f k=cM f d then some k else none|none=>none
theorem mC(s:Int×Int):∀(f:List S3)(k i:Nat),mD s k f=some i->ar (f.getD (i-k) (0,0,0))=s
|[],_,_,h=>by simp[mD]at h|p::f,k,i,h=>by
 simp only[mD]at h;split at h;.rename_i a;cases h;simpa using a
 .have b:=hU s _ f i h;have:=mC s f (k+1) i h;obtain⟨j,rfl⟩:∃j,i=k+1+j:=⟨i-(k+1),by omega⟩;rw[show k+1+j-(k+1)=j by omega]at this;rw[show k+1+j-k=j+1 by omega];simpa using this
def eg{f:List S3}{d k:Nat}(h:rhO f d=some k):k<f.length/\ar (f.getD k (0,0,0))=sfp (f.getD d (0,0,0)) 0 2/\(f.getD k (0,0,0)).2.2=(f.getD d (0,0,0)).2.2:=by unfold rhO at h;cases e:mD (sfp (f.getD d (0,0,0)) 0 2) 0 f with|none=>rw[e]at h;cases h|some j=>
 rw[e]at h;simp only at h;split at h;.rename_i a;cases h;have c:=hU _ 0 f k e;have b:=mC _ f 0 k e;exact⟨by omega,b,a⟩
 .cases h
noncomputable def abW(p:S3):Int:=if p.2.2=0 then p.1 else if p.2.2=1 then p.2.1 else if p.2.2=2 then -p.1 else -p.2.1
def abN{p q:S3}(a:ar q=sfp p 0 2)(b:q.2.2=p.2.2):abW q=abW p+2:=by
 obtain⟨x,y,c⟩:=p;obtain⟨f,d,e⟩:=q;simp only at b;subst b;simp only[ar,sfp]at a;simp only[abW];split at a;.simp only[ag2]at a;simp[*]
 .split at a;.simp only[ag2]at a;simp[*]
  .split at a;.simp only[ag2]at a;simp[*];omega
   .simp only[ag2]at a;simp[*];omega
def yn{p q:S3}{m n:Int}(h:sfp p m n=sfp q m n)(a:p.2.2=q.2.2):ar p=ar q:=by
 obtain⟨x,y,c⟩:=p;obtain⟨e,b,d⟩:=q;simp only at a;subst a;simp only[sfp]at h;simp only[ar];split at h;.simp only[ag2]at h⊢;omega
 .split at h;.simp only[ag2]at h⊢;omega
  .split at h<;>(simp only[ag2]at h⊢;omega)
def two_at{f:List S3}(j:bK f){d e:Nat}(b:d<f.length)(a:e<f.length)(h:ar (f.getD d (0,0,0))=ar (f.getD e (0,0,0))):d=e:=by
 have g:∀i(c:i<f.length),f.getD i (0,0,0)=f[i]:=λi c=>by rw[agC,agH c];rfl
 rw[g d b,g e a]at h;rcases aiX d e with z|z|z;.exact(ahA.mp j d e b a z h).elim
 .exact z
 .exact(ahA.mp j e d a b z h.symm).elim
theorem ph{p q:Nat->Bool}:∀l:List Nat,(∀x∈l,p x=true->q x=true)->(∃x∈l,q x=true/\p x=false)->l.countP p<l.countP q
|[],_,h=>by obtain⟨x,b,_⟩:=h;cases b|a::l,h,b=>by
  have i:l.countP p<=l.countP q:=List.countP_mono_left λx b=>h x (agw _ b);rw[ai8,ai8];by_cases d:p a=true
  .have e:=h a agD d;obtain⟨x,c,g,f⟩:=b;rcases ags.mp c with rfl|c;.rw[d]at f;cases f
   .have:=ph l (λx b=>h x (agw _ b)) ⟨x,c,g,f⟩;simp[d,e];omega
  .by_cases e:q a=true;.simp[d,e];omega
   .obtain⟨x,c,g,f⟩:=b;rcases ags.mp c with rfl|c;.exact(e g).elim
    .have:=ph l (λx b=>h x (agw _ b)) ⟨x,c,g,f⟩;simp[d,e];omega
def z8(f:List S3)(d e:Nat):Bool:=decide ((f.getD e (0,0,0)).2.2=(f.getD d (0,0,0)).2.2)&&decide (abW (f.getD e (0,0,0))<abW (f.getD d (0,0,0)))
def rkF(f:List S3)(d:Nat):Nat:=(List.range 8).countP (z8 f d)
def ko{f:List S3}(hl:f.length=8)(ha:bK f):Hands (rhO f) (rkF f)where
 lt d k _ h:=by have:=(eg h).1;omega
 inj d e k hd he h1 h2:=by obtain⟨_,a1,a2⟩:=eg h1;obtain⟨_,b1,b2⟩:=eg h2;exact two_at ha (by omega) (by omega) (yn (a1.symm.trans b1) (a2.symm.trans b2))
 rl d hd:=by have h:=ph (p:=z8 f d) (q:=λ_=>true) (List.range 8) (λ_ _ _=>rfl) ⟨d,agB.mpr hd,rfl,by simp[z8]⟩;rw[List.countP_true,ahP]at h;exact h
 up d k hd h:=by
  obtain⟨_,a1,a2⟩:=eg h;have hk:=abN a1 a2;refine ph _ (λx _ hx=>?_) ⟨d,agB.mpr hd,?_,?_⟩;.simp only[z8,agE,agZ]at hx⊢;exact⟨hx.1.trans a2.symm,by omega⟩
  .simp only[z8,agE,agZ];exact⟨a2.symm,by omega⟩
  .simp[z8]
noncomputable def ikT(k t:String):Option Bool:=if["int","bool","str","list","tuple"].contains t then some (k==t||k=="bool"&&t=="int")else none
def afv(x t):isK (.int x) t=ikT "int" t:=(rfl)
def aft(x t):isK (.str x) t=ikT "str" t:=(rfl)
def afu(x t):isK (.lst x) t=ikT "list" t:=(rfl)
def afs(x t):isK (.tup x) t=ikT "tuple" t:=(rfl)
def ab8(l):aab (.lst l)=if shC l=true then .ok (.lst l)else .bad:=(rfl)
def aah(x y xs ys):mx (x::xs) (y::ys)=.tup [x,y]::mx xs ys:=(rfl)
def vO(n)(l:List Nat):e8 (n+1) (l.map λk:Nat=>.int k)=true:=sg n _ _ λ_ _=>rfl
def afL(x y f:Int)(m n:Int)(c:0<=f)(d:f<4):∃a b:Int,oIx kI (.int f)=.ok (.tup [.int a,.int b])/\oIx (.lst [.tup [.int 0,.int 1],.tup [.int (-1),.int 0],.tup [.int 0,.int (-1)],.tup [.int 1,.int 0]]) (.int f)=.ok (.tup [.int a,.int b])/\(-2<a/\a<2)/\(-2<b/\b<2)/\sfp (x,y,f) m n=(x+(a*m+b*n),y+(b*m-a*n)):=by
 have r:f=0\/f=1\/f=2\/f=3:=by grind
 rcases r with rfl|rfl|rfl|rfl;.exact⟨0,1,rfl,rfl,by decide,by decide,by simp[sfp]⟩
 .exact⟨-1,0,rfl,rfl,by decide,by decide,by simp[sfp,aiQ]⟩
 .exact⟨0,-1,rfl,rfl,by decide,by decide,by simp[sfp,aiQ]⟩
 .exact⟨1,0,rfl,rfl,by decide,by decide,by simp[sfp,aiQ]⟩
def aaO(p)(m n)(c:0<=p.2.2)(d:p.2.2<4):cy [stW p,.int m,.int n]=.ok (spW (sfp p m n)):=by obtain⟨x,y,f⟩:=p;obtain⟨a,b,g,_,h,i,e⟩:=afL x y f m n c d;rw[e];simp(disch:=omega)[cy,eP,stW,spW,g,oN,List.replicate]
def ee(p):dO [stW p]=.ok (spW (ar p)):=rfl
theorem n8(F)(s):∀f k b a,fin (yo (forL (mq (bA (aA 2) (bA (aA 3) mr))) cU (i1 k (f.map stW)) [.va F,.va (spW s),b,a]) (cB (eC .non)))=.ok (x3 s k f)
|[],k,b,a=>rfl|p::f,k,b,a=>by
 simp [i1,fB];by_cases h:ar p=s;.simp[cU,ee,h,x3]
 .have c:=n8 F s f (k+1) (.va (.int k)) (.va (stW p));simp[cU,ee,h,x3]at c⊢;exact c
def aap(f)(s):kx [flW f,spW s]=.ok (x3 s 0 f):=by exact n8 _ s f 0 _ _
def nr{f}{k:Nat}(a:k<f.length):oIx (flW f) (.int k)=.ok (stW (f.getD k (0,0,0))):=by refine xG (by simp) ?_;rw[aiV,agC,agH a];rfl
def sY{f S}(a:S=flW f\/S=.lst (f.map stW)){k}(b:k<f.length):oIx S (.int k)=.ok (stW (f.getD k (0,0,0))):=by
 have e:f[k]?=some (f.getD k (0,0,0)):=by grind
 rcases a with rfl|rfl;.exact xG (by simp) (by exact e)
 .rw[iP,eZ,agT,e];rfl
def mS{lo n i x}(h:(rng lo n)[i]?=some x):i<n/\x=.int (lo+i):=rK _ n i x h
def nc{f S}(a:S=flW f\/S=.lst (f.map stW)):mu [S]=.ok (.int f.length):=by rcases a with rfl|rfl<;>simp[flW]
def gJ(f:List S3)(N:f.length<=100)(S:W)(q:S=flW f\/S=.lst (f.map stW)):∃w,aW [S]=.ok w/\Met f w:=by
 have h:=kq (g:=aA 1) (b:=bp) (xs:=rng 0 f.length) (σ:=[.va S,.no,.no]) (λi k=>(∃n c,k=[.va S,n,c])/\∀a b,a<i->a<b->b<f.length->ar (f.getD a (0,0,0))≠ar (f.getD b (0,0,0))) (λi w=>Met f w) ⟨⟨_,_,rfl⟩,λa b h=>absurd h (ahf _)⟩ (by
   rintro i x σ t⟨⟨n,c,rfl⟩,p⟩;obtain⟨E,rfl⟩:=mS t;refine⟨_,rfl,?_⟩;have m:=kq (g:=aA 2) (b:=aK) (xs:=rng (i+1) (f.length-(i+1))) (σ:=[.va S,.va (.int (0+i)),c]) (λj k=>(∃c,k=[.va S,.va (.int (0+i)),c])/\∀b,i<b->b<i+1+j->ar (f.getD i (0,0,0))≠ar (f.getD b (0,0,0))) (λj w=>Met f w) ⟨⟨_,rfl⟩,λb o l=>absurd l (by omega)⟩ (by
     rintro j x σ t⟨⟨c,rfl⟩,m⟩;obtain⟨M,rfl⟩:=mS t;refine⟨_,rfl,?_⟩;have z:=sY q E;have y:=sY q (show i+1+j<f.length by omega);have G:(0:Int)+(i:Nat)=((i:Nat):Int):=by omega
     have I:(i:Int)+1+(j:Nat)=((i+1+j:Nat):Int):=by omega
     rw[G,I];by_cases h:ar (f.getD i (0,0,0))=ar (f.getD (i+1+j) (0,0,0));.refine .inr ⟨.tup [.int i,.int ((i+1+j:Nat):Int)],?_,Met.two i (i+1+j) (by omega) (by omega) h (λa b=>p a b) λb o l=>m b o l⟩;simp only[aK];rw[xq];simp only[aaK,xS,pb,pB,uN,uc,aiP,aiO,afw,afx,tQ,uJ,z,y,ee,pq,sk,xi,iN,h,decide_true,aib];simp
     .refine .inl ⟨[.va S,.va (.int i),.va (.int ((i+1+j:Nat):Int))],?_,⟨_,rfl⟩,λb o l=>?_⟩;.simp only[aK];rw[xq];simp only[aaK,xS,pb,pB,uN,uc,aiP,aiO,afw,afx,tQ,uJ,z,y,ee,pq,sk,xi,iN,h,decide_false];simp
      .by_cases u:b<i+1+j;.exact m b o u
       .have:b=i+1+j:=by omega
        rw[this];exact h);have B:∀n,ofR n (ni (eOp cu (ak 1) (eC (.int 1))) (eBi mu (ae (ak 0) ax)) [.va S,.va (.int (0+i)),c]) (λxs=>forL (aA 2) aK xs [.va S,.va (.int (0+i)),c])=forL (aA 2) aK (rng (i+1) (f.length-(i+1))) [.va S,.va (.int (0+i)),c]:=λn=>by
    have s:(f.length:Int)<4611686018427387904:=by omega
    have J:(i:Int)+1<4611686018427387904:=by omega
    have r:-4611686018427387904<=(f.length:Int):=by omega
    have K:-4611686018427387904<=(i:Int)+1:=by omega
    have C:((f.length:Int)-((i:Int)+1)).toNat=f.length-(i+1):=by omega
    simp[nc q,s,J,r,K,C]
   have u:bp (([.va S,n,c]:Ws).set 1 (.va (.int (0+i))))=forL (aA 2) aK (rng (i+1) (f.length-(i+1))) [.va S,.va (.int (0+i)),c]:=by show lA _ _ _ _=_;rw[yu];exact B _
   rw[u];rcases m with⟨k,e,⟨A,rfl⟩,d⟩|⟨j,w,_,e,v⟩
   .refine .inl ⟨_,e,⟨_,_,rfl⟩,λa b o l D=>?_⟩;by_cases H:a<i;.exact p a b H l D
    .have:a=i:=by omega
     subst this;exact d b l (by simp;omega)
   .exact .inr ⟨w,e,v⟩);have s:(f.length:Int)<4611686018427387904:=by omega
 have r:-4611686018427387904<=(f.length:Int):=by omega
 rcases h with⟨k,e,⟨n,c,rfl⟩,d⟩|⟨i,w,_,e,v⟩;.refine⟨.non,?_,.none (kL λa b o l=>d a b (by simp;omega) o l)⟩;simp[aW,bH,List.replicate,nc q,s,r,e]
 .refine⟨w,?_,v⟩;simp[aW,bH,List.replicate,nc q,s,r,e]
def j3(f:List S3)(s:f.length=8)(m:∀p∈f,Fac p)(d:Nat)(t:d<8):bD [flW f,.int d]=.ok (onW (rhO f d)):=by have i:=nr (f:=f) (k:=d) (by omega);have g:Fac (f.getD d (0,0,0)):=m _ (by rw[agC,agH (by omega)];exact aiC _);have h:=aaO (f.getD d (0,0,0)) 0 2 g.1 g.2;have c:=aap f (sfp (f.getD d (0,0,0)) 0 2);rw[w9]at c;unfold rhO;cases e:mD (sfp (f.getD d (0,0,0)) 0 2) 0 f with|none=>rw[e]at c;simp only[onW]at c;generalize f.getD d (0,0,0)=p at *;simp[bD,cG,List.replicate,i,h,c]|some k=>rw[e]at c;simp only[onW]at c;have r:=(hU _ 0 f k e).2;have l:=nr (f:=f) (k:=k) (by omega);show _=Res.ok (onW (if cM f k=cM f d then some k else none));have o:cM f k=(f.getD k (0,0,0)).2.2:=rfl;have n:cM f d=(f.getD d (0,0,0)).2.2:=rfl;generalize cM f k=a at *;generalize cM f d=b at *;generalize flW f=FL at *;generalize f.getD d (0,0,0)=p at *;generalize f.getD k (0,0,0)=q at *;subst o n;by_cases j:q.2.2=p.2.2<;>simp[bD,cG,List.replicate,i,h,c,l,j]
noncomputable def nW(l:List Nat):List W:=l.map λk:Nat=>.int k
def hsW(hs:Nat->Option Nat):W:=.lst ((List.range 8).map λd=>onW (hs d))
def we(hs:Nat->Option Nat){d:Nat}(a:d<8):oIx (hsW hs) (.int d)=.ok (onW (hs d)):=by unfold hsW;rw[iP,eZ,agT,ahq a];rfl
def oY(l:List Nat)(d:Nat):oIx (.lst (nW (l++[d]))) (.int (-1))=.ok (.int d):=by rw[iP,pz];simp[nW]
def vB(l:List Nat):fq (nW l)=true:=(pX _).mpr λx a=>by obtain⟨k,_,rfl⟩:=agM.mp a;rfl
def rJ{hs:Nat->Option Nat}{l:Nat->Nat}(H:Hands hs l)(F:W):∀(n m d:Nat)(pre:List Nat),d<8->8<=n+l d+1->n<m->pre.length+n<1000->
 bZ bC cK m [.va (hsW hs),.va F,.ow (nW (pre++[d]))]=.nx [.va (hsW hs),.va F,.ow (nW (pre++br hs n d))]:=by intro n;induction n with|zero=>
 intro m d pre f o r q;obtain⟨m,rfl⟩:∃k,m=k+1:=⟨m-1,by omega⟩;have e:hs d=none:=by cases e:hs d with|none=>rfl|some k=>have a:=H.up d k f e;have b:=H.rl k (H.lt d k f e);omega
 have c:=we hs f;have h:=oY pre d;rw[e]at c;rw[aY];have s:=vB (pre++[d]);show _=Out.nx [_,_,.ow (nW (pre++[d]))];generalize hsW hs=HS at *;generalize nW (pre++[d])=L at *;simp[bC,c,h]|succ n i=>
 intro m d pre f o r q;obtain⟨m,rfl⟩:∃k,m=k+1:=⟨m-1,by omega⟩
 have c:=we hs f;have h:=oY pre d;cases e:hs d with|none=>
  rw[e]at c;have j:br hs (n+1) d=[d]:=by simp[br,e]
  rw[aY,j];generalize hsW hs=HS at *;generalize nW (pre++[d])=L at *;simp[bC,c,h]|some k=>
  rw[e]at c;have j:br hs (n+1) d=d::br hs n k:=by simp[br,e]
  have a:=H.up d k f e;have i:=i m k (pre++[d]) (H.lt d k f e) (by omega) (by omega) (by simp;omega);rw[aY,j,show pre++d::br hs n k=pre++[d]++br hs n k by simp,<-i];have p:nW (pre++[d]++[k])=nW (pre++[d])++[.int k]:=by simp[nW]
  have g:(nW (pre++[d])).length<1000000:=by simp[nW];omega
  rw[p];generalize hsW hs=HS at *;generalize nW (pre++[d])=L at *;simp only[onW]at c;simp[bC,cK,c,h,g]
def mR{hs:Nat->Option Nat}{a:Nat->Nat}(H:Hands hs a){d:Nat}(b:d<8):et [hsW hs,.int d]=.ok (.lst (nW (br hs 8 d))):=by have h:=rJ H (.int d) 8 20 d [] b (by omega) (by decide) (by decide);have e:nW ([]++[d])=[.int d]:=rfl;rw[e,ajh]at h;generalize hsW hs=HS at *;generalize nW (br hs 8 d)=L at *;simp[et,fQ,List.replicate,gz,h,iA]
noncomputable def prW(p:Nat×Nat):W:=.tup [.int p.1,.int p.2]
theorem two2_ix:∀l:List Nat,l.length%2=0->(List.range (l.length/2)).map (λi=>prW (l.getD (2*i) 0,l.getD (2*i+1) 0))=(two2 l).map prW
|[],_=>rfl|[_],h=>by simp at h|a::b::l,h=>by
 have c:=two2_ix l (by simp only[agJ]at h;omega);have e:(a::b::l).length/2=l.length/2+1:=by simp only[agJ];omega
 rw[e,List.range_succ_eq_map,agP,aht,two2,agP,<-c];rfl
theorem xo:∀l:List Nat,(∀x∈l,x<1000)->shL (nW l)=some (12*l.length+3)|[],_=>rfl|a::l,h=>by have d:=h a agD;have c:=xo l λx b=>h x (agw _ b);show(if(a:Int).natAbs<1000 then(shL (nW l)).map (.+12)else none)=_;rw[ago (by omega),c];simp only[aje,agJ];congr 1
def ym(l:List Nat)(h:∀x∈l,x<1000)(a:l.length<=100):shC (nW l)=true:=by unfold shC;rw[xo l h,show e8 51 (nW l)=true from vO 50 l];simp;omega
def oU(l:List Nat){i:Nat}(h:i<l.length):oIx (.lst (nW l)) (.int i)=.ok (.int (l.getD i 0:Nat)):=by rw[iP,eZ];simp[nW,h]
def iJ(l:List Nat)(h:∀x∈l,x<1000)(m:l.length<=100):bw [.lst (nW l)]=if l.length%2=0 then .ok (.lst ((two2 l).map prW))else .ex (.exc "NoPairs" []):=by
 have d:(nW l).length=l.length:=by simp[nW]
 by_cases b:l.length%2=0
 .rw[ago b];have a:(l.length:Int)%2=0:=by omega
  have c:∀A:List Sl,cD (aA 0) kQ (eF (ae (eOp oIx (ak 1) (ak 0)) (ae (eOp oIx (ak 1) (eOp cu (ak 0) (eC (.int 1)))) ax))) (.no::.va (.lst (nW l))::A) (vv 0 2 (l.length/2))=.ok ((two2 l).map prW):=λA=>by rw[<-two2_ix l b];refine cz λi a=>?_;have a:=agB.mp a;have k:=oU l (i:=2*i) (by omega);have f:=oU l (i:=2*i+1) (by omega);refine⟨_,rfl,rfl,?_⟩;rw[show(0:Int)+(i:Nat)*2=((2*i:Nat):Int)by omega];rw[show((2*i+1:Nat):Int)=((2*i:Nat):Int)+1 by omega]at f;generalize W.lst (nW l)=L at *;generalize((2*i:Nat):Int)=j at *;generalize l.getD (2*i) 0=u at *;generalize l.getD (2*i+1) 0=v at *;simp[k,f,prW]
  have c:=c [];have p:(-1152921504606846976:Int)<=l.length:=by omega
  have o:(l.length:Int)<1152921504606846976:=by omega
  have e:(((l.length:Int)-0+1)/2).toNat=l.length/2:=by omega
  generalize(two2 l).map prW=R at *;generalize nW l=L at *;simp only[Int.sub_zero]at e;have g:(vv 0 2 (l.length/2)).length<=1000000:=by simp[vv];omega
  simp[bw,bT,List.replicate,d,a,tE,p,o,e,g,c]
 .rw[agq b];have a:¬(l.length:Int)%2=0:=by omega
  have n:=ym l h m;generalize nW l=L at *;simp[bw,bT,List.replicate,d,a,eFr,ab8,n,mQ]
def bsd(p:S3)(n:Int):S3:=((sfp p 0 n).1,(sfp p 0 n).2,p.2.2)
def uL(p:S3)(h:Fac p)(n:Int):fC [stW p,.int n]=.ok (stW (bsd p n)):=by have a:=aaO p 0 n h.1 h.2;simp[fC,jT,List.replicate,a,bsd];simp[stW]
def uI{p:S3}(h:Fac p)(n:Int):Fac (bsd p n):=h
def gb(f:List S3)(ps:List (Nat×Nat)):List S3:=ps.map λp=>bsd (f.getD p.1 (0,0,0)) 1
def kf(f:List S3)(b:∀p∈f,Fac p)(ps:List (Nat×Nat))(h:∀p∈ps,p.1<f.length)(j:ps.length<=1000):bW [flW f,.lst (ps.map prW)]=.ok (.lst ((gb f ps).map stW)):=by
 have g:cD (aA 0) kQ (aG fC (ae (eOp oIx (ak 1) (eOp oIx (ak 0) (eC (.int 0)))) (ae (eC (.int 1)) ax))) [.no,.va (flW f),.va (.lst (ps.map prW))] (ps.map prW)=.ok ((gb f ps).map stW):=by unfold gb;rw[aht];refine cz λp a=>⟨_,rfl,rfl,?_⟩;have i:=nr (h p a);have e:=uL (f.getD p.1 (0,0,0)) (b _ (by rw[agC,agH (h p a)];exact aiC _)) 1;have d:oIx (prW p) (.int 0)=.ok (.int p.1):=rfl;show _=Res.ok (stW (bsd (f.getD p.1 (0,0,0)) 1));generalize flW f=FL at *;generalize prW p=P at *;generalize stW (bsd (f.getD p.1 (0,0,0)) 1)=Z at *;generalize stW (f.getD p.1 (0,0,0))=Y at *;simp[i,e,d]
 have c:(ps.map prW).length<=1000000:=by simp;omega
 generalize ps.map prW=L at *;generalize flW f=FL at *;simp[bW,dD,List.replicate,g,c]
def oQ(hs:Nat->Option Nat)(d:Nat):iO (.int d) (hsW hs)=.ok (.bl (startB hs d)):=by
 have b:e8 51 ((List.range 8).map λy=>onW (hs y))=true:=sg 50 _ _ λy _=>by cases hs y<;>rfl
 have a:cf (.int d) ((List.range 8).map λy=>onW (hs y))=!startB hs d:=by
  have go:∀l:List Nat,cf (.int d) (l.map λy=>onW (hs y))=!l.all λy=>hs y !=some d:=λl=>by induction l with|nil=>rfl|cons y l ih=>rw[agP,nY,ih,List.all_cons,Bool.not_and];congr 1;cases hs y with|none=>rfl|some k=>rw[ag7];simp[onW];omega
  exact go _
 unfold hsW;show(if(okD 50 (.int d)&&e8 51 _)=true then Res.ok (W.bl !cf _ _)else .bad)=_;rw[b,a];simp
noncomputable def pl(hs:Nat->Option Nat):List Nat->List (Nat×Nat)->Option (List (Nat×Nat))|[],acc=>some acc|d::ds,acc=>if startB hs d=true then if(br hs 8 d).length%2=0 then pl hs ds (acc++two2 (br hs 8 d))else none else pl hs ds acc
theorem vC(hs:Nat->Option Nat):∀(b:List Nat)(a:List (Nat×Nat)),pl hs b a=if((b.filter (startB hs)).map (br hs 8)).all λl=>l.length%2==0=true then some (a++((b.filter (startB hs)).map (br hs 8)).flatMap two2)else none
|[],a=>by simp[pl]|d::b,a=>by
  unfold pl;by_cases h:startB hs d=true
  .rw[ago h];by_cases c:(br hs 8 d).length%2=0;.rw[ago c,vC hs b];simp[h,c]
   .rw[agq c];simp[h,c]
  .rw[agq h,vC hs b];simp[h]
theorem two2_len:∀l:List Nat,(two2 l).length<=l.length|[]=>agx _|[_]=>by simp[two2]|a::b::l=>by have:=two2_len l;simp[two2];omega
theorem gO{hs:Nat->Option Nat}:∀(n d:Nat),(br hs n d).length<=n+1|0,d=>by simp[br]|n+1,d=>by unfold br;cases hs d with|none=>simp|some k=>have:=gO (hs:=hs) n k;simp;omega
theorem fZ{hs:Nat->Option Nat}{t:Nat->Nat}(H:Hands hs t)(FL:W):∀(c:List Nat)(a:List (Nat×Nat))(o:Sl),(∀d∈c,d<8)->a.length+9*c.length<900->(∀ps,pl hs c a=some ps->∃l,forL (aA 3) ay (nW c) [.va FL,.va (hsW hs),.ow (a.map prW),o]=.nx [.va FL,.va (hsW hs),.ow (ps.map prW),l])/\(pl hs c a=none->∃b,forL (aA 3) ay (nW c) [.va FL,.va (hsW hs),.ow (a.map prW),o]=.ex (.exc "NoPairs" []) b)
|[],a,o,_,_=>⟨λps h=>⟨o,by cases h;rfl⟩,λh=>by cases h⟩|d::c,a,o,hd,hl=>by
  have i:=hd d agD;have g:∀x∈c,x<8:=λx n=>hd x (agw _ n);have f:=oQ hs d;have q:=mR H i;have j:=iJ (br hs 8 d) λx n=>by have:=(iE H 8 d i x n).1;omega (by have:=gO (hs:=hs) 8 d;omega);have u:(two2 (br hs 8 d)).length<=9:=by have:=gO (hs:=hs) 8 d;have:=two2_len (br hs 8 d);omega
  have s:nW (d::c)=.int d::nW c:=rfl;simp only[agJ]at hl;rw[s,fB];unfold pl;by_cases h:startB hs d=true
  .rw[ago h];by_cases k:(br hs 8 d).length%2=0
   .rw[ago k];rw[ago k]at j;have m:=fZ H FL c (a++two2 (br hs 8 d)) (.va (.int d)) g (by simp;omega);have e:ay [.va FL,.va (hsW hs),.ow (a.map prW),.va (.int d)]=.nx [.va FL,.va (hsW hs),.ow ((a++two2 (br hs 8 d)).map prW),.va (.int d)]:=by
     have p:(a.map prW).length+((two2 (br hs 8 d)).map prW).length<=lim:=by simp[lim];omega
     rw[aih];generalize hsW hs=HS at *;generalize a.map prW=A at *;generalize(two2 (br hs 8 d)).map prW=R at *;generalize nW (br hs 8 d)=L at *;rw[h]at f;simp only[lim]at p;simp[ay,f,q,j,acH,p]
    show(∀ps,_->∃l,iS (ay [.va FL,.va (hsW hs),.ow (a.map prW),.va (.int d)]) _=_)/\(_->∃b,iS (ay [.va FL,.va (hsW hs),.ow (a.map prW),.va (.int d)]) _=_);rw[e];exact m
   .rw[agq k];rw[agq k]at j;refine⟨λps z=>(nomatch z),λ_=>?_⟩;have e:∃b,ay [.va FL,.va (hsW hs),.ow (a.map prW),.va (.int d)]=.ex (.exc "NoPairs" []) b:=by generalize hsW hs=HS at *;generalize a.map prW=A at *;generalize nW (br hs 8 d)=L at *;rw[h]at f;simp[ay,f,q,j,acH]
    obtain⟨b,e⟩:=e;refine⟨b,?_⟩;show iS (ay [.va FL,.va (hsW hs),.ow (a.map prW),.va (.int d)]) _=_;rw[e];rfl
  .rw[agq h];have m:=fZ H FL c a (.va (.int d)) g (by omega);have e:ay [.va FL,.va (hsW hs),.ow (a.map prW),.va (.int d)]=.nx [.va FL,.va (hsW hs),.ow (a.map prW),.va (.int d)]:=by
    have r:startB hs d=false:=by simpa using h
    rw[r]at f;generalize hsW hs=HS at *;generalize a.map prW=A at *;simp[ay,f]
   show(∀ps,_->∃l,iS (ay [.va FL,.va (hsW hs),.ow (a.map prW),.va (.int d)]) _=_)/\(_->∃b,iS (ay [.va FL,.va (hsW hs),.ow (a.map prW),.va (.int d)]) _=_);rw[e];exact m
open PySem.W(KasT kas_sort)
noncomputable def pZ(n:Nat):KasT (Array Nat)->Bool|.ret p=>p.toList.isPerm (List.range n)|.ask _ _ k=>pZ n (k true)&&pZ n (k false)
theorem iD{n:Nat}{c:Nat->Nat->Bool}:∀t:KasT (Array Nat),pZ n t=true->(vt c t).toList.Perm (List.range n)
|.ret p,h=>List.isPerm_iff.mp h|.ask i j k,h=>by
 have h:(pZ n (k true)&&pZ n (k false))=true:=h;rw[agE]at h;show(vt c (k (c i j))).toList.Perm _;cases c i j;.exact iD _ h.2
 .exact iD _ h.1
def afr:okT 4 (kas_sort 4)=true/\pZ 4 (kas_sort 4)=true:=by decide+kernel
noncomputable def zP(p:Nat×Nat):Int×Int:=(p.1,p.2)
theorem xx:∀ps:List (Nat×Nat),prs (ps.map prW)=some (ps.map zP)|[]=>rfl|p::ps=>by show(prs (ps.map prW)).map _=_;rw[xx ps];rfl
def srt(ps:List (Nat×Nat)):List (Nat×Nat):=(ixs (ps.map zP)).map λi=>ps.getD i (0,0)
def o3{ps:List (Nat×Nat)}(h:ps.length=4):(ixs (ps.map zP)).Perm (List.range 4):=by unfold ixs;rw[agO,h];exact iD _ afr.2
def vl{ps:List (Nat×Nat)}(h:ps.length=4):(srt ps).Perm ps:=by
 have e:ps=(List.range 4).map λi=>ps.getD i (0,0):=by match ps,h with|[a,b,c,d],_=>rfl
 have:=(o3 h).map λi=>ps.getD i (0,0);rw[<-e]at this;exact this
def ro{ps:List (Nat×Nat)}(h:ps.length=4):fG [.lst (ps.map prW)]=.ok (.lst ((srt ps).map prW)):=by
 unfold fG;simp only[xx];have b:(ps.map zP).length=4:=by rw[agO,h]
 rw[b,afr.1];rw[ago (by decide)];congr 2;unfold srt;rw[aht];refine List.map_congr_left λi a=>?_;have a:i<4:=agB.mp ((o3 h).mem_iff.mp a);show(ps.map prW).getD i .non=prW (ps.getD i (0,0));rw[agC,agT,agC,agH (by omega)];rfl
def jb(f:List S3):Option (List (Nat×Nat)):=match pl (rhO f) (List.range 8) []with|some ps=>if decide (bK (gb f ps))=true then some (srt ps)else none|none=>none
def aba:Option (List (Nat×Nat))->Res W|some ps=>.ok (.lst (ps.map prW))|none=>.ex (.exc "NoPairs" [])
structure Prs(ps:List (Nat×Nat)):Prop where len:ps.length=4lt:∀p∈ps,p.1<8/\p.2<8all:∀d,d<8->∃p∈ps,d=p.1\/d=p.2
def mU{f:List S3}(c:f.length=8)(j:bK f){ps:List (Nat×Nat)}(h:pl (rhO f) (List.range 8) []=some ps):Prs ps:=by
 rw[vC]at h;split at h
 .rename_i k;have e:(lC (rhO f)).flatMap two2=ps:=by unfold lC;simpa using h
  have b:∀l∈lC (rhO f),l.length%2=0:=λl c=>by have:=ag3.mp k l c;simpa using this
  obtain⟨i,a⟩:=p0 (ko c j) b;rw[e]at i a;exact⟨i,λp g=>⟨(a p.1).mpr ⟨p,g,.inl rfl⟩,(a p.2).mpr ⟨p,g,.inr rfl⟩⟩,λd m=>(a d).mp m⟩
 .cases h
theorem Prs.srt{ps:List (Nat×Nat)}(h:Prs ps):Prs (srt ps):=by have P:=vl h.len;refine⟨P.length_eq.trans h.len,λp a=>h.lt p (P.mem_iff.mp a),λd b=>?_⟩;obtain⟨p,a,e⟩:=h.all d b;exact⟨p,P.mem_iff.mpr a,e⟩
def rQ{f:List S3}(a:f.length=8)(b:bK f){ps:List (Nat×Nat)}(h:jb f=some ps):Prs ps:=by
 unfold jb at h;split at h
 .rename_i c e;split at h;.cases h;exact(mU a b e).srt
  .cases h
 .cases h
def mX(f:List S3)(a:f.length=8)(o:∀p∈f,Fac p)(m:bK f):cn [flW f]=aba (jb f):=by
 have H:=ko a m;have q:cD (aA 0) kQ (aG bD (ae (ak 1) (ae (ak 0) ax))) [.no,.va (flW f),.no,.no,.no] (rng 0 8)=.ok ((List.range 8).map λd=>onW (rhO f d)):=by refine cz λd c=>⟨_,rfl,rfl,?_⟩;have g:=j3 f a o d (agB.mp c);rw[aiL];generalize flW f=FL at *;simp[g]
 have r:rng 0 8=nW (List.range 8):=by simp[rng,nW]
 have s:(nW (List.range 8)).length=8:=rfl;rw[r]at q;obtain⟨u,y⟩:=fZ H (flW f) (List.range 8) [] .no (λd c=>agB.mp c) (by decide);have k:cn [flW f]=fin (yo (forL (aA 3) ay (nW (List.range 8)) [.va (flW f),.va (hsW (rhO f)),.ow [],.no]) (aN (sIf (zW 2 (tB (eOp fu (aG aW (ae (aG bW (ae (ak 0) (ae (ak 2) ax))) ax)) (eC .non)))) (oA "NoPairs" (ae (eC (.str "two pairs of one middle")) ax)) sNx) (uO 2 (cB (eBi fG (ae (ak 2) ax)))))):=by generalize flW f=FL at *;simp[cn,fR,List.replicate,i5,q,hsW,r,s]
 rw[k];unfold jb;cases e:pl (rhO f) (List.range 8) []with|none=>obtain⟨B,h⟩:=y e;have h:forL (aA 3) ay (nW (List.range 8)) [.va (flW f),.va (hsW (rhO f)),.ow [],.no]=_:=h;rw[h];rfl|some ps=>obtain⟨C,h⟩:=u ps e;have h:forL (aA 3) ay (nW (List.range 8)) [.va (flW f),.va (hsW (rhO f)),.ow [],.no]=_:=h;rw[h,dG];have G:=mU a m e;have n:=kf f o ps (λp x=>by rw[a];exact(G.lt p x).1) (by rw[G.len];decide);obtain⟨w,l,A⟩:=gJ (gb f ps) (by simp[gb,G.len]) (.lst ((gb f ps).map stW)) (.inr rfl);have v:=ro G.len;show _=aba (if decide (bK (gb f ps))=true then some (srt ps)else none);cases A with|none b=>rw[ago (ahD b)];show _=Res.ok (W.lst ((srt ps).map prW));generalize ps.map prW=PS at *;generalize flW f=FL at *;generalize hsW (rhO f)=HS at *;generalize(gb f ps).map stW=MS at *;simp[n,l,v,iA]|two i j g h2 h3 h4 h5=>have b:¬bK (gb f ps):=λz=>pA z g h2 h3;rw[agq (by simpa using b)];show _=Res.ex (W.exc "NoPairs" []);generalize ps.map prW=PS at *;generalize flW f=FL at *;generalize hsW (rhO f)=HS at *;generalize(gb f ps).map stW=MS at *;have t:fy (.tup [.int i,.int j])=false:=rfl;simp[n,l,t]
def gW{f:List S3}(b:∀p∈f,Fac p){d:Nat}(a:d<f.length):Fac (f.getD d (0,0,0)):=b _ (by rw[agC,agH a];exact aiC _)
structure Fl(f:List S3):Prop where len:f.length=8fac:∀p∈f,Fac p
def acn(d:Nat):bR [exN "Blind" d]=.ok (.lst [.str "Blind",.int d])/\bR [exN "Out" d]=.ok (.lst [.str "Out",.int d])/\(∀e:Nat,bR [.exc "Meet" [.int d,.int e]]=.ok (.lst [.str "Meet",.int d,.int e]))/\bR [.exc "NoPairs" []]=.ok (.lst [.str "NoPairs"]):=by refine⟨?_,?_,λe=>?_,?_⟩<;>kernel_rfl
def kR:Option (List (Nat×Nat))->W|some ps=>.lst (ps.map prW)|none=>.lst [.str "NoPairs"]
def same_int(n:Nat)(i:Int):aB (n+1) [.int i,.int i]=.ok (.bl true):=by
 have h:∀j,aB (n+1) [.int i,.int j]=.ok (.bl (i==j)):=λj=>by kernel_rfl
 rw[h];simp
def same_str(n:Nat)(s:String):aB (n+1) [.str s,.str s]=.ok (.bl true):=by
 have h:∀t:Str,aB (n+1) [.str s,.str t]=.ok (.bl (Str.ofString s==t)):=λt=>by kernel_rfl
 rw[h];simp
theorem jM(r:List W->Res W)(A B:W):∀(xs:List W)(d c:Sl),(∀x∈xs,r [x,x]=.ok (.bl true))->∃f g,forL (mq (bA (aA 2) (bA (aA 3) mr))) (cL r) (mx xs xs) [.va A,.va B,d,c]=.nx [.va A,.va B,f,g]|[],d,c,_=>⟨d,c,rfl⟩|x::xs,d,c,h=>by obtain⟨a,b,i⟩:=jM r A B xs (.va x) (.va x) λy j=>h y (by simp[j]);refine⟨a,b,?_⟩;have e:=h x (by simp);simp[aah,fB,cL,e];exact i
def jY(n:Nat)(xs:List W)(h:∀x∈xs,aB n [x,x]=.ok (.bl true)):aB (n+1) [.lst xs,.lst xs]=.ok (.bl true)/\aB (n+1) [.tup xs,.tup xs]=.ok (.bl true):=by
 constructor;.obtain⟨a,b,e⟩:=jM (aB n) (.lst xs) (.lst xs) xs .no .no h;simp[aB,dY,List.replicate,ikT,afv,aft,afu,afs,i7,tD,e]
 .obtain⟨a,b,e⟩:=jM (aB n) (.tup xs) (.tup xs) xs .no .no h;simp[aB,dY,List.replicate,ikT,afv,aft,afu,afs,i7,tD,e]
def di(p:S3)(h:Fac p)(m n:Int):bF [stW p,.int m,.int n]=.ok (spW (sfp p m n)):=by
 obtain⟨x,y,f⟩:=p;obtain⟨a,b,_,i,j,l,e⟩:=afL x y f m n h.1 h.2;rw[e];have g:∀k c:Int,k+m*a+n*b-c=k+(a*m+b*n)-c:=λk c=>by rw[ajc m,ajc n,Int.add_assoc]
 have d:∀k c:Int,k+m*b-n*a-c=k+(b*m-a*n)-c:=λk c=>by rw[ajc m,ajc n];omega
 have g:=g x 0;have d:=d y 0;simp only[Int.sub_zero]at g d;simp only[iP]at i;simp(disch:=omega)[bF,fS,stW,spW,i,sj,List.replicate,g,d]
def nh(x y c:Int)(h:Fac (x,y,c)):bG [.int x,.int y,.int c]=.ok (.lst [stW (bsd (x,y,c) (-1)),stW (bsd (x,y,c) 1)]):=by
 have b:=di (x,y,c) h 0 (-1);have a:=di (x,y,c) h 0 1;have e:stW (x,y,c)=.tup [.int x,.int y,.int c]:=rfl;rw[e]at b a;have d:∀(s:Int×Int)(c:Int),cu (spW s) (.tup [.int c])=.ok (stW (s.1,s.2,c)):=λs c=>by simp[spW,stW]
 have g:stW (bsd (x,y,c) (-1))=stW ((sfp (x,y,c) 0 (-1)).1,(sfp (x,y,c) 0 (-1)).2,c):=rfl;have f:stW (bsd (x,y,c) 1)=stW ((sfp (x,y,c) 0 1).1,(sfp (x,y,c) 0 1).2,c):=rfl;rw[g,f];generalize sfp (x,y,c) 0 (-1)=s1 at *;generalize sfp (x,y,c) 0 1=s2 at *;simp[bG,fU,List.replicate,b,a,d]
theorem jh{c:TF}{b:SF}{S:Nat->Ws}{bad:Nat->Bool}(d:∀n,c (S n)=.ok (bad n))(f:∀n,b (S n)=.nx (S (n+1))):∀(m n:Nat),(∃j,j<=m/\bad (n+j)=false)->∀fuel,m<fuel->∃j,bad (n+j)=false/\bZ c b fuel (S n)=.nx (S (n+j))
|m,n,h,0,hf=>absurd hf (ahf _)|m,n,h,fuel+1,hf=>by
  by_cases e:bad n=true
  .obtain⟨j,o,a⟩:=h;have p:1<=j:=by cases j with|zero=>rw[Nat.add_zero,e]at a;cases a|succ j=>omega
   obtain⟨m,rfl⟩:∃k,m=k+1:=⟨m-1,by omega⟩;obtain⟨i,l,g⟩:=jh d f m (n+1) ⟨j-1,by omega,by rw[show n+1+(j-1)=n+j by omega];exact a⟩ fuel (by omega);refine⟨i+1,by rw[show n+(i+1)=n+1+i by omega];exact l,?_⟩;rw[aY,d,e,show n+(i+1)=n+1+i by omega,<-g,iN,ago rfl,f];rfl
  .have e:bad n=false:=by simpa using e
   refine⟨0,by rw[Nat.add_zero];exact e,?_⟩;rw[aY,d,e];rfl
theorem f6{d:Type}[DecidableEq d]{g:Nat->d}(e:∀i j,g i=g j->i=j)(a:d):∀b:List Nat,b.Nodup->(b.filter λj=>decide (g j=a)).length<=1
|[],_=>by simp|j::b,c=>by
 have c:=ag1.mp c;by_cases h:g j=a;.have:b.filter (λj=>decide (g j=a))=[]:=List.filter_eq_nil_iff.mpr λi f z=>c.1 (by
  have:g i=a:=by simpa using z
  rw[e j i (h.trans this.symm)];exact f);simp[h,this]
 .simpa[h]using f6 e a b c.2
theorem afq{p q r:Nat->Bool}:∀a:List Nat,(∀j∈a,p j=true\/q j=true\/r j=true)->a.length<=(a.filter p).length+(a.filter q).length+(a.filter r).length
|[],_=>by simp|j::a,h=>by
 have e:=afq a λi c=>h i (agw _ c);have b:=h j agD;have l:∀f:Nat->Bool,(a.filter f).length<=((j::a).filter f).length:=λf=>by rw[aiD];split<;>simp
 have d:=l p;have g:=l q;have k:=l r;rw[agJ];rcases b with b|b|b
 .have:((j::a).filter p).length=(a.filter p).length+1:=by rw[aiD,ago b,agJ]
  omega
 .have:((j::a).filter q).length=(a.filter q).length+1:=by rw[aiD,ago b,agJ]
  omega
 .have:((j::a).filter r).length=(a.filter r).length+1:=by rw[aiD,ago b,agJ]
  omega
theorem pig{c:Type}[DecidableEq c]{g h:Nat->c}(m:∀i j,g i=g j->i=j)(f:∀i j,h i=h j->i=j):∀(l:List c)(b:List Nat),b.Nodup->(∀j∈b,g j∈l\/h j∈l)->b.length<=2*l.length
|[],b,_,hj=>by cases b with|nil=>simp|cons j b=>rcases hj j agD with z|z<;>cases z
|a::l,b,nd,hj=>by
 have u:=pig m f l (b.filter λj=>decide (g j≠a)&&decide (h j≠a)) (nd.filter _) λj e=>by
  obtain⟨n,d⟩:=ahe.mp e;simp only[agE,agZ]at d;rcases hj j n with z|z;.exact .inl ((ags.mp z).resolve_left d.1)
  .exact .inr ((ags.mp z).resolve_left d.2)
 have s:=f6 m a b nd;have t:=f6 f a b nd;have v:=afq (p:=λj=>decide (g j≠a)&&decide (h j≠a)) (q:=λj=>decide (g j=a)) (r:=λj=>decide (h j=a)) b λj _=>by
  by_cases k:g j=a;.simp[k]
  .by_cases o:h j=a<;>simp[k,o]
 rw[agJ];omega
def kj(a b:Nat):iU (.int a) (.int b)=decide (a=b):=by show((a:Int)==(b:Int))=_;rw[ag7];simp only[ah0,agZ];omega
theorem nk(k:Nat):∀b:List Nat,zJ (.int k) (nW b)=decide (k∈b)
|[]=>rfl|a::b=>by
 have c:=nk k b;unfold zJ at c⊢;show(iU (.int a) (.int k)||(nW b).any _)=_;rw[c,kj,ag7];simp only[aiH,agZ,ags];constructor
 .rintro(h|h);.exact .inl h.symm
  .exact .inr h
 .rintro(h|h);.exact .inl h.symm
  .exact .inr h
theorem tN{k:Nat}:∀(ks:List Nat)(vs:List W),ks.length=vs.length->k∈ks->kE (.int k) (nW ks) vs=vs[ks.idxOf k]?
|[],_,_,h=>by cases h|a::ks,[],hl,_=>by cases hl|a::ks,v::vs,hl,h=>by
 show(if iU (.int a) (.int k)=true then some v else kE (.int k) (nW ks) vs)=_;rw[kj];by_cases e:a=k;.subst e;simp[List.idxOf_cons_self]
 .have b:k∈ks:=(ags.mp h).resolve_left λz=>e z.symm;rw[agq (by simpa using e),tN ks vs (by simpa using hl) b,List.idxOf_cons,show(a==k)=false by simpa using e];rfl
theorem oF{k:Nat}{v:W}:∀(ks:List Nat)(vs:List W),ks.Nodup->ks.length=vs.length->k∈ks->l5 (.int k) v (nW ks) vs=vs.set (ks.idxOf k) v
|[],_,_,_,h=>by cases h|a::ks,[],_,c,_=>by cases c|a::ks,u::vs,d,c,h=>by
 have d:=ag1.mp d;have out:∀(ks:List Nat)(vs:List W),k∉ks->ks.length=vs.length->l5 (.int k) v (nW ks) vs=vs:=λks=>by induction ks with
 |nil=>intro vs _ c;cases vs with|nil=>rfl|cons _ _=>cases c
 |cons b ks ih=>intro vs f c;cases vs with|nil=>cases c|cons u vs=>show(if iU (.int b) (.int k)=true then v else u)::l5 (.int k) v (nW ks) vs=_;rw[kj,agq (by simpa using λz=>f (by simp[z])),ih vs (λz=>f (agw _ z)) (by simpa using c)]
 show(if iU (.int a) (.int k)=true then v else u)::l5 (.int k) v (nW ks) vs=_;rw[kj];by_cases e:a=k;.subst e;rw[ago (by simp),out ks vs d.1 (by simpa using c)];simp[List.idxOf_cons_self]
 .have g:k∈ks:=(ags.mp h).resolve_left λz=>e z.symm;rw[agq (by simpa using e),oF ks vs d.2 (by simpa using c) g,List.idxOf_cons,show(a==k)=false by simpa using e];rfl
noncomputable def yJ(y d:Int)(j:Nat):Int:=y+j*d
def lft(x y c:Int):S3:=bsd (x,y,c) (-1)
def rgt(x y c:Int):S3:=bsd (x,y,c) 1
def gB{x y a c n:Int}(h:ar (bsd (x,y,c) n)=ar (bsd (x,a,c) n)):y=a:=by
 simp only[bsd,ar,sfp]at h;split at h;.simp only[ag2]at h;omega
 .split at h;.simp only[ag2]at h;omega
  .split at h<;>(simp only[ag2]at h;omega)
def ael(x y c:Int):ar (lft x y c)≠ar (rgt x y c):=by
 intro h;simp only[lft,rgt,bsd,ar,sfp]at h;split at h;.simp only[ag2]at h;omega
 .split at h;.simp only[ag2]at h;omega
  .split at h<;>(simp only[ag2]at h;omega)
def zQ(a:List (Int×Int))(x y c d:Int)(j:Nat):Bool:=decide (ar (lft x (yJ y d j) c)∈a)||decide (ar (rgt x (yJ y d j) c)∈a)
def ab6(a:List (Int×Int))(hs:a.length<=6)(x y c d:Int)(k:d=1\/d=-1):∃j,j<=12/\zQ a x y c d j=false:=by
 apply ahR;intro l;have b:∀i j:Nat,yJ y d i=yJ y d j->i=j:=λi j h=>by unfold yJ at h;rcases k with rfl|rfl<;>omega
 have:=pig (g:=λj=>ar (lft x (yJ y d j) c)) (h:=λj=>ar (rgt x (yJ y d j) c)) (λi j h=>b i j (gB h)) (λi j h=>b i j (gB h)) a (List.range 13) ahF λj f=>by
  have m:zQ a x y c d j=true:=by cases e:zQ a x y c d j with|true=>rfl|false=>exact(l ⟨j,by have:=agB.mp f;omega,e⟩).elim
  simpa[zQ]using m
 rw[ahP]at this;omega
def twoW(x y c:Int):W:=.lst [stW (lft x y c),stW (rgt x y c)]
def two_0(x y c:Int):oIx (twoW x y c) (.int 0)=.ok (stW (lft x y c)):=rfl
def two_1(x y c:Int):oIx (twoW x y c) (.int 1)=.ok (stW (rgt x y c)):=rfl
def px(x y c:Int)(h:Fac (x,y,c)):bG [.int x,.int y,.int c]=.ok (twoW x y c):=nh x y c h
def jd{a:List Nat}(c:a.Nodup){m:Nat}(h:m<a.length):a[m]∉a.take m:=λz=>by
 obtain⟨j,b,e⟩:=List.getElem_of_mem z;rw[List.getElem_take]at e;have d:j<m:=by simp at b;omega
 have:=(List.getElem_inj c).mp e;omega
noncomputable def byD(a:List Nat)(T:List S3):List S3:=(List.range 8).map λd=>T.getD (a.idxOf d) (0,0,0)
def xM{a:List Nat}(P:a.Perm (List.range 8)){T:List S3}(f:T.length=8){d:Nat}(g:d<8):qy (.dic (nW a) (T.map stW)) (.int d)=.ok (stW (T.getD (a.idxOf d) (0,0,0))):=by
 have c:d∈a:=P.mem_iff.mpr (agB.mpr g);have e:a.length=8:=P.length_eq;have b:a.idxOf d<T.length:=by have:=ahv c;omega
 show(if sU (.int d)=true then ofO (kE (.int d) (nW a) (T.map stW))else .bad)=_;rw[ago (show sU (.int d)=true from rfl),tN a _ (by simp[e,f]) c,agT,agH b,agC,agH b];rfl
def zm{c:List Nat}{a b:Nat}(d:a∈c)(f:b∈c)(h:c.idxOf a=c.idxOf b):a=b:=by have g:=List.getElem_idxOf (ahv d);have e:=List.getElem_idxOf (ahv f);rw[<-g,<-e];congr 1
def wN{c:List Nat}(P:c.Perm (List.range 8)){T:List S3}(q:T.length=8)(j:∀p∈T,Fac p)(k:bK T):Fl (byD c T)/\bK (byD c T):=by
 have i:∀d,d<8->d∈c:=λd f=>P.mem_iff.mpr (agB.mpr f);have o:c.length=8:=P.length_eq;have h:∀d,d<8->c.idxOf d<T.length:=λd f=>by have:=ahv (i d f);omega
 refine⟨⟨by simp[byD],λp m=>?_⟩,kL λa b n l=>?_⟩;.obtain⟨d,f,rfl⟩:=agM.mp m;exact gW j (h d (agB.mp f))
 .have e:b<8:=by simpa[byD]using l
  have g:∀d,d<8->(byD c T).getD d (0,0,0)=T.getD (c.idxOf d) (0,0,0):=λd f=>by unfold byD;rw[agC,agT,ahq f];rfl
  rw[g a (by omega),g b e];intro z;have:=zm (i a (by omega)) (i b e) (two_at k (h a (by omega)) (h b e) z);omega
def vp{T:List S3}(i:∀p∈T,Fac p)(k:bK T){j:Nat}(m:j<T.length){p:S3}(l:Fac p)(hs:ar p=ar (T.getD j (0,0,0))):(∀q∈T.set j p,Fac q)/\bK (T.set j p):=by
 refine⟨λq n=>?_,kL λa b f c=>?_⟩
 .rcases List.mem_or_eq_of_mem_set n with h|e;.exact i q h
  .rw[e];exact l
 .rw[List.length_set]at c;have g:∀d,d<T.length->ar ((T.set j p).getD d (0,0,0))=ar (T.getD d (0,0,0)):=λd o=>by
   by_cases e:j=d;.subst e;rw[agC,agr m];exact hs
   .rw[agC,agn e,<-agC]
  rw[g a (by omega),g b c];exact pA k f c
def uz(ns:List Int)(k:Int)(a:0<=k):aP [.lst (ns.map .int),.int k]=.ok (.int (ns.getD k.toNat 0)):=by obtain⟨n,rfl⟩:∃n:Nat,k=n:=⟨k.toNat,by omega⟩;by_cases h:n<ns.length<;>simp[aP,cZ,h,eZ]
open PySem.W(KasT kas_sort kas_rev kas_asc kas_desc kas_tail3 kas_descPart kas_count kas_place kas_bin)
def kO{b:Type}(n:Nat)(P:b->Prop):KasT b->Prop|.ret a=>P a|.ask i j k=>i<n/\j<n/\kO n P (k true)/\kO n P (k false)
theorem kO.bind{b c:Type}{n:Nat}{P:b->Prop}{Q:c->Prop}{f:b->KasT c}:∀{t:KasT b},kO n P t->(∀a,P a->kO n Q (f a))->kO n Q (t.bind f)|.ret a,h,hf=>hf a h|.ask i j k,⟨h1,h2,h3,h4⟩,hf=>⟨h1,h2,kO.bind h3 hf,kO.bind h4 hf⟩
abbrev Pm(n:Nat)(p:Array Nat):Prop:=p.toList.Perm (List.range n)
def Pm.lt{n:Nat}{p:Array Nat}(h:Pm n p)(a:0<n)(i:Nat):p.getD i 0<n:=by
 unfold Array.getD;split;.rename_i b;exact agB.mp (h.mem_iff.mp (by simp))
 .exact a
def Pm.rev{n:Nat}{p:Array Nat}(h:Pm n p)(i j:Nat):Pm n (kas_rev p i j):=(PyProof.Rows.mirror_perm _ _ _ _).toList.trans h
theorem nV{n:Nat}{p:Array Nat}(h:Pm n p)(a:0<n):∀f m,kO n (λ_=>True) (kas_asc p f m)|0,_=>trivial|f+1,m=>⟨h.lt a _,h.lt a _,trivial,nV h a f (m+1)⟩
theorem gY{n:Nat}(a:0<n):∀f(p:Array Nat)m q,Pm n p->kO n (λr=>Pm n r.1) (kas_desc f p m q)
|0,_,_,_,h=>h|f+1,p,m,q,h=>by
 refine⟨h.lt a _,h.lt a _,?_,h.lt a _,h.lt a _,h,gY a f p (m+1) (q+1) h⟩;show kO n _ (if q>0 then _ else _);split;.exact gY a f _ _ _ (h.rev _ _)
 .exact gY a f _ _ _ h
def lb{n:Nat}(a:0<n){p:Array Nat}(h:Pm n p)(m r:Nat):kO n (λr=>Pm n r.2) (kas_tail3 m r p):=(nV (h.rev 0 m) a _ _).bind λ_ _=>h.rev 0 m
def gA{n:Nat}(b:0<n){p:Array Nat}(h:Pm n p)(m r:Nat):kO n (λr=>Pm n r.2) (kas_descPart m r p):=(gY b _ p _ _ h).bind λa c=>by
 split;.exact lb b (c.rev _ _) _ _
 .exact lb b c _ _
def uu{n:Nat}(b:0<n){p:Array Nat}(h:Pm n p)(r:Nat):kO n (λr=>Pm n r.2) (kas_count r p):=(nV h b _ _).bind λa _=>by
 split;.exact h
 .split;.exact⟨h.lt b _,h.lt b _,h,gA b (h.rev 0 a) _ _⟩
  .exact gA b h _ _
theorem iI{n:Nat}(a:0<n){p:Array Nat}(h:Pm n p)(k:Nat):∀f l r,kO n (λ_=>True) (kas_place p k f l r)
|0,_,_=>trivial|f+1,l,r=>by
 unfold kas_place;split;.trivial
 .exact⟨h.lt a _,h.lt a _,iI a h k f _ _,iI a h k f _ _⟩
theorem uK{n:Nat}(a:0<n):∀f(p:Array Nat)k,Pm n p->kO n (Pm n) (kas_bin f p k)|0,_,_,h=>h|f+1,p,k,h=>(iI a h k _ _ _).bind λl _=>uK a f _ _ ((PyProof.Rows.bubble_perm _ _ _).toList.trans h)
def ot{n:Nat}(b:0<n):kO n (Pm n) (kas_sort n):=(uu b (List.Perm.refl _) _).bind λr a=>by
 split;.exact uK b _ _ _ a
 .exact a
theorem uM{n:Nat}:∀{t:KasT (Array Nat)},kO n (Pm n) t->okT n t=true|.ret p,h=>by have h:Pm n p:=h;have:=h.length_eq;simp at this;simp[okT,this]|.ask i j k,⟨h1,h2,h3,h4⟩=>by simp[okT,h1,h2,uM h3,uM h4]
theorem nZ{n:Nat}{c:Nat->Nat->Bool}:∀{t:KasT (Array Nat)},kO n (Pm n) t->Pm n (vt c t)
|.ret p,h=>h|.ask i j k,⟨_,_,h3,h4⟩=>by
 show Pm n (vt c (k (c i j)));cases c i j;.exact nZ h4
 .exact nZ h3
def fv(c k:Int)(d:0<=k)(a:k<100000):∃z,aD [.int c,.int k]=.ok (.int z)/\0<=z/\z<2147483587:=by
 have i:0<=k*k:=Int.mul_nonneg d d;have g:k*k<100000*100000:=by have:=Int.mul_lt_mul' (Int.le_of_lt a) a d (by decide);exact this
 have e:7919*k*k=7919*(k*k):=Int.mul_assoc _ _ _;have f:=Int.emod_nonneg c (b:=1000003) (by decide);have h:=Int.emod_lt_of_pos c (b:=1000003) (by decide);simp(disch:=omega)[aD,eQ,List.replicate,oN,sj];omega
def vn(f:List W->Res W)(n:Nat)(g:0<n)(k c:Int)(σ:Ws)(e:EF)(l:e σ=.ok (.int c))(h:okK f c k n=true):∃a:List Nat,fD f n k e σ=.ok (.lst (nW a))/\a.Perm (List.range n):=by
 have j:((List.range n).map λi=>(gK f c k i,(i:Int))).length=n:=by simp
 have d:(ixs ((List.range n).map λi=>(gK f c k i,(i:Int)))).Perm (List.range n):=by unfold ixs;rw[j];exact nZ (ot g)
 refine⟨_,?_,d⟩;unfold fD;rw[l];show(if(okK f c k n&&okT n (kas_sort n))=true then Res.ok (W.lst (abY (gK f c k) n))else Res.bad)=_;rw[h,uM (ot g),ago (by rfl)];unfold abY;congr 2;unfold nW;refine List.map_congr_left λi b=>?_;have b:i<n:=agB.mp (d.mem_iff.mp b);rw[agC,agT,ahq b];rfl
def order_eq(c:Int)(σ:Ws)(e:EF)(d:e σ=.ok (.int c)):∃a:List Nat,fD aD 8 60 e σ=.ok (.lst (nW a))/\a.Perm (List.range 8):=vn aD 8 (by decide) 60 c σ e d (ag3.mpr λi b=>by have b:=agB.mp b;obtain⟨z,e,_⟩:=fv c (60+i) (by omega) (by omega);rw[e])
def aep(h g k e l r o s m d b:Sl)(a:List (Int×Int))(x y c:Int):bo [h,g,k,.va (.lst (a.map spW)),e,l,r,o,s,m,d,.va (twoW x y c),b]=.ok (decide (ar (lft x y c)∈a)||decide (ar (rgt x y c)∈a)):=by have j:=two_0 x y c;have i:=two_1 x y c;have n:=xH (ar (lft x y c)) a;have f:=xH (ar (rgt x y c)) a;have u:=f9 (lft x y c);have t:=f9 (rgt x y c);generalize twoW x y c=T at *;generalize W.lst (a.map spW)=SS at *;generalize lft x y c=p at *;generalize rgt x y c=q at *;by_cases z:ar p∈a<;>simp[bo,j,i,n,f,z]
def aeq(h k m g l q o e b:Sl)(f x y c d:Int)(r:Fac (x,y,c))(a:oIx (.lst [.int 1,.int (-1)]) (.int (if f<0 then 1 else 0))=.ok (.int d)):aZ [h,.va (.int f),k,m,g,l,q,o,.va (.int x),.va (.int y),e,.va (twoW x y c),b]=.nx [h,.va (.int f),k,m,g,l,q,o,.va (.int x),.va (.int (y+d)),e,.va (twoW x (y+d) c),b]:=by
 have j:=two_0 x y c;have i:oIx (stW (lft x y c)) (.int 2)=.ok (.int c):=rfl;have n:=px x (y+d) c r;generalize twoW x (y+d) c=T' at *;generalize twoW x y c=T at *;generalize stW (lft x y c)=p at *;by_cases z:f<0;.rw[ago z]at a;simp at a;subst a;simp[aZ,z,j,i,n]
 .rw[agq z]at a;simp at a;subst a;simp[aZ,z,j,i,n]
def rM(a:List Nat)(g:a.Nodup){m:Nat}(c:m<a.length)(i:a.length=8)(vs:List W)(v:W)(A:Ws):putD 4 (nW (a.take m)) vs (.int (a[m]:Nat)) v A=.nx (A.set 4 (.od (nW (a.take (m+1))) (vs++[v]))):=by
 have h:=nk a[m] (a.take m);rw[agX (jd g c)]at h;have f:sU (.int (a[m]:Nat))=true:=rfl;have b:(nW (a.take m)).length<lim:=by simp[nW,lim];omega
 have d:nW (a.take (m+1))=nW (a.take m)++[.int (a[m]:Nat)]:=by
  have e:a.take (m+1)=a.take m++[a[m]]:=by rw[List.take_succ,agH c];rfl
  rw[e];unfold nW;rw[aih];rfl
 unfold putD putK aa2;rw[h,ago ⟨f,b⟩,d];rfl
def tT:SF:=aN (bj 3 (eOp cu (ak 3) (fE (ae (eSl (eOp oIx (ak 11) (eC (.int 0))) pNo (eB (eC (.int 2)))) (ae (eSl (eOp oIx (ak 11) (eC (.int 1))) pNo (eB (eC (.int 2)))) ax))))) (aN (jZ 4 (eOp oIx (ak 11) (eC (.int 0))) (eOp oIx (ak 2) (eOp eW (eC (.int 2)) (ak 6)))) (jZ 4 (eOp oIx (ak 11) (eC (.int 1))) (eOp oIx (ak 2) (eOp cu (eOp eW (eC (.int 2)) (ak 6)) (eC (.int 1))))))
def ku:SF:=sIf (tB (eOp oEq (eOp oMod (ak 5) (eC (.int 8))) (eC (.int 1)))) (aN (bj 10 (eOp oMod (eOp oDiv (ak 5) (eC (.int 8))) (eC (.int 4)))) (xt (aG bF (ae (eF (ae (ak 1) (ae (eOp jy (eC (.int 0)) (ak 1)) (ae (ak 10) ax)))) (ae (eC (.int 0)) (ae (eOp jy (eOp eW (eC (.int 4)) (ak 6)) (eC (.int 6))) ax)))) (mq (bA (aA 8) (bA (aA 9) mr))))) sNx
def wo:aT=aN (bj 7 (aG aD (ae (ak 0) (ae (eOp cu (eC (.int 70)) (ak 6)) ax)))) (aN (bj 8 (eOp cu (eOp cu (eOp jy (eOp eW (eOp oMod (ak 7) (eC (.int 3))) (eC (.int 4))) (eC (.int 4))) (eOp oDiv (eOp oMod (eOp oDiv (ak 7) (eC (.int 3))) (eC (.int 4))) (eC (.int 3)))) (ak 1))) (aN (bj 9 (eOp jy (eOp jy (eOp oMod (eOp oDiv (ak 7) (eC (.int 12))) (eC (.int 5))) (eC (.int 2))) (ak 1))) (aN (bj 10 (eOp oIx (fE (ae (eOp oMod (eOp oDiv (ak 7) (eC (.int 60))) (eC (.int 4))) (ae (eC (.int 0)) (ae (eOp eW (eOp oMod (eOp oDiv (ak 7) (eC (.int 60))) (eC (.int 2))) (eC (.int 2))) ax)))) (eOp oMod (eOp oDiv (ak 7) (eC (.int 240))) (eC (.int 3))))) (aN ku (aN (bj 11 (aG bG (ae (ak 8) (ae (ak 9) (ae (ak 10) ax))))) (aN (jv dh bo aZ) tT)))))):=rfl
def y8(j m o g q f d:Sl)(a b x y c:Int)(r:0<=c/\c<4)(i:Nat)(s:i<4):∃l n p:Int,Fac (l,n,p)/\ku [j,.va (.int a),m,o,g,.va (.int b),.va (.int i),q,.va (.int x),.va (.int y),.va (.int c),f,d]=.nx [j,.va (.int a),m,o,g,.va (.int b),.va (.int i),q,.va (.int l),.va (.int n),.va (.int p),f,d]:=by
 by_cases h:b%8=1
 .have k:Fac (a,0-a,b/8%4):=by unfold Fac;simp only;omega
  have e:=di (a,0-a,b/8%4) k 0 (4*(i:Int)-6);generalize sfp (a,0-a,b/8%4) 0 (4*(i:Int)-6)=P at *;refine⟨P.1,P.2,b/8%4,k,?_⟩;simp only[stW,spW]at e;simp at e;simp(disch:=omega)[ku,h,oN,e]
 .exact⟨x,y,c,r,by simp[ku,h]⟩
def ace(l k o t u r f e:Sl)(d:List Nat)(n:d.Nodup)(s:d.length=8)(i:Nat)(J:i<4)(T:List S3)(M:T.length=2*i)(x y c:Int):tT [l,k,.va (.lst (nW d)),.va (.lst ((T.map ar).map spW)),.od (nW (d.take (2*i))) (T.map stW),o,.va (.int i),t,u,r,f,.va (twoW x y c),e]=.nx [l,k,.va (.lst (nW d)),.va (.lst (((T++[lft x y c,rgt x y c]).map ar).map spW)),.od (nW (d.take (2*(i+1)))) ((T++[lft x y c,rgt x y c]).map stW),o,.va (.int i),t,u,r,f,.va (twoW x y c),e]:=by
 have C:=two_0 x y c;have B:=two_1 x y c;have N:=f9 (lft x y c);have K:=f9 (rgt x y c);have g:=oU d (i:=2*i) (by omega);have j:=oU d (i:=2*i+1) (by omega);have G:d.getD (2*i) 0=d[2*i]:=by rw[agC,agH (by omega)];rfl
 have w:d.getD (2*i+1) 0=d[2*i+1]:=by rw[agC,agH (by omega)];rfl
 rw[G]at g;rw[w]at j;have I:=λh v A=>rM d n (m:=2*i) (by omega) s h v A;have H:=λh v A=>rM d n (m:=2*i+1) (by omega) s h v A;rw[show 2*(i+1)=2*i+1+1 by omega];have D:((T++[lft x y c,rgt x y c]).map ar).map spW=(T.map ar).map spW++[spW (ar (lft x y c)),spW (ar (rgt x y c))]:=by simp
 have E:(T++[lft x y c,rgt x y c]).map stW=T.map stW++[stW (lft x y c)]++[stW (rgt x y c)]:=by simp
 have z:((T.map ar).map spW).length+2<=1000000:=by simp;omega
 rw[D,E];rw[show((2*i+1:Nat):Int)=2*(i:Int)+1 by omega]at j;rw[show((2*i:Nat):Int)=2*(i:Int)by omega]at g;generalize twoW x y c=TW at *;generalize W.lst (nW d)=OR at *;generalize(T.map ar).map spW=SS at *;generalize T.map stW=TS at *;generalize nW (d.take (2*i))=K0 at *;generalize nW (d.take (2*i+1))=K1 at *;generalize nW (d.take (2*i+1+1))=K2 at *;generalize lft x y c=p at *;generalize rgt x y c=q at *;generalize(d[2*i]:Nat)=a at *;generalize(d[2*i+1]:Nat)=b at *;simp(disch:=omega)[tT,C,B,z,jZ,oN,g,j,I,H]
def aeB(k f l:Int)(a:List Nat)(O:a.Nodup)(X:a.length=8)(i:Nat)(G:i<4)(T:List S3)(Y:T.length=2*i)(H E D t g e:Sl):∃(x y c:Int)(P K J u A:Sl),aT [.va (.int k),.va (.int f),.va (.lst (nW a)),.va (.lst ((T.map ar).map spW)),.od (nW (a.take (2*i))) (T.map stW),.va (.int l),.va (.int i),H,E,D,t,g,e]=.nx [.va (.int k),.va (.int f),.va (.lst (nW a)),.va (.lst (((T++[lft x y c,rgt x y c]).map ar).map spW)),.od (nW (a.take (2*(i+1)))) ((T++[lft x y c,rgt x y c]).map stW),.va (.int l),.va (.int i),P,K,J,u,A,e]/\Fac (x,y,c)/\ar (lft x y c)∉T.map ar/\ar (rgt x y c)∉T.map ar:=by
 obtain⟨z,Z,z0,z1⟩:=fv k (70+i) (by omega) (by omega);obtain⟨o,p,a4,U⟩:∃o:Int,oIx (.lst [.int (z/60%4),.int 0,.int (z/60%2*2)]) (.int (z/240%3))=.ok (.int o)/\0<=o/\o<4:=by
  have:z/240%3=0\/z/240%3=1\/z/240%3=2:=by omega
  rcases this with h|h|h<;>rw[h]<;>simp<;>omega
 obtain⟨x,y,c,B,m⟩:=y8 (.va (.int k)) (.va (.lst (nW a))) (.va (.lst ((T.map ar).map spW))) (.od (nW (a.take (2*i))) (T.map stW)) (.va (.int z)) g e f l (z%3*4-4+z/3%4/3+f) (z/12%5-2-f) o ⟨a4,U⟩ i G;obtain⟨d,I,hd1⟩:∃d:Int,oIx (.lst [.int 1,.int (-1)]) (.int (if f<0 then 1 else 0))=.ok (.int d)/\(d=1\/d=-1):=by
  by_cases z:f<0;.exact⟨-1,by rw[ago z];rfl,.inr rfl⟩
  .exact⟨1,by rw[agq z];rfl,.inl rfl⟩
 have Q:=px x y c B;obtain⟨M,C,s⟩:=ab6 (T.map ar) (by simp;omega) x y c d hd1;obtain⟨j,q,hw⟩:=jh (c:=bo) (b:=aZ) (S:=λj=>[.va (.int k),.va (.int f),.va (.lst (nW a)),.va (.lst ((T.map ar).map spW)),.od (nW (a.take (2*i))) (T.map stW),.va (.int l),.va (.int i),.va (.int z),.va (.int x),.va (.int (yJ y d j)),.va (.int c),.va (twoW x (yJ y d j) c),e]) (bad:=zQ (T.map ar) x y c d) (λn=>aep _ _ _ _ _ _ _ _ _ _ _ (T.map ar) x (yJ y d n) c) λn=>by have:=aeq (.va (.int k)) (.va (.lst (nW a))) (.va (.lst ((T.map ar).map spW))) (.od (nW (a.take (2*i))) (T.map stW)) (.va (.int l)) (.va (.int i)) (.va (.int z)) (.va (.int c)) e f x (yJ y d n) c d B I;rw[show yJ y d (n+1)=yJ y d n+d by unfold yJ;rcases hd1 with rfl|rfl<;>omega];exact this
  12 0 ⟨M,C,by rw[aja];exact s⟩ 200 (by decide);rw[aja]at q hw;have N:yJ y d 0=y:=by simp[yJ]
 rw[N]at hw;have r:=ace (.va (.int k)) (.va (.int f)) (.va (.int l)) (.va (.int z)) (.va (.int x)) (.va (.int (yJ y d j))) (.va (.int c)) e a O X i G T Y x (yJ y d j) c;refine⟨x,yJ y d j,c,.va (.int z),.va (.int x),.va (.int (yJ y d j)),.va (.int c),.va (twoW x (yJ y d j) c),?_,B,?_,?_⟩
 .rw[wo];have w:∀R:SF,(aN (bj 7 (aG aD (ae (ak 0) (ae (eOp cu (eC (.int 70)) (ak 6)) ax)))) (aN (bj 8 (eOp cu (eOp cu (eOp jy (eOp eW (eOp oMod (ak 7) (eC (.int 3))) (eC (.int 4))) (eC (.int 4))) (eOp oDiv (eOp oMod (eOp oDiv (ak 7) (eC (.int 3))) (eC (.int 4))) (eC (.int 3)))) (ak 1))) (aN (bj 9 (eOp jy (eOp jy (eOp oMod (eOp oDiv (ak 7) (eC (.int 12))) (eC (.int 5))) (eC (.int 2))) (ak 1))) (aN (bj 10 (eOp oIx (fE (ae (eOp oMod (eOp oDiv (ak 7) (eC (.int 60))) (eC (.int 4))) (ae (eC (.int 0)) (ae (eOp eW (eOp oMod (eOp oDiv (ak 7) (eC (.int 60))) (eC (.int 2))) (eC (.int 2))) ax)))) (eOp oMod (eOp oDiv (ak 7) (eC (.int 240))) (eC (.int 3))))) R)))) [.va (.int k),.va (.int f),.va (.lst (nW a)),.va (.lst ((T.map ar).map spW)),.od (nW (a.take (2*i))) (T.map stW),.va (.int l),.va (.int i),H,E,D,t,g,e]=R [.va (.int k),.va (.int f),.va (.lst (nW a)),.va (.lst ((T.map ar).map spW)),.od (nW (a.take (2*i))) (T.map stW),.va (.int l),.va (.int i),.va (.int z),.va (.int (z%3*4-4+z/3%4/3+f)),.va (.int (z/12%5-2-f)),.va (.int o),g,e]:=λR=>by generalize W.lst (nW a)=OR at *;generalize W.lst ((T.map ar).map spW)=SS at *;generalize T.map stW=TS at *;generalize nW (a.take (2*i))=K0 at *;simp at p;simp(disch:=omega)[Z,sj,p]
  rw[w,fW,m,dG,fW];have v:bj 11 (aG bG (ae (ak 8) (ae (ak 9) (ae (ak 10) ax)))) [.va (.int k),.va (.int f),.va (.lst (nW a)),.va (.lst ((T.map ar).map spW)),.od (nW (a.take (2*i))) (T.map stW),.va (.int l),.va (.int i),.va (.int z),.va (.int x),.va (.int y),.va (.int c),g,e]=.nx [.va (.int k),.va (.int f),.va (.lst (nW a)),.va (.lst ((T.map ar).map spW)),.od (nW (a.take (2*i))) (T.map stW),.va (.int l),.va (.int i),.va (.int z),.va (.int x),.va (.int y),.va (.int c),.va (twoW x y c),e]:=by generalize W.lst (nW a)=OR at *;generalize W.lst ((T.map ar).map spW)=SS at *;generalize T.map stW=TS at *;generalize nW (a.take (2*i))=K0 at *;generalize twoW x y c=TW at *;simp[Q]
  rw[v,dG,fW,ly,show dh _=200 from rfl,hw,dG,r]
 .simp only[zQ,Bool.or_eq_false_iff,decide_eq_false_iff_not]at q;exact q.1
 .simp only[zQ,Bool.or_eq_false_iff,decide_eq_false_iff_not]at q;exact q.2
def j0(n:Nat):(rng 0 n).length=n:=by simp[rng]
def zz(v t s:Int)(a:List Nat)(Q:a.Nodup)(S:a.length=8):∃(T:List S3)(u n l k d f:Sl),forL (aA 6) aT (rng 0 4) [.va (.int v),.va (.int t),.va (.lst (nW a)),.va (.lst []),.od [] [],.va (.int s),.no,.no,.no,.no,.no,.no,.no]=.nx [.va (.int v),.va (.int t),.va (.lst (nW a)),.va (.lst ((T.map ar).map spW)),.od (nW a) (T.map stW),.va (.int s),u,n,l,k,d,f,.no]/\
 T.length=8/\(∀p∈T,Fac p)/\bK T:=by obtain⟨A,e,E⟩:=nq (g:=aA 6) (b:=aT) (xs:=rng 0 4) (λi A=>i<=4->∃(T:List S3)(u n l k d f:Sl),A=[.va (.int v),.va (.int t),.va (.lst (nW a)),.va (.lst ((T.map ar).map spW)),.od (nW (a.take (2*i))) (T.map stW),.va (.int s),u,n,l,k,d,f,.no]/\T.length=2*i/\(∀p∈T,Fac p)/\bK T) (σ:=[.va (.int v),.va (.int t),.va (.lst (nW a)),.va (.lst []),.od [] [],.va (.int s),.no,.no,.no,.no,.no,.no,.no]) (λ_=>⟨[],.no,.no,.no,.no,.no,.no,rfl,rfl,λ_ h=>(by cases h),.nil⟩) (by
   intro i w σ hw h;obtain⟨N,rfl⟩:=rK _ _ _ _ hw;obtain⟨T,u,n,l,k,d,f,rfl,B,o,r⟩:=h (by omega);obtain⟨x,y,c,I,U,J,C,D,R,H,O,M⟩:=aeB v t s a Q S i N T B n l k d f .no;refine⟨[.va (.int v),.va (.int t),.va (.lst (nW a)),.va (.lst ((T.map ar).map spW)),.od (nW (a.take (2*i))) (T.map stW),.va (.int s),.va (.int (0+(i:Nat))),n,l,k,d,f,.no],rfl,_,by rw[aiL];exact R,λ_=>⟨T++[lft x y c,rgt x y c],_,I,U,J,C,D,rfl,by simp[B];omega,λp h=>?_,?_⟩⟩
   .rcases ahr.mp h with h|h;.exact o p h
    .simp at h;rcases h with rfl|rfl;.exact uI H _
     .exact uI H _
   .have m:∀q∈T,ar q∈T.map ar:=λq j=>ahV j;have P:=ft r (x:=lft x y c) λq j z=>O (z▸m q j);have G:=ft P (x:=rgt x y c) λq j z=>by
     rcases ahr.mp j with j|j;.exact M (z▸m q j)
     .rw[ag9.mp j]at z;exact ael x y c z
    rw[List.append_assoc]at G;exact G);rw[j0]at E;obtain⟨T,u,n,l,k,d,f,rfl,B,o,r⟩:=E (agx _);have K:a.take (2*4)=a:=List.take_of_length_le (by omega);rw[K]at e;exact⟨T,u,n,l,k,d,f,e,B,o,r⟩
def o9:SF:=sIf (tB (eOp oEq (eOp oMod (ak 12) (eC (.int 6))) (eC (.int 1)))) (aN (xt (aac 4 (eOp qy (ak 4) (eOp oMod (eOp oDiv (ak 12) (eC (.int 6))) (eC (.int 8))))) (mq (bA (aA 8) (bA (aA 9) (bA (aA 10) mr))))) (jZ 4 (eF (ae (ak 8) (ae (ak 9) (ae (eOp oMod (eOp cu (eOp cu (ak 10) (eC (.int 1))) (eOp oMod (eOp oDiv (ak 12) (eC (.int 48))) (eC (.int 3)))) (eC (.int 4))) ax)))) (eOp oMod (eOp oDiv (ak 12) (eC (.int 6))) (eC (.int 8))))) sNx
def abA(z:Int){a:List Nat}(P:a.Perm (List.range 8)){T:List S3}(l:T.length=8)(q:∀p∈T,Fac p)(g:bK T)(C B u G w x H I E e c:Sl):∃(j:List S3)(S Q m:Sl),o9 [C,B,u,G,.od (nW a) (T.map stW),w,x,H,I,E,e,c,.va (.int z)]=.nx [C,B,u,G,.od (nW a) (j.map stW),w,x,H,S,Q,m,c,.va (.int z)]/\j.length=8/\(∀p∈j,Fac p)/\bK j:=by
 by_cases s:z%6=1
 .obtain⟨d,R⟩:∃d:Nat,z/6%8=d:=⟨(z/6%8).toNat,by omega⟩;have t:d<8:=by omega
  have r:d∈a:=P.mem_iff.mpr (agB.mpr t);have f:a.length=8:=P.length_eq;have y:a.idxOf d<T.length:=by have:=ahv r;omega
  have n:=xM P l t;have X:=gW q y;obtain⟨p,D⟩:∃p,T.getD (a.idxOf d) (0,0,0)=p:=⟨_,rfl⟩;rw[D]at n X;generalize hr3:z/48%3=r3 at *;have M:Fac (p.1,p.2.1,(p.2.2+1+r3)%4):=⟨by show 0<=(p.2.2+1+r3)%4;omega,by show(p.2.2+1+r3)%4<4;omega⟩;obtain⟨Z,N⟩:=vp q g y M (by rw[D];rfl);have U:a.Nodup:=P.nodup_iff.mpr ahF;have b:=nk d a;rw[ahD r]at b;have i:=oF (k:=d) (v:=stW (p.1,p.2.1,(p.2.2+1+r3)%4)) a (T.map stW) U (by simp[f,l]) r;have h:(nW a).length<1000000:=by simp[nW,f]
  have O:sU (.int d)=true:=rfl;have J:∀A:Ws,putD 4 (nW a) (T.map stW) (.int d) (stW (p.1,p.2.1,(p.2.2+1+r3)%4)) A=.nx (A.set 4 (.od (nW a) ((T.set (a.idxOf d) (p.1,p.2.1,(p.2.2+1+r3)%4)).map stW))):=λA=>by unfold putD putK aa2;rw[b,ago ⟨O,h⟩,i,List.map_set];rfl
  refine⟨T.set (a.idxOf d) (p.1,p.2.1,(p.2.2+1+r3)%4),.va (.int p.1),.va (.int p.2.1),.va (.int p.2.2),?_,by simp[l],Z,N⟩;have Y:stW p=.tup [.int p.1,.int p.2.1,.int p.2.2]:=rfl;have o:stW (p.1,p.2.1,(p.2.2+1+r3)%4)=.tup [.int p.1,.int p.2.1,.int ((p.2.2+1+r3)%4)]:=rfl;rw[Y]at n;rw[o]at J;generalize nW a=K at *;generalize(T.set (a.idxOf d) (p.1,p.2.1,(p.2.2+1+r3)%4)).map stW=V' at *;generalize T.map stW=V at *;simp[o9,s,R,hr3,n,jZ,J]
 .refine⟨T,I,E,e,?_,l,q,g⟩;generalize nW a=K at *;generalize T.map stW=V at *;simp[o9,s]
def wm(b e:Int):∃f,dm [.int b,.int e]=.ok (flW f)/\Fl f/\bK f:=by
 obtain⟨a,eo,l⟩:=order_eq b [.va (.int b),.va (.int e),.no,.no,.no,.no,.no,.no,.no,.no,.no,.no,.no] (ak 0) rfl;obtain⟨i,e2,_⟩:=fv b 82 (by decide) (by decide);obtain⟨z,O,_⟩:=fv b 80 (by decide) (by decide);have nd:a.Nodup:=l.nodup_iff.mpr ahF;have w:a.length=8:=l.length_eq;obtain⟨T,o,q,t,s,h,g,el,hT,u,v⟩:=zz b e i a nd w;obtain⟨c,q8,M,y,N,p,r,k⟩:=abA z l hT u v (.va (.int b)) (.va (.int e)) (.va (.lst (nW a))) (.va (.lst ((T.map ar).map spW))) (.va (.int i)) o q t s h g;obtain⟨P,G2⟩:=wN l p r k;refine⟨byD a c,?_,P,G2⟩;have X:uO 4 (cB (eBi gC (ae (gh 1 (dj (eC (.int 8))) (aA 0) kQ (eOp qy (ak 5) (ak 0))) ax))) [.va (.int b),.va (.int e),.va (.lst (nW a)),.va (.lst ((T.map ar).map spW)),.od (nW a) (c.map stW),.va (.int i),o,q,q8,M,y,g,.va (.int z)]=.rt (flW (byD a c)):=by
  have hc:∀E D A H B C I J G n m j:Sl,cD (aA 0) kQ (eOp qy (ak 5) (ak 0)) [.no,E,D,A,H,.va (.dic (nW a) (c.map stW)),B,C,I,J,G,n,m,j] (rng 0 8)=.ok ((byD a c).map stW):=λE D A H B C I J G n m j=>by unfold byD;rw[aht];refine cz λd Q=>⟨_,rfl,rfl,?_⟩;have:=xM l p (agB.mp Q);rw[aiL];show _=Res.ok (stW (c.getD (a.idxOf d) (0,0,0)));generalize W.dic (nW a) (c.map stW)=DD at *;generalize stW (c.getD (a.idxOf d) (0,0,0))=Z at *;simp[this]
  have hb:(byD a c).length=8:=by simp[byD]
  have x:((byD a c).map stW).length<=1000000:=by simp[hb]
  have U:flW (byD a c)=.tup ((byD a c).map stW):=rfl;rw[U];generalize(byD a c).map stW=R at *;generalize W.lst ((T.map ar).map spW)=S at *;generalize hK:nW a=K at *;generalize hV:c.map stW=V at *;simp[iA,hc,x,List.replicate]
 have split:cY=(aN (bj 2 (fD aD 8 60 (ak 0))) (aN (bj 3 (fE ax)) (aN (rD 4) (aN (bj 5 (aG aD (ae (ak 0) (ae (eC (.int 82)) ax)))) (aN (lA (dj (eC (.int 4))) (aA 6) aT) (aN (bj 12 (aG aD (ae (ak 0) (ae (eC (.int 80)) ax)))) (aN o9 (uO 4 (cB (eBi gC (ae (gh 1 (dj (eC (.int 8))) (aA 0) kQ (eOp qy (ak 5) (ak 0))) ax))))))))))):=rfl;show fin (cY [.va (.int b),.va (.int e),.no,.no,.no,.no,.no,.no,.no,.no,.no,.no,.no])=_;have r1:∀R:SF,(aN (bj 2 (fD aD 8 60 (ak 0))) (aN (bj 3 (fE ax)) (aN (rD 4) (aN (bj 5 (aG aD (ae (ak 0) (ae (eC (.int 82)) ax)))) R)))) [.va (.int b),.va (.int e),.no,.no,.no,.no,.no,.no,.no,.no,.no,.no,.no]=R [.va (.int b),.va (.int e),.va (.lst (nW a)),.va (.lst []),.od [] [],.va (.int i),.no,.no,.no,.no,.no,.no,.no]:=λR=>by generalize fD aD 8 60 (ak 0)=EO at *;generalize W.lst (nW a)=LO at *;simp[eo,rD,e2]
 have r4:lA (dj (eC (.int 4))) (aA 6) aT [.va (.int b),.va (.int e),.va (.lst (nW a)),.va (.lst []),.od [] [],.va (.int i),.no,.no,.no,.no,.no,.no,.no]=.nx [.va (.int b),.va (.int e),.va (.lst (nW a)),.va (.lst ((T.map ar).map spW)),.od (nW a) (T.map stW),.va (.int i),o,q,t,s,h,g,.no]:=by rw[<-el];generalize W.lst (nW a)=LO at *;simp
 have Y:∀R:SF,(aN (bj 12 (aG aD (ae (ak 0) (ae (eC (.int 80)) ax)))) R) [.va (.int b),.va (.int e),.va (.lst (nW a)),.va (.lst ((T.map ar).map spW)),.od (nW a) (T.map stW),.va (.int i),o,q,t,s,h,g,.no]=R [.va (.int b),.va (.int e),.va (.lst (nW a)),.va (.lst ((T.map ar).map spW)),.od (nW a) (T.map stW),.va (.int i),o,q,t,s,h,g,.va (.int z)]:=λR=>by generalize W.lst (nW a)=LO at *;generalize W.lst ((T.map ar).map spW)=S at *;generalize nW a=K at *;generalize T.map stW=V at *;simp[O]
 rw[split,r1,fW,r4,dG,Y,fW,N,dG,X];rfl
def ab9(c:Int):∃a:Int,dQ [.int c]=.ok (.int a):=by
 obtain⟨z,e,f,_⟩:=fv c 91 (by decide) (by decide);obtain⟨a,b⟩:∃a:Int,oIx (.lst [.int 0,.int 0,.int 0,.int 185,.int (-185)]) (.int (z%5))=.ok (.int a):=by
  have d:z%5=0\/z%5=1\/z%5=2\/z%5=3\/z%5=4:=by omega
  rcases d with h|h|h|h|h<;>rw[h]<;>simp
 refine⟨a,?_⟩;simp at b;simp[dQ,ib,List.replicate,e,b]
theorem kX{s:Int×Int}:∀{f:List S3}{k:Nat},mD s k f=none->∀p∈f,ar p≠s
|[],_,_,p,a=>by cases a|q::f,k,h,p,a=>by
 unfold mD at h;split at h;.cases h
 .rename_i b;rcases ags.mp a with rfl|a;.exact b
  .exact kX h p a
def aaW{f:List S3}(c:bK f){d i:Nat}(a:i<f.length)(b:ar (f.getD i (0,0,0))=sfp (f.getD d (0,0,0)) 0 2)(j:(f.getD i (0,0,0)).2.2=(f.getD d (0,0,0)).2.2):rhO f d=some i:=by
 have g:f.getD i (0,0,0)∈f:=by rw[agC,agH a];exact aiC _
 unfold rhO;cases e:mD (sfp (f.getD d (0,0,0)) 0 2) 0 f with|none=>exact absurd b (kX e _ g)|some k=>have l:=(hU _ 0 f k e).2;have h:=mC _ f 0 k e;have:k=i:=two_at c (by omega) a (h.trans b.symm);subst this;show(if(f.getD k (0,0,0)).2.2=(f.getD d (0,0,0)).2.2 then some k else none)=_;rw[ago j]
def zu(f:List S3)(F:Fl f)(D:bK f)(d:Nat)(M:d<8):bQ [flW f,.int d]=.ok (onW (rhO f d)):=by
 have P:=F.len;have r:=nr (f:=f) (k:=d) (by omega);have H:=gW F.fac (d:=d) (by omega);have t:=di (f.getD d (0,0,0)) H 0 2;have h:=kq (g:=aA 3) (b:=bg) (xs:=rng 0 8) (σ:=[.va (flW f),.va (.int d),.va (spW (sfp (f.getD d (0,0,0)) 0 2)),.no]) (λi a=>(∃o,a=[.va (flW f),.va (.int d),.va (spW (sfp (f.getD d (0,0,0)) 0 2)),o])/\∀j,j<i->¬(ar (f.getD j (0,0,0))=sfp (f.getD d (0,0,0)) 0 2/\(f.getD j (0,0,0)).2.2=(f.getD d (0,0,0)).2.2)) (λi w=>w=onW (rhO f d)) ⟨⟨_,rfl⟩,λj h=>absurd h (ahf _)⟩ (by
   rintro i x σ C⟨⟨o,rfl⟩,m⟩;obtain⟨O,rfl⟩:=mS C;refine⟨_,rfl,?_⟩;have K:=nr (f:=f) (k:=i) (by omega);have E:=f9 (f.getD i (0,0,0));have B:=sk (ar (f.getD i (0,0,0))) (sfp (f.getD d (0,0,0)) 0 2);have u:oIx (stW (f.getD i (0,0,0))) (.int 2)=.ok (.int (f.getD i (0,0,0)).2.2):=rfl;have y:oIx (stW (f.getD d (0,0,0))) (.int 2)=.ok (.int (f.getD d (0,0,0)).2.2):=rfl;have n:bg [.va (flW f),.va (.int d),.va (spW (sfp (f.getD d (0,0,0)) 0 2)),.va (.int i)]=if ar (f.getD i (0,0,0))=sfp (f.getD d (0,0,0)) 0 2/\(f.getD i (0,0,0)).2.2=(f.getD d (0,0,0)).2.2 then .rt (.int i)else .nx [.va (flW f),.va (.int d),.va (spW (sfp (f.getD d (0,0,0)) 0 2)),.va (.int i)]:=by generalize flW f=FL at *;generalize f.getD d (0,0,0)=q at *;generalize f.getD i (0,0,0)=p at *;generalize sfp q 0 2=s at *;generalize spW s=SW at *;generalize stW p=PW at *;generalize stW q=QW at *;generalize ar p=sp at *;generalize spW sp=PS at *;by_cases G:sp=s<;>by_cases I:p.2.2=q.2.2<;>simp[bg,K,r,E,B,u,y,G,I]
   show(∃l,bg [.va (flW f),.va (.int d),.va (spW (sfp (f.getD d (0,0,0)) 0 2)),.va (.int (0+(i:Nat)))]=.nx l/\_)\/∃w,bg [.va (flW f),.va (.int d),.va (spW (sfp (f.getD d (0,0,0)) 0 2)),.va (.int (0+(i:Nat)))]=.rt w/\_;rw[aiL,n];by_cases h:ar (f.getD i (0,0,0))=sfp (f.getD d (0,0,0)) 0 2/\(f.getD i (0,0,0)).2.2=(f.getD d (0,0,0)).2.2;.rw[ago h];exact .inr ⟨_,rfl,by rw[aaW D (by omega) h.1 h.2];rfl⟩
   .rw[agq h];refine .inl ⟨_,rfl,⟨_,rfl⟩,λj N=>?_⟩;rcases Nat.lt_or_ge j i with z|z;.exact m j z
    .have:j=i:=by omega
     rw[this];exact h);rcases h with⟨a,e,⟨o,rfl⟩,c⟩|⟨i,w,_,e,rfl⟩
 .have v:rhO f d=none:=by cases z:rhO f d with|none=>rfl|some k=>obtain⟨Q,J,A⟩:=eg z;exact absurd ⟨J,A⟩ (c k (by simp[rng];omega))
  rw[v];generalize flW f=FL at *;generalize spW (sfp (f.getD d (0,0,0)) 0 2)=SW at *;generalize stW (f.getD d (0,0,0))=X at *;simp[bQ,dZ,List.replicate,r,t,e,onW]
 .generalize onW (rhO f d)=R at *;generalize flW f=FL at *;generalize spW (sfp (f.getD d (0,0,0)) 0 2)=SW at *;generalize stW (f.getD d (0,0,0))=X at *;simp[bQ,dZ,List.replicate,r,t,e]
def pG{hs:Nat->Option Nat}{w:Nat->Nat}(H:Hands hs w)(FL:W)(b g:Sl):∀(n m d:Nat)(a:List (Nat×Nat))(o:Sl),d<8->8<=n+w d+1->n<m->a.length+n<900->if(br hs n d).length%2=0 then∃c,bZ aF aI m [.va FL,.va (hsW hs),.ow (a.map prW),b,.va (.int d),o,g]=.nx [.va FL,.va (hsW hs),.ow ((a++two2 (br hs n d)).map prW),b,.va .non,c,g]else bZ aF aI m [.va FL,.va (hsW hs),.ow (a.map prW),b,.va (.int d),o,g]=.rt .non:=by intro n;induction n using Nat.strongRecOn with
|_ n ih=>intro m d a o s D G E;obtain⟨m,rfl⟩:∃k,m=k+1:=⟨m-1,by omega⟩;have f:=we hs s;cases e:hs d with|none=>
  have p:br hs n d=[d]:=by cases n<;>simp[br,e]
  rw[p,agq (by simp),aY];rw[e]at f;simp only[onW]at f;generalize hsW hs=HS at *;generalize a.map prW=A at *;simp[aF,aI,fy,f]|some k=>
  have q:=H.lt d k s e;have I:=H.up d k s e;have C:=H.rl k q;obtain⟨n,rfl⟩:∃j,n=j+1:=⟨n-1,by omega⟩;have h:=we hs q;rw[e]at f;simp only[onW]at f;have t:(a.map prW).length<1000000:=by simp;omega
  have u:(a++[(d,k)]).map prW=a.map prW++[.tup [.int d,.int k]]:=by simp[prW]
  cases l:hs k with|none=>
  have p:br hs (n+1) d=[d,k]:=by simp only[br,e];cases n<;>simp[br,l]
  rw[p,ago (by simp)];show∃c,_=Out.nx [_,_,.ow ((a++[(d,k)]).map prW),_,_,c,_];rw[l]at h;simp only[onW]at h;obtain⟨m,rfl⟩:∃j,m=j+1:=⟨m-1,by omega⟩;have step:bZ aF aI (m+1+1) [.va FL,.va (hsW hs),.ow (a.map prW),b,.va (.int d),o,g]=bZ aF aI (m+1) [.va FL,.va (hsW hs),.ow ((a++[(d,k)]).map prW),b,.va .non,.va (.int k),g]:=by rw[u,aY];generalize hsW hs=HS at *;generalize a.map prW=A at *;simp[aF,aI,fy,f,h,t]
  refine⟨.va (.int k),?_⟩;rw[step,aY];generalize hsW hs=HS at *;generalize(a++[(d,k)]).map prW=A at *;simp[aF,fy]|some j=>
  have v:=H.lt k j q l;have z:=H.up k j q l;have x:=H.rl j v;obtain⟨n,rfl⟩:∃i,n=i+1:=⟨n-1,by omega⟩;have p:br hs (n+1+1) d=d::k::br hs n j:=by simp only[br,e,l]
  rw[l]at h;simp only[onW]at h;have step:bZ aF aI (m+1) [.va FL,.va (hsW hs),.ow (a.map prW),b,.va (.int d),o,g]=bZ aF aI m [.va FL,.va (hsW hs),.ow ((a++[(d,k)]).map prW),b,.va (.int j),.va (.int k),g]:=by rw[u,aY];generalize hsW hs=HS at *;generalize a.map prW=A at *;simp[aF,aI,fy,f,h,t]
  have r:=ih n (by omega) m j (a++[(d,k)]) (.va (.int k)) v (by omega) (by omega) (by simp;omega);rw[p,step];have B:(d::k::br hs n j).length%2=(br hs n j).length%2:=by simp only[agJ];omega
  rw[B];have y:a++two2 (d::k::br hs n j)=a++[(d,k)]++two2 (br hs n j):=by simp[two2]
  rw[y];exact r
theorem eX{hs:Nat->Option Nat}{u:Nat->Nat}(H:Hands hs u)(FL:W):∀(e:List Nat)(a:List (Nat×Nat))(i f c b:Sl),(∀d∈e,d<8)->a.length+9*e.length<800->(∀ps,pl hs e a=some ps->∃p r q,forL (aA 3) aE (nW e) [.va FL,.va (hsW hs),.ow (a.map prW),i,f,c,b]=.nx [.va FL,.va (hsW hs),.ow (ps.map prW),p,r,q,b])/\(pl hs e a=none->forL (aA 3) aE (nW e) [.va FL,.va (hsW hs),.ow (a.map prW),i,f,c,b]=.rt .non)
|[],a,i,f,c,b,_,_=>⟨λps h=>⟨i,f,c,by cases h;rfl⟩,λh=>by cases h⟩|d::e,a,i,f,c,b,hd,hl=>by
  have n:=hd d agD;have j:∀x∈e,x<8:=λx v=>hd x (agw _ v);have k:=oQ hs d;have w:(two2 (br hs 8 d)).length<=9:=by have:=gO (hs:=hs) 8 d;have:=two2_len (br hs 8 d);omega
  have t:nW (d::e)=.int d::nW e:=rfl;simp only[agJ]at hl;rw[t,fB];show(∀ps,_->∃p r q,iS (aE [.va FL,.va (hsW hs),.ow (a.map prW),.va (.int d),f,c,b]) _=_)/\(_->iS (aE [.va FL,.va (hsW hs),.ow (a.map prW),.va (.int d),f,c,b]) _=_);unfold pl;by_cases h:startB hs d=true
  .rw[ago h];have g:=pG H FL (.va (.int d)) b 8 20 d a c n (by omega) (by decide) (by omega);have o:aE [.va FL,.va (hsW hs),.ow (a.map prW),.va (.int d),f,c,b]=bZ aF aI 20 [.va FL,.va (hsW hs),.ow (a.map prW),.va (.int d),.va (.int d),c,b]:=by rw[h]at k;generalize hsW hs=HS at *;generalize a.map prW=A at *;simp[aE,k,ly,fx]
   rw[o];by_cases l:(br hs 8 d).length%2=0;.rw[ago l];rw[ago l]at g;obtain⟨m,g⟩:=g;rw[g];exact eX H FL e (a++two2 (br hs 8 d)) (.va (.int d)) (.va .non) m b j (by simp;omega)
   .rw[agq l];rw[agq l]at g;rw[g];exact⟨λps z=>(nomatch z),λ_=>rfl⟩
  .rw[agq h];have s:startB hs d=false:=by simpa using h
   have o:aE [.va FL,.va (hsW hs),.ow (a.map prW),.va (.int d),f,c,b]=.nx [.va FL,.va (hsW hs),.ow (a.map prW),.va (.int d),f,c,b]:=by rw[s]at k;generalize hsW hs=HS at *;generalize a.map prW=A at *;simp[aE,k]
   rw[o];exact eX H FL e a (.va (.int d)) f c b j (by omega)
theorem two2_next{hs:Nat->Option Nat}:∀(n d:Nat),∀p∈two2 (br hs n d),hs p.1=some p.2
|0,d,p,h=>by cases h|1,d,p,h=>by unfold br at h;cases e:hs d with|none=>rw[e]at h;cases h|some k=>rw[e]at h;simp only[br,two2,ags,agI,ah1]at h;rw[h];exact e
|n+2,d,p,h=>by unfold br at h;cases e:hs d with|none=>rw[e]at h;cases h|some k=>rw[e]at h;simp only at h;unfold br at h;cases a:hs k with|none=>rw[a]at h;simp only[two2,ags,agI,ah1]at h;rw[h];exact e|some j=>
  rw[a]at h;simp only[two2,ags]at h;rcases h with h|h;.rw[h];exact e
  .exact two2_next n j p h
def yI{hs:Nat->Option Nat}{ps:List (Nat×Nat)}(h:pl hs (List.range 8) []=some ps):∀p∈ps,hs p.1=some p.2:=λp a=>by
 rw[vC]at h;split at h;.rw[ajh]at h;cases h;obtain⟨l,b,a⟩:=List.mem_flatMap.mp a;obtain⟨d,_,rfl⟩:=agM.mp b;exact two2_next 8 d p a
 .cases h
def yY{p q:S3}(a:Fac p)(b:ar q=sfp p 0 2):(p.1+q.1)/2=(bsd p 1).1/\(p.2.1+q.2.1)/2=(bsd p 1).2.1:=by
 obtain⟨x,y,c⟩:=p;obtain⟨g,e,f⟩:=q;have d:c=0\/c=1\/c=2\/c=3:=by unfold Fac at a;simp only at a;omega
 rcases d with rfl|rfl|rfl|rfl<;>simp[ar,sfp]at b<;>simp[bsd,sfp]<;>omega
def sD(f:List S3)(F:Fl f)(p:Nat×Nat)(s:p.1<8)(h:rhO f p.1=some p.2):bX [flW f,prW p]=.ok (stW (bsd (f.getD p.1 (0,0,0)) 1)):=by obtain⟨q,n,r⟩:=eg h;have e:=nr (f:=f) (k:=p.1) (by have:=F.len;omega);have c:=nr (f:=f) (k:=p.2) q;obtain⟨j,g⟩:=yY (gW F.fac (d:=p.1) (by have:=F.len;omega)) n;have o:oIx (prW p) (.int 0)=.ok (.int p.1):=rfl;have l:oIx (prW p) (.int 1)=.ok (.int p.2):=rfl;have i:(bsd (f.getD p.1 (0,0,0)) 1).2.2=(f.getD p.1 (0,0,0)).2.2:=rfl;generalize bsd (f.getD p.1 (0,0,0)) 1=m at *;generalize f.getD p.1 (0,0,0)=a at *;generalize f.getD p.2 (0,0,0)=b at *;generalize flW f=FL at *;generalize prW p=PW at *;simp only[stW]at e c⊢;simp[bX,dE,List.replicate,e,c,o,l,j,g,i]
noncomputable def sV(p:S3):List Int:=[p.1,p.2.1]
theorem sR:∀f:List S3,keysOf (f.map λp=>spW (ar p))=some (f.map sV)|[]=>rfl|p::f=>by have a:=sR f;simp only[agP,keysOf,spW,ar,intsOf]at a⊢;rw[a];rfl
theorem zI:∀(l d:List (List Int)),(l.foldl (λd k=>if k∈d then d else k::d) d).length<=d.length+l.length/\((l.foldl (λd k=>if k∈d then d else k::d) d).length=d.length+l.length↔l.Pairwise (.≠.)/\∀k∈l,k∉d)
|[],d=>by simp|k::l,d=>by
  simp only[aiK];by_cases h:k∈d;.rw[ago h];have f:=zI l d;refine⟨by simp;omega,⟨λz=>?_,λz=>absurd h (z.2 k agD)⟩⟩;simp at z;omega
  .rw[agq h];have f:=zI l (k::d);simp only[agJ]at f⊢;refine⟨by omega,?_⟩;rw[show d.length+(l.length+1)=d.length+1+l.length by omega,f.2,List.pairwise_cons];constructor
   .rintro⟨a,b⟩;refine⟨⟨λx e z=>b x e (by rw[z];exact agD),a⟩,λx e=>?_⟩;rcases ags.mp e with rfl|e;.exact h
    .exact λz=>b x e (agw _ z)
   .rintro⟨⟨a,b⟩,c⟩;refine⟨b,λx e z=>?_⟩;rcases ags.mp z with rfl|z;.exact a x e rfl
    .exact c x (agw _ e) z
def wG(f:List S3):(dd (f.map sV)).length<=f.length/\((dd (f.map sV)).length=f.length↔bK f):=by
 have h:=zI (f.map sV) [];simp only[List.length_nil,aja,agO,agI,not_false_eq_true,implies_true,and_true]at h;refine⟨h.1,h.2.trans ?_⟩;rw[aiZ];constructor;.exact λz=>z.imp λa e=>a (by simp only[ar,ag2]at e;simp[sV,e])
 .exact λz=>z.imp λa e=>a (by simp only[sV,aji,and_true]at e;simp[ar,e])
def acM:Option (List (Nat×Nat))->W|some ps=>.lst (ps.map prW)|none=>.non
def lU(f:List S3)(F:Fl f)(j:bK f):dk [flW f]=.ok (acM (jb f)):=by
 have t:=F.len;have H:=ko t j;have r:cD (aA 0) kQ (aG bQ (ae (ak 1) (ae (ak 0) ax))) [.no,.va (flW f),.no,.no,.no,.no,.no,.no] (rng 0 8)=.ok ((List.range 8).map λd=>onW (rhO f d)):=by refine cz λd c=>⟨_,rfl,rfl,?_⟩;have l:=zu f F j d (agB.mp c);rw[aiL];generalize flW f=FL at *;simp[l]
 have q:rng 0 8=nW (List.range 8):=by simp[rng,nW]
 have w:(nW (List.range 8)).length=8:=rfl;rw[q]at r;obtain⟨B,z⟩:=eX H (flW f) (List.range 8) [] .no .no .no .no (λd c=>agB.mp c) (by decide);have g:∀R:SF,(aN (bj 1 (gh 1 (dj (eC (.int 8))) (aA 0) kQ (aG bQ (ae (ak 1) (ae (ak 0) ax))))) (aN (mP 2 (z9 ax)) (aN (lA (dj (eC (.int 8))) (aA 3) aE) R))) [.va (flW f),.no,.no,.no,.no,.no,.no]=yo (forL (aA 3) aE (nW (List.range 8)) [.va (flW f),.va (hsW (rhO f)),.ow [],.no,.no,.no,.no]) R:=λR=>by generalize flW f=FL at *;simp[List.replicate,r,hsW,q,w]
 show fin (cX [.va (flW f),.no,.no,.no,.no,.no,.no])=_;unfold cX;rw[g];unfold jb;cases e:pl (rhO f) (List.range 8) []with|none=>have h:=z e;have h:forL (aA 3) aE (nW (List.range 8)) [.va (flW f),.va (hsW (rhO f)),.ow [],.no,.no,.no,.no]=_:=h;rw[h];rfl|some ps=>
  obtain⟨A,E,D,h⟩:=B ps e;have h:forL (aA 3) aE (nW (List.range 8)) [.va (flW f),.va (hsW (rhO f)),.ow [],.no,.no,.no,.no]=_:=h;rw[h,dG];have G:=mU t j e;have nx:=yI e;have C:=ro G.len;have v:cD (aA 0) kQ (eSl (aG bX (ae (ak 1) (ae (ak 0) ax))) pNo (eB (eC (.int 2)))) [.no,.va (flW f),.va (hsW (rhO f)),.va (.lst (ps.map prW)),A,E,D,.no] (ps.map prW)=.ok ((gb f ps).map λp=>spW (ar p)):=by unfold gb;rw[aht];refine cz λp s=>⟨_,rfl,rfl,?_⟩;have l:=sD f F p (G.lt p s).1 (nx p s);have x:=f9 (bsd (f.getD p.1 (0,0,0)) 1);show _=Res.ok (spW (ar (bsd (f.getD p.1 (0,0,0)) 1)));generalize bsd (f.getD p.1 (0,0,0)) 1=m at *;generalize stW m=MW at *;generalize spW (ar m)=SW at *;generalize flW f=FL at *;generalize prW p=PW at *;simp[l,x]
  have i:(gb f ps).length=4:=by simp[gb,G.len]
  have k:nR (.lst ((gb f ps).map λp=>spW (ar p)))=.ok (.int (dd ((gb f ps).map sV)).length):=by simp[nR,sR,i]
  have dl:=wG (gb f ps);have u:((gb f ps).map λp=>spW (ar p)).length=4:=by simp[i]
  have a:(ps.map prW).length=4:=by simp[G.len]
  show _=Res.ok (acM (if decide (bK (gb f ps))=true then some (srt ps)else none));by_cases b:bK (gb f ps)
  .rw[ago (ahD b)];have o:(dd ((gb f ps).map sV)).length=4:=by rw[dl.2.mpr b,i]
   rw[o]at k;show _=Res.ok (W.lst ((srt ps).map prW));generalize((gb f ps).map λp=>spW (ar p))=MS at *;generalize ps.map prW=PS at *;generalize flW f=FL at *;generalize hsW (rhO f)=HS at *;simp[iA,List.replicate,v,a,kC,k,u,C]
  .rw[agq (by simpa using b)];have o:(dd ((gb f ps).map sV)).length<4:=by have:=mt dl.2.mp b;have:=dl.1;omega
   have y:((dd ((gb f ps).map sV)).length:Int)<4:=by omega
   show _=Res.ok W.non;generalize((gb f ps).map λp=>spW (ar p))=MS at *;generalize ps.map prW=PS at *;generalize flW f=FL at *;generalize hsW (rhO f)=HS at *;generalize((dd ((gb f ps).map sV)).length:Int)=n at *;simp[iA,List.replicate,v,a,kC,k,u,y]
def aaA(f:W)(o:Option (List (Nat×Nat)))(h:cn [f]=aba o):bE [f]=.ok (kR o):=by cases o with|some ps=>simp only[aba]at h;show _=Res.ok (W.lst (ps.map prW));generalize ps.map prW=PS at *;simp[bE,dW,List.replicate,cF,h,acF]|none=>have k:=(acn 0).2.2.2;simp only[aba]at h;simp[bE,dW,List.replicate,cF,h,kR,acF,dB,gk,pR,k,zS]
def rB(o:Option (List (Nat×Nat))):aB 3 [kR o,kR o]=.ok (.bl true):=by cases o with|some ps=>exact(jY 2 _ λx a=>by obtain⟨p,_,rfl⟩:=agM.mp a;exact(jY 1 _ λx a=>by simp at a;rcases a with rfl|rfl<;>exact same_int 0 _).2).1|none=>exact(jY 2 _ λx a=>by simp at a;subst a;exact same_str 1 _).1
def vr(i:Nat)(f:List W->Res W)(a:AF)(s:List W->SF)(σ:Ws):yr i f a s σ=ofR σ (a σ) λws=>u5 i ws s σ (f ws):=(rfl)
def u4(i:Nat)(f:List S3)(s:List W->SF)(σ:Ws)(w:W):u5 i [flW f] s σ (.ok w)=if aM [flW f]=true then s [flW f] (σ.set i (.va w))else .bad:=(rfl)
def rE(t:TF)(a b:SF)(σ:Ws):jw t a b σ=ofR σ (t σ) λx=>if x=true then adR (a σ)else b σ:=by unfold jw;congr 1;funext x;cases x<;>rfl
def pW(i:Nat)(a:List W)(s:SF)(σ:Ws){us:List W}(e:σ[i]?=some (.va (.lst us)))(d:aM us=true)(c:us∉aV a)(b:us.length<1000000):mO i a s σ=s (σ.set i .no):=by show oq i a s σ σ[i]?=_;rw[e];exact ago ⟨d,c,b⟩
theorem kh:∀{xs:List W},(∀x∈xs,eE x=[])->aV xs=[]|[],_=>by simp[aV]|x::xs,h=>by simp[aV,h x (by simp),kh (xs:=xs) λy a=>h y (by simp[a])]
theorem kr:∀{xs:List W},(∀x∈xs,aU x=true)->aM xs=true|[],_=>by simp[aM]|x::xs,h=>by simp[aM,h x (by simp),kr (xs:=xs) λy a=>h y (by simp[a])]
def zy(f:List S3):aM [flW f]=true:=by
 have h:aM (f.map stW)=true:=kr λx a=>by obtain⟨p,_,rfl⟩:=agM.mp a;rfl
 show(aM (f.map stW)&&true)=true;rw[h];rfl
def y3(f:List S3):aV [flW f]=[]:=kh λx a=>by rw[ag9.mp a];exact kh λx a=>by obtain⟨p,_,rfl⟩:=agM.mp a;rfl
def abp(o:Option (List (Nat×Nat)))(c:∀ps,o=some ps->ps.length=4):∃a,kR o=.lst a/\aM a=true/\a.length<1000000:=by cases o with|none=>exact⟨_,rfl,rfl,by decide⟩|some ps=>refine⟨_,rfl,kr λx b=>?_,by rw[agO,c ps rfl];decide⟩;obtain⟨p,_,rfl⟩:=agM.mp b;rfl
def zN(c:W)(b a:Int)(l m e:Sl):∃r v,eY [.va c,.va (.int b),.va (.int a),l,m,e]=.nx [.va c,.va (.int b),.va (.int a),r,v,.no]:=by
 obtain⟨f,q,F,i⟩:=wm a b;have d:=lU f F i;have n:=aaA _ _ (mX f F.len F.fac i);have o:=rB (jb f);obtain⟨us,z,j,k⟩:=abp (jb f) λps h=>(rQ F.len i h).len;have u:=zy f;have w:=y3 f;refine⟨.va (flW f),.va (kR (jb f)),?_⟩;have s:∀R:SF,(aN (bj 3 (aG dm (ae (ak 2) (ae (ak 1) ax)))) (aN (bj 4 (aG dk (ae (ak 3) ax))) (aN (sIf (tB (eOp oIs (ak 4) (eC .non))) (bj 4 (fE (ae (eC (.str "NoPairs")) ax))) sNx) R))) [.va c,.va (.int b),.va (.int a),l,m,e]=R [.va c,.va (.int b),.va (.int a),.va (flW f),.va (kR (jb f)),e]:=λR=>by generalize flW f=FL at *;cases p:jb f with|none=>rw[p]at d;simp only[acM]at d;simp[q,d,fy,kR]|some ps=>rw[p]at d;simp only[acM]at d;show _=R [_,_,_,_,.va (.lst (ps.map prW)),_];generalize ps.map prW=PS at *;simp[q,d,fy]
 unfold eY;rw[s,vr];have t:ae (ak 3) ax [.va c,.va (.int b),.va (.int a),.va (flW f),.va (kR (jb f)),e]=.ok [flW f]:=rfl;rw[t,iN,n,u4,ago u];have g:∀(x y:SF),jw (vj (tB (aG (aB 3) (ae (ak 5) (ae (ak 4) ax))))) x y [.va c,.va (.int b),.va (.int a),.va (flW f),.va (kR (jb f)),.va (kR (jb f))]=y [.va c,.va (.int b),.va (.int a),.va (flW f),.va (kR (jb f)),.va (kR (jb f))]:=λx y=>by generalize flW f=FL at *;generalize kR (jb f)=D at *;simp[rE,o]
 show jw _ _ _ [.va c,.va (.int b),.va (.int a),.va (flW f),.va (kR (jb f)),.va (kR (jb f))]=_;rw[g,pW 5 _ _ _ (us:=us) (by rw[z];rfl) j (by rw[w];simp) k];show sIf _ _ _ [.va c,.va (.int b),.va (.int a),.va (flW f),.va (kR (jb f)),.no]=_;generalize flW f=FL at *;generalize kR (jb f)=D at *;simp[n,o]
def tF(A:List Sl):aG (aB 3) (ae (aG bE (ae (eC pw) ax)) (ae (fE (ae (eF (ae (eC (.int 0)) (ae (eC (.int 1)) ax))) (ae (eF (ae (eC (.int 2)) (ae (eC (.int 3)) ax))) (ae (eF (ae (eC (.int 4)) (ae (eC (.int 5)) ax))) (ae (eF (ae (eC (.int 6)) (ae (eC (.int 7)) ax))) ax))))) ax)) A=.ok (.bl true):=by kernel_rfl
def wK(ns:List Int):∃l:List Int,cut (ns.map W.int) (some 2) (some 62)=l.map .int:=by unfold cut;exact⟨_,by rw[<-List.map_drop,<-List.map_take]⟩
def vZ(ns:List Int)(B:ns.length<=63):zA [.lst (ns.map .int)]=.ok (.bl true):=by
 obtain⟨a,y⟩:=ab9 (ns.getD 0 0);have x:aP [.lst (ns.map .int),.int 0]=.ok (.int (ns.getD 0 0)):=uz ns 0 (by decide);have q:aP [.lst (ns.map .int),.int 1]=.ok (.int (ns.getD 1 0)):=uz ns 1 (by decide);obtain⟨l,o⟩:=wK ns;obtain⟨f,r,u⟩:=nq (g:=aA 2) (b:=eY) (xs:=(ns.getD 1 0::l).map .int) (λi f=>∃n j k m,f=[.va (.lst (ns.map .int)),.va (.int a),n,j,k,m]) (σ:=[.va (.lst (ns.map .int)),.va (.int a),.no,.no,.no,.no]) ⟨_,_,_,_,rfl⟩ (by rintro i w σ hw⟨n,j,k,m,rfl⟩;obtain⟨c,_,rfl⟩:=agM.mp (ahu hw);obtain⟨A,C,e⟩:=zN (.lst (ns.map .int)) a c j k m;exact⟨_,rfl,_,e,_,_,_,_,rfl⟩);obtain⟨n,j,k,m,rfl⟩:=u;have p:=tF;have d:((ns.getD 1 0::l).map W.int).length<=1000000:=by
  have:(cut (ns.map W.int) (some 2) (some 62)).length<=ns.length:=by unfold cut;rw[ah7,aiB,agO];omega
  rw[o,agO]at this;simp;omega
 have t:(lA (zo (eOp cu (fE (ae (aG aP (ae (ak 0) (ae (eC (.int 1)) ax))) ax)) (eSl (ak 0) (eB (eC (.int 2))) (eB (eC (.int 62)))))) (aA 2) eY) [.va (.lst (ns.map .int)),.va (.int a),.no,.no,.no,.no]=forL (aA 2) eY ((ns.getD 1 0::l).map .int) [.va (.lst (ns.map .int)),.va (.int a),.no,.no,.no,.no]:=by
  have v:1+l.length<=1000000:=by have h:=d;simp at h;omega
  generalize ns.map W.int=NS at *;simp[q,o,v]
 have s:∀R:SF,(aN (bj 1 (aG dQ (ae (aG aP (ae (ak 0) (ae (eC (.int 0)) ax))) ax))) R) [.va (.lst (ns.map .int)),.no,.no,.no,.no,.no]=R [.va (.lst (ns.map .int)),.va (.int a),.no,.no,.no,.no]:=λR=>by generalize ns.map W.int=NS at *;generalize ns.getD 0 0=z at *;simp[x,y]
 show fin (u7 [.va (.lst (ns.map .int)),.no,.no,.no,.no,.no])=_;unfold u7;rw[s,fW,t,r,dG,yt,p];rfl
end K51
namespace PySem.W.Fast
def tw11963519377699881921:=0
def tw2687676559569717683:=0
def tw16464244601850880537:=0
def tw9201585299162631579:=0
def tw14425441650430890446:=0
def tw7914252008364474388:=0
def tw12000885933701119802:=0
def tw17102578589908846789:=0
def tw13997139908225414122:=0
def tw10276198338545457877:=0
def tw7378111552321360983:=0
def tw7528140728032286303:=0
def tw7001378979196663817:=0
def tw13232186293577490645:=0
def tw11165104606311114160:=0
def tw2573129515144551799:=0
def tw14740003415726188086:=0
def tw15081784451815589669:=0
def tw5577930525255088183:=0
def tw7176424237611592083:=0
def tw11236423968823738518:=0
def tw12400299812718092561:=0
def tw13354393008820730800:=0
def tw16166596226604315552:=0
def tw17180136046887531563:=0
def tw4625902080685548881:=0
def tw2420837686781778108:=0
def tw8485959521072694067:=0
def tw1079058857714613301:=0
def tw16208630987590231123:=0
def tw14083497921428603492:=0
def tw2910221705622435038:=0
def tw10441536529703111632:=0
def tw2552297207914023420:=0
def tw5364999493069281566:=0
def tw15934175577659494005:=0
def tw9476857541870547820:=0
def tw10799499482186492525:=0
def tw4103628111548892017:=0
def tw12726612864466597329:=0
def tw800811247219445687:=0
def tw6361521492641787463:=0
def tw14379058552909752598:=0
def tw1691215390928549070:=0
def tw6165321520081473031:=0
def tw8994667876274977139:=0
def tw2823606103488249324:=0
def tw15515371185906135708:=0
def tw227943460885866051:=0
def tw11006230131698429194:=0
def tw5923618375364386886:=0
def tw6647203189932450615:=0
def tw7757241198585603867:=0
def tw7435971624902036354:=0
def tw5835195368242324478:=0
def tw16881792344659330359:=0
def tw1722328866275931952:=0
def tw14510746242152702624:=0
def tw6560677091195809028:=0
def tw17699246132796709615:=0
def tw5891933883808275809:=0
def tw1217999289906432240:=0
def tw14499353113438934597:=0
def tw3698800103888469168:=0
def tw824344036849704185:=0
def tw1665156872778354169:=0
def tw12705908447750356245:=0
def tw8547584601746840074:=0
def tw17370839636669175855:=0
def tw14927424621463621755:=0
def tw14279337174740015518:=0
def tw3111738247432756774:=0
def tw17049864104007370935:=0
def tw18364210635732296894:=0
def tw5976283048426556719:=0
def tw1554080121514057173:=0
def tw7094651504079513738:=0
def tw9172870296253204937:=0
def tw9763706812855213485:=0
def tw1415615751074959951:=0
def tw4683940419981971125:=0
def tw13565891245802173680:=0
def tw7415631756027362938:=0
def tw16723358256769985496:=0
def tw2136084150788584901:=0
def tw8777691876988146800:=0
def tw15157086528243632684:=0
def tw17337662435915154105:=0
def tw15715703883532844212:=0
def tw4933655868482420958:=0
def tw14754384042538025399:=0
def tw18009557155359389409:=0
def tw1667517452203753220:=0
def tw5544804398436011918:=0
def tw17704893582690083328:=0
def tw6576847078345361862:=0
def tw1285426682985582470:=0
def tw15219181161299236879:=0
def tw6488290776600588511:=0
def tw11462552565011547637:=0
def tw3726320656455759861:=0
def tw17193128818797053450:=0
def tw12450097714062246191:=0
def tw6650444963601758165:=0
def tw12167240037917576301:=0
def tw17687465249389370422:=0
def tw13646906796236399387:=0
def tw2970093451529914252:=0
def tw9656637528416596643:=0
def tw6770067039287749162:=0
def tw6485723748956997008:=0
def tw12731977137066875162:=0
def tw1567515918920191489:=0
def tw3328844276906176647:=0
def tw8826875327817463344:=0
def tw6300631063164269923:=0
def tw8829075559780740039:=0
def tw8532044575709670768:=0
def tw5697283376223136569:=0
def tw171644969211058366:=0
def tw16709207372694883976:=0
def tw14022437412865581371:=0
def tw9756582260155286816:=0
def tw4541813960884034422:=0
def tw9572777897422381380:=0
def tw5810910545766648112:=0
def tw10089069167560010261:=0
def tw2229541070324860146:=0
def tw9151460243378329470:=0
def tw647111167860294658:=0
def tw11730534588746346010:=0
def tw13252559425865414094:=0
def tw8919367320798824894:=0
def tw16267797059492940142:=0
def tw1557479747661020603:=0
def tw9838689263119839687:=0
def tw6834169011156323971:=0
def tw4258986783378905959:=0
def tw8026589001288382176:=0
def tw4529023138874658446:=0
def tw17858980293605985839:=0
def tw10004499998794879846:=0
def tw13117085313553345235:=0
def tw18390798507283686090:=0
def tw12753755570780233869:=0
def tw2133404664278885962:=0
def tw3515417996454385565:=0
def tw14326075785768617524:=0
def tw9563141127354419500:=0
def tw462389860985865465:=0
def tw13245480670730742928:=0
def tw11260498051105530134:=0
def tw2893528514763150462:=0
def tw11248220110274046507:=0
def tw4492349973965861721:=0
def tw10854663757905429615:=0
def tw17940200187760191051:=0
def tw232923131674589736:=0
def tw11495640673316195477:=0
def tw17407038179432673548:=0
def tw4905463118458800408:=0
def tw8730909008775890222:=0
def tw6704106735788001174:=0
def tw3718870514808110403:=0
def tw9599634858193552460:=0
def tw9176503761981685004:=0
def tw13580024668382004734:=0
def tw13330674073516727885:=0
def tw14960121867059332888:=0
def tw11599755884988494996:=0
def tw15823987574115522516:=0
def tw16814826350024216696:=0
def tw17514288561227226767:=0
def tw3137179806649672714:=0
def tw18103304698334077877:=0
def tw12165299081555155320:=0
def tw12475470214449007467:=0
def tw460268348288965820:=0
def tw1714411588329363197:=0
def tw1800807686627540746:=0
def tw1910410703726960332:=0
def tw13501067560345799372:=0
def tw10217389763176847644:=0
def tw10815613337249751435:=0
def tw10568693295031605763:=0
def tw10771286395587790592:=0
def tw14096590703439349735:=0
def tw17073101317485896950:=0
def tw8737465193193508067:=0
def tw8574195790823609017:=0
def tw5176156579997509875:=0
def tw4755794374056676510:=0
def tw4989325031597390843:=0
def tw1925706924616930799:=0
def tw5889939295522097624:=0
def tw13440599246512324126:=0
def tw49175612645615408:=0
def tw8428746314900012170:=0
def tw14552165970279670377:=0
def tw14129853125102080417:=0
def tw1374900952682795862:=0
def tw17025864421886268139:=0
def tw17084957232418877321:=0
def tw16899611248312331664:=0
def tw3500063108878100771:=0
def tw14621469255015756552:=0
def tw7270167289393019522:=0
def tw13669029477003326320:=0
def tw13234204892308717619:=0
def tw2924796448624042986:=0
def tw676453663546616475:=0
def tw9194800075587900510:=0
def tw6946807150490850135:=0
def tw6651760542770637030:=0
def tw1235040544857212568:=0
def tw16837585001429331414:=0
def tw11312874118635717439:=0
def tw14897443524737090929:=0
def tw12107064179013877725:=0
def tw10391867663049965637:=0
def tw17296495563375559288:=0
def tw16551730398874733171:=0
def tw12103038657924855956:=0
def tw14106741680083193629:=0
def tw3152366276248785635:=0
def tw5129519290330317712:=0
def tw17521014788688334381:=0
def tw5643275470181066675:=0
def tw12686693087927629907:=0
def tw15921507635874877353:=0
def tw11898633774410025439:=0
def tw5748081785252980967:=0
def tw15524572394449034057:=0
def tw13567240815643455336:=0
def tw7870900079117863229:=0
def tw13097260512095442641:=0
def tw13634470388664497573:=0
def tw5900920938169360536:=0
def tw10121388319655742301:=0
def tw12846964233248830213:=0
def tw9476014912477686628:=0
def tw7661079006404617198:=0
def tw3230261875729954120:=0
def tw3228696149784465663:=0
def tw408447709744521567:=0
def tw8424263718393049892:=0
def tw11536481350949857982:=0
def tw3025645863134986910:=0
def tw5324343019241944618:=0
def tw3045204226257603533:=0
end PySem.W.Fast
namespace K51
open PySem PySem.Spec PyProof.Rows L2 WS
open WL(Res Sl Ws EF TF AF LF GF GsF SF Out)
seal L2.PE L2.PS L2.PSs L2.PA L2.PT L2.PW L2.PG L2.PGs L2.PI L2.PO L2.xW L2.PC
def top(i:Nat):Stmt:=PySem.Challenge.pw_squarecall_k51_pairs_on_floors.main.body.getD i (.Pass ⟨0,0,0,0⟩)
local macro_rules|`(tactic|trivial)=>`(tactic|exact⟨rfl,rfl,rfl,by decide+kernel,rfl,by decide+kernel,by decide+kernel⟩)
abbrev iw:Stmt:=top 30
def gq:FnScope ["_law_cell","_law_k","_law_number"] ["_law_cell","_law_k"] (ag iw):=by trivial
abbrev lx:Stmt:=top 34
def pV:FnScope ["_law_cell"] ["_law_cell"] (ag lx):=by trivial
abbrev fj:Stmt:=top 29
def i9:FnScope ["_law_script","_law_k"] ["_law_script","_law_k"] (ag fj):=by trivial
abbrev jt:Stmt:=top 31
def bN:FnScope ["_law_stand","_law_ahead","_law_right","_law_x","_law_y","_law_facing","_law_east","_law_north"] ["_law_stand","_law_ahead","_law_right"] (ag jt):=by trivial
abbrev ju:Stmt:=top 32
def mM:FnScope ["_law_x","_law_y","_law_facing"] ["_law_x","_law_y","_law_facing"] (ag ju):=by trivial
abbrev ix:Stmt:=top 33
def au:FnScope ["_law_cell","_law_far_here","_law_order","_law_spots","_law_stands","_law_line","_law_k","_law_number","_law_x","_law_y","_law_facing","_law_two","_law_one"] ["_law_cell","_law_far_here"] (ag ix):=by trivial
abbrev js:Stmt:=top 35
def eR:FnScope ["_law_floor_here","_law_dancer","_law_spot","_law_k"] ["_law_floor_here","_law_dancer"] (ag js):=by trivial
abbrev gw:Stmt:=top 37
def df:FnScope ["_law_floor_here","_law_pair","_law_one","_law_other"] ["_law_floor_here","_law_pair"] (ag gw):=by trivial
abbrev iv:Stmt:=top 36
def aX:FnScope ["_law_floor_here","_law_hands","_law_found","_law_first","_law_left","_law_right","_law_middles"] ["_law_floor_here"] (ag iv):=by trivial
abbrev lu:Stmt:=top 17
def pU:FnScope ["stand"] ["stand"] (ag lu):=by trivial
abbrev ov:Stmt:=top 20
def ik:FnScope ["floor","spot","dancer","stand"] ["floor","spot"] (ag ov):=by trivial
abbrev ir:Stmt:=top 19
def cI:FnScope ["stand","ahead","right","step","east","north"] ["stand","ahead","right"] (ag ir):=by trivial
abbrev gu:Stmt:=top 22
def da:FnScope ["floor","dancer","own","who"] ["floor","dancer"] (ag gu):=by trivial
abbrev eJ:Stmt:=top 24
def ip:FnScope ["row"] ["row"] (ag eJ):=by trivial
abbrev jo:Stmt:=top 23
def il:FnScope ["hands","first","row"] ["hands","first"] (ag jo):=by trivial
abbrev dI:Stmt:=top 18
def bY:FnScope ["stands","one","other"] ["stands"] (ag dI):=by trivial
abbrev oy:Stmt:=top 25
def lr:FnScope ["stand","right","spot"] ["stand","right"] (ag oy):=by trivial
abbrev gv:Stmt:=top 26
def jX:FnScope ["floor","pairs"] ["floor","pairs"] (ag gv):=by trivial
abbrev jq:Stmt:=top 27
def dc:FnScope ["floor","hands","pairs","dancer"] ["floor"] (ag jq):=by trivial
abbrev iz:Stmt:=top 38
def cJ:FnScope ["_law_e","_law_kinds","_law_others"] ["_law_e"] (ag iz):=by trivial
abbrev jr:Stmt:=top 41
def cq:FnScope ["_law_floor_here","_law_found","_law_e"] ["_law_floor_here"] (ag jr):=by trivial
abbrev iu:Stmt:=top 39
def lq:FnScope ["_law_found"] ["_law_found"] (ag iu):=by trivial
abbrev fV:Stmt:=top 40
def de:FnScope ["_law_found","_law_due","_law_one","_law_other"] ["_law_found","_law_due"] (ag fV):=by trivial
abbrev yq:Stmt:=top 42
def iq:FnScope ["_law_script","_law_far_here","_law_cell","_law_floor_here","_law_due","_law_found"] ["_law_script"] (ag yq):=by trivial
structure Txt(w:World)(K:W.Frag)(mg:Str->Option Value)(i8 hG hE g9 g8 g7 g6 g5 g0:Addr)(iH:Tok)(e7 fN fM fL fK bU dw ez ew cg dv cA fH fJ kM gZ eA tc tP:Addr):Prop where
 mgA:∀nm v,W.nsIn K mainGlobals nm=some (some v)->mg nm=some v
 abI:mg "HOME"=some (.ref i8)aaC:∀H:Hp,SqT K H i8 [.ref hG,.ref hE,.ref g9,.ref g8,.ref g7,.ref g6,.ref g5,.ref g0]vi:∀H:Hp,SqT K H hG [.int (-1),.int (-3),.int 0]vh:∀H:Hp,SqT K H hE [.int 1,.int (-3),.int 0]vg:∀H:Hp,SqT K H g9 [.int 3,.int (-1),.int 1]vf:∀H:Hp,SqT K H g8 [.int 3,.int 1,.int 1]vd:∀H:Hp,SqT K H g7 [.int 1,.int 3,.int 2]vc:∀H:Hp,SqT K H g6 [.int (-1),.int 3,.int 2]vb:∀H:Hp,SqT K H g5 [.int (-3),.int 1,.int 3]u9:∀H:Hp,SqT K H g0 [.int (-3),.int (-1),.int 3]lS:mg "DANCERS"=some (.int 8 iH)y0:mg "STEPS"=some (.ref e7)yc:∀H:Hp,SqT K H e7 [.ref fN,.ref fM,.ref fL,.ref fK]rh:∀H:Hp,SqT K H fN [.int 0,.int 1]rf:∀H:Hp,SqT K H fM [.int (-1),.int 0]q9:∀H:Hp,SqT K H fL [.int 0,.int (-1)]q5:∀H:Hp,SqT K H fK [.int 1,.int 0]tab:W.tabIn K "_law_floor"=some (tc,tP)nl:WS.noL K=true
 lQ:mg "ValueError"=none
 abG:mg "bool"=none
 m6:mg "enumerate"=none
 yW:mg "int"=none
 av:mg "isinstance"=none
 ke:mg "len"=none
 sA:mg "list"=none
 cw:mg "range"=none
 aej:mg "set"=none
 kd:mg "sorted"=none
 abF:mg "str"=none
 kc:mg "tuple"=none
 aei:mg "zip"=none
 lR:mg "FloorError"=some (.ref bU)lZ:ExcAt K "FloorError" bU
 sH:mg "NotEven"=some (.ref dw)ub:ExcAt K "NotEven" dw
 vS:mg "NoCall"=some (.ref ez)wA:ExcAt K "NoCall" ez
 vR:mg "NoName"=some (.ref ew)wz:ExcAt K "NoName" ew
 m9:mg "NoProgram"=some (.ref cg)nu:ExcAt K "NoProgram" cg
 sG:mg "TooMany"=some (.ref dv)ua:ExcAt K "TooMany" dv
 iR:mg "NoPairs"=some (.ref cA)i2:ExcAt K "NoPairs" cA
 kT:pE K cA none
 y1:mg "NoRow"=some (.ref fH)zC:ExcAt K "NoRow" fH
 y2:mg "Blind"=some (.ref fJ)zD:ExcAt K "Blind" fJ
 aek:mg "Out"=some (.ref kM)aeI:ExcAt K "Out" kM
 abH:mg "Meet"=some (.ref gZ)acg:ExcAt K "Meet" gZ
 vT:mg "Broken"=some (.ref eA)wC:ExcAt K "Broken" eA
 xs:ExcAll K
 acb:∀nm C,ExcAt K nm C->("one":Str)∈WL.fieldsOf nm->W.findIn K (.ref C) "one"=some none/\W.hasDictIn K C=true
 wq:∀nm C,ExcAt K nm C->("other":Str)∈WL.fieldsOf nm->W.findIn K (.ref C) "other"=some none/\W.hasDictIn K C=true
 aca:∀nm C,ExcAt K nm C->("who":Str)∈WL.fieldsOf nm->W.findIn K (.ref C) "who"=some none/\W.hasDictIn K C=true
 nG:AtD K "_law_mixed" iw
 um:AtD K "_law_far" lx
 kD:AtD K "_law_cell_at" fj
 qj:AtD K "_law_from" jt
 qk:AtD K "_law_both" ju
 nH:AtD K "_law_floor" ix
 qi:AtD K "_law_hand" js
 l4:AtD K "_law_middle" gw
 nE:AtD K "_law_pairs" iv
 uj:AtD K "spot_of" lu
 wH:AtD K "who_at" ov
 nA:AtD K "spot_from" ir
 l2:AtD K "right_hand" gu
 jg:AtD K "pairs_of_row" eJ
 qe:AtD K "row_from" jo
 i3:AtD K "first_meeting" dI
 wI:AtD K "beside" oy
 l3:AtD K "middles_of" gv
 qf:AtD K "pairs_on" jq
 nI:AtD K "_law_class" iz
 qg:AtD K "_law_told" jr
 nB:AtD K "_law_whole" iu
 qh:AtD K "_law_same" fV
 aeP:AtD K "law" yq
variable{P:Program}{w:World}{K:W.Frag}{mg:Str->Option Value}{base:Heap}{i8 hG hE g9 g8 g7 g6 g5 g0:Addr}{iH:Tok}{e7 fN fM fL fK bU dw ez ew cg dv cA fH fJ kM gZ eA tc tP:Addr}
def aaY:RelV (.ref i8) (.ref i8):=rfl
def yy:RelV (.ref e7) (.ref e7):=rfl
noncomputable abbrev tp0:Array Value:=#[rawInt ((105:Nat):Int),rawInt ((38:Nat):Int),.str (("_law_floor":Str)++".<locals>."++"<lambda>") 0]
variable(T:Txt w K mg i8 hG hE g9 g8 g7 g6 g5 g0 iH e7 fN fM fL fK bU dw ez ew cg dv cA fH fJ kM gZ eA tc tP)
include T
theorem aav:∀F,RW K F pw (.ref i8):=λF=>by simp only[RW,RWs,pw];exact⟨_,_,rfl,T.aaC F,_,_,rfl,⟨_,_,rfl,T.vi F,_,_,rfl,rfl,_,_,rfl,rfl,_,_,rfl,rfl,rfl⟩,_,_,rfl,⟨_,_,rfl,T.vh F,_,_,rfl,rfl,_,_,rfl,rfl,_,_,rfl,rfl,rfl⟩,_,_,rfl,⟨_,_,rfl,T.vg F,_,_,rfl,rfl,_,_,rfl,rfl,_,_,rfl,rfl,rfl⟩,_,_,rfl,⟨_,_,rfl,T.vf F,_,_,rfl,rfl,_,_,rfl,rfl,_,_,rfl,rfl,rfl⟩,_,_,rfl,⟨_,_,rfl,T.vd F,_,_,rfl,rfl,_,_,rfl,rfl,_,_,rfl,rfl,rfl⟩,_,_,rfl,⟨_,_,rfl,T.vc F,_,_,rfl,rfl,_,_,rfl,rfl,_,_,rfl,rfl,rfl⟩,_,_,rfl,⟨_,_,rfl,T.vb F,_,_,rfl,rfl,_,_,rfl,rfl,_,_,rfl,rfl,rfl⟩,_,_,rfl,⟨_,_,rfl,T.u9 F,_,_,rfl,rfl,_,_,rfl,rfl,_,_,rfl,rfl,rfl⟩,rfl⟩
theorem ya:∀F,RW K F kI (.ref e7):=λF=>by simp only[RW,RWs,kI];exact⟨_,_,rfl,T.yc F,_,_,rfl,⟨_,_,rfl,T.rh F,_,_,rfl,rfl,_,_,rfl,rfl,rfl⟩,_,_,rfl,⟨_,_,rfl,T.rf F,_,_,rfl,rfl,_,_,rfl,rfl,rfl⟩,_,_,rfl,⟨_,_,rfl,T.q9 F,_,_,rfl,rfl,_,_,rfl,rfl,rfl⟩,_,_,rfl,⟨_,_,rfl,T.q5 F,_,_,rfl,rfl,_,_,rfl,rfl,rfl⟩,rfl⟩
theorem bV:Cal P w K mg base CX0 1 "_law_mixed" ["_law_cell","_law_k"] [] (spW K 2 aD):=T.nG.dN T.mgA eQ gq λhB hr hx hp=>aj (wS 2 gq.nd (az aQ w_mod (az aR w_mul (az aH (w_add hB.symm) (az aH (w_add hB.symm) (az aH (w_add hB.symm) (az aQ w_mod (va 0) af) (az aR w_mul (az aR w_mul af (va 1)) (va 1))) (va 1)) af) af) af)) (ao (aL (az aQ w_mod (az aR w_mul (va 2) (va 2)) af)))
theorem p6:Cal P w K mg base CX0 2 "_law_far" ["_law_cell"] [] (spW K 1 dQ):=T.um.dN T.mgA ib pV λhB hr hx hp=>ao (aL (wx hB (bL (aa af (aa af (aa af (aa af (aa (mE dt mH af) ah)))))) (az aQ w_mod (cl hB hr (bV T) (aa (va 0) (aa af ah))) af)))
theorem eL:Cal P w K mg base CX0 1 "_law_cell_at" ["_law_script","_law_k"] [] (spW K 2 aP):=T.kD.dN T.mgA cZ i9 λhB hr hx hp=>aj (cC (cp kF w_lt (va 1) (wB cP (k6 hB.symm) T.ke ahz (aa (va 0) ah)) (cT _)) (ao (aL (wx hB (va 0) (va 1)))) aS) (ao (aL af))
theorem dg:Cal P w K mg base CX0 41 "_law_from" ["_law_stand","_law_ahead","_law_right"] [] (spW K 3 bF):=T.qj.dN T.mgA fS bN λhB hr hx hp=>aj (n6 (va 0) (ji hB.symm (cm hr) (bc (gN 3 bN.nd) (bc (gN 4 bN.nd) (bc (gN 5 bN.nd) fP))) rfl (bI (bI (bI jE))) cQ) (o6 cQ)) (aj (n6 (wx hB (bL (aa (bf (aa af (aa af ah))) (aa (bf (aa (mE dt mH af) (aa af ah))) (aa (bf (aa af (aa (mE dt mH af) ah))) (aa (bf (aa af (aa af ah))) ah))))) (va 5)) (ji hB.symm (cm hr) (bc (gN 6 bN.nd) (bc (gN 7 bN.nd) fP)) rfl (bI (bI jE)) cQ) (o6 cQ)) (ao (aL (bf (aa (az aH (w_add hB.symm) (az aH (w_add hB.symm) (va 3) (az aR w_mul (va 1) (va 6))) (az aR w_mul (va 2) (va 7))) (aa (az cO w_sub (az aH (w_add hB.symm) (va 4) (az aR w_mul (va 1) (va 7))) (az aR w_mul (va 2) (va 6))) ah))))))
theorem iM:Cal P w K mg base CX0 42 "_law_both" ["_law_x","_law_y","_law_facing"] [] (spW K 3 bG):=T.qk.dN T.mgA fU mM λhB hr hx hp=>ao (aL (bL (aa (az aH (w_add hB.symm) (cl hB hr (dg T) (aa (bf (aa (va 0) (aa (va 1) (aa (va 2) ah)))) (aa af (aa (mE dt mH af) ah)))) (bf (aa (va 2) ah))) (aa (az aH (w_add hB.symm) (cl hB hr (dg T) (aa (bf (aa (va 0) (aa (va 1) (aa (va 2) ah)))) (aa af (aa af ah)))) (bf (aa (va 2) ah))) ah))))
theorem lM(a:BmA mg base)(d:W.CodeHd base tc tP):Cal P w K mg base CX0 43 "_law_floor" ["_law_cell","_law_far_here"] [] (spT tP tp0 (spW K 2 dm)):=T.nH.dT T.mgA T.tab cY au λb c hB hr hx hp=>(aj (wS 2 au.nd (uX (x:="_law_k") (y:="_law_cell") (k:=39) (iy:=0) (ps:=tp0) (t:=0) hB (cm hr) hr c (λz=>nomatch b.symm.trans z) ⟨rfl,d,a⟩ rfl T.kd T.cw (sO rfl rfl rfl (by decide) rfl rfl (by decide+kernel)) rfl rfl rfl rfl (Or.inl rfl) rfl (Or.inr (Or.inl rfl)) (λhB hr=>bf (aa (cl hB hr (bV T) (aa (va 1) (aa (az aH (w_add hB.symm) af (va 0)) ah))) (aa (va 0) ah))) (λ_ _ _ _=>rfl) (by decide) (by decide))) (aj (wS 3 au.nd (bL ah)) (aj (xX (i:=4) au.nd rfl (Or.inr rfl)) (aj (wS 5 au.nd (cl hB hr (bV T) (aa (va 0) (aa af ah)))) (aj (e9 hp (cm hr) (dA (by rfl) T.cw af) (gN 6 au.nd) (show PSs _ _ (loS _ K51.aT)from(aj (wS 7 au.nd (cl hB hr (bV T) (aa (va 0) (aa (az aH (w_add hB.symm) af (va 6)) ah)))) (aj (wS 8 au.nd (az aH (w_add hB.symm) (az aH (w_add hB.symm) (az cO w_sub (az aR w_mul (az aQ w_mod (va 7) af) af) af) (az bq w_div (az aQ w_mod (az bq w_div (va 7) af) af) af)) (va 1))) (aj (wS 9 au.nd (az cO w_sub (az cO w_sub (az aQ w_mod (az bq w_div (va 7) af) af) af) (va 1))) (aj (wS 10 au.nd (wx hB (bL (aa (az aQ w_mod (az bq w_div (va 7) af) af) (aa af (aa (az aR w_mul (az aQ w_mod (az bq w_div (va 7) af) af) af) ah)))) (az aQ w_mod (az bq w_div (va 7) af) af))) (aj (cC (we2 hB hr.units (az aQ w_mod (va 5) af) af) (aj (wS 10 au.nd (az aQ w_mod (az bq w_div (va 5) af) af)) (ao (n6 (cl hB hr (dg T) (aa (bf (aa (va 1) (aa (az cO w_sub af (va 1)) (aa (va 10) ah)))) (aa af (aa (az cO w_sub (az aR w_mul af (va 6)) af) ah)))) (ji hB.symm (cm hr) (bc (gN 8 au.nd) (bc (gN 9 au.nd) fP)) rfl (bI (bI jE)) cQ) (o6 cQ)))) aS) (aj (wS 11 au.nd (cl hB hr (iM T) (aa (va 8) (aa (va 9) (aa (va 10) ah))))) (aj (jP hp (show PT _ _ (loT _ K51.bo)from PW.pt (uS (cp nM (adt hB.symm hr.units) (mF (x8 hB.symm) (wx hB (va 11) af) fO (dz af)) (va 3) (by rfl)) (qD (cp nM (adt hB.symm hr.units) (mF (x8 hB.symm) (wx hB (va 11) af) fO (dz af)) (va 3) (by rfl))))) (show PSs _ _ (loS _ K51.aZ)from aj (wS 9 au.nd (az aH (w_add hB.symm) (va 9) (wx hB (bL (aa af (aa (mE dt mH af) ah))) (wT l7 xg T.yW boot_int (aa (qN kF w_lt (va 1) af (cT _)) ah))))) (ao (wS 11 au.nd (cl hB hr (iM T) (aa (va 8) (aa (va 9) (aa (wx hB (wx hB (va 11) af) af) ah)))))))) (aj (wS 3 au.nd (az aH (w_add hB.symm) (va 3) (bL (aa (mF (x8 hB.symm) (wx hB (va 11) af) fO (dz af)) (aa (mF (x8 hB.symm) (wx hB (va 11) af) fO (dz af)) ah))))) (aj (mB (i:=4) (un1 hr.units) (pv 4) (wx hB (va 2) (az aR w_mul af (va 6))) (wx hB (va 11) af)) (ao (mB (i:=4) (un1 hr.units) (pv 4) (wx hB (va 2) (az aH (w_add hB.symm) (az aR w_mul af (va 6)) af)) (wx hB (va 11) af)))))))))))))) (aj (wS 12 au.nd (cl hB hr (bV T) (aa (va 0) (aa af ah)))) (aj (cC (we2 hB hr.units (az aQ w_mod (va 12) af) af) (aj (n6 (xf (i:=4) (wxD hB (va 4) (az aQ w_mod (az bq w_div (va 12) af) af))) (ji hB.symm (cm hr) (bc (gN 8 au.nd) (bc (gN 9 au.nd) (bc (gN 10 au.nd) fP))) rfl (bI (bI (bI jE))) cQ) (o6 cQ)) (ao (mB (i:=4) (un1 hr.units) (pv 4) (az aQ w_mod (az bq w_div (va 12) af) af) (bf (aa (va 8) (aa (va 9) (aa (az aQ w_mod (az aH (w_add hB.symm) (az aH (w_add hB.symm) (va 10) af) (az aQ w_mod (az bq w_div (va 12) af) af)) af) ah))))))) aS) (ao (kU (i:=4) (aL (wT qo (x6 hB.symm) T.kc ajp (aa (mG (ts:=["_law_k"]) ⟨rfl,rfl,rfl,rfl,rfl⟩ (cm hr) rfl (cj (by decide)) (dA (by rfl) T.cw af) (λ_ _ _ _=>gN 0) (λ_ _ _ _=>jj) λ_ _ _ _=>wxD hB (va 5) (va 0)) ah))))))))))))
theorem m3:Cal P w K mg base CX0 42 "_law_hand" ["_law_floor_here","_law_dancer"] [] (spW K 2 bQ):=T.qi.dN T.mgA dZ eR λhB hr hx hp=>aj (wS 2 eR.nd (cl hB hr (dg T) (aa (wx hB (va 0) (va 1)) (aa af (aa af ah))))) (aj (e9 hp (cm hr) (dA (by rfl) T.cw af) (gN 3 eR.nd) (show PSs _ _ (loS _ K51.bg)from ao (cC (PW.pt (w4 (we2 hB hr.units (mF (x8 hB.symm) (wx hB (va 0) (va 3)) fO (dz af)) (va 2)) (qE (we2 hB hr.units (wx hB (wx hB (va 0) (va 3)) af) (wx hB (wx hB (va 0) (va 1)) af))))) (ao (aL (va 3))) aS))) (ao (aL cS)))
theorem j9:Cal P w K mg base CX0 1 "_law_middle" ["_law_floor_here","_law_pair"] [] (spW K 2 bX):=T.l4.dN T.mgA dE df λhB hr hx hp=>aj (wS 2 df.nd (wx hB (va 0) (wx hB (va 1) af))) (aj (wS 3 df.nd (wx hB (va 0) (wx hB (va 1) af))) (ao (aL (bf (aa (az bq w_div (az aH (w_add hB.symm) (wx hB (va 2) af) (wx hB (va 3) af)) af) (aa (az bq w_div (az aH (w_add hB.symm) (wx hB (va 2) af) (wx hB (va 3) af)) af) (aa (wx hB (va 2) af) ah)))))))
theorem lL:Cal P w K mg base CX0 43 "_law_pairs" ["_law_floor_here"] [] (spW K 1 dk):=T.nE.dN T.mgA cX aX λhB hr hx hp=>(aj (mz (i:=1) aX.nd rfl rfl (by rfl) (ts:=["_law_k"]) ⟨rfl,rfl,rfl,rfl,rfl⟩ (cm hr) rfl (cj (by decide)) (dA (by rfl) T.cw af) (λ_ _ _ _=>gN 0) (λ_ _ _ _=>jj) λ_ _ _ _=>cl hB hr (m3 T) (aa (va 1) (aa (va 0) ah))) (aj (my (i:=2) aX.nd rfl (Or.inl rfl) (qI ah)) (aj (e9 hp (cm hr) (dA (by rfl) T.cw af) (gN 3 aX.nd) (show PSs _ _ (loS _ K51.aE)from ao (cC (cp jJ (qV hB.symm hr.units) (va 3) (va 1) (by rfl)) (aj (wS 4 aX.nd (va 3)) (ao (jP hp (show PT _ _ (loT _ K51.aF)from cp eu jQ (va 4) cS (cT _)) (show PSs _ _ (loS _ K51.aI)from aj (wS 5 aX.nd (wx hB (va 1) (va 4))) (aj (cC (cp uD w_is (va 5) cS (cT _)) (ao (aL cS)) aS) (aj (w6 hB.symm (j5 (r0 ahC aip aiq iQ (pv 2) (bO (bf (aa (va 4) (aa (va 5) ah))) dM)))) (ao (wS 4 aX.nd (wx hB (va 1) (va 5)))))))))) aS))) (aj (kU (i:=2) (mz (i:=6) aX.nd rfl rfl (by rfl) (ts:=["_law_pair"]) ⟨rfl,rfl,rfl,rfl,rfl⟩ (cm hr) rfl (cj (by decide)) (qJ hB.symm (va 2)) (λ_ _ _ _=>gN 0) (λ_ _ _ _=>jj) λ_ _ _ _=>mF (x8 hB.symm) (cl hB hr (j9 T) (aa (va 1) (aa (va 0) ah))) fO (dz af))) (aj (cC (cp kF w_lt (qK hB (cm hr) hr.units T.ke T.aej (va 6)) (wB cP (k6 hB.symm) T.ke ahz (aa (va 6) ah)) (cT _)) (ao (aL cS)) aS) (ao (kU (i:=2) (aL (wB jI (qU hB.symm) T.kd boot_sorted (aa (va 2) ah))))))))))
theorem f7:Cal P w K mg base CX0 1 "spot_of" ["stand"] [] (spW K 1 dO):=T.uj.dN T.mgA lg pU λhB hr hx hp=>ao (aL (bf (aa (wx hB (va 0) af) (aa (wx hB (va 0) af) ah))))
theorem se:Cal P w K mg base CX0 41 "who_at" ["floor","spot"] [] (spW K 2 kx):=T.wH.dN T.mgA oj ik λhB hr hx hp=>aj (e9 hp (cm hr) (x2 hB.symm (by rfl) T.m6 (va 0)) (ji hB.symm (cm hr) (bc (gN 2 ik.nd) (bc (gN 3 ik.nd) fP)) rfl (bI (bI jE)) cQ) (show PSs _ _ (loS _ K51.cU)from ao (cC (we2 hB hr.units (cl hB hr (f7 T) (aa (va 3) ah)) (va 1)) (ao (aL (va 2))) aS))) (ao (aL cS))
theorem gx:Cal P w K mg base CX0 1 "spot_from" ["stand","ahead","right"] [] (spW K 3 cy):=T.nA.dN T.mgA eP cI λhB hr hx hp=>aj (wS 3 cI.nd (wx hB (wk hB T.y0 yy (ya T)) (wx hB (va 0) af))) (aj (wS 4 cI.nd (az aH (w_add hB.symm) (az aR w_mul (wx hB (va 3) af) (va 1)) (az aR w_mul (wx hB (va 3) af) (va 2)))) (aj (wS 5 cI.nd (az cO w_sub (az aR w_mul (wx hB (va 3) af) (va 1)) (az aR w_mul (wx hB (va 3) af) (va 2)))) (ao (aL (bf (aa (az aH (w_add hB.symm) (wx hB (va 0) af) (va 4)) (aa (az aH (w_add hB.symm) (wx hB (va 0) af) (va 5)) ah)))))))
theorem j7:Cal P w K mg base CX0 42 "right_hand" ["floor","dancer"] [] (spW K 2 bD):=T.l2.dN T.mgA cG da λhB hr hx hp=>aj (wS 2 da.nd (wx hB (va 0) (va 1))) (aj (wS 3 da.nd (cl hB hr (se T) (aa (va 0) (aa (cl hB hr (gx T) (aa (va 2) (aa af (aa af ah)))) ah)))) (ao (aL (adq (PW.pt (w4 (cp eu jQ (va 3) cS (cT _)) (qE (we2 hB hr.units (wx hB (wx hB (va 0) (va 3)) af) (wx hB (va 2) af))))) (va 3) cS))))
theorem iL:Cal P w K mg base (CXX P w) 41 "pairs_of_row" ["row"] [] (spX K 1 bw):=T.jg.dX T.mgA bT ip λhB hr hx hp=>(aj (cC (wn2 hB hr.units (az aQ w_mod (wB cP (k6 hB.symm) T.ke ahz (aa (va 0) ah)) af) af) (ao (qF hB.symm hx (cm hr) (by rfl) T.iR T.kT T.i2 rfl (afP (afO hB.symm hr.units hr.gd (va 0) aan)))) aS) (ao (aL (mG (ts:=["place"]) ⟨rfl,rfl,rfl,rfl,rfl⟩ (cm hr) rfl (cj (by decide)) (xZ (by rfl) T.cw af (wB cP (k6 hB.symm) T.ke ahz (aa (va 0) ah))) (λ_ _ _ _=>gN 0) (λ_ _ _ _=>jj) λ_ _ _ _=>bf (aa (wx hB (va 1) (va 0)) (aa (wx hB (va 1) (az aH (w_add hB.symm) (va 0) af)) ah))))))
theorem mY:Cal P w K mg base CX0 1 "row_from" ["hands","first"] [] (spW K 2 et):=T.qe.dN T.mgA fQ il λhB hr hx hp=>(aj (my (i:=2) il.nd rfl (Or.inl rfl) (qI (aa (va 1) ah))) (aj (jP hp (show PT _ _ (loT _ K51.bC)from(w5 (i:=2) (cp eu jQ (wx hB (va 0) (wx hB (va 2) (mE dt mH af))) cS (cT _)))) (show PSs _ _ (loS _ K51.cK)from(ao (w6 hB.symm (j5 (r0 ahC aip aiq iQ (pv 2) (bO (xf (i:=2) (wx hB (va 0) (wx hB (va 2) (mE dt mH af)))) dM))))))) (ao (kU (i:=2) (aL (va 2))))))
theorem gI:Cal P w K mg base CX0 41 "first_meeting" ["stands"] [] (spW K 1 aW):=T.i3.dN T.mgA bH bY λhB hr hx hp=>aj (e9 hp (cm hr) (dA (by rfl) T.cw (wB cP (k6 hB.symm) T.ke ahz (aa (va 0) ah))) (gN 1 bY.nd) (show PSs _ _ (loS _ K51.bp)from ao (e9 hp (cm hr) (x1 (by rfl) T.cw (az aH (w_add hB.symm) (va 1) af) (wB cP (k6 hB.symm) T.ke ahz (aa (va 0) ah))) (gN 2 bY.nd) (show PSs _ _ (loS _ K51.aK)from ao (cC (we2 hB hr.units (cl hB hr (f7 T) (aa (wx hB (va 0) (va 1)) ah)) (cl hB hr (f7 T) (aa (wx hB (va 0) (va 2)) ah))) (ao (aL (bf (aa (va 1) (aa (va 2) ah))))) aS))))) (ao (aL cS))
theorem sf:Cal P w K mg base CX0 2 "beside" ["stand","right"] [] (spW K 2 fC):=T.wI.dN T.mgA jT lr λhB hr hx hp=>aj (wS 2 lr.nd (cl hB hr (gx T) (aa (va 0) (aa af (aa (va 1) ah))))) (ao (aL (bf (aa (wx hB (va 2) af) (aa (wx hB (va 2) af) (aa (wx hB (va 0) af) ah))))))
theorem j8:Cal P w K mg base CX0 41 "middles_of" ["floor","pairs"] [] (spW K 2 bW):=T.l3.dN T.mgA dD jX λhB hr hx hp=>(ao (aL (mG (ts:=["pair"]) ⟨rfl,rfl,rfl,rfl,rfl⟩ (cm hr) rfl (cj (by decide)) (qJ hB.symm (va 1)) (λ_ _ _ _=>gN 0) (λ_ _ _ _=>jj) λ_ _ _ _=>cl hB hr (sf T) (aa (wx hB (va 1) (wx hB (va 0) af)) (aa af ah)))))
theorem mZ:Cal P w K mg base (CXX P w) 43 "pairs_on" ["floor"] [] (spX K 1 cn):=T.qf.dX T.mgA fR dc λhB hr hx hp=>(aj (mz (i:=1) dc.nd rfl rfl (by rfl) (ts:=["dancer"]) ⟨rfl,rfl,rfl,rfl,rfl⟩ (cm hr) rfl (cj (by decide)) (dA (by rfl) T.cw (wki hB T.lS)) (λ_ _ _ _=>gN 0) (λ_ _ _ _=>jj) λ_ _ _ _=>cl hB hr (j7 T) (aa (va 1) (aa (va 0) ah))) (aj (my (i:=2) dc.nd rfl (Or.inl rfl) (qI ah)) (aj (e9 hp (cm hr) (dA (by rfl) T.cw (wki hB T.lS)) (gN 3 dc.nd) (show PSs _ _ (loS _ K51.ay)from(ao (cC (cp jJ (qV hB.symm hr.units) (va 3) (va 1) (by rfl)) (ao (aal (i:=2) hB.symm T.nl (j5 (r0 ahC PySem.F.slot_list_extend PySem.F.type_list_extend yX (pv 2) (bO (clX hB hr hx (iL T) (aa (cl hB hr (mY T) (aa (va 1) (aa (va 3) ah))) ah)) dM))))) aS)))) (aj (cC (w5 (i:=2) (cp eu jQ (cl hB hr (gI T) (aa (cl hB hr (j8 T) (aa (va 0) (aa (va 2) ah))) ah)) cS (cT _))) (ao (uU hB.symm hx (cm hr) (by rfl) T.iR T.kT T.i2 rfl (aa hX ah))) aS) (ao (kU (i:=2) (aL (wB jI (qU hB.symm) T.kd boot_sorted (aa (va 2) ah)))))))))
theorem lN:Cal P w K mg base CX0 1 "_law_class" ["_law_e"] [] (spW K 1 bR):=T.nI.dN T.mgA ic cJ λhB hr hx hp=>aj (wS 1 cJ.nd (bL (aa (wB bz (gE hB.symm T.xs) T.av agL (aa (va 0) (aa (wcl hB T.y2 T.zD) ah))) (aa (wB bz (gE hB.symm T.xs) T.av agL (aa (va 0) (aa (wcl hB T.aek T.aeI) ah))) (aa (wB bz (gE hB.symm T.xs) T.av agL (aa (va 0) (aa (wcl hB T.abH T.acg) ah))) (aa (wB bz (gE hB.symm T.xs) T.av agL (aa (va 0) (aa (wcl hB T.iR T.i2) ah))) ah)))))) (aj (wS 2 cJ.nd (bL (aa (wB bz (gE hB.symm T.xs) T.av agL (aa (va 0) (aa (wcl hB T.vT T.wC) ah))) (aa (wB bz (gE hB.symm T.xs) T.av agL (aa (va 0) (aa (wcl hB T.vS T.wA) ah))) (aa (wB bz (gE hB.symm T.xs) T.av agL (aa (va 0) (aa (wcl hB T.vR T.wz) ah))) (aa (wB bz (gE hB.symm T.xs) T.av agL (aa (va 0) (aa (wcl hB T.m9 T.nu) ah))) ah)))))) (aj (wS 2 cJ.nd (az aH (w_add hB.symm) (va 2) (bL (aa (wB bz (gE hB.symm T.xs) T.av agL (aa (va 0) (aa (wcl hB T.y1 T.zC) ah))) (aa (wB bz (gE hB.symm T.xs) T.av agL (aa (va 0) (aa (wcl hB T.sH T.ub) ah))) (aa (wB bz (gE hB.symm T.xs) T.av agL (aa (va 0) (aa (wcl hB T.sG T.ua) ah))) ah)))))) (aj (cC (PW.pt (uS (wn2 hB hr.units (uW hB.symm hr.units (va 1) (aa kY ah)) af) (uS (cp nM (adt hB.symm hr.units) kY (va 2) (by rfl)) (qD (n5 (gp (wB bz (gE hB.symm T.xs) T.av agL (aa (va 0) (aa (wty T.lQ i6) ah))))))))) (ao (aL (bL (aa hX ah)))) aS) (aj (cC (gp (wx hB (va 1) af)) (ao (aL (bL (aa hX ah)))) aS) (aj (cC (gp (wx hB (va 1) af)) (ao (aL (bL (aa hX (aa (qM hB.symm T.xs T.acb (va 0) rfl) (aa (qM hB.symm T.xs T.wq (va 0) rfl) ah)))))) aS) (ao (aL (bL (aa (wx hB (bL (aa hX (aa hX ah))) (wT l7 xg T.yW boot_int (aa (wx hB (va 1) af) ah))) (aa (qM hB.symm T.xs T.aca (va 0) rfl) ah))))))))))
theorem eT:Cal P w K mg base CX0 44 "_law_told" ["_law_floor_here"] [] (spW K 1 bE):=T.qg.dN T.mgA dW cq λhB hr hx hp=>(aj (wS 1 cq.nd cS) (aj (uT (tb:=K51.cF) (th:=K51.dB) (i:=2) hB.symm rfl rfl cq.nd rfl rfl (by rfl) T.lR (λa b h=>T.xs.ex a b _ _ h T.lZ) (λ_ _ B hB hx hp=>ao (wS 1 cq.nd (clX hB hr hx (mZ T) (aa (va 0) ah)))) λc B hB hx=>have hr:=hr.sui (v:=some (.ref c)) (by decide);ao (wS 1 cq.nd (cl hB hr (lN T) (aa (va 2) ah)))) (ao (aL (va 1)))))
theorem lK:Cal P w K mg base CX0 1 "_law_whole" ["_law_found"] [] (spW K 1 iZ):=T.nB.dN T.mgA h8 lq λhB hr hx hp=>ao (aL (qP (wB bh (cE hB.symm) T.av agL (aa (va 0) (aa (wty T.yW boot_int) ah))) (qL (aar (wB bh (cE hB.symm) T.av agL (aa (va 0) (aa (wty T.abG boot_bool) ah)))))))
theorem gy{f:Addr}{c:FuncData}(b:Fun K "_law_same" "_law_same" fV f c)(e:mg "_law_same"=some (.ref f))(g:Binds K c ["_law_found","_law_due"] []):∀n:Nat,FnOk P w K mg base CX0 (40+n) f c ["_law_found","_law_due"] (spW K 2 (aB n))|0=>zG b de rfl|n+1=>have a:=gy b e g n;uf (dY (aB n)) b de rfl rfl rfl (by decide) λh A d s H E B hB hr hx hp=>(aj (cC (gp (wB l6 (qW hB.symm) T.av agL (aa (va 1) (aa (bf (aa (wty T.sA boot_list) (aa (wty T.kc ajp) ah))) ah)))) (aj (cC (PW.pt (uS (wn2 hB hr.units (wB bh (cE hB.symm) T.av agL (aa (va 0) (aa (wty T.sA boot_list) ah))) (wB bh (cE hB.symm) T.av agL (aa (va 1) (aa (wty T.sA boot_list) ah)))) (qD (wn2 hB hr.units (wB bh (cE hB.symm) T.av agL (aa (va 0) (aa (wty T.kc ajp) ah))) (wB bh (cE hB.symm) T.av agL (aa (va 1) (aa (wty T.kc ajp) ah))))))) (ao (aL kY)) aS) (aj (cC (wn2 hB hr.units (wB cP (k6 hB.symm) T.ke ahz (aa (va 0) ah)) (wB cP (k6 hB.symm) T.ke ahz (aa (va 1) ah))) (ao (aL kY)) aS) (aj (e9 hp (cm hr) (aao hB.symm (by rfl) T.aei (va 0) (va 1)) (ji hB.symm (cm hr) (bc (gN 2 de.nd) (bc (gN 3 de.nd) fP)) rfl (bI (bI jE)) cQ) (show PSs _ _ (loS _ (K51.cL (K51.aB n)))from ao (cC (n5 (gp (qO hB.symm a (hr.mono (agx _)) (by rfl) e b.kp g (aa (va 2) (aa (va 3) ah)) (gm (gm mj))))) (ao (aL kY)) aS))) (ao (aL kY))))) aS) (aj (cC (gp (wB bh (cE hB.symm) T.av agL (aa (va 1) (aa (wty T.abF boot_str) ah)))) (ao (aL (qP (wB bh (cE hB.symm) T.av agL (aa (va 0) (aa (wty T.abF boot_str) ah))) (qL (qN calm_eq (w_eq hB.symm hr.units) (va 0) (va 1) (cT _)))))) aS) (ao (aL (qP (cl hB hr (lK T) (aa (va 0) ah) (agy (by decide) (ahE _ _))) (qL (qN calm_eq (w_eq hB.symm hr.units) (va 0) (va 1) (cT _))))))))
theorem eU:Cal P w K mg base CX0 43 "_law_same" ["_law_found","_law_due"] [] (spW K 2 (aB 3)):=T.qh.af9 T.mgA (λ_ _ _ _ _ _ c a=>wO (λ_ _=>rfl) c a) λ_ _ b e d=>gy T b e d 3
theorem abB(a:BmA mg base)(e:W.CodeHd base tc tP){f:Addr}{c:FuncData}(g:Fun K "law" "law" yq f c):FnOk P w K mg base CX0 45 f c ["_law_script"] (spT tP tp0 (spW K 1 zA)):=ue u7 g iq rfl rfl rfl (by decide) λd A b s H E B _ k j hB hr hx hp=>(aj (wS 1 iq.nd (cl hB hr (p6 T) (aa (cl hB hr (eL T) (aa (va 0) (aa af ah))) ah))) (aj (e9 hp (cm hr) (qJ hB.symm (az aH (w_add hB.symm) (bL (aa (cl hB hr (eL T) (aa (va 0) (aa af ah))) ah)) (mF (x8 hB.symm) (va 0) (dz af) (dz af)))) (gN 2 iq.nd) (show PSs _ _ (loS _ K51.eY)from(aj (wS 3 iq.nd (clT hB hr j (lM T a e) (aa (va 2) (aa (va 1) ah)))) (aj (wS 4 iq.nd (cl hB hr (lL T) (aa (va 3) ah))) (aj (cC (cp uD w_is (va 4) cS (cT _)) (ao (wS 4 iq.nd (bL (aa hX ah)))) aS) (xY (i:=5) hB hr (eT T) iq.nd rfl (Or.inl rfl) (aa (va 3) ah) λh=>uV (n5 (gp (cl hB hr (eU T) (aa (va 5) (aa (va 4) ah))))) (ao (aL kY)) (qH hB T.nl (j5 (r0 ahC aip aiq iQ (pv 5) (bO xC dM))) (ao (cC (n5 (gp (cl hB hr (eU T) (aa (cl hB hr (eT T) (aa (va 3) ah)) (aa (va 4) ah))))) (ao (aL kY)) aS))))))))) (ao (aL (cl hB hr (eU T) (aa (cl hB hr (eT T) (aa (wk hB T.abI aaY (aav T)) ah)) (aa (bL (aa (bf (aa af (aa af ah))) (aa (bf (aa af (aa af ah))) (aa (bf (aa af (aa af ah))) (aa (bf (aa af (aa af ah))) ah))))) ah)))))))
theorem all_mk(a:∀e:List Int,e.length<=63->zA [.lst (e.map .int)]=.ok (.bl true)){l:W.OpenLaw}{c:Addr}(b:mg "law"=some (.ref c)):∃d:FuncData,(∀(s:Shared)(v:Value),BindsTo s d ⟨[v],[]⟩ [("_law_script",v)])/\∀base:Heap,K.In base->base.Ns mainGlobals mg->BmA mg base->W.CodeHd base tc tP->FnOk l.prog w K mg base CX0 45 c d ["_law_script"] (WS.ij tP tp0 K):=zc T.aeP T.mgA b (λ_ _ _ _ _ _ _=>rfl) (λ_ _ _ h g f=>abB T h g f) a
omit T
def walk{l:W.OpenLaw}{m:Program}{a:List Str}{i:(Str->Option Value)->Heap->Prop}{b:World->Heap->Prop}{d:DefRec}{K:Params->W.Frag}{tc tP:Addr}(k:l.most=some 63)(c:d.params.defaults=[])(j:∀(w:World)(h:Heap),b w h->(K w.params).In h)(hYt:∀(w:World)(h:Heap),b w h->h.get? tP=some (W.tabObj #[]))(hK:∀w:World,W.noTabs (K w.params)=true)(hCd:∀w:World,W.codeHdIn (K w.params) tc tP=true)(ht:∀w:World,W.tabIn (K w.params) "_law_floor"=some (tc,tP))(F:∀(w:World)(mg:Str->Option Value)(e:Addr)(h:Heap),(K w.params).In h->h.Ns mainGlobals mg->mg d.name=some (.ref e)->∃g:FuncData,(∀(s:Shared)(u:Value),BindsTo s g ⟨[u],[]⟩ [("_law_script",u)])/\∀base:Heap,(K w.params).In base->base.Ns mainGlobals mg->BmA mg base->W.CodeHd base tc tP->FnOk l.prog w (K w.params) mg base CX0 45 e g ["_law_script"] (WS.ij tP tp0 (K w.params))):W.WalkO m a i b l.row.toRowW d [] λf n=>PySem.call f n:=WS.u1 k c ⟨λ_=>rfl,by decide,by decide,rfl⟩ j hYt hK hCd F
end K51
open PySem PySem.W PyProof.Rows
set_option maxRecDepth 100000 in
set_option maxHeartbeats 0 in
theorem PySem.Challenge.cw_squarecall_k51_pairs_on_floors_holds : PySem.Challenge.rw_squarecall_k51_pairs_on_floors.Holds := by
 w_on;o_law;k_head;(case hw=>w_witness2)
 k_fill
 refine' K51.walk (l:=PySem.Challenge.rw_squarecall_k51_pairs_on_floors) rfl rfl (λw h Y=>W.km_in_of Y) ?hYt ?hK ?hCd ?ht ?F
 case ht=>exact λw=>WS.xj (by k_is) (by k_is) rfl (by k_is) rfl
 case hYt=>exact λw h Y=>W.km_tabs_of Y _ (by decide)
 case hK=>exact λw=>by kernel_rfl
 case hCd=>exact λw=>by kernel_rfl
 case F =>
 intro w mg fa h KX G hmg
 refine' K51.all_mk ?T K51.vZ hmg
 case T =>
  constructor<;>first|(exact WS.aeV (by k_is) (by k_is) (by k_is) (by k_is))|(exact WS.aaM (by k_is) (by repeat first|exact .nil|exact .cons rfl .nil|exact .cons ⟨_,rfl⟩ .nil|refine .cons rfl ?_|refine .cons ⟨_,rfl⟩ ?_) (by decide))|(exact WS.xj (by k_is) (by k_is) rfl (by k_is) rfl)|(exact WS.t6 (tab:=[("FloorError",_),("NotEven",_),("NoCall",_),("NoName",_),("NoProgram",_),("TooMany",_),("NoPairs",_),("NoRow",_),("Blind",_),("Out",_),("Meet",_),("Broken",_)]) (.head _) (by(refine WS.all_cons (WS.wt (by first|k_is|exact rfl) (by first|k_is|exact rfl) (by first|k_is|exact rfl) (by first|k_is|exact rfl) (by first|k_is|exact rfl) (by first|k_is|exact rfl)) ?_);(iterate 11 (refine WS.all_cons (WS.zB (by first|k_is|exact rfl) (by first|k_is|exact rfl) (by first|k_is|exact rfl) (by first|k_is|exact rfl) (by first|k_is|exact rfl) (by first|k_is|exact rfl)) ?_));exact WS.all_nil) (λ_ h=>.inl (by simpa [WL.gX] using h)) (show (["FloorError","NotEven","NoCall","NoName","NoProgram","TooMany","NoPairs","NoRow","Blind","Out","Meet","Broken"]:List String).Nodup from by decide) (by decide) (by first|k_is|exact rfl) (by first|k_is|exact rfl))|(exact WS.afD (WS.cR (by decide)) (WS.cR (by decide)) (WS.cR (by decide)) (WS.cR (by decide)) (WS.cR (by decide)) (WS.cR (by decide)) (WS.cR (by decide)) (WS.cR (by decide)) (WS.cR (by decide)) (WS.cR (by decide)) (WS.tU (by first|k_is|exact rfl) (by first|k_is|exact rfl) (by first|k_is|exact rfl)) (WS.cR (by decide)))|(exact WS.afD (WS.cR (by decide)) (WS.cR (by decide)) (WS.cR (by decide)) (WS.cR (by decide)) (WS.cR (by decide)) (WS.cR (by decide)) (WS.cR (by decide)) (WS.cR (by decide)) (WS.tU (by first|k_is|exact rfl) (by first|k_is|exact rfl) (by first|k_is|exact rfl)) (WS.tU (by first|k_is|exact rfl) (by first|k_is|exact rfl) (by first|k_is|exact rfl)) (WS.cR (by decide)) (WS.cR (by decide)))|(exact λ_ _=>W.mg_of KX G)|(refine W.mg_of KX G ?_;k_is)|(refine W.mg_none_of KX G ?_;k_is)|(refine⟨by decide,?_⟩;k_is)|(exact L2.pE.mk (by k_is) (by kernel_rfl))|(first|kernel_rfl|exact rfl)|(k_is)|(exact rfl)

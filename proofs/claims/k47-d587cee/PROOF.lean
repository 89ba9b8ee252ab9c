import PyProof.Rows.All
import Wide.All
import OpenK.AllK
import Wide.FinOn
import Lean
import PyProof.EqAt
import PyProof.EqKinds
import PyProof.TupleCall
import PyProof.DictWalks
import PyProof.DictIter
import PyProof.ExcStr
import PyProof.ExcStrAll.ValueError
import KE.KTryMore
import PySem.Str
import PyProof.StrLawsIn
import PyProof.Rows.StrNews2
import PyProof.Rows.StrLawsPart
import PyProof.Rows.StrJoin2
import PyProof.Rows.Range3
import PyProof.StrLoop
import KE.KIntText
import PyProof.TableCode
import PySem.Challenge.RW_squarecall_k47_too_many_calls
set_option linter.all false
open PySem renaming wpAny_bind->aif,wpAny_pure->aio,wpAny_mono->aiA,wpAny_field->aiF,boot_len->aiJ,mem_of_lookup->aiU,wpAny_holding->aja,wpAny_truthy_bool->ajb,wpAny_callSpecial?_slot->ajh,wpAny_call_entry->aji,wpAny_setField->ajr,plainObj_wpAny_Assign_Attribute->ajt,wpAny_standAt->ajw,wpAny_call->ajy,wpAny_Call_Name_kw->ajz,call_meets->ajA,wpAny_setField_rec->ajC,codeAny_call_builtin->ajO,sizeLine_eq->ajS,wpAny_execs_nil->ajU,wpAny_passesOwn->ajV,codeAny_mono->ajX,wpAny_newObj_type->aka,wpAny_pyIter_enum->akc,strLen_append->akk,typeIs_str->akp,wpAny_isSubtype_exc->akx,wpAny_loadPart->akA,wpAny_attempt->akL,wpAny_letOwnedTupleGo_enum->akM,wpAny_loadPart_at->akQ,codeAny_handlers_suite_as->akT,wpAny_execs_cons->akY,wpAny_lookBehind->akZ,pastItsLine_dict->ak0,concat_meets->ak5,noFill_tuple_add->ak6,wpAny_comprehension_free->ak9,typeIs_none->ali,wpAny_seqItems->alj,refuseLoop_ref->alk,wpAny_Name->aln
open PySem.Heap renaming get?_push_of_some->aih,lt_size->air,get?_push_size->ais,get?_update_other->aiG,get?_update_self->ai1,get?_none_of_le->ai5,size_push->akB
open List renaming getElem?_set_ne->aii,getElem?_eq_some_iff->ail,getElem?_set_self->ain,length_cons->ait,getElem?_eq_getElem->aiv,mem_append_right->aiy,map_cons->aiC,getElem?_append_left->aiD,getElem?_append_right->aiE,mem_cons_self->aiI,getElem?_map->aiK,length_append->aiM,mem_cons->aiO,mem_append_left->aiP,drop_eq_getElem_cons->aiQ,length_map->aiR,append_nil->aiS,lookup_cons->aiT,mem_cons_of_mem->aiV,mem_singleton->aiX,replicate_succ->aiZ,all_eq_true->ai6,size_toArray->ai8,length_replicate->ajd,flatten_cons->ajf,getElem?_replicate->ajg,mem_append->ajj,nodup_cons->ajl,length_nil->ajm,drop_length->ajs,nil_append->ajD,set_cons_succ->ajE,set_cons_zero->ajF,length_take->ajK,not_mem_nil->ajM,cons_append->ajN,getD_eq_getElem?_getD->ajQ,extract_eq_drop_take'->ajR,mem_map_of_mem->ajT,mem_range->aj4,drop_zero->aj6,length_eq_zero_iff->aj8,all_cons->akj,length_singleton->akl,mem_of_getElem?->akn,drop_eq_nil_iff->aks,filterMap_cons->akv,zip_cons_cons->akI,isEmpty_cons->akR,getElem?_take_of_lt->ak4,length_drop->ak7,map_nil->ala,of_mem_zip->alf,map_append->alg,length_set->alh,drop_take->alm
open Nat renaming le_refl->aim,le_trans->aip,lt_of_lt_of_le->aiq,ne_of_lt->aix,zero_le->aiN,ne_of_gt->aiW,lt_irrefl->ajo,min_le_right->ajL,lt_of_lt_of_eq->ajZ,lt_of_le_of_lt->aj0,zero_add->akt,le_succ->akF,ble_eq->akV,le_of_lt->akX,le_of_eq->ak1,lt_succ_self->ak2,le_of_not_lt->ak8,le_add_right->alc
open Ne renaming symm->aiu
open Bool renaming and_eq_true->aiw,false_ne_true->aiz,and_eq_true_iff->aiY,eq_iff_iff->ajk,beq_eq_decide_eq->ajJ,false_eq_true->aj1
open Option.some renaming inj->aiB
open PyProof.Rows renaming boot_isinstance->aiH,formatField_str->ai2,callWith_type1->ai4,slot_tuple_getitem->aju,FormattedValue_plain->akg,callWith_builtin1->ako,boot_range->alo,boot_tuple->alp
open Option renaming map_eq_some_iff->aiL,isSome_iff_exists->ai0,bind_some->ajP
open PySem.F renaming excBase_ValueError->ai7,slot_NoneType_hash->ajn,slot_tuple_iterator_next->ajp,plainAttrs_list->ajv,slot_str_split->ajG,slot_enumerate_next->ajI,args_tuple_add_2->ajY,args_str_split_2->aj3,entry_tuple_add->aj7,entry_str_split->aj9,slot_tuple_add->akf,plainAttrs_str->akh,slot_str_ascii_iterator_iter->aku,args_tuple_iterator_next_1->akD,entry_tuple_iterator_next->akH,slot_str_partition->akN,slot_dict_getitem->akS,excStr_ValueError->akU,slot_list_append->ald,type_list_append->ale
open PySem.W renaming kia_one->ajc,looks_clsIn->akK,callWith_K->ak3
open Array renaming getElem?_eq_some_iff->ajq,toList_extract->akr,length_toList->akw,getElem?_setIfInBounds->akE,find?_toList->akG,getElem?_eq_getElem->akW,toList_inj->alb
open PySem.Calls renaming spliced_cons->ajx,evalArgs_plain->akq,Name_function_global->akJ
open PySem.Obj renaming data_mapFields->ajB,isFreed_of_fields->akm
open PySem.PassesOwn renaming leaving->ajH
open Nat.succ renaming inj->aj2
open Int renaming toNat_natCast->akb
open PySem.Str renaming ofString_eq_toList->aki
open PySem.Within renaming cons->akO
open PySem.Heap.Ns1 renaming of_empty->akP
def aij:=@if_pos
def aik:=@if_neg
def ai3:=@decide_eq_false
def ai9:=@beq_eq_false_iff_ne
def aje:=@beq_iff_eq
def ajW:=@congrArg
def aj5:=@if_true
def akd:=@of_decide_eq_true
def ake:=@decide_eq_true_eq
def aky:=@ne_true_of_eq_false
def akz:=@decide_eq_true
def akC:=@if_false
noncomputable section
set_option compiler.extract_closed false
set_option autoImplicit true
set_option relaxedAutoImplicit true
def aak{p q r:Prop}{C:Prop}(h:p/\q/\r)(K:p->q->r->C):C:=let⟨h0,h1,h2⟩:=h;K h0 h1 h2
def afu{p q r s:Prop}{C:Prop}(h:p/\q/\r/\s)(K:p->q->r->s->C):C:=let⟨h0,h1,h2,h3⟩:=h;K h0 h1 h2 h3
def aft{p q r s t:Prop}{C:Prop}(h:p/\q/\r/\s/\t)(K:p->q->r->s->t->C):C:=let⟨h0,h1,h2,h3,h4⟩:=h;K h0 h1 h2 h3 h4
def dh{p q:α->Prop}{C:Prop}(h:∃a,p a/\q a)(K:∀a,p a->q a->C):C:=let⟨a,h0,h1⟩:=h;K a h0 h1
def gD{p q r:α->Prop}{C:Prop}(h:∃a,p a/\q a/\r a)(K:∀a,p a->q a->r a->C):C:=let⟨a,h0,h1,h2⟩:=h;K a h0 h1 h2
def cH{p q:α->β->Prop}{C:Prop}(h:∃a b,p a b/\q a b)(K:∀a b,p a b->q a b->C):C:=let⟨a,b,h0,h1⟩:=h;K a b h0 h1
def cG{p q:α->β->Prop}(a b)(h0:p a b)(h1:q a b):∃a b,p a b/\q a b:=⟨a,b,h0,h1⟩
def jP{p q r:α->β->Prop}{C:Prop}(h:∃a b,p a b/\q a b/\r a b)(K:∀a b,p a b->q a b->r a b->C):C:=let⟨a,b,h0,h1,h2⟩:=h;K a b h0 h1 h2
def fg{p q r:α->β->Prop}(a b)(h0:p a b)(h1:q a b)(h2:r a b):∃a b,p a b/\q a b/\r a b:=⟨a,b,h0,h1,h2⟩
def jO{p q r s:α->β->Prop}{C:Prop}(h:∃a b,p a b/\q a b/\r a b/\s a b)(K:∀a b,p a b->q a b->r a b->s a b->C):C:=let⟨a,b,h0,h1,h2,h3⟩:=h;K a b h0 h1 h2 h3
def aal{p q r s:α->β->Prop}(a b)(h0:p a b)(h1:q a b)(h2:r a b)(h3:s a b):∃a b,p a b/\q a b/\r a b/\s a b:=⟨a,b,h0,h1,h2,h3⟩
def jB{p q r s t:α->β->Prop}{C:Prop}(h:∃a b,p a b/\q a b/\r a b/\s a b/\t a b)(K:∀a b,p a b->q a b->r a b->s a b->t a b->C):C:=let⟨a,b,h0,h1,h2,h3,h4⟩:=h;K a b h0 h1 h2 h3 h4
def tm{p q r s t:α->β->Prop}(a b)(h0:p a b)(h1:q a b)(h2:r a b)(h3:s a b)(h4:t a b):∃a b,p a b/\q a b/\r a b/\s a b/\t a b:=⟨a,b,h0,h1,h2,h3,h4⟩
def aaj{p q r s t u:α->β->Prop}{C:Prop}(h:∃a b,p a b/\q a b/\r a b/\s a b/\t a b/\u a b)(K:∀a b,p a b->q a b->r a b->s a b->t a b->u a b->C):C:=let⟨a,b,h0,h1,h2,h3,h4,h5⟩:=h;K a b h0 h1 h2 h3 h4 h5
def aca{p q r s t u:α->β->Prop}(a b)(h0:p a b)(h1:q a b)(h2:r a b)(h3:s a b)(h4:t a b)(h5:u a b):∃a b,p a b/\q a b/\r a b/\s a b/\t a b/\u a b:=⟨a,b,h0,h1,h2,h3,h4,h5⟩
def pO{p q:α->β->γ->Prop}{C:Prop}(h:∃a b c,p a b c/\q a b c)(K:∀a b c,p a b c->q a b c->C):C:=let⟨a,b,c,h0,h1⟩:=h;K a b c h0 h1
def xA{p q:α->β->γ->Prop}(a b c)(h0:p a b c)(h1:q a b c):∃a b c,p a b c/\q a b c:=⟨a,b,c,h0,h1⟩
def tj{p q r:α->β->γ->Prop}{C:Prop}(h:∃a b c,p a b c/\q a b c/\r a b c)(K:∀a b c,p a b c->q a b c->r a b c->C):C:=let⟨a,b,c,h0,h1,h2⟩:=h;K a b c h0 h1 h2
def ab9{p q r:α->β->γ->Prop}(a b c)(h0:p a b c)(h1:q a b c)(h2:r a b c):∃a b c,p a b c/\q a b c/\r a b c:=⟨a,b,c,h0,h1,h2⟩
def xm{p q r s:α->β->γ->Prop}{C:Prop}(h:∃a b c,p a b c/\q a b c/\r a b c/\s a b c)(K:∀a b c,p a b c->q a b c->r a b c->s a b c->C):C:=let⟨a,b,c,h0,h1,h2,h3⟩:=h;K a b c h0 h1 h2 h3
def n9{p q r s:α->β->γ->Prop}(a b c)(h0:p a b c)(h1:q a b c)(h2:r a b c)(h3:s a b c):∃a b c,p a b c/\q a b c/\r a b c/\s a b c:=⟨a,b,c,h0,h1,h2,h3⟩
def aeX{p q r s t:α->β->γ->Prop}{C:Prop}(h:∃a b c,p a b c/\q a b c/\r a b c/\s a b c/\t a b c)(K:∀a b c,p a b c->q a b c->r a b c->s a b c->t a b c->C):C:=let⟨a,b,c,h0,h1,h2,h3,h4⟩:=h;K a b c h0 h1 h2 h3 h4
def afv{p q r s t:α->β->γ->Prop}(a b c)(h0:p a b c)(h1:q a b c)(h2:r a b c)(h3:s a b c)(h4:t a b c):∃a b c,p a b c/\q a b c/\r a b c/\s a b c/\t a b c:=⟨a,b,c,h0,h1,h2,h3,h4⟩
def acp{p q:α->β->γ->δ->Prop}{C:Prop}(h:∃a b c d,p a b c d/\q a b c d)(K:∀a b c d,p a b c d->q a b c d->C):C:=let⟨a,b,c,d,h0,h1⟩:=h;K a b c d h0 h1
def aeZ{p q:α->β->γ->δ->Prop}(a b c d)(h0:p a b c d)(h1:q a b c d):∃a b c d,p a b c d/\q a b c d:=⟨a,b,c,d,h0,h1⟩
def aeW{p q r s t u:α->β->γ->δ->Prop}{C:Prop}(h:∃a b c d,p a b c d/\q a b c d/\r a b c d/\s a b c d/\t a b c d/\u a b c d)(K:∀a b c d,p a b c d->q a b c d->r a b c d->s a b c d->t a b c d->u a b c d->C):C:=let⟨a,b,c,d,h0,h1,h2,h3,h4,h5⟩:=h;K a b c d h0 h1 h2 h3 h4 h5
def acr{p q r s t u:α->β->γ->δ->ε->Prop}(a b c d e)(h0:p a b c d e)(h1:q a b c d e)(h2:r a b c d e)(h3:s a b c d e)(h4:t a b c d e)(h5:u a b c d e):∃a b c d e,p a b c d e/\q a b c d e/\r a b c d e/\s a b c d e/\t a b c d e/\u a b c d e:=⟨a,b,c,d,e,h0,h1,h2,h3,h4,h5⟩
def aai{p q r:α->β->γ->δ->ε->ζ->η->θ->ι->Prop}{C:Prop}(h:∃a b c d e f g i j,p a b c d e f g i j/\q a b c d e f g i j/\r a b c d e f g i j)(K:∀a b c d e f g i j,p a b c d e f g i j->q a b c d e f g i j->r a b c d e f g i j->C):C:=let⟨a,b,c,d,e,f,g,i,j,h0,h1,h2⟩:=h;K a b c d e f g i j h0 h1 h2
set_option Elab.async false
set_option linter.all false
set_option maxRecDepth 100000
namespace L2
open PySem PySem.Spec PyProof.Rows
abbrev Key:=Sum (Option Int) Str
noncomputable def hU:Int:=0xFCA86420
def vU{prog w A E s Q}(h:Q hU {s with toks:=s.toks+1}):wpAny (model prog w) A (pyHash .none) Q E s:=by unfold pyHash;refine aif ?_;refine aio ?_;refine aif (wpAny_specialOf (ali s) ajn.lookup ?_);refine aif (wpAny_specialOf (ali s) ajn.lookup ?_);refine aif (wpAny_callSpecialIfBoundUnlessNone?_slot (ali s) ajn (aji ajn (ali s) PySem.F.entry_NoneType_hash (wpAny_ret_mkInt ?_) (PySem.F.args_NoneType_hash_1 _)));show wpAny _ _ (if(decide (-(2:Int)^63<=hU)&&decide (hU<2^63))=true then _ else _) Q E _;rw[aij (by decide)];exact aio h
noncomputable def sq:Key->Value->Bool|.inl (some k),v=>Value.isInt k v|.inl none,.none=>true|.inl none,_=>false|.inr x,v=>Value.isStrOf x v
def ahW(w:World):Key->Int|.inl (some k)=>hashInt k|.inl none=>hU|.inr x=>hashStr w x
def aP:∀{k v},sq k v=true->(∃i t,k=Sum.inl (some i)/\v=Value.int i t)\/(∃x t,k=Sum.inr x/\v=Value.str x t)\/k=Sum.inl none/\v=.none
|.inl (some i),v,h=>by obtain⟨t,e⟩:=Value.isInt_shape  h;exact .inl ⟨i,t,rfl,e⟩|.inl none,v,h=>by cases v<;>first|exact .inr (.inr ⟨rfl,rfl⟩)|exact nomatch h
|.inr x,v,h=>by obtain⟨t,e⟩:=Value.isStrOf_shape  h;exact .inr (.inl ⟨x,t,rfl,e⟩)
def vJ(i)(t):sq (.inl (some i)) (.int i t)=true:=by simp[sq,Value.isInt]
def vI(x)(t):sq (.inr x) (.str x t)=true:=by simp[sq,Value.isStrOf]
def aee(a b):decide ((Sum.inl (some a):Key)=Sum.inl (some b))=(a==b):=by grind
def aeb(a b):decide ((Sum.inr a:Key)=Sum.inr b)=decide (a=b):=by simp
def key_is(a)(b):decide ((Sum.inl (some a):Key)=Sum.inr b)=false:=ai3 λq=>nomatch q
def aef(a):decide ((Sum.inl (some a):Key)=Sum.inl none)=false:=ai3 λq=>nomatch q
def aea(a)(b):decide ((Sum.inr a:Key)=Sum.inl (some b))=false:=ai3 λq=>nomatch q
def ad9(a):decide ((Sum.inr a:Key)=Sum.inl none)=false:=ai3 λq=>nomatch q
def aed(a):decide ((Sum.inl none:Key)=Sum.inl (some a))=false:=ai3 λq=>nomatch q
def aec(a):decide ((Sum.inl none:Key)=Sum.inr a)=false:=ai3 λq=>nomatch q
def bp(prog:Program)(w:World):PySem.KeyKind prog w Key where
 is:=sq;hash:=ahW w;inj:=λv a b ha hb=>by rcases aP ha with⟨i,t,rfl,rfl⟩|⟨x,t,rfl,rfl⟩|⟨rfl,rfl⟩<;>rcases aP hb with⟨j,u,rfl,e⟩|⟨y,u,rfl,e⟩|⟨rfl,e⟩<;>(cases e;try rfl)
 byValue:=λk v h=>by rcases aP h with⟨i,t,rfl,rfl⟩|⟨x,t,rfl,rfl⟩|⟨rfl,rfl⟩<;>rfl
 pyHash:=λhv h=>by
  rcases aP hv with⟨i,t,rfl,rfl⟩|⟨x,t,rfl,rfl⟩|⟨rfl,rfl⟩;.exact wpAny_pyHash_int h
  .exact wpAny_pyHash_str h
  .exact vU h
 eqBool:=λhu hv h=>by
  rcases aP hu with⟨i,t,rfl,rfl⟩|⟨x,t,rfl,rfl⟩|⟨rfl,rfl⟩
  .rcases aP hv with⟨j,u,rfl,rfl⟩|⟨y,u,rfl,rfl⟩|⟨rfl,rfl⟩;.rw[aee]at h;exact wpAny_eqBool_int h
   .rw[key_is]at h;exact SeqAt.EqAt.int_str i t y u _ _ _ _ h
   .rw[aef]at h;exact SeqAt.EqAt.int_none i t _ _ _ _ h
  .rcases aP hv with⟨j,u,rfl,rfl⟩|⟨y,u,rfl,rfl⟩|⟨rfl,rfl⟩;.rw[aea]at h;exact SeqAt.EqAt.str_int x t j u _ _ _ _ h
   .rw[aeb]at h;exact wpAny_eqBool_str h
   .rw[ad9]at h;exact SeqAt.EqAt.str_none x t _ _ _ _ h
  .rcases aP hv with⟨j,u,rfl,rfl⟩|⟨y,u,rfl,rfl⟩|⟨rfl,rfl⟩;.rw[aed]at h;exact SeqAt.EqAt.none_int j u _ _ _ _ h
   .rw[aec]at h;exact SeqAt.EqAt.none_str y u _ _ _ _ h
   .rw[akz rfl]at h;unfold eqBool;rw[aij (show(Value.none==Value.none)=true from rfl)];exact aif (wpAny_rule (aio h))
 «strs»:=λk x t v h=>by
  rcases aP h with⟨i,u,rfl,e⟩|⟨y,u,rfl,e⟩|⟨_,e⟩;.exact nomatch e
  .injection e with e1 _;subst e1;cases v<;>rfl
  .exact nomatch e
def o3(prog)(w)(i)(t):(bp prog w).is (.inl (some i)) (.int i t)=true:=vJ i t
def oZ(prog)(w)(x)(t):(bp prog w).is (.inr x) (.str x t)=true:=vI x t
inductive V where|non|bl(b:Bool)|int(i:Int)|str(x:Str)|byt(b:Array UInt8)|flt(b:UInt64)|ref(a:Addr)|ty(n:String)deriving DecidableEq
def RelV:V->Value->Prop|.non,u=>u=Value.none|.bl b,u=>u=Value.bool b|.int i,u=>∃t,u=Value.int i t|.str x,u=>∃t,u=Value.str x t|.byt b,u=>∃t,u=Value.bytes b t|.flt b,u=>∃t,u=Value.float b t|.ref a,u=>u=Value.ref a|.ty n,u=>u=Value.type n
abbrev Vals:List V->List Value->Prop:=Paired RelV
theorem Vals.length{xs us}(r:Vals xs us):xs.length=us.length:=Paired.length r
theorem Vals.get:∀{xs:List V}{us:List Value}{i:Nat}{x:V},Vals xs us->xs[i]?=some x->∃u,us[i]?=some u/\RelV x u|_,_,_,_,.nil,e=>by simp at e|_,_,0,_,.cons r _,e=>by simp at e;subst e;exact⟨_,rfl,r⟩|_,_,i+1,x,.cons _ t,e=>by obtain⟨u,a,b⟩:=Vals.get (i:=i) (x:=x) t (by simpa using e);exact⟨u,by simpa using a,b⟩
theorem Vals.append:∀{xs ys us ws},Vals xs us->Vals ys ws->Vals (xs++ys) (us++ws)|_,_,_,_,.nil,s=>s|_,_,_,_,.cons r t,s=>.cons r (Vals.append t s)
theorem Vals.take:∀{xs us}n,Vals xs us->Vals (xs.take n) (us.take n)|_,_,0,_=>.nil|_,_,_+1,.nil=>.nil|_,_,n+1,.cons r t=>.cons r (Vals.take n t)
theorem Vals.drop:∀{xs us}n,Vals xs us->Vals (xs.drop n) (us.drop n)|_,_,0,r=>r|_,_,_+1,.nil=>.nil|_,_,n+1,.cons _ t=>Vals.drop n t
def n8:Option V->Option Value->Prop|some v,some u=>RelV v u|none,none=>True|_,_=>False
def KV{a}:List (a×V)->List (a×Value)->Prop:=Paired λ(p:a×V)(q:a×Value)=>p.1=q.1/\RelV p.2 q.2
noncomputable def kV:Key->V|.inl (some i)=>.int i|.inl none=>.non|.inr x=>.str x
inductive HO where/-- a list -/|lst(xs:List V)/-- a tuple (never changes) -/|tup(xs:List V)/-- a dict whose keys are ints and texts;one whose keys are tuples of ints and texts (the empty one is both) -/|dK(kvs:List (Key×V))|dT(kvs:List (List Key×V))/-- a set of ints: its members,its size -/|set(S:Int->Bool)(n:Nat)/-- an instance of the class at C,its dict at dx,its attributes -/|ins(C dx:Addr)(fs:List (Str×V))/-- the dict of the instance at x -/|own(x:Addr)/-- the dict of an exception -/|xd(fs:List (Str×V))/-- a bound method,f of x -/|met(f x:Addr)/-- a range object lo,lo+1,.. below hi -/|rng(lo hi:Int)/-- a thing that is known to the object (the script;a dict while a loop walks it): read,never written while it is so -/|frz(o:Obj)(u:HO)/-- a code object's table -/|tbl(ps:Array Value)/-- a code object's table as TabAt tells -/|tab(ps:Array Value)/-- any other thing,by what is true of its one object (a def of one's own: SetO a S n:=HO.ext λh => ..) -/|ext(φ:Heap->Prop)
abbrev Hp:=Addr->Option HO
noncomputable def upd(H:Hp)(a:Addr)(o:HO):Hp:=λb=>if b=a then some o else H b
def ah{H a o}:upd H a o a=some o:=by unfold upd;rw[aij rfl]
def ae{H a b o}(h:b≠a):upd H a o b=H b:=by unfold upd;rw[aik h]
def ud{H a o u}:upd (upd H a o) a u=upd H a u:=by funext b;unfold upd;split<;>rfl
def agu{H:Hp}{a b o u}(h:H a=some o)(h':H b=some u)(d:o≠u):a≠b:=by grind
def aD{H:Hp}{a b o}(h:H a=some o)(h':H b=none):a≠b:=by grind
def TabAt(H:Hp)(h:Heap)(a:Addr)(ps:Array Value):Prop:=h.get? a=some {cls:=.none,data:=.fields #[]}\/∃(c:Addr)(q:Str)(t:Tok),H c=some (.own a)/\ps[2]?=some (.str q t)/\h.get? a=some {cls:=.none,data:=.fields #[ps.getD 0 .none,ps.getD 1 .none,.ref c]}/\h.CodeRec (.ref c) q
section
variable(P:Program)(w:World)
def bL(H:Hp)(h:Heap)(a:Addr):HO->Prop|.lst c=>c.length<=sizeLine/\∃(b:List Value)(n:Nat),Vals c b/\h.get? a=some {cls:=.type "list",data:=.seq b.toArray n}|.tup c=>c.length<=sizeLine/\∃b:List Value,Vals c b/\IsTup h a b.toArray|.dK kvs=>kvs.length<=sizeLine/\(a==sysModules)=false/\∃g,KV kvs g/\h.DictOf (bp P w) a g|.dT kvs=>kvs.length<=sizeLine/\(a==sysModules)=false/\∃c:List (List Key×Addr×Value),Paired (λ(p:List Key×V)(q:List Key×Addr×Value)=>p.1=q.1/\H q.2.1=some (.tup (p.1.map kV))/\RelV p.2 q.2.2) kvs c/\∃o e k,h.get? a=some o/\o.ExactDict/\o.data=.dict e k/\e.toList=c.map (entryOfKey (tupleKind (bp P w)))/\(c.map (·.1)).Nodup|.set S n=>h.SetOf (intKind P w) a S n|.ins C dx fs=>H dx=some (.own a)/\fs.length<=1000/\dx≠a/\h.get? a=some (W.instObj C dx)/\∃d,h.Ns1 dx d/\(∀f,n8 (fs.lookup f) (d f))/\PySem.Within d (fs.map (·.1))|.own _=>∃o,h.get? a=some o|.xd fs=>∃d,h.Ns1 a d/\∀f,n8 (fs.lookup f) (d f)|.rng lo hi=>∃t u v,h.get? a=some {cls:=.type "range",data:=.fields #[.int lo t,.int hi u,.int 1 v]}|.frz o u=>h.get? a=some o/\bL H h a u|.tbl ps=>h.get? a=some {cls:=.none,data:=.fields ps}|.tab ps=>TabAt H h a ps|.met f x=>h.get? a=some (W.methodObj (.ref f) (.ref x))|.ext φ=>φ h/\(∃o,h.get? a=some o)/\∀i j:Heap,φ i->(∀o,i.get? a=some o->j.get? a=some o)->φ j
def HOk(H:Hp)(h:Heap):Prop:=∀a o,H a=some o->bL P w H h a o
end
section
variable{P:Program}{w:World}{H H':Hp}{h h':Heap}{a:Addr}{o:HO}
theorem bL.lt(x:bL P w H h a o):a<h.objs.size:=by cases o with|lst xs=>obtain⟨_,_,_,_,e⟩:=x;exact air e|tup xs=>obtain⟨_,_,_,p⟩:=x;exact p.lt|dK kvs|dT kvs=>obtain⟨_,_,_,_,o,_,_,e,_⟩:=x;exact air e|set S n=>obtain⟨o,_,_,_,e,_⟩:=x;exact air e|ins C dx fs=>obtain⟨_,_,_,e,_⟩:=x;exact air e|own y=>obtain⟨_,e⟩:=x;exact air e|xd fs=>obtain⟨_,⟨_,_,_,e,_⟩,_⟩:=x;exact air e|rng lo hi=>obtain⟨_,_,_,e⟩:=x;exact air e|frz ob u=>obtain⟨e,_⟩:=x;exact air e|tbl ps|met f y=>exact air x|tab ps=>rcases x with e|⟨_,_,_,_,_,e,_⟩<;>exact air e|ext φ=>obtain⟨_,⟨_,e⟩,_⟩:=x;exact air e
theorem Paired.agw{α e F G}:∀{d:List α}{c:List e},Paired F d c->(∀a b,F a b->G a b)->Paired G d c|_,_,.nil,_=>.nil|_,_,.cons r t,f=>.cons (f _ _ r) (Paired.agw t f)
def bL.n6(x:bL P w H h a o)(k:∀b u,b=a\/H b=some (.own a)->h.get? b=some u->h'.get? b=some u)(D:∀b,H b=some (.own a)->H' b=some (.own a))(I:∀b l,H b=some (.tup l)->H' b=some (.tup l)):bL P w H' h' a o:=by
 induction o with|lst l=>obtain⟨z,j,n,r,e⟩:=x;exact⟨z,j,n,r,k _ _ (.inl rfl) e⟩|tup l=>obtain⟨z,j,r,ob,e,c⟩:=x;exact⟨z,j,r,ob,k _ _ (.inl rfl) e,c⟩|dK kvs=>obtain⟨z,y,s,r,ob,i,g,e,c⟩:=x;exact⟨z,y,s,r,ob,i,g,k _ _ (.inl rfl) e,c⟩|dT kvs=>obtain⟨z,y,l,r,ob,i,g,e,c⟩:=x;exact⟨z,y,l,Paired.agw r λp q z=>⟨z.1,I _ _ z.2.1,z.2.2⟩,ob,i,g,k _ _ (.inl rfl) e,c⟩|set S n=>obtain⟨ob,i,g,t,e,c⟩:=x;exact⟨ob,i,g,t,k _ _ (.inl rfl) e,c⟩|ins C dx fs=>obtain⟨d,z,E,e,m,⟨od,i,g,A,c⟩,r⟩:=x;exact⟨D _ d,z,E,k _ _ (.inl rfl) e,m,⟨od,i,g,k _ _ (.inr d) A,c⟩,r⟩|own y=>obtain⟨ob,e⟩:=x;exact⟨ob,k _ _ (.inl rfl) e⟩|xd fs=>obtain⟨m,⟨od,i,g,e,c⟩,r⟩:=x;exact⟨m,⟨od,i,g,k _ _ (.inl rfl) e,c⟩,r⟩|rng lo hi=>obtain⟨t,u,v,e⟩:=x;exact⟨t,u,v,k _ _ (.inl rfl) e⟩|frz ob u ih=>obtain⟨e,q⟩:=x;exact⟨k _ _ (.inl rfl) e,ih q⟩|tab ps=>
 rcases x with e|⟨c,q,t,B,N,e,O,J,s,K,A,M,G⟩;.exact .inl (k a _ (.inl rfl) e)
 .cases A;exact .inr ⟨c,q,t,D c B,N,k a _ (.inl rfl) e,c,J,s,K,rfl,k c _ (.inr B) M,G⟩|tbl ps=>have e:=x;exact k a _ (.inl rfl) e|met f y=>have e:=x;exact k a _ (.inl rfl) e|ext φ=>obtain⟨p,⟨o,e⟩,st⟩:=x;exact⟨st _ _ p λo q=>k _ _ (.inl rfl) q,⟨o,k _ _ (.inl rfl) e⟩,st⟩
theorem HOk.lt(x:HOk P w H h)(e:H a=some o):a<h.objs.size:=(x a o e).lt
def HOk.fresh(x:HOk P w H h)(e:h.objs.size<=a):H a=none:=by cases q:H a with|none=>rfl|some u=>exact absurd (aiq (x.lt q) e) (ajo _)
def HOk.kept(x:HOk P w H h)(k:∀b u,h.get? b=some u->h'.get? b=some u):HOk P w H h':=λa o e=>(x a o e).n6 (λb u _ q=>k b u q) (λ_ q=>q) λ_ _ q=>q
def HOk.laid(x:HOk P w H h)(k:∀b u,h.get? b=some u->h'.get? b=some u)(g:h.objs.size<=a)(new:bL P w (upd H a o) h' a o):HOk P w (upd H a o) h':=λb u e=>by
 have f:=x.fresh g;by_cases d:b=a;.subst d;rw[ah]at e;cases e;exact new
 .rw[ae d]at e;exact(x b u e).n6 (λc v _ q=>k c v q) (λc q=>by rw[ae (aD q f)];exact q) λc i q=>by rw[ae (aD q f)];exact q
end
def Rd(H:Hp)(a:Addr)(u:HO):Prop:=H a=some u\/∃o,H a=some (.frz o u)
def Rd.ok{P w H h a u}(r:Rd H a u)(x:HOk P w H h):bL P w H h a u:=by
 rcases r with r|⟨o,r⟩;.exact x a u r
 .obtain⟨_,q⟩:=x a _ r;exact q
def Mut:Option HO->Prop|some (.lst _)=>True|some (.dK _)=>True|some (.dT _)=>True|some (.set _ _)=>True|some (.ins _ _ _)=>True|some (.ext _)=>True|_=>False
section
variable{P:Program}{w:World}{H:Hp}{h h':Heap}{x e:Addr}{o':HO}
def HOk.write(ok:HOk P w H h)(d:Mut (H x))(n:e=x\/H e=some (.own x))(k:∀b u,b≠e->h.get? b=some u->h'.get? b=some u)(g:∃u,h'.get? e=some u)(new:bL P w (upd H x o') h' x o'):HOk P w (upd H x o') h':=λb u q=>by
 have a:∀c y,H c=some (.own y)->c≠x:=λc y r z=>by subst z;rw[r]at d;exact d
 by_cases i:b=x;.subst i;rw[ah]at q;cases q;exact new
 .rw[ae i]at q;by_cases j:b=e
  .have l:H b=some (.own x):=by grind
   rw[q]at l;cases l;obtain⟨v,o⟩:=g;exact⟨v,by grind⟩
  .refine(ok b u q).n6 (λc v f r=>k c v ?_ r) (λc r=>by rw[ae (a c b r)];exact r) λc m r=>by rw[ae ((λc m r z=>by subst z;rw[r]at d;exact d) c m r)];exact r
   rcases f with rfl|f;.exact j
   .rintro rfl;rcases n with z|z;.exact a c b f z
    .rw[f]at z;cases z;exact i rfl
end
structure Un(fs ex:List Addr)(H H':Hp)(h h':Heap):Prop where
 keep:∀b o,h.get? b=some o->H b=none->b∉fs->b∉ex->h'.get? b=some o
 slot:∀b o,h.get? b=some o->H b=none->b∈fs->b∉ex->∃sl,h'.get? b=some {o with slots:=sl}free:∀b o,h.get? b=some o->H b=none->b∉ex->H' b=none
 there:∀b o,h.get? b=some o->b∉ex->∃o',h'.get? b=some o'
 tups:∀b xs,H b=some (.tup xs)->H' b=some (.tup xs)frzs:∀b o u,H b=some (.frz o u)->H' b=some (.frz o u)tbls:∀b ps,H b=some (.tbl ps)->∃more,H' b=some (.tbl (ps++more))
section
variable{fs fs' ex ex':List Addr}{H H1 H2:Hp}{h h1 h2 h':Heap}{a x e:Addr}{o:HO}
def Un.any(u:Un fs ex H H1 h h1){b ob}(q:h.get? b=some ob)(n:H b=none)(c:b∉ex):∃f,h1.get? b=some {ob with slots:=f}:=by
 by_cases d:b∈fs;.exact u.slot b _ q n d c
 .exact⟨_,u.keep b _ q n d c⟩
def Un.kept(k:∀b u,h.get? b=some u->h'.get? b=some u):Un fs ex H H h h':=⟨λb ob q _ _ _=>k b ob q,λb ob q _ _ _=>⟨ob.slots,k b ob q⟩,λ_ _ _ n _=>n,λb ob q _=>⟨ob,k b ob q⟩,λ_ _ q=>q,λ_ _ _ q=>q,λ_ c q=>⟨#[],by rw[q];simp⟩⟩
def Un.refl:Un fs ex H H h h:=Un.kept λ_ _ q=>q
def Un.laid(k:∀b u,h.get? b=some u->h'.get? b=some u)(hp:h.objs.size<=a)(hn:H a=none):Un fs ex H (upd H a o) h h' where
 keep:=λb u q _ _ _=>k b u q;slot:=λb u q _ _ _=>⟨u.slots,k b u q⟩;free:=λb u q n _=>by rw[ae (aix (aiq (air q) hp))];exact n
 there:=λb u q _=>⟨u,k b u q⟩;tups:=λb xs q=>by rw[ae (aD q hn)];exact q
 frzs:=λb u xs q=>by rw[ae (aD q hn)];exact q
 tbls:=λb ps q=>⟨#[],by rw[ae (aD q hn),q];simp⟩
def Un.write(g:Mut (H x))(p:e=x\/H e=some (.own x))(k:∀b u,b≠e->h.get? b=some u->h'.get? b=some u)(f:∃u,h'.get? e=some u):Un fs ex H (upd H x o) h h':=by
 have l:∀b,H b=none->b≠x:=λb n z=>by subst z;rw[n]at g;exact g
 have i:∀b,H b=none->b≠e:=λb n z=>by grind
 have d:∀b u,H b=some u->¬Mut (some u)->b≠x:=λb u q r z=>by grind
 refine⟨λb u q n _ _=>k b u (i b n) q,λb u q n _ _=>⟨u.slots,k b u (i b n) q⟩,λb u q n _=>by rw[ae (l b n)];exact n,λb u q _=>?_,λb j q=>by rw[ae (d b _ q λz=>z)];exact q,λb u j q=>by rw[ae (d b _ q λz=>z)];exact q,λb m q=>⟨#[],by rw[ae (d b _ q λz=>z),q];simp⟩⟩;by_cases c:b=e;.subst c;exact f
 .exact⟨u,k b u c q⟩
end
noncomputable def trk(h:Heap)(H:Hp):List Addr:=(List.range h.objs.size).filter λa=>(H a).isSome
def zd(h:Heap)(H:Hp):Heap:=W.hideAll h (trk h H)
def vT(h)(H):(zd h H).objs.size=h.objs.size:=W.hideAll_size _ _
def zc{h H b o}(e:h.get? b=some o)(n:H b=none):(zd h H).get? b=some o:=W.hideAll_get _ e λa=>by have q:=(List.mem_filter.mp a).2;rw[n]at q;simp at q
def abl{h H b o}(e:(zd h H).get? b=some o):h.get? b=some o/\H b=none:=by have a:=W.of_hideAll _ e;refine⟨a,?_⟩;cases q:H b with|none=>rfl|some x=>have z:(zd h H).get? b=none:=W.hideAll_none _ (List.mem_filter.mpr ⟨aj4.mpr (air a),by grind⟩);rw[z]at e;cases e
noncomputable def ab7(g h:Heap)(L:Addr):List (Addr×Obj):=(List.range h.objs.size).filterMap λa=>if a=L\/(g.get? a).isSome=true then none else(h.get? a).map λo=>(a,o)
def rest(g h:Heap)(L d:Addr):List (Addr×Obj):=(ab7 g h L).filter λp=>decide (p.1≠d)
structure Mod(K:W.Frag)(mg:Str->Option Value)(base:Heap):Prop where
 kin:K.In base
 glob:base.Ns mainGlobals mg
 blt:∃mb,base.Ns builtinsNs mb/\∀x:Str,x≠"__name__"->mb x=bootBuiltins x
 nolimit:base.NoLimit
structure Cx where
 prog:Program
 w:World
 K:W.Frag
 mg:Str->Option Value
 base:Heap
 A:Around
 N:List Str
 s₀:Shared
 H₀:Hp
 env:Env
 outer:List Env
 stack:List Env
 ex:List Addr
 fn:Str->Bool
 calm:Bool
 pn:List (Addr×Obj)xe:Value->Shared->Prop
noncomputable def frs(l:List Env):List Addr:=l.filterMap (·.frame)
abbrev Cx.fs(X:Cx):List Addr:=frs X.outer
def Vis(a:Scope)(x:Str):Prop:=a.names.lookup x=some .local\/a.names.lookup x=some .cell\/a.names.lookup x=some .free
def Loc(a:Scope)(x:Str):Prop:=a.names.lookup x=some .local\/a.names.lookup x=some .cell
def Look(a:Env)(h:Heap)(m:Str->Option Value)(x:Str)(u:Value):Prop:=a.kindOf x=some .local/\m x=some u\/(a.kindOf x=some .cell\/a.kindOf x=some .free)/\∃c,a.cells.lookup x=some c/\h.IsCell c (some u)
abbrev Dbg(x:Str):Prop:=(x==("__debug__":Str))=false
abbrev SE(X:Cx)(e:Expr)(es:List Expr):Prop:=starEach (e::es) X.env=(false,eval e X.env)::starEach es X.env
abbrev BT(X:Cx)(p:Pos)(es:List Expr):Prop:=(backTo p (starEach es X.env)).any (·.1)=false
abbrev FL(X:Cx)(x:Str):Prop:=X.fn x=true\/X.env.scope.names.lookup x=some .local
structure Cx.Ok(X:Cx):Prop where
 mod:Mod X.K X.mg X.base
 kind:X.env.scope.kind=.function
 glob:X.env.globals=mainGlobals
 blt:X.env.builtins=builtinsNs
 above:X.s₀.heap.objs.size<=X.env.locals
 inj:∀x y c,X.env.cells.lookup x=some c->X.env.cells.lookup y=some c->x=y
 has:∀x,X.env.kindOf x=some .cell\/X.env.kindOf x=some .free->∃c,X.env.cells.lookup x=some c
 cab:∀x c,X.fn x=true->X.env.cells.lookup x=some c->X.s₀.heap.objs.size<=c
 hd:X.calm=true->X.A.handled=none
 frames:X.A.frames=some X.stack
 stk:X.stack=X.outer\/X.stack=X.env::X.outer/\X.env.frame=some X.env.locals
 exf:∀b∈X.ex,b≠X.env.locals/\∀x c,X.env.cells.lookup x=some c->c≠b
 bs:∀b o,X.base.get? b=some o->X.s₀.heap.get? b=some o/\X.H₀ b=none
 bsz:X.base.objs.size<=X.s₀.heap.objs.size
 noex:∀b o,X.base.get? b=some o->b∉X.ex
 exfs:∀b∈X.ex,b∉X.fs
 lW:X.s₀.heap.FunFrames X.base X.outer
 frf:∀b∈X.fs,X.H₀ b=none
structure Inv(X:Cx)(pins:List (Addr×Obj))(σ:List (Option V))(H:Hp)(s:Shared):Prop where
 ok:X.Ok
 os:s.os=X.s₀.os
 bare:AllBare s.gens
 base:Un X.fs X.ex X.H₀ H X.s₀.heap s.heap
 loc:∃m,s.heap.Ns X.env.locals m/\∀(i:Nat)(x:Str)(v:V),X.N[i]?=some x->σ[i]?=some (some v)->Vis X.env.scope x->∃u,RelV v u/\Look X.env s.heap m x u
 cell:∀x c,X.env.cells.lookup x=some c->∃v,s.heap.IsCell c v
 free:H X.env.locals=none
 freeC:∀x c,X.env.cells.lookup x=some c->H c=none
 pin:∀p∈X.pn++pins,s.heap.get? p.1=some p.2/\H p.1=none/\p.1≠X.env.locals/\p.1∉X.fs/\∀v,p.2.data≠.cell v
 hok:HOk X.prog X.w H s.heap
 len:σ.length=X.N.length
section
variable{X:Cx}{pins:List (Addr×Obj)}{σ:List (Option V)}{H H':Hp}{s:Shared}{h':Heap}
def Cx.Ok.ahS(ok:X.Ok){b o}(e:X.base.get? b=some o):b∉X.fs:=λa=>by have:=(ok.lW.mem a).1;rw[e]at this;cases this
theorem Inv.bs(I:Inv X pins σ H s):∀b o,X.base.get? b=some o->s.heap.get? b=some o/\H b=none:=λb o e=>⟨I.base.keep b o (I.ok.bs b o e).1 (I.ok.bs b o e).2 (I.ok.ahS e) (I.ok.noex b o e),I.base.free b o (I.ok.bs b o e).1 (I.ok.bs b o e).2 (I.ok.noex b o e)⟩
def Inv.bk(I:Inv X pins σ H s):∀b o,X.base.get? b=some o->s.heap.get? b=some o:=λb o e=>(I.bs b o e).1
theorem Inv.mod(I:Inv X pins σ H s):Mod X.K X.mg X.base:=I.ok.mod
def Inv.kIn(I:Inv X pins σ H s):X.K.In s.heap:=I.ok.mod.kin.keeps I.bk
theorem Inv.lt(I:Inv X pins σ H s):X.env.locals<s.heap.objs.size:=let⟨_,a,_⟩:=I.loc;a.lt
def Inv.sz(I:Inv X pins σ H s):X.s₀.heap.objs.size<=s.heap.objs.size:=aip I.ok.above (akX I.lt)
def Inv.ahR(I:Inv X pins σ H s){a:Addr}(h:s.heap.objs.size<=a):a∉X.fs:=λc=>by obtain⟨_,o,b,_⟩:=I.ok.lW.mem c;exact absurd (aiq (air b) (aip I.sz h)) (ajo _)
def Inv.cne(I:Inv X pins σ H s):∀x c,X.env.cells.lookup x=some c->c≠X.env.locals:=λx c e z=>by obtain⟨v,o,f,d⟩:=I.cell x c e;obtain⟨m,⟨h,g,i,b,a,_⟩,_⟩:=I.loc;rw[z,b]at f;cases f;rw[a]at d;cases d
theorem Inv.lW(I:Inv X pins σ H s):s.heap.FunFrames X.base X.outer:=by
 have all:∀(l),(∀b∈frs l,b∈X.fs)->X.s₀.heap.FunFrames X.base l->s.heap.FunFrames X.base l:=by intro l;induction l with|nil=>intro _ _;trivial|cons env r ih=>intro f k;obtain⟨g,⟨L,o,c,m,j,i⟩,h⟩:=k;have a:=f L (by unfold frs;rw[akv,c];exact aiI);obtain⟨n,e⟩:=I.base.slot L o j (I.ok.frf L a) a λz=>I.ok.exfs L z a;exact⟨g,aal L _ c m e i,ih (λb d=>f b (by unfold frs;rw[akv,c];exact aiV _ d)) h⟩
 exact all _ (λ_ d=>d) I.ok.lW
theorem Inv.stack(I:Inv X pins σ H s):s.heap.FunFrames X.base X.stack:=by
 rcases I.ok.stk with e|⟨e,a⟩;.rw[e];exact I.lW
 .rw[e];obtain⟨m,b,_⟩:=I.loc;exact .cons (by rw[I.ok.kind];decide) a b (ai5 (aip I.ok.bsz I.ok.above)) I.lW
def Inv.qc(I:Inv X pins σ H s):∀b∈frs X.stack,b∈X.env.locals::X.fs:=λb a=>by
 rcases I.ok.stk with e|⟨e,c⟩;.rw[e]at a;exact aiV _ a
 .rw[e]at a;unfold frs at a;rw[akv,c]at a;exact a
def Inv.ot(I:Inv X pins σ H s):∀b∈frs X.stack,H b=none:=λb a=>by
 rcases aiO.mp (I.qc b a)with e|a;.rw[e];exact I.free
 .obtain⟨_,o,c,_⟩:=I.ok.lW.mem a;exact I.base.free b o c (I.ok.frf b a) λz=>I.ok.exfs b z a
def Inv.x9{g' t' d'}{ch:List Addr}(I:Inv X pins σ H s)(g:∀b∈ch,(b∈X.ex\/X.s₀.heap.get? b=none)/\b≠X.env.locals/\(∀x c,X.env.cells.lookup x=some c->c≠b)/\∀p∈X.pn++pins,p.1≠b)(keep:∀b o,b≠X.env.locals->b∉X.fs->b∉ch->s.heap.get? b=some o->H b=none->h'.get? b=some o)(y:∀b o,b≠X.env.locals->b∈X.fs->b∉ch->s.heap.get? b=some o->H b=none->∃O,h'.get? b=some {o with slots:=O})(free:∀b o,b∉ch->s.heap.get? b=some o->H b=none->H' b=none)(there:∀b o,b∉ch->s.heap.get? b=some o->∃G,h'.get? b=some G)(J:∀b w,H b=some (.tup w)->H' b=some (.tup w))(C:∀b o u,H b=some (.frz o u)->H' b=some (.frz o u))(M:∀b N,H b=some (.tbl N)->∃K,H' b=some (.tbl (N++K)))(ns:∀m,s.heap.Ns X.env.locals m->h'.Ns X.env.locals m)(P:HOk X.prog X.w H' h')(Z:AllBare g'):Inv X pins σ H' {s with heap:=h',gens:=g',drawn:=d',toks:=t'}:=by
 have D:∀b o,X.s₀.heap.get? b=some o->b≠X.env.locals:=λb o e=>aix (aiq (air e) I.ok.above);have j:∀b o,X.s₀.heap.get? b=some o->b∉X.ex->b∉ch:=λb o e a A=>by
  rcases(g b A).1 with z|z;.exact a z
  .rw[z]at e;cases e
 have f:∀x c,X.env.cells.lookup x=some c->∀v,s.heap.IsCell c v->h'.IsCell c v:=λx c e v⟨o,B,R⟩=>by
  have h:c∉ch:=λz=>(g c z).2.2.1 x c e rfl;by_cases T:c∈X.fs;.obtain⟨O,q⟩:=y c o (I.cne x c e) T h B (I.freeC x c e);exact⟨_,q,R⟩
  .exact⟨o,keep c o (I.cne x c e) T h B (I.freeC x c e),R⟩
 refine⟨I.ok,I.os,Z,⟨λb o e n A a=>?_,λb o e n A a=>?_,λb o e n a=>?_,λb o e a=>?_,λb w e=>J b w (I.base.tups b w e),λb o w e=>C b o w (I.base.frzs b o w e),λb N e=>?_⟩,?_,λx c e=>?_,?_,λx c e=>?_,λp U=>?_,P,I.len⟩;.exact keep b o (D b o e) A (j b o e a) (I.base.keep b o e n A a) (I.base.free b o e n a)
 .obtain⟨O,t⟩:=I.base.slot b o e n A a;obtain⟨Q,E⟩:=y b _ (D b o e) A (j b o e a) t (I.base.free b o e n a);exact⟨Q,E⟩
 .obtain⟨G,t⟩:=I.base.there b o e a;exact free b G (j b o e a) t (I.base.free b o e n a)
 .obtain⟨G,t⟩:=I.base.there b o e a;exact there b G (j b o e a) t
 .obtain⟨m1,t⟩:=I.base.tbls b N e;obtain⟨m2,E⟩:=M b _ t;exact⟨m1++m2,by rw[E,Array.append_assoc]⟩
 .refine dh I.loc λm hn hl=>?_;refine⟨m,ns m hn,λi x v t E e3=>?_⟩;obtain⟨u,r,l⟩:=hl i x v t E e3;refine⟨u,r,?_⟩;rcases l with l|⟨k,c,e,z⟩;.exact .inl l
  .exact .inr ⟨k,c,e,f x c e _ z⟩
 .obtain⟨v,z⟩:=I.cell x c e;exact⟨v,f x c e v z⟩
 .obtain⟨m,⟨o,_,_,B,_⟩,_⟩:=I.loc;exact free _ o (λz=>(g _ z).2.1 rfl) B I.free
 .obtain⟨v,o,B,R⟩:=I.cell x c e;exact free c o (λz=>(g c z).2.2.1 x c e rfl) B (I.freeC x c e)
 .refine aft (I.pin p U) λe n S Y d=>?_;have h:p.1∉ch:=λz=>(g p.1 z).2.2.2 p U rfl;exact⟨keep p.1 p.2 S Y h e n,free p.1 p.2 h e n,S,Y,d⟩
def Inv.step{g' t' d' h' H'}{ch:List Addr}(I:Inv X pins σ H s)(a:∀b∈ch,(b∈X.ex\/X.s₀.heap.objs.size<=b)/\b≠X.env.locals/\(∀x c,X.env.cells.lookup x=some c->c≠b)/\∀p∈X.pn++pins,p.1≠b):=I.x9 (g':=g') (t':=t') (d':=d') (h':=h') (H':=H') λb d=>⟨(a b d).1.imp_right ai5,(a b d).2⟩
def Inv.un{t'}(I:Inv X pins σ H s)(u:Un X.fs [] H H' s.heap h')(c:HOk X.prog X.w H' h'):Inv X pins σ H' {s with heap:=h',toks:=t'}:=by obtain⟨m,⟨o,t,v,f,r⟩,_⟩:=id I.loc;obtain⟨p,g⟩:=u.any f I.free (by simp);exact I.step (ch:=[]) (λ_ z=>nomatch z) (λb o _ d _ e n=>u.keep b o e n d (by simp)) (λb o _ d _ e n=>u.slot b o e n d (by simp)) (λb o _ e n=>u.free b o e n (by simp)) (λb o _ e=>u.there b o e (by simp)) u.tups u.frzs u.tbls (λl i=>by refine pO i λq h k a j=>?_;rw[f]at a;cases a;exact xA _ _ _ g j) c I.bare
def Inv.call{g' t' d' ch}(I:Inv X pins σ H s)(u:Un (frs X.stack) ch H H' s.heap h')(h:HOk X.prog X.w H' h')(k:AllBare g')(d:∀b∈ch,(b∈X.ex\/X.s₀.heap.objs.size<=b)/\b≠X.env.locals/\(∀x c,X.env.cells.lookup x=some c->c≠b)/\∀p∈X.pn++pins,p.1≠b):Inv X pins σ H' {s with heap:=h',gens:=g',drawn:=d',toks:=t'}:=by obtain⟨m,⟨o,B,C,i,r⟩,_⟩:=id I.loc;obtain⟨y,g⟩:=u.any i I.free λz=>(d _ z).2.1 rfl;exact I.step d (λb o g v a e n=>u.keep b o e n (λz=>(aiO.mp (I.qc b z)).elim g v) a) (λb o _ _ a e n=>u.any e n a) (λb o a e n=>u.free b o e n a) (λb o a e=>u.there b o e a) u.tups u.frzs u.tbls (λw l=>by refine pO l λA j t f q=>?_;rw[i]at f;cases f;exact xA _ _ _ g q) h k
def Inv.turned{t' it}(I:Inv X pins σ H s)(k:∀b o,b≠it->s.heap.get? b=some o->h'.get? b=some o)(B:H it=none)(f:it≠X.env.locals)(i:it∈X.ex\/X.s₀.heap.objs.size<=it)(y:∀x c,X.env.cells.lookup x=some c->c≠it)(j:∀p∈X.pn++pins,p.1≠it):Inv X pins σ H {s with heap:=h',toks:=t'}:=by
 have d:∀b u,H b=some u->b≠it:=λb u e z=>by grind
 refine I.step (g':=s.gens) (ch:=[it]) (λb w=>?_) (λb o _ _ a e _=>k b o (λz=>a (by simp[z])) e) (λb o _ _ a e _=>⟨o.slots,k b o (λz=>a (by simp[z])) e⟩) (λ_ _ _ _ n=>n) (λb o a e=>⟨o,k b o (λz=>a (by simp[z])) e⟩) (λ_ _ e=>e) (λ_ _ _ e=>e) (λb A e=>⟨#[],by rw[e];simp⟩) (λm g=>?_) (λb u e=>?_) I.bare
 .have e:b=it:=by simpa using w
  subst e;exact⟨i,f,y,j⟩
 .refine pO g λo h t l r=>?_;exact xA o h t (k _ o (aiu f) l) r
 .refine(I.hok b u e).n6 (λc v a q=>k c v ?_ q) (λ_ q=>q) λ_ _ q=>q;rcases a with z|z;.rw[z];exact d b u e
  .exact d c _ z
def Inv.tok(I:Inv X pins σ H s)(t):Inv X pins σ H {s with toks:=t}:=I.un  Un.refl I.hok
theorem Inv.kept{t'}(I:Inv X pins σ H s)(k:∀b u,s.heap.get? b=some u->h'.get? b=some u):Inv X pins σ H {s with heap:=h',toks:=t'}:=I.un (Un.kept k) (I.hok.kept k)
theorem Inv.laid{a:Addr}{o t'}(I:Inv X pins σ H s)(k:∀b u,s.heap.get? b=some u->h'.get? b=some u)(c:s.heap.objs.size<=a)(new:bL X.prog X.w (upd H a o) h' a o):Inv X pins σ (upd H a o) {s with heap:=h',toks:=t'}:=I.un (Un.laid k c (I.hok.fresh c)) (I.hok.laid k c new)
theorem Inv.write{x e o t'}(I:Inv X pins σ H s)(d:Mut (H x))(c:e=x\/H e=some (.own x))(k:∀b u,b≠e->s.heap.get? b=some u->h'.get? b=some u)(a:∃u,h'.get? e=some u)(new:bL X.prog X.w (upd H x o) h' x o):Inv X pins σ (upd H x o) {s with heap:=h',toks:=t'}:=I.un (Un.write d c k a) (I.hok.write d c k a new)
def Inv.dH{a}(I:Inv X pins σ H s)(h:∀p∈a,s.heap.get? p.1=some p.2/\H p.1=none/\p.1≠X.env.locals/\p.1∉X.fs/\∀v,p.2.data≠.cell v):Inv X a σ H s:=⟨I.ok,I.os,I.bare,I.base,I.loc,I.cell,I.free,I.freeC,λp b=>(ajj.mp b).elim (λz=>I.pin p (aiP _ z)) (h p),I.hok,I.len⟩
def la{N:List Str}(d:N.Nodup){i j:Nat}{x}(a:N[i]?=some x)(b:N[j]?=some x):i=j:=by obtain⟨f,e⟩:=ail.mp a;obtain⟨g,c⟩:=ail.mp b;exact(List.getElem_inj d).mp (e.trans c.symm)
def iw{M A E i x v u Q}(I:Inv X pins σ H s)(hN:X.N.Nodup)(S:X.N[i]?=some x)(w:Loc X.env.scope x)(r:RelV v u)(h:∀s',Inv X pins (σ.set i (some v)) H s'->(∃a,Heap.SameBut a s.heap s'.heap/\(a=X.env.locals\/X.env.cells.lookup x=some a))->Q () s')(hf:FL X x:=by first|exact .inl rfl|exact .inr rfl|assumption):wpAny M A (storeName X.env x u) Q E s:=by
 refine dh (id I.loc) λm hn hl=>?_;have O:(X.env.scope.kind==.class||X.env.scope.kind==.module&&X.env.locals !=X.env.globals)=false:=by rw[I.ok.kind];rfl
 have D:i<σ.length:=by rw[I.len];exact(ail.mp S).1
 have cne:=I.cne;have g:∀{a:Addr}{h':Heap},(∃o,s.heap.get? a=some o/\H a=none)->Heap.SameBut a s.heap h'->HOk X.prog X.w H h':=λ{a h'}ha f b ob e=>by
  obtain⟨_,_,B⟩:=ha;refine(I.hok b ob e).n6 (λc w' t q=>(f.2 c ?_).trans q) (λ_ q=>q) λ_ _ q=>q;rintro rfl;rcases t with rfl|t;.rw[B]at e;cases e
  .rw[B]at t;cases t
 rcases w with N|N
 .refine wpAny_storeName_local N hn (λh' a0 f=>?_) O;obtain⟨oL,_,_,a1,_⟩:=id hn;refine h _ ⟨I.ok,I.os,I.bare,⟨λb o e n G w=>?_,λb o e n G w=>?_,I.base.free,λb o e w=>?_,I.base.tups,I.base.frzs,I.base.tbls⟩,⟨_,a0,λj y v' l C e3=>?_⟩,λy c e=>?_,I.free,I.freeC,λp hp=>?_,g ⟨oL,a1,I.free⟩ f,by simpa using I.len⟩ ⟨_,f,.inl rfl⟩;.exact(f.2 b (aix (aiq (air e) I.ok.above))).trans (I.base.keep b o e n G w)
  .obtain⟨sl,l⟩:=I.base.slot b o e n G w;exact⟨sl,(f.2 b (aix (aiq (air e) I.ok.above))).trans l⟩
  .obtain⟨o',l⟩:=I.base.there b o e w;exact⟨o',(f.2 b (aix (aiq (air e) I.ok.above))).trans l⟩
  .by_cases J:j=i;.subst J;rw[S]at l;cases l;rw[ain D]at C;cases C;exact⟨u,r,.inl ⟨N,by simp⟩⟩
   .rw[aii (aiu J)]at C;obtain⟨u',r',q⟩:=hl j y v' l C e3;refine⟨u',r',?_⟩;rcases q with⟨k,e⟩|⟨k,c,e,z⟩;.refine .inl ⟨k,?_⟩;have:y≠x:=λe=>J (la hN l (e▸S));simp[this,e]
    .exact .inr ⟨k,c,e,z.sameBut f (cne y c e)⟩
  .obtain⟨w',z⟩:=I.cell y c e;exact⟨w',z.sameBut f (cne y c e)⟩
  .refine aft (I.pin p hp) λe n Y nf d=>?_;exact⟨(f.2 p.1 Y).trans e,n,Y,nf,d⟩
 .have K:X.fn x=true:=by grind
  obtain⟨c,t⟩:=I.ok.has x (.inl N);obtain⟨w',z⟩:=I.cell x c t;refine wpAny_storeName_cell I.ok.kind N t z λh' T f=>?_;refine dh (id z) λoc R P=>?_;refine h {s with heap:=h'} ⟨I.ok,I.os,I.bare,⟨λb o e n G w=>?_,λb o e n G w=>?_,I.base.free,λb o e w=>?_,I.base.tups,I.base.frzs,I.base.tbls⟩,⟨m,hn.sameBut f (aiu (cne x c t)),λj y v' l C e3=>?_⟩,λy Z e=>?_,I.free,I.freeC,λp hp=>?_,g ⟨oc,R,I.freeC x c t⟩ f,by simpa using I.len⟩ ⟨c,f,.inr t⟩;.exact(f.2 b (aix (aiq (air e) (I.ok.cab x c K t)))).trans (I.base.keep b o e n G w)
  .obtain⟨sl,l⟩:=I.base.slot b o e n G w;exact⟨sl,(f.2 b (aix (aiq (air e) (I.ok.cab x c K t)))).trans l⟩
  .obtain⟨o',l⟩:=I.base.there b o e w;exact⟨o',(f.2 b (aix (aiq (air e) (I.ok.cab x c K t)))).trans l⟩
  .by_cases J:j=i;.subst J;rw[S]at l;cases l;rw[ain D]at C;cases C;exact⟨u,r,.inr ⟨.inl N,c,t,T⟩⟩
   .rw[aii (aiu J)]at C;obtain⟨u',r',q⟩:=hl j y v' l C e3;refine⟨u',r',?_⟩;rcases q with q|⟨k,Z,e,z'⟩;.exact .inl q
    .refine .inr ⟨k,Z,e,z'.sameBut f ?_⟩;rintro rfl;exact J (la hN l (I.ok.inj _ _ _ e t▸S))
  .by_cases U:Z=c;.subst U;exact⟨_,T⟩
   .obtain⟨w2,z2⟩:=I.cell y Z e;exact⟨w2,z2.sameBut f U⟩
  .refine aft (I.pin p hp) λe n Y nf d=>?_;refine⟨(f.2 p.1 ?_).trans e,n,Y,nf,d⟩;intro q;rw[q,R]at e;have q':oc=p.2:=aiB e;exact d w' (by rw[<-q'];exact P)
def qb{M A E i x v u Q}(I:Inv X pins σ H s)(e:X.N.Nodup)(c:X.N[i]?=some x)(f:Loc X.env.scope x)(r:RelV v u)(h:∀a,Inv X pins (σ.set i (some v)) H a->Q () a)(d:FL X x:=by first|exact .inl rfl|exact .inr rfl|assumption):wpAny M A (storeName X.env x u) Q E s:=iw I e c f r (λa b _=>h _ b) d
def Inv.ab3{s' ch}(I:Inv X pins σ H s)(g:s'.os=s.os)(u:Un (frs X.stack) ch H H' s.heap s'.heap)(a:HOk X.prog X.w H' s'.heap)(f:AllBare s'.gens)(d:∀b∈ch,(b∈X.ex\/X.s₀.heap.objs.size<=b)/\b≠X.env.locals/\(∀x c,X.env.cells.lookup x=some c->c≠b)/\∀p∈X.pn++pins,p.1≠b):Inv X pins σ H' s':=by obtain⟨h',j,h,k,i⟩:=s';have e:=g;subst e;exact I.call  u a f d
end
abbrev DX:=Option Addr×Value×Value
abbrev XK:=Value->DX->Hp->Prop
abbrev St:=List (Option V)
abbrev VK:=V->Hp->Prop
abbrev TE:=St->Hp->VK->Prop
abbrev TT:=St->Hp->(Bool->Hp->Prop)->Prop
abbrev TA:=St->Hp->(List V->Hp->Prop)->Prop
structure Ends where
 nx:St->Hp->Prop
 rt:VK
 bk:St->Hp->Prop:=λ_ _=>False
 ct:St->Hp->Prop:=λ_ _=>False
abbrev TS:=Ends->St->Hp->Prop
def EP(X:Cx)(pins:List (Addr×Obj))(b:St)(Q:VK)(u:Value)(s':Shared):Prop:=∃v a,Inv X pins b a s'/\RelV v u/\Q v a
def TP(X:Cx)(pins:List (Addr×Obj))(c:St)(Q:Bool->Hp->Prop)(b:Bool)(s':Shared):Prop:=∃a,Inv X pins c a s'/\Q b a
def AP(X:Cx)(pins:List (Addr×Obj))(c:St)(Q:List V->Hp->Prop)(us:List Value)(s':Shared):Prop:=∃b a,Inv X pins c a s'/\Vals b us/\Q b a
def SP(X:Cx)(pins:List (Addr×Obj))(D:Ends)(f:Flow)(s':Shared):Prop:=match f with|.next=>∃a b,Inv X pins a b s'/\D.nx a b|.brk=>∃a b,Inv X pins a b s'/\D.bk a b|.cont=>∃a b,Inv X pins a b s'/\D.ct a b|.ret u=>∃v a b,Inv X pins a b s'/\RelV v u/\D.rt v b
def PE(X:Cx)(e:Expr)(t:TE):Prop:=∀(a:List (Addr×Obj))(s:Shared)(b:St)(H:Hp)(Q:VK),Inv X a b H s->t b H Q->wpAny (model X.prog X.w) X.A (eval e X.env) (EP X a b Q) X.xe s
def PT(X:Cx)(e:Expr)(t:TT):Prop:=∀(a:List (Addr×Obj))(s:Shared)(b:St)(H:Hp)(Q:Bool->Hp->Prop),Inv X a b H s->t b H Q->wpAny (model X.prog X.w) X.A (isTrue e X.env (eval e X.env)) (TP X a b Q) X.xe s
def PW(X:Cx)(e:Expr)(t:TT):Prop:=∀(b:Sem Value)(a:List (Addr×Obj))(s:Shared)(c:St)(H:Hp)(Q:Bool->Hp->Prop),Inv X a c H s->t c H Q->wpAny (model X.prog X.w) X.A (isTrue e X.env b) (TP X a c Q) X.xe s
def PW.pt{X e t}(h:PW X e t):PT X e t:=h _
def PA(X:Cx)(es:List Expr)(t:TA):Prop:=∀(b:Pos)(a:List (Addr×Obj))(s:Shared)(c:St)(H:Hp)(Q:List V->Hp->Prop),Inv X a c H s->t c H Q->wpAny (model X.prog X.w) X.A (spliced (backTo b (starEach es X.env))) (AP X a c Q) X.xe s
def PS(X:Cx)(st:Stmt)(t:TS):Prop:=∀(a:List (Addr×Obj))(s:Shared)(b:St)(H:Hp)(D:Ends),Inv X a b H s->t D b H->wpAny (model X.prog X.w) X.A (exec st X.env) (SP X a D) X.xe s
def PSs(X:Cx)(st:List Stmt)(t:TS):Prop:=∀(a:List (Addr×Obj))(s:Shared)(b:St)(H:Hp)(D:Ends),Inv X a b H s->t D b H->wpAny (model X.prog X.w) X.A (execs st X.env) (SP X a D) X.xe s
def thn{α t}{Q b:α->Shared->Prop}{M A E s}(h:wpAny M A t Q E s)(c:∀a s,Q a s->b a s):wpAny M A t b E s:=aiA h c λ_ _ x=>x
section
variable{X:Cx}
def cQ(i:Nat):TE:=λa H Q=>∃v,a[i]?=some (some v)/\Q v H
def tC(v:V):TE:=λ_ H Q=>Q v H
def vb{i x pos}(o:X.N[i]?=some x)(p:Vis X.env.scope x)(f:Dbg x:=by decide)(d:(x=="__classdict__")=false:=by decide):PE X (.Name x pos) (cQ i):=by
 intro j s n H Q I h;refine dh h λv e h=>?_;refine dh I.loc λm t q=>?_;obtain⟨u,r,l⟩:=q i x v o e p;have fin:EP X _ n Q u s:=⟨v,H,I,r,h⟩;rcases l with⟨b,k⟩|⟨b,c,g,a⟩;.exact aln (wpAny_loadName_local I.ok.kind b t k fin) f
 .rcases b with b|b;.exact aln (wpAny_loadName_cell I.ok.kind b g a fin) f
  .exact aln (wpAny_loadName_free I.ok.kind b g a fin d) f
def zT{i j pos}:PE X (.Constant (.int i) j pos) (tC (.int i)):=λ_ _ _ H _ I h=>wpAny_Constant_int ⟨.int i,H,I.tok _,⟨_,rfl⟩,h⟩
def af7{b j pos}:PE X (.Constant (.bool b) j pos) (tC (.bl b)):=λ_ _ _ H _ I h=>Constant_bool ⟨.bl b,H,I,rfl,h⟩
def ady{j pos}:PE X (.Constant .none j pos) (tC .non):=λ_ _ _ H _ I h=>Constant_none ⟨.non,H,I,rfl,h⟩
def mK{x j pos}:PE X (.Constant (.str x) j pos) (tC (.str x)):=λ_ _ _ H _ I h=>Calls.Constant_str ⟨.str x,H,I.tok _,⟨_,rfl⟩,h⟩
def Gl(X:Cx)(x:Str):Prop:=X.env.kindOf x=some .globalImplicit
def cg{E pins s}{c:St}{H x u pos Q}(I:Inv X pins c H s)(a:Gl X x)(b:X.mg x=some u)(h:Q u s)(d:Dbg x:=by decide):wpAny (model X.prog X.w) X.A (eval (.Name x pos) X.env) Q E s:=akJ I.ok.kind a (Calls.loadGlobal_global (by rw[I.ok.glob];exact I.mod.glob.keeps I.bk) b h) d
def gQ{E pins s}{c:St}{H x u pos Q}(I:Inv X pins c H s)(a:Gl X x)(b:X.mg x=none)(g:bootBuiltins x=some u)(h:Q u s)(i:x≠"__name__":=by decide)(e:Dbg x:=by decide):wpAny (model X.prog X.w) X.A (eval (.Name x pos) X.env) Q E s:=by obtain⟨j,d,f⟩:=I.mod.blt;exact akJ I.ok.kind a (Calls.loadGlobal_builtin (by rw[I.ok.glob];exact I.mod.glob.keeps I.bk) b (by rw[I.ok.blt];exact d.keeps I.bk) ((f x i).trans g) h) e
def oM{x v u pos}(a:Gl X x)(b:X.mg x=some u)(r:RelV v u)(c:Dbg x:=by decide):PE X (.Name x pos) (tC v):=λ_ _ _ H _ I h=>cg I a b ⟨v,H,I,r,h⟩ c
def abd{x v u pos}(a:Gl X x)(b:X.mg x=none)(d:bootBuiltins x=some u)(r:RelV v u)(e:x≠"__name__":=by decide)(c:Dbg x:=by decide):PE X (.Name x pos) (tC v):=λ_ _ _ H _ I h=>gQ I a b d ⟨v,H,I,r,h⟩ e c
variable{a b:Expr}{ta tb:TE}{pos:Pos}
def PC(X:Cx)(op:CmpOp)(a b:Expr)(t:TE):Prop:=∀(c:List (Addr×Obj))(s:Shared)(f:St)(H:Hp)(Q:VK),Inv X c f H s->t f H Q->wpAny (model X.prog X.w) X.A (eval a X.env) (λv e=>wpAny (model X.prog X.w) X.A (eval b X.env) (λu d=>wpAny (model X.prog X.w) X.A (compareOp op v u) (EP X c f Q) X.xe d) X.xe e) X.xe s
def yF(b:Expr){op:CmpOp}(h:op≠.In)(d:op≠.NotIn):behindInMarks op b=false:=by
 have c:(op==CmpOp.In)=false:=by cases op<;>first|rfl|exact absurd rfl h
 have e:(op==CmpOp.NotIn)=false:=by cases op<;>first|rfl|exact absurd rfl d
 cases b<;>first|rfl|(show(_&&(_||_)&&_)=false;simp[c,e])
def tB(t:TE):TT:=λd H Q=>t d H λx e=>∃c,x=.bl c/\Q c e
def adm{e t}(h:PE X e t)(l:∀c,isTrue e X.env c=(do let v <-c;standAt e.pos;holding [v] (truthy v)):=by intro _;rfl):PT X e (tB t):=by intro f s j H Q I hw;refine isTrue_plain (thn (h _ s j H _ I hw) λv n⟨x,g,k,m,i⟩=>?_) (l _);obtain⟨d,rfl,q⟩:=i;cases m;exact ajb ⟨g,k,q⟩
variable{tA tB':TT}{rest:List Expr}
def qa(t u:TT):TT:=λd H Q=>t d H λc e=>if c=true then u d e Q else Q false e
def tOr(t u:TT):TT:=λd H Q=>t d H λc e=>if c=true then Q true e else u d e Q
def p8(t:TT):TT:=λd H Q=>t d H λc e=>Q (!c) e
def aa1(g:PT X a tA):PW X (.BoolOp .And [a] pos) tA:=by intro i d s f H Q I h;refine isTrue_and (thn (g _ s f H Q I h) λc j e=>?_);cases c with|true=>exact isTrue_and_nil e|false=>exact e
def adk(g:PT X a tA):PW X (.BoolOp .Or [a] pos) tA:=by intro i d s f H Q I h;refine isTrue_or (thn (g _ s f H Q I h) λc j e=>?_);cases c with|false=>exact isTrue_or_nil e|true=>exact e
def adl(j:PT X a tA)(k:PW X (.BoolOp .And (b::rest) pos) tB'):PW X (.BoolOp .And (a::b::rest) pos) (qa tA tB'):=by intro l e s f H Q I h;refine isTrue_and (thn (j _ s f H _ I h) λc m⟨i,g,d⟩=>?_);cases c with|true=>exact k _ _ _ f _ Q g d|false=>exact⟨i,g,d⟩
def af2(j:PT X a tA)(k:PW X (.BoolOp .Or (b::rest) pos) tB'):PW X (.BoolOp .Or (a::b::rest) pos) (tOr tA tB'):=by intro l e s f H Q I h;refine isTrue_or (thn (j _ s f H _ I h) λc m⟨i,g,d⟩=>?_);cases c with|true=>exact⟨i,g,d⟩|false=>exact k _ _ _ f _ Q g d
def adn(e:PT X a tA):PT X (.UnaryOp .Not a pos) (p8 tA):=by intro c s d H Q I h;exact isTrue_not (e _ s d H _ I h)
def afP(ta tb:TE):TE:=λd H Q=>ta d H λx e=>∃c,x=.bl c/\if c=true then tb d e Q else Q (.bl false) e
def afJ(ta:TE):TE:=λd H Q=>ta d H λx e=>∃c,x=.bl c/\Q (.bl !c) e
def adw{op t}(h:PE X a t):PE X (.BoolOp op [a] pos) t:=λc s d H Q I hw=>BoolOp_one (h _ s d H Q I hw)
def adA(k:PE X a ta)(l:PE X (.BoolOp .And (b::rest) pos) tb):PE X (.BoolOp .And (a::b::rest) pos) (afP ta tb):=by intro g s e H Q I h;refine BoolOp_and (thn (k _ s e H _ I h) λv m⟨x,i,f,j,d⟩=>?_);obtain⟨c,rfl,d⟩:=d;cases j;refine ajb ?_;cases c with|true=>exact l _ _ e _ Q f d|false=>exact⟨.bl _,i,f,rfl,d⟩
def adx(k:PE X a ta):PE X (.UnaryOp .Not a pos) (afJ ta):=by intro e s g H Q I h;refine UnaryOp_ (thn (k _ s g H _ I h) λv l⟨x,f,i,j,d⟩=>?_);obtain⟨c,rfl,d⟩:=d;cases j;exact not_of (ajb ⟨.bl _,f,i,rfl,d⟩)
def tIf(t:TT)(ta tb:TE):TE:=λd H Q=>t d H λc e=>if c=true then ta d e Q else tb d e Q
def yv{c}(j:PT X c tA)(k:PE X a ta)(l:PE X b tb):PE X (.IfExp c a b pos) (tIf tA ta tb):=by intro g s e H Q I h;refine wpAny_IfExp (thn (j _ s e H _ I h) λd n⟨m,i,f⟩=>?_);cases d with|true=>exact k _ _ e _ Q i f|false=>exact l _ _ e _ Q i f
end
def SqL(K:W.Frag)(H:Hp)(a:Addr)(xs:List V):Prop:=Rd H a (.lst xs)\/∃(o:Obj)(b:Array Value)(n:Nat),K.lookup a=some o/\o.cls=.type "list"/\o.dict=none/\o.data=.seq b n/\b.size<=sizeLine/\Vals xs b.toList
def SqT(K:W.Frag)(H:Hp)(a:Addr)(xs:List V):Prop:=Rd H a (.tup xs)\/∃(o:Obj)(b:Array Value)(n:Nat),K.lookup a=some o/\o.cls=.type "tuple"/\o.data=.seq b n/\b.size<=sizeLine/\Vals xs b.toList
noncomputable def ah7:Value->Option V|.none=>some .non|.bool b=>some (.bl b)|.int i _=>some (.int i)|.str x _=>some (.str x)|.bytes b _=>some (.byt b)|.float b _=>some (.flt b)|.ref a=>some (.ref a)|.type n=>some (.ty n)|_=>none
def RelV.abs{x u}(r:RelV x u):ah7 u=some x:=by cases x with|non|bl _=>cases r;rfl|int _|str _|byt _|flt _=>obtain⟨t,rfl⟩:=r;rfl|ref _|ty _=>cases r;rfl
def RelV.inj{x y u}(r:RelV x u)(q:RelV y u):x=y:=aiB (r.abs.symm.trans q.abs)
theorem Vals.inj:∀{xs ys us},Vals xs us->Vals ys us->xs=ys|_,_,_,.nil,.nil=>rfl|_,_,_,.cons r t,.cons r' t'=>by rw[r.inj r',Vals.inj t t']
section
variable{X:Cx}{pins:List (Addr×Obj)}{σ:St}{H:Hp}{s:Shared}{a:Addr}{xs ys:List V}
def SqL.of{K}(h:H a=some (.lst xs)):SqL K H a xs:=.inl (.inl h)
def SqT.of{K}(h:H a=some (.tup xs)):SqT K H a xs:=.inl (.inl h)
def Inv.list(I:Inv X pins σ H s)(h:SqL X.K H a xs):∃b,Vals xs b/\PlainL s.heap a b.toArray/\xs.length<=sizeLine:=by
 rcases h with h|⟨o,b,n,d,c,f,i,g,r⟩;.obtain⟨z,b,n,r,e⟩:=h.ok I.hok;exact⟨_,r,aal _ n e rfl rfl rfl,z⟩
 .refine⟨_,r,aal o n (I.kIn a o d) c f (by omega),?_⟩;have e:=r.length;simp  at e;omega
def Inv.tuple(I:Inv X pins σ H s)(h:SqT X.K H a xs):∃b,Vals xs b/\IsTup s.heap a b.toArray/\xs.length<=sizeLine:=by
 rcases h with h|⟨o,b,n,d,c,g,f,r⟩;.obtain⟨z,b,r,p⟩:=h.ok I.hok;exact⟨_,r,p,z⟩
 .refine⟨_,r,⟨o,I.kIn a o d,c,n,by omega⟩,?_⟩;have e:=r.length;simp  at e;omega
def Inv.qJ(I:Inv X pins σ H s)(h:SqL X.K H a xs)(h':SqL X.K H a ys):xs=ys:=by
 obtain⟨c,r,⟨o,n,e,_,_,d⟩,_⟩:=I.list h;obtain⟨b,f,⟨j,k,g,_,_,i⟩,_⟩:=I.list h';have:c=b:=by grind
 subst this;exact r.inj f
def Inv.l9(I:Inv X pins σ H s)(h:SqT X.K H a xs)(h':SqT X.K H a ys):xs=ys:=by
 obtain⟨c,r,⟨o,e,_,n,d⟩,_⟩:=I.tuple h;obtain⟨b,f,⟨j,g,_,k,i⟩,_⟩:=I.tuple h';have:c=b:=by grind
 subst this;exact r.inj f
end
abbrev Cx.jS(X:Cx)(E:Value->Shared->Prop):Cx:={X with xe:=E}
abbrev Cx.nox(X:Cx):Cx:=X.jS λ_ _=>False
theorem Cx.Ok.jS{X:Cx}(ok:X.Ok)(E):(X.jS E).Ok:=⟨ok.mod,ok.kind,ok.glob,ok.blt,ok.above,ok.inj,ok.has,ok.cab,ok.hd,ok.frames,ok.stk,ok.exf,ok.bs,ok.bsz,ok.noex,ok.exfs,ok.lW,ok.frf⟩
def Cx.Ok.jU{X:Cx}{E}(ok:(X.jS E).Ok):X.Ok:=⟨ok.mod,ok.kind,ok.glob,ok.blt,ok.above,ok.inj,ok.has,ok.cab,ok.hd,ok.frames,ok.stk,ok.exf,ok.bs,ok.bsz,ok.noex,ok.exfs,ok.lW,ok.frf⟩
section
variable{X:Cx}{pins:List (Addr×Obj)}{σ:St}{H:Hp}{s:Shared}{E:Value->Shared->Prop}
theorem Inv.jS(I:Inv X pins σ H s)(E):Inv (X.jS E) pins σ H s:=⟨I.ok.jS E,I.os,I.bare,I.base,I.loc,I.cell,I.free,I.freeC,I.pin,I.hok,I.len⟩
theorem Inv.jU(I:Inv (X.jS E) pins σ H s):Inv X pins σ H s:=⟨I.ok.jU,I.os,I.bare,I.base,I.loc,I.cell,I.free,I.freeC,I.pin,I.hok,I.len⟩
theorem SP.jU{D f s'}(h:SP (X.jS E) pins D f s'):SP X pins D f s':=by cases f with|next|brk|cont=>obtain⟨b,a,I,q⟩:=h;exact⟨_,a,I.jU,q⟩|ret u=>refine tj h λv b a I r q=>?_;exact⟨v,_,a,I.jU,r,q⟩
theorem PSs.nox{st t}(h:PSs X.nox st t):PSs X st t:=λpins s σ H D I hw=>aiA (h _ s σ H D (I.jS _) hw) (λ_ _ q=>q.jU) λ_ _ z=>False.elim z
end
section
variable{X:Cx}{st:Stmt}{rest:List Stmt}{t u:TS}{e:Expr}{te:TE}{pos:Pos}
def afK:TS:=λD a H=>D.nx a H
def acT(t u:TS):TS:=λD a H=>t {D with nx:=u D} a H
def aa4:PSs X [] afK:=λ_ _ a H _ I h=>ajU ⟨a,H,I,h⟩
def bD(d:PS X st t)(i:PSs X rest u):PSs X (st::rest) (acT t u):=by intro a s g H D I h;refine akY (thn (d _ s g H _ I h) λf k q=>?_);cases f with|next=>obtain⟨c,j,b,q⟩:=q;exact i _ _ _ _ D b q|ret v=>exact q|brk=>exact q|cont=>exact q
def cE(b:PS X st t):PSs X [st] t:=by intro a s c H D I h;refine akY (thn (b _ s c H D I h) λf d q=>?_);cases f with|next=>exact ajU q|ret v|brk|cont=>exact q
def Inv.quiet{pins}{a:St}{H s}(I:Inv X pins a H s):interactive X.env=false:=by simp[interactive,I.ok.kind]
def rG(te:TE):TS:=λD a H=>te a H λ_ b=>D.nx a b
def iN(f:PE X e te)(g:swapsWith e none pos.line X.env=pure false:=by rfl):PS X (.Expr e pos) (rG te):=by intro a s b H D I h;exact wpAny_Expr_any (thn (f _ s b H _ I h) λv k⟨x,c,i,j,d⟩=>⟨b,c,i,d⟩) I.quiet g
def ag5(te:TE):TS:=λD a H=>te a H D.rt
def uX(f:PE X e te):PS X (.Return (some e) pos) (ag5 te):=by intro a s b H D I h;exact wpAny_Return_some (thn (f _ s b H _ I h) λv j⟨x,c,i,g,d⟩=>⟨x,b,c,i,g,d⟩)
def ahI(c:TT)(t u:TS):TS:=λD a H=>c a H λb d=>if b=true then t D a d else u D a d
def adp{c a b k}(m:PT X c k)(l:PSs X a t)(n:PSs X b u):PS X (.If c a b pos) (ahI k t u):=by intro j s f H D I h;refine wpAny_If (thn (m _ s f H _ I h) λd p⟨o,i,g⟩=>?_);cases d with|true=>exact l _ _ f _ D i g|false=>exact n _ _ f _ D i g
end
abbrev TG:=V->St->Hp->(St->Hp->Prop)->Prop
abbrev TGs:=List V->St->Hp->(St->Hp->Prop)->Prop
def PG(X:Cx)(a:Expr)(t:TG):Prop:=∀(b:List (Addr×Obj))(s:Shared)(e:St)(H:Hp)(v:V)(u:Value)(Q:St->Hp->Prop),Inv X b e H s->RelV v u->t v e H Q->wpAny (model X.prog X.w) X.A (assign a X.env u) (λ_ f=>∃c d,Inv X b c d f/\Q c d) X.xe s
def PGs(X:Cx)(ts:List Expr)(t:TGs):Prop:=∀(a:List (Addr×Obj))(s:Shared)(f:St)(H:Hp)(d:List V)(e:List Value)(Q:St->Hp->Prop),Inv X a f H s->Vals d e->t d f H Q->wpAny (model X.prog X.w) X.A (assignInOrder ((assignEach ts X.env).map (·.2)) e) (λ_ g=>∃b c,Inv X a b c g/\Q b c) X.xe s
section
variable{X:Cx}{pos:Pos}
def aX(i:Nat):TG:=λv a H Q=>Q (a.set i (some v)) H
def kX{i x}(e:X.N.Nodup)(d:X.N[i]?=some x)(f:Loc X.env.scope x)(b:FL X x:=by first|exact .inl rfl|exact .inr rfl|assumption):PG X (.Name x pos) (aX i):=by intro a s g H v u Q I r h;exact wpAny_assign_Name (qb I e d f r (λj c=>⟨_,H,c,h⟩) b)
def abK:TGs:=λb a H Q=>b=[]/\Q a H
def jd(t:TG)(u:TGs):TGs:=λc d H Q=>∃v r,c=v::r/\t v d H λa b=>u r a b Q
def aa8:PGs X [] abK:=by intro a s b H c d Q I r h;obtain⟨e,h⟩:=h;exact assignInOrder_nil ⟨b,H,I,h⟩
def yt{e es t u}(g:PG X e t)(j:PGs X es u)(d:(assignEach (e::es) X.env).map (·.2)=assign e X.env::(assignEach es X.env).map (·.2):=by rfl):PGs X (e::es) (jd t u):=by intro a s c H m l Q I r h;obtain⟨v,n,i,h⟩:=h;subst i;cases r with|cons r rr=>rw[d];exact assignInOrder_cons (thn (g _ s c H _ _ _ I r h) λ_ o⟨_,k,f,b⟩=>j _ _ _ _ _ _ Q f rr b)
def aet(K:W.Frag)(n:Nat)(t:TGs):TG:=λv c H Q=>∃a b,v=.ref a/\SqT K H a b/\b.length=n/\t b c H Q
def adt{es k t n}(g:X.calm=true)(h:PGs X es t)(y:(assignEach es X.env).length=n:=by rfl)(c:(assignEach es X.env).findIdx? (·.1)=none:=by rfl):PG X (.Tuple es k pos) (aet X.K n t):=by intro d s j H v u Q I r hw;obtain⟨a,B,w,m,x,hw⟩:=hw;subst w;cases r;refine gD (I.tuple m) λi l q z=>?_;refine assign_Tuple_tuple (I.ok.hd g) q (by simp[y,<-x,l.length]) c λA f=>?_;have p:=I.kept (t':=s.toks) λb o e=>f b o (aix (air e)) e;exact h _ _ j H _ _ Q p (by grind) hw
def ae2(c:TE)(g:TG):TS:=λD a H=>c a H λx b=>g x a b D.nx
def mI{i x e c a}(q:X.N.Nodup)(j:X.N[i]?=some x)(r:Loc X.env.scope x)(o:PE X e c)(l:swapsWith e (some (.Name x a)) pos.line X.env=pure false:=by rfl)(n:FL X x:=by first|exact .inl rfl|exact .inr rfl|assumption):PS X (.Assign [.Name x a] e pos) (ae2 c (aX i)):=by intro b s k H D I h;exact wpAny_Assign_Name (thn (o _ s k H _ I h) λv u⟨y,f,m,p,g⟩=>qb m q j r p (λt d=>⟨_,f,d,g⟩) n) l
end
structure It where
 go:Nat->Hp->Prop
 yld:Nat->Hp->V->Hp->Prop
 stop:Nat->Hp->Prop
def rg(X:Cx)(pins:List (Addr×Obj))(H:Hp)(b:Addr):Prop:=H b=none/\b≠X.env.locals/\b∉X.fs/\(b∈X.ex\/X.s₀.heap.objs.size<=b)/\(∀x c,X.env.cells.lookup x=some c->c≠b)/\∀p∈X.pn++pins,p.1≠b
def Inv.ack{X:Cx}{pins:List (Addr×Obj)}{d:St}{H H':Hp}{s:Shared}{b:Addr}(I:Inv X pins d H s)(a:s.heap.objs.size<=b)(g:H' b=none):rg X pins H' b:=by
 refine⟨g,aiW (aiq I.lt a),I.ahR a,.inr (aip I.sz a),λx c e z=>?_,λp f z=>?_⟩;.obtain⟨v,q⟩:=I.cell x c e;exact absurd (aiq q.lt (by rw[z];exact a)) (ajo _)
 .exact absurd (aiq (air (I.pin p f).1) (by rw[z];exact a)) (ajo _)
structure Turn(P:Program)(w:World)(K:W.Frag)(tg:Expr)(J:It)(fp:List Addr)(it:Addr)(tn:Nat->Heap->Prop)(cl:Cx->Hp->Prop:=λX _=>X.calm=true):Prop where
 mem:it∈fp
 obj:∀i h,tn i h->∀b∈fp,∃o,h.get? b=some o/\∀v,o.data≠.cell v
 keep:∀i h h',tn i h->(∀b∈fp,∀o,h.get? b=some o->h'.get? b=some o)->tn i h'
 item:∀(X:Cx),X.prog=P->X.w=w->X.K=K->∀(i:Nat)(pins:List (Addr×Obj))(s:Shared)(σ:St)(H:Hp)(E:Value->Shared->Prop),cl X H->Inv X pins σ H s->(∀b∈fp,rg X pins H b)->tn i s.heap->J.go i H->wpAny (model P w) X.A (pyNext (.ref it)) (λr s1=>∃u,r=some u/\wpAny (model P w) X.A (letOwnedTupleGo tg (.ref it) u) (λ_ s2=>∃x H',Inv X pins σ H' s2/\RelV x u/\J.yld i H x H'/\tn (i+1) s2.heap/\∀b∈fp,H' b=none) E s1) E s
 done:∀(X:Cx),X.prog=P->X.w=w->X.K=K->∀(i:Nat)(pins:List (Addr×Obj))(s:Shared)(σ:St)(H:Hp)(E:Value->Shared->Prop),cl X H->Inv X pins σ H s->(∀b∈fp,rg X pins H b)->tn i s.heap->J.stop i H->wpAny (model P w) X.A (pyNext (.ref it)) (λr s1=>r=none/\Inv X pins σ H s1) E s
 self:∀(A:Around)(i:Nat)(s:Shared)(Q:Value->Shared->Prop)(E:Value->Shared->Prop),tn i s.heap->Q (.ref it) s->wpAny (model P w) A (pyIter (.ref it)) Q E s
abbrev TI:=St->Hp->(It->Hp->Prop)->Prop
def PIE(X:Cx)(pins:List (Addr×Obj))(i:St)(h:Expr)(R:It->Hp->Prop)(a:Value)(d:Shared):Prop:=∃(f:Addr)(g:List Addr)(e:Nat->Heap->Prop)(J:It)(c:Hp),a=.ref f/\Inv X pins i c d/\Turn X.prog X.w X.K h J g f e/\e 0 d.heap/\(∀b∈g,rg X pins c b)/\R J c
def PI(X:Cx)(c iter:Expr)(wi:TI):Prop:=∀(a:List (Addr×Obj))(s:Shared)(b:St)(H:Hp)(R:It->Hp->Prop),Inv X a b H s->wi b H R->wpAny (model X.prog X.w) X.A (eval iter X.env) (λv d=>wpAny (model X.prog X.w) X.A (pyIter v) (PIE X a b c R) X.xe d) X.xe s
def sy{M A E s b it u o n vs Q}(d:s.heap.get? it=some o)(e:o.cls=.type n)(c:o.data=.fields vs)(f:["enumerate","zip","dict_itemiterator","dict_reverseitemiterator","odict_iterator","itertools.zip_longest","itertools.pairwise"].contains n=false)(a:Q () s):wpAny M A (letOwnedTupleGo b (.ref it) u) Q E s:=by cases b<;>first|exact aio a|(cases u<;>first|exact aio a| (refine aif (wpAny_load d ?_);rw[e,c];show wpAny M A (if(["enumerate","zip","dict_itemiterator","dict_reverseitemiterator","odict_iterator","itertools.zip_longest","itertools.pairwise"].contains n&&vs[0]?==some (rawInt _))=true then _ else _) Q E s;rw[aik (by grind)];exact aio a))
noncomputable def Itl(K:W.Frag)(a:Addr):It:=⟨λi H=>∃b x,SqL K H a b/\b[i]?=some x,λi H x c=>c=H/\∀b,SqL K H a b->b[i]?=some x,λi H=>∃b,SqL K H a b/\b.length<=i⟩
noncomputable def Itt(K:W.Frag)(a:Addr):It:=⟨λi H=>∃b x,SqT K H a b/\b[i]?=some x,λi H x c=>c=H/\∀b,SqT K H a b->b[i]?=some x,λi H=>∃b,SqT K H a b/\b.length<=i⟩
noncomputable def Itr(lo:Int)(n:Nat):It:=⟨λi _=>i<n,λi H x a=>a=H/\x=.int (lo+i),λi _=>n<=i⟩
def ug{P:Program}{w:World}{K:W.Frag}{tg:Expr}(a it:Addr):Turn P w K tg (Itl K a) [it] it λi h=>h.IsListIter it a i where
 mem:=by simp
 obj:=λi h st b hb=>by
  have e:b=it:=by simpa using hb
  subst e;obtain⟨o,e,c,d⟩:=st;exact⟨o,e,λv z=>by rw[d]at z;cases z⟩
 keep:=λi h h' st k=>st.at λo e=>k it (by simp) o e;item:=by intro X hP hw hK i pins s σ H E hc I hf st hg;subst hP hw hK;obtain⟨xs,x,hq,hx⟩:=hg;obtain⟨its,rv,p,hz⟩:=I.list hq;obtain⟨u,hu,ru⟩:=rv.get hx;obtain⟨f0,f1,f2,f3,f4,f5⟩:=hf it (by simp);refine wpAny_pyNext_list_item st p.isList (x:=u) (by simpa using hu) λh' st' sb=>?_;have I1:Inv X pins σ H {s with heap:=h'}:=I.turned (t':=s.toks) (λb o hb e=>(sb.2 b hb).trans e) f0 f1 f3 f4 f5;obtain⟨o,e,c,d⟩:=id st';exact⟨u,rfl,sy (s:={s with heap:=h'}) e c d (by decide) ⟨x,H,I1,ru,⟨rfl,λys hy=>by rw[I.qJ hy hq];exact hx⟩,st',λb hb=>(hf b hb).1⟩⟩
 done:=by intro X hP hw hK i pins s σ H E hc I hf st hg;subst hP hw hK;obtain⟨xs,hq,hx⟩:=hg;obtain⟨its,rv,p,hz⟩:=I.list hq;obtain⟨f0,f1,f2,f3,f4,f5⟩:=hf it (by simp);have hl:=rv.length;exact wpAny_pyNext_list_end (I.ok.hd hc) st p.isList (by simp;omega) λh' eb=>⟨rfl,I.turned (t':=s.toks) (λb o hb e=>eb b o hb e) f0 f1 f3 f4 f5⟩
 self:=λ_ _ _ _ _ st h=>wpAny_pyIter_listiter st h
def ry{P:Program}{w:World}{K:W.Frag}{tg:Expr}(a it:Addr):Turn P w K tg (Itt K a) [it] it λi h=>h.IsTupleIter it a i where
 mem:=by simp
 obj:=λi h st b hb=>by
  have e:b=it:=by simpa using hb
  subst e;obtain⟨o,e,c,d⟩:=st;exact⟨o,e,λv z=>by rw[d]at z;cases z⟩
 keep:=λi h h' st k=>st.at λo e=>k it (by simp) o e;item:=by intro X hP hw hK i pins s σ H E hc I hf st hg;subst hP hw hK;obtain⟨xs,x,hq,hx⟩:=hg;obtain⟨its,rv,p,hz⟩:=I.tuple hq;obtain⟨u,hu,ru⟩:=rv.get hx;obtain⟨f0,f1,f2,f3,f4,f5⟩:=hf it (by simp);refine wpAny_pyNext_tuple_item st (show s.heap.IsTuple a its.toArray from p) (x:=u) (by simpa using hu) λh' st' sb=>?_;have I1:Inv X pins σ H {s with heap:=h'}:=I.turned (t':=s.toks) (λb o hb e=>(sb.2 b hb).trans e) f0 f1 f3 f4 f5;obtain⟨o,e,c,d⟩:=id st';exact⟨u,rfl,sy (s:={s with heap:=h'}) e c d (by decide) ⟨x,H,I1,ru,⟨rfl,λys hy=>by rw[I.l9 hy hq];exact hx⟩,st',λb hb=>(hf b hb).1⟩⟩
 done:=by intro X hP hw hK i pins s σ H E hc I hf st hg;subst hP hw hK;obtain⟨xs,hq,hx⟩:=hg;obtain⟨its,rv,p,hz⟩:=I.tuple hq;obtain⟨f0,f1,f2,f3,f4,f5⟩:=hf it (by simp);have hl:=rv.length;exact wpAny_pyNext_tuple_end (I.ok.hd hc) st (show s.heap.IsTuple a its.toArray from p) (by simp;omega) λh' eb=>⟨rfl,I.turned (t':=s.toks) (λb o hb e=>eb b o hb e) f0 f1 f3 f4 f5⟩
 self:=λ_ _ _ _ _ st h=>wpAny_pyIter_tupleiter st h
def rz{P:Program}{w:World}{K:W.Frag}{tg:Expr}(it:Addr)(lo:Int)(n:Nat):Turn P w K tg (Itr lo n) [it] it λi h=>IsRangeIter h it (lo+(i:Nat)*1) ((n:Int)-(i:Nat)) 1 where
 mem:=by simp
 obj:=λi h st b hb=>by
  have e:b=it:=by simpa using hb
  subst e;exact⟨_,st,λv z=>by have z':Data.fields _=Data.cell v:=z;cases z'⟩
 keep:=λi h h' st k=>k it (by simp) _ st;item:=by intro X hP hw hK i pins s σ H E hc I hf st hg;subst hP hw hK;obtain⟨f0,f1,f2,f3,f4,f5⟩:=hf it (by simp);have W:=Walks.range (prog:=X.prog) (w:=X.w) (I.ok.hd hc) it lo 1 n;refine W.item i s _ _ hg st λv h' tk hv st' kk=>?_;obtain⟨t,rfl⟩:=hv;have I1:Inv X pins σ H {s with heap:=h',toks:=tk}:=I.turned (λb o hb e=>kk b o (by simpa using hb) e) f0 f1 f3 f4 f5;refine⟨_,rfl,sy (s:={s with heap:=h',toks:=tk}) (n:="range_iterator") st' rfl rfl (by decide) ⟨.int (lo+i),H,I1,⟨t,?_⟩,⟨rfl,rfl⟩,st',λb hb=>(hf b hb).1⟩⟩;rw[Int.mul_one]
 done:=by intro X hP hw hK i pins s σ H E hc I hf st hg;subst hP hw hK;obtain⟨f0,f1,f2,f3,f4,f5⟩:=hf it (by simp);exact wpAny_pyNext_range_end (I.ok.hd hc) st (by have:n<=i:=hg;omega) λh' eb=>⟨rfl,I.turned (t':=s.toks) (λb o hb e=>eb b o hb e) f0 f1 f3 f4 f5⟩
 self:=λ_ _ _ _ _ st h=>wpAny_pyIter_rangeiter st h
section
variable{X:Cx}{tg:Expr}
def qk{pins}{c:St}{H s R E lo a t u v tk}(I:Inv X pins c H s)(h:-2^62<=lo)(k:lo<2^62)(i:-2^62<=a)(g:a<2^62)(q:R (Itr lo (a-lo).toNat) H):wpAny (model X.prog X.w) X.A (pyIter (.ref s.heap.objs.size)) (PIE X pins c tg R) E {s with heap:=s.heap.push {cls:=.type "range",data:=.fields #[.int lo t,.int a u,.int 1 v]},toks:=tk}:=by
 refine wpAny_pyIter_range (IsRange.new ..) (small_one h k i g) ?_;have d:Inv X pins c H {s with heap:=s.heap.push {cls:=.type "range",data:=.fields #[.int lo t,.int a u,.int 1 v]},toks:=tk}:=I.kept λb o e=>aih _ e;refine⟨_,_,_,_,H,rfl,d.kept (t':=tk) λb o e=>aih _ e,rz _ lo _,?_,λb l=>?_,q⟩
 .have j:lo+((0:Nat):Int)*1=lo:=by simp
  have f:(((a-lo).toNat:Nat):Int)-((0:Nat):Int)=Builtin.Range.rangeSize lo a 1:=by rw[rangeSize_one];split<;>omega
  rw[j,f];exact ais _ rfl
 .have e:b=(s.heap.push {cls:=.type "range",data:=.fields #[.int lo t,.int a u,.int 1 v]}).objs.size:=by simpa using l
  subst e;exact d.ack (aim _) (d.hok.fresh (aim _))
def ja(ta:TA):TI:=λa H R=>ta a H λb c=>∃j:Int,b=[.int j]/\-2^62<=j/\j<2^62/\R (Itr 0 j.toNat) c
def y7(ta:TA):TI:=λa H R=>ta a H λb c=>∃i j:Int,b=[.int i,.int j]/\(-2^62<=i/\i<2^62/\-2^62<=j/\j<2^62)/\R (Itr i (j-i).toNat) c
def u7{a ta p pos}(d:Gl X "range")(g:X.mg "range"=none)(n:PA X [a] ta)(i:starEach [a] X.env=[(false,eval a X.env)]:=by rfl):PI X tg (.Call (.Name "range" p) [a] [] pos) (ja ta):=by intro c s f H R I h;refine Call_ (gQ I d g alo (ai4 (thn (n _ _ s f H _ I h) λu w⟨v,o,k,m,b⟩=>?_) i rfl));obtain⟨j,e,b,l,q⟩:=b;subst e;cases m with|cons r rr=>cases rr;obtain⟨t,rfl⟩:=r;exact call_range_1 (qk k (by omega) (by omega) b l (by grind))
def u6{a b ta p pos}(g:Gl X "range")(m:X.mg "range"=none)(w:PA X [a,b] ta)(z:starEach [a,b] X.env=[(false,eval a X.env),(false,eval b X.env)]:=by rfl)(d:starEach [b] X.env=[(false,eval b X.env)]:=by rfl):PI X tg (.Call (.Name "range" p) [a,b] [] pos) (y7 ta):=by intro f s l H R I h;refine Call_ (gQ I g m alo (ai4 (thn (w pos _ s l H _ I h) λy B⟨A,x,n,v,c⟩=>?_) (by grind) (by rw[d];rfl)));obtain⟨i,j,e,⟨c,o,k,u⟩,q⟩:=c;subst e;cases v with|cons r rr=>cases rr with|cons r' rr=>cases rr;obtain⟨t,rfl⟩:=r;obtain⟨C,rfl⟩:=r';exact call_range_2 (qk n c o k u q)
def ag7(wi:TI)(g:TG)(tb:TS):TS:=λD a H=>wi a H λJ f=>∃W:Nat->Nat->St->Hp->Prop,(∃m,W 0 m a f)/\∀i m a H,W i m a H->J.stop i H/\D.nx a H\/J.go i H/\∃N:St->Hp->Prop,(∀c b,N c b->∃e,e<m/\W (i+1) e c b)/\∀x b,J.yld i H x b->g x a b λd h=>tb {D with nx:=N,ct:=N,bk:=D.nx} d h
noncomputable def mJ(a:List Addr)(h:Heap):List (Addr×Obj):=a.filterMap λb=>(h.get? b).map λo=>(b,o)
def er{a h b o}(c:b∈a)(e:h.get? b=some o):(b,o)∈mJ a h:=List.mem_filterMap.mpr ⟨b,c,by grind⟩
def vp{a h p}(d:p∈mJ a h):p.1∈a/\h.get? p.1=some p.2:=by obtain⟨b,f,e⟩:=List.mem_filterMap.mp d;cases q:h.get? b with|none=>rw[q]at e;cases e|some o=>rw[q]at e;have c:=aiB e;subst c;exact⟨f,q⟩
def Inv.pinned{pins}{c:St}{H s a}(I:Inv X pins c H s)(i:∀b∈a,rg X pins H b)(l:∀b∈a,∃o,s.heap.get? b=some o/\∀v,o.data≠.cell v):Inv X (pins++mJ a s.heap) c H s:=I.dH λp k=>(ajj.mp k).elim (λz=>I.pin p (aiy _ z)) λz=>by obtain⟨g,e⟩:=vp z;refine afu (i _ g) λj m h _=>?_;refine dh (l _ g) λo f d=>?_;rw[e]at f;cases f;exact⟨e,j,m,h,d⟩
def Inv.kN{pins pl}{a:St}{H s}(I:Inv X (pins++pl) a H s):Inv X pins a H s:=I.dH λp b=>I.pin p (aiy _ (aiP _ b))
def qm{iter y wi g tb pos}(G:PassesOwn (model X.prog X.w) X.A X.env X.xe)(hc:X.calm=true)(hi:PI X tg iter wi)(hg:PG X tg g)(l:PSs X y tb)(hs:∀x,foldedSetIterable iter X.env x=pure x:=by intro _;rfl):PS X (.For tg iter y [] pos) (ag7 wi g tb):=by
 intro a s σ H D I h;refine wpAny_For (thn (hi a s σ H _ I h) λv s1 h1=>thn h1 λa0 s2 h2=>?_) hs;obtain⟨it,K,tn,J,H2,e,I2,T,P,f2,W,⟨m0,w0⟩,turn⟩:=h2;subst e;-- what stays true of the iterator's objects through the loop
 have p:∀{t:Hp},(∀b∈K,t b=none)->∀b∈K,rg X a t b:=λhn b l=>⟨hn b l,(f2 b l).2⟩;refine codeAny_forLoop_any (λn Z=>∃i k t,Inv X a k t Z/\tn i Z.heap/\(∀b∈K,t b=none)/\W i n k t) ?_ m0 (n9 0 σ H2 I2 P (λb l=>(f2 b l).1) w0);rintro n s3⟨i,j,M,I3,E,C,w3⟩;rcases turn i n j M w3 with⟨B,qn⟩|⟨go,N,hN,step⟩;.refine ajV G (thn (T.done X rfl rfl rfl i a s3 j M X.xe hc I3 (p C) E B) λr s4⟨O,I4⟩=>?_);subst O;exact ajU ⟨j,M,I4,qn⟩
 .refine ajV G (thn (T.item X rfl rfl rfl i a s3 j M X.xe hc I3 (p C) E go) λr s4⟨u,O,h4⟩=>?_);subst O;refine ajV G (thn h4 λ_ s5⟨x,H5,I5,r5,y5,z,R⟩=>?_);have Q:=I5.pinned (p R) (T.obj _ _ z);refine ajV G (thn (hg _ s5 j H5 x u _ Q r5 (step x H5 y5)) λ_ s6⟨S,H6,I6,q6⟩=>?_);refine ajV G (thn (l _ s6 S H6 _ I6 q6) λf U A=>?_);have again:∀{c:St}{q:Hp},Inv X (a++mJ K s5.heap) c q U->N c q->∃m,m<n/\∃i k t,Inv X a k t U/\tn i U.heap/\(∀b∈K,t b=none)/\W i m k t:=λ{c q}w Y=>by refine dh (hN c q Y) λm' hm w7=>?_;refine⟨m',hm,i+1,c,q,w.kN,T.keep _ _ _ z λb l o e=>(w.pin (b,o) (aiy _ (aiy _ (er l e)))).1,λb l=>?_,w7⟩;obtain⟨o,e,d⟩:=T.obj _ _ z b l;exact(w.pin (b,o) (aiy _ (aiy _ (er l e)))).2.1
  cases f with|next|cont=>obtain⟨c,q,w,Y⟩:=A;exact again w Y|brk=>refine cH A λc q w A=>?_;exact⟨c,q,w.kN,A⟩|ret v=>refine tj A λx7 c q w r7 A=>?_;exact ab9 x7 c q w.kN r7 A
end
abbrev R2:=V->V->Hp->VK->Prop
def OpR(X:Cx)(f:Value->Value->Sem Value)(r:R2):Prop:=∀(a:List (Addr×Obj))(s:Shared)(b:St)(H:Hp)(x y:V)(v u:Value)(Q:VK),Inv X a b H s->RelV x v->RelV y u->r x y H Q->wpAny (model X.prog X.w) X.A (f v u) (EP X a b Q) X.xe s
def UnR(X:Cx)(f:Value->Sem Value)(r:V->Hp->VK->Prop):Prop:=∀(a:List (Addr×Obj))(s:Shared)(b:St)(H:Hp)(x:V)(v:Value)(Q:VK),Inv X a b H s->RelV x v->r x H Q->wpAny (model X.prog X.w) X.A (f v) (EP X a b Q) X.xe s
def bx(X:Cx)(f:Value)(r:List V->Hp->VK->Prop):Prop:=∀(a:List (Addr×Obj))(s:Shared)(c:St)(H:Hp)(d:List V)(b:List Value)(Q:VK),Inv X a c H s->Vals d b->r d H Q->wpAny (model X.prog X.w) X.A (call f b) (EP X a c Q) X.xe s
def tOp(r:R2)(ta tb:TE):TE:=λa H Q=>ta a H λx b=>tb a b λy c=>r x y c Q
def tUn(r:V->Hp->VK->Prop)(ta:TE):TE:=λa H Q=>ta a H λx b=>r x b Q
def rI(C:Int->Int->Prop)(g:Int->Int->V):R2:=λx y H Q=>∃i j,x=.int i/\y=.int j/\C i j/\Q (g i j) H
def rI0(g:Int->Int->V):R2:=λx y H Q=>∃i j,x=.int i/\y=.int j/\Q (g i j) H
def rU(g:Int->V):V->Hp->VK->Prop:=λx H Q=>∃i,x=.int i/\Q (g i) H
section
variable{X:Cx}{a b c:Expr}{ta tb tc:TE}{pos:Pos}
def agP(w:PE X a ta)(n:PE X b tb){pins s}{d:St}{H}{R:V->V->Hp->Prop}(I:Inv X pins d H s)(h:ta d H λx k=>tb d k λy i=>R x y i){Q}{f:Value->Value->Sem Value}(p:∀v u j x y i,Inv X pins d i j->RelV x v->RelV y u->R x y i->wpAny (model X.prog X.w) X.A (f v u) Q X.xe j):wpAny (model X.prog X.w) X.A (eval a X.env) (λv g=>wpAny (model X.prog X.w) X.A (eval b X.env) (λu e=>wpAny (model X.prog X.w) X.A (f v u) Q X.xe e) X.xe g) X.xe s:=by exact thn (w _ s d H _ I h) λv z⟨x,k,o,r,m⟩=>thn (n _ _ d _ _ o m) λu j⟨y,i,l,t,q⟩=>p v u _ x y _ l r t q
def af6{op r}(j:OpR X (binaryOp op) r)(l:PE X a ta)(i:PE X b tb):PE X (.BinOp a op b pos) (tOp r ta tb):=by intro d s g H Q I h;exact wpAny_BinOp (agP l i I h λv u m x y n f k e q=>j _ _ g _ x y v u Q f k e q)
def af4{op r}(i:UnR X (unaryOp op) r)(j:PE X a ta):PE X (.UnaryOp op a pos) (tUn r ta):=by intro d s e H Q I h;exact UnaryOp_ (thn (j _ s e H _ I h) λv m⟨x,l,k,g,f⟩=>i _ _ e _ x v Q k g f)
def opI{f C}{g:Int->Int->Int}(rule:∀i j t u s Q E,C i j->Q (.int (g i j) s.toks) {s with toks:=s.toks+1}->wpAny (model X.prog X.w) X.A (f (.int i t) (.int j u)) Q E s):OpR X f (rI C λi j=>.int (g i j)):=by intro k s o H x y v u Q I m l h;refine jO h λi j e d n q=>?_;subst e d;obtain⟨t,rfl⟩:=m;obtain⟨p,rfl⟩:=l;exact rule i j t _ s _ _ n (fg (.int _) H (I.tok _) ⟨_,rfl⟩ q)
def ahf{f}{g:Int->Int->Int}(rule:∀i j t u s Q E,Q (.int (g i j) s.toks) {s with toks:=s.toks+1}->wpAny (model X.prog X.w) X.A (f (.int i t) (.int j u)) Q E s):OpR X f (rI0 λi j=>.int (g i j)):=by intro k s n H x y v u Q I m l h;refine jP h λi j e d q=>?_;subst e d;obtain⟨t,rfl⟩:=m;obtain⟨o,rfl⟩:=l;exact rule i j t _ s _ _ (fg (.int _) H (I.tok _) ⟨_,rfl⟩ q)
def age{f}{g:Int->Int->Bool}(rule:∀i j t u s Q E,Q (.bool (g i j)) s->wpAny (model X.prog X.w) X.A (f (.int i t) (.int j u)) Q E s):OpR X f (rI0 λi j=>.bl (g i j)):=by intro d s l H x y v u Q I k e h;obtain⟨i,j,rfl,rfl,q⟩:=h;obtain⟨t,rfl⟩:=k;obtain⟨m,rfl⟩:=e;exact rule i j t _ s _ _ ⟨.bl _,H,I,rfl,q⟩
def agY(i j:Int):Prop:=-2^64<i/\i<2^64\/-2^64<j/\j<2^64
def agY.ok{i j}(h:agY i j):IntMulOk i j:=by
 rcases h with⟨e,d⟩|⟨e,d⟩;.exact .of_left (intBits_le_64 e d)
 .exact .of_right (intBits_le_64 e d)
def adJ:OpR X (binaryOp .Add) (rI0 λi j=>.int (i+j)):=ahf λ_ _ _ _ _ _ _ q=>add_int q
def adB:OpR X (binaryOp .Sub) (rI0 λi j=>.int (i-j)):=ahf λ_ _ _ _ _ _ _ q=>sub_int q
def adD:OpR X (binaryOp .Mult) (rI agY λi j=>.int (i*j)):=opI λ_ _ _ _ _ _ _ d q=>mul_int q d.ok
def adE:OpR X (binaryOp .Mod) (rI (λ_ j=>0<j) λi j=>.int (i%j)):=opI λi j _ _ _ _ _ d q=>by have e:(0:Int)<j:=d;exact mod_int' (by omega) (by rw[Int.fmod_eq_emod_of_nonneg i (by omega)];exact q)
def unI{f}{g:Int->Int}(rule:∀i t s Q E,Q (.int (g i) s.toks) {s with toks:=s.toks+1}->wpAny (model X.prog X.w) X.A (f (.int i t)) Q E s):UnR X f (rU λi=>.int (g i)):=by intro d s j H x v Q I e h;obtain⟨i,rfl,q⟩:=h;obtain⟨t,rfl⟩:=e;exact rule i t s _ _ ⟨.int _,H,I.tok _,⟨_,rfl⟩,q⟩
def acN:UnR X (unaryOp .USub) (rU λi=>.int (-i)):=unI λ_ _ _ _ _ q=>neg_int q
end
noncomputable def afS:V->V->Bool|.non,.non=>true|.non,.int _=>true|.int _,.non=>true|.non,.bl _=>true|.bl _,.non=>true|.non,.str _=>true|.str _,.non=>true|.int _,.int _=>true|.bl _,.bl _=>true|.str _,.str _=>true|.byt _,.byt _=>true|.int _,.str _=>true|.str _,.int _=>true|.bl _,.str _=>true|.str _,.bl _=>true|_,_=>false
def rEq:R2:=λx y H Q=>afS x y=true/\Q (.bl (decide (x=y))) H
def rNe:R2:=λx y H Q=>afS x y=true/\Q (.bl !decide (x=y)) H
def pj{i j:Int}:decide (V.int i=V.int j)=(i==j):=by rw[ajk];simp
def wD{i j:Bool}:decide (V.bl i=V.bl j)=(i==j):=by rw[ajk];simp
def ph{i j:Str}:decide (V.str i=V.str j)=(i==j):=by rw[ajk];simp
def wC{i j}:decide (V.byt i=V.byt j)=(i.toList==j.toList):=by rw[ajk];cases i;cases j;simp
section
variable{X:Cx}{a b c:Expr}{ta tb tc:TE}{pos:Pos}
def aG{pins}{d:St}{H s Q k k'}(I:Inv X pins d H s)(q:Q (.bl k) H)(e:k=k'):EP X pins d Q (.bool k') s:=by subst e;exact⟨.bl k,H,I,rfl,q⟩
def agd:OpR X (compareOp .Eq) rEq:=by intro k s l H x y v u Q I g d h;obtain⟨f,q⟩:=h;cases x with
|non=>cases g;cases y with|non=>cases d;exact PySem.EqNone.eq_none_none (aG I q (by simp))|bl j=>cases d;exact PySem.EqNone.eq_none_bool (aG I q (by simp))|int j=>obtain⟨e,rfl⟩:=d;exact PySem.EqNone.eq_none_int (aG I q (by simp))|str j=>obtain⟨e,rfl⟩:=d;exact PySem.EqNone.eq_none_str (aG I q (by simp))|_=>exact absurd (show false=true from f) aiz
|bl i=>cases g;cases y with|non=>cases d;exact PySem.EqNone.eq_bool_none (aG I q (by simp))|bl j=>cases d;exact eq_bool (aG I q wD)|str j=>obtain⟨e,rfl⟩:=d;exact PySem.EqMixed.eq_bool_str (aG I q (by simp))|_=>exact absurd (show false=true from f) aiz
|int i=>obtain⟨t,rfl⟩:=g;cases y with|non=>cases d;exact PySem.EqNone.eq_int_none (aG I q (by simp))|int j=>obtain⟨e,rfl⟩:=d;exact eq_int (aG I q pj)|str j=>obtain⟨e,rfl⟩:=d;exact PySem.EqMixed.eq_int_str (aG I q (by simp))|_=>exact absurd (show false=true from f) aiz
|str i=>obtain⟨t,rfl⟩:=g;cases y with|non=>cases d;exact PySem.EqNone.eq_str_none (aG I q (by simp))|bl j=>cases d;exact PySem.EqMixed.eq_str_bool (aG I q (by simp))|int j=>obtain⟨e,rfl⟩:=d;exact PySem.EqMixed.eq_str_int (aG I q (by simp))|str j=>obtain⟨e,rfl⟩:=d;exact eq_str (aG I q ph)|_=>exact absurd (show false=true from f) aiz
|byt i=>obtain⟨t,rfl⟩:=g;cases y with|byt j=>obtain⟨e,rfl⟩:=d;exact W.eq_bytes (aG I q wC)|_=>exact absurd (show false=true from f) aiz
|_=>cases y<;>exact absurd (show false=true from f) aiz
def af9:OpR X (compareOp .NotEq) rNe:=by intro k s l H x y v u Q I g d h;obtain⟨f,q⟩:=h;cases x with
|non=>cases g;cases y with|non=>cases d;exact PySem.EqNone.ne_none_none (aG I q (by simp))|bl j=>cases d;exact PySem.EqNone.ne_none_bool (aG I q (by simp))|int j=>obtain⟨e,rfl⟩:=d;exact PySem.EqNone.ne_none_int (aG I q (by simp))|str j=>obtain⟨e,rfl⟩:=d;exact PySem.EqNone.ne_none_str (aG I q (by simp))|_=>exact absurd (show false=true from f) aiz
|bl i=>cases g;cases y with|non=>cases d;exact PySem.EqNone.ne_bool_none (aG I q (by simp))|bl j=>cases d;exact ne_bool (aG I q (ajW not wD))|str j=>obtain⟨e,rfl⟩:=d;exact PySem.EqMixed.ne_bool_str (aG I q (by simp))|_=>exact absurd (show false=true from f) aiz
|int i=>obtain⟨t,rfl⟩:=g;cases y with|non=>cases d;exact PySem.EqNone.ne_int_none (aG I q (by simp))|int j=>obtain⟨e,rfl⟩:=d;exact ne_int (aG I q (ajW not pj))|str j=>obtain⟨e,rfl⟩:=d;exact PySem.EqMixed.ne_int_str (aG I q (by simp))|_=>exact absurd (show false=true from f) aiz
|str i=>obtain⟨t,rfl⟩:=g;cases y with|non=>cases d;exact PySem.EqNone.ne_str_none (aG I q (by simp))|bl j=>cases d;exact PySem.EqMixed.ne_str_bool (aG I q (by simp))|int j=>obtain⟨e,rfl⟩:=d;exact PySem.EqMixed.ne_str_int (aG I q (by simp))|str j=>obtain⟨e,rfl⟩:=d;exact ne_str (aG I q (ajW not ph))|_=>exact absurd (show false=true from f) aiz
|byt i=>obtain⟨t,rfl⟩:=g;cases y with|byt j=>obtain⟨e,rfl⟩:=d;exact W.ne_bytes (aG I q (ajW not wC))|_=>exact absurd (show false=true from f) aiz
|_=>cases y<;>exact absurd (show false=true from f) aiz
def aga:OpR X (compareOp .Lt) (rI0 λi j=>.bl (decide (i<j))):=age λ_ _ _ _ _ _ _ q=>lt_int q
def agb:OpR X (compareOp .LtE) (rI0 λi j=>.bl (decide (i<=j))):=age λ_ _ _ _ _ _ _ q=>le_int q
def agc:OpR X (compareOp .Gt) (rI0 λi j=>.bl (decide (j<i))):=age λ_ _ _ _ _ _ _ q=>gt_int q
def vl:OpR X (compareOp .In) λx y H Q=>∃i j,x=.str i/\y=.str j/\Q (.bl !(Builtin.Str.occurrences j i 0 j.length 1).isEmpty) H:=by intro d s g H x y v u Q I f e h;obtain⟨i,j,rfl,rfl,q⟩:=h;obtain⟨t,rfl⟩:=f;obtain⟨k,rfl⟩:=e;exact in_str (aG I q rfl)
def adF:OpR X (compareOp .Is) λx y H Q=>y=.non/\Q (.bl (decide (x=.non))) H:=by intro d s g H x y v u Q I f e h;obtain⟨rfl,q⟩:=h;cases e;refine is_none_gen (aG I q ?_);cases x<;>(obtain⟨t,rfl⟩:=f;rfl)
def abf:OpR X (compareOp .IsNot) λx y H Q=>y=.non/\Q (.bl !decide (x=.non)) H:=by intro d s g H x y v u Q I f e h;obtain⟨rfl,q⟩:=h;cases e;refine isnot_none_gen (aG I q ?_);cases x<;>(obtain⟨t,rfl⟩:=f;rfl)
def OpR.or{f r g}(h:OpR X f r)(h':OpR X f g):OpR X f λx y H Q=>r x y H Q\/g x y H Q:=by
 intro e s i H x y v u Q I j d q;rcases q with q|q;.exact h _ s i H x y v u Q I j d q
 .exact h' _ s i H x y v u Q I j d q
def bh(b){op}(h:op≠.In:=by decide)(d:op≠.NotIn:=by decide):behindInMarks op b=false:=yF b h d
def abb{op r}(k:OpR X (compareOp op) r)(m:PE X a ta)(j:PE X b tb)(g:behindInMarks op b=false):PE X (.Compare a [op] [b] pos) (tOp r ta tb):=by intro d s i H Q I h;exact wpAny_Compare1 (agP m j I h λv u n x y o f l e q=>k _ _ i _ x y v u Q f l e q) g
def aaO(t:TE):TT:=λd H Q=>t d H λx e=>∃k,x=.bl k/\Q k e
def aa3{op r}(A:OpR X (compareOp op) r)(C:PE X a ta)(n:PE X b tb)(m:behindInMarks op b=false):PT X (.Compare a [op] [b] pos) (aaO (tOp r ta tb)):=by intro f s d H Q I h;refine wpAny_isTrue_Compare1 (thn (C _ s d H _ I h) λv K⟨x,E,o,w,i⟩=>thn (n _ _ d _ _ o i) λu D⟨y,J,g,B,t⟩=>thn (A _ _ d _ x y v u _ g w B t) λc G⟨z,p,q,j,k,e,l⟩=>?_) m;subst e;cases j;exact ajb ⟨p,q,l⟩
def uy(r h:R2)(ta tb tc:TE):TE:=λd H Q=>ta d H λx f=>tb d f λy g=>r x y g λz e=>∃k,z=.bl k/\if k=true then tc d e λj i=>h y j i Q else Q (.bl false) e
def yx{op g r o}(ho:OpR X (compareOp op) r)(j:OpR X (compareOp g) o)(K:PE X a ta)(N:PE X b tb)(M:PE X c tc)(A:lastMarks [op,g] [b,c]=false:=by with_unfolding_all rfl):PE X (.Compare a [op,g] [b,c] pos) (uy r o ta tb tc):=by intro f s i H Q I h;refine Compare_chain (thn (K _ s i H _ I h) λv J⟨x,t,D,Z,R⟩=>chain_link (thn (N _ J i t _ D R) λu q⟨y,U,P,n,Y⟩=>thn (ho _ q i U x y v u _ P Z n Y) λd S⟨z,p,m,G,k,e,l⟩=>?_)) A;subst e;cases G;refine ajb ?_;cases k with|false=>exact ite_ff ⟨.bl _,p,m,rfl,l⟩|true=>exact ite_tt (chain_last (thn (M f S i p _ m l) λw' T⟨C,B,O,w,E⟩=>j f T i B y C u w' Q O n w E))
def yk{op g r o}(ho:OpR X (compareOp op) r)(j:OpR X (compareOp g) o)(P:PE X a ta)(S:PE X b tb)(R:PE X c tc)(A:lastMarks [op,g] [b,c]=false:=by with_unfolding_all rfl):PT X (.Compare a [op,g] [b,c] pos) (aaO (uy r o ta tb tc)):=by intro f s i H Q I h;refine isTrue_chain (thn (P f s i H _ I h) λv O⟨x,t,E,r1,Y⟩=>test_link (thn (S _ O i t _ E Y) λu q⟨y,H2,U,n,q2⟩=>thn (ho _ q i H2 x y v u _ U r1 n q2) λd s3⟨z,p,m,N,k,e,l⟩=>?_)) A;subst e;cases N;refine ajb ?_;cases k with|false=>obtain⟨k',J,q'⟩:=l;cases J;exact ite_ff ⟨p,m,q'⟩|true=>refine ite_tt (test_last (thn (R _ s3 i p _ m l) λw' s4⟨D,C,T,w,M⟩=>thn (j f s4 i C y D u w' _ T n w M) λd' s5⟨z2,G,K,B,k2,Z,q5⟩=>?_));subst Z;cases B;exact ajb ⟨G,K,q5⟩
def qK:sizeLine<2^63:=by decide
def vals1{x us}(r:Vals [x] us):∃u,us=[u]/\RelV x u:=by cases r with|cons r1 r2=>cases r2;exact⟨_,rfl,r1⟩
def vals2{x y us}(r:Vals [x,y] us):∃u d,us=[u,d]/\RelV x u/\RelV y d:=by cases r with|cons r1 r2=>cases r2 with|cons r3 r4=>cases r4;exact⟨_,_,rfl,r1,r3⟩
def wY:bx X (.type "int") λd H Q=>(∃i,d=[.int i]/\Q (.int i) H)\/∃k,d=[.bl k]/\Q (.int (if k then 1 else 0)) H:=by
 intro e s j H d g Q I r h;rcases h with⟨i,rfl,q⟩|⟨k,rfl,q⟩;.obtain⟨u,rfl,t,rfl⟩:=vals1 r;exact call_int_int ⟨.int i,H,I,⟨_,rfl⟩,q⟩
 .obtain⟨u,rfl,f⟩:=vals1 r;cases f;exact call_int_bool ⟨.int (if k then 1 else 0),H,I.tok _,⟨_,rfl⟩,q⟩
end
structure ObjM(h:Heap)(x dx C:Addr)(mA:Str->Option Value):Prop where
 obj:h.get? x=some (W.instObj C dx)ns:h.Ns1 dx mA
 ne:dx≠x
def ng{h:Heap}{dx d}(n:h.Ns1 dx d):∃od,h.get? dx=some od/\∀b,W.lookIn b od=some (d b):=by
 refine aeX n λo f p m l j _ i=>?_;refine⟨o,m,λb=>?_⟩;have e:=i b;unfold nsFind findBy at e;rw[<-akG]at e;unfold W.lookIn;rw[l];dsimp ;split;.rename_i y q;rw[q]at e;exact ajW _ e
 .rename_i q;rw[q]at e;have a:f.toList.any (·.refKey)=false:=by rw[List.any_eq_false];intro y g;obtain⟨z,t,c⟩:=j y (Array.mem_toList_iff.mp g);simp[DictEntry.refKey,c]
  have k:¬f.toList.any (·.refKey)=true:=by grind
  rw[aik k];exact ajW _ e
def ObjM.look{h x dx C b}(I:ObjM h x dx C b):∃od,W.InstAt h x (W.instObj C dx) C (some od)/\∀a,W.lookIn a od=some (b a):=let⟨od,c,d⟩:=ng I.ns;⟨od,⟨I.obj,rfl,rfl,c⟩,d⟩
section
variable{prog:Program}{w:World}{A:Around}{E:Value->Shared->Prop}{s:Shared}{K:W.Frag}{x dx C f:Addr}{mA:Str->Option Value}{name:Str}{v:Value}
def get_map{a Q}(X:K.In s.heap)(I:ObjM s.heap x dx C mA)(c:W.plainGet K C name=true)(e:W.hasDictIn K C=true)(d:W.findIn K (.ref C) name=some none)(g:mA name=some v)(b:W.handedIn v=true)(h:Q v {s with toks:=s.toks+1}):wpAny (model prog w) A (getAttr (.ref x) name a) Q E s:=by obtain⟨od,J,i⟩:=I.look;exact W.get_value X J (W.plainGet_of c).1 (W.findObj_own e d rfl (by grind)) b h
def zf{pl Q}(X:K.In s.heap)(I:ObjM s.heap x dx C mA)(a:W.plainGet K C name=true)(b:W.findIn K (.ref C) name=some (some (.ref f)))(c:W.isFn K (.ref f)=true)(d:mA name=none)(h:Q (.ref f,[.ref x]) s):wpAny (model prog w) A (getMethod (.ref x) name pl) Q E s:=by obtain⟨od,J,e⟩:=I.look;exact W.method_fn X J (W.plainGet_of a).1 (W.plainGet_of a).2 b (aje.mp c) (by show(W.lookIn _ _).map _=some _;rw[e,d];rfl) h
def aaT{ns Q}(X:K.In s.heap)(I:ObjM s.heap x dx C mA)(n:W.findIn K (.ref C) "__setattr__"=some (some (.builtin "object.__setattr__")))(p:W.plainOver K C=true)(o:W.takerIn K C name=some none)(t:W.hasDictIn K C=true)(hw:PySem.Within mA ns)(hsz:ns.length<=sizeLine)(h:∀e,ObjM e x dx C (λy=>if y=name then some v else mA y)->Heap.SameBut dx s.heap e->Q () {s with heap:=e,toks:=s.toks+2}):wpAny (model prog w) A (setAttr (.ref x) name v) Q E s:=by refine dh I.look λod J z=>?_;refine W.set_plain X J n (W.osa_open (s:={s with toks:=s.toks+1}) (r:=none) X J p o λb=>?_);refine dh (W.any_some t) λB q g=>?_;refine aif (aio (aif (aif (akA I.obj (aif (W.Looks.here (akK X q) ?_))))));rw[g];refine aio (a:=some dx) (aif (aio (aif ?_)));refine wpAny_nsSet1 I.ns λe d c=>?_;refine tj (d.count (akO name v hw)) λu l m i k j=>?_;refine aif (akZ i (by rw[k];exact ak0 (aip j (by rw[ait];omega))) ?_);exact aio (h _ ⟨(c.2 _ (aiu I.ne)).trans I.obj,d,I.ne⟩ c)
def yI{R vs a}(X:K.In s.heap)(e:W.makesIn K C=true)(d:W.findIn K (.ref C) "__init__"=some (some (.ref f)))(c:W.typeIn K (.ref f)=some (.type "function"))(h:codeAny (model prog w) (A.under (.builtin "type.__call__" ⟨.ref C::vs,a⟩)) (.call (.ref f) ⟨.ref (s.heap.objs.size+1)::vs,a⟩) (W.InitBack (s.heap.objs.size+1) R) {s with heap:=(s.heap.push W.emptyDict).push (W.instObj C s.heap.objs.size)}):codeAny (model prog w) A (.call (.ref C) ⟨vs,a⟩) R s:=by exact W.make_core (W.makes_of X e) (W.looks_findIn X d) (λb=>W.bind_fn X _ c) (.inl rfl) h
end
noncomputable def mH(f:Str)(v:V):List (Str×V)->List (Str×V)|[]=>[(f,v)]|(g,x)::r=>if g=f then(g,v)::r else(g,x)::mH f v r
theorem i3(f g)(v):∀fs,(mH f v fs).lookup g=if g=f then some v else fs.lookup g
|[]=>by
 show List.lookup g [(f,v)]=_;by_cases h:g=f;.simp only[List.lookup,aje.mpr h,aij h]
 .simp only[List.lookup,ai9.mpr h,aik h]|(k,x)::r=>by
  have b:=i3 f g v r;rw[show mH f v ((k,x)::r)=if k=f then(k,v)::r else(k,x)::mH f v r from rfl];by_cases a:k=f
  .rw[aij a];by_cases h:g=k;.have c:(g==k)=true:=aje.mpr h;simp only[List.lookup,c,aij (h.trans a)]
   .simp only[List.lookup,ai9.mpr h,aik λe:g=f=>h (e.trans a.symm)]
  .rw[aik a];by_cases h:g=k;.simp only[List.lookup,aje.mpr h,aik λe:g=f=>a (h.symm.trans e)]
   .simp only[List.lookup,ai9.mpr h];exact b
theorem i7(f)(v):∀fs,f∈(mH f v fs).map (·.1)/\∀g,g∈fs.map (·.1)->g∈(mH f v fs).map (·.1)
|[]=>⟨by simp[mH],λg h=>by simp at h⟩|(k,x)::r=>by
  obtain⟨c,b⟩:=i7 f v r;rw[show mH f v _=if k=f then(k,v)::r else(k,x)::mH f v r from rfl];by_cases a:k=f;.subst a;exact⟨by simp,λg h=>by simpa using h⟩
  .rw[aik a];refine⟨?_,λg h=>?_⟩;.exact aiV _ c
   .rcases aiO.mp h with e|e;.exact aiO.mpr (.inl e)
    .exact aiV _ (b g e)
theorem i4(f)(v):∀fs,(mH f v fs).length<=fs.length+1
|[]=>by simp[mH]|(k,x)::r=>by
 have b:=i4 f v r;rw[show mH f v _=if k=f then(k,v)::r else(k,x)::mH f v r from rfl];by_cases a:k=f;.rw[aij a,ait,ait];omega
 .rw[aik a,ait,ait];omega
def n8.some_of{v o}(r:n8 (some v) o):∃u,o=some u/\RelV v u:=by cases o with|none=>exact(r).elim|some u=>exact⟨u,rfl,r⟩
def n8.none_of{o}(r:n8 none o):o=none:=by cases o with|none=>rfl|some u=>exact(r).elim
def nk{v u}(r:RelV v u):W.handedIn u=true:=by cases v with|non|bl b=>cases r;rfl|int i|str x|byt b|flt b=>obtain⟨t,e⟩:=r;cases e;rfl|ref a|ty n=>cases r;rfl
section
variable{P:Program}{w:World}{H H':Hp}{h h':Heap}{a C dx:Addr}{fs fs':List (Str×V)}
def lx(c:HOk P w H h)(e:H a=some (.ins C dx fs)):∃b,ObjM h a dx C b/\(∀f,n8 (fs.lookup f) (b f))/\PySem.Within b (fs.map (·.1))/\fs.length<=1000/\H dx=some (.own a):=by obtain⟨d,z,g,ob,b,n,r,q⟩:=c a _ e;exact⟨b,⟨ob,n,g⟩,r,q,z,d⟩
end
structure Cls(K:W.Frag)(C:Addr):Prop where
 pg:W.plainGet K C Str.empty=true
 hd:W.hasDictIn K C=true
 po:W.plainOver K C=true
 sa:W.findIn K (.ref C) "__setattr__"=some (some (.builtin "object.__setattr__"))
def Cls.get{K C}(c:Cls K C)(f):W.plainGet K C f=true:=c.pg
def aW(K:W.Frag)(C:Addr)(f:Str):Prop:=W.findIn K (.ref C) f=some none
def aW.afG{K C f}(n:aW K C f):W.takerIn K C f=some none:=by unfold W.takerIn;rw[n];rfl
structure Meth(K:W.Frag)(C:Addr)(m:Str)(f:Addr):Prop where
 at_:W.findIn K (.ref C) m=some (some (.ref f))fn:W.isFn K (.ref f)=true
 kp:W.keepIn K (.ref f)=true
section
variable{X:Cx}{pins:List (Addr×Obj)}{σ:St}{H:Hp}{s:Shared}{a C dx:Addr}{fs:List (Str×V)}{f:Str}{v:V}{A:Around}{E:Value->Shared->Prop}
def sC{b Q}(I:Inv X pins σ H s)(e:H a=some (.ins C dx fs))(c:Cls X.K C)(n:aW X.K C f)(l:fs.lookup f=some v)(h:∀u d,Inv X pins σ H d->RelV v u->Q u d):wpAny (model X.prog X.w) A (getAttr (.ref a) f b) Q E s:=by obtain⟨i,O,r,_,_,_⟩:=lx I.hok e;obtain⟨u,j,g⟩:=n8.some_of (v:=v) (o:=i f) (by grind);exact get_map I.kIn O (c.get f) c.hd n j (nk g) (h u _ (I.tok _) g)
def sA{m g pl Q}(I:Inv X pins σ H s)(e:H a=some (.ins C dx fs))(c:Cls X.K C)(k:Meth X.K C m g)(l:fs.lookup m=none)(h:Q (.ref g,[.ref a]) s):wpAny (model X.prog X.w) A (getMethod (.ref a) m pl) Q E s:=by obtain⟨b,O,r,_,_,_⟩:=lx I.hok e;exact zf I.kIn O (c.get m) k.at_ k.fn (n8.none_of (by grind)) h
def rJ{y u Q}(I:Inv X pins σ H s)(e:H a=some (.ins C dx fs))(c:Cls X.K C)(n:aW X.K C f)(K:fs.length<1000)(m:RelV y u)(h:∀i,Inv X pins σ (upd H a (.ins C dx (mH f y fs))) i->Q () i):wpAny (model X.prog X.w) A (setAttr (.ref a) f u) Q E s:=by
 obtain⟨l,O,r,j,_,k⟩:=lx I.hok e;have t:(fs.map (·.1)).length<=sizeLine:=by rw[aiR,ajS];omega
 refine aaT I.kIn O c.sa c.po n.afG c.hd j t λB d D=>h _ ?_;have G:∃o,B.get? dx=some o:=let⟨o,_,_,w,_⟩:=d.ns;⟨o,w⟩;refine I.write (x:=a) (e:=dx) (by rw[e];exact True.intro) (.inr k) (λb q J z=>(D.2 b J).trans z) G ⟨by rw[ae O.ne];exact k,?_,O.ne,d.obj,_,d.ns,λg=>?_,λg p=>?_⟩;.have:=i4 f y fs;omega
 .rw[i3];by_cases q:g=f;.rw[aij q,aij q];exact m
  .rw[aik q,aik q];exact r g
 .by_cases q:g=f;.rw[q];exact(i7 f y fs).1
  .refine(i7 f y fs).2 g (j g λz=>p ?_);show(if g=f then some u else l g)=none;rw[aik q];exact z
def Inv.made(I:Inv X pins σ H s):Inv X pins σ (upd (upd H s.heap.objs.size (.own (s.heap.objs.size+1))) (s.heap.objs.size+1) (.ins C s.heap.objs.size [])) {s with heap:=(s.heap.push W.emptyDict).push (W.instObj C s.heap.objs.size)}:=by
 have d:(s.heap.push W.emptyDict).get? s.heap.objs.size=some W.emptyDict:=ais s.heap rfl;have h:=by have:=ais (s.heap.push W.emptyDict) (o:=W.instObj C s.heap.objs.size) rfl;rwa[akB]at this
 have j:=I.laid (o:=.own (s.heap.objs.size+1)) (t':=s.toks) (λb u q=>aih _ q) (aim _) ⟨_,d⟩;refine j.laid  (λb u q=>aih _ q) (ak1 (akB _ _)) ?_;have c:s.heap.objs.size≠s.heap.objs.size+1:=aix (ak2 _);refine⟨by rw[ae c,ah],aiN _,c,h,_,(akP (n9 W.emptyDict #[] _ d rfl (λe g=>absurd g (by simp)) λ_=>rfl)).at λo q=>aih _ q,λ_=>True.intro,λy i=>absurd rfl i⟩
def xh{prog w b e f pos s Q}(d:attributeBase e f b (eval e b)=eval e b)(h:wpAny (model prog w) A (eval e b) (λo c=>wpAny (model prog w) A (getAttr o f true) Q E c) E s):wpAny (model prog w) A (eval (.Attribute e f pos) b) Q E s:=Attribute_any_ h (by rw[arm_eval_Attribute,d])
end
def afM(K:W.Frag)(ta:TE)(f:Str):TE:=λd H Q=>ta d H λx b=>∃a C c fs v,x=.ref a/\b a=some (.ins C c fs)/\Cls K C/\aW K C f/\fs.lookup f=some v/\Q v b
def afU(K:W.Frag)(ta tv:TE)(f:Str):TS:=λD b H=>tv b H λy e=>ta b e λx c=>∃a C d fs,x=.ref a/\c a=some (.ins C d fs)/\Cls K C/\aW K C f/\fs.length<1000/\D.nx b (upd c a (.ins C d (mH f y fs)))
section
variable{X:Cx}{o e value:Expr}{f:Str}{pos pos' tpos:Pos}{ta tv:TE}
def qq(p:PE X e ta)(j:attributeBase e f X.env (eval e X.env)=eval e X.env):PE X (.Attribute e f pos) (afM X.K ta f):=by intro b s i H Q I h;refine xh j (thn (p _ s i H _ I h) λu y⟨x,g,m,t,a,C,z,fs,v,ex,k,c,n,l,q⟩=>?_);subst ex;obtain rfl:=t;exact sC m k c n l λA w d r=>⟨v,g,d,r,q⟩
def uZ(p:PE X o ta)(r:PE X value tv)(i:swapsWith value (some (.Attribute o f pos')) pos.line X.env=pure false):PS X (.Assign [.Attribute o f pos'] value pos) (afU X.K ta tv f):=by intro d s b H D I h;refine ajt (thn (r _ s b H _ I h) λu E⟨y,A,j,g,q⟩=>thn (p _ _ b _ _ j q) λB z⟨x,K,t,m,a,C,G,fs,ex,v,c,n,l,w⟩=>?_) i;subst ex;obtain rfl:=m;exact rJ t v c n l g λJ k=>⟨b,_,k,w⟩
end
section
variable{X:Cx}{pins:List (Addr×Obj)}{σ:St}{H:Hp}{s:Shared}{A:Around}{E:Value->Shared->Prop}{Q:Value->Shared->Prop}{c:Value}{b:Bool}
inductive TyOf(K:W.Frag)(H:Hp):V->Value->Prop where|non:TyOf K H .non (.type "NoneType")|bl(x:Bool):TyOf K H (.bl x) (.type "bool")|int(i:Int):TyOf K H (.int i) (.type "int")|str(x:Str):TyOf K H (.str x) (.type "str")|flt(x:UInt64):TyOf K H (.flt x) (.type "float")|lst{a:Addr}{xs:List V}(e:H a=some (.lst xs)):TyOf K H (.ref a) (.type "list")|frz{a:Addr}{o:Obj}{xs:List V}(e:H a=some (.frz o (.lst xs))):TyOf K H (.ref a) (.type "list")|tup{a:Addr}{xs:List V}(e:H a=some (.tup xs)):TyOf K H (.ref a) (.type "tuple")|dK{a:Addr}{kvs:List (Key×V)}(e:H a=some (.dK kvs)):TyOf K H (.ref a) (.type "dict")|dT{a:Addr}{kvs:List (List Key×V)}(e:H a=some (.dT kvs)):TyOf K H (.ref a) (.type "dict")|ins{a C dx:Addr}{fs:List (Str×V)}(e:H a=some (.ins C dx fs))(cl:Cls K C)(ha:W.findIn K (.ref C) "__class__"=some (some (.builtin "object.__class__")))(hn:W.specialIn K (.builtin "object.__class__") "__get__"=some (some (.builtin "getset_descriptor.__get__")))(htk:W.takesIn K (.builtin "object.__class__")=some true)(hm:W.mroIn K C (.type "object")=some true):TyOf K H (.ref a) (.ref C)
def vO{x u t}(I:Inv X pins σ H s)(d:RelV x u)(ty:TyOf X.K H x t)(e:W.kitOne X.K t c=some b)(h:∀tk,Q (.bool b) {s with toks:=tk}):wpAny (model X.prog X.w) A (call (.builtin "isinstance") [u,c]) Q E s:=by cases ty with|non=>cases show u=Value.none from d;exact ajc W.kitx_none I.kIn True.intro e (λz=>nomatch z) h|bl y=>cases show u=Value.bool y from d;exact ajc W.kitx_bool I.kIn True.intro e (λz=>nomatch z) h|int i=>obtain⟨t,q⟩:=show∃t,u=Value.int i t from d;cases q;exact ajc W.kitx_int I.kIn True.intro e (λz=>nomatch z) h|str y=>obtain⟨t,q⟩:=show∃t,u=Value.str y t from d;cases q;exact ajc W.kitx_str I.kIn True.intro e (λz=>nomatch z) h|flt y=>obtain⟨t,q⟩:=show∃t,u=Value.float y t from d;cases q;exact ajc W.kitx_float I.kIn True.intro e (λz=>nomatch z) h|@lst a j ea=>cases show u=Value.ref a from d;obtain⟨_,_,n,_,f⟩:=I.hok a _ ea;exact ajc W.kitx_list I.kIn ⟨_,f,rfl⟩ e (λz=>nomatch z) h|@frz a ob j ea=>cases show u=Value.ref a from d;obtain⟨_,_,_,n,_,f⟩:=I.hok a _ ea;exact ajc W.kitx_list I.kIn ⟨_,f,rfl⟩ e (λz=>nomatch z) h|@tup a j ea=>cases show u=Value.ref a from d;obtain⟨_,_,_,p⟩:=show bL X.prog X.w H s.heap a (.tup j)from I.hok a _ ea;refine gD p λo f g _=>?_;exact ajc W.kitx_tuple I.kIn ⟨o,f,g⟩ e (λz=>nomatch z) h|@dK a kvs ea=>cases show u=Value.ref a from d;obtain⟨_,_,r,_,p⟩:=I.hok a _ ea;refine tj p λo k l f g _=>?_;exact ajc W.kitx_dict I.kIn ⟨o,f,g.1⟩ e (λz=>nomatch z) h|@dT a kvs ea=>cases show u=Value.ref a from d;obtain⟨_,_,j,_,o,k,l,f,g,_⟩:=show bL X.prog X.w H s.heap a (.dT kvs)from I.hok a _ ea;exact ajc W.kitx_dict I.kIn ⟨o,f,g.1⟩ e (λz=>nomatch z) h|@ins a C dx fs ea cl ha hn htk hm=>cases show u=Value.ref a from d;refine dh (lx I.hok ea) λm O _=>?_;obtain⟨od,J,_⟩:=O.look;exact ajc (W.kitx_own (cl.get _) cl.hd ha hn htk hm) I.kIn J e (λz=>nomatch z) h
end
structure Room(k:Nat)(A:Around):Prop where
 hd:40<=k->A.handled=none
 dp:A.depth+3*k+5<recursionLimit
 un:A.units+16*k+200<cLine
 gd:A.guards=some []
def Room.mono{j k A}(r:Room k A)(h:j<=k):Room j A:=⟨λz=>r.hd (by omega),by have:=r.dp;omega,by have:=r.un;omega,r.gd⟩
theorem Room.deeper{k A}(r:Room (k+1) A)(a):Room k (A.deeper a):=⟨λz=>r.hd (by omega),by have:=r.dp;show A.depth+1+3*k+5<_;omega,by have:=r.un;show A.units+3+16*k+200<_;omega,r.gd⟩
def sf{A:Around}{C us a}:(A.under (.builtin "type.__call__" ⟨.ref C::us,a⟩)).depth=A.depth+1:=by rfl
def se{A:Around}{C us a}:(A.under (.builtin "type.__call__" ⟨.ref C::us,a⟩)).units=A.units+1:=rfl
def Room.make{k A}(r:Room (k+1) A)(C)(us)(a):Room k (A.under (.builtin "type.__call__" ⟨.ref C::us,a⟩)):=⟨λz=>r.hd (by omega),by have:=r.dp;rw[sf];omega,by have:=r.un;rw[se];omega,r.gd⟩
def Room.calm{k}{A:Around}{a}(r:Room k (A.deeper a))(h:40<=k):A.handled.isNone=true:=by rw[show A.handled=none from r.hd h];rfl
def Room.sui{k A v}(r:Room k A)(h:39<=k):Room 39 (A.mark v):=⟨λz=>by omega,by have:=r.dp;show A.depth+3*39+5<_;omega,by have:=r.un;show A.units+16*39+200<_;omega,r.gd⟩
theorem Room.depth{k A}(r:Room k A):A.depth<recursionLimit:=by have:=r.dp;omega
theorem Room.units{k A}(r:Room k A):A.units+64<cLine:=by have:=r.un;omega
def x6:TA:=λ_ H Q=>Q [] H
def fU(ta:TE)(d:TA):TA:=λa H Q=>ta a H λx b=>d a b λe c=>Q (x::e) c
section
variable{X:Cx}{e:Expr}{es:List Expr}{te:TE}{t:TA}{pos:Pos}
def df:PA X [] x6:=λ_ _ _ _ H Q I h=>Calls.spliced_nil ⟨[],H,I,.nil,h⟩
def bg(n:PE X e te)(i:PA X es t)(f:SE X e es:=by rfl):PA X (e::es) (fU te t):=by intro pos b s a H Q I h;rw[f];exact ajx (thn (n _ s a H _ I h) λu v⟨x,q,g,l,d⟩=>thn (i _ _ _ a _ _ g d) λr p⟨o,j,c,m,k⟩=>fg _ j c (.cons l m) k)
def ahG(t:TA):TE:=λc H Q=>t c H λb a=>b.length<=sizeLine/\∀p,a p=none->Q (.ref p) (upd a p (.tup b))
def afL(t:TA):TE:=λc H Q=>t c H λb a=>b.length<=sizeLine/\∀p,a p=none->Q (.ref p) (upd a p (.lst b))
def adu{d}(h:PA X es t):PE X (.Tuple es d pos) (ahG t):=by intro c s g H Q I i;refine wpAny_Tuple_spliced (thn (h _ _ s g H _ I i) λf l⟨j,k,a,r,z,q⟩=>⟨by rw[<-r.length];exact z,.ref _,_,a.laid (λb u e=>aih _ e) (aim _) ?_,rfl,q _ (a.hok.fresh (aim _))⟩);exact⟨z,f,r,⟨_,ais _ rfl,rfl,_,rfl⟩⟩
def vd(h:PA X es t):PE X (.List es pos) (afL t):=by intro c s f H Q I g;refine wpAny_List_spliced (thn (h _ _ s f H _ I g) λd k⟨i,j,a,r,z,q⟩=>⟨by rw[<-r.length];exact z,.ref _,_,a.laid (λb u e=>aih _ e) (aim _) ?_,rfl,q _ (a.hok.fresh (aim _))⟩);exact⟨z,d,0,r,ais _ rfl⟩
end
abbrev Sp:=List V->Hp->VK->XK->Prop
abbrev CXT:=List Env->Hp->Shared->XK->Value->Shared->Prop
structure Env0(P:Program)(w:World)(K:W.Frag)(mg:Str->Option Value)(base:Heap)(A:Around)(outer:List Env)(s:Shared)(H:Hp):Prop where
 frames:A.frames=some outer
 mod:Mod K mg base
 bs:∀b o,base.get? b=some o->s.heap.get? b=some o/\H b=none
 bsz:base.objs.size<=s.heap.objs.size
 lW:s.heap.FunFrames base outer
 frf:∀b∈frs outer,H b=none
 hok:HOk P w H s.heap
 bare:AllBare s.gens
def CE(a:List Env)(P:Program)(w:World)(H:Hp)(s:Shared)(Q:VK)(u:Value)(s':Shared):Prop:=∃v b,s'.os=s.os/\AllBare s'.gens/\Un (frs a) [] H b s.heap s'.heap/\HOk P w b s'.heap/\RelV v u/\Q v b
def CR(CX:CXT)(a:List Env)(P:Program)(w:World)(H:Hp)(s:Shared)(Q:VK)(E:XK)(r:Result)(s':Shared):Prop:=match r with|.ok (.ret u)=>CE a P w H s Q u s'|.ok _=>False|.error e=>CX a H s E e s'
structure FnOk(P:Program)(w:World)(K:W.Frag)(mg:Str->Option Value)(base:Heap)(CX:CXT)(k:Nat)(f:Addr)(fd:FuncData)(ps:List Str)(sp:Sp)(hn:Around->Hp->Prop:=λ_ _=>True):Prop where
 len:∀vs H Q E,sp vs H Q E->vs.length=ps.length
 run:∀(A:Around)(outer:List Env)(s:Shared)(H:Hp)(args:Args)(us:List Value)(vs:List V)(Q:VK)(E:XK),Room k A->hn A H->Env0 P w K mg base A outer s H->BindsTo s fd args (ps.zip us)->Vals vs us->sp vs H Q E->codeAny (model P w) A (.call (.ref f) args) (CR CX outer P w H s Q E) s
def FnOk.imp{P w K i a CX k f g ps sp b}(F:FnOk P w K i a CX k f g ps sp)(h:∀c H Q E,b c H Q E->sp c H Q E):FnOk P w K i a CX k f g ps b:=⟨λc H Q E q=>F.len _ H Q E (h _ _ _ _ q),λA d s H e r c Q E l n m p o j=>F.run A _ s H _ _ _ Q E l n m p o (h _ _ _ _ j)⟩
def Env0.make{P w K c b A a s H}(e:Env0 P w K c b A a s H)(C)(us)(d):Env0 P w K c b (A.under (.builtin "type.__call__" ⟨.ref C::us,d⟩)) a s H:=⟨by exact e.frames,e.mod,e.bs,e.bsz,e.lW,e.frf,e.hok,e.bare⟩
section
variable{X:Cx}{pins:List (Addr×Obj)}{σ:St}{H:Hp}{s s':Shared}
def Inv.afj(I:Inv X pins σ H s):Env0 X.prog X.w X.K X.mg X.base X.A X.stack s H:=⟨I.ok.frames,I.ok.mod,I.bs,aip I.ok.bsz I.sz,I.stack,I.ot,I.hok,I.bare⟩
def Inv.after{Q u}(I:Inv X pins σ H s)(h:CE X.stack X.prog X.w H s Q u s'):EP X pins σ Q u s':=by refine aaj h λv f os a un c r q=>?_;obtain⟨i,g,d,t,e⟩:=s';obtain rfl:=os;exact fg v f (I.call   un c a λb z=>absurd z (by simp)) r q
end
def ac0(sp:Sp)(a:List V)(E:XK)(t:TA):TE:=λd H Q=>t d H λb c=>sp (b++a) c Q E
def Binds(K:W.Frag)(b:FuncData)(ps:List Str)(ds:List Value):Prop:=∀(s:Shared)(a:List Value),K.In s.heap->(a++ds).length=ps.length->BindsTo s b ⟨a,[]⟩ (ps.zip (a++ds))
def Binds.all{K b ps}(h:∀a,a.length=ps.length->bindArgs b ⟨a,[]⟩=pure (ps.zip a)):Binds K b ps []:=λs a _ c=>by rw[aiS]at c⊢;exact .of_eq (h _ c)
def Passes(CX:CXT)(X:Cx)(E:XK):Prop:=∀(a:List (Addr×Obj))(c:St)(H:Hp)(s:Shared)(e:Value)(b:Shared),Inv X a c H s->CX X.stack H s E e b->X.xe e b
section
variable{X:Cx}{CX:CXT}{k:Nat}{f C:Addr}{fd:FuncData}{ps:List Str}{sp:Sp}{dvs:List V}{ds:List Value}{E:XK}{x m:Str}{p pos apos:Pos}{e o:Expr}{es:List Expr}{ta:TE}{t:TA}
def ade{d pins}{a:St}{H s Q us vs}(F:FnOk X.prog X.w X.K X.mg X.base CX k f fd ps sp d)(i:Room k X.A)(q:Binds X.K fd ps ds)(j:Vals dvs ds)(g:Passes CX X E)(I:Inv X pins a H s)(r:Vals vs us)(h:sp (vs++dvs) H Q E)(l:d X.A H:=by exact trivial):wpAny (model X.prog X.w) X.A (call (.ref f) us) (EP X pins a Q) X.xe s:=by
 have c:=r.append j;have n:(us++ds).length=ps.length:=by rw[<-c.length];exact F.len _ _ _ _ h
 refine ajy (ajX (F.run _ _ s H _ _ _ Q E i l I.afj (q s _ I.kIn n) c h) λr v b=>?_);cases r with|error e=>exact g _ a H s e _ I b|ok fl=>cases fl with|ret u=>exact I.after b|next|brk|cont=>exact False.elim b
def abc(F:FnOk X.prog X.w X.K X.mg X.base CX k f fd ps sp)(n:Room k X.A)(g:Gl X x)(j:X.mg x=some (.ref f))(l:W.keepIn X.K (.ref f)=true)(z:Binds X.K fd ps ds)(v:Vals dvs ds)(y:Passes CX X E)(w:PA X (e::es) t)(b:Dbg x:=by decide)(u:SE X e es:=by rfl)(a:BT X pos es:=by rfl):PE X (.Call (.Name x p) (e::es) [] pos) (ac0 sp dvs E t):=by intro d s i H Q I h;exact ajz (cg I g j (ak3 I.ok.mod.kin l (thn (w _ _ s i H _ I h) λB G⟨D,A,c,r,q⟩=>⟨c.kIn,ade F n z v y c r q⟩) u a) b)
structure Mk(K:W.Frag)(C f:Addr):Prop where
 makes:W.makesIn K C=true
 init:W.findIn K (.ref C) "__init__"=some (some (.ref f))fn:W.isFn K (.ref f)=true
 kp:W.keepIn K (.ref C)=true
end
structure FnScope(N P:List Str)(sc:Scope):Prop where
 kind:sc.kind=.function
 co:sc.isCoroutine=false
 gen:sc.isGenerator=false
 nd:N.Nodup
 pre:N.take P.length=P
 par:∀x∈P,sc.names.lookup x=some .local\/sc.names.lookup x=some .cell
 nofree:∀y∈sc.names,y.2≠.free
theorem nV{kindOf x}:∀{binds m},(∀v,(x,v)∉binds)->bindL kindOf binds m x=m x
|[],_,_=>rfl|(n,v)::r,m,h=>by
 unfold bindL;rw[nV λw hw=>h w (aiV _ hw)];split
 .have:x≠n:=by grind
  simp[this]
 .rfl
theorem nX{kindOf x}:∀{binds m},(∀v,(x,v)∉binds)->bindC kindOf binds m x=m x
|[],_,_=>rfl|(n,v)::r,m,h=>by
 unfold bindC;rw[nX λw hw=>h w (aiV _ hw)];split;.rfl
 .have:x≠n:=by grind
  simp[this]
theorem nW{kindOf:Str->Option NameKind}{x:Str}{v:Value}:∀{P:List Str}{vs:List Value}{i:Nat}{m:Str->Option Value},P.Nodup->P[i]?=some x->vs[i]?=some v->kindOf x=some .local->bindL kindOf (P.zip vs) m x=some v|[],_,_,_,_,h,_,_=>by simp at h|_::_,[],_,_,_,_,h,_=>by simp at h|p::P,w::vs,0,m,nd,h1,h2,hk=>by simp at h1 h2;subst h1;subst h2;show bindL kindOf ((p,w)::P.zip vs) m p=_;unfold bindL;rw[nV λv a=>(ajl.mp nd).1 (alf a).1,aij hk];simp|p::P,w::vs,i+1,m,nd,h1,h2,hk=>by show bindL kindOf ((p,w)::P.zip vs) m x=_;unfold bindL;exact nW (i:=i) (ajl.mp nd).2 (by simpa using h1) (by simpa using h2) hk
theorem nY{kindOf x v}:∀{P:List Str}{vs}{i:Nat}{m},P.Nodup->P[i]?=some x->vs[i]?=some v->kindOf x≠some .local->bindC kindOf (P.zip vs) m x=some v|[],_,_,_,_,h,_,_=>by simp at h|_::_,[],_,_,_,_,h,_=>by simp at h|p::P,w::vs,0,m,nd,h1,h2,hk=>by simp at h1 h2;subst h1;subst h2;show bindC kindOf ((p,w)::P.zip vs) m p=_;unfold bindC;rw[nX λv a=>(ajl.mp nd).1 (alf a).1,aik hk];simp|p::P,w::vs,i+1,m,nd,h1,h2,hk=>by unfold bindC;exact nY (i:=i) (ajl.mp nd).2 (by simpa using h1) (by grind) hk
noncomputable def start(N:List Str)(vs:List V):St:=vs.map some++List.replicate (N.length-vs.length) none
noncomputable def cF(CX:CXT)(P:Program)(w:World)(K:W.Frag)(mg:Str->Option Value)(base:Heap)(N:List Str)(qual:Str)(scope:Scope)(f:Addr)(cd:Value)(A:Around)(outer:List Env)(s:Shared)(H:Hp)(E:XK):Cx where prog:=P;w:=w;K:=K;mg:=mg;base:=base;A:=A.deeper (envOfC qual scope s.heap.objs.size f cd);N:=N;s₀:=s;H₀:=H;env:=envOfC qual scope s.heap.objs.size f cd;outer:=outer;stack:=envOfC qual scope s.heap.objs.size f cd::outer;ex:=[];calm:=A.handled.isNone;fn:=λ_=>true;pn:=[];xe:=λe s'=>wpAny (model P w) (A.deeper (envOfC qual scope s.heap.objs.size f cd)) (leaving (envOfC qual scope s.heap.objs.size f cd) e) (λ_ s''=>CX outer H s E e s'') (λe' s''=>CX outer H s E e' s'') s'
def qY{a:Scope}{n x}(h:a.names.lookup x=some .cell):∃c,(cellsFrom n a.names []).lookup x=some c:=by exact ai0.mp (W.cellsFrom_some _ n _ (.inl h))
def vP{CX P w K J l N ps g scope f D A d s O H E us vs}(S:FnScope N ps scope)(m:Env0 P w K J l A d s H)(Z:vs.length=ps.length)(r:Vals vs us)(x:InCallC s s.heap.objs.size (bindL (envOfC g scope s.heap.objs.size f D).kindOf (ps.zip us) λ_=>none) (cellsFrom (s.heap.objs.size+1) scope.names []) (bindC (envOfC g scope s.heap.objs.size f D).kindOf (ps.zip us) λ_=>none) O):Inv (cF CX P w K J l N g scope f D A d s H E) [] (start N vs) H O:=by
 have T:ps.length<=N.length:=by have:=ajW List.length S.pre;rw[ajK]at this;omega
 refine cH x.done λI tk M Q=>?_;subst M;have o:∀b:Addr,b ∉(cF CX P w K J l N g scope f D A d s H E).ex:=λb z=>absurd (show b∈([]:List Addr)from z) (by simp);refine⟨⟨m.mod,S.kind,rfl,rfl,aim _,λy z c I j=>?_,λy t=>?_,λy c _ h=>?_,λz=>Option.isNone_iff_eq_none.mp z,Around.frames_deeper m.frames,.inr ⟨rfl,rfl⟩,λb z=>absurd z (o b),m.bs,m.bsz,λb _ _=>o b,λb z=>absurd z (o b),m.lW,m.frf⟩,rfl,m.bare,Un.kept Q,⟨_,x.toInCall.ns,λi y v I j Y=>?_⟩,λy c h=>⟨_,x.cell y c h⟩,m.hok.fresh (aim _),λy c h=>?_,λp C=>absurd (show p∈([]:List (Addr×Obj))from C) (by simp),m.hok.kept Q,?_⟩;.exact name_of_addr x.apart (aiU I) (aiU j)
 .rcases t with t|t;.exact qY t
  .exact absurd rfl (S.nofree _ (aiU t))
 .exact akX (x.above y c (aiU h))
 .have G:i<vs.length:=by
   unfold start at j;by_cases G:i<vs.length;.exact G
   .rw[aiE (by simpa using G)]at j;rw[ajg]at j;split at j<;>cases j
  have U:vs[i]?=some v:=by unfold start at j;rw[aiD (by simpa using G),aiK]at j;cases e:vs[i]? with|none=>rw[e]at j;cases j|some a=>rw[e]at j;cases j;rfl
  refine dh (r.get U) λu R X=>?_;have C:ps[i]?=some y:=by rw[<-S.pre,ak4 (by omega)];exact I
  have B:ps.Nodup:=by rw[<-S.pre];exact S.nd.sublist (List.take_sublist _ _)
  refine⟨u,X,?_⟩;rcases S.par y (akn C)with k|k;.exact .inl ⟨k,nW B C R k⟩
  .obtain⟨c,e⟩:=qY (n:=s.heap.objs.size+1) k;refine .inr ⟨.inl k,c,e,?_⟩;have q:=x.cell y c e;rw[nY B C R (by show scope.names.lookup y≠_;rw[k];decide)]at q;exact q
 .exact m.hok.fresh (akX (x.above y c (aiU h)))
 .unfold start;show _=N.length;rw[aiM,aiR,ajd];omega
def o8{CX P w K M h k f name c g i scope dV kV D pm d ct oc an od T N ps sp}(lk:K.lookup f=some ⟨oc,od,.func (W.fnOf name c g i scope dV kV D pm an d ct),T⟩)(O:W.codeIn K d c=true)(S:FnScope N ps scope)(len:∀j H Q E,sp j H Q E->j.length=ps.length){hn}(p:∀A a s H j Q E,Room k (A.deeper (envOfC c scope s.heap.objs.size f d))->hn A H->sp j H Q E->∃t,PSs (cF CX P w K M h N c scope f d A a s H E) i t/\t {nx:=λ_ m=>Q .non m,rt:=Q} (start N j) H):FnOk P w K M h CX (k+1) f (W.fnOf name c g i scope dV kV D pm an d ct) ps sp hn:=by
 refine⟨len,λA a s H X us j Q E Z hN C hb r G=>?_⟩;have Y:K.In s.heap:=C.mod.kin.keeps λb o e=>(C.bs b o e).1;have lim:s.heap.NoLimit:=C.mod.nolimit.keeps λb o e=>(C.bs b o e).1;have z:∀y∈ps.zip us,scope.names.lookup y.1=some .local\/scope.names.lookup y.1=some .cell/\((cellsFrom (s.heap.objs.size+1) scope.names []).lookup y.1).isSome=true:=λ⟨n,v⟩hy=>by
  rcases S.par n (alf hy).1 with q|q;.exact .inl q
  .exact .inr ⟨q,W.cellsFrom_some _ _ _ (.inl q)⟩
 refine codeAny_call_function Z.depth (Y _ _ lk) rfl S.co S.gen rfl (W.codeRec_of Y O) (hb _ _ _ _ ?_);refine wpAny_newFunctionEnv_cells S.kind z λa0 he s1 x=>?_;subst he;refine⟨lim.keeps x.toInCall.keep,codeAny_func ?_⟩;refine dh (p A a s H j Q E (Z.deeper _) hN G) λt ht hq=>?_;have I:Inv (cF CX P w K M h N c scope f d A a s H E) [] (start N j) H s1:=vP S C (len _ _ _ _ G) r x;refine aiA (ht [] s1 (start N j) H _ I hq) (λfl R B=>?_) λe R B=>B;have fin:∀{l:St}{m:Hp}{v:V}{u:Value},Inv (cF CX P w K M h N c scope f d A a s H E) [] l m R->RelV v u->Q v m->CE a P w H s Q u R:=λ{l m v u}J U q=>aca v m J.os J.bare J.base J.hok U q;cases fl with|ret u=>refine tj B λv l m J U q=>?_;exact fin J U q|next=>obtain⟨l,m,J,q⟩:=B;exact fin (v:=V.non) (u:=Value.none) J rfl q|brk=>obtain⟨_,_,_,q⟩:=B;exact False.elim q|cont=>obtain⟨_,_,_,q⟩:=B;exact False.elim q
section
variable{X:Cx}{x:Str}{p pos:Pos}{e:Expr}{es:List Expr}{t:TA}{id T:String}{r:List V->Hp->VK->Prop}
def tCB(r:List V->Hp->VK->Prop)(t:TA):TE:=λa H Q=>t a H λb c=>r b c Q
def yz(o:bx X (.builtin id) r)(g:Gl X x)(i:X.mg x=none)(j:bootBuiltins x=some (.builtin id))(n:PA X (e::es) t)(q:x≠"__name__":=by decide)(b:Dbg x:=by decide)(l:SE X e es:=by rfl)(a:BT X pos es:=by rfl):PE X (.Call (.Name x p) (e::es) [] pos) (tCB r t):=by intro d s c H Q I h;exact ajz (gQ I g i j (ako (thn (n _ _ s c H _ I h) λv y⟨w,u,k,m,f⟩=>o _ _ c _ _ _ Q k m f) l a) q b)
def iO(o:bx X (.type T) r)(g:Gl X x)(i:X.mg x=none)(j:bootBuiltins x=some (.type T))(n:PA X (e::es) t)(q:x≠"__name__":=by decide)(b:Dbg x:=by decide)(l:SE X e es:=by rfl)(a:BT X pos es:=by rfl):PE X (.Call (.Name x p) (e::es) [] pos) (tCB r t):=by intro d s c H Q I h;exact ajz (gQ I g i j (ai4 (thn (n _ _ s c H _ I h) λv y⟨w,u,k,m,f⟩=>o _ _ c _ _ _ Q k m f) l a) q b)
end
end L2
namespace HT
open PySem PyProof.Rows
section
open PySem.SeqAt
open PySem.AutoSeq1(wpAny_loadPart')
open PySem.MeetsSeq PySem.MeetsSeq2 PySem.MeetsSeq3
end
section
variable{prog:Program}{w:World}{A:Around}{E:Value->Shared->Prop}{s:Shared}
def ab1{t b:Addr}{vs ws:List Value}{Q:Value->Shared->Prop}(q:IsTup s.heap t vs.toArray)(u:IsTup s.heap b ws.toArray)(k:vs≠[])(r:ws=[]->Q (.ref t) s)(v:ws≠[]->Q (.ref s.heap.objs.size) {s with heap:=s.heap.push {cls:=.type "tuple",data:=.seq (vs++ws).toArray}})(hsz:vs.length+ws.length<=sizeLine):wpAny (model prog w) A (binaryOp .Add (.ref t) (.ref b)) Q E s:=by
 obtain⟨⟨cls,l,data,j⟩,h,i,n,m⟩:=id q;obtain⟨⟨o,g,data2,c⟩,a,d,p,f⟩:=id u;simp only at i m d f;subst i m d f;have e:vs.toArray++ws.toArray=(vs++ws).toArray:=by simp
 by_cases hw:ws=[];.exact ak5 ⟨_,h,rfl⟩ ⟨_,a,rfl⟩ ak6 seq_tuple_add akf aj7 (ajY _ _) (tuple_addW1 t b vs.toArray ws.toArray n p l g j c (by simpa using k) (by simp[hw])) ⟨h,a,r hw⟩
 .refine ak5 ⟨_,h,rfl⟩ ⟨_,a,rfl⟩ ak6 seq_tuple_add akf aj7 (ajY _ _) (tuple_addW2 t b vs.toArray ws.toArray n p l g j c (by simpa using k) (by simpa using hw) (by rw[ai8,ai8];exact hsz)) ⟨h,a,?_⟩;rw[e];exact v hw
noncomputable def sIx(n d:Nat):Option Int->Nat|none=>d|some v=>if v<0 then(v+(n:Int)).toNat else min v.toNat n
def ada(n d)(b:d<=n)(o):sIx n d o<=n:=by cases o with|none=>exact b|some v=>
 show(if v<0 then(v+n).toNat else min _ n)<=n;by_cases a:v<0;.rw[aij a];omega
 .rw[aik a];exact ajL _ _
def wR(v)(n d:Nat):(if v<0 then max (v+(n:Int)) 0 else min v n)=(sIx n d (some v):Nat):=by
 show(if v<0 then max _ 0 else min v n)=if v<0 then(v+n).toNat else min _ n;by_cases a:v<0;.simp only[aij a];omega
 .simp [aik a];omega
def sZ(lo a)(n:Nat):Builtin.Slice.sliceAdjust lo a 1 n=((sIx n 0 lo:Int),(sIx n n a:Int)):=by
 refine Prod.ext ?_ ?_;.cases lo with|none=>rfl|some v=>exact wR v n 0
 .cases a with|none=>rfl|some v=>exact wR v n n
def rT(i j:Nat):Builtin.Slice.slicePlaces (i:Int) (j:Int) 1=j-i:=by
 unfold Builtin.Slice.slicePlaces;have a:(1:Int)>0:=by omega
 simp only[a,aj5,Int.ediv_one];split<;>omega
def j3{v o Q}(p:IsPart v o)(h:Q o s):wpAny (model prog w) A (Builtin.Slice.slicePartIndex v) Q E s:=by cases p with|none=>exact slicePart_none h|int i t=>exact slicePart_int h
def gW{sl d e lo c n}{Q:Int×Int×Nat->Shared->Prop}(i:s.heap.IsSliceOf sl d e .none)(pl:IsPart d lo)(g:IsPart e c)(h:Q ((sIx n 0 lo:Nat),1,sIx n n c-sIx n 0 lo) s):wpAny (model prog w) A (Builtin.Slice.sliceApplied (.ref sl) (pure n)) Q E s:=by refine gD (id i) λos b f a=>?_;refine aif (aif (aiF b a (x:=d) rfl (aif (aiF b a (x:=e) rfl (aif (aiF b a rfl (aio ?_)))))));refine aif (slicePart_none ?_);refine aif (j3 pl (aif (j3 g (aif (aio ?_)))));show wpAny _ _ (match Builtin.Slice.sliceAdjust lo c 1 (n:Int)with|(lo,c)=>pure (lo,(1:Int),Builtin.Slice.slicePlaces lo c 1)) _ _ s;rw[sZ lo c n];show wpAny _ _ (pure _) _ _ s;rw[rT];exact aio h
def yq(xs:Array Value)(i k:Nat):((List.range k).filterMap λ(m:Nat)=>xs[((i:Int)+(m:Int)*1).toNat]?).toArray=((xs.toList.drop i).take k).toArray:=by
 have e:(λ(m:Nat)=>xs[((i:Int)+(m:Int)*1).toNat]?)=λm=>xs[i+m]?:=by
  funext m;have:((i:Int)+(m:Int)*1).toNat=i+m:=by omega
  rw[this]
 rw[e];have:=pick_run xs i k;rw[List.filterMap_map]at this;have a:((λx=>xs[x]?)∘λx=>i+x)=λm=>xs[i+m]?:=rfl;rw[a]at this;rw[this]
def gf{t sl items i j lo a Q}(c:IsTup s.heap t items)(k:s.heap.IsSliceOf sl i j .none)(pl:IsPart i lo)(l:IsPart j a)(hw:¬(sIx items.size 0 lo=0/\sIx items.size items.size a=items.size))(h:Q (.ref s.heap.objs.size) {s with heap:=s.heap.push {cls:=.type "tuple",data:=.seq ((items.toList.drop (sIx items.size 0 lo)).take (sIx items.size items.size a-sIx items.size 0 lo)).toArray}})(hsz:items.size<=sizeLine):wpAny (model prog w) A (getItem (.ref t) (.ref sl)) Q E s:=by
 have b:sizeOk (.seq ((items.toList.drop (sIx items.size 0 lo)).take (sIx items.size items.size a-sIx items.size 0 lo)).toArray):=by show((items.toList.drop (sIx items.size 0 lo)).take (sIx items.size items.size a-sIx items.size 0 lo)).toArray.size<=sizeLine;rw[ai8,ajK,ak7,akw];omega
 have o:sIx items.size items.size a<=items.size:=ada _ _ (aim _) a;refine gD (id k) λos f g n=>?_;have d:s.TypeIs (.ref sl) "slice":=⟨os,f,g⟩;unfold getItem;try with_reducible refine aja ?_
 first|refine aif (aio ?_)|skip
 refine aif (wpAny_sequenceKey c.typeIs (by decide) ?_);refine aif (ajh (name:=Str.ofString "__getitem__") c.typeIs aju (aji aju c.typeIs entry_tuple_getitem ?_ (args_tuple_getitem _ _)));show wpAny _ _ (Builtin.Tuple.tupleItemsOf (.ref t)>>=_) _ _ s;refine aif (tupleItemsOf_ c ?_);refine aif (wpAny_typeOf d ?_);rw[aij (by decide)];refine aif (gW k pl l ?_);have e:¬(((sIx items.size 0 lo:Nat):Int)==0&&(1:Int)==1&&sIx items.size items.size a-sIx items.size 0 lo==items.size)=true:=by grind
 show wpAny _ _ (if(((sIx items.size 0 lo:Nat):Int)==0&&(1:Int)==1&&sIx items.size items.size a-sIx items.size 0 lo==items.size)=true then _ else _) _ _ s;rw[aik e,yq];exact aif (m:=Builtin.Tuple.tupleExact _) (aka (aio ⟨_,rfl,aio h⟩) b)
end
end HT
namespace L2
open PySem PySem.Spec PyProof.Rows
abbrev TO:=St->Hp->(Option Int->Hp->Prop)->Prop
def PO(X:Cx)(e:Option Expr)(t:TO):Prop:=∀(a:List (Addr×Obj))(s:Shared)(b:St)(H:Hp)(Q:Option Int->Hp->Prop),Inv X a b H s->t b H Q->wpAny (model X.prog X.w) X.A (evalPart e X.env) (λu d=>∃o c,Inv X a b c d/\IsPart u o/\Q o c) X.xe s
def aaQ:TO:=λ_ H Q=>Q none H
def afH(t:TE):TO:=λa H Q=>t a H λx b=>∃i,x=.int i/\Q (some i) b
section
variable{X:Cx}{e:Expr}{te:TE}{lo hi:Option Expr}{tl th:TO}{pos p2:Pos}
def u2:PO X none aaQ:=by intro a s b H Q I h;exact aio ⟨_,H,I,.none,h⟩
def u1(h:PE X e te):PO X (some e) (afH te):=by intro a s d H Q I hw;refine thn (h _ s d H _ I hw) λu j⟨x,b,f,g,c⟩=>?_;obtain⟨i,rfl,q⟩:=c;obtain⟨t,rfl⟩:=g;exact⟨_,b,f,.int i t,q⟩
def SlR(X:Cx)(r:V->Option Int->Option Int->Hp->VK->Prop):Prop:=∀(a:List (Addr×Obj))(s:Shared)(f:St)(H:Hp)(x:V)(v b c:Value)(lo hi:Option Int)(d:Addr)(Q:VK),Inv X a f H s->RelV x v->s.heap.IsSliceOf d b c .none->IsPart b lo->IsPart c hi->r x lo hi H Q->∃T id,typeLookup (.type T) "__getitem__"=pure (some (.builtin id))/\s.TypeIs v T/\wpAny (model X.prog X.w) X.A (getItem v (.ref d)) (EP X a f Q) X.xe s
def SlR.or{r b}(h:SlR X r)(h':SlR X b):SlR X λx lo hi H Q=>r x lo hi H Q\/b x lo hi H Q:=by
 intro g s c H x v j k lo hi l Q I i f d a q;rcases q with q|q;.exact h _ s c H x v _ _ _ _ _ Q I i f d a q
 .exact h' _ s c H x v _ _ _ _ _ Q I i f d a q
def tSl(r:V->Option Int->Option Int->Hp->VK->Prop)(te:TE)(tl th:TO):TE:=λa H Q=>te a H λx c=>tl a c λl d=>th a d λu b=>r x l u b Q
def qo{r}(t:SlR X r)(A:PE X e te)(O:PO X lo tl)(N:PO X hi th):PE X (.Subscript e (.Slice lo hi none p2) pos) (tSl r te tl th):=by intro a s c H Q I h;refine Subscript_ (thn (A a s c H _ I h) λv B⟨x,k,p,M,E⟩=>wpAny_Slice (thn (O a B c k _ p E) λf j⟨l,J,D,o,K⟩=>thn (N a j c J _ D K) λg d⟨u,i,y,G,n⟩=>aio ?_));have C:Inv X a c i {d with heap:=d.heap.push {cls:=.type "slice",data:=.fields #[f,g,.none]}}:=y.kept λb ob q=>aih _ q;refine jP (t a _ c i x v f g l u d.heap.objs.size Q C M (Heap.IsSliceOf.new ..) o G n) λT id w z m=>?_;exact tail_any z w m (rfl)
def acn(xs:List V)(lo hi:Option Int):List V:=(xs.drop (HT.sIx xs.length 0 lo)).take (HT.sIx xs.length xs.length hi-HT.sIx xs.length 0 lo)
def ju(xs)(lo hi):(acn xs lo hi).length<=xs.length:=by unfold acn;rw[ajK,ak7];omega
def ahM(K:W.Frag):V->Option Int->Option Int->Hp->VK->Prop:=λx lo hi H Q=>∃a b,x=.ref a/\SqT K H a b/\¬(HT.sIx b.length 0 lo=0/\HT.sIx b.length b.length hi=b.length)/\∀p,H p=none->Q (.ref p) (upd H p (.tup (acn b lo hi)))
def ac4:SlR X (ahM X.K):=by
 intro i s y H x v t u lo hi w Q I o m l k h;refine jO h λa j f p hw q=>?_;subst f;cases o;refine gD (I.tuple p) λd r g n=>?_;have c:d.toArray.size=j.length:=by rw[ai8];exact r.length.symm
 refine fg "tuple" _ aju.lookup g.typeIs ?_;refine HT.gf g m l k (by grind) ?_ (by omega);rw[c];refine(fg (.ref s.heap.objs.size) _ (I.laid (t':=s.toks) (λb ob q=>aih _ q) (aim _) ?_) rfl (q _ (I.hok.fresh (aim _))));exact⟨aip (ju j lo hi) n,_,(r.drop _).take _,IsTup.new _ _⟩
def af1(K:W.Frag):R2:=λx y H Q=>∃a b d c,x=.ref a/\y=.ref b/\SqT K H a d/\SqT K H b c/\d≠[]/\d.length+c.length<=sizeLine/\(c=[]->Q (.ref a) H)/\(c≠[]->∀p,H p=none->Q (.ref p) (upd H p (.tup (d++c))))
def Vals.oX{xs us}(r:Vals xs us):us=[]↔ xs=[]:=by cases r with|nil|cons _ _=>simp
def abg:OpR X (binaryOp .Add) (af1 X.K):=by intro g s D H x y v u Q I l j h;obtain⟨a,b,n,B,rfl,rfl,m,p,C,f,r,A⟩:=h;cases l;cases j;obtain⟨t,d,k,_⟩:=I.tuple m;obtain⟨i,c,p2,_⟩:=I.tuple p;refine HT.ab1 k p2 (λz=>C (d.oX.mp z)) (λz=>⟨.ref a,H,I,rfl,r (c.oX.mp z)⟩) (λz=>?_) (by rw[<-d.length,<-c.length];exact f);refine⟨.ref s.heap.objs.size,_,I.laid (t':=s.toks) (o:=.tup (n++B)) (λb ob q=>aih _ q) (aim _) ?_,rfl,A (λw=>z (c.oX.mpr w)) _ (I.hok.fresh (aim _))⟩;exact⟨by rw[aiM];exact f,_,d.append c,IsTup.new _ _⟩
end
noncomputable def ixN(n:Nat)(i:Int):Option Nat:=if 0<=i then if i<n then some i.toNat else none else if -(n:Int)<=i then some (i+n).toNat else none
def atI{α:Type}(xs:List α)(i:Int):Option α:=(ixN xs.length i).bind λj=>xs[j]?
def abE{n i j}(h:ixN n i=some j):seqIndex? i n=some j/\j<n/\-n<=i/\i<n:=by
 unfold ixN at h;by_cases b:0<=i
 .rw[aij b]at h;by_cases a:i<n;.rw[aij a]at h;have e:=aiB h;exact⟨by rw[seqIndex_of b a,e],by omega,by omega,a⟩
  .rw[aik a]at h;cases h
 .rw[aik b]at h;by_cases a:-(n:Int)<=i;.rw[aij a]at h;have e:=aiB h;exact⟨by rw[seqIndex_neg (by omega) a,e],by omega,a,by omega⟩
  .rw[aik a]at h;cases h
def xi{α xs i}{v:α}(h:atI xs i=some v):∃j,seqIndex? i xs.length=some j/\xs[j]?=some v/\j<xs.length/\-xs.length<=i/\i<xs.length:=by unfold atI at h;cases e:ixN xs.length i with|none=>rw[e]at h;cases h|some j=>rw[e]at h;refine afu (abE e) λb d a c=>?_;exact⟨j,b,h,d,a,c⟩
def pK{α:Type}{xs:List α}{j:Nat}{v:α}(h:xs[j]?=some v):atI xs (j:Int)=some v:=by
 have a:j<xs.length:=(ail.mp h).1;have e:ixN xs.length (j:Int)=some j:=by unfold ixN;rw[aij (by omega),aij (by omega)];simp
 unfold atI;rw[e];exact h
def h8{α:Type}(xs:List α)(v:α):atI (xs++[v]) (-1)=some v:=by
 have a:(xs++[v]).length=xs.length+1:=by simp
 have e:ixN (xs++[v]).length (-1)=some xs.length:=by unfold ixN;rw[a,aik (by decide),aij (by omega)];congr 1;omega
 unfold atI;rw[e];show(xs++[v])[xs.length]?=some v;simp
def gC(b:Expr):Prop:=∀o i,subscripted b false o i=operate [o,i] (getItem o i)
def IxR(X:Cx)(r:R2):Prop:=∀(c a:Expr)(b:List (Addr×Obj))(s:Shared)(d:St)(H:Hp)(x y:V)(v u:Value)(Q:VK),Inv X b d H s->RelV x v->RelV y u->r x y H Q->subscripted a false v u=operate [v,u] (getItem v u)->wpAny (model X.prog X.w) X.A (subscriptTail c a v u) (EP X b d Q) X.xe s
def MtR(X:Cx)(id:String)(r:V->List V->Hp->VK->Prop):Prop:=∀(a:List (Addr×Obj))(s:Shared)(c:St)(H:Hp)(x:V)(d:List V)(v:Value)(b:List Value)(Q:VK),Inv X a c H s->RelV x v->Vals d b->r x d H Q->wpAny (model X.prog X.w) X.A (call (.builtin id) (v::b)) (EP X a c Q) X.xe s
section
variable{X:Cx}{a b:Expr}{ta tb:TE}{pos:Pos}
def IxR.or{r f}(h:IxR X r)(h':IxR X f):IxR X λx y H Q=>r x y H Q\/f x y H Q:=by
 intro c d j s g H x y v u Q I k e q i;rcases q with q|q;.exact h _ _ _ s g H x y v u Q I k e q i
 .exact h' _ _ _ s g H x y v u Q I k e q i
def adz{r}(j:IxR X r)(l:PE X a ta)(i:PE X b tb)(g:gC b):PE X (.Subscript a b pos) (tOp r ta tb):=by intro c s f H Q I h;exact Subscript_ (agP l i I h λv u m x y n e k d q=>j a b _ _ f _ x y v u Q e k d q (g _ _))
def ahP(K:W.Frag):R2:=λx y H Q=>∃p c i v,x=.ref p/\y=.int i/\SqL K H p c/\atI c i=some v/\Q v H
def ahO(K:W.Frag):R2:=λx y H Q=>∃p c i v,x=.ref p/\y=.int i/\SqT K H p c/\atI c i=some v/\Q v H
def abD:IxR X (ahP X.K):=by
 intro m g c s A H x y v u Q I J C h n;obtain⟨p,R,i,z,rfl,rfl,M,G,q⟩:=h;cases J;obtain⟨t,rfl⟩:=C;obtain⟨k,r,f,P⟩:=I.list M;obtain⟨j,d,N,S,K,E⟩:=xi G;obtain⟨w,B,e⟩:=r.get N;have O:=r.length;have T:=qK;have fin:EP X c A Q w s:=⟨z,H,I,e,q⟩;by_cases o:0<=i
 .have l:i.toNat=j:=by rw[seqIndex_of o E]at d;exact aiB d
  exact item_listR f.isList o (by omega) (by rw[l];simpa using B) fin n
 .have l:(i+(k.toArray.size:Int)).toNat=j:=by rw[seqIndex_neg (by omega) K]at d;rw[ai8,<-O];exact aiB d
  exact subscriptTail_builtinR (x:=w) f.isList.typeIs slot_list_getitem.lookup (wpAny_getItem_list_neg (Q:=λr D=>r=w/\EP X c A Q r D) f.isList (by omega) (by rw[ai8]<;>omega) (by omega) (by rw[l];simpa using B) ⟨rfl,fin⟩) n
def aei:IxR X (ahO X.K):=by intro e d g s G H x y v u Q I n k h l;obtain⟨p,E,i,z,rfl,rfl,A,m,q⟩:=h;cases n;obtain⟨t,rfl⟩:=k;obtain⟨o,r,f,C⟩:=I.tuple A;obtain⟨j,M,B,N,K,D⟩:=xi m;obtain⟨w,J,c⟩:=r.get B;have O:=r.length;have P:=qK;exact subscriptTail_builtinR f.typeIs slot_tuple_getitem.lookup (getItem_tuple (j:=j) f (by omega) (by omega) (by grind) (by grind) ⟨rfl,⟨z,H,I,c,q⟩⟩) l
def mr(lo c)(n):(sliceBounds lo c none n).1=(HT.sIx n 0 lo:Nat)/\(sliceBounds lo c none n).2.1=(HT.sIx n n c:Nat)/\(sliceBounds lo c none n).2.2=1:=by
 refine⟨?_,?_,rfl⟩;.cases lo with|none=>simp[sliceBounds,HT.sIx]|some i=>
  simp only[sliceBounds,HT.sIx,Option.getD_none,show(1:Int)>0 by decide,aj5];by_cases h:i<0;.simp only[h,aj5]<;>omega
  .simp only[h,akC]<;>omega
 .cases c with|none=>simp[sliceBounds,HT.sIx]|some i=>
  simp only[sliceBounds,HT.sIx,Option.getD_none,show(1:Int)>0 by decide,aj5];by_cases h:i<0;.simp only[h,aj5]<;>omega
  .simp only[h,akC]<;>omega
def kR(its:List Value)(lo c):slicePick its.toArray lo c none=((its.drop (HT.sIx its.length 0 lo)).take (HT.sIx its.length its.length c-HT.sIx its.length 0 lo)).toArray:=by obtain⟨f,e,d⟩:=mr _ _ _;unfold slicePick;rw[f,e,d];simp only[sliceRange_one,pick_run,ai8]
def ahN(K:W.Frag):V->Option Int->Option Int->Hp->VK->Prop:=λx lo d H Q=>∃a c,x=.ref a/\SqL K H a c/\∀p,H p=none->Q (.ref p) (upd H p (.lst (acn c lo d)))
def aaS:SlR X (ahN X.K):=by intro f s y H x v t u lo g w Q I n l k i h;refine jP h λa p d o q=>?_;subst d;cases n;refine gD (I.list o) λj r e m=>?_;have c:=r.length;refine fg "list" _ slot_list_getitem.lookup e.isList.typeIs (wpAny_getItem_list_slice e.isList l k i .none (by simp) ?_ (by grind));rw[kR,<-c];refine fg (.ref s.heap.objs.size) _ (I.laid (λb ob q=>aih _ q) (aim _) ?_) rfl (q _ (I.hok.fresh (aim _)));exact⟨aip (ju p lo g) m,_,0,(r.drop _).take _,ais _ rfl⟩
def nO:bx X (.builtin "len") λl H Q=>∃p c,l=[.ref p]/\(SqL X.K H p c\/SqT X.K H p c)/\Q (.int c.length) H:=by
 intro k s t H l o Q I r h;refine jP h λp c j e q=>?_;subst j;obtain⟨u,rfl,n⟩:=vals1 r;cases n;have v:=qK;rcases e with e|e;.obtain⟨f,g,i,m⟩:=I.list e;have d:=g.length;exact Calls.call_len_list i.isList (by grind) ⟨.int c.length,H,I.tok _,⟨s.toks+1,by grind⟩,q⟩
 .obtain⟨f,g,i,m⟩:=I.tuple e;have d:=g.length;exact len_tuple i (by grind) ⟨.int c.length,H,I.tok _,⟨s.toks+1,by grind⟩,q⟩
def nN:bx X (.builtin "len") λd H Q=>∃z,d=[.str z]/\z.length<=sizeLine/\Q (.int z.length) H:=by intro e s g H d f Q I r h;refine gD h λz c i q=>?_;subst c;obtain⟨u,rfl,t,rfl⟩:=vals1 r;have j:=qK;exact len_str (by omega) (fg (.int _) H (I.tok _) ⟨_,rfl⟩ q)
def bx.or{f r i}(h:bx X f r)(h':bx X f i):bx X f λc H Q=>r c H Q\/i c H Q:=by
 intro d s e H c j Q I g q;rcases q with q|q;.exact h _ s e H _ _ Q I g q
 .exact h' _ s e H _ _ Q I g q
def nM:bx X (.type "list") λB H Q=>∃p g,B=[.ref p]/\(SqL X.K H p g\/SqT X.K H p g)/\∀l,H l=none->Q (.ref l) (upd H l (.lst g)):=by
 intro k s E H B G Q I r h;refine jP h λp g y v q=>?_;subst y;obtain⟨u,rfl,D⟩:=vals1 r;cases D;have fin:∀(c:List Value),Vals g c->g.length<=sizeLine->∀(d:Heap)(i:Nat),(∀b C,s.heap.get? b=some C->d.get? b=some C)->d.get? s.heap.objs.size=some _->EP X k E Q _ _:=λc f j d i t e=>(fg (.ref s.heap.objs.size) _ (I.laid (t':=s.toks) t (aim _) (show bL X.prog X.w _ d _ (.lst g)from⟨j,c,i,f,e⟩)) rfl (q _ (I.hok.fresh (aim _))));rcases v with v|v;.obtain⟨c,f,w,j⟩:=I.list v;have m:=f.length;obtain⟨o,A,x,n,z⟩:=w.isList;exact call_list_seq p (.inl rfl) A x z (λd i t e=>fin c f j d i t e) (by grind)
 .obtain⟨c,f,w,j⟩:=I.tuple v;have m:=f.length;obtain⟨o,A,x,n,z⟩:=w;exact call_list_seq p (.inr rfl) A x z (λd i t e=>fin c f j d i t e) (by grind)
def lP:bx X (.type "tuple") λt H Q=>∃p d,t=[.ref p]/\((SqL X.K H p d/\∀l,H l=none->Q (.ref l) (upd H l (.tup d)))\/SqT X.K H p d/\Q (.ref p) H):=by
 intro n s z H t y Q I r h;obtain⟨p,d,rfl,h⟩:=h;obtain⟨u,rfl,w⟩:=vals1 r;cases w;rcases h with⟨i,q⟩|⟨i,q⟩;.obtain⟨c,f,g,m⟩:=I.list i;have j:=f.length;refine call_tuple_list g.isList (λA x=>?_) (by grind);have k:=I.kept (t':=s.toks) x;have v:=k.laid (t':=s.toks) (λb o e=>aih _ e) (aim _) (show bL _ X.w _ _ _ (.tup d)from⟨m,c,f,IsTup.new _ _⟩);exact fg (.ref _) _ v rfl (q _ (k.hok.fresh (aim _)))
 .obtain⟨c,f,g,m⟩:=I.tuple i;exact call_tuple_same g (fg (.ref p) H I rfl q)
def tyV(K:W.Frag)(T:String)(x:V)(H:Hp):Prop:=match x with|.str _=>T="str"|.int _=>T="int"|.ref p=>(T="list"/\∃d,SqL K H p d)\/(T="tuple"/\∃o,K.lookup p=some o/\o.cls=.type "tuple"/\o.dict=none)\/T="dict"/\((∃c,H p=some (.dK c))\/∃c,H p=some (.dT c))\/T="set"/\∃S n,H p=some (.set S n)|_=>False
def acO{pins}{l:St}{H s T x v}(I:Inv X pins l H s)(r:RelV x v)(ty:tyV X.K T x H):
 s.TypeIs v T/\∀a,v=.ref a->∃ob,s.heap.get? a=some ob/\ob.dict=none:=by cases x with|str z=>obtain⟨t,rfl⟩:=r;cases show T="str"from ty;exact⟨akp s z t,λ_ e=>nomatch e⟩|int i=>obtain⟨t,rfl⟩:=r;cases show T="int"from ty;exact⟨typeIs_int s i t,λ_ e=>nomatch e⟩|ref p=>
  cases r;rcases ty with⟨rfl,u,m⟩|⟨rfl,o,d,q,h⟩|⟨rfl,d⟩|⟨rfl,S,n,d⟩;.obtain⟨k,_,j,_⟩:=I.list m;refine⟨j.isList.typeIs,λa e=>?_⟩;cases e;obtain⟨o,n,e,c,h,_⟩:=j;exact⟨o,e,h⟩
  .refine⟨⟨o,I.kIn p o d,q⟩,λa e=>?_⟩;cases e;exact⟨o,I.kIn _ o d,h⟩
  .have z:∃o,s.heap.get? p=some o/\o.ExactDict:=by
    rcases d with⟨g,d⟩|⟨g,d⟩;.obtain⟨_,_,_,_,o,_,_,e,ex,_⟩:=I.hok p _ d;exact⟨o,e,ex⟩
    .obtain⟨_,_,_,_,o,_,_,e,ex,_⟩:=I.hok p _ d;exact⟨o,e,ex⟩
   obtain⟨o,e,ex⟩:=z;refine⟨⟨o,e,ex.1⟩,λa f=>?_⟩;cases f;exact⟨o,e,ex.2.1⟩
  .obtain⟨o,_,_,_,e,ex,_⟩:=I.hok p _ d;refine⟨⟨o,e,ex.1⟩,λa f=>?_⟩;cases f;exact⟨o,e,ex.2.1⟩|_=>exact False.elim ty
def tBM(K:W.Frag)(T:String)(r:V->List V->Hp->VK->Prop)(f:TE)(t:TA):TE:=λd H Q=>f d H λx c=>tyV K T x c/\t d c λg e=>r x g e Q
variable{o e:Expr}{es:List Expr}{to:TE}{t:TA}{name:Str}{apos cpos:Pos}{T id:String}{r:V->List V->Hp->VK->Prop}
def oN(J:PlainAttrs T)(j:Slot T name id)(k:typeOf (.builtin id)=pure (.type "method_descriptor"))(A:MtR X id r)(K:PE X o to)(P:PA X (e::es) t)(g:attributeBase o name X.env (eval o X.env)=eval o X.env:=by rfl)(i:((backTo cpos (starEach (e::es) X.env)).all (λx=>!x.1)&&(backToKw cpos (keywordEach [] X.env)).all (λx=>x.1.isSome)&&decide ((e::es).length+([]:List Keyword).length+(if([]:List Keyword).isEmpty then 0 else 1)<30))=true:=by rfl)(f:(apos.endLine==cpos.line)=true:=by rfl)(B:SE X e es:=by rfl)(d:BT X cpos es:=by rfl):PE X (.Call (.Attribute o name apos) (e::es) [] cpos) (tBM X.K T r to t):=by intro c s l H Q I h;refine wpAny_Call_method_late g i f rfl (thn (K c s l H _ I h) λv O⟨x,w,n,p,ty,y⟩=>?_);obtain⟨E,N⟩:=acO n p ty;refine⟨T,id,J,j,k,E,N,?_⟩;have m:=P cpos c O l w _ n y;rw[B]at m⊢;refine Calls.callWith_builtin (by show(false||(backTo cpos (starEach es X.env)).any (·.1))=false;rw[d]<;>rfl) (akq ?_);exact thn m λz q⟨C,D,u,M,G⟩=>A c q l D x C v z Q u p M G
end
def MtM(X:Cx)(id:String)(r:V->List V->Hp->VK->Prop):Prop:=∀(a:List (Addr×Obj))(s:Shared)(c:St)(H:Hp)(x:V)(d:List V)(v:Value)(b:List Value)(Q:VK),Inv X a c H s->RelV x v->Vals d b->r x d H Q->wpAny (model X.prog X.w) X.A (call (.builtin id) (v::b)) (EP X a c Q) X.xe s
def Vals.one:∀{x us},Vals [x] us->∃u,us=[u]/\RelV x u|_,_,.cons r .nil=>⟨_,rfl,r⟩
theorem Vals.rep{xs:List V}{us:List Value}(h:Vals xs us):∀k:Nat,Vals (List.replicate k xs).flatten (List.replicate k us).flatten|0=>.nil|k+1=>by rw[aiZ,aiZ,ajf,ajf];exact Vals.append h (Vals.rep h k)
theorem foldl_rep(its:List Value):∀(k:Nat)(a:List Value),List.foldl (λb d=>b++d) a.toArray (List.replicate k its.toArray)=(a++(List.replicate k its).flatten).toArray
|0,a=>by simp|k+1,a=>by
 have e:a.toArray++its.toArray=(a++its).toArray:=by simp
 have c:a++its++(List.replicate k its).flatten=a++(List.replicate (k+1) its).flatten:=by rw[aiZ,ajf,List.append_assoc]
 rw[<-c,<-foldl_rep its k (a++its),<-e,aiZ,List.foldl_cons]
section
variable{X:Cx}{pins:List (Addr×Obj)}{σ:St}{H:Hp}{s:Shared}{l b:Addr}{xs ys zs:List V}
def Inv.ahU{its its':List Value}{n f t'}(I:Inv X pins σ H s)(a:H l=some (.lst xs))(e:s.heap.get? l=some {cls:=.type "list",data:=.seq its.toArray n})(d:f its.toArray=its'.toArray)(h:Vals ys its')(hz:ys.length<=sizeLine):Inv X pins σ (upd H l (.lst ys)) {s with heap:=s.heap.update l (Obj.mapSeq f),toks:=t'}:=by have q:=PySem.IsL.update e f;rw[d]at q;refine I.write (by rw[a];exact trivial) (.inl rfl) (λi u c g=>(aiG _ _ (aiu c)).trans g) ⟨_,q⟩ ?_;exact⟨hz,_,_,h,q⟩
def Inv.afe{its t'}(I:Inv X pins σ H s)(a:Vals ys its)(hz:ys.length<=sizeLine):Inv X pins σ (upd H s.heap.objs.size (.lst ys)) {s with heap:=s.heap.push {cls:=.type "list",data:=.seq its.toArray},toks:=t'}:=I.laid (λ_ _ q=>aih _ q) (aim _) ⟨hz,_,0,a,ais _ rfl⟩
theorem Inv.fresh(I:Inv X pins σ H s):H s.heap.objs.size=none:=I.hok.fresh (aim _)
def Inv.ahT(I:Inv X pins σ H s)(c:H l=some (.lst xs)):xs.length<=sizeLine/\∃a n,Vals xs a/\xs.length=a.length/\s.heap.get? l=some {cls:=.type "list",data:=.seq a.toArray n}:=by obtain⟨z,a,n,r,e⟩:=I.hok l _ c;exact⟨z,_,n,r,r.length,e⟩
def yE{n:Nat}(h:n<=sizeLine):Builtin.List.listTooLong n=false:=by unfold Builtin.List.listTooLong;exact ai3 (by omega)
end
section
variable{X:Cx}
def kU:V->List V->Hp->VK->Prop:=λx b H Q=>∃l a y,x=.ref l/\b=[y]/\H l=some (.lst a)/\a.length<sizeLine/\Q .non (upd H l (.lst (a++[y])))
def m3:MtM X "list.append" kU:=by intro d s m H x p v k Q I j g h;refine aeX h λl w y b a c o q=>?_;subst b a;cases j;obtain⟨u,rfl,i⟩:=g.one;obtain⟨z,f,n,r,t,e⟩:=I.ahT c;refine ajA F.slot_list_append ⟨_,e,rfl⟩ F.entry_list_append (F.args_list_append_2 _ _) (PySem.list_append l _ n u (by grind)) ⟨e,.non,_,I.ahU c e (by simp) (r.append (.cons i .nil)) ?_,rfl,q⟩;rw[aiM,akl];omega
def len_rep{α:Type}(xs:List α)(k:Nat):(List.replicate k xs).flatten.length=k*xs.length:=by induction k with|zero=>simp|succ k ih=>rw[aiZ,ajf,aiM,ih,Nat.succ_mul,Nat.add_comm]
end
end L2
namespace Att
open PySem PySem.W PySem.Calls PyProof.Rows
def i9{P h}:∀c d,WellAll P h d (c.map WData.int)->IntsAre d c:=by intro c;induction c with|nil=>intro d w;cases w;exact .nil|cons n c ih=>intro d w;cases w with|cons a b=>cases a;exact .cons _ _ (ih _ b)
def uI{l:OpenLaw}{n}(p:l.most=some n){P h args b}(c:l.row.toRowW.claim.pre args=true)(j:WellAll P h b args):∃a k e,b=[Value.ref a]/\args=[WData.list (e.map WData.int)]/\h.get? a=some {cls:=.type "list",data:=.seq k.toArray}/\IntsAre k e/\e.length<=n:=by
 have o:l.pre.holds [] {args:=args}=true:=(pre_splitW c).2;refine jP (hasAllW_cons (pre_splitW c).1) λd r i s u=>?_;subst i;obtain rfl:=hasAllW_nil u;obtain⟨v,rfl,t⟩:=hasW_list s;obtain⟨e,rfl⟩:=items_int t;have f:e.length<=n:=by
  unfold OpenLaw.pre at o;have g:=by have g:=(holds_andW o).1;rw[p]at g;exact g
  have m:=condW_of g (w_not (w_lt w_lit (w_len_list (w_arg rfl))));rw[aiR]at m;refine ak8 λq=>?_;(simp at m;omega)
 cases j with|cons w1 w2=>cases w2;cases w1 with|list ho hall=>exact afv _ _ e rfl rfl ho (i9 e _ hall) f
def u0(l:OpenLaw)(a):l.row.toRowW.claim.post a (.bool true) a=true:=postW_of (rfl) (w_eq_bool (w_res rfl) w_lit) rfl
def pJ{l:OpenLaw}{n q e N M d}(hn:l.most=some n)(z:d.params.defaults=[])(call:∀w c b v B m o A x g a j u,Ground q e [] N w c v B b.heap->M w b.heap->b.heap.get? m=some o->o.data=.func (docDef d.name d.params d.body d.scope A x g)->b.heap.CodeRec x d.name->v d.name=some (.ref m)->b.heap.get? a=some {cls:=.type "list",data:=.seq j.toArray}->IntsAre j u->u.length<=n->b.gens=#[]->codeAny (model l.prog w) callerA (.call (.ref m) ⟨[.ref a],[]⟩) (λr t=>r=.ok (.ret (.bool true))/\OldK b.heap t.heap/\t.os=b.os/\AllBare t.gens) b):WalkO q e N M l.row.toRowW d [] λf j=>PySem.call f j:=by intro w c b v B G Y m o A x g Z kV ho hd y I D O H K as s J U E Q;obtain rfl:Z=.none:=Dflts.none I z;obtain rfl:kV=.none:=Dflts.noKw I;refine aeX (uI hn s E) λa j u i C k h p=>?_;subst i C;refine enter_call (ajX (call w c b v B m o A x g a j u G Y ho (fd_plain hd) y D k h p O) λr t T=>?_);refine afu T λi R X S=>?_;subst i;exact⟨.inl (afv _ (.bool true) [] rfl (λ_=>rfl) (.bool true) (u0 l _) λ_=>⟨List.Pairwise.nil,λ_ P=>nomatch P⟩),R,X,S⟩
end Att
namespace L2
open PySem PySem.Spec PyProof.Rows
theorem l7:∀{vs ns},IntsAre vs ns->Vals (ns.map V.int) vs|_,_,.nil=>.nil|_,_,.cons n t h=>.cons ⟨t,rfl⟩ (l7 h)
def agV(H:Hp):Prop:=∀b,H b=none\/∃o a,H b=some (.frz o (.lst a))
def yQ{P w K A R CX k Q a fd x sp c vs ns}(KX:K.In c.heap)(E:c.heap.Ns mainGlobals A)(g:c.heap.Ns builtinsNs R)(T:∀x:Str,x≠"__name__"->R x=bootBuiltins x)(G:c.heap.NoLimit)(hg:c.gens=#[])(S:c.heap.get? a=some {cls:=.type "list",data:=.seq vs.toArray})(Z:IntsAre vs ns)(hl:ns.length<=sizeLine)(hr:Room k callerA)(F:∀j,K.In j->j.Ns mainGlobals A->FnOk P w K A j CX k Q fd [x] sp)(t:∀s u,BindsTo s fd ⟨[u],[]⟩ [(x,u)])(X:∀H,agV H->SqL K H a (ns.map V.int)->sp [.ref a] H (λv _=>v=.bl true) λ_ _ _=>False)(Y:∀H e i,CX [] H c (λ_ _ _=>False) e i->False):codeAny (model P w) callerA (.call (.ref Q) ⟨[.ref a],[]⟩) (λr i=>r=.ok (.ret (.bool true))/\OldK c.heap i.heap/\i.os=c.os/\AllBare i.gens) c:=by
 have rv:=l7 Z;have B:=Z.length;-- from an abstract heap in which nothing but the script may be tracked
 have p:∀H:Hp,agV H->SqL K H a (ns.map V.int)->HOk P w H c.heap->(∀b,H b≠none->b=a)->(H a≠none->K.lookup a=none)->codeAny (model P w) callerA (.call (.ref Q) ⟨[.ref a],[]⟩) (λr i=>r=.ok (.ret (.bool true))/\OldK c.heap i.heap/\i.os=c.os/\AllBare i.gens) c:=by
  intro H hO hS I hA hK;have f:∀{b:Addr}{o:Obj},c.heap.get? b=some o->H b=none->(zd c.heap H).get? b=some o:=λe n=>zc e n;have O:∀{b:Addr}{o:Obj}{N:Array DictEntry}{M:Nat},c.heap.get? b=some o->o.data=.dict N M->H b=none:=λ{b o N M}e d=>by grind
  have l:∀{b:Addr}{m:Str->Option Value},c.heap.Ns b m->(zd c.heap H).Ns b m:=λ{b m}⟨o,N,M,e,d,r⟩=>⟨o,N,M,f e (O e d),d,r⟩;have D:K.In (zd c.heap H):=λb o e=>f (KX b o e) (by cases q:H b with|none=>rfl|some u=>have e':b=a:=hA b (by rw[q];simp);subst e';rw[hK (by rw[q];simp)]at e;cases e);have hM:Mod K A (zd c.heap H):=⟨D,l E,⟨R,l g,T⟩,let⟨mc,h1,h2⟩:=G;⟨mc,l h1,h2⟩⟩;have e0:Env0 P w K A (zd c.heap H) callerA [] c H:=⟨rfl,hM,λb o e=>abl e,ak1 (vT _ _),trivial,λb g=>absurd (show b∈([]:List Addr)from g) (by simp),I,.of_eq hg⟩;refine ajX ((F _ D (l E)).run callerA [] c H ⟨[.ref a],[]⟩ [.ref a] [.ref a] _ _ hr trivial e0 (t c (.ref a)) (.cons rfl .nil) (X H hO hS)) λr i h=>?_;cases r with|error e=>exact(Y H e i h).elim|ok fl=>cases fl with|next|brk|cont=>exact False.elim h|ret u=>obtain⟨v,H',os,J,un,C,r',q⟩:=h;have q':v=.bl true:=q;subst q';obtain rfl:u=Value.bool true:=r';refine⟨rfl,OldK.of_keep λb o e=>?_,os,J⟩;cases q:H b with|none=>exact un.keep b o e q (by intro z;exact absurd (show b∈([]:List Addr)from z) (by simp)) (by simp)|some u=>
     rcases hO b with z|⟨ob,xs,z⟩;.rw[q]at z;cases z
     .have z2:=un.frzs b ob _ z;obtain⟨e1,_⟩:=I b _ z;obtain⟨e2,_⟩:=C b _ z2;rw[e]at e1;cases e1;exact e2
 cases U:K.lookup a with|some o=>-- the script is one of the module's own objects
 have e:=KX a o U;rw[S]at e;cases e;refine p (λ_=>none) (λ_=>.inl rfl) (.inr ⟨_,vs.toArray,_,U,rfl,rfl,rfl,by rw[ai8,B];exact hl,by simpa using rv⟩) (λb u z=>by have y:(none:Option HO)=some u:=z;cases y) (λb z=>absurd rfl z) λz=>absurd rfl z|none=>
  refine p (λb=>if b=a then some (.frz {cls:=.type "list",data:=.seq vs.toArray} (.lst (ns.map V.int)))else none) (λb=>?_) (.inl (.inr ⟨{cls:=.type "list",data:=.seq vs.toArray},aij rfl⟩)) (λb u z=>?_) (λb z=>?_) λ_=>U
  .by_cases g:b=a;.exact .inr ⟨_,_,aij g⟩
   .exact .inl (aik g)
  .by_cases g:b=a;.have y:=(aij g).symm.trans z;cases y;subst g;exact⟨S,by rw[aiR];exact hl,vs,_,rv,S⟩
   .have y:=(aik g).symm.trans z;cases y
  .by_cases g:b=a;.exact g
   .exact absurd (aik g) z
def aaF{l:W.OpenLaw}{n k q i XP N d}{K:Params->W.Frag}{CX:World->CXT}{sp:World->Sp}{x}(hn:l.most=some n)(E:n<=sizeLine)(z:d.params.defaults=[])(R:Room k callerA)(Z:∀w h,N w h->(K w.params).In h)(F:∀w j t h,(K w.params).In h->h.Ns mainGlobals j->j d.name=some (.ref t)->∃C,(∀s u,BindsTo s C ⟨[u],[]⟩ [(x,u)])/\∀b,(K w.params).In b->b.Ns mainGlobals j->FnOk l.prog w (K w.params) j b (CX w) k t C [x] (sp w))(D:∀w H a(r:List Int),r.length<=n->agV H->SqL (K w.params) H a (r.map V.int)->sp w [.ref a] H (λv _=>v=.bl true) λ_ _ _=>False)(A:∀w H s e y,CX w [] H s (λ_ _ _=>False) e y->False):W.WalkO q i XP N l.row.toRowW d [] λf J=>PySem.call f J:=by refine Att.pJ hn z λw M p j mb t o pm cd X a J r G Y ho hd O B m g c P=>?_;have I:=Z w _ Y;refine dh (F w j t _ I G.T.g B) λC U Q=>?_;exact yQ I G.T.g G.T.b G.T.builtins G.T.nolimit P m g (aip c E) R Q U (λH S T=>D w H a r c S T) λH e y=>A w H p e y
noncomputable def aV(s:Stmt):Arguments:=match s with|.FunctionDef _ a _ _ _ _ _ _ _ _=>a|_=>{posonlyargs:=[],args:=[],vararg:=none,kwonlyargs:=[],kw_defaults:=[],kwarg:=none,defaults:=[]}
noncomputable def aC(s:Stmt):List Stmt:=match s with|.FunctionDef _ _ b _ _ _ _ _ _ _=>b|_=>[]
noncomputable def af(s:Stmt):Scope:=match s with|.FunctionDef _ _ _ _ _ _ sc _ _ _=>sc|_=>{kind:=.function,names:=[],isGenerator:=false,isCoroutine:=false}
abbrev CX0:CXT:=λ_ _ _ _ _ _=>False
abbrev E0:XK:=λ_ _ _=>False
def af8{X}:Passes CX0 X E0:=λ_ _ _ _ _ _ _ h=>h.elim
structure Fun(K:W.Frag)(x qual:Str)(st:Stmt)(f:Addr)(fd:FuncData):Prop where
 ex:∃(oc:Value)(od:Option Addr)(kV doc pm:Value)(an:Option Addr)(cdv ct:Value)(osl:Array (Option Value)),fd=W.fnOf x qual (aV st) (aC st) (af st) .none kV doc pm an cdv ct/\K.lookup f=some ⟨oc,od,.func fd,osl⟩/\W.codeIn K cdv qual=true
 kp:W.keepIn K (.ref f)=true
section
variable{P:Program}{w:World}{K:W.Frag}{mg:Str->Option Value}{base:Heap}
def Fun.ok{x b st f l N ps k sp}(F:Fun K x b st f l)(S:FnScope N ps (af st))(len:∀e H Q E,sp e H Q E->e.length=ps.length)(c:∀d A a s H e Q E,Room k (A.deeper (envOfC b (af st) s.heap.objs.size f d))->sp e H Q E->∃t,PSs (cF CX0 P w K mg base N b (af st) f d A a s H E).nox (aC st) t/\t {nx:=λ_ o=>Q .non o,rt:=Q} (start N e) H):FnOk P w K mg base CX0 (k+1) f l ps sp:=by refine aai F.ex λv od kV r u y d ct p j m g=>?_;subst j;refine o8 m g S len λA a s H e Q E n _ i=>?_;obtain⟨t,h,q⟩:=c _ A _ s H _ Q E n i;exact⟨t,h.nox,q⟩
def Fun.binds{x a st f i ps}(F:Fun K x a st f i)(h:∀kV b j g c ct d,d.length=ps.length->bindArgs (W.fnOf x a (aV st) (aC st) (af st) .none kV b j g c ct) ⟨d,[]⟩=pure (ps.zip d)):Binds K i ps []:=by refine aai F.ex λn od kV b j g c ct l e m k=>?_;subst e;exact .all (h _ _ _ _ _ _)
def vX{x a st f i od e g kV d h b ct}(l:K.lookup f=some ⟨i,od,.func (W.fnOf x a (aV st) (aC st) (af st) .none kV d h e b ct),g⟩)(c:W.codeIn K b a=true)(k:W.keepIn K (.ref f)=true):Fun K x a st f (W.fnOf x a (aV st) (aC st) (af st) .none kV d h e b ct):=⟨⟨i,od,kV,_,h,e,_,ct,_,rfl,l,c⟩,k⟩
end
section
variable{X:Cx}
def pv(i){x pos}(b:X.N[i]?=some x:=by rfl)(d:Vis X.env.scope x:=by first|exact Or.inl rfl|exact Or.inr (Or.inl rfl)|exact Or.inr (Or.inr rfl))(c:Dbg x:=by decide)(a:(x=="__classdict__")=false:=by decide):PE X (.Name x pos) (cQ i):=vb b d c a
end
def av(H H':Hp):Prop:=∀b o,H b=some o->H' b=some o
def av.refl(H):av H H:=λ_ _ h=>h
def av.trans{H d e}(a:av H d)(b:av d e):av H e:=λc o h=>b c o (a c o h)
def av.free{H H'}(e:av H H'){l}(h:H' l=Option.none):H l=Option.none:=by cases q:H l with|none=>rfl|some o=>rw[e l o q]at h;cases h
def av.seq{K H H' a xs}(e:av H H')(h:SqL K H a xs):SqL K H' a xs:=by
 rcases h with(h|⟨o,h⟩)|h;.exact .inl (.inl (e _ _ h))
 .exact .inl (.inr ⟨o,e _ _ h⟩)
 .exact .inr h
end L2
set_option maxHeartbeats 4000000
set_option autoImplicit true
set_option relaxedAutoImplicit true
namespace L2
open PySem PySem.Spec PyProof.Rows
noncomputable def bJ(a:List (Str×Addr)):List (Str×NameKind)->List (Str×Addr)->List (Str×Addr)|[],acc=>acc|(n,k)::r,acc=>if k==.free then match a.lookup n with|some c=>bJ a r ((n,c)::acc)|none=>bJ a r acc else bJ a r acc
def fL (h:∀y∈scope.names,y.2=.free->(env.cells.lookup y.1).isSome=true):closureFor scope env=pure (bJ env.cells scope.names []):=by
 have all:∀(a:List (Str×NameKind))(b:List (Str×Addr)),(∀y∈a,y.2=.free->(env.cells.lookup y.1).isSome=true)->(forIn a b λ(x:Str×NameKind)r=>match x with|(name,kind)=>if(kind==NameKind.free)=true then do let c <-cellOf env name;pure (ForInStep.yield ((name,c)::r))else pure (ForInStep.yield r))=pure (bJ env.cells a b):=by intro a;induction a with|nil=>intro b _;rfl|cons y r ih=>
   intro b i;obtain⟨n,k⟩:=y;rw[List.forIn_cons];have j:=λd=>ih d λz m=>i z (aiV _ m);by_cases f:(k==NameKind.free)=true
   .have g:k=.free:=by simpa using f
    obtain⟨c,l⟩:=ai0.mp (i (n,k) aiI g);have o:cellOf env n=pure c:=by unfold cellOf;rw[l]
    simp only[bJ,f,aj5,l];rw[o];simpa using j ((n,c)::b)
   .simp only[bJ,f,akC];simpa using j b
 have e:=all scope.names [] h;unfold closureFor;(simpa using e)
theorem bC :∀b a,(bJ cells b a).lookup x=some c->a.lookup x=some c\/cells.lookup x=some c
|[],a,h=>.inl h|(n,k)::r,a,h=>by
 unfold bJ at h;split at h;.cases e:cells.lookup n with|none=>rw[e]at h;exact bC r _ h|some d=>
  rw[e]at h;rcases bC r _ h with q|q
  .rw[aiT]at q;split at q;.exact .inr (by grind)
   .exact .inl q
  .exact .inr q
 .exact bC r _ h
theorem cX :∀b(a:List (Str×Addr)),(a.lookup x).isSome=true->((bJ cells b a).lookup x).isSome=true
|[],a,h=>h|(n,k)::r,a,h=>by
 unfold bJ;split;.cases e:cells.lookup n with|none=>exact cX r _ h|some d=>
  refine cX r _ ?_;rw[aiT];split;.rfl
  .exact h
 .exact cX r _ h
theorem gy :∀a b,(x,NameKind.free)∈a->(cells.lookup x).isSome=true->((bJ cells a b).lookup x).isSome=true
|(n,k)::r,b,g,f=>by
 rcases aiO.mp g with e|g;.cases e;obtain⟨c,f⟩:=ai0.mp f;unfold bJ;simp only[f];refine cX r _ ?_;simp
 .unfold bJ;split;.cases e:cells.lookup n with|none|some d=>exact gy r _ g f
  .exact gy r _ g f
theorem bc{a:Env}{x}:∀{b:List (Str×NameKind)}{k},(b.map λ(n,k)=>if k==NameKind.free&&a.scope.kind==.function&&a.kindOf n==some .cell then(n,NameKind.cell)else(n,k)).lookup x=some k->b.lookup x=some k\/k=.cell/\b.lookup x=some .free
|[],_,h=>by simp at h|(n,k0)::r,k,h=>by
  have g:=@bc a x r k;have c:List.lookup x ((if(k0==NameKind.free&&a.scope.kind==.function&&a.kindOf n==some .cell)=true then(n,NameKind.cell)else(n,k0))::r.map λ(n,k)=>if k==NameKind.free&&a.scope.kind==.function&&a.kindOf n==some .cell then(n,NameKind.cell)else(n,k))=some k:=h
  cases e:x==n with|true=>
   rw[aiT,e];by_cases d:(k0==NameKind.free&&a.scope.kind==.function&&a.kindOf n==some .cell)=true
   .rw[aij d,aiT,e]at c;have f:k0=.free:=by simp only[aiw]at d;simpa using d.1.1
    cases c;exact .inr ⟨rfl,by rw[f]⟩
   .rw[aik d,aiT,e]at c;exact .inl c|false=>
   rw[aiT,e];by_cases d:(k0==NameKind.free&&a.scope.kind==.function&&a.kindOf n==some .cell)=true;.rw[aij d,aiT,e]at c;exact g c
   .rw[aik d,aiT,e]at c;exact g c
section
variable{X:Cx}{pins:List (Addr×Obj)}{σ:St}{H:Hp}{s:Shared}
def HOk.ui{P w h a o}(x:HOk P w H h)(f:H a=none)(new:bL P w (upd H a o) h a o):HOk P w (upd H a o) h:=λb u e=>by
 by_cases d:b=a;.subst d;rw[ah]at e;cases e;exact new
 .rw[ae d]at e;exact(x b u e).n6 (λc v _ q=>q) (λc q=>by rw[ae (aD q f)];exact q) λc g q=>by rw[ae (aD q f)];exact q
theorem Inv.ui (I:Inv X pins σ H s)(hn:H a=none)(ha:X.s₀.heap.objs.size<=a)(hL:a≠X.env.locals)(hc:∀x c,X.env.cells.lookup x=some c->c≠a)(hp:∀p∈X.pn++pins,p.1≠a)(new:bL X.prog X.w (upd H a o) s.heap a o):Inv X pins σ (upd H a o) s where
 ok:=I.ok;os:=I.os;bare:=I.bare;base:=⟨I.base.keep,I.base.slot,λb u q n hx=>by rw[ae (aix (aiq (air q) ha))];exact I.base.free b u q n hx,I.base.there,λb xs q=>by have z:=I.base.tups b xs q;rw[ae (aD z hn)];exact z,λb u v q=>by have z:=I.base.frzs b u v q;rw[ae (aD z hn)];exact z,λb ps q=>by obtain⟨more,z⟩:=I.base.tbls b ps q;exact⟨more,by rw[ae (aD z hn)];exact z⟩⟩;loc:=I.loc;cell:=I.cell;free:=by rw[ae (aiu hL)];exact I.free
 freeC:=λx c e=>by rw[ae (hc x c e)];exact I.freeC x c e
 pin:=λp hp'=>by obtain⟨e,n,r⟩:=I.pin p hp';exact⟨e,by rw[ae (hp p hp')];exact n,r⟩
 hok:=I.hok.ui hn new;len:=I.len
end
abbrev Cx.tri(X:Cx)(E:Value->Shared->Prop)(pn:List (Addr×Obj)):Cx:={X with xe:=E,pn:=pn}
theorem Cx.Ok.tri{X:Cx}(ok:X.Ok)(E)(a):(X.tri E a).Ok:=⟨ok.mod,ok.kind,ok.glob,ok.blt,ok.above,ok.inj,ok.has,ok.cab,ok.hd,ok.frames,ok.stk,ok.exf,ok.bs,ok.bsz,ok.noex,ok.exfs,ok.lW,ok.frf⟩
section
variable{X:Cx}{pins:List (Addr×Obj)}{σ:St}{H:Hp}{s:Shared}
theorem Inv.tri(I:Inv X pins σ H s)(E:Value->Shared->Prop):Inv (X.tri E (X.pn++pins)) [] σ H s:=⟨I.ok.tri E _,I.os,I.bare,I.base,I.loc,I.cell,I.free,I.freeC,λp a=>I.pin p (by simpa using a),I.hok,I.len⟩
end
noncomputable def hd1(y:Str):Str:=⟨y.cps.push 32⟩
def hid(scope:Scope)(y:Str):Str:=match scope.names.lookup y with|some .local=>hd1 y|_=>y
def aep (h:hid scope y=x):x=hd1 y/\scope.names.lookup y=some .local\/x=y/\scope.names.lookup y≠some .local:=by
 unfold hid at h;split at h;.rename_i e;exact .inl ⟨h.symm,e⟩
 .rename_i e;exact .inr ⟨h.symm,e⟩
abbrev Cx.comp(X:Cx)(scope:Scope)(C:Addr)(ts:List Str)(b:Shared)(a:Hp)(c:List Addr):Cx:={X with N:=ts++X.N.map (hid scope),s₀:=b,H₀:=a,env:=compEnvC scope (bJ X.env.cells scope.names []) C X.env,outer:=X.stack,stack:=X.stack,ex:=c,fn:=λ_=>false,pn:=[],xe:=λ_ _=>False}
structure CompLook(X:Cx)(scope:Scope):Prop where
 kind:scope.kind=.function
 nocell:scope.names.all λy=>y.2!=.cell=true
 names:scope.names.all λy=>y.2!=.local||scope.names.lookup y.1==some .local=true
 free:scope.names.all λy=>y.2!=.free||X.env.scope.names.lookup y.1==some .cell||X.env.scope.names.lookup y.1==some .free=true
 apart:(scope.names.all λy=>(scope.names.lookup (hd1 y.1)).isNone)=true
structure CompScope(X:Cx)(scope:Scope)(ts:List Str):Prop where
 kind:scope.kind=.function
 nocell:∀y∈scope.names,y.2≠.cell
 names:∀y∈scope.names,y.2=.local->scope.names.lookup y.1=some .local
 free:∀y∈scope.names,y.2=.free->X.env.scope.names.lookup y.1=some .cell\/X.env.scope.names.lookup y.1=some .free
 apart:∀y∈scope.names,scope.names.lookup (hd1 y.1)=none
theorem CompLook.scope{X:Cx}{scope:Scope}{ts:List Str}(L:CompLook X scope):CompScope X scope ts where
 kind:=L.kind;nocell:=λy hy=>by simpa using ai6.mp L.nocell y hy
 names:=λy hy e=>by have h:=ai6.mp L.names y hy;rw[e]at h;simpa using h
 free:=λy hy e=>by have h:=ai6.mp L.free y hy;rw[e]at h;simpa using h
 apart:=λy hy=>by simpa using ai6.mp L.apart y hy
noncomputable def vu:List Str->Bool|[]=>true|x::r=>!(r.any λy=>decide (y=x))&&vu r
theorem qD:∀{N},vu N=true->N.Nodup|[],_=>List.nodup_nil|x::r,h=>by simp [vu]at h;exact ajl.mpr ⟨λa=>h.1 x a rfl,qD h.2⟩
section
variable{X:Cx}{pins:List (Addr×Obj)}{σ:St}{H:Hp}{s:Shared}
def pB{scope:Scope}{ts:List Str}{C:Addr}{fp:List Addr}(S:CompScope X scope ts)(I:Inv X pins σ H s)(hf:∀b∈fp,rg X pins H b)(hfl:∀b∈fp,b<s.heap.objs.size)(hC:s.heap.objs.size<=C):(X.comp scope C ts s H fp).Ok where
 mod:=I.ok.mod;kind:=S.kind;glob:=I.ok.glob;blt:=I.ok.blt;above:=hC;inj:=λx y c e1 e2=>by have q1:=(bC scope.names [] e1).resolve_left (by simp);have q2:=(bC scope.names [] e2).resolve_left (by simp);exact I.ok.inj x y c q1 q2
 has:=λx hx=>by
  have hx':scope.names.lookup x=some .free:=by
   rcases hx with hx|hx
   .rcases bc hx with q|⟨_,q⟩;.exact absurd rfl (S.nocell _ (aiU q))
    .exact q
   .rcases bc hx with q|⟨q,_⟩;.exact q
    .cases q
  have hm:=aiU hx';obtain⟨c,hc⟩:=I.ok.has x (S.free _ hm rfl);exact ai0.mp (gy scope.names [] hm (by rw[hc];rfl))
 cab:=λx c h _=>by cases h
 hd:=I.ok.hd;frames:=I.ok.frames;stk:=.inl rfl;exf:=λb hb=>⟨aix (aiq (hfl b hb) hC),λx c e=>by have q:=(bC scope.names [] e).resolve_left (by simp);exact(hf b hb).2.2.2.2.1 x c q⟩;bs:=I.bs;bsz:=aip I.ok.bsz I.sz;noex:=λb o e hb=>by
  rcases(hf b hb).2.2.2.1 with z|z;.exact I.ok.noex b o e z
  .exact absurd (aiq (air e) (aip I.ok.bsz z)) (ajo _)
 exfs:=λb hb z=>by
  rcases aiO.mp (I.qc b z)with e|e;.exact(hf b hb).2.1 e
  .exact(hf b hb).2.2.1 e
 lW:=I.stack;frf:=I.ot
def sT{scope:Scope}{ts:List Str}{C:Addr}{fp:List Addr}{s4:Shared}(S:CompScope X scope ts)(I:Inv X pins σ H s)(hf:∀b∈fp,rg X pins H b)(hfl:∀b∈fp,b<s.heap.objs.size)(hC:s.heap.objs.size<=C)(ho:s4.os=s.os)(hg:s4.gens=s.gens)(hk:∀b o,s.heap.get? b=some o->s4.heap.get? b=some o){m:Str->Option Value}(hn:s4.heap.Ns C m):Inv (X.comp scope C ts s H fp) [] (List.replicate ts.length none++σ) H s4 where
 ok:=pB S I hf hfl hC;os:=ho;bare:=by rw[hg];exact I.bare
 base:=Un.kept hk;loc:=⟨m,hn,λi x v e1 e2 e3=>by
  have hi:ts.length<=i:=by
   rcases Nat.lt_or_ge i ts.length with h|h;.rw[aiD (by simpa using h),ajg]at e2;simp[h]at e2
   .exact h
  rw[aiE (by simpa using hi)]at e2;rw[aiE hi]at e1;simp only[ajd]at e2;rw[aiK]at e1;obtain⟨y,ey,hy⟩:=aiL.mp e1;have hv:scope.names.lookup x≠none:=by
   rcases e3 with q|q|q;.rcases bc q with q|⟨_,q⟩<;>(rw[q];exact nofun)
   .rcases bc q with q|⟨_,q⟩<;>(rw[q];exact nofun)
   .rcases bc q with q|⟨_,q⟩<;>(rw[q];exact nofun)
  have hxy:x=y/\scope.names.lookup y≠some .local:=by
   rcases aep hy with z|z;.exact absurd (by rw[z.1];exact S.apart _ (aiU z.2)) hv
   .exact z
  have e1:X.N[i-ts.length]?=some x:=by rw[ey,hxy.1]
  have hap:scope.names.lookup x≠some .local:=by rw[hxy.1];exact hxy.2
  have hfree:scope.names.lookup x=some .free:=by
   rcases e3 with q|q|q
   .rcases bc q with q|⟨q,_⟩;.exact absurd q hap
    .cases q
   .rcases bc q with q|⟨_,q⟩;.exact absurd rfl (S.nocell _ (aiU q))
    .exact q
   .rcases bc q with q|⟨q,_⟩;.exact q
    .cases q
  have hm:=aiU hfree;have hk0:=S.free _ hm rfl;obtain⟨m0,_,hl⟩:=I.loc;obtain⟨u,r,l⟩:=hl (i-ts.length) x v e1 e2 (hk0.elim (λq=>.inr (.inl q)) λq=>.inr (.inr q));refine⟨u,r,?_⟩;rcases l with⟨kl,_⟩|⟨_,c,ec,z⟩
  .exfalso;have kl':X.env.scope.names.lookup x=some .local:=kl;rcases hk0 with q|q;.rw[q]at kl';cases kl'
   .rw[q]at kl';cases kl'
  .have kk:(X.comp scope C ts s H fp).env.kindOf x=some .cell\/(X.comp scope C ts s H fp).env.kindOf x=some .free:=by
    rcases e3 with q|q|q
    .rcases bc q with q|⟨q,_⟩;.exact absurd q hap
     .cases q
    .exact .inl q
    .exact .inr q
   obtain⟨c',ec'⟩:=(pB S I hf hfl hC).has x kk;have ec2:=(bC scope.names [] ec').resolve_left (by simp);rw[ec]at ec2;cases ec2;obtain⟨o,ho',hd⟩:=z;exact .inr ⟨kk,c,ec',o,hk _ o ho',hd⟩⟩;cell:=λx c e=>by have q:=(bC scope.names [] e).resolve_left (by simp);obtain⟨v,o,ho',hd⟩:=I.cell x c q;exact⟨v,o,hk _ o ho',hd⟩
 free:=I.hok.fresh hC;freeC:=λx c e=>I.freeC x c ((bC scope.names [] e).resolve_left (by simp));pin:=λp hp=>by cases hp
 hok:=I.hok.kept hk;len:=by rw[aiM,aiM,ajd,I.len,aiR]
end
section
variable{prog:Program}{w:World}{A:Around}{R:Result->Shared->Prop}{s:Shared}
def eB{C b iter D scope pos it u a}(I:Nat->Shared->Prop)(turn:∀n s,I n s->wpAny (model prog w) A (pyNext it) (λr f=>match r with|none=>R (.ok .next) f|some v=>wpAny (model prog w) A (letOwnedTupleGo b it v) (λ_ g=>wpAny (model prog w) A (assign b a v) (λ_ o=>wpAny (model prog w) A (forIn D true λc r=>if r=true then do let ok <-isTrue c a (eval c a);pure (ForInStep.yield ok)else pure (ForInStep.yield r)) (λok j=>if ok=true then wpAny (model prog w) A (eval C a) (λx l=>wpAny (model prog w) A (call (.builtin "list.append") [u,x]) (λ_ p=>∃m,m<n/\I m p) (notedBy (model prog w) A a λe d=>R (.error e) d) l) (notedBy (model prog w) A a λe d=>R (.error e) d) j else∃m,m<n/\I m j) (notedBy (model prog w) A a λe d=>R (.error e) d) o) (notedBy (model prog w) A a λe d=>R (.error e) d) g) (notedBy (model prog w) A a λe d=>R (.error e) d) f) (notedBy (model prog w) A a λe d=>R (.error e) d) s)(n)(h:I n s):codeAny (model prog w) A (.compLoop (.ListComp C [⟨b,iter,D,0⟩] scope pos) 0 it u a) R s:=by refine codeAny_loop rfl I (λn s E=>wpAny_noted ?_) n h;rw[compTurn_list];refine aif (ajw (aif (aiA (turn n s E) (λr f k=>?_) λ_ _ i=>i)));cases r with|none=>exact aio k|some v=>refine aif (aiA k (λ_ g t=>?_) λ_ _ i=>i);refine aif (aiA t (λ_ o z=>aif (aiA z (λok j q=>?_) λ_ _ i=>i)) λ_ _ i=>i);cases ok with|false=>exact aio ⟨rfl,q⟩|true=>exact aif (aif (aiA q (λx l B=>aif (aiA B (λ_ p y=>aio (aio ⟨rfl,y⟩)) λ_ _ i=>i)) λ_ _ i=>i))
end
def zC(X:Cx)(b:List Expr)(t:TT):Prop:=∀(a:List (Addr×Obj))(s:Shared)(d:St)(H:Hp)(Q:Bool->Hp->Prop),Inv X a d H s->t d H Q->wpAny (model X.prog X.w) X.A (forIn b true λc r=>if r=true then do let ok <-isTrue c X.env (eval c X.env);pure (ForInStep.yield ok)else pure (ForInStep.yield r)) (TP X a d Q) X.xe s
def tq:TT:=λ_ H Q=>Q true H
def yp:zC X [] tq:=λa s b H Q I h=>wpAny_tests_nil ⟨H,I,h⟩
def yo  (h:PT X c t):zC X [c] t:=λa s b H Q I hw=>wpAny_tests_one (h a s b H Q I hw)
def tf(J:It)(g:TG)(r:TT)(q:TE)(h:St)(n:Hp)(F:V->Hp->Prop):Prop:=∃W:Nat->Nat->List V->St->Hp->Prop,(∃m,W 0 m [] h n)/\∀i m f k H,W i m f k H->f.length<sizeLine/\((J.stop i H/\∀D,H D=none->F (.ref D) (upd H D (.lst f)))\/J.go i H/\∃N:List V->St->Hp->Prop,(∀d e c,N d e c->∃j,j<m/\W (i+1) j d e c)/\∀x c,J.yld i H x c->g x k c λa p=>r a p λb l=>if b=true then q a l λy o=>N (f++[y]) a o else N f a l)
def kG(c:Hp->Prop)(J:It)(g:TG)(s:TT)(r:TE)(j:St)(o:Hp)(F:V->Hp->Prop):Prop:=∃W:Nat->Nat->List V->St->Hp->Prop,(∃m,W 0 m [] j o)/\∀i m h l H,W i m h l H->c H/\h.length<sizeLine/\((J.stop i H/\∀D,H D=none->F (.ref D) (upd H D (.lst h)))\/J.go i H/\∃N:List V->St->Hp->Prop,(∀e f d,N e f d->∃k,k<m/\W (i+1) k e f d)/\∀x d,J.yld i H x d->g x l d λa q=>s a q λb n=>if b=true then r a n λy p=>N (h++[y]) a p else N h a n)
theorem kG.w    (h:kG c J g tt te σ0 H1 F):tf J g tt te σ0 H1 F:=by obtain⟨W,a,t⟩:=h;exact⟨W,a,λi m d b H w=>(t i m _ b H w).2⟩
theorem tf.c    (h:tf J g tt te σ0 H1 F):kG (λ_=>True) J g tt te σ0 H1 F:=by obtain⟨W,a,t⟩:=h;exact⟨W,a,λi m c b H w=>⟨trivial,t i m _ b H w⟩⟩
def acZ(k:Nat)(wi:TI)(g:TG)(d:TT)(c:TE):TE:=λa H Q=>wi a H λJ b=>tf J g d c (List.replicate k none++a) b Q
section
variable{X:Cx}{tg elt iter:Expr}{ifs:List Expr}{scope:Scope}{ts:List Str}{wi:TI}{g:TG}{tt:TT}{te:TE}
def kA{pins}{σ:St}{H j pos it k tn J}{Q:VK}{RR:Value->Addr->Result->Shared->Prop}{E}(S:CompScope X scope ts){cl cc}(M:Addr->Value->Shared->Prop)(c3:∀C U,cc U->cl ((X.comp scope C ts j H k).tri (M C) []) U)(hg:∀C,PG ((X.comp scope C ts j H k).tri (M C) []) tg g)(ht:∀C,zC ((X.comp scope C ts j H k).tri (M C) []) ifs tt)(he:∀C,PE ((X.comp scope C ts j H k).tri (M C) []) elt te)(I:Inv X pins σ H j)(T:Turn X.prog X.w X.K tg J k it tn cl)(st:tn 0 j.heap)(hf:∀b∈k,rg X pins H b)(hW:kG cc J g tt te (List.replicate ts.length none++σ) H Q)(fin:∀(C D:Addr)U B m Z,C≠D->j.heap.objs.size<=C->j.heap.objs.size<=D->B.heap.Ns C m->U C=none->Inv X pins σ (upd U D (.lst Z)) B->Q (.ref D) (upd U D (.lst Z))->RR (.ref D) C (.ok .next) B)(hx:∀(C D:Addr)e B,j.heap.objs.size<=C->M C e B->notedBy (model X.prog X.w) X.A (compEnvC scope (bJ X.env.cells scope.names []) C X.env) (λe B=>RR (.ref D) C (.error e) B) e B):wpAny (model X.prog X.w) X.A (newList []) (λc2 G=>wpAny (model X.prog X.w) X.A (newFunctionEnv scope X.env.globals (bJ X.env.cells scope.names []) [] X.env.qual none .none (some X.env)) (λa5 c4=>codeAny (model X.prog X.w) X.A (.compStart (.ListComp elt [⟨tg,iter,ifs,0⟩] scope pos) 0 (.ref it) c2 {a5 with scope:=relabel scope X.env}) (RR c2 a5.locals) c4) E G) E j:=by
 refine aka (wpAny_newFunctionEnv S.nocell (by intro y hy;simp at hy) (λK w s=>?_) S.kind);dsimp only at w s⊢;generalize hH2:j.heap.push {cls:=.type "list",dict:=none,data:=.seq ([]:List Value).toArray}=H2 at w s⊢;have b0:H2.objs.size=j.heap.objs.size+1:=by rw[<-hH2,akB]
 have b5:j.heap.objs.size≠H2.objs.size:=by rw[b0];exact aix (ak2 _)
 have t:j.heap.objs.size<=H2.objs.size:=by rw[b0];exact akF _
 have a8:∀b o,j.heap.get? b=some o->K.get? b=some o:=λb o e=>s.extBut b o (by rw[b0];exact aix (Nat.lt_succ_of_lt (air e))) (aih _ (hH2▸aih _ e));have c6:K.PlainList j.heap.objs.size #[]:=⟨_,s.extBut _ _ b5 (aih _ (hH2▸ais _ rfl))⟩;have b8:∀b∈k,b<j.heap.objs.size:=λb l=>by obtain⟨o,e,_⟩:=T.obj _ _ st b l;exact air e
 generalize hCdef:H2.objs.size=C at *;generalize hDdef:j.heap.objs.size=D at *;have b7:D∉k:=λhm=>ajo _ (b8 _ hm);have a3:((X.comp scope C ts j H k).tri (M C) []).Ok:=(pB S I hf (by rw[hDdef];exact b8) (by rw[hDdef];exact t)).tri _ _;have a0:∀x c,((X.comp scope C ts j H k).tri (M C) []).env.cells.lookup x=some c->c<D:=λx c e=>by have q:=(bC scope.names [] e).resolve_left (by simp);obtain⟨v,z⟩:=I.cell x c q;rw[<-hDdef];exact z.lt
 have a1:∀{U:Hp}{pl:List (Addr×Obj)},(∀b∈k,U b=none)->(∀p∈pl,p.1∉k)->∀b∈k,rg ((X.comp scope C ts j H k).tri (M C) []) pl U b:=λhn O b l=>⟨hn b l,(a3.exf b l).1,a3.exfs b l,.inl l,(a3.exf b l).2,λp d7 z=>O p (by simpa using d7) (z▸l)⟩;obtain⟨W,⟨m0,w0⟩,turn⟩:=hW;have a4:∀G:Shared,G={j with heap:=K,toks:=j.toks+([]:List (Str×Value)).length}->codeAny (model X.prog X.w) X.A (.compLoop (.ListComp elt [⟨tg,iter,ifs,0⟩] scope pos) 0 (.ref it) (.ref D) (compEnvC scope (bJ X.env.cells scope.names []) C X.env)) (RR (.ref D) C) G:=by
  rintro G rfl;have e0:Inv (X.comp scope C ts j H k) [] (List.replicate ts.length none++σ) H {j with heap:=K,toks:=j.toks+([]:List (Str×Value)).length}:=sT S I hf (by rw[hDdef];exact b8) (by rw[hDdef];exact t) rfl rfl a8 w;have I0:Inv ((X.comp scope C ts j H k).tri (M C) []) [] (List.replicate ts.length none++σ) H {j with heap:=K,toks:=j.toks+([]:List (Str×Value)).length}:=e0.tri _;refine eB (λn B=>∃i Z c9 U h,Inv ((X.comp scope C ts j H k).tri (M C) []) [] c9 U B/\tn i B.heap/\(∀b∈k,U b=none)/\B.heap.PlainList D h/\Vals Z h.toList/\U D=none/\W i n Z c9 U) ?_ m0 ⟨0,[],_,H,#[],I0,T.keep _ _ _ st λb _ o e=>a8 b o e,λb l=>(hf b l).1,c6,.nil,I.hok.fresh (by rw[hDdef];exact aim _),w0⟩;rintro n s3⟨i,Z,Y,H3,h,I3,d1,c7,e4,v3,d3,w3⟩;obtain⟨c5,e5,b6⟩:=turn i n Z Y H3 w3;obtain⟨P,eD⟩:=id e4;have c1:∀v,({cls:=.type "list",data:=.seq h P}:Obj).data≠.cell v:=λv z=>by cases z
  have a2:=b5;have a6:D ∉((X.comp scope C ts j H k).tri (M C) []).fs:=λl=>by obtain⟨_,o,ho,_⟩:=a3.lW.mem l;exact absurd (ajZ (air ho) hDdef) (ajo _)
  rcases b6 with⟨d0,qn⟩|⟨go,N,hN,step⟩;.-- the end
   have a9:Inv ((X.comp scope C ts j H k).tri (M C) []) [(D,{cls:=.type "list",data:=.seq h P})] Y H3 s3:=I3.dH λp O=>by
    obtain rfl:p=(D,({cls:=.type "list",data:=.seq h P}:Obj)):=by simpa using O
    exact⟨eD,d3,a2,a6,c1⟩
   refine aiA (T.done ((X.comp scope C ts j H k).tri (M C) []) rfl rfl rfl i _ s3 Y H3 (λ_ _=>False) (c3 C H3 c5) a9 (a1 c7 λp O=>by
    obtain rfl:p=(D,({cls:=.type "list",data:=.seq h P}:Obj)):=by simpa using O
    exact b7) d1 d0) (λr s4⟨hr,I4⟩=>?_) λ_ _ f=>f.elim;subst hr;have pD:=(I4.pin (D,{cls:=.type "list",data:=.seq h P}) (by simp)).1;obtain⟨m4,d9,_⟩:=I4.loc;have I5:=I.ab3 I4.os I4.base I4.hok I4.bare λb l=>⟨(hf b l).2.2.2.1,(hf b l).2.1,(hf b l).2.2.2.2.1,(hf b l).2.2.2.2.2⟩;have e3:=aiW (ajZ I.lt hDdef);have d4:∀x c,X.env.cells.lookup x=some c->c≠D:=λx c e=>by obtain⟨v,z⟩:=I.cell x c e;exact aix (ajZ z.lt hDdef)
   have d8:∀p∈X.pn++pins,p.1≠D:=λp O=>aix (ajZ (air (I.pin p O).1) hDdef);have new:bL X.prog X.w (upd H3 D (.lst Z)) s4.heap D (.lst Z):=⟨akX e5,h.toList,P,v3,by simpa using pD⟩;have I6:=I5.ui d3 (by rw[<-hDdef];exact I.sz) e3 d4 d8 new;exact fin C D H3 s4 m4 Z (aiu b5) t (aim _) d9 I4.free I6 (qn D d3)
  .-- a turn
   have a9:Inv ((X.comp scope C ts j H k).tri (M C) []) [(D,{cls:=.type "list",data:=.seq h P})] Y H3 s3:=I3.dH λp O=>by
    obtain rfl:p=(D,({cls:=.type "list",data:=.seq h P}:Obj)):=by simpa using O
    exact⟨eD,d3,a2,a6,c1⟩
   have c0:∀p∈[((D,{cls:=.type "list",data:=.seq h P}):Addr×Obj)],p.1∉k:=λp O=>by
    obtain rfl:p=(D,({cls:=.type "list",data:=.seq h P}:Obj)):=by simpa using O
    exact b7
   refine aiA (T.item ((X.comp scope C ts j H k).tri (M C) []) rfl rfl rfl i _ s3 Y H3 (λ_ _=>False) (c3 C H3 c5) a9 (a1 c7 c0) d1 go) (λr s4 A=>?_) λ_ _ f=>f.elim;obtain⟨u,hr,h4⟩:=A;subst hr;refine aiA h4 (λ_ s5 A=>?_) λ_ _ f=>f.elim;obtain⟨x,H5,I5,r5,y5,a7,e2⟩:=A;have d5:=I5.pinned (a1 e2 c0) (T.obj _ _ a7);have back:∀{b9:St}{H7:Hp}{s7:Shared},Inv ((X.comp scope C ts j H k).tri (M C) []) ([(D,{cls:=.type "list",data:=.seq h P})]++mJ k s5.heap) b9 H7 s7->tn (i+1) s7.heap/\(∀b∈k,H7 b=none)/\s7.heap.get? D=some {cls:=.type "list",data:=.seq h P}/\H7 D=none:=λ{b9 H7 s7}I7=>by have pD:=I7.pin (D,({cls:=.type "list",data:=.seq h P}:Obj)) (aiy _ (aiP _ aiI));refine⟨T.keep _ _ _ a7 λb l o e=>(I7.pin (b,o) (aiy _ (aiy _ (er l e)))).1,λb l=>?_,pD.1,pD.2.1⟩;obtain⟨o,e,d⟩:=T.obj _ _ a7 b l;exact(I7.pin (b,o) (aiy _ (aiy _ (er l e)))).2.1
   refine aiA (hg C _ s5 Y H5 x u _ d5 r5 (step x H5 y5)) (λ_ s6 A=>?_) λe B f=>hx C D e B t f;obtain⟨R,H6,I6,q6⟩:=A;refine aiA (ht C _ s6 R H6 _ I6 q6) (λb s7 A=>?_) λe B f=>hx C D e B t f;obtain⟨H7,I7,q7⟩:=A;cases b with|false=>obtain⟨m',hm,w7⟩:=hN _ _ _ (by simpa using q7);obtain⟨b1,b2,b3,b4⟩:=back I7;exact⟨m',hm,i+1,Z,R,H7,h,I7.dH λp O=>absurd O ajM,b1,b2,⟨P,b3⟩,v3,b4,w7⟩|true=>
    have d2:te R H7 λy H4=>N (Z++[y]) R H4:=by simpa using q7
    refine aiA (he C _ s7 R H7 _ I7 d2) (λu8 s8 A=>?_) λe B f=>hx C D e B t f;obtain⟨y,H8,I8,r8,q8⟩:=A;obtain⟨m',hm,w8⟩:=hN _ _ _ q8;obtain⟨b1,b2,b3,b4⟩:=back I8;have e6:h.size<=sizeLine:=by have e1:=v3.length;simp only[akw]at e1;omega
    refine wpAny_list_append_plain ⟨P,b3⟩ λh9 d6 c8=>?_;have I9:Inv ((X.comp scope C ts j H k).tri (M C) []) [] R H8 {s8 with heap:=h9}:=(I8.dH λp O=>absurd O ajM).turned (λb o l e=>(c8.2 b l).trans e) b4 a2 (.inr (ak1 hDdef)) (λx c e=>aix (a0 x c e)) λp O=>absurd O ajM;refine⟨m',hm,i+1,Z++[y],R,H8,h.push u8,I9,T.keep _ _ _ b1 λb l o e=>(c8.2 b λz=>b7 (z▸l)).trans e,b2,d6,?_,b4,w8⟩;simpa using v3.append (.cons r8 .nil)
 exact codeAny_compStart_list (a4 _ rfl) (T.self _ 0 _ _ _ (T.keep _ _ _ st λb _ o e=>a8 b o e) (a4 _ rfl))
def yu (L:CompLook X scope)(A:X.calm=true)(hi:PI X tg iter wi)(G:∀C a d i,PG (X.comp scope C ts a d i) tg g)(O:∀C a d i,zC (X.comp scope C ts a d i) ifs tt)(P:∀C a d i,PE (X.comp scope C ts a d i) elt te)(N:∀x,foldedSetIterable iter X.env x=pure x:=by intro _;rfl):PE X (.ListComp elt [⟨tg,iter,ifs,0⟩] scope pos) (acZ ts.length wi g tt te):=by
 intro j s σ H Q I h;have S:CompScope X scope ts:=L.scope;have f:=fL λy K hf=>by obtain⟨c,A⟩:=I.ok.has y.1 (S.free y K hf);rw[A];rfl
 rw[eval_ListComp];refine ak9 rfl N f S.kind S.names (thn (hi j s σ H _ I h) λxv s1 h1=>thn h1 λE s2 h2=>?_);obtain⟨it,i,tn,J,H2,e,k,T,w,Y,R⟩:=h2;subst e;refine kA S _ (λ_ _ _=>A) (λC=>G C _ _ _) (λC=>O C _ _ _) (λC=>P C _ _ _) k T w Y R.c ?_ λ_ _ _ _ _ z=>z.elim;intro C D H' M m ys r l hD hn t Z q;refine⟨m,hn,λh' u=>?_⟩;have B:=aiW (aiq k.lt l);have n:=Z.turned (t':=M.toks) (λb o U e=>(u.2 b U).trans e) (by rw[ae r];exact t) B (.inr (aip k.sz l)) (λx c e=>by obtain⟨v,q⟩:=k.cell x c e;exact aix (aiq q.lt l)) λp hp=>aix (aiq (air (k.pin p hp).1) l);exact⟨.ref D,_,n,rfl,q⟩
end
def IsD(K:W.Frag)(H:Hp):Nat->V->PyData->Prop|_,x,.none=>x=.non|_,x,.bool b=>x=.bl b|_,x,.int i=>x=.int i|_,x,.str z=>x=.str z/\PyData.strOk z=true|_,_,.dict _=>False|0,_,.tuple _=>False|0,_,.list _=>False|n+1,x,.tuple ds=>∃a c,x=.ref a/\SqT K H a c/\Paired (IsD K H n) c ds|n+1,x,.list ds=>∃a c,x=.ref a/\SqL K H a c/\Paired (IsD K H n) c ds
section
variable{X:Cx}{pins:List (Addr×Obj)}{σ:St}{H:Hp}{s:Shared}
theorem iK{h n R}(one:∀x d u,R x d->RelV x u->(∃a,Reads h u d a)/\d.canLay0=true/\d.depth<=n):∀{xs ds us},Paired R xs ds->Vals xs us->(∃a,ReadsAll h us ds a)/\PyData.canLayAll0 ds=true/\PyData.depthAll ds<=n
|_,_,_,.nil,.nil=>⟨⟨_,.nil⟩,rfl,aiN _⟩|_,_,_,.cons r t,.cons q t'=>by
 obtain⟨⟨a,e⟩,b,i⟩:=one _ _ _ r q;obtain⟨⟨bs,f⟩,c,g⟩:=iK one t t';refine⟨⟨_,.cons e f⟩,?_,?_⟩;.simp[PyData.canLayAll0,b,c]
 .simp [PyData.depthAll];omega
def Inv.reads(I:Inv X pins σ H s):∀n d x u,IsD X.K H n x d->RelV x u->(∃e,Reads s.heap u d e)/\d.canLay0=true/\d.depth<=n:=by intro n;induction n with
|zero=>intro d x u h r;cases d with|none=>subst h;cases r;exact⟨⟨_,.none⟩,rfl,aiN _⟩|bool b=>subst h;cases r;exact⟨⟨_,.bool b⟩,rfl,aiN _⟩|int i=>subst h;obtain⟨t,rfl⟩:=r;exact⟨⟨_,.int i t⟩,rfl,aiN _⟩|str z=>obtain⟨rfl,c⟩:=h;obtain⟨t,rfl⟩:=r;exact⟨⟨_,.str z t⟩,by simpa[PyData.canLay0]using c,aiN _⟩|dict kvs|tuple ds|list ds=>exact h.elim
|succ n ih=>intro d x u h r;cases d with|none=>subst h;cases r;exact⟨⟨_,.none⟩,rfl,aiN _⟩|bool b=>subst h;cases r;exact⟨⟨_,.bool b⟩,rfl,aiN _⟩|int i=>subst h;obtain⟨t,rfl⟩:=r;exact⟨⟨_,.int i t⟩,rfl,aiN _⟩|str z=>obtain⟨rfl,c⟩:=h;obtain⟨t,rfl⟩:=r;exact⟨⟨_,.str z t⟩,by simpa[PyData.canLay0]using c,aiN _⟩|dict kvs=>exact h.elim|tuple ds=>obtain⟨a,B,rfl,m,p⟩:=h;cases r;obtain⟨f,j,⟨o,v,w,k,q⟩,c⟩:=I.tuple m;obtain⟨⟨e,l⟩,g,A⟩:=iK (λx d u=>ih d x u) p j;exact⟨⟨_,.tuple v w q (by simpa using l)⟩,by simpa[PyData.canLay0]using g,by simp only[PyData.depth];omega⟩|list ds=>obtain⟨a,B,rfl,m,p⟩:=h;cases r;obtain⟨f,j,y,c⟩:=I.list m;obtain⟨o,v,w,k,q⟩:=y.isList;obtain⟨⟨e,l⟩,g,A⟩:=iK (λx d u=>ih d x u) p j;exact⟨⟨_,.list v w q (by simpa using l)⟩,by simpa[PyData.canLay0]using g,by simp only[PyData.depth];omega⟩
end
def av.tup{K H H' a xs}(e:av H H')(h:SqT K H a xs):SqT K H' a xs:=by
 rcases h with(h|⟨o,h⟩)|h;.exact .inl (.inl (e _ _ h))
 .exact .inl (.inr ⟨o,e _ _ h⟩)
 .exact .inr h
section
variable{X:Cx}
def adI:OpR X (compareOp .Eq) λx y H Q=>∃n d e,IsD X.K H n x d/\IsD X.K H n y e/\X.A.units+n<cLine/\Q (.bl (PyData.eqv d e)) H:=by intro a s m H x y v u Q I j b⟨n,d,e,k,c,r,q⟩;obtain⟨⟨l,h⟩,f,p⟩:=I.reads n d x v k j;obtain⟨⟨bs,i⟩,g,o⟩:=I.reads n e y u c b;exact SeqAt.compareEq_reads h i f g (by omega) (fg (.bl _) H I rfl q)
def adC:OpR X (compareOp .NotEq) λx y H Q=>∃n d e,IsD X.K H n x d/\IsD X.K H n y e/\X.A.units+n<cLine/\Q (.bl !PyData.eqv d e) H:=by intro a s m H x y v u Q I j b⟨n,d,e,k,c,r,q⟩;obtain⟨⟨l,h⟩,f,p⟩:=I.reads n d x v k j;obtain⟨⟨bs,i⟩,g,o⟩:=I.reads n e y u c b;exact SeqAt.compareNe_reads h i f g (by omega) (fg (.bl _) H I rfl q)
def adH:OpR X (compareOp .In) λx y H Q=>∃n d a,IsD X.K H n x d/\(IsD X.K H (n+1) y (.list a)\/IsD X.K H (n+1) y (.tuple a))/\X.A.units+1+n<cLine/\Q (.bl (a.any λz=>PyData.eqv z d)) H:=by
 intro i s o H x y v u Q I k f⟨n,d,a,l,b,r,q⟩;obtain⟨⟨m,h⟩,g,p⟩:=I.reads n d x v l k;rcases b with b|b;.obtain⟨⟨bs,e⟩,c,j⟩:=I.reads _ _ y u b f;exact SeqAt.in_list_reads e h (by simpa[PyData.canLay0]using c) g (by have:=ajL (PyData.depthAll a) d.depth;omega) ⟨.bl _,H,I,rfl,q⟩
 .obtain⟨⟨bs,e⟩,c,j⟩:=I.reads _ _ y u b f;exact SeqAt.in_tuple_reads e h (by simpa[PyData.canLay0]using c) g (by have:=ajL (PyData.depthAll a) d.depth;omega) ⟨.bl _,H,I,rfl,q⟩
def vj:OpR X (compareOp .NotIn) λx y H Q=>∃n d b,IsD X.K H n x d/\(IsD X.K H (n+1) y (.list b)\/IsD X.K H (n+1) y (.tuple b))/\X.A.units+1+n<cLine/\Q (.bl !b.any λz=>PyData.eqv z d) H:=by
 intro h s o H x y v u Q I k e⟨n,d,b,l,a,r,q⟩;obtain⟨⟨m,g⟩,f,p⟩:=I.reads n d x v l k;rcases a with a|a;.obtain⟨⟨bs,c⟩,j,i⟩:=I.reads _ _ y u a e;exact SeqAt.notIn_list_reads c g (by assumption) f (by omega) ⟨.bl _,H,I,rfl,q⟩
 .obtain⟨⟨bs,c⟩,j,i⟩:=I.reads _ _ y u a e;exact SeqAt.notIn_tuple_reads c g (by assumption) f (by grind) ⟨.bl _,H,I,rfl,q⟩
def af5{x T pos}(a:Gl X x)(b:X.mg x=none)(d:bootBuiltins x=some (.type T))(e:x≠"__name__":=by decide)(c:Dbg x:=by decide):PE X (.Name x pos) (tC (.ty T)):=abd a b d rfl e c
def TyV(K:W.Frag)(H:Hp)(x:V)(t:Value):Prop:=TyOf K H x t\/∃a b,x=.ref a/\t=.type "tuple"/\SqT K H a b
def pH:bx X (.builtin "isinstance") λf H Q=>∃x T t b,f=[x,.ty T]/\TyV X.K H x t/\W.kitOne X.K t (.type T)=some b/\Q (.bl b) H:=by
 intro c s n H f m Q I r h;obtain⟨x,T,t,b,rfl,ty,e,q⟩:=h;obtain⟨u,v,rfl,d,g⟩:=vals2 r;cases g;rcases ty with ty|⟨a,p,rfl,rfl,j⟩;.exact vO I d ty e λtk=>⟨.bl b,H,I.tok _,rfl,q⟩
 .cases d;obtain⟨i,_,⟨o,k,l,_⟩,_⟩:=I.tuple j;exact ajc W.kitx_tuple I.kIn ⟨o,k,l⟩ e (λz=>nomatch z) λtk=>⟨.bl b,H,I.tok _,rfl,q⟩
end
abbrev St3:=Int×Int×Int
def au{H p}(h:H p=none)(o):av H (upd H p o):=λb u q=>by rw[ae (aD q h)];exact q
end L2
set_option autoImplicit true
set_option relaxedAutoImplicit true
namespace L2
open PySem PySem.Spec PyProof.Rows
section
variable{prog:Program}{w:World}{A:Around}{E:Value->Shared->Prop}{s:Shared}
def sd{it t i its x Q}(a:s.heap.IsTupleIter it t i)(h:s.heap.IsTuple t its)(g:its[i]?=some x)(k:∀f,f.IsTupleIter it t (i+1)->Heap.SameBut it s.heap f->Q x {s with heap:=f}):wpAny (model prog w) A (Builtin.SmallTypes.nextOf (.ref it)) Q E s:=by refine gD (id a) λo c j b=>?_;obtain⟨l,e,_,m,d⟩:=h;unfold Builtin.SmallTypes.nextOf;refine aif (ajh a.typeIs ajp (aji ajp a.typeIs akH ?_ (akD _)));show wpAny _ _ (field (.ref it) 0 >>=_) _ _ s;refine aif (aiF c b (x:=.ref t) rfl ?_);refine aif (aiF c b (x:=.int i 0) rfl ?_);refine aif (alj e d ?_);simp only[akb,g];refine aif (ajr c b (by simp) (aio ⟨x,rfl,aio (k _ ?_ (Heap.SameBut.update ..))⟩));exact⟨_,ai1 _ c (akm (ajB b _)),(Obj.cls_mapFields ..).trans j,by rw[ajB b];simp[rawInt]⟩
def vv  (n:A.handled=none)(b:s.heap.IsTupleIter it t i)(k:s.heap.IsTuple t its)(j:its[i]?=none)(l:∀c e,Heap.ExtBut it s.heap c->(∃o,c.get? e=some o/\o.cls=.type "StopIteration")->E (.ref e) {s with heap:=c}):wpAny (model prog w) A (Builtin.SmallTypes.nextOf (.ref it)) Q E s:=by refine gD (id b) λo g q f=>?_;obtain⟨r,h,_,p,d⟩:=k;unfold Builtin.SmallTypes.nextOf;refine aif (ajh b.typeIs ajp (aji ajp b.typeIs akH ?_ (akD _)));show wpAny _ _ (field (.ref it) 0 >>=_) _ _ s;refine aif (aiF g f (x:=.ref t) rfl ?_);refine aif (aiF g f (x:=.int i 0) rfl ?_);refine aif (alj h d ?_);simp only[akb,j];refine aif (wpAny_rule (aif (ajr g f (by simp) ?_)));refine aif ?_;refine aif (m:=firstArgMember _ _) (wpAny_of_eq (a:=Value.none) (rfl) ?_);refine aka ?_ (by size_fits);refine aif (wpAny_handled ?_);rw[n];refine aif (aio (wpAny_throw ?_));exact l _ _ (((Heap.SameBut.update ..).extBut.push _).push _) ⟨_,ais _ rfl,rfl⟩
def sI{e it t}{i:Nat}{its x c Q}(z:IsEnum s.heap e it i c)(T:s.heap.IsTupleIter it t i)(Z:s.heap.IsTuple t its)(hx:its[i]?=some x)(a:e≠it)(hQ:∀v,IsEnumOut v e it (i+1) x s.heap.objs.size->v.IsTupleIter it t (i+1)->v.get? s.heap.objs.size=some {cls:=.type "tuple",data:=.seq #[.int i s.toks,x]}->(∀b o,b≠e->b≠it->s.heap.get? b=some o->v.get? b=some o)->Q (some (.ref s.heap.objs.size)) {s with heap:=v,toks:=s.toks+1}):wpAny (model prog w) A (pyNext (.ref e)) Q E s:=by
 have Y:s.TypeIs (.ref e) "enumerate":=⟨_,z,rfl⟩;unfold pyNext;refine aif (akL (ajh (name:=Str.ofString "__next__") Y ajI (aji ajI Y F.entry_enumerate_next ?_ (F.args_enumerate_next_1 _))));obtain⟨k,g,d,tk,os⟩:=s;show wpAny _ _ (field (.ref e) 2 >>=_) _ _ _;refine aif (aiF z rfl (x:=.ref it) rfl ?_);refine aif (sd T Z hx λh D p=>?_);replace p:Heap.SameBut it k h:=p;have K:IsEnum h e it i c:=(p.2 e a).trans z;show wpAny _ _ (field (.ref e) 3 >>=_) _ _ ⟨h,g,d,tk,os⟩;refine aif (aiF K rfl (x:=rawInt i) rfl ?_);show wpAny _ _ (field (.ref e) 4 >>=_) _ _ ⟨h,g,d,tk,os⟩;refine aif (aiF K rfl (x:=.none) rfl ?_);show wpAny _ _ (mkInt i >>=_) _ _ ⟨h,g,d,tk,os⟩;refine aif (wpAny_mkInt ?_);refine aif (ajC K (by simp) λB O l=>?_);replace l:Heap.SameBut e h B:=l;replace O:IsEnum B e it ((i:Int)+1) c:=O;show wpAny _ _ (setField (.ref e) 4 .none >>=_) _ _ ⟨B,g,d,tk+1,os⟩;refine aif (ajC O (by simp) λj P u=>?_);replace u:Heap.SameBut e B j:=u;replace P:IsEnum j e it ((i:Int)+1) c:=P;show wpAny _ _ (newTuple [.int i tk,x]>>=_) _ _ ⟨j,g,d,tk+1,os⟩;refine aif (wpAny_newTuple ?_);have y:IsEnum (j.push {cls:=.type "tuple",data:=.seq #[.int i tk,x]}) e it ((i:Int)+1) c:=aih _ P;generalize q4:j.push {cls:=.type "tuple",data:=.seq #[.int i tk,x]}=h4 at y;have X:j.objs.size=k.objs.size:=by rw[u.1,l.1,p.1]
 have J:=air z;have t4:h4.get? k.objs.size=some {cls:=.type "tuple",data:=.seq #[.int i tk,x]}:=by rw[<-q4,<-X];exact ais _ rfl
 have k4:∀b o,b≠e->b≠it->k.get? b=some o->h4.get? b=some o:=λb o f C M=>by rw[<-q4];exact aih _ (u.extBut b o f (l.extBut b o f (p.extBut b o C M)))
 have H:h4.IsTupleIter it t (i+1):=by rw[<-q4];refine dh ((D.extBut l.extBut (aiu a)).extBut u.extBut (aiu a)) λo ho r=>?_;exact⟨o,aih _ ho,r⟩
 show wpAny _ _ (Builtin.SmallTypes.ownedTupleIsFree (.ref e)>>=_) _ _ ⟨h4,g,d,tk+1,os⟩;rw[X];refine aif ?_;unfold Builtin.SmallTypes.ownedTupleIsFree;refine aif (aiF y rfl (x:=.none) rfl (aio ?_));simp only[aj5];refine aif (wpAny_rule ?_);refine aif (aiF y rfl (x:=c) rfl ?_);refine aif (ajC y (by simp) λI R m=>?_);replace m:Heap.SameBut e h4 I:=m;replace R:IsEnum I e it ((i:Int)+1) x:=R;refine aif ?_;unfold Builtin.SmallTypes.ownedTupleHandOut;refine aif (ajC R (by simp) λG N n=>?_);replace n:Heap.SameBut e I G:=n;replace N:IsEnumOut G e it ((i:Int)+1) x k.objs.size:=N;refine ajC N (by simp) λU S q=>?_;replace q:Heap.SameBut e G U:=q;replace S:IsEnumOut U e it ((i:Int)+1) x k.objs.size:=S;refine aif (wpAny_letGo (aio ⟨_,rfl,aio (hQ U S ?_ ?_ ?_)⟩));.exact((H.extBut m.extBut (aiu a)).extBut n.extBut (aiu a)).extBut q.extBut (aiu a)
 .exact q.extBut _ _ (aiW J) (n.extBut _ _ (aiW J) (m.extBut _ _ (aiW J) t4))
 .exact λb o f C M=>q.extBut b o f (n.extBut b o f (m.extBut b o f (k4 b o f C M)))
def wm{e it t}{i:Nat}{its b Q}(n:A.handled=none)(g:IsEnum s.heap e it i b)(d:s.heap.IsTupleIter it t i)(j:s.heap.IsTuple t its)(h:its[i]?=none)(p:∀c,Heap.ExtBut it s.heap c->Q none {s with heap:=c}):wpAny (model prog w) A (pyNext (.ref e)) Q E s:=by have f:s.TypeIs (.ref e) "enumerate":=⟨_,g,rfl⟩;refine aif (akL (ajh f ajI (aji ajI f F.entry_enumerate_next ?_ (F.args_enumerate_next_1 _))));show wpAny _ _ (field (.ref e) 2 >>=_) _ _ _;refine aif (aiF g rfl rfl ?_);refine aif (vv n d j h λc x k a=>?_);refine dh a λo l m=>?_;refine aif (wpAny_isInstance ⟨o,l,m⟩ isSubtype_stop ?_);exact aio (p _ k)
end
section
open PySem.AutoSeq1(wpAny_loadPart')
def wj(l)(its)(n)(a)(sl):Meets (Builtin.«enumerate.__new__» ⟨[.type "enumerate",.ref l],[]⟩) λ_ R s=>s.heap.get? l=some {cls:=.type "tuple",dict:=a,data:=.seq its n,slots:=sl}/\R (.ok (.ret (.ref (s.heap.push {cls:=.type "tuple_iterator",data:=.fields #[.ref l,.int 0 0]}).objs.size))) {s with heap:=(s.heap.push {cls:=.type "tuple_iterator",data:=.fields #[.ref l,.int 0 0]}).push {cls:=.type "enumerate",data:=.fields #[.none,.bool false,.ref s.heap.objs.size,rawInt 0,.none,.none]}}:=.of_wp λe w A R s h=>by obtain⟨c,h⟩:=h;have d:=sub_enumerate;have f:Heap.IsTuple _ l its:=⟨_,c,rfl,n,rfl⟩;wp_walk using wpAny_loadPart' c;refine wpAny_stack_any λst=>aio ?_;generalize Builtin.SmallTypes.calledThroughType.match_1 (λ_=>Bool) _ _ _=b;cases b<;>(wp_walk using wpAny_loadPart' c,wpAny_pyIter_tuple f;exact⟨_,rfl,h⟩)
variable{prog:Program}{w:World}{A:Around}{E:Value->Shared->Prop}{s:Shared}
def sW{l its Q}(j:s.heap.IsTuple l its)(h:∀a,IsEnum a (s.heap.objs.size+1) s.heap.objs.size 0 .none->a.IsTupleIter s.heap.objs.size l 0->(∀b o,s.heap.get? b=some o->a.get? b=some o)->Q (.ref (s.heap.objs.size+1)) {s with heap:=a}):wpAny (model prog w) A (call (.type "enumerate") [.ref l]) Q E s:=by
 obtain⟨⟨c,d,q,k⟩,m,f,n,p⟩:=j;replace f:c=.type "tuple":=f;subst f p;refine callType_new F.called_enumerate (by decide) (F.typeCall_enumerate_1 _) (F.newCall_enumerate_1 _) (λe=>F.args_object_init_2 e _) F.entry_enumerate_new (wj l its n d k) ⟨m,?_⟩;have g:(s.heap.push {cls:=.type "tuple_iterator",data:=.fields #[.ref l,.int 0 0]}).objs.size=s.heap.objs.size+1:=akB ..;show _/\_;rw[g];have i:=by have z:=ais (s.heap.push {cls:=.type "tuple_iterator",data:=.fields #[.ref l,.int 0 0]}) (o:={cls:=.type "enumerate",data:=.fields #[.none,.bool false,.ref s.heap.objs.size,rawInt 0,.none,.none]}) rfl;rw[g]at z;exact z
 exact⟨⟨_,i,rfl⟩,h _ i ⟨_,aih _ (ais _ rfl),rfl,rfl⟩ λb o x=>aih _ (aih _ x)⟩
end
def Inv.uf    (I:Inv X pins σ H s)(k:∀c o,c≠a->c≠b->s.heap.get? c=some o->h'.get? c=some o)(h:rg X pins H a)(g:rg X pins H b):Inv X pins σ H {s with heap:=h',toks:=t'}:=by
 have i:∀c u,H c=some u->c≠a/\c≠b:=λc u e=>⟨aD e h.1,aD e g.1⟩;have f:∀{c:Addr},c∉[a,b]->c≠a/\c≠b:=λ{c}d=>⟨λz=>d (by simp[z]),λz=>d (by simp[z])⟩;refine I.step (d':=s.drawn) (λc d=>?_) (λc o _ _ d e _=>k c o (f d).1 (f d).2 e) (λc o _ _ d e _=>⟨o.slots,k c o (f d).1 (f d).2 e⟩) (λ_ _ _ _ n=>n) (λc o d e=>⟨o,k c o (f d).1 (f d).2 e⟩) (λ_ _ e=>e) (λ_ _ _ e=>e) (λc y e=>⟨#[],by rw[e];simp⟩) (λm p=>?_) (λc u e=>?_) I.bare
 .have l:c=a\/c=b:=by simpa using d
  rcases l with rfl|rfl;.exact⟨h.2.2.2.1,h.2.1,h.2.2.2.2.1,h.2.2.2.2.2⟩
  .exact⟨g.2.2.2.1,g.2.1,g.2.2.2.2.1,g.2.2.2.2.2⟩
 .refine pO p λo t x w r=>?_;exact xA o t x (k _ o (aiu h.2.1) (aiu g.2.1) w) r
 .refine(I.hok c u e).n6 (λj v d q=>k j v ?_ ?_ q) (λ_ q=>q) λ_ _ q=>q
  .rcases d with z|z;.rw[z];exact(i c u e).1
   .exact(i j _ z).1
  .rcases d with z|z;.rw[z];exact(i c u e).2
   .exact(i j _ z).2
def Ite(K:W.Frag)(a:Addr):It:=⟨λi H=>∃b x,SqT K H a b/\b[i]?=some x,λi H x c=>∃p,x=.ref p/\H p=none/\∀b,SqT K H a b->∃y,b[i]?=some y/\c=upd H p (.tup [.int i,y]),λi H=>∃b,SqT K H a b/\b.length<=i⟩
def rA{P:Program}{w:World}{K:W.Frag}{es:List Expr}{k:Nat}{pos:Pos}(a e it:Addr)(hne:e≠it):Turn P w K (.Tuple es k pos) (Ite K a) [e,it] e λi h=>(∃old,IsEnum h e it i old)/\h.IsTupleIter it a i where
 mem:=by simp
 obj:=λi h st b hb=>by
  obtain⟨⟨old,he⟩,o,ho,hc,hd⟩:=st;have hb':b=e\/b=it:=by simpa using hb
  rcases hb' with rfl|rfl;.exact⟨_,he,λv z=>by cases z⟩
  .exact⟨o,ho,λv z=>by rw[hd]at z;cases z⟩
 keep:=λi h h' st kk=>by obtain⟨⟨old,he⟩,o,ho,r⟩:=st;exact⟨⟨old,kk e (by simp) _ he⟩,o,kk it (by simp) o ho,r⟩
 item:=by
  intro X hP hw hK i pins s σ H E hc I hf st hg;subst hP hw hK;obtain⟨⟨old,he⟩,hit⟩:=st;obtain⟨xs,x,hq,hx⟩:=hg;obtain⟨its,rv,p,hz⟩:=I.tuple hq;obtain⟨u,hu,ru⟩:=rv.get hx;have fe:=hf e (by simp);have fi:=hf it (by simp);refine sI he hit (show s.heap.IsTuple a its.toArray from p) (x:=u) (by simpa using hu) hne λh' eo it' tp kp=>?_;have I1:=I.uf (t':=s.toks+1) kp fe fi;have hfr:=I.hok.fresh (aim _);have hnT:∀b o,s.heap.get? b=some o->b≠s.heap.objs.size:=λb o q=>aix (air q);have I2:Inv X pins σ (upd H s.heap.objs.size (.tup [.int i,x])) {s with heap:=h',toks:=s.toks+1}:=by
   refine I1.ui hfr I.sz (aiW I.lt) (λy c q=>?_) (λpp hp=>hnT _ _ (I.pin pp hp).1) ⟨by show 2<=sizeLine;decide,[.int i s.toks,u],.cons ⟨_,rfl⟩ (.cons ru .nil),?_⟩;.obtain⟨v,z⟩:=I.cell y c q;exact aix z.lt
   .exact⟨_,tp,rfl,0,rfl⟩
  refine⟨_,rfl,akM (s:={s with heap:=h',toks:=s.toks+1}) eo λh2 e2 s2=>?_⟩;have hTe:=aiu (hnT _ _ he);obtain⟨o1,ho1,_⟩:=hit;have hTi:=aiu (hnT _ _ ho1);refine⟨.ref s.heap.objs.size,upd H s.heap.objs.size (.tup [.int i,x]),?_,rfl,⟨_,rfl,hfr,λys hy=>⟨x,by rw[I.l9 hy hq];exact hx,rfl⟩⟩,⟨⟨_,e2⟩,?_⟩,λb hb=>?_⟩;.exact I2.turned (t':=s.toks+1) (it:=e) (λb o hb q=>(s2.2 b hb).trans q) (by rw[ae (aiu hTe)];exact fe.1) fe.2.1 fe.2.2.2.1 fe.2.2.2.2.1 fe.2.2.2.2.2
  .exact it'.extBut s2.extBut (aiu hne)
  .have hb':b=e\/b=it:=by simpa using hb
   rcases hb' with rfl|rfl;.rw[ae (aiu hTe)];exact fe.1
   .rw[ae (aiu hTi)];exact fi.1
 done:=by intro X hP hw hK i pins s σ H E hc I hf st hg;subst hP hw hK;obtain⟨⟨old,he⟩,hit⟩:=st;obtain⟨xs,hq,hx⟩:=hg;obtain⟨its,rv,p,hz⟩:=I.tuple hq;have fi:=hf it (by simp);have hl:=rv.length;exact wm (I.ok.hd hc) he hit (show s.heap.IsTuple a its.toArray from p) (by simp;omega) λh' eb=>⟨rfl,I.turned (t':=s.toks) (λb o hb q=>eb b o hb q) fi.1 fi.2.1 fi.2.2.2.1 fi.2.2.2.2.1 fi.2.2.2.2.2⟩
 self:=λ_ _ _ _ _ h0_ h=>by obtain⟨⟨_,he⟩,_⟩:=h0_;exact akc he h
section
variable{X:Cx}
def y9(K:W.Frag)(d:TE):TI:=λc H R=>d c H λx b=>∃a,x=.ref a/\(∃e,SqT K b a e)/\R (Ite K a) b
end
end L2
namespace L2
open PySem PySem.Spec PyProof.Rows
section
variable{κ:Type}[DecidableEq κ]
noncomputable def kM(a:List (κ×V))(k:κ):Option V:=(a.find? λb=>decide (b.1=k)).map (·.2)
noncomputable def putK(a:List (κ×V))(k:κ)(v:V):List (κ×V):=if(a.any λb=>decide (b.1=k))=true then a.map λb=>if b.1=k then(b.1,v)else b else a++[(k,v)]
def cq{p r}{k:κ}(e:p.1=k):kM (p::r) k=some p.2:=by simp[kM,e]
def cu{p r}{k:κ}(e:¬p.1=k):kM (p::r) k=kM r k:=by simp[kM,e]
theorem hJ(k):∀a:List (κ×V),(a.any λb=>decide (b.1=k))=(kM a k).isSome
|[]=>rfl|p::r=>by
 rw[List.any_cons];by_cases e:p.1=k;.simp [cq e,akz e]
 .rw[cu e,ai3 e];exact hJ k r
theorem l8(k j:κ)(y:V):∀a:List (κ×V),kM a k=none->kM (a++[(k,y)]) j=if j=k then some y else kM a j
|[],_=>by
 by_cases e:k=j;.rw[aij e.symm];exact cq (p:=(k,y)) e
 .rw[aik λz=>e z.symm];exact cu (p:=(k,y)) e|p::r,hn=>by
 rw[ajN];have b:¬p.1=k:=λz=>by rw[cq z]at hn;cases hn
 rw[cu b]at hn;have c:=l8 k j y r hn;by_cases e:p.1=j;.rw[cq e,cq e,aik λz=>b (e.trans z)]
 .rw[cu e,cu e,c]
def eU(a)(k:κ)(v):(putK a k v).length<=a.length+1:=by
 unfold putK;split;.rw[aiR];omega
 .rw[aiM,ait,ajm];omega
def yj{a:List (κ×V)}{k:κ}(v:V)(h:kM a k=none):putK a k v=a++[(k,v)]:=by unfold putK;rw[hJ,h];exact aik (by decide)
def n8.i8{o u}(r:n8 o u):o.isSome=u.isSome:=by cases o with
|none=>cases u with|none=>rfl|some _=>exact(r).elim
|some _=>cases u with|none=>exact(r).elim|some _=>rfl
def KV.val{a vs}(r:KV a vs)(k:κ):n8 (kM a k) (valueAt vs k):=by induction r with|nil=>exact True.intro|@cons p q ps qs h t ih=>
 obtain⟨c,f⟩:=h;by_cases e:p.1=k
 .have b:valueAt (q::qs) k=some q.2:=by simp[valueAt,c.symm.trans e]
  rw[cq e,b];exact f
 .have d:¬q.1=k:=λz=>e (c.trans z);have b:valueAt (q::qs) k=valueAt qs k:=by simp[valueAt,d]
  rw[cu e,b];exact ih
theorem KV.any{a vs}(r:KV a vs)(k:κ):(a.any λb=>decide (b.1=k))=vs.any λb=>decide (b.1=k):=by induction r with|nil=>rfl|cons h t ih=>rw[List.any_cons,List.any_cons,ih,h.1]
def KV.afX{b vs}(r:KV b vs)(k:κ){y u}(d:RelV y u):KV (b.map λa=>if a.1=k then(a.1,y)else a) (vs.map λa=>if a.1=k then(a.1,u)else a):=by induction r with|nil=>exact .nil|@cons p q ps qs h t ih=>
 rw[aiC,aiC];refine .cons ?_ ih;obtain⟨c,f⟩:=h;by_cases e:p.1=k;.rw[aij e,aij (c.symm.trans e)];exact⟨c,d⟩
 .rw[aik e,aik λz=>e (c.trans z)];exact⟨c,f⟩
def KV.put{a vs}(r:KV a vs)(k:κ){y u}(b:RelV y u):KV (putK a k y) (stored vs k u):=by
 unfold putK stored;rw[r.any k];by_cases e:(vs.any λc=>decide (c.1=k))=true;.rw[aij e,aij e];exact r.afX k b
 .rw[aik e,aik e];exact Paired.snoc r ⟨rfl,b⟩
theorem KV.length{a}{vs:List (κ×Value)}(r:KV a vs):a.length=vs.length:=Paired.length r
end
def vL{P w}:∀{k u},RelV (kV k) u->(bp P w).is k u=true|.inl (some i),u,r=>by obtain⟨t,e⟩:=r;subst e;exact o3 P w i t|.inl none,u,r=>by cases r;rfl|.inr x,u,r=>by obtain⟨t,e⟩:=r;subst e;exact oZ P w x t
def adf{P w k u}(h:(bp P w).is k u=true):RelV (kV k) u:=by
 rcases aP h with⟨i,t,rfl,rfl⟩|⟨x,t,rfl,rfl⟩|⟨rfl,rfl⟩;.exact⟨t,rfl⟩
 .exact⟨t,rfl⟩
 .rfl
theorem nh{P w}:∀{ks us},Vals (ks.map kV) us->ItemsAre (bp P w) ks us|[],_,r=>by cases r;exact .nil|k::ks,_,r=>by cases r with|cons h t=>exact .cons (vL h) (nh t)
abbrev KT(H:Hp):List (List Key×V)->List (List Key×Addr×Value)->Prop:=Paired λp q=>p.1=q.1/\H q.2.1=some (.tup (p.1.map kV))/\RelV p.2 q.2.2
def KT.val{H a xs}(r:KT H a xs)(k):n8 (kM a k) ((atKey xs k).map (·.2)):=by induction r with|nil=>exact True.intro|@cons p q ps qs h t ih=>
 refine aak h λc _ f=>?_;by_cases e:p.1=k
 .have b:atKey (q::qs) k=some q.2:=by simp[atKey,c.symm.trans e]
  rw[cq e,b];exact f
 .have d:¬q.1=k:=λz=>e (c.trans z);have b:atKey (q::qs) k=atKey qs k:=by simp[atKey,d]
  rw[cu e,b];exact ih
def KT.afX{H a xs}(r:KT H a xs)(k){y u}(f:RelV y u):KT H (a.map λc=>if c.1=k then(c.1,y)else c) (xs.map (putAt k u)):=by induction r with|nil=>exact .nil|@cons p q ps qs h t ih=>
 rw[aiC];refine .cons ?_ ih;refine aak h λb d g=>?_;unfold putAt;by_cases e:p.1=k;.rw[aij e,aij (b.symm.trans e)];exact⟨b,d,f⟩
 .rw[aik e,aik λz=>e (b.trans z)];exact⟨b,d,g⟩
def KT.put{H a xs}(r:KT H a xs)(k){b y u}(f:H b=some (.tup (k.map kV)))(c:RelV y u):KT H (putK a k y) (storedH xs k b u):=by
 have e:(a.any λd=>decide (d.1=k))=(atKey xs k).isSome:=by rw[hJ,(r.val k).i8,Option.isSome_map]
 unfold putK storedH;rw[e];by_cases q:(atKey xs k).isSome=true;.rw[aij q,aij q];exact r.afX k c
 .rw[aik q,aik q];exact Paired.snoc r ⟨rfl,f,c⟩
def KT.keeps{H H' a xs}(r:KT H a xs)(d:∀b c,H b=some (.tup c)->H' b=some (.tup c)):KT H' a xs:=Paired.agw r λ_ _ z=>⟨z.1,d _ _ z.2.1,z.2.2⟩
section
variable{P:Program}{w:World}{H:Hp}{h:Heap}{a:Addr}
def adh{u}(ok:HOk P w H h)(e:Rd H a u):bL P w H h a u:=e.ok ok
def zo{b}(ok:HOk P w H h)(e:Rd H a (.dK b)):b.length<=sizeLine/\(a==sysModules)=false/\∃c,KV b c/\h.DictOf (bp P w) a c:=adh ok e
def aeH{b}(ok:HOk P w H h)(e:H a=some (.dK b)):b.length<=sizeLine/\(a==sysModules)=false/\∃c,KV b c/\h.DictOf (bp P w) a c:=zo ok (.inl e)
def kj{ks}(ok:HOk P w H h)(e:H a=some (.tup (ks.map kV))):(tupleKind (bp P w)).is h ks a:=by obtain⟨_,b,r,o,c,f,n,d⟩:=ok a _ e;exact⟨o,_,n,c,f,d,by simpa using nh r⟩
def aeF{b}(ok:HOk P w H h)(e:Rd H a (.dT b)):b.length<=sizeLine/\(a==sysModules)=false/\∃d,KT H b d/\h.DictOfH (tupleKind (bp P w)) a d:=by
 obtain⟨z,y,d,r,o,g,n,j,s,k,f,i⟩:=adh ok e;refine⟨z,y,d,r,o,g,n,j,s,k,f,λx c=>?_,i⟩;have all:∀{l}{m},KT H l m->∀x∈m,(tupleKind (bp P w)).is h x.1 x.2.1:=by intro l m q;induction q with|nil=>intro x c;exact nomatch c|@cons p q ps qs hq t ih=>
   intro x c;rcases aiO.mp c with e|c;.exact kj ok (by grind)
   .exact ih x c
 exact all r x c
def agL{b}(ok:HOk P w H h)(e:H a=some (.dT b)):b.length<=sizeLine/\(a==sysModules)=false/\∃c,KT H b c/\h.DictOfH (tupleKind (bp P w)) a c:=aeF ok (.inl e)
end
def ahz(H:Hp)(a:Addr)(y:V)(r:Option V):Prop:=(∃c k,Rd H a (.dK c)/\y=kV k/\r=kM c k)\/∃c k b,Rd H a (.dT c)/\y=.ref b/\H b=some (.tup (k.map kV))/\r=kM c k
def aeS(H:Hp)(a:Addr)(y v:V)(H':Hp):Prop:=(∃c k,H a=some (.dK c)/\y=kV k/\c.length<sizeLine/\H'=upd H a (.dK (putK c k v)))\/∃c k b,H a=some (.dT c)/\y=.ref b/\H b=some (.tup (k.map kV))/\c.length<sizeLine/\H'=upd H a (.dT (putK c k v))
theorem aeS.k{H a b k v}(e:H a=some (.dK b))(c:b.length<sizeLine):aeS H a (kV k) v (upd H a (.dK (putK b k v))):=.inl ⟨_,k,e,rfl,c,rfl⟩
section
variable{X:Cx}{pins:List (Addr×Obj)}{σ:St}{H:Hp}{s:Shared}{a:Addr}{y v:V}{u r:Value}{o:Option V}{A:Around}{E:Value->Shared->Prop}
def Inv.big(I:Inv X pins σ H s):sysModules<s.heap.objs.size:=by exact Nat.lt_trans (by decide) (I.mod.glob.keeps I.bk).lt
def abW{Q}(t:A.units+1<cLine)(I:Inv X pins σ H s)(g:ahz H a y o)(m:RelV y u)(h:∀n,Inv X pins σ H n->Q (.bool !o.isSome) n):wpAny (model X.prog X.w) A (compareOp .NotIn u (.ref a)) Q E s:=by
 rcases g with⟨d,k,e,f,l⟩|⟨d,k,b,e,f,p,l⟩;.subst f;obtain⟨z,j,w,c,i⟩:=zo I.hok e;refine wpAny_notIn_of (vL m) j i.mapOf ?_;rw[<-(c.val k).i8,<-l];exact h _ (I.tok _)
 .subst f;cases m;obtain⟨z,j,x,c,i⟩:=aeF I.hok e;refine wpAny_notIn_heap (tupleKind_room_in1 t) (kj I.hok p) j i ?_;have q:=(c.val k).i8;rw[Option.isSome_map]at q;rw[<-q,<-l];exact h _ (I.tok _)
def lI{h' t' ob}(I:Inv X pins σ H s)(d:Mut (H a))(e:Heap.SameBut a s.heap h')(c:∃q,h'.get? a=some q)(new:bL X.prog X.w (upd H a ob) h' a ob):Inv X pins σ (upd H a ob) {s with heap:=h',toks:=t'}:=I.write  d (.inl rfl) (λb q f z=>(e.2 b f).trans z) c new
def aae{P w H' h' b vs}(z:b.length<=sizeLine)(d:(a==sysModules)=false)(c:KV b vs)(dd:h'.DictOf (bp P w) a vs):bL P w H' h' a (.dK b):=⟨z,d,vs,c,dd⟩
def wG{H' Q}(Z:A.units+1<cLine)(I:Inv X pins σ H s)(g:aeS H a y v H')(C:RelV y u)(J:RelV v r)(h:∀D,Inv X pins σ H' D->Q () D):wpAny (model X.prog X.w) A (setItem (.ref a) u r) Q E s:=by
 rcases g with⟨d,k,e,w,l,t⟩|⟨d,k,b,e,w,M,l,t⟩
 .subst w t;obtain⟨z,x,N,f,p⟩:=aeH I.hok e;have n:N.length<=sizeLine:=by rw[<-f.length];exact z
  have B:(putK d k v).length<=sizeLine:=by have:=eU d k v;omega
  refine wpAny_setItem_pairs (hsz:=n) (vL C) p λK i m=>h _ ?_;have P:∃q,K.get? a=some q:=let⟨q,_,_,j,_⟩:=i;⟨q,j⟩;exact lI I (by rw[e];exact True.intro) m P (aae B x (f.put k J) i)
 .subst w t;cases C;obtain⟨z,x,S,f,p⟩:=agL I.hok e;have n:S.length<=sizeLine:=by rw[<-Paired.length f];exact z
  have B:(putK d k v).length<=sizeLine:=by have:=eU d k v;omega
  refine wpAny_setItem_heap (hsz:=n) (tupleKind_room_in1 Z) (kj I.hok M) p λK i m=>h _ ?_;obtain⟨q,U,R,j,h2,Y,T,_,O⟩:=i;refine lI I (by rw[e];exact True.intro) m ⟨q,j⟩ ⟨B,x,_,(f.put k M J).keeps λc ys G=>?_,q,U,R,j,h2,Y,T,O⟩;rw[ae (agu G e λz=>nomatch z)];exact G
end
section
variable{X:Cx}{pins:List (Addr×Obj)}{σ:St}{H:Hp}{s:Shared}{a:Addr}{kvs:List (Key×V)}{k:Key}{u:Value}{A:Around}{E:Value->Shared->Prop}
def agN{Q}(I:Inv X pins σ H s)(e:Rd H a (.dK kvs))(h:∀t c,Inv X pins σ H c->Q (.int kvs.length t) c):wpAny (model X.prog X.w) A (call (.builtin "len") [.ref a]) Q E s:=by obtain⟨z,f,g,b,d⟩:=zo I.hok e;refine call_len_dict f d (by rw[<-b.length];rw[ajS]at z;omega) ?_;rw[<-b.length];exact h _ _ (I.tok _)
end
def afV(e ty tv:TE):TS:=λD b H=>tv b H λv f=>e b f λx g=>ty b g λy d=>∃a c,x=.ref a/\aeS d a y v c/\D.nx b c
section
variable{X:Cx}{o i e value:Expr}{pos pos' tpos:Pos}{td ty tv:TE}
def aa5(C:X.A.units+1<cLine)(E:PE X o td)(z:PE X i ty)(p:PE X value tv)(k:swapsWith value (some (.Subscript o i pos')) pos.line X.env=pure false):PS X (.Assign [.Subscript o i pos'] value pos) (afV td ty tv):=by intro c s b H D I h;refine wpAny_Assign_Subscript (thn (p _ s b H _ I h) λr M⟨v,J,l,A,w⟩=>thn (E _ _ b _ _ l w) λu G⟨x,Q,t,n,B⟩=>thn (z _ _ b _ _ t B) λK N⟨y,P,m,d,a,j,ex,g,f⟩=>?_) k;subst ex;obtain rfl:=n;exact wG C m g d A λO q=>⟨b,j,q,f⟩
end
def qV{P w H}(h:Heap)(a:sysModules<h.objs.size):bL P w H (h.push {cls:=.type "dict",data:=.dict #[]}) h.objs.size (.dK []):=⟨aiN _,ai9.mpr (aiu (aix a)),[],.nil,Heap.DictOf.new h⟩
def acY:TE:=λ_ H Q=>∀p,H p=none->Q (.ref p) (upd H p (.dK []))
section
variable{X:Cx}{pos:Pos}
def yw:PE X (.Dict [] [] pos) acY:=λa s b H Q I h=>wpAny_Dict_empty ⟨.ref _,_,I.laid  (λ_ _ q=>aih _ q) (aim _) (qV _ I.big),rfl,h _ (I.hok.fresh (aim _))⟩
end
def p7:List (TE×TE)->St->Hp->(List (V×V)->Hp->Prop)->Prop|[],_,H,Q=>Q [] H|(tk,tv)::r,σ,H,Q=>tk σ H λx c=>tv σ c λy d=>p7 r σ d λa b=>Q ((x,y)::a) b
abbrev VV:List (V×V)->List (Value×Value)->Prop:=Paired λp q=>RelV p.1 q.1/\RelV p.2 q.2
def PPs(X:Cx)(pos:Pos)(keys:List (Option Expr))(a:List Expr)(d:List (TE×TE)):Prop:=∀(b:List (Addr×Obj))(s:Shared)(c:St)(H:Hp)(Q:List (V×V)->Hp->Prop),Inv X b c H s->p7 d c H Q->wpAny (model X.prog X.w) X.A (evalPairs (pairTrees keys a X.env pos)) (λg h=>∃f e,Inv X b c e h/\VV f g/\Q f e) X.xe s
def aa6{X:Cx}{pos:Pos}:PPs X pos [] [] []:=λa s b H Q I h=>pairTrees_nil_walk ⟨[],H,I,.nil,h⟩
def yn{X:Cx}{pos:Pos}{k v:Expr}{ks:List (Option Expr)}{vs:List Expr}{tk tv:TE}{b:List (TE×TE)}(w:PE X k tk)(p:PE X v tv)(l:PPs X pos ks vs b):PPs X pos (some k::ks) (v::vs) ((tk,tv)::b):=λa s c H Q I h=>pairTrees_cons_walk (thn (w a s c H _ I h) λu o⟨x,g,j,n,t⟩=>thn (p a o c g _ j t) λD f⟨y,A,q,e,B⟩=>thn (l a f c A _ q B) λws C⟨r,z,m,d,i⟩=>⟨(x,y)::r,z,m,.cons ⟨n,e⟩ d,i⟩)
def fH(b a:List (Key×V)):List (Key×V):=a.foldl (λc d=>putK c d.1 d.2) b
def KV.merge:∀{b:List (Key×V)}{c:List (Key×Value)}{a:List (Key×V)}{vs:List (Key×Value)},KV b c->KV a vs->KV (fH a b) (merged vs c):=by intro b c a vs r;unfold KV at r;induction r generalizing a vs with|nil=>intro q;exact q|@cons p q ps qs h t ih=>
 intro d;have e:KV (putK a p.1 p.2) (stored vs q.1 q.2):=by have:=d.put p.1 h.2;rw[<-h.1];exact this
 exact ih e
theorem fK:∀(b a:List (Key×V)),(fH a b).length<=a.length+b.length|[],a=>by show a.length<=a.length+0;omega|p::r,a=>by have d:=fK r (putK a p.1 p.2);have c:=eU a p.1 p.2;show(fH (putK a p.1 p.2) r).length<=_;rw[ait];omega
theorem kB{P:Program}{w:World}:∀{d:List (Key×V)}{ws:List (Value×Value)},VV (d.map λf=>(kV f.1,f.2)) ws->∃e,Carries (bp P w) ws e/\KV d e|[],_,r=>by rw[ala]at r;cases r;exact⟨[],True.intro,.nil⟩|p::d,_,r=>by rw[aiC]at r;cases r with|@cons a b as bs h t=>obtain⟨e,c,q⟩:=kB (P:=P) (w:=w) t;obtain⟨i,g⟩:=b;exact⟨(p.1,g)::e,⟨vL h.1,rfl,c⟩,.cons ⟨rfl,h.2⟩ q⟩
def afN(b:List (TE×TE)):TE:=λf H Q=>∀p,H p=none->p7 b f (upd H p (.dK [])) λe c=>c p=some (.dK [])/\∃a:List (Key×V),e=a.map (λd=>(kV d.1,d.2))/\a.length<=15/\Q (.ref p) (upd c p (.dK (fH [] a)))
def aba{X:Cx}{pos:Pos}{keys:List (Option Expr)}{b:List Expr}{g:List (TE×TE)}(h:PPs X pos keys b g)(j:keys.all (·.isSome)=true)(M:keys.length=b.length)(A:keys≠[])(k:keys.length<=15):PE X (.Dict keys b pos) (afN g):=by
 intro f s B H Q I q;have N:=I.hok.fresh (aim s.heap.objs.size);have t:=I.laid (a:=s.heap.objs.size) (o:=.dK []) (h':=s.heap.push {cls:=.type "dict",data:=.dict #[]}) (t':=s.toks) (λ_ _ q=>aih _ q) (aim _) (qV s.heap I.big);refine wpAny_Dict_walk (knd:=bp X.prog X.w) j M A k (thn (h f _ B _ _ t (q _ N)) λws O⟨S,T,m,l,e,i,y,R,G⟩=>?_);subst y;obtain⟨C,c,K⟩:=kB (P:=X.prog) (w:=X.w) l;obtain⟨z,J,n,p,x⟩:=aeH m.hok e;cases p;refine⟨C,c,x,λh' d r=>⟨.ref s.heap.objs.size,_,?_,rfl,G⟩⟩;have u:(fH [] i).length<=sizeLine:=by have E:=fK i [];rw[ajm]at E;rw[ajS];omega
 have v:∃q,h'.get? s.heap.objs.size=some q:=let⟨q,_,_,D,_⟩:=d;⟨q,D⟩;exact lI m (by rw[e];exact True.intro) r v (aae u J (K.merge .nil) d)
def Itd(a:Addr)(od:Obj)(b:List (Key×V)):It:=⟨λi H=>H a=some (.frz od (.dK b))/\i<b.length,λi H x c=>c=H/\∃p,b[i]?=some p/\x=kV p.1,λi H=>H a=some (.frz od (.dK b))/\b.length<=i⟩
section
variable{X:Cx}{pins:List (Addr×Obj)}{σ:St}{H:Hp}{s:Shared}{a:Addr}{kvs:List (Key×V)}{od:Obj}
def Inv.agE(I:Inv X pins σ H s)(e:H a=some (.frz od (.dK kvs))):(a==sysModules)=false/\∃c b d,KV kvs c/\od.data=.dict b d/\s.heap.DictAt (bp X.prog X.w) a c d:=by obtain⟨g,z,n,c,f,o,b,d,i,l,h,k,j,m⟩:=I.hok a _ e;rw[g]at i;cases i;exact⟨n,c,b,d,f,h,od,b,g,l,h,k,j,m⟩
def KV.get{kvs:List (Key×V)}{vs:List (Key×Value)}(r:KV kvs vs){i:Nat}{p:Key×V}(e:kvs[i]?=some p):∃q:Key×Value,vs[i]?=some q/\p.1=q.1/\RelV p.2 q.2:=by unfold KV at r;induction r generalizing i with|nil=>simp at e|cons h t ih=>cases i with|zero=>simp at e;subst e;exact⟨_,rfl,h⟩|succ i=>simpa using ih (by simpa using e)
end
def uh{P:Program}{w:World}{K:W.Frag}{tg:Expr}(a it:Addr)(od:Obj)(kvs:List (Key×V))(ep:Nat)(hep:∃es,od.data=.dict es ep):Turn P w K tg (Itd a od kvs) [it] it λi h=>h.IsKeyIter it a i kvs.length ep where
 mem:=by simp
 obj:=λi h st b hb=>by
  have e:b=it:=by simpa using hb
  subst e;obtain⟨o,e,c,d⟩:=st;exact⟨o,e,λv z=>by rw[d]at z;cases z⟩
 keep:=λi h h' st k=>st.at λo e=>k it (by simp) o e;item:=by intro X hP hw hK i pins s σ H E hc I hf st hg;subst hP hw hK;obtain⟨hq,hi⟩:=hg;obtain⟨hd,vs,es,ep',rel,hdat,hat⟩:=I.agE hq;obtain⟨es',he⟩:=hep;rw[hdat]at he;cases he;obtain⟨q,hx,hk,rq⟩:=rel.get (aiv hi);obtain⟨k,v⟩:=q;obtain⟨f0,f1,f2,f3,f4,f5⟩:=hf it (by simp);have hl:=rel.length;refine wpAny_pyNext_dict_item (show s.heap.IsKeyIter it a i vs.length ep by rw[<-hl];exact st) hat hx λkey h' hkey st' sb=>?_;have I1:Inv X pins σ H {s with heap:=h'}:=I.turned (t':=s.toks) (λb o hb e=>(sb.2 b hb).trans e) f0 f1 f3 f4 f5;obtain⟨o,e,c,d⟩:=id st';refine⟨key,rfl,sy (s:={s with heap:=h'}) e c d (by decide) ⟨kV kvs[i].1,H,I1,?_,⟨rfl,kvs[i],aiv hi,rfl⟩,by rw[hl];exact st',λb hb=>(hf b hb).1⟩⟩;rw[hk];exact adf hkey
 done:=by intro X hP hw hK i pins s σ H E hc I hf st hg;subst hP hw hK;obtain⟨hq,hi⟩:=hg;obtain⟨hd,vs,es,ep',rel,hdat,hat⟩:=I.agE hq;obtain⟨es',he⟩:=hep;rw[hdat]at he;cases he;obtain⟨f0,f1,f2,f3,f4,f5⟩:=hf it (by simp);have hl:=rel.length;exact wpAny_pyNext_dict_end (I.ok.hd hc) (show s.heap.IsKeyIter it a i vs.length ep by rw[<-hl];exact st) hat (by simp;omega) λh' eb=>⟨rfl,I.turned (t':=s.toks) (λb o hb e=>eb b o hb e) f0 f1 f3 f4 f5⟩
 self:=λ_ _ _ _ _ st h=>wpAny_pyIter_keyiter st h
def ahY(e:TE):TI:=λd H R=>e d H λx c=>∃a od b,x=.ref a/\c a=some (.frz od (.dK b))/\R (Itd a od b) c
def u9{X p l n}(C:PE X l n):PI X p l (ahY n):=by
 intro d s u H R I h;refine thn (C d s u H _ I h) λv m i=>?_;refine jP i λx r f A t=>?_;refine tj t λa od j e y q=>?_;subst e;cases A;obtain⟨B,D,z,w,k,c,g⟩:=f.agE y;refine wpAny_pyIter_dict B g (acr m.heap.objs.size [m.heap.objs.size] _ _ r rfl (f.kept λb o e=>aih _ e) (uh a _ od j w ⟨z,c⟩) ⟨_,ais _ rfl,rfl,by rw[k.length];rfl⟩ (λb E=>?_) q);have e:b=m.heap.objs.size:=by grind
 subst e;exact f.ack (aim _) (f.hok.fresh (aim _))
def Inv.aeu{X pins}{f:St}{H s a b}(I:Inv X pins f H s)(e:H a=some (.dK b)):∃od,Inv X pins f (upd H a (.frz od (.dK b))) s/\∀o u,X.H₀ a≠some (.frz o u):=by have ob:=I.hok a _ e;obtain⟨z,i,h,d,o,g,j,c,r⟩:=id ob;refine⟨o,lI  I (by rw[e];exact True.intro) (Heap.SameBut.refl ..) ⟨o,c⟩ ⟨c,z,i,h,d,o,g,j,c,r⟩,λk u z=>?_⟩;have:=I.base.frzs a _ u z;rw[e]at this;cases this
def Inv.vY{X pins}{h:St}{H s a d od}(I:Inv X pins h H s)(e:H a=some (.frz od (.dK d)))(m:∀o u,X.H₀ a≠some (.frz o u)):Inv X pins h (upd H a (.dK d)) s:=by
 have ob:=I.hok a _ e;have g:∀{b:Addr},H b=none->upd H a (.dK d) b=none:=λ{b}z=>by rw[ae λq=>by rw[q,e]at z;cases z];exact z
 refine⟨I.ok,I.os,I.bare,⟨I.base.keep,I.base.slot,λb o q n A=>g (I.base.free b o q n A),I.base.there,λb k q=>?_,λb o u q=>?_,λb l q=>?_⟩,I.loc,I.cell,g I.free,λx c q=>g (I.freeC x c q),λp w=>?_,λb u q=>?_,I.len⟩;.have z:=I.base.tups b k q;rw[ae λy=>by rw[y,e]at z;cases z];exact z
 .have z:=I.base.frzs b o u q;rw[ae λy=>by rw[y]at q;exact m _ _ q];exact z
 .obtain⟨f,z⟩:=I.base.tbls b l q;exact⟨f,by rw[ae λy=>by rw[y,e]at z;cases z];exact z⟩
 .refine aak (I.pin p w) λt B v=>?_;exact⟨t,g B,v⟩
 .have j:∀{b:Addr}{u:HO},bL X.prog X.w H s.heap b u->bL X.prog X.w (upd H a (.dK d)) s.heap b u:=λ{b u}x=>x.n6 (λ_ _ _ q=>q) (λc r=>by rw[ae λy=>by rw[y,e]at r;cases r];exact r) λc k r=>by rw[ae λy=>by rw[y,e]at r;cases r];exact r
  by_cases i:b=a;.subst i;rw[ah]at q;cases q;exact j ob.2
  .rw[ae i]at q;exact j (I.hok b u q)
def afr(K:W.Frag)(a:Addr):It:=⟨λi H=>∃b x,SqL K H a b/\b[i]?=some x,λi H x c=>∃p,x=.ref p/\H p=none/\∀b,SqL K H a b->∃y,b[i]?=some y/\c=upd H p (.tup [.int i,y]),λi H=>∃b,SqL K H a b/\b.length<=i⟩
def rB{P:Program}{w:World}{K:W.Frag}{es:List Expr}{k:Nat}{pos:Pos}(a e it:Addr)(hne:e≠it):Turn P w K (.Tuple es k pos) (afr K a) [e,it] e λi h=>(∃old,IsEnum h e it i old)/\h.IsListIter it a i where
 mem:=by simp
 obj:=λi h st b hb=>by
  obtain⟨⟨old,he⟩,o,ho,hc,hd⟩:=st;have hb':b=e\/b=it:=by simpa using hb
  rcases hb' with rfl|rfl;.exact⟨_,he,λv z=>by cases z⟩
  .exact⟨o,ho,λv z=>by rw[hd]at z;cases z⟩
 keep:=λi h h' st kk=>by obtain⟨⟨old,he⟩,o,ho,r⟩:=st;exact⟨⟨old,kk e (by simp) _ he⟩,o,kk it (by simp) o ho,r⟩
 item:=by
  intro X hP hw hK i pins s σ H E hc I hf st hg;subst hP hw hK;obtain⟨⟨old,he⟩,hit⟩:=st;obtain⟨xs,x,hq,hx⟩:=hg;obtain⟨its,rv,p,hz⟩:=I.list hq;obtain⟨u,hu,ru⟩:=rv.get hx;have fe:=hf e (by simp);have fi:=hf it (by simp);refine wpAny_pyNext_enum_item he hit p.isList (x:=u) (by simpa using hu) hne λh' eo it' tp _ kp=>?_;have I1:Inv X pins σ H {s with heap:=h',toks:=s.toks+1}:=I.uf (t':=s.toks+1) kp fe fi;have hfr:H s.heap.objs.size=none:=I.hok.fresh (aim _);have hnT:∀b o,s.heap.get? b=some o->b≠s.heap.objs.size:=λb o q=>aix (air q);have I2:Inv X pins σ (upd H s.heap.objs.size (.tup [.int i,x])) {s with heap:=h',toks:=s.toks+1}:=by
   refine I1.ui hfr I.sz (aiW I.lt) (λy c q=>?_) (λpp hp=>hnT _ _ (I.pin pp hp).1) ⟨by show 2<=sizeLine;decide,[.int i s.toks,u],.cons ⟨_,rfl⟩ (.cons ru .nil),?_⟩;.obtain⟨v,z⟩:=I.cell y c q;exact aix z.lt
   .exact⟨_,tp,rfl,0,rfl⟩
  refine⟨_,rfl,akM (s:={s with heap:=h',toks:=s.toks+1}) eo λh2 e2 s2=>?_⟩;have hTe:s.heap.objs.size≠e:=aiu (hnT _ _ he);obtain⟨o1,ho1,_⟩:=hit;have hTi:s.heap.objs.size≠it:=aiu (hnT _ _ ho1);refine⟨.ref s.heap.objs.size,upd H s.heap.objs.size (.tup [.int i,x]),?_,rfl,⟨_,rfl,hfr,λys hy=>⟨x,by rw[I.qJ hy hq];exact hx,rfl⟩⟩,⟨⟨_,e2⟩,?_⟩,λb hb=>?_⟩;.exact I2.turned (t':=s.toks+1) (it:=e) (λb o hb q=>(s2.2 b hb).trans q) (by rw[ae (aiu hTe)];exact fe.1) fe.2.1 fe.2.2.2.1 fe.2.2.2.2.1 fe.2.2.2.2.2
  .exact it'.extBut s2.extBut (aiu hne)
  .have hb':b=e\/b=it:=by simpa using hb
   rcases hb' with rfl|rfl;.rw[ae (aiu hTe)];exact fe.1
   .rw[ae (aiu hTi)];exact fi.1
 done:=by intro X hP hw hK i pins s σ H E hc I hf st hg;subst hP hw hK;obtain⟨⟨old,he⟩,hit⟩:=st;obtain⟨xs,hq,hx⟩:=hg;obtain⟨its,rv,p,hz⟩:=I.list hq;have fi:=hf it (by simp);have hl:=rv.length;exact wpAny_pyNext_enum_end (I.ok.hd hc) he hit p.isList (by simp;omega) λh' eb=>⟨rfl,I.turned (t':=s.toks) (λb o hb q=>eb b o hb q) fi.1 fi.2.1 fi.2.2.2.1 fi.2.2.2.2.1 fi.2.2.2.2.2⟩
 self:=λ_ _ _ _ _ h0_ h=>by obtain⟨⟨_,he⟩,_⟩:=h0_;exact akc he h
section
variable{X:Cx}
def aen(K:W.Frag)(e:TE):TI:=λd H R=>e d H λx b=>∃a,x=.ref a/\((∃c,SqT K b a c)/\R (Ite K a) b\/(∃c,SqL K b a c)/\R (afr K a) b)
def oJ{l:Expr}{t:TE}{es:List Expr}{k:Nat}{G p pos:Pos}(J:Gl X "enumerate")(K:X.mg "enumerate"=none)(U:PE X l t)(C:starEach [l] X.env=[(false,eval l X.env)]:=by rfl):PI X (.Tuple es k G) (.Call (.Name "enumerate" p) [l] [] pos) (aen X.K t):=by intro g s P H R I h;have N:PA X [l] (fU t x6):=bg U df (by unfold SE;rw[C];rfl);refine Call_ (gQ I J K boot_enumerate (ai4 (thn (N pos g s P H (λv f=>match v with|[x]=>∃a,x=.ref a/\((∃o,SqT X.K f a o)/\R (Ite X.K a) f\/(∃o,SqL X.K f a o)/\R (afr X.K a) f)|_=>False) I h) λY c A=>?_) C rfl));obtain⟨v,f,j,B,d⟩:=A;match v,d,B with
|[x],d,B=>
  obtain⟨a,rfl,d⟩:=d;obtain⟨u,rfl,T⟩:=vals1 B;cases T;have E:c.heap.objs.size+1≠c.heap.objs.size:=Nat.succ_ne_self _;have D:∀b∈[c.heap.objs.size+1,c.heap.objs.size],rg X g f b:=λb O=>by
   have y:b=c.heap.objs.size+1\/b=c.heap.objs.size:=by simpa using O
   have m:c.heap.objs.size<=b:=by
    rcases y with e|e;.rw[e];exact akF _
    .rw[e];exact aim _
   exact j.ack m (j.hok.fresh m)
  rcases d with⟨⟨o,z⟩,q⟩|⟨⟨o,z⟩,q⟩;.obtain⟨r,Q,p,M⟩:=j.tuple z;refine sW (show c.heap.IsTuple a r.toArray from p) λS n i w=>akc n ?_;exact⟨c.heap.objs.size+1,[c.heap.objs.size+1,c.heap.objs.size],_,_,f,rfl,j.kept (t':=c.toks) w,rA a _ _ E,⟨⟨_,n⟩,i⟩,D,q⟩
  .obtain⟨r,Q,p,M⟩:=j.list z;refine call_enumerate_list p.isList λS n i _ w=>akc n ?_;exact⟨c.heap.objs.size+1,[c.heap.objs.size+1,c.heap.objs.size],_,_,f,rfl,j.kept (t':=c.toks) w,rB a _ _ E,⟨⟨_,n⟩,i⟩,D,q⟩|[],d,_=>exact d.elim|_::_::_,d,_=>exact d.elim
end
section
variable{X:Cx}
theorem iL{h:Heap}:∀{us:List Value}{ds:List PyData}{a:List Addr},ReadsAll h us ds a->us.length=ds.length|_,_,_,.nil=>rfl|_,_,_,.cons _ t=>by rw[ait,ait,iL t]
def xk(p:PyData->Bool)(ds:List PyData)(k:Nat):Prop:=(∃d,ds[k]?=some d/\p d=true)/\∀m d,m<k->ds[m]?=some d->p d=false
def vx:MtR X "list.index" λx t H Q=>∃n y d b k,t=[y]/\IsD X.K H n y d/\IsD X.K H (n+1) x (.list b)/\X.A.units+1+n<cLine/\xk (λz=>PyData.eqv z d) b k/\b.length<=1000000/\Q (.int k) H:=by
 intro w s σ H x t v S Q I G K⟨n,y,d,b,k,e,D,B,hu,⟨⟨dk,f,P⟩,l⟩,hl,q⟩;subst e;obtain⟨u,rfl,O⟩:=vals1 K;obtain⟨⟨R,M⟩,J,Y⟩:=I.reads n d y u D O;obtain⟨⟨bs,N⟩,j,T⟩:=I.reads _ _ x v B G;have j:PyData.canLayAll0 b=true:=by simpa[PyData.canLay0]using j
 cases N with|@list a o its m ds' as' h1 h2 h3 h4=>
 obtain⟨cl,E,Z,C⟩:=o;cases h2;cases h3;have g:=SeqAt.readsAll_map b _ _ j h4;have c:=iL h4;have h:∀m(i:m<its.size),b[m]?=some (SeqAt.readOf s.heap its[m]):=λm i=>by rw[<-g,aiK];simp[i]
 have A:k<its.size:=by have:=(ail.mp f).1;have:its.toList.length=b.length:=c;simp at this;omega
 have r:=h k A;rw[f]at r;have U:its.size<=1000000:=by have:its.toList.length=b.length:=c;simp at this;omega
 refine ajA F.slot_list_index ⟨_,h1,rfl⟩ F.entry_list_index (F.args_list_index_2 _ _) (SeqAt.list_indexAt a its m E C u (λz=>PyData.eqv (SeqAt.readOf s.heap z) d) k A (by omega) ?_ λm i p=>?_) ⟨h1,SeqAt.items_eqAt h4 M j J (by have:=ajL (PyData.depthAll b) d.depth;omega),⟨.int k,H,I.tok _,⟨_,rfl⟩,q⟩⟩;.show PyData.eqv (SeqAt.readOf s.heap its[k]) d=true;rw[<-aiB r];exact P
 .exact l m _ p (h m i)
def wZ(R:X.calm=true):bx X (.builtin "all") λD H Q=>∃(l:Addr)(bs:List Bool),D=[.ref l]/\SqL X.K H l (bs.map V.bl)/\Q (.bl (bs.all id)) H:=by
 intro C s σ H D us Q I r h;obtain⟨l,bs,rfl,Y,q⟩:=h;obtain⟨u,rfl,O⟩:=vals1 r;cases O;obtain⟨a,E,p,hz⟩:=I.list Y;have hl:=E.length;have S:l<s.heap.objs.size:=by obtain⟨o,_,y,_⟩:=p;exact air y
 have t:∀(i:Nat)(v:Value),a.toArray[i]?=some v->∃b,bs[i]?=some b/\v=Value.bool b:=λi v P=>by
  have d:a[i]?=some v:=by simpa using P
  have c:i<(bs.map V.bl).length:=by have:=(ail.mp d).1;omega
  obtain⟨u,f,J⟩:=E.get (aiv c);rw[d]at f;cases f;have j:i<bs.length:=by simpa using c
  refine⟨bs[i],aiv j,?_⟩;rw[List.getElem_map]at J;exact J
 refine call_all_walk (wpAny_pyIter_list p.isList ⟨s.heap.objs.size,_,_,_,_,_,λi=>bs.getD i false,rfl,Walks.list (prog:=X.prog) (w:=X.w) (A:=X.A.in1) (show X.A.in1.handled=none from I.ok.hd R) s.heap.objs.size l (aix S) a.toArray,⟨⟨_,ais _ rfl,rfl,rfl⟩,?_⟩,?_,λh' tk T=>?_⟩);.obtain⟨o,k,y,x,K,m⟩:=p;exact⟨o,aih _ y,x,k,m⟩
 .intro i v M U E' Z g;obtain⟨b,B,rfl⟩:=t i v Z;have g:U (bs.getD i false) M:=g;rw[ajQ,B]at g;exact ajb g
 .have e:(List.range a.toArray.size).all (λi=>bs.getD i false)=bs.all id:=by
   have n:a.toArray.size=bs.length:=by simp at hl⊢;omega
   rw[n,ajk,ai6,ai6];constructor;.intro h b t;obtain⟨i,c,rfl⟩:=List.getElem_of_mem t;have:=h i (aj4.mpr c);rw[ajQ,aiv c]at this;exact this
   .intro h i c;have c:=aj4.mp c;rw[ajQ,aiv c];exact h _ (List.getElem_mem c)
  rw[e];exact⟨.bl _,H,I.kept λb o G=>T b o (by
  intro z;have N:b=s.heap.objs.size:=by simpa using z
  exact absurd (air G) (by rw[N];exact ajo _)) (aih _ G),rfl,q⟩
def vM:IxR X λx y H Q=>∃a b k v,x=.ref a/\y=kV k/\Rd H a (.dK b)/\kM b k=some v/\Q v H:=by intro f d h s t H x y v u Q I n j⟨a,_,k,z,ex,o,e,l,q⟩m;subst ex o;cases n;obtain⟨r,w,p,g,i⟩:=zo I.hok e;refine dh (n8.some_of (by rw[<-l];exact g.val k)) λA hw c=>?_;exact tail_any i.typeIs akS.lookup (wpAny_getItem_of (vL j) i.mapOf hw (fg z H (I.tok _) c q)) m
def xl(w:World)(K:W.Frag)(a:Addr)(b:List (Str×V)):Prop:=∃c n,K.lookup a=some ⟨.type "dict",none,.dict c n,#[]⟩/\Paired (λ(p:Str×V)(e:DictEntry)=>(∃t,e.key=.str p.1 t)/\e.hash=PyData.keyHash w.params p.1/\RelV p.2 e.val) b c.toList
theorem ki{w:World}:∀{a es},Paired (λ(p:Str×V)e=>(∃t,e.key=.str p.1 t)/\e.hash=PyData.keyHash w.params p.1/\RelV p.2 e.val) a es->W.KeysLit w.params es|_,_,.nil=>trivial|_,_,.cons ⟨⟨t,e1⟩,e2,_⟩ r=>⟨⟨_,t,e1,e2⟩,ki r⟩
theorem v7{w:World}(k)(v):∀{c es},Paired (λp(e:DictEntry)=>(∃t,e.key=.str p.1 t)/\e.hash=PyData.keyHash w.params p.1/\RelV p.2 e.val) c es->c.lookup k=some v->∃e,es.find? (λe=>Value.isStrOf k e.key)=some e/\RelV v e.val
|_,_,.nil,h=>by simp at h|_,_,.cons (a:=p) (b:=e) ⟨⟨t,e1⟩,e2,rv⟩ r,h=>by
 by_cases f:k=p.1;.obtain⟨d,m⟩:=p;subst f;simp[List.lookup]at h;subst h;exact⟨e,by simp[List.find?,e1,Value.isStrOf],rv⟩
 .obtain⟨d,m⟩:=p;have g:(k==d)=false:=by simpa using f
  simp only[List.lookup,g]at h;refine dh (v7 k v r h) λi j l=>?_;refine⟨i,?_,l⟩;rw[List.find?_cons,e1];have:Value.isStrOf k (.str d t)=false:=by simp[Value.isStrOf];exact λz=>f z.symm
  rw[this];exact j
def yV{a0 a}(D:xl X.w X.K a0 a):IxR X λx y H Q=>x=.ref a0/\∃k v,y=.str k/\a.lookup k=some v/\Q v H:=by intro b c f s w H x y v u Q I o g⟨ex,k,z,j,l,q⟩i;subst ex j;cases o;obtain⟨t,rfl⟩:=g;refine cH D λA n h p=>?_;refine dh (v7 k z p l) λe m r=>?_;have d:=W.mapOf_K (prog:=X.prog) I.kIn h (ki p);refine tail_any d.typeIs akS.lookup (wpAny_getItem_of (strKind_is _ _ k t) d ?_ (fg z H (I.tok _) r q)) i;unfold findBy;rw[<-akG,m];rfl
end
end L2
set_option autoImplicit true
set_option relaxedAutoImplicit true
namespace L2
open PySem PySem.Spec PyProof.Rows
def V12(dx:DX)(vs:Array Value)(v:Value):Prop:=vs[1]?=some v/\vs[2]?=some dx.2.2/\vs[0]?=some dx.2.1
def Trc(h:Heap)(e C:Addr)(dx:DX)(d:Value):Option Addr->Prop|none=>∃a b,h.get? e=some a/\a.cls=.ref C/\a.dict=dx.1/\a.data=.fields b/\V12 dx b .none|some T=>T≠e/\∃a b c ts,h.get? e=some a/\a.cls=.ref C/\a.dict=dx.1/\a.data=.fields b/\V12 dx b (.ref T)/\h.get? T=some c/\c.data=.fields ts/\ts[3]?=some d
def Trc.there{h e C dx j T}(t:Trc h e C dx j T):∃a b,h.get? e=some a/\a.cls=.ref C/\a.dict=dx.1/\a.data=.fields b/\b[2]?=some dx.2.2/\b[0]?=some dx.2.1:=by cases T with|none=>refine jB t λa b d i f g c=>?_;exact⟨a,b,d,i,f,g,c.2⟩|some T=>obtain⟨_,a,b,_,_,d,i,f,g,c,_⟩:=t;exact tm a b d i f g c.2
def Trc.keeps{h h' e C dx f T}(t:Trc h e C dx f T)(k:∀b o,b=e\/T=some b->h.get? b=some o->h'.get? b=some o):Trc h' e C dx f T:=by cases T with|none=>refine cH t λa c d r=>?_;exact⟨a,c,k _ _ (.inl rfl) d,r⟩|some T=>obtain⟨g,a,c,j,ts,d,p,n,i,m,l,r⟩:=t;exact⟨g,a,c,j,ts,k _ _ (.inl rfl) d,p,n,i,m,k _ _ (.inr rfl) l,r⟩
def Obj.jH(f)(o:Obj):(o.mapFields f).dict=o.dict:=by obtain⟨c,d,a,b⟩:=o;cases a<;>rfl
section
variable{M:Model}{A:Around}{E:Value->Shared->Prop}{s:Shared}
def nD{D g d L e C x vs head l Q}{dx:DX}(N:A.frames=some (g::d))(S:s.heap.FunFrames D (g::d))(X:g.frame=some L)(R:s.heap.get? e=some x)(O:x.data=.fields vs)(hsz:1<vs.size)(n:vs[2]?=some dx.2.2/\vs[0]?=some dx.2.1)(J:x.dict=dx.1)(h:∀G P,(∀b o,s.heap.get? b=some o->b≠e->b∉frs (g::d)->G.get? b=some o)->(∀b o,s.heap.get? b=some o->b∈frs (g::d)->∃I,G.get? b=some {o with slots:=I})->s.heap.objs.size<=P->Trc G e C dx (rawInt L) (some P)->Q () {s with heap:=G})(U:x.cls=.ref C):wpAny M A (do let a <-frameOf g;let m <-entryPlaceOf L l;let b <-EntryCells.newEntry head a .none (rawInt L) .none m;setField (.ref e) 1 b) Q E s:=by
 have p:e ∉(g::d).filterMap (·.frame):=λT=>by obtain⟨_,o,H,K⟩:=S.mem T;rw[R]at H;injection H with H;subst H;exact K vs O
 refine aif (wpAny_frameOf_fun N S X λc f=>?_);refine aif (wpAny_entryPlaceOf λm w=>?_);unfold EntryCells.newEntry newFields;refine aif (aka ?_ (w.sizeOk5 _ _ _ _ _));have i:c.get? e=some x:=(f.2.1 e p).trans R;have k:=aih {cls:=.type "traceback",dict:=none,data:=.fields ([head,.ref L,.none,rawInt L,.none]++if m.isEmpty then List.replicate 6 Value.none else m).toArray} i;refine ajr k O hsz ?_;have B:=aiW (air i);have j:=ajB O (·.setIfInBounds 1 (Value.ref c.objs.size));have v:=ai1 (Obj.mapFields (·.setIfInBounds 1 (Value.ref c.objs.size))) k (akm j);have r:=(aiG (c.push {cls:=.type "traceback",dict:=none,data:=.fields ([head,.ref L,.none,rawInt L,.none]++if m.isEmpty then List.replicate 6 Value.none else m).toArray}) (Obj.mapFields (·.setIfInBounds 1 (Value.ref c.objs.size))) (aiu B)).trans (ais c rfl);have keep:∀b o,b≠e->c.get? b=some o->((c.push {cls:=.type "traceback",dict:=none,data:=.fields ([head,.ref L,.none,rawInt L,.none]++if m.isEmpty then List.replicate 6 Value.none else m).toArray}).update e (Obj.mapFields (·.setIfInBounds 1 (Value.ref c.objs.size)))).get? b=some o:=λb o t y=>by rw[aiG _ _ (aiu t)];exact aih _ y
 refine h _ c.objs.size (λb o y t u=>keep b o t ((f.2.1 b u).trans y)) (λb o y u=>?_) ?_ ?_;.obtain⟨I,q⟩:=f.2.2 b o y;exact⟨I,keep b _ (λz=>p (z▸u)) q⟩
 .rw[f.1];exact aim _
 .exact⟨B,_,_,_,_,v,(Obj.cls_mapFields _ _).trans U,(Obj.jH _ _).trans J,j,⟨by simp[hsz],by rw[akE];simpa using n.1,by rw[akE];simpa using n.2⟩,r,rfl,by first|(simp;done)|(rcases w with rfl|⟨_,_,_,_,_,_,_,rfl⟩<;>simp)⟩
def qC{r d a L e C dx S T Q}(t:A.frames=some (d::a))(O:s.heap.FunFrames r (d::a))(J:d.frame=some L)(U:Trc s.heap e C dx S T)(N:(S==rawInt L)=false)(h:∀i l,(∀b o,s.heap.get? b=some o->b≠e->T≠some b->b∉frs (d::a)->i.get? b=some o)->(∀b o,s.heap.get? b=some o->b∈frs (d::a)->∃Y,i.get? b=some {o with slots:=Y})->s.heap.objs.size<=l->Trc i e C dx (rawInt L) (some l)->Q () {s with heap:=i}):wpAny M A (noteFrame (.ref e) d) Q E s:=by unfold noteFrame;simp only[J];cases T with|none=>refine jB U λZ w m y j u k=>?_;refine aif (aiF m u k.1 ?_);rw[aik (by decide)];exact nD t O J m u (ajq.mp k.1).1 k.2 j (λi l B I G K=>h i l (λb o f v _ P=>B b o f v P) I G K) y|some T=>
 obtain⟨D,Z,w,oT,ts,m,y,j,u,k,R,n,X⟩:=U;refine aif (aiF m u k.1 ?_);rw[aij (by simp)];refine aif (aiF R n X ?_);rw[aik (by rw[N];exact aiz)];refine aif (ajr R n (ajq.mp X).1 ?_);have other:∀b,b≠T->(s.heap.update T (Obj.mapFields (·.setIfInBounds 3 Value.none))).get? b=s.heap.get? b:=λb f=>aiG _ _ (aiu f);have c:∀b o,s.heap.get? b=some o->(∀w,o.data≠.fields w)->b≠T:=λb o f g q=>by grind
 have H:∀b∈frs (d::a),b≠T:=λb f=>by obtain⟨_,o,ho,g⟩:=O.mem f;exact c b o ho g
 refine nD t (O.of_keeps λb o f g=>⟨o,(other b (c b o f g)).trans f,rfl⟩) J ((other e (aiu D)).trans m) u (ajq.mp k.1).1 k.2 j (λi l B I G K=>h i l (λb o f v nT P=>?_) (λb o f p=>?_) ?_ K) y;.have x:b≠T:=λz=>nT (by rw[z]);exact B b o ((other b x).trans f) v P
 .exact I b o ((other b (H b p)).trans f) p
 .rw[<-Heap.size_after_update ..];exact G
def vt{a}{L e C T:Addr}{dx d Q}(g:a.frame=some L)(n:Trc s.heap e C dx d (some T))(c:(d==rawInt L)=true)(h:Q () s):wpAny M A (noteFrame (.ref e) a) Q E s:=by unfold noteFrame;simp only[g];obtain⟨f,p,r,q,ts,j,t,m,o,k,i,b,l⟩:=n;refine aif (aiF j o k.1 (aif (aiF i b l ?_)));rw[aij c];exact aio h
def sG   (u:Trc s.heap e C dx fl (some T))(h:∀g,(∀b o,s.heap.get? b=some o->b≠T->g.get? b=some o)->Trc g e C dx (fr.elim .none λf=>rawInt f) (some T)->Q () {s with heap:=g}):wpAny M A (setFlight (.ref e) fr) Q E s:=by obtain⟨d,q,r,w,ts,l,v,i,n,m,k,c,t⟩:=u;have a:=(ajq.mp t).1;have other:∀b,b≠T->(s.heap.update T (Obj.mapFields (·.setIfInBounds 3 (fr.elim Value.none λf=>rawInt f)))).get? b=s.heap.get? b:=λb j=>aiG _ _ (aiu j);exact aif (aiF l n m.1 (ajr k c a (h _ (λb o j p=>(other b p).trans j) ⟨d,q,r,_,_,(other e (aiu d)).trans l,v,i,n,m,ai1 _ k (akm (ajB c _)),ajB c _,by simp[a]⟩)))
end
def cV{P w H h a o}(x:bL P w H h a o):∃ob,h.get? a=some ob:=by cases o with|lst xs=>obtain⟨_,_,_,_,e⟩:=x;exact⟨_,e⟩|tup xs=>obtain⟨_,_,_,o,e,_⟩:=x;exact⟨_,e⟩|dK kvs|dT kvs=>obtain⟨_,_,_,_,o,_,_,e,_⟩:=x;exact⟨_,e⟩|set S n=>obtain⟨o,_,_,_,e,_⟩:=x;exact⟨_,e⟩|ins C dx fs=>obtain⟨_,_,_,e,_⟩:=x;exact⟨_,e⟩|own y=>exact x|xd fs=>obtain⟨_,⟨_,_,_,e,_⟩,_⟩:=x;exact⟨_,e⟩|rng lo hi=>obtain⟨_,_,_,e⟩:=x;exact⟨_,e⟩|frz ob u=>obtain⟨e,_⟩:=x;exact⟨_,e⟩|tbl ps|met f y=>exact⟨_,x⟩|tab ps=>rcases x with e|⟨_,_,_,_,_,e,_⟩<;>exact⟨_,e⟩|ext φ=>obtain⟨_,e,_⟩:=x;exact e
def FpX(X:Cx)(pins:List (Addr×Obj))(H:Hp)(b:Addr):Prop:=H b=none/\b≠X.env.locals/\b∉X.fs/\(b∈X.ex\/X.s₀.heap.get? b=none)/\(∀x c,X.env.cells.lookup x=some c->c≠b)/\∀p∈X.pn++pins,p.1≠b
structure Thr(X:Cx)(pins:List (Addr×Obj))(σ:St)(H:Hp)(s:Shared)(e C:Addr)(dx:DX)(fl:Value)(T:Option Addr):Prop where
 inv:Inv X pins σ H s
 trc:Trc s.heap e C dx fl T
 fe:FpX X pins H e
 fT:∀t,T=some t->FpX X pins H t
section
variable{X:Cx}{pins:List (Addr×Obj)}{σ:St}{H:Hp}{s:Shared}{e C:Addr}{dx:DX}{fl:Value}{T:Option Addr}
def Inv.fpX{H'}(I:Inv X pins σ H s){b}(d:s.heap.get? b=none)(j:H' b=none):FpX X pins H' b:=by
 refine⟨j,λz=>?_,λz=>?_,?_,λx c i z=>?_,λp h z=>?_⟩;.obtain⟨m,⟨o,l,n,a,_⟩,_⟩:=I.loc;rw[<-z,d]at a;cases a
 .obtain⟨_,o,a,_⟩:=I.lW.mem z;rw[d]at a;cases a
 .by_cases g:b∈X.ex;.exact .inl g
  .refine .inr ?_;cases q:X.s₀.heap.get? b with|none=>rfl|some o=>obtain⟨k,f⟩:=I.base.there b o q g;rw[d]at f;cases f
 .obtain⟨v,o,a,_⟩:=I.cell x c i;rw[z,d]at a;cases a
 .have:=(I.pin p h).1;rw[z,d]at this;cases this
def Inv.adg(I:Inv X pins σ H s){ch:List Addr}{h'}(a:∀b∈ch,FpX X pins H b)(k:∀b o,s.heap.get? b=some o->b∉ch->b∉frs X.stack->h'.get? b=some o)(f:∀b o,s.heap.get? b=some o->b∉ch->b∈frs X.stack->∃h,h'.get? b=some {o with slots:=h}):Inv X pins σ H {s with heap:=h'}:=by
 have any:=λb o q d=>by
  by_cases g:b∈frs X.stack;.exact f b o q d g
  .exact⟨o.slots,k b o q d g⟩
 have trk:∀b u,H b=some u->b∉ch/\b∉frs X.stack:=λb u q=>⟨(λz=>by rw[(a b z).1]at q;cases q),λz=>by rw[I.ot b z]at q;cases q⟩;refine I.x9 (λb g=>⟨(a b g).2.2.2.1,(a b g).2.1,(a b g).2.2.2.2.1,(a b g).2.2.2.2.2⟩) (λb o i j d q _=>k b o q d ((λb i j z=>(aiO.mp (I.qc b z)).elim i j) b i j)) (λb o _ _ d q _=>any b o q d) (λ_ _ _ _ n=>n) (λb o d q=>let⟨h,z⟩:=any b o q d;⟨_,z⟩) (λ_ _ q=>q) (λ_ _ _ q=>q) (λb y q=>⟨#[],by rw[q];simp⟩) (λm p=>?_) (λb u q=>?_) I.bare;.refine pO p λo t x w r=>?_;obtain⟨h,l⟩:=any _ o w λz=>(a _ z).2.1 rfl;exact xA _ t x l r
 .refine(I.hok b u q).n6 (λc v d z=>?_) (λ_ z=>z) λ_ _ z=>z;rcases d with rfl|d;.exact k c v z (trk c u q).1 (trk c u q).2
  .exact k c v z (trk c _ d).1 (trk c _ d).2
variable{M:Model}{E:Value->Shared->Prop}{Q:Unit->Shared->Prop}
def Thr.note(t:Thr X pins σ H s e C dx fl T)(i:X.stack=X.env::X.outer)(w:X.env.frame=some X.env.locals)(h:∀j k p,Thr X pins σ H {s with heap:=j} e C dx p (some k)->Q () {s with heap:=j}):wpAny M X.A (noteFrame (.ref e) X.env) Q E s:=by
 have I:=t.inv;have f:=I.stack;rw[i]at f;have l:(fl==rawInt X.env.locals)=false->wpAny M X.A (noteFrame (.ref e) X.env) Q E s:=λc=>by
  refine qC (by rw[<-i];exact I.ok.frames) f w t.trc c λj k y v m x=>h j k (rawInt X.env.locals) ?_;have g:=I.hok.fresh m;have u:∀b∈e::T.toList,FpX X pins H b:=λb a=>by
   rcases aiO.mp a with rfl|a;.exact t.fe
   .exact t.fT b (by grind)
  have d:∀b,b∉e::T.toList->b≠e/\T≠some b:=λb a=>⟨λz=>a (by rw[z];exact aiI),λz=>a (by rw[z];simp)⟩;have r:=I.adg u (λb o q n a=>y b o q (d b n).1 (d b n).2 (by rw[<-i];exact a)) λb o q _ a=>v b o q (by rw[<-i];exact a);exact⟨r,x,t.fe,λb a=>by cases a;exact I.fpX (ai5 m) g⟩
 cases T with|none=>exact(show Thr X pins σ H s e C dx .none none->_ from λt=>by
   have c:((.none:Value)==rawInt X.env.locals)=false:=by simp[rawInt]
   refine qC (by rw[<-i];exact I.ok.frames) f w t.trc c λj k y v m x=>h j k (rawInt X.env.locals) ?_;have g:=I.hok.fresh m;have r:=I.adg (λb a=>by rw[aiX.mp a];exact t.fe) (λb o q n a=>y b o q (λz=>n (by rw[z];exact aiI)) (by intro z;cases z) (by rw[<-i];exact a)) λb o q _ a=>v b o q (by rw[<-i];exact a);exact⟨r,x,t.fe,λb a=>by cases a;exact I.fpX (ai5 m) g⟩) ⟨t.inv,t.trc,t.fe,t.fT⟩|some T0=>cases c:fl==rawInt X.env.locals with|false=>exact l c|true=>exact vt w t.trc c (h s.heap T0 fl t)
def Thr.o9{T fr}(t:Thr X pins σ H s e C dx fl (some T))(h:∀c a,Thr X pins σ H {s with heap:=c} e C dx a (some T)->(fr=none->a=.none)->Q () {s with heap:=c}){A}:wpAny M A (setFlight (.ref e) fr) Q E s:=by exact sG t.trc λc f g=>h c _ ⟨t.inv.adg (λb i=>by rw[aiX.mp i];exact t.fT T rfl) (λb o q d _=>f b o q λz=>d (by grind)) λb o q d _=>⟨o.slots,f b o q λz=>d (by grind)⟩,g,t.fe,t.fT⟩ λz=>by grind
def Thr.nu{T}(t:Thr X pins σ H s e C dx fl (some T))(h:∀a,Thr X pins σ H {s with heap:=a} e C dx .none (some T)->Q () {s with heap:=a}){A}:wpAny M A (setFlight (.ref e) none) Q E s:=t.o9 λa b c z=>h _ (z rfl▸c)
def Thr.pass{α T b c Q}(t:Thr X pins σ H s e C dx fl (some T))(h:∀d a,Thr X pins σ H {s with heap:=d} e C dx a (some T)->E (.ref e) {s with heap:=d}){A}:wpAny M A (PySem.passOn b (.ref e) c:Sem α) Q E s:=by obtain⟨f,n,p,o,ts,i,u,k,l,j,q,g,r⟩:=id t.trc;exact aif (aiF i l j.1 (aif (t.o9 λd a m _=>wpAny_throw (h _ _ m))))
end
def CXX(P:Program)(w:World):CXT:=λa H s E e c=>∃d C f T b,e=.ref d/\c.os=s.os/\AllBare c.gens/\Un (frs a) [] H b s.heap c.heap/\HOk P w b c.heap/\Trc c.heap d C f .none (some T)/\s.heap.get? d=none/\s.heap.get? T=none/\b d=none/\b T=none/\E (.ref C) f b
section
variable{X:Cx}{pins:List (Addr×Obj)}{σ:St}{H:Hp}{s s':Shared}{e:Value}{E:XK}
def Inv.thrown(I:Inv X pins σ H s)(h:CXX X.prog X.w X.stack H s E e s'):∃c C a T d,e=.ref c/\Thr X pins σ d s' c C a .none (some T)/\E (.ref C) a d:=by obtain⟨c,C,a,T,d,rfl,k,m,un,f,g,i,l,j,n,q⟩:=h;exact⟨c,C,a,T,d,rfl,⟨I.ab3 k un f m λb z=>absurd z (by simp),g,I.fpX i j,λt z=>by cases z;exact I.fpX l n⟩,q⟩
end
def f9{P w K j g N d scope f h A a s H E pins m H' s' e C dx T k}(t:Thr (cF (CXX P w) P w K j g N d scope f h A a s H E) pins m H' s' e C dx k T)(q:E (.ref C) dx H'):(cF (CXX P w) P w K j g N d scope f h A a s H E).xe (.ref e) s':=by
 refine aif (t.note rfl rfl λo i _ n=>n.nu λl c=>?_);have I:=c.inv;have new:∀b,FpX (cF (CXX P w) P w K j g N d scope f h A a s H E) pins H' b->s.heap.get? b=none:=λb z=>by
  rcases z.2.2.2.1 with z|z;.exact absurd (show b∈[]from z) (by simp)
  .exact z
 exact⟨e,C,dx,i,H',rfl,I.os,I.bare,I.base,I.hok,c.trc,new e c.fe,new i (c.fT i rfl),c.fe.1,(c.fT i rfl).1,q⟩
section
variable{X:Cx}{k:Nat}{f:Addr}{fd:FuncData}{ps:List Str}{sp:Sp}{dvs:List V}{ds:List Value}{x:Str}{p pos:Pos}{e:Expr}{es:List Expr}{t:TA}
def zM(X:Cx)(sp:Sp)(dvs:List V)(t:TA):TE:=λd H Q=>t d H λg h=>∃E:XK,sp (g++dvs) h Q E/\∀a s e C c T b,Thr X a d b s e C c .none (some T)->E (.ref C) c b->X.xe (.ref e) s
def uP    (F:FnOk X.prog X.w X.K X.mg X.base (CXX X.prog X.w) k f fd ps sp)(m:Room k X.A)(v:Binds X.K fd ps ds)(n:Vals dvs ds)(i:∀a s e C b T c,Thr X a σ c s e C b .none (some T)->E (.ref C) b c->X.xe (.ref e) s)(I:Inv X a σ H s)(r:Vals vs us)(h:sp (vs++dvs) H Q E):wpAny (model X.prog X.w) X.A (call (.ref f) us) (EP X a σ Q) X.xe s:=by
 have g:=r.append n;have o:(us++ds).length=ps.length:=by rw[<-g.length];exact F.len _ _ _ _ h
 refine ajy (ajX (F.run _ _ s H _ _ _ Q E m trivial I.afj (v s us I.kIn o) g h) λr j d=>?_);cases r with|error e=>obtain⟨l,C,b,T,c,rfl,t,q⟩:=I.thrown d;exact i _ j l C b T c t q|ok fl=>cases fl with|ret u=>exact I.after d|next|brk|cont=>exact False.elim d
def yy(F:FnOk X.prog X.w X.K X.mg X.base (CXX X.prog X.w) k f fd ps sp)(m:Room k X.A)(g:Gl X x)(j:X.mg x=some (.ref f))(l:W.keepIn X.K (.ref f)=true)(w:Binds X.K fd ps ds)(o:Vals dvs ds)(u:PA X (e::es) t)(b:Dbg x:=by decide)(n:SE X e es:=by rfl)(a:BT X pos es:=by rfl):PE X (.Call (.Name x p) (e::es) [] pos) (zM X sp dvs t):=by intro d s i H Q I h;exact ajz (cg I g j (ak3 I.ok.mod.kin l (thn (u _ _ s i H _ I h) λz B⟨A,y,c,r,E,q,v⟩=>⟨c.kIn,uP F m w o v c r q⟩) n a) b)
end
section
variable{X:Cx}{t:TA}{x:Str}{C:Addr}{np cpos pos:Pos}{e:Expr}{es:List Expr}
noncomputable abbrev dj:List Value:=[.type "ValueError",.type "Exception",.type "BaseException",.type "object"]
def acV(X:Cx)(C:Addr)(t:TA):TS:=λ_ b H=>t b H λc d=>c.length<=sizeLine/\∀a s e f,Thr X a b d s e C (none,f,.none) .none none->X.xe (.ref e) s
def ib(K:W.Frag)(C:Addr)(r:Option Value):Prop:=∃c a i n bs l d sub j b k g o h m f,K.lookup C=some (excClassObj i n C a bs c l d sub j b k g o h m f "ValueError.__new__")/\(W.tailIn K dj c&&W.nsOkIn K a&&W.nsIn K a "__init__"==some r)=true
def ib.mk{K C r bm ns nm b bs a sn sub ab col dd k0 k1 k2 k3 k5}(h:K.lookup C=some (excClassObj nm b C ns bs bm a sn sub ab col dd k0 k1 k2 k3 k5 "ValueError.__new__"))(q:(W.tailIn K dj bm&&W.nsOkIn K ns&&W.nsIn K ns "__init__"==some r)=true):ib K C r:=⟨_,_,_,_,_,_,_,_,_,_,_,_,_,_,_,_,h,q⟩
def ib.out{K:W.Frag}{h:Heap}{r}{P:Prop}(X:K.In h)(q:ib K C r)(k:∀c b j p bs n d sub l a m g s i o f,h.get? C=some (excClassObj j p C b bs c n d sub l a m g s i o f "ValueError.__new__")->W.nsOkIn K b=true->W.nsIn K b "__init__"=some r->OwnTail h dj c->P):P:=by obtain⟨c,b,j,p,bs,n,d,sub,l,a,m,g,s,i,o,f,u,q⟩:=q;simp only[aiw,aje]at q;exact k _ _ _ _ _ _ _ _ _ _ _ _ _ _ _ _ (X _ _ u) q.1.2 q.2 (W.tail_of_in X q.1.1)
def aeK{K:W.Frag}{h:Heap}{d:Str->Option Value}(X:K.In h)(e:d x=some (.ref C))(q:ib K C none):OwnCls x C dj "ValueError.__new__" d h:=q.out X λi n m u bs r f sub o b p k v l s j g a c t=>⟨e,i,n,m,u,bs,r,f,sub,o,b,p,k,v,l,s,j,_,g,.of_isNs (W.isNs_of_in X a),W.nsMap_none_of_in X a c,t⟩
def ym(A:X.calm=true)(p:Gl X x)(i:X.mg x=some (.ref C))(q:ib X.K C none)(y:PA X (e::es) t)(O:Dbg x:=by decide)(j:SE X e es:=by rfl)(a:BT X cpos es:=by rfl):PS X (.Raise (some (.Call (.Name x np) (e::es) [] cpos)) none pos) (acV X C t):=by
 intro b s G H D I h;obtain⟨v,N,nm,B,bs,hdct,sn,sub,ab,col,dd,k0,k1,k2,k3,k5,mN,r,M,g,T⟩:=(aeK (x:=x) I.mod.kin i q).obj;refine wpAny_Raise_call_subT (C:=C) (nm:=nm) (q:=B) (N:=N) (bs:=bs) (bm:=v) (hdct:=hdct) (sn:=sn) (sub:=sub) (ab:=ab) (col:=col) (dd:=dd) (k0:=k0) (k1:=k1) (k2:=k2) (k3:=k3) (k5:=k5) ai7 (mN:=mN) (T.hasType ai7.hasBase) (I.ok.hd A) (by rw[j];show(false||(backTo cpos _).any (·.1))=false;rw[a];rfl) g (cg I p i ⟨rfl,?_⟩ O);have k:=y cpos b s G H _ I h;rw[j]at k⊢;refine akq (thn k λQ n⟨S,l,c,w,P,K⟩=>⟨rfl,by rw[<-w.length];exact P,c.bk _ _ r,M.keeps c.bk,T.keeps c.bk,λY f d=>?_⟩);refine gD d.there λR J U Z=>?_;have E:l f=none:=by cases z:l f with|none=>rfl|some u=>obtain⟨o,m⟩:=cV (c.hok f u z);rw[d.new]at m;cases m
 refine K b _ f _ ⟨c.kept (t':=n.toks) d.keeps,⟨_,_,J,rfl,rfl,rfl,rfl,rfl,rfl⟩,c.fpX d.new E,λt z=>by cases z⟩
end
abbrev Cx.sui(X:Cx)(e:Addr):Cx:={X with A:=X.A.mark (some (.ref e)),calm:=false,xe:=λ_ _=>False}
def Cx.Ok.eP{X:Cx}{E a}(ok:(X.tri E a).Ok):X.Ok:=⟨ok.mod,ok.kind,ok.glob,ok.blt,ok.above,ok.inj,ok.has,ok.cab,ok.hd,ok.frames,ok.stk,ok.exf,ok.bs,ok.bsz,ok.noex,ok.exfs,ok.lW,ok.frf⟩
theorem Cx.Ok.sui{X:Cx}(ok:X.Ok)(e):(X.sui e).Ok:=⟨ok.mod,ok.kind,ok.glob,ok.blt,ok.above,ok.inj,ok.has,ok.cab,λz=>by grind,ok.frames,ok.stk,ok.exf,ok.bs,ok.bsz,ok.noex,ok.exfs,ok.lW,ok.frf⟩
section
variable{X:Cx}{pins pins':List (Addr×Obj)}{σ:St}{H:Hp}{s:Shared}{E:Value->Shared->Prop}
theorem Inv.eP(I:Inv (X.tri E (X.pn++pins)) pins' σ H s):Inv X pins σ H s:=⟨I.ok.eP,I.os,I.bare,I.base,I.loc,I.cell,I.free,I.freeC,λp a=>I.pin p (aiP _ a),I.hok,I.len⟩
theorem Inv.sui(I:Inv X pins σ H s)(e):Inv (X.sui e) pins σ H s:=⟨I.ok.sui e,I.os,I.bare,I.base,I.loc,I.cell,I.free,I.freeC,I.pin,I.hok,I.len⟩
def Inv.back(I:Inv X pins σ H s){e}{a:St}{H' s'}(J:Inv (X.sui e) pins a H' s'):Inv X pins a H' s':=⟨I.ok,J.os,J.bare,J.base,J.loc,J.cell,J.free,J.freeC,J.pin,J.hok,J.len⟩
def FpX.eP{b}(h:FpX (X.tri E (X.pn++pins)) pins' H b):FpX X pins H b:=⟨h.1,h.2.1,h.2.2.1,h.2.2.2.1,h.2.2.2.2.1,λp a=>h.2.2.2.2.2 p (aiP _ a)⟩
theorem Thr.eP{e C dx a T}(t:Thr (X.tri E (X.pn++pins)) pins' σ H s e C dx a T):Thr X pins σ H s e C dx a T:=⟨t.inv.eP,t.trc,t.fe.eP,λb c=>(t.fT b c).eP⟩
theorem SP.eP{D f s'}(h:SP (X.tri E (X.pn++pins)) pins' D f s'):SP X pins D f s':=by cases f with|next|brk|cont=>obtain⟨b,a,I,q⟩:=h;exact⟨_,a,I.eP,q⟩|ret u=>refine tj h λv b a I r q=>?_;exact ab9 v _ a I.eP r q
end
section
variable{X:Cx}{pins:List (Addr×Obj)}{σ:St}{H:Hp}{s:Shared}{e Ce C:Addr}{dx:DX}{fl:Value}{T:Addr}{x n:Str}{np hpos:Pos}{b0:Stmt}{suite:List Stmt}{Q:Flow->Shared->Prop}{E:Value->Shared->Prop}
def Thr.ty(t:Thr X pins σ H s e Ce dx fl (some T)){M}:W.Looks M s.heap (typeOf (.ref e)) (.ref Ce):=by obtain⟨d,c,a,b,_,_⟩:=t.trc.there;exact b▸(W.Looks.ld a).andThen .now
def vV(t:Thr X pins σ H s e Ce dx fl (some T))(c:Gl X x)(d:X.mg x=some (.ref C))(j:W.exmOne X.K (.ref Ce) (.ref C)=some true)(k:∀a,Thr X pins σ H {s with heap:=a} e Ce dx .none (some T)->wpAny (model X.prog X.w) (X.A.mark (some (.ref e))) (storeName X.env n (.ref e)) (λ_ b=>wpAny (model X.prog X.w) (X.A.mark (some (.ref e))) (execs (b0::suite) X.env) (λf g=>wpAny (model X.prog X.w) X.A (do bindName X.env n .none;unbindBehindTheSuite X.env n hpos) (λ_ i=>Q f i) E g) (λ_ _=>False) b) (λ_ _=>False) {s with heap:=a})(h:Dbg x:=by decide):wpAny (model X.prog X.w) X.A (handleBy (.ref e) X.env [.ExceptHandler (some (.Name x np)) (some n) (b0::suite) hpos]) Q E s:=by refine wpAny_handleBy_cons (codeAny_handlers_test (cg (X:=X.sui e) (t.inv.sui e) c d ?_ h)) (by intro q;cases q);refine(W.exm_one t.inv.kIn t.ty j).here ?_;refine akT (t.nu λa l=>?_);exact aiA (k a l) (λ_ b q=>aiA q (λ_ _ z=>z) λ_ _ z=>z.elim) λ_ _ z=>z.elim
def mX{i:Nat}(I:Inv X pins σ H s)(hN:X.N.Nodup)(hi:X.N[i]?=some n)(hl:X.env.scope.names.lookup n=some .local){Q:Unit->Shared->Prop}(h:∀K,Inv X pins (σ.set i none) H K->(∀b,b≠X.env.locals->K.heap.get? b=s.heap.get? b)->Q () K){A:Around}:wpAny (model X.prog X.w) A (do bindName X.env n .none;unbindBehindTheSuite X.env n hpos) Q E s:=by
 obtain⟨m,Y,O⟩:=id I.loc;have t:(X.env.scope.kind==.class||X.env.scope.kind==.module&&X.env.locals !=X.env.globals)=false:=by rw[I.ok.kind];rfl
 refine wpAny_nameGoes_keeps hl Y t λh' v M a=>h _ ?_ a.2;obtain⟨oL,_,_,a0,_⟩:=id Y;have J:∀b o,X.s₀.heap.get? b=some o->b≠X.env.locals:=λb o e=>aix (aiq (air e) I.ok.above);refine⟨I.ok,I.os,I.bare,⟨λb o e n N D=>(a.2 b (J b o e)).trans (I.base.keep b o e n N D),λb o e n N D=>?_,I.base.free,λb o e D=>?_,I.base.tups,I.base.frzs,I.base.tbls⟩,⟨_,M,λj y v' f g e3=>?_⟩,λy c e=>?_,I.free,I.freeC,λp hp=>?_,λb ob e=>?_,by simpa using I.len⟩;.obtain⟨Z,f⟩:=I.base.slot b o e n N D;exact⟨Z,(a.2 b (J b o e)).trans f⟩
 .obtain⟨o',f⟩:=I.base.there b o e D;exact⟨o',(a.2 b (J b o e)).trans f⟩
 .have w:i≠j:=λz=>by
   subst z;by_cases S:i<σ.length;.rw[ain S]at g;cases g
   .rw[List.getElem?_eq_none (by simpa using S)]at g;cases g
  rw[aii w]at g;obtain⟨u,r,l⟩:=O j y v' f g e3;refine⟨u,r,?_⟩;have hy:y≠n:=λz=>by subst z;exact w (la hN hi f)
  rcases l with⟨k,l⟩|⟨k,c,U,z⟩;.exact .inl ⟨k,by show(if y=n then v else m y)=some u;rw[aik hy];exact l⟩
  .refine .inr ⟨k,c,U,?_⟩;obtain⟨o,R,P⟩:=z;exact⟨o,(a.2 c (I.cne y c U)).trans R,P⟩
 .obtain⟨v,o,R,P⟩:=I.cell y c e;exact⟨v,o,(a.2 c (I.cne y c e)).trans R,P⟩
 .obtain⟨e,n,B,nf,d⟩:=I.pin p hp;exact⟨(a.2 p.1 B).trans e,n,B,nf,d⟩
 .refine(I.hok b ob e).n6 (λc w' G q=>(a.2 c ?_).trans q) (λ_ q=>q) λ_ _ q=>q;rintro rfl;rcases G with rfl|G;.rw[I.free]at e;cases e
  .rw[I.free]at G;cases G
def qF{i:Nat}(I:Inv X pins σ H s)(c:X.N.Nodup)(b:X.N[i]?=some n)(d:X.env.scope.names.lookup n=some .local){Q:Unit->Shared->Prop}(h:∀a,Inv X pins (σ.set i none) H a->Q () a){A:Around}:wpAny (model X.prog X.w) A (do bindName X.env n .none;unbindBehindTheSuite X.env n hpos) Q E s:=mX I c b d λa J _=>h a J
def excAt(a C:Addr)(dx:DX)(h:Heap):Prop:=∃b c,h.get? a=some b/\b.cls=.ref C/\b.dict=dx.1/\b.data=.fields c/\c[2]?=some dx.2.2/\c[0]?=some dx.2.1
def Thr.known(t:Thr X pins σ H s e Ce dx fl (some T)):Inv X pins σ (upd H e (.ext (excAt e Ce dx))) s:=by
 have I:=t.inv;have f:=t.fe;have g:∀b u,H b=some u->b≠e:=λb u q z=>by rw[z,f.1]at q;cases q
 have:=I.x9 (h':=s.heap) (H':=upd H e (.ext (excAt e Ce dx))) (g':=s.gens) (d':=s.drawn) (t':=s.toks) (ch:=[e]) (λb d=>by rw[aiX.mp d];exact⟨f.2.2.2.1,f.2.1,f.2.2.2.2.1,f.2.2.2.2.2⟩) (λb o _ _ _ q _=>q) (λb o _ _ _ q _=>⟨o.slots,q⟩) (λb o d _ n=>by rw[ae λz=>d (by rw[z];exact aiI)];exact n) (λb o _ q=>⟨o,q⟩) (λb A q=>by rw[ae (g b _ q)];exact q) (λb o u q=>by rw[ae (g b _ q)];exact q) (λb B q=>⟨#[],by rw[ae (g b _ q),q];simp⟩) (λm v=>v) (λb u q=>by
   by_cases d:b=e;.subst d;rw[ah]at q;cases q;obtain⟨l,i,j,p,y,w⟩:=t.trc.there;exact⟨⟨l,i,j,p,y,w⟩,⟨l,j⟩,λj p h k=>by obtain⟨o,i,a,r⟩:=h;exact⟨o,i,k o a,r⟩⟩
   .rw[ae d]at q;exact(I.hok b u q).n6 (λ_ _ _ z=>z) (λc z=>by rw[ae (g c _ z)];exact z) λc A z=>by rw[ae (g c _ z)];exact z) I.bare;exact this
end
end L2
namespace L2
open PySem PySem.Spec PyProof.Rows
open PySem.W(findIn mroIn findObj specialIn takesIn clsIn hasDictIn KitX looks_findIn looks_mroIn looks_find)
section
variable{prog:Program}{w:World}{A:Around}{E:Value->Shared->Prop}{s:Shared}{K:W.Frag}{x D:Addr}{ox:Obj}{od:Option Obj}{name:Str}
def we{nm:Value}{Q:Unit->Shared->Prop}(X:K.In s.heap)(I:W.InstAt s.heap x ox D od)(b:mroIn K D (.type "BaseException")=some true)(f:Q () s):wpAny (model prog w) A (checkBuiltinCall "BaseException.__getattribute__" ⟨[.ref x,nm],[]⟩) Q E s:=by
 have c:builtinKind "BaseException.__getattribute__"=some .slot:=by decide+kernel
 have a:splitId "BaseException.__getattribute__"=some ("BaseException","__getattribute__"):=by decide+kernel
 have h:=F.args_bexc_ga (.ref x) nm;have e:W.Looks (model prog w) s.heap (isInstance (.ref x) (.type "BaseException")) true:=I.type.andThen (looks_mroIn X b);obtain⟨i,g,d,t,os⟩:=s;simp only[checkBuiltinCall,c,a];refine aif (e.at ?_);repeat(first|wp_step)
 exact f
def aaa{tk:Tok}{fill a:Bool}{Q:Value->Shared->Prop}(X:K.In s.heap)(I:W.InstAt s.heap x ox D od)(c:findIn K (.ref D) "__getattribute__"=some (some (.builtin "BaseException.__getattribute__")))(b:findIn K (.ref D) "__getattr__"=some none)(l:mroIn K D (.type "BaseException")=some true)(h:∀j,wpAny (model prog w) j (Builtin.«object.__getattribute__» ⟨[.ref x,.str name tk],[]⟩) (λfin i=>match fin with|.done (.ret v)=>wpAny (model prog w) A (handedOut v) Q E i|_=>False) (λ_ _=>False) s):wpAny (model prog w) A (getAttrBy (.ref x) (.str name tk) fill a) Q E s:=by
 have n:=I.type (M:=model prog w);have k:=looks_findIn (M:=model prog w) X c;have m:=looks_findIn (M:=model prog w) X b;have o:=F.excAttr_ValueError.ga.bind (.ref x);have f:(a&&onTheHeap (Value.builtin "BaseException.__getattribute__"))=false:=by cases a<;>rfl
 have e:(Value.builtin "BaseException.__getattribute__"==Value.builtin "object.__getattribute__")=false:=by decide+kernel
 obtain⟨p,g,d,t,os⟩:=s;unfold getAttrBy;refine aja (aif (n.at (aif (k.at ?_))));dsimp only;rw[e,Bool.and_false,aik (by decide)];unfold getAttrByItsOwn hookBefore;rw[aij (show onTheHeap (Value.ref D)=true from rfl)];refine aif (m.at (aif (akL (aja ?_))));unfold callGetattribute boundAndCalled;rw[f,aik (by decide),o];refine aif (aio (ajy (ajO F.excAttr_ValueError.ga.plain F.entry_bexc_ga (we X I l (aiA (h _) (λfin i z=>?_) λ_ _ z=>z.elim)))));rcases fin with(_|_|_|_)|_<;>first|exact z|exact z.elim
def jG{g a:Value}{tk:Tok}{P:Value->Shared->Prop}(X:K.In s.heap)(I:W.InstAt s.heap x ox D od)(e:findObj K D od name=some (.bind g a))(h:wpAny (model prog w) A (call g [a,.ref x,.ref D]) P E s):wpAny (model prog w) A (Builtin.«object.__getattribute__» ⟨[.ref x,.str name tk],[]⟩) (λfin b=>match fin with|.done (.ret v)=>P v b|_=>False) E s:=by have f:=I.type (M:=model prog w);have c:=looks_find (M:=model prog w) X I e;obtain⟨j,i,d,t,os⟩:=s;refine aif (aio (aif (aio (aif (f.at (aif (c.at ?_)))))));show wpAny _ _ (holding [a] (call g [a,.ref x,.ref D])>>=ret) _ _ _;exact aif (aja (aiA h (λv b z=>aio z) λ_ _ z=>z))
def lB{v:Value}{tk:Tok}{P:Value->Shared->Prop}(X:K.In s.heap)(I:W.InstAt s.heap x ox D od)(a:findObj K D od name=some (.value v))(h:P v s):wpAny (model prog w) A (Builtin.«object.__getattribute__» ⟨[.ref x,.str name tk],[]⟩) (λfin e=>match fin with|.done (.ret v)=>P v e|_=>False) E s:=by have b:=I.type (M:=model prog w);have c:=looks_find (M:=model prog w) X I a;obtain⟨g,f,d,t,os⟩:=s;refine aif (aio (aif (aio (aif (b.at (aif (c.at ?_)))))));exact aio h
structure ExcK(K:W.Frag)(D:Addr):Prop where
 cls:(clsIn K D).isSome=true
 ga:findIn K (.ref D) "__getattribute__"=some (some (.builtin "BaseException.__getattribute__"))gn:findIn K (.ref D) "__getattr__"=some none
 mb:mroIn K D (.type "BaseException")=some true
 mo:mroIn K D (.type "object")=some true
 cl:findIn K (.ref D) "__class__"=some (some (.builtin "object.__class__"))hn:specialIn K (.builtin "object.__class__") "__get__"=some (some (.builtin "getset_descriptor.__get__"))tk:takesIn K (.builtin "object.__class__")=some true
def ExcK.findCls(k:ExcK K D):findObj K D od "__class__"=some (.bind (.builtin "getset_descriptor.__get__") (.builtin "object.__class__")):=by obtain⟨b,a⟩:=ai0.mp k.cls;unfold findObj;rw[a,ajP,k.cl,ajP];simp[k.hn,k.tk]
def wc{Q:Option Value->Shared->Prop}(k:ExcK K D)(X:K.In s.heap)(I:W.InstAt s.heap x ox D od)(h:Q (some (.ref D)) {s with toks:=s.toks+1}):wpAny (model prog w) A (getAttr? (.ref x) "__class__") Q E s:=by unfold getAttr? getAttrBy?;refine aif (wpAny_mkText (aif (akL ?_)));refine aaa (s:={s with toks:=s.toks+1}) X I k.ga k.gn k.mb λa=>?_;refine jG (s:={s with toks:=s.toks+1}) X I k.findCls ?_;refine ajy (W.class_get (s:={s with toks:=s.toks+1}) (ox:=ox) (od:=od) X I k.mo ?_);exact aio (aio h)
def zk{v:Value}{a:Bool}{Q:Value->Shared->Prop}(k:ExcK K D)(X:K.In s.heap)(I:W.InstAt s.heap x ox D od)(b:findObj K D od name=some (.value v))(c:W.handedIn v=true)(h:Q v {s with toks:=s.toks+1}):wpAny (model prog w) A (getAttr (.ref x) name a) Q E s:=by unfold getAttr;refine aif (wpAny_mkText ?_);refine aaa (s:={s with toks:=s.toks+1}) X I k.ga k.gn k.mb λd=>?_;refine lB (s:={s with toks:=s.toks+1}) X I b ?_;rw[W.handedOut_of c];exact aio h
def zF(x D:Addr)(h:Heap):Prop:=∃ox od,W.InstAt h x ox D od
def yT(k:ExcK K D):KitX K (.ref x) (.ref D) (zF x D)where
 ty:=λ_ _ _ h0_=>by obtain⟨_,_,I⟩:=h0_;exact I.type
 it:=λ_ _ X _=>by
  obtain⟨cdD,hcD⟩:=ai0.mp k.cls;unfold clsIn at hcD;split at hcD;.rename_i c' d' cd' sl' ho;intro A' Q' E' s' k q;unfold isType loadHead;exact aif (akA (k _ _ (X _ _ ho)) (aio q))
  .cases hcD
 ne:=λh tp dd its n sl X htp=>by
  obtain⟨cdD,hcD⟩:=ai0.mp k.cls;refine Bool.eq_false_iff.mpr λq=>?_;have e:D=tp:=Value.ref.inj (aje.mp q);subst e;unfold clsIn at hcD;split at hcD;.rename_i c' d' cd' sl' ho;have z:=(X _ _ ho).symm.trans htp;cases z
  .cases hcD
 ca:=λX h0_ q=>by obtain⟨_,_,I⟩:=h0_;exact wc k X I q
end
end L2
namespace L2
open PySem PySem.Spec PyProof.Rows
noncomputable abbrev bY(C:Addr)(dx:Option Addr)(a0:Value):Obj:={cls:=.ref C,dict:=dx,data:=.fields #[a0,.none,.none,.none,.bool false,.none]}
def g6(e C:Addr)(dx:Option Addr)(a0:Value)(h:Heap):Prop:=h.get? e=some (bY C dx a0)
section
variable{prog:Program}{w:World}{A:Around}{E:Value->Shared->Prop}{env:Env}
variable{nm q:Str}{C N:Addr}{bs bm bmB:List Value}{hdct:Bool}{sn:List Str}{sub:List Value}{ab:Bool}{col:Option Bool}{dd:Option Addr}{k0 k1 k2 k3 k5:Option Value}{B newId initId:String}
variable{h:Heap}{g:Array GenState}{d:Drawn}{t:Nat}{os:OsState}
def ie(F:ExcBaseFacts B newId initId bmB)(T:OwnTail h bmB bm){mN:Str->Option Value}{rest:List Value}{fI:Addr}{s:Obj}{Q:Fin->Shared->Prop}(k:h.get? C=some (excClassObj nm q C N bs bm hdct sn sub ab col dd k0 k1 k2 k3 k5 newId))(v:h.Ns N mN)(u:mN "__init__"=some (.ref fI))(n:h.get? fI=some s)(l:s.cls=.type "function")(z:∀h' e,Heap.MadeExcOf h h' e (.ref C) rest->wpAny (model prog w) A (call (.ref fI) (.ref e::rest)) (λr p=>r=.none/\Q (.done (.ret (.ref e))) p) E ⟨h',g,d,t,os⟩)(hrest:rest.length<=sizeLine:=by size_fits):wpAny (model prog w) A (Builtin.«type.__call__» ⟨.ref C::rest,[]⟩) Q E ⟨h,g,d,t,os⟩:=by
 repeat(first|with_reducible refine akQ k ?_|with_reducible refine wpAny_madeBy_exc k ?_|wp_step)
 refine codeAny_call_builtin_code (Code.quiet_builtin _ F.quiet) (wpAny_check_new_subT F T k ?_);refine codeAny_exc_new_subT F T k ?_ hrest;show wpAny _ _ _ _ _ _;have a:=aih {cls:=.ref C,data:=.fields #[.ref h.objs.size,.none,.none,.none,.bool false,.none]} (aih {cls:=.type "tuple",data:=.seq rest.toArray} k);have c:=aih {cls:=.ref C,data:=.fields #[.ref h.objs.size,.none,.none,.none,.bool false,.none]} (aih {cls:=.type "tuple",data:=.seq rest.toArray} n);have i:((h.push {cls:=.type "tuple",data:=.seq rest.toArray}).push {cls:=.ref C,data:=.fields #[.ref h.objs.size,.none,.none,.none,.bool false,.none]}).Ns N mN:=let⟨o,D,G,e,r⟩:=v;xA o D G (aih _ (aih _ e)) r;have f:((h.push {cls:=.type "tuple",data:=.seq rest.toArray}).push {cls:=.ref C,data:=.fields #[.ref h.objs.size,.none,.none,.none,.bool false,.none]}).get? (h.objs.size+1)=some {cls:=.ref C,data:=.fields #[.ref h.objs.size,.none,.none,.none,.bool false,.none]}:=by heap_get
 have m:(Value.ref C::bm).contains (.ref C)=true:=by simp
 have j:=T.keeps (h':=(h.push {cls:=.type "tuple",data:=.seq rest.toArray}).push {cls:=.ref C,data:=.fields #[.ref h.objs.size,.none,.none,.none,.bool false,.none]}) λb o e=>aih _ (aih _ e);unfold isInstance;repeat(first|with_reducible refine akQ f ?_|(with_reducible refine akx a ?_;rw[m])|wp_step)
 show wpAny _ _ (typeLookup (.ref C) _) _ _ _;refine wpAny_typeLookup_tail a i j F.mroIs F.init.lookup ?_;rw[u];refine aja (aif ?_);unfold bindSpecial;refine aif (wpAny_typeOf (T:="function") ⟨_,c,l⟩ ?_);rw[aij (by decide)];refine aio (aif (aiA (z _ (h.objs.size+1) ⟨λb o H=>aih _ (aih _ H),ai5 (akF _),h.objs.size,f,ai5 (aim _),?_⟩) (λr p y=>?_) λ_ _ x=>x));.exact aih _ (Heap.get?_push_at rfl rfl)
 .obtain⟨rfl,I⟩:=y;wp_walk;exact I
def sV(F:ExcBaseFacts B newId initId bmB)(T:OwnTail h bmB bm){mN:Str->Option Value}{rest:List Value}{fI:Addr}{i:Obj}{Q:Value->Shared->Prop}(a:h.get? C=some (excClassObj nm q C N bs bm hdct sn sub ab col dd k0 k1 k2 k3 k5 newId))(n:h.Ns N mN)(j:mN "__init__"=some (.ref fI))(f:h.get? fI=some i)(c:i.cls=.type "function")(m:∀b e,Heap.MadeExcOf h b e (.ref C) rest->wpAny (model prog w) (A.under (.builtin "type.__call__" ⟨.ref C::rest,[]⟩)) (call (.ref fI) (.ref e::rest)) (λr l=>r=.none/\Q (.ref e) l) E ⟨b,g,d,t,os⟩)(hrest:rest.length<=sizeLine:=by size_fits):wpAny (model prog w) A (call (.ref C) rest) Q E ⟨h,g,d,t,os⟩:=by
 have s:=tc_lookup;have o:=tc_bind (.ref C);have p:(⟨h,g,d,t,os⟩:Shared).TypeIs (.ref C) "type":=⟨_,a,rfl⟩;refine ajy (codeAny_of_tree ?_);show wpAny _ _ (callAny (.ref C) _) _ _ _;repeat(any_goals(first|assumption|with_reducible refine akQ a ?_|wp_step))
 refine⟨rfl,?_⟩;refine codeAny_call_builtin_at (Code.quiet_builtin _ (by decide+kernel)) entry_typeCall (wpAny_check_type_call_sub a (ie (hrest:=hrest) F T a n j f c λb e k=>?_));exact m b e k
end
end L2
namespace L2
open PySem PySem.Spec PyProof.Rows
open PySem.W(findIn mroIn findObj specialIn takesIn clsIn hasDictIn looks_findIn looks_mroIn looks_find InstAt)
def gM(a):refuseLoop a "__setattr__" dj=pure ():=by kernel_rfl
structure ExcS(K:W.Frag)(C:Addr):Prop where
 k:ExcK K C
 m:∃cd,clsIn K C=some cd/\cd.hasDict=true/\(cd.mro=.ref C::dj\/∃D:Addr,cd.mro=.ref C::.ref D::dj)sa:findIn K (.ref C) "__setattr__"=some (some (.builtin "object.__setattr__"))
section
variable{prog:Program}{w:World}{A:Around}{E:Value->Shared->Prop}{s:Shared}{K:W.Frag}{x C:Addr}{ox:Obj}{od:Option Obj}{name:Str}{v:Value}{R:Result->Shared->Prop}
def vh{tk}(k:ExcS K C)(X:K.In s.heap)(I:InstAt s.heap x ox C od)(d:findIn K (.ref C) name=some none)(h:∀b,wpAny (model prog w) A.in1 (Builtin.ObjectAttr.storeInOwnDict (.ref x) (.ref C) (.str name tk) name v b) (λfin a=>match fin with|.done f=>R (.ok f) a|.again c'=>c'.quiet=true/\codeAny (model prog w) A c' R a) (λe a=>R (.error e) a) s):codeAny (model prog w) A (.call (.builtin "object.__setattr__") ⟨[.ref x,.str name tk,v],[]⟩) R s:=by
 have SF:=PySem.F.store_object;refine gD k.m λc j _ i=>?_;refine ajO SF.slot.plain SF.entry (@W.check_slot (model prog w) _ _ s "object.__setattr__" "object" "__setattr__" (.ref x) _ [] _ SF.kind SF.split (I.type.andThen (looks_mroIn X k.k.mo)) (SF.args (.ref x) _ v) ?_);have g:W.Looks (model prog w) s.heap (mroOf (.ref C)) c.mro:=(akK X j).andThen .now;rw[W.osa_eq,refuse_eq];refine aif (aif (I.type.here (aif (g.here ?_))));rw[show refuseLoop (.ref x) "__setattr__" c.mro=pure ()from by
 rcases i with e|⟨D,e⟩;.rw[e,alk,gM]
 .rw[e,alk,alk,gM]];refine aio (aif (I.type.here (aif ((looks_findIn X d).here (aif (aio ?_))))));exact h _
def lA{a0 Q}(k:ExcS K C)(X:K.In s.heap)(a:s.heap.get? x=some (bY C none a0))(z:findIn K (.ref C) name=some none)(h:∀d,Heap.SameBut s.heap.objs.size ((s.heap.push W.emptyDict).update x λo:Obj=>{o with dict:=some s.heap.objs.size}) d->d.Ns1 s.heap.objs.size (λy=>if y=name then some v else none)->Q () {s with heap:=d,toks:=s.toks+2}):wpAny (model prog w) A (setAttr (.ref x) name v) Q E s:=by have I:InstAt s.heap x (bY C none a0) C none:=⟨a,rfl,rfl,True.intro⟩;refine W.set_plain X I k.sa (vh (s:={s with toks:=s.toks+1}) k X I z λb=>?_);refine gD k.m λJ D B _=>?_;unfold Builtin.ObjectAttr.storeInOwnDict;refine aif (aio (aif (aif (akA a (aif (W.Looks.here (s:={s with toks:=s.toks+1}) (akK X D) ?_))))));rw[B];rw[aik (by decide)];have f:=aih (h:=s.heap) W.emptyDict a;have hd1:(s.heap.push W.emptyDict).get? s.heap.objs.size=some W.emptyDict:=ais s.heap rfl;have r:s.heap.objs.size≠x:=aiW (air a);refine aif (wpAny_alloc (aif (wpAny_update (o:=bY C none a0) f (aio ?_))));have i:∀b,b≠x->((s.heap.push W.emptyDict).update x λo:Obj=>{o with dict:=some s.heap.objs.size}).get? b=(s.heap.push W.emptyDict).get? b:=λb G=>aiG _ _ (aiu G);have g:=(i _ r).trans hd1;have u:((s.heap.push W.emptyDict).update x λo:Obj=>{o with dict:=some s.heap.objs.size}).Ns s.heap.objs.size λ_=>none:=n9 W.emptyDict #[] _ g rfl (λe a=>absurd a (by simp)) λ_=>rfl;unfold Builtin.ObjectAttr.storeInDict;refine aif (aio (aif ?_));refine wpAny_nsSet1 (akP u) λd c m=>?_;refine tj (c.count (ns:=[name]) (akO name v λy t=>absurd rfl t)) λH p q j n l=>?_;refine aif (akZ j (by rw[n];exact ak0 (aip l (by rw[ait,ajm,ajS];omega))) ?_);exact aio (h _ m c)
def nC{a0 d g ns Q}(k:ExcS K C)(X:K.In s.heap)(p:s.heap.get? x=some (bY C (some d) a0))(r:s.heap.Ns1 d g)(z:findIn K (.ref C) name=some none)(hw:PySem.Within g ns)(hz:ns.length<=100)(h:∀f,Heap.SameBut d s.heap f->f.Ns1 d (λy=>if y=name then some v else g y)->Q () {s with heap:=f,toks:=s.toks+2}):wpAny (model prog w) A (setAttr (.ref x) name v) Q E s:=by refine pO (id r) λi o q c _=>?_;have I:InstAt s.heap x (bY C (some d) a0) C (some i):=⟨p,rfl,rfl,c⟩;refine W.set_plain X I k.sa (vh k X I z λb=>?_);refine gD k.m λH D B _=>?_;unfold Builtin.ObjectAttr.storeInOwnDict;refine aif (aio (aif (aif (akA p (aif (W.Looks.here (s:={s with toks:=s.toks+1}) (akK X D) ?_))))));rw[B,aik (by decide)];refine aio (a:=some d) ?_;unfold Builtin.ObjectAttr.storeInDict;refine aif (aio (aif ?_));refine wpAny_nsSet1 r λf e m=>?_;refine tj (e.count (akO name v hw)) λG t u j n l=>?_;refine aif (akZ j (by rw[n];exact ak0 (aip l (by rw[ait,ajS];omega))) ?_);exact aio (h _ m e)
end
end L2
namespace L2
open PySem PySem.Spec PyProof.Rows
section
variable{prog:Program}{w:World}{A:Around}{E:Value->Shared->Prop}{h:Heap}{g:Array GenState}{d:Drawn}{t:Nat}{os:OsState}
variable{nm q:Str}{C N:Addr}{bs bm bmB:List Value}{hdct:Bool}{sn:List Str}{sub:List Value}{ab:Bool}{col:Option Bool}{dd:Option Addr}{k0 k1 k2 k3 k5:Option Value}{B newId initId:String}
def xf(F:ExcBaseFacts B newId initId bmB)(T:OwnTail h bmB bm){e:Addr}{dx:Option Addr}{a0:Value}{rest:List Value}{Q:Value->Shared->Prop}(c:h.get? C=some (excClassObj nm q C N bs bm hdct sn sub ab col dd k0 k1 k2 k3 k5 newId))(i:h.get? e=some (bY C dx a0))(hrest:rest.length<=sizeLine)(f:Q .none ⟨(h.push {cls:=.type "tuple",data:=.seq rest.toArray}).update e (Obj.mapFields λx=>x.setIfInBounds 0 (Value.ref h.objs.size)),g,d,t,os⟩):wpAny (model prog w) A (call (.builtin initId) (.ref e::rest)) Q E ⟨h,g,d,t,os⟩:=by
 refine ajy (ajO F.init.plain F.initEntry (wpAny_check_init_subT F T c i rfl ?_));wp_walk;have fin:∀b:Shared,b=⟨(h.push {cls:=.type "tuple",data:=.seq rest.toArray}).update e (Obj.mapFields λx=>x.setIfInBounds 0 (Value.ref h.objs.size)),g,d,t,os⟩->Q .none b:=λb z=>by subst z;exact f
 have go:∀v:Value,wpAny (model prog w) A.in1 (match v with|.ref a=>letGo [v]|x=>pure ()) (λ_ b=>b=⟨(h.push {cls:=.type "tuple",data:=.seq rest.toArray}).update e (Obj.mapFields λx=>x.setIfInBounds 0 (Value.ref h.objs.size)),g,d,t,os⟩) (λ_ _=>False) ⟨(h.push {cls:=.type "tuple",data:=.seq rest.toArray}).update e (Obj.mapFields λx=>x.setIfInBounds 0 (Value.ref h.objs.size)),g,d,t,os⟩:=λv=>by cases v<;>first|exact aio rfl|(wp_walk;rfl)
 refine aiA (go _) (λ_ b z=>aio (fin b z)) λ_ _ z=>z.elim
end
end L2
namespace L2
open PySem PySem.Spec PyProof.Rows
open PySem.W(findIn InstAt)
def dq(d:Addr)(fs:List (Str×V))(h:Heap):Prop:=∃a,h.Ns1 d a/\(∀f,n8 (fs.lookup f) (a f))/\PySem.Within a (fs.map (·.1))
def zV{P w H h e C dx a0}(a:h.get? e=some (bY C dx a0)):bL P w H h e (.ext (g6 e C dx a0)):=⟨a,⟨_,a⟩,λ_ _ q k=>k _ q⟩
def oV{P w H h d fs}(b:dq d fs h):bL P w H h d (.ext (dq d fs)):=by
 refine⟨b,?_,λl m⟨a,j,r,g⟩k=>⟨a,?_,r,g⟩⟩;.obtain⟨a,⟨o,_,_,e,_⟩,_⟩:=b;exact⟨o,e⟩
 .refine pO j λo f i e c=>?_;exact xA o f i (k _ e) c
section
variable{X:Cx}{pins:List (Addr×Obj)}{σ:St}{H:Hp}{s:Shared}{e C:Addr}{f:Str}{A:Around}{E:Value->Shared->Prop}
def qT(I:Inv X pins σ H s){dx a0}(q:H e=some (.ext (g6 e C dx a0))):s.heap.get? e=some (bY C dx a0):=(I.hok e _ q).1
def ri{y u Q a0}(k:ExcS X.K C)(I:Inv X pins σ H s)(q:H e=some (.ext (g6 e C none a0)))(T:findIn X.K (.ref C) f=some none)(J:RelV y u)(h:∀d D,H d=none->d≠e->Inv X pins σ (upd (upd H d (.ext (dq d [(f,y)]))) e (.ext (g6 e C (some d) a0))) D->Q () D):wpAny (model X.prog X.w) A (setAttr (.ref e) f u) Q E s:=by
 have c:=qT I q;refine lA k I.kIn c T λh' B l=>h s.heap.objs.size _ (I.hok.fresh (aim _)) (aiW (air c)) ?_;have r:=aiW (air c);have p:=aih (h:=s.heap) W.emptyDict c;have hd1:(s.heap.push W.emptyDict).get? s.heap.objs.size=some W.emptyDict:=ais s.heap rfl;have S:(s.heap.push W.emptyDict).Ns s.heap.objs.size λ_=>none:=n9 W.emptyDict #[] _ hd1 rfl (λe c=>absurd c (by simp)) λ_=>rfl;have N:=I.laid (a:=s.heap.objs.size) (o:=.ext (dq s.heap.objs.size [])) (h':=s.heap.push W.emptyDict) (t':=s.toks) (λb u q=>aih _ q) (aim _) (oV ⟨_,akP S,λ_=>True.intro,λy M=>absurd rfl M⟩);have m:=ai1 (h:=s.heap.push W.emptyDict) (λo:Obj=>{o with dict:=some s.heap.objs.size}) p rfl;have v:∀b,b≠e->((s.heap.push W.emptyDict).update e λo:Obj=>{o with dict:=some s.heap.objs.size}).get? b=(s.heap.push W.emptyDict).get? b:=λb j=>aiG _ _ (aiu j);have R:upd H s.heap.objs.size (.ext (dq s.heap.objs.size [])) e=some (.ext (g6 e C none a0)):=by rw[ae (aiu r)];exact q
 have P:=N.write (x:=e) (e:=e) (o:=.ext (g6 e C (some s.heap.objs.size) a0)) (t':=s.toks) (by rw[R];exact True.intro) (.inl rfl) (λb u j q=>(v b j).trans q) ⟨_,m⟩ (zV (a0:=a0) m);have w:∃o,h'.get? s.heap.objs.size=some o:=let⟨o,_,_,O,_⟩:=l;⟨o,O⟩;have G:=P.write (x:=s.heap.objs.size) (e:=s.heap.objs.size) (o:=.ext (dq s.heap.objs.size [(f,y)])) (h':=h') (t':=s.toks+2) (by rw[ae r,ah];exact True.intro) (.inl rfl) (λb u j q=>(B.2 b j).trans q) w (oV ⟨_,l,λg=>by
 by_cases z:g=f;.rw[aij z,z];simp only[List.lookup,beq_self_eq_true];exact J
 .rw[aik z,show([(f,y)]:List (Str×V)).lookup g=none from by simp[List.lookup,ai9.mpr z]];exact True.intro,λg K=>by
  by_cases z:g=f;.rw[z];exact aiI
  .exact absurd (aik z) K⟩);have t:upd (upd (upd H s.heap.objs.size (.ext (dq s.heap.objs.size []))) e (.ext (g6 e C (some s.heap.objs.size) a0))) s.heap.objs.size (.ext (dq s.heap.objs.size [(f,y)]))=upd (upd H s.heap.objs.size (.ext (dq s.heap.objs.size [(f,y)]))) e (.ext (g6 e C (some s.heap.objs.size) a0)):=by
  funext b;unfold upd;by_cases i:b=s.heap.objs.size;.rw[aij i,aik (by rw[i];exact r),aij i]
  .rw[aik i];by_cases n:b=e;.rw[aij n,aij n]
   .rw[aik n,aik n,aik i,aik i]
 rw[t]at G;exact G
def tH{y u d fs Q a0}(k:ExcS X.K C)(I:Inv X pins σ H s)(q:H e=some (.ext (g6 e C (some d) a0)))(n:H d=some (.ext (dq d fs)))(O:d≠e)(M:findIn X.K (.ref C) f=some none)(t:RelV y u)(P:fs.length<=50)(G:fs.lookup f=none)(h:∀m,Inv X pins σ (upd H d (.ext (dq d (fs++[(f,y)])))) m->Q () m):wpAny (model X.prog X.w) A (setAttr (.ref e) f u) Q E s:=by
 have B:=qT I q;refine gD (I.hok d _ n).1 λN K r p=>?_;refine nC k I.kIn B K M p (by rw[aiR];omega) λJ l a=>h _ ?_;have j:∃o,J.get? d=some o:=let⟨o,_,_,c,_⟩:=a;⟨o,c⟩;refine I.write (by rw[n];exact True.intro) (.inl rfl) (λb u D q=>(l.2 b D).trans q) j (oV ⟨_,a,λg=>?_,λg x=>?_⟩)
 .have w:(fs++[(f,y)]).lookup g=match fs.lookup g with|some v=>some v|none=>([(f,y)]:List (Str×V)).lookup g:=by grind
  rw[w];by_cases z:g=f;.rw[aij z,z,G];simp only[List.lookup,beq_self_eq_true];exact t
  .have i:=r g;rw[aik z];cases c:fs.lookup g with|some v=>rw[c]at i;exact i|none=>rw[c]at i;rw[show[(f,y)].lookup g=none from by simp[List.lookup,ai9.mpr z]];exact i
 .rw[alg];by_cases z:g=f;.rw[z];exact aiy _ aiI
  .exact aiP _ (p g λy=>x (by grind))
end
section
variable{X:Cx}{e:Expr}{es:List Expr}{pos:Pos}{ta:TE}{ts:List TE}
def ace(ta:TE):TE:=λb H Q=>ta b H λx a=>(∃i:Int,x=.int i/\i.natAbs.log2<1920/\Q (.str (toString i)) a)\/∃y:Str,x=.str y/\y.length<=sizeLine/\Q (.str y) a
def vf(l:PE X e ta):PE X (.FormattedValue e (-1) none pos) (ace ta):=by
 intro a s k H Q I h;refine akg (thn (l a s k H _ I h) λu n b=>?_);refine jP b λx c d f q=>?_;rcases q with⟨i,rfl,g,q⟩|⟨y,rfl,j,q⟩;.obtain⟨t,rfl⟩:=f;exact PyProof.Rows.formatField_int_small g (fg (.str _) c (d.tok _) ⟨_,rfl⟩ q)
 .obtain⟨t,rfl⟩:=f;exact ai2 (λm tk=>fg (.str y) c (d.tok tk) ⟨_,rfl⟩ q) j
def tJ:List TE->Str->TE|[],acc=>λa H Q=>acc.length<=sizeLine/\Q (.str acc) H|t::ts,acc=>λa H Q=>t a H λx b=>∃y:Str,x=.str y/\(acc++y).length<=sizeLine/\tJ ts (acc++y) a b Q
theorem km:∀{es ts},Paired (PE X) es ts->∀b a s(c:St)H Q,Inv X a c H s->tJ ts b c H Q->wpAny (model X.prog X.w) X.A (joinParts b (es.map λe=>eval e X.env)) (EP X a c Q) X.xe s|[],[],_,b,a,s,c,H,Q,I,h=>PyProof.Rows.joinParts_nil (fg (.str _) H (I.tok _) ⟨_,rfl⟩ h.2) h.1|e::es,t::ts,.cons p ps,b,a,s,c,H,Q,I,h=>by refine PyProof.Rows.joinParts_cons (thn (p _ s c H _ I h) λu k d=>?_);obtain⟨x,f,g,i,y,ex,j,q⟩:=d;subst ex;obtain⟨t,rfl⟩:=i;exact⟨j,km ps _ _ _ c f Q g q⟩
def oK{c b es}(g:Paired (PE X) (c::b::es) ts)(d:evalEach es X.env=es.map λe=>eval e X.env:=by rfl):PE X (.JoinedStr (c::b::es) pos) (tJ ts Str.empty):=by intro a s f H Q I h;refine PyProof.Rows.JoinedStr_many ?_;rw[d];exact km g _ _ s f H Q I h
end
def r6{K h N a n v}(X:K.In h)(G:h.Ns N a)(e:W.nsIn K N n=some (some v)):a n=some v:=by
 refine xm G λo m p j i _ f=>?_;unfold W.nsIn at e;split at e
 .rename_i c d b l k q;have:=X _ _ q;rw[j]at this;cases this;cases i;split at e;.rename_i r g;cases e;rw[<-f];unfold nsFind findBy;rw[<-akG,g];rfl
  .split at e<;>cases e
 .cases e
def ah8(h:Heap)(C fI:Addr):Prop:=∃(b:List Value)(N:Addr)(i n:Str)(bs:List Value)(l:Bool)(d:List Str)(sub:List Value)(j:Bool)(a:Option Bool)(k:Option Addr)(f o g m e:Option Value)(c:Str->Option Value),h.get? C=some (excClassObj i n C N bs b l d sub j a k f o g m e "ValueError.__new__")/\h.Ns N c/\c "__init__"=some (.ref fI)/\OwnTail h dj b
def pE{K:W.Frag}{h:Heap}{C fI:Addr}(X:K.In h)(q:ib K C (some (.ref fI))):ah8 h C fI:=q.out X λe l k r bs o d sub m b n i s j p f g a c t=>⟨e,l,k,r,bs,o,d,sub,m,b,n,i,s,j,p,f,_,g,.of_isNs (W.isNs_of_in X a),r6 X (.of_isNs (W.isNs_of_in X a)) c,t⟩
section
variable{X:Cx}{e:Expr}{es:List Expr}{x:Str}{np apos pos:Pos}{t:TA}{C D fI:Addr}
def uz(C:Addr)(t:TA):TE:=λf H Q=>t f H λd b=>∃ex c g y,d=[.ref ex,.str y]/\b ex=some (.ext (g6 ex C c g))/\∀a,b a=none->a≠ex->Q .non (upd (upd b a (.tup [.str y])) ex (.ext (g6 ex C c (.ref a))))
def qr{pl}(hg:Gl X x)(hm:X.mg x=some (.ref D))(P:W.readsIn X.K D (.type "type")=true)(hf:W.findCls X.K (.ref D) (.type "type") "__init__"=some (.val (.builtin "ValueError.__init__")))(hs:W.specialIn X.K (.ref D) "__getattribute__"=some (some (.builtin "type.__getattribute__")))(hC:ib X.K C (some (.ref fI)))(S:PA X (e::es) t)(A:Dbg x:=by decide)(z:SE X e es:=by rfl)(p:BT X pos es:=by rfl)(R:eval (.Call (.Attribute (.Name x np) "__init__" apos) (e::es) [] pos) X.env=(do
   let K <-eval (.Name x np) X.env
   standAt apos.atName let(f,first)<-holding [K] (getMethod K "__init__" pl)callWith pos f first (backTo pos (starEach (e::es) X.env)) (backToKw pos (keywordEach [] X.env))):=by rfl):PE X (.Call (.Attribute (.Name x np) "__init__" apos) (e::es) [] pos) (uz C t):=by
 intro i s Z H Q I h;refine W.methodCall_KW (pl:=pl) (cg I hg hm ?_ A) R;refine W.method_cls I.kIn hs (W.cls_value I.kIn P hf rfl ?_);have O:=I.tok (s.toks+1);refine ako (thn (S pos i _ Z H _ O h) λus s1 B=>?_) z p;obtain⟨vs,H1,m,r1,ex,dx,a0,y,ev,M,Y⟩:=B;subst ev;obtain⟨n,c,rfl,ru,G⟩:∃n c,us=n::c/\RelV (.ref ex) n/\Vals [.str y] c:=by cases r1 with|cons a b=>exact⟨_,_,rfl,a,b⟩
 cases show n=Value.ref ex from ru;have w:=qT m M;obtain⟨bm,N,nm,qn,bs,hd,sn,sub,ab,a1,dd,k0,k1,k2,k3,k5,mN,v,hN,_,T⟩:=pE m.kIn hC;have k:c.length<=sizeLine:=by rw[<-G.length];exact show 1<=sizeLine by decide
 obtain⟨l,g,d,tk,os⟩:=s1;have E:=aiW (air w);refine xf ai7 T v w k ⟨.non,_,?_,rfl,Y l.objs.size (m.hok.fresh (aim _)) E⟩;have r:=aih (h:=l) {cls:=.type "tuple",data:=.seq c.toArray} w;have J:=m.laid (a:=l.objs.size) (o:=.tup [.str y]) (h':=l.push {cls:=.type "tuple",data:=.seq c.toArray}) (t':=tk) (λb u q=>aih _ q) (aim _) ⟨show 1<=sizeLine by decide,c,G,⟨_,ais _ rfl,rfl,_,rfl⟩⟩;have j:=ai1 (Obj.mapFields λx=>x.setIfInBounds 0 (Value.ref l.objs.size)) r rfl;exact J.write (x:=ex) (e:=ex) (t':=tk) (by rw[ae (aiu E),M];exact True.intro) (.inl rfl) (λb u U q=>by rw[aiG _ _ (aiu U)];exact q) ⟨_,j⟩ (zV j)
end
end L2
set_option autoImplicit true
set_option relaxedAutoImplicit true
namespace L2
open PySem PySem.Spec PyProof.Rows
open PySem.W(findIn InstAt)
section
variable{prog:Program}{w:World}{A:Around}{E:Value->Shared->Prop}{s:Shared}{env:Env}
variable{nm q:Str}{C N:Addr}{bs bm bmB:List Value}{hdct:Bool}{sn:List Str}{sub:List Value}{ab:Bool}{col:Option Bool}{dd:Option Addr}{k0 k1 k2 k3 k5:Option Value}{B newId initId:String}
def ExB(C:Addr)(h:Heap):Prop:=∃nm q N bs bm hdct sn sub ab col dd k0 k1 k2 k3 k5 newId,bm.contains (.type "BaseException")=true/\h.get? C=some (excClassObj nm q C N bs bm hdct sn sub ab col dd k0 k1 k2 k3 k5 newId)
def aeT(F:ExcBaseFacts B newId initId bmB){mN fI x K i c}{Z:Value->Shared->Prop}(m:bm.contains (.type "BaseException")=true)(j:(backTo i (starEach c env)).any (·.1)=false)(Q:mN "__init__"=some (.ref fI))(h:wpAny (model prog w) A (eval (.Name x K) env) (λf l=>f=.ref C/\wpAny (model prog w) A (evalArgs (.ref C) true (backTo i (starEach c env)) []) (λa b=>a.kw=[]/\a.pos.length<=sizeLine/\b.heap.get? C=some (excClassObj nm q C N bs bm hdct sn sub ab col dd k0 k1 k2 k3 k5 newId)/\b.heap.Ns N mN/\OwnTail b.heap bmB bm/\(∃u,b.heap.get? fI=some u/\u.cls=.type "function")/\∀t e,Heap.MadeExcOf b.heap t e (.ref C) a.pos->wpAny (model prog w) (A.under (.builtin "type.__call__" ⟨.ref C::a.pos,[]⟩)) (call (.ref fI) (.ref e::a.pos)) (λr k=>r=.none/\k.heap.get? C=some (excClassObj nm q C N bs bm hdct sn sub ab col dd k0 k1 k2 k3 k5 newId)/\∃o p,k.heap.get? e=some (bY C o p)/\Z (.ref e) k) E {b with heap:=t}) E l) E s):wpAny (model prog w) A (eval (.Call (.Name x K) c [] i) env) (λv k=>∃e o p,v=.ref e/\ExB C k.heap/\k.heap.get? e=some (bY C o p)/\Z (.ref e) k) E s:=by refine wpAny_Call_ofName (aiA h (λf l d=>?_) λ_ _ x=>x);obtain⟨rfl,d⟩:=d;refine aif (aja (aiA d (λa b g=>aif (ajw ?_)) λ_ _ x=>x));obtain⟨M,D⟩:=a;obtain⟨G,n,I,U,T,⟨u,y,H⟩,g⟩:=g;obtain rfl:D=[]:=G;simp only[j];refine aif (wpAny_keeperOf_exc I ?_);refine aif (sV (hrest:=n) F T I U Q y H λt e O=>aiA (g t e O) (λr k J=>⟨J.1,aif (aja (wpAny_point (aio ?_)))⟩) λ_ _ z=>z);obtain⟨_,S,o,p,R,P⟩:=J;exact⟨e,o,p,rfl,⟨_,_,_,_,_,_,_,_,_,_,_,_,_,_,_,_,_,m,S⟩,R,P⟩
def rR{x pos Q}(k:A.handled=none)(h:wpAny (model prog w) A (eval x env) (λv c=>∃e d f,v=.ref e/\ExB C c.heap/\c.heap.get? e=some (bY C d f)/\E (.ref e) c) E s):wpAny (model prog w) A (exec (.Raise (some x) none pos) env) Q E s:=by
 rw[arm_exec_Raise];refine aif (ajw (aif (aif (aiA h (λv g a=>aif (ajw (aio ?_))) λ_ _ x=>x))));obtain⟨e,d,f,rfl,⟨nm,q,N,bs,bm,hdct,sn,sub,ab,col,dd,k0,k1,k2,k3,k5,newId,m,i⟩,l,j⟩:=a;have b:(Value.ref C::bm).contains (.type "BaseException")=true:=by grind
 repeat(first|(with_reducible refine akx i ?_;rw[b])|wp_step)
 exact wpAny_raiseNew_none k j
end
section
variable{X:Cx}{o value:Expr}{f:Str}{pos pos':Pos}{ta tv:TE}{C:Addr}
def sX1(C:Addr)(ta tv:TE)(f:Str):TS:=λD b H=>tv b H λy g=>ta b g λx a=>∃e c,x=.ref e/\a e=some (.ext (g6 e C none c))/\∀d,a d=none->d≠e->D.nx b (upd (upd a d (.ext (dq d [(f,y)]))) e (.ext (g6 e C (some d) c)))
def sX2(C:Addr)(ta tv:TE)(f:Str):TS:=λD b H=>tv b H λy c=>ta b c λx a=>∃e d fs g,x=.ref e/\a e=some (.ext (g6 e C (some d) g))/\a d=some (.ext (dq d fs))/\d≠e/\fs.length<=50/\fs.lookup f=none/\D.nx b (upd a d (.ext (dq d (fs++[(f,y)]))))
def ado(k:ExcS X.K C)(A:findIn X.K (.ref C) f=some none)(p:PE X o ta)(r:PE X value tv)(j:swapsWith value (some (.Attribute o f pos')) pos.line X.env=pure false):PS X (.Assign [.Attribute o f pos'] value pos) (sX1 C ta tv f):=by intro c s a H D I h;refine ajt (thn (r _ s a H _ I h) λu J⟨y,E,l,g,q⟩=>thn (p _ _ a _ _ l q) λG B b=>?_) j;obtain⟨x,N,t,n,e,K,ex,v,w⟩:=b;subst ex;obtain rfl:=n;exact ri k t v A g λd M z i m=>⟨a,_,m,w d z i⟩
def af3(k:ExcS X.K C)(E:findIn X.K (.ref C) f=some none)(p:PE X o ta)(r:PE X value tv)(j:swapsWith value (some (.Attribute o f pos')) pos.line X.env=pure false):PS X (.Assign [.Attribute o f pos'] value pos) (sX2 C ta tv f):=by intro c s a H D I h;refine ajt (thn (r _ s a H _ I h) λu M⟨y,J,l,g,q⟩=>thn (p _ _ a _ _ l q) λK G b=>?_) j;obtain⟨x,P,t,n,e,d,fs,N,ex,v,z,i,B,w,A⟩:=b;subst ex;obtain rfl:=n;exact tH k t v z i E g B w λO m=>⟨a,_,m,A⟩
end
noncomputable def del(H:Hp)(e:Addr):Hp:=λb=>if b=e then none else H b
section
variable{X:Cx}{pins:List (Addr×Obj)}{σ:St}{H:Hp}{s:Shared}{e C d:Addr}{fs:List (Str×V)}
def Inv.aaJ{φ}(I:Inv X pins σ H s)(q:H e=some (.ext φ)):Inv X pins σ (del H e) s:=by
 have none_of:∀{b},H b=none->del H e b=none:=λ{b}h=>by unfold del;split<;>first|rfl|exact h
 have keep:∀{b o},H b=some o->(∀l,o≠.ext l)->del H e b=some o:=λ{b o}h n=>by unfold del;rw[aik λz=>by grind];exact h
 refine⟨I.ok,I.os,I.bare,⟨I.base.keep,I.base.slot,λb o g i f=>none_of (I.base.free b o g i f),I.base.there,λb j h=>keep (I.base.tups b j h) (λ_ z=>by cases z),λb o u h=>keep (I.base.frzs b o u h) (λ_ z=>by cases z),λb k h=>?_⟩,I.loc,I.cell,none_of I.free,λx c h=>none_of (I.freeC x c h),λp t=>?_,λb u h=>?_,I.len⟩;.obtain⟨a,r⟩:=I.base.tbls b k h;exact⟨a,keep r λ_ z=>by cases z⟩
 .refine aak (I.pin p t) λg i f=>?_;exact⟨g,none_of i,f⟩
 .have m:=by
   unfold del at h;split at h;.cases h
   .exact h
  exact(I.hok b u m).n6 (λ_ _ _ z=>z) (λc z=>keep z λ_ y=>by cases y) λc j z=>keep z λ_ y=>by cases y
def Inv.acP (I:Inv X pins σ H s)(f:FpX X pins H e)(new:φ s.heap/\(∃o,s.heap.get? e=some o)/\∀h i,φ h->(∀o,h.get? e=some o->i.get? e=some o)->φ i):Inv X pins σ (upd H e (.ext φ)) s:=by
 have g:∀b u,H b=some u->b≠e:=λb u q z=>by rw[z,f.1]at q;cases q
 have:=I.x9 (H':=upd H e (.ext φ)) (d':=s.drawn) (t':=s.toks) (λb a=>by rw[aiX.mp a];exact⟨f.2.2.2.1,f.2.1,f.2.2.2.2.1,f.2.2.2.2.2⟩) (λb o _ _ _ q _=>q) (λb o _ _ _ q _=>⟨o.slots,q⟩) (λb o a _ n=>by rw[ae λz=>a (by grind)];exact n) (λb o _ q=>⟨o,q⟩) (λb k q=>by rw[ae (g b _ q)];exact q) (λb o u q=>by rw[ae (g b _ q)];exact q) (λb l q=>⟨#[],by rw[ae (g b _ q),q];simp⟩) (λm j=>j) (λb u q=>by
   by_cases a:b=e;.subst a;rw[ah]at q;cases q;exact new
   .rw[ae a]at q;exact(I.hok b u q).n6 (λ_ _ _ z=>z) (λc z=>by rw[ae (g c _ z)];exact z) λc k z=>by rw[ae (g c _ z)];exact z) I.bare;exact this
theorem Inv.xd(I:Inv X pins σ H s)(q:H d=some (.ext (dq d fs))):Inv X pins σ (upd H d (.xd fs)) s:=by obtain⟨b,a,r,g⟩:=(I.hok d _ q).1;have f:∃u,s.heap.get? d=some u:=let⟨o,_,_,c,_⟩:=a;⟨o,c⟩;exact I.write (by rw[q];exact True.intro) (.inl rfl) (λ_ _ _ z=>z) f ⟨b,a,r⟩
end
def spG(C:Addr)(b:List Str)(L:Nat)(G:List V->Hp->Prop):Sp:=λc H Q _=>∃e ws f,c=.ref e::ws/\ws.length=b.length/\H e=some (.ext (g6 e C none f))/\G ws H/\∀a y d,H a=none->y.length<=L->upd H a (.tup [.str y]) d=none->d≠e->Q .non (upd (upd (upd H a (.tup [.str y])) d (.ext (dq d (b.zip ws)))) e (.ext (g6 e C (some d) (.ref a))))
def zP(ws:List V)(_:Hp):Prop:=∀w∈ws,∃i:Int,w=.int i/\i.natAbs.log2<100
abbrev spI(C:Addr)(a:List Str):Sp:=spG C a 50000 zP
section
variable{X:Cx}{t:TA}{x:Str}{C fI:Addr}{fd:FuncData}{ps fl:List Str}{k:Nat}{np cpos pos:Pos}{e:Expr}{es:List Expr}
def qG{G L}(hg:Gl X x)(hm:X.mg x=some (.ref C))(q:ib X.K C (some (.ref fI)))(a3:W.typeIn X.K (.ref fI)=some (.type "function"))(F:FnOk X.prog X.w X.K X.mg X.base CX0 k fI fd ps (spG C fl L G))(gm:∀ws H b o,H b=none->G ws H->G ws (upd H b o))(hr:Room (k+1) X.A)(hb:Binds X.K fd ps [])(ha:PA X (e::es) t){pins s S H}{Z:Value->Shared->Prop}{R:List V->Hp->Prop}(I:Inv X pins S H s)(h:t S H R)(hR:∀f D,R f D->f.length=fl.length/\G f D/\fl.length<=50/\∀s e d c y,D c=none->y.length<=L->upd D c (.tup [.str y]) d=none->d≠e->Inv X pins S (upd (upd D c (.tup [.str y])) d (.xd (fl.zip f))) s->s.heap.get? e=some (bY C (some d) (.ref c))->FpX X pins (upd (upd D c (.tup [.str y])) d (.xd (fl.zip f))) e->Z (.ref e) s)(hd:Dbg x:=by decide)(he:SE X e es:=by rfl)(j:BT X cpos es:=by rfl):wpAny (model X.prog X.w) X.A (eval (.Call (.Name x np) (e::es) [] cpos) X.env) (λv P=>∃e dx a0,v=.ref e/\ExB C P.heap/\P.heap.get? e=some (bY C dx a0)/\Z (.ref e) P) X.xe s:=by
 obtain⟨bm,N,nm,qn,bs,hdct,sn,sub,ab,col,dd,k0,k1,k2,k3,k5,mN,hC,hN,hi,T⟩:=pE I.mod.kin q;refine dh (aiL.mp a3) λoI a1 a2=>?_;refine aeT (C:=C) (nm:=nm) (q:=qn) (N:=N) (bs:=bs) (bm:=bm) (hdct:=hdct) (sn:=sn) (sub:=sub) (ab:=ab) (col:=col) (dd:=dd) (k0:=k0) (k1:=k1) (k2:=k2) (k3:=k3) (k5:=k5) ai7 (mN:=mN) (fI:=fI) (T.hasType ai7.hasBase) (by rw[he];show(false||(backTo cpos (starEach es X.env)).any (·.1))=false;rw[j];rfl) hi (cg I hg hm ⟨rfl,?_⟩ hd);have hA:=ha cpos pins s S H _ I h;rw[he]at hA⊢;refine akq (thn hA λp s2⟨f,i,m,r2,q2⟩=>⟨rfl,?_,m.bk _ _ hC,hN.keeps m.bk,T.keeps m.bk,⟨oI,m.bk _ _ (I.mod.kin _ _ a1),a2⟩,λh' a hx=>?_⟩);.rw[<-r2.length,(hR _ _ q2).1];exact aip (hR _ _ q2).2.2.1 (by decide)
 obtain⟨hl,a5,a6,q2⟩:=hR _ _ q2;refine gD hx.there λg h1 h2 h3=>?_;have hH:i a=none:=by cases z:i a with|none=>rfl|some u=>obtain⟨o,ho⟩:=cV (m.hok a u z);rw[hx.new]at ho;cases ho
 have J:=m.kept (t':=s2.toks) hx.keeps;have fp:∀K,K a=none->FpX X pins K a:=λK hn=>m.fpX hx.new hn;have J2:Inv X pins S (upd i a (.ext (g6 a C none (.ref g)))) {s2 with heap:=h'}:=J.acP (fp i hH) ⟨h1,⟨_,h1⟩,λ_ _ z k=>k _ z⟩;have r3:Vals (V.ref a::f) (Value.ref a::p):=.cons rfl r2;let Q':VK:=λv K=>v=.non/\∃c y d,upd i a (.ext (g6 a C none (.ref g))) c=none/\y.length<=L/\upd (upd i a (.ext (g6 a C none (.ref g)))) c (.tup [.str y]) d=none/\d≠a/\K=upd (upd (upd (upd i a (.ext (g6 a C none (.ref g)))) c (.tup [.str y])) d (.ext (dq d (fl.zip f)))) a (.ext (g6 a C (some d) (.ref c)));have sp:spG C fl L G (V.ref a::f) (upd i a (.ext (g6 a C none (.ref g)))) Q' λ_ _ _=>False:=⟨a,f,_,rfl,hl,ah,gm _ _ _ _ hH a5,λc y d n M O z4=>⟨rfl,c,y,d,n,M,O,z4,rfl⟩⟩;have Y:(Value.ref a::p).length=ps.length:=by rw[<-r3.length];exact F.len _ _ _ _ sp
 have Q:=hb {s2 with heap:=h'} (Value.ref a::p) J2.kIn (by rw[aiS];exact Y);rw[aiS]at Q;refine ajy (ajX (F.run _ X.stack _ _ ⟨Value.ref a::p,[]⟩ (Value.ref a::p) _ Q' (λ_ _ _=>False) (hr.make C p []) trivial (J2.afj.make C p []) Q r3 sp) λr P A=>?_);cases r with|error e'=>exact False.elim A|ok fl'=>cases fl' with|next|brk|cont=>exact False.elim A|ret u=>
   obtain⟨v,K,I3,rv,ev,c,y,d,B,hy,l,E,eH⟩:=J2.after A;subst ev eH;have w:c≠a:=λz=>by rw[z,ah]at B;cases B
   have a4:d≠c:=λz=>by rw[z,ah]at l;cases l
   have U:=qT I3 (e:=a) (C:=C) (dx:=some d) ah;refine⟨rv,I3.bk _ _ hC,some d,_,U,?_⟩;have I4:=I3.xd (d:=d) (fs:=fl.zip f) (by rw[ae E,ah]);have I5:=I4.aaJ (e:=a) (φ:=g6 a C (some d) (.ref c)) (by rw[ae (aiu E),ah]);have eH:del (upd (upd (upd (upd (upd i a (.ext (g6 a C none (.ref g)))) c (.tup [.str y])) d (.ext (dq d (fl.zip f)))) a (.ext (g6 a C (some d) (.ref c)))) d (.xd (fl.zip f))) a=upd (upd i c (.tup [.str y])) d (.xd (fl.zip f)):=by
    funext b;unfold del;by_cases n:b=a;.rw[aij n,n,ae (aiu E),ae (aiu w),hH]
    .rw[aik n];by_cases M:b=d;.rw[M,ah,ah]
     .rw[ae M,ae n,ae M,ae M];by_cases O:b=c;.rw[O,ah,ah]
      .rw[ae O,ae O,ae n]
   rw[eH]at I5;refine q2 P a d c y (by rwa[ae w]at B) hy (by rw[ae a4]at l⊢;rwa[ae E]at l) E I5 U (fp _ (by rw[ae (aiu E),ae (aiu w)];exact hH))
def aaP(X:Cx)(C:Addr)(fl:List Str)(t:TA):TS:=λ_ g H=>t g H λf b=>f.length=fl.length/\zP f b/\fl.length<=50/\∀a s e d c y,b c=none->y.length<=50000->upd b c (.tup [.str y]) d=none->d≠e->Thr X a g (upd (upd b c (.tup [.str y])) d (.xd (fl.zip f))) s e C (some d,.ref c,.none) .none none->X.xe (.ref e) s
def uY(w:X.calm=true)(j:Gl X x)(n:X.mg x=some (.ref C))(q:ib X.K C (some (.ref fI)))(f:W.typeIn X.K (.ref fI)=some (.type "function"))(F:FnOk X.prog X.w X.K X.mg X.base CX0 k fI fd ps (spI C fl))(p:Room (k+1) X.A)(A:Binds X.K fd ps [])(v:PA X (e::es) t)(E:Dbg x:=by decide)(c:SE X e es:=by rfl)(a:BT X cpos es:=by rfl):PS X (.Raise (some (.Call (.Name x np) (e::es) [] cpos)) none pos) (aaP X C fl t):=λb s O H D I h=>rR (C:=C) (I.ok.hd w) (qG j n q f F (λ_ _ _ _ _ z=>z) p A v I h (λN M⟨B,r,i,l⟩=>⟨B,r,i,λs e d m y u o g K J c G=>l b s e d m y u o g K ⟨J,⟨_,_,c,rfl,rfl,rfl,rfl,rfl,rfl⟩,G,λt z=>by cases z⟩⟩) E c a)
end
end L2
namespace L2
open PySem PySem.Spec PyProof.Rows
section
variable{prog:Program}{w:World}{A:Around}{E:Value->Shared->Prop}{s:Shared}
def lH:entryFor table "proto.unchain"=some Builtin.«proto.unchain»:=entryFor_of_tree (by kernel_rfl)
def kT{α:Type}{e h:Addr}{i g:Obj}{a b:Array Value}{Q:α->Shared->Prop}(o:A.handled=some (.ref h))(j:s.heap.get? e=some i)(f:i.data=.fields a)(hsz:2<a.size)(m:s.heap.get? h=some g)(d:g.data=.fields b)(n:b[2]?=some .none)(k:h≠e)(l:E (.ref e) {s with heap:=s.heap.update e (Obj.mapFields (·.setIfInBounds 2 (.ref h)))}):wpAny (model prog w) A (raiseNew (α:=α) (.ref e)) Q E s:=by
 simp only[raiseNew];refine aif (wpAny_handled ?_);rw[o];have c:(Value.ref h !=Value.ref e)=true:=by simpa using k
 show wpAny _ _ (if(Value.ref h !=Value.ref e)=true then _ else _) _ _ _;rw[aij c];refine aif (aja (wpAny_runValue (codeAny_builtin lH ?_)));show wpAny _ _ (field (.ref h) 2 >>=_) _ _ s;refine aif (aiF m d n ?_);refine aif (aio (aio ?_));unfold updateField;refine aif (aif (wpAny_load j ?_));rw[f];show wpAny _ _ (if 2<a.size then _ else _) _ _ _;rw[aij hsz];exact wpAny_update j (wpAny_throw l)
end
end L2
set_option autoImplicit true
set_option relaxedAutoImplicit true
namespace L2
open PySem PySem.Spec PyProof.Rows
open PySem.W(findIn InstAt mroIn)
section
variable{prog:Program}{w:World}{A:Around}{E:Value->Shared->Prop}{s:Shared}{env:Env}{C Ch h e:Addr}
def qS{a:Obj}{vs m}{Q:Value->Shared->Prop}(B:s.heap.get? e=some a)(r:a.cls=.ref C)(p:a.data=.fields vs)(k:ExB C s.heap)(n:Q (.ref e) s):wpAny (model prog w) A (excFromValue (.ref e) m) Q E s:=by
 obtain⟨z,q,N,bs,j,i,t,sub,D,o,G,x,H,y,J,u,f,M,l⟩:=k;have b:(Value.ref C::j).contains (.type "BaseException")=true:=by grind
 obtain⟨c,d,I,v⟩:=a;cases r;cases p;obtain⟨K,g,d,tk,os⟩:=s;unfold excFromValue isExcClass;repeat(first|(with_reducible refine akx l ?_;rw[b])|wp_step)
 exact n
def oG{x c pos Q}(hh:A.handled=some (.ref h))(h1:wpAny (model prog w) A (eval x env) (λv d=>∃e n p,v=.ref e/\ExB C d.heap/\d.heap.get? e=some (bY C n p)/\wpAny (model prog w) A (eval c env) (λcv a=>cv=.ref h/\ExB C a.heap/\a.heap.get? e=some (bY C n p)/\h≠e/\ExB Ch a.heap/\(∃r j,a.heap.get? h=some r/\r.cls=.ref Ch/\r.data=.fields j/\j[2]?=some .none)/\∀J,(∀b o,b≠e->a.heap.get? b=some o->J.get? b=some o)->J.get? e=some {cls:=.ref C,dict:=n,data:=.fields #[p,.none,.ref h,.ref h,.bool true,.none]}->E (.ref e) {a with heap:=J}) E d) E s):wpAny (model prog w) A (exec (.Raise (some x) (some c) pos) env) Q E s:=by
 rw[arm_exec_Raise];refine aif (ajw (aif (aif (aiA h1 (λv d k=>aif (ajw (aio ?_))) λ_ _ x=>x))));obtain⟨e,n,p,rfl,_,_,h2⟩:=k;refine aif (aja (aif (aiA h2 (λv a l=>aif (ajw (aio (aif (aio ?_))))) λ_ _ x=>x)));obtain⟨rfl,Z,y,O,D,⟨r,j,ho,B,m,K⟩,hE⟩:=l;refine aif (aja (qS y rfl rfl Z ?_));dsimp only;rw[aik (by simp)];refine aif (aja (qS ho B m D ?_));refine aif (ajr y rfl (by simp) ?_);have U:=ai1 (Obj.mapFields (·.setIfInBounds 3 (Value.ref h))) y rfl;refine aif (ajr U rfl (by simp) ?_);have e2:=ai1 (Obj.mapFields (·.setIfInBounds 4 (Value.bool true))) U rfl;have G:∀b o,b≠e->a.heap.get? b=some o->((a.heap.update e (Obj.mapFields (·.setIfInBounds 3 (Value.ref h)))).update e (Obj.mapFields (·.setIfInBounds 4 (Value.bool true)))).get? b=some o:=λb o g q=>by rw[aiG _ _ (aiu g),aiG _ _ (aiu g)];exact q
 have I:ExB C ((a.heap.update e (Obj.mapFields (·.setIfInBounds 3 (Value.ref h)))).update e (Obj.mapFields (·.setIfInBounds 4 (Value.bool true)))):=by obtain⟨nm,q,N,bs,M,i,Y,sub,S,t,T,R,X,k2,k3,P,f,g,u⟩:=Z;exact⟨nm,q,N,bs,M,i,Y,sub,S,t,T,R,X,k2,k3,P,f,g,G C _ (λz=>by subst z;rw[y]at u;cases u) u⟩
 obtain⟨nm,q,N,bs,M,i,Y,sub,S,t,T,R,X,k2,k3,P,f,g,u⟩:=I;have H:=G h r O ho;have e3:((a.heap.update e (Obj.mapFields (·.setIfInBounds 3 (Value.ref h)))).update e (Obj.mapFields (·.setIfInBounds 4 (Value.bool true)))).get? e=some {cls:=.ref C,dict:=n,data:=.fields #[p,.none,.none,.ref h,.bool true,.none]}:=e2;generalize(a.heap.update e (Obj.mapFields (·.setIfInBounds 3 (Value.ref h)))).update e (Obj.mapFields (·.setIfInBounds 4 (Value.bool true)))=hp at *;dsimp only;unfold isType;repeat(first|wp_step)
 refine kT (s:={a with heap:=hp}) hh e3 rfl (by simp) H m K O (hE _ (λb o g q=>?_) (ai1 _ e3 rfl));rw[aiG _ _ (aiu g)];exact G b o g q
end
section
variable{prog:Program}{w:World}{A:Around}{E:Value->Shared->Prop}{s:Shared}{K:W.Frag}{x C t0:Addr}{ox:Obj}{od:Option Obj}
structure StrK(K:W.Frag)(C:Addr):Prop where
 fm:findIn K (.ref C) "__format__"=some (some (.builtin "object.__format__"))st:findIn K (.ref C) "__str__"=some (some (.builtin "BaseException.__str__"))mo:mroIn K C (.type "object")=some true
 mb:mroIn K C (.type "BaseException")=some true
def abN{m:Str}{tk:Tok}{vs:Array Value}{Q:Value->Shared->Prop}(k:StrK K C)(f:A.in1.units<cLine)(X:K.In s.heap)(I:InstAt s.heap x ox C od)(g:ox.data=.fields vs)(d:vs[0]?=some (.ref t0))(e:s.heap.TupAt t0 [.str m tk])(a:Q (.str m tk) {s with toks:=s.toks+1}):wpAny (model prog w) A (formatField (.ref x) Str.empty) Q E s:=by
 refine W.kfo_field X I k.fm k.mo (W.kfo_obj (s:={s with toks:=s.toks+1}) f (W.kfo_special X I k.st akU.str.bind ?_));refine ajy (ajO akU.str.plain PySem.F.entry_bexc_str (W.check_slot (i:="BaseException.__str__") (owner:="BaseException") (n:="__str__") (by decide+kernel) (by decide+kernel) (I.type.andThen (W.looks_mroIn X k.mb)) (PySem.F.args_bexc_str _) ?_));have h:∀{M:Model}{A:Around}{Q:Value×List Value->Shared->Prop}{E},Q (.ref t0,[.str m tk]) {s with toks:=s.toks+1}->wpAny M A (Builtin.BaseException.bexcArgs (.ref x)) Q E {s with toks:=s.toks+1}:=λ{M A Q E}a=>by obtain⟨j,k,b,_,c⟩:=e;unfold Builtin.BaseException.bexcArgs;exact aif (aiF (s:={s with toks:=s.toks+1}) I.at_ g d (aif (alj b c (aio a))))
 unfold Builtin.«BaseException.__str__»;repeat(first|with_reducible refine h ?_|wp_step)
 exact⟨_,rfl,_,_,rfl,_,_,rfl,a⟩
end
end L2
namespace L2
open PySem PySem.Spec PyProof.Rows
section
variable{X:Cx}{pins:List (Addr×Obj)}{σ:St}{H:Hp}{s:Shared}{e Ce A B C D:Addr}{dx:DX}{fl:Value}{T:Addr}{a b c d n:Str}{pa pb pc pd pos hpos:Pos}{b0:Stmt}{suite:List Stmt}
def abP{k}{Q:Value->Shared->Prop}{E:Value->Shared->Prop}(I:Inv X pins σ H s)(g:Gl X a/\X.mg a=some (.ref A))(j:Gl X b/\X.mg b=some (.ref B))(i:Gl X c/\X.mg c=some (.ref C))(f:Gl X d/\X.mg d=some (.ref D))(h:Q (.ref s.heap.objs.size) {s with heap:=s.heap.push {cls:=.type "tuple",data:=.seq [Value.ref A,.ref B,.ref C,.ref D].toArray}})(l:Dbg a:=by decide)(m:Dbg b:=by decide)(o:Dbg c:=by decide)(dd:Dbg d:=by decide):wpAny (model X.prog X.w) X.A (eval (.Tuple [.Name a pa,.Name b pb,.Name c pc,.Name d pd] k pos) X.env) Q E s:=by refine wpAny_Tuple_spliced ?_;refine ajx (cg I g.1 g.2 (ajx (cg I j.1 j.2 (ajx (cg I i.1 i.2 (ajx (cg I f.1 f.2 (Calls.spliced_nil ⟨show 4<=sizeLine by decide,h⟩) dd)) o)) m)) l)
theorem Thr.push(t:Thr X pins σ H s e Ce dx fl (some T))(o):Thr X pins σ H {s with heap:=s.heap.push o} e Ce dx fl (some T):=⟨t.inv.kept λb u q=>aih _ q,t.trc.keeps λb u _ q=>aih _ q,t.fe,t.fT⟩
variable{Q:Flow->Shared->Prop}{E:Value->Shared->Prop}
end
end L2
set_option autoImplicit true
set_option relaxedAutoImplicit true
namespace L2
open PySem PySem.Spec PyProof.Rows
open PySem.W(findIn InstAt mroIn)
section
variable{X:Cx}{pins:List (Addr×Obj)}{σ:St}{H:Hp}{s:Shared}{e Ce C:Addr}{dx:DX}{fl:Value}{T:Addr}{x n:Str}{hpos:Pos}{E:Value->Shared->Prop}
def ad3{i:Nat}{x v pos}{Q:Value->Shared->Prop}(I:Inv X pins σ H s)(f:X.N[i]?=some x)(c:X.env.scope.names.lookup x=some .local)(e:σ[i]?=some (some v))(h:∀u,RelV v u->Q u s)(g:Dbg x):wpAny (model X.prog X.w) X.A (eval (.Name x pos) X.env) Q E s:=by
 obtain⟨m,j,b⟩:=I.loc;obtain⟨u,r,l⟩:=b i x v f e (.inl c);rcases l with⟨a,d⟩|⟨a,_⟩;.exact aln (wpAny_loadName_local I.ok.kind a j d (h u r)) g
 .have:X.env.kindOf x=some .local:=c;rw[this]at a;rcases a with z|z<;>cases z
def Thr.gone{i:Nat}(t:Thr X pins σ H s e C dx fl (some T))(g:X.N.Nodup)(d:X.N[i]?=some n)(f:X.env.scope.names.lookup n=some .local){Q:Unit->Shared->Prop}(h:∀a,Thr X pins (σ.set i none) H a e C dx fl (some T)->Q () a){A:Around}:wpAny (model X.prog X.w) A (do bindName X.env n .none;unbindBehindTheSuite X.env n hpos) Q E s:=mX t.inv g d f λa I k=>h a ⟨I,t.trc.keeps λb o c q=>(k b (by
 rcases c with rfl|c;.exact t.fe.2.1
 .exact(t.fT b c).2.1)).trans q,t.fe,t.fT⟩
def Thr.ah3(t:Thr X pins σ H s e C dx fl (some T)){M A b}(h:∀c a,Thr X pins σ H {s with heap:=c} e C dx a (some T)->E (.ref e) {s with heap:=c}):cameBackBy M A b E (.ref e) s:=by obtain⟨d,m,p,o,ts,g,u,j,k,i,q,f,r⟩:=id t.trc;unfold cameBackBy;exact aif (aiF g k i.1 (t.o9 λc a l _=>h _ _ l))
end
end L2
set_option autoImplicit true
set_option relaxedAutoImplicit true
namespace L2
open PySem PySem.Spec PyProof.Rows
open PySem.W(findIn InstAt mroIn)
def ExB.of{K:W.Frag}{h:Heap}{C fI:Addr}(X:K.In h)(q:ib K C (some (.ref fI))):ExB C h:=by obtain⟨d,N,j,n,bs,a,c,sub,k,b,l,f,o,i,m,e,r,g,s,p,T⟩:=pE X q;exact⟨j,n,N,bs,d,a,c,sub,k,b,l,f,o,i,m,e,_,T.hasType ai7.hasBase,g⟩
section
variable{X:Cx}{pins:List (Addr×Obj)}{σ:St}{H:Hp}{s:Shared}{e Ce C fI fIe:Addr}{dx:DX}{fl:Value}{T:Addr}{xB n cn:Str}{hpos rpos cpos np p1 p2 p3:Pos}{fd:FuncData}{ps fls:List Str}{k i ci L:Nat}{G:List V->Hp->Prop}{v1:V}{Q:Flow->Shared->Prop}
def sv{tx:Expr}{vs:List Value}(t:Thr X pins σ H s e Ce dx fl (some T))(b1:∀(Q:Value->Shared->Prop)(E:Value->Shared->Prop),Q (.ref s.heap.objs.size) {s with heap:=s.heap.push {cls:=.type "tuple",data:=.seq vs.toArray}}->wpAny (model X.prog X.w) (X.A.mark (some (.ref e))) (eval tx X.env) Q E s)(hx:∀{M:Model}{h:Heap},X.K.In h->W.Looks M h (typeOf (.ref e)) (.ref Ce)->h.get? s.heap.objs.size=some {cls:=.type "tuple",data:=.seq vs.toArray}->W.Looks M h (excMatches (.ref e) (.ref s.heap.objs.size)) true)(hs:X.stack=X.env::X.outer)(hf:X.env.frame=some X.env.locals)(hN:X.N.Nodup)(p:X.N[i]?=some n)(x:X.env.scope.names.lookup n=some .local)(a3:X.N[ci]?=some cn)(b2:X.env.scope.names.lookup cn=some .local)(b0:i≠ci)(e1:σ[ci]?=some (some v1))(a9:dx.2.2=.none)(qe:ib X.K Ce (some (.ref fIe)))(hg:Gl X xB)(hm:X.mg xB=some (.ref C))(q:ib X.K C (some (.ref fI)))(b5:W.typeIn X.K (.ref fI)=some (.type "function"))(F:FnOk X.prog X.w X.K X.mg X.base CX0 k fI fd ps (spG C fls L G))(gm:∀ws H b o,H b=none->G ws H->G ws (upd H b o))(hr:Room (k+1) (X.A.mark (some (.ref e))))(hb:Binds X.K fd ps [])(a8:fls.length=2)(hG:G [v1,.ref e] (upd H e (.ext (excAt e Ce dx))))(fin:∀s' c d a y fl T2,upd H e (.ext (excAt e Ce dx)) a=none->upd (upd H e (.ext (excAt e Ce dx))) a (.tup [.str y]) d=none->Thr X pins (σ.set i none) (upd (upd (upd H e (.ext (excAt e Ce dx))) a (.tup [.str y])) d (.xd (fls.zip [v1,.ref e]))) s' c C (some d,.ref a,.ref e) fl (some T2)->X.xe (.ref c) s')(hd1:Dbg xB)(A:Dbg n)(U:Dbg cn)(b4:(n==("__classdict__":Str))=false)(S:(cn==("__classdict__":Str))=false):wpAny (model X.prog X.w) X.A (handleBy (.ref e) X.env [.ExceptHandler (some tx) (some n) [.Raise (some (.Call (.Name xB np) [.Name cn p1,.Name n p2] [] cpos)) (some (.Name n p3)) rpos] hpos]) Q X.xe s:=by
 have t':=t.push {cls:=.type "tuple",data:=.seq vs.toArray};refine wpAny_handleBy_cons (codeAny_handlers_test (b1 _ _ ?_)) (by intro q;cases q);refine(hx t'.inv.kIn t'.ty (ais _ rfl)).here ?_;refine akT (t'.nu λh' t5=>?_);have J:=t5.known;have b6:i<σ.length:=by rw[t.inv.len];exact(ail.mp p).1
 refine iw (X:=X.sui e) (J.sui e) hN p (Or.inl x) (v:=.ref e) (u:=.ref e) rfl (λs2 J2 _=>?_) (Or.inr x);have a1:(σ.set i (some (V.ref e)))[ci]?=some (some v1):=by rw[aii b0];exact e1
 have a2:(σ.set i (some (V.ref e)))[i]?=some (some (.ref e)):=ain b6;refine akY (oG (C:=C) (Ch:=Ce) (h:=e) rfl ?_);have a4:PA (X.sui e) [.Name cn p1,.Name n p2] (fU (cQ ci) (fU (cQ i) x6)):=bg (vb a3 (.inl b2) U S) (bg (vb p (.inl x) A b4) df);refine aiA (qG (X:=X.sui e) (Z:=λv N=>∃c d a y,v=.ref c/\upd H e (.ext (excAt e Ce dx)) a=none/\upd (upd H e (.ext (excAt e Ce dx))) a (.tup [.str y]) d=none/\Inv (X.sui e) pins (σ.set i (some (.ref e))) (upd (upd (upd H e (.ext (excAt e Ce dx))) a (.tup [.str y])) d (.xd (fls.zip [v1,.ref e]))) N/\N.heap.get? c=some (bY C (some d) (.ref a))/\FpX (X.sui e) pins (upd (upd (upd H e (.ext (excAt e Ce dx))) a (.tup [.str y])) d (.xd (fls.zip [v1,.ref e]))) c) (R:=λvs H1=>vs=[v1,.ref e]/\H1=upd H e (.ext (excAt e Ce dx))) hg hm q b5 F gm hr hb a4 J2 ⟨v1,a1,.ref e,a2,rfl,rfl⟩ (λvs H1⟨z1,z2⟩=>?_) hd1) (λv N h3=>?_) λ_ _ z=>z.elim;.subst z1 z2;exact⟨a8.symm,hG,by omega,λs c d a y g y2 j y4 I l D=>⟨c,d,a,y,rfl,g,j,I,l,D⟩⟩
 obtain⟨c,b9,a0,rfl,hB,l,c2,d,a,y,ez,g,j,P,B,D⟩:=h3;cases ez;rw[l]at B;cases B;refine⟨c,some d,.ref a,rfl,hB,l,ad3 P p x a2 (λu r=>?_) A⟩;cases show u=Value.ref e from r;have ne:e≠c:=λz=>by
  have:=D.1;rw[<-z]at this;have O:e≠a:=λw=>by rw[<-w,ah]at g;cases g
  have nd:e≠d:=λw=>by rw[<-w,ae O,ah]at j;cases j
  rw[ae nd,ae O,ah]at this;cases this
 have a5:upd (upd (upd H e (.ext (excAt e Ce dx))) a (.tup [.str y])) d (.xd (fls.zip [v1,.ref e])) e=some (.ext (excAt e Ce dx)):=by
  have O:e≠a:=λw=>by rw[<-w,ah]at g;cases g
  have nd:e≠d:=λw=>by rw[<-w,ae O,ah]at j;cases j
  rw[ae nd,ae O,ah]
 obtain⟨⟨oh,b3,g1,g2,g3,g4,g5,_⟩,_⟩:=P.hok e _ a5;refine⟨rfl,hB,l,ne,ExB.of P.kIn qe,⟨oh,b3,g1,g2,g4,by rw[g5,a9]⟩,λh6 k6 e6=>?_⟩;have I6:Inv (X.sui e) pins (σ.set i (some (.ref e))) _ {N with heap:=h6}:=P.adg (ch:=[c]) (λb hb=>by rw[aiX.mp hb];exact D) (λb o q Y _=>k6 b o (λz=>Y (by rw[z];exact aiI)) q) λb o q Y _=>⟨o.slots,k6 b o (λz=>Y (by rw[z];exact aiI)) q⟩;have t6:Thr (X.sui e) pins (σ.set i (some (.ref e))) _ {N with heap:=h6} c C (some d,.ref a,.ref e) .none none:=⟨I6,⟨_,_,e6,rfl,rfl,rfl,rfl,rfl,rfl⟩,D,λt z=>by cases z⟩;refine t6.note hs hf λh7 T7 c0 t7=>t7.gone hN p x λs8 t8=>t8.pass λh9 c1 t9=>t9.note hs hf λb8 a7 b7 a6=>a6.ah3 λc3 m f=>?_;have K:=f.inv;rw[List.set_set]at K;exact fin _ c d a y m a7 g j ⟨t.inv.back K,f.trc,f.fe,f.fT⟩
end
end L2
namespace L2
open PySem PySem.Spec PyProof.Rows
section
variable{X:Cx}
inductive TyW(K:W.Frag)(H:Hp):V->Value->Prop where|non:TyW K H .non (.type "NoneType")|bl(x:Bool):TyW K H (.bl x) (.type "bool")|int(i:Int):TyW K H (.int i) (.type "int")|str(x:Str):TyW K H (.str x) (.type "str")|lst{a:Addr}{xs:List V}(e:SqL K H a xs):TyW K H (.ref a) (.type "list")|tup{a:Addr}{xs:List V}(e:SqT K H a xs):TyW K H (.ref a) (.type "tuple")
def vy:MtR X "list.count" λx g H Q=>∃n y d b,g=[y]/\IsD X.K H n y d/\IsD X.K H (n+1) x (.list b)/\X.A.units+1+n<cLine/\Q (.int (b.countP λz=>PyData.eqv z d:Nat)) H:=by
 intro h s K H x g v E Q I p t⟨n,y,d,b,e,j,C,M,q⟩;subst e;obtain⟨u,rfl,B⟩:=vals1 t;obtain⟨⟨D,w⟩,r,N⟩:=I.reads n d y u j B;obtain⟨⟨bs,A⟩,f,G⟩:=I.reads _ _ x v C p;have f:PyData.canLayAll0 b=true:=by simpa[PyData.canLay0]using f
 cases A with|@list a o its m ds' as' h1 h2 h3 h4=>
 obtain⟨cl,k,J,i⟩:=o;cases h2;cases h3;have c:=SeqAt.readsAll_map b _ _ f h4;refine ajA F.slot_list_count ⟨_,h1,rfl⟩ F.entry_list_count (F.args_list_count_2 _ _) (SeqAt.list_countAt a its m k i u λz=>PyData.eqv (SeqAt.readOf s.heap z) d) ⟨h1,SeqAt.items_eqAt h4 w f r (by have:=ajL (PyData.depthAll b) d.depth;omega),?_⟩;have l:(its.toList.countP λz=>PyData.eqv (SeqAt.readOf s.heap z) d)=b.countP λz=>PyData.eqv z d:=by rw[<-c,List.countP_map];rfl
 rw[l];exact⟨.int _,H,I.tok _,⟨_,rfl⟩,q⟩
def acU(t:TA):TE:=λb H Q=>t b H λc a=>∃j:Int,c=[.int j]/\-2^62<=j/\j<2^62/\∀r,a r=none->Q (.ref r) (upd a r (.rng 0 j))
def vc{a:Expr}{ta:TA}{p pos:Pos}(i:Gl X "range")(l:X.mg "range"=none)(w:PA X [a] ta)(m:starEach [a] X.env=[(false,eval a X.env)]:=by rfl):PE X (.Call (.Name "range" p) [a] [] pos) (acU ta):=by intro c s k H Q I h;refine Call_ (gQ I i l alo (ai4 (thn (w pos c s k H _ I h) λy v d=>?_) m rfl));obtain⟨z,x,f,n,g⟩:=d;obtain⟨j,rfl,_,_,q⟩:=g;obtain⟨u,rfl,r⟩:=vals1 n;obtain⟨t,rfl⟩:=r;exact call_range_1 ⟨.ref v.heap.objs.size,_,f.laid (o:=.rng 0 j) (λb o e=>aih _ e) (aim _) ⟨_,_,_,ais _ rfl⟩,rfl,q _ (f.hok.fresh (aim _))⟩
def lQ(A:X.calm=true):bx X (.type "list") λj H Q=>∃(r:Addr)(n:Nat),j=[.ref r]/\H r=some (.rng 0 n)/\n<=1000/\∀l,H l=none->Q (.ref l) (upd H l (.lst ((List.range n).map λi=>.int (i:Nat)))):=by
 intro g s D H j d Q I r h;obtain⟨a,n,rfl,z,C,q⟩:=h;obtain⟨u,rfl,w⟩:=vals1 r;cases show u=Value.ref a from w;obtain⟨t,u,v,e⟩:=show bL X.prog X.w H s.heap a (.rng 0 n)from I.hok a _ z;refine call_list_range (n:=n) (I.ok.hd A) e (small_one (by omega) (by omega) (by omega) (by omega)) (by rw[rangeSize_one];split<;>omega) (by omega) λE tk c p y x b=>?_;refine⟨.ref s.heap.objs.size,_,I.laid (t':=tk) (o:=.lst ((List.range n).map λi=>.int (i:Nat))) y (aim _) ⟨?_,c.toList,p,?_,by simpa using x⟩,rfl,q _ (I.hok.fresh (aim _))⟩;.rw[aiR,List.length_range];exact aip C (by decide)
 .have go:∀(d:List Value)(k:Nat),(∀(i:Nat)(v:Value),d[i]?=some v->∃t,v=.int ((k+i:Nat):Int) t)->Vals ((List.range' k d.length).map λi=>V.int (i:Nat)) d:=by intro d;induction d with|nil=>intro k _;exact .nil|cons u d ih=>
    intro k m;rw[ait,List.range'_succ,aiC];refine .cons ?_ (ih (k+1) λi v f=>?_);.obtain⟨t,e⟩:=m 0 u rfl;exact⟨t,by simpa using e⟩
    .obtain⟨t,e⟩:=m (i+1) v (by simpa using f);exact⟨t,by rw[e];congr 1;omega⟩
  have B:c.toList.length=n:=by simpa using b.1
  have:=go c.toList 0 λi v f=>by obtain⟨t,e⟩:=b.2 i v (by simpa using f);exact⟨t,by rw[e];congr 1;omega⟩
  rw[B]at this;rw[List.range_eq_range'];exact this
end
end L2
namespace WL
open PySem
inductive W where|non|bl(b:Bool)|int(i:Int)|str(x:Str)|ty(n:String)|tup(xs:List W)|lst(xs:List W)/-- a dict that is read alone: its keys,its values;a class of the text;an exception: its class,its fields -/|dic(ks vs:List W)|cls(c:String)|exc(c:String)(fs:List W)/-- an object that is made: its class,its fields -/|ins(c:String)(fs:List W)/-- a thing that is written,by its place alone -/|id(a:Nat)
inductive Res(α:Type)where|ok(a:α)|ex(c:W)|bad
noncomputable def Res.bind{α b}:Res α->(α->Res b)->Res b|.ok a,f=>f a|.ex c,_=>.ex c|.bad,_=>.bad
inductive Sl where|no|va(w:W)|ow(ws:List W)|od(ks vs:List W)|ob
abbrev Ws:=List Sl
abbrev EF:=Ws->Res W
abbrev TF:=Ws->Res Bool
abbrev AF:=Ws->Res (List W)
abbrev LF:=Ws->Res (List W)
abbrev GF:=W->Ws->Res Ws
inductive Out where|nx(σ:Ws)|rt(w:W)|bk(σ:Ws)|ct(σ:Ws)|ex(c:W)(σ:Ws)|bad
abbrev SF:=Ws->Out
mutual def eqv:W->W->Bool|.non,.non=>true|.bl a,.bl b=>a==b|.bl a,.int j=>(if a then 1 else 0)==j|.int i,.bl b=>i==if b then 1 else 0|.int i,.int j=>i==j|.str x,.str y=>x==y|.lst xs,.lst ys=>abR xs ys|.tup xs,.tup ys=>abR xs ys|_,_=>false def abR:List W->List W->Bool|[],[]=>true|x::xs,y::ys=>eqv x y&&abR xs ys|_,_=>false end
mutual def okD:Nat->W->Bool|_,.non=>true|_,.bl _=>true|_,.int _=>true|_,.str x=>x.cps.all (.<0x110000)|_,.ty _=>false|n,.tup xs=>fG n xs|n,.lst xs=>fG n xs|_,.dic _ _=>false|_,.cls _=>false|_,.exc _ _=>false|_,.ins _ _=>false|_,.id _=>false def fG:Nat->List W->Bool|0,_=>false|_+1,[]=>true|n+1,x::xs=>okD n x&&fG (n+1) xs end
noncomputable def aaV:W->W->Bool|.non,.non=>true|.non,.int _=>true|.int _,.non=>true|.non,.bl _=>true|.bl _,.non=>true|.non,.str _=>true|.str _,.non=>true|.int _,.int _=>true|.bl _,.bl _=>true|.str _,.str _=>true|.int _,.str _=>true|.str _,.int _=>true|.bl _,.str _=>true|.str _,.bl _=>true|_,_=>false
def oEq(x y:W):Res W:=if aaV x y then .ok (.bl (eqv x y))else if okD 50 x&&okD 50 y then .ok (.bl (eqv x y))else .bad
def oNe(x y:W):Res W:=if aaV x y then .ok (.bl !eqv x y)else if okD 50 x&&okD 50 y then .ok (.bl !eqv x y)else .bad
noncomputable def jz(x:W):List W->Bool|[]=>false|y::ys=>eqv y x||jz x ys
def oIn(x:W):W->Res W|.lst ys=>if okD 50 x&&fG 51 ys then .ok (.bl (jz x ys))else .bad|.tup ys=>if okD 50 x&&fG 51 ys then .ok (.bl (jz x ys))else .bad|_=>.bad
def gO(x:W):W->Res W|.lst ys=>if okD 50 x&&fG 51 ys then .ok (.bl !jz x ys)else .bad|.tup ys=>if okD 50 x&&fG 51 ys then .ok (.bl !jz x ys)else .bad|_=>.bad
noncomputable def lim:Nat:=1000000
def n7:W->W->Res W|.int i,.int j=>.ok (.int (i+j))|.lst xs,.lst ys=>if xs.length+ys.length<=lim then .ok (.lst (xs++ys))else .bad|.tup xs,.tup ys=>if xs.length+ys.length<=lim then .ok (.tup (xs++ys))else .bad|_,_=>.bad
noncomputable def xq:W->W->Res W|.int i,.int j=>.ok (.int (i-j))|_,_=>.bad
noncomputable def tw:W->W->Res W|.int i,.int j=>if -2^64<i/\i<2^64\/-2^64<j/\j<2^64 then .ok (.int (i*j))else .bad|_,_=>.bad
noncomputable def oDiv:W->W->Res W|.int i,.int j=>if 0<j/\j<10^100 then .ok (.int (i/j))else .bad|_,_=>.bad
noncomputable def oMod:W->W->Res W|.int i,.int j=>if 0<j then .ok (.int (i%j))else .bad|_,_=>.bad
noncomputable def k9:W->Res W|.int i=>.ok (.int (-i))|_=>.bad
noncomputable def oLt:W->W->Res W|.int i,.int j=>.ok (.bl (decide (i<j)))|_,_=>.bad
noncomputable def oLe:W->W->Res W|.int i,.int j=>.ok (.bl (decide (i<=j)))|_,_=>.bad
noncomputable def oGt:W->W->Res W|.int i,.int j=>.ok (.bl (decide (j<i)))|_,_=>.bad
noncomputable def su:W->Bool|.non=>true|_=>false
noncomputable def isB(b:Bool):W->Bool|.bl c=>b==c|_=>false
def oIs(x:W):W->Res W|.non=>.ok (.bl (su x))|.bl b=>.ok (.bl (isB b x))|_=>.bad
def mW(x:W):W->Res W|.non=>.ok (.bl !su x)|.bl b=>.ok (.bl !isB b x)|_=>.bad
noncomputable def ixN(n:Nat)(i:Int):Option Nat:=if 0<=i then if i<n then some i.toNat else none else if -(n:Int)<=i then some (i+n).toNat else none
def atI{α:Type}(xs:List α)(i:Int):Option α:=(ixN xs.length i).bind λj=>xs[j]?
noncomputable def ofO{α}:Option α->Res α|some a=>.ok a|none=>.bad
@[simp]def ae8{α}(a:α):ofO (some a)=.ok a:=(rfl)
noncomputable def lK(k:Str):List W->List W->Option W|.str x::ks,v::vs=>if x==k then some v else lK k ks vs|_,_=>none
def oIx:W->W->Res W|.lst xs,.int i=>ofO (atI xs i)|.tup xs,.int i=>ofO (atI xs i)|.dic ks vs,.str k=>ofO (lK k ks vs)|_,_=>.bad
noncomputable def sIx(n d:Nat):Option Int->Nat|none=>d|some v=>if v<0 then(v+(n:Int)).toNat else min v.toNat n
def cut{α:Type}(xs:List α)(lo a:Option Int):List α:=(xs.drop (sIx xs.length 0 lo)).take (sIx xs.length xs.length a-sIx xs.length 0 lo)
def oSl:W->Option Int->Option Int->Res W|.lst xs,lo,hi=>.ok (.lst (cut xs lo hi))|.tup xs,lo,hi=>if sIx xs.length 0 lo=0/\sIx xs.length xs.length hi=xs.length then .bad else .ok (.tup (cut xs lo hi))|_,_,_=>.bad
noncomputable def jN:List W->Res W|[.lst xs]=>.ok (.int xs.length)|[.tup xs]=>.ok (.int xs.length)|_=>.bad
noncomputable def jy:List W->Res W|[.lst xs]=>.ok (.tup xs)|[.tup xs]=>.ok (.tup xs)|_=>.bad
noncomputable def agQ:List W->Res W|[.lst xs]=>.ok (.lst xs)|[.tup xs]=>.ok (.lst xs)|_=>.bad
noncomputable def zz:List W->Res W|[.bl b]=>.ok (.int (if b then 1 else 0))|[.int i]=>.ok (.int i)|_=>.bad
noncomputable def allB:List W->Option Bool|[]=>some true|.bl b::xs=>(allB xs).map λc=>b&&c|_=>none
def zA:List W->Res W
|[.lst xs]=>match allB xs with|some b=>.ok (.bl b)|none=>.bad
|_=>.bad
noncomputable def abC:W->String|.non=>"NoneType"|.bl _=>"bool"|.int _=>"int"|.str _=>"str"|.ty _=>"type"|.tup _=>"tuple"|.lst _=>"list"|.dic _ _=>"dict"|.cls _=>"type"|.exc _ _=>"exception"|.ins _ _=>"object"|.id _=>"object"
def isK(w:W)(t:String):Option Bool:=match w with|.ty _=>none|.dic _ _=>none|.cls _=>none|.exc _ _=>none|.ins _ _=>none|.id _=>none|_=>if["int","bool","str","list","tuple"].contains t then some (abC w==t||abC w=="bool"&&t=="int")else none
def cy:List W->Res W
|[x,.ty t]=>match isK x t with|some b=>.ok (.bl b)|none=>.bad
|_=>.bad
noncomputable def ao(i:Nat):EF:=λa=>match a[i]? with|some (.va w)=>.ok w|_=>.bad
noncomputable def eC(w:W):EF:=λ_=>.ok w
def eOp(r:W->W->Res W)(a b:EF):EF:=λc=>(a c).bind λx=>(b c).bind λy=>r x y
def eUn(r:W->Res W)(a:EF):EF:=λb=>(a b).bind r
def kx(r e:W->W->Res W)(a b c:EF):EF:=λd=>(a d).bind λx=>(b d).bind λy=>(r x y).bind λz=>match z with|.bl true=>(c d).bind λw=>e y w|.bl false=>.ok (.bl false)|_=>.bad
noncomputable def toB:W->Res Bool|.bl b=>.ok b|_=>.bad
def tB(e:EF):TF:=λa=>(e a).bind toB
def qa(a b:TF):TF:=λc=>(a c).bind λx=>match x with|true=>b c|false=>.ok false
def tOr(a b:TF):TF:=λc=>(a c).bind λx=>match x with|true=>.ok true|false=>b c
def p8(a:TF):TF:=λb=>(a b).bind λx=>.ok !x
def abT(a b:EF):EF:=λc=>(a c).bind λx=>match x with|.bl true=>b c|.bl false=>.ok (.bl false)|_=>.bad
def ahv(a:EF):EF:=λc=>(a c).bind λx=>match x with|.bl b=>.ok (.bl !b)|_=>.bad
def eIf(t:TF)(a b:EF):EF:=λc=>(t c).bind λx=>match x with|true=>a c|false=>b c
noncomputable def az:AF:=λ_=>.ok []
def ag(e:EF)(a:AF):AF:=λb=>(e b).bind λx=>(a b).bind λc=>.ok (x::c)
def cR(a:AF):EF:=λc=>(a c).bind λb=>if b.length<=lim then .ok (.tup b)else .bad
def lX(a:AF):EF:=λc=>(a c).bind λb=>if b.length<=lim then .ok (.lst b)else .bad
def aS(f:List W->Res W)(a:AF):EF:=λb=>(a b).bind λws=>match f ws with|.ok w=>.ok w|_=>.bad
def eBi(f:List W->Res W)(a:AF):EF:=λb=>(a b).bind f
def qU(T:String)(r:W->List W->Res W)(o:EF)(a:AF):EF:=λb=>(o b).bind λx=>if abC x==T then(a b).bind λws=>r x ws else .bad
noncomputable def idx(x:W):Nat->List W->Option Nat|_,[]=>none|k,y::ys=>if eqv y x then some k else idx x (k+1) ys
def kf:W->List W->Res W|.lst ys,[x]=>if okD 50 x&&fG 51 ys&&decide (ys.length<=lim)then match idx x 0 ys with|some k=>.ok (.int k)|none=>.bad else .bad|_,_=>.bad
noncomputable def fq:List W->Option (List W×List W)|[]=>some ([],[])|.str k::v::r=>(fq r).map λp=>(.str k::p.1,v::p.2)|_=>none
noncomputable def bX:List W->Bool|[]=>true|.str k::ks=>!(ks.any λx=>match x with|.str y=>y==k|_=>true)&&bX ks|_=>false
def afk(a:AF):EF:=λb=>(a b).bind λc=>match fq c with|some (ks,vs)=>if bX ks&&decide (ks.length<=15)then .ok (.dic ks vs)else .bad|none=>.bad
noncomputable def pNo:Ws->Res (Option Int):=λ_=>.ok none
def mL(e:EF):Ws->Res (Option Int):=λa=>(e a).bind λx=>match x with|.int i=>.ok (some i)|_=>.bad
def eSl(e:EF)(lo b:Ws->Res (Option Int)):EF:=λa=>(e a).bind λx=>(lo a).bind λl=>(b a).bind λh=>oSl x l h
noncomputable def itemsOf:W->Res (List W)|.lst xs=>.ok xs|.tup xs=>.ok xs|_=>.bad
@[simp]def abF(xs):itemsOf (.lst xs)=.ok xs:=(rfl)
def tD(e:EF):LF:=λa=>(e a).bind itemsOf
noncomputable def rng(lo:Int)(n:Nat):List W:=(List.range n).map λi=>.int (lo+(i:Nat))
def ja(e:EF):LF:=λa=>(e a).bind λx=>match x with|.int j=>if -2^62<=j/\j<2^62 then .ok (rng 0 j.toNat)else .bad|_=>.bad
def y7(e b:EF):LF:=λa=>(e a).bind λx=>(b a).bind λy=>match x,y with|.int i,.int j=>if -2^62<=i/\i<2^62/\-2^62<=j/\j<2^62 then .ok (rng i (j-i).toNat)else .bad|_,_=>.bad
noncomputable def lG:Nat->List W->List W|_,[]=>[]|k,x::xs=>.tup [.int k,x]::lG (k+1) xs
def y9(e:EF):LF:=λa=>(e a).bind λx=>match x with|.tup xs=>.ok (lG 0 xs)|.lst xs=>.ok (lG 0 xs)|_=>.bad
noncomputable def aX(i:Nat):GF:=λw a=>.ok (a.set i (.va w))
abbrev GsF:=List W->Ws->Res Ws
noncomputable def abK:GsF:=λws a=>match ws with|[]=>.ok a|_=>.bad
noncomputable def jd(g:GF)(b:GsF):GsF:=λws a=>match ws with|w::r=>(match g w a with|.ok σ'=>(match b r σ' with|.ok σ2=>.ok σ2|_=>.bad)|_=>.bad)|[]=>.bad
noncomputable def aet(b:GsF):GF:=λw a=>match w with|.tup ws=>b ws a|_=>.bad
def aid(i:Nat)(e:EF):GF:=λw a=>match a[i]? with
|some (.ow ws)=>match e a with|.ok (.int k)=>(match ixN ws.length k with|some j=>.ok (a.set i (.ow (ws.set j w)))|none=>.bad)|_=>.bad
|_=>.bad
noncomputable def bB(g:GF)(t:TF)(e:EF)(c:Ws):List W->Res (List W)|[]=>.ok []|x::xs=>(g x c).bind λa=>(t a).bind λb=>match b with|true=>(e a).bind λy=>(bB g t e c xs).bind λd=>.ok (y::d)|false=>bB g t e c xs
noncomputable def tq:TF:=λ_=>.ok true
def yS(k:Nat)(it:LF)(g:GF)(t:TF)(e:EF):LF:=λa=>(it a).bind λb=>if b.length<=lim then match bB g t e (List.replicate k .no++a) b with|.ok ys=>.ok ys|_=>.bad else .bad
def g7(k:Nat)(it:LF)(g:GF)(t:TF)(e:EF):EF:=λa=>(yS k it g t e a).bind λb=>.ok (.lst b)
noncomputable def frz(i:Nat)(a:Ws):Ws:=match a[i]? with|some (.ow ws)=>a.set i (.va (.lst ws))|some (.od ks vs)=>a.set i (.va (.dic ks vs))|_=>a
mutual def plain:W->Bool|.tup xs=>u3 xs|.lst _=>false|.dic _ _=>false|.exc _ _=>false|.ins _ _=>false|.id _=>false|_=>true def u3:List W->Bool|[]=>true|x::xs=>plain x&&u3 xs end
def ahx(i:Nat)(e:EF):EF:=λa=>match e (frz i a)with|.ok w=>if plain w then .ok w else .bad|_=>.bad
noncomputable def sNx:SF:=λa=>.nx a
noncomputable def bj(a b:SF):SF:=λc=>match a c with|.nx σ'=>b σ'|o=>o
noncomputable def ofR{α}(b:Ws)(r:Res α)(f:α->Out):Out:=match r with|.ok a=>f a|.ex c=>.ex c b|.bad=>.bad
def dm(i:Nat)(e:EF):SF:=λa=>ofR a (e a) λw=>.nx (a.set i (.va w))
def aaX(i:Nat)(l:LF):SF:=λa=>ofR a (l a) λws=>.nx (a.set i (.ow ws))
def ahm(a:AF):LF:=λc=>(a c).bind λb=>if b.length<=lim then .ok b else .bad
def ad6(e:EF):LF:=λa=>(e a).bind itemsOf
def sIf(t:TF)(a b:SF):SF:=λc=>ofR c (t c) λx=>match x with|true=>a c|false=>b c
def cp(e:EF):SF:=λa=>ofR a (e a) λw=>.rt w
def ahb(i:Nat)(e:EF):SF:=λa=>match a[i]? with|some (.ow ws)=>ofR a (e a) λw=>if ws.length<lim then .nx (a.set i (.ow (ws++[w])))else .bad|_=>.bad
def aha(i:Nat)(t:SF):SF:=λa=>t (frz i a)
noncomputable def forL(g:GF)(b:SF):List W->Ws->Out|[],σ=>.nx σ|x::xs,σ=>ofR σ (g x σ) λa=>match b a with|.nx σ2=>forL g b xs σ2|.ct σ2=>forL g b xs σ2|.bk σ2=>.nx σ2|o=>o
def tr(it:LF)(g:GF)(b:SF):SF:=λa=>ofR a (it a) λc=>forL g b c a
noncomputable def lC:List String:=["FloorError","NotEven","NoCall","NoName","NoProgram","TooMany","NoPairs","NoRow","Blind","Out","Meet","Broken"]
noncomputable def kP(nm d:String):Bool:=nm==d||d=="FloorError"
noncomputable def fieldsOf(nm:String):List Str:=if nm=="Blind"then["who"]else if nm=="Out"then["who"]else if nm=="Meet"then["one","other"]else if nm=="Broken"then["at","why"]else[]
def gz(d:String):W->Bool|.exc nm _=>kP nm d|_=>false
noncomputable def fW:SF:=λ_=>.bad
def eM(f:List W->Res W)(a:AF):EF:=λb=>(a b).bind f
def hOut(d:String)(h:SF)(c:W)(a:Ws):Out:=if gz d c then match h a with|.ex _ _=>.bad|o=>o else .bad
def jc(d:String)(i:Nat)(h:SF)(c:W)(a:Ws):Out:=if gz d c then match h (a.set i (.va c))with|.nx σ2=>.nx (σ2.set i .no)|.rt w=>.rt w|_=>.bad else .bad
def qi(b:SF)(d:String)(i:Nat)(h:SF):SF:=λa=>match b a with|.ex c σ'=>jc d i h c σ'|o=>o
noncomputable def gi(c:String):List Str:=if c=="Book"then["calls"]else if c=="Search"then["goal","most","rows","seen"]else if c=="PairedFloor"then["floor","pairs","middles"]else if c=="Run"then["book","floors"]else[]
noncomputable def run(n:Nat)(t:SF)(ws:List W):Res W:=match t (ws.map .va++List.replicate (n-ws.length) .no)with|.rt w=>.ok w|.nx _=>.ok .non|.ex c _=>.ex c|_=>.bad
def nZ:List W->Res W|[.exc nm _,.cls d]=>.ok (.bl (kP nm d))|[.exc _ _,.ty "ValueError"]=>.ok (.bl true)|_=>.bad
@[simp]def afo(nm d:String)(fs:List W):nZ [.exc nm fs,.cls d]=.ok (.bl (kP nm d)):=rfl
@[simp]def agR(nm:String)(fs:List W):nZ [.exc nm fs,.ty "ValueError"]=.ok (.bl true):=rfl
noncomputable def j2:W->Bool|.int i=>decide (i.natAbs.log2<100)|_=>false
def oF(nm:String)(a:AF):SF:=λb=>ofR b (a b) λws=>if ws.length=(fieldsOf nm).length/\ws.all j2=true then .ex (.exc nm ws) b else .bad
def agF(f:Str):W->Res W
|.exc nm fs=>match((fieldsOf nm).zip fs).lookup f with|some w=>.ok w|none=>.bad
|_=>.bad
def acm(a:EF)(f:Str):EF:=λb=>(a b).bind (agF f)
noncomputable def r9(a:Ws):Ws:=a.map λs=>match s with|.ow _=>.no|.od _ _=>.no|s=>s
def ad7(k:Nat)(it:LF)(g:GF)(t:TF)(e:EF):LF:=λa=>(it a).bind λb=>if b.length<=lim then bB g t e (List.replicate k .no++r9 a) b else .bad
def aac(k:Nat)(it:LF)(g:GF)(t:TF)(e:EF):EF:=λa=>(ad7 k it g t e a).bind λb=>.ok (.lst b)
noncomputable def afs:List W->List W->List W|x::xs,y::ys=>.tup [x,y]::afs xs ys|_,_=>[]
def aic(a b:EF):LF:=λc=>(a c).bind λx=>(b c).bind λy=>match x,y with|.lst xs,.lst ys=>if xs.length=ys.length then .ok (afs xs ys)else .bad|.tup xs,.tup ys=>if xs.length=ys.length then .ok (afs xs ys)else .bad|_,_=>.bad
noncomputable def cnt(x:W):List W->Nat|[]=>0|y::ys=>cnt x ys+if eqv y x then 1 else 0
def kg:W->List W->Res W|.lst ys,[x]=>if okD 50 x&&fG 51 ys then .ok (.int (cnt x ys))else .bad|_,_=>.bad
def eLR(e:EF):EF:=λa=>(e a).bind λx=>match x with|.int j=>if 0<=j/\j<=1000 then .ok (.lst (rng 0 j.toNat))else .bad|_=>.bad
end WL
namespace SF
open PySem PySem.Builtin PySem.Builtin.Str PySem.StrLaws
noncomputable def xo(sub:List Nat)(k:Nat):Nat->Nat->List Nat->List Nat|_,_,[]=>[]|i,free,c::l=>if Nat.ble free i&&sub.isPrefixOf (c::l)then i::xo sub k (i+1) (i+k) l else xo sub k (i+1) free l
noncomputable def aeJ(xs:List Nat)(k:Nat):Nat->List Nat->List Str|st,[]=>[⟨(xs.drop st).toArray⟩]|st,c::cs=>⟨((xs.drop st).take (c-st)).toArray⟩::aeJ xs k (c+k) cs
def ac1(x y:Str)(i:Nat)(a:y.length≠0):i+y.length<=x.length/\subAt x y i=true↔y.cps.toList.isPrefixOf (x.cps.toList.drop i)=true:=by
 obtain⟨f⟩:=x;obtain⟨e⟩:=y;simp only[Str.length]at a⊢;unfold subAt;simp only[Str.length,aje];rw[List.isPrefixOf_iff_prefix,List.prefix_iff_eq_take,<-alb,akr];simp only[akw,ajR];constructor;.rintro⟨d,b⟩;rw[<-b];simp[alm];try omega
 .intro h;have c:=ajW List.length h;simp at c;refine⟨by omega,?_⟩;rw[alm];rw[h];simp;try omega
theorem vr(x y:Str)(f:y.length≠0):∀(m i free:Nat)(a:Array Nat),i+m=x.length+1->a.size<=i->(forIn (List.range' i m) (a,free) (occBody x y x.length (x.length+1))).run.fst.toList=a.toList++xo y.cps.toList y.length i free (x.cps.toList.drop i)
|0,i,free,a,hm,ha=>by
  have:x.cps.toList.drop i=[]:=by rw[aks];exact aip (akF _) (ak1 hm.symm)
  rw[this];simp[xo]|m+1,i,free,a,hm,ha=>by
  have l:=ac1 x y i f;rw[List.range'_succ,List.forIn_cons];have h:a.size<x.length+1:=hm▸aj0 ha (Nat.lt_add_of_pos_right (Nat.succ_pos m));have d:=(Nat.succ_add_eq_add_succ i m).trans hm;by_cases c:free<=i/\y.cps.toList.isPrefixOf (x.cps.toList.drop i)=true
  .have j:=l.mpr c.2;have k:occBody x y x.length (x.length+1) i (a,free)=pure (ForInStep.yield (a.push i,i+y.length)):=by unfold occBody;rw[aij ⟨⟨⟨h,c.1⟩,j.1⟩,j.2⟩]
   rw[k];have b:i<x.cps.toList.length:=aiq (Nat.lt_add_of_pos_right (Nat.pos_of_ne_zero f)) j.1;have g:=vr x y f m (i+1) (i+y.length) (a.push i) d (by rw[Array.size_push];exact Nat.succ_le_succ ha);have e:x.cps.toList.drop i=x.cps.toList[i]::x.cps.toList.drop (i+1):=aiQ b;rw[e]at c⊢;simp only[xo,c.2,akV.mpr c.1,Bool.and_self,aj5];refine Eq.trans g ?_;simp
  .have k:occBody x y x.length (x.length+1) i (a,free)=pure (ForInStep.yield (a,free)):=by unfold occBody;rw[aik];rintro⟨⟨⟨_,p⟩,q⟩,o⟩;exact c ⟨p,l.mp ⟨q,o⟩⟩
   rw[k];have g:=vr x y f m (i+1) free a d (Nat.le_succ_of_le ha);refine Eq.trans g ?_;by_cases b:i<x.cps.toList.length
   .have e:x.cps.toList.drop i=x.cps.toList[i]::x.cps.toList.drop (i+1):=aiQ b;rw[e]at c⊢;have:(Nat.ble free i&&y.cps.toList.isPrefixOf (x.cps.toList[i]::x.cps.toList.drop (i+1)))=false:=by rw[Bool.eq_false_iff];intro z;rw[aiw,akV]at z;exact c z
    simp only[xo,this,aj1,akC]
   .have r:x.cps.toList.drop i=[]:=aks.mpr (ak8 b);have n:x.cps.toList.drop (i+1)=[]:=aks.mpr (Nat.le_succ_of_le (ak8 b));rw[r,n];simp[xo]
def qz(x y:Str)(a:y.length≠0):occurrences x y 0 x.length (x.length+1)=xo y.cps.toList y.length 0 0 x.cps.toList:=by rw[StrLaws.occ_eq];have:=vr x y a (x.length+1) 0 0 #[] (akt _) (aim _);simpa using this
theorem qt(x:Str)(k:Nat):∀(a:List Nat)(st:Nat),((st::a.map (.+k)).zip (a++[x.length])).map (λ(p:Nat×Nat)=>strSub x p.1 p.2)=aeJ x.cps.toList k st a|[],st=>by simp only[ala,ajD,akI,List.zip_nil_right,aiC,aeJ,List.zip_nil_left];congr 1;unfold strSub;congr 1;apply alb.mp;rw[akr];simp[ajR,Str.length,List.take_of_length_le]|c::a,st=>by have b:=qt x k a (c+k);simp only[aiC,ajN,akI,aeJ];rw[<-b];congr 1;unfold strSub;congr 1;apply alb.mp;rw[akr,ajR];first|rfl|(rw[alm];done)|skip
def uE(x y:Str):List Str:=match xo y.cps.toList y.length 0 0 x.cps.toList with|[]=>[x]|c::cs=>aeJ x.cps.toList y.length 0 (c::cs)
def rH(x y:Str)(d:y.length≠0)(f:strKind y=1):Txt.split x y=uE x y:=by
 unfold Txt.split uE;rw[qz x y d];have a:decide (strKind x<strKind y)=false:=by
  rw[f];unfold PySem.Builtin.Str.strKind;split;.rfl
  .split<;>rfl
 rw[a];cases e:xo y.cps.toList y.length 0 0 x.cps.toList with|nil=>simp|cons c cs=>
  have g:¬x.length<y.length:=λz=>by have b:=qz x y d;rw[e]at b;have:=occ_spec x y 0 x.length (x.length+1) c (by rw[b];simp);omega
  simp only[ai3 g,Bool.or_self,aj1,akC,akR];exact qt x y.length (c::cs) 0
noncomputable def yU(a:List Nat):List Str->List Nat|[]=>[]|[x]=>x.cps.toList|x::y::r=>x.cps.toList++(a++yU a (y::r))
theorem gb(b:Str):∀(r:List Str)(a:Array Nat),(r.foldl (λa p=>a++b.cps++p.cps) a).toList=a.toList++match r with|[]=>[]|_=>b.cps.toList++yU b.cps.toList r
|[],a=>by simp|[x],a=>by simp[yU]|x::y::r,a=>by have:=gb b (y::r) (a++b.cps++x.cps);rw[List.foldl_cons,this];simp[yU]
end SF
namespace WL
open PySem
def aib:W->W->Res W|.str x,.str y=>if x.length+y.length<=lim then .ok (.str (x++y))else .bad|_,_=>.bad
def ah9:W->W->Res W|.lst xs,.int k=>if -1000000<=k/\k<=1000000/\xs.length*k.toNat<=lim then .ok (.lst (List.replicate k.toNat xs).flatten)else .bad|.tup xs,.int k=>if xs≠[]/\k≠1/\-1000000<=k/\k<=1000000/\xs.length*k.toNat<=lim then .ok (.tup (List.replicate k.toNat xs).flatten)else .bad|_,_=>.bad
noncomputable def aie:List W->Res W|[.int i]=>if i.natAbs.log2<1920 then .ok (.str (toString i))else .bad|_=>.bad
def eK:W->List W->Res W|.str x,[.str y]=>if y.length≠0/\Builtin.Str.strKind y=1/\x.length<=lim then .ok (.lst ((SF.uE x y).map .str))else .bad|_,_=>.bad
noncomputable def eT:W->List W->Res W|.str x,[.str y]=>.ok (.bl (Txt.startswith x y))|_,_=>.bad
def o5:W->List W->Res W|.str x,[.str y]=>if y.length≠0/\x.length<=lim then .ok (.tup [.str (Txt.partition x y).1,.str (Txt.partition x y).2.1,.str (Txt.partition x y).2.2])else .bad|_,_=>.bad
def oW:W->W->Res W|.str x,.int i=>if 0<=i/\x.length<=lim then .ok (.str (Txt.slice x (some i) none))else .bad|_,_=>.bad
noncomputable def acg(lo st:Int)(n:Nat):List W:=(List.range n).map λi=>.int (lo+(i:Nat)*st)
def y6(a b:EF):LF:=λc=>(a c).bind λx=>(b c).bind λy=>match x,y with|.int i,.int j=>if -2^60<=i/\i<2^60/\-2^60<=j/\j<2^60 then .ok (acg i 2 ((j-i+1)/2).toNat)else .bad|_,_=>.bad
noncomputable def ahq:W->Res W|.int i=>if i.natAbs<1000 then .ok (.int i)else .bad|.str x=>if x.length<=1000 then .ok (.str x)else .bad|_=>.bad
noncomputable def shL:List W->Option Nat|[]=>some 3|.str x::r=>(shL r).map (.+(10*x.length+4))|.int i::r=>if i.natAbs<1000 then(shL r).map (.+12)else none|_=>none
def shC(ws:List W):Bool:=fG 51 ws&&match shL ws with|some n=>decide (n<=80000)|none=>false
def aew:W->Res W|.str x=>if x.length<=5000/\(x.cps.toList.all λc=>Nat.ble c 1114111)=true then .ok (.str x)else .bad|.lst ws=>if shC ws=true then .ok (.lst ws)else .bad|.int i=>if i.natAbs<1000 then .ok (.int i)else .bad|.non=>.ok .non|.tup ws=>if shC ws=true then .ok (.tup ws)else .bad|.bl b=>.ok (.bl b)|_=>.bad
def eFf(e:EF):EF:=λa=>(e a).bind ahq
def eFr(e:EF):EF:=λa=>(e a).bind aew
def oE(nm:String)(a:AF):SF:=λb=>ofR b (a b) λ_=>.ex (.exc nm []) b
noncomputable def xt:W->Bool|.str _=>true|.int _=>true|.non=>true|_=>false
noncomputable def sr:W->W->Bool|.str x,.str y=>x==y|.int i,.int j=>i==j|.non,.non=>true|_,_=>false
def abY(k:W)(ks:List W):Bool:=ks.any λx=>sr x k
noncomputable def zv(k v:W):List W->List W->List W|k'::ks,v'::vs=>(if sr k' k then v else v')::zv k v ks vs|_,_=>[]
def putK(ks:List W)(k:W):List W:=if abY k ks then ks else ks++[k]
def ae4(ks us:List W)(k v:W):List W:=if abY k ks then zv k v ks us else us++[v]
def putD(i:Nat)(ks us:List W)(k v:W)(a:Ws):Out:=if xt k=true/\ks.length<lim then .nx (a.set i (.od (putK ks k) (ae4 ks us k v)))else .bad
def gY(i:Nat)(b c:EF):SF:=λa=>match a[i]? with|some (.od ks us)=>ofR a (b a) λv=>ofR a (c a) λk=>putD i ks us k v a|_=>.bad
noncomputable def acj(i:Nat):LF:=λa=>match a[i]? with|some (.va (.dic ks _))=>.ok ks|_=>.bad
def sY:List W->Res W|[.str x]=>if x.length<=lim then .ok (.int x.length)else .bad|[.dic ks _]=>.ok (.int ks.length)|ws=>jN ws
def aci(x y:W):Res W:=match x,y with|.str a,.str b=>.ok (.bl !(Builtin.Str.occurrences b a 0 b.length 1).isEmpty)|_,.str _=>.bad|x,y=>oIn x y
noncomputable def signs(x:Str):List W:=x.cps.toList.map λc=>.str ⟨#[c]⟩
def ahn(e:EF):LF:=λa=>(e a).bind λw=>match w with|.str x=>if x.cps.all (.<128)=true then .ok (signs x)else .bad|_=>.bad
end WL
namespace WL
def xn(tv:EF):EF:=λa=>tv (r9 (a.take 3))
def vB(tv:EF):SF:=tr (acj 1) (aX 2) (gY 3 (xn tv) (ao 2))
noncomputable def agK:Out->Res W
|.nx σ=>match(σ[3]?:Option Sl)with|some (.od ks us)=>.ok (.dic ks us)|_=>.bad
|.ex c _=>.ex c|_=>.bad
noncomputable def clr(a:Ws):Ws:=a.map λs=>match s with|.va w=>.va w|_=>.no
def agv(tv:EF)(a:Ws):Res W:=match(a[0]?:Option Sl)with|some .ob=>if a.length=3 then agK (vB tv (clr a++[.od [] []]))else .bad|_=>.bad
def ahc(b a:SF)(tv:EF):List W->Res W
|[w]=>match bj b a [.ob,.va w,.no]with|.nx σ=>agv tv σ|.ex c _=>.ex c|_=>.bad
|_=>.bad
end WL
namespace WL
open PySem
def nH(c:String)(f:List W->Res W)(a:AF):EF:=λb=>(a b).bind λws=>(f ws).bind λd=>.ok (.ins c [d])
noncomputable def ahp(c:String):W->Res W|.ins c' [w]=>if c'==c then .ok w else .bad|_=>.bad
def zl(c:String)(e:EF):EF:=λa=>(e a).bind (ahp c)
noncomputable def isI(c:String):W->Bool|.ins c' [_]=>c'==c|_=>false
def nG(c:String)(f:List W->Res W)(o:EF)(a:AF):EF:=λb=>(o b).bind λx=>if isI c x then(a b).bind λws=>f (x::ws)else .bad
def aia(x y:W):Res W:=match y with|.dic ks _=>if xt x=true then .ok (.bl (abY x ks))else .bad|_=>aci x y
def iW(x y:W):Res W:=match y with|.dic ks _=>if xt x=true then .ok (.bl !abY x ks)else .bad|_=>gO x y
def ahy:List W->Res W|[.dic ks _]=>if ks.length<=lim then .ok (.lst ks)else .bad|ws=>agQ ws
noncomputable def sS(k:W):List W->List W->Option W|k'::ks,v::vs=>if sr k' k then some v else sS k ks vs|_,_=>none
def ach(x y:W):Res W:=match x with|.dic ks us=>if xt y=true then ofO (sS y ks us)else .bad|_=>oIx x y
def agJ(l:LF):Out->Res W|.nx σ=>(l σ).bind λa=>.ok (.lst a)|.ex c _=>.ex c|_=>.bad
def aaY(n:Nat)(t:SF)(l:LF):List W->Res W:=λws=>agJ l (t (ws.map .va++List.replicate (n-ws.length) .no))
def iV:W->W->Res W|.lst xs,.int k=>if -1000000<=k/\k<=1000000/\xs.length*k.toNat<=lim then .ok (.lst (List.replicate k.toNat xs).flatten)else .bad|_,_=>.bad
inductive OX(S:Type)where|nx(σ:Ws)(s:S)|bk(σ:Ws)(s:S)|ct(σ:Ws)(s:S)|rt(w:W)(s:S)|ex(c:W)(σ:Ws)|bad
abbrev RF(S:Type):=Ws->S->OX S
variable{S:Type}
noncomputable def lY(t:SF):RF S:=λa s=>match t a with|.nx σ'=>.nx σ' s|.bk σ'=>.bk σ' s|.ct σ'=>.ct σ' s|.rt w=>.rt w s|.ex c σ'=>.ex c σ'|.bad=>.bad
noncomputable def oe(a b:RF S):RF S:=λc s=>match a c s with|.nx σ' s'=>b σ' s'|o=>o
noncomputable def seen(adr:S->Nat)(val:S->W)(j:Nat)(a:Ws)(s:S):Option Ws:=match a[j]? with|some (.va (.id b))=>if b=adr s then some (a.set j (.va (val s)))else none|_=>none
def xT(adr:S->Nat)(val:S->W)(j:Nat)(t:TF)(a:Ws)(s:S):Res Bool:=match seen adr val j a s with|some σ'=>t σ'|none=>.bad
noncomputable def xF(r:Res Bool)(a b:OX S):OX S:=match r with|.ok true=>a|.ok false=>b|_=>.bad
def xIf(t:Ws->S->Res Bool)(a b:RF S):RF S:=λc s=>xF (t c s) (a c s) (b c s)
noncomputable def agZ(t:Ws->S->Res Bool)(b:RF S):Nat->Ws->S->OX S|0,_,_=>.bad|n+1,σ,s=>xF (t σ s) (match b σ s with|.nx σ' s'=>agZ t b n σ' s'|.ct σ' s'=>agZ t b n σ' s'|.bk σ' s'=>.nx σ' s'|o=>o) (.nx σ s)
noncomputable def di(k:Nat)(b:RF S):List W->Ws->S->OX S|[],σ,s=>.nx σ s|x::xs,σ,s=>match b (σ.set k (.va x)) s with|.nx σ2 s2=>di k b xs σ2 s2|.ct σ2 s2=>di k b xs σ2 s2|.bk σ2 s2=>.nx σ2 s2|o=>o
def acu(adr:S->Nat)(val:S->W)(j i:Nat)(e:EF):RF S:=λa s=>match seen adr val j a s with
|some σ'=>match e σ' with|.ok w=>if plain w=true then .nx (a.set i (.va w)) s else .bad|_=>.bad
|none=>.bad
noncomputable def runM(n:Nat)(t:RF S):List W->S->OX S:=λws s=>t (ws.map .va++List.replicate (n-ws.length) .no) s
noncomputable def ofM(a:Ws):OX S->OX S|.nx _ s'=>.nx a s'|.rt _ s'=>.nx a s'|.ex c _=>.ex c a|_=>.bad
structure Sr where
 a:Nat
 d:Nat
 goal:W
 most:W
 rows:List W
 seen:List (List (List Int))
def at_(j:Nat)(a:Ws)(s:Sr)(o:OX Sr):OX Sr:=match(a[j]?:Option Sl)with|some (.va (.id b))=>if b=s.a then o else .bad|_=>.bad
noncomputable def z8(c:String)(n:Nat):W->Res W|.ins c' ws=>if c'==c then match ws[n]? with|some w=>.ok w|none=>.bad else .bad|_=>.bad
def dn(c:String)(n:Nat)(e:EF):EF:=λa=>(e a).bind (z8 c n)
noncomputable def isN(c:String):W->Bool|.ins c' _=>c'==c|_=>false
def ku(c:String)(d:List W->Res W)(o:EF)(a:AF):EF:=λb=>(o b).bind λy=>if isN c y=true then(a b).bind λws=>d (y::ws)else .bad
structure Rn where
 a:Nat
 r:Nat
 book:W
 floors:List W
def Rn.val(s:Rn):W:=.ins "Run" [s.book,.lst s.floors]
def Rn.zJ(s:Rn):W:=.ins "Run" [s.book,.id s.r]
noncomputable def tuh:List W->Bool|.tup _::_=>true|_=>false
noncomputable def isInt:W->Bool|.int _=>true|_=>false
def agy:W->Bool|.lst ws=>ws.all isInt|_=>false
variable{S:Type}
def tN(adr:S->Nat)(val:S->W)(j i:Nat)(e:EF):RF S:=λa s=>match seen adr val j a s with
|some σ'=>match e σ' with|.ok w=>.nx (a.set i (.va w)) s|_=>.bad
|none=>.bad
def og(it:LF)(k:Nat)(b:RF S):RF S:=λa s=>match it a with|.ok xs=>di k b xs a s|_=>.bad
abbrev AXF(S:Type):=Ws->S->Res (List W)
noncomputable def axN:AXF S:=λ_ _=>.ok []
def axP(e:EF)(a:AXF S):AXF S:=λb s=>(e b).bind λx=>(a b s).bind λc=>.ok (x::c)
def axL(j:Nat)(e:EF)(a:AXF Rn):AXF Rn:=λb s=>match seen Rn.a Rn.val j b s with
|some σ'=>match e σ' with|.ok w=>if agy w=true/\tuh s.floors=true then(a b s).bind λc=>.ok (w::c)else .bad|_=>.bad
|none=>.bad
def bw(j:Nat)(d:List W->Rn->OX Rn)(a:AXF Rn):RF Rn:=λc s=>match c[j]? with|some (.va (.id b))=>if b=s.a then match a c s with|.ok ws=>ofM c (d (.id b::ws) s)|_=>.bad else .bad|_=>.bad
noncomputable def isC(a:List String):W->Bool|.exc nm _=>a.contains nm|_=>false
def oa(b:List String)(ci:Nat)(e:EF):RF Rn:=λa s=>match seen Rn.a Rn.val 0 a s with
|some σ'=>(match e σ' with
 |.ok w=>if plain w=true/\s.floors.length<lim then .nx a {s with floors:=s.floors++[w]}else .bad|.ex c=>match a[ci]? with|some (.va w)=>if j2 w=true/\isC b c=true then .ex (.exc "Broken" [w,c]) (List.replicate a.length .no)else .bad|_=>.bad
 |.bad=>.bad)|none=>.bad
def rj(j:Nat)(e:EF):RF Rn:=λa s=>match seen Rn.a Rn.val j a s with
|some σ'=>match e σ' with|.ok w=>.rt w s|_=>.bad
|none=>.bad
def n5(t:RF Rn)(b:Ws)(j:Nat)(e d:W)(o:Res W):Prop:=∀a r:Nat,match t (b.set j (.va (.id a))) ⟨a,r,e,[d]⟩with|.rt w _=>o=.ok w|.ex c σ'=>o=.ex c/\σ'.length=b.length|_=>False
noncomputable def dC(j:Nat)(b:AF)(t:RF Rn):SF:=λa=>match b a with|.ok [wb,wf]=>@dite _ (∃o:Res W,n5 t a j wb wf o) (Classical.propDecidable _) (λh=>match Classical.choose h with|.ok w=>.rt w|.ex c=>.ex c (List.replicate a.length .no)|.bad=>.bad) λ_=>.bad|_=>.bad
end WL
namespace L2
open PySem PySem.Spec PyProof.Rows
def av.rd{H H'}(e:av H H'){a u}(q:Rd H a u):Rd H' a u:=q.imp (e _ _) λ⟨o,z⟩=>⟨o,e _ _ z⟩
end L2
namespace WS
open PySem PySem.Spec PyProof.Rows L2
open WL(Res Sl Ws EF TF AF LF GF GsF SF Out OX RF Rn AXF)
abbrev VW:=WL.W
def ExcAt(K:W.Frag)(nm:String)(C:Addr):Prop:=nm∈WL.lC/\W.nsIn K mainGlobals (Str.ofString nm)=some (some (.ref C))
mutual def RW(K:W.Frag)(H:Hp):VW->V->Prop|.non,v=>v=.non|.bl b,v=>v=.bl b|.int i,v=>v=.int i|.str x,v=>v=.str x|.ty n,v=>v=.ty n|.tup ws,v=>∃a vs,v=.ref a/\SqT K H a vs/\RWs K H ws vs|.lst ws,v=>∃a vs,v=.ref a/\SqL K H a vs/\RWs K H ws vs|.dic ks vs,v=>∃a kvs,v=.ref a/\Rd H a (.dK kvs)/\RWs K H ks (kvs.map λp=>kV p.1)/\RWs K H vs (kvs.map λp=>p.2)|.cls d,v=>∃a,v=.ref a/\ExcAt K d a|.exc nm fs,v=>∃a C dx,v=.ref a/\H a=some (.ext (excAt a C dx))/\ExcAt K nm C/\∃fvs:List (Str×V),fvs.map (·.1)=WL.fieldsOf nm/\RWs K H fs (fvs.map (·.2))/\(fvs=[]/\dx.1=none\/∃d,dx.1=some d/\H d=some (.xd fvs))|.ins c fs,v=>∃a C dx,∃fvs:List (Str×V),v=.ref a/\H a=some (.ins C dx fvs)/\W.nsIn K mainGlobals (Str.ofString c)=some (some (.ref C))/\fvs.map (·.1)=WL.gi c/\fvs≠[]/\RWs K H fs (fvs.map (·.2))|.id a,v=>v=.ref a def RWs(K:W.Frag)(H:Hp):List VW->List V->Prop|[],vs=>vs=[]|w::ws,vs=>∃v r,vs=v::r/\RW K H w v/\RWs K H ws r end
section
variable{K:W.Frag}{H H':Hp}
mutual theorem RW.via(ht:∀a xs,SqT K H a xs->SqT K H' a xs)(hl:∀a xs,SqL K H a xs->SqL K H' a xs)(hd:∀a kvs,Rd H a (.dK kvs)->Rd H' a (.dK kvs))(he:∀a φ,H a=some (.ext φ)->H' a=some (.ext φ))(hx:∀a fs,H a=some (.xd fs)->H' a=some (.xd fs))(hi:∀a C dx fs,fs≠[]->H a=some (.ins C dx fs)->H' a=some (.ins C dx fs)):∀(w:VW)(v:V),RW K H w v->RW K H' w v|.non,_,h=>by simpa only[RW]using h|.bl _,_,h=>by simpa only[RW]using h|.int _,_,h=>by simpa only[RW]using h|.str _,_,h=>by simpa only[RW]using h|.ty _,_,h=>by simpa only[RW]using h|.tup ws,_,h=>by obtain⟨a,vs,e,q,r⟩:=h;exact⟨a,vs,e,ht a vs q,RWs.via ht hl hd he hx hi ws vs r⟩|.lst ws,_,h=>by simp only[RW]at h⊢;obtain⟨a,vs,e,q,r⟩:=h;exact⟨a,vs,e,hl a vs q,RWs.via ht hl hd he hx hi ws vs r⟩|.dic ks vs,_,h=>by simp only[RW]at h⊢;obtain⟨a,kvs,e,q,r1,r2⟩:=h;exact⟨a,kvs,e,hd a kvs q,RWs.via ht hl hd he hx hi ks _ r1,RWs.via ht hl hd he hx hi vs _ r2⟩|.cls _,_,h=>by simpa only[RW]using h|.id _,_,h=>by simpa only[RW]using h|.exc nm fs,_,h=>by simp only[RW]at h⊢;obtain⟨a,C,dx,e,q,c,fvs,f1,f2,f3⟩:=h;exact⟨a,C,dx,e,he _ _ q,c,fvs,f1,RWs.via ht hl hd he hx hi fs _ f2,f3.imp (λz=>z) λ⟨d,z1,z2⟩=>⟨d,z1,hx _ _ z2⟩⟩|.ins c fs,_,h=>by simp only[RW]at h⊢;obtain⟨a,C,dx,fvs,e,q,c1,c2,c3,r⟩:=h;exact⟨a,C,dx,fvs,e,hi _ _ _ _ c3 q,c1,c2,c3,RWs.via ht hl hd he hx hi fs _ r⟩theorem RWs.via(ht:∀a xs,SqT K H a xs->SqT K H' a xs)(hl:∀a xs,SqL K H a xs->SqL K H' a xs)(hd:∀a kvs,Rd H a (.dK kvs)->Rd H' a (.dK kvs))(he:∀a φ,H a=some (.ext φ)->H' a=some (.ext φ))(hx:∀a fs,H a=some (.xd fs)->H' a=some (.xd fs))(hi:∀a C dx fs,fs≠[]->H a=some (.ins C dx fs)->H' a=some (.ins C dx fs)):∀(ws:List VW)(vs:List V),RWs K H ws vs->RWs K H' ws vs|[],_,h=>by simpa only[RWs]using h|w::ws,_,h=>by simp only[RWs]at h⊢;obtain⟨v,r,e,q,t⟩:=h;exact⟨v,r,e,RW.via ht hl hd he hx hi w v q,RWs.via ht hl hd he hx hi ws r t⟩end
def RW.keep(e:av H H'){w v}(h:RW K H w v):RW K H' w v:=RW.via (λ_ _ q=>e.tup q) (λ_ _ q=>e.seq q) (λ_ _ q=>e.rd q) (λ_ _ q=>e _ _ q) (λ_ _ q=>e _ _ q) (λ_ _ _ _ _ q=>e _ _ q) w v h
def RWs.keep(e:av H H'){ws vs}(h:RWs K H ws vs):RWs K H' ws vs:=RWs.via (λ_ _ q=>e.tup q) (λ_ _ q=>e.seq q) (λ_ _ q=>e.rd q) (λ_ _ q=>e _ _ q) (λ_ _ q=>e _ _ q) (λ_ _ _ _ _ q=>e _ _ q) _ _ h
mutual theorem RW.less(ht:∀a xs,SqT K H a xs->SqT K H' a xs):∀(w:VW)(v:V),WL.plain w=true->RW K H w v->RW K H' w v|.non,_,_,h=>by simpa only[RW]using h|.bl _,_,_,h=>by simpa only[RW]using h|.int _,_,_,h=>by simpa only[RW]using h|.str _,_,_,h=>by simpa only[RW]using h|.ty _,_,_,h=>by simpa only[RW]using h|.tup ws,_,p,h=>by obtain⟨a,vs,e,q,r⟩:=h;exact⟨a,vs,e,ht a vs q,RWs.less ht ws vs (by assumption) r⟩|.lst ws,_,p,_=>by cases p|.dic _ _,_,p,_=>by cases p|.cls _,_,_,h=>by simpa only[RW]using h|.id _,_,_,h=>by simpa only[RW]using h|.exc _ _,_,p,_=>by cases p|.ins _ _,_,p,_=>by cases p theorem RWs.less(ht:∀a xs,SqT K H a xs->SqT K H' a xs):∀(ws:List VW)(vs:List V),WL.u3 ws=true->RWs K H ws vs->RWs K H' ws vs|[],_,_,h=>by simpa only[RWs]using h|w::ws,_,p,h=>by simp only[RWs]at h⊢;have p:=aiY.mp p;obtain⟨v,r,e,q,t⟩:=h;exact⟨v,r,e,RW.less ht w v p.1 q,RWs.less ht ws r p.2 t⟩end
theorem RWs.length:∀{ws vs},RWs K H ws vs->ws.length=vs.length|[],_,h=>by subst h;rfl|w::ws,_,h=>by obtain⟨v,r,rfl,_,t⟩:=h;simp [RWs.length t]
theorem RWs.get:∀{ws:List VW}{vs:List V}{i:Nat}{w:VW},RWs K H ws vs->ws[i]?=some w->∃v,vs[i]?=some v/\RW K H w v|[],_,_,_,_,e=>by simp at e|x::ws,_,0,w,h,e=>by simp only[RWs]at h;obtain⟨v,r,rfl,q,_⟩:=h;simp at e;subst e;exact⟨v,rfl,q⟩|x::ws,_,i+1,w,h,e=>by simp only[RWs]at h;obtain⟨v,r,rfl,_,t⟩:=h;obtain⟨u,a,b⟩:=RWs.get t (by simpa using e);exact⟨u,by simpa using a,b⟩
def RWs.get':∀{ws:List VW}{vs:List V}{i:Nat}{v:V},RWs K H ws vs->vs[i]?=some v->∃w,ws[i]?=some w/\RW K H w v:=λ{ws vs i v}h e=>by have f:=h.length;have c:i<vs.length:=(ail.mp e).1;obtain⟨d,a,b⟩:=RWs.get (w:=ws[i]) h (aiv (by omega));rw[e]at a;cases a;exact⟨_,aiv (by omega),b⟩
theorem RWs.app:∀{ws b vs a},RWs K H ws vs->RWs K H b a->RWs K H (ws++b) (vs++a)|[],_,_,_,h,h'=>by subst h;exact h'|w::ws,_,_,_,h,h'=>by obtain⟨v,r,rfl,q,t⟩:=h;exact⟨v,_,rfl,q,RWs.app t h'⟩
def RWs.one{w v}(h:RW K H w v):RWs K H [w] [v]:=by exact⟨v,[],rfl,h,rfl⟩
def RWs.cons{w v ws vs}(h:RW K H w v)(t:RWs K H ws vs):RWs K H (w::ws) (v::vs):=by exact⟨v,vs,rfl,h,t⟩
theorem RWs.drop:∀{ws vs}n,RWs K H ws vs->RWs K H (ws.drop n) (vs.drop n)|_,_,0,h=>by grind|[],_,n+1,h=>by subst h;simp[RWs]|w::ws,_,n+1,h=>by obtain⟨v,r,rfl,_,t⟩:=h;simpa using RWs.drop n t
theorem RWs.take:∀{ws vs}n,RWs K H ws vs->RWs K H (ws.take n) (vs.take n)|_,_,0,h=>rfl|[],_,n+1,h=>by subst h;simp[RWs]|w::ws,_,n+1,h=>by obtain⟨v,r,rfl,q,t⟩:=h;exact⟨v,_,rfl,q,RWs.take n t⟩
theorem RWs.cut{ws vs}(h:RWs K H ws vs)(lo a):RWs K H (WL.cut ws lo a) (acn vs lo a):=by unfold WL.cut acn;rw[<-h.length];exact(h.drop _).take _
def RWs.ints(ns:List Int):RWs K H (ns.map .int) (ns.map V.int):=by induction ns with|nil=>simp[RWs]|cons n ns ih=>exact⟨_,_,rfl,rfl,ih⟩
end
def NF:HO->Prop|.frz _ _=>False|.ins _ _ []=>False|_=>True
structure Bx where
 K:W.Frag
 H0:Hp
 F0:Hp
 xp:VW->Ws->Hp->Prop
 mono:∀c σ F F',av F F'->xp c σ F->xp c σ F'
structure RB(B:Bx)(F H:Hp):Prop where
 sub:av F H
 base:av B.H0 H
 fz0:av B.F0 F
 fr:∀a o,F a=some o->B.F0 a=some o\/B.H0 a=none/\NF o
def IsO:Sl->Prop|.od _ _=>True|.ob=>True|_=>False
structure OD(K:W.Frag)(H0:Hp)(σ:Ws)(σV:L2.St)(F H:Hp):Prop where
 od:∀(i:Nat)(ks us:List VW),σ[i]?=some (.od ks us)->∃a kvs,σV[i]?=some (some (.ref a))/\F a=none/\H0 a=none/\H a=some (.dK kvs)/\RWs K F ks (kvs.map λp=>kV p.1)/\RWs K F us (kvs.map λp=>p.2)ad:∀(i j:Nat)(ks us ks' us':List VW)(a:Addr),i≠j->σ[i]?=some (.od ks us)->σ[j]?=some (.od ks' us')->σV[i]?=some (some (.ref a))->σV[j]?=some (some (.ref a))->False
 ob:∀i:Nat,σ[i]?=some .ob->∃a C dx,σV[i]?=some (some (.ref a))/\F a=some (.ins C dx [])
def OD.via{K G B m E g l k F y H H'}(R:OD K B E l F H)(Q:G=K)(f:Nat->Nat)(Y:∀i j,f i=f j->i=j\/∀d c,g[i]?≠some (.od d c))(h:∀i t,IsO t->g[i]?=some t->E[f i]?=some t/\k[i]?=l[f i]?)(s:av F y)(n:∀i(d c:List VW)a b,g[i]?=some (.od d c)->l[f i]?=some (some (.ref a))->H a=some (.dK b)->F a=none->B a=none->y a=none/\m a=none/\H' a=some (.dK b)):OD G m g k y H':=by
 subst Q;refine⟨λi d c e=>?_,λi j d c p o a r D P N O=>?_,λi e=>?_⟩;.obtain⟨v,w⟩:=h i (.od d c) trivial e;refine aaj (R.od (f i) d c v) λa b q A h3 T M J=>?_;refine aak (n i d c a b e q T A h3) λX n2 U=>?_;exact aca a b (w.trans q) X n2 U (M.keep s) (J.keep s)
 .obtain⟨x,Z⟩:=h i (.od d c) trivial D;obtain⟨u,I⟩:=h j (.od p o) trivial P;refine R.ad _ (f j) d c p o a (λz=>?_) x u (Z.symm.trans N) (I.symm.trans O);rcases Y i j z with z|z;.exact r z
  .exact z _ _ D
 .obtain⟨v,w⟩:=h i .ob trivial e;refine pO (R.ob (f i) v) λa C S q A=>?_;exact⟨a,C,S,w.trans q,s _ _ A⟩
structure RS(B:Bx)(σ:Ws)(σV:L2.St)(F H:Hp):Prop where
 rb:RB B F H
 len:σ.length=σV.length
 va:∀(i:Nat)(w:VW),σ[i]?=some (.va w)->∃v,σV[i]?=some (some v)/\RW B.K F w v
 ow:∀(i:Nat)(ws:List VW),σ[i]?=some (.ow ws)->∃a vs,σV[i]?=some (some (.ref a))/\F a=none/\B.H0 a=none/\H a=some (.lst vs)/\RWs B.K F ws vs
 ap:∀(i j:Nat)(ws ws':List VW)(a:Addr),i≠j->σ[i]?=some (.ow ws)->σ[j]?=some (.ow ws')->σV[i]?=some (some (.ref a))->σV[j]?=some (some (.ref a))->False
 dd:OD B.K B.H0 σ σV F H
def RS.abU{B g c F H d H'}(R:RS B g c F H)(s:av F d)(n:∀a b,H a=some (.dK b)->F a=none->d a=none/\H' a=some (.dK b)):OD B.K B.H0 g c d H':=R.dd.via rfl _ (λ_ _ z=>.inl z) (λ_ _ _ e=>⟨e,rfl⟩) s λ_ _ _ a b _ _ f h i=>⟨(n a _ f h).1,i,(n a _ f h).2⟩
def RS.aeG{B f c F H h H'}(R:RS B f c F H)(i){sl}(q:¬IsO sl)(x)(s:av F h)(n:∀j(g d:List VW)a b,i≠j->f[j]?=some (.od g d)->c[j]?=some (some (.ref a))->H a=some (.dK b)->F a=none->h a=none/\H' a=some (.dK b)):OD B.K B.H0 (f.set i sl) (c.set i x) h H':=by
 have k:∀{j:Nat}{s':Sl},IsO s'->(f.set i sl)[j]?=some s'->i≠j:=λ{j s'}v e z=>by
  subst z;have p:i<f.length:=by have:=(ail.mp e).1;simpa using this
  rw[ain p]at e;exact q (aiB e▸v)
 refine R.dd.via rfl id (λ_ _ z=>.inl z) (λj g d e=>?_) s λj g d a b e w m r o=>?_;.have:=k d e;rw[aii this]at e;exact⟨e,by rw[aii this];rfl⟩
 .have l:=k (s':=.od g d) trivial e;rw[aii l]at e;obtain⟨t,u⟩:=n j g d a b l e w m r;exact⟨t,o,u⟩
def set_same{a:L2.St}{i x}(e:a[i]?=some x):a.set i x=a:=by
 apply List.ext_getElem?;intro j;by_cases b:i=j;.subst b;rw[ain (ail.mp e).1,e]
 .rw[aii b]
structure Ext(F H F' H':Hp):Prop where
 same:av F F'
 rs:∀B σ σV,RS B σ σV F H->RS B σ σV F' H'
 rb:∀B,RB B F H->RB B F' H'
 own:∀a o,H a=some o->H' a=some o/\(F a=none->F' a=none)
structure Gr(F H F' H':Hp):Prop where
 f:av F F'
 h:av H H'
 nf:∀a o,H a=some o->F a=none->F' a=none
theorem Gr.refl{F H}:Gr F H F H:=⟨av.refl _,av.refl _,λ_ _ _ z=>z⟩
theorem Gr.trans{F H f c g d}(a:Gr F H f c)(b:Gr f c g d):Gr F H g d:=⟨a.f.trans b.f,a.h.trans b.h,λx o e z=>b.nf x o (a.h x o e) (a.nf x o e z)⟩
def Ext.gr{F H b H'}(e:Ext F H b H'):Gr F H b H':=⟨e.same,λa o q=>(e.own a o q).1,λa o q=>(e.own a o q).2⟩
section
variable{B:Bx}{σ:Ws}{σV:L2.St}{F H:Hp}
def Gr.new{p}(c:F p=none)(b:H p=none)(o):Gr F H (upd F p o) (upd H p o):=⟨au c o,au b o,λa u e z=>by rw[ae (aD e b)];exact z⟩
theorem Ext.refl(F H):Ext F H F H:=⟨av.refl _,λ_ _ _ h=>h,λ_ h=>h,λ_ _ h=>⟨h,λz=>z⟩⟩
def RB.new(R:RB B F H){p}(d:H p=none)(o)(f:NF o:=by trivial):RB B (upd F p o) (upd H p o):=by
 refine⟨λb u e=>?_,λb u e=>?_,R.fz0.trans (au (R.sub.free d) o),λa u e=>?_⟩
 .by_cases c:b=p;.subst c;rw[ah]at e⊢;exact e
  .rw[ae c]at e⊢;exact R.sub b u e
 .exact au d o b u (R.base b u e)
 .by_cases c:a=p;.subst c;rw[ah]at e;cases e;exact .inr ⟨R.base.free d,f⟩
  .rw[ae c]at e;exact R.fr a u e
theorem RS.new(R:RS B σ σV F H){p}(b:H p=none)(o)(r:NF o:=by trivial):RS B σ σV (upd F p o) (upd H p o):=by
 have d:=R.rb.sub.free b;refine⟨R.rb.new b o r,R.len,λi w e=>?_,λi ws e=>?_,R.ap,R.abU (au d o) λa k c q=>⟨by rw[ae (aD c b)];exact q,by rw[ae (aD c b)];exact c⟩⟩;.obtain⟨v,f,g⟩:=R.va i w e;exact⟨v,f,g.keep (au d o)⟩
 .refine jB (R.ow i _ e) λa l f g n j m=>?_;have h:a≠p:=λz=>by grind
  exact tm a l f (by rw[ae h];exact g) n (by rw[ae h];exact j) (m.keep (au d o))
theorem Ext.new{p}(f:F p=none)(c:H p=none)(o)(d:NF o:=by trivial):Ext F H (upd F p o) (upd H p o):=⟨au f o,λ_ _ _ R=>R.new c o d,λ_ R=>R.new c o d,λa u e=>by
 have b:a≠p:=λz=>by grind
 exact⟨by rw[ae b];exact e,λz=>by rw[ae b];exact z⟩⟩
def RS.adP(R:RS B σ σV F H){p}(c:H p=none)(o):RS B σ σV F (upd H p o):=by refine⟨⟨λb u e=>au c o b u (R.rb.sub b u e),λb u e=>au c o b u (R.rb.base b u e),R.rb.fz0,R.rb.fr⟩,R.len,R.va,λi ws e=>?_,R.ap,R.abU (av.refl _) λa g d m=>⟨m,by rw[ae (aD d c)];exact d⟩⟩;refine jB (R.ow i _ e) λa h k n l f j=>?_;exact⟨a,h,k,n,l,au c o _ _ f,j⟩
def RS.grow(R:RS B σ σV F H){d H'}(g:Gr F H d H')(o:RB B d H'):RS B σ σV d H':=by
 refine⟨o,R.len,λi w e=>?_,λi ws e=>?_,R.ap,R.abU g.f λa j f n=>⟨g.nf a _ f n,g.h a _ f⟩⟩;.obtain⟨v,b,c⟩:=R.va i w e;exact⟨v,b,c.keep g.f⟩
 .refine jB (R.ow i _ e) λa k b c m h l=>?_;exact⟨a,k,b,g.nf a _ h c,m,g.h a _ h,l.keep g.f⟩
theorem RS.set(R:RS B σ σV F H){i:Nat}{w:VW}{v:V}(hw:RW B.K F w v):RS B (σ.set i (.va w)) (σV.set i (some v)) F H:=by
 have r:=R.len;refine⟨R.rb,by simp[r],λj u e=>?_,λj ws e=>?_,λj k ws h a g f c m l=>?_,R.aeG i (sl:=.va w) (λz=>z) _ (av.refl _) λ_ _ _ _ _ _ _ _ n p=>⟨p,n⟩⟩
 .by_cases d:i=j
  .subst d;have b:i<σ.length:=by have:=(ail.mp e).1;simpa using this
   rw[ain b]at e;cases e;exact⟨v,ain (by omega),hw⟩
  .rw[aii d]at e⊢;exact R.va j u e
 .by_cases d:i=j
  .subst d;have b:i<σ.length:=by have:=(ail.mp e).1;simpa using this
   rw[ain b]at e;cases e
  .rw[aii d]at e⊢;exact R.ow j ws e
 .have o:i≠j:=λz=>by
   subst z;have b:i<σ.length:=by have:=(ail.mp f).1;simpa using this
   rw[ain b]at f;cases f
  have q:i≠k:=λz=>by
   subst z;have b:i<σ.length:=by have:=(ail.mp c).1;simpa using this
   rw[ain b]at c;cases c
  rw[aii o]at f m;rw[aii q]at c l;exact R.ap j k ws h a g f c m l
def RS.ahK(R:RS B σ σV F H){i:Nat}{ws:List VW}{vs:List V}{a:Addr}(x:F a=none)(w:B.H0 a=none)(t:H a=some (.lst vs))(hw:RWs B.K F ws vs)(s:∀(j:Nat)(c:List VW),j≠i->σ[j]?=some (.ow c)->σV[j]?≠some (some (.ref a))):RS B (σ.set i (.ow ws)) (σV.set i (some (.ref a))) F H:=by
 have A:=R.len;have g:∀{j:Nat}{c:List VW},(σ.set i (.ow ws))[j]?=some (.ow c)->i=j->c=ws/\(σV.set i (some (V.ref a)))[j]?=some (some (.ref a)):=λ{j c}e z=>by
  subst z;have r:i<σ.length:=by have:=(ail.mp e).1;simpa using this
  rw[ain r]at e;cases e;exact⟨rfl,ain (by omega)⟩
 refine⟨R.rb,by simp[A],λj u e=>?_,λj c e=>?_,λj k c l b h p n q m=>?_,R.aeG i (sl:=.ow ws) (λz=>z) _ (av.refl _) λ_ _ _ _ _ _ _ _ v y=>⟨y,v⟩⟩
 .by_cases d:i=j
  .subst d;have r:i<σ.length:=by have:=(ail.mp e).1;simpa using this
   rw[ain r]at e;cases e
  .rw[aii d]at e⊢;exact R.va j u e
 .by_cases d:i=j;.obtain⟨rfl,f⟩:=g e d;exact⟨a,vs,f,x,w,t,hw⟩
  .rw[aii d]at e⊢;exact R.ow j c e
 .by_cases d:i=j;.obtain⟨_,f⟩:=g p d;rw[q]at f;cases f;have o:i≠k:=λz=>h (d.symm.trans z);rw[aii o]at n m;exact s k l (aiu o) n m
  .rw[aii d]at p q;by_cases o:i=k;.obtain⟨_,f⟩:=g n o;rw[m]at f;cases f;exact s j c (aiu d) p q
   .rw[aii o]at n m;exact R.ap j k c l b h p n q m
def RS.write(R:RS B σ σV F H){i}{ws us:List VW}{vs h a}(e:σ[i]?=some (.ow ws))(p:σV[i]?=some (some (.ref a)))(r:F a=none)(t:B.H0 a=none)(I:H a=some (.lst vs))(Q:RWs B.K F us h):RS B (σ.set i (.ow us)) σV F (upd H a (.lst h)):=by
 have s:i<σ.length:=(ail.mp e).1;refine⟨⟨λb u q=>by rw[ae ((λb o q z=>by subst z;rw[r]at q;cases q) b u q)];exact R.rb.sub b u q,λb u q=>by
  have f:b≠a:=λz=>by subst z;rw[t]at q;cases q
  rw[ae f];exact R.rb.base b u q,R.rb.fz0,R.rb.fr⟩,by simp[R.len],λj w q=>?_,λj d q=>?_,λj k d x b l A J C G=>?_,by
 have S:=R.aeG (H':=upd H a (.lst h)) i (sl:=.ow us) (λz=>z) (some (.ref a)) (av.refl _) λ_ _ _ b M _ _ _ n P=>⟨P,by
   have f:b≠a:=λz=>by subst z;rw[I]at n;cases n
   rw[ae f];exact n⟩;rwa[set_same p]at S⟩
 .by_cases c:i=j;.subst c;rw[ain s]at q;cases q
  .rw[aii c]at q;exact R.va j w q
 .by_cases c:i=j;.subst c;rw[ain s]at q;cases q;exact tm a h p r t ah Q
  .rw[aii c]at q;refine jB (R.ow j d q) λb g v D O K y=>?_;have f:b≠a:=λz=>by subst z;exact R.ap i j ws d b c e q p v
   exact tm b g v D O (by rw[ae f];exact K) y
 .have back:∀{j:Nat}{d:List VW},(σ.set i (.ow us))[j]?=some (.ow d)->∃g,σ[j]?=some (.ow g):=λ{j d}q=>by
   by_cases c:i=j;.subst c;exact⟨ws,e⟩
   .rw[aii c]at q;exact⟨d,q⟩
  obtain⟨g,N⟩:=back A;obtain⟨m,E⟩:=back J;exact R.ap j k g m b l N E C G
def RS.aho(R:RS B σ σV F H){i:Nat}{sl:Sl}{a:Addr}{o:HO}{w:VW}(e:σ[i]?=some sl)(A:σV[i]?=some (some (.ref a)))(D:F a=none)(Q:B.H0 a=none)(O:H a=some o)(J:NF o)(hw:RW B.K (upd F a o) w (.ref a))(E:∀(j:Nat)(ws:List VW),i≠j->σ[j]?=some (.ow ws)->σV[j]?≠some (some (.ref a)))(I:∀(j:Nat)(x t:List VW),i≠j->σ[j]?=some (.od x t)->σV[j]?≠some (some (.ref a))):RS B (σ.set i (.va w)) σV (upd F a o) H:=by
 have l:i<σ.length:=(ail.mp e).1;have s:av F (upd F a o):=au D _;refine⟨⟨λb u q=>?_,R.rb.base,R.rb.fz0.trans s,λb u q=>?_⟩,by simp[R.len],λj w' q=>?_,λj g q=>?_,λj k g p b n f h K N=>?_,by
 have Z:=R.aeG i (sl:=.va w) (λz=>z) (some (.ref a)) s λj x t b U c S M P Y=>⟨by
  have r:b≠a:=λz=>by subst z;exact I j x t c S M
  rw[ae r];exact Y,P⟩;rwa[set_same A]at Z⟩
 .by_cases d:b=a;.subst d;rw[ah]at q;cases q;exact O
  .rw[ae d]at q;exact R.rb.sub b u q
 .by_cases d:b=a;.subst d;rw[ah]at q;cases q;exact .inr ⟨Q,J⟩
  .rw[ae d]at q;exact R.rb.fr b u q
 .by_cases c:i=j;.subst c;rw[ain l]at q;cases q;exact⟨.ref a,A,hw⟩
  .rw[aii c]at q;obtain⟨v,m,y⟩:=R.va j w' q;exact⟨v,m,y.keep s⟩
 .by_cases c:i=j;.subst c;rw[ain l]at q;cases q
  .rw[aii c]at q;obtain⟨b,ys,m,y,G,T,C⟩:=R.ow j g q;have r:b≠a:=λz=>by subst z;exact E j g c q m
   exact⟨b,ys,m,by rw[ae r];exact y,G,T,C.keep s⟩
 .have X:i≠j:=λz=>by subst z;rw[ain l]at f;cases f
  have n2:i≠k:=λz=>by subst z;rw[ain l]at h;cases h
  rw[aii X]at f;rw[aii n2]at h;exact R.ap j k g p b n f h K N
def Ow1:HO->Prop|.lst _=>True|.dK _=>True|_=>False
theorem RS.frz(R:RS B σ σV F H)(i):∃s,av F s/\RS B (WL.frz i σ) σV s H/\(s=F/\WL.frz i σ=σ\/∃a o w,s=upd F a o/\Ow1 o/\F a=none/\WL.frz i σ=σ.set i (.va w)/\σV[i]?=some (some (.ref a))/\H a=some o/\B.H0 a=none):=by cases e:σ[i]? with
|none=>
 have c:WL.frz i σ=σ:=by unfold WL.frz;rw[e]
 rw[c];exact⟨F,av.refl _,R,.inl ⟨rfl,rfl⟩⟩
|some sl=>cases sl with|no=>
  have c:WL.frz i σ=σ:=by unfold WL.frz;rw[e]
  rw[c];exact⟨F,av.refl _,R,.inl ⟨rfl,rfl⟩⟩|va w=>
  have c:WL.frz i σ=σ:=by unfold WL.frz;rw[e]
  rw[c];exact⟨F,av.refl _,R,.inl ⟨rfl,rfl⟩⟩|ob=>
  have c:WL.frz i σ=σ:=by unfold WL.frz;rw[e]
  rw[c];exact⟨F,av.refl _,R,.inl ⟨rfl,rfl⟩⟩|ow ws=>
  have c:WL.frz i σ=σ.set i (.va (.lst ws)):=by unfold WL.frz;rw[e]
  rw[c];obtain⟨a,u,g,d,p,f,v⟩:=R.ow i ws e;refine⟨upd F a (.lst u),au d _,R.aho e g d p f trivial (by simp only[RW];exact⟨a,u,rfl,SqL.of ah,v.keep (au d _)⟩) (λj y l q z=>R.ap i j ws y a l e q g z) λj r h l q z=>?_,.inr ⟨a,_,_,rfl,trivial,d,rfl,g,f,p⟩⟩;obtain⟨b,m,n,_,_,k,_⟩:=R.dd.od j r h q;rw[z]at n;cases n;rw[f]at k;cases k|od r h=>
  have c:WL.frz i σ=σ.set i (.va (.dic r h)):=by unfold WL.frz;rw[e]
  rw[c];obtain⟨a,m,g,d,p,f,v,A⟩:=R.dd.od i r h e;refine⟨_,au d _,R.aho e g d p f trivial (by simp only[RW];exact⟨a,m,rfl,.inl ah,v.keep (au d _),A.keep (au d _)⟩) (λj y l q z=>?_) λj x t l q z=>R.dd.ad i j r h x t a l e q g z,.inr ⟨a,_,_,rfl,trivial,d,rfl,g,f,p⟩⟩;obtain⟨b,u,n,_,_,k,_⟩:=R.ow j y q;rw[z]at n;cases n;rw[f]at k;cases k
def RS.ahL(R:RS B σ σV F H){i:Nat}{ks us:List VW}{m:List (Key×V)}{a:Addr}(y:F a=none)(D:B.H0 a=none)(C:H a=some (.dK m))(G:RWs B.K F ks (m.map λp=>kV p.1))(K:RWs B.K F us (m.map λp=>p.2))(x:∀(j:Nat)(r q:List VW),j≠i->σ[j]?=some (.od r q)->σV[j]?≠some (some (.ref a))):RS B (σ.set i (.od ks us)) (σV.set i (some (.ref a))) F H:=by
 have N:=R.len;have c:∀{j:Nat}{v:Sl},(σ.set i (.od ks us))[j]?=some v->i=j->v=.od ks us/\(σV.set i (some (V.ref a)))[j]?=some (some (.ref a)):=λ{j v}e z=>by
  subst z;have E:i<σ.length:=by have:=(ail.mp e).1;simpa using this
  rw[ain E]at e;exact⟨(aiB e).symm,ain (by omega)⟩
 refine⟨R.rb,by simp[N],λj u e=>?_,λj w e=>?_,λj k w t b l h f o n=>?_,λj r q e=>?_,λj k J us1 A us2 b l h f o n=>?_,λj e=>?_⟩
 .by_cases d:i=j;.cases(c e d).1
  .rw[aii d]at e⊢;exact R.va j u e
 .by_cases d:i=j;.cases(c e d).1
  .rw[aii d]at e⊢;exact R.ow j w e
 .have I:i≠j:=λz=>by cases(c h z).1
  have M:i≠k:=λz=>by cases(c f z).1
  rw[aii I]at h o;rw[aii M]at f n;exact R.ap j k w t b l h f o n
 .by_cases d:i=j;.obtain⟨h,f⟩:=c e d;cases h;exact⟨a,m,f,y,D,C,G,K⟩
  .rw[aii d]at e⊢;exact R.dd.od j r q e
 .by_cases d:i=j;.have s:=(c h d).2;rw[o]at s;cases s;have g:i≠k:=λz=>l (d.symm.trans z);rw[aii g]at f n;exact x k _ _ (aiu g) f n
  .rw[aii d]at h o;by_cases g:i=k;.have s:=(c f g).2;rw[n]at s;cases s;exact x j _ _ (aiu d) h o
   .rw[aii g]at f n;exact R.dd.ad j k _ _ _ _ b l h f o n
 .have d:i≠j:=λz=>by cases(c e z).1
  rw[aii d]at e⊢;exact R.dd.ob j e
def RS.acy(R:RS B σ σV F H){i:Nat}{ks us g us2:List VW}{G c:List (Key×V)}{a:Addr}(e:σ[i]?=some (.od ks us))(P:σV[i]?=some (some (.ref a)))(N:F a=none)(O:B.H0 a=none)(X:H a=some (.dK G))(Z:RWs B.K F g (c.map λp=>kV p.1))(hu:RWs B.K F us2 (c.map λp=>p.2)):RS B (σ.set i (.od g us2)) σV F (upd H a (.dK c)):=by
 have m:i<σ.length:=(ail.mp e).1;have T:∀b o,F b=some o->b≠a:=λb o q z=>by subst z;rw[N]at q;cases q
 refine⟨⟨λb u q=>by rw[ae (T b u q)];exact R.rb.sub b u q,λb u q=>by
 have n:b≠a:=λz=>by subst z;rw[O]at q;cases q
 rw[ae n];exact R.rb.base b u q,R.rb.fz0,R.rb.fr⟩,by simp[R.len],λj w q=>?_,λj C q=>?_,λj k C t b f h l A E=>?_,λj J D q=>?_,λj k a0 us1 Q us3 b f h l A E=>?_,λj q=>?_⟩
 .by_cases d:i=j;.subst d;rw[ain m]at q;cases q
  .rw[aii d]at q;exact R.va j w q
 .by_cases d:i=j;.subst d;rw[ain m]at q;cases q
  .rw[aii d]at q;obtain⟨b,K,s,M,I,r,v⟩:=R.ow j C q;have n:b≠a:=λz=>by subst z;rw[X]at r;cases r
   exact⟨b,K,s,M,I,by rw[ae n];exact r,v⟩
 .have n1:i≠j:=λz=>by subst z;rw[ain m]at h;cases h
  have n2:i≠k:=λz=>by subst z;rw[ain m]at l;cases l
  rw[aii n1]at h;rw[aii n2]at l;exact R.ap j k C t b f h l A E
 .by_cases d:i=j;.subst d;rw[ain m]at q;cases q;exact⟨a,c,P,N,O,ah,Z,hu⟩
  .rw[aii d]at q;obtain⟨b,K,s,M,I,r,v⟩:=R.dd.od j J D q;have n:b≠a:=λz=>by subst z;exact R.dd.ad i j _ _ _ _ b d e q P s
   exact⟨b,K,s,M,I,by rw[ae n];exact r,v⟩
 .have back:∀{j:Nat}{x y:List VW},(σ.set i (.od g us2))[j]?=some (.od x y)->∃Y S,σ[j]?=some (.od Y S):=λ{j x y}q=>by
   by_cases d:i=j;.subst d;exact⟨_,_,e⟩
   .rw[aii d]at q;exact⟨_,_,q⟩
  obtain⟨_,_,g1⟩:=back h;obtain⟨_,_,U⟩:=back l;exact R.dd.ad j k _ _ _ _ b f g1 U A E
 .have d:i≠j:=λz=>by subst z;rw[ain m]at q;cases q
  rw[aii d]at q;exact R.dd.ob j q
end
end WS
set_option autoImplicit true
set_option relaxedAutoImplicit true
namespace WS
open PySem PySem.Spec PyProof.Rows L2
open WL(Res Sl Ws EF TF AF LF GF GsF SF Out OX RF Rn AXF)
section
variable{X:Cx}{e:Expr}{es:List Expr}{st:Stmt}{sts:List Stmt}
def PE.imp{t t'}(h:PE X e t)(f:∀a H Q,t' a H Q->t a H Q):PE X e t':=λb s a H Q I q=>h _ s a H Q I (f a H Q q)
def PT.imp{t t'}(h:PT X e t)(f:∀a H Q,t' a H Q->t a H Q):PT X e t':=λb s a H Q I q=>h _ s a H Q I (f a H Q q)
def PW.imp{t t'}(h:PW X e t)(f:∀a H Q,t' a H Q->t a H Q):PW X e t':=λc b s a H Q I q=>h _ _ s a H Q I (f a H Q q)
def PA.imp{t t'}(h:PA X es t)(f:∀a H Q,t' a H Q->t a H Q):PA X es t':=λc b s a H Q I q=>h _ _ s a H Q I (f a H Q q)
def PS.imp{t t'}(h:PS X st t)(f:∀D a H,t' D a H->t D a H):PS X st t':=λb s a H D I q=>h _ s a H D I (f D a H q)
def PSs.imp{t t'}(h:PSs X sts t)(f:∀D a H,t' D a H->t D a H):PSs X sts t':=λb s a H D I q=>h _ s a H D I (f D a H q)
def PG.imp{t t'}(h:PG X e t)(f:∀v a H Q,t' v a H Q->t v a H Q):PG X e t':=λb s a H v u Q I r q=>h _ s a H v u Q I r (f v a H Q q)
def PGs.imp{t t'}(h:PGs X es t)(f:∀v a H Q,t' v a H Q->t v a H Q):PGs X es t':=λb s a H v u Q I r q=>h _ s a H v u Q I r (f v a H Q q)
def PI.imp{b t t'}(h:PI X b e t)(f:∀a H Q,t' a H Q->t a H Q):PI X b e t':=λc s a H Q I q=>h _ s a H Q I (f a H Q q)
def PO.imp{o t t'}(h:PO X o t)(f:∀a H Q,t' a H Q->t a H Q):PO X o t':=λb s a H Q I q=>h _ s a H Q I (f a H Q q)
end
def Rq(B:Bx)(b:Ws)(F:Hp){α}(r:Res α)(k:α->Prop):Prop:=match r with|.ok a=>k a|.ex c=>B.xp c b F|.bad=>False
theorem Rq.mono{B b F d α r}{k k':α->Prop}(s:av F d)(h:Rq B b F r k)(f:∀a,k a->k' a):Rq B b d r k':=by cases r with|ok a=>exact f a h|ex c=>exact B.mono c b F _ s h|bad=>exact h
theorem Rq.bind{B b F α d r}{g:α->Res d}{k}(h:Rq B b F (r.bind g) k):Rq B b F r λa=>Rq B b F (g a) k:=by cases r with|ok a|ex c|bad=>exact h
def lo(B:Bx)(t:EF):TE:=λa H Q=>∃b F,RS B b a F H/\Rq B b F (t b) λw=>∀v c d,RS B b a d c->Gr F H d c->RW B.K d w v->Q v c
def loT(B:Bx)(t:TF):TT:=λa H Q=>∃c F,RS B c a F H/\Rq B c F (t c) λb=>∀d e,RS B c a e d->Gr F H e d->Q b d
def loA(B:Bx)(t:AF):TA:=λa H Q=>∃b F,RS B b a F H/\Rq B b F (t b) λws=>∀e c d,RS B b a d c->Gr F H d c->RWs B.K d ws e->Q e c
def loO(B:Bx)(t:Ws->Res (Option Int)):TO:=λa H Q=>∃b F,RS B b a F H/\Rq B b F (t b) λo=>∀c d,RS B b a d c->Gr F H d c->Q o c
def loL(B:Bx)(t:LF):TE:=λb H Q=>∃c F,RS B c b F H/\Rq B c F (t c) λws=>∀a f d e,RS B c b e d->Gr F H e d->e a=none->B.H0 a=none->d a=some (.lst f)->RWs B.K e ws f->(∀(j:Nat)(g:List VW),c[j]?=some (.ow g)->b[j]?≠some (some (.ref a)))->Q (.ref a) d
structure Gm(m:Bool)(F H F' H':Hp):Prop where
 f:av F F'
 nf:∀a o,H a=some o->F a=none->F' a=none
 th:∀a o,H a=some o->∃o',H' a=some o'
 h:m=true->av H H'
theorem Gm.refl{m F H}:Gm m F H F H:=⟨av.refl _,λ_ _ _ z=>z,λ_ o e=>⟨o,e⟩,λ_=>av.refl _⟩
theorem Gm.trans{m F H f d i h}(a:Gm m F H f d)(b:Gm m f d i h):Gm m F H i h:=⟨a.f.trans b.f,λx o e z=>by obtain⟨j,c⟩:=a.th x o e;exact b.nf x _ c (a.nf x o e z),λx o e=>by obtain⟨j,c⟩:=a.th x o e;exact b.th x _ c,λg=>(a.h g).trans (b.h g)⟩
def loG(m:Bool)(B:Bx)(g:GF):TG:=λv d H Q=>∃e F w,RS B e d F H/\RW B.K F w v/\Rq B e F (g w e) λc=>∀a b f,RS B c a f b->Gm m F H f b->Q a b
def afd(m:Bool)(B:Bx)(g:GsF):TGs:=λh c H Q=>∃e F ws,RS B e c F H/\RWs B.K F ws h/\Rq B e F (g ws e) λd=>∀a b f,RS B d a f b->Gm m F H f b->Q a b
def Oq(B:Bx)(D:Ends)(F:Hp)(o:Out):Prop:=match o with|.nx σ'=>∀a d b,RS B σ' a b d->av F b->D.nx a d|.bk σ'=>∀a d b,RS B σ' a b d->av F b->D.bk a d|.ct σ'=>∀a d b,RS B σ' a b d->av F b->D.ct a d|.rt w=>∀v d b,RB B b d->av F b->RW B.K b w v->D.rt v d|.ex c σ'=>B.xp c σ' F|.bad=>False
def loS(B:Bx)(t:SF):TS:=λD a H=>∃b F,RS B b a F H/\Oq B D F (t b)
theorem Oq.mono{B D F a o}(s:av F a)(h:Oq B D F o):Oq B D a o:=by cases o with|nx σ|bk σ|ct σ|rt w=>exact λb H G R z=>h _ H G R (s.trans z)|ex c σ=>exact B.mono c σ F _ s h|bad=>exact h
theorem Oq.ofR    (h:Oq B D F (WL.ofR σ r f)):Rq B σ F r λa=>Oq B D F (f a):=by cases r with|ok a|ex c|bad=>exact h
def Eq1(F H:Hp)(K:W.Frag)(r:Res VW)(Q:VK):Prop:=match r with|.ok w=>∀v b a,Ext F H b a->RW K b w v->Q v a|_=>False
def lo2(K:W.Frag)(r:VW->VW->Res VW):R2:=λx y H Q=>∃F wx a,av F H/\RW K F wx x/\RW K F a y/\Eq1 F H K (r wx a) Q
def lo1(K:W.Frag)(r:VW->Res VW):V->Hp->VK->Prop:=λx H Q=>∃F wx,av F H/\RW K F wx x/\Eq1 F H K (r wx) Q
def loN(K:W.Frag)(r:List VW->Res VW):List V->Hp->VK->Prop:=λa H Q=>∃F ws,av F H/\RWs K F ws a/\Eq1 F H K (r ws) Q
def Calm(r:VW->VW->Res VW):Prop:=∀x y c,r x y≠.ex c
def OpR.imp{X f r a}(h:OpR X f r)(g:∀x y H Q,a x y H Q->r x y H Q):OpR X f a:=λb s d H x y v u Q I e c q=>h _ s d H x y v u Q I e c (g x y H Q q)
def UnR.imp{X f r b}(h:UnR X f r)(g:∀x H Q,b x H Q->r x H Q):UnR X f b:=λa s c H x v Q I d q=>h _ s c H x v Q I d (g x H Q q)
def bx.imp{X f r c}(h:bx X f r)(g:∀a H Q,c a H Q->r a H Q):bx X f c:=λb s d H a i Q I e q=>h _ s d H _ _ Q I e (g _ H Q q)
def IxR.imp{X r c}(h:IxR X r)(g:∀x y H Q,c x y H Q->r x y H Q):IxR X c:=λa b d s f H x y v u Q I j e q i=>h _ _ _ s f H x y v u Q I j e (g x y H Q q) i
def SlR.imp{X r d}(h:SlR X r)(g:∀x a b H Q,d x a b H Q->r x a b H Q):SlR X d:=λe s f H x v j k lo m l Q I i a b c q=>h _ s f H x v _ _ _ _ _ Q I i a b c (g x _ _ H Q q)
section
variable{X:Cx}{B:Bx}{e a b c:Expr}{es:List Expr}{pos:Pos}{ta tb tc:EF}{K:W.Frag}
def acD{i}(h:PE X e (cQ i)):PE X e (lo B (WL.ao i)):=PE.imp h λf H Q d=>by
 refine cH d λj F R q=>?_;simp [WL.ao]at q;split at q;.rename_i w e;obtain⟨v,g,r⟩:=R.va i w e;exact⟨v,g,q v H F R Gr.refl r⟩
 .exact q.elim
def aaE (h:PE X e (tC v))(r:∀F,RW B.K F w v):PE X e (lo B (WL.eC w)):=PE.imp h λf H Q d=>by obtain⟨g,F,R,q⟩:=d;exact q v H F R Gr.refl (r F)
def ak{i j pos}:PE X (.Constant (.int i) j pos) (lo B (WL.eC (.int i))):=aaE zT λ_=>rfl
def l1{i j pos}:PE X (.Constant (.bool i) j pos) (lo B (WL.eC (.bl i))):=aaE af7 λ_=>rfl
def gE{j pos}:PE X (.Constant .none j pos) (lo B (WL.eC .non)):=aaE ady λ_=>rfl
def ax{x j pos}:PE X (.Constant (.str x) j pos) (lo B (WL.eC (.str x))):=aaE mK λ_=>rfl
def yK (cm:Calm r)(f:∀x y H Q,lo2 B.K r x y H Q->rV x y H Q):∀d H Q,lo B (WL.eOp r ta tb) d H Q->tOp rV (lo B ta) (lo B tb) d H Q:=by intro d H Q⟨h,F,R,q⟩;have q:=Rq.bind q;refine cG h F R (Rq.mono (av.refl _) q λx m z t k s j n=>cG h k s (Rq.mono j.f (Rq.bind m) λy g u C o R2 i p=>f _ _ _ _ (n9 o x y R2.rb.sub (n.keep i.f) p ?_)));cases e:r x y with|ok w=>rw[e]at g;exact λv D A E l=>g v _ _ (E.rs B h _ R2) ((j.trans i).trans E.gr) l|ex c=>exact(cm x y c e).elim|bad=>rw[e]at g;exact g
def bH (cm:Calm r)(h:OpR X (binaryOp op) (lo2 B.K r))(d:PE X a (lo B ta))(f:PE X b (lo B tb)):PE X (.BinOp a op b pos) (lo B (WL.eOp r ta tb)):=PE.imp (af6 h d f) (yK cm λ_ _ _ _ q=>q)
def dt (cm:Calm r)(h:OpR X (compareOp op) (lo2 B.K r))(d:PE X a (lo B ta))(f:PE X b (lo B tb))(g:behindInMarks op b=false):PE X (.Compare a [op] [b] pos) (lo B (WL.eOp r ta tb)):=PE.imp (abb h d f g) (yK cm λ_ _ _ _ q=>q)
def acF (cm:Calm r)(h:IxR X (lo2 B.K r))(f:PE X a (lo B ta))(g:PE X b (lo B tb))(d:gC b):PE X (.Subscript a b pos) (lo B (WL.eOp r ta tb)):=PE.imp (adz h f g d) (yK cm λ_ _ _ _ q=>q)
def fR (cm:∀x c,r x≠.ex c)(h:UnR X (unaryOp op) (lo1 B.K r))(k:PE X a (lo B ta)):PE X (.UnaryOp op a pos) (lo B (WL.eUn r ta)):=PE.imp (af4 h k) λl H Q f=>by refine cH f λg F R q=>?_;have q:=Rq.bind q;refine⟨g,F,R,Rq.mono (av.refl _) q λx d s p j i o m=>⟨j,x,i.rb.sub,m,?_⟩⟩;cases e:r x with|ok w=>rw[e]at d;exact λv u t E n=>d v _ _ (E.rs B g _ i) (o.trans E.gr) n|ex c=>exact(cm x c e).elim|bad=>rw[e]at d;exact d
def o6:∀d H Q,loT B (WL.tB t) d H Q->aaO (lo B t) d H Q:=by
 intro d H Q⟨g,F,R,q⟩;have q:=Rq.bind q;refine cG g F R (Rq.mono (av.refl _) q λx f k l m j i h=>?_);cases x<;>first|exact f.elim|skip
 exact⟨_,h,f _ _ j i⟩
def bz (cm:Calm r)(h:OpR X (compareOp op) (lo2 B.K r))(g:PE X a (lo B ta))(i:PE X b (lo B tb))(f:behindInMarks op b=false):PT X (.Compare a [op] [b] pos) (loT B (WL.tB (WL.eOp r ta tb))):=PT.imp (aa3 h g i f) λd H Q q=>yK cm (λ_ _ _ _ q=>q) _ H _ (o6 _ H Q q)
def ck (h:PE X e (lo B t))(f:∀d,isTrue e X.env d=(do let v <-d;standAt e.pos;holding [v] (truthy v)):=by intro _;rfl):PT X e (loT B (WL.tB t)):=PT.imp (adm h f) o6
def qI (cm:Calm r)(o:Calm r'):∀d H Q,lo B (WL.kx r r' ta tb tc) d H Q->uy (lo2 B.K r) (lo2 B.K r') (lo B ta) (lo B tb) (lo B tc) d H Q:=by intro d H Q⟨f,F,R,q⟩;have q:=Rq.bind q;refine cG f F R (Rq.mono (av.refl _) q λx p v1 Y G U j S=>?_);have p:=Rq.bind p;refine cG f G U (Rq.mono j.f p λy m v2 H2 T R2 i t=>?_);refine n9 T x y R2.rb.sub (S.keep i.f) t ?_;unfold Eq1;cases e:r x y with|ex c=>exact(cm x y c e).elim|bad=>rw[e]at m;exact m|ok z=>rw[e]at m;intro v3 D P g N;have h:=m;cases z with
 |bl k=>refine⟨k,N,?_⟩;cases k with|false=>exact h (.bl false) P D (g.rs B f d R2) ((j.trans i).trans g.gr) (by simp[RW])|true=>have h:=Rq.bind (show Rq B f F ((tc f).bind λw=>r' y w) _ from h);refine cG f D (g.rs B f d R2) (Rq.mono ((j.trans i).trans g.gr).f h λw l v4 Z I s C E=>?_);refine n9 I y w s.rb.sub ((t.keep g.same).keep C.f) E ?_;unfold Eq1;cases n:r' y w with|ex c=>exact(o y w c n).elim|bad=>rw[n]at l;exact l|ok u=>rw[n]at l;exact λv O M A J=>l v M O (A.rs B f d s) ((((j.trans i).trans g.gr).trans C).trans A.gr) J
 |_=>exact h.elim
def pR (cm:Calm r)(f:Calm r')(h:OpR X (compareOp op) (lo2 B.K r))(d:OpR X (compareOp op') (lo2 B.K r'))(i:PE X a (lo B ta))(k:PE X b (lo B tb))(j:PE X c (lo B tc))(g:lastMarks [op,op'] [b,c]=false:=by with_unfolding_all rfl):PE X (.Compare a [op,op'] [b,c] pos) (lo B (WL.kx r r' ta tb tc)):=PE.imp (yx h d i k j g) (qI cm f)
def xH (cm:Calm r)(f:Calm r')(i:OpR X (compareOp op) (lo2 B.K r))(d:OpR X (compareOp op') (lo2 B.K r'))(j:PE X a (lo B ta))(l:PE X b (lo B tb))(k:PE X c (lo B tc))(h:lastMarks [op,op'] [b,c]=false:=by with_unfolding_all rfl):PT X (.Compare a [op,op'] [b,c] pos) (loT B (WL.tB (WL.kx r r' ta tb tc))):=PT.imp (yk i d j l k h) λg H Q q=>qI cm f _ H _ (o6 _ H Q q)
variable{uA uB:TF}{rest:List Expr}
def eN(d:PT X a (loT B uA)):PW X (.BoolOp .And [a] pos) (loT B uA):=aa1 d
def jQ(d:PT X a (loT B uA)):PW X (.BoolOp .Or [a] pos) (loT B uA):=adk d
def fj(l:PT X a (loT B uA))(o:PW X (.BoolOp .And (b::rest) pos) (loT B uB)):PW X (.BoolOp .And (a::b::rest) pos) (loT B (WL.qa uA uB)):=PW.imp (adl l o) λn H Q d=>by refine cH d λg F R q=>?_;have q:=Rq.bind q;refine⟨g,F,R,Rq.mono (av.refl _) q λx h p k i f=>?_⟩;cases x with|true=>exact⟨g,k,i,Rq.mono f.f h λb m r s R2 j=>m _ _ R2 (f.trans j)⟩|false=>exact h _ _ i f
def rl(l:PT X a (loT B uA))(o:PW X (.BoolOp .Or (b::rest) pos) (loT B uB)):PW X (.BoolOp .Or (a::b::rest) pos) (loT B (WL.tOr uA uB)):=PW.imp (af2 l o) λn H Q d=>by refine cH d λg F R q=>?_;have q:=Rq.bind q;refine⟨g,F,R,Rq.mono (av.refl _) q λx h p k i f=>?_⟩;cases x with|false=>exact⟨g,k,i,Rq.mono f.f h λb m r s R2 j=>m _ _ R2 (f.trans j)⟩|true=>exact h _ _ i f
def eE(i:PT X a (loT B uA)):PT X (.UnaryOp .Not a pos) (loT B (WL.p8 uA)):=PT.imp (adn i) λg H Q d=>by obtain⟨h,F,R,q⟩:=d;have q:=Rq.bind q;exact⟨h,F,R,Rq.mono (av.refl _) q λx f=>f⟩
def lZ{op}(h:PE X a (lo B ta)):PE X (.BoolOp op [a] pos) (lo B ta):=adw h
def jT(m:PE X a (lo B ta))(s:PE X (.BoolOp .And (b::rest) pos) (lo B tb)):PE X (.BoolOp .And (a::b::rest) pos) (lo B (WL.abT ta tb)):=PE.imp (adA m s) λo H Q d=>by refine cH d λh F R q=>?_;have q:=Rq.bind q;refine cG h F R (Rq.mono (av.refl _) q λx f v t l i g p=>?_);cases x with
|bl k=>refine⟨k,p,?_⟩;cases k with|true=>exact cG h l i (Rq.mono g.f f λb n u w y R2 j r=>n _ _ _ R2 (g.trans j) r)|false=>exact f _ _ _ i g (rfl)
|_=>exact f.elim
def acE(g:PE X a (lo B ta)):PE X (.UnaryOp .Not a pos) (lo B (WL.ahv ta)):=PE.imp (adx g) λi H Q d=>by refine cH d λh F R q=>?_;have q:=Rq.bind q;refine⟨h,F,R,Rq.mono (av.refl _) q λx f v n o m l j=>?_⟩;cases x with|bl k=>exact⟨k,j,f _ _ _ m l (rfl)⟩|_=>exact f.elim
def afw(p:PT X c (loT B uA))(j:PE X a (lo B ta))(r:PE X b (lo B tb)):PE X (.IfExp c a b pos) (lo B (WL.eIf uA ta tb)):=PE.imp (yv p j r) λm H Q d=>by refine cH d λf F R q=>?_;have q:=Rq.bind q;refine cG f F R (Rq.mono (av.refl _) q λx l s i o g=>?_);cases x with|true|false=>exact⟨f,i,o,Rq.mono g.f l λb k t u v R2 h n=>k _ _ _ R2 (g.trans h) n⟩
variable{tas:AF}
def ai:PA X [] (loA B WL.az):=PA.imp df λf H Q d=>by obtain⟨g,F,R,q⟩:=d;exact q _ H F R Gr.refl (rfl)
def abw:∀d H Q,loA B (WL.ag ta tas) d H Q->fU (lo B ta) (loA B tas) d H Q:=λd H Q f=>by refine cH f λj F R q=>?_;have q:=Rq.bind q;refine cG j F R (Rq.mono (av.refl _) q λx g v p l o k m=>?_);have g:=Rq.bind g;exact cG j l o (Rq.mono k.f g λu h r s t R2 i n=>h _ _ _ R2 (k.trans i) (.cons (m.keep i.f) n))
def aa(d:PE X e (lo B ta))(g:PA X es (loA B tas))(f:SE X e es:=by rfl):PA X (e::es) (loA B (WL.ag ta tas)):=PA.imp (bg d g f) abw
def cM:WL.lim<=sizeLine:=by decide
def aE{l}(h:PA X es (loA B tas)):PE X (.Tuple es l pos) (lo B (WL.cR tas)):=PE.imp (adu h) λo H Q g=>by
 refine cH g λm F R q=>?_;have q:=Rq.bind q;refine⟨m,F,R,Rq.mono (av.refl _) q λs d n t u i r k=>?_⟩;by_cases j:s.length<=WL.lim;.rw[aij j]at d;exact⟨by rw[<-k.length];exact aip j cM,λp f=>d _ _ _ (i.new f _) (r.trans (Gr.new (i.rb.sub.free f) f _)) (by exact fg p n rfl (SqT.of ah) (k.keep (au (i.rb.sub.free f) _)))⟩
 .rw[aik j]at d;exact d.elim
def ad0:∀d H Q,lo B (WL.lX tas) d H Q->afL (loA B tas) d H Q:=λd H Q h=>by
 refine cH h λl F R q=>?_;have q:=Rq.bind q;refine⟨l,F,R,Rq.mono (av.refl _) q λo f m r s i n k=>?_⟩;by_cases j:o.length<=WL.lim;.rw[aij j]at f;exact⟨by rw[<-k.length];exact aip j cM,λp g=>f _ _ _ (i.new g _) (n.trans (Gr.new (i.rb.sub.free g) g _)) (by exact fg p m rfl (SqL.of ah) (k.keep (au (i.rb.sub.free g) _)))⟩
 .rw[aik j]at f;exact f.elim
def dc(h:PA X es (loA B tas)):PE X (.List es pos) (lo B (WL.lX tas)):=PE.imp (vd h) ad0
def agt{m d F l g xs vs p}{Q:VK}(k:RS B m d l g){H}(t:Gr F H l g)(s:RWs B.K l xs vs)(f:g p=none)(q:∀a vs h i,RS B m d i h->Gr F H i h->i a=none->B.H0 a=none->h a=some (.lst vs)->RWs B.K i xs vs->(∀(j:Nat)(n:List VW),m[j]?=some (.ow n)->d[j]?≠some (some (.ref a)))->Q (.ref a) h):Q (.ref p) (upd g p (.lst vs)):=q p _ _ _ (k.adP f _) (t.trans ⟨av.refl _,au f _,λ_ _ _ z=>z⟩) (k.rb.sub.free f) (k.rb.base.free f) ah s λj n e z=>by refine jB (k.ow j _ e) λa u r x w o v=>?_;rw[z]at r;cases r;rw[f]at o;cases o
def acz(h:PA X es (loA B tas)):PE X (.List es pos) (loL B (WL.ahm tas)):=PE.imp (vd h) λk H Q f=>by
 refine cH f λj F R q=>?_;have q:=Rq.bind q;refine⟨j,F,R,Rq.mono (av.refl _) q λo d t r s n m i=>?_⟩;by_cases g:o.length<=WL.lim;.rw[aij g]at d;exact⟨by rw[<-i.length];exact aip g cM,λp l=>agt n m i l d⟩
 .rw[aik g]at d;exact d.elim
def agz (cm:∀g c,r g≠.ex c):∀d H Q,lo B (WL.eBi r tas) d H Q->tCB (loN B.K r) (loA B tas) d H Q:=by intro d H Q⟨h,F,R,q⟩;have q:=Rq.bind q;refine cG h F R (Rq.mono (av.refl _) q λg f p n j i m k=>⟨j,g,i.rb.sub,k,?_⟩);cases e:r _ with|ok w=>rw[e]at f;exact λv s o E l=>f v _ _ (E.rs B h _ i) (m.trans E.gr) l|ex c=>exact(cm _ c e).elim|bad=>rw[e]at f;exact f
def acK (cm:∀d c,r d≠.ex c)(h:PE X e (tCB (loN B.K r) (loA B tas))):PE X e (lo B (WL.eBi r tas)):=PE.imp h (agz cm)
def oj:PO X none (loO B WL.pNo):=PO.imp u2 λf H Q d=>by obtain⟨g,F,R,q⟩:=d;exact q H F R Gr.refl
def oi(h:PE X e (lo B ta)):PO X (some e) (loO B (WL.mL ta)):=PO.imp (u1 h) λj H Q d=>by refine cH d λg F R q=>?_;have q:=Rq.bind q;refine⟨g,F,R,Rq.mono (av.refl _) q λx f v n o m l k=>?_⟩;cases x with|int i=>exact⟨i,k,f _ _ m l⟩|_=>exact f.elim
def ahk(K:W.Frag):V->Option Int->Option Int->Hp->VK->Prop:=λx l h H Q=>∃F wx,av F H/\RW K F wx x/\Eq1 F H K (WL.oSl wx l h) Q
variable{l u:Option Expr}{tl tu:Ws->Res (Option Int)}{p2:Pos}
def aaB(y:SlR X (ahk B.K))(z:PE X e (lo B ta))(N:PO X l (loO B tl))(J:PO X u (loO B tu)):PE X (.Subscript e (.Slice l u none p2) pos) (lo B (WL.eSl ta tl tu)):=PE.imp (qo y z N J) λi H Q k=>by refine cH k λg F R q=>?_;have q:=Rq.bind q;refine cG g F R (Rq.mono (av.refl _) q λx C v O r M j D=>cG g r M (Rq.mono j.f (Rq.bind C) λlo m S G R2 h=>?_));refine cG g G R2 (Rq.mono (j.trans h).f (Rq.bind m) λA d P I o n=>?_);refine⟨I,x,o.rb.sub,(D.keep h.f).keep n.f,?_⟩;cases f:WL.oSl x lo A with|ok w=>rw[f]at d;exact λv s t E p=>d v t s (E.rs B g i o) (((j.trans h).trans n).trans E.gr) p|ex c=>cases x<;>simp[WL.oSl]at f;split at f<;>cases f|bad=>rw[f]at d;exact d
def lend  (R:RS B σ σV F H)(t:Hp)(Q:av F t)(cs:t=F/\WL.frz i σ=σ\/∃a o w,t=upd F a o/\Ow1 o/\F a=none/\WL.frz i σ=σ.set i (.va w)/\σV[i]?=some (some (.ref a))/\H a=some o/\B.H0 a=none)(R2:RS B (WL.frz i σ) σV F2 H2)(f:Gr t H F2 H2):∃C,RS B σ σV C H2/\Gr F H C H2/\∀w v,WL.plain w=true->RW B.K F2 w v->RW B.K C w v:=by
 rcases cs with⟨rfl,A⟩|⟨a,ow,wa,rfl,r,y,A,E,hH,h0⟩;.rw[A]at R2;exact⟨F2,R2,f,λ_ _ _ h=>h⟩
 .rw[A]at R2;have k:=f.f _ _ ah;have s:av F λb=>if b=a then none else F2 b:=λb o q=>by
   have m:b≠a:=λz=>by subst z;rw[y]at q;cases q
   show(if b=a then none else F2 b)=some o;rw[aik m];exact f.f b o (Q b o q)
  have p:∀b o,(if b=a then none else F2 b)=some o->b≠a/\F2 b=some o:=λb o q=>by
   by_cases d:b=a;.rw[aij d]at q;cases q
   .rw[aik d]at q;exact⟨d,q⟩
  refine⟨λb=>if b=a then none else F2 b,⟨⟨λb o q=>R2.rb.sub b o (p b o q).2,R2.rb.base,R.rb.fz0.trans s,λb o q=>R2.rb.fr b o (p b o q).2⟩,R.len,λj w q=>?_,λj x q=>?_,R.ap,?_⟩,⟨s,f.h,λb o q z=>?_⟩,λw v Z h=>?_⟩;.obtain⟨v,g,J⟩:=R.va j w q;exact⟨v,g,J.keep s⟩
  .obtain⟨b,zs,g,J,O,U,N⟩:=R.ow j x q;refine⟨b,zs,g,?_,O,f.h b _ U,N.keep s⟩;by_cases d:b=a;.exact aij d
   .show(if b=a then none else F2 b)=none;rw[aik d];have G:i≠j:=λz=>by subst z;rw[E]at g;cases g;exact d rfl
    obtain⟨b',ys,n,D,_⟩:=R2.ow j x (by rw[aii G];exact q);rw[g]at n;cases n;exact D
  .refine R.dd.via rfl id (λ_ _ z=>.inl z) (λ_ _ _ e=>⟨e,rfl⟩) s λj P x b Y T I S q2 M=>⟨?_,M,f.h b _ S⟩;by_cases d:b=a;.exact aij d
   .show(if b=a then none else F2 b)=none;rw[aik d];have G:i≠j:=λz=>by subst z;rw[show σV[i]?=_ from I]at E;cases E;exact d rfl
    obtain⟨b',ys,n,D,_⟩:=R2.dd.od j P x (by rw[aii G];exact T);rw[show σV[j]?=_ from I]at n;cases n;exact D
  .show(if b=a then none else F2 b)=none;by_cases d:b=a;.exact aij d
   .rw[aik d];exact f.nf b o q (by rw[ae d];exact z)
  .refine RW.less (λc xs q=>?_) w v Z h;rcases q with(q|⟨o,q⟩)|q
   .refine .inl (.inl ?_);have m:c≠a:=λz=>by subst z;rw[k]at q;cases q;exact r
    show(if c=a then none else F2 c)=_;rw[aik m];exact q
   .refine .inl (.inr ⟨o,?_⟩);have m:c≠a:=λz=>by subst z;rw[k]at q;cases q;exact r
    show(if c=a then none else F2 c)=_;rw[aik m];exact q
   .exact .inr q
def acJ (h:PE X e (lo B ta)):PE X e (lo B (WL.ahx i ta)):=PE.imp h λs H Q d=>by
 refine cH d λj F R q=>?_;refine gD (R.frz i) λn x y r=>?_;refine cG _ n y ?_;have q:Rq B j F (match ta _ with|.ok w=>if WL.plain w then .ok w else .bad|_=>.bad) _:=q
 cases f:ta _ with|ok w=>
 rw[f]at q;intro v A C R2 m t;refine gD (lend R _ x r R2 m) λz p o k=>?_;have q:Rq B j F (if WL.plain w=true then .ok w else .bad) _:=q;by_cases g:WL.plain w=true;.rw[aij g]at q;exact q v _ _ p o (k w v g t)
 .rw[aik g]at q;exact q.elim|ex c=>rw[f]at q;exact q.elim|bad=>rw[f]at q;exact q
end
mutual def toD:VW->PyData|.non=>.none|.bl b=>.bool b|.int i=>.int i|.str x=>.str x|.ty _=>.none|.tup xs=>.tuple (cA xs)|.lst xs=>.list (cA xs)|.dic _ _=>.none|.cls _=>.none|.exc _ _=>.none|.ins _ _=>.none|.id _=>.none def cA:List VW->List PyData|[]=>[]|x::xs=>toD x::cA xs end
def rD(x):toD (.str x)=.str x:=(rfl)
def rE(x):toD (.int x)=.int x:=(rfl)
mutual theorem RW.isD{K:W.Frag}{H:Hp}:∀(n:Nat)(w:VW)(v:V),WL.okD n w=true->RW K H w v->IsD K H n v (toD w)
|n,.non,v,_,h=>by cases n<;>exact h|n,.bl b,v,_,h=>by cases n<;>exact h|n,.int i,v,_,h=>by cases n<;>exact h|n,.str x,v,o,h=>by cases n<;>exact⟨h,o⟩|n,.tup xs,v,o,h=>by obtain⟨a,vs,e,q,r⟩:=h;cases n with|zero=>cases xs<;>cases o|succ n=>exact⟨a,vs,e,q,RWs.isD n xs _ o r⟩
|n,.lst xs,v,o,h=>by obtain⟨a,vs,e,q,r⟩:=h;cases n with|zero=>cases xs<;>cases o|succ n=>exact⟨a,vs,e,q,RWs.isD n xs vs o r⟩theorem RWs.isD{K:W.Frag}{H:Hp}:∀(n:Nat)(ws:List VW)(vs:List V),WL.fG (n+1) ws=true->RWs K H ws vs->Paired (IsD K H n) vs (cA ws)|n,[],vs,_,h=>by simp only[RWs]at h;subst h;exact .nil|n,w::ws,vs,o,h=>by simp only[RWs]at h;obtain⟨v,r,rfl,q,t⟩:=h;have o:=aiY.mp o;exact .cons (RW.isD n w v o.1 q) (RWs.isD n ws r o.2 t)end
mutual theorem gu:∀(n m:Nat)(x y:VW),WL.okD n x=true->WL.okD m y=true->PyData.eqv (toD x) (toD y)=WL.eqv x y
|n,m,.tup xs,y,h1,h2=>by cases y with|tup ys=>exact lD n m xs ys h1 h2|_=>first|rfl|cases h2
|n,m,.lst xs,y,h1,h2=>by cases y with|lst ys=>exact lD n m xs ys h1 h2|_=>first|rfl|cases h2
|n,m,.ty _,_,h1,_=>by cases h1|n,m,.non,y,_,h2=>by cases y<;>first|rfl|cases h2
|n,m,.bl b,y,_,h2=>by cases y<;>rfl|n,m,.int b,y,_,h2=>by cases y<;>first|rfl|cases h2
|n,m,.str b,y,_,h2=>by cases y<;>first|rfl|cases h2 theorem lD:∀(n m:Nat)(xs ys:List VW),WL.fG n xs=true->WL.fG m ys=true->PyData.eqvAll (cA xs) (cA ys)=WL.abR xs ys|n,m,[],ys,_,_=>by cases ys<;>rfl|n,m,x::xs,ys,h1,h2=>by cases ys with|nil=>rfl|cons y ys=>cases n with|zero=>cases h1|succ n=>cases m with|zero=>cases h2|succ m=>have h1:=aiY.mp h1;have h2:=aiY.mp h2;show(PyData.eqv _ _&&PyData.eqvAll _ _)=(_&&_);rw[gu n m x y h1.1 h2.1,lD (n+1) (m+1) xs ys h1.2 h2.2]end
theorem pL{n m}{x:VW}(a:WL.okD n x=true):∀{ys:List VW},WL.fG m ys=true->((cA ys).any λz=>PyData.eqv z (toD x))=WL.jz x ys|[],_=>rfl|y::ys,h=>by cases m with|zero=>cases h|succ m=>have h:=aiY.mp h;simp [cA,WL.jz];rw[gu m n y x h.1 a,pL a h.2]
section
variable{X:Cx}{K:W.Frag}
def eq1{F H w Q v}(q:Eq1 F H K (.ok w) Q)(r:RW K F w v):Q v H:=q v F H (Ext.refl F H) r
def aeB{F H}{ws:List VW}{vs Q}(s:av F H)(q:Eq1 F H K (.ok (.lst ws)) Q)(r:RWs K F ws vs){p}(a:H p=none):Q (.ref p) (upd H p (.lst vs)):=q _ _ _ (Ext.new (s.free a) a _) (by exact⟨p,vs,rfl,SqL.of ah,r.keep (au (s.free a) _)⟩)
def afi{F H}{ws:List VW}{vs Q}(s:av F H)(q:Eq1 F H K (.ok (.tup ws)) Q)(r:RWs K F ws vs){p}(a:H p=none):Q (.ref p) (upd H p (.tup vs)):=q _ _ _ (Ext.new (s.free a) a _) (by exact⟨p,vs,rfl,SqT.of ah,r.keep (au (s.free a) _)⟩)
def abh:OpR X (binaryOp .Add) λx y H Q=>∃l b f g,x=.ref l/\y=.ref b/\SqL X.K H l f/\SqL X.K H b g/\f.length+g.length<=sizeLine/\∀p,H p=none->Q (.ref p) (upd H p (.lst (f++g))):=by
 intro z s Z H x y v u Q I N E h;refine aeW h λl b f g w o T P U q=>?_;subst w o;cases N;cases E;refine gD (I.list T) λc r J _=>?_;refine gD (I.list P) λa B t _=>?_;obtain⟨⟨cls,M,A,G⟩,C,O,n,R⟩:=J.isList;obtain⟨⟨D,k,data2,m⟩,d,i,S,j⟩:=t.isList;subst O R i j;have e:c.toArray++a.toArray=(c++a).toArray:=by simp
 have h1:=r.length;have Y:=B.length;refine ak5 ⟨_,C,rfl⟩ ⟨_,d,rfl⟩ noFill_list_add seq_list_add PySem.F.slot_list_add PySem.F.entry_list_add (PySem.F.args_list_add_2 _ _) (list_addW l b c.toArray a.toArray n S M k G m (by grind)) ⟨C,d,?_⟩;rw[e];exact fg (.ref _) _ (I.afe (r.append B) (by grind)) rfl (q _ I.fresh)
def yB:OpR X (binaryOp .Add) λx y H Q=>∃a b m,x=.ref a/\y=.ref b/\SqT X.K H a []/\SqT X.K H b m/\Q (.ref b) H:=by intro j s R H x y v u Q I C t h;refine aeX h λa b m i g D G q=>?_;subst i g;cases C;cases t;refine gD (I.tuple D) λJ r w _=>?_;refine gD (I.tuple G) λl P N _=>?_;cases r;obtain⟨⟨cls,B,k,z⟩,o,E,n,M⟩:=id w;obtain⟨⟨p,A,data2,f⟩,c,d,O,e⟩:=id N;subst E M d e;exact ak5 ⟨_,o,rfl⟩ ⟨_,c,rfl⟩ ak6 seq_tuple_add akf aj7 (ajY _ _) (tuple_addW0 a b _ _ n O B _ z f (rfl)) ⟨o,c,⟨.ref b,H,I,rfl,q⟩⟩
def w_add(z:X.K=K):OpR X (binaryOp .Add) (lo2 K WL.n7):=by
 subst z;refine OpR.imp (adJ.or (abh.or (abg.or yB))) λx y H Q t=>?_;obtain⟨F,wx,A,s,i,d,q⟩:=t;unfold WL.n7 at q;split at q;.simp only[RW]at i d;exact .inl ⟨_,_,i,d,q _ F H (Ext.refl F H) (by simp[RW])⟩
 rotate_left
 .rename_i m l;simp only[RW]at i d;obtain⟨a,g,rfl,k,f⟩:=i;obtain⟨b,e,rfl,j,h⟩:=d;by_cases c:m.length+l.length<=WL.lim
  .rw[aij c]at q;have n:=f.length;have o:=h.length;have r:g.length+e.length<=sizeLine:=by rw[<-n,<-o];exact aip c cM
   by_cases w:g=[];.subst w;have:m=[]:=aj8.mp n;subst this;refine .inr (.inr (.inr ⟨a,b,e,rfl,rfl,s.tup k,s.tup j,?_⟩));exact eq1 q (by simp only[RW,ajD];exact⟨b,e,rfl,j,h⟩)
   .refine .inr (.inr (.inl ⟨a,b,g,e,rfl,rfl,s.tup k,s.tup j,w,r,λv=>?_,λv p u=>?_⟩));.subst v;have:l=[]:=aj8.mp o;subst this;exact eq1 q (by simp only[RW,aiS];exact⟨a,g,rfl,k,f⟩)
    .exact afi s q (f.app h) u
  .rw[aik c]at q;exact q.elim
 .exact q.elim
 .rename_i m l;simp only[RW]at i d;obtain⟨a,g,rfl,k,f⟩:=i;obtain⟨b,e,rfl,j,h⟩:=d;by_cases c:m.length+l.length<=WL.lim;.rw[aij c]at q;have q:Eq1 F H X.K (.ok (.lst (m++l))) Q:=q;have n:=f.length;have o:=h.length;exact .inr (.inl ⟨a,b,g,e,rfl,rfl,s.seq k,s.seq j,by rw[<-n,<-o];exact aip c cM,λp u=>aeB s q (f.app h) u⟩)
  .rw[aik c]at q;exact q.elim
def bU:Calm WL.n7:=λx y c h=>by unfold WL.n7 at h;split at h<;>first|(cases h)|(split at h<;>cases h)
def aaG{f C g r}(h:OpR X f (rI C g))(k:∀x y w,r x y=.ok w->∃i j,x=.int i/\y=.int j/\C i j/\∀F,RW K F w (g i j))(cm:Calm r):OpR X f (lo2 K r):=by refine OpR.imp h λx y H Q b=>?_;refine xm b λF wx p s n l q=>?_;cases e:r _ _ with|bad=>rw[e]at q;exact q.elim|ex c=>exact(cm _ _ _ e).elim|ok w=>refine jO (k _ _ w e) λi j d a o m=>?_;subst d a;rw[e]at q;exact aal i j n l o (eq1 q (m F))
def pT{f g r}(h:OpR X f (rI0 g))(k:∀x y w,r x y=.ok w->∃i j,x=.int i/\y=.int j/\∀F,RW K F w (g i j))(cm:Calm r):OpR X f (lo2 K r):=by refine OpR.imp h λx y H Q b=>?_;refine xm b λF wx o s n l q=>?_;cases e:r _ _ with|bad=>rw[e]at q;exact q.elim|ex c=>exact(cm _ _ _ e).elim|ok w=>refine jP (k _ _ w e) λi j d a m=>?_;subst d a;rw[e]at q;exact⟨i,j,n,l,eq1 q (m F)⟩
def hY:Calm WL.xq:=λx y c h=>by unfold WL.xq at h;split at h<;>cases h
def fM:Calm WL.tw:=λx y c h=>by unfold WL.tw at h;split at h<;>first|(cases h)|(split at h<;>cases h)
def lN:Calm WL.oDiv:=λx y c h=>by unfold WL.oDiv at h;split at h<;>first|(cases h)|(split at h<;>cases h)
def bS:Calm WL.oMod:=λx y c h=>by unfold WL.oMod at h;split at h<;>first|(cases h)|(split at h<;>cases h)
def lL:Calm WL.oLt:=λx y c h=>by unfold WL.oLt at h;split at h<;>cases h
def eZ:Calm WL.oLe:=λx y c h=>by unfold WL.oLe at h;split at h<;>cases h
def fb:Calm WL.oGt:=λx y c h=>by unfold WL.oGt at h;split at h<;>cases h
def w_sub:OpR X (binaryOp .Sub) (lo2 K WL.xq):=pT adB (λx y w e=>by unfold WL.xq at e;split at e<;>cases e;exact⟨_,_,rfl,rfl,λF=>rfl⟩) hY
def w_mul:OpR X (binaryOp .Mult) (lo2 K WL.tw):=aaG adD (λx y w e=>by
 unfold WL.tw at e;split at e<;>first|(cases e)|skip
 split at e;.rename_i a;cases e;exact⟨_,_,rfl,rfl,a,λF=>rfl⟩
 .cases e) fM
def yA:OpR X (binaryOp .FloorDiv) (rI (λ_ j=>0<j/\j<10^100) λi j=>.int (i/j)):=opI λi j _ _ _ _ _ a q=>by
 have c:(0:Int)<j:=a.1;have d:j<10^100:=a.2;refine floordiv_int (by omega) (by rw[Int.fdiv_eq_ediv_of_nonneg i (by omega)];exact q) (.inl (PyProof.noPylong_of_log2 ?_));have b:j.natAbs<10^100:=by omega
 have:j.natAbs.log2<400:=(Nat.log2_lt (by omega)).mpr (aiq b (by decide+kernel));omega
def w_div:OpR X (binaryOp .FloorDiv) (lo2 K WL.oDiv):=aaG yA (λx y w e=>by
 unfold WL.oDiv at e;split at e<;>first|(cases e)|skip
 split at e;.rename_i a;cases e;exact⟨_,_,rfl,rfl,a,λF=>rfl⟩
 .cases e) lN
def w_mod:OpR X (binaryOp .Mod) (lo2 K WL.oMod):=aaG adE (λx y w e=>by
 unfold WL.oMod at e;split at e<;>first|(cases e)|skip
 split at e;.rename_i a;cases e;exact⟨_,_,rfl,rfl,a,λF=>rfl⟩
 .cases e) bS
def w_lt:OpR X (compareOp .Lt) (lo2 K WL.oLt):=pT aga (λx y w e=>by unfold WL.oLt at e;split at e<;>cases e;exact⟨_,_,rfl,rfl,λF=>rfl⟩) lL
def acb:OpR X (compareOp .LtE) (lo2 K WL.oLe):=pT agb (λx y w e=>by unfold WL.oLe at e;split at e<;>cases e;exact⟨_,_,rfl,rfl,λF=>rfl⟩) eZ
def acd:OpR X (compareOp .Gt) (lo2 K WL.oGt):=pT agc (λx y w e=>by unfold WL.oGt at e;split at e<;>cases e;exact⟨_,_,rfl,rfl,λF=>rfl⟩) fb
def fS:UnR X (unaryOp .USub) (lo1 K WL.k9):=UnR.imp acN λx H Q a=>by
 refine jP a λF wx s b q=>?_;cases wx<;>first|exact q.elim|skip
 exact⟨_,b,q _ F H (Ext.refl F H) (rfl)⟩
def bu:∀x c,WL.k9 x≠.ex c:=λx c h=>by cases x<;>simp[WL.k9]at h
def uK{F}{x y:VW}{v u}(h:WL.aaV x y=true)(b:RW K F x v)(a:RW K F y u):afS v u=true/\decide (v=u)=WL.eqv x y:=by
 cases x<;>first|(cases h)|skip
 all_goals cases y<;>first|(cases h;done)|(subst b;subst a;exact⟨rfl,by first|rfl|exact pj|exact wD|exact ph ⟩)
def calm_eq:Calm WL.oEq:=λx y c h=>by simp only[WL.oEq]at h;split at h<;>first|(cases h)|(split at h<;>cases h)
def wV:Calm WL.oNe:=λx y c h=>by simp only[WL.oNe]at h;split at h<;>first|(cases h)|(split at h<;>cases h)
def w_eq(f:X.K=K)(i:X.A.units+64<cLine):OpR X (compareOp .Eq) (lo2 K WL.oEq):=by
 subst f;refine OpR.imp (agd.or adI) λx y H Q a=>?_;refine xm a λF wx d s c b q=>?_;simp only[WL.oEq]at q;split at q;.rename_i h;obtain⟨e,g⟩:=uK h c b;exact .inl ⟨e,eq1 q (by simp[RW,g])⟩
 .split at q;.rename_i h;rw[aiw]at h;refine .inr (n9 50 _ _ (RW.isD _ _ x h.1 (c.keep s)) (RW.isD 50 d y h.2 (b.keep s)) (by omega) ?_);rw[gu 50 50 wx d h.1 h.2];exact eq1 q (rfl)
  .exact q.elim
def ag1(f:X.K=K)(i:X.A.units+64<cLine):OpR X (compareOp .NotEq) (lo2 K WL.oNe):=by
 subst f;refine OpR.imp (af9.or adC) λx y H Q a=>?_;refine xm a λF wx d s c b q=>?_;simp only[WL.oNe]at q;split at q;.rename_i h;obtain⟨e,g⟩:=uK h c b;exact .inl ⟨e,eq1 q (by simp[RW,g])⟩
 .split at q;.rename_i h;rw[aiw]at h;refine .inr (n9 50 _ _ (RW.isD _ _ x h.1 (c.keep s)) (RW.isD 50 d y h.2 (b.keep s)) (by omega) ?_);rw[gu 50 50 wx d h.1 h.2];exact eq1 q (rfl)
  .exact q.elim
def lM:Calm WL.oIn:=λx y c h=>by cases y<;>simp only[WL.oIn]at h<;>first|(cases h)|(split at h<;>cases h)
def eu:Calm WL.gO:=λx y c h=>by cases y<;>simp only[WL.gO]at h<;>first|(cases h)|(split at h<;>cases h)
def ae0(e:X.K=K)(i:X.A.units+64<cLine):OpR X (compareOp .In) (lo2 K WL.oIn):=by
 subst e;refine OpR.imp adH λx y H Q a=>?_;refine xm a λF wx g s f d q=>?_;cases g<;>simp only[WL.oIn]at q<;>first|exact q.elim|skip
 all_goals
 rename_i c;by_cases h:(WL.okD 50 wx&&WL.fG 51 c)=true;.rw[aij h]at q;rw[aiw]at h;have b:=RW.isD 51 _ y (by exact h.2) (d.keep s);refine n9 50 _ (cA c) (RW.isD 50 wx x h.1 (f.keep s)) (by first|exact .inl b|exact .inr b) (by omega) ?_;rw[pL h.1 h.2];exact eq1 q (rfl)
 .rw[aik h]at q;exact q.elim
def kK(e:X.K=K)(i:X.A.units+64<cLine):OpR X (compareOp .NotIn) (lo2 K WL.gO):=by
 subst e;refine OpR.imp vj λx y H Q a=>?_;refine xm a λF wx g s f d q=>?_;cases g<;>simp only[WL.gO]at q<;>first|exact q.elim|skip
 all_goals
 rename_i c;by_cases h:(WL.okD 50 wx&&WL.fG 51 c)=true;.rw[aij h]at q;rw[aiw]at h;have b:=RW.isD 51 _ y (by exact h.2) (d.keep s);refine n9 50 _ (cA c) (RW.isD 50 wx x h.1 (f.keep s)) (by first|exact .inl b|exact .inr b) (by omega) ?_;rw[pL h.1 h.2];exact eq1 q (rfl)
 .rw[aik h]at q;exact q.elim
def qO{F w v}(r:RW K F w v):decide (v=V.non)=WL.su w:=by cases w;all_goals first|(subst r;rfl)|(refine cH r λa d b _=>?_;subst b;rfl)|(obtain⟨a,rfl,_⟩:=r;rfl)|(refine pO r λa C c b _=>?_;subst b;rfl)|(refine acp r λa C c l b _=>?_;subst b;rfl)
def adG:OpR X (compareOp .Is) λx y H Q=>∃b,y=.bl b/\Q (.bl (decide (x=.bl b))) H:=by
 intro d s f H x y v u Q I a e h;obtain⟨b,rfl,q⟩:=h;cases e;refine wpAny_is_plain ?_ (aG I q ?_);.cases x<;>(obtain⟨t,rfl⟩:=a;rfl)
 .cases x with|bl c=>cases a;cases b<;>cases c<;>rfl|_=>(obtain⟨t,rfl⟩:=a;cases b<;>rfl)
def vk:OpR X (compareOp .IsNot) λx y H Q=>∃b,y=.bl b/\Q (.bl !decide (x=.bl b)) H:=by
 intro d s f H x y v u Q I a e h;obtain⟨b,rfl,q⟩:=h;cases e;refine wpAny_isNot_plain ?_ (aG I q ?_);.cases x<;>(obtain⟨t,rfl⟩:=a;rfl)
 .cases x with|bl c=>cases a;cases b<;>cases c<;>rfl|_=>(obtain⟨t,rfl⟩:=a;cases b<;>rfl)
def z5{F w v b}(r:RW K F w v):decide (v=V.bl b)=WL.isB b w:=by cases w;all_goals first|(subst r;cases b<;>first|rfl|(rename_i c;cases c<;>rfl))|(refine cH r λa f d _=>?_;subst d;cases b<;>rfl)|(obtain⟨a,rfl,_⟩:=r;cases b<;>rfl)|(refine pO r λa C e d _=>?_;subst d;cases b<;>rfl)|(refine acp r λa C e l d _=>?_;subst d;cases b<;>rfl)
def wX:Calm WL.oIs:=λx y c h=>by cases y<;>simp[WL.oIs]at h
def kC:Calm WL.mW:=λx y c h=>by cases y<;>simp[WL.mW]at h
def w_is:OpR X (compareOp .Is) (lo2 K WL.oIs):=by
 refine OpR.imp (adF.or adG) λx y H Q a=>?_;refine xm a λF wx d s c b q=>?_;cases d<;>first|exact q.elim|skip
 .exact .inl ⟨b,eq1 q (by simp[RW,qO c])⟩
 .exact .inr ⟨_,b,eq1 q (by simp[RW,z5 c])⟩
def ua:OpR X (compareOp .IsNot) (lo2 K WL.mW):=by
 refine OpR.imp (abf.or vk) λx y H Q a=>?_;refine xm a λF wx d s c b q=>?_;cases d<;>first|exact q.elim|skip
 .exact .inl ⟨b,eq1 q (by simp[RW,qO c])⟩
 .exact .inr ⟨_,b,eq1 q (by simp[RW,z5 c])⟩
def aeQ{F ws vs i w}(r:RWs K F ws vs)(h:WL.atI ws i=some w):∃v,L2.atI vs i=some v/\RW K F w v:=by unfold WL.atI at h;cases e:WL.ixN _ i with|none=>rw[e]at h;cases h|some j=>rw[e]at h;obtain⟨v,a,b⟩:=r.get h;refine⟨v,?_,b⟩;unfold L2.atI;rw[<-r.length,show L2.ixN _ i=some j from e];exact a
def wW:Calm WL.oIx:=λx y c h=>by
 unfold WL.oIx at h;split at h<;>first|(cases h)|skip
 all_goals revert h;first|(cases WL.atI _ _<;>simp[WL.ofO];done)|(cases WL.lK _ _ _<;>simp[WL.ofO])
theorem wu{F}(k)(w:VW):∀{a:List (Key×V)}{ks vs},RWs K F ks (a.map λp=>kV p.1)->RWs K F vs (a.map λp=>p.2)->WL.lK k ks vs=some w->∃v,kM a (Sum.inr k)=some v/\RW K F w v
|[],ks,vs,r1,r2,e=>by cases ks with|nil=>simp[WL.lK]at e|cons x ks=>simp[RWs]at r1
|p::a,ks,vs,r1,r2,e=>by cases ks with|nil=>simp[WL.lK]at e|cons x ks=>
 cases vs with|nil=>cases x<;>cases e|cons y vs=>obtain⟨t,q,m,b,o⟩:=r1;obtain⟨s,r,f,l,d⟩:=r2;cases m;cases f;cases x with|str x=>
     simp only[RW]at b;have c:p.1=Sum.inr x:=by cases c:p.1 with|inl i=>rw[c]at b;cases i<;>exact absurd b (by simp[kV])|inr z=>rw[c]at b;simp only[kV]at b;cases b;rfl
     simp only[WL.lK]at e;by_cases h:x=k;.subst h;simp at e;subst e;exact⟨p.2,cq c,l⟩
     .have g:(x==k)=false:=by simpa using h
      rw[g]at e;obtain⟨v,j,n⟩:=wu k w o d (by simpa using e);exact⟨v,by rw[cu λz=>h (by rw[c]at z;exact Sum.inr.inj z)];exact j,n⟩|_=>simp[WL.lK]at e
def ag2(m:X.K=K):IxR X (lo2 K WL.oIx):=by
 subst m;refine IxR.imp ((abD.or aei).or vM) λx y H Q h=>?_;obtain⟨F,wx,u,s,j,g,q⟩:=h;unfold WL.oIx at q;split at q;rotate_left 2;.rename_i p b k;obtain⟨a,n,rfl,c,r,t⟩:=j;cases e:WL.lK k p b with|none=>rw[e]at q;exact q.elim|some w=>rw[e]at q;obtain⟨v,d,f⟩:=wu k w r t e;exact .inr ⟨a,_,Sum.inr k,v,rfl,g,s.rd c,d,eq1 q f⟩
 .exact q.elim
 all_goals rename_i l i;obtain⟨a,b,rfl,c,o⟩:=j;cases e:WL.atI l i with|none=>rw[e]at q;exact q.elim|some w=>rw[e]at q;obtain⟨v,d,f⟩:=aeQ o e;first|exact .inl (.inl ⟨a,b,i,v,rfl,g,s.seq c,d,eq1 q f⟩)|exact .inl (.inr ⟨a,b,i,v,rfl,g,s.tup c,d,eq1 q f⟩)
def afx(j:X.K=K):SlR X (ahk K):=by
 subst j;have i:WL.sIx=HT.sIx:=rfl;refine SlR.imp (aaS.or ac4) λx lo g H Q c=>?_;refine jP c λF wx s h q=>?_;cases wx<;>simp [WL.oSl]at q<;>first|exact q.elim|skip
 .obtain⟨a,d,rfl,e,b⟩:=h;split at q;.exact q.elim
  .rename_i hw;rw[i,b.length]at hw;exact .inr (aal a d rfl (s.tup e) hw λp f=>afi s q (b.cut lo g) f)
 .obtain⟨a,d,rfl,e,b⟩:=h;exact .inl (fg a d rfl (s.seq e) λp f=>aeB s q (b.cut lo g) f)
def bM{F w xs}(r:RWs K F [w] xs):∃v,xs=[v]/\RW K F w v:=by obtain⟨v,t,rfl,h,rfl⟩:=r;exact⟨v,rfl,h⟩
def two_of{F w b xs}(r:RWs K F [w,b] xs):∃v a,xs=[v,a]/\RW K F w v/\RW K F b a:=by obtain⟨v,t,rfl,h,a,d,rfl,c,rfl⟩:=r;exact⟨v,a,rfl,h,c⟩
def eO(f:X.K=K):bx X (.builtin "len") (loN K WL.jN):=by
 subst f;refine bx.imp nO λg H Q b=>?_;refine jP b λF ws s r q=>?_;unfold WL.jN at q;split at q;.obtain⟨v,rfl,h⟩:=bM r;obtain⟨a,d,rfl,e,c⟩:=h;exact⟨a,d,rfl,.inl (s.seq e),eq1 q (by simp[RW,c.length])⟩
 .obtain⟨v,rfl,h⟩:=bM r;obtain⟨a,d,rfl,e,c⟩:=h;exact⟨a,d,rfl,.inr (s.tup e),eq1 q (by simp[RW,c.length])⟩
 .exact q.elim
def oo(g:X.K=K):bx X (.type "tuple") (loN K WL.jy):=by
 subst g;refine bx.imp lP λk H Q c=>?_;refine jP c λF ws s r q=>?_;unfold WL.jy at q;split at q;.obtain⟨v,rfl,h⟩:=bM r;refine jP h λa d b e f=>?_;subst b;exact⟨a,d,rfl,.inl ⟨s.seq e,λl j=>afi s q f j⟩⟩
 .refine dh (bM r) λv b h=>?_;subst b;have i:=h;refine jP h λa d b e f=>?_;subst b;exact⟨a,d,rfl,.inr ⟨s.tup e,eq1 q i⟩⟩
 .exact q.elim
def ub:bx X (.type "int") (loN K WL.zz):=bx.imp wY λb H Q a=>by obtain⟨F,ws,s,r,q⟩:=a;cases e:WL.zz ws with|bad|ex c=>rw[e]at q;exact q.elim|ok w=>
 rw[e]at q;unfold WL.zz at e;split at e;.cases e;obtain⟨v,rfl,h⟩:=bM r;simp only[RW]at h;subst h;exact .inr ⟨_,rfl,eq1 q (by simp[RW])⟩
 .cases e;obtain⟨v,rfl,h⟩:=bM r;simp only[RW]at h;subst h;exact .inl ⟨_,rfl,eq1 q (by simp[RW])⟩
 .cases e
noncomputable def ahE:VW->Value|.non=>.type "NoneType"|.bl _=>.type "bool"|.int _=>.type "int"|.str _=>.type "str"|.ty _=>.type "type"|.tup _=>.type "tuple"|.lst _=>.type "list"|.dic _ _=>.type "dict"|.cls _=>.type "type"|.exc _ _=>.none|.ins _ _=>.none|.id _=>.none
def ad8{w:VW}{t b}(h:WL.isK w t=some b):W.kitOne K (ahE w) (.type t)=some b:=by
 have a:=by
  cases w<;>first|(cases h;done)|(change(if _ then _ else _)=_ at h)
  all_goals
  split at h;.rename_i c;simpa using c
  .cases h
 cases w<;>rcases a with rfl|rfl|rfl|rfl|rfl<;>first|(cases h;done)|(rw[<-h];rfl)
def adW{F H a vs}(s:av F H)(h:SqL K F a vs):TyOf K H (.ref a) (.type "list")\/∃o b n,K.lookup a=some o/\o.cls=.type "list"/\o.dict=none/\o.data=.seq b n:=by
 rcases h with(h|⟨o,h⟩)|⟨o,b,n,c,f,d,e,_⟩;.exact .inl (.lst (s _ _ h))
 .exact .inl (.frz (s _ _ h))
 .exact .inr (n9 o _ n c f d e)
def nP:bx X (.builtin "isinstance") λd H Q=>∃a o T b,d=[.ref a,.ty T]/\X.K.lookup a=some o/\o.cls=.type "list"/\W.kitOne X.K (.type "list") (.type T)=some b/\Q (.bl b) H:=by intro c s l H d k Q I r h;obtain⟨a,o,T,b,rfl,g,j,e,q⟩:=h;obtain⟨u,m,rfl,i,f⟩:=vals2 r;cases f;cases i;exact ajc W.kitx_list I.kIn ⟨o,I.kIn a o g,j⟩ e (λz=>nomatch z) λtk=>⟨.bl b,H,I.tok _,rfl,q⟩
def eh(m:X.K=K):bx X (.builtin "isinstance") (loN K WL.cy):=by subst m;refine bx.imp (pH.or nP) λA H Q g=>?_;obtain⟨F,ws,s,r,q⟩:=g;cases e:WL.cy ws with|bad|ex c=>rw[e]at q;exact q.elim|ok w=>
  rw[e]at q;unfold WL.cy at e;split at e
  .rename_i x t;split at e;.rename_i b j;cases e;obtain⟨v,B,rfl,h,u⟩:=two_of r;subst u;have d:=ad8 (K:=X.K) j;have fin:Q (.bl b) H:=eq1 q (by simp[RW]);cases x with|non=>simp only[RW]at h;subst h;exact .inl ⟨_,t,_,b,rfl,.inl .non,d,fin⟩|bl k=>simp only[RW]at h;subst h;exact .inl ⟨_,t,_,b,rfl,.inl (.bl k),d,fin⟩|int k=>simp only[RW]at h;subst h;exact .inl ⟨_,t,_,b,rfl,.inl (.int k),d,fin⟩|str k=>simp only[RW]at h;subst h;exact .inl ⟨_,t,_,b,rfl,.inl (.str k),d,fin⟩|ty k|dic _ _|cls _|exc _ _|ins _ _|id _=>cases j|tup ys=>obtain⟨a,i,rfl,f,p⟩:=h;exact .inl ⟨_,t,_,b,rfl,.inr ⟨a,i,rfl,rfl,s.tup f⟩,d,fin⟩|lst ys=>
     obtain⟨a,i,rfl,f,p⟩:=h;rcases adW s f with ty|⟨o,l,n,y,z,D,C⟩;.exact .inl ⟨_,t,_,b,rfl,.inl ty,d,fin⟩
     .exact .inr ⟨a,o,t,b,rfl,y,z,d,fin⟩
   .cases e
  .cases e
theorem pW:∀a,cA a=a.map toD|[]=>rfl|x::a=>by simp [cA,pW _]
def ba:∀a c,WL.jN a≠.ex c:=λa c h=>by unfold WL.jN at h;split at h<;>cases h
def gA:∀a c,WL.jy a≠.ex c:=λa c h=>by unfold WL.jy at h;split at h<;>cases h
def jw:∀a c,WL.zz a≠.ex c:=λa c h=>by unfold WL.zz at h;split at h<;>cases h
def bO:∀a c,WL.cy a≠.ex c:=λa c h=>by
 unfold WL.cy at h;split at h;.split at h<;>cases h
 .cases h
end
structure Walk(K:W.Frag)(J:It)(xs:List VW)(F:Hp):Prop where
 go:∀(i:Nat)(x:VW),xs[i]?=some x->∀F1 H1:Hp,av F F1->av F1 H1->J.go i H1/\∀v H2,J.yld i H1 v H2->∃F2,Ext F1 H1 F2 H2/\RW K F2 x v
 stop:∀F1 H1:Hp,av F F1->av F1 H1->J.stop xs.length H1
def loI(B:Bx)(it:LF):TI:=λa H R=>∃b F,RS B b a F H/\Rq B b F (it b) λe=>∀J c d,RS B b a d c->Gr F H d c->Walk B.K J e d->R J c
def tY{K a xs vs F}(h:SqL K F a vs)(r:RWs K F xs vs):Walk K (Itl K a) xs F:=by refine⟨λi x e f j b c=>?_,λf j b c=>⟨vs,c.seq (b.seq h),by rw[r.length];exact aim _⟩⟩;refine dh (r.get e) λv g l=>?_;refine⟨⟨vs,v,c.seq (b.seq h),g⟩,λu m d=>?_⟩;obtain⟨k,y⟩:=d;subst k;have:=y _ (c.seq (b.seq h));rw[g]at this;cases this;exact⟨f,Ext.refl _ _,l.keep b⟩
def xR{K a xs vs F}(h:SqT K F a vs)(r:RWs K F xs vs):Walk K (Itt K a) xs F:=by refine⟨λi x e f j b c=>?_,λf j b c=>⟨vs,c.tup (b.tup h),by rw[r.length];exact aim _⟩⟩;refine dh (r.get e) λv g l=>?_;refine⟨⟨vs,v,c.tup (b.tup h),g⟩,λu m d=>?_⟩;obtain⟨k,y⟩:=d;subst k;have:=y _ (c.tup (b.tup h));rw[g]at this;cases this;exact⟨f,Ext.refl _ _,l.keep b⟩
def uR(lo)(n):(WL.rng lo n).length=n:=by simp[WL.rng]
def pS{K lo n F}:Walk K (Itr lo n) (WL.rng lo n) F:=by
 refine⟨λi x e b f h d=>?_,λb f h d=>by rw[uR];exact aim n⟩;have c:=by have:=(ail.mp e).1;rwa[uR]at this
 refine⟨c,λv j a=>?_⟩;obtain⟨g,y⟩:=a;subst g y;refine⟨b,Ext.refl _ _,?_⟩;simp only[WL.rng,aiK,List.getElem?_range c]at e;have e:=aiB e;subst e;simp[RW]
theorem lF:∀(xs:List VW)(k i:Nat),(WL.lG k xs)[i]?=xs[i]?.map λx=>.tup [.int (k+i:Nat),x]|[],_,_=>rfl|x::xs,k,0=>rfl|x::xs,k,i+1=>by simp only[WL.lG,List.getElem?_cons_succ];rw[lF _ _ i];congr 1;funext y;congr 4;omega
theorem lE:∀(xs:List VW)k,(WL.lG k xs).length=xs.length|[],_=>rfl|x::xs,k=>by simp [WL.lG,lE _ _]
def tZ{K a xs vs F}(h:SqT K F a vs)(r:RWs K F xs vs):Walk K (Ite K a) (WL.lG 0 xs) F:=by refine⟨λi x e n m c b=>?_,λn m c b=>⟨vs,b.tup (c.tup h),by rw[lE,r.length];exact aim _⟩⟩;rw[lF]at e;cases d:xs[i]? with|none=>rw[d]at e;cases e|some y=>rw[d]at e;obtain⟨v,l,q⟩:=r.get d;have e:=aiB e;subst e;refine⟨⟨vs,v,b.tup (c.tup h),l⟩,λu t f=>?_⟩;refine gD f λp o k s=>?_;subst o;obtain⟨z,j,rfl⟩:=s vs (b.tup (c.tup h));rw[l]at j;cases j;have g:=b.free k;refine⟨_,Ext.new g k _,p,_,rfl,SqT.of ah,?_⟩;simp only[RWs,RW];refine⟨_,_,rfl,?_,_,_,rfl,(q.keep c).keep (au g _),rfl⟩;simp
def rn{K a xs vs F}(h:SqL K F a vs)(r:RWs K F xs vs):Walk K (afr K a) (WL.lG 0 xs) F:=by refine⟨λi x e n m c b=>?_,λn m c b=>⟨vs,b.seq (c.seq h),by rw[lE,r.length];exact aim _⟩⟩;rw[lF]at e;cases d:xs[i]? with|none=>rw[d]at e;cases e|some y=>rw[d]at e;obtain⟨v,l,q⟩:=r.get d;have e:=aiB e;subst e;refine⟨⟨vs,v,b.seq (c.seq h),l⟩,λu t f=>?_⟩;refine gD f λp o k s=>?_;subst o;obtain⟨z,j,rfl⟩:=s _ (b.seq (c.seq h));rw[l]at j;cases j;have g:=b.free k;refine⟨_,Ext.new g k _,p,_,rfl,SqT.of ah,?_⟩;simp only[RWs,RW];refine⟨_,_,rfl,?_,_,_,rfl,(q.keep c).keep (au g _),rfl⟩;simp
section
variable{X:Cx}{B:Bx}{e tg iter:Expr}{pos:Pos}{ta tb:EF}{it:LF}{g:GF}{b:SF}
def tSq(K:W.Frag)(h:TE):TI:=λf H R=>h f H λx c=>∃a,x=.ref a/\((∃d,SqL K c a d)/\R (Itl K a) c\/(∃d,SqT K c a d)/\R (Itt K a) c)
def aa7{pins}{k:L2.St}{c R d x v}(f:Inv X pins k c d)(s:RelV x v)(q:∃a,x=.ref a/\((∃h,SqL X.K c a h)/\R (Itl X.K a) c\/(∃h,SqT X.K c a h)/\R (Itt X.K a) c)):wpAny (model X.prog X.w) X.A (pyIter v) (PIE X pins k tg R) X.xe d:=by
 obtain⟨a,e,m⟩:=q;subst e;cases s;have l:∀b∈[d.heap.objs.size],rg X pins c b:=λb t=>by
  have e:b=d.heap.objs.size:=by grind
  subst e;exact f.ack (aim _) (f.hok.fresh (aim _))
 rcases m with⟨⟨h,j⟩,q⟩|⟨⟨h,j⟩,q⟩;.obtain⟨i,n,p,r⟩:=f.list j;exact wpAny_pyIter_list p.isList (acr d.heap.objs.size [d.heap.objs.size] _ _ c rfl (f.kept λb o e=>aih _ e) (ug a _) ⟨_,ais _ rfl,rfl,rfl⟩ l q)
 .obtain⟨i,n,p,r⟩:=f.tuple j;exact wpAny_pyIter_tuple p (acr d.heap.objs.size [d.heap.objs.size] _ _ c rfl (f.kept λb o e=>aih _ e) (ry a _) ⟨_,ais _ rfl,rfl,rfl⟩ l q)
def ads{l d}(f:PE X l d):PI X tg l (tSq X.K d):=λc s i H R I h=>thn (f _ s i H _ I h) λv n a=>by refine jP a λx m k j q=>?_;exact aa7 k j q
def abu{K}(f:K=B.K):∀c H R,loI B (WL.tD ta) c H R->tSq K (lo B ta) c H R:=λc H R i=>by refine cH i λr F s q=>?_;have q:=Rq.bind q;refine cG r F s (Rq.mono (av.refl _) q λx k v p m h n o=>?_);cases x with|lst xs=>obtain⟨a,l,rfl,d,j⟩:=o;refine⟨a,rfl,.inl ⟨⟨l,by rw[f];exact h.rb.sub.seq d⟩,?_⟩⟩;rw[f];exact k _ _ m h n (tY d j)|tup xs=>obtain⟨a,l,rfl,d,j⟩:=o;refine⟨a,rfl,.inr ⟨⟨l,by rw[f];exact h.rb.sub.tup d⟩,?_⟩⟩;rw[f];exact k _ p m h n (xR d j)|_=>exact(k).elim
def fk(a:X.K=B.K)(h:PE X e (lo B ta)):PI X tg e (loI B (WL.tD ta)):=PI.imp (ads h) (abu a)
def kJ{a p pos}(u:Gl X "range")(w:X.mg "range"=none)(h:PE X a (lo B ta))(z:starEach [a] X.env=[(false,eval a X.env)]:=by rfl)(k:starEach [a] X.env=(false,eval a X.env)::starEach [] X.env:=by rfl):PI X tg (.Call (.Name "range" p) [a] [] pos) (loI B (WL.ja ta)):=PI.imp (u7 u w (aa h ai k) z) λn H R i=>by
 refine cH i λd F C q=>?_;have q:=Rq.bind q;have y:Rq B d F (WL.ag ta WL.az d) λws=>∀m l r,RS B d n r l->Gr F H r l->RWs B.K r ws m->∃j:Int,m=[.int j]/\-2^62<=j/\j<2^62/\R (Itr 0 j.toNat) l:=by show Rq B d F ((ta d).bind λx=>.ok [x]) _;cases e:ta d with
 |ok x=>
   rw[e]at q;intro m s t G A D;refine dh (bM D) λv o E=>?_;subst o
   cases x with|int j=>
    subst E;have q:Rq B d F (if -2^62<=j/\j<2^62 then .ok (WL.rng 0 j.toNat)else .bad) _:=q;by_cases f:-2^62<=j/\j<2^62;.rw[aij f]at q;exact⟨j,rfl,f.1,f.2,q _ s t G A pS⟩
    .rw[aik f]at q;exact q.elim|_=>exact(q).elim
 |ex c=>rw[e]at q;exact q|bad=>rw[e]at q;exact q
 exact cG d F C y
def aay{a c p pos}(C:Gl X "range")(D:X.mg "range"=none)(h:PE X a (lo B ta))(h':PE X c (lo B tb))(E:starEach [a,c] X.env=[(false,eval a X.env),(false,eval c X.env)]:=by rfl)(r:starEach [c] X.env=[(false,eval c X.env)]:=by rfl)(k:starEach [a,c] X.env=(false,eval a X.env)::starEach [c] X.env:=by rfl)(f:starEach [c] X.env=(false,eval c X.env)::starEach [] X.env:=by rfl):PI X tg (.Call (.Name "range" p) [a,c] [] pos) (loI B (WL.y7 ta tb)):=PI.imp (u6 C D (aa h (aa h' ai f) k) E r) λo H R t=>by
 refine cH t λd F G q=>?_;have q:=Rq.bind q;have M:Rq B d F (WL.ag ta (WL.ag tb WL.az) d) λws=>∀n m s,RS B d o s m->Gr F H s m->RWs B.K s ws n->∃i j:Int,n=[.int i,.int j]/\(-2^62<=i/\i<2^62/\-2^62<=j/\j<2^62)/\R (Itr i (j-i).toNat) m:=by show Rq B d F ((ta d).bind λx=>((tb d).bind _).bind λK=>.ok (x::K)) _;cases e:ta d with
 |ok x=>rw[e]at q;have q:=Rq.bind q;cases l:tb d with
  |ok y=>rw[l]at q;intro n z A P N O;refine jP (two_of O) λv Q w J I=>?_;subst w;cases x with
   |int i=>cases y with|int j=>
      subst J I;have q:Rq B d F (if -2^62<=i/\i<2^62/\-2^62<=j/\j<2^62 then .ok (WL.rng i (j-i).toNat)else .bad) _:=q;by_cases u:-2^62<=i/\i<2^62/\-2^62<=j/\j<2^62;.rw[aij u]at q;exact⟨i,j,rfl,u,q _ z A P N pS⟩
      .rw[aik u]at q;exact q.elim|_=>exact(q).elim
   |_=>exact(q).elim
  |ex c=>rw[l]at q;exact q|bad=>rw[l]at q;exact q
 |ex c=>rw[e]at q;exact q|bad=>rw[e]at q;exact q
 exact cG d F G M
def tR{l es k u p pos}(d:X.K=B.K)(w:Gl X "enumerate")(y:X.mg "enumerate"=none)(h:PE X l (lo B ta))(A:starEach [l] X.env=[(false,eval l X.env)]:=by rfl):PI X (.Tuple es k u) (.Call (.Name "enumerate" p) [l] [] pos) (loI B (WL.y9 ta)):=PI.imp (oJ w y h A) λC H R i=>by refine cH i λz F D q=>?_;have q:=Rq.bind q;refine cG z F D (Rq.mono (av.refl _) q λx m v o r f s t=>?_);cases x with|tup xs=>obtain⟨a,n,rfl,c,j⟩:=t;refine⟨a,rfl,.inl ⟨⟨n,by rw[d];exact f.rb.sub.tup c⟩,?_⟩⟩;rw[d];exact m _ o r f s (tZ c j)|lst xs=>obtain⟨a,n,rfl,c,j⟩:=t;refine⟨a,rfl,.inr ⟨⟨n,by rw[d];exact f.rb.sub.seq c⟩,?_⟩⟩;rw[d];exact m _ o r f s (rn c j)|_=>exact(m).elim
variable{m:Bool}{es:List Expr}{gs:GsF}
def aaz{i}(h:PG X e (L2.aX i)):PG X e (loG m B (WL.aX i)):=PG.imp h λv c H Q a=>by obtain⟨d,F,w,R,r,q⟩:=a;exact q _ H F (R.set r) Gm.refl
def tS:PGs X [] (afd m B WL.abK):=PGs.imp aa8 λd c H Q a=>by refine tj a λf F ws R r q=>?_;cases ws with|nil=>exact⟨r,q _ H F R Gm.refl⟩|cons w ws=>exact(q).elim
def hI(u:PG X e (loG m B g))(y:PGs X es (afd m B gs))(o:(assignEach (e::es) X.env).map (·.2)=assign e X.env::(assignEach es X.env).map (·.2):=by rfl):PGs X (e::es) (afd m B (WL.jd g gs)):=PGs.imp (yt u y o) λC s H Q d=>by refine tj d λa F ws R r q=>?_;cases ws with|nil=>exact(q).elim|cons w ws=>obtain⟨v,t,rfl,r,rt⟩:=r;refine⟨v,t,rfl,a,F,w,R,r,?_⟩;have q:Rq B a F (match g w a with|.ok σ'=>(match gs _ σ' with|.ok σ2=>.ok σ2|_=>.bad)|_=>.bad) _:=q;cases h:g w a with|bad=>rw[h]at q;exact q|ex c=>rw[h]at q;exact q.elim|ok σ1=>rw[h]at q;intro i A n z k;have q:Rq B a F (match gs ws σ1 with|.ok σ2=>.ok _|_=>.bad) _:=q;refine ab9 σ1 n ws z (rt.keep k.f) ?_;cases f:gs ws σ1 with|bad=>rw[f]at q;exact q|ok σ2=>rw[f]at q;exact λj p x R2 l=>q _ p x R2 (k.trans l)|ex c=>rw[f]at q;exact q.elim
def zG{k n}(t:X.K=B.K)(A:X.calm=true)(h:PGs X es (afd m B gs))(C:(assignEach es X.env).length=n)(z:∀ws d f,gs ws d=.ok f->ws.length=n)(s:∀ws d c,gs ws d≠.ex c)(i:(assignEach es X.env).findIdx? (·.1)=none:=by rfl):PG X (.Tuple es k pos) (loG m B (WL.aet gs)):=PG.imp (adt A h C i) λv x H Q j=>by refine tj j λd F w R r q=>?_;cases w with
|tup ws=>refine jP r λa u o y p=>?_;subst o;have q:Rq B d F (gs _ d) _:=q;refine⟨a,u,rfl,by rw[t];exact R.rb.sub.tup y,?_,d,F,ws,R,p,q⟩;cases l:gs _ d with|ok f=>rw[<-p.length];exact z _ _ _ l|ex c=>exact(s _ _ _ l).elim|bad=>rw[l]at q;exact q.elim
|_=>exact(q).elim
def z6:∀ws c a,WL.abK ws c=.ok a->ws.length=0:=λws c a h=>by cases ws<;>simp[WL.abK]at h;rfl
def lz{n}(h:∀ws d a,gs ws d=.ok a->ws.length=n):∀ws d a,WL.jd g gs ws d=.ok a->ws.length=n+1:=λws d a q=>by cases ws with|nil=>simp[WL.jd]at q|cons w ws=>have q:(match g w d with|.ok _=>(match gs _ _ with|.ok _=>Res.ok _|_=>.bad)|_=>.bad)=.ok _:=q;cases f:g w d with
 |ok σ1=>rw[f]at q;have q:(match gs ws _ with|.ok σ2=>Res.ok _|_=>.bad)=.ok _:=q;cases i:gs ws σ1 with|ok σ2=>simp[h _ _ _ i]|ex c|bad=>rw[i]at q;cases q
 |ex c=>rw[f]at q;cases q|bad=>rw[f]at q;cases q
def vW:∀ws a c,WL.jd g gs ws a≠.ex c:=λws a c q=>by cases ws with|nil=>simp[WL.jd]at q|cons w ws=>have q:(match g w a with|.ok _=>(match gs _ _ with|.ok _=>Res.ok _|_=>.bad)|_=>.bad)=.ex c:=q;cases d:g w a with|ok σ1=>rw[d]at q;have q:(match gs _ _ with|.ok σ2=>Res.ok _|_=>.bad)=.ex c:=q;cases f:gs _ _<;>rw[f]at q<;>cases q|ex c=>rw[d]at q;cases q|bad=>rw[d]at q;cases q
abbrev Bx.calm(B:Bx):Bx:=⟨B.K,B.H0,B.F0,λ_ _ _=>False,λ_ _ _ _ _ h=>h⟩
def RS.acQ{c a F H}(R:RS B c a F H):RS B.calm c a F H:=⟨⟨R.rb.sub,R.rb.base,R.rb.fz0,R.rb.fr⟩,R.len,R.va,R.ow,R.ap,R.dd⟩
def RB.adN{F H}(R:RB B.calm F H):RB B F H:=⟨R.sub,R.base,R.fz0,R.fr⟩
def RS.ahead{r:Ws}{f:L2.St}{F H:Hp}(R:RS B r f F H)(k:Nat):RS B (List.replicate k .no++r) (List.replicate k none++f) F H:=by
 have c:∀{i:Nat}{p:Sl},(List.replicate k Sl.no++r)[i]?=some p->p≠.no->k<=i/\r[i-k]?=some p:=λ{i p}e M=>by
  by_cases d:i<k;.rw[aiD (by simpa using d)]at e;rw[ajg,aij d]at e;exact absurd (aiB e).symm M
  .rw[aiE (by simp;omega)]at e;simp only[ajd]at e;exact⟨by omega,e⟩
 have q:∀{i:Nat}{x:Option V},k<=i->f[i-k]?=some x->(List.replicate k none++f)[i]?=some x:=λ{i x}d e=>by rw[aiE (by simp;omega)];simpa using e
 have s:∀{i:Nat}{x:Option V},k<=i->(List.replicate k none++f)[i]?=some x->f[i-k]?=some x:=λ{i x}d e=>by rw[aiE (by simp;omega)]at e;simpa using e
 refine⟨R.rb,by simp[R.len],λi w e=>?_,λi ws e=>?_,λi j ws y a t h l D G=>?_,λi A u e=>?_,λi j A u K E a t h l D G=>?_,λi e=>?_⟩;rotate_left 3;.obtain⟨d,e⟩:=c e (by intro z;cases z);obtain⟨a,J,n,o⟩:=R.dd.od _ A u e;exact⟨a,J,q d n,o⟩
 .obtain⟨d,h⟩:=c h (by intro z;cases z);obtain⟨I,l⟩:=c l (by intro z;cases z);exact R.dd.ad _ _ A u K E a (by omega) h l (s d D) (s I G)
 .obtain⟨d,e⟩:=c e (by intro z;cases z);obtain⟨a,C,O,n,o⟩:=R.dd.ob _ e;exact⟨a,C,O,q d n,o⟩
 .obtain⟨d,e⟩:=c e (by intro z;cases z);obtain⟨v,n,o⟩:=R.va _ w e;exact⟨v,q d n,o⟩
 .obtain⟨d,e⟩:=c e (by intro z;cases z);obtain⟨a,N,n,o⟩:=R.ow _ ws e;exact⟨a,N,q d n,o⟩
 .obtain⟨d,h⟩:=c h (by intro z;cases z);obtain⟨I,l⟩:=c l (by intro z;cases z);exact R.ap _ _ ws y a (by omega) h l (s d D) (s I G)
def RS.forget{l c d F H}(R:RS B l d F H)(v:c.length=l.length)(h:∀(i:Nat)f,c[i]?=some f->f≠.no->l[i]?=some f):RS B c d F H:=⟨R.rb,by rw[v];exact R.len,λi w e=>R.va i w (h i _ e (by simp)),λi ws e=>R.ow i ws (h i _ e (by simp)),λi j ws n a k u p=>R.ap i j ws n a k (h i _ u (by simp)) (h j _ p (by simp)),R.dd.via rfl id (λ_ _ z=>.inl z) (λi f r e=>⟨h i _ e (by intro z;subst z;exact r),rfl⟩) (av.refl _) λ_ _ _ a s _ _ o t q=>⟨t,q,o⟩⟩
def Keeps(k:Nat)(g:GF):Prop:=∀w c a,g w c=.ok a->a.length=c.length/\∀j:Nat,k<=j->a[j]?=c[j]?
def bf{k i}(h:i<k):Keeps k (WL.aX i):=λw c a e=>by cases e;exact⟨by simp,λj d=>by grind⟩
end
end WS
set_option autoImplicit true
set_option relaxedAutoImplicit true
namespace WS
open PySem PySem.Spec PyProof.Rows L2
open WL(Res Sl Ws EF TF AF LF GF GsF SF Out OX RF Rn AXF)
section
variable{X:Cx}{B:Bx}{e tg iter:Expr}{pos:Pos}{ta tb:EF}{tt:TF}{it:LF}{g:GF}{b:SF}{k:Nat}
def zw   (hg:Keeps k g)(R1:RS B σ σV F1 H1)(wk:Walk B.K J xs F1)(hx:xs.length<=WL.lim)(hc:WL.bB g tt ta (List.replicate k .no++σ) xs=.ok all)(fin:∀o l h,RB B l h->Gr F1 H1 l h->RWs B.K l all o->∀D,h D=none->Q (.ref D) (upd h D (.lst o))):kG (av H1) J (loG true B.calm g) (loT B.calm tt) (lo B.calm ta) (List.replicate k none++σV) H1 Q:=by
 refine⟨λi m o p h=>m=xs.length-i/\i<=xs.length/\o.length<=i/\∃l d rest,RS B.calm (List.replicate k .no++σ) p l h/\Gr F1 H1 l h/\RWs B.K l d o/\WL.bB g tt ta (List.replicate k .no++σ) (xs.drop i)=.ok rest/\d++rest=all,⟨xs.length,rfl,aiN _,aiN _,F1,[],all,(R1.acQ).ahead k,Gr.refl,by simp[RWs],by simpa using hc,rfl⟩,?_⟩;rintro i m o p h⟨rfl,hi,R,l,d,rest,E,w,O,a,f⟩;refine⟨w.h,aj0 (aip R (aip hi hx)) (by decide),?_⟩;by_cases s:i<xs.length;.have hd:=aiQ s;rw[hd]at a;obtain⟨go,yl⟩:=wk.go i xs[i] (aiv s) l h w.f E.rb.sub;refine .inr ⟨go,λr x A=>r.length<=i+1/\∃C d rest,RS B.calm (List.replicate k .no++σ) x C A/\Gr F1 H1 C A/\RWs B.K C d r/\WL.bB g tt ta (List.replicate k .no++σ) (xs.drop (i+1))=.ok rest/\d++rest=all,λr x A⟨a1,a2⟩=>⟨xs.length-(i+1),by omega,rfl,s,a1,a2⟩,λv A hy=>?_⟩;obtain⟨C,Y,r2⟩:=yl v A hy;simp only[WL.bB]at a;cases z:g xs[i] (List.replicate k .no++σ)with|bad=>rw[z]at a;cases a|ex c=>rw[z]at a;cases a|ok σ1=>
   rw[z]at a;obtain⟨kl,kk⟩:=hg _ _ _ z;refine⟨_,C,xs[i],Y.rs _ _ _ E,r2,?_⟩;rw[z];intro q H3 F3 R3 P;have back:∀{t G:Hp},RS B.calm σ1 q t G->RS B.calm (List.replicate k .no++σ) q t G:=λ{t G}H=>H.forget kl.symm λj sl S Z=>by
    by_cases U:j<k;.rw[aiD (by simpa using U),ajg,aij U]at S;exact absurd (aiB S).symm Z
    .rw[kk j (by omega)];exact S
   have n:=Y.gr.trans ⟨P.f,P.h rfl,P.nf⟩;have a:((tt σ1).bind λb=>match b with|true=>(ta σ1).bind λy=>(WL.bB g tt ta (List.replicate k .no++σ) (xs.drop (i+1))).bind λo=>.ok (y::o)|false=>WL.bB g tt ta (List.replicate k .no++σ) (xs.drop (i+1)))=.ok rest:=a;cases I:tt σ1 with|bad=>rw[I]at a;cases a|ex c=>rw[I]at a;cases a|ok b=>rw[I]at a;refine⟨σ1,F3,R3,?_⟩;rw[I];intro G t H M;cases b with|false=>rw[aik aiz];exact⟨by omega,t,d,rest,back H,w.trans (n.trans M),O.keep (n.trans M).f,a,f⟩|true=>rw[aij rfl];have a:=a;cases K:ta σ1 with|bad=>rw[K]at a;cases a|ex c=>rw[K]at a;cases a|ok y=>rw[K]at a;refine⟨σ1,t,H,?_⟩;rw[K];intro u H5 F5 R5 T r5;have a:=a;cases N:WL.bB g tt ta (List.replicate k .no++σ) (xs.drop (i+1))with|bad=>rw[N]at a;cases a|ex c=>rw[N]at a;cases a|ok zs=>rw[N]at a;cases a;exact⟨by rw[aiM,akl];omega,F5,d++[y],zs,back R5,w.trans ((n.trans M).trans T),(O.keep ((n.trans M).trans T).f).app (.one r5),rfl,by rw[<-f];simp⟩
 .have ei:i=xs.length:=by omega
  subst ei;rw[ajs]at a;simp only[WL.bB]at a;cases a;rw[aiS]at f;subst f;exact .inl ⟨wk.stop l h w.f E.rb.sub,λD hD=>fin o l h E.rb.adN w O D hD⟩
def abx(n:Keeps k g):∀d H Q,lo B (WL.g7 k it g tt ta) d H Q->acZ k (loI B it) (loG true B.calm g) (loT B.calm tt) (lo B.calm ta) d H Q:=by
 intro d H Q⟨o,F,R,q⟩;have q:=Rq.bind (Rq.bind q);refine⟨o,F,R,Rq.mono (av.refl _) q λm a J t u l p wk=>?_⟩;by_cases i:m.length<=WL.lim;.rw[aij i]at a;cases e:WL.bB g tt ta _ m with|bad|ex c=>rw[e]at a;exact(a).elim|ok all=>rw[e]at a;refine kG.w (zw n l wk i e λs w v h j r D f=>?_);exact a (.ref D) _ _ ((l.grow j h).new f _) (p.trans (j.trans (Gr.new (h.sub.free f) f _))) (by exact fg D s rfl (SqL.of ah) (r.keep (au (h.sub.free f) _)))
 .rw[aik i]at a;exact(a).elim
variable{scope:Scope}{ts:List Str}{elt:Expr}{ifs:List Expr}
def fo:zC X [] (loT B WL.tq):=λc s f H Q I a=>by obtain⟨d,F,R,q⟩:=a;exact yp _ s f H Q I (q H F R Gr.refl)
def acC (h:PT X c (loT B tt)):zC X [c] (loT B tt):=yo h
def cS(L:CompLook X scope)(f:X.calm=true)(m:ts.length=k)(l:Keeps k g)(j:PI X tg iter (loI B it))(i:∀C c a d,PG (X.comp scope C ts c a d) tg (loG true B.calm g))(o:∀C c a d,zC (X.comp scope C ts c a d) ifs (loT B.calm tt))(h:∀C c a d,PE (X.comp scope C ts c a d) elt (lo B.calm ta))(n:∀x,foldedSetIterable iter X.env x=pure x:=by intro _;rfl):PE X (.ListComp elt [⟨tg,iter,ifs,0⟩] scope pos) (lo B (WL.g7 k it g tt ta)):=by subst m;exact PE.imp (yu L f j i o h n) (abx l)
def aaw (u:X.K=B.K)(D:Gl X x)(E:X.mg x=none)(G:bootBuiltins x=some (.type "list"))(h:PE X e (lo B ta))(K:x≠"__name__":=by decide)(m:Dbg x:=by decide)(z:starEach [e] X.env=(false,eval e X.env)::starEach [] X.env:=by rfl)(i:BT X pos []:=by rfl):PE X (.Call (.Name x p) [e] [] pos) (loL B (WL.ad6 ta)):=PE.imp (iO nM D E G (aa h ai z) K m z i) λI H Q j=>by refine cH j λd F R q=>?_;have q:=Rq.bind q;refine cG d F R ?_;show Rq B d F ((ta d).bind λx=>.ok [x]) _;cases C:ta d with|bad|ex c=>rw[C]at q;exact q|ok w=>rw[C]at q;intro O M N f y J;refine dh (bM J) λv s A=>?_;subst s;cases w with|lst xs=>obtain⟨a,n,rfl,r,o⟩:=A;exact⟨a,n,rfl,.inl (by rw[u];exact f.rb.sub.seq r),λl t=>agt f y o t q⟩|tup xs=>obtain⟨a,n,rfl,r,o⟩:=A;exact⟨a,n,rfl,.inr (by rw[u];exact f.rb.sub.tup r),λl t=>agt f y o t q⟩|_=>exact(q).elim
variable{st:Stmt}{sts rest:List Stmt}{s1 s2:SF}{i:Nat}
def ay:PSs X [] (loS B WL.sNx):=PSs.imp aa4 λD c H a=>by obtain⟨d,F,R,q⟩:=a;exact q _ H F R (av.refl _)
def adZ:∀D a H,loS B (WL.bj s1 s2) D a H->acT (loS B s1) (loS B s2) D a H:=λD a H d=>by refine cH d λf F R q=>?_;refine cG f F R ?_;have q:Oq B D F (match s1 f with|.nx _=>s2 _|o=>o):=q;cases e:s1 f with|nx σ'=>rw[e]at q;exact λh m j l s=>⟨_,j,l,Oq.mono s q⟩|bk σ'|ct σ'|rt w|ex c σ'|bad=>rw[e]at q;exact q
def aj(a:PS X st (loS B s1))(c:PSs X rest (loS B s2)):PSs X (st::rest) (loS B (WL.bj s1 s2)):=PSs.imp (bD a c) adZ
def aq(a:PS X st (loS B s1)):PSs X [st] (loS B s1):=cE a
def aB(j:PE X e (lo B ta)):PS X (.Return (some e) pos) (loS B (WL.cp ta)):=PS.imp (uX j) λD h H a=>by obtain⟨d,F,R,q⟩:=a;have q:=Oq.ofR q;exact⟨d,F,R,Rq.mono (av.refl _) q λw c v l m f g r=>c v _ _ f.rb g.f r⟩
def aL (l:PT X c (loT B tt))(p:PSs X a (loS B s1))(r:PSs X d (loS B s2)):PS X (.If c a d pos) (loS B (WL.sIf tt s1 s2)):=PS.imp (adp l p r) λD m H f=>by refine cH f λh F R q=>?_;have q:=Oq.ofR q;refine cG h F R (Rq.mono (av.refl _) q λx j s o n g=>?_);cases x with|true|false=>exact⟨h,o,n,Oq.mono g.f j⟩
def adY (f:∀a H Q,lo B ta a H Q->tV a H Q):∀D a H,loS B (WL.dm i ta) D a H->ae2 tV (L2.aX i) D a H:=λD a H c=>by obtain⟨h,F,R,q⟩:=c;have q:=Oq.ofR q;exact f _ _ _ ⟨h,F,R,Rq.mono (av.refl _) q λw d v l m j g r=>d _ _ _ (j.set r) g.f⟩
def abv (f:∀c H Q,loL B l c H Q->tV c H Q):∀D c H,loS B (WL.aaX i l) D c H->ae2 tV (L2.aX i) D c H:=λD c H d=>by refine cH d λp F R q=>?_;have q:=Oq.ofR q;exact f _ _ _ (cG p F R (Rq.mono (av.refl _) q λws h a w v x s g t o m r n=>h _ _ _ (s.ahK t o m r λj u _ e=>n j _ e) g.f))
def acv (f:X.N.Nodup)(d:X.N[i]?=some x)(j:Loc X.env.scope x)(c:PE X e (lo B ta))(h:swapsWith e (some (.Name x pos')) pos.line X.env=pure false:=by rfl)(a:FL X x:=by first|exact .inl rfl|exact .inr rfl|assumption):PS X (.Assign [.Name x pos'] e pos) (loS B (WL.dm i ta)):=PS.imp (mI f d j c h a) (adY λ_ _ _ q=>q)
def aar  (f:X.N.Nodup)(d:X.N[i]?=some x)(j:Loc X.env.scope x)(c:PE X e (loL B l))(h:swapsWith e (some (.Name x pos')) pos.line X.env=pure false:=by rfl)(a:FL X x:=by first|exact .inl rfl|exact .inr rfl|assumption):PS X (.Assign [.Name x pos'] e pos) (loS B (WL.aaX i l)):=PS.imp (mI f d j c h a) (abv λ_ _ _ q=>q)
def acx(E:X.K=B.K)(h:PS X st (rG (tBM X.K "list" kU (cQ i) (fU (lo B ta) x6)))):PS X st (loS B (WL.ahb i ta)):=PS.imp h λD o H l=>by refine cH l λc F R q=>?_;have q:Oq B D F (match c[i]? with|some (.ow ws)=>WL.ofR c (ta c) _|_=>.bad):=q;cases f:c[i]? with|none=>rw[f]at q;exact q.elim|some sl=>rw[f]at q;cases sl with|no|va _|od _ _|ob=>exact q.elim|ow ws=>
   refine jB (R.ow i ws f) λa r t z x m s=>?_;have q:=Oq.ofR q;refine⟨.ref a,t,.inl ⟨rfl,r,SqL.of m⟩,c,F,R,Rq.mono (av.refl _) q λw d v C u A j y=>?_⟩;by_cases n:ws.length<WL.lim;.rw[aij n]at d;have p:=j.h a _ m;exact afv a r v rfl rfl p (by rw[<-s.length];exact aiq n cM) (d o _ u (A.write f t (j.nf a _ m z) x p ((s.keep j.f).app (.one y))) j.f)
   .rw[aik n]at d;exact(d).elim
def acw(h:PS X st (loS B s1)):PS X st (loS B (WL.aha i s1)):=PS.imp h λD c H a=>by refine cH a λj F R q=>?_;refine gD (R.frz i) λd s f _=>?_;exact⟨_,d,f,Oq.mono s q⟩
def ad1:∀D o H,loS B (WL.tr it g b) D o H->ag7 (loI B it) (loG false B g) (loS B b) D o H:=λD o H I=>by
 refine cH I λN F R q=>?_;have q:=Oq.ofR q;refine cG N F R (Rq.mono (av.refl _) q λj qx J H1 M R1 g1 wk=>?_);refine⟨λi m d u=>m=j.length-i/\i<=j.length/\∃h l,RS B h d l u/\av M l/\Oq B D l (WL.forL g b (j.drop i) h),⟨j.length,rfl,aiN _,N,M,R1,av.refl _,by rw[aj6];exact Oq.mono g1.f qx⟩,?_⟩;rintro i m d u⟨rfl,S,h,l,C,G,r⟩;by_cases p:i<j.length;.have hd:=aiQ p;rw[hd]at r;obtain⟨go,Z⟩:=wk.go i j[i] (aiv p) l u G C.rb.sub;refine .inr ⟨go,_,λa P h2=>⟨j.length-(i+1),by omega,rfl,p,h2⟩,λv P T=>?_⟩;refine dh (Z v P T) λF2 K Y=>?_;have r:=Oq.ofR r;refine ab9 h F2 j[i] (K.rs _ _ _ C) Y (Rq.mono K.same r λA f O H3 Q R3 U=>?_);refine cG A Q R3 ?_;have z:=K.same.trans U.f;cases y:b A with|nx a|ct a=>rw[y]at f;exact λn E t x s=>⟨a,t,x,(G.trans z).trans s,Oq.mono (z.trans s) f⟩|bk a=>rw[y]at f;exact λn E t x s=>f n E t x (z.trans s)|rt w=>rw[y]at f;exact λv4 E t x s=>f v4 E t x (z.trans s)|ex c a=>rw[y]at f;exact B.mono c a l Q z f|bad=>rw[y]at f;exact f
 .have ei:i=j.length:=by omega
  subst ei;rw[ajs]at r;exact .inl ⟨wk.stop l u G C.rb.sub,r d u l C (av.refl _)⟩
def jR (d:PassesOwn (model X.prog X.w) X.A X.env X.xe)(h:X.calm=true)(a:PI X tg iter (loI B it))(c:PG X tg (loG false B g))(j:PSs X body (loS B b))(f:∀x,foldedSetIterable iter X.env x=pure x:=by intro _;rfl):PS X (.For tg iter body [] pos) (loS B (WL.tr it g b)):=PS.imp (qm d h a c j f) ad1
end
def spW(K:W.Frag)(n:Nat)(f:List VW->Res VW):Sp:=λd H Q _=>∃F ws,av F H/\RWs K F ws d/\ws.length=n/\match f ws with|.ok w=>∀v c b,av F b->av b c->av H c->(∀a o,b a=some o->F a=some o\/H a=none/\NF o)->RW K b w v->Q v c|_=>False
section
variable{P:Program}{w:World}{K:W.Frag}{mg:Str->Option Value}{base:Heap}
theorem RS.start{N F H ws vs}(s:av F H)(r:RWs K F ws vs)(B:ws.length<=N.length):RS ⟨K,H,F,λ_ _ _=>False,λ_ _ _ _ _ h=>h⟩ (ws.map .va++List.replicate (N.length-ws.length) .no) (L2.start N vs) F H:=by
 have y:=r.length;have b:∀{i:Nat}{c:Sl},(ws.map Sl.va++List.replicate (N.length-ws.length) Sl.no)[i]?=some c->c≠.no->∃u,ws[i]?=some u/\c=.va u:=λ{i c}e A=>by grind
 refine⟨⟨s,av.refl _,av.refl _,λa o h=>.inl h⟩,by simp[L2.start,y],λi u e=>?_,λi g e=>?_,λi j g f a d k m _ _=>?_,λi q g e=>?_,λi j q g t f a d k m _ _=>?_,λi e=>?_⟩;rotate_left 3;.refine dh (b e (by intro z;cases z)) λx ex h=>?_;cases h
 .obtain⟨x,ex,h⟩:=b k (by intro z;cases z);cases h
 .obtain⟨x,ex,h⟩:=b e (by intro z;cases z);cases h
 .refine dh (b e (by intro z;cases z)) λx ex h=>?_;cases h;obtain⟨v,l,p⟩:=r.get ex;refine⟨v,?_,p⟩;have n:i<vs.length:=(ail.mp l).1;unfold L2.start;rw[aiD (by simpa using n),aiK,l];rfl
 .obtain⟨x,ex,h⟩:=b e (by intro z;cases z);cases h
 .obtain⟨x,ex,h⟩:=b k (by intro z;cases z);cases h
end
section
variable{X:Cx}{B:Bx}{k:Nat}{f:Addr}{fd:FuncData}{ps:List Str}{fn:List VW->Res VW}{x:Str}{p pos:Pos}{e:Expr}{es:List Expr}{tas:AF}{n:Nat}
def aby(J:X.K=B.K){E}(G:∀d ws,tas d=.ok ws->ws.length=n):∀b H Q,lo B (WL.aS fn tas) b H Q->ac0 (spW X.K n fn) [] E (loA B tas) b H Q:=by intro b H Q⟨d,F,R,q⟩;have q:=Rq.bind q;refine cG d F R ?_;cases m:tas d with|bad|ex c=>rw[m]at q;exact q|ok ws=>rw[m]at q;intro P O s g K N;rw[aiS,J];refine aal s ws g.rb.sub N (G d ws m) ?_;have h:Rq B d F (match fn ws with|.ok w=>.ok w|_=>.bad) _:=q;cases A:fn ws with
|bad|ex c=>rw[A]at h;exact h.elim
|ok w=>rw[A]at h;intro v r i t C y fr I;have u:Gr s _ i r:=⟨t,y,λa o D j=>by cases l:i a with|none=>rfl|some o2=>
  rcases fr a o2 l with z|z;.rw[j]at z;cases z
  .rw[D]at z;cases z.1⟩;have M:RB B i r:=⟨C,g.rb.base.trans y,g.rb.fz0.trans t,λa o l=>by
  rcases fr a o l with z|z;.exact g.rb.fr a o z
  .exact .inr ⟨g.rb.base.free z.1,z.2⟩⟩;exact h v r i (g.grow u M) (K.trans u) I
def aaD(g:X.K=B.K)(F:FnOk X.prog X.w X.K X.mg X.base CX0 k f fd ps (spW X.K n fn))(j:Room k X.A)(d:Gl X x)(h:X.mg x=some (.ref f))(l:W.keepIn X.K (.ref f)=true)(o:Binds X.K fd ps [])(m:PA X (e::es) (loA B tas))(q:∀i ws,tas i=.ok ws->ws.length=n)(b:Dbg x:=by decide)(c:SE X e es:=by rfl)(a:BT X pos es:=by rfl):PE X (.Call (.Name x p) (e::es) [] pos) (lo B (WL.aS fn tas)):=PE.imp (abc F j d h l o .nil af8 m b c a) (aby g q)
def kE:∀a(ws:List VW),WL.az a=.ok ws->ws.length=0:=λa ws e=>by cases e;rfl
def fc (h:∀a(ws:List VW),tas a=.ok ws->ws.length=n):∀a(ws:List VW),WL.ag t tas a=.ok ws->ws.length=n+1:=λa ws q=>by have q:(t a).bind _=.ok _:=q;cases d:t a with|bad|ex c=>rw[d]at q;cases q|ok x=>rw[d]at q;cases b:tas a with|bad|ex c=>rw[b]at q;cases q|ok xs=>rw[b]at q;cases q;simp[h a _ b]
end
def uF(K:W.Frag):Sp:=λd H Q _=>∃(a:Addr)(b:List Int),d=[.ref a]/\SqL K H a (b.map V.int)/\b.length<=63/\∀c,Q (.bl true) c
def ad4{P w K j b k f i ps g}(G:FnOk P w K j b CX0 k f i ps (spW K 1 g))(h:∀d:List Int,d.length<=63->g [.lst (d.map .int)]=.ok (.bl true)):FnOk P w K j b CX0 k f i ps (uF K):=G.imp λo H Q E c=>by refine jO c λa d e l m q=>?_;subst e;refine⟨H,[.lst _],av.refl _,.one (by exact⟨a,_,rfl,l,RWs.ints _⟩),rfl,?_⟩;rw[h _ m];intro v n p _ _ _ _ r;subst r;exact q _
section
variable{X:Cx}{K:W.Frag}
def lO:∀a c,WL.zA a≠.ex c:=λa c h=>by
 unfold WL.zA at h;split at h;.split at h<;>cases h
 .cases h
theorem xj{F}:∀{xs vs b},RWs K F xs vs->WL.allB xs=some b->∃bs:List Bool,vs=bs.map V.bl/\bs.all id=b|[],vs,b,r,e=>by subst r;cases e;exact⟨[],rfl,rfl⟩|x::xs,vs,b,r,e=>by obtain⟨v,t,rfl,q,s⟩:=r;cases x with
 |bl k=>simp only[WL.allB]at e;cases a:WL.allB xs with|none=>rw[a]at e;cases e|some c=>rw[a]at e;cases e;obtain⟨bs,rfl,h⟩:=xj s a;subst q;exact⟨k::bs,rfl,by simp only[akj,id,h]⟩
 |_=>simp[WL.allB]at e
def w_all(l:X.calm=true)(i:X.K=K):bx X (.builtin "all") (loN K WL.zA):=by subst i;refine bx.imp (wZ l) λn H Q d=>?_;refine jP d λF ws s r q=>?_;cases e:WL.zA _ with|bad|ex c=>rw[e]at q;exact q.elim|ok w=>
  rw[e]at q;unfold WL.zA at e;split at e
  .split at e;.rename_i b m;cases e;obtain⟨v,rfl,h⟩:=bM r;refine jP h λa o g k j=>?_;subst g;obtain⟨bs,rfl,f⟩:=xj j m;subst f;exact⟨a,bs,rfl,s.seq k,eq1 q (rfl)⟩
   .cases e
  .cases e
end
section
variable{X:Cx}{B:Bx}{K:W.Frag}{o e:Expr}{es:List Expr}{to ta:EF}{tas:AF}{pos apos cpos:Pos}
theorem nj:∀{ys:List VW}{x:VW}{j k:Nat}{n m:Nat},WL.okD n x=true->WL.fG m ys=true->WL.idx x j ys=some k->∃i,k=j+i/\xk (λz=>PyData.eqv z (toD x)) (cA ys) i|[],_,_,_,_,_,_,_,e=>by simp[WL.idx]at e|y::ys,x,j,k,n,m,hx,a,e=>by cases m with|zero=>cases a|succ m=>
   have a:=aiY.mp a;simp only[WL.idx]at e;have g:=gu m n y x a.1 hx;by_cases h:WL.eqv y x=true;.rw[aij h]at e;cases e;refine⟨0,rfl,⟨toD y,rfl,by show PyData.eqv (toD y) (toD x)=true;rw[g];exact h⟩,λm d f=>absurd f (Nat.not_lt_zero _)⟩
   .rw[aik h]at e;obtain⟨i,rfl,⟨d,p,r⟩,q⟩:=nj hx a.2 e;refine⟨i+1,by omega,⟨d,by simpa[cA]using p,r⟩,λb l f c=>?_⟩;cases b with|zero=>simp[cA]at c;subst c;show PyData.eqv (toD y) (toD x)=false;rw[g];simpa using h|succ b=>exact q b l (by omega) (by simpa[cA]using c)
def xK{x:Expr}(s:X.K=B.K)(hu:X.A.units+64<cLine)(ho:PE X o (lo B to))(Y:PA X [x] (loA B tas))(g:attributeBase o "index" X.env (eval o X.env)=eval o X.env:=by rfl)(l:((backTo cpos (starEach [x] X.env)).all (λx=>!x.1)&&(backToKw cpos (keywordEach [] X.env)).all (λx=>x.1.isSome)&&decide (([x]:List Expr).length+([]:List Keyword).length+(if([]:List Keyword).isEmpty then 0 else 1)<30))=true:=by rfl)(f:(apos.endLine==cpos.line)=true:=by rfl)(M:starEach [x] X.env=(false,eval x X.env)::starEach [] X.env:=by rfl)(d:BT X cpos []:=by rfl):PE X (.Call (.Attribute o "index" apos) [x] [] cpos) (lo B (WL.qU "list" WL.kf to tas)):=PE.imp (oN ajv PySem.F.slot_list_index PySem.F.type_list_index vx ho Y g l f M d) λP H Q r=>by obtain⟨n,F,R,q⟩:=r;have q:=Rq.bind q;refine⟨n,F,R,Rq.mono (av.refl _) q λw p v H1 I G D y=>?_⟩;cases w with
 |lst ys=>have p:=Rq.bind (show Rq B n F ((tas n).bind λws=>WL.kf (.lst ys) ws) _ from p);have t:=y;simp only[RW]at y;obtain⟨a,N,rfl,S,ra⟩:=y;refine⟨.inl ⟨rfl,N,by rw[s];exact G.rb.sub.seq S⟩,n,I,G,Rq.mono D.f p λws m us H2 F2 R2 A U=>?_⟩;cases em:WL.kf (.lst ys) ws with
  |bad=>rw[em]at m;exact m.elim|ex c=>
    unfold WL.kf at em;split at em
    .split at em;.split at em<;>cases em
     .cases em
    .cases em|ok z=>
    rw[em]at m;unfold WL.kf at em;split at em
    .rename_i e1 e2 O C Z;cases Z;split at em
     .rename_i b;rw[aiw,aiw]at b;obtain⟨b,h⟩:=b;split at em
      .rename_i k hk;cases em;obtain⟨u,rfl,ru⟩:=bM U;obtain⟨i,E,T⟩:=nj b.1 b.2 hk;have E:k=i:=by omega
       subst E;have sub:=R2.rb.sub;have J:=RW.isD 51 (.lst ys) (.ref a) b.2 ((t.keep A.f).keep sub);have j:(cA ys).length<=1000000:=by rw[pW,aiR];exact akd h
       refine⟨50,u,toD C,cA ys,k,rfl,by rw[s];exact RW.isD 50 C u b.1 (ru.keep sub),by rw[s];exact J,by omega,T,j,?_⟩;exact m (.int k) H2 F2 R2 (D.trans A) (by simp[RW])
      .cases em
     .cases em
    .cases em
 |_=>exact(show False from p).elim
noncomputable def zB:List (EF×EF)->AF|[]=>WL.az|p::ps=>WL.ag p.1 (WL.ag p.2 (zB ps))
def PD(X:Cx)(B:Bx)(pos:Pos)(keys:List (Option Expr))(b:List Expr)(a:AF):Prop:=∃c:List (EF×EF),PPs X pos keys b (c.map λp=>(lo B p.1,lo B p.2))/\a=zB c
def acL:PD X B pos [] [] WL.az:=⟨[],aa6,rfl⟩
def tW{k v:Expr}{ks:List (Option Expr)}{vs:List Expr}{tk tv:EF}{a:AF}(c:PE X k (lo B tk))(d:PE X v (lo B tv))(f:PD X B pos ks vs a):PD X B pos (some k::ks) (v::vs) (WL.ag tk (WL.ag tv a)):=by obtain⟨b,h,rfl⟩:=f;exact⟨(tk,tv)::b,yn c d h,rfl⟩
theorem qu{b:Ws}{c:L2.St}:∀(ps:List (EF×EF)){F H:Hp}(R:RS B b c F H){k:List VW->Prop}(q:Rq B b F (zB ps b) k){Q:List (V×V)->Hp->Prop}(g:∀ws a f d,k ws->RS B b c f d->Gr F H f d->RWs B.K f ws (a.flatMap λp=>[p.1,p.2])->Q a d),p7 (ps.map λp=>(lo B p.1,lo B p.2)) c H Q|[],F,H,R,k,q,Q,g=>g [] [] F H q R Gr.refl (by simp[RWs])|p::ps,F,H,R,k,q,Q,g=>by have q:=Rq.bind (show Rq B b F ((p.1 b).bind λx=>(WL.ag p.2 (zB ps) b).bind λw=>.ok (x::w)) k from q);refine⟨b,F,R,Rq.mono (av.refl _) q λx m r I t G l E=>?_⟩;have m:=Rq.bind (Rq.bind m);refine⟨b,t,G,Rq.mono l.f m λy j n d f R2 i u=>?_⟩;have j:=Rq.bind j;refine qu ps R2 (Rq.mono (l.f.trans i.f) j λ_ z=>z) λws a s C A D h v=>?_;refine g (x::y::ws) ((r,n)::a) s C A D ((l.trans i).trans h) ?_;show RWs B.K s (x::y::ws) (r::n::a.flatMap λp=>[p.1,p.2]);exact .cons ((E.keep i.f).keep h.f) (.cons (u.keep h.f) v)
theorem mq{F:Hp}:∀{ws ks vs:List VW}{a:List (V×V)},WL.fq ws=some (ks,vs)->RWs K F ws (a.flatMap λp=>[p.1,p.2])->∃b:List (Key×V),a=b.map (λg=>(kV g.1,g.2))/\RWs K F ks (b.map λp=>kV p.1)/\RWs K F vs (b.map λp=>p.2)
|[],ks,vs,a,e,r=>by simp only[WL.fq]at e;cases e;cases a with|nil=>exact⟨[],rfl,by simp[RWs],by simp[RWs]⟩|cons p a=>simp[RWs]at r
|[w],ks,vs,a,e,r=>by cases w<;>simp[WL.fq]at e|w::u::ws,ks,vs,a,e,r=>by cases w with
 |str k=>simp only[WL.fq]at e;cases c:WL.fq ws with|none=>rw[c]at e;cases e|some p=>rw[c]at e;cases e;cases a with|nil=>simp[RWs]at r|cons pv a=>obtain⟨i,f⟩:=pv;have r:RWs K F (.str k::u::ws) (i::f::a.flatMap λp=>[p.1,p.2]):=r;simp only[RWs]at r;obtain⟨t,q,j,d,v,s,m,l,r⟩:=r;cases j;cases m;obtain⟨b,rfl,n,h⟩:=mq c r;simp only[RW]at d;subst d;exact⟨(Sum.inr k,f)::b,rfl,.cons (by simp[RW,kV]) n,.cons l h⟩
 |_=>simp[WL.fq]at e
theorem i0:∀(a b:List (Key×V)),(∀p∈a,kM b p.1=none)->a.Pairwise (λp q=>p.1≠q.1)->fH b a=b++a
|[],b,_,_=>by simp[fH]|p::a,b,h,hp=>by
 rw[List.pairwise_cons]at hp;show fH (putK b p.1 p.2) a=_;rw[yj _ (h p (by simp)),i0 a _ (λq c=>?_) hp.2];.simp
 .rw[l8 _ _ _ _ (h p (by simp)),aik (aiu (hp.1 q c))];exact h q (by simp[c])
theorem q9{F:Hp}:∀{ks:List VW}{c:List (Key×V)},WL.bX ks=true->RWs K F ks (c.map λp=>kV p.1)->c.Pairwise λp q=>p.1≠q.1
|[],c,_,r=>by cases c with|nil=>exact .nil|cons p c=>simp[RWs]at r
|w::ks,c,h,r=>by cases c with|nil=>simp[RWs]at r|cons p c=>simp only[aiC,RWs]at r;obtain⟨v,t,e,q,r⟩:=r;cases e;cases w with
 |str k=>
  simp only[WL.bX,aiw]at h;refine List.pairwise_cons.mpr ⟨λg l=>?_,q9 h.2 r⟩;simp only[RW]at q;intro z;rw[z]at q;have f:∃w∈ks,RW K F w (kV g.1):=by have:kV g.1∈c.map λp=>kV p.1:=List.mem_map.mpr ⟨g,l,rfl⟩;obtain⟨i,n,s⟩:=List.getElem_of_mem this;obtain⟨w,d,m⟩:=RWs.get' r (aiv n);rw[s]at m;exact⟨w,akn d,m⟩
  obtain⟨w,hw,a⟩:=f;rw[q]at a;have d:=h.1;simp only[Bool.not_eq_true',List.any_eq_false]at d;have:=d w hw;cases w with|str y=>simp only[RW]at a;cases a;simp at this|non=>simp[RW]at a|bl b=>simp[RW]at a|int i=>simp[RW]at a|ty i=>simp[RW]at a|tup i=>simp[RW]at a|lst i=>simp[RW]at a|dic i j=>simp[RW]at a|cls i=>simp[RW]at a|exc i j=>simp[RW]at a|ins i j=>simp[RW]at a|id i=>simp[RW]at a
 |_=>simp[WL.bX]at h
def RS.put{l:Ws}{c:L2.St}{F H:Hp}(R:RS B l c F H){p:Addr}{o o':HO}(g:F p=none)(s:B.H0 p=none)(C:H p=some o)(M:∀A,o≠.lst A)(nd:∀(j:Nat)(k h:List VW),l[j]?=some (.od k h)->c[j]?≠some (some (.ref p)))(N:NF o':=by trivial):RS B l c (upd F p o') (upd H p o'):=by
 refine⟨⟨λb u e=>?_,λb u e=>?_,R.rb.fz0.trans (au g _),λa u e=>?_⟩,R.len,λi w e=>?_,λi ws e=>?_,R.ap,R.dd.via rfl id (λ_ _ z=>.inl z) (λ_ _ _ e=>⟨e,rfl⟩) (au g _) λj k h b G E y D J t=>by
 have f:b≠p:=λz=>by subst z;exact nd j k h E y
 exact⟨by rw[ae f];exact J,t,by rw[ae f];exact D⟩⟩
 .by_cases d:b=p;.subst d;rw[ah]at e⊢;exact e
  .rw[ae d]at e⊢;exact R.rb.sub b u e
 .have d:b≠p:=λz=>by subst z;rw[s]at e;cases e
  rw[ae d];exact R.rb.base b u e
 .by_cases d:a=p;.subst d;rw[ah]at e;cases e;exact .inr ⟨s,N⟩
  .rw[ae d]at e;exact R.rb.fr a u e
 .obtain⟨v,n,q⟩:=R.va i w e;exact⟨v,n,q.keep (au g _)⟩
 .obtain⟨a,r,n,q,I,m,x⟩:=R.ow i ws e;have f:a≠p:=λz=>by subst z;rw[C]at m;cases m;exact M r rfl
  exact⟨a,r,n,by rw[ae f];exact q,I,by rw[ae f];exact m,x.keep (au g _)⟩
def acH{keys:List (Option Expr)}{c:List Expr}{a:AF}(h:PD X B pos keys c a)(t:keys.all (·.isSome)=true:=by rfl)(hl:keys.length=c.length:=by rfl)(h0:keys≠[]:=by intro z;cases z)(A:keys.length<=15:=by decide):PE X (.Dict keys c pos) (lo B (WL.afk a)):=by obtain⟨Z,hp,rfl⟩:=h;refine PE.imp (aba hp t hl h0 A) λP H Q y=>?_;obtain⟨E,F,R,q⟩:=y;intro p l;have q:=Rq.bind q;have O:=R.rb.sub.free l;have w:=R.rb.base.free l;refine qu Z (R.adP l (.dK [])) q λws U F2 H2 d R2 s T=>?_;have i:F2 p=none:=s.nf p _ ah O;have m:H2 p=some (.dK []):=s.h p _ ah;cases e:WL.fq ws with|none=>rw[e]at d;exact(show False from d).elim|some kv=>
  obtain⟨g,D⟩:=kv;rw[e]at d;obtain⟨f,rfl,x,J⟩:=mq e T;by_cases n:(WL.bX g&&decide (g.length<=15))=true
  .have d:Rq B E F (if(WL.bX g&&decide (g.length<=15))=true then Res.ok (WL.W.dic g D)else Res.bad) _:=d;rw[aij n]at d;rw[aiw]at n;have M:fH [] f=f:=by rw[i0 f [] (λ_ _=>rfl) (q9 n.1 x)];rfl
   refine⟨m,f,rfl,?_,?_⟩;.have:=x.length;rw[aiR]at this;have:=akd n.2;omega
   .rw[M];have S:H p=none:=l;refine(show∀v H' F',_ from d) (.ref p) _ _ (R2.put i w m (λxs z=>by cases z) λj g N ej Y=>by obtain⟨b,C,I,_,_,G,_⟩:=R.dd.od j g N ej;rw[Y]at I;cases I;rw[l]at G;cases G) ⟨s.f.trans (au i _),λb u k=>?_,λb u k z=>?_⟩ ?_
    .have r:b≠p:=λz=>by subst z;rw[l]at k;cases k
     rw[ae r];exact s.h b u (by rw[ae r];exact k)
    .have r:b≠p:=λz=>by subst z;rw[l]at k;cases k
     rw[ae r];exact s.nf b u (by rw[ae r];exact k) z
    .simp only[RW];exact⟨p,f,rfl,.inl ah,x.keep (au i _),J.keep (au i _)⟩
  .have d:Rq B E F (if(WL.bX g&&decide (g.length<=15))=true then Res.ok (WL.W.dic g D)else Res.bad) _:=d;rw[aik n]at d;exact(show False from d).elim
def z7{F}:∀k u,WL.lK k [] []=some u->∃v,List.lookup k []=some v/\RW K F u v:=λk u h=>by simp[WL.lK]at h
def dJ{F x c b}{ks vs:List VW}{a}(d:RW K F c b)(h:∀k u,WL.lK k ks vs=some u->∃v,a.lookup k=some v/\RW K F u v):∀k u,WL.lK k (.str x::ks) (c::vs)=some u->∃v,List.lookup k ((x,b)::a)=some v/\RW K F u v:=λk u e=>by
 simp only[WL.lK]at e;by_cases g:x=k;.subst g;simp at e;subst e;exact⟨b,by simp,d⟩
 .obtain⟨v,i,f⟩:=h k u (by grind);exact⟨v,by grind,f⟩
def acG{a i g a0 c}{ks vs:List VW}(C:X.K=B.K)(x:PE X a (tC (.ref a0)))(D:xl X.w X.K a0 c)(l:PE X i (lo B g))(m:∀F k w,WL.lK k ks vs=some w->∃v,c.lookup k=some v/\RW B.K F w v)(n:gC i):PE X (.Subscript a i pos) (lo B (WL.eOp WL.oIx (WL.eC (.dic ks vs)) g)):=PE.imp (adz (yV D) x l n) λr H Q f=>by refine cH f λd F R q=>?_;have q:=Rq.bind (show Rq B d F ((g d).bind _) _ from q);refine cG d F R (Rq.mono (av.refl _) q λy b v j h z p t=>?_);cases y with
 |str k=>have b:Rq B d F (WL.ofO _) _:=b;cases e:WL.lK k ks vs with|none=>rw[e]at b;exact b.elim|some w=>rw[e]at b;refine dh (m h k w e) λu s A=>?_;exact⟨rfl,k,u,t,s,b u j h z p A⟩
 |_=>exact(b).elim
end
end WS
set_option autoImplicit true
set_option relaxedAutoImplicit true
namespace WS
open PySem PySem.Spec PyProof.Rows L2
open WL(Res Sl Ws EF TF AF LF GF GsF SF Out OX RF Rn AXF)
def AX(F:Hp)(nm:String)(dx:DX):Prop:=WL.fieldsOf nm=[]\/nm="Broken"\/dx.2.2=.none/\∃a y,dx.2.1=.ref a/\F a=some (.tup [.str y])/\y.length<=50000
def AX.via{F b nm dx}(h:AX F nm dx)(k:∀a c,F a=some (.tup c)->b a=some (.tup c)):AX b nm dx:=h.imp id λh=>h.imp id λ⟨i,g,y,d,e,f⟩=>⟨i,g,y,d,k _ _ e,f⟩
def XR(K:W.Frag)(F:Hp):VW->Addr->DX->Prop|.exc nm fs,C,dx=>ExcAt K nm C/\∃a:List (Str×V),a.map (·.1)=WL.fieldsOf nm/\RWs K F fs (a.map (·.2))/\(a=[]/\dx.1=none\/∃d,dx.1=some d/\F d=some (.xd a))/\AX F nm dx|_,_,_=>False
theorem XR.keep{K F b}(s:av F b){c C dx}(h:XR K F c C dx):XR K b c C dx:=by cases c with|exc nm fs=>obtain⟨k,m,l,j,f,g⟩:=h;exact⟨k,_,l,j.keep s,f.imp (λz=>z) λa=>by obtain⟨d,e,i⟩:=a;exact⟨d,e,s _ _ i⟩,g.via λ_ _ z=>s _ _ z⟩|_=>exact h
def XR.is{K F c C dx}(h:XR K F c C dx):∃a fs,c=.exc a fs/\ExcAt K a C:=by cases c with|exc a fs=>exact⟨a,fs,rfl,h.1⟩|_=>exact h.elim
def XW(X:Cx)(B:Bx):Prop:=∀(b:List (Addr×Obj))(a:L2.St)(H:Hp)(s:Shared)(f:Ws)(F:Hp)(c:VW),RS B f a F H->B.xp c f F->∀(e C:Addr)(d:DX)(T:Option Addr)(g:Value),Thr X b a H s e C d g T->XR X.K F c C d->X.xe (.ref e) s
abbrev Bx.jS(B:Bx)(a:VW->Ws->Hp->Prop)(mono:∀c b F d,av F d->a c b F->a c b d):Bx:=⟨B.K,B.H0,B.F0,a,mono⟩
abbrev Bx.never(B:Bx):Bx:=B.jS (λ_ _ _=>False) λ_ _ _ _ _ h=>h
def pP (h:∀c a F,¬B.xp c a F):XW X B:=λ_ _ _ _ a F c _ q=>(h c a F q).elim
section
variable{B B':Bx}{σ:Ws}{σV:L2.St}{F H:Hp}
def RB.box(R:RB B F H)(b:B'.H0=B.H0)(c:B'.F0=B.F0):RB B' F H:=⟨R.sub,b▸R.base,c▸R.fz0,λa o e=>by rw[b,c];exact R.fr a o e⟩
theorem RS.box(R:RS B σ σV F H)(b:B'.K=B.K)(a:B'.H0=B.H0)(c:B'.F0=B.F0):RS B' σ σV F H:=⟨R.rb.box a c,R.len,λi w e=>by rw[b];exact R.va i w e,λi ws e=>by rw[b,a];exact R.ow i _ e,R.ap,by rw[b,a];exact R.dd⟩
end
section
variable{X:Cx}{B:Bx}{k:Nat}{f:Addr}{fd:FuncData}{ps:List Str}{fn:List VW->Res VW}{x:Str}{p pos np hpos cpos:Pos}{e:Expr}{es:List Expr}{tas:AF}{n:Nat}{st:Stmt}
def spX(K:W.Frag)(n:Nat)(f:List VW->Res VW):Sp:=λh H Q E=>∃F ws,av F H/\RWs K F ws h/\ws.length=n/\match f ws with|.ok w=>∀v d b,av F b->av b d->av H d->(∀a o,b a=some o->F a=some o\/H a=none/\NF o)->RW K b w v->Q v d|.ex c=>∀C g d b,av F b->av b d->av H d->(∀a o,b a=some o->F a=some o\/H a=none/\NF o)->XR K b c C g->E (.ref C) g d|.bad=>False
def RS.ext3{q i d c b h}(j:RS B q i d c)(s:av d b)(t:av b h)(r:av c h)(fr:∀a o,b a=some o->d a=some o\/c a=none/\NF o):Gr d c b h/\RS B q i b h:=by
 have g:Gr d c b h:=⟨s,r,λa o u l=>by cases m:b a with|none=>rfl|some o2=>
  rcases fr a o2 m with z|z;.rw[l]at z;cases z
  .rw[u]at z;cases z.1⟩;exact⟨g,j.grow g ⟨t,j.rb.base.trans r,j.rb.fz0.trans s,λa o m=>(fr a o m).elim (λz=>j.rb.fr a o z) λz=>.inr ⟨j.rb.base.free z.1,z.2⟩⟩⟩
def kQ{j a F H l y ws vs us Q}(M:X.K=B.K)(N:XW X B)(I:RS B j a l y)(g:Gr F H l y)(r:RWs B.K l ws vs)(U:ws.length=n)(q:Rq B j F (fn ws) λw=>∀v h A,RS B j a A h->Gr F H A h->RW B.K A w v->Q v h)(S:us=vs):∃E:XK,spX X.K n fn us y Q E/\∀b s e C i T h,Thr X b a h s e C i .none (some T)->E (.ref C) i h->X.xe (.ref e) s:=by
 rw[M,S];refine⟨λC i o=>∃G d c,C=.ref G/\RS B j a d o/\B.xp c j d/\XR B.K d c G i,⟨l,ws,I.rb.sub,r,U,?_⟩,λb s e C i T h t⟨G,d,c,O,R2,R,z⟩=>?_⟩;.cases J:fn ws with|bad=>rw[J]at q;exact q.elim|ok w=>rw[J]at q;intro v o d m u D fr P;obtain⟨K,R2⟩:=I.ext3 m u D fr;exact q v o d R2 (g.trans K) P|ex c=>rw[J]at q;intro C i o d m u D fr z;obtain⟨K,R2⟩:=I.ext3 m u D fr;exact⟨C,d,c,rfl,R2,B.mono c j F d (g.f.trans m) q,z⟩
 .cases O;exact N b a h s j d c R2 R e C i (some T) _ t (by rw[M];exact z)
def yN(h:X.K=B.K)(l:XW X B)(m:∀b ws,tas b=.ok ws->ws.length=n):∀a H Q,lo B (WL.eM fn tas) a H Q->zM X (spX X.K n fn) [] (loA B tas) a H Q:=by intro a H Q⟨b,F,R,q⟩;have q:=Rq.bind q;refine cG b F R ?_;cases d:tas b with|bad|ex c=>rw[d]at q;exact q|ok ws=>rw[d]at q;exact λo r s j g i=>kQ h l j g i (m b ws d) q (aiS _)
def xQ(g:X.K=B.K)(o:XW X B)(F:FnOk X.prog X.w X.K X.mg X.base (CXX X.prog X.w) k f fd ps (spX X.K n fn))(j:Room k X.A)(d:Gl X x)(h:X.mg x=some (.ref f))(l:W.keepIn X.K (.ref f)=true)(q:Binds X.K fd ps [])(m:PA X (e::es) (loA B tas))(r:∀i ws,tas i=.ok ws->ws.length=n)(b:Dbg x:=by decide)(c:SE X e es:=by rfl)(a:BT X pos es:=by rfl):PE X (.Call (.Name x p) (e::es) [] pos) (lo B (WL.eM fn tas)):=PE.imp (yy F j d h l q .nil m b c a) (yN g o r)
def dr:PS X st (loS B WL.fW):=λb s c H D I a=>by obtain⟨d,F,R,q⟩:=a;exact(q).elim
theorem Oq.box  (l:B'.K=B.K)(d:B'.H0=B.H0)(b:B'.F0=B.F0)(m:∀c a,o=.ex c a->B'.xp c a F)(h:Oq B D F o):Oq B' D F o:=by cases o with|nx a|bk a|ct a=>exact λj g i R s=>h _ _ _ (R.box l.symm d.symm b.symm) s|rt w=>exact λv g i R s r=>h v _ _ (R.box d.symm b.symm) s (by grind)|ex c a=>exact m c a rfl|bad=>exact h
def Oq.ah4{f:VW->Ws->Out}(g:B'.K=B.K)(d:B'.H0=B.H0)(b:B'.F0=B.F0)(i:∀c a,Oq B D F (f c a)->B'.xp c a F)(h:Oq B D F (match o with|.ex c a=>f c a|o=>o)):Oq B' D F o:=by cases o with|ex c a=>exact i c a h|_=>exact Oq.box g d b (λ_ _ z=>by cases z) h
end
section
variable{P:Program}{w:World}{K:W.Frag}{mg:Str->Option Value}{base:Heap}
def wz{x a st f G N ps k m n}{D:List VW->Res VW}(t)(T:Fun K x a st f G)(S:FnScope N ps (af st))(U:N.length=n)(g:ps.length=m)(u:WL.run n t=D)(R:ps.length<=N.length)(h:∀d A b s H E B,B.K=K->Room k (A.deeper (envOfC a (af st) s.heap.objs.size f d))->XW (cF CX0 P w K mg base N a (af st) f d A b s H E).nox B->PassesOwn (model P w) (A.deeper (envOfC a (af st) s.heap.objs.size f d)) (envOfC a (af st) s.heap.objs.size f d) (λ_ _=>False)->PSs (cF CX0 P w K mg base N a (af st) f d A b s H E).nox (aC st) (loS B t)):FnOk P w K mg base CX0 (k+1) f G ps (spW K m D):=by subst U g u;refine T.ok S (λO H Q E i=>by refine jO i λF ws _ r I _=>?_;rw[<-r.length];exact I) λd A b s H O Q E M i=>?_;refine jO i λF ws J r I g=>?_;refine⟨_,h d A b s H E _ rfl M (pP λ_ _ _ z=>z) PassesOwn.never,_,F,RS.start J r (by omega),?_⟩;unfold WL.run at g;cases e:t _ with|rt w=>rw[e]at g;exact λv p q y l j=>g v p q l y.sub y.base y.fr j|nx σ'=>rw[e]at g;exact λC p q o l=>g .non p q l o.rb.sub o.rb.base o.rb.fr (rfl)|bk σ'|ct σ'|ex c σ'|bad=>rw[e]at g;exact g.elim
def wy{x b st f X N ps k m n}{U:List VW->Res VW}(t)(Fn:Fun K x b st f X)(S:FnScope N ps (af st))(hn:N.length=n)(g:ps.length=m)(I:WL.run n t=U)(a3:ps.length<=N.length)(h:∀d A a s H E B,B.K=K->Room k (A.deeper (envOfC b (af st) s.heap.objs.size f d))->XW (cF (CXX P w) P w K mg base N b (af st) f d A a s H E) B->PassesOwn (model P w) (cF (CXX P w) P w K mg base N b (af st) f d A a s H E).A (cF (CXX P w) P w K mg base N b (af st) f d A a s H E).env (cF (CXX P w) P w K mg base N b (af st) f d A a s H E).xe->PSs (cF (CXX P w) P w K mg base N b (af st) f d A a s H E) (aC st) (loS B t)):FnOk P w K mg base (CXX P w) (k+1) f X ps (spX K m U):=by subst hn g I;refine aai Fn.ex λoc od kV a2 pm an d ct a1 J lk y=>?_;subst J;refine o8 lk y S (λvs H Q E p=>by refine jO p λF ws _ r Y _=>?_;rw[<-r.length];exact Y) λA a s H vs Q E hr _ p=>?_;refine jO p λF ws sm r Y g=>?_;let R:Bx:=⟨K,H,F,λ_ _ _=>False,λ_ _ _ _ _ h=>h⟩;let B1:Bx:=R.jS (λc _ u=>∀C l j i,av u i->RB R i j->XR K i c C l->E (.ref C) l j) λc σ u F2 s h C l j i o=>h C l j i (s.trans o);refine⟨_,h d A a s H E B1 rfl hr (λM a0 Z s1 σ u c R1 xp e C l T fl t z=>f9 t (xp C l Z u (av.refl _) (R1.rb.box rfl rfl) z)) ajH,_,F,(RS.start sm r (by omega)).box rfl rfl rfl,?_⟩;unfold WL.run at g;cases e:t _ with|rt w=>rw[e]at g;exact λv j i q o D=>g v j i o q.sub q.base q.fr D|nx σ'=>rw[e]at g;exact λO j i G o=>g .non j i o G.rb.sub G.rb.base G.rb.fr (rfl)|bk σ'|ct σ'=>rw[e]at g;exact g.elim|ex c σ'=>rw[e]at g;exact λC l j i o q z=>g C l j i o q.sub q.base q.fr z|bad=>rw[e]at g;exact g.elim
end
def dU:bootBuiltins "ValueError"=some (.type "ValueError"):=by decide+kernel
structure Exc1(K:W.Frag)(FE Ca:Addr):Prop where
 ty:W.typeIn K (.ref Ca)=some (.type "type")mro:(W.clsIn K Ca).map (·.mro)=some (.ref Ca::dj)/\Ca=FE\/(W.clsIn K Ca).map (·.mro)=some (.ref Ca::.ref FE::dj)ga:W.findIn K (.ref Ca) "__getattribute__"=some (some (.builtin "BaseException.__getattribute__"))gn:W.findIn K (.ref Ca) "__getattr__"=some none
 cl:W.findIn K (.ref Ca) "__class__"=some (some (.builtin "object.__class__"))
structure ExcAll(K:W.Frag):Prop where
 k:∀nm Ca,ExcAt K nm Ca->ExcK K Ca
 is:∀nm Ca d D,ExcAt K nm Ca->ExcAt K d D->W.kitOne K (.ref Ca) (.ref D)=some (WL.kP nm d)ve:∀nm Ca,ExcAt K nm Ca->W.kitOne K (.ref Ca) (.type "ValueError")=some true
 ex:∀nm Ca d D,ExcAt K nm Ca->ExcAt K d D->W.exmOne K (.ref Ca) (.ref D)=some (WL.kP nm d)
def all_nil{α:Type}{P:α->Prop}:∀p∈[],P p:=λ_ h=>nomatch h
def all_cons{α:Type}{P:α->Prop}{a l}(h:P a)(t:∀p∈l,P p):∀p∈a::l,P p:=λp b=>(aiO.mp b).elim (λe=>e▸h) (t p)
section
variable{K:W.Frag}{FE:Addr}{tab:List (String×Addr)}
theorem ig:∀{tab:List (String×Addr)},(tab.map (·.1)).Nodup->(tab.map (·.2)).Nodup->∀p∈tab,∀q∈tab,p.1=q.1↔p.2=q.2
|[],_,_,p,hp,_,_=>nomatch hp|a::l,h1,h2,p,hp,q,hq=>by
 rw[aiC,ajl]at h1 h2;rcases aiO.mp hp with z|b<;>rcases aiO.mp hq with y|c;.rw[z,y];exact⟨λ_=>rfl,λ_=>rfl⟩
 .subst z;exact⟨λe=>absurd (e▸ajT c) h1.1,λe=>absurd (e▸ajT c) h2.1⟩
 .subst y;exact⟨λe=>absurd (e▸ajT b) h1.1,λe=>absurd (e▸ajT b) h2.1⟩
 .exact ig h1.2 h2.2 p b q c
def wh(s:("FloorError",FE)∈tab)(v:∀p∈tab,W.nsIn K mainGlobals (Str.ofString p.1)=some (some (.ref p.2))/\Exc1 K FE p.2)(w:∀b∈WL.lC,b∈tab.map (·.1)\/W.nsIn K mainGlobals (Str.ofString b)=some none)(n:(tab.map (·.1)).Nodup)(o:(tab.map (·.2)).Nodup)(y:W.specialIn K (.builtin "object.__class__") "__get__"=some (some (.builtin "getset_descriptor.__get__")))(q:W.takesIn K (.builtin "object.__class__")=some true):ExcAll K:=by
 have c:∀b a,ExcAt K b a->(b,a)∈tab/\Exc1 K FE a:=λb a⟨i,f⟩=>by grind
 have k:∀b a,ExcAt K b a->∃j,W.clsIn K a=some j/\(j.mro=.ref a::dj/\a=FE\/j.mro=.ref a::.ref FE::dj):=λb a h=>by
  rcases(c b a h).2.mro with⟨e,z⟩|e;.obtain⟨j,i,f⟩:=aiL.mp e;exact⟨j,i,.inl ⟨f,z⟩⟩
  .obtain⟨j,i,f⟩:=aiL.mp e;exact⟨j,i,.inr f⟩
 have l:∀b a T,ExcAt K b a->Value.type T∈dj->W.mroIn K a (.type T)=some true:=λb a T h u=>by
  obtain⟨j,i,f⟩:=k b a h;unfold W.mroIn;rw[i,ajP];rcases f with⟨f,_⟩|f<;>rw[f]<;>simp only[akR,aj1,akC,Option.some.injEq,List.contains_eq_mem,ake,aiO];.exact .inr (by simpa using u)
  .exact .inr (.inr (by simpa using u))
 have sub:∀b a d D,ExcAt K b a->ExcAt K d D->W.mroIn K a (.ref D)=some (WL.kP b d):=λb a d D h g=>by
  refine dh (k b a h) λj i f=>?_;have r:=ig n o _ (c b a h).1 _ (c d D g).1;have t:=ig n o _ s _ (c d D g).1;have x:=ig n o _ s _ (c b a h).1;dsimp only at r t x;unfold W.mroIn;rw[i,ajP];have e:WL.kP b d=decide (a=D\/FE=D):=by unfold WL.kP;rw[ajk];simp only[Bool.or_eq_true,aje,ake];exact or_congr r (by rw[eq_comm];exact t)
  rw[e];rcases f with⟨f,z⟩|f<;>rw[f]<;>simp only[akR,aj1,akC,Option.some.injEq,List.contains_eq_mem];.subst z;congr 1;simp[eq_comm]
  .congr 1;simp[eq_comm]
 have cls:∀b a d D,ExcAt K b a->ExcAt K d D->W.kitCls K (.ref a) (.ref D)=some (WL.kP b d):=λb a d D h g=>by obtain⟨j,i,_⟩:=k d D g;unfold W.kitCls;dsimp only;rw[aij (by rw[i,(c d D g).2.ty];rfl)];exact sub b a d D h g
 refine⟨λb a h=>?_,λb a d D h g=>?_,λb a h=>?_,λb a d D h g=>?_⟩;.obtain⟨j,i,_⟩:=k b a h;have m:=(c b a h).2;exact⟨by rw[i];rfl,m.ga,m.gn,l b a _ h (by simp),l b a _ h (by simp),m.cl,y,q⟩
 .unfold W.kitOne;by_cases e:(Value.ref a==Value.ref D)=true;.rw[aij e];have e:=Value.ref.inj (aje.mp e);subst e;have:=(ig n o _ (c b a h).1 _ (c d a g).1).mpr rfl;dsimp only at this;subst this;simp[WL.kP]
  .rw[aik e];exact cls b a d D h g
 .unfold W.kitOne;rw[aik (by intro z;cases aje.mp z)];unfold W.kitCls;dsimp only;rw[aij (by decide+kernel)];exact l b a _ h (by simp)
 .unfold W.exmOne;rw[aij (by rw[show W.subIn K (.ref D) (.type "BaseException")=W.mroIn K D (.type "BaseException")from rfl,l d D _ g (by simp)];rfl)];exact cls b a d D h g
end
section
variable{X:Cx}{K:W.Frag}
def v9{F H:Hp}{a C:Addr}{dx:DX}{c:List (Str×V)}{pins:List (Addr×Obj)}{j:L2.St}{s:Shared}(I:Inv X pins j H s)(sm:av F H)(l:F a=some (.ext (excAt a C dx)))(n:c=[]/\dx.1=none\/∃d,dx.1=some d/\F d=some (.xd c)):∃i od,W.InstAt s.heap a i C od/\i.dict=dx.1:=by
 obtain⟨⟨f,o,h,g,e,k⟩,_⟩:=I.hok a _ (sm _ _ l);have b:W.notCls f=true:=by unfold W.notCls;rw[k.1]
 rcases n with⟨_,z⟩|⟨d,z,q⟩;.exact⟨f,none,⟨h,g,b,by rw[e,z];trivial⟩,e⟩
 .obtain⟨od,m⟩:=cV (I.hok d _ (sm _ _ q));exact⟨f,some od,⟨h,g,b,by rw[e,z];exact m⟩,e⟩
def jC(E:X.K=K)(k:ExcAll X.K):bx X (.builtin "isinstance") (loN K WL.nZ):=by
 subst E;intro e s G H S n Q I r⟨F,ws,o,g,q⟩;have go:∀c fs j b,ws=[.exc c fs,j]->WL.nZ ws=.ok (.bl b)->(∀C v,ExcAt X.K c C->RW X.K F j v->∀u,RelV v u->W.kitOne X.K (.ref C) u=some b)->wpAny (model X.prog X.w) X.A (call (.builtin "isinstance") n) (EP X e G Q) X.xe s:=λc fs j b w A J=>by subst w;rw[A]at q;obtain⟨v,B,rfl,h,M⟩:=two_of g;obtain⟨u,R,rfl,P,x⟩:=vals2 r;simp only[RW]at h;obtain⟨a,C,U,rfl,O,m,y,_,_,t⟩:=h;obtain⟨N,od,T,_⟩:=v9 I o O t;cases show u=Value.ref a from P;have fin:Q (.bl b) H:=eq1 q (by simp[RW]);exact ajc (yT (k.k c C m)) I.kIn ⟨N,od,T⟩ (J C B m M R x) (λz=>nomatch z) λtk=>⟨.bl b,H,I.tok tk,rfl,fin⟩
 unfold WL.nZ at q;split at q;.rename_i c fs d;exact go c fs (.cls d) _ rfl rfl λC v i f u l=>by simp only[RW]at f;obtain⟨D,rfl,p⟩:=f;cases show u=Value.ref D from l;exact k.is c C d D i p
 .rename_i c fs;exact go c fs (.ty "ValueError") _ rfl rfl λC v i f u l=>by simp only[RW]at f;subst f;cases show u=Value.type "ValueError"from l;exact k.ve c C i
 .exact q.elim
def bT:∀a c,WL.nZ a≠.ex c:=λa c h=>by unfold WL.nZ at h;split at h<;>cases h
end
section
variable{X:Cx}{B:Bx}{σ:Ws}{σV:L2.St}{F H:Hp}
def RS.ac6(R:RS B σ σV F H)(i:Nat):RS B (σ.set i .no) (σV.set i none) F H:=by
 have t:=R.len;have b:∀{j:Nat}{w:Sl},(σ.set i .no)[j]?=some w->w≠.no->i≠j:=λ{j w}e n z=>by
  subst z;have p:i<σ.length:=by have:=(ail.mp e).1;simpa using this
  rw[ain p]at e;cases e;exact n rfl
 refine⟨R.rb,by simp[t],λj u e=>?_,λj ws e=>?_,λj k ws f a c h d m l=>?_,R.aeG i (sl:=.no) (λz=>z) _ (av.refl _) λ_ _ _ _ _ _ _ _ o r=>⟨r,o⟩⟩;.have g:=b e (by intro z;cases z);rw[aii g]at e⊢;exact R.va j u e
 .have g:=b e (by intro z;cases z);rw[aii g]at e⊢;exact R.ow j ws e
 .have q:=b h (by intro z;cases z);have s:=b d (by intro z;cases z);rw[aii q]at h m;rw[aii s]at d l;exact R.ap j k ws f a c h d m l
end
section
variable{X:Cx}{B:Bx}{x n:Str}{pos np hpos:Pos}
def xJ{A g:List Stmt}{b0:Stmt}{C:Addr}{d:String}{i:Nat}{tb th:SF}(hK:X.K=B.K)(hs:X.stack=X.env::X.outer)(hf:X.env.frame=some X.env.locals)(hN:X.N.Nodup)(hi:X.N[i]?=some n)(hl:X.env.scope.names.lookup n=some .local)(hg:Gl X x)(hm:X.mg x=some (.ref C))(hc:∀k Ca,ExcAt X.K k Ca->W.exmOne X.K (.ref Ca) (.ref C)=some (WL.kP k d))(hb:∀(E:Value->Shared->Prop)(pn:List (Addr×Obj))(B':Bx),B'.K=X.K->XW (X.tri E pn) B'->PassesOwn (model X.prog X.w) X.A X.env E->PSs (X.tri E pn) A (loS B' tb))(hh:∀(e:Addr)(B':Bx),B'.K=X.K->XW (X.sui e) B'->PSs (X.sui e) (b0::g) (loS B' th))(hd:Dbg x:=by decide):PS X (.Try A [.ExceptHandler (some (.Name x np)) (some n) (b0::g) hpos] [] [] pos) (loS B (WL.qi tb d i th)):=by
 intro b s a2 H D I⟨σ,F,R,q⟩;refine wpAny_Try_except ?_;let E':Value->Shared->Prop:=λe Y=>wpAny (model X.prog X.w) X.A (noteFrame e X.env) (λ_ a0=>wpAny (model X.prog X.w) X.A (setFlight e none) (λ_ Z=>wpAny (model X.prog X.w) X.A (handleBy e X.env [.ExceptHandler (some (.Name x np)) (some n) (b0::g) hpos]) (SP X b D) X.xe Z) X.xe a0) X.xe Y;let B1:Bx:=B.jS (λc a Q=>Oq B D Q (WL.jc d i th c a)) λc a Q a6 s h=>Oq.mono s h;have xw:XW (X.tri E' (X.pn++b)) B1:=by
  intro a3 p H1 s1 j K c R1 f e y M T S t xr;have t2:Thr X b p H1 s1 e y M S T:=t.eP;obtain⟨k,fs,rfl,ce⟩:=xr.is;have f:Oq B D K (WL.jc d i th (.exc k fs) j):=f;have ex:=hc k y ce
  cases N:WL.kP k d with|false=>
   have:WL.jc d i th (.exc k fs) j=.bad:=by simp[WL.jc,WL.gz,N]
   rw[this]at f;exact f.elim|true=>
   have hO:WL.jc d i th (.exc k fs) j=match th (j.set i (.va (.exc k fs)))with|.nx σ2=>.nx (σ2.set i .no)|.rt w=>.rt w|_=>.bad:=by unfold WL.jc;rw[show WL.gz d (.exc k fs)=true from N];rfl
   rw[hO]at f;rw[N]at ex;refine t2.note hs hf λh' T' _ t3=>t3.nu λa7 t4=>vV t4 hg hm ex (λh3 t5=>?_) hd;have J:=t5.known;have he:H1 e=none:=t5.fe.1;have a1:RS B j p K H1:=R1.box rfl rfl rfl;have R2:=a1.new he (.ext (excAt e y M));have hF:K e=none:=a1.rb.sub.free he;have sF:av K (upd K e (.ext (excAt e y M))):=au hF _;have a5:RW B.K (upd K e (.ext (excAt e y M))) (.exc k fs) (.ref e):=by obtain⟨z1,a4,z2,z3,z4⟩:=xr.keep sF;simp only[RW];rw[<-hK];exact⟨e,y,M,rfl,ah,z1,a4,z2,z3,z4.1⟩
   let B2:Bx:=B.never;have P:=hh e B2 hK.symm (pP λ_ _ _ z=>z);let D2:Ends:=⟨λm l=>D.nx (m.set i none) l,D.rt,λ_ _=>False,λ_ _=>False⟩;refine iw (X:=X.sui e) (J.sui e) hN hi (Or.inl hl) (v:=.ref e) (u:=.ref e) rfl (λs2 J2 _=>?_) (Or.inr hl);have R3:RS B2 (j.set i (.va (.exc k fs))) (p.set i (some (.ref e))) (upd K e (.ext (excAt e y M))) (upd H1 e (.ext (excAt e y M))):=(R2.set (i:=i) a5).box rfl rfl rfl;refine aiA (P b _ _ _ D2 J2 ⟨_,_,R3,?_⟩) (λS s3 h=>?_) λ_ _ z=>z;.cases eo:th (j.set i (.va (.exc k fs)))with|ex c2 σ2=>rw[eo]at f;exact f.elim|nx σ2=>rw[eo]at f;exact λm l Q R' O=>f (m.set i none) l Q ((RS.box (B:=B2) (B':=B) R' rfl rfl rfl).ac6 i) (sF.trans O)|bk σ2|ct σ2=>rw[eo]at f;exact f.elim|rt w=>rw[eo]at f;exact λv l Q R' O r=>f v l Q (RB.box (B:=B2) (B':=B) R' rfl rfl) (sF.trans O) r|bad=>rw[eo]at f;exact f
   .cases S with|next=>obtain⟨a,l,U,G⟩:=h;exact qF (J.back U) hN hi hl λO I2=>⟨_,l,I2,G⟩|brk=>obtain⟨a,l,U,G⟩:=h;exact G.elim|cont=>obtain⟨a,l,U,G⟩:=h;exact G.elim|ret u=>obtain⟨v,a,l,U,r,G⟩:=h;exact qF (J.back U) hN hi hl λO I2=>⟨v,_,l,I2,r,G⟩
 have P:=hb E' (X.pn++b) B1 hK.symm xw PassesOwn.looking;refine aiA (P [] s a2 H D (I.tri E') ⟨σ,F,R.box rfl rfl rfl,?_⟩) (λS O h=>?_) λ_ _ z=>z;.have q:Oq B D F (match tb σ with|.ex c a=>WL.jc d i th c a|o=>o):=q;exact Oq.ah4 (B:=B) (B':=B1) rfl rfl rfl (λ_ _ z=>z) q
 .have h:=SP.eP h;cases S with|next=>exact ajU h|_=>exact h
end
end WS
namespace WS
open PySem PySem.Spec PyProof.Rows L2
def acI{X:Cx}{B:Bx}{x:Str}{nm:String}{C:Addr}{pos:Pos}(b:X.K=B.K)(a:Gl X x)(c:X.mg x=some (.ref C))(d:ExcAt X.K nm C)(e:Dbg x:=by decide):PE X (.Name x pos) (lo B (WL.eC (.cls nm))):=aaE (oM (v:=.ref C) a c rfl e) λF=>by simp only[RW];rw[<-b];exact⟨C,rfl,d⟩
end WS
namespace WS
open PySem PySem.Spec PyProof.Rows L2
open WL(Res Sl Ws EF TF AF LF GF GsF SF Out OX RF Rn AXF)
section
variable{σ:L2.St}{H:Hp}
def Part(t:TE)(σ:L2.St)(H:Hp):Prop:=∀Q:VK,(∀y:Str,y.length<=1000->Q (.str y) H)->t σ H Q
def vg{y}(h:y.length<=1000):Part (tC (.str y)) σ H:=λQ k=>k y h
def zU{i n}(h:σ[i]?=some (some (.int n)))(a:n.natAbs.log2<100):Part (ace (cQ i)) σ H:=λQ k=>⟨_,h,.inl ⟨n,rfl,aiq a (by simp),k _ (by have e:=int_text_length_le (by simp) a;rw[PySem.ofString_length];omega)⟩⟩
theorem acX{Q}:∀ts a,a.length+1000*ts.length<=100000->(∀t∈ts,Part t σ H)->(∀y,y.length<=a.length+1000*ts.length->Q (.str y) H)->tJ ts a σ H Q|[],a,hl,_,k=>⟨by rw[ajS];omega,k _ (by simp)⟩|t::ts,a,hl,hp,k=>hp t aiI _ λy d=>by rw[ait]at hl;have e:(a++y).length=a.length+y.length:=akk ..;exact⟨y,rfl,by rw[ajS];omega,acX ts _ (by omega) (λt b=>hp t (aiV _ b)) λz c=>k z (by rw[ait];omega)⟩
end
section
variable{P:Program}{w:World}{K:W.Frag}{mg:Str->Option Value}{base:Heap}
def ag3{G:Hp}{e d a b c}:upd (upd (upd G e a) d b) e c=upd (upd G d b) e c:=by
 funext z;by_cases f:z=e;.rw[f,ah,ah]
 .rw[ae f,ae f];by_cases g:z=d;.rw[g,ah,ah]
  .rw[ae g,ae g,ae f]
def ahF{G:Hp}{e d:Addr}{a b c}(h:d≠e):upd (upd (upd G d a) e b) d c=upd (upd G d c) e b:=by
 funext z;by_cases f:z=d;.rw[f,ah,ae h,ah]
 .rw[ae f];by_cases g:z=e;.rw[g,ah,ah]
  .rw[ae g,ae g,ae f,ae f]
def yZ{g p a b st f C u k ts}(O:Fun K "__init__" g st f u)(S:FnScope [a,b] [a,b] (af st))(B:ts.length<=50)(T:∀r H n,r[1]?=some (some (.int n))->n.natAbs.log2<100->∀t∈ts,Part t r H)(h:∀i A c s H E,Room k (A.deeper (envOfC g (af st) s.heap.objs.size f i))->PSs (cF CX0 P w K mg base [a,b] g (af st) f i A c s H E).nox (aC st) (acT (rG (uz C (fU (cQ 0) (fU (tJ ts Str.empty) x6)))) (sX1 C (cQ 0) (cQ 1) p))):FnOk P w K mg base CX0 (k+1) f u [a,b] (spI C [p]):=by refine O.ok S λG H Q E j=>by obtain⟨e,ws,_,l,m,_⟩:=j;rw[l,ait,m];rfl λi A c s H G Q E D j=>?_;obtain⟨e,ws,N,l,m,I,M,q⟩:=j;subst l;obtain⟨z,rfl⟩:=List.length_eq_one_iff.mp m;obtain⟨n,rfl,U⟩:=M z aiI;refine⟨_,h i A c s H E D,?_⟩;refine⟨.ref e,rfl,acX ts _ (by have:Str.empty.length=0:=rfl;omega) (T _ H n rfl U) λy v=>⟨e,none,N,y,rfl,I,λx J X=>?_⟩⟩;refine⟨.int n,rfl,.ref e,rfl,e,_,rfl,ah,λd R o=>?_⟩;have:=q x y d J (aip v (by have:Str.empty.length=0:=rfl;omega)) (by rwa[ae o]at R) o;rw[<-ag3]at this;exact this
end
section
variable{X:Cx}{B:Bx}{k:Nat}{fI C:Addr}{fd:FuncData}{ps:List Str}{x:Str}{p pos np cpos:Pos}{e:Expr}{es:List Expr}{tas:AF}{nm:String}
theorem vQ{K F}:∀{ws vs},RWs K F ws vs->ws.all WL.j2=true->∀v∈vs,∃i,v=.int i/\i.natAbs.log2<100
|[],vs,h,_,v,a=>by subst h;cases a|w::ws,vs,h,ha,v,a=>by
 obtain⟨d,r,rfl,b,c⟩:=h;rw[akj,aiw]at ha;rcases aiO.mp a with rfl|a;.cases w with|int i=>subst b;exact⟨i,rfl,akd ha.1⟩|_=>cases ha.1
 .exact vQ c ha.2 v a
def tP(S:X.K=B.K)(A:XW X B)(P:X.calm=true)(G:Gl X x)(J:X.mg x=some (.ref C))(q:ib X.K C (some (.ref fI)))(n:W.typeIn X.K (.ref fI)=some (.type "function"))(F:FnOk X.prog X.w X.K X.mg X.base CX0 k fI fd ps (spI C (WL.fieldsOf nm)))(M:Room (k+1) X.A)(Q:Binds X.K fd ps [])(K:ExcAt X.K nm C)(U:(WL.fieldsOf nm).length<=50)(O:PA X (e::es) (loA B tas))(b:Dbg x:=by decide)(N:SE X e es:=by rfl)(a:BT X cpos es:=by rfl):PS X (.Raise (some (.Call (.Name x np) (e::es) [] cpos)) none pos) (loS B (WL.oF nm tas)):=PS.imp (uY P G J q n F M Q O b N a) λD j H l=>by
 refine cH l λm F R q=>?_;have q:=Oq.ofR q;refine cG m F R (Rq.mono (av.refl _) q λws g i Z F1 v T o=>?_);by_cases h:ws.length=(WL.fieldsOf nm).length/\ws.all WL.j2=true
 .rw[aij h]at g;have f:i.length=(WL.fieldsOf nm).length:=by rw[<-o.length];exact h.1
  refine⟨f,vQ o h.2,U,λc s e d r y u I b ne t=>?_⟩;have R2:=v.new u (.tup [.str y]);have E:=au (v.rb.sub.free u) (.tup [.str y]);have w:=E.trans (au (R2.rb.sub.free b) (.xd ((WL.fieldsOf nm).zip i)));have Y:r≠d:=λz=>by rw[<-z,ah]at b;cases b
  refine A c j _ s m _ (.exc nm ws) (R2.new b _) (B.mono _ m F _ (T.f.trans w) g) e C _ none _ t ⟨K,(WL.fieldsOf nm).zip i,?_,?_,.inr ⟨d,rfl,ah⟩,.inr (.inr ⟨rfl,r,y,rfl,by rw[ae Y,ah],I⟩)⟩;.rw[List.map_fst_zip (by omega)]
  .rw[List.map_snd_zip (by omega),S];exact o.keep w
 .rw[aik h]at g;exact(show False from g).elim
end
section
variable{X:Cx}{B:Bx}{o:Expr}{f:Str}{pos:Pos}{ta:EF}
theorem qH{f:Str}{v:V}:∀{l:List (Str×V)},l.lookup f=some v->f∈l.map (·.1)|[],h=>by simp at h|(a,b)::l,h=>by rw[aiT]at h;cases z:f==a with|true=>rw[aiC,aje.mp z];exact aiI|false=>rw[z]at h;exact aiV _ (qH h)
theorem pN{K:W.Frag}{F:Hp}{f:Str}{w:VW}:∀{l:List Str}{ws:List VW}{c:List (Str×V)},c.map (·.1)=l->RWs K F ws (c.map (·.2))->(l.zip ws).lookup f=some w->∃v,c.lookup f=some v/\RW K F w v|[],ws,c,_,_,h=>by simp at h|a::l,[],c,_,_,h=>by simp at h|a::l,w0::ws,[],h,_,_=>by simp at h|a::l,w0::ws,(b,v0)::c,d,h2,h3=>by simp only[aiC,List.cons.injEq]at d;obtain⟨rfl,d⟩:=d;simp only[aiC,RWs]at h2;obtain⟨v,r,e,i,g⟩:=h2;simp only[List.cons.injEq]at e;obtain⟨rfl,rfl⟩:=e;rw[akI,aiT]at h3;rw[aiT];cases z:f==b with|true=>rw[z]at h3;cases h3;exact⟨v0,rfl,i⟩|false=>rw[z]at h3;exact pN d g h3
def tU(Y:X.K=B.K)(hA:ExcAll X.K)(hn:∀g C,ExcAt X.K g C->f∈WL.fieldsOf g->W.findIn X.K (.ref C) f=some none/\W.hasDictIn X.K C=true)(he:PE X o (lo B ta))(hb:attributeBase o f X.env (eval o X.env)=eval o X.env):PE X (.Attribute o f pos) (lo B (WL.acm ta f)):=by intro j s e H Q I⟨p,F,R,q⟩;have q:=Rq.bind q;refine xh hb (thn (he j s e H _ I ⟨p,F,R,Rq.mono (av.refl _) q λw qw v S h R' U r'=>show∃w h,RS B p e h S/\RW B.K h w v/\Rq B p h (WL.agF f w) λy=>∀n c b,RS B p e b c->Gr h S b c->RW B.K b y n->Q n c from⟨w,h,R',r',Rq.mono U.f qw λy k n c b J E=>k n c b J (U.trans E)⟩⟩) λu s1⟨x,K,m,rx,w,F1,z,O,i⟩=>?_);cases w with
|exc g fs=>dsimp only[WL.agF]at i;cases A:((WL.fieldsOf g).zip fs).lookup f with|none=>rw[A]at i;exact i.elim|some y=>
   rw[A]at i;simp only[RW]at O;obtain⟨a,C,dx,rfl,h1,P,a0,M,h4,h5⟩:=O;cases show u=Value.ref a from rx;obtain⟨v,G,rv⟩:=pN M h4 A;have l:f∈WL.fieldsOf g:=by rw[<-M];exact qH G
   rcases h5 with⟨rfl,_⟩|⟨d,e5,hd⟩;.simp at G
   have D:=z.rb.sub _ _ hd;obtain⟨mA,hN,r⟩:=m.hok d _ D;obtain⟨od,ho,t⟩:=ng hN;obtain⟨⟨Z,es,g1,g2,g3,g4⟩,_⟩:=m.hok a _ (z.rb.sub _ _ h1);have T:W.InstAt s1.heap a Z C (some od):=⟨g1,g2,by unfold W.notCls;rw[g4.1],by rw[g3,e5];exact ho⟩;obtain⟨u,hu,N⟩:=n8.some_of (v:=v) (o:=mA f) (by rw[<-G];exact r f);obtain⟨n1,n2⟩:=hn g C (by rw[Y];exact P) l;refine zk (hA.k g C (by rw[Y];exact P)) m.kIn T (W.findObj_own n2 n1 rfl (by rw[t,hu])) (nk N) ?_;exact⟨v,K,m.tok _,N,i v K F1 z Gr.refl rv⟩
|_=>exact i.elim
end
end WS
namespace WS
open PySem PySem.Spec PyProof.Rows L2
section
variable{K:W.Frag}{a:Addr}{f nm:Str}
def wg{C d n}(x:ExcAll K)(h:ExcAt K n C)(m:(W.clsIn K C).map (·.mro)=some (.ref C::.ref d::dj))(i:W.hasDictIn K C=true)(k:W.findIn K (.ref C) "__setattr__"=some (some (.builtin "object.__setattr__"))):ExcS K C:=by obtain⟨l,c,j⟩:=aiL.mp m;obtain⟨e,b,g⟩:=W.any_some i;rw[c]at b;cases b;exact⟨x.k n C h,⟨l,c,g,.inr ⟨d,j⟩⟩,k⟩
def FA(K:W.Frag)(f:Str)(nm:String):Prop:=f∈WL.fieldsOf nm->∀b,W.nsIn K mainGlobals (Str.ofString nm)=some (some (.ref b))->W.findIn K (.ref b) f=some none/\W.hasDictIn K b=true
def eY{nm:String}(h:¬f∈WL.fieldsOf nm):FA K f nm:=λz=>absurd z h
def v8{nm:String}(e:W.nsIn K mainGlobals (Str.ofString nm)=some (some (.ref a)))(b:W.findIn K (.ref a) f=some none)(c:W.hasDictIn K a=true):FA K f nm:=λ_ d h=>by have:=e.symm.trans h;cases this;exact⟨b,c⟩
def gj{nm:String}(e:W.nsIn K mainGlobals (Str.ofString nm)=some none):FA K f nm:=λ_ b h=>by have:=e.symm.trans h;cases this
def ahs(i:FA K f "FloorError")(o:FA K f "NotEven")(q:FA K f "NoCall")(n:FA K f "NoName")(j:FA K f "NoProgram")(m:FA K f "TooMany")(l:FA K f "NoPairs")(p:FA K f "NoRow")(k:FA K f "Blind")(r:FA K f "Out")(e:FA K f "Meet")(g:FA K f "Broken"):∀nm C,ExcAt K nm C->f∈WL.fieldsOf nm->W.findIn K (.ref C) f=some none/\W.hasDictIn K C=true:=λnm d⟨h,c⟩b=>by
 simp only[WL.lC,aiO,ajM,or_false]at h;rcases h with rfl|rfl|rfl|rfl|rfl|rfl|rfl|rfl|rfl|rfl|rfl|rfl;.exact i b d c
 .exact o b d c
 .exact q b d c
 .exact n b d c
 .exact j b d c
 .exact m b d c
 .exact l b d c
 .exact p b d c
 .exact k b d c
 .exact r b d c
 .exact e b d c
 .exact g b d c
end
end WS
namespace WS
open PySem PySem.Spec PyProof.Rows L2
open WL(Res Sl Ws EF TF AF LF GF GsF SF Out OX RF Rn AXF)
section
variable{X:Cx}{B:Bx}{e tg iter elt:Expr}{pos:Pos}{ta tb:EF}{tt:TF}{it:LF}{g:GF}{k:Nat}{scope:Scope}{ts:List Str}{ifs:List Expr}
def wN{f G t C J xs Q}(hg:Keeps k g)(R1:RS B f G t C)(wk:Walk B.K J xs t)(hx:xs.length<=WL.lim)(T:WL.bB g tt ta (List.replicate k .no++f) xs≠.bad)(ex:∀c,WL.bB g tt ta (List.replicate k .no++f) xs=.ex c->∀R h,av t h->B.xp c R h)(fin:∀all,WL.bB g tt ta (List.replicate k .no++f) xs=.ok all->∀z h n,RB B h n->Gr t C h n->RWs B.K h all z->∀D,n D=none->Q (.ref D) (upd n D (.lst z))):tf J (loG true B g) (loT B tt) (lo B ta) (List.replicate k none++G) C Q:=by
 refine⟨λi m z o n=>m=xs.length-i/\i<=xs.length/\z.length<=i/\∃h d,RS B (List.replicate k .no++f) o h n/\Gr t C h n/\RWs B.K h d z/\WL.bB g tt ta (List.replicate k .no++f) xs=(WL.bB g tt ta (List.replicate k .no++f) (xs.drop i)).bind λr=>.ok (d++r),⟨xs.length,rfl,aiN _,aiN _,t,[],R1.ahead k,Gr.refl,by simp[RWs],?_⟩,?_⟩;.rw[aj6];cases WL.bB g tt ta (List.replicate k .no++f) xs<;>rfl
 rintro i m z o n⟨rfl,hi,U,h,d,K,p,P,a⟩;refine⟨aj0 (aip U (aip hi hx)) (by decide),?_⟩;by_cases x:i<xs.length;.have hd:=aiQ x;rw[hd]at a;obtain⟨go,yl⟩:=wk.go i xs[i] (aiv x) h n p.f K.rb.sub;refine .inr ⟨go,λw E I=>w.length<=i+1/\∃A d,RS B (List.replicate k .no++f) E A I/\Gr t C A I/\RWs B.K A d w/\WL.bB g tt ta (List.replicate k .no++f) xs=(WL.bB g tt ta (List.replicate k .no++f) (xs.drop (i+1))).bind λr=>.ok (d++r),λw E I⟨a1,a2⟩=>⟨xs.length-(i+1),by omega,rfl,x,a1,a2⟩,λv I hy=>?_⟩;refine dh (yl v I hy) λA E2 r2=>?_;have a0:=p.f.trans E2.same;simp only[WL.bB]at a;refine ab9 _ A xs[i] (E2.rs _ _ _ K) r2 ?_;cases O:g xs[i] (List.replicate k .no++f)with|bad=>rw[O]at a;exact(T a).elim|ex c=>rw[O]at a;exact ex c a _ A a0|ok σ1=>
   rw[O]at a;obtain⟨kl,kk⟩:=hg _ _ _ O;intro q H3 F3 R3 S;have back:∀{s M:Hp},RS B σ1 q s M->RS B (List.replicate k .no++f) q s M:=λ{s M}N=>N.forget kl.symm λj sl ej ne=>by grind
   have l:=E2.gr.trans ⟨S.f,S.h rfl,S.nf⟩;have a:WL.bB g tt ta (List.replicate k .no++f) xs=((tt σ1).bind _).bind λr=>.ok (d++r):=a;refine cG σ1 F3 R3 ?_;cases Y:tt σ1 with|bad=>rw[Y]at a;exact(T a).elim|ex c=>rw[Y]at a;exact ex c a _ F3 (p.f.trans l.f)|ok b=>rw[Y]at a;intro M s N H;cases b with|false=>rw[aik aiz];exact⟨by omega,s,d,back N,p.trans (l.trans H),P.keep (l.trans H).f,a⟩|true=>rw[aij rfl];have a:=a;refine cG σ1 s N ?_;cases Z:ta σ1 with|bad=>rw[Z]at a;exact(T a).elim|ex c=>rw[Z]at a;exact ex c a _ s (p.f.trans (l.trans H).f)|ok y=>rw[Z]at a;intro u H5 F5 R5 g5 r5;refine⟨by rw[aiM,akl];omega,F5,d++[y],back R5,p.trans ((l.trans H).trans g5),(P.keep ((l.trans H).trans g5).f).app (.one r5),?_⟩;rw[a];cases WL.bB g tt ta (List.replicate k .no++f) (xs.drop (i+1))with|ok zs=>show Res.ok _=Res.ok _;rw[List.append_assoc];rfl|ex c|bad=>rfl
 .have ei:i=xs.length:=by omega
  subst ei;rw[ajs]at a;have a:WL.bB g tt ta (List.replicate k .no++f) xs=.ok (d++[]):=a;rw[aiS]at a;exact .inl ⟨wk.stop h n p.f K.rb.sub,λD hD=>fin d a z h n K.rb p P D hD⟩
theorem RS.r9{B' h l F H}(R:RS B h l F H)(r:B'.K=B.K)(q:B'.H0=H)(p:B'.F0=F):RS B' (WL.r9 h) l F H:=by
 have b:∀{i:Nat}{f:Sl},(WL.r9 h)[i]?=some f->(∀w,f=.va w->h[i]?=some (.va w))/\(∀ws,f≠.ow ws)/\(∀d c,f≠.od d c)/\(f=.ob->h[i]?=some .ob):=λ{i f}e=>by unfold WL.r9 at e;rw[aiK]at e;cases n:h[i]? with|none=>rw[n]at e;cases e|some s0=>rw[n]at e;have e:=aiB e;subst e;cases s0 with|no=>exact⟨λw z=>(by cases z),λws z=>(by cases z),λd c z=>(by cases z),λz=>by cases z⟩|va w=>exact⟨λt z=>by grind,λws z=>(by cases z),λd c z=>(by cases z),λz=>by cases z⟩|ow ws|od d c=>exact⟨λw z=>(by cases z),λws z=>(by cases z),λd c z=>(by cases z),λz=>by cases z⟩|ob=>exact⟨λw z=>(by cases z),λws z=>(by cases z),λd c z=>(by cases z),λz=>rfl⟩
 refine⟨⟨R.rb.sub,q▸av.refl _,p▸av.refl _,λa o e=>.inl (p▸e)⟩,by rw[<-R.len];simp[WL.r9],λi w e=>?_,λi ws e=>((b e).2.1 ws rfl).elim,λi j ws s a _ m=>((b m).2.1 ws rfl).elim,λi d c e=>((b e).2.2.1 d c rfl).elim,λi j d c _ _ a _ m=>((b m).2.2.1 d c rfl).elim,λi e=>R.dd.ob i ((b e).2.2.2 rfl)⟩;rw[r];exact R.va i w ((b e).1 w rfl)
def ze{B' f d c H'}(b:RB B' c H')(j:B'.H0=d)(h:B'.F0=f):Gr f d c H':=by subst j h;refine⟨b.fz0,b.base,λa o l m=>?_⟩;cases i:c a with|none=>rfl|some o2=>
 rcases b.fr a _ i with z|z;.rw[m]at z;cases z
 .rw[l]at z;cases z.1
def uT{B' l c f d h H'}(R:RS B l c f d)(b:RB B' h H')(j:B'.H0=d)(i:B'.F0=f):RB B h H':=by
 subst j i;refine⟨b.sub,R.rb.base.trans b.base,R.rb.fz0.trans b.fz0,λa o e=>?_⟩;rcases b.fr a o e with z|z;.exact R.rb.fr a o z
 .exact .inr ⟨R.rb.base.free z.1,z.2⟩
def xP(c5:X.stack=X.env::X.outer)(c6:X.env.frame=some X.env.locals)(hK:X.K=B.K)(hx:XW X B)(L:CompLook X scope)(hc:X.calm=true)(hk:ts.length=k)(hg:Keeps k g)(hi:PI X tg iter (loI B it))(c2:∀C i j G E A,A.K=X.K->XW ((X.comp scope C ts i j G).tri E []) A->PG ((X.comp scope C ts i j G).tri E []) tg (loG true A g))(c1:∀C i j G E A,A.K=X.K->XW ((X.comp scope C ts i j G).tri E []) A->zC ((X.comp scope C ts i j G).tri E []) ifs (loT A tt))(b7:∀C i j G E A,A.K=X.K->XW ((X.comp scope C ts i j G).tri E []) A->PE ((X.comp scope C ts i j G).tri E []) elt (lo A ta))(hs:∀x,foldedSetIterable iter X.env x=pure x:=by intro _;rfl):PE X (.ListComp elt [⟨tg,iter,ifs,0⟩] scope pos) (lo B (WL.aac k it g tt ta)):=by
 subst hk;intro pins s d H Q I⟨Y,F,R,q⟩;have S:CompScope X scope ts:=L.scope;have a2:closureFor scope X.env=pure (bJ X.env.cells scope.names []):=fL λy hy hf=>by obtain⟨c,hc⟩:=I.ok.has y.1 (S.free y hy hf);rw[hc];rfl
 have q:=Rq.bind (Rq.bind q);rw[eval_ListComp];refine ak9 (use:=none) rfl hs a2 S.kind S.names (thn (hi pins s d H (λJ H1=>∃F1 xs,RS B Y d F1 H1/\Gr F H F1 H1/\Walk B.K J xs F1/\Rq B Y F (if xs.length<=WL.lim then WL.bB g tt ta (List.replicate ts.length .no++WL.r9 Y) xs else .bad) λys=>∀v a u,RS B Y d u a->Gr F H u a->RW B.K u (.lst ys) v->Q v a) I ⟨Y,F,R,Rq.mono (av.refl _) q λxs P J H1 F1 R1 g1 wk=>⟨F1,xs,R1,g1,wk,?_⟩⟩) λxv s1 h1=>thn h1 λc8 s2 h2=>?_);.exact P
 obtain⟨it,G,tn,J,H2,e,U,T,b3,f2,F1,xs,R1,g1,wk,P⟩:=h2;subst e;by_cases a4:xs.length<=WL.lim
 .rw[aij a4]at P;let A:Bx:=⟨B.K,H2,F1,λc _ u=>B.xp c Y u,λc _ u b2 sm h=>B.mono c Y u b2 sm h⟩;let EC:Addr->Value->Shared->Prop:=λC v K=>∃(e Ce:Addr)(dx:DX)(fl:Value)(T:Option Addr)(M:L2.St)(a u:Hp)(c:VW),v=.ref e/\Thr (X.comp scope C ts s2 H2 G) [] M a K e Ce dx fl T/\RB A u a/\B.xp c Y u/\XR X.K u c Ce dx;have xw:∀C,XW ((X.comp scope C ts s2 H2 G).tri (EC C) []) A:=λC c4 M a K b4 u c R' xp e Ce dx T fl t xr=>⟨e,Ce,dx,fl,T,M,a,u,c,rfl,Thr.eP (X:=X.comp scope C ts s2 H2 G) (pins:=[]) t,R'.rb,xp,xr⟩;have hW:tf J (loG true A g) (loT A tt) (lo A ta) (List.replicate ts.length none++d) H2 Q:=by
   refine wN hg (R1.r9 rfl rfl rfl) wk a4 (λz=>by rw[z]at P;exact P) (λc z b4 u sm=>?_) λall z ys u a rb g' r D hD=>?_;.rw[z]at P;exact B.mono c Y F u (g1.f.trans sm) P
   .rw[z]at P;have N:RB B u a:=uT R1 rb rfl rfl;have R':=R1.grow g' N;exact P (.ref D) _ _ (R'.new hD _) (g1.trans (g'.trans (Gr.new (N.sub.free hD) hD _))) (by simp only[RW];exact⟨D,ys,rfl,SqL.of ah,r.keep (au (N.sub.free hD) _)⟩)
  refine kA (Q:=Q) (RR:=λb9 C=>compPost (model X.prog X.w) X.A X.xe none (EP X pins d Q) b9 C) S EC (λ_ _ _=>hc) (λC=>c2 C s2 H2 G (EC C) A hK.symm (xw C)) (λC=>c1 C s2 H2 G (EC C) A hK.symm (xw C)) (λC=>b7 C s2 H2 G (EC C) A hK.symm (xw C)) U T b3 f2 hW.c ?_ ?_;.intro C D a K m ys c0 hC hD hn b1 I' q;refine⟨m,hn,λh' a0=>?_⟩;have a1:C≠X.env.locals:=aiW (aiq U.lt hC);have b8:Inv X pins d (upd a D (.lst ys)) {K with heap:=h'}:=I'.turned (t':=K.toks) (it:=C) (λb o n e=>(a0.2 b n).trans e) (by rw[ae c0];exact b1) a1 (.inr (aip U.sz hC)) (λx c e=>by obtain⟨v,q⟩:=U.cell x c e;exact aix (aiq q.lt hC)) λp l=>aix (aiq (air (U.pin p l).1) hC);exact⟨.ref D,_,b8,rfl,q⟩
  .rintro C D _ K hC⟨e,Ce,dx,fl,T,M,a,u,c,rfl,t,rb,xp,xr⟩;have J':Inv X pins d a K:=U.ab3 (ch:=G) t.inv.os t.inv.base t.inv.hok t.inv.bare λb n=>⟨(f2 b n).2.2.2.1,(f2 b n).2.1,(f2 b n).2.2.2.2.1,(f2 b n).2.2.2.2.2⟩;obtain⟨m,a8,_⟩:=t.inv.loc;obtain⟨Z,es,ep,c3,a7⟩:=id a8;have a3:a C=none:=t.inv.free;have a1:C≠X.env.locals:=aiW (aiq U.lt hC);have a6:s2.heap.get? C=none:=ai5 hC;have fC:FpX X pins a C:=U.fpX a6 a3;have a5:∀v,Z.data≠.cell v:=λv z=>by obtain⟨hd,_⟩:=a7;rw[hd]at z;cases z
   have J2:Inv X (pins++[(C,Z)]) d a K:=J'.dH λp l=>by
    rcases ajj.mp l with l|l;.exact J'.pin p (aiy _ l)
    .obtain rfl:p=(C,Z):=by simpa using l
     exact⟨c3,a3,a1,fC.2.2.1,a5⟩
   have O:∀b,FpX (X.comp scope C ts s2 H2 G) [] a b->FpX X pins a b/\b≠C:=λb z=>by
    refine⟨?_,z.2.1⟩;rcases z.2.2.2.1 with n|n;.have f:=f2 b n;exact⟨z.1,f.2.1,f.2.2.1,f.2.2.2.1.imp (λw=>w) λw=>ai5 w,f.2.2.2.2.1,f.2.2.2.2.2⟩
    .exact U.fpX n z.1
   have b0:∀b,FpX X pins a b->b≠C->FpX X (pins++[(C,Z)]) a b:=λb z ne=>⟨z.1,z.2.1,z.2.2.1,z.2.2.2.1,z.2.2.2.2.1,λp l=>by
    rcases ajj.mp l with l|l;.exact z.2.2.2.2.2 p (aiP _ l)
    .rcases ajj.mp l with l|l;.exact z.2.2.2.2.2 p (aiy _ l)
     .obtain rfl:p=(C,Z):=by simpa using l
      exact aiu ne⟩;have te:=O e t.fe;have t1:Thr X (pins++[(C,Z)]) d a K e Ce dx fl T:=⟨J2,t.trc,b0 e te.1 te.2,λb n=>b0 b (O b (t.fT b n)).1 (O b (t.fT b n)).2⟩;refine t1.note c5 c6 λa9 T1 b5 t2=>?_;have pC:=(t2.inv.pin (C,Z) (by simp)).1;refine⟨m,⟨Z,es,ep,pC,a7⟩,λh' a0 c7 _=>?_⟩;have drop:∀b,FpX X (pins++[(C,Z)]) a b->FpX X pins a b/\b≠C:=λb z=>⟨⟨z.1,z.2.1,z.2.2.1,z.2.2.2.1,z.2.2.2.2.1,λp l=>by
    rcases ajj.mp l with l|l;.exact z.2.2.2.2.2 p (aiP _ l)
    .exact z.2.2.2.2.2 p (aiy _ (aiP _ l))⟩,λw=>z.2.2.2.2.2 (C,Z) (by simp) w.symm⟩;have J3:Inv X pins d a {K with heap:=a9}:=t2.inv.dH λp l=>t2.inv.pin p (aiy _ (aiP _ l));have J4:Inv X pins d a {K with heap:=h'}:=Inv.turned (s:={K with heap:=a9}) (t':=K.toks) (it:=C) J3 (λb o n e=>(a0.2 b n).trans e) a3 a1 (.inr (aip U.sz hC)) fC.2.2.2.2.1 fC.2.2.2.2.2;have t3:Thr X pins d a {K with heap:=h'} e Ce dx b5 (some T1):=⟨J4,t2.trc.keeps λb o n q=>(a0.2 b (by
    rcases n with rfl|n;.exact(drop _ t2.fe).2
    .exact(drop b (t2.fT b n)).2)).trans q,(drop e t2.fe).1,λb n=>(drop b (t2.fT b n)).1⟩;refine t3.pass λc9 b6 t4=>?_;have N:RB B u a:=uT R1 rb rfl rfl;exact hx pins d a _ Y u c (R1.grow (ze rb rfl rfl) N) xp e Ce dx (some T1) b6 t4 xr
 .rw[aik a4]at P;exact(P).elim
end
section
variable{X:Cx}{B:Bx}{K:W.Frag}{o e:Expr}{es:List Expr}{to ta:EF}{tas:AF}{pos apos cpos:Pos}
theorem wO:∀{ys:List VW}{x:VW}{n m:Nat},WL.okD n x=true->WL.fG m ys=true->((cA ys).countP λz=>PyData.eqv z (toD x))=WL.cnt x ys|[],_,_,_,_,_=>by simp[cA,WL.cnt]|y::ys,x,n,m,hx,a=>by cases m with|zero=>cases a|succ m=>have a:=aiY.mp a;have b:=gu m n y x a.1 hx;simp only[cA,List.countP_cons,WL.cnt,b,wO hx a.2]
def xM{x:Expr}(m:X.K=B.K)(hu:X.A.units+64<cLine)(U:PE X o (lo B to))(N:PA X [x] (loA B tas))(g:attributeBase o "count" X.env (eval o X.env)=eval o X.env:=by rfl)(h:((backTo cpos (starEach [x] X.env)).all (λx=>!x.1)&&(backToKw cpos (keywordEach [] X.env)).all (λx=>x.1.isSome)&&decide (([x]:List Expr).length+([]:List Keyword).length+(if([]:List Keyword).isEmpty then 0 else 1)<30))=true:=by rfl)(f:(apos.endLine==cpos.line)=true:=by rfl)(D:starEach [x] X.env=(false,eval x X.env)::starEach [] X.env:=by rfl)(d:BT X cpos []:=by rfl):PE X (.Call (.Attribute o "count" apos) [x] [] cpos) (lo B (WL.qU "list" WL.kg to tas)):=PE.imp (oN ajv PySem.F.slot_list_count PySem.F.type_list_count vy U N g h f D d) λI H Q l=>by obtain⟨j,F,R,q⟩:=l;have q:=Rq.bind q;refine⟨j,F,R,Rq.mono (av.refl _) q λw k v Y A y t p=>?_⟩;cases w with
 |lst ys=>have k:=Rq.bind (show Rq B j F ((tas j).bind λws=>WL.kg (.lst ys) ws) _ from k);have n:=p;simp only[RW]at p;obtain⟨a,E,rfl,J,ra⟩:=p;refine⟨.inl ⟨rfl,E,by rw[m];exact y.rb.sub.seq J⟩,j,A,y,Rq.mono t.f k λws i Z P S R2 r M=>?_⟩;cases em:WL.kg (.lst ys) ws with
  |bad=>rw[em]at i;exact i.elim|ex c=>
    unfold WL.kg at em;split at em;.split at em<;>cases em
    .cases em|ok z=>
    rw[em]at i;unfold WL.kg at em;split at em
    .rename_i e1 e2 G s O;cases O;split at em;.rename_i b;rw[aiw]at b;cases em;obtain⟨u,rfl,T⟩:=bM M;have sub:=R2.rb.sub;have C:=RW.isD 51 (.lst ys) (.ref a) b.2 ((n.keep r.f).keep sub);refine⟨50,u,toD s,cA ys,rfl,by rw[m];exact RW.isD 50 s u b.1 (T.keep sub),by rw[m];exact C,by omega,?_⟩;rw[wO b.1 b.2];exact i (.int _) P S R2 (t.trans r) (by simp[RW])
     .cases em
    .cases em
 |_=>exact(show False from k).elim
end
section
variable{X:Cx}{B:Bx}{ta:EF}
def tT{a:Expr}{p u pos b:Pos}(hK:X.K=B.K)(S:X.calm=true)(N:Gl X "list")(O:X.mg "list"=none)(D:Gl X "range")(C:X.mg "range"=none)(h:PE X a (lo B ta))(P:starEach [a] X.env=[(false,eval a X.env)]:=by rfl)(m:starEach [a] X.env=(false,eval a X.env)::starEach [] X.env:=by rfl)(Z:("list":Str)≠"__name__":=by decide)(y:(("list":Str)==("__debug__":Str))=false:=by decide)(G:starEach [Expr.Call (.Name "range" u) [a] [] b] X.env=(false,eval (.Call (.Name "range" u) [a] [] b) X.env)::starEach [] X.env:=by rfl)(k:BT X pos []:=by rfl):PE X (.Call (.Name "list" p) [.Call (.Name "range" u) [a] [] b] [] pos) (lo B (WL.eLR ta)):=PE.imp (iO (lQ S) N O boot_list (bg (vc D C (aa h ai m) P) df G) Z y G k) λt H Q w=>by
  obtain⟨d,F,R,q⟩:=w;have q:=Rq.bind q;have T:Rq B d F (WL.ag ta WL.az d) λws=>∀s f g,RS B d t g f->Gr F H g f->RWs B.K g ws s->∃j:Int,s=[.int j]/\-2^62<=j/\j<2^62/\∀r,f r=none->∃(J:Addr)(n:Nat),[V.ref r]=[V.ref J]/\upd f r (.rng 0 j) J=some (.rng 0 n)/\n<=1000/\∀l,upd f r (.rng 0 j) l=none->Q (.ref l) (upd (upd f r (.rng 0 j)) l (.lst ((List.range n).map λi=>V.int (i:Nat)))):=by show Rq B d F ((ta d).bind λx=>.ok [x]) _;cases e:ta d with
 |ok x=>
    rw[e]at q;intro s H1 F1 M U Y;obtain⟨v,rfl,I⟩:=bM Y
    cases x with|int j=>
     simp only[RW]at I;subst I;have q:Rq B d F (if 0<=j/\j<=1000 then Res.ok (WL.W.lst (WL.rng 0 j.toNat))else .bad) _:=q;by_cases K:0<=j/\j<=1000
     .rw[aij K]at q;refine⟨j,rfl,by omega,by omega,λr o=>⟨r,j.toNat,rfl,?_,by omega,λl E=>?_⟩⟩;.rw[ah];congr 2;omega
      .have z:=M.rb.sub.free o;have R2:=M.new o (.rng 0 j);have A:=R2.rb.sub.free E;refine q (.ref l) _ _ (R2.new E _) ((U.trans (Gr.new z o _)).trans (Gr.new A E _)) ?_;simp only[RW];refine⟨l,_,rfl,SqL.of ah,?_⟩;have go:∀(g:Hp)(is:List Nat),RWs B.K g (is.map λi=>WL.W.int (0+(i:Nat))) (is.map λi=>V.int (i:Nat)):=λg is=>by induction is with|nil=>simp[RWs]|cons i is ih=>simp only[aiC,RWs,RW];exact⟨_,_,rfl,by simp,ih⟩
       exact go _ _
     .rw[aik K]at q;exact q.elim|_=>exact(show False from q).elim
 |ex c=>rw[e]at q;exact q|bad=>rw[e]at q;exact q
  exact⟨d,F,R,T⟩
end
structure FunD(K:W.Frag)(x qual:Str)(st:Stmt)(f:Addr)(fd:FuncData)(dV:Value):Prop where ex:∃(oc:Value)(od:Option Addr)(kV doc pm:Value)(an:Option Addr)(cdv ct:Value)(osl:Array (Option Value)),fd=W.fnOf x qual (aV st) (aC st) (af st) dV kV doc pm an cdv ct/\K.lookup f=some ⟨oc,od,.func fd,osl⟩/\W.codeIn K cdv qual=true
section
variable{P:Program}{w:World}{K:W.Frag}{mg:Str->Option Value}{base:Heap}
def abL{x a st f j g od e h kV d i b ct}(l:K.lookup f=some ⟨j,od,.func (W.fnOf x a (aV st) (aC st) (af st) g kV d i e b ct),h⟩)(c:W.codeIn K b a=true):FunD K x a st f (W.fnOf x a (aV st) (aC st) (af st) g kV d i e b ct) g:=⟨j,od,kV,_,i,e,_,ct,_,rfl,l,c⟩
def FunD.binds{x a st f T j ps ds o items n}(F:FunD K x a st f j (.ref T))(q:K.lookup T=some o)(p:o.data=.seq items n)(h:∀kV b l i c ct d,(d++ds).length=ps.length->∃k,bindArgs (W.fnOf x a (aV st) (aC st) (af st) (.ref T) kV b l i c ct) ⟨d,[]⟩=seqItems? (.ref T)>>=k/\k (some items)=pure (ps.zip (d++ds))):Binds K j ps ds:=by refine aai F.ex λz od kV b l i c ct u g y m=>?_;subst g;intro s d e t;obtain⟨k,r,v⟩:=h _ _ _ _ _ _ _ t;exact BindsTo.of_defaults rfl (e _ _ q) p r v
def qX{x b st f Z dV N ps k m n}{Y:List VW->Res VW}(t)(Fn:FunD K x b st f Z dV)(S:FnScope N ps (af st))(hn:N.length=n)(g:ps.length=m)(J:WL.run n t=Y)(a3:ps.length<=N.length)(h:∀d A a s H E B,B.K=K->Room k (A.deeper (envOfC b (af st) s.heap.objs.size f d))->XW (cF (CXX P w) P w K mg base N b (af st) f d A a s H E) B->PassesOwn (model P w) (cF (CXX P w) P w K mg base N b (af st) f d A a s H E).A (cF (CXX P w) P w K mg base N b (af st) f d A a s H E).env (cF (CXX P w) P w K mg base N b (af st) f d A a s H E).xe->PSs (cF (CXX P w) P w K mg base N b (af st) f d A a s H E) (aC st) (loS B t)):FnOk P w K mg base (CXX P w) (k+1) f Z ps (spX K m Y):=by subst hn g J;refine aai Fn.ex λoc od kV a1 pm an d ct a2 z lk D=>?_;subst z;refine o8 lk D S (λvs H Q E p=>by refine jO p λF ws _ r R _=>?_;rw[<-r.length];exact R) λA a s H vs Q E hr _ p=>?_;refine jO p λF ws sm r R g=>?_;let X:Bx:=⟨K,H,F,λ_ _ _=>False,λ_ _ _ _ _ h=>h⟩;let O:Bx:=X.jS (λc _ u=>∀C l j i,av u i->RB X i j->XR K i c C l->E (.ref C) l j) λc σ u F2 s h C l j i o=>h C l j i (s.trans o);refine⟨_,h d A a s H E O rfl hr (λM a0 H1 s1 σ u c R1 xp e C l T fl t y=>f9 t (xp C l H1 u (av.refl _) (R1.rb.box rfl rfl) y)) ajH,_,F,(RS.start sm r (by omega)).box (B':=O) rfl rfl rfl,?_⟩;unfold WL.run at g;cases e:t _ with|rt w=>rw[e]at g;exact λv j i q o G=>g v j i o q.sub q.base q.fr G|nx σ'=>rw[e]at g;exact λU j i I o=>g .non j i o I.rb.sub I.rb.base I.rb.fr (by simp[RW])|bk σ'|ct σ'=>rw[e]at g;exact g.elim|ex c σ'=>rw[e]at g;exact λC l j i o q y=>g C l j i o q.sub q.base q.fr y|bad=>rw[e]at g;exact g.elim
end
section
variable{P:List Value->Prop}
def us0(h:P []):∀a,a.length=0->P a:=λa e=>by grind
def us1(h:∀c,P [c]):∀b,b.length=1->P b:=λb e=>by cases b with|nil=>cases e|cons a t=>exact us0 (P:=λt=>P _) (h a) t (aj2 e)
def us2(h:∀d c,P [d,c]):∀b,b.length=2->P b:=λb e=>by cases b with|nil=>cases e|cons a t=>exact us1 (P:=λt=>P _) (λc=>h a _) t (aj2 e)
def us3(h:∀f d c,P [f,d,c]):∀b,b.length=3->P b:=λb e=>by cases b with|nil=>cases e|cons a t=>exact us2 (P:=λt=>P _) (λd c=>h a _ _) t (aj2 e)
def us4(h:∀g f d c,P [g,f,d,c]):∀b,b.length=4->P b:=λb e=>by cases b with|nil=>cases e|cons a t=>exact us3 (P:=λt=>P _) (λf d c=>h a _ _ _) t (aj2 e)
def us5(h:∀i f d c g,P [i,f,d,c,g]):∀b,b.length=5->P b:=λb e=>by cases b with|nil=>cases e|cons a t=>exact us4 (P:=λt=>P _) (λf d c g=>h a _ _ _ _) t (aj2 e)
def us6(h:∀j g f c i d,P [j,g,f,c,i,d]):∀b,b.length=6->P b:=λb e=>by cases b with|nil=>cases e|cons a t=>exact us5 (P:=λt=>P _) (λg f c i d=>h a _ _ _ _ _) t (aj2 e)
end
def AtD(K:W.Frag)(nm:Str)(st:Stmt):Prop:=∃(f:Addr)(a:FuncData),Fun K nm nm st f a/\W.nsIn K mainGlobals nm=some (some (.ref f))
def AtE(K:W.Frag)(nm:Str)(st:Stmt)(ds:Array Value):Prop:=∃(f T:Addr)(b:FuncData)(d:Option Addr)(n:Nat)(a:Array (Option Value)),FunD K nm nm st f b (.ref T)/\W.nsIn K mainGlobals nm=some (some (.ref f))/\W.keepIn K (.ref f)=true/\K.lookup T=some ⟨.type "tuple",d,.seq ds n,a⟩
def Cal(P:Program)(w:World)(K:W.Frag)(c:Str->Option Value)(a:Heap)(CX:CXT)(k:Nat)(nm:Str)(ps:List Str)(ds:List Value)(sp:Sp):Prop:=∃(f:Addr)(b:FuncData),FnOk P w K c a CX k f b ps sp/\c nm=some (.ref f)/\W.keepIn K (.ref f)=true/\Binds K b ps []/\Binds K b ps ds
section
variable{P:Program}{w:World}{K:W.Frag}{mg:Str->Option Value}{base:Heap}{CX:CXT}{k:Nat}{nm:Str}{ps:List Str}{sp:Sp}{st:Stmt}
def agT{f i od g e kV d h b ct}(a:W.nsIn K mainGlobals nm=some (some (.ref f)))(l:K.lookup f=some ⟨i,od,.func (W.fnOf nm nm (aV st) (aC st) (af st) .none kV d h g b ct),e⟩)(c:W.codeIn K b nm=true)(q:W.keepIn K (.ref f)=true):AtD K nm st:=⟨f,_,vX l c q,a⟩
def aeR{f T j od h d g sl kV e i b ct ds n}(a:W.nsIn K mainGlobals nm=some (some (.ref f)))(l:K.lookup f=some ⟨j,od,.func (W.fnOf nm nm (aV st) (aC st) (af st) (.ref T) kV e i h b ct),g⟩)(c:W.codeIn K b nm=true)(q:W.keepIn K (.ref f)=true)(t:K.lookup T=some ⟨.type "tuple",d,.seq ds n,sl⟩):AtE K nm st ds:=⟨f,T,_,d,n,sl,abL l c,a,q,t⟩
def AtD.cal(D:AtD K nm st)(j:∀nm v,W.nsIn K mainGlobals nm=some (some v)->mg nm=some v)(g:∀kV c l i e ct d,d.length=ps.length->bindArgs (W.fnOf nm nm (aV st) (aC st) (af st) .none kV c l i e ct) ⟨d,[]⟩=pure (ps.zip d))(h:∀f b,Fun K nm nm st f b->FnOk P w K mg base CX k f b ps sp):Cal P w K mg base CX k nm ps [] sp:=by obtain⟨f,b,F,a⟩:=D;exact⟨f,b,h f _ F,j _ _ a,F.kp,F.binds g,F.binds g⟩
def AtE.cal{ds}(D:AtE K nm st ds.toArray)(m:∀nm v,W.nsIn K mainGlobals nm=some (some v)->mg nm=some v)(l:∀T kV b j i e ct c,(c++[]).length=ps.length->∃k,bindArgs (W.fnOf nm nm (aV st) (aC st) (af st) (.ref T) kV b j i e ct) ⟨c,[]⟩=seqItems? (.ref T)>>=k/\k (some ds.toArray)=pure (ps.zip (c++[])))(o:∀T kV b j i e ct c,(c++ds).length=ps.length->∃k,bindArgs (W.fnOf nm nm (aV st) (aC st) (af st) (.ref T) kV b j i e ct) ⟨c,[]⟩=seqItems? (.ref T)>>=k/\k (some ds.toArray)=pure (ps.zip (c++ds)))(h:∀f g p,FunD K nm nm st f g p->FnOk P w K mg base CX k f g ps sp):Cal P w K mg base CX k nm ps ds sp:=by obtain⟨f,T,g,d,n,r,F,a,q,t⟩:=D;exact⟨f,g,h f _ _ F,m _ _ a,q,F.binds t rfl (l T),F.binds t rfl (o T)⟩
end
section
variable{X:Cx}{B:Bx}{k j:Nat}{ps:List Str}{ds:List Value}{fn:List VW->Res VW}{x:Str}{p pos:Pos}{e:Expr}{es:List Expr}{tas:AF}{n:Nat}{dws:List VW}{dvs:List V}
def cl(d:B.K=X.K)(l:Room j X.A)(C:Cal X.prog X.w X.K X.mg X.base CX0 k x ps ds (spW X.K n fn))(r:PA X (e::es) (loA B tas))(i:k<=j:=by decide)(s:∀h ws,tas h=.ok ws->ws.length=n:=by repeat first|exact kE|apply fc)(g:Gl X x:=by rfl)(c:Dbg x:=by decide)(o:SE X e es:=by rfl)(a:BT X pos es:=by rfl):PE X (.Call (.Name x p) (e::es) [] pos) (lo B (WL.aS fn tas)):=by refine jB C λf t G m q b _=>?_;exact aaD d.symm G (l.mono i) g m q b r s c o a
def clX(g:B.K=X.K)(l:Room j X.A)(s:XW X B)(C:Cal X.prog X.w X.K X.mg X.base (CXX X.prog X.w) k x ps ds (spX X.K n fn))(r:PA X (e::es) (loA B tas))(i:k<=j:=by decide)(t:∀h ws,tas h=.ok ws->ws.length=n:=by repeat first|exact kE|apply fc)(d:Gl X x:=by rfl)(c:Dbg x:=by decide)(o:SE X e es:=by rfl)(a:BT X pos es:=by rfl):PE X (.Call (.Name x p) (e::es) [] pos) (lo B (WL.eM fn tas)):=by refine jB C λf u G m q b _=>?_;exact xQ g.symm s G (l.mono i) d m q b r t c o a
end
def aeP{a}{ps:List Str}(h:bindArgs a ⟨[],[]⟩=pure (ps.zip []))(us)(e:us.length=0):bindArgs a ⟨us,[]⟩=pure (ps.zip us):=by grind
def bind1{b}{ps:List Str}(h:∀a,bindArgs b ⟨[a],[]⟩=pure (ps.zip [a]))(us)(e:us.length=1):bindArgs b ⟨us,[]⟩=pure (ps.zip us):=us1 (P:=λus=>bindArgs _ ⟨us,[]⟩=pure _) h _ e
def xa{b}{ps:List Str}(h:∀a c,bindArgs b ⟨[a,c],[]⟩=pure (ps.zip [a,c]))(us)(e:us.length=2):bindArgs b ⟨us,[]⟩=pure (ps.zip us):=us2 (P:=λus=>bindArgs _ ⟨us,[]⟩=pure _) h _ e
def w9{b}{ps:List Str}(h:∀a d c,bindArgs b ⟨[a,d,c],[]⟩=pure (ps.zip [a,d,c]))(us)(e:us.length=3):bindArgs b ⟨us,[]⟩=pure (ps.zip us):=us3 (P:=λus=>bindArgs _ ⟨us,[]⟩=pure _) h _ e
def w6{c}{ps:List Str}(h:∀b f d a,bindArgs c ⟨[b,f,d,a],[]⟩=pure (ps.zip [b,f,d,a]))(us)(e:us.length=4):bindArgs c ⟨us,[]⟩=pure (ps.zip us):=us4 (P:=λus=>bindArgs _ ⟨us,[]⟩=pure _) h _ e
def aeO{c}{ps:List Str}(h:∀b f d a g,bindArgs c ⟨[b,f,d,a,g],[]⟩=pure (ps.zip [b,f,d,a,g]))(us)(e:us.length=5):bindArgs c ⟨us,[]⟩=pure (ps.zip us):=us5 (P:=λus=>bindArgs _ ⟨us,[]⟩=pure _) h _ e
def aeN{d}{ps:List Str}(h:∀c g f a i b,bindArgs d ⟨[c,g,f,a,i,b],[]⟩=pure (ps.zip [c,g,f,a,i,b]))(us)(e:us.length=6):bindArgs d ⟨us,[]⟩=pure (ps.zip us):=us6 (P:=λus=>bindArgs _ ⟨us,[]⟩=pure _) h _ e
def ud2{b T it ds}{ps:List Str}(h:∀a c,∃k,bindArgs b ⟨[a,c],[]⟩=seqItems? (.ref T)>>=k/\k (some it)=pure (ps.zip ([a,c]++ds)))(us)(e:us.length=2):∃k,bindArgs b ⟨us,[]⟩=seqItems? (.ref T)>>=k/\k (some it)=pure (ps.zip (us++ds)):=us2 (P:=λus=>∃k,bindArgs _ ⟨us,[]⟩=seqItems? _ >>=k/\k _=pure (ps.zip (us++ds))) h _ e
def ud3{b T it ds}{ps:List Str}(h:∀a d c,∃k,bindArgs b ⟨[a,d,c],[]⟩=seqItems? (.ref T)>>=k/\k (some it)=pure (ps.zip ([a,d,c]++ds)))(us)(e:us.length=3):∃k,bindArgs b ⟨us,[]⟩=seqItems? (.ref T)>>=k/\k (some it)=pure (ps.zip (us++ds)):=us3 (P:=λus=>∃k,bindArgs _ ⟨us,[]⟩=seqItems? _ >>=k/\k _=pure (ps.zip (us++ds))) h _ e
def cm{k}{A:Around}{a}(r:Room k (A.deeper a))(h:40<=k:=by first|decide|omega|exact aip (show 40<=_ by decide) (alc _ _)):A.handled.isNone=true:=r.calm h
section
variable{X:Cx}{B:Bx}{a b e:Expr}{ta tb:EF}{pos:Pos}{x:Str}
def va(i)(f:X.N[i]?=some x:=by rfl)(g:Vis X.env.scope x:=by first|exact Or.inl rfl|exact Or.inr (Or.inl rfl)|exact Or.inr (Or.inr rfl))(d:Dbg x:=by decide)(c:(x=="__classdict__")=false:=by decide):PE X (.Name x pos) (lo B (WL.ao i)):=acD (pv i f g d c)
def wx(d:B.K=X.K)(f:PE X a (lo B ta))(g:PE X b (lo B tb))(c:gC b:=by exact λ_ _=>rfl):PE X (.Subscript a b pos) (lo B (WL.eOp WL.oIx ta tb)):=acF wW (ag2 d.symm) f g c
def wk{v u w}(g:B.K=X.K)(d:X.mg x=some u)(r:RelV v u)(hw:∀F,RW X.K F w v)(c:Gl X x:=by rfl)(f:Dbg x:=by decide):PE X (.Name x pos) (lo B (WL.eC w)):=aaE (oM c d r f) (by grind)
def wty{T}(c:X.mg x=none)(g:bootBuiltins x=some (.type T))(f:Gl X x:=by rfl)(h:x≠"__name__":=by decide)(d:Dbg x:=by decide):PE X (.Name x pos) (lo B (WL.eC (.ty T))):=aaE (af5 f c g h d) λ_=>rfl
def wcl{nm:String}{C:Addr}(f:B.K=X.K)(h:X.mg x=some (.ref C))(c:ExcAt X.K nm C)(g:Gl X x:=by rfl)(d:Dbg x:=by decide):PE X (.Name x pos) (lo B (WL.eC (.cls nm))):=acI f.symm g h c d
def gx{i f a0 c}{ks vs:List VW}{p}(d:B.K=X.K)(j:X.mg x=some (.ref a0))(D:xl X.w X.K a0 c)(l:∀F k w,WL.lK k ks vs=some w->∃v,c.lookup k=some v/\RW X.K F w v)(g:PE X i (lo B f))(h:Gl X x:=by rfl)(m:gC i:=by exact λ_ _=>rfl)(n:Dbg x:=by decide):PE X (.Subscript (.Name x p) i pos) (lo B (WL.eOp WL.oIx (WL.eC (.dic ks vs)) f)):=acG d.symm (oM h j rfl n) D g (by rw[d];exact l) m
def we2(d:B.K=X.K)(f:X.A.units+64<cLine)(c:PE X a (lo B ta))(g:PE X b (lo B tb)):PT X (.Compare a [.Eq] [b] pos) (loT B (WL.tB (WL.eOp WL.oEq ta tb))):=bz calm_eq (w_eq d.symm f) c g (bh _)
def wn2(d:B.K=X.K)(f:X.A.units+64<cLine)(c:PE X a (lo B ta))(g:PE X b (lo B tb)):PT X (.Compare a [.NotEq] [b] pos) (loT B (WL.tB (WL.eOp WL.oNe ta tb))):=bz wV (ag1 d.symm f) c g (bh _)
def wS(i){c}(h:X.N.Nodup)(f:PE X e (lo B ta))(g:X.N[i]?=some x:=by rfl)(k:Loc X.env.scope x:=by first|exact Or.inl rfl|exact Or.inr rfl)(j:swapsWith e (some (.Name x c)) pos.line X.env=pure false:=by rfl)(d:FL X x:=by first|exact .inl rfl|exact .inr rfl|assumption):PS X (.Assign [.Name x c] e pos) (loS B (WL.dm i ta)):=acv h g k f j d
def gN(i){b}(d:X.N.Nodup:=by exact qD rfl)(f:X.N[i]?=some x:=by rfl)(g:Loc X.env.scope x:=by first|exact Or.inl rfl|exact Or.inr rfl)(c:FL X x:=by first|exact .inl rfl|exact .inr rfl|assumption):PG X (.Name x pos) (loG b B (WL.aX i)):=aaz (kX d f g c)
end
section
variable{X:Cx}{B:Bx}{r:List VW->Res VW}{tas:AF}{x:Str}{e:Expr}{es:List Expr}{p pos:Pos}{id:String}
def wB(cm:∀k c,r k≠.ex c)(j:bx X (.builtin id) (loN B.K r))(g:X.mg x=none)(i:bootBuiltins x=some (.builtin id))(h:PA X (e::es) (loA B tas))(f:Gl X x:=by rfl)(l:x≠"__name__":=by decide)(b:Dbg x:=by decide)(d:SE X e es:=by rfl)(a:BT X pos es:=by rfl):PE X (.Call (.Name x p) (e::es) [] pos) (lo B (WL.eBi r tas)):=acK cm (yz j f g i h l b d a)
def wT(cm:∀k c,r k≠.ex c)(j:bx X (.type id) (loN B.K r))(g:X.mg x=none)(i:bootBuiltins x=some (.type id))(h:PA X (e::es) (loA B tas))(f:Gl X x:=by rfl)(l:x≠"__name__":=by decide)(b:Dbg x:=by decide)(d:SE X e es:=by rfl)(a:BT X pos es:=by rfl):PE X (.Call (.Name x p) (e::es) [] pos) (lo B (WL.eBi r tas)):=acK cm (iO j f g i h l b d a)
def aeU(P:Program)(w:World)(K:W.Frag)(c:Str->Option Value)(a:Heap)(fI:Addr)(ps:List Str)(sp:Sp):Prop:=∃b:FuncData,FnOk P w K c a CX0 1 fI b ps sp/\Binds K b ps []
def rI{j C fI ps nm s c}(g:B.K=X.K)(m:Room j X.A)(v:XW X B)(f:X.calm=true)(i:X.mg x=some (.ref C))(q:ib X.K C (some (.ref fI)))(d:W.typeIn X.K (.ref fI)=some (.type "function"))(I:aeU X.prog X.w X.K X.mg X.base fI ps (spI C (WL.fieldsOf nm)))(k:ExcAt X.K nm C)(u:PA X (e::es) (loA B tas))(l:2<=j:=by decide)(h:Gl X x:=by rfl)(n:(WL.fieldsOf nm).length<=50:=by decide)(t:Dbg x:=by decide)(o:SE X e es:=by rfl)(a:BT X c es:=by rfl):PS X (.Raise (some (.Call (.Name x s) (e::es) [] c)) none pos) (loS B (WL.oF nm tas)):=by obtain⟨w,F,b⟩:=I;exact tP g.symm v f h i q d F (m.mono l) b k n u t o a
end
section
variable{K:W.Frag}
def ac2{a d n sl vs xs}(l:K.lookup a=some ⟨.type "tuple",d,.seq vs n,sl⟩)(b:Vals xs vs.toList)(c:vs.size<=sizeLine):∀H,SqT K H a xs:=λ_=>.inr ⟨_,_,_,l,rfl,rfl,c,b⟩
def aem{f a st j od g e kV d i b ct}(l:K.lookup f=some ⟨j,od,.func (W.fnOf "__init__" a (aV st) (aC st) (af st) .none kV d i g b ct),e⟩)(c:W.codeIn K b a=true)(q:W.keepIn K (.ref f)=true):∃h,Fun K "__init__" a st f h:=⟨_,vX l c q⟩
def vR{P w i b f a st ps sp}(D:∃c,Fun K "__init__" a st f c)(l:∀kV d k j g ct e,e.length=ps.length->bindArgs (W.fnOf "__init__" a (aV st) (aC st) (af st) .none kV d k j g ct) ⟨e,[]⟩=pure (ps.zip e))(h:∀c,Fun K "__init__" a st f c->FnOk P w K i b CX0 1 f c ps sp):aeU P w K i b f ps sp:=by obtain⟨c,F⟩:=D;exact⟨c,h _ F,F.binds l⟩
def zj{nm a}(b:W.nsIn K mainGlobals (Str.ofString nm)=some (some (.ref a)))(c:W.typeIn K (.ref a)=some (.type "type"))(d:(W.clsIn K a).map (·.mro)=some (.ref a::dj))(e:W.findIn K (.ref a) "__getattribute__"=some (some (.builtin "BaseException.__getattribute__")))(f:W.findIn K (.ref a) "__getattr__"=some none)(g:W.findIn K (.ref a) "__class__"=some (some (.builtin "object.__class__"))):W.nsIn K mainGlobals (Str.ofString (nm,a).1)=some (some (.ref (nm,a).2))/\Exc1 K a (nm,a).2:=⟨b,c,.inl ⟨d,rfl⟩,e,f,g⟩
def abO{nm a b}(h:W.nsIn K mainGlobals (Str.ofString nm)=some (some (.ref a)))(c:W.typeIn K (.ref a)=some (.type "type"))(d:(W.clsIn K a).map (·.mro)=some (.ref a::.ref b::dj))(e:W.findIn K (.ref a) "__getattribute__"=some (some (.builtin "BaseException.__getattribute__")))(f:W.findIn K (.ref a) "__getattr__"=some none)(g:W.findIn K (.ref a) "__class__"=some (some (.builtin "object.__class__"))):W.nsIn K mainGlobals (Str.ofString (nm,a).1)=some (some (.ref (nm,a).2))/\Exc1 K b (nm,a).2:=⟨h,c,.inr d,e,f,g⟩
end
def ad5{P w K d k q st n ps}(D:AtD K "law" st)(u:∀r v,W.nsIn K mainGlobals r=some (some v)->d r=some v)(j:d "law"=some (.ref n)){x}(z:∀kV g o p i ct v,bindArgs (W.fnOf "law" "law" (aV st) (aC st) (af st) .none kV g o p i ct) ⟨[v],[]⟩=pure [(x,v)])(h:∀b f c,Fun K "law" "law" st f c->FnOk P w K d b CX0 k f c ps (spW K 1 q))(A:∀m:List Int,m.length<=63->q [.lst (m.map .int)]=.ok (.bl true)):∃c,(∀s v,BindsTo s c ⟨[v],[]⟩ [(x,v)])/\∀b,K.In b->b.Ns mainGlobals d->FnOk P w K d b CX0 k n c ps (uF K):=by refine cH D λf c F a=>?_;have e:=j.symm.trans (u _ _ a);cases e;refine⟨c,λs v=>?_,λb _ _=>ad4 (h _ _ _ F) A⟩;refine aai F.ex λC od kV g o p i ct y l B t=>?_;subst l;exact .of_eq (z _ _ _ _ _ _ v)
noncomputable def noL(K:W.Frag):Bool:=K.all λp=>match p.2.cls with|.type n=>n !="list"|_=>true
theorem zX:∀{K:W.Frag},noL K=true->∀{a:Addr}{o:Obj},K.lookup a=some o->o.cls≠.type "list"
|[],_,a,o,e=>by simp at e|(b,u)::K,h,a,o,e=>by
 simp only[noL,akj,aiw]at h;rw[aiT]at e;split at e;.cases e;intro z;have c:=h.1;rw[z]at c;simp at c
 .exact zX h.2 e
def SqL.here{K:W.Frag}{F:Hp}{a:Addr}{vs:List V}(h:noL K=true)(q:SqL K F a vs):Rd F a (.lst vs):=by
 rcases q with q|⟨o,b,n,c,d,_⟩;.exact q
 .exact absurd d (zX h c)
noncomputable def one(a:Addr)(o:HO):Hp:=λb=>if b=a then some o else none
section
variable{X:Cx}{B:Bx}{σ:Ws}{σV:L2.St}{F H:Hp}
def RS.away(R:RS B σ σV F H){a:Addr}(o:HO)(p:F a=none)(k:B.H0 a=none)(y:∀(j:Nat)(ws:List VW),σ[j]?=some (Sl.ow ws)->σV[j]?≠some (some (V.ref a)))(f:∀(j:Nat)(g d:List VW),σ[j]?=some (Sl.od g d)->σV[j]?≠some (some (V.ref a))):RS B σ σV F (upd H a o):=by
 refine⟨⟨λb u e=>?_,λb u e=>?_,R.rb.fz0,R.rb.fr⟩,R.len,R.va,λj ws e=>?_,R.ap,R.dd.via rfl id (λ_ _ z=>.inl z) (λ_ _ _ e=>⟨e,rfl⟩) (av.refl _) λj g d b q m x i v l=>⟨v,l,by
  have c:b≠a:=λz=>by subst z;exact f j g d m x
  rw[ae c];exact i⟩⟩
 .have c:b≠a:=λz=>by subst z;rw[p]at e;cases e
  rw[ae c];exact R.rb.sub b u e
 .have c:b≠a:=λz=>by subst z;rw[k]at e;cases e
  rw[ae c];exact R.rb.base b u e
 .obtain⟨b,r,h,w,t,n,s⟩:=R.ow j ws e;have c:b≠a:=λz=>by subst z;exact y j ws e h
  exact⟨b,r,h,w,t,by rw[ae c];exact n,s⟩
variable{i:Nat}{as:List VW}{s1 s2:SF}{st:Stmt}{sts rest:List Stmt}{tt:TF}{pos:Pos}
end
end WS
namespace WS
open PySem PySem.Spec PyProof.Rows L2 PySem.Builtin PySem.Builtin.Str
open WL(Res Sl Ws EF TF AF LF GF GsF SF Out OX RF Rn AXF)
section
variable{X:Cx}{B:Bx}{K:W.Frag}
def afc(K:W.Frag)(r:VW->List VW->Res VW):V->List V->Hp->VK->Prop:=λx a H Q=>∃F w ws,av F H/\RW K F w x/\RWs K F ws a/\Eq1 F H K (r w ws) Q
def om{e g tas r}(cm:∀w ws c,r w ws≠.ex c)(h:PE X e (tBM X.K "str" (afc B.K r) (lo B g) (loA B tas))):PE X e (lo B (WL.qU "str" r g tas)):=PE.imp h λf H Q b=>by refine cH b λd F R q=>?_;have q:=Rq.bind q;refine cG d F R (Rq.mono (av.refl _) q λw j v y l u i o=>?_);cases w with
|str x=>subst o;refine⟨rfl,d,l,u,Rq.mono i.f (Rq.bind j) λws a A C p R2 k s=>?_⟩;refine n9 p (.str x) ws R2.rb.sub (by simp[RW]) s ?_;cases em:r (.str x) ws with|bad=>rw[em]at a;exact a.elim|ex c=>exact absurd em (cm _ _ c)|ok z=>rw[em]at a;exact λv t n ex m=>a v n t (ex.rs B d f R2) ((i.trans k).trans ex.gr) m
|_=>exact(j).elim
theorem l6:∀tk a,Vals (a.map V.str) (strsFrom tk a)|_,[]=>.nil|tk,y::a=>.cons ⟨tk,rfl⟩ (l6 _ _)
theorem hT{F}:∀a:List Str,RWs K F (a.map WL.W.str) (a.map V.str)|[]=>rfl|y::a=>by exact⟨_,_,rfl,rfl,hT _⟩
def sU:∀w ws c,WL.eK w ws≠.ex c:=λw ws c h=>by
 unfold WL.eK at h;split at h;.split at h<;>cases h
 .cases h
def yH:MtR X "str.split" (afc K WL.eK):=by intro f s J H x P v N Q I E j⟨F,w,ws,m,p,D,q⟩;cases e:WL.eK w ws with|bad|ex c=>rw[e]at q;exact q.elim|ok z=>
  rw[e]at q;unfold WL.eK at e;split at e
  .split at e
   .rename_i a b G;refine aak G λl M r=>?_;cases e;simp only[RW]at p;subst p;refine dh (bM D) λO k o=>?_;subst k;simp only[RW]at o;subst o;obtain⟨t,rfl⟩:=E;obtain⟨u,rfl,⟨t',rfl⟩⟩:=vals1 j;have g:(b.length==0)=false:=by simpa using l
    have A:a.length<=sizeLine:=aip r cM;have C:a.length+2<=sizeLine:=aip (Nat.add_le_add_right r 2) (by decide);have y:(partsBetween a (occurrences a b 0 a.length (a.length+1)) b.length).length<=sizeLine:=by have h:=StrLaws.occ_length_le a b 0 a.length (a.length+1);rw[length_partsBetween];omega
    have q:Eq1 F H K (.ok (.lst ((Txt.split a b).map .str))) Q:=by rw[SF.rH a b l M];exact q
    have one:Txt.split a b=[a]->∃v n,Inv X f J n _/\RelV v (.ref s.heap.objs.size)/\Q v n:=λh=>by rw[h]at q;exact(fg (.ref _) _ (I.afe (t':=s.toks) (ys:=[.str a]) (its:=[.str a t]) (.cons ⟨_,rfl⟩ .nil) (show 1<=sizeLine by decide)) rfl (aeB m q (hT [a]) I.fresh))
    cases d:decide (a.length<b.length)||decide (strKind a<strKind b)
    .cases i:(occurrences a b 0 a.length (a.length+1)).isEmpty;.refine ajA ajG (akp _ _ _) aj9 (aj3 _ _) (meets_str_split_sep a b t t' d g i A y) ?_;have h:Txt.split a b=partsBetween a _ b.length:=(aik (aky d)).trans (aik (aky i));rw[h]at q;exact fg (.ref _) _ (I.afe (l6 _ _) (by rw[aiR];exact y)) rfl (aeB m q (hT _) I.fresh)
     .refine ajA ajG (akp _ _ _) aj9 (aj3 _ _) (meets_str_split_not_found a b t t' d g i) ?_;exact one ((aik (aky d)).trans (aij i))
    .refine ajA ajG (akp _ _ _) aj9 (aj3 _ _) (meets_str_split_cannot_occur a b t t' d) ?_;exact one (aij d)
   .cases e
  .cases e
def pF:∀w ws c,WL.eT w ws≠.ex c:=λw ws c h=>by unfold WL.eT at h;split at h<;>cases h
def vw:MtR X "str.startswith" (afc K WL.eT):=by intro d s k H x o v j Q I i a⟨F,w,ws,l,g,h,q⟩;cases e:WL.eT w _ with|bad|ex c=>rw[e]at q;exact q.elim|ok z=>
 unfold WL.eT at e;split at e;.subst g;refine dh (bM h) λm b f=>?_;subst b;subst f;obtain⟨t,rfl⟩:=i;obtain⟨u,rfl,⟨n,rfl⟩⟩:=vals1 a;exact SC.startswith (fg (.bl _) H I rfl (eq1 q (rfl)))
 .cases e
def wU:∀w ws c,WL.o5 w ws≠.ex c:=λw ws c h=>by
 unfold WL.o5 at h;split at h;.split at h<;>cases h
 .cases h
def abp:MtR X "str.partition" (afc K WL.o5):=by intro g s O H x U v S Q I M l⟨F,w,ws,G,D,J,q⟩;cases e:WL.o5 w ws with|bad|ex c=>rw[e]at q;exact q.elim|ok z=>
  rw[e]at q;unfold WL.o5 at e;split at e
  .split at e
   .rename_i a b N;obtain⟨E,P⟩:=N;cases e;simp only[RW]at D;subst D;refine dh (bM J) λT m A=>?_;subst m;simp only[RW]at A;subst A;obtain⟨t,rfl⟩:=M;obtain⟨u,rfl,⟨t',rfl⟩⟩:=vals1 l;have j:(b.length==0)=false:=by simpa using E
    have R:a.length<=sizeLine:=aip P cM;have k:∀(d h f:Str)(n p C:Tok)(tk:Nat),Eq1 F H K _ Q->∃v y,Inv X g O y {s with heap:=s.heap.push {cls:=.type "tuple",data:=.seq _},toks:=tk}/\RelV v (.ref s.heap.objs.size)/\Q v y:=λd h f n p C tk q=>by refine(fg (.ref _) _ (I.laid (t':=tk) (o:=.tup [.str d,.str h,.str f]) (λb ob q=>aih _ q) (aim _) ?_) rfl (afi G q (vs:=[.str d,.str h,.str f]) (hT [d,h,f]) I.fresh));exact⟨show 3<=sizeLine by decide,[.str d n,.str h p,.str f C],.cons ⟨_,rfl⟩ (.cons ⟨_,rfl⟩ (.cons ⟨_,rfl⟩ .nil)),_,ais _ rfl,rfl,0,rfl⟩
    refine ajA akN (akp _ _ _) PySem.F.entry_str_partition (PySem.F.args_str_partition_2 _ _) (meets_str_partition a b t t' j R) ?_;unfold Txt.partition at q;revert q;cases occurrences a b 0 a.length 1 with|nil|cons i r=>intro q;exact k _ _ _ _ _ _ _ q
   .cases e
  .cases e
def ahV(K:W.Frag):V->Option Int->Option Int->Hp->VK->Prop:=λx l h H Q=>∃F wx i,av F H/\RW K F wx x/\l=some i/\h=none/\Eq1 F H K (WL.oW wx (.int i)) Q
def ac5:SlR X (ahV K):=by intro d s A H x v o w lo y p Q I m h g f⟨F,wx,i,C,r,n,b,q⟩;subst n b;cases g with|int i ti=>cases f;cases e:WL.oW wx (.int i)with|bad|ex c=>rw[e]at q;exact q.elim|ok z=>rw[e]at q;cases wx with
 |str a=>
   subst r;obtain⟨t,rfl⟩:=m;unfold WL.oW at e;dsimp only at e;split at e;.rename_i b;cases e;refine⟨"str",_,PySem.F.slot_str_getitem.lookup,akp _ _ _,wpAny_getItem_str_slice (l:=some (i,ti)) (u:=none) (st:=none) h rfl ?_⟩;exact post_val_or_str ⟨aip (Txt.slice_le a _ _) (aip b.2 cM),λj k=>fg (.str (Txt.slice a (some i) none)) H (I.tok k) ⟨j,rfl⟩ (eq1 q (by simp[RW]))⟩
   .cases e|_=>cases e
def aaA{a b ta tb m pos}(r:PE X a (lo B ta))(C:PE X b (lo B tb)):PE X (.Subscript a (.Slice (some b) none none m) pos) (lo B (WL.eOp WL.oW ta tb)):=PE.imp (qo (ac5 (K:=B.K)) r (u1 C) u2) λj H Q f=>by refine cH f λg F R q=>?_;have q:=Rq.bind q;refine cG g F R (Rq.mono (av.refl _) q λx h v D o A l t=>?_);have h:=Rq.bind h;refine cG g o A (Rq.mono l.f h λy e G I u R2 k z=>?_);cases y with
 |int i=>refine⟨i,z,u,x,i,R2.rb.sub,t.keep k.f,rfl,rfl,?_⟩;cases d:WL.oW x (.int i)with
  |ok w=>rw[d]at e;exact λv p s E n=>e v s p (E.rs B g j R2) ((l.trans k).trans E.gr) n|ex c=>
    unfold WL.oW at d;split at d;.split at d<;>cases d
    .cases d|bad=>rw[d]at e;exact e
 |_=>cases x<;>exact(e).elim
end
end WS
namespace L2
open PySem PySem.Spec PyProof.Rows
noncomputable def afq(lo:Int)(n:Nat):It:=⟨λi _=>i<n,λi H x a=>a=H/\x=.int (lo+(i:Nat)*2),λi _=>n<=i⟩
def oq{P:Program}{w:World}{K:W.Frag}{tg:Expr}(it:Addr)(lo:Int)(n:Nat):Turn P w K tg (afq lo n) [it] it λi h=>IsRangeIter h it (lo+(i:Nat)*2) ((n:Int)-(i:Nat)) 2 where
 mem:=by simp
 obj:=λi h st b hb=>by
  have e:b=it:=by simpa using hb
  subst e;exact⟨_,st,λv z=>by have z':Data.fields _=Data.cell v:=z;cases z'⟩
 keep:=λi h h' st k=>k it (by simp) _ st;item:=by intro X hP hw hK i pins s σ H E hc I hf st hg;subst hP hw hK;obtain⟨f0,f1,f2,f3,f4,f5⟩:=hf it (by simp);have W:=Walks.range (prog:=X.prog) (w:=X.w) (I.ok.hd hc) it lo 2 n;refine W.item i s _ _ hg st λv h' tk hv st' kk=>?_;obtain⟨t,rfl⟩:=hv;have I1:Inv X pins σ H {s with heap:=h',toks:=tk}:=I.turned (λb o hb e=>kk b o (by simpa using hb) e) f0 f1 f3 f4 f5;exact⟨_,rfl,sy (s:={s with heap:=h',toks:=tk}) (n:="range_iterator") st' rfl rfl (by decide) ⟨.int (lo+i*2),H,I1,⟨t,rfl⟩,⟨rfl,rfl⟩,st',λb hb=>(hf b hb).1⟩⟩
 done:=by intro X hP hw hK i pins s σ H E hc I hf st hg;subst hP hw hK;obtain⟨f0,f1,f2,f3,f4,f5⟩:=hf it (by simp);exact wpAny_pyNext_range_end (I.ok.hd hc) st (by have:n<=i:=hg;omega) λh' eb=>⟨rfl,I.turned (t':=s.toks) (λb o hb e=>eb b o hb e) f0 f1 f3 f4 f5⟩
 self:=λ_ _ _ _ _ st h=>wpAny_pyIter_rangeiter st h
def fA(a b):Builtin.Range.rangeSize a b 2=((b-a+1)/2).toNat:=by unfold Builtin.Range.rangeSize;split<;>omega
def uG{a b}(e:-2^60<=a)(d:a<2^60)(f:-2^60<=b)(c:b<2^60):Builtin.Range.small a b 2=true:=by unfold Builtin.Range.small;rw[fA];simp only[Builtin.Range.rangeFitsLong,aiw,Bool.or_eq_true,ake,show(2:Int)>0 by decide,aj5];omega
section
variable{X:Cx}{tg:Expr}
def uU{pins}{c:St}{H s R E lo a t u v tk}(I:Inv X pins c H s)(h:-2^60<=lo)(k:lo<2^60)(i:-2^60<=a)(g:a<2^60)(q:R (afq lo ((a-lo+1)/2).toNat) H):wpAny (model X.prog X.w) X.A (pyIter (.ref s.heap.objs.size)) (PIE X pins c tg R) E {s with heap:=s.heap.push {cls:=.type "range",data:=.fields #[.int lo t,.int a u,.int 2 v]},toks:=tk}:=by
 refine wpAny_pyIter_range (IsRange.new ..) (uG h k i g) ?_;have d:Inv X pins c H {s with heap:=s.heap.push {cls:=.type "range",data:=.fields #[.int lo t,.int a u,.int 2 v]},toks:=tk}:=I.kept λb o e=>aih _ e;refine⟨_,_,_,_,H,rfl,d.kept (t':=tk) λb o e=>aih _ e,oq _ lo ((a-lo+1)/2).toNat,?_,λb l=>?_,q⟩
 .have j:lo+((0:Nat):Int)*2=lo:=by simp
  have f:((((a-lo+1)/2).toNat:Nat):Int)-((0:Nat):Int)=Builtin.Range.rangeSize lo a 2:=by rw[fA];simp
  rw[j,f];exact ais _ rfl
 .have e:b=(s.heap.push {cls:=.type "range",data:=.fields #[.int lo t,.int a u,.int 2 v]}).objs.size:=by simpa using l
  subst e;exact d.ack (aim _) (d.hok.fresh (aim _))
def y6(ta:TA):TI:=λa H R=>ta a H λb c=>∃i j:Int,b=[.int i,.int j,.int 2]/\(-2^60<=i/\i<2^60/\-2^60<=j/\j<2^60)/\R (afq i ((j-i+1)/2).toNat) c
def u5{a b c ta p pos}(l:Gl X "range")(o:X.mg "range"=none)(z:PA X [a,b,c] ta)(C:starEach [a,b,c] X.env=[(false,eval a X.env),(false,eval b X.env),(false,eval c X.env)]:=by rfl)(g:starEach [b,c] X.env=[(false,eval b X.env),(false,eval c X.env)]:=by rfl):PI X tg (.Call (.Name "range" p) [a,b,c] [] pos) (y6 ta):=by intro k s n H R I h;refine Call_ (gQ I l o alo (ai4 (thn (z _ _ s n H _ I h) λB E f=>?_) (by grind) (by rw[g];rfl)));obtain⟨D,A,u,y,d⟩:=f;obtain⟨i,j,e,⟨d,w,m,x⟩,q⟩:=d;subst e;cases y with|cons r rr=>cases rr with|cons r' rr=>cases rr with|cons r'' rr=>cases rr;obtain⟨t,rfl⟩:=r;obtain⟨G,rfl⟩:=r';obtain⟨v,rfl⟩:=r'';exact call_range_3 (by decide) (uU u d w m x q) (Or.inl (PyProof.noPylong_small (by omega)))
end
end L2
namespace WS
open PySem PySem.Spec PyProof.Rows L2 PySem.Builtin PySem.Builtin.Str
open WL(Res Sl Ws EF TF AF LF GF GsF SF Out OX RF Rn AXF)
section
variable{X:Cx}{B:Bx}{K:W.Frag}{tg:Expr}{ta tb:EF}
def tX{lo n F}:Walk K (afq lo n) (WL.acg lo 2 n) F:=by
 refine⟨λi x e b f j d=>?_,λb f j d=>by show n<=(WL.acg _ 2 n).length;simp[WL.acg]⟩;have c:=by have:=(ail.mp e).1;simpa[WL.acg]using this
 simp [WL.acg,List.getElem?_range c]at e;cases e;refine⟨c,λu k a=>?_⟩;obtain⟨h,g⟩:=a;subst h g;exact⟨b,Ext.refl _ _,rfl⟩
def aax{a c b p pos d}(r:Gl X "range")(s:X.mg "range"=none)(h:PE X a (lo B ta))(h':PE X c (lo B tb))(t:starEach [a,c,.Constant (.int 2) b d] X.env=[(false,eval a X.env),(false,eval c X.env),(false,eval (.Constant (.int 2) b d) X.env)]:=by rfl)(f:starEach [c,.Constant (.int 2) b d] X.env=[(false,eval c X.env),(false,eval (.Constant (.int 2) b d) X.env)]:=by rfl)(D:starEach [a,c,.Constant (.int 2) b d] X.env=(false,eval a X.env)::starEach [c,.Constant (.int 2) b d] X.env:=by rfl)(M:starEach [c,.Constant (.int 2) b d] X.env=(false,eval c X.env)::starEach [.Constant (.int 2) b d] X.env:=by rfl)(E:starEach [.Constant (.int 2) b d] X.env=(false,eval (.Constant (.int 2) b d) X.env)::starEach [] X.env:=by rfl):PI X tg (.Call (.Name "range" p) [a,c,.Constant (.int 2) b d] [] pos) (loI B (WL.y6 ta tb)):=PI.imp (u5 r s (bg h (bg h' (bg zT df E) M) D) t f) λu H R j=>by refine cH j λl F w q=>?_;have q:=Rq.bind q;refine cG l F w (Rq.mono (av.refl _) q λx m v O o N n G=>?_);have m:=Rq.bind m;refine cG l o N (Rq.mono n.f m λy e P C I R2 A z=>?_);cases x with
|int i=>cases y with|int k=>
   have e:Rq B l F (if -2^60<=i/\i<2^60/\-2^60<=k/\k<2^60 then Res.ok _ else .bad) _:=e;subst G z;by_cases g:-2^60<=i/\i<2^60/\-2^60<=k/\k<2^60;.rw[aij g]at e;exact fg i k rfl g ((show∀J Q S,_ from e) _ C I R2 (n.trans A) tX)
   .rw[aik g]at e;exact(show False from e).elim|_=>exact(show False from e).elim
|_=>exact(show False from e).elim
end
section
variable{X:Cx}{B:Bx}{K:W.Frag}{o x:Expr}{to:EF}{tas:AF}{apos cpos:Pos}
def g9(h:X.K=B.K)(e:PE X o (lo B to))(g:PA X [x] (loA B tas))(c:attributeBase o "split" X.env (eval o X.env)=eval o X.env:=by rfl)(d:((backTo cpos (starEach [x] X.env)).all (λx=>!x.1)&&(backToKw cpos (keywordEach [] X.env)).all (λx=>x.1.isSome)&&decide ([x].length+([]:List Keyword).length+(if([]:List Keyword).isEmpty then 0 else 1)<30))=true:=by rfl)(b:(apos.endLine==cpos.line)=true:=by rfl)(f:starEach [x] X.env=(false,eval x X.env)::starEach [] X.env:=by rfl)(a:BT X cpos []:=by rfl):PE X (.Call (.Attribute o "split" apos) [x] [] cpos) (lo B (WL.qU "str" WL.eK to tas)):=om sU (oN akh ajG PySem.F.type_str_split yH e g c d b f a)
def tQ(h:X.K=B.K)(e:PE X o (lo B to))(g:PA X [x] (loA B tas))(c:attributeBase o "startswith" X.env (eval o X.env)=eval o X.env:=by rfl)(d:((backTo cpos (starEach [x] X.env)).all (λx=>!x.1)&&(backToKw cpos (keywordEach [] X.env)).all (λx=>x.1.isSome)&&decide ([x].length+([]:List Keyword).length+(if([]:List Keyword).isEmpty then 0 else 1)<30))=true:=by rfl)(b:(apos.endLine==cpos.line)=true:=by rfl)(f:starEach [x] X.env=(false,eval x X.env)::starEach [] X.env:=by rfl)(a:BT X cpos []:=by rfl):PE X (.Call (.Attribute o "startswith" apos) [x] [] cpos) (lo B (WL.qU "str" WL.eT to tas)):=om pF (oN akh PySem.F.slot_str_startswith PySem.F.type_str_startswith vw e g c d b f a)
def aav(h:X.K=B.K)(e:PE X o (lo B to))(g:PA X [x] (loA B tas))(c:attributeBase o "partition" X.env (eval o X.env)=eval o X.env:=by rfl)(d:((backTo cpos (starEach [x] X.env)).all (λx=>!x.1)&&(backToKw cpos (keywordEach [] X.env)).all (λx=>x.1.isSome)&&decide ([x].length+([]:List Keyword).length+(if([]:List Keyword).isEmpty then 0 else 1)<30))=true:=by rfl)(b:(apos.endLine==cpos.line)=true:=by rfl)(f:starEach [x] X.env=(false,eval x X.env)::starEach [] X.env:=by rfl)(a:BT X cpos []:=by rfl):PE X (.Call (.Attribute o "partition" apos) [x] [] cpos) (lo B (WL.qU "str" WL.o5 to tas)):=om wU (oN akh akN PySem.F.type_str_partition abp e g c d b f a)
end
section
variable{X:Cx}{B:Bx}
def int_text{i:Int}(h:i.natAbs<1000):(Str.ofString (toString i)).length<=10/\i.natAbs.log2<1920:=by
 have a:((List.range 1000).all λn=>Nat.ble (Str.ofString (toString (Int.ofNat n))).length 10&&Nat.ble (Str.ofString (toString (Int.neg (Int.ofNat n)))).length 10)=true:=by decide+kernel
 have k:=ai6.mp a i.natAbs (aj4.mpr h);rw[aiw,akV,akV]at k;refine⟨?_,?_⟩
 .rcases Int.natAbs_eq i with e|e;.rw[e];exact k.1
  .rw[e];exact k.2
 .by_cases z:i.natAbs=0;.rw[z];decide
  .rw[Nat.log2_lt z];exact aiq h (by decide)
def zE{pins:List (Addr×Obj)}{a:L2.St}{H:Hp}{s:Shared}(I:Inv X pins a H s){h':Heap}(k:∀b o,s.heap.get? b=some o->h'.get? b=some o):Inv X pins a H {s with heap:=h'}:=I.adg (ch:=[]) (λb c=>absurd c ajM) (λb o q _ _=>k b o q) λb o q _ _=>⟨o.slots,k b o q⟩
def ahH(K:W.Frag)(U:Nat)(ta:TE):TE:=λf H Q=>ta f H λx e=>(∃y:Str,x=.str y/\(∀c∈y.cps.toList,c<16^8)/\y.length<=5000/\∀z:Str,z.length<=10*y.length+2->Q (.str z) e)\/(∃n d a,x=.ref a/\IsD K e n x d/\d.showable=true/\d.hasDict=false/\U+n<cLine/\d.shown.length<=80000/\Q (.str d.shown) e)\/∃z:Str,((∃i:Int,x=.int i/\i.natAbs.log2<1920/\z=toString i)\/x=.non/\z="None"\/∃b:Bool,x=.bl b/\z=if b then("True":Str)else"False")/\z.length<=1000/\Q (.str z) e
def adv{e:Expr}{pos:Pos}{ta:TE}(r:X.A.guards=some [])(w:PE X e ta):PE X (.FormattedValue e 114 none pos) (ahH X.K X.A.units ta):=by
 intro k s E H Q I h;refine wpAny_FormattedValue_repr (thn (w k s E H _ I h) λu P p=>?_);obtain⟨x,j,g,l,q⟩:=p;rcases q with⟨y,ex,A,U,q⟩|⟨n,d,a,ex,M,v,C,T,f,q⟩|⟨z,(⟨i,ex,D,m⟩|⟨ex,m⟩|⟨b,ex,m⟩),f,q⟩;.subst ex;obtain⟨t,rfl⟩:=l;have f:=StrLaws.reprText_len y A;have c:(reprText y).length<=sizeLine:=aip f (aip (show 10*y.length+2<=50002 by omega) (by decide));exact pyReprObj_str (ai2 (λo tk=>⟨.str (reprText y),j,(g.tok _).tok tk,⟨_,rfl⟩,q _ f⟩) c) c
 .subst ex;cases show u=Value.ref a from l;obtain⟨⟨N,K⟩,R,O⟩:=g.reads n d (.ref a) _ M rfl;have c:d.shown.length<=sizeLine:=aip f (by decide);refine pyReprObj_of_reads K v (λz=>by rw[C]at z;cases z) r (by omega) (λ_ _ q=>q) (λS u tk G=>?_) c;exact ai2 (λo J=>⟨.str d.shown,j,((zE g G).tok _).tok _,⟨_,rfl⟩,q⟩) c
 .subst ex m;obtain⟨t,rfl⟩:=l;exact pyReprObj_int D (ai2 (λo tk=>⟨.str (toString i),j,(g.tok _).tok tk,⟨_,rfl⟩,q⟩) (aip f (by decide)))
 .subst ex m;cases show u=Value.none from l;exact pyReprObj_none (ai2 (λo tk=>⟨.str "None",j,(g.tok _).tok tk,⟨_,rfl⟩,q⟩) (aip f (by decide)))
 .subst ex m;cases show u=Value.bool b from l;exact pyReprObj_bool (ai2 (λo tk=>⟨.str _,j,(g.tok _).tok tk,⟨_,rfl⟩,q⟩) (aip f (by decide)))
theorem dw:∀l:List PyData,(PyData.shownAll l).length=l.length|[]=>rfl|x::l=>by simp only[PyData.shownAll,ait,dw l]
theorem yb:∀{ws:List VW}{n k:Nat},WL.shL ws=some n->WL.fG (k+1) ws=true->PyData.showableAll (cA ws)=true/\PyData.hasDictAll (cA ws)=false/\((PyData.shownAll (cA ws)).map (·.length)).sum+2*(cA ws).length+3<=n
|[],n,k,e,_=>by cases e;exact⟨rfl,rfl,aim _⟩|.str x::ws,n,k,e,o=>by
 obtain⟨m,em,rfl⟩:=aiL.mp (show(WL.shL ws).map (.+(10*x.length+4))=some n from e);have o:=aiY.mp o;obtain⟨b,d,j⟩:=yb em o.2;have l:∀c∈x.cps.toList,c<16^8:=λc g=>by
  have:=Array.all_eq_true_iff_forall_mem.mp o.1 c (by simpa using g);have h:c<1114112:=by simpa using this
  exact Nat.lt_trans h (by decide)
 have p:=StrLaws.reprText_len x l;refine⟨by simpa[cA,rD,rE,PyData.showableAll,PyData.showable]using b,by simpa[cA,rD,rE,PyData.hasDictAll,PyData.hasDict]using d,?_⟩;simp only[cA,rD,rE,PyData.shownAll,PyData.shown,aiC,List.sum_cons,ait];omega|.int i::ws,n,k,e,o=>by
 have e:(if i.natAbs<1000 then(WL.shL ws).map (.+12)else none)=some n:=e;by_cases a:i.natAbs<1000;.rw[aij a]at e;obtain⟨m,em,rfl⟩:=aiL.mp e;have o:=aiY.mp o;obtain⟨b,d,j⟩:=yb em o.2;have f:=int_text a;refine⟨by simpa[cA,rD,rE,PyData.showableAll,PyData.showable,f.2]using b,by simpa[cA,rD,rE,PyData.hasDictAll,PyData.hasDict]using d,?_⟩;simp only[cA,rD,rE,PyData.shownAll,PyData.shown,aiC,List.sum_cons,ait];have:=f.1;omega
 .rw[aik a]at e;cases e|.non::_,_,_,e,_=>by cases e|.bl _::_,_,_,e,_=>by cases e|.ty _::_,_,_,e,_=>by cases e|.tup _::_,_,_,e,_=>by cases e|.lst _::_,_,_,e,_=>by cases e|.dic _ _::_,_,_,e,_=>by cases e|.cls _::_,_,_,e,_=>by cases e|.exc _ _::_,_,_,e,_=>by cases e|.ins _ _::_,_,_,e,_=>by cases e
inductive PJ(X:Cx)(B:Bx):List Expr->AF->Prop where|nil:PJ X B [] WL.az|c{x:Str}{j:Nat}{pos:Pos}{es:List Expr}{t:AF}(h:PJ X B es t)(hl:x.length<=1000):PJ X B (.Constant (.str x) j pos::es) t|f{e:Expr}{pos:Pos}{es:List Expr}{ta:EF}{t:AF}(he:PE X e (lo B ta))(h:PJ X B es t):PJ X B (.FormattedValue e (-1) none pos::es) (WL.ag (WL.eFf ta) t)|r{e:Expr}{pos:Pos}{es:List Expr}{ta:EF}{t:AF}(hK:X.K=B.K)(hu:X.A.units+64<cLine)(hg:X.A.guards=some [])(he:PE X e (lo B ta))(h:PJ X B es t):PJ X B (.FormattedValue e 114 none pos::es) (WL.ag (WL.eFr ta) t)
def acA:PJ X B [] WL.az:=.nil
def ag0{x:Str}{j:Nat}{pos:Pos}{es:List Expr}{t:AF}(h:PJ X B es t)(a:x.length<=1000:=by decide+kernel):PJ X B (.Constant (.str x) j pos::es) t:=.c h a
def ahD{e:Expr}{pos:Pos}{es:List Expr}{ta:EF}{t:AF}(a:PE X e (lo B ta))(h:PJ X B es t):PJ X B (.FormattedValue e (-1) none pos::es) (WL.ag (WL.eFf ta) t):=.f a h
def dW(x y:Str):(x++y).length=x.length+y.length:=by show(x.cps++y.cps).size=_;rw[Array.size_append];rfl
def fy{n m:Nat}{a:Str}(h:a.length<=100000*n)(b:n+m<=50):a.length<=sizeLine:=aip h (aip (Nat.mul_le_mul_left 100000 (show n<=50 by omega)) (by decide))
theorem gb:∀{es:List Expr}{t:AF},PJ X B es t->∃ts,Paired (PE X) es ts/\∀(g:Ws)(l:L2.St)(F H:Hp)(Q:VK)(e:Str)(n:Nat),RS B g l F H->n+es.length<=50->e.length<=100000*n->Rq B g F (t g) (λ_=>∀p r(y:Str),RS B g l r p->Gr F H r p->Q (.str y) p)->tJ ts e l H Q
|_,_,.nil=>⟨[],.nil,λg l F H Q e n R P Z q=>⟨fy Z P,(show∀p r(y:Str),_ from q) H F e R Gr.refl⟩⟩|_,_,.c (x:=x) (es:=es) h hl=>by
  obtain⟨ts,U,J⟩:=gb h;refine⟨_,.cons mK U,λg l F H Q e n R P Z q=>?_⟩;have j:n+1+es.length<=50:=by simp at P;omega
  have d:(e++x).length<=100000*(n+1):=by rw[dW];omega
  exact⟨x,rfl,fy d j,J g l F H Q (e++x) (n+1) R j d q⟩|_,_,.f (es:=es) (ta:=ta) (t:=t) he h=>by
  obtain⟨ts,U,J⟩:=gb h;refine⟨_,.cons (vf he) U,λg l F H Q e n R P Z q=>?_⟩;have j:n+1+es.length<=50:=by simp at P;omega
  have q:=Rq.bind (Rq.bind q);refine⟨g,F,R,Rq.mono (av.refl _) q λx f v M O K w s=>?_⟩;have rest:∀y:Str,y.length<=1000->(∃z,WL.ahq x=.ok z)->∃y',V.str y=.str y'/\(e++y').length<=sizeLine/\tJ ts (e++y') l M Q:=λy hy⟨z,N⟩=>by
   rw[N]at f;have d:(e++y).length<=100000*(n+1):=by rw[dW];omega
   refine⟨y,rfl,fy d j,J g l O M Q (e++y) (n+1) K j d ?_⟩;exact Rq.mono w.f (Rq.bind (show Rq B g F ((t g).bind λC=>.ok (z::C)) _ from f)) λws k p r A R2 D=>(show∀p r(y:Str),_ from k) p r A R2 (w.trans D)
  cases x with|int i=>
   simp only[RW]at s;subst s;by_cases o:i.natAbs<1000;.have S:=int_text o;exact .inl ⟨i,rfl,S.2,rest (toString i) (aip S.1 (by decide)) ⟨_,aij o⟩⟩
   .have f:Rq B g F (if i.natAbs<1000 then Res.ok (WL.W.int i)else .bad) _:=f;rw[aik o]at f;exact(show False from f).elim|str y=>
   simp only[RW]at s;subst s;by_cases o:y.length<=1000;.exact .inr ⟨y,rfl,aip o (by decide),rest y o ⟨_,aij o⟩⟩
   .have f:Rq B g F (if y.length<=1000 then Res.ok (WL.W.str y)else .bad) _:=f;rw[aik o]at f;exact(show False from f).elim|_=>exact(show False from f).elim
|_,_,.r (es:=es) (ta:=ta) (t:=t) hK hu hg he h=>by
  obtain⟨ts,U,J⟩:=gb h;refine⟨_,.cons (adv hg he) U,λg l F H Q e n R P Z q=>?_⟩;have j:n+1+es.length<=50:=by simp at P;omega
  have q:=Rq.bind (Rq.bind q);refine⟨g,F,R,Rq.mono (av.refl _) q λx f v M O K w s=>?_⟩;cases x with|str y=>
   simp only[RW]at s;subst s;by_cases o:y.length<=5000/\(y.cps.toList.all λc=>Nat.ble c 1114111)=true
   .have N:WL.aew (.str y)=.ok (.str y):=aij o;rw[N]at f;refine .inl ⟨y,rfl,λc hc=>aj0 (akV.mp (ai6.mp o.2 c hc)) (by decide),o.1,λz hz=>?_⟩;have d:(e++z).length<=100000*(n+1):=by rw[dW];have:=o.1;omega
    refine⟨z,rfl,fy d j,J g l O M Q (e++z) (n+1) K j d ?_⟩;exact Rq.mono w.f (Rq.bind (show Rq B g F ((t g).bind λC=>.ok (.str y::C)) _ from f)) λws k p r A R2 D=>(show∀p r(y:Str),_ from k) p r A R2 (w.trans D)
   .have f:Rq B g F (if y.length<=5000/\(y.cps.toList.all λc=>Nat.ble c 1114111)=true then Res.ok (WL.W.str y)else .bad) _:=f;rw[aik o]at f;exact(show False from f).elim|lst ws=>
   by_cases o:WL.shC ws=true;.have N:WL.aew (.lst ws)=.ok (.lst ws):=aij o;rw[N]at f;have I:(WL.fG 51 ws&&match WL.shL ws with|some n=>decide (n<=80000)|none=>false)=true:=o;rw[aiw]at I;obtain⟨Y,G⟩:=I;cases u:WL.shL ws with|none=>rw[u]at G;cases G|some m=>
     rw[u]at G;have G:m<=80000:=by simpa using G
     obtain⟨s1,s2,s3⟩:=yb u Y;have hd:=RW.isD 51 (.lst ws) v Y (s.keep K.rb.sub);simp only[RW]at s;obtain⟨a,vs,rfl,_,_⟩:=s;have E:(PyData.shown (.list (cA ws))).length<=80000:=by have h1:=listText_len_le (PyData.shownAll (cA ws));have h2:(PyData.shownAll (cA ws)).length=(cA ws).length:=dw (cA ws);simp only[PyData.shown];omega
     refine .inr (.inl ⟨51,.list (cA ws),a,rfl,by rw[hK];exact hd,by simpa only[PyData.showable]using s1,by simpa only[PyData.hasDict]using s2,by omega,E,?_⟩);have d:(e++PyData.shown (.list (cA ws))).length<=100000*(n+1):=by rw[dW];omega
     refine⟨_,rfl,fy d j,J g l O M Q _ (n+1) K j d ?_⟩;exact Rq.mono w.f (Rq.bind (show Rq B g F ((t g).bind λC=>.ok (.lst ws::C)) _ from f)) λws k p r A R2 D=>(show∀p r(y:Str),_ from k) p r A R2 (w.trans D)
   .have f:Rq B g F (if WL.shC ws=true then Res.ok (WL.W.lst ws)else .bad) _:=f;rw[aik o]at f;exact(show False from f).elim|tup ws=>
   by_cases o:WL.shC ws=true;.have N:WL.aew (.tup ws)=.ok (.tup ws):=aij o;rw[N]at f;have I:(WL.fG 51 ws&&match WL.shL ws with|some n=>decide (n<=80000)|none=>false)=true:=o;rw[aiw]at I;obtain⟨Y,G⟩:=I;cases u:WL.shL ws with|none=>rw[u]at G;cases G|some m=>
     rw[u]at G;have G:m<=80000:=by simpa using G
     obtain⟨s1,s2,s3⟩:=yb u Y;have hd:=RW.isD 51 (.tup ws) v Y (s.keep K.rb.sub);simp only[RW]at s;obtain⟨a,vs,rfl,_,_⟩:=s;have E:(PyData.shown (.tuple (cA ws))).length<=80000:=by have h1:=tupleText_len_le (PyData.shownAll (cA ws));have h2:(PyData.shownAll (cA ws)).length=(cA ws).length:=dw (cA ws);simp only[PyData.shown];omega
     refine .inr (.inl ⟨51,.tuple (cA ws),a,rfl,by rw[hK];exact hd,by simpa only[PyData.showable]using s1,by simpa only[PyData.hasDict]using s2,by omega,E,?_⟩);have d:(e++PyData.shown (.tuple (cA ws))).length<=100000*(n+1):=by rw[dW];omega
     refine⟨_,rfl,fy d j,J g l O M Q _ (n+1) K j d ?_⟩;exact Rq.mono w.f (Rq.bind (show Rq B g F ((t g).bind λC=>.ok (.tup ws::C)) _ from f)) λws k p r A R2 D=>(show∀p r(y:Str),_ from k) p r A R2 (w.trans D)
   .have f:Rq B g F (if WL.shC ws=true then Res.ok (WL.W.tup ws)else .bad) _:=f;rw[aik o]at f;exact(show False from f).elim|bl b=>
   simp only[RW]at s;subst s;have T:(if b then("True":Str)else"False").length<=10:=by cases b<;>decide
   refine .inr (.inr ⟨if b then("True":Str)else"False",.inr (.inr ⟨b,rfl,rfl⟩),aip T (by decide),?_⟩);have d:(e++if b then("True":Str)else"False").length<=100000*(n+1):=by rw[dW];omega
   refine⟨_,rfl,fy d j,J g l O M Q _ (n+1) K j d ?_⟩;exact Rq.mono w.f (Rq.bind (show Rq B g F ((t g).bind λC=>.ok (.bl b::C)) _ from f)) λws k p r A R2 D=>(show∀p r(y:Str),_ from k) p r A R2 (w.trans D)|int i=>
   simp only[RW]at s;subst s;by_cases o:i.natAbs<1000
   .have N:WL.aew (.int i)=.ok (.int i):=aij o;rw[N]at f;have S:=int_text o;refine .inr (.inr ⟨toString i,.inl ⟨i,rfl,S.2,rfl⟩,aip S.1 (by decide),?_⟩);have d:(e++(toString i:Str)).length<=100000*(n+1):=by rw[dW];have:=S.1;omega
    refine⟨_,rfl,fy d j,J g l O M Q _ (n+1) K j d ?_⟩;exact Rq.mono w.f (Rq.bind (show Rq B g F ((t g).bind λC=>.ok (.int i::C)) _ from f)) λws k p r A R2 D=>(show∀p r(y:Str),_ from k) p r A R2 (w.trans D)
   .have f:Rq B g F (if i.natAbs<1000 then Res.ok (WL.W.int i)else .bad) _:=f;rw[aik o]at f;exact(show False from f).elim|non=>
   simp only[RW]at s;subst s;refine .inr (.inr ⟨"None",.inr (.inl ⟨rfl,rfl⟩),by decide,?_⟩);have T:("None":Str).length<=10:=by decide
   have d:(e++("None":Str)).length<=100000*(n+1):=by rw[dW];omega
   refine⟨_,rfl,fy d j,J g l O M Q _ (n+1) K j d ?_⟩;exact Rq.mono w.f (Rq.bind (show Rq B g F ((t g).bind λC=>.ok (.non::C)) _ from f)) λws k p r A R2 D=>(show∀p r(y:Str),_ from k) p r A R2 (w.trans D)|_=>exact(show False from f).elim
def tO{x:Str}{C:Addr}{nm:String}{h i:Expr}{es:List Expr}{a:AF}{w b d pos:Pos}(O:X.K=B.K)(N:XW X B)(z:X.calm=true)(r:Gl X x)(u:X.mg x=some (.ref C))(q:ib X.K C none)(v:ExcAt X.K nm C)(o:WL.fieldsOf nm=[])(E:PJ X B (h::i::es) a)(Q:es.length<=40:=by decide)(K:Dbg x:=by decide)(j:evalEach es X.env=es.map λe=>eval e X.env:=by rfl)(n:starEach [Expr.JoinedStr (h::i::es) b] X.env=(false,eval (.JoinedStr (h::i::es) b) X.env)::starEach [] X.env:=by rfl)(c:BT X d []:=by rfl):PS X (.Raise (some (.Call (.Name x w) [.JoinedStr (h::i::es) b] [] d)) none pos) (loS B (WL.oE nm a)):=by obtain⟨ts,J,G⟩:=gb E;refine PS.imp (ym z r u q (bg (oK J j) df n) K n c) λD f H k=>?_;obtain⟨l,F,R,q⟩:=k;have q:=Oq.ofR q;refine G l f F H _ Str.empty 0 R (by simp;omega) (aim _) (Rq.mono (av.refl _) q λws A p m y M I=>?_);refine⟨show 1<=sizeLine by decide,λg s e P t=>?_⟩;exact N g f p s l m (.exc nm []) M (B.mono _ l F m I.f A) e C _ none _ t ⟨v,[],by rw[o];rfl,by simp[RWs],.inl ⟨rfl,rfl⟩,.inl o⟩
end
end WS
namespace L2
open PySem PySem.Spec PyProof.Rows PySem.Builtin
section
variable{X:Cx}
def sE(its:List Value)(m:Nat):List.foldl (λa b=>a++b) #[] (List.replicate m its.toArray)=(List.replicate m its).flatten.toArray:=by have:=foldl_rep its m [];rw[ajD]at this;exact this
def af0:R2:=λx y H Q=>∃l k a,x=.ref l/\y=.int k/\Rd H l (.lst a)/\-2^63<=k/\k<2^63/\a.length*k.toNat<=sizeLine/\∀p,H p=none->Q (.ref p) (upd H p (.lst (List.replicate k.toNat a).flatten))
def abe:OpR X (binaryOp .Mult) af0:=by
 intro m s K H x y v u Q I B o h;obtain⟨l,k,J,rfl,rfl,C,D,E,j,q⟩:=h;cases B;obtain⟨t,rfl⟩:=o;obtain⟨z,b,n,r,e⟩:=C.ok I.hok;have G:=r.length;have g:b.toArray.size*k.toNat<=sizeLine:=by rw[ai8,<-G];exact j
 have i:¬b.toArray.size*k.toNat >(2^63-1)/8:=by
  have:(sizeLine:Nat)<=(2^63-1)/8:=by decide
  omega
 have f:¬(!Builtin.List.listFitsIndex k)=true:=by rw[fitsIndex_both D E];exact aiz
 have c:¬Builtin.List.listTooLong (b.toArray.size*k.toNat)=true:=by rw[yE g];exact aiz
 have d:List.foldl (λp w=>p++w) #[] (List.replicate (if b.toArray.isEmpty=true then 0 else k.toNat) b.toArray)=(List.replicate k.toNat b).flatten.toArray:=by rw[sE];cases b with|nil=>simp|cons a r'=>rw[aik (by simp)]
 refine wpAny_binaryOp_repeat_ref (T:="list") (U:="int") (by decide) ⟨_,e,rfl⟩ (λA=>typeIs_int A k t) noFill_list_mul F.fills_int_mul F.slot_int_rmul repeat_list F.slot_int_index.lookup (ajA F.slot_int_rmul (typeIs_int s k t) F.entry_int_rmul (F.args_int_rmul_2 _ _) (int___rmul___int_list k t l b.toArray n) ⟨e,rfl,⟨_,e,rfl⟩,ajA F.slot_list_mul ⟨_,e,rfl⟩ F.entry_list_mul (F.args_list_mul_2 _ _) (AutoListH.list___mul___list_int_3 l b.toArray n k t f i c) ⟨e,?_⟩⟩);rw[d];exact⟨.ref _,_,I.afe (t':=s.toks) (r.rep k.toNat) (by rw[len_rep,Nat.mul_comm];exact j),rfl,q _ I.fresh⟩
end
end L2
namespace WS
open PySem PySem.Spec PyProof.Rows L2 PySem.Builtin PySem.Builtin.Str
open WL(Res Sl Ws EF TF AF LF GF GsF SF Out OX RF Rn AXF)
section
variable{X:Cx}{K:W.Frag}
theorem RWs.rep{F:Hp}{ws:List VW}{vs:List V}(r:RWs K F ws vs):∀n:Nat,RWs K F (List.replicate n ws).flatten (List.replicate n vs).flatten|0=>by simp[RWs]|n+1=>by rw[aiZ,aiZ,ajf,ajf];exact r.app (RWs.rep r n)
end
end WS
namespace WS
open PySem PySem.Spec PyProof.Rows L2
open WL(Res Sl Ws EF TF AF LF GF GsF SF Out OX RF Rn AXF)
section
variable{B:Bx}{σ:Ws}{σV:L2.St}{F H:Hp}{a:Addr}{kvs:List (Key×V)}{od:Obj}{K:W.Frag}
noncomputable abbrev zD(od:Obj)(kvs:List (Key×V)):HO:=.frz od (.dK kvs)
def afZ(e:F a=some (.dK kvs)){b l}(h:Rd F b (.dK l)):Rd (upd F a (zD od kvs)) b (.dK l):=by
 by_cases c:b=a;.subst c;rcases h with h|⟨o,h⟩<;>rw[e]at h<;>cases h;exact .inr ⟨od,ah⟩
 .unfold Rd;rw[ae c];exact h
def afY(e:F a=some (zD od kvs)){b l}(h:Rd F b (.dK l)):Rd (upd F a (.dK kvs)) b (.dK l):=by
 by_cases c:b=a;.subst c;rcases h with h|⟨o,h⟩<;>rw[e]at h<;>cases h;exact .inl ah
 .unfold Rd;rw[ae c];exact h
def zN{o o'}(e:F a=some o)(c:∀xs,o≠.tup xs)(d:∀ob xs,o≠.frz ob (.tup xs)){b xs}(h:SqT K F b xs):SqT K (upd F a o') b xs:=by
 rcases h with(h|⟨ob,h⟩)|h;.exact .inl (.inl (by rw[ae λz=>by grind];exact h))
 .exact .inl (.inr ⟨ob,by rw[ae λz=>by grind];exact h⟩)
 .exact .inr h
def zO{o o'}(e:F a=some o)(c:∀xs,o≠.lst xs)(d:∀ob xs,o≠.frz ob (.lst xs)){b xs}(h:SqL K F b xs):SqL K (upd F a o') b xs:=by
 rcases h with(h|⟨ob,h⟩)|h;.exact .inl (.inl (by rw[ae λz=>by grind];exact h))
 .exact .inl (.inr ⟨ob,by rw[ae λz=>by grind];exact h⟩)
 .exact .inr h
def RWs.fz(e:F a=some (.dK kvs)){ws vs}(h:RWs K F ws vs):RWs K (upd F a (zD od kvs)) ws vs:=RWs.via (λ_ _ q=>zN e (λ_ z=>nomatch z) (λ_ _ z=>nomatch z) q) (λ_ _ q=>zO e (λ_ z=>nomatch z) (λ_ _ z=>nomatch z) q) (λ_ _ q=>afZ e q) (λb c q=>by rw[ae λz=>by grind];exact q) (λb c q=>by rw[ae λz=>by grind];exact q) (λb _ _ _ _ q=>by rw[ae λz=>by grind];exact q) _ _ h
def RWs.th(e:F a=some (zD od kvs)){ws vs}(h:RWs K F ws vs):RWs K (upd F a (.dK kvs)) ws vs:=RWs.via (λ_ _ q=>zN e (λ_ z=>nomatch z) (λ_ _ z=>nomatch z) q) (λ_ _ q=>zO e (λ_ z=>nomatch z) (λ_ _ z=>nomatch z) q) (λ_ _ q=>afY e q) (λb c q=>by rw[ae λz=>by grind];exact q) (λb c q=>by rw[ae λz=>by grind];exact q) (λb _ _ _ _ q=>by rw[ae λz=>by grind];exact q) _ _ h
def RW.one{w v}(h:RWs K F [w] [v]):RW K F w v:=by obtain⟨_,_,e,q,_⟩:=h;cases e;exact q
theorem RW.fz(e:F a=some (.dK kvs)){w v}(h:RW K F w v):RW K (upd F a (zD od kvs)) w v:=RW.one (RWs.fz e (RWs.one h))
theorem RW.th(e:F a=some (zD od kvs)){w v}(h:RW K F w v):RW K (upd F a (.dK kvs)) w v:=RW.one (RWs.th e (RWs.one h))
theorem XR.th(e:F a=some (zD od kvs)){c C dx}(h:XR K F c C dx):XR K (upd F a (.dK kvs)) c C dx:=by cases c with|exc nm fs=>obtain⟨m,o,n,l,i,j⟩:=h;exact⟨m,_,n,l.th e,i.imp id λf=>by obtain⟨d,g,k⟩:=f;exact⟨d,g,by rw[ae λz=>by grind];exact k⟩,j.via λb _ q=>by rw[ae λz=>by grind];exact q⟩|_=>exact h.elim
def uN{F d o o'}(s:av (upd F a o) d):av (upd F a o') (upd d a o'):=λb u e=>by
 by_cases c:b=a;.subst c;rw[ah]at e⊢;exact e
 .rw[ae c]at e⊢;exact s b u (by rw[ae c];exact e)
def pU{F o}(e:F a=some o):upd F a o=F:=by
 funext b;by_cases c:b=a;.subst c;rw[ah,e]
 .rw[ae c]
def Bx.fz(B:Bx)(a:Addr)(od:Obj)(kvs:List (Key×V)):Bx:=⟨B.K,upd B.H0 a (zD od kvs),upd B.F0 a (zD od kvs),λc σ F=>B.xp c σ (upd F a (.dK kvs)),λc σ F f s h=>B.mono c σ _ _ (λb u e=>by
 by_cases d:b=a;.subst d;rw[ah]at e⊢;exact e
 .rw[ae d]at e⊢;exact s b u e) h⟩
theorem RS.fz(R:RS B σ σV F H)(e:F a=some (.dK kvs)):RS (B.fz a od kvs) σ σV (upd F a (zD od kvs)) (upd H a (zD od kvs)):=by
 refine⟨⟨λb u q=>?_,λb u q=>?_,λb u q=>?_,λb u q=>?_⟩,R.len,λi w q=>?_,λi ws q=>?_,R.ap,λi p k q=>?_,R.dd.ad,λi q=>?_⟩
 .by_cases c:b=a;.subst c;rw[ah]at q⊢;exact q
  .rw[ae c]at q⊢;exact R.rb.sub b u q
 .by_cases c:b=a;.subst c;exact(show upd B.H0 b (zD od kvs) b=some u from q)▸by rw[ah,ah]
  .have q:upd B.H0 a (zD od kvs) b=some u:=q;rw[ae c]at q⊢;exact R.rb.base b u q
 .by_cases c:b=a;.subst c;exact(show upd B.F0 b (zD od kvs) b=some u from q)▸by rw[ah,ah]
  .have q:upd B.F0 a (zD od kvs) b=some u:=q;rw[ae c]at q⊢;exact R.rb.fz0 b u q
 .by_cases c:b=a;.subst c;rw[ah]at q;exact .inl (by show upd B.F0 b (zD od kvs) b=_;rw[ah];exact q)
  .rw[ae c]at q;rcases R.rb.fr b u q with z|z;.exact .inl (by show upd B.F0 a (zD od kvs) b=_;rw[ae c];exact z)
   .exact .inr ⟨by show upd B.H0 a (zD od kvs) b=_;rw[ae c];exact z.1,z.2⟩
 .obtain⟨v,f,d⟩:=R.va i w q;exact⟨v,f,d.fz e⟩
 .refine jB (R.ow i ws q) λb o f d j g h=>?_;have c:b≠a:=λz=>by rw[z,e]at d;cases d
  exact tm b o f (by rw[ae c];exact d) (by show upd B.H0 a (zD od kvs) b=_;rw[ae c];exact j) (by rw[ae c];exact g) (h.fz e)
 .refine aaj (R.dd.od i p k q) λb l f d j g h n=>?_;have c:b≠a:=λz=>by rw[z,e]at d;cases d
  exact aca b l f (by rw[ae c];exact d) (by show upd B.H0 a (zD od kvs) b=_;rw[ae c];exact j) (by rw[ae c];exact g) (h.fz e) (n.fz e)
 .refine pO (R.dd.ob i q) λb C m f d=>?_;exact xA b C m f (by rw[ae λz=>by rw[z,e]at d;cases d];exact d)
def Was(B:Bx)(a:Addr)(kvs:List (Key×V)):Prop:=(B.F0 a=some (.dK kvs)\/B.H0 a=none/\B.F0 a=none)/\(B.H0 a=none\/B.H0 a=some (.dK kvs))
def RB.was(R:RB B F H)(e:F a=some (.dK kvs)):Was B a kvs:=by
 constructor
 .rcases R.fr a _ e with z|z;.exact .inl z
  .cases q:B.F0 a with|none=>exact .inr ⟨z.1,rfl⟩|some u=>have:=R.fz0 a u q;rw[e]at this;cases this;exact .inl rfl
 .cases q:B.H0 a with|none=>exact .inl rfl|some u=>have:=R.base a u q;rw[R.sub a _ e]at this;cases this;exact .inr rfl
def RB.th(R:RB (B.fz a od kvs) F H)(w:Was B a kvs):F a=some (zD od kvs)/\H a=some (zD od kvs)/\RB B (upd F a (.dK kvs)) (upd H a (.dK kvs)):=by
 have e:=R.fz0 a _ (by show upd B.F0 a (zD od kvs) a=_;rw[ah]);refine⟨e,R.sub a _ e,λb u q=>?_,λb u q=>?_,λb u q=>?_,λb u q=>?_⟩
 .by_cases c:b=a;.subst c;rw[ah]at q⊢;exact q
  .rw[ae c]at q⊢;exact R.sub b u q
 .by_cases c:b=a
  .subst c;rcases w.2 with z|z<;>rw[z]at q;.cases q
   .rw[ah];exact q
  .rw[ae c];exact R.base b u (by show upd B.H0 a (zD od kvs) b=_;rw[ae c];exact q)
 .by_cases c:b=a
  .subst c;rcases w.1 with z|⟨_,z⟩<;>rw[z]at q;.rw[ah];exact q
   .cases q
  .rw[ae c];exact R.fz0 b u (by show upd B.F0 a _ b=_;rw[ae c];exact q)
 .by_cases c:b=a
  .subst c;rw[ah]at q;cases q;rcases w.1 with z|⟨z,_⟩;.exact .inl z
   .exact .inr ⟨z,trivial⟩
  .rw[ae c]at q;rcases R.fr b u q with z|z;.exact .inl (by have:upd B.F0 a (zD od kvs) b=some u:=z;rwa[ae c]at this)
   .exact .inr ⟨by have:upd B.H0 a (zD od kvs) b=none:=z.1;rwa[ae c]at this,z.2⟩
theorem RS.th(R:RS (B.fz a od kvs) σ σV F H)(w:Was B a kvs):RS B σ σV (upd F a (.dK kvs)) (upd H a (.dK kvs)):=by
 refine aak (R.rb.th w) λe s p=>?_;refine⟨p,R.len,λi w q=>?_,λi ws q=>?_,R.ap,λi r k q=>?_,R.dd.ad,λi q=>?_⟩;.obtain⟨v,d,c⟩:=R.va i w q;exact⟨v,d,c.th e⟩
 .refine jB (R.ow i ws q) λb o d c j g h=>?_;have f:b≠a:=λz=>by grind
  exact tm b o d (by rw[ae f];exact c) (by have:upd B.H0 a (zD od kvs) b=none:=j;rwa[ae f]at this) (by rw[ae f];exact g) (h.th e)
 .refine aaj (R.dd.od i r k q) λb l d c j g h n=>?_;have f:b≠a:=λz=>by grind
  exact aca b l d (by rw[ae f];exact c) (by have:upd B.H0 a (zD od kvs) b=none:=j;rwa[ae f]at this) (by rw[ae f];exact g) (h.th e) (n.th e)
 .refine pO (R.dd.ob i q) λb C m d c=>?_;exact⟨b,C,m,d,by rw[ae λz=>by rw[z,e]at c;cases c];exact c⟩
end
section
variable{X:Cx}{B:Bx}{a:Addr}{kvs:List (Key×V)}{od:Obj}
def acR{pins c H s e C dx T d}(t:Thr X pins c H s e C dx d T)(q:H a=some (zD od kvs))(g:∀o u,X.H₀ a≠some (.frz o u)):Thr X pins c (upd H a (.dK kvs)) s e C dx d T:=by
 have f:∀{b},FpX X _ H b->FpX X pins (upd H a (.dK kvs)) b:=λ{b}h=>by obtain⟨i,k⟩:=h;exact⟨by rw[ae λz=>by grind];exact i,k⟩
 exact⟨t.inv.vY q g,t.trc,f t.fe,λu j=>f (t.fT u j)⟩
theorem XW.fz(k:XW X B)(w:Was B a kvs)(l:∀o u,X.H₀ a≠some (.frz o u)):XW X (B.fz a od kvs):=λb i H s g F c R h e C m T n t f=>by obtain⟨j,d,_⟩:=R.rb.th w;exact k _ _ _ s g _ c (R.th w) h e C _ T _ (acR t d l) (f.th j)
def aeC(D:Ends)(a:Addr)(od:Obj)(kvs:List (Key×V)):Ends:=⟨λb H=>H a=some (zD od kvs)/\D.nx b (upd H a (.dK kvs)),λv H=>H a=some (zD od kvs)/\D.rt v (upd H a (.dK kvs)),λb H=>H a=some (zD od kvs)/\D.bk b (upd H a (.dK kvs)),λb H=>H a=some (zD od kvs)/\D.ct b (upd H a (.dK kvs))⟩
def ac3{pins D}(c:∀o u,X.H₀ a≠some (.frz o u))(f)(s)(h:SP X pins (aeC D a od kvs) f s):SP X pins D f s:=by cases f with|next|brk|cont=>obtain⟨b,H,I,e,q⟩:=h;exact⟨b,_,I.vY e c,q⟩|ret u=>refine xm h λv b H I r e q=>?_;exact ab9 v b _ (I.vY e c) r q
theorem Oq.fz{D F}(e:F a=some (.dK kvs))(w:Was B a kvs){o}(h:Oq B D F o):Oq (B.fz a od kvs) (aeC D a od kvs) (upd F a (zD od kvs)) o:=by
 have bk:∀{d},av (upd F a (zD od kvs)) d->av F _:=λs=>by have:=uN (o':=.dK kvs) s;rwa[pU e]at this
 cases o with|nx σ|bk σ|ct σ=>exact λb H G R z=>⟨(R.rb.th w).2.1,h _ _ _ (R.th w) (bk z)⟩|rt u=>exact λv H G R z r=>⟨(R.th w).2.1,h v _ _ (R.th w).2.2 (bk z) (r.th (R.th w).1)⟩|ex c σ=>show B.xp c σ _;rw[ud,pU e];exact h|bad=>exact h
variable{tg l:Expr}{body:List Stmt}{g:GF}{b:SF}{i:Nat}{pos:Pos}
def l2{K ks F}(h:F a=some (zD od kvs))(r:RWs K F ks (kvs.map λp=>kV p.1)):Walk K (Itd a od kvs) ks F:=by have q:=r.length;rw[aiR]at q;refine⟨λi x e j m d f=>?_,λj m d f=>⟨f _ _ (d _ _ h),by omega⟩⟩;refine dh (r.get e) λv c o=>?_;rw[aiK,aiL]at c;obtain⟨p,c,rfl⟩:=c;refine⟨⟨f _ _ (d _ _ h),(ail.mp c).1⟩,λu s⟨n,t,k,y⟩=>?_⟩;subst n y;rw[c]at k;cases k;exact⟨j,Ext.refl _ _,o.keep d⟩
def aat(hK:X.K=B.K)(hp:PassesOwn (model X.prog X.w) X.A X.env X.xe)(hc:X.calm=true)(hx:XW X B)(hl:PE X l (cQ i))(hg:∀e,PG X tg (loG false e g))(hb:∀e,e.K=X.K->XW X e->PSs X body (loS e b))(hs:∀x,foldedSetIterable l X.env x=pure x:=by intro _;rfl):PS X (.For tg l body [] pos) (loS B (WL.tr (WL.acj i) g b)):=by
 intro d s n H D I⟨Z,F,R,q⟩;have y:=Oq.ofR q;have C:∀(e:Bx)(T:Ends)(d:List (Addr×Obj))(s:Shared)(H' K:Hp)(o us:List VW)(a:Addr)(od:Obj)(kvs:List (Key×V)),e.K=X.K->XW X e->Inv X d n H' s->RS e Z n K H'->n[i]?=some (some (.ref a))->K a=some (zD od kvs)->RWs e.K K o (kvs.map λp=>kV p.1)->Oq e T K (WL.forL g b o Z)->wpAny (model X.prog X.w) X.A (exec (.For tg l body [] pos) X.env) (SP X d T) X.xe s:=by
  intro e T d s H' K o us a od kvs a1 a2 I' R' N e3 rk q';refine qm (wi:=λn H R=>∃J,R J H/\J=Itd a od kvs/\n[i]?=some (some (.ref a))/\H a=some (zD od kvs)) hp hc (PI.imp (u9 hl) λn H R a0=>by obtain⟨J,r,ej,N,e3⟩:=a0;exact⟨.ref a,N,a,od,kvs,rfl,e3,by rw[<-ej];exact r⟩) (hg e) (hb e a1 a2) hs d s n H' T I' ?_;refine⟨_,?_,rfl,N,R'.rb.sub _ _ e3⟩;have wk:=l2 e3 rk;refine⟨λj m u P=>m=o.length-j/\j<=o.length/\∃z E,RS e z u E P/\av K E/\Oq e T E (WL.forL g b (o.drop j) z),⟨o.length,rfl,aiN _,Z,K,R',av.refl _,by rw[aj6];exact q'⟩,?_⟩;rintro j m u P⟨rfl,hj,z,E,R1,s1,k⟩;by_cases M:j<o.length;.have hd:=aiQ M;rw[hd]at k;obtain⟨go,yl⟩:=wk.go j o[j] (aiv M) E P s1 R1.rb.sub;refine .inr ⟨go,_,λt H2 h2=>⟨o.length-(j+1),by omega,rfl,M,h2⟩,λv H2 hy=>?_⟩;obtain⟨F2,E2,r2⟩:=yl v H2 hy;have k:=Oq.ofR k;refine⟨z,F2,o[j],E2.rs _ _ _ R1,r2,Rq.mono E2.same k λY k a3 H3 F3 R3 g3=>?_⟩;refine⟨Y,F3,R3,?_⟩;have U:=E2.same.trans g3.f;cases A:b Y with|nx t|ct t=>rw[A]at k;exact λG H4 S Q O=>⟨t,S,Q,(s1.trans U).trans O,Oq.mono (U.trans O) k⟩|bk t=>rw[A]at k;exact λG H4 S Q O=>k G H4 S Q (U.trans O)|rt w=>rw[A]at k;exact λv4 H4 S Q O=>k v4 H4 S Q (U.trans O)|ex c t=>rw[A]at k;exact e.mono c t E F3 U k|bad=>rw[A]at k;exact k
  .have ei:j=o.length:=by omega
   subst ei;rw[ajs]at k;exact .inl ⟨wk.stop E P s1 R1.rb.sub,k u P E R1 (av.refl _)⟩
 unfold WL.acj at y;cases A:Z[i]? with|none=>rw[A]at y;exact(y).elim|some sl=>rw[A]at y;cases sl with
 |va w=>cases w with|dic o us=>
    have y:=y;obtain⟨v,N,r2⟩:=R.va i _ A;simp only[RW]at r2;obtain⟨a,kvs,rfl,rd,rk,ru⟩:=r2;rcases rd with rd|⟨od,rd⟩;.obtain⟨od,I',hn⟩:=I.aeu (R.rb.sub _ _ rd);have w:=R.rb.was rd;exact thn (C (B.fz a od kvs) (aeC D a od kvs) d s _ _ o us a od kvs hK.symm (hx.fz w hn) I' (R.fz rd) N ah (rk.fz rd) (y.fz rd w)) λf s h=>ac3 hn f s h
    .exact C B D d s H F o us a od kvs hK.symm hx I R N rd rk y|_=>exact(y).elim
 |_=>exact(y).elim
end
end WS
namespace PySem
def Heap.IsStrIter.at{h h':Heap}{a ty x t i}(y:h.IsStrIter a ty x t i)(e:∀o,h.get? a=some o->h'.get? a=some o):h'.IsStrIter a ty x t i:=let⟨o,b,r⟩:=y;⟨o,e _ b,r⟩
end PySem
namespace L2
open PySem PySem.Spec PyProof.Rows
noncomputable def Its(x:Str):It:=⟨λi _=>i<x.cps.size,λi H v a=>a=H/\∃c,x.cps[i]?=some c/\v=.str ⟨#[c]⟩,λi _=>x.cps.size<=i⟩
def rC{P:Program}{w:World}{K:W.Frag}{tg:Expr}(it:Addr)(x:Str)(t:Tok):Turn P w K tg (Its x) [it] it λi h=>h.IsStrIter it "str_ascii_iterator" x t i where
 mem:=by simp
 obj:=λi h st b hb=>by
  have e:b=it:=by simpa using hb
  subst e;obtain⟨o,e,c,d⟩:=st;exact⟨o,e,λv z=>by rw[d]at z;cases z⟩
 keep:=λi h h' st k=>st.at λo e=>k it (by simp) o e;item:=by intro X hP hw hK i pins s σ H E hc I hf st hg;subst hP hw hK;have hg:i<x.cps.size:=hg;obtain⟨f0,f1,f2,f3,f4,f5⟩:=hf it (by simp);refine wpAny_pyNext_ascii_item st (c:=x.cps[i]) (akW hg) λh' st' sb=>?_;have I1:Inv X pins σ H {s with heap:=h',toks:=s.toks+1}:=I.turned (t':=s.toks+1) (λb o hb e=>(sb.2 b hb).trans e) f0 f1 f3 f4 f5;obtain⟨o,e,c,d⟩:=id st';exact⟨_,rfl,sy (s:={s with heap:=h',toks:=s.toks+1}) e c d (by decide) ⟨.str ⟨#[x.cps[i]]⟩,H,I1,⟨_,rfl⟩,⟨rfl,_,akW hg,rfl⟩,st',λb hb=>(hf b hb).1⟩⟩
 done:=by intro X hP hw hK i pins s σ H E hc I hf st hg;subst hP hw hK;have hg:x.cps.size<=i:=hg;obtain⟨f0,f1,f2,f3,f4,f5⟩:=hf it (by simp);exact wpAny_pyNext_ascii_end (I.ok.hd hc) st (Array.getElem?_eq_none hg) λh' eb=>⟨rfl,I.turned (t':=s.toks) (λb o hb e=>eb b o hb e) f0 f1 f3 f4 f5⟩
 self:=λA i s Q E st h=>by refine wpAny_pyIter_slot st.typeIs aku (aji aku st.typeIs F.entry_str_ascii_iterator_iter ?_ (F.args_str_ascii_iterator_iter_1 _));show wpAny _ _ (ret (.ref it)) _ _ s;exact aio ⟨_,rfl,"str_ascii_iterator",_,st.typeIs,F.slot_str_ascii_iterator_next.lookup,h⟩
def ahX(b:TE):TI:=λa H R=>b a H λv c=>∃x:Str,v=.str x/\x.cps.all (.<128)=true/\R (Its x) c
def yr{X i l g}(p:PE X l g):PI X i l (ahX g):=by
 intro a s k H R I h;refine thn (p a s k H _ I h) λv f c=>?_;obtain⟨z,j,d,m,x,e,n,q⟩:=c;subst e;obtain⟨t,rfl⟩:=m;refine wpAny_pyIter_ascii n (acr f.heap.objs.size [f.heap.objs.size] _ _ j rfl (d.kept λb o e=>aih _ e) (rC _ x t) ⟨_,ais _ rfl,rfl,rfl⟩ (λb r=>?_) q);have e:b=f.heap.objs.size:=by grind
 subst e;exact d.ack (aim _) (d.hok.fresh (aim _))
def jL{X}:bx X (.builtin "len") λd H Q=>∃a b,d=[.ref a]/\Rd H a (.dK b)/\Q (.int b.length) H:=by
 intro c s k H d g Q I j⟨a,_,e,rd,q⟩;subst e;obtain⟨u,rfl,i⟩:∃u,g=[u]/\RelV (.ref a) u:=by cases j with|cons h t=>cases t;exact⟨_,rfl,h⟩
 cases i;exact agN I rd λt l f=>⟨.int _,H,f,⟨t,rfl⟩,q⟩
end L2
namespace WS
open PySem PySem.Spec PyProof.Rows L2
open WL(Res Sl Ws EF TF AF LF GF GsF SF Out OX RF Rn AXF)
section
variable{X:Cx}{B:Bx}{K:W.Frag}
def acB{n e:Expr}{ta:EF}(h:PE X e (lo B ta)):PI X n e (loI B (WL.ahn ta)):=PI.imp (yr h) λs H R d=>by
 obtain⟨g,F,t,q⟩:=d;have q:=Rq.bind q;refine⟨g,F,t,Rq.mono (av.refl _) q λx a v o p D A k=>?_⟩
 cases x with|str x=>
  simp only[RW]at k;have a:Rq B g F (if x.cps.all (.<128)=true then Res.ok (WL.signs x)else .bad) _:=a;by_cases b:x.cps.all (.<128)=true
  .rw[aij b]at a;refine⟨x,k,b,(show∀J E G,_ from a) _ o p D A ⟨λi y e l C u m=>?_,λl C u m=>by show x.cps.size<=(WL.signs x).length;simp[WL.signs]⟩⟩;unfold WL.signs at e;rw[aiK,aiL]at e;obtain⟨c,e,rfl⟩:=e;have z:i<x.cps.size:=by have:=(ail.mp e).1;simpa using this
   refine⟨z,λv I f=>?_⟩;obtain⟨w,r,j,y⟩:=f;subst w y;have:c=r:=by rw[Array.getElem?_toList]at e;rw[e]at j;exact aiB j
   subst this;exact⟨l,Ext.refl _ _,by simp[RW]⟩
  .rw[aik b]at a;exact(show False from a).elim|_=>exact(show False from a).elim
def nL:∀a c,WL.sY a≠.ex c:=λa c h=>by
 unfold WL.sY at h;split at h;.split at h<;>cases h
 .cases h
 .exact ba _ _ h
def zI(j:X.K=K):bx X (.builtin "len") (loN K WL.sY):=by
 intro b s d H m c Q I g⟨F,ws,i,r,q⟩;unfold WL.sY at q;split at q
 .split at q;.rename_i x l;obtain⟨v,rfl,h⟩:=bM r;exact nN b s d H _ c Q I g ⟨x,by rw[h],aip l cM,eq1 q (rfl)⟩
  .exact q.elim
 .obtain⟨v,rfl,h⟩:=bM r;refine jO h λa e f rd k _=>?_;subst f;have:=k.length;exact jL _ s d H _ c Q I g ⟨a,e,rfl,i.rd rd,eq1 q (by simp[RW,this])⟩
 .exact eO j b s d H m c Q I g ⟨F,_,i,r,q⟩
def zy:Calm WL.aci:=λx y c h=>by
 unfold WL.aci at h;split at h;.cases h
 .cases h
 .exact lM _ _ _ h
def afz(i:X.K=K)(k:X.A.units+64<cLine):OpR X (compareOp .In) (lo2 K WL.aci):=by
 intro e s d H x y v u Q I h c⟨F,wx,l,j,f,g,q⟩;unfold WL.aci at q;split at q;.rename_i a b;exact vl _ s d H x y v u Q I h c ⟨a,b,f,g,eq1 q (rfl)⟩
 .exact q.elim
 .exact ae0 i k _ s d H x y v u Q I h c (n9 F _ _ j f g q)
noncomputable def kW:Key->VW|.inl none=>.non|.inl (some i)=>.int i|.inr z=>.str z
def kj{F x a}(h:RW K F x (kV a)):x=kW a:=by rcases a with(_|i)|z<;>cases x<;>simp only[kV,RW,reduceCtorEq,false_and,exists_false]at h<;>cases h<;>rfl
def lp{F x y}:∀{a b},RW K F x (kV a)->RW K F y (kV b)->WL.sr x y=decide (a=b):=by intro a b c d;rw[kj c,kj d,ajk];rcases a with(_|i)|z<;>rcases b with(_|j)|e<;>simp[WL.sr,kW]
def vH{F}{k:VW}{v}(b:WL.xt k=true)(r:RW K F k v):∃a,v=kV a:=by
 cases k<;>simp [WL.xt]at b;.exact⟨.inl none,r⟩
 .rename_i i;exact⟨.inl (some i),r⟩
 .rename_i x;exact⟨.inr x,r⟩
theorem pA{F k b}(c:RW K F k (kV b)):∀{a:List (Key×V)}{ks},RWs K F ks (a.map λp=>kV p.1)->WL.abY k ks=a.any λe=>decide (e.1=b)
|[],ks,r=>by cases ks with|nil=>rfl|cons x ks=>simp[RWs]at r
|p::a,ks,r=>by cases ks with|nil=>simp[RWs]at r|cons x ks=>obtain⟨h,i,f,d,g⟩:=r;cases f;show(WL.sr x k||WL.abY k _)=_;rw[lp d c,pA c g];rfl
theorem wM{F k w b v}(f:RW K F k (kV b))(g:RW K F w v):∀{a:List (Key×V)}{ks us},RWs K F ks (a.map λp=>kV p.1)->RWs K F us (a.map λp=>p.2)->RWs K F ks ((a.map λc=>if c.1=b then(c.1,v)else c).map λp=>kV p.1)/\RWs K F (WL.zv k w ks us) ((a.map λc=>if c.1=b then(c.1,v)else c).map λp=>p.2)
|[],ks,us,r1,r2=>by cases ks with
 |nil=>cases us with|nil=>exact⟨r1,r2⟩|cons _ _=>simp[RWs]at r2
 |cons x ks=>simp[RWs]at r1
|p::a,ks,us,r1,r2=>by cases ks with|nil=>simp[RWs]at r1|cons x ks=>cases us with|nil=>simp[RWs]at r2|cons y us=>
    obtain⟨u,r,o,d,q⟩:=r1;obtain⟨t,s,m,n,l⟩:=r2;cases o;cases m;obtain⟨i,j⟩:=wM f g q l;have e:=lp d f;unfold WL.zv;rw[e];by_cases h:p.1=b;.rw[akz h,aij rfl];simp only[aiC,aij h];exact⟨.cons d i,.cons g j⟩
    .rw[ai3 h,aik aiz];simp only[aiC,aik h];exact⟨.cons d i,.cons n j⟩
def aa2{F k w b v}(d:RW K F k (kV b))(e:RW K F w v){a ks us}(c:RWs K F ks (a.map λp=>kV p.1))(f:RWs K F us (a.map λp=>p.2)):RWs K F (WL.putK ks k) ((putK a b v).map λp=>kV p.1)/\RWs K F (WL.ae4 ks us k w) ((putK a b v).map λp=>p.2):=by
 unfold WL.putK WL.ae4 L2.putK;rw[pA d c];by_cases h:(a.any λg=>decide (g.1=b))=true;.rw[aij h,aij h,aij h];exact wM d e c f
 .rw[aik h,aik h,aik h,alg,alg];exact⟨c.app (.one d),f.app (.one e)⟩
variable{i j:Nat}{pos pos':Pos}{x:Str}
end
end WS
set_option autoImplicit true
set_option relaxedAutoImplicit true
namespace L2
open PySem PySem.Spec PyProof.Rows
section
variable{X:Cx}{k:Nat}{f C:Addr}{fd:FuncData}{ps:List Str}{sp:Sp}{dvs:List V}{ds:List Value}{x:Str}{p pos:Pos}{e:Expr}{es:List Expr}{t:TA}
def zL(X:Cx)(C:Addr)(sp:Sp)(dvs:List V)(t:TA):TE:=λg H Q=>t g H λj d=>∀x c,d x=none->d c=none->c≠x->∃E:XK,sp (.ref x::(j++dvs)) (upd (upd d c (.own x)) x (.ins C c [])) (λv l=>v=.non/\Q (.ref x) l) E/\∀b s e i a T h,Thr X b g h s e i a .none (some T)->E (.ref i) a h->X.xe (.ref e) s
def qp(M:Mk X.K C f)(F:FnOk X.prog X.w X.K X.mg X.base (CXX X.prog X.w) k f fd ps sp)(D:Room (k+1) X.A)(y:Gl X x)(A:X.mg x=some (.ref C))(R:Binds X.K fd ps ds)(hd:Vals dvs ds)(P:PA X (e::es) t)(m:Dbg x:=by decide)(K:SE X e es:=by rfl)(g:BT X pos es:=by rfl):PE X (.Call (.Name x p) (e::es) [] pos) (zL X C sp dvs t):=by
 intro b w U O Q i S;refine ajz (cg i y A ?_ m);refine ak3 i.ok.mod.kin M.kp (thn (P pos b w U O _ i S) λc s⟨G,H,I,r,h⟩=>⟨I.kIn,?_⟩) K g;obtain⟨E,o,hx⟩:=h (s.heap.objs.size+1) s.heap.objs.size (I.hok.fresh (akF _)) (I.hok.fresh (aim _)) (aix (ak2 _));have d:=Inv.made (C:=C) I;have n:Vals (V.ref (s.heap.objs.size+1)::(G++dvs)) (Value.ref (s.heap.objs.size+1)::(c++ds)):=.cons rfl (r.append hd);have hl:=by have e:=n.length;rw[F.len _ _ _ _ o]at e;exact e.symm
 refine ajy (yI I.kIn M.makes M.init (aje.mp M.fn) (ajX (F.run _ X.stack _ _ _ (Value.ref (s.heap.objs.size+1)::(c++ds)) _ _ E (D.make C c []) trivial (d.afj.make C c []) (R _ (Value.ref (s.heap.objs.size+1)::c) d.kIn hl) n o) λr B a=>?_));cases r with|error e=>obtain⟨Z,C',j,T,l,rfl,t,q⟩:=d.thrown a;exact hx b B Z C' j T l t q|ok fl=>cases fl with|ret u=>obtain⟨v,l,J,Y,N,z⟩:=d.after a;subst N;exact⟨Y,⟨V.ref (s.heap.objs.size+1),l,J,rfl,z⟩⟩|next=>exact False.elim a|brk=>exact False.elim a|cont=>exact False.elim a
end
end L2
namespace WS
open PySem PySem.Spec PyProof.Rows L2
open WL(Res Sl Ws EF TF AF LF GF GsF SF Out OX RF Rn AXF)
section
variable{B B1:Bx}{σ:Ws}{σV:L2.St}{F H F' H':Hp}
def RB.yf(R:RB B1 F' H')(d:B1.H0=H)(c:B1.F0=F)(b:RB B F H):RB B F' H':=by
 subst d c;refine⟨R.sub,b.base.trans R.base,b.fz0.trans R.fz0,λa o e=>?_⟩;rcases R.fr a o e with z|z;.exact b.fr a o z
 .exact .inr ⟨b.base.free z.1,z.2⟩
theorem RS.yf(R:RS B1 σ σV F' H')(d:B1.K=B.K)(f:B1.H0=H)(o:B1.F0=F)(k:RB B F H):RS B σ σV F' H':=by
 refine⟨R.rb.yf f o k,R.len,λi w e=>?_,λi ws e=>?_,R.ap,λi q p e=>?_,R.dd.ad,R.dd.ob⟩;.obtain⟨v,b,c⟩:=R.va i w e;exact⟨v,b,d▸c⟩
 .refine jB (R.ow i _ e) λa n b c j g h=>?_;exact tm a n b c (k.base.free (f▸j)) g (d▸h)
 .refine aaj (R.dd.od i _ _ e) λa l b c j g h m=>?_;exact aca a l b c (k.base.free (f▸j)) g (d▸h) (d▸m)
def RS.front (R:RS B σ (σV++r) F H)(I:σV.length=k):RS B (σ.take k) σV F H:=by
 subst I;have b:∀{i:Nat}{o:Sl},(σ.take σV.length)[i]?=some o->σ[i]?=some o/\(σV++r)[i]?=σV[i]?:=λ{i o}e=>by
  have x:i<σV.length:=by have:=(ail.mp e).1;rw[ajK]at this;omega
  rw[ak4 x]at e;exact⟨e,aiD x⟩
 have t:=R.len;refine⟨R.rb,by rw[ajK,t,aiM];omega,λi w e=>?_,λi ws e=>?_,λi j ws s a n c d u m=>?_,λi z y e=>?_,λi j z y G A a n c d u m=>?_,λi e=>?_⟩;.obtain⟨c,d⟩:=b e;obtain⟨v,g,h⟩:=R.va i w c;exact⟨v,d▸g,h⟩
 .obtain⟨c,d⟩:=b e;obtain⟨a,E,g,h⟩:=R.ow i ws c;exact⟨a,E,d▸g,h⟩
 .obtain⟨c,f⟩:=b c;obtain⟨p,q⟩:=b d;exact R.ap i j ws s a n c p (f.trans u) (q.trans m)
 .obtain⟨c,d⟩:=b e;obtain⟨a,l,g,h⟩:=R.dd.od i z y c;exact⟨a,l,d▸g,h⟩
 .obtain⟨c,f⟩:=b c;obtain⟨p,q⟩:=b d;exact R.dd.ad i j _ _ _ _ a n c p (f.trans u) (q.trans m)
 .obtain⟨c,d⟩:=b e;obtain⟨a,C,D,g,h⟩:=R.dd.ob i c;exact⟨a,C,D,d▸g,h⟩
def RS.snoc(R:RS B σ σV F H):RS B (σ++[.no]) (σV++[none]) F H:=by
 have b:∀{i:Nat}{m:Sl},(σ++[Sl.no])[i]?=some m->m≠.no->σ[i]?=some m/\(σV++[none])[i]?=σV[i]?:=λ{i m}e k=>by
  by_cases t:i<σ.length;.rw[aiD t]at e;exact⟨e,aiD (by rw[<-R.len];exact t)⟩
  .rw[aiE (by omega)]at e;cases x:i-σ.length with|zero=>rw[x]at e;cases e;exact(k rfl).elim|succ n=>rw[x]at e;cases e
 refine⟨R.rb,by simp[R.len],λi w e=>?_,λi ws e=>?_,λi j ws r a k c d s o=>?_,λi y u e=>?_,λi j y u G A a k c d s o=>?_,λi e=>?_⟩;.obtain⟨c,d⟩:=b e λz=>nomatch z;obtain⟨v,g,h⟩:=R.va i w c;exact⟨v,d.trans g,h⟩
 .obtain⟨c,d⟩:=b e λz=>nomatch z;refine cH (R.ow i ws c) λa E g h=>?_;exact⟨a,E,d.trans g,h⟩
 .obtain⟨c,f⟩:=b c λz=>nomatch z;obtain⟨p,q⟩:=b d λz=>nomatch z;exact R.ap i j ws r a k c p (f.symm.trans s) (q.symm.trans o)
 .obtain⟨c,d⟩:=b e λz=>nomatch z;refine cH (R.dd.od i y u c) λa l g h=>?_;exact cG a l (d.trans g) h
 .obtain⟨c,f⟩:=b c λz=>nomatch z;obtain⟨p,q⟩:=b d λz=>nomatch z;exact R.dd.ad i j _ _ _ _ a k c p (f.symm.trans s) (q.symm.trans o)
 .obtain⟨c,d⟩:=b e λz=>nomatch z;refine pO (R.dd.ob i c) λa C D g h=>?_;exact⟨a,C,D,d.trans g,h⟩
structure Ex(f:Str)(x C dx d:Addr)(σV:L2.St)(F H:Hp):Prop where
 sl:σV[0]?=some (some (.ref x))F:F x=none
 H:H x=some (.ins C dx [(f,.ref d)])
def Oq4(B:Bx)(f:Str)(x C dx:Addr)(D:Ends)(F:Hp):Out->Prop|.nx σ'=>∀a d H' F',a.length=3->RS B σ' (a++[some (.ref d)]) F' H'->Ex f x C dx d a F' H'->av F F'->D.nx a H'|.ex c σ'=>B.xp c σ' F|_=>False
def ahj(B:Bx)(f:Str)(x C dx:Addr)(t:SF):TS:=λD σV H=>∃σ d F,σV.length=3/\RS B σ (σV++[some (.ref d)]) F H/\Ex f x C dx d σV F H/\Oq4 B f x C dx D F (t σ)
theorem Oq4.mono{f x C dx D F F' o}(s:av F F')(h:Oq4 B f x C dx D F o):Oq4 B f x C dx D F' o:=by cases o with|nx σ=>exact λσV d H G a R ex z=>h _ d H G a R ex (s.trans z)|ex c σ=>exact B.mono c σ F _ s h|_=>exact h
end
section
variable{X:Cx}{B:Bx}{f:Str}{x C dx:Addr}{self texts name value tg:Expr}{tv:EF}{ap sp apos pos:Pos}
def aas(hK:X.K=B.K)(hx:XW X B)(u:∀c a r F,B.xp c a F->B.xp c r F)(hu:X.A.units+1<cLine)(h:PE X self (cQ 0))(j:PE X name (cQ 2))(hv:∀A,A.K=X.K->XW X A->PE X value (lo A tv))(hb:attributeBase self f X.env (eval self X.env)=eval self X.env)(cl:Cls X.K C)(na:aW X.K C f)(M:swapsWith value (some (.Subscript (.Attribute self f ap) name sp)) apos.line X.env=pure false):PS X (.Assign [.Subscript (.Attribute self f ap) name sp] value apos) (ahj B f x C dx (WL.gY 3 (WL.xn tv) (WL.ao 2))):=by intro g s b H D I⟨a,d,F,Q,R,ex,q⟩;have q:Oq4 B f x C dx D F (match(a[3]?:Option Sl)with|some (.od ks us)=>WL.ofR a (WL.xn tv a) _|_=>.bad):=q;cases m:a[3]? with|none=>rw[m]at q;exact(q).elim|some sl=>rw[m]at q;cases sl with
 |od ks us=>
   have q:=q;let J:Bx:=⟨B.K,H,F,B.xp,B.mono⟩;have N:XW X J:=λg b H1 s a F1 c P xp e C dx T fl t xr=>hx g b H1 s a F1 c (P.yf rfl rfl rfl R.rb) xp e C dx T fl t xr;have P:RS J (WL.r9 (a.take 3)) b F H:=(R.front Q).r9 rfl rfl rfl;have Z:(b++[some (V.ref d)])[3]?=some (some (.ref d)):=by rw[aiE (by omega),Q];rfl
   refine aa5 hu (qq h hb) j (hv J hK.symm N) M g s b H D I ?_;refine cG _ F P ?_;have q:Oq4 B f x C dx D F (WL.ofR a (tv (WL.r9 (a.take 3))) λv=>WL.ofR a (WL.ao 2 a) λk=>WL.putD 3 ks us k v a):=q;cases E:tv (WL.r9 (a.take 3))with|bad=>rw[E]at q;exact q|ex c=>rw[E]at q;exact u c _ _ F q|ok w=>rw[E]at q;intro v H2 F2 R2 n r2;have q:=q;have i:=n.h _ _ ex.H;refine⟨.ref x,ex.sl,x,C,dx,[(f,.ref d)],.ref d,rfl,i,cl,na,by simp[List.lookup],?_⟩;have O:=R.grow n (R2.rb.yf rfl rfl R.rb);cases G:a[2]? with|none=>unfold WL.ao at q;rw[G]at q;exact(q).elim|some sl=>
     unfold WL.ao at q
     rw[G]at q;cases sl with|va k=>
      have q:Oq4 B f x C dx D F (if WL.xt k=true/\ks.length<WL.lim then .nx (a.set 3 (.od (WL.putK ks k) (WL.ae4 ks us k w)))else .bad):=q;refine dh (O.va 2 k G) λy Y h2=>?_;rw[aiD (by omega)]at Y;refine⟨y,Y,?_⟩;by_cases o:WL.xt k=true/\ks.length<WL.lim
      .rw[aij o]at q;obtain⟨a0,rfl⟩:=vH o.1 h2;refine aaj (O.dd.od 3 ks us m) λa' K U k2 k3 p S k6=>?_;rw[Z]at U;cases U;have l:K.length<sizeLine:=by have:=S.length;rw[aiR]at this;rw[<-this];exact aiq o.2 cM
       obtain⟨p1,p2⟩:=aa2 h2 r2 S k6;refine⟨d,_,rfl,aeS.k p l,q b d _ F2 Q (O.acy m Z k2 k3 p p1 p2) ⟨ex.sl,?_,?_⟩ n.f⟩;.exact n.nf x _ ex.H ex.F
       .rw[ae λz=>by rw[<-z,i]at p;cases p];exact i
      .rw[aik o]at q;exact(q).elim|_=>exact(q).elim
 |_=>exact(q).elim
theorem Oq4.fz   (e:F a=some (.dK kvs))(w:Was B a kvs)(b:x≠a)(h:Oq4 B f x C dx D F o):Oq4 (B.fz a od kvs) f x C dx (aeC D a od kvs) (upd F a (zD od kvs)) o:=by
 have bk:∀{j},av (upd F a (zD od kvs)) j->av F _:=λs=>by have:=uN (o':=.dK kvs) s;rwa[pU e]at this
 cases o with|nx σ=>exact λg d H G i R ex z=>⟨(R.rb.th w).2.1,h _ d _ _ i (R.th w) ⟨ex.sl,by rw[ae b];exact ex.F,by rw[ae b];exact ex.H⟩ (bk z)⟩|ex c σ=>show B.xp c σ _;rw[ud,pU e];exact h|_=>exact h
def qj  :(∀a,WL.gY i ev ek σ≠.ct a)/\∀a,WL.gY i ev ek σ≠.bk a:=by
 unfold WL.gY;split;.cases ev σ with
 |ok v=>cases ek σ with|ok k=>rename_i b d _;show(∀a,(if WL.xt k=true/\b.length<WL.lim then Out.nx _ else .bad)≠.ct a)/\∀a,(if WL.xt k=true/\b.length<WL.lim then Out.nx _ else .bad)≠.bk a;split<;>exact⟨λ_ z=>(by cases z),λ_ z=>by grind⟩|ex c=>exact⟨λ_ z=>(by cases z),λ_ z=>by cases z⟩|bad=>exact⟨λ_ z=>(by cases z),λ_ z=>by cases z⟩
 |ex c=>exact⟨λ_ z=>(by cases z),λ_ z=>by cases z⟩|bad=>exact⟨λ_ z=>(by cases z),λ_ z=>by cases z⟩
 .exact⟨λ_ z=>(by cases z),λ_ z=>by grind⟩
def aau(hK:X.K=B.K)(hp:PassesOwn (model X.prog X.w) X.A X.env X.xe)(hc:X.calm=true)(hx:XW X B)(a1:∀c y b F,B.xp c y F->B.xp c b F)(hu:X.A.units+1<cLine)(b0:PE X texts (cQ 1))(P:PE X self (cQ 0))(Q:PE X name (cQ 2))(hg:PG X tg (L2.aX 2))(hv:∀u,u.K=X.K->XW X u->PE X value (lo u tv))(hb:attributeBase self f X.env (eval self X.env)=eval self X.env)(cl:Cls X.K C)(na:aW X.K C f)(a9:swapsWith value (some (.Subscript (.Attribute self f ap) name sp)) apos.line X.env=pure false)(hs:∀x,foldedSetIterable texts X.env x=pure x:=by intro _;rfl):PS X (.For tg texts [.Assign [.Subscript (.Attribute self f ap) name sp] value apos] [] pos) (ahj B f x C dx (WL.vB tv)):=by
 intro e s t H D I⟨y,d,F,hl,R,ex,q⟩;have M:∀(u:Bx)(Z:Ends)(e:List (Addr×Obj))(s:Shared)(H' N:Hp)(l:List VW)(a:Addr)(od:Obj)(k:List (Key×V)),u.K=X.K->XW X u->(∀c y b F,u.xp c y F->u.xp c b F)->Inv X e t H' s->RS u y (t++[some (.ref d)]) N H'->Ex f x C dx d t N H'->t[1]?=some (some (.ref a))->N a=some (zD od k)->RWs u.K N l (k.map λp=>kV p.1)->Oq4 u f x C dx Z N (WL.forL (WL.aX 2) (WL.gY 3 (WL.xn tv) (WL.ao 2)) l y)->wpAny (model X.prog X.w) X.A (exec (.For tg texts [.Assign [.Subscript (.Attribute self f ap) name sp] value apos] [] pos) X.env) (SP X e Z) X.xe s:=by
  intro u Z e s H' N l a od k a7 a8 a0 I' R' a4 S e3 rk q';refine qm (wi:=λt H R=>∃J,R J H/\J=Itd a od k/\t[1]?=some (some (.ref a))/\H a=some (zD od k)) hp hc (PI.imp (u9 b0) λt H R a5=>by obtain⟨J,r,ej,S,e3⟩:=a5;exact⟨.ref a,S,a,od,k,rfl,e3,by rw[<-ej];exact r⟩) hg (cE (aas (x:=x) (dx:=dx) a7.symm a8 a0 hu P Q hv hb cl na a9)) hs e s t H' Z I' ?_;refine⟨_,?_,rfl,S,R'.rb.sub _ _ e3⟩;have wk:=l2 e3 rk;refine⟨λj m n U=>m=l.length-j/\j<=l.length/\∃b Y A,n.length=3/\RS u b (n++[some (.ref Y)]) A U/\Ex f x C dx Y n A U/\av N A/\Oq4 u f x C dx Z A (WL.forL (WL.aX 2) (WL.gY 3 (WL.xn tv) (WL.ao 2)) (l.drop j) b),⟨l.length,rfl,aiN _,y,d,N,hl,R',a4,av.refl _,by rw[aj6];exact q'⟩,?_⟩;rintro j m n U⟨rfl,hj,b,Y,A,a2,R1,E,s1,G⟩;by_cases K:j<l.length
  .have hd:=aiQ K;rw[hd]at G;obtain⟨go,yl⟩:=wk.go j l[j] (aiv K) A U s1 R1.rb.sub;refine .inr ⟨go,_,λg H2 h2=>⟨l.length-(j+1),by omega,rfl,K,h2⟩,λv H2 hy=>?_⟩;obtain⟨e4,p,e5,e6⟩:=hy;subst e4 e6;have hr:RW u.K A l[j] (kV p.1):=by obtain⟨v',h1,h2⟩:=rk.get (aiv K);rw[aiK,e5]at h1;cases h1;exact h2.keep s1
   have R2:RS u (b.set 2 (.va l[j])) (n.set 2 (some (kV p.1))++[some (.ref Y)]) A H2:=by have:=R1.set (i:=2) hr;rwa[List.set_append_left _ _ (by omega)]at this
   refine⟨b.set 2 (.va l[j]),Y,A,by rw[alh];exact a2,R2,⟨by rw[aii (by decide)];exact E.sl,E.F,E.H⟩,?_⟩;have G:Oq4 u f x C dx Z A (match WL.gY 3 (WL.xn tv) (WL.ao 2) (b.set 2 (.va l[j]))with|.nx g=>WL.forL (WL.aX 2) (WL.gY 3 (WL.xn tv) (WL.ao 2)) (l.drop (j+1)) g|.ct g=>WL.forL (WL.aX 2) (WL.gY 3 (WL.xn tv) (WL.ao 2)) (l.drop (j+1)) g|.bk g=>.nx g|o=>o):=G;cases O:WL.gY 3 (WL.xn tv) (WL.ao 2) (b.set 2 (.va l[j]))with|nx g=>rw[O]at G;exact λb1 d4 H4 F4 a3 R4 a6 s4=>⟨g,d4,F4,a3,R4,a6,s1.trans s4,Oq4.mono s4 G⟩|ex c g|bad|rt w=>rw[O]at G;exact G|ct g=>exact(qj.1 _ O).elim|bk g=>exact(qj.2 _ O).elim
  .have ei:j=l.length:=by omega
   subst ei;rw[ajs]at G;exact .inl ⟨wk.stop A U s1 R1.rb.sub,G n Y U A a2 R1 E (av.refl _)⟩
 have q:Oq4 B f x C dx D F (WL.ofR y (WL.acj 1 y) λxs=>WL.forL (WL.aX 2) (WL.gY 3 (WL.xn tv) (WL.ao 2)) xs y):=q;unfold WL.acj at q;cases O:y[1]? with|none=>rw[O]at q;exact(q).elim|some sl=>rw[O]at q;cases sl with
 |va w=>cases w with|dic l us=>
    have q:=q;obtain⟨v,S,r2⟩:=R.va 1 _ O;rw[aiD (by omega)]at S;simp only[RW]at r2;obtain⟨a,k,rfl,rd,rk,ru⟩:=r2;rcases rd with rd|⟨od,rd⟩
    .obtain⟨od,I',hn⟩:=I.aeu (R.rb.sub _ _ rd);have w:=R.rb.was rd;have T:x≠a:=λz=>by have:=ex.F;rw[z,rd]at this;cases this
     exact thn (M (B.fz a od k) (aeC D a od k) e s _ _ l a od k hK.symm (hx.fz w hn) (λc y b F h=>a1 c y b _ h) I' (R.fz rd) ⟨ex.sl,by rw[ae T];exact ex.F,by rw[ae T];exact ex.H⟩ S ah (rk.fz rd) (q.fz rd w T)) λf s h=>ac3 hn f s h
    .exact M B D e s H F l a od k hK.symm hx a1 I R ex S rd rk q|_=>exact(q).elim
 |_=>exact(q).elim
end
noncomputable def eV(H:Hp)(x:Addr):Hp:=λb=>if b=x then none else H b
def bG{H x b}(h:b≠x):eV H x b=H b:=aik h
def jb :eV H x x=none:=aij rfl
def ly{H x b o}(h:eV H x b=some o):b≠x/\H b=some o:=by
 by_cases a:b=x;.subst a;rw[jb]at h;cases h
 .rw[bG a]at h;exact⟨a,h⟩
def za  (h:F x=none):eV (upd F x o) x=F:=by
 funext b;by_cases a:b=x;.subst a;rw[jb,h]
 .rw[bG a,ae a]
def vS (s:av F F'):av (eV F x) (eV F' x):=λb o e=>by obtain⟨a,c⟩:=ly e;rw[bG a];exact s b o c
section
variable{K:W.Frag}{F:Hp}{x:Addr}{C dx:Addr}
def RWs.ad2{a}(h:∀b o,F b=some o->a b=some o\/∃C dx,o=.ins C dx []){ws vs}(r:RWs K F ws vs):RWs K a ws vs:=by
 have k:∀{b}{o:HO},F b=some o->(∀C dx,o≠.ins C dx [])->a b=some o:=λ{b o}e n=>by grind
 refine RWs.via (λb f q=>?_) (λb f q=>?_) (λb i q=>?_) (λb d q=>k q λ_ _ z=>nomatch z) (λb d q=>k q λ_ _ z=>nomatch z) (λb C dx l j q=>k q λg c z=>by grind) ws vs r
 .rcases q with(q|⟨o,q⟩)|q;.exact .inl (.inl (k q λ_ _ z=>nomatch z))
  .exact .inl (.inr ⟨o,k q λ_ _ z=>nomatch z⟩)
  .exact .inr q
 .rcases q with(q|⟨o,q⟩)|q;.exact .inl (.inl (k q λ_ _ z=>nomatch z))
  .exact .inl (.inr ⟨o,k q λ_ _ z=>nomatch z⟩)
  .exact .inr q
 .rcases q with q|⟨o,q⟩;.exact .inl (k q λ_ _ z=>nomatch z)
  .exact .inr ⟨o,k q λ_ _ z=>nomatch z⟩
def RWs.out(e:F x=some (.ins C dx [])){ws vs}(r:RWs K F ws vs):RWs K (eV F x) ws vs:=r.ad2 λb o q=>by
 by_cases a:b=x;.subst a;rw[e]at q;cases q;exact .inr ⟨_,_,rfl⟩
 .exact .inl (by rw[bG a];exact q)
theorem XR.out(e:F x=some (.ins C dx [])){c f g}(h:XR K F c f g):XR K (eV F x) c f g:=by cases c with|exc nm fs=>obtain⟨n,p,o,m,j,k⟩:=h;exact⟨n,_,o,m.out e,j.imp id λa=>by obtain⟨d,i,l⟩:=a;exact⟨d,i,by rw[bG λz=>by grind];exact l⟩,k.via λb _ q=>by rw[bG λz=>by grind];exact q⟩|_=>exact h.elim
end
section
variable{B B1:Bx}{σ:Ws}{σV:L2.St}{F H F1 H1:Hp}{x C dx:Addr}
def RB.out(R:RB B1 F H)(f:B1.H0=H1)(c:B1.F0=upd F1 x (.ins C dx []))(h:F1 x=none)(g:B.H0=eV H1 x)(d:B.F0=F1):RB B (eV F x) H:=by
 refine⟨λb o e=>R.sub b o (ly e).2,λb o e=>?_,λb o e=>?_,λb o e=>?_⟩;.rw[g]at e;exact R.base b o (by rw[f];exact(ly e).2)
 .rw[d]at e;have a:b≠x:=λz=>by grind
  rw[bG a];exact R.fz0 b o (by rw[c,ae a];exact e)
 .obtain⟨a,e⟩:=ly e;rw[g,d];rcases R.fr b o e with z|z;.rw[c,ae a]at z;exact .inl z
  .exact .inr ⟨by rw[bG a,<-f];exact z.1,z.2⟩
theorem RS.clr(R:RS B1 σ σV F H)(h:B1.K=B.K)(r:F x=some (.ins C dx []))(o:RB B (eV F x) H):RS B (WL.clr σ) σV (eV F x) H:=by
 have b:∀{i:Nat}{d},(WL.clr σ)[i]?=some d->d=.no\/∃w,d=.va w/\σ[i]?=some (.va w):=λ{i d}e=>by unfold WL.clr at e;rw[aiK]at e;cases g:σ[i]? with|none=>rw[g]at e;cases e|some s0=>rw[g]at e;have e:=aiB e;subst e;cases s0 with|va w=>exact .inr ⟨w,rfl,rfl⟩|_=>exact .inl rfl
 refine⟨o,by rw[<-R.len];simp[WL.clr],λi w e=>?_,λi ws e=>?_,λi j ws l a _ f=>?_,λi p k e=>?_,λi j p k _ _ a _ f=>?_,λi e=>?_⟩
 .rcases b e with z|⟨c,z,m⟩;.cases z
  .cases z;obtain⟨v,n,q⟩:=R.va i w m;exact⟨v,n,by rw[<-h];exact RW.one ((RWs.one q).out r)⟩
 .rcases b e with z|⟨c,z,_⟩<;>cases z
 .rcases b f with z|⟨c,z,_⟩<;>cases z
 .rcases b e with z|⟨c,z,_⟩<;>cases z
 .rcases b f with z|⟨c,z,_⟩<;>cases z
 .rcases b e with z|⟨c,z,_⟩<;>cases z
end
def wQ{a:Ws}{j:Nat}:(∀ws,(WL.clr a)[j]?≠some (.ow ws))/\∀b c,(WL.clr a)[j]?≠some (.od b c):=by unfold WL.clr;rw[aiK];cases a[j]? with|none=>exact⟨λ_ z=>(by cases z),λ_ _ z=>by cases z⟩|some s=>cases s<;>exact⟨λ_ z=>(by cases z),λ_ _ z=>by cases z⟩
def ab8(K:W.Frag)(f:Str)(x dx C:Addr)(F H:Hp)(Q:VK)(E:XK):Res VW->Prop|.ok wd=>∀e a d,H d=none->av F a->av a e->(∀b o,b≠x->H b=some o->e b=some o)->e x=some (.ins C dx [(f,.ref d)])->a x=none->(∀b o,a b=some o->F b=some o\/(b=x\/H b=none)/\NF o)->RW K a wd (.ref d)->Q .non e|.ex c=>∀h g e a,av F a->av a e->(∀b o,b≠x->H b=some o->e b=some o)->(∀b o,a b=some o->F b=some o\/(b=x\/H b=none)/\NF o)->XR K a c h g->E (.ref h) g e|.bad=>False
def spB(K:W.Frag)(f:Str)(d:List VW->Res VW):Sp:=λc H Q E=>∃x b C F w v,c=[.ref x,v]/\H x=some (.ins C b [])/\Cls K C/\aW K C f/\F x=none/\(∀a C b,F a≠some (.ins C b []))/\av F H/\RW K F w v/\ab8 K f x b C F H Q E (d [w])
section
variable{P:Program}{w:World}{K:W.Frag}{mg:Str->Option Value}{base:Heap}
def yX{nm a0 m st f fd n0 n1 n2 k}{fn:List VW->Res VW}{s1 s2 O l D name I tg p0 p1 p2 p3 p4 p5 p6}(t1 t2)(tv)(Fn:Fun K nm a0 st f fd)(S:FnScope [n0,n1,n2] [n0,n1] (af st))(e9:WL.ahc t1 t2 tv=fn)(e0:aC st=[s1,s2,.Assign [.Attribute O m p0] (.Dict [] [] p1) p2,.For tg D [.Assign [.Subscript (.Attribute l m p3) name p4] I p5] [] p6])(h:∀a2 A G s H E X,X=cF (CXX P w) P w K mg base [n0,n1,n2] a0 (af st) f a2 A G s H E->Room k X.A->PassesOwn (model P w) X.A X.env X.xe->(∀B,B.K=K->XW X B->PS X s1 (loS B t1)/\PS X s2 (loS B t2)/\PE X I (lo B tv))/\PE X O (cQ 0)/\PE X l (cQ 0)/\PE X D (cQ 1)/\PE X name (cQ 2)/\PG X tg (L2.aX 2)/\X.calm=true/\attributeBase l m X.env (eval l X.env)=eval l X.env/\swapsWith (.Dict [] [] p1) (some (.Attribute O m p0)) p2.line X.env=pure false/\swapsWith I (some (.Subscript (.Attribute l m p3) name p4)) p5.line X.env=pure false/\∀x,foldedSetIterable D X.env x=pure x):FnOk P w K mg base (CXX P w) (k+1) f fd [n0,n1] (spB K m fn):=by
 subst e9;obtain⟨oc,od,f3,f2,pm,an,a2,ct,f5,rfl,lk,e7⟩:=Fn.ex;refine o8 lk e7 S λvs H Q E a7=>by obtain⟨x,dx,C,F,w,v,e,_⟩:=a7;rw[e];rfl λA G s H vs Q E hr _ a7=>?_;obtain⟨x,dx,C,F,w',v,e,hH,cl,na,hF,d4,sm,r,g⟩:=a7;subst e;obtain⟨X,eX⟩:∃X,X=cF (CXX P w) P w K mg base [n0,n1,n2] a0 (af st) f a2 A G s H E:=⟨_,rfl⟩;rw[<-eX];have b6:Room k X.A:=by rw[eX];exact hr
 have Y:X.K=K:=by rw[eX];rfl
 have a8:PassesOwn (model P w) X.A X.env X.xe:=by rw[eX];exact ajH
 obtain⟨hB,a5,a3,d0,b1,hg,hc,d5,d1,c7,c8⟩:=h a2 A G s H E X eX b6 a8;let Bz:Bx:=⟨K,eV H x,F,λ_ _ _=>False,λ_ _ _ _ _ h=>h⟩;let B0:Bx:=Bz.jS (λc _ M=>∀C dx Z N,av M N->RB Bz N Z->XR K N c C dx->E (.ref C) dx Z) λc U M F2 s h C dx Z N s'=>h C dx Z N (s.trans s');have e8:XW X B0:=λc2 d3 H1 s1 U M c R1 xp e C dx T m t xr=>by subst eX;exact f9 t (xp C dx H1 M (av.refl _) (R1.rb.box rfl rfl) xr)
 let F0:Hp:=upd F x (.ins C dx []);let B1:Bx:=⟨K,H,F0,λc U M=>B0.xp c U (eV M x),λc U M F2 s h=>B0.mono c U _ _ (vS s) h⟩;have c6:∀{M H1:Hp},RB B1 M H1->M x=some (.ins C dx [])/\RB B0 (eV M x) H1:=λ{M H1}R=>⟨R.fz0 x _ ah,R.out rfl rfl hF rfl rfl⟩;have c9:XW X B1:=λc2 d3 H1 s1 U M c R1 xp e Ce b2 T m t xr=>by obtain⟨z1,z2⟩:=c6 R1.rb;subst eX;exact f9 t (xp Ce b2 H1 _ (av.refl _) (z2.box rfl rfl) (xr.out z1))
 obtain⟨h1,h2,_⟩:=hB B1 rfl c9;have hu:X.A.units+1<cLine:=by have:=b6.un;omega
 have h4:=aau (X:=X) (B:=B0) (f:=m) (x:=x) (C:=C) (dx:=dx) (tv:=tv) (ap:=p3) (sp:=p4) (apos:=p5) (pos:=p6) Y (by rw[eX]at a8⊢;exact a8) hc e8 (λc U f7 F h=>h) hu d0 a3 b1 hg (λB' hk hx=>(hB B' (hk.trans Y) hx).2.2) d5 (Y▸cl) (Y▸na) c7 c8;have c5:aC st=[s1,s2,.Assign [.Attribute O m p0] (.Dict [] [] p1) p2,.For tg D [.Assign [.Subscript (.Attribute l m p3) name p4] I p5] [] p6]:=e0;rw[c5];have d9:av F0 H:=λb o e=>by
  by_cases y:b=x;.subst y;have:upd F b (.ins C dx []) b=some o:=e;rw[ah]at this;cases this;exact hH
  .have:upd F x (.ins C dx []) b=some o:=e;rw[ae y]at this;exact sm b o this
 have R0:RS B1 [.ob,.va w',.no] (L2.start [n0,n1,n2] [.ref x,v]) F0 H:=by
  refine⟨⟨d9,av.refl _,av.refl _,λa o e=>.inl e⟩,rfl,λi u e=>?_,λi u e=>?_,λi j u u' a _ e1 _ _ _=>?_,λi u u' e=>?_,λi j u u' _ _ a _ e1 _ _ _=>?_,λi e=>?_⟩;.rcases i with _|_|_|i<;>cases e;exact⟨v,rfl,r.keep (au hF _)⟩
  .rcases i with _|_|_|i<;>cases e
  .rcases i with _|_|_|i<;>cases e1
  .rcases i with _|_|_|i<;>cases e
  .rcases i with _|_|_|i<;>cases e1
  .rcases i with _|_|_|i<;>cases e;exact⟨x,C,dx,rfl,ah⟩
 have g:ab8 K m x dx C F H Q E (match WL.bj t1 t2 [.ob,.va w',.no]with|.nx U=>WL.agv tv U|.ex c _=>.ex c|_=>.bad):=g;have c1:∀{N Z:Hp},RB Bz N Z->∀b o,N b=some o->F b=some o\/(b=x\/H b=none)/\NF o:=λ{N Z}rb b o e=>by
  rcases rb.fr b o e with z|z;.exact .inl z
  .refine .inr ⟨?_,z.2⟩;by_cases y:b=x;.exact .inl y
   .have z1:eV H x b=none:=z.1;rw[bG y]at z1;exact .inr z1
 have b9:∀{N Z:Hp},RB Bz N Z->∀b o,b≠x->H b=some o->Z b=some o:=λ{N Z}rb b o y e=>rb.base b o (by show eV H x b=_;rw[bG y];exact e);have a1:∀{c:VW}{U:Ws},ab8 K m x dx C F H Q E (.ex c)->B0.xp c U F:=λ{c U}q Ce b2 Z N s' rb xr=>q Ce b2 Z N s' rb.sub (b9 rb) (c1 rb) xr;have b8:eV F0 x=F:=za hF;refine⟨_,bD h1 (bD h2 (bD (uZ a5 yw d1) (cE h4))),?_⟩;refine⟨_,F0,R0,?_⟩;unfold WL.bj at g;cases e1:t1 [.ob,.va w',.no]with|bk _|ct _|rt _|bad=>rw[e1]at g;exact g.elim|ex c σ1=>rw[e1]at g;show B0.xp c σ1 (eV F0 x);rw[b8];exact a1 g|nx σ1=>
  rw[e1]at g;intro f1 H1 M R1 s1;refine⟨σ1,M,R1,?_⟩;have g:ab8 K m x dx C F H Q E (match t2 σ1 with|.nx U=>WL.agv tv U|.ex c _=>.ex c|_=>.bad):=g
  cases e2:t2 σ1 with|bk _|ct _|rt _|bad=>rw[e2]at g;exact g.elim|ex c σ2=>
   rw[e2]at g;refine B0.mono c σ2 F _ (λb o e=>?_) (a1 g);have y:b≠x:=λz=>by rw[z,hF]at e;cases e
   rw[bG y];exact s1 b o (by show upd F x _ b=_;rw[ae y];exact e)|nx σ2=>rw[e2]at g;intro J H2 F2 R2 s2;have g:ab8 K m x dx C F H Q E (match(σ2[0]?:Option Sl)with|some .ob=>if σ2.length=3 then WL.agK (WL.vB tv (WL.clr σ2++[.od [] []]))else .bad|_=>.bad):=g;cases e3:σ2[0]? with|none=>rw[e3]at g;exact g.elim|some sl=>rw[e3]at g;cases sl with
 |ob=>
     have g:ab8 K m x dx C F H Q E (if σ2.length=3 then WL.agK (WL.vB tv (WL.clr σ2++[.od [] []]))else .bad):=g;by_cases a4:σ2.length=3;rotate_left;.rw[aik a4]at g;exact g.elim
     rw[aij a4]at g;obtain⟨c0,d6⟩:=c6 R2.rb;have l0:J[0]?=some (some (.ref x)):=by
      obtain⟨a,Ca,f6,g1,g2⟩:=R2.dd.ob 0 e3;rcases R2.rb.fr a _ g2 with z|z
      .by_cases ha:a=x;.subst ha;exact g1
       .have z:upd F x (.ins C dx []) a=_:=z;rw[ae ha]at z;exact(d4 _ _ _ z).elim
      .exact z.2.elim
     have c3:H2 x=some (.ins C dx []):=R2.rb.sub _ _ c0;have b4:J.length=3:=by rw[<-R2.len];exact a4
     have R3:RS B0 (WL.clr σ2) J (eV F2 x) H2:=R2.clr rfl c0 d6;intro p hp;have a9:p≠x:=λz=>by rw[z,c3]at hp;cases hp
     refine⟨.ref x,l0,x,C,dx,[],rfl,by rw[ae (aiu a9)];exact c3,Y▸cl,Y▸na,by decide,?_⟩;have R4:RS B0 (WL.clr σ2) J (eV F2 x) (upd (upd H2 p (.dK [])) x (.ins C dx [(m,.ref p)])):=(R3.adP hp (.dK [])).away _ jb jb (λj ws e=>(wQ.1 ws e).elim) λj ks us e=>(wQ.2 ks us e).elim;have d2:eV F2 x p=none:=by rw[bG a9];exact R2.rb.sub.free hp
     have e6:upd (upd H2 p (.dK [])) x (.ins C dx [(m,.ref p)]) p=some (.dK []):=by rw[ae a9,ah]
     have d7:B0.H0 p=none:=R3.rb.base.free hp;have b7:(WL.clr σ2).length=3:=by rw[<-a4];simp[WL.clr]
     have R5:RS B0 (WL.clr σ2++[.od [] []]) (J++[some (.ref p)]) (eV F2 x) (upd (upd H2 p (.dK [])) x (.ins C dx [(m,.ref p)])):=by
      have:=R4.snoc.ahL (i:=3) (ks:=[]) (us:=[]) d2 d7 e6 (by simp[RWs]) (by simp[RWs]) λj ks us hj ej hv=>by
       by_cases f4:j<3;.rw[aiD (by omega)]at ej;exact(wQ.2 ks us ej).elim
       .rw[aiE (by omega),b7]at ej;cases hz:j-3 with|zero=>exact hj (by omega)|succ n=>rw[hz]at ej;cases ej
      rw[List.set_append_right _ _ (by omega),List.set_append_right _ _ (by omega),b7,b4]at this;exact this
     have c4:av F (eV F2 x):=λb o e=>by
      have y:b≠x:=λz=>by rw[z,hF]at e;cases e
      rw[bG y];exact s2 b o (s1 b o (by show upd F x _ b=_;rw[ae y];exact e))
     refine⟨_,p,eV F2 x,b4,R5,⟨l0,jb,ah⟩,?_⟩;cases e4:WL.vB tv (WL.clr σ2++[.od [] []])with|bk _|ct _|rt _|bad=>rw[e4]at g;exact g|ex c σ3=>rw[e4]at g;exact B0.mono c σ3 F _ c4 (a1 g)|nx σ3=>rw[e4]at g;intro f0 d H3 F3 d8 R6 b0 s6;have g:ab8 K m x dx C F H Q E (match(σ3[3]?:Option Sl)with|some (.od ks us)=>.ok (.dic ks us)|_=>.bad):=g;cases e5:σ3[3]? with
   |none=>rw[e5]at g;exact g.elim
    |some sl=>rw[e5]at g;cases sl with|od ks us=>
        obtain⟨a,b3,k1,k2,k3,k4,k5,k6⟩:=R6.dd.od 3 ks us e5;rw[aiE (by omega),d8]at k1;cases k1;have a6:d≠x:=λz=>by rw[z,b0.H]at k4;cases k4
        have sD:av F3 (upd F3 d (.dK b3)):=au k2 _;have b5:RB Bz F3 H3:=R6.rb.box rfl rfl;refine g H3 (upd F3 d (.dK b3)) d (by have k3:eV H x d=none:=k3;rw[bG a6]at k3;exact k3) ((c4.trans s6).trans sD) (λb o e=>?_) (b9 b5) b0.H (by rw[ae (aiu a6)];exact b0.F) (λb o e=>?_) (by simp only[RW];exact⟨d,b3,rfl,.inl ah,k5.keep sD,k6.keep sD⟩)
        .by_cases y:b=d;.subst y;rw[ah]at e;cases e;exact k4
         .rw[ae y]at e;exact R6.rb.sub b o e
        .by_cases y:b=d;.subst y;rw[ah]at e;cases e;have k3:eV H x b=none:=k3;rw[bG a6]at k3;exact .inr ⟨.inr k3,trivial⟩
         .rw[ae y]at e;exact c1 b5 b o e|_=>exact g.elim
  |_=>exact g.elim
end
noncomputable def noI(F:Hp):Hp:=λb=>match F b with|some (.ins _ _ [])=>none|o=>o
def qE{F b o}(h:noI F b=some o):F b=some o:=by
 unfold noI at h;split at h;.cases h
 .exact h
def adO{F b o}(h:F b=some o):noI F b=some o\/∃C a,o=.ins C a []:=by
 unfold noI;rw[h];split;.rename_i C a e;cases e;exact .inr ⟨C,a,rfl⟩
 .exact .inl rfl
noncomputable def jo(F a:Hp):Hp:=λb=>match F b with|some o=>some o|none=>a b
def aeh{F a b o}(h:F b=some o):jo F a b=some o:=by unfold jo;rw[h]
def aeg{F a b}(h:F b=none):jo F a b=a b:=by unfold jo;rw[h]
def aeV(P:Program)(w:World)(K:W.Frag)(c:Str->Option Value)(a:Heap)(k:Nat)(fI:Addr)(ps:List Str)(sp:Sp):Prop:=∃b:FuncData,FnOk P w K c a (CXX P w) k fI b ps sp/\Binds K b ps []
def qP{P:Program}{w:World}{K:W.Frag}{i:Str->Option Value}{b:Heap}{k:Nat}{f:Addr}{a:Str}{st:Stmt}{ps:List Str}{sp:Sp}(D:∃c,Fun K "__init__" a st f c)(m:∀(kV d l:Value)(j:Option Addr)(g ct:Value)(e:List Value),e.length=ps.length->bindArgs (W.fnOf "__init__" a (aV st) (aC st) (af st) .none kV d l j g ct) ⟨e,[]⟩=pure (ps.zip e))(h:∀c:FuncData,Fun K "__init__" a st f c->FnOk P w K i b (CXX P w) k f c ps sp):aeV P w K i b k f ps sp:=by obtain⟨c,F⟩:=D;exact⟨c,h c F,F.binds m⟩
def un1{n:Nat}(h:n+64<cLine):n+1<cLine:=by omega
end WS
namespace L2
open PySem PySem.Spec PyProof.Rows
section
variable{X:Cx}{k:Nat}{f C:Addr}{fd:FuncData}{ps:List Str}{sp:Sp}{dvs:List V}{ds:List Value}{m:Str}{apos pos:Pos}{o e:Expr}{es:List Expr}{ta:TE}{t:TA}
def p9(X:Cx)(C:Addr)(m:Str)(sp:Sp)(dvs:List V)(ta:TE)(t:TA):TE:=λd H Q=>ta d H λx g=>∃a j fs,x=.ref a/\g a=some (.ins C j fs)/\fs.lookup m=none/\t d g λl n=>∃E:XK,sp (x::(l++dvs)) n Q E/\∀c s e i b T h,Thr X c d h s e i b .none (some T)->E (.ref i) b h->X.xe (.ref e) s
def kY{pl}(A:PE X o ta)(c:Cls X.K C)(j:Meth X.K C m f)(F:FnOk X.prog X.w X.K X.mg X.base (CXX X.prog X.w) k f fd ps sp)(z:Room k X.A)(K:Binds X.K fd ps ds)(O:Vals dvs ds)(J:PA X (e::es) t)(g:SE X e es:=by rfl)(d:BT X pos es:=by rfl)(B:eval (.Call (.Attribute o m apos) (e::es) [] pos) X.env=(do
  let n <-eval o X.env
  standAt apos.atName let(f,first)<-holding [n] (getMethod n m pl)callWith pos f first (backTo pos (starEach (e::es) X.env)) (backToKw pos (keywordEach [] X.env))):=by rfl):PE X (.Call (.Attribute o m apos) (e::es) [] pos) (p9 X C m sp dvs ta t):=by intro b s w H Q I h;refine W.methodCall_KW (thn (A b s w H _ I h) λu G i=>?_) B;obtain⟨x,y,p,D,a,T,fs,ex,M,l,q⟩:=i;subst ex;obtain rfl:=D;exact sA p M c j l (ak3  I.ok.mod.kin j.kp (thn (J pos b G w y _ p q) λS R⟨vs,U,v,r,E,N,P⟩=>⟨v.kIn,uP (vs:=.ref a::vs) F z K O P v (.cons rfl r) N⟩) g d)
end
end L2
namespace WS
open PySem PySem.Spec PyProof.Rows L2
open WL(Res Sl Ws EF TF AF LF GF GsF SF Out OX RF Rn AXF)
section
variable{B:Bx}{σ:Ws}{σV:L2.St}{F H:Hp}{x:Addr}{o:HO}
def RS.ah6(R:RS B σ σV F H)(p:F x=none)(k:B.H0 x=none)(j:H x=some o)(A:NF o)(D:∀l,o≠.lst l)(nd:∀l,o≠.dK l):RS B σ σV (upd F x o) H:=by
 have s:av F (upd F x o):=au p _;refine⟨⟨λb u q=>?_,R.rb.base,R.rb.fz0.trans s,λb u q=>?_⟩,R.len,λi w q=>?_,λi ws q=>?_,R.ap,λi y m q=>?_,R.dd.ad,λi q=>?_⟩
 .by_cases e:b=x;.subst e;rw[ah]at q;cases q;exact j
  .rw[ae e]at q;exact R.rb.sub b u q
 .by_cases e:b=x;.subst e;rw[ah]at q;cases q;exact .inr ⟨k,A⟩
  .rw[ae e]at q;exact R.rb.fr b u q
 .obtain⟨v,c,d⟩:=R.va i w q;exact⟨v,c,d.keep s⟩
 .refine jB (R.ow i ws q) λa t c d h f g=>?_;have e:a≠x:=λz=>by grind
  exact tm a t c (by rw[ae e];exact d) h f (g.keep s)
 .refine aaj (R.dd.od i y m q) λa l c d h f g r=>?_;exact aca a l c (by rw[ae λz=>by grind];exact d) h f (g.keep s) (r.keep s)
 .refine pO (R.dd.ob i q) λa C n c d=>?_;exact xA a C n c (s _ _ d)
end
section
variable{X:Cx}{B:Bx}{fl x:Str}{c:String}{C f:Addr}{fd:FuncData}{ps:List Str}{k:Nat}{fn:List VW->Res VW}{e:Expr}{es:List Expr}{tas:AF}{p pos pos':Pos}
def xO(Z:X.K=B.K)(hx:XW X B)(M:Mk X.K C f)(cl:Cls X.K C)(na:aW X.K C fl)(a6:W.nsIn X.K mainGlobals (Str.ofString c)=some (some (.ref C)))(a5:WL.gi c=[fl])(G:FnOk X.prog X.w X.K X.mg X.base (CXX X.prog X.w) k f fd ps (spB X.K fl fn))(hr:Room (k+1) X.A)(hg:Gl X x)(hm:X.mg x=some (.ref C))(hb:Binds X.K fd ps [])(ha:PA X (e::es) (loA B tas))(hn:∀m ws,tas m=.ok ws->ws.length=1:=by repeat first|exact kE|apply fc)(a7:Dbg x:=by decide)(he:SE X e es:=by rfl)(a1:BT X pos es:=by rfl):PE X (.Call (.Name x p) (e::es) [] pos) (lo B (WL.nH c fn tas)):=PE.imp (qp M G hr hg hm hb .nil ha a7 he a1) λI H Q a4=>by obtain⟨m,F,R,q⟩:=a4;have q:=Rq.bind q;refine⟨m,F,R,?_⟩;cases ea:tas m with|bad|ex c=>rw[ea]at q;exact q|ok ws=>
 rw[ea]at q;have hl:=hn m ws ea;obtain⟨w,rfl⟩:∃w,ws=[w]:=by match ws,hl with|[w],_=>exact⟨w,rfl⟩
 have q:=Rq.bind (show Rq B m F ((fn [w]).bind λwd=>Res.ok (WL.W.ins c [wd])) _ from q);intro vs E h l g1 r1 x r A a3 b0;obtain⟨v,rfl,r3⟩:=bM r1;rw[aiS];have U:∀b o,E b=some o->b≠x/\b≠r/\upd (upd E r (.own x)) x (.ins C r []) b=some o:=λb o z=>by
  have O:b≠x:=λy=>by rw[y,A]at z;cases z
  have K:b≠r:=λy=>by rw[y,a3]at z;cases z
  exact⟨O,K,by rw[ae O,ae K];exact z⟩
 have ext:∀{g j:Hp},av (noI h) g->av g j->(∀b o,b≠x->upd (upd E r (.own x)) x (.ins C r []) b=some o->j b=some o)->(∀b o,g b=some o->noI h b=some o\/(b=x\/upd (upd E r (.own x)) x (.ins C r []) b=none)/\NF o)->Gr h E (jo h g) j/\RB B (jo h g) j/\av g (jo h g):=λ{g j}s1 N s3 fr=>by
  have sH:av E j:=λb o z=>s3 b o (U b o z).1 (U b o z).2.2;have Y:∀b o,g b=some o->h b=none->E b=none/\NF o:=λb o z n=>by
   rcases fr b o z with y|⟨y,nf⟩;.rw[qE y]at n;cases n
   .refine⟨?_,nf⟩;rcases y with y|y;.rw[y];exact A
    .cases i:E b with|none=>rfl|some u=>rw[(U b u i).2.2]at y;cases y
  refine⟨⟨λb o z=>aeh z,sH,λb o z n=>?_⟩,⟨λb o z=>?_,l.rb.base.trans sH,λb o z=>aeh (l.rb.fz0 b o z),λb o z=>?_⟩,λb o z=>?_⟩;.rw[aeg n];cases e2:g b with|none=>rfl|some u=>rw[(Y b u e2 n).1]at z;cases z
  .cases i:h b with|some u=>rw[aeh i]at z;cases z;exact sH b _ (l.rb.sub b _ i)|none=>rw[aeg i]at z;exact N b o z
  .cases i:h b with|some u=>rw[aeh i]at z;cases z;exact l.rb.fr b _ i|none=>rw[aeg i]at z;obtain⟨O,K⟩:=Y b o z i;exact .inr ⟨l.rb.base.free O,K⟩
  .cases i:h b with|none=>rw[aeg i];exact z|some u=>have O:=sH b _ (l.rb.sub b _ i);have K:=N b o z;rw[O]at K;cases K;exact aeh i
 have a0:h x=none:=l.rb.sub.free A;refine⟨λS D j=>∃Ca g c,S=.ref Ca/\RS B m I g j/\B.xp c m g/\XR B.K g c Ca D,?_,λP s e S D T H' t⟨Ca,g,c,ec,R2,xp,xr⟩=>?_⟩
 .refine⟨x,r,C,noI h,w,v,rfl,ah,cl,na,?_,λa Ca da z=>?_,λb o z=>?_,?_,?_⟩;.cases i:noI h x with|none=>rfl|some u=>have:=l.rb.sub x _ (qE i);rw[A]at this;cases this
  .have:=qE z;unfold noI at z;rw[this]at z;cases z
  .exact(U b o (l.rb.sub b o (qE z))).2.2
  .rw[Z];exact RW.one ((RWs.one r3).ad2 λb o z=>adO z)
  .cases ef:fn [w]with|bad=>rw[ef]at q;exact q|ok wd=>
    rw[ef]at q;intro j g d _ s1 N s3 a2 a9 fr a8;obtain⟨J,rb,sj⟩:=ext s1 N s3 fr;have fx:jo h g x=none:=by rw[aeg a0];exact a9
    have R3:RS B m I (upd (jo h g) x (.ins C r [(fl,.ref d)])) j:=(l.grow J rb).ah6 fx (l.rb.base.free A) a2 trivial (λ_ z=>nomatch z) λ_ z=>nomatch z;refine⟨rfl,(show∀v H' F',_ from q) (.ref x) j _ R3 (g1.trans ⟨J.f.trans (au fx _),J.h,λb o z n=>?_⟩) ?_⟩;.rw[ae (U b o z).1];exact J.nf b o z n
    .simp only[RW];refine⟨x,C,r,[(fl,.ref d)],rfl,ah,Z▸a6,a5.symm,by simp,RWs.one ?_⟩;exact(show RW B.K g wd (.ref d)from Z▸a8).keep (sj.trans (au fx _))|ex c=>rw[ef]at q;intro S D j g s1 N s3 fr xr;obtain⟨J,rb,sj⟩:=ext s1 N s3 fr;exact⟨S,jo h g,c,rfl,l.grow J rb,B.mono c m F _ (g1.f.trans J.f) q,(Z▸xr).keep sj⟩
 .cases ec;exact hx P I H' s m g c R2 xp e S D (some T) _ t (by rw[Z];exact xr)
def aaC{o t}(J:X.K=B.K)(D:W.nsIn X.K mainGlobals (Str.ofString c)=some (some (.ref C)))(cl:Cls X.K C)(P:aW X.K C fl)(m:WL.gi c=[fl])(S:PE X o (lo B t))(I:attributeBase o fl X.env (eval o X.env)=eval o X.env:=by rfl):PE X (.Attribute o fl pos) (lo B (WL.zl c t)):=PE.imp (qq S I) λE H Q l=>by
 refine cH l λM F R q=>?_;have q:=Rq.bind q;refine cG M F R (Rq.mono (av.refl _) q λy h v A s z N O=>?_);unfold WL.ahp at h;split at h
 .rename_i T w;split at h
  .rename_i d;have d:=eq_of_beq d;subst d;refine aeW O λa U K i n G u j _ r=>?_;subst n;rw[<-J,D]at u;cases u;rw[m]at j;obtain⟨b,rfl,r⟩:∃b,i=[(fl,b)]/\RWs B.K s [w] [b]:=by match i,j,r with
 |[(g,b)],j,r=>
     have:g=fl:=by simpa using j
     subst this;exact⟨b,rfl,r⟩
   exact acr a C K _ b rfl (z.rb.sub _ _ G) cl P (by simp[List.lookup]) (h b A s z N (RW.one r))
  .exact(h).elim
 .exact(h).elim
def yM{o:Expr}{w m n}(G:X.K=B.K)(U:XW X B)(M:W.nsIn X.K mainGlobals (Str.ofString c)=some (some (.ref C)))(s:WL.gi c=[fl])(r:(m==fl)=false)(Y:∀g ws,tas g=.ok ws->ws.length+1=n):∀d H Q,lo B (WL.nG c fn w tas) d H Q->p9 X C m (spX X.K n fn) [] (lo B w) (loA B tas) d H Q:=by
 intro d H Q⟨g,F,R,q⟩;have q:=Rq.bind q;refine⟨g,F,R,Rq.mono (av.refl _) q λy b v H0 K A D u=>?_⟩;by_cases h:WL.isI c y=true
 .rw[aij h]at b;obtain⟨z,rfl⟩:∃z,y=.ins c [z]:=by
   unfold WL.isI at h;split at h;.rw[eq_of_beq h];exact⟨_,rfl⟩
   .cases h
  have i:=u;simp only[RW]at i;refine aeW i λa C' O l t N E P _ _=>?_;subst t;rw[<-G,M]at E;cases E;rw[s]at P;obtain⟨J,rfl⟩:∃J,l=[(fl,J)]:=by simp_all
  refine⟨a,O,_,rfl,A.rb.sub _ _ N,by simp[List.lookup,r],g,K,A,?_⟩;cases j:tas g with|bad=>rw[j]at b;exact b|ex c=>rw[j]at b;exact B.mono c g F K D.f b|ok ws=>rw[j]at b;exact λvs Z F1 T I S=>kQ G U T (D.trans I) (.cons (u.keep I.f) S) (by rw[ait];exact Y g ws j) b (by rw[aiS])
 .rw[aik h]at b;exact(show False from b).elim
end
end WS
namespace L2
open PySem PySem.Spec PyProof.Rows
section
variable{X:Cx}
def mM(h:X.A.units+1<cLine):OpR X (compareOp .NotIn) λx y H Q=>∃a o,y=.ref a/\ahz H a x o/\Q (.bl !o.isSome) H:=by intro b s i H x y v u Q I f c⟨a,o,e,g,q⟩;subst e;cases c;exact abW h I g f λj d=>⟨.bl _,H,d,rfl,q⟩
end
end L2
namespace WS
open PySem PySem.Spec PyProof.Rows L2
open WL(Res Sl Ws EF TF AF LF GF GsF SF Out OX RF Rn AXF)
section
variable{X:Cx}{B:Bx}{K:W.Frag}
def pG:Calm WL.iW:=λx y c h=>by
 unfold WL.iW at h;split at h;.split at h<;>cases h
 .exact eu _ _ _ h
def aer{F k a}(c:RW K F k (kV a)){b ks}(r:RWs K F ks (b.map λp=>kV p.1)):WL.abY k ks=(kM b a).isSome:=by rw[pA c r,hJ]
def xS(m:X.K=K)(l:X.A.units+64<cLine):OpR X (compareOp .NotIn) (lo2 K WL.iW):=by
 intro i s g H x y v u Q I k f⟨F,wx,p,h,d,j,q⟩;unfold WL.iW at q;split at q
 .split at q;.rename_i o;obtain⟨c,rfl⟩:=vH o d;refine jO j λa b e rd n _=>?_;subst e;rw[aer d n]at q;exact mM (un1 l) _ s g H _ _ v u Q I k f ⟨a,_,rfl,.inl ⟨b,c,h.rd rd,rfl,rfl⟩,eq1 q (rfl)⟩
  .exact q.elim
 .exact kK m l _ s g H x y v u Q I k f (n9 F _ _ h d j q)
theorem qW{F k b}(c:RW K F k (kV b))(w:VW):∀{a ks us},RWs K F ks (a.map λp=>kV p.1)->RWs K F us (a.map λp=>p.2)->WL.sS k ks us=some w->∃v,kM a b=some v/\RW K F w v
|[],ks,us,r1,r2,e=>by cases ks with|nil=>cases e|cons x ks=>simp[RWs]at r1
|p::a,ks,us,r1,r2,e=>by cases ks with|nil=>cases e|cons x ks=>cases us with|nil=>cases e|cons y us=>
  obtain⟨s,o,m,g,n⟩:=r1;obtain⟨r,q,i,l,f⟩:=r2;cases m;cases i;unfold WL.sS at e;rw[lp g c]at e;by_cases h:p.1=b;.rw[akz h]at e;cases e;exact⟨_,cq h,l⟩
  .rw[ai3 h]at e;obtain⟨v,j,d⟩:=qW c w n f e;exact⟨v,by rw[cu h];exact j,d⟩
def zx:Calm WL.ach:=λx y c h=>by
 unfold WL.ach at h;split at h
 .split at h;.revert h;cases WL.sS _ _ _<;>simp[WL.ofO]
  .cases h
 .exact wW _ _ _ h
def afy(A:X.K=K):IxR X (lo2 K WL.ach):=by
 intro f b k s m H x y v u Q I l h⟨F,wx,r,i,n,c,q⟩j;unfold WL.ach at q;split at q
 .rename_i p o;split at q;.rename_i C;obtain⟨g,rfl⟩:=vH C c;obtain⟨a,d,rfl,rd,G,E⟩:=n;cases e:WL.sS r p o with|none=>rw[e]at q;exact q.elim|some w=>rw[e]at q;obtain⟨z,D,t⟩:=qW c w G E e;exact vM _ _ _ s m H _ _ v u Q I l h ⟨a,d,g,z,rfl,rfl,i.rd rd,D,eq1 q t⟩ j
  .exact q.elim
 .exact ag2 A _ _ _ s m H x y v u Q I l h ⟨F,_,_,i,n,c,q⟩ j
variable{i:Nat}{pos pos':Pos}{x:Str}
end
def spO(K:W.Frag)(n:Nat)(f:List VW->Res VW):Sp:=λi H Q E=>∃F ws,av F H/\RWs K F ws i/\ws.length=n/\match f ws with|.ok w=>∃h,w=.lst h/\∀a e d b,av F b->av b d->av H d->(∀a o,b a=some o->F a=some o\/H a=none/\NF o)->b a=none->H a=none->d a=some (.lst e)->RWs K b h e->Q (.ref a) d|.ex c=>∀C g d b,av F b->av b d->av H d->(∀a o,b a=some o->F a=some o\/H a=none/\NF o)->XR K b c C g->E (.ref C) g d|.bad=>False
def OqO(B:Bx)(D:Ends)(F:Hp)(l:LF):Out->Prop|.nx σ'=>Rq B σ' F (l σ') λws=>∀a e d b,RB B b d->av F b->b a=none->B.H0 a=none->d a=some (.lst e)->RWs B.K b ws e->D.rt (.ref a) d|.ex c σ'=>B.xp c σ' F|_=>False
def ahl(B:Bx)(t:SF)(l:LF):TS:=λD a H=>∃b F,RS B b a F H/\OqO B D F l (t b)
section
variable{X:Cx}{B:Bx}{t:SF}{l:LF}{e:Expr}{s1:Stmt}{pos:Pos}
def xI(f:PS X s1 (loS B t))(r:PE X e (loL B l)):PSs X [s1,.Return (some e) pos] (ahl B t l):=PSs.imp (bD f (cE (uX r))) λD o H d=>by refine cH d λh F R q=>?_;refine cG h F R ?_;cases b:t h with|nx σ'=>rw[b]at q;exact λj v s m i=>cG _ s m (Rq.mono i q λw k a x y z R2 g f u p n _=>k a _ _ _ R2.rb (i.trans g.f) f u p n)|ex c σ'=>rw[b]at q;exact q|rt _=>rw[b]at q;exact q.elim|bk _=>rw[b]at q;exact q.elim|ct _=>rw[b]at q;exact q.elim|bad=>rw[b]at q;exact q.elim
end
section
variable{P:Program}{w:World}{K:W.Frag}{mg:Str->Option Value}{base:Heap}
def abV{x d st f fd N ps k m n}{fn:List VW->Res VW}(t)(l)(Fn:Fun K x d st f fd)(S:FnScope N ps (af st))(hn:N.length=n)(g:ps.length=m)(U:WL.aaY n t l=fn)(a3:ps.length<=N.length)(h:∀i A b s H E B,B.K=K->Room k (A.deeper (envOfC d (af st) s.heap.objs.size f i))->XW (cF (CXX P w) P w K mg base N d (af st) f i A b s H E) B->PassesOwn (model P w) (cF (CXX P w) P w K mg base N d (af st) f i A b s H E).A (cF (CXX P w) P w K mg base N d (af st) f i A b s H E).env (cF (CXX P w) P w K mg base N d (af st) f i A b s H E).xe->PSs (cF (CXX P w) P w K mg base N d (af st) f i A b s H E) (aC st) (ahl B t l)):FnOk P w K mg base (CXX P w) (k+1) f fd ps (spO K m fn):=by subst hn g U;refine aai Fn.ex λoc od kV a1 pm an i ct a2 J lk M=>?_;subst J;refine o8 lk M S (λO H Q E y=>by refine jO y λF ws _ r Y _=>?_;rw[<-r.length];exact Y) λA b s H O Q E hr _ y=>?_;refine jO y λF ws sm r Y g=>?_;let Z:Bx:=⟨K,H,F,λ_ _ _=>False,λ_ _ _ _ _ h=>h⟩;let I:Bx:=Z.jS (λc _ G=>∀C p o j,av G j->RB Z j o->XR K j c C p->E (.ref C) p o) λc σ G F2 s h C p o j v=>h C p o j (s.trans v);refine⟨_,h i A b s H E I rfl hr (λX a0 H1 s1 σ G c R1 xp e C p T fl t D=>f9 t (xp C p H1 G (av.refl _) (R1.rb.box rfl rfl) D)) ajH,_,F,(RS.start sm r (by omega)).box (B':=I) rfl rfl rfl,?_⟩;unfold WL.aaY at g;cases e:t _ with
|nx σ'=>rw[e]at g;unfold WL.agJ at g;dsimp only at g;show Rq I σ' F (l σ') _;cases R:l σ' with|bad=>rw[R]at g;exact g.elim|ex c=>rw[R]at g;exact λC p o j v u D=>(show∀C p o j,_ from g) C p o j v u.sub u.base u.fr D|ok xs=>rw[R]at g;obtain⟨z,ex,q⟩:∃z,WL.W.lst xs=.lst z/\_:=g;cases ex;exact λa O o j u v h1 h2 h3 h4=>q a O o j v u.sub u.base u.fr h1 h2 h3 h4
|ex c σ'=>rw[e]at g;exact λC p o j v u D=>g C p o j v u.sub u.base u.fr D|rt _=>rw[e]at g;exact g.elim|bk σ'=>rw[e]at g;exact g.elim|ct σ'=>rw[e]at g;exact g.elim|bad=>rw[e]at g;exact g.elim
def yc{n t l}{ws:List VW}{w:VW}(h:WL.aaY n t l ws=.ok w):∃a,w=.lst a:=by
 unfold WL.aaY WL.agJ at h;split at h;.revert h;cases l _ with|ok a=>intro h;exact⟨a,(Res.ok.inj h).symm⟩|ex c|bad=>intro h;cases h
 .cases h
 .cases h
def FnOk.ofO{f q ps k m g}(F:FnOk P w K mg base (CXX P w) k f q ps (spO K m g))(D:∀ws w,g ws=.ok w->∃j,w=.lst j):FnOk P w K mg base (CXX P w) k f q ps (spX K m g):=F.imp λG H Q E l=>by refine jO l λF ws A C B h=>?_;refine aal F ws A C B ?_;cases e:g ws with|bad|ex c=>rw[e]at h;exact h|ok w=>
   rw[e]at h;obtain⟨j,rfl⟩:=D ws w e;refine⟨j,rfl,λa n t v u s y fr p x i r=>h _ t (upd v a (.lst n)) (u.trans (au p _)) (λb o z=>?_) y (λb o z=>?_) ?_⟩
   .by_cases d:b=a;.subst d;rw[ah]at z;cases z;exact i
    .rw[ae d]at z;exact s b o z
   .by_cases d:b=a;.subst d;rw[ah]at z;cases z;exact .inr ⟨x,trivial⟩
    .rw[ae d]at z;exact fr b o z
   .exact⟨a,n,rfl,SqL.of ah,r.keep (au p _)⟩
end
def rh(P:Program)(w:World)(K:W.Frag)(c:Str->Option Value)(a:Heap)(k:Nat)(C f:Addr)(m:Str)(ps:List Str)(sp:Sp):Prop:=Meth K C m f/\∃b:FuncData,FnOk P w K c a (CXX P w) k f b ps sp/\Binds K b ps []
def adS{K f nm a st j od g e kV d i b ct}(l:K.lookup f=some ⟨j,od,.func (W.fnOf nm a (aV st) (aC st) (af st) .none kV d i g b ct),e⟩)(c:W.codeIn K b a=true)(q:W.keepIn K (.ref f)=true):∃h,Fun K nm a st f h:=⟨_,vX l c q⟩
def iZ{P w K i b k C f nm a st ps sp}(M:Meth K C nm f)(D:∃c,Fun K nm a st f c)(m:∀kV d l j g ct e,e.length=ps.length->bindArgs (W.fnOf nm a (aV st) (aC st) (af st) .none kV d l j g ct) ⟨e,[]⟩=pure (ps.zip e))(h:∀c,Fun K nm a st f c->FnOk P w K i b (CXX P w) k f c ps sp):rh P w K i b k C f nm ps sp:=by obtain⟨c,F⟩:=D;exact⟨M,c,h _ F,F.binds m⟩
def rh.x{P w K c a k m n C f nm ps t l}(h:rh P w K c a k C f nm ps (spO K m (WL.aaY n t l))):rh P w K c a k C f nm ps (spX K m (WL.aaY n t l)):=by obtain⟨M,d,F,b⟩:=h;exact⟨M,d,FnOk.ofO F λws w e=>yc e,b⟩
section
variable{X:Cx}{B:Bx}{a b e o:Expr}{ta tb to:EF}{pos pos' cpos apos p:Pos}{x fl m nx_:Str}{es:List Expr}{tas:AF}{i j k n d:Nat}{C f g:Addr}{ps:List Str}{fn:List VW->Res VW}{c:String}{pl:Sem Bool}
def wxD(l:B.K=X.K)(q:PE X a (lo B ta))(r:PE X b (lo B tb))(h:gC b:=by exact λ_ _=>rfl):PE X (.Subscript a b pos) (lo B (WL.eOp WL.ach ta tb)):=acF zx (afy l.symm) q r h
def flI(s:B.K=X.K)(l:W.nsIn X.K mainGlobals (Str.ofString c)=some (some (.ref C)))(cl:Cls X.K C)(q:aW X.K C fl)(r:PE X o (lo B to))(h:WL.gi c=[fl]:=by rfl)(t:attributeBase o fl X.env (eval o X.env)=eval o X.env:=by rfl):PE X (.Attribute o fl pos) (lo B (WL.zl c to)):=aaC s.symm l cl q h r t
def mkI(r:B.K=X.K)(y:Room j X.A)(E:XW X B)(M:Mk X.K C f)(cl:Cls X.K C)(A:aW X.K C fl)(v:W.nsIn X.K mainGlobals (Str.ofString c)=some (some (.ref C)))(G:aeV X.prog X.w X.K X.mg X.base k f ps (spB X.K fl fn))(t:X.mg x=some (.ref C))(D:PA X (e::es) (loA B tas))(w:k+1<=j:=by decide)(H:∀u ws,tas u=.ok ws->ws.length=1:=by repeat first|exact kE|apply fc)(q:WL.gi c=[fl]:=by rfl)(s:Gl X x:=by rfl)(l:Dbg x:=by decide)(z:SE X e es:=by rfl)(h:BT X pos es:=by rfl):PE X (.Call (.Name x p) (e::es) [] pos) (lo B (WL.nH c fn tas)):=by obtain⟨I,F,b⟩:=G;exact xO r.symm E M cl A v q F (y.mono w) s t b D H l z h
def meI(t:B.K=X.K)(y:Room j X.A)(E:XW X B)(v:W.nsIn X.K mainGlobals (Str.ofString c)=some (some (.ref C)))(cl:Cls X.K C)(G:rh X.prog X.w X.K X.mg X.base k C g m ps (spX X.K n fn))(A:PE X o (lo B to))(D:PA X (e::es) (loA B tas))(H:∀u ws,tas u=.ok ws->ws.length+1=n)(w:k<=j:=by decide)(r:WL.gi c=[fl]:=by rfl)(q:(m==fl)=false:=by decide)(h:SE X e es:=by rfl)(l:BT X pos es:=by rfl)(z:eval (.Call (.Attribute o m apos) (e::es) [] pos) X.env=(do
  let s <-eval o X.env
  standAt apos.atName let(f,first)<-holding [s] (getMethod s m pl)callWith pos f first (backTo pos (starEach (e::es) X.env)) (backToKw pos (keywordEach [] X.env))):=by rfl):PE X (.Call (.Attribute o m apos) (e::es) [] pos) (lo B (WL.nG c fn to tas)):=by obtain⟨M,I,F,b⟩:=G;exact PE.imp (kY A cl M F (y.mono w) b .nil D h l z) (yM (o:=o) t.symm E v r q H)
end
noncomputable def adr:List (Addr×Addr)->List Addr|[]=>[]|(b,c)::r=>b::c::adr r
section
variable{B:Bx}{a:Addr}{r:List (Addr×Addr)}{fs:Fs}{F H F' H':Hp}
variable{g:List (Nat×Addr)}{j:Nat}{σ:Ws}{σV:L2.St}
open Classical in noncomputable def fzS(F H:Hp)(l:List Addr):Hp:=λx=>if x∈l then H x else F x
def dM{l:List Addr}{x:Addr}(h:x∈l):fzS F H l x=H x:=aij h
def aQ{l:List Addr}{x:Addr}(h:x∉l):fzS F H l x=F x:=aik h
end
section
variable{B:Bx}{l:List Addr}{σ:Ws}{σV:L2.St}{F H F' H':Hp}
abbrev hZ(B:Bx)(H:Hp)(l:List Addr):Bx:=⟨B.K,fzS B.H0 H l,B.F0,B.xp,B.mono⟩
def RS.inS(R:RS B σ σV F H)(v:∀x∈l,F x=none)(ap:∀(k:Nat)(ws:List VW)x,σ[k]?=some (.ow ws)->σV[k]?=some (some (.ref x))->x∉l)(ad:∀x∈l,∀(k:Nat)(d c:List VW),σ[k]?=some (.od d c)->σV[k]?≠some (some (.ref x))):RS (hZ B H l) σ σV F H:=by
 refine⟨⟨R.rb.sub,λx o q=>?_,R.rb.fz0,λx o q=>?_⟩,R.len,R.va,λk ws e=>?_,R.ap,R.dd.via rfl id (λ_ _ z=>.inl z) (λ_ _ _ e=>⟨e,rfl⟩) (av.refl _) λk d c b j u t g r h=>⟨r,?_,g⟩⟩
 .have q:fzS B.H0 H l x=some o:=q;by_cases a:x∈l;.rw[dM a]at q;exact q
  .rw[aQ a]at q;exact R.rb.base x o q
 .rcases R.rb.fr x o q with z|z;.exact .inl z
  .refine .inr ⟨?_,z.2⟩;show fzS B.H0 H l x=none;rw[aQ λa=>by grind];exact z.1
 .refine jB (R.ow k ws e) λb m f s p i n=>?_;refine tm b m f s ?_ i n;show fzS B.H0 H l b=none;rw[aQ (ap k ws b e f)];exact p
 .show fzS B.H0 H l b=none;rw[aQ λa=>ad b a k d c u t];exact h
def RS.ae6(R:RS (hZ B H l) σ σV F' H')(r:∀x∈l,B.H0 x=none)(t:∀x∈l,∃o,H x=some o):RS B σ σV F' H':=by
 have n:∀{x},fzS B.H0 H l x=none->B.H0 x=none:=λ{x}z=>by
  by_cases a:x∈l;.exact r x a
  .rw[aQ a]at z;exact z
 refine⟨⟨R.rb.sub,λx o q=>?_,R.rb.fz0,λx o q=>?_⟩,R.len,R.va,λk ws e=>?_,R.ap,R.dd.via rfl id (λ_ _ z=>.inl z) (λ_ _ _ e=>⟨e,rfl⟩) (av.refl _) λk v u b g y w c p d=>⟨p,n d,c⟩⟩;.refine R.rb.base x o (show fzS _ H l x=some o from ?_);rw[aQ λa=>by grind];exact q
 .rcases R.rb.fr x o q with z|z;.exact .inl z
  .exact .inr ⟨n z.1,z.2⟩
 .refine jB (R.ow k ws e) λb h j s m f i=>?_;exact tm b h j s (n m) f i
def iP(b:∀x∈l,∃o,H x=some o){x}(h:fzS B.H0 H l x=none):x∉l:=λa=>by obtain⟨o,c⟩:=b x a;rw[dM a,c]at h;cases h
end
def bI{X:Cx}{B:Bx}{d:List Stmt}:PSs X d (loS B WL.fW):=λb s c H D I a=>by obtain⟨e,F,R,q⟩:=a;exact(show False from q).elim
section
variable{X:Cx}{K:W.Frag}
def nK:Calm WL.iV:=λx y c h=>by
 unfold WL.iV at h;split at h;.split at h<;>cases h
 .cases h
def zH(j:X.K=K)(f:noL X.K=true):OpR X (binaryOp .Mult) (lo2 K WL.iV):=by subst j;refine OpR.imp abe λx y H Q d=>?_;obtain⟨F,wx,m,g,b,h,q⟩:=d;cases e:WL.iV wx m with|bad|ex c=>rw[e]at q;exact q.elim|ok w=>
  rw[e]at q;unfold WL.iV at e;split at e
  .split at e;.rename_i ws k r;cases e;simp only[RW]at b h;subst h;obtain⟨a,l,rfl,i,b⟩:=b;have o:=b.length;exact⟨a,k,l,rfl,rfl,SqL.here f (g.seq i),by omega,by omega,aip (by rw[<-o];exact r.2.2) cM,λp n=>aeB g q (b.rep _) n⟩
   .cases e
  .cases e
end
structure Rsc(S:Type)where
 adr:S->Addr
 rel:W.Frag->S->List Addr->Hp->Hp->Prop
 mono:∀{K s l F H F' H'},rel K s l F H->av F F'->(∀x∈l,∀o,H x=some o->H' x=some o)->rel K s l F' H'
 there:∀{K s l F H},rel K s l F H->∀x∈l,∃o,H x=some o/\NF o/\∀xs,o≠.tup xs
 val:S->VW
 fz:∀{K s l F H a od kvs},rel K s l F H->(∀x∈l,F x=none)->F a=some (.dK kvs)->rel K s l (upd F a (zD od kvs)) (upd H a (zD od kvs))th:∀{K s l F H a od kvs},rel K s l F H->(∀x∈l,F x=none)->F a=some (zD od kvs)->rel K s l (upd F a (.dK kvs)) (upd H a (.dK kvs))rw:∀{K s l F H F'},rel K s l F H->av F F'->(∀x∈l,∀o,H x=some o->F' x=some o)->RW K F' (val s) (.ref (adr s))
variable{S:Type}
structure RX(M:Rsc S)(B:Bx)(s:S)(l:List Addr)(σ:Ws)(σV:L2.St)(F H:Hp):Prop where
 rs:RS (hZ B H l) σ σV F H
 fr:∀x∈l,F x=none/\B.H0 x=none
 re:M.rel B.K s l F H
def OqX(M:Rsc S)(B:Bx)(D:Ends)(F:Hp):OX S->Prop|.nx σ' s'=>∀a d b e,RX M B s' e σ' a b d->av F b->D.nx a d|.bk σ' s'=>∀a d b e,RX M B s' e σ' a b d->av F b->D.bk a d|.ct σ' s'=>∀a d b e,RX M B s' e σ' a b d->av F b->D.ct a d|.rt w s'=>∀v d b e,RB (hZ B d e) b d->(∀x∈e,b x=none/\B.H0 x=none)->M.rel B.K s' e b d->av F b->RW B.K b w v->D.rt v d|.ex c σ'=>B.xp c σ' F|.bad=>False
def loX(M:Rsc S)(B:Bx)(t:RF S):TS:=λD a H=>∃b F s l,RX M B s l b a F H/\OqX M B D F (t b s)
section
variable{M:Rsc S}{B:Bx}{s:S}{l:List Addr}{σ:Ws}{σV:L2.St}{F H F' H':Hp}{D:Ends}{X:Cx}
theorem OqX.mono(k:av F F'){o}(h:OqX M B D F o):OqX M B D F' o:=by cases o with|nx σ s|bk σ s|ct σ s=>exact λσV H G l R z=>h _ H G l R (k.trans z)|rt w s=>exact λv H G l R r q z=>h v H G l R r q (k.trans z)|ex c σ=>exact B.mono c σ F _ k h|bad=>exact h
theorem RX.there(R:RX M B s l σ σV F H):∀x∈l,∃o,H x=some o:=λx a=>let⟨o,h,_⟩:=M.there R.re x a;⟨o,h⟩
def vK(c:∀x∈l,∃o,H x=some o)(b:RB (hZ B H l) F' H'):∀x∈l,∀o,H x=some o->H' x=some o:=λx a o q=>b.base x o (by show fzS _ H l x=some o;rw[dM a];exact q)
def aah(c:∀x∈l,∃o,H x=some o)(k:∀x∈l,∀o,H x=some o->H' x=some o):hZ B H l=hZ B H' l:=by
 have:fzS B.H0 H l=fzS B.H0 H' l:=by
  funext x;by_cases a:x∈l;.obtain⟨o,b⟩:=c x a;rw[dM a,dM a,b,k x a o b]
  .rw[aQ a,aQ a]
 simp [hZ,this]
def vZ(c:∀x∈l,∃o,H x=some o)(g:∀x∈l,F x=none)(b:av B.F0 F)(d:RB (hZ B H l) F' H'):∀x∈l,F' x=none:=λx a=>by cases e:F' x with|none=>rfl|some o=>
 rcases d.fr x o e with z|⟨z,_⟩;.have:=b x o z;rw[g x a]at this;cases this
 .have z:fzS _ H l x=none:=z;obtain⟨u,f⟩:=c x a;rw[dM a,f]at z;cases z
def RX.next(R:RX M B s l σ σV F H){b a}(c:RS (hZ B H l) b a F' H')(k:av F F'):RX M B s l b a F' H':=by have d:=vK R.there c.rb;refine⟨?_,λx e=>⟨vZ (B:=B) R.there (λy f=>(R.fr y f).1) R.rs.rb.fz0 c.rb x e,(R.fr x e).2⟩,M.mono R.re k d⟩;rw[<-aah R.there d];exact c
def XW.inS(b:XW X B)(e:∀x∈l,B.H0 x=none)(d:∀x∈l,∃o,H x=some o):XW X (hZ B H l):=λa σV H' f σ F c R q=>b _ _ _ _ σ F c (R.ae6 e d) q
variable{st:Stmt}{rest ss:List Stmt}{t:SF}{t1 t2:RF S}
def vi(R:RX M B s l σ σV F H)(q:OqX M B D F (WL.lY t σ s)):Oq (hZ B H l) D F (t σ):=by unfold WL.lY at q;cases e:t σ with|nx σ'|bk σ'=>rw[e]at q;exact λa H' F' d k=>q _ H' _ l (R.next d k) k|ct σ'=>rw[e]at q;exact λa H' F' d k=>q _ H' F' l (R.next d k) k|rt w=>rw[e]at q;intro v H' F' b k r;have f:=vK R.there b;refine q v H' F' l (by rw[<-aah R.there f];exact b) (λx g=>⟨vZ (B:=B) R.there (λy h=>(R.fr y h).1) R.rs.rb.fz0 b x g,(R.fr x g).2⟩) (M.mono R.re k f) k r|ex c σ'|bad=>rw[e]at q;exact q
def aap(d:B.K=X.K)(a:XW X B)(h:∀b,b.K=X.K->XW X b->PS X st (loS b t)):PS X st (loX M B (WL.lY t)):=by intro c e σV H D I⟨σ,F,s,l,R,q⟩;exact h (hZ B H l) d (XW.inS a (λx a=>(R.fr x a).2) R.there) _ _ _ H D I ⟨σ,F,R.rs,vi R q⟩
def xC(d:B.K=X.K)(b:XW X B)(h:∀c:Bx,c.K=X.K->XW X c->PSs X ss (loS c t)):PSs X ss (loX M B (WL.lY t)):=by intro a e σV H D I⟨σ,F,s,l,R,q⟩;exact h (hZ B H l) d (XW.inS b (λx b=>(R.fr x b).2) R.there) a e σV H D I ⟨σ,F,R.rs,vi R q⟩
def fh(h:PS X st (loX M B t1)):PSs X [st] (loX M B t1):=cE h
def tI(f:PS X st (loX M B t1))(h:PSs X rest (loX M B t2)):PSs X (st::rest) (loX M B (WL.oe t1 t2)):=PSs.imp (bD f h) λD σV H a=>by refine acp a λσ F s l R q=>?_;refine aeZ σ F s l R ?_;have q:OqX M B D F (match t1 σ s with|.nx σ' s'=>t2 _ _|o=>o):=q;cases b:t1 σ s with|nx σ' s'=>rw[b]at q;exact λd H' F' g e k=>aeZ _ F' s' g e (OqX.mono k q)|bk σ' s'|ct σ' s'|rt w s'|ex c σ'|bad=>rw[b]at q;exact q
end
variable{S:Type}
section
variable{M:Rsc S}{B:Bx}{s:S}{l:List Addr}{σ σ1:Ws}{σV:L2.St}{F H F' H':Hp}{D:Ends}{X:Cx}{j:Nat}
def RX.frz(R:RX M B s l σ σV F H)(e:WL.seen M.adr M.val j σ s=some σ1):av F (fzS F H l)/\RS B σ1 σV (fzS F H l) H:=by
 have t:=R.there;have k:av F (fzS F H l):=λx o q=>by rw[aQ λz=>by rw[(R.fr x z).1]at q;cases q];exact q
 have c:RS B σ σV F H:=R.rs.ae6 (λx a=>(R.fr x a).2) t;have Y:RB B (fzS F H l) H:=⟨λx o q=>by
  by_cases a:x∈l;.rw[dM a]at q;exact q
  .rw[aQ a]at q;exact c.rb.sub x o q,c.rb.base,c.rb.fz0.trans k,λx o q=>by
  by_cases a:x∈l;.rw[dM a]at q;refine gD (M.there R.re x a) λu hu nf _=>?_;rw[hu]at q;cases q;exact .inr ⟨(R.fr x a).2,nf⟩
  .rw[aQ a]at q;exact c.rb.fr x o q⟩;have out:∀{b:Addr},(hZ B H l).H0 b=none->b∉l:=λ{b}z=>iP (B:=B) t z;have p:RS B σ σV (fzS F H l) H:=by
  refine⟨Y,c.len,λi w q=>?_,λi ws q=>?_,c.ap,c.dd.via rfl id (λ_ _ z=>.inl z) (λ_ _ _ q=>⟨q,rfl⟩) k λi I E b P Q m K U C=>⟨?_,C,K⟩⟩;.obtain⟨v,f,g⟩:=c.va i w q;exact⟨v,f,g.keep k⟩
  .refine jB (R.rs.ow i ws q) λb vs f g T h4 h5=>?_;refine jB (c.ow i ws q) λA n d g2 h N G=>?_;rw[f]at d;cases d;exact tm b n f (by rw[aQ (out T)];exact g) h N (G.keep k)
  .refine jO (R.rs.dd.od i I E Q) λA r d _ h _=>?_;have d:σV[i]?=some (some (.ref A)):=d;have m:σV[i]?=some (some (.ref b)):=m;rw[m]at d;cases d;rw[aQ (out h)];exact U
 refine⟨k,?_⟩;unfold WL.seen at e;split at e
 .rename_i b Z;split at e
  .rename_i J;cases e;subst J;obtain⟨v,f,g⟩:=p.va j _ Z;subst g;have O:σV.set j (some (.ref (M.adr s)))=σV:=by
    apply List.ext_getElem?;intro i;by_cases y:j=i;.subst y;rw[ain (ail.mp f).1,f]
    .rw[aii y]
   have:=p.set (i:=j) (w:=M.val s) (v:=.ref (M.adr s)) (M.rw R.re k λx a o q=>by rw[dM a];exact q);rw[O]at this;exact this
  .cases e
 .cases e
open Classical in theorem RX.back(R:RX M B s l σ σV F H){i d c}(k:RS B i σV d c)(g:Gr (fzS F H l) H d c):∃b,Gr F H b c/\(∀x o,d x=some o->x∉l->b x=some o)/\RX M B s l σ σV b c:=by
 let b:Hp:=λx=>if x∈l then none else d x;have e:∀{x:Addr},x∈l->b x=none:=λh=>aij h;have eV:∀{x:Addr},x∉l->b x=d x:=λh=>aik h;have f:Gr F H b c:=⟨λx o q=>by
 have a:x∉l:=λz=>by rw[(R.fr x z).1]at q;cases q
 rw[eV a];exact g.f x o (by rw[aQ a];exact q),g.h,λx o q n=>by
 by_cases a:x∈l;.exact e a
 .rw[eV a];exact g.nf x o q (by rw[aQ a];exact n)⟩;have sub:av b d:=λx o q=>by grind
 have m:RB (hZ B H l) b c:=⟨sub.trans k.rb.sub,R.rs.rb.base.trans g.h,R.rs.rb.fz0.trans f.f,λx o q=>by
 by_cases a:x∈l;.rw[e a]at q;cases q
 .rcases k.rb.fr x o (sub x o q)with z|⟨z,n⟩;.exact .inl z
  .exact .inr ⟨by show fzS B.H0 H l x=none;rw[aQ a];exact z,n⟩⟩;exact⟨b,f,λx o q a=>by rw[eV a];exact q,R.next (R.rs.grow f m) f.f⟩
variable{c:Expr}{tt:TF}{st:Stmt}{ss ss':List Stmt}{t1 t2 b:RF S}{pos:Pos}
def ahA{D v}(R:RX M B s l σ σV F H)(e:WL.xT M.adr M.val j tt σ s=.ok v)(h:∀a d,Gr F H d a->RX M B s l σ σV d a->D v a):loT B tt σV H D:=by
 unfold WL.xT at e;split at e;.rename_i σ1 i;obtain⟨k,n⟩:=R.frz i;refine⟨_,_,n,?_⟩;rw[e];intro a d R2 m;refine gD (R.back R2 m) λo f _ g=>?_;exact h _ _ f g
 .cases e
def OqX.ifB{r a d}(h:OqX M B D F (WL.xF r a d)):∃v,r=.ok v/\OqX M B D F (if v=true then a else d):=by cases r with
|ok v=>cases v with|true|false=>exact⟨_,rfl,h⟩
|ex c|bad=>exact(h).elim
def aaq(i:PT X c (loT B tt))(e:PSs X ss (loX M B t1))(k:PSs X ss' (loX M B t2)):PS X (.If c ss ss' pos) (loX M B (WL.xIf (WL.xT M.adr M.val j tt) t1 t2)):=PS.imp (adp i e k) λD σV H a=>by refine acp a λσ F s l R q=>?_;refine dh (OqX.ifB q) λv g q=>?_;refine ahA R g λm d f h=>?_;cases v with|true|false=>exact⟨σ,d,s,l,h,OqX.mono f.f q⟩
end
variable{S:Type}
section
variable{M:Rsc S}{B:Bx}{s:S}{l:List Addr}{σ:Ws}{σV:L2.St}{F H F' H':Hp}{D:Ends}{X:Cx}{i j:Nat}{e:Expr}{te:EF}{x:Str}{pos pos':Pos}
def vE(R:RX M B s l σ σV F H){b k c:Hp}(g:Gr (fzS F H l) H b c)(sub:av b c)(h:∀y o,b y=some o->y∉l->k y=some o){w:VW}{v:V}(p:WL.plain w=true)(r:RW B.K b w v):RW B.K k w v:=by
 refine RW.less (λa m q=>?_) w v p r;have f:∀{o:HO},b a=some o->(o=.tup m\/∃ob u,o=.frz ob u)->a∉l:=λ{o}q z C=>by
  obtain⟨u,t,A,n⟩:=M.there R.re a C;have d:=sub a o q;rw[g.h a u t]at d;cases d;rcases z with rfl|⟨ob,E,rfl⟩;.exact n m rfl
  .exact A
 rcases q with(q|⟨o,q⟩)|q;.exact .inl (.inl (h a _ q (f q (.inl rfl))))
 .exact .inl (.inr ⟨o,h a _ q (f q (.inr ⟨_,_,rfl⟩))⟩)
 .exact .inr q
def acs(C:X.N.Nodup)(h:PE X e (lo B te))(p:X.N[i]?=some x:=by rfl)(G:Loc X.env.scope x:=by first|exact Or.inl rfl|exact Or.inr rfl)(g:swapsWith e (some (.Name x pos')) pos.line X.env=pure false:=by rfl)(u:FL X x:=by first|exact .inl rfl|exact .inr rfl|assumption):PS X (.Assign [.Name x pos'] e pos) (loX M B (WL.acu M.adr M.val j i te)):=PS.imp (mI C p G h g u) λD σV H a=>by
 obtain⟨σ,F,s,l,R,q⟩:=a;unfold WL.acu at q;split at q
 .rename_i y m;obtain⟨k,E⟩:=R.frz m;split at q
  .rename_i w r;split at q;.rename_i hw;refine⟨_,_,E,?_⟩;rw[r];intro v f I R2 c z;obtain⟨A,o,t,b⟩:=R.back R2 c;have n:=vE R c R2.rb.sub t hw z;exact(show∀d H' F' J,_ from q) _ f A l ⟨b.rs.set n,b.fr,b.re⟩ o.f
   .exact(show False from q).elim
  .exact(show False from q).elim
 .exact(show False from q).elim
end
variable{S:Type}
section
variable{M:Rsc S}{B:Bx}{s s':S}{l:List Addr}{σ:Ws}{σV:L2.St}{F H:Hp}
def RX.write(R:RX M B s l σ σV F H){x}(h:x∈l){o}(n:M.rel B.K s' l F (upd H x o)):RX M B s' l σ σV F (upd H x o):=by
 have i:=R.there;have m:∀(k:Nat)(ws)(y:Addr),σ[k]?=some (.ow ws)->σV[k]?=some (some (.ref y))->y∉l:=λk ws y a c=>by refine jO (R.rs.ow k ws a) λb _ e _ j _=>?_;rw[c]at e;cases e;exact iP (B:=B) i j
 have nd:∀y∈l,∀(k:Nat)(g f:List VW),σ[k]?=some _->σV[k]?≠some (some (.ref y)):=λy d k g f a c=>by refine jO (R.rs.dd.od k g f a) λb _ e _ j _=>?_;rw[c]at e;cases e;exact iP (B:=B) i j d
 exact⟨((R.rs.ae6 (λy d=>(R.fr y d).2) i).away o (R.fr x h).1 (R.fr x h).2 (λk ws a c=>m k ws x a c h) λk g f a=>nd x h k g f a).inS (λy d=>(R.fr y d).1) m nd,R.fr,n⟩
end
open Classical in noncomputable def hol(l:List Addr)(H:Hp):Hp:=λx=>if x∈l then none else H x
def aeo{l H x}(h:x∈l):hol l H x=none:=aij h
def gc{l H x}(h:x∉l):hol l H x=H x:=aik h
def spM(M:Rsc S)(K:W.Frag)(n:Nat)(f:List VW->S->OX S):Sp:=λh H Q E=>∃F ws s l,av F H/\RWs K F ws h/\ws.length=n/\M.rel K s l F H/\(∀x∈l,F x=none)/\match f ws s with|.rt w s'=>∀v d b e,av F b->av b d->av (hol l H) d->(∀x∈e,b x=none/\hol l H x=none)->M.rel K s' e b d->(∀a o,b a=some o->F a=some o\/hol l H a=none/\NF o)->RW K b w v->Q v d|.nx _ s'=>∀d b e,av F b->av b d->av (hol l H) d->(∀x∈e,b x=none/\hol l H x=none)->M.rel K s' e b d->(∀a o,b a=some o->F a=some o\/hol l H a=none/\NF o)->Q .non d|.ex c _=>∀C g d b,av F b->av b d->av (hol l H) d->(∀a o,b a=some o->F a=some o\/hol l H a=none/\NF o)->XR K b c C g->E (.ref C) g d|_=>False
section
variable{P:Program}{w:World}{K:W.Frag}{mg:Str->Option Value}{base:Heap}{M:Rsc S}
def wA{x d st f fd N ps k m n}{fn:List VW->S->OX S}(t)(Fn:Fun K x d st f fd)(Sc:FnScope N ps (af st))(hn:N.length=n)(p:ps.length=m)(a0:WL.runM n t=fn)(a7:ps.length<=N.length)(h:∀g A b s H E B,B.K=K->Room k (A.deeper (envOfC d (af st) s.heap.objs.size f g))->XW (cF (CXX P w) P w K mg base N d (af st) f g A b s H E) B->PassesOwn (model P w) (cF (CXX P w) P w K mg base N d (af st) f g A b s H E).A (cF (CXX P w) P w K mg base N d (af st) f g A b s H E).env (cF (CXX P w) P w K mg base N d (af st) f g A b s H E).xe->PSs (cF (CXX P w) P w K mg base N d (af st) f g A b s H E) (aC st) (loX M B t)):FnOk P w K mg base (CXX P w) (k+1) f fd ps (spM M K m fn):=by
 subst hn p a0;obtain⟨oc,od,kV,a5,pm,an,g,ct,a6,rfl,lk,Z⟩:=Fn.ex;refine o8 lk Z Sc (λvs H Q E J=>by obtain⟨F,ws,_,_,_,r,hl,_⟩:=J;rw[<-r.length];exact hl) λA b s H vs Q E hr _ J=>?_;obtain⟨F,ws,th,l,sm,r,hl,re,hF,p⟩:=J;let B0:Bx:=⟨K,hol l H,F,λ_ _ _=>False,λ_ _ _ _ _ h=>h⟩;let U:Bx:=B0.jS (λc _ X=>∀C I i j,av X j->RB B0 j i->XR K j c C I->E (.ref C) I i) λc σ X F2 s h C I i j R=>h C I i j (s.trans R);have e0:fzS (hol l H) H l=H:=by
  funext y;by_cases D:y∈l;.rw[dM D]
  .rw[aQ D,gc D]
 have R0:RX M U th l (ws.map .va++List.replicate (N.length-ws.length) .no) (L2.start N vs) F H:=⟨(RS.start (N:=N) sm r (by omega)).box (B':=hZ U H l) rfl e0 rfl,λy D=>⟨hF y D,aeo D⟩,re⟩;refine⟨_,h g A b s H E U rfl hr (λa2 a4 H1 s1 σ X c R1 xp e C I T fl t Y=>f9 t (xp C I H1 X (av.refl _) (R1.rb.box rfl rfl) Y)) ajH,_,F,th,l,R0,?_⟩;have bs:∀{j i:Hp}{u:List Addr},RB (hZ U i u) j i->(∀y∈u,j y=none/\U.H0 y=none)->av (hol l H) i/\∀a o,j a=some o->F a=some o\/hol l H a=none/\NF o:=λ{j i u}G fr=>⟨λy o q=>by
 have D:y∉u:=λz=>by rw[show hol l H y=none from(fr y z).2]at q;cases q
 exact G.base y o (by show fzS (hol l H) i u y=some o;rw[aQ D];exact q),λy o q=>by
 rcases G.fr y o q with z|⟨z,nf⟩;.exact .inl z
 .have D:y∉u:=λz2=>by rw[(fr y z2).1]at q;cases q
  have z:fzS (hol l H) i u y=none:=z;rw[aQ D]at z;exact .inr ⟨z,nf⟩⟩;unfold WL.runM at p;cases e:t (ws.map .va++List.replicate (N.length-ws.length) .no) th with|rt w R=>rw[e]at p;exact λv i j u G fr a1 k r'=>p v i j u k G.sub (bs G fr).1 fr a1 (bs G fr).2 r'|nx σ' R=>rw[e]at p;exact λa3 i j u O k=>p i j u k O.rs.rb.sub (bs O.rs.rb O.fr).1 O.fr O.re (bs O.rs.rb O.fr).2|bk σ' R|ct σ' R=>rw[e]at p;exact p.elim|ex c σ'=>rw[e]at p;exact λC I i j k G Y=>p C I i j k G.sub G.base G.fr Y|bad=>rw[e]at p;exact p.elim
end
variable{S:Type}
section
variable{M:Rsc S}{B:Bx}{s s':S}{l l':List Addr}{σ:Ws}{σV:L2.St}{F H F' H':Hp}
def RX.out(R:RX M B s l σ σV F H)(k1:av F F')(k2:av F' H')(k3:av (hol l H) H')(m:∀a o,F' a=some o->F a=some o\/hol l H a=none/\NF o):RS B σ σV F' H'/\∀a,hol l H a=none->B.H0 a=none:=by
 have j:=R.there;have c:RS B σ σV F H:=R.rs.ae6 (λy C=>(R.fr y C).2) j;have r:∀a,hol l H a=none->B.H0 a=none:=λa z=>by
  by_cases n:a∈l;.exact(R.fr a n).2
  .rw[gc n]at z;exact c.rb.base.free z
 have n6:∀{b:Addr}{o:HO},H b=some o->F b=none->b∉l->F' b=none/\H' b=some o:=λ{b o}p A t=>by refine⟨?_,k3 b o (by rw[gc t];exact p)⟩;cases e:F' b with|none=>rfl|some u=>
   rcases m b u e with z|⟨z,_⟩;.rw[A]at z;cases z
   .rw[gc t,p]at z;cases z
 refine⟨⟨⟨k2,λx o q=>k3 x o ?_,c.rb.fz0.trans k1,λa o q=>?_⟩,c.len,λi w q=>?_,λi ws q=>?_,c.ap,c.dd.via rfl id (λ_ _ z=>.inl z) (λ_ _ _ q=>⟨q,rfl⟩) k1 λi J E b O P h K T D=>?_⟩,r⟩;.rw[gc λz=>by rw[(R.fr x z).2]at q;cases q];exact c.rb.base x o q
 .rcases m a o q with z|⟨z,X⟩;.exact c.rb.fr a o z
  .exact .inr ⟨r a z,X⟩
 .obtain⟨v,f,k⟩:=c.va i w q;exact⟨v,f,k.keep k1⟩
 .refine jB (c.ow i ws q) λb G f k Q N I=>?_;refine jO (R.rs.ow i ws q) λU _ d _ g _=>?_;rw[f]at d;cases d;have:=n6 N k (iP (B:=B) j g);exact tm b G f this.1 Q this.2 (I.keep k1)
 .refine jO (R.rs.dd.od i J E P) λU _ d _ g _=>?_;have h:σV[i]?=some (some (.ref b)):=h;rw[h]at d;cases d;have:=n6 K T (iP (B:=B) j g);exact⟨this.1,D,this.2⟩
def RX.hand(R:RX M B s l σ σV F H)(k1:av F F')(k2:av F' H')(k3:av (hol l H) H')(fr:∀x∈l',F' x=none/\hol l H x=none)(r:M.rel B.K s' l' F' H')(q:∀a o,F' a=some o->F a=some o\/hol l H a=none/\NF o):RX M B s' l' σ σV F' H':=by
 obtain⟨u,m⟩:=R.out k1 k2 k3 q;have k:=R.there;have j:∀{b}{o},H b=some o->b∉l->b∉l':=λ{b o}v n z=>by have:=(fr b z).2;rw[gc n,v]at this;cases this
 refine⟨u.inS (λx c=>(fr x c).1) (λi ws x h e=>?_) λx c i t p h e=>?_,λx c=>⟨(fr x c).1,m x (fr x c).2⟩,r⟩;.refine jB (R.rs.ow i ws h) λb _ d _ g f _=>?_;rw[e]at d;cases d;exact j f (iP k g)
 .refine jB (R.rs.dd.od i t p h) λb _ d _ g f _=>?_;rw[e]at d;cases d;exact j f (iP k g) c
variable{X:Cx}{D:Ends}{j k n:Nat}{f C:Addr}{fd:FuncData}{ps:List Str}{fn:List VW->S->OX S}{tas:AF}{e o:Expr}{es:List Expr}{m:Str}{apos cpos pos:Pos}
end
end WS
set_option autoImplicit true
set_option relaxedAutoImplicit true
namespace WS
open PySem PySem.Spec PyProof.Rows L2
open WL(Res Sl Ws EF TF AF LF GF GsF SF Out OX RF Rn AXF)
theorem vD :∀{fs:List (Str×V)}{n:Nat},(fs.map (·.1)).Nodup->fs[n]?=some (f,v)->fs.lookup f=some v
|[],_,_,e=>by simp at e|(g,u)::fs,0,_,e=>by grind|(g,u)::fs,n+1,nd,e=>by
 simp only[aiC,ajl]at nd;have a:=by simpa using e
 have b:(f==g)=false:=ai9.mpr λz=>nd.1 (z▸List.mem_map.mpr ⟨(f,v),akn a,rfl⟩);simp only[List.lookup,b];exact vD nd.2 a
def vC:∀{fs:List (Str×V)},f∉fs.map (·.1)->fs.lookup f=none|[],_=>rfl|(g,u)::fs,h=>by grind
section
variable{X:Cx}{B:Bx}{fl m:Str}{c:String}{C f:Addr}{fd:FuncData}{ps:List Str}{k n:Nat}{fn:List VW->Res VW}{e o:Expr}{es:List Expr}{to:EF}{tas:AF}{pos:Pos}
def ic(N:X.K=B.K)(G:W.nsIn X.K mainGlobals (Str.ofString c)=some (some (.ref C)))(cl:Cls X.K C)(U:aW X.K C fl)(nd:(WL.gi c).Nodup)(p:(WL.gi c)[n]?=some fl)(Y:PE X o (lo B to))(M:attributeBase o fl X.env (eval o X.env)=eval o X.env:=by rfl):PE X (.Attribute o fl pos) (lo B (WL.dn c n to)):=PE.imp (qq Y M) λI H Q j=>by
 obtain⟨P,F,R,q⟩:=j;have q:=Rq.bind q;refine⟨P,F,R,Rq.mono (av.refl _) q λy b v A D z T i=>?_⟩;unfold WL.z8 at b;split at b
 .rename_i Z ws;split at b
  .rename_i d;have d:=eq_of_beq d;subst d;split at b
   .rename_i w S;simp only[RW]at i;obtain⟨a,C',O,K,rfl,J,t,u,_,r⟩:=i;rw[<-N,G]at t;cases t;obtain⟨v1,h,i⟩:=r.get S;rw[aiK,aiL]at h;obtain⟨⟨g,s⟩,x,rfl⟩:=h;have E:g=fl:=by have:=ajW (λl=>l[n]?) u;simp only[aiK,x,p,Option.map_some]at this;exact aiB this
    subst E;exact⟨a,C,O,_,s,rfl,z.rb.sub _ _ J,cl,U,vD (by rw[u];exact nd) x,b s A D z T i⟩
   .exact(b).elim
  .exact(b).elim
 .exact(b).elim
def yL (x:X.K=B.K)(N:XW X B)(D:W.nsIn X.K mainGlobals (Str.ofString c)=some (some (.ref C)))(l:m∉WL.gi c)(O:∀g ws,tas g=.ok ws->ws.length+1=n):∀d H Q,lo B (WL.ku c fn to tas) d H Q->p9 X C m (spX X.K n fn) [] (lo B to) (loA B tas) d H Q:=by
 intro d H Q⟨g,F,R,q⟩;have q:=Rq.bind q;refine⟨g,F,R,Rq.mono (av.refl _) q λy b v U A t u r=>?_⟩;by_cases h:WL.isN c y=true
 .rw[aij h]at b;have b:=Rq.bind b;obtain⟨s,rfl⟩:∃s,y=.ins c s:=by
   unfold WL.isN at h;split at h;.rw[eq_of_beq h];exact⟨_,rfl⟩
   .cases h
  have i:=r;simp only[RW]at i;refine aeW i λa Y I G p E w J _ _=>?_;subst p;rw[<-x,D]at w;cases w;refine⟨a,I,_,rfl,t.rb.sub _ _ E,vC (by rw[J];exact l),g,A,t,?_⟩;cases j:tas g with|bad=>rw[j]at b;exact b|ex c=>rw[j]at b;exact B.mono c g F A u.f b|ok ws=>rw[j]at b;exact λT P S M z K=>kQ x N M (u.trans z) (.cons (r.keep z.f) K) (by rw[ait];exact O g ws j) b (by rw[aiS])
 .rw[aik h]at b;exact(b).elim
end
section
variable{S:Type}{M:Rsc S}{B:Bx}{s:S}{l:List Addr}{σ:Ws}{σV:L2.St}{F H F' H':Hp}{D:Ends}{X:Cx}{j:Nat}{st:Stmt}{rest:List Stmt}{t1 t2:RF S}
def OqE(B:Bx)(D:Ends)(F:Hp):OX S->Prop|.rt w _=>∀v H' F',RB B F' H'->av F F'->RW B.K F' w v->D.rt v H'|.ex c σ'=>B.xp c σ' F|_=>False
def loE(M:Rsc S)(B:Bx)(t:RF S):TS:=λD σV H=>∃σ F s l,RX M B s l σ σV F H/\OqE B D F (t σ s)
theorem OqE.mono(k:av F F'){o:OX S}(h:OqE B D F o):OqE B D F' o:=by cases o with|rt w s=>exact λv H G a z r=>h v H G a (k.trans z) r|ex c σ=>exact B.mono c σ F _ k h|_=>exact h
def adi(a:RB (hZ B H l) F H)(fr:∀x∈l,F x=none/\B.H0 x=none):RB B F H:=by
 refine⟨a.sub,λx o q=>?_,a.fz0,λx o q=>?_⟩;.exact a.base x o (by show fzS _ H l x=some o;rw[aQ λz=>by grind];exact q)
 .rcases a.fr x o q with z|⟨z,b⟩;.exact .inl z
  .have z:fzS _ H l x=none:=z;rw[aQ λc=>by grind]at z;exact .inr ⟨z,b⟩
def aam(g:PS X st (loX M B t1))(i:PSs X rest (loE M B t2)):PSs X (st::rest) (loE M B (WL.oe t1 t2)):=PSs.imp (bD g i) λD σV H b=>by refine acp b λσ F s l R q=>?_;refine aeZ σ F s l R ?_;have q:OqE B D F (match t1 σ s with|.nx σ' s'=>t2 σ' s'|o=>o):=q;cases a:t1 σ s with|nx σ' s'=>rw[a]at q;exact λd H' F' e f k=>aeZ σ' F' s' e f (OqE.mono k q)|bk σ' s'|ct σ' s'=>rw[a]at q;exact q.elim|rt w s'=>rw[a]at q;exact λv H' F' e h fr m k r=>q v _ _ (adi h fr) k r|ex c σ'|bad=>rw[a]at q;exact q
end
section
variable{B:Bx}{s:Sr}{l:List Addr}{σ:Ws}{σV:L2.St}{F H F' H':Hp}{D:Ends}{X:Cx}{i j:Nat}{st:Stmt}{rest:List Stmt}{t:RF Sr}{ts:SF}
def RS.blank(R:RS B σ σV F H):RS B (List.replicate σ.length .no) σV F H:=by
 have no:∀{i:Nat}{b:Sl},(List.replicate σ.length Sl.no)[i]?=some b->b=.no:=λ{i b}e=>by
  rw[ajg]at e;split at e;.exact(aiB e).symm
  .cases e
 refine⟨R.rb,by rw[ajd];exact R.len,λi w e=>(nomatch no e),λi ws e=>(nomatch no e),λi j ws h a _ e _ _ _=>(nomatch no e),λi f d e=>(nomatch no e),λi j f d g c a _ e _ _ _=>(nomatch no e),λi e=>nomatch no e⟩
end
section
variable{P:Program}{w:World}{K:W.Frag}{mg:Str->Option Value}{base:Heap}{k m n:Nat}{nm:Str}{ps N:List Str}{st:Stmt}{fn:List VW->Res VW}
abbrev MgA(K:W.Frag)(mg:Str->Option Value):Prop:=∀nm v,W.nsIn K mainGlobals nm=some (some v)->mg nm=some v
abbrev BdA(nm:Str)(ps:List Str)(st:Stmt):Prop:=∀(kV a e:Value)(d:Option Addr)(c ct:Value)(b:List Value),b.length=ps.length->bindArgs (W.fnOf nm nm (aV st) (aC st) (af st) .none kV a e d c ct) ⟨b,[]⟩=pure (ps.zip b)
def AtD.dN(D:AtD K nm st)(l:MgA K mg)(t)(S:FnScope N ps (af st))(h:∀{e f A g s H E B},B.K=K->Room k (A.deeper (envOfC nm (af st) s.heap.objs.size f e))->XW (cF CX0 P w K mg base N nm (af st) f e A g s H E).nox B->PassesOwn (model P w) (A.deeper (envOfC nm (af st) s.heap.objs.size f e)) (envOfC nm (af st) s.heap.objs.size f e) (λ_ _=>False)->PSs (cF CX0 P w K mg base N nm (af st) f e A g s H E).nox (aC st) (loS B t))(p:BdA nm ps st:=by intro _ _ _ _ _ _ u h;first|exact bind1 (by intros;rfl) u h|exact xa (by intros;rfl) u h|exact w9 (by intros;rfl) u h|exact w6 (by intros;rfl) u h|exact aeP (by intros;rfl) u h|exact aeO (by intros;rfl) u h|exact aeN (by intros;rfl) u h)(r:N.length=n:=by rfl)(o:ps.length=m:=by rfl)(j:WL.run n t=fn:=by rfl)(i:ps.length<=N.length:=by decide):Cal P w K mg base CX0 (k+1) nm ps [] (spW K m fn):=D.cal l p λ_ _ q=>wz t q S r o j i λ_ _ _ _ _ _ _ a b c d=>h a b c d
def AtD.dX(D:AtD K nm st)(l:MgA K mg)(t)(S:FnScope N ps (af st))(h:∀{g f A e s H E B},B.K=K->Room k (A.deeper (envOfC nm (af st) s.heap.objs.size f g))->XW (cF (CXX P w) P w K mg base N nm (af st) f g A e s H E) B->PassesOwn (model P w) (cF (CXX P w) P w K mg base N nm (af st) f g A e s H E).A (cF (CXX P w) P w K mg base N nm (af st) f g A e s H E).env (cF (CXX P w) P w K mg base N nm (af st) f g A e s H E).xe->PSs (cF (CXX P w) P w K mg base N nm (af st) f g A e s H E) (aC st) (loS B t))(p:BdA nm ps st:=by intro _ _ _ _ _ _ u h;first|exact bind1 (by intros;rfl) u h|exact xa (by intros;rfl) u h|exact w9 (by intros;rfl) u h|exact w6 (by intros;rfl) u h|exact aeP (by intros;rfl) u h|exact aeO (by intros;rfl) u h|exact aeN (by intros;rfl) u h)(r:N.length=n:=by rfl)(o:ps.length=m:=by rfl)(j:WL.run n t=fn:=by rfl)(i:ps.length<=N.length:=by decide):Cal P w K mg base (CXX P w) (k+1) nm ps [] (spX K m fn):=D.cal l p λ_ _ q=>wy t q S r o j i λ_ _ _ _ _ _ _ a b c d=>h a b c d
end
section
variable{X:Cx}{B:Bx}{x:Str}{pos:Pos}
def wki{i q}{w:VW}(a:B.K=X.K)(c:X.mg x=some (.int i q))(hw:w=.int i:=by rfl)(b:Gl X x:=by rfl)(d:Dbg x:=by decide):PE X (.Name x pos) (lo B (WL.eC w)):=by subst hw;exact wk a c ⟨_,rfl⟩ (v:=.int i) (λF=>rfl) b d
end
section
variable{X:Cx}{B:Bx}{e o:Expr}{es:List Expr}{pos apos p:Pos}{x m:Str}{ps fl:List Str}{ds:List Value}{sp:Sp}{t:TA}{j k n:Nat}{c:String}{C f g:Addr}{fn:List VW->Res VW}{tas:AF}{to:EF}{pl:Sem Bool}
def meN(l:B.K=X.K)(u:Room j X.A)(z:XW X B)(r:W.nsIn X.K mainGlobals (Str.ofString c)=some (some (.ref C)))(cl:Cls X.K C)(G:rh X.prog X.w X.K X.mg X.base k C g m ps (spX X.K n fn))(w:PE X o (lo B to))(y:PA X (e::es) (loA B tas))(A:∀q ws,tas q=.ok ws->ws.length+1=n)(s:k<=j:=by decide)(h:m∉WL.gi c:=by decide)(a:SE X e es:=by rfl)(d:BT X pos es:=by rfl)(v:eval (.Call (.Attribute o m apos) (e::es) [] pos) X.env=(do
  let i <-eval o X.env
  standAt apos.atName let(f,first)<-holding [i] (getMethod i m pl)callWith pos f first (backTo pos (starEach (e::es) X.env)) (backToKw pos (keywordEach [] X.env))):=by rfl):PE X (.Call (.Attribute o m apos) (e::es) [] pos) (lo B (WL.ku c fn to tas)):=by obtain⟨M,D,F,b⟩:=G;exact PE.imp (kY w cl M F (u.mono s) b .nil y a d v) (yL l.symm z r h A)
end
end WS
set_option autoImplicit true
set_option relaxedAutoImplicit true
namespace WS
open PySem PySem.Spec PyProof.Rows L2
open WL(Res Sl Ws EF TF AF LF GF GsF SF Out OX RF Rn AXF)
def s9(K:W.Frag)(H:Hp)(h:Addr)(y:Str):Prop:=∃C a d b t,H h=some (.ext (excAt h C a))/\StrK K C/\a.1=some d/\H d=some (.xd b)/\a.2.1=.ref t/\H t=some (.tup [.str y])
def s9.mono{K H H' h y}(q:s9 K H h y)(s:av H H'):s9 K H' h y:=by obtain⟨C,g,d,a,t,e,j,f,i,c,b⟩:=q;exact⟨C,g,d,a,t,s _ _ e,j,f,s _ _ i,c,s _ _ b⟩
def aaR(K:W.Frag)(ta:TE):TE:=λb H Q=>ta b H λx a=>∃h y,x=.ref h/\s9 K a h y/\Q (.str y) a
def aa9{X e pos ta k}(p:Room k X.A)(B:PE X e ta):PE X (.FormattedValue e (-1) none pos) (aaR X.K ta):=by
 intro f s N H Q I h;refine akg (thn (B f s N H _ I h) λu J i=>?_);obtain⟨x,l,c,G,a,y,rfl,⟨C,dx,d,K,t,R,Z,S,O,z,w⟩,q⟩:=i;cases show u=Value.ref a from G;obtain⟨⟨o,vs,P,M,A,j,g5,U⟩,_⟩:=c.hok a _ R;obtain⟨od,Y⟩:=cV (c.hok d _ O);obtain⟨_,g,r,v,D,m,n,E⟩:=c.hok t _ w;obtain⟨tk,rfl⟩:∃tk,g=[.str y tk]:=by cases r with|cons a b=>cases b with|nil=>obtain⟨tk,rfl⟩:=a;exact⟨tk,rfl⟩
 have T:W.InstAt J.heap a o C (some od):=⟨P,M,by unfold W.notCls;rw[j],by rw[A,S];exact Y⟩;exact abN (tk:=tk) Z (by have:=p.un;show X.A.units+_<_;omega) c.kIn T j (by rw[U,z]) ⟨v,n,D,m,E⟩ ⟨.str y,l,c.tok _,⟨_,rfl⟩,q⟩
def xN(K:W.Frag)(ws:List V)(H:Hp):Prop:=∃n h y,ws=[.int n,.ref h]/\n.natAbs.log2<100/\s9 K H h y/\y.length<=50000
theorem xN.mono{K}(ws:List V)(H:Hp)(b:Addr)(o:HO)(d:H b=none)(q:xN K ws H):xN K ws (upd H b o):=by obtain⟨n,h,y,e,c,f,a⟩:=q;exact⟨n,h,y,e,c,f.mono (au d _),a⟩
def acW{c:L2.St}{H:Hp}{Q:VK}{K e f n g y}(q:e.length<=1000)(p:f.length<=1000)(s:c[1]?=some (some (.int n)))(t:n.natAbs.log2<100)(l:c[2]?=some (some (.ref g)))(m:s9 K H g y)(w:y.length<=50000)(k:∀z,z.length<=100000->Q (.str z) H):tJ [tC (.str e),ace (cQ 1),tC (.str f),aaR K (cQ 2)] Str.empty c H Q:=by
 have B:Str.empty.length=0:=rfl;have v:100000<=sizeLine:=by decide
 have h:Part (tC (.str e)) c H:=vg q;have j:Part (ace (cQ 1)) c H:=zU s t;have i:Part (tC (.str f)) c H:=vg p;generalize tC (.str e)=t1 at h⊢;generalize ace (cQ 1)=t2 at j⊢;generalize tC (.str f)=t3 at i⊢;refine h _ λa u=>?_;have r:(Str.empty++a).length=Str.empty.length+a.length:=akk ..;refine⟨a,rfl,by omega,j _ λb D=>?_⟩;have o:(Str.empty++a++b).length=(Str.empty++a).length+b.length:=akk ..;refine⟨b,rfl,by omega,i _ λd C=>?_⟩;have x:(Str.empty++a++b++d).length=(Str.empty++a++b).length+d.length:=akk ..;refine⟨d,rfl,by omega,.ref g,l,g,y,rfl,m,?_⟩;have A:(Str.empty++a++b++d++y).length=(Str.empty++a++b++d).length+y.length:=akk ..;exact⟨y,rfl,by omega,by omega,k _ (by omega)⟩
section
variable{P:Program}{w:World}{K:W.Frag}{mg:Str->Option Value}{base:Heap}
def yY{i o r a b c st f C v k u t}(Y:Fun K "__init__" i st f v)(S:FnScope [a,b,c] [a,b,c] (af st))(Z:r≠o)(h1:u.length<=1000)(R:t.length<=1000)(h:∀j A g s H E,Room k (A.deeper (envOfC i (af st) s.heap.objs.size f j))->PSs (cF CX0 P w K mg base [a,b,c] i (af st) f j A g s H E).nox (aC st) (acT (rG (uz C (fU (cQ 0) (fU (tJ [tC (.str u),ace (cQ 1),tC (.str t),aaR K (cQ 2)] Str.empty) x6)))) (acT (sX1 C (cQ 0) (cQ 1) o) (sX2 C (cQ 0) (cQ 2) r)))):FnOk P w K mg base CX0 (k+1) f v [a,b,c] (spG C [o,r] 100000 (xN K)):=by refine Y.ok S λJ H Q E l=>by obtain⟨e,ws,_,p,x,_⟩:=l;rw[p,ait,x];rfl λj A g s H J Q E G l=>?_;obtain⟨e,ws,U,p,x,M,⟨n,O,y,X,hn,T,B⟩,q⟩:=l;subst p X;refine⟨_,h j A g s H E G,?_⟩;refine⟨.ref e,rfl,acW h1 R rfl hn rfl T B λz I=>⟨e,none,U,z,rfl,M,λD N nt=>?_⟩⟩;refine⟨.int n,rfl,.ref e,rfl,e,_,rfl,ah,λd hd m=>?_⟩;refine⟨.ref O,rfl,.ref e,rfl,e,d,[(o,.int n)],_,rfl,ah,by rw[ae m,ah],m,by simp,by simp[List.lookup,ai9.mpr Z],?_⟩;have:=q D _ d N I (by rwa[ae m]at hd) m;show Q .non (upd _ d _);rw[ahF m,ag3];exact this
end
end WS
set_option autoImplicit true
set_option relaxedAutoImplicit true
namespace WS
open PySem PySem.Spec PyProof.Rows L2
open WL(Res Sl Ws EF TF AF LF GF GsF SF Out OX RF Rn AXF)
noncomputable abbrev rfs(b:V)(r:Addr):List (Str×V):=[("book",b),("floors",.ref r)]
def rQ{b r}:(rfs b r).lookup ("floors":Str)=some (V.ref r):=rfl
structure RRel(K:W.Frag)(s:Rn)(F H:Hp)(C dx:Addr)(b:V)(vs:List V):Prop where
 ns:W.nsIn K mainGlobals (Str.ofString "Run")=some (some (.ref C))at_:F s.a=some (.ins C dx (rfs b s.r))bo:RW K F s.book b
 ro:H s.r=some (.lst vs)rs:RWs K F s.floors vs
def ahd(K:W.Frag)(s:Rn)(l:List Addr)(F H:Hp):Prop:=∃C c b a,l=[s.r]/\RRel K s F H C c b a
def rnM:Rsc Rn where
 adr:=Rn.a;rel:=ahd;val:=Rn.val;mono:=λh0_ k h=>by obtain⟨C,dx,b,vs,el,R⟩:=h0_;subst el;exact⟨C,dx,b,vs,rfl,R.ns,k _ _ R.at_,R.bo.keep k,h _ (by simp) _ R.ro,R.rs.keep k⟩
 there:=λh0_ x hx=>by obtain⟨C,dx,b,vs,el,R⟩:=h0_;subst el;rw[aiX.mp hx];exact⟨_,R.ro,trivial,λ_ z=>nomatch z⟩
 fz:=λ{K s l F H a od kvs}h0_ hF e=>by
  obtain⟨C,dx,b,vs,el,R⟩:=h0_;subst el;have n1:s.r≠a:=λz=>by have:=hF s.r (by simp);rw[z,e]at this;cases this
  have n3:s.a≠a:=λz=>by have:=R.at_;rw[z,e]at this;cases this
  exact⟨C,dx,b,vs,rfl,R.ns,by rw[ae n3];exact R.at_,R.bo.fz e,by rw[ae n1];exact R.ro,R.rs.fz e⟩
 th:=λ{K s l F H a od kvs}h0_ hF e=>by
  obtain⟨C,dx,b,vs,el,R⟩:=h0_;subst el;have n1:s.r≠a:=λz=>by have:=hF s.r (by simp);rw[z,e]at this;cases this
  have n3:s.a≠a:=λz=>by have:=R.at_;rw[z,e]at this;cases this
  exact⟨C,dx,b,vs,rfl,R.ns,by rw[ae n3];exact R.at_,R.bo.th e,by rw[ae n1];exact R.ro,R.rs.th e⟩
 rw:=λ{K s l F H F'}h0_ k h=>by obtain⟨C,dx,b,vs,el,R⟩:=h0_;subst el;unfold WL.Rn.val;simp only[RW,RWs];exact⟨s.a,C,dx,rfs b s.r,rfl,k _ _ R.at_,R.ns,rfl,List.cons_ne_nil _ _,b,_,rfl,R.bo.keep k,.ref s.r,_,rfl,⟨s.r,vs,rfl,SqL.of (h _ (by simp) _ R.ro),R.rs.keep k⟩,rfl⟩
section
variable{B:Bx}{s:Rn}{l:List Addr}{σ:Ws}{σV:L2.St}{F H:Hp}{D:Ends}{X:Cx}{i j k:Nat}{e:Expr}{es:List Expr}{te:EF}{pos pos':Pos}{x:Str}{a:AXF Rn}
def aaZ{K}(h:ahd K s l F H):RW K F s.zJ (.ref s.a):=by obtain⟨C,c,b,d,f,R⟩:=h;unfold WL.Rn.zJ;simp only[RW,RWs];exact⟨s.a,C,c,rfs b s.r,rfl,R.at_,R.ns,rfl,List.cons_ne_nil _ _,b,_,rfl,R.bo,.ref s.r,_,rfl,rfl,rfl⟩
def RX.view(R:RX rnM B s l σ σV F H){c}(e:WL.seen Rn.a Rn.zJ j σ s=some c):RS (hZ B H l) c σV F H:=by
 unfold WL.seen at e;split at e
 .rename_i b g;split at e;.rename_i h;cases e;subst h;obtain⟨v,f,d⟩:=R.rs.va j _ g;have d:v=.ref s.a:=d;subst d;have:=R.rs.set (i:=j) (w:=s.zJ) (v:=.ref s.a) (aaZ R.re);rw[set_same f]at this;exact this
  .cases e
 .cases e
def aao(y:B.K=X.K)(p:XW X B)(G:X.N.Nodup)(r:∀c,c.K=X.K->XW X c->PE X e (lo c te))(u:X.N[i]?=some x:=by rfl)(g:Loc X.env.scope x:=by first|exact Or.inl rfl|exact Or.inr rfl)(o:swapsWith e (some (.Name x pos')) pos.line X.env=pure false:=by rfl)(C:FL X x:=by first|exact .inl rfl|exact .inr rfl|assumption):PS X (.Assign [.Name x pos'] e pos) (loX rnM B (WL.tN Rn.a Rn.zJ j i te)):=by
 intro b z σV H D I⟨σ,F,s,l,R,q⟩;refine mI G u g (r (hZ B H l) y (p.inS (λx g=>(R.fr x g).2) R.there)) o C b z σV H D I ?_;unfold WL.tN at q;split at q
 .rename_i f t;split at q;.rename_i w A;refine⟨f,F,R.view t,?_⟩;rw[A];intro v m n J d E;have R2:=R.next (R.rs.grow d J.rb) d.f;exact(show∀h K M N,_ from q) _ m n l ⟨R2.rs.set E,R2.fr,R2.re⟩ d.f
  .exact(show False from q).elim
 .exact(show False from q).elim
def abz(M:Rsc S)(B:Bx)(a:AXF S):TA:=λσV H Q=>∃σ F s l ws,RX M B s l σ σV F H/\a σ s=.ok ws/\∀d b c,RX M B s l σ σV c b->Gr F H c b->RWs B.K c ws d->Q d b
def pQ:PA X [] (abz rnM B WL.axN):=PA.imp df λσV H Q⟨σ,F,s,l,ws,R,e,h⟩=>by cases e;exact h [] H F R Gr.refl rfl
def bq{α b}{r:Res α}{f:α->Res b}{y}(h:r.bind f=.ok y):∃x,r=.ok x/\f x=.ok y:=by cases r with|ok x=>exact⟨x,rfl,h⟩|_=>cases h
def tL(z:B.K=X.K)(p:∀f,f.K=X.K->PE X e (lo f te))(u:PA X es (abz rnM B a))(o:SE X e es:=by rfl):PA X (e::es) (abz rnM B (WL.axP te a)):=by intro pos b A σV H Q I⟨σ,F,s,l,ws,R,q,h⟩;obtain⟨w,r,q⟩:=bq q;obtain⟨c,y,q⟩:=bq q;cases q;refine bg (p (hZ B H l) z) u o pos b A σV H Q I ⟨σ,F,R.rs,?_⟩;rw[r];exact λv K n J m E=>⟨σ,n,s,l,c,R.next J m.f,y,λd C G R2 g t=>h (v::d) C G R2 (m.trans g) ⟨v,d,rfl,E.keep g.f,t⟩⟩
def vF(R:RX rnM B s l σ σV F H){m O Q:Hp}(g:Gr (fzS F H l) H m Q)(h:∀y o,m y=some o->y∉l->O y=some o){w:VW}{v:V}(p:WL.agy w=true)(t:WL.tuh s.floors=true)(r:RW B.K m w v):RW B.K O w v:=by
 cases w with|lst ws=>
  have p:ws.all WL.isInt=true:=p;simp only[RW]at r⊢;obtain⟨b,c,rfl,d,E⟩:=r;have u:∀{ws:List VW}{c:List V}{G:Hp},ws.all WL.isInt=true->RWs B.K m ws c->RWs B.K G ws c:=λ{ws}=>by induction ws with|nil=>intro c G _ r;exact r|cons w ws ih=>intro c G p r;obtain⟨v,A,rfl,n,U⟩:=r;rw[akj,aiw]at p;cases w with|int i=>exact⟨v,A,rfl,n,ih p.2 U⟩|_=>cases p.1
  refine⟨b,c,rfl,?_,u p E⟩;obtain⟨C,Z,Y,I,N,S⟩:=R.re;have T:m s.r=some (.lst I):=g.f _ _ (by rw[dM (by rw[N];simp)];exact S.ro);have K:∀{o},m b=some o->(o=.lst c\/∃ob,o=.frz ob (.lst c))->b∉l:=λ{o}q z J=>by
   rw[N]at J;cases aiX.mp J;rw[T]at q;cases q;rcases z with z|⟨_,z⟩;.cases z;have M:=S.rs;cases P:s.floors with|nil=>rw[P]at t;cases t|cons f fs=>rw[P]at t M;obtain⟨v,A,rfl,n,_⟩:=M;cases f with
 |tup I=>obtain⟨a,c,rfl,_⟩:=n;cases ws with|nil=>cases E|cons w ws=>rw[akj,aiw]at p;obtain⟨v,A,e,n,_⟩:=E;cases w with|int i=>cases n;cases e|_=>cases p.1
  |_=>cases t
   .cases z
  rcases d with(d|⟨o,d⟩)|d;.exact .inl (.inl (h _ _ d (K d (.inl rfl))))
  .exact .inl (.inr ⟨o,h _ _ d (K d (.inr ⟨_,rfl⟩))⟩)
  .exact .inr d|_=>cases p
def ahB(T:B.K=X.K)(r:PE X e (lo B te))(u:PA X es (abz rnM B a))(p:SE X e es:=by rfl):PA X (e::es) (abz rnM B (WL.axL j te a)):=by
 intro pos b A σV H Q I⟨σ,F,s,l,ws,R,q,h⟩;unfold WL.axL at q;split at q
 .rename_i f d;split at q
  .rename_i w C;split at q;.rename_i hw;obtain⟨c,z,q⟩:=bq q;cases q;obtain⟨k,O⟩:=R.frz d;refine bg r u p pos b A σV H Q I ⟨f,_,O,?_⟩;rw[C];intro v P S R2 g K;obtain⟨M,y,E,J⟩:=R.back R2 g;exact⟨σ,M,s,l,c,J,z,λm G N t n o=>h (v::m) G N t (y.trans n) ⟨v,m,rfl,(vF R g E hw.1 hw.2 K).keep n.f,o⟩⟩
   .cases q
  .cases q
 .cases q
end
end WS
set_option autoImplicit true
set_option relaxedAutoImplicit true
namespace WS
open PySem PySem.Spec PyProof.Rows L2
open WL(Res Sl Ws EF TF AF LF GF GsF SF Out OX RF Rn AXF)
section
variable{M:Rsc S}{B:Bx}{σ:Ws}{σV:L2.St}{F H:Hp}{D:Ends}{X:Cx}{k:Nat}{tg e:Expr}{body:List Stmt}{b:RF S}{it:LF}{pos:Pos}
def tK(hK:B.K=X.K)(hp:PassesOwn (model X.prog X.w) X.A X.env X.xe)(hc:X.calm=true)(hi:∀Z,Z.K=X.K->PI X tg e (loI Z it))(hg:PG X tg (L2.aX k))(hb:PSs X body (loX M B b))(hs:∀x,foldedSetIterable e X.env x=pure x:=by intro _;rfl):PS X (.For tg e body [] pos) (loX M B (WL.og it k b)):=by
 intro u sh σV H D I⟨σ,F,s,l,R,q⟩;unfold WL.og at q;split at q
 .rename_i f ex;refine qm hp hc (hi (hZ B H l) hK) hg hb hs u sh σV H D I ⟨σ,F,R.rs,?_⟩;rw[ex];intro J H0 F0 R0 Y wk;refine⟨λj m d t=>m=f.length-j/\j<=f.length/\∃g i p y,RX M B p y g d i t/\av F0 i/\OqX M B D i (WL.di k b (f.drop j) g p),⟨f.length,rfl,aiN _,σ,F0,s,l,R.next R0 Y.f,av.refl _,by rw[aj6];exact OqX.mono Y.f q⟩,?_⟩;rintro j m d t⟨rfl,hj,g,i,p,y,z,N,h⟩;by_cases r:j<f.length;.have hd:f.drop j=f[j]::f.drop (j+1):=aiQ r;rw[hd]at h;obtain⟨go,yl⟩:=wk.go j f[j] (aiv r) i t N z.rs.rb.sub;refine .inr ⟨go,_,λa O h2=>⟨f.length-(j+1),by omega,rfl,r,h2⟩,λv O hy=>?_⟩;obtain⟨Q,P,r2⟩:=yl v O hy;have R2:RX M B p y g d Q O:=z.next (P.rs _ _ _ z.rs) P.same;refine⟨g.set k (.va f[j]),Q,p,y,⟨R2.rs.set r2,R2.fr,R2.re⟩,?_⟩;have h:OqX M B D i (match b (g.set k (.va f[j])) p with|.nx a s2=>WL.di k b (f.drop (j+1)) a s2|.ct a s2=>WL.di k b (f.drop (j+1)) a s2|.bk a s2=>.nx a s2|o=>o):=h;have C:av i Q:=P.same;cases A:b (g.set k (.va f[j])) p with|nx a s2|ct a s2=>rw[A]at h;exact λn U G T K E=>⟨a,G,s2,T,K,(N.trans C).trans E,OqX.mono (C.trans E) h⟩|bk a s2=>rw[A]at h;exact λn U G T K E=>(show∀d H' F' l',_ from h) n U G T K (C.trans E)|rt w s2|ex c a=>rw[A]at h;exact OqX.mono (D:=D) C h|bad=>rw[A]at h;exact h
  .have ei:j=f.length:=by omega
   subst ei;rw[ajs]at h;exact .inl ⟨wk.stop i t N z.rs.rb.sub,(show∀d H' F' l',_ from h) d t i y z (av.refl _)⟩
 .exact(show False from q).elim
end
section
variable{B:Bx}{s:Rn}{l:List Addr}{σ:Ws}{σV:L2.St}{F H:Hp}{D:Ends}{X:Cx}{i j k n ci:Nat}{f C:Addr}{fd:FuncData}{ps:List Str}{fn:List VW->Rn->OX Rn}{a:AXF Rn}{e o:Expr}{es:List Expr}{te:EF}{m:Str}{apos cpos pos:Pos}{st:Stmt}{rest:List Stmt}
def xE(M:B.K=X.K)(hx:XW X B)(Q:W.nsIn X.K mainGlobals (Str.ofString "Run")=some (some (.ref C)))(a0:m∉WL.gi "Run")(cl:Cls X.K C)(ho:PE X o (cQ j))(ha:PA X (e::es) (abz rnM B a))(hn:∀σ s ws,a σ s=.ok ws->ws.length+1=n)(a1:∀t,PA X (e::es) t->PE X (.Call (.Attribute o m apos) (e::es) [] cpos) (p9 X C m (spM rnM X.K n fn) [] (cQ j) t))(hs:swapsWith (.Call (.Attribute o m apos) (e::es) [] cpos) none pos.line X.env=pure false:=by rfl):PS X (.Expr (.Call (.Attribute o m apos) (e::es) [] cpos) pos) (loX rnM B (WL.bw j fn a)):=by
 intro K sh σV H D I⟨σ,F,s,l,R,q⟩;refine iN (a1 _ ha) hs K sh σV H D I ?_;unfold WL.bw at q;split at q
 .rename_i b eb;split at q
  .rename_i Z;subst Z;split at q
   .rename_i ws ew;obtain⟨v,h1,h2⟩:=R.rs.va j _ eb;have h2:v=.ref s.a:=h2;subst h2;obtain⟨C',dx,b,us,el,S⟩:=R.re;have:=S.ns;rw[M,Q]at this;cases this;refine⟨_,h1,s.a,dx,_,rfl,R.rs.rb.sub _ _ S.at_,vC (by exact a0),σ,F,s,l,ws,R,ew,?_⟩;intro vs H1 F1 g g1 r1;rw[aiS];refine⟨λCv p u=>∃E h c d,Cv=.ref E/\RS B d σV h u/\B.xp c d h/\XR X.K h c E p,⟨F1,.id s.a::ws,s,l,g.rs.rb.sub,.cons (by simp only[RW]) (M▸r1),by rw[ait];exact hn σ s ws ew,M▸g.re,λx hx=>(g.fr x hx).1,?_⟩,?_⟩;.cases A:fn (.id s.a::ws) s with|nx d G=>rw[A]at q;exact λu h P y N O fr Y J=>(show∀a2 u h P,_ from q) σV u h P (g.hand y N O fr (M▸Y) J) (g1.f.trans y)|rt w G=>rw[A]at q;exact λv u h P y N O fr Y J r=>q σV u h P (g.hand y N O fr (M▸Y) J) (g1.f.trans y)|ex c d=>rw[A]at q;intro E p u h y N O J U;have q:B.xp c σ F:=q;exact⟨E,h,c,σ,rfl,(g.out y N O J).1,B.mono c σ F h (g1.f.trans y) q,U⟩|bk d G=>rw[A]at q;exact(show False from q).elim|ct d G=>rw[A]at q;exact(show False from q).elim|bad=>rw[A]at q;exact(show False from q).elim
    .rintro z G e' C' p T u t⟨E,h,c,d,ec,R',xp,U⟩;cases ec;exact hx z σV u G d h c R' xp e' C' p (some T) .none t U
   .exact(show False from q).elim
  .exact(show False from q).elim
 .exact(show False from q).elim
def xD(h:PS X st (ag5 (lo B te))):PSs X [st] (loE rnM B (WL.rj j te)):=PSs.imp (cE h) λD σV H⟨σ,F,s,l,R,q⟩=>by
 unfold WL.rj at q;split at q
 .rename_i b r;split at q;.rename_i w p;obtain⟨k,u⟩:=R.frz r;refine⟨b,_,u,?_⟩;rw[p];exact λv d g R2 c t=>(show∀v x y,_ from q) v d g R2.rb (k.trans c.f) t
  .exact(show False from q).elim
 .exact(show False from q).elim
end
end WS
set_option autoImplicit true
set_option relaxedAutoImplicit true
namespace WS
open PySem PySem.Spec PyProof.Rows L2
open WL(Res Sl Ws EF TF AF LF GF GsF SF Out OX RF Rn AXF)
section
variable{B:Bx}{X:Cx}{i ci k:Nat}{te:EF}{st:Stmt}{A1 A2 A3 A4 CB fI:Addr}{x1 x2 x3 x4 xB n cn:Str}{p1 p2 p3 p4 tp q1 q2 q3 np cpos rpos hpos pos:Pos}{ps:List Str}{fd:FuncData}
def aan{ec}{cs:List String}(c8:∀u∈cs,u≠"Broken"/\WL.fieldsOf u≠[])(hB:B.K=X.K)(hx:XW X B)(hr:Room 39 X.A)(hs:X.stack=X.env::X.outer)(hf:X.env.frame=some X.env.locals)(hN:X.N.Nodup)(hi:X.N[i]?=some n)(hl:X.env.scope.names.lookup n=some .local)(c2:X.N[ci]?=some cn)(b6:X.env.scope.names.lookup cn=some .local)(b3:i≠ci)(h0:(0:Nat)≠ci)(g1:Gl X x1/\X.mg x1=some (.ref A1))(M:Gl X x2/\X.mg x2=some (.ref A2))(g3:Gl X x3/\X.mg x3=some (.ref A3))(g4:Gl X x4/\X.mg x4=some (.ref A4))(hc:∀u Ca,ExcAt X.K u Ca->u∈cs->W.exmAny X.K (.ref Ca) [.ref A1,.ref A2,.ref A3,.ref A4]=some true/\StrK X.K Ca/\∃a5,ib X.K Ca (some (.ref a5)))(hR:∀C,W.nsIn X.K mainGlobals (Str.ofString "Run")=some (some (.ref C))->Cls X.K C/\aW X.K C "floors")(hg:Gl X xB)(hm:X.mg xB=some (.ref CB))(q:ib X.K CB (some (.ref fI)))(e3:W.typeIn X.K (.ref fI)=some (.type "function"))(b7:ExcAt X.K "Broken" CB)(G:FnOk X.prog X.w X.K X.mg X.base CX0 k fI fd ps (spG CB ["at","why"] 100000 (xN X.K)))(hk:k+1<=39)(hb:Binds X.K fd ps [])(c4:∀E pn B',B'.K=X.K->XW (X.tri E pn) B'->PS (X.tri E pn) st (rG (tBM X.K "list" kU (afM X.K (cQ 0) "floors") (fU (lo B' te) x6))))(d1:Dbg x1:=by decide)(d2:Dbg x2:=by decide)(d3:Dbg x3:=by decide)(d4:Dbg x4:=by decide)(d5:Dbg xB:=by decide)(d6:Dbg n:=by decide)(d7:Dbg cn:=by decide)(d8:(n==("__classdict__":Str))=false:=by decide)(d9:(cn==("__classdict__":Str))=false:=by decide):PS X (.Try [st] [.ExceptHandler (some (.Tuple [.Name x1 p1,.Name x2 p2,.Name x3 p3,.Name x4 p4] ec tp)) (some n) [.Raise (some (.Call (.Name xB np) [.Name cn q1,.Name n q2] [] cpos)) (some (.Name n q3)) rpos] hpos] [] [] pos) (loX rnM B (WL.oa cs ci te)):=by
 intro f sh J H D I⟨σ,F,s,l,R,g⟩;refine wpAny_Try_except ?_;unfold WL.oa at g;split at g;case h_2=>exact(show False from g).elim
 rename_i m j;obtain⟨kz,R1⟩:=R.frz j;have e0:σ[0]?=some (.va (.id s.a))/\m=σ.set 0 (.va s.val):=by
  unfold WL.seen at j;split at j
  .rename_i b eb;split at j;.rename_i hb;cases j;rw[hb]at eb;exact⟨eb,rfl⟩
   .cases j
  .cases j
 let E':Value->Shared->Prop:=λe a4=>wpAny (model X.prog X.w) X.A (noteFrame e X.env) (λ_ U=>wpAny (model X.prog X.w) X.A (setFlight e none) (λ_ O=>wpAny (model X.prog X.w) X.A (handleBy e X.env [.ExceptHandler (some (.Tuple [.Name x1 p1,.Name x2 p2,.Name x3 p3,.Name x4 p4] ec tp)) (some n) [.Raise (some (.Call (.Name xB np) [.Name cn q1,.Name n q2] [] cpos)) (some (.Name n q3)) rpos] hpos]) (SP X f D) X.xe O) X.xe U) X.xe a4;let B1:Bx:=B.jS (λc Z F'=>Z=m/\te m=.ex c/\av (fzS F H l) F') λc Z F' e5 s h=>⟨h.1,h.2.1,h.2.2.trans s⟩;have xw:XW (X.tri E' (X.pn++f)) B1:=by
  intro c9 x N s1 K F1 c R2 xp e A r T fl t xr;obtain⟨rfl,b5,kF⟩:=xp;rw[b5]at g;have t2:Thr X f x N s1 e A r fl T:=t.eP;obtain⟨u,fs,rfl,ce⟩:=xr.is;dsimp only at g;split at g;case h_2=>exact(show False from g).elim
  rename_i w ew;split at g;case isFalse=>exact(show False from g).elim
  rename_i hw;have hC:u∈cs:=List.contains_iff_mem.mp hw.2;obtain⟨Y,sk,a5,qe⟩:=hc u A ce hC;have a:RS B K x F1 N:=R2.box rfl rfl rfl;have b4:K[ci]?=some (.va w):=by rw[e0.2,aii h0];exact ew
  obtain⟨v1,a8,c0⟩:=a.va ci w b4;obtain⟨p,rfl,c6⟩:∃p,w=.int p/\p.natAbs.log2<100:=by have:=hw.1;cases w with|int p=>exact⟨p,rfl,akd this⟩|_=>cases this
  cases show v1=.int p from c0;obtain⟨e7,d0,c1,e6,c5,a7⟩:=id xr;obtain⟨nb,nf⟩:=c8 u hC;obtain⟨c3,t0,y0,a1,a2,a3⟩:=(a7.resolve_left nf).resolve_left nb;obtain⟨c7,b1,b2⟩:=c5.resolve_left λz=>nf (by rw[<-c1,z.1];rfl);have he:N e=none:=t2.fe.1;have kH:=au he (.ext (excAt e A r));have b0:F1 e=none:=a.rb.sub.free he;have b8:=au b0 (.ext (excAt e A r));refine t2.note hs hf λh' T' _ t3=>t3.nu λe8 t4=>sv (vs:=[.ref A1,.ref A2,.ref A3,.ref A4]) (G:=xN X.K) t4 (λQ E h=>abP (X:=X.sui e) (t4.inv.sui e) g1 M g3 g4 h d1 d2 d3 d4) (λkI ty hp=>W.exm_tup4 kI ty hp Y) hs hf hN hi hl c2 b6 b3 a8 c3 qe hg hm q e3 G (λws H b o=>xN.mono ws H b o) ((hr.sui (aim _)).mono hk) hb rfl ⟨p,e,y0,rfl,c6,⟨A,r,c7,d0,t0,ah,sk,b1,kH _ _ (a.rb.sub _ _ b2),a1,kH _ _ (a.rb.sub _ _ a2)⟩,a3⟩ (λs' e2 d ta y e1 T2 z1 z2 t5=>?_) d5 d6 d7 d8 d9;have Ra:=(a.new he (.ext (excAt e A r))).new z1 (.tup [.str y]);have Rb:=((Ra.new z2 (.xd (List.zip [("at":Str),"why"] [.int p,.ref e]))).ac6 i).blank;have k3:=b8.trans ((au ((a.new he (.ext (excAt e A r))).rb.sub.free z1) (.tup [.str y])).trans (au (Ra.rb.sub.free z2) (.xd (List.zip [("at":Str),"why"] [.int p,.ref e]))));have a6:(K.set i .no).length=σ.length:=by rw[alh,e0.2,alh]
  rw[a6]at Rb;refine hx f _ _ s' _ _ (.exc "Broken" [.int p,.exc u fs]) Rb (B.mono _ _ F _ (kz.trans (kF.trans k3)) g) e2 CB _ (some T2) e1 t5 ⟨b7,[("at",.int p),("why",.ref e)],rfl,?_,.inr ⟨d,rfl,ah⟩,.inr (.inl rfl)⟩;have nt:e≠ta:=λw=>by rw[<-w,ah]at z1;cases z1
  have nd:e≠d:=λw=>by rw[<-w,ae nt,ah]at z2;cases z2
  refine⟨.int p,_,rfl,by simp only[RW],.ref e,_,rfl,?_,rfl⟩;obtain⟨y1,a0,y2,y3,y4,y5⟩:=xr.keep k3;simp only[RW];exact⟨e,A,r,rfl,by rw[ae nd,ae nt,ah],y1,a0,y2,y3,y4⟩
 have P:=cE (c4 E' (X.pn++f) B1 hB xw);refine aiA (P [] sh J H D (I.tri E') ?_) (λfl s' h=>?_) λ_ _ z=>z;.obtain⟨v0,b9,a9⟩:=R.rs.va 0 _ e0.1;cases show v0=.ref s.a from a9;obtain⟨C,r,bb,vs,el,S⟩:=R.re;obtain⟨cl,na⟩:=hR C (hB▸S.ns);refine⟨.ref s.a,b9,s.a,C,r,_,.ref s.r,rfl,R.rs.rb.sub _ _ S.at_,cl,na,rQ,.inl ⟨rfl,vs,SqL.of S.ro⟩,m,fzS F H l,R1.box rfl rfl rfl,?_⟩;cases et:te m with|bad=>rw[et]at g;exact(show False from g).elim|ex c=>exact⟨rfl,et,av.refl _⟩|ok w=>
   rw[et]at g;dsimp only at g;split at g
   .rename_i hw;intro v N F1 R2 gg r1;have a:RS B m J F1 N:=R2.box rfl rfl rfl;obtain⟨F2,M,hk,R3⟩:=R.back a gg;have r2:=vE R gg R2.rb.sub hk hw.1 r1;refine⟨s.r,vs,v,rfl,rfl,gg.h _ _ S.ro,by rw[<-S.rs.length];exact aiq hw.2 cM,?_⟩;have hr:s.r∈l:=by rw[el];simp
    refine(show∀e4 H' F' l',_ from g) J _ F2 l (R3.write hr ?_) M.f;exact⟨C,r,bb,vs++[v],el,S.ns,M.f _ _ S.at_,S.bo.keep M.f,ah,(S.rs.keep M.f).app (.one r2)⟩
   .exact(show False from g).elim
 .have h:=SP.eP h;cases fl with|next=>exact ajU h|_=>exact h
end
end WS
set_option autoImplicit true
set_option relaxedAutoImplicit true
namespace WS
open PySem PySem.Spec PyProof.Rows L2
open WL(Res Sl Ws EF TF AF LF GF GsF SF Out OX RF Rn AXF)
def ae3(K:W.Frag):Sp:=λd H Q E=>∃x C c b g,d=[.ref x,b,g]/\H x=some (.ins C c [])/\(Cls K C/\aW K C "book"/\aW K C "floors")/\∀r a,H r=none->a x=some (.ins C c (rfs b r))->a r=some (.lst [g])->(∀y,y≠x->y≠r->a y=H y)->Q .non a
section
variable{P:Program}{w:World}{K:W.Frag}{mg:Str->Option Value}{base:Heap}
def yW{nm c st f D l n o k B u}(Z:Fun K nm c st f D)(J:FnScope [l,n,o] [l,n,o] (af st))(p:aC st=[B,u])(h:∀i A a s H E X,X=cF (CXX P w) P w K mg base [l,n,o] c (af st) f i A a s H E->PS X B (afU K (cQ 0) (cQ 1) "book")/\PS X u (afU K (cQ 0) (afL (fU (cQ 2) x6)) "floors")):FnOk P w K mg base (CXX P w) (k+1) f D [l,n,o] (ae3 K):=by
 obtain⟨oc,od,T,R,pm,an,i,ct,O,rfl,I,q⟩:=Z.ex;refine o8 I q J λN H Q E d=>by obtain⟨x,C,t,b,g,e,_⟩:=d;rw[e];rfl λA a s H N Q E m _ d=>?_;obtain⟨x,C,t,b,g,e,S,⟨cl,M,a2⟩,U⟩:=d;subst e;obtain⟨h1,h2⟩:=h i A a s H E _ rfl;rw[p];refine⟨_,bD h1 (cE h2),?_⟩;have G:mH ("book":Str) b []=[(("book":Str),b)]:=rfl;have p2:∀r:Addr,mH ("floors":Str) (V.ref r) [(("book":Str),b)]=rfs b r:=λ_=>rfl;refine⟨b,rfl,.ref x,rfl,x,C,t,[],rfl,S,cl,M,by decide,?_⟩;rw[G];refine⟨g,rfl,show 1<=sizeLine by decide,λr m=>?_⟩;have j:x≠r:=λz=>by rw[<-z,ah]at m;cases m
 refine⟨.ref x,rfl,x,C,t,[("book",b)],rfl,by rw[ae j];exact ah,cl,a2,by simp,?_⟩;rw[p2];refine U r _ (by rwa[ae (aiu j)]at m) ah (by rw[ae (aiu j),ah]) λy v Y=>?_;rw[ae v,ae Y,ae v]
end
section
variable{X:Cx}{B:Bx}{j:Nat}{C:Addr}{s1:Stmt}{rest:List Stmt}{as:AF}{t:RF Rn}
def rm(hB:B.K=X.K)(hx:XW X B)(a2:W.nsIn X.K mainGlobals (Str.ofString "Run")=some (some (.ref C)))(a1:Cls X.K C/\aW X.K C "book"/\aW X.K C "floors")(h1:PS X s1 (ae2 (zL X C (ae3 X.K) [] (loA B as)) (L2.aX j)))(h2:∀B',B'.K=X.K->XW X B'->PSs X rest (loE rnM B' t)):PSs X (s1::rest) (loS B (WL.dC j as t)):=by
 let B1:Bx:=B.jS (λc i F=>B.xp c (List.replicate i.length .no) F) λc i F F' s h=>B.mono c _ F F' s h;have xw:XW X B1:=λI g H s i F c R xp e C l T fl t xr=>hx I g H s _ F c (RS.blank (R.box rfl rfl rfl)) xp e C l T fl t xr;refine PSs.imp (bD h1 (h2 B1 hB xw)) λD g H a0=>?_;obtain⟨i,F,R,q⟩:=a0;refine⟨i,F,R,?_⟩;unfold WL.dC at q;split at q
 .rename_i wb wf ea;rw[ea];split at q
  .rename_i hh;have a:=Classical.choose_spec hh;intro vs H1 M G o r1 x l O Z K;obtain⟨n,A,rfl,rb,rf⟩:∃n A,vs=[n,A]/\RW B.K M wb n/\RW B.K M wf A:=by simp only[RWs]at r1;obtain⟨v,r,rfl,h,v',r',rfl,h',rfl⟩:=r1;exact⟨v,v',rfl,h,h'⟩
   refine⟨λ_ _ _=>False,⟨x,C,l,n,A,rfl,ah,a1,λr Q E Y J ho=>⟨rfl,?_⟩⟩,λ_ _ _ _ _ _ _ _ z=>z.elim⟩;have u:r≠x:=λz=>by rw[z,ah]at E;cases E
   have m:r≠l:=λz=>by rw[z,ae K,ah]at E;cases E
   have d:H1 r=none:=by rw[ae u,ae m]at E;exact E
   let p:Hp:=upd M x (.ins C l (rfs n r));have eH:Q=upd (upd (upd H1 l (.own x)) x (.ins C l (rfs n r))) r (.lst [A]):=by
    funext b;by_cases b2:b=r;.subst b2;rw[ah,J]
    .rw[ae b2];by_cases S:b=x;.subst S;rw[ah,Y]
     .rw[ae S,ho b S b2,ae S]
   have a3:=G.rb.sub.free O;have k2:av M p:=au a3 _;have R2:RS B i g p Q:=by have Ra:=(G.adP Z (.own x)).new (by rw[ae (aiu K)];exact O) (.ins C l (rfs n r)) trivial;have Rb:=Ra.adP (by rw[ae u,ae m];exact d) (.lst [A]);rw[eH];exact Rb
   have P:p r=none:=by show upd M x _ r=none;rw[ae u];exact G.rb.sub.free d
   have inl:∀y∈[r],y=r:=λy f=>aiX.mp f;have R3:RS (hZ B1 Q [r]) i g p Q:=by
    refine RS.inS (R2.box rfl rfl rfl) (λy f=>by rw[inl y f];exact P) (λk ws y e1 e2 f=>?_) λy f k ks us e1 e2=>?_;.obtain⟨b,vs,o,_,_,N,_⟩:=G.ow k ws e1;rw[e2]at o;cases o;rw[inl y f,d]at N;cases N
    .obtain⟨b,vs,o,_,_,N,_⟩:=G.dd.od k ks us e1;rw[e2]at o;cases o;rw[inl y f,d]at N;cases N
   refine⟨i.set j (.va (.id x)),p,⟨x,r,wb,[wf]⟩,[r],⟨R3.set (by simp only[RW]),λy f=>⟨by rw[inl y f];exact P,by rw[inl y f];exact G.rb.base.free d⟩,C,l,n,[A],rfl,hB▸a2,ah,rb.keep k2,J,.one (rf.keep k2)⟩,?_⟩;have a:=a x r;have k3:=o.f.trans k2;cases U:t (i.set j (.va (.id x))) ⟨x,r,wb,[wf]⟩with|rt w s'=>rw[U]at a;have a:=a;rw[a]at q;exact λv H3 F3 rb k4 r=>q v H3 F3 (rb.box rfl rfl) (k3.trans k4) r|ex c σ'=>rw[U]at a;obtain⟨a,hl⟩:=a;rw[a]at q;show B.xp c (List.replicate σ'.length .no) p;rw[hl];exact B.mono c _ F p k3 q|nx _ _|bk _ _|ct _ _|bad=>rw[U]at a;exact a.elim
  .exact(q).elim
 .exact(q).elim
end
section
variable{X:Cx}{B:Bx}{C g:Addr}{k jr j n:Nat}{m:Str}{ps:List Str}{fn:List VW->Rn->OX Rn}{e o:Expr}{es:List Expr}{tas:AF}{a:AXF Rn}{apos cpos pos:Pos}{pl:Sem Bool}
def xmR(q:B.K=X.K)(x:Room jr X.A)(A:XW X B)(u:W.nsIn X.K mainGlobals (Str.ofString "Run")=some (some (.ref C)))(cl:Cls X.K C)(G:rh X.prog X.w X.K X.mg X.base k C g m ps (spM rnM X.K n fn))(p:PE X o (cQ j))(z:PA X (e::es) (abz rnM B a))(D:∀r s ws,a r s=.ok ws->ws.length+1=n)(v:k<=jr:=by decide)(i:m∉WL.gi "Run":=by decide)(c:SE X e es:=by rfl)(d:BT X cpos es:=by rfl)(y:eval (.Call (.Attribute o m apos) (e::es) [] cpos) X.env=(do
  let l <-eval o X.env
  standAt apos.atName let(f,first)<-holding [l] (getMethod l m pl)callWith cpos f first (backTo cpos (starEach (e::es) X.env)) (backToKw cpos (keywordEach [] X.env))):=by rfl)(w:swapsWith (.Call (.Attribute o m apos) (e::es) [] cpos) none pos.line X.env=pure false:=by rfl):PS X (.Expr (.Call (.Attribute o m apos) (e::es) [] cpos) pos) (loX rnM B (WL.bw j fn a)):=by obtain⟨M,E,F,b⟩:=G;exact xE q A u i cl p z D (λt h=>kY p cl M F (x.mono v) b .nil h c d y) w
def ahC{s r c x rest t p d}(E:B.K=X.K)(z:Room jr X.A)(O:XW X B)(K:X.N.Nodup)(H:X.N[j]?=some c)(i:Loc X.env.scope c)(M:Mk X.K C s)(w:W.nsIn X.K mainGlobals (Str.ofString "Run")=some (some (.ref C)))(h:Cls X.K C/\aW X.K C "book"/\aW X.K C "floors")(G:aeV X.prog X.w X.K X.mg X.base r s ps (ae3 X.K))(v:X.mg x=some (.ref C))(D:PA X (e::es) (loA B tas))(N:∀l,l.K=X.K->XW X l->PSs X rest (loE rnM l t))(I:r+1<=jr:=by decide)(u:Gl X x:=by rfl)(q:Dbg x:=by decide)(A:SE X e es:=by rfl)(f:BT X cpos es:=by rfl)(y:swapsWith (.Call (.Name x p) (e::es) [] cpos) (some (.Name c d)) pos.line X.env=pure false:=by rfl)(J:X.fn c=true\/X.env.scope.names.lookup c=some .local:=by first|exact .inl rfl|exact .inr rfl|assumption):PSs X (.Assign [.Name c d] (.Call (.Name x p) (e::es) [] cpos) pos::rest) (loS B (WL.dC j tas t)):=by refine dh G λP F b=>?_;exact rm E O w h (mI K H i (qp M F (z.mono I) u v b .nil D q A f) y J) N
def abI{c}(d:W.nsIn X.K mainGlobals (Str.ofString "Run")=some (some (.ref C)))(cl:Cls X.K C)(f:aW X.K C c):∀b,W.nsIn X.K mainGlobals (Str.ofString "Run")=some (some (.ref b))->Cls X.K b/\aW X.K b c:=λb h=>by grind
end
end WS
set_option autoImplicit true
set_option relaxedAutoImplicit true
namespace WS
open PySem PySem.Spec PyProof.Rows L2
open WL(Res Sl Ws EF TF AF LF GF GsF SF Out OX RF Rn AXF)
def zp{P w K i b f e k m}{ps:List Str}{M:Rsc S}:FnOk P w K i b (CXX P w) k f e ps (spM M K m λ_ _=>.bad):=⟨λg H Q E a=>by obtain⟨_,_,_,_,_,_,_,_,_,h⟩:=a;exact h.elim,λA c s H d j g Q E l o n q p a=>by obtain⟨_,_,_,_,_,_,_,_,_,h⟩:=a;exact h.elim⟩
def aeq{P:String->Addr->Prop}{K:W.Frag}:∀a b,ExcAt K a b->a∈([]:List String)->P a b:=λ_ _ _ z=>nomatch z
def abJ{P:Addr->Prop}{K:W.Frag}{c:String}{A:Addr}{f}(e:ExcAt K c A)(p:P A)(h:∀b a,ExcAt K b a->b∈f->P a):∀b a,ExcAt K b a->b∈c::f->P a:=λb a d g=>by
 rcases aiO.mp g with z|z;.subst z;have:=e.2.symm.trans d.2;cases this;exact p
 .exact h b a d z
def ahZ{K d f c e nm j b g i}{a:Addr}(x:ExcAll K)(h:ExcAt K nm a)(o:ExcAt K j d)(k:ExcAt K b f)(l:ExcAt K g c)(m:ExcAt K i e)(n:(WL.kP nm j||(WL.kP nm b||(WL.kP nm g||(WL.kP nm i||false))))=true):W.exmAny K (.ref a) [.ref d,.ref f,.ref c,.ref e]=some true:=by simp only[W.exmAny,x.ex nm a j d h o,x.ex nm a b f h k,x.ex nm a g c h l,x.ex nm a i e h m];rw[n]
def q0:∀(a:Ws)(s:S)ws,WL.axN a s=.ok ws->ws.length=0:=λa s ws e=>by cases e;rfl
def xg{f:EF}{a:AXF S}(h:∀b s ws,a b s=.ok ws->ws.length=n):∀b s ws,WL.axP f a b s=.ok ws->ws.length=n+1:=λb s ws e=>by obtain⟨w,_,e⟩:=bq e;obtain⟨c,d,e⟩:=bq e;cases e;rw[ait,h b s c d]
def ah5{f:EF}{a:AXF Rn}{j}(h:∀b s ws,a b s=.ok ws->ws.length=n):∀b s ws,WL.axL j f a b s=.ok ws->ws.length=n+1:=λb s ws e=>by
 unfold WL.axL at e;split at e
 .split at e
  .split at e;.obtain⟨c,d,e⟩:=bq e;cases e;rw[ait,h b s c d]
   .cases e
  .cases e
 .cases e
section
variable{B:Bx}{X:Cx}{i ci jr:Nat}{te:EF}{st:Stmt}{A1 A2 A3 A4 CB fI C:Addr}{x1 x2 x3 x4 xB n cn:Str}{p1 p2 p3 p4 tp q1 q2 q3 np cpos rpos hpos pos:Pos}{ps:List Str}
def xtb{J}{o:List String}(Q:B.K=X.K)(z:Room jr X.A)(r:XW X B)(hN:X.N.Nodup)(U:X.mg x1=some (.ref A1))(M:X.mg x2=some (.ref A2))(D:X.mg x3=some (.ref A3))(S:X.mg x4=some (.ref A4))(K:∀a c,ExcAt X.K a c->a∈o->W.exmAny X.K (.ref c) [.ref A1,.ref A2,.ref A3,.ref A4]=some true/\StrK X.K c/\∃g,ib X.K c (some (.ref g)))(w:W.nsIn X.K mainGlobals (Str.ofString "Run")=some (some (.ref C)))(cl:Cls X.K C)(na:aW X.K C "floors")(v:X.mg xB=some (.ref CB))(q:ib X.K CB (some (.ref fI)))(m:W.typeIn X.K (.ref fI)=some (.type "function"))(l:ExcAt X.K "Broken" CB)(G:aeU X.prog X.w X.K X.mg X.base fI ps (spG CB ["at","why"] 100000 (xN X.K)))(d:∀E p j,j.K=X.K->XW (X.tri E p) j->PS (X.tri E p) st (rG (tBM X.K "list" kU (afM X.K (cQ 0) "floors") (fU (lo j te) x6))))(y:X.stack=X.env::X.outer:=by rfl)(Y:X.env.frame=some X.env.locals:=by rfl)(T:39<=jr:=by decide)(R:X.N[i]?=some n:=by rfl)(hl:X.env.scope.names.lookup n=some .local:=by rfl)(k:X.N[ci]?=some cn:=by rfl)(f:X.env.scope.names.lookup cn=some .local:=by rfl)(e:i≠ci:=by decide)(P:(0:Nat)≠ci:=by decide)(O:Gl X x1:=by rfl)(A:Gl X x2:=by rfl)(Z:Gl X x3:=by rfl)(l4:Gl X x4:=by rfl)(l5:Gl X xB:=by rfl)(h:∀a∈o,a≠"Broken"/\WL.fieldsOf a≠[]:=by decide)(d1:Dbg x1:=by decide)(x:Dbg x2:=by decide)(d3:Dbg x3:=by decide)(I:Dbg x4:=by decide)(u:Dbg xB:=by decide)(t:Dbg n:=by decide)(H:Dbg cn:=by decide)(s:(n==("__classdict__":Str))=false:=by decide)(N:(cn==("__classdict__":Str))=false:=by decide):PS X (.Try [st] [.ExceptHandler (some (.Tuple [.Name x1 p1,.Name x2 p2,.Name x3 p3,.Name x4 p4] J tp)) (some n) [.Raise (some (.Call (.Name xB np) [.Name cn q1,.Name n q2] [] cpos)) (some (.Name n q3)) rpos] hpos] [] [] pos) (loX rnM B (WL.oa o ci te)):=by obtain⟨fd,F,b⟩:=G;exact aan h Q r (z.mono T) y Y hN R hl k f e P ⟨O,U⟩ ⟨A,M⟩ ⟨Z,D⟩ ⟨l4,S⟩ K (abI w cl na) l5 v q m l F (by decide) b d d1 x d3 I u t H s N
end
end WS
namespace WL
open PySem
section
variable{α β:Type}
@[simp]def bq(a)(f:α->Res β):(Res.ok a).bind f=f a:=(rfl)
@[simp]def vq(b)(a)(f:α->Out):ofR b (.ok a) f=f a:=(rfl)
@[simp]def ahg(a)(c)(f):ofR a (.ex c:Res α) f=.ex c a:=(rfl)
end
@[simp]def agD{α:Type}(a)(l:List α):(a::l)[0]?=some a:=(rfl)
@[simp]def agC{α:Type}(a)(l:List α)(n):(a::l)[n+1]?=l[n]?:=(rfl)
noncomputable def agB:Option Sl->Res W|some (.va w)=>.ok w|_=>.bad
@[simp]def o7(w):agB (some (.va w))=.ok w:=(rfl)
@[simp]def pf(i:Nat)(a:Ws):ao i a=agB a[i]?:=by unfold ao agB;split<;>simp_all
@[simp]def abS(w)(a):eC w a=.ok w:=(rfl)
@[simp]def wq(r)(a b)(c):eOp r a b c=(a c).bind λx=>(b c).bind λy=>r x y:=(rfl)
@[simp]def aht(r)(a)(b):eUn r a b=(a b).bind r:=(rfl)
@[simp]def ag4(b):toB (.bl b)=.ok b:=(rfl)
@[simp]def ahJ(e)(a):tB e a=(e a).bind toB:=(rfl)
@[simp]def afO(a b)(c):qa a b c=(a c).bind λx=>if x=true then b c else .ok false:=by unfold qa;congr 1;funext x;cases x<;>rfl
@[simp]def ag6(a b)(c):tOr a b c=(a c).bind λx=>if x=true then .ok true else b c:=by unfold tOr;congr 1;funext x;cases x<;>rfl
@[simp]def afI(a)(b):p8 a b=(a b).bind λx=>.ok !x:=(rfl)
@[simp]def ahw(t)(a b)(c):eIf t a b c=(t c).bind λx=>if x=true then a c else b c:=by unfold eIf;congr 1;funext x;cases x<;>rfl
@[simp]def pM(a):az a=.ok []:=(rfl)
@[simp]def lV(e)(a)(b):ag e a b=(e b).bind λx=>(a b).bind λc=>.ok (x::c):=(rfl)
@[simp]def wo(a)(b):cR a b=(a b).bind λc=>if c.length<=lim then .ok (.tup c)else .bad:=(rfl)
@[simp]def wt(a)(b):lX a b=(a b).bind λc=>if c.length<=lim then .ok (.lst c)else .bad:=(rfl)
noncomputable def ab2{α}:Res α->Res α|.ok a=>.ok a|_=>.bad
@[simp]def afm{α}(a:α):ab2 (.ok a)=.ok a:=(rfl)
@[simp]def afl(f)(a)(b):aS f a b=(a b).bind λws=>ab2 (f ws):=by unfold aS;congr 1;funext ws;cases f _<;>rfl
@[simp]def aeE(f)(a)(b):eM f a b=(a b).bind f:=(rfl)
@[simp]def aad(f)(a)(b):eBi f a b=(a b).bind f:=(rfl)
@[simp]def ahe(a):pNo a=.ok none:=(rfl)
noncomputable def toI:W->Res (Option Int)|.int i=>.ok (some i)|_=>.bad
@[simp]def afF(i):toI (.int i)=.ok (some i):=(rfl)
@[simp]def ae5(e:EF)(a:Ws):mL e a=(e a).bind toI:=by unfold mL;congr 1
@[simp]def ahu(e)(lo b)(a):eSl e lo b a=(e a).bind λx=>(lo a).bind λl=>(b a).bind λh=>oSl x l h:=(rfl)
@[simp]def afb(i j):n7 (.int i) (.int j)=.ok (.int (i+j)):=(rfl)
@[simp]def yD(xs ys:List W):n7 (.lst xs) (.lst ys)=if xs.length+ys.length<=lim then .ok (.lst (xs++ys))else .bad:=(rfl)
@[simp]def qA(i j):xq (.int i) (.int j)=.ok (.int (i-j)):=(rfl)
def qB(i j):tw (.int i) (.int j)=if -2^64<i/\i<2^64\/-2^64<j/\j<2^64 then .ok (.int (i*j))else .bad:=(rfl)
@[simp]def yC(i j):oDiv (.int i) (.int j)=if 0<j/\j<10^100 then .ok (.int (i/j))else .bad:=(rfl)
@[simp]def afa(i j):oMod (.int i) (.int j)=if 0<j then .ok (.int (i%j))else .bad:=(rfl)
@[simp]def ae9(i):k9 (.int i)=.ok (.int (-i)):=(rfl)
@[simp]def agn(i j):oLt (.int i) (.int j)=.ok (.bl (decide (i<j))):=(rfl)
@[simp]def ago(i j):oLe (.int i) (.int j)=.ok (.bl (decide (i<=j))):=(rfl)
@[simp] def ags (i j:Int):oEq (.int i) (.int j)=.ok (.bl (decide (i=j))):=by show Res.ok (W.bl (i==j))=_;rw[ajJ]
@[simp] theorem agm (i j:Int):oNe (.int i) (.int j)=.ok (.bl (!decide (i=j))):=by show Res.ok (W.bl !(i==j))=_;rw[ajJ]
@[simp] theorem ahi (a b:Bool):oEq (.bl a) (.bl b)=.ok (.bl (a==b)):=rfl
@[simp]def ahh(a b:Bool):oNe (.bl a) (.bl b)=.ok (.bl (a !=b)):=rfl
@[simp]def agq(x):oIs x .non=.ok (.bl (su x)):=(rfl)
@[simp]def aek:su .non=true:=(rfl)
@[simp]def abm(xs)(i):oIx (.lst xs) (.int i)=ofO (atI xs i):=(rfl)
@[simp]def agp(xs)(i):oIx (.tup xs) (.int i)=ofO (atI xs i):=(rfl)
@[simp]def agk(xs)(l h):oSl (.lst xs) l h=.ok (.lst (cut xs l h)):=(rfl)
@[simp]def agj(xs:List W)(l h:Option Int):oSl (.tup xs) l h=if sIx xs.length 0 l=0/\sIx xs.length xs.length h=xs.length then .bad else .ok (.tup (cut xs l h)):=(rfl)
def pK{α}(xs:List α)(k:Nat):atI xs k=xs[k]?:=by
 unfold atI ixN;by_cases h:k<xs.length;.rw[aij (by simp),aij (by omega)];simp
 .rw[aij (by simp),aik (by omega)];simp;omega
@[simp]def agU{α}(xs:List α)(k):atI xs no_index(@OfNat.ofNat Int k _)=xs[k]?:=pK _ k
@[simp]def afn(xs):jN [.lst xs]=.ok (.int xs.length):=(rfl)
@[simp]def ab5(b:Bool):zz [.bl b]=.ok (.int (if b then 1 else 0)):=(rfl)
noncomputable def oB(o:Option Bool):Res W:=match o with|some b=>.ok (.bl b)|none=>.bad
@[simp]def agS(xs):zA [.lst xs]=oB (allB xs):=rfl
@[simp]def agA(e)(a):tD e a=(e a).bind itemsOf:=(rfl)
def afW:W->Res (List W)|.int j=>if -2^62<=j/\j<2^62 then .ok (rng 0 j.toNat)else .bad|_=>.bad
@[simp]def yd(j):afW (.int j)=if -2^62<=j/\j<2^62 then .ok (rng 0 j.toNat)else .bad:=(rfl)
@[simp]def y8(e:EF)(a:Ws):ja e a=(e a).bind afW:=by unfold ja afW;congr 1
@[simp] def acf (lo ) (n ):(rng lo n).length=n:=by simp[rng]
@[simp] theorem afh (i ) (w ) (a ):aX i w a=.ok (a.set i (.va w)):=(rfl)
@[simp]def adq(i):plain (.int i)=true:=(rfl)
@[simp]def yR(k)(it)(g)(t)(e)(a):yS k it g t e a=(it a).bind λb=>if b.length<=lim then ab2 (bB g t e (List.replicate k .no++a) b)else .bad:=by unfold yS;congr 1;funext b;cases bB g t e _ _<;>rfl
@[simp]def zm(k)(it)(g)(t)(e)(a):g7 k it g t e a=(yS k it g t e a).bind λb=>.ok (.lst b):=(rfl)
noncomputable def aaU(o:Out)(b:SF):Out:=match o with|.nx σ'=>b σ'|o=>o
@[simp]def ou(a)(b):aaU (.nx a) b=b a:=(rfl)
@[simp]def afQ(w)(b):aaU (.rt w) b=.rt w:=(rfl)
@[simp]def oC(a b)(c):bj a b c=aaU (a c) b:=(rfl)
@[simp]def ag8(a):sNx a=.nx a:=(rfl)
@[simp]def kS(i)(e)(a):dm i e a=ofR a (e a) λw=>.nx (a.set i (.va w)):=(rfl)
@[simp]def ag9(t)(a b)(c):sIf t a b c=ofR c (t c) λx=>if x=true then a c else b c:=by unfold sIf;congr 1;funext x;cases x<;>rfl
@[simp]def oD(e)(a):cp e a=ofR a (e a) λw=>.rt w:=(rfl)
@[simp]def afT(it)(g)(b)(a):tr it g b a=ofR a (it a) λc=>forL g b c a:=(rfl)
@[simp]def afR(c)(a)(b):aaU (.ex c a) b=.ex c a:=(rfl)
@[simp]def ab0(d nm)(fs):gz d (.exc nm fs)=kP nm d:=(rfl)
noncomputable def ae1(o:Out)(k:W->Ws->Out):Out:=match o with|.ex c σ=>k c σ|o=>o
@[simp]def afD(a)(k):ae1 (.nx a) k=.nx a:=(rfl)
@[simp]def afE(c)(a)(k):ae1 (.ex c a) k=k c a:=(rfl)
@[simp]def ac9(b:SF)(d:String)(i:Nat)(h:SF)(a:Ws):qi b d i h a=ae1 (b a) (jc d i h):=by unfold qi ae1;rfl
noncomputable def ab6(i:Nat)(o:Out):Out:=match o with|.nx σ2=>.nx (σ2.set i .no)|.rt w=>.rt w|_=>.bad
@[simp]def afp(i:Nat)(a:Ws):ab6 i (.nx a)=.nx (a.set i .no):=(rfl)
@[simp]def afg(d:String)(i:Nat)(h:SF)(c:W)(a:Ws):jc d i h c a=if gz d c then ab6 i (h (a.set i (.va c)))else .bad:=by unfold jc ab6;rfl
noncomputable def fin:Out->Res W|.rt w=>.ok w|.nx _=>.ok .non|.ex c _=>.ex c|_=>.bad
@[simp]def aex(w):fin (.rt w)=.ok w:=(rfl)
@[simp]def ahr(c)(a):fin (.ex c a)=.ex c:=(rfl)
@[simp]def run_eq(n:Nat)(t:SF)(ws:List W):run n t ws=fin (t (ws.map .va++List.replicate (n-ws.length) .no)):=by unfold run fin;rfl
@[simp]def z0:lim=1000000:=(rfl)
noncomputable def vA(o:Out)(k:SF):Out:=match o with|.nx σ2=>k σ2|.ct σ2=>k σ2|.bk σ2=>.nx σ2|o=>o
@[simp]def ll(a)(k):vA (.nx a) k=k a:=(rfl)
def je(g)(b)(x)(xs)(a):forL g b (x::xs) a=ofR a (g x a) λc=>vA (b c) (forL g b xs):=rfl
@[simp]def zg(g)(b)(a):forL g b [] a=.nx a:=(rfl)
theorem gU{g:GF}{t:TF}{e:EF}{j:Ws}{c:Type}{b f:c->W}{p:c->Bool}:∀{xs:List c},(∀x∈xs,∃a,g (b x) j=.ok a/\t a=.ok (p x)/\(p x=true->e a=.ok (f x)))->bB g t e j (xs.map b)=.ok ((xs.filter p).map f)|[],_=>rfl|x::xs,h=>by obtain⟨a,k,l,n⟩:=h x (by simp);have i:=gU (p:=p) (xs:=xs) λy m=>h y (by simp[m]);cases d:p x with|true=>simp only[aiC,bB,k,l,d,n d,bq,i,List.filter_cons,aj5]|false=>simp[aiC,bB,k,l,d,bq,i,List.filter_cons]
end WL
namespace ML
open PySem WL
abbrev S3:=Int×Int×Int
noncomputable def spW(p:Int×Int):W:=.tup [.int p.1,.int p.2]
noncomputable def mn(p:S3):Int×Int:=(p.1,p.2.1)
@[simp]def agi(n:Nat)(i:Int):okD n (.int i)=true:=(rfl)
@[simp]def agf(n:Nat)(xs:List W):okD n (.tup xs)=fG n xs:=(rfl)
@[simp]def agg(n:Nat)(xs:List W):okD n (.lst xs)=fG n xs:=(rfl)
@[simp]def ae7(n:Nat):fG (n+1) []=true:=(rfl)
@[simp]def vo(n:Nat)(x:W)(xs:List W):fG (n+1) (x::xs)=(okD n x&&fG (n+1) xs):=(rfl)
@[simp]def agH(a b:Str):eqv (.str a) (.str b)=(a==b):=(rfl)
@[simp]def agI(a b:Int):eqv (.int a) (.int b)=(a==b):=(rfl)
@[simp]def abQ(x y:W)(xs ys:List W):abR (x::xs) (y::ys)=(eqv x y&&abR xs ys):=(rfl)
theorem qy(n):∀a,(∀x∈a,okD n x=true)->fG (n+1) a=true|[],_=>rfl|x::a,h=>by simp;exact⟨h x (by simp),qy n _ λy b=>h y (by grind)⟩
mutual theorem eqv_refl:∀(n:Nat)(x:W),okD n x=true->eqv x x=true|_,.non,_=>rfl|_,.bl _,_=>by show(_==_)=_;simp|_,.int _,_=>by simp|_,.str _,_=>by simp|_,.ty _,h=>by cases h|n,.tup xs,h=>by exact jn n xs (by assumption)|n,.lst xs,h=>by exact jn n xs (by assumption)|_,.dic _ _,h=>by cases h|_,.cls _,h=>by cases h|_,.exc _ _,h=>by cases h|_,.ins _ _,h=>by cases h|_,.id _,h=>by cases h theorem jn:∀(n:Nat)(xs:List W),fG n xs=true->abR xs xs=true|_,[],_=>rfl|0,_::_,h=>by cases h|n+1,x::xs,h=>by simp only[vo,aiw]at h;simp only[abQ,aiw];exact⟨eqv_refl n x h.1,jn (n+1) xs h.2⟩end
def en{x}(h:okD 50 x=true):oNe x x=.ok (.bl false):=by unfold oNe;simp[h,eqv_refl _ x h]
theorem toNat_inj{a b:Char}(h:a.toNat=b.toNat):a=b:=Char.ext (UInt32.toNat_inj.mp h)
@[simp]def zW(a b):(Str.ofString a=Str.ofString b)=(a=b):=by
 apply propext;constructor
 .intro h;rw[aki,aki]at h;have c:a.toList.map Char.toNat=b.toList.map Char.toNat:=by grind
  exact String.toList_inj.mp (List.map_inj_right (λ_ _=>toNat_inj)|>.mp c)
 .intro h;rw[h]
def abZ(c:Char):c.toNat<0x110000:=by have h:=c.valid;have a:c.toNat=c.val.toNat:=rfl;omega
@[simp]def agh(n)(a):okD n (.str (Str.ofString a))=true:=by show(Str.ofString a).cps.all _=true;simp only[aki];simp only[List.all_toArray,List.all_map,ai6,Function.comp,ake];intro c _;exact abZ c
@[simp] def agr (a b:Str):oEq (.str a) (.str b)=.ok (.bl (decide (a=b))):=by show Res.ok (W.bl (a==b))=_;rw[ajJ]
@[simp] theorem agl (a b:Str):oNe (.str a) (.str b)=.ok (.bl (!decide (a=b))):=by show Res.ok (W.bl !(a==b))=_;rw[ajJ]
inductive What where
  | none|any|same|left|about|right|partner|opposite
inductive Lone where|head|side|lefts|rights|inward|outward|sideways
noncomputable def What.w:What->String|.none=>"none"|.any=>"any"|.same=>"same"|.left=>"left"|.about=>"about"|.right=>"right"|.partner=>"partner"|.opposite=>"opposite"
noncomputable def Lone.w:Lone->String|.head=>"head"|.side=>"side"|.lefts=>"lefts"|.rights=>"rights"|.inward=>"inward"|.outward=>"outward"|.sideways=>"sideways"
inductive Tst where|lone(l:Lone)|at(a r:Int)(w:What)|inner(n:Int)
def Tst.W:Tst->WL.W|.lone l=>.tup [.str l.w]|.at a r w=>.tup [.str "at",.int a,.int r,.str w.w]|.inner n=>.tup [.str "inner",.int n]
def tsW(a:Bool)(t:Tst):WL.W:=if a then .tup [.str "not",t.W]else t.W
inductive Go where|ahead|back|left|right
inductive Tn where|left|right|about
noncomputable def Go.w:Go->String|.ahead=>"ahead"|.back=>"back"|.left=>"left"|.right=>"right"
noncomputable def Tn.w:Tn->String|.left=>"left"|.right=>"right"|.about=>"about"
inductive Stp where|go(g:Go)(n:Int)|turn(t:Tn)
def Stp.W:Stp->WL.W|.go g n=>.tup [.str g.w,.int n]|.turn t=>.tup [.str "turn",.str t.w]
structure Rl where ts:List (Bool×Tst)ss:Option (List Stp)
def tsL(ts:List (Bool×Tst)):WL.W:=.tup (ts.map λp=>tsW p.1 p.2)
def ssW:Option (List Stp)->WL.W|none=>.tup [.tup [.str "stay"]]|some l=>.tup (l.map Stp.W)
def Rl.W(r:Rl):WL.W:=.tup [tsL r.ts,ssW r.ss]
abbrev agW(f:List S3):Prop:=f.Pairwise λp r=>mn p≠mn r
inductive Met(f:List S3):W->Prop|none:agW f->Met f .non|two(i j:Nat):i<j->j<f.length->mn (f.getD i (0,0,0))=mn (f.getD j (0,0,0))->(∀a b,a<i->a<b->b<f.length->mn (f.getD a (0,0,0))≠mn (f.getD b (0,0,0)))->(∀b,i<b->b<j->mn (f.getD i (0,0,0))≠mn (f.getD b (0,0,0)))->Met f (.tup [.int i,.int j])
def h8{α}(xs:List α):atI xs (-1)=xs.getLast?:=by unfold atI ixN;cases xs with|nil=>rfl|cons x xs=>
 have h:¬0 <=-1:=by omega
 rw[aik h];have a:-((x::xs).length:Int)<=-1:=by grind
 rw[aij a];simp only[ajP,List.getLast?_eq_getElem?];congr 1;omega
end ML
namespace K47
open PySem WL
noncomputable def bZ:W:=.int 8
noncomputable def kD:W:=.int 200
noncomputable def pI:W:=.tup [.tup [.int 0,.int 1],.tup [.int (-1),.int 0],.tup [.int 0,.int (-1)],.tup [.int 1,.int 0]]
noncomputable def sX:W:=.int 4
noncomputable def lR:W:=.dic [.str "same",.str "left",.str "about",.str "right"] [.int 0,.int 1,.int 2,.int 3]
noncomputable def lS:W:=.tup [.str "inward",.str "outward",.str "sideways"]
noncomputable def bK:W:=.int 400
noncomputable def w4:W:=.dic [.str "heads",.str "sides",.str "lefts",.str "rights"] [.tup [.str "head"],.tup [.str "side"],.tup [.str "lefts"],.tup [.str "rights"]]
noncomputable def nS:W:=.int 12
noncomputable def nQ:W:=.int 6
noncomputable def nR:W:=.int 8
noncomputable def dS:W:=.tup [.str "head",.str "side",.str "lefts",.str "rights",.str "inward",.str "outward",.str "sideways"]
noncomputable def gB:W:=.tup [.str "left",.str "right",.str "about"]
noncomputable def nU:W:=.int 60
noncomputable def jM:W:=.int 8
noncomputable def jx:W:=.str "abcdefghijklmnopqrstuvwxyz"
noncomputable def w5:W:=.tup [.str "times",.str "heads",.str "sides",.str "lefts",.str "rights",.str "inner",.str "couples"]
def mi:SF:=bj (sIf (tOr (p8 (tB (eBi cy (ag (ao 0) (ag (eC (.ty "str")) az))))) (p8 (tB (kx oLe oLe (eC (.int 1)) (eBi sY (ag (ao 0) az)) (eC jM))))) (cp (eC (.bl false))) sNx) (cp (abT (eOp gO (ao 0) (eC w5)) (eBi zA (ag (g7 1 (ahn (ao 0)) (aX 0) tq (eOp aci (ao 0) (eC jx))) az))))
def nz:List W->Res W:=run 1 mi
def ik:SF:=bj (sIf (qa (tB (eOp oEq (ao 0) (eC (.str "turn")))) (tB (eOp oIn (ao 1) (eC gB)))) (cp (cR (ag (ao 0) (ag (ao 1) az)))) sNx) fW
def ji:List W->Res W:=run 2 ik
def gG:SF:=bj (sIf (tB (eOp oEq (ao 0) (eC (.str "stay")))) (cp (cR (ag (cR (ag (eC (.str "stay")) az)) az))) sNx) (bj (dm 1 (qU "str" eK (ao 0) (ag (eC (.str " ")) az))) (bj (sIf (tOr (tB (eOp oNe (eOp oMod (eBi jN (ag (ao 1) az)) (eC (.int 2))) (eC (.int 0)))) (tB (eOp oGt (eBi jN (ag (ao 1) az)) (eOp tw (eC (.int 2)) (eC nR))))) fW sNx) (cp (eBi jy (ag (g7 1 (y6 (eC (.int 0)) (eBi jN (ag (ao 1) az))) (aX 0) tq (aS ji (ag (eOp oIx (ao 2) (ao 0)) (ag (eOp oIx (ao 2) (eOp n7 (ao 0) (eC (.int 1)))) az)))) az)))))
def dP:List W->Res W:=run 2 gG
def cI:SF:=bj (sIf (tB (eOp oEq (eOp oIx (ao 0) (eC (.int 0))) (eC (.str "at")))) fW sNx) (bj (sIf (tB (eOp oEq (eOp oIx (ao 0) (eC (.int 0))) (eC (.str "inner")))) fW sNx) (bj (sIf (tOr (tB (eOp oNe (eBi jN (ag (ao 0) az)) (eC (.int 1)))) (tB (eOp gO (eOp oIx (ao 0) (eC (.int 0))) (eC dS)))) fW sNx) (cp (cR (ag (eOp oIx (ao 0) (eC (.int 0))) az)))))
def cP:List W->Res W:=run 1 cI
def ij:SF:=bj (dm 1 (qU "str" eK (ao 0) (ag (eC (.str " ")) az))) (bj (sIf (qa (tB (eOp oGt (eBi jN (ag (ao 1) az)) (eC (.int 1)))) (tB (eOp oEq (eOp oIx (ao 1) (eC (.int 0))) (eC (.str "not"))))) fW sNx) (cp (aS cP (ag (ao 1) az))))
def jh:List W->Res W:=run 2 ij
def gF:SF:=bj (dm 1 (qU "str" eK (ao 0) (ag (eC (.str " and ")) az))) (bj (sIf (tB (eOp oGt (eBi jN (ag (ao 1) az)) (eC nQ))) fW sNx) (cp (eBi jy (ag (g7 1 (tD (ao 1)) (aX 0) tq (aS jh (ag (ao 0) az))) az))))
def gT:List W->Res W:=run 2 gF
def il:SF:=bj (sIf (tB (qU "str" eT (ao 0) (ag (eC (.str "> ")) az))) (cp (cR (ag (cR az) (ag (aS dP (ag (eOp oW (ao 0) (eC (.int 2))) az)) az)))) sNx) (bj (dm 1 (qU "str" o5 (ao 0) (ag (eC (.str " > ")) az))) (bj (sIf (tB (eOp oEq (eOp oIx (ao 1) (eC (.int 1))) (eC (.str "")))) fW sNx) (cp (cR (ag (aS gT (ag (eOp oIx (ao 1) (eC (.int 0))) az)) (ag (aS dP (ag (eOp oIx (ao 1) (eC (.int 2))) az)) az))))))
def jj:List W->Res W:=run 2 il
def ip:SF:=bj (sIf (p8 (tB (eBi cy (ag (ao 0) (ag (eC (.ty "str")) az))))) fW sNx) (bj (dm 1 (qU "str" eK (ao 0) (ag (eC (.str " ; ")) az))) (bj (sIf (tB (eOp oGt (eBi jN (ag (ao 1) az)) (eC nS))) fW sNx) (cp (g7 1 (tD (ao 1)) (aX 0) tq (aS jj (ag (ao 0) az))))))
def jk:List W->Res W:=run 2 ip
def qM:SF:=sIf (p8 (tB (aS nz (ag (ao 2) az)))) fW sNx
def uD:SF:=sIf (tB (eOp oGt (eBi sY (ag (ao 1) az)) (eC nU))) fW sNx
def uC:SF:=tr (acj 1) (aX 2) qM
def ue:EF:=aS jk (ag (eOp oIx (ao 1) (ao 2)) az)
def qR:List W->Res W:=ahc uD uC ue
def cT:SF:=bj (sIf (tB (eOp oLt (ao 1) (eBi jN (ag (ao 0) az)))) (cp (eOp oIx (ao 0) (ao 1))) sNx) (cp (eC (.int 0)))
def aM:List W->Res W:=run 2 cT
def iv:SF:=sIf (tOr (p8 (tB (eBi cy (ag (ao 1) (ag (eC (.ty "str")) az))))) (tB (eOp iW (ao 1) (zl "Book" (ao 0))))) fW sNx
def i6:LF:=ad6 (eOp ach (zl "Book" (ao 0)) (ao 1))
def aZ:List W->Res W:=aaY 2 iv i6
def me:SF:=cp (cR (ag (eOp oIx (ao 0) (eC (.int 0))) (ag (eOp oIx (ao 0) (eC (.int 1))) az)))
def jg:List W->Res W:=run 1 me
def cN:SF:=sIf (tB (eOp oEq (aS jg (ag (eOp oIx (ao 0) (ao 1)) az)) (aS jg (ag (eOp oIx (ao 0) (ao 2)) az)))) (cp (cR (ag (ao 1) (ag (ao 2) az)))) sNx
def cO:SF:=tr (y7 (eOp n7 (ao 1) (eC (.int 1))) (eBi jN (ag (ao 0) az))) (aX 2) cN
def dv:SF:=bj (tr (ja (eBi jN (ag (ao 0) az))) (aX 1) cO) (cp (eC .non))
def dQ:List W->Res W:=run 3 dv
def j1:SF:=bj (dm 1 (aS dQ (ag (ao 0) az))) (bj (sIf (tB (eOp mW (ao 1) (eC .non))) fW sNx) (cp (eBi jy (ag (ao 0) az))))
def kr:List W->Res W:=run 2 j1
def ml:SF:=cp (eOp oEq (eOp oMod (eOp oDiv (ao 0) (eC (.int 2))) (eC (.int 2))) (eC (.int 0)))
def nB:List W->Res W:=run 1 ml
def mj:SF:=cp (eOp oEq (eOp oMod (ao 0) (eC (.int 2))) (eC (.int 0)))
def nA:List W->Res W:=run 1 mj
def mh:SF:=bj (sIf (tB (eOp oIn (ao 1) (cR (ag (eC (.str "head")) (ag (eC (.str "side")) az))))) (cp (eOp oEq (aS nB (ag (ao 0) az)) (eOp oEq (ao 1) (eC (.str "head"))))) sNx) (cp (eOp oEq (aS nA (ag (ao 0) az)) (eOp oEq (ao 1) (eC (.str "lefts")))))
def ny:List W->Res W:=run 2 mh
def uk:SF:=bj (dm 3 (eOp oIx (ao 2) (eC (.int 0)))) (bj (sIf (tB (eOp oEq (ao 3) (eC (.str "not")))) fW sNx) (bj (sIf (tB (eOp oEq (ao 3) (eC (.str "at")))) fW sNx) (bj (sIf (tB (eOp oEq (ao 3) (eC (.str "inner")))) fW sNx) (bj (sIf (tB (eOp oIn (ao 3) (eC lS))) fW sNx) (cp (aS ny (ag (ao 1) (ag (ao 3) az))))))))
def jm:List W->Res W:=run 4 uk
def gR:SF:=sIf (tB (eBi zA (ag (g7 1 (tD (eOp oIx (ao 4) (eC (.int 0)))) (aX 0) tq (aS jm (ag (ao 1) (ag (ao 2) (ag (ao 0) az))))) az))) (cp (ao 3)) sNx
def jW:SF:=bj (tr (y9 (ao 2)) (aet (jd (aX 3) (jd (aX 4) abK))) gR) (cp (eC .non))
def ko:List W->Res W:=run 5 jW
def jV:SF:=bj (sIf (qa (tB (eOp mW (ao 3) (eC .non))) (tB (eOp gO (ao 1) (ao 3)))) (cp (cR az)) sNx) (bj (dm 4 (aS ko (ag (ao 0) (ag (ao 1) (ag (ao 2) az))))) (bj (sIf (tB (eOp oIs (ao 4) (eC .non))) (oF "Blind" (ag (ao 1) az)) sNx) (cp (eOp oIx (eOp oIx (ao 2) (ao 4)) (eC (.int 1))))))
def kn:List W->Res W:=run 5 jV
def jY:SF:=cp (abT (eBi cy (ag (ao 0) (ag (eC (.ty "int")) az))) (ahv (eBi cy (ag (ao 0) (ag (eC (.ty "bool")) az)))))
def gp:List W->Res W:=run 1 jY
def j0:SF:=cp (abT (aS gp (ag (ao 0) az)) (kx oLe oLe (eUn k9 (eC kD)) (ao 0) (eC kD)))
def gq:List W->Res W:=run 1 j0
def iq:SF:=cp (abT (aS gp (ag (ao 0) az)) (kx oLe oLt (eC (.int 0)) (ao 0) (eBi jN (ag (eC pI) az))))
def jl:List W->Res W:=run 1 iq
def jZ:SF:=bj (sIf (tOr (p8 (tB (eBi cy (ag (ao 0) (ag (eC (.ty "tuple")) az))))) (tB (eOp oNe (eBi jN (ag (ao 0) az)) (eC (.int 3))))) (cp (eC (.bl false))) sNx) (cp (abT (aS gq (ag (eOp oIx (ao 0) (eC (.int 0))) az)) (abT (aS gq (ag (eOp oIx (ao 0) (eC (.int 1))) az)) (aS jl (ag (eOp oIx (ao 0) (eC (.int 2))) az)))))
def kq:List W->Res W:=run 1 jZ
def i5:SF:=sIf (p8 (tB (eBi zA (ag (g7 1 (tD (eSl (ao 2) (mL (eC (.int 1))) pNo)) (aX 0) tq (aS kq (ag (ao 0) az))) az)))) fW sNx
def mf:SF:=bj (tr (y9 (ao 0)) (aet (jd (aX 1) (jd (aX 2) abK))) i5) (cp (ao 0))
def nv:List W->Res W:=run 3 mf
def du:SF:=cp (eOp oMod (eOp n7 (ao 0) (eOp oIx (eC lR) (ao 1))) (eC sX))
def dO:List W->Res W:=run 2 du
def eF:SF:=bj (sIf (tB (eOp oEq (eOp oIx (ao 1) (eC (.int 0))) (eC (.str "turn")))) (cp (cR (ag (eOp oIx (ao 0) (eC (.int 0))) (ag (eOp oIx (ao 0) (eC (.int 1))) (ag (aS dO (ag (eOp oIx (ao 0) (eC (.int 2))) (ag (eOp oIx (ao 1) (eC (.int 1))) az))) az))))) sNx) fW
def eL:List W->Res W:=run 4 eF
def kh:SF:=sIf (tB (eOp oNe (eOp oIx (ao 3) (eC (.int 0))) (eC (.str "stay")))) (ahb 2 (ahx 2 (aS eL (ag (eOp oIx (ao 2) (eUn k9 (eC (.int 1)))) (ag (ao 3) az))))) sNx
def pY:SF:=bj (aaX 2 (ahm (ag (ao 0) az))) (bj (tr (tD (ao 1)) (aX 3) kh) (aha 2 (cp (ao 2))))
def qQ:List W->Res W:=run 4 pY
def zK:SF:=bj (dm 3 (aac 1 (ja (eC bZ)) (aX 0) tq (eM kn (ag (ao 1) (ag (ao 0) (ag (ao 2) (ag (ao 3) az))))))) (cp (aS nv (ag (g7 1 (ja (eC bZ)) (aX 0) tq (aS qQ (ag (eOp oIx (ao 1) (ao 0)) (ag (eOp oIx (ao 4) (ao 0)) az)))) az)))
def z9:List W->Res W:=run 4 zK
def pZ:SF:=cp (aS kr (ag (g7 1 (tD (eM z9 (ag (ao 0) (ag (ao 1) (ag (ao 2) az))))) (aX 0) tq (eOp oIx (ao 0) (eUn k9 (eC (.int 1))))) az))
def bE:List W->Res W:=run 3 pZ
def bQ:SF:=bj (sIf (p8 (tB (ao 3))) (cp (eM bE (ag (ao 0) (ag (ao 1) (ag (ao 2) az))))) sNx) fW
def aR:List W->Res W:=run 4 bQ
def iu:RF Rn:=oe (acu Rn.a Rn.val 0 4 (eOp xq (eBi jN (ag (dn "Run" 1 (ao 0)) az)) (eC (.int 1)))) (oe (lY (sIf (tB (eOp oEq (ao 4) (eC bK))) (oE "TooMany" (ag (eFf (eC bK)) az)) sNx)) (oe (tN Rn.a Rn.zJ 0 5 (nG "Book" aZ (dn "Run" 0 (ao 0)) (ag (ao 1) az))) (oa ["Blind"] 4 (eM aR (ag (eOp oIx (dn "Run" 1 (ao 0)) (eUn k9 (eC (.int 1)))) (ag (ao 5) (ag (ao 2) (ag (ao 3) az))))))))
def aI:List W->Rn->OX Rn:=runM 7 iu
def cb:SF:=bj (dm 3 (eIf (tB (eOp oEq (eOp oIx (ao 2) (eC (.int 0))) (eC (.str "inner")))) (eSl (ao 2) pNo (mL (eC (.int 2)))) (eOp oIx (eC w4) (eOp oIx (ao 2) (eC (.int 1)))))) (cp (g7 1 (tD (ao 1)) (aX 0) (tB (aS jm (ag (eOp oIx (dn "Run" 1 (ao 1)) (eUn k9 (eC (.int 1)))) (ag (ao 0) (ag (ao 4) az))))) (ao 0)))
def aK:List W->Res W:=run 4 cb
def aY(a:List W->Rn->OX Rn):RF Rn:=bw 0 a (axP (eOp oIx (ao 4) (eC (.int 2))) (axP (ao 2) (axP (ao 3) axN)))
def aw(a:List W->Rn->OX Rn):RF Rn:=xIf (xT Rn.a Rn.val 0 (tB (eOp oEq (eOp oIx (ao 4) (eC (.int 0))) (eC (.str "call"))))) (bw 0 aI (axP (eOp oIx (ao 4) (eC (.int 1))) (axP (ao 2) (axP (ao 3) axN)))) (xIf (xT Rn.a Rn.val 0 (tB (eOp oEq (eOp oIx (ao 4) (eC (.int 0))) (eC (.str "times"))))) (og (ja (eOp oIx (ao 4) (eC (.int 1)))) 5 (aY a)) (xIf (xT Rn.a Rn.val 0 (tB (eOp oEq (eOp oIx (ao 4) (eC (.int 0))) (eC (.str "couples"))))) (lY fW) (bw 0 a (axP (eOp oIx (ao 4) (eC (.int 2))) (axL 0 (ku "Run" aK (ao 0) (ag (ao 2) (ag (ao 4) az))) (axP (ao 3) axN))))))
def ir(a:List W->Rn->OX Rn):RF Rn:=og (tD (ao 1)) 4 (aw a)
noncomputable def ar:Nat->List W->Rn->OX Rn|0=>λ_ _=>.bad|n+1=>runM 6 (ir (ar n))
def xY:SF:=dC 3 (ag (ao 0) (ag (ao 1) az)) (oe (bw 3 (ar 5) (axP (ao 2) (axP (eLR (eC bZ)) (axP (eC (.bl false)) axN)))) (rj 3 (eSl (dn "Run" 1 (ao 3)) (mL (eC (.int 1))) pNo)))
def pe:List W->Res W:=run 4 xY
def jX:SF:=bj (dm 1 (lX (ag (eBi nZ (ag (ao 0) (ag (eC (.cls "Blind")) az))) (ag (eBi nZ (ag (ao 0) (ag (eC (.cls "Out")) az))) (ag (eBi nZ (ag (ao 0) (ag (eC (.cls "Meet")) az))) (ag (eBi nZ (ag (ao 0) (ag (eC (.cls "NoPairs")) az))) az)))))) (bj (sIf (tB (eOp oNe (qU "list" kg (ao 1) (ag (eC (.bl true)) az)) (eC (.int 1)))) fW sNx) (bj (dm 2 (qU "list" kf (ao 1) (ag (eC (.bl true)) az))) (bj (sIf (tB (eOp oEq (ao 2) (eC (.int 2)))) fW sNx) (bj (sIf (tB (eOp oEq (ao 2) (eC (.int 3)))) fW sNx) (cp (cR (ag (eOp oIx (lX (ag (eC (.str "blind")) (ag (eC (.str "out")) az))) (ao 2)) (ag (acm (ao 0) "who") az))))))))
def gk:List W->Res W:=run 3 jX
def bW:SF:=dm 4 (eM pe (ag (ao 0) (ag (ao 1) (ag (ao 2) az))))
def bV:SF:=dm 3 (ao 5)
def cJ:SF:=bj (dm 3 (eC .non)) (bj (dm 4 (eC .non)) (bj (qi bW "FloorError" 5 bV) (bj (sIf (tB (eOp oIs (ao 3) (eC .non))) (cp (cR (ag (eC (.str "floors")) (ag (ao 4) az)))) sNx) (bj (sIf (qa (tB (eBi nZ (ag (ao 3) (ag (eC (.cls "Broken")) az)))) (qa (tB (eBi nZ (ag (ao 3) (ag (eC (.ty "ValueError")) az)))) (p8 (tB (eBi nZ (ag (ao 3) (ag (eC (.cls "TooMany")) az))))))) (cp (cR (ag (eC (.str "broken")) (ag (acm (ao 3) "at") (ag (aS gk (ag (acm (ao 3) "why") az)) az))))) sNx) (bj (sIf (qa (tB (eBi nZ (ag (ao 3) (ag (eC (.cls "TooMany")) az)))) (qa (tB (eBi nZ (ag (ao 3) (ag (eC (.ty "ValueError")) az)))) (p8 (tB (eBi nZ (ag (ao 3) (ag (eC (.cls "Broken")) az))))))) (cp (cR (ag (eC (.str "many")) az))) sNx) (cp (cR (ag (eC (.str "other")) az))))))))
def aU:List W->Res W:=run 6 cJ
def cC:SF:=bj (dm 4 (lX (ag (cR (ag (eC (.str "call")) (ag (eC (.str "spin")) az))) az))) (bj (sIf (tB (eOp oGt (ao 2) (eC (.int 0)))) (dm 4 (lX (ag (cR (ag (eC (.str "some")) (ag (eOp oIx (lX (ag (eC (.str "heads")) (ag (eC (.str "sides")) (ag (eC (.str "lefts")) (ag (eC (.str "rights")) az))))) (eOp xq (ao 2) (eC (.int 1)))) (ag (ao 4) az)))) az))) sNx) (bj (dm 5 (eOp oDiv (ao 0) (eOp tw (eC (.int 6)) (ao 1)))) (bj (dm 6 (lX (ag (cR (ag (eC (.str "times")) (ag (ao 1) (ag (lX (ag (cR (ag (eC (.str "times")) (ag (eC (.int 6)) (ag (lX (ag (cR (ag (eC (.str "times")) (ag (ao 5) (ag (ao 4) az)))) az)) az)))) az)) az)))) az))) (bj (dm 6 (eOp n7 (ao 6) (eOp iV (lX (ag (cR (ag (eC (.str "call")) (ag (eC (.str "spin")) az))) az)) (eOp xq (ao 0) (eOp tw (eOp tw (eC (.int 6)) (ao 1)) (ao 5)))))) (cp (eOp n7 (ao 6) (eOp iV (lX (ag (cR (ag (eC (.str "call")) (ag (ao 3) az))) az)) (eBi zz (ag (eOp oNe (ao 3) (eC (.str ""))) az)))))))))
def bR:List W->Res W:=run 7 cC
def bF:SF:=bj (dm 7 (aS aU (ag (ao 2) (ag (ao 1) (ag (aS bR (ag (ao 6) (ag (ao 3) (ag (ao 4) (ag (ao 5) az))))) az))))) (bj (dm 8 (cR (ag (eC (.str "many")) az))) (bj (sIf (qa (tB (eOp oLe (eOp n7 (ao 6) (eBi zz (ag (eOp oEq (ao 5) (eC (.str "spin"))) az))) (eC (.int 400)))) (tB (eOp oNe (ao 5) (eC (.str "deaf"))))) (bj (sIf (tOr (tB (eOp oNe (eOp oIx (ao 7) (eC (.int 0))) (eC (.str "floors")))) (tB (eOp oNe (eBi jN (ag (eOp oIx (ao 7) (eC (.int 1))) az)) (eOp n7 (ao 6) (eBi zz (ag (eOp oEq (ao 5) (eC (.str "spin"))) az)))))) (cp (eC (.bl false))) sNx) (dm 8 (ao 7))) (sIf (qa (tB (eOp oEq (ao 5) (eC (.str "deaf")))) (tB (eOp oLt (ao 6) (eC (.int 400))))) (dm 8 (cR (ag (eC (.str "broken")) (ag (ao 6) (ag (cR (ag (eC (.str "blind")) (ag (eC (.int 0)) az))) az))))) sNx)) (sIf (tB (eOp oNe (ao 7) (ao 8))) (cp (eC (.bl false))) sNx)))
def aaL:SF:=bj (dm 1 (cR (ag (cR (ag (eUn k9 (eC (.int 1))) (ag (eUn k9 (eC (.int 3))) (ag (eC (.int 0)) az)))) (ag (cR (ag (eC (.int 1)) (ag (eUn k9 (eC (.int 3))) (ag (eC (.int 0)) az)))) (ag (cR (ag (eC (.int 3)) (ag (eUn k9 (eC (.int 1))) (ag (eC (.int 1)) az)))) (ag (cR (ag (eC (.int 3)) (ag (eC (.int 1)) (ag (eC (.int 1)) az)))) (ag (cR (ag (eC (.int 1)) (ag (eC (.int 3)) (ag (eC (.int 2)) az)))) (ag (cR (ag (eUn k9 (eC (.int 1))) (ag (eC (.int 3)) (ag (eC (.int 2)) az)))) (ag (cR (ag (eUn k9 (eC (.int 3))) (ag (eC (.int 1)) (ag (eC (.int 3)) az)))) (ag (cR (ag (eUn k9 (eC (.int 3))) (ag (eUn k9 (eC (.int 1))) (ag (eC (.int 3)) az)))) az)))))))))) (bj (dm 2 (nH "Book" qR (ag (afk (ag (eC (.str "spin")) (ag (eC (.str "> turn left")) (ag (eC (.str "deaf")) (ag (eC (.str "head and side > stay")) az))))) az))) (bj (dm 3 (eOp n7 (eC (.int 2)) (eOp oMod (aS aM (ag (ao 0) (ag (eC (.int 0)) az))) (eC (.int 20))))) (bj (dm 4 (eOp oMod (aS aM (ag (ao 0) (ag (eC (.int 1)) az))) (eC (.int 5)))) (bj (dm 5 (eOp oIx (lX (ag (eC (.str "")) (ag (eC (.str "deaf")) (ag (eC (.str "spin")) az)))) (eOp oMod (aS aM (ag (ao 0) (ag (eC (.int 2)) az))) (eC (.int 3))))) (bj (tr (tD (lX (ag (eOp n7 (eC (.int 398)) (eOp oMod (aS aM (ag (ao 0) (ag (eC (.int 3)) az))) (eC (.int 2)))) (ag (eC (.int 400)) (ag (eOp n7 (eC (.int 401)) (eOp oMod (aS aM (ag (ao 0) (ag (eC (.int 4)) az))) (eC (.int 2)))) az))))) (aX 6) bF) (cp (eC (.bl true))))))))
def zi:List W->Res W:=run 9 aaL
end K47
namespace K47
open PySem WL ML
noncomputable abbrev CS:W:=.lst [.tup [.tup [],.tup [.tup [.str "turn",.str "left"]]]]
noncomputable abbrev CD:W:=.lst [.tup [.tup [.tup [.str "head"],.tup [.str "side"]],.tup [.tup [.str "stay"]]]]
abbrev BK:W:=.ins "Book" [.dic [.str "spin",.str "deaf"] [CS,CD]]
def ab4:qR [.dic [.str "spin",.str "deaf"] [.str "> turn left",.str "head and side > stay"]]=.ok (.dic [.str "spin",.str "deaf"] [CS,CD]):=by kernel_rfl
def aeL:aZ [BK,.str "spin"]=.ok CS:=by kernel_rfl
def aeM:aZ [BK,.str "deaf"]=.ok CD:=by kernel_rfl
noncomputable def inG:Nat->Nat->Bool|1,d=>d/2%2==0|2,d=>d/2%2==1|3,d=>d%2==0|4,d=>d%2==1|_,_=>true
def std(g i j d:Nat)(x y:Int)(f:Nat):W:=.tup [.int x,.int y,.int (((f+if inG g d then i else j)%4:Nat):Int)]
def flo(g i j:Nat):W:=.tup [std g i j 0 (-1) (-3) 0,std g i j 1 1 (-3) 0,std g i j 2 3 (-1) 1,std g i j 3 3 1 1,std g i j 4 1 3 2,std g i j 5 (-1) 3 2,std g i j 6 (-3) 1 3,std g i j 7 (-3) (-1) 3]
def dg(g:Nat):W:=.lst (((List.range 8).filter (inG g)).map λd=>.int (d:Nat))
def ah0:∀g i j,g<5->i<4->j<4->bE [flo g i j,CS,dg g]=.ok (flo g ((i+1)%4) j):=by intro g i j c b a;rcases g with _|_|_|_|_|g<;>rcases i with _|_|_|_|i<;>rcases j with _|_|_|_|j<;>first|omega|kernel_rfl
def ah2:∀g i j,g<5->i<4->j<4->bE [flo g i j,CS,dg 0]=.ok (flo g ((i+1)%4) ((j+1)%4)):=by intro g i j c b a;rcases g with _|_|_|_|_|g<;>rcases i with _|_|_|_|i<;>rcases j with _|_|_|_|j<;>first|omega|kernel_rfl
def ah1(w:W):bE [w,CD,dg 0]=.ex (.exc "Blind" [.int 0]):=by kernel_rfl
section
variable{a r:Nat}{l:List W}{w sm c v x:W}{nm:Str}
noncomputable abbrev DS(a:Nat)(nm:Str)(sm:W)(x4 x5:Sl):Ws:=[.va (.id a),.va (.str nm),.va sm,.va (.bl false),x4,x5,.no]
def aag:acu Rn.a Rn.val 0 4 (eOp xq (eBi jN (ag (dn "Run" 1 (ao 0)) az)) (eC (.int 1))) (DS a nm sm .no .no) ⟨a,r,BK,l++[w]⟩=.nx (DS a nm sm (.va (.int l.length)) .no) ⟨a,r,BK,l++[w]⟩:=by simp[acu,seen,dn,z8,Rn.val]
def ky(h:l.length=400):∃b,aI [.id a,.str nm,sm,.bl false] ⟨a,r,BK,l++[w]⟩=.ex (.exc "TooMany" []) b:=by refine⟨DS a nm sm (.va (.int 400)) .no,?_⟩;show oe _ _ (DS a nm sm .no .no) _=_;unfold oe;rw[aag,h];rfl
def xb(b:bE [w,c,sm]=.ok v):aR [w,c,sm,.bl false]=.ok v:=by simp[aR,bQ,b]
def xc(b:bE [w,c,sm]=.ex x):aR [w,c,sm,.bl false]=.ex x:=by simp[aR,bQ,b]
def aaf(e:aZ [BK,.str nm]=.ok c)(h:l.length<400):aI [.id a,.str nm,sm,.bl false] ⟨a,r,BK,l++[w]⟩=oa ["Blind"] 4 (eM aR (ag (eOp oIx (dn "Run" 1 (ao 0)) (eUn k9 (eC (.int 1)))) (ag (ao 5) (ag (ao 2) (ag (ao 3) az))))) (DS a nm sm (.va (.int l.length)) (.va c)) ⟨a,r,BK,l++[w]⟩:=by
 show oe _ _ (DS a nm sm .no .no) _=_;unfold oe;rw[aag];have f:¬(l.length:Int)=400:=by omega
 have d:lY (sIf (tB (eOp oEq (ao 4) (eC bK))) (oE "TooMany" (ag (eFf (eC bK)) az)) sNx) (DS a nm sm (.va (.int l.length)) .no) (⟨a,r,BK,l++[w]⟩:Rn)=.nx (DS a nm sm (.va (.int l.length)) .no) ⟨a,r,BK,l++[w]⟩:=by simp[lY,bK,f]
 have b:tN Rn.a Rn.zJ 0 5 (nG "Book" aZ (dn "Run" 0 (ao 0)) (ag (ao 1) az)) (DS a nm sm (.va (.int l.length)) .no) ⟨a,r,BK,l++[w]⟩=.nx (DS a nm sm (.va (.int l.length)) (.va c)) ⟨a,r,BK,l++[w]⟩:=by simp[tN,seen,dn,z8,Rn.zJ,nG,isI,e]
 simp only[oe,d,b]
def zq(f:aZ [BK,.str nm]=.ok c)(h:l.length<400)(e:bE [w,c,sm]=.ok v)(d:plain v=true):∃b,aI [.id a,.str nm,sm,.bl false] ⟨a,r,BK,l++[w]⟩=.nx b ⟨a,r,BK,l++[w]++[v]⟩:=by
 refine⟨DS a nm sm (.va (.int l.length)) (.va c),?_⟩;rw[aaf f h];have z:l.length+1<1000000:=by omega
 simp[oa,seen,dn,z8,Rn.val,h8,xb e,d,z]
def zr(f:aZ [BK,.str nm]=.ok c)(h:l.length<400)(e:bE [w,c,sm]=.ex (.exc "Blind" [.int 0])):∃d,aI [.id a,.str nm,sm,.bl false] ⟨a,r,BK,l++[w]⟩=.ex (.exc "Broken" [.int l.length,.exc "Blind" [.int 0]]) d:=by
 refine⟨List.replicate 7 .no,?_⟩;rw[aaf f h];have z:j2 (.int l.length)=true:=by
  have:l.length.log2<100:=by
   by_cases b:l.length=0;.rw[b];decide
   .exact(Nat.log2_lt b).mpr (Nat.lt_trans h (by decide))
  simpa[j2]using this
 simp[oa,seen,dn,z8,Rn.val,h8,xc e,z,isC,List.replicate]
end
def St(g n:Nat)(fs:List W):Prop:=(fs.length=n+1/\n<=400)/\∀w∈fs,∃i j,i<4/\j<4/\w=flo g i j
def St.last{g n fs}(h:St g n fs):∃l i j,i<4/\j<4/\fs=l++[flo g i j]/\l.length=n:=by
 rcases List.eq_nil_or_concat fs with e|⟨l,w,e⟩;.rw[e]at h;cases h.1.1
 .subst e;obtain⟨i,j,a,b,rfl⟩:=h.2 w (by simp);exact⟨l,i,j,a,b,by simp,by simpa using h.1.1⟩
def St.app{g n l i j a b}(h:St g n (l++[flo g i j]))(c:a<4)(d:b<4)(e:n+1<=400):St g (n+1) (l++[flo g i j]++[flo g a b]):=by
 refine⟨⟨by rw[aiM,h.1.1];rfl,e⟩,λw hw=>?_⟩;rcases ajj.mp hw with hw|hw;.exact h.2 w hw
 .exact⟨a,b,c,d,aiX.mp hw⟩
theorem St.tuh{g n fs}(h:St g n fs):tuh fs=true:=by cases fs with|nil=>cases h.1.1|cons w ws=>obtain⟨i,j,_,_,rfl⟩:=h.2 w (by simp);rfl
def u4(g i j):plain (flo g i j)=true:=rfl
def gro(k:Nat)(fs:List W):List W:=match bE [fs.getLastD .non,CS,dg k]with|.ok v=>fs++[v]|_=>fs
noncomputable abbrev TM:W:=.exc "TooMany" []
abbrev GS(a:Nat)(w1:W)(k:Nat)(x4 x5:Sl):Ws:=[.va (.id a),.va w1,.va (dg k),.va (.bl false),x4,x5]
abbrev Hit(g c:Nat)(T:List W->List W)(n:Nat)(fs:List W)(nx ex:Prop):Prop:=(n+c<=400->St g (n+c) (T fs)/\nx)/\(400<n+c->ex)
def agX(g d:Nat)(its:List W)(k c:Nat)(T:List W->List W):Prop:=∀n fs a r,St g n fs->Hit g c T n fs (∃b,ar d [.id a,.lst its,dg k,.bl false] ⟨a,r,BK,fs⟩=.nx b ⟨a,r,BK,T fs⟩) (∃b,ar d [.id a,.lst its,dg k,.bl false] ⟨a,r,BK,fs⟩=.ex TM b)
def aco(g d:Nat)(it:W)(k c:Nat)(T:List W->List W):Prop:=∀n fs a r b e,St g n fs->Hit g c T n fs (∃f,aw (ar d) (GS a b k (.va it) e) ⟨a,r,BK,fs⟩=.nx (GS a b k (.va it) f) ⟨a,r,BK,T fs⟩) (∃h,aw (ar d) (GS a b k (.va it) e) ⟨a,r,BK,fs⟩=.ex TM h)
noncomputable def xlp{S}(o:OX S)(f:Ws->S->OX S):OX S:=match o with|.nx σ s=>f σ s|.ct σ s=>f σ s|.bk σ s=>.nx σ s|o=>o
def eg{S}(k:Nat)(b:RF S)(x xs a s):di k b (x::xs) a s=xlp (b (a.set k (.va x)) s) (di k b xs):=by rw[di];cases b (a.set k (.va x)) s<;>rfl
inductive Its(g d k:Nat):List W->Nat->(List W->List W)->Prop where|nil:Its g d k [] 0 id|cons{it its c c' T T'}:aco g d it k c T->Its g d k its c' T'->Its g d k (it::its) (c+c') λl=>T' (T l)
section
variable{g d k c c' n:Nat}{its jts:List W}{T T':List W->List W}{fs:List W}{a r:Nat}{w1:W}{x4 x5:Sl}
def aej(h:Its g d k its c T):∀{n fs x4 x5},St g n fs->Hit g c T n fs (∃j b,di 4 (aw (ar d)) its (GS a w1 k x4 x5) ⟨a,r,BK,fs⟩=.nx (GS a w1 k j b) ⟨a,r,BK,T fs⟩) (∃f,di 4 (aw (ar d)) its (GS a w1 k x4 x5) ⟨a,r,BK,fs⟩=.ex TM f):=by induction h with|nil=>exact λ{n fs x4 x5}s=>⟨λ_=>⟨s,x4,x5,rfl⟩,λz=>absurd z (by have:=s.1.2;omega)⟩|@cons it its c c' T T' h1 h2 ih=>
  intro n fs x4 x5 s;have q:=h1 n fs a r w1 x5 s;rw[eg];show Hit _ _ _ _ _ (∃j b,xlp (aw (ar d) (GS a w1 k (.va it) x5) _) _=_) (∃f,xlp (aw (ar d) (GS a w1 k (.va it) x5) _) _=_);refine⟨λz=>?_,λz=>?_⟩;.obtain⟨i,b,e⟩:=q.1 (by omega);rw[e];have:=(ih (x4:=.va it) (x5:=b) i).1 (by omega);rw[Nat.add_assoc]at this;exact this
  .by_cases l:n+c<=400;.obtain⟨i,b,e⟩:=q.1 l;rw[e];exact(ih (x4:=.va it) (x5:=b) i).2 (by omega)
   .obtain⟨f,e⟩:=q.2 (by omega);rw[e];exact⟨f,rfl⟩
end
section
variable{g d k c c' n:Nat}{its jts:List W}{T T':List W->List W}{fs:List W}{a r:Nat}{w1:W}{x4 x5:Sl}
def sx(h:Its g d k its c T):agX g (d+1) its k c T:=by intro n fs a r s;have q:=aej (a:=a) (r:=r) (w1:=.lst its) (x4:=.no) (x5:=.no) h s;have e:ar (d+1) [.id a,.lst its,dg k,.bl false] ⟨a,r,BK,fs⟩=di 4 (aw (ar d)) its (GS a (.lst its) k .no .no) ⟨a,r,BK,fs⟩:=rfl;rw[e];exact⟨λz=>let⟨b,j,i,f⟩:=q.1 z;⟨b,_,f⟩,q.2⟩
def qL{w:W}{b}:aw b (GS a w1 k (.va (.tup [.str "call",w])) x5) ⟨a,r,BK,fs⟩=bw 0 aI (axP (eOp oIx (ao 4) (eC (.int 1))) (axP (ao 2) (axP (ao 3) axN))) (GS a w1 k (.va (.tup [.str "call",w])) x5) ⟨a,r,BK,fs⟩:=by show xF (xT _ _ _ _ _ _) _ _=_;rw[show xT Rn.a Rn.val 0 (tB (eOp oEq (eOp oIx (ao 4) (eC (.int 0))) (eC (.str "call")))) (GS a w1 k (.va (.tup [.str "call",w])) x5) ⟨a,r,BK,fs⟩=.ok true by simp[xT,seen]];rfl
def vG{w u:W}{b}:aw b (GS a w1 k (.va (.tup [.str "times",w,u])) x5) ⟨a,r,BK,fs⟩=og (ja (eOp oIx (ao 4) (eC (.int 1)))) 5 (aY b) (GS a w1 k (.va (.tup [.str "times",w,u])) x5) ⟨a,r,BK,fs⟩:=by show xF (xT _ _ _ _ _ _) _ (xF (xT _ _ _ _ _ _) _ _)=_;rw[show xT Rn.a Rn.val 0 (tB (eOp oEq (eOp oIx (ao 4) (eC (.int 0))) (eC (.str "call")))) (GS a w1 k (.va (.tup [.str "times",w,u])) x5) ⟨a,r,BK,fs⟩=.ok false by simp[xT,seen],show xT Rn.a Rn.val 0 (tB (eOp oEq (eOp oIx (ao 4) (eC (.int 0))) (eC (.str "times")))) (GS a w1 k (.va (.tup [.str "times",w,u])) x5) ⟨a,r,BK,fs⟩=.ok true by simp[xT,seen]];rfl
def yO{w u:W}{b}:aw b (GS a w1 k (.va (.tup [.str "some",w,u])) x5) ⟨a,r,BK,fs⟩=bw 0 b (axP (eOp oIx (ao 4) (eC (.int 2))) (axL 0 (ku "Run" aK (ao 0) (ag (ao 2) (ag (ao 4) az))) (axP (ao 3) axN))) (GS a w1 k (.va (.tup [.str "some",w,u])) x5) ⟨a,r,BK,fs⟩:=by show xF (xT _ _ _ _ _ _) _ (xF (xT _ _ _ _ _ _) _ (xF (xT _ _ _ _ _ _) _ _))=_;rw[show xT Rn.a Rn.val 0 (tB (eOp oEq (eOp oIx (ao 4) (eC (.int 0))) (eC (.str "call")))) (GS a w1 k (.va (.tup [.str "some",w,u])) x5) ⟨a,r,BK,fs⟩=.ok false by simp[xT,seen],show xT Rn.a Rn.val 0 (tB (eOp oEq (eOp oIx (ao 4) (eC (.int 0))) (eC (.str "times")))) (GS a w1 k (.va (.tup [.str "some",w,u])) x5) ⟨a,r,BK,fs⟩=.ok false by simp[xT,seen],show xT Rn.a Rn.val 0 (tB (eOp oEq (eOp oIx (ao 4) (eC (.int 0))) (eC (.str "couples")))) (GS a w1 k (.va (.tup [.str "some",w,u])) x5) ⟨a,r,BK,fs⟩=.ok false by simp[xT,seen]];rfl
def aes{l:List W}{i j}(q:k=0\/k=g)(o:g<5)(m:i<4)(h:j<4):∃b f,b<4/\f<4/\bE [flo g i j,CS,dg k]=.ok (flo g b f)/\gro k (l++[flo g i j])=l++[flo g i j]++[flo g b f]:=by
 obtain⟨b,f,p,s,e⟩:∃b f,b<4/\f<4/\bE [flo g i j,CS,dg k]=.ok (flo g b f):=by
  rcases q with rfl|rfl;.exact⟨_,_,Nat.mod_lt _ (by decide),Nat.mod_lt _ (by decide),ah2 g i j o m h⟩
  .exact⟨_,_,Nat.mod_lt _ (by decide),h,ah0 _ i j o m h⟩
 exact⟨b,f,p,s,e,by unfold gro;simp only[List.getLastD_eq_getLast?,List.getLast?_append,List.getLast?_singleton,Option.some_or,Option.getD_some,e]⟩
def lu(q:k=0\/k=g)(o:g<5):aco g d (.tup [.str "call",.str "spin"]) k 1 (gro k):=by
 intro n fs a r w1 x5 s;rw[qL];have e:∀fs,bw 0 aI (axP (eOp oIx (ao 4) (eC (.int 1))) (axP (ao 2) (axP (ao 3) axN))) (GS a w1 k (.va (.tup [.str "call",.str "spin"])) x5) ⟨a,r,BK,fs⟩=ofM (GS a w1 k (.va (.tup [.str "call",.str "spin"])) x5) (aI [.id a,.str "spin",dg k,.bl false] ⟨a,r,BK,fs⟩):=λfs=>by simp[bw,axP,axN]
 rw[e];obtain⟨l,i,j,m,t,rfl,A⟩:=s.last;obtain⟨f,u,v,y,x,h⟩:=aes (l:=l) q o m t;refine⟨λz=>?_,λz=>?_⟩;.rw[h];obtain⟨p,b⟩:=zq (a:=a) (r:=r) (l:=l) aeL (by omega) x (u4 g f u);rw[b];exact⟨s.app v y z,x5,rfl⟩
 .obtain⟨p,b⟩:=ky (a:=a) (r:=r) (nm:="spin") (sm:=dg k) (w:=flo g i j) (l:=l) (by have:=s.1.2;omega);rw[b];exact⟨_,rfl⟩
noncomputable def iter(T:List W->List W):Nat->List W->List W|0,l=>l|m+1,l=>iter T m (T l)
def xG{S}{it:LF}{xs:List W}{e:Ws}(h:it e=.ok xs)(k:Nat)(b:RF S)(s:S):og it k b e s=di k b xs e s:=by unfold og;rw[h]
def xW{m:Nat}{t:EF}{f:Ws}(e:t f=.ok (.int m))(h:m<=1000):ja t f=.ok (rng 0 m):=by
 have b:-(2^62:Int)<=(m:Int)/\(m:Int)<2^62:=by omega
 rw[y8,e,bq,yd,aij b,akb]
def lr{m:Nat}(h:agX g d its k c T)(t:m<=1000):aco g d (.tup [.str "times",.int m,.lst its]) k (m*c) (iter T m):=by
 intro n fs a r w1 x5 s;rw[vG];rw[xG (xW (m:=m) (by simp) t)];have go:∀(b:Nat)(e:List W),e.length=b->∀n fs x5,St g n fs->Hit g (b*c) (iter T b) n fs (∃v,di 5 (aY (ar d)) e (GS a w1 k (.va (.tup [.str "times",.int m,.lst its])) x5) ⟨a,r,BK,fs⟩=.nx (GS a w1 k (.va (.tup [.str "times",.int m,.lst its])) v) ⟨a,r,BK,iter T b fs⟩) (∃j,di 5 (aY (ar d)) e (GS a w1 k (.va (.tup [.str "times",.int m,.lst its])) x5) ⟨a,r,BK,fs⟩=.ex TM j):=by intro b;induction b with|zero=>intro e l n fs x5 s;cases aj8.mp l;rw[Nat.zero_mul];exact⟨λ_=>⟨s,x5,rfl⟩,λz=>absurd z (by have:=s.1.2;omega)⟩|succ b i=>intro e l n fs x5 s;cases e with|nil=>cases l|cons x e=>
    have q:=h n fs a r s;have i:=λn fs x5=>i e (by simpa using l) n fs x5;rw[eg,Nat.succ_mul];have p:aY (ar d) ((GS a w1 k (.va (.tup [.str "times",.int m,.lst its])) x5).set 5 (.va x)) ⟨a,r,BK,fs⟩=ofM (GS a w1 k (.va (.tup [.str "times",.int m,.lst its])) (.va x)) (ar d [.id a,.lst its,dg k,.bl false] ⟨a,r,BK,fs⟩):=by simp[aY,bw,axP,axN]
    rw[p];refine⟨λz=>?_,λz=>?_⟩;.obtain⟨o,j,f⟩:=q.1 (by omega);rw[f];have:=(i _ _ (.va x) o).1 (by omega);rw[show n+c+b*c=n+(b*c+c)by omega]at this;exact this
    .by_cases u:n+c<=400;.obtain⟨o,j,f⟩:=q.1 u;rw[f];exact(i _ _ (.va x) o).2 (by omega)
     .obtain⟨j,f⟩:=q.2 (by omega);rw[f];exact⟨_,rfl⟩
 exact go m _ (by simp) n fs x5 s
end
noncomputable def kd:Nat->Str|1=>"heads"|2=>"sides"|3=>"lefts"|_=>"rights"
noncomputable def ts:Nat->W|1=>.tup [.str "head"]|2=>.tup [.str "side"]|3=>.tup [.str "lefts"]|_=>.tup [.str "rights"]
def xX:∀g,1<=g->g<5->oIx w4 (.str (kd g))=.ok (ts g):=by intro g a b;rcases g with _|_|_|_|_|g<;>first|omega|kernel_rfl
def zb(w:W):∀g d,1<=g->g<5->d<8->jm [w,.int (d:Nat),ts g]=.ok (.bl (inG g d)):=by intro g d c b a;rcases g with _|_|_|_|_|g<;>rcases d with _|_|_|_|_|_|_|_|d<;>first|omega|kernel_rfl
def dg0:dg 0=.lst ((List.range 8).map λd=>.int (d:Nat)):=rfl
section
variable{g d k c c' n:Nat}{its jts:List W}{T T':List W->List W}{fs:List W}{a r:Nat}{w1:W}{x4 x5:Sl}
def abA{l:List W}{w u:W}(b:1<=g)(f:g<5):aK [.ins "Run" [BK,.lst (l++[w])],dg 0,.tup [.str "some",.str (kd g),u]]=.ok (dg g):=by have e:bB (aX 0) (tB (aS jm (ag (eOp oIx (dn "Run" 1 (ao 1)) (eUn k9 (eC (.int 1)))) (ag (ao 0) (ag (ao 4) az))))) (ao 0) [.no,.va (.ins "Run" [BK,.lst (l++[w])]),.va (dg 0),.va (.tup [.str "some",.str (kd g),u]),.va (ts g)] ((List.range 8).map λd=>.int (d:Nat))=.ok (((List.range 8).filter (inG g)).map λd=>.int (d:Nat)):=gU λd h=>⟨_,rfl,by simp[dn,z8,h8,zb w g d b f (aj4.mp h)],λ_=>by simp⟩;simp only[aK,cb,run_eq,aiC,ala,ait,ajm,List.replicate,ajN,ajD,oC,kS,oD,zm,yR];rw[dg0]at e⊢;simp[xX g b f,e];rfl
def abG{T}(o:1<=g)(p:g<5)(h:agX g d its g c T):aco g d (.tup [.str "some",.str (kd g),.lst its]) 0 c T:=by
 intro n fs a r w1 x5 s;rw[yO];have e:bw 0 (ar d) (axP (eOp oIx (ao 4) (eC (.int 2))) (axL 0 (ku "Run" aK (ao 0) (ag (ao 2) (ag (ao 4) az))) (axP (ao 3) axN))) (GS a w1 0 (.va (.tup [.str "some",.str (kd g),.lst its])) x5) ⟨a,r,BK,fs⟩=ofM (GS a w1 0 (.va (.tup [.str "some",.str (kd g),.lst its])) x5) (ar d [.id a,.lst its,dg g,.bl false] ⟨a,r,BK,fs⟩):=by
  obtain⟨l,i,j,t,u,rfl,v⟩:=s.last;have z:agy (dg g)=true:=by show(((List.range 8).filter (inG g)).map λd=>W.int (d:Nat)).all isInt=true;rw[List.all_map];exact ai6.mpr λ_ _=>rfl
  simp[bw,axP,axL,axN,seen,Rn.val,ku,isN,abA o p,z,s.tuh]
 rw[e];have q:=h n fs a r s;refine⟨λz=>?_,λz=>?_⟩;.obtain⟨m,f,b⟩:=q.1 z;rw[b];exact⟨m,x5,rfl⟩
 .obtain⟨f,b⟩:=q.2 z;rw[b];exact⟨_,rfl⟩
def Its.app(h:Its g d k its c T)(h':Its g d k jts c' T'):Its g d k (its++jts) (c+c') λl=>T' (T l):=by induction h with|nil=>rw[akt];exact h'|@cons it its c1 c2 T1 T2 q _ ih=>rw[Nat.add_assoc];exact Its.cons (T:=T1) (T':=λl=>T' (T2 l)) q ih
def Its.one{it}(h:aco g d it k c T):Its g d k [it] c T:=.cons h .nil
def Its.rep{it m}(h:aco g d it k c T):∃T',Its g d k (List.replicate m it) (m*c) T':=by induction m with|zero=>exact⟨id,by rw[Nat.zero_mul];exact .nil⟩|succ m ih=>obtain⟨T',q⟩:=ih;exact⟨_,by have z:=Its.cons h q;rwa[show c+m*c=(m+1)*c by rw[Nat.succ_mul,Nat.add_comm]]at z⟩
def qN(h:Its g d 0 its c T)(x:g<5):∀{n fs x4 x5},St g n fs->(n+c<400->∃b,di 4 (aw (ar d)) (its++[.tup [.str "call",.str "deaf"]]) (GS a w1 0 x4 x5) ⟨a,r,BK,fs⟩=.ex (.exc "Broken" [.int ((n+c:Nat):Int),.exc "Blind" [.int 0]]) b)/\(400<=n+c->∃b,di 4 (aw (ar d)) (its++[.tup [.str "call",.str "deaf"]]) (GS a w1 0 x4 x5) ⟨a,r,BK,fs⟩=.ex TM b):=by
 induction h with|nil=>
  intro n fs x4 x5 s;rw[ajD,eg,Nat.add_zero];show(_->∃b,xlp (aw (ar d) (GS a w1 0 (.va (.tup [.str "call",.str "deaf"])) x5) _) _=_)/\(_->∃b,xlp (aw (ar d) (GS a w1 0 (.va (.tup [.str "call",.str "deaf"])) x5) _) _=_);rw[qL];have e:bw 0 aI (axP (eOp oIx (ao 4) (eC (.int 1))) (axP (ao 2) (axP (ao 3) axN))) (GS a w1 0 (.va (.tup [.str "call",.str "deaf"])) x5) ⟨a,r,BK,fs⟩=ofM (GS a w1 0 (.va (.tup [.str "call",.str "deaf"])) x5) (aI [.id a,.str "deaf",dg 0,.bl false] ⟨a,r,BK,fs⟩):=by simp[bw,axP,axN]
  rw[e];obtain⟨l,i,j,v,y,rfl,u⟩:=s.last;refine⟨λz=>?_,λz=>?_⟩;.obtain⟨b,m⟩:=zr (a:=a) (r:=r) (l:=l) (w:=flo g i j) aeM (by omega) (ah1 _);rw[m,u];exact⟨_,rfl⟩
  .obtain⟨b,m⟩:=ky (a:=a) (r:=r) (nm:="deaf") (sm:=dg 0) (w:=flo g i j) (l:=l) (by have:=s.1.2;omega);rw[m];exact⟨_,rfl⟩|@cons it its c c' T T' h1 h2 ih=>
  intro n fs x4 x5 s;have q:=h1 n fs a r w1 x5 s;rw[ajN,eg];show(_->∃b,xlp (aw (ar d) (GS a w1 0 (.va it) x5) _) _=_)/\(_->∃b,xlp (aw (ar d) (GS a w1 0 (.va it) x5) _) _=_);refine⟨λz=>?_,λz=>?_⟩;.obtain⟨o,p,f⟩:=q.1 (by omega);rw[f,<-Nat.add_assoc];exact(ih (x4:=.va it) (x5:=p) o).1 (by omega)
  .by_cases t:n+c<=400;.obtain⟨o,p,f⟩:=q.1 t;rw[f];exact(ih (x4:=.va it) (x5:=p) o).2 (by omega)
   .obtain⟨b,f⟩:=q.2 (by omega);rw[f];exact⟨b,rfl⟩
end
noncomputable abbrev HM:W:=.tup [.tup [.int (-1),.int (-3),.int 0],.tup [.int 1,.int (-3),.int 0],.tup [.int 3,.int (-1),.int 1],.tup [.int 3,.int 1,.int 1],.tup [.int 1,.int 3,.int 2],.tup [.int (-1),.int 3,.int 2],.tup [.int (-3),.int 1,.int 3],.tup [.int (-3),.int (-1),.int 3]]
def abH:∀g,g<5->HM=flo g 0 0:=by intro g a;rcases g with _|_|_|_|_|g<;>first|omega|rfl
def St.aff{g}(a:g<5):St g 0 [HM]:=⟨⟨rfl,by decide⟩,λw hw=>⟨0,0,by decide,by decide,(aiX.mp hw).trans (abH g a)⟩⟩
noncomputable def ahQ(a:Ws):Res W->Out|.ok w=>.rt w|.ex c=>.ex c (List.replicate a.length .no)|.bad=>.bad
def pX{k:AF}{t:RF Rn}{a:Ws}{j:Nat}{g f:W}{o:Res W}(l:k a=.ok [g,f])(h:n5 t a j g f o):dC j k t a=ahQ a o:=by
 unfold dC;rw[l];have i:∃o:Res W,n5 t a j g f o:=⟨o,h⟩;dsimp only;rw[dif_pos i];have e:Classical.choose i=o:=by have d:=Classical.choose_spec i 0 0;have b:=h 0 0;cases e:t (a.set j (.va (.id 0))) ⟨0,0,g,[f]⟩with|rt w s=>rw[e]at d b;rw[show o=.ok w from b];exact d|ex c σ'=>rw[e]at d b;rw[b.1];exact d.1|_=>rw[e]at b;exact b.elim
 rw[e];cases o<;>rfl
def adX(a:Ws):eLR (eC bZ) a=.ok (dg 0):=rfl
section
variable{its:List W}{fs:List W}{c:W}
def adb(h:∀a r,∃b,ar 5 [.id a,.lst its,dg 0,.bl false] ⟨a,r,BK,[HM]⟩=.nx b ⟨a,r,BK,fs⟩):pe [BK,HM,.lst its]=.ok (.lst (cut fs (some 1) none)):=by
 have q:n5 (oe (bw 3 (ar 5) (axP (ao 2) (axP (eLR (eC bZ)) (axP (eC (.bl false)) axN)))) (rj 3 (eSl (dn "Run" 1 (ao 3)) (mL (eC (.int 1))) pNo))) [.va BK,.va HM,.va (.lst its),.no] 3 BK HM (.ok (.lst (cut fs (some 1) none))):=by
  intro a r;obtain⟨b,e⟩:=h a r;have d:bw 3 (ar 5) (axP (ao 2) (axP (eLR (eC bZ)) (axP (eC (.bl false)) axN))) [.va BK,.va HM,.va (.lst its),.va (.id a)] ⟨a,r,BK,[HM]⟩=.nx [.va BK,.va HM,.va (.lst its),.va (.id a)] ⟨a,r,BK,fs⟩:=by simp[bw,axP,axN,adX,e,ofM]
  unfold oe;simp only[ajE,ajF,d];simp[rj,seen,dn,z8,Rn.val]
 show run 4 xY _=_;rw[run_eq];show fin (dC 3 _ _ [.va BK,.va HM,.va (.lst its),.no])=_;rw[pX rfl q];rfl
def uQ(h:∀a r,∃b,ar 5 [.id a,.lst its,dg 0,.bl false] ⟨a,r,BK,[HM]⟩=.ex c b):pe [BK,HM,.lst its]=.ex c:=by
 have q:n5 (oe (bw 3 (ar 5) (axP (ao 2) (axP (eLR (eC bZ)) (axP (eC (.bl false)) axN)))) (rj 3 (eSl (dn "Run" 1 (ao 3)) (mL (eC (.int 1))) pNo))) [.va BK,.va HM,.va (.lst its),.no] 3 BK HM (.ex c):=by
  intro a r;obtain⟨b,e⟩:=h a r;have d:bw 3 (ar 5) (axP (ao 2) (axP (eLR (eC bZ)) (axP (eC (.bl false)) axN))) [.va BK,.va HM,.va (.lst its),.va (.id a)] ⟨a,r,BK,[HM]⟩=.ex c [.va BK,.va HM,.va (.lst its),.va (.id a)]:=by simp[bw,axP,axN,adX,e,ofM]
  unfold oe;simp only[ajE,ajF,d];exact⟨trivial,rfl⟩
 show run 4 xY _=_;rw[run_eq];show fin (dC 3 _ _ [.va BK,.va HM,.va (.lst its),.no])=_;rw[pX rfl q];rfl
end
def ni(c:String)(fs:List W):su (.exc c fs)=false:=rfl
def aaK{its fs}(h:pe [BK,HM,.lst its]=.ok (.lst fs)):aU [BK,HM,.lst its]=.ok (.tup [.str "floors",.lst fs]):=by simp[aU,cJ,bW,bV,h,List.replicate]
def md{its}(h:pe [BK,HM,.lst its]=.ex TM):aU [BK,HM,.lst its]=.ok (.tup [.str "many"]):=by simp[aU,cJ,bW,bV,h,List.replicate,kP,ni]
def abB:gk [.exc "Blind" [.int 0]]=.ok (.tup [.str "blind",.int 0]):=by kernel_rfl
def xV{its}{n:Int}(h:pe [BK,HM,.lst its]=.ex (.exc "Broken" [.int n,.exc "Blind" [.int 0]])):aU [BK,HM,.lst its]=.ok (.tup [.str "broken",.int n,.tup [.str "blind",.int 0]]):=by have a:acm (ao 3) "at" [.va BK,.va HM,.va (.lst its),.va (.exc "Broken" [.int n,.exc "Blind" [.int 0]]),.va .non,.no]=.ok (.int n):=rfl;have b:acm (ao 3) "why" [.va BK,.va HM,.va (.lst its),.va (.exc "Broken" [.int n,.exc "Blind" [.int 0]]),.va .non,.no]=.ok (.exc "Blind" [.int 0]):=rfl;simp[aU,cJ,bW,bV,h,List.replicate,kP,ni,a,b,abB]
noncomputable abbrev cal(x:Str):W:=.tup [.str "call",.str x]
def inn:Nat->List W|0=>[cal "spin"]|g+1=>[.tup [.str "some",.str (kd (g+1)),.lst [cal "spin"]]]
def itm(g a m:Nat):List W:=.tup [.str "times",.int a,.lst [.tup [.str "times",.int (6:Nat),.lst [.tup [.str "times",.int (m/(6*a):Nat),.lst (inn g)]]]]]::List.replicate (m-6*a*(m/(6*a))) (cal "spin")
def ael(g:Nat)(a:g<5):∃T,Its g 1 0 (inn g) 1 T:=by cases g with|zero=>exact⟨_,.one (lu (.inl rfl) a)⟩|succ g=>exact⟨_,.one (abG (by omega) a (sx (.one (lu (.inr rfl) a))))⟩
def vN(g a m:Nat)(c:g<5)(n:a<=1000)(i:m<=1000):∃T,Its g 4 0 (itm g a m) m T:=by
 obtain⟨T,h⟩:=ael g c;have j:m/(6*a)<=1000:=aip (Nat.div_le_self _ _) i;have f:=lr (m:=a) (sx (.one (lr (m:=6) (sx (.one (lr (m:=m/(6*a)) (sx h) j))) (by decide)))) n;obtain⟨o,l⟩:=Its.rep (d:=4) (m:=m-6*a*(m/(6*a))) (lu (k:=0) (g:=g) (.inl rfl) c);have b:=Its.cons f l;have e:a*(6*(m/(6*a)*1))+(m-6*a*(m/(6*a)))*1=m:=by have:=Nat.mul_div_le m (6*a);rw[Nat.mul_one,Nat.mul_one,<-Nat.mul_assoc,Nat.mul_comm a 6];omega
 rw[e]at b;exact⟨_,b⟩
def abk(n g i j):okD (n+2) (flo g i j)=true:=by simp[flo,std]
def aey{g n fs}(h:St g n fs):(cut fs (some 1) none).length=n/\okD 50 (.tup [.str "floors",.lst (cut fs (some 1) none)])=true:=by
 have e:cut fs (some 1) none=fs.drop 1:=by have:=h.1.1;simp only[cut,sIx];rw[aik (by decide),show min (1:Int).toNat fs.length=1 by have:(1:Int).toNat=1:=rfl;omega,List.take_of_length_le (by simp)]
 rw[e];refine⟨by rw[ak7,h.1.1];rfl,?_⟩;have z:fG 49 (fs.drop 1)=true:=qy 48 _ λw hw=>by obtain⟨i,j,_,_,rfl⟩:=h.2 w (List.mem_of_mem_drop hw);exact abk 46 g i j
 simpa using z
section
variable{g c:Nat}{its:List W}{T:List W->List W}
def pV(b:g<5)(h:Its g 4 0 its c T)(d:c<=400):∃fs,fs.length=c/\okD 50 (.tup [.str "floors",.lst fs])=true/\aU [BK,HM,.lst its]=.ok (.tup [.str "floors",.lst fs]):=by have q:=λa r=>((sx h) 0 [HM] a r (St.aff b)).1 (by omega);have f:=aey (q 0 0).1;rw[akt]at f;exact⟨_,f.1,f.2,aaK (adb λa r=>(q a r).2)⟩
def ma(b:g<5)(h:Its g 4 0 its c T)(d:400<c):aU [BK,HM,.lst its]=.ok (.tup [.str "many"]):=md (uQ λa r=>((sx h) 0 [HM] a r (St.aff b)).2 (by omega))
def go5{b:List W}{a r:Nat}:ar 5 [.id a,.lst b,dg 0,.bl false] ⟨a,r,BK,[HM]⟩=di 4 (aw (ar 4)) b (GS a (.lst b) 0 .no .no) ⟨a,r,BK,[HM]⟩:=rfl
def uj(b:g<5)(h:Its g 4 0 its c T):aU [BK,HM,.lst (its++[cal "deaf"])]=.ok (if c<400 then .tup [.str "broken",.int c,.tup [.str "blind",.int 0]]else .tup [.str "many"]):=by
 by_cases d:c<400;.rw[aij d];refine xV (uQ λa r=>?_);rw[go5];have:=(qN (a:=a) (r:=r) (w1:=.lst (its++[cal "deaf"])) (x4:=.no) (x5:=.no) h b (St.aff b)).1 (by omega);rw[akt]at this;exact this
 .rw[aik d];refine md (uQ λa r=>?_);rw[go5];exact(qN (a:=a) (r:=r) (w1:=.lst (its++[cal "deaf"])) (x4:=.no) (x5:=.no) h b (St.aff b)).2 (by omega)
end
def ye(n:Nat)(w:W):(List.replicate n [w]).flatten=List.replicate n w:=by induction n with|zero=>rfl|succ n ih=>rw[aiZ,ajf,ih,aiZ];rfl
def uS(n:Nat)(w:W)(h:n<=1000):iV (.lst [w]) (.int n)=.ok (.lst (List.replicate n w)):=by have:iV (.lst [w]) (.int n)=if -1000000<=(n:Int)/\(n:Int)<=1000000/\[w].length*(n:Int).toNat<=lim then .ok (.lst (List.replicate (n:Int).toNat [w]).flatten)else .bad:=rfl;rw[this,aij ⟨by omega,by omega,by simp;omega⟩,akb,ye]
def lq{g a m:Nat}{x:Str}(t:g<5)(v:2<=a)(o:a<=21)(u:m<=402):bR [.int m,.int a,.int g,.str x]=.ok (.lst (itm g a m++if x=""then[]else[cal x])):=by
 have n:(m:Int)/(6*(a:Int))=((m/(6*a):Nat):Int):=by rw[Int.natCast_ediv];simp
 have b:6*a*(m/(6*a))<=m:=Nat.mul_div_le m (6*a);have e:(m:Int)-6*(a:Int)*((m/(6*a):Nat):Int)=((m-6*a*(m/(6*a)):Nat):Int):=by rw[Int.ofNat_sub b];simp
 have c:tw (.int 6) (.int a)=.ok (.int (6*a)):=by rw[qB,aij (.inl ⟨by omega,by omega⟩)]
 have f:tw (.int (6*a)) (.int (m/(6*a):Nat))=.ok (.int (6*a*(m/(6*a):Nat))):=by rw[qB,aij (.inl ⟨by omega,by omega⟩)]
 have s:oDiv (.int m) (.int (6*a))=.ok (.int (m/(6*a):Nat)):=by rw[yC,aij ⟨by omega,by have:(126:Int)<10^100:=(by decide);omega⟩,n]
 have i:iV (.lst [cal "spin"]) (.int (m-6*a*(m/(6*a)):Nat))=.ok (.lst (List.replicate (m-6*a*(m/(6*a))) (cal "spin"))):=uS _ _ (by omega);have d:oNe (.str x) (.str "")=.ok (.bl !decide (x="")):=by simp
 have q:iV (.lst [cal x]) (.int (if(!decide (x=""))=true then 1 else 0))=.ok (.lst (if x=""then[]else[cal x])):=by
  by_cases h:x="";.rw[aij h];simp[h];exact uS 0 _ (by decide)
  .rw[aik h];simp[h];exact uS 1 _ (by decide)
 have j:sIf (tB (eOp oGt (ao 2) (eC (.int 0)))) (dm 4 (lX (ag (cR (ag (eC (.str "some")) (ag (eOp oIx (lX (ag (eC (.str "heads")) (ag (eC (.str "sides")) (ag (eC (.str "lefts")) (ag (eC (.str "rights")) az))))) (eOp xq (ao 2) (eC (.int 1)))) (ag (ao 4) az)))) az))) sNx [.va (.int m),.va (.int a),.va (.int g),.va (.str x),.va (.lst [cal "spin"]),.no,.no]=.nx [.va (.int m),.va (.int a),.va (.int g),.va (.str x),.va (.lst (inn g)),.no,.no]:=by rcases g with _|_|_|_|_|g<;>first|omega|rfl
 have r:dm 4 (lX (ag (cR (ag (eC (.str "call")) (ag (eC (.str "spin")) az))) az)) [.va (.int m),.va (.int a),.va (.int g),.va (.str x),.no,.no,.no]=.nx [.va (.int m),.va (.int a),.va (.int g),.va (.str x),.va (.lst [cal "spin"]),.no,.no]:=rfl;have l:dm 5 (eOp oDiv (ao 0) (eOp tw (eC (.int 6)) (ao 1))) [.va (.int m),.va (.int a),.va (.int g),.va (.str x),.va (.lst (inn g)),.no,.no]=.nx [.va (.int m),.va (.int a),.va (.int g),.va (.str x),.va (.lst (inn g)),.va (.int (m/(6*a):Nat)),.no]:=by simp only[kS,wq,pf,abS,agD,agC,o7,bq,c,s,vq,ajE,ajF]
 simp only[bR,cC,run_eq,aiC,ala,ait,ajm,List.replicate,ajN,ajD,oC,r,ou,j,l];simp only[kS,oD,wq,aad,wt,wo,lV,pM,pf,abS,agD,agC,o7,bq,c,f,qA,e,i,d,vq,ou,ajE,ajF,ait,ajm,z0,aij (show(2:Nat)<=1000000 by decide),aij (show(3:Nat)<=1000000 by decide),aij (show(1:Nat)<=1000000 by decide),akt,Nat.reduceAdd];have k:0+1+(m-6*a*(m/(6*a)))<=1000000:=by omega
 have p:0+1+(m-6*a*(m/(6*a)))+(if x=""then([]:List W)else[cal x]).length<=1000000:=by split<;>simp<;>omega
 simp only[oC,kS,oD,wq,aad,wt,wo,lV,pM,pf,abS,agD,agC,o7,bq,c,f,qA,e,i,d,q,ab5,yD,vq,ou,ajE,ajF,ait,ajm,aiM,ajd,z0,aij (show(0+1+1:Nat)<=1000000 by decide),aij (show(0+1:Nat)<=1000000 by decide),aij k,aij p,aex];rfl
abbrev LS(S:W)(a g m:Nat)(x:Str)(b c:Sl):Ws:=[.va S,.va HM,.va BK,.va (.int a),.va (.int g),.va (.str x),.va (.int m),b,c]
def okM:okD 50 (.tup [.str "many"])=true:=by simp
section
variable{g a m:Nat}{S:W}{x7 x8:Sl}
def afC(b:g<5)(o:2<=a)(f:a<=21)(k:m<=402):∃p l,bF (LS S a g m "" x7 x8)=.nx (LS S a g m "" p l):=by
 obtain⟨T,h⟩:=vN g a m b (by omega) (by omega);have e:=lq (x:="") b o f k;rw[aij rfl,aiS]at e;by_cases i:m<=400
 .obtain⟨fs,j,n,d⟩:=pV b h i;have c:(m:Int)<=400:=by omega
  refine⟨.va (.tup [.str "floors",.lst fs]),.va (.tup [.str "floors",.lst fs]),?_⟩;simp[bF,e,d,c,j,en n]
 .have d:=ma b h (by omega);have c:¬(m:Int)<=400:=by omega
  refine⟨.va (.tup [.str "many"]),.va (.tup [.str "many"]),?_⟩;simp[bF,e,d,c,en okM]
def afB(e:g<5)(n:2<=a)(f:a<=21)(j:m<=402):∃o l,bF (LS S a g m "deaf" x7 x8)=.nx (LS S a g m "deaf" o l):=by
 obtain⟨T,h⟩:=vN g a m e (by omega) (by omega);have d:=lq (x:="deaf") e n f j;rw[aik (by decide)]at d;have b:=uj e h;by_cases i:m<400
 .rw[aij i]at b;have c:(m:Int)<400:=by omega
  refine⟨.va (.tup [.str "broken",.int m,.tup [.str "blind",.int 0]]),.va (.tup [.str "broken",.int m,.tup [.str "blind",.int 0]]),?_⟩;have k:okD 50 (.tup [.str "broken",.int m,.tup [.str "blind",.int 0]])=true:=by simp
  simp[bF,d,b,c,en k]
 .rw[aik i]at b;have c:¬(m:Int)<400:=by omega
  refine⟨.va (.tup [.str "many"]),.va (.tup [.str "many"]),?_⟩;simp[bF,d,b,c,en okM]
def afA(b:g<5)(o:2<=a)(f:a<=21)(k:m<=402):∃p l,bF (LS S a g m "spin" x7 x8)=.nx (LS S a g m "spin" p l):=by
 obtain⟨T,h⟩:=vN g a m b (by omega) (by omega);have h:=h.app (.one (lu (.inl rfl) b));have e:=lq (x:="spin") b o f k;rw[aik (by decide)]at e;by_cases i:m+1<=400
 .obtain⟨fs,j,n,d⟩:=pV b h i;have c:(m:Int)+1<=400:=by omega
  refine⟨.va (.tup [.str "floors",.lst fs]),.va (.tup [.str "floors",.lst fs]),?_⟩;simp[bF,e,d,c,j,en n]
 .have d:=ma b h (by omega);have c:¬(m:Int)+1<=400:=by omega
  refine⟨.va (.tup [.str "many"]),.va (.tup [.str "many"]),?_⟩;simp[bF,e,d,c,en okM]
def turn(c:g<5)(e:2<=a)(b:a<=21){x:Str}(f:x=""\/x="deaf"\/x="spin")(m:Nat)(d:m<=402)(x7 x8):∃i h,bF (LS S a g m x x7 x8)=.nx (LS S a g m x i h):=by
 rcases f with rfl|rfl|rfl;.exact afC c e b d
 .exact afB c e b d
 .exact afA c e b d
end
def jv(ns:List Int)(k:Int)(a:0<=k):aM [.lst (ns.map .int),.int k]=.ok (.int (ns.getD k.toNat 0)):=by obtain⟨n,rfl⟩:∃n:Nat,k=n:=⟨k.toNat,by omega⟩;by_cases h:n<ns.length<;>simp[aM,cT,h,pK]
def yP:∀b:List Int,b.length<=63->zi [.lst (b.map .int)]=.ok (.bl true):=by
 intro b _;obtain⟨a,C,h,c⟩:∃a:Nat,2+b.getD 0 0%20=(a:Int)/\2<=a/\a<=21:=⟨(2+b.getD 0 0%20).toNat,by omega,by omega,by omega⟩;obtain⟨g,B,f⟩:∃g:Nat,b.getD 1 0%5=(g:Int)/\g<5:=⟨(b.getD 1 0%5).toNat,by omega,by omega⟩;obtain⟨x,ex,d⟩:∃x:Str,oIx (.lst [.str "",.str "deaf",.str "spin"]) (.int (b.getD 2 0%3))=.ok (.str x)/\(x=""\/x="deaf"\/x="spin"):=by
  have:b.getD 2 0%3=0\/b.getD 2 0%3=1\/b.getD 2 0%3=2:=by omega
  rcases this with e|e|e<;>rw[e];.exact⟨"",rfl,.inl rfl⟩
  .exact⟨"deaf",rfl,.inr (.inl rfl)⟩
  .exact⟨"spin",rfl,.inr (.inr rfl)⟩
 obtain⟨l,y,E⟩:∃m:Nat,398+b.getD 3 0%2=(m:Int)/\m<=402:=⟨(398+b.getD 3 0%2).toNat,by omega,by omega⟩;obtain⟨q,A,G⟩:∃m:Nat,401+b.getD 4 0%2=(m:Int)/\m<=402:=⟨(401+b.getD 4 0%2).toNat,by omega,by omega⟩;obtain⟨t,n,v⟩:=turn (S:=.lst (b.map .int)) f h c d l E .no .no;obtain⟨r,u,w⟩:=turn (S:=.lst (b.map .int)) f h c d 400 (by decide) t n;obtain⟨J,I,z⟩:=turn (S:=.lst (b.map .int)) f h c d q G r u;have H:∀i,nH "Book" qR (ag (afk (ag (eC (.str "spin")) (ag (eC (.str "> turn left")) (ag (eC (.str "deaf")) (ag (eC (.str "head and side > stay")) az))))) az) i=.ok BK:=λi=>by
  have D:afk (ag (eC (.str "spin")) (ag (eC (.str "> turn left")) (ag (eC (.str "deaf")) (ag (eC (.str "head and side > stay")) az)))) i=.ok (.dic [.str "spin",.str "deaf"] [.str "> turn left",.str "head and side > stay"]):=by kernel_rfl
  unfold nH;rw[lV,D,bq,pM,bq,bq,ab4,bq]
 have s:=jv b 0 (by decide);have p:=jv b 1 (by decide);have k:=jv b 2 (by decide);have o:=jv b 3 (by decide);have j:=jv b 4 (by decide);simp only[show Int.toNat 0=0 from rfl,show Int.toNat 1=1 from rfl,show Int.toNat 2=2 from rfl,show Int.toNat 3=3 from rfl,show Int.toNat 4=4 from rfl]at s p k o j;generalize b.getD 0 0=n0 at *;generalize b.getD 1 0=n1 at *;generalize b.getD 2 0=n2 at *;generalize b.getD 3 0=n3 at *;generalize b.getD 4 0=n4 at *;generalize W.lst (b.map .int)=S at *;simp[zi,aaL,H,s,p,k,o,j,C,B,y,A,ex,List.replicate,-abm,je];show fin (aaU (vA (bF (LS S a g l x .no .no)) _) _)=_;rw[v,ll,je];show fin (aaU (vA (bF (LS S a g 400 x t n)) _) _)=_;rw[w,ll,je];show fin (aaU (vA (bF (LS S a g q x r u)) _) _)=_;rw[z,ll,zg];rfl
end K47
namespace PySem.W.Fast
def tw6412494544660979381:=0
def tw8063768146296064076:=0
def tw771072784456533033:=0
def tw2718703683996552599:=0
def tw5478623387834916659:=0
def tw401798674702083559:=0
def tw9360279197714437681:=0
def tw4167590526183853960:=0
def tw9427203916192407445:=0
def tw9607176653987289512:=0
def tw6596621050270111720:=0
def tw11179224434305294216:=0
def tw5617396536169889199:=0
def tw7324542248234301104:=0
def tw6791545625471169994:=0
def tw1676112260475299646:=0
def tw5767073482808697536:=0
def tw14594139100256151876:=0
def tw15376814508125063647:=0
def tw1433005159333508476:=0
def tw10681351283151512797:=0
def tw1540710468793281086:=0
def tw10061582357578591375:=0
def tw8601947440137089001:=0
def tw17546899129091272274:=0
def tw16810553565994378857:=0
def tw11333698243207140373:=0
def tw17923547326796401669:=0
def tw13474697417279172148:=0
def tw14625283479904811:=0
def tw11177936794205863441:=0
def tw16751853724049607257:=0
def tw3147680904016907201:=0
def tw15722786155387969518:=0
def tw18142059121422168892:=0
def tw5904981514957989041:=0
def tw4694779043919506962:=0
def tw4230286464998843480:=0
def tw15389657777999988800:=0
def tw17107515645382070101:=0
def tw170941266737782578:=0
def tw957700657892425065:=0
def tw10316807693752903705:=0
def tw1549716444176198296:=0
def tw16076131879100831590:=0
def tw7151302155916581587:=0
def tw16130881788217160899:=0
def tw6081549326172236528:=0
def tw12209738551510286098:=0
def tw2427211816989866030:=0
def tw3399227453439391676:=0
def tw8215108630934691174:=0
def tw6844461007217906561:=0
def tw7072459445747626452:=0
def tw15585433021092390340:=0
def tw9109710935579611507:=0
def tw18424555761077970272:=0
def tw11521682316606799134:=0
def tw18603370829966546:=0
def tw8854868092880749224:=0
def tw12519161420786090313:=0
def tw13822566900038366709:=0
def tw14693537709309001065:=0
def tw15765945197568527644:=0
def tw16777268623674696997:=0
def tw928810716822879845:=0
def tw2970047436122538896:=0
def tw11768702589444563343:=0
def tw16376527096636116639:=0
def tw13606282511764764112:=0
def tw1058158677735865382:=0
def tw3321672734495915327:=0
def tw15589487782488978184:=0
def tw15090566591060390457:=0
def tw7286764525509071149:=0
def tw4384061921089995946:=0
def tw6478860629321784841:=0
def tw9622156159839193324:=0
def tw258112457085805484:=0
def tw9705386522556217413:=0
def tw16512635094648305786:=0
def tw11364075983561662151:=0
def tw18352831322017340131:=0
def tw4011667324660728781:=0
def tw16817549758136282376:=0
def tw7287140812116015914:=0
def tw14737664130495946092:=0
def tw15728994510989432936:=0
def tw10956150927705360504:=0
def tw9862760974751819769:=0
def tw6008441257740279418:=0
def tw14433061612858689282:=0
def tw18260856196016968343:=0
def tw8047188162184504226:=0
def tw4032039631095701550:=0
def tw18388417777594748367:=0
def tw10126818726698768195:=0
def tw14223253288051113575:=0
def tw14562372716658914732:=0
def tw18176222223360529630:=0
def tw12788351268709749994:=0
def tw6773535882874147489:=0
def tw4976630679594261375:=0
def tw7619640831209713067:=0
def tw15915814730244056179:=0
def tw10062997414678353938:=0
def tw2303183460868900220:=0
def tw7176886023536836302:=0
def tw13560034639457825221:=0
def tw9190671493963028776:=0
def tw6853404686318275077:=0
def tw4715756451417049018:=0
def tw13029290066021521139:=0
def tw15556502906620989965:=0
def tw8031519863527336921:=0
def tw15453757319053878114:=0
def tw10724643925677725521:=0
def tw4566856894197143968:=0
def tw511475967104270264:=0
def tw18185064129238207067:=0
def tw10140432442596606412:=0
def tw1260617535756673629:=0
def tw2344274756709728109:=0
def tw7984989067400393731:=0
def tw7540262287494291527:=0
def tw6356911098927393506:=0
def tw3504727026859245059:=0
def tw8914373088388146771:=0
def tw5049363273509208359:=0
def tw10277325044378274564:=0
def tw3893651928823352929:=0
def tw6728239428050718679:=0
def tw13381862907413607137:=0
def tw7745331305773663329:=0
def tw5266208132782798486:=0
def tw18431747532847632800:=0
def tw4268436288222763972:=0
def tw10679697874951926373:=0
def tw9501269474171172588:=0
def tw5002855526874457128:=0
def tw7214577736751078904:=0
def tw12533883492825273308:=0
def tw1771339420220493088:=0
def tw12102515761803953769:=0
def tw4464488683947484671:=0
def tw168795106309152659:=0
def tw4186056374739977090:=0
def tw15156380706113503699:=0
def tw6672427159075503512:=0
def tw11379528315907714336:=0
def tw15708505107823543092:=0
def tw7237267139674192244:=0
def tw1198812017106029690:=0
def tw13477746318341587517:=0
def tw11826655647041287759:=0
def tw10959544136094925155:=0
def tw2464136749814753916:=0
def tw5983861569212023090:=0
def tw14126183231079917650:=0
def tw6234223468860140663:=0
def tw6320884219231690166:=0
def tw6973928282354893308:=0
def tw13448330607863593858:=0
def tw9740877830879614744:=0
def tw2407574698474058780:=0
def tw7982732056682862989:=0
def tw14553491007907981665:=0
def tw8885388387390031900:=0
def tw12963511408235909575:=0
def tw18061588148596113377:=0
def tw7253580799236673895:=0
def tw5000628311081664600:=0
def tw16709790228503964236:=0
def tw5455591954583161512:=0
def tw10338748556512267459:=0
def tw805414371191306301:=0
def tw15294573702241237939:=0
def tw11690632219858201911:=0
def tw12518518074137299667:=0
def tw1034684594571621715:=0
def tw11938728082731175666:=0
def tw16792842224082227577:=0
def tw18013150208003505138:=0
def tw17210587744144753864:=0
def tw5203396619825799772:=0
def tw1041383591615640557:=0
def tw16575765397190488257:=0
def tw13406907552214930910:=0
def tw2220703373829350738:=0
def tw6032916662917325090:=0
def tw12523368692622421275:=0
def tw2041833167569303246:=0
def tw12716030453947557005:=0
def tw18228743333856503953:=0
def tw173761656556285067:=0
def tw17656586183669427959:=0
def tw5587567263923755644:=0
def tw16293007760252824911:=0
def tw16677434714563565310:=0
def tw7739252531780731843:=0
def tw16083749420336199444:=0
def tw11693644105077812535:=0
def tw989334508650024253:=0
def tw8240389164278402689:=0
def tw1863613983526192912:=0
def tw4434891244675780064:=0
def tw8011578875923362914:=0
def tw15966191311432653991:=0
def tw11156388323565364906:=0
def tw11923781035576585244:=0
def tw12896983891247358097:=0
def tw12267839461910661939:=0
def tw11122556876457039959:=0
def tw1579969092278637433:=0
def tw8831718900451871529:=0
def tw7236273993783015631:=0
def tw10088829778478708356:=0
def tw10476660770982407102:=0
def tw3492248954514550300:=0
def tw3716072658926771362:=0
def tw8574462683882988934:=0
def tw15995757608552758138:=0
def tw10857054701764349924:=0
def tw6816435558835466943:=0
def tw2600225246657799713:=0
def tw299371934628153262:=0
def tw3291219099718635512:=0
def tw3478950819302899982:=0
def tw15683041448422160694:=0
def tw4099529440817394904:=0
def tw3167709319780273458:=0
def tw4936079870049161153:=0
def tw7467212924763588952:=0
def tw2664136737670012151:=0
def tw10105549821717778924:=0
def tw17623091383173816698:=0
def tw5645277562590325632:=0
def tw13493439834061732737:=0
def tw12109687386267164891:=0
def tw14986480711321674665:=0
def tw16753575905214888241:=0
def tw10882203541884997837:=0
def tw9264267567231931439:=0
def tw2875992630835354223:=0
def tw4739204371422366636:=0
def tw9486378218140115792:=0
def tw6629716103893283861:=0
def tw14430635997325349083:=0
def tw6596326290631433143:=0
def tw1997769015441232818:=0
end PySem.W.Fast
namespace K47
open PySem PySem.Spec PyProof.Rows L2 WS
open WL(Res Sl Ws EF TF AF LF GF GsF SF Out RF OX Rn AXF)
seal L2.PE L2.PS L2.PSs L2.PA L2.PT L2.PW L2.PG L2.PGs L2.PI L2.PO L2.zC L2.PC
def top(i:Nat):Stmt:=PySem.Challenge.pw_squarecall_k47_too_many_calls.main.body.getD i (.Pass ⟨0,0,0,0⟩)
local macro_rules|`(tactic|trivial)=>`(tactic|exact⟨rfl,rfl,rfl,by decide+kernel,rfl,by decide+kernel,by decide+kernel⟩)
noncomputable def dR:Stmt->List Stmt|.ClassDef _ _ _ b _ _ _ _ _ _ _=>b|_=>[]
abbrev qd:Stmt:=(dR (top 7)).getD 0 (.Pass ⟨0,0,0,0⟩)
def uJ:FnScope ["self","who"] ["self","who"] (af qd):=by trivial
abbrev mu:Stmt:=(dR (top 10)).getD 0 (.Pass ⟨0,0,0,0⟩)
def rK:FnScope ["self","at","why"] ["self","at","why"] (af mu):=by trivial
abbrev mC:Stmt:=top 93
def rN:FnScope ["thing"] ["thing"] (af mC):=by trivial
abbrev iD:Stmt:=top 84
def mv:FnScope ["word","more"] ["word","more"] (af iD):=by trivial
abbrev gL:Stmt:=top 85
def fu:FnScope ["text","words"] ["text"] (af gL):=by trivial
abbrev cL:Stmt:=top 81
def fv:FnScope ["words"] ["words"] (af cL):=by trivial
abbrev iC:Stmt:=top 82
def gH:FnScope ["text","words"] ["text"] (af iC):=by trivial
abbrev gK:Stmt:=top 83
def ft:FnScope ["text","texts"] ["text"] (af gK):=by trivial
abbrev iE:Stmt:=top 86
def gI:FnScope ["text","parts"] ["text"] (af iE):=by trivial
abbrev iF:Stmt:=top 87
def gJ:FnScope ["text","texts"] ["text"] (af iF):=by trivial
abbrev uH:Stmt:=(dR (top 94)).getD 0 (.Pass ⟨0,0,0,0⟩)
def oA:FnScope ["self","texts","name"] ["self","texts"] (af uH):=by trivial
abbrev fw:Stmt:=top 96
def jD:FnScope ["_law_script","_law_k"] ["_law_script","_law_k"] (af fw):=by trivial
abbrev zQ:Stmt:=(dR (top 63)).getD 0 (.Pass ⟨0,0,0,0⟩)
def ac7:FnScope ["self","book","floor"] ["self","book","floor"] (af zQ):=by trivial
abbrev iJ:Stmt:=(dR (top 94)).getD 2 (.Pass ⟨0,0,0,0⟩)
def mx:FnScope ["self","name"] ["self","name"] (af iJ):=by trivial
abbrev my:Stmt:=top 19
def rL:FnScope ["stand"] ["stand"] (af my):=by trivial
abbrev dB:Stmt:=top 20
def cf:FnScope ["stands","one","other"] ["stands"] (af dB):=by trivial
abbrev kb:Stmt:=top 21
def iA:FnScope ["stands","meeting"] ["stands"] (af kb):=by trivial
abbrev mE:Stmt:=top 32
def rP:FnScope ["dancer"] ["dancer"] (af mE):=by trivial
abbrev mD:Stmt:=top 33
def rO:FnScope ["dancer"] ["dancer"] (af mD):=by trivial
abbrev mB:Stmt:=top 38
def rM:FnScope ["dancer","word"] ["dancer","word"] (af mB):=by trivial
abbrev uO:Stmt:=top 39
def qf:FnScope ["floor","dancer","test","word"] ["floor","dancer","test"] (af uO):=by trivial
abbrev j5:Stmt:=top 40
def eQ:FnScope ["floor","dancer","call","place","rule"] ["floor","dancer","call"] (af j5):=by trivial
abbrev j4:Stmt:=top 43
def iy:FnScope ["floor","dancer","call","some","place"] ["floor","dancer","call","some"] (af j4):=by trivial
abbrev j8:Stmt:=top 15
def ov:FnScope ["thing"] ["thing"] (af j8):=by trivial
abbrev ka:Stmt:=top 16
def oz:FnScope ["thing"] ["thing"] (af ka):=by trivial
abbrev iG:Stmt:=top 17
def mw:FnScope ["thing"] ["thing"] (af iG):=by trivial
abbrev j9:Stmt:=top 18
def oy:FnScope ["thing"] ["thing"] (af j9):=by trivial
abbrev mz:Stmt:=top 46
def fV:FnScope ["told","dancer","way"] ["told"] (af mz):=by trivial
abbrev dA:Stmt:=top 29
def gX:FnScope ["facing","way"] ["facing","way"] (af dA):=by trivial
abbrev eG:Stmt:=top 44
def iz:FnScope ["stand","step","going","spot"] ["stand","step"] (af eG):=by trivial
abbrev qg:Stmt:=top 45
def ix:FnScope ["stand","steps","way","step"] ["stand","steps"] (af qg):=by trivial
abbrev zS:Stmt:=top 47
def uL:FnScope ["floor","call","some","steps"] ["floor","call","some"] (af zS):=by trivial
abbrev qh:Stmt:=top 48
def uM:FnScope ["floor","call","some"] ["floor","call","some"] (af qh):=by trivial
abbrev eJ:Stmt:=top 62
def iB:FnScope ["floor","call","some","paired"] ["floor","call","some","paired"] (af eJ):=by trivial
abbrev iI:Stmt:=(dR (top 63)).getD 1 (.Pass ⟨0,0,0,0⟩)
def cB:FnScope ["self","name","some","paired","count","call","refusal"] ["self","name","some","paired"] (af iI):=by trivial
abbrev de:Stmt:=(dR (top 63)).getD 2 (.Pass ⟨0,0,0,0⟩)
def cK:FnScope ["self","some","item","test"] ["self","some","item"] (af de):=by trivial
abbrev iH:Stmt:=(dR (top 63)).getD 3 (.Pass ⟨0,0,0,0⟩)
def dz:FnScope ["self","items","some","paired","item","again"] ["self","items","some","paired"] (af iH):=by trivial
abbrev ac8:Stmt:=top 64
def zR:FnScope ["book","floor","items","course"] ["book","floor","items"] (af ac8):=by trivial
abbrev j7:Stmt:=top 97
def eR:FnScope ["_law_e","_law_some","_law_at"] ["_law_e"] (af j7):=by trivial
abbrev j6:Stmt:=top 98
def bN:FnScope ["_law_book","_law_floor","_law_items","_law_error","_law_found","_law_e"] ["_law_book","_law_floor","_law_items"] (af j6):=by trivial
abbrev eI:Stmt:=top 99
def aT:FnScope ["_law_many","_law_a","_law_group","_law_last","_law_inner","_law_rounds","_law_items"] ["_law_many","_law_a","_law_group","_law_last"] (af eI):=by trivial
abbrev aaW:Stmt:=top 100
def dy:FnScope ["_law_script","_law_home","_law_book","_law_a","_law_group","_law_last","_law_many","_law_found","_law_due"] ["_law_script"] (af aaW):=by trivial
structure Txt(w:World)(K:W.Frag)(mg:Str->Option Value)(iM fY:Tok)(ff fQ fP fO fN:Addr)(fX:Tok)(cw cZ:Addr)(cU:Tok)(lU ee ed dZ dY:Addr)(dF dD dE:Tok)(br bP:Addr)(dG cD fB:Tok)(jA aF cz cY aO lT ia aH aN aJ cW cx eW jf fm_Book_call fm_Run_dance fm_Run_those_left fm_Run_go_on:Addr):Prop where
 mgA:∀nm v,W.nsIn K mainGlobals nm=some (some v)->mg nm=some v
 i2:mg "DANCERS"=some (.int 8 iM)ke:mg "FARTHEST"=some (.int 200 fY)abt:mg "STEPS"=some (.ref ff)aaN:∀H:Hp,SqT K H ff [.ref fQ,.ref fP,.ref fO,.ref fN]ux:∀H:Hp,SqT K H fQ [.int 0,.int 1]uw:∀H:Hp,SqT K H fP [.int (-1),.int 0]uv:∀H:Hp,SqT K H fO [.int 0,.int (-1)]uu:∀H:Hp,SqT K H fN [.int 1,.int 0]si:mg "QUARTERS"=some (.int 4 fX)lh:mg "QUARTERS_OF"=some (.ref cw)kO:xl w K cw [("same",.int 0),("left",.int 1),("about",.int 2),("right",.int 3)]yJ:mg "DRIFTS"=some (.ref cZ)xZ:∀H:Hp,SqT K H cZ [.str "inward",.str "outward",.str "sideways"]fJ:mg "MOST_DANCED"=some (.int 400 cU)abr:mg "TESTS"=some (.ref lU)aaM:xl w K lU [("heads",.ref ee),("sides",.ref ed),("lefts",.ref dZ),("rights",.ref dY)]ur:∀H:Hp,SqT K H ee [.str "head"]uq:∀H:Hp,SqT K H ed [.str "side"]uo:∀H:Hp,SqT K H dZ [.str "lefts"]um:∀H:Hp,SqT K H dY [.str "rights"]m8:mg "MOST_RULES"=some (.int 12 dF)m6:mg "MOST_TESTS"=some (.int 6 dD)m7:mg "MOST_STEPS"=some (.int 8 dE)nc:mg "LONE_WORDS"=some (.ref br)mm:∀H:Hp,SqT K H br [.str "head",.str "side",.str "lefts",.str "rights",.str "inward",.str "outward",.str "sideways"]sg:mg "TURNINGS"=some (.ref bP)rF:∀H:Hp,SqT K H bP [.str "left",.str "right",.str "about"]m9:mg "MOST_CALLS"=some (.int 60 dG)jF:mg "LONGEST_NAME"=some (.int 8 cD)vz:mg "LETTERS"=some (.str "abcdefghijklmnopqrstuvwxyz" fB)adU:mg "KEPT"=some (.ref jA)acS:∀H:Hp,SqT K H jA [.str "times",.str "heads",.str "sides",.str "lefts",.str "rights",.str "inner",.str "couples"]nl:WS.noL K=true
 gP:mg "ValueError"=none
 abo:mg "all"=none
 adQ:mg "bool"=none
 iY:mg "enumerate"=none
 yG:mg "int"=none
 aA:mg "isinstance"=none
 eA:mg "len"=none
 zY:mg "list"=none
 eS:mg "range"=none
 abn:mg "str"=none
 lg:mg "tuple"=none
 dI:mg "FloorError"=some (.ref aF)nF:ExcAt K "FloorError" aF
 i1:mg "TooMany"=some (.ref cz)jq:ExcAt K "TooMany" cz
 tM:ib K cz none
 m5:mg "NoPairs"=some (.ref cY)nE:ExcAt K "NoPairs" cY
 o4:mg "Blind"=some (.ref aO)gv:ExcAt K "Blind" aO
 adT:mg "Out"=some (.ref lT)aeD:ExcAt K "Out" lT
 zZ:mg "Meet"=some (.ref ia)aab:ExcAt K "Meet" ia
 lj:mg "Broken"=some (.ref aH)hV:ExcAt K "Broken" aH
 xs:ExcAll K
 agG:∀nm C,ExcAt K nm C->("at":Str)∈WL.fieldsOf nm->W.findIn K (.ref C) "at"=some none/\W.hasDictIn K C=true
 aeA:∀nm C,ExcAt K nm C->("who":Str)∈WL.fieldsOf nm->W.findIn K (.ref C) "who"=some none/\W.hasDictIn K C=true
 aez:∀nm C,ExcAt K nm C->("why":Str)∈WL.fieldsOf nm->W.findIn K (.ref C) "why"=some none/\W.hasDictIn K C=true
 aeY:W.findIn K (.ref aO) "__init__"=some (some (.ref cW))zh:∃fd,Fun K "__init__" "Blind.__init__" qd cW fd
 oH:ib K aO (some (.ref cW))yi:W.typeIn K (.ref cW)=some (.type "function")xy:(W.clsIn K aO).map (·.mro)=some (.ref aO::.ref aF::dj)xx:W.hasDictIn K aO=true
 xu:W.findIn K (.ref aO) "__setattr__"=some (some (.builtin "object.__setattr__"))mZ:W.findIn K (.ref aO) "who"=some none
 acq:W.findIn K (.ref aH) "__init__"=some (some (.ref cx))v5:∃fd,Fun K "__init__" "Broken.__init__" mu cx fd
 ql:ib K aH (some (.ref cx))uW:W.typeIn K (.ref cx)=some (.type "function")tG:(W.clsIn K aH).map (·.mro)=some (.ref aH::.ref aF::dj)tF:W.hasDictIn K aH=true
 tE:W.findIn K (.ref aH) "__setattr__"=some (some (.builtin "object.__setattr__"))mY:W.findIn K (.ref aH) "at"=some none
 lb:W.findIn K (.ref aH) "why"=some none
 ya:StrK K aO
 rd:W.readsIn K aF (.type "type")=true
 rf:W.findCls K (.ref aF) (.type "type") "__init__"=some (.val (.builtin "ValueError.__init__"))rs:W.specialIn K (.ref aF) "__getattribute__"=some (some (.builtin "type.__getattribute__"))adV:mg "Book"=some (.ref aN)z1_Book:W.makesIn K aN=true
 z2_Book:W.findIn K (.ref aN) "__init__"=some (some (.ref eW))abM:∃fd,Fun K "__init__" "Book.__init__" uH eW fd
 z3_Book:W.isFn K (.ref eW)=true
 z4_Book:W.keepIn K (.ref aN)=true
 z5_Book:W.plainGet K aN Str.empty=true
 z6_Book:W.hasDictIn K aN=true
 z7_Book:W.plainOver K aN=true
 z8_Book:W.findIn K (.ref aN) "__setattr__"=some (some (.builtin "object.__setattr__"))oY:aW K aN "calls"qZ:W.nsIn K mainGlobals (Str.ofString "Book")=some (some (.ref aN))agx:mg "Run"=some (.ref aJ)z1_Run:W.makesIn K aJ=true
 z2_Run:W.findIn K (.ref aJ) "__init__"=some (some (.ref jf))aev:∃fd,Fun K "__init__" "Run.__init__" zQ jf fd
 z3_Run:W.isFn K (.ref jf)=true
 z4_Run:W.keepIn K (.ref aJ)=true
 z5_Run:W.plainGet K aJ Str.empty=true
 z6_Run:W.hasDictIn K aJ=true
 z7_Run:W.plainOver K aJ=true
 z8_Run:W.findIn K (.ref aJ) "__setattr__"=some (some (.builtin "object.__setattr__"))iX:aW K aJ "book"bt:aW K aJ "floors"g8:W.nsIn K mainGlobals (Str.ofString "Run")=some (some (.ref aJ))y1_Book_call:W.findIn K (.ref aN) "call"=some (some (.ref fm_Book_call))y2_Book_call:W.isFn K (.ref fm_Book_call)=true
 y3_Book_call:W.keepIn K (.ref fm_Book_call)=true
 nr:∃fd,Fun K "call" "Book.call" iJ fm_Book_call fd
 y1_Run_dance:W.findIn K (.ref aJ) "dance"=some (some (.ref fm_Run_dance))y2_Run_dance:W.isFn K (.ref fm_Run_dance)=true
 y3_Run_dance:W.keepIn K (.ref fm_Run_dance)=true
 nq:∃fd,Fun K "dance" "Run.dance" iI fm_Run_dance fd
 y1_Run_those_left:W.findIn K (.ref aJ) "those_left"=some (some (.ref fm_Run_those_left))y2_Run_those_left:W.isFn K (.ref fm_Run_those_left)=true
 y3_Run_those_left:W.keepIn K (.ref fm_Run_those_left)=true
 gh:∃fd,Fun K "those_left" "Run.those_left" de fm_Run_those_left fd
 y1_Run_go_on:W.findIn K (.ref aJ) "go_on"=some (some (.ref fm_Run_go_on))y2_Run_go_on:W.isFn K (.ref fm_Run_go_on)=true
 y3_Run_go_on:W.keepIn K (.ref fm_Run_go_on)=true
 gS:∃fd,Fun K "go_on" "Run.go_on" iH fm_Run_go_on fd
 wJ:AtD K "is_name" mC
 pq:AtD K "read_step" iD
 nJ:AtD K "read_steps" gL
 gw:AtD K "read_plain_test" cL
 pk:AtD K "read_test" iC
 nI:AtD K "read_tests" gK
 pw:AtD K "read_rule" iE
 px:AtD K "read_call" iF
 lJ:AtD K "_law_cell_at" fw
 wF:AtD K "spot_of" my
 jt:AtD K "first_meeting" dB
 sR:AtD K "floor_of" kb
 wL:AtD K "is_head" mE
 wK:AtD K "is_left" mD
 wI:AtD K "is_such" mB
 abX:AtD K "holds" uO
 sL:AtD K "rule_for" j5
 sJ:AtD K "steps_of" j4
 sO:AtD K "is_whole" j8
 sQ:AtD K "is_place" ka
 pz:AtD K "is_facing" iG
 sP:AtD K "is_stand" j9
 wH:AtD K "kept_in" mz
 js:AtD K "turned_facing" dA
 jI:AtD K "stand_behind" eG
 zt:AtD K "way_of" qg
 aeI:AtE K "ways" zS #[.none]zu:AtE K "danced" qh #[.none]jK:AtD K "floor_behind" eJ
 agM:AtD K "run" ac8
 sN:AtD K "_law_kind" j7
 sM:AtD K "_law_told" j6
 jJ:AtD K "_law_items_of" eI
 agO:AtD K "law" aaW
variable{P:Program}{w:World}{K:W.Frag}{mg:Str->Option Value}{base:Heap}{iM fY:Tok}{ff fQ fP fO fN:Addr}{fX:Tok}{cw cZ:Addr}{cU:Tok}{lU ee ed dZ dY:Addr}{dF dD dE:Tok}{br bP:Addr}{dG cD fB:Tok}{jA aF cz cY aO lT ia aH aN aJ cW cx eW jf fm_Book_call fm_Run_dance fm_Run_those_left fm_Run_go_on:Addr}
def aa0:RelV (.ref ff) (.ref ff):=rfl
def yg:RelV (.ref cZ) (.ref cZ):=rfl
def mF:RelV (.ref br) (.ref br):=rfl
def rS:RelV (.ref bP) (.ref bP):=rfl
def uV:RelV (.str "abcdefghijklmnopqrstuvwxyz") (.str "abcdefghijklmnopqrstuvwxyz" fB):=⟨_,rfl⟩
def adj:RelV (.ref jA) (.ref jA):=rfl
variable(T:Txt w K mg iM fY ff fQ fP fO fN fX cw cZ cU lU ee ed dZ dY dF dD dE br bP dG cD fB jA aF cz cY aO lT ia aH aN aJ cW cx eW jf fm_Book_call fm_Run_dance fm_Run_those_left fm_Run_go_on)
include T
theorem aaI:∀F,RW K F pI (.ref ff):=λF=>by simp only[RW,RWs,pI];exact⟨_,_,rfl,T.aaN F,⟨_,_,rfl,⟨_,_,rfl,T.ux F,⟨_,_,rfl,rfl,⟨_,_,rfl,rfl,rfl⟩⟩⟩,⟨_,_,rfl,⟨_,_,rfl,T.uw F,⟨_,_,rfl,rfl,⟨_,_,rfl,rfl,rfl⟩⟩⟩,⟨_,_,rfl,⟨_,_,rfl,T.uv F,⟨_,_,rfl,rfl,⟨_,_,rfl,rfl,rfl⟩⟩⟩,⟨_,_,rfl,⟨_,_,rfl,T.uu F,⟨_,_,rfl,rfl,⟨_,_,rfl,rfl,rfl⟩⟩⟩,rfl⟩⟩⟩⟩⟩
theorem kL:∀F k u,WL.lK k [.str "same",.str "left",.str "about",.str "right"] [.int 0,.int 1,.int 2,.int 3]=some u->∃v,List.lookup k [(("same":Str),(.int 0:V)),(("left":Str),(.int 1:V)),(("about":Str),(.int 2:V)),(("right":Str),(.int 3:V))]=some v/\RW K F u v:=λF=>dJ (by simp[RW]) (dJ (by simp[RW]) (dJ (by simp[RW]) (dJ (by simp[RW]) z7)))
theorem xU:∀F,RW K F lS (.ref cZ):=λF=>by simp only[RW,RWs,lS];exact⟨_,_,rfl,T.xZ F,⟨_,_,rfl,rfl,⟨_,_,rfl,rfl,⟨_,_,rfl,rfl,rfl⟩⟩⟩⟩
theorem aaH:∀F k u,WL.lK k [.str "heads",.str "sides",.str "lefts",.str "rights"] [.tup [.str "head"],.tup [.str "side"],.tup [.str "lefts"],.tup [.str "rights"]]=some u->∃v,List.lookup k [(("heads":Str),(.ref ee:V)),(("sides":Str),(.ref ed:V)),(("lefts":Str),(.ref dZ:V)),(("rights":Str),(.ref dY:V))]=some v/\RW K F u v:=λF=>dJ (by simp only[RW,RWs];exact⟨_,_,rfl,T.ur F,⟨_,_,rfl,rfl,rfl⟩⟩) (dJ (by simp only[RW,RWs];exact⟨_,_,rfl,T.uq F,⟨_,_,rfl,rfl,rfl⟩⟩) (dJ (by simp only[RW,RWs];exact⟨_,_,rfl,T.uo F,⟨_,_,rfl,rfl,rfl⟩⟩) (dJ (by simp only[RW,RWs];exact⟨_,_,rfl,T.um F,⟨_,_,rfl,rfl,rfl⟩⟩) z7)))
theorem l3:∀F,RW K F dS (.ref br):=λF=>by simp only[RW,RWs,dS];exact⟨_,_,rfl,T.mm F,⟨_,_,rfl,rfl,⟨_,_,rfl,rfl,⟨_,_,rfl,rfl,⟨_,_,rfl,rfl,⟨_,_,rfl,rfl,⟨_,_,rfl,rfl,⟨_,_,rfl,rfl,rfl⟩⟩⟩⟩⟩⟩⟩⟩
theorem rp:∀F,RW K F gB (.ref bP):=λF=>by simp only[RW,RWs,gB];exact⟨_,_,rfl,T.rF F,⟨_,_,rfl,rfl,⟨_,_,rfl,rfl,⟨_,_,rfl,rfl,rfl⟩⟩⟩⟩
theorem uc:∀F,RW K F jx (.str "abcdefghijklmnopqrstuvwxyz"):=λF=>by simp[RW,jx]
theorem acM:∀F,RW K F w5 (.ref jA):=λF=>by simp only[RW,RWs,w5];exact⟨_,_,rfl,T.acS F,⟨_,_,rfl,rfl,⟨_,_,rfl,rfl,⟨_,_,rfl,rfl,⟨_,_,rfl,rfl,⟨_,_,rfl,rfl,⟨_,_,rfl,rfl,⟨_,_,rfl,rfl,rfl⟩⟩⟩⟩⟩⟩⟩⟩
theorem yh:ExcS K aO:=wg T.xs T.gv T.xy T.xx T.xu
theorem k7:aeU P w K mg base cW ["self","who"] (spI aO ["who"]):=vR T.zh (λ_ _ _ _ _ _ e d=>xa (λ_ _=>rfl) e d) λh g=>yZ g uJ (by decide) (λ_ _ _ c b=>all_cons (vg (by decide)) (all_cons (zU c b) all_nil)) λf A a s H E hr=>bD (iN (qr (by rfl) T.dI T.rd T.rf T.rs T.oH (bg (pv 0) (bg (oK (.cons mK (.cons (vf (pv 1)) .nil))) df)))) (cE (ado (yh T) T.mZ (pv 0) (pv 1) rfl))
theorem mG:ExcS K aH:=wg T.xs T.hV T.tG T.tF T.tE
theorem jE:aeU P w K mg base cx ["self","at","why"] (spG aH ["at","why"] 100000 (xN K)):=vR T.v5 (λ_ _ _ _ _ _ c b=>w9 (λ_ _ _=>rfl) c b) λf e=>yY e rK (by decide) (by decide) (by decide) λd A a s H E hr=>bD (iN (qr (by rfl) T.dI T.rd T.rf T.rs T.ql (bg (pv 0) (bg (oK (.cons mK (.cons (vf (pv 1)) (.cons mK (.cons (aa9 hr (pv 2)) .nil))))) df)))) (bD (ado (mG T) T.mY (pv 0) (pv 1) rfl) (cE (af3 (mG T) T.lb (pv 0) (pv 2) rfl)))
theorem abq:Mk K aN eW:=⟨T.z1_Book,T.z2_Book,T.z3_Book,T.z4_Book⟩
theorem hX:Cls K aN:=⟨T.z5_Book,T.z6_Book,T.z7_Book,T.z8_Book⟩
theorem adR:Mk K aJ jf:=⟨T.z1_Run,T.z2_Run,T.z3_Run,T.z4_Run⟩
theorem cj:Cls K aJ:=⟨T.z5_Run,T.z6_Run,T.z7_Run,T.z8_Run⟩
theorem rY:Cal P w K mg base CX0 41 "is_name" ["thing"] [] (spW K 1 nz):=T.wJ.dN T.mgA mi rN λhB hr hx hp=>(aj (aL (PW.pt (rl (eE (ck (wB bO (eh hB.symm) T.aA aiH (aa (va 0) (aa (wty T.abn boot_str) ai))))) (jQ (eE (xH eZ eZ acb acb ak (wB nL (zI hB.symm) T.eA aiJ (aa (va 0) ai)) (wki hB T.jF)))))) (aq (aB l1)) ay) (aq (aB (jT (dt eu (kK hB.symm hr.units) (va 0) (wk hB T.adU adj (acM T)) (by rfl)) (lZ (wB lO (w_all (cm hr) hB.symm) T.abo boot_all (aa (cS (ts:=["sign"]) ⟨rfl,rfl,rfl,rfl,rfl⟩ (cm hr) rfl (bf (by decide)) (acB (va 0)) (λ_ _ _ _=>gN 0) (λ_ _ _ _=>fo) λ_ _ _ _=>dt zy (afz hB.symm hr.units) (va 0) (wk hB T.vz uV (uc T)) (by rfl)) ai)))))))
theorem mP:Cal P w K mg base CX0 1 "read_step" ["word","more"] [] (spW K 2 ji):=T.pq.dN T.mgA ik mv λhB hr hx hp=>aj (aL (PW.pt (fj (we2 hB hr.units (va 0) ax) (eN (bz lM (ae0 hB.symm hr.units) (va 1) (wk hB T.sg rS (rp T)) (by rfl))))) (aq (aB (aE (aa (va 0) (aa (va 1) ai))))) ay) bI
theorem fD:Cal P w K mg base CX0 41 "read_steps" ["text"] [] (spW K 1 dP):=T.nJ.dN T.mgA gG fu λhB hr hx hp=>(aj (aL (we2 hB hr.units (va 0) ax) (aq (aB (aE (aa (aE (aa ax ai)) ai)))) ay) (aj (wS 1 fu.nd (g9 hB.symm (va 0) (aa ax ai))) (aj (aL (PW.pt (rl (wn2 hB hr.units (bH bS w_mod (wB ba (eO hB.symm) T.eA aiJ (aa (va 1) ai)) ak) ak) (jQ (bz fb acd (wB ba (eO hB.symm) T.eA aiJ (aa (va 1) ai)) (bH fM w_mul ak (wki hB T.m7)) (bh _))))) (aq dr) ay) (aq (aB (wT gA (oo hB.symm) T.lg alp (aa (cS (ts:=["place"]) ⟨rfl,rfl,rfl,rfl,rfl⟩ (cm hr) rfl (bf (by decide)) (aax (by rfl) T.eS ak (wB ba (eO hB.symm) T.eA aiJ (aa (va 1) ai))) (λ_ _ _ _=>gN 0) (λ_ _ _ _=>fo) λ_ _ _ _=>cl hB hr (mP T) (aa (wx hB (va 2) (va 0)) (aa (wx hB (va 2) (bH bU (w_add hB.symm) (va 0) ak)) ai))) ai)))))))
theorem fE:Cal P w K mg base CX0 1 "read_plain_test" ["words"] [] (spW K 1 cP):=T.gw.dN T.mgA cI fv λhB hr hx hp=>aj (aL (we2 hB hr.units (wx hB (va 0) ak) ax) bI ay) (aj (aL (we2 hB hr.units (wx hB (va 0) ak) ax) bI ay) (aj (aL (PW.pt (rl (wn2 hB hr.units (wB ba (eO hB.symm) T.eA aiJ (aa (va 0) ai)) ak) (jQ (bz eu (kK hB.symm hr.units) (wx hB (va 0) ak) (wk hB T.nc mF (l3 T)) (by rfl))))) (aq dr) ay) (aq (aB (aE (aa (wx hB (va 0) ak) ai))))))
theorem mO:Cal P w K mg base CX0 2 "read_test" ["text"] [] (spW K 1 jh):=T.pk.dN T.mgA ij gH λhB hr hx hp=>aj (wS 1 gH.nd (g9 hB.symm (va 0) (aa ax ai))) (aj (aL (PW.pt (fj (bz fb acd (wB ba (eO hB.symm) T.eA aiJ (aa (va 1) ai)) ak (bh _)) (eN (we2 hB hr.units (wx hB (va 1) ak) ax)))) bI ay) (aq (aB (cl hB hr (fE T) (aa (va 1) ai)))))
theorem kZ:Cal P w K mg base CX0 41 "read_tests" ["text"] [] (spW K 1 gT):=T.nI.dN T.mgA gF ft λhB hr hx hp=>(aj (wS 1 ft.nd (g9 hB.symm (va 0) (aa ax ai))) (aj (aL (bz fb acd (wB ba (eO hB.symm) T.eA aiJ (aa (va 1) ai)) (wki hB T.m6) (bh _)) (aq dr) ay) (aq (aB (wT gA (oo hB.symm) T.lg alp (aa (cS (ts:=["test"]) ⟨rfl,rfl,rfl,rfl,rfl⟩ (cm hr) rfl (bf (by decide)) (fk hB.symm (va 1)) (λ_ _ _ _=>gN 0) (λ_ _ _ _=>fo) λ_ _ _ _=>cl hB hr (mO T) (aa (va 0) ai)) ai))))))
theorem mQ:Cal P w K mg base CX0 42 "read_rule" ["text"] [] (spW K 1 jj):=T.pw.dN T.mgA il gI λhB hr hx hp=>aj (aL (ck (tQ hB.symm (va 0) (aa ax ai))) (aq (aB (aE (aa (aE ai) (aa (cl hB hr (fD T) (aa (aaA (va 0) ak) ai)) ai))))) ay) (aj (wS 1 gI.nd (aav hB.symm (va 0) (aa ax ai))) (aj (aL (we2 hB hr.units (wx hB (va 1) ak) ax) (aq dr) ay) (aq (aB (aE (aa (cl hB hr (kZ T) (aa (wx hB (va 1) ak) ai)) (aa (cl hB hr (fD T) (aa (wx hB (va 1) ak) ai)) ai)))))))
theorem mR:Cal P w K mg base CX0 43 "read_call" ["text"] [] (spW K 1 jk):=T.px.dN T.mgA ip gJ λhB hr hx hp=>(aj (aL (eE (ck (wB bO (eh hB.symm) T.aA aiH (aa (va 0) (aa (wty T.abn boot_str) ai))))) (aq dr) ay) (aj (wS 1 gJ.nd (g9 hB.symm (va 0) (aa ax ai))) (aj (aL (bz fb acd (wB ba (eO hB.symm) T.eA aiJ (aa (va 1) ai)) (wki hB T.m8) (bh _)) (aq dr) ay) (aq (aB (cS (ts:=["rule"]) ⟨rfl,rfl,rfl,rfl,rfl⟩ (cm hr) rfl (bf (by decide)) (fk hB.symm (va 1)) (λ_ _ _ _=>gN 0) (λ_ _ _ _=>fo) λ_ _ _ _=>cl hB hr (mQ T) (aa (va 0) ai)))))))
theorem abj:aeV P w K mg base 44 eW ["self","texts"] (spB K "calls" qR):=qP T.abM (λ_ _ _ _ _ _ b f=>xa (λ_ _=>rfl) b f) λg e=>by refine yX uD uC ue e oA rfl rfl ?_;intro c A a s H E X d hr hp;subst d;exact⟨λB hB hx=>⟨aL (bz fb acd (wB nL (zI hB.symm) T.eA aiJ (aa (va 1) ai)) (wki hB T.m9) (bh _)) (aq dr) ay,aat hB.symm hp (cm hr) hx (pv 1) (λ_=>gN 2 oA.nd) λB hB hx=>show PSs _ _ (loS _ K47.qM)from aq (aL (eE (ck (cl hB hr (rY T) (aa (va 2) ai)))) (aq dr) ay),cl hB hr (mR T) (aa (wx hB (va 1) (va 2)) ai)⟩,pv 0,pv 0,pv 1,pv 2,kX oA.nd rfl (Or.inl rfl),cm hr,rfl,rfl,rfl,λ_=>rfl⟩
theorem bA:Cal P w K mg base CX0 1 "_law_cell_at" ["_law_script","_law_k"] [] (spW K 2 aM):=T.lJ.dN T.mgA cT jD λhB hr hx hp=>aj (aL (bz lL w_lt (va 1) (wB ba (eO hB.symm) T.eA aiJ (aa (va 0) ai)) (bh _)) (aq (aB (wx hB (va 0) (va 1)))) ay) (aq (aB ak))
theorem adM:aeV P w K mg base 41 jf ["self","book","floor"] (ae3 K):=qP T.aev (λ_ _ _ _ _ _ c b=>w9 (λ_ _ _=>rfl) c b) λg f=>yW f ac7 rfl λd A a s H E X e=>by subst e;exact⟨uZ (pv 0) (pv 1) rfl,uZ (pv 0) (vd (bg (pv 2) df)) rfl⟩
theorem k8:rh P w K mg base 41 aN fm_Book_call "call" ["self","name"] (spO K 2 aZ):=iZ ⟨T.y1_Book_call,T.y2_Book_call,T.y3_Book_call⟩ T.nr (λ_ _ _ _ _ _ b e=>xa (λ_ _=>rfl) b e) λf d=>abV iv i6 d mx rfl rfl rfl (by decide) λc A a s H E B hB hr hx hp=>xI (aL (PW.pt (rl (eE (ck (wB bO (eh hB.symm) T.aA aiH (aa (va 1) (aa (wty T.abn boot_str) ai))))) (jQ (bz pG (xS hB.symm hr.units) (va 1) (flI hB T.qZ (hX T) T.oY (va 0)) (by rfl))))) (aq dr) ay) (aaw hB.symm (by rfl) T.zY boot_list (wxD hB (flI hB T.qZ (hX T) T.oY (va 0)) (va 1)))
theorem mV:rh P w K mg base 41 aN fm_Book_call "call" ["self","name"] (spX K 2 aZ):=rh.x (k8 T)
theorem kc:Cal P w K mg base CX0 1 "spot_of" ["stand"] [] (spW K 1 jg):=T.wF.dN T.mgA me rL λhB hr hx hp=>aq (aB (aE (aa (wx hB (va 0) ak) (aa (wx hB (va 0) ak) ai))))
theorem g0:Cal P w K mg base CX0 41 "first_meeting" ["stands"] [] (spW K 1 dQ):=T.jt.dN T.mgA dv cf λhB hr hx hp=>aj (jR hp (cm hr) (kJ (by rfl) T.eS (wB ba (eO hB.symm) T.eA aiJ (aa (va 0) ai))) (gN 1 cf.nd) (show PSs _ _ (loS _ K47.cO)from aq (jR hp (cm hr) (aay (by rfl) T.eS (bH bU (w_add hB.symm) (va 1) ak) (wB ba (eO hB.symm) T.eA aiJ (aa (va 0) ai))) (gN 2 cf.nd) (show PSs _ _ (loS _ K47.cN)from aq (aL (we2 hB hr.units (cl hB hr (kc T) (aa (wx hB (va 0) (va 1)) ai)) (cl hB hr (kc T) (aa (wx hB (va 0) (va 2)) ai))) (aq (aB (aE (aa (va 1) (aa (va 2) ai))))) ay))))) (aq (aB gE))
theorem oU:Cal P w K mg base CX0 42 "floor_of" ["stands"] [] (spW K 1 kr):=T.sR.dN T.mgA j1 iA λhB hr hx hp=>aj (wS 1 iA.nd (cl hB hr (g0 T) (aa (va 0) ai))) (aj (aL (bz kC ua (va 1) gE (bh _)) (aq dr) ay) (aq (aB (wT gA (oo hB.symm) T.lg alp (aa (va 0) ai)))))
theorem r0:Cal P w K mg base CX0 1 "is_head" ["dancer"] [] (spW K 1 nB):=T.wL.dN T.mgA ml rP λhB hr hx hp=>aq (aB (dt calm_eq (w_eq hB.symm hr.units) (bH bS w_mod (bH lN w_div (va 0) ak) ak) ak (bh _)))
theorem rZ:Cal P w K mg base CX0 1 "is_left" ["dancer"] [] (spW K 1 nA):=T.wK.dN T.mgA mj rO λhB hr hx hp=>aq (aB (dt calm_eq (w_eq hB.symm hr.units) (bH bS w_mod (va 0) ak) ak (bh _)))
theorem rX:Cal P w K mg base CX0 2 "is_such" ["dancer","word"] [] (spW K 2 ny):=T.wI.dN T.mgA mh rM λhB hr hx hp=>aj (aL (bz lM (ae0 hB.symm hr.units) (va 1) (aE (aa ax (aa ax ai))) (by rfl)) (aq (aB (dt calm_eq (w_eq hB.symm hr.units) (cl hB hr (r0 T) (aa (va 0) ai)) (dt calm_eq (w_eq hB.symm hr.units) (va 1) ax (bh _)) (bh _)))) ay) (aq (aB (dt calm_eq (w_eq hB.symm hr.units) (cl hB hr (rZ T) (aa (va 0) ai)) (dt calm_eq (w_eq hB.symm hr.units) (va 1) ax (bh _)) (bh _))))
theorem qv:Cal P w K mg base CX0 3 "holds" ["floor","dancer","test"] [] (spW K 3 jm):=T.abX.dN T.mgA uk qf λhB hr hx hp=>aj (wS 3 qf.nd (wx hB (va 2) ak)) (aj (aL (we2 hB hr.units (va 3) ax) bI ay) (aj (aL (we2 hB hr.units (va 3) ax) bI ay) (aj (aL (we2 hB hr.units (va 3) ax) bI ay) (aj (aL (bz lM (ae0 hB.symm hr.units) (va 3) (wk hB T.yJ yg (xU T)) (by rfl)) bI ay) (aq (aB (cl hB hr (rX T) (aa (va 1) (aa (va 3) ai)))))))))
theorem oP:Cal P w K mg base CX0 41 "rule_for" ["floor","dancer","call"] [] (spW K 3 ko):=T.sL.dN T.mgA jW eQ λhB hr hx hp=>(aj (jR hp (cm hr) (tR hB.symm (by rfl) T.iY (va 2)) (zG hB.symm (cm hr) (hI (gN 3 eQ.nd) (hI (gN 4 eQ.nd) tS)) rfl (lz (lz z6)) vW) (show PSs _ _ (loS _ K47.gR)from(aq (aL (ck (wB lO (w_all (cm hr) hB.symm) T.abo boot_all (aa (cS (ts:=["test"]) ⟨rfl,rfl,rfl,rfl,rfl⟩ (cm hr) rfl (bf (by decide)) (fk hB.symm (wx hB (va 4) ak)) (λ_ _ _ _=>gN 0) (λ_ _ _ _=>fo) λ_ _ _ _=>cl hB hr (qv T) (aa (va 1) (aa (va 2) (aa (va 0) ai)))) ai))) (aq (aB (va 3))) ay)))) (aq (aB gE)))
theorem oO:Cal P w K mg base (CXX P w) 42 "steps_of" ["floor","dancer","call","some"] [] (spX K 4 kn):=T.sJ.dX T.mgA jV iy λhB hr hx hp=>aj (aL (PW.pt (fj (bz kC ua (va 3) gE (bh _)) (eN (bz eu (kK hB.symm hr.units) (va 1) (va 3) (by rfl))))) (aq (aB (aE ai))) ay) (aj (wS 4 iy.nd (cl hB hr (oP T) (aa (va 0) (aa (va 1) (aa (va 2) ai))))) (aj (aL (bz wX w_is (va 4) gE (bh _)) (aq (rI hB hr hx (cm hr) T.o4 T.oH T.yi (k7 T) T.gv (aa (va 1) ai))) ay) (aq (aB (wx hB (wx hB (va 2) (va 4)) ak)))))
theorem iS:Cal P w K mg base CX0 1 "is_whole" ["thing"] [] (spW K 1 gp):=T.sO.dN T.mgA jY ov λhB hr hx hp=>aq (aB (jT (wB bO (eh hB.symm) T.aA aiH (aa (va 0) (aa (wty T.yG boot_int) ai))) (lZ (acE (wB bO (eh hB.symm) T.aA aiH (aa (va 0) (aa (wty T.adQ boot_bool) ai)))))))
theorem iT:Cal P w K mg base CX0 2 "is_place" ["thing"] [] (spW K 1 gq):=T.sQ.dN T.mgA j0 oz λhB hr hx hp=>aq (aB (jT (cl hB hr (iS T) (aa (va 0) ai)) (lZ (pR eZ eZ acb acb (fR bu fS (wki hB T.ke)) (va 0) (wki hB T.ke)))))
theorem mS:Cal P w K mg base CX0 2 "is_facing" ["thing"] [] (spW K 1 jl):=T.pz.dN T.mgA iq mw λhB hr hx hp=>aq (aB (jT (cl hB hr (iS T) (aa (va 0) ai)) (lZ (pR eZ lL acb w_lt ak (va 0) (wB ba (eO hB.symm) T.eA aiJ (aa (wk hB T.abt aa0 (aaI T)) ai))))))
theorem oS:Cal P w K mg base CX0 3 "is_stand" ["thing"] [] (spW K 1 kq):=T.sP.dN T.mgA jZ oy λhB hr hx hp=>aj (aL (PW.pt (rl (eE (ck (wB bO (eh hB.symm) T.aA aiH (aa (va 0) (aa (wty T.lg alp) ai))))) (jQ (wn2 hB hr.units (wB ba (eO hB.symm) T.eA aiJ (aa (va 0) ai)) ak)))) (aq (aB l1)) ay) (aq (aB (jT (cl hB hr (iT T) (aa (wx hB (va 0) ak) ai)) (jT (cl hB hr (iT T) (aa (wx hB (va 0) ak) ai)) (lZ (cl hB hr (mS T) (aa (wx hB (va 0) ak) ai)))))))
theorem rW:Cal P w K mg base CX0 41 "kept_in" ["told"] [] (spW K 1 nv):=T.wH.dN T.mgA mf fV λhB hr hx hp=>(aj (jR hp (cm hr) (tR hB.symm (by rfl) T.iY (va 0)) (zG hB.symm (cm hr) (hI (gN 1 fV.nd) (hI (gN 2 fV.nd) tS)) rfl (lz (lz z6)) vW) (show PSs _ _ (loS _ K47.i5)from(aq (aL (eE (ck (wB lO (w_all (cm hr) hB.symm) T.abo boot_all (aa (cS (ts:=["stand"]) ⟨rfl,rfl,rfl,rfl,rfl⟩ (cm hr) rfl (bf (by decide)) (fk hB.symm (aaB (afx hB.symm) (va 2) (oi ak) oj)) (λ_ _ _ _=>gN 0) (λ_ _ _ _=>fo) λ_ _ _ _=>cl hB hr (oS T) (aa (va 0) ai)) ai)))) (aq dr) ay)))) (aq (aB (va 0))))
theorem gZ:Cal P w K mg base CX0 1 "turned_facing" ["facing","way"] [] (spW K 2 dO):=T.js.dN T.mgA du gX λhB hr hx hp=>aq (aB (bH bS w_mod (bH bU (w_add hB.symm) (va 0) (gx hB T.lh T.kO (kL T) (va 1))) (wki hB T.si)))
theorem iQ:Cal P w K mg base CX0 2 "stand_behind" ["stand","step"] [] (spW K 2 eL):=T.jI.dN T.mgA eF iz λhB hr hx hp=>aj (aL (we2 hB hr.units (wx hB (va 1) ak) ax) (aq (aB (aE (aa (wx hB (va 0) ak) (aa (wx hB (va 0) ak) (aa (cl hB hr (gZ T) (aa (wx hB (va 0) ak) (aa (wx hB (va 1) ak) ai))) ai)))))) ay) bI
theorem vm:Cal P w K mg base CX0 41 "way_of" ["stand","steps"] [] (spW K 2 qQ):=T.zt.dN T.mgA pY ix λhB hr hx hp=>(aj (aar (i:=2) ix.nd rfl (Or.inl rfl) (acz (aa (va 0) ai))) (aj (jR hp (cm hr) (fk hB.symm (va 1)) (gN 3 ix.nd) (show PSs _ _ (loS _ K47.kh)from(aq (aL (wn2 hB hr.units (wx hB (va 3) ak) ax) (aq (acx hB.symm (iN (oN ajv ald ale m3 (pv 2) (bg (acJ (i:=2) (cl hB hr (iQ T) (aa (wx hB (va 2) (fR bu fS ak)) (aa (va 3) ai)))) df))))) ay)))) (aq (acw (i:=2) (aB (va 2))))))
theorem abi:Cal P w K mg base (CXX P w) 43 "ways" ["floor","call","some"] [.none] (spX K 3 z9):=T.aeI.cal (ps:=["floor","call","some"]) (ds:=[.none]) T.mgA (λ_ _ _ _ _ _ _ b a=>ud3 (λ_ _ _=>⟨_,rfl,rfl⟩) b (by simpa using a)) (λ_ _ _ _ _ _ _ b a=>ud2 (λ_ _=>⟨_,rfl,rfl⟩) b (by simpa using a)) λ_ _ _ d=>qX zK d uL rfl rfl rfl (by decide) λe A c s H E B hB hr hx hp=>(aj (wS 3 uL.nd (xP rfl rfl hB.symm hx (ts:=["dancer"]) ⟨rfl,rfl,rfl,rfl,rfl⟩ (cm hr) rfl (bf (by decide)) (kJ (by rfl) T.eS (wki hB T.i2)) (λ_ _ _ _ _ B hB hx=>gN 0) (λ_ _ _ _ _ B hB hx=>fo) λ_ _ _ _ _ B hB hx=>clX hB hr hx (oO T) (aa (va 1) (aa (va 0) (aa (va 2) (aa (va 3) ai)))))) (aq (aB (cl hB hr (rW T) (aa (cS (ts:=["dancer"]) ⟨rfl,rfl,rfl,rfl,rfl⟩ (cm hr) rfl (bf (by decide)) (kJ (by rfl) T.eS (wki hB T.i2)) (λ_ _ _ _=>gN 0) (λ_ _ _ _=>fo) λ_ _ _ _=>cl hB hr (vm T) (aa (wx hB (va 1) (va 0)) (aa (wx hB (va 4) (va 0)) ai))) ai)))))
theorem vn:Cal P w K mg base (CXX P w) 44 "danced" ["floor","call","some"] [.none] (spX K 3 bE):=T.zu.cal (ps:=["floor","call","some"]) (ds:=[.none]) T.mgA (λ_ _ _ _ _ _ _ b a=>ud3 (λ_ _ _=>⟨_,rfl,rfl⟩) b (by simpa using a)) (λ_ _ _ _ _ _ _ b a=>ud2 (λ_ _=>⟨_,rfl,rfl⟩) b (by simpa using a)) λ_ _ _ e=>qX pZ e uM rfl rfl rfl (by decide) λd A c s H E B hB hr hx hp=>(aq (aB (cl hB hr (oU T) (aa (cS (ts:=["way"]) ⟨rfl,rfl,rfl,rfl,rfl⟩ (cm hr) rfl (bf (by decide)) (fk hB.symm (clX hB hr hx (abi T) (aa (va 0) (aa (va 1) (aa (va 2) ai))))) (λ_ _ _ _=>gN 0) (λ_ _ _ _=>fo) λ_ _ _ _=>wx hB (va 0) (fR bu fS ak)) ai))))
theorem iU:Cal P w K mg base (CXX P w) 45 "floor_behind" ["floor","call","some","paired"] [] (spX K 4 aR):=T.jK.dX T.mgA bQ iB λhB hr hx hp=>aj (aL (eE (ck (va 3))) (aq (aB (clX hB hr hx (vn T) (aa (va 0) (aa (va 1) (aa (va 2) ai)))))) ay) bI
theorem mU:rh P w K mg base 46 aJ fm_Run_dance "dance" ["self","name","some","paired"] (spM rnM K 4 aI):=iZ ⟨T.y1_Run_dance,T.y2_Run_dance,T.y3_Run_dance⟩ T.nq (λ_ _ _ _ _ _ b f=>w6 (λ_ _ _ _=>rfl) b f) λg e=>wA iu e cB rfl rfl rfl (by decide) λd A a s H E B hB hr hx hp=>(tI (acs (M:=rnM) (j:=0) (i:=4) cB.nd (bH hY w_sub (wB ba (eO hB.symm) T.eA aiJ (aa (ic (n:=1) hB.symm T.g8 (cj T) T.bt (by decide) rfl (va 0)) ai)) ak)) (tI (aap hB hx λB hB hx=>aL (we2 hB hr.units (va 4) (wki hB T.fJ)) (aq (tO hB.symm hx (cm hr) (by rfl) T.i1 T.tM T.jq rfl (ag0 (ahD (wki hB T.fJ) (ag0 acA))))) ay) (tI (aao (j:=0) (i:=5) hB hx cB.nd λB hB hx=>(meI hB hr hx T.qZ (hX T) (mV T) (ic (n:=0) hB.symm T.g8 (cj T) T.iX (by decide) rfl (va 0)) (aa (va 1) ai) λc ws z=>by rw[(fc kE) c ws z])) (fh (xtb (ci:=4) (i:=6) hB hr hx cB.nd T.o4 T.adT T.zZ T.m5 (abJ T.gv ⟨ahZ T.xs T.gv T.gv T.aeD T.aab T.nE rfl,T.ya,_,T.oH⟩ aeq) T.g8 (cj T) T.bt T.lj T.ql T.uW T.hV (jE T) λ_ _ B hB hx=>(iN (oN ajv ald ale m3 (qq (pv 0) rfl) (bg (clX hB hr hx (iU T) (aa (wx hB (ic (n:=1) hB.symm T.g8 (cj T) T.bt (by decide) rfl (va 0)) (fR bu fS ak)) (aa (va 5) (aa (va 2) (aa (va 3) ai))))) df))))))))
theorem fZ:rh P w K mg base 41 aJ fm_Run_those_left "those_left" ["self","some","item"] (spX K 3 aK):=iZ ⟨T.y1_Run_those_left,T.y2_Run_those_left,T.y3_Run_those_left⟩ T.gh (λ_ _ _ _ _ _ b e=>w9 (λ_ _ _=>rfl) b e) λf d=>wy cb d cK rfl rfl rfl (by decide) λc A a s H E B hB hr hx hp=>(aj (wS 3 cK.nd (afw (we2 hB hr.units (wx hB (va 2) ak) ax) (aaB (afx hB.symm) (va 2) oj (oi ak)) (gx hB T.abr T.aaM (aaH T) (wx hB (va 2) ak)))) (aq (aB (cS (ts:=["dancer"]) ⟨rfl,rfl,rfl,rfl,rfl⟩ (cm hr) rfl (bf (by decide)) (fk hB.symm (va 1)) (λ_ _ _ _=>gN 0) (λ_ _ _ _=>(acC (ck (cl hB hr (qv T) (aa (wx hB (ic (n:=1) hB.symm T.g8 (cj T) T.bt (by decide) rfl (va 1)) (fR bu fS ak)) (aa (va 0) (aa (va 4) ai))))))) λ_ _ _ _=>va 0))))
theorem fF:∀n:Nat,rh P w K mg base (46+n) aJ fm_Run_go_on "go_on" ["self","items","some","paired"] (spM rnM K 4 (ar n))|0=>iZ ⟨T.y1_Run_go_on,T.y2_Run_go_on,T.y3_Run_go_on⟩ T.gS (λ_ _ _ _ _ _ c e=>w6 (λ_ _ _ _=>rfl) c e) λh f=>zp|n+1=>have a:=fF n;iZ ⟨T.y1_Run_go_on,T.y2_Run_go_on,T.y3_Run_go_on⟩ T.gS (λ_ _ _ _ _ _ c e=>w6 (λ_ _ _ _=>rfl) c e) λh f=>wA (ir (ar n)) f dz rfl rfl rfl (by decide) λg A d s H E B hB hr hx hp=>(fh (tK hB hp (cm hr) (λB hB=>fk hB.symm (va 1)) (kX dz.nd rfl (Or.inl rfl)) (show PSs _ _ (loX _ _ (K47.aw (K47.ar n)))from(fh (aaq (M:=rnM) (j:=0) (we2 hB hr.units (wx hB (va 4) ak) ax) (fh (xmR hB hr hx T.g8 (cj T) (mU T) (pv 0) (tL hB (λB hB=>wx hB (va 4) ak) (tL hB (λB hB=>va 2) (tL hB (λB hB=>va 3) pQ))) λb s ws z=>by rw[(xg (xg (xg q0))) b s ws z] (aip (by decide) (alc _ _)))) (fh (aaq (M:=rnM) (j:=0) (we2 hB hr.units (wx hB (va 4) ak) ax) (fh (tK hB hp (cm hr) (λB hB=>kJ (by rfl) T.eS (wx hB (va 4) ak)) (kX dz.nd rfl (Or.inl rfl)) (show PSs _ _ (loX _ _ (K47.aY (K47.ar n)))from fh (xmR hB hr hx T.g8 (cj T) a (pv 0) (tL hB (λB hB=>wx hB (va 4) ak) (tL hB (λB hB=>va 2) (tL hB (λB hB=>va 3) pQ))) λb s ws z=>by rw[(xg (xg (xg q0))) b s ws z] (aim _))))) (fh (aaq (M:=rnM) (j:=0) (we2 hB hr.units (wx hB (va 4) ak) ax) (xC hB hx λB hB hx=>bI) (fh (xmR hB hr hx T.g8 (cj T) a (pv 0) (tL hB (λB hB=>wx hB (va 4) ak) (ahB hB (meN hB hr hx T.g8 (cj T) (fZ T) (va 0) (aa (va 2) (aa (va 4) ai)) λb ws z=>by rw[(fc (fc kE)) b ws z] (aip (by decide) (alc _ _))) (tL hB (λB hB=>va 3) pQ))) λb s ws z=>by rw[(xg (ah5 (xg q0))) b s ws z] (aim _))))))))))))
theorem mT:rh P w K mg base 51 aJ fm_Run_go_on "go_on" ["self","items","some","paired"] (spM rnM K 4 (ar 5)):=fF T 5
theorem adK:Cal P w K mg base (CXX P w) 52 "run" ["book","floor","items"] [] (spX K 3 pe):=T.agM.dX T.mgA xY zR λhB hr hx hp=>(ahC (j:=3) hB hr hx zR.nd rfl (Or.inl rfl) (adR T) T.g8 ⟨cj T,T.iX,T.bt⟩ (adM T) T.agx (aa (va 0) (aa (va 1) ai)) λB hB hx=>(aam (xmR hB hr hx T.g8 (cj T) (mT T) (pv 3) (tL hB (λB hB=>va 2) (tL hB (λB hB=>tT hB.symm (cm hr) (by rfl) T.zY (by rfl) T.eS (wki hB T.i2)) (tL hB (λB hB=>l1) pQ))) λa s ws z=>by rw[(xg (xg (xg q0))) a s ws z]) (xD (j:=3) (uX (aaB (afx hB.symm) (ic (n:=1) hB.symm T.g8 (cj T) T.bt (by decide) rfl (va 3)) (oi ak) oj)))))
theorem oR:Cal P w K mg base CX0 1 "_law_kind" ["_law_e"] [] (spW K 1 gk):=T.sN.dN T.mgA jX eR λhB hr hx hp=>aj (wS 1 eR.nd (dc (aa (wB bT (jC hB.symm T.xs) T.aA aiH (aa (va 0) (aa (wcl hB T.o4 T.gv) ai))) (aa (wB bT (jC hB.symm T.xs) T.aA aiH (aa (va 0) (aa (wcl hB T.adT T.aeD) ai))) (aa (wB bT (jC hB.symm T.xs) T.aA aiH (aa (va 0) (aa (wcl hB T.zZ T.aab) ai))) (aa (wB bT (jC hB.symm T.xs) T.aA aiH (aa (va 0) (aa (wcl hB T.m5 T.nE) ai))) ai)))))) (aj (aL (wn2 hB hr.units (xM hB.symm hr.units (va 1) (aa l1 ai)) ak) bI ay) (aj (wS 2 eR.nd (xK hB.symm hr.units (va 1) (aa l1 ai))) (aj (aL (we2 hB hr.units (va 2) ak) bI ay) (aj (aL (we2 hB hr.units (va 2) ak) bI ay) (aq (aB (aE (aa (wx hB (dc (aa ax (aa ax ai))) (va 2)) (aa (tU hB.symm T.xs T.aeA (va 0) rfl) ai)))))))))
theorem oQ:Cal P w K mg base CX0 53 "_law_told" ["_law_book","_law_floor","_law_items"] [] (spW K 3 aU):=T.sM.dN T.mgA cJ bN λhB hr hx hp=>(aj (wS 3 bN.nd gE) (aj (wS 4 bN.nd gE) (aj (xJ (tb:=K47.bW) (th:=K47.bV) (i:=5) hB.symm rfl rfl bN.nd rfl rfl (by rfl) T.dI (λc a h=>T.xs.ex c a _ _ h T.nF) (λ_ _ B hB hx hp=>aq (wS 4 bN.nd (clX hB hr hx (adK T) (aa (va 0) (aa (va 1) (aa (va 2) ai)))))) λb B hB hx=>have hr:=hr.sui (v:=some (.ref b)) (by decide);aq (wS 3 bN.nd (va 5))) (aj (aL (bz wX w_is (va 3) gE (bh _)) (aq (aB (aE (aa ax (aa (va 4) ai))))) ay) (aj (aL (PW.pt (fj (ck (wB bT (jC hB.symm T.xs) T.aA aiH (aa (va 3) (aa (wcl hB T.lj T.hV) ai)))) (fj (ck (wB bT (jC hB.symm T.xs) T.aA aiH (aa (va 3) (aa (wty T.gP dU) ai)))) (eN (eE (ck (wB bT (jC hB.symm T.xs) T.aA aiH (aa (va 3) (aa (wcl hB T.i1 T.jq) ai))))))))) (aq (aB (aE (aa ax (aa (tU hB.symm T.xs T.agG (va 3) rfl) (aa (cl hB hr (oR T) (aa (tU hB.symm T.xs T.aez (va 3) rfl) ai)) ai)))))) ay) (aj (aL (PW.pt (fj (ck (wB bT (jC hB.symm T.xs) T.aA aiH (aa (va 3) (aa (wcl hB T.i1 T.jq) ai)))) (fj (ck (wB bT (jC hB.symm T.xs) T.aA aiH (aa (va 3) (aa (wty T.gP dU) ai)))) (eN (eE (ck (wB bT (jC hB.symm T.xs) T.aA aiH (aa (va 3) (aa (wcl hB T.lj T.hV) ai))))))))) (aq (aB (aE (aa ax ai)))) ay) (aq (aB (aE (aa ax ai))))))))))
theorem iR:Cal P w K mg base CX0 1 "_law_items_of" ["_law_many","_law_a","_law_group","_law_last"] [] (spW K 4 bR):=T.jJ.dN T.mgA cC aT λhB hr hx hp=>aj (wS 4 aT.nd (dc (aa (aE (aa ax (aa ax ai))) ai))) (aj (aL (bz fb acd (va 2) ak (bh _)) (aq (wS 4 aT.nd (dc (aa (aE (aa ax (aa (wx hB (dc (aa ax (aa ax (aa ax (aa ax ai))))) (bH hY w_sub (va 2) ak)) (aa (va 4) ai)))) ai)))) ay) (aj (wS 5 aT.nd (bH lN w_div (va 0) (bH fM w_mul ak (va 1)))) (aj (wS 6 aT.nd (dc (aa (aE (aa ax (aa (va 1) (aa (dc (aa (aE (aa ax (aa ak (aa (dc (aa (aE (aa ax (aa (va 5) (aa (va 4) ai)))) ai)) ai)))) ai)) ai)))) ai))) (aj (wS 6 aT.nd (bH bU (w_add hB.symm) (va 6) (bH nK (zH hB.symm T.nl) (dc (aa (aE (aa ax (aa ax ai))) ai)) (bH hY w_sub (va 0) (bH fM w_mul (bH fM w_mul ak (va 1)) (va 5)))))) (aq (aB (bH bU (w_add hB.symm) (va 6) (bH nK (zH hB.symm T.nl) (dc (aa (aE (aa ax (aa (va 3) ai))) ai)) (wT jw ub T.yG boot_int (aa (dt wV (ag1 hB.symm hr.units) (va 3) ax (bh _)) ai))))))))))
theorem adL{f:Addr}{b:FuncData}(c:Fun K "law" "law" aaW f b):FnOk P w K mg base CX0 54 f b ["_law_script"] (spW K 1 zi):=wz aaL c dy rfl rfl rfl (by decide) λd A a s H E B hB hr hx hp=>aj (wS 1 dy.nd (aE (aa (aE (aa (fR bu fS ak) (aa (fR bu fS ak) (aa ak ai)))) (aa (aE (aa ak (aa (fR bu fS ak) (aa ak ai)))) (aa (aE (aa ak (aa (fR bu fS ak) (aa ak ai)))) (aa (aE (aa ak (aa ak (aa ak ai)))) (aa (aE (aa ak (aa ak (aa ak ai)))) (aa (aE (aa (fR bu fS ak) (aa ak (aa ak ai)))) (aa (aE (aa (fR bu fS ak) (aa ak (aa ak ai)))) (aa (aE (aa (fR bu fS ak) (aa (fR bu fS ak) (aa ak ai)))) ai)))))))))) (aj (wS 2 dy.nd (mkI hB hr hx (abq T) (hX T) T.oY T.qZ (abj T) T.adV (aa (acH (tW ax ax (tW ax ax acL))) ai))) (aj (wS 3 dy.nd (bH bU (w_add hB.symm) ak (bH bS w_mod (cl hB hr (bA T) (aa (va 0) (aa ak ai))) ak))) (aj (wS 4 dy.nd (bH bS w_mod (cl hB hr (bA T) (aa (va 0) (aa ak ai))) ak)) (aj (wS 5 dy.nd (wx hB (dc (aa ax (aa ax (aa ax ai)))) (bH bS w_mod (cl hB hr (bA T) (aa (va 0) (aa ak ai))) ak))) (aj (jR hp (cm hr) (fk hB.symm (dc (aa (bH bU (w_add hB.symm) ak (bH bS w_mod (cl hB hr (bA T) (aa (va 0) (aa ak ai))) ak)) (aa ak (aa (bH bU (w_add hB.symm) ak (bH bS w_mod (cl hB hr (bA T) (aa (va 0) (aa ak ai))) ak)) ai))))) (gN 6 dy.nd) (show PSs _ _ (loS _ K47.bF)from aj (wS 7 dy.nd (cl hB hr (oQ T) (aa (va 2) (aa (va 1) (aa (cl hB hr (iR T) (aa (va 6) (aa (va 3) (aa (va 4) (aa (va 5) ai))))) ai))))) (aj (wS 8 dy.nd (aE (aa ax ai))) (aj (aL (PW.pt (fj (bz eZ acb (bH bU (w_add hB.symm) (va 6) (wT jw ub T.yG boot_int (aa (dt calm_eq (w_eq hB.symm hr.units) (va 5) ax (bh _)) ai))) ak (bh _)) (eN (wn2 hB hr.units (va 5) ax)))) (aj (aL (PW.pt (rl (wn2 hB hr.units (wx hB (va 7) ak) ax) (jQ (wn2 hB hr.units (wB ba (eO hB.symm) T.eA aiJ (aa (wx hB (va 7) ak) ai)) (bH bU (w_add hB.symm) (va 6) (wT jw ub T.yG boot_int (aa (dt calm_eq (w_eq hB.symm hr.units) (va 5) ax (bh _)) ai))))))) (aq (aB l1)) ay) (aq (wS 8 dy.nd (va 7)))) (aq (aL (PW.pt (fj (we2 hB hr.units (va 5) ax) (eN (bz lL w_lt (va 6) ak (bh _))))) (aq (wS 8 dy.nd (aE (aa ax (aa (va 6) (aa (aE (aa ax (aa ak ai))) ai)))))) ay))) (aq (aL (wn2 hB hr.units (va 7) (va 8)) (aq (aB l1)) ay)))))) (aq (aB l1)))))))
theorem all_mk(a:∀c:List Int,c.length<=63->zi [.lst (c.map .int)]=.ok (.bl true)){l:W.OpenLaw}{e:Addr}(b:mg "law"=some (.ref e)):∃d:FuncData,(∀(s:Shared)(v:Value),BindsTo s d ⟨[v],[]⟩ [("_law_script",v)])/\∀base:Heap,K.In base->base.Ns mainGlobals mg->FnOk l.prog w K mg base CX0 54 e d ["_law_script"] (WS.uF K):=ad5 T.agO T.mgA b (λ_ _ _ _ _ _ _=>rfl) (λ_ _ _ f=>adL T f) a
omit T
def walk{l:W.OpenLaw}{m:Program}{b:List Str}{q:(Str->Option Value)->Heap->Prop}{g:World->Heap->Prop}{d:DefRec}{K:Params->W.Frag}(v:l.most=some 63)(c:d.params.defaults=[])(j:∀(w:World)(h:Heap),g w h->(K w.params).In h)(F:∀(w:World)(mg:Str->Option Value)(i:Addr)(h:Heap),(K w.params).In h->h.Ns mainGlobals mg->mg d.name=some (.ref i)->∃e:FuncData,(∀(s:Shared)(u:Value),BindsTo s e ⟨[u],[]⟩ [("_law_script",u)])/\∀base:Heap,(K w.params).In base->base.Ns mainGlobals mg->FnOk l.prog w (K w.params) mg base CX0 54 i e ["_law_script"] (WS.uF (K w.params))):W.WalkO m b q g l.row.toRowW d [] λf o=>PySem.call f o:=L2.aaF (n:=63) (k:=54) (x:="_law_script") (CX:=λ_=>CX0) (sp:=λw=>WS.uF (K w.params)) v (by decide) c ⟨λ_=>rfl,by decide,by decide,rfl⟩ j F (λ_ _ a p t _ r=>⟨a,p,rfl,r,t,λ_=>rfl⟩) λ_ _ _ _ _ z=>z
end K47
open PySem PySem.W PyProof.Rows
set_option maxRecDepth 100000 in
set_option maxHeartbeats 0 in
theorem PySem.Challenge.cw_squarecall_k47_too_many_calls_holds : PySem.Challenge.rw_squarecall_k47_too_many_calls.Holds := by
 w_on;o_law;k_head;(case hw=>w_witness2)
 k_fill
 refine K47.walk (l:=PySem.Challenge.rw_squarecall_k47_too_many_calls) rfl rfl (λw h Y=>W.kIn_of Y) ?F
 case F =>
 intro w mg fa h KX G hmg
 refine' K47.all_mk ?T K47.yP hmg
 case T =>
  constructor<;>first|(exact WS.agT (by k_is) (by k_is) (by k_is) (by k_is))|(exact WS.aeR (by k_is) (by k_is) (by k_is) (by k_is) (by k_is))|(exact WS.ac2 (by k_is) (by repeat first|exact .nil|exact .cons rfl .nil|exact .cons ⟨_,rfl⟩ .nil|refine .cons rfl ?_|refine .cons ⟨_,rfl⟩ ?_) (by decide))|(exact WS.wh (tab:=[("FloorError",_),("NoCall",_),("NoName",_),("TooMany",_),("NoPairs",_),("Blind",_),("Out",_),("Meet",_),("Broken",_)]) (.head _) (by(refine WS.all_cons (WS.zj (by first|k_is|exact rfl) (by first|k_is|exact rfl) (by first|k_is|exact rfl) (by first|k_is|exact rfl) (by first|k_is|exact rfl) (by first|k_is|exact rfl)) ?_);(iterate 8 (refine WS.all_cons (WS.abO (by first|k_is|exact rfl) (by first|k_is|exact rfl) (by first|k_is|exact rfl) (by first|k_is|exact rfl) (by first|k_is|exact rfl) (by first|k_is|exact rfl)) ?_));exact WS.all_nil) ((WS.all_cons (.inl (by simp)) (WS.all_cons (.inr (by k_is)) (WS.all_cons (.inl (by simp)) (WS.all_cons (.inl (by simp)) (WS.all_cons (.inr (by k_is)) (WS.all_cons (.inl (by simp)) (WS.all_cons (.inl (by simp)) (WS.all_cons (.inr (by k_is)) (WS.all_cons (.inl (by simp)) (WS.all_cons (.inl (by simp)) (WS.all_cons (.inl (by simp)) (WS.all_cons (.inl (by simp)) WS.all_nil))))))))))))) (show (["FloorError","NoCall","NoName","TooMany","NoPairs","Blind","Out","Meet","Broken"]:List String).Nodup from by decide) (by decide) (by first|k_is|exact rfl) (by first|k_is|exact rfl))|(exact WS.ahs (WS.eY (by decide)) (WS.gj (by k_is)) (WS.eY (by decide)) (WS.eY (by decide)) (WS.gj (by k_is)) (WS.eY (by decide)) (WS.eY (by decide)) (WS.gj (by k_is)) (WS.eY (by decide)) (WS.eY (by decide)) (WS.eY (by decide)) (WS.v8 (by first|k_is|exact rfl) (by first|k_is|exact rfl) (by first|k_is|exact rfl)))|(exact WS.ahs (WS.eY (by decide)) (WS.gj (by k_is)) (WS.eY (by decide)) (WS.eY (by decide)) (WS.gj (by k_is)) (WS.eY (by decide)) (WS.eY (by decide)) (WS.gj (by k_is)) (WS.v8 (by first|k_is|exact rfl) (by first|k_is|exact rfl) (by first|k_is|exact rfl)) (WS.v8 (by first|k_is|exact rfl) (by first|k_is|exact rfl) (by first|k_is|exact rfl)) (WS.eY (by decide)) (WS.eY (by decide)))|(exact WS.aem (by k_is) (by k_is) (by k_is))|(exact WS.adS (by k_is) (by k_is) (by k_is))|(exact λ_ _=>W.mg_of KX G)|(refine W.mg_of KX G ?_;k_is)|(refine W.mg_none_of KX G ?_;k_is)|(exact⟨_,_,by k_is,by exact .cons ⟨⟨_,rfl⟩,rfl,⟨_,rfl⟩⟩ (.cons ⟨⟨_,rfl⟩,rfl,⟨_,rfl⟩⟩ (.cons ⟨⟨_,rfl⟩,rfl,⟨_,rfl⟩⟩ (.cons ⟨⟨_,rfl⟩,rfl,⟨_,rfl⟩⟩ (.nil))))⟩)|(exact⟨_,_,by k_is,by exact .cons ⟨⟨_,rfl⟩,rfl,rfl⟩ (.cons ⟨⟨_,rfl⟩,rfl,rfl⟩ (.cons ⟨⟨_,rfl⟩,rfl,rfl⟩ (.cons ⟨⟨_,rfl⟩,rfl,rfl⟩ (.nil))))⟩)|(refine⟨by decide,?_⟩;k_is)|(exact L2.ib.mk (by k_is) (by kernel_rfl))|(exact L2.StrK.mk (by first|k_is|exact rfl) (by first|k_is|exact rfl) (by first|k_is|exact rfl) (by first|k_is|exact rfl))|(show W.findIn _ _ _=_;first|k_is|exact rfl)|(first|kernel_rfl|exact rfl)|(k_is)|(exact rfl)

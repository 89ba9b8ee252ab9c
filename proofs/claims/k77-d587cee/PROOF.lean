import PyProof.Rows.All
import Wide.All
import OpenK.AllK
import Wide.FinOn
import Lean
import PyProof.EqAt
import PyProof.EqKinds
import PyProof.TupleCall
import PyProof.ExcStr
import PyProof.ExcStrAll.ValueError
import KE.KTryMore
import PyProof.DictWalks
import PyProof.DictIter
import PySem.Str
import PyProof.StrLawsIn
import PyProof.Rows.StrNews2
import PyProof.Rows.StrLawsPart
import PyProof.Rows.StrJoin2
import PyProof.Rows.SortStr
import KE.KSortTup
import PyProof.Rows.Range3
import PyProof.StrLoop
import KE.KDictList
import KE.KDictSum
import KE.KIntText
import PyProof.StrLawsFirst
import PyProof.StrLawsIdx
import PyProof.TableCode
import PySem.Challenge.RW_squarecall_k77_whole_rounds
open Option renaming some->L,none->Y
open Bool renaming true->U,false->O
theorem M.{u}{α:Sort u}{a:α}:a=a:=rfl
set_option bootstrap.genMatcherCode false
set_option linter.all false
open PySem renaming wpAny_bind->Í,wpAny_pure->ì,wpAny_mono->Ĝ,wpAny_field->Ń,wpAny_holding->π,mem_of_lookup->Pa,wpAny_truthy_bool->Mb,wpAny_standAt->Oa,wpAny_call_entry->Lc,wpAny_callSpecial?_slot->Yh,wpAny_Call_Name_kw->Pf,wpAny_passesOwn->Vd,codeAny_handlers_test->Wh,wpAny_setField->Td,wpAny_handleBy_cons->Ii,plainObj_wpAny_Assign_Attribute->Yr,wpAny_execs_nil->Tf,wpAny_call->Nb,wpAny_setField_rec->Fi,sizeLine_eq->Mc,codeAny_call_builtin->Mm,codeAny_handlers_suite_as->Zr,codeAny_mono->Xf,wpAny_comprehension_free->Cr,call_meets->Qd,wpAny_newObj_type->Ol,wpAny_pyIter_enum->Nl,strLen_append->Uh,wpAny_loadName_local->Pq,typeIs_str->Nf,wpAny_isSubtype_exc->Nr,wpAny_loadPart->Wl,boot_len->Ul,wpAny_attempt->Bm,wpAny_letOwnedTupleGo_enum->Vx,wpAny_assign_Name->Vr,wpAny_eqBool_int->Dq,wpAny_execs_cons->Cq,wpAny_lookBehind->Bq,pastItsLine_dict->Aq,concat_meets->Zk,noFill_tuple_add->Zp,typeIs_none->Xk,wpAny_seqItems->Nq,refuseLoop_ref->Lq,wpAny_Name->Hl
open PySem.Heap renaming get?_push_of_some->Ă,lt_size->ĉ,get?_push_size->ĺ,get?_update_other->ϟ,get?_update_self->Ob,get?_none_of_le->Qc,size_push->Vl
open List renaming getElem?_set_ne->ą,getElem?_eq_some_iff->Ĵ,mem_cons_self->ę,mem_cons_of_mem->Ħ,getElem?_set_self->ĳ,length_cons->Ĩ,mem_cons->Ę,length_map->Į,mem_singleton->Ň,getElem?_eq_getElem->ν,mem_append_right->ų,all_eq_true->ş,map_cons->ņ,getElem?_map->Ų,mem_map->Ł,getElem?_append_right->Qa,size_toArray->ς,mem_range->ŵ,length_append->ϕ,mem_append->ρ,getElem?_append_left->Qb,mem_append_left->Ϯ,append_nil->Ξ,drop_eq_getElem_cons->Pc,lookup_cons->Ϟ,getD_eq_getElem?_getD->Zf,cons_append->Kb,nodup_cons->Ud,length_replicate->Xh,isPrefixOf_iff_prefix->Fm,exists_cons_of_ne_nil->Em,drop_zero->Yd,not_mem_nil->Wf,length_set->Sf,flatten_cons->Ci,map_map->Xd,getElem_mem->Ai,drop_length->Zh,extract_eq_drop_take'->Bs,all_cons->Yf,mem_map_of_mem->Vm,map_append->Li,nil_append->Ki,mem_filterMap->Um,getElem?_replicate->Ar,getElem?_cons_succ->Yq,append_assoc->Ll,length_take->Kl,drop_eq_nil_iff->Sr,getLast?_eq_some_getLast->Sx,filterMap_cons->Rr,getElem_of_mem->Qr,getElem?_range->Mr,zip_cons_cons->Jr,pairwise_cons->Ir,isEmpty_cons->Fq,getElem?_eq_none_iff->Gx,of_mem_zip->Vp,length_nil->Up,drop_take->Kq
open Nat renaming le_refl->í,le_trans->ñ,lt_of_lt_of_le->Ē,ne_of_lt->ğ,zero_le->Ś,le_add_right->ϔ,ne_of_gt->Ŵ,lt_irrefl->Jb,ble_eq->Ma,le_of_lt->Nc,lt_succ_self->Bi,mul_le_mul_right->Lm,not_lt_zero->Ji,lt_of_lt_of_eq->Ql,min_le_right->Jl,le_of_ble_eq_true->Qq,le_succ->Vh,le_succ_of_le->Gq,le_of_eq->Dl,le_of_not_lt->Yp,log2_lt->Il
open Ne renaming symm->ö
open Bool renaming and_eq_true->ł,false_ne_true->ř,and_eq_true_iff->Sb,eq_iff_iff->ϯ,false_eq_true->Of,eq_false_iff->Ml,beq_eq_decide_eq->Tq,or_eq_true->Yl,true_and->Zl,and_false->Mq
open Option renaming map_eq_some_iff->μ,isSome_iff_exists->Be,bind_some->Xp
open Option.some renaming inj->ŧ,injEq->Wr
open PyProof.Rows renaming boot_isinstance->Ν,callWith_type1->Ag,slot_tuple_getitem->Xr,FormattedValue_plain->Nx,callWith_builtin1->Mx,boot_tuple->Mf,formatField_str->Px,boot_range->El
open PySem.F renaming plainAttrs_list->Pb,slot_list_append->Ae,type_list_append->Zd,excBase_ValueError->Rf,slot_NoneType_hash->Km,slot_tuple_iterator_next->Jm,slot_str_split->Rm,plainAttrs_str->Qm,slot_enumerate_next->Om,args_tuple_add_2->Dr,args_str_split_2->Br,entry_tuple_add->Zq,entry_str_split->Xq,slot_tuple_add->Wq,slot_str_ascii_iterator_iter->Tx,args_tuple_iterator_next_1->Rx,entry_tuple_iterator_next->Ox,slot_str_partition->Ux,slot_dict_getitem->Lx,excStr_ValueError->Kx
open PySem.W renaming kia_one->Λ,looks_clsIn->Cm,callWith_K->Bl,exm_one->Th,methodCall_KW->Rp
open Array renaming length_toList->Qf,getElem?_eq_some_iff->Hm,toList_inj->Vf,toList_extract->Tr,getElem?_setIfInBounds->Qx,find?_toList->Kr,getElem?_eq_getElem->Jx
open PySem.Calls renaming spliced_cons->Hi,evalArgs_plain->Ur,Name_function_global->Wx
open PySem.Obj renaming data_mapFields->Gi,isFreed_of_fields->Uq
open PySem.PassesOwn renaming leaving->Di
open PySem.Code renaming quiet_builtin->Pl
open PySem.Str renaming ofString_eq_toList->Vq
open List.cons renaming injEq->Xl
open Int renaming sub_eq_add_neg->Hr,toNat_natCast->Hq,natCast_add->Qp
open PySem.Paired renaming length->Dm
open Prod.mk renaming injEq->Am
open PySem.Within renaming cons->Jq
open PySem.Heap.Ns1 renaming of_empty->Iq
open Nat.succ renaming inj->Yk
def Ð:=@if_pos
def Õ:=@if_neg
def ê:=@congrArg
def Ũ:=@decide_eq_false
def ϖ:=@beq_eq_false_iff_ne
def Ϡ:=@decide_eq_true
def Lb:=@decide_eq_true_eq
def Μ:=@beq_iff_eq
def Ei:=@of_decide_eq_true
def ϭ:=@if_true
def Ib:=@if_false
def Lr:=@ne_true_of_eq_false
noncomputable section
set_option compiler.extract_closed false
set_option tactic.hygienic false
def Yc{p q r:Prop}{C:Prop}(h:p/\q/\r)(K:p->q->r->C):C:=let⟨h0,h1,h2⟩:=h;K h0 h1 h2
def Mt{p q r s:Prop}{C:Prop}(h:p/\q/\r/\s)(K:p->q->r->s->C):C:=let⟨h0,h1,h2,h3⟩:=h;K h0 h1 h2 h3
def Bn{p q r s t:Prop}{C:Prop}(h:p/\q/\r/\s/\t)(K:p->q->r->s->t->C):C:=let⟨h0,h1,h2,h3,h4⟩:=h;K h0 h1 h2 h3 h4
def fy{p q:α->Prop}{C:Prop}(h:∃a,p a/\q a)(K:∀a,p a->q a->C):C:=let⟨a,h0,h1⟩:=h;K a h0 h1
def iQ{p q r:α->Prop}{C:Prop}(h:∃a,p a/\q a/\r a)(K:∀a,p a->q a->r a->C):C:=let⟨a,h0,h1,h2⟩:=h;K a h0 h1 h2
def dB{p q:α->β->Prop}{C:Prop}(h:∃a b,p a b/\q a b)(K:∀a b,p a b->q a b->C):C:=let⟨a,b,h0,h1⟩:=h;K a b h0 h1
def eM{p q:α->β->Prop}(a b)(h0:p a b)(h1:q a b):∃a b,p a b/\q a b:=⟨a,b,h0,h1⟩
def kr{p q r:α->β->Prop}{C:Prop}(h:∃a b,p a b/\q a b/\r a b)(K:∀a b,p a b->q a b->r a b->C):C:=let⟨a,b,h0,h1,h2⟩:=h;K a b h0 h1 h2
def hU{p q r:α->β->Prop}(a b)(h0:p a b)(h1:q a b)(h2:r a b):∃a b,p a b/\q a b/\r a b:=⟨a,b,h0,h1,h2⟩
def mJ{p q r s:α->β->Prop}{C:Prop}(h:∃a b,p a b/\q a b/\r a b/\s a b)(K:∀a b,p a b->q a b->r a b->s a b->C):C:=let⟨a,b,h0,h1,h2,h3⟩:=h;K a b h0 h1 h2 h3
def Ub{p q r s:α->β->Prop}(a b)(h0:p a b)(h1:q a b)(h2:r a b)(h3:s a b):∃a b,p a b/\q a b/\r a b/\s a b:=⟨a,b,h0,h1,h2,h3⟩
def mv{p q r s t:α->β->Prop}{C:Prop}(h:∃a b,p a b/\q a b/\r a b/\s a b/\t a b)(K:∀a b,p a b->q a b->r a b->s a b->t a b->C):C:=let⟨a,b,h0,h1,h2,h3,h4⟩:=h;K a b h0 h1 h2 h3 h4
def Ϩ{p q r s t:α->β->Prop}(a b)(h0:p a b)(h1:q a b)(h2:r a b)(h3:s a b)(h4:t a b):∃a b,p a b/\q a b/\r a b/\s a b/\t a b:=⟨a,b,h0,h1,h2,h3,h4⟩
def Zc{p q r s t u:α->β->Prop}{C:Prop}(h:∃a b,p a b/\q a b/\r a b/\s a b/\t a b/\u a b)(K:∀a b,p a b->q a b->r a b->s a b->t a b->u a b->C):C:=let⟨a,b,h0,h1,h2,h3,h4,h5⟩:=h;K a b h0 h1 h2 h3 h4 h5
def Rg{p q r s t u:α->β->Prop}(a b)(h0:p a b)(h1:q a b)(h2:r a b)(h3:s a b)(h4:t a b)(h5:u a b):∃a b,p a b/\q a b/\r a b/\s a b/\t a b/\u a b:=⟨a,b,h0,h1,h2,h3,h4,h5⟩
def vq{p q:α->β->γ->Prop}{C:Prop}(h:∃a b c,p a b c/\q a b c)(K:∀a b c,p a b c->q a b c->C):C:=let⟨a,b,c,h0,h1⟩:=h;K a b c h0 h1
def Vb{p q:α->β->γ->Prop}(a b c)(h0:p a b c)(h1:q a b c):∃a b c,p a b c/\q a b c:=⟨a,b,c,h0,h1⟩
def xh{p q r:α->β->γ->Prop}{C:Prop}(h:∃a b c,p a b c/\q a b c/\r a b c)(K:∀a b c,p a b c->q a b c->r a b c->C):C:=let⟨a,b,c,h0,h1,h2⟩:=h;K a b c h0 h1 h2
def Xc{p q r:α->β->γ->Prop}(a b c)(h0:p a b c)(h1:q a b c)(h2:r a b c):∃a b c,p a b c/\q a b c/\r a b c:=⟨a,b,c,h0,h1,h2⟩
def ϩ{p q r s:α->β->γ->Prop}{C:Prop}(h:∃a b c,p a b c/\q a b c/\r a b c/\s a b c)(K:∀a b c,p a b c->q a b c->r a b c->s a b c->C):C:=let⟨a,b,c,h0,h1,h2,h3⟩:=h;K a b c h0 h1 h2 h3
def sA{p q r s:α->β->γ->Prop}(a b c)(h0:p a b c)(h1:q a b c)(h2:r a b c)(h3:s a b c):∃a b c,p a b c/\q a b c/\r a b c/\s a b c:=⟨a,b,c,h0,h1,h2,h3⟩
def Cn{p q r s t:α->β->γ->Prop}{C:Prop}(h:∃a b c,p a b c/\q a b c/\r a b c/\s a b c/\t a b c)(K:∀a b c,p a b c->q a b c->r a b c->s a b c->t a b c->C):C:=let⟨a,b,c,h0,h1,h2,h3,h4⟩:=h;K a b c h0 h1 h2 h3 h4
def Sn{p q r s t:α->β->γ->Prop}(a b c)(h0:p a b c)(h1:q a b c)(h2:r a b c)(h3:s a b c)(h4:t a b c):∃a b c,p a b c/\q a b c/\r a b c/\s a b c/\t a b c:=⟨a,b,c,h0,h1,h2,h3,h4⟩
def Sg{p q:α->β->γ->δ->Prop}{C:Prop}(h:∃a b c d,p a b c d/\q a b c d)(K:∀a b c d,p a b c d->q a b c d->C):C:=let⟨a,b,c,d,h0,h1⟩:=h;K a b c d h0 h1
def Vn{p q:α->β->γ->δ->Prop}(a b c d)(h0:p a b c d)(h1:q a b c d):∃a b c d,p a b c d/\q a b c d:=⟨a,b,c,d,h0,h1⟩
def Ij{p q r s t u:α->β->γ->δ->Prop}{C:Prop}(h:∃a b c d,p a b c d/\q a b c d/\r a b c d/\s a b c d/\t a b c d/\u a b c d)(K:∀a b c d,p a b c d->q a b c d->r a b c d->s a b c d->t a b c d->u a b c d->C):C:=let⟨a,b,c,d,h0,h1,h2,h3,h4,h5⟩:=h;K a b c d h0 h1 h2 h3 h4 h5
def Nt{p q r s:α->β->γ->δ->ε->Prop}{C:Prop}(h:∃a b c d e,p a b c d e/\q a b c d e/\r a b c d e/\s a b c d e)(K:∀a b c d e,p a b c d e->q a b c d e->r a b c d e->s a b c d e->C):C:=let⟨a,b,c,d,e,h0,h1,h2,h3⟩:=h;K a b c d e h0 h1 h2 h3
def Ej{p q r s t u:α->β->γ->δ->ε->Prop}(a b c d e)(h0:p a b c d e)(h1:q a b c d e)(h2:r a b c d e)(h3:s a b c d e)(h4:t a b c d e)(h5:u a b c d e):∃a b c d e,p a b c d e/\q a b c d e/\r a b c d e/\s a b c d e/\t a b c d e/\u a b c d e:=⟨a,b,c,d,e,h0,h1,h2,h3,h4,h5⟩
def JM{p q r s t u v w:α->β->γ->δ->ε->ζ->Prop}{C:Prop}(h:∃a b c d e f,p a b c d e f/\q a b c d e f/\r a b c d e f/\s a b c d e f/\t a b c d e f/\u a b c d e f/\v a b c d e f/\w a b c d e f)(K:∀a b c d e f,p a b c d e f->q a b c d e f->r a b c d e f->s a b c d e f->t a b c d e f->u a b c d e f->v a b c d e f->w a b c d e f->C):C:=let⟨a,b,c,d,e,f,h0,h1,h2,h3,h4,h5,h6,h7⟩:=h;K a b c d e f h0 h1 h2 h3 h4 h5 h6 h7
def IM{p q r s t u v w:α->β->γ->δ->ε->ζ->Prop}(a b c d e f)(h0:p a b c d e f)(h1:q a b c d e f)(h2:r a b c d e f)(h3:s a b c d e f)(h4:t a b c d e f)(h5:u a b c d e f)(h6:v a b c d e f)(h7:w a b c d e f):∃a b c d e f,p a b c d e f/\q a b c d e f/\r a b c d e f/\s a b c d e f/\t a b c d e f/\u a b c d e f/\v a b c d e f/\w a b c d e f:=⟨a,b,c,d,e,f,h0,h1,h2,h3,h4,h5,h6,h7⟩
def Bd{p q r:α->β->γ->δ->ε->ζ->η->θ->ι->Prop}{C:Prop}(h:∃a b c d e f g i j,p a b c d e f g i j/\q a b c d e f g i j/\r a b c d e f g i j)(K:∀a b c d e f g i j,p a b c d e f g i j->q a b c d e f g i j->r a b c d e f g i j->C):C:=let⟨a,b,c,d,e,f,g,i,j,h0,h1,h2⟩:=h;K a b c d e f g i j h0 h1 h2
set_option Elab.async false
set_option linter.all false
set_option maxRecDepth 100000
abbrev Pn:=List<|PySem.Addr×PySem.Obj
abbrev VS:=PySem.Value->PySem.Shared->Prop
set_option autoImplicit true
set_option relaxedAutoImplicit true
open PySem PySem.Spec PyProof.Rows
namespace L2
abbrev ķ(K:W.Frag)(c:String)(C:Addr):Prop:=W.nsIn K mainGlobals (Str.ofString c)=L (L<|.ref C)
abbrev Key:=Sum (Option Int) Str
noncomputable def mD:Int:=0xFCA86420
def E3{prog w A E s Q}(h:Q mD {s with toks:=s.toks+1}):wpAny (model prog w) A (pyHash .none) Q E s:=by unfold pyHash;refine Í ?_;refine ì ?_;refine Í<|wpAny_specialOf (Xk s) Km.lookup ?_;refine Í<|wpAny_specialOf (Xk s) Km.lookup ?_;refine Í<|wpAny_callSpecialIfBoundUnlessNone?_slot (Xk s) Km<|Lc Km (Xk s) PySem.F.entry_NoneType_hash (wpAny_ret_mkInt ?_)<|PySem.F.args_NoneType_hash_1 _;show wpAny _ _ (if(decide (-(2:Int)^63<=mD)&&decide (mD<2^63))=U then _ else _) Q E _;rw[Ð (by decide)];exact ì h
noncomputable def zU:Key->Value->Bool|.inl (L k),v=>Value.isInt k v|.inl Y,.none=>U|.inl Y,_=>O|.inr x,v=>Value.isStrOf x v
def YL(w:World):Key->Int|.inl (L k)=>hashInt k|.inl Y=>mD|.inr x=>hashStr w x
def bA:∀{k v},zU k v=U->(∃i t,k=Sum.inl (L i)/\v=Value.int i t)\/(∃x t,k=Sum.inr x/\v=Value.str x t)\/k=Sum.inl Y/\v=.none
|.inl (L i),v,h=>by obtain⟨t,e⟩:=Value.isInt_shape  h;exact .inl ⟨i,t,M,e⟩|.inl Y,v,h=>by cases v<;>first|exact .inr<|.inr ⟨M,M⟩|exact nomatch h
|.inr x,v,h=>by obtain⟨t,e⟩:=Value.isStrOf_shape  h;exact .inr<|.inl ⟨x,t,M,e⟩
def N4(i)(t):zU (.inl<|some i) (.int i t)=U:=by simp[zU,Value.isInt]
def O4(x)(t):zU (.inr x) (.str x t)=U:=by simp[zU,Value.isStrOf]
def LP(a b):decide ((Sum.inl (L a):Key)=Sum.inl (L b))=(a==b):=by grind
def OP(a b):decide ((Sum.inr a:Key)=Sum.inr b)=decide (a=b):=by simp
def key_is(a)(b):decide ((Sum.inl (L a):Key)=Sum.inr b)=O:=Ũ λq=>nomatch q
def KP(a):decide ((Sum.inl (L a):Key)=Sum.inl Y)=O:=Ũ λq=>nomatch q
def QP(a)(b):decide ((Sum.inr a:Key)=Sum.inl (L b))=O:=Ũ λq=>nomatch q
def RP(a):decide ((Sum.inr a:Key)=Sum.inl Y)=O:=Ũ λq=>nomatch q
def MP(a):decide ((Sum.inl Y:Key)=Sum.inl (L a))=O:=Ũ λq=>nomatch q
def NP(a):decide ((Sum.inl Y:Key)=Sum.inr a)=O:=Ũ λq=>nomatch q
def bU(prog:Program)(w:World):PySem.KeyKind prog w Key where
 is:=zU;hash:=YL w;inj:=λv a b ha hb=>by rcases bA ha with⟨i,t,rfl,rfl⟩|⟨x,t,rfl,rfl⟩|⟨rfl,rfl⟩<;>rcases bA hb with⟨j,u,rfl,e⟩|⟨y,u,rfl,e⟩|⟨rfl,e⟩<;>(cases e;try rfl)
 byValue:=λk v h=>by rcases bA h with⟨i,t,rfl,rfl⟩|⟨x,t,rfl,rfl⟩|⟨rfl,rfl⟩<;>rfl
 pyHash:=λhv h=>by
  rcases bA hv with⟨i,t,rfl,rfl⟩|⟨x,t,rfl,rfl⟩|⟨rfl,rfl⟩;.exact wpAny_pyHash_int h
  .exact wpAny_pyHash_str h
  .exact E3 h
 eqBool:=λhu hv h=>by
  rcases bA hu with⟨i,t,rfl,rfl⟩|⟨x,t,rfl,rfl⟩|⟨rfl,rfl⟩
  .rcases bA hv with⟨j,u,rfl,rfl⟩|⟨y,u,rfl,rfl⟩|⟨rfl,rfl⟩;.rw[LP]at h;exact Dq h
   .rw[key_is]at h;exact SeqAt.EqAt.int_str i t y u _ _ _ _ h
   .rw[KP]at h;exact SeqAt.EqAt.int_none i t _ _ _ _ h
  .rcases bA hv with⟨j,u,rfl,rfl⟩|⟨y,u,rfl,rfl⟩|⟨rfl,rfl⟩;.rw[QP]at h;exact SeqAt.EqAt.str_int x t j u _ _ _ _ h
   .rw[OP]at h;exact wpAny_eqBool_str h
   .rw[RP]at h;exact SeqAt.EqAt.str_none x t _ _ _ _ h
  .rcases bA hv with⟨j,u,rfl,rfl⟩|⟨y,u,rfl,rfl⟩|⟨rfl,rfl⟩;.rw[MP]at h;exact SeqAt.EqAt.none_int j u _ _ _ _ h
   .rw[NP]at h;exact SeqAt.EqAt.none_str y u _ _ _ _ h
   .rw[Ϡ M]at h;unfold eqBool;rw[Ð (show(Value.none==Value.none)=U from rfl)];exact Í (wpAny_rule<|ì h)
 «strs»:=λk x t v h=>by
  rcases bA h with⟨i,u,rfl,e⟩|⟨y,u,rfl,e⟩|⟨_,e⟩;.exact nomatch e
  .injection e with e1 _;subst e1;cases v<;>rfl
  .exact nomatch e
def we(prog)(w)(i)(t):(bU prog w).is (.inl<|some i) (.int i t)=U:=N4 i t
def wc(prog)(w)(x)(t):(bU prog w).is (.inr x) (.str x t)=U:=O4 x t
inductive V where|n|B(b:Bool)|int(i:Int)|str(x:Str)|Ι(b:Array UInt8)|flt(b:UInt64)|ref(a:Addr)|ty(n:String)deriving DecidableEq
def RelV:V->Value->Prop|.n,u=>u=Value.none|.B b,u=>u=Value.bool b|.int i,u=>∃t,u=Value.int i t|.str x,u=>∃t,u=Value.str x t|.Ι b,u=>∃t,u=Value.bytes b t|.flt b,u=>∃t,u=Value.float b t|.ref a,u=>u=Value.ref a|.ty n,u=>u=Value.type n
abbrev Vals:List V->List Value->Prop:=Paired RelV
theorem Vals.length{xs us}(r:Vals xs us):xs.length=us.length:=Dm r
theorem Vals.get:∀{xs:List V}{us:List Value}{i:Nat}{x:V},Vals xs us->xs[i]?=L x->∃u,us[i]?=L u/\RelV x u|_,_,_,_,.nil,e=>by simp at e|_,_,0,_,.cons r _,e=>by simp at e;subst e;exact⟨_,M,r⟩|_,_,i+1,x,.cons _ t,e=>by obtain⟨u,a,b⟩:=Vals.get (i:=i) (x:=x) t (by simpa using e);exact⟨u,by simpa using a,b⟩
theorem Vals.set{x:V}{u:Value}(r:RelV x u):∀{xs:List V}{us:List Value}(i:Nat),Vals xs us->Vals (xs.set i x) (us.set i u)|_,_,_,.nil=>.nil|_,_,0,.cons _ t=>.cons r t|_,_,i+1,.cons q t=>.cons q<|Vals.set r i t
theorem Vals.append:∀{xs ys us ws},Vals xs us->Vals ys ws->Vals (xs++ys) (us++ws)|_,_,_,_,.nil,s=>s|_,_,_,_,.cons r t,s=>.cons r<|Vals.append t s
theorem Vals.take:∀{xs us}n,Vals xs us->Vals (xs.take n) (us.take n)|_,_,0,_=>.nil|_,_,_+1,.nil=>.nil|_,_,n+1,.cons r t=>.cons r<|Vals.take n t
theorem Vals.drop:∀{xs us}n,Vals xs us->Vals (xs.drop n) (us.drop n)|_,_,0,r=>r|_,_,_+1,.nil=>.nil|_,_,n+1,.cons _ t=>Vals.drop n t
def vp:Option V->Option Value->Prop|some v,L u=>RelV v u|none,Y=>True|_,_=>False
def KV{a}:List (a×V)->List (a×Value)->Prop:=Paired λ(p:a×V)(q:a×Value)=>p.1=q.1/\RelV p.2 q.2
noncomputable def kV:Key->V|.inl (L i)=>.int i|.inl Y=>.n|.inr x=>.str x
inductive HO where|l(xs:List V)|t(xs:List V)|dK(Ç:List (Key×V))|dT(Ç:List (List Key×V))|set(S:Int->Bool)(n:Nat)|i(C dx:Addr)(fs:List (Str×V))|own(x:Addr)|xd(fs:List (Str×V))|met(f x:Addr)|û(lo hi:Int)|î(o:Obj)(u:HO)|tbl(ps:Array Value)|tab(ps:Array Value)|ext(φ:Heap->Prop)
abbrev Hp:=Addr->Option HO
noncomputable def upd(H:Hp)(a:Addr)(o:HO):Hp:=λb=>if b=a then L o else H b
def ai{H a o}:upd H a o a=L o:=by unfold upd;rw[Ð M]
def ag{H a b o}(h:b≠a):upd H a o b=H b:=by unfold upd;rw[Õ h]
def CH{H a o u}:upd (upd H a o) a u=upd H a u:=by funext b;unfold upd;split<;>rfl
def JO{H:Hp}{a b o u}(h:H a=L o)(h':H b=L u)(d:o≠u):a≠b:=by grind
def aQ{H:Hp}{a b o}(h:H a=L o)(h':H b=Y):a≠b:=by grind
def TabAt(H:Hp)(h:Heap)(a:Addr)(ps:Array Value):Prop:=h.get? a=L {cls:=.none,data:=.fields #[]}\/∃(c:Addr)(q:Str)(t:Tok),H c=L (.own a)/\ps[2]?=L (.str q t)/\h.get? a=L {cls:=.none,data:=.fields #[ps.getD 0 .none,ps.getD 1 .none,.ref c]}/\h.CodeRec (.ref c) q
section
variable(P:Program)(w:World)
def cB(H:Hp)(h:Heap)(a:Addr):HO->Prop|.l c=>c.length<=sizeLine/\∃(b:List Value)(n:Nat),Vals c b/\h.get? a=L {cls:=.type "list",data:=.seq b.toArray n}|.t c=>c.length<=sizeLine/\∃b:List Value,Vals c b/\IsTup h a b.toArray|.dK Ç=>Ç.length<=sizeLine/\(a==sysModules)=O/\∃i,KV Ç i/\h.DictOf (bU P w) a i|.dT Ç=>Ç.length<=sizeLine/\(a==sysModules)=O/\∃c:List (List Key×Addr×Value),Paired (λ(p:List Key×V)(q:List Key×Addr×Value)=>p.1=q.1/\H q.2.1=L (.t<|p.1.map kV)/\RelV p.2 q.2.2) Ç c/\∃o e k,h.get? a=L o/\o.ExactDict/\o.data=.dict e k/\e.toList=c.map (entryOfKey<|tupleKind<|bU P w)/\(c.map (·.1)).Nodup|.set S n=>h.SetOf (intKind P w) a S n|.i C dx fs=>H dx=L (.own a)/\fs.length<=1000/\dx≠a/\h.get? a=L (W.instObj C dx)/\∃d,h.Ns1 dx d/\(∀f,vp (fs.lookup f)<|d f)/\PySem.Within d (fs.map (·.1))|.own _=>∃o,h.get? a=L o|.xd fs=>∃d,h.Ns1 a d/\∀f,vp (fs.lookup f)<|d f|.û lo hi=>∃t u v,h.get? a=L {cls:=.type "range",data:=.fields #[.int lo t,.int hi u,.int 1 v]}|.î o u=>h.get? a=L o/\cB H h a u|.tbl ps=>h.get? a=L {cls:=.none,data:=.fields ps}|.tab ps=>TabAt H h a ps|.met f x=>h.get? a=L (W.methodObj (.ref f)<|.ref x)|.ext φ=>φ h/\(∃o,h.get? a=L o)/\∀g j:Heap,φ g->(∀o,g.get? a=L o->j.get? a=L o)->φ j
def Ģ(H:Hp)(h:Heap):Prop:=∀a o,H a=L o->cB P w H h a o
end
section
variable{P:Program}{w:World}{H H':Hp}{h h':Heap}{a:Addr}{o:HO}
theorem cB.lt(x:cB P w H h a o):a<h.objs.size:=by cases o with|l xs=>obtain⟨_,_,_,_,e⟩:=x;exact ĉ e|t xs=>obtain⟨_,_,_,p⟩:=x;exact p.lt|dK Ç|dT Ç=>obtain⟨_,_,_,_,o,_,_,e,_⟩:=x;exact ĉ e|set S n=>obtain⟨o,_,_,_,e,_⟩:=x;exact ĉ e|i C dx fs=>obtain⟨_,_,_,e,_⟩:=x;exact ĉ e|own y=>obtain⟨_,e⟩:=x;exact ĉ e|xd fs=>obtain⟨_,⟨_,_,_,e,_⟩,_⟩:=x;exact ĉ e|û lo hi=>obtain⟨_,_,_,e⟩:=x;exact ĉ e|î ob u=>obtain⟨e,_⟩:=x;exact ĉ e|tbl ps|met f y=>exact ĉ x|tab ps=>rcases x with e|⟨_,_,_,_,_,e,_⟩<;>exact ĉ e|ext φ=>obtain⟨_,⟨_,e⟩,_⟩:=x;exact ĉ e
theorem Paired.En{α e F G}:∀{c:List α}{d:List e},Paired F c d->(∀a b,F a b->G a b)->Paired G c d|_,_,.nil,_=>.nil|_,_,.cons r t,f=>.cons (f _ _ r)<|Paired.En t f
def Paired.imp'{α e:Type}{F G:α->e->Prop}(f:∀a b,F a b->G a b){c:List α}{d:List e}(r:Paired F c d):Paired G c d:=Paired.En r f
def cB.tj(x:cB P w H h a o)(k:∀b u,b=a\/H b=L (.own a)->h.get? b=L u->h'.get? b=L u)(A:∀b,H b=L (.own a)->H' b=L (.own a))(Å:∀b xs,H b=L (.t xs)->H' b=L (.t xs)):cB P w H' h' a o:=by
 induction o with|l xs=>obtain⟨z,j,n,r,e⟩:=x;exact⟨z,j,n,r,k _ _ (.inl rfl) e⟩|t xs=>obtain⟨z,j,r,ob,e,c⟩:=x;exact⟨z,j,r,ob,k _ _ (.inl rfl) e,c⟩|dK Ç=>obtain⟨z,y,m,r,ob,i,g,e,c⟩:=x;exact⟨z,y,m,r,ob,i,g,k _ _ (.inl rfl) e,c⟩|dT Ç=>obtain⟨z,y,xs,r,ob,i,g,e,c⟩:=x;exact⟨z,y,xs,Paired.En r λp q z=>⟨z.1,Å _ _ z.2.1,z.2.2⟩,ob,i,g,k _ _ (.inl rfl) e,c⟩|set S n=>obtain⟨ob,i,g,t,e,c⟩:=x;exact⟨ob,i,g,t,k _ _ (.inl rfl) e,c⟩|i C dx fs=>obtain⟨d,z,D,e,l,⟨od,i,g,s,c⟩,r⟩:=x;exact⟨A _ d,z,D,k _ _ (.inl rfl) e,l,⟨od,i,g,k _ _ (.inr d) s,c⟩,r⟩|own y=>obtain⟨ob,e⟩:=x;exact⟨ob,k _ _ (.inl rfl) e⟩|xd fs=>obtain⟨l,⟨od,i,g,e,c⟩,r⟩:=x;exact⟨l,⟨od,i,g,k _ _ (.inl rfl) e,c⟩,r⟩|û lo hi=>obtain⟨t,u,v,e⟩:=x;exact⟨t,u,v,k _ _ (.inl rfl) e⟩|î ob u ih=>obtain⟨e,q⟩:=x;exact⟨k _ _ (.inl rfl) e,ih q⟩|tab ps=>
 rcases x with e|⟨c,q,t,B,K,e,N,J,m,I,s,E,G⟩;.exact .inl (k a _ (.inl rfl) e)
 .cases s;exact .inr ⟨c,q,t,A c B,K,k a _ (.inl rfl) e,c,J,m,I,M,k c _ (.inr B) E,G⟩|tbl ps=>have e:=x;exact k a _ (.inl rfl) e|met f y=>have e:=x;exact k a _ (.inl rfl) e|ext φ=>obtain⟨p,⟨o,e⟩,st⟩:=x;exact⟨st _ _ p λo q=>k _ _ (.inl rfl) q,⟨o,k _ _ (.inl rfl) e⟩,st⟩
theorem Ģ.lt(x:Ģ P w H h)(e:H a=L o):a<h.objs.size:=(x a o e).lt
def Ģ.fresh(x:Ģ P w H h)(e:h.objs.size<=a):H a=Y:=by cases q:H a with|none=>rfl|some u=>exact absurd (Ē (x.lt q) e)<|Jb _
def Ģ.kept(x:Ģ P w H h)(k:∀b u,h.get? b=L u->h'.get? b=L u):Ģ P w H h':=λa o e=>(x a o e).tj (λb u _ q=>k b u q) (λ_ q=>q) λ_ _ q=>q
def Ģ.laid(x:Ģ P w H h)(k:∀b u,h.get? b=L u->h'.get? b=L u)(g:h.objs.size<=a)(new:cB P w (upd H a o) h' a o):Ģ P w (upd H a o) h':=λb u e=>by
 have f:=x.fresh g;by_cases d:b=a;.subst d;rw[ai]at e;cases e;exact new
 .rw[ag d]at e;exact(x b u e).tj (λc v _ q=>k c v q) (λc q=>by rw[ag (aQ q f)];exact q) λc i q=>by rw[ag (aQ q f)];exact q
end
def Rd(H:Hp)(a:Addr)(u:HO):Prop:=H a=L u\/∃o,H a=L (.î o u)
def Rd.ok{P w H h a u}(r:Rd H a u)(x:Ģ P w H h):cB P w H h a u:=by
 rcases r with r|⟨o,r⟩;.exact x a u r
 .obtain⟨_,q⟩:=x a _ r;exact q
def Yj:Option HO->Prop|some (.l _)=>True|some (.dK _)=>True|some (.dT _)=>True|some (.set _ _)=>True|some (.i _ _ _)=>True|some (.ext _)=>True|_=>False
section
variable{P:Program}{w:World}{H:Hp}{h h':Heap}{x e:Addr}{o':HO}
def Ģ.write(ok:Ģ P w H h)(d:Yj (H x))(n:e=x\/H e=L (.own x))(k:∀b u,b≠e->h.get? b=L u->h'.get? b=L u)(i:∃u,h'.get? e=L u)(new:cB P w (upd H x o') h' x o'):Ģ P w (upd H x o') h':=λb u q=>by
 have a:∀c y,H c=L (.own y)->c≠x:=λc y r z=>by subst z;rw[r]at d;exact d
 by_cases g:b=x;.subst g;rw[ai]at q;cases q;exact new
 .rw[ag g]at q;by_cases j:b=e
  .have m:H b=L (.own x):=by grind
   rw[q]at m;cases m;obtain⟨v,o⟩:=i;exact⟨v,by grind⟩
  .refine(ok b u q).tj (λc v f r=>k c v ?_ r) (λc r=>by rw[ag (a c b r)];exact r) λc l r=>by rw[ag ((λc l r z=>by subst z;rw[r]at d;exact d) c l r)];exact r
   rcases f with rfl|f;.exact j
   .rintro rfl;rcases n with z|z;.exact a c b f z
    .rw[f]at z;cases z;exact g M
end
structure Un(fs ex:List Addr)(H H':Hp)(h h':Heap):Prop where
 keep:∀b o,h.get? b=L o->H b=Y->b∉fs->b∉ex->h'.get? b=L o
 slot:∀b o,h.get? b=L o->H b=Y->b∈fs->b∉ex->∃sl,h'.get? b=L {o with slots:=sl}free:∀b o,h.get? b=L o->H b=Y->b∉ex->H' b=Y
 there:∀b o,h.get? b=L o->b∉ex->∃o',h'.get? b=L o'
 Ŕ:∀b xs,H b=L (.t xs)->H' b=L (.t xs)ľ:∀b o u,H b=L (.î o u)->H' b=L (.î o u)ŕ:∀b ps,H b=L (.tbl ps)->∃more,H' b=L (.tbl<|ps++more)
section
variable{fs ex:List Addr}{H H1:Hp}{h h1 h':Heap}{a x e:Addr}{o:HO}
def Un.any(u:Un fs ex H H1 h h1){b ob}(q:h.get? b=L ob)(n:H b=Y)(d:b∉ex):∃sl,h1.get? b=L {ob with slots:=sl}:=by
 by_cases c:b∈fs;.exact u.slot b _ q n c d
 .exact⟨_,u.keep b _ q n c d⟩
def Un.kept(k:∀b u,h.get? b=L u->h'.get? b=L u):Un fs ex H H h h':=⟨λb ob q _ _ _=>k b ob q,λb ob q _ _ _=>⟨ob.slots,k b ob q⟩,λ_ _ _ n _=>n,λb ob q _=>⟨ob,k b ob q⟩,λ_ _ q=>q,λ_ _ _ q=>q,λ_ c q=>⟨#[],by rw[q];simp⟩⟩
def Un.refl:Un fs ex H H h h:=Un.kept λ_ _ q=>q
def Un.laid(k:∀b u,h.get? b=L u->h'.get? b=L u)(hp:h.objs.size<=a)(hn:H a=Y):Un fs ex H (upd H a o) h h' where
 keep:=λb u q _ _ _=>k b u q;slot:=λb u q _ _ _=>⟨u.slots,k b u q⟩;free:=λb u q n _=>by rw[ag (ğ<|Ē (ĉ q) hp)];exact n
 there:=λb u q _=>⟨u,k b u q⟩;Ŕ:=λb xs q=>by rw[ag (aQ q hn)];exact q
 ľ:=λb u xs q=>by rw[ag (aQ q hn)];exact q
 ŕ:=λb ps q=>⟨#[],by rw[ag (aQ q hn),q];simp⟩
def Un.write(i:Yj (H x))(p:e=x\/H e=L (.own x))(k:∀b u,b≠e->h.get? b=L u->h'.get? b=L u)(f:∃u,h'.get? e=L u):Un fs ex H (upd H x o) h h':=by
 have l:∀b,H b=Y->b≠x:=λb n z=>by subst z;rw[n]at i;exact i
 have g:∀b,H b=Y->b≠e:=λb n z=>by grind
 have d:∀b u,H b=L u->¬Yj (L u)->b≠x:=λb u q nm z=>by grind
 refine⟨λb u q n _ _=>k b u (g b n) q,λb u q n _ _=>⟨u.slots,k b u (g b n) q⟩,λb u q n _=>by rw[ag (l b n)];exact n,λb u q _=>?_,λb j q=>by rw[ag (d b _ q λz=>z)];exact q,λb u j q=>by rw[ag (d b _ q λz=>z)];exact q,λb m q=>⟨#[],by rw[ag (d b _ q λz=>z),q];simp⟩⟩;by_cases c:b=e;.subst c;exact f
 .exact⟨u,k b u c q⟩
end
noncomputable def Ye(h:Heap)(H:Hp):List Addr:=(List.range h.objs.size).filter λa=>(H a).isSome
def Tb(h:Heap)(H:Hp):Heap:=W.hideAll h<|Ye h H
def G3(h)(H):(Tb h H).objs.size=h.objs.size:=W.hideAll_size _ _
def YZ{h H b o}(e:h.get? b=L o)(n:H b=Y):(Tb h H).get? b=L o:=W.hideAll_get _ e λa=>by have q:=(List.mem_filter.mp a).2;rw[n]at q;simp at q
def UW{h H b o}(e:(Tb h H).get? b=L o):h.get? b=L o/\H b=Y:=by have a:=W.of_hideAll _ e;refine⟨a,?_⟩;cases q:H b with|none=>rfl|some x=>have z:(Tb h H).get? b=Y:=W.hideAll_none _ (List.mem_filter.mpr ⟨ŵ.mpr<|ĉ a,by grind⟩);rw[z]at e;cases e
noncomputable def oK(g h:Heap)(À:Addr):Pn:=(List.range h.objs.size).filterMap λa=>if a=À\/(g.get? a).isSome=U then Y else(h.get? a).map λo=>(a,o)
def jv{g h:Heap}{À a:Addr}{o:Obj}(c:a≠À)(d:g.get? a=Y)(b:h.get? a=L o):(a,o)∈oK g h À:=Um.mpr ⟨a,ŵ.mpr<|ĉ b,by simp[c,d,b]⟩
def oX{g h:Heap}{À:Addr}{p:Addr×Obj}(c:p∈oK g h À):p.1≠À/\g.get? p.1=Y/\h.get? p.1=L p.2:=by
 obtain⟨b,_,e⟩:=Um.mp c;split at e;.cases e
 .rename_i a;cases q:h.get? b with|none=>rw[q]at e;simp at e|some u=>rw[q]at e;simp only[Option.map_some,Wr]at e;subst e;refine⟨λz=>a<|.inl z,?_,q⟩;show g.get? b=Y;cases r:g.get? b with|none=>rfl|some v=>exact(a<|.inr<|by simp[r]).elim
def DZ{g h:Heap}{À:Addr}:News g À h (oK g h À):=λp d=>let⟨a,b,c⟩:=oX d;⟨c,a,b⟩
structure Mod(K:W.Frag)(mg:Str->Option Value)(base:Heap):Prop where
 kin:K.In base
 glob:base.Ns mainGlobals mg
 blt:∃mb,base.Ns builtinsNs mb/\∀x:Str,x≠"__name__"->mb x=bootBuiltins x
 nolimit:base.NoLimit
structure Cx where
 prog:Program
 w:World
 K:W.Frag
 mg:Str->Option Value
 base:Heap
 A:Around
 N:List Str
 Ĉ:Shared
 Ŗ:Hp
 env:Env
 outer:List Env
 stack:List Env
 ex:List Addr
 fn:Str->Bool
 calm:Bool
 pn:Pn
 xe:VS
noncomputable def œ(l:List Env):List Addr:=l.filterMap (·.frame)
abbrev Cx.fs(X:Cx):List Addr:=œ X.outer
def Fh(sc:Scope)(x:Str):Prop:=sc.names.lookup x=L .local\/sc.names.lookup x=L .cell\/sc.names.lookup x=L .free
def Loc(sc:Scope)(x:Str):Prop:=sc.names.lookup x=L .local\/sc.names.lookup x=L .cell
def Look(a:Env)(h:Heap)(m:Str->Option Value)(x:Str)(u:Value):Prop:=a.kindOf x=L .local/\m x=L u\/(a.kindOf x=L .cell\/a.kindOf x=L .free)/\∃c,a.cells.lookup x=L c/\h.IsCell c (L u)
abbrev Cx.wp(X:Cx){α:Type}(m:Sem α)(Q:α->Shared->Prop)(E:VS)(s:Shared):Prop:=wpAny (model X.prog X.w) X.A m Q E s
abbrev è(x:Str):Prop:=(x==("__debug__":Str))=O
abbrev SE(X:Cx)(e:Expr)(es:List Expr):Prop:=starEach (e::es) X.env=(O,eval e X.env)::starEach es X.env
abbrev BT(X:Cx)(p:Pos)(es:List Expr):Prop:=(backTo p<|starEach es X.env).any (·.1)=O
abbrev FL(X:Cx)(x:Str):Prop:=X.fn x=U\/X.env.scope.names.lookup x=L .local
structure Cx.Ok(X:Cx):Prop where
 mod:Mod X.K X.mg X.base
 kind:X.env.scope.kind=.function
 glob:X.env.globals=mainGlobals
 blt:X.env.builtins=builtinsNs
 above:X.Ĉ.heap.objs.size<=X.env.locals
 inj:∀x y c,X.env.cells.lookup x=L c->X.env.cells.lookup y=L c->x=y
 has:∀x,X.env.kindOf x=L .cell\/X.env.kindOf x=L .free->∃c,X.env.cells.lookup x=L c
 cab:∀x c,X.fn x=U->X.env.cells.lookup x=L c->X.Ĉ.heap.objs.size<=c
 hd:X.calm=U->X.A.handled=Y
 frames:X.A.frames=L X.stack
 stk:X.stack=X.outer\/X.stack=X.env::X.outer/\X.env.frame=L X.env.locals
 exf:∀b∈X.ex,b≠X.env.locals/\∀x c,X.env.cells.lookup x=L c->c≠b
 bs:∀b o,X.base.get? b=L o->X.Ĉ.heap.get? b=L o/\X.Ŗ b=Y
 Κ:X.base.objs.size<=X.Ĉ.heap.objs.size
 š:∀b o,X.base.get? b=L o->b∉X.ex
 Ţ:∀b∈X.ex,b∉X.fs
 su:X.Ĉ.heap.FunFrames X.base X.outer
 Ϭ:∀b∈X.fs,X.Ŗ b=Y
structure Inv(X:Cx)(Æ:Pn)(Z:List (Option V))(H:Hp)(s:Shared):Prop where
 ok:X.Ok
 os:s.os=X.Ĉ.os
 bare:AllBare s.gens
 base:Un X.fs X.ex X.Ŗ H X.Ĉ.heap s.heap
 loc:∃m,s.heap.Ns X.env.locals m/\∀(i:Nat)(x:Str)(v:V),X.N[i]?=L x->Z[i]?=L (L v)->Fh X.env.scope x->∃u,RelV v u/\Look X.env s.heap m x u
 cell:∀x c,X.env.cells.lookup x=L c->∃v,s.heap.IsCell c v
 free:H X.env.locals=Y
 ú:∀x c,X.env.cells.lookup x=L c->H c=Y
 pin:∀p∈X.pn++Æ,s.heap.get? p.1=L p.2/\H p.1=Y/\p.1≠X.env.locals/\p.1∉X.fs/\∀v,p.2.data≠.cell v
 Û:Ģ X.prog X.w H s.heap
 len:Z.length=X.N.length
section
variable{X:Cx}{Æ:Pn}{Z:List (Option V)}{H H':Hp}{s:Shared}{h':Heap}
def Cx.Ok.ZJ(ok:X.Ok){b o}(e:X.base.get? b=L o):b∉X.fs:=λa=>by have:=(ok.su.mem a).1;rw[e]at this;cases this
theorem Inv.bs(I:Inv X Æ Z H s):∀b o,X.base.get? b=L o->s.heap.get? b=L o/\H b=Y:=λb o e=>⟨I.base.keep b o (I.ok.bs b o e).1 (I.ok.bs b o e).2 (I.ok.ZJ e)<|I.ok.š b o e,I.base.free b o (I.ok.bs b o e).1 (I.ok.bs b o e).2<|I.ok.š b o e⟩
def Inv.bk(I:Inv X Æ Z H s):∀b o,X.base.get? b=L o->s.heap.get? b=L o:=λb o e=>(I.bs b o e).1
theorem Inv.mod(I:Inv X Æ Z H s):Mod X.K X.mg X.base:=I.ok.mod
def Inv.ć(I:Inv X Æ Z H s):X.K.In s.heap:=I.ok.mod.kin.keeps I.bk
theorem Inv.lt(I:Inv X Æ Z H s):X.env.locals<s.heap.objs.size:=let⟨_,a,_⟩:=I.loc;a.lt
def Inv.sz(I:Inv X Æ Z H s):X.Ĉ.heap.objs.size<=s.heap.objs.size:=ñ I.ok.above<|Nc I.lt
def Inv.AK(I:Inv X Æ Z H s){a:Addr}(h:s.heap.objs.size<=a):a∉X.fs:=λc=>by obtain⟨_,o,b,_⟩:=I.ok.su.mem c;exact absurd (Ē (ĉ b)<|ñ I.sz h)<|Jb _
def Inv.Hb(I:Inv X Æ Z H s):∀x c,X.env.cells.lookup x=L c->c≠X.env.locals:=λx c e z=>by obtain⟨v,o,f,d⟩:=I.cell x c e;obtain⟨m,⟨i,h,g,b,a,_⟩,_⟩:=I.loc;rw[z,b]at f;cases f;rw[a]at d;cases d
theorem Inv.su(I:Inv X Æ Z H s):s.heap.FunFrames X.base X.outer:=by
 have all:∀(l),(∀b∈œ l,b∈X.fs)->X.Ĉ.heap.FunFrames X.base l->s.heap.FunFrames X.base l:=by intro l;induction l with|nil=>intro _ _;trivial|cons env r ih=>intro f i;obtain⟨h,⟨À,o,a,g,k,j⟩,m⟩:=i;have c:=f À (by unfold œ;rw[Rr,a];exact ę);obtain⟨n,e⟩:=I.base.slot À o k (I.ok.Ϭ À c) c λz=>I.ok.Ţ À z c;exact⟨h,Ub À _ a g e j,ih (λb d=>f b<|by unfold œ;rw[Rr,a];exact Ħ _ d) m⟩
 exact all _ (λ_ d=>d) I.ok.su
theorem Inv.stack(I:Inv X Æ Z H s):s.heap.FunFrames X.base X.stack:=by
 rcases I.ok.stk with e|⟨e,a⟩;.rw[e];exact I.su
 .rw[e];obtain⟨m,b,_⟩:=I.loc;exact .cons (by rw[I.ok.kind];decide) a b (Qc<|ñ I.ok.Κ I.ok.above) I.su
def Inv.xI(I:Inv X Æ Z H s):∀b∈œ X.stack,b∈X.env.locals::X.fs:=λb a=>by
 rcases I.ok.stk with e|⟨e,c⟩;.rw[e]at a;exact Ħ _ a
 .rw[e]at a;unfold œ at a;rw[Rr,c]at a;exact a
def Inv.vG(I:Inv X Æ Z H s):∀b∈œ X.stack,H b=Y:=λb a=>by
 rcases Ę.mp (I.xI b a)with e|a;.rw[e];exact I.free
 .obtain⟨_,o,c,_⟩:=I.ok.su.mem a;exact I.base.free b o c (I.ok.Ϭ b a) λz=>I.ok.Ţ b z a
def Inv.Uj{g' t' d'}{ch:List Addr}(I:Inv X Æ Z H s)(h:∀b∈ch,(b∈X.ex\/X.Ĉ.heap.get? b=Y)/\b≠X.env.locals/\(∀x c,X.env.cells.lookup x=L c->c≠b)/\∀p∈X.pn++Æ,p.1≠b)(keep:∀b o,b≠X.env.locals->b∉X.fs->b∉ch->s.heap.get? b=L o->H b=Y->h'.get? b=L o)(w:∀b o,b≠X.env.locals->b∈X.fs->b∉ch->s.heap.get? b=L o->H b=Y->∃sl,h'.get? b=L {o with slots:=sl})(free:∀b o,b∉ch->s.heap.get? b=L o->H b=Y->H' b=Y)(there:∀b o,b∉ch->s.heap.get? b=L o->∃o',h'.get? b=L o')(C:∀b xs,H b=L (.t xs)->H' b=L (.t xs))(B:∀b o u,H b=L (.î o u)->H' b=L (.î o u))(G:∀b ps,H b=L (.tbl ps)->∃D,H' b=L (.tbl<|ps++D))(ns:∀m,s.heap.Ns X.env.locals m->h'.Ns X.env.locals m)(K:Ģ X.prog X.w H' h')(Â:AllBare g'):Inv X Æ Z H' {s with heap:=h',gens:=g',drawn:=d',toks:=t'}:=by
 have J:∀b o,X.Ĉ.heap.get? b=L o->b≠X.env.locals:=λb o e=>ğ<|Ē (ĉ e) I.ok.above;have j:∀b o,X.Ĉ.heap.get? b=L o->b∉X.ex->b∉ch:=λb o e a y=>by
  rcases(h b y).1 with z|z;.exact a z
  .rw[z]at e;cases e
 have g:∀x c,X.env.cells.lookup x=L c->∀v,s.heap.IsCell c v->h'.IsCell c v:=λx c e v⟨o,A,Å⟩=>by
  have f:c∉ch:=λz=>(h c z).2.2.1 x c e M;by_cases Q:c∈X.fs;.obtain⟨sl,q⟩:=w c o (I.Hb x c e) Q f A<|I.ú x c e;exact⟨_,q,Å⟩
  .exact⟨o,keep c o (I.Hb x c e) Q f A<|I.ú x c e,Å⟩
 refine⟨I.ok,I.os,Â,⟨λb o e n y a=>?_,λb o e n y a=>?_,λb o e n a=>?_,λb o e a=>?_,λb xs e=>C b xs<|I.base.Ŕ b xs e,λb o xs e=>B b o xs<|I.base.ľ b o xs e,λb ps e=>?_⟩,?_,λx c e=>?_,?_,λx c e=>?_,λp P=>?_,K,I.len⟩;.exact keep b o (J b o e) y (j b o e a) (I.base.keep b o e n y a) (I.base.free b o e n a)
 .obtain⟨sl,t⟩:=I.base.slot b o e n y a;obtain⟨N,E⟩:=w b _ (J b o e) y (j b o e a) t<|I.base.free b o e n a;exact⟨N,E⟩
 .obtain⟨o',t⟩:=I.base.there b o e a;exact free b o' (j b o e a) t<|I.base.free b o e n a
 .obtain⟨o',t⟩:=I.base.there b o e a;exact there b o' (j b o e a) t
 .obtain⟨Á,t⟩:=I.base.ŕ b ps e;obtain⟨Ä,E⟩:=G b _ t;exact⟨Á++Ä,by rw[E,Array.append_assoc]⟩
 .refine fy I.loc λm T hl=>?_;refine⟨m,ns m T,λi x v t E S=>?_⟩;obtain⟨u,r,l⟩:=hl i x v t E S;refine⟨u,r,?_⟩;rcases l with l|⟨k,c,e,z⟩;.exact .inl l
  .exact .inr ⟨k,c,e,g x c e _ z⟩
 .obtain⟨v,z⟩:=I.cell x c e;exact⟨v,g x c e v z⟩
 .obtain⟨m,⟨o,_,_,A,_⟩,_⟩:=I.loc;exact free _ o (λz=>(h _ z).2.1 M) A I.free
 .obtain⟨v,o,A,Å⟩:=I.cell x c e;exact free c o (λz=>(h c z).2.2.1 x c e M) A<|I.ú x c e
 .refine Bn (I.pin p P) λe n Ã R d=>?_;have f:p.1∉ch:=λz=>(h p.1 z).2.2.2 p P M;exact⟨keep p.1 p.2 Ã R f e n,free p.1 p.2 f e n,Ã,R,d⟩
def Inv.step{g' t' d' h' H'}{ch:List Addr}(I:Inv X Æ Z H s)(a:∀b∈ch,(b∈X.ex\/X.Ĉ.heap.objs.size<=b)/\b≠X.env.locals/\(∀x c,X.env.cells.lookup x=L c->c≠b)/\∀p∈X.pn++Æ,p.1≠b):=I.Uj (g':=g') (t':=t') (d':=d') (h':=h') (H':=H') λb d=>⟨(a b d).1.imp_right Qc,(a b d).2⟩
def Inv.un{t'}(I:Inv X Æ Z H s)(u:Un X.fs [] H H' s.heap h')(c:Ģ X.prog X.w H' h'):Inv X Æ Z H' {s with heap:=h',toks:=t'}:=by obtain⟨m,⟨o,q,l,f,r⟩,_⟩:=id I.loc;obtain⟨p,h⟩:=u.any f I.free (by simp);exact I.step (ch:=[]) (λ_ z=>nomatch z) (λb o _ d _ e n=>u.keep b o e n d<|by simp) (λb o _ d _ e n=>u.slot b o e n d<|by simp) (λb o _ e n=>u.free b o e n<|by simp) (λb o _ e=>u.there b o e<|by simp) u.Ŕ u.ľ u.ŕ (λt i=>by refine vq i λv j g a k=>?_;rw[f]at a;cases a;exact Vb _ _ _ h k) c I.bare
def Inv.call{g' t' d' ch}(I:Inv X Æ Z H s)(u:Un (œ X.stack) ch H H' s.heap h')(g:Ģ X.prog X.w H' h')(k:AllBare g')(d:∀b∈ch,(b∈X.ex\/X.Ĉ.heap.objs.size<=b)/\b≠X.env.locals/\(∀x c,X.env.cells.lookup x=L c->c≠b)/\∀p∈X.pn++Æ,p.1≠b):Inv X Æ Z H' {s with heap:=h',gens:=g',drawn:=d',toks:=t'}:=by obtain⟨m,⟨o,A,w,i,r⟩,_⟩:=id I.loc;obtain⟨y,h⟩:=u.any i I.free λz=>(d _ z).2.1 M;exact I.step d (λb o h l a e n=>u.keep b o e n (λz=>(Ę.mp<|I.xI b z).elim h l) a) (λb o _ _ a e n=>u.any e n a) (λb o a e n=>u.free b o e n a) (λb o a e=>u.there b o e a) u.Ŕ u.ľ u.ŕ (λB q=>by refine vq q λC t j f v=>?_;rw[i]at f;cases f;exact Vb _ _ _ h v) g k
def Inv.turned{t' it}(I:Inv X Æ Z H s)(k:∀b o,b≠it->s.heap.get? b=L o->h'.get? b=L o)(A:H it=Y)(f:it≠X.env.locals)(i:it∈X.ex\/X.Ĉ.heap.objs.size<=it)(y:∀x c,X.env.cells.lookup x=L c->c≠it)(t:∀p∈X.pn++Æ,p.1≠it):Inv X Æ Z H {s with heap:=h',toks:=t'}:=by
 have d:∀b u,H b=L u->b≠it:=λb u e z=>by grind
 refine I.step (g':=s.gens) (ch:=[it]) (λb j=>?_) (λb o _ _ a e _=>k b o (λz=>a<|by simp[z]) e) (λb o _ _ a e _=>⟨o.slots,k b o (λz=>a<|by simp[z]) e⟩) (λ_ _ _ _ n=>n) (λb o a e=>⟨o,k b o (λz=>a<|by simp[z]) e⟩) (λ_ _ e=>e) (λ_ _ _ e=>e) (λb B e=>⟨#[],by rw[e];simp⟩) (λm l=>?_) (λb u e=>?_) I.bare
 .have e:b=it:=by simpa using j
  subst e;exact⟨i,f,y,t⟩
 .refine vq l λo h g w r=>?_;exact Vb o h g (k _ o (ö f) w) r
 .refine(I.Û b u e).tj (λc v a q=>k c v ?_ q) (λ_ q=>q) λ_ _ q=>q;rcases a with z|z;.rw[z];exact d b u e
  .exact d c _ z
def Inv.tok(I:Inv X Æ Z H s)(t):Inv X Æ Z H {s with toks:=t}:=I.un  Un.refl I.Û
theorem Inv.kept{t'}(I:Inv X Æ Z H s)(k:∀b u,s.heap.get? b=L u->h'.get? b=L u):Inv X Æ Z H {s with heap:=h',toks:=t'}:=I.un (Un.kept k)<|I.Û.kept k
theorem Inv.laid{a:Addr}{o t'}(I:Inv X Æ Z H s)(k:∀b u,s.heap.get? b=L u->h'.get? b=L u)(c:s.heap.objs.size<=a)(new:cB X.prog X.w (upd H a o) h' a o):Inv X Æ Z (upd H a o) {s with heap:=h',toks:=t'}:=I.un (Un.laid k c<|I.Û.fresh c)<|I.Û.laid k c new
theorem Inv.write{x e o t'}(I:Inv X Æ Z H s)(c:Yj (H x))(d:e=x\/H e=L (.own x))(k:∀b u,b≠e->s.heap.get? b=L u->h'.get? b=L u)(a:∃u,h'.get? e=L u)(new:cB X.prog X.w (upd H x o) h' x o):Inv X Æ Z (upd H x o) {s with heap:=h',toks:=t'}:=I.un (Un.write c d k a)<|I.Û.write c d k a new
def Inv.ie{a}(I:Inv X Æ Z H s)(h:∀p∈a,s.heap.get? p.1=L p.2/\H p.1=Y/\p.1≠X.env.locals/\p.1∉X.fs/\∀v,p.2.data≠.cell v):Inv X a Z H s:=⟨I.ok,I.os,I.bare,I.base,I.loc,I.cell,I.free,I.ú,λp b=>(ρ.mp b).elim (λz=>I.pin p<|Ϯ _ z)<|h p,I.Û,I.len⟩
def rB{N:List Str}(hN:N.Nodup){i j:Nat}{x}(a:N[i]?=L x)(b:N[j]?=L x):i=j:=by obtain⟨e,d⟩:=Ĵ.mp a;obtain⟨f,c⟩:=Ĵ.mp b;exact(List.getElem_inj hN).mp (d.trans c.symm)
def ib{Å A E i x v u Q}(I:Inv X Æ Z H s)(hN:X.N.Nodup)(hi:X.N[i]?=L x)(w:Loc X.env.scope x)(r:RelV v u)(h:∀s',Inv X Æ (Z.set i<|some v) H s'->(∃a,Heap.SameBut a s.heap s'.heap/\(a=X.env.locals\/X.env.cells.lookup x=L a))->Q () s')(hf:FL X x:=by first|exact .inl rfl|exact .inr rfl|assumption):wpAny Å A (storeName X.env x u) Q E s:=by
 refine fy (id I.loc) λm hn hl=>?_;have S:(X.env.scope.kind==.class||X.env.scope.kind==.module&&X.env.locals !=X.env.globals)=O:=by rw[I.ok.kind];rfl
 have D:i<Z.length:=by rw[I.len];exact(Ĵ.mp hi).1
 have Hb:=I.Hb;have l:∀{a:Addr}{h':Heap},(∃o,s.heap.get? a=L o/\H a=Y)->Heap.SameBut a s.heap h'->Ģ X.prog X.w H h':=λ{a h'}ha f b ob e=>by
  obtain⟨_,_,B⟩:=ha;refine(I.Û b ob e).tj (λc Ä t q=>(f.2 c ?_).trans q) (λ_ q=>q) λ_ _ q=>q;rintro rfl;rcases t with rfl|t;.rw[B]at e;cases e
  .rw[B]at t;cases t
 rcases w with N|N
 .refine wpAny_storeName_local N hn (λh' a5 f=>?_) S;obtain⟨oL,_,_,a0,_⟩:=id hn;refine h _ ⟨I.ok,I.os,I.bare,⟨λb o e n K w=>?_,λb o e n K w=>?_,I.base.free,λb o e w=>?_,I.base.Ŕ,I.base.ľ,I.base.ŕ⟩,⟨_,a5,λj y v' g C e3=>?_⟩,λy c e=>?_,I.free,I.ú,λp hp=>?_,l ⟨oL,a0,I.free⟩ f,by simpa using I.len⟩ ⟨_,f,.inl rfl⟩;.exact(f.2 b<|ğ<|Ē (ĉ e) I.ok.above).trans (I.base.keep b o e n K w)
  .obtain⟨sl,g⟩:=I.base.slot b o e n K w;exact⟨sl,(f.2 b<|ğ<|Ē (ĉ e) I.ok.above).trans g⟩
  .obtain⟨o',g⟩:=I.base.there b o e w;exact⟨o',(f.2 b<|ğ<|Ē (ĉ e) I.ok.above).trans g⟩
  .by_cases G:j=i;.subst G;rw[hi]at g;cases g;rw[ĳ D]at C;cases C;exact⟨u,r,.inl ⟨N,by simp⟩⟩
   .rw[ą (ö G)]at C;obtain⟨u',r',q⟩:=hl j y v' g C e3;refine⟨u',r',?_⟩;rcases q with⟨k,e⟩|⟨k,c,e,z⟩;.refine .inl ⟨k,?_⟩;have:y≠x:=λe=>G<|rB hN g<|e▸hi;simp[this,e]
    .exact .inr ⟨k,c,e,z.sameBut f<|Hb y c e⟩
  .obtain⟨Ä,z⟩:=I.cell y c e;exact⟨Ä,z.sameBut f<|Hb y c e⟩
  .refine Bn (I.pin p hp) λe n Á nf d=>?_;exact⟨(f.2 p.1 Á).trans e,n,Á,nf,d⟩
 .have J:X.fn x=U:=by grind
  obtain⟨c,t⟩:=I.ok.has x<|.inl N;obtain⟨Ä,z⟩:=I.cell x c t;refine wpAny_storeName_cell I.ok.kind N t z λh' Ã f=>?_;refine fy (id z) λoc P R=>?_;refine h {s with heap:=h'} ⟨I.ok,I.os,I.bare,⟨λb o e n K w=>?_,λb o e n K w=>?_,I.base.free,λb o e w=>?_,I.base.Ŕ,I.base.ľ,I.base.ŕ⟩,⟨m,hn.sameBut f<|ö<|Hb x c t,λj y v' g C e3=>?_⟩,λy Â e=>?_,I.free,I.ú,λp hp=>?_,l ⟨oc,P,I.ú x c t⟩ f,by simpa using I.len⟩ ⟨c,f,.inr t⟩;.exact(f.2 b<|ğ<|Ē (ĉ e)<|I.ok.cab x c J t).trans (I.base.keep b o e n K w)
  .obtain⟨sl,g⟩:=I.base.slot b o e n K w;exact⟨sl,(f.2 b<|ğ<|Ē (ĉ e)<|I.ok.cab x c J t).trans g⟩
  .obtain⟨o',g⟩:=I.base.there b o e w;exact⟨o',(f.2 b<|ğ<|Ē (ĉ e)<|I.ok.cab x c J t).trans g⟩
  .by_cases G:j=i;.subst G;rw[hi]at g;cases g;rw[ĳ D]at C;cases C;exact⟨u,r,.inr ⟨.inl N,c,t,Ã⟩⟩
   .rw[ą (ö G)]at C;obtain⟨u',r',q⟩:=hl j y v' g C e3;refine⟨u',r',?_⟩;rcases q with q|⟨k,Â,e,z'⟩;.exact .inl q
    .refine .inr ⟨k,Â,e,z'.sameBut f ?_⟩;rintro rfl;exact G<|rB hN g<|I.ok.inj _ _ _ e t▸hi
  .by_cases T:Â=c;.subst T;exact⟨_,Ã⟩
   .obtain⟨w2,z2⟩:=I.cell y Â e;exact⟨w2,z2.sameBut f T⟩
  .refine Bn (I.pin p hp) λe n Á nf d=>?_;refine⟨(f.2 p.1 ?_).trans e,n,Á,nf,d⟩;intro q;rw[q,P]at e;have q':oc=p.2:=ŧ e;exact d Ä (by rw[<-q'];exact R)
def qJ{Å A E i x v u Q}(I:Inv X Æ Z H s)(hN:X.N.Nodup)(hi:X.N[i]?=L x)(c:Loc X.env.scope x)(r:RelV v u)(h:∀s',Inv X Æ (Z.set i<|some v) H s'->Q () s')(a:FL X x:=by first|exact .inl rfl|exact .inr rfl|assumption):wpAny Å A (storeName X.env x u) Q E s:=ib I hN hi c r (λs' b _=>h _ b) a
def Inv.Du{s' ch}(I:Inv X Æ Z H s)(g:s'.os=s.os)(u:Un (œ X.stack) ch H H' s.heap s'.heap)(d:Ģ X.prog X.w H' s'.heap)(f:AllBare s'.gens)(a:∀b∈ch,(b∈X.ex\/X.Ĉ.heap.objs.size<=b)/\b≠X.env.locals/\(∀x c,X.env.cells.lookup x=L c->c≠b)/\∀p∈X.pn++Æ,p.1≠b):Inv X Æ Z H' s':=by obtain⟨h',i,h,k,j⟩:=s';have e:=g;subst e;exact I.call  u d f a
end
abbrev DX:=Option Addr×Value×Value
abbrev XK:=Value->DX->Hp->Prop
abbrev St:=List<|Option V
abbrev VK:=V->Hp->Prop
abbrev TE:=St->Hp->VK->Prop
abbrev TT:=St->Hp->(Bool->Hp->Prop)->Prop
abbrev TA:=St->Hp->(List V->Hp->Prop)->Prop
structure Ends where
 nx:St->Hp->Prop
 rt:VK
 bk:St->Hp->Prop:=λ_ _=>False
 ct:St->Hp->Prop:=λ_ _=>False
abbrev TS:=Ends->St->Hp->Prop
def EP(X:Cx)(Æ:Pn)(Z:St)(Q:VK)(u:Value)(s':Shared):Prop:=∃v a,Inv X Æ Z a s'/\RelV v u/\Q v a
def TP(X:Cx)(Æ:Pn)(Z:St)(Q:Bool->Hp->Prop)(b:Bool)(s':Shared):Prop:=∃a,Inv X Æ Z a s'/\Q b a
def AP(X:Cx)(Æ:Pn)(Z:St)(Q:List V->Hp->Prop)(us:List Value)(s':Shared):Prop:=∃b a,Inv X Æ Z a s'/\Vals b us/\Q b a
def SP(X:Cx)(Æ:Pn)(D:Ends)(f:Flow)(s':Shared):Prop:=match f with|.next=>∃a b,Inv X Æ a b s'/\D.nx a b|.brk=>∃a b,Inv X Æ a b s'/\D.bk a b|.cont=>∃a b,Inv X Æ a b s'/\D.ct a b|.ret u=>∃v a b,Inv X Æ a b s'/\RelV v u/\D.rt v b
def PE(X:Cx)(e:Expr)(t:TE):Prop:=∀(a:Pn)(s:Shared)(b:St)(H:Hp)(Q:VK),Inv X a b H s->t b H Q->X.wp (eval e X.env) (EP X a b Q) X.xe s
def PT(X:Cx)(e:Expr)(t:TT):Prop:=∀(a:Pn)(s:Shared)(b:St)(H:Hp)(Q:Bool->Hp->Prop),Inv X a b H s->t b H Q->X.wp (isTrue e X.env<|eval e X.env) (TP X a b Q) X.xe s
def PW(X:Cx)(e:Expr)(t:TT):Prop:=∀(b:Sem Value)(a:Pn)(s:Shared)(c:St)(H:Hp)(Q:Bool->Hp->Prop),Inv X a c H s->t c H Q->X.wp (isTrue e X.env b) (TP X a c Q) X.xe s
def PW.pt{X e t}(h:PW X e t):PT X e t:=h _
def PA(X:Cx)(es:List Expr)(t:TA):Prop:=∀(pos:Pos)(a:Pn)(s:Shared)(b:St)(H:Hp)(Q:List V->Hp->Prop),Inv X a b H s->t b H Q->X.wp (spliced<|backTo pos<|starEach es X.env) (AP X a b Q) X.xe s
def PS(X:Cx)(st:Stmt)(t:TS):Prop:=∀(a:Pn)(s:Shared)(b:St)(H:Hp)(D:Ends),Inv X a b H s->t D b H->X.wp (exec st X.env) (SP X a D) X.xe s
def ã(X:Cx)(st:List Stmt)(t:TS):Prop:=∀(a:Pn)(s:Shared)(b:St)(H:Hp)(D:Ends),Inv X a b H s->t D b H->X.wp (execs st X.env) (SP X a D) X.xe s
def ß{α t}{Q b:α->Shared->Prop}{Å A E s}(h:wpAny Å A t Q E s)(c:∀a s,Q a s->b a s):wpAny Å A t b E s:=Ĝ h c λ_ _ x=>x
section
variable{X:Cx}
def bin{a b:Expr}{ta tb:TE}(n:PE X a ta)(q:PE X b tb){Æ:Pn}{s:Shared}{Z:St}{H:Hp}{R:V->V->Hp->Prop}(I:Inv X Æ Z H s)(h:ta Z H λx i=>tb Z i λy c=>R x y c){α:Type}{Q:α->Shared->Prop}{f:Value->Value->Sem α}(k:∀v u g x y c,Inv X Æ Z c g->RelV x v->RelV y u->R x y c->X.wp (f v u) Q X.xe g):X.wp (eval a X.env) (λv e=>X.wp (eval b X.env) (λu d=>X.wp (f v u) Q X.xe d) X.xe e) X.xe s:=by refine ß (n Æ s Z H _ I h) λv j⟨x,i,p,r,o⟩=>?_;refine ß (q Æ j Z i _ p o) λu g⟨y,c,m,r2,l⟩=>?_;exact k v u g x y c m r r2 l
def ee(i:Nat):TE:=λa H Q=>∃v,a[i]?=L (L v)/\Q v H
def tC(v:V):TE:=λ_ H Q=>Q v H
def pV{i x pos}(hN:X.N[i]?=L x)(q:Fh X.env.scope x)(f:è x:=by decide)(d:(x=="__classdict__")=O:=by decide):PE X (.Name x pos) (ee i):=by
 intro g s n H Q I h;refine fy h λv e h=>?_;refine fy I.loc λm k o=>?_;obtain⟨u,r,l⟩:=o i x v hN e q;have fin:EP X _ n Q u s:=⟨v,H,I,r,h⟩;rcases l with⟨b,p⟩|⟨b,c,j,a⟩;.exact Hl (Pq I.ok.kind b k p fin) f
 .rcases b with b|b;.exact Hl (wpAny_loadName_cell I.ok.kind b j a fin) f
  .exact Hl (wpAny_loadName_free I.ok.kind b j a fin d) f
def ID{i j pos}:PE X (.Constant (.int i) j pos) (tC<|.int i):=λ_ _ _ H _ I h=>wpAny_Constant_int ⟨.int i,H,I.tok _,⟨_,M⟩,h⟩
def SN{b j pos}:PE X (.Constant (.bool b) j pos) (tC<|.B b):=λ_ _ _ H _ I h=>Constant_bool ⟨.B b,H,I,M,h⟩
def YS{j pos}:PE X (.Constant .none j pos) (tC .n):=λ_ _ _ H _ I h=>Constant_none ⟨.n,H,I,M,h⟩
def i5{x j pos}:PE X (.Constant (.str x) j pos) (tC<|.str x):=λ_ _ _ H _ I h=>Calls.Constant_str ⟨.str x,H,I.tok _,⟨_,M⟩,h⟩
def Gl(X:Cx)(x:Str):Prop:=X.env.kindOf x=L .globalImplicit
def bV{E Æ s}{Z:St}{H x u pos Q}(I:Inv X Æ Z H s)(a:Gl X x)(b:X.mg x=L u)(h:Q u s)(c:è x:=by decide):X.wp (eval (.Name x pos) X.env) Q E s:=Wx I.ok.kind a (Calls.loadGlobal_global (by rw[I.ok.glob];exact I.mod.glob.keeps I.bk) b h) c
def lT{E Æ s}{Z:St}{H x u pos Q}(I:Inv X Æ Z H s)(b:Gl X x)(d:X.mg x=Y)(e:bootBuiltins x=L u)(h:Q u s)(a:x≠"__name__":=by decide)(f:è x:=by decide):X.wp (eval (.Name x pos) X.env) Q E s:=by obtain⟨i,c,g⟩:=I.mod.blt;exact Wx I.ok.kind b (Calls.loadGlobal_builtin (by rw[I.ok.glob];exact I.mod.glob.keeps I.bk) d (by rw[I.ok.blt];exact c.keeps I.bk) ((g x a).trans e) h) f
def vO{x v u pos}(a:Gl X x)(b:X.mg x=L u)(r:RelV v u)(c:è x:=by decide):PE X (.Name x pos) (tC v):=λ_ _ _ H _ I h=>bV I a b ⟨v,H,I,r,h⟩ c
def OV{x v u pos}(a:Gl X x)(c:X.mg x=Y)(b:bootBuiltins x=L u)(r:RelV v u)(e:x≠"__name__":=by decide)(d:è x:=by decide):PE X (.Name x pos) (tC v):=λ_ _ _ H _ I h=>lT I a c b ⟨v,H,I,r,h⟩ e d
def WI(ta tb:TE)(k:Int->Int->Hp->Prop):St->Hp->Prop:=λa H=>ta a H λx c=>tb a c λy b=>∃i j,x=.int i/\y=.int j/\k i j b
def JK(ta tb:TE):TE:=λa H Q=>WI ta tb (λi j b=>Q (.int<|i+j) b) a H
variable{a b:Expr}{ta tb:TE}{pos:Pos}
def US(g:PE X a ta)(l:PE X b tb):PE X (.BinOp a .Add b pos) (JK ta tb):=by intro c s m H Q I h;refine wpAny_BinOp (bin g l I h λv u n x y k f e d q=>?_);obtain⟨i,j,rfl,rfl,q⟩:=q;obtain⟨t,rfl⟩:=e;obtain⟨o,rfl⟩:=d;exact add_int ⟨.int _,k,f.tok _,⟨_,M⟩,q⟩
def PC(X:Cx)(op:CmpOp)(a b:Expr)(t:TE):Prop:=∀(c:Pn)(s:Shared)(f:St)(H:Hp)(Q:VK),Inv X c f H s->t f H Q->X.wp (eval a X.env) (λv d=>X.wp (eval b X.env) (λu e=>X.wp (compareOp op v u) (EP X c f Q) X.xe e) X.xe d) X.xe s
def EZ(b:Expr){op:CmpOp}(h:op≠.In)(e:op≠.NotIn):behindInMarks op b=O:=by
 have d:(op==CmpOp.In)=O:=by cases op<;>first|rfl|exact absurd M h
 have c:(op==CmpOp.NotIn)=O:=by cases op<;>first|rfl|exact absurd M e
 cases b<;>first|rfl|(show(_&&(_||_)&&_)=O;simp[d,c])
def tB(t:TE):TT:=λd H Q=>t d H λx e=>∃c,x=.B c/\Q c e
def NR{e t}(h:PE X e t)(j:∀c,isTrue e X.env c=(do let v <-c;standAt e.pos;holding [v] (truthy v)):=by intro _;rfl):PT X e (tB t):=by intro f s g H Q I hw;refine isTrue_plain (ß (h _ s g H _ I hw) λv n⟨x,m,k,l,i⟩=>?_)<|j _;obtain⟨d,rfl,q⟩:=i;cases l;exact Mb ⟨m,k,q⟩
variable{tA tB':TT}{Ò:List Expr}
def vF(t u:TT):TT:=λd H Q=>t d H λc e=>if c=U then u d e Q else Q O e
def Ε(t u:TT):TT:=λd H Q=>t d H λc e=>if c=U then Q U e else u d e Q
def pP(t:TT):TT:=λd H Q=>t d H λc e=>Q (!c) e
def AW(f:PT X a tA):PW X (.BoolOp .And [a] pos) tA:=by intro j d s g H Q I h;refine isTrue_and (ß (f _ s g H Q I h) λc i e=>?_);cases c with|true=>exact isTrue_and_nil e|false=>exact e
def PR(f:PT X a tA):PW X (.BoolOp .Or [a] pos) tA:=by intro j d s g H Q I h;refine isTrue_or (ß (f _ s g H Q I h) λc i e=>?_);cases c with|false=>exact isTrue_or_nil e|true=>exact e
def OR(i:PT X a tA)(j:PW X (.BoolOp .And (b::Ò) pos) tB'):PW X (.BoolOp .And (a::b::Ò) pos) (vF tA tB'):=by intro m e s f H Q I h;refine isTrue_and (ß (i _ s f H _ I h) λc l⟨k,d,g⟩=>?_);cases c with|true=>exact j _ _ _ f _ Q d g|false=>exact⟨k,d,g⟩
def WN(i:PT X a tA)(j:PW X (.BoolOp .Or (b::Ò) pos) tB'):PW X (.BoolOp .Or (a::b::Ò) pos) (Ε tA tB'):=by intro m e s f H Q I h;refine isTrue_or (ß (i _ s f H _ I h) λc l⟨k,d,g⟩=>?_);cases c with|true=>exact⟨k,d,g⟩|false=>exact j _ _ _ f _ Q d g
def MR(e:PT X a tA):PT X (.UnaryOp .Not a pos) (pP tA):=by intro c s d H Q I h;exact isTrue_not<|e _ s d H _ I h
def UO(ta tb:TE):TE:=λd H Q=>ta d H λx e=>∃c,x=.B c/\if c=U then tb d e Q else Q (.B O) e
def WO(ta:TE):TE:=λd H Q=>ta d H λx e=>∃c,x=.B c/\Q (.B !c) e
def DR{op t}(h:PE X a t):PE X (.BoolOp op [a] pos) t:=λc s d H Q I hw=>BoolOp_one<|h _ s d H Q I hw
def XS(i:PE X a ta)(j:PE X (.BoolOp .And (b::Ò) pos) tb):PE X (.BoolOp .And (a::b::Ò) pos) (UO ta tb):=by intro e s f H Q I h;refine BoolOp_and (ß (i _ s f H _ I h) λv m⟨x,l,g,k,d⟩=>?_);obtain⟨c,rfl,d⟩:=d;cases k;refine Mb ?_;cases c with|true=>exact j _ _ f _ Q g d|false=>exact⟨.B _,l,g,M,d⟩
def ZS(g:PE X a ta):PE X (.UnaryOp .Not a pos) (WO ta):=by intro e s f H Q I h;refine UnaryOp_ (ß (g _ s f H _ I h) λv l⟨x,k,i,j,d⟩=>?_);obtain⟨c,rfl,d⟩:=d;cases j;exact not_of<|Mb ⟨.B _,k,i,M,d⟩
def VI(t:TT)(ta tb:TE):TE:=λd H Q=>t d H λc e=>if c=U then ta d e Q else tb d e Q
def MZ{c}(l:PT X c tA)(j:PE X a ta)(k:PE X b tb):PE X (.IfExp c a b pos) (VI tA ta tb):=by intro g s e H Q I h;refine wpAny_IfExp (ß (l _ s e H _ I h) λd m⟨n,f,i⟩=>?_);cases d with|true=>exact j _ _ e _ Q f i|false=>exact k _ _ e _ Q f i
end
def ÿ(K:W.Frag)(H:Hp)(a:Addr)(xs:List V):Prop:=Rd H a (.l xs)\/∃(o:Obj)(b:Array Value)(n:Nat),K.lookup a=L o/\o.cls=.type "list"/\o.dict=Y/\o.data=.seq b n/\b.size<=sizeLine/\Vals xs b.toList
def ü(K:W.Frag)(H:Hp)(a:Addr)(xs:List V):Prop:=Rd H a (.t xs)\/∃(o:Obj)(b:Array Value)(n:Nat),K.lookup a=L o/\o.cls=.type "tuple"/\o.data=.seq b n/\b.size<=sizeLine/\Vals xs b.toList
noncomputable def TK:Value->Option V|.none=>L .n|.bool b=>L<|.B b|.int i _=>L<|.int i|.str x _=>L<|.str x|.bytes b _=>L<|.Ι b|.float b _=>L<|.flt b|.ref a=>L<|.ref a|.type n=>L<|.ty n|_=>Y
def RelV.abs{x u}(r:RelV x u):TK u=L x:=by cases x with|n|B _=>cases r;rfl|int _|str _|Ι _|flt _=>obtain⟨t,rfl⟩:=r;rfl|ref _|ty _=>cases r;rfl
def RelV.inj{x y u}(r:RelV x u)(q:RelV y u):x=y:=ŧ<|r.abs.symm.trans q.abs
theorem Vals.inj:∀{xs ys us},Vals xs us->Vals ys us->xs=ys|_,_,_,.nil,.nil=>rfl|_,_,_,.cons r t,.cons r' t'=>by rw[r.inj r',Vals.inj t t']
section
variable{X:Cx}{Æ:Pn}{Z:St}{H:Hp}{s:Shared}{a:Addr}{xs ys:List V}
def ÿ.of{K}(h:H a=L (.l xs)):ÿ K H a xs:=.inl<|.inl h
def ü.of{K}(h:H a=L (.t xs)):ü K H a xs:=.inl<|.inl h
def Inv.list(I:Inv X Æ Z H s)(h:ÿ X.K H a xs):∃È,Vals xs È/\PlainL s.heap a È.toArray/\xs.length<=sizeLine:=by
 rcases h with h|⟨o,È,n,d,c,b,g,f,r⟩;.obtain⟨z,È,n,r,e⟩:=h.ok I.Û;exact⟨_,r,Ub _ n e M M M,z⟩
 .refine⟨_,r,Ub o n (I.ć a o d) c b (by omega),?_⟩;have e:=r.length;simp  at e;omega
def Inv.tuple(I:Inv X Æ Z H s)(h:ü X.K H a xs):∃È,Vals xs È/\IsTup s.heap a È.toArray/\xs.length<=sizeLine:=by
 rcases h with h|⟨o,È,n,c,b,f,d,r⟩;.obtain⟨z,È,r,p⟩:=h.ok I.Û;exact⟨_,r,p,z⟩
 .refine⟨_,r,⟨o,I.ć a o c,b,n,by omega⟩,?_⟩;have e:=r.length;simp  at e;omega
def Inv.yn(I:Inv X Æ Z H s)(h:ÿ X.K H a xs)(h':ÿ X.K H a ys):xs=ys:=by
 obtain⟨c,r,⟨o,n,e,_,_,d⟩,_⟩:=I.list h;obtain⟨b,f,⟨k,j,g,_,_,i⟩,_⟩:=I.list h';have:c=b:=by grind
 subst this;exact r.inj f
def Inv.sO(I:Inv X Æ Z H s)(h:ü X.K H a xs)(h':ü X.K H a ys):xs=ys:=by
 obtain⟨c,r,⟨o,e,_,n,d⟩,_⟩:=I.tuple h;obtain⟨b,f,⟨k,g,_,j,i⟩,_⟩:=I.tuple h';have:c=b:=by grind
 subst this;exact r.inj f
end
abbrev Cx.pF(X:Cx)(E:VS):Cx:={X with xe:=E}
abbrev Cx.Ga(X:Cx):Cx:=X.pF λ_ _=>False
theorem Cx.Ok.pF{X:Cx}(ok:X.Ok)(E):(X.pF E).Ok:=⟨ok.mod,ok.kind,ok.glob,ok.blt,ok.above,ok.inj,ok.has,ok.cab,ok.hd,ok.frames,ok.stk,ok.exf,ok.bs,ok.Κ,ok.š,ok.Ţ,ok.su,ok.Ϭ⟩
def Cx.Ok.pG{X:Cx}{E}(ok:(X.pF E).Ok):X.Ok:=⟨ok.mod,ok.kind,ok.glob,ok.blt,ok.above,ok.inj,ok.has,ok.cab,ok.hd,ok.frames,ok.stk,ok.exf,ok.bs,ok.Κ,ok.š,ok.Ţ,ok.su,ok.Ϭ⟩
section
variable{X:Cx}{Æ:Pn}{Z:St}{H:Hp}{s:Shared}{E:VS}
theorem Inv.pF(I:Inv X Æ Z H s)(E):Inv (X.pF E) Æ Z H s:=⟨I.ok.pF E,I.os,I.bare,I.base,I.loc,I.cell,I.free,I.ú,I.pin,I.Û,I.len⟩
theorem Inv.pG(I:Inv (X.pF E) Æ Z H s):Inv X Æ Z H s:=⟨I.ok.pG,I.os,I.bare,I.base,I.loc,I.cell,I.free,I.ú,I.pin,I.Û,I.len⟩
theorem SP.pG{D f s'}(h:SP (X.pF E) Æ D f s'):SP X Æ D f s':=by cases f with|next|brk|cont=>obtain⟨a,b,I,q⟩:=h;exact⟨_,b,I.pG,q⟩|ret u=>refine xh h λv a b I r q=>?_;exact⟨v,_,b,I.pG,r,q⟩
theorem ã.Ga{st t}(h:ã X.Ga st t):ã X st t:=λÆ s Z H D I hw=>Ĝ (h _ s Z H D (I.pF _) hw) (λ_ _ q=>q.pG) λ_ _ z=>False.elim z
end
section
variable{X:Cx}{st:Stmt}{Ò:List Stmt}{t u:TS}{e:Expr}{te:TE}{pos:Pos}
def VO:TS:=λD a H=>D.nx a H
def Oe(t u:TS):TS:=λD a H=>t {D with nx:=u D} a H
def WV:ã X [] VO:=λ_ _ a H _ I h=>Tf ⟨a,H,I,h⟩
def bx(d:PS X st t)(g:ã X Ò u):ã X (st::Ò) (Oe t u):=by intro a s i H D I h;refine Cq (ß (d _ s i H _ I h) λf j q=>?_);cases f with|next=>obtain⟨b,k,c,q⟩:=q;exact g _ _ _ _ D c q|ret v=>exact q|brk=>exact q|cont=>exact q
def cZ(b:PS X st t):ã X [st] t:=by intro a s c H D I h;refine Cq (ß (b _ s c H D I h) λf d q=>?_);cases f with|next=>exact Tf q|ret v|brk|cont=>exact q
def Inv.quiet{Æ}{Z:St}{H s}(I:Inv X Æ Z H s):interactive X.env=O:=by simp[interactive,I.ok.kind]
def sZ(te:TE):TS:=λD a H=>te a H λ_ b=>D.nx a b
def dc(d:PE X e te)(hs:swapsWith e Y pos.line X.env=pure O:=by rfl):PS X (.Expr e pos) (sZ te):=by intro a s b H D I h;exact wpAny_Expr_any (ß (d _ s b H _ I h) λv i⟨x,f,c,j,g⟩=>⟨b,f,c,g⟩) I.quiet hs
def Lz(te:TE):TS:=λD a H=>te a H D.rt
def xU(f:PE X e te):PS X (.Return (L e) pos) (Lz te):=by intro a s b H D I h;exact wpAny_Return_some (ß (f _ s b H _ I h) λv j⟨x,g,c,d,i⟩=>⟨x,b,g,c,d,i⟩)
def MK(c:TT)(t u:TS):TS:=λD a H=>c a H λb d=>if b=U then t D a d else u D a d
def IA{c a b i}(n:PT X c i)(l:ã X a t)(m:ã X b u):PS X (.If c a b pos) (MK i t u):=by intro g s f H D I h;refine wpAny_If (ß (n _ s f H _ I h) λd o⟨p,k,j⟩=>?_);cases d with|true=>exact l _ _ f _ D k j|false=>exact m _ _ f _ D k j
end
abbrev TG:=V->St->Hp->(St->Hp->Prop)->Prop
abbrev Gh:=List V->St->Hp->(St->Hp->Prop)->Prop
def PG(X:Cx)(a:Expr)(t:TG):Prop:=∀(b:Pn)(s:Shared)(e:St)(H:Hp)(v:V)(u:Value)(Q:St->Hp->Prop),Inv X b e H s->RelV v u->t v e H Q->X.wp (assign a X.env u) (λ_ f=>∃c d,Inv X b c d f/\Q c d) X.xe s
def Ρ(X:Cx)(ts:List Expr)(t:Gh):Prop:=∀(a:Pn)(s:Shared)(d:St)(H:Hp)(f:List V)(e:List Value)(Q:St->Hp->Prop),Inv X a d H s->Vals f e->t f d H Q->X.wp (assignInOrder ((assignEach ts X.env).map (·.2)) e) (λ_ g=>∃b c,Inv X a b c g/\Q b c) X.xe s
abbrev Ks:=V->V->V->Hp->(Hp->Prop)->Prop
def Ny(X:Cx)(t:Ks):Prop:=∀(a:Pn)(s:Shared)(d:St)(H:Hp)(o i v:V)(b e u:Value)(Q:Hp->Prop),Inv X a d H s->RelV o b->RelV i e->RelV v u->t o i v H Q->X.wp (setItem b e u) (λ_ f=>∃c,Inv X a d c f/\Q c) X.xe s
abbrev Gw:=V->V->Hp->VK->Prop
def Hw(X:Cx)(op:Operator)(t:Gw):Prop:=∀(a:Pn)(s:Shared)(b:St)(H:Hp)(x y:V)(v u:Value)(Q:VK),Inv X a b H s->RelV x v->RelV y u->t x y H Q->X.wp (inplaceOp op v u) (EP X a b Q) X.xe s
section
variable{X:Cx}{pos:Pos}
def ax(i:Nat):TG:=λv a H Q=>Q (a.set i<|some v) H
def qV{i x}(hN:X.N.Nodup)(hi:X.N[i]?=L x)(d:Loc X.env.scope x)(b:FL X x:=by first|exact .inl rfl|exact .inr rfl|assumption):PG X (.Name x pos) (ax i):=by intro a s f H v u Q I r h;exact Vr (qJ I hN hi d r (λe c=>⟨_,H,c,h⟩) b)
def vo:Gh:=λa b H Q=>a=[]/\Q b H
def di(t:TG)(u:Gh):Gh:=λd c H Q=>∃v r,d=v::r/\t v c H λa b=>u r a b Q
def RV:Ρ X [] vo:=by intro a s b H d c Q I r h;obtain⟨e,h⟩:=h;exact assignInOrder_nil ⟨b,H,I,h⟩
def OZ{e es t u}(f:PG X e t)(g:Ρ X es u)(hs:(assignEach (e::es) X.env).map (·.2)=assign e X.env::(assignEach es X.env).map (·.2):=by rfl):Ρ X (e::es) (di t u):=by intro a s b H m l Q I r h;obtain⟨v,k,i,h⟩:=h;subst i;cases r with|cons r rr=>rw[hs];exact assignInOrder_cons (ß (f _ s b H _ _ _ I r h) λ_ j⟨_,n,d,c⟩=>g _ _ _ _ _ _ Q d rr c)
def vn(K:W.Frag)(n:Nat)(t:Gh):TG:=λv c H Q=>∃a b,v=.ref a/\ü K H a b/\b.length=n/\t b c H Q
def HR{es k t n}(x:X.calm=U)(h:Ρ X es t)(f:(assignEach es X.env).length=n:=by rfl)(c:(assignEach es X.env).findIdx? (·.1)=Y:=by rfl):PG X (.Tuple es k pos) (vn X.K n t):=by intro d s j H v u Q I r hw;obtain⟨a,z,y,q,p,hw⟩:=hw;subst y;cases r;refine iQ (I.tuple q) λl g w A=>?_;refine assign_Tuple_tuple (I.ok.hd x) w (by simp[f,<-p,g.length]) c λB i=>?_;have m:=I.kept (t':=s.toks) λb o e=>i b o (ğ<|ĉ e) e;exact h _ _ j H _ _ Q m (by grind) hw
def ϱ(c d:TE)(t:Ks):TG:=λv a H Q=>c a H λo f=>d a f λi e=>t o i v e λb=>Q a b
def GR{o i:Expr}{e f:TE}{t:Ks}(m:PE X o e)(hi:PE X i f)(hs:Ny X t)(z:∀v,assign (.Subscript o i pos) X.env v=(do
  let b <-holding [v] (eval o X.env)let c <-holding [v,b] (eval i X.env)standAt pos
  holding [v,b,c] (setItem b c v)release [v,b,c] []):=by intro _;rfl):PG X (.Subscript o i pos) (ϱ e f t):=by intro a s d H v u Q I r h;rw[z];refine Í (π<|ß (m a s d H _ I h) λb g⟨x,D,k,C,A⟩=>?_);refine Í (π<|ß (hi a g d D _ k A) λc q⟨y,j,w,r2,n⟩=>?_);refine Í (Oa<|Í<|π<|ß (hs a q d j x y v b c u _ w C r2 r n) λ_ E⟨B,l,p⟩=>?_);exact wpAny_release ⟨d,B,l,p⟩
def Lg(b:TE)(g:TG):TS:=λD a H=>b a H λx c=>g x a c D.nx
def LR{a e d g}(i:PE X e d)(k:PG X a g)(hs:swapsWithSole [a] e pos.line X.env=pure O:=by rfl)(hw:swappedStores [a] e X.env=pure Y:=by rfl)(l:(assignEach [a] X.env).map (·.2)=[assign a X.env]:=by rfl):PS X (.Assign [a] e pos) (Lg d g):=by intro b s c H D I h;refine wpAny_Assign_stores (ß (i _ s c H _ I h) λv n⟨x,p,j,m,f⟩=>?_) hs hw;rw[l];exact ß (k _ _ c _ x v _ j m f) λ_ o q=>q
def pT{i x e c a}(hN:X.N.Nodup)(hi:X.N[i]?=L x)(f:Loc X.env.scope x)(l:PE X e c)(hs:swapsWith e (L<|.Name x a) pos.line X.env=pure O:=by rfl)(d:FL X x:=by first|exact .inl rfl|exact .inr rfl|assumption):PS X (.Assign [.Name x a] e pos) (Lg c<|ax i):=by intro b s g H D I h;exact wpAny_Assign_Name (ß (l _ s g H _ I h) λv p⟨y,o,m,n,k⟩=>qJ m hN hi f n (λq j=>⟨_,o,j,k⟩) d) hs
def LK(i:Nat)(d:TE)(b:Gw):TS:=λD a H=>∃x,a[i]?=L (L x)/\d a H λy e=>b x y e λz c=>D.nx (a.set i<|some z) c
def LD{i x e q op t f}(hN:X.N.Nodup)(hi:X.N[i]?=L x)(o:Loc X.env.scope x)(Q:PE X e q)(Å:Hw X op t)(B:FL X x:=by first|exact .inl rfl|exact .inr rfl|assumption):PS X (.AugAssign (.Name x f) op e pos) (LK i q t):=by
 intro a s p H D I h;refine fy h λv Â h=>?_;refine fy I.loc λm C R=>?_;have n:Fh X.env.scope x:=by rcases o with k|k;exact .inl k;exact .inr<|.inl k
 refine fy (R i x v hi Â n) λu r l=>?_;refine wpAny_AugAssign_Name ?_;have go:X.wp (eval e X.env) (λw g=>X.wp (inplaceOp op u w) (λr j=>X.wp (storeName X.env x r) (λ_=>SP X a D .next) X.xe j) X.xe g) X.xe s:=by refine ß (Q a s p H _ I h) λw A⟨y,Á,G,T,P⟩=>?_;exact ß (Å a A p Á v y u w _ G r T P) λz s2⟨zv,E,Ã,r2,N⟩=>qJ Ã hN hi o r2 (λÄ K=>⟨_,E,K,N⟩) B
 rcases l with⟨b,J⟩|⟨b,c,S,d⟩;.exact Pq I.ok.kind b C J go
 .rcases b with b|b;.exact wpAny_loadName_cell I.ok.kind b S d go
  .rcases o with k|k;.have:X.env.scope.names.lookup x=L .free:=b;rw[k]at this;cases this
   .have:X.env.scope.names.lookup x=L .free:=b;rw[k]at this;cases this
def Xw(f:Int->Int->Int):Gw:=λx y H Q=>∃i j,x=.int i/\y=.int j/\Q (.int<|f i j) H
def UQ:Hw X .Add (Xw λi j=>i+j):=by intro a s e H x y v u Q I c r2 h;refine kr h λi j d b q=>?_;subst d;subst b;obtain⟨t,rfl⟩:=c;obtain⟨f,rfl⟩:=r2;exact iadd_int<|hU (.int _) H (I.tok _) ⟨_,M⟩ q
def VQ:Hw X .Sub (Xw λi j=>i-j):=by intro a s e H x y v u Q I c r2 h;obtain⟨i,j,d,b,q⟩:=h;subst d;subst b;obtain⟨t,rfl⟩:=c;obtain⟨f,rfl⟩:=r2;exact isub_int ⟨.int _,H,I.tok _,⟨_,M⟩,q⟩
end
section
variable{X:Cx}{pos:Pos}
def NU(c:TT)(tb:TS):TS:=λD a H=>∃W:Nat->St->Hp->Prop,(∃m,W m a H)/\∀m a H,W m a H->c a H λb g=>if b=U then∃N:St->Hp->Prop,(∀d e,N d e->∃f,f<m/\W f d e)/\tb {D with nx:=N,ct:=N,bk:=D.nx} a g else D.nx a g
def Q2{c e t tb}(y:PassesOwn (model X.prog X.w) X.A X.env X.xe)(P:PT X c t)(Ã:ã X e tb):PS X (.While c e [] pos) (NU t tb):=by intro w s C H D I h;obtain⟨W,⟨Å,K⟩,turn⟩:=h;refine wpAny_While (codeAny_whileLoop (λn J=>∃g z,Inv X _ g z J/\W n g z) ?_ Å ⟨C,H,I,K⟩);rintro n B⟨d,A,E,w1⟩;refine Vd y (ß (P _ B d A _ E<|turn n d A w1) λb G⟨u,x,j⟩=>?_);cases b with
|true=>refine fy j λN r j=>?_;refine Vd y (ß (Ã _ G d u _ x j) λf Q k=>?_);cases f with|next=>obtain⟨a,i,p,l⟩:=k;obtain⟨q,o,m⟩:=r a i l;exact⟨q,o,a,i,p,m⟩|cont=>obtain⟨a,i,p,l⟩:=k;obtain⟨q,o,m⟩:=r a i l;exact⟨q,o,a,i,p,m⟩|brk=>exact k|ret v=>exact k
|false=>exact Tf ⟨d,u,x,j⟩
end
structure It where
 go:Nat->Hp->Prop
 yld:Nat->Hp->V->Hp->Prop
 stop:Nat->Hp->Prop
def yW(X:Cx)(Æ:Pn)(H:Hp)(b:Addr):Prop:=H b=Y/\b≠X.env.locals/\b∉X.fs/\(b∈X.ex\/X.Ĉ.heap.objs.size<=b)/\(∀x c,X.env.cells.lookup x=L c->c≠b)/\∀p∈X.pn++Æ,p.1≠b
def Inv.Cg{X:Cx}{Æ:Pn}{Z:St}{H H':Hp}{s:Shared}{b:Addr}(I:Inv X Æ Z H s)(a:s.heap.objs.size<=b)(d:H' b=Y):yW X Æ H' b:=by
 refine⟨d,Ŵ<|Ē I.lt a,I.AK a,.inr<|ñ I.sz a,λx c e z=>?_,λp f z=>?_⟩;.obtain⟨v,q⟩:=I.cell x c e;exact absurd (Ē q.lt<|by rw[z];exact a)<|Jb _
 .exact absurd (Ē (ĉ (I.pin p f).1)<|by rw[z];exact a) (Jb _)
structure Turn(P:Program)(w:World)(K:W.Frag)(tg:Expr)(J:It)(fp:List Addr)(it:Addr)(tn:Nat->Heap->Prop)(cl:Cx->Hp->Prop:=λX _=>X.calm=U):Prop where
 mem:it∈fp
 obj:∀i h,tn i h->∀b∈fp,∃o,h.get? b=L o/\∀v,o.data≠.cell v
 keep:∀i h h',tn i h->(∀b∈fp,∀o,h.get? b=L o->h'.get? b=L o)->tn i h'
 item:∀(X:Cx),X.prog=P->X.w=w->X.K=K->∀(i:Nat)(Æ:Pn)(s:Shared)(Z:St)(H:Hp)(E:VS),cl X H->Inv X Æ Z H s->(∀b∈fp,yW X Æ H b)->tn i s.heap->J.go i H->wpAny (model P w) X.A (pyNext<|.ref it) (λr s1=>∃u,r=L u/\wpAny (model P w) X.A (letOwnedTupleGo tg (.ref it) u) (λ_ s2=>∃x H',Inv X Æ Z H' s2/\RelV x u/\J.yld i H x H'/\tn (i+1) s2.heap/\∀b∈fp,H' b=Y) E s1) E s
 done:∀(X:Cx),X.prog=P->X.w=w->X.K=K->∀(i:Nat)(Æ:Pn)(s:Shared)(Z:St)(H:Hp)(E:VS),cl X H->Inv X Æ Z H s->(∀b∈fp,yW X Æ H b)->tn i s.heap->J.stop i H->wpAny (model P w) X.A (pyNext<|.ref it) (λr s1=>r=Y/\Inv X Æ Z H s1) E s
 self:∀(A:Around)(i:Nat)(s:Shared)(Q:VS)(E:VS),tn i s.heap->Q (.ref it) s->wpAny (model P w) A (pyIter<|.ref it) Q E s
abbrev TI:=St->Hp->(It->Hp->Prop)->Prop
def Po(X:Cx)(Æ:Pn)(Z:St)(h:Expr)(R:It->Hp->Prop)(c:Value)(e:Shared):Prop:=∃(f:Addr)(g:List Addr)(d:Nat->Heap->Prop)(J:It)(a:Hp),c=.ref f/\Inv X Æ Z a e/\Turn X.prog X.w X.K h J g f d/\d 0 e.heap/\(∀b∈g,yW X Æ a b)/\R J a
def PI(X:Cx)(e b:Expr)(wi:TI):Prop:=∀(a:Pn)(s:Shared)(c:St)(H:Hp)(R:It->Hp->Prop),Inv X a c H s->wi c H R->X.wp (eval b X.env) (λv d=>X.wp (pyIter v) (Po X a c e R) X.xe d) X.xe s
def z5{Å A E s b it u o n vs Q}(e:s.heap.get? it=L o)(d:o.cls=.type n)(c:o.data=.fields vs)(f:["enumerate","zip","dict_itemiterator","dict_reverseitemiterator","odict_iterator","itertools.zip_longest","itertools.pairwise"].contains n=O)(a:Q () s):wpAny Å A (letOwnedTupleGo b (.ref it) u) Q E s:=by cases b<;>first|exact ì a|(cases u<;>first|exact ì a| (refine Í<|wpAny_load e ?_;rw[d,c];show wpAny Å A (if(["enumerate","zip","dict_itemiterator","dict_reverseitemiterator","odict_iterator","itertools.zip_longest","itertools.pairwise"].contains n&&vs[0]?==L (rawInt _))=U then _ else _) Q E s;rw[Õ (by grind)];exact ì a))
noncomputable def Ro(K:W.Frag)(a:Addr):It:=⟨λi H=>∃b x,ÿ K H a b/\b[i]?=L x,λi H x c=>c=H/\∀b,ÿ K H a b->b[i]?=L x,λi H=>∃b,ÿ K H a b/\b.length<=i⟩
noncomputable def Qo(K:W.Frag)(a:Addr):It:=⟨λi H=>∃b x,ü K H a b/\b[i]?=L x,λi H x c=>c=H/\∀b,ü K H a b->b[i]?=L x,λi H=>∃b,ü K H a b/\b.length<=i⟩
noncomputable def Pe(lo:Int)(n:Nat):It:=⟨λi _=>i<n,λi H x a=>a=H/\x=.int (lo+i),λi _=>n<=i⟩
def B5{P:Program}{w:World}{K:W.Frag}{tg:Expr}(a it:Addr):Turn P w K tg (Ro K a) [it] it λi h=>h.IsListIter it a i where
 mem:=by simp
 obj:=λi h st b hb=>by
  have e:b=it:=by simpa using hb
  subst e;obtain⟨o,e,c,d⟩:=st;exact⟨o,e,λv z=>by rw[d]at z;cases z⟩
 keep:=λi h h' st k=>st.at λo e=>k it (by simp) o e;item:=by intro X hP hw hK i Æ s Z H E hc I hf st hg;subst hP hw hK;obtain⟨xs,x,hq,hx⟩:=hg;obtain⟨È,rv,p,hz⟩:=I.list hq;obtain⟨u,hu,ru⟩:=rv.get hx;obtain⟨f0,f1,f2,f3,f4,f5⟩:=hf it (by simp);refine wpAny_pyNext_list_item st p.isList (x:=u) (by simpa using hu) λh' Ŭ sb=>?_;have I1:Inv X Æ Z H {s with heap:=h'}:=I.turned (t':=s.toks) (λb o hb e=>(sb.2 b hb).trans e) f0 f1 f3 f4 f5;obtain⟨o,e,c,d⟩:=id Ŭ;exact⟨u,M,z5 (s:={s with heap:=h'}) e c d (by decide) ⟨x,H,I1,ru,⟨M,λys hy=>by rw[I.yn hy hq];exact hx⟩,Ŭ,λb hb=>(hf b hb).1⟩⟩
 done:=by intro X hP hw hK i Æ s Z H E hc I hf st hg;subst hP hw hK;obtain⟨xs,hq,hx⟩:=hg;obtain⟨È,rv,p,hz⟩:=I.list hq;obtain⟨f0,f1,f2,f3,f4,f5⟩:=hf it (by simp);have hl:=rv.length;exact wpAny_pyNext_list_end (I.ok.hd hc) st p.isList (by simp;omega) λh' eb=>⟨M,I.turned (t':=s.toks) (λb o hb e=>eb b o hb e) f0 f1 f3 f4 f5⟩
 self:=λ_ _ _ _ _ st h=>wpAny_pyIter_listiter st h
def zb{P:Program}{w:World}{K:W.Frag}{tg:Expr}(a it:Addr):Turn P w K tg (Qo K a) [it] it λi h=>h.IsTupleIter it a i where
 mem:=by simp
 obj:=λi h st b hb=>by
  have e:b=it:=by simpa using hb
  subst e;obtain⟨o,e,c,d⟩:=st;exact⟨o,e,λv z=>by rw[d]at z;cases z⟩
 keep:=λi h h' st k=>st.at λo e=>k it (by simp) o e;item:=by intro X hP hw hK i Æ s Z H E hc I hf st hg;subst hP hw hK;obtain⟨xs,x,hq,hx⟩:=hg;obtain⟨È,rv,p,hz⟩:=I.tuple hq;obtain⟨u,hu,ru⟩:=rv.get hx;obtain⟨f0,f1,f2,f3,f4,f5⟩:=hf it (by simp);refine wpAny_pyNext_tuple_item st (show s.heap.IsTuple a È.toArray from p) (x:=u) (by simpa using hu) λh' Ŭ sb=>?_;have I1:Inv X Æ Z H {s with heap:=h'}:=I.turned (t':=s.toks) (λb o hb e=>(sb.2 b hb).trans e) f0 f1 f3 f4 f5;obtain⟨o,e,c,d⟩:=id Ŭ;exact⟨u,M,z5 (s:={s with heap:=h'}) e c d (by decide) ⟨x,H,I1,ru,⟨M,λys hy=>by rw[I.sO hy hq];exact hx⟩,Ŭ,λb hb=>(hf b hb).1⟩⟩
 done:=by intro X hP hw hK i Æ s Z H E hc I hf st hg;subst hP hw hK;obtain⟨xs,hq,hx⟩:=hg;obtain⟨È,rv,p,hz⟩:=I.tuple hq;obtain⟨f0,f1,f2,f3,f4,f5⟩:=hf it (by simp);have hl:=rv.length;exact wpAny_pyNext_tuple_end (I.ok.hd hc) st (show s.heap.IsTuple a È.toArray from p) (by simp;omega) λh' eb=>⟨M,I.turned (t':=s.toks) (λb o hb e=>eb b o hb e) f0 f1 f3 f4 f5⟩
 self:=λ_ _ _ _ _ st h=>wpAny_pyIter_tupleiter st h
def zc{P:Program}{w:World}{K:W.Frag}{tg:Expr}(it:Addr)(lo:Int)(n:Nat):Turn P w K tg (Pe lo n) [it] it λi h=>IsRangeIter h it (lo+(i:Nat)*1) ((n:Int)-(i:Nat)) 1 where
 mem:=by simp
 obj:=λi h st b hb=>by
  have e:b=it:=by simpa using hb
  subst e;exact⟨_,st,λv z=>by have z':Data.fields _=Data.cell v:=z;cases z'⟩
 keep:=λi h h' st k=>k it (by simp) _ st;item:=by intro X hP hw hK i Æ s Z H E hc I hf st hg;subst hP hw hK;obtain⟨f0,f1,f2,f3,f4,f5⟩:=hf it (by simp);have W:=Walks.range (prog:=X.prog) (w:=X.w) (I.ok.hd hc) it lo 1 n;refine W.item i s _ _ hg st λv h' tk hv Ŭ kk=>?_;obtain⟨t,rfl⟩:=hv;have I1:Inv X Æ Z H {s with heap:=h',toks:=tk}:=I.turned (λb o hb e=>kk b o (by simpa using hb) e) f0 f1 f3 f4 f5;refine⟨_,M,z5 (s:={s with heap:=h',toks:=tk}) (n:="range_iterator") Ŭ M M (by decide) ⟨.int<|lo+i,H,I1,⟨t,?_⟩,⟨M,M⟩,Ŭ,λb hb=>(hf b hb).1⟩⟩;rw[Int.mul_one]
 done:=by intro X hP hw hK i Æ s Z H E hc I hf st hg;subst hP hw hK;obtain⟨f0,f1,f2,f3,f4,f5⟩:=hf it (by simp);exact wpAny_pyNext_range_end (I.ok.hd hc) st (by have:n<=i:=hg;omega) λh' eb=>⟨M,I.turned (t':=s.toks) (λb o hb e=>eb b o hb e) f0 f1 f3 f4 f5⟩
 self:=λ_ _ _ _ _ st h=>wpAny_pyIter_rangeiter st h
section
variable{X:Cx}{tg:Expr}
def xR{Æ}{Z:St}{H s R E lo hi t u v tk}(I:Inv X Æ Z H s)(d:-2^62<=lo)(j:lo<2^62)(g:-2^62<=hi)(h:hi<2^62)(q:R (Pe lo (hi-lo).toNat) H):X.wp (pyIter<|.ref s.heap.objs.size) (Po X Æ Z tg R) E {s with heap:=s.heap.push {cls:=.type "range",data:=.fields #[.int lo t,.int hi u,.int 1 v]},toks:=tk}:=by
 refine wpAny_pyIter_range (IsRange.new ..) (small_one d j g h) ?_;have a:Inv X Æ Z H {s with heap:=s.heap.push {cls:=.type "range",data:=.fields #[.int lo t,.int hi u,.int 1 v]},toks:=tk}:=I.kept λb o e=>Ă _ e;refine⟨_,_,_,_,H,M,a.kept (t':=tk) λb o e=>Ă _ e,zc _ lo _,?_,λb f=>?_,q⟩
 .have i:lo+((0:Nat):Int)*1=lo:=by simp
  have c:(((hi-lo).toNat:Nat):Int)-((0:Nat):Int)=Builtin.Range.rangeSize lo hi 1:=by rw[rangeSize_one];split<;>omega
  rw[i,c];exact ĺ _ M
 .have e:b=(s.heap.push {cls:=.type "range",data:=.fields #[.int lo t,.int hi u,.int 1 v]}).objs.size:=by simpa using f
  subst e;exact a.Cg (í _)<|a.Û.fresh<|í _
def fW(ta:TA):TI:=λa H R=>ta a H λb c=>∃j:Int,b=[.int j]/\-2^62<=j/\j<2^62/\R (Pe 0 j.toNat) c
def jz(ta:TA):TI:=λa H R=>ta a H λb c=>∃i j:Int,b=[.int i,.int j]/\(-2^62<=i/\i<2^62/\-2^62<=j/\j<2^62)/\R (Pe i (j-i).toNat) c
def G4{a ta p pos}(k:Gl X "range")(l:X.mg "range"=Y)(g:PA X [a] ta)(hs:starEach [a] X.env=[(O,eval a X.env)]:=by rfl):PI X tg (.Call (.Name "range" p) [a] [] pos) (fW ta):=by intro c s f H R I h;refine Call_ (lT I k l El<|Ag (ß (g _ _ s f H _ I h) λo n⟨u,v,i,m,b⟩=>?_) hs M);obtain⟨j,e,b,d,q⟩:=b;subst e;cases m with|cons r rr=>cases rr;obtain⟨t,rfl⟩:=r;exact call_range_1 (xR i (by omega) (by omega) b d<|by grind)
def K4{a b ta p pos}(u:Gl X "range")(v:X.mg "range"=Y)(n:PA X [a,b] ta)(hs:starEach [a,b] X.env=[(O,eval a X.env),(O,eval b X.env)]:=by rfl)(d:starEach [b] X.env=[(O,eval b X.env)]:=by rfl):PI X tg (.Call (.Name "range" p) [a,b] [] pos) (jz ta):=by intro f s m H R I h;refine Call_ (lT I u v El<|Ag (ß (n pos _ s m H _ I h) λz x⟨A,B,o,w,c⟩=>?_) (by grind)<|by rw[d];rfl);obtain⟨i,j,e,⟨c,k,l,g⟩,q⟩:=c;subst e;cases w with|cons r rr=>cases rr with|cons r' rr=>cases rr;obtain⟨t,rfl⟩:=r;obtain⟨y,rfl⟩:=r';exact call_range_2<|xR o c k l g q
def Kz(wi:TI)(g:TG)(tb:TS):TS:=λD a H=>wi a H λJ h=>∃W:Nat->Nat->St->Hp->Prop,(∃m,W 0 m a h)/\∀i m a H,W i m a H->J.stop i H/\D.nx a H\/J.go i H/\∃N:St->Hp->Prop,(∀b c,N b c->∃e,e<m/\W (i+1) e b c)/\∀x c,J.yld i H x c->g x a c λd f=>tb {D with nx:=N,ct:=N,bk:=D.nx} d f
noncomputable def tQ(a:List Addr)(h:Heap):Pn:=a.filterMap λb=>(h.get? b).map λo=>(b,o)
def iE{a h b o}(c:b∈a)(e:h.get? b=L o):(b,o)∈tQ a h:=Um.mpr ⟨b,c,by grind⟩
def X3{a h p}(f:p∈tQ a h):p.1∈a/\h.get? p.1=L p.2:=by obtain⟨b,d,e⟩:=Um.mp f;cases q:h.get? b with|none=>rw[q]at e;cases e|some o=>rw[q]at e;have c:=ŧ e;subst c;exact⟨d,q⟩
def Inv.pinned{Æ}{Z:St}{H s a}(I:Inv X Æ Z H s)(g:∀b∈a,yW X Æ H b)(l:∀b∈a,∃o,s.heap.get? b=L o/\∀v,o.data≠.cell v):Inv X (Æ++tQ a s.heap) Z H s:=I.ie λp i=>(ρ.mp i).elim (λz=>I.pin p<|ų _ z) λz=>by obtain⟨f,e⟩:=X3 z;refine Mt (g _ f) λj k h _=>?_;refine fy (l _ f) λo c d=>?_;rw[e]at c;cases c;exact⟨e,j,k,h,d⟩
def Inv.qF{Æ pl}{Z:St}{H s}(I:Inv X (Æ++pl) Z H s):Inv X Æ Z H s:=I.ie λp a=>I.pin p<|ų _<|Ϯ _ a
def xW{j z wi g tb pos}(Å:PassesOwn (model X.prog X.w) X.A X.env X.xe)(hc:X.calm=U)(hi:PI X tg j wi)(hg:PG X tg g)(l:ã X z tb)(hs:∀x,foldedSetIterable j X.env x=pure x:=by intro _;rfl):PS X (.For tg j z [] pos) (Kz wi g tb):=by
 intro a s Z H D I h;refine wpAny_For (ß (hi a s Z H _ I h) λv s1 h1=>ß h1 λa0 s2 h2=>?_) hs;obtain⟨it,E,tn,J,H2,e,I2,T,Â,f2,W,⟨m0,w0⟩,turn⟩:=h2;subst e;-- what stays U of the iterator's objects through the loop
 have p:∀{w:Hp},(∀b∈E,w b=Y)->∀b∈E,yW X a w b:=λhn b l=>⟨hn b l,(f2 b l).2⟩;refine codeAny_forLoop_any (λn s'=>∃i q w,Inv X a q w s'/\tn i s'.heap/\(∀b∈E,w b=Y)/\W i n q w) ?_ m0 (sA 0 Z H2 I2 Â (λb l=>(f2 b l).1) w0);rintro n s3⟨i,k,Ã,I3,C,K,w3⟩;rcases turn i n k Ã w3 with⟨G,qn⟩|⟨go,N,hN,step⟩;.refine Vd Å (ß (T.done X M M M i a s3 k Ã X.xe hc I3 (p K) C G) λr s4⟨Ä,I4⟩=>?_);subst Ä;exact Tf ⟨k,Ã,I4,qn⟩
 .refine Vd Å (ß (T.item X M M M i a s3 k Ã X.xe hc I3 (p K) C go) λr s4⟨u,Ä,h4⟩=>?_);subst Ä;refine Vd Å (ß h4 λ_ s5⟨x,H5,I5,r5,y5,B,Á⟩=>?_);have S:=I5.pinned (p Á)<|T.obj _ _ B;refine Vd Å (ß (hg _ s5 k H5 x u _ S r5<|step x H5 y5) λ_ s6⟨R,H6,I6,q6⟩=>?_);refine Vd Å (ß (l _ s6 R H6 _ I6 q6) λf Q A=>?_);have again:∀{c:St}{t:Hp},Inv X (a++tQ E s5.heap) c t Q->N c t->∃m,m<n/\∃i q w,Inv X a q w Q/\tn i Q.heap/\(∀b∈E,w b=Y)/\W i m q w:=λ{c t}y P=>by refine fy (hN c t P) λm' hm w7=>?_;refine⟨m',hm,i+1,c,t,y.qF,T.keep _ _ _ B λb l o e=>(y.pin (b,o)<|ų _<|ų _<|iE l e).1,λb l=>?_,w7⟩;obtain⟨o,e,d⟩:=T.obj _ _ B b l;exact(y.pin (b,o)<|ų _<|ų _<|iE l e).2.1
  cases f with|next|cont=>obtain⟨c,t,y,P⟩:=A;exact again y P|brk=>refine dB A λc t y A=>?_;exact⟨c,t,y.qF,A⟩|ret v=>refine xh A λx7 c t y r7 A=>?_;exact Xc x7 c t y.qF r7 A
end
abbrev R2:=V->V->Hp->VK->Prop
def ë(X:Cx)(f:Value->Value->Sem Value)(r:R2):Prop:=∀(a:Pn)(s:Shared)(b:St)(H:Hp)(x y:V)(v u:Value)(Q:VK),Inv X a b H s->RelV x v->RelV y u->r x y H Q->X.wp (f v u) (EP X a b Q) X.xe s
def Xb(X:Cx)(f:Value->Sem Value)(r:V->Hp->VK->Prop):Prop:=∀(a:Pn)(s:Shared)(b:St)(H:Hp)(x:V)(v:Value)(Q:VK),Inv X a b H s->RelV x v->r x H Q->X.wp (f v) (EP X a b Q) X.xe s
def bG(X:Cx)(f:Value)(r:List V->Hp->VK->Prop):Prop:=∀(a:Pn)(s:Shared)(c:St)(H:Hp)(b:List V)(d:List Value)(Q:VK),Inv X a c H s->Vals b d->r b H Q->X.wp (call f d) (EP X a c Q) X.xe s
def AM(X:Cx)(r:V->Hp->(Bool->Hp->Prop)->Prop):Prop:=∀(a:Pn)(s:Shared)(b:St)(H:Hp)(x:V)(v:Value)(Q:Bool->Hp->Prop),Inv X a b H s->RelV x v->r x H Q->X.wp (truthy v) (TP X a b Q) X.xe s
def Mh(r:R2)(ta tb:TE):TE:=λa H Q=>ta a H λx c=>tb a c λy b=>r x y b Q
def SI(r:V->Hp->VK->Prop)(ta:TE):TE:=λa H Q=>ta a H λx b=>r x b Q
def rI(C:Int->Int->Prop)(g:Int->Int->V):R2:=λx y H Q=>∃i j,x=.int i/\y=.int j/\C i j/\Q (g i j) H
def Ic(g:Int->Int->V):R2:=λx y H Q=>∃i j,x=.int i/\y=.int j/\Q (g i j) H
def rU(g:Int->V):V->Hp->VK->Prop:=λx H Q=>∃i,x=.int i/\Q (g i) H
section
variable{X:Cx}{a b:Expr}{ta tb:TE}{pos:Pos}
def Ss(n:PE X a ta)(q:PE X b tb){Æ s}{Z:St}{H}{R:V->V->Hp->Prop}(I:Inv X Æ Z H s)(h:ta Z H λx j=>tb Z j λy d=>R x y d){Q}{f:Value->Value->Sem Value}(k:∀v u i x y d,Inv X Æ Z d i->RelV x v->RelV y u->R x y d->X.wp (f v u) Q X.xe i):X.wp (eval a X.env) (λv g=>X.wp (eval b X.env) (λu e=>X.wp (f v u) Q X.xe e) X.xe g) X.xe s:=by exact ß (n _ s Z H _ I h) λv t⟨x,j,p,r,o⟩=>ß (q _ _ Z _ _ p o) λu i⟨y,d,m,r2,l⟩=>k v u _ x y _ m r r2 l
def TN{op r}(l:ë X (binaryOp op) r)(j:PE X a ta)(k:PE X b tb):PE X (.BinOp a op b pos) (Mh r ta tb):=by intro d s g H Q I h;exact wpAny_BinOp (Ss j k I h λv u m x y n i f e q=>l _ _ g _ x y v u Q i f e q)
def VN{op r}(j:Xb X (unaryOp op) r)(g:PE X a ta):PE X (.UnaryOp op a pos) (SI r ta):=by intro d s e H Q I h;exact UnaryOp_ (ß (g _ s e H _ I h) λv l⟨x,m,f,i,k⟩=>j _ _ e _ x v Q f i k)
def Dp{f C}{g:Int->Int->Int}(rule:∀i j t u s Q E,C i j->Q (.int (g i j) s.toks) {s with toks:=s.toks+1}->X.wp (f (.int i t)<|.int j u) Q E s):ë X f (rI C λi j=>.int<|g i j):=by intro k s o H x y v u Q I m l h;refine mJ h λi j d e n q=>?_;subst d e;obtain⟨t,rfl⟩:=m;obtain⟨p,rfl⟩:=l;exact rule i j t _ s _ _ n<|hU (.int _) H (I.tok _) ⟨_,M⟩ q
def Ey{f}{g:Int->Int->Int}(rule:∀i j t u s Q E,Q (.int (g i j) s.toks) {s with toks:=s.toks+1}->X.wp (f (.int i t)<|.int j u) Q E s):ë X f (Ic λi j=>.int<|g i j):=by intro k s n H x y v u Q I m l h;refine kr h λi j d e q=>?_;subst d e;obtain⟨t,rfl⟩:=m;obtain⟨o,rfl⟩:=l;exact rule i j t _ s _ _<|hU (.int _) H (I.tok _) ⟨_,M⟩ q
def Ts{f}{g:Int->Int->Bool}(rule:∀i j t u s Q E,Q (.bool<|g i j) s->X.wp (f (.int i t)<|.int j u) Q E s):ë X f (Ic λi j=>.B<|g i j):=by intro d s l H x y v u Q I k e h;obtain⟨i,j,rfl,rfl,q⟩:=h;obtain⟨t,rfl⟩:=k;obtain⟨m,rfl⟩:=e;exact rule i j t _ s _ _ ⟨.B _,H,I,M,q⟩
def Fs(i j:Int):Prop:=-2^64<i/\i<2^64\/-2^64<j/\j<2^64
def Fs.ok{i j}(h:Fs i j):IntMulOk i j:=by
 rcases h with⟨d,e⟩|⟨d,e⟩;.exact .of_left (intBits_le_64 d e)
 .exact .of_right (intBits_le_64 d e)
def ES:ë X (binaryOp .Add) (Ic λi j=>.int<|i+j):=Ey λ_ _ _ _ _ _ _ q=>add_int q
def SS:ë X (binaryOp .Sub) (Ic λi j=>.int<|i-j):=Ey λ_ _ _ _ _ _ _ q=>sub_int q
def MS:ë X (binaryOp .Mult) (rI Fs λi j=>.int<|i*j):=Dp λ_ _ _ _ _ _ _ d q=>mul_int q d.ok
def KS:ë X (binaryOp .Mod) (rI (λ_ j=>0<j) λi j=>.int<|i%j):=Dp λi j _ _ _ _ _ d q=>by have e:(0:Int)<j:=d;exact mod_int' (by omega) (by rw[Int.fmod_eq_emod_of_nonneg i (by omega)];exact q)
def OI{f}{g:Int->Int}(rule:∀i t s Q E,Q (.int (g i) s.toks) {s with toks:=s.toks+1}->X.wp (f<|.int i t) Q E s):Xb X f (rU λi=>.int<|g i):=by intro d s j H x v Q I e h;obtain⟨i,rfl,q⟩:=h;obtain⟨t,rfl⟩:=e;exact rule i t s _ _ ⟨.int _,H,I.tok _,⟨_,M⟩,q⟩
def SU:Xb X (unaryOp .USub) (rU λi=>.int<|-i):=OI λ_ _ _ _ _ q=>neg_int q
end
noncomputable def Ot:V->V->Bool|.n,.n=>U|.n,.int _=>U|.int _,.n=>U|.n,.B _=>U|.B _,.n=>U|.n,.str _=>U|.str _,.n=>U|.int _,.int _=>U|.B _,.B _=>U|.str _,.str _=>U|.Ι _,.Ι _=>U|.int _,.str _=>U|.str _,.int _=>U|.B _,.str _=>U|.str _,.B _=>U|_,_=>O
def DJ:R2:=λx y H Q=>Ot x y=U/\Q (.B<|decide (x=y)) H
def CJ:R2:=λx y H Q=>Ot x y=U/\Q (.B !decide (x=y)) H
def wF{i j:Int}:decide (V.int i=V.int j)=(i==j):=by rw[ϯ];simp
def Nv{i j:Bool}:decide (V.B i=V.B j)=(i==j):=by rw[ϯ];simp
def wD{i j:Str}:decide (V.str i=V.str j)=(i==j):=by rw[ϯ];simp
def DF{i j}:decide (V.Ι i=V.Ι j)=(i.toList==j.toList):=by rw[ϯ];cases i;cases j;simp
section
variable{X:Cx}{a b c:Expr}{ta tb tc:TE}{pos:Pos}
def aZ{Æ}{Z:St}{H s Q k k'}(I:Inv X Æ Z H s)(q:Q (.B k) H)(e:k=k'):EP X Æ Z Q (.bool k') s:=by subst e;exact⟨.B k,H,I,M,q⟩
def NN:ë X (compareOp .Eq) DJ:=by intro k s l H x y v u Q I g d h;obtain⟨f,q⟩:=h;cases x with
|n=>cases g;cases y with|n=>cases d;exact PySem.EqNone.eq_none_none (aZ I q<|by simp)|B j=>cases d;exact PySem.EqNone.eq_none_bool (aZ I q<|by simp)|int j=>obtain⟨e,rfl⟩:=d;exact PySem.EqNone.eq_none_int (aZ I q<|by simp)|str j=>obtain⟨e,rfl⟩:=d;exact PySem.EqNone.eq_none_str (aZ I q<|by simp)|_=>exact absurd (show O=U from f) ř
|B i=>cases g;cases y with|n=>cases d;exact PySem.EqNone.eq_bool_none (aZ I q<|by simp)|B j=>cases d;exact eq_bool<|aZ I q Nv|str j=>obtain⟨e,rfl⟩:=d;exact PySem.EqMixed.eq_bool_str (aZ I q<|by simp)|_=>exact absurd (show O=U from f) ř
|int i=>obtain⟨t,rfl⟩:=g;cases y with|n=>cases d;exact PySem.EqNone.eq_int_none (aZ I q<|by simp)|int j=>obtain⟨e,rfl⟩:=d;exact eq_int<|aZ I q wF|str j=>obtain⟨e,rfl⟩:=d;exact PySem.EqMixed.eq_int_str (aZ I q<|by simp)|_=>exact absurd (show O=U from f) ř
|str i=>obtain⟨t,rfl⟩:=g;cases y with|n=>cases d;exact PySem.EqNone.eq_str_none (aZ I q<|by simp)|B j=>cases d;exact PySem.EqMixed.eq_str_bool (aZ I q<|by simp)|int j=>obtain⟨e,rfl⟩:=d;exact PySem.EqMixed.eq_str_int (aZ I q<|by simp)|str j=>obtain⟨e,rfl⟩:=d;exact eq_str<|aZ I q wD|_=>exact absurd (show O=U from f) ř
|Ι i=>obtain⟨t,rfl⟩:=g;cases y with|Ι j=>obtain⟨e,rfl⟩:=d;exact W.eq_bytes<|aZ I q DF|_=>exact absurd (show O=U from f) ř
|_=>cases y<;>exact absurd (show O=U from f) ř
def RN:ë X (compareOp .NotEq) CJ:=by intro k s l H x y v u Q I g d h;obtain⟨f,q⟩:=h;cases x with
|n=>cases g;cases y with|n=>cases d;exact PySem.EqNone.ne_none_none (aZ I q<|by simp)|B j=>cases d;exact PySem.EqNone.ne_none_bool (aZ I q<|by simp)|int j=>obtain⟨e,rfl⟩:=d;exact PySem.EqNone.ne_none_int (aZ I q<|by simp)|str j=>obtain⟨e,rfl⟩:=d;exact PySem.EqNone.ne_none_str (aZ I q<|by simp)|_=>exact absurd (show O=U from f) ř
|B i=>cases g;cases y with|n=>cases d;exact PySem.EqNone.ne_bool_none (aZ I q<|by simp)|B j=>cases d;exact ne_bool<|aZ I q<|ê not Nv|str j=>obtain⟨e,rfl⟩:=d;exact PySem.EqMixed.ne_bool_str (aZ I q<|by simp)|_=>exact absurd (show O=U from f) ř
|int i=>obtain⟨t,rfl⟩:=g;cases y with|n=>cases d;exact PySem.EqNone.ne_int_none (aZ I q<|by simp)|int j=>obtain⟨e,rfl⟩:=d;exact ne_int<|aZ I q<|ê not wF|str j=>obtain⟨e,rfl⟩:=d;exact PySem.EqMixed.ne_int_str (aZ I q<|by simp)|_=>exact absurd (show O=U from f) ř
|str i=>obtain⟨t,rfl⟩:=g;cases y with|n=>cases d;exact PySem.EqNone.ne_str_none (aZ I q<|by simp)|B j=>cases d;exact PySem.EqMixed.ne_str_bool (aZ I q<|by simp)|int j=>obtain⟨e,rfl⟩:=d;exact PySem.EqMixed.ne_str_int (aZ I q<|by simp)|str j=>obtain⟨e,rfl⟩:=d;exact ne_str<|aZ I q<|ê not wD|_=>exact absurd (show O=U from f) ř
|Ι i=>obtain⟨t,rfl⟩:=g;cases y with|Ι j=>obtain⟨e,rfl⟩:=d;exact W.ne_bytes<|aZ I q<|ê not DF|_=>exact absurd (show O=U from f) ř
|_=>cases y<;>exact absurd (show O=U from f) ř
def QN:ë X (compareOp .Lt) (Ic λi j=>.B<|decide (i<j)):=Ts λ_ _ _ _ _ _ _ q=>lt_int q
def PN:ë X (compareOp .LtE) (Ic λi j=>.B<|decide (i<=j)):=Ts λ_ _ _ _ _ _ _ q=>le_int q
def ON:ë X (compareOp .Gt) (Ic λi j=>.B<|decide (j<i)):=Ts λ_ _ _ _ _ _ _ q=>gt_int q
def Z3:ë X (compareOp .In) λx y H Q=>∃i j,x=.str i/\y=.str j/\Q (.B !(Builtin.Str.occurrences j i 0 j.length 1).isEmpty) H:=by intro d s g H x y v u Q I f e h;obtain⟨i,j,rfl,rfl,q⟩:=h;obtain⟨t,rfl⟩:=f;obtain⟨k,rfl⟩:=e;exact in_str<|aZ I q M
def JS:ë X (compareOp .Is) λx y H Q=>y=.n/\Q (.B<|decide (x=.n)) H:=by intro d s g H x y v u Q I f e h;obtain⟨rfl,q⟩:=h;cases e;refine is_none_gen<|aZ I q ?_;cases x<;>(obtain⟨t,rfl⟩:=f;rfl)
def FX:ë X (compareOp .IsNot) λx y H Q=>y=.n/\Q (.B !decide (x=.n)) H:=by intro d s g H x y v u Q I f e h;obtain⟨rfl,q⟩:=h;cases e;refine isnot_none_gen<|aZ I q ?_;cases x<;>(obtain⟨t,rfl⟩:=f;rfl)
def ë.or{f r g}(h:ë X f r)(h':ë X f g):ë X f λx y H Q=>r x y H Q\/g x y H Q:=by
 intro e s i H x y v u Q I j d q;rcases q with q|q;.exact h _ s i H x y v u Q I j d q
 .exact h' _ s i H x y v u Q I j d q
def bu(b){op}(h:op≠.In:=by decide)(d:op≠.NotIn:=by decide):behindInMarks op b=O:=EZ b h d
def PV{op r}(m:ë X (compareOp op) r)(j:PE X a ta)(k:PE X b tb)(l:behindInMarks op b=O):PE X (.Compare a [op] [b] pos) (Mh r ta tb):=by intro d s g H Q I h;exact wpAny_Compare1 (Ss j k I h λv u n x y o i f e q=>m _ _ g _ x y v u Q i f e q) l
def Bv(t:TE):TT:=λe H Q=>t e H λx d=>∃k,x=.B k/\Q k d
def YV{op r}(A:ë X (compareOp op) r)(l:PE X a ta)(p:PE X b tb)(q:behindInMarks op b=O):PT X (.Compare a [op] [b] pos) (Bv<|Mh r ta tb):=by intro f s d H Q I h;refine wpAny_isTrue_Compare1 (ß (l _ s d H _ I h) λv C⟨x,G,n,t,m⟩=>ß (p _ _ d _ _ n m) λu D⟨y,E,j,r2,g⟩=>ß (A _ _ d _ x y v u _ j t r2 g) λc B⟨z,o,w,r3,k,e,i⟩=>?_) q;subst e;cases r3;exact Mb ⟨o,w,i⟩
def Wv(r h:R2)(ta tb tc:TE):TE:=λd H Q=>ta d H λx j=>tb d j λy i=>r x y i λz e=>∃k,z=.B k/\if k=U then tc d e λg f=>h y g f Q else Q (.B O) e
def LZ{op g r m}(E:ë X (compareOp op) r)(j:ë X (compareOp g) m)(N:PE X a ta)(P:PE X b tb)(R:PE X c tc)(D:lastMarks [op,g] [b,c]=O:=by with_unfolding_all rfl):PE X (.Compare a [op,g] [b,c] pos) (Wv r m ta tb tc):=by intro f s i H Q I h;refine Compare_chain (ß (N _ s i H _ I h) λv q⟨x,w,C,S,Ã⟩=>chain_link<|ß (P _ q i w _ C Ã) λu K⟨y,B,Å,r2,J⟩=>ß (E _ K i B x y v u _ Å S r2 J) λd p⟨z,o,l,r3,k,e,n⟩=>?_) D;subst e;cases r3;refine Mb ?_;cases k with|false=>exact ite_ff ⟨.B _,o,l,M,n⟩|true=>exact ite_tt (chain_last<|ß (R f p i o _ l n) λt G⟨Â,T,I4,A,Á⟩=>j f G i T y Â u t Q I4 r2 A Á)
def U2{op g r m}(E:ë X (compareOp op) r)(j:ë X (compareOp g) m)(Â:PE X a ta)(hb:PE X b tb)(hc:PE X c tc)(D:lastMarks [op,g] [b,c]=O:=by with_unfolding_all rfl):PT X (.Compare a [op,g] [b,c] pos) (Bv<|Wv r m ta tb tc):=by intro f s i H Q I h;refine isTrue_chain (ß (Â f s i H _ I h) λv q⟨x,H1,B,r1,Á⟩=>test_link<|ß (hb _ q i H1 _ B Á) λu R⟨y,A,S,r2,N⟩=>ß (E _ R i A x y v u _ S r1 r2 N) λd p⟨z,o,l,r3,k,e,n⟩=>?_) D;subst e;cases r3;refine Mb ?_;cases k with|false=>obtain⟨k',K,Ä⟩:=n;cases K;exact ite_ff ⟨o,l,Ä⟩|true=>refine ite_tt (test_last<|ß (hc _ p i o _ l n) λt G⟨Ã,C,I4,w,Å⟩=>ß (j f G i C y Ã u t _ I4 r2 w Å) λd' s5⟨z2,H5,J,T,k2,P,q5⟩=>?_);subst P;cases T;exact Mb ⟨H5,J,q5⟩
def Oy(K:W.Frag)(x:V)(H:Hp)(k:Bool):Prop:=match x with|.n=>k=O|.B b=>k=b|.int i=>k=(i !=0)|.str y=>y.length<=sizeLine/\k=((y.length:Int)!=0)|.Ι y=>y.size<=sizeLine/\k=((y.size:Int)!=0)|.ref p=>(∃d,ÿ K H p d/\k=!d.isEmpty)\/(∃d,ü K H p d/\k=!d.isEmpty)\/∃e,H p=L (.dK e)/\k=!e.isEmpty|_=>False
def zX{d:Type}{Ç:List (d×V)}{vs:List (d×Value)}(r:KV Ç vs):(!vs.isEmpty)=!Ç.isEmpty:=by cases r<;>rfl
def qg{xs:List V}{È:List Value}(r:Vals xs È):(!È.toArray.isEmpty)=!xs.isEmpty:=by cases r<;>simp
def p8:sizeLine<2^63:=by decide
def QU:AM X λx H Q=>∃k,Oy X.K x H k/\Q k H:=by intro z s E H x v Q I l h;obtain⟨k,e,q⟩:=h;have G:=p8;have D:sizeLine=16777216:=Mc;cases x with|n=>cases l;have d:k=O:=e;subst d;exact truthy_none ⟨H,I,q⟩|B b=>cases l;have d:k=b:=e;subst d;exact Mb ⟨H,I,q⟩|int i=>obtain⟨t,rfl⟩:=l;have d:k=(i !=0):=e;subst d;exact PySem.P.truthy_int ⟨H,I,q⟩|str y=>obtain⟨t,rfl⟩:=l;obtain⟨B,d⟩:y.length<=sizeLine/\k=((y.length:Int)!=0):=e;subst d;exact PySem.P.truthy_str (by omega) ⟨H,I.tok _,q⟩|Ι y=>obtain⟨t,rfl⟩:=l;obtain⟨B,d⟩:y.size<=sizeLine/\k=((y.size:Int)!=0):=e;subst d;exact W.truthy_bytes (by omega) ⟨H,I.tok _,q⟩|ref p=>
 cases l;have d:(∃j,ÿ X.K H p j/\k=!j.isEmpty)\/(∃j,ü X.K H p j/\k=!j.isEmpty)\/∃f,H p=L (.dK f)/\k=!f.isEmpty:=e;rcases d with⟨j,n,d⟩|⟨j,n,d⟩|⟨f,n,d⟩;.subst d;obtain⟨u,r,w,A⟩:=I.list n;have g:=r.length;exact wpAny_truthy_list w.isList (by simp only[ς];omega) ⟨H,I.tok _,by rw[qg r];exact q⟩
 .subst d;obtain⟨u,r,w,A⟩:=I.tuple n;have g:=r.length;exact truthy_tuple w (by simp only[ς];omega) ⟨H,I.tok _,by rw[qg r];exact q⟩
 .subst d;obtain⟨A,C,o,r,m⟩:f.length<=sizeLine/\(p==sysModules)=O/\∃o,KV f o/\s.heap.DictOf (bU X.prog X.w) p o:=I.Û p _ n;have g:f.length=o.length:=Dm r;exact wpAny_truthy_dict C m (by omega) ⟨H,I.tok _,by rw[zX r];exact q⟩|_=>exact False.elim e
def V2(g:PE X a ta)(j:∀d,isTrue a X.env d=do let v <-d;standAt a.pos;holding [v] (truthy v)):PT X a λZ H Q=>ta Z H λx H'=>∃k,Oy X.K x H' k/\Q k H':=by intro e s Z H Q I h;exact isTrue_plain (ß (g e s Z H _ I h) λv f⟨x,n,l,m,i⟩=>QU e f Z n x v Q l m i)<|j _
def vals1{x us}(r:Vals [x] us):∃u,us=[u]/\RelV x u:=by cases r with|cons r1 r2=>cases r2;exact⟨_,M,r1⟩
def vals2{x y us}(r:Vals [x,y] us):∃u d,us=[u,d]/\RelV x u/\RelV y d:=by cases r with|cons r1 r2=>cases r2 with|cons r3 r4=>cases r4;exact⟨_,_,M,r1,r3⟩
def O0:bG X (.builtin "abs") λxs H Q=>∃i,xs=[.int i]/\Q (.int<|if i<0 then -i else i) H:=by intro d s e H xs f Q I r h;obtain⟨i,rfl,q⟩:=h;obtain⟨u,rfl,t,rfl⟩:=vals1 r;exact call_abs_int λu tk=>hU (.int _) H (I.tok _) ⟨_,M⟩ q
def O3(g:X.calm=U):bG X (.builtin "max") λxs H Q=>∃i j,xs=[.int i,.int j]/\Q (.int<|if j>i then j else i) H:=by
 intro f s m H xs p Q I r h;refine dB h λi j e q=>?_;subst e;obtain⟨u,l,rfl,⟨t,rfl⟩,⟨o,rfl⟩⟩:=vals2 r;refine max_two_ints (I.ok.hd g) λn tk k=>hU _ H (I.kept k) ?_ q;by_cases d:j>i;.rw[Ð d,Ð d];exact⟨_,M⟩
 .rw[Õ d,Õ d];exact⟨_,M⟩
end
structure ψ(h:Heap)(x dx C:Addr)(mA:Str->Option Value):Prop where
 obj:h.get? x=L (W.instObj C dx)ns:h.Ns1 dx mA
 ne:dx≠x
def uv{h:Heap}{dx d}(n:h.Ns1 dx d):∃od,h.get? dx=L od/\∀name,W.lookIn name od=L (d name):=by
 refine Cn n λo c m l i f _ g=>?_;refine⟨o,l,λname=>?_⟩;have e:=g name;unfold nsFind findBy at e;rw[<-Kr]at e;unfold W.lookIn;rw[i];dsimp ;split;.rename_i y q;rw[q]at e;exact ê _ e
 .rename_i q;rw[q]at e;have a:c.toList.any (·.refKey)=O:=by rw[List.any_eq_false];intro y j;obtain⟨z,t,b⟩:=f y<|Array.mem_toList_iff.mp j;simp[DictEntry.refKey,b]
  have k:¬c.toList.any (·.refKey)=U:=by grind
  rw[Õ k];exact ê _ e
def ψ.look{h x dx C a}(I:ψ h x dx C a):∃od,W.InstAt h x (W.instObj C dx) C (L od)/\∀name,W.lookIn name od=L (a name):=let⟨od,c,b⟩:=uv I.ns;⟨od,⟨I.obj,M,M,c⟩,b⟩
section
variable{prog:Program}{w:World}{A:Around}{E:VS}{s:Shared}{K:W.Frag}{x dx C f:Addr}{mA:Str->Option Value}{name:Str}{v:Value}
def get_map{a Q}(X:K.In s.heap)(I:ψ s.heap x dx C mA)(c:W.plainGet K C name=U)(e:W.hasDictIn K C=U)(d:W.findIn K (.ref C) name=L Y)(i:mA name=L v)(b:W.handedIn v=U)(h:Q v {s with toks:=s.toks+1}):wpAny (model prog w) A (getAttr (.ref x) name a) Q E s:=by obtain⟨od,J,g⟩:=I.look;exact W.get_value X J (W.plainGet_of c).1 (W.findObj_own e d M<|by grind) b h
def VZ{pl Q}(X:K.In s.heap)(I:ψ s.heap x dx C mA)(a:W.plainGet K C name=U)(b:W.findIn K (.ref C) name=L (L<|.ref f))(e:W.isFn K (.ref f)=U)(d:mA name=Y)(h:Q (.ref f,[.ref x]) s):wpAny (model prog w) A (getMethod (.ref x) name pl) Q E s:=by obtain⟨od,J,c⟩:=I.look;exact W.method_fn X J (W.plainGet_of a).1 (W.plainGet_of a).2 b (Μ.mp e) (by show(W.lookIn _ _).map _=L _;rw[c,d];rfl) h
def DW{ns Q}(X:K.In s.heap)(I:ψ s.heap x dx C mA)(hs:W.findIn K (.ref C) "__setattr__"=L (L<|.builtin "object.__setattr__"))(m:W.plainOver K C=U)(p:W.takerIn K C name=L Y)(n:W.hasDictIn K C=U)(hw:PySem.Within mA ns)(hsz:ns.length<=sizeLine)(h:∀h',ψ h' x dx C (λy=>if y=name then L v else mA y)->Heap.SameBut dx s.heap h'->Q () {s with heap:=h',toks:=s.toks+2}):wpAny (model prog w) A (setAttr (.ref x) name v) Q E s:=by refine fy I.look λod J t=>?_;refine W.set_plain X J hs (W.osa_open (s:={s with toks:=s.toks+1}) (r:=Y) X J m p λb=>?_);refine fy (W.any_some n) λq o i=>?_;refine Í<|ì<|Í<|Í<|Wl I.obj<|Í<|W.Looks.here (Cm X o) ?_;rw[i];refine ì (a:=L dx)<|Í<|ì<|Í ?_;refine wpAny_nsSet1 I.ns λh' d c=>?_;refine xh (d.count<|Jq name v hw) λu l k j e g=>?_;refine Í (Bq j (by rw[e];exact Aq<|ñ g<|by rw[Ĩ];omega) ?_);exact ì<|h _ ⟨(c.2 _<|ö I.ne).trans I.obj,d,I.ne⟩ c
def BZ{R vs a}(X:K.In s.heap)(d:W.makesIn K C=U)(hi:W.findIn K (.ref C) "__init__"=L (L<|.ref f))(c:W.typeIn K (.ref f)=L (.type "function"))(h:codeAny (model prog w) (A.under<|.builtin "type.__call__" ⟨.ref C::vs,a⟩) (.call (.ref f) ⟨.ref (s.heap.objs.size+1)::vs,a⟩) (W.InitBack (s.heap.objs.size+1) R) {s with heap:=(s.heap.push W.emptyDict).push (W.instObj C s.heap.objs.size)}):codeAny (model prog w) A (.call (.ref C) ⟨vs,a⟩) R s:=by exact W.make_core (W.makes_of X d) (W.looks_findIn X hi) (λb=>W.bind_fn X _ c) (.inl rfl) h
end
noncomputable def oQ(f:Str)(v:V):List (Str×V)->List (Str×V)|[]=>[(f,v)]|(g,x)::r=>if g=f then(g,v)::r else(g,x)::oQ f v r
theorem nO(f g)(v):∀fs,(oQ f v fs).lookup g=if g=f then L v else fs.lookup g
|[]=>by
 show List.lookup g [(f,v)]=_;by_cases h:g=f;.simp only[List.lookup,Μ.mpr h,Ð h]
 .simp only[List.lookup,ϖ.mpr h,Õ h]|(k,x)::r=>by
  have c:=nO f g v r;rw[show oQ f v ((k,x)::r)=if k=f then(k,v)::r else(k,x)::oQ f v r from rfl];by_cases a:k=f
  .rw[Ð a];by_cases h:g=k;.have b:(g==k)=U:=Μ.mpr h;simp only[List.lookup,b,Ð<|h.trans a]
   .simp only[List.lookup,ϖ.mpr h,Õ λe:g=f=>h<|e.trans a.symm]
  .rw[Õ a];by_cases h:g=k;.simp only[List.lookup,Μ.mpr h,Õ λe:g=f=>a<|h.symm.trans e]
   .simp only[List.lookup,ϖ.mpr h];exact c
theorem nV(f)(v):∀fs,f∈(oQ f v fs).map (·.1)/\∀g,g∈fs.map (·.1)->g∈(oQ f v fs).map (·.1)
|[]=>⟨by simp[oQ],λg h=>by simp at h⟩|(k,x)::r=>by
  obtain⟨b,c⟩:=nV f v r;rw[show oQ f v _=if k=f then(k,v)::r else(k,x)::oQ f v r from rfl];by_cases a:k=f;.subst a;exact⟨by simp,λg h=>by simpa using h⟩
  .rw[Õ a];refine⟨?_,λg h=>?_⟩;.exact Ħ _ b
   .rcases Ę.mp h with e|e;.exact Ę.mpr (.inl e)
    .exact Ħ _ (c g e)
theorem nQ(f)(v):∀fs,(oQ f v fs).length<=fs.length+1
|[]=>by simp[oQ]|(k,x)::r=>by
 have b:=nQ f v r;rw[show oQ f v _=if k=f then(k,v)::r else(k,x)::oQ f v r from rfl];by_cases a:k=f;.rw[Ð a,Ĩ,Ĩ];omega
 .rw[Õ a,Ĩ,Ĩ];omega
def vp.some_of{v o}(r:vp (L v) o):∃u,o=L u/\RelV v u:=by cases o with|none=>exact(r).elim|some u=>exact⟨u,M,r⟩
def vp.none_of{o}(r:vp Y o):o=Y:=by cases o with|none=>rfl|some u=>exact(r).elim
def uK{v u}(r:RelV v u):W.handedIn u=U:=by cases v with|n|B b=>cases r;rfl|int i|str x|Ι b|flt b=>obtain⟨t,e⟩:=r;cases e;rfl|ref a|ty n=>cases r;rfl
section
variable{P:Program}{w:World}{H:Hp}{h:Heap}{a C dx:Addr}{fs:List (Str×V)}
def rN(c:Ģ P w H h)(e:H a=L (.i C dx fs)):∃b,ψ h a dx C b/\(∀f,vp (fs.lookup f)<|b f)/\PySem.Within b (fs.map (·.1))/\fs.length<=1000/\H dx=L (.own a):=by obtain⟨d,z,g,ob,b,n,r,q⟩:=c a _ e;exact⟨b,⟨ob,n,g⟩,r,q,z,d⟩
end
structure ĝ(K:W.Frag)(C:Addr):Prop where
 pg:W.plainGet K C Str.empty=U
 hd:W.hasDictIn K C=U
 po:W.plainOver K C=U
 sa:W.findIn K (.ref C) "__setattr__"=L (L<|.builtin "object.__setattr__")
def ĝ.get{K C}(c:ĝ K C)(f):W.plainGet K C f=U:=c.pg
def bf(K:W.Frag)(C:Addr)(f:Str):Prop:=W.findIn K (.ref C) f=L Y
def bf.YO{K C f}(n:bf K C f):W.takerIn K C f=L Y:=by unfold W.takerIn;rw[n];rfl
structure Meth(K:W.Frag)(C:Addr)(m:Str)(f:Addr):Prop where
 at_:W.findIn K (.ref C) m=L (L<|.ref f)fn:W.isFn K (.ref f)=U
 kp:W.keepIn K (.ref f)=U
section
variable{X:Cx}{Æ:Pn}{Z:St}{H:Hp}{s:Shared}{a C dx:Addr}{fs:List (Str×V)}{f:Str}{v:V}{A:Around}{E:VS}
def z6{b Q}(I:Inv X Æ Z H s)(e:H a=L (.i C dx fs))(c:ĝ X.K C)(n:bf X.K C f)(l:fs.lookup f=L v)(h:∀u s',Inv X Æ Z H s'->RelV v u->Q u s'):wpAny (model X.prog X.w) A (getAttr (.ref a) f b) Q E s:=by obtain⟨g,Ã,r,_,_,_⟩:=rN I.Û e;obtain⟨u,i,d⟩:=vp.some_of (v:=v) (o:=g f) (by grind);exact get_map I.ć Ã (c.get f) c.hd n i (uK d)<|h u _ (I.tok _) d
def qi{m g pl Q}(I:Inv X Æ Z H s)(e:H a=L (.i C dx fs))(c:ĝ X.K C)(k:Meth X.K C m g)(l:fs.lookup m=Y)(h:Q (.ref g,[.ref a]) s):wpAny (model X.prog X.w) A (getMethod (.ref a) m pl) Q E s:=by obtain⟨b,Ã,r,_,_,_⟩:=rN I.Û e;exact VZ I.ć Ã (c.get m) k.at_ k.fn (vp.none_of<|by grind) h
def zp{y u Q}(I:Inv X Æ Z H s)(e:H a=L (.i C dx fs))(c:ĝ X.K C)(n:bf X.K C f)(J:fs.length<1000)(l:RelV y u)(h:∀s',Inv X Æ Z (upd H a<|.i C dx<|oQ f y fs) s'->Q () s'):wpAny (model X.prog X.w) A (setAttr (.ref a) f u) Q E s:=by
 obtain⟨p,Ã,r,i,_,j⟩:=rN I.Û e;have w:(fs.map (·.1)).length<=sizeLine:=by rw[Į,Mc];omega
 refine DW I.ć Ã c.sa c.po n.YO c.hd i w λD d m=>h _ ?_;have G:∃o,D.get? dx=L o:=let⟨o,_,_,k,_⟩:=d.ns;⟨o,k⟩;refine I.write (x:=a) (e:=dx) (by rw[e];exact True.intro) (.inr j) (λb q B z=>(m.2 b B).trans z) G ⟨by rw[ag Ã.ne];exact j,?_,Ã.ne,d.obj,_,d.ns,λg=>?_,λg t=>?_⟩;.have:=nQ f y fs;omega
 .rw[nO];by_cases q:g=f;.rw[Ð q,Ð q];exact l
  .rw[Õ q,Õ q];exact r g
 .by_cases q:g=f;.rw[q];exact(nV f y fs).1
  .refine(nV f y fs).2 g (i g λz=>t ?_);show(if g=f then L u else p g)=Y;rw[Õ q];exact z
def Inv.made(I:Inv X Æ Z H s):Inv X Æ Z (upd (upd H s.heap.objs.size<|.own<|s.heap.objs.size+1) (s.heap.objs.size+1)<|.i C s.heap.objs.size []) {s with heap:=(s.heap.push W.emptyDict).push (W.instObj C s.heap.objs.size)}:=by
 have d:(s.heap.push W.emptyDict).get? s.heap.objs.size=L W.emptyDict:=ĺ s.heap M;have h:=by have:=ĺ (s.heap.push W.emptyDict) (o:=W.instObj C s.heap.objs.size) M;rwa[Vl]at this
 have g:=I.laid (o:=.own<|s.heap.objs.size+1) (t':=s.toks) (λb u q=>Ă _ q) (í _) ⟨_,d⟩;refine g.laid  (λb u q=>Ă _ q) (Dl<|Vl _ _) ?_;have c:s.heap.objs.size≠s.heap.objs.size+1:=ğ<|Bi _;refine⟨by rw[ag c,ai],Ś _,c,h,_,(Iq<|sA W.emptyDict #[] _ d M (λe j=>absurd j<|by simp) λ_=>rfl).at λo q=>Ă _ q,λ_=>True.intro,λy i=>absurd M i⟩
def OE{prog w b e f pos s Q}(d:attributeBase e f b (eval e b)=eval e b)(h:wpAny (model prog w) A (eval e b) (λo c=>wpAny (model prog w) A (getAttr o f U) Q E c) E s):wpAny (model prog w) A (eval (.Attribute e f pos) b) Q E s:=Attribute_any_ h (by rw[arm_eval_Attribute,d])
end
def Ln(K:W.Frag)(ta:TE)(f:Str):TE:=λd H Q=>ta d H λx b=>∃a C c fs v,x=.ref a/\b a=L (.i C c fs)/\ĝ K C/\bf K C f/\fs.lookup f=L v/\Q v b
def Kg(K:W.Frag)(ta tv:TE)(f:Str):TS:=λD b H=>tv b H λy e=>ta b e λx d=>∃a C c fs,x=.ref a/\d a=L (.i C c fs)/\ĝ K C/\bf K C f/\fs.length<1000/\D.nx b (upd d a<|.i C c<|oQ f y fs)
section
variable{X:Cx}{o e value:Expr}{f:Str}{pos pos':Pos}{ta tv:TE}
def tR(m:PE X e ta)(r:attributeBase e f X.env (eval e X.env)=eval e X.env):PE X (.Attribute e f pos) (Ln X.K ta f):=by intro b s g H Q I h;refine OE r (ß (m _ s g H _ I h) λu w⟨x,t,p,d,a,C,A,fs,v,ex,j,c,n,l,q⟩=>?_);subst ex;obtain rfl:=d;exact z6 p j c n l λz y i k=>⟨v,t,i,k,q⟩
def pU(r:PE X o ta)(j:PE X value tv)(hs:swapsWith value (L<|.Attribute o f pos') pos.line X.env=pure O):PS X (.Assign [.Attribute o f pos'] value pos) (Kg X.K ta tv f):=by intro d s b H D I h;refine Yr (ß (j _ s b H _ I h) λu z⟨y,J,i,g,q⟩=>ß (r _ _ b _ _ i q) λG E⟨x,A,p,v,a,C,B,fs,ex,t,c,n,l,m⟩=>?_) hs;subst ex;obtain rfl:=v;exact zp p t c n l g λw k=>⟨b,_,k,m⟩
end
section
variable{X:Cx}{Æ:Pn}{Z:St}{H:Hp}{s:Shared}{A:Around}{E:VS}{Q:VS}{c:Value}{b:Bool}
inductive Ĳ(K:W.Frag)(H:Hp):V->Value->Prop where|n:Ĳ K H .n (.type "NoneType")|B(x:Bool):Ĳ K H (.B x) (.type "bool")|int(i:Int):Ĳ K H (.int i) (.type "int")|str(x:Str):Ĳ K H (.str x) (.type "str")|flt(x:UInt64):Ĳ K H (.flt x) (.type "float")|l{a:Addr}{xs:List V}(e:H a=L (.l xs)):Ĳ K H (.ref a) (.type "list")|î{a:Addr}{o:Obj}{xs:List V}(e:H a=L (.î o<|.l xs)):Ĳ K H (.ref a) (.type "list")|t{a:Addr}{xs:List V}(e:H a=L (.t xs)):Ĳ K H (.ref a) (.type "tuple")|dK{a:Addr}{Ç:List (Key×V)}(e:H a=L (.dK Ç)):Ĳ K H (.ref a) (.type "dict")|dT{a:Addr}{Ç:List (List Key×V)}(e:H a=L (.dT Ç)):Ĳ K H (.ref a) (.type "dict")|i{a C dx:Addr}{fs:List (Str×V)}(e:H a=L (.i C dx fs))(cl:ĝ K C)(ha:W.findIn K (.ref C) "__class__"=L (L<|.builtin "object.__class__"))(hn:W.specialIn K (.builtin "object.__class__") "__get__"=L (L<|.builtin "getset_descriptor.__get__"))(htk:W.takesIn K (.builtin "object.__class__")=L U)(hm:W.mroIn K C (.type "object")=L U):Ĳ K H (.ref a) (.ref C)
def Y4{x u t}(I:Inv X Æ Z H s)(d:RelV x u)(ty:Ĳ X.K H x t)(e:W.kitOne X.K t c=L b)(h:∀tk,Q (.bool b) {s with toks:=tk}):wpAny (model X.prog X.w) A (call (.builtin "isinstance") [u,c]) Q E s:=by cases ty with|n=>cases show u=Value.none from d;exact Λ W.kitx_none I.ć True.intro e (λz=>nomatch z) h|B y=>cases show u=Value.bool y from d;exact Λ W.kitx_bool I.ć True.intro e (λz=>nomatch z) h|int i=>obtain⟨t,q⟩:=show∃t,u=Value.int i t from d;cases q;exact Λ W.kitx_int I.ć True.intro e (λz=>nomatch z) h|str y=>obtain⟨t,q⟩:=show∃t,u=Value.str y t from d;cases q;exact Λ W.kitx_str I.ć True.intro e (λz=>nomatch z) h|flt y=>obtain⟨t,q⟩:=show∃t,u=Value.float y t from d;cases q;exact Λ W.kitx_float I.ć True.intro e (λz=>nomatch z) h|@l a j ea=>cases show u=Value.ref a from d;obtain⟨_,_,n,_,f⟩:=I.Û a _ ea;exact Λ W.kitx_list I.ć ⟨_,f,M⟩ e (λz=>nomatch z) h|@î a ob j ea=>cases show u=Value.ref a from d;obtain⟨_,_,_,n,_,f⟩:=I.Û a _ ea;exact Λ W.kitx_list I.ć ⟨_,f,M⟩ e (λz=>nomatch z) h|@t a j ea=>cases show u=Value.ref a from d;obtain⟨_,_,_,p⟩:=show cB X.prog X.w H s.heap a (.t j)from I.Û a _ ea;refine iQ p λo f g _=>?_;exact Λ W.kitx_tuple I.ć ⟨o,f,g⟩ e (λz=>nomatch z) h|@dK a Ç ea=>cases show u=Value.ref a from d;obtain⟨_,_,r,_,p⟩:=I.Û a _ ea;refine xh p λo l k f g _=>?_;exact Λ W.kitx_dict I.ć ⟨o,f,g.1⟩ e (λz=>nomatch z) h|@dT a Ç ea=>cases show u=Value.ref a from d;obtain⟨_,_,j,_,o,l,k,f,g,_⟩:=show cB X.prog X.w H s.heap a (.dT Ç)from I.Û a _ ea;exact Λ W.kitx_dict I.ć ⟨o,f,g.1⟩ e (λz=>nomatch z) h|@i a C dx fs ea cl ha hn htk hm=>cases show u=Value.ref a from d;refine fy (rN I.Û ea) λm Ã _=>?_;obtain⟨od,J,_⟩:=Ã.look;exact Λ (W.kitx_own (cl.get _) cl.hd ha hn htk hm) I.ć J e (λz=>nomatch z) h
end
structure Ñ(k:Nat)(A:Around):Prop where
 hd:40<=k->A.handled=Y
 dp:A.depth+3*k+5<recursionLimit
 un:A.units+16*k+200<cLine
 gd:A.guards=L []
def Ñ.mono{j k A}(r:Ñ k A)(h:j<=k):Ñ j A:=⟨λz=>r.hd (by omega),by have:=r.dp;omega,by have:=r.un;omega,r.gd⟩
theorem Ñ.deeper{k A}(r:Ñ (k+1) A)(a):Ñ k (A.deeper a):=⟨λz=>r.hd (by omega),by have:=r.dp;show A.depth+1+3*k+5<_;omega,by have:=r.un;show A.units+3+16*k+200<_;omega,r.gd⟩
def zS{A:Around}{C us a}:(A.under<|.builtin "type.__call__" ⟨.ref C::us,a⟩).depth=A.depth+1:=by rfl
def zR{A:Around}{C us a}:(A.under<|.builtin "type.__call__" ⟨.ref C::us,a⟩).units=A.units+1:=rfl
def Ñ.make{k A}(r:Ñ (k+1) A)(C)(us)(a):Ñ k (A.under<|.builtin "type.__call__" ⟨.ref C::us,a⟩):=⟨λz=>r.hd (by omega),by have:=r.dp;rw[zS];omega,by have:=r.un;rw[zR];omega,r.gd⟩
def Ñ.calm{k}{A:Around}{a}(r:Ñ k (A.deeper a))(h:40<=k):A.handled.isNone=U:=by rw[show A.handled=Y from r.hd h];rfl
def Ñ.ă{k A v}(r:Ñ k A)(h:39<=k):Ñ 39 (A.mark v):=⟨λz=>by omega,by have:=r.dp;show A.depth+3*39+5<_;omega,by have:=r.un;show A.units+16*39+200<_;omega,r.gd⟩
theorem Ñ.depth{k A}(r:Ñ k A):A.depth<recursionLimit:=by have:=r.dp;omega
theorem Ñ.units{k A}(r:Ñ k A):A.units+64<cLine:=by have:=r.un;omega
def xF:TA:=λ_ H Q=>Q [] H
def ia(ta:TE)(c:TA):TA:=λa H Q=>ta a H λx e=>c a e λb d=>Q (x::b) d
section
variable{X:Cx}{e:Expr}{es:List Expr}{te:TE}{t:TA}{pos:Pos}
def bS:PA X [] xF:=λ_ _ _ _ H Q I h=>Calls.spliced_nil ⟨[],H,I,.nil,h⟩
def aG(f:PE X e te)(l:PA X es t)(hs:SE X e es:=by rfl):PA X (e::es) (ia te t):=by intro pos a s b H Q I h;rw[hs];exact Hi (ß (f _ s b H _ I h) λu m⟨x,q,j,k,i⟩=>ß (l _ _ _ b _ _ j i) λp o⟨n,g,d,r2,c⟩=>hU _ g d (.cons k r2) c)
def OK(t:TA):TE:=λc H Q=>t c H λa b=>a.length<=sizeLine/\∀p,b p=Y->Q (.ref p) (upd b p<|.t a)
def Ut(t:TA):TE:=λc H Q=>t c H λa b=>a.length<=sizeLine/\∀p,b p=Y->Q (.ref p) (upd b p<|.l a)
def FR{g}(h:PA X es t):PE X (.Tuple es g pos) (OK t):=by intro a s d H Q I f;refine wpAny_Tuple_spliced (ß (h _ _ s d H _ I f) λi j⟨k,l,c,r,z,q⟩=>⟨by rw[<-r.length];exact z,.ref _,_,c.laid (λb u e=>Ă _ e) (í _) ?_,M,q _<|c.Û.fresh<|í _⟩);exact⟨z,i,r,⟨_,ĺ _ M,M,_,M⟩⟩
def Qv(h:PA X es t):PE X (.List es pos) (Ut t):=by intro a s d H Q I f;refine wpAny_List_spliced (ß (h _ _ s d H _ I f) λg i⟨j,k,c,r,z,q⟩=>⟨by rw[<-r.length];exact z,.ref _,_,c.laid (λb u e=>Ă _ e) (í _) ?_,M,q _<|c.Û.fresh<|í _⟩);exact⟨z,g,0,r,ĺ _ M⟩
end
abbrev Sp:=List V->Hp->VK->XK->Prop
abbrev Wa:=List Env->Hp->Shared->XK->VS
structure Α(P:Program)(w:World)(K:W.Frag)(mg:Str->Option Value)(base:Heap)(A:Around)(outer:List Env)(s:Shared)(H:Hp):Prop where
 frames:A.frames=L outer
 mod:Mod K mg base
 bs:∀b o,base.get? b=L o->s.heap.get? b=L o/\H b=Y
 Κ:base.objs.size<=s.heap.objs.size
 su:s.heap.FunFrames base outer
 Ϭ:∀b∈œ outer,H b=Y
 Û:Ģ P w H s.heap
 bare:AllBare s.gens
def CE(a:List Env)(P:Program)(w:World)(H:Hp)(s:Shared)(Q:VK)(u:Value)(s':Shared):Prop:=∃v b,s'.os=s.os/\AllBare s'.gens/\Un (œ a) [] H b s.heap s'.heap/\Ģ P w b s'.heap/\RelV v u/\Q v b
def CR(CX:Wa)(a:List Env)(P:Program)(w:World)(H:Hp)(s:Shared)(Q:VK)(E:XK)(r:Result)(s':Shared):Prop:=match r with|.ok (.ret u)=>CE a P w H s Q u s'|.ok _=>False|.error e=>CX a H s E e s'
structure ä(P:Program)(w:World)(K:W.Frag)(mg:Str->Option Value)(base:Heap)(CX:Wa)(k:Nat)(f:Addr)(fd:FuncData)(ps:List Str)(sp:Sp)(hn:Around->Hp->Prop:=λ_ _=>True):Prop where
 len:∀vs H Q E,sp vs H Q E->vs.length=ps.length
 run:∀(A:Around)(outer:List Env)(s:Shared)(H:Hp)(args:Args)(us:List Value)(vs:List V)(Q:VK)(E:XK),Ñ k A->hn A H->Α P w K mg base A outer s H->BindsTo s fd args (ps.zip us)->Vals vs us->sp vs H Q E->codeAny (model P w) A (.call (.ref f) args) (CR CX outer P w H s Q E) s
abbrev Cx.Fn(X:Cx)(CX:Wa)(k:Nat)(f:Addr)(b:FuncData)(ps:List Str)(sp:Sp)(a:Around->Hp->Prop:=λ_ _=>True):Prop:=ä X.prog X.w X.K X.mg X.base CX k f b ps sp a
def ä.imp{P w K d a CX k f g ps sp b}(F:ä P w K d a CX k f g ps sp)(h:∀vs H Q E,b vs H Q E->sp vs H Q E):ä P w K d a CX k f g ps b:=⟨λvs H Q E q=>F.len _ H Q E<|h _ _ _ _ q,λA c s H e p vs Q E o i l m n j=>F.run A _ s H _ _ _ Q E o i l m n<|h _ _ _ _ j⟩
def Α.make{P w K c b A a s H}(e:Α P w K c b A a s H)(C)(us)(d):Α P w K c b (A.under<|.builtin "type.__call__" ⟨.ref C::us,d⟩) a s H:=⟨by exact e.frames,e.mod,e.bs,e.Κ,e.su,e.Ϭ,e.Û,e.bare⟩
section
variable{X:Cx}{Æ:Pn}{Z:St}{H:Hp}{s s':Shared}
def Inv.Ym(I:Inv X Æ Z H s):Α X.prog X.w X.K X.mg X.base X.A X.stack s H:=⟨I.ok.frames,I.ok.mod,I.bs,ñ I.ok.Κ I.sz,I.stack,I.vG,I.Û,I.bare⟩
def Inv.after{Q u}(I:Inv X Æ Z H s)(h:CE X.stack X.prog X.w H s Q u s'):EP X Æ Z Q u s':=by refine Zc h λv e os a un c r q=>?_;obtain⟨i,g,d,t,f⟩:=s';obtain rfl:=os;exact hU v e (I.call   un c a λb z=>absurd z<|by simp) r q
end
def Oj(sp:Sp)(ĥ:List V)(E:XK)(t:TA):TE:=λa H Q=>t a H λb c=>sp (b++ĥ) c Q E
def Binds(K:W.Frag)(b:FuncData)(ps:List Str)(ds:List Value):Prop:=∀(s:Shared)(a:List Value),K.In s.heap->(a++ds).length=ps.length->BindsTo s b ⟨a,[]⟩ (ps.zip<|a++ds)
def Binds.all{K b ps}(h:∀us,us.length=ps.length->bindArgs b ⟨us,[]⟩=pure (ps.zip us)):Binds K b ps []:=λs us _ a=>by rw[Ξ]at a⊢;exact .of_eq<|h _ a
def Passes(CX:Wa)(X:Cx)(E:XK):Prop:=∀(a:Pn)(c:St)(H:Hp)(s:Shared)(e:Value)(b:Shared),Inv X a c H s->CX X.stack H s E e b->X.xe e b
section
variable{X:Cx}{CX:Wa}{k:Nat}{f C:Addr}{fd:FuncData}{ps:List Str}{sp:Sp}{ĥ:List V}{ds:List Value}{E:XK}{x:Str}{p pos:Pos}{e:Expr}{es:List Expr}{t:TA}
def RD{b Æ}{Z:St}{H s Q us vs}(F:X.Fn CX k f fd ps sp b)(j:Ñ k X.A)(g:Binds X.K fd ps ds)(i:Vals ĥ ds)(c:Passes CX X E)(I:Inv X Æ Z H s)(r:Vals vs us)(h:sp (vs++ĥ) H Q E)(hN:b X.A H:=by exact trivial):X.wp (call (.ref f) us) (EP X Æ Z Q) X.xe s:=by
 have r2:=r.append i;have d:(us++ds).length=ps.length:=by rw[<-r2.length];exact F.len _ _ _ _ h
 refine Nb (Xf (F.run _ _ s H _ _ _ Q E j hN I.Ym (g s _ I.ć d) r2 h) λr l a=>?_);cases r with|error e=>exact c _ Z H s e _ I a|ok fl=>cases fl with|ret u=>exact I.after a|next|brk|cont=>exact False.elim a
def AG(F:X.Fn CX k f fd ps sp)(y:Ñ k X.A)(n:Gl X x)(v:X.mg x=L (.ref f))(hk:W.keepIn X.K (.ref f)=U)(u:Binds X.K fd ps ds)(w:Vals ĥ ds)(g:Passes CX X E)(j:PA X (e::es) t)(b:è x:=by decide)(l:SE X e es:=by rfl)(a:BT X pos es:=by rfl):PE X (.Call (.Name x p) (e::es) [] pos) (Oj sp ĥ E t):=by intro c s i H Q I h;exact Pf (bV I n v (Bl I.ok.mod.kin hk (ß (j _ _ s i H _ I h) λA z⟨B,D,d,r,q⟩=>⟨d.ć,RD F y u w g d r q⟩) l a) b)
def KZ(F:X.Fn CX k f fd ps sp)(l:Ñ k X.A)(d:Gl X x)(i:X.mg x=L (.ref f))(hk:W.keepIn X.K (.ref f)=U)(g:Binds X.K fd ps ds)(j:Vals ĥ ds)(c:Passes CX X E)(a:è x:=by decide):PE X (.Call (.Name x p) [] [] pos) (Oj sp ĥ E xF):=by intro b s n H Q I h;exact Pf<|bV I d i (W.callWith_K0 I.ć hk<|RD F l g j c I .nil h) a
structure Mk(K:W.Frag)(C f:Addr):Prop where
 makes:W.makesIn K C=U
 init:W.findIn K (.ref C) "__init__"=L (L<|.ref f)fn:W.isFn K (.ref f)=U
 kp:W.keepIn K (.ref C)=U
end
structure Î(N P:List Str)(sc:Scope):Prop where
 kind:sc.kind=.function
 co:sc.isCoroutine=O
 gen:sc.isGenerator=O
 nd:N.Nodup
 pre:N.take P.length=P
 par:∀x∈P,sc.names.lookup x=L .local\/sc.names.lookup x=L .cell
 nofree:∀y∈sc.names,y.2≠.free
theorem vd{kindOf x}:∀{binds m},(∀v,(x,v)∉binds)->bindL kindOf binds m x=m x
|[],_,_=>rfl|(n,v)::r,m,h=>by
 unfold bindL;rw[vd λw hw=>h w<|Ħ _ hw];split
 .have:x≠n:=by grind
  simp[this]
 .rfl
theorem vg{kindOf x}:∀{binds m},(∀v,(x,v)∉binds)->bindC kindOf binds m x=m x
|[],_,_=>rfl|(n,v)::r,m,h=>by
 unfold bindC;rw[vg λw hw=>h w<|Ħ _ hw];split;.rfl
 .have:x≠n:=by grind
  simp[this]
theorem vf{kindOf:Str->Option NameKind}{x:Str}{v:Value}:∀{P:List Str}{vs:List Value}{i:Nat}{m:Str->Option Value},P.Nodup->P[i]?=L x->vs[i]?=L v->kindOf x=L .local->bindL kindOf (P.zip vs) m x=L v|[],_,_,_,_,h,_,_=>by simp at h|_::_,[],_,_,_,_,h,_=>by simp at h|p::P,w::vs,0,m,nd,h1,h2,hk=>by simp at h1 h2;subst h1;subst h2;show bindL kindOf ((p,w)::P.zip vs) m p=_;unfold bindL;rw[vd λv a=>(Ud.mp nd).1 (Vp a).1,Ð hk];simp|p::P,w::vs,i+1,m,nd,h1,h2,hk=>by show bindL kindOf ((p,w)::P.zip vs) m x=_;unfold bindL;exact vf (i:=i) (Ud.mp nd).2 (by simpa using h1) (by simpa using h2) hk
theorem vh{kindOf x v}:∀{P:List Str}{vs}{i:Nat}{m},P.Nodup->P[i]?=L x->vs[i]?=L v->kindOf x≠L .local->bindC kindOf (P.zip vs) m x=L v|[],_,_,_,_,h,_,_=>by simp at h|_::_,[],_,_,_,_,h,_=>by simp at h|p::P,w::vs,0,m,nd,h1,h2,hk=>by simp at h1 h2;subst h1;subst h2;show bindC kindOf ((p,w)::P.zip vs) m p=_;unfold bindC;rw[vg λv a=>(Ud.mp nd).1 (Vp a).1,Õ hk];simp|p::P,w::vs,i+1,m,nd,h1,h2,hk=>by unfold bindC;exact vh (i:=i) (Ud.mp nd).2 (by simpa using h1) (by grind) hk
noncomputable def start(N:List Str)(vs:List V):St:=vs.map L++List.replicate (N.length-vs.length) Y
noncomputable def fA(CX:Wa)(P:Program)(w:World)(K:W.Frag)(mg:Str->Option Value)(base:Heap)(N:List Str)(qual:Str)(scope:Scope)(f:Addr)(cd:Value)(A:Around)(outer:List Env)(s:Shared)(H:Hp)(E:XK):Cx where prog:=P;w:=w;K:=K;mg:=mg;base:=base;A:=A.deeper<|envOfC qual scope s.heap.objs.size f cd;N:=N;Ĉ:=s;Ŗ:=H;env:=envOfC qual scope s.heap.objs.size f cd;outer:=outer;stack:=envOfC qual scope s.heap.objs.size f cd::outer;ex:=[];calm:=A.handled.isNone;fn:=λ_=>U;pn:=[];xe:=λe s'=>wpAny (model P w) (A.deeper<|envOfC qual scope s.heap.objs.size f cd) (leaving (envOfC qual scope s.heap.objs.size f cd) e) (λ_ s''=>CX outer H s E e s'') (λe' s''=>CX outer H s E e' s'') s'
def yR{sc:Scope}{n x}(h:sc.names.lookup x=L .cell):∃c,(cellsFrom n sc.names []).lookup x=L c:=by exact Be.mp<|W.cellsFrom_some _ n _<|.inl h
def X4{CX P w K J l N ps g scope f D A d s Ã H E us vs}(S:Î N ps scope)(m:Α P w K J l A d s H)(Á:vs.length=ps.length)(r:Vals vs us)(x:InCallC s s.heap.objs.size (bindL (envOfC g scope s.heap.objs.size f D).kindOf (ps.zip us) λ_=>Y) (cellsFrom (s.heap.objs.size+1) scope.names []) (bindC (envOfC g scope s.heap.objs.size f D).kindOf (ps.zip us) λ_=>Y) Ã):Inv (fA CX P w K J l N g scope f D A d s H E) [] (start N vs) H Ã:=by
 have T:ps.length<=N.length:=by have:=ê List.length S.pre;rw[Kl]at this;omega
 refine dB x.done λG tk Å R=>?_;subst Å;have o:∀b:Addr,b ∉(fA CX P w K J l N g scope f D A d s H E).ex:=λb z=>absurd (show b∈([]:List Addr)from z) (by simp);refine⟨⟨m.mod,S.kind,M,M,í _,λy z c G j=>?_,λy C=>?_,λy c _ h=>?_,λz=>Option.isNone_iff_eq_none.mp z,Around.frames_deeper m.frames,.inr ⟨M,M⟩,λb z=>absurd z<|o b,m.bs,m.Κ,λb _ _=>o b,λb z=>absurd z<|o b,m.su,m.Ϭ⟩,M,m.bare,Un.kept R,⟨_,x.toInCall.ns,λi y v G j Ä=>?_⟩,λy c h=>⟨_,x.cell y c h⟩,m.Û.fresh<|í _,λy c h=>?_,λp B=>absurd (show p∈([]:Pn)from B) (by simp),m.Û.kept R,?_⟩;.exact name_of_addr x.apart (Pa G) (Pa j)
 .rcases C with C|C;.exact yR C
  .exact absurd M (S.nofree _<|Pa C)
 .exact Nc (x.above y c<|Pa h)
 .have I:i<vs.length:=by
   unfold start at j;by_cases I:i<vs.length;.exact I
   .rw[Qa (by simpa using I)]at j;rw[Ar]at j;split at j<;>cases j
  have X:vs[i]?=L v:=by unfold start at j;rw[Qb (by simpa using I),Ų]at j;cases e:vs[i]? with|none=>rw[e]at j;cases j|some a=>rw[e]at j;cases j;rfl
  refine fy (r.get X) λu Q Â=>?_;have B:ps[i]?=L y:=by rw[<-S.pre,List.getElem?_take_of_lt<|by omega];exact G
  have t:ps.Nodup:=by rw[<-S.pre];exact S.nd.sublist<|List.take_sublist _ _
  refine⟨u,Â,?_⟩;rcases S.par y (List.mem_of_getElem? B)with k|k;.exact .inl ⟨k,vf t B Q k⟩
  .obtain⟨c,e⟩:=yR (n:=s.heap.objs.size+1) k;refine .inr ⟨.inl k,c,e,?_⟩;have q:=x.cell y c e;rw[vh t B Q (by show scope.names.lookup y≠_;rw[k];decide)]at q;exact q
 .exact m.Û.fresh (Nc<|x.above y c<|Pa h)
 .unfold start;show _=N.length;rw[ϕ,Į,Xh];omega
def uM{CX P w K D h k f name c g i scope dV kV C Ä d ct oc an od G N ps sp}(lk:K.lookup f=L ⟨oc,od,.func<|W.fnOf name c g i scope dV kV C Ä an d ct,G⟩)(Ã:W.codeIn K d c=U)(S:Î N ps scope)(len:∀vs H Q E,sp vs H Q E->vs.length=ps.length){X}(m:∀A a s H vs Q E,Ñ k (A.deeper<|envOfC c scope s.heap.objs.size f d)->X A H->sp vs H Q E->∃t,ã (fA CX P w K D h N c scope f d A a s H E) i t/\t {nx:=λ_ H'=>Q .n H',rt:=Q} (start N vs) H):ä P w K D h CX (k+1) f (W.fnOf name c g i scope dV kV C Ä an d ct) ps sp X:=by
 refine⟨len,λA a s H Â us vs Q E hr hN z hb r B=>?_⟩;have Á:K.In s.heap:=z.mod.kin.keeps λb o e=>(z.bs b o e).1;have lim:s.heap.NoLimit:=z.mod.nolimit.keeps λb o e=>(z.bs b o e).1;have l:∀y∈ps.zip us,scope.names.lookup y.1=L .local\/scope.names.lookup y.1=L .cell/\((cellsFrom (s.heap.objs.size+1) scope.names []).lookup y.1).isSome=U:=λ⟨n,v⟩hy=>by
  rcases S.par n (Vp hy).1 with q|q;.exact .inl q
  .exact .inr ⟨q,W.cellsFrom_some _ _ _<|.inl q⟩
 refine codeAny_call_function hr.depth (Á _ _ lk) M S.co S.gen M (W.codeRec_of Á Ã)<|hb _ _ _ _ ?_;refine wpAny_newFunctionEnv_cells S.kind l λa0 he T x=>?_;subst he;refine⟨lim.keeps x.toInCall.keep,codeAny_func ?_⟩;refine fy (m A a s H vs Q E (hr.deeper _) hN B) λt ht hq=>?_;have I:Inv (fA CX P w K D h N c scope f d A a s H E) [] (start N vs) H T:=X4 S z (len _ _ _ _ B) r x;refine Ĝ (ht [] T (start N vs) H _ I hq) (λfl R p=>?_) λe R p=>p;have fin:∀{j:St}{H':Hp}{v:V}{u:Value},Inv (fA CX P w K D h N c scope f d A a s H E) [] j H' R->RelV v u->Q v H'->CE a P w H s Q u R:=λ{j H' v u}J Å q=>Rg v H' J.os J.bare J.base J.Û Å q;cases fl with|ret u=>refine xh p λv j H' J Å q=>?_;exact fin J Å q|next=>obtain⟨j,H',J,q⟩:=p;exact fin (v:=V.n) (u:=Value.none) J M q|brk=>obtain⟨_,_,_,q⟩:=p;exact False.elim q|cont=>obtain⟨_,_,_,q⟩:=p;exact False.elim q
section
variable{X:Cx}{x:Str}{p pos:Pos}{e:Expr}{es:List Expr}{t:TA}{id T:String}{r:List V->Hp->VK->Prop}
def Gk(r:List V->Hp->VK->Prop)(t:TA):TE:=λa H Q=>t a H λb c=>r b c Q
def x6(o:bG X (.builtin id) r)(k:Gl X x)(m:X.mg x=Y)(n:bootBuiltins x=L (.builtin id))(g:PA X (e::es) t)(f:x≠"__name__":=by decide)(b:è x:=by decide)(j:SE X e es:=by rfl)(a:BT X pos es:=by rfl):PE X (.Call (.Name x p) (e::es) [] pos) (Gk r t):=by intro c s d H Q I h;exact Pf (lT I k m n (Mx (ß (g _ _ s d H _ I h) λv u⟨w,y,l,q,i⟩=>o _ _ d _ _ _ Q l q i) j a) f b)
def nq(o:bG X (.type T) r)(k:Gl X x)(m:X.mg x=Y)(n:bootBuiltins x=L (.type T))(g:PA X (e::es) t)(f:x≠"__name__":=by decide)(b:è x:=by decide)(j:SE X e es:=by rfl)(a:BT X pos es:=by rfl):PE X (.Call (.Name x p) (e::es) [] pos) (Gk r t):=by intro c s d H Q I h;exact Pf (lT I k m n (Ag (ß (g _ _ s d H _ I h) λv u⟨w,y,l,q,i⟩=>o _ _ d _ _ _ Q l q i) j a) f b)
end
end L2
namespace HT
open PySem PyProof.Rows
section
open PySem.SeqAt
open PySem.AutoSeq1(wpAny_loadPart')
open PySem.MeetsSeq PySem.MeetsSeq2 PySem.MeetsSeq3
end
section
variable{prog:Program}{w:World}{A:Around}{E:VS}{s:Shared}
def ZU{t b:Addr}{vs ws:List Value}{Q:VS}(v:IsTup s.heap t vs.toArray)(u:IsTup s.heap b ws.toArray)(j:vs≠[])(q:ws=[]->Q (.ref t) s)(r:ws≠[]->Q (.ref s.heap.objs.size) {s with heap:=s.heap.push {cls:=.type "tuple",data:=.seq (vs++ws).toArray}})(hsz:vs.length+ws.length<=sizeLine):wpAny (model prog w) A (binaryOp .Add (.ref t)<|.ref b) Q E s:=by
 obtain⟨⟨cls,l,data,i⟩,h,m,n,k⟩:=id v;obtain⟨⟨o,g,data2,f⟩,a,c,p,d⟩:=id u;simp only at m k c d;subst m k c d;have e:vs.toArray++ws.toArray=(vs++ws).toArray:=by simp
 by_cases hw:ws=[];.exact Zk ⟨_,h,M⟩ ⟨_,a,M⟩ Zp seq_tuple_add Wq Zq (Dr _ _) (tuple_addW1 t b vs.toArray ws.toArray n p l g i f (by simpa using j)<|by simp[hw]) ⟨h,a,q hw⟩
 .refine Zk ⟨_,h,M⟩ ⟨_,a,M⟩ Zp seq_tuple_add Wq Zq (Dr _ _) (tuple_addW2 t b vs.toArray ws.toArray n p l g i f (by simpa using j) (by simpa using hw)<|by rw[ς,ς];exact hsz) ⟨h,a,?_⟩;rw[e];exact r hw
noncomputable def Ā(n d:Nat):Option Int->Nat|none=>d|some v=>if v<0 then(v+(n:Int)).toNat else min v.toNat n
def TU(n d)(b:d<=n)(o):Ā n d o<=n:=by cases o with|none=>exact b|some v=>
 show(if v<0 then(v+n).toNat else min _ n)<=n;by_cases a:v<0;.rw[Ð a];omega
 .rw[Õ a];exact Jl _ _
def ZE(v)(n d:Nat):(if v<0 then max (v+(n:Int)) 0 else min v n)=(Ā n d (L v):Nat):=by
 show(if v<0 then max _ 0 else min v n)=if v<0 then(v+n).toNat else min _ n;by_cases a:v<0;.simp only[Ð a];omega
 .simp [Õ a];omega
def S5(lo hi)(n:Nat):Builtin.Slice.sliceAdjust lo hi 1 n=((Ā n 0 lo:Int),(Ā n n hi:Int)):=by
 refine Prod.ext ?_ ?_;.cases lo with|none=>rfl|some v=>exact ZE v n 0
 .cases hi with|none=>rfl|some v=>exact ZE v n n
def zA(i j:Nat):Builtin.Slice.slicePlaces (i:Int) (j:Int) 1=j-i:=by
 unfold Builtin.Slice.slicePlaces;have a:(1:Int)>0:=by omega
 simp only[a,ϭ,Int.ediv_one];split<;>omega
def pS{v o Q}(p:IsPart v o)(h:Q o s):wpAny (model prog w) A (Builtin.Slice.slicePartIndex v) Q E s:=by cases p with|none=>exact slicePart_none h|int i t=>exact slicePart_int h
def mi{sl c d lo hi n}{Q:Int×Int×Nat->Shared->Prop}(hs:s.heap.IsSliceOf sl c d .none)(pl:IsPart c lo)(f:IsPart d hi)(h:Q ((Ā n 0 lo:Nat),1,Ā n n hi-Ā n 0 lo) s):wpAny (model prog w) A (Builtin.Slice.sliceApplied (.ref sl)<|pure n) Q E s:=by refine iQ (id hs) λos b e a=>?_;refine Í<|Í<|Ń b a (x:=c) M<|Í<|Ń b a (x:=d) M<|Í<|Ń b a M<|ì ?_;refine Í<|slicePart_none ?_;refine Í<|pS pl<|Í<|pS f<|Í<|ì ?_;show wpAny _ _ (match Builtin.Slice.sliceAdjust lo hi 1 (n:Int)with|(lo,hi)=>pure (lo,(1:Int),Builtin.Slice.slicePlaces lo hi 1)) _ _ s;rw[S5 lo hi n];show wpAny _ _ (pure _) _ _ s;rw[zA];exact ì h
def G2(xs:Array Value)(i k:Nat):((List.range k).filterMap λ(m:Nat)=>xs[((i:Int)+(m:Int)*1).toNat]?).toArray=((xs.toList.drop i).take k).toArray:=by
 have e:(λ(m:Nat)=>xs[((i:Int)+(m:Int)*1).toNat]?)=λm=>xs[i+m]?:=by
  funext m;have:((i:Int)+(m:Int)*1).toNat=i+m:=by omega
  rw[this]
 rw[e];have:=pick_run xs i k;rw[List.filterMap_map]at this;have a:((λx=>xs[x]?)∘λx=>i+x)=λm=>xs[i+m]?:=rfl;rw[a]at this;rw[this]
def kZ{t sl Ú g i lo hi Q}(b:IsTup s.heap t Ú)(hs:s.heap.IsSliceOf sl g i .none)(pl:IsPart g lo)(k:IsPart i hi)(hw:¬(Ā Ú.size 0 lo=0/\Ā Ú.size Ú.size hi=Ú.size))(h:Q (.ref s.heap.objs.size) {s with heap:=s.heap.push {cls:=.type "tuple",data:=.seq ((Ú.toList.drop<|Ā Ú.size 0 lo).take<|Ā Ú.size Ú.size hi-Ā Ú.size 0 lo).toArray}})(hsz:Ú.size<=sizeLine):wpAny (model prog w) A (getItem (.ref t)<|.ref sl) Q E s:=by
 have a:sizeOk (.seq ((Ú.toList.drop<|Ā Ú.size 0 lo).take<|Ā Ú.size Ú.size hi-Ā Ú.size 0 lo).toArray):=by show((Ú.toList.drop<|Ā Ú.size 0 lo).take<|Ā Ú.size Ú.size hi-Ā Ú.size 0 lo).toArray.size<=sizeLine;rw[ς,Kl,List.length_drop,Qf];omega
 have l:Ā Ú.size Ú.size hi<=Ú.size:=TU _ _ (í _) hi;refine iQ (id hs) λos e d j=>?_;have c:s.TypeIs (.ref sl) "slice":=⟨os,e,d⟩;unfold getItem;try with_reducible refine π ?_
 first|refine Í<|ì ?_|skip
 refine Í (wpAny_sequenceKey b.typeIs (by decide) ?_);refine Í<|Yh (name:=Str.ofString "__getitem__") b.typeIs Xr<|Lc Xr b.typeIs entry_tuple_getitem ?_<|args_tuple_getitem _ _;show wpAny _ _ (Builtin.Tuple.tupleItemsOf (.ref t)>>=_) _ _ s;refine Í<|tupleItemsOf_ b ?_;refine Í<|wpAny_typeOf c ?_;rw[Ð (by decide)];refine Í<|mi hs pl k ?_;have f:¬(((Ā Ú.size 0 lo:Nat):Int)==0&&(1:Int)==1&&Ā Ú.size Ú.size hi-Ā Ú.size 0 lo==Ú.size)=U:=by grind
 show wpAny _ _ (if(((Ā Ú.size 0 lo:Nat):Int)==0&&(1:Int)==1&&Ā Ú.size Ú.size hi-Ā Ú.size 0 lo==Ú.size)=U then _ else _) _ _ s;rw[Õ f,G2];exact Í (m:=Builtin.Tuple.tupleExact _)<|Ol (ì ⟨_,M,ì h⟩) a
end
end HT
namespace L2
abbrev TO:=St->Hp->(Option Int->Hp->Prop)->Prop
def PO(X:Cx)(e:Option Expr)(t:TO):Prop:=∀(a:Pn)(s:Shared)(b:St)(H:Hp)(Q:Option Int->Hp->Prop),Inv X a b H s->t b H Q->X.wp (evalPart e X.env) (λu d=>∃o c,Inv X a b c d/\IsPart u o/\Q o c) X.xe s
def NY:TO:=λ_ H Q=>Q Y H
def XO(t:TE):TO:=λa H Q=>t a H λx b=>∃i,x=.int i/\Q (L i) b
section
variable{X:Cx}{e:Expr}{te:TE}{lo hi:Option Expr}{tl th:TO}{pos p2:Pos}
def DG:PO X Y NY:=by intro a s b H Q I h;exact ì ⟨_,H,I,.none,h⟩
def OH(h:PE X e te):PO X (L e) (XO te):=by intro a s b H Q I hw;refine ß (h _ s b H _ I hw) λu j⟨x,g,d,f,c⟩=>?_;obtain⟨i,rfl,q⟩:=c;obtain⟨t,rfl⟩:=f;exact⟨_,g,d,.int i t,q⟩
def Ο(X:Cx)(r:V->Option Int->Option Int->Hp->VK->Prop):Prop:=∀(a:Pn)(s:Shared)(f:St)(H:Hp)(x:V)(v c d:Value)(lo hi:Option Int)(b:Addr)(Q:VK),Inv X a f H s->RelV x v->s.heap.IsSliceOf b c d .none->IsPart c lo->IsPart d hi->r x lo hi H Q->∃T id,typeLookup (.type T) "__getitem__"=pure (L<|.builtin id)/\s.TypeIs v T/\X.wp (getItem v<|.ref b) (EP X a f Q) X.xe s
def Ο.or{r f}(h:Ο X r)(h':Ο X f):Ο X λx lo hi H Q=>r x lo hi H Q\/f x lo hi H Q:=by
 intro a s c H x v k l lo hi j Q I g b d i q;rcases q with q|q;.exact h _ s c H x v _ _ _ _ _ Q I g b d i q
 .exact h' _ s c H x v _ _ _ _ _ Q I g b d i q
def UI(r:V->Option Int->Option Int->Hp->VK->Prop)(te:TE)(tl th:TO):TE:=λa H Q=>te a H λx d=>tl a d λl c=>th a c λu b=>r x l u b Q
def xY{r}(k:Ο X r)(E:PE X e te)(J:PO X lo tl)(n:PO X hi th):PE X (.Subscript e (.Slice lo hi Y p2) pos) (UI r te tl th):=by intro a s c H Q I h;refine Subscript_ (ß (E a s c H _ I h) λv j⟨x,N,t,Å,D⟩=>wpAny_Slice<|ß (J a j c N _ t D) λg B⟨l,o,C,G,z⟩=>ß (n a B c o _ C z) λf d⟨u,i,w,y,A⟩=>ì ?_);have I4:Inv X a c i {d with heap:=d.heap.push {cls:=.type "slice",data:=.fields #[g,f,.none]}}:=w.kept λb ob q=>Ă _ q;refine kr (k a _ c i x v g f l u d.heap.objs.size Q I4 Å (Heap.IsSliceOf.new ..) G y A) λT id m K p=>?_;exact tail_any K m p<|M
def Wg(xs:List V)(lo hi:Option Int):List V:=(xs.drop<|HT.Ā xs.length 0 lo).take<|HT.Ā xs.length xs.length hi-HT.Ā xs.length 0 lo
def oC(xs)(lo hi):(Wg xs lo hi).length<=xs.length:=by unfold Wg;rw[Kl,List.length_drop];omega
def HK(K:W.Frag):V->Option Int->Option Int->Hp->VK->Prop:=λx lo hi H Q=>∃a b,x=.ref a/\ü K H a b/\¬(HT.Ā b.length 0 lo=0/\HT.Ā b.length b.length hi=b.length)/\∀p,H p=Y->Q (.ref p) (upd H p<|.t<|Wg b lo hi)
def CU:Ο X (HK X.K):=by
 intro g s w H x v u y lo hi t Q I l k n p h;refine mJ h λa i f m hw q=>?_;subst f;cases l;refine iQ (I.tuple m) λd r j o=>?_;have c:d.toArray.size=i.length:=by rw[ς];exact r.length.symm
 refine hU "tuple" _ Xr.lookup j.typeIs ?_;refine HT.kZ j k n p (by grind) ?_ (by omega);rw[c];refine(hU (.ref s.heap.objs.size) _ (I.laid (t':=s.toks) (λb ob q=>Ă _ q) (í _) ?_) M<|q _<|I.Û.fresh<|í _);exact⟨ñ (oC i lo hi) o,_,(r.drop _).take _,IsTup.new _ _⟩
def XN(K:W.Frag):R2:=λx y H Q=>∃a b d c,x=.ref a/\y=.ref b/\ü K H a d/\ü K H b c/\d≠[]/\d.length+c.length<=sizeLine/\(c=[]->Q (.ref a) H)/\(c≠[]->∀p,H p=Y->Q (.ref p) (upd H p<|.t<|d++c))
def Vals.v8{xs us}(r:Vals xs us):us=[]↔ xs=[]:=by cases r with|nil|cons _ _=>simp
def EX:ë X (binaryOp .Add) (XN X.K):=by intro f s C H x y v u Q I B i h;obtain⟨a,b,j,p,rfl,rfl,r,A,n,d,t,m⟩:=h;cases B;cases i;obtain⟨l,c,k,_⟩:=I.tuple r;obtain⟨g,r2,p2,_⟩:=I.tuple A;refine HT.ZU k p2 (λz=>n<|c.v8.mp z) (λz=>⟨.ref a,H,I,M,t<|r2.v8.mp z⟩) (λz=>?_) (by rw[<-c.length,<-r2.length];exact d);refine⟨.ref s.heap.objs.size,_,I.laid (t':=s.toks) (o:=.t<|j++p) (λb ob q=>Ă _ q) (í _) ?_,M,m (λw=>z<|r2.v8.mpr w) _<|I.Û.fresh<|í _⟩;exact⟨by rw[ϕ];exact d,_,c.append r2,IsTup.new _ _⟩
end
noncomputable def Ů(n:Nat)(i:Int):Option Nat:=if 0<=i then if i<n then L i.toNat else Y else if -(n:Int)<=i then L (i+n).toNat else Y
def ŏ{α:Type}(xs:List α)(i:Int):Option α:=(Ů xs.length i).bind λj=>xs[j]?
def QG{n i j}(h:Ů n i=L j):seqIndex? i n=L j/\j<n/\-n<=i/\i<n:=by
 unfold Ů at h;by_cases b:0<=i
 .rw[Ð b]at h;by_cases a:i<n;.rw[Ð a]at h;have e:=ŧ h;exact⟨by rw[seqIndex_of b a,e],by omega,by omega,a⟩
  .rw[Õ a]at h;cases h
 .rw[Õ b]at h;by_cases a:-(n:Int)<=i;.rw[Ð a]at h;have e:=ŧ h;exact⟨by rw[seqIndex_neg (by omega) a,e],by omega,a,by omega⟩
  .rw[Õ a]at h;cases h
def ME{α xs i}{v:α}(h:ŏ xs i=L v):∃j,seqIndex? i xs.length=L j/\xs[j]?=L v/\j<xs.length/\-xs.length<=i/\i<xs.length:=by unfold ŏ at h;cases e:Ů xs.length i with|none=>rw[e]at h;cases h|some j=>rw[e]at h;refine Mt (QG e) λa d b c=>?_;exact⟨j,a,h,d,b,c⟩
def lu(b:Expr):Prop:=∀o i,subscripted b O o i=operate [o,i] (getItem o i)
def ξ(X:Cx)(r:R2):Prop:=∀(c a:Expr)(b:Pn)(s:Shared)(d:St)(H:Hp)(x y:V)(v u:Value)(Q:VK),Inv X b d H s->RelV x v->RelV y u->r x y H Q->subscripted a O v u=operate [v,u] (getItem v u)->X.wp (subscriptTail c a v u) (EP X b d Q) X.xe s
def Ih(X:Cx)(id:String)(r:V->List V->Hp->VK->Prop):Prop:=∀(a:Pn)(s:Shared)(c:St)(H:Hp)(x:V)(b:List V)(v:Value)(d:List Value)(Q:VK),Inv X a c H s->RelV x v->Vals b d->r x b H Q->X.wp (call (.builtin id) (v::d)) (EP X a c Q) X.xe s
section
variable{X:Cx}{a b:Expr}{ta tb:TE}{pos:Pos}
def ξ.or{r j}(h:ξ X r)(h':ξ X j):ξ X λx y H Q=>r x y H Q\/j x y H Q:=by
 intro c d f s i H x y v u Q I k e q g;rcases q with q|q;.exact h _ _ _ s i H x y v u Q I k e q g
 .exact h' _ _ _ s i H x y v u Q I k e q g
def NA{r}(k:ξ X r)(i:PE X a ta)(j:PE X b tb)(hs:lu b):PE X (.Subscript a b pos) (Mh r ta tb):=by intro c s f H Q I h;exact Subscript_ (Ss i j I h λv u l x y m g e d q=>k a b _ _ f _ x y v u Q g e d q<|hs _ _)
def EK(K:W.Frag):R2:=λx y H Q=>∃p c i v,x=.ref p/\y=.int i/\ÿ K H p c/\ŏ c i=L v/\Q v H
def FK(K:W.Frag):R2:=λx y H Q=>∃p c i v,x=.ref p/\y=.int i/\ü K H p c/\ŏ c i=L v/\Q v H
def NX:ξ X (EK X.K):=by
 intro e g c s A H x y v u Q I N C h n;obtain⟨p,P,i,z,rfl,rfl,Å,E,q⟩:=h;cases N;obtain⟨t,rfl⟩:=C;obtain⟨f,r,m,S⟩:=I.list Å;obtain⟨j,d,Ã,T,K,D⟩:=ME E;obtain⟨w,o,l⟩:=r.get Ã;have G:=r.length;have R:=p8;have fin:EP X c A Q w s:=⟨z,H,I,l,q⟩;by_cases B:0<=i
 .have k:i.toNat=j:=by rw[seqIndex_of B D]at d;exact ŧ d
  exact item_listR m.isList B (by omega) (by rw[k];simpa using o) fin n
 .have k:(i+(f.toArray.size:Int)).toNat=j:=by rw[seqIndex_neg (by omega) K]at d;rw[ς,<-G];exact ŧ d
  exact subscriptTail_builtinR (x:=w) m.isList.typeIs slot_list_getitem.lookup (wpAny_getItem_list_neg (Q:=λr J=>r=w/\EP X c A Q r J) m.isList (by omega) (by rw[ς]<;>omega) (by omega) (by rw[k];simpa using o) ⟨M,fin⟩) n
def XQ:ξ X (FK X.K):=by intro c d f s G H x y v u Q I A k h l;obtain⟨p,C,i,z,rfl,rfl,o,n,q⟩:=h;cases A;obtain⟨t,rfl⟩:=k;obtain⟨m,r,g,J⟩:=I.tuple o;obtain⟨j,Å,B,Ã,P,K⟩:=ME n;obtain⟨w,D,e⟩:=r.get B;have N:=r.length;have E:=p8;exact subscriptTail_builtinR g.typeIs slot_tuple_getitem.lookup (getItem_tuple (j:=j) g (by omega) (by omega) (by grind) (by grind) ⟨M,⟨z,H,I,e,q⟩⟩) l
def zQ(È:List Value)(n j:Nat)(u:Value):Obj.mapSeq (·.setIfInBounds j u) {cls:=.type "list",data:=.seq È.toArray n}={cls:=.type "list",data:=.seq (È.set j u).toArray n}:=by simp[Obj.mapSeq]
theorem Inv.lst{Æ:Pn}{Z:St}{H:Hp}{s:Shared}{p:Addr}{xs:List V}(I:Inv X Æ Z H s)(h:H p=L (.l xs)):∃(È:List Value)(n:Nat),Vals xs È/\s.heap.get? p=L {cls:=.type "list",data:=.seq È.toArray n}/\xs.length<=sizeLine:=by obtain⟨z,È,n,r,e⟩:=I.Û p _ h;exact⟨È,n,r,e,z⟩
def Inv.DT{Æ:Pn}{Z:St}{H:Hp}{s:Shared}{p:Addr}{xs ys:List V}{È χ:List Value}{n c:Nat}{f:Obj->Obj}(I:Inv X Æ Z H s)(h:H p=L (.l xs))(i:s.heap.get? p=L {cls:=.type "list",data:=.seq È.toArray n})(d:f {cls:=.type "list",data:=.seq È.toArray n}={cls:=.type "list",data:=.seq χ.toArray c})(r:Vals ys χ)(hz:ys.length<=sizeLine)(t:Nat):Inv X Æ Z (upd H p<|.l ys) {s with heap:=s.heap.update p f,toks:=t}:=by
 have e:(s.heap.update p f).get? p=L {cls:=.type "list",data:=.seq χ.toArray c}:=by rw[Ob f i (by rw[d]<;>rfl),d]
 refine I.write (x:=p) (e:=p) (by rw[h];trivial) (.inl rfl) (λb u g q=>(ϟ _ _<|ö g).trans q) ⟨_,e⟩ ?_;exact⟨hz,χ,c,r,e⟩
def YN:V->V->V->Hp->(Hp->Prop)->Prop:=λo i v H Q=>∃p c k j,o=.ref p/\i=.int k/\H p=L (.l c)/\Ů c.length k=L j/\Q (upd H p<|.l<|c.set j v)
def set_list:Ny X YN:=by
 intro d s C H o i v Å N u Q I J E B h;obtain⟨p,A,k,j,rfl,rfl,x,G,q⟩:=h;cases J;obtain⟨t,rfl⟩:=E;obtain⟨c,n,r,g,D⟩:=I.lst x;obtain⟨e,Ã,y,z⟩:=QG G;have l:=r.length;have K:=p8;have m:Inv X d C (upd H p<|.l<|A.set j v) {s with heap:=s.heap.update p (Obj.mapSeq (·.setIfInBounds j u))}:=I.DT x g (zQ c n j u) (r.set B j) (by rw[Sf];exact D) s.toks;by_cases w:0<=k
 .have f:k.toNat=j:=by rw[seqIndex_of w z]at e;exact ŧ e
  exact W.ki_setAt g w (by omega) (by rw[ς,<-l];exact z) (by rw[f];exact⟨_,m,q⟩)
 .have f:(k+(c.toArray.size:Int)).toNat=j:=by rw[seqIndex_neg (by omega) y]at e;rw[ς,<-l];exact ŧ e
  exact W.ki_setBack g (by omega) (by rw[ς,<-l];exact y) (by omega) (by rw[f];exact⟨_,m,q⟩)
def tr(lo hi)(n):(sliceBounds lo hi Y n).1=(HT.Ā n 0 lo:Nat)/\(sliceBounds lo hi Y n).2.1=(HT.Ā n n hi:Nat)/\(sliceBounds lo hi Y n).2.2=1:=by
 refine⟨?_,?_,M⟩;.cases lo with|none=>simp[sliceBounds,HT.Ā]|some i=>
  simp only[sliceBounds,HT.Ā,Option.getD_none,show(1:Int)>0 by decide,ϭ];by_cases h:i<0;.simp only[h,ϭ]<;>omega
  .simp only[h,Ib]<;>omega
 .cases hi with|none=>simp[sliceBounds,HT.Ā]|some i=>
  simp only[sliceBounds,HT.Ā,Option.getD_none,show(1:Int)>0 by decide,ϭ];by_cases h:i<0;.simp only[h,ϭ]<;>omega
  .simp only[h,Ib]<;>omega
def qL(È:List Value)(lo hi):slicePick È.toArray lo hi Y=((È.drop<|HT.Ā È.length 0 lo).take<|HT.Ā È.length È.length hi-HT.Ā È.length 0 lo).toArray:=by obtain⟨c,e,d⟩:=tr _ _ _;unfold slicePick;rw[c,e,d];simp only[sliceRange_one,pick_run,ς]
def GK(K:W.Frag):V->Option Int->Option Int->Hp->VK->Prop:=λx lo d H Q=>∃a c,x=.ref a/\ÿ K H a c/\∀p,H p=Y->Q (.ref p) (upd H p<|.l<|Wg c lo d)
def FW:Ο X (GK X.K):=by intro e s w H x v u y lo p t Q I j i m o h;refine kr h λa g d k q=>?_;subst d;cases j;refine iQ (I.list k) λl r f n=>?_;have c:=r.length;refine hU "list" _ slot_list_getitem.lookup f.isList.typeIs (wpAny_getItem_list_slice f.isList i m o .none (by simp) ?_<|by grind);rw[qL,<-c];refine hU (.ref s.heap.objs.size) _ (I.laid (λb ob q=>Ă _ q) (í _) ?_) M<|q _<|I.Û.fresh<|í _;exact⟨ñ (oC g lo p) n,_,0,(r.drop _).take _,ĺ _ M⟩
def u9:bG X (.builtin "len") λxs H Q=>∃p ys,xs=[.ref p]/\(ÿ X.K H p ys\/ü X.K H p ys)/\Q (.int ys.length) H:=by
 intro j s n H xs o Q I r h;refine kr h λp ys g d q=>?_;subst g;obtain⟨u,rfl,k⟩:=vals1 r;cases k;have m:=p8;rcases d with d|d;.obtain⟨e,i,f,l⟩:=I.list d;have c:=i.length;exact Calls.call_len_list f.isList (by grind) ⟨.int ys.length,H,I.tok _,⟨s.toks+1,by grind⟩,q⟩
 .obtain⟨e,i,f,l⟩:=I.tuple d;have c:=i.length;exact len_tuple f (by grind) ⟨.int ys.length,H,I.tok _,⟨s.toks+1,by grind⟩,q⟩
def u7:bG X (.builtin "len") λxs H Q=>∃z,xs=[.str z]/\z.length<=sizeLine/\Q (.int z.length) H:=by intro d s f H xs i Q I r h;refine iQ h λz c g q=>?_;subst c;obtain⟨u,rfl,t,rfl⟩:=vals1 r;have e:=p8;exact len_str (by omega)<|hU (.int _) H (I.tok _) ⟨_,M⟩ q
def bG.or{f r e}(h:bG X f r)(h':bG X f e):bG X f λxs H Q=>r xs H Q\/e xs H Q:=by
 intro c s g H xs i Q I d q;rcases q with q|q;.exact h _ s g H _ _ Q I d q
 .exact h' _ s g H _ _ Q I d q
def u6:bG X (.type "list") λxs H Q=>∃p ys,xs=[.ref p]/\(ÿ X.K H p ys\/ü X.K H p ys)/\∀l,H l=Y->Q (.ref l) (upd H l<|.l ys):=by
 intro k s B H xs D Q I r h;refine kr h λp ys y t q=>?_;subst y;obtain⟨u,rfl,C⟩:=vals1 r;cases C;have fin:∀(c:List Value),Vals ys c->ys.length<=sizeLine->∀(d:Heap)(g:Nat),(∀b A,s.heap.get? b=L A->d.get? b=L A)->d.get? s.heap.objs.size=L _->EP X k B Q _ _:=λc f j d g m e=>(hU (.ref s.heap.objs.size) _ (I.laid (t':=s.toks) m (í _)<|show cB X.prog X.w _ d _ (.l ys)from⟨j,c,g,f,e⟩) M<|q _<|I.Û.fresh<|í _);rcases t with t|t;.obtain⟨c,f,x,j⟩:=I.list t;have i:=f.length;obtain⟨o,w,z,n,v⟩:=x.isList;exact call_list_seq p (.inl rfl) w z v (λd g m e=>fin c f j d g m e) (by grind)
 .obtain⟨c,f,x,j⟩:=I.tuple t;have i:=f.length;obtain⟨o,w,z,n,v⟩:=x;exact call_list_seq p (.inr rfl) w z v (λd g m e=>fin c f j d g m e) (by grind)
def si:bG X (.type "tuple") λxs H Q=>∃p ys,xs=[.ref p]/\((ÿ X.K H p ys/\∀l,H l=Y->Q (.ref l) (upd H l<|.t ys))\/ü X.K H p ys/\Q (.ref p) H):=by
 intro i s w H xs y Q I r h;obtain⟨p,ys,rfl,h⟩:=h;obtain⟨u,rfl,n⟩:=vals1 r;cases n;rcases h with⟨f,q⟩|⟨f,q⟩;.obtain⟨c,g,d,m⟩:=I.list f;have j:=g.length;refine call_tuple_list d.isList (λx t=>?_) (by grind);have k:=I.kept (t':=s.toks) t;have v:=k.laid (t':=s.toks) (λb o e=>Ă _ e) (í _) (show cB _ X.w _ _ _ (.t ys)from⟨m,c,g,IsTup.new _ _⟩);exact hU (.ref _) _ v M<|q _<|k.Û.fresh<|í _
 .obtain⟨c,g,d,m⟩:=I.tuple f;exact call_tuple_same d<|hU (.ref p) H I M q
def Nw(K:W.Frag)(T:String)(x:V)(H:Hp):Prop:=match x with|.str _=>T="str"|.int _=>T="int"|.ref p=>(T="list"/\∃d,ÿ K H p d)\/(T="tuple"/\∃o,K.lookup p=L o/\o.cls=.type "tuple"/\o.dict=Y)\/T="dict"/\((∃c,H p=L (.dK c))\/∃c,H p=L (.dT c))\/T="set"/\∃S n,H p=L (.set S n)|_=>False
def RU{Æ}{Z:St}{H s T x v}(I:Inv X Æ Z H s)(r:RelV x v)(ty:Nw X.K T x H):
 s.TypeIs v T/\∀a,v=.ref a->∃ob,s.heap.get? a=L ob/\ob.dict=Y:=by cases x with|str z=>obtain⟨t,rfl⟩:=r;cases show T="str"from ty;exact⟨Nf s z t,λ_ e=>nomatch e⟩|int i=>obtain⟨t,rfl⟩:=r;cases show T="int"from ty;exact⟨typeIs_int s i t,λ_ e=>nomatch e⟩|ref p=>
  cases r;rcases ty with⟨rfl,q,l⟩|⟨rfl,o,d,m,g⟩|⟨rfl,d⟩|⟨rfl,S,n,d⟩;.obtain⟨k,_,j,_⟩:=I.list l;refine⟨j.isList.typeIs,λa e=>?_⟩;cases e;obtain⟨o,n,e,c,g,_⟩:=j;exact⟨o,e,g⟩
  .refine⟨⟨o,I.ć p o d,m⟩,λa e=>?_⟩;cases e;exact⟨o,I.ć _ o d,g⟩
  .have z:∃o,s.heap.get? p=L o/\o.ExactDict:=by
    rcases d with⟨h,d⟩|⟨h,d⟩;.obtain⟨_,_,_,_,o,_,_,e,ex,_⟩:=I.Û p _ d;exact⟨o,e,ex⟩
    .obtain⟨_,_,_,_,o,_,_,e,ex,_⟩:=I.Û p _ d;exact⟨o,e,ex⟩
   obtain⟨o,e,ex⟩:=z;refine⟨⟨o,e,ex.1⟩,λa f=>?_⟩;cases f;exact⟨o,e,ex.2.1⟩
  .obtain⟨o,_,_,_,e,ex,_⟩:=I.Û p _ d;refine⟨⟨o,e,ex.1⟩,λa f=>?_⟩;cases f;exact⟨o,e,ex.2.1⟩|_=>exact False.elim ty
def Af(K:W.Frag)(T:String)(r:V->List V->Hp->VK->Prop)(f:TE)(t:TA):TE:=λc H Q=>f c H λx d=>Nw K T x d/\t c d λe g=>r x e g Q
variable{o e:Expr}{es:List Expr}{to:TE}{t:TA}{name:Str}{å Ó:Pos}{T id:String}{r:V->List V->Hp->VK->Prop}
def kM(J:PlainAttrs T)(j:Slot T name id)(l:typeOf (.builtin id)=pure (.type "method_descriptor"))(K:Ih X id r)(Å:PE X o to)(D:PA X (e::es) t)(f:attributeBase o name X.env (eval o X.env)=eval o X.env:=by rfl)(i:((backTo Ó<|starEach (e::es) X.env).all (λx=>!x.1)&&(backToKw Ó<|keywordEach [] X.env).all (λx=>x.1.isSome)&&decide ((e::es).length+([]:List Keyword).length+(if([]:List Keyword).isEmpty then 0 else 1)<30))=U:=by rfl)(g:(å.endLine==Ó.line)=U:=by rfl)(hs:SE X e es:=by rfl)(d:BT X Ó es:=by rfl):PE X (.Call (.Attribute o name å) (e::es) [] Ó) (Af X.K T r to t):=by intro c s k H Q I h;refine wpAny_Call_method_late f i g M (ß (Å c s k H _ I h) λv q⟨x,y,m,n,ty,E⟩=>?_);obtain⟨G,N⟩:=RU m n ty;refine⟨T,id,J,j,l,G,N,?_⟩;have p:=D Ó c q k y _ m E;rw[hs]at p⊢;refine Calls.callWith_builtin (by show(O||(backTo Ó<|starEach es X.env).any (·.1))=O;rw[d]<;>rfl)<|Ur ?_;exact ß p λB z⟨u,C,A,r2,w⟩=>K c z k C x u v B Q A n r2 w
end
def CI(X:Cx)(id:String)(r:V->List V->Hp->VK->Prop):Prop:=∀(a:Pn)(s:Shared)(c:St)(H:Hp)(x:V)(b:List V)(v:Value)(d:List Value)(Q:VK),Inv X a c H s->RelV x v->Vals b d->r x b H Q->X.wp (call (.builtin id) (v::d)) (EP X a c Q) X.xe s
def Vals.one:∀{x us},Vals [x] us->∃u,us=[u]/\RelV x u|_,_,.cons r .nil=>⟨_,M,r⟩
section
variable{X:Cx}{Æ:Pn}{Z:St}{H:Hp}{s:Shared}{l:Addr}{xs ys:List V}
def Inv.Cy{È χ:List Value}{n f t'}(I:Inv X Æ Z H s)(c:H l=L (.l xs))(e:s.heap.get? l=L {cls:=.type "list",data:=.seq È.toArray n})(a:f È.toArray=χ.toArray)(h:Vals ys χ)(hz:ys.length<=sizeLine):Inv X Æ Z (upd H l<|.l ys) {s with heap:=s.heap.update l<|Obj.mapSeq f,toks:=t'}:=by have q:=PySem.IsL.update e f;rw[a]at q;refine I.write (by rw[c];exact trivial) (.inl rfl) (λi u g d=>(ϟ _ _<|ö g).trans d) ⟨_,q⟩ ?_;exact⟨hz,_,_,h,q⟩
def Inv.Bt{È t'}(I:Inv X Æ Z H s)(a:Vals ys È)(hz:ys.length<=sizeLine):Inv X Æ Z (upd H s.heap.objs.size<|.l ys) {s with heap:=s.heap.push {cls:=.type "list",data:=.seq È.toArray},toks:=t'}:=I.laid (λ_ _ q=>Ă _ q) (í _) ⟨hz,_,0,a,ĺ _ M⟩
theorem Inv.fresh(I:Inv X Æ Z H s):H s.heap.objs.size=Y:=I.Û.fresh<|í _
def Inv.Dy(I:Inv X Æ Z H s)(a:H l=L (.l xs)):xs.length<=sizeLine/\∃È n,Vals xs È/\xs.length=È.length/\s.heap.get? l=L {cls:=.type "list",data:=.seq È.toArray n}:=by obtain⟨z,È,n,r,e⟩:=I.Û l _ a;exact⟨z,_,n,r,r.length,e⟩
def FZ{n:Nat}(h:n<=sizeLine):Builtin.List.listTooLong n=O:=by unfold Builtin.List.listTooLong;exact Ũ (by omega)
end
section
variable{X:Cx}
def qS:V->List V->Hp->VK->Prop:=λx b H Q=>∃l a y,x=.ref l/\b=[y]/\H l=L (.l a)/\a.length<sizeLine/\Q .n (upd H l<|.l<|a++[y])
def fk:CI X "list.append" qS:=by intro c s m H x w v t Q I f g h;refine Cn h λl k y a b d o q=>?_;subst a b;cases f;obtain⟨u,rfl,j⟩:=g.one;obtain⟨z,i,n,r,p,e⟩:=I.Dy d;refine Qd F.slot_list_append ⟨_,e,M⟩ F.entry_list_append (F.args_list_append_2 _ _) (PySem.list_append l _ n u<|by grind) ⟨e,.n,_,I.Cy d e (by simp) (r.append<|.cons j .nil) ?_,M,q⟩;rw[ϕ,List.length_singleton];omega
end
end L2
namespace Att
open PySem PySem.W PySem.Calls PyProof.Rows
def n4{P h}:∀ns vs,WellAll P h vs (ns.map WData.int)->IntsAre vs ns:=by intro ns;induction ns with|nil=>intro vs w;cases w;exact .nil|cons n ns ih=>intro vs w;cases w with|cons a b=>cases a;exact .cons _ _<|ih _ b
def K5{l:OpenLaw}{n}(m:l.most=L n){P h args b}(c:l.row.toRowW.claim.pre args=U)(g:WellAll P h b args):∃a vs ns,b=[Value.ref a]/\args=[WData.list<|ns.map WData.int]/\h.get? a=L {cls:=.type "list",data:=.seq vs.toArray}/\IntsAre vs ns/\ns.length<=n:=by
 have j:l.pre.holds [] {args:=args}=U:=(pre_splitW c).2;refine kr (hasAllW_cons (pre_splitW c).1) λd r i o s=>?_;subst i;obtain rfl:=hasAllW_nil s;obtain⟨t,rfl,p⟩:=hasW_list o;obtain⟨ns,rfl⟩:=items_int p;have e:ns.length<=n:=by
  unfold OpenLaw.pre at j;have f:=by have f:=(holds_andW j).1;rw[m]at f;exact f
  have k:=condW_of f<|w_not<|w_lt w_lit<|w_len_list<|w_arg M;rw[Į]at k;refine Yp λq=>?_;(simp at k;omega)
 cases g with|cons w1 w2=>cases w2;cases w1 with|list ho hall=>exact Sn _ _ ns M M ho (n4 ns _ hall) e
def N5(l:OpenLaw)(a):l.row.toRowW.claim.post a (.bool U) a=U:=postW_of (rfl) (w_eq_bool (w_res M) w_lit) M
def w4{l:OpenLaw}{n q e I J d}(K:l.most=L n)(v:d.params.defaults=[])(call:∀w c b s A p o y t i a vs ns,Ground q e [] I w c s A b.heap->J w b.heap->b.heap.get? p=L o->o.data=.func (docDef d.name d.params d.body d.scope y t i)->b.heap.CodeRec t d.name->s d.name=L (.ref p)->b.heap.get? a=L {cls:=.type "list",data:=.seq vs.toArray}->IntsAre vs ns->ns.length<=n->b.gens=#[]->codeAny (model l.prog w) callerA (.call (.ref p) ⟨[.ref a],[]⟩) (λr s'=>r=.ok (.ret<|.bool U)/\OldK b.heap s'.heap/\s'.os=b.os/\AllBare s'.gens) b):WalkO q e I J l.row.toRowW d [] λf vs=>PySem.call f vs:=by intro w c b s A G Á p o y t i S kV Q P z C x Å D H as k E N u R;obtain rfl:S=.none:=Dflts.none C v;obtain rfl:kV=.none:=Dflts.noKw C;refine Cn (K5 K k u) λa vs ns h B m g j=>?_;subst h B;refine enter_call (Xf (call w c b s A p o y t i a vs ns G Á Q (fd_plain P) z x m g j Å) λr s' X=>?_);refine Mt X λh Ä Â T=>?_;subst h;exact⟨.inl (Sn _ (.bool U) [] M (λ_=>rfl) (.bool U) (N5 l _) λ_=>⟨List.Pairwise.nil,λ_ Ã=>nomatch Ã⟩),Ä,Â,T⟩
end Att
namespace L2
theorem sM:∀{vs ns},IntsAre vs ns->Vals (ns.map V.int) vs|_,_,.nil=>.nil|_,_,.cons n t h=>.cons ⟨t,M⟩<|sM h
def Hs(H:Hp):Prop:=∀b,H b=Y\/∃o a,H b=L (.î o<|.l a)
def UY{P w K B Â CX k X a Á x sp c vs ns}(KX:K.In c.heap)(A:c.heap.Ns mainGlobals B)(g:c.heap.Ns builtinsNs Â)(R:∀x:Str,x≠"__name__"->Â x=bootBuiltins x)(E:c.heap.NoLimit)(hg:c.gens=#[])(S:c.heap.get? a=L {cls:=.type "list",data:=.seq vs.toArray})(hi:IntsAre vs ns)(Ä:ns.length<=sizeLine)(hr:Ñ k callerA)(F:∀i,K.In i->i.Ns mainGlobals B->ä P w K B i CX k X Á [x] sp)(p:∀s u,BindsTo s Á ⟨[u],[]⟩ [(x,u)])(T:∀H,Hs H->ÿ K H a (ns.map V.int)->sp [.ref a] H (λv _=>v=.B U) λ_ _ _=>False)(N:∀H e s',CX [] H c (λ_ _ _=>False) e s'->False):codeAny (model P w) callerA (.call (.ref X) ⟨[.ref a],[]⟩) (λr s'=>r=.ok (.ret<|.bool U)/\OldK c.heap s'.heap/\s'.os=c.os/\AllBare s'.gens) c:=by
 have rv:=sM hi;have D:=hi.length;-- from an abstract heap in which nothing but the script may be tracked
 have l:∀H:Hp,Hs H->ÿ K H a (ns.map V.int)->Ģ P w H c.heap->(∀b,H b≠Y->b=a)->(H a≠Y->K.lookup a=Y)->codeAny (model P w) callerA (.call (.ref X) ⟨[.ref a],[]⟩) (λr s'=>r=.ok (.ret<|.bool U)/\OldK c.heap s'.heap/\s'.os=c.os/\AllBare s'.gens) c:=by
  intro H hO hS t hA hK;have f:∀{b:Addr}{o:Obj},c.heap.get? b=L o->H b=Y->(Tb c.heap H).get? b=L o:=λe n=>YZ e n;have Ã:∀{b:Addr}{o:Obj}{J:Array DictEntry}{Å:Nat},c.heap.get? b=L o->o.data=.dict J Å->H b=Y:=λ{b o J Å}e d=>by grind
  have j:∀{b:Addr}{m:Str->Option Value},c.heap.Ns b m->(Tb c.heap H).Ns b m:=λ{b m}⟨o,J,Å,e,d,r⟩=>⟨o,J,Å,f e<|Ã e d,d,r⟩;have I:K.In (Tb c.heap H):=λb o e=>f (KX b o e) (by cases q:H b with|none=>rfl|some u=>have e':b=a:=hA b (by rw[q];simp);subst e';rw[hK (by rw[q];simp)]at e;cases e);have hM:Mod K B (Tb c.heap H):=⟨I,j A,⟨Â,j g,R⟩,let⟨mc,h1,h2⟩:=E;⟨mc,j h1,h2⟩⟩;have e0:Α P w K B (Tb c.heap H) callerA [] c H:=⟨M,hM,λb o e=>UW e,Dl<|G3 _ _,trivial,λb g=>absurd (show b∈([]:List Addr)from g) (by simp),t,.of_eq hg⟩;refine Xf ((F _ I<|j A).run callerA [] c H ⟨[.ref a],[]⟩ [.ref a] [.ref a] _ _ hr trivial e0 (p c<|.ref a) (.cons rfl .nil)<|T H hO hS) λr s' h=>?_;cases r with|error e=>exact(N H e s' h).elim|ok fl=>cases fl with|next|brk|cont=>exact False.elim h|ret u=>obtain⟨v,H',os,y,un,G,r',q⟩:=h;have q':v=.B U:=q;subst q';obtain rfl:u=Value.bool U:=r';refine⟨M,OldK.of_keep λb o e=>?_,os,y⟩;cases q:H b with|none=>exact un.keep b o e q (by intro z;exact absurd (show b∈([]:List Addr)from z)<|by simp) (by simp)|some u=>
     rcases hO b with z|⟨ob,xs,z⟩;.rw[q]at z;cases z
     .have z2:=un.ľ b ob _ z;obtain⟨e1,_⟩:=t b _ z;obtain⟨e2,_⟩:=G b _ z2;rw[e]at e1;cases e1;exact e2
 cases Q:K.lookup a with|some o=>-- the script is one of the module's own objects
 have e:=KX a o Q;rw[S]at e;cases e;refine l (λ_=>Y) (λ_=>.inl rfl) (.inr ⟨_,vs.toArray,_,Q,M,M,M,by rw[ς,D];exact Ä,by simpa using rv⟩) (λb u z=>by have C:(Y:Option HO)=L u:=z;cases C) (λb z=>absurd M z) λz=>absurd M z|none=>
  refine l (λb=>if b=a then L (.î {cls:=.type "list",data:=.seq vs.toArray} (.l<|ns.map V.int))else Y) (λb=>?_) (.inl<|.inr ⟨{cls:=.type "list",data:=.seq vs.toArray},Ð M⟩) (λb u z=>?_) (λb z=>?_) λ_=>Q
  .by_cases g:b=a;.exact .inr ⟨_,_,Ð g⟩
   .exact .inl (Õ g)
  .by_cases g:b=a;.have C:=(Ð g).symm.trans z;cases C;subst g;exact⟨S,by rw[Į];exact Ä,vs,_,rv,S⟩
   .have C:=(Õ g).symm.trans z;cases C
  .by_cases g:b=a;.exact g
   .exact absurd (Õ g) z
def YX{l:W.OpenLaw}{n k q i Q I d}{K:Params->W.Frag}{CX:World->Wa}{sp:World->Sp}{x}(J:l.most=L n)(A:n<=sizeLine)(y:d.params.defaults=[])(X:Ñ k callerA)(N:∀w h,I w h->(K w.params).In h)(F:∀w j r h,(K w.params).In h->h.Ns mainGlobals j->j d.name=L (.ref r)->∃z,(∀s u,BindsTo s z ⟨[u],[]⟩ [(x,u)])/\∀b,(K w.params).In b->b.Ns mainGlobals j->ä l.prog w (K w.params) j b (CX w) k r z [x] (sp w))(C:∀w H a(ns:List Int),ns.length<=n->Hs H->ÿ (K w.params) H a (ns.map V.int)->sp w [.ref a] H (λv _=>v=.B U) λ_ _ _=>False)(t:∀w H s e s',CX w [] H s (λ_ _ _=>False) e s'->False):W.WalkO q i Q I l.row.toRowW d [] λf vs=>PySem.call f vs:=by refine Att.w4 J y λw D m j mb r o pm cd T a vs ns G Á ho Ä R B p g c Å=>?_;have E:=N w _ Á;refine fy (F w j r _ E G.T.g B) λz S Â=>?_;exact UY E G.T.g G.T.b G.T.builtins G.T.nolimit Å p g (ñ c A) X Â S (λH Ã P=>C w H a ns c Ã P) λH e s'=>t w H m e s'
noncomputable def bh(s:Stmt):Arguments:=match s with|.FunctionDef _ a _ _ _ _ _ _ _ _=>a|_=>{posonlyargs:=[],args:=[],vararg:=Y,kwonlyargs:=[],kw_defaults:=[],kwarg:=Y,defaults:=[]}
noncomputable def aC(s:Stmt):List Stmt:=match s with|.FunctionDef _ _ b _ _ _ _ _ _ _=>b|_=>[]
noncomputable def aj(s:Stmt):Scope:=match s with|.FunctionDef _ _ _ _ _ _ sc _ _ _=>sc|_=>{kind:=.function,names:=[],isGenerator:=O,isCoroutine:=O}
abbrev ē:Wa:=λ_ _ _ _ _ _=>False
abbrev E0:XK:=λ_ _ _=>False
def Qu{X}:Passes ē X E0:=λ_ _ _ _ _ _ _ h=>h.elim
structure đ(K:W.Frag)(x qual:Str)(st:Stmt)(f:Addr)(fd:FuncData):Prop where
 ex:∃(oc:Value)(od:Option Addr)(kV doc pm:Value)(an:Option Addr)(cdv ct:Value)(osl:Array (Option Value)),fd=W.fnOf x qual (bh st) (aC st) (aj st) .none kV doc pm an cdv ct/\K.lookup f=L ⟨oc,od,.func fd,osl⟩/\W.codeIn K cdv qual=U
 kp:W.keepIn K (.ref f)=U
section
variable{P:Program}{w:World}{K:W.Frag}{mg:Str->Option Value}{base:Heap}
def đ.ok{x a st f j N ps k sp}(F:đ K x a st f j)(S:Î N ps (aj st))(len:∀vs H Q E,sp vs H Q E->vs.length=ps.length)(c:∀d A b s H vs Q E,Ñ k (A.deeper<|envOfC a (aj st) s.heap.objs.size f d)->sp vs H Q E->∃t,ã (fA ē P w K mg base N a (aj st) f d A b s H E).Ga (aC st) t/\t {nx:=λ_ H'=>Q .n H',rt:=Q} (start N vs) H):ä P w K mg base ē (k+1) f j ps sp:=by refine Bd F.ex λp od kV n r an d ct l i m e=>?_;subst i;refine uM m e S len λA b s H vs Q E o _ g=>?_;obtain⟨t,h,q⟩:=c _ A _ s H _ Q E o g;exact⟨t,h.Ga,q⟩
def đ.binds{x a st f e ps}(F:đ K x a st f e)(h:∀kV b g an c ct us,us.length=ps.length->bindArgs (W.fnOf x a (bh st) (aC st) (aj st) .none kV b g an c ct) ⟨us,[]⟩=pure (ps.zip us)):Binds K e ps []:=by refine Bd F.ex λk od kV b g an c ct i d l j=>?_;subst d;exact .all<|h _ _ _ _ _ _
def yD{x a st f h od an e kV d g b ct}(l:K.lookup f=L ⟨h,od,.func<|W.fnOf x a (bh st) (aC st) (aj st) .none kV d g an b ct,e⟩)(c:W.codeIn K b a=U)(k:W.keepIn K (.ref f)=U):đ K x a st f (W.fnOf x a (bh st) (aC st) (aj st) .none kV d g an b ct):=⟨⟨h,od,kV,_,g,an,_,ct,_,M,l,c⟩,k⟩
end
section
variable{X:Cx}
def pv(i){x pos}(hN:X.N[i]?=L x:=by rfl)(b:Fh X.env.scope x:=by first|exact Or.inl rfl|exact Or.inr<|Or.inl rfl|exact Or.inr<|Or.inr rfl)(c:è x:=by decide)(a:(x=="__classdict__")=O:=by decide):PE X (.Name x pos) (ee i):=pV hN b c a
end
def au(H H':Hp):Prop:=∀b o,H b=L o->H' b=L o
def au.refl(H):au H H:=λ_ _ h=>h
def au.trans{H e d}(a:au H e)(b:au e d):au H d:=λc o h=>b c o<|a c o h
def au.free{H H'}(e:au H H'){l}(h:H' l=Option.none):H l=Option.none:=by cases q:H l with|none=>rfl|some o=>rw[e l o q]at h;cases h
def au.seq{K H H' a xs}(e:au H H')(h:ÿ K H a xs):ÿ K H' a xs:=by
 rcases h with(h|⟨o,h⟩)|h;.exact .inl (.inl<|e _ _ h)
 .exact .inl (.inr ⟨o,e _ _ h⟩)
 .exact .inr h
end L2
set_option maxHeartbeats 4000000
namespace L2
noncomputable def dr(a:List (Str×Addr)):List (Str×NameKind)->List (Str×Addr)->List (Str×Addr)|[],acc=>acc|(n,k)::r,acc=>if k==.free then match a.lookup n with|some c=>dr a r ((n,c)::acc)|none=>dr a r acc else dr a r acc
def gQ (h:∀y∈scope.names,y.2=.free->(env.cells.lookup y.1).isSome=U):closureFor scope env=pure (dr env.cells scope.names []):=by
 have all:∀(a:List (Str×NameKind))(b:List (Str×Addr)),(∀y∈a,y.2=.free->(env.cells.lookup y.1).isSome=U)->(forIn a b λ(x:Str×NameKind)r=>match x with|(name,kind)=>if(kind==NameKind.free)=U then do let c <-cellOf env name;pure (ForInStep.yield ((name,c)::r))else pure (ForInStep.yield r))=pure (dr env.cells a b):=by intro a;induction a with|nil=>intro b _;rfl|cons y r ih=>
   intro b j;obtain⟨n,k⟩:=y;rw[List.forIn_cons];have l:=λd=>ih d λz m=>j z<|Ħ _ m;by_cases g:(k==NameKind.free)=U
   .have f:k=.free:=by simpa using g
    obtain⟨c,i⟩:=Be.mp<|j (n,k) ę f;have o:cellOf env n=pure c:=by unfold cellOf;rw[i]
    simp only[dr,g,ϭ,i];rw[o];simpa using l ((n,c)::b)
   .simp only[dr,g,Ib];simpa using l b
 have e:=all scope.names [] h;unfold closureFor;(simpa using e)
theorem cA :∀b a,(dr cells b a).lookup x=L c->a.lookup x=L c\/cells.lookup x=L c
|[],a,h=>.inl h|(n,k)::r,a,h=>by
 unfold dr at h;split at h;.cases e:cells.lookup n with|none=>rw[e]at h;exact cA r _ h|some d=>
  rw[e]at h;rcases cA r _ h with q|q
  .rw[Ϟ]at q;split at q;.exact .inr (by grind)
   .exact .inl q
  .exact .inr q
 .exact cA r _ h
theorem gR :∀b(a:List (Str×Addr)),(a.lookup x).isSome=U->((dr cells b a).lookup x).isSome=U
|[],a,h=>h|(n,k)::r,a,h=>by
 unfold dr;split;.cases e:cells.lookup n with|none=>exact gR r _ h|some d=>
  refine gR r _ ?_;rw[Ϟ];split;.rfl
  .exact h
 .exact gR r _ h
theorem ll :∀a f,(x,NameKind.free)∈a->(cells.lookup x).isSome=U->((dr cells a f).lookup x).isSome=U
|(n,k)::r,f,g,b=>by
 rcases Ę.mp g with e|g;.cases e;obtain⟨c,b⟩:=Be.mp b;unfold dr;simp only[b];refine gR r _ ?_;simp
 .unfold dr;split;.cases e:cells.lookup n with|none|some d=>exact ll r _ g b
  .exact ll r _ g b
theorem bO{a:Env}{x}:∀{b:List (Str×NameKind)}{k},(b.map λ(n,k)=>if k==NameKind.free&&a.scope.kind==.function&&a.kindOf n==L .cell then(n,NameKind.cell)else(n,k)).lookup x=L k->b.lookup x=L k\/k=.cell/\b.lookup x=L .free
|[],_,h=>by simp at h|(n,k0)::r,k,h=>by
  have g:=@bO a x r k;have c:List.lookup x ((if(k0==NameKind.free&&a.scope.kind==.function&&a.kindOf n==L .cell)=U then(n,NameKind.cell)else(n,k0))::r.map λ(n,k)=>if k==NameKind.free&&a.scope.kind==.function&&a.kindOf n==L .cell then(n,NameKind.cell)else(n,k))=L k:=h
  cases e:x==n with|true=>
   rw[Ϟ,e];by_cases d:(k0==NameKind.free&&a.scope.kind==.function&&a.kindOf n==L .cell)=U
   .rw[Ð d,Ϟ,e]at c;have f:k0=.free:=by simp only[ł]at d;simpa using d.1.1
    cases c;exact .inr ⟨M,by rw[f]⟩
   .rw[Õ d,Ϟ,e]at c;exact .inl c|false=>
   rw[Ϟ,e];by_cases d:(k0==NameKind.free&&a.scope.kind==.function&&a.kindOf n==L .cell)=U;.rw[Ð d,Ϟ,e]at c;exact g c
   .rw[Õ d,Ϟ,e]at c;exact g c
section
variable{X:Cx}
def Ģ.Pj{P w h a o}(x:Ģ P w H h)(f:H a=Y)(new:cB P w (upd H a o) h a o):Ģ P w (upd H a o) h:=λb u e=>by
 by_cases d:b=a;.subst d;rw[ai]at e;cases e;exact new
 .rw[ag d]at e;exact(x b u e).tj (λc v _ q=>q) (λc q=>by rw[ag (aQ q f)];exact q) λc g q=>by rw[ag (aQ q f)];exact q
theorem Inv.Pj (I:Inv X Æ Z H s)(hn:H a=Y)(ha:X.Ĉ.heap.objs.size<=a)(hL:a≠X.env.locals)(hc:∀x c,X.env.cells.lookup x=L c->c≠a)(hp:∀p∈X.pn++Æ,p.1≠a)(new:cB X.prog X.w (upd H a o) s.heap a o):Inv X Æ Z (upd H a o) s where
 ok:=I.ok;os:=I.os;bare:=I.bare;base:=⟨I.base.keep,I.base.slot,λb u q n hx=>by rw[ag (ğ<|Ē (ĉ q) ha)];exact I.base.free b u q n hx,I.base.there,λb xs q=>by have z:=I.base.Ŕ b xs q;rw[ag (aQ z hn)];exact z,λb u v q=>by have z:=I.base.ľ b u v q;rw[ag (aQ z hn)];exact z,λb ps q=>by obtain⟨more,z⟩:=I.base.ŕ b ps q;exact⟨more,by rw[ag (aQ z hn)];exact z⟩⟩;loc:=I.loc;cell:=I.cell;free:=by rw[ag (ö hL)];exact I.free
 ú:=λx c e=>by rw[ag (hc x c e)];exact I.ú x c e
 pin:=λp hp'=>by obtain⟨e,n,r⟩:=I.pin p hp';exact⟨e,by rw[ag (hp p hp')];exact n,r⟩
 Û:=I.Û.Pj hn new;len:=I.len
end
abbrev Cx.tri(X:Cx)(E:VS)(pn:Pn):Cx:={X with xe:=E,pn:=pn}
theorem Cx.Ok.tri{X:Cx}(ok:X.Ok)(E)(a):(X.tri E a).Ok:=⟨ok.mod,ok.kind,ok.glob,ok.blt,ok.above,ok.inj,ok.has,ok.cab,ok.hd,ok.frames,ok.stk,ok.exf,ok.bs,ok.Κ,ok.š,ok.Ţ,ok.su,ok.Ϭ⟩
section
variable{X:Cx}
theorem Inv.tri(I:Inv X Æ Z H s)(E:VS):Inv (X.tri E<|X.pn++Æ) [] Z H s:=⟨I.ok.tri E _,I.os,I.bare,I.base,I.loc,I.cell,I.free,I.ú,λp a=>I.pin p (by simpa using a),I.Û,I.len⟩
end
noncomputable def Ja(y:Str):Str:=⟨y.cps.push 32⟩
def Jp(scope:Scope)(y:Str):Str:=match scope.names.lookup y with|some .local=>Ja y|_=>y
set_option tactic.hygienic true in
def RQ (h:Jp scope y=x):x=Ja y/\scope.names.lookup y=L .local\/x=y/\scope.names.lookup y≠L .local:=by
 unfold Jp at h;split at h;.rename_i e;exact .inl ⟨h.symm,e⟩
 .rename_i e;exact .inr ⟨h.symm,e⟩
abbrev Cx.comp(X:Cx)(scope:Scope)(C:Addr)(ts:List Str)(b:Shared)(a:Hp)(c:List Addr):Cx:={X with N:=ts++X.N.map (Jp scope),Ĉ:=b,Ŗ:=a,env:=compEnvC scope (dr X.env.cells scope.names []) C X.env,outer:=X.stack,stack:=X.stack,ex:=c,fn:=λ_=>O,pn:=[],xe:=λ_ _=>False}
structure þ(X:Cx)(scope:Scope):Prop where
 kind:scope.kind=.function
 ĸ:scope.names.all λy=>y.2!=.cell=U
 names:scope.names.all λy=>y.2!=.local||scope.names.lookup y.1==L .local=U
 free:scope.names.all λy=>y.2!=.free||X.env.scope.names.lookup y.1==L .cell||X.env.scope.names.lookup y.1==L .free=U
 apart:(scope.names.all λy=>(scope.names.lookup<|Ja y.1).isNone)=U
structure ā(X:Cx)(scope:Scope)(ts:List Str):Prop where
 kind:scope.kind=.function
 ĸ:∀y∈scope.names,y.2≠.cell
 names:∀y∈scope.names,y.2=.local->scope.names.lookup y.1=L .local
 free:∀y∈scope.names,y.2=.free->X.env.scope.names.lookup y.1=L .cell\/X.env.scope.names.lookup y.1=L .free
 apart:∀y∈scope.names,scope.names.lookup (Ja y.1)=Y
theorem þ.scope{X:Cx}{scope:Scope}{ts:List Str}(À:þ X scope):ā X scope ts where
 kind:=À.kind;ĸ:=λy hy=>by simpa using ş.mp À.ĸ y hy
 names:=λy hy e=>by have h:=ş.mp À.names y hy;rw[e]at h;simpa using h
 free:=λy hy e=>by have h:=ş.mp À.free y hy;rw[e]at h;simpa using h
 apart:=λy hy=>by simpa using ş.mp À.apart y hy
noncomputable def Tv:List Str->Bool|[]=>U|x::r=>!(r.any λy=>decide (y=x))&&Tv r
theorem yf:∀{N},Tv N=U->N.Nodup|[],_=>List.nodup_nil|x::r,h=>by simp [Tv]at h;exact Ud.mpr ⟨λa=>h.1 x a M,yf h.2⟩
section
variable{X:Cx}
def wV{scope:Scope}{ts:List Str}{C:Addr}{fp:List Addr}(S:ā X scope ts)(I:Inv X Æ Z H s)(hf:∀b∈fp,yW X Æ H b)(hfl:∀b∈fp,b<s.heap.objs.size)(hC:s.heap.objs.size<=C):(X.comp scope C ts s H fp).Ok where
 mod:=I.ok.mod;kind:=S.kind;glob:=I.ok.glob;blt:=I.ok.blt;above:=hC;inj:=λx y c e1 e2=>by have q1:=(cA scope.names [] e1).resolve_left (by simp);have q2:=(cA scope.names [] e2).resolve_left (by simp);exact I.ok.inj x y c q1 q2
 has:=λx hx=>by
  have hx':scope.names.lookup x=L .free:=by
   rcases hx with hx|hx
   .rcases bO hx with q|⟨_,q⟩;.exact absurd M (S.ĸ _<|Pa q)
    .exact q
   .rcases bO hx with q|⟨q,_⟩;.exact q
    .cases q
  have hm:=Pa hx';obtain⟨c,hc⟩:=I.ok.has x<|S.free _ hm M;exact Be.mp (ll scope.names [] hm<|by rw[hc];rfl)
 cab:=λx c h _=>by cases h
 hd:=I.ok.hd;frames:=I.ok.frames;stk:=.inl rfl;exf:=λb hb=>⟨ğ<|Ē (hfl b hb) hC,λx c e=>by have q:=(cA scope.names [] e).resolve_left (by simp);exact(hf b hb).2.2.2.2.1 x c q⟩;bs:=I.bs;Κ:=ñ I.ok.Κ I.sz;š:=λb o e hb=>by
  rcases(hf b hb).2.2.2.1 with z|z;.exact I.ok.š b o e z
  .exact absurd (Ē (ĉ e)<|ñ I.ok.Κ z) (Jb _)
 Ţ:=λb hb z=>by
  rcases Ę.mp (I.xI b z)with e|e;.exact(hf b hb).2.1 e
  .exact(hf b hb).2.2.1 e
 su:=I.stack;Ϭ:=I.vG
def Z5{scope:Scope}{ts:List Str}{C:Addr}{fp:List Addr}{s4:Shared}(S:ā X scope ts)(I:Inv X Æ Z H s)(hf:∀b∈fp,yW X Æ H b)(hfl:∀b∈fp,b<s.heap.objs.size)(hC:s.heap.objs.size<=C)(ho:s4.os=s.os)(hg:s4.gens=s.gens)(hk:∀b o,s.heap.get? b=L o->s4.heap.get? b=L o){m:Str->Option Value}(hn:s4.heap.Ns C m):Inv (X.comp scope C ts s H fp) [] (List.replicate ts.length Y++Z) H s4 where
 ok:=wV S I hf hfl hC;os:=ho;bare:=by rw[hg];exact I.bare
 base:=Un.kept hk;loc:=⟨m,hn,λi x v e1 e2 e3=>by
  have hi:ts.length<=i:=by
   rcases Nat.lt_or_ge i ts.length with h|h;.rw[Qb (by simpa using h),Ar]at e2;simp[h]at e2
   .exact h
  rw[Qa (by simpa using hi)]at e2;rw[Qa hi]at e1;simp only[Xh]at e2;rw[Ų]at e1;obtain⟨y,ey,hy⟩:=μ.mp e1;have hv:scope.names.lookup x≠Y:=by
   rcases e3 with q|q|q;.rcases bO q with q|⟨_,q⟩<;>(rw[q];exact nofun)
   .rcases bO q with q|⟨_,q⟩<;>(rw[q];exact nofun)
   .rcases bO q with q|⟨_,q⟩<;>(rw[q];exact nofun)
  have hxy:x=y/\scope.names.lookup y≠L .local:=by
   rcases RQ hy with z|z;.exact absurd (by rw[z.1];exact S.apart _<|Pa z.2) hv
   .exact z
  have e1:X.N[i-ts.length]?=L x:=by rw[ey,hxy.1]
  have hap:scope.names.lookup x≠L .local:=by rw[hxy.1];exact hxy.2
  have hfree:scope.names.lookup x=L .free:=by
   rcases e3 with q|q|q
   .rcases bO q with q|⟨q,_⟩;.exact absurd q hap
    .cases q
   .rcases bO q with q|⟨_,q⟩;.exact absurd M (S.ĸ _<|Pa q)
    .exact q
   .rcases bO q with q|⟨q,_⟩;.exact q
    .cases q
  have hm:=Pa hfree;have hk0:=S.free _ hm M;obtain⟨m0,_,hl⟩:=I.loc;obtain⟨u,r,l⟩:=hl (i-ts.length) x v e1 e2 (hk0.elim (λq=>.inr<|.inl q) λq=>.inr<|.inr q);refine⟨u,r,?_⟩;rcases l with⟨kl,_⟩|⟨_,c,ec,z⟩
  .exfalso;have kl':X.env.scope.names.lookup x=L .local:=kl;rcases hk0 with q|q;.rw[q]at kl';cases kl'
   .rw[q]at kl';cases kl'
  .have kk:(X.comp scope C ts s H fp).env.kindOf x=L .cell\/(X.comp scope C ts s H fp).env.kindOf x=L .free:=by
    rcases e3 with q|q|q
    .rcases bO q with q|⟨q,_⟩;.exact absurd q hap
     .cases q
    .exact .inl q
    .exact .inr q
   obtain⟨c',ec'⟩:=(wV S I hf hfl hC).has x kk;have ec2:=(cA scope.names [] ec').resolve_left (by simp);rw[ec]at ec2;cases ec2;obtain⟨o,ho',hd⟩:=z;exact .inr ⟨kk,c,ec',o,hk _ o ho',hd⟩⟩;cell:=λx c e=>by have q:=(cA scope.names [] e).resolve_left (by simp);obtain⟨v,o,ho',hd⟩:=I.cell x c q;exact⟨v,o,hk _ o ho',hd⟩
 free:=I.Û.fresh hC;ú:=λx c e=>I.ú x c ((cA scope.names [] e).resolve_left<|by simp);pin:=λp hp=>by cases hp
 Û:=I.Û.kept hk;len:=by rw[ϕ,ϕ,Xh,I.len,Į]
end
section
def iT{y b t u scope pos it z a}(I:Nat->Shared->Prop)(turn:∀n s,I n s->wpAny (model prog w) A (pyNext it) (λr d=>match r with|none=>R (.ok .next) d|some v=>wpAny (model prog w) A (letOwnedTupleGo b it v) (λ_ f=>wpAny (model prog w) A (assign b a v) (λ_ l=>wpAny (model prog w) A (forIn u U λc r=>if r=U then do let ok <-isTrue c a (eval c a);pure (ForInStep.yield ok)else pure (ForInStep.yield r)) (λok g=>if ok=U then wpAny (model prog w) A (eval y a) (λx k=>wpAny (model prog w) A (call (.builtin "list.append") [z,x]) (λ_ o=>∃m,m<n/\I m o) (notedBy (model prog w) A a λe s'=>R (.error e) s') k) (notedBy (model prog w) A a λe s'=>R (.error e) s') g else∃m,m<n/\I m g) (notedBy (model prog w) A a λe s'=>R (.error e) s') l) (notedBy (model prog w) A a λe s'=>R (.error e) s') f) (notedBy (model prog w) A a λe s'=>R (.error e) s') d) (notedBy (model prog w) A a λe s'=>R (.error e) s') s)(n)(h:I n s):codeAny (model prog w) A (.compLoop (.ListComp y [⟨b,t,u,0⟩] scope pos) 0 it z a) R s:=by refine codeAny_loop M I (λn s E=>wpAny_noted ?_) n h;rw[compTurn_list];refine Í (Oa<|Í<|Ĝ (turn n s E) (λr d j=>?_) λ_ _ i=>i);cases r with|none=>exact ì j|some v=>refine Í (Ĝ j (λ_ f q=>?_) λ_ _ i=>i);refine Í (Ĝ q (λ_ l D=>Í<|Ĝ D (λok g p=>?_) λ_ _ i=>i) λ_ _ i=>i);cases ok with|false=>exact ì ⟨M,p⟩|true=>exact Í (Í<|Ĝ p (λx k B=>Í<|Ĝ B (λ_ o C=>ì<|ì ⟨M,C⟩) λ_ _ i=>i) λ_ _ i=>i)
end
def ϡ(X:Cx)(d:List Expr)(t:TT):Prop:=∀(a:Pn)(s:Shared)(b:St)(H:Hp)(Q:Bool->Hp->Prop),Inv X a b H s->t b H Q->X.wp (forIn d U λc r=>if r=U then do let ok <-isTrue c X.env (eval c X.env);pure (ForInStep.yield ok)else pure (ForInStep.yield r)) (TP X a b Q) X.xe s
def gD:TT:=λ_ H Q=>Q U H
def K2:ϡ X [] gD:=λa s b H Q I h=>wpAny_tests_nil ⟨H,I,h⟩
def P2  (h:PT X c t):ϡ X [c] t:=λa s b H Q I hw=>wpAny_tests_one<|h a s b H Q I hw
def xf(J:It)(g:TG)(q:TT)(o:TE)(h:St)(r:Hp)(F:V->Hp->Prop):Prop:=∃W:Nat->Nat->List V->St->Hp->Prop,(∃m,W 0 m [] h r)/\∀i m c j H,W i m c j H->c.length<sizeLine/\((J.stop i H/\∀D,H D=Y->F (.ref D) (upd H D<|.l c))\/J.go i H/\∃N:List V->St->Hp->Prop,(∀f d e,N f d e->∃k,k<m/\W (i+1) k f d e)/\∀x e,J.yld i H x e->g x j e λa n=>q a n λb l=>if b=U then o a l λy p=>N (c++[y]) a p else N c a l)
def yX(c:Hp->Prop)(J:It)(g:TG)(r:TT)(p:TE)(j:St)(s:Hp)(F:V->Hp->Prop):Prop:=∃W:Nat->Nat->List V->St->Hp->Prop,(∃m,W 0 m [] j s)/\∀i m d k H,W i m d k H->c H/\d.length<sizeLine/\((J.stop i H/\∀D,H D=Y->F (.ref D) (upd H D<|.l d))\/J.go i H/\∃N:List V->St->Hp->Prop,(∀h e f,N h e f->∃l,l<m/\W (i+1) l h e f)/\∀x f,J.yld i H x f->g x k f λa o=>r a o λb n=>if b=U then p a n λy q=>N (d++[y]) a q else N d a n)
theorem yX.w    (h:yX c J g tt te σ0 H1 F):xf J g tt te σ0 H1 F:=by obtain⟨W,a,t⟩:=h;exact⟨W,a,λi m d b H w=>(t i m _ b H w).2⟩
theorem xf.c    (h:xf J g tt te σ0 H1 F):yX (λ_=>True) J g tt te σ0 H1 F:=by obtain⟨W,a,t⟩:=h;exact⟨W,a,λi m c b H w=>⟨trivial,t i m _ b H w⟩⟩
def Ko(k:Nat)(wi:TI)(g:TG)(c:TT)(b:TE):TE:=λa H Q=>wi a H λJ d=>xf J g c b (List.replicate k Y++a) d Q
section
variable{X:Cx}
def lj{Æ}{Z:St}{H j pos it k tn J}{Q:VK}{RR:Value->Addr->Result->Shared->Prop}{E}(S:ā X scope ts){cl cc}(G:Addr->VS)(d0:∀C H',cc H'->cl ((X.comp scope C ts j H k).tri (G C) []) H')(hg:∀C,PG ((X.comp scope C ts j H k).tri (G C) []) tg g)(ht:∀C,ϡ ((X.comp scope C ts j H k).tri (G C) []) Ř tt)(he:∀C,PE ((X.comp scope C ts j H k).tri (G C) []) ō te)(I:Inv X Æ Z H j)(T:Turn X.prog X.w X.K tg J k it tn cl)(st:tn 0 j.heap)(hf:∀b∈k,yW X Æ H b)(hW:yX cc J g tt te (List.replicate ts.length Y++Z) H Q)(fin:∀(C D:Addr)H' s' m ys,C≠D->j.heap.objs.size<=C->j.heap.objs.size<=D->s'.heap.Ns C m->H' C=Y->Inv X Æ Z (upd H' D<|.l ys) s'->Q (.ref D) (upd H' D<|.l ys)->RR (.ref D) C (.ok .next) s')(hx:∀(C D:Addr)e s',j.heap.objs.size<=C->G C e s'->notedBy (model X.prog X.w) X.A (compEnvC scope (dr X.env.cells scope.names []) C X.env) (λe s'=>RR (.ref D) C (.error e) s') e s'):X.wp (newList []) (λc2 K=>X.wp (newFunctionEnv scope X.env.globals (dr X.env.cells scope.names []) [] X.env.qual Y .none<|some X.env) (λa6 c9=>codeAny (model X.prog X.w) X.A (.compStart (.ListComp ō [⟨tg,ó,Ř,0⟩] scope pos) 0 (.ref it) c2 {a6 with scope:=relabel scope X.env}) (RR c2 a6.locals) c9) E K) E j:=by
 refine Ol (wpAny_newFunctionEnv S.ĸ (by intro y hy;simp at hy) (λB w s=>?_) S.kind);dsimp only at w s⊢;generalize hH2:j.heap.push {cls:=.type "list",dict:=Y,data:=.seq ([]:List Value).toArray}=H2 at w s⊢;have b8:H2.objs.size=j.heap.objs.size+1:=by rw[<-hH2,Vl]
 have b5:j.heap.objs.size≠H2.objs.size:=by rw[b8];exact ğ<|Bi _
 have t:j.heap.objs.size<=H2.objs.size:=by rw[b8];exact Vh _
 have a9:∀b o,j.heap.get? b=L o->B.get? b=L o:=λb o e=>s.extBut b o (by rw[b8];exact ğ<|Nat.lt_succ_of_lt<|ĉ e)<|Ă _<|hH2▸Ă _ e;have c5:B.PlainList j.heap.objs.size #[]:=⟨_,s.extBut _ _ b5<|Ă _<|hH2▸ĺ _ M⟩;have b0:∀b∈k,b<j.heap.objs.size:=λb l=>by obtain⟨o,e,_⟩:=T.obj _ _ st b l;exact ĉ e
 generalize hCdef:H2.objs.size=C at *;generalize Ě:j.heap.objs.size=D at *;have b6:D∉k:=λhm=>Jb _<|b0 _ hm;have a0:((X.comp scope C ts j H k).tri (G C) []).Ok:=(wV S I hf (by rw[Ě];exact b0)<|by rw[Ě];exact t).tri _ _;have Â:∀x c,((X.comp scope C ts j H k).tri (G C) []).env.cells.lookup x=L c->c<D:=λx c e=>by have q:=(cA scope.names [] e).resolve_left (by simp);obtain⟨v,z⟩:=I.cell x c q;rw[<-Ě];exact z.lt
 have Á:∀{H':Hp}{pl:Pn},(∀b∈k,H' b=Y)->(∀p∈pl,p.1∉k)->∀b∈k,yW ((X.comp scope C ts j H k).tri (G C) []) pl H' b:=λhn Å b l=>⟨hn b l,(a0.exf b l).1,a0.Ţ b l,.inl l,(a0.exf b l).2,λp d9 z=>Å p (by simpa using d9)<|z▸l⟩;obtain⟨W,⟨m0,w0⟩,turn⟩:=hW;have a7:∀K:Shared,K={j with heap:=B,toks:=j.toks+([]:List (Str×Value)).length}->codeAny (model X.prog X.w) X.A (.compLoop (.ListComp ō [⟨tg,ó,Ř,0⟩] scope pos) 0 (.ref it) (.ref D)<|compEnvC scope (dr X.env.cells scope.names []) C X.env) (RR (.ref D) C) K:=by
  rintro K rfl;have e4:Inv (X.comp scope C ts j H k) [] (List.replicate ts.length Y++Z) H {j with heap:=B,toks:=j.toks+([]:List (Str×Value)).length}:=Z5 S I hf (by rw[Ě];exact b0) (by rw[Ě];exact t) M M a9 w;have I0:Inv ((X.comp scope C ts j H k).tri (G C) []) [] (List.replicate ts.length Y++Z) H {j with heap:=B,toks:=j.toks+([]:List (Str×Value)).length}:=e4.tri _;refine iT (λn s'=>∃i ys c6 H' h,Inv ((X.comp scope C ts j H k).tri (G C) []) [] c6 H' s'/\tn i s'.heap/\(∀b∈k,H' b=Y)/\s'.heap.PlainList D h/\Vals ys h.toList/\H' D=Y/\W i n ys c6 H') ?_ m0 ⟨0,[],_,H,#[],I0,T.keep _ _ _ st λb _ o e=>a9 b o e,λb l=>(hf b l).1,c5,.nil,I.Û.fresh (by rw[Ě];exact í _),w0⟩;rintro n s3⟨i,ys,R,H3,h,I3,c0,c4,d4,v3,d3,w3⟩;obtain⟨d1,d6,b7⟩:=turn i n ys R H3 w3;obtain⟨Ã,eD⟩:=id d4;have c7:∀v,({cls:=.type "list",data:=.seq h Ã}:Obj).data≠.cell v:=λv z=>by cases z
  have Ä:=b5;have a5:D ∉((X.comp scope C ts j H k).tri (G C) []).fs:=λl=>by obtain⟨_,o,ho,_⟩:=a0.su.mem l;exact absurd (Ql (ĉ ho) Ě)<|Jb _
  rcases b7 with⟨c8,qn⟩|⟨go,N,hN,step⟩;.-- the end
   have a8:Inv ((X.comp scope C ts j H k).tri (G C) []) [(D,{cls:=.type "list",data:=.seq h Ã})] R H3 s3:=I3.ie λp Å=>by
    obtain rfl:p=(D,({cls:=.type "list",data:=.seq h Ã}:Obj)):=by simpa using Å
    exact⟨eD,d3,Ä,a5,c7⟩
   refine Ĝ (T.done ((X.comp scope C ts j H k).tri (G C) []) M M M i _ s3 R H3 (λ_ _=>False) (d0 C H3 d1) a8 (Á c4 λp Å=>by
    obtain rfl:p=(D,({cls:=.type "list",data:=.seq h Ã}:Obj)):=by simpa using Å
    exact b6) c0 c8) (λr s4⟨hr,I4⟩=>?_) λ_ _ f=>f.elim;subst hr;have pD:=(I4.pin (D,{cls:=.type "list",data:=.seq h Ã})<|by simp).1;obtain⟨m4,d7,_⟩:=I4.loc;have I5:=I.Du I4.os I4.base I4.Û I4.bare λb l=>⟨(hf b l).2.2.2.1,(hf b l).2.1,(hf b l).2.2.2.2.1,(hf b l).2.2.2.2.2⟩;have e3:=Ŵ<|Ql I.lt Ě;have d8:∀x c,X.env.cells.lookup x=L c->c≠D:=λx c e=>by obtain⟨v,z⟩:=I.cell x c e;exact ğ<|Ql z.lt Ě
   have e5:∀p∈X.pn++Æ,p.1≠D:=λp Å=>ğ<|Ql (ĉ (I.pin p Å).1) Ě;have new:cB X.prog X.w (upd H3 D<|.l ys) s4.heap D (.l ys):=⟨Nc d6,h.toList,Ã,v3,by simpa using pD⟩;have I6:=I5.Pj d3 (by rw[<-Ě];exact I.sz) e3 d8 e5 new;exact fin C D H3 s4 m4 ys (ö b5) t (í _) d7 I4.free I6 (qn D d3)
  .-- a turn
   have a8:Inv ((X.comp scope C ts j H k).tri (G C) []) [(D,{cls:=.type "list",data:=.seq h Ã})] R H3 s3:=I3.ie λp Å=>by
    obtain rfl:p=(D,({cls:=.type "list",data:=.seq h Ã}:Obj)):=by simpa using Å
    exact⟨eD,d3,Ä,a5,c7⟩
   have d2:∀p∈[((D,{cls:=.type "list",data:=.seq h Ã}):Addr×Obj)],p.1∉k:=λp Å=>by
    obtain rfl:p=(D,({cls:=.type "list",data:=.seq h Ã}:Obj)):=by simpa using Å
    exact b6
   refine Ĝ (T.item ((X.comp scope C ts j H k).tri (G C) []) M M M i _ s3 R H3 (λ_ _=>False) (d0 C H3 d1) a8 (Á c4 d2) c0 go) (λr s4 A=>?_) λ_ _ f=>f.elim;obtain⟨u,hr,h4⟩:=A;subst hr;refine Ĝ h4 (λ_ s5 A=>?_) λ_ _ f=>f.elim;obtain⟨x,H5,I5,r5,y5,b9,e0⟩:=A;have e6:=I5.pinned (Á e0 d2)<|T.obj _ _ b9;have back:∀{c1:St}{H7:Hp}{s7:Shared},Inv ((X.comp scope C ts j H k).tri (G C) []) ([(D,{cls:=.type "list",data:=.seq h Ã})]++tQ k s5.heap) c1 H7 s7->tn (i+1) s7.heap/\(∀b∈k,H7 b=Y)/\s7.heap.get? D=L {cls:=.type "list",data:=.seq h Ã}/\H7 D=Y:=λ{c1 H7 s7}I7=>by have pD:=I7.pin (D,({cls:=.type "list",data:=.seq h Ã}:Obj))<|ų _<|Ϯ _ ę;refine⟨T.keep _ _ _ b9 λb l o e=>(I7.pin (b,o)<|ų _<|ų _<|iE l e).1,λb l=>?_,pD.1,pD.2.1⟩;obtain⟨o,e,d⟩:=T.obj _ _ b9 b l;exact(I7.pin (b,o)<|ų _<|ų _<|iE l e).2.1
   refine Ĝ (hg C _ s5 R H5 x u _ e6 r5<|step x H5 y5) (λ_ s6 A=>?_) λe s' f=>hx C D e s' t f;obtain⟨P,H6,I6,q6⟩:=A;refine Ĝ (ht C _ s6 P H6 _ I6 q6) (λb s7 A=>?_) λe s' f=>hx C D e s' t f;obtain⟨H7,I7,q7⟩:=A;cases b with|false=>obtain⟨m',hm,w7⟩:=hN _ _ _ (by simpa using q7);obtain⟨b1,b2,b3,b4⟩:=back I7;exact⟨m',hm,i+1,ys,P,H7,h,I7.ie λp Å=>absurd Å Wf,b1,b2,⟨Ã,b3⟩,v3,b4,w7⟩|true=>
    have e2:te P H7 λy H4=>N (ys++[y]) P H4:=by simpa using q7
    refine Ĝ (he C _ s7 P H7 _ I7 e2) (λu8 s8 A=>?_) λe s' f=>hx C D e s' t f;obtain⟨y,H8,I8,r8,q8⟩:=A;obtain⟨m',hm,w8⟩:=hN _ _ _ q8;obtain⟨b1,b2,b3,b4⟩:=back I8;have e7:h.size<=sizeLine:=by have e1:=v3.length;simp only[Qf]at e1;omega
    refine wpAny_list_append_plain ⟨Ã,b3⟩ λh9 d5 c3=>?_;have I9:Inv ((X.comp scope C ts j H k).tri (G C) []) [] P H8 {s8 with heap:=h9}:=(I8.ie λp Å=>absurd Å Wf).turned (λb o l e=>(c3.2 b l).trans e) b4 Ä (.inr<|Dl Ě) (λx c e=>ğ<|Â x c e) λp Å=>absurd Å Wf;refine⟨m',hm,i+1,ys++[y],P,H8,h.push u8,I9,T.keep _ _ _ b1 λb l o e=>(c3.2 b λz=>b6<|z▸l).trans e,b2,d5,?_,b4,w8⟩;simpa using v3.append (.cons r8 .nil)
 exact codeAny_compStart_list (a7 _ M) (T.self _ 0 _ _ _ (T.keep _ _ _ st λb _ o e=>a9 b o e)<|a7 _ M)
def NZ (À:þ X scope)(B:X.calm=U)(hi:PI X tg ó wi)(Ã:∀C a d i,PG (X.comp scope C ts a d i) tg g)(ht:∀C a d i,ϡ (X.comp scope C ts a d i) Ř tt)(Â:∀C a d i,PE (X.comp scope C ts a d i) ō te)(hs:∀x,foldedSetIterable ó X.env x=pure x:=by intro _;rfl):PE X (.ListComp ō [⟨tg,ó,Ř,0⟩] scope pos) (Ko ts.length wi g tt te):=by
 intro j s N H Q I h;have S:ā X scope ts:=À.scope;have f:=gQ λy hy E=>by obtain⟨c,B⟩:=I.ok.has y.1<|S.free y hy E;rw[B];rfl
 rw[eval_ListComp];refine Cr M hs f S.kind S.names (ß (hi j s N H _ I h) λxv s1 Á=>ß Á λa0 s2 h2=>?_);obtain⟨it,i,tn,J,H2,e,k,T,A,P,G⟩:=h2;subst e;refine lj S _ (λ_ _ _=>B) (λC=>Ã C _ _ _) (λC=>ht C _ _ _) (λC=>Â C _ _ _) k T A P G.c ?_ λ_ _ _ _ _ z=>z.elim;intro C D H' Ä m ys n l hD Å w K q;refine⟨m,Å,λh' u=>?_⟩;have t:=Ŵ<|Ē k.lt l;have r:=K.turned (t':=Ä.toks) (λb o hb e=>(u.2 b hb).trans e) (by rw[ag n];exact w) t (.inr<|ñ k.sz l) (λx c e=>by obtain⟨v,q⟩:=k.cell x c e;exact ğ<|Ē q.lt l) λp R=>ğ<|Ē (ĉ (k.pin p R).1) l;exact⟨.ref D,_,r,M,q⟩
def lQ  (hN:X.N.Nodup)(hiN:X.N[i]?=L y)(hy:X.env.scope.names.lookup y=L .local)(ϝ:swapsWith (.ListComp ō [⟨tg,ó,Ř,0⟩] scope pos) (L<|.Name y py) ϸ.line X.env=pure U)(À:þ X scope)(N:X.calm=U)(hi:PI X tg ó wi)(hg:∀C d f l,PG (X.comp scope C ts d f l) tg g)(ht:∀C d f l,ϡ (X.comp scope C ts d f l) Ř tt)(Ä:∀C d f l,PE (X.comp scope C ts d f l) ō te)(hs:∀x,foldedSetIterable ó X.env x=pure x:=by intro _;rfl):PS X (.Assign [.Name y py] (.ListComp ō [⟨tg,ó,Ř,0⟩] scope pos) ϸ) (Lg (Ko ts.length wi g tt te)<|ax i):=by
 intro u s Â H Dn I h;have S:ā X scope ts:=À.scope;have j:=gQ λy hy Ã=>by obtain⟨c,N⟩:=I.ok.has y.1<|S.free y hy Ã;rw[N];rfl
 rw[exec_Assign_Name_used _ _ _ _ ϝ];refine Í<|Oa<|Í ?_;refine Í (Ĝ (Cr M hs j S.kind S.names<|ß (hi u s Â H _ I h) λxv s1 h1=>ß h1 λa0 s2 h2=>?_) (λ_ s' hq=>ì<|ì hq) λ_ _ e=>e);obtain⟨it,l,tn,J,H2,e,n,T,Å,Á,Q⟩:=h2;subst e;refine lj S (λ_ _ _=>False) (λ_ _ _=>N) (λC=>hg C _ _ _) (λC=>ht C _ _ _) (λC=>Ä C _ _ _) n T Å Á Q.c ?_ λ_ _ _ _ _ z=>z.elim;intro C D H' s' m ys K t hD R G P q;have r:=Ŵ<|Ē n.lt t;refine Vr (ib P hN hiN (.inl hy) (show RelV (.ref D) (.ref D)from rfl) (λA B k=>?_)<|.inr hy);obtain⟨a,k,ha⟩:=k;have w:a≠C:=by
  rcases ha with e|e;.rw[e];exact ö r
  .obtain⟨v,q⟩:=n.cell y a e;exact ğ<|Ē q.lt t
 refine⟨m,R.sameBut k<|ö w,λh' E=>?_⟩;have I3:=B.turned (t':=A.toks) (λb o hb e=>(E.2 b hb).trans e) (by rw[ag K];exact G) r (.inr<|ñ n.sz t) (λx c e=>by obtain⟨v,q⟩:=n.cell x c e;exact ğ<|Ē q.lt t) λp hp=>ğ<|Ē (ĉ (n.pin p hp).1) t;exact⟨_,_,I3,q⟩
end
def Ū(K:W.Frag)(H:Hp):Nat->V->PyData->Prop|_,x,.none=>x=.n|_,x,.bool b=>x=.B b|_,x,.int i=>x=.int i|_,x,.str z=>x=.str z/\PyData.strOk z=U|_,_,.dict _=>False|0,_,.tuple _=>False|0,_,.list _=>False|n+1,x,.tuple ds=>∃a c,x=.ref a/\ü K H a c/\Paired (Ū K H n) c ds|n+1,x,.list ds=>∃a c,x=.ref a/\ÿ K H a c/\Paired (Ū K H n) c ds
section
variable{X:Cx}
theorem nh{h n R}(one:∀x d u,R x d->RelV x u->(∃a,Reads h u d a)/\d.canLay0=U/\d.depth<=n):∀{xs ds us},Paired R xs ds->Vals xs us->(∃a,ReadsAll h us ds a)/\PyData.canLayAll0 ds=U/\PyData.depthAll ds<=n
|_,_,_,.nil,.nil=>⟨⟨_,.nil⟩,M,Ś _⟩|_,_,_,.cons r t,.cons q t'=>by
 obtain⟨⟨a,c⟩,e,i⟩:=one _ _ _ r q;obtain⟨⟨bs,f⟩,b,g⟩:=nh one t t';refine⟨⟨_,.cons c f⟩,?_,?_⟩;.simp[PyData.canLayAll0,e,b]
 .simp [PyData.depthAll];omega
def Inv.reads(I:Inv X Æ Z H s):∀n d x u,Ū X.K H n x d->RelV x u->(∃m,Reads s.heap u d m)/\d.canLay0=U/\d.depth<=n:=by intro n;induction n with
|zero=>intro d x u h r;cases d with|none=>subst h;cases r;exact⟨⟨_,.none⟩,M,Ś _⟩|bool b=>subst h;cases r;exact⟨⟨_,.bool b⟩,M,Ś _⟩|int i=>subst h;obtain⟨t,rfl⟩:=r;exact⟨⟨_,.int i t⟩,M,Ś _⟩|str z=>obtain⟨rfl,c⟩:=h;obtain⟨t,rfl⟩:=r;exact⟨⟨_,.str z t⟩,by simpa[PyData.canLay0]using c,Ś _⟩|dict Ç|tuple ds|list ds=>exact h.elim
|succ n ih=>intro d x u h r;cases d with|none=>subst h;cases r;exact⟨⟨_,.none⟩,M,Ś _⟩|bool b=>subst h;cases r;exact⟨⟨_,.bool b⟩,M,Ś _⟩|int i=>subst h;obtain⟨t,rfl⟩:=r;exact⟨⟨_,.int i t⟩,M,Ś _⟩|str z=>obtain⟨rfl,c⟩:=h;obtain⟨t,rfl⟩:=r;exact⟨⟨_,.str z t⟩,by simpa[PyData.canLay0]using c,Ś _⟩|dict Ç=>exact h.elim|tuple ds=>obtain⟨a,y,rfl,q,l⟩:=h;cases r;obtain⟨j,f,⟨o,w,v,k,p⟩,c⟩:=I.tuple q;obtain⟨⟨m,e⟩,g,B⟩:=nh (λx d u=>ih d x u) l f;exact⟨⟨_,.tuple w v p<|by simpa using e⟩,by simpa[PyData.canLay0]using g,by simp only[PyData.depth];omega⟩|list ds=>obtain⟨a,y,rfl,q,l⟩:=h;cases r;obtain⟨j,f,A,c⟩:=I.list q;obtain⟨o,w,v,k,p⟩:=A.isList;obtain⟨⟨m,e⟩,g,B⟩:=nh (λx d u=>ih d x u) l f;exact⟨⟨_,.list w v p<|by simpa using e⟩,by simpa[PyData.canLay0]using g,by simp only[PyData.depth];omega⟩
end
def au.tup{K H H' a xs}(e:au H H')(h:ü K H a xs):ü K H' a xs:=by
 rcases h with(h|⟨o,h⟩)|h;.exact .inl (.inl<|e _ _ h)
 .exact .inl (.inr ⟨o,e _ _ h⟩)
 .exact .inr h
section
variable{X:Cx}
def GS:ë X (compareOp .Eq) λx y H Q=>∃n d e,Ū X.K H n x d/\Ū X.K H n y e/\X.A.units+n<cLine/\Q (.B<|PyData.eqv d e) H:=by intro a s l H x y v u Q I k b⟨n,d,e,g,j,m,q⟩;obtain⟨⟨p,f⟩,h,r⟩:=I.reads n d x v g k;obtain⟨⟨bs,i⟩,c,o⟩:=I.reads n e y u j b;exact SeqAt.compareEq_reads f i h c (by omega)<|hU (.B _) H I M q
def OS:ë X (compareOp .NotEq) λx y H Q=>∃n d e,Ū X.K H n x d/\Ū X.K H n y e/\X.A.units+n<cLine/\Q (.B !PyData.eqv d e) H:=by intro a s l H x y v u Q I k b⟨n,d,e,g,j,m,q⟩;obtain⟨⟨p,f⟩,h,r⟩:=I.reads n d x v g k;obtain⟨⟨bs,i⟩,c,o⟩:=I.reads n e y u j b;exact SeqAt.compareNe_reads f i h c (by omega)<|hU (.B _) H I M q
def HS:ë X (compareOp .In) λx y H Q=>∃n d ds,Ū X.K H n x d/\(Ū X.K H (n+1) y (.list ds)\/Ū X.K H (n+1) y (.tuple ds))/\X.A.units+1+n<cLine/\Q (.B<|ds.any λz=>PyData.eqv z d) H:=by
 intro f s l H x y v u Q I k e⟨n,d,ds,i,a,m,q⟩;obtain⟨⟨o,g⟩,h,p⟩:=I.reads n d x v i k;rcases a with a|a;.obtain⟨⟨bs,c⟩,b,j⟩:=I.reads _ _ y u a e;exact SeqAt.in_list_reads c g (by simpa[PyData.canLay0]using b) h (by have:=Jl (PyData.depthAll ds) d.depth;omega) ⟨.B _,H,I,M,q⟩
 .obtain⟨⟨bs,c⟩,b,j⟩:=I.reads _ _ y u a e;exact SeqAt.in_tuple_reads c g (by simpa[PyData.canLay0]using b) h (by have:=Jl (PyData.depthAll ds) d.depth;omega) ⟨.B _,H,I,M,q⟩
def C4:ë X (compareOp .NotIn) λx y H Q=>∃n d ds,Ū X.K H n x d/\(Ū X.K H (n+1) y (.list ds)\/Ū X.K H (n+1) y (.tuple ds))/\X.A.units+1+n<cLine/\Q (.B !ds.any λz=>PyData.eqv z d) H:=by
 intro e s l H x y v u Q I k c⟨n,d,ds,i,a,m,q⟩;obtain⟨⟨o,f⟩,g,p⟩:=I.reads n d x v i k;rcases a with a|a;.obtain⟨⟨bs,b⟩,h,j⟩:=I.reads _ _ y u a c;exact SeqAt.notIn_list_reads b f (by assumption) g (by omega) ⟨.B _,H,I,M,q⟩
 .obtain⟨⟨bs,b⟩,h,j⟩:=I.reads _ _ y u a c;exact SeqAt.notIn_tuple_reads b f (by assumption) g (by grind) ⟨.B _,H,I,M,q⟩
def UN{x T pos}(a:Gl X x)(b:X.mg x=Y)(c:bootBuiltins x=L (.type T))(e:x≠"__name__":=by decide)(d:è x:=by decide):PE X (.Name x pos) (tC<|.ty T):=OV a b c M e d
def M6(K:W.Frag)(H:Hp)(x:V)(t:Value):Prop:=Ĳ K H x t\/∃a b,x=.ref a/\t=.type "tuple"/\ü K H a b
def wZ:bG X (.builtin "isinstance") λxs H Q=>∃x T t b,xs=[x,.ty T]/\M6 X.K H x t/\W.kitOne X.K t (.type T)=L b/\Q (.B b) H:=by
 intro c s m H xs n Q I r h;obtain⟨x,T,t,b,rfl,ty,e,q⟩:=h;obtain⟨u,l,rfl,d,f⟩:=vals2 r;cases f;rcases ty with ty|⟨a,p,rfl,rfl,j⟩;.exact Y4 I d ty e λtk=>⟨.B b,H,I.tok _,M,q⟩
 .cases d;obtain⟨g,_,⟨o,i,k,_⟩,_⟩:=I.tuple j;exact Λ W.kitx_tuple I.ć ⟨o,i,k⟩ e (λz=>nomatch z) λtk=>⟨.B b,H,I.tok _,M,q⟩
end
def ar{H p}(h:H p=Y)(o):au H (upd H p o):=λb u q=>by rw[ag (aQ q h)];exact q
section
def zM{it t i È x Q}(a:s.heap.IsTupleIter it t i)(h:s.heap.IsTuple t È)(f:È[i]?=L x)(j:∀h',h'.IsTupleIter it t (i+1)->Heap.SameBut it s.heap h'->Q x {s with heap:=h'}):wpAny (model prog w) A (Builtin.SmallTypes.nextOf<|.ref it) Q E s:=by refine iQ (id a) λo c g b=>?_;obtain⟨l,e,_,k,d⟩:=h;unfold Builtin.SmallTypes.nextOf;refine Í<|Yh a.typeIs Jm<|Lc Jm a.typeIs Ox ?_<|Rx _;show wpAny _ _ (field (.ref it) 0 >>=_) _ _ s;refine Í<|Ń c b (x:=.ref t) M ?_;refine Í<|Ń c b (x:=.int i 0) M ?_;refine Í<|Nq e d ?_;simp only[Hq,f];refine Í (Td c b (by simp) (ì ⟨x,M,ì (j _ ?_ (Heap.SameBut.update ..))⟩));exact⟨_,Ob _ c<|Uq<|Gi b _,(Obj.cls_mapFields ..).trans g,by rw[Gi b];simp[rawInt]⟩
def V4  (l:A.handled=Y)(b:s.heap.IsTupleIter it t i)(h:s.heap.IsTuple t È)(j:È[i]?=Y)(k:∀h' e,Heap.ExtBut it s.heap h'->(∃o,h'.get? e=L o/\o.cls=.type "StopIteration")->E (.ref e) {s with heap:=h'}):wpAny (model prog w) A (Builtin.SmallTypes.nextOf<|.ref it) Q E s:=by refine iQ (id b) λo f p d=>?_;obtain⟨n,g,_,q,c⟩:=h;unfold Builtin.SmallTypes.nextOf;refine Í<|Yh b.typeIs Jm<|Lc Jm b.typeIs Ox ?_<|Rx _;show wpAny _ _ (field (.ref it) 0 >>=_) _ _ s;refine Í<|Ń f d (x:=.ref t) M ?_;refine Í<|Ń f d (x:=.int i 0) M ?_;refine Í<|Nq g c ?_;simp only[Hq,j];refine Í (wpAny_rule<|Í<|Td f d (by simp) ?_);refine Í ?_;refine Í (m:=firstArgMember _ _)<|wpAny_of_eq (a:=Value.none) (rfl) ?_;refine Ol ?_ (by size_fits);refine Í<|wpAny_handled ?_;rw[l];refine Í<|ì<|wpAny_throw ?_;exact k _ _ (((Heap.SameBut.update ..).extBut.push _).push _) ⟨_,ĺ _ M,M⟩
def z9{e it t}{i:Nat}{È x c Q}(y:IsEnum s.heap e it i c)(R:s.heap.IsTupleIter it t i)(ht:s.heap.IsTuple t È)(hx:È[i]?=L x)(a:e≠it)(Á:∀h',IsEnumOut h' e it (i+1) x s.heap.objs.size->h'.IsTupleIter it t (i+1)->h'.get? s.heap.objs.size=L {cls:=.type "tuple",data:=.seq #[.int i s.toks,x]}->(∀b o,b≠e->b≠it->s.heap.get? b=L o->h'.get? b=L o)->Q (L<|.ref s.heap.objs.size) {s with heap:=h',toks:=s.toks+1}):wpAny (model prog w) A (pyNext<|.ref e) Q E s:=by
 have T:s.TypeIs (.ref e) "enumerate":=⟨_,y,M⟩;unfold pyNext;refine Í<|Bm<|Yh (name:=Str.ofString "__next__") T Om<|Lc Om T F.entry_enumerate_next ?_<|F.args_enumerate_next_1 _;obtain⟨h,g,d,tk,os⟩:=s;show wpAny _ _ (field (.ref e) 2 >>=_) _ _ _;refine Í<|Ń y M (x:=.ref it) M ?_;refine Í (zM R ht hx λj S m=>?_);replace m:Heap.SameBut it h j:=m;have J:IsEnum j e it i c:=(m.2 e a).trans y;show wpAny _ _ (field (.ref e) 3 >>=_) _ _ ⟨j,g,d,tk,os⟩;refine Í<|Ń J M (x:=rawInt i) M ?_;show wpAny _ _ (field (.ref e) 4 >>=_) _ _ ⟨j,g,d,tk,os⟩;refine Í<|Ń J M (x:=.none) M ?_;show wpAny _ _ (mkInt i >>=_) _ _ ⟨j,g,d,tk,os⟩;refine Í<|wpAny_mkInt ?_;refine Í (Fi J (by simp) λz Å q=>?_);replace q:Heap.SameBut e j z:=q;replace Å:IsEnum z e it ((i:Int)+1) c:=Å;show wpAny _ _ (setField (.ref e) 4 .none >>=_) _ _ ⟨z,g,d,tk+1,os⟩;refine Í (Fi Å (by simp) λk D l=>?_);replace l:Heap.SameBut e z k:=l;replace D:IsEnum k e it ((i:Int)+1) c:=D;show wpAny _ _ (newTuple [.int i tk,x]>>=_) _ _ ⟨k,g,d,tk+1,os⟩;refine Í<|wpAny_newTuple ?_;have v:IsEnum (k.push {cls:=.type "tuple",data:=.seq #[.int i tk,x]}) e it ((i:Int)+1) c:=Ă _ D;generalize q4:k.push {cls:=.type "tuple",data:=.seq #[.int i tk,x]}=h4 at v;have Â:k.objs.size=h.objs.size:=by rw[l.1,q.1,m.1]
 have le:=ĉ y;have t4:h4.get? h.objs.size=L {cls:=.type "tuple",data:=.seq #[.int i tk,x]}:=by rw[<-q4,<-Â];exact ĺ _ M
 have Ä:∀b o,b≠e->b≠it->h.get? b=L o->h4.get? b=L o:=λb o f I P=>by rw[<-q4];exact Ă _<|l.extBut b o f<|q.extBut b o f<|m.extBut b o I P
 have G:h4.IsTupleIter it t (i+1):=by rw[<-q4];refine fy ((S.extBut q.extBut<|ö a).extBut l.extBut<|ö a) λo X r=>?_;exact⟨o,Ă _ X,r⟩
 show wpAny _ _ (Builtin.SmallTypes.ownedTupleIsFree (.ref e)>>=_) _ _ ⟨h4,g,d,tk+1,os⟩;rw[Â];refine Í ?_;unfold Builtin.SmallTypes.ownedTupleIsFree;refine Í<|Ń v M (x:=.none) M<|ì ?_;simp only[ϭ];refine Í<|wpAny_rule ?_;refine Í<|Ń v M (x:=c) M ?_;refine Í (Fi v (by simp) λK Ã n=>?_);replace n:Heap.SameBut e h4 K:=n;replace Ã:IsEnum K e it ((i:Int)+1) x:=Ã;refine Í ?_;unfold Builtin.SmallTypes.ownedTupleHandOut;refine Í (Fi Ã (by simp) λH B u=>?_);replace u:Heap.SameBut e K H:=u;replace B:IsEnumOut H e it ((i:Int)+1) x h.objs.size:=B;refine Fi B (by simp) λC N p=>?_;replace p:Heap.SameBut e H C:=p;replace N:IsEnumOut C e it ((i:Int)+1) x h.objs.size:=N;refine Í<|wpAny_letGo<|ì ⟨_,M,ì<|Á C N ?_ ?_ ?_⟩;.exact((G.extBut n.extBut<|ö a).extBut u.extBut<|ö a).extBut p.extBut (ö a)
 .exact p.extBut _ _ (Ŵ le) (u.extBut _ _ (Ŵ le)<|n.extBut _ _ (Ŵ le) t4)
 .exact λb o f I P=>p.extBut b o f<|u.extBut b o f<|n.extBut b o f<|Ä b o f I P
def M3{e it t}{i:Nat}{È b Q}(h:A.handled=Y)(f:IsEnum s.heap e it i b)(c:s.heap.IsTupleIter it t i)(k:s.heap.IsTuple t È)(g:È[i]?=Y)(n:∀h',Heap.ExtBut it s.heap h'->Q Y {s with heap:=h'}):wpAny (model prog w) A (pyNext<|.ref e) Q E s:=by have d:s.TypeIs (.ref e) "enumerate":=⟨_,f,M⟩;refine Í<|Bm<|Yh d Om<|Lc Om d F.entry_enumerate_next ?_<|F.args_enumerate_next_1 _;show wpAny _ _ (field (.ref e) 2 >>=_) _ _ _;refine Í<|Ń f M M ?_;refine Í (V4 h c k g λh' x l a=>?_);refine fy a λo m j=>?_;refine Í<|wpAny_isInstance ⟨o,m,j⟩ isSubtype_stop ?_;exact ì<|n _ l
end
section
open PySem.AutoSeq1(wpAny_loadPart')
def W2(l)(È)(n)(c)(sl):Meets (Builtin.«enumerate.__new__» ⟨[.type "enumerate",.ref l],[]⟩) λ_ R s=>s.heap.get? l=L {cls:=.type "tuple",dict:=c,data:=.seq È n,slots:=sl}/\R (.ok<|.ret<|.ref (s.heap.push {cls:=.type "tuple_iterator",data:=.fields #[.ref l,.int 0 0]}).objs.size) {s with heap:=(s.heap.push {cls:=.type "tuple_iterator",data:=.fields #[.ref l,.int 0 0]}).push {cls:=.type "enumerate",data:=.fields #[.none,.bool O,.ref s.heap.objs.size,rawInt 0,.none,.none]}}:=.of_wp λe w A R s h=>by obtain⟨a,h⟩:=h;have d:=sub_enumerate;have f:Heap.IsTuple _ l È:=⟨_,a,M,n,M⟩;wp_walk using wpAny_loadPart' a;refine wpAny_stack_any λst=>ì ?_;generalize Builtin.SmallTypes.calledThroughType.match_1 (λ_=>Bool) _ _ _=b;cases b<;>(wp_walk using wpAny_loadPart' a,wpAny_pyIter_tuple f;exact⟨_,M,h⟩)
def U5{l È Q}(j:s.heap.IsTuple l È)(h:∀h',IsEnum h' (s.heap.objs.size+1) s.heap.objs.size 0 .none->h'.IsTupleIter s.heap.objs.size l 0->(∀b o,s.heap.get? b=L o->h'.get? b=L o)->Q (.ref<|s.heap.objs.size+1) {s with heap:=h'}):wpAny (model prog w) A (call (.type "enumerate") [.ref l]) Q E s:=by
 obtain⟨⟨c,d,p,i⟩,k,e,n,m⟩:=j;replace e:c=.type "tuple":=e;subst e m;refine callType_new F.called_enumerate (by decide) (F.typeCall_enumerate_1 _) (F.newCall_enumerate_1 _) (λa=>F.args_object_init_2 a _) F.entry_enumerate_new (W2 l È n d i) ⟨k,?_⟩;have g:(s.heap.push {cls:=.type "tuple_iterator",data:=.fields #[.ref l,.int 0 0]}).objs.size=s.heap.objs.size+1:=Vl ..;show _/\_;rw[g];have f:=by have z:=ĺ (s.heap.push {cls:=.type "tuple_iterator",data:=.fields #[.ref l,.int 0 0]}) (o:={cls:=.type "enumerate",data:=.fields #[.none,.bool O,.ref s.heap.objs.size,rawInt 0,.none,.none]}) M;rw[g]at z;exact z
 exact⟨⟨_,f,M⟩,h _ f ⟨_,Ă _<|ĺ _ M,M,M⟩ λb o x=>Ă _<|Ă _ x⟩
end
def Inv.AH    (I:Inv X Æ Z H s)(k:∀c o,c≠a->c≠b->s.heap.get? c=L o->h'.get? c=L o)(h:yW X Æ H a)(g:yW X Æ H b):Inv X Æ Z H {s with heap:=h',toks:=t'}:=by
 have i:∀c u,H c=L u->c≠a/\c≠b:=λc u e=>⟨aQ e h.1,aQ e g.1⟩;have f:∀{c:Addr},c∉[a,b]->c≠a/\c≠b:=λ{c}d=>⟨λz=>d (by simp[z]),λz=>d<|by simp[z]⟩;refine I.step (d':=s.drawn) (λc d=>?_) (λc o _ _ d e _=>k c o (f d).1 (f d).2 e) (λc o _ _ d e _=>⟨o.slots,k c o (f d).1 (f d).2 e⟩) (λ_ _ _ _ n=>n) (λc o d e=>⟨o,k c o (f d).1 (f d).2 e⟩) (λ_ _ e=>e) (λ_ _ _ e=>e) (λc y e=>⟨#[],by rw[e];simp⟩) (λm w=>?_) (λc u e=>?_) I.bare
 .have l:c=a\/c=b:=by simpa using d
  rcases l with rfl|rfl;.exact⟨h.2.2.2.1,h.2.1,h.2.2.2.2.1,h.2.2.2.2.2⟩
  .exact⟨g.2.2.2.1,g.2.1,g.2.2.2.2.1,g.2.2.2.2.2⟩
 .refine vq w λo t p x r=>?_;exact Vb o t p (k _ o (ö h.2.1) (ö g.2.1) x) r
 .refine(I.Û c u e).tj (λj v d q=>k j v ?_ ?_ q) (λ_ q=>q) λ_ _ q=>q
  .rcases d with z|z;.rw[z];exact(i c u e).1
   .exact(i j _ z).1
  .rcases d with z|z;.rw[z];exact(i c u e).2
   .exact(i j _ z).2
def To(K:W.Frag)(a:Addr):It:=⟨λi H=>∃b x,ü K H a b/\b[i]?=L x,λi H x c=>∃p,x=.ref p/\H p=Y/\∀b,ü K H a b->∃y,b[i]?=L y/\c=upd H p (.t [.int i,y]),λi H=>∃b,ü K H a b/\b.length<=i⟩
def zd{P:Program}{w:World}{K:W.Frag}{es:List Expr}{k:Nat}{pos:Pos}(a e it:Addr)(hne:e≠it):Turn P w K (.Tuple es k pos) (To K a) [e,it] e λi h=>(∃old,IsEnum h e it i old)/\h.IsTupleIter it a i where
 mem:=by simp
 obj:=λi h st b hb=>by
  obtain⟨⟨old,he⟩,o,ho,hc,hd⟩:=st;have hb':b=e\/b=it:=by simpa using hb
  rcases hb' with rfl|rfl;.exact⟨_,he,λv z=>by cases z⟩
  .exact⟨o,ho,λv z=>by rw[hd]at z;cases z⟩
 keep:=λi h h' st kk=>by obtain⟨⟨old,he⟩,o,ho,r⟩:=st;exact⟨⟨old,kk e (by simp) _ he⟩,o,kk it (by simp) o ho,r⟩
 item:=by
  intro X hP hw hK i Æ s Z H E hc I hf st hg;subst hP hw hK;obtain⟨⟨old,he⟩,hit⟩:=st;obtain⟨xs,x,hq,hx⟩:=hg;obtain⟨È,rv,p,hz⟩:=I.tuple hq;obtain⟨u,hu,ru⟩:=rv.get hx;have fe:=hf e (by simp);have fi:=hf it (by simp);refine z9 he hit (show s.heap.IsTuple a È.toArray from p) (x:=u) (by simpa using hu) hne λh' eo it' tp kp=>?_;have I1:=I.AH (t':=s.toks+1) kp fe fi;have hfr:=I.Û.fresh<|í _;have hnT:∀b o,s.heap.get? b=L o->b≠s.heap.objs.size:=λb o q=>ğ<|ĉ q;have I2:Inv X Æ Z (upd H s.heap.objs.size<|.t [.int i,x]) {s with heap:=h',toks:=s.toks+1}:=by
   refine I1.Pj hfr I.sz (Ŵ I.lt) (λy c q=>?_) (λpp hp=>hnT _ _ (I.pin pp hp).1) ⟨by show 2<=sizeLine;decide,[.int i s.toks,u],.cons ⟨_,M⟩<|.cons ru .nil,?_⟩;.obtain⟨v,z⟩:=I.cell y c q;exact ğ z.lt
   .exact⟨_,tp,M,0,M⟩
  refine⟨_,M,Vx (s:={s with heap:=h',toks:=s.toks+1}) eo λh2 e2 s2=>?_⟩;have hTe:=ö<|hnT _ _ he;obtain⟨o1,ho1,_⟩:=hit;have hTi:=ö<|hnT _ _ ho1;refine⟨.ref s.heap.objs.size,upd H s.heap.objs.size<|.t [.int i,x],?_,M,⟨_,M,hfr,λys hy=>⟨x,by rw[I.sO hy hq];exact hx,M⟩⟩,⟨⟨_,e2⟩,?_⟩,λb hb=>?_⟩;.exact I2.turned (t':=s.toks+1) (it:=e) (λb o hb q=>(s2.2 b hb).trans q) (by rw[ag (ö hTe)];exact fe.1) fe.2.1 fe.2.2.2.1 fe.2.2.2.2.1 fe.2.2.2.2.2
  .exact it'.extBut s2.extBut (ö hne)
  .have hb':b=e\/b=it:=by simpa using hb
   rcases hb' with rfl|rfl;.rw[ag (ö hTe)];exact fe.1
   .rw[ag (ö hTi)];exact fi.1
 done:=by intro X hP hw hK i Æ s Z H E hc I hf st hg;subst hP hw hK;obtain⟨⟨old,he⟩,hit⟩:=st;obtain⟨xs,hq,hx⟩:=hg;obtain⟨È,rv,p,hz⟩:=I.tuple hq;have fi:=hf it (by simp);have hl:=rv.length;exact M3 (I.ok.hd hc) he hit (show s.heap.IsTuple a È.toArray from p) (by simp;omega) λh' eb=>⟨M,I.turned (t':=s.toks) (λb o hb q=>eb b o hb q) fi.1 fi.2.1 fi.2.2.2.1 fi.2.2.2.2.1 fi.2.2.2.2.2⟩
 self:=λ_ _ _ _ _ ů h=>by obtain⟨⟨_,he⟩,_⟩:=ů;exact Nl he h
def Wm(K:W.Frag)(a:Addr):It:=⟨λi H=>∃b x,ÿ K H a b/\b[i]?=L x,λi H x c=>∃p,x=.ref p/\H p=Y/\∀b,ÿ K H a b->∃y,b[i]?=L y/\c=upd H p (.t [.int i,y]),λi H=>∃b,ÿ K H a b/\b.length<=i⟩
def ze{P:Program}{w:World}{K:W.Frag}{es:List Expr}{k:Nat}{pos:Pos}(a e it:Addr)(hne:e≠it):Turn P w K (.Tuple es k pos) (Wm K a) [e,it] e λi h=>(∃old,IsEnum h e it i old)/\h.IsListIter it a i where
 mem:=by simp
 obj:=λi h st b hb=>by
  obtain⟨⟨old,he⟩,o,ho,hc,hd⟩:=st;have hb':b=e\/b=it:=by simpa using hb
  rcases hb' with rfl|rfl;.exact⟨_,he,λv z=>by cases z⟩
  .exact⟨o,ho,λv z=>by rw[hd]at z;cases z⟩
 keep:=λi h h' st kk=>by obtain⟨⟨old,he⟩,o,ho,r⟩:=st;exact⟨⟨old,kk e (by simp) _ he⟩,o,kk it (by simp) o ho,r⟩
 item:=by
  intro X hP hw hK i Æ s Z H E hc I hf st hg;subst hP hw hK;obtain⟨⟨old,he⟩,hit⟩:=st;obtain⟨xs,x,hq,hx⟩:=hg;obtain⟨È,rv,p,hz⟩:=I.list hq;obtain⟨u,hu,ru⟩:=rv.get hx;have fe:=hf e (by simp);have fi:=hf it (by simp);refine wpAny_pyNext_enum_item he hit p.isList (x:=u) (by simpa using hu) hne λh' eo it' tp _ kp=>?_;have I1:Inv X Æ Z H {s with heap:=h',toks:=s.toks+1}:=I.AH (t':=s.toks+1) kp fe fi;have hfr:H s.heap.objs.size=Y:=I.Û.fresh<|í _;have hnT:∀b o,s.heap.get? b=L o->b≠s.heap.objs.size:=λb o q=>ğ<|ĉ q;have I2:Inv X Æ Z (upd H s.heap.objs.size<|.t [.int i,x]) {s with heap:=h',toks:=s.toks+1}:=by
   refine I1.Pj hfr I.sz (Ŵ I.lt) (λy c q=>?_) (λpp hp=>hnT _ _ (I.pin pp hp).1) ⟨by show 2<=sizeLine;decide,[.int i s.toks,u],.cons ⟨_,M⟩<|.cons ru .nil,?_⟩;.obtain⟨v,z⟩:=I.cell y c q;exact ğ z.lt
   .exact⟨_,tp,M,0,M⟩
  refine⟨_,M,Vx (s:={s with heap:=h',toks:=s.toks+1}) eo λh2 e2 s2=>?_⟩;have hTe:s.heap.objs.size≠e:=ö<|hnT _ _ he;obtain⟨o1,ho1,_⟩:=hit;have hTi:s.heap.objs.size≠it:=ö<|hnT _ _ ho1;refine⟨.ref s.heap.objs.size,upd H s.heap.objs.size<|.t [.int i,x],?_,M,⟨_,M,hfr,λys hy=>⟨x,by rw[I.yn hy hq];exact hx,M⟩⟩,⟨⟨_,e2⟩,?_⟩,λb hb=>?_⟩;.exact I2.turned (t':=s.toks+1) (it:=e) (λb o hb q=>(s2.2 b hb).trans q) (by rw[ag (ö hTe)];exact fe.1) fe.2.1 fe.2.2.2.1 fe.2.2.2.2.1 fe.2.2.2.2.2
  .exact it'.extBut s2.extBut (ö hne)
  .have hb':b=e\/b=it:=by simpa using hb
   rcases hb' with rfl|rfl;.rw[ag (ö hTe)];exact fe.1
   .rw[ag (ö hTi)];exact fi.1
 done:=by intro X hP hw hK i Æ s Z H E hc I hf st hg;subst hP hw hK;obtain⟨⟨old,he⟩,hit⟩:=st;obtain⟨xs,hq,hx⟩:=hg;obtain⟨È,rv,p,hz⟩:=I.list hq;have fi:=hf it (by simp);have hl:=rv.length;exact wpAny_pyNext_enum_end (I.ok.hd hc) he hit p.isList (by simp;omega) λh' eb=>⟨M,I.turned (t':=s.toks) (λb o hb q=>eb b o hb q) fi.1 fi.2.1 fi.2.2.2.1 fi.2.2.2.2.1 fi.2.2.2.2.2⟩
 self:=λ_ _ _ _ _ ů h=>by obtain⟨⟨_,he⟩,_⟩:=ů;exact Nl he h
section
variable{X:Cx}
def TQ(K:W.Frag)(e:TE):TI:=λd H R=>e d H λx b=>∃a,x=.ref a/\((∃c,ü K b a c)/\R (To K a) b\/(∃c,ÿ K b a c)/\R (Wm K a) b)
def vN{l:Expr}{B:TE}{es:List Expr}{k:Nat}{Ã p pos:Pos}(K:Gl X "enumerate")(N:X.mg "enumerate"=Y)(S:PE X l B)(hs:starEach [l] X.env=[(O,eval l X.env)]:=by rfl):PI X (.Tuple es k Ã) (.Call (.Name "enumerate" p) [l] [] pos) (TQ X.K B):=by intro f s G H R I h;have P:PA X [l] (ia B xF):=aG S bS (by unfold SE;rw[hs];rfl);refine Call_ (lT I K N boot_enumerate<|Ag (ß (P pos f s G H (λw g=>match w with|[x]=>∃a,x=.ref a/\((∃m,ü X.K g a m)/\R (To X.K a) g\/(∃m,ÿ X.K g a m)/\R (Wm X.K a) g)|_=>False) I h) λÂ c v=>?_) hs M);obtain⟨w,g,j,A,d⟩:=v;match w,d,A with
|[x],d,A=>
  obtain⟨a,rfl,d⟩:=d;obtain⟨u,rfl,J⟩:=vals1 A;cases J;have D:c.heap.objs.size+1≠c.heap.objs.size:=Nat.succ_ne_self _;have C:∀b∈[c.heap.objs.size+1,c.heap.objs.size],yW X f g b:=λb Q=>by
   have t:b=c.heap.objs.size+1\/b=c.heap.objs.size:=by simpa using Q
   have o:c.heap.objs.size<=b:=by
    rcases t with e|e;.rw[e];exact Vh _
    .rw[e];exact í _
   exact j.Cg o<|j.Û.fresh o
  rcases d with⟨⟨m,z⟩,q⟩|⟨⟨m,z⟩,q⟩;.obtain⟨n,E,p,Å⟩:=j.tuple z;refine U5 (show c.heap.IsTuple a n.toArray from p) λT r i y=>Nl r ?_;exact⟨c.heap.objs.size+1,[c.heap.objs.size+1,c.heap.objs.size],_,_,g,M,j.kept (t':=c.toks) y,zd a _ _ D,⟨⟨_,r⟩,i⟩,C,q⟩
  .obtain⟨n,E,p,Å⟩:=j.list z;refine call_enumerate_list p.isList λT r i _ y=>Nl r ?_;exact⟨c.heap.objs.size+1,[c.heap.objs.size+1,c.heap.objs.size],_,_,g,M,j.kept (t':=c.toks) y,ze a _ _ D,⟨⟨_,r⟩,i⟩,C,q⟩|[],d,_=>exact d.elim|_::_::_,d,_=>exact d.elim
end
section
variable{κ:Type}[DecidableEq κ]
noncomputable def xu(Ç:List (κ×V))(k:κ):Option V:=(Ç.find? λa=>decide (a.1=k)).map (·.2)
noncomputable def putK(Ç:List (κ×V))(k:κ)(v:V):List (κ×V):=if(Ç.any λa=>decide (a.1=k))=U then Ç.map λa=>if a.1=k then(a.1,v)else a else Ç++[(k,v)]
def jQ{p r}{k:κ}(e:p.1=k):xu (p::r) k=L p.2:=by simp[xu,e]
def jR{p r}{k:κ}(e:¬p.1=k):xu (p::r) k=xu r k:=by simp[xu,e]
theorem qD(k):∀Ç:List (κ×V),(Ç.any λa=>decide (a.1=k))=(xu Ç k).isSome
|[]=>rfl|p::r=>by
 rw[List.any_cons];by_cases e:p.1=k;.simp [jQ e,Ϡ e]
 .rw[jR e,Ũ e];exact qD k r
def nP(Ç)(k:κ)(v):(putK Ç k v).length<=Ç.length+1:=by
 unfold putK;split;.rw[Į];omega
 .rw[ϕ,Ĩ,Up];omega
def vp.nZ{o u}(r:vp o u):o.isSome=u.isSome:=by cases o with
|none=>cases u with|none=>rfl|some _=>exact(r).elim
|some _=>cases u with|none=>exact(r).elim|some _=>rfl
def KV.val{Ç vs}(r:KV Ç vs)(k:κ):vp (xu Ç k) (valueAt vs k):=by induction r with|nil=>exact True.intro|@cons p q ps qs h t ih=>
 obtain⟨a,d⟩:=h;by_cases e:p.1=k
 .have b:valueAt (q::qs) k=L q.2:=by simp[valueAt,a.symm.trans e]
  rw[jQ e,b];exact d
 .have c:¬q.1=k:=λz=>e<|a.trans z;have b:valueAt (q::qs) k=valueAt qs k:=by simp[valueAt,c]
  rw[jR e,b];exact ih
theorem KV.any{Ç vs}(r:KV Ç vs)(k:κ):(Ç.any λa=>decide (a.1=k))=vs.any λa=>decide (a.1=k):=by induction r with|nil=>rfl|cons h t ih=>rw[List.any_cons,List.any_cons,ih,h.1]
def KV.Vs{Ç vs}(r:KV Ç vs)(k:κ){y u}(c:RelV y u):KV (Ç.map λa=>if a.1=k then(a.1,y)else a) (vs.map λa=>if a.1=k then(a.1,u)else a):=by induction r with|nil=>exact .nil|@cons p q ps qs h t ih=>
 rw[ņ,ņ];refine .cons ?_ ih;obtain⟨b,d⟩:=h;by_cases e:p.1=k;.rw[Ð e,Ð<|b.symm.trans e];exact⟨b,c⟩
 .rw[Õ e,Õ λz=>e<|b.trans z];exact⟨b,d⟩
def KV.put{Ç vs}(r:KV Ç vs)(k:κ){y u}(a:RelV y u):KV (putK Ç k y) (stored vs k u):=by
 unfold putK stored;rw[r.any k];by_cases e:(vs.any λb=>decide (b.1=k))=U;.rw[Ð e,Ð e];exact r.Vs k a
 .rw[Õ e,Õ e];exact Paired.snoc r ⟨M,a⟩
theorem KV.length{Ç}{vs:List (κ×Value)}(r:KV Ç vs):Ç.length=vs.length:=Dm r
end
def Eo{P w}:∀{k u},RelV (kV k) u->(bU P w).is k u=U|.inl (L i),u,r=>by obtain⟨t,e⟩:=r;subst e;exact we P w i t|.inl Y,u,r=>by cases r;rfl|.inr x,u,r=>by obtain⟨t,e⟩:=r;subst e;exact wc P w x t
def ND{P w k u}(h:(bU P w).is k u=U):RelV (kV k) u:=by
 rcases bA h with⟨i,t,rfl,rfl⟩|⟨x,t,rfl,rfl⟩|⟨rfl,rfl⟩;.exact⟨t,M⟩
 .exact⟨t,M⟩
 .rfl
theorem uH{P w}:∀{ks us},Vals (ks.map kV) us->ItemsAre (bU P w) ks us|[],_,r=>by cases r;exact .nil|k::ks,_,r=>by cases r with|cons h t=>exact .cons (Eo h)<|uH t
abbrev KT(H:Hp):List (List Key×V)->List (List Key×Addr×Value)->Prop:=Paired λp q=>p.1=q.1/\H q.2.1=L (.t<|p.1.map kV)/\RelV p.2 q.2.2
def KT.val{H Ç xs}(r:KT H Ç xs)(k):vp (xu Ç k) ((atKey xs k).map (·.2)):=by induction r with|nil=>exact True.intro|@cons p q ps qs h t ih=>
 refine Yc h λa _ d=>?_;by_cases e:p.1=k
 .have b:atKey (q::qs) k=L q.2:=by simp[atKey,a.symm.trans e]
  rw[jQ e,b];exact d
 .have c:¬q.1=k:=λz=>e<|a.trans z;have b:atKey (q::qs) k=atKey qs k:=by simp[atKey,c]
  rw[jR e,b];exact ih
def KT.Vs{H Ç xs}(r:KT H Ç xs)(k){y u}(d:RelV y u):KT H (Ç.map λb=>if b.1=k then(b.1,y)else b) (xs.map<|putAt k u):=by induction r with|nil=>exact .nil|@cons p q ps qs h t ih=>
 rw[ņ];refine .cons ?_ ih;refine Yc h λa c f=>?_;unfold putAt;by_cases e:p.1=k;.rw[Ð e,Ð<|a.symm.trans e];exact⟨a,c,d⟩
 .rw[Õ e,Õ λz=>e<|a.trans z];exact⟨a,c,f⟩
def KT.put{H Ç xs}(r:KT H Ç xs)(k){b y u}(d:H b=L (.t<|k.map kV))(a:RelV y u):KT H (putK Ç k y) (storedH xs k b u):=by
 have e:(Ç.any λc=>decide (c.1=k))=(atKey xs k).isSome:=by rw[qD,(r.val k).nZ,Option.isSome_map]
 unfold putK storedH;rw[e];by_cases q:(atKey xs k).isSome=U;.rw[Ð q,Ð q];exact r.Vs k a
 .rw[Õ q,Õ q];exact Paired.snoc r ⟨M,d,a⟩
def KT.keeps{H H' Ç xs}(r:KT H Ç xs)(a:∀b ys,H b=L (.t ys)->H' b=L (.t ys)):KT H' Ç xs:=Paired.En r λ_ _ z=>⟨z.1,a _ _ z.2.1,z.2.2⟩
section
variable{P:Program}{w:World}{H:Hp}{h:Heap}{a:Addr}
def GB{u}(ok:Ģ P w H h)(e:Rd H a u):cB P w H h a u:=e.ok ok
def Lj{Ç}(ok:Ģ P w H h)(e:Rd H a (.dK Ç)):Ç.length<=sizeLine/\(a==sysModules)=O/\∃vs,KV Ç vs/\h.DictOf (bU P w) a vs:=GB ok e
def DN{Ç}(ok:Ģ P w H h)(e:H a=L (.dK Ç)):Ç.length<=sizeLine/\(a==sysModules)=O/\∃vs,KV Ç vs/\h.DictOf (bU P w) a vs:=Lj ok<|.inl e
def qb{ks}(ok:Ģ P w H h)(e:H a=L (.t<|ks.map kV)):(tupleKind<|bU P w).is h ks a:=by obtain⟨_,d,r,o,b,f,n,c⟩:=ok a _ e;exact⟨o,_,n,b,f,c,by simpa using uH r⟩
def Uz{Ç}(ok:Ģ P w H h)(e:Rd H a (.dT Ç)):Ç.length<=sizeLine/\(a==sysModules)=O/\∃xs,KT H Ç xs/\h.DictOfH (tupleKind<|bU P w) a xs:=by
 obtain⟨z,y,xs,r,o,d,c,f,k,g,i,j⟩:=GB ok e;refine⟨z,y,xs,r,o,d,c,f,k,g,i,λx b=>?_,j⟩;have all:∀{l}{m},KT H l m->∀x∈m,(tupleKind<|bU P w).is h x.1 x.2.1:=by intro l m q;induction q with|nil=>intro x b;exact nomatch b|@cons p q ps qs hq t ih=>
   intro x b;rcases Ę.mp b with e|b;.exact qb ok (by grind)
   .exact ih x b
 exact all r x b
def EN{Ç}(ok:Ģ P w H h)(e:H a=L (.dT Ç)):Ç.length<=sizeLine/\(a==sysModules)=O/\∃xs,KT H Ç xs/\h.DictOfH (tupleKind<|bU P w) a xs:=Uz ok<|.inl e
end
def Ly(H:Hp)(a:Addr)(y:V)(r:Option V):Prop:=(∃c k,Rd H a (.dK c)/\y=kV k/\r=xu c k)\/∃c k b,Rd H a (.dT c)/\y=.ref b/\H b=L (.t<|k.map kV)/\r=xu c k
def Tg(H:Hp)(a:Addr)(y v:V)(H':Hp):Prop:=(∃c k,H a=L (.dK c)/\y=kV k/\c.length<sizeLine/\H'=upd H a (.dK<|putK c k v))\/∃c k b,H a=L (.dT c)/\y=.ref b/\H b=L (.t<|k.map kV)/\c.length<sizeLine/\H'=upd H a (.dT<|putK c k v)
theorem Tg.k{H a Ç k v}(e:H a=L (.dK Ç))(b:Ç.length<sizeLine):Tg H a (kV k) v (upd H a<|.dK<|putK Ç k v):=.inl ⟨_,k,e,M,b,M⟩
section
variable{X:Cx}{Æ:Pn}{Z:St}{H:Hp}{s:Shared}{a:Addr}{y v:V}{u r:Value}{o:Option V}{A:Around}{E:VS}
def Inv.big(I:Inv X Æ Z H s):sysModules<s.heap.objs.size:=by exact Nat.lt_trans (by decide) (I.mod.glob.keeps I.bk).lt
def BV{Q}(n:A.units+1<cLine)(I:Inv X Æ Z H s)(g:Ly H a y o)(m:RelV y u)(h:∀s',Inv X Æ Z H s'->Q (.bool !o.isSome) s'):wpAny (model X.prog X.w) A (compareOp .NotIn u<|.ref a) Q E s:=by
 rcases g with⟨j,k,e,d,l⟩|⟨j,k,b,e,d,p,l⟩;.subst d;obtain⟨z,f,w,c,i⟩:=Lj I.Û e;refine wpAny_notIn_of (Eo m) f i.mapOf ?_;rw[<-(c.val k).nZ,<-l];exact h _<|I.tok _
 .subst d;cases m;obtain⟨z,f,t,c,i⟩:=Uz I.Û e;refine wpAny_notIn_heap (tupleKind_room_in1 n) (qb I.Û p) f i ?_;have q:=(c.val k).nZ;rw[Option.isSome_map]at q;rw[<-q,<-l];exact h _<|I.tok _
def wG{h' t' ob}(I:Inv X Æ Z H s)(d:Yj (H a))(hs:Heap.SameBut a s.heap h')(e:∃q,h'.get? a=L q)(new:cB X.prog X.w (upd H a ob) h' a ob):Inv X Æ Z (upd H a ob) {s with heap:=h',toks:=t'}:=I.write  d (.inl rfl) (λb q c z=>(hs.2 b c).trans z) e new
def IP{P w H' h' Ç vs}(z:Ç.length<=sizeLine)(c:(a==sysModules)=O)(b:KV Ç vs)(dd:h'.DictOf (bU P w) a vs):cB P w H' h' a (.dK Ç):=⟨z,c,vs,b,dd⟩
def L3{H' Q}(N:A.units+1<cLine)(I:Inv X Æ Z H s)(g:Tg H a y v H')(C:RelV y u)(D:RelV v r)(h:∀s',Inv X Æ Z H' s'->Q () s'):wpAny (model X.prog X.w) A (setItem (.ref a) u r) Q E s:=by
 rcases g with⟨f,k,e,n,l,w⟩|⟨f,k,b,e,n,G,l,w⟩
 .subst n w;obtain⟨z,t,Ã,d,B⟩:=DN I.Û e;have p:Ã.length<=sizeLine:=by rw[<-d.length];exact z
  have x:(putK f k v).length<=sizeLine:=by have:=nP f k v;omega
  refine wpAny_setItem_pairs (hsz:=p) (Eo C) B λK i m=>h _ ?_;have T:∃q,K.get? a=L q:=let⟨q,_,_,j,_⟩:=i;⟨q,j⟩;exact wG I (by rw[e];exact True.intro) m T<|IP x t (d.put k D) i
 .subst n w;cases C;obtain⟨z,t,Å,d,B⟩:=EN I.Û e;have p:Å.length<=sizeLine:=by rw[<-Dm d];exact z
  have x:(putK f k v).length<=sizeLine:=by have:=nP f k v;omega
  refine wpAny_setItem_heap (hsz:=p) (tupleKind_room_in1 N) (qb I.Û G) B λK i m=>h _ ?_;obtain⟨q,S,R,j,Ä,Â,Á,_,P⟩:=i;refine wG I (by rw[e];exact True.intro) m ⟨q,j⟩ ⟨x,t,_,(d.put k G D).keeps λc ys J=>?_,q,S,R,j,Ä,Â,Á,P⟩;rw[ag (JO J e λz=>nomatch z)];exact J
end
section
variable{X:Cx}{Æ:Pn}{Z:St}{H:Hp}{s:Shared}{a:Addr}{Ç:List (Key×V)}{A:Around}{E:VS}
def CN{Q}(I:Inv X Æ Z H s)(e:Rd H a (.dK Ç))(h:∀t s',Inv X Æ Z H s'->Q (.int Ç.length t) s'):wpAny (model X.prog X.w) A (call (.builtin "len") [.ref a]) Q E s:=by obtain⟨z,c,f,b,d⟩:=Lj I.Û e;refine call_len_dict c d (by rw[<-b.length];rw[Mc]at z;omega) ?_;rw[<-b.length];exact h _ _<|I.tok _
end
def ZO(e ty tv:TE):TS:=λD b H=>tv b H λv g=>e b g λx f=>ty b f λy d=>∃a c,x=.ref a/\Tg d a y v c/\D.nx b c
section
variable{X:Cx}{o i value:Expr}{pos pos':Pos}{td ty tv:TE}
def PH(j:X.A.units+1<cLine)(n:PE X o td)(hi:PE X i ty)(l:PE X value tv)(hs:swapsWith value (L<|.Subscript o i pos') pos.line X.env=pure O):PS X (.Assign [.Subscript o i pos'] value pos) (ZO td ty tv):=by intro c s b H D I h;refine wpAny_Assign_Subscript (ß (l _ s b H _ I h) λr C⟨v,N,k,f,w⟩=>ß (n _ _ b _ _ k w) λu J⟨x,E,t,z,p⟩=>ß (hi _ _ b _ _ t p) λÅ B⟨y,K,m,d,a,A,ex,g,q⟩=>?_) hs;subst ex;obtain rfl:=z;exact L3 j m g d f λG I4=>⟨b,A,I4,q⟩
end
def RZ{P w H}(h:Heap)(a:sysModules<h.objs.size):cB P w H (h.push {cls:=.type "dict",data:=.dict #[]}) h.objs.size (.dK []):=⟨Ś _,ϖ.mpr<|ö<|ğ a,[],.nil,Heap.DictOf.new h⟩
def HU:TE:=λ_ H Q=>∀p,H p=Y->Q (.ref p) (upd H p<|.dK [])
section
variable{X:Cx}{pos:Pos}
def xZ:PE X (.Dict [] [] pos) HU:=λa s b H Q I h=>wpAny_Dict_empty ⟨.ref _,_,I.laid  (λ_ _ q=>Ă _ q) (í _)<|RZ _ I.big,M,h _<|I.Û.fresh<|í _⟩
end
section
variable{X:Cx}
theorem ni{h:Heap}:∀{us:List Value}{ds:List PyData}{a:List Addr},ReadsAll h us ds a->us.length=ds.length|_,_,_,.nil=>rfl|_,_,_,.cons _ t=>by rw[Ĩ,Ĩ,ni t]
def HE(p:PyData->Bool)(ds:List PyData)(k:Nat):Prop:=(∃d,ds[k]?=L d/\p d=U)/\∀m d,m<k->ds[m]?=L d->p d=O
def T4:Ih X "list.index" λx vs H Q=>∃n y d ds k,vs=[y]/\Ū X.K H n y d/\Ū X.K H (n+1) x (.list ds)/\X.A.units+1+n<cLine/\HE (λz=>PyData.eqv z d) ds k/\ds.length<=1000000/\Q (.int k) H:=by
 intro t s Ã H x vs v Á Q I N w⟨n,y,d,ds,k,e,Å,J,P,⟨⟨T,f,D⟩,j⟩,hl,q⟩;subst e;obtain⟨u,rfl,C⟩:=vals1 w;obtain⟨⟨Â,G⟩,A,Ä⟩:=I.reads n d y u Å C;obtain⟨⟨bs,B⟩,i,S⟩:=I.reads _ _ x v J N;have i:PyData.canLayAll0 ds=U:=by simpa[PyData.canLay0]using i
 cases B with|@list a o È m ds' as' h1 h2 h3 h4=>
 obtain⟨cl,K,dt,E⟩:=o;cases h2;cases h3;have c:=SeqAt.readsAll_map ds _ _ i h4;have b:=ni h4;have g:∀m(h:m<È.size),ds[m]?=L (SeqAt.readOf s.heap È[m]):=λm h=>by rw[<-c,Ų];simp[h]
 have r:k<È.size:=by have:=(Ĵ.mp f).1;have:È.toList.length=ds.length:=b;simp at this;omega
 have p:=g k r;rw[f]at p;have R:È.size<=1000000:=by have:È.toList.length=ds.length:=b;simp at this;omega
 refine Qd F.slot_list_index ⟨_,h1,M⟩ F.entry_list_index (F.args_list_index_2 _ _) (SeqAt.list_indexAt a È m K E u (λz=>PyData.eqv (SeqAt.readOf s.heap z) d) k r (by omega) ?_ λm h l=>?_) ⟨h1,SeqAt.items_eqAt h4 G i A (by have:=Jl (PyData.depthAll ds) d.depth;omega),⟨.int k,H,I.tok _,⟨_,M⟩,q⟩⟩;.show PyData.eqv (SeqAt.readOf s.heap È[k]) d=U;rw[<-ŧ p];exact D
 .exact j m _ l (g m h)
def N3(Á:X.calm=U):bG X (.builtin "all") λxs H Q=>∃(l:Addr)(bs:List Bool),xs=[.ref l]/\ÿ X.K H l (bs.map V.B)/\Q (.B<|bs.all id) H:=by
 intro G s Z H xs us Q I r h;obtain⟨l,bs,rfl,Â,q⟩:=h;obtain⟨u,rfl,R⟩:=vals1 r;cases R;obtain⟨a,C,x,hz⟩:=I.list Â;have S:=C.length;have N:l<s.heap.objs.size:=by obtain⟨o,_,m,_⟩:=x;exact ĉ m
 have B:∀(i:Nat)(v:Value),a.toArray[i]?=L v->∃b,bs[i]?=L b/\v=Value.bool b:=λi v Å=>by
  have d:a[i]?=L v:=by simpa using Å
  have c:i<(bs.map V.B).length:=by have:=(Ĵ.mp d).1;omega
  obtain⟨u,f,D⟩:=C.get<|ν c;rw[d]at f;cases f;have n:i<bs.length:=by simpa using c
  refine⟨bs[i],ν n,?_⟩;rw[List.getElem_map]at D;exact D
 refine call_all_walk (wpAny_pyIter_list x.isList ⟨s.heap.objs.size,_,_,_,_,_,λi=>bs.getD i O,M,Walks.list (prog:=X.prog) (w:=X.w) (A:=X.A.in1) (show X.A.in1.handled=Y from I.ok.hd Á) s.heap.objs.size l (ğ N) a.toArray,⟨⟨_,ĺ _ M,M,M⟩,?_⟩,?_,λh' tk K=>?_⟩);.obtain⟨o,k,m,j,Ä,y⟩:=x;exact⟨o,Ă _ m,j,k,y⟩
 .intro i v T Ã E' J g;obtain⟨b,t,rfl⟩:=B i v J;have g:Ã (bs.getD i O) T:=g;rw[Zf,t]at g;exact Mb g
 .have e:(List.range a.toArray.size).all (λi=>bs.getD i O)=bs.all id:=by
   have p:a.toArray.size=bs.length:=by simp at S⊢;omega
   rw[p,ϯ,ş,ş];constructor;.intro h b B;obtain⟨i,c,rfl⟩:=Qr B;have:=h i<|ŵ.mpr c;rw[Zf,ν c]at this;exact this
   .intro h i c;have c:=ŵ.mp c;rw[Zf,ν c];exact h _<|Ai c
  rw[e];exact⟨.B _,H,I.kept λb o E=>K b o (by
  intro z;have P:b=s.heap.objs.size:=by simpa using z
  exact absurd (ĉ E)<|by rw[P];exact Jb _)<|Ă _ E,M,q⟩
def RG:ξ X λx y H Q=>∃a Ç k v,x=.ref a/\y=kV k/\Rd H a (.dK Ç)/\xu Ç k=L v/\Q v H:=by intro b d g s p H x y v u Q I n i⟨a,_,k,z,ex,m,e,l,q⟩j;subst ex m;cases n;obtain⟨w,r,t,c,h⟩:=Lj I.Û e;refine fy (vp.some_of<|by rw[<-l];exact c.val k) λo hw f=>?_;exact tail_any h.typeIs Lx.lookup (wpAny_getItem_of (Eo i) h.mapOf hw<|hU z H (I.tok _) f q) j
def Dh(w:World)(K:W.Frag)(a:Addr)(Ç:List (Str×V)):Prop:=∃b n,K.lookup a=L ⟨.type "dict",Y,.dict b n,#[]⟩/\Paired (λ(p:Str×V)(e:DictEntry)=>(∃t,e.key=.str p.1 t)/\e.hash=PyData.keyHash w.params p.1/\RelV p.2 e.val) Ç b.toList
theorem qa{w:World}:∀{Ç es},Paired (λ(p:Str×V)e=>(∃t,e.key=.str p.1 t)/\e.hash=PyData.keyHash w.params p.1/\RelV p.2 e.val) Ç es->W.KeysLit w.params es|_,_,.nil=>trivial|_,_,.cons ⟨⟨t,e1⟩,e2,_⟩ r=>⟨⟨_,t,e1,e2⟩,qa r⟩
theorem UE{w:World}(k)(v):∀{Ç es},Paired (λp(e:DictEntry)=>(∃t,e.key=.str p.1 t)/\e.hash=PyData.keyHash w.params p.1/\RelV p.2 e.val) Ç es->Ç.lookup k=L v->∃e,es.find? (λe=>Value.isStrOf k e.key)=L e/\RelV v e.val
|_,_,.nil,h=>by simp at h|_,_,.cons (a:=p) (b:=e) ⟨⟨t,e1⟩,e2,rv⟩ r,h=>by
 by_cases c:k=p.1;.obtain⟨d,g⟩:=p;subst c;simp[List.lookup]at h;subst h;exact⟨e,by simp[List.find?,e1,Value.isStrOf],rv⟩
 .obtain⟨d,g⟩:=p;have f:(k==d)=O:=by simpa using c
  simp only[List.lookup,f]at h;refine fy (UE k v r h) λi j l=>?_;refine⟨i,?_,l⟩;rw[List.find?_cons,e1];have:Value.isStrOf k (.str d t)=O:=by simp[Value.isStrOf];exact λz=>c z.symm
  rw[this];exact j
def L0{a0 Ç}(D:Dh X.w X.K a0 Ç):ξ X λx y H Q=>x=.ref a0/\∃k v,y=.str k/\Ç.lookup k=L v/\Q v H:=by intro a b c s w H x y v u Q I m f⟨ex,k,z,i,l,q⟩g;subst ex i;cases m;obtain⟨t,rfl⟩:=f;refine dB D λr n h p=>?_;refine fy (UE k z p l) λe j o=>?_;have d:=W.mapOf_K (prog:=X.prog) I.ć h<|qa p;refine tail_any d.typeIs Lx.lookup (wpAny_getItem_of (strKind_is _ _ k t) d ?_<|hU z H (I.tok _) o q) g;unfold findBy;rw[<-Kr,j];rfl
end
def AI(dx:DX)(vs:Array Value)(v:Value):Prop:=vs[1]?=L v/\vs[2]?=L dx.2.2/\vs[0]?=L dx.2.1
def ϗ(h:Heap)(e C:Addr)(dx:DX)(f:Value):Option Addr->Prop|none=>∃a b,h.get? e=L a/\a.cls=.ref C/\a.dict=dx.1/\a.data=.fields b/\AI dx b .none|some T=>T≠e/\∃a b c d,h.get? e=L a/\a.cls=.ref C/\a.dict=dx.1/\a.data=.fields b/\AI dx b (.ref T)/\h.get? T=L c/\c.data=.fields d/\d[3]?=L f
def ϗ.there{h e C dx i T}(t:ϗ h e C dx i T):∃a vs,h.get? e=L a/\a.cls=.ref C/\a.dict=dx.1/\a.data=.fields vs/\vs[2]?=L dx.2.2/\vs[0]?=L dx.2.1:=by cases T with|none=>refine mv t λa vs b g c d f=>?_;exact⟨a,vs,b,g,c,d,f.2⟩|some T=>obtain⟨_,a,vs,_,_,b,g,c,d,f,_⟩:=t;exact Ϩ a vs b g c d f.2
def ϗ.keeps{h h' e C dx f T}(t:ϗ h e C dx f T)(k:∀b o,b=e\/T=L b->h.get? b=L o->h'.get? b=L o):ϗ h' e C dx f T:=by cases T with|none=>exact dB t λa d c r=>⟨a,d,k _ _ (.inl rfl) c,r⟩|some T=>obtain⟨g,a,d,l,i,c,q,m,n,p,j,r⟩:=t;exact⟨g,a,d,l,i,k _ _ (.inl rfl) c,q,m,n,p,k _ _ (.inr rfl) j,r⟩
def Obj.pf(f)(o:Obj):(o.mapFields f).dict=o.dict:=by obtain⟨c,d,a,b⟩:=o;cases a<;>rfl
section
variable{s:Shared}
def uS{w g d À e C y vs head k Q dx}(J:A.frames=L (g::d))(N:s.heap.FunFrames w (g::d))(P:g.frame=L À)(K:s.heap.get? e=L y)(I:y.data=.fields vs)(hsz:1<vs.size)(m:vs[2]?=L dx.2.2/\vs[0]?=L dx.2.1)(H:y.dict=dx.1)(h:∀h' Ã,(∀b o,s.heap.get? b=L o->b≠e->b∉œ (g::d)->h'.get? b=L o)->(∀b o,s.heap.get? b=L o->b∈œ (g::d)->∃sl,h'.get? b=L {o with slots:=sl})->s.heap.objs.size<=Ã->ϗ h' e C dx (rawInt À) (L Ã)->Q () {s with heap:=h'})(S:y.cls=.ref C):wpAny Å A (do let a <-frameOf g;let pl <-entryPlaceOf À k;let b <-EntryCells.newEntry head a .none (rawInt À) .none pl;setField (.ref e) 1 b) Q E s:=by
 have n:e ∉(g::d).filterMap (·.frame):=λR=>by obtain⟨_,o,D,G⟩:=N.mem R;rw[K]at D;injection D with D;subst D;exact G vs I
 refine Í (wpAny_frameOf_fun J N P λc f=>?_);refine Í (wpAny_entryPlaceOf λpl v=>?_);unfold EntryCells.newEntry newFields;refine Í<|Ol ?_<|v.sizeOk5 _ _ _ _ _;have j:c.get? e=L y:=(f.2.1 e n).trans K;have l:=Ă {cls:=.type "traceback",dict:=Y,data:=.fields ([head,.ref À,.none,rawInt À,.none]++if pl.isEmpty then List.replicate 6 Value.none else pl).toArray} j;refine Td l I hsz ?_;have x:=Ŵ<|ĉ j;have i:=Gi I (·.setIfInBounds 1 (Value.ref c.objs.size));have u:=Ob (Obj.mapFields (·.setIfInBounds 1 (Value.ref c.objs.size))) l<|Uq i;have p:=(ϟ (c.push {cls:=.type "traceback",dict:=Y,data:=.fields ([head,.ref À,.none,rawInt À,.none]++if pl.isEmpty then List.replicate 6 Value.none else pl).toArray}) (Obj.mapFields (·.setIfInBounds 1 (Value.ref c.objs.size)))<|ö x).trans<|ĺ c M;have keep:∀b o,b≠e->c.get? b=L o->((c.push {cls:=.type "traceback",dict:=Y,data:=.fields ([head,.ref À,.none,rawInt À,.none]++if pl.isEmpty then List.replicate 6 Value.none else pl).toArray}).update e<|Obj.mapFields (·.setIfInBounds 1 (Value.ref c.objs.size))).get? b=L o:=λb o r B=>by rw[ϟ _ _ (ö r)];exact Ă _ B
 refine h _ c.objs.size (λb o B r t=>keep b o r<|(f.2.1 b t).trans B) (λb o B t=>?_) ?_ ?_;.obtain⟨sl,q⟩:=f.2.2 b o B;exact⟨sl,keep b _ (λz=>n<|z▸t) q⟩
 .rw[f.1];exact í _
 .exact⟨x,_,_,_,_,u,(Obj.cls_mapFields _ _).trans S,(Obj.pf _ _).trans H,i,⟨by simp[hsz],by rw[Qx];simpa using m.1,by rw[Qx];simpa using m.2⟩,p,M,by first|(simp;done)|(rcases v with rfl|⟨_,_,_,_,_,_,_,rfl⟩<;>simp)⟩
def ye{l d a À e C dx R T Q}(n:A.frames=L (d::a))(K:s.heap.FunFrames l (d::a))(u:d.frame=L À)(Â:ϗ s.heap e C dx R T)(y:(R==rawInt À)=O)(h:∀h' k,(∀b o,s.heap.get? b=L o->b≠e->T≠L b->b∉œ (d::a)->h'.get? b=L o)->(∀b o,s.heap.get? b=L o->b∈œ (d::a)->∃sl,h'.get? b=L {o with slots:=sl})->s.heap.objs.size<=k->ϗ h' e C dx (rawInt À) (L k)->Q () {s with heap:=h'}):wpAny Å A (noteFrame (.ref e) d) Q E s:=by unfold noteFrame;simp only[u];cases T with|none=>refine mv Â λÄ B t Ã i m j=>?_;refine Í<|Ń t m j.1 ?_;rw[Õ (by decide)];exact uS n K u t m (Hm.mp j.1).1 j.2 i (λh' k N G w D=>h h' k (λb o f v _ x=>N b o f v x) G w D) Ã|some T=>
 obtain⟨J,Ä,B,oT,ts,t,Ã,i,m,j,P,p,S⟩:=Â;refine Í<|Ń t m j.1 ?_;rw[Ð (by simp)];refine Í<|Ń P p S ?_;rw[Õ (by rw[y];exact ř)];refine Í<|Td P p (Hm.mp S).1 ?_;have other:∀b,b≠T->(s.heap.update T<|Obj.mapFields (·.setIfInBounds 3 Value.none)).get? b=s.heap.get? b:=λb f=>ϟ _ _<|ö f;have c:∀b o,s.heap.get? b=L o->(∀B,o.data≠.fields B)->b≠T:=λb o f g q=>by grind
 have I:∀b∈œ (d::a),b≠T:=λb f=>by obtain⟨_,o,Á,g⟩:=K.mem f;exact c b o Á g
 refine uS n (K.of_keeps λb o f g=>⟨o,(other b<|c b o f g).trans f,M⟩) u ((other e<|ö J).trans t) m (Hm.mp j.1).1 j.2 i (λh' k N G w D=>h h' k (λb o f v X x=>?_) (λb o f r=>?_) ?_ D) Ã;.have H:b≠T:=λz=>X (by rw[z]);exact N b o ((other b H).trans f) v x
 .exact G b o ((other b<|I b r).trans f) r
 .rw[<-Heap.size_after_update ..];exact w
def V3{a}{À e C T:Addr}{dx d Q}(f:a.frame=L À)(o:ϗ s.heap e C dx d (L T))(c:(d==rawInt À)=U)(h:Q () s):wpAny Å A (noteFrame (.ref e) a) Q E s:=by unfold noteFrame;simp only[f];obtain⟨g,q,u,r,p,j,t,k,n,l,i,b,m⟩:=o;refine Í<|Ń j n l.1<|Í<|Ń i b m ?_;rw[Ð c];exact ì h
def z8   (t:ϗ s.heap e C dx fl (L T))(h:∀h',(∀b o,s.heap.get? b=L o->b≠T->h'.get? b=L o)->ϗ h' e C dx (fr.elim .none λf=>rawInt f) (L T)->Q () {s with heap:=h'}):wpAny Å A (setFlight (.ref e) fr) Q E s:=by obtain⟨d,p,u,w,v,k,r,g,m,l,j,a,q⟩:=t;have c:=(Hm.mp q).1;have other:∀b,b≠T->(s.heap.update T<|Obj.mapFields (·.setIfInBounds 3 (fr.elim Value.none λf=>rawInt f))).get? b=s.heap.get? b:=λb i=>ϟ _ _<|ö i;exact Í (Ń k m l.1<|Td j a c<|h _ (λb o i n=>(other b n).trans i) ⟨d,p,u,_,_,(other e<|ö d).trans k,r,g,m,l,Ob _ j<|Uq<|Gi a _,Gi a _,by grind⟩)
end
def fj{P w H h a o}(x:cB P w H h a o):∃ob,h.get? a=L ob:=by cases o with|l xs=>obtain⟨_,_,_,_,e⟩:=x;exact⟨_,e⟩|t xs=>obtain⟨_,_,_,o,e,_⟩:=x;exact⟨_,e⟩|dK Ç|dT Ç=>obtain⟨_,_,_,_,o,_,_,e,_⟩:=x;exact⟨_,e⟩|set S n=>obtain⟨o,_,_,_,e,_⟩:=x;exact⟨_,e⟩|i C dx fs=>obtain⟨_,_,_,e,_⟩:=x;exact⟨_,e⟩|own y=>exact x|xd fs=>obtain⟨_,⟨_,_,_,e,_⟩,_⟩:=x;exact⟨_,e⟩|û lo hi=>obtain⟨_,_,_,e⟩:=x;exact⟨_,e⟩|î ob u=>obtain⟨e,_⟩:=x;exact⟨_,e⟩|tbl ps|met f y=>exact⟨_,x⟩|tab ps=>rcases x with e|⟨_,_,_,_,_,e,_⟩<;>exact⟨_,e⟩|ext φ=>obtain⟨_,e,_⟩:=x;exact e
def Ő(X:Cx)(Æ:Pn)(H:Hp)(b:Addr):Prop:=H b=Y/\b≠X.env.locals/\b∉X.fs/\(b∈X.ex\/X.Ĉ.heap.get? b=Y)/\(∀x c,X.env.cells.lookup x=L c->c≠b)/\∀p∈X.pn++Æ,p.1≠b
structure ù(X:Cx)(Æ:Pn)(Z:St)(H:Hp)(s:Shared)(e C:Addr)(dx:DX)(fl:Value)(T:Option Addr):Prop where
 inv:Inv X Æ Z H s
 ū:ϗ s.heap e C dx fl T
 fe:Ő X Æ H e
 fT:∀t,T=L t->Ő X Æ H t
section
variable{X:Cx}
def Inv.Bb{H'}(I:Inv X Æ Z H s){b}(d:s.heap.get? b=Y)(g:H' b=Y):Ő X Æ H' b:=by
 refine⟨g,λz=>?_,λz=>?_,?_,λx c i z=>?_,λp h z=>?_⟩;.obtain⟨m,⟨o,k,j,a,_⟩,_⟩:=I.loc;rw[<-z,d]at a;cases a
 .obtain⟨_,o,a,_⟩:=I.su.mem z;rw[d]at a;cases a
 .by_cases f:b∈X.ex;.exact .inl f
  .refine .inr ?_;cases q:X.Ĉ.heap.get? b with|none=>rfl|some o=>obtain⟨l,e⟩:=I.base.there b o q f;rw[d]at e;cases e
 .obtain⟨v,o,a,_⟩:=I.cell x c i;rw[z,d]at a;cases a
 .have:=(I.pin p h).1;rw[z,d]at this;cases this
def Inv.Gj(I:Inv X Æ Z H s){ch:List Addr}{h'}(d:∀b∈ch,Ő X Æ H b)(k:∀b o,s.heap.get? b=L o->b∉ch->b∉œ X.stack->h'.get? b=L o)(f:∀b o,s.heap.get? b=L o->b∉ch->b∈œ X.stack->∃sl,h'.get? b=L {o with slots:=sl}):Inv X Æ Z H {s with heap:=h'}:=by
 have any:=λb o q a=>by
  by_cases e:b∈œ X.stack;.exact f b o q a e
  .exact⟨o.slots,k b o q a e⟩
 have Ye:∀b u,H b=L u->b∉ch/\b∉œ X.stack:=λb u q=>⟨(λz=>by rw[(d b z).1]at q;cases q),λz=>by rw[I.vG b z]at q;cases q⟩;refine I.Uj (λb e=>⟨(d b e).2.2.2.1,(d b e).2.1,(d b e).2.2.2.2.1,(d b e).2.2.2.2.2⟩) (λb o g h a q _=>k b o q a<|(λb g h z=>(Ę.mp<|I.xI b z).elim g h) b g h) (λb o _ _ a q _=>any b o q a) (λ_ _ _ _ n=>n) (λb o a q=>let⟨sl,z⟩:=any b o q a;⟨_,z⟩) (λ_ _ q=>q) (λ_ _ _ q=>q) (λb w q=>⟨#[],by rw[q];simp⟩) (λm p=>?_) (λb u q=>?_) I.bare;.refine vq p λo j i t r=>?_;obtain⟨sl,l⟩:=any _ o t λz=>(d _ z).2.1 M;exact Vb _ j i l r
 .refine(I.Û b u q).tj (λc v a z=>?_) (λ_ z=>z) λ_ _ z=>z;rcases a with rfl|a;.exact k c v z (Ye c u q).1 (Ye c u q).2
  .exact k c v z (Ye c _ a).1 (Ye c _ a).2
def ù.note(t:ù X Æ Z H s e C dx fl T)(hs:X.stack=X.env::X.outer)(m:X.env.frame=L X.env.locals)(h:∀h' j r,ù X Æ Z H {s with heap:=h'} e C dx r (L j)->Q () {s with heap:=h'}):wpAny Å X.A (noteFrame (.ref e) X.env) Q E s:=by
 have I:=t.inv;have g:=I.stack;rw[hs]at g;have k:(fl==rawInt X.env.locals)=O->wpAny Å X.A (noteFrame (.ref e) X.env) Q E s:=λc=>by
  refine ye (by rw[<-hs];exact I.ok.frames) g m t.ū c λh' j u n i w=>h h' j (rawInt X.env.locals) ?_;have f:=I.Û.fresh i;have v:∀b∈e::T.toList,Ő X Æ H b:=λb a=>by
   rcases Ę.mp a with rfl|a;.exact t.fe
   .exact t.fT b (by grind)
  have d:∀b,b∉e::T.toList->b≠e/\T≠L b:=λb a=>⟨λz=>a (by rw[z];exact ę),λz=>a<|by rw[z];simp⟩;have p:=I.Gj v (λb o q l a=>u b o q (d b l).1 (d b l).2<|by rw[<-hs];exact a) λb o q _ a=>n b o q (by rw[<-hs];exact a);exact⟨p,w,t.fe,λb a=>by cases a;exact I.Bb (Qc i) f⟩
 cases T with|none=>exact(show ù X Æ Z H s e C dx .none Y->_ from λt=>by
   have c:((.none:Value)==rawInt X.env.locals)=O:=by simp[rawInt]
   refine ye (by rw[<-hs];exact I.ok.frames) g m t.ū c λh' j u n i w=>h h' j (rawInt X.env.locals) ?_;have f:=I.Û.fresh i;have p:=I.Gj (λb a=>by rw[Ň.mp a];exact t.fe) (λb o q l a=>u b o q (λz=>l<|by rw[z];exact ę) (by intro z;cases z)<|by rw[<-hs];exact a) λb o q _ a=>n b o q (by rw[<-hs];exact a);exact⟨p,w,t.fe,λb a=>by cases a;exact I.Bb (Qc i) f⟩) ⟨t.inv,t.ū,t.fe,t.fT⟩|some T0=>cases c:fl==rawInt X.env.locals with|false=>exact k c|true=>exact V3 m t.ū c<|h s.heap T0 fl t
def ù.wo{T fr}(t:ù X Æ Z H s e C dx fl (L T))(h:∀h' a,ù X Æ Z H {s with heap:=h'} e C dx a (L T)->(fr=Y->a=.none)->Q () {s with heap:=h'}){A}:wpAny Å A (setFlight (.ref e) fr) Q E s:=by exact z8 t.ū λh' d f=>h h' _ ⟨t.inv.Gj (λb g=>by rw[Ň.mp g];exact t.fT T M) (λb o q c _=>d b o q λz=>c<|by grind) λb o q c _=>⟨_,d b o q λz=>c<|by grind⟩,f,t.fe,t.fT⟩ λz=>by grind
def ù.og{T}(t:ù X Æ Z H s e C dx fl (L T))(h:∀h',ù X Æ Z H {s with heap:=h'} e C dx .none (L T)->Q () {s with heap:=h'}){A}:wpAny Å A (setFlight (.ref e) Y) Q E s:=t.wo λh' a b z=>h _<|z M▸b
def ù.pass{α T b c Q}(t:ù X Æ Z H s e C dx fl (L T))(h:∀h' a,ù X Æ Z H {s with heap:=h'} e C dx a (L T)->E (.ref e) {s with heap:=h'}){A}:wpAny Å A (PySem.passOn b (.ref e) c:Sem α) Q E s:=by obtain⟨f,n,u,p,m,g,r,i,k,j,o,d,q⟩:=id t.ū;exact Í (Ń g k j.1<|Í<|t.wo λh' a l _=>wpAny_throw<|h _ _ l)
end
def ò(P:Program)(w:World):Wa:=λa H s E e b=>∃d C f T c,e=.ref d/\b.os=s.os/\AllBare b.gens/\Un (œ a) [] H c s.heap b.heap/\Ģ P w c b.heap/\ϗ b.heap d C f .none (L T)/\s.heap.get? d=Y/\s.heap.get? T=Y/\c d=Y/\c T=Y/\E (.ref C) f c
section
variable{X:Cx}
def Inv.thrown(I:Inv X Æ Z H s)(h:ò X.prog X.w X.stack H s E e s'):∃a C dx T H',e=.ref a/\ù X Æ Z H' s' a C dx .none (L T)/\E (.ref C) dx H':=by obtain⟨a,C,dx,T,H',rfl,j,g,un,c,i,d,k,f,l,q⟩:=h;exact⟨a,C,dx,T,H',M,⟨I.Du j un c g λb z=>absurd z (by simp),i,I.Bb d f,λt z=>by cases z;exact I.Bb k l⟩,q⟩
end
def jx{P w K i d N g scope f h A a s H E Æ Z H' s' e C dx T l}(t:ù (fA (ò P w) P w K i d N g scope f h A a s H E) Æ Z H' s' e C dx l T)(q:E (.ref C) dx H'):(fA (ò P w) P w K i d N g scope f h A a s H E).xe (.ref e) s':=by
 refine Í (t.note M M λn j _ m=>m.og λk c=>?_);have I:=c.inv;have new:∀b,Ő (fA (ò P w) P w K i d N g scope f h A a s H E) Æ H' b->s.heap.get? b=Y:=λb z=>by
  rcases z.2.2.2.1 with z|z;.exact absurd (show b∈[]from z) (by simp)
  .exact z
 exact⟨e,C,dx,j,H',M,I.os,I.bare,I.base,I.Û,c.ū,new e c.fe,new j<|c.fT _ M,c.fe.1,(c.fT j M).1,q⟩
section
variable{X:Cx}
def s9(X:Cx)(sp:Sp)(ĥ:List V)(t:TA):TE:=λd H Q=>t d H λf g=>∃E:XK,sp (f++ĥ) g Q E/\∀a s e C c T b,ù X a d b s e C c .none (L T)->E (.ref C) c b->X.xe (.ref e) s
def vK    (F:X.Fn (ò X.prog X.w) k f fd ps sp)(l:Ñ k X.A)(i:Binds X.K fd ps ds)(j:Vals ĥ ds)(b:∀Æ s e C dx T H',ù X Æ Z H' s e C dx .none (L T)->E (.ref C) dx H'->X.xe (.ref e) s)(I:Inv X Æ Z H s)(r:Vals vs us)(h:sp (vs++ĥ) H Q E):X.wp (call (.ref f) us) (EP X Æ Z Q) X.xe s:=by
 have r2:=r.append j;have d:(us++ds).length=ps.length:=by rw[<-r2.length];exact F.len _ _ _ _ h
 refine Nb (Xf (F.run _ _ s H _ _ _ Q E l trivial I.Ym (i s _ I.ć d) r2 h) λr g a=>?_);cases r with|error e=>obtain⟨c,C,dx,T,H',rfl,t,q⟩:=I.thrown a;exact b _ g c C dx T H' t q|ok fl=>cases fl with|ret u=>exact I.after a|next|brk|cont=>exact False.elim a
def qY(F:X.Fn (ò X.prog X.w) k f fd ps sp)(v:Ñ k X.A)(m:Gl X x)(o:X.mg x=L (.ref f))(hk:W.keepIn X.K (.ref f)=U)(n:Binds X.K fd ps ds)(u:Vals ĥ ds)(j:PA X (e::es) t)(b:è x:=by decide)(l:SE X e es:=by rfl)(a:BT X pos es:=by rfl):PE X (.Call (.Name x p) (e::es) [] pos) (s9 X sp ĥ t):=by intro c s i H Q I h;exact Pf (bV I m o (Bl I.ok.mod.kin hk (ß (j _ _ s i H _ I h) λy w⟨z,A,d,r,E,q,g⟩=>⟨d.ć,vK F v n u g d r q⟩) l a) b)
end
section
variable{X:Cx}
def Inv.QC{g}(I:Inv X Æ Z H s)(f:Ő X Æ H e)(new:cB X.prog X.w (upd H e g) s.heap e g):Inv X Æ Z (upd H e g) s:=by
 have d:∀b u,H b=L u->b≠e:=λb u q z=>by rw[z,f.1]at q;cases q
 have:=I.Uj (H':=upd H e g) (d':=s.drawn) (t':=s.toks) (λb a=>by rw[Ň.mp a];exact⟨f.2.2.2.1,f.2.1,f.2.2.2.2.1,f.2.2.2.2.2⟩) (λb o _ _ _ q _=>q) (λb o _ _ _ q _=>⟨o.slots,q⟩) (λb o a _ n=>by rw[ag λz=>a<|by grind];exact n) (λb o _ q=>⟨o,q⟩) (λb h q=>by rw[ag (d b _ q)];exact q) (λb o u q=>by rw[ag (d b _ q)];exact q) (λb j q=>⟨#[],by rw[ag (d b _ q),q];simp⟩) (λm i=>i) (λb u q=>by
   by_cases a:b=e;.subst a;rw[ai]at q;cases q;exact new
   .rw[ag a]at q;exact(I.Û b u q).tj (λ_ _ _ z=>z) (λc z=>by rw[ag (d c _ z)];exact z) λc h z=>by rw[ag (d c _ z)];exact z) I.bare;exact this
end
section
variable{X:Cx}
noncomputable abbrev gf:List Value:=[.type "ValueError",.type "Exception",.type "BaseException",.type "object"]
def KU(X:Cx)(C:Addr)(t:TA):TS:=λ_ c H=>t c H λd f=>d.length<=sizeLine/\∀a s e b,f b=Y->ù X a c (upd f b<|.t d) s e C (Y,.ref b,.none) .none Y->X.xe (.ref e) s
def ko(K:W.Frag)(C:Addr)(r:Option Value):Prop:=∃c a nm d bs k i sub g b l m j e h f,K.lookup C=L (excClassObj nm d C a bs c k i sub g b l m j e h f "ValueError.__new__")/\(W.tailIn K gf c&&W.nsOkIn K a&&W.nsIn K a "__init__"==L r)=U
def ko.mk{K C r bm ns nm a bs b sn sub ab col dd k0 k1 k2 k3 k5}(h:K.lookup C=L (excClassObj nm a C ns bs bm b sn sub ab col dd k0 k1 k2 k3 k5 "ValueError.__new__"))(q:(W.tailIn K gf bm&&W.nsOkIn K ns&&W.nsIn K ns "__init__"==L r)=U):ko K C r:=⟨_,_,_,_,_,_,_,_,_,_,_,_,_,_,_,_,h,q⟩
def ko.out{K h r}{P:Prop}(X:K.In h)(q:ko K C r)(k:∀bm ns nm a bs b sn sub ab col dd k0 k1 k2 k3 k5,h.get? C=L (excClassObj nm a C ns bs bm b sn sub ab col dd k0 k1 k2 k3 k5 "ValueError.__new__")->W.nsOkIn K ns=U->W.nsIn K ns "__init__"=L r->OwnTail h gf bm->P):P:=by obtain⟨bm,ns,nm,a,bs,b,sn,sub,ab,col,dd,k0,k1,k2,k3,k5,c,q⟩:=q;simp  at q;exact k _ _ _ _ _ _ _ _ _ _ _ _ _ _ _ _ (X _ _ c) q.1.2 q.2<|W.tail_of_in X q.1.1
def HP{K h c}(X:K.In h)(e:c x=L (.ref C))(q:ko K C Y):OwnCls x C gf "ValueError.__new__" c h:=q.out X λn l nm d bs p o sub j m s u r f k i g a b t=>⟨e,n,l,nm,d,bs,p,o,_,j,_,s,u,r,f,k,i,_,g,.of_isNs<|W.isNs_of_in X a,W.nsMap_none_of_in X a b,t⟩
def xV(Â:X.calm=U)(J:Gl X x)(n:X.mg x=L (.ref C))(q:ko X.K C Y)(S:PA X (e::es) t)(K:è x:=by decide)(p:SE X e es:=by rfl)(a:BT X Ó es:=by rfl):PS X (.Raise (L<|.Call (.Name x np) (e::es) [] Ó) Y pos) (KU X C t):=by
 intro b s G H D I h;obtain⟨Á,N,nm,Ã,bs,hdct,sn,sub,ab,col,dd,k0,k1,k2,k3,k5,mN,Q,A,k,T⟩:=(HP (x:=x) I.mod.kin n q).obj;refine wpAny_Raise_call_subT (C:=C) (nm:=nm) (q:=Ã) (N:=N) (bs:=bs) (bm:=Á) (hdct:=hdct) (sn:=sn) (sub:=sub) (ab:=ab) (col:=col) (dd:=dd) (k0:=k0) (k1:=k1) (k2:=k2) (k3:=k3) (k5:=k5) Rf (mN:=mN) (T.hasType Rf.hasBase) (I.ok.hd Â) (by rw[p];show(O||(backTo Ó _).any (·.1))=O;rw[a];rfl) k<|bV I J n ⟨M,?_⟩ K;have w:=S Ó b s G H _ I h;rw[p]at w⊢;refine Ur (ß w λÅ R⟨Ä,i,c,r2,r,P⟩=>⟨M,by rw[<-r2.length];exact r,c.bk _ _ Q,A.keeps c.bk,T.keeps c.bk,λh' g j=>?_⟩);refine iQ j.there λd l y v=>?_;have B:i g=Y:=by cases z:i g with|none=>rfl|some u=>obtain⟨o,f⟩:=fj<|c.Û g u z;rw[j.new]at f;cases f
 have m:i d=Y:=by cases z:i d with|none=>rfl|some u=>obtain⟨o,f⟩:=fj<|c.Û d u z;rw[y]at f;cases f
 have E:g≠d:=λz=>by rw[z,v]at l;cases l
 refine P b _ g d m ⟨(c.kept (t':=R.toks) j.keeps).QC (c.Bb y m) ⟨r,Å,r2,_,v,M,_,M⟩,⟨_,_,l,M,M,M,M,M,M⟩,c.Bb j.new (by rw[ag E];exact B),λt z=>by cases z⟩
end
abbrev Cx.ă(X:Cx)(e:Addr):Cx:={X with A:=X.A.mark<|some<|.ref e,calm:=O,xe:=λ_ _=>False}
def Cx.Ok.jh{X:Cx}{E a}(ok:(X.tri E a).Ok):X.Ok:=⟨ok.mod,ok.kind,ok.glob,ok.blt,ok.above,ok.inj,ok.has,ok.cab,ok.hd,ok.frames,ok.stk,ok.exf,ok.bs,ok.Κ,ok.š,ok.Ţ,ok.su,ok.Ϭ⟩
theorem Cx.Ok.ă{X:Cx}(ok:X.Ok)(e):(X.ă e).Ok:=⟨ok.mod,ok.kind,ok.glob,ok.blt,ok.above,ok.inj,ok.has,ok.cab,λz=>by grind,ok.frames,ok.stk,ok.exf,ok.bs,ok.Κ,ok.š,ok.Ţ,ok.su,ok.Ϭ⟩
section
variable{X:Cx}
theorem Inv.jh(I:Inv (X.tri E<|X.pn++Æ) Ϻ Z H s):Inv X Æ Z H s:=⟨I.ok.jh,I.os,I.bare,I.base,I.loc,I.cell,I.free,I.ú,λp a=>I.pin p<|Ϯ _ a,I.Û,I.len⟩
theorem Inv.ă(I:Inv X Æ Z H s)(e):Inv (X.ă e) Æ Z H s:=⟨I.ok.ă e,I.os,I.bare,I.base,I.loc,I.cell,I.free,I.ú,I.pin,I.Û,I.len⟩
def Inv.back(I:Inv X Æ Z H s){e}{a:St}{H' s'}(J:Inv (X.ă e) Æ a H' s'):Inv X Æ a H' s':=⟨I.ok,J.os,J.bare,J.base,J.loc,J.cell,J.free,J.ú,J.pin,J.Û,J.len⟩
def Ő.jh{b}(h:Ő (X.tri E<|X.pn++Æ) Ϻ H b):Ő X Æ H b:=⟨h.1,h.2.1,h.2.2.1,h.2.2.2.1,h.2.2.2.2.1,λp a=>h.2.2.2.2.2 p<|Ϯ _ a⟩
theorem ù.jh{e C dx a T}(t:ù (X.tri E<|X.pn++Æ) Ϻ Z H s e C dx a T):ù X Æ Z H s e C dx a T:=⟨t.inv.jh,t.ū,t.fe.jh,λb c=>(t.fT b c).jh⟩
theorem SP.jh{D f s'}(h:SP (X.tri E<|X.pn++Æ) Ϻ D f s'):SP X Æ D f s':=by cases f with|next|brk|cont=>obtain⟨a,b,I,q⟩:=h;exact⟨_,b,I.jh,q⟩|ret u=>exact xh h λv a b I r q=>Xc v _ _ I.jh r q
theorem SP.back(I:Inv X Æ Z H s){e D f s'}(h:SP (X.ă e) Æ D f s'):SP X Æ D f s':=by cases f with|next|brk|cont=>obtain⟨a,b,J,q⟩:=h;exact⟨_,b,I.back J,q⟩|ret u=>exact xh h λv a b J r q=>Xc v _ _ (I.back J) r q
end
section
variable{X:Cx}
def ù.ty(t:ù X Æ Z H s e Ce dx fl (L T)){Å}:W.Looks Å s.heap (typeOf<|.ref e) (.ref Ce):=by obtain⟨c,d,a,b,_,_⟩:=t.ū.there;exact b▸(W.Looks.ld a).andThen .now
def wm(t:ù X Æ Z H s e Ce dx fl (L T))(a:Gl X x)(b:X.mg x=L (.ref C))(d:W.exmOne X.K (.ref Ce) (.ref C)=L U)(k:∀h',ù X Æ Z H {s with heap:=h'} e Ce dx .none (L T)->wpAny (model X.prog X.w) (X.A.mark<|some<|.ref e) (execs (b0::ś) X.env) Q (λ_ _=>False) {s with heap:=h'})(c:è x:=by decide):X.wp (handleBy (.ref e) X.env [.ExceptHandler (L<|.Name x np) Y (b0::ś) Ė]) Q E s:=by exact Ii (Wh<|bV (t.inv.ă e) a b ((Th t.inv.ć t.ty d).here<|codeAny_handlers_suite<|t.og λh' f=>Ĝ (k _ f) (λ_ _ q=>q) λ_ _ z=>z.elim) c) (by intro q;cases q)
def amQ(t:ù X Æ Z H s e Ce dx fl (L T))(c:Gl X x)(d:X.mg x=L (.ref C))(h:W.exmOne X.K (.ref Ce) (.ref C)=L U)(k:∀h',ù X Æ Z H {s with heap:=h'} e Ce dx .none (L T)->wpAny (model X.prog X.w) (X.A.mark<|some<|.ref e) (storeName X.env n<|.ref e) (λ_ a=>wpAny (model X.prog X.w) (X.A.mark<|some<|.ref e) (execs (b0::ś) X.env) (λf b=>X.wp (do bindName X.env n .none;unbindBehindTheSuite X.env n Ė) (λ_ j=>Q f j) E b) (λ_ _=>False) a) (λ_ _=>False) {s with heap:=h'})(g:è x:=by decide):X.wp (handleBy (.ref e) X.env [.ExceptHandler (L<|.Name x np) (L n) (b0::ś) Ė]) Q E s:=by refine Ii (Wh<|bV (t.inv.ă e) c d ?_ g) (by intro q;cases q);refine(Th t.inv.ć t.ty h).here ?_;exact Zr (t.og λh' i=>Ĝ (k h' i) (λ_ a q=>Ĝ q (λ_ _ z=>z) λ_ _ z=>z.elim) λ_ _ z=>z.elim)
def uj{i}(I:Inv X Æ Z H s)(hN:X.N.Nodup)(hi:X.N[i]?=L n)(hl:X.env.scope.names.lookup n=L .local){Q}(h:∀s',Inv X Æ (Z.set i Y) H s'->(∀b,b≠X.env.locals->s'.heap.get? b=s.heap.get? b)->Q () s'){A}:wpAny (model X.prog X.w) A (do bindName X.env n .none;unbindBehindTheSuite X.env n Ė) Q E s:=by
 obtain⟨m,N,J⟩:=id I.loc;have x:(X.env.scope.kind==.class||X.env.scope.kind==.module&&X.env.locals !=X.env.globals)=O:=by rw[I.ok.kind];rfl
 refine wpAny_nameGoes_keeps hl N x λh' v Å a=>h _ ?_ a.2;obtain⟨oL,_,_,Ä,_⟩:=id N;have C:∀b o,X.Ĉ.heap.get? b=L o->b≠X.env.locals:=λb o e=>ğ<|Ē (ĉ e) I.ok.above;refine⟨I.ok,I.os,I.bare,⟨λb o e n K w=>(a.2 b<|C b o e).trans<|I.base.keep b o e n K w,λb o e n K w=>?_,I.base.free,λb o e w=>?_,I.base.Ŕ,I.base.ľ,I.base.ŕ⟩,⟨_,Å,λj y Â f Ã R=>?_⟩,λy c e=>?_,I.free,I.ú,λp Á=>?_,λb ob e=>?_,by simpa using I.len⟩;.obtain⟨T,f⟩:=I.base.slot b o e n K w;exact⟨T,(a.2 b<|C b o e).trans f⟩
 .obtain⟨S,f⟩:=I.base.there b o e w;exact⟨S,(a.2 b<|C b o e).trans f⟩
 .have t:i≠j:=λz=>by grind
  rw[ą t]at Ã;obtain⟨u,r,l⟩:=J j y Â f Ã R;refine⟨u,r,?_⟩;have hy:y≠n:=λz=>by subst z;exact t<|rB hN hi f
  rcases l with⟨k,l⟩|⟨k,c,P,z⟩;.exact .inl ⟨k,by show(if y=n then v else m y)=L u;rw[Õ hy];exact l⟩
  .refine .inr ⟨k,c,P,?_⟩;obtain⟨o,G,D⟩:=z;exact⟨o,(a.2 c<|I.Hb y c P).trans G,D⟩
 .obtain⟨v,o,G,D⟩:=I.cell y c e;exact⟨v,o,(a.2 c<|I.Hb y c e).trans G,D⟩
 .obtain⟨e,n,g,nf,d⟩:=I.pin p Á;exact⟨(a.2 p.1 g).trans e,n,g,nf,d⟩
 .refine(I.Û b ob e).tj (λc w' B q=>(a.2 c ?_).trans q) (λ_ q=>q) λ_ _ q=>q;rintro rfl;rcases B with rfl|B;.rw[I.free]at e;cases e
  .rw[I.free]at B;cases B
def yg{i}(I:Inv X Æ Z H s)(hN:X.N.Nodup)(hi:X.N[i]?=L n)(a:X.env.scope.names.lookup n=L .local){Q}(h:∀s',Inv X Æ (Z.set i Y) H s'->Q () s'){A}:wpAny (model X.prog X.w) A (do bindName X.env n .none;unbindBehindTheSuite X.env n Ė) Q E s:=uj I hN hi a λs' J _=>h _ J
def excAt(a C:Addr)(dx:DX)(h:Heap):Prop:=∃b c,h.get? a=L b/\b.cls=.ref C/\b.dict=dx.1/\b.data=.fields c/\c[2]?=L dx.2.2/\c[0]?=L dx.2.1
def ù.known(t:ù X Æ Z H s e Ce dx fl (L T)):Inv X Æ Z (upd H e<|.ext<|excAt e Ce dx) s:=by
 have I:=t.inv;have f:=t.fe;have g:∀b u,H b=L u->b≠e:=λb u q z=>by rw[z,f.1]at q;cases q
 have:=I.Uj (h':=s.heap) (H':=upd H e<|.ext<|excAt e Ce dx) (g':=s.gens) (d':=s.drawn) (t':=s.toks) (ch:=[e]) (λb d=>by rw[Ň.mp d];exact⟨f.2.2.2.1,f.2.1,f.2.2.2.2.1,f.2.2.2.2.2⟩) (λb o _ _ _ q _=>q) (λb o _ _ _ q _=>⟨o.slots,q⟩) (λb o d _ n=>by rw[ag λz=>d<|by rw[z];exact ę];exact n) (λb o _ q=>⟨o,q⟩) (λb v q=>by rw[ag (g b _ q)];exact q) (λb o u q=>by rw[ag (g b _ q)];exact q) (λb A q=>⟨#[],by rw[ag (g b _ q),q];simp⟩) (λm w=>w) (λb u q=>by
   by_cases d:b=e;.subst d;rw[ai]at q;cases q;obtain⟨l,j,i,p,x,y⟩:=t.ū.there;exact⟨⟨l,j,i,p,x,y⟩,⟨l,i⟩,λi p h k=>by obtain⟨o,j,a,r⟩:=h;exact⟨o,j,k o a,r⟩⟩
   .rw[ag d]at q;exact(I.Û b u q).tj (λ_ _ _ z=>z) (λc z=>by rw[ag (g c _ z)];exact z) λc v z=>by rw[ag (g c _ z)];exact z) I.bare;exact this
end
open PySem.W(findIn mroIn findObj specialIn takesIn clsIn hasDictIn KitX looks_findIn looks_mroIn looks_find)
section
variable{prog:Program}{w:World}{A:Around}{E:VS}{s:Shared}{K:W.Frag}{x D:Addr}{ox:Obj}{od:Option Obj}{name:Str}
def X2{nm Q}(X:K.In s.heap)(I:W.InstAt s.heap x ox D od)(b:mroIn K D (.type "BaseException")=L U)(c:Q () s):wpAny (model prog w) A (checkBuiltinCall "BaseException.__getattribute__" ⟨[.ref x,nm],[]⟩) Q E s:=by
 have e:builtinKind "BaseException.__getattribute__"=L .slot:=by decide+kernel
 have a:splitId "BaseException.__getattribute__"=L ("BaseException","__getattribute__"):=by decide+kernel
 have d:W.Looks (model prog w) s.heap (isInstance (.ref x)<|.type "BaseException") U:=I.type.andThen<|looks_mroIn X b;simp only[checkBuiltinCall,e,a];refine Í<|d.at ?_;repeat(first|wp_step)
 exact c
def CC{tk fill a Q}(X:K.In s.heap)(I:W.InstAt s.heap x ox D od)(f:findIn K (.ref D) "__getattribute__"=L (L<|.builtin "BaseException.__getattribute__"))(e:findIn K (.ref D) "__getattr__"=L Y)(k:mroIn K D (.type "BaseException")=L U)(h:∀i,wpAny (model prog w) i (Builtin.«object.__getattribute__» ⟨[.ref x,.str name tk],[]⟩) (λfin s'=>match fin with|.done (.ret v)=>wpAny (model prog w) A (handedOut v) Q E s'|_=>False) (λ_ _=>False) s):wpAny (model prog w) A (getAttrBy (.ref x) (.str name tk) fill a) Q E s:=by
 have l:=I.type (M:=model prog w);have m:=looks_findIn (M:=model prog w) X f;have j:=looks_findIn (M:=model prog w) X e;have n:=F.excAttr_ValueError.ga.bind<|.ref x;have c:(a&&onTheHeap (Value.builtin "BaseException.__getattribute__"))=O:=by cases a<;>rfl
 have b:(Value.builtin "BaseException.__getattribute__"==Value.builtin "object.__getattribute__")=O:=by decide+kernel
 obtain⟨o,g,d,t,os⟩:=s;unfold getAttrBy;refine π<|Í<|l.at<|Í<|m.at ?_;dsimp only;rw[b,Mq,Õ<|by decide];unfold getAttrByItsOwn hookBefore;refine Í<|j.at<|Í<|Bm<|π ?_;unfold callGetattribute boundAndCalled;rw[c,Õ (by decide),n];refine Í (ì<|Nb<|Mm F.excAttr_ValueError.ga.plain F.entry_bexc_ga<|X2 X I k<|Ĝ (h _) (λfin s' z=>?_) λ_ _ z=>z.elim);rcases fin with(_|_|_|_)|_<;>first|exact z|exact z.elim
def o9{g a tk P}(X:K.In s.heap)(I:W.InstAt s.heap x ox D od)(b:findObj K D od name=L (.bind g a))(h:wpAny (model prog w) A (call g [a,.ref x,.ref D]) P E s):wpAny (model prog w) A (Builtin.«object.__getattribute__» ⟨[.ref x,.str name tk],[]⟩) (λfin s'=>match fin with|.done (.ret v)=>P v s'|_=>False) E s:=by have c:=I.type (M:=model prog w);have d:=looks_find (M:=model prog w) X I b;exact Í (ì<|Í<|ì<|Í<|c.at<|Í<|d.at<|Í<|π<|Ĝ h (λv s' z=>ì z) λ_ _ z=>z)
def rW{v tk}{P:VS}(X:K.In s.heap)(I:W.InstAt s.heap x ox D od)(a:findObj K D od name=L (.value v))(h:P v s):wpAny (model prog w) A (Builtin.«object.__getattribute__» ⟨[.ref x,.str name tk],[]⟩) (λfin s'=>match fin with|.done (.ret v)=>P v s'|_=>False) E s:=by have b:=I.type (M:=model prog w);have c:=looks_find (M:=model prog w) X I a;exact Í<|ì<|Í<|ì<|Í<|b.at<|Í<|c.at<|ì h
structure ω(K:W.Frag)(D:Addr):Prop where
 cls:(clsIn K D).isSome=U
 ga:findIn K (.ref D) "__getattribute__"=L (L<|.builtin "BaseException.__getattribute__")gn:findIn K (.ref D) "__getattr__"=L Y
 mb:mroIn K D (.type "BaseException")=L U
 mo:mroIn K D (.type "object")=L U
 cl:findIn K (.ref D) "__class__"=L (L<|.builtin "object.__class__")hn:specialIn K (.builtin "object.__class__") "__get__"=L (L<|.builtin "getset_descriptor.__get__")tk:takesIn K (.builtin "object.__class__")=L U
def ω.findCls(k:ω K D):findObj K D od "__class__"=L (.bind (.builtin "getset_descriptor.__get__")<|.builtin "object.__class__"):=by obtain⟨b,a⟩:=Be.mp k.cls;unfold findObj;rw[a,k.cl];simp[k.hn,k.tk]
def Y2{Q}(k:ω K D)(X:K.In s.heap)(I:W.InstAt s.heap x ox D od)(h:Q (L<|.ref D) {s with toks:=s.toks+1}):wpAny (model prog w) A (getAttr? (.ref x) "__class__") Q E s:=by unfold getAttr? getAttrBy?;refine Í<|wpAny_mkText<|Í<|Bm ?_;refine CC X I k.ga k.gn k.mb λa=>?_;refine o9 X I k.findCls ?_;refine Nb<|W.class_get (ox:=ox) (od:=od) X I k.mo ?_;exact ì<|ì h
def UZ{v a Q}(k:ω K D)(X:K.In s.heap)(I:W.InstAt s.heap x ox D od)(b:findObj K D od name=L (.value v))(c:W.handedIn v=U)(h:Q v {s with toks:=s.toks+1}):wpAny (model prog w) A (getAttr (.ref x) name a) Q E s:=by refine CC X I k.ga k.gn k.mb λd=>rW X I b ?_;rw[W.handedOut_of c];exact ì h
def QY(x D:Addr)(h:Heap):Prop:=∃ox od,W.InstAt h x ox D od
set_option tactic.hygienic true in
def SY(k:ω K D):KitX K (.ref x) (.ref D) (QY x D)where
 ty:=λ_ _ _ ů=>by obtain⟨_,_,I⟩:=ů;exact I.type
 it:=λ_ _ X _=>by
  obtain⟨cdD,hcD⟩:=Be.mp k.cls;unfold clsIn at hcD;split at hcD;.rename_i c' d' cd' sl' ho;intro A' Q' E' s' k q;unfold isType loadHead;exact Í<|Wl (k _ _<|X _ _ ho)<|ì q
  .cases hcD
 ne:=λh tp dd È n sl X htp=>by
  obtain⟨cdD,hcD⟩:=Be.mp k.cls;refine Ml.mpr λq=>?_;have e:D=tp:=Value.ref.inj<|Μ.mp q;subst e;unfold clsIn at hcD;split at hcD;.rename_i c' d' cd' sl' ho;have z:=(X _ _ ho).symm.trans htp;cases z
  .cases hcD
 ca:=λX ů q=>by obtain⟨_,_,I⟩:=ů;exact Y2 k X I q
end
end L2
namespace L2
noncomputable abbrev eu(C:Addr)(dx:Option Addr)(a0:Value):Obj:={cls:=.ref C,dict:=dx,data:=.fields #[a0,.none,.none,.none,.bool O,.none]}
def mm(e C:Addr)(dx:Option Addr)(a0:Value)(h:Heap):Prop:=h.get? e=L (eu C dx a0)
section
variable{B č Ĭ:String}
variable{os:OsState}
def mS(F:ExcBaseFacts B č Ĭ bmB)(T:OwnTail h bmB bm){mN Ò fI p Q}(j:h.get? C=L (excClassObj nm q C N bs bm hdct sn sub ab col dd k0 k1 k2 k3 k5 č))(v:h.Ns N mN)(hi:mN "__init__"=L (.ref fI))(l:h.get? fI=L p)(n:p.cls=.type "function")(z:∀h' e,Heap.MadeExcOf h h' e (.ref C) Ò->wpAny (model prog w) A (call (.ref fI) (.ref e::Ò)) (λr s'=>r=.none/\Q (.done<|.ret<|.ref e) s') E ⟨h',g,d,t,os⟩)(Ŝ:Ò.length<=sizeLine:=by size_fits):wpAny (model prog w) A (Builtin.«type.__call__» ⟨.ref C::Ò,[]⟩) Q E ⟨h,g,d,t,os⟩:=by
 repeat(first|with_reducible refine wpAny_loadPart_at j ?_|with_reducible refine wpAny_madeBy_exc j ?_|wp_step)
 refine codeAny_call_builtin_code (Pl _ F.quiet)<|wpAny_check_new_subT F T j ?_;refine codeAny_exc_new_subT F T j ?_ Ŝ;show wpAny _ _ _ _ _ _;have a:=Ă {cls:=.ref C,data:=.fields #[.ref h.objs.size,.none,.none,.none,.bool O,.none]} (Ă {cls:=.type "tuple",data:=.seq Ò.toArray} j);have c:=Ă {cls:=.ref C,data:=.fields #[.ref h.objs.size,.none,.none,.none,.bool O,.none]} (Ă {cls:=.type "tuple",data:=.seq Ò.toArray} l);have i:((h.push {cls:=.type "tuple",data:=.seq Ò.toArray}).push {cls:=.ref C,data:=.fields #[.ref h.objs.size,.none,.none,.none,.bool O,.none]}).Ns N mN:=let⟨o,u,s,e,r⟩:=v;Vb o u s (Ă _<|Ă _ e) r;have f:((h.push {cls:=.type "tuple",data:=.seq Ò.toArray}).push {cls:=.ref C,data:=.fields #[.ref h.objs.size,.none,.none,.none,.bool O,.none]}).get? (h.objs.size+1)=L {cls:=.ref C,data:=.fields #[.ref h.objs.size,.none,.none,.none,.bool O,.none]}:=by heap_get
 have m:(Value.ref C::bm).contains (.ref C)=U:=by simp
 have k:=T.keeps (h':=(h.push {cls:=.type "tuple",data:=.seq Ò.toArray}).push {cls:=.ref C,data:=.fields #[.ref h.objs.size,.none,.none,.none,.bool O,.none]}) λb o e=>Ă _<|Ă _ e;unfold isInstance;repeat(first|with_reducible refine wpAny_loadPart_at f ?_|(with_reducible refine Nr a ?_;rw[m])|wp_step)
 show wpAny _ _ (typeLookup (.ref C) _) _ _ _;refine wpAny_typeLookup_tail a i k F.mroIs F.init.lookup ?_;rw[hi];refine π<|Í ?_;unfold bindSpecial;refine Í<|wpAny_typeOf (T:="function") ⟨_,c,n⟩ ?_;rw[Ð (by decide)];refine ì (Í<|Ĝ (z _ (h.objs.size+1) ⟨λb o y=>Ă _<|Ă _ y,Qc<|Vh _,h.objs.size,f,Qc<|í _,?_⟩) (λr s' G=>?_) λ_ _ x=>x);.exact Ă _ (Heap.get?_push_at M M)
 .obtain⟨rfl,D⟩:=G;wp_walk;exact D
def V5(F:ExcBaseFacts B č Ĭ bmB)(T:OwnTail h bmB bm){mN Ò fI c Q}(f:h.get? C=L (excClassObj nm q C N bs bm hdct sn sub ab col dd k0 k1 k2 k3 k5 č))(i:h.Ns N mN)(hi:mN "__init__"=L (.ref fI))(a:h.get? fI=L c)(b:c.cls=.type "function")(k:∀h' e,Heap.MadeExcOf h h' e (.ref C) Ò->wpAny (model prog w) (A.under<|.builtin "type.__call__" ⟨.ref C::Ò,[]⟩) (call (.ref fI) (.ref e::Ò)) (λr s'=>r=.none/\Q (.ref e) s') E ⟨h',g,d,t,os⟩)(Ŝ:Ò.length<=sizeLine:=by size_fits):wpAny (model prog w) A (call (.ref C) Ò) Q E ⟨h,g,d,t,os⟩:=by
 have m:=tc_lookup;have l:=tc_bind<|.ref C;refine Nb<|codeAny_of_tree ?_;show wpAny _ _ (callAny (.ref C) _) _ _ _;repeat(any_goals(wp_step))
 refine⟨M,?_⟩;refine codeAny_call_builtin_at (Pl _<|by decide+kernel) entry_typeCall (wpAny_check_type_call_sub f<|mS (Ŝ:=Ŝ) F T f i hi a b λh' e j=>?_);exact k h' e j
end
open PySem.W(findIn mroIn findObj specialIn takesIn clsIn hasDictIn looks_findIn looks_mroIn looks_find InstAt)
def lP(a):refuseLoop a "__setattr__" gf=pure ():=by kernel_rfl
structure Ŀ(K:W.Frag)(C:Addr):Prop where
 k:ω K C
 m:∃cd,clsIn K C=L cd/\cd.hasDict=U/\(cd.mro=.ref C::gf\/∃D:Addr,cd.mro=.ref C::.ref D::gf)sa:findIn K (.ref C) "__setattr__"=L (L<|.builtin "object.__setattr__")
section
variable{K:W.Frag}
def ZF{tk}(k:Ŀ K C)(X:K.In s.heap)(I:InstAt s.heap x ox C od)(g:findIn K (.ref C) name=L Y)(h:∀b,wpAny (model prog w) A.in1 (Builtin.ObjectAttr.storeInOwnDict (.ref x) (.ref C) (.str name tk) name v b) (λfin s'=>match fin with|.done f=>R (.ok f) s'|.again c'=>c'.quiet=U/\codeAny (model prog w) A c' R s') (λe s'=>R (.error e) s') s):codeAny (model prog w) A (.call (.builtin "object.__setattr__") ⟨[.ref x,.str name tk,v],[]⟩) R s:=by
 have SF:=PySem.F.store_object;refine iQ k.m λa d _ i=>Mm SF.slot.plain SF.entry<|@W.check_slot (model prog w) _ _ s "object.__setattr__" "object" "__setattr__" (.ref x) _ [] _ SF.kind SF.split (I.type.andThen<|looks_mroIn X k.k.mo) (SF.args (.ref x) _ v) ?_;have c:W.Looks (model prog w) s.heap (mroOf<|.ref C) a.mro:=(Cm X d).andThen .now;rw[W.osa_eq,refuse_eq];refine Í<|Í<|I.type.here<|Í<|c.here ?_;rw[show refuseLoop (.ref x) "__setattr__" a.mro=pure ()from by
 rcases i with e|⟨D,e⟩;.rw[e,Lq,lP]
 .rw[e,Lq,Lq,lP]];refine ì<|Í<|I.type.here<|Í<|(looks_findIn X g).here<|Í<|ì ?_;exact h _
def rT{a0 Q}(k:Ŀ K C)(X:K.In s.heap)(a:s.heap.get? x=L (eu C Y a0))(z:findIn K (.ref C) name=L Y)(h:∀h',Heap.SameBut s.heap.objs.size ((s.heap.push W.emptyDict).update x λo:Obj=>{o with dict:=L s.heap.objs.size}) h'->h'.Ns1 s.heap.objs.size (λy=>if y=name then L v else Y)->Q () {s with heap:=h',toks:=s.toks+2}):wpAny (model prog w) A (setAttr (.ref x) name v) Q E s:=by have I:InstAt s.heap x (eu C Y a0) C Y:=⟨a,M,M,True.intro⟩;refine W.set_plain X I k.sa (ZF (s:={s with toks:=s.toks+1}) k X I z λb=>?_);refine iQ k.m λD u t _=>?_;unfold Builtin.ObjectAttr.storeInOwnDict;refine Í<|ì<|Í<|Í<|Wl a<|Í<|W.Looks.here (s:={s with toks:=s.toks+1}) (Cm X u) ?_;rw[t];rw[Õ (by decide)];have f:=Ă (h:=s.heap) W.emptyDict a;have Ja:(s.heap.push W.emptyDict).get? s.heap.objs.size=L W.emptyDict:=ĺ s.heap M;have n:s.heap.objs.size≠x:=Ŵ<|ĉ a;refine Í<|wpAny_alloc<|Í<|wpAny_update (o:=eu C Y a0) f<|ì ?_;have ŋ:∀b,b≠x->((s.heap.push W.emptyDict).update x λo:Obj=>{o with dict:=L s.heap.objs.size}).get? b=(s.heap.push W.emptyDict).get? b:=λb r=>ϟ _ _<|ö r;have g:=(ŋ _ n).trans Ja;have q:((s.heap.push W.emptyDict).update x λo:Obj=>{o with dict:=L s.heap.objs.size}).Ns s.heap.objs.size λ_=>Y:=sA W.emptyDict #[] _ g M (λe a=>absurd a<|by simp) λ_=>rfl;unfold Builtin.ObjectAttr.storeInDict;refine Í<|ì<|Í ?_;refine wpAny_nsSet1 (Iq q) λh' c l=>?_;refine xh (c.count (ns:=[name])<|Jq name v λy B=>absurd M B) λG p m d i j=>?_;refine Í (Bq d (by rw[i];exact Aq<|ñ j<|by rw[Ĩ,Up,Mc];omega) ?_);exact ì<|h _ l c
def uR{a0 d i ns Q}(k:Ŀ K C)(X:K.In s.heap)(o:s.heap.get? x=L (eu C (L d) a0))(hN:s.heap.Ns1 d i)(z:findIn K (.ref C) name=L Y)(hw:PySem.Within i ns)(hz:ns.length<=100)(h:∀h',Heap.SameBut d s.heap h'->h'.Ns1 d (λy=>if y=name then L v else i y)->Q () {s with heap:=h',toks:=s.toks+2}):wpAny (model prog w) A (setAttr (.ref x) name v) Q E s:=by refine vq (id hN) λj p n e _=>?_;have I:InstAt s.heap x (eu C (L d) a0) C (L j):=⟨o,M,M,e⟩;refine W.set_plain X I k.sa (ZF k X I z λb=>?_);refine iQ k.m λB u t _=>?_;unfold Builtin.ObjectAttr.storeInOwnDict;refine Í<|ì<|Í<|Í<|Wl o<|Í<|W.Looks.here (s:={s with toks:=s.toks+1}) (Cm X u) ?_;rw[t,Õ<|by decide];refine ì (a:=L d) ?_;unfold Builtin.ObjectAttr.storeInDict;refine Í<|ì<|Í ?_;refine wpAny_nsSet1 hN λh' c m=>?_;refine xh (c.count<|Jq name v hw) λD r q f g l=>?_;refine Í (Bq f (by rw[g];exact Aq<|ñ l<|by rw[Ĩ,Mc];omega) ?_);exact ì<|h _ m c
end
end L2
namespace L2
section
variable{os:OsState}
variable{B č Ĭ:String}
def X0(F:ExcBaseFacts B č Ĭ bmB)(T:OwnTail h bmB bm){e:Addr}{dx:Option Addr}{a0:Value}{Ò:List Value}{Q:VS}(c:h.get? C=L (excClassObj nm q C N bs bm hdct sn sub ab col dd k0 k1 k2 k3 k5 č))(f:h.get? e=L (eu C dx a0))(Ŝ:Ò.length<=sizeLine)(i:Q .none ⟨(h.push {cls:=.type "tuple",data:=.seq Ò.toArray}).update e (Obj.mapFields λx=>x.setIfInBounds 0<|Value.ref h.objs.size),g,d,t,os⟩):wpAny (model prog w) A (call (.builtin Ĭ) (.ref e::Ò)) Q E ⟨h,g,d,t,os⟩:=by
 refine Nb<|Mm F.init.plain F.initEntry<|wpAny_check_init_subT F T c f M ?_;wp_walk;have fin:∀b:Shared,b=⟨(h.push {cls:=.type "tuple",data:=.seq Ò.toArray}).update e (Obj.mapFields λx=>x.setIfInBounds 0<|Value.ref h.objs.size),g,d,t,os⟩->Q .none b:=λb z=>by subst z;exact i
 have go:∀v:Value,wpAny (model prog w) A.in1 (match v with|.ref a=>letGo [v]|x=>pure ()) (λ_ b=>b=⟨(h.push {cls:=.type "tuple",data:=.seq Ò.toArray}).update e (Obj.mapFields λx=>x.setIfInBounds 0<|Value.ref h.objs.size),g,d,t,os⟩) (λ_ _=>False) ⟨(h.push {cls:=.type "tuple",data:=.seq Ò.toArray}).update e (Obj.mapFields λx=>x.setIfInBounds 0<|Value.ref h.objs.size),g,d,t,os⟩:=λv=>by cases v<;>first|exact ì M|(wp_walk;rfl)
 refine Ĝ (go _) (λ_ b z=>ì<|fin b z) λ_ _ z=>z.elim
end
open PySem.W(findIn InstAt)
def hQ(d:Addr)(fs:List (Str×V))(h:Heap):Prop:=∃a,h.Ns1 d a/\(∀f,vp (fs.lookup f)<|a f)/\PySem.Within a (fs.map (·.1))
def FD{P w H h e C dx a0}(a:h.get? e=L (eu C dx a0)):cB P w H h e (.ext<|mm e C dx a0):=⟨a,⟨_,a⟩,λ_ _ q k=>k _ q⟩
def vZ{P w H h d fs}(b:hQ d fs h):cB P w H h d (.ext<|hQ d fs):=by
 refine⟨b,?_,λl m⟨a,f,r,g⟩k=>⟨a,?_,r,g⟩⟩;.obtain⟨a,⟨o,_,_,e,_⟩,_⟩:=b;exact⟨o,e⟩
 .exact vq f λo j i e c=>Vb o _ _ (k _ e) c
section
variable{X:Cx}
def yI(I:Inv X Æ Z H s){dx a0}(q:H e=L (.ext<|mm e C dx a0)):s.heap.get? e=L (eu C dx a0):=(I.Û e _ q).1
def yY{y u Q a0}(k:Ŀ X.K C)(I:Inv X Æ Z H s)(q:H e=L (.ext<|mm e C Y a0))(J:findIn X.K (.ref C) f=L Y)(D:RelV y u)(h:∀d s',H d=Y->d≠e->Inv X Æ Z (upd (upd H d<|.ext<|hQ d [(f,y)]) e<|.ext<|mm e C (L d) a0) s'->Q () s'):wpAny (model X.prog X.w) A (setAttr (.ref e) f u) Q E s:=by
 have c:=yI I q;refine rT k I.ć c J λh' w j=>h s.heap.objs.size _ (I.Û.fresh<|í _) (Ŵ<|ĉ c) ?_;have p:=Ŵ<|ĉ c;have t:=Ă (h:=s.heap) W.emptyDict c;have Ja:(s.heap.push W.emptyDict).get? s.heap.objs.size=L W.emptyDict:=ĺ s.heap M;have G:(s.heap.push W.emptyDict).Ns s.heap.objs.size λ_=>Y:=sA W.emptyDict #[] _ Ja M (λe c=>absurd c<|by simp) λ_=>rfl;have K:=I.laid (a:=s.heap.objs.size) (o:=.ext<|hQ s.heap.objs.size []) (h':=s.heap.push W.emptyDict) (t':=s.toks) (λb u q=>Ă _ q) (í _) (vZ ⟨_,Iq G,λ_=>True.intro,λy R=>absurd M R⟩);have m:=Ob (h:=s.heap.push W.emptyDict) (λo:Obj=>{o with dict:=L s.heap.objs.size}) t M;have ŋ:∀b,b≠e->((s.heap.push W.emptyDict).update e λo:Obj=>{o with dict:=L s.heap.objs.size}).get? b=(s.heap.push W.emptyDict).get? b:=λb l=>ϟ _ _<|ö l;have P:upd H s.heap.objs.size (.ext<|hQ s.heap.objs.size []) e=L (.ext<|mm e C Y a0):=by rw[ag (ö p)];exact q
 have Ã:=K.write (x:=e) (e:=e) (o:=.ext<|mm e C (L s.heap.objs.size) a0) (t':=s.toks) (by rw[P];exact True.intro) (.inl rfl) (λb u l q=>(ŋ b l).trans q) ⟨_,m⟩<|FD (a0:=a0) m;have v:∃o,h'.get? s.heap.objs.size=L o:=let⟨o,_,_,N,_⟩:=j;⟨o,N⟩;have B:=Ã.write (x:=s.heap.objs.size) (e:=s.heap.objs.size) (o:=.ext<|hQ s.heap.objs.size [(f,y)]) (h':=h') (t':=s.toks+2) (by rw[ag p,ai];exact True.intro) (.inl rfl) (λb u l q=>(w.2 b l).trans q) v (vZ ⟨_,j,λg=>by
 by_cases z:g=f;.rw[Ð z,z];simp only[List.lookup,beq_self_eq_true];exact D
 .rw[Õ z,show([(f,y)]:List (Str×V)).lookup g=Y from by simp[List.lookup,ϖ.mpr z]];exact True.intro,λg Å=>by
  by_cases z:g=f;.rw[z];exact ę
  .exact absurd (Õ z) Å⟩);have r:upd (upd (upd H s.heap.objs.size<|.ext<|hQ s.heap.objs.size []) e<|.ext<|mm e C (L s.heap.objs.size) a0) s.heap.objs.size (.ext<|hQ s.heap.objs.size [(f,y)])=upd (upd H s.heap.objs.size<|.ext<|hQ s.heap.objs.size [(f,y)]) e (.ext<|mm e C (L s.heap.objs.size) a0):=by
  funext b;unfold upd;by_cases i:b=s.heap.objs.size;.rw[Ð i,Õ (by rw[i];exact p),Ð i]
  .rw[Õ i];by_cases n:b=e;.rw[Ð n,Ð n]
   .rw[Õ n,Õ n,Õ i,Õ i]
 rw[r]at B;exact B
def E6{y u d fs Q a0}(k:Ŀ X.K C)(I:Inv X Æ Z H s)(q:H e=L (.ext<|mm e C (L d) a0))(m:H d=L (.ext<|hQ d fs))(K:d≠e)(x:findIn X.K (.ref C) f=L Y)(t:RelV y u)(N:fs.length<=50)(p:fs.lookup f=Y)(h:∀s',Inv X Æ Z (upd H d<|.ext<|hQ d<|fs++[(f,y)]) s'->Q () s'):wpAny (model X.prog X.w) A (setAttr (.ref e) f u) Q E s:=by
 have D:=yI I q;refine iQ (I.Û d _ m).1 λÅ w r n=>?_;refine uR k I.ć D w x n (by rw[Į];omega) λJ l a=>h _ ?_;have j:∃o,J.get? d=L o:=let⟨o,_,_,i,_⟩:=a;⟨o,i⟩;refine I.write (by rw[m];exact True.intro) (.inl rfl) (λb u G q=>(l.2 b G).trans q) j (vZ ⟨_,a,λg=>?_,λg B=>?_⟩)
 .have la:(fs++[(f,y)]).lookup g=match fs.lookup g with|some v=>L v|none=>([(f,y)]:List (Str×V)).lookup g:=by grind
  rw[la];by_cases z:g=f;.rw[Ð z,z,p];simp only[List.lookup,beq_self_eq_true];exact t
  .have c:=r g;rw[Õ z];cases i:fs.lookup g with|some v=>rw[i]at c;exact c|none=>rw[i]at c;rw[show[(f,y)].lookup g=Y from by simp[List.lookup,ϖ.mpr z]];exact c
 .rw[Li];by_cases z:g=f;.rw[z];exact ų _ ę
  .exact Ϯ _ (n g λy=>B<|by grind)
end
section
variable{X:Cx}
def Mg(ta:TE):TE:=λb H Q=>ta b H λx a=>(∃i:Int,x=.int i/\i.natAbs.log2<1920/\Q (.str<|toString i) a)\/∃y:Str,x=.str y/\y.length<=sizeLine/\Q (.str y) a
def pW(j:PE X e ta):PE X (.FormattedValue e (-1) Y pos) (Mg ta):=by
 intro a s g H Q I h;refine Nx (ß (j a s g H _ I h) λu m b=>kr b λx f c d q=>?_);rcases q with⟨i,rfl,l,q⟩|⟨y,rfl,k,q⟩;.obtain⟨t,rfl⟩:=d;exact PyProof.Rows.formatField_int_small l<|hU (.str _) f (c.tok _) ⟨_,M⟩ q
 .obtain⟨t,rfl⟩:=d;exact Px (λn tk=>hU (.str y) f (c.tok tk) ⟨_,M⟩ q) k
def tJ:List TE->Str->TE|[],acc=>λa H Q=>acc.length<=sizeLine/\Q (.str acc) H|t::ts,acc=>λa H Q=>t a H λx b=>∃y:Str,x=.str y/\(acc++y).length<=sizeLine/\tJ ts (acc++y) a b Q
theorem qd:∀{es ts},Paired (PE X) es ts->∀a Æ s(Z:St)H Q,Inv X Æ Z H s->tJ ts a Z H Q->X.wp (joinParts a<|es.map λe=>eval e X.env) (EP X Æ Z Q) X.xe s|[],[],_,a,Æ,s,Z,H,Q,I,h=>PyProof.Rows.joinParts_nil (hU (.str _) H (I.tok _) ⟨_,M⟩ h.2) h.1|e::es,t::ts,.cons p ps,a,Æ,s,Z,H,Q,I,h=>by refine PyProof.Rows.joinParts_cons (ß (p _ s Z H _ I h) λu g b=>?_);obtain⟨x,i,c,f,y,ex,d,q⟩:=b;subst ex;obtain⟨t,rfl⟩:=f;exact⟨d,qd ps _ _ _ Z _ Q c q⟩
def nk{c b es}(f:Paired (PE X) (c::b::es) ts)(g:evalEach es X.env=es.map λe=>eval e X.env:=by rfl):PE X (.JoinedStr (c::b::es) pos) (tJ ts Str.empty):=by intro a s d H Q I h;refine PyProof.Rows.JoinedStr_many ?_;rw[g];exact qd f _ _ s d H Q I h
end
set_option tactic.hygienic true in
def zL{K h N a n v}(X:K.In h)(G:h.Ns N a)(e:W.nsIn K N n=L (L v)):a n=L v:=by
 refine ϩ G λo p k j g _ b=>?_;unfold W.nsIn at e;split at e
 .rename_i c d i m l q;have:=X _ _ q;rw[j]at this;cases this;cases g;split at e;.rename_i r f;cases e;rw[<-b];unfold nsFind findBy;rw[<-Kr,f];rfl
  .split at e<;>cases e
 .cases e
def ZL(h:Heap)(C fI:Addr):Prop:=∃(b:List Value)(N:Addr)(nm d:Str)(bs:List Value)(l:Bool)(j:List Str)(sub:List Value)(g:Bool)(a:Option Bool)(m:Option Addr)(n k e i f:Option Value)(c:Str->Option Value),h.get? C=L (excClassObj nm d C N bs b l j sub g a m n k e i f "ValueError.__new__")/\h.Ns N c/\c "__init__"=L (.ref fI)/\OwnTail h gf b
def BF{K h C fI}(X:K.In h)(q:ko K C (L<|.ref fI)):ZL h C fI:=q.out X λl j nm c bs n m sub f k p r o d i e g a b t=>⟨l,j,nm,c,bs,n,m,_,f,_,p,r,o,d,i,e,_,g,.of_isNs<|W.isNs_of_in X a,zL X (.of_isNs<|W.isNs_of_in X a) b,t⟩
section
variable{X:Cx}
def xG(C:Addr)(t:TA):TE:=λe H Q=>t e H λf b=>∃ex c d y,f=[.ref ex,.str y]/\b ex=L (.ext<|mm ex C c d)/\∀a,b a=Y->a≠ex->Q .n (upd (upd b a<|.t [.str y]) ex<|.ext<|mm ex C c<|.ref a)
def mB{pl}(hg:Gl X x)(S:X.mg x=L (.ref D))(hr:W.readsIn X.K D (.type "type")=U)(Ã:W.findCls X.K (.ref D) (.type "type") "__init__"=L (.val<|.builtin "ValueError.__init__"))(hs:W.specialIn X.K (.ref D) "__getattribute__"=L (L<|.builtin "type.__getattribute__"))(Â:ko X.K C (L<|.ref fI))(ha:PA X (e::es) t)(r:è x:=by decide)(z:SE X e es:=by rfl)(p:BT X pos es:=by rfl)(ht:eval (.Call (.Attribute (.Name x np) "__init__" å) (e::es) [] pos) X.env=(do
   let Å <-eval (.Name x np) X.env
   standAt å.atName let(f,first)<-holding [Å] (getMethod Å "__init__" pl)callWith pos f first (backTo pos<|starEach (e::es) X.env) (backToKw pos<|keywordEach [] X.env)):=by rfl):PE X (.Call (.Attribute (.Name x np) "__init__" å) (e::es) [] pos) (xG C t):=by
 intro l s P H Q I h;refine Rp (pl:=pl) (bV I hg S ?_ r) ht;refine W.method_cls I.ć hs<|W.cls_value I.ć hr Ã M ?_;have I0:=I.tok<|s.toks+1;refine Mx (ß (ha pos l _ P H _ I0 h) λus s1 B=>?_) z p;obtain⟨vs,H1,n,Ä,ex,dx,a0,y,ev,K,q1⟩:=B;subst ev;obtain⟨m,c,rfl,R,E⟩:∃m c,us=m::c/\RelV (.ref ex) m/\Vals [.str y] c:=by cases Ä with|cons a b=>exact⟨_,_,M,a,b⟩
 cases show m=Value.ref ex from R;have w:=yI n K;obtain⟨bm,N,nm,qn,bs,hd,sn,sub,ab,a5,dd,k0,k1,k2,k3,k5,mN,A,hN,_,T⟩:=BF n.ć Â;have i:c.length<=sizeLine:=by rw[<-E.length];exact show 1<=sizeLine by decide
 obtain⟨k,g,d,tk,os⟩:=s1;have G:=Ŵ<|ĉ w;refine X0 Rf T A w i ⟨.n,_,?_,M,q1 k.objs.size (n.Û.fresh<|í _) G⟩;have v:=Ă (h:=k) {cls:=.type "tuple",data:=.seq c.toArray} w;have J:=n.laid (a:=k.objs.size) (o:=.t [.str y]) (h':=k.push {cls:=.type "tuple",data:=.seq c.toArray}) (t':=tk) (λb u q=>Ă _ q) (í _) ⟨show 1<=sizeLine by decide,c,E,⟨_,ĺ _ M,M,_,M⟩⟩;have j:=Ob (Obj.mapFields λx=>x.setIfInBounds 0<|Value.ref k.objs.size) v M;exact J.write (x:=ex) (e:=ex) (t':=tk) (by rw[ag (ö G),K];exact True.intro) (.inl rfl) (λb u Á q=>by rw[ϟ _ _ (ö Á)];exact q) ⟨_,j⟩<|FD j
end
section
variable{B č Ĭ:String}
def ϵ(C:Addr)(h:Heap):Prop:=∃nm q N bs c a i sub f b k l j d g e č,c.contains (.type "BaseException")=U/\h.get? C=L (excClassObj nm q C N bs c a i sub f b k l j d g e č)
def BP(F:ExcBaseFacts B č Ĭ bmB){mN fI x G g d}{Ä:VS}(l:bm.contains (.type "BaseException")=U)(j:(backTo g<|starEach d env).any (·.1)=O)(hi:mN "__init__"=L (.ref fI))(h:wpAny (model prog w) A (eval (.Name x G) env) (λf k=>f=.ref C/\wpAny (model prog w) A (evalArgs (.ref C) U (backTo g<|starEach d env) []) (λa b=>a.kw=[]/\a.pos.length<=sizeLine/\b.heap.get? C=L (excClassObj nm q C N bs bm hdct sn sub ab col dd k0 k1 k2 k3 k5 č)/\b.heap.Ns N mN/\OwnTail b.heap bmB bm/\(∃n,b.heap.get? fI=L n/\n.cls=.type "function")/\∀h' e,Heap.MadeExcOf b.heap h' e (.ref C) a.pos->wpAny (model prog w) (A.under<|.builtin "type.__call__" ⟨.ref C::a.pos,[]⟩) (call (.ref fI) (.ref e::a.pos)) (λr s'=>r=.none/\s'.heap.get? C=L (excClassObj nm q C N bs bm hdct sn sub ab col dd k0 k1 k2 k3 k5 č)/\∃dx a0,s'.heap.get? e=L (eu C dx a0)/\Ä (.ref e) s') E {b with heap:=h'}) E k) E s):wpAny (model prog w) A (eval (.Call (.Name x G) d [] g) env) (λv s'=>∃e dx a0,v=.ref e/\ϵ C s'.heap/\s'.heap.get? e=L (eu C dx a0)/\Ä (.ref e) s') E s:=by refine wpAny_Call_ofName (Ĝ h (λf k c=>?_) λ_ _ x=>x);obtain⟨rfl,c⟩:=c;refine Í (π<|Ĝ c (λa b i=>Í<|Oa ?_) λ_ _ x=>x);obtain⟨y,o⟩:=a;obtain⟨p,m,D,I,T,⟨n,t,u⟩,i⟩:=i;obtain rfl:o=[]:=p;simp only[j];refine Í<|wpAny_keeperOf_exc D ?_;refine Í (V5 (Ŝ:=m) F T D I hi t u λh' e J=>Ĝ (i h' e J) (λr s' H=>⟨H.1,Í<|π<|wpAny_point<|ì ?_⟩) λ_ _ z=>z);obtain⟨_,Å,dx,a0,Ã,K⟩:=H;exact⟨e,dx,a0,M,⟨_,_,_,_,_,_,_,_,_,_,_,_,_,_,_,_,_,l,Å⟩,Ã,K⟩
def zx{x pos Q}(g:A.handled=Y)(h:wpAny (model prog w) A (eval x env) (λv s'=>∃e dx a0,v=.ref e/\ϵ C s'.heap/\s'.heap.get? e=L (eu C dx a0)/\E (.ref e) s') E s):wpAny (model prog w) A (exec (.Raise (L x) Y pos) env) Q E s:=by
 refine Í (Oa<|Í<|Í<|Ĝ h (λv d a=>Í<|Oa<|ì ?_) λ_ _ x=>x);obtain⟨e,dx,a0,rfl,⟨nm,q,N,bs,k,c,r,sub,o,j,y,z,u,n,m,l,č,t,i⟩,p,f⟩:=a;have b:(Value.ref C::k).contains (.type "BaseException")=U:=by grind
 repeat(first|(with_reducible refine Nr i ?_;rw[b])|wp_step)
 exact wpAny_raiseNew_none g f
end
section
variable{X:Cx}
def Lk(C:Addr)(ta tv:TE)(f:Str):TS:=λD a H=>tv a H λy g=>ta a g λx b=>∃e c,x=.ref e/\b e=L (.ext<|mm e C Y c)/\∀d,b d=Y->d≠e->D.nx a (upd (upd b d<|.ext<|hQ d [(f,y)]) e<|.ext<|mm e C (L d) c)
def Ap(C:Addr)(ta tv:TE)(f:Str):TS:=λD a H=>tv a H λy g=>ta a g λx b=>∃e d fs c,x=.ref e/\b e=L (.ext<|mm e C (L d) c)/\b d=L (.ext<|hQ d fs)/\d≠e/\fs.length<=50/\fs.lookup f=Y/\D.nx a (upd b d<|.ext<|hQ d<|fs++[(f,y)])
def Mo(k:Ŀ X.K C)(j:findIn X.K (.ref C) f=L Y)(v:PE X o ta)(m:PE X value tv)(hs:swapsWith value (L<|.Attribute o f pos') pos.line X.env=pure O):PS X (.Assign [.Attribute o f pos'] value pos) (Lk C ta tv f):=by intro c s a H D I h;refine Yr (ß (m _ s a H _ I h) λu B⟨y,Å,l,g,q⟩=>ß (v _ _ a _ _ l q) λK G b=>?_) hs;obtain⟨x,E,t,z,e,J,ex,w,r⟩:=b;subst ex;obtain rfl:=z;exact yY k t w j g λd A n i p=>⟨a,_,p,r d n i⟩
def JA(k:Ŀ X.K C)(l:findIn X.K (.ref C) f=L Y)(z:PE X o ta)(n:PE X value tv)(hs:swapsWith value (L<|.Attribute o f pos') pos.line X.env=pure O):PS X (.Assign [.Attribute o f pos'] value pos) (Ap C ta tv f):=by intro c s a H D I h;refine Yr (ß (n _ s a H _ I h) λu G⟨y,Ã,m,g,q⟩=>ß (z _ _ a _ _ m q) λN K b=>?_) hs;obtain⟨x,J,w,v,e,d,fs,Å,ex,A,r,j,B,i,t⟩:=b;subst ex;obtain rfl:=v;exact E6 k w A r j l g B i λE p=>⟨a,_,p,t⟩
end
noncomputable def del(H:Hp)(e:Addr):Hp:=λb=>if b=e then Y else H b
section
variable{X:Cx}
def Inv.VX{φ}(I:Inv X Æ Z H s)(q:H e=L (.ext φ)):Inv X Æ Z (del H e) s:=by
 have none_of:∀{b},H b=Y->del H e b=Y:=λ{b}h=>by unfold del;split<;>first|rfl|exact h
 have keep:∀{b o},H b=L o->(∀j,o≠.ext j)->del H e b=L o:=λ{b o}h n=>by unfold del;rw[Õ λz=>by grind];exact h
 refine⟨I.ok,I.os,I.bare,⟨I.base.keep,I.base.slot,λb o d g f=>none_of<|I.base.free b o d g f,I.base.there,λb i h=>keep (I.base.Ŕ b i h) (λ_ z=>by cases z),λb o u h=>keep (I.base.ľ b o u h) (λ_ z=>by cases z),λb l h=>?_⟩,I.loc,I.cell,none_of I.free,λx c h=>none_of<|I.ú x c h,λp k=>?_,λb u h=>?_,I.len⟩;.obtain⟨a,r⟩:=I.base.ŕ b l h;exact⟨a,keep r λ_ z=>by cases z⟩
 .refine Yc (I.pin p k) λd g f=>?_;exact⟨d,none_of g,f⟩
 .have m:=by
   unfold del at h;split at h;.cases h
   .exact h
  exact(I.Û b u m).tj (λ_ _ _ z=>z) (λc z=>keep z λ_ y=>by cases y) λc i z=>keep z λ_ y=>by cases y
theorem Inv.xd(I:Inv X Æ Z H s)(q:H d=L (.ext<|hQ d fs)):Inv X Æ Z (upd H d<|.xd fs) s:=by obtain⟨e,a,r,f⟩:=(I.Û d _ q).1;have c:∃u,s.heap.get? d=L u:=let⟨o,_,_,b,_⟩:=a;⟨o,b⟩;exact I.write (by rw[q];exact True.intro) (.inl rfl) (λ_ _ _ z=>z) c ⟨e,a,r⟩
end
def Za(C:Addr)(b:List Str)(À:Nat)(G:List V->Hp->Prop):Sp:=λf H Q _=>∃e ws c,f=.ref e::ws/\ws.length=b.length/\H e=L (.ext<|mm e C Y c)/\G ws H/\∀a y d,H a=Y->y.length<=À->upd H a (.t [.str y]) d=Y->d≠e->Q .n (upd (upd (upd H a<|.t [.str y]) d<|.ext<|hQ d<|b.zip ws) e<|.ext<|mm e C (L d)<|.ref a)
def IC(ws:List V)(_:Hp):Prop:=∀w∈ws,∃i:Int,w=.int i/\i.natAbs.log2<100
abbrev Ec(C:Addr)(a:List Str):Sp:=Za C a 50000 IC
section
variable{X:Cx}
def yj{G À}(hg:Gl X x)(hm:X.mg x=L (.ref C))(q:ko X.K C (L<|.ref fI))(a7:W.typeIn X.K (.ref fI)=L (.type "function"))(F:X.Fn ē k fI fd ps (Za C fl À G))(gm:∀ws H b o,H b=Y->G ws H->G ws (upd H b o))(hr:Ñ (k+1) X.A)(hb:Binds X.K fd ps [])(ha:PA X (e::es) t){Æ s Z H}{Ä:VS}{R}(I:Inv X Æ Z H s)(h:t Z H R)(hR:∀vs B,R vs B->vs.length=fl.length/\G vs B/\fl.length<=50/\∀s e d ta y,B ta=Y->y.length<=À->upd B ta (.t [.str y]) d=Y->d≠e->Inv X Æ Z (upd (upd B ta<|.t [.str y]) d<|.xd<|fl.zip vs) s->s.heap.get? e=L (eu C (L d)<|.ref ta)->Ő X Æ (upd (upd B ta<|.t [.str y]) d<|.xd<|fl.zip vs) e->Ä (.ref e) s)(hd:è x:=by decide)(he:SE X e es:=by rfl)(g:BT X Ó es:=by rfl):X.wp (eval (.Call (.Name x np) (e::es) [] Ó) X.env) (λv s'=>∃e dx a0,v=.ref e/\ϵ C s'.heap/\s'.heap.get? e=L (eu C dx a0)/\Ä (.ref e) s') X.xe s:=by
 obtain⟨bm,N,nm,qn,bs,hdct,sn,sub,ab,col,dd,k0,k1,k2,k3,k5,mN,hC,hN,hi,T⟩:=BF I.mod.kin q;refine fy (μ.mp a7) λoI a6 a9=>?_;refine BP (C:=C) (nm:=nm) (q:=qn) (N:=N) (bs:=bs) (bm:=bm) (hdct:=hdct) (sn:=sn) (sub:=sub) (ab:=ab) (col:=col) (dd:=dd) (k0:=k0) (k1:=k1) (k2:=k2) (k3:=k3) (k5:=k5) Rf (mN:=mN) (fI:=fI) (T.hasType Rf.hasBase) (by rw[he];show(O||(backTo Ó<|starEach es X.env).any (·.1))=O;rw[g];rfl) hi<|bV I hg hm ⟨M,?_⟩ hd;have hA:=ha Ó Æ s Z H _ I h;rw[he]at hA⊢;refine Ur (ß hA λm s2⟨vs,f,n,r2,Ã⟩=>⟨M,?_,n.bk _ _ hC,hN.keeps n.bk,T.keeps n.bk,⟨oI,n.bk _ _<|I.mod.kin _ _ a6,a9⟩,λh' a S=>?_⟩);.rw[<-r2.length,(hR _ _ Ã).1];exact ñ (hR _ _ Ã).2.2.1 (by decide)
 obtain⟨hl,a8,b0,Ã⟩:=hR _ _ Ã;refine iQ S.there λc h1 h2 h3=>?_;have Â:f a=Y:=by cases z:f a with|none=>rfl|some u=>obtain⟨o,ho⟩:=fj<|n.Û a u z;rw[S.new]at ho;cases ho
 have J:=n.kept (t':=s2.toks) S.keeps;have fp:∀E,E a=Y->Ő X Æ E a:=λE hn=>n.Bb S.new hn;have Á:Inv X Æ Z (upd f a<|.ext<|mm a C Y<|.ref c) {s2 with heap:=h'}:=J.QC (fp f Â) ⟨h1,⟨_,h1⟩,λ_ _ z k=>k _ z⟩;have r3:Vals (V.ref a::vs) (Value.ref a::m):=.cons rfl r2;let Q':VK:=λv E=>v=.n/\∃ta y d,upd f a (.ext<|mm a C Y<|.ref c) ta=Y/\y.length<=À/\upd (upd f a<|.ext<|mm a C Y<|.ref c) ta (.t [.str y]) d=Y/\d≠a/\E=upd (upd (upd (upd f a<|.ext<|mm a C Y<|.ref c) ta<|.t [.str y]) d<|.ext<|hQ d<|fl.zip vs) a (.ext<|mm a C (L d)<|.ref ta);have sp:Za C fl À G (V.ref a::vs) (upd f a<|.ext<|mm a C Y<|.ref c) Q' λ_ _ _=>False:=⟨a,vs,_,M,hl,ai,gm _ _ _ _ Â a8,λta y d w D Q z4=>⟨M,ta,y,d,w,D,Q,z4,M⟩⟩;have Å:(Value.ref a::m).length=ps.length:=by rw[<-r3.length];exact F.len _ _ _ _ sp
 have P:=hb {s2 with heap:=h'} (Value.ref a::m) Á.ć (by rw[Ξ];exact Å);rw[Ξ]at P;refine Nb (Xf (F.run _ X.stack _ _ ⟨Value.ref a::m,[]⟩ (Value.ref a::m) _ Q' (λ_ _ _=>False) (hr.make C m []) trivial (Á.Ym.make C m []) P r3 sp) λr s' l=>?_);cases r with|error e'=>exact False.elim l|ok fl'=>cases fl' with|next|brk|cont=>exact False.elim l|ret u=>
   obtain⟨v,E,I3,rv,ev,ta,y,d,p,hy,i,A,eH⟩:=Á.after l;subst ev eH;have j:ta≠a:=λz=>by rw[z,ai]at p;cases p
   have a5:d≠ta:=λz=>by rw[z,ai]at i;cases i
   have K:=yI I3 (e:=a) (C:=C) (dx:=L d) ai;refine⟨rv,I3.bk _ _ hC,L d,_,K,?_⟩;have I4:=I3.xd (d:=d) (fs:=fl.zip vs) (by rw[ag A,ai]);have I5:=I4.VX (e:=a) (φ:=mm a C (L d)<|.ref ta) (by rw[ag (ö A),ai]);have eH:del (upd (upd (upd (upd (upd f a<|.ext<|mm a C Y<|.ref c) ta<|.t [.str y]) d<|.ext<|hQ d<|fl.zip vs) a<|.ext<|mm a C (L d)<|.ref ta) d<|.xd<|fl.zip vs) a=upd (upd f ta<|.t [.str y]) d (.xd<|fl.zip vs):=by
    funext b;unfold del;by_cases w:b=a;.rw[Ð w,w,ag<|ö A,ag<|ö j,Â]
    .rw[Õ w];by_cases D:b=d;.rw[D,ai,ai]
     .rw[ag D,ag w,ag D,ag D];by_cases Q:b=ta;.rw[Q,ai,ai]
      .rw[ag Q,ag Q,ag w]
   rw[eH]at I5;refine Ã s' a d ta y (by rwa[ag j]at p) hy (by rw[ag a5]at i⊢;rwa[ag A]at i) A I5 K (fp _<|by rw[ag (ö A),ag<|ö j];exact Â)
def OY(X:Cx)(C:Addr)(f:List Str)(t:TA):TS:=λ_ h H=>t h H λg c=>g.length=f.length/\IC g c/\f.length<=50/\∀a s e d b y,c b=Y->y.length<=50000->upd c b (.t [.str y]) d=Y->d≠e->ù X a h (upd (upd c b<|.t [.str y]) d<|.xd<|f.zip g) s e C (L d,.ref b,.none) .none Y->X.xe (.ref e) s
def O5(A:X.calm=U)(j:Gl X x)(m:X.mg x=L (.ref C))(q:ko X.K C (L<|.ref fI))(b:W.typeIn X.K (.ref fI)=L (.type "function"))(F:X.Fn ē k fI fd ps (Ec C fl))(K:Ñ (k+1) X.A)(w:Binds X.K fd ps [])(r:PA X (e::es) t)(n:è x:=by decide)(c:SE X e es:=by rfl)(a:BT X Ó es:=by rfl):PS X (.Raise (L<|.Call (.Name x np) (e::es) [] Ó) Y pos) (OY X C fl t):=λf s Å H D I h=>zx (I.ok.hd A) (yj j m q b F (λ_ _ _ _ _ z=>z) K w r I h (λN Ã⟨B,u,v,G⟩=>⟨B,u,v,λs e d g y l E o p J c i=>G _ s e d g y l E o p ⟨J,⟨_,_,c,M,M,M,M,M,M⟩,i,λt z=>by cases z⟩⟩) n c a)
end
end L2
namespace L2
section
def sd:entryFor table "proto.unchain"=L Builtin.«proto.unchain»:=entryFor_of_tree<|M
def xc(h:Heap)(e:Addr):Nat->Value->Prop|0,v=>v=.none|n+1,v=>∃a o b c,v=.ref a/\a≠e/\h.get? a=L o/\o.data=.fields b/\b[2]?=L c/\xc h e n c
theorem xc.one{h e}:∀{n m v},xc h e n v->xc h e m v->n=m|0,0,_,_,_=>rfl|0,_+1,_,h1,⟨_,_,_,_,z,_⟩=>by rw[show _=Value.none from h1]at z;cases z|_+1,0,_,⟨_,_,_,_,z,_⟩,h1=>by rw[h1]at z;cases z|n+1,m+1,_,⟨a,o,vs,c,z,_,g1,g2,g3,g4⟩,⟨a',o',vs',c',z',_,g1',g2',g3',g4'⟩=>by rw[z]at z';cases z';rw[g1]at g1';cases g1';rw[g2]at g2';cases g2';rw[g3]at g3';cases g3';rw[xc.one g4 g4']
theorem kB{e R}(g:R (.ok<|.ret .none) s):∀n m o sl t,n<=m->xc s.heap e (n+1) o->xc s.heap e (m+1) sl->codeAny (model prog w) A (.builtin "proto.unchain" ⟨[.ref e,o,sl,.bool t],[]⟩) R s|n,m,_,_,t,hnm,⟨a,oa,va,c,rfl,_,h1,h2,h3,h4⟩,hs=>by refine codeAny_builtin sd ?_;show wpAny _ _ (field (.ref a) 2 >>=_) _ _ s;refine Í<|Ń h1 h2 h3 ?_;cases n with|zero=>cases show c=.none from h4;refine Í<|ì<|ì ?_;exact g|succ n=>
   have f:=h4;obtain⟨b,ob,v,d,rfl,i,G,u,B,x⟩:=h4;obtain⟨y,D,E,C,rfl,_,q,h,k,r⟩:=id hs;have l:(Value.ref b==Value.none)=O:=rfl;have j:(Value.ref b==Value.ref e)=O:=by simpa using i
   have p:(Value.ref b==Value.ref y)=O:=by refine ϖ.mpr λz=>?_;cases z;have:=xc.one f hs;omega
   dsimp only;rw[l,j,p];refine Í<|ì<|Í<|ì<|Í<|ì ?_;cases t with|false=>exact Í (ì<|ì ⟨Pl _ (by decide+kernel),kB g n m _ _ _ (by omega) f hs⟩)|true=>refine Í (Ń q h k<|ì ⟨Pl _ (by decide+kernel),?_⟩);cases m with|zero=>omega|succ m=>exact kB g n m _ _ _ (by omega) f r
def qR{α e h n m d a b Q k}(q:A.handled=L (.ref h))(o:s.heap.get? e=L m)(g:m.data=.fields a)(hsz:2<a.size)(t:s.heap.get? h=L d)(i:d.data=.fields b)(r:b[2]?=L k)(j:xc s.heap e n k)(l:h≠e)(p:E (.ref e) {s with heap:=s.heap.update e (Obj.mapFields (·.setIfInBounds 2 (.ref h)))}):wpAny (model prog w) A (raiseNew (α:=α)<|.ref e) Q E s:=by
 simp only[raiseNew];refine Í<|wpAny_handled ?_;rw[q];have f:(Value.ref h !=Value.ref e)=U:=by simpa using l
 show wpAny _ _ (if(Value.ref h !=Value.ref e)=U then _ else _) _ _ _;rw[Ð f];have c:xc s.heap e (n+1) (.ref h):=⟨h,d,b,k,M,l,t,i,r,j⟩;refine Í<|π<|wpAny_runValue<|kB ?_ n n _ _ _ (í _) c c;unfold updateField;refine Í<|Í<|wpAny_load o ?_;rw[g];show wpAny _ _ (if 2<a.size then _ else _) _ _ _;rw[Ð hsz];exact wpAny_update o<|wpAny_throw p
end
open PySem.W(findIn InstAt mroIn)
theorem xc.keep{h h' e}(k:∀b o,b≠e->h.get? b=L o->h'.get? b=L o):∀{n v},xc h e n v->xc h' e n v|0,_,z=>z|n+1,_,⟨a,o,vs,c,z,ne,g1,g2,g3,g4⟩=>⟨a,o,vs,c,z,ne,k _ _ ne g1,g2,g3,g4.keep k⟩
section
variable{prog:Program}{w:World}{A:Around}{E:VS}{s:Shared}{env:Env}{C Ch h e:Addr}
def yH{a vs k Q}(y:s.heap.get? e=L a)(n:a.cls=.ref C)(m:a.data=.fields vs)(p:ϵ C s.heap)(o:Q (.ref e) s):wpAny (model prog w) A (excFromValue (.ref e) k) Q E s:=by
 obtain⟨nm,q,N,bs,l,g,z,sub,v,j,G,H,D,r,x,t,b,B,i⟩:=p;have f:(Value.ref C::l).contains (.type "BaseException")=U:=by grind
 obtain⟨c,d,I,u⟩:=a;cases n;cases m;unfold excFromValue isExcClass;repeat(first|(with_reducible refine Nr i ?_;rw[f])|wp_step)
 exact o
def vM{x c pos Q}(hh:A.handled=L (.ref h))(h1:wpAny (model prog w) A (eval x env) (λv d=>∃e dx a0,v=.ref e/\ϵ C d.heap/\d.heap.get? e=L (eu C dx a0)/\wpAny (model prog w) A (eval c env) (λcv a=>cv=.ref h/\ϵ C a.heap/\a.heap.get? e=L (eu C dx a0)/\h≠e/\ϵ Ch a.heap/\(∃m j,a.heap.get? h=L m/\m.cls=.ref Ch/\m.data=.fields j/\∃K n,j[2]?=L K/\xc a.heap e n K)/\∀h',(∀b o,b≠e->a.heap.get? b=L o->h'.get? b=L o)->h'.get? e=L {cls:=.ref C,dict:=dx,data:=.fields #[a0,.none,.ref h,.ref h,.bool U,.none]}->E (.ref e) {a with heap:=h'}) E d) E s):wpAny (model prog w) A (exec (.Raise (L x) (L c) pos) env) Q E s:=by
 rw[arm_exec_Raise];refine Í (Oa<|Í<|Í<|Ĝ h1 (λv d l=>Í<|Oa<|ì ?_) λ_ _ x=>x);obtain⟨e,dx,a0,rfl,_,_,h2⟩:=l;refine Í (π<|Í<|Ĝ h2 (λv a r=>Í<|Oa<|ì<|Í<|ì ?_) λ_ _ x=>x);obtain⟨rfl,hB,B,Å,G,⟨m,j,S,D,t,K,nc,H,k⟩,hE⟩:=r;refine Í<|π<|yH B M M hB ?_;dsimp only;rw[Õ (by simp)];refine Í<|π<|yH S D t G ?_;refine Í (Td B M (by simp) ?_);have e1:=Ob (Obj.mapFields (·.setIfInBounds 3 (Value.ref h))) B M;refine Í (Td e1 M (by simp) ?_);have e2:=Ob (Obj.mapFields (·.setIfInBounds 4 (Value.bool U))) e1 M;have u:∀b o,b≠e->a.heap.get? b=L o->((a.heap.update e<|Obj.mapFields (·.setIfInBounds 3 (Value.ref h))).update e<|Obj.mapFields (·.setIfInBounds 4 (Value.bool U))).get? b=L o:=λb o i q=>by rw[ϟ _ _ (ö i),ϟ _ _<|ö i];exact q
 have J:ϵ C ((a.heap.update e<|Obj.mapFields (·.setIfInBounds 3 (Value.ref h))).update e<|Obj.mapFields (·.setIfInBounds 4 (Value.bool U))):=by obtain⟨nm,q,N,bs,X,g,Á,sub,Â,p,dd,k0,Ä,T,P,Ã,f,i,y⟩:=hB;exact⟨nm,q,N,bs,X,g,Á,sub,Â,p,dd,k0,Ä,T,P,Ã,f,i,u C _ (λz=>by subst z;rw[B]at y;cases y) y⟩
 obtain⟨nm,q,N,bs,X,g,Á,sub,Â,p,dd,k0,Ä,T,P,Ã,f,i,y⟩:=J;have I:=u h m Å S;have k:=k.keep u;have R:=e2;generalize(a.heap.update e<|Obj.mapFields (·.setIfInBounds 3 (Value.ref h))).update e (Obj.mapFields (·.setIfInBounds 4 (Value.bool U)))=hp at *;dsimp only;unfold isType;repeat(first|wp_step)
 refine qR (s:={a with heap:=hp}) hh R M (by simp) I t H k Å (hE _ (λb o i q=>?_)<|Ob _ R M);rw[ϟ _ _ (ö i)];exact u b o i q
end
section
variable{prog:Program}{w:World}{A:Around}{E:VS}{s:Shared}{K:W.Frag}{x C t0:Addr}{ox:Obj}{od:Option Obj}
structure Ÿ(K:W.Frag)(C:Addr):Prop where
 fm:findIn K (.ref C) "__format__"=L (L<|.builtin "object.__format__")st:findIn K (.ref C) "__str__"=L (L<|.builtin "BaseException.__str__")mo:mroIn K C (.type "object")=L U
 mb:mroIn K C (.type "BaseException")=L U
def LV{m tk vs Q}(k:Ÿ K C)(e:A.in1.units<cLine)(X:K.In s.heap)(I:InstAt s.heap x ox C od)(f:ox.data=.fields vs)(g:vs[0]?=L (.ref t0))(h:s.heap.TupAt t0 [.str m tk])(b:Q (.str m tk) {s with toks:=s.toks+1}):wpAny (model prog w) A (formatField (.ref x) Str.empty) Q E s:=by
 refine W.kfo_field X I k.fm k.mo<|W.kfo_obj (s:={s with toks:=s.toks+1}) e<|W.kfo_special X I k.st Kx.str.bind ?_;refine Nb (Mm Kx.str.plain PySem.F.entry_bexc_str<|W.check_slot (i:="BaseException.__str__") (owner:="BaseException") (n:="__str__") (by decide+kernel) (by decide+kernel) (I.type.andThen<|W.looks_mroIn X k.mb) (PySem.F.args_bexc_str _) ?_);have d:∀{Å:Model}{A:Around}{Q:Value×List Value->Shared->Prop}{E},Q (.ref t0,[.str m tk]) {s with toks:=s.toks+1}->wpAny Å A (Builtin.BaseException.bexcArgs<|.ref x) Q E {s with toks:=s.toks+1}:=λ{Å A Q E}b=>by obtain⟨j,k,c,_,a⟩:=h;unfold Builtin.BaseException.bexcArgs;exact Í<|Ń (s:={s with toks:=s.toks+1}) I.at_ f g<|Í<|Nq c a<|ì b
 unfold Builtin.«BaseException.__str__»;repeat(first|with_reducible refine d ?_|wp_step)
 exact⟨_,M,_,_,M,_,_,M,b⟩
end
end L2
namespace L2
section
variable{X:Cx}{e Ce A B C D:Addr}
def IV{m Q E}(I:Inv X Æ Z H s)(j:Gl X a/\X.mg a=L (.ref A))(f:Gl X b/\X.mg b=L (.ref B))(i:Gl X c/\X.mg c=L (.ref C))(g:Gl X d/\X.mg d=L (.ref D))(h:Q (.ref s.heap.objs.size) {s with heap:=s.heap.push {cls:=.type "tuple",data:=.seq [Value.ref A,.ref B,.ref C,.ref D].toArray}})(n:è a:=by decide)(l:è b:=by decide)(k:è c:=by decide)(dd:è d:=by decide):X.wp (eval (.Tuple [.Name a pa,.Name b pb,.Name c pc,.Name d pd] m pos) X.env) Q E s:=by refine wpAny_Tuple_spliced (Hi<|bV I j.1 j.2 (Hi<|bV I f.1 f.2 (Hi<|bV I i.1 i.2 (Hi<|bV I g.1 g.2 (Calls.spliced_nil ⟨show 4<=sizeLine by decide,h⟩) dd) k) l) n)
theorem ù.push(t:ù X Æ Z H s e Ce dx fl (L T))(o):ù X Æ Z H {s with heap:=s.heap.push o} e Ce dx fl (L T):=⟨t.inv.kept λb u q=>Ă _ q,t.ū.keeps λb u _ q=>Ă _ q,t.fe,t.fT⟩
end
open PySem.W(findIn InstAt mroIn)
section
variable{X:Cx}
def FQ{i:Nat}{x v pos Q}(I:Inv X Æ Z H s)(hN:X.N[i]?=L x)(c:X.env.scope.names.lookup x=L .local)(e:Z[i]?=L (L v))(h:∀u,RelV v u->Q u s)(g:è x):X.wp (eval (.Name x pos) X.env) Q E s:=by
 obtain⟨m,d,b⟩:=I.loc;obtain⟨u,r,l⟩:=b i x v hN e<|.inl c;rcases l with⟨a,f⟩|⟨a,_⟩;.exact Hl (Pq I.ok.kind a d f<|h u r) g
 .have:X.env.kindOf x=L _:=c;rw[this]at a;rcases a with z|z<;>cases z
def ù.gone{i}(t:ù X Æ Z H s e C dx fl (L T))(hN:X.N.Nodup)(hi:X.N[i]?=L n)(c:X.env.scope.names.lookup n=L .local){Q}(h:∀s',ù X Æ (Z.set i Y) H s' e C dx fl (L T)->Q () s'){A}:wpAny (model X.prog X.w) A (do bindName X.env n .none;unbindBehindTheSuite X.env n Ė) Q E s:=uj t.inv hN hi c λs' I k=>h _ ⟨I,t.ū.keeps λb o a q=>(k b (by
 rcases a with rfl|a;.exact t.fe.2.1
 .exact(t.fT b a).2.1)).trans q,t.fe,t.fT⟩
def ù.YK(t:ù X Æ Z H s e C dx fl (L T)){Å A b}(h:∀h' a,ù X Æ Z H {s with heap:=h'} e C dx a (L T)->E (.ref e) {s with heap:=h'}):cameBackBy Å A b E (.ref e) s:=by obtain⟨d,m,r,o,l,f,q,g,j,i,n,c,p⟩:=id t.ū;exact Í (Ń f j i.1<|t.wo λh' a k _=>h _ _ k)
end
def ϵ.of{K h C r}(X:K.In h)(q:ko K C r):ϵ C h:=q.out X λj f nm a bs m k sub d i n o l b e c g _ _ T=>⟨nm,a,f,bs,j,m,k,_,d,_,n,o,l,b,e,c,_,T.hasType Rf.hasBase,g⟩
def Ϙ(H:Hp):Nat->Value->Prop|0,v=>v=.none|n+1,v=>∃a C b,v=.ref a/\H a=L (.ext<|excAt a C b)/\Ϙ H n b.2.2
theorem Ϙ.keep{H H'}(k:au H H'):∀{n v},Ϙ H n v->Ϙ H' n v|0,_,z=>z|n+1,_,⟨a,C,dx,z,h,r⟩=>⟨a,C,dx,z,k _ _ h,r.keep k⟩
theorem Ϙ.ctx{X Æ Z H s e}(I:Inv X Æ Z H s)(g:H e=Y):∀{n v},Ϙ H n v->xc s.heap e n v|0,_,z=>z|n+1,_,⟨a,C,dx,z,h,r⟩=>by obtain⟨⟨b,f,i,j,k,d,c,_⟩,_⟩:=I.Û a _ h;exact⟨a,b,_,_,z,λy=>by grind,i,d,c,r.ctx I g⟩
section
variable{X:Cx}
def qh{tx R}(t:ù X Æ Z H s e Ce dx Â (L T))(b4:∀Q E,(∀v s',ù X Æ Z H s' e Ce dx Â (L T)->(∀Å,W.Looks Å s'.heap (excMatches (.ref e) v) U)->Q v s')->wpAny (model X.prog X.w) (X.A.mark<|some<|.ref e) (eval tx X.env) Q E s)(hs:X.stack=X.env::X.outer)(hf:X.env.frame=L X.env.locals)(hN:X.N.Nodup)(hi:X.N[i]?=L n)(K:X.env.scope.names.lookup n=L .local)(a8:PA (X.ă e) (x1::es) ta)(b3:ta (Z.set i<|some<|V.ref e) (upd H e<|.ext<|excAt e Ce dx) R)(S:Ϙ (upd H e<|.ext<|excAt e Ce dx) nc dx.2.2)(qe:∃r,ko X.K Ce r)(hg:Gl X xB)(hm:X.mg xB=L (.ref C))(q:ko X.K C (L<|.ref fI))(b2:W.typeIn X.K (.ref fI)=L (.type "function"))(F:X.Fn ē k fI fd ps (Za C fls À G))(gm:∀ws H b o,H b=Y->G ws H->G ws (upd H b o))(hr:Ñ (k+1) (X.A.mark<|some<|.ref e))(Á:Binds X.K fd ps [])(a6:fls.length<=50)(hR:∀vs a,R vs a->vs.length=fls.length/\au (upd H e<|.ext<|excAt e Ce dx) a/\G vs a/\∀s' c d ta y Â T2,a ta=Y->upd a ta (.t [.str y]) d=Y->ù X Æ (Z.set i Y) (upd (upd a ta<|.t [.str y]) d<|.xd<|fls.zip vs) s' c C (L d,.ref ta,.ref e) Â (L T2)->X.xe (.ref c) s')(Ja:è xB)(b1:è n)(a5:SE (X.ă e) x1 es:=by rfl)(Ã:BT (X.ă e) Ó es:=by rfl):X.wp (handleBy (.ref e) X.env [.ExceptHandler (L tx) (L n) [.Raise (L<|.Call (.Name xB np) (x1::es) [] Ó) (L<|.Name n p3) rpos] Ė]) Q X.xe s:=by
 refine Ii (Wh<|b4 _ _ λv sx t' hx=>?_) (by intro q;cases q);refine(hx _).here ?_;refine Zr (t'.og λh' t5=>?_);have J:=t5.known;have P:i<Z.length:=by rw[t.inv.len];exact(Ĵ.mp hi).1
 refine ib (X:=X.ă e) (J.ă e) hN hi (Or.inl K) (v:=.ref e) (u:=.ref e) M (λs2 J2 _=>?_)<|Or.inr K;have a2:(Z.set i<|some<|V.ref e)[i]?=L (L<|.ref e):=ĳ P;refine Cq<|vM (C:=C) (Ch:=Ce) (h:=e) M ?_;refine Ĝ (yj (X:=X.ă e) (Ä:=λv A=>∃c d ta y vs a,v=.ref c/\R vs a/\a ta=Y/\upd a ta (.t [.str y]) d=Y/\Inv (X.ă e) Æ (Z.set i<|some<|.ref e) (upd (upd a ta<|.t [.str y]) d<|.xd<|fls.zip vs) A/\A.heap.get? c=L (eu C (L d)<|.ref ta)/\Ő (X.ă e) Æ (upd (upd a ta<|.t [.str y]) d<|.xd<|fls.zip vs) c) (R:=R) hg hm q b2 F gm hr Á a8 J2 b3 (λvs a z=>?_) Ja a5 Ã) (λv A h3=>?_) λ_ _ z=>z.elim;.obtain⟨z1,_,z3,_⟩:=hR vs a z;exact⟨z1,z3,a6,λs c d ta y N y2 g y4 I w j=>⟨c,d,ta,y,vs,a,M,z,N,g,I,w,j⟩⟩
 obtain⟨c,b7,a0,rfl,hB,w,c2,d,ta,y,vs,a,ez,hz,N,g,B,l,j⟩:=h3;cases ez;rw[w]at l;cases l;obtain⟨_,sm,_,fin⟩:=hR vs a hz;refine⟨c,L d,.ref ta,M,hB,w,FQ B hi K a2 (λu r=>?_) b1⟩;cases show u=Value.ref e from r;have nd:d≠ta:=λz=>by rw[z,ai]at g;cases g
 have c0:a d=Y:=by rwa[ag nd]at g
 have D:au (upd H e<|.ext<|excAt e Ce dx) (upd (upd a ta<|.t [.str y]) d<|.xd<|fls.zip vs):=sm.trans<|(ar N _).trans<|ar g _;have x:=D e _ ai;have ne:e≠c:=λz=>by have:=j.1;rw[<-z,x]at this;cases this
 obtain⟨⟨oh,a7,g1,g2,g3,g4,g5,_⟩,_⟩:=B.Û e _ x;refine⟨M,hB,w,ne,qe.elim λ_=>ϵ.of B.ć,⟨oh,a7,g1,g2,g4,_,nc,g5,(S.keep D).ctx B j.1⟩,λh6 k6 e6=>?_⟩;have I6:Inv (X.ă e) Æ (Z.set i<|some<|.ref e) _ {A with heap:=h6}:=B.Gj (ch:=[c]) (λb Á=>by rw[Ň.mp Á];exact j) (λb o q hc _=>k6 b o (λz=>hc<|by rw[z];exact ę) q) λb o q hc _=>⟨o.slots,k6 b o (λz=>hc<|by rw[z];exact ę) q⟩;have t6:ù (X.ă e) Æ (Z.set i<|some<|.ref e) _ {A with heap:=h6} c C (L d,.ref ta,.ref e) .none Y:=⟨I6,⟨_,_,e6,M,M,M,M,M,M⟩,j,λt z=>by cases z⟩;refine t6.note hs hf λh7 T7 c1 t7=>t7.gone hN hi K λs8 t8=>t8.pass λh9 b8 t9=>t9.note hs hf λb6 b0 b5 a9=>a9.YK λb9 m f=>?_;have p:=f.inv;rw[List.set_set]at p;exact fin _ c d ta y m b0 N g ⟨t.inv.back p,f.ū,f.fe,f.fT⟩
end
end L2
namespace L2
section
variable{X:Cx}{Ò:List ExceptHandler}
def n7(t:ù X Æ Z H s e Ce dx fl (L T))(b:Gl X x)(c:X.mg x=L (.ref C))(a:W.exmOne X.K (.ref Ce) (.ref C)=L O)(k:X.wp (handleBy (.ref e) X.env Ò) Q E s)(d:è x:=by decide):X.wp (handleBy (.ref e) X.env (.ExceptHandler (L<|.Name x np) nm (b0::ś) Ė::Ò)) Q E s:=by exact Ii (Wh<|bV (t.inv.ă e) b c ((Th t.inv.ć t.ty a).here k) d) (by intro q;cases q)
def z0(t:ù X Æ Z H s e Ce dx fl (L T))(c:Gl X x)(d:X.mg x=L (.ref C))(h:W.exmOne X.K (.ref Ce) (.ref C)=L U)(k:∀h',ù X Æ Z H {s with heap:=h'} e Ce dx .none (L T)->wpAny (model X.prog X.w) (X.A.mark<|some<|.ref e) (storeName X.env n<|.ref e) (λ_ a=>wpAny (model X.prog X.w) (X.A.mark<|some<|.ref e) (execs (b0::ś) X.env) (λf b=>X.wp (do bindName X.env n .none;unbindBehindTheSuite X.env n Ė) (λ_ j=>Q f j) E b) (λ_ _=>False) a) (λ_ _=>False) {s with heap:=h'})(g:è x:=by decide):X.wp (handleBy (.ref e) X.env (.ExceptHandler (L<|.Name x np) (L n) (b0::ś) Ė::Ò)) Q E s:=by refine Ii (Wh<|bV (t.inv.ă e) c d ?_ g) (by intro q;cases q);refine(Th t.inv.ć t.ty h).here ?_;exact Zr (t.og λh' i=>Ĝ (k h' i) (λ_ a q=>Ĝ q (λ_ _ z=>z) λ_ _ z=>z.elim) λ_ _ z=>z.elim)
end
section
variable{X:Cx}
def LU(t:TA):TE:=λb H Q=>t b H λc a=>∃j:Int,c=[.int j]/\-2^62<=j/\j<2^62/\∀r,a r=Y->Q (.ref r) (upd a r<|.û 0 j)
def E4{a:Expr}{ta:TA}{p pos:Pos}(n:Gl X "range")(r:X.mg "range"=Y)(k:PA X [a] ta)(hs:starEach [a] X.env=[(O,eval a X.env)]:=by rfl):PE X (.Call (.Name "range" p) [a] [] pos) (LU ta):=by intro c s i H Q I h;refine Call_ (lT I n r El<|Ag (ß (k pos c s i H _ I h) λw g d=>?_) hs M);obtain⟨x,y,f,v,l⟩:=d;obtain⟨j,rfl,_,_,q⟩:=l;obtain⟨u,rfl,m⟩:=vals1 v;obtain⟨t,rfl⟩:=m;exact call_range_1 ⟨.ref g.heap.objs.size,_,f.laid (o:=.û 0 j) (λb o e=>Ă _ e) (í _) ⟨_,_,_,ĺ _ M⟩,M,q _<|f.Û.fresh<|í _⟩
def sq(A:X.calm=U):bG X (.type "list") λxs H Q=>∃(r:Addr)(n:Nat),xs=[.ref r]/\H r=L (.û 0 n)/\n<=1000/\∀l,H l=Y->Q (.ref l) (upd H l<|.l<|(List.range n).map λi=>.int (i:Nat)):=by
 intro j s C H xs c Q I r h;obtain⟨a,n,rfl,y,p,q⟩:=h;obtain⟨u,rfl,B⟩:=vals1 r;cases show u=Value.ref a from B;obtain⟨t,u,v,e⟩:=show cB X.prog X.w H s.heap a (.û 0 n)from I.Û a _ y;refine call_list_range (n:=n) (I.ok.hd A) e (small_one (by omega) (by omega) (by omega)<|by omega) (by rw[rangeSize_one];split<;>omega) (by omega) λD tk d m x w b=>?_;refine⟨.ref s.heap.objs.size,_,I.laid (t':=tk) (o:=.l<|(List.range n).map λi=>.int (i:Nat)) x (í _) ⟨?_,d.toList,m,?_,by simpa using w⟩,M,q _<|I.Û.fresh<|í _⟩;.rw[Į,List.length_range];exact ñ p (by decide)
 .have go:∀(c:List Value)(k:Nat),(∀(i:Nat)(v:Value),c[i]?=L v->∃t,v=.int ((k+i:Nat):Int) t)->Vals ((List.range' k c.length).map λi=>V.int (i:Nat)) c:=by intro c;induction c with|nil=>intro k _;exact .nil|cons u c ih=>
    intro k g;rw[Ĩ,List.range'_succ,ņ];refine .cons ?_ (ih (k+1) λi v f=>?_);.obtain⟨t,e⟩:=g 0 u M;exact⟨t,by simpa using e⟩
    .obtain⟨t,e⟩:=g (i+1) v (by simpa using f);exact⟨t,by rw[e];congr 1;omega⟩
  have z:d.toList.length=n:=by simpa using b.1
  have:=go d.toList 0 λi v f=>by obtain⟨t,e⟩:=b.2 i v (by simpa using f);exact⟨t,by rw[e];congr 1;omega⟩
  rw[z]at this;rw[List.range_eq_range'];exact this
end
def Zj(a:Addr)(od:Obj)(Ç:List (Key×V)):It:=⟨λi H=>H a=L (.î od<|.dK Ç)/\i<Ç.length,λi H x b=>b=H/\∃p,Ç[i]?=L p/\x=kV p.1,λi H=>H a=L (.î od<|.dK Ç)/\Ç.length<=i⟩
section
variable{X:Cx}
def Inv.Jt(I:Inv X Æ Z H s)(e:H a=L (.î od<|.dK Ç)):(a==sysModules)=O/\∃vs es ep,KV Ç vs/\od.data=.dict es ep/\s.heap.DictAt (bU X.prog X.w) a vs ep:=by obtain⟨c,z,h,vs,b,o,es,ep,d,g,f,j,k,i⟩:=I.Û a _ e;rw[c]at d;cases d;exact⟨h,vs,es,ep,b,f,od,es,c,g,f,j,k,i⟩
def KV.get{Ç:List (Key×V)}{vs:List (Key×Value)}(r:KV Ç vs){i:Nat}{p:Key×V}(e:Ç[i]?=L p):∃q:Key×Value,vs[i]?=L q/\p.1=q.1/\RelV p.2 q.2:=by unfold KV at r;induction r generalizing i with|nil=>simp at e|cons h t ih=>cases i with|zero=>simp at e;subst e;exact⟨_,M,h⟩|succ i=>simpa using ih (by simpa using e)
end
def A5{P:Program}{w:World}{K:W.Frag}{tg:Expr}(a it:Addr)(od:Obj)(Ç:List (Key×V))(ep:Nat)(hep:∃es,od.data=.dict es ep):Turn P w K tg (Zj a od Ç) [it] it λi h=>h.IsKeyIter it a i Ç.length ep where
 mem:=by simp
 obj:=λi h st b hb=>by
  have e:b=it:=by simpa using hb
  subst e;obtain⟨o,e,c,d⟩:=st;exact⟨o,e,λv z=>by rw[d]at z;cases z⟩
 keep:=λi h h' st k=>st.at λo e=>k it (by simp) o e;item:=by intro X hP hw hK i Æ s Z H E hc I hf st hg;subst hP hw hK;obtain⟨hq,hi⟩:=hg;obtain⟨hd,vs,es,ep',rel,hdat,hat⟩:=I.Jt hq;obtain⟨es',he⟩:=hep;rw[hdat]at he;cases he;obtain⟨q,hx,hk,rq⟩:=rel.get<|ν hi;obtain⟨k,v⟩:=q;obtain⟨f0,f1,f2,f3,f4,f5⟩:=hf it (by simp);have hl:=rel.length;refine wpAny_pyNext_dict_item (show s.heap.IsKeyIter it a i vs.length ep by rw[<-hl];exact st) hat hx λkey h' hkey Ŭ sb=>?_;have I1:Inv X Æ Z H {s with heap:=h'}:=I.turned (t':=s.toks) (λb o hb e=>(sb.2 b hb).trans e) f0 f1 f3 f4 f5;obtain⟨o,e,c,d⟩:=id Ŭ;refine⟨key,M,z5 (s:={s with heap:=h'}) e c d (by decide) ⟨kV Ç[i].1,H,I1,?_,⟨M,Ç[i],ν hi,M⟩,by rw[hl];exact Ŭ,λb hb=>(hf b hb).1⟩⟩;rw[hk];exact ND hkey
 done:=by intro X hP hw hK i Æ s Z H E hc I hf st hg;subst hP hw hK;obtain⟨hq,hi⟩:=hg;obtain⟨hd,vs,es,ep',rel,hdat,hat⟩:=I.Jt hq;obtain⟨es',he⟩:=hep;rw[hdat]at he;cases he;obtain⟨f0,f1,f2,f3,f4,f5⟩:=hf it (by simp);have hl:=rel.length;exact wpAny_pyNext_dict_end (I.ok.hd hc) (show s.heap.IsKeyIter it a i vs.length ep by rw[<-hl];exact st) hat (by simp;omega) λh' eb=>⟨M,I.turned (t':=s.toks) (λb o hb e=>eb b o hb e) f0 f1 f3 f4 f5⟩
 self:=λ_ _ _ _ _ st h=>wpAny_pyIter_keyiter st h
def CL(d:TE):TI:=λe H R=>d e H λx c=>∃a od b,x=.ref a/\c a=L (.î od<|.dK b)/\R (Zj a od b) c
def BG{X r l n}(y:PE X l n):PI X r l (CL n):=by
 intro c s u H R I h;refine ß (y c s u H _ I h) λv g i=>?_;refine kr i λx C f B w=>?_;refine xh w λa od m e A q=>?_;subst e;cases B;obtain⟨z,D,t,p,k,d,j⟩:=f.Jt A;refine wpAny_pyIter_dict z j (Ej g.heap.objs.size [g.heap.objs.size] _ _ C M (f.kept λb o e=>Ă _ e) (A5 a _ od m p ⟨t,d⟩) ⟨_,ĺ _ M,M,by rw[k.length];rfl⟩ (λb E=>?_) q);have e:b=g.heap.objs.size:=by grind
 subst e;exact f.Cg (í _)<|f.Û.fresh<|í _
def Inv.AA{X Æ}{Z:St}{H s a Ç}(I:Inv X Æ Z H s)(e:H a=L (.dK Ç)):∃od,Inv X Æ Z (upd H a<|.î od<|.dK Ç) s/\∀o u,X.Ŗ a≠L (.î o u):=by have ob:=I.Û a _ e;obtain⟨z,g,h,b,o,f,d,c,r⟩:=id ob;refine⟨o,wG  I (by rw[e];exact True.intro) (Heap.SameBut.refl ..) ⟨o,c⟩ ⟨c,z,g,h,b,o,f,d,c,r⟩,λi u z=>?_⟩;have:=I.base.ľ a _ u z;rw[e]at this;cases this
def Inv.Jv{X Æ}{Z:St}{H s a Ç od}(I:Inv X Æ Z H s)(e:H a=L (.î od<|.dK Ç))(j:∀o u,X.Ŗ a≠L (.î o u)):Inv X Æ Z (upd H a<|.dK Ç) s:=by
 have ob:=I.Û a _ e;have f:∀{b:Addr},H b=Y->upd H a (.dK Ç) b=Y:=λ{b}z=>by rw[ag λq=>by rw[q,e]at z;cases z];exact z
 refine⟨I.ok,I.os,I.bare,⟨I.base.keep,I.base.slot,λb o q n k=>f<|I.base.free b o q n k,I.base.there,λb g q=>?_,λb o u q=>?_,λb m q=>?_⟩,I.loc,I.cell,f I.free,λx c q=>f<|I.ú x c q,λp l=>?_,λb u q=>?_,I.len⟩;.have z:=I.base.Ŕ b g q;rw[ag λy=>by rw[y,e]at z;cases z];exact z
 .have z:=I.base.ľ b o u q;rw[ag λy=>by rw[y]at q;exact j _ _ q];exact z
 .obtain⟨d,z⟩:=I.base.ŕ b m q;exact⟨d,by rw[ag λy=>by rw[y,e]at z;cases z];exact z⟩
 .refine Yc (I.pin p l) λt w v=>?_;exact⟨t,f w,v⟩
 .have i:∀{b:Addr}{u:HO},cB X.prog X.w H s.heap b u->cB X.prog X.w (upd H a<|.dK Ç) s.heap b u:=λ{b u}x=>x.tj (λ_ _ _ q=>q) (λc r=>by rw[ag λy=>by rw[y,e]at r;cases r];exact r) λc g r=>by rw[ag λy=>by rw[y,e]at r;cases r];exact r
  by_cases h:b=a;.subst h;rw[ai]at q;cases q;exact i ob.2
  .rw[ag h]at q;exact i<|I.Û b u q
end L2
namespace WL
inductive W where|n|B(b:Bool)|int(i:Int)|str(x:Str)|ty(n:String)|t(xs:List W)|l(xs:List W)|ġ(ks vs:List W)|cls(c:String)|e(c:String)(fs:List W)|i(c:String)(fs:List W)|id(a:Nat)
inductive Res(α:Type)where|ok(a:α)|x(c:W)|b
noncomputable def Res.bind{α b}:Res α->(α->Res b)->Res b|.ok a,f=>f a|.x c,_=>.x c|.b,_=>.b
inductive Sl where|o|v(w:W)|w(ws:List W)|od(ks vs:List W)|ob
abbrev Ws:=List Sl
abbrev EF:=Ws->Res W
abbrev TF:=Ws->Res Bool
abbrev AF:=Ws->Res (List W)
abbrev LF:=Ws->Res (List W)
abbrev GF:=W->Ws->Res Ws
inductive Out where|n(Z:Ws)|r(w:W)|bk(Z:Ws)|ct(Z:Ws)|x(c:W)(Z:Ws)|b
abbrev SF:=Ws->Out
mutual def eqv:W->W->Bool|.n,.n=>U|.B a,.B b=>a==b|.B a,.int j=>(if a then 1 else 0)==j|.int i,.B b=>i==if b then 1 else 0|.int i,.int j=>i==j|.str x,.str y=>x==y|.l xs,.l ys=>ahe xs ys|.t xs,.t ys=>ahe xs ys|_,_=>O def ahe:List W->List W->Bool|[],[]=>U|x::xs,y::ys=>eqv x y&&ahe xs ys|_,_=>O end
mutual def ě:Nat->W->Bool|_,.n=>U|_,.B _=>U|_,.int _=>U|_,.str x=>x.cps.all (.<0x110000)|_,.ty _=>O|n,.t xs=>hI n xs|n,.l xs=>hI n xs|_,.ġ _ _=>O|_,.cls _=>O|_,.e _ _=>O|_,.i _ _=>O|_,.id _=>O def hI:Nat->List W->Bool|0,_=>O|_+1,[]=>U|n+1,x::xs=>ě n x&&hI (n+1) xs end
noncomputable def tD:W->W->Bool|.n,.n=>U|.n,.int _=>U|.int _,.n=>U|.n,.B _=>U|.B _,.n=>U|.n,.str _=>U|.str _,.n=>U|.int _,.int _=>U|.B _,.B _=>U|.str _,.str _=>U|.int _,.str _=>U|.str _,.int _=>U|.B _,.str _=>U|.str _,.B _=>U|_,_=>O
def oEq(x y:W):Res W:=if tD x y then .ok (.B<|eqv x y)else if ě 50 x&&ě 50 y then .ok (.B<|eqv x y)else .b
def Ω(x y:W):Res W:=if tD x y then .ok (.B !eqv x y)else if ě 50 x&&ě 50 y then .ok (.B !eqv x y)else .b
noncomputable def bY(x:W):List W->Bool|[]=>O|y::ys=>eqv y x||bY x ys
def ı(x:W):W->Res W|.l ys=>if ě 50 x&&hI 51 ys then .ok (.B<|bY x ys)else .b|.t ys=>if ě 50 x&&hI 51 ys then .ok (.B<|bY x ys)else .b|_=>.b
def g7(x:W):W->Res W|.l ys=>if ě 50 x&&hI 51 ys then .ok (.B !bY x ys)else .b|.t ys=>if ě 50 x&&hI 51 ys then .ok (.B !bY x ys)else .b|_=>.b
noncomputable def lim:Nat:=1000000
def fK:W->W->Res W|.int i,.int j=>.ok<|.int<|i+j|.l xs,.l ys=>if xs.length+ys.length<=lim then .ok (.l<|xs++ys)else .b|.t xs,.t ys=>if xs.length+ys.length<=lim then .ok (.t<|xs++ys)else .b|_,_=>.b
noncomputable def pZ:W->W->Res W|.int i,.int j=>.ok<|.int<|i-j|_,_=>.b
noncomputable def rz:W->W->Res W|.int i,.int j=>if -2^64<i/\i<2^64\/-2^64<j/\j<2^64 then .ok (.int<|i*j)else .b|_,_=>.b
noncomputable def oDiv:W->W->Res W|.int i,.int j=>if 0<j/\j<10^100 then .ok (.int<|i/j)else .b|_,_=>.b
noncomputable def oMod:W->W->Res W|.int i,.int j=>if 0<j then .ok (.int<|i%j)else .b|_,_=>.b
noncomputable def fU:W->Res W|.int i=>.ok<|.int<|-i|_=>.b
noncomputable def oLt:W->W->Res W|.int i,.int j=>.ok (.B<|decide (i<j))|_,_=>.b
noncomputable def oLe:W->W->Res W|.int i,.int j=>.ok (.B<|decide (i<=j))|_,_=>.b
noncomputable def Ea:W->W->Res W|.int i,.int j=>.ok (.B<|decide (j<i))|_,_=>.b
noncomputable def o7:W->Bool|.n=>U|_=>O
noncomputable def Ip(b:Bool):W->Bool|.B c=>b==c|_=>O
def ϐ(x:W):W->Res W|.n=>.ok<|.B<|o7 x|.B b=>.ok<|.B<|Ip b x|_=>.b
def fJ(x:W):W->Res W|.n=>.ok<|.B !o7 x|.B b=>.ok<|.B !Ip b x|_=>.b
noncomputable def Ů(n:Nat)(i:Int):Option Nat:=if 0<=i then if i<n then L i.toNat else Y else if -(n:Int)<=i then L (i+n).toNat else Y
def ŏ{α:Type}(xs:List α)(i:Int):Option α:=(Ů xs.length i).bind λj=>xs[j]?
noncomputable def Ζ{α}:Option α->Res α|some a=>.ok a|none=>.b
@[simp]def anR{α}(a:α):Ζ (L a)=.ok a:=(rfl)
noncomputable def qo(k:Str):List W->List W->Option W|.str x::ks,v::vs=>if x==k then L v else qo k ks vs|_,_=>Y
def Ą:W->W->Res W|.l xs,.int i=>Ζ<|ŏ xs i|.t xs,.int i=>Ζ<|ŏ xs i|.ġ ks vs,.str k=>Ζ<|qo k ks vs|_,_=>.b
noncomputable def Ā(n d:Nat):Option Int->Nat|none=>d|some v=>if v<0 then(v+(n:Int)).toNat else min v.toNat n
def cut{α:Type}(xs:List α)(lo hi:Option Int):List α:=(xs.drop<|Ā xs.length 0 lo).take<|Ā xs.length xs.length hi-Ā xs.length 0 lo
def Nd:W->Option Int->Option Int->Res W|.l xs,lo,hi=>.ok<|.l<|cut xs lo hi|.t xs,lo,hi=>if Ā xs.length 0 lo=0/\Ā xs.length xs.length hi=xs.length then .b else .ok (.t<|cut xs lo hi)|_,_,_=>.b
noncomputable def eT:List W->Res W|[.l xs]=>.ok<|.int xs.length|[.t xs]=>.ok<|.int xs.length|_=>.b
noncomputable def md:List W->Res W|[.l xs]=>.ok<|.t xs|[.t xs]=>.ok<|.t xs|_=>.b
noncomputable def Vg:List W->Res W|[.int i]=>.ok (.int<|if i<0 then -i else i)|_=>.b
noncomputable def Zg:List W->Res W|[.int i,.int j]=>.ok (.int<|if j>i then j else i)|_=>.b
noncomputable def Tc:List W->Option Bool|[]=>L U|.B b::xs=>(Tc xs).map λc=>b&&c|_=>Y
def Ϣ:List W->Res W
|[.l xs]=>match Tc xs with|some b=>.ok<|.B b|none=>.b
|_=>.b
noncomputable def wh:W->String|.n=>"NoneType"|.B _=>"bool"|.int _=>"int"|.str _=>"str"|.ty _=>"type"|.t _=>"tuple"|.l _=>"list"|.ġ _ _=>"dict"|.cls _=>"type"|.e _ _=>"exception"|.i _ _=>"object"|.id _=>"object"
def Gf(w:W)(t:String):Option Bool:=match w with|.ty _=>Y|.ġ _ _=>Y|.cls _=>Y|.e _ _=>Y|.i _ _=>Y|.id _=>Y|_=>if["int","bool","str","list","tuple"].contains t then L (wh w==t||wh w=="bool"&&t=="int")else Y
def bQ:List W->Res W
|[x,.ty t]=>match Gf x t with|some b=>.ok<|.B b|none=>.b
|_=>.b
noncomputable def dA(i:Nat):EF:=λa=>match a[i]? with|some (.v w)=>.ok w|_=>.b
noncomputable def eC(w:W):EF:=λ_=>.ok w
def Ì(r:W->W->Res W)(a b:EF):EF:=λc=>(a c).bind λx=>(b c).bind λy=>r x y
def Đ(r:W->Res W)(a:EF):EF:=λb=>(a b).bind r
def l2(r e:W->W->Res W)(a b c:EF):EF:=λd=>(a d).bind λx=>(b d).bind λy=>(r x y).bind λz=>match z with|.B U=>(c d).bind λw=>e y w|.B O=>.ok<|.B O|_=>.b
noncomputable def Β:W->Res Bool|.B b=>.ok b|_=>.b
def tB(e:EF):TF:=λa=>(e a).bind Β
def vF(a b:TF):TF:=λc=>(a c).bind λx=>match x with|true=>b c|false=>.ok O
def Ε(a b:TF):TF:=λc=>(a c).bind λx=>match x with|true=>.ok U|false=>b c
def pP(a:TF):TF:=λb=>(a b).bind λx=>.ok !x
def mn(a b:EF):EF:=λc=>(a c).bind λx=>match x with|.B U=>b c|.B O=>.ok<|.B O|_=>.b
def ϣ(a:EF):EF:=λc=>(a c).bind λx=>match x with|.B b=>.ok<|.B !b|_=>.b
def ϓ(t:TF)(a b:EF):EF:=λc=>(t c).bind λx=>match x with|true=>a c|false=>b c
noncomputable def ak:AF:=λ_=>.ok []
def aa(e:EF)(a:AF):AF:=λb=>(e b).bind λx=>(a b).bind λc=>.ok (x::c)
def eB(a:AF):EF:=λc=>(a c).bind λb=>if b.length<=lim then .ok (.t b)else .b
def lb(a:AF):EF:=λc=>(a c).bind λb=>if b.length<=lim then .ok (.l b)else .b
def av(f:List W->Res W)(a:AF):EF:=λb=>(a b).bind λws=>match f ws with|.ok w=>.ok w|_=>.b
def ç(f:List W->Res W)(a:AF):EF:=λb=>(a b).bind f
def ov(T:String)(r:W->List W->Res W)(o:EF)(a:AF):EF:=λb=>(o b).bind λx=>if wh x==T then(a b).bind λws=>r x ws else .b
noncomputable def idx(x:W):Nat->List W->Option Nat|_,[]=>Y|k,y::ys=>if eqv y x then L k else idx x (k+1) ys
def fL:W->List W->Res W|.l ys,[x]=>if ě 50 x&&hI 51 ys&&decide (ys.length<=lim)then match idx x 0 ys with|some k=>.ok<|.int k|none=>.b else .b|_,_=>.b
noncomputable def ο:Ws->Res (Option Int):=λ_=>.ok Y
def cS(e:EF):Ws->Res (Option Int):=λa=>(e a).bind λx=>match x with|.int i=>.ok<|some i|_=>.b
def Ť(e:EF)(lo hi:Ws->Res (Option Int)):EF:=λa=>(e a).bind λx=>(lo a).bind λl=>(hi a).bind λh=>Nd x l h
noncomputable def itemsOf:W->Res (List W)|.l xs=>.ok xs|.t xs=>.ok xs|_=>.b
def lW(e:EF):LF:=λa=>(e a).bind itemsOf
noncomputable def û(lo:Int)(n:Nat):List W:=(List.range n).map λi=>.int<|lo+(i:Nat)
def fW(e:EF):LF:=λa=>(e a).bind λx=>match x with|.int j=>if -2^62<=j/\j<2^62 then .ok (û 0 j.toNat)else .b|_=>.b
def jz(e e':EF):LF:=λa=>(e a).bind λx=>(e' a).bind λy=>match x,y with|.int i,.int j=>if -2^62<=i/\i<2^62/\-2^62<=j/\j<2^62 then .ok (û i (j-i).toNat)else .b|_,_=>.b
noncomputable def iS:Nat->List W->List W|_,[]=>[]|k,x::xs=>.t [.int k,x]::iS (k+1) xs
def zZ(e:EF):LF:=λa=>(e a).bind λx=>match x with|.t xs=>.ok<|iS 0 xs|.l xs=>.ok<|iS 0 xs|_=>.b
noncomputable def ax(i:Nat):GF:=λw a=>.ok<|a.set i<|.v w
abbrev Qe:=List W->Ws->Res Ws
noncomputable def vo:Qe:=λws a=>match ws with|[]=>.ok a|_=>.b
noncomputable def di(g:GF)(b:Qe):Qe:=λws a=>match ws with|w::r=>(match g w a with|.ok Ô=>(match b r Ô with|.ok é=>.ok é|_=>.b)|_=>.b)|[]=>.b
noncomputable def vn(b:Qe):GF:=λw a=>match w with|.t ws=>b ws a|_=>.b
def ϱ(i:Nat)(e:EF):GF:=λw a=>match a[i]? with
|some (.w ws)=>match e a with|.ok (.int k)=>(match Ů ws.length k with|some j=>.ok<|a.set i<|.w<|ws.set j w|none=>.b)|_=>.b
|_=>.b
noncomputable def bJ(g:GF)(t:TF)(e:EF)(Z:Ws):List W->Res (List W)|[]=>.ok []|x::xs=>(g x Z).bind λa=>(t a).bind λb=>match b with|true=>(e a).bind λy=>(bJ g t e Z xs).bind λc=>.ok (y::c)|false=>bJ g t e Z xs
noncomputable def gD:TF:=λ_=>.ok U
def uy(k:Nat)(it:LF)(g:GF)(t:TF)(e:EF):LF:=λa=>(it a).bind λb=>if b.length<=lim then match bJ g t e (List.replicate k .o++a) b with|.ok ys=>.ok ys|_=>.b else .b
def dD(k:Nat)(it:LF)(g:GF)(t:TF)(e:EF):EF:=λa=>(uy k it g t e a).bind λb=>.ok<|.l b
noncomputable def î(i:Nat)(Z:Ws):Ws:=match Z[i]? with|some (.w ws)=>Z.set i<|.v<|.l ws|some (.od ks vs)=>Z.set i<|.v<|.ġ ks vs|_=>Z
mutual def plain:W->Bool|.t xs=>j0 xs|.l _=>O|.ġ _ _=>O|.e _ _=>O|.i _ _=>O|.id _=>O|_=>U def j0:List W->Bool|[]=>U|x::xs=>plain x&&j0 xs end
def uV(i:Nat)(e:EF):EF:=λa=>match e (î i a)with|.ok w=>if plain w then .ok w else .b|_=>.b
def zg(i:Nat)(t:TF):TF:=λa=>match t (î i a)with|.ok b=>.ok b|_=>.b
noncomputable def à:SF:=λa=>.n a
noncomputable def aw(a b:SF):SF:=λc=>match a c with|.n Ô=>b Ô|o=>o
noncomputable def ø{α}(Z:Ws)(r:Res α)(f:α->Out):Out:=match r with|.ok a=>f a|.x c=>.x c Z|.b=>.b
def aN(i:Nat)(e:EF):SF:=λa=>ø a (e a) λw=>.n<|a.set i<|.v w
def kL(i:Nat)(l:LF):SF:=λa=>ø a (l a) λws=>.n<|a.set i<|.w ws
def Ie(a:AF):LF:=λc=>(a c).bind λb=>if b.length<=lim then .ok b else .b
def Xz(e:EF):LF:=λa=>(e a).bind itemsOf
def Hj(e:EF)(g:GF):SF:=λa=>ø a (e a) λw=>ø a (g w a) λb=>.n b
def Ü(t:TF)(a b:SF):SF:=λc=>ø c (t c) λx=>match x with|true=>a c|false=>b c
def aP(e:EF):SF:=λa=>ø a (e a) λw=>.r w
def Rj(e:EF):SF:=λa=>ø a (e a) λ_=>.n a
def zt(i:Nat)(e:EF):SF:=λa=>match a[i]? with|some (.w ws)=>ø a (e a) λw=>if ws.length<lim then .n (a.set i<|.w<|ws++[w])else .b|_=>.b
def zr(i:Nat)(t:SF):SF:=λa=>t<|î i a
noncomputable def forL(g:GF)(b:SF):List W->Ws->Out|[],Z=>.n Z|x::xs,Z=>ø Z (g x Z) λa=>match b a with|.n é=>forL g b xs é|.ct é=>forL g b xs é|.bk é=>.n é|o=>o
def kq(it:LF)(g:GF)(b:SF):SF:=λa=>ø a (it a) λc=>forL g b c a
noncomputable def gc(c:TF)(b:SF):Nat->Ws->Out|0,_=>.b|n+1,Z=>ø Z (c Z) λx=>match x with
 |true=>match b Z with|.n é=>gc c b n é|.ct é=>gc c b n é|.bk é=>.n é|o=>o
 |false=>.n Z
def Aw(n:Ws->Nat)(c:TF)(b:SF):SF:=λa=>gc c b (n a) a
noncomputable def rY:List String:=["FloorError","NotEven","NoCall","NoName","NoProgram","TooMany","NoPairs","NoRow","Blind","Out","Meet","Broken"]
noncomputable def mw(nm d:String):Bool:=nm==d||d=="FloorError"
noncomputable def fieldsOf(nm:String):List Str:=if nm=="Blind"then["who"]else if nm=="Out"then["who"]else if nm=="Meet"then["one","other"]else if nm=="Broken"then["at","why"]else[]
def cF(d:String):W->Bool|.e nm _=>mw nm d|_=>O
noncomputable def jY:SF:=λ_=>.b
noncomputable def Wt:List W->Bool|[.str x]=>decide (x.length<=5000)|_=>O
def Zv(nm:String)(a:AF):SF:=λb=>ø b (a b) λws=>if Wt ws=U then .x (.e nm []) b else .b
def bc(f:List W->Res W)(a:AF):EF:=λb=>(a b).bind f
def hOut(d:String)(h:SF)(c:W)(Z:Ws):Out:=if cF d c then match h Z with|.x _ _=>.b|o=>o else .b
def Ge(b:SF)(d:String)(h:SF):SF:=λa=>match b a with|.x c Ô=>hOut d h c Ô|o=>o
def n8(d:String)(i:Nat)(h:SF)(c:W)(Z:Ws):Out:=if cF d c then match h (Z.set i<|.v c)with|.n é=>.n<|é.set i .o|.r w=>.r w|_=>.b else .b
def tF(b:SF)(d:String)(i:Nat)(h:SF):SF:=λa=>match b a with|.x c Ô=>n8 d i h c Ô|o=>o
noncomputable def hJ(c:String):List Str:=if c=="Book"then["calls"]else if c=="Search"then["goal","most","rows","seen"]else if c=="PairedFloor"then["floor","pairs","middles"]else if c=="Run"then["book","floors"]else if c=="Desk"then["texts","book","floor","past"]else[]
noncomputable def run(n:Nat)(t:SF)(ws:List W):Res W:=match t (ws.map .v++List.replicate (n-ws.length) .o)with|.r w=>.ok w|.n _=>.ok .n|.x c _=>.x c|_=>.b
def Sa:List W->Res W|[.e nm _,.cls d]=>.ok<|.B<|mw nm d|[.e _ _,.ty "ValueError"]=>.ok<|.B U|_=>.b
noncomputable def ic:W->Bool|.int i=>decide (i.natAbs.log2<100)|_=>O
def jt(nm:String)(a:AF):SF:=λb=>ø b (a b) λws=>if ws.length=(fieldsOf nm).length/\ws.all ic=U then .x (.e nm ws) b else .b
def Uy(f:Str):W->Res W
|.e nm fs=>match((fieldsOf nm).zip fs).lookup f with|some w=>.ok w|none=>.b
|_=>.b
def ϲ(a:EF)(f:Str):EF:=λb=>(a b).bind<|Uy f
noncomputable def vm(Z:Ws):Ws:=Z.map λs=>match s with|.w _=>.o|.od _ _=>.o|s=>s
def YP(k:Nat)(it:LF)(g:GF)(t:TF)(e:EF):LF:=λa=>(it a).bind λb=>if b.length<=lim then bJ g t e (List.replicate k .o++vm a) b else .b
def l1(k:Nat)(it:LF)(g:GF)(t:TF)(e:EF):EF:=λa=>(YP k it g t e a).bind λb=>.ok<|.l b
def Vk(e:EF):EF:=λa=>(e a).bind λx=>match x with|.int j=>if 0<=j/\j<=1000 then .ok (.l<|û 0 j.toNat)else .b|_=>.b
end WL
namespace SF
open PySem PySem.Builtin PySem.Builtin.Str PySem.StrLaws
noncomputable def ml(sub:List Nat)(k:Nat):Nat->Nat->List Nat->List Nat|_,_,[]=>[]|i,free,c::l=>if Nat.ble free i&&sub.isPrefixOf (c::l)then i::ml sub k (i+1) (i+k) l else ml sub k (i+1) free l
noncomputable def Uc(xs:List Nat)(k:Nat):Nat->List Nat->List Str|st,[]=>[⟨(xs.drop st).toArray⟩]|st,c::cs=>⟨((xs.drop st).take<|c-st).toArray⟩::Uc xs k (c+k) cs
def FU(x y:Str)(i:Nat)(hy:y.length≠0):i+y.length<=x.length/\subAt x y i=U↔y.cps.toList.isPrefixOf (x.cps.toList.drop i)=U:=by
 obtain⟨d⟩:=x;obtain⟨e⟩:=y;simp only[Str.length]at hy⊢;unfold subAt;simp only[Str.length,Μ];rw[Fm,List.prefix_iff_eq_take,<-Vf,Tr];simp only[Qf,Bs];constructor;.rintro⟨c,b⟩;rw[<-b];simp[Kq];try omega
 .intro h;have a:=ê List.length h;simp at a;refine⟨by omega,?_⟩;rw[Kq];rw[h];simp;try omega
theorem Ov(x y:Str)(hy:y.length≠0):∀(m i free:Nat)(a:Array Nat),i+m=x.length+1->a.size<=i->(forIn (List.range' i m) (a,free)<|occBody x y x.length<|x.length+1).run.fst.toList=a.toList++ml y.cps.toList y.length i free (x.cps.toList.drop i)
|0,i,free,a,hm,ha=>by
  have:x.cps.toList.drop i=[]:=by rw[Sr];exact ñ (Vh _)<|Dl hm.symm
  rw[this];simp[ml]|m+1,i,free,a,hm,ha=>by
  have k:=FU x y i hy;rw[List.range'_succ,List.forIn_cons];have h:a.size<x.length+1:=hm▸Nat.lt_of_le_of_lt ha (Nat.lt_add_of_pos_right<|Nat.succ_pos m);have d:=(Nat.succ_add_eq_add_succ i m).trans hm;by_cases c:free<=i/\y.cps.toList.isPrefixOf (x.cps.toList.drop i)=U
  .have j:=k.mpr c.2;have g:occBody x y x.length (x.length+1) i (a,free)=pure (ForInStep.yield (a.push i,i+y.length)):=by unfold occBody;rw[Ð ⟨⟨⟨h,c.1⟩,j.1⟩,j.2⟩]
   rw[g];have b:i<x.cps.toList.length:=Ē (Nat.lt_add_of_pos_right<|Nat.pos_of_ne_zero hy) j.1;have f:=Ov x y hy m (i+1) (i+y.length) (a.push i) d (by rw[Array.size_push];exact Nat.succ_le_succ ha);have e:x.cps.toList.drop i=x.cps.toList[i]::x.cps.toList.drop (i+1):=Pc b;rw[e]at c⊢;simp only[ml,c.2,Ma.mpr c.1,Bool.and_self,ϭ];refine Eq.trans f ?_;simp
  .have g:occBody x y x.length (x.length+1) i (a,free)=pure (ForInStep.yield (a,free)):=by unfold occBody;rw[Õ];rintro⟨⟨⟨_,n⟩,o⟩,p⟩;exact c ⟨n,k.mp ⟨o,p⟩⟩
   rw[g];have f:=Ov x y hy m (i+1) free a d<|Gq ha;refine Eq.trans f ?_;by_cases b:i<x.cps.toList.length
   .have e:x.cps.toList.drop i=x.cps.toList[i]::x.cps.toList.drop (i+1):=Pc b;rw[e]at c⊢;have:(Nat.ble free i&&y.cps.toList.isPrefixOf (x.cps.toList[i]::x.cps.toList.drop (i+1)))=O:=by rw[Ml];intro z;rw[ł,Ma]at z;exact c z
    simp only[ml,this,Of,Ib]
   .have q:x.cps.toList.drop i=[]:=Sr.mpr<|Yp b;have l:x.cps.toList.drop (i+1)=[]:=Sr.mpr<|Gq<|Yp b;rw[q,l];simp[ml]
def yc(x y:Str)(hy:y.length≠0):occurrences x y 0 x.length (x.length+1)=ml y.cps.toList y.length 0 0 x.cps.toList:=by rw[StrLaws.occ_eq];have:=Ov x y hy (x.length+1) 0 0 #[] (Nat.zero_add _) (í _);simpa using this
theorem x8(x:Str)(k:Nat):∀(cs:List Nat)(st:Nat),((st::cs.map (.+k)).zip<|cs++[x.length]).map (λ(p:Nat×Nat)=>strSub x p.1 p.2)=Uc x.cps.toList k st cs|[],st=>by simp only[List.map_nil,Ki,Jr,List.zip_nil_right,ņ,Uc,List.zip_nil_left];congr 1;unfold strSub;congr 1;apply Vf.mp;rw[Tr];simp[Bs,Str.length,List.take_of_length_le]|c::cs,st=>by have a:=x8 x k cs<|c+k;simp only[ņ,Kb,Jr,Uc];rw[<-a];congr 1;unfold strSub;congr 1;apply Vf.mp;rw[Tr,Bs];first|rfl|(rw[Kq];done)|skip
def lK(x y:Str):List Str:=match ml y.cps.toList y.length 0 0 x.cps.toList with|[]=>[x]|c::cs=>Uc x.cps.toList y.length 0 (c::cs)
def zj(x y:Str)(hy:y.length≠0)(hk:strKind y=1):Txt.split x y=lK x y:=by
 unfold Txt.split lK;rw[yc x y hy];have a:decide (strKind x<strKind y)=O:=by
  rw[hk];unfold PySem.Builtin.Str.strKind;split;.rfl
  .split<;>rfl
 rw[a];cases e:ml y.cps.toList y.length 0 0 x.cps.toList with|nil=>simp|cons c cs=>
  have d:¬x.length<y.length:=λz=>by have b:=yc x y hy;rw[e]at b;have:=occ_spec x y 0 x.length (x.length+1) c (by rw[b];simp);omega
  simp only[Ũ d,Bool.or_self,Of,Ib,Fq];exact x8 x y.length (c::cs) 0
noncomputable def nY(a:List Nat):List Str->List Nat|[]=>[]|[x]=>x.cps.toList|x::y::r=>x.cps.toList++(a++nY a (y::r))
theorem jy(b:Str):∀(r:List Str)(a:Array Nat),(r.foldl (λa p=>a++b.cps++p.cps) a).toList=a.toList++match r with|[]=>[]|_=>b.cps.toList++nY b.cps.toList r
|[],a=>by simp|[x],a=>by simp[nY]|x::y::r,a=>by have:=jy b (y::r)<|a++b.cps++x.cps;rw[List.foldl_cons,this];simp[nY]
def Z4(a:Str)(ys:List Str):Txt.join a ys=⟨(nY a.cps.toList ys).toArray⟩:=by unfold Txt.join glued;congr 1;apply Vf.mp;cases ys with|nil=>simp[nY,Str.empty]|cons x r=>have:=jy a r x.cps;simp only[List.drop_succ_cons,Yd,List.headD_cons];rw[this];cases r with|nil|cons y r=>simp[nY]
end SF
namespace WL
def Ua:W->W->Res W|.str x,.str y=>if x.length+y.length<=lim then .ok (.str<|x++y)else .b|_,_=>.b
def gq:W->List W->Res W|.str x,[.str y]=>if y.length≠0/\Builtin.Str.strKind y=1/\x.length<=lim then .ok (.l<|(SF.lK x y).map .str)else .b|_,_=>.b
noncomputable def jw:W->List W->Res W|.str x,[.str y]=>.ok<|.B<|Txt.startswith x y|_,_=>.b
def ur:W->List W->Res W|.str x,[.str y]=>if y.length≠0/\x.length<=lim then .ok (.t [.str (Txt.partition x y).1,.str (Txt.partition x y).2.1,.str (Txt.partition x y).2.2])else .b|_,_=>.b
noncomputable def strsOf:List W->Option (List Str)|[]=>L []|.str x::r=>(strsOf r).map (x::.)|_=>Y
def uu:W->List W->Res W
|.str x,[.l ws]=>match strsOf ws with|some ys=>if(ys.map (·.length)).sum+ys.length*x.length<=lim then .ok (.str ⟨(SF.nY x.cps.toList ys).toArray⟩)else .b|none=>.b
|_,_=>.b
def v7:W->W->Res W|.str x,.int i=>if 0<=i/\x.length<=lim then .ok (.str<|Txt.slice x (L i) Y)else .b|_,_=>.b
noncomputable def Wb(lo st:Int)(n:Nat):List W:=(List.range n).map λi=>.int<|lo+(i:Nat)*st
def zY(a b:EF):LF:=λc=>(a c).bind λx=>(b c).bind λy=>match x,y with|.int i,.int j=>if -2^60<=i/\i<2^60/\-2^60<=j/\j<2^60 then .ok (Wb i 2 ((j-i+1)/2).toNat)else .b|_,_=>.b
noncomputable def Ft:W->Res W|.int i=>if i.natAbs<1000 then .ok (.int i)else .b|_=>.b
noncomputable def Fc:List W->Option Nat|[]=>L 3|.int i::r=>if i.natAbs<1000 then(Fc r).map (.+12)else Y|_=>Y
def Bf(ws:List W):Bool:=hI 51 ws&&match Fc ws with|some n=>decide (n<=80000)|none=>O
def Ht:W->Res W|.l ws=>if Bf ws=U then .ok (.l ws)else .b|_=>.b
def Jc(e:EF):EF:=λa=>(e a).bind Ft
def Wk(e:EF):EF:=λa=>(e a).bind Ht
def gJ(nm:String)(a:AF):SF:=λb=>ø b (a b) λ_=>.x (.e nm []) b
noncomputable def Ah:List W->Res W|[.int i]=>if i.natAbs.log2<1920 then .ok (.str<|toString i)else .b|[.str x]=>.ok<|.str x|_=>.b
def QK:W->Res Bool|.str y=>if y.length<=lim then .ok !y.length==0 else .b|_=>.b
def tS(e:EF):TF:=λa=>(e a).bind QK
noncomputable def ϳ:W->Bool|.str _=>U|.int _=>U|.n=>U|_=>O
noncomputable def zV:W->W->Bool|.str x,.str y=>x==y|.int i,.int j=>i==j|.n,.n=>U|_,_=>O
def Bg(k:W)(ks:List W):Bool:=ks.any λx=>zV x k
noncomputable def Io(k v:W):List W->List W->List W|k'::ks,v'::vs=>(if zV k' k then v else v')::Io k v ks vs|_,_=>[]
noncomputable def LB(i:Nat):SF:=λa=>.n<|a.set i<|.od [] []
def putK(ks:List W)(k:W):List W:=if Bg k ks then ks else ks++[k]
def Jn(ks us:List W)(k v:W):List W:=if Bg k ks then Io k v ks us else us++[v]
def putD(i:Nat)(ks us:List W)(k v:W)(Z:Ws):Out:=if ϳ k=U/\ks.length<lim then .n (Z.set i<|.od (putK ks k)<|Jn ks us k v)else .b
def jX(i:Nat)(b c:EF):SF:=λa=>match a[i]? with|some (.od ks us)=>ø a (b a) λv=>ø a (c a) λk=>putD i ks us k v a|_=>.b
noncomputable def Dg(i:Nat):LF:=λa=>match a[i]? with|some (.v<|.ġ ks _)=>.ok ks|_=>.b
def Yg:List W->Res W|[.str x]=>if x.length<=lim then .ok (.int x.length)else .b|[.ġ ks _]=>.ok<|.int ks.length|ws=>eT ws
def Yi(x y:W):Res W:=match x,y with|.str a,.str b=>.ok<|.B !(Builtin.Str.occurrences b a 0 b.length 1).isEmpty|_,.str _=>.b|x,y=>ı x y
noncomputable def signs(x:Str):List W:=x.cps.toList.map λc=>.str ⟨#[c]⟩
def Wy(e:EF):LF:=λa=>(e a).bind λw=>match w with|.str x=>if x.cps.all (.<128)=U then .ok (signs x)else .b|_=>.b
def Va(tv:EF):EF:=λa=>tv<|vm<|a.take 3
def Nj(tv:EF):SF:=kq (Dg 1) (ax 2)<|jX 3 (Va tv)<|dA 2
noncomputable def Ds:Out->Res W
|.n Z=>match(Z[3]?:Option Sl)with|some (.od ks us)=>.ok<|.ġ ks us|_=>.b
|.x c _=>.x c|_=>.b
noncomputable def ť(Z:Ws):Ws:=Z.map λs=>match s with|.v w=>.v w|_=>.o
def Dt(tv:EF)(Z:Ws):Res W:=match(Z[0]?:Option Sl)with|some .ob=>if Z.length=3 then Ds (Nj tv<|ť Z++[.od [] []])else .b|_=>.b
def Jy(b a:SF)(tv:EF):List W->Res W
|[w]=>match aw b a [.ob,.v w,.o]with|.n Z=>Dt tv Z|.x c _=>.x c|_=>.b
|_=>.b
def uU(c:String)(f:List W->Res W)(a:AF):EF:=λd=>(a d).bind λws=>(f ws).bind λb=>.ok<|.i c [b]
noncomputable def Sy(c:String):W->Res W|.i c' [w]=>if c'==c then .ok w else .b|_=>.b
def Mj(c:String)(e:EF):EF:=λa=>(e a).bind<|Sy c
noncomputable def Hf(c:String):W->Bool|.i c' [_]=>c'==c|_=>O
def cQ(c:String)(f:List W->Res W)(o:EF)(a:AF):EF:=λb=>(o b).bind λx=>if Hf c x then(a b).bind λws=>f (x::ws)else .b
def nK(x y:W):Res W:=match y with|.ġ ks _=>if ϳ x=U then .ok (.B !Bg x ks)else .b|_=>g7 x y
noncomputable def Bh(k:W):List W->List W->Option W|k'::ks,v::vs=>if zV k' k then L v else Bh k ks vs|_,_=>Y
def Hg(x y:W):Res W:=match x with|.ġ ks us=>if ϳ y=U then Ζ (Bh y ks us)else .b|_=>Ą x y
noncomputable def Œ(a b:Str):Bool:=!ltCps b.cps.toList a.cps.toList
def zl(l:List Str):List Str:=l.mergeSort Œ
def PB:List W->Res W
|[.l ws]=>match strsOf ws with|some ss=>if ss.length<64 then .ok (.l<|(zl ss).map .str)else .b|none=>.b
|_=>.b
def rK(a b:Str):Œ a b=U↔a.cps.toList<=b.cps.toList:=by unfold Œ;rw[ltCps_eq];simp[List.not_lt]
def nR(a b c:Str)(d:Œ a b=U)(e:Œ b c=U):Œ a c=U:=by rw[rK]at *;exact List.le_trans d e
def ux(a b:Str):(Œ a b||Œ b a)=U:=by rw[Yl,rK,rK];exact List.le_total _ _
def WY{a b:Str}(c:Œ a b=U)(d:Œ b a=U):a=b:=by rw[rK]at *;have:=List.le_antisymm c d;cases a;cases b;congr 1;exact Vf.mp this
theorem qP:∀(r:List Str)(x:Str),risingS x r=U->∀y∈r,Œ x y=U
|[],_,_,_,a=>nomatch a|z::r,x,h,y,a=>by
 have b:(Œ x z&&risingS z r)=U:=h;rw[ł]at b;rcases Ę.mp a with rfl|a;.exact b.1
 .exact nR _ _ _ b.1 (qP r z b.2 y a)
def tN:∀(r:List Str)(x:Str),risingS x r=U->sortedS r=U|[],_,_=>rfl|z::r,x,h=>by have a:(Œ x z&&risingS z r)=U:=h;rw[ł]at a;exact a.2
theorem m7:∀(b a:List Str),sortedS b=U->sortedS a=U->b.Perm a->b=a
|[],a,_,_,p=>by simpa using p|x::r1,[],_,_,p=>by simpa using p|x::r1,y::r2,h1,h2,p=>by
  have a1:=qP r1 x h1;have a2:=qP r2 y h2;have e:x=y:=by
   rcases Ę.mp (p.mem_iff.mp (ę ..):x∈y::r2)with z|z;.exact z
   .rcases Ę.mp (p.mem_iff.mpr (ę ..):y∈x::r1)with w|w;.exact w.symm
    .exact WY (a1 y w) (a2 x z)
  subst e;rw[m7 r1 r2 (tN r1 x h1) (tN r2 x h2) (List.Perm.cons_inv p)]
def zk(l:List Str):(zl l).Perm l:=List.mergeSort_perm l Œ
def tq(l:List Str):sortedS (zl l)=U:=by refine sortedS_of_pairwise _ ?_;have:=List.pairwise_mergeSort (le:=Œ) nR ux l;refine this.imp λ{a b}h=>?_;unfold Œ at h;simpa using h
def pR{l a:List Str}(p:a.Perm l)(h:sortedS a=U):a=zl l:=m7 _ _ h (tq l)<|p.trans (zk l).symm
def DP:List W->Res W|[.ġ ks _]=>PB [.l ks]|ws=>PB ws
def Es(l:LF):Out->Res W|.n Z=>(l Z).bind λa=>.ok<|.l a|.x c _=>.x c|_=>.b
def Cd(n:Nat)(t:SF)(l:LF):List W->Res W:=λws=>Es l<|t<|ws.map .v++List.replicate (n-ws.length) .o
noncomputable def Cs:W->Res (List W)|.l xs=>.ok xs|_=>.b
def yq(e:EF):LF:=λa=>(e a).bind λx=>match x with|.ġ _ _=>(DP [x]).bind Cs|_=>.b
noncomputable def zK:W->W->Res W|.int i,.int j=>.ok<|.int<|i+j|_,_=>.b
noncomputable def PK:W->Res Bool|.l xs=>.ok !xs.isEmpty|_=>.b
def tL(e:EF):TF:=λa=>(e a).bind PK
inductive OX(S:Type)where|n(Z:Ws)(s:S)|bk(Z:Ws)(s:S)|ct(Z:Ws)(s:S)|r(w:W)(s:S)|x(c:W)(Z:Ws)|b
abbrev RF(S:Type):=Ws->S->OX S
variable{S:Type}
noncomputable def qt(t:SF):RF S:=λa s=>match t a with|.n Ô=>.n Ô s|.bk Ô=>.bk Ô s|.ct Ô=>.ct Ô s|.r w=>.r w s|.x c Ô=>.x c Ô|.b=>.b
noncomputable def vu(a b:RF S):RF S:=λc s=>match a c s with|.n Ô s'=>b Ô s'|o=>o
noncomputable def qM(adr:S->Nat)(val:S->W)(j:Nat)(Z:Ws)(s:S):Option Ws:=match Z[j]? with|some (.v<|.id b)=>if b=adr s then L (Z.set j<|.v<|val s)else Y|_=>Y
def xT(adr:S->Nat)(val:S->W)(j:Nat)(t:TF)(Z:Ws)(s:S):Res Bool:=match qM adr val j Z s with|some Ô=>t Ô|none=>.b
noncomputable def Iz(r:Res Bool)(a b:OX S):OX S:=match r with|.ok U=>a|.ok O=>b|_=>.b
def ϻ(t:Ws->S->Res Bool)(a b:RF S):RF S:=λc s=>Iz (t c s) (a c s)<|b c s
noncomputable def kv(k:Nat)(b:RF S):List W->Ws->S->OX S|[],Z,s=>.n Z s|x::xs,Z,s=>match b (Z.set k<|.v x) s with|.n é s2=>kv k b xs é s2|.ct é s2=>kv k b xs é s2|.bk é s2=>.n é s2|o=>o
def Qg(adr:S->Nat)(val:S->W)(j i:Nat)(e:EF):RF S:=λa s=>match qM adr val j a s with
|some Ô=>match e Ô with|.ok w=>if plain w=U then .n (a.set i<|.v w) s else .b|_=>.b
|none=>.b
noncomputable def runM(n:Nat)(t:RF S):List W->S->OX S:=λws s=>t (ws.map .v++List.replicate (n-ws.length) .o) s
noncomputable def ofM(Z:Ws):OX S->OX S|.n _ s'=>.n Z s'|.r _ s'=>.n Z s'|.x c _=>.x c Z|_=>.b
noncomputable def Ta(c:String)(n:Nat):W->Res W|.i c' ws=>if c'==c then match ws[n]? with|some w=>.ok w|none=>.b else .b|_=>.b
def dC(c:String)(n:Nat)(e:EF):EF:=λa=>(e a).bind<|Ta c n
noncomputable def Ϝ(c:String):W->Bool|.i c' _=>c'==c|_=>O
def g9(c:String)(d:List W->Res W)(o:EF)(a:AF):EF:=λb=>(o b).bind λy=>if Ϝ c y=U then(a b).bind λws=>d (y::ws)else .b
structure Rn where
 a:Nat
 r:Nat
 book:W
 ė:List W
def Rn.val(s:Rn):W:=.i "Run" [s.book,.l s.ė]
def Rn.Le(s:Rn):W:=.i "Run" [s.book,.id s.r]
noncomputable def Ek:List W->Bool|.t _::_=>U|_=>O
noncomputable def isInt:W->Bool|.int _=>U|_=>O
def Yn:W->Bool|.l ws=>ws.all isInt|_=>O
variable{S:Type}
def vt(adr:S->Nat)(val:S->W)(j i:Nat)(e:EF):RF S:=λa s=>match qM adr val j a s with
|some Ô=>match e Ô with|.ok w=>.n (a.set i<|.v w) s|_=>.b
|none=>.b
def sF(it:LF)(k:Nat)(b:RF S):RF S:=λa s=>match it a with|.ok xs=>kv k b xs a s|_=>.b
abbrev Xa(S:Type):=Ws->S->Res (List W)
noncomputable def La:Xa S:=λ_ _=>.ok []
def Ĺ(e:EF)(a:Xa S):Xa S:=λb s=>(e b).bind λx=>(a b s).bind λc=>.ok (x::c)
def Lf(j:Nat)(e:EF)(a:Xa Rn):Xa Rn:=λb s=>match qM Rn.a Rn.val j b s with
|some Ô=>match e Ô with|.ok w=>if Yn w=U/\Ek s.ė=U then(a b s).bind λc=>.ok (w::c)else .b|_=>.b
|none=>.b
def cT(j:Nat)(d:List W->Rn->OX Rn)(a:Xa Rn):RF Rn:=λc s=>match c[j]? with|some (.v<|.id b)=>if b=s.a then match a c s with|.ok ws=>ofM c<|d (.id b::ws) s|_=>.b else .b|_=>.b
noncomputable def Pk(cs:List String):W->Bool|.e nm _=>cs.contains nm|_=>O
def yZ(cs:List String)(ci:Nat)(e:EF):RF Rn:=λa s=>match qM Rn.a Rn.val 0 a s with
|some Ô=>(match e Ô with
 |.ok w=>if plain w=U/\s.ė.length<lim then .n a {s with ė:=s.ė++[w]}else .b|.x c=>match a[ci]? with|some (.v w)=>if ic w=U/\Pk cs c=U then .x (.e "Broken" [w,c]) (List.replicate a.length .o)else .b|_=>.b
 |.b=>.b)|none=>.b
def Vj(j:Nat)(e:EF):RF Rn:=λa s=>match qM Rn.a Rn.val j a s with
|some Ô=>match e Ô with|.ok w=>.r w s|_=>.b
|none=>.b
def Dv(t:RF Rn)(Z:Ws)(j:Nat)(d b:W)(o:Res W):Prop:=∀a r:Nat,match t (Z.set j<|.v<|.id a) ⟨a,r,d,[b]⟩with|.r w _=>o=.ok w|.x c Ô=>o=.x c/\Ô.length=Z.length|_=>False
noncomputable def js(j:Nat)(b:AF)(t:RF Rn):SF:=λa=>match b a with|.ok [wb,wf]=>@dite _ (∃o:Res W,Dv t a j wb wf o) (Classical.propDecidable _) (λh=>match Classical.choose h with|.ok w=>.r w|.x c=>.x c<|List.replicate a.length .o|.b=>.b) λ_=>.b|_=>.b
def Ky(c:String)(g h:List W->Res W):List W->Res W
|[w]=>(g [w]).bind λp=>match h [w,p]with|.ok m=>.ok<|.i c [w,p,m]|_=>.b
|_=>.b
def qm(c:String)(f:List W->Res W)(a:AF):EF:=λb=>(a b).bind λws=>(f ws).bind λy=>if Ϝ c y=U then .ok y else .b
end WL
namespace WL
def Jg(i:Nat)(e:EF):SF:=λa=>match a[i]? with
|some (.w ws)=>ø a (e a) λw=>match w with|.l zs=>if ws.length+zs.length<=lim then .n (a.set i<|.w<|ws++zs)else .b|_=>.b
|_=>.b
open PySem.W(KasT kas_sort)
noncomputable def Ef:List W->Option (List<|Int×Int)|[]=>L []|.t [.int a,.int b]::ws=>(Ef ws).map ((a,b)::.)|_=>Y
noncomputable def ϫ(p q:Int×Int):Bool:=if p.1==q.1 then decide (p.2<q.2)else decide (p.1<q.1)
noncomputable def Ψ(n:Nat):KasT (Array Nat)->Bool|.ret p=>p.size==n|.ask i j k=>decide (i<n)&&decide (j<n)&&Ψ n (k U)&&Ψ n (k O)
noncomputable def Fe(c:Nat->Nat->Bool):KasT (Array Nat)->Array Nat|.ret p=>p|.ask i j k=>Fe c<|k<|c i j
def Od(ps:List (Int×Int)):List Nat:=(Fe (λi j=>ϫ (ps.getD i (0,0))<|ps.getD j (0,0))<|kas_sort ps.length).toList
def oJ:List W->Res W
|[.l ws]=>match Ef ws with|some ps=>if(decide (2<=ps.length)&&decide (ps.length<64)&&Ψ ps.length (kas_sort ps.length))=U then .ok (.l<|(Od ps).map λi=>ws.getD i .n)else .b|none=>.b
|_=>.b
end WL
namespace WL
def Ry(ci:Nat)(c:W)(Z:Ws):Out:=match c with|.e nm [.int n,w]=>if nm="Broken"then match Z[ci]? with|some (.v<|.int m)=>if ic (.int<|m+n)=U then .x (.e "Broken" [.int<|m+n,w]) (List.replicate Z.length .o)else .b|_=>.b else .b|.e nm []=>if mw nm "Broken"=O then .x (.e nm []) Z else .b|_=>.b
def lO(tb:SF)(ci:Nat):SF:=λa=>match tb a with|.x c Ô=>Ry ci c Ô|o=>o
noncomputable def Eg(x:Str):List Str->List Str|[]=>[x]|y::r=>if Œ x y=U then x::y::r else y::Eg x r
noncomputable def uI:List Str->List Str|[]=>[]|x::r=>Eg x<|uI r
theorem n5(x:Str):∀l,(Eg x l).Perm (x::l)
|[]=>.refl _|y::r=>by
 unfold Eg;split;.exact .refl _
 .exact(List.Perm.cons y<|n5 x r).trans (List.Perm.swap x y r)
theorem MG(x:Str):∀l,l.Pairwise (λa b=>Œ a b=U)->(Eg x l).Pairwise λa b=>Œ a b=U
|[],_=>List.pairwise_singleton ..|y::r,h=>by
 have f:=Ir.mp h;unfold Eg;split;.rename_i d;exact Ir.mpr ⟨λz c=>(Ę.mp c).elim (λe=>e▸d) λc=>nR _ _ _ d<|f.1 z c,h⟩
 .rename_i d;have t:=ux x y;rw[Yl]at t;exact Ir.mpr ⟨λz c=>(Ę.mp<|(n5 x r).mem_iff.mp c).elim (λe=>e▸t.resolve_left d)<|f.1 z,MG x r f.2⟩
theorem qf:∀l,(uI l).Perm l|[]=>.refl _|x::r=>(n5 x _).trans<|List.Perm.cons x<|qf r
theorem yx:∀l,(uI l).Pairwise λa b=>Œ a b=U|[]=>.nil|x::r=>MG x _<|yx r
def K0(l:List Str):uI l=zl l:=pR (qf l) (sortedS_of_pairwise _<|(yx l).imp λ{a b}h=>by unfold Œ at h;simpa using h)
def yp(e:EF):LF:=λa=>(e a).bind λx=>match x with
|.ġ ks _=>match strsOf ks with|some ss=>if ss.length<64 then .ok ((uI ss).map .str)else .b|none=>.b
|_=>.b
def P4:yp=yq:=by funext e Z;unfold yp yq;congr 1;funext x;cases x with
|ġ ks us=>show _=(match strsOf ks with|some ss=>if ss.length<64 then Res.ok (WL.W.l<|(zl ss).map WL.W.str)else .b|none=>.b).bind Cs;dsimp only;cases strsOf ks with|none=>rfl|some ss=>
  dsimp only;split;.rw[K0];rfl
  .rfl
|_=>rfl
abbrev eI(i:Int):EF:=eC<|.int i
abbrev eS(x:Str):EF:=eC<|.str x
noncomputable def Ms(xs:List Str):AF:=λ_=>.ok<|xs.map .str
abbrev É:=dA 0
abbrev Ï:=dA 1
abbrev Ø:=dA 2
abbrev Ý:=dA 3
abbrev õ:=dA 4
abbrev Ŋ:=dA 5
abbrev Ba:=dA 6
abbrev Φ:=dA 7
abbrev Aa:=dA 8
abbrev Xe:=dA 9
abbrev æ:=eI 0
abbrev Ù:=eI 1
abbrev ċ:=eI 2
abbrev eJ:=Ì Ą
abbrev eQ:=Ì oEq
def Kj(d:String)(i:Nat)(h:SF)(a:String)(b:SF)(c:W)(Z:Ws):Out:=if cF d c then n8 d i h c Z else hOut a b c Z
def ng(b:SF)(d:String)(i:Nat)(h:SF)(e:String)(f:SF):SF:=λa=>match b a with|.x c Ô=>Kj d i h e f c Ô|o=>o
end WL
namespace L2
def au.rd{H H'}(e:au H H'){a u}(q:Rd H a u):Rd H' a u:=q.imp (e _ _) λ⟨o,z⟩=>⟨o,e _ _ z⟩
end L2
open WL(Res Sl Ws EF TF AF LF GF Qe SF Out OX RF Rn Xa)
namespace WS
open L2
abbrev VW:=WL.W
def ExcAt(K:W.Frag)(nm:String)(C:Addr):Prop:=nm∈WL.rY/\ķ K nm C
mutual def RW(K:W.Frag)(H:Hp):VW->V->Prop|.n,v=>v=.n|.B b,v=>v=.B b|.int i,v=>v=.int i|.str x,v=>v=.str x|.ty n,v=>v=.ty n|.t ws,v=>∃a vs,v=.ref a/\ü K H a vs/\Ê K H ws vs|.l ws,v=>∃a vs,v=.ref a/\ÿ K H a vs/\Ê K H ws vs|.ġ ks vs,v=>∃a Ç,v=.ref a/\Rd H a (.dK Ç)/\Ê K H ks (Ç.map λp=>kV p.1)/\Ê K H vs (Ç.map λp=>p.2)|.cls d,v=>∃a,v=.ref a/\ExcAt K d a|.e nm fs,v=>∃a C dx,v=.ref a/\H a=L (.ext<|excAt a C dx)/\ExcAt K nm C/\∃ϒ:List (Str×V),ϒ.map (·.1)=WL.fieldsOf nm/\Ê K H fs (ϒ.map (·.2))/\(ϒ=[]/\dx.1=Y\/∃d,dx.1=L d/\H d=L (.xd ϒ))|.i c fs,v=>∃a C dx,∃ϒ:List (Str×V),v=.ref a/\H a=L (.i C dx ϒ)/\ķ K c C/\ϒ.map (·.1)=WL.hJ c/\ϒ≠[]/\Ê K H fs (ϒ.map (·.2))|.id a,v=>v=.ref a def Ê(K:W.Frag)(H:Hp):List VW->List V->Prop|[],vs=>vs=[]|w::ws,vs=>∃v r,vs=v::r/\RW K H w v/\Ê K H ws r end
section
variable{K:W.Frag}{H H':Hp}
mutual theorem RW.via(ht:∀a xs,ü K H a xs->ü K H' a xs)(hl:∀a xs,ÿ K H a xs->ÿ K H' a xs)(hd:∀a Ç,Rd H a (.dK Ç)->Rd H' a (.dK Ç))(he:∀a φ,H a=L (.ext φ)->H' a=L (.ext φ))(hx:∀a fs,H a=L (.xd fs)->H' a=L (.xd fs))(hi:∀a C dx fs,fs≠[]->H a=L (.i C dx fs)->H' a=L (.i C dx fs)):∀(w:VW)(v:V),RW K H w v->RW K H' w v|.n,_,h=>by simpa only[RW]using h|.B _,_,h=>by simpa only[RW]using h|.int _,_,h=>by simpa only[RW]using h|.str _,_,h=>by simpa only[RW]using h|.ty _,_,h=>by simpa only[RW]using h|.t ws,_,h=>by obtain⟨a,vs,e,q,r⟩:=h;exact⟨a,vs,e,ht a vs q,Ê.via ht hl hd he hx hi ws vs r⟩|.l ws,_,h=>by simp only[RW]at h⊢;obtain⟨a,vs,e,q,r⟩:=h;exact⟨a,vs,e,hl a vs q,Ê.via ht hl hd he hx hi ws vs r⟩|.ġ ks vs,_,h=>by simp only[RW]at h⊢;obtain⟨a,Ç,e,q,r1,r2⟩:=h;exact⟨a,Ç,e,hd a Ç q,Ê.via ht hl hd he hx hi ks _ r1,Ê.via ht hl hd he hx hi vs _ r2⟩|.cls _,_,h=>by simpa only[RW]using h|.id _,_,h=>by simpa only[RW]using h|.e nm fs,_,h=>by simp only[RW]at h⊢;obtain⟨a,C,dx,e,q,c,ϒ,f1,f2,f3⟩:=h;exact⟨a,C,dx,e,he _ _ q,c,ϒ,f1,Ê.via ht hl hd he hx hi fs _ f2,f3.imp (λz=>z) λ⟨d,z1,z2⟩=>⟨d,z1,hx _ _ z2⟩⟩|.i c fs,_,h=>by simp only[RW]at h⊢;obtain⟨a,C,dx,ϒ,e,q,c1,c2,c3,r⟩:=h;exact⟨a,C,dx,ϒ,e,hi _ _ _ _ c3 q,c1,c2,c3,Ê.via ht hl hd he hx hi fs _ r⟩theorem Ê.via(ht:∀a xs,ü K H a xs->ü K H' a xs)(hl:∀a xs,ÿ K H a xs->ÿ K H' a xs)(hd:∀a Ç,Rd H a (.dK Ç)->Rd H' a (.dK Ç))(he:∀a φ,H a=L (.ext φ)->H' a=L (.ext φ))(hx:∀a fs,H a=L (.xd fs)->H' a=L (.xd fs))(hi:∀a C dx fs,fs≠[]->H a=L (.i C dx fs)->H' a=L (.i C dx fs)):∀(ws:List VW)(vs:List V),Ê K H ws vs->Ê K H' ws vs|[],_,h=>by simpa only[Ê]using h|w::ws,_,h=>by simp only[Ê]at h⊢;obtain⟨v,r,e,q,t⟩:=h;exact⟨v,r,e,RW.via ht hl hd he hx hi w v q,Ê.via ht hl hd he hx hi ws r t⟩end
def RW.keep(e:au H H'){w v}(h:RW K H w v):RW K H' w v:=RW.via (λ_ _ q=>e.tup q) (λ_ _ q=>e.seq q) (λ_ _ q=>e.rd q) (λ_ _ q=>e _ _ q) (λ_ _ q=>e _ _ q) (λ_ _ _ _ _ q=>e _ _ q) w v h
def Ê.keep(e:au H H'){ws vs}(h:Ê K H ws vs):Ê K H' ws vs:=Ê.via (λ_ _ q=>e.tup q) (λ_ _ q=>e.seq q) (λ_ _ q=>e.rd q) (λ_ _ q=>e _ _ q) (λ_ _ q=>e _ _ q) (λ_ _ _ _ _ q=>e _ _ q) _ _ h
mutual theorem RW.less(ht:∀a xs,ü K H a xs->ü K H' a xs):∀(w:VW)(v:V),WL.plain w=U->RW K H w v->RW K H' w v|.n,_,_,h=>by simpa only[RW]using h|.B _,_,_,h=>by simpa only[RW]using h|.int _,_,_,h=>by simpa only[RW]using h|.str _,_,_,h=>by simpa only[RW]using h|.ty _,_,_,h=>by simpa only[RW]using h|.t ws,_,p,h=>by obtain⟨a,vs,e,q,r⟩:=h;exact⟨a,vs,e,ht a vs q,Ê.less ht ws vs (by assumption) r⟩|.l ws,_,p,_=>by cases p|.ġ _ _,_,p,_=>by cases p|.cls _,_,_,h=>by simpa only[RW]using h|.id _,_,_,h=>by simpa only[RW]using h|.e _ _,_,p,_=>by cases p|.i _ _,_,p,_=>by cases p theorem Ê.less(ht:∀a xs,ü K H a xs->ü K H' a xs):∀(ws:List VW)(vs:List V),WL.j0 ws=U->Ê K H ws vs->Ê K H' ws vs|[],_,_,h=>by simpa only[Ê]using h|w::ws,_,p,h=>by simp only[Ê]at h⊢;have p:=Sb.mp p;obtain⟨v,r,e,q,t⟩:=h;exact⟨v,r,e,RW.less ht w v p.1 q,Ê.less ht ws r p.2 t⟩end
theorem Ê.length:∀{ws vs},Ê K H ws vs->ws.length=vs.length|[],_,h=>by subst h;rfl|w::ws,_,h=>by obtain⟨v,r,rfl,_,t⟩:=h;simp [Ê.length t]
theorem Ê.get:∀{ws vs}{i:Nat}{w},Ê K H ws vs->ws[i]?=L w->∃v,vs[i]?=L v/\RW K H w v|[],_,_,_,_,e=>by simp at e|x::ws,_,0,w,h,e=>by obtain⟨v,r,rfl,q,_⟩:=h;simp at e;subst e;exact⟨v,M,q⟩|x::ws,_,i+1,w,h,e=>by obtain⟨v,r,rfl,_,t⟩:=h;obtain⟨u,a,b⟩:=Ê.get t (by simpa using e);exact⟨u,by simpa using a,b⟩
theorem Ê.app:∀{ws a vs b},Ê K H ws vs->Ê K H a b->Ê K H (ws++a) (vs++b)|[],_,_,_,h,h'=>by subst h;exact h'|w::ws,_,_,_,h,h'=>by obtain⟨v,r,rfl,q,t⟩:=h;exact⟨v,_,M,q,Ê.app t h'⟩
def Ê.one{w v}(h:RW K H w v):Ê K H [w] [v]:=by exact⟨v,[],M,h,M⟩
def Ê.cons{w v ws vs}(h:RW K H w v)(t:Ê K H ws vs):Ê K H (w::ws) (v::vs):=by exact⟨v,vs,M,h,t⟩
theorem Ê.drop:∀{ws vs}n,Ê K H ws vs->Ê K H (ws.drop n) (vs.drop n)|_,_,0,h=>by grind|[],_,n+1,h=>by subst h;simp[Ê]|w::ws,_,n+1,h=>by obtain⟨v,r,rfl,_,t⟩:=h;simpa using Ê.drop n t
theorem Ê.take:∀{ws vs}n,Ê K H ws vs->Ê K H (ws.take n) (vs.take n)|_,_,0,h=>rfl|[],_,n+1,h=>by subst h;simp[Ê]|w::ws,_,n+1,h=>by obtain⟨v,r,rfl,q,t⟩:=h;exact⟨v,_,M,q,Ê.take n t⟩
theorem Ê.set{w v}(hw:RW K H w v):∀{ws vs}n,Ê K H ws vs->Ê K H (ws.set n w) (vs.set n v)|[],_,n,h=>by simp only[Ê]at h;subst h;simp[Ê]|x::ws,_,0,h=>by obtain⟨u,r,rfl,q,t⟩:=h;exact⟨v,r,M,hw,t⟩|x::ws,_,n+1,h=>by simp only[Ê]at h;obtain⟨u,r,rfl,q,t⟩:=h;exact⟨u,_,M,q,Ê.set hw n t⟩
theorem Ê.cut{ws vs}(h:Ê K H ws vs)(lo hi):Ê K H (WL.cut ws lo hi) (Wg vs lo hi):=by unfold WL.cut Wg;rw[<-h.length];exact(h.drop _).take _
def Ê.ints(ns:List Int):Ê K H (ns.map .int) (ns.map V.int):=by induction ns with|nil=>simp[Ê]|cons n ns ih=>exact⟨_,_,M,M,ih⟩
end
def NF:HO->Prop|.î _ _=>False|.i _ _ []=>False|_=>True
structure Bx where
 K:W.Frag
 H0:Hp
 F0:Hp
 xp:VW->Ws->Hp->Prop
 mono:∀c Z F F',au F F'->xp c Z F->xp c Z F'
structure RB(B:Bx)(F H:Hp):Prop where
 sub:au F H
 base:au B.H0 H
 ģ:au B.F0 F
 fr:∀a o,F a=L o->B.F0 a=L o\/B.H0 a=Y/\NF o
def Iw:Sl->Prop|.od _ _=>True|.ob=>True|_=>False
structure OD(K:W.Frag)(H0:Hp)(Z:Ws)(Ö:L2.St)(F H:Hp):Prop where
 od:∀(i:Nat)(ks us:List VW),Z[i]?=L (.od ks us)->∃a Ç,Ö[i]?=L (L<|.ref a)/\F a=Y/\H0 a=Y/\H a=L (.dK Ç)/\Ê K F ks (Ç.map λp=>kV p.1)/\Ê K F us (Ç.map λp=>p.2)ad:∀(i j:Nat)(ks us ks' us':List VW)(a:Addr),i≠j->Z[i]?=L (.od ks us)->Z[j]?=L (.od ks' us')->Ö[i]?=L (L<|.ref a)->Ö[j]?=L (L<|.ref a)->False
 ob:∀i:Nat,Z[i]?=L .ob->∃a C dx,Ö[i]?=L (L<|.ref a)/\F a=L (.i C dx [])
def OD.via{K w x g Z b d c F o H H'}(R:OD K x Z d F H)(Å:w=K)(f:Nat->Nat)(A:∀i j,f i=f j->i=j\/∀ks us,b[i]?≠L (.od ks us))(h:∀i sl,Iw sl->b[i]?=L sl->Z[f i]?=L sl/\c[i]?=d[f i]?)(s:au F o)(n:∀i(ks us:List VW)a Ç,b[i]?=L (.od ks us)->d[f i]?=L (L<|.ref a)->H a=L (.dK Ç)->F a=Y->x a=Y->o a=Y/\g a=Y/\H' a=L (.dK Ç)):OD w g b c o H':=by
 subst Å;refine⟨λi ks us e=>?_,λi j ks us l k a q y P G Ã=>?_,λi e=>?_⟩;.obtain⟨p,u⟩:=h i (.od ks us) trivial e;refine Zc (R.od (f i) ks us p) λa Ç m v Q S N E=>?_;refine Yc (n i ks us a Ç e m S v Q) λD J B=>?_;exact Rg a Ç (u.trans m) D J B (N.keep s)<|E.keep s
 .obtain⟨t,v1⟩:=h i (.od ks us) trivial y;obtain⟨r,v2⟩:=h j (.od l k) trivial P;refine R.ad _ (f j) ks us l k a (λz=>?_) t r (v1.symm.trans G)<|v2.symm.trans Ã;rcases A i j z with z|z;.exact q z
  .exact z _ _ y
 .obtain⟨p,u⟩:=h i .ob trivial e;refine vq (R.ob (f i) p) λa C I m v=>?_;exact⟨a,C,I,u.trans m,s _ _ v⟩
structure RS(B:Bx)(Z:Ws)(Ö:L2.St)(F H:Hp):Prop where
 rb:RB B F H
 len:Z.length=Ö.length
 va:∀(i:Nat)(w:VW),Z[i]?=L (.v w)->∃v,Ö[i]?=L (L v)/\RW B.K F w v
 ow:∀(i:Nat)(ws:List VW),Z[i]?=L (.w ws)->∃a vs,Ö[i]?=L (L<|.ref a)/\F a=Y/\B.H0 a=Y/\H a=L (.l vs)/\Ê B.K F ws vs
 ap:∀(i j:Nat)(ws ws':List VW)(a:Addr),i≠j->Z[i]?=L (.w ws)->Z[j]?=L (.w ws')->Ö[i]?=L (L<|.ref a)->Ö[j]?=L (L<|.ref a)->False
 dd:OD B.K B.H0 Z Ö F H
def RS.Eu{B Z b F H c H'}(R:RS B Z b F H)(s:au F c)(n:∀a Ç,H a=L (.dK Ç)->F a=Y->c a=Y/\H' a=L (.dK Ç)):OD B.K B.H0 Z b c H':=R.dd.via M _ (λ_ _ z=>.inl z) (λ_ _ _ e=>⟨e,M⟩) s λ_ _ _ a Ç _ _ d f g=>⟨(n a _ d f).1,g,(n a _ d f).2⟩
def RS.Oi{B Z b F H c H'}(R:RS B Z b F H)(i){sl}(hs:¬Iw sl)(x)(s:au F c)(n:∀j(ks us:List VW)a Ç,i≠j->Z[j]?=L (.od ks us)->b[j]?=L (L<|.ref a)->H a=L (.dK Ç)->F a=Y->c a=Y/\H' a=L (.dK Ç)):OD B.K B.H0 (Z.set i sl) (b.set i x) c H':=by
 have d:∀{j:Nat}{s':Sl},Iw s'->(Z.set i sl)[j]?=L s'->i≠j:=λ{j s'}o e z=>by
  subst z;have q:i<Z.length:=by have:=(Ĵ.mp e).1;simpa using this
  rw[ĳ q]at e;exact hs<|ŧ e▸o
 refine R.dd.via M id (λ_ _ z=>.inl z) (λj ks us e=>?_) s λj ks us a Ç e k g p l=>?_;.have:=d us e;rw[ą this]at e;exact⟨e,by rw[ą this];rfl⟩
 .have f:=d (s':=.od ks us) trivial e;rw[ą f]at e;obtain⟨h,m⟩:=n j ks us a Ç f e k g p;exact⟨h,l,m⟩
def set_same{a:L2.St}{i x}(e:a[i]?=L x):a.set i x=a:=by
 apply List.ext_getElem?;intro j;by_cases b:i=j;.subst b;rw[ĳ (Ĵ.mp e).1,e]
 .rw[ą b]
structure Ext(F H F' H':Hp):Prop where
 same:au F F'
 rs:∀B Z Ö,RS B Z Ö F H->RS B Z Ö F' H'
 rb:∀B,RB B F H->RB B F' H'
 own:∀a o,H a=L o->H' a=L o/\(F a=Y->F' a=Y)
structure Gr(F H F' H':Hp):Prop where
 f:au F F'
 h:au H H'
 nf:∀a o,H a=L o->F a=Y->F' a=Y
theorem Gr.refl{F H}:Gr F H F H:=⟨au.refl _,au.refl _,λ_ _ _ z=>z⟩
theorem Gr.trans{F H c g f d}(a:Gr F H c g)(b:Gr c g f d):Gr F H f d:=⟨a.f.trans b.f,a.h.trans b.h,λx o e z=>b.nf x o (a.h x o e)<|a.nf x o e z⟩
def Ext.gr{F H b H'}(e:Ext F H b H'):Gr F H b H':=⟨e.same,λa o q=>(e.own a o q).1,λa o q=>(e.own a o q).2⟩
section
variable{B:Bx}{Z:Ws}{Ö:L2.St}{F H:Hp}
def Gr.new{p}(c:F p=Y)(b:H p=Y)(o):Gr F H (upd F p o) (upd H p o):=⟨ar c o,ar b o,λa u e z=>by rw[ag (aQ e b)];exact z⟩
theorem Ext.refl(F H):Ext F H F H:=⟨au.refl _,λ_ _ _ h=>h,λ_ h=>h,λ_ _ h=>⟨h,λz=>z⟩⟩
def RB.new(R:RB B F H){p}(d:H p=Y)(o)(f:NF o:=by trivial):RB B (upd F p o) (upd H p o):=by
 refine⟨λb u e=>?_,λb u e=>?_,R.ģ.trans<|ar (R.sub.free d) o,λa u e=>?_⟩
 .by_cases c:b=p;.subst c;rw[ai]at e⊢;exact e
  .rw[ag c]at e⊢;exact R.sub b u e
 .exact ar d o b u (R.base b u e)
 .by_cases c:a=p;.subst c;rw[ai]at e;cases e;exact .inr ⟨R.base.free d,f⟩
  .rw[ag c]at e;exact R.fr a u e
theorem RS.new(R:RS B Z Ö F H){p}(b:H p=Y)(o)(k:NF o:=by trivial):RS B Z Ö (upd F p o) (upd H p o):=by
 have f:=R.rb.sub.free b;refine⟨R.rb.new b o k,R.len,λi w e=>?_,λi ws e=>?_,R.ap,R.Eu (ar f o) λa r c j=>⟨by rw[ag (aQ c b)];exact j,by rw[ag (aQ c b)];exact c⟩⟩;.obtain⟨v,d,g⟩:=R.va i w e;exact⟨v,d,g.keep<|ar f o⟩
 .refine mv (R.ow i _ e) λa n d g l m q=>?_;have h:a≠p:=λz=>by grind
  exact Ϩ a n d (by rw[ag h];exact g) l (by rw[ag h];exact m)<|q.keep<|ar f o
theorem Ext.new{p}(f:F p=Y)(c:H p=Y)(o)(d:NF o:=by trivial):Ext F H (upd F p o) (upd H p o):=⟨ar f o,λ_ _ _ R=>R.new c o d,λ_ R=>R.new c o d,λa u e=>by
 have b:a≠p:=λz=>by grind
 exact⟨by rw[ag b];exact e,λz=>by rw[ag b];exact z⟩⟩
def RS.Xi(R:RS B Z Ö F H){p}(c:H p=Y)(o):RS B Z Ö F (upd H p o):=by exact⟨⟨λb u e=>ar c o b u<|R.rb.sub b u e,λb u e=>ar c o b u<|R.rb.base b u e,R.rb.ģ,R.rb.fr⟩,R.len,R.va,λi ws e=>mv (R.ow i _ e) λa k g n h j l=>⟨a,k,g,n,h,ar c o _ _ j,l⟩,R.ap,R.Eu (au.refl _) λa m d f=>⟨f,by rw[ag (aQ d c)];exact d⟩⟩
def RS.grow(R:RS B Z Ö F H){b H'}(g:Gr F H b H')(k:RB B b H'):RS B Z Ö b H':=by
 refine⟨k,R.len,λi w e=>?_,λi ws e=>?_,R.ap,R.Eu g.f λa o f j=>⟨g.nf a _ f j,g.h a _ f⟩⟩;.obtain⟨v,c,d⟩:=R.va i w e;exact⟨v,c,d.keep g.f⟩
 .exact mv (R.ow i _ e) λa m c d l h n=>⟨a,m,c,g.nf a _ h d,l,g.h a _ h,n.keep g.f⟩
theorem RS.set(R:RS B Z Ö F H){i w v}(hw:RW B.K F w v):RS B (Z.set i<|.v w) (Ö.set i<|some v) F H:=by
 have q:=R.len;refine⟨R.rb,by simp[q],λj u e=>?_,λj ws e=>?_,λj k ws g a h f d m l=>?_,R.Oi i (sl:=.v w) (λz=>z) _ (au.refl _) λ_ _ _ _ _ _ _ _ p o=>⟨o,p⟩⟩
 .by_cases c:i=j
  .subst c;have b:i<Z.length:=by have:=(Ĵ.mp e).1;simpa using this
   rw[ĳ b]at e;cases e;exact⟨v,ĳ (by omega),hw⟩
  .rw[ą c]at e⊢;exact R.va j u e
 .by_cases c:i=j
  .subst c;have b:i<Z.length:=by have:=(Ĵ.mp e).1;simpa using this
   rw[ĳ b]at e;cases e
  .rw[ą c]at e⊢;exact R.ow j ws e
 .have n:i≠j:=λz=>by
   subst z;have b:i<Z.length:=by have:=(Ĵ.mp f).1;simpa using this
   rw[ĳ b]at f;cases f
  have r:i≠k:=λz=>by
   subst z;have b:i<Z.length:=by have:=(Ĵ.mp d).1;simpa using this
   rw[ĳ b]at d;cases d
  rw[ą n]at f m;rw[ą r]at d l;exact R.ap j k ws g a h f d m l
def RS.IK(R:RS B Z Ö F H){i ws vs a}(x:F a=Y)(w:B.H0 a=Y)(r:H a=L (.l vs))(hw:Ê B.K F ws vs)(q:∀j(us:List VW),j≠i->Z[j]?=L (.w us)->Ö[j]?≠L (L<|.ref a)):RS B (Z.set i<|.w ws) (Ö.set i<|some<|.ref a) F H:=by
 have v:=R.len;have f:∀{j:Nat}{us:List VW},(Z.set i<|.w ws)[j]?=L (.w us)->i=j->us=ws/\(Ö.set i<|some<|V.ref a)[j]?=L (L<|.ref a):=λ{j us}e z=>by grind
 refine⟨R.rb,by simp[v],λj u e=>?_,λj us e=>?_,λj k us l b m p h o g=>?_,R.Oi i (sl:=.w ws) (λz=>z) _ (au.refl _) λ_ _ _ _ _ _ _ _ t s=>⟨s,t⟩⟩
 .by_cases c:i=j
  .subst c;have y:i<Z.length:=by have:=(Ĵ.mp e).1;simpa using this
   rw[ĳ y]at e;cases e
  .rw[ą c]at e⊢;exact R.va j u e
 .by_cases c:i=j;.obtain⟨rfl,d⟩:=f e c;exact⟨a,vs,d,x,w,r,hw⟩
  .rw[ą c]at e⊢;exact R.ow j us e
 .by_cases c:i=j;.obtain⟨_,d⟩:=f p c;rw[o]at d;cases d;have n:i≠k:=λz=>m<|c.symm.trans z;rw[ą n]at h g;exact q k l (ö n) h g
  .rw[ą c]at p o;by_cases n:i=k;.obtain⟨_,d⟩:=f h n;rw[g]at d;cases d;exact q j us (ö c) p o
   .rw[ą n]at h g;exact R.ap j k us l b m p h o g
def RS.write(R:RS B Z Ö F H){i}{ws us:List VW}{vs zs a}(e:Z[i]?=L (.w ws))(m:Ö[i]?=L (L<|.ref a))(t:F a=Y)(r:B.H0 a=Y)(x:H a=L (.l vs))(A:Ê B.K F us zs):RS B (Z.set i<|.w us) Ö F (upd H a<|.l zs):=by
 have p:i<Z.length:=(Ĵ.mp e).1;refine⟨⟨λb u q=>by rw[ag ((λb o q z=>by subst z;rw[t]at q;cases q) b u q)];exact R.rb.sub b u q,λb u q=>by
  have f:b≠a:=λz=>by subst z;rw[r]at q;cases q
  rw[ag f];exact R.rb.base b u q,R.rb.ģ,R.rb.fr⟩,by simp[R.len],λj w q=>?_,λj d q=>?_,λj k d v b l D K C I=>?_,by
 have E:=R.Oi (H':=upd H a<|.l zs) i (sl:=.w us) (λz=>z) (L<|.ref a) (au.refl _) λ_ _ _ b P _ _ _ n J=>⟨J,by
   have f:b≠a:=λz=>by subst z;rw[x]at n;cases n
   rw[ag f];exact n⟩;rwa[set_same m]at E⟩
 .by_cases c:i=j;.subst c;rw[ĳ p]at q;cases q
  .rw[ą c]at q;exact R.va j w q
 .by_cases c:i=j;.subst c;rw[ĳ p]at q;cases q;exact Ϩ a zs m t r ai A
  .rw[ą c]at q;refine mv (R.ow j d q) λb g s Q Å N G=>?_;have f:b≠a:=λz=>by subst z;exact R.ap i j ws d b c e q m s
   exact Ϩ b g s Q Å (by rw[ag f];exact N) G
 .have back:∀{j:Nat}{d:List VW},(Z.set i<|.w us)[j]?=L (.w d)->∃g,Z[j]?=L (.w g):=λ{j d}q=>by
   by_cases c:i=j;.subst c;exact⟨ws,e⟩
   .rw[ą c]at q;exact⟨d,q⟩
  obtain⟨g,Ã⟩:=back D;obtain⟨h,y⟩:=back K;exact R.ap j k g h b l Ã y C I
def RS.Vy(R:RS B Z Ö F H){i sl a o w}(e:Z[i]?=L sl)(x:Ö[i]?=L (L<|.ref a))(X:F a=Y)(I:B.H0 a=Y)(C:H a=L o)(Á:NF o)(hw:RW B.K (upd F a o) w (.ref a))(Ã:∀j(ws:List VW),i≠j->Z[j]?=L (.w ws)->Ö[j]?≠L (L<|.ref a))(S:∀j(ks us:List VW),i≠j->Z[j]?=L (.od ks us)->Ö[j]?≠L (L<|.ref a)):RS B (Z.set i<|.v w) Ö (upd F a o) H:=by
 have g:i<Z.length:=(Ĵ.mp e).1;have s:au F (upd F a o):=ar X _;refine⟨⟨λb u q=>?_,R.rb.base,R.rb.ģ.trans s,λb u q=>?_⟩,by simp[R.len],λj y q=>?_,λj f q=>?_,λj k f n b t h l D K=>?_,by
 have G:=R.Oi i (sl:=.v w) (λz=>z) (L<|.ref a) s λj ks us b a0 c Ä E T Å=>⟨by
  have p:b≠a:=λz=>by subst z;exact S j ks us c Ä E
  rw[ag p];exact Å,T⟩;rwa[set_same x]at G⟩
 .by_cases d:b=a;.subst d;rw[ai]at q;cases q;exact C
  .rw[ag d]at q;exact R.rb.sub b u q
 .by_cases d:b=a;.subst d;rw[ai]at q;cases q;exact .inr ⟨I,Á⟩
  .rw[ag d]at q;exact R.rb.fr b u q
 .by_cases c:i=j;.subst c;rw[ĳ g]at q;cases q;exact⟨.ref a,x,hw⟩
  .rw[ą c]at q;obtain⟨v,m,r⟩:=R.va j y q;exact⟨v,m,r.keep s⟩
 .by_cases c:i=j;.subst c;rw[ĳ g]at q;cases q
  .rw[ą c]at q;obtain⟨b,Q,m,r,Â,P,N⟩:=R.ow j f q;have p:b≠a:=λz=>by subst z;exact Ã j f c q m
   exact⟨b,Q,m,by rw[ag p];exact r,Â,P,N.keep s⟩
 .have A:i≠j:=λz=>by subst z;rw[ĳ g]at h;cases h
  have J:i≠k:=λz=>by subst z;rw[ĳ g]at l;cases l
  rw[ą A]at h;rw[ą J]at l;exact R.ap j k f n b t h l D K
def BI:HO->Prop|.l _=>True|.dK _=>True|_=>False
theorem RS.î(R:RS B Z Ö F H)(i):∃s,au F s/\RS B (WL.î i Z) Ö s H/\(s=F/\WL.î i Z=Z\/∃a o w,s=upd F a o/\BI o/\F a=Y/\WL.î i Z=Z.set i (.v w)/\Ö[i]?=L (L<|.ref a)/\H a=L o/\B.H0 a=Y):=by cases e:Z[i]? with
|none=>
 have c:WL.î i Z=Z:=by unfold WL.î;rw[e]
 rw[c];exact⟨F,au.refl _,R,.inl ⟨M,M⟩⟩
|some sl=>cases sl with|o=>
  have c:WL.î i Z=Z:=by unfold WL.î;rw[e]
  rw[c];exact⟨F,au.refl _,R,.inl ⟨M,M⟩⟩|v w=>
  have c:WL.î i Z=Z:=by unfold WL.î;rw[e]
  rw[c];exact⟨F,au.refl _,R,.inl ⟨M,M⟩⟩|ob=>
  have c:WL.î i Z=Z:=by unfold WL.î;rw[e]
  rw[c];exact⟨F,au.refl _,R,.inl ⟨M,M⟩⟩|w ws=>
  have c:WL.î i Z=Z.set i (.v<|.l ws):=by unfold WL.î;rw[e]
  rw[c];obtain⟨a,x,f,d,l,g,y⟩:=R.ow i ws e;refine⟨upd F a<|.l x,ar d _,R.Vy e f d l g trivial (by simp only[RW];exact⟨a,x,M,ÿ.of ai,y.keep<|ar d _⟩) (λj t h q z=>R.ap i j ws t a h e q f z) λj m n h q z=>?_,.inr ⟨a,_,_,M,trivial,d,M,f,g,l⟩⟩;obtain⟨b,r,p,_,_,k,_⟩:=R.dd.od j m n q;rw[z]at p;cases p;rw[g]at k;cases k|od m n=>
  have c:WL.î i Z=Z.set i (.v<|.ġ m n):=by unfold WL.î;rw[e]
  rw[c];obtain⟨a,r,f,d,l,g,y,A⟩:=R.dd.od i m n e;refine⟨_,ar d _,R.Vy e f d l g trivial (by simp only[RW];exact⟨a,r,M,.inl ai,y.keep<|ar d _,A.keep<|ar d _⟩) (λj t h q z=>?_) λj v u h q z=>R.dd.ad i j m n v u a h e q f z,.inr ⟨a,_,_,M,trivial,d,M,f,g,l⟩⟩;obtain⟨b,x,p,_,_,k,_⟩:=R.ow j t q;rw[z]at p;cases p;rw[g]at k;cases k
def RS.Jz(R:RS B Z Ö F H){i ks us Ç a}(J:F a=Y)(D:B.H0 a=Y)(x:H a=L (.dK Ç))(hk:Ê B.K F ks (Ç.map λp=>kV p.1))(A:Ê B.K F us (Ç.map λp=>p.2))(w:∀j(q o:List VW),j≠i->Z[j]?=L (.od q o)->Ö[j]?≠L (L<|.ref a)):RS B (Z.set i<|.od ks us) (Ö.set i<|some<|.ref a) F H:=by
 have G:=R.len;have c:∀{j:Nat}{v:Sl},(Z.set i<|.od ks us)[j]?=L v->i=j->v=.od ks us/\(Ö.set i<|some<|V.ref a)[j]?=L (L<|.ref a):=λ{j v}e z=>by
  subst z;have K:i<Z.length:=by have:=(Ĵ.mp e).1;simpa using this
  rw[ĳ K]at e;exact⟨(ŧ e).symm,ĳ<|by omega⟩
 refine⟨R.rb,by simp[G],λj u e=>?_,λj t e=>?_,λj k t s b l h g n m=>?_,λj q o e=>?_,λj k I Dk C Cc b l h g n m=>?_,λj e=>?_⟩
 .by_cases d:i=j;.cases(c e d).1
  .rw[ą d]at e⊢;exact R.va j u e
 .by_cases d:i=j;.cases(c e d).1
  .rw[ą d]at e⊢;exact R.ow j t e
 .have y:i≠j:=λz=>by cases(c h z).1
  have E:i≠k:=λz=>by cases(c g z).1
  rw[ą y]at h n;rw[ą E]at g m;exact R.ap j k t s b l h g n m
 .by_cases d:i=j;.obtain⟨h,g⟩:=c e d;cases h;exact⟨a,Ç,g,J,D,x,hk,A⟩
  .rw[ą d]at e⊢;exact R.dd.od j q o e
 .by_cases d:i=j;.have r:=(c h d).2;rw[n]at r;cases r;have f:i≠k:=λz=>l<|d.symm.trans z;rw[ą f]at g m;exact w k _ _ (ö f) g m
  .rw[ą d]at h n;by_cases f:i=k;.have r:=(c g f).2;rw[m]at r;cases r;exact w j _ _ (ö d) h n
   .rw[ą f]at g m;exact R.dd.ad j k _ _ _ _ b l h g n m
 .have d:i≠j:=λz=>by cases(c e z).1
  rw[ą d]at e⊢;exact R.dd.ob j e
def RS.VC(R:RS B Z Ö F H){i}{ks us f Cc:List VW}{Ç c a}(e:Z[i]?=L (.od ks us))(N:Ö[i]?=L (L<|.ref a))(Ã:F a=Y)(Å:B.H0 a=Y)(P:H a=L (.dK Ç))(hk:Ê B.K F f (c.map λp=>kV p.1))(Â:Ê B.K F Cc (c.map λp=>p.2)):RS B (Z.set i<|.od f Cc) Ö F (upd H a<|.dK c):=by
 have m:i<Z.length:=(Ĵ.mp e).1;have nF:∀b o,F b=L o->b≠a:=λb o q z=>by subst z;rw[Ã]at q;cases q
 refine⟨⟨λb u q=>by rw[ag (nF b u q)];exact R.rb.sub b u q,λb u q=>by
 have n:b≠a:=λz=>by subst z;rw[Å]at q;cases q
 rw[ag n];exact R.rb.base b u q,R.rb.ģ,R.rb.fr⟩,by simp[R.len],λj w q=>?_,λj t q=>?_,λj k t v b g h l A D=>?_,λj J E q=>?_,λj k a5 Dk a0 Ck b g h l A D=>?_,λj q=>?_⟩
 .by_cases d:i=j;.subst d;rw[ĳ m]at q;cases q
  .rw[ą d]at q;exact R.va j w q
 .by_cases d:i=j;.subst d;rw[ĳ m]at q;cases q
  .rw[ą d]at q;obtain⟨b,G,s,K,I,r,C⟩:=R.ow j t q;have n:b≠a:=λz=>by subst z;rw[P]at r;cases r
   exact⟨b,G,s,K,I,by rw[ag n];exact r,C⟩
 .have Q:i≠j:=λz=>by subst z;rw[ĳ m]at h;cases h
  have Ä:i≠k:=λz=>by subst z;rw[ĳ m]at l;cases l
  rw[ą Q]at h;rw[ą Ä]at l;exact R.ap j k t v b g h l A D
 .by_cases d:i=j;.subst d;rw[ĳ m]at q;cases q;exact⟨a,c,N,Ã,Å,ai,hk,Â⟩
  .rw[ą d]at q;obtain⟨b,G,s,K,I,r,C⟩:=R.dd.od j J E q;have n:b≠a:=λz=>by subst z;exact R.dd.ad i j _ _ _ _ b d e q N s
   exact⟨b,G,s,K,I,by rw[ag n];exact r,C⟩
 .have back:∀{j:Nat}{x y:List VW},(Z.set i<|.od f Cc)[j]?=L (.od x y)->∃S Á,Z[j]?=L (.od S Á):=λ{j x y}q=>by
   by_cases d:i=j;.subst d;exact⟨_,_,e⟩
   .rw[ą d]at q;exact⟨_,_,q⟩
  obtain⟨_,_,X⟩:=back h;obtain⟨_,_,T⟩:=back l;exact R.dd.ad j k _ _ _ _ b g X T A D
 .have d:i≠j:=λz=>by subst z;rw[ĳ m]at q;cases q
  rw[ą d]at q;exact R.dd.ob j q
end
section
variable{X:Cx}{st:Stmt}
def PE.imp{t t'}(h:PE X e t)(f:∀Z H Q,t' Z H Q->t Z H Q):PE X e t':=λa s Z H Q I q=>h _ s Z H Q I<|f Z H Q q
def PT.imp{t t'}(h:PT X e t)(f:∀Z H Q,t' Z H Q->t Z H Q):PT X e t':=λa s Z H Q I q=>h _ s Z H Q I<|f Z H Q q
def PW.imp{t t'}(h:PW X e t)(f:∀Z H Q,t' Z H Q->t Z H Q):PW X e t':=λb a s Z H Q I q=>h _ _ s Z H Q I<|f Z H Q q
def PA.imp{t t'}(h:PA X es t)(f:∀Z H Q,t' Z H Q->t Z H Q):PA X es t':=λpos a s Z H Q I q=>h _ _ s Z H Q I<|f Z H Q q
def PS.imp{t t'}(h:PS X st t)(f:∀D Z H,t' D Z H->t D Z H):PS X st t':=λa s Z H D I q=>h _ s Z H D I<|f D Z H q
def ã.imp{t t'}(h:ã X sts t)(f:∀D Z H,t' D Z H->t D Z H):ã X sts t':=λa s Z H D I q=>h _ s Z H D I<|f D Z H q
def PG.imp{t t'}(h:PG X e t)(f:∀v Z H Q,t' v Z H Q->t v Z H Q):PG X e t':=λa s Z H v u Q I r q=>h _ s Z H v u Q I r<|f v Z H Q q
def Ρ.imp{t t'}(h:Ρ X es t)(f:∀v Z H Q,t' v Z H Q->t v Z H Q):Ρ X es t':=λa s Z H v u Q I r q=>h _ s Z H v u Q I r<|f v Z H Q q
def PI.imp{b t t'}(h:PI X b e t)(f:∀Z H Q,t' Z H Q->t Z H Q):PI X b e t':=λa s Z H Q I q=>h _ s Z H Q I<|f Z H Q q
def PO.imp{o t t'}(h:PO X o t)(f:∀Z H Q,t' Z H Q->t Z H Q):PO X o t':=λa s Z H Q I q=>h _ s Z H Q I<|f Z H Q q
end
def Rq(B:Bx)(Z:Ws)(F:Hp){α}(r:Res α)(k:α->Prop):Prop:=match r with|.ok a=>k a|.x c=>B.xp c Z F|.b=>False
theorem Rq.mono{B Z F b α r}{k k':α->Prop}(s:au F b)(h:Rq B Z F r k)(f:∀a,k a->k' a):Rq B Z b r k':=by cases r with|ok a=>exact f a h|x c=>exact B.mono c Z F _ s h|b=>exact h
theorem Rq.bind{B Z F α b r}{g:α->Res b}{k}(h:Rq B Z F (r.bind g) k):Rq B Z F r λa=>Rq B Z F (g a) k:=by cases r with|ok a|x c|b=>exact h
def lo(B:Bx)(t:EF):TE:=λa H Q=>∃b F,RS B b a F H/\Rq B b F (t b) λw=>∀v d c,RS B b a c d->Gr F H c d->RW B.K c w v->Q v d
def ď(B:Bx)(t:TF):TT:=λa H Q=>∃c F,RS B c a F H/\Rq B c F (t c) λb=>∀d e,RS B c a e d->Gr F H e d->Q b d
def Ď(B:Bx)(t:AF):TA:=λa H Q=>∃b F,RS B b a F H/\Rq B b F (t b) λws=>∀e d c,RS B b a c d->Gr F H c d->Ê B.K c ws e->Q e d
def Nk(B:Bx)(t:Ws->Res (Option Int)):TO:=λa H Q=>∃b F,RS B b a F H/\Rq B b F (t b) λo=>∀c d,RS B b a d c->Gr F H d c->Q o c
def Ia(B:Bx)(t:LF):TE:=λb H Q=>∃c F,RS B c b F H/\Rq B c F (t c) λws=>∀a f e d,RS B c b d e->Gr F H d e->d a=Y->B.H0 a=Y->e a=L (.l f)->Ê B.K d ws f->(∀(j:Nat)(g:List VW),c[j]?=L (.w g)->b[j]?≠L (L<|.ref a))->Q (.ref a) e
structure Gm(m:Bool)(F H F' H':Hp):Prop where
 f:au F F'
 nf:∀a o,H a=L o->F a=Y->F' a=Y
 th:∀a o,H a=L o->∃o',H' a=L o'
 h:m=U->au H H'
theorem Gm.refl{m F H}:Gm m F H F H:=⟨au.refl _,λ_ _ _ z=>z,λ_ o e=>⟨o,e⟩,λ_=>au.refl _⟩
theorem Gm.trans{m F H g i f d}(a:Gm m F H g i)(b:Gm m g i f d):Gm m F H f d:=⟨a.f.trans b.f,λx o e z=>by obtain⟨j,c⟩:=a.th x o e;exact b.nf x _ c<|a.nf x o e z,λx o e=>by obtain⟨j,c⟩:=a.th x o e;exact b.th x _ c,λh=>(a.h h).trans<|b.h h⟩
def ŝ(m:Bool)(B:Bx)(g:GF):TG:=λv d H Q=>∃e F w,RS B e d F H/\RW B.K F w v/\Rq B e F (g w e) λb=>∀a c f,RS B b a f c->Gm m F H f c->Q a c
def Xn(m:Bool)(B:Bx)(g:Qe):Gh:=λh d H Q=>∃e F ws,RS B e d F H/\Ê B.K F ws h/\Rq B e F (g ws e) λb=>∀a c f,RS B b a f c->Gm m F H f c->Q a c
def Oq(B:Bx)(D:Ends)(F:Hp)(o:Out):Prop:=match o with|.n Ô=>∀a d b,RS B Ô a b d->au F b->D.nx a d|.bk Ô=>∀a d b,RS B Ô a b d->au F b->D.bk a d|.ct Ô=>∀a d b,RS B Ô a b d->au F b->D.ct a d|.r w=>∀v d b,RB B b d->au F b->RW B.K b w v->D.rt v d|.x c Ô=>B.xp c Ô F|.b=>False
def â(B:Bx)(t:SF):TS:=λD a H=>∃b F,RS B b a F H/\Oq B D F (t b)
theorem Oq.mono{B D F a o}(s:au F a)(h:Oq B D F o):Oq B D a o:=by cases o with|n Z|bk Z|ct Z|r w=>exact λb H G R z=>h _ H G R<|s.trans z|x c Z=>exact B.mono c Z F _ s h|b=>exact h
theorem Oq.ø    (h:Oq B D F (WL.ø Z r f)):Rq B Z F r λa=>Oq B D F (f a):=by cases r with|ok a|x c|b=>exact h
def Τ(F H:Hp)(K:W.Frag)(r:Res VW)(Q:VK):Prop:=match r with|.ok w=>∀v a b,Ext F H a b->RW K a w v->Q v b|_=>False
def ħ(K:W.Frag)(r:VW->VW->Res VW):R2:=λx y H Q=>∃F wx a,au F H/\RW K F wx x/\RW K F a y/\Τ F H K (r wx a) Q
def lo1(K:W.Frag)(r:VW->Res VW):V->Hp->VK->Prop:=λx H Q=>∃F wx,au F H/\RW K F wx x/\Τ F H K (r wx) Q
def Η(K:W.Frag)(r:List VW->Res VW):List V->Hp->VK->Prop:=λa H Q=>∃F ws,au F H/\Ê K F ws a/\Τ F H K (r ws) Q
def Calm(r:VW->VW->Res VW):Prop:=∀x y c,r x y≠.x c
def ë.imp{X f r b}(h:ë X f r)(g:∀x y H Q,b x y H Q->r x y H Q):ë X f b:=λa s d H x y v u Q I e c q=>h _ s d H x y v u Q I e c<|g x y H Q q
def Xb.imp{X f r b}(h:Xb X f r)(g:∀x H Q,b x H Q->r x H Q):Xb X f b:=λa s c H x v Q I d q=>h _ s c H x v Q I d<|g x H Q q
def bG.imp{X f r b}(h:bG X f r)(g:∀xs H Q,b xs H Q->r xs H Q):bG X f b:=λa s c H xs e Q I d q=>h _ s c H _ _ Q I d<|g _ H Q q
def ξ.imp{X r d}(h:ξ X r)(g:∀x y H Q,d x y H Q->r x y H Q):ξ X d:=λa b c s i H x y v u Q I j e q f=>h _ _ _ s i H x y v u Q I j e (g x y H Q q) f
def Ο.imp{X r e}(h:Ο X r)(g:∀x a b H Q,e x a b H Q->r x a b H Q):Ο X e:=λd s f H x v k l lo m j Q I i a b c q=>h _ s f H x v _ _ _ _ _ Q I i a b c<|g x _ _ H Q q
section
variable{X:Cx}{B:Bx}
set_option tactic.hygienic true in
def UT{i}(h:PE X e (ee i)):PE X e (lo B<|WL.dA i):=PE.imp h λb H Q a=>by
 refine dB a λd F R q=>?_;simp [WL.dA]at q;split at q;.rename_i w e;obtain⟨v,c,r⟩:=R.va i w e;exact⟨v,c,q v H F R Gr.refl r⟩
 .exact q.elim
def Me (h:PE X e (tC v))(r:∀F,RW B.K F w v):PE X e (lo B<|WL.eC w):=PE.imp h λb H Q a=>by obtain⟨c,F,R,q⟩:=a;exact q v H F R Gr.refl<|r F
def ah{i j pos}:PE X (.Constant (.int i) j pos) (lo B<|WL.eC<|.int i):=Me ID λ_=>rfl
def vz{i j pos}:PE X (.Constant (.bool i) j pos) (lo B<|WL.eC<|.B i):=Me SN λ_=>rfl
def bt{j pos}:PE X (.Constant .none j pos) (lo B<|WL.eC .n):=Me YS λ_=>rfl
def aq{x j pos}:PE X (.Constant (.str x) j pos) (lo B<|WL.eC<|.str x):=Me i5 λ_=>rfl
def Zn (cm:Calm r)(f:∀x y H Q,ħ B.K r x y H Q->rV x y H Q):∀a H Q,lo B (WL.Ì r ta tb) a H Q->Mh rV (lo B ta) (lo B tb) a H Q:=by intro a H Q⟨d,F,R,q⟩;have q:=Rq.bind q;refine eM d F R (Rq.mono (au.refl _) q λx l v1 s k i g m=>eM d k i<|Rq.mono g.f (Rq.bind l) λy b v2 o j R2 h r2=>f _ _ _ _<|sA j x y R2.rb.sub (m.keep h.f) r2 ?_);cases e:r x y with|ok w=>rw[e]at b;exact λv n p E r3=>b v _ _ (E.rs B d _ R2) ((g.trans h).trans E.gr) r3|x c=>exact(cm x y c e).elim|b=>rw[e]at b;exact b
def cR (cm:Calm r)(h:ë X (binaryOp op) (ħ B.K r))(d:PE X a (lo B ta))(c:PE X b (lo B tb)):PE X (.BinOp a op b pos) (lo B<|WL.Ì r ta tb):=PE.imp (TN h d c) (Zn cm λ_ _ _ _ q=>q)
def lB (cm:Calm r)(h:ë X (compareOp op) (ħ B.K r))(c:PE X a (lo B ta))(d:PE X b (lo B tb))(e:behindInMarks op b=O):PE X (.Compare a [op] [b] pos) (lo B<|WL.Ì r ta tb):=PE.imp (PV h c d e) (Zn cm λ_ _ _ _ q=>q)
def YA (cm:Calm r)(h:ξ X (ħ B.K r))(c:PE X a (lo B ta))(d:PE X b (lo B tb))(hs:lu b):PE X (.Subscript a b pos) (lo B<|WL.Ì r ta tb):=PE.imp (NA h c d hs) (Zn cm λ_ _ _ _ q=>q)
def dY (cm:∀x c,r x≠.x c)(h:Xb X (unaryOp op) (lo1 B.K r))(k:PE X a (lo B ta)):PE X (.UnaryOp op a pos) (lo B<|WL.Đ r ta):=PE.imp (VN h k) λj H Q d=>by refine dB d λf F R q=>?_;have q:=Rq.bind q;refine⟨f,F,R,Rq.mono (au.refl _) q λx b v1 p l g i m=>⟨l,x,g.rb.sub,m,?_⟩⟩;cases e:r x with|ok w=>rw[e]at b;exact λv n o E r3=>b v _ _ (E.rs B f _ g) (i.trans E.gr) r3|x c=>exact(cm x c e).elim|b=>rw[e]at b;exact b
def wg:∀a H Q,ď B (WL.tB t) a H Q->Bv (lo B t) a H Q:=by
 intro a H Q⟨e,F,R,q⟩;have q:=Rq.bind q;refine eM e F R (Rq.mono (au.refl _) q λx b v1 h g f c d=>?_);cases x<;>first|exact b.elim|skip
 exact⟨_,d,b _ _ f c⟩
def aO (cm:Calm r)(h:ë X (compareOp op) (ħ B.K r))(f:PE X a (lo B ta))(c:PE X b (lo B tb))(d:behindInMarks op b=O):PT X (.Compare a [op] [b] pos) (ď B<|WL.tB<|WL.Ì r ta tb):=PT.imp (YV h f c d) λe H Q q=>Zn cm (λ_ _ _ _ q=>q) _ H _<|wg _ H Q q
def cU (h:PE X e (lo B t))(b:∀a,isTrue e X.env a=(do let v <-a;standAt e.pos;holding [v] (truthy v)):=by intro _;rfl):PT X e (ď B<|WL.tB t):=PT.imp (NR h b) wg
def ym (cm:Calm r)(l:Calm r'):∀a H Q,lo B (WL.l2 r r' ta tb tc) a H Q->Wv (ħ B.K r) (ħ B.K r') (lo B ta) (lo B tb) (lo B tc) a H Q:=by intro a H Q⟨b,F,R,q⟩;have q:=Rq.bind q;refine eM b F R (Rq.mono (au.refl _) q λx n v1 S J I g N=>?_);have n:=Rq.bind n;refine eM b J I (Rq.mono g.f n λy j v2 Ã D R2 i r2=>?_);refine sA D x y R2.rb.sub (N.keep i.f) r2 ?_;unfold Τ;cases e:r x y with|x c=>exact(cm x y c e).elim|b=>rw[e]at j;exact j|ok z=>rw[e]at j;intro v3 o K d r3;have f:=j;cases z with
 |B k=>refine⟨k,r3,?_⟩;cases k with|false=>exact f (.B O) K o (d.rs B b a R2) ((g.trans i).trans d.gr) (by simp[RW])|true=>have f:=Rq.bind (show Rq B b F ((tc b).bind λw=>r' y w) _ from f);refine eM b o (d.rs B b a R2) (Rq.mono ((g.trans i).trans d.gr).f f λw h v4 P A t p C=>?_);refine sA A y w t.rb.sub ((r2.keep d.same).keep p.f) C ?_;unfold Τ;cases m:r' y w with|x c=>exact(l y w c m).elim|b=>rw[m]at h;exact h|ok u=>rw[m]at h;exact λv E Å s G=>h v Å E (s.rs B b a t) ((((g.trans i).trans d.gr).trans p).trans s.gr) G
 |_=>exact f.elim
def xo (cm:Calm r)(d:Calm r')(i:ë X (compareOp op) (ħ B.K r))(e:ë X (compareOp op') (ħ B.K r'))(j:PE X a (lo B ta))(f:PE X b (lo B tb))(h:PE X c (lo B tc))(g:lastMarks [op,op'] [b,c]=O:=by with_unfolding_all rfl):PE X (.Compare a [op,op'] [b,c] pos) (lo B<|WL.l2 r r' ta tb tc):=PE.imp (LZ i e j f h g)<|ym cm d
def U0 (cm:Calm r)(d:Calm r')(j:ë X (compareOp op) (ħ B.K r))(e:ë X (compareOp op') (ħ B.K r'))(k:PE X a (lo B ta))(f:PE X b (lo B tb))(h:PE X c (lo B tc))(g:lastMarks [op,op'] [b,c]=O:=by with_unfolding_all rfl):PT X (.Compare a [op,op'] [b,c] pos) (ď B<|WL.tB<|WL.l2 r r' ta tb tc):=PT.imp (U2 j e k f h g) λi H Q q=>ym cm d _ H _<|wg _ H Q q
variable{Ò:List Expr}
def gF(b:PT X a (ď B uA)):PW X (.BoolOp .And [a] pos) (ď B uA):=AW b
def lz(b:PT X a (ď B uA)):PW X (.BoolOp .Or [a] pos) (ď B uA):=PR b
def jN(j:PT X a (ď B uA))(m:PW X (.BoolOp .And (b::Ò) pos) (ď B uB)):PW X (.BoolOp .And (a::b::Ò) pos) (ď B<|WL.vF uA uB):=PW.imp (OR j m) λh H Q d=>by refine dB d λe F R q=>?_;have q:=Rq.bind q;refine⟨e,F,R,Rq.mono (au.refl _) q λx g p l f c=>?_⟩;cases x with|true=>exact⟨e,l,f,Rq.mono c.f g λb k n o R2 i=>k _ _ R2<|c.trans i⟩|false=>exact g _ _ f c
def sG(j:PT X a (ď B uA))(m:PW X (.BoolOp .Or (b::Ò) pos) (ď B uB)):PW X (.BoolOp .Or (a::b::Ò) pos) (ď B<|WL.Ε uA uB):=PW.imp (WN j m) λh H Q d=>by refine dB d λe F R q=>?_;have q:=Rq.bind q;refine⟨e,F,R,Rq.mono (au.refl _) q λx g p l f c=>?_⟩;cases x with|false=>exact⟨e,l,f,Rq.mono c.f g λb k n o R2 i=>k _ _ R2<|c.trans i⟩|true=>exact g _ _ f c
def fB(f:PT X a (ď B uA)):PT X (.UnaryOp .Not a pos) (ď B<|WL.pP uA):=PT.imp (MR f) λd H Q b=>by obtain⟨e,F,R,q⟩:=b;have q:=Rq.bind q;exact⟨e,F,R,Rq.mono (au.refl _) q λx c=>c⟩
def jP{op}(h:PE X a (lo B ta)):PE X (.BoolOp op [a] pos) (lo B ta):=DR h
def fD(j:PE X a (lo B ta))(n:PE X (.BoolOp .And (b::Ò) pos) (lo B tb)):PE X (.BoolOp .And (a::b::Ò) pos) (lo B<|WL.mn ta tb):=PE.imp (XS j n) λh H Q d=>by refine dB d λf F R q=>?_;have q:=Rq.bind q;refine eM f F R (Rq.mono (au.refl _) q λx e v s m g c o=>?_);cases x with
|B k=>refine⟨k,o,?_⟩;cases k with|true=>exact eM f m g (Rq.mono c.f e λb l v2 p r R2 i r2=>l _ _ _ R2 (c.trans i) r2)|false=>exact e _ _ _ g c (rfl)
|_=>exact e.elim
def sI(g:PE X a (lo B ta)):PE X (.UnaryOp .Not a pos) (lo B<|WL.ϣ ta):=PE.imp (ZS g) λf H Q b=>by refine dB b λe F R q=>?_;have q:=Rq.bind q;refine⟨e,F,R,Rq.mono (au.refl _) q λx c v l j h d i=>?_⟩;cases x with|B k=>exact⟨k,i,c _ _ _ h d<|M⟩|_=>exact c.elim
def vx(n:PT X c (ď B uA))(i:PE X a (lo B ta))(m:PE X b (lo B tb)):PE X (.IfExp c a b pos) (lo B<|WL.ϓ uA ta tb):=PE.imp (MZ n i m) λg H Q d=>by refine dB d λf F R q=>?_;have q:=Rq.bind q;refine eM f F R (Rq.mono (au.refl _) q λx o s l k e=>?_);cases x with|true|false=>exact⟨f,l,k,Rq.mono e.f o λb j v2 p r R2 h r2=>j _ _ _ R2 (e.trans h) r2⟩
def aV:PA X [] (Ď B WL.ak):=PA.imp bS λb H Q a=>by obtain⟨c,F,R,q⟩:=a;exact q _ H F R Gr.refl<|M
def JW:∀a H Q,Ď B (WL.aa ta á) a H Q->ia (lo B ta) (Ď B á) a H Q:=λa H Q b=>by refine dB b λf F R q=>?_;have q:=Rq.bind q;refine eM f F R (Rq.mono (au.refl _) q λx d v o i h e j=>?_);have d:=Rq.bind d;exact eM f i h (Rq.mono e.f d λk c n l m R2 g r2=>c _ _ _ R2 (e.trans g)<|.cons (j.keep g.f) r2)
def af(a:PE X e (lo B ta))(b:PA X es (Ď B á))(hs:SE X e es:=by rfl):PA X (e::es) (Ď B<|WL.aa ta á):=PA.imp (aG a b hs) JW
def eP:WL.lim<=sizeLine:=by decide
def aM{l}(h:PA X es (Ď B á)):PE X (.Tuple es l pos) (lo B<|WL.eB á):=PE.imp (FR h) λk H Q c=>by
 refine dB c λj F R q=>?_;have q:=Rq.bind q;refine⟨j,F,R,Rq.mono (au.refl _) q λi b m o n d g f=>?_⟩;by_cases e:i.length<=WL.lim;.rw[Ð e]at b;exact⟨by rw[<-f.length];exact ñ e eP,λp a=>b _ _ _ (d.new a _) (g.trans<|Gr.new (d.rb.sub.free a) a _)<|by exact hU p m M (ü.of ai)<|f.keep<|ar (d.rb.sub.free a) _⟩
 .rw[Õ e]at b;exact b.elim
def IQ:∀a H Q,lo B (WL.lb á) a H Q->Ut (Ď B á) a H Q:=λa H Q d=>by
 refine dB d λj F R q=>?_;have q:=Rq.bind q;refine⟨j,F,R,Rq.mono (au.refl _) q λi c k m l e h g=>?_⟩;by_cases f:i.length<=WL.lim;.rw[Ð f]at c;exact⟨by rw[<-g.length];exact ñ f eP,λp b=>c _ _ _ (e.new b _) (h.trans<|Gr.new (e.rb.sub.free b) b _)<|by exact hU p k M (ÿ.of ai)<|g.keep<|ar (e.rb.sub.free b) _⟩
 .rw[Õ f]at c;exact c.elim
def cH(h:PA X es (Ď B á)):PE X (.List es pos) (lo B<|WL.lb á):=PE.imp (Qv h) IQ
def Zi{Z b F h f xs vs p}{Q:VK}(g:RS B Z b h f){H}(l:Gr F H h f)(m:Ê B.K h xs vs)(c:f p=Y)(q:∀a vs H' d,RS B Z b d H'->Gr F H d H'->d a=Y->B.H0 a=Y->H' a=L (.l vs)->Ê B.K d xs vs->(∀(j:Nat)(us:List VW),Z[j]?=L (.w us)->b[j]?≠L (L<|.ref a))->Q (.ref a) H'):Q (.ref p) (upd f p<|.l vs):=q p _ _ _ (g.Xi c _) (l.trans ⟨au.refl _,ar c _,λ_ _ _ z=>z⟩) (g.rb.sub.free c) (g.rb.base.free c) ai m λj us e z=>by refine mv (g.ow j _ e) λa n i s o k r=>?_;rw[z]at i;cases i;rw[c]at k;cases k
def pE(h:PA X es (Ď B á)):PE X (.List es pos) (Ia B<|WL.Ie á):=PE.imp (Qv h) λi H Q b=>by
 refine dB b λg F R q=>?_;have q:=Rq.bind q;refine⟨g,F,R,Rq.mono (au.refl _) q λf a m n l k e d=>?_⟩;by_cases c:f.length<=WL.lim;.rw[Ð c]at a;exact⟨by rw[<-d.length];exact ñ c eP,λp j=>Zi k e d j a⟩
 .rw[Õ c]at a;exact a.elim
def GO (cm:∀xs c,r xs≠.x c):∀a H Q,lo B (WL.ç r á) a H Q->Gk (Η B.K r) (Ď B á) a H Q:=by intro a H Q⟨d,F,R,q⟩;have q:=Rq.bind q;refine eM d F R (Rq.mono (au.refl _) q λxs b l m h f g i=>⟨h,xs,f.rb.sub,i,?_⟩);cases e:r _ with|ok w=>rw[e]at b;exact λv j k E r3=>b v _ _ (E.rs B d _ f) (g.trans E.gr) r3|x c=>exact(cm _ c e).elim|b=>rw[e]at b;exact b
def XA (cm:∀xs c,r xs≠.x c)(h:PE X e (Gk (Η B.K r)<|Ď B á)):PE X e (lo B<|WL.ç r á):=PE.imp h<|GO cm
def hV:PO X Y (Nk B WL.ο):=PO.imp DG λb H Q a=>by obtain⟨c,F,R,q⟩:=a;exact q H F R Gr.refl
def cw(h:PE X e (lo B ta)):PO X (L e) (Nk B<|WL.cS ta):=PO.imp (OH h) λf H Q a=>by refine dB a λd F R q=>?_;have q:=Rq.bind q;refine⟨d,F,R,Rq.mono (au.refl _) q λx b v l k g c j=>?_⟩;cases x with|int i=>exact⟨i,j,b _ _ g c⟩|_=>exact b.elim
def Ay(K:W.Frag):V->Option Int->Option Int->Hp->VK->Prop:=λx l h H Q=>∃F wx,au F H/\RW K F wx x/\Τ F H K (WL.Nd wx l h) Q
def mf(o:Ο X (Ay B.K))(z:PE X e (lo B ta))(C:PO X l (Nk B tl))(s:PO X u (Nk B tu)):PE X (.Subscript e (.Slice l u Y p2) pos) (lo B<|WL.Ť ta tl tu):=PE.imp (xY o z C s) λh H Q g=>by refine dB g λd F R q=>?_;have q:=Rq.bind q;refine eM d F R (Rq.mono (au.refl _) q λx D v N A y f G=>eM d A y<|Rq.mono f.f (Rq.bind D) λlo j K t R2 i=>?_);refine eM d t R2 (Rq.mono (f.trans i).f (Rq.bind j) λJ a Å n m k=>?_);refine⟨n,x,m.rb.sub,(G.keep i.f).keep k.f,?_⟩;cases b:WL.Nd x lo J with|ok w=>rw[b]at a;exact λv p I E r=>a v I p (E.rs B d h m) (((f.trans i).trans k).trans E.gr) r|x c=>cases x<;>simp[WL.Nd]at b;split at b<;>cases b|b=>rw[b]at a;exact a
def lend  (R:RS B Z Ö F H)(t:Hp)(I:au F t)(cs:t=F/\WL.î i Z=Z\/∃a o w,t=upd F a o/\BI o/\F a=Y/\WL.î i Z=Z.set i (.v w)/\Ö[i]?=L (L<|.ref a)/\H a=L o/\B.H0 a=Y)(R2:RS B (WL.î i Z) Ö F2 H2)(f:Gr t H F2 H2):∃u,RS B Z Ö u H2/\Gr F H u H2/\∀w v,WL.plain w=U->RW B.K F2 w v->RW B.K u w v:=by
 rcases cs with⟨rfl,x⟩|⟨a,ow,wa,rfl,p,C,x,D,hH,h0⟩;.rw[x]at R2;exact⟨F2,R2,f,λ_ _ _ h=>h⟩
 .rw[x]at R2;have m:=f.f _ _ ai;have l:au F λb=>if b=a then Y else F2 b:=λb o q=>by
   have k:b≠a:=λz=>by subst z;rw[C]at q;cases q
   show(if b=a then Y else F2 b)=L o;rw[Õ k];exact f.f b o<|I b o q
  have n:∀b o,(if b=a then Y else F2 b)=L o->b≠a/\F2 b=L o:=λb o q=>by
   by_cases d:b=a;.rw[Ð d]at q;cases q
   .rw[Õ d]at q;exact⟨d,q⟩
  refine⟨λb=>if b=a then Y else F2 b,⟨⟨λb o q=>R2.rb.sub b o (n b o q).2,R2.rb.base,R.rb.ģ.trans l,λb o q=>R2.rb.fr b o (n b o q).2⟩,R.len,λj w q=>?_,λj s q=>?_,R.ap,?_⟩,⟨l,f.h,λb o q z=>?_⟩,λw v N h=>?_⟩;.obtain⟨v,g,E⟩:=R.va j w q;exact⟨v,g,E.keep l⟩
  .obtain⟨b,K,g,E,Â,Q,P⟩:=R.ow j s q;refine⟨b,K,g,?_,Â,f.h b _ Q,P.keep l⟩;by_cases d:b=a;.exact Ð d
   .show(if b=a then Y else F2 b)=Y;rw[Õ d];have A:i≠j:=λz=>by subst z;rw[D]at g;cases g;exact d M
    obtain⟨J,S,r,y,_⟩:=R2.ow j s (by rw[ą A];exact q);rw[g]at r;cases r;exact y
  .refine R.dd.via M id (λ_ _ z=>.inl z) (λ_ _ _ e=>⟨e,M⟩) l λj Å s b Ä Á G T q2 Ã=>⟨?_,Ã,f.h b _ T⟩;by_cases d:b=a;.exact Ð d
   .show(if b=a then Y else F2 b)=Y;rw[Õ d];have A:i≠j:=λz=>by subst z;rw[show Ö[i]?=_ from G]at D;cases D;exact d M
    obtain⟨J,S,r,y,_⟩:=R2.dd.od j Å s (by rw[ą A];exact Á);rw[show Ö[j]?=_ from G]at r;cases r;exact y
  .show(if b=a then Y else F2 b)=Y;by_cases d:b=a;.exact Ð d
   .rw[Õ d];exact f.nf b o q (by rw[ag d];exact z)
  .refine RW.less (λc xs q=>?_) w v N h;rcases q with(q|⟨o,q⟩)|q
   .refine .inl (.inl ?_);have k:c≠a:=λz=>by subst z;rw[m]at q;cases q;exact p
    show(if c=a then Y else F2 c)=_;rw[Õ k];exact q
   .refine .inl (.inr ⟨o,?_⟩);have k:c≠a:=λz=>by subst z;rw[m]at q;cases q;exact p
    show(if c=a then Y else F2 c)=_;rw[Õ k];exact q
   .exact .inr q
def lC (h:PE X e (lo B ta)):PE X e (lo B<|WL.uV i ta):=PE.imp h λj H Q b=>by
 refine dB b λf F R q=>?_;refine iQ (R.î i) λo g n cs=>?_;refine eM _ o n ?_;have q:Rq B f F (match ta _ with|.ok w=>if WL.plain w then .ok w else .b|_=>.b) _:=q
 cases a:ta _ with|ok w=>
 rw[a]at q;intro v s t R2 l r2;refine iQ (lend R _ g cs R2 l) λr m p k=>?_;have q:Rq B f F (if WL.plain w=U then .ok w else .b) _:=q;by_cases d:WL.plain w=U;.rw[Ð d]at q;exact q v _ _ m p<|k w v d r2
 .rw[Õ d]at q;exact q.elim|x c=>rw[a]at q;exact q.elim|b=>rw[a]at q;exact q
def xj (h:PT X e (ď B uA)):PT X e (ď B<|WL.zg i uA):=PT.imp h λj H Q d=>by refine dB d λg F R q=>?_;refine iQ (R.î i) λo f n cs=>?_;refine eM _ o n ?_;have q:Rq B g F (match uA _ with|.ok b=>.ok b|_=>.b) _:=q;cases a:uA _ with|ok w=>rw[a]at q;intro s t R2 l;refine iQ (lend R _ f cs R2 l) λr m p k=>?_;exact q _ _ m p|x c=>rw[a]at q;exact q.elim|b=>rw[a]at q;exact q
end
mutual def toD:VW->PyData|.n=>.none|.B b=>.bool b|.int i=>.int i|.str x=>.str x|.ty _=>.none|.t xs=>.tuple<|iW xs|.l xs=>.list<|iW xs|.ġ _ _=>.none|.cls _=>.none|.e _ _=>.none|.i _ _=>.none|.id _=>.none def iW:List VW->List PyData|[]=>[]|x::xs=>toD x::iW xs end
def Uu(x):toD (.str x)=.str x:=(rfl)
def Tu(x):toD (.int x)=.int x:=(rfl)
mutual theorem RW.ſ{K:W.Frag}{H:Hp}:∀(n:Nat)(w:VW)(v:V),WL.ě n w=U->RW K H w v->Ū K H n v (toD w)
|n,.n,v,_,h=>by cases n<;>exact h|n,.B b,v,_,h=>by cases n<;>exact h|n,.int i,v,_,h=>by cases n<;>exact h|n,.str x,v,o,h=>by cases n<;>exact⟨h,o⟩|n,.t xs,v,o,h=>by obtain⟨a,vs,e,q,r⟩:=h;cases n with|zero=>cases xs<;>cases o|succ n=>exact⟨a,vs,e,q,Ê.ſ n xs _ o r⟩
|n,.l xs,v,o,h=>by obtain⟨a,vs,e,q,r⟩:=h;cases n with|zero=>cases xs<;>cases o|succ n=>exact⟨a,vs,e,q,Ê.ſ n xs vs o r⟩theorem Ê.ſ{K:W.Frag}{H:Hp}:∀(n:Nat)(ws:List VW)(vs:List V),WL.hI (n+1) ws=U->Ê K H ws vs->Paired (Ū K H n) vs (iW ws)|n,[],vs,_,h=>by simp only[Ê]at h;subst h;exact .nil|n,w::ws,vs,o,h=>by simp only[Ê]at h;obtain⟨v,r,rfl,q,t⟩:=h;have o:=Sb.mp o;exact .cons (RW.ſ n w v o.1 q) (Ê.ſ n ws r o.2 t)end
mutual theorem ou:∀(n m:Nat)(x y:VW),WL.ě n x=U->WL.ě m y=U->PyData.eqv (toD x) (toD y)=WL.eqv x y
|n,m,.t xs,y,h1,h2=>by cases y with|t ys=>exact r0 n m xs ys h1 h2|_=>first|rfl|cases h2
|n,m,.l xs,y,h1,h2=>by cases y with|l ys=>exact r0 n m xs ys h1 h2|_=>first|rfl|cases h2
|n,m,.ty _,_,h1,_=>by cases h1|n,m,.n,y,_,h2=>by cases y<;>first|rfl|cases h2
|n,m,.B b,y,_,h2=>by cases y<;>rfl|n,m,.int b,y,_,h2=>by cases y<;>first|rfl|cases h2
|n,m,.str b,y,_,h2=>by cases y<;>first|rfl|cases h2 theorem r0:∀(n m:Nat)(xs ys:List VW),WL.hI n xs=U->WL.hI m ys=U->PyData.eqvAll (iW xs) (iW ys)=WL.ahe xs ys|n,m,[],ys,_,_=>by cases ys<;>rfl|n,m,x::xs,ys,h1,h2=>by cases ys with|nil=>rfl|cons y ys=>cases n with|zero=>cases h1|succ n=>cases m with|zero=>cases h2|succ m=>have h1:=Sb.mp h1;have h2:=Sb.mp h2;show(PyData.eqv _ _&&PyData.eqvAll _ _)=(_&&_);rw[ou n m x y h1.1 h2.1,r0 (n+1) (m+1) xs ys h1.2 h2.2]end
theorem w6{n m}{x:VW}(a:WL.ě n x=U):∀{ys:List VW},WL.hI m ys=U->((iW ys).any λz=>PyData.eqv z<|toD x)=WL.bY x ys|[],_=>rfl|y::ys,h=>by cases m with|zero=>cases h|succ m=>have h:=Sb.mp h;simp [iW,WL.bY];rw[ou m n y x h.1 a,w6 a h.2]
section
variable{X:Cx}{K:W.Frag}
def eq1{F H w Q v}(q:Τ F H K (.ok w) Q)(r:RW K F w v):Q v H:=q v F H (Ext.refl F H) r
def Ui{F H}{ws:List VW}{vs Q}(s:au F H)(q:Τ F H K (.ok<|.l ws) Q)(r:Ê K F ws vs){p}(a:H p=Y):Q (.ref p) (upd H p<|.l vs):=q _ _ _ (Ext.new (s.free a) a _) (by exact⟨p,vs,M,ÿ.of ai,r.keep<|ar (s.free a) _⟩)
def Zm{F H}{ws:List VW}{vs Q}(s:au F H)(q:Τ F H K (.ok<|.t ws) Q)(r:Ê K F ws vs){p}(a:H p=Y):Q (.ref p) (upd H p<|.t vs):=q _ _ _ (Ext.new (s.free a) a _) (by exact⟨p,vs,M,ü.of ai,r.keep<|ar (s.free a) _⟩)
def BX:ë X (binaryOp .Add) λx y H Q=>∃l b xs zs,x=.ref l/\y=.ref b/\ÿ X.K H l xs/\ÿ X.K H b zs/\xs.length+zs.length<=sizeLine/\∀p,H p=Y->Q (.ref p) (upd H p<|.l<|xs++zs):=by
 intro w s R H x y v u Q I P B h;refine Ij h λl b xs zs m o J Å S q=>?_;subst m o;cases P;cases B;refine iQ (I.list J) λc r G _=>?_;refine iQ (I.list Å) λa r2 f _=>?_;obtain⟨⟨cls,N,z,E⟩,t,Ã,n,C⟩:=G.isList;obtain⟨⟨A,g,data2,k⟩,d,i,D,j⟩:=f.isList;subst Ã C i j;have e:c.toArray++a.toArray=(c++a).toArray:=by simp
 have Â:=r.length;have T:=r2.length;refine Zk ⟨_,t,M⟩ ⟨_,d,M⟩ noFill_list_add seq_list_add PySem.F.slot_list_add PySem.F.entry_list_add (PySem.F.args_list_add_2 _ _) (list_addW l b c.toArray a.toArray n D N g E k<|by grind) ⟨t,d,?_⟩;rw[e];exact hU (.ref _) _ (I.Bt (r.append r2)<|by grind) M<|q _ I.fresh
def IZ:ë X (binaryOp .Add) λx y H Q=>∃a b ys,x=.ref a/\y=.ref b/\ü X.K H a []/\ü X.K H b ys/\Q (.ref b) H:=by intro k s Ã H x y v u Q I N t h;refine Cn h λa b ys g i E G q=>?_;subst g i;cases N;cases t;refine iQ (I.tuple E) λz r w _=>?_;refine iQ (I.tuple G) λm r2 p _=>?_;cases r;obtain⟨⟨cls,J,l,D⟩,j,Å,n,A⟩:=id w;obtain⟨⟨o,C,data2,f⟩,c,d,B,e⟩:=id p;subst Å A d e;exact Zk ⟨_,j,M⟩ ⟨_,c,M⟩ Zp seq_tuple_add Wq Zq (Dr _ _) (tuple_addW0 a b _ _ n B J _ D f<|M) ⟨j,c,⟨.ref b,H,I,M,q⟩⟩
set_option tactic.hygienic true in
def w_add(z:X.K=K):ë X (binaryOp .Add) (ħ K WL.fK):=by
 subst z;refine ë.imp (ES.or<|BX.or<|EX.or IZ) λx y H Q r=>?_;obtain⟨F,wx,A,s,h,d,q⟩:=r;unfold WL.fK at q;split at q;.simp only[RW]at h d;exact .inl ⟨_,_,h,d,q _ F H (Ext.refl F H)<|by simp[RW]⟩
 rotate_left
 .rename_i j k;simp only[RW]at h d;obtain⟨a,i,rfl,m,e⟩:=h;obtain⟨b,g,rfl,l,f⟩:=d;by_cases c:j.length+k.length<=WL.lim
  .rw[Ð c]at q;have n:=e.length;have o:=f.length;have u:i.length+g.length<=sizeLine:=by rw[<-n,<-o];exact ñ c eP
   by_cases w:i=[];.subst w;have:j=[]:=List.length_eq_zero_iff.mp n;subst this;refine .inr<|.inr<|.inr ⟨a,b,g,M,M,s.tup m,s.tup l,?_⟩;exact eq1 q (by simp only[RW,Ki];exact⟨b,g,M,l,f⟩)
   .refine .inr (.inr<|.inl ⟨a,b,i,g,M,M,s.tup m,s.tup l,w,u,λv=>?_,λv p t=>?_⟩);.subst v;have:k=[]:=List.length_eq_zero_iff.mp o;subst this;exact eq1 q (by simp only[RW,Ξ];exact⟨a,i,M,m,e⟩)
    .exact Zm s q (e.app f) t
  .rw[Õ c]at q;exact q.elim
 .exact q.elim
 .rename_i j k;simp only[RW]at h d;obtain⟨a,i,rfl,m,e⟩:=h;obtain⟨b,g,rfl,l,f⟩:=d;by_cases c:j.length+k.length<=WL.lim;.rw[Ð c]at q;have q:Τ F H X.K (.ok<|.l<|j++k) Q:=q;have n:=e.length;have o:=f.length;exact .inr (.inl ⟨a,b,i,g,M,M,s.seq m,s.seq l,by rw[<-n,<-o];exact ñ c eP,λp t=>Ui s q (e.app f) t⟩)
  .rw[Õ c]at q;exact q.elim
def mI:Calm WL.fK:=λx y c h=>by unfold WL.fK at h;split at h<;>first|(cases h)|(split at h<;>cases h)
def Wu{f C g r}(h:ë X f (rI C g))(k:∀x y w,r x y=.ok w->∃i j,x=.int i/\y=.int j/\C i j/\∀F,RW K F w<|g i j)(cm:Calm r):ë X f (ħ K r):=by refine ë.imp h λx y H Q a=>?_;refine ϩ a λF wx p s n l q=>?_;cases e:r _ _ with|b=>rw[e]at q;exact q.elim|x c=>exact(cm _ _ _ e).elim|ok w=>refine mJ (k _ _ w e) λi j b d m o=>?_;subst b d;rw[e]at q;exact Ub i j n l m<|eq1 q<|o F
def xt{f g r}(h:ë X f (Ic g))(k:∀x y w,r x y=.ok w->∃i j,x=.int i/\y=.int j/\∀F,RW K F w<|g i j)(cm:Calm r):ë X f (ħ K r):=by refine ë.imp h λx y H Q a=>?_;refine ϩ a λF wx o s m l q=>?_;cases e:r _ _ with|b=>rw[e]at q;exact q.elim|x c=>exact(cm _ _ _ e).elim|ok w=>refine kr (k _ _ w e) λi j b d n=>?_;subst b d;rw[e]at q;exact⟨i,j,m,l,eq1 q<|n F⟩
def fM:Calm WL.pZ:=λx y c h=>by unfold WL.pZ at h;split at h<;>cases h
def du:Calm WL.rz:=λx y c h=>by unfold WL.rz at h;split at h<;>first|(cases h)|(split at h<;>cases h)
def ki:Calm WL.oDiv:=λx y c h=>by unfold WL.oDiv at h;split at h<;>first|(cases h)|(split at h<;>cases h)
def yS:Calm WL.oMod:=λx y c h=>by unfold WL.oMod at h;split at h<;>first|(cases h)|(split at h<;>cases h)
def jH:Calm WL.oLt:=λx y c h=>by unfold WL.oLt at h;split at h<;>cases h
def jI:Calm WL.oLe:=λx y c h=>by unfold WL.oLe at h;split at h<;>cases h
def jJ:Calm WL.Ea:=λx y c h=>by unfold WL.Ea at h;split at h<;>cases h
def w_sub:ë X (binaryOp .Sub) (ħ K WL.pZ):=xt SS (λx y w e=>by unfold WL.pZ at e;split at e<;>cases e;exact⟨_,_,M,M,λF=>rfl⟩) fM
def w_mul:ë X (binaryOp .Mult) (ħ K WL.rz):=Wu MS (λx y w e=>by
 unfold WL.rz at e;split at e<;>first|(cases e)|skip
 split at e;.rename_i a;cases e;exact⟨_,_,M,M,a,λF=>rfl⟩
 .cases e) du
def JZ:ë X (binaryOp .FloorDiv) (rI (λ_ j=>0<j/\j<10^100) λi j=>.int<|i/j):=Dp λi j _ _ _ _ _ a q=>by
 have c:(0:Int)<j:=a.1;have d:j<10^100:=a.2;refine floordiv_int (by omega) (by rw[Int.fdiv_eq_ediv_of_nonneg i (by omega)];exact q)<|.inl<|PyProof.noPylong_of_log2 ?_;have b:j.natAbs<10^100:=by omega
 have:j.natAbs.log2<400:=(Il<|by omega).mpr (Ē b<|by decide+kernel);omega
def w_div:ë X (binaryOp .FloorDiv) (ħ K WL.oDiv):=Wu JZ (λx y w e=>by
 unfold WL.oDiv at e;split at e<;>first|(cases e)|skip
 split at e;.rename_i a;cases e;exact⟨_,_,M,M,a,λF=>rfl⟩
 .cases e) ki
def w_mod:ë X (binaryOp .Mod) (ħ K WL.oMod):=Wu KS (λx y w e=>by
 unfold WL.oMod at e;split at e<;>first|(cases e)|skip
 split at e;.rename_i a;cases e;exact⟨_,_,M,M,a,λF=>rfl⟩
 .cases e) yS
def w_lt:ë X (compareOp .Lt) (ħ K WL.oLt):=xt QN (λx y w e=>by unfold WL.oLt at e;split at e<;>cases e;exact⟨_,_,M,M,λF=>rfl⟩) jH
def Pg:ë X (compareOp .LtE) (ħ K WL.oLe):=xt PN (λx y w e=>by unfold WL.oLe at e;split at e<;>cases e;exact⟨_,_,M,M,λF=>rfl⟩) jI
def Og:ë X (compareOp .Gt) (ħ K WL.Ea):=xt ON (λx y w e=>by unfold WL.Ea at e;split at e<;>cases e;exact⟨_,_,M,M,λF=>rfl⟩) jJ
def dZ:Xb X (unaryOp .USub) (lo1 K WL.fU):=Xb.imp SU λx H Q a=>by
 refine kr a λF wx s b q=>?_;cases wx<;>first|exact q.elim|skip
 exact⟨_,b,q _ F H (Ext.refl F H)<|M⟩
def aJ:∀x c,WL.fU x≠.x c:=λx c h=>by cases x<;>simp[WL.fU]at h
def KH{F}{x y:VW}{v u}(h:WL.tD x y=U)(b:RW K F x v)(a:RW K F y u):Ot v u=U/\decide (v=u)=WL.eqv x y:=by
 cases x<;>first|(cases h)|skip
 all_goals cases y<;>first|(cases h;done)|(subst b;subst a;exact⟨M,by first|rfl|exact wF|exact Nv|exact wD ⟩)
def calm_eq:Calm WL.oEq:=λx y c h=>by simp only[WL.oEq]at h;split at h<;>first|(cases h)|(split at h<;>cases h)
def YU:Calm WL.Ω:=λx y c h=>by simp only[WL.Ω]at h;split at h<;>first|(cases h)|(split at h<;>cases h)
def w_eq(g:X.K=K)(i:X.A.units+64<cLine):ë X (compareOp .Eq) (ħ K WL.oEq):=by
 subst g;refine ë.imp (NN.or GS) λx y H Q a=>?_;refine ϩ a λF wx c s d b q=>?_;simp only[WL.oEq]at q;split at q;.rename_i h;obtain⟨e,f⟩:=KH h d b;exact .inl ⟨e,eq1 q<|by simp[RW,f]⟩
 .split at q;.rename_i h;rw[ł]at h;refine .inr (sA 50 _ _ (RW.ſ _ _ x h.1<|d.keep s) (RW.ſ 50 c y h.2<|b.keep s) (by omega) ?_);rw[ou 50 50 wx c h.1 h.2];exact eq1 q<|M
  .exact q.elim
def UM(g:X.K=K)(i:X.A.units+64<cLine):ë X (compareOp .NotEq) (ħ K WL.Ω):=by
 subst g;refine ë.imp (RN.or OS) λx y H Q a=>?_;refine ϩ a λF wx c s d b q=>?_;simp only[WL.Ω]at q;split at q;.rename_i h;obtain⟨e,f⟩:=KH h d b;exact .inl ⟨e,eq1 q<|by simp[RW,f]⟩
 .split at q;.rename_i h;rw[ł]at h;refine .inr (sA 50 _ _ (RW.ſ _ _ x h.1<|d.keep s) (RW.ſ 50 c y h.2<|b.keep s) (by omega) ?_);rw[ou 50 50 wx c h.1 h.2];exact eq1 q<|M
  .exact q.elim
def eK:Calm WL.ı:=λx y c h=>by cases y<;>simp only[WL.ı]at h<;>first|(cases h)|(split at h<;>cases h)
def dF:Calm WL.g7:=λx y c h=>by cases y<;>simp only[WL.g7]at h<;>first|(cases h)|(split at h<;>cases h)
set_option tactic.hygienic true
def ϥ(f:X.K=K)(i:X.A.units+64<cLine):ë X (compareOp .In) (ħ K WL.ı):=by
 subst f;refine ë.imp HS λx y H Q a=>?_;refine ϩ a λF wx e s g d q=>?_;cases e<;>simp only[WL.ı]at q<;>first|exact q.elim|skip
 all_goals
 rename_i c;by_cases h:(WL.ě 50 wx&&WL.hI 51 c)=U;.rw[Ð h]at q;rw[ł]at h;have b:=RW.ſ 51 _ y (by exact h.2)<|d.keep s;refine sA 50 _ (iW c) (RW.ſ 50 wx x h.1<|g.keep s) (by first|exact .inl b|exact .inr b) (by omega) ?_;rw[w6 h.1 h.2];exact eq1 q<|M
 .rw[Õ h]at q;exact q.elim
def jf(f:X.K=K)(i:X.A.units+64<cLine):ë X (compareOp .NotIn) (ħ K WL.g7):=by
 subst f;refine ë.imp C4 λx y H Q a=>?_;refine ϩ a λF wx e s g d q=>?_;cases e<;>simp only[WL.g7]at q<;>first|exact q.elim|skip
 all_goals
 rename_i c;by_cases h:(WL.ě 50 wx&&WL.hI 51 c)=U;.rw[Ð h]at q;rw[ł]at h;have b:=RW.ſ 51 _ y (by exact h.2)<|d.keep s;refine sA 50 _ (iW c) (RW.ſ 50 wx x h.1<|g.keep s) (by first|exact .inl b|exact .inr b) (by omega) ?_;rw[w6 h.1 h.2];exact eq1 q<|M
 .rw[Õ h]at q;exact q.elim
set_option tactic.hygienic false
def yy{F w v}(r:RW K F w v):decide (v=V.n)=WL.o7 w:=by cases w;all_goals first|(subst r;rfl)|(refine dB r λa d b _=>?_;subst b;rfl)|(obtain⟨a,rfl,_⟩:=r;rfl)|(refine vq r λa C c b _=>?_;subst b;rfl)|(refine Sg r λa C c l b _=>?_;subst b;rfl)
def IS:ë X (compareOp .Is) λx y H Q=>∃b,y=.B b/\Q (.B<|decide (x=.B b)) H:=by
 intro d s f H x y v u Q I a e h;obtain⟨b,rfl,q⟩:=h;cases e;refine wpAny_is_plain ?_<|aZ I q ?_;.cases x<;>(obtain⟨t,rfl⟩:=a;rfl)
 .cases x with|B c=>cases a;cases b<;>cases c<;>rfl|_=>(obtain⟨t,rfl⟩:=a;cases b<;>rfl)
def B4:ë X (compareOp .IsNot) λx y H Q=>∃b,y=.B b/\Q (.B !decide (x=.B b)) H:=by
 intro d s f H x y v u Q I a e h;obtain⟨b,rfl,q⟩:=h;cases e;refine wpAny_isNot_plain ?_<|aZ I q ?_;.cases x<;>(obtain⟨t,rfl⟩:=a;rfl)
 .cases x with|B c=>cases a;cases b<;>cases c<;>rfl|_=>(obtain⟨t,rfl⟩:=a;cases b<;>rfl)
set_option tactic.hygienic true in
def XD{F w v b}(r:RW K F w v):decide (v=V.B b)=WL.Ip b w:=by cases w;all_goals first|(subst r;cases b<;>first|rfl|(rename_i c;cases c<;>rfl))|(refine dB r λa f d _=>?_;subst d;cases b<;>rfl)|(obtain⟨a,rfl,_⟩:=r;cases b<;>rfl)|(refine vq r λa C e d _=>?_;subst d;cases b<;>rfl)|(refine Sg r λa C e l d _=>?_;subst d;cases b<;>rfl)
def lq:Calm WL.ϐ:=λx y c h=>by cases y<;>simp[WL.ϐ]at h
def dG:Calm WL.fJ:=λx y c h=>by cases y<;>simp[WL.fJ]at h
def w_is:ë X (compareOp .Is) (ħ K WL.ϐ):=by
 refine ë.imp (JS.or IS) λx y H Q a=>?_;refine ϩ a λF wx d s c b q=>?_;cases d<;>first|exact q.elim|skip
 .exact .inl ⟨b,eq1 q<|by simp[RW,yy c]⟩
 .exact .inr ⟨_,b,eq1 q<|by simp[RW,XD c]⟩
def jg:ë X (compareOp .IsNot) (ħ K WL.fJ):=by
 refine ë.imp (FX.or B4) λx y H Q a=>?_;refine ϩ a λF wx d s c b q=>?_;cases d<;>first|exact q.elim|skip
 .exact .inl ⟨b,eq1 q<|by simp[RW,yy c]⟩
 .exact .inr ⟨_,b,eq1 q<|by simp[RW,XD c]⟩
def CP{F ws vs i w}(r:Ê K F ws vs)(h:WL.ŏ ws i=L w):∃v,L2.ŏ vs i=L v/\RW K F w v:=by unfold WL.ŏ at h;cases e:WL.Ů _ i with|none=>rw[e]at h;cases h|some j=>rw[e]at h;obtain⟨v,a,b⟩:=r.get h;refine⟨v,?_,b⟩;unfold L2.ŏ;rw[<-r.length,show L2.Ů _ i=L j from e];exact a
def PF:Calm WL.Ą:=λx y c h=>by
 unfold WL.Ą at h;split at h<;>first|(cases h)|skip
 all_goals revert h;first|(cases WL.ŏ _ _<;>simp[WL.Ζ];done)|(cases WL.qo _ _ _<;>simp[WL.Ζ])
theorem HF{F}(k)(w:VW):∀{Ç:List (Key×V)}{ks vs},Ê K F ks (Ç.map λp=>kV p.1)->Ê K F vs (Ç.map λp=>p.2)->WL.qo k ks vs=L w->∃v,xu Ç (Sum.inr k)=L v/\RW K F w v
|[],ks,vs,r1,r2,e=>by cases ks with|nil=>simp[WL.qo]at e|cons x ks=>simp[Ê]at r1
|p::Ç,ks,vs,r1,r2,e=>by cases ks with|nil=>simp[WL.qo]at e|cons x ks=>
 cases vs with|nil=>cases x<;>cases e|cons y vs=>obtain⟨v1,o,m,a,c⟩:=r1;obtain⟨v2,q,f,d,g⟩:=r2;cases m;cases f;cases x with|str x=>
     simp only[RW]at a;have b:p.1=Sum.inr x:=by cases b:p.1 with|inl i=>rw[b]at a;cases i<;>exact absurd a (by simp[kV])|inr z=>rw[b]at a;simp only[kV]at a;cases a;rfl
     simp only[WL.qo]at e;by_cases h:x=k;.subst h;simp at e;subst e;exact⟨p.2,jQ b,d⟩
     .have l:(x==k)=O:=by simpa using h
      rw[l]at e;obtain⟨v,j,n⟩:=HF k w c g (by simpa using e);exact⟨v,by rw[jR λz=>h<|by rw[b]at z;exact Sum.inr.inj z];exact j,n⟩|_=>simp[WL.qo]at e
set_option tactic.hygienic true in
def Ez(p:X.K=K):ξ X (ħ K WL.Ą):=by
 subst p;refine ξ.imp ((NX.or XQ).or RG) λx y H Q h=>?_;obtain⟨F,wx,t,s,j,g,q⟩:=h;unfold WL.Ą at q;split at q;rotate_left 2;.rename_i o d k;obtain⟨a,r,rfl,b,n,r2⟩:=j;cases e:WL.qo k o d with|none=>rw[e]at q;exact q.elim|some w=>rw[e]at q;obtain⟨v,c,f⟩:=HF k w n r2 e;exact .inr ⟨a,_,Sum.inr k,v,M,g,s.rd b,c,eq1 q f⟩
 .exact q.elim
 all_goals rename_i l i;obtain⟨a,d,rfl,b,m⟩:=j;cases e:WL.ŏ l i with|none=>rw[e]at q;exact q.elim|some w=>rw[e]at q;obtain⟨v,c,f⟩:=CP m e;first|exact .inl<|.inl ⟨a,d,i,v,M,g,s.seq b,c,eq1 q f⟩|exact .inl<|.inr ⟨a,d,i,v,M,g,s.tup b,c,eq1 q f⟩
def Ϧ(j:X.K=K):Ο X (Ay K):=by
 subst j;have i:WL.Ā=HT.Ā:=rfl;refine Ο.imp (FW.or CU) λx lo h H Q c=>?_;refine kr c λF wx s g q=>?_;cases wx<;>simp [WL.Nd]at q<;>first|exact q.elim|skip
 .obtain⟨a,f,rfl,e,b⟩:=g;split at q;.exact q.elim
  .rename_i hw;rw[i,b.length]at hw;exact .inr (Ub a f M (s.tup e) hw λp d=>Zm s q (b.cut lo h) d)
 .obtain⟨a,f,rfl,e,b⟩:=g;exact .inl (hU a f M (s.seq e) λp d=>Ui s q (b.cut lo h) d)
def cp{F w xs}(r:Ê K F [w] xs):∃v,xs=[v]/\RW K F w v:=by obtain⟨v,t,rfl,h,rfl⟩:=r;exact⟨v,M,h⟩
def two_of{F w b xs}(r:Ê K F [w,b] xs):∃v a,xs=[v,a]/\RW K F w v/\RW K F b a:=by obtain⟨v,t,rfl,h,a,d,rfl,c,rfl⟩:=r;exact⟨v,a,M,h,c⟩
def Xu(f:X.K=K):bG X (.builtin "len") (Η K WL.eT):=by
 subst f;refine bG.imp u9 λg H Q c=>?_;refine kr c λF ws s r q=>?_;unfold WL.eT at q;split at q;.obtain⟨v,rfl,h⟩:=cp r;obtain⟨a,e,rfl,d,b⟩:=h;exact⟨a,e,M,.inl<|s.seq d,eq1 q<|by simp[RW,b.length]⟩
 .obtain⟨v,rfl,h⟩:=cp r;obtain⟨a,e,rfl,d,b⟩:=h;exact⟨a,e,M,.inr<|s.tup d,eq1 q<|by simp[RW,b.length]⟩
 .exact q.elim
def qB(j:X.K=K):bG X (.type "tuple") (Η K WL.md):=by
 subst j;refine bG.imp si λk H Q c=>?_;refine kr c λF ws s r q=>?_;unfold WL.md at q;split at q;.obtain⟨v,rfl,h⟩:=cp r;refine kr h λa e b d f=>?_;subst b;exact⟨a,e,M,.inl ⟨s.seq d,λl g=>Zm s q f g⟩⟩
 .refine fy (cp r) λv b h=>?_;subst b;have i:=h;refine kr h λa e b d f=>?_;subst b;exact⟨a,e,M,.inr ⟨s.tup d,eq1 q i⟩⟩
 .exact q.elim
set_option tactic.hygienic true in
def VA:bG X (.builtin "abs") (Η K WL.Vg):=bG.imp O0 λb H Q a=>by
 refine kr a λF ws s r q=>?_;unfold WL.Vg at q;split at q;.rename_i i;obtain⟨v,rfl,h⟩:=cp r;subst h;exact⟨i,M,eq1 q<|M⟩
 .exact q.elim
def MT(f:X.calm=U):bG X (.builtin "max") (Η K WL.Zg):=bG.imp (O3 f) λg H Q b=>by refine kr b λF ws s r q=>?_;cases e:WL.Zg _ with|b|x c=>rw[e]at q;exact q.elim|ok w=>
 unfold WL.Zg at e;split at e;.refine kr (two_of r) λv i a h d=>?_;subst a;subst h d;exact⟨_,_,M,eq1 q<|M⟩
 .cases e
noncomputable def SM:VW->Value|.n=>.type "NoneType"|.B _=>.type "bool"|.int _=>.type "int"|.str _=>.type "str"|.ty _=>.type "type"|.t _=>.type "tuple"|.l _=>.type "list"|.ġ _ _=>.type "dict"|.cls _=>.type "type"|.e _ _=>.none|.i _ _=>.none|.id _=>.none
def XP{w:VW}{t b}(h:WL.Gf w t=L b):W.kitOne K (SM w) (.type t)=L b:=by
 have c:=by
  cases w<;>first|(cases h;done)|(change(if _ then _ else _)=_ at h)
  all_goals
  split at h;.rename_i a;simpa using a
  .cases h
 cases w<;>rcases c with rfl|rfl|rfl|rfl|rfl<;>first|(cases h;done)|(rw[<-h];rfl)
def ET{F H a vs}(s:au F H)(h:ÿ K F a vs):Ĳ K H (.ref a) (.type "list")\/∃o È n,K.lookup a=L o/\o.cls=.type "list"/\o.dict=Y/\o.data=.seq È n:=by
 rcases h with(h|⟨o,h⟩)|⟨o,È,n,b,e,c,d,_⟩;.exact .inl (.l<|s _ _ h)
 .exact .inl (.î<|s _ _ h)
 .exact .inr (sA o _ n b e c d)
def vb:bG X (.builtin "isinstance") λxs H Q=>∃a o T b,xs=[.ref a,.ty T]/\X.K.lookup a=L o/\o.cls=.type "list"/\W.kitOne X.K (.type "list") (.type T)=L b/\Q (.B b) H:=by intro c s k H xs l Q I r h;obtain⟨a,o,T,b,rfl,g,i,e,q⟩:=h;obtain⟨u,j,rfl,f,d⟩:=vals2 r;cases d;cases f;exact Λ W.kitx_list I.ć ⟨o,I.ć a o g,i⟩ e (λz=>nomatch z) λtk=>⟨.B b,H,I.tok _,M,q⟩
set_option tactic.hygienic true in
def eU(m:X.K=K):bG X (.builtin "isinstance") (Η K WL.bQ):=by subst m;refine bG.imp (wZ.or vb) λA H Q f=>?_;obtain⟨F,ws,s,r,q⟩:=f;cases e:WL.bQ ws with|b|x c=>rw[e]at q;exact q.elim|ok w=>
  rw[e]at q;unfold WL.bQ at e;split at e
  .rename_i x t;split at e;.rename_i b j;cases e;obtain⟨v,B,rfl,h,y⟩:=two_of r;subst y;have d:=XP (K:=X.K) j;have fin:Q (.B b) H:=eq1 q (by simp[RW]);cases x with|n=>simp only[RW]at h;subst h;exact .inl ⟨_,t,_,b,M,.inl .n,d,fin⟩|B k=>simp only[RW]at h;subst h;exact .inl ⟨_,t,_,b,M,.inl<|.B k,d,fin⟩|int k=>simp only[RW]at h;subst h;exact .inl ⟨_,t,_,b,M,.inl<|.int k,d,fin⟩|str k=>simp only[RW]at h;subst h;exact .inl ⟨_,t,_,b,M,.inl<|.str k,d,fin⟩|ty k|ġ _ _|cls _|e _ _|i _ _|id _=>cases j|t ys=>obtain⟨a,i,rfl,g,p⟩:=h;exact .inl ⟨_,t,_,b,M,.inr ⟨a,i,M,M,s.tup g⟩,d,fin⟩|l ys=>
     obtain⟨a,i,rfl,g,p⟩:=h;rcases ET s g with ty|⟨o,l,n,u,z,C,D⟩;.exact .inl ⟨_,t,_,b,M,.inl ty,d,fin⟩
     .exact .inr ⟨a,o,t,b,M,u,z,d,fin⟩
   .cases e
  .cases e
theorem xy:∀xs,iW xs=xs.map toD|[]=>rfl|x::xs=>by simp [iW,xy _]
def sg:∀xs c,WL.eT xs≠.x c:=λxs c h=>by unfold WL.eT at h;split at h<;>cases h
def iL:∀xs c,WL.md xs≠.x c:=λxs c h=>by unfold WL.md at h;split at h<;>cases h
def yT:∀xs c,WL.Vg xs≠.x c:=λxs c h=>by unfold WL.Vg at h;split at h<;>cases h
def Q3:∀xs c,WL.Zg xs≠.x c:=λxs c h=>by unfold WL.Zg at h;split at h<;>cases h
def bK:∀xs c,WL.bQ xs≠.x c:=λxs c h=>by
 unfold WL.bQ at h;split at h;.split at h<;>cases h
 .cases h
end
structure Walk(K:W.Frag)(J:It)(xs:List VW)(F:Hp):Prop where
 go:∀(i:Nat)(x:VW),xs[i]?=L x->∀F1 H1:Hp,au F F1->au F1 H1->J.go i H1/\∀v H2,J.yld i H1 v H2->∃F2,Ext F1 H1 F2 H2/\RW K F2 x v
 stop:∀F1 H1:Hp,au F F1->au F1 H1->J.stop xs.length H1
def ŭ(B:Bx)(it:LF):TI:=λa H R=>∃b F,RS B b a F H/\Rq B b F (it b) λe=>∀J d c,RS B b a c d->Gr F H c d->Walk B.K J e c->R J d
def G6{K a xs vs F}(h:ÿ K F a vs)(r:Ê K F xs vs):Walk K (Ro K a) xs F:=by refine⟨λi x e f l b c=>?_,λf l b c=>⟨vs,c.seq<|b.seq h,by rw[r.length];exact í _⟩⟩;refine fy (r.get e) λv g k=>?_;refine⟨⟨vs,v,c.seq<|b.seq h,g⟩,λu m d=>?_⟩;obtain⟨j,y⟩:=d;subst j;have:=y _<|c.seq<|b.seq h;rw[g]at this;cases this;exact⟨f,Ext.refl _ _,k.keep b⟩
def N1{K a xs vs F}(h:ü K F a vs)(r:Ê K F xs vs):Walk K (Qo K a) xs F:=by refine⟨λi x e f l b c=>?_,λf l b c=>⟨vs,c.tup<|b.tup h,by rw[r.length];exact í _⟩⟩;refine fy (r.get e) λv g k=>?_;refine⟨⟨vs,v,c.tup<|b.tup h,g⟩,λu m d=>?_⟩;obtain⟨j,y⟩:=d;subst j;have:=y _<|c.tup<|b.tup h;rw[g]at this;cases this;exact⟨f,Ext.refl _ _,k.keep b⟩
def FH(lo)(n):(WL.û lo n).length=n:=by simp[WL.û]
def xq{K lo n F}:Walk K (Pe lo n) (WL.û lo n) F:=by
 refine⟨λi x e b h d g=>?_,λb h d g=>by rw[FH];exact í n⟩;have c:=by have:=(Ĵ.mp e).1;rwa[FH]at this
 refine⟨c,λv j a=>?_⟩;obtain⟨f,y⟩:=a;subst f y;refine⟨b,Ext.refl _ _,?_⟩;simp only[WL.û,Ų,Mr c]at e;have e:=ŧ e;subst e;simp[RW]
theorem r9:∀(xs:List VW)(k i:Nat),(WL.iS k xs)[i]?=xs[i]?.map λx=>.t [.int (k+i:Nat),x]|[],_,_=>rfl|x::xs,k,0=>rfl|x::xs,k,i+1=>by simp only[WL.iS,Yq];rw[r9 _ _ i];congr 1;funext y;congr 4;omega
theorem r6:∀(xs:List VW)k,(WL.iS k xs).length=xs.length|[],_=>rfl|x::xs,k=>by simp [WL.iS,r6 _ _]
def F6{K a xs vs F}(h:ü K F a vs)(r:Ê K F xs vs):Walk K (To K a) (WL.iS 0 xs) F:=by refine⟨λi x e o s b c=>?_,λo s b c=>⟨vs,c.tup<|b.tup h,by rw[r6,r.length];exact í _⟩⟩;rw[r9]at e;cases d:xs[i]? with|none=>rw[d]at e;cases e|some y=>rw[d]at e;obtain⟨v,k,q⟩:=r.get d;have e:=ŧ e;subst e;refine⟨⟨vs,v,c.tup<|b.tup h,k⟩,λu t f=>?_⟩;refine iQ f λp n g m=>?_;subst n;obtain⟨z,j,rfl⟩:=m vs<|c.tup<|b.tup h;rw[k]at j;cases j;have l:=c.free g;refine⟨_,Ext.new l g _,p,_,M,ü.of ai,?_⟩;simp only[Ê,RW];refine⟨_,_,M,?_,_,_,M,(q.keep b).keep<|ar l _,M⟩;simp
def y7{K a xs vs F}(h:ÿ K F a vs)(r:Ê K F xs vs):Walk K (Wm K a) (WL.iS 0 xs) F:=by refine⟨λi x e o s b c=>?_,λo s b c=>⟨vs,c.seq<|b.seq h,by rw[r6,r.length];exact í _⟩⟩;rw[r9]at e;cases d:xs[i]? with|none=>rw[d]at e;cases e|some y=>rw[d]at e;obtain⟨v,k,q⟩:=r.get d;have e:=ŧ e;subst e;refine⟨⟨vs,v,c.seq<|b.seq h,k⟩,λu t f=>?_⟩;refine iQ f λp n g m=>?_;subst n;obtain⟨z,j,rfl⟩:=m _<|c.seq<|b.seq h;rw[k]at j;cases j;have l:=c.free g;refine⟨_,Ext.new l g _,p,_,M,ü.of ai,?_⟩;simp only[Ê,RW];refine⟨_,_,M,?_,_,_,M,(q.keep b).keep<|ar l _,M⟩;simp
section
variable{X:Cx}{B:Bx}
def Sw(K:W.Frag)(e:TE):TI:=λd H R=>e d H λx b=>∃a,x=.ref a/\((∃c,ÿ K b a c)/\R (Ro K a) b\/(∃c,ü K b a c)/\R (Qo K a) b)
def SV{Æ}{Z:L2.St}{d R c x v}(f:Inv X Æ Z d c)(m:RelV x v)(q:∃a,x=.ref a/\((∃xs,ÿ X.K d a xs)/\R (Ro X.K a) d\/(∃xs,ü X.K d a xs)/\R (Qo X.K a) d)):X.wp (pyIter v) (Po X Æ Z tg R) X.xe c:=by
 obtain⟨a,e,k⟩:=q;subst e;cases m;have i:∀b∈[c.heap.objs.size],yW X Æ d b:=λb n=>by
  have e:b=c.heap.objs.size:=by grind
  subst e;exact f.Cg (í _)<|f.Û.fresh<|í _
 rcases k with⟨⟨xs,h⟩,q⟩|⟨⟨xs,h⟩,q⟩;.obtain⟨g,j,p,l⟩:=f.list h;exact wpAny_pyIter_list p.isList (Ej c.heap.objs.size [c.heap.objs.size] _ _ d M (f.kept λb o e=>Ă _ e) (B5 a _) ⟨_,ĺ _ M,M,M⟩ i q)
 .obtain⟨g,j,p,l⟩:=f.tuple h;exact wpAny_pyIter_tuple p (Ej c.heap.objs.size [c.heap.objs.size] _ _ d M (f.kept λb o e=>Ă _ e) (zb a _) ⟨_,ĺ _ M,M,M⟩ i q)
def JR{l c}(e:PE X l c):PI X tg l (Sw X.K c):=λb s g H R I h=>ß (e _ s g H _ I h) λv i a=>by refine kr a λx j d f q=>?_;exact SV d f q
def KW{K}(e:K=B.K):∀b H R,ŭ B (WL.lW ta) b H R->Sw K (lo B ta) b H R:=λb H R g=>by refine dB g λm F n q=>?_;have q:=Rq.bind q;refine eM m F n (Rq.mono (au.refl _) q λx h v o j d l k=>?_);cases x with|l xs=>obtain⟨a,i,rfl,c,f⟩:=k;refine⟨a,M,.inl ⟨⟨i,by rw[e];exact d.rb.sub.seq c⟩,?_⟩⟩;rw[e];exact h _ _ j d l<|G6 c f|t xs=>obtain⟨a,i,rfl,c,f⟩:=k;refine⟨a,M,.inr ⟨⟨i,by rw[e];exact d.rb.sub.tup c⟩,?_⟩⟩;rw[e];exact h _ o j d l<|N1 c f|_=>exact(h).elim
def cG(a:X.K=B.K)(h:PE X e (lo B ta)):PI X tg e (ŭ B<|WL.lW ta):=PI.imp (JR h)<|KW a
def fc{a p pos}(t:Gl X "range")(y:X.mg "range"=Y)(h:PE X a (lo B ta))(hs:starEach [a] X.env=[(O,eval a X.env)]:=by rfl)(f:starEach [a] X.env=(O,eval a X.env)::starEach [] X.env:=by rfl):PI X tg (.Call (.Name "range" p) [a] [] pos) (ŭ B<|WL.fW ta):=PI.imp (G4 t y (af h aV f) hs) λk H R i=>by
 refine dB i λb F o q=>?_;have q:=Rq.bind q;have u:Rq B b F (WL.aa ta WL.ak b) λws=>∀n m g,RS B b k g m->Gr F H g m->Ê B.K g ws n->∃j:Int,n=[.int j]/\-2^62<=j/\j<2^62/\R (Pe 0 j.toNat) m:=by show Rq B b F ((ta b).bind λx=>.ok [x]) _;cases e:ta b with
 |ok x=>
   rw[e]at q;intro n A s r w z;refine fy (cp z) λv l r3=>?_;subst l
   cases x with|int j=>
    subst r3;have q:Rq B b F (if -2^62<=j/\j<2^62 then .ok (WL.û 0 j.toNat)else .b) _:=q;by_cases d:-2^62<=j/\j<2^62;.rw[Ð d]at q;exact⟨j,M,d.1,d.2,q _ A s r w xq⟩
    .rw[Õ d]at q;exact q.elim|_=>exact(q).elim
 |x c=>rw[e]at q;exact q|b=>rw[e]at q;exact q
 exact eM b F o u
def vw{a c p pos}(z:Gl X "range")(C:X.mg "range"=Y)(h:PE X a (lo B ta))(h':PE X c (lo B tb))(hs:starEach [a,c] X.env=[(O,eval a X.env),(O,eval c X.env)]:=by rfl)(t:starEach [c] X.env=[(O,eval c X.env)]:=by rfl)(n:starEach [a,c] X.env=(O,eval a X.env)::starEach [c] X.env:=by rfl)(d:starEach [c] X.env=(O,eval c X.env)::starEach [] X.env:=by rfl):PI X tg (.Call (.Name "range" p) [a,c] [] pos) (ŭ B<|WL.jz ta tb):=PI.imp (K4 z C (af h (af h' aV d) n) hs t) λk H R g=>by
 refine dB g λb F w q=>?_;have q:=Rq.bind q;have G:Rq B b F (WL.aa ta (WL.aa tb WL.ak) b) λws=>∀l s f,RS B b k f s->Gr F H f s->Ê B.K f ws l->∃i j:Int,l=[.int i,.int j]/\(-2^62<=i/\i<2^62/\-2^62<=j/\j<2^62)/\R (Pe i (j-i).toNat) s:=by show Rq B b F ((ta b).bind λx=>((tb b).bind _).bind λu=>.ok (x::u)) _;cases e:ta b with
 |ok x=>rw[e]at q;have q:=Rq.bind q;cases m:tb b with
  |ok y=>rw[m]at q;intro l J E D A I;refine kr (two_of I) λv K r r3 r2=>?_;subst r;cases x with
   |int i=>cases y with|int j=>
      subst r3 r2;have q:Rq B b F (if -2^62<=i/\i<2^62/\-2^62<=j/\j<2^62 then .ok (WL.û i (j-i).toNat)else .b) _:=q;by_cases o:-2^62<=i/\i<2^62/\-2^62<=j/\j<2^62;.rw[Ð o]at q;exact⟨i,j,M,o,q _ J E D A xq⟩
      .rw[Õ o]at q;exact q.elim|_=>exact(q).elim
   |_=>exact(q).elim
  |x c=>rw[m]at q;exact q|b=>rw[m]at q;exact q
 |x c=>rw[e]at q;exact q|b=>rw[e]at q;exact q
 exact eM b F w G
def qw{l es k r p pos}(d:X.K=B.K)(w:Gl X "enumerate")(y:X.mg "enumerate"=Y)(h:PE X l (lo B ta))(hs:starEach [l] X.env=[(O,eval l X.env)]:=by rfl):PI X (.Tuple es k r) (.Call (.Name "enumerate" p) [l] [] pos) (ŭ B<|WL.zZ ta):=PI.imp (vN w y h hs) λt H R f=>by refine dB f λs F u q=>?_;have q:=Rq.bind q;refine eM s F u (Rq.mono (au.refl _) q λx g v o j c n m=>?_);cases x with|t xs=>obtain⟨a,i,rfl,b,e⟩:=m;refine⟨a,M,.inl ⟨⟨i,by rw[d];exact c.rb.sub.tup b⟩,?_⟩⟩;rw[d];exact g _ o j c n<|F6 b e|l xs=>obtain⟨a,i,rfl,b,e⟩:=m;refine⟨a,M,.inr ⟨⟨i,by rw[d];exact c.rb.sub.seq b⟩,?_⟩⟩;rw[d];exact g _ o j c n<|y7 b e|_=>exact(g).elim
def BY{i}(h:PG X e (L2.ax i)):PG X e (ŝ m B<|WL.ax i):=PG.imp h λv b H Q a=>by obtain⟨c,F,w,R,r,q⟩:=a;exact q _ H F (R.set r) Gm.refl
def mP:Ρ X [] (Xn m B WL.vo):=Ρ.imp RV λd b H Q a=>by refine xh a λc F ws R r q=>?_;cases ws with|nil=>exact⟨r,q _ H F R Gm.refl⟩|cons w ws=>exact(q).elim
def cW(u:PG X e (ŝ m B g))(x:Ρ X es (Xn m B gs))(hs:(assignEach (e::es) X.env).map (·.2)=assign e X.env::(assignEach es X.env).map (·.2):=by rfl):Ρ X (e::es) (Xn m B<|WL.di g gs):=Ρ.imp (OZ u x hs) λy l H Q f=>by refine xh f λa F ws R r q=>?_;cases ws with|nil=>exact(q).elim|cons w ws=>obtain⟨v,t,rfl,r,rt⟩:=r;refine⟨v,t,M,a,F,w,R,r,?_⟩;have q:Rq B a F (match g w a with|.ok Ô=>(match gs _ Ô with|.ok é=>.ok é|_=>.b)|_=>.b) _:=q;cases b:g w a with|b=>rw[b]at q;exact q|x c=>rw[b]at q;exact q.elim|ok ő=>rw[b]at q;intro i z s o j;have q:Rq B a F (match gs ws ő with|.ok é=>.ok _|_=>.b) _:=q;refine Xc ő s ws o (rt.keep j.f) ?_;cases d:gs ws ő with|b=>rw[d]at q;exact q|ok é=>rw[d]at q;exact λh n p R2 k=>q _ n p R2<|j.trans k|x c=>rw[d]at q;exact q.elim
def sH{k n}(x:X.K=B.K)(t:X.calm=U)(h:Ρ X es (Xn m B gs))(j:(assignEach es X.env).length=n)(s:∀ws Z b,gs ws Z=.ok b->ws.length=n)(l:∀ws Z c,gs ws Z≠.x c)(g:(assignEach es X.env).findIdx? (·.1)=Y:=by rfl):PG X (.Tuple es k pos) (ŝ m B<|WL.vn gs):=PG.imp (HR t h j g) λv o H Q e=>by refine xh e λZ F w R r q=>?_;cases w with
|t ws=>refine kr r λa u f p i=>?_;subst f;have q:Rq B Z F (gs _ Z) _:=q;refine⟨a,u,M,by rw[x];exact R.rb.sub.tup p,?_,Z,F,ws,R,i,q⟩;cases d:gs _ Z with|ok b=>rw[<-i.length];exact s _ _ _ d|x c=>exact(l _ _ _ d).elim|b=>rw[d]at q;exact q.elim
|_=>exact(q).elim
def uL:∀ws Z a,WL.vo ws Z=.ok a->ws.length=0:=λws Z a h=>by cases ws<;>simp[WL.vo]at h;rfl
def ft{n}(h:∀ws Z a,gs ws Z=.ok a->ws.length=n):∀ws Z a,WL.di g gs ws Z=.ok a->ws.length=n+1:=λws Z a q=>by cases ws with|nil=>simp[WL.di]at q|cons w ws=>have q:(match g w Z with|.ok _=>(match gs _ _ with|.ok _=>Res.ok _|_=>.b)|_=>.b)=.ok _:=q;cases b:g w Z with
 |ok ő=>rw[b]at q;have q:(match gs ws _ with|.ok é=>Res.ok _|_=>.b)=.ok _:=q;cases d:gs ws ő with|ok é=>simp[h _ _ _ d]|x c|b=>rw[d]at q;cases q
 |x c=>rw[b]at q;cases q|b=>rw[b]at q;cases q
def kY:∀ws Z c,WL.di g gs ws Z≠.x c:=λws Z c q=>by cases ws with|nil=>simp[WL.di]at q|cons w ws=>have q:(match g w Z with|.ok _=>(match gs _ _ with|.ok _=>Res.ok _|_=>.b)|_=>.b)=.x c:=q;cases a:g w Z with|ok ő=>rw[a]at q;have q:(match gs _ _ with|.ok é=>Res.ok _|_=>.b)=.x c:=q;cases b:gs _ _<;>rw[b]at q<;>cases q|x c=>rw[a]at q;cases q|b=>rw[a]at q;cases q
def UC{i:Nat}{o ix:Expr}(I:PE X o (ee i))(hi:PE X ix (lo B ta))(K:∀v,assign (.Subscript o ix pos) X.env v=(do
  let h <-holding [v] (eval o X.env)let p <-holding [v,h] (eval ix X.env)standAt pos
  holding [v,h,p] (setItem h p v)release [v,h,p] []):=by intro _;rfl):PG X (.Subscript o ix pos) (ŝ O B<|WL.ϱ i ta):=PG.imp (GR I hi set_list K) λv m H Q l=>by obtain⟨d,F,w,R,r,q⟩:=l;have q:Rq B d F (match d[i]? with|some (.w ws)=>(match ta d with|.ok (.int k)=>(match WL.Ů ws.length k with|some j=>.ok<|d.set i<|.w<|ws.set j w|none=>.b)|_=>.b)|_=>.b) _:=q;cases e:d[i]? with|none=>rw[e]at q;exact q.elim|some sl=>rw[e]at q;cases sl with|o|v _|od _ _|ob=>exact q.elim|w ws=>obtain⟨a,J,A,G,P,D,y⟩:=R.ow i ws e;have q:=q;refine⟨.ref a,A,d,F,R,?_⟩;cases n:ta d with|b=>rw[n]at q;exact q|x c=>rw[n]at q;exact(q).elim|ok k=>rw[n]at q;intro u S N Å f E;cases k with
 |int k=>simp only[RW]at E;have g:Rq B d F (match WL.Ů ws.length k with|some j=>.ok<|d.set i<|.w<|ws.set j w|none=>.b) _:=q;cases s:WL.Ů ws.length k with|none=>rw[s]at g;exact g.elim|some j=>
   rw[s]at g;have t:=f.h a _ D;refine⟨a,J,k,j,M,E,t,by rw[<-y.length];exact s,?_⟩;refine g m _ N (Å.write e A (f.nf a _ D G) P t<|Ê.set (r.keep f.f) j<|y.keep f.f) ⟨f.f,f.nf,λb x Ã=>?_,λz=>nomatch z⟩;by_cases C:b=a;.subst C;exact⟨_,ai⟩
   .exact⟨x,by rw[ag C];exact f.h b x Ã⟩
 |_=>exact(q).elim
def MQ(h:∀ws Z c,gs ws Z≠.x c):∀w Z c,WL.vn gs w Z≠.x c:=λw Z c q=>by cases w<;>simp [WL.vn]at q<;>exact h _ _ _ q
def WD{i:Nat}:∀w Z c,WL.ϱ i ta w Z≠.x c:=λw Z c q=>by
 simp only[WL.ϱ]at q;split at q
 .split at q;.split at q<;>cases q
  .cases q
 .cases q
abbrev Bx.calm(B:Bx):Bx:=⟨B.K,B.H0,B.F0,λ_ _ _=>False,λ_ _ _ _ _ h=>h⟩
def RS.PU{Z a F H}(R:RS B Z a F H):RS B.calm Z a F H:=⟨⟨R.rb.sub,R.rb.base,R.rb.ģ,R.rb.fr⟩,R.len,R.va,R.ow,R.ap,R.dd⟩
def RB.YR{F H}(R:RB B.calm F H):RB B F H:=⟨R.sub,R.base,R.ģ,R.fr⟩
def RS.ahead{Z:Ws}{d:L2.St}{F H:Hp}(R:RS B Z d F H)(k:Nat):RS B (List.replicate k .o++Z) (List.replicate k Y++d) F H:=by
 have b:∀{i:Nat}{m:Sl},(List.replicate k Sl.o++Z)[i]?=L m->m≠.o->k<=i/\Z[i-k]?=L m:=λ{i m}e G=>by
  by_cases c:i<k;.rw[Qb (by simpa using c)]at e;rw[Ar,Ð c]at e;exact absurd (ŧ e).symm G
  .rw[Qa (by simp;omega)]at e;simp only[Xh]at e;exact⟨by omega,e⟩
 have o:∀{i:Nat}{x:Option V},k<=i->d[i-k]?=L x->(List.replicate k Y++d)[i]?=L x:=λ{i x}c e=>by rw[Qa (by simp;omega)];simpa using e
 have n:∀{i:Nat}{x:Option V},k<=i->(List.replicate k Y++d)[i]?=L x->d[i-k]?=L x:=λ{i x}c e=>by rw[Qa (by simp;omega)]at e;simpa using e
 refine⟨R.rb,by simp[R.len],λi w e=>?_,λi ws e=>?_,λi j ws p a A h f q u=>?_,λi r s e=>?_,λi j r s D y a A h f q u=>?_,λi e=>?_⟩;rotate_left 3;.obtain⟨c,e⟩:=b e (by intro z;cases z);obtain⟨a,E,g,l⟩:=R.dd.od _ r s e;exact⟨a,E,o c g,l⟩
 .obtain⟨c,h⟩:=b h (by intro z;cases z);obtain⟨t,f⟩:=b f (by intro z;cases z);exact R.dd.ad _ _ r s D y a (by omega) h f (n c q)<|n t u
 .obtain⟨c,e⟩:=b e (by intro z;cases z);obtain⟨a,C,I,g,l⟩:=R.dd.ob _ e;exact⟨a,C,I,o c g,l⟩
 .obtain⟨c,e⟩:=b e (by intro z;cases z);obtain⟨v,g,l⟩:=R.va _ w e;exact⟨v,o c g,l⟩
 .obtain⟨c,e⟩:=b e (by intro z;cases z);obtain⟨a,J,g,l⟩:=R.ow _ ws e;exact⟨a,J,o c g,l⟩
 .obtain⟨c,h⟩:=b h (by intro z;cases z);obtain⟨t,f⟩:=b f (by intro z;cases z);exact R.ap _ _ ws p a (by omega) h f (n c q)<|n t u
def RS.forget{Z b c F H}(R:RS B Z c F H)(o:b.length=Z.length)(h:∀(i:Nat)sl,b[i]?=L sl->sl≠.o->Z[i]?=L sl):RS B b c F H:=⟨R.rb,by rw[o];exact R.len,λi w e=>R.va i w (h i _ e<|by simp),λi ws e=>R.ow i ws (h i _ e<|by simp),λi j ws d a f p m=>R.ap i j ws d a f (h i _ p<|by simp) (h j _ m<|by simp),R.dd.via M id (λ_ _ z=>.inl z) (λi sl g e=>⟨h i _ e (by intro z;subst z;exact g),M⟩) (au.refl _) λ_ _ _ a q _ _ n k l=>⟨k,l,n⟩⟩
def Keeps(k:Nat)(g:GF):Prop:=∀w b a,g w b=.ok a->a.length=b.length/\∀j:Nat,k<=j->a[j]?=b[j]?
def cM{k i}(h:i<k):Keeps k (WL.ax i):=λw c a e=>by cases e;exact⟨by simp,λj b=>by grind⟩
end
section
variable{X:Cx}{B:Bx}
def u3{Z w s C J xs Q}(hg:Keeps k g)(R1:RS B Z w s C)(wk:Walk B.K J xs s)(hx:xs.length<=WL.lim)(T:WL.bJ g tt ta (List.replicate k .o++Z) xs≠.b)(ex:∀c,WL.bJ g tt ta (List.replicate k .o++Z) xs=.x c->∀R e,au s e->B.xp c R e)(fin:∀all,WL.bJ g tt ta (List.replicate k .o++Z) xs=.ok all->∀ys e H',RB B e H'->Gr s C e H'->Ê B.K e all ys->∀D,H' D=Y->Q (.ref D) (upd H' D<|.l ys)):xf J (ŝ U B g) (ď B tt) (lo B ta) (List.replicate k Y++w) C Q:=by
 refine⟨λi m ys n H'=>m=xs.length-i/\i<=xs.length/\ys.length<=i/\∃e d,RS B (List.replicate k .o++Z) n e H'/\Gr s C e H'/\Ê B.K e d ys/\WL.bJ g tt ta (List.replicate k .o++Z) xs=(WL.bJ g tt ta (List.replicate k .o++Z)<|xs.drop i).bind λr=>.ok<|d++r,⟨xs.length,M,Ś _,Ś _,s,[],R1.ahead k,Gr.refl,by simp[Ê],?_⟩,?_⟩;.rw[Yd];cases WL.bJ g tt ta (List.replicate k .o++Z) xs<;>rfl
 rintro i m ys n H'⟨rfl,hi,Ã,e,d,E,l,N,a⟩;refine⟨Nat.lt_of_le_of_lt (ñ Ã<|ñ hi hx) (by decide),?_⟩;by_cases q:i<xs.length;.have hd:=Pc q;rw[hd]at a;obtain⟨go,yl⟩:=wk.go i xs[i] (ν q) e H' l.f E.rb.sub;refine .inr ⟨go,λp A x=>p.length<=i+1/\∃t d,RS B (List.replicate k .o++Z) A t x/\Gr s C t x/\Ê B.K t d p/\WL.bJ g tt ta (List.replicate k .o++Z) xs=(WL.bJ g tt ta (List.replicate k .o++Z)<|xs.drop<|i+1).bind λr=>.ok<|d++r,λp A x⟨a1,a2⟩=>⟨xs.length-(i+1),by omega,M,q,a1,a2⟩,λv x hy=>?_⟩;refine fy (yl v x hy) λt Â r2=>?_;have K:=l.f.trans Â.same;simp only[WL.bJ]at a;refine Xc _ t xs[i] (Â.rs _ _ _ E) r2 ?_;cases I:g xs[i] (List.replicate k .o++Z)with|b=>rw[I]at a;exact(T a).elim|x c=>rw[I]at a;exact ex c a _ t K|ok ő=>
   rw[I]at a;obtain⟨kl,kk⟩:=hg _ _ _ I;intro h H3 Á R3 S;have back:∀{o G:Hp},RS B ő h o G->RS B (List.replicate k .o++Z) h o G:=λ{o G}H=>H.forget kl.symm λj sl ej ne=>by grind
   have f:=Â.gr.trans ⟨S.f,S.h M,S.nf⟩;have a:WL.bJ g tt ta (List.replicate k .o++Z) xs=((tt ő).bind _).bind λr=>.ok (d++r):=a;refine eM ő Á R3 ?_;cases P:tt ő with|b=>rw[P]at a;exact(T a).elim|x c=>rw[P]at a;exact ex c a _ Á<|l.f.trans f.f|ok b=>rw[P]at a;intro G o H z;cases b with|false=>rw[Õ ř];exact⟨by omega,o,d,back H,l.trans<|f.trans z,N.keep (f.trans z).f,a⟩|true=>rw[Ð M];have a:=a;refine eM ő o H ?_;cases Å:ta ő with|b=>rw[Å]at a;exact(T a).elim|x c=>rw[Å]at a;exact ex c a _ o<|l.f.trans (f.trans z).f|ok y=>rw[Å]at a;intro u H5 F5 R5 Ä r5;refine⟨by rw[ϕ,List.length_singleton];omega,F5,d++[y],back R5,l.trans<|(f.trans z).trans Ä,(N.keep ((f.trans z).trans Ä).f).app<|.one r5,?_⟩;rw[a];cases WL.bJ g tt ta (List.replicate k .o++Z) (xs.drop<|i+1)with|ok zs=>show Res.ok _=Res.ok _;rw[Ll];rfl|x c|b=>rfl
 .have ei:i=xs.length:=by omega
  subst ei;rw[Zh]at a;have a:WL.bJ g tt ta (List.replicate k .o++Z) xs=.ok (d++[]):=a;rw[Ξ]at a;exact .inl ⟨wk.stop e H' l.f E.rb.sub,λD hD=>fin d a ys e H' E.rb l N D hD⟩
def yP(e:Keeps k g)(l:RS B Z Ö F1 H1)(wk:Walk B.K J xs F1)(i:xs.length<=WL.lim)(d:WL.bJ g tt ta (List.replicate k .o++Z) xs=.ok all)(fin:∀ys b H',RB B b H'->Gr F1 H1 b H'->Ê B.K b all ys->∀D,H' D=Y->Q (.ref D) (upd H' D<|.l ys)):xf J (ŝ U B.calm g) (ď B.calm tt) (lo B.calm ta) (List.replicate k Y++Ö) H1 Q:=u3 (B:=B.calm) e l.PU wk i (by rw[d];nofun) (λc z=>by rw[d]at z;cases z) λa z ys b H' j h r D f=>by rw[d]at z;cases z;exact fin ys b H' j.YR h r D f
def HG(o:Keeps k g):∀a H Q,lo B (WL.dD k it g tt ta) a H Q->Ko k (ŭ B it) (ŝ U B.calm g) (ď B.calm tt) (lo B.calm ta) a H Q:=by
 intro a H Q⟨m,F,R,q⟩;have q:=Rq.bind<|Rq.bind q;refine⟨m,F,R,Rq.mono (au.refl _) q λi b J v t l p wk=>?_⟩;by_cases f:i.length<=WL.lim;.rw[Ð f]at b;cases e:WL.bJ g tt ta _ i with|b|x c=>rw[e]at b;exact(b).elim|ok all=>rw[e]at b;refine yP o l wk f e λn s u h j r D d=>?_;exact b (.ref D) _ _ ((l.grow j h).new d _) (p.trans<|j.trans<|Gr.new (h.sub.free d) d _) (by exact hU D n M (ÿ.of ai)<|r.keep<|ar (h.sub.free d) _)
 .rw[Õ f]at b;exact(b).elim
def YY(n:Keeps k g):∀a H Q,Ia B (WL.uy k it g tt ta) a H Q->Ko k (ŭ B it) (ŝ U B.calm g) (ď B.calm tt) (lo B.calm ta) a H Q:=by
 intro a H Q⟨i,F,R,q⟩;have q:=Rq.bind q;refine⟨i,F,R,Rq.mono (au.refl _) q λf b J v t j o wk=>?_⟩;by_cases d:f.length<=WL.lim;.rw[Ð d]at b;cases e:WL.bJ g tt ta (List.replicate k .o++i) f with|b|x c=>rw[e]at b;exact(b).elim|ok all=>rw[e]at b;refine yP n j wk d e λs p u m h r D l=>?_;exact Zi (j.grow h m) (o.trans h) r l b
 .rw[Õ d]at b;exact(b).elim
def mQ:ϡ X [] (ď B WL.gD):=λb s d H Q I a=>by obtain⟨c,F,R,q⟩:=a;exact K2 _ s d H Q I<|q H F R Gr.refl
def VT (h:PT X c (ď B tt)):ϡ X [c] (ď B tt):=P2 h
def vy(À:þ X scope)(i:X.calm=U)(hk:ts.length=k)(d:Keeps k g)(hi:PI X tg ó (ŭ B it))(e:∀C b a c,PG (X.comp scope C ts b a c) tg<|ŝ U B.calm g)(h:∀C b a c,ϡ (X.comp scope C ts b a c) Ř<|ď B.calm tt)(f:∀C b a c,PE (X.comp scope C ts b a c) ō<|lo B.calm ta)(hs:∀x,foldedSetIterable ó X.env x=pure x:=by intro _;rfl):PE X (.ListComp ō [⟨tg,ó,Ř,0⟩] scope pos) (lo B<|WL.dD k it g tt ta):=by subst hk;exact PE.imp (NZ À i hi e h f hs)<|HG d
def CY (t:X.K=B.K)(A:Gl X x)(C:X.mg x=Y)(D:bootBuiltins x=L (.type "list"))(h:PE X e (lo B ta))(y:x≠"__name__":=by decide)(o:è x:=by decide)(s:starEach [e] X.env=(O,eval e X.env)::starEach [] X.env:=by rfl)(g:BT X pos []:=by rfl):PE X (.Call (.Name x p) [e] [] pos) (Ia B<|WL.Xz ta):=PE.imp (nq u6 A C D (af h aV s) y o s g) λz H Q i=>by refine dB i λb F R q=>?_;have q:=Rq.bind q;refine eM b F R ?_;show Rq B b F ((ta b).bind λx=>.ok [x]) _;cases r:ta b with|b|x c=>rw[r]at q;exact q|ok w=>rw[r]at q;intro I J G d u E;refine fy (cp E) λv m r3=>?_;subst m;cases w with|l xs=>obtain⟨a,n,rfl,j,f⟩:=r3;exact⟨a,n,M,.inl (by rw[t];exact d.rb.sub.seq j),λl k=>Zi d u f k q⟩|t xs=>obtain⟨a,n,rfl,j,f⟩:=r3;exact⟨a,n,M,.inr (by rw[t];exact d.rb.sub.tup j),λl k=>Zi d u f k q⟩|_=>exact(q).elim
variable{st:Stmt}{Ò:List Stmt}
def eE:ã X [] (â B WL.à):=ã.imp WV λD b H a=>by obtain⟨c,F,R,q⟩:=a;exact q _ H F R<|au.refl _
def CT:∀D a H,â B (WL.aw s1 s2) D a H->Oe (â B s1) (â B s2) D a H:=λD a H b=>by refine dB b λd F R q=>?_;refine eM d F R ?_;have q:Oq B D F (match s1 d with|.n _=>s2 _|o=>o):=q;cases e:s1 d with|n Ô=>rw[e]at q;exact λf i g h s=>⟨_,g,h,Oq.mono s q⟩|bk Ô|ct Ô|r w|x c Ô|b=>rw[e]at q;exact q
def ae(a:PS X st (â B s1))(b:ã X Ò (â B s2)):ã X (st::Ò) (â B<|WL.aw s1 s2):=ã.imp (bx a b) CT
def ao(a:PS X st (â B s1)):ã X [st] (â B s1):=cZ a
def UH(h:PE X e (lo B ta))(hs:swapsWith e Y pos.line X.env=pure O:=by rfl):PS X (.Expr e pos) (â B<|WL.Rj ta):=PS.imp (dc h hs) λD d H a=>by obtain⟨c,F,R,q⟩:=a;have q:=Oq.ø q;exact⟨c,F,R,Rq.mono (au.refl _) q λw b v j i f g r=>b _ _ _ f g.f⟩
def cV(h:PE X e (lo B ta)):PS X (.Return (L e) pos) (â B<|WL.aP ta):=PS.imp (xU h) λD d H a=>by obtain⟨c,F,R,q⟩:=a;have q:=Oq.ø q;exact⟨c,F,R,Rq.mono (au.refl _) q λw b v j i f g r=>b v _ _ f.rb g.f r⟩
def ky (h:PT X c (ď B tt))(l:ã X a (â B s1))(f:ã X d (â B s2)):PS X (.If c a d pos) (â B<|WL.Ü tt s1 s2):=PS.imp (IA h l f) λD k H b=>by refine dB b λe F R q=>?_;have q:=Oq.ø q;refine eM e F R (Rq.mono (au.refl _) q λx i n j m g=>?_);cases x with|true|false=>exact⟨e,j,m,Oq.mono g.f i⟩
def Rv (f:∀a H Q,lo B ta a H Q->tV a H Q):∀D a H,â B (WL.aN i ta) D a H->Lg tV (L2.ax i) D a H:=λD a H b=>by obtain⟨d,F,R,q⟩:=b;have q:=Oq.ø q;exact f _ _ _ ⟨d,F,R,Rq.mono (au.refl _) q λw c v j h e g r=>c _ _ _ (e.set r) g.f⟩
def IG (f:∀b H Q,Ia B l b H Q->tV b H Q):∀D b H,â B (WL.kL i l) D b H->Lg tV (L2.ax i) D b H:=λD b H c=>by refine dB c λm F R q=>?_;have q:=Oq.ø q;exact f _ _ _ (eM m F R<|Rq.mono (au.refl _) q λws h a v t s n g p o k r d=>h _ _ _ (n.IK p o k r λj u _ e=>d j _ e) g.f)
def YT (hN:X.N.Nodup)(hi:X.N[i]?=L x)(b:Loc X.env.scope x)(c:PE X e (lo B ta))(hs:swapsWith e (L<|.Name x pos') pos.line X.env=pure O:=by rfl)(a:FL X x:=by first|exact .inl rfl|exact .inr rfl|assumption):PS X (.Assign [.Name x pos'] e pos) (â B<|WL.aN i ta):=PS.imp (pT hN hi b c hs a) (Rv λ_ _ _ q=>q)
def kx  (hN:X.N.Nodup)(hi:X.N[i]?=L x)(b:Loc X.env.scope x)(c:PE X e (Ia B l))(hs:swapsWith e (L<|.Name x pos') pos.line X.env=pure O:=by rfl)(a:FL X x:=by first|exact .inl rfl|exact .inr rfl|assumption):PS X (.Assign [.Name x pos'] e pos) (â B<|WL.kL i l):=PS.imp (pT hN hi b c hs a) (IG λ_ _ _ q=>q)
def KY (hN:X.N.Nodup)(hiN:X.N[i]?=L y)(hy:X.env.scope.names.lookup y=L .local)(ϝ:swapsWith (.ListComp ō [⟨tg,ó,Ř,0⟩] scope pos) (L<|.Name y py) ϸ.line X.env=pure U)(À:þ X scope)(h:X.calm=U)(hk:ts.length=k)(d:Keeps k g)(hi:PI X tg ó (ŭ B it))(e:∀C a b c,PG (X.comp scope C ts a b c) tg<|ŝ U B.calm g)(j:∀C a b c,ϡ (X.comp scope C ts a b c) Ř<|ď B.calm tt)(f:∀C a b c,PE (X.comp scope C ts a b c) ō<|lo B.calm ta)(hs:∀x,foldedSetIterable ó X.env x=pure x:=by intro _;rfl):PS X (.Assign [.Name y py] (.ListComp ō [⟨tg,ó,Ř,0⟩] scope pos) ϸ) (â B<|WL.aN i<|WL.dD k it g tt ta):=by subst hk;exact PS.imp (lQ hN hiN hy ϝ À h hi e j f hs)<|Rv<|HG d
def X1 (hN:X.N.Nodup)(hiN:X.N[i]?=L y)(hy:X.env.scope.names.lookup y=L .local)(ϝ:swapsWith (.ListComp ō [⟨tg,ó,Ř,0⟩] scope pos) (L<|.Name y py) ϸ.line X.env=pure U)(À:þ X scope)(h:X.calm=U)(hk:ts.length=k)(d:Keeps k g)(hi:PI X tg ó (ŭ B it))(e:∀C a b c,PG (X.comp scope C ts a b c) tg<|ŝ U B.calm g)(j:∀C a b c,ϡ (X.comp scope C ts a b c) Ř<|ď B.calm tt)(f:∀C a b c,PE (X.comp scope C ts a b c) ō<|lo B.calm ta)(hs:∀x,foldedSetIterable ó X.env x=pure x:=by intro _;rfl):PS X (.Assign [.Name y py] (.ListComp ō [⟨tg,ó,Ř,0⟩] scope pos) ϸ) (â B<|WL.kL i<|WL.uy k it g tt ta):=by subst hk;exact PS.imp (lQ hN hiN hy ϝ À h hi e j f hs)<|IG<|YY d
def Cw(l:PE X e (lo B ta))(o:PG X tg (ŝ O B g))(s:∀w Z c,g w Z≠.x c)(hs:swapsWithSole [tg] e pos.line X.env=pure O:=by rfl)(hw:swappedStores [tg] e X.env=pure Y:=by rfl)(p:(assignEach [tg] X.env).map (·.2)=[assign tg X.env]:=by rfl):PS X (.Assign [tg] e pos) (â B<|WL.Hj ta g):=PS.imp (LR l o hs hw p) λD j H a=>by refine dB a λZ F R q=>?_;have q:=Oq.ø q;exact eM Z F R (Rq.mono (au.refl _) q λw f v x i k d r=>Xc Z i w k r<|Rq.mono d.f (Oq.ø f) λm n b t u R2 h=>n _ _ _ R2<|d.f.trans h.f)
def pB(x:X.K=B.K)(h:PS X st (sZ<|Af X.K "list" qS (ee i)<|ia (lo B ta) xF)):PS X st (â B<|WL.zt i ta):=PS.imp h λD g H f=>by refine dB f λb F R q=>?_;have q:Oq B D F (match b[i]? with|some (.w ws)=>WL.ø b (ta b) _|_=>.b):=q;cases c:b[i]? with|none=>rw[c]at q;exact q.elim|some sl=>rw[c]at q;cases sl with|o|v _|od _ _|ob=>exact q.elim|w ws=>
   refine mv (R.ow i ws c) λa n m u s k o=>?_;have q:=Oq.ø q;refine⟨.ref a,m,.inl ⟨M,n,ÿ.of k⟩,b,F,R,Rq.mono (au.refl _) q λw d v y r p e t=>?_⟩;by_cases j:ws.length<WL.lim;.rw[Ð j]at d;have l:=e.h a _ k;exact Sn a n v M M l (by rw[<-o.length];exact Ē j eP)<|d g _ r (p.write c m (e.nf a _ k u) s l<|(o.keep e.f).app<|.one t) e.f
   .rw[Õ j]at d;exact(d).elim
def lA(h:PS X st (â B s1)):PS X st (â B<|WL.zr i s1):=PS.imp h λD c H a=>by refine dB a λe F R q=>?_;refine iQ (R.î i) λb s d _=>?_;exact⟨_,b,d,Oq.mono s q⟩
def HQ:∀D l H,â B (WL.kq it g b) D l H->Kz (ŭ B it) (ŝ O B g) (â B b) D l H:=λD l H C=>by
 refine dB C λÅ F R q=>?_;have q:=Oq.ø q;refine eM Å F R (Rq.mono (au.refl _) q λf qx J H1 Ã Ä g1 wk=>?_);refine⟨λi m d y=>m=f.length-i/\i<=f.length/\∃h j,RS B h d j y/\au Ã j/\Oq B D j (WL.forL g b (f.drop i) h),⟨f.length,M,Ś _,Å,Ã,Ä,au.refl _,by rw[Yd];exact Oq.mono g1.f qx⟩,?_⟩;rintro i m d y⟨rfl,Â,h,j,z,E,p⟩;by_cases n:i<f.length;.have S:=Pc n;rw[S]at p;obtain⟨go,T⟩:=wk.go i f[i] (ν n) j y E z.rb.sub;refine .inr ⟨go,_,λa N h2=>⟨f.length-(i+1),by omega,M,n,h2⟩,λv N hy=>?_⟩;refine fy (T v N hy) λQ G r2=>?_;have p:=Oq.ø p;refine Xc h Q f[i] (G.rs _ _ _ z) r2 (Rq.mono G.same p λx e K H3 I Á g3=>?_);refine eM x I Á ?_;have r:=G.same.trans g3.f;cases t:b x with|n a|ct a=>rw[t]at e;exact λk A s u o=>⟨a,s,u,(E.trans r).trans o,Oq.mono (r.trans o) e⟩|bk a=>rw[t]at e;exact λk A s u o=>e k A s u<|r.trans o|r w=>rw[t]at e;exact λv4 A s u o=>e v4 A s u<|r.trans o|x c a=>rw[t]at e;exact B.mono c a j I r e|b=>rw[t]at e;exact e
 .have P:i=f.length:=by omega
  subst P;rw[Zh]at p;exact .inl ⟨wk.stop j y E z.rb.sub,p d y j z<|au.refl _⟩
def eN (e:PassesOwn (model X.prog X.w) X.A X.env X.xe)(d:X.calm=U)(hi:PI X tg ó (ŭ B it))(a:PG X tg (ŝ O B g))(c:ã X body (â B b))(hs:∀x,foldedSetIterable ó X.env x=pure x:=by intro _;rfl):PS X (.For tg ó body [] pos) (â B<|WL.kq it g b):=PS.imp (xW e d hi a c hs) HQ
def xk  (A:PassesOwn (model X.prog X.w) X.A X.env X.xe)(I:PT X c (ď B tt))(G:ã X body (â B b)):PS X (.While c body [] pos) (â B<|WL.Aw n tt b):=PS.imp (Q2 A I G) λD z H r=>by refine dB r λu F R q=>?_;refine⟨λm d y=>∃a g,RS B a d g y/\Oq B D g (WL.gc tt b m a),⟨n u,u,F,R,q⟩,?_⟩;rintro m d y⟨a,g,C,o⟩;cases m with|zero=>exact(o).elim|succ m=>have o:=Oq.ø o;refine eM a g C (Rq.mono (au.refl _) o λx e J s v l=>?_);cases x with|false=>rw[Õ ř];exact e d J s v l.f|true=>refine⟨_,λt K E=>⟨m,Bi m,E⟩,a,s,v,?_⟩;cases j:b a with|n é|ct é=>rw[j]at e;exact λf p h i k=>⟨é,h,i,Oq.mono (l.f.trans k) e⟩|bk é=>rw[j]at e;exact λf p h i k=>e f p h i<|l.f.trans k|r w=>rw[j]at e;exact λv4 p h i k=>e v4 p h i<|l.f.trans k|x c é=>rw[j]at e;exact B.mono c é g s l.f e|b=>rw[j]at e;exact e
end
def Ğ(K:W.Frag)(n:Nat)(f:List VW->Res VW):Sp:=λd H Q _=>∃F ws,au F H/\Ê K F ws d/\ws.length=n/\match f ws with|.ok w=>∀v c b,au F b->au b c->au H c->(∀a o,b a=L o->F a=L o\/H a=Y/\NF o)->RW K b w v->Q v c|_=>False
section
variable{K:W.Frag}
theorem RS.start{N F H ws vs}(s:au F H)(r:Ê K F ws vs)(A:ws.length<=N.length):RS ⟨K,H,F,λ_ _ _=>False,λ_ _ _ _ _ h=>h⟩ (ws.map .v++List.replicate (N.length-ws.length) .o) (L2.start N vs) F H:=by
 have p:=r.length;have b:∀{i:Nat}{c:Sl},(ws.map Sl.v++List.replicate (N.length-ws.length) Sl.o)[i]?=L c->c≠.o->∃u,ws[i]?=L u/\c=.v u:=λ{i c}e y=>by grind
 refine⟨⟨s,au.refl _,au.refl _,λa o h=>.inl h⟩,by simp[L2.start,p],λi u e=>?_,λi g e=>?_,λi j g d a f k m _ _=>?_,λi q g e=>?_,λi j q g t d a f k m _ _=>?_,λi e=>?_⟩;rotate_left 3;.refine fy (b e<|by intro z;cases z) λx ex h=>?_;cases h
 .obtain⟨x,ex,h⟩:=b k (by intro z;cases z);cases h
 .obtain⟨x,ex,h⟩:=b e (by intro z;cases z);cases h
 .refine fy (b e<|by intro z;cases z) λx ex h=>?_;cases h;obtain⟨v,l,n⟩:=r.get ex;refine⟨v,?_,n⟩;have w:i<vs.length:=(Ĵ.mp l).1;unfold L2.start;rw[Qb (by simpa using w),Ų,l];rfl
 .obtain⟨x,ex,h⟩:=b e (by intro z;cases z);cases h
 .obtain⟨x,ex,h⟩:=b k (by intro z;cases z);cases h
end
section
variable{X:Cx}{B:Bx}
def GG(x:X.K=B.K){E}(s:∀Z ws,á Z=.ok ws->ws.length=n):∀b H Q,lo B (WL.av fn á) b H Q->Oj (Ğ X.K n fn) [] E (Ď B á) b H Q:=by intro b H Q⟨Z,F,R,q⟩;have q:=Rq.bind q;refine eM Z F R ?_;cases j:á Z with|b|x c=>rw[j]at q;exact q|ok ws=>rw[j]at q;intro D G r d u A;rw[Ξ,x];refine Ub r ws d.rb.sub A (s Z ws j) ?_;have f:Rq B Z F (match fn ws with|.ok w=>.ok w|_=>.b) _:=q;cases m:fn ws with
|b|x c=>rw[m]at f;exact f.elim
|ok w=>rw[m]at f;intro v h e l y k fr r2;have p:Gr r _ e h:=⟨l,k,λa o C g=>by cases i:e a with|none=>rfl|some o2=>
  rcases fr a o2 i with z|z;.rw[g]at z;cases z
  .rw[C]at z;cases z.1⟩;have t:RB B e h:=⟨y,d.rb.base.trans k,d.rb.ģ.trans l,λa o i=>by
  rcases fr a o i with z|z;.exact d.rb.fr a o z
  .exact .inr ⟨d.rb.base.free z.1,z.2⟩⟩;exact f v h e (d.grow p t) (u.trans p) r2
def XH(i:X.K=B.K)(F:X.Fn ē k f fd ps (Ğ X.K n fn))(l:Ñ k X.A)(c:Gl X x)(g:X.mg x=L (.ref f))(hk:W.keepIn X.K (.ref f)=U)(d:Binds X.K fd ps [])(j:PA X (e::es) (Ď B á))(h:∀Z ws,á Z=.ok ws->ws.length=n)(b:è x:=by decide)(m:SE X e es:=by rfl)(a:BT X pos es:=by rfl):PE X (.Call (.Name x p) (e::es) [] pos) (lo B<|WL.av fn á):=PE.imp (AG F l c g hk d .nil Qu j b m a)<|GG i h
def O1(l:X.K=B.K)(F:X.Fn ē k f fd ps (Ğ X.K 0 fn))(g:Ñ k X.A)(b:Gl X x)(d:X.mg x=L (.ref f))(hk:W.keepIn X.K (.ref f)=U)(c:Binds X.K fd ps [])(a:è x:=by decide):PE X (.Call (.Name x p) [] [] pos) (lo B<|WL.av fn WL.ak):=PE.imp (KZ F g b d hk c .nil Qu a) λj H Q q=>by have h:=GG (E:=E0) l λi ws e=>by cases e;rfl _ H Q q;refine dB h λi F R h=>?_;exact h _ H F R Gr.refl<|M
def iz:∀Z(ws:List VW),WL.ak Z=.ok ws->ws.length=0:=λZ ws e=>by cases e;rfl
def cx (h:∀Z(ws:List VW),á Z=.ok ws->ws.length=n):∀Z(ws:List VW),WL.aa t á Z=.ok ws->ws.length=n+1:=λZ ws q=>by have q:(t Z).bind _=.ok _:=q;cases b:t Z with|b|x c=>rw[b]at q;cases q|ok x=>rw[b]at q;cases a:á Z with|b|x c=>rw[a]at q;cases q|ok xs=>rw[a]at q;cases q;simp[h Z _ a]
end
def Sj(K:W.Frag):Sp:=λd H Q _=>∃(a:Addr)(b:List Int),d=[.ref a]/\ÿ K H a (b.map V.int)/\b.length<=63/\∀c,Q (.B U) c
def CQ{P w K d b k f g ps i}(G:ä P w K d b ē k f g ps (Ğ K 1 i))(h:∀ns:List Int,ns.length<=63->i [.l<|ns.map .int]=.ok (.B U)):ä P w K d b ē k f g ps (Sj K):=G.imp λo H Q E c=>by refine mJ c λa ns e l j q=>?_;subst e;refine⟨H,[.l _],au.refl _,.one (by exact⟨a,_,M,l,Ê.ints _⟩),M,?_⟩;rw[h _ j];intro v n m _ _ _ _ r;subst r;exact q _
section
variable{X:Cx}{K:W.Frag}
def kj:∀xs c,WL.Ϣ xs≠.x c:=λxs c h=>by
 unfold WL.Ϣ at h;split at h;.split at h<;>cases h
 .cases h
theorem JE{F}:∀{xs vs b},Ê K F xs vs->WL.Tc xs=L b->∃bs:List Bool,vs=bs.map V.B/\bs.all id=b|[],vs,b,r,e=>by subst r;cases e;exact⟨[],M,M⟩|x::xs,vs,b,r,e=>by obtain⟨v,t,rfl,q,s⟩:=r;cases x with
 |B k=>simp only[WL.Tc]at e;cases a:WL.Tc xs with|none=>rw[a]at e;cases e|some c=>rw[a]at e;cases e;obtain⟨bs,rfl,h⟩:=JE s a;subst q;exact⟨k::bs,M,by simp only[Yf,id,h]⟩
 |_=>simp[WL.Tc]at e
set_option tactic.hygienic true in
def w_all(l:X.calm=U)(m:X.K=K):bG X (.builtin "all") (Η K WL.Ϣ):=by subst m;refine bG.imp (N3 l) λn H Q d=>?_;refine kr d λF ws s r q=>?_;cases e:WL.Ϣ _ with|b|x c=>rw[e]at q;exact q.elim|ok w=>
  rw[e]at q;unfold WL.Ϣ at e;split at e
  .split at e;.rename_i b k;cases e;obtain⟨v,rfl,h⟩:=cp r;refine kr h λa o g j i=>?_;subst g;obtain⟨bs,rfl,f⟩:=JE i k;subst f;exact⟨a,bs,M,s.seq j,eq1 q<|M⟩
   .cases e
  .cases e
end
section
variable{X:Cx}{B:Bx}{K:W.Frag}
theorem uJ:∀{ys:List VW}{x:VW}{j k:Nat}{n m:Nat},WL.ě n x=U->WL.hI m ys=U->WL.idx x j ys=L k->∃i,k=j+i/\HE (λz=>PyData.eqv z<|toD x) (iW ys) i|[],_,_,_,_,_,_,_,e=>by simp[WL.idx]at e|y::ys,x,j,k,n,m,hx,a,e=>by cases m with|zero=>cases a|succ m=>
   have a:=Sb.mp a;simp only[WL.idx]at e;have f:=ou m n y x a.1 hx;by_cases h:WL.eqv y x=U;.rw[Ð h]at e;cases e;refine⟨0,M,⟨toD y,M,by show PyData.eqv (toD y) (toD x)=U;rw[f];exact h⟩,λm d g=>absurd g<|Ji _⟩
   .rw[Õ h]at e;obtain⟨i,rfl,⟨d,o,q⟩,p⟩:=uJ hx a.2 e;refine⟨i+1,by omega,⟨d,by simpa[iW]using o,q⟩,λb l g c=>?_⟩;cases b with|zero=>simp[iW]at c;subst c;show PyData.eqv (toD y) (toD x)=O;rw[f];simpa using h|succ b=>exact p b l (by omega) (by simpa[iW]using c)
set_option tactic.hygienic true in
def qv{x:Expr}(s:X.K=B.K)(hu:X.A.units+64<cLine)(T:PE X o (lo B to))(Ä:PA X [x] (Ď B á))(f:attributeBase o "index" X.env (eval o X.env)=eval o X.env:=by rfl)(j:((backTo Ó<|starEach [x] X.env).all (λx=>!x.1)&&(backToKw Ó<|keywordEach [] X.env).all (λx=>x.1.isSome)&&decide (([x]:List Expr).length+([]:List Keyword).length+(if([]:List Keyword).isEmpty then 0 else 1)<30))=U:=by rfl)(e:(å.endLine==Ó.line)=U:=by rfl)(hs:starEach [x] X.env=(O,eval x X.env)::starEach [] X.env:=by rfl)(d:BT X Ó []:=by rfl):PE X (.Call (.Attribute o "index" å) [x] [] Ó) (lo B<|WL.ov "list" WL.fL to á):=PE.imp (kM Pb PySem.F.slot_list_index PySem.F.type_list_index T4 T Ä f j e hs d) λJ H Q p=>by obtain⟨l,F,R,q⟩:=p;have q:=Rq.bind q;refine⟨l,F,R,Rq.mono (au.refl _) q λw n v H1 F1 E D t=>?_⟩;cases w with
 |l ys=>have n:=Rq.bind (show Rq B l F ((á l).bind λws=>WL.fL (.l ys) ws) _ from n);have r:=t;simp only[RW]at t;obtain⟨a,Â,rfl,N,ra⟩:=t;refine⟨.inl ⟨M,Â,by rw[s];exact E.rb.sub.seq N⟩,l,F1,E,Rq.mono D.f n λws m us Å Ã R2 A r2=>?_⟩;cases em:WL.fL (.l ys) ws with
  |b=>rw[em]at m;exact m.elim|x c=>
    unfold WL.fL at em;split at em
    .split at em;.split at em<;>cases em
     .cases em
    .cases em|ok z=>
    rw[em]at m;unfold WL.fL at em;split at em
    .rename_i e1 e2 Á y G;cases G;split at em
     .rename_i b;rw[ł,ł]at b;obtain⟨b,h⟩:=b;split at em
      .rename_i k P;cases em;obtain⟨u,rfl,S⟩:=cp r2;obtain⟨i,C,fa⟩:=uJ b.1 b.2 P;have C:k=i:=by omega
       subst C;have sub:=R2.rb.sub;have I:=RW.ſ 51 (.l ys) (.ref a) b.2<|(r.keep A.f).keep sub;have g:(iW ys).length<=1000000:=by rw[xy,Į];exact Ei h
       refine⟨50,u,toD y,iW ys,k,M,by rw[s];exact RW.ſ 50 y u b.1<|S.keep sub,by rw[s];exact I,by omega,fa,g,?_⟩;exact m (.int k) Å Ã R2 (D.trans A) (by simp[RW])
      .cases em
     .cases em
    .cases em
 |_=>exact False.elim n
def DV{P w K i c x b st f g N ps k m}(Fn:đ K x b st f g)(S:Î N ps (aj st))(q:ps.length=m):ä P w K i c ē k f g ps (Ğ K m λ_=>.b):=⟨λj H Q E a=>by refine mJ a λ_ _ _ _ _ h=>?_;exact h.elim,λA d s H e r j Q E t l n o p a=>by refine mJ a λ_ _ _ _ _ h=>?_;exact h.elim⟩
def Kv{F}:∀k u,WL.qo k [] []=L u->∃v,List.lookup k []=L v/\RW K F u v:=λk u h=>by simp[WL.qo]at h
def eG{F x a v0}{ks vs:List VW}{Ç}(d:RW K F a v0)(h:∀k u,WL.qo k ks vs=L u->∃v,Ç.lookup k=L v/\RW K F u v):∀k u,WL.qo k (.str x::ks) (a::vs)=L u->∃v,List.lookup k ((x,v0)::Ç)=L v/\RW K F u v:=λk u e=>by
 simp only[WL.qo]at e;by_cases b:x=k;.subst b;simp at e;subst e;exact⟨v0,by simp,d⟩
 .obtain⟨v,f,c⟩:=h k u (by grind);exact⟨v,by grind,c⟩
def RT{a i f a0 Ç}{ks vs:List VW}(t:X.K=B.K)(j:PE X a (tC<|.ref a0))(D:Dh X.w X.K a0 Ç)(hi:PE X i (lo B f))(m:∀F k w,WL.qo k ks vs=L w->∃v,Ç.lookup k=L v/\RW B.K F w v)(hs:lu i):PE X (.Subscript a i pos) (lo B<|WL.Ì WL.Ą (WL.eC<|.ġ ks vs) f):=PE.imp (NA (L0 D) j hi hs) λh H Q d=>by refine dB d λc F R q=>?_;have q:=Rq.bind (show Rq B c F ((f c).bind _) _ from q);refine eM c F R (Rq.mono (au.refl _) q λy b v s g l r p=>?_);cases y with
 |str k=>have b:Rq B c F (WL.Ζ _) _:=b;cases e:WL.qo k ks vs with|none=>rw[e]at b;exact b.elim|some w=>rw[e]at b;refine fy (m g k w e) λu n o=>?_;exact⟨M,k,u,p,n,b u s g l r o⟩
 |_=>exact(b).elim
end
def Fw:HO->Prop|.t _=>True|.ext _=>True|.xd _=>True|_=>False
def xb(K:W.Frag)(H:Hp)(h:Addr)(y:Str):Prop:=∃C a t,H h=L (.ext<|excAt h C a)/\Ÿ K C/\(a.1=Y\/∃d b,a.1=L d/\H d=L (.xd b))/\a.2.1=.ref t/\H t=L (.t [.str y])/\y.length<=5000000
def xb.via{K F b h y}(q:xb K F h y)(k:∀a o,Fw o->F a=L o->b a=L o):xb K b h y:=by obtain⟨C,l,t,f,n,g,i,m,c⟩:=q;exact⟨C,l,t,k _ _ trivial f,n,g.imp id λ⟨d,_,j,e⟩=>⟨d,_,j,k _ _ trivial e⟩,i,k _ _ trivial m,c⟩
theorem Ϙ.via{F b}(k:∀a o,Fw o->F a=L o->b a=L o):∀{n v},Ϙ F n v->Ϙ b n v|0,_,z=>z|n+1,_,⟨a,C,dx,z,h,r⟩=>⟨a,C,dx,z,k _ _ trivial h,Ϙ.via k r⟩
def AX(K:W.Frag)(F:Hp)(nm:String)(a:List (Str×V))(dx:DX):Prop:=(∃n,Ϙ F n dx.2.2)/\(nm="Broken"/\(∃n h y,a=[(("at":Str),V.int n),(("why":Str),V.ref h)]/\xb K F h y)\/nm≠"Broken"/\∃t y,dx.2.1=.ref t/\F t=L (.t [.str y])/\y.length<=5000000)
theorem AX.via{K F c nm b dx}(h:AX K F nm b dx)(k:∀a o,Fw o->F a=L o->c a=L o):AX K c nm b dx:=⟨h.1.elim λn z=>⟨n,Ϙ.via k z⟩,h.2.imp (λ⟨z,n,a,y,e,q⟩=>⟨z,n,a,y,e,q.via k⟩) λ⟨z,t,y,f,d,g⟩=>⟨z,t,y,f,k _ _ trivial d,g⟩⟩
def XR(K:W.Frag)(F:Hp):VW->Addr->DX->Prop|.e nm fs,C,dx=>ExcAt K nm C/\∃a:List (Str×V),a.map (·.1)=WL.fieldsOf nm/\Ê K F fs (a.map (·.2))/\(a=[]/\dx.1=Y\/∃d,dx.1=L d/\F d=L (.xd a))/\AX K F nm a dx|_,_,_=>False
theorem XR.keep{K F b}(s:au F b){c C dx}(h:XR K F c C dx):XR K b c C dx:=by cases c with|e nm fs=>obtain⟨g,e,m,i,j,l⟩:=h;exact⟨g,_,m,i.keep s,j.imp (λz=>z) λa=>by obtain⟨d,k,f⟩:=a;exact⟨d,k,s _ _ f⟩,l.via λ_ _ _ z=>s _ _ z⟩|_=>exact h
def OA{nm}(h:WL.fieldsOf nm=[]):nm≠"Broken":=λz=>by rw[z]at h;cases h
def XR.is{K F c C dx}(h:XR K F c C dx):∃nm fs,c=.e nm fs/\ExcAt K nm C:=by cases c with|e nm fs=>exact⟨nm,fs,M,h.1⟩|_=>exact h.elim
def XW(X:Cx)(B:Bx):Prop:=∀(a:Pn)(b:L2.St)(H:Hp)(s:Shared)(f:Ws)(F:Hp)(c:VW),RS B f b F H->B.xp c f F->∀(e C:Addr)(d:DX)(T:Option Addr)(g:Value),ù X a b H s e C d g T->XR X.K F c C d->X.xe (.ref e) s
abbrev Bx.pF(B:Bx)(a:VW->Ws->Hp->Prop)(mono:∀c Z F b,au F b->a c Z F->a c Z b):Bx:=⟨B.K,B.H0,B.F0,a,mono⟩
abbrev Bx.never(B:Bx):Bx:=B.pF (λ_ _ _=>False) λ_ _ _ _ _ h=>h
def qr (h:∀c Z F,¬B.xp c Z F):XW X B:=λ_ _ _ _ Z F c _ q=>(h c Z F q).elim
section
variable{B B':Bx}
def RB.box(R:RB B F H)(b:B'.H0=B.H0)(c:B'.F0=B.F0):RB B' F H:=⟨R.sub,b▸R.base,c▸R.ģ,λa o e=>by rw[b,c];exact R.fr a o e⟩
theorem RS.box(R:RS B Z Ö F H)(hk:B'.K=B.K)(a:B'.H0=B.H0)(b:B'.F0=B.F0):RS B' Z Ö F H:=⟨R.rb.box a b,R.len,λi w e=>by rw[hk];exact R.va i w e,λi ws e=>by rw[hk,a];exact R.ow i _ e,R.ap,by rw[hk,a];exact R.dd⟩
end
section
variable{X:Cx}{B:Bx}
def ĵ(K:W.Frag)(n:Nat)(f:List VW->Res VW):Sp:=λg H Q E=>∃F ws,au F H/\Ê K F ws g/\ws.length=n/\match f ws with|.ok w=>∀v d b,au F b->au b d->au H d->(∀a o,b a=L o->F a=L o\/H a=Y/\NF o)->RW K b w v->Q v d|.x c=>∀C e d b,au F b->au b d->au H d->(∀a o,b a=L o->F a=L o\/H a=Y/\NF o)->XR K b c C e->E (.ref C) e d|.b=>False
def RS.ext3{Z c e h b f}(d:RS B Z c e h)(l:au e b)(m:au b f)(k:au h f)(fr:∀a o,b a=L o->e a=L o\/h a=Y/\NF o):Gr e h b f/\RS B Z c b f:=by
 have g:Gr e _ b _:=⟨l,k,λa o n i=>by cases j:b a with|none=>rfl|some o2=>
  rcases fr a _ j with z|z;.rw[i]at z;cases z
  .rw[n]at z;cases z.1⟩;exact⟨g,d.grow g ⟨m,d.rb.base.trans k,d.rb.ģ.trans l,λa o j=>(fr a o j).elim (λz=>d.rb.fr a o z) λz=>.inr ⟨d.rb.base.free z.1,z.2⟩⟩⟩
def mx{Z a F H h p ws vs us Q}(I:X.K=B.K)(A:XW X B)(o:RS B Z a h p)(g:Gr F H h p)(r:Ê B.K h ws vs)(D:ws.length=n)(q:Rq B Z F (fn ws) λw=>∀v H' k,RS B Z a k H'->Gr F H k H'->RW B.K k w v->Q v H')(y:us=vs):∃E,ĵ X.K n fn us p Q E/\∀Æ s e C dx T H',ù X Æ a H' s e C dx .none (L T)->E (.ref C) dx H'->X.xe (.ref e) s:=by
 rw[I,y];refine⟨λC dx f=>∃m b c,C=.ref m/\RS B Z a b f/\B.xp c Z b/\XR B.K b c m dx,⟨h,ws,o.rb.sub,r,D,?_⟩,λÆ s e C dx T H' t⟨m,b,c,G,R2,z,x⟩=>?_⟩;.cases j:fn ws with|b=>rw[j]at q;exact q.elim|ok w=>rw[j]at q;intro v f b d l i fr r2;obtain⟨u,R2⟩:=o.ext3 d l i fr;exact q v f b R2 (g.trans u) r2|x c=>rw[j]at q;intro C dx f b d l i fr x;obtain⟨u,R2⟩:=o.ext3 d l i fr;exact⟨C,b,c,M,R2,B.mono c Z F b (g.f.trans d) q,x⟩
 .cases G;exact A Æ a H' s Z b c R2 z e C dx (L T) _ t (by grind)
def XY(i:X.K=B.K)(g:XW X B)(e:∀Z ws,á Z=.ok ws->ws.length=n):∀a H Q,lo B (WL.bc fn á) a H Q->s9 X (ĵ X.K n fn) [] (Ď B á) a H Q:=by intro a H Q⟨Z,F,R,q⟩;have q:=Rq.bind q;refine eM Z F R ?_;cases b:á Z with|b|x c=>rw[b]at q;exact q|ok ws=>rw[b]at q;exact λk l j h d f=>mx i g h d f (e Z _ b) q<|Ξ _
def P1(j:X.K=B.K)(i:XW X B)(F:X.Fn (ò X.prog X.w) k f fd ps (ĵ X.K n fn))(m:Ñ k X.A)(c:Gl X x)(g:X.mg x=L (.ref f))(hk:W.keepIn X.K (.ref f)=U)(d:Binds X.K fd ps [])(l:PA X (e::es) (Ď B á))(h:∀Z ws,á Z=.ok ws->ws.length=n)(b:è x:=by decide)(o:SE X e es:=by rfl)(a:BT X pos es:=by rfl):PE X (.Call (.Name x p) (e::es) [] pos) (lo B<|WL.bc fn á):=PE.imp (qY F m c g hk d .nil l b o a)<|XY j i h
def xl (I:X.K=B.K)(r:XW X B)(A:X.calm=U)(n:Gl X x)(o:X.mg x=L (.ref C))(q:ko X.K C Y)(u:ExcAt X.K nm C)(i:WL.fieldsOf nm=[])(w:PA X (e::es) (Ď B á))(p:è x:=by decide)(z:SE X e es:=by rfl)(a:BT X Ó es:=by rfl):PS X (.Raise (L<|.Call (.Name x np) (e::es) [] Ó) Y pos) (â B<|WL.Zv nm á):=PS.imp (xV A n o q w p z a) λD h H f=>by
 refine dB f λg F R q=>?_;have q:=Oq.ø q;refine eM g F R (Rq.mono (au.refl _) q λws d J N K j G E=>?_);by_cases b:WL.Wt ws=U
 .rw[Ð b]at d;obtain⟨y,rfl,Å⟩:∃y,ws=[.str y]/\y.length<=5000:=by
   unfold WL.Wt at b;split at b;.exact⟨_,M,Ei b⟩
   .cases b
  obtain⟨v,_,rfl,rfl,rfl⟩:=E;refine⟨show 1<=sizeLine by decide,λc s e m l t=>?_⟩;have k:=ar (j.rb.sub.free l)<|.t [.str y];exact r c h _ s g _ _ (j.new l _) (B.mono _ g F _ (G.f.trans k) d) e C _ Y _ t ⟨u,[],by rw[i];rfl,by simp[Ê],.inl ⟨M,M⟩,⟨0,M⟩,.inr ⟨OA i,m,y,M,ai,by omega⟩⟩
 .rw[Õ b]at d;exact(d).elim
theorem Oq.box  (hk:B'.K=B.K)(a:B'.H0=B.H0)(b:B'.F0=B.F0)(g:∀c Z,o=.x c Z->B'.xp c Z F)(h:Oq B D F o):Oq B' D F o:=by cases o with|n Z|bk Z|ct Z=>exact λf e d R s=>h _ _ _ (R.box hk.symm a.symm b.symm) s|r w=>exact λv e d R s r=>h v _ _ (R.box a.symm b.symm) s (by grind)|x c Z=>exact g c Z M|b=>exact h
def Oq.Qy{f:VW->Ws->Out}(hk:B'.K=B.K)(a:B'.H0=B.H0)(d:B'.F0=B.F0)(b:∀c Z,Oq B D F (f c Z)->B'.xp c Z F)(h:Oq B D F (match o with|.x c Z=>f c Z|o=>o)):Oq B' D F o:=by cases o with|x c Z=>exact b c Z h|_=>exact Oq.box hk a d λ_ _ z=>by grind h
def qu{d n hs tb}{m:VW->Ws->Out}(K:X.K=B.K)(r:X.stack=X.env::X.outer)(A:X.env.frame=L X.env.locals)(Â:∀E v B',B'.K=X.K->XW (X.tri E v) B'->PassesOwn (model X.prog X.w) X.A X.env E->ã (X.tri E v) d (â B' tb))(C:∀Æ D a H s Z F c e k dx j T,RS B Z a F H->Oq B D F (m c Z)->XR X.K F c k dx->ù X Æ a H s e k dx j (L T)->X.wp (handleBy (.ref e) X.env (n::hs)) (SP X Æ D) X.xe s):PS X (.Try d (n::hs) [] [] pos) (â B λZ=>match tb Z with|.x c b=>m c b|o=>o):=by intro Æ s a H D I⟨Z,F,R,q⟩;refine wpAny_Try_except ?_;let w:VS:=λe i=>X.wp (noteFrame e X.env) (λ_ g=>X.wp (setFlight e Y) (λ_ l=>X.wp (handleBy e X.env (n::hs)) (SP X Æ D) X.xe l) X.xe g) X.xe i;let x:Bx:=B.pF (λc b u=>Oq B D u<|m c b) λc b u J s h=>Oq.mono s h;have P:=Â w (X.pn++Æ) x K.symm (λp f Ä y S F1 c Ã N e k dx T j t G=>(show ù X Æ f Ä y e k dx j T from t.jh).note r A λh' T' _ Q=>Q.og λÅ Á=>C Æ D _ _ _ _ _ c e k dx _ _ (Ã.box M M M) N G Á) PassesOwn.looking;refine Ĝ (P [] s a H D (I.tri w) ⟨Z,F,R.box M M M,Oq.Qy (B:=B) (B':=x) M M M (λ_ _ z=>z) q⟩) (λj s' h=>?_) λ_ _ z=>z;have h:=SP.jh h;cases j with|next=>exact Tf h|_=>exact h
def XE{Æ D b H s Z F c e j dx l T}{a k C d th}(A:X.K=B.K)(q:Gl X x)(u:X.mg x=L (.ref C))(v:è x)(y:∀nm m,ExcAt X.K nm m->W.exmOne X.K (.ref m) (.ref C)=L (WL.mw nm d))(p:∀e B',B'.K=X.K->XW (X.ă e) B'->ã (X.ă e) (k::a) (â B' th))(R:RS B Z b F H)(i:Oq B D F (WL.hOut d th c Z))(r:XR X.K F c j dx)(t:ù X Æ b H s e j dx l (L T)):X.wp (handleBy (.ref e) X.env [.ExceptHandler (L<|.Name x np) Y (k::a) Ė]) (SP X Æ D) X.xe s:=by obtain⟨nm,fs,rfl,w⟩:=r.is;have ex:=y nm j w;cases g:WL.mw nm d with|false=>rw[show WL.hOut d th (.e nm fs) Z=.b by simp[WL.hOut,WL.cF,g]]at i;exact i.elim|true=>rw[show WL.hOut d th (.e nm fs) Z=match th Z with|.x _ _=>.b|o=>o by unfold WL.hOut;rw[show WL.cF d (.e nm fs)=U from g];rfl]at i;rw[g]at ex;refine wm t q u ex (λG n=>Ĝ (p e B.never A.symm (qr λ_ _ _ z=>z) Æ _ b H D (n.inv.ă e) ⟨Z,F,R.box M M M,?_⟩) (λl E h=>SP.back n.inv h) λ_ _ z=>z) v;exact Oq.Qy (B:=B) (B':=B.never) (f:=λ_ _=>.b) M M M (λ_ _ z=>False.elim z) i
def WC{b a h C d tb th}(g:X.K=B.K)(hs:X.stack=X.env::X.outer)(i:X.env.frame=L X.env.locals)(k:Gl X x)(m:X.mg x=L (.ref C))(o:∀nm f,ExcAt X.K nm f->W.exmOne X.K (.ref f) (.ref C)=L (WL.mw nm d))(l:∀E c B',B'.K=X.K->XW (X.tri E c) B'->PassesOwn (model X.prog X.w) X.A X.env E->ã (X.tri E c) b (â B' tb))(j:∀e B',B'.K=X.K->XW (X.ă e) B'->ã (X.ă e) (h::a) (â B' th))(n:è x:=by decide):PS X (.Try b [.ExceptHandler (L<|.Name x np) Y (h::a) Ė] [] [] pos) (â B<|WL.Ge tb d th):=qu g hs i l λ_ _ _ _ _ _ _ _ _ _ _ _ _=>XE g k m n o j
end
section
variable{K:W.Frag}
def oy{x a st f C N ps k m n}{D:List VW->Res VW}(t)(Fn:đ K x a st f C)(S:Î N ps (aj st))(J:N.length=n)(g:ps.length=m)(q:WL.run n t=D)(R:ps.length<=N.length)(h:∀d A b s H E B,B.K=K->Ñ k (A.deeper<|envOfC a (aj st) s.heap.objs.size f d)->XW (fA ē P w K mg base N a (aj st) f d A b s H E).Ga B->PassesOwn (model P w) (A.deeper<|envOfC a (aj st) s.heap.objs.size f d) (envOfC a (aj st) s.heap.objs.size f d) (λ_ _=>False)->ã (fA ē P w K mg base N a (aj st) f d A b s H E).Ga (aC st) (â B t)):ä P w K mg base ē (k+1) f C ps (Ğ K m D):=by subst J g q;refine Fn.ok S (λÃ H Q E i=>by refine mJ i λF ws _ r I _=>?_;rw[<-r.length];exact I) λd A b s H Ã Q E T i=>?_;refine mJ i λF ws Å r I g=>?_;refine⟨_,h d A b s H E _ M T (qr λ_ _ _ z=>z) PassesOwn.never,_,F,RS.start Å r (by omega),?_⟩;unfold WL.run at g;cases e:t _ with|r w=>rw[e]at g;exact λv y j l u p=>g v y j u l.sub l.base l.fr p|n Ô=>rw[e]at g;exact λG y j o u=>g .n y j u o.rb.sub o.rb.base o.rb.fr<|M|bk Ô|ct Ô|x c Ô|b=>rw[e]at g;exact g.elim
def wC{x b st f R N ps k m n}{Â:List VW->Res VW}(t)(Fn:đ K x b st f R)(S:Î N ps (aj st))(hn:N.length=n)(g:ps.length=m)(G:WL.run n t=Â)(a5:ps.length<=N.length)(h:∀d A a s H E B,B.K=K->Ñ k (A.deeper<|envOfC b (aj st) s.heap.objs.size f d)->XW (fA (ò P w) P w K mg base N b (aj st) f d A a s H E) B->PassesOwn (model P w) (fA (ò P w) P w K mg base N b (aj st) f d A a s H E).A (fA (ò P w) P w K mg base N b (aj st) f d A a s H E).env (fA (ò P w) P w K mg base N b (aj st) f d A a s H E).xe->ã (fA (ò P w) P w K mg base N b (aj st) f d A a s H E) (aC st) (â B t)):ä P w K mg base (ò P w) (k+1) f R ps (ĵ K m Â):=by subst hn g G;refine Bd Fn.ex λoc od kV a6 pm an d ct Ä J lk I=>?_;subst J;refine uM lk I S (λvs H Q E o=>by refine mJ o λF ws _ r Á _=>?_;rw[<-r.length];exact Á) λA a s H vs Q E hr _ o=>?_;refine mJ o λF ws sm r Á g=>?_;let Ã:Bx:=⟨K,H,F,λ_ _ _=>False,λ_ _ _ _ _ h=>h⟩;let B1:Bx:=Ã.pF (λc _ u=>∀C l j i,au u i->RB Ã i j->XR K i c C l->E (.ref C) l j) λc Z u F2 s h C l j i q=>h C l j i<|s.trans q;refine⟨_,h d A a s H E B1 M hr (λÅ a0 H1 s1 Z u c R1 xp e C l T fl t z=>jx t<|xp C l H1 u (au.refl _) (R1.rb.box M M) z) Di,_,F,(RS.start sm r<|by omega).box M M M,?_⟩;unfold WL.run at g;cases e:t _ with|r w=>rw[e]at g;exact λv j i p q D=>g v j i q p.sub p.base p.fr D|n Ô=>rw[e]at g;exact λX j i y q=>g .n j i q y.rb.sub y.rb.base y.rb.fr<|M|bk Ô|ct Ô=>rw[e]at g;exact g.elim|x c Ô=>rw[e]at g;exact λC l j i q p z=>g C l j i q p.sub p.base p.fr z|b=>rw[e]at g;exact g.elim
end
structure Ac(K:W.Frag)(FE Ca:Addr):Prop where
 ty:W.typeIn K (.ref Ca)=L (.type "type")mro:(W.clsIn K Ca).map (·.mro)=L (.ref Ca::gf)/\Ca=FE\/(W.clsIn K Ca).map (·.mro)=L (.ref Ca::.ref FE::gf)ga:W.findIn K (.ref Ca) "__getattribute__"=L (L<|.builtin "BaseException.__getattribute__")gn:W.findIn K (.ref Ca) "__getattr__"=L Y
 cl:W.findIn K (.ref Ca) "__class__"=L (L<|.builtin "object.__class__")
structure Ġ(K:W.Frag):Prop where
 k:∀nm Ca,ExcAt K nm Ca->ω K Ca
 is:∀nm Ca d D,ExcAt K nm Ca->ExcAt K d D->W.kitOne K (.ref Ca) (.ref D)=L (WL.mw nm d)ve:∀nm Ca,ExcAt K nm Ca->W.kitOne K (.ref Ca) (.type "ValueError")=L U
 ex:∀nm Ca d D,ExcAt K nm Ca->ExcAt K d D->W.exmOne K (.ref Ca) (.ref D)=L (WL.mw nm d)
def all_nil{α:Type}{P:α->Prop}:∀p∈[],P p:=λ_ h=>nomatch h
def all_cons{α:Type}{P:α->Prop}{a l}(h:P a)(t:∀p∈l,P p):∀p∈a::l,P p:=λp b=>(Ę.mp b).elim (λe=>e▸h)<|t p
section
variable{K:W.Frag}{tab:List (String×Addr)}
theorem mT:∀{tab:List (String×Addr)},(tab.map (·.1)).Nodup->(tab.map (·.2)).Nodup->∀p∈tab,∀q∈tab,p.1=q.1↔p.2=q.2
|[],_,_,p,hp,_,_=>nomatch hp|a::l,h1,h2,p,hp,q,hq=>by
 rw[ņ,Ud]at h1 h2;rcases Ę.mp hp with z|c<;>rcases Ę.mp hq with y|b;.rw[z,y];exact⟨λ_=>rfl,λ_=>rfl⟩
 .subst z;exact⟨λe=>absurd (e▸Vm b) h1.1,λe=>absurd (e▸Vm b) h2.1⟩
 .subst y;exact⟨λe=>absurd (e▸Vm c) h1.1,λe=>absurd (e▸Vm c) h2.1⟩
 .exact mT h1.2 h2.2 p c q b
def ady(q:("FloorError",FE)∈tab)(s:∀p∈tab,W.nsIn K mainGlobals (Str.ofString p.1)=L (L<|.ref p.2)/\Ac K FE p.2)(x:∀nm∈WL.rY,nm∈tab.map (·.1)\/W.nsIn K mainGlobals (Str.ofString nm)=L Y)(l:(tab.map (·.1)).Nodup)(n:(tab.map (·.2)).Nodup)(v:W.specialIn K (.builtin "object.__class__") "__get__"=L (L<|.builtin "getset_descriptor.__get__"))(o:W.takesIn K (.builtin "object.__class__")=L U):Ġ K:=by
 have b:∀nm a,ExcAt K nm a->(nm,a)∈tab/\Ac K FE a:=λnm a⟨f,c⟩=>by grind
 have j:∀nm a,ExcAt K nm a->∃i,W.clsIn K a=L i/\(i.mro=.ref a::gf/\a=FE\/i.mro=.ref a::.ref FE::gf):=λnm a h=>by
  rcases(b nm a h).2.mro with⟨e,z⟩|e;.obtain⟨i,f,c⟩:=μ.mp e;exact⟨i,f,.inl ⟨c,z⟩⟩
  .obtain⟨i,f,c⟩:=μ.mp e;exact⟨i,f,.inr c⟩
 have k:∀nm a T,ExcAt K nm a->Value.type T∈gf->W.mroIn K a (.type T)=L U:=λnm a T h r=>by
  obtain⟨i,f,c⟩:=j nm a h;unfold W.mroIn;rw[f,Xp];rcases c with⟨c,_⟩|c<;>rw[c]<;>simp only[Fq,Of,Ib,Wr,List.contains_eq_mem,Lb,Ę];.exact .inr (by simpa using r)
  .exact .inr (.inr<|by simpa using r)
 have sub:∀nm a d D,ExcAt K nm a->ExcAt K d D->W.mroIn K a (.ref D)=L (WL.mw nm d):=λnm a d D h g=>by
  refine fy (j nm a h) λi f c=>?_;have t:=mT l n _ (b nm a h).1 _ (b d D g).1;have u:=mT l n _ q _ (b d D g).1;have w:=mT l n _ q _ (b nm a h).1;dsimp only at t u w;unfold W.mroIn;rw[f,Xp];have e:WL.mw nm d=decide (a=D\/FE=D):=by unfold WL.mw;rw[ϯ];simp only[Yl,Μ,Lb];exact or_congr t (by rw[eq_comm];exact u)
  rw[e];rcases c with⟨c,z⟩|c<;>rw[c]<;>simp only[Fq,Of,Ib,Wr,List.contains_eq_mem];.subst z;congr 1;simp[eq_comm]
  .congr 1;simp[eq_comm]
 have cls:∀nm a d D,ExcAt K nm a->ExcAt K d D->W.kitCls K (.ref a) (.ref D)=L (WL.mw nm d):=λnm a d D h g=>by obtain⟨i,f,_⟩:=j d D g;unfold W.kitCls;dsimp only;rw[Ð (by rw[f,(b d D g).2.ty];rfl)];exact sub nm a d D h g
 refine⟨λnm a h=>?_,λnm a d D h g=>?_,λnm a h=>?_,λnm a d D h g=>?_⟩;.obtain⟨i,f,_⟩:=j nm a h;have m:=(b nm a h).2;exact⟨by rw[f];rfl,m.ga,m.gn,k nm a _ h (by simp),k nm a _ h (by simp),m.cl,v,o⟩
 .unfold W.kitOne;by_cases e:(Value.ref a==Value.ref D)=U;.rw[Ð e];have e:=Value.ref.inj<|Μ.mp e;subst e;have:=(mT l n _ (b nm a h).1 _ (b d a g).1).mpr M;dsimp only at this;subst this;simp[WL.mw]
  .rw[Õ e];exact cls nm a d D h g
 .unfold W.kitOne;rw[Õ (by intro z;cases Μ.mp z)];unfold W.kitCls;dsimp only;rw[Ð (by decide+kernel)];exact k nm a _ h (by simp)
 .unfold W.exmOne;rw[Ð (by rw[show W.subIn K (.ref D) (.type "BaseException")=W.mroIn K D (.type "BaseException")from rfl,k d D _ g<|by simp];rfl)];exact cls nm a d D h g
end
section
variable{X:Cx}{K:W.Frag}
def Z2{F H a C dx b Æ}{Z:L2.St}{s}(I:Inv X Æ Z H s)(h:au F H)(k:F a=L (.ext<|excAt a C dx))(m:b=[]/\dx.1=Y\/∃d,dx.1=L d/\F d=L (.xd b)):∃ox od,W.InstAt s.heap a ox C od/\ox.dict=dx.1:=by
 obtain⟨⟨f,n,i,g,e,j⟩,_⟩:=I.Û a _<|h _ _ k;have c:W.notCls f=U:=by unfold W.notCls;rw[j.1]
 rcases m with⟨_,z⟩|⟨d,z,q⟩;.exact⟨f,Y,⟨i,g,c,by rw[e,z];trivial⟩,e⟩
 .obtain⟨od,l⟩:=fj<|I.Û d _<|h _ _ q;exact⟨f,L od,⟨i,g,c,by rw[e,z];exact l⟩,e⟩
set_option tactic.hygienic true in
def Wj(w:X.K=K)(g:Ġ X.K):bG X (.builtin "isinstance") (Η K WL.Sa):=by
 subst w;intro e s n H P x Q I r⟨F,ws,p,j,q⟩;have go:∀nm fs i b,ws=[.e nm fs,i]->WL.Sa ws=.ok (.B b)->(∀C v,ExcAt X.K nm C->RW X.K F i v->∀u,RelV v u->W.kitOne X.K (.ref C) u=L b)->X.wp (call (.builtin "isinstance") x) (EP X e n Q) X.xe s:=λnm fs i b Ã B t=>by subst Ã;rw[B]at q;obtain⟨v,E,rfl,h,Å⟩:=two_of j;obtain⟨u,o,rfl,N,r2⟩:=vals2 r;simp only[RW]at h;obtain⟨a,C,R,rfl,J,l,A,_,_,y⟩:=h;obtain⟨G,od,T,_⟩:=Z2 I p J y;cases show u=Value.ref a from N;have fin:Q (.B b) H:=eq1 q (by simp[RW]);exact Λ (SY<|g.k nm C l) I.ć ⟨G,od,T⟩ (t C E l Å o r2) (λz=>nomatch z) λtk=>⟨.B b,H,I.tok tk,M,fin⟩
 unfold WL.Sa at q;split at q;.rename_i nm fs d;exact go nm fs (.cls d) _ M M λC v k c u f=>by simp only[RW]at c;obtain⟨D,rfl,m⟩:=c;cases show u=Value.ref D from f;exact g.is nm C d D k m
 .rename_i nm fs;exact go nm fs (.ty "ValueError") _ M M λC v k c u f=>by simp only[RW]at c;subst c;cases show u=Value.type "ValueError"from f;exact g.ve nm C k
 .exact q.elim
def kh:∀xs c,WL.Sa xs≠.x c:=λxs c h=>by unfold WL.Sa at h;split at h<;>cases h
end
section
variable{B:Bx}
def RS.Lu(R:RS B Z Ö F H)(i):RS B (Z.set i .o) (Ö.set i Y) F H:=by
 have r:=R.len;have b:∀{j:Nat}{w:Sl},(Z.set i .o)[j]?=L w->w≠.o->i≠j:=λ{j w}e n z=>by grind
 refine⟨R.rb,by simp[r],λj u e=>?_,λj ws e=>?_,λj k ws f a g h d m l=>?_,R.Oi i (sl:=.o) (λz=>z) _ (au.refl _) λ_ _ _ _ _ _ _ _ q o=>⟨o,q⟩⟩;.have c:=b e (by intro z;cases z);rw[ą c]at e⊢;exact R.va j u e
 .have c:=b e (by intro z;cases z);rw[ą c]at e⊢;exact R.ow j ws e
 .have p:=b h (by intro z;cases z);have s:=b d (by intro z;cases z);rw[ą p]at h m;rw[ą s]at d l;exact R.ap j k ws f a g h d m l
end
section
variable{X:Cx}{B:Bx}
def BA{Æ D k H s Z F c e j dx K T Ò}{b S C d i th}(hK:X.K=B.K)(hN:X.N.Nodup)(hi:X.N[i]?=L n)(A:X.env.scope.names.lookup n=L .local)(hg:Gl X x)(hm:X.mg x=L (.ref C))(hd:è x)(hc:∀nm Á,ExcAt X.K nm Á->W.exmOne X.K (.ref Á) (.ref C)=L (WL.mw nm d))(hh:∀e B',B'.K=X.K->XW (X.ă e) B'->ã (X.ă e) (S::b) (â B' th))(R:RS B Z k F H)(g:Oq B D F (WL.n8 d i th c Z))(Q:XR X.K F c j dx)(t:ù X Æ k H s e j dx K (L T)):X.wp (handleBy (.ref e) X.env (.ExceptHandler (L<|.Name x np) (L n) (S::b) Ė::Ò)) (SP X Æ D) X.xe s:=by obtain⟨nm,fs,rfl,ce⟩:=id Q.is;have ex:=hc nm j ce;cases l:WL.mw nm d with|false=>rw[show WL.n8 d i th (.e nm fs) Z=.b by simp[WL.n8,WL.cF,l]]at g;exact g.elim|true=>
 rw[show WL.n8 d i th (.e nm fs) Z=match th (Z.set i<|.v<|.e nm fs)with|.n é=>.n<|é.set i .o|.r w=>.r w|_=>.b by unfold WL.n8;rw[show WL.cF d (.e nm fs)=U from l];rfl]at g;rw[l]at ex;refine z0 t hg hm ex (λh3 Ä=>?_) hd;have J:=Ä.known;have Â:H e=Y:=Ä.fe.1;have I:au F (upd F e<|.ext<|excAt e j dx):=ar (R.rb.sub.free Â) _;have Ã:RW B.K (upd F e<|.ext<|excAt e j dx) (.e nm fs) (.ref e):=by obtain⟨z1,Å,z2,z3,z4⟩:=Q.keep I;simp only[RW];rw[<-hK];exact⟨e,j,dx,M,ai,z1,Å,z2,z3,z4.1⟩
 let y:Bx:=B.never;refine ib (X:=X.ă e) (J.ă e) hN hi (Or.inl A) (v:=.ref e) (u:=.ref e) M (λs2 J2 _=>?_)<|Or.inr A;have R3:RS y (Z.set i<|.v<|.e nm fs) (k.set i<|some<|.ref e) (upd F e<|.ext<|excAt e j dx) (upd H e<|.ext<|excAt e j dx):=((R.new Â<|.ext<|excAt e j dx).set (i:=i) Ã).box M M M;refine Ĝ (hh e y hK.symm (qr λ_ _ _ z=>z) Æ _ _ _ ⟨λa f=>D.nx (a.set i Y) f,D.rt,λ_ _=>False,λ_ _=>False⟩ J2 ⟨_,_,R3,?_⟩) (λK s3 h=>?_) λ_ _ z=>z;.cases P:th (Z.set i<|.v<|.e nm fs)with|n é=>rw[P]at g;exact λa f E G p=>g (a.set i Y) f E ((RS.box (B:=y) (B':=B) G M M M).Lu i)<|I.trans p|r w=>rw[P]at g;exact λv f E G p r=>g v f E (RB.box (B:=y) (B':=B) G M M) (I.trans p) r|_=>rw[P]at g;exact g.elim
 .cases K with|next=>obtain⟨m,f,q,o⟩:=h;exact yg (J.back q) hN hi A λp N=>⟨_,f,N,o⟩|ret u=>obtain⟨v,m,f,q,r,o⟩:=h;exact yg (J.back q) hN hi A λp N=>⟨v,_,f,N,r,o⟩|_=>obtain⟨m,f,q,o⟩:=h;exact o.elim
def Z1{b a h C d i tb th}(g:X.K=B.K)(hs:X.stack=X.env::X.outer)(j:X.env.frame=L X.env.locals)(hN:X.N.Nodup)(hi:X.N[i]?=L n)(m:X.env.scope.names.lookup n=L .local)(l:Gl X x)(p:X.mg x=L (.ref C))(r:∀nm f,ExcAt X.K nm f->W.exmOne X.K (.ref f) (.ref C)=L (WL.mw nm d))(o:∀E c B',B'.K=X.K->XW (X.tri E c) B'->PassesOwn (model X.prog X.w) X.A X.env E->ã (X.tri E c) b (â B' tb))(k:∀e B',B'.K=X.K->XW (X.ă e) B'->ã (X.ă e) (h::a) (â B' th))(q:è x:=by decide):PS X (.Try b [.ExceptHandler (L<|.Name x np) (L n) (h::a) Ė] [] [] pos) (â B<|WL.tF tb d i th):=qu g hs j o λ_ _ _ _ _ _ _ _ _ _ _ _ _=>BA g hN hi m l p q r k
end
def QT{X B x nm C pos}(e:X.K=B.K)(a:Gl X x)(b:X.mg x=L (.ref C))(d:ExcAt X.K nm C)(c:è x:=by decide):PE X (.Name x pos) (lo B<|WL.eC<|.cls nm):=Me (vO (v:=.ref C) a b M c) λF=>by rw[<-e];exact⟨C,M,d⟩
section
def Part(t:TE)(Z:L2.St)(H:Hp):Prop:=∀Q:VK,(∀y:Str,y.length<=1000->Q (.str y) H)->t Z H Q
def lR{y}(h:y.length<=1000):Part (tC<|.str y) Z H:=λQ k=>k y h
def tT{i n}(h:Z[i]?=L (L<|.int n))(a:n.natAbs.log2<100):Part (Mg<|ee i) Z H:=λQ k=>⟨_,h,.inl ⟨n,M,Ē a (by simp),k _ (by have e:=int_text_length_le (by simp) a;rw[PySem.ofString_length];omega)⟩⟩
theorem Av{Q}:∀ts a,a.length+1000*ts.length<=100000->(∀t∈ts,Part t Z H)->(∀y,y.length<=a.length+1000*ts.length->Q (.str y) H)->tJ ts a Z H Q|[],a,hl,_,k=>⟨by rw[Mc];omega,k _<|by simp⟩|t::ts,a,hl,hp,k=>hp t ę _ λy d=>by rw[Ĩ]at hl;have e:(a++y).length=a.length+y.length:=Uh ..;exact⟨y,M,by rw[Mc];omega,Av ts _ (by omega) (λt b=>hp t<|Ħ _ b) λz c=>k z<|by rw[Ĩ];omega⟩
end
section
variable{K:W.Frag}
def Xt{G e d a b c}:upd (upd (upd G e a) d b) e c=upd (upd G d b) e c:=by
 funext z;by_cases f:z=e;.rw[f,ai,ai]
 .rw[ag f,ag f];by_cases g:z=d;.rw[g,ai,ai]
  .rw[ag g,ag g,ag f]
def Mz{G e d a b c}(h:d≠e):upd (upd (upd G d a) e b) d c=upd (upd G d c) e b:=by
 funext z;by_cases f:z=d;.rw[f,ai,ag h,ai]
 .rw[ag f];by_cases g:z=e;.rw[g,ai,ai]
  .rw[ag g,ag g,ag f,ag f]
def yz{g p a b st f C r k ts}(Fn:đ K "__init__" g st f r)(S:Î [a,b] [a,b] (aj st))(z:ts.length<=50)(G:∀Z H n,Z[1]?=L (L<|.int n)->n.natAbs.log2<100->∀t∈ts,Part t Z H)(h:∀i A c s H E,Ñ k (A.deeper<|envOfC g (aj st) s.heap.objs.size f i)->ã (fA ē P w K mg base [a,b] g (aj st) f i A c s H E).Ga (aC st) (Oe (sZ<|xG C<|ia (ee 0)<|ia (tJ ts Str.empty) xF)<|Lk C (ee 0) (ee 1) p)):ä P w K mg base ē (k+1) f r [a,b] (Ec C [p]):=by refine Fn.ok S λD H Q E j=>by obtain⟨e,ws,_,m,l,_⟩:=j;rw[m,Ĩ,l];rfl λi A c s H D Q E v j=>?_;obtain⟨e,ws,J,m,l,I,Ã,q⟩:=j;subst m;obtain⟨w1,rfl⟩:=List.length_eq_one_iff.mp l;obtain⟨n,rfl,x⟩:=Ã w1 ę;refine⟨_,h i A c s H E v,?_⟩;refine⟨.ref e,M,Av ts _ (by have:Str.empty.length=0:=rfl;omega) (G _ H n M x) λy N=>⟨e,Y,J,y,M,I,λu Å R=>?_⟩⟩;refine⟨.int n,M,.ref e,M,e,_,M,ai,λd B o=>?_⟩;have:=q u y d Å (ñ N (by have:Str.empty.length=0:=rfl;omega)) (by rwa[ag o]at B) o;rw[<-Xt]at this;exact this
def A0{i r u a b c st f C z k ts}(Fn:đ K "__init__" i st f z)(S:Î [a,b,c] [a,b,c] (aj st))(D:u≠r)(Å:ts.length<=50)(T:∀Z H n m,Z[1]?=L (L<|.int n)->Z[2]?=L (L<|.int m)->n.natAbs.log2<100->m.natAbs.log2<100->∀t∈ts,Part t Z H)(h:∀j A g s H E,Ñ k (A.deeper<|envOfC i (aj st) s.heap.objs.size f j)->ã (fA ē P w K mg base [a,b,c] i (aj st) f j A g s H E).Ga (aC st) (Oe (sZ<|xG C<|ia (ee 0)<|ia (tJ ts Str.empty) xF)<|Oe (Lk C (ee 0) (ee 1) r)<|Ap C (ee 0) (ee 2) u)):ä P w K mg base ē (k+1) f z [a,b,c] (Ec C [r,u]):=by
 refine Fn.ok S λR H Q E l=>by obtain⟨e,ws,_,x,v,_⟩:=l;rw[x,Ĩ,v];rfl λj A g s H R Q E I l=>?_;obtain⟨e,ws,X,x,v,Â,B,q⟩:=l;subst x;obtain⟨w1,p,rfl⟩:∃w1 p,ws=[w1,p]:=by match ws,v with|[w1,p],_=>exact⟨w1,p,M⟩
 obtain⟨n,rfl,J⟩:=B w1 ę;obtain⟨m,rfl,N⟩:=B p<|Ħ _ ę;refine⟨_,h j A g s H E I,?_⟩;refine⟨.ref e,M,Av ts _ (by have:Str.empty.length=0:=rfl;omega) (T _ H n m M M J N) λy Á=>⟨e,Y,X,y,M,Â,λG Ä nt=>?_⟩⟩;refine⟨.int n,M,.ref e,M,e,_,M,ai,λd Ã o=>?_⟩;refine⟨.int m,M,.ref e,M,e,d,[(r,.int n)],_,M,ai,by rw[ag o,ai],o,by simp,by simp[List.lookup,ϖ.mpr D],?_⟩;have:=q G y d Ä (ñ Á (by have:Str.empty.length=0:=rfl;omega)) (by rwa[ag o]at Ã) o;show Q .n (upd _ d _);rw[Mz o,Xt];exact this
end
section
variable{X:Cx}{B:Bx}
theorem NG{K F}:∀{ws vs},Ê K F ws vs->ws.all WL.ic=U->∀v∈vs,∃i,v=.int i/\i.natAbs.log2<100
|[],vs,h,_,v,a=>by subst h;cases a|w::ws,vs,h,ha,v,a=>by
 obtain⟨v0,r,rfl,b,c⟩:=h;rw[Yf,ł]at ha;rcases Ę.mp a with rfl|a;.cases w with|int i=>subst b;exact⟨i,M,Ei ha.1⟩|_=>cases ha.1
 .exact NG c ha.2 v a
def C6(i:nm≠"Broken")(J:X.K=B.K)(Å:XW X B)(T:X.calm=U)(E:Gl X x)(I:X.mg x=L (.ref C))(q:ko X.K C (L<|.ref fI))(o:W.typeIn X.K (.ref fI)=L (.type "function"))(F:X.Fn ē k fI fd ps (Ec C<|WL.fieldsOf nm))(Â:Ñ (k+1) X.A)(S:Binds X.K fd ps [])(N:ExcAt X.K nm C)(A:(WL.fieldsOf nm).length<=50)(P:PA X (e::es) (Ď B á))(b:è x:=by decide)(Q:SE X e es:=by rfl)(a:BT X Ó es:=by rfl):PS X (.Raise (L<|.Call (.Name x np) (e::es) [] Ó) Y pos) (â B<|WL.jt nm á):=PS.imp (O5 T E I q o F Â S P b Q a) λD m H j=>by
 refine dB j λl F R q=>?_;have q:=Oq.ø q;refine eM l F R (Rq.mono (au.refl _) q λws g n H1 Ä v G p=>?_);by_cases h:ws.length=(WL.fieldsOf nm).length/\ws.all WL.ic=U
 .rw[Ð h]at g;have c:n.length=(WL.fieldsOf nm).length:=by rw[<-p.length];exact h.1
  refine⟨c,NG p h.2,A,λf s e d r y w hy b Á t=>?_⟩;have R2:=v.new w<|.t [.str y];have Ã:=ar (v.rb.sub.free w)<|.t [.str y];have u:=Ã.trans<|ar (R2.rb.sub.free b)<|.xd<|(WL.fieldsOf nm).zip n;have K:r≠d:=λz=>by rw[<-z,ai]at b;cases b
  refine Å f m _ s l _ (.e nm ws) (R2.new b _) (B.mono _ l F _ (G.f.trans u) g) e C _ Y _ t ⟨N,(WL.fieldsOf nm).zip n,?_,?_,.inr ⟨d,M,ai⟩,⟨0,M⟩,.inr ⟨i,r,y,M,by rw[ag K,ai],by omega⟩⟩;.rw[List.map_fst_zip (by omega)]
  .rw[List.map_snd_zip (by omega),J];exact p.keep u
 .rw[Õ h]at g;exact False.elim g
end
section
variable{X:Cx}{B:Bx}
theorem AZ{f v}:∀{l:List (Str×V)},l.lookup f=L v->f∈l.map (·.1)|[],h=>by simp at h|(a,b)::l,h=>by rw[Ϟ]at h;cases z:f==a with|true=>rw[ņ,Μ.mp z];exact ę|false=>rw[z]at h;exact Ħ _<|AZ h
theorem xg{K F f w}:∀{l ws}{c:List (Str×V)},c.map (·.1)=l->Ê K F ws (c.map (·.2))->(l.zip ws).lookup f=L w->∃v,c.lookup f=L v/\RW K F w v|[],ws,c,_,_,h=>by simp at h|a::l,[],c,_,_,h=>by simp at h|a::l,w0::ws,[],h,_,_=>by simp at h|a::l,w0::ws,(b,v0)::c,d,h2,h3=>by simp only[ņ,Xl]at d;obtain⟨rfl,d⟩:=d;simp only[ņ,Ê]at h2;obtain⟨v,r,e,g,i⟩:=h2;simp only[Xl]at e;obtain⟨rfl,rfl⟩:=e;rw[Jr,Ϟ]at h3;rw[Ϟ];cases z:f==b with|true=>rw[z]at h3;cases h3;exact⟨v0,M,g⟩|false=>rw[z]at h3;exact xg d i h3
def RI(K:W.Frag)(ta:TE)(f:Str):TE:=λg H Q=>ta g H λx c=>∃a C e d b nm v,x=.ref a/\c a=L (.ext<|excAt a C e)/\ExcAt K nm C/\f∈WL.fieldsOf nm/\e.1=L d/\c d=L (.xd b)/\b.lookup f=L v/\Q v c
def Ju{ta}(z:Ġ X.K)(n:∀nm C,ExcAt X.K nm C->f∈WL.fieldsOf nm->W.findIn X.K (.ref C) f=L Y/\W.hasDictIn X.K C=U)(K:PE X o ta)(Ã:attributeBase o f X.env (eval o X.env)=eval o X.env):PE X (.Attribute o f pos) (RI X.K ta f):=by intro b s e H Q I h;refine OE Ã (ß (K b s e H _ I h) λu Â⟨x,p,c,S,a,C,Á,d,G,nm,v,ex,N,j,P,R,E,y,q⟩=>?_);subst ex;cases S;obtain⟨t,k,r⟩:=c.Û d _ E;obtain⟨od,D,g⟩:=uv k;obtain⟨⟨oe,Ä,T,l,Å,J⟩,_⟩:=c.Û a _ N;obtain⟨u,w,i⟩:=vp.some_of (v:=v) (o:=t f) (by rw[<-y];exact r f);obtain⟨m,A⟩:=n nm C j P;exact UZ (z.k nm C j) c.ć ⟨T,l,by unfold W.notCls;rw[J.1],by rw[Å,R];exact D⟩ (W.findObj_own A m M<|by rw[g,w]) (uK i) ⟨v,p,c.tok _,i,q⟩
def iV(t:X.K=B.K)(n:Ġ X.K)(j:∀nm C,ExcAt X.K nm C->f∈WL.fieldsOf nm->W.findIn X.K (.ref C) f=L Y/\W.hasDictIn X.K C=U)(z:PE X o (lo B ta))(E:attributeBase o f X.env (eval o X.env)=eval o X.env):PE X (.Attribute o f pos) (lo B<|WL.ϲ ta f):=PE.imp (Ju n j z E) λm H Q c=>by obtain⟨l,F,R,q⟩:=c;have q:=Rq.bind q;refine⟨l,F,R,Rq.mono (au.refl _) q λw b x Å A g K J=>?_⟩;cases w with
|e nm fs=>dsimp only[WL.Uy]at b;cases h:((WL.fieldsOf nm).zip fs).lookup f with|none=>rw[h]at b;exact b.elim|some w'=>
  rw[h]at b;obtain⟨a,C,s,rfl,D,p,e,G,I,u⟩:=J;obtain⟨v,i,k⟩:=xg G I h;rcases u with⟨rfl,_⟩|⟨d,y,r⟩;.simp at i
  exact⟨a,C,s,d,e,nm,v,M,g.rb.sub _ _ D,by rw[t];exact p,by grind,y,g.rb.sub _ _ r,i,b v Å A g K k⟩
|_=>exact b.elim
end
section
variable{K:W.Frag}
def rX{C c n}(x:Ġ K)(h:ExcAt K n C)(m:(W.clsIn K C).map (·.mro)=L (.ref C::.ref c::gf))(g:W.hasDictIn K C=U)(e:W.findIn K (.ref C) "__setattr__"=L (L<|.builtin "object.__setattr__")):Ŀ K C:=by obtain⟨d,a,j⟩:=μ.mp m;obtain⟨i,b,f⟩:=W.any_some g;rw[a]at b;cases b;exact⟨x.k n C h,⟨d,a,f,.inr ⟨c,j⟩⟩,e⟩
def FA(K:W.Frag)(f:Str)(nm:String):Prop:=f∈WL.fieldsOf nm->∀a,ķ K nm a->W.findIn K (.ref a) f=L Y/\W.hasDictIn K a=U
def ap4{nm}(h:¬f∈WL.fieldsOf nm):FA K f nm:=λz=>absurd z h
def am1{nm}(e:ķ K nm a)(c:W.findIn K (.ref a) f=L Y)(b:W.hasDictIn K a=U):FA K f nm:=λ_ d h=>by grind
def ajc{nm}(e:W.nsIn K mainGlobals (Str.ofString nm)=L Y):FA K f nm:=λ_ a h=>by grind
def asS(o:FA K f "FloorError")(k:FA K f "NotEven")(q:FA K f "NoCall")(l:FA K f "NoName")(n:FA K f "NoProgram")(p:FA K f "TooMany")(j:FA K f "NoPairs")(h:FA K f "NoRow")(i:FA K f "Blind")(m:FA K f "Out")(e:FA K f "Meet")(d:FA K f "Broken"):∀nm C,ExcAt K nm C->f∈WL.fieldsOf nm->W.findIn K (.ref C) f=L Y/\W.hasDictIn K C=U:=λnm c⟨g,b⟩a=>by
 simp [WL.rY,Ę,Wf,or_false]at g;rcases g with rfl|rfl|rfl|rfl|rfl|rfl|rfl|rfl|rfl|rfl|rfl|rfl;.exact o a c b
 .exact k a c b
 .exact q a c b
 .exact l a c b
 .exact n a c b
 .exact p a c b
 .exact j a c b
 .exact h a c b
 .exact i a c b
 .exact m a c b
 .exact e a c b
 .exact d a c b
end
section
variable{X:Cx}{B:Bx}
theorem RS.vm{B' Z g F H}(R:RS B Z g F H)(hk:B'.K=B.K)(n:B'.H0=H)(l:B'.F0=F):RS B' (WL.vm Z) g F H:=by
 have b:∀{i:Nat}{f:Sl},(WL.vm Z)[i]?=L f->(∀w,f=.v w->Z[i]?=L (.v w))/\(∀ws,f≠.w ws)/\(∀c d,f≠.od c d)/\(f=.ob->Z[i]?=L .ob):=λ{i f}e=>by unfold WL.vm at e;rw[Ų]at e;cases k:Z[i]? with|none=>rw[k]at e;cases e|some s0=>rw[k]at e;have e:=ŧ e;subst e;cases s0 with|o=>exact⟨λw z=>(by cases z),λws z=>(by cases z),λc d z=>(by cases z),λz=>by cases z⟩|v w=>exact⟨λp z=>by grind,λws z=>(by cases z),λc d z=>(by cases z),λz=>by cases z⟩|w ws|od c d=>exact⟨λw z=>(by cases z),λws z=>(by cases z),λc d z=>(by cases z),λz=>by cases z⟩|ob=>exact⟨λw z=>(by cases z),λws z=>(by cases z),λc d z=>(by cases z),λz=>rfl⟩
 refine⟨⟨R.rb.sub,n▸au.refl _,l▸au.refl _,λa o e=>.inl<|l▸e⟩,by rw[<-R.len];simp[WL.vm],λi w e=>?_,λi ws e=>((b e).2.1 ws M).elim,λi j ws m a _ h=>((b h).2.1 ws M).elim,λi c d e=>((b e).2.2.1 c d M).elim,λi j c d _ _ a _ h=>((b h).2.2.1 c d M).elim,λi e=>R.dd.ob i<|(b e).2.2.2 M⟩;rw[hk];exact R.va i w<|(b e).1 w M
def WZ{B' d e b H'}(c:RB B' b H')(i:B'.H0=e)(j:B'.F0=d):Gr d e b H':=by subst i j;refine⟨c.ģ,c.base,λa o g f=>?_⟩;cases h:b a with|none=>rfl|some o2=>
 rcases c.fr a _ h with z|z;.rw[f]at z;cases z
 .rw[g]at z;cases z.1
def SH{B' Z c d g f H'}(R:RS B Z c d g)(b:RB B' f H')(h:B'.H0=g)(i:B'.F0=d):RB B f H':=by
 subst h i;refine⟨b.sub,R.rb.base.trans b.base,R.rb.ģ.trans b.ģ,λa o e=>?_⟩;rcases b.fr a o e with z|z;.exact R.rb.fr a o z
 .exact .inr ⟨R.rb.base.free z.1,z.2⟩
section
variable(hst:X.stack=X.env::X.outer)(hfr:X.env.frame=L X.env.locals)(hK:X.K=B.K)(hx:XW X B)(À:þ X scope)(hc:X.calm=U)(hk:ts.length=k)(hg:Keeps k g)(hi:PI X tg ó (ŭ B it))(hT1:∀C ŷ Ź fp E B',B'.K=X.K->XW ((X.comp scope C ts ŷ Ź fp).tri E []) B'->PG ((X.comp scope C ts ŷ Ź fp).tri E []) tg (ŝ U B' g))(hT2:∀C ŷ Ź fp E B',B'.K=X.K->XW ((X.comp scope C ts ŷ Ź fp).tri E []) B'->ϡ ((X.comp scope C ts ŷ Ź fp).tri E []) Ř (ď B' tt))(hT3:∀C ŷ Ź fp E B',B'.K=X.K->XW ((X.comp scope C ts ŷ Ź fp).tri E []) B'->PE ((X.comp scope C ts ŷ Ź fp).tri E []) ō (lo B' ta))(hs:∀x,foldedSetIterable ó X.env x=pure x:=by intro _;rfl)
include hst hfr hK hx À hc hk hg hi hT1 hT2 hT3 hs
theorem qp{b1}{use:Option (Value->Sem Unit)}{QQ:VS}{Q:VK}{Æ s a H Z F}(I:Inv X Æ a H s)(R:RS B Z a F H)(q:Rq B Z F (WL.l1 k it g tt ta Z) λw=>∀v H' d,RS B Z a d H'->Gr F H d H'->RW B.K d w v->Q v H')(fin:∀n u,Inv X Æ a n u->∀C D H' s' m ys,C≠D->u.heap.objs.size<=C->s'.heap.Ns C m->H' C=Y->Inv X Æ a (upd H' D<|.l ys) s'->Q (.ref D) (upd H' D<|.l ys)->compPost (model X.prog X.w) X.A X.xe use QQ (.ref D) C (.ok .next) s'):X.wp (comprehension (.ListComp ō [⟨tg,ó,Ř,0⟩] scope pos) scope X.env b1 (newList []) O (eval ó X.env) use) QQ X.xe s:=by
 subst hk;have S:ā X scope ts:=À.scope;have a0:closureFor scope X.env=pure (dr X.env.cells scope.names []):=gQ λy hy hf=>by obtain⟨c,hc⟩:=I.ok.has y.1<|S.free y hy hf;rw[hc];rfl
 have q:=Rq.bind<|Rq.bind q;refine Cr M hs a0 S.kind S.names (ß (hi Æ s a H (λJ H1=>∃F1 Á,RS B Z a F1 H1/\Gr F H F1 H1/\Walk B.K J Á F1/\Rq B Z F (if Á.length<=WL.lim then WL.bJ g tt ta (List.replicate ts.length .o++WL.vm Z) Á else .b) λys=>∀v H' d,RS B Z a d H'->Gr F H d H'->RW B.K d (.l ys) v->Q v H') I ⟨Z,F,R,Rq.mono (au.refl _) q λÁ G J H1 F1 R1 g1 wk=>⟨F1,Á,R1,g1,wk,?_⟩⟩) λxv s1 h1=>ß h1 λc6 u h2=>?_);.exact G
 obtain⟨it,fp,tn,J,n,e,I2,T,c2,f2,F1,Á,R1,g1,wk,G⟩:=h2;subst e;by_cases a5:Á.length<=WL.lim
 .rw[Ð a5]at G;let B':Bx:=⟨B.K,n,F1,λc _ d=>B.xp c Z d,λc _ d b9 sm h=>B.mono c Z d b9 sm h⟩;let EC:Addr->VS:=λC v s'=>∃(e P:Addr)(Ã:DX)(fl:Value)(T:Option Addr)(l:L2.St)(H' d:Hp)(c:VW),v=.ref e/\ù (X.comp scope C ts u n fp) [] l H' s' e P Ã fl T/\RB B' d H'/\B.xp c Z d/\XR X.K d c P Ã;have xw:∀C,XW ((X.comp scope C ts u n fp).tri (EC C) []) B':=λC c4 l H' s' c1 d c R' xp e P Ã T fl t xr=>⟨e,P,Ã,fl,T,l,H',d,c,M,ù.jh (X:=X.comp scope C ts u n fp) (Æ:=[]) t,R'.rb,xp,xr⟩;have hW:xf J (ŝ U B' g) (ď B' tt) (lo B' ta) (List.replicate ts.length Y++a) n Q:=by
   refine u3 hg (R1.vm M M M) wk a5 (λz=>by rw[z]at G;exact G) (λc z c1 d sm=>?_) λall z ys d H' rb g' r D hD=>?_;.rw[z]at G;exact B.mono c Z F d (g1.f.trans sm) G
   .rw[z]at G;have Å:RB B d H':=SH R1 rb M M;have R':=R1.grow g' Å;exact G (.ref D) _ _ (R'.new hD _) (g1.trans<|g'.trans<|Gr.new (Å.sub.free hD) hD _) (by simp only[RW];exact⟨D,ys,M,ÿ.of ai,r.keep<|ar (Å.sub.free hD) _⟩)
  refine lj (Q:=Q) (RR:=λb7 C=>compPost (model X.prog X.w) X.A X.xe use QQ b7 C) S EC (λ_ _ _=>hc) (λC=>hT1 C u n fp (EC C) B' hK.symm<|xw C) (λC=>hT2 C u n fp (EC C) B' hK.symm<|xw C) (λC=>hT3 C u n fp (EC C) B' hK.symm<|xw C) I2 T c2 f2 hW.c ?_ ?_;.exact λC D H' s' m ys b8 hC _ hn b5 I' q=>fin n u I2 C D H' s' m ys b8 hC hn b5 I' q
  .rintro C D _ s' hC⟨e,P,Ã,fl,T,l,H',d,c,rfl,t,rb,xp,xr⟩;have J':Inv X Æ a H' s':=I2.Du (ch:=fp) t.inv.os t.inv.base t.inv.Û t.inv.bare λb j=>⟨(f2 b j).2.2.2.1,(f2 b j).2.1,(f2 b j).2.2.2.2.1,(f2 b j).2.2.2.2.2⟩;obtain⟨m,a7,_⟩:=t.inv.loc;obtain⟨N,es,ep,b6,b0⟩:=id a7;have a6:H' C=Y:=t.inv.free;have a8:C≠X.env.locals:=Ŵ<|Ē I2.lt hC;have b4:u.heap.get? C=Y:=Qc hC;have fC:Ő X Æ H' C:=I2.Bb b4 a6;have Ä:∀v,N.data≠.cell v:=λv z=>by obtain⟨hd,_⟩:=b0;rw[hd]at z;cases z
   have J2:Inv X (Æ++[(C,N)]) a H' s':=J'.ie λp i=>by
    rcases ρ.mp i with i|i;.exact J'.pin p (ų _ i)
    .obtain rfl:p=(C,N):=by simpa using i
     exact⟨b6,a6,a8,fC.2.2.1,Ä⟩
   have A:∀b,Ő (X.comp scope C ts u n fp) [] H' b->Ő X Æ H' b/\b≠C:=λb z=>by
    refine⟨?_,z.2.1⟩;rcases z.2.2.2.1 with j|j;.have f:=f2 b j;exact⟨z.1,f.2.1,f.2.2.1,f.2.2.2.1.imp (λw=>w) λw=>Qc w,f.2.2.2.2.1,f.2.2.2.2.2⟩
    .exact I2.Bb j z.1
   have b2:∀b,Ő X Æ H' b->b≠C->Ő X (Æ++[(C,N)]) H' b:=λb z ne=>⟨z.1,z.2.1,z.2.2.1,z.2.2.2.1,z.2.2.2.2.1,λp i=>by
    rcases ρ.mp i with i|i;.exact z.2.2.2.2.2 p (Ϯ _ i)
    .rcases ρ.mp i with i|i;.exact z.2.2.2.2.2 p (ų _ i)
     .obtain rfl:p=(C,N):=by simpa using i
      exact ö ne⟩;have te:=A e t.fe;have t1:ù X (Æ++[(C,N)]) a H' s' e P Ã fl T:=⟨J2,t.ū,b2 e te.1 te.2,λb j=>b2 b (A b<|t.fT b j).1 (A b<|t.fT b j).2⟩;refine t1.note hst hfr λb3 T1 c3 Â=>?_;have pC:=(Â.inv.pin (C,N)<|by simp).1;refine⟨m,⟨N,es,ep,pC,b0⟩,λh' a9 c5 _=>?_⟩;have drop:∀b,Ő X (Æ++[(C,N)]) H' b->Ő X Æ H' b/\b≠C:=λb z=>⟨⟨z.1,z.2.1,z.2.2.1,z.2.2.2.1,z.2.2.2.2.1,λp i=>by
  rcases ρ.mp i with i|i;.exact z.2.2.2.2.2 p (Ϯ _ i)
  .exact z.2.2.2.2.2 p (ų _<|Ϯ _ i)⟩,λw=>z.2.2.2.2.2 (C,N) (by simp) w.symm⟩;have J3:Inv X Æ a H' {s' with heap:=b3}:=Â.inv.ie λp i=>Â.inv.pin p<|ų _<|Ϯ _ i;have J4:Inv X Æ a H' {s' with heap:=h'}:=Inv.turned (s:={s' with heap:=b3}) (t':=s'.toks) (it:=C) J3 (λb o j e=>(a9.2 b j).trans e) a6 a8 (.inr<|ñ I2.sz hC) fC.2.2.2.2.1 fC.2.2.2.2.2;have t3:ù X Æ a H' {s' with heap:=h'} e P Ã c3 (L T1):=⟨J4,Â.ū.keeps λb o j q=>(a9.2 b (by
    rcases j with rfl|j;.exact(drop _ Â.fe).2
    .exact(drop b<|Â.fT b j).2)).trans q,(drop e Â.fe).1,λb j=>(drop b<|Â.fT b j).1⟩;refine t3.pass λc7 c0 t4=>?_;have Å:RB B d H':=SH R1 rb M M;exact hx Æ a H' _ Z d c (R1.grow (WZ rb M M) Å) xp e P Ã (L T1) c0 t4 xr
 .rw[Õ a5]at G;exact(G).elim
theorem xn:PE X (.ListComp ō [⟨tg,ó,Ř,0⟩] scope pos) (lo B<|WL.l1 k it g tt ta):=by intro a s h H Q I⟨y,F,R,q⟩;rw[eval_ListComp];refine qp (use:=Y) (QQ:=EP X a h Q) hst hfr hK hx À hc hk hg hi hT1 hT2 hT3 hs I R q λz A f C D Å u m G i d r l n q=>⟨m,r,λJ j=>⟨.ref D,_,n.turned (t':=u.toks) (λb o w e=>(j.2 b w).trans e) (by rw[ag i];exact l) (Ŵ<|Ē f.lt d) (.inr<|ñ f.sz d) (λx c e=>?_) λp t=>ğ<|Ē (ĉ (f.pin p t).1) d,M,q⟩⟩;obtain⟨v,q⟩:=f.cell x c e;exact ğ<|Ē q.lt d
theorem Y1{iN y J d}(hN:X.N.Nodup)(hiN:X.N[iN]?=L y)(hy:X.env.scope.names.lookup y=L .local)(ϝ:swapsWith (.ListComp ō [⟨tg,ó,Ř,0⟩] scope pos) (L<|.Name y J) d.line X.env=pure U):PS X (.Assign [.Name y J] (.ListComp ō [⟨tg,ó,Ř,0⟩] scope pos) d) (â B<|WL.aN iN<|WL.l1 k it g tt ta):=by
 intro G s n H S I Ã;obtain⟨Ä,F,R,q⟩:=Rv (tV:=lo B<|WL.l1 k it g tt ta) (λ_ _ _ z=>z) S n H Ã;rw[exec_Assign_Name_used _ _ _ _ ϝ];refine Í (Oa<|Í<|Í<|Ĝ (qp hst hfr hK hx À hc hk hg hi hT1 hT2 hT3 hs I R q λH2 s2 j C D H' T m ys r i N A Å q=>?_) (λ_ T Á=>ì<|ì Á) λ_ _ e=>e);have h:=Ŵ<|Ē j.lt i;refine Vr (ib Å hN hiN (.inl hy) (show RelV (.ref D) (.ref D)from rfl) (λt u f=>?_)<|.inr hy);obtain⟨a,f,Q⟩:=f;have cl:∀x c,X.env.cells.lookup x=L c->c≠C:=λx c e=>by obtain⟨v,q⟩:=j.cell x c e;exact ğ<|Ē q.lt i
 have l:a≠C:=by
  rcases Q with e|e;.rw[e];exact ö h
  .exact cl y a e
 exact⟨m,N.sameBut f<|ö l,λh' w=>⟨_,_,u.turned (t':=t.toks) (λb o Â e=>(w.2 b Â).trans e) (by rw[ag r];exact A) h (.inr<|ñ j.sz i) cl λp P=>ğ<|Ē (ĉ (j.pin p P).1) i,q⟩⟩
end
end
section
variable{X:Cx}{B:Bx}
def L6{a:Expr}{p z pos b:Pos}(Á:X.K=B.K)(T:X.calm=U)(N:Gl X "list")(P:X.mg "list"=Y)(k:Gl X "range")(y:X.mg "range"=Y)(h:PE X a (lo B ta))(hs:starEach [a] X.env=[(O,eval a X.env)]:=by rfl)(w:starEach [a] X.env=(O,eval a X.env)::starEach [] X.env:=by rfl)(Å:("list":Str)≠"__name__":=by decide)(u:(("list":Str)==("__debug__":Str))=O:=by decide)(K:starEach [Expr.Call (.Name "range" z) [a] [] b] X.env=(O,eval (.Call (.Name "range" z) [a] [] b) X.env)::starEach [] X.env:=by rfl)(m:BT X pos []:=by rfl):PE X (.Call (.Name "list" p) [.Call (.Name "range" z) [a] [] b] [] pos) (lo B<|WL.Vk ta):=PE.imp (nq (sq T) N P boot_list (aG (E4 k y (af h aV w) hs) bS K) Å u K m) λs H Q o=>by
  obtain⟨d,F,R,q⟩:=o;have q:=Rq.bind q;have S:Rq B d F (WL.aa ta WL.ak d) λws=>∀t g f,RS B d s f g->Gr F H f g->Ê B.K f ws t->∃j:Int,t=[.int j]/\-2^62<=j/\j<2^62/\∀r,g r=Y->∃(G:Addr)(n:Nat),[V.ref r]=[V.ref G]/\upd g r (.û 0 j) G=L (.û 0 n)/\n<=1000/\∀l,upd g r (.û 0 j) l=Y->Q (.ref l) (upd (upd g r<|.û 0 j) l<|.l<|(List.range n).map λi=>V.int (i:Nat)):=by show Rq B d F ((ta d).bind λx=>.ok [x]) _;cases e:ta d with
 |ok x=>
    rw[e]at q;intro t H1 Ä J Ã Â;obtain⟨v,rfl,r3⟩:=cp Â
    cases x with|int j=>
     simp only[RW]at r3;subst r3;have q:Rq B d F (if 0<=j/\j<=1000 then Res.ok (WL.W.l<|WL.û 0 j.toNat)else .b) _:=q;by_cases I:0<=j/\j<=1000
     .rw[Ð I]at q;refine⟨j,M,by omega,by omega,λr D=>⟨r,j.toNat,M,?_,by omega,λl C=>?_⟩⟩;.rw[ai];congr 2;omega
      .have E:=J.rb.sub.free D;have R2:=J.new D<|.û 0 j;have A:=R2.rb.sub.free C;refine q (.ref l) _ _ (R2.new C _) ((Ã.trans<|Gr.new E D _).trans<|Gr.new A C _) ?_;simp only[RW];refine⟨l,_,M,ÿ.of ai,?_⟩;have go:∀(f:Hp)(is:List Nat),Ê B.K f (is.map λi=>WL.W.int<|0+(i:Nat)) (is.map λi=>V.int (i:Nat)):=λf is=>by induction is with|nil=>simp[Ê]|cons i is ih=>simp only[ņ,Ê,RW];exact⟨_,_,M,by simp,ih⟩
       exact go _ _
     .rw[Õ I]at q;exact q.elim|_=>exact False.elim q
 |x c=>rw[e]at q;exact q|b=>rw[e]at q;exact q
  exact⟨d,F,R,S⟩
end
section
variable{X:Cx}{B:Bx}
def S4(j:X.K=B.K)(e:XW X B)(h:∀F,Ê B.K F dws ĥ)(d:∀Z ws,á Z=.ok ws->ws.length+dws.length=n):∀a H Q,lo B (WL.bc (λws=>fn<|ws++dws) á) a H Q->s9 X (ĵ X.K n fn) ĥ (Ď B á) a H Q:=by intro a H Q⟨Z,F,R,q⟩;have q:=Rq.bind q;refine eM Z F R ?_;cases b:á Z with|b|x c=>rw[b]at q;exact q|ok ws=>rw[b]at q;exact λl m g f k i=>mx j e f k (i.app<|h g) (by rw[ϕ];exact d Z ws b) q M
def K6(r:X.K=B.K)(g:XW X B)(F:X.Fn (ò X.prog X.w) k f fd ps (ĵ X.K n fn))(q:Ñ k X.A)(j:Gl X x)(m:X.mg x=L (.ref f))(hk:W.keepIn X.K (.ref f)=U)(l:Binds X.K fd ps ds)(a:Vals ĥ ds)(o:∀F,Ê B.K F dws ĥ)(h:PA X (e::es) (Ď B á))(d:∀Z ws,á Z=.ok ws->ws.length+dws.length=n)(c:è x:=by decide)(i:SE X e es:=by rfl)(b:BT X pos es:=by rfl):PE X (.Call (.Name x p) (e::es) [] pos) (lo B<|WL.bc (λws=>fn<|ws++dws) á):=PE.imp (qY F q j m hk l a h c i b)<|S4 r g o d
end
structure ϙ(K:W.Frag)(x qual:Str)(st:Stmt)(f:Addr)(fd:FuncData)(dV:Value):Prop where ex:∃(oc:Value)(od:Option Addr)(kV doc pm:Value)(an:Option Addr)(cdv ct:Value)(osl:Array (Option Value)),fd=W.fnOf x qual (bh st) (aC st) (aj st) dV kV doc pm an cdv ct/\K.lookup f=L ⟨oc,od,.func fd,osl⟩/\W.codeIn K cdv qual=U
section
variable{K:W.Frag}
def JX{x a st f i h od an e kV d g b ct}(l:K.lookup f=L ⟨i,od,.func<|W.fnOf x a (bh st) (aC st) (aj st) h kV d g an b ct,e⟩)(c:W.codeIn K b a=U):ϙ K x a st f (W.fnOf x a (bh st) (aC st) (aj st) h kV d g an b ct) h:=⟨i,od,kV,_,g,an,_,ct,_,M,l,c⟩
def ϙ.binds{x a st f T g ps ds o Ú n}(F:ϙ K x a st f g (.ref T))(l:K.lookup T=L o)(hs:o.data=.seq Ú n)(h:∀kV b i an c ct us,(us++ds).length=ps.length->∃k,bindArgs (W.fnOf x a (bh st) (aC st) (aj st) (.ref T) kV b i an c ct) ⟨us,[]⟩=seqItems? (.ref T)>>=k/\k (L Ú)=pure (ps.zip<|us++ds)):Binds K g ps ds:=by refine Bd F.ex λt od kV b i an c ct j d u m=>?_;subst d;intro s us e q;obtain⟨k,p,r⟩:=h _ _ _ _ _ _ _ q;exact BindsTo.of_defaults M (e _ _ l) hs p r
def yM{x b st f Å dV N ps k m n}{Ã:List VW->Res VW}(t)(Fn:ϙ K x b st f Å dV)(S:Î N ps (aj st))(hn:N.length=n)(g:ps.length=m)(G:WL.run n t=Ã)(a0:ps.length<=N.length)(h:∀d A a s H E B,B.K=K->Ñ k (A.deeper<|envOfC b (aj st) s.heap.objs.size f d)->XW (fA (ò P w) P w K mg base N b (aj st) f d A a s H E) B->PassesOwn (model P w) (fA (ò P w) P w K mg base N b (aj st) f d A a s H E).A (fA (ò P w) P w K mg base N b (aj st) f d A a s H E).env (fA (ò P w) P w K mg base N b (aj st) f d A a s H E).xe->ã (fA (ò P w) P w K mg base N b (aj st) f d A a s H E) (aC st) (â B t)):ä P w K mg base (ò P w) (k+1) f Å ps (ĵ K m Ã):=by subst hn g G;refine Bd Fn.ex λoc od kV a7 pm an d ct a5 J lk I=>?_;subst J;refine uM lk I S (λvs H Q E q=>by refine mJ q λF ws _ r R _=>?_;rw[<-r.length];exact R) λA a s H vs Q E hr _ q=>?_;refine mJ q λF ws sm r R g=>?_;let X:Bx:=⟨K,H,F,λ_ _ _=>False,λ_ _ _ _ _ h=>h⟩;let Á:Bx:=X.pF (λc _ u=>∀C l j i,au u i->RB X i j->XR K i c C l->E (.ref C) l j) λc Z u F2 s h C l j i p=>h C l j i<|s.trans p;refine⟨_,h d A a s H E Á M hr (λÂ a6 H1 s1 Z u c R1 xp e C l T fl t z=>jx t<|xp C l H1 u (au.refl _) (R1.rb.box M M) z) Di,_,F,(RS.start sm r<|by omega).box (B':=Á) M M M,?_⟩;unfold WL.run at g;cases e:t _ with|r w=>rw[e]at g;exact λv j i o p D=>g v j i p o.sub o.base o.fr D|n Ô=>rw[e]at g;exact λÄ j i y p=>g .n j i p y.rb.sub y.rb.base y.rb.fr (by simp[RW])|bk Ô|ct Ô=>rw[e]at g;exact g.elim|x c Ô=>rw[e]at g;exact λC l j i p o z=>g C l j i p o.sub o.base o.fr z|b=>rw[e]at g;exact g.elim
end
section
variable{P:List Value->Prop}
def NI(h:P []):∀us,us.length=0->P us:=λus e=>by grind
def Dk(h:∀a0,P [a0]):∀us,us.length=1->P us:=λus e=>by cases us with|nil=>cases e|cons a t=>exact NI (P:=λt=>P _) (h a) t<|Yk e
def Cc(h:∀a0 a1,P [a0,a1]):∀us,us.length=2->P us:=λus e=>by cases us with|nil=>cases e|cons a t=>exact Dk (P:=λt=>P _) (λa1=>h a _) t<|Yk e
def Ck(h:∀a0 a1 a2,P [a0,a1,a2]):∀us,us.length=3->P us:=λus e=>by cases us with|nil=>cases e|cons a t=>exact Cc (P:=λt=>P _) (λa1 a2=>h a _ _) t<|Yk e
def MI(h:∀a0 a1 a2 a3,P [a0,a1,a2,a3]):∀us,us.length=4->P us:=λus e=>by cases us with|nil=>cases e|cons a t=>exact Ck (P:=λt=>P _) (λa1 a2 a3=>h a _ _ _) t<|Yk e
end
def Ϸ(K:W.Frag)(nm:Str)(st:Stmt):Prop:=∃(f:Addr)(a:FuncData),đ K nm nm st f a/\W.nsIn K mainGlobals nm=L (L<|.ref f)
def Ak(K:W.Frag)(nm:Str)(st:Stmt)(ds:Array Value):Prop:=∃(f T:Addr)(b:FuncData)(d:Option Addr)(n:Nat)(a:Array (Option Value)),ϙ K nm nm st f b (.ref T)/\W.nsIn K mainGlobals nm=L (L<|.ref f)/\W.keepIn K (.ref f)=U/\K.lookup T=L ⟨.type "tuple",d,.seq ds n,a⟩
def Š(P:Program)(w:World)(K:W.Frag)(c:Str->Option Value)(a:Heap)(CX:Wa)(k:Nat)(nm:Str)(ps:List Str)(ds:List Value)(sp:Sp):Prop:=∃(f:Addr)(b:FuncData),ä P w K c a CX k f b ps sp/\c nm=L (.ref f)/\W.keepIn K (.ref f)=U/\Binds K b ps []/\Binds K b ps ds
section
variable{K:W.Frag}{st:Stmt}
def aqC{f g od an d kV e h b ct}(a:W.nsIn K mainGlobals nm=L (L<|.ref f))(l:K.lookup f=L ⟨g,od,.func<|W.fnOf nm nm (bh st) (aC st) (aj st) .none kV e h an b ct,d⟩)(c:W.codeIn K b nm=U)(q:W.keepIn K (.ref f)=U):Ϸ K nm st:=⟨f,_,yD l c q,a⟩
def ans{f T h od an d e sl kV g i b ct ds n}(a:W.nsIn K mainGlobals nm=L (L<|.ref f))(l:K.lookup f=L ⟨h,od,.func<|W.fnOf nm nm (bh st) (aC st) (aj st) (.ref T) kV g i an b ct,e⟩)(c:W.codeIn K b nm=U)(q:W.keepIn K (.ref f)=U)(t:K.lookup T=L ⟨.type "tuple",d,.seq ds n,sl⟩):Ak K nm st ds:=⟨f,T,_,d,n,sl,JX l c,a,q,t⟩
def Ϸ.Ľ(D:Ϸ K nm st)(g:∀nm v,W.nsIn K mainGlobals nm=L (L v)->mg nm=L v)(e:∀kV c i an d ct us,us.length=ps.length->bindArgs (W.fnOf nm nm (bh st) (aC st) (aj st) .none kV c i an d ct) ⟨us,[]⟩=pure (ps.zip us))(h:∀f b,đ K nm nm st f b->ä P w K mg base CX k f b ps sp):Š P w K mg base CX k nm ps [] sp:=by obtain⟨f,b,F,a⟩:=D;exact⟨f,b,h f _ F,g _ _ a,F.kp,F.binds e,F.binds e⟩
def Ϸ.WK(D:Ϸ K nm st)(g:∀nm v,W.nsIn K mainGlobals nm=L (L v)->mg nm=L v)(c:∀kV d i an e ct us,us.length=ps.length->bindArgs (W.fnOf nm nm (bh st) (aC st) (aj st) .none kV d i an e ct) ⟨us,[]⟩=pure (ps.zip us))(h:∀f b,đ K nm nm st f b->mg nm=L (.ref f)->Binds K b ps []->ä P w K mg base CX k f b ps sp):Š P w K mg base CX k nm ps [] sp:=by obtain⟨f,b,F,a⟩:=D;exact⟨f,b,h f _ F (g _ _ a)<|F.binds c,g _ _ a,F.kp,F.binds c,F.binds c⟩
def Ak.Ľ{ds}(D:Ak K nm st ds.toArray)(l:∀nm v,W.nsIn K mainGlobals nm=L (L v)->mg nm=L v)(m:∀T kV b g an c ct us,(us++[]).length=ps.length->∃k,bindArgs (W.fnOf nm nm (bh st) (aC st) (aj st) (.ref T) kV b g an c ct) ⟨us,[]⟩=seqItems? (.ref T)>>=k/\k (L ds.toArray)=pure (ps.zip<|us++[]))(j:∀T kV b g an c ct us,(us++ds).length=ps.length->∃k,bindArgs (W.fnOf nm nm (bh st) (aC st) (aj st) (.ref T) kV b g an c ct) ⟨us,[]⟩=seqItems? (.ref T)>>=k/\k (L ds.toArray)=pure (ps.zip<|us++ds))(h:∀f e i,ϙ K nm nm st f e i->ä P w K mg base CX k f e ps sp):Š P w K mg base CX k nm ps ds sp:=by obtain⟨f,T,e,d,n,o,F,a,q,t⟩:=D;exact⟨f,e,h f _ _ F,l _ _ a,q,F.binds t M<|m T,F.binds t M<|j T⟩
end
section
variable{X:Cx}{B:Bx}
def cl(l:B.K=X.K)(o:Ñ j X.A)(C:Š X.prog X.w X.K X.mg X.base ē k x ps ds (Ğ X.K n fn))(g:PA X (e::es) (Ď B á))(hk:k<=j:=by decide)(d:∀Z ws,á Z=.ok ws->ws.length=n:=by repeat first|exact iz|apply cx)(i:Gl X x:=by rfl)(c:è x:=by decide)(h:SE X e es:=by rfl)(a:BT X pos es:=by rfl):PE X (.Call (.Name x p) (e::es) [] pos) (lo B<|WL.av fn á):=by exact mv C λf r G m q b _=>XH l.symm G (o.mono hk) i m q b g d c h a
def VJ(d:B.K=X.K)(e:Ñ j X.A)(C:Š X.prog X.w X.K X.mg X.base ē k x ps ds (Ğ X.K 0 fn))(hk:k<=j:=by decide)(c:Gl X x:=by rfl)(a:è x:=by decide):PE X (.Call (.Name x p) [] [] pos) (lo B<|WL.av fn WL.ak):=by obtain⟨f,g,G,m,q,b,_⟩:=C;exact O1 d.symm G (e.mono hk) c m q b a
def Ŧ(o:B.K=X.K)(r:Ñ j X.A)(g:XW X B)(C:Š X.prog X.w X.K X.mg X.base (ò X.prog X.w) k x ps ds (ĵ X.K n fn))(h:PA X (e::es) (Ď B á))(hk:k<=j:=by decide)(d:∀Z ws,á Z=.ok ws->ws.length=n:=by repeat first|exact iz|apply cx)(l:Gl X x:=by rfl)(c:è x:=by decide)(i:SE X e es:=by rfl)(a:BT X pos es:=by rfl):PE X (.Call (.Name x p) (e::es) [] pos) (lo B<|WL.bc fn á):=by exact mv C λf s G m q b _=>P1 o.symm g G (r.mono hk) l m q b h d c i a
def Fx(s:B.K=X.K)(t:Ñ j X.A)(h:XW X B)(C:Š X.prog X.w X.K X.mg X.base (ò X.prog X.w) k x ps ds (ĵ X.K n fn))(a:Vals ĥ ds)(r:∀F,Ê B.K F dws ĥ)(i:PA X (e::es) (Ď B á))(g:∀Z ws,á Z=.ok ws->ws.length+dws.length=n)(hk:k<=j:=by decide)(o:Gl X x:=by rfl)(d:è x:=by decide)(l:SE X e es:=by rfl)(c:BT X pos es:=by rfl):PE X (.Call (.Name x p) (e::es) [] pos) (lo B<|WL.bc (λws=>fn<|ws++dws) á):=by exact mv C λf u G m q _ b=>K6 s.symm h G (t.mono hk) o m q b a r i g d l c
end
def anm{a}{ps:List Str}(h:bindArgs a ⟨[],[]⟩=pure (ps.zip []))(us)(e:us.length=0):bindArgs a ⟨us,[]⟩=pure (ps.zip us):=by grind
def bind1{a}{ps:List Str}(h:∀a0,bindArgs a ⟨[a0],[]⟩=pure (ps.zip [a0]))(us)(e:us.length=1):bindArgs a ⟨us,[]⟩=pure (ps.zip us):=Dk (P:=λus=>bindArgs _ ⟨us,[]⟩=pure _) h _ e
def vi{a}{ps:List Str}(h:∀a0 a1,bindArgs a ⟨[a0,a1],[]⟩=pure (ps.zip [a0,a1]))(us)(e:us.length=2):bindArgs a ⟨us,[]⟩=pure (ps.zip us):=Cc (P:=λus=>bindArgs _ ⟨us,[]⟩=pure _) h _ e
def oH{a}{ps:List Str}(h:∀a0 a1 a2,bindArgs a ⟨[a0,a1,a2],[]⟩=pure (ps.zip [a0,a1,a2]))(us)(e:us.length=3):bindArgs a ⟨us,[]⟩=pure (ps.zip us):=Ck (P:=λus=>bindArgs _ ⟨us,[]⟩=pure _) h _ e
def NV{a}{ps:List Str}(h:∀a0 a1 a2 a3,bindArgs a ⟨[a0,a1,a2,a3],[]⟩=pure (ps.zip [a0,a1,a2,a3]))(us)(e:us.length=4):bindArgs a ⟨us,[]⟩=pure (ps.zip us):=MI (P:=λus=>bindArgs _ ⟨us,[]⟩=pure _) h _ e
def Mw{a T it ds}{ps:List Str}(h:∀a0 a1,∃k,bindArgs a ⟨[a0,a1],[]⟩=seqItems? (.ref T)>>=k/\k (L it)=pure (ps.zip<|[a0,a1]++ds))(us)(e:us.length=2):∃k,bindArgs a ⟨us,[]⟩=seqItems? (.ref T)>>=k/\k (L it)=pure (ps.zip<|us++ds):=Cc (P:=λus=>∃k,bindArgs _ ⟨us,[]⟩=seqItems? _ >>=k/\k _=pure (ps.zip<|us++ds)) h _ e
def Lw{a T it ds}{ps:List Str}(h:∀a0 a1 a2,∃k,bindArgs a ⟨[a0,a1,a2],[]⟩=seqItems? (.ref T)>>=k/\k (L it)=pure (ps.zip<|[a0,a1,a2]++ds))(us)(e:us.length=3):∃k,bindArgs a ⟨us,[]⟩=seqItems? (.ref T)>>=k/\k (L it)=pure (ps.zip<|us++ds):=Ck (P:=λus=>∃k,bindArgs _ ⟨us,[]⟩=seqItems? _ >>=k/\k _=pure (ps.zip<|us++ds)) h _ e
def cm{k}{A:Around}{a}(r:Ñ k (A.deeper a))(h:40<=k:=by first|decide|omega|exact ñ (show 40<=_ by decide)<|ϔ _ _):A.handled.isNone=U:=r.calm h
section
variable{X:Cx}{B:Bx}
def va(i)(hN:X.N[i]?=L x:=by rfl)(b:Fh X.env.scope x:=by first|exact Or.inl rfl|exact Or.inr<|Or.inl rfl|exact Or.inr<|Or.inr rfl)(c:è x:=by decide)(a:(x=="__classdict__")=O:=by decide):PE X (.Name x pos) (lo B<|WL.dA i):=UT<|pv i hN b c a
def wx(d:B.K=X.K)(e:PE X a (lo B ta))(c:PE X b (lo B tb))(hs:lu b:=by exact λ_ _=>rfl):PE X (.Subscript a b pos) (lo B<|WL.Ì WL.Ą ta tb):=YA PF (Ez d.symm) e c hs
def wk{v u w}(d:B.K=X.K)(b:X.mg x=L u)(r:RelV v u)(hw:∀F,RW X.K F w v)(a:Gl X x:=by rfl)(c:è x:=by decide):PE X (.Name x pos) (lo B<|WL.eC w):=Me (vO a b r c) (by grind)
def Ya{T}(c:X.mg x=Y)(a:bootBuiltins x=L (.type T))(b:Gl X x:=by rfl)(e:x≠"__name__":=by decide)(d:è x:=by decide):PE X (.Name x pos) (lo B<|WL.eC<|.ty T):=Me (UN b c a e d) λ_=>rfl
def Kh{nm C}(c:B.K=X.K)(d:X.mg x=L (.ref C))(a:ExcAt X.K nm C)(b:Gl X x:=by rfl)(e:è x:=by decide):PE X (.Name x pos) (lo B<|WL.eC<|.cls nm):=QT c.symm b d a e
def gx{i a a0 Ç}{ks vs:List VW}{p}(b:B.K=X.K)(e:X.mg x=L (.ref a0))(D:Dh X.w X.K a0 Ç)(c:∀F k w,WL.qo k ks vs=L w->∃v,Ç.lookup k=L v/\RW X.K F w v)(hi:PE X i (lo B a))(d:Gl X x:=by rfl)(hs:lu i:=by exact λ_ _=>rfl)(f:è x:=by decide):PE X (.Subscript (.Name x p) i pos) (lo B<|WL.Ì WL.Ą (WL.eC<|.ġ ks vs) a):=RT b.symm (vO d e M f) D hi (by rw[b];exact c) hs
def Ĕ(e:B.K=X.K)(c:X.A.units+64<cLine)(f:PE X a (lo B ta))(d:PE X b (lo B tb)):PT X (.Compare a [.Eq] [b] pos) (ď B<|WL.tB<|WL.Ì WL.oEq ta tb):=aO calm_eq (w_eq e.symm c) f d<|bu _
def Fd(e:B.K=X.K)(c:X.A.units+64<cLine)(f:PE X a (lo B ta))(d:PE X b (lo B tb)):PT X (.Compare a [.NotEq] [b] pos) (ď B<|WL.tB<|WL.Ì WL.Ω ta tb):=aO YU (UM e.symm c) f d<|bu _
def wS(i){a}(hN:X.N.Nodup)(d:PE X e (lo B ta))(hi:X.N[i]?=L x:=by rfl)(c:Loc X.env.scope x:=by first|exact Or.inl rfl|exact Or.inr rfl)(hs:swapsWith e (L<|.Name x a) pos.line X.env=pure O:=by rfl)(b:FL X x:=by first|exact .inl rfl|exact .inr rfl|assumption):PS X (.Assign [.Name x a] e pos) (â B<|WL.aN i ta):=YT hN hi c d hs b
def gN(i){b}(hN:X.N.Nodup:=by exact yf M)(hi:X.N[i]?=L x:=by rfl)(a:Loc X.env.scope x:=by first|exact Or.inl rfl|exact Or.inr rfl)(c:FL X x:=by first|exact .inl rfl|exact .inr rfl|assumption):PG X (.Name x pos) (ŝ b B<|WL.ax i):=BY<|qV hN hi a c
end
section
variable{X:Cx}{B:Bx}{id:String}
def wB(cm:∀xs c,r xs≠.x c)(h:bG X (.builtin id) (Η B.K r))(f:X.mg x=Y)(g:bootBuiltins x=L (.builtin id))(j:PA X (e::es) (Ď B á))(d:Gl X x:=by rfl)(i:x≠"__name__":=by decide)(b:è x:=by decide)(k:SE X e es:=by rfl)(a:BT X pos es:=by rfl):PE X (.Call (.Name x p) (e::es) [] pos) (lo B<|WL.ç r á):=XA cm<|x6 h d f g j i b k a
def wT(cm:∀xs c,r xs≠.x c)(h:bG X (.type id) (Η B.K r))(f:X.mg x=Y)(g:bootBuiltins x=L (.type id))(j:PA X (e::es) (Ď B á))(d:Gl X x:=by rfl)(i:x≠"__name__":=by decide)(b:è x:=by decide)(k:SE X e es:=by rfl)(a:BT X pos es:=by rfl):PE X (.Call (.Name x p) (e::es) [] pos) (lo B<|WL.ç r á):=XA cm<|nq h d f g j i b k a
def Rc(P:Program)(w:World)(K:W.Frag)(c:Str->Option Value)(a:Heap)(fI:Addr)(ps:List Str)(sp:Sp):Prop:=∃b:FuncData,ä P w K c a ē 1 fI b ps sp/\Binds K b ps []
def rI{j C fI ps nm n c}(t:B.K=X.K)(u:Ñ j X.A)(i:XW X B)(s:X.calm=U)(p:X.mg x=L (.ref C))(q:ko X.K C (L<|.ref fI))(f:W.typeIn X.K (.ref fI)=L (.type "function"))(I:Rc X.prog X.w X.K X.mg X.base fI ps (Ec C<|WL.fieldsOf nm))(k:ExcAt X.K nm C)(l:PA X (e::es) (Ď B á))(h:2<=j:=by decide)(o:Gl X x:=by rfl)(g:(WL.fieldsOf nm).length<=50:=by decide)(d:nm≠"Broken":=by decide)(r:è x:=by decide)(m:SE X e es:=by rfl)(a:BT X c es:=by rfl):PS X (.Raise (L<|.Call (.Name x n) (e::es) [] c) Y pos) (â B<|WL.jt nm á):=by obtain⟨v,F,b⟩:=I;exact C6 d t.symm i s o p q f F (u.mono h) b k g l r m a
end
section
variable{K:W.Frag}
def PY{a d n sl vs xs}(l:K.lookup a=L ⟨.type "tuple",d,.seq vs n,sl⟩)(b:Vals xs vs.toList)(c:vs.size<=sizeLine):∀H,ü K H a xs:=λ_=>.inr ⟨_,_,_,l,M,M,c,b⟩
def amF{f a st g od an d kV e i b ct}(l:K.lookup f=L ⟨g,od,.func<|W.fnOf "__init__" a (bh st) (aC st) (aj st) .none kV e i an b ct,d⟩)(c:W.codeIn K b a=U)(q:W.keepIn K (.ref f)=U):∃h,đ K "__init__" a st f h:=⟨_,yD l c q⟩
def rP{P w g b f a st ps sp}(D:∃c,đ K "__init__" a st f c)(j:∀kV d i an e ct us,us.length=ps.length->bindArgs (W.fnOf "__init__" a (bh st) (aC st) (aj st) .none kV d i an e ct) ⟨us,[]⟩=pure (ps.zip us))(h:∀c,đ K "__init__" a st f c->ä P w K g b ē 1 f c ps sp):Rc P w K g b f ps sp:=by obtain⟨c,F⟩:=D;exact⟨c,h _ F,F.binds j⟩
def afR{nm a}(b:ķ K nm a)(c:W.typeIn K (.ref a)=L (.type "type"))(d:(W.clsIn K a).map (·.mro)=L (.ref a::gf))(e:W.findIn K (.ref a) "__getattribute__"=L (L<|.builtin "BaseException.__getattribute__"))(f:W.findIn K (.ref a) "__getattr__"=L Y)(g:W.findIn K (.ref a) "__class__"=L (L<|.builtin "object.__class__")):W.nsIn K mainGlobals (Str.ofString (nm,a).1)=L (L<|.ref (nm,a).2)/\Ac K a (nm,a).2:=⟨b,c,.inl ⟨d,M⟩,e,f,g⟩
def aje{nm a b}(h:ķ K nm a)(c:W.typeIn K (.ref a)=L (.type "type"))(d:(W.clsIn K a).map (·.mro)=L (.ref a::.ref b::gf))(e:W.findIn K (.ref a) "__getattribute__"=L (L<|.builtin "BaseException.__getattribute__"))(f:W.findIn K (.ref a) "__getattr__"=L Y)(g:W.findIn K (.ref a) "__class__"=L (L<|.builtin "object.__class__")):W.nsIn K mainGlobals (Str.ofString (nm,a).1)=L (L<|.ref (nm,a).2)/\Ac K b (nm,a).2:=⟨h,c,.inr d,e,f,g⟩
end
def BQ{P w K d k m st o ps}(D:Ϸ K "law" st)(q:∀nm v,W.nsIn K mainGlobals nm=L (L v)->d nm=L v)(j:d "law"=L (.ref o)){x}(t:∀kV g n an i ct v,bindArgs (W.fnOf "law" "law" (bh st) (aC st) (aj st) .none kV g n an i ct) ⟨[v],[]⟩=pure [(x,v)])(h:∀b f c,đ K "law" "law" st f c->ä P w K d b ē k f c ps (Ğ K 1 m))(u:∀ns:List Int,ns.length<=63->m [.l<|ns.map .int]=.ok (.B U)):∃c,(∀s v,BindsTo s c ⟨[v],[]⟩ [(x,v)])/\∀b,K.In b->b.Ns mainGlobals d->ä P w K d b ē k o c ps (Sj K):=by refine dB D λf c F a=>?_;have e:=j.symm.trans<|q _ _ a;cases e;refine⟨c,λs v=>?_,λb _ _=>CQ (h _ _ _ F) u⟩;refine Bd F.ex λy od kV g n an i ct p l z r=>?_;subst l;exact .of_eq<|t _ _ _ _ _ _ v
noncomputable def Ph(K:W.Frag):Bool:=K.all λp=>match p.2.cls with|.type n=>n !="list"|_=>U
theorem AD:∀{K:W.Frag},Ph K=U->∀{a:Addr}{o:Obj},K.lookup a=L o->o.cls≠.type "list"
|[],_,a,o,e=>by simp at e|(b,u)::K,h,a,o,e=>by
 simp only[Ph,Yf,ł]at h;rw[Ϟ]at e;split at e;.cases e;intro z;have c:=h.1;rw[z]at c;simp at c
 .exact AD h.2 e
def ÿ.here{K:W.Frag}{F:Hp}{a:Addr}{vs:List V}(h:Ph K=U)(q:ÿ K F a vs):Rd F a (.l vs):=by
 rcases q with q|⟨o,c,n,d,b,_⟩;.exact q
 .exact absurd b (AD h d)
section
variable{B:Bx}
def RS.away(R:RS B Z Ö F H){a:Addr}(o:HO)(s:F a=Y)(q:B.H0 a=Y)(i:∀(j:Nat)(ws:List VW),Z[j]?=L (Sl.w ws)->Ö[j]?≠L (L<|V.ref a))(d:∀(j:Nat)(ks us:List VW),Z[j]?=L (Sl.od ks us)->Ö[j]?≠L (L<|V.ref a)):RS B Z Ö F (upd H a o):=by
 refine⟨⟨λb u e=>?_,λb u e=>?_,R.rb.ģ,R.rb.fr⟩,R.len,R.va,λj ws e=>?_,R.ap,R.dd.via M id (λ_ _ z=>.inl z) (λ_ _ _ e=>⟨e,M⟩) (au.refl _) λj ks us b v t m k g h=>⟨g,h,by
  have c:b≠a:=λz=>by subst z;exact d j ks us t m
  rw[ag c];exact k⟩⟩
 .have c:b≠a:=λz=>by subst z;rw[s]at e;cases e
  rw[ag c];exact R.rb.sub b u e
 .have c:b≠a:=λz=>by subst z;rw[q]at e;cases e
  rw[ag c];exact R.rb.base b u e
 .obtain⟨b,r,f,w,n,p,l⟩:=R.ow j ws e;have c:b≠a:=λz=>by subst z;exact i j ws e f
  exact⟨b,r,f,w,n,by rw[ag c];exact p,l⟩
end
end WS
namespace WS
open PySem PySem.Spec PyProof.Rows L2 PySem.Builtin PySem.Builtin.Str
section
variable{X:Cx}{B:Bx}{K:W.Frag}
def mH:Calm WL.Ua:=λx y c h=>by
 unfold WL.Ua at h;split at h;.split at h<;>cases h
 .cases h
set_option tactic.hygienic true in
def Lo:ë X (binaryOp .Add) (ħ K WL.Ua):=by intro d s k H x y v u Q I j f⟨F,wx,h,l,i,r2,q⟩;cases e:WL.Ua wx h with|b|x c=>rw[e]at q;exact q.elim|ok w=>
  rw[e]at q;unfold WL.Ua at e;split at e
  .split at e;.rename_i a b g;cases e;subst i r2;obtain⟨t,rfl⟩:=j;obtain⟨n,rfl⟩:=f;exact PyProof.Rows.add_str (λm tk=>hU (.str<|a++b) H (I.tok tk) ⟨_,M⟩<|eq1 q<|M)<|ñ g eP
   .cases e
  .cases e
def Ri(K:W.Frag)(r:VW->List VW->Res VW):V->List V->Hp->VK->Prop:=λx a H Q=>∃F w ws,au F H/\RW K F w x/\Ê K F ws a/\Τ F H K (r w ws) Q
def qy{e i a r}(cm:∀w ws c,r w ws≠.x c)(h:PE X e (Af X.K "str" (Ri B.K r) (lo B i)<|Ď B a)):PE X e (lo B<|WL.ov "str" r i a):=PE.imp h λg H Q d=>by refine dB d λf F R q=>?_;have q:=Rq.bind q;refine eM f F R (Rq.mono (au.refl _) q λw k v C s o j t=>?_);cases w with
|str x=>subst t;refine⟨M,f,s,o,Rq.mono j.f (Rq.bind k) λws b A y p R2 l r2=>?_⟩;refine sA p (.str x) ws R2.rb.sub (by simp[RW]) r2 ?_;cases em:r (.str x) ws with|b=>rw[em]at b;exact b.elim|x c=>exact absurd em<|cm _ _ c|ok z=>rw[em]at b;exact λv m u ex n=>b v u m (ex.rs B f g R2) ((j.trans l).trans ex.gr) n
|_=>exact(k).elim
theorem sL:∀tk ys,Vals (ys.map V.str)<|strsFrom tk ys|_,[]=>.nil|tk,y::ys=>.cons ⟨tk,M⟩<|sL _ _
theorem my{F}:∀ys:List Str,Ê K F (ys.map WL.W.str)<|ys.map V.str|[]=>rfl|y::ys=>by exact⟨_,_,M,M,my _⟩
def Y5:∀w ws c,WL.gq w ws≠.x c:=λw ws c h=>by
 unfold WL.gq at h;split at h;.split at h<;>cases h
 .cases h
set_option tactic.hygienic true in
def CZ:Ih X "str.split" (Ri K WL.gq):=by intro f s y H x J v Å Q I G j⟨F,w,ws,m,o,r2,q⟩;cases e:WL.gq w ws with|b|x c=>rw[e]at q;exact q.elim|ok z=>
  rw[e]at q;unfold WL.gq at e;split at e
  .split at e
   .rename_i a b A;refine Yc A λp C n=>?_;cases e;simp only[RW]at o;subst o;refine fy (cp r2) λv2 k r3=>?_;subst k;simp only[RW]at r3;subst r3;obtain⟨t,rfl⟩:=G;obtain⟨u,rfl,⟨t',rfl⟩⟩:=vals1 j;have g:(b.length==0)=O:=by simpa using p
    have D:a.length<=sizeLine:=ñ n eP;have E:a.length+2<=sizeLine:=ñ (Nat.add_le_add_right n 2) (by decide);have l:(partsBetween a (occurrences a b 0 a.length<|a.length+1) b.length).length<=sizeLine:=by have i:=StrLaws.occ_length_le a b 0 a.length<|a.length+1;rw[length_partsBetween];omega
    have q:Τ F H K (.ok<|.l<|(Txt.split a b).map .str) Q:=by rw[SF.zj a b p C];exact q
    have one:Txt.split a b=[a]->∃v r,Inv X f y r _/\RelV v (.ref s.heap.objs.size)/\Q v r:=λi=>by rw[i]at q;exact(hU (.ref _) _ (I.Bt (t':=s.toks) (ys:=[.str a]) (È:=[.str a t]) (.cons ⟨_,M⟩ .nil)<|show 1<=sizeLine by decide) M<|Ui m q (my [a]) I.fresh)
    cases d:decide (a.length<b.length)||decide (strKind a<strKind b)
    .cases h:(occurrences a b 0 a.length<|a.length+1).isEmpty;.refine Qd Rm (Nf _ _ _) Xq (Br _ _) (meets_str_split_sep a b t t' d g h D l) ?_;have i:Txt.split a b=partsBetween a _ b.length:=(Õ<|Lr d).trans<|Õ<|Lr h;rw[i]at q;exact hU (.ref _) _ (I.Bt (sL _ _)<|by rw[Į];exact l) M<|Ui m q (my _) I.fresh
     .refine Qd Rm (Nf _ _ _) Xq (Br _ _) (meets_str_split_not_found a b t t' d g h) ?_;exact one<|(Õ<|Lr d).trans<|Ð h
    .refine Qd Rm (Nf _ _ _) Xq (Br _ _) (meets_str_split_cannot_occur a b t t' d) ?_;exact one<|Ð d
   .cases e
  .cases e
def wW:∀w ws c,WL.jw w ws≠.x c:=λw ws c h=>by unfold WL.jw at h;split at h<;>cases h
def U4:Ih X "str.startswith" (Ri K WL.jw):=by intro d s i H x h v l Q I g a⟨F,w,ws,j,f,r2,q⟩;cases e:WL.jw w _ with|b|x c=>rw[e]at q;exact q.elim|ok z=>
 unfold WL.jw at e;split at e;.subst f;refine fy (cp r2) λv2 b r3=>?_;subst b;subst r3;obtain⟨t,rfl⟩:=g;obtain⟨u,rfl,⟨k,rfl⟩⟩:=vals1 a;exact SC.startswith<|hU (.B _) H I M<|eq1 q<|M
 .cases e
def T3:∀w ws c,WL.ur w ws≠.x c:=λw ws c h=>by
 unfold WL.ur at h;split at h;.split at h<;>cases h
 .cases h
set_option tactic.hygienic true in
def OW:Ih X "str.partition" (Ri K WL.ur):=by intro h s D H x P v R Q I Ã l⟨F,w,ws,E,A,r2,q⟩;cases e:WL.ur w ws with|b|x c=>rw[e]at q;exact q.elim|ok z=>
  rw[e]at q;unfold WL.ur at e;split at e
  .split at e
   .rename_i a b G;obtain⟨N,Å⟩:=G;cases e;simp only[RW]at A;subst A;refine fy (cp r2) λv2 m r3=>?_;subst m;simp only[RW]at r3;subst r3;obtain⟨t,rfl⟩:=Ã;obtain⟨u,rfl,⟨t',rfl⟩⟩:=vals1 l;have k:(b.length==0)=O:=by simpa using N
    have J:a.length<=sizeLine:=ñ Å eP;have j:∀(f d g:Str)(n y p:Tok)(tk:Nat),Τ F H K _ Q->∃v C,Inv X h D C {s with heap:=s.heap.push {cls:=.type "tuple",data:=.seq _},toks:=tk}/\RelV v (.ref s.heap.objs.size)/\Q v C:=λf d g n y p tk q=>by refine(hU (.ref _) _ (I.laid (t':=tk) (o:=.t [.str f,.str d,.str g]) (λb ob q=>Ă _ q) (í _) ?_) M<|Zm E q (vs:=[.str f,.str d,.str g]) (my [f,d,g]) I.fresh);exact⟨show 3<=sizeLine by decide,[.str f n,.str d y,.str g p],.cons ⟨_,M⟩<|.cons ⟨_,M⟩<|.cons ⟨_,M⟩ .nil,_,ĺ _ M,M,0,M⟩
    refine Qd Ux (Nf _ _ _) PySem.F.entry_str_partition (PySem.F.args_str_partition_2 _ _) (meets_str_partition a b t t' k J) ?_;unfold Txt.partition at q;revert q;cases occurrences a b 0 a.length 1 with|nil|cons i r=>intro q;exact j _ _ _ _ _ _ _ q
   .cases e
  .cases e
theorem xH{F:Hp}:∀{ws:List VW}{ys:List Str}{vs:List V}{È:List Value},WL.strsOf ws=L ys->Ê K F ws vs->Vals vs È->StrsAre È ys|[],ys,vs,È,e,r,h=>by cases e;simp only[Ê]at r;subst r;cases h;exact .nil|w::ws,ys,vs,È,e,r,h=>by cases w with
 |str x=>simp only[WL.strsOf]at e;obtain⟨c,a,rfl⟩:=μ.mp e;simp only[Ê,RW]at r;obtain⟨v,b,rfl,rfl,r2⟩:=r;cases h with|cons h1 h2=>obtain⟨t,rfl⟩:=h1;exact .cons x t (xH a r2 h2)
 |_=>simp[WL.strsOf]at e
def W5:∀w ws c,WL.uu w ws≠.x c:=λw ws c h=>by
 unfold WL.uu at h;split at h
 .split at h;.split at h<;>cases h
  .cases h
 .cases h
set_option tactic.hygienic true in
def MW(A:X.K=K):Ih X "str.join" (Ri K WL.uu):=by intro d s E H x C v G Q I r b⟨F,w,ws,i,f,r2,q⟩;cases e:WL.uu w ws with|b|x c=>rw[e]at q;exact q.elim|ok z=>
  rw[e]at q;unfold WL.uu at e;split at e
  .split at e
   .split at e;.rename_i a D Å l n;cases e;simp only[RW]at f;subst f;obtain⟨v2,rfl,r3⟩:=cp r2;simp only[RW]at r3;obtain⟨p,J,rfl,o,y⟩:=r3;obtain⟨t,rfl⟩:=r;obtain⟨u,rfl,j⟩:=vals1 b;cases j;obtain⟨h,g,m,_⟩:=I.list<|A▸i.seq o;refine PyProof.Rows.join_list m.isList (xH l y g) (ñ n<|by decide) λN k=>?_;rw[SF.Z4];exact⟨.str _,H,I.tok k,⟨_,M⟩,eq1 q<|by simp[RW]⟩
    .cases e
   .cases e
  .cases e
def XJ(K:W.Frag):V->Option Int->Option Int->Hp->VK->Prop:=λx l h H Q=>∃F wx i,au F H/\RW K F wx x/\l=L i/\h=Y/\Τ F H K (WL.v7 wx<|.int i) Q
def BU:Ο X (XJ K):=by intro d s w H x v p A lo C o Q I m f g n⟨F,wx,i,y,r,h,b,q⟩;subst h b;cases g with|int i ti=>cases n;cases e:WL.v7 wx (.int i)with|b|x c=>rw[e]at q;exact q.elim|ok z=>rw[e]at q;cases wx with
 |str a=>
   subst r;obtain⟨t,rfl⟩:=m;unfold WL.v7 at e;dsimp only at e;split at e;.rename_i b;cases e;refine⟨"str",_,PySem.F.slot_str_getitem.lookup,Nf _ _ _,wpAny_getItem_str_slice (l:=L (i,ti)) (u:=Y) (st:=Y) f M ?_⟩;exact post_val_or_str ⟨ñ (Txt.slice_le a _ _)<|ñ b.2 eP,λj k=>hU (.str<|Txt.slice a (L i) Y) H (I.tok k) ⟨j,M⟩<|eq1 q<|by simp[RW]⟩
   .cases e|_=>cases e
def AY{a b ta tb m pos}(p:PE X a (lo B ta))(z:PE X b (lo B tb)):PE X (.Subscript a (.Slice (L b) Y Y m) pos) (lo B<|WL.Ì WL.v7 ta tb):=PE.imp (xY (BU (K:=B.K)) p (OH z) DG) λh H Q f=>by refine dB f λg F R q=>?_;have q:=Rq.bind q;refine eM g F R (Rq.mono (au.refl _) q λx j v D t r k A=>?_);have j:=Rq.bind j;refine eM g t r (Rq.mono k.f j λy e v2 C s R2 l r2=>?_);cases y with
 |int i=>refine⟨i,r2,s,x,i,R2.rb.sub,A.keep l.f,M,M,?_⟩;cases d:WL.v7 x (.int i)with
  |ok w=>rw[d]at e;exact λv n u E o=>e v u n (E.rs B g h R2) ((k.trans l).trans E.gr) o|x c=>
    unfold WL.v7 at d;split at d;.split at d<;>cases d
    .cases d|b=>rw[d]at e;exact e
 |_=>cases x<;>exact(e).elim
end
end WS
namespace L2
noncomputable def Xm(lo:Int)(n:Nat):It:=⟨λi _=>i<n,λi H x a=>a=H/\x=.int (lo+(i:Nat)*2),λi _=>n<=i⟩
def vB{P:Program}{w:World}{K:W.Frag}{tg:Expr}(it:Addr)(lo:Int)(n:Nat):Turn P w K tg (Xm lo n) [it] it λi h=>IsRangeIter h it (lo+(i:Nat)*2) ((n:Int)-(i:Nat)) 2 where
 mem:=by simp
 obj:=λi h st b hb=>by
  have e:b=it:=by simpa using hb
  subst e;exact⟨_,st,λv z=>by have z':Data.fields _=Data.cell v:=z;cases z'⟩
 keep:=λi h h' st k=>k it (by simp) _ st;item:=by intro X hP hw hK i Æ s Z H E hc I hf st hg;subst hP hw hK;obtain⟨f0,f1,f2,f3,f4,f5⟩:=hf it (by simp);have W:=Walks.range (prog:=X.prog) (w:=X.w) (I.ok.hd hc) it lo 2 n;refine W.item i s _ _ hg st λv h' tk hv Ŭ kk=>?_;obtain⟨t,rfl⟩:=hv;have I1:Inv X Æ Z H {s with heap:=h',toks:=tk}:=I.turned (λb o hb e=>kk b o (by simpa using hb) e) f0 f1 f3 f4 f5;exact⟨_,M,z5 (s:={s with heap:=h',toks:=tk}) (n:="range_iterator") Ŭ M M (by decide) ⟨.int<|lo+i*2,H,I1,⟨t,M⟩,⟨M,M⟩,Ŭ,λb hb=>(hf b hb).1⟩⟩
 done:=by intro X hP hw hK i Æ s Z H E hc I hf st hg;subst hP hw hK;obtain⟨f0,f1,f2,f3,f4,f5⟩:=hf it (by simp);exact wpAny_pyNext_range_end (I.ok.hd hc) st (by have:n<=i:=hg;omega) λh' eb=>⟨M,I.turned (t':=s.toks) (λb o hb e=>eb b o hb e) f0 f1 f3 f4 f5⟩
 self:=λ_ _ _ _ _ st h=>wpAny_pyIter_rangeiter st h
def jZ(a b):Builtin.Range.rangeSize a b 2=((b-a+1)/2).toNat:=by unfold Builtin.Range.rangeSize;split<;>omega
def M5{a b}(f:-2^60<=a)(d:a<2^60)(e:-2^60<=b)(c:b<2^60):Builtin.Range.small a b 2=U:=by unfold Builtin.Range.small;rw[jZ];simp only[Builtin.Range.rangeFitsLong,ł,Yl,Lb,show(2:Int)>0 by decide,ϭ];omega
section
variable{X:Cx}
def P5{Æ}{Z:St}{H s R E lo hi t u v tk}(I:Inv X Æ Z H s)(d:-2^60<=lo)(j:lo<2^60)(g:-2^60<=hi)(h:hi<2^60)(q:R (Xm lo ((hi-lo+1)/2).toNat) H):X.wp (pyIter<|.ref s.heap.objs.size) (Po X Æ Z tg R) E {s with heap:=s.heap.push {cls:=.type "range",data:=.fields #[.int lo t,.int hi u,.int 2 v]},toks:=tk}:=by
 refine wpAny_pyIter_range (IsRange.new ..) (M5 d j g h) ?_;have a:Inv X Æ Z H {s with heap:=s.heap.push {cls:=.type "range",data:=.fields #[.int lo t,.int hi u,.int 2 v]},toks:=tk}:=I.kept λb o e=>Ă _ e;refine⟨_,_,_,_,H,M,a.kept (t':=tk) λb o e=>Ă _ e,vB _ lo ((hi-lo+1)/2).toNat,?_,λb f=>?_,q⟩
 .have i:lo+((0:Nat):Int)*2=lo:=by simp
  have c:((((hi-lo+1)/2).toNat:Nat):Int)-((0:Nat):Int)=Builtin.Range.rangeSize lo hi 2:=by rw[jZ];simp
  rw[i,c];exact ĺ _ M
 .have e:b=(s.heap.push {cls:=.type "range",data:=.fields #[.int lo t,.int hi u,.int 2 v]}).objs.size:=by simpa using f
  subst e;exact a.Cg (í _)<|a.Û.fresh<|í _
def zY(ta:TA):TI:=λa H R=>ta a H λb c=>∃i j:Int,b=[.int i,.int j,.int 2]/\(-2^60<=i/\i<2^60/\-2^60<=j/\j<2^60)/\R (Xm i ((j-i+1)/2).toNat) c
def L4{a b c ta p pos}(x:Gl X "range")(y:X.mg "range"=Y)(u:PA X [a,b,c] ta)(hs:starEach [a,b,c] X.env=[(O,eval a X.env),(O,eval b X.env),(O,eval c X.env)]:=by rfl)(g:starEach [b,c] X.env=[(O,eval b X.env),(O,eval c X.env)]:=by rfl):PI X tg (.Call (.Name "range" p) [a,b,c] [] pos) (zY ta):=by intro k s o H R I h;refine Call_ (lT I x y El<|Ag (ß (u _ _ s o H _ I h) λC A f=>?_) (by grind)<|by rw[g];rfl);obtain⟨D,E,v,z,d⟩:=f;obtain⟨i,j,e,⟨d,m,n,l⟩,q⟩:=d;subst e;cases z with|cons r rr=>cases rr with|cons r' rr=>cases rr with|cons r'' rr=>cases rr;obtain⟨t,rfl⟩:=r;obtain⟨B,rfl⟩:=r';obtain⟨w,rfl⟩:=r'';exact call_range_3 (by decide) (P5 v d m n l q) (Or.inl<|PyProof.noPylong_small<|by omega)
end
end L2
namespace WS
open PySem PySem.Spec PyProof.Rows L2 PySem.Builtin PySem.Builtin.Str
section
variable{X:Cx}{B:Bx}{K:W.Frag}
def J6{lo n F}:Walk K (Xm lo n) (WL.Wb lo 2 n) F:=by
 refine⟨λi x e b j d g=>?_,λb j d g=>by show n<=(WL.Wb _ 2 n).length;simp[WL.Wb]⟩;have c:=by have:=(Ĵ.mp e).1;simpa[WL.Wb]using this
 simp [WL.Wb,Mr c]at e;cases e;refine⟨c,λu k a=>?_⟩;obtain⟨h,f⟩:=a;subst h f;exact⟨b,Ext.refl _ _,M⟩
def ZH{a c d p pos b}(w:Gl X "range")(A:X.mg "range"=Y)(h:PE X a (lo B ta))(h':PE X c (lo B tb))(hs:starEach [a,c,.Constant (.int 2) d b] X.env=[(O,eval a X.env),(O,eval c X.env),(O,eval (.Constant (.int 2) d b) X.env)]:=by rfl)(m:starEach [c,.Constant (.int 2) d b] X.env=[(O,eval c X.env),(O,eval (.Constant (.int 2) d b) X.env)]:=by rfl)(E:starEach [a,c,.Constant (.int 2) d b] X.env=(O,eval a X.env)::starEach [c,.Constant (.int 2) d b] X.env:=by rfl)(z:starEach [c,.Constant (.int 2) d b] X.env=(O,eval c X.env)::starEach [.Constant (.int 2) d b] X.env:=by rfl)(G:starEach [.Constant (.int 2) d b] X.env=(O,eval (.Constant (.int 2) d b) X.env)::starEach [] X.env:=by rfl):PI X tg (.Call (.Name "range" p) [a,c,.Constant (.int 2) d b] [] pos) (ŭ B<|WL.zY ta tb):=PI.imp (L4 w A (aG h (aG h' (aG ID bS G) z) E) hs m) λr H R f=>by refine dB f λg F s q=>?_;have q:=Rq.bind q;refine eM g F s (Rq.mono (au.refl _) q λx l v Ã D C n I=>?_);have l:=Rq.bind l;refine eM g D C (Rq.mono n.f l λy e v2 t u R2 o r2=>?_);cases x with
|int i=>cases y with|int k=>
   have e:Rq B g F (if -2^60<=i/\i<2^60/\-2^60<=k/\k<2^60 then Res.ok _ else .b) _:=e;subst I r2;by_cases j:-2^60<=i/\i<2^60/\-2^60<=k/\k<2^60;.rw[Ð j]at e;exact hU i k M j ((show∀J N Å,_ from e) _ t u R2 (n.trans o) J6)
   .rw[Õ j]at e;exact False.elim e|_=>exact False.elim e
|_=>exact False.elim e
end
section
variable{X:Cx}{B:Bx}{K:W.Frag}{o x:Expr}{to:EF}{á:AF}{å Ó:Pos}
def jO(g:X.K=B.K)(e:PE X o (lo B to))(f:PA X [x] (Ď B á))(c:attributeBase o "split" X.env (eval o X.env)=eval o X.env:=by rfl)(d:((backTo Ó<|starEach [x] X.env).all (λx=>!x.1)&&(backToKw Ó<|keywordEach [] X.env).all (λx=>x.1.isSome)&&decide ([x].length+([]:List Keyword).length+(if([]:List Keyword).isEmpty then 0 else 1)<30))=U:=by rfl)(b:(å.endLine==Ó.line)=U:=by rfl)(hs:starEach [x] X.env=(O,eval x X.env)::starEach [] X.env:=by rfl)(a:BT X Ó []:=by rfl):PE X (.Call (.Attribute o "split" å) [x] [] Ó) (lo B<|WL.ov "str" WL.gq to á):=qy Y5<|kM Qm Rm PySem.F.type_str_split CZ e f c d b hs a
def B6(g:X.K=B.K)(e:PE X o (lo B to))(f:PA X [x] (Ď B á))(c:attributeBase o "startswith" X.env (eval o X.env)=eval o X.env:=by rfl)(d:((backTo Ó<|starEach [x] X.env).all (λx=>!x.1)&&(backToKw Ó<|keywordEach [] X.env).all (λx=>x.1.isSome)&&decide ([x].length+([]:List Keyword).length+(if([]:List Keyword).isEmpty then 0 else 1)<30))=U:=by rfl)(b:(å.endLine==Ó.line)=U:=by rfl)(hs:starEach [x] X.env=(O,eval x X.env)::starEach [] X.env:=by rfl)(a:BT X Ó []:=by rfl):PE X (.Call (.Attribute o "startswith" å) [x] [] Ó) (lo B<|WL.ov "str" WL.jw to á):=qy wW<|kM Qm PySem.F.slot_str_startswith PySem.F.type_str_startswith U4 e f c d b hs a
def TH(g:X.K=B.K)(e:PE X o (lo B to))(f:PA X [x] (Ď B á))(c:attributeBase o "partition" X.env (eval o X.env)=eval o X.env:=by rfl)(d:((backTo Ó<|starEach [x] X.env).all (λx=>!x.1)&&(backToKw Ó<|keywordEach [] X.env).all (λx=>x.1.isSome)&&decide ([x].length+([]:List Keyword).length+(if([]:List Keyword).isEmpty then 0 else 1)<30))=U:=by rfl)(b:(å.endLine==Ó.line)=U:=by rfl)(hs:starEach [x] X.env=(O,eval x X.env)::starEach [] X.env:=by rfl)(a:BT X Ó []:=by rfl):PE X (.Call (.Attribute o "partition" å) [x] [] Ó) (lo B<|WL.ov "str" WL.ur to á):=qy T3<|kM Qm Ux PySem.F.type_str_partition OW e f c d b hs a
def DY(g:X.K=B.K)(e:PE X o (lo B to))(f:PA X [x] (Ď B á))(c:attributeBase o "join" X.env (eval o X.env)=eval o X.env:=by rfl)(d:((backTo Ó<|starEach [x] X.env).all (λx=>!x.1)&&(backToKw Ó<|keywordEach [] X.env).all (λx=>x.1.isSome)&&decide ([x].length+([]:List Keyword).length+(if([]:List Keyword).isEmpty then 0 else 1)<30))=U:=by rfl)(b:(å.endLine==Ó.line)=U:=by rfl)(hs:starEach [x] X.env=(O,eval x X.env)::starEach [] X.env:=by rfl)(a:BT X Ó []:=by rfl):PE X (.Call (.Attribute o "join" å) [x] [] Ó) (lo B<|WL.ov "str" WL.uu to á):=qy W5<|kM Qm PySem.F.slot_str_join PySem.F.type_str_join (MW g) e f c d b hs a
end
section
variable{X:Cx}{B:Bx}
def int_text{i:Int}(h:i.natAbs<1000):(Str.ofString<|toString i).length<=10/\i.natAbs.log2<1920:=by
 have a:((List.range 1000).all λn=>Nat.ble (Str.ofString<|toString<|Int.ofNat n).length 10&&Nat.ble (Str.ofString<|toString<|Int.neg<|Int.ofNat n).length 10)=U:=by decide+kernel
 have k:=ş.mp a i.natAbs<|ŵ.mpr h;rw[ł,Ma,Ma]at k;refine⟨?_,?_⟩
 .rcases Int.natAbs_eq i with e|e;.rw[e];exact k.1
  .rw[e];exact k.2
 .by_cases z:i.natAbs=0;.rw[z];decide
  .rw[Il z];exact Ē h (by decide)
def RY{Æ}{Z:L2.St}{H s}(I:Inv X Æ Z H s){h'}(k:∀b o,s.heap.get? b=L o->h'.get? b=L o):Inv X Æ Z H {s with heap:=h'}:=I.Gj (λb a=>absurd a Wf) (λb o q _ _=>k b o q) λb o q _ _=>⟨_,k b o q⟩
def NK(K:W.Frag)(Â:Nat)(ta:TE):TE:=λc H Q=>ta c H λx b=>∃n d a,x=.ref a/\Ū K b n x d/\d.showable=U/\d.hasDict=O/\Â+n<cLine/\d.shown.length<=80000/\Q (.str d.shown) b
def ER{e pos ta}(l:X.A.guards=L [])(v:PE X e ta):PE X (.FormattedValue e 114 Y pos) (NK X.K X.A.units ta):=by intro c s j H Q I h;refine wpAny_FormattedValue_repr (ß (v c s j H _ I h) λu y f=>?_);obtain⟨x,w,g,t,q⟩:=f;obtain⟨n,d,a,ex,p,i,D,C,m,q⟩:=q;subst ex;cases t;obtain⟨⟨E,r⟩,A,G⟩:=g.reads n d (.ref a) _ p M;have b:d.shown.length<=sizeLine:=ñ m (by decide);refine pyReprObj_of_reads r i λz=>by grind l (by omega) (λ_ _ q=>q) (λJ u tk k=>?_) b;exact Px (λK o=>⟨.str d.shown,w,((RY g k).tok _).tok _,⟨_,M⟩,q⟩) b
theorem lL:∀l,(PyData.shownAll l).length=l.length|[]=>rfl|x::l=>by simp [PyData.shownAll,lL l]
theorem ZA:∀{ws:List VW}{n k},WL.Fc ws=L n->WL.hI (k+1) ws=U->PyData.showableAll (iW ws)=U/\PyData.hasDictAll (iW ws)=O/\((PyData.shownAll<|iW ws).map (·.length)).sum+2*(iW ws).length+3<=n
|[],n,k,e,_=>by cases e;exact⟨M,M,í _⟩|.int i::ws,n,k,e,o=>by
 have e:(if i.natAbs<1000 then(WL.Fc ws).map (.+12)else Y)=L n:=e;by_cases a:i.natAbs<1000;.rw[Ð a]at e;obtain⟨m,em,rfl⟩:=μ.mp e;have o:=Sb.mp o;obtain⟨c,d,f⟩:=ZA em o.2;have b:=int_text a;refine⟨by simpa[iW,Uu,Tu,PyData.showableAll,PyData.showable,b.2]using c,by simpa[iW,Uu,Tu,PyData.hasDictAll,PyData.hasDict]using d,?_⟩;simp only[iW,Uu,Tu,PyData.shownAll,PyData.shown,ņ,List.sum_cons,Ĩ];have:=b.1;omega
 .rw[Õ a]at e;cases e|.n::_,_,_,e,_=>by cases e|.str _::_,_,_,e,_=>by cases e|.B _::_,_,_,e,_=>by cases e|.ty _::_,_,_,e,_=>by cases e|.t _::_,_,_,e,_=>by cases e|.l _::_,_,_,e,_=>by cases e|.ġ _ _::_,_,_,e,_=>by cases e|.cls _::_,_,_,e,_=>by cases e|.e _ _::_,_,_,e,_=>by cases e|.i _ _::_,_,_,e,_=>by cases e
inductive PJ(X:Cx)(B:Bx):List Expr->AF->Prop where|nil:PJ X B [] WL.ak|c{x:Str}{j:Nat}{pos:Pos}{es:List Expr}{t:AF}(h:PJ X B es t)(hl:x.length<=1000):PJ X B (.Constant (.str x) j pos::es) t|f{e:Expr}{pos:Pos}{es:List Expr}{ta:EF}{t:AF}(he:PE X e (lo B ta))(h:PJ X B es t):PJ X B (.FormattedValue e (-1) Y pos::es) (WL.aa (WL.Jc ta) t)|r{e:Expr}{pos:Pos}{es:List Expr}{ta:EF}{t:AF}(hK:X.K=B.K)(hu:X.A.units+64<cLine)(hg:X.A.guards=L [])(he:PE X e (lo B ta))(h:PJ X B es t):PJ X B (.FormattedValue e 114 Y pos::es) (WL.aa (WL.Wk ta) t)
def Bw:PJ X B [] WL.ak:=.nil
def Dj{x j pos es t}(h:PJ X B es t)(a:x.length<=1000:=by decide+kernel):PJ X B (.Constant (.str x) j pos::es) t:=.c h a
def Gz{e pos es ta t}(a:PE X e (lo B ta))(h:PJ X B es t):PJ X B (.FormattedValue e (-1) Y pos::es) (WL.aa (WL.Jc ta) t):=.f a h
def VM{e pos es ta t}(d:X.K=B.K)(c:X.A.units+64<cLine)(a:X.A.guards=L [])(b:PE X e (lo B ta))(h:PJ X B es t):PJ X B (.FormattedValue e 114 Y pos::es) (WL.aa (WL.Wk ta) t):=.r d c a b h
def iy(x y:Str):(x++y).length=x.length+y.length:=by show(x.cps++y.cps).size=_;rw[Array.size_append];rfl
def xP{n m}{a:Str}(h:a.length<=100000*n)(b:n+m<=50):a.length<=sizeLine:=ñ h (ñ (Nat.mul_le_mul_left 100000<|show n<=50 by omega)<|by decide)
theorem jy:∀{es t},PJ X B es t->∃ts,Paired (PE X) es ts/\∀Z c F H Q b n,RS B Z c F H->n+es.length<=50->b.length<=100000*n->Rq B Z F (t Z) (λ_=>∀H' g y,y.length<=5000000->RS B Z c g H'->Gr F H g H'->Q (.str y) H')->tJ ts b c H Q
|_,_,.nil=>⟨[],.nil,λZ c F H Q b n R j D q=>⟨xP D j,(show∀H' g(y:Str),_ from q) H F b (by simp at j;omega) R Gr.refl⟩⟩|_,_,.c (x:=x) (es:=es) h hl=>by
  obtain⟨ts,u,z⟩:=jy h;refine⟨_,.cons i5 u,λZ c F H Q b n R j D q=>?_⟩;have e:n+1+es.length<=50:=by simp at j;omega
  have d:(b++x).length<=100000*(n+1):=by rw[iy];omega
  exact⟨x,M,xP d e,z Z c F H Q (b++x) (n+1) R e d q⟩|_,_,.f (es:=es) (ta:=ta) (t:=t) he h=>by
  obtain⟨ts,u,z⟩:=jy h;refine⟨_,.cons (pW he) u,λZ c F H Q b n R j D q=>?_⟩;have e:n+1+es.length<=50:=by simp at j;omega
  have q:=Rq.bind<|Rq.bind q;refine⟨Z,F,R,Rq.mono (au.refl _) q λx f v Å J E C A=>?_⟩
  cases x with|int i=>
   subst A;by_cases p:i.natAbs<1000
   .have Ã:=int_text p;have d:(b++(toString i:Str)).length<=100000*(n+1):=by rw[iy];have:=Ã.1;omega
    rw[show WL.Ft (.int i)=.ok (.int i)from Ð p]at f;exact .inl ⟨i,M,Ã.2,_,M,xP d e,z Z c J Å Q _ (n+1) E e d<|Rq.mono C.f (Rq.bind<|show Rq B Z F ((t Z).bind λG=>.ok (.int i::G)) _ from f) λws k H' g K l R2 I=>(show∀H' g(y:Str),_ from k) H' g K l R2<|C.trans I⟩
   .rw[show WL.Ft (.int i)=.b from Õ p]at f;exact False.elim f|_=>exact False.elim f
|_,_,.r (es:=es) (ta:=ta) (t:=t) hK hu hg he h=>by
  obtain⟨ts,u,z⟩:=jy h;refine⟨_,.cons (ER hg he) u,λZ c F H Q b n R j D q=>?_⟩;have e:n+1+es.length<=50:=by simp at j;omega
  have q:=Rq.bind<|Rq.bind q;refine⟨Z,F,R,Rq.mono (au.refl _) q λx f v Å J E C A=>?_⟩;cases x with|l ws=>
   by_cases p:WL.Bf ws=U;.have T:WL.Ht (.l ws)=.ok (.l ws):=Ð p;rw[T]at f;have s:(WL.hI 51 ws&&match WL.Fc ws with|some n=>decide (n<=80000)|none=>O)=U:=p;rw[ł]at s;obtain⟨N,w⟩:=s;cases o:WL.Fc ws with|none=>rw[o]at w;cases w|some m=>
     rw[o]at w;have w:m<=80000:=by simpa using w
     obtain⟨P,Â,Á⟩:=ZA o N;have S:=RW.ſ 51 (.l ws) v N<|A.keep E.rb.sub;simp only[RW]at A;obtain⟨a,vs,rfl,_,_⟩:=A;have r:(PyData.shown<|.list<|iW ws).length<=80000:=by have h1:=listText_len_le<|PyData.shownAll<|iW ws;have Ä:(PyData.shownAll<|iW ws).length=(iW ws).length:=lL<|iW ws;simp only[PyData.shown];omega
     refine⟨51,.list<|iW ws,a,M,by rw[hK];exact S,by simpa only[PyData.showable]using P,by simpa only[PyData.hasDict]using Â,by omega,r,?_⟩;have d:(b++PyData.shown (.list<|iW ws)).length<=100000*(n+1):=by rw[iy];omega
     refine⟨_,M,xP d e,z Z c J Å Q _ (n+1) E e d ?_⟩;exact Rq.mono C.f (Rq.bind<|show Rq B Z F ((t Z).bind λG=>.ok (.l ws::G)) _ from f) λws k H' g K l R2 I=>(show∀H' g(y:Str),_ from k) H' g K l R2<|C.trans I
   .have f:Rq B Z F (if WL.Bf ws=U then Res.ok (WL.W.l ws)else .b) _:=f;rw[Õ p]at f;exact False.elim f|_=>exact False.elim f
def mM{x C nm h i es a K b d pos}(Q:X.K=B.K)(G:XW X B)(N:X.calm=U)(u:Gl X x)(w:X.mg x=L (.ref C))(q:ko X.K C Y)(I:ExcAt X.K nm C)(n:WL.fieldsOf nm=[])(E:PJ X B (h::i::es) a)(T:es.length<=40:=by decide)(z:è x:=by decide)(m:evalEach es X.env=es.map λe=>eval e X.env:=by rfl)(hs:starEach [Expr.JoinedStr (h::i::es) b] X.env=(O,eval (.JoinedStr (h::i::es) b) X.env)::starEach [] X.env:=by rfl)(c:BT X d []:=by rfl):PS X (.Raise (L<|.Call (.Name x K) [.JoinedStr (h::i::es) b] [] d) Y pos) (â B<|WL.gJ nm a):=by obtain⟨P,J,Å⟩:=jy E;refine PS.imp (xV N u w q (aG (nk J m) bS hs) z hs c) λD f H j=>?_;obtain⟨l,F,R,q⟩:=j;have q:=Oq.ø q;refine Å l f F H _ Str.empty 0 R (by simp;omega) (í _) (Rq.mono (au.refl _) q λws A Â S y Ã o v=>?_);refine⟨show 1<=sizeLine by decide,λg s e r p t=>?_⟩;have k:=ar (o.rb.sub.free p)<|.t [.str y];exact G g f _ s l _ (.e nm []) (o.new p _) (B.mono _ l F _ (v.f.trans k) A) e C _ Y _ t ⟨I,[],by rw[n];rfl,by simp[Ê],.inl ⟨M,M⟩,⟨0,M⟩,.inr ⟨OA n,r,y,M,ai,Ã⟩⟩
end
section
variable{X:Cx}{B:Bx}{K:W.Frag}
def U3:∀xs c,WL.Ah xs≠.x c:=λxs c h=>by
 unfold WL.Ah at h;split at h;.split at h<;>cases h
 .cases h
 .cases h
set_option tactic.hygienic true in
def NT:bG X (.type "str") (Η K WL.Ah):=by intro d s h H g k Q I r⟨F,ws,j,b,q⟩;cases e:WL.Ah ws with|b|x c=>rw[e]at q;exact q.elim|ok w=>
  rw[e]at q;unfold WL.Ah at e;split at e
  .split at e;.rename_i i f;cases e;obtain⟨v,rfl,a⟩:=cp b;simp only[RW]at a;subst a;obtain⟨u,rfl,⟨t,rfl⟩⟩:=vals1 r;exact PySem.P.str_of_int f ⟨.str<|toString i,H,I.tok _,⟨_,M⟩,eq1 q<|by simp[RW]⟩
   .cases e
  .rename_i x;cases e;obtain⟨v,rfl,a⟩:=cp b;simp only[RW]at a;subst a;obtain⟨u,rfl,⟨t,rfl⟩⟩:=vals1 r;exact PySem.P.str_of_str ⟨.str x,H,I,⟨_,M⟩,eq1 q<|by simp[RW]⟩
  .cases e
def MU(t:TE):TT:=λb H Q=>t b H λx a=>∃y:Str,x=.str y/\y.length<=sizeLine/\Q (!y.length==0) a
def ZV{e:Expr}{t:TE}(h:PE X e t)(g:∀a,isTrue e X.env a=(do let v <-a;standAt e.pos;holding [v] (truthy v)):=by intro _;rfl):PT X e (MU t):=by
 intro b s d H Q I hw;refine isTrue_plain (ß (h b s d H _ I hw) λv m c=>?_)<|g _;obtain⟨x,l,i,k,f⟩:=c;obtain⟨y,rfl,n,q⟩:=f;obtain⟨t,rfl⟩:=k;have e:((y.length:Int)!=0)=!y.length==0:=by rw[bne,ϯ];simp
 have j:¬(y.length:Int)≥ 2^63:=by
  have:(sizeLine:Nat)<2^63:=by decide
  omega
 exact PySem.P.truthy_str j (by rw[e];exact⟨l,i.tok _,q⟩)
def CM{e:Expr}{t:EF}(h:PE X e (lo B t))(l:∀a,isTrue e X.env a=(do let v <-a;standAt e.pos;holding [v] (truthy v)):=by intro _;rfl):PT X e (ď B<|WL.tS t):=PT.imp (ZV h l) λj H Q c=>by
 obtain⟨d,F,R,q⟩:=c;have q:=Rq.bind q;refine⟨d,F,R,Rq.mono (au.refl _) q λx b v1 n m k i g=>?_⟩;cases x with|str y=>
   simp only[RW]at g;by_cases f:y.length<=WL.lim;.have b:Rq B d F (if y.length<=WL.lim then Res.ok !y.length==0 else .b) _:=b;rw[Ð f]at b;exact⟨y,g,ñ f eP,b n m k i⟩
   .have b:Rq B d F (if y.length<=WL.lim then Res.ok !y.length==0 else .b) _:=b;rw[Õ f]at b;exact False.elim b|_=>exact False.elim b
end
end WS
namespace WS
open L2
section
variable{B:Bx}{K:W.Frag}
noncomputable abbrev zD(od:Obj)(Ç:List (Key×V)):HO:=.î od<|.dK Ç
def ZN(e:F a=L (.dK Ç)){b l}(h:Rd F b (.dK l)):Rd (upd F a<|zD od Ç) b (.dK l):=by
 by_cases c:b=a;.subst c;rcases h with h|⟨o,h⟩<;>rw[e]at h<;>cases h;exact .inr ⟨od,ai⟩
 .unfold Rd;rw[ag c];exact h
def AO(e:F a=L (zD od Ç)){b l}(h:Rd F b (.dK l)):Rd (upd F a<|.dK Ç) b (.dK l):=by
 by_cases c:b=a;.subst c;rcases h with h|⟨o,h⟩<;>rw[e]at h<;>cases h;exact .inl ai
 .unfold Rd;rw[ag c];exact h
def KC{o o'}(e:F a=L o)(c:∀xs,o≠.t xs)(d:∀ob xs,o≠.î ob (.t xs)){b xs}(h:ü K F b xs):ü K (upd F a o') b xs:=by
 rcases h with(h|⟨ob,h⟩)|h;.exact .inl (.inl<|by rw[ag λz=>by grind];exact h)
 .exact .inl (.inr ⟨ob,by rw[ag λz=>by grind];exact h⟩)
 .exact .inr h
def JC{o o'}(e:F a=L o)(c:∀xs,o≠.l xs)(d:∀ob xs,o≠.î ob (.l xs)){b xs}(h:ÿ K F b xs):ÿ K (upd F a o') b xs:=by
 rcases h with(h|⟨ob,h⟩)|h;.exact .inl (.inl<|by rw[ag λz=>by grind];exact h)
 .exact .inl (.inr ⟨ob,by rw[ag λz=>by grind];exact h⟩)
 .exact .inr h
def Ê.fz(e:F a=L (.dK Ç)){ws vs}(h:Ê K F ws vs):Ê K (upd F a<|zD od Ç) ws vs:=Ê.via (λ_ _ q=>KC e (λ_ z=>nomatch z) (λ_ _ z=>nomatch z) q) (λ_ _ q=>JC e (λ_ z=>nomatch z) (λ_ _ z=>nomatch z) q) (λ_ _ q=>ZN e q) (λb c q=>by rw[ag λz=>by grind];exact q) (λb c q=>by rw[ag λz=>by grind];exact q) (λb _ _ _ _ q=>by rw[ag λz=>by grind];exact q) _ _ h
def Ê.th(e:F a=L (zD od Ç)){ws vs}(h:Ê K F ws vs):Ê K (upd F a<|.dK Ç) ws vs:=Ê.via (λ_ _ q=>KC e (λ_ z=>nomatch z) (λ_ _ z=>nomatch z) q) (λ_ _ q=>JC e (λ_ z=>nomatch z) (λ_ _ z=>nomatch z) q) (λ_ _ q=>AO e q) (λb c q=>by rw[ag λz=>by grind];exact q) (λb c q=>by rw[ag λz=>by grind];exact q) (λb _ _ _ _ q=>by rw[ag λz=>by grind];exact q) _ _ h
def RW.one{w v}(h:Ê K F [w] [v]):RW K F w v:=by obtain⟨_,_,e,q,_⟩:=h;cases e;exact q
theorem RW.fz(e:F a=L (.dK Ç)){w v}(h:RW K F w v):RW K (upd F a<|zD od Ç) w v:=RW.one<|Ê.fz e<|Ê.one h
theorem RW.th(e:F a=L (zD od Ç)){w v}(h:RW K F w v):RW K (upd F a<|.dK Ç) w v:=RW.one<|Ê.th e<|Ê.one h
theorem XR.th(e:F a=L (zD od Ç)){c C dx}(h:XR K F c C dx):XR K (upd F a<|.dK Ç) c C dx:=by cases c with|e nm fs=>obtain⟨j,g,r,k,l,p⟩:=h;exact⟨j,_,r,k.th e,l.imp id λf=>by obtain⟨d,m,i⟩:=f;exact⟨d,m,by rw[ag λz=>by grind];exact i⟩,p.via λb o n q=>by rw[ag λz=>by rw[z,e]at q;cases q;exact n];exact q⟩|_=>exact h.elim
def IH{F d o o'}(s:au (upd F a o) d):au (upd F a o') (upd d a o'):=λb u e=>by
 by_cases c:b=a;.subst c;rw[ai]at e⊢;exact e
 .rw[ag c]at e⊢;exact s b u (by rw[ag c];exact e)
def xx{F o}(e:F a=L o):upd F a o=F:=by
 funext b;by_cases c:b=a;.subst c;rw[ai,e]
 .rw[ag c]
def Bx.fz(B:Bx)(a:Addr)(od:Obj)(Ç:List (Key×V)):Bx:=⟨B.K,upd B.H0 a<|zD od Ç,upd B.F0 a<|zD od Ç,λc d F=>B.xp c d<|upd F a<|.dK Ç,λc d F g s h=>B.mono c d _ _ (λb u e=>by
 by_cases f:b=a;.subst f;rw[ai]at e⊢;exact e
 .rw[ag f]at e⊢;exact s b u e) h⟩
theorem RS.fz(R:RS B Z Ö F H)(e:F a=L (.dK Ç)):RS (B.fz a od Ç) Z Ö (upd F a<|zD od Ç) (upd H a<|zD od Ç):=by
 refine⟨⟨λb u q=>?_,λb u q=>?_,λb u q=>?_,λb u q=>?_⟩,R.len,λi w q=>?_,λi ws q=>?_,R.ap,λi m o q=>?_,R.dd.ad,λi q=>?_⟩
 .by_cases c:b=a;.subst c;rw[ai]at q⊢;exact q
  .rw[ag c]at q⊢;exact R.rb.sub b u q
 .by_cases c:b=a;.subst c;exact(show upd B.H0 b (zD od Ç) b=L u from q)▸by rw[ai,ai]
  .have q:upd B.H0 a (zD od Ç) b=L u:=q;rw[ag c]at q⊢;exact R.rb.base b u q
 .by_cases c:b=a;.subst c;exact(show upd B.F0 b (zD od Ç) b=L u from q)▸by rw[ai,ai]
  .have q:upd B.F0 a (zD od Ç) b=L u:=q;rw[ag c]at q⊢;exact R.rb.ģ b u q
 .by_cases c:b=a;.subst c;rw[ai]at q;exact .inl (by show upd B.F0 b (zD od Ç) b=_;rw[ai];exact q)
  .rw[ag c]at q;rcases R.rb.fr b u q with z|z;.exact .inl (by show upd B.F0 a (zD od Ç) b=_;rw[ag c];exact z)
   .exact .inr ⟨by show upd B.H0 a (zD od Ç) b=_;rw[ag c];exact z.1,z.2⟩
 .obtain⟨v,f,d⟩:=R.va i w q;exact⟨v,f,d.fz e⟩
 .refine mv (R.ow i ws q) λb p f d g h j=>?_;have c:b≠a:=λz=>by rw[z,e]at d;cases d
  exact Ϩ b p f (by rw[ag c];exact d) (by show upd B.H0 a (zD od Ç) b=_;rw[ag c];exact g) (by rw[ag c];exact h)<|j.fz e
 .refine Zc (R.dd.od i m o q) λb l f d g h j k=>?_;have c:b≠a:=λz=>by rw[z,e]at d;cases d
  exact Rg b l f (by rw[ag c];exact d) (by show upd B.H0 a (zD od Ç) b=_;rw[ag c];exact g) (by rw[ag c];exact h) (j.fz e)<|k.fz e
 .refine vq (R.dd.ob i q) λb C n f d=>?_;exact Vb b C n f (by rw[ag λz=>by rw[z,e]at d;cases d];exact d)
def Eh(B:Bx)(a:Addr)(Ç:List (Key×V)):Prop:=(B.F0 a=L (.dK Ç)\/B.H0 a=Y/\B.F0 a=Y)/\(B.H0 a=Y\/B.H0 a=L (.dK Ç))
def RB.We(R:RB B F H)(e:F a=L (.dK Ç)):Eh B a Ç:=by
 constructor
 .rcases R.fr a _ e with z|z;.exact .inl z
  .cases q:B.F0 a with|none=>exact .inr ⟨z.1,M⟩|some u=>have:=R.ģ a u q;rw[e]at this;cases this;exact .inl rfl
 .cases q:B.H0 a with|none=>exact .inl rfl|some u=>have:=R.base a u q;rw[R.sub a _ e]at this;cases this;exact .inr rfl
def RB.th(R:RB (B.fz a od Ç) F H)(w:Eh B a Ç):F a=L (zD od Ç)/\H a=L (zD od Ç)/\RB B (upd F a<|.dK Ç) (upd H a<|.dK Ç):=by
 have e:=R.ģ a _ (by show upd B.F0 a (zD od Ç) a=_;rw[ai]);refine⟨e,R.sub a _ e,λb u q=>?_,λb u q=>?_,λb u q=>?_,λb u q=>?_⟩
 .by_cases c:b=a;.subst c;rw[ai]at q⊢;exact q
  .rw[ag c]at q⊢;exact R.sub b u q
 .by_cases c:b=a
  .subst c;rcases w.2 with z|z<;>rw[z]at q;.cases q
   .rw[ai];exact q
  .rw[ag c];exact R.base b u (by show upd B.H0 a (zD od Ç) b=_;rw[ag c];exact q)
 .by_cases c:b=a
  .subst c;rcases w.1 with z|⟨_,z⟩<;>rw[z]at q;.rw[ai];exact q
   .cases q
  .rw[ag c];exact R.ģ b u (by show upd B.F0 a _ b=_;rw[ag c];exact q)
 .by_cases c:b=a
  .subst c;rw[ai]at q;cases q;rcases w.1 with z|⟨z,_⟩;.exact .inl z
   .exact .inr ⟨z,trivial⟩
  .rw[ag c]at q;rcases R.fr b u q with z|z;.exact .inl (by have:upd B.F0 a (zD od Ç) b=L u:=z;rwa[ag c]at this)
   .exact .inr ⟨by have:upd B.H0 a (zD od Ç) b=Y:=z.1;rwa[ag c]at this,z.2⟩
theorem RS.th(R:RS (B.fz a od Ç) Z Ö F H)(w:Eh B a Ç):RS B Z Ö (upd F a<|.dK Ç) (upd H a<|.dK Ç):=by
 refine Yc (R.rb.th w) λe s k=>?_;refine⟨k,R.len,λi w q=>?_,λi ws q=>?_,R.ap,λi n p q=>?_,R.dd.ad,λi q=>?_⟩;.obtain⟨v,d,c⟩:=R.va i w q;exact⟨v,d,c.th e⟩
 .refine mv (R.ow i ws q) λb r d c g h j=>?_;have f:b≠a:=λz=>by grind
  exact Ϩ b r d (by rw[ag f];exact c) (by have:upd B.H0 a (zD od Ç) b=Y:=g;rwa[ag f]at this) (by rw[ag f];exact h)<|j.th e
 .refine Zc (R.dd.od i n p q) λb l d c g h j m=>?_;have f:b≠a:=λz=>by grind
  exact Rg b l d (by rw[ag f];exact c) (by have:upd B.H0 a (zD od Ç) b=Y:=g;rwa[ag f]at this) (by rw[ag f];exact h) (j.th e)<|m.th e
 .refine vq (R.dd.ob i q) λb C o d c=>?_;exact⟨b,C,o,d,by rw[ag λz=>by rw[z,e]at c;cases c];exact c⟩
end
section
variable{X:Cx}{B:Bx}
def OU{Æ c H s e C dx T f}(t:ù X Æ c H s e C dx f T)(q:H a=L (zD od Ç))(g:∀o u,X.Ŗ a≠L (.î o u)):ù X Æ c (upd H a<|.dK Ç) s e C dx f T:=by
 have d:∀{b},Ő X _ H b->Ő X Æ (upd H a<|.dK Ç) b:=λ{b}h=>by obtain⟨j,k⟩:=h;exact⟨by rw[ag λz=>by grind];exact j,k⟩
 exact⟨t.inv.Jv q g,t.ū,d t.fe,λu i=>d<|t.fT u i⟩
theorem XW.fz(j:XW X B)(w:Eh B a Ç)(f:∀o u,X.Ŗ a≠L (.î o u)):XW X (B.fz a od Ç):=λb i H s h F c R d e C n T m t k=>by obtain⟨l,g,_⟩:=R.rb.th w;exact j _ _ _ s h _ c (R.th w) d e C _ T _ (OU t g f)<|k.th l
def Ti(D:Ends)(a:Addr)(od:Obj)(Ç:List (Key×V)):Ends:=⟨λb H=>H a=L (zD od Ç)/\D.nx b (upd H a<|.dK Ç),λv H=>H a=L (zD od Ç)/\D.rt v (upd H a<|.dK Ç),λb H=>H a=L (zD od Ç)/\D.bk b (upd H a<|.dK Ç),λb H=>H a=L (zD od Ç)/\D.ct b (upd H a<|.dK Ç)⟩
def AB{Æ D}(c:∀o u,X.Ŗ a≠L (.î o u))(f)(s)(h:SP X Æ (Ti D a od Ç) f s):SP X Æ D f s:=by cases f with|next|brk|cont=>obtain⟨b,H,I,e,q⟩:=h;exact⟨b,_,I.Jv e c,q⟩|ret u=>exact ϩ h λv b H I r e q=>Xc v b _ (I.Jv e c) r q
theorem Oq.fz{D F}(e:F a=L (.dK Ç))(w:Eh B a Ç){o}(h:Oq B D F o):Oq (B.fz a od Ç) (Ti D a od Ç) (upd F a<|zD od Ç) o:=by
 have bk:∀{b},au (upd F a<|zD od Ç) b->au F _:=λs=>by have:=IH (o':=.dK Ç) s;rwa[xx e]at this
 cases o with|n Z|bk Z|ct Z=>exact λd H G R z=>⟨(R.rb.th w).2.1,h _ _ _ (R.th w)<|bk z⟩|r u=>exact λv H G R z r=>⟨(R.th w).2.1,h v _ _ (R.th w).2.2 (bk z)<|r.th (R.th w).1⟩|x c Z=>show B.xp c Z _;rw[CH,xx e];exact h|b=>exact h
def sJ{K ks F}(h:F a=L (zD od Ç))(r:Ê K F ks (Ç.map λp=>kV p.1)):Walk K (Zj a od Ç) ks F:=by have k:=r.length;rw[Į]at k;refine⟨λi x e g m c d=>fy (r.get e) λv b l=>?_,λg m c d=>⟨d _ _<|c _ _ h,by omega⟩⟩;rw[Ų,μ]at b;obtain⟨p,b,rfl⟩:=b;refine⟨⟨d _ _<|c _ _ h,(Ĵ.mp b).1⟩,λu n⟨j,o,f,y⟩=>?_⟩;subst j y;rw[b]at f;cases f;exact⟨g,Ext.refl _ _,l.keep c⟩
def GY(hK:X.K=B.K)(hp:PassesOwn (model X.prog X.w) X.A X.env X.xe)(hc:X.calm=U)(hx:XW X B)(hl:PE X l (ee i))(hg:∀B',PG X tg<|ŝ O B' g)(hb:∀B',B'.K=X.K->XW X B'->ã X body (â B' b))(hs:∀x,foldedSetIterable l X.env x=pure x:=by intro _;rfl):PS X (.For tg l body [] pos) (â B<|WL.kq (WL.Dg i) g b):=by
 intro e s n H D I⟨Z,F,R,q⟩;have y:=Oq.ø q;have C:∀(B':Bx)(Â:Ends)(e:Pn)(s:Shared)(H' K:Hp)(o us:List VW)(a:Addr)(od:Obj)(d:List (Key×V)),B'.K=X.K->XW X B'->Inv X e n H' s->RS B' Z n K H'->n[i]?=L (L<|.ref a)->K a=L (zD od d)->Ê B'.K K o (d.map λp=>kV p.1)->Oq B' Â K (WL.forL g b o Z)->X.wp (exec (.For tg l body [] pos) X.env) (SP X e Â) X.xe s:=by
  intro B' Â e s H' K o us a od d a0 a6 I' R' Ã Ä rk q';refine xW (wi:=λn H R=>∃J,R J H/\J=Zj a od d/\n[i]?=L (L<|.ref a)/\H a=L (zD od d)) hp hc (PI.imp (BG hl) λn H R a5=>by obtain⟨J,r,ej,Ã,Ä⟩:=a5;exact⟨.ref a,Ã,a,od,d,M,Ä,by rw[<-ej];exact r⟩) (hg B') (hb B' a0 a6) hs e s n H' Â I' ?_;refine⟨_,?_,M,Ã,R'.rb.sub _ _ Ä⟩;have wk:=sJ Ä rk;refine⟨λj m u T=>m=o.length-j/\j<=o.length/\∃A G,RS B' A u G T/\au K G/\Oq B' Â G (WL.forL g b (o.drop j) A),⟨o.length,M,Ś _,Z,K,R',au.refl _,by rw[Yd];exact q'⟩,?_⟩;rintro j m u T⟨rfl,hj,A,G,R1,s1,k⟩;by_cases Å:j<o.length;.have hd:=Pc Å;rw[hd]at k;obtain⟨go,yl⟩:=wk.go j o[j] (ν Å) G T s1 R1.rb.sub;refine .inr ⟨go,_,λt H2 h2=>⟨o.length-(j+1),by omega,M,Å,h2⟩,λv H2 hy=>?_⟩;obtain⟨F2,E2,r2⟩:=yl v H2 hy;have k:=Oq.ø k;refine⟨A,F2,o[j],E2.rs _ _ _ R1,r2,Rq.mono E2.same k λQ k a7 H3 F3 R3 g3=>?_⟩;refine⟨Q,F3,R3,?_⟩;have S:=E2.same.trans g3.f;cases z:b Q with|n t|ct t=>rw[z]at k;exact λE H4 Á P N=>⟨t,Á,P,(s1.trans S).trans N,Oq.mono (S.trans N) k⟩|bk t=>rw[z]at k;exact λE H4 Á P N=>k E H4 Á P<|S.trans N|r w=>rw[z]at k;exact λv4 H4 Á P N=>k v4 H4 Á P<|S.trans N|x c t=>rw[z]at k;exact B'.mono c t G F3 S k|b=>rw[z]at k;exact k
  .have ei:j=o.length:=by omega
   subst ei;rw[Zh]at k;exact .inl ⟨wk.stop G T s1 R1.rb.sub,k u T G R1<|au.refl _⟩
 unfold WL.Dg at y;cases z:Z[i]? with|none=>rw[z]at y;exact(y).elim|some sl=>rw[z]at y;cases sl with
 |v w=>cases w with|ġ o us=>
    have y:=y;obtain⟨v,Ã,r2⟩:=R.va i _ z;simp only[RW]at r2;obtain⟨a,d,rfl,rd,rk,ru⟩:=r2;rcases rd with rd|⟨od,rd⟩;.obtain⟨od,I',hn⟩:=I.AA<|R.rb.sub _ _ rd;have w:=R.rb.We rd;exact ß (C (B.fz a od d) (Ti D a od d) e s _ _ o us a od d hK.symm (hx.fz w hn) I' (R.fz rd) Ã ai (rk.fz rd)<|y.fz rd w) λf s h=>AB hn f s h
    .exact C B D e s H F o us a od d hK.symm hx I R Ã rd rk y|_=>exact(y).elim
 |_=>exact(y).elim
end
end WS
namespace PySem
def Heap.IsStrIter.at{h h':Heap}{a ty x t i}(y:h.IsStrIter a ty x t i)(e:∀o,h.get? a=L o->h'.get? a=L o):h'.IsStrIter a ty x t i:=let⟨o,b,r⟩:=y;⟨o,e _ b,r⟩
end PySem
namespace L2
noncomputable def EI(x:Str):It:=⟨λi _=>i<x.cps.size,λi H v a=>a=H/\∃c,x.cps[i]?=L c/\v=.str ⟨#[c]⟩,λi _=>x.cps.size<=i⟩
def zf{P:Program}{w:World}{K:W.Frag}{tg:Expr}(it:Addr)(x:Str)(t:Tok):Turn P w K tg (EI x) [it] it λi h=>h.IsStrIter it "str_ascii_iterator" x t i where
 mem:=by simp
 obj:=λi h st b hb=>by
  have e:b=it:=by simpa using hb
  subst e;obtain⟨o,e,c,d⟩:=st;exact⟨o,e,λv z=>by rw[d]at z;cases z⟩
 keep:=λi h h' st k=>st.at λo e=>k it (by simp) o e;item:=by intro X hP hw hK i Æ s Z H E hc I hf st hg;subst hP hw hK;have hg:i<x.cps.size:=hg;obtain⟨f0,f1,f2,f3,f4,f5⟩:=hf it (by simp);refine wpAny_pyNext_ascii_item st (c:=x.cps[i]) (Jx hg) λh' Ŭ sb=>?_;have I1:Inv X Æ Z H {s with heap:=h',toks:=s.toks+1}:=I.turned (t':=s.toks+1) (λb o hb e=>(sb.2 b hb).trans e) f0 f1 f3 f4 f5;obtain⟨o,e,c,d⟩:=id Ŭ;exact⟨_,M,z5 (s:={s with heap:=h',toks:=s.toks+1}) e c d (by decide) ⟨.str ⟨#[x.cps[i]]⟩,H,I1,⟨_,M⟩,⟨M,_,Jx hg,M⟩,Ŭ,λb hb=>(hf b hb).1⟩⟩
 done:=by intro X hP hw hK i Æ s Z H E hc I hf st hg;subst hP hw hK;have hg:x.cps.size<=i:=hg;obtain⟨f0,f1,f2,f3,f4,f5⟩:=hf it (by simp);exact wpAny_pyNext_ascii_end (I.ok.hd hc) st (Array.getElem?_eq_none hg) λh' eb=>⟨M,I.turned (t':=s.toks) (λb o hb e=>eb b o hb e) f0 f1 f3 f4 f5⟩
 self:=λA i s Q E st h=>by refine wpAny_pyIter_slot st.typeIs Tx<|Lc Tx st.typeIs F.entry_str_ascii_iterator_iter ?_<|F.args_str_ascii_iterator_iter_1 _;show wpAny _ _ (ret<|.ref it) _ _ s;exact ì ⟨_,M,"str_ascii_iterator",_,st.typeIs,F.slot_str_ascii_iterator_next.lookup,h⟩
def DL(b:TE):TI:=λa H R=>b a H λv c=>∃x:Str,v=.str x/\x.cps.all (.<128)=U/\R (EI x) c
def D2{X i l g}(m:PE X l g):PI X i l (DL g):=by
 intro a s j H R I h;refine ß (m a s j H _ I h) λv c d=>?_;obtain⟨z,p,f,n,x,e,k,q⟩:=d;subst e;obtain⟨t,rfl⟩:=n;refine wpAny_pyIter_ascii k (Ej c.heap.objs.size [c.heap.objs.size] _ _ p M (f.kept λb o e=>Ă _ e) (zf _ x t) ⟨_,ĺ _ M,M,M⟩ (λb r=>?_) q);have e:b=c.heap.objs.size:=by grind
 subst e;exact f.Cg (í _)<|f.Û.fresh<|í _
def pA{X}:bG X (.builtin "len") λxs H Q=>∃a Ç,xs=[.ref a]/\Rd H a (.dK Ç)/\Q (.int Ç.length) H:=by
 intro b s i H xs f Q I g⟨a,_,e,rd,q⟩;subst e;obtain⟨u,rfl,d⟩:∃u,f=[u]/\RelV (.ref a) u:=by cases g with|cons h t=>cases t;exact⟨_,M,h⟩
 cases d;exact CN I rd λt j c=>⟨.int _,H,c,⟨t,M⟩,q⟩
end L2
namespace WS
open L2
section
variable{X:Cx}{B:Bx}{K:W.Frag}
def WT{r e ta}(h:PE X e (lo B ta)):PI X r e (ŭ B<|WL.Wy ta):=PI.imp (D2 h) λn H R b=>by
 obtain⟨g,F,o,q⟩:=b;have q:=Rq.bind q;refine⟨g,F,o,Rq.mono (au.refl _) q λx a v C w u z k=>?_⟩
 cases x with|str x=>
  simp only[RW]at k;have a:Rq B g F (if x.cps.all (.<128)=U then Res.ok (WL.signs x)else .b) _:=a;by_cases f:x.cps.all (.<128)=U
  .rw[Ð f]at a;refine⟨x,k,f,(show∀J I E,_ from a) _ C w u z ⟨λi y e j p m t=>?_,λj p m t=>by show x.cps.size<=(WL.signs x).length;simp[WL.signs]⟩⟩;unfold WL.signs at e;rw[Ų,μ]at e;obtain⟨c,e,rfl⟩:=e;have A:i<x.cps.size:=by have:=(Ĵ.mp e).1;simpa using this
   refine⟨A,λv G d=>?_⟩;obtain⟨s,l,D,y⟩:=d;subst s y;have:c=l:=by grind
   subst this;exact⟨j,Ext.refl _ _,by simp[RW]⟩
  .rw[Õ f]at a;exact False.elim a|_=>exact False.elim a
def u4:∀xs c,WL.Yg xs≠.x c:=λxs c h=>by
 unfold WL.Yg at h;split at h;.split at h<;>cases h
 .cases h
 .exact sg _ _ h
set_option tactic.hygienic true in
def TC(m:X.K=K):bG X (.builtin "len") (Η K WL.Yg):=by
 intro b s c H k e Q I f⟨F,ws,i,r,q⟩;unfold WL.Yg at q;split at q
 .split at q;.rename_i x l;obtain⟨v,rfl,h⟩:=cp r;exact u7 _ s c H _ e Q I f ⟨x,by rw[h],ñ l eP,eq1 q<|M⟩
  .exact q.elim
 .obtain⟨v,rfl,h⟩:=cp r;refine mJ h λa g d rd j _=>?_;subst d;have:=j.length;exact pA _ s c H _ e Q I f ⟨a,g,M,i.rd rd,eq1 q<|by simp[RW,this]⟩
 .exact Xu m b s c H k e Q I f ⟨F,_,i,r,q⟩
def P0:Calm WL.Yi:=λx y c h=>by
 unfold WL.Yi at h;split at h;.cases h
 .cases h
 .exact eK _ _ _ h
set_option tactic.hygienic true in
def OO(j:X.K=K)(i:X.A.units+64<cLine):ë X (compareOp .In) (ħ K WL.Yi):=by
 intro d s e H x y v u Q I g c⟨F,wx,k,h,f,r2,q⟩;unfold WL.Yi at q;split at q;.rename_i a b;exact Z3 _ s e H x y v u Q I g c ⟨a,b,f,r2,eq1 q<|M⟩
 .exact q.elim
 .exact ϥ j i _ s e H x y v u Q I g c (sA F _ _ h f r2 q)
noncomputable def kW:Key->VW|.inl Y=>.n|.inl (L i)=>.int i|.inr z=>.str z
def qb{F x a}(h:RW K F x (kV a)):x=kW a:=by rcases a with(_|i)|z<;>cases x<;>simp only[kV,RW,reduceCtorEq,false_and,exists_false]at h<;>cases h<;>rfl
def rM{F x y}:∀{a b},RW K F x (kV a)->RW K F y (kV b)->WL.zV x y=decide (a=b):=by intro a b c d;rw[qb c,qb d,ϯ];rcases a with(_|i)|z<;>rcases b with(_|j)|e<;>simp[WL.zV,kW]
set_option tactic.hygienic true in
def yr{F}{k:VW}{v}(hk:WL.ϳ k=U)(r:RW K F k v):∃a,v=kV a:=by
 cases k<;>simp [WL.ϳ]at hk;.exact⟨.inl Y,r⟩
 .rename_i i;exact⟨.inl<|some i,r⟩
 .rename_i x;exact⟨.inr x,r⟩
theorem wU{F k a}(b:RW K F k (kV a)):∀{Ç:List (Key×V)}{ks},Ê K F ks (Ç.map λp=>kV p.1)->WL.Bg k ks=Ç.any λd=>decide (d.1=a)
|[],ks,r=>by cases ks with|nil=>rfl|cons x ks=>simp[Ê]at r
|p::Ç,ks,r=>by cases ks with|nil=>simp[Ê]at r|cons x ks=>obtain⟨v1,g,e,f,c⟩:=r;cases e;show(WL.zV x k||WL.Bg k _)=_;rw[rM f b,wU b c];rfl
theorem CF{F k w a v}(d:RW K F k (kV a))(f:RW K F w v):∀{Ç:List (Key×V)}{ks us},Ê K F ks (Ç.map λp=>kV p.1)->Ê K F us (Ç.map λp=>p.2)->Ê K F ks ((Ç.map λb=>if b.1=a then(b.1,v)else b).map λp=>kV p.1)/\Ê K F (WL.Io k w ks us) ((Ç.map λb=>if b.1=a then(b.1,v)else b).map λp=>p.2)
|[],ks,us,r1,r2=>by cases ks with
 |nil=>cases us with|nil=>exact⟨r1,r2⟩|cons _ _=>simp[Ê]at r2
 |cons x ks=>simp[Ê]at r1
|p::Ç,ks,us,r1,r2=>by cases ks with|nil=>simp[Ê]at r1|cons x ks=>cases us with|nil=>simp[Ê]at r2|cons y us=>
    obtain⟨v1,q,o,c,j⟩:=r1;obtain⟨v2,r,m,l,n⟩:=r2;cases o;cases m;obtain⟨g,i⟩:=CF d f j n;have e:=rM c d;unfold WL.Io;rw[e];by_cases h:p.1=a;.rw[Ϡ h,Ð M];simp only[ņ,Ð h];exact⟨.cons c g,.cons f i⟩
    .rw[Ũ h,Õ ř];simp only[ņ,Õ h];exact⟨.cons c g,.cons l i⟩
def QH{F k w a v}(b:RW K F k (kV a))(d:RW K F w v){Ç ks us}(c:Ê K F ks (Ç.map λp=>kV p.1))(r2:Ê K F us (Ç.map λp=>p.2)):Ê K F (WL.putK ks k) ((putK Ç a v).map λp=>kV p.1)/\Ê K F (WL.Jn ks us k w) ((putK Ç a v).map λp=>p.2):=by
 unfold WL.putK WL.Jn L2.putK;rw[wU b c];by_cases h:(Ç.any λe=>decide (e.1=a))=U;.rw[Ð h,Ð h,Ð h];exact CF b d c r2
 .rw[Õ h,Õ h,Õ h,Li,Li];exact⟨c.app<|.one b,r2.app<|.one d⟩
def HY{a}(hN:X.N.Nodup)(hi:X.N[i]?=L x)(h:Loc X.env.scope x)(hs:swapsWith (.Dict [] [] a) (L<|.Name x pos') pos.line X.env=pure O:=by rfl)(g:FL X x:=by first|exact .inl rfl|exact .inr rfl|assumption):PS X (.Assign [.Name x pos'] (.Dict [] [] a) pos) (â B<|WL.LB i):=PS.imp (pT hN hi h xZ hs g) λD k H d=>by refine dB d λs F R q=>?_;intro p c;refine q _ _ F ((R.Xi c _).Jz (R.rb.sub.free c) (R.rb.base.free c) ai (rfl) (rfl) λj n o _ r m=>mv (R.dd.od j n o r) λb l f _ _ e _=>?_)<|au.refl _;rw[m]at f;cases f;rw[c]at e;cases e
def JY{o ix b tv tk}(E:X.A.units+1<cLine)(Å:PE X o (ee i))(hi:PE X ix (lo B tk))(J:PE X b (lo B tv))(hs:swapsWith b (L<|.Subscript o ix pos') pos.line X.env=pure O:=by rfl):PS X (.Assign [.Subscript o ix pos'] b pos) (â B<|WL.jX i tv tk):=PS.imp (PH E Å hi J hs) λD j H h=>by refine dB h λc F R q=>?_;have q:Oq B D F (match c[i]? with|some (.od ks us)=>WL.ø c (tv c) _|_=>.b):=q;cases e:c[i]? with|none=>rw[e]at q;exact q.elim|some sl=>
 rw[e]at q;cases sl with|od ks us=>
   have q:=Oq.ø q;refine⟨c,F,R,Rq.mono (au.refl _) q λw l v Á Ã t r Q=>?_⟩;refine dB (t.dd.od i ks us e) λa S m _=>?_;refine⟨.ref a,m,?_⟩;have l:=Oq.ø l;refine⟨c,Ã,t,Rq.mono r.f l λk d y T G R2 p r2=>?_⟩;refine Zc (R2.dd.od i ks us e) λÂ f u N A s n I=>?_;rw[m]at u;cases u;have d:Oq B D F (if WL.ϳ k=U/\ks.length<WL.lim then .n _ else .b):=d;by_cases g:WL.ϳ k=U/\ks.length<WL.lim
   .rw[Ð g]at d;obtain⟨z,rfl⟩:=yr g.1 r2;have P:f.length<sizeLine:=by have:=n.length;rw[Į]at this;rw[<-this];exact Ē g.2 eP
    obtain⟨C,x⟩:=QH r2 (Q.keep p.f) n I;exact⟨a,_,M,Tg.k s P,d j _ G (R2.VC e m N A s C x)<|r.f.trans p.f⟩
   .rw[Õ g]at d;exact d.elim|_=>exact q.elim
end
end WS
namespace L2
section
variable{X:Cx}
def MC(X:Cx)(C:Addr)(sp:Sp)(ĥ:List V)(t:TA):TE:=λg H Q=>t g H λj d=>∀x c,d x=Y->d c=Y->c≠x->∃E:XK,sp (.ref x::(j++ĥ)) (upd (upd d c<|.own x) x<|.i C c []) (λv i=>v=.n/\Q (.ref x) i) E/\∀a s e f b T h,ù X a g h s e f b .none (L T)->E (.ref f) b h->X.xe (.ref e) s
def qX(Å:Mk X.K C f)(F:X.Fn (ò X.prog X.w) k f fd ps sp)(hr:Ñ (k+1) X.A)(z:Gl X x)(A:X.mg x=L (.ref C))(hb:Binds X.K fd ps ds)(B:Vals ĥ ds)(R:PA X (e::es) t)(l:è x:=by decide)(Â:SE X e es:=by rfl)(i:BT X pos es:=by rfl):PE X (.Call (.Name x p) (e::es) [] pos) (MC X C sp ĥ t):=by
 intro b o y J Q g D;refine Pf<|bV g z A ?_ l;refine Bl g.ok.mod.kin Å.kp (ß (R pos b o y J _ g D) λc s⟨K,H,I,r,h⟩=>⟨I.ć,?_⟩) Â i;obtain⟨E,n,P⟩:=h (s.heap.objs.size+1) s.heap.objs.size (I.Û.fresh<|Vh _) (I.Û.fresh<|í _)<|ğ<|Bi _;have d:=Inv.made (C:=C) I;have r2:Vals (V.ref (s.heap.objs.size+1)::(K++ĥ)) (Value.ref (s.heap.objs.size+1)::(c++ds)):=.cons rfl<|r.append B;have Á:=by have e:=r2.length;rw[F.len _ _ _ _ n]at e;exact e.symm
 refine Nb (BZ I.ć Å.makes Å.init (Μ.mp Å.fn)<|Xf (F.run _ X.stack _ _ _ (Value.ref (s.heap.objs.size+1)::(c++ds)) _ _ E (hr.make C c []) trivial (d.Ym.make C c []) (hb _ (Value.ref (s.heap.objs.size+1)::c) d.ć Á) r2 n) λr Ä a=>?_);cases r with|error e=>obtain⟨S,N,j,T,m,rfl,t,q⟩:=d.thrown a;exact P b Ä S N j T m t q|ok fl=>cases fl with|ret u=>obtain⟨v,m,G,w,ev,Ã⟩:=d.after a;subst ev;exact⟨w,⟨V.ref<|s.heap.objs.size+1,m,G,M,Ã⟩⟩|next=>exact False.elim a|brk=>exact False.elim a|cont=>exact False.elim a
end
end L2
namespace WS
open L2
section
variable{B B1:Bx}
def RB.Jo(R:RB B1 F' H')(c:B1.H0=H)(d:B1.F0=F)(b:RB B F H):RB B F' H':=by
 subst c d;refine⟨R.sub,b.base.trans R.base,b.ģ.trans R.ģ,λa o e=>?_⟩;rcases R.fr a o e with z|z;.exact b.fr a o z
 .exact .inr ⟨b.base.free z.1,z.2⟩
theorem RS.Jo(R:RS B1 Z Ö F' H')(d:B1.K=B.K)(j:B1.H0=H)(m:B1.F0=F)(f:RB B F H):RS B Z Ö F' H':=by
 refine⟨R.rb.Jo j m f,R.len,λi w e=>?_,λi ws e=>?_,R.ap,λi o p e=>?_,R.dd.ad,R.dd.ob⟩;.obtain⟨v,b,c⟩:=R.va i w e;exact⟨v,b,d▸c⟩
 .exact mv (R.ow i _ e) λa q b c g h k=>Ϩ a _ b c (f.base.free<|j▸g) h<|d▸k
 .exact Zc (R.dd.od i _ _ e) λa l b c g h k n=>Rg a l b c (f.base.free<|j▸g) h (d▸k)<|d▸n
def RS.front (R:RS B Z (Ö++r) F H)(D:Ö.length=k):RS B (Z.take k) Ö F H:=by
 subst D;have b:∀{i:Nat}{n:Sl},(Z.take Ö.length)[i]?=L n->Z[i]?=L n/\(Ö++r)[i]?=Ö[i]?:=λ{i n}e=>by grind
 have m:=R.len;refine⟨R.rb,by rw[Kl,m,ϕ];omega,λi w e=>?_,λi ws e=>?_,λi j ws t a o c d u p=>?_,λi x y e=>?_,λi j x y G A a o c d u p=>?_,λi e=>?_⟩;.obtain⟨c,d⟩:=b e;obtain⟨v,g,h⟩:=R.va i w c;exact⟨v,d▸g,h⟩
 .obtain⟨c,d⟩:=b e;obtain⟨a,z,g,h⟩:=R.ow i ws c;exact⟨a,z,d▸g,h⟩
 .obtain⟨c,f⟩:=b c;obtain⟨q,s⟩:=b d;exact R.ap i j ws t a o c q (f.trans u)<|s.trans p
 .obtain⟨c,d⟩:=b e;obtain⟨a,l,g,h⟩:=R.dd.od i x y c;exact⟨a,l,d▸g,h⟩
 .obtain⟨c,f⟩:=b c;obtain⟨q,s⟩:=b d;exact R.dd.ad i j _ _ _ _ a o c q (f.trans u)<|s.trans p
 .obtain⟨c,d⟩:=b e;obtain⟨a,C,E,g,h⟩:=R.dd.ob i c;exact⟨a,C,E,d▸g,h⟩
def RS.snoc(R:RS B Z Ö F H):RS B (Z++[.o]) (Ö++[Y]) F H:=by
 have b:∀{i:Nat}{m:Sl},(Z++[Sl.o])[i]?=L m->m≠.o->Z[i]?=L m/\(Ö++[Y])[i]?=Ö[i]?:=λ{i m}e k=>by
  by_cases y:i<Z.length;.rw[Qb y]at e;exact⟨e,Qb<|by rw[<-R.len];exact y⟩
  .rw[Qa (by omega)]at e;cases t:i-Z.length with|zero=>rw[t]at e;cases e;exact(k M).elim|succ n=>rw[t]at e;cases e
 refine⟨R.rb,by simp[R.len],λi w e=>?_,λi ws e=>?_,λi j ws r a k c d s o=>?_,λi u x e=>?_,λi j u x G D a k c d s o=>?_,λi e=>?_⟩;.obtain⟨c,d⟩:=b e λz=>nomatch z;obtain⟨v,g,h⟩:=R.va i w c;exact⟨v,d.trans g,h⟩
 .obtain⟨c,d⟩:=b e λz=>nomatch z;refine dB (R.ow i ws c) λa A g h=>?_;exact⟨a,A,d.trans g,h⟩
 .obtain⟨c,f⟩:=b c λz=>nomatch z;obtain⟨p,q⟩:=b d λz=>nomatch z;exact R.ap i j ws r a k c p (f.symm.trans s)<|q.symm.trans o
 .obtain⟨c,d⟩:=b e λz=>nomatch z;refine dB (R.dd.od i u x c) λa l g h=>?_;exact eM a l (d.trans g) h
 .obtain⟨c,f⟩:=b c λz=>nomatch z;obtain⟨p,q⟩:=b d λz=>nomatch z;exact R.dd.ad i j _ _ _ _ a k c p (f.symm.trans s)<|q.symm.trans o
 .obtain⟨c,d⟩:=b e λz=>nomatch z;refine vq (R.dd.ob i c) λa C E g h=>?_;exact⟨a,C,E,d.trans g,h⟩
structure Ex(f:Str)(x C dx d:Addr)(Ö:L2.St)(F H:Hp):Prop where
 sl:Ö[0]?=L (L<|.ref x)F:F x=Y
 H:H x=L (.i C dx [(f,.ref d)])
def υ(B:Bx)(f:Str)(x C dx:Addr)(D:Ends)(F:Hp):Out->Prop|.n Ô=>∀a d e b,a.length=3->RS B Ô (a++[L<|.ref d]) b e->Ex f x C dx d a b e->au F b->D.nx a e|.x c Ô=>B.xp c Ô F|_=>False
def By(B:Bx)(f:Str)(x C dx:Addr)(t:SF):TS:=λD a H=>∃b d F,a.length=3/\RS B b (a++[L<|.ref d]) F H/\Ex f x C dx d a F H/\υ B f x C dx D F (t b)
theorem υ.mono{f x C dx D F a o}(s:au F a)(h:υ B f x C dx D F o):υ B f x C dx D a o:=by cases o with|n Z=>exact λe d H G b R ex z=>h _ d H G b R ex<|s.trans z|x c Z=>exact B.mono c Z F _ s h|_=>exact h
end
section
variable{X:Cx}{B:Bx}
def IY(hK:X.K=B.K)(hx:XW X B)(Å:∀c Z G F,B.xp c Z F->B.xp c G F)(hu:X.A.units+1<cLine)(g:PE X self (ee 0))(h:PE X name (ee 2))(hv:∀B',B'.K=X.K->XW X B'->PE X value (lo B' tv))(hb:attributeBase self f X.env (eval self X.env)=eval self X.env)(cl:ĝ X.K C)(na:bf X.K C f)(ϝ:swapsWith value (L<|.Subscript (.Attribute self f ap) name sp) å.line X.env=pure O):PS X (.Assign [.Subscript (.Attribute self f ap) name sp] value å) (By B f x C dx<|WL.jX 3 (WL.Va tv)<|WL.dA 2):=by intro b s a H D I⟨Z,d,F,K,R,ex,q⟩;have q:υ B f x C dx D F (match(Z[3]?:Option Sl)with|some (.od ks us)=>WL.ø Z (WL.Va tv Z) _|_=>.b):=q;cases o:Z[3]? with|none=>rw[o]at q;exact(q).elim|some sl=>rw[o]at q;cases sl with
 |od ks us=>
   have q:=q;let u:Bx:=⟨B.K,H,F,B.xp,B.mono⟩;have p:XW X u:=λb a H1 s Z F1 c J xp e C dx T fl t xr=>hx b a H1 s Z F1 c (J.Jo M M M R.rb) xp e C dx T fl t xr;have J:RS u (WL.vm<|Z.take 3) a F H:=(R.front K).vm M M M;have P:(a++[L<|V.ref d])[3]?=L (L<|.ref d):=by rw[Qa (by omega),K];rfl
   refine PH hu (tR g hb) h (hv u hK.symm p) ϝ b s a H D I ?_;refine eM _ F J ?_;have q:υ B f x C dx D F (WL.ø Z (tv<|WL.vm<|Z.take 3) λv=>WL.ø Z (WL.dA 2 Z) λk=>WL.putD 3 ks us k v Z):=q;cases A:tv (WL.vm<|Z.take 3)with|b=>rw[A]at q;exact q|x c=>rw[A]at q;exact Å c _ _ F q|ok w=>rw[A]at q;intro v H2 F2 R2 l r2;have q:=q;have i:=l.h _ _ ex.H;refine⟨.ref x,ex.sl,x,C,dx,[(f,.ref d)],.ref d,M,i,cl,na,by simp[List.lookup],?_⟩;have E:=R.grow l<|R2.rb.Jo M M R.rb;cases r:Z[2]? with|none=>unfold WL.dA at q;rw[r]at q;exact(q).elim|some sl=>
     unfold WL.dA at q
     rw[r]at q;cases sl with|v k=>
      have q:υ B f x C dx D F (if WL.ϳ k=U/\ks.length<WL.lim then .n (Z.set 3<|.od (WL.putK ks k)<|WL.Jn ks us k w)else .b):=q;refine fy (E.va 2 k r) λy S Q=>?_;rw[Qb (by omega)]at S;refine⟨y,S,?_⟩;by_cases m:WL.ϳ k=U/\ks.length<WL.lim
      .rw[Ð m]at q;obtain⟨Ä,rfl⟩:=yr m.1 Q;refine Zc (E.dd.od 3 ks us o) λa' N Â k2 k3 n Ã k6=>?_;rw[P]at Â;cases Â;have j:N.length<sizeLine:=by have:=Ã.length;rw[Į]at this;rw[<-this];exact Ē m.2 eP
       obtain⟨p1,Á⟩:=QH Q r2 Ã k6;refine⟨d,_,M,Tg.k n j,q a d _ F2 K (E.VC o P k2 k3 n p1 Á) ⟨ex.sl,?_,?_⟩ l.f⟩;.exact l.nf x _ ex.H ex.F
       .rw[ag λz=>by rw[<-z,i]at n;cases n];exact i
      .rw[Õ m]at q;exact(q).elim|_=>exact(q).elim
 |_=>exact(q).elim
theorem υ.fz   (e:F a=L (.dK Ç))(w:Eh B a Ç)(na:x≠a)(h:υ B f x C dx D F o):υ (B.fz a od Ç) f x C dx (Ti D a od Ç) (upd F a<|zD od Ç) o:=by
 have bk:∀{g},au (upd F a<|zD od Ç) g->au F _:=λs=>by have:=IH (o':=.dK Ç) s;rwa[xx e]at this
 cases o with|n Z=>exact λi d H G b R ex z=>⟨(R.rb.th w).2.1,h _ d _ _ b (R.th w) ⟨ex.sl,by rw[ag na];exact ex.F,by rw[ag na];exact ex.H⟩<|bk z⟩|x c Z=>show B.xp c Z _;rw[CH,xx e];exact h|_=>exact h
set_option tactic.hygienic true in
def xM  :(∀a,WL.jX i ev ek Z≠.ct a)/\∀a,WL.jX i ev ek Z≠.bk a:=by
 unfold WL.jX;split;.cases ev Z with
 |ok v=>cases ek Z with|ok k=>rename_i b d _;show(∀a,(if WL.ϳ k=U/\b.length<WL.lim then Out.n _ else .b)≠.ct a)/\∀a,(if WL.ϳ k=U/\b.length<WL.lim then Out.n _ else .b)≠.bk a;split<;>exact⟨λ_ z=>(by cases z),λ_ z=>by grind⟩|x c=>exact⟨λ_ z=>(by cases z),λ_ z=>by cases z⟩|b=>exact⟨λ_ z=>(by cases z),λ_ z=>by cases z⟩
 |x c=>exact⟨λ_ z=>(by cases z),λ_ z=>by cases z⟩|b=>exact⟨λ_ z=>(by cases z),λ_ z=>by cases z⟩
 .exact⟨λ_ z=>(by cases z),λ_ z=>by grind⟩
def FY(hK:X.K=B.K)(hp:PassesOwn (model X.prog X.w) X.A X.env X.xe)(hc:X.calm=U)(hx:XW X B)(Ä:∀c Z b F,B.xp c Z F->B.xp c b F)(hu:X.A.units+1<cLine)(b2:PE X texts (ee 1))(P:PE X self (ee 0))(Q:PE X name (ee 2))(hg:PG X tg (L2.ax 2))(hv:∀B',B'.K=X.K->XW X B'->PE X value (lo B' tv))(hb:attributeBase self f X.env (eval self X.env)=eval self X.env)(cl:ĝ X.K C)(na:bf X.K C f)(ϝ:swapsWith value (L<|.Subscript (.Attribute self f ap) name sp) å.line X.env=pure O)(hs:∀x,foldedSetIterable texts X.env x=pure x:=by intro _;rfl):PS X (.For tg texts [.Assign [.Subscript (.Attribute self f ap) name sp] value å] [] pos) (By B f x C dx<|WL.Nj tv):=by
 intro k s t H D I⟨Z,d,F,hl,R,ex,q⟩;have Å:∀(B':Bx)(T:Ends)(k:Pn)(s:Shared)(H' G:Hp)(l:List VW)(a:Addr)(od:Obj)(g:List (Key×V)),B'.K=X.K->XW X B'->(∀c Z b F,B'.xp c Z F->B'.xp c b F)->Inv X k t H' s->RS B' Z (t++[L<|.ref d]) G H'->Ex f x C dx d t G H'->t[1]?=L (L<|.ref a)->G a=L (zD od g)->Ê B'.K G l (g.map λp=>kV p.1)->υ B' f x C dx T G (WL.forL (WL.ax 2) (WL.jX 3 (WL.Va tv)<|WL.dA 2) l Z)->X.wp (exec (.For tg texts [.Assign [.Subscript (.Attribute self f ap) name sp] value å] [] pos) X.env) (SP X k T) X.xe s:=by
  intro B' T k s H' G l a od g a8 b0 a5 I' R' a7 Ã e3 Á q';refine xW (wi:=λt H R=>∃J,R J H/\J=Zj a od g/\t[1]?=L (L<|.ref a)/\H a=L (zD od g)) hp hc (PI.imp (BG b2) λt H R a9=>by obtain⟨J,r,ej,Ã,e3⟩:=a9;exact⟨.ref a,Ã,a,od,g,M,e3,by rw[<-ej];exact r⟩) hg (cZ<|IY (x:=x) (dx:=dx) a8.symm b0 a5 hu P Q hv hb cl na ϝ) hs k s t H' T I' ?_;refine⟨_,?_,M,Ã,R'.rb.sub _ _ e3⟩;have wk:=sJ e3 Á;refine⟨λj m n S=>m=l.length-j/\j<=l.length/\∃b Â u,n.length=3/\RS B' b (n++[L<|.ref Â]) u S/\Ex f x C dx Â n u S/\au G u/\υ B' f x C dx T u (WL.forL (WL.ax 2) (WL.jX 3 (WL.Va tv)<|WL.dA 2) (l.drop j) b),⟨l.length,M,Ś _,Z,d,G,hl,R',a7,au.refl _,by rw[Yd];exact q'⟩,?_⟩;rintro j m n S⟨rfl,hj,b,Â,u,a0,R1,E,s1,A⟩;by_cases y:j<l.length
  .have hd:=Pc y;rw[hd]at A;obtain⟨go,yl⟩:=wk.go j l[j] (ν y) u S s1 R1.rb.sub;refine .inr ⟨go,_,λe H2 h2=>⟨l.length-(j+1),by omega,M,y,h2⟩,λv H2 hy=>?_⟩;obtain⟨e4,p,e5,e6⟩:=hy;subst e4 e6;have hr:RW B'.K u l[j] (kV p.1):=by obtain⟨v',h1,h2⟩:=Á.get<|ν y;rw[Ų,e5]at h1;cases h1;exact h2.keep s1
   have R2:RS B' (b.set 2<|.v l[j]) (n.set 2 (L<|kV p.1)++[L<|.ref Â]) u H2:=by have:=R1.set (i:=2) hr;rwa[List.set_append_left _ _ (by omega)]at this
   refine⟨b.set 2<|.v l[j],Â,u,by rw[Sf];exact a0,R2,⟨by rw[ą (by decide)];exact E.sl,E.F,E.H⟩,?_⟩;have A:υ B' f x C dx T u (match WL.jX 3 (WL.Va tv) (WL.dA 2) (b.set 2<|.v l[j])with|.n e=>WL.forL (WL.ax 2) (WL.jX 3 (WL.Va tv)<|WL.dA 2) (l.drop<|j+1) e|.ct e=>WL.forL (WL.ax 2) (WL.jX 3 (WL.Va tv)<|WL.dA 2) (l.drop<|j+1) e|.bk e=>.n e|o=>o):=A;cases K:WL.jX 3 (WL.Va tv) (WL.dA 2) (b.set 2<|.v l[j])with|n e=>rw[K]at A;exact λb3 d4 H4 F4 a6 R4 b1 s4=>⟨e,d4,F4,a6,R4,b1,s1.trans s4,υ.mono s4 A⟩|x c e|b|r w=>rw[K]at A;exact A|ct e=>exact(xM.1 _ K).elim|bk e=>exact(xM.2 _ K).elim
  .have ei:j=l.length:=by omega
   subst ei;rw[Zh]at A;exact .inl ⟨wk.stop u S s1 R1.rb.sub,A n Â S u a0 R1 E<|au.refl _⟩
 have q:υ B f x C dx D F (WL.ø Z (WL.Dg 1 Z) λxs=>WL.forL (WL.ax 2) (WL.jX 3 (WL.Va tv)<|WL.dA 2) xs Z):=q;unfold WL.Dg at q;cases K:Z[1]? with|none=>rw[K]at q;exact(q).elim|some sl=>rw[K]at q;cases sl with
 |v w=>cases w with|ġ l us=>
    have q:=q;obtain⟨v,Ã,r2⟩:=R.va 1 _ K;rw[Qb (by omega)]at Ã;simp only[RW]at r2;obtain⟨a,g,rfl,rd,Á,ru⟩:=r2;rcases rd with rd|⟨od,rd⟩
    .obtain⟨od,I',hn⟩:=I.AA<|R.rb.sub _ _ rd;have w:=R.rb.We rd;have N:x≠a:=λz=>by have:=ex.F;rw[z,rd]at this;cases this
     exact ß (Å (B.fz a od g) (Ti D a od g) k s _ _ l a od g hK.symm (hx.fz w hn) (λc Z b F h=>Ä c Z b _ h) I' (R.fz rd) ⟨ex.sl,by rw[ag N];exact ex.F,by rw[ag N];exact ex.H⟩ Ã ai (Á.fz rd)<|q.fz rd w N) λf s h=>AB hn f s h
    .exact Å B D k s H F l a od g hK.symm hx Ä I R ex Ã rd Á q|_=>exact(q).elim
 |_=>exact(q).elim
end
noncomputable def jA(H:Hp)(x:Addr):Hp:=λb=>if b=x then Y else H b
def cE{H x b}(h:b≠x):jA H x b=H b:=Õ h
def n6 :jA H x x=Y:=Ð M
def rQ{H x b o}(h:jA H x b=L o):b≠x/\H b=L o:=by
 by_cases a:b=x;.subst a;rw[n6]at h;cases h
 .rw[cE a]at h;exact⟨a,h⟩
def ZZ  (h:F x=Y):jA (upd F x o) x=F:=by
 funext b;by_cases a:b=x;.subst a;rw[n6,h]
 .rw[cE a,ag a]
def W4 (s:au F F'):au (jA F x) (jA F' x):=λb o e=>by obtain⟨a,c⟩:=rQ e;rw[cE a];exact s b o c
section
variable{K:W.Frag}
def Ê.Mu{a}(h:∀b o,F b=L o->a b=L o\/∃C dx,o=.i C dx []){ws vs}(r:Ê K F ws vs):Ê K a ws vs:=by
 have k:∀{b}{o:HO},F b=L o->(∀C dx,o≠.i C dx [])->a b=L o:=λ{b o}e n=>by grind
 refine Ê.via (λb c q=>?_) (λb c q=>?_) (λb i q=>?_) (λb f q=>k q λ_ _ z=>nomatch z) (λb f q=>k q λ_ _ z=>nomatch z) (λb C dx l j q=>k q λg d z=>by grind) ws vs r
 .rcases q with(q|⟨o,q⟩)|q;.exact .inl (.inl<|k q λ_ _ z=>nomatch z)
  .exact .inl (.inr ⟨o,k q λ_ _ z=>nomatch z⟩)
  .exact .inr q
 .rcases q with(q|⟨o,q⟩)|q;.exact .inl (.inl<|k q λ_ _ z=>nomatch z)
  .exact .inl (.inr ⟨o,k q λ_ _ z=>nomatch z⟩)
  .exact .inr q
 .rcases q with q|⟨o,q⟩;.exact .inl (k q λ_ _ z=>nomatch z)
  .exact .inr ⟨o,k q λ_ _ z=>nomatch z⟩
def Ê.out(e:F x=L (.i C dx [])){ws vs}(r:Ê K F ws vs):Ê K (jA F x) ws vs:=r.Mu λb o q=>by
 by_cases a:b=x;.subst a;rw[e]at q;cases q;exact .inr ⟨_,_,M⟩
 .exact .inl (by rw[cE a];exact q)
theorem XR.out(e:F x=L (.i C dx [])){c f g}(h:XR K F c f g):XR K (jA F x) c f g:=by cases c with|e nm fs=>obtain⟨k,i,s,l,m,r⟩:=h;exact⟨k,_,s,l.out e,m.imp id λa=>by obtain⟨d,n,j⟩:=a;exact⟨d,n,by rw[cE λz=>by grind];exact j⟩,r.via λb o p q=>by rw[cE λz=>by rw[z,e]at q;cases q;exact p];exact q⟩|_=>exact h.elim
end
section
variable{B B1:Bx}
def RB.out(R:RB B1 F H)(d:B1.H0=H1)(f:B1.F0=upd F1 x (.i C dx []))(h:F1 x=Y)(g:B.H0=jA H1 x)(c:B.F0=F1):RB B (jA F x) H:=by
 refine⟨λb o e=>R.sub b o (rQ e).2,λb o e=>?_,λb o e=>?_,λb o e=>?_⟩;.rw[g]at e;exact R.base b o (by rw[d];exact(rQ e).2)
 .rw[c]at e;have a:b≠x:=λz=>by grind
  rw[cE a];exact R.ģ b o (by rw[f,ag a];exact e)
 .obtain⟨a,e⟩:=rQ e;rw[g,c];rcases R.fr b o e with z|z;.rw[f,ag a]at z;exact .inl z
  .exact .inr ⟨by rw[cE a,<-d];exact z.1,z.2⟩
theorem RS.ť(R:RS B1 Z Ö F H)(p:B1.K=B.K)(k:F x=L (.i C dx []))(l:RB B (jA F x) H):RS B (WL.ť Z) Ö (jA F x) H:=by
 have b:∀{i:Nat}{d},(WL.ť Z)[i]?=L d->d=.o\/∃w,d=.v w/\Z[i]?=L (.v w):=λ{i d}e=>by unfold WL.ť at e;rw[Ų]at e;cases g:Z[i]? with|none=>rw[g]at e;cases e|some s0=>rw[g]at e;have e:=ŧ e;subst e;cases s0 with|v w=>exact .inr ⟨w,M,M⟩|_=>exact .inl rfl
 refine⟨l,by rw[<-R.len];simp[WL.ť],λi w e=>?_,λi ws e=>?_,λi j ws m a _ f=>?_,λi o q e=>?_,λi j o q _ _ a _ f=>?_,λi e=>?_⟩
 .rcases b e with z|⟨c,z,h⟩;.cases z
  .cases z;obtain⟨v,n,r⟩:=R.va i w h;exact⟨v,n,by rw[<-p];exact RW.one<|(Ê.one r).out k⟩
 .rcases b e with z|⟨c,z,_⟩<;>cases z
 .rcases b f with z|⟨c,z,_⟩<;>cases z
 .rcases b e with z|⟨c,z,_⟩<;>cases z
 .rcases b f with z|⟨c,z,_⟩<;>cases z
 .rcases b e with z|⟨c,z,_⟩<;>cases z
end
def Lv{Z}{j:Nat}:(∀ws,(WL.ť Z)[j]?≠L (.w ws))/\∀ks us,(WL.ť Z)[j]?≠L (.od ks us):=by unfold WL.ť;rw[Ų];cases Z[j]? with|none=>exact⟨λ_ z=>(by cases z),λ_ _ z=>by cases z⟩|some s=>cases s<;>exact⟨λ_ z=>(by cases z),λ_ _ z=>by grind⟩
def Ee(K:W.Frag)(f:Str)(x dx C:Addr)(F H:Hp)(Q:VK)(E:XK):Res VW->Prop|.ok wd=>∀e a d,H d=Y->au F a->au a e->(∀b o,b≠x->H b=L o->e b=L o)->e x=L (.i C dx [(f,.ref d)])->a x=Y->(∀b o,a b=L o->F b=L o\/(b=x\/H b=Y)/\NF o)->RW K a wd (.ref d)->Q .n e|.x c=>∀h g e a,au F a->au a e->(∀b o,b≠x->H b=L o->e b=L o)->(∀b o,a b=L o->F b=L o\/(b=x\/H b=Y)/\NF o)->XR K a c h g->E (.ref h) g e|.b=>False
def Ik(K:W.Frag)(f:Str)(c:List VW->Res VW):Sp:=λd H Q E=>∃x b C F w v,d=[.ref x,v]/\H x=L (.i C b [])/\ĝ K C/\bf K C f/\F x=Y/\(∀a C b,F a≠L (.i C b []))/\au F H/\RW K F w v/\Ee K f x b C F H Q E (c [w])
section
variable{K:W.Frag}
def D0{nm a0 m st f fd n0 n1 n2 k}{fn:List VW->Res VW}{s1 s2 Ã l y name G tg p0 p1 p2 p3 p4 p5 p6}(t1 t2)(tv)(Fn:đ K nm a0 st f fd)(S:Î [n0,n1,n2] [n0,n1] (aj st))(d7:WL.Jy t1 t2 tv=fn)(e7:aC st=[s1,s2,.Assign [.Attribute Ã m p0] (.Dict [] [] p1) p2,.For tg y [.Assign [.Subscript (.Attribute l m p3) name p4] G p5] [] p6])(h:∀a6 A D s H E X,X=fA (ò P w) P w K mg base [n0,n1,n2] a0 (aj st) f a6 A D s H E->Ñ k X.A->PassesOwn (model P w) X.A X.env X.xe->(∀B,B.K=K->XW X B->PS X s1 (â B t1)/\PS X s2 (â B t2)/\PE X G (lo B tv))/\PE X Ã (ee 0)/\PE X l (ee 0)/\PE X y (ee 1)/\PE X name (ee 2)/\PG X tg (L2.ax 2)/\X.calm=U/\attributeBase l m X.env (eval l X.env)=eval l X.env/\swapsWith (.Dict [] [] p1) (L<|.Attribute Ã m p0) p2.line X.env=pure O/\swapsWith G (L<|.Subscript (.Attribute l m p3) name p4) p5.line X.env=pure O/\∀x,foldedSetIterable y X.env x=pure x):ä P w K mg base (ò P w) (k+1) f fd [n0,n1] (Ik K m fn):=by
 subst d7;obtain⟨oc,od,f7,f9,pm,an,a6,ct,g3,rfl,lk,e0⟩:=Fn.ex;refine uM lk e0 S λvs H Q E b6=>by obtain⟨x,dx,C,F,w,v,e,_⟩:=b6;rw[e];rfl λA D s H vs Q E hr _ b6=>?_;obtain⟨x,dx,C,F,w',v,e,hH,cl,na,hF,d1,sm,r,g⟩:=b6;subst e;obtain⟨X,eX⟩:∃X,X=fA (ò P w) P w K mg base [n0,n1,n2] a0 (aj st) f a6 A D s H E:=⟨_,M⟩;rw[<-eX];have d0:Ñ k X.A:=by rw[eX];exact hr
 have Ä:X.K=K:=by rw[eX];rfl
 have b3:PassesOwn (model P w) X.A X.env X.xe:=by rw[eX];exact Di
 obtain⟨hB,a9,a8,d9,b1,hg,hc,e8,e6,f1,e9⟩:=h a6 A D s H E X eX d0 b3;let Bz:Bx:=⟨K,jA H x,F,λ_ _ _=>False,λ_ _ _ _ _ h=>h⟩;let B0:Bx:=Bz.pF (λc _ Å=>∀C dx Á Â,au Å Â->RB Bz Â Á->XR K Â c C dx->E (.ref C) dx Á) λc N Å F2 s h C dx Á Â s'=>h C dx Á Â<|s.trans s';have d6:XW X B0:=λc9 f0 H1 s1 N Å c R1 xp e C dx T m t xr=>by subst eX;exact jx t<|xp C dx H1 Å (au.refl _) (R1.rb.box M M) xr
 let F0:Hp:=upd F x<|.i C dx [];let B1:Bx:=⟨K,H,F0,λc N Å=>B0.xp c N<|jA Å x,λc N Å F2 s h=>B0.mono c N _ _ (W4 s) h⟩;have c1:∀{Å H1:Hp},RB B1 Å H1->Å x=L (.i C dx [])/\RB B0 (jA Å x) H1:=λ{Å H1}R=>⟨R.ģ x _ ai,R.out M M hF M M⟩;have d8:XW X B1:=λc9 f0 H1 s1 N Å c R1 xp e Ce b7 T m t xr=>by obtain⟨z1,z2⟩:=c1 R1.rb;subst eX;exact jx t<|xp Ce b7 H1 _ (au.refl _) (z2.box M M)<|xr.out z1
 obtain⟨h1,h2,_⟩:=hB B1 M d8;have hu:X.A.units+1<cLine:=by have:=d0.un;omega
 have h4:=FY (X:=X) (B:=B0) (f:=m) (x:=x) (C:=C) (dx:=dx) (tv:=tv) (ap:=p3) (sp:=p4) (å:=p5) (pos:=p6) Ä (by rw[eX]at b3⊢;exact b3) hc d6 (λc N f8 F h=>h) hu d9 a8 b1 hg (λB' hk hx=>(hB B' (hk.trans Ä) hx).2.2) e8 (Ä▸cl) (Ä▸na) f1 e9;have c5:aC st=[s1,s2,.Assign [.Attribute Ã m p0] (.Dict [] [] p1) p2,.For tg y [.Assign [.Subscript (.Attribute l m p3) name p4] G p5] [] p6]:=e7;rw[c5];have d3:au F0 H:=λb o e=>by
  by_cases I:b=x;.subst I;have:upd F b (.i C dx []) b=L o:=e;rw[ai]at this;cases this;exact hH
  .have:upd F x (.i C dx []) b=L o:=e;rw[ag I]at this;exact sm b o this
 have R0:RS B1 [.ob,.v w',.o] (L2.start [n0,n1,n2] [.ref x,v]) F0 H:=by
  refine⟨⟨d3,au.refl _,au.refl _,λa o e=>.inl e⟩,M,λi u e=>?_,λi u e=>?_,λi j u u' a _ e1 _ _ _=>?_,λi u u' e=>?_,λi j u u' _ _ a _ e1 _ _ _=>?_,λi e=>?_⟩;.rcases i with _|_|_|i<;>cases e;exact⟨v,M,r.keep<|ar hF _⟩
  .rcases i with _|_|_|i<;>cases e
  .rcases i with _|_|_|i<;>cases e1
  .rcases i with _|_|_|i<;>cases e
  .rcases i with _|_|_|i<;>cases e1
  .rcases i with _|_|_|i<;>cases e;exact⟨x,C,dx,M,ai⟩
 have g:Ee K m x dx C F H Q E (match WL.aw t1 t2 [.ob,.v w',.o]with|.n N=>WL.Dt tv N|.x c _=>.x c|_=>.b):=g;have b9:∀{Â Á:Hp},RB Bz Â Á->∀b o,Â b=L o->F b=L o\/(b=x\/H b=Y)/\NF o:=λ{Â Á}rb b o e=>by
  rcases rb.fr b o e with z|z;.exact .inl z
  .refine .inr ⟨?_,z.2⟩;by_cases I:b=x;.exact .inl I
   .have z1:jA H x b=Y:=z.1;rw[cE I]at z1;exact .inr z1
 have c0:∀{Â Á:Hp},RB Bz Â Á->∀b o,b≠x->H b=L o->Á b=L o:=λ{Â Á}rb b o I e=>rb.base b o (by show jA H x b=_;rw[cE I];exact e);have a5:∀{c:VW}{N:Ws},Ee K m x dx C F H Q E (.x c)->B0.xp c N F:=λ{c N}q Ce b7 Á Â s' rb xr=>q Ce b7 Á Â s' rb.sub (c0 rb) (b9 rb) xr;have c8:jA F0 x=F:=ZZ hF;refine⟨_,bx h1<|bx h2<|bx (pU a9 xZ e6)<|cZ h4,?_⟩;refine⟨_,F0,R0,?_⟩;unfold WL.aw at g;cases e1:t1 [.ob,.v w',.o]with|bk _|ct _|r _|b=>rw[e1]at g;exact g.elim|x c ő=>rw[e1]at g;show B0.xp c ő (jA F0 x);rw[c8];exact a5 g|n ő=>
  rw[e1]at g;intro f5 H1 Å R1 s1;refine⟨ő,Å,R1,?_⟩;have g:Ee K m x dx C F H Q E (match t2 ő with|.n N=>WL.Dt tv N|.x c _=>.x c|_=>.b):=g
  cases e2:t2 ő with|bk _|ct _|r _|b=>rw[e2]at g;exact g.elim|x c é=>
   rw[e2]at g;refine B0.mono c é F _ (λb o e=>?_)<|a5 g;have I:b≠x:=λz=>by rw[z,hF]at e;cases e
   rw[cE I];exact s1 b o (by show upd F x _ b=_;rw[ag I];exact e)|n é=>rw[e2]at g;intro J H2 F2 R2 s2;have g:Ee K m x dx C F H Q E (match(é[0]?:Option Sl)with|some .ob=>if é.length=3 then WL.Ds (WL.Nj tv<|WL.ť é++[.od [] []])else .b|_=>.b):=g;cases e3:é[0]? with|none=>rw[e3]at g;exact g.elim|some sl=>rw[e3]at g;cases sl with
 |ob=>
     have g:Ee K m x dx C F H Q E (if é.length=3 then WL.Ds (WL.Nj tv<|WL.ť é++[.od [] []])else .b):=g;by_cases a7:é.length=3;rotate_left;.rw[Õ a7]at g;exact g.elim
     rw[Ð a7]at g;obtain⟨c2,d5⟩:=c1 R2.rb;have l0:J[0]?=L (L<|.ref x):=by
      obtain⟨a,Ca,g0,g1,g2⟩:=R2.dd.ob 0 e3;rcases R2.rb.fr a _ g2 with z|z
      .by_cases ha:a=x;.subst ha;exact g1
       .have z:upd F x (.i C dx []) a=_:=z;rw[ag ha]at z;exact(d1 _ _ _ z).elim
      .exact z.2.elim
     have c4:H2 x=L (.i C dx []):=R2.rb.sub _ _ c2;have b8:J.length=3:=by rw[<-R2.len];exact a7
     have R3:RS B0 (WL.ť é) J (jA F2 x) H2:=R2.ť M c2 d5;intro p hp;have b0:p≠x:=λz=>by rw[z,c4]at hp;cases hp
     refine⟨.ref x,l0,x,C,dx,[],M,by rw[ag (ö b0)];exact c4,Ä▸cl,Ä▸na,by decide,?_⟩;have R4:RS B0 (WL.ť é) J (jA F2 x) (upd (upd H2 p<|.dK []) x<|.i C dx [(m,.ref p)]):=(R3.Xi hp<|.dK []).away _ n6 n6 (λj ws e=>(Lv.1 ws e).elim) λj ks us e=>(Lv.2 ks us e).elim;have f3:jA F2 x p=Y:=by rw[cE b0];exact R2.rb.sub.free hp
     have f2:upd (upd H2 p<|.dK []) x (.i C dx [(m,.ref p)]) p=L (.dK []):=by rw[ag b0,ai]
     have d2:B0.H0 p=Y:=R3.rb.base.free hp;have c6:(WL.ť é).length=3:=by rw[<-a7];simp[WL.ť]
     have R5:RS B0 (WL.ť é++[.od [] []]) (J++[L<|.ref p]) (jA F2 x) (upd (upd H2 p<|.dK []) x<|.i C dx [(m,.ref p)]):=by
      have:=R4.snoc.Jz (i:=3) (ks:=[]) (us:=[]) f3 d2 f2 (by simp[Ê]) (by simp[Ê]) λj ks us hj ej hv=>by
       by_cases f6:j<3;.rw[Qb (by omega)]at ej;exact(Lv.2 ks us ej).elim
       .rw[Qa (by omega),c6]at ej;cases hz:j-3 with|zero=>exact hj (by omega)|succ n=>rw[hz]at ej;cases ej
      rw[List.set_append_right _ _ (by omega),List.set_append_right _ _ (by omega),c6,b8]at this;exact this
     have c7:au F (jA F2 x):=λb o e=>by
      have I:b≠x:=λz=>by rw[z,hF]at e;cases e
      rw[cE I];exact s2 b o (s1 b o<|by show upd F x _ b=_;rw[ag I];exact e)
     refine⟨_,p,jA F2 x,b8,R5,⟨l0,n6,ai⟩,?_⟩;cases e4:WL.Nj tv (WL.ť é++[.od [] []])with|bk _|ct _|r _|b=>rw[e4]at g;exact g|x c σ3=>rw[e4]at g;exact B0.mono c σ3 F _ c7<|a5 g|n σ3=>rw[e4]at g;intro f4 d H3 F3 d4 R6 b2 s6;have g:Ee K m x dx C F H Q E (match(σ3[3]?:Option Sl)with|some (.od ks us)=>.ok<|.ġ ks us|_=>.b):=g;cases e5:σ3[3]? with
   |none=>rw[e5]at g;exact g.elim
    |some sl=>rw[e5]at g;cases sl with|od ks us=>
        obtain⟨a,b5,k1,k2,k3,k4,k5,k6⟩:=R6.dd.od 3 ks us e5;rw[Qa (by omega),d4]at k1;cases k1;have b4:d≠x:=λz=>by rw[z,b2.H]at k4;cases k4
        have sD:au F3 (upd F3 d<|.dK b5):=ar k2 _;have c3:RB Bz F3 H3:=R6.rb.box M M;refine g H3 (upd F3 d<|.dK b5) d (by have k3:jA H x d=Y:=k3;rw[cE b4]at k3;exact k3) ((c7.trans s6).trans sD) (λb o e=>?_) (c0 c3) b2.H (by rw[ag (ö b4)];exact b2.F) (λb o e=>?_) (by simp only[RW];exact⟨d,b5,M,.inl ai,k5.keep sD,k6.keep sD⟩)
        .by_cases I:b=d;.subst I;rw[ai]at e;cases e;exact k4
         .rw[ag I]at e;exact R6.rb.sub b o e
        .by_cases I:b=d;.subst I;rw[ai]at e;cases e;have k3:jA H x b=Y:=k3;rw[cE b4]at k3;exact .inr ⟨.inr k3,trivial⟩
         .rw[ag I]at e;exact b9 c3 b o e|_=>exact g.elim
  |_=>exact g.elim
end
noncomputable def Ha(F:Hp):Hp:=λb=>match F b with|some (.i _ _ [])=>Y|o=>o
def p7{F b o}(h:Ha F b=L o):F b=L o:=by
 unfold Ha at h;split at h;.cases h
 .exact h
set_option tactic.hygienic true in
def ZC{F b o}(h:F b=L o):Ha F b=L o\/∃C dx,o=.i C dx []:=by
 unfold Ha;rw[h];split;.rename_i C dx e;cases e;exact .inr ⟨C,dx,M⟩
 .exact .inl rfl
noncomputable def jo(F a:Hp):Hp:=λb=>match F b with|some o=>L o|none=>a b
def Si{F a b o}(h:F b=L o):jo F a b=L o:=by unfold jo;rw[h]
def Fg{F a b}(h:F b=Y):jo F a b=a b:=by unfold jo;rw[h]
def Nu{a:Hp}{x dx C}(d:a x=Y)(c:a dx=Y):∀b o,a b=L o->b≠x/\b≠dx/\upd (upd a dx<|.own x) x (.i C dx []) b=L o:=λb o z=>by
 have e:b≠x:=λy=>by rw[y,d]at z;cases z
 have f:b≠dx:=λy=>by rw[y,c]at z;cases z
 exact⟨e,f,by rw[ag e,ag f];exact z⟩
def yi{B:Bx}{Z l c d x dx C e h}(f:RS B Z l c d)(g:d x=Y)(p:d dx=Y)(r:au e h)(s:∀b o,b≠x->upd (upd d dx<|.own x) x (.i C dx []) b=L o->h b=L o)(fr:∀b o,e b=L o->Ha c b=L o\/(b=x\/upd (upd d dx<|.own x) x (.i C dx []) b=Y)/\NF o):Gr c d (jo c e) h/\RB B (jo c e) h/\au e (jo c e):=by
 have q:=Nu (C:=C) g p;have j:au d h:=λb o z=>s b o (q b o z).1 (q b o z).2.2;have i:∀b o,e b=L o->c b=Y->d b=Y/\NF o:=λb o z n=>by
  rcases fr b o z with y|⟨y,v⟩;.rw[p7 y]at n;cases n
  .refine⟨?_,v⟩;rcases y with y|y;.rw[y];exact g
   .cases a:d b with|none=>rfl|some u=>rw[(q b u a).2.2]at y;cases y
 refine⟨⟨λb o z=>Si z,j,λb o z n=>?_⟩,⟨λb o z=>?_,f.rb.base.trans j,λb o z=>Si<|f.rb.ģ b o z,λb o z=>?_⟩,λb o z=>?_⟩;.rw[Fg n];cases t:e b with|none=>rfl|some u=>rw[(i b u t n).1]at z;cases z
 .cases a:c b with|some u=>rw[Si a]at z;cases z;exact j b _<|f.rb.sub b _ a|none=>rw[Fg a]at z;exact r b o z
 .cases a:c b with|some u=>rw[Si a]at z;cases z;exact f.rb.fr b _ a|none=>rw[Fg a]at z;obtain⟨m,k⟩:=i b o z a;exact .inr ⟨f.rb.base.free m,k⟩
 .cases a:c b with|none=>rw[Fg a];exact z|some u=>have m:=j b _<|f.rb.sub b _ a;have k:=r b o z;rw[m]at k;cases k;exact Si a
def De(P:Program)(w:World)(K:W.Frag)(c:Str->Option Value)(a:Heap)(k:Nat)(fI:Addr)(ps:List Str)(sp:Sp):Prop:=∃b:FuncData,ä P w K c a (ò P w) k fI b ps sp/\Binds K b ps []
def rO{P:Program}{w:World}{K:W.Frag}{g:Str->Option Value}{b:Heap}{k:Nat}{f:Addr}{a:Str}{st:Stmt}{ps:List Str}{sp:Sp}(D:∃c,đ K "__init__" a st f c)(j:∀(kV d i:Value)(an:Option Addr)(e ct:Value)(us:List Value),us.length=ps.length->bindArgs (W.fnOf "__init__" a (bh st) (aC st) (aj st) .none kV d i an e ct) ⟨us,[]⟩=pure (ps.zip us))(h:∀c:FuncData,đ K "__init__" a st f c->ä P w K g b (ò P w) k f c ps sp):De P w K g b k f ps sp:=by obtain⟨c,F⟩:=D;exact⟨c,h c F,F.binds j⟩
def Kw{n:Nat}(h:n+64<cLine):n+1<cLine:=by omega
end WS
namespace L2
section
variable{X:Cx}
def sY(X:Cx)(C:Addr)(m:Str)(sp:Sp)(ĥ:List V)(ta:TE)(t:TA):TE:=λd H Q=>ta d H λx h=>∃a j fs,x=.ref a/\h a=L (.i C j fs)/\fs.lookup m=Y/\t d h λk i=>∃E:XK,sp (x::(k++ĥ)) i Q E/\∀b s e f c T g,ù X b d g s e f c .none (L T)->E (.ref f) c g->X.xe (.ref e) s
def qW{pl}(K:PE X o ta)(c:ĝ X.K C)(p:Meth X.K C m f)(F:X.Fn (ò X.prog X.w) k f fd ps sp)(z:Ñ k X.A)(Å:Binds X.K fd ps ds)(A:Vals ĥ ds)(G:PA X (e::es) t)(i:SE X e es:=by rfl)(d:BT X pos es:=by rfl)(N:eval (.Call (.Attribute o m å) (e::es) [] pos) X.env=(do
  let w <-eval o X.env
  standAt å.atName let(f,first)<-holding [w] (getMethod w m pl)callWith pos f first (backTo pos<|starEach (e::es) X.env) (backToKw pos<|keywordEach [] X.env)):=by rfl):PE X (.Call (.Attribute o m å) (e::es) [] pos) (sY X C m sp ĥ ta t):=by intro b s j H Q I h;refine Rp (ß (K _ s j H _ I h) λu y g=>?_) N;obtain⟨x,P,n,Ã,a,S,fs,ex,J,l,q⟩:=g;subst ex;obtain rfl:=Ã;exact qi n J c p l (Bl  I.ok.mod.kin p.kp (ß (G pos b y j P _ n q) λT Â⟨vs,R,v,r,E,B,D⟩=>⟨v.ć,vK (vs:=.ref a::vs) F z Å A D v (.cons rfl r) B⟩) i d)
def D4{pl}(v:PE X o ta)(c:ĝ X.K C)(g:Meth X.K C m f)(F:X.Fn (ò X.prog X.w) k f fd ps sp)(A:Ñ k X.A)(w:Binds X.K fd ps ds)(y:Vals ĥ ds)(z:eval (.Call (.Attribute o m å) [] [] pos) X.env=(do
  let i <-eval o X.env
  standAt å.atName let(f,first)<-holding [i] (getMethod i m pl)callWith pos f first (backTo pos<|starEach [] X.env) (backToKw pos<|keywordEach [] X.env)):=by rfl):PE X (.Call (.Attribute o m å) [] [] pos) (sY X C m sp ĥ ta xF):=by intro e s r H Q I h;refine Rp (ß (v _ s r H _ I h) λu B d=>?_) z;obtain⟨x,G,b,n,a,D,fs,ex,t,l,q⟩:=d;subst ex;obtain rfl:=n;exact qi b t c g l (fy q λE j p=>W.callWith_K0 b.ć g.kp<|vK (vs:=[.ref a]) F A w y p b (.cons rfl .nil) j)
end
end L2
namespace WS
open L2
section
variable{B:Bx}
def RS.Py(R:RS B Z Ö F H)(j:F x=Y)(n:B.H0 x=Y)(k:H x=L o)(A:NF o)(D:∀l,o≠.l l)(nd:∀l,o≠.dK l):RS B Z Ö (upd F x o) H:=by
 have s:au F (upd F x o):=ar j _;refine⟨⟨λb u q=>?_,R.rb.base,R.rb.ģ.trans s,λb u q=>?_⟩,R.len,λi w q=>?_,λi ws q=>?_,R.ap,λi p t q=>?_,R.dd.ad,λi q=>?_⟩
 .by_cases d:b=x;.subst d;rw[ai]at q;cases q;exact k
  .rw[ag d]at q;exact R.rb.sub b u q
 .by_cases d:b=x;.subst d;rw[ai]at q;cases q;exact .inr ⟨n,A⟩
  .rw[ag d]at q;exact R.rb.fr b u q
 .obtain⟨v,c,e⟩:=R.va i w q;exact⟨v,c,e.keep s⟩
 .refine mv (R.ow i ws q) λa y c e f g h=>?_;have d:a≠x:=λz=>by grind
  exact Ϩ a y c (by rw[ag d];exact e) f g<|h.keep s
 .refine Zc (R.dd.od i p t q) λa l c e f g h m=>?_;exact Rg a l c (by rw[ag λz=>by grind];exact e) f g (h.keep s)<|m.keep s
 .refine vq (R.dd.ob i q) λa C r c e=>?_;exact Vb a C r c<|s _ _ e
end
section
variable{X:Cx}{B:Bx}
def Q1(J:X.K=B.K)(hx:XW X B)(Å:Mk X.K C f)(cl:ĝ X.K C)(na:bf X.K C fl)(S:ķ X.K c C)(a6:WL.hJ c=[fl])(G:X.Fn (ò X.prog X.w) k f fd ps (Ik X.K fl fn))(hr:Ñ (k+1) X.A)(hg:Gl X x)(hm:X.mg x=L (.ref C))(hb:Binds X.K fd ps [])(ha:PA X (e::es) (Ď B á))(hn:∀Z ws,á Z=.ok ws->ws.length=1:=by repeat first|exact iz|apply cx)(Á:è x:=by decide)(he:SE X e es:=by rfl)(N:BT X pos es:=by rfl):PE X (.Call (.Name x p) (e::es) [] pos) (lo B<|WL.uU c fn á):=PE.imp (qX Å G hr hg hm hb .nil ha Á he N) λr H Q a5=>by obtain⟨Z,F,R,q⟩:=a5;have q:=Rq.bind q;refine⟨Z,F,R,?_⟩;cases ea:á Z with|b|x c=>rw[ea]at q;exact q|ok ws=>
 rw[ea]at q;have hl:=hn Z ws ea;obtain⟨w,rfl⟩:∃w,ws=[w]:=by match ws,hl with|[w],_=>exact⟨w,M⟩
 have q:=Rq.bind (show Rq B Z F ((fn [w]).bind λÄ=>Res.ok<|WL.W.i c [Ä]) _ from q);intro vs H1 y j g1 r1 x Â g l a9;obtain⟨v,rfl,r3⟩:=cp r1;rw[Ξ];have hc:=Nu (C:=C) g l;have D:y x=Y:=j.rb.sub.free g;refine⟨λA i E=>∃K h c,A=.ref K/\RS B Z r h E/\B.xp c Z h/\XR B.K h c K i,?_,λI s e A i T H' t⟨K,h,c,ec,R2,xp,P⟩=>?_⟩
 .refine⟨x,Â,C,Ha y,w,v,M,ai,cl,na,?_,λa K da z=>?_,λb o z=>?_,?_,?_⟩;.cases e1:Ha y x with|none=>rfl|some u=>have:=j.rb.sub x _<|p7 e1;rw[g]at this;cases this
  .have:=p7 z;unfold Ha at z;rw[this]at z;cases z
  .exact(hc b o<|j.rb.sub b o<|p7 z).2.2
  .rw[J];exact RW.one ((Ê.one r3).Mu λb o z=>ZC z)
  .cases ef:fn [w]with|b=>rw[ef]at q;exact q|ok Ä=>
    rw[ef]at q;intro E h d _ s1 s2 s3 a0 a8 fr a7;obtain⟨m,Ã,sj⟩:=yi j g l s2 s3 fr;have fx:jo y h x=Y:=by rw[Fg D];exact a8
    have R3:RS B Z r (upd (jo y h) x<|.i C Â [(fl,.ref d)]) E:=(j.grow m Ã).Py fx (j.rb.base.free g) a0 trivial (λ_ z=>nomatch z) λ_ z=>nomatch z;refine⟨M,(show∀v H' F',_ from q) (.ref x) E _ R3 (g1.trans ⟨m.f.trans<|ar fx _,m.h,λb o z n=>?_⟩) ?_⟩;.rw[ag (hc b o z).1];exact m.nf b o z n
    .simp only[RW];refine⟨x,C,Â,[(fl,.ref d)],M,ai,J▸S,a6.symm,by simp,Ê.one ?_⟩;exact(show RW B.K h Ä (.ref d)from J▸a7).keep (sj.trans<|ar fx _)|x c=>rw[ef]at q;intro A i E h s1 s2 s3 fr P;obtain⟨m,Ã,sj⟩:=yi j g l s2 s3 fr;exact⟨A,jo y h,c,M,j.grow m Ã,B.mono c Z F _ (g1.f.trans m.f) q,(J▸P).keep sj⟩
 .cases ec;exact hx I r H' s Z h c R2 xp e A i (L T) _ t (by rw[J];exact P)
set_option tactic.hygienic true in
def ZX{o k}(z:X.K=B.K)(A:ķ X.K c C)(cl:ĝ X.K C)(na:bf X.K C fl)(h:WL.hJ c=[fl])(x:PE X o (lo B k))(D:attributeBase o fl X.env (eval o X.env)=eval o X.env:=by rfl):PE X (.Attribute o fl pos) (lo B<|WL.Mj c k):=PE.imp (tR x D) λs H Q i=>by
 refine dB i λp F R q=>?_;have q:=Rq.bind q;refine eM p F R (Rq.mono (au.refl _) q λy d v I n m t E=>?_);unfold WL.Sy at d;split at d
 .rename_i J w;split at d
  .rename_i b;have b:=eq_of_beq b;subst b;refine Ij E λa K u e j G l f _ r=>?_;subst j;rw[<-z]at l;cases A.symm.trans l;rw[h]at f;obtain⟨v1,rfl,r⟩:∃v1,e=[(fl,v1)]/\Ê B.K n [w] [v1]:=by match e,f,r with
 |[(g,v1)],f,r=>
     have:g=fl:=by simpa using f
     subst this;exact⟨v1,M,r⟩
   exact Ej a C u _ v1 M (m.rb.sub _ _ G) cl na (by simp[List.lookup])<|d v1 I n m t<|RW.one r
  .exact(d).elim
 .exact(d).elim
def yk{o:Expr}{l m n}(r:X.K=B.K)(I:XW X B)(J:ķ X.K c C)(h:WL.hJ c=[fl])(i:(m==fl)=O)(D:∀Z ws,á Z=.ok ws->ws.length+1=n):∀d H Q,lo B (WL.cQ c fn l á) d H Q->sY X C m (ĵ X.K n fn) [] (lo B l) (Ď B á) d H Q:=by
 intro d H Q⟨Z,F,R,q⟩;have q:=Rq.bind q;refine⟨Z,F,R,Rq.mono (au.refl _) q λy b v N s p u w=>?_⟩;by_cases e:WL.Hf c y=U
 .rw[Ð e]at b;obtain⟨x,rfl⟩:∃x,y=.i c [x]:=by
   unfold WL.Hf at e;split at e;.rw[eq_of_beq e];exact⟨_,M⟩
   .cases e
  have f:=w;simp only[RW]at f;refine Ij f λa P G j k E t A _ _=>?_;subst k;rw[<-r]at t;cases J.symm.trans t;rw[h]at A;obtain⟨v1,rfl⟩:∃v1,j=[(fl,v1)]:=by simp_all
  refine⟨a,G,_,M,p.rb.sub _ _ E,by simp[List.lookup,i],Z,s,p,?_⟩;cases g:á Z with|b=>rw[g]at b;exact b|x c=>rw[g]at b;exact B.mono c Z F s u.f b|ok ws=>rw[g]at b;exact λÃ T S K z Å=>mx r I K (u.trans z) (.cons (w.keep z.f) Å) (by rw[Ĩ];exact D Z ws g) b (by rw[Ξ])
 .rw[Õ e]at b;exact False.elim b
end
end WS
namespace L2
section
variable{X:Cx}
def tU(f:X.A.units+1<cLine):ë X (compareOp .NotIn) λx y H Q=>∃a o,y=.ref a/\Ly H a x o/\Q (.B !o.isSome) H:=by intro b s i H x y v u Q I h c⟨a,o,e,g,q⟩;subst e;cases c;exact BV f I g h λj d=>⟨.B _,H,d,M,q⟩
end
end L2
namespace WS
open L2
section
variable{X:Cx}{K:W.Frag}
def wX:Calm WL.nK:=λx y c h=>by
 unfold WL.nK at h;split at h;.split at h<;>cases h
 .exact dF _ _ _ h
def NQ{F k a}(b:RW K F k (kV a)){Ç ks}(r:Ê K F ks (Ç.map λp=>kV p.1)):WL.Bg k ks=(xu Ç a).isSome:=by rw[wU b r,qD]
def M1(n:X.K=K)(h:X.A.units+64<cLine):ë X (compareOp .NotIn) (ħ K WL.nK):=by
 intro e s f H x y v u Q I i d⟨F,wx,o,g,c,r2,q⟩;unfold WL.nK at q;split at q
 .split at q;.rename_i l;obtain⟨k,rfl⟩:=yr l c;refine mJ r2 λa m b rd j _=>?_;subst b;rw[NQ c j]at q;exact tU (Kw h) _ s f H _ _ v u Q I i d ⟨a,_,M,.inl ⟨_,_,g.rd rd,M,M⟩,eq1 q<|M⟩
  .exact q.elim
 .exact jf n h _ s f H x y v u Q I i d (sA F _ _ g c r2 q)
theorem yL{F k a}(b:RW K F k (kV a))(w:VW):∀{Ç ks us},Ê K F ks (Ç.map λp=>kV p.1)->Ê K F us (Ç.map λp=>p.2)->WL.Bh k ks us=L w->∃v,xu Ç a=L v/\RW K F w v
|[],ks,us,r1,r2,e=>by cases ks with|nil=>cases e|cons x ks=>simp[Ê]at r1
|p::Ç,ks,us,r1,r2,e=>by cases ks with|nil=>cases e|cons x ks=>cases us with|nil=>cases e|cons y us=>
  obtain⟨v1,n,m,j,c⟩:=r1;obtain⟨v2,o,g,d,i⟩:=r2;cases m;cases g;unfold WL.Bh at e;rw[rM j b]at e;by_cases h:p.1=a;.rw[Ϡ h]at e;cases e;exact⟨_,jQ h,d⟩
  .rw[Ũ h]at e;obtain⟨v,l,f⟩:=yL b w c i e;exact⟨v,by rw[jR h];exact l,f⟩
def Q0:Calm WL.Hg:=λx y c h=>by
 unfold WL.Hg at h;split at h
 .split at h;.revert h;cases WL.Bh _ _ _<;>simp[WL.Ζ]
  .cases h
 .exact PF _ _ _ h
set_option tactic.hygienic true in
def QO(r:X.K=K):ξ X (ħ K WL.Hg):=by
 intro b c i s g H x y v u Q I k d⟨F,wx,o,h,j,r2,q⟩f;unfold WL.Hg at q;split at q
 .rename_i p t;split at q;.rename_i m;obtain⟨l,rfl⟩:=yr m r2;obtain⟨a,D,rfl,rd,A,n⟩:=j;cases e:WL.Bh o p t with|none=>rw[e]at q;exact q.elim|some w=>rw[e]at q;obtain⟨z,C,E⟩:=yL r2 w A n e;exact RG _ _ _ s g H _ _ v u Q I k d ⟨a,_,_,z,M,M,h.rd rd,C,eq1 q E⟩ f
  .exact q.elim
 .exact Ez r _ _ _ s g H x y v u Q I k d ⟨F,_,_,h,j,r2,q⟩ f
end
end WS
namespace L2
theorem pQ:∀{a us},Vals (a.map V.str) us->StrsAre us a|[],_,r=>by cases r;exact .nil|x::a,_,r=>by cases r with|cons h t=>obtain⟨k,rfl⟩:=h;exact .cons x k<|pQ t
theorem pY:∀{us a},StrsAre us a->Vals (a.map V.str) us|_,_,.nil=>.nil|_,_,.cons y t r=>.cons ⟨t,M⟩<|pY r
end L2
namespace WS
open L2
section
variable{K:W.Frag}
theorem tf{F}:∀{ws:List VW}{a vs},WL.strsOf ws=L a->Ê K F ws vs->vs=a.map V.str
|[],_,_,e,r=>by cases e;simpa[Ê]using r|w::ws,a,vs,e,r=>by
 obtain⟨v,d,rfl,q,t⟩:=r;cases w<;>first|(cases e;done)|skip
 obtain⟨c,b,rfl⟩:=μ.mp e;rw[q,tf b t];rfl
theorem HH{F}:∀(a:List Str),Ê K F (a.map WL.W.str)<|a.map V.str|[]=>rfl|x::a=>.cons (rfl)<|HH _
end
end WS
namespace L2
theorem DH:∀{xs us},us.length=xs.length->(∀(i:Nat)x u,xs[i]?=L x->us[i]?=L u->RelV x u)->Vals xs us|[],[],_,_=>.nil|[],_::_,h,_=>by simp at h|_::_,[],h,_=>by simp at h|x::xs,u::us,h,k=>.cons (k 0 x u M M) (DH (by grind) λi y v b a=>k (i+1) y v (by grind)<|by grind)
end L2
namespace WS
open L2
end WS
namespace L2
open PySem PySem.Spec PyProof.Rows PySem.Calls
def mu{X}(hc:X.calm=U):bG X (.builtin "sorted") λxs H Q=>∃a Ç,∃w,xs=[.ref a]/\Rd H a (.dK Ç)/\(Ç.map λp=>kV p.1)=w.map V.str/\w.length<64/\∀l c,H l=Y->List.Perm c w->sortedS c=U->Q (.ref l) (upd H l<|.l<|c.map V.str):=by
 intro B s Z H xs us Q I rx⟨a,Ç,w,e,rd,K,C,q⟩;subst e;obtain⟨u,rfl,ru⟩:∃u,us=[u]/\RelV (.ref a) u:=by cases rx with|cons h t=>cases t;exact⟨_,M,h⟩
 cases show u=Value.ref a from ru;obtain⟨z,hd,vs,n,dd⟩:=Lj I.Û rd;obtain⟨ep,E⟩:=dd.dictAt;have P:=n.length;refine call_function_entry kind_sorted plain_sorted entry_sorted (args_sorted1 _) ?_;unfold Builtin.«sorted»;refine Í (m:=checkCount "sorted" 1 1 _)<|ì ?_;refine Í (W.kdu_collect (A:=X.A.in1) (W.kdl_dict (knd:=bU X.prog X.w) (kvs:=vs) (ep:=ep) hd) (I.ok.hd hc) E (by rw[<-P];exact z) λj tk d hk Â=>?_);have f:Vals (w.map V.str) d.toList:=by
  rw[<-K];refine DH ?_ ?_;.rw[Qf,Į,P];exact Â.1
  .intro i x v T e2;rw[Ų,μ]at T;obtain⟨p,Å,rfl⟩:=T;refine dB (Â.2 i v<|by rw[<-Array.getElem?_toList];exact e2) λk y g1 g2=>?_;refine iQ (n.get Å) λr S r2 _=>?_;rw[g1]at S;cases S;rw[r2];exact ND g2
 have J:=pQ f;have D:d.toList.length<64:=by rw[<-f.length,Į];exact C
 refine Í (wpAny_newList ?_<|by rw[Mc];omega);have g:(j.push<|seqObj "list" d.toList.toArray 0).get? j.objs.size=L (seqObj "list" d.toList.toArray 0):=ĺ _ M;refine Í (π<|Lc (s:={s with heap:=j.push<|seqObj "list" d.toList.toArray 0,toks:=tk}) slot_list_sort ⟨_,g,M⟩ entry_list_sort (list_sort_treeK strKind_oneLt g J.keysOf (λÃ N Ò e=>keyKind_strs<|by rw[<-e];exact J) D λG a1 a2=>⟨_,M,?_⟩)<|args_list_sort _);refine iQ (sorted_out_str J a1 a2) λc b1 Ä b3=>?_;obtain⟨e,he⟩:=sortedHeap_at (out:=(arrOf G).map (·.2)) g;have Á:Inv X B Z H {s with heap:=j,toks:=tk}:=I.kept (t':=tk) hk;refine ì ⟨_,M,.ref j.objs.size,_,Á.laid (a:=j.objs.size) (o:=.l<|c.map V.str) (t':=tk) (λb o z=>?_) (í _) ⟨?_,_,e,pY b1,?_⟩,M,q _ c (Á.Û.fresh<|í _) Ä b3⟩;.have R:=ĉ z;rw[sortedHeap_old (ğ R) (by rw[size_push'];exact Nat.lt_succ_of_lt R)];exact Ă _ z
 .rw[Į,Ä.length_eq];exact ñ (Nc C) (by decide)
 .rw[he]
end L2
namespace WS
open L2
def Nh(K:W.Frag)(n:Nat)(f:List VW->Res VW):Sp:=λi H Q E=>∃F ws,au F H/\Ê K F ws i/\ws.length=n/\match f ws with|.ok w=>∃e,w=.l e/\∀a h d b,au F b->au b d->au H d->(∀a o,b a=L o->F a=L o\/H a=Y/\NF o)->b a=Y->H a=Y->d a=L (.l h)->Ê K b e h->Q (.ref a) d|.x c=>∀C g d b,au F b->au b d->au H d->(∀a o,b a=L o->F a=L o\/H a=Y/\NF o)->XR K b c C g->E (.ref C) g d|.b=>False
def N6(B:Bx)(D:Ends)(F:Hp)(l:LF):Out->Prop|.n Ô=>Rq B Ô F (l Ô) λws=>∀a e d b,RB B b d->au F b->b a=Y->B.H0 a=Y->d a=L (.l e)->Ê B.K b ws e->D.rt (.ref a) d|.x c Ô=>B.xp c Ô F|_=>False
def Ct(B:Bx)(t:SF)(l:LF):TS:=λD a H=>∃b F,RS B b a F H/\N6 B D F l (t b)
section
variable{X:Cx}{B:Bx}
def D6(h:PE X e (Ia B l)):ã X [.Return (L e) pos] (Ct B WL.à l):=ã.imp (cZ<|xU h) λD d H⟨c,F,R,q⟩=>⟨c,F,R,Rq.mono (au.refl _) q λw b a p o n f g i m j k _=>b a _ _ _ f.rb g.f i m j k⟩
def S0(f:PS X s1 (â B t))(p:PE X e (Ia B l)):ã X [s1,.Return (L e) pos] (Ct B t l):=ã.imp (bx f<|cZ<|xU p) λD n H d=>by refine dB d λh F R q=>?_;refine eM h F R ?_;cases b:t h with|n Ô=>rw[b]at q;exact λi y m o j=>eM _ m o (Rq.mono j q λw k a z v x R2 g f u r s _=>k a _ _ _ R2.rb (j.trans g.f) f u r s)|x c Ô=>rw[b]at q;exact q|r _=>rw[b]at q;exact q.elim|bk _=>rw[b]at q;exact q.elim|ct _=>rw[b]at q;exact q.elim|b=>rw[b]at q;exact q.elim
end
section
variable{K:W.Frag}
def FF{x d st f X N ps k m n}{Á:List VW->Res VW}(t)(l)(Fn:đ K x d st f X)(S:Î N ps (aj st))(hn:N.length=n)(g:ps.length=m)(Ã:WL.Cd n t l=Á)(a5:ps.length<=N.length)(h:∀i A b s H E B,B.K=K->Ñ k (A.deeper<|envOfC d (aj st) s.heap.objs.size f i)->XW (fA (ò P w) P w K mg base N d (aj st) f i A b s H E) B->PassesOwn (model P w) (fA (ò P w) P w K mg base N d (aj st) f i A b s H E).A (fA (ò P w) P w K mg base N d (aj st) f i A b s H E).env (fA (ò P w) P w K mg base N d (aj st) f i A b s H E).xe->ã (fA (ò P w) P w K mg base N d (aj st) f i A b s H E) (aC st) (Ct B t l)):ä P w K mg base (ò P w) (k+1) f X ps (Nh K m Á):=by subst hn g Ã;refine Bd Fn.ex λoc od kV a8 pm an i ct a6 Â lk R=>?_;subst Â;refine uM lk R S (λI H Q E y=>by refine mJ y λF ws _ r Ä _=>?_;rw[<-r.length];exact Ä) λA b s H I Q E hr _ y=>?_;refine mJ y λF ws sm r Ä g=>?_;let B0:Bx:=⟨K,H,F,λ_ _ _=>False,λ_ _ _ _ _ h=>h⟩;let Å:Bx:=B0.pF (λc _ G=>∀C p u j,au G j->RB B0 j u->XR K j c C p->E (.ref C) p u) λc Z G F2 s h C p u j v=>h C p u j<|s.trans v;refine⟨_,h i A b s H E Å M hr (λa0 a7 H1 s1 Z G c R1 xp e C p T fl t D=>jx t<|xp C p H1 G (au.refl _) (R1.rb.box M M) D) Di,_,F,(RS.start sm r<|by omega).box (B':=Å) M M M,?_⟩;unfold WL.Cd at g;cases e:t _ with
|n Ô=>rw[e]at g;unfold WL.Es at g;dsimp only at g;show Rq Å Ô F (l Ô) _;cases J:l Ô with|b=>rw[J]at g;exact g.elim|x c=>rw[J]at g;exact λC p u j v o D=>(show∀C p u j,_ from g) C p u j v o.sub o.base o.fr D|ok xs=>rw[J]at g;obtain⟨z,ex,q⟩:∃z,WL.W.l xs=.l z/\_:=g;cases ex;exact λa I u j o v h1 h2 h3 h4=>q a I u j v o.sub o.base o.fr h1 h2 h3 h4
|x c Ô=>rw[e]at g;exact λC p u j v o D=>g C p u j v o.sub o.base o.fr D|r _=>rw[e]at g;exact g.elim|bk Ô=>rw[e]at g;exact g.elim|ct Ô=>rw[e]at g;exact g.elim|b=>rw[e]at g;exact g.elim
def Z0{n t l}{ws:List VW}{w:VW}(h:WL.Cd n t l ws=.ok w):∃xs,w=.l xs:=by
 unfold WL.Cd WL.Es at h;split at h;.revert h;cases l _ with|ok xs=>intro h;exact⟨xs,(Res.ok.inj h).symm⟩|x c|b=>intro h;cases h
 .cases h
 .cases h
def ä.Ζ{f n ps k m g}(F:ä P w K mg base (ò P w) k f n ps (Nh K m g))(y:∀ws w,g ws=.ok w->∃xs,w=.l xs):ä P w K mg base (ò P w) k f n ps (ĵ K m g):=F.imp λD H Q E i=>by refine mJ i λF ws x C A h=>Ub F ws x C A ?_;cases e:g ws with|b|x c=>rw[e]at h;exact h|ok w=>
   rw[e]at h;obtain⟨xs,rfl⟩:=y ws w e;refine⟨xs,M,λa l B u s v q fr p t j r=>h _ B (upd u a<|.l l) (s.trans<|ar p _) (λb o z=>?_) q (λb o z=>?_) ?_⟩
   .by_cases d:b=a;.subst d;rw[ai]at z;cases z;exact j
    .rw[ag d]at z;exact v b o z
   .by_cases d:b=a;.subst d;rw[ai]at z;cases z;exact .inr ⟨t,trivial⟩
    .rw[ag d]at z;exact fr b o z
   .exact⟨a,l,M,ÿ.of ai,r.keep<|ar p _⟩
end
section
variable{X:Cx}{B:Bx}
def U1{ta}(G:X.calm=U)(C:X.mg x=Y)(A:bootBuiltins x=L (.builtin "sorted"))(h:PE X e (lo B ta))(z:Gl X x:=by rfl)(f:x≠"__name__":=by decide)(j:è x:=by decide)(s:starEach [e] X.env=(O,eval e X.env)::starEach [] X.env:=by rfl)(g:BT X pos []:=by rfl):PE X (.Call (.Name x p) [e] [] pos) (Ia B<|WL.yq ta):=PE.imp (x6 (mu G) z C A (af h aV s) f j s g) λu H Q i=>by refine dB i λd F R q=>?_;have q:=Rq.bind q;refine eM d F R ?_;show Rq B d F ((ta d).bind λx=>.ok [x]) _;cases o:ta d with|b|x c=>rw[o]at q;exact q|ok w=>rw[o]at q;intro K N Å r J I;refine fy (cp I) λv b r3=>?_;subst b;cases w with
 |ġ ks us=>refine mJ r3 λa n b rd D _=>?_;subst b;have q:Rq B d F ((match WL.strsOf ks with|some ss=>if ss.length<64 then Res.ok _ else .b|none=>.b).bind WL.Cs) _:=q;cases k:WL.strsOf ks with|none=>rw[k]at q;exact q.elim|some ss=>
     rw[k]at q;dsimp only at q;by_cases m:ss.length<64;.rw[Ð m]at q;refine Sn a n ss M (r.rb.sub.rd rd) (tf k D) m λl y f E t=>?_;have e:=WL.pR E t;subst e;exact Zi r J (HH _) f q
     .rw[Õ m]at q;exact q.elim
 |_=>exact False.elim q
end
def oR(P:Program)(w:World)(K:W.Frag)(c:Str->Option Value)(a:Heap)(k:Nat)(C f:Addr)(m:Str)(ps:List Str)(sp:Sp):Prop:=Meth K C m f/\∃b:FuncData,ä P w K c a (ò P w) k f b ps sp/\Binds K b ps []
def ag4{K f nm a st g od an d kV e i b ct}(l:K.lookup f=L ⟨g,od,.func<|W.fnOf nm a (bh st) (aC st) (aj st) .none kV e i an b ct,d⟩)(c:W.codeIn K b a=U)(q:W.keepIn K (.ref f)=U):∃h,đ K nm a st f h:=⟨_,yD l c q⟩
def nM{P w K g b k C f nm a st ps sp}(Å:Meth K C nm f)(D:∃c,đ K nm a st f c)(j:∀kV d i an e ct us,us.length=ps.length->bindArgs (W.fnOf nm a (bh st) (aC st) (aj st) .none kV d i an e ct) ⟨us,[]⟩=pure (ps.zip us))(h:∀c,đ K nm a st f c->ä P w K g b (ò P w) k f c ps sp):oR P w K g b k C f nm ps sp:=by obtain⟨c,F⟩:=D;exact⟨Å,c,h _ F,F.binds j⟩
def oR.x{P w K c a k m n C f nm ps t l}(h:oR P w K c a k C f nm ps (Nh K m<|WL.Cd n t l)):oR P w K c a k C f nm ps (ĵ K m<|WL.Cd n t l):=by obtain⟨Å,d,F,b⟩:=h;exact⟨Å,d,ä.Ζ F λws w e=>Z0 e,b⟩
section
variable{X:Cx}{B:Bx}
def KI(d:B.K=X.K)(e:PE X a (lo B ta))(c:PE X b (lo B tb))(hs:lu b:=by exact λ_ _=>rfl):PE X (.Subscript a b pos) (lo B<|WL.Ì WL.Hg ta tb):=YA Q0 (QO d.symm) e c hs
def Lp(d:B.K=X.K)(b:ķ X.K c C)(cl:ĝ X.K C)(na:bf X.K C fl)(e:PE X o (lo B to))(a:WL.hJ c=[fl]:=by rfl)(f:attributeBase o fl X.env (eval o X.env)=eval o X.env:=by rfl):PE X (.Attribute o fl pos) (lo B<|WL.Mj c to):=ZX d.symm b cl na a e f
def KJ(r:B.K=X.K)(s:Ñ j X.A)(i:XW X B)(Å:Mk X.K C f)(cl:ĝ X.K C)(na:bf X.K C fl)(l:ķ X.K c C)(G:De X.prog X.w X.K X.mg X.base k f ps (Ik X.K fl fn))(q:X.mg x=L (.ref C))(m:PA X (e::es) (Ď B á))(hk:k+1<=j:=by decide)(h:∀Z ws,á Z=.ok ws->ws.length=1:=by repeat first|exact iz|apply cx)(a:WL.hJ c=[fl]:=by rfl)(o:Gl X x:=by rfl)(g:è x:=by decide)(n:SE X e es:=by rfl)(d:BT X pos es:=by rfl):PE X (.Call (.Name x p) (e::es) [] pos) (lo B<|WL.uU c fn á):=by obtain⟨t,F,b⟩:=G;exact Q1 r.symm i Å cl na l a F (s.mono hk) o q b m h g n d
def Gn(T:B.K=X.K)(Â:Ñ j X.A)(A:XW X B)(D:ķ X.K c C)(cl:ĝ X.K C)(G:oR X.prog X.w X.K X.mg X.base k C g m ps (ĵ X.K 1 fn))(x:PE X o (lo B to))(hk:k<=j:=by decide)(d:WL.hJ c=[fl]:=by rfl)(i:(m==fl)=O:=by decide)(S:eval (.Call (.Attribute o m å) [] [] pos) X.env=(do
  let r <-eval o X.env
  standAt å.atName let(f,first)<-holding [r] (getMethod r m pl)callWith pos f first (backTo pos<|starEach [] X.env) (backToKw pos<|keywordEach [] X.env)):=by rfl):PE X (.Call (.Attribute o m å) [] [] pos) (lo B<|WL.cQ c fn to WL.ak):=by obtain⟨Å,Ä,F,b⟩:=G;refine PE.imp (D4 x cl Å F (Â.mono hk) b .nil S) λh H Q q=>dB (yk (o:=o) T.symm A D d i (n:=1) λp ws e=>by cases e;rfl h H Q q) λp l R q=>eM p l R (Rq.mono (au.refl _) q λy Ã v z l t E J=>?_);obtain⟨a,w,fs,N,Á,P,I,s,u,K⟩:=Ã v _ l t E J;exact sA a w fs N Á P<|K [] z s u Gr.refl<|M
def Wz:∀Z(ws:List VW),WL.aa t WL.ak Z=.ok ws->ws.length+1=2:=λa w z=>by rw[cx iz a w z]
def Vz:∀Z(ws:List VW),WL.aa t (WL.aa u WL.ak) Z=.ok ws->ws.length+1=3:=λa w z=>by rw[cx (cx iz) a w z]
def Ep(v:B.K=X.K)(p:Ñ j X.A)(r:XW X B)(s:ķ X.K c C)(cl:ĝ X.K C)(G:oR X.prog X.w X.K X.mg X.base k C g m ps (ĵ X.K n fn))(w:PE X o (lo B to))(t:PA X (e::es) (Ď B á))(q:∀Z ws,á Z=.ok ws->ws.length+1=n:=by first|exact Wz|exact Vz)(hk:k<=j:=by decide)(a:WL.hJ c=[fl]:=by rfl)(h:(m==fl)=O:=by decide)(i:SE X e es:=by rfl)(d:BT X pos es:=by rfl)(u:eval (.Call (.Attribute o m å) (e::es) [] pos) X.env=(do
  let l <-eval o X.env
  standAt å.atName let(f,first)<-holding [l] (getMethod l m pl)callWith pos f first (backTo pos<|starEach (e::es) X.env) (backToKw pos<|keywordEach [] X.env)):=by rfl):PE X (.Call (.Attribute o m å) (e::es) [] pos) (lo B<|WL.cQ c fn to á):=by obtain⟨Å,x,F,b⟩:=G;exact PE.imp (qW w cl Å F (p.mono hk) b .nil t i d u)<|yk (o:=o) v.symm r s a h q
end
section
variable{K:W.Frag}{st:Stmt}
def XU{m:Nat}(D:Ϸ K nm st)(j:∀nm v,W.nsIn K mainGlobals nm=L (L v)->mg nm=L v)(g:∀(kV c i:Value)(an:Option Addr)(d ct:Value)(us:List Value),us.length=ps.length->bindArgs (W.fnOf nm nm (bh st) (aC st) (aj st) .none kV c i an d ct) ⟨us,[]⟩=pure (ps.zip us)):Š P w K mg base ē k nm ps [] (Ğ K m λ_=>.b):=D.Ľ j g λf o F=>⟨λl H Q E a=>by obtain⟨_,_,_,_,_,h⟩:=a;exact h.elim,λA b s H e us l Q E r n p g q a=>by obtain⟨_,_,_,_,_,h⟩:=a;exact h.elim⟩
end
section
variable{X:Cx}{B:Bx}
def vv(hN:X.N.Nodup)(p:PE X e (lo B te))(hi:X.N[i]?=L x:=by rfl)(m:Loc X.env.scope x:=by first|exact Or.inl rfl|exact Or.inr rfl)(k:FL X x:=by first|exact .inl rfl|exact .inr rfl|assumption):PS X (.AugAssign (.Name x pos') .Add e pos) (â B<|WL.aN i<|WL.Ì WL.zK (WL.dA i) te):=PS.imp (LD hN hi m p UQ k) λD n H c=>by
 obtain⟨d,F,R,q⟩:=c;have q:=Rq.bind<|Oq.ø q;unfold WL.dA at q;split at q;.rename_i w l;obtain⟨v,s,j⟩:=R.va i w l;have q:=Rq.bind (show Rq B d F ((te d).bind λy=>WL.zK w y) _ from q);refine⟨v,s,d,F,R,Rq.mono (au.refl _) q λy f v2 t r o u h=>?_⟩;cases w with
 |int a=>cases y with|int b=>simp only[RW]at j h;subst j h;exact⟨a,b,M,M,(show∀g A z,_ from f) _ t r (o.set<|by simp[RW]) u.f⟩|_=>exact False.elim f
 |_=>exact False.elim f
 .exact q.elim
def EY(hN:X.N.Nodup)(p:PE X e (lo B te))(hi:X.N[i]?=L x:=by rfl)(m:Loc X.env.scope x:=by first|exact Or.inl rfl|exact Or.inr rfl)(k:FL X x:=by first|exact .inl rfl|exact .inr rfl|assumption):PS X (.AugAssign (.Name x pos') .Sub e pos) (â B<|WL.aN i<|WL.Ì WL.pZ (WL.dA i) te):=PS.imp (LD hN hi m p VQ k) λD n H c=>by
 obtain⟨d,F,R,q⟩:=c;have q:=Rq.bind<|Oq.ø q;unfold WL.dA at q;split at q;.rename_i w l;obtain⟨v,s,j⟩:=R.va i w l;have q:=Rq.bind (show Rq B d F ((te d).bind λy=>WL.pZ w y) _ from q);refine⟨v,s,d,F,R,Rq.mono (au.refl _) q λy f v2 t r o u h=>?_⟩;cases w with
 |int a=>cases y with|int b=>simp only[RW]at j h;subst j h;exact⟨a,b,M,M,(show∀g A z,_ from f) _ t r (o.set<|by simp[RW]) u.f⟩|_=>exact False.elim f
 |_=>exact False.elim f
 .exact q.elim
def Hz(p:B.K=X.K)(h:PE X e (lo B te))(n:∀b,isTrue e X.env b=(do let v <-b;standAt e.pos;holding [v] (truthy v)):=by intro _;rfl):PT X e (ď B<|WL.tL te):=PT.imp (V2 h n) λl H Q d=>by
 obtain⟨k,F,R,q⟩:=d;have q:=Rq.bind q;refine⟨k,F,R,Rq.mono (au.refl _) q λy i v t g f s j=>?_⟩;cases y with|l ws=>
 have o:∀c:List V,Ê B.K g ws c->c.isEmpty=ws.isEmpty:=λc r=>by have:=r.length;cases ws<;>cases c<;>first|rfl|simp at this
 simp only[RW]at j;obtain⟨a,c,rfl,m,r⟩:=j;refine⟨!ws.isEmpty,.inl ⟨c,p▸f.rb.sub.seq m,by rw[o c r]⟩,(show∀w u,_ from i) t g f s⟩|_=>exact False.elim i
end
section
open Classical in noncomputable def ī(F H:Hp)(l:List Addr):Hp:=λx=>if x∈l then H x else F x
def iq{l:List Addr}{x:Addr}(h:x∈l):ī F H l x=H x:=Ð h
def bB{l:List Addr}{x:Addr}(h:x∉l):ī F H l x=F x:=Õ h
end
section
variable{B:Bx}
abbrev oG(B:Bx)(H:Hp)(l:List Addr):Bx:=⟨B.K,ī B.H0 H l,B.F0,B.xp,B.mono⟩
def RS.Jf(R:RS B Z Ö F H)(t:∀x∈l,F x=Y)(ap:∀(k:Nat)(ws:List VW)x,Z[k]?=L (.w ws)->Ö[k]?=L (L<|.ref x)->x∉l)(ad:∀x∈l,∀(k:Nat)(ks us:List VW),Z[k]?=L (.od ks us)->Ö[k]?≠L (L<|.ref x)):RS (oG B H l) Z Ö F H:=by
 refine⟨⟨R.rb.sub,λx o q=>?_,R.rb.ģ,λx o q=>?_⟩,R.len,R.va,λk ws e=>?_,R.ap,R.dd.via M id (λ_ _ z=>.inl z) (λ_ _ _ e=>⟨e,M⟩) (au.refl _) λk ks us b r s i g d f=>⟨d,?_,g⟩⟩
 .have q:ī B.H0 H l x=L o:=q;by_cases a:x∈l;.rw[iq a]at q;exact q
  .rw[bB a]at q;exact R.rb.base x o q
 .rcases R.rb.fr x o q with z|z;.exact .inl z
  .refine .inr ⟨?_,z.2⟩;show ī B.H0 H l x=Y;rw[bB λa=>by grind];exact z.1
 .refine mv (R.ow k ws e) λb n c h j m p=>?_;refine Ϩ b n c h ?_ m p;show ī B.H0 H l b=Y;rw[bB (ap k ws b e c)];exact j
 .show ī B.H0 H l b=Y;rw[bB λa=>ad b a k ks us s i];exact f
def RS.Hn(R:RS (oG B H l) Z Ö F' H')(i:∀x∈l,B.H0 x=Y)(t:∀x∈l,∃o,H x=L o):RS B Z Ö F' H':=by
 have n:∀{x},ī B.H0 H l x=Y->B.H0 x=Y:=λ{x}z=>by
  by_cases a:x∈l;.exact i x a
  .rw[bB a]at z;exact z
 refine⟨⟨R.rb.sub,λx o q=>?_,R.rb.ģ,λx o q=>?_⟩,R.len,R.va,λk ws e=>?_,R.ap,R.dd.via M id (λ_ _ z=>.inl z) (λ_ _ _ e=>⟨e,M⟩) (au.refl _) λk v w b s y u f c d=>⟨c,n d,f⟩⟩;.refine R.rb.base x o (show ī _ H l x=L o from ?_);rw[bB λa=>by grind];exact q
 .rcases R.rb.fr x o q with z|z;.exact .inl z
  .exact .inr ⟨n z.1,z.2⟩
 .refine mv (R.ow k ws e) λb p g h j m r=>?_;exact Ϩ b p g h (n j) m r
def nu(c:∀x∈l,∃o,H x=L o){x}(h:ī B.H0 H l x=Y):x∉l:=λa=>by obtain⟨o,b⟩:=c x a;rw[iq a,b]at h;cases h
end
def aY{X:Cx}{B:Bx}{c:List Stmt}:ã X c (â B WL.jY):=λb s d H D I a=>by obtain⟨e,F,R,q⟩:=a;exact False.elim q
structure Zb(S:Type)where
 adr:S->Addr
 rel:W.Frag->S->List Addr->Hp->Hp->Prop
 mono:∀{K s l F H F' H'},rel K s l F H->au F F'->(∀x∈l,∀o,H x=L o->H' x=L o)->rel K s l F' H'
 there:∀{K s l F H},rel K s l F H->∀x∈l,∃o,H x=L o/\NF o/\∀xs,o≠.t xs
 val:S->VW
 fz:∀{K s l F H a od Ç},rel K s l F H->(∀x∈l,F x=Y)->F a=L (.dK Ç)->rel K s l (upd F a<|zD od Ç) (upd H a<|zD od Ç)th:∀{K s l F H a od Ç},rel K s l F H->(∀x∈l,F x=Y)->F a=L (zD od Ç)->rel K s l (upd F a<|.dK Ç) (upd H a<|.dK Ç)rw:∀{K s l F H F'},rel K s l F H->au F F'->(∀x∈l,∀o,H x=L o->F' x=L o)->RW K F' (val s) (.ref<|adr s)
structure RX(Å:Zb S)(B:Bx)(s:S)(l:List Addr)(Z:Ws)(Ö:L2.St)(F H:Hp):Prop where
 rs:RS (oG B H l) Z Ö F H
 fr:∀x∈l,F x=Y/\B.H0 x=Y
 re:Å.rel B.K s l F H
def Ŷ(Å:Zb S)(B:Bx)(D:Ends)(F:Hp):OX S->Prop|.n Ô s'=>∀a d b e,RX Å B s' e Ô a b d->au F b->D.nx a d|.bk Ô s'=>∀a d b e,RX Å B s' e Ô a b d->au F b->D.bk a d|.ct Ô s'=>∀a d b e,RX Å B s' e Ô a b d->au F b->D.ct a d|.r w s'=>∀v d b e,RB (oG B d e) b d->(∀x∈e,b x=Y/\B.H0 x=Y)->Å.rel B.K s' e b d->au F b->RW B.K b w v->D.rt v d|.x c Ô=>B.xp c Ô F|.b=>False
def Ō(Å:Zb S)(B:Bx)(t:RF S):TS:=λD a H=>∃b F s l,RX Å B s l b a F H/\Ŷ Å B D F (t b s)
section
variable{B:Bx}{X:Cx}
theorem Ŷ.mono(k:au F F'){o}(h:Ŷ Å B D F o):Ŷ Å B D F' o:=by cases o with|n Z s|bk Z s|ct Z s=>exact λa H G l R z=>h _ H G l R<|k.trans z|r w s=>exact λv H G l R r q z=>h v H G l R r q<|k.trans z|x c Z=>exact B.mono c Z F _ k h|b=>exact h
theorem RX.there(R:RX Å B s l Z Ö F H):∀x∈l,∃o,H x=L o:=λx a=>let⟨o,h,_⟩:=Å.there R.re x a;⟨o,h⟩
def EG(c:∀x∈l,∃o,H x=L o)(b:RB (oG B H l) F' H'):∀x∈l,∀o,H x=L o->H' x=L o:=λx a o q=>b.base x o (by show ī _ H l x=L o;rw[iq a];exact q)
def TB(c:∀x∈l,∃o,H x=L o)(k:∀x∈l,∀o,H x=L o->H' x=L o):oG B H l=oG B H' l:=by
 have:ī B.H0 H l=ī B.H0 H' l:=by
  funext x;by_cases a:x∈l;.obtain⟨o,b⟩:=c x a;rw[iq a,iq a,b,k x a o b]
  .rw[bB a,bB a]
 simp [oG,this]
def WE(b:∀x∈l,∃o,H x=L o)(f:∀x∈l,F x=Y)(g:au B.F0 F)(c:RB (oG B H l) F' H'):∀x∈l,F' x=Y:=λx a=>by cases e:F' x with|none=>rfl|some o=>
 rcases c.fr x o e with z|⟨z,_⟩;.have:=g x o z;rw[f x a]at this;cases this
 .have z:ī _ H l x=Y:=z;obtain⟨u,d⟩:=b x a;rw[iq a,d]at z;cases z
def RX.next(R:RX Å B s l Z Ö F H){b a}(c:RS (oG B H l) b a F' H')(k:au F F'):RX Å B s l b a F' H':=by have d:=EG R.there c.rb;refine⟨?_,λx e=>⟨WE (B:=B) R.there (λy f=>(R.fr y f).1) R.rs.rb.ģ c.rb x e,(R.fr x e).2⟩,Å.mono R.re k d⟩;rw[<-TB R.there d];exact c
def XW.Jf(e:XW X B)(d:∀x∈l,B.H0 x=Y)(b:∀x∈l,∃o,H x=L o):XW X (oG B H l):=λa g h i f F c R q=>e _ _ _ _ f F c (R.Hn d b) q
variable{st:Stmt}{Ò:List Stmt}
def GX(R:RX Å B s l Z Ö F H)(q:Ŷ Å B D F (WL.qt t Z s)):Oq (oG B H l) D F (t Z):=by unfold WL.qt at q;cases e:t Z with|n Ô|bk Ô=>rw[e]at q;exact λa d b g k=>q _ _ _ l (R.next g k) k|ct Ô=>rw[e]at q;exact λa d b g k=>q _ d b l (R.next g k) k|r w=>rw[e]at q;intro v d b f k r;have h:=EG R.there f;refine q v _ b l (by rw[<-TB R.there h];exact f) (λx i=>⟨WE (B:=B) R.there (λy j=>(R.fr y j).1) R.rs.rb.ģ f x i,(R.fr x i).2⟩) (Å.mono R.re k h) k r|x c Ô|b=>rw[e]at q;exact q
def QX(e:B.K=X.K)(a:XW X B)(h:∀B',B'.K=X.K->XW X B'->PS X st (â B' t)):PS X st (Ō Å B<|WL.qt t):=by intro b f d H D I⟨c,F,s,l,R,q⟩;exact h (oG B H l) e (XW.Jf a (λx a=>(R.fr x a).2) R.there) _ _ _ H D I ⟨c,F,R.rs,GX R q⟩
def iU(h:PS X st (Ō Å B t1)):ã X [st] (Ō Å B t1):=cZ h
def Dw(i:PS X st (Ō Å B t1))(m:ã X Ò (Ō Å B t2)):ã X (st::Ò) (Ō Å B<|WL.vu t1 t2):=ã.imp (bx i m) λD g H a=>by refine Sg a λb F s l R q=>Vn b F s l R ?_;have q:Ŷ Å B D F (match t1 b s with|.n _ _=>t2 _ _|o=>o):=q;cases e:t1 b s with|n Ô s'=>rw[e]at q;exact λd n f j h k=>Vn _ f s' j h<|Ŷ.mono k q|bk Ô s'|ct Ô s'|r w s'|x c Ô|b=>rw[e]at q;exact q
end
section
variable{B:Bx}{X:Cx}
def RX.î(R:RX Å B s l Z Ö F H)(e:WL.qM Å.adr Å.val j Z s=L ő):au F (ī F H l)/\RS B ő Ö (ī F H l) H:=by
 have r:=R.there;have k:au F (ī F H l):=λx o q=>by rw[bB λz=>by rw[(R.fr x z).1]at q;cases q];exact q
 have c:RS B Z Ö F H:=R.rs.Hn (λx a=>(R.fr x a).2) r;have C:RB B (ī F H l) H:=⟨λx o q=>by
  by_cases a:x∈l;.rw[iq a]at q;exact q
  .rw[bB a]at q;exact c.rb.sub x o q,c.rb.base,c.rb.ģ.trans k,λx o q=>by
  by_cases a:x∈l;.rw[iq a]at q;refine iQ (Å.there R.re x a) λu D Á _=>?_;rw[D]at q;cases q;exact .inr ⟨(R.fr x a).2,Á⟩
  .rw[bB a]at q;exact c.rb.fr x o q⟩;have out:∀{b:Addr},(oG B H l).H0 b=Y->b∉l:=λ{b}z=>nu (B:=B) r z;have A:RS B Z Ö (ī F H l) H:=by
  refine⟨C,c.len,λi w q=>?_,λi ws q=>?_,c.ap,c.dd.via M id (λ_ _ z=>.inl z) (λ_ _ _ q=>⟨q,M⟩) k λi G J b Ä E h S N Ã=>⟨?_,Ã,S⟩⟩;.obtain⟨v,f,g⟩:=c.va i w q;exact⟨v,f,g.keep k⟩
  .refine mv (R.rs.ow i ws q) λb vs f g Â h4 h5=>?_;refine mv (c.ow i ws q) λp m d g2 n Q P=>?_;rw[f]at d;cases d;exact Ϩ b m f (by rw[bB (out Â)];exact g) n Q<|P.keep k
  .refine mJ (R.rs.dd.od i G J E) λp y d _ n _=>?_;have d:Ö[i]?=L (L<|.ref p):=d;have h:Ö[i]?=L (L<|.ref b):=h;rw[h]at d;cases d;rw[bB (out n)];exact N
 refine⟨k,?_⟩;unfold WL.qM at e;split at e
 .rename_i b I;split at e
  .rename_i T;cases e;subst T;obtain⟨v,f,g⟩:=A.va j _ I;subst g;have K:Ö.set j (L<|.ref<|Å.adr s)=Ö:=by
    apply List.ext_getElem?;intro i;by_cases t:j=i;.subst t;rw[ĳ (Ĵ.mp f).1,f]
    .rw[ą t]
   have:=A.set (i:=j) (w:=Å.val s) (v:=.ref<|Å.adr s) (Å.rw R.re k λx a o q=>by rw[iq a];exact q);rw[K]at this;exact this
  .cases e
 .cases e
open Classical in theorem RX.back(R:RX Å B s l Z Ö F H){i c d}(j:RS B i Ö c d)(g:Gr (ī F H l) H c d):∃b,Gr F H b d/\(∀x o,c x=L o->x∉l->b x=L o)/\RX Å B s l Z Ö b d:=by
 let b:Hp:=λx=>if x∈l then Y else c x;have e:∀{x:Addr},x∈l->b x=Y:=λh=>Ð h;have jA:∀{x:Addr},x∉l->b x=c x:=λh=>Õ h;have f:Gr F H b d:=⟨λx o q=>by
 have a:x∉l:=λz=>by rw[(R.fr x z).1]at q;cases q
 rw[jA a];exact g.f x o (by rw[bB a];exact q),g.h,λx o q n=>by
 by_cases a:x∈l;.exact e a
 .rw[jA a];exact g.nf x o q<|by rw[bB a];exact n⟩;have sub:au b c:=λx o q=>by grind
 have k:RB (oG B H l) b d:=⟨sub.trans j.rb.sub,R.rs.rb.base.trans g.h,R.rs.rb.ģ.trans f.f,λx o q=>by
 by_cases a:x∈l;.rw[e a]at q;cases q
 .rcases j.rb.fr x o (sub x o q)with z|⟨z,n⟩;.exact .inl z
  .exact .inr ⟨by show ī B.H0 H l x=Y;rw[bB a];exact z,n⟩⟩;exact⟨b,f,λx o q a=>by rw[jA a];exact q,R.next (R.rs.grow f k) f.f⟩
def HM{D v}(R:RX Å B s l Z Ö F H)(e:WL.xT Å.adr Å.val j tt Z s=.ok v)(h:∀a b,Gr F H b a->RX Å B s l Z Ö b a->D v a):ď B tt Ö H D:=by
 unfold WL.xT at e;split at e;.rename_i d i;obtain⟨k,m⟩:=R.î i;refine⟨_,_,m,?_⟩;rw[e];intro a b R2 c;exact iQ (R.back R2 c) λn f _ g=>h _ _ f g
 .cases e
def Ŷ.SJ{r a b}(h:Ŷ Å B D F (WL.Iz r a b)):∃v,r=.ok v/\Ŷ Å B D F (if v=U then a else b):=by cases r with
|ok v=>cases v with|true|false=>exact⟨_,M,h⟩
|x c|b=>exact(h).elim
def Ru(i:PT X c (ď B tt))(e:ã X ss (Ō Å B t1))(h:ã X ss' (Ō Å B t2)):PS X (.If c ss ss' pos) (Ō Å B<|WL.ϻ (WL.xT Å.adr Å.val j tt) t1 t2):=PS.imp (IA i e h) λD d H a=>by refine Sg a λb F s l R q=>fy (Ŷ.SJ q) λv k q=>HM R k λn g m f=>?_;cases v with|true|false=>exact⟨b,g,s,l,f,Ŷ.mono m.f q⟩
end
section
variable{B:Bx}{X:Cx}
def HW(R:RX Å B s l Z Ö F H){b d e}(g:Gr (ī F H l) H b e)(sub:au b e)(h:∀y o,b y=L o->y∉l->d y=L o):∀a xs,ü B.K b a xs->ü B.K d a xs:=λa xs q=>by
 have c:∀{o},b a=L o->(o=.t xs\/∃ob u,o=.î ob u)->a∉l:=λ{o}q z j=>by
  obtain⟨u,k,m,i⟩:=Å.there R.re a j;have f:=sub a o q;rw[g.h a u k]at f;cases f;rcases z with rfl|⟨ob,n,rfl⟩;.exact i _ M
  .exact m
 rcases q with(q|⟨o,q⟩)|q;.exact .inl (.inl<|h a _ q<|c q<|.inl rfl)
 .exact .inl (.inr ⟨o,h a _ q<|c q<|.inr ⟨_,_,M⟩⟩)
 .exact .inr q
def FG(R:RX Å B s l Z Ö F H){a b c}(g:Gr (ī F H l) H a c)(sub:au a c)(h:∀y o,a y=L o->y∉l->b y=L o){w:VW}{v}(p:WL.plain w=U)(r:RW B.K a w v):RW B.K b w v:=RW.less (HW R g sub h) w v p r
set_option tactic.hygienic true in
def ZT(hN:X.N.Nodup)(r:PE X e (lo B te))(hi:X.N[i]?=L x:=by rfl)(h:Loc X.env.scope x:=by first|exact Or.inl rfl|exact Or.inr rfl)(hs:swapsWith e (L<|.Name x pos') pos.line X.env=pure O:=by rfl)(d:FL X x:=by first|exact .inl rfl|exact .inr rfl|assumption):PS X (.Assign [.Name x pos'] e pos) (Ō Å B<|WL.Qg Å.adr Å.val j i te):=PS.imp (pT hN hi h r hs d) λD m H a=>by
 obtain⟨A,F,s,l,R,q⟩:=a;unfold WL.Qg at q;split at q
 .rename_i t y;obtain⟨k,o⟩:=R.î y;split at q
  .rename_i w g;split at q;.rename_i hw;refine⟨_,_,o,?_⟩;rw[g];intro v z C R2 c u;obtain⟨p,f,n,b⟩:=R.back R2 c;have r2:=FG R c R2.rb.sub n hw u;exact q _ z p l ⟨b.rs.set r2,b.fr,b.re⟩ f.f
   .exact(q).elim
  .exact False.elim q
 .exact False.elim q
end
section
variable{B:Bx}
def RX.write(R:RX Å B s l Z Ö F H){x}(f:x∈l){o}(n:Å.rel B.K s' l F (upd H x o)):RX Å B s' l Z Ö F (upd H x o):=by
 have i:=R.there;have m:∀(k:Nat)(ws)(y:Addr),Z[k]?=L (.w ws)->Ö[k]?=L (L<|.ref y)->y∉l:=λk ws y a c=>by refine mJ (R.rs.ow k ws a) λb _ d _ j _=>?_;rw[c]at d;cases d;exact nu (B:=B) i j
 have nd:∀y∈l,∀(k:Nat)(g h),Z[k]?=L _->Ö[k]?≠L (L<|.ref y):=λy e k g h a c=>by refine mJ (R.rs.dd.od k g h a) λb _ d _ j _=>?_;rw[c]at d;cases d;exact nu (B:=B) i j e
 exact⟨((R.rs.Hn (λy e=>(R.fr y e).2) i).away o (R.fr x f).1 (R.fr x f).2 (λk ws a c=>m k ws x a c f) λk g h a=>nd x f k g h a).Jf (λy e=>(R.fr y e).1) m nd,R.fr,n⟩
end
open Classical in noncomputable def ŀ(l:List Addr)(H:Hp):Hp:=λx=>if x∈l then Y else H x
def SQ{l H x}(h:x∈l):ŀ l H x=Y:=Ð h
def kX{l H x}(h:x∉l):ŀ l H x=H x:=Õ h
def Jd(Å:Zb S)(K:W.Frag)(n:Nat)(f:List VW->S->OX S):Sp:=λh H Q E=>∃F ws s l,au F H/\Ê K F ws h/\ws.length=n/\Å.rel K s l F H/\(∀x∈l,F x=Y)/\match f ws s with|.r w s'=>∀v d b e,au F b->au b d->au (ŀ l H) d->(∀x∈e,b x=Y/\ŀ l H x=Y)->Å.rel K s' e b d->(∀a o,b a=L o->F a=L o\/ŀ l H a=Y/\NF o)->RW K b w v->Q v d|.n _ s'=>∀d b e,au F b->au b d->au (ŀ l H) d->(∀x∈e,b x=Y/\ŀ l H x=Y)->Å.rel K s' e b d->(∀a o,b a=L o->F a=L o\/ŀ l H a=Y/\NF o)->Q .n d|.x c _=>∀C g d b,au F b->au b d->au (ŀ l H) d->(∀a o,b a=L o->F a=L o\/ŀ l H a=Y/\NF o)->XR K b c C g->E (.ref C) g d|_=>False
section
variable{K:W.Frag}
def EV{x d st f fd N ps k m n}{fn:List VW->S->OX S}(t)(Fn:đ K x d st f fd)(Sc:Î N ps (aj st))(hn:N.length=n)(p:ps.length=m)(a0:WL.runM n t=fn)(a8:ps.length<=N.length)(h:∀g A b s H E B,B.K=K->Ñ k (A.deeper<|envOfC d (aj st) s.heap.objs.size f g)->XW (fA (ò P w) P w K mg base N d (aj st) f g A b s H E) B->PassesOwn (model P w) (fA (ò P w) P w K mg base N d (aj st) f g A b s H E).A (fA (ò P w) P w K mg base N d (aj st) f g A b s H E).env (fA (ò P w) P w K mg base N d (aj st) f g A b s H E).xe->ã (fA (ò P w) P w K mg base N d (aj st) f g A b s H E) (aC st) (Ō Å B t)):ä P w K mg base (ò P w) (k+1) f fd ps (Jd Å K m fn):=by
 subst hn p a0;obtain⟨oc,od,kV,b1,pm,an,g,ct,a9,rfl,lk,a5⟩:=Fn.ex;refine uM lk a5 Sc (λvs H Q E Ã=>by obtain⟨F,ws,_,_,_,r,hl,_⟩:=Ã;rw[<-r.length];exact hl) λA b s H vs Q E hr _ Ã=>?_;obtain⟨F,ws,th,l,sm,r,hl,re,hF,p⟩:=Ã;let B0:Bx:=⟨K,ŀ l H,F,λ_ _ _=>False,λ_ _ _ _ _ h=>h⟩;let Â:Bx:=B0.pF (λc _ X=>∀C I i j,au X j->RB B0 j i->XR K j c C I->E (.ref C) I i) λc Z X F2 s h C I i j R=>h C I i j<|s.trans R;have e0:ī (ŀ l H) H l=H:=by
  funext y;by_cases G:y∈l;.rw[iq G]
  .rw[bB G,kX G]
 have R0:RX Å Â th l (ws.map .v++List.replicate (N.length-ws.length) .o) (L2.start N vs) F H:=⟨(RS.start (N:=N) sm r<|by omega).box (B':=oG Â H l) M e0 M,λy G=>⟨hF y G,SQ G⟩,re⟩;refine⟨_,h g A b s H E Â M hr (λa6 b0 H1 s1 Z X c R1 xp e C I T fl t Á=>jx t<|xp C I H1 X (au.refl _) (R1.rb.box M M) Á) Di,_,F,th,l,R0,?_⟩;have bs:∀{j i:Hp}{u:List Addr},RB (oG Â i u) j i->(∀y∈u,j y=Y/\Â.H0 y=Y)->au (ŀ l H) i/\∀a o,j a=L o->F a=L o\/ŀ l H a=Y/\NF o:=λ{j i u}D fr=>⟨λy o q=>by
 have G:y∉u:=λz=>by rw[show ŀ l H y=Y from(fr y z).2]at q;cases q
 exact D.base y o (by show ī (ŀ l H) i u y=L o;rw[bB G];exact q),λy o q=>by
 rcases D.fr y o q with z|⟨z,nf⟩;.exact .inl z
 .have G:y∉u:=λz2=>by rw[(fr y z2).1]at q;cases q
  have z:ī (ŀ l H) i u y=Y:=z;rw[bB G]at z;exact .inr ⟨z,nf⟩⟩;unfold WL.runM at p;cases e:t (ws.map .v++List.replicate (N.length-ws.length) .o) th with|r w R=>rw[e]at p;exact λv i j u D fr Ä k r'=>p v i j u k D.sub (bs D fr).1 fr Ä (bs D fr).2 r'|n Ô R=>rw[e]at p;exact λa7 i j u J k=>p i j u k J.rs.rb.sub (bs J.rs.rb J.fr).1 J.fr J.re (bs J.rs.rb J.fr).2|bk Ô R|ct Ô R=>rw[e]at p;exact p.elim|x c Ô=>rw[e]at p;exact λC I i j k D Á=>p C I i j k D.sub D.base D.fr Á|b=>rw[e]at p;exact p.elim
end
section
variable{B:Bx}
def RX.out(R:RX Å B s l Z Ö F H)(k1:au F F')(k2:au F' H')(k3:au (ŀ l H) H')(t:∀a o,F' a=L o->F a=L o\/ŀ l H a=Y/\NF o):RS B Z Ö F' H'/\∀a,ŀ l H a=Y->B.H0 a=Y:=by
 have g:=R.there;have c:RS B Z Ö F H:=R.rs.Hn (λy S=>(R.fr y S).2) g;have n:∀a,ŀ l H a=Y->B.H0 a=Y:=λa z=>by
  by_cases p:a∈l;.exact(R.fr a p).2
  .rw[kX p]at z;exact c.rb.base.free z
 have tj:∀{b:Addr}{o:HO},H b=L o->F b=Y->b∉l->F' b=Y/\H' b=L o:=λ{b o}r Ã m=>by refine⟨?_,k3 b o<|by rw[kX m];exact r⟩;cases e:F' b with|none=>rfl|some u=>
   rcases t b u e with z|⟨z,_⟩;.rw[Ã]at z;cases z
   .rw[kX m,r]at z;cases z
 refine⟨⟨⟨k2,λx o q=>k3 x o ?_,c.rb.ģ.trans k1,λa o q=>?_⟩,c.len,λi w q=>?_,λi ws q=>?_,c.ap,c.dd.via M id (λ_ _ z=>.inl z) (λ_ _ _ q=>⟨q,M⟩) k1 λi D E b Â C h N J K=>?_⟩,n⟩;.rw[kX λz=>by rw[(R.fr x z).2]at q;cases q];exact c.rb.base x o q
 .rcases t a o q with z|⟨z,T⟩;.exact c.rb.fr a o z
  .exact .inr ⟨n a z,T⟩
 .obtain⟨v,f,k⟩:=c.va i w q;exact⟨v,f,k.keep k1⟩
 .refine mv (c.ow i ws q) λb G f k P Q I=>?_;refine mJ (R.rs.ow i ws q) λA _ d _ j _=>?_;rw[f]at d;cases d;have:=tj Q k<|nu (B:=B) g j;exact Ϩ b G f this.1 P this.2<|I.keep k1
 .refine mJ (R.rs.dd.od i D E C) λA _ d _ j _=>?_;have h:Ö[i]?=L (L<|.ref b):=h;rw[h]at d;cases d;have:=tj N J<|nu (B:=B) g j;exact⟨this.1,K,this.2⟩
def RX.hand(R:RX Å B s l Z Ö F H)(k1:au F F')(k2:au F' H')(k3:au (ŀ l H) H')(fr:∀x∈l',F' x=Y/\ŀ l H x=Y)(n:Å.rel B.K s' l' F' H')(r:∀a o,F' a=L o->F a=L o\/ŀ l H a=Y/\NF o):RX Å B s' l' Z Ö F' H':=by
 obtain⟨p,t⟩:=R.out k1 k2 k3 r;have j:=R.there;have k:∀{b}{o},H b=L o->b∉l->b∉l':=λ{b o}q m z=>by have:=(fr b z).2;rw[kX m,q]at this;cases this
 refine⟨p.Jf (λx c=>(fr x c).1) (λi ws x h e=>?_) λx c i u v h e=>?_,λx c=>⟨(fr x c).1,t x (fr x c).2⟩,n⟩;.refine mv (R.rs.ow i _ h) λb _ d _ g f _=>?_;rw[e]at d;cases d;exact k f<|nu j g
 .refine mv (R.rs.dd.od i u v h) λb _ d _ g f _=>?_;rw[e]at d;cases d;exact k f (nu j g) c
end
theorem JG :∀{fs:List (Str×V)}{n:Nat},(fs.map (·.1)).Nodup->fs[n]?=L (f,v)->fs.lookup f=L v
|[],_,_,e=>by simp at e|(g,u)::fs,0,_,e=>by grind|(g,u)::fs,n+1,nd,e=>by
 simp only[ņ,Ud]at nd;have a:=by simpa using e
 have b:(f==g)=O:=ϖ.mpr λz=>nd.1<|z▸Ł.mpr ⟨(f,v),List.mem_of_getElem? a,M⟩;simp only[List.lookup,b];exact JG nd.2 a
def KG:∀{fs:List (Str×V)},f∉fs.map (·.1)->fs.lookup f=Y|[],_=>rfl|(g,u)::fs,h=>by grind
section
variable{X:Cx}{B:Bx}
set_option tactic.hygienic true in
def qz(A:X.K=B.K)(E:ķ X.K c C)(cl:ĝ X.K C)(na:bf X.K C fl)(nd:(WL.hJ c).Nodup)(m:(WL.hJ c)[n]?=L fl)(z:PE X o (lo B to))(J:attributeBase o fl X.env (eval o X.env)=eval o X.env:=by rfl):PE X (.Attribute o fl pos) (lo B<|WL.dC c n to):=PE.imp (tR z J) λs H Q f=>by
 obtain⟨p,F,R,q⟩:=f;have q:=Rq.bind q;refine⟨p,F,R,Rq.mono (au.refl _) q λy b v Å I j K h=>?_⟩;unfold WL.Ta at b;split at b
 .rename_i N ws;split at b
  .rename_i d;have d:=eq_of_beq d;subst d;split at b
   .rename_i w l;obtain⟨a,Ã,x,D,rfl,u,i,k,_,r⟩:=h;rw[<-A]at i;cases E.symm.trans i;obtain⟨v1,e,h⟩:=r.get l;rw[Ų,μ]at e;obtain⟨⟨g,v2⟩,G,rfl⟩:=e;have t:g=fl:=by grind
    subst t;exact⟨a,C,x,_,v2,M,j.rb.sub _ _ u,cl,na,JG (by rw[k];exact nd) G,b v2 Å I j K h⟩
   .exact(b).elim
  .exact(b).elim
 .exact(b).elim
def ZY (k:X.K=B.K)(D:XW X B)(E:ķ X.K c C)(g:m∉WL.hJ c)(w:∀Z ws,á Z=.ok ws->ws.length+1=n):∀d H Q,lo B (WL.g9 c fn to á) d H Q->sY X C m (ĵ X.K n fn) [] (lo B to) (Ď B á) d H Q:=by
 intro d H Q⟨Z,F,R,q⟩;have q:=Rq.bind q;refine⟨Z,F,R,Rq.mono (au.refl _) q λy b v J l j p r=>?_⟩;by_cases e:WL.Ϝ c y=U
 .rw[Ð e]at b;have b:=Rq.bind b;obtain⟨s,rfl⟩:∃s,y=.i c s:=by
   unfold WL.Ϝ at e;split at e;.rw[eq_of_beq e];exact⟨_,M⟩
   .cases e
  have i:=r;refine Ij i λa Å z A h x o u _ _=>?_;subst h;rw[<-k]at o;cases E.symm.trans o;refine⟨a,z,_,M,j.rb.sub _ _ x,KG (by rw[u];exact g),Z,l,j,?_⟩;cases f:á Z with|b=>rw[f]at b;exact b|x c=>rw[f]at b;exact B.mono c Z F l p.f b|ok ws=>rw[f]at b;exact λK Ã N G t I=>mx k D G (p.trans t) (.cons (r.keep t.f) I) (by rw[Ĩ];exact w Z ws f) b (by rw[Ξ])
 .rw[Õ e]at b;exact(b).elim
end
section
variable{B:Bx}{X:Cx}{st:Stmt}{Ò:List Stmt}
def Hh(B:Bx)(D:Ends)(F:Hp):OX S->Prop|.r w _=>∀v b a,RB B a b->au F a->RW B.K a w v->D.rt v b|.x c Ô=>B.xp c Ô F|_=>False
def Sh(Å:Zb S)(B:Bx)(t:RF S):TS:=λD a H=>∃b F s l,RX Å B s l b a F H/\Hh B D F (t b s)
theorem Hh.mono(k:au F F'){o:OX S}(h:Hh B D F o):Hh B D F' o:=by cases o with|r w s=>exact λv H G a z r=>h v H G a (k.trans z) r|x c Z=>exact B.mono c Z F _ k h|_=>exact h
def SR(a:RB (oG B H l) F H)(fr:∀x∈l,F x=Y/\B.H0 x=Y):RB B F H:=by
 refine⟨a.sub,λx o q=>?_,a.ģ,λx o q=>?_⟩;.exact a.base x o (by show ī _ H l x=L o;rw[bB λz=>by grind];exact q)
 .rcases a.fr x o q with z|⟨z,b⟩;.exact .inl z
  .have z:ī _ H l x=Y:=z;rw[bB λc=>by grind]at z;exact .inr ⟨z,b⟩
def UX(m:PS X st (Ō Å B t1))(p:ã X Ò (Sh Å B t2)):ã X (st::Ò) (Sh Å B<|WL.vu t1 t2):=ã.imp (bx m p) λD h H b=>by refine Sg b λd F s l R q=>Vn d F s l R ?_;have q:Hh B D F (match t1 d s with|.n Ô s'=>t2 Ô s'|o=>o):=q;cases a:t1 d s with|n Ô s'=>rw[a]at q;exact λe n g f j k=>Vn Ô _ s' f j<|Hh.mono k q|bk Ô s'|ct Ô s'=>rw[a]at q;exact q.elim|r w s'=>rw[a]at q;exact λv n g f i fr t k r=>q v _ _ (SR i fr) k r|x c Ô|b=>rw[a]at q;exact q
end
section
variable{B:Bx}
def RS.blank(R:RS B Z Ö F H):RS B (List.replicate Z.length .o) Ö F H:=by
 have no:∀{i:Nat}{b},(List.replicate Z.length Sl.o)[i]?=L b->b=.o:=λ{i b}e=>by grind
 refine⟨R.rb,by rw[Xh];exact R.len,λi w e=>(nomatch no e),λi ws e=>(nomatch no e),λi j ws h a _ e _ _ _=>(nomatch no e),λi d c e=>(nomatch no e),λi j d c g f a _ e _ _ _=>(nomatch no e),λi e=>nomatch no e⟩
end
section
variable{K:W.Frag}
abbrev O6(K:W.Frag)(a:Str->Option Value):Prop:=∀nm v,W.nsIn K mainGlobals nm=L (L v)->a nm=L v
end
def Zu(K:W.Frag)(ta:TE):TE:=λb H Q=>ta b H λx a=>∃h y,x=.ref h/\xb K a h y/\Q (.str y) a
def QV{X e pos ta k}(Á:Ñ k X.A)(Ã:PE X e ta):PE X (.FormattedValue e (-1) Y pos) (Zu X.K ta):=by
 intro f s z H Q I h;refine Nx (ß (Ã f s z H _ I h) λu v j=>?_);obtain⟨x,S,c,Â,a,y,rfl,⟨C,dx,t,P,D,g,J,A,_⟩,q⟩:=j;cases Â;obtain⟨⟨Å,vs,p,m,o,l,g5,Ä⟩,_⟩:=c.Û a _ P;obtain⟨_,i,r,B,N,G,n,w⟩:=c.Û t _ A;obtain⟨tk,rfl⟩:∃tk,i=[.str y tk]:=by cases r with|cons a b=>cases b with|nil=>obtain⟨tk,rfl⟩:=a;exact⟨tk,M⟩
 obtain⟨od,T⟩:∃od,W.InstAt v.heap a Å C od:=by
  rcases g with g|⟨d,K,g,R⟩;.exact⟨Y,p,m,by unfold W.notCls;rw[l],by rw[o,g];exact trivial⟩
  .obtain⟨od,E⟩:=fj<|c.Û d _ R;exact⟨L od,p,m,by unfold W.notCls;rw[l],by rw[o,g];exact E⟩
 exact LV (tk:=tk) D (by have:=Á.un;show X.A.units+_<_;omega) c.ć T l (by rw[Ä,J]) ⟨B,n,N,G,w⟩ ⟨.str y,S,c.tok _,⟨_,M⟩,q⟩
def ϧ(K:W.Frag)(ws:List V)(H:Hp):Prop:=∃n h y,ws=[.int n,.ref h]/\n.natAbs.log2<100/\xb K H h y
def ϧ.mono{K}(ws)(H)(b)(o)(c:H b=Y)(q:ϧ K ws H):ϧ K ws (upd H b o):=by obtain⟨n,h,y,e,a,d⟩:=q;exact⟨n,h,y,e,a,d.via λ_ _ _=>ar c _ _ _⟩
def IU{Z H Q K e d n f y}(q:e.length<=1000)(s:d.length<=1000)(r:Z[1]?=L (L<|.int n))(l:n.natAbs.log2<100)(m:Z[2]?=L (L<|.ref f))(j:xb K H f y)(k:∀z,z.length<=6000000->Q (.str z) H):tJ [tC<|.str e,Mg<|ee 1,tC<|.str d,Zu K<|ee 2] Str.empty Z H Q:=by
 have C:Str.empty.length=0:=rfl;have u:6000000<=sizeLine:=by decide
 have B:y.length<=5000000:=by obtain⟨_,_,_,_,_,_,_,_,z⟩:=j;exact z
 have h:Part (tC<|.str e) Z H:=lR q;have g:Part (Mg<|ee 1) Z H:=tT r l;have i:Part (tC<|.str d) Z H:=lR s;generalize tC (.str e)=t1 at h⊢;generalize Mg (ee 1)=t2 at g⊢;generalize tC (.str d)=t3 at i⊢;refine h _ λa x=>?_;have p:(Str.empty++a).length=Str.empty.length+a.length:=Uh ..;refine⟨a,M,by omega,g _ λb t=>?_⟩;have o:(Str.empty++a++b).length=(Str.empty++a).length+b.length:=Uh ..;refine⟨b,M,by omega,i _ λc A=>?_⟩;have v:(Str.empty++a++b++c).length=(Str.empty++a++b).length+c.length:=Uh ..;refine⟨c,M,by omega,.ref f,m,f,y,M,j,?_⟩;have w:(Str.empty++a++b++c++y).length=(Str.empty++a++b++c).length+y.length:=Uh ..;exact⟨y,M,by omega,by omega,k _<|by omega⟩
section
variable{K:W.Frag}
def C0{i o p a b c st f C v k t u}(Fn:đ K "__init__" i st f v)(S:Î [a,b,c] [a,b,c] (aj st))(B:p≠o)(Â:t.length<=1000)(h2:u.length<=1000)(h:∀j A g s H E,Ñ k (A.deeper<|envOfC i (aj st) s.heap.objs.size f j)->ã (fA ē P w K mg base [a,b,c] i (aj st) f j A g s H E).Ga (aC st) (Oe (sZ<|xG C<|ia (ee 0)<|ia (tJ [tC<|.str t,Mg<|ee 1,tC<|.str u,Zu K<|ee 2] Str.empty) xF)<|Oe (Lk C (ee 0) (ee 1) o)<|Ap C (ee 0) (ee 2) p)):ä P w K mg base ē (k+1) f v [a,b,c] (Za C [o,p] 6000000<|ϧ K):=by refine Fn.ok S λÃ H Q E l=>by obtain⟨e,ws,_,r,x,_⟩:=l;rw[r,Ĩ,x];rfl λj A g s H Ã Q E Ä l=>?_;obtain⟨e,ws,T,r,x,R,⟨n,J,y,G,I,Á⟩,q⟩:=l;subst r G;refine⟨_,h j A g s H E Ä,?_⟩;refine⟨.ref e,M,IU Â h2 M I M Á λz Å=>⟨e,Y,T,z,M,R,λD X nt=>?_⟩⟩;refine⟨.int n,M,.ref e,M,e,_,M,ai,λd N m=>?_⟩;refine⟨.ref J,M,.ref e,M,e,d,[(o,.int n)],_,M,ai,by rw[ag m,ai],m,by simp,by simp[List.lookup,ϖ.mpr B],?_⟩;have:=q D _ d X Å (by rwa[ag m]at N) m;rw[Mz m,Xt];exact this
end
noncomputable abbrev Hc(b:V)(r:Addr):List (Str×V):=[("book",b),("floors",.ref r)]
def zw{b r}:(Hc b r).lookup ("floors":Str)=L (V.ref r):=rfl
structure Jw(K:W.Frag)(s:Rn)(F H:Hp)(C dx:Addr)(b:V)(vs:List V):Prop where
 ns:ķ K "Run" C
 at_:F s.a=L (.i C dx<|Hc b s.r)bo:RW K F s.book b
 ro:H s.r=L (.l vs)rs:Ê K F s.ė vs
def Iy(K:W.Frag)(s:Rn)(l:List Addr)(F H:Hp):Prop:=∃C a b c,l=[s.r]/\Jw K s F H C a b c
def Ļ:Zb Rn where
 adr:=Rn.a;rel:=Iy;val:=Rn.val;mono:=λů k h=>by obtain⟨C,dx,b,vs,el,R⟩:=ů;subst el;exact⟨C,dx,b,vs,M,R.ns,k _ _ R.at_,R.bo.keep k,h _ (by simp) _ R.ro,R.rs.keep k⟩
 there:=λů x hx=>by obtain⟨C,dx,b,vs,el,R⟩:=ů;subst el;rw[Ň.mp hx];exact⟨_,R.ro,trivial,λ_ z=>nomatch z⟩
 fz:=λ{K s l F H a od Ç}ů hF e=>by
  obtain⟨C,dx,b,vs,el,R⟩:=ů;subst el;have n1:s.r≠a:=λz=>by have:=hF s.r (by simp);rw[z,e]at this;cases this
  have n3:s.a≠a:=λz=>by have:=R.at_;rw[z,e]at this;cases this
  exact⟨C,dx,b,vs,M,R.ns,by rw[ag n3];exact R.at_,R.bo.fz e,by rw[ag n1];exact R.ro,R.rs.fz e⟩
 th:=λ{K s l F H a od Ç}ů hF e=>by
  obtain⟨C,dx,b,vs,el,R⟩:=ů;subst el;have n1:s.r≠a:=λz=>by have:=hF s.r (by simp);rw[z,e]at this;cases this
  have n3:s.a≠a:=λz=>by have:=R.at_;rw[z,e]at this;cases this
  exact⟨C,dx,b,vs,M,R.ns,by rw[ag n3];exact R.at_,R.bo.th e,by rw[ag n1];exact R.ro,R.rs.th e⟩
 rw:=λ{K s l F H F'}ů k h=>by obtain⟨C,dx,b,vs,el,R⟩:=ů;subst el;unfold WL.Rn.val;simp only[RW,Ê];exact⟨s.a,C,dx,Hc b s.r,M,k _ _ R.at_,R.ns,M,List.cons_ne_nil _ _,b,_,M,R.bo.keep k,.ref s.r,_,M,⟨s.r,vs,M,ÿ.of (h _ (by simp) _ R.ro),R.rs.keep k⟩,M⟩
section
variable{B:Bx}{X:Cx}
def BW{K}(h:Iy K s l F H):RW K F s.Le (.ref s.a):=by obtain⟨C,a,b,d,c,R⟩:=h;exact⟨_,C,a,_,M,R.at_,R.ns,M,List.cons_ne_nil _ _,b,_,M,R.bo,_,_,M,M,M⟩
set_option tactic.hygienic true
def RX.view(R:RX Ļ B s l Z Ö F H){a}(e:WL.qM Rn.a Rn.Le j Z s=L a):RS (oG B H l) a Ö F H:=by
 unfold WL.qM at e;split at e
 .rename_i b f;split at e;.rename_i d;cases e;subst d;obtain⟨v,c,g⟩:=R.rs.va j _ f;subst g;have:=R.rs.set (i:=j)<|BW R.re;rw[set_same c]at this;exact this
  .cases e
 .cases e
def SX(r:B.K=X.K)(o:XW X B)(hN:X.N.Nodup)(m:∀B',B'.K=X.K->XW X B'->PE X e (lo B' te))(hi:X.N[i]?=L x:=by rfl)(b:Loc X.env.scope x:=by first|exact Or.inl rfl|exact Or.inr rfl)(hs:swapsWith e (L<|.Name x pos') pos.line X.env=pure O:=by rfl)(g:FL X x:=by first|exact .inl rfl|exact .inr rfl|assumption):PS X (.Assign [.Name x pos'] e pos) (Ō Ļ B<|WL.vt Rn.a Rn.Le j i te):=by
 intro a u c H D I⟨z,F,s,l,R,q⟩;refine pT hN hi b (m (oG B H l) r<|o.Jf (λx b=>(R.fr x b).2) R.there) hs g a u c H D I ?_;unfold WL.vt at q;split at q
 .rename_i f t;split at q;.rename_i w h;refine⟨f,F,R.view t,?_⟩;rw[h];intro v y n k d p;have R2:=R.next (R.rs.grow d k.rb) d.f;exact q _ y n l ⟨R2.rs.set p,R2.fr,R2.re⟩ d.f
  .exact(q).elim
 .exact(q).elim
set_option tactic.hygienic false
def He(Å:Zb S)(B:Bx)(a:Xa S):TA:=λb H Q=>∃d F s l ws,RX Å B s l d b F H/\a d s=.ok ws/\∀f e c,RX Å B s l d b c e->Gr F H c e->Ê B.K c ws f->Q f e
def sC:PA X [] (He Ļ B WL.La):=PA.imp bS λa H Q⟨b,F,s,l,ws,R,e,h⟩=>by cases e;exact h _ H F R Gr.refl M
def jK{α a}{r:Res α}{f:α->Res a}{y}(h:r.bind f=.ok y):∃x,r=.ok x/\f x=.ok y:=by cases r with|ok x=>exact⟨x,M,h⟩|_=>cases h
def xi(y:B.K=X.K)(t:∀B',B'.K=X.K->PE X e (lo B' te))(p:PA X es (He Ļ B a))(hs:SE X e es:=by rfl):PA X (e::es) (He Ļ B<|WL.Ĺ te a):=by intro pos g i b H Q I⟨d,F,s,l,ws,R,q,h⟩;obtain⟨w,m,q⟩:=jK q;obtain⟨j,o,q⟩:=jK q;cases q;refine aG (t (oG B H l) y) p hs _ _ i b H Q I ⟨d,F,R.rs,?_⟩;rw[m];exact λv A u r f x=>⟨d,u,s,l,_,R.next r f.f,o,λn z k R2 c r2=>h _ _ k R2 (f.trans c) ⟨v,n,M,x.keep c.f,r2⟩⟩
def Q4(R:RX Ļ B s l Z Ö F H){j D N}(g:Gr (ī F H l) H j N)(h:∀y o,j y=L o->y∉l->D y=L o){w:VW}{v}(p:WL.Yn w=U)(t:WL.Ek s.ė=U)(r:RW B.K j w v):RW B.K D w v:=by
 cases w with|l ws=>
  have p:ws.all WL.isInt=U:=p;simp only[RW]at r⊢;obtain⟨b,c,rfl,d,u⟩:=r;have m:∀{ws:List VW}{c:List V}{G:Hp},ws.all WL.isInt=U->Ê B.K j ws c->Ê B.K G ws c:=λ{ws}=>by induction ws with|nil=>intro c G _ r;exact r|cons w ws ih=>intro c G p r;obtain⟨v,n,rfl,k,Å⟩:=r;rw[Yf,ł]at p;cases w with|int i=>exact⟨v,n,M,k,ih p.2 Å⟩|_=>cases p.1
  refine⟨b,c,M,?_,m p u⟩;obtain⟨C,P,Q,J,I,S⟩:=R.re;have Ã:j s.r=L (.l J):=g.f _ _ (by rw[iq (by rw[I];simp)];exact S.ro);have x:∀{o},j b=L o->(o=.l c\/∃ob,o=.î ob (.l c))->b∉l:=λ{o}q z K=>by
   rw[I]at K;cases Ň.mp K;rw[Ã]at q;cases q;rcases z with z|⟨_,z⟩;.cases z;have E:=S.rs;cases A:s.ė with|nil=>rw[A]at t;cases t|cons f fs=>rw[A]at t E;obtain⟨v,n,rfl,k,_⟩:=E;cases f with
 |t J=>obtain⟨a,c,rfl,_⟩:=k;cases ws with|nil=>cases u|cons w ws=>rw[Yf,ł]at p;obtain⟨v,n,e,k,_⟩:=u;cases w with|int i=>cases k;cases e|_=>cases p.1
  |_=>cases t
   .cases z
  rcases d with(d|⟨o,d⟩)|d;.exact .inl (.inl<|h _ _ d<|x d<|.inl rfl)
  .exact .inl (.inr ⟨o,h _ _ d<|x d<|.inr ⟨_,M⟩⟩)
  .exact .inr d|_=>cases p
set_option tactic.hygienic true in
def EM(Ã:B.K=X.K)(G:PE X e (lo B te))(D:PA X es (He Ļ B a))(hs:SE X e es:=by rfl):PA X (e::es) (He Ļ B<|WL.Lf j te a):=by
 intro pos i r b H Q I⟨t,F,s,l,ws,R,q,h⟩;unfold WL.Lf at q;split at q
 .rename_i f d;split at q
  .rename_i w p;split at q;.rename_i hw;obtain⟨c,A,q⟩:=jK q;cases q;obtain⟨k,E⟩:=R.î d;refine aG G D hs _ _ r b H Q I ⟨f,_,E,?_⟩;rw[p];intro v P N R2 g Å;obtain⟨y,o,x,C⟩:=R.back R2 g;exact⟨t,y,s,l,c,C,A,λz J n K m u=>h _ J n K (o.trans m) ⟨v,z,M,(Q4 R g x hw.1 hw.2 Å).keep m.f,u⟩⟩
   .cases q
  .cases q
 .cases q
end
section
variable{B:Bx}{X:Cx}
set_option tactic.hygienic true in
def WH(hK:B.K=X.K)(hp:PassesOwn (model X.prog X.w) X.A X.env X.xe)(hc:X.calm=U)(hi:∀B',B'.K=X.K->PI X tg e (ŭ B' it))(hg:PG X tg (L2.ax k))(hb:ã X body (Ō Å B b))(hs:∀x,foldedSetIterable e X.env x=pure x:=by intro _;rfl):PS X (.For tg e body [] pos) (Ō Å B<|WL.sF it k b):=by
 intro u sh K H D I⟨Â,F,s,l,R,q⟩;unfold WL.sF at q;split at q
 .rename_i g ex;refine xW hp hc (hi (oG B H l) hK) hg hb hs u sh K H D I ⟨Â,F,R.rs,?_⟩;rw[ex];intro J H0 Ä R0 g0 wk;refine⟨λj m d z=>m=g.length-j/\j<=g.length/\∃f i p t,RX Å B p t f d i z/\au Ä i/\Ŷ Å B D i (WL.kv k b (g.drop j) f p),⟨g.length,M,Ś _,Â,Ä,s,l,R.next R0 g0.f,au.refl _,by rw[Yd];exact Ŷ.mono g0.f q⟩,?_⟩;rintro j m d z⟨rfl,hj,f,i,p,t,y,Q,h⟩;by_cases r:j<g.length;.rw[Pc r]at h;obtain⟨go,yl⟩:=wk.go j g[j] (ν r) i z Q y.rs.rb.sub;refine .inr ⟨go,_,λa N h2=>⟨g.length-(j+1),by omega,M,r,h2⟩,λv N hy=>?_⟩;obtain⟨Ã,T,r2⟩:=yl v N hy;have R2:RX Å B p t f d Ã N:=y.next (T.rs _ _ _ y.rs) T.same;refine⟨f.set k<|.v g[j],Ã,p,t,⟨R2.rs.set r2,R2.fr,R2.re⟩,?_⟩;have h:Ŷ Å B D i (match b (f.set k<|.v g[j]) p with|.n a s2=>WL.kv k b (g.drop<|j+1) a s2|.ct a s2=>WL.kv k b (g.drop<|j+1) a s2|.bk a s2=>.n a s2|o=>o):=h;have A:au i Ã:=T.same;cases C:b (f.set k<|.v g[j]) p with|n a s2|ct a s2=>rw[C]at h;exact λn Á G S P E=>⟨a,G,s2,S,P,(Q.trans A).trans E,Ŷ.mono (A.trans E) h⟩|bk a s2=>rw[C]at h;exact λn Á G S P E=>(show∀d H' F' l',_ from h) n Á G S P<|A.trans E|r w s2|x c a=>rw[C]at h;exact Ŷ.mono (D:=D) A h|b=>rw[C]at h;exact h
  .have ei:j=g.length:=by omega
   subst ei;rw[Zh]at h;exact .inl ⟨wk.stop i z Q y.rs.rb.sub,(show∀d H' F' l',_ from h) d z i t y<|au.refl _⟩
 .exact False.elim q
end
section
variable{B:Bx}{X:Cx}{st:Stmt}
set_option tactic.hygienic true
def V0(Å:B.K=X.K)(hx:XW X B)(Á:ķ X.K "Run" C)(Ä:m∉WL.hJ "Run")(cl:ĝ X.K C)(ho:PE X o (ee j))(ha:PA X (e::es) (He Ļ B a))(hn:∀Z s ws,a Z s=.ok ws->ws.length+1=n)(a0:∀t,PA X (e::es) t->PE X (.Call (.Attribute o m å) (e::es) [] Ó) (sY X C m (Jd Ļ X.K n fn) [] (ee j) t))(hs:swapsWith (.Call (.Attribute o m å) (e::es) [] Ó) Y pos.line X.env=pure O:=by rfl):PS X (.Expr (.Call (.Attribute o m å) (e::es) [] Ó) pos) (Ō Ļ B<|WL.cT j fn a):=by
 intro E sh h H D I⟨Z,F,s,l,R,q⟩;refine dc (a0 _ ha) hs E sh h H D I ?_;unfold WL.cT at q;split at q
 .rename_i b eb;split at q
  .rename_i P;subst P;split at q
   .rename_i ws ew;obtain⟨v,h1,Q⟩:=R.rs.va j _ eb;have Q:v=.ref s.a:=Q;subst Q;obtain⟨C',dx,b,us,el,S⟩:=R.re;have:=S.ns;rw[Å]at this;cases Á.symm.trans this;refine⟨_,h1,s.a,dx,_,M,R.rs.rb.sub _ _ S.at_,KG (by exact Ä),Z,F,s,l,ws,R,ew,?_⟩;intro vs H1 F1 g g1 r1;rw[Ξ];refine⟨λCv i k=>∃J f c d,Cv=.ref J/\RS B d h f k/\B.xp c d f/\XR X.K f c J i,⟨F1,.id s.a::ws,s,l,g.rs.rb.sub,.cons (by simp only[RW])<|Å▸r1,by rw[Ĩ];exact hn Z s ws ew,Å▸g.re,λx hx=>(g.fr x hx).1,?_⟩,?_⟩;.cases y:fn (.id s.a::ws) s with|n d G=>rw[y]at q;exact λk f N p A z fr Ã K=>(show∀a5 k f N,_ from q) h k f N (g.hand p A z fr (Å▸Ã) K)<|g1.f.trans p|r w G=>rw[y]at q;exact λv k f N p A z fr Ã K r=>q h k f N (g.hand p A z fr (Å▸Ã) K)<|g1.f.trans p|x c d=>rw[y]at q;intro J i k f p A z K Â;have q:B.xp c Z F:=q;exact⟨J,f,c,Z,M,(g.out p A z K).1,B.mono c Z F f (g1.f.trans p) q,Â⟩|bk d G=>rw[y]at q;exact False.elim q|ct d G=>rw[y]at q;exact False.elim q|b=>rw[y]at q;exact False.elim q
    .rintro u G e' C' i T k t⟨J,f,c,d,ec,R',xp,Â⟩;cases ec;exact hx u h k G d f c R' xp e' C' i (L T) .none t Â
   .exact False.elim q
  .exact False.elim q
 .exact False.elim q
def W0(h:PS X st (Lz<|lo B te)):ã X [st] (Sh Ļ B<|WL.Vj j te):=ã.imp (cZ h) λD c H⟨i,F,s,l,R,q⟩=>by
 unfold WL.Vj at q;split at q
 .rename_i e f;split at q;.rename_i w b;obtain⟨k,d⟩:=R.î f;refine⟨_,_,d,?_⟩;rw[b];exact λv g m R2 a r2=>q v g _ R2.rb (k.trans a.f) r2
  .exact(q).elim
 .exact(q).elim
set_option tactic.hygienic false
end
section
variable{B:Bx}{X:Cx}{st:Stmt}
set_option tactic.hygienic true in
def TX{ec cs}(b3:"Broken"∉cs)(hB:B.K=X.K)(hx:XW X B)(hr:Ñ 39 X.A)(hs:X.stack=X.env::X.outer)(hf:X.env.frame=L X.env.locals)(hN:X.N.Nodup)(hi:X.N[i]?=L n)(hl:X.env.scope.names.lookup n=L .local)(c9:X.N[ci]?=L cn)(c3:X.env.scope.names.lookup cn=L .local)(b7:i≠ci)(h0:0≠ci)(g1:Gl X x1/\X.mg x1=L (.ref A1))(g2:Gl X x2/\X.mg x2=L (.ref A2))(g3:Gl X x3/\X.mg x3=L (.ref A3))(g4:Gl X x4/\X.mg x4=L (.ref A4))(hc:∀nm Ca,ExcAt X.K nm Ca->nm∈cs->W.exmAny X.K (.ref Ca) [.ref A1,.ref A2,.ref A3,.ref A4]=L U/\Ÿ X.K Ca/\∃r,ko X.K Ca r)(hR:∀C,ķ X.K "Run" C->ĝ X.K C/\bf X.K C "floors")(hg:Gl X xB)(hm:X.mg xB=L (.ref CB))(q:ko X.K CB (L<|.ref fI))(b6:W.typeIn X.K (.ref fI)=L (.type "function"))(b9:ExcAt X.K "Broken" CB)(G:X.Fn ē k fI fd ps (Za CB ["at","why"] 6000000<|ϧ X.K))(hk:k+1<=39)(hb:Binds X.K fd ps [])(c2:∀E pn B',B'.K=X.K->XW (X.tri E pn) B'->PS (X.tri E pn) st (sZ<|Af X.K "list" qS (Ln X.K (ee 0) "floors")<|ia (lo B' te) xF))(d1:è x1:=by decide)(d2:è x2:=by decide)(d3:è x3:=by decide)(d4:è x4:=by decide)(d5:è xB:=by decide)(d6:è n:=by decide)(d7:è cn:=by decide)(d8:(n=="__classdict__")=O:=by decide)(d9:(cn=="__classdict__")=O:=by decide):PS X (.Try [st] [.ExceptHandler (L<|.Tuple [.Name x1 p1,.Name x2 p2,.Name x3 p3,.Name x4 p4] ec tp) (L n) [.Raise (L<|.Call (.Name xB np) [.Name cn q1,.Name n q2] [] Ó) (L<|.Name n q3) rpos] Ė] [] [] pos) (Ō Ļ B<|WL.yZ cs ci te):=by
 intro g sh Â H D I⟨Z,F,s,l,R,f⟩;refine wpAny_Try_except ?_;unfold WL.yZ at f;split at f;case h_2=>exact False.elim f
 rename_i x m;obtain⟨kz,R1⟩:=R.î m;have e0:Z[0]?=L (.v<|.id s.a)/\x=Z.set 0 (.v s.val):=by
  unfold WL.qM at m;split at m
  .rename_i b eb;split at m;.rename_i hb;cases m;rw[hb]at eb;exact⟨eb,M⟩
   .cases m
  .cases m
 let E':VS:=λe a8=>X.wp (noteFrame e X.env) (λ_ a6=>X.wp (setFlight e Y) (λ_ b2=>X.wp (handleBy e X.env [.ExceptHandler (L<|.Tuple [.Name x1 p1,.Name x2 p2,.Name x3 p3,.Name x4 p4] ec tp) (L n) [.Raise (L<|.Call (.Name xB np) [.Name cn q1,.Name n q2] [] Ó) (L<|.Name n q3) rpos] Ė]) (SP X g D) X.xe b2) X.xe a6) X.xe a8;let B1:Bx:=B.pF (λc b1 F'=>b1=x/\te x=.x c/\au (ī F H l) F') λc b1 F' e4 s h=>⟨h.1,h.2.1,h.2.2.trans s⟩;have xw:XW (X.tri E'<|X.pn++g) B1:=by
  intro c0 K H1 s1 Ã F1 c R2 xp e u j T fl t xr;obtain⟨rfl,c4,kF⟩:=xp;rw[c4]at f;have t2:ù X g K H1 s1 e u j fl T:=t.jh;obtain⟨nm,fs,rfl,ce⟩:=xr.is;dsimp only at f;split at f;case h_2=>exact False.elim f
  rename_i w ew;split at f;case isFalse=>exact False.elim f
  rename_i hw;have hC:nm∈cs:=List.contains_iff_mem.mp hw.2;obtain⟨a9,sk,qe⟩:=hc nm u ce hC;have a:RS B Ã K F1 H1:=R2.box M M M;have c8:Ã[ci]?=L (.v w):=by rw[e0.2,ą h0];exact ew
  obtain⟨v1,c7,c5⟩:=a.va ci w c8;obtain⟨p,rfl,b5⟩:∃p,w=.int p/\p.natAbs.log2<100:=by have:=hw.1;cases w with|int p=>exact⟨p,M,Ei this⟩|_=>cases this
  cases show v1=.int p from c5;obtain⟨e6,e7,e8,e5,a0,Å⟩:=id xr;have nb:nm≠"Broken":=λz=>b3<|z▸hC;obtain⟨⟨nc,a7⟩,Å⟩:=Å;obtain⟨_,t0,y0,a1,a2,a3⟩:=Å.resolve_left λz=>nb z.1;have he:H1 e=Y:=t2.fe.1;have kH:=ar he<|.ext<|excAt e u j;have b8:F1 e=Y:=a.rb.sub.free he;have d0:=ar b8<|.ext<|excAt e u j;refine t2.note hs hf λh' T' _ t3=>t3.og λe3 Ä=>qh (R:=λÁ Hx=>Á=[.int p,.ref e]/\Hx=upd H1 e (.ext<|excAt e u j)) (G:=ϧ X.K) Ä (λQ E h=>IV (X:=X.ă e) (Ä.inv.ă e) g1 g2 g3 g4 (h _ _ (Ä.push _) λ_=>W.exm_tup4 (Ä.push _).inv.ć (Ä.push _).ty (ĺ _ M) a9) d1 d2 d3 d4) hs hf hN hi hl (aG (pV c9 (.inl c3) d7 d9)<|aG (pV hi (.inl hl) d6 d8) bS) ⟨_,by rw[ą b7];exact c7,_,ĳ (by rw[Ä.inv.len];exact(Ĵ.mp hi).1),M,M⟩ ((a7.keep a.rb.sub).keep kH) qe hg hm q b6 G (λws H b o=>ϧ.mono ws H b o) ((hr.ă<|í _).mono hk) hb (by decide) (λÁ Hx zz=>?_) d5 d6;obtain⟨zv,zh⟩:=zz;subst zv zh;refine⟨M,au.refl _,⟨p,e,y0,M,b5,u,j,t0,ai,sk,a0.imp (λz=>z.2) λ⟨d,J,A⟩=>⟨d,_,J,kH _ _<|a.rb.sub _ _ A⟩,a1,kH _ _<|a.rb.sub _ _ a2,a3⟩,λs' e2 d ta y c1 T2 J A t5=>?_⟩;have Ra:=(a.new he<|.ext<|excAt e u j).new J<|.t [.str y];have Rb:=((Ra.new A<|.xd<|List.zip [("at":Str),"why"] [.int p,.ref e]).Lu i).blank;have k3:=d0.trans<|(ar ((a.new he<|.ext<|excAt e u j).rb.sub.free J)<|.t [.str y]).trans<|ar (Ra.rb.sub.free A)<|.xd<|List.zip [("at":Str),"why"] [.int p,.ref e];have a5:(Ã.set i .o).length=Z.length:=by rw[Sf,e0.2,Sf]
  rw[a5]at Rb;have nt:e≠ta:=λw=>by rw[<-w,ai]at J;cases J
  have nd:e≠d:=λw=>by rw[<-w,ag nt,ai]at A;cases A
  have N:upd (upd (upd F1 e<|.ext<|excAt e u j) ta<|.t [.str y]) d (.xd<|List.zip [("at":Str),"why"] [.int p,.ref e]) e=L (.ext<|excAt e u j):=by rw[ag nd,ag nt,ai]
  refine hx g _ _ s' _ _ (.e "Broken" [.int p,.e nm fs]) Rb (B.mono _ _ F _ (kz.trans<|kF.trans k3) f) e2 CB _ (L T2) c1 t5 ⟨b9,[("at",.int p),("why",.ref e)],M,?_,.inr ⟨d,M,ai⟩,⟨nc+1,e,u,j,M,N,a7.keep k3⟩,.inl ⟨M,p,e,y0,M,u,j,t0,N,sk,a0.imp (λz=>z.2) λ⟨d,J,A⟩=>⟨d,_,J,k3 _ _ A⟩,a1,k3 _ _ a2,a3⟩⟩;refine⟨.int p,_,M,by simp only[RW],.ref e,_,M,?_,M⟩;obtain⟨y1,b0,y2,y3,y4,y5⟩:=xr.keep k3;simp only[RW];exact⟨e,u,j,M,N,y1,b0,y2,y3,y4⟩
 have P:=cZ<|c2 E' (X.pn++g) B1 hB xw;refine Ĝ (P [] sh Â H D (I.tri E') ?_) (λfl s' h=>?_) λ_ _ z=>z;.obtain⟨v0,c6,b4⟩:=R.rs.va 0 _ e0.1;cases show v0=.ref s.a from b4;obtain⟨C,j,bb,Á,el,S⟩:=R.re;obtain⟨cl,na⟩:=hR C<|hB▸S.ns;refine⟨.ref s.a,c6,s.a,C,j,_,.ref s.r,M,R.rs.rb.sub _ _ S.at_,cl,na,zw,.inl ⟨M,Á,ÿ.of S.ro⟩,x,ī F H l,R1.box M M M,?_⟩;cases et:te x with|b=>rw[et]at f;exact False.elim f|x c=>exact⟨M,et,au.refl _⟩|ok w=>
   rw[et]at f;dsimp only at f;split at f
   .rename_i hw;intro v H1 F1 R2 gg r1;have a:RS B x Â F1 H1:=R2.box M M M;obtain⟨F2,g2,hk,R3⟩:=R.back a gg;have r2:=FG R gg R2.rb.sub hk hw.1 r1;refine⟨s.r,Á,v,M,M,gg.h _ _ S.ro,by rw[<-S.rs.length];exact Ē hw.2 eP,?_⟩;have hr:s.r∈l:=by rw[el];simp
    refine(show∀e1 H' F' l',_ from f) Â _ F2 l (R3.write hr ?_) g2.f;exact⟨C,j,bb,Á++[v],el,S.ns,g2.f _ _ S.at_,S.bo.keep g2.f,ai,(S.rs.keep g2.f).app<|.one r2⟩
   .exact False.elim f
 .have h:=SP.jh h;cases fl with|next=>exact Tf h|_=>exact h
end
def Kn(K:W.Frag):Sp:=λd H Q E=>∃x C c b g,d=[.ref x,b,g]/\H x=L (.i C c [])/\(ĝ K C/\bf K C "book"/\bf K C "floors")/\∀r a,H r=Y->a x=L (.i C c<|Hc b r)->a r=L (.l [g])->(∀y,y≠x->y≠r->a y=H y)->Q .n a
section
variable{K:W.Frag}
def J0{nm c st f u n0 l m k t B}(Fn:đ K nm c st f u)(N:Î [n0,l,m] [n0,l,m] (aj st))(p:aC st=[t,B])(h:∀j A a s H E X,X=fA (ò P w) P w K mg base [n0,l,m] c (aj st) f j A a s H E->PS X t (Kg K (ee 0) (ee 1) "book")/\PS X B (Kg K (ee 0) (Ut<|ia (ee 2) xF) "floors")):ä P w K mg base (ò P w) (k+1) f u [n0,l,m] (Kn K):=by
 obtain⟨oc,od,Å,Â,pm,an,j,ct,I,rfl,S,q⟩:=Fn.ex;refine uM S q N λÃ H Q E i=>by obtain⟨x,C,o,b,g,e,_⟩:=i;rw[e];rfl λA a s H Ã Q E n _ i=>?_;obtain⟨x,C,o,b,g,e,G,⟨cl,a1,a2⟩,Á⟩:=i;subst e;obtain⟨T,Ä⟩:=h j A a s H E _ M;rw[p];refine⟨_,bx T<|cZ Ä,?_⟩;have J:oQ ("book":Str) b []=[(("book":Str),b)]:=rfl;have D:∀r:Addr,oQ ("floors":Str) (V.ref r) [(("book":Str),b)]=Hc b r:=λ_=>rfl;refine⟨b,M,.ref x,M,x,C,o,[],M,G,cl,a1,by decide,?_⟩;rw[J];refine⟨g,M,show 1<=sizeLine by decide,λr n=>?_⟩;have d:x≠r:=λz=>by rw[<-z,ai]at n;cases n
 refine⟨.ref x,M,x,C,o,[("book",b)],M,by rw[ag d];exact ai,cl,a2,by simp,?_⟩;rw[D];refine Á r _ (by rwa[ag (ö d)]at n) ai (by rw[ag (ö d),ai]) λy v R=>?_;rw[ag v,ag R,ag v]
end
section
variable{X:Cx}{B:Bx}{Ò:List Stmt}
set_option tactic.hygienic true in
def y6(hB:B.K=X.K)(hx:XW X B)(a0:ķ X.K "Run" C)(a5:ĝ X.K C/\bf X.K C "book"/\bf X.K C "floors")(h1:PS X s1 (Lg (MC X C (Kn X.K) []<|Ď B as)<|L2.ax j))(h2:∀B',B'.K=X.K->XW X B'->ã X Ò (Sh Ļ B' t)):ã X (s1::Ò) (â B<|WL.js j as t):=by
 let B1:Bx:=B.pF (λc g F=>B.xp c (List.replicate g.length .o) F) λc g F F' s h=>B.mono c _ F F' s h;have xw:XW X B1:=λÅ l H s g F c R xp e C i T fl t xr=>hx Å l H s _ F c (RS.blank<|R.box M M M) xp e C i T fl t xr;refine ã.imp (bx h1<|h2 B1 hB xw) λD l H a7=>?_;obtain⟨g,F,R,q⟩:=a7;refine⟨g,F,R,?_⟩;unfold WL.js at q;split at q
 .rename_i wb Ä ea;rw[ea];split at q
  .rename_i hh;have a:=Classical.choose_spec hh;intro vs H1 Ã E A r1 x i K Á N;obtain⟨m,o,rfl,Â,rf⟩:∃m o,vs=[m,o]/\RW B.K Ã wb m/\RW B.K Ã Ä o:=by simp only[Ê]at r1;obtain⟨v,r,rfl,h,v',r',rfl,h',rfl⟩:=r1;exact⟨v,v',M,h,h'⟩
   refine⟨λ_ _ _=>False,⟨x,C,i,m,o,M,ai,a5,λr S G a6 P ho=>⟨M,?_⟩⟩,λ_ _ _ _ _ _ _ _ z=>z.elim⟩;have p:r≠x:=λz=>by rw[z,ai]at G;cases G
   have n:r≠i:=λz=>by rw[z,ag N,ai]at G;cases G
   have d:H1 r=Y:=by rw[ag p,ag n]at G;exact G
   let u:Hp:=upd Ã x<|.i C i<|Hc m r;have eH:S=upd (upd (upd H1 i<|.own x) x<|.i C i<|Hc m r) r (.l [o]):=by
    funext b;by_cases b2:b=r;.subst b2;rw[ai,P]
    .rw[ag b2];by_cases Q:b=x;.subst Q;rw[ai,a6]
     .rw[ag Q,ho b Q b2,ag Q]
   have a8:=E.rb.sub.free K;have k2:au Ã u:=ar a8 _;have R2:RS B g l u S:=by have Ra:=(E.Xi Á<|.own x).new (by rw[ag (ö N)];exact K) (.i C i<|Hc m r) trivial;have Rb:=Ra.Xi (by rw[ag p,ag n];exact d)<|.l [o];rw[eH];exact Rb
   have I:u r=Y:=by show upd Ã x _ r=Y;rw[ag p];exact E.rb.sub.free d
   have inl:∀y∈[r],y=r:=λy f=>Ň.mp f;have R3:RS (oG B1 S [r]) g l u S:=by
    refine RS.Jf (R2.box M M M) (λy f=>by rw[inl y f];exact I) (λk ws y e1 e2 f=>?_) λy f k ks us e1 e2=>?_;.obtain⟨b,vs,A,_,_,J,_⟩:=E.ow k ws e1;rw[e2]at A;cases A;rw[inl y f,d]at J;cases J
    .obtain⟨b,vs,A,_,_,J,_⟩:=E.dd.od k ks us e1;rw[e2]at A;cases A;rw[inl y f,d]at J;cases J
   refine⟨g.set j<|.v<|.id x,u,⟨x,r,wb,[Ä]⟩,[r],⟨R3.set (by simp only[RW]),λy f=>⟨by rw[inl y f];exact I,by rw[inl y f];exact E.rb.base.free d⟩,C,i,m,[o],M,hB▸a0,ai,Â.keep k2,P,.one<|rf.keep k2⟩,?_⟩;have a:=a x r;have k3:=A.f.trans k2;cases et:t (g.set j<|.v<|.id x) ⟨x,r,wb,[Ä]⟩with|r w s'=>rw[et]at a;have a:=a;rw[a]at q;exact λv H3 F3 Â k4 r=>q v H3 F3 (Â.box M M) (k3.trans k4) r|x c Ô=>rw[et]at a;obtain⟨a,hl⟩:=a;rw[a]at q;show B.xp c (List.replicate Ô.length .o) u;rw[hl];exact B.mono c _ F u k3 q|n _ _|bk _ _|ct _ _|b=>rw[et]at a;exact a.elim
  .exact(q).elim
 .exact(q).elim
end
section
variable{X:Cx}{B:Bx}
def Jh(y:B.K=X.K)(q:Ñ jr X.A)(u:XW X B)(v:ķ X.K "Run" C)(cl:ĝ X.K C)(G:oR X.prog X.w X.K X.mg X.base k C g m ps (Jd Ļ X.K n fn))(p:PE X o (ee j))(w:PA X (e::es) (He Ļ B a))(r:∀Z s ws,a Z s=.ok ws->ws.length+1=n)(hk:k<=jr:=by decide)(h:m∉WL.hJ "Run":=by decide)(i:SE X e es:=by rfl)(c:BT X Ó es:=by rfl)(x:eval (.Call (.Attribute o m å) (e::es) [] Ó) X.env=(do
  let l <-eval o X.env
  standAt å.atName let(f,first)<-holding [l] (getMethod l m pl)callWith Ó f first (backTo Ó<|starEach (e::es) X.env) (backToKw Ó<|keywordEach [] X.env)):=by rfl)(hs:swapsWith (.Call (.Attribute o m å) (e::es) [] Ó) Y pos.line X.env=pure O:=by rfl):PS X (.Expr (.Call (.Attribute o m å) (e::es) [] Ó) pos) (Ō Ļ B<|WL.cT j fn a):=by obtain⟨Å,z,F,b⟩:=G;exact V0 y u v h cl p w r (λt d=>qW p cl Å F (q.mono hk) b .nil d i c x) hs
def DM{k i a x Ò t p c}(u:B.K=X.K)(v:Ñ jr X.A)(o:XW X B)(hN:X.N.Nodup)(hi:X.N[j]?=L a)(h:Loc X.env.scope a)(Å:Mk X.K C k)(q:ķ X.K "Run" C)(g:ĝ X.K C/\bf X.K C "book"/\bf X.K C "floors")(G:De X.prog X.w X.K X.mg X.base i k ps (Kn X.K))(n:X.mg x=L (.ref C))(r:PA X (e::es) (Ď B á))(w:∀B',B'.K=X.K->XW X B'->ã X Ò (Sh Ļ B' t))(hk:i+1<=jr:=by decide)(m:Gl X x:=by rfl)(f:è x:=by decide)(s:SE X e es:=by rfl)(d:BT X Ó es:=by rfl)(hs:swapsWith (.Call (.Name x p) (e::es) [] Ó) (L<|.Name a c) pos.line X.env=pure O:=by rfl)(l:X.fn a=U\/X.env.scope.names.lookup a=L .local:=by first|exact .inl rfl|exact .inr rfl|assumption):ã X (.Assign [.Name a c] (.Call (.Name x p) (e::es) [] Ó) pos::Ò) (â B<|WL.js j á t):=by exact fy G λy F b=>y6 u o q g (pT hN hi h (qX Å F (v.mono hk) m n b .nil r f s d) hs l) w
def LX{b}(c:ķ X.K "Run" C)(cl:ĝ X.K C)(na:bf X.K C b):∀a,W.nsIn X.K mainGlobals (Str.ofString "Run")=L (L<|.ref a)->ĝ X.K a/\bf X.K a b:=λa h=>by grind
end
def PZ{P w K e b f g k m ps}{Å:Zb S}:ä P w K e b (ò P w) k f g ps (Jd Å K m λ_ _=>.b):=⟨λi H Q E a=>by obtain⟨_,_,_,_,_,_,_,_,_,h⟩:=a;exact h.elim,λA c s H d p i Q E q j l n o a=>by obtain⟨_,_,_,_,_,_,_,_,_,h⟩:=a;exact h.elim⟩
def PQ{P:String->Addr->Prop}{K}:∀nm a,ExcAt K nm a->nm∈[]->P nm a:=λ_ _ _ z=>nomatch z
def rR{P:Addr->Prop}{K c A cs}(e:ExcAt K c A)(p:P A)(h:∀nm a,ExcAt K nm a->nm∈cs->P a):∀nm a,ExcAt K nm a->nm∈c::cs->P a:=λnm a b d=>by
 rcases Ę.mp d with z|z;.subst z;have:=e.2.symm.trans b.2;cases this;exact p
 .exact h _ _ b z
def An{K a b f i nm j g c d e}(x:Ġ K)(h:ExcAt K nm e)(n:ExcAt K j a)(l:ExcAt K g b)(k:ExcAt K c f)(m:ExcAt K d i)(hs:(WL.mw nm j||(WL.mw nm g||(WL.mw nm c||(WL.mw nm d||false))))=U):W.exmAny K (.ref e) [.ref a,.ref b,.ref f,.ref i]=L U:=by simp only[W.exmAny,x.ex _ _ _ _ h n,x.ex _ _ _ _ h l,x.ex _ _ _ _ h k,x.ex _ _ _ _ h m];rw[hs]
def vj:∀Z(s:S)ws,WL.La Z s=.ok ws->ws.length=0:=λZ s ws e=>by cases e;rfl
def yV{d}{a:Xa S}(h:∀Z s ws,a Z s=.ok ws->ws.length=n):∀Z s ws,WL.Ĺ d a Z s=.ok ws->ws.length=n+1:=λZ s ws e=>by obtain⟨w,_,e⟩:=jK e;obtain⟨b,c,e⟩:=jK e;cases e;rw[Ĩ,h Z s _ c]
def UK{d a j}(h:∀Z s ws,a Z s=.ok ws->ws.length=n):∀Z s ws,WL.Lf j d a Z s=.ok ws->ws.length=n+1:=λZ s ws e=>by
 unfold WL.Lf at e;split at e
 .split at e
  .split at e;.obtain⟨c,b,e⟩:=jK e;cases e;rw[Ĩ,h Z s _ b]
   .cases e
  .cases e
 .cases e
section
variable{B:Bx}{X:Cx}{st:Stmt}
def HI{P cs}(Â:B.K=X.K)(Ä:Ñ jr X.A)(H:XW X B)(hN:X.N.Nodup)(Á:X.mg x1=L (.ref A1))(p:X.mg x2=L (.ref A2))(N:X.mg x3=L (.ref A3))(J:X.mg x4=L (.ref A4))(S:∀nm a,ExcAt X.K nm a->nm∈cs->W.exmAny X.K (.ref a) [.ref A1,.ref A2,.ref A3,.ref A4]=L U/\Ÿ X.K a/\∃r,ko X.K a r)(I:ķ X.K "Run" C)(cl:ĝ X.K C)(na:bf X.K C "floors")(w:X.mg xB=L (.ref CB))(q:ko X.K CB (L<|.ref fI))(f:W.typeIn X.K (.ref fI)=L (.type "function"))(j:ExcAt X.K "Broken" CB)(G:Rc X.prog X.w X.K X.mg X.base fI ps (Za CB ["at","why"] 6000000<|ϧ X.K))(d:∀E k B',B'.K=X.K->XW (X.tri E k) B'->PS (X.tri E k) st (sZ<|Af X.K "list" qS (Ln X.K (ee 0) "floors")<|ia (lo B' te) xF))(hs:X.stack=X.env::X.outer:=by rfl)(m:X.env.frame=L X.env.locals:=by rfl)(D:39<=jr:=by decide)(hi:X.N[i]?=L n:=by rfl)(Ã:X.env.scope.names.lookup n=L .local:=by rfl)(e:X.N[ci]?=L cn:=by rfl)(g:X.env.scope.names.lookup cn=L .local:=by rfl)(h:i≠ci:=by decide)(y:0≠ci:=by decide)(t:Gl X x1:=by rfl)(l:Gl X x2:=by rfl)(u:Gl X x3:=by rfl)(T:Gl X x4:=by rfl)(o:Gl X xB:=by rfl)(c:"Broken"∉cs:=by decide)(z:è x1:=by decide)(v:è x2:=by decide)(s:è x3:=by decide)(K:è x4:=by decide)(x:è xB:=by decide)(R:è n:=by decide)(Q:è cn:=by decide)(A:(n=="__classdict__")=O:=by decide)(Å:(cn=="__classdict__")=O:=by decide):PS X (.Try [st] [.ExceptHandler (L<|.Tuple [.Name x1 p1,.Name x2 p2,.Name x3 p3,.Name x4 p4] P tp) (L n) [.Raise (L<|.Call (.Name xB np) [.Name cn q1,.Name n q2] [] Ó) (L<|.Name n q3) rpos] Ė] [] [] pos) (Ō Ļ B<|WL.yZ cs ci te):=by obtain⟨fd,F,b⟩:=G;exact TX c Â H (Ä.mono D) hs m hN hi Ã e g h y ⟨t,Á⟩ ⟨l,p⟩ ⟨u,N⟩ ⟨T,J⟩ S (LX I cl na) o w q f j F (by decide) b d z v s K x R Q A Å
end
def Gs(K:W.Frag)(c:String)(h:List Str)(x dx C:Addr)(F H:Hp)(Q:VK)(E:XK):Res VW->Prop|.ok (.i c' ws)=>c'=c/\∀d a e,au F a->au a d->(∀b o,b≠x->H b=L o->d b=L o)->d x=L (.i C dx e)->a x=Y->(∀b o,a b=L o->F b=L o\/(b=x\/H b=Y)/\NF o)->e.map (·.1)=h->Ê K a ws (e.map (·.2))->Q .n d|.x c=>∀g f d a,au F a->au a d->(∀b o,b≠x->H b=L o->d b=L o)->(∀b o,a b=L o->F b=L o\/(b=x\/H b=Y)/\NF o)->XR K a c g f->E (.ref g) f d|_=>False
def Hk(K:W.Frag)(c:String)(a:List Str)(d:List VW->Res VW):Sp:=λe H Q E=>∃x b C F w v,e=[.ref x,v]/\H x=L (.i C b [])/\ĝ K C/\(∀f∈a,bf K C f)/\F x=Y/\au F H/\RW K F w v/\Gs K c a x b C F H Q E (d [w])
section
variable{K:W.Frag}
def G0{nm n st f fd n0 S k Å Â Ã c a g D g1 g2}(Fn:đ K nm n st f fd)(Sc:Î [n0,S] [n0,S] (aj st))(a8:aC st=[Å,Â,Ã])(a0:a≠g)(b0:a≠D)(b1:g≠D)(h:∀I A d s H E X,X=fA (ò P w) P w K mg base [n0,S] n (aj st) f I A d s H E->Ñ k X.A->PS X Å (Kg K (ee 0) (ee 1) a)/\PS X Â (Kg K (ee 0) (s9 X (ĵ K 1 g1) []<|ia (ee 1) xF) g)/\PS X Ã (Kg K (ee 0) (Oj (Ğ K 2 g2) [] (λ_ _ _=>False)<|ia (ee 1)<|ia (Ln K (ee 0) g) xF) D)):ä P w K mg base (ò P w) (k+1) f fd [n0,S] (Hk K c [a,g,D]<|WL.Ky c g1 g2):=by
 refine Bd Fn.ex λoc od b6 b8 pm an I ct b7 b5 lk b4=>?_;subst b5;refine uM lk b4 Sc λvs H Q E R=>by obtain⟨x,G,C,F,w,v,e,_⟩:=R;rw[e];rfl λA d s H vs Q E hr _ R=>?_;refine JM R λx G C F J v e hH cl na hF sm r l=>?_;subst e;obtain⟨X,eX⟩:∃X,X=fA (ò P w) P w K mg base [n0,S] n (aj st) f I A d s H E:=⟨_,M⟩;rw[<-eX];refine Yc (h I A d s H E X eX<|by rw[eX];exact hr) λh1 h2 h3=>?_;rw[a8];have p1:oQ a v []=[(a,v)]:=rfl;have p2:∀v2,oQ g v2 [(a,v)]=[(a,v),(g,v2)]:=λv2=>by simp[oQ,a0]
 have p3:∀v2 v3,oQ D v3 [(a,v),(g,v2)]=[(a,v),(g,v2),(D,v3)]:=λv2 v3=>by simp[oQ,b0,b1]
 have lx:∀N s e Ä B T H',ù X N (L2.start [n0,S] [.ref x,v]) H' s e Ä B .none (L T)->E (.ref Ä) B H'->X.xe (.ref e) s:=λN s e Ä B T H' t q=>by subst eX;exact jx t q
 refine⟨_,bx h1<|bx h2<|cZ h3,?_⟩;refine⟨v,M,.ref x,M,x,C,G,[],M,hH,cl,na a (by simp),by simp,?_⟩;rw[p1];have j:∀{F H:Hp}{o:HO},F x=Y->au F H->au F (upd H x o):=λhF sm b u q=>by rw[ag λz=>by rw[z,hF]at q;cases q];exact sm b u q
 have l:Gs K c [a,g,D] x G C F H Q E ((g1 [J]).bind λp=>match g2 [J,p]with|.ok m=>.ok<|.i c [J,p,m]|_=>.b):=l;refine⟨v,M,E,Ub F [J] (j hF sm) (Ê.one r) M ?_,lx⟩
 cases e1:g1 [J]with|b=>rw[e1]at l;exact l.elim|x ce=>
  rw[e1]at l;intro Ä B H' F' Å Â Ã fr xr;refine l Ä B H' F' Å Â (λb o i q=>Ã b o<|by rw[ag i];exact q) (λb o q=>(fr b o q).imp id λz=>⟨?_,z.2⟩) xr;by_cases i:b=x;.exact .inl i
  .have:=z.1;rw[ag i]at this;exact .inr this|ok p=>
  rw[e1]at l;intro v2 H1 F1 Å Â Ã fr rp;have b2:H1 x=L (.i C G [(a,v)]):=Ã x _ ai;have a6:F1 x=Y:=by cases e:F1 x with|none=>rfl|some o=>
    rcases fr x o e with z|z;.rw[hF]at z;cases z
    .have:=z.1;rw[ai]at this;cases this
  have b3:∀b o,F1 b=L o->F b=L o\/(b=x\/H b=Y)/\NF o:=λb o q=>(fr b o q).imp id λz=>⟨by
   by_cases i:b=x;.exact .inl i
   .have:=z.1;rw[ag i]at this;exact .inr this,z.2⟩;have a7:∀b o,b≠x->H b=L o->H1 b=L o:=λb o i q=>Ã b o (by rw[ag i];exact q);refine⟨.ref x,M,x,C,G,[(a,v)],M,b2,cl,na g (by simp),by simp,?_⟩;rw[p2];have l:Gs K c [a,g,D] x G C F H Q E (match g2 [J,p]with|.ok m=>.ok<|.i c [J,p,m]|_=>.b):=l;refine⟨v,M,.ref x,M,x,C,G,[(a,v),(g,v2)],v2,M,ai,cl,na g (by simp),by simp[List.lookup,ϖ.mpr<|ö a0],Ub F1 [J,p] (j a6 Â) ?_ M ?_⟩;.exact .cons (r.keep Å) (Ê.one rp)
  cases e2:g2 [J,p]with|b|x ce=>rw[e2]at l;exact l.elim|ok m=>
   rw[e2]at l;intro v3 H2 F2 t1 t2 t3 Á rm;have a9:H2 x=L (.i C G [(a,v),(g,v2)]):=t3 x _ ai;have a5:F2 x=Y:=by cases e:F2 x with|none=>rfl|some o=>
     rcases Á x o e with z|z;.rw[a6]at z;cases z
     .have:=z.1;rw[ai]at this;cases this
   refine⟨.ref x,M,x,C,G,[(a,v),(g,v2)],M,a9,cl,na D (by simp),by simp,?_⟩;rw[p3];refine l.2 _ F2 [(a,v),(g,v2),(D,v3)] (Å.trans t1) (j a5 t2) (λb o i q=>?_) ai a5 (λb o q=>?_) M ?_;.rw[ag i];exact t3 b o (by rw[ag i];exact a7 b o i q)
   .rcases Á b o q with z|z;.exact b3 b o z
    .refine .inr ⟨?_,z.2⟩;by_cases i:b=x;.exact .inl i
     .have y:=z.1;rw[ag i]at y;cases e:H b with|none=>exact .inr rfl|some u=>rw[a7 b u i e]at y;cases y
   .exact .cons ((r.keep Å).keep t1) (.cons (rp.keep t1)<|Ê.one rm)
end
section
variable{X:Cx}{B:Bx}
def S1(Ã:X.K=B.K)(hx:XW X B)(Å:Mk X.K C f)(cl:ĝ X.K C)(na:∀f∈fl,bf X.K C f)(a9:fl≠[])(Ä:ķ X.K c C)(a7:WL.hJ c=fl)(G:X.Fn (ò X.prog X.w) k f fd ps (Hk X.K c fl fn))(hr:Ñ (k+1) X.A)(hg:Gl X x)(hm:X.mg x=L (.ref C))(hb:Binds X.K fd ps [])(ha:PA X (e::es) (Ď B á))(hn:∀Z ws,á Z=.ok ws->ws.length=1:=by repeat first|exact iz|apply cx)(a0:è x:=by decide)(he:SE X e es:=by rfl)(S:BT X pos es:=by rfl):PE X (.Call (.Name x p) (e::es) [] pos) (lo B<|WL.qm c fn á):=PE.imp (qX Å G hr hg hm hb .nil ha a0 he S) λr H Q a6=>by refine dB a6 λZ F R q=>?_;have q:=Rq.bind q;refine eM Z F R ?_;cases ea:á Z with|b|x c=>rw[ea]at q;exact q|ok ws=>
 rw[ea]at q;have hl:=hn Z ws ea;obtain⟨w,rfl⟩:∃w,ws=[w]:=by match ws,hl with|[w],_=>exact⟨w,M⟩
 have q:=Rq.bind (show Rq B Z F ((fn [w]).bind λy=>if WL.Ϝ c y=U then Res.ok y else .b) _ from q);intro vs H1 D i g1 r1 x P a j b2;refine fy (cp r1) λv b1 r3=>?_;subst b1;rw[Ξ];have hc:=Nu (C:=C) a j;have I:D x=Y:=i.rb.sub.free a;refine⟨λE h J=>∃Ca d c,E=.ref Ca/\RS B Z r d J/\B.xp c Z d/\XR B.K d c Ca h,?_,λK s e E h T H' t⟨Ca,d,c,ec,R2,xp,Á⟩=>?_⟩
 .refine IM x P C (Ha D) w v M ai cl na ?_ (λb o z=>?_) ?_ ?_;.cases e1:Ha D x with|none=>rfl|some u=>have:=i.rb.sub x _<|p7 e1;rw[a]at this;cases this
  .exact(hc b o<|i.rb.sub b o<|p7 z).2.2
  .rw[Ã];exact RW.one ((Ê.one r3).Mu λb o z=>ZC z)
  .cases ef:fn [w]with|b=>rw[ef]at q;exact q|ok wd=>
    rw[ef]at q;have q:Rq B Z F (if WL.Ϝ c wd=U then Res.ok wd else .b) _:=q;by_cases A:WL.Ϝ c wd=U
    .rw[Ð A]at q;obtain⟨ws,rfl⟩:∃ws,wd=.i c ws:=by
      unfold WL.Ϝ at A;split at A;.rw[eq_of_beq A];exact⟨_,M⟩
      .cases A
     refine⟨M,λJ d g s1 s2 s3 a5 b0 fr l a8=>?_⟩;have N:g≠[]:=λz=>by rw[z]at l;exact a9 l.symm
     obtain⟨m,Â,sj⟩:=yi i a j s2 s3 fr;have fx:jo D d x=Y:=by rw[Fg I];exact b0
     have nf:NF (.i C P g):=by cases g with|nil=>exact(N M).elim|cons _ _=>trivial
     have R3:RS B Z r (upd (jo D d) x<|.i C P g) J:=(i.grow m Â).Py fx (i.rb.base.free a) a5 nf (λ_ z=>nomatch z) λ_ z=>nomatch z;refine⟨M,(show∀v H' F',_ from q) (.ref x) J _ R3 (g1.trans ⟨m.f.trans<|ar fx _,m.h,λb o z n=>?_⟩) ?_⟩;.rw[ag (hc b o z).1];exact m.nf b o z n
     .exact⟨x,C,P,g,M,ai,Ã▸Ä,by rw[a7];exact l,N,(show Ê B.K d ws _ from Ã▸a8).keep<|sj.trans<|ar fx _⟩
    .rw[Õ A]at q;exact q.elim|x c=>rw[ef]at q;intro E h J d s1 s2 s3 fr Á;obtain⟨m,Â,sj⟩:=yi i a j s2 s3 fr;exact sA E (jo D d) c M (i.grow m Â) (B.mono c Z F _ (g1.f.trans m.f) q)<|(Ã▸Á).keep sj
 .cases ec;exact hx K r H' s Z d c R2 xp e E h (L T) _ t (by rw[Ã];exact Á)
end
end WS
namespace L2
section
variable{X:Cx}
def MA:V->List V->Hp->VK->Prop:=λx d H Q=>∃l b a c,x=.ref l/\d=[.ref b]/\H l=L (.l a)/\Rd H b (.l c)/\a.length+c.length<=sizeLine/\Q .n (upd H l<|.l<|a++c)
def LW:CI X "list.extend" MA:=by
 intro k s D H x J v G Q I w m h;refine Ij h λl b B C g i j A E q=>?_;subst g i;cases w;obtain⟨u,rfl,o⟩:=m.one;cases o;obtain⟨z,c,n,r,Å,e⟩:=I.Dy j;obtain⟨K,a,t,r2,y⟩:=A.ok I.Û;have p:=r2.length;have f:c.toArray.size+a.toArray.size<=sizeLine:=by grind
 have d:¬(!c.toArray.isEmpty&&Builtin.List.listTooLong (c.toArray.size+a.toArray.size))=U:=by rw[FZ f,Mq];exact ř
 refine Qd F.slot_list_extend ⟨_,e,M⟩ F.entry_list_extend (F.args_list_extend_2 _ _) (AutoSeq1.list_extend_list_list_0 l c.toArray n b a.toArray t d (by omega)<|by omega) ⟨e,y,.n,_,I.Cy j e (by simp) (r.append r2) ?_,M,q⟩;rw[ϕ];omega
end
end L2
namespace WS
open L2
section
variable{X:Cx}{B:Bx}{st:Stmt}
def XT(E:X.K=B.K)(k:Ph X.K=U)(h:PS X st (sZ<|Af X.K "list" MA (ee i)<|ia (lo B ta) xF)):PS X st (â B<|WL.Jg i ta):=PS.imp h λD j H g=>by refine dB g λd F R q=>?_;have q:Oq B D F (match d[i]? with|some (.w ws)=>WL.ø d (ta d) _|_=>.b):=q;cases e:d[i]? with|none=>rw[e]at q;exact q.elim|some sl=>rw[e]at q;cases sl with|o|v _|od _ _|ob=>exact q.elim|w ws=>
  refine mv (R.ow i ws e) λa u t G A m x=>?_;have q:=Oq.ø q;refine⟨.ref a,t,.inl ⟨M,u,ÿ.of m⟩,d,F,R,Rq.mono (au.refl _) q λw c v I z s f C=>?_⟩
  cases w with|l zs=>
  refine kr C λb y n r o=>?_;subst n;have c:Oq B D F (if ws.length+zs.length<=WL.lim then Out.n _ else .b):=c;by_cases l:ws.length+zs.length<=WL.lim;.rw[Ð l]at c;have p:=f.h a _ m;rw[<-E]at r;exact⟨a,b,u,y,M,M,p,s.rb.sub.rd<|ÿ.here k r,by rw[<-x.length,<-o.length];exact ñ l eP,c j _ z (s.write e t (f.nf a _ m G) A p<|(x.keep f.f).app o) f.f⟩
  .rw[Õ l]at c;exact(c).elim|_=>exact False.elim c
end
end WS
namespace L2
open PySem PySem.Spec PyProof.Rows PySem.W
section
theorem cB.some(x:cB P w H h a o):∃u,h.get? a=L u:=by cases o with|l xs=>obtain⟨_,_,_,_,e⟩:=x;exact⟨_,e⟩|t xs=>obtain⟨_,_,_,o,e,_⟩:=x;exact⟨_,e⟩|dK Ç|dT Ç=>obtain⟨_,_,_,_,o,_,_,e,_⟩:=x;exact⟨_,e⟩|set S n=>exact Sg x λo _ _ _ e _=>⟨_,e⟩|i C dx fs=>exact Bn x λ_ _ _ e _=>⟨_,e⟩|own y=>exact x|xd fs=>obtain⟨_,⟨_,_,_,e,_⟩,_⟩:=x;exact⟨_,e⟩|û lo hi=>obtain⟨_,_,_,e⟩:=x;exact⟨_,e⟩|î ob u=>exact⟨_,x.1⟩|tbl ps|met f y=>exact⟨_,x⟩|tab ps=>rcases x with e|⟨_,_,_,_,_,e,_⟩<;>exact⟨_,e⟩|ext φ=>exact x.2.1
end
def TR{h:Heap}{À m f}(a:h.Ns À m)(b:h.Ns À f):m=f:=by refine ϩ a λo p n l j _ g=>ϩ b λq k i d c _ e=>?_;rw[l]at d;cases d;rw[j]at c;cases c;funext x;rw[<-g,<-e]
section
variable{X:Cx}
def Inv.FO{D m ys È n}(I:Inv X Æ Z H s)(l:s.heap.Ns X.env.locals m)(F:Fr X.base X.env.locals h' m)(N:News X.base X.env.locals h' ((D,listOf È.toArray n)::oK X.base s.heap X.env.locals))(g:∀q∈oK X.base s.heap X.env.locals,q.1<D)(r:Vals ys È)(hz:ys.length<=sizeLine):H D=Y/\Inv X Æ Z (upd H D<|.l ys) {s with heap:=h'}:=by
 have h:=N _<|.head _;have j:s.heap.get? D=Y:=by cases e:s.heap.get? D with|none=>rfl|some o=>exact absurd (g _<|jv h.2.1 h.2.2 e)<|Jb _
 have i:H D=Y:=by cases e:H D with|none=>rfl|some u=>obtain⟨o,z⟩:=(I.Û D u e).some;rw[j]at z;cases z
 have keep:∀b o,b≠X.env.locals->s.heap.get? b=L o->h'.get? b=L o:=λb o d e=>by cases q:X.base.get? b with|some u=>have:=I.bk b u q;rw[e]at this;cases this;exact F.keep b _ q|none=>exact(N (b,o)<|.tail _<|jv d q e).1
 have a:∀b u,H b=L u->b≠D:=λb u e z=>by rw[z,i]at e;cases e
 refine⟨i,I.Uj (g':=s.gens) (t':=s.toks) (d':=s.drawn) (ch:=[]) (λ_ z=>nomatch z) (λb o d _ _ e _=>keep b o d e) (λb o d _ _ e _=>⟨o.slots,keep b o d e⟩) (λb o _ e n=>?_) (λb o _ e=>?_) (λb k e=>?_) (λb o u e=>?_) (λb x e=>⟨#[],?_⟩) (λw p=>?_) (λb u e=>?_) I.bare⟩;.rw[ag λz=>by rw[z,j]at e;cases e];exact n
 .by_cases d:b=X.env.locals;.refine vq F.ns λt _ _ z _=>?_;rw[d];exact⟨t,z⟩
  .exact⟨o,keep b o d e⟩
 .rw[ag (a b _ e)];exact e
 .rw[ag (a b _ e)];exact e
 .rw[ag (a b _ e),e];simp
 .rw[<-TR l p];exact F.ns
 .by_cases d:b=D;.subst d;rw[ai]at e;cases e;exact⟨hz,È,n,r,h.1⟩
  .rw[ag d]at e;refine(I.Û b u e).tj (λc v f q=>keep c v ?_ q) (λc q=>?_) λc k q=>?_
   .intro z;rcases f with f|f;.rw[<-f,z,I.free]at e;cases e
    .rw[z,I.free]at f;cases f
   .rw[ag (a c _ q)];exact q
   .rw[ag (a c _ q)];exact q
end
abbrev Js(K:W.Frag)(H:Hp):List V->List (Int×Int)->Prop:=Paired λv q=>∃a,v=.ref a/\ü K H a [.int q.1,.int q.2]
abbrev gC(h:Heap):List Value->List (Int×Int)->Prop:=Paired λu q=>∃a o n c b,u=.ref a/\h.get? a=L o/\o.cls=.type "tuple"/\o.data=.seq #[.int q.1 c,.int q.2 b] n
theorem sN{X Æ Z H s}(I:Inv X Æ Z H s):∀{vs ps È},Js X.K H vs ps->Vals vs È->gC s.heap È ps|_,_,_,.nil,.nil=>.nil|_,_,_,.cons h t,.cons r rs=>by refine .cons ?_<|sN I t rs;obtain⟨a,rfl,e⟩:=h;cases r;obtain⟨È,c,⟨o,j,i,n,g⟩,_⟩:=I.tuple e;obtain⟨u,l,rfl,⟨b,k⟩,⟨f,d⟩⟩:=vals2 c;subst k d;exact⟨a,o,n,b,f,M,j,i,g⟩
theorem gC.get{h}:∀{È ps},gC h È ps->∀i,i<ps.length->∃a o n c b,È.getD i Value.none=.ref a/\h.get? a=L o/\o.cls=.type "tuple"/\o.data=.seq #[.int (ps.getD i (0,0)).1 c,.int (ps.getD i (0,0)).2 b] n|_,_,.nil,i,hi=>absurd hi<|Ji _|_,_,.cons h t,0,_=>h|_,_,.cons h t,i+1,hi=>by have:=gC.get t i (by grind);simpa using this
theorem gC.len{h}:∀{È ps},gC h È ps->È.length=ps.length|_,_,.nil=>rfl|_,_,.cons _ t=>by simp[gC.len t]
theorem gC.Ww{h}:∀{È ps},gC h È ps->∃fs,KatTups h È fs/\fs.length=ps.length/\∀v∈fs,∃i t,v=Value.int i t
|_,_,.nil=>⟨[],.nil,M,λ_ z=>nomatch z⟩|_,_,.cons h t=>by
 refine Nt h λa o n l m b g f e=>?_;subst b;refine iQ (gC.Ww t) λfs k d j=>⟨_,.cons g f e M k,by simp[d],λv c=>?_⟩;rcases Ę.mp c with rfl|c;.exact⟨_,_,M⟩
 .exact j v c
section
def M0{È ps i j C}(T:gC s.heap È ps)(hi:i<ps.length)(k:j<ps.length)(h:C (WL.ϫ (ps.getD i (0,0))<|ps.getD j (0,0)) s):kas_ask prog w A (tuples' U) È i j C s:=by
 refine Nt (T.get i hi) λa o n u v e p x l=>?_;refine Nt (T.get j k) λz y t m r f c g b=>?_;unfold kas_ask;rw[e,f];refine kat_lt p l c b ?_;show KatLex prog w A U (decide (2<2)) C [(_,_),(_,_)] 0 s;refine kat_cons (Dq<|kat_go (λq=>kat_yes<|kat_cons<|Dq<|kat_go (λd=>kat_yes<|kat_nil ?_) λd=>kat_no ?_) λq=>kat_no ?_)
 .have:WL.ϫ (ps.getD i (0,0)) (ps.getD j (0,0))=O:=by unfold WL.ϫ;rw[Ð q,eq_of_beq d];exact Ũ<|Int.lt_irrefl _
  rw[this]at h;exact h
 .have:WL.ϫ (ps.getD i (0,0)) (ps.getD j (0,0))=decide ((ps.getD i (0,0)).2<(ps.getD j (0,0)).2):=by unfold WL.ϫ;rw[Ð q]
  rw[this]at h;exact kat_one _ _<|lt_int h
 .have:WL.ϫ (ps.getD i (0,0)) (ps.getD j (0,0))=decide ((ps.getD i (0,0)).1<(ps.getD j (0,0)).1):=by unfold WL.ϫ;rw[Õ (by rw[q];simp)]
  rw[this]at h;exact oneLt_int h
theorem tG{È ps G}(T:gC s.heap È ps):∀t,WL.Ψ ps.length t=U->G (WL.Fe (λi j=>WL.ϫ (ps.getD i (0,0))<|ps.getD j (0,0)) t) s->t.kasWp (kas_ask prog w A (tuples' U) È) G s
|.ret p,_,h=>h|.ask i j k,ok,h=>by
 have ok:(decide (i<ps.length)&&decide (j<ps.length)&&WL.Ψ ps.length (k U)&&WL.Ψ ps.length (k O))=U:=ok;simp only[ł,Lb]at ok;refine M0 T ok.1.1.1 ok.1.1.2 ?_;refine tG T (k _) ?_ h;cases WL.ϫ (ps.getD i (0,0)) (ps.getD j (0,0));.exact ok.2
 .exact ok.1.2
end
theorem tH{n c}:∀t,WL.Ψ n t=U->(WL.Fe c t).size=n
|.ret p,h=>eq_of_beq h|.ask i j k,h=>by
 have ok:(decide _&&decide _&&WL.Ψ n _&&WL.Ψ n _)=U:=h;simp  at ok;refine tH (k _) ?_;cases c i j;.exact ok.2
 .exact ok.1.2
theorem EH:∀(l:List Nat){vs È},Vals vs È->Vals (l.map λi=>vs.getD i V.n) (l.map λi=>È.getD i Value.none)|[],_,_,_=>.nil|i::l,vs,È,r=>by refine .cons ?_<|EH l r;simp ;cases e:vs[i]? with|some v=>obtain⟨u,b,a⟩:=r.get e;rw[b];exact a|none=>
   have:È[i]?=Y:=by rw[Gx]at e⊢;rw[<-r.length];exact e
   rw[this];rfl
def u5{X}:bG X (.builtin "sorted") λxs H Q=>∃p vs ps,xs=[.ref p]/\ÿ X.K H p vs/\Js X.K H vs ps/\2<=ps.length/\ps.length<64/\WL.Ψ ps.length (kas_sort ps.length)=U/\∀l,H l=Y->Q (.ref l) (upd H l<|.l<|(WL.Od ps).map λi=>vs.getD i V.n):=by
 intro C s Z H xs us Q I R⟨p,vs,ps,e,r,hp,h2,j,ok,q⟩;subst e;obtain⟨u,rfl,N⟩:=R.one;cases show u=Value.ref p from N;refine iQ (I.list r) λd A pl hz=>?_;have T:=sN I hp A;have Â:=T.len;refine fy (id I.loc) λm h _=>?_;have F:Fr X.base X.env.locals s.heap m:=⟨h,I.bk,ñ I.ok.Κ I.ok.above⟩;refine kat_sorted (vs:=d) F DZ pl.isList (by omega) (by omega) λD e1 g w B f=>?_;have keep:∀b o,b≠X.env.locals->s.heap.get? b=L o->g.get? b=L o:=λb o Á e=>by cases q:X.base.get? b with|some u=>have:=I.bk b u q;rw[e]at this;cases this;exact w.keep b _ q|none=>exact(B (b,o)<|.tail _<|jv Á q e).1
 have x:gC g d ps:=Paired.imp' (λu q⟨a,o,n,Å,S,z1,E,z3,J⟩=>⟨a,o,n,Å,S,z1,keep a o (λz=>by refine xh h λo' es ep y G _=>?_;rw[<-z,E]at y;cases y;rw[J]at G;cases G) E,z3,J⟩) T;refine iQ x.Ww λfs Ä fl fi=>?_;refine kat_kind (T:=.type "int") (s:={s with heap:=g}) Ä (by omega) (λv Ã=>?_) (by decide) ?_;.obtain⟨i,t,rfl⟩:=fi v Ã;exact .now
 .rw[Â];refine tG (s:={s with heap:=g}) x _ ok ?_;refine KasFin.intro w B (.head λq r=>ğ<|f q r) λP c F2 N2=>?_;have k:(WL.Od ps).length=ps.length:=by unfold WL.Od;rw[Qf];exact tH _ ok
  obtain⟨K,I2⟩:=I.FO (ys:=(WL.Od ps).map λi=>vs.getD i V.n) h F2 N2 f (EH _ A) (by rw[Į,k];exact ñ (Nc j)<|by decide);exact hU (.ref D) _ I2 M<|q D K
end L2
namespace WS
open L2
section
variable{X:Cx}{K:W.Frag}
set_option tactic.hygienic true
theorem xX{F}:∀{ws:List VW}{ps vs},WL.Ef ws=L ps->Ê K F ws vs->Js K F vs ps
|[],_,_,e,r=>by cases e;cases r;exact .nil|w::ws,ps,vs,e,r=>by
 obtain⟨v,l,rfl,q,t⟩:=r;unfold WL.Ef at e;split at e;.rename_i h;cases h
 .rename_i a b d h;cases h;obtain⟨j,c,rfl⟩:=μ.mp e;refine .cons ?_<|xX c t;obtain⟨x,m,rfl,f,g⟩:=q;obtain⟨v1,v2,rfl,i,k⟩:=two_of g;cases i;cases k;exact⟨x,M,f⟩
 .cases e
set_option tactic.hygienic false
theorem UD{F}:∀(l:List Nat){ws vs},Ê K F ws vs->Ê K F (l.map λi=>ws.getD i .n) (l.map λi=>vs.getD i V.n)|[],_,_,_=>rfl|i::l,ws,vs,r=>by refine .cons ?_<|UD l r;simp only[Zf];cases e:ws[i]? with|some w=>obtain⟨v,a,b⟩:=r.get e;rw[a];exact b|none=>
   have:vs[i]?=Y:=by rw[Gx]at e⊢;rw[<-r.length];exact e
   rw[this];rfl
def X5:∀xs c,WL.oJ xs≠.x c:=λxs c h=>by
 unfold WL.oJ at h;split at h
 .split at h;.split at h<;>cases h
  .cases h
 .cases h
set_option tactic.hygienic true in
def XX(o:X.K=K):bG X (.builtin "sorted") (Η K WL.oJ):=by
 subst o;refine bG.imp u5 λp H Q d=>kr d λF ws s r q=>?_;unfold WL.oJ at q;split at q
 .rename_i t;split at q
  .rename_i m g;split at q;.rename_i c;simp only[ł,Lb]at c;refine fy (cp r) λv b h=>?_;subst b;refine kr h λa f b k e=>?_;subst b;exact⟨a,f,m,M,s.seq k,Paired.imp' (λv q⟨x,n,j⟩=>⟨x,n,s.tup j⟩)<|xX g e,c.1.1,c.1.2,c.2,λl i=>Ui s q (UD _ e) i⟩
   .exact q.elim
  .exact q.elim
 .exact q.elim
end
section
variable{X:Cx}{B:Bx}
def EJ(h:Ñ j X.A)(G:Š X.prog X.w X.K X.mg X.base (ò X.prog X.w) k x ps ds sp)(g:PA X (e::es) t)(hk:k<=j:=by decide)(d:Gl X x:=by rfl)(c:è x:=by decide)(i:SE X e es:=by rfl)(a:BT X pos es:=by rfl):PE X (.Call (.Name x p) (e::es) [] pos) (s9 X sp [] t):=by obtain⟨f,l,F,m,q,b,_⟩:=G;exact qY F (h.mono hk) d m q b .nil g c i a
def FJ(h:Ñ j X.A)(G:Š X.prog X.w X.K X.mg X.base ē k x ps ds sp)(g:PA X (e::es) t)(hk:k<=j:=by decide)(d:Gl X x:=by rfl)(c:è x:=by decide)(i:SE X e es:=by rfl)(a:BT X pos es:=by rfl):PE X (.Call (.Name x p) (e::es) [] pos) (Oj sp [] (λ_ _ _=>False) t):=by obtain⟨f,l,F,m,q,b,_⟩:=G;exact AG F (h.mono hk) d m q b .nil Qu g c i a
def JJ(s:B.K=X.K)(t:Ñ j X.A)(l:XW X B)(Å:Mk X.K C f)(cl:ĝ X.K C)(na:∀f∈fl,bf X.K C f)(m:ķ X.K c C)(G:De X.prog X.w X.K X.mg X.base k f ps (Hk X.K c fl fn))(r:X.mg x=L (.ref C))(n:PA X (e::es) (Ď B á))(hk:k+1<=j:=by decide)(i:∀Z ws,á Z=.ok ws->ws.length=1:=by repeat first|exact iz|apply cx)(a:WL.hJ c=fl:=by rfl)(g:fl≠[]:=by decide)(q:Gl X x:=by rfl)(h:è x:=by decide)(o:SE X e es:=by rfl)(d:BT X pos es:=by rfl):PE X (.Call (.Name x p) (e::es) [] pos) (lo B<|WL.qm c fn á):=by obtain⟨u,F,b⟩:=G;exact S1 s.symm l Å cl na g m a F (t.mono hk) q r b n i h o d
def Rh(u:B.K=X.K)(l:Ñ j X.A)(q:XW X B)(r:ķ X.K c C)(cl:ĝ X.K C)(G:oR X.prog X.w X.K X.mg X.base k C g m ps (ĵ X.K n fn))(v:PE X o (lo B to))(s:PA X (e::es) (Ď B á))(p:∀Z ws,á Z=.ok ws->ws.length+1=n:=by first|exact Wz|exact Vz)(hk:k<=j:=by decide)(d:m∉WL.hJ c:=by decide)(h:SE X e es:=by rfl)(a:BT X pos es:=by rfl)(t:eval (.Call (.Attribute o m å) (e::es) [] pos) X.env=(do
  let i <-eval o X.env
  standAt å.atName let(f,first)<-holding [i] (getMethod i m pl)callWith pos f first (backTo pos<|starEach (e::es) X.env) (backToKw pos<|keywordEach [] X.env)):=by rfl):PE X (.Call (.Attribute o m å) (e::es) [] pos) (lo B<|WL.g9 c fn to á):=by obtain⟨Å,w,F,b⟩:=G;exact PE.imp (qW v cl Å F (l.mono hk) b .nil s h a t)<|ZY u.symm q r d p
end
def QZ{P w K e b f g k m}{ps:List Str}:ä P w K e b (ò P w) k f g ps (ĵ K m λ_=>.b):=⟨λi H Q E a=>by obtain⟨_,_,_,_,_,h⟩:=a;exact h.elim,λA c s H d p i Q E q j l n o a=>by obtain⟨_,_,_,_,_,h⟩:=a;exact h.elim⟩
section
variable{B:Bx}{X:Cx}
set_option tactic.hygienic true in
def B2(hB:B.K=X.K)(hr:Ñ jr X.A)(hx:XW X B)(hN:X.N.Nodup)(Ã:Ġ X.K)(ha:∀nm C,ExcAt X.K nm C->("at":Str)∈WL.fieldsOf nm->W.findIn X.K (.ref C) "at"=L Y/\W.hasDictIn X.K C=U)(hw:∀nm C,ExcAt X.K nm C->("why":Str)∈WL.fieldsOf nm->W.findIn X.K (.ref C) "why"=L Y/\W.hasDictIn X.K C=U)(Ä:X.mg xB=L (.ref CB))(q:ko X.K CB (L<|.ref fI))(b5:W.typeIn X.K (.ref fI)=L (.type "function"))(a:ExcAt X.K "Broken" CB)(G:Rc X.prog X.w X.K X.mg X.base fI ps (Za CB ["at","why"] 6000000<|ϧ X.K))(a0:∀E pn B',B'.K=X.K->XW (X.tri E pn) B'->PassesOwn (model X.prog X.w) X.A X.env E->ã (X.tri E pn) body (â B' tb))(hs:X.stack=X.env::X.outer:=by rfl)(hf:X.env.frame=L X.env.locals:=by rfl)(hj:39<=jr:=by decide)(hi:X.N[i]?=L n:=by rfl)(hl:X.env.scope.names.lookup n=L .local:=by rfl)(b3:X.N[ci]?=L cn:=by rfl)(a6:X.env.scope.names.lookup cn=L .local:=by rfl)(b7:i≠ci:=by decide)(hg:Gl X xB:=by rfl)(d5:è xB:=by decide)(d6:è n:=by decide)(d7:è cn:=by decide)(d8:(n=="__classdict__")=O:=by decide)(d9:(cn=="__classdict__")=O:=by decide)(b1:attributeBase (.Name n q2) "at" X.env (eval (.Name n q2) X.env)=eval (.Name n q2) X.env:=by rfl)(b2:attributeBase (.Name n q4) "why" X.env (eval (.Name n q4) X.env)=eval (.Name n q4) X.env:=by rfl)(I:starEach [.BinOp (.Name cn q1) .Add (.Attribute (.Name n q2) "at" q3) bp,.Attribute (.Name n q4) "why" q5] X.env=(O,eval (.BinOp (.Name cn q1) .Add (.Attribute (.Name n q2) "at" q3) bp) X.env)::starEach [.Attribute (.Name n q4) "why" q5] X.env:=by rfl)(K:starEach [.Attribute (.Name n q4) "why" q5] X.env=(O,eval (.Attribute (.Name n q4) "why" q5) X.env)::starEach [] X.env:=by rfl)(Â:BT X Ó [.Attribute (.Name n q4) "why" q5]:=by rfl):PS X (.Try body [.ExceptHandler (L<|.Name xB tp) (L n) [.Raise (L<|.Call (.Name xB np) [.BinOp (.Name cn q1) .Add (.Attribute (.Name n q2) "at" q3) bp,.Attribute (.Name n q4) "why" q5] [] Ó) (L<|.Name n q6) rpos] Ė] [] [] pos) (â B<|WL.lO tb ci):=by
 obtain⟨fd,G,hb⟩:=G;refine qu hB.symm hs hf a0 λs D p H1 s1 c1 F1 c e g k fl T r f Á l=>?_;unfold WL.Ry at f;split at f;case h_3=>exact False.elim f
 case h_2 nm=>
  split at f;case isFalse=>exact False.elim f
  rename_i a9;obtain⟨c2,c0,J,ce⟩:=Á.is;cases J;have ex:=Ã.ex _ _ _ _ ce a;rw[a9]at ex;exact n7 l hg Ä ex (wpAny_handleBy_nil<|l.pass λh5 t t5=>hx s _ _ _ _ _ (.e nm []) r f e g k _ t t5 Á) d5
 rename_i nm n1 w;split at f;case isFalse=>exact False.elim f
 rename_i b6;subst b6;split at f;case h_2=>exact False.elim f
 rename_i m ew;split at f;case isFalse=>exact False.elim f
 rename_i b8;obtain⟨v1,b0,a8⟩:=r.va ci _ ew;cases show v1=.int m from a8;obtain⟨x1,c3,x2,x3,x4,⟨nc,v⟩,x5⟩:=id Á;obtain⟨_,j,h,y,ef,u⟩:=x5.resolve_right λz=>z.1 M;subst ef;have en:j=n1:=by obtain⟨_,_,J,z,_⟩:=x3;cases J;exact V.int.inj z
 subst en;have a5:RW X.K F1 w (.ref h):=by obtain⟨_,_,J,_,z⟩:=x3;cases J;exact RW.one z
 obtain⟨d,ed,hd⟩:=x4.resolve_left λz=>by cases z.1
 have eC:g=CB:=by have:=x1.2.symm.trans a.2;cases this;rfl
 subst eC;have N:H1 e=Y:=l.fe.1;have kH:=ar N<|.ext<|excAt e g k;have b9:F1 e=Y:=r.rb.sub.free N;have b4:=ar b9<|.ext<|excAt e g k;have x:(p.set i<|some<|V.ref e)[i]?=L (L<|.ref e):=ĳ (by rw[l.inv.len];exact(Ĵ.mp hi).1);have a7:(p.set i<|some<|V.ref e)[ci]?=L (L<|.int m):=by rw[ą b7];exact b0
 have A:=kH _ _<|r.rb.sub _ _ hd;refine qh (R:=λvs Hx=>vs=[.int<|m+j,.ref h]/\Hx=upd H1 e (.ext<|excAt e g k)) (G:=ϧ X.K) l (λQ E hq=>bV (X:=X.ă e) (l.inv.ă e) hg Ä (hq _ _ l λ_=>Th l.inv.ć l.ty<|Ã.ex _ _ _ _ a a) d5) hs hf hN hi hl (aG (US (pV b3 (.inl a6) d7 d9)<|Ju Ã ha (pV hi (.inl hl) d6 d8) b1) (aG (Ju Ã hw (pV hi (.inl hl) d6 d8) b2) bS K) I) ⟨.int m,a7,.ref e,x,e,g,k,d,_,_,.int j,M,ai,a,by decide,ed,A,M,m,j,M,M,.ref e,x,e,g,k,d,_,_,.ref h,M,ai,a,by decide,ed,A,M,M,M⟩ ((v.keep r.rb.sub).keep kH) ⟨_,q⟩ hg Ä q b5 G (λws H b o=>ϧ.mono ws H b o) ((hr.ă hj).mono<|by decide) hb (by decide) (λvs Hx zz=>?_) d5 d6 I Â;obtain⟨zv,zh⟩:=zz;subst zv zh;refine⟨M,au.refl _,⟨m+j,h,y,M,Ei b8,u.via λ_ _ _ z=>kH _ _<|r.rb.sub _ _ z⟩,λs' e2 d2 ta y2 t T2 S P t5=>?_⟩;have Ra:=(r.new N<|.ext<|excAt e g k).new S<|.t [.str y2];have Rb:=((Ra.new P<|.xd<|List.zip [("at":Str),"why"] [.int<|m+j,.ref h]).Lu i).blank;have Å:=b4.trans<|(ar ((r.new N<|.ext<|excAt e g k).rb.sub.free S)<|.t [.str y2]).trans<|ar (Ra.rb.sub.free P)<|.xd<|List.zip [("at":Str),"why"] [.int<|m+j,.ref h];rw[Sf]at Rb;have nt:e≠ta:=λw=>by rw[<-w,ai]at S;cases S
 have nd:e≠d2:=λw=>by rw[<-w,ag nt,ai]at P;cases P
 refine hx s _ _ s' _ _ (.e "Broken" [.int<|m+j,w]) Rb (B.mono _ _ F1 _ Å f) e2 g _ (L T2) t t5 ⟨a,[("at",.int<|m+j),("why",.ref h)],M,?_,.inr ⟨d2,M,ai⟩,⟨nc+1,e,g,k,M,by rw[ag nd,ag nt,ai],v.keep Å⟩,.inl ⟨M,m+j,h,y,M,u.via λ_ _ _ z=>Å _ _ z⟩⟩;exact⟨_,_,M,M,_,_,M,a5.keep Å,M⟩
end
open WL(EF)
def V1{X B e ta}(h:PE X e (Ia B<|WL.yq ta)):PE X e (Ia B<|WL.yp ta):=by rw[WL.P4];exact h
end WS
namespace WS
open L2
def Mi(K:W.Frag)(C f:Addr)(nm a:Str)(st:Stmt):Prop:=Meth K C nm f/\∃b,đ K nm a st f b
abbrev Q6(nm a:Str)(ps:List Str)(st:Stmt):Prop:=∀kV b e an c ct d,d.length=ps.length->bindArgs (W.fnOf nm a (bh st) (aC st) (aj st) .none kV b e an c ct) ⟨d,[]⟩=pure (ps.zip d)
def Mi.dX{P w K l i nm e st C f N ps k n m q}(D:Mi K C f nm e st)(t)(S:Î N ps (aj st))(h:∀{j A g s H E B},B.K=K->Ñ k (A.deeper<|envOfC e (aj st) s.heap.objs.size f j)->XW (fA (ò P w) P w K l i N e (aj st) f j A g s H E) B->PassesOwn (model P w) (fA (ò P w) P w K l i N e (aj st) f j A g s H E).A (fA (ò P w) P w K l i N e (aj st) f j A g s H E).env (fA (ò P w) P w K l i N e (aj st) f j A g s H E).xe->ã (fA (ò P w) P w K l i N e (aj st) f j A g s H E) (aC st) (â B t))(x:Q6 nm e ps st:=by intro _ _ _ _ _ _ u h;first|exact vi (by intros;rfl) u h|exact bind1 (by intros;rfl) u h|exact oH (by intros;rfl) u h|exact NV (by intros;rfl) u h)(r:N.length=n:=by rfl)(v:ps.length=m:=by rfl)(p:WL.run n t=q:=by rfl)(o:ps.length<=N.length:=by decide):oR P w K l i (k+1) C f nm ps (ĵ K m q):=nM D.1 D.2 x λ_ Fn=>wC t Fn S r v p o λ_ _ _ _ _ _ _ a b c d=>h a b c d
variable{K:W.Frag}{st:Stmt}
def Rep(K:W.Frag)(c:VW)(u:Value):Prop:=∃v,RelV v u/\∀F,RW K F c v
def abZ:Rep K (.int i) (.int i t):=⟨.int i,⟨_,M⟩,λ_=>rfl⟩
def abX:Rep K (.str i) (.str i t):=⟨.str i,⟨_,M⟩,λ_=>rfl⟩
theorem Gy:∀{ws us},Paired (Rep K) ws us->∃xs,Vals xs us/\∀F,Ê K F ws xs|_,_,.nil=>⟨[],.nil,λ_=>rfl⟩|_,_,.cons ⟨v,r,h⟩ t=>by obtain⟨xs,a,b⟩:=Gy t;exact⟨_,.cons r a,λF=>⟨_,_,M,h F,b F⟩⟩
def D5(l:K.lookup a=L ⟨.type "tuple",d,.seq vs n,sl⟩)(f:vs.size<=sizeLine)(h:Paired (Rep K) ws vs.toList):∀F,RW K F (.t ws) (.ref a):=by obtain⟨e,b,c⟩:=Gy h;exact λF=>⟨a,e,M,PY l b f F,c F⟩
def abW(l:K.lookup a=L ⟨.type "tuple",d,.seq vs n,sl⟩)(b:vs.size<=sizeLine)(h:Paired (Rep K) ws vs.toList):Rep K (.t ws) (.ref a):=⟨.ref a,M,D5 l b h⟩
def Kc(K:W.Frag)(a:Str->Option Value)(x:Str)(c:VW):Prop:=∃u,a x=L u/\Rep K c u
section
variable{X:Cx}{B:Bx}
def Ċ(d:B.K=X.K)(h:Kc X.K X.mg x c)(a:Gl X x:=by rfl)(b:è x:=by decide):PE X (.Name x pos) (lo B<|WL.eC c):=by obtain⟨u,m,v,r,h⟩:=h;exact wk d m r h a b
def Ë(a:PE X e (lo B ta))(hs:SE X e []:=by rfl):PA X [e] (Ď B<|WL.aa ta WL.ak):=af a aV hs
def wr(a:PE X e (lo B ta)):ã X [.Return (L e) pos] (â B<|WL.aP ta):=ao<|cV a
def ð(d:PT X c (ď B tt))(b:ã X a (â B s1)):PS X (.If c a [] pos) (â B<|WL.Ü tt s1 WL.à):=ky d b eE
def ĩ(s:X.K=B.K)(f:X.mg "len"=Y)(d:PE X e (lo B ta))(c:Gl X "len":=by rfl)(b:SE X e []:=by rfl)(a:BT X pos []:=by rfl):PE X (.Call (.Name "len" p) [e] [] pos) (lo B<|WL.ç WL.eT<|WL.aa ta WL.ak):=wB sg (Xu s) f Ul (af d aV b) c (by decide) (rfl) b a
def ż(s:X.K=B.K)(c:X.A.units+64<cLine)(d:PE X a (lo B ta))(e:PE X b (lo B tb)):PE X (.Compare a [.Eq] [b] pos) (lo B<|WL.Ì WL.oEq ta tb):=lB calm_eq (w_eq s c) d e<|bu _
def į(s:X.K=B.K)(c:PE X a (lo B ta))(d:PE X b (lo B tb)):PE X (.BinOp a .Add b pos) (lo B<|WL.Ì WL.fK ta tb):=cR mI (w_add s) c d
def Ż(c:PE X a (lo B ta))(d:PE X b (lo B tb)):PE X (.BinOp a .Mod b pos) (lo B<|WL.Ì WL.oMod ta tb):=cR yS w_mod c d
def Ž(x)(f:X.calm=U)(hi:PI X tg ó (ŭ B it))(e:∀C b a c,PE (X.comp scope C [x] b a c) ō<|lo B.calm ta)(À:þ X scope:=by exact⟨M,M,M,M,M⟩)(d:∀C b a c,PG (X.comp scope C [x] b a c) tg (ŝ U B.calm<|WL.ax 0):=by exact λ_ _ _ _=>gN 0)(hs:∀x,foldedSetIterable ó X.env x=pure x:=by intro _;rfl):PE X (.ListComp ō [⟨tg,ó,[],0⟩] scope pos) (lo B<|WL.dD 1 it (WL.ax 0) WL.gD ta):=vy À f M (cM<|by simp) hi d (λ_ _ _ _=>mQ) e hs
def Ϛ(n)(s:X.K=B.K)(d:ķ X.K c C)(cl:ĝ X.K C)(na:bf X.K C fl)(e:PE X o (lo B to))(nd:(WL.hJ c).Nodup:=by decide)(a:(WL.hJ c)[n]?=L fl:=by rfl)(b:attributeBase o fl X.env (eval o X.env)=eval o X.env:=by rfl):PE X (.Attribute o fl pos) (lo B<|WL.dC c n to):=qz s d cl na nd a e b
structure VV(X:Cx)(x:Str)(i:Nat):Prop where
 n:X.N[i]?=L x
 v:Fh X.env.scope x
 d:è x
 c:(x=="__classdict__")=O
def VV.e(h:VV X x i):PE X (.Name x pos) (lo B<|WL.dA i):=va i h.n h.v h.d h.c
def v0(h:VV X x 0:=by first|exact⟨M,Or.inl rfl,by decide,by decide⟩|exact⟨M,Or.inr<|Or.inl rfl,by decide,by decide⟩|exact⟨M,Or.inr<|Or.inr rfl,by decide,by decide⟩):PE X (.Name x pos) (lo B<|WL.dA 0):=h.e
def v1(h:VV X x 1:=by first|exact⟨M,Or.inl rfl,by decide,by decide⟩|exact⟨M,Or.inr<|Or.inl rfl,by decide,by decide⟩|exact⟨M,Or.inr<|Or.inr rfl,by decide,by decide⟩):PE X (.Name x pos) (lo B<|WL.dA 1):=h.e
def v2(h:VV X x 2:=by first|exact⟨M,Or.inl rfl,by decide,by decide⟩|exact⟨M,Or.inr<|Or.inl rfl,by decide,by decide⟩|exact⟨M,Or.inr<|Or.inr rfl,by decide,by decide⟩):PE X (.Name x pos) (lo B<|WL.dA 2):=h.e
def v3(h:VV X x 3:=by first|exact⟨M,Or.inl rfl,by decide,by decide⟩|exact⟨M,Or.inr<|Or.inl rfl,by decide,by decide⟩|exact⟨M,Or.inr<|Or.inr rfl,by decide,by decide⟩):PE X (.Name x pos) (lo B<|WL.dA 3):=h.e
def v4(h:VV X x 4:=by first|exact⟨M,Or.inl rfl,by decide,by decide⟩|exact⟨M,Or.inr<|Or.inl rfl,by decide,by decide⟩|exact⟨M,Or.inr<|Or.inr rfl,by decide,by decide⟩):PE X (.Name x pos) (lo B<|WL.dA 4):=h.e
end
abbrev cN(P:Program)(w:World)(K:W.Frag)(d:Str->Option Value)(b:Heap)(N:List Str)(q:Str)(st:Stmt)(f:Addr)(c:Value)(A:Around)(a:List Env)(s:Shared)(H:Hp)(E:XK):Cx:=(fA ē P w K d b N q (aj st) f c A a s H E).Ga
abbrev cX(P:Program)(w:World)(K:W.Frag)(d:Str->Option Value)(b:Heap)(N:List Str)(q:Str)(st:Stmt)(f:Addr)(c:Value)(A:Around)(a:List Env)(s:Shared)(H:Hp)(E:XK):Cx:=fA (ò P w) P w K d b N q (aj st) f c A a s H E
abbrev Go(k:Nat)(st:Stmt)(X:Cx)(B:Bx)(t:TS):Prop:=B.K=X.K->X.K=B.K->Ñ k X.A->X.A.units+64<cLine->XW X B->PassesOwn (model X.prog X.w) X.A X.env X.xe->X.N.Nodup->ã X (aC st) t
abbrev FI(nm a:Str)(ps:List Str)(st:Stmt):Prop:=∀kV b e an c ct d,d.length=ps.length->bindArgs (W.fnOf nm a (bh st) (aC st) (aj st) .none kV b e an c ct) ⟨d,[]⟩=pure (ps.zip d)
structure Hd(w:World)(mg:Str->Option Value)(nm qual:Str)(st:Stmt)(N:List Str)(m:Nat):Prop where
 sc:Î N (N.take m) (aj st)bd:FI nm qual (N.take m) st
 le:m<=N.length
def Hd.lp(D:Hd w mg nm q st N m):(N.take m).length=m:=by simp[D.le]
def Hd.ln(D:Hd w mg nm q st N m):(N.take m).length<=N.length:=by grind
def ϶(w:World)(K:W.Frag)(b:Str->Option Value)(nm a:Str)(st:Stmt)(N:List Str)(m:Nat):Prop:=O6 K b/\Hd w b a a st N m/\∃f c,đ K a a st f c/\W.nsIn K mainGlobals nm=L (L<|.ref f)
def ϶.Ľ(D:϶ w K mg nm q st N m)(h:∀f b,đ K q q st f b->ä P w K mg base CX k f b (N.take m) sp):Š P w K mg base CX k nm (N.take m) [] sp:=by obtain⟨g,c,f,b,F,a⟩:=D;exact⟨f,b,h f _ F,g _ _ a,F.kp,F.binds c.bd,F.binds c.bd⟩
def ϶.dN(D:϶ w K mg nm q st N m)(P d k t)(h:∀{f e A a s H E B},Go k st (cN P w K mg d N q st f e A a s H E) B<|â B t):Š P w K mg d ē (k+1) nm (N.take m) [] (Ğ K m<|WL.run N.length t):=D.Ľ λf g Fn=>oy t Fn D.2.1.sc M D.2.1.lp M D.2.1.ln λe A a s H E B b r c p=>h b b.symm r r.units c p D.2.1.sc.nd
def ϶.dX(D:϶ w K mg nm q st N m)(P d k t)(h:∀{f e A a s H E B},Go k st (cX P w K mg d N q st f e A a s H E) B<|â B t):Š P w K mg d (ò P w) (k+1) nm (N.take m) [] (ĵ K m<|WL.run N.length t):=D.Ľ λf g Fn=>wC t Fn D.2.1.sc M D.2.1.lp M D.2.1.ln λe A a s H E B b r c p=>h b b.symm r r.units c p D.2.1.sc.nd
abbrev GI(w:World)(K:W.Frag)(a:Str->Option Value)(nm:Str)(st:Stmt)(N:List Str)(m:Nat):Prop:=϶ w K a nm nm st N m
abbrev IJ(st:Stmt):List Str:=(aj st).names.filterMap λx=>match x.2 with|.local=>L x.1|.cell=>L x.1|_=>Y
abbrev OQ(st:Stmt):Nat:=(bh st).args.length
abbrev ý(w:World)(K:W.Frag)(a:Str->Option Value)(nm:Str)(st:Stmt):Prop:=϶ w K a nm nm st (IJ st)<|OQ st
def anr{kV g j d ct K h i}(k:K.In h)(G:h.Ns mainGlobals i)(a:W.nsIn K mainGlobals nm=L (L<|.ref f))(l:K.lookup f=L ⟨oc,od,.func<|W.fnOf fn fn (bh st) (aC st) (aj st) .none kV g j an d ct,osl⟩)(c:W.codeIn K d fn=U)(q:W.keepIn K (.ref f)=U)(S:Î N (N.take m) (aj st))(b:FI fn fn (N.take m) st)(e:m<=N.length):϶ w K i nm fn st N m:=⟨λ_ _=>W.mg_of k G,⟨S,b,e⟩,f,_,yD l c q,a⟩
def ϰ(w:World)(K:W.Frag)(b:Str->Option Value)(C f:Addr)(nm a:Str)(st:Stmt)(N:List Str)(m:Nat):Prop:=Meth K C nm f/\(∃c,đ K nm a st f c)/\Hd w b nm a st N m
def ϰ.Ľ(D:ϰ w K mg C f nm q st N m)(h:∀a,đ K nm q st f a->ä P w K mg base (ò P w) k f a (N.take m) sp):oR P w K mg base k C f nm (N.take m) sp:=nM D.1 D.2.1 D.2.2.bd h
def ϰ.dX(D:ϰ w K mg C f nm q st N m)(P d k t)(h:∀{e A a s H E B},Go k st (cX P w K mg d N q st f e A a s H E) B<|â B t):oR P w K mg d (k+1) C f nm (N.take m) (ĵ K m<|WL.run N.length t):=D.Ľ λg Fn=>wC t Fn D.2.2.sc M D.2.2.lp M D.2.2.ln λe A a s H E B b r c p=>h b b.symm r r.units c p D.2.2.sc.nd
def ϰ.dM{S}{Å:Zb S}(D:ϰ w K mg C f nm q st N m)(P d k t)(h:∀{e A a s H E B},Go k st (cX P w K mg d N q st f e A a s H E) B<|Ō Å B t):oR P w K mg d (k+1) C f nm (N.take m) (Jd Å K m<|WL.runM N.length t):=D.Ľ λg Fn=>EV t Fn D.2.2.sc M D.2.2.lp M D.2.2.ln λe A a s H E B b r c p=>h b b.symm r r.units c p D.2.2.sc.nd
end WS
namespace WS
open L2
noncomputable def Qt:List Expr->Option (List Str)|[]=>L []|.Constant (.str x) _ _::es=>(Qt es).map (x::.)|_=>Y
theorem We{X:Cx}{B:Bx}:∀{es xs},Qt es=L xs->PA X es (Ď B<|WL.Ms xs)
|[],xs,h=>by cases h;exact aV|e::es,xs,h=>by
 unfold Qt at h;split at h;.next q=>cases q
 .next q=>cases q;obtain⟨c,a,b⟩:=μ.mp h;subst b;exact af aq<|We a
 .cases h
section
variable{X:Cx}{B:Bx}{x x2 n:Str}{pos np Ė np2 hpos2:Pos}
def VH{f b a z A C G d v i tb th th2}(r:X.K=B.K)(hs:X.stack=X.env::X.outer)(I:X.env.frame=L X.env.locals)(hN:X.N.Nodup)(hi:X.N[i]?=L n)(N:X.env.scope.names.lookup n=L .local)(u:Gl X x)(w:X.mg x=L (.ref C))(l:Gl X x2)(m:X.mg x2=L (.ref G))(H:∀nm j,ExcAt X.K nm j->W.exmOne X.K (.ref j) (.ref C)=L (WL.mw nm d))(o:∀nm j,ExcAt X.K nm j->W.exmOne X.K (.ref j) (.ref G)=L (WL.mw nm v))(Ã:∀E s B',B'.K=X.K->XW (X.tri E s) B'->PassesOwn (model X.prog X.w) X.A X.env E->ã (X.tri E s) f (â B' tb))(J:∀e B',B'.K=X.K->XW (X.ă e) B'->ã (X.ă e) (z::b) (â B' th))(q:∀e B',B'.K=X.K->XW (X.ă e) B'->ã (X.ă e) (A::a) (â B' th2))(y:è x:=by decide)(p:è x2:=by decide):PS X (.Try f [.ExceptHandler (L<|.Name x np) (L n) (z::b) Ė,.ExceptHandler (L<|.Name x2 np2) Y (A::a) hpos2] [] [] pos) (â B<|WL.ng tb d i th v th2):=qu r hs I Ã λ_ D _ _ _ P F c e K _ _ _ R g k t=>by obtain⟨nm,fs,rfl,Å⟩:=id k.is;have ex:=H nm K Å;have g:Oq B D F (if WL.mw nm d=U then _ else _):=g;cases h:WL.mw nm d with|false=>rw[h]at g ex;exact n7 t u w ex (XE r l m p o q R g k t) y|true=>rw[h]at g;exact BA r hN hi N u w y H J R g k t
end
end WS
namespace WL
section
variable{α β:Type}
@[simp]def jK(a)(f:α->Res β):(Res.ok a).bind f=f a:=(rfl)
@[simp]def aqz(c)(f:α->Res β):(Res.x c).bind f=.x c:=(rfl)
@[simp]def aoj(f:α->Res β):(Res.b:Res α).bind f=.b:=(rfl)
@[simp]def DD(Z)(a)(f:α->Out):ø Z (.ok a) f=f a:=(rfl)
@[simp]def arp(Z)(c)(f):ø Z (.x c:Res α) f=.x c Z:=(rfl)
end
noncomputable def Ys:Option Sl->Res W|some (.v w)=>.ok w|_=>.b
@[simp]def apV(w):Ys (L<|.v w)=.ok w:=(rfl)
@[simp]def aqg(i:Nat)(Z:Ws):dA i Z=Ys Z[i]?:=by unfold dA Ys;split<;>simp_all
@[simp]def asT(w)(Z):eC w Z=.ok w:=(rfl)
@[simp]def arI(r)(a b)(Z):Ì r a b Z=(a Z).bind λx=>(b Z).bind λy=>r x y:=(rfl)
@[simp]def arG(r)(a)(Z):Đ r a Z=(a Z).bind r:=(rfl)
noncomputable def Pp(z:W)(k:Res W):Res W:=match z with|.B U=>k|.B O=>.ok<|.B O|_=>.b
@[simp]def arL(b)(k):Pp (.B b) k=if b=U then k else .ok (.B O):=by cases b<;>rfl
@[simp]def am9(r d:W->W->Res W)(a b c:EF)(Z:Ws):l2 r d a b c Z=(a Z).bind λx=>(b Z).bind λy=>(r x y).bind λz=>Pp z ((c Z).bind λw=>d y w):=by unfold l2 Pp;rfl
@[simp]def aq3(b):Β (.B b)=.ok b:=(rfl)
@[simp]def asj(e)(Z):tB e Z=(e Z).bind Β:=(rfl)
@[simp]def aoP(a b)(Z):vF a b Z=(a Z).bind λx=>if x=U then b Z else .ok O:=by unfold vF;congr 1;funext x;cases x<;>rfl
@[simp]def aq5(a b)(Z):Ε a b Z=(a Z).bind λx=>if x=U then .ok U else b Z:=by unfold Ε;congr 1;funext x;cases x<;>rfl
@[simp]def aoL(a)(Z):pP a Z=(a Z).bind λx=>.ok !x:=(rfl)
set_option tactic.hygienic true
@[simp]def aqm(a b)(Z):mn a b Z=(a Z).bind λx=>(Β x).bind λy=>if y=U then b Z else .ok (.B O):=by
 unfold mn;congr 1;funext x;cases x<;>try rfl
 rename_i k;cases k<;>rfl
set_option tactic.hygienic false
@[simp]def aqi(a)(Z):ϣ a Z=(a Z).bind λx=>(Β x).bind λy=>.ok (.B !y):=by unfold ϣ;congr 1;funext x;cases x<;>rfl
@[simp]def arJ(t)(a b)(Z):ϓ t a b Z=(t Z).bind λx=>if x=U then a Z else b Z:=by unfold ϓ;congr 1;funext x;cases x<;>rfl
@[simp]def aqH(Z):ak Z=.ok []:=(rfl)
@[simp]def aon(e)(a)(Z):aa e a Z=(e Z).bind λx=>(a Z).bind λxs=>.ok (x::xs):=(rfl)
@[simp]def aqh(a)(Z):eB a Z=(a Z).bind λxs=>if xs.length<=lim then .ok (.t xs)else .b:=(rfl)
@[simp]def aqk(a)(Z):lb a Z=(a Z).bind λxs=>if xs.length<=lim then .ok (.l xs)else .b:=(rfl)
noncomputable def wY{α}:Res α->Res α|.ok a=>.ok a|_=>.b
@[simp]def aoi{α}(a:α):wY (.ok a)=.ok a:=(rfl)
@[simp]def aoh(f)(a)(Z):av f a Z=(a Z).bind λws=>wY (f ws):=by unfold av;congr 1;funext ws;cases f _<;>rfl
@[simp]def ana(f)(a)(Z):bc f a Z=(a Z).bind f:=(rfl)
@[simp]def arK(f)(a)(Z):ç f a Z=(a Z).bind f:=(rfl)
@[simp]def aqj(T:String)(r:W->List W->Res W)(o:EF)(a:AF)(Z:Ws):ov T r o a Z=(o Z).bind λx=>if wh x==T then(a Z).bind λws=>r x ws else .b:=(rfl)
@[simp]def arj(Z):ο Z=.ok Y:=(rfl)
noncomputable def Ow:W->Res (Option Int)|.int i=>.ok<|some i|_=>.b
@[simp]def aoG(i):Ow (.int i)=.ok (L i):=(rfl)
@[simp]def anN(e:EF)(Z:Ws):cS e Z=(e Z).bind Ow:=by unfold cS;congr 1
@[simp]def arH(e)(lo hi)(Z):Ť e lo hi Z=(e Z).bind λx=>(lo Z).bind λl=>(hi Z).bind λh=>Nd x l h:=(rfl)
@[simp]def anW(i j):fK (.int i) (.int j)=.ok (.int<|i+j):=(rfl)
@[simp]def anS(i j):pZ (.int i) (.int j)=.ok (.int<|i-j):=(rfl)
def yd(i j):rz (.int i) (.int j)=if -2^64<i/\i<2^64\/-2^64<j/\j<2^64 then .ok (.int<|i*j)else .b:=(rfl)
def BD{i}(j)(a:-18446744073709551616<i)(b:i<18446744073709551616):rz (.int i) (.int j)=.ok (.int<|i*j):=by rw[yd,Ð];exact .inl ⟨by omega,by omega⟩
def WR(i){j}(a:-18446744073709551616<j)(b:j<18446744073709551616):rz (.int i) (.int j)=.ok (.int<|i*j):=by rw[yd,Ð];exact .inr ⟨by omega,by omega⟩
@[simp]def anV(i j):oDiv (.int i) (.int j)=if 0<j/\j<10^100 then .ok (.int<|i/j)else .b:=(rfl)
@[simp]def anU(i j):oMod (.int i) (.int j)=if 0<j then .ok (.int<|i%j)else .b:=(rfl)
@[simp]def anT(i):fU (.int i)=.ok (.int<|-i):=(rfl)
@[simp]def apz(i j):oLt (.int i) (.int j)=.ok (.B<|decide (i<j)):=(rfl)
@[simp]def apA(i j):oLe (.int i) (.int j)=.ok (.B<|decide (i<=j)):=(rfl)
@[simp] def apD (i j:Int):oEq (.int i) (.int j)=.ok (.B<|decide (i=j)):=by show Res.ok (W.B<|i==j)=_;rw[Tq]
@[simp] theorem apy (i j:Int):Ω (.int i) (.int j)=.ok (.B<|!decide (i=j)):=by show Res.ok (W.B !(i==j))=_;rw[Tq]
@[simp] theorem fV (xs ) (i ):Ą (.l xs) (.int i)=Ζ (ŏ xs i):=(rfl)
@[simp]def apB(xs)(i):Ą (.t xs) (.int i)=Ζ (ŏ xs i):=(rfl)
@[simp]def apx(xs)(l h):Nd (.l xs) l h=.ok (.l<|cut xs l h):=(rfl)
def gT{α}(xs:List α)(k:Nat):ŏ xs k=xs[k]?:=by
 unfold ŏ Ů;by_cases h:k<xs.length;.rw[Ð (by simp),Ð<|by omega];simp
 .rw[Ð (by simp),Õ<|by omega];simp;omega
@[simp]def aqD{α}(xs:List α)(k):ŏ xs no_index(@OfNat.ofNat Int k _)=xs[k]?:=gT _ k
def NB{α}(xs:List α){i}(h:0<=i):ŏ xs i=xs[i.toNat]?:=by have e:=gT xs i.toNat;rwa[Int.toNat_of_nonneg h]at e
@[simp]def aol(xs):eT [.l xs]=.ok (.int xs.length):=(rfl)
@[simp]def aok(xs):eT [.t xs]=.ok (.int xs.length):=(rfl)
noncomputable def oB(o:Option Bool):Res W:=match o with|some b=>.ok<|.B b|none=>.b
@[simp]def apE(b):oB (L b)=.ok (.B b):=(rfl)
@[simp]def aj1(x:W)(t:String):bQ [x,.ty t]=oB (Gf x t):=by cases h:Gf x t<;>simp[bQ,oB,h]
@[simp]def aqB(xs):Ϣ [.l xs]=oB (Tc xs):=rfl
@[simp]def apS(e)(Z):lW e Z=(e Z).bind itemsOf:=(rfl)
def Au:W->Res (List W)|.int j=>if -2^62<=j/\j<2^62 then .ok (û 0 j.toNat)else .b|_=>.b
@[simp]def anK(j):Au (.int j)=if -2^62<=j/\j<2^62 then .ok (û 0 j.toNat)else .b:=(rfl)
@[simp]def an8(e:EF)(Z:Ws):fW e Z=(e Z).bind Au:=by unfold fW Au;congr 1
def Bu:W->W->Res (List W)|.int i,.int j=>if -2^62<=i/\i<2^62/\-2^62<=j/\j<2^62 then .ok (û i (j-i).toNat)else .b|_,_=>.b
@[simp]def anJ(i j):Bu (.int i) (.int j)=if -2^62<=i/\i<2^62/\-2^62<=j/\j<2^62 then .ok (û i (j-i).toNat)else .b:=(rfl)
@[simp]def an7(e e':EF)(Z:Ws):jz e e' Z=(e Z).bind λx=>(e' Z).bind λy=>Bu x y:=by unfold jz Bu;congr 1
@[simp] def ajP (lo ) (n ):(û lo n).length=n:=by simp[û]
@[simp] theorem aoc (i ) (w ) (Z ):ax i w Z=.ok (Z.set i<|.v w):=(rfl)
@[simp]def aob(Z):vo [] Z=.ok Z:=(rfl)
@[simp]def ajX(g)(b)(w)(r)(Z):di g b (w::r) Z=(wY<|g w Z).bind λd=>wY (b r d):=by show(match g w Z with|.ok _=>(match b r _ with|.ok _=>Res.ok _|_=>.b)|_=>.b)=_;cases g w Z with|ok a=>simp ;cases b r a<;>rfl|x c|b=>rfl
@[simp]def aoa(a)(ws)(Z):vn a (.t ws) Z=a ws Z:=(rfl)
def Fj(Z:Ws)(i:Nat)(ws:List W)(w:W):Res W->Res Ws
|.ok (.int k)=>match Ů ws.length k with|some j=>.ok<|Z.set i<|.w<|ws.set j w|none=>.b
|_=>.b
def Tt(Z:Ws)(i:Nat)(w:W)(r:Res W):Option Sl->Res Ws|some (.w ws)=>Fj Z i ws w r|_=>.b
@[simp]def apX(i:Nat)(e:EF)(w:W)(Z:Ws):ϱ i e w Z=Tt Z i w (e Z) Z[i]?:=by unfold ϱ Tt;cases h:Z[i]? with|none=>rfl|some sl=>cases sl with|o|v _|od _ _|ob=>rfl|w ws=>unfold Fj;cases e Z with|b|x c=>rfl|ok k=>cases k<;>rfl
@[simp]def aoR(Z:Ws)(i:Nat)(w:W)(r:Res W)(ws:List W):Tt Z i w r (L<|.w ws)=Fj Z i ws w r:=(rfl)
def J1(Z:Ws)(i:Nat)(ws:List W)(w:W)(k:Int)(a:0<=k)(b:k<ws.length):Fj Z i ws w (.ok<|.int k)=.ok (Z.set i<|.w<|ws.set k.toNat w):=by unfold Fj Ů;simp[a,b]
noncomputable def Xs(Z:Ws)(i:Nat):Option Sl->Ws|some (.w ws)=>Z.set i<|.v<|.l ws|some (.od ks vs)=>Z.set i<|.v<|.ġ ks vs|_=>Z
@[simp]def arB(i:Nat)(Z:Ws):î i Z=Xs Z i Z[i]?:=by unfold î Xs;split<;>simp_all
@[simp]def apY(Z)(i)(ws):Xs Z i (L<|.w ws)=Z.set i (.v<|.l ws):=(rfl)
def Bp:Res W->Res W|.ok w=>if plain w then .ok w else .b|_=>.b
@[simp]def ari(w):Bp (.ok w)=if plain w=U then .ok w else .b:=(rfl)
@[simp]def aql(i:Nat)(e:EF)(Z:Ws):uV i e Z=Bp (e<|î i Z):=by unfold uV Bp;cases e (î i Z)<;>rfl
@[simp]def MY(i)(t)(Z):zg i t Z=wY (t<|î i Z):=by unfold zg wY;cases t _<;>rfl
@[simp]def alq(i):plain (.int i)=U:=(rfl)
@[simp]def alp(xs:List W):plain (.t xs)=j0 xs:=(rfl)
@[simp]def ajQ:j0 []=U:=(rfl)
@[simp]def ait(x:W)(xs:List W):j0 (x::xs)=(plain x&&j0 xs):=(rfl)
def zy(xs):j0 xs=U↔∀x∈xs,plain x=U:=by induction xs with|nil=>simp|cons x xs ih=>simp[ih]
@[simp]def aoJ(Z:Ws):gD Z=.ok U:=(rfl)
@[simp]def an6(k)(it)(g)(t)(e)(Z):uy k it g t e Z=(it Z).bind λxs=>if xs.length<=lim then wY (bJ g t e (List.replicate k .o++Z) xs)else .b:=by unfold uy;congr 1;funext xs;cases bJ g t e _ _<;>rfl
@[simp]def aog(k)(it)(g)(t)(e)(Z):dD k it g t e Z=(uy k it g t e Z).bind λxs=>.ok (.l xs):=(rfl)
noncomputable def ϴ(o:Out)(b:SF):Out:=match o with|.n Ô=>b Ô|o=>o
@[simp]def aoW(Z)(b):ϴ (.n Z) b=b Z:=(rfl)
@[simp]def aoV(w)(b):ϴ (.r w) b=.r w:=(rfl)
@[simp]def ao2(a b)(Z):aw a b Z=ϴ (a Z) b:=(rfl)
@[simp]def aq8(Z):à Z=.n Z:=(rfl)
@[simp]def ao1(i)(e)(Z):aN i e Z=ø Z (e Z) λw=>.n (Z.set i<|.v w):=(rfl)
@[simp]def anH(i)(l)(Z):kL i l Z=ø Z (l Z) λws=>.n (Z.set i<|.w ws):=(rfl)
@[simp]def aq9(t)(a b)(Z):Ü t a b Z=ø Z (t Z) λx=>if x=U then a Z else b Z:=by unfold Ü;congr 1;funext x;cases x<;>rfl
@[simp]def ao3(e)(Z):aP e Z=ø Z (e Z) λw=>.r w:=(rfl)
@[simp]def anI(e)(Z):Rj e Z=ø Z (e Z) λ_=>.n Z:=(rfl)
def Qs(Z:Ws)(i:Nat)(r:Res W):Option Sl->Out|some (.w ws)=>ø Z r λw=>if ws.length<lim then .n (Z.set i<|.w<|ws++[w])else .b|_=>.b
@[simp]def ao6(i:Nat)(e:EF)(Z:Ws):zt i e Z=Qs Z i (e Z) Z[i]?:=by unfold zt Qs;split<;>simp_all
@[simp]def aqE(Z)(i)(r)(ws):Qs Z i r (L<|.w ws)=ø Z r λw=>if ws.length<lim then .n (Z.set i<|.w<|ws++[w])else .b:=(rfl)
@[simp]def ao4(it)(g)(b)(Z):kq it g b Z=ø Z (it Z) λxs=>forL g b xs Z:=(rfl)
@[simp]def aoX(c)(Z)(b):ϴ (.x c Z) b=.x c Z:=(rfl)
noncomputable def Ng(o:Out)(k:W->Ws->Out):Out:=match o with|.x c Z=>k c Z|o=>o
@[simp]def aoE(Z)(k):Ng (.n Z) k=.n Z:=(rfl)
@[simp]def aoF(c)(Z)(k):Ng (.x c Z) k=k c Z:=(rfl)
@[simp]def ao0(b:SF)(d:String)(h:SF)(Z:Ws):Ge b d h Z=Ng (b Z) (hOut d h):=by unfold Ge Ng;rfl
@[simp]def ak1(b:SF)(d:String)(i:Nat)(h:SF)(Z:Ws):tF b d i h Z=Ng (b Z) (n8 d i h):=by unfold tF Ng;rfl
noncomputable def Et(o:Out):Out:=match o with|.x _ _=>.b|o=>o
@[simp]def apF(Z):Et (.n Z)=.n Z:=(rfl)
@[simp]def apT(d:String)(h:SF)(c:W)(Z:Ws):hOut d h c Z=if cF d c then Et (h Z)else .b:=by unfold hOut Et;rfl
noncomputable def Iu(i:Nat)(o:Out):Out:=match o with|.n é=>.n<|é.set i .o|.r w=>.r w|_=>.b
@[simp]def aom(i:Nat)(Z:Ws):Iu i (.n Z)=.n (Z.set i .o):=(rfl)
@[simp]def an9(d:String)(i:Nat)(h:SF)(c:W)(Z:Ws):n8 d i h c Z=if cF d c then Iu i (h<|Z.set i<|.v c)else .b:=by unfold n8 Iu;rfl
noncomputable def fin:Out->Res W|.r w=>.ok w|.n _=>.ok .n|.x c _=>.x c|_=>.b
@[simp]def BR(w):fin (.r w)=.ok w:=(rfl)
@[simp]def arF(c)(Z):fin (.x c Z)=.x c:=(rfl)
@[simp]def run_eq(n:Nat)(t:SF)(ws:List W):run n t ws=fin (t<|ws.map .v++List.replicate (n-ws.length) .o):=by unfold run fin;rfl
@[simp]def arw:lim=1000000:=(rfl)
noncomputable def zT(o:Out)(k:SF):Out:=match o with|.n é=>k é|.ct é=>k é|.bk é=>.n é|o=>o
@[simp]def an4(Z)(k):zT (.n Z) k=k Z:=(rfl)
@[simp]def an3(w)(k):zT (.r w) k=.r w:=(rfl)
def mO(c)(b)(n)(Z):gc c b (n+1) Z=ø Z (c Z) λx=>if x=U then zT (b Z) (gc c b n)else .n Z:=by
 show ø Z _ _=_;congr 1;funext x;cases x;.rfl
 .cases b Z<;>rfl
def n9(g)(b)(x)(xs)(Z):forL g b (x::xs) Z=ø Z (g x Z) λa=>zT (b a) (forL g b xs):=rfl
theorem oD{g t e Z}{i:Type}{b f}:∀{xs:List i},(∀x∈xs,∃a,g (b x) Z=.ok a/\t a=.ok U/\e a=.ok (f x))->bJ g t e Z (xs.map b)=.ok (xs.map f)|[],_=>rfl|x::xs,h=>by obtain⟨a,c,k,d⟩:=h x (by simp);have j:=oD (xs:=xs) λy l=>h y (by grind);simp [bJ,c,k,d,j]
end WL
namespace ML
open PySem WL
abbrev S3:=Int×Int×Int
noncomputable def Ī(p:S3):W:=.t [.int p.1,.int p.2.1,.int p.2.2]
noncomputable def Ğ(p:Int×Int):W:=.t [.int p.1,.int p.2]
def ļ(f:List S3):W:=.t<|f.map Ī
noncomputable def qK(p:S3):Int×Int:=(p.1,p.2.1)
@[simp]def apw(n:Nat)(i:Int):ě n (.int i)=U:=(rfl)
@[simp]def aro(n:Nat)(b:Bool):ě n (.B b)=U:=(rfl)
@[simp]def apu(n:Nat)(xs:List W):ě n (.t xs)=hI n xs:=(rfl)
@[simp]def apv(n:Nat)(xs:List W):ě n (.l xs)=hI n xs:=(rfl)
@[simp]def anQ(n:Nat):hI (n+1) []=U:=(rfl)
@[simp]def alQ(n:Nat)(x:W)(xs:List W):hI (n+1) (x::xs)=(ě n x&&hI (n+1) xs):=(rfl)
@[simp]def ap8(a b:Str):eqv (.str a) (.str b)=(a==b):=(rfl)
@[simp]def ap9(a b:Int):eqv (.int a) (.int b)=(a==b):=(rfl)
@[simp]def ap7(a b:List W):eqv (.t a) (.t b)=ahe a b:=(rfl)
@[simp]def ap5:ahe [] []=U:=(rfl)
@[simp]def ap6(x y:W)(xs ys:List W):ahe (x::xs) (y::ys)=(eqv x y&&ahe xs ys):=(rfl)
@[simp] def arn (n:Nat) (p:Int×Int):ě (n+1) (Ğ p)=U:=by simp[Ğ]
@[simp] theorem arl (n:Nat) (p:S3):ě (n+1) (Ī p)=U:=by simp[Ī]
theorem mC (n ):∀ a,(∀ x∈a,ě n x=U)->hI (n+1) a=U
  | [],_=>rfl
  | x::a,h=>by simp;exact⟨h x (by simp),mC n _ λy b=>h y<|by grind⟩
@[simp]def ZR(n)(f):ě (n+2) (ļ f)=U:=by exact mC _ _ λx a=>by obtain⟨p,_,rfl⟩:=Ł.mp a;simp
def YQ(p q):eqv (Ğ p) (Ğ q)=decide (p=q):=by obtain⟨a,b⟩:=p;obtain⟨c,d⟩:=q;rw[ϯ];simp[Ğ]
@[simp]def arq(p q):oEq (Ğ p) (Ğ q)=.ok (.B<|decide (p=q)):=by have:tD (Ğ p) (Ğ q)=O:=rfl;simp[oEq,this,YQ]
@[simp] def anM (p:S3):plain (Ī p)=U:=by simp[Ī]
@[simp] theorem M4 (f:List S3):j0 (f.map Ī)=U:=(zy _).mpr λx a=>by
  obtain⟨p,_,rfl⟩:=Ł.mp a
  simp
def VR{f p k}(h0:0<=k)(h:f[k.toNat]?=L p):Ą (ļ f) (.int k)=.ok (Ī p):=by simp[ļ,NB _ h0,h]
noncomputable def ŗ(p:S3)(m n:Int):Int×Int:=if p.2.2=0 then(p.1+n,p.2.1+m)else if p.2.2=1 then(p.1-m,p.2.1+n)else if p.2.2=2 then(p.1-n,p.2.1-m)else(p.1+m,p.2.1-n)
theorem toNat_inj{a b:Char}(h:a.toNat=b.toNat):a=b:=Char.ext (UInt32.toNat_inj.mp h)
@[simp]def agR(a b):(Str.ofString a=Str.ofString b)=(a=b):=by
 apply propext;constructor
 .intro h;rw[Vq,Vq]at h;have c:a.toList.map Char.toNat=b.toList.map Char.toNat:=by grind
  exact String.toList_inj.mp (List.map_inj_right (λ_ _=>toNat_inj)|>.mp c)
 .intro h;rw[h]
@[simp]def agS(a b):(Str.ofString a==Str.ofString b)=(a==b):=by rw[ϯ];simp
def AV(c:Char):c.toNat<0x110000:=by have h:=c.valid;have a:c.toNat=c.val.toNat:=rfl;omega
@[simp]def XF(n)(a):ě n (.str<|Str.ofString a)=U:=by show(Str.ofString a).cps.all _=U;simp only[Vq];simp only[List.all_toArray,List.all_map,ş,Function.comp,Lb];intro c _;exact AV c
@[simp] def apC (a b:Str):oEq (.str a) (.str b)=.ok (.B<|decide (a=b)):=by show Res.ok (W.B<|a==b)=_;rw[Tq]
theorem VF (x ) (ys ):ı x (.t ys)=if ě 50 x&&hI 51 ys then .ok (.B<|bY x ys) else .b:=(rfl)
@[simp] def aj3 (x:W):bY x []=O:=by simp[bY]
@[simp] theorem w9 (x y:W) (ys:List W):bY x (y::ys)=(eqv y x || bY x ys):=by simp[bY]
theorem kS (x:W) (ys:List W):fL (.l ys) [x]=if ě 50 x&&hI 51 ys&&decide (ys.length<=lim) then (match idx x 0 ys with|some k=>.ok<|.int k|none=>.b) else .b:=(rfl)
@[simp] def yA (x y:W) (k:Nat) (ys:List W):idx x k (y::ys)=if eqv y x then L k else idx x (k+1) ys:=by simp[idx]
theorem QW (xs:List W) (n:Int) (k:Nat) (hk:xs.length=k) (h0:0<k):∃ x∈xs,Ą (.l xs) (.int<|n%k)=.ok x:=by
  have a:=Int.emod_nonneg n (b:=(k:Int)) (by omega)
  have b:=Int.emod_lt_of_pos n (b:=(k:Int)) (by omega)
  have c:(n%(k:Int)).toNat<xs.length:=by omega
  exact⟨xs[(n%(k:Int)).toNat],Ai c,by rw[fV,NB _ a,ν c];rfl⟩
def W3{ws:List String}(n:Int)(k:Nat)(hk:ws.length=k)(a:0<k):∃w∈ws,Ą (.l<|ws.map λ(w:String)=>.str<|Str.ofString w) (.int<|n%k)=.ok (.str w):=by obtain⟨x,b,e⟩:=QW (ws.map λ(w:String)=>.str<|Str.ofString w) n k (by simp[hk]) a;obtain⟨w,hw,rfl⟩:=Ł.mp b;exact⟨w,hw,e⟩
noncomputable def vl(s:Int×Int):Nat->List S3->Option Nat|_,[]=>Y|k,p::f=>if qK p=s then L k else vl s (k+1) f
noncomputable def Χ:Option Nat->W|none=>.n|some k=>.int k
@[simp]def anP(k):Χ (L k)=.int k:=(rfl)
theorem kA(s):∀k f i,vl s k f=L i->k<=i/\i<k+f.length
|_,[],_,h=>by simp[vl]at h|k,p::f,i,h=>by
 simp [vl]at h;split at h;.cases h;simp
 .have:=kA s _ f i h;simp ;omega
inductive Ϲ where|none|any|same|left|about|right|ô|opposite
inductive Ue where|head|side|Υ|rights|ň|ń|ŉ
noncomputable def Ϲ.w:Ϲ->String|.none=>"none"|.any=>"any"|.same=>"same"|.left=>"left"|.about=>"about"|.right=>"right"|.ô=>"partner"|.opposite=>"opposite"
noncomputable def Ue.w:Ue->String|.head=>"head"|.side=>"side"|.Υ=>"lefts"|.rights=>"rights"|.ň=>"inward"|.ń=>"outward"|.ŉ=>"sideways"
inductive ũ where|ĕ(l:Ue)|at(a r:Int)(w:Ϲ)|inner(n:Int)
def ũ.W:ũ->WL.W|.ĕ l=>.t [.str l.w]|.at a r w=>.t [.str "at",.int a,.int r,.str w.w]|.inner n=>.t [.str "inner",.int n]
def Lh(a:Bool)(t:ũ):WL.W:=if a then .t [.str "not",t.W]else t.W
noncomputable def Mp(s:Int×Int):Int:=if(if s.2<0 then -s.2 else s.2)>if s.1<0 then -s.1 else s.1 then if s.2<0 then -s.2 else s.2 else if s.1<0 then -s.1 else s.1
noncomputable def dU(f:List S3)(k:Nat):Int:=(f.getD k (0,0,0)).2.2
def SO(f:List S3)(d:Nat)(p:S3)(w:Ϲ):Option Nat->Bool
|none=>match w with|.none=>U|_=>O
|some k=>match w with|.none=>O|.any=>U|.same=>decide (dU f k=p.2.2)|.left=>decide (dU f k=(p.2.2+1)%4)|.about=>decide (dU f k=(p.2.2+2)%4)|.right=>decide (dU f k=(p.2.2+3)%4)|.ô=>decide ((k:Int)=if(d:Int)%2=0 then(d:Int)+1 else d-1)|.opposite=>decide ((k:Int)=(d+4)%8)
inductive Go where|ahead|back|left|right
inductive Tn where|left|right|about
noncomputable def Go.w:Go->String|.ahead=>"ahead"|.back=>"back"|.left=>"left"|.right=>"right"
noncomputable def Tn.w:Tn->String|.left=>"left"|.right=>"right"|.about=>"about"
inductive Yb where|go(g:Go)(n:Int)|turn(t:Tn)
def Yb.W:Yb->WL.W|.go g n=>.t [.str g.w,.int n]|.turn t=>.t [.str "turn",.str t.w]
structure Rl where ts:List (Bool×ũ)ss:Option (List Yb)
def QI(ts:List (Bool×ũ)):WL.W:=.t (ts.map λp=>Lh p.1 p.2)
def Tw:Option (List Yb)->WL.W|none=>.t [.t [.str "stay"]]|some l=>.t<|l.map Yb.W
def Rl.W(r:Rl):WL.W:=.t [QI r.ts,Tw r.ss]
def Ŏ(c:List Rl):WL.W:=.l<|c.map Rl.W
def ry{ι:Type}(n)(g)(l:List ι)(h:∀x∈l,ě n (g x)=U):hI (n+1) (l.map g)=U:=mC n _ λx a=>by grind
def UR{c}{k:Nat}(hk):Ą (Ŏ c) (.int k)=.ok c[k].W:=by simp[Ŏ,gT,hk]
def Ϫ(p:S3):Prop:=0<=p.2.2/\p.2.2<4
def km{α}(xs:List α):ŏ xs (-1)=xs.getLast?:=by unfold ŏ Ů;cases xs with|nil=>rfl|cons x xs=>
 have h:¬0 <=-1:=by omega
 rw[Õ h];have a:-((x::xs).length:Int)<=-1:=by grind
 rw[Ð a];simp only[Xp,List.getLast?_eq_getElem?];congr 1;omega
end ML
namespace SG
open PySem SF
noncomputable def jn(a:List Nat):List (List Nat)->List Nat|[]=>[]|[x]=>x|x::y::r=>x++(a++jn a (y::r))
def Ni(sub a r:List Nat):Prop:=∀j,j<a.length->sub.isPrefixOf ((a++r).drop j)=O
theorem v5(sub:List Nat)(k:Nat):∀(a r:List Nat)(i free:Nat),Ni sub a r->ml sub k i free (a++r)=ml sub k (i+a.length) free r
|[],r,i,free,_=>by simp|c::a,r,i,free,h=>by
 have b:=h 0 (by simp);simp only[Kb,Yd]at b;have d:=v5 sub k a r (i+1) free λj e=>by have:=h (j+1) (by simp;omega);simpa using this
 simp only[Kb,ml,b,Mq,Of,Ib,d,Ĩ];congr 1;omega
theorem yb(sub:List Nat)(k:Nat):∀(a r:List Nat)(i free:Nat),i+a.length<=free->ml sub k i free (a++r)=ml sub k (i+a.length) free r
|[],r,i,free,_=>by simp|c::a,r,i,free,h=>by
 have b:Nat.ble free i=O:=by rw[Ml];intro z;rw[Ma]at z;simp at h;omega
 have d:=yb sub k a r (i+1) free (by simp at h;omega);simp only[Kb,ml,b,Bool.false_and,Of,Ib,d,Ĩ];congr 1;omega
def SW(sub r:List Nat)(i:Nat)(hs:sub≠[]):ml sub sub.length i i (sub++r)=i::ml sub sub.length (i+sub.length) (i+sub.length) r:=by cases sub with|nil=>exact absurd M hs|cons c t=>
 have a:(c::t).isPrefixOf (c::(t++r))=U:=by rw[Fm];exact⟨r,M⟩
 have b:Nat.ble i i=U:=by rw[Ma];exact í _
 have d:=yb (c::t) (c::t).length t r (i+1) (i+(c::t).length) (by simp;omega);simp only[Kb,ml,a,b,Bool.and_self,ϭ,d];congr 2;simp;omega
noncomputable def pos(k:Nat):Nat->List (List Nat)->List Nat|_,[]=>[]|_,[_]=>[]|i,p::q::ps=>(i+p.length)::pos k (i+p.length+k) (q::ps)
def Good(sub:List Nat):List (List Nat)->Prop|[]=>True|[p]=>Ni sub p []|p::q::ps=>Ni sub p (sub++jn sub (q::ps))/\Good sub (q::ps)
theorem CD{sub:List Nat}(hs:sub≠[]):∀(ps:List (List Nat))(i:Nat),Good sub ps->ml sub sub.length i i (jn sub ps)=pos sub.length i ps
|[],i,_=>by simp[jn,ml,pos]|[p],i,h=>by have:=v5 sub sub.length p [] i i h;simp only[Ξ]at this;simp only[jn,pos,this,ml]|p::q::ps,i,h=>by
 have free:∀(l:List Nat)(a b:Nat),b<=a->ml sub sub.length a b (sub++l)=ml sub sub.length a a (sub++l):=λl a b e=>by cases sub with|nil=>exact absurd M hs|cons c t=>
  have d:Nat.ble b a=U:=by rw[Ma];exact e
  have j:Nat.ble a a=U:=by rw[Ma];exact í _
  have g:(c::t).isPrefixOf (c::(t++l))=U:=by rw[Fm];exact⟨l,M⟩
  simp only[Kb,ml,d,j,g,Bool.and_self,ϭ]
 have f:=v5 sub sub.length p (sub++jn sub (q::ps)) i i h.1;simp only[jn,pos];rw[f,free _ _ _ (by omega),SW sub _ _ hs,CD hs (q::ps) (i+p.length+sub.length) h.2]
theorem XB{sub:List Nat}:∀(ps:List (List Nat))(pre:List Nat),ps≠[]->Uc (pre++jn sub ps) sub.length pre.length (pos sub.length pre.length ps)=ps.map λp=>⟨p.toArray⟩
|[],pre,h=>absurd M h|[p],pre,_=>by simp[jn,pos,Uc]|p::q::ps,pre,_=>by
 have a:=XB (sub:=sub) (q::ps) (pre++p++sub) (by simp);have e:pre++jn sub (p::q::ps)=pre++p++sub++jn sub (q::ps):=by simp[jn]
 have b:(pre++p++sub).length=pre.length+p.length+sub.length:=by simp;omega
 rw[b]at a;simp only[pos,Uc,ņ];rw[Xl];refine⟨?_,?_⟩;.rw[e];simp[Ll]
 .rw[e];exact a
def E1{sub:List Nat}(hs:sub≠[])(ps:List (List Nat))(a:ps≠[])(h:Good sub ps):lK ⟨(jn sub ps).toArray⟩ ⟨sub.toArray⟩=ps.map λp=>⟨p.toArray⟩:=by have e:=CD hs ps 0 h;have c:=XB (sub:=sub) ps [] a;unfold lK;simp only[Str.length,ς];simp only[Ki,Up]at c;match ps,a,h,e,c with|[p],_,_,e,c=>simp only[pos]at e;rw[e];simp[jn]|p::q::ps,_,_,e,c=>rw[e];simp only[pos]at c⊢;exact c
theorem yv(a:List Nat):∀ys:List Str,nY a ys=jn a (ys.map (·.cps.toList))|[]=>rfl|[x]=>rfl|x::y::r=>by have b:=yv a (y::r);simp only[nY,jn,ņ]at b⊢;rw[b]
theorem YD(a:List Nat):∀(xs ys:List (List Nat)),xs≠[]->ys≠[]->jn a (xs++ys)=jn a xs++(a++jn a ys)|[],_,h,_=>absurd M h|[x],y::ys,_,_=>rfl|[x],[],_,h=>absurd M h|x::z::xs,ys,_,h=>by have b:=YD a (z::xs) ys (by simp) h;simp only[Kb,jn]at b⊢;rw[b];simp
def no_space{a:List Nat}(h:32∉a)(r:List Nat):Ni [32] a r:=λj b=>by rw[Ml];intro z;rw[Fm]at z;rw[List.drop_append_of_le_length (by omega),Pc b]at z;obtain⟨t,e⟩:=z;simp only[Kb,Ki,Xl]at e;exact h<|e.1▸Ai b
theorem yC{sub:List Nat}{c:Nat}(hs:∃t,sub=c::t):∀(ps:List (List Nat)),(∀p∈ps,∀r,(r=[]\/∃t,r=c::t)->Ni sub p r)->Good sub ps|[],_=>trivial|[p],h=>h p (by simp) []<|.inl rfl|p::q::ps,h=>by obtain⟨t,e⟩:=hs;exact⟨h p (by simp) _ (.inr ⟨t++jn sub (q::ps),by rw[e];rfl⟩),yC ⟨t,e⟩ (q::ps) λx a=>h x<|Ħ _ a⟩
end SG
namespace SG
open PySem SF PySem.StrLaws PySem.Builtin PySem.Builtin.Str
def J(a:Str)(ws:List Str):Str:=⟨(nY a.cps.toList ws).toArray⟩
def Ug(a:Str)(ws:List Str):J a ws=⟨(jn a.cps.toList<|ws.map (·.cps.toList)).toArray⟩:=by unfold J;rw[yv]
def m6(x:Str):(⟨x.cps.toList.toArray⟩:Str)=x:=by cases x;rfl
def GW(a:Str)(hs:a.cps.toList≠[])(ws:List Str)(hw:ws≠[])(h:Good a.cps.toList (ws.map (·.cps.toList))):lK (J a ws) a=ws:=by
 have:=E1 hs (ws.map (·.cps.toList)) (by simpa using hw) h;rw[m6]at this;rw[Ug,this,Xd];conv=>rhs;rw[<-List.map_id ws]
 exact List.map_congr_left λx _=>m6 x
def Jj(a:Str)(xs ys:List Str)(b:xs≠[])(hy:ys≠[]):J a (xs++ys)=J a xs++a++J a ys:=by rw[Ug,Ug,Ug,Li,YD _ _ _ (by simpa using b)<|by simpa using hy];show _=(⟨_++_++_⟩:Str);congr 1;apply Vf.mp;simp
def Xg(a x:Str):J a [x]=x:=m6 x
def LN(a:Str):∀ws:List Str,(J a ws).length<=(ws.map (·.length)).sum+ws.length*a.length:=by intro ws;rw[Ug];show(jn _ _).toArray.size<=_;rw[ς];induction ws with|nil=>simp[jn]|cons x ws ih=>cases ws with|nil=>simp[jn,Str.length]|cons y ws=>simp only[ņ,jn,ϕ,List.sum_cons,Ĩ]at ih⊢;simp only[Str.length,Qf]at ih⊢;rw[Nat.add_mul,Nat.one_mul];omega
end SG
namespace Ć
open PySem WL
noncomputable def hG:W:=.t [.t [.int<|-1,.int<|-3,.int 0],.t [.int 1,.int<|-3,.int 0],.t [.int 3,.int<|-1,.int 1],.t [.int 3,.int 1,.int 1],.t [.int 1,.int 3,.int 2],.t [.int<|-1,.int 3,.int 2],.t [.int<|-3,.int 1,.int 3],.t [.int<|-3,.int<|-1,.int 3]]
noncomputable def bM:W:=.int 8
noncomputable def iO:W:=.int 200
noncomputable def oE:W:=.t [.t [.int 0,.int 1],.t [.int<|-1,.int 0],.t [.int 0,.int<|-1],.t [.int 1,.int 0]]
noncomputable def iM:W:=.int 4
noncomputable def gS:W:=.ġ [.str "same",.str "left",.str "about",.str "right"] [.int 0,.int 1,.int 2,.int 3]
noncomputable def iP:W:=.t [.str "inward",.str "outward",.str "sideways"]
noncomputable def iv:W:=.ġ [.str "ahead",.str "back",.str "left",.str "right"] [.t [.int 1,.int 0],.t [.int<|-1,.int 0],.t [.int 0,.int<|-1],.t [.int 0,.int 1]]
noncomputable def bL:W:=.int 400
noncomputable def JF:W:=.ġ [.str "heads",.str "sides",.str "lefts",.str "rights"] [.t [.str "head"],.t [.str "side"],.t [.str "lefts"],.t [.str "rights"]]
noncomputable def fv:W:=.int 60
noncomputable def l8:W:=.int 12
noncomputable def l6:W:=.int 6
noncomputable def l7:W:=.int 8
noncomputable def bX:W:=.int 9
noncomputable def eR:W:=.int 200
noncomputable def jb:W:=.int 9
noncomputable def MF:W:=.t [.str "none",.str "any",.str "same",.str "left",.str "about",.str "right",.str "partner",.str "opposite"]
noncomputable def ma:W:=.t [.str "head",.str "side",.str "lefts",.str "rights",.str "inward",.str "outward",.str "sideways"]
noncomputable def jd:W:=.t [.str "ahead",.str "back",.str "left",.str "right"]
noncomputable def qq:W:=.t [.str "left",.str "right",.str "about"]
noncomputable def l9:W:=.int 60
noncomputable def jc:W:=.int 8
noncomputable def vc:W:=.str "abcdefghijklmnopqrstuvwxyz"
noncomputable def UB:W:=.t [.str "times",.str "heads",.str "sides",.str "lefts",.str "rights",.str "inner",.str "couples"]
noncomputable def l5:W:=.int 60
noncomputable def dv:W:=.int 200
noncomputable def oF:W:=.int 6
noncomputable def RE:W:=.t [.str "heads",.str "sides",.str "lefts",.str "rights"]
def sV:SF:=aw (Ü (Ε (pP<|tB<|ç bQ<|aa É<|aa (eC<|.ty "str") ak)<|pP<|tB<|l2 oLe oLe Ù (ç Yg<|aa É ak)<|eC jc) jY à)<|aP<|mn (Ì g7 É<|eC UB)<|ç Ϣ<|aa (dD 1 (Wy É) (ax 0) gD<|Ì Yi É<|eC vc) ak
def C3:=run 1 sV
def j7:SF:=Ü (tB<|eQ (ç Ah<|aa Ý ak) É) (aP Ý) à
def mZ:SF:=aw (kq (jz Ï<|Ì fK Ø Ù) (ax 3) j7)<|aP<|eC .n
def oj:=run 4 mZ
def ff:SF:=aw (aN 3<|av oj<|aa É<|aa Ï<|aa Ø ak)<|aw (Ü (tB<|Ì ϐ Ý<|eC .n) jY à)<|aP Ý
def bH:=run 4 ff
def mV:SF:=aw (Ü (vF (tB<|eQ É<|eS "turn")<|tB<|Ì ı Ï<|eC qq) (aP<|eB<|aa É<|aa Ï ak) à)<|aw (Ü (tB<|Ì g7 É<|eC jd) jY à)<|aP<|eB<|aa É<|aa (av bH<|aa Ï<|aa Ù<|aa (eC jb) ak) ak
def wu:=run 2 mV
def lF:SF:=aw (Ü (tB<|eQ É<|eS "stay") (aP<|eB<|aa (eB<|aa (eS "stay") ak) ak) à)<|aw (aN 1<|ov "str" gq É<|aa (eS " ") ak)<|aw (Ü (Ε (tB<|Ì Ω (Ì oMod (ç eT<|aa Ï ak) ċ) æ)<|tB<|Ì Ea (ç eT<|aa Ï ak)<|Ì rz ċ<|eC l7) jY à)<|aP<|ç md<|aa (dD 1 (zY æ<|ç eT<|aa Ï ak) (ax 0) gD<|av wu<|aa (eJ Ø É)<|aa (eJ Ø<|Ì fK É Ù) ak) ak
def lY:=run 2 lF
def sS:SF:=aw (Ü (Ε (tB<|Ì Ω (ç eT<|aa É ak)<|eI 4)<|tB<|Ì g7 (eJ É<|eI 3)<|eC MF) jY à)<|aw (aN 1<|av bH<|aa (eJ É Ù)<|aa (Đ fU<|eC bX)<|aa (eC bX) ak)<|aw (aN 2<|av bH<|aa (eJ É ċ)<|aa (Đ fU<|eC bX)<|aa (eC bX) ak)<|aw (Ü (vF (tB<|eQ Ï æ)<|tB<|eQ Ø æ) jY à)<|aP<|eB<|aa (eS "at")<|aa Ï<|aa Ø<|aa (eJ É<|eI 3) ak
def D3:=run 3 sS
def lG:SF:=aw (Ü (tB<|Ì Ω (ç eT<|aa É ak) ċ) jY à)<|aP<|eB<|aa (eS "inner")<|aa (av bH<|aa (eJ É Ù)<|aa æ<|aa (eC eR) ak) ak
def uP:=run 1 lG
def gh:SF:=aw (Ü (tB<|eQ (eJ É æ)<|eS "at") (aP<|av D3<|aa É ak) à)<|aw (Ü (tB<|eQ (eJ É æ)<|eS "inner") (aP<|av uP<|aa É ak) à)<|aw (Ü (Ε (tB<|Ì Ω (ç eT<|aa É ak) Ù)<|tB<|Ì g7 (eJ É æ)<|eC ma) jY à)<|aP<|eB<|aa (eJ É æ) ak
def gy:=run 1 gh
def mU:SF:=aw (aN 1<|ov "str" gq É<|aa (eS " ") ak)<|aw (Ü (vF (tB<|Ì Ea (ç eT<|aa Ï ak) Ù)<|tB<|eQ (eJ Ï æ)<|eS "not") (aP<|eB<|aa (eS "not")<|aa (av gy<|aa (Ť Ï (cS Ù) ο) ak) ak) à)<|aP<|av gy<|aa Ï ak
def wt:=run 2 mU
def lE:SF:=aw (aN 1<|ov "str" gq É<|aa (eS " and ") ak)<|aw (Ü (tB<|Ì Ea (ç eT<|aa Ï ak)<|eC l6) jY à)<|aP<|ç md<|aa (dD 1 (lW Ï) (ax 0) gD<|av wt<|aa É ak) ak
def uO:=run 2 lE
def mW:SF:=aw (Ü (tB<|ov "str" jw É<|aa (eS "> ") ak) (aP<|eB<|aa (eB ak)<|aa (av lY<|aa (Ì v7 É ċ) ak) ak) à)<|aw (aN 1<|ov "str" ur É<|aa (eS " > ") ak)<|aw (Ü (tB<|eQ (eJ Ï Ù)<|eS "") jY à)<|aP<|eB<|aa (av uO<|aa (eJ Ï æ) ak)<|aa (av lY<|aa (eJ Ï ċ) ak) ak
def wy:=run 2 mW
def mY:SF:=aw (Ü (pP<|tB<|ç bQ<|aa É<|aa (eC<|.ty "str") ak) jY à) (aw (aN 1<|ov "str" gq É<|aa (eS " ; ") ak)<|aw (Ü (tB<|Ì Ea (ç eT<|aa Ï ak)<|eC l8) jY à)<|aP<|dD 1 (lW Ï) (ax 0) gD<|av wy<|aa É ak)
def wz:=run 2 mY
def yo:SF:=Ü (pP<|tB<|av C3<|aa Ø ak) jY à
def UG:SF:=Ü (tB<|Ì Ea (ç Yg<|aa Ï ak)<|eC l9) jY à
def VG:SF:=kq (Dg 1) (ax 2) yo
def BH:EF:=av wz<|aa (eJ Ï Ø) ak
def yG:=Jy UG VG BH
def j8:SF:=aw (Hj (ov "str" ur Ø<|aa (eS ":") ak)<|vn<|di (ax 3)<|di (ax 4)<|di (ax 5) vo)<|jX 1 Ŋ Ý
def m1:SF:=aw (aN 0<|lb<|Ms ["about:> turn about","lt:> turn left","walk:at 2 0 none > ahead 2"]) (aw (aN 0<|Ì fK É<|lb<|aa (eS "swap:at 0 2 same > right 2 ; at 0 -2 same > left 2 ; > stay") ak)<|aw (aN 0<|Ì fK É<|lb<|aa (eS "cross:at 6 0 about > ahead 6 ; at 2 0 about > ahead 2 ; > stay") ak)<|aw (aN 0<|Ì fK É<|lb<|aa (eS "hin:head and inward > ahead 2 ; > stay")<|aa (eS "hout:head and inner 1 > back 2 ; > stay") ak)<|aw (aN 0<|Ì fK É<|lb<|aa (eS "face:lefts > turn right ; > turn left") ak)<|aw (aN 0<|Ì fK É<|lb<|aa (eS "pass:at 2 0 any and not at 4 0 any > ahead 4 ; at 2 0 none > ahead 2 ; > stay") ak)<|aw (aN 0<|Ì fK É<|lb<|aa (eS "side:side and at 0 2 same > right 1 ahead 2 left 1 ; > stay") ak)<|aw (aN 0<|Ì fK É<|lb<|aa (eS "ring:outward > turn left ahead 2 ; inward > right 2 turn left ; > turn left") ak)<|aw (aN 0<|Ì fK É<|lb<|aa (eS "back:inner 3 and not inner 1 > back 2 ; > turn about") ak)<|aw (aN 0<|Ì fK É<|lb<|aa (eS "meet:at 0 2 partner > right 1 ; at 0 -2 partner > left 1 turn left ; > stay") ak)<|aw (aN 0<|Ì fK É<|lb<|aa (eS "own:at 0 2 partner > turn left ; at 0 -2 partner > turn right ; > stay") ak)<|aw (aN 0<|Ì fK É<|lb<|aa (eS "prom:lefts > right 4 ahead 2 turn left ; > right 2 ahead 4 turn left") ak)<|aw (LB 1)<|aw (kq (lW É) (ax 2) j8)<|zr 1<|aP Ï)
def jC:=run 6 m1
def eV:SF:=aw (Ü (tB<|Ì oLt Ï<|ç eT<|aa É ak) (aP<|eJ É Ï) à)<|aP æ
def cj:=run 2 eV
def sR:SF:=aP<|eB<|aa (eJ É æ)<|aa (eJ É Ù) ak
def eh:=run 1 sR
def gu:SF:=Ü (tB<|eQ (av eh<|aa (eJ É Ï) ak)<|av eh<|aa (eJ É Ø) ak) (aP<|eB<|aa Ï<|aa Ø ak) à
def gw:SF:=kq (jz (Ì fK Ï Ù)<|ç eT<|aa É ak) (ax 2) gu
def h8:SF:=aw (kq (fW<|ç eT<|aa É ak) (ax 1) gw)<|aP<|eC .n
def dn:=run 3 h8
def pN:SF:=aw (aN 1<|av dn<|aa É ak)<|aw (Ü (tB<|Ì fJ Ï<|eC .n) (jt "Meet"<|aa (eJ Ï æ)<|aa (eJ Ï Ù) ak) à)<|aP<|ç md<|aa É ak
def iJ:=run 2 pN
def gv:SF:=Ü (tB<|eQ (av eh<|aa Ý ak) Ï) (aP Ø) à
def xA:SF:=aw (kq (zZ É) (vn<|di (ax 2)<|di (ax 3) vo) gv)<|aP<|eC .n
def iF:=run 4 xA
def jl:SF:=aw (aN 3<|eJ (eC oE)<|eJ É ċ)<|aw (aN 4<|Ì fK (Ì rz (eJ Ý æ) Ï)<|Ì rz (eJ Ý Ù) Ø)<|aw (aN 5<|Ì pZ (Ì rz (eJ Ý Ù) Ï)<|Ì rz (eJ Ý æ) Ø)<|aP<|eB<|aa (Ì fK (eJ É æ) õ)<|aa (Ì fK (eJ É Ù) Ŋ) ak
def bC:=run 6 jl
def jV:SF:=aP<|ϓ (tB<|eQ (Ì oMod É ċ) æ) (Ì fK É Ù)<|Ì pZ É Ù
def kc:=run 1 jV
def hX:SF:=aP<|Ì oMod (Ì fK É<|eJ (eC gS) Ï)<|eC iM
def dm:=run 2 hX
def ZG:SF:=aw (Ü (tB<|Ì ϐ Ø<|eC .n) (aP<|eQ Ý<|eS "none") à)<|aw (Ü (tB<|Ì ı Ý<|eB<|aa (eS "none")<|aa (eS "any") ak) (aP<|eQ Ý<|eS "any") à)<|aP<|eQ (eJ (eJ Ï Ø) ċ)<|av dm<|aa (eJ É ċ)<|aa Ý ak
def rS:=run 4 ZG
def NC:SF:=aw (aN 3<|eJ É Ï)<|aw (aN 4<|eJ Ø<|eI 3)<|aw (aN 5<|av iF<|aa É<|aa (av bC<|aa Ý<|aa (eJ Ø Ù)<|aa (eJ Ø ċ) ak) ak)<|aw (Ü (tB<|eQ õ<|eS "partner") (aP<|eQ Ŋ<|av kc<|aa Ï ak) à)<|aw (Ü (tB<|eQ õ<|eS "opposite") jY à)<|aP<|av rS<|aa Ý<|aa É<|aa Ŋ<|aa õ ak
def Hv:=run 6 NC
def pO:SF:=aP<|ç Zg<|aa (ç Vg<|aa (eJ É æ) ak)<|aa (ç Vg<|aa (eJ É Ù) ak) ak
def fb:=run 1 pO
def XG:SF:=aw (aN 1<|av fb<|aa (av eh<|aa É ak) ak)<|aw (aN 2<|av fb<|aa (av bC<|aa É<|aa Ù<|aa æ ak) ak)<|aw (Ü (tB<|eQ Ø Ï) (aP<|eS "sideways") à)<|aP<|ϓ (tB<|Ì oLt Ø Ï) (eS "inward")<|eS "outward"
def wA:=run 3 XG
def sX:SF:=aP<|eQ (Ì oMod (Ì oDiv É ċ) ċ) æ
def uQ:=run 1 sX
def sW:SF:=aP<|eQ (Ì oMod É ċ) æ
def B3:=run 1 sW
def jW:SF:=aw (Ü (tB<|Ì ı Ï<|eB<|aa (eS "head")<|aa (eS "side") ak) (aP<|eQ (av uQ<|aa É ak)<|eQ Ï<|eS "head") à)<|aP<|eQ (av B3<|aa É ak)<|eQ Ï<|eS "lefts"
def ke:=run 2 jW
def YG(a:List W->Res W):SF:=aw (aN 3<|eJ Ø æ)<|aw (Ü (tB<|eQ Ý<|eS "not") (aP<|ϣ<|av a<|aa É<|aa Ï<|aa (eJ Ø Ù) ak) à)<|aw (Ü (tB<|eQ Ý<|eS "at") (aP<|av Hv<|aa É<|aa Ï<|aa Ø ak) à)<|aw (Ü (tB<|eQ Ý<|eS "inner") (aP<|Ì oLe (av fb<|aa (av eh<|aa (eJ É Ï) ak) ak)<|eJ Ø Ù) à)<|aw (Ü (tB<|Ì ı Ý<|eC iP) (aP<|eQ (av wA<|aa (eJ É Ï) ak) Ý) à)<|aP<|av ke<|aa Ï<|aa Ý ak
noncomputable def fY:Nat->List W->Res W|0=>λ_=>.b|n+1=>run 4<|YG<|fY n
def lU:SF:=Ü (tB<|ç Ϣ<|aa (dD 1 (lW<|eJ õ æ) (ax 0) gD<|av (fY 3)<|aa Ï<|aa Ø<|aa É ak) ak) (aP Ý) à
def pI:SF:=aw (kq (zZ Ø) (vn<|di (ax 3)<|di (ax 4) vo) lU)<|aP<|eC .n
def qk:=run 5 pI
def pH:SF:=aw (Ü (vF (tB<|Ì fJ Ý<|eC .n)<|tB<|Ì g7 Ï Ý) (aP<|eB ak) à)<|aw (aN 4<|av qk<|aa É<|aa Ï<|aa Ø ak)<|aw (Ü (tB<|Ì ϐ õ<|eC .n) (jt "Blind"<|aa Ï ak) à)<|aP<|eJ (eJ Ø õ) Ù
def qj:=run 5 pH
def iC:SF:=aP<|mn (ç bQ<|aa É<|aa (eC<|.ty "int") ak)<|ϣ<|ç bQ<|aa É<|aa (eC<|.ty "bool") ak
def iH:=run 1 iC
def kE:SF:=aP<|mn (av iH<|aa É ak)<|l2 oLe oLe (Đ fU<|eC iO) É<|eC iO
def iI:=run 1 kE
def jq:SF:=aP<|mn (av iH<|aa É ak)<|l2 oLe oLt æ É<|ç eT<|aa (eC oE) ak
def jD:=run 1 jq
def pM:SF:=aw (Ü (Ε (pP<|tB<|ç bQ<|aa É<|aa (eC<|.ty "tuple") ak)<|tB<|Ì Ω (ç eT<|aa É ak)<|eI 3) jY à)<|aP<|mn (av iI<|aa (eJ É æ) ak)<|mn (av iI<|aa (eJ É Ù) ak)<|av jD<|aa (eJ É ċ) ak
def k9:=run 1 pM
def nS:SF:=Ü (pP<|tB<|ç Ϣ<|aa (dD 1 (lW<|Ť Ø (cS Ù) ο) (ax 0) gD<|av k9<|aa É ak) ak) (jt "Out"<|aa Ï ak) à
def sU:SF:=aw (kq (zZ É) (vn<|di (ax 1)<|di (ax 2) vo) nS)<|aP É
def ot:=run 3 sU
def iY:SF:=aw (Ü (tB<|eQ (eJ Ï æ)<|eS "turn") (aP<|eB<|aa (eJ É æ)<|aa (eJ É Ù)<|aa (av dm<|aa (eJ É ċ)<|aa (eJ Ï Ù) ak) ak) à)<|aw (aN 2<|eJ (eC iv)<|eJ Ï æ)<|aw (aN 3<|av bC<|aa É<|aa (Ì rz (eJ Ø æ)<|eJ Ï Ù)<|aa (Ì rz (eJ Ø Ù)<|eJ Ï Ù) ak)<|aP<|eB<|aa (eJ Ý æ)<|aa (eJ Ý Ù)<|aa (eJ É ċ) ak
def ja:=run 4 iY
def kT:SF:=Ü (tB<|Ì Ω (eJ Ý æ)<|eS "stay") (zt 2<|uV 2<|av ja<|aa (eJ Ø<|Đ fU Ù)<|aa Ý ak) à
def qH:SF:=aw (kL 2<|Ie<|aa É ak)<|aw (kq (lW Ï) (ax 3) kT)<|zr 2<|aP Ø
def mF:=run 4 qH
def OC:SF:=aw (aN 3<|l1 1 (fW<|eC bM) (ax 0) gD<|bc qj<|aa Ï<|aa É<|aa Ø<|aa Ý ak)<|aP<|bc ot<|aa (dD 1 (fW<|eC bM) (ax 0) gD<|av mF<|aa (eJ Ï É)<|aa (eJ õ É) ak) ak
def Iv:=run 4 OC
def xD:SF:=aP<|bc iJ<|aa (dD 1 (lW<|bc Iv<|aa É<|aa Ï<|aa Ø ak) (ax 0) gD<|eJ É<|Đ fU Ù) ak
def dW:=run 3 xD
def m5:SF:=Ü (Ε (pP<|tB<|ç bQ<|aa Ï<|aa (eC<|.ty "str") ak)<|tB<|Ì nK Ï<|Mj "Book" É) jY à
def nU:LF:=Xz<|Ì Hg (Mj "Book" É) Ï
def bg:=Cd 2 m5 nU
def lD:SF:=aw (aN 2<|eJ É Ï)<|aw (aN 3<|av iF<|aa É<|aa (av bC<|aa Ø<|aa æ<|aa ċ ak) ak)<|aP<|ϓ (vF (tB<|Ì fJ Ý<|eC .n)<|tB<|eQ (eJ (eJ É Ý) ċ)<|eJ Ø ċ) Ý<|eC .n
def lX:=run 4 lD
def dQ:SF:=aw (Ü (tB<|Ì Ω (Ì oMod (ç eT<|aa É ak) ċ) æ) (gJ "NoPairs"<|aa (Wk É) ak) à)<|aP<|dD 1 (zY æ<|ç eT<|aa É ak) (ax 0) gD<|eB<|aa (eJ Ï É)<|aa (eJ Ï<|Ì fK É Ù) ak
def bP:=run 1 dQ
def ip:SF:=zt 2<|uV 2<|eJ É<|eJ Ø<|Đ fU Ù
def il:TF:=zg 2<|tB<|Ì fJ (eJ É<|eJ Ø<|Đ fU Ù)<|eC .n
noncomputable def uw:Ws->Nat:=λ_=>20
def kC:SF:=aw (kL 2<|Ie<|aa Ï ak)<|aw (Aw uw il ip)<|zr 2<|aP Ø
def k8:=run 3 kC
def xE:SF:=aw (aN 2<|av bC<|aa É<|aa æ<|aa Ï ak)<|aP<|eB<|aa (eJ Ø æ)<|aa (eJ Ø Ù)<|aa (eJ É ċ) ak
def kf:=run 3 xE
def lH:SF:=aP<|dD 1 (lW Ï) (ax 0) gD<|av kf<|aa (eJ Ï<|eJ É æ)<|aa Ù ak
def er:=run 2 lH
def bW:SF:=Ü (tB<|Ì g7 Ý Ï) (Jg 2<|bc bP<|aa (av k8<|aa Ï<|aa Ý ak) ak) à
def pK:SF:=aw (aN 1<|dD 1 (fW<|eC bM) (ax 0) gD<|av lX<|aa Ï<|aa É ak)<|aw (kL 2<|Ie ak)<|aw (kq (fW<|eC bM) (ax 3) bW)<|aw (Ü (zg 2<|tB<|Ì fJ (av dn<|aa (av er<|aa É<|aa Ø ak) ak)<|eC .n) (Zv "NoPairs"<|aa (eS "two pairs of one middle") ak) à)<|zr 2<|aP<|ç oJ<|aa Ø ak
def gz:=run 4 pK
def gP:=Ky "PairedFloor" gz er
def cY:SF:=aw (Ü (tB<|Ì ı (eJ Ø<|eI 3)<|eB<|aa (eS "partner")<|aa (eS "opposite") ak) (aP<|eC<|.B O) à)<|aw (aN 3<|eJ (dC "PairedFloor" 2 É) Ï)<|aw (aN 4<|av iF<|aa (dC "PairedFloor" 2 É)<|aa (av bC<|aa Ý<|aa (eJ Ø Ù)<|aa (Ì rz ċ<|eJ Ø ċ) ak) ak)<|aP<|av rS<|aa Ý<|aa (dC "PairedFloor" 2 É)<|aa õ<|aa (eJ Ø<|eI 3) ak
def bI:=run 5 cY
def cJ(a:List W->Res W):SF:=aw (Ü (tB<|eQ (eJ Ø æ)<|eS "not") (aP<|ϣ<|g9 "PairedFloor" a É<|aa Ï<|aa (eJ Ø Ù) ak) à)<|aw (Ü (tB<|eQ (eJ Ø æ)<|eS "at") (aP<|g9 "PairedFloor" bI É<|aa Ï<|aa Ø ak) à)<|aw (Ü (tB<|Ì ı (eJ Ø æ)<|eC iP) (aP<|eQ (av wA<|aa (eJ (dC "PairedFloor" 2 É) Ï) ak)<|eJ Ø æ) à)<|aP<|ç Ϣ<|aa (dD 1 (lW<|eJ (dC "PairedFloor" 1 É) Ï) (ax 0) gD<|av (fY 3)<|aa (dC "PairedFloor" 0 Ï)<|aa É<|aa Ý ak) ak
noncomputable def ay:Nat->List W->Res W|0=>λ_=>.b|n+1=>run 3<|cJ<|ay n
def cu:SF:=Ü (tB<|ç Ϣ<|aa (l1 1 (lW<|eJ Ý æ) (ax 0) gD<|g9 "PairedFloor" (ay 3) Ï<|aa Ø<|aa É ak) ak) (aP<|eJ Ý Ù) à
def cI:SF:=aw (kq (lW Ø) (ax 3) cu)<|jt "Blind"<|aa (eJ (eJ (dC "PairedFloor" 1 É) Ï) æ) ak
def cP:=run 4 cI
def sQ:SF:=aP<|ϓ (tB<|Ì ı (eJ É æ)<|eB<|aa (eS "left")<|aa (eS "right") ak) (eB<|aa (eJ É æ)<|aa (Ì rz ċ<|eJ É Ù) ak) É
def kb:=run 1 sQ
def aF:SF:=aw (aN 7<|av mF<|aa (eJ (dC "PairedFloor" 2 Ø) Ŋ)<|aa (dD 1 (lW<|eJ Ý Ŋ) (ax 0) gD<|av kb<|aa É ak) ak)<|aw (Hj (dD 1 (lW Φ) (ax 0) gD<|av kf<|aa É<|aa (Đ fU Ù) ak)<|ϱ 4<|eJ Ba æ)<|Hj (dD 1 (lW Φ) (ax 0) gD<|av kf<|aa É<|aa Ù ak)<|ϱ 4<|eJ Ba Ù
def gi:SF:=aw (aN 2<|qm "PairedFloor" gP<|aa É ak)<|aw (aN 3<|l1 1 (fW<|ç eT<|aa (dC "PairedFloor" 1 Ø) ak) (ax 0) gD<|g9 "PairedFloor" cP Ý<|aa É<|aa Ø ak)<|aw (kL 4<|uy 1 (fW<|eC bM) (ax 0) gD<|lb ak)<|aw (kq (zZ<|dC "PairedFloor" 1 Ø) (vn<|di (ax 5)<|di (ax 6) vo) aF)<|zr 4<|aP<|bc iJ<|aa (dD 1 (lW<|bc ot<|aa õ ak) (ax 0) gD<|eJ É<|Đ fU Ù) ak
def gB:=run 8 gi
def i0:SF:=aw (Ü (pP<|tB Ý) (aP<|bc dW<|aa É<|aa Ï<|aa Ø ak) à)<|aw (Ü (tB<|Ì oLt (ç eT<|aa Ø ak)<|eC bM) (Zv "NoPairs"<|aa (eS "not all dancers would dance") ak) à)<|aP<|bc gB<|aa É<|aa Ï ak
def bD:=run 4 i0
def gI:RF Rn:=vu (Qg Rn.a Rn.val 0 4<|Ì pZ (ç eT<|aa (dC "Run" 1 É) ak) Ù)<|vu (qt<|Ü (tB<|eQ õ<|eC bL) (gJ "TooMany"<|aa (Jc<|eC bL) ak) à)<|vu (vt Rn.a Rn.Le 0 5<|cQ "Book" bg (dC "Run" 0 É)<|aa Ï ak)<|yZ ["Blind","Out","Meet","NoPairs"] 4<|bc bD<|aa (eJ (dC "Run" 1 É)<|Đ fU Ù)<|aa Ŋ<|aa Ø<|aa Ý ak
def jE:List W->Rn->OX Rn:=runM 7 gI
def gY:SF:=aw (aN 3<|ϓ (tB<|eQ (eJ Ø æ)<|eS "inner") (Ť Ø ο<|cS ċ)<|eJ (eC JF)<|eJ Ø Ù)<|aP<|dD 1 (lW Ï) (ax 0) (tB<|av (fY 3)<|aa (eJ (dC "Run" 1 Ï)<|Đ fU Ù)<|aa É<|aa õ ak) É
def cD:=run 4 gY
def eY(a:List W->Rn->OX Rn):RF Rn:=cT 0 a<|Ĺ (eJ õ ċ)<|Ĺ Ø<|Ĺ Ý La
def cg(a:List W->Rn->OX Rn):RF Rn:=ϻ (xT Rn.a Rn.val 0<|tB<|eQ (eJ õ æ)<|eS "call") (cT 0 jE<|Ĺ (eJ õ Ù)<|Ĺ Ø<|Ĺ Ý La)<|ϻ (xT Rn.a Rn.val 0<|tB<|eQ (eJ õ æ)<|eS "times") (sF (fW<|eJ õ Ù) 5<|eY a)<|ϻ (xT Rn.a Rn.val 0<|tB<|eQ (eJ õ æ)<|eS "couples") (cT 0 a<|Ĺ (eJ õ Ù)<|Ĺ Ø<|Ĺ (eC<|.B U) La)<|cT 0 a<|Ĺ (eJ õ ċ)<|Lf 0 (g9 "Run" cD É<|aa Ø<|aa õ ak)<|Ĺ Ý La
def gH(a:List W->Rn->OX Rn):RF Rn:=sF (lW Ï) 4<|cg a
noncomputable def aA:Nat->List W->Rn->OX Rn|0=>λ_ _=>.b|n+1=>runM 6<|gH<|aA n
def Su:SF:=js 3 (aa É<|aa Ï ak)<|vu (cT 3 (aA 4)<|Ĺ Ø<|Ĺ (Vk<|eC bM)<|Ĺ (eC<|.B O) La)<|Vj 3<|Ť (dC "Run" 1 Ý) (cS Ù) ο
def k7:=run 4 Su
def bz:SF:=aP<|bc k7<|aa É<|aa Ï<|aa Ø ak
def hY:SF:=lO bz 3
def cO:=run 5 hY
def lI:SF:=aP<|ϓ (tL Ï) (eJ Ï<|Đ fU Ù) É
def lZ:=run 2 lI
def aE:SF:=aw (aN 6<|bc cO<|aa É<|aa (uV 3<|eJ Ý<|Đ fU Ù)<|aa Ø<|aa õ ak)<|aw (aN 4<|Ì zK õ<|ç eT<|aa Ba ak)<|aw (aN 7<|uV 3<|av lZ<|aa (eJ Ý<|Đ fU Ù)<|aa Ba ak)<|aw (Ü (zg 3<|tB<|Ì ı Φ Ý) (aw (aN 8<|uV 3<|ov "list" fL Ý<|aa Φ ak)<|zr 3<|aP<|eB<|aa Aa<|aa (Ì pZ (ç eT<|aa Ý ak) Aa) ak) à)<|zt 3 Φ
def pJ:SF:=aw (kL 3<|Ie<|aa Ï ak)<|aw (aN 4 æ)<|aw (kq (fW<|eC fv) (ax 5) aE)<|gJ "TooMany"<|aa (Jc<|eC fv) ak
def aT:=run 9 pJ
def aI:SF:=aw (Ü (tB<|eQ (eJ É Ý)<|eS "(") (aN 2<|Ì zK Ø Ù) à)<|Ü (tB<|eQ (eJ É Ý)<|eS ")") (aw (aN 2<|Ì pZ Ø Ù)<|Ü (tB<|eQ Ø æ) (aP<|Ì fK Ý Ù) à) à
def gX:SF:=aw (aN 2 æ)<|aw (kq (jz Ï<|ç eT<|aa É ak) (ax 3) aI) jY
def cC:=run 4 gX
def dy:SF:=aw (aN 3<|av oj<|aa É<|aa Ï<|aa Ø ak)<|aw (Ü (tB<|Ì ϐ Ý<|eC .n) jY à)<|aP Ý
def dz:=run 4 dy
def mX:SF:=aw (Ü (vF (tB<|eQ (ç eT<|aa É ak) Ù)<|tB<|Ì ı (eJ É æ)<|eC RE) (aP<|eB<|aa (eS "some")<|aa (eJ É æ) ak) à)<|aw (Ü (vF (tB<|eQ (ç eT<|aa É ak) Ù)<|tB<|eQ (eJ É æ)<|eS "couples") (aP<|eB<|aa (eS "couples") ak) à)<|aw (Ü (vF (tB<|eQ (ç eT<|aa É ak) ċ)<|tB<|eQ (eJ É æ)<|eS "inner") (aP<|eB<|aa (eS "inner")<|aa (av dz<|aa (eJ É Ù)<|aa æ<|aa (eC dv) ak) ak) à)<|aw (Ü (vF (tB<|eQ (ç eT<|aa É ak) ċ)<|tB<|eQ (eJ É Ù)<|eS "times") (aP<|eB<|aa (eS "times")<|aa (av dz<|aa (eJ É æ)<|aa Ù<|aa (eC l5) ak) ak) à) jY
def jB:=run 1 mX
def fP(a:List W->Res W):SF:=aw (Ü (tB<|Ì Ea Ø<|eC oF) jY à)<|aw (aN 3<|ov "list" fL Ï<|aa (eS "(") ak)<|aw (aN 4<|Ť Ï (cS<|Ì fK Ý Ù)<|cS<|Đ fU Ù)<|aw (Ü (pP<|tL õ) jY à)<|aP<|Ì fK (av jB<|aa (Ť Ï ο<|cS Ý) ak)<|eB<|aa (av a<|aa É<|aa õ<|aa Ø ak) ak
def aW(a:List W->Res W):List W->Res W:=run 5<|fP a
def dS(a:List W->Res W):SF:=Ü (tB<|Ì ı (eJ Ï õ) É) (aw (zt 3<|eB<|aa (eS "call")<|aa (eJ Ï õ) ak)<|aN 4<|Ì zK õ Ù)<|aw (aN 5<|av cC<|aa Ï<|aa õ ak)<|aw (zt 3<|av a<|aa É<|aa (Ť Ï (cS õ)<|cS Ŋ)<|aa (Ì fK Ø Ù) ak)<|aN 4 Ŋ
def dR(a:List W->Res W):TF:=tB<|Ì oLt õ<|ç eT<|aa Ï ak
noncomputable def o3:Ws->Nat:=λ_=>20
def hZ(a:List W->Res W):SF:=aw (kL 3<|Ie ak)<|aw (aN 4 æ)<|aw (Aw o3 (dR a)<|dS a)<|zr 3<|aP Ý
noncomputable def aR:Nat->List W->Res W|0=>λ_=>.b|n+1=>run 6<|hZ<|aW<|aR n
def lJ:SF:=à
def lV:LF:=yp<|Mj "Book" É
def ba:=Cd 1 lJ lV
def fO:SF:=aw (Ü (pP<|tB<|ç bQ<|aa Ï<|aa (eC<|.ty "str") ak) jY à)<|aw (aN 2<|ϓ (tS Ï) (ov "str" gq Ï<|aa (eS " ") ak)<|lb ak)<|aP<|av (aR 4)<|aa (cQ "Book" ba É ak)<|aa Ø<|aa æ ak
def aS:=run 3 fO
def gW:SF:=Rj<|bc aT<|aa É<|aa Ï<|aa (av aS<|aa É<|aa Ø ak) ak
def gV:SF:=aN 3<|eC<|.B U
def iZ:SF:=aw (aN 3<|eC<|.B O)<|aw (Ge gW "TooMany" gV)<|aP Ý
def cy:=run 4 iZ
def fF:SF:=Rj<|bc aT<|aa É<|aa Ï<|aa (av aS<|aa É<|aa (eS "walk") ak) ak
def fE:SF:=aw (aN 2<|ϲ õ "at")<|aN 3<|ϲ õ "why"
def eF:SF:=aw (aN 2<|eC .n)<|aw (aN 3<|eC .n)<|aw (tF fF "Broken" 4 fE)<|aP<|mn (eQ Ø<|eI 59)<|mn (ç Sa<|aa Ý<|aa (eC<|.cls "Out") ak)<|eQ (ϲ Ý "who") æ
def g8:=run 5 eF
def iB:SF:=aw (aN 1<|bc (λws=>dW<|ws++[.n])<|aa (eC hG)<|aa (cQ "Book" bg É<|aa (eS "about") ak) ak)<|aw (Ü (Ε (pP<|tB<|av cy<|aa É<|aa (eC hG)<|aa (eS "60 times ( 7 times ( about ) )") ak)<|pP<|tB<|av cy<|aa É<|aa Ï<|aa (eS "walk") ak) jY à)<|aw (Ü (pP<|tB<|av cy<|aa É<|aa (Ì fK (eB<|aa (eB<|aa (Đ fU Ù)<|aa (Đ fU<|eI 80)<|aa ċ ak) ak)<|Ť Ï (cS Ù) ο)<|aa (eS "walk") ak) jY à)<|aw (Ü (pP<|tB<|av g8<|aa É<|aa (Ì fK (eB<|aa (eB<|aa (Đ fU Ù)<|aa (Đ fU<|eI 82)<|aa ċ ak) ak)<|Ť Ï (cS Ù) ο) ak) jY à)<|aP<|eQ (bc aT<|aa É<|aa (eC hG)<|aa (av aS<|aa É<|aa (eS "prom") ak) ak)<|eB<|aa æ<|aa (eI 4) ak
def ql:=run 2 iB
def kD:SF:=aw (aN 2<|cQ "Book" ba É ak)<|aw (aN 3<|eJ Ø<|Ì oMod Ï<|ç eT<|aa Ø ak)<|aw (aN 4<|Ì oMod (Ì oDiv Ï<|eI 14)<|eI 12)<|aw (Ü (tB<|Ì oLt õ<|eI 6) (aP Ý) à)<|aw (aN 5<|eJ Ø<|Ì oMod (Ì oDiv Ï<|eI 168)<|ç eT<|aa Ø ak)<|aw (aN 6<|eJ (lb<|Ms ["2 times ( ","heads ( ","sides ( ","lefts ( ","inner 3 ( ","couples ( "])<|Ì pZ õ<|eI 6)<|aP<|Ì Ua (Ì Ua Ba Ý)<|eJ (lb<|aa (eS " )")<|aa (Ì Ua (Ì Ua (eS " ") Ŋ)<|eS " )") ak)<|Ì oMod (Ì oDiv Ï<|eI 2352) ċ
def iG:=run 7 kD
def gG:SF:=aP<|ov "str" uu (eS " ")<|aa (dD 1 (lW Ï) (ax 0) gD<|av iG<|aa Ï<|aa (Ì oMod (Ì rz É<|eI 69621)<|eI 2147483629) ak) ak
def kd:=run 2 gG
def iX:SF:=aP<|eB<|aa (Đ fU<|eJ É Ù)<|aa (eJ É æ)<|aa (Ì oMod (Ì fK (eJ É ċ) Ù)<|eC iM) ak
def i9:=run 1 iX
def p9:SF:=aN 2<|ç md<|aa (dD 1 (lW Ø) (ax 0) gD<|av i9<|aa É ak) ak
def xC:SF:=aw (aN 2 É)<|aw (kq (fW<|Ì oMod Ï<|eC iM) (ax 3) p9)<|aP Ø
def yF:=run 4 xC
def jU:SF:=aN 4 (bc (λws=>dW<|ws++[.n])<|aa Ø<|aa (cQ "Book" bg É<|aa (eJ (cQ "Book" ba É ak)<|Ì oMod Ý<|ç eT<|aa (cQ "Book" ba É ak) ak) ak) ak)
def jT:SF:=aN 4<|eC .n
def eZ:SF:=aw (aN 4<|eC .n)<|aw (Ge jU "FloorError" jT)<|Ü (tB<|Ì fJ õ<|eC .n) (aN 2 õ) à
def jm:SF:=aw (aN 2<|eC hG)<|aw (kq (lW<|Ť Ï (cS<|eI 5)<|cS<|eI 8) (ax 3) eZ)<|aP<|av yF<|aa Ø<|aa (Ì oMod (av cj<|aa Ï<|aa æ ak)<|eI 4) ak
def oo:=run 5 jm
def jk:SF:=aN 6<|bc k7<|aa É<|aa (uV 3<|eJ Ý<|Đ fU Ù)<|aa Ø ak
def ji:SF:=aN 7<|eB<|aa (eS "broken")<|aa (Ì fK õ<|ϲ Aa "at")<|aa (ϲ Aa "why") ak
def jj:SF:=aN 7<|eB<|aa (eS "many")<|aa æ<|aa (eC .n) ak
def bq:SF:=aw (aN 6<|eC .n)<|aw (aN 7<|eC .n)<|aw (ng jk "Broken" 8 ji "TooMany" jj)<|aw (Ü (tB<|Ì fJ Φ<|eC .n) (aP Φ) à)<|aw (aN 4<|Ì fK õ<|ç eT<|aa Ba ak)<|aw (zt 3<|uV 3<|eJ (Ì fK (lb<|aa (eJ Ý<|Đ fU Ù) ak) Ba)<|Đ fU Ù)<|Ü (zg 3<|tB<|Ì ı (eJ Ý<|Đ fU Ù)<|Ť Ý ο<|cS<|Đ fU Ù) (aw (aN 9<|uV 3<|ov "list" fL Ý<|aa (eJ Ý<|Đ fU Ù) ak)<|zr 3<|aP<|eB<|aa (eS "round")<|aa (eB<|aa Xe<|aa (Ì pZ (Ì pZ (ç eT<|aa Ý ak) Ù) Xe) ak)<|aa (eC .n) ak) à
def sT:SF:=aw (kL 3<|Ie<|aa Ï ak)<|aw (aN 4 æ)<|aw (kq (fW<|eI 60) (ax 5) bq)<|aP<|eB<|aa (eS "many")<|aa æ<|aa (eC .n) ak
def oq:=run 10 sT
def pL:SF:=aw (aN 1<|lb<|aa (ç Sa<|aa É<|aa (eC<|.cls "Blind") ak)<|aa (ç Sa<|aa É<|aa (eC<|.cls "Out") ak)<|aa (ç Sa<|aa É<|aa (eC<|.cls "Meet") ak)<|aa (ç Sa<|aa É<|aa (eC<|.cls "NoPairs") ak) ak)<|aw (Ü (Ε (tB<|eJ Ï æ)<|tB<|eJ Ï Ù) (aP<|Ì fK Ï<|lb<|aa (ϲ É "who") ak) à)<|aw (Ü (tB<|eJ Ï ċ) (aP<|Ì fK Ï<|lb<|aa (ϲ É "one")<|aa (ϲ É "other") ak) à)<|aP Ï
def gA:=run 2 pL
def vE:SF:=aN 5<|bc aT<|aa Ï<|aa Ý<|aa Ø ak
def vC:SF:=aw (aN 6<|ϲ Xe "at")<|aN 7<|ϲ Xe "why"
def vD:SF:=aN 8<|eC<|.B U
def BB:SF:=aw (aN 1<|uU "Book" yG<|aa (av jC ak) ak)<|aw (Ü (tB<|eQ (Ì oMod (av cj<|aa É<|aa Ù ak)<|eI 8)<|eI 3) (aP<|bc ql<|aa Ï ak) à)<|aw (aN 2<|av aS<|aa Ï<|aa (av kd<|aa Ï<|aa (Ť É (cS ċ)<|cS<|eI 5) ak) ak)<|aw (aN 3<|av oo<|aa Ï<|aa É ak)<|aw (aN 4<|av oq<|aa Ï<|aa Ý<|aa Ø ak)<|aw (aN 5<|eC .n)<|aw (aN 6<|eC .n)<|aw (aN 7<|eC .n)<|aw (aN 8<|eC<|.B O)<|aw (ng vE "Broken" 9 vC "TooMany" vD)<|aw (Ü (tB<|eQ (eJ õ æ)<|eS "broken") (aP<|mn (Ì ϐ Ŋ<|eC .n)<|mn (ϣ Aa)<|mn (eQ Ba<|eJ õ Ù)<|eQ (av gA<|aa Φ ak)<|av gA<|aa (eJ õ ċ) ak) à)<|aw (Ü (tB<|eQ (eJ õ æ)<|eS "many") (aP<|mn (Ì ϐ Ŋ<|eC .n) Aa) à)<|aP<|mn (ç bQ<|aa Ŋ<|aa (eC<|.ty "tuple") ak)<|mn (eQ Ŋ<|eJ õ Ù)<|ϣ<|ç bQ<|aa (eJ Ŋ æ)<|aa (eC<|.ty "bool") ak
def Hu:=run 10 BB
end Ć
namespace Ć
open PySem WL ML
abbrev Ty:=W->Prop
abbrev ST:=Sl->Prop
def XL{α}(Q:Ty)(P:α->Prop):Res α->Prop|.ok v=>P v|.x x=>Q x|.b=>False
def vT(P:Ty):ST|.v w=>P w|_=>False
def an:ST:=λ_=>True
def Sat:List ST->Ws->Prop|[],[]=>True|g::Γ,s::Z=>g s/\Sat Γ Z|_,_=>False
def Al:List Ty->List W->Prop|[],[]=>True|g::Γ,s::Z=>g s/\Al Γ Z|_,_=>False
def no:Ty:=λ_=>False
abbrev E(Q:Ty)(b:List ST)(e:EF)(P:Ty):Prop:=∀a,Sat b a->XL Q P (e a)
abbrev TE(Q:Ty)(b:List ST)(t:TF):Prop:=∀a,Sat b a->XL Q (λ_=>True) (t a)
abbrev AE(Q:Ty)(c:List ST)(a:AF)(d:List Ty):Prop:=∀b,Sat c b->XL Q (Al d) (a b)
structure Se(À:Nat->Prop)(A:Ty)(xs:List W):Prop where
 len:À xs.length
 all:∀x∈xs,A x
abbrev IE(Q:Ty)(b:List ST)(it:LF)(À:Nat->Prop)(A:Ty):Prop:=∀a,Sat b a->XL Q (Se À A) (it a)
abbrev F(Q:Ty)(f:List W->Res W)(As:List Ty)(P:Ty):Prop:=∀ws,Al As ws->XL Q P (f ws)
abbrev O2(r:W->W->Res W)(A B P:Ty):Prop:=∀x y,A x->B y->∃v,r x y=.ok v/\P v
def PO(Q:Ty)(Δ:List ST)(P:Ty):Out->Prop|.n Z=>Sat Δ Z|.r w=>P w|.x x _=>Q x|_=>False
abbrev S(Q:Ty)(b:List ST)(s:SF)(Δ:List ST)(P:Ty):Prop:=∀a,Sat b a->PO Q Δ P (s a)
section
variable{α β:Type}{Q P A B:Ty}{Γ Δ Θ:List ST}{As:List Ty}{e a b:EF}{i:Nat}{À:Nat->Prop}
def XL.bd{p q r}{k:α->Res β}(h:XL Q p r)(g:∀x,p x->XL Q q (k x)):XL Q q (r.bind k):=by cases r with|ok x=>exact g x h|x x=>exact h|b=>exact h
def XL.om{p r}{k:α->Out}{Z}(h:XL Q p r)(g:∀x,p x->PO Q Δ P (k x)):PO Q Δ P (ø Z r k):=by cases r with|ok x=>exact g x h|x x=>exact h|b=>exact h
theorem Sat.gt:∀{Γ Z}{i:Nat}{g},Sat Γ Z->Γ[i]?=L g->∃s,Z[i]?=L s/\g s|g::Γ,s::Z,0,_,h,e=>by cases e;exact⟨s,M,h.1⟩|g::Γ,s::Z,i+1,_,h,e=>Sat.gt (i:=i) h.2 e|[],[],_,_,_,e=>nomatch e
theorem Sat.set:∀{Γ Z i g s},Sat Γ Z->g s->Sat (Γ.set i g) (Z.set i s)|g::Γ,s::Z,0,_,_,h,e=>⟨e,h.2⟩|g::Γ,s::Z,i+1,_,_,h,e=>⟨h.1,Sat.set h.2 e⟩|[],[],_,_,_,h,e=>h
def Þ(h:Γ[i]?=L (vT P)):E Q Γ (dA i) P:=λc k=>by obtain⟨s,e,g⟩:=k.gt h;unfold dA;rw[e];cases s with|v w=>exact g|_=>exact g.elim
def Ķ{v}:E Q Γ (eC v) (.=v):=λc k=>rfl
def Ĥ{r}(d:E Q Γ a A)(l:E Q Γ b B)(h:O2 r A B P):E Q Γ (Ì r a b) P:=λc k=>(d c k).bd λx j=>(l c k).bd λy g=>by obtain⟨v,e,f⟩:=h x y j g;rw[e];exact f
def Ax{r}(c:E Q Γ a A)(h:∀x,A x->∃v,r x=.ok v/\P v):E Q Γ (Đ r a) P:=λg k=>(c g k).bd λx f=>by obtain⟨v,e,d⟩:=h x f;rw[e];exact d
def Č:AE Q Γ ak []:=λc k=>trivial
def ï{r}(d:E Q Γ e P)(h:AE Q Γ r As):AE Q Γ (aa e r) (P::As):=λc k=>(d c k).bd λx g=>(h c k).bd λy f=>⟨g,f⟩
def ű{f r}(c:AE Q Γ r As)(h:F no f As P):E Q Γ (av f r) P:=λd k=>(c d k).bd λws hw=>by have:=h _ hw;cases e:f _ with|ok v=>rw[e]at this;exact this|_=>rw[e]at this;exact this.elim
def Pd{f r}(d:AE Q Γ r As)(h:F Q f As P):E Q Γ (bc f r) P:=λc k=>(d c k).bd h
def Gb{f r}(c:AE Q Γ r As)(h:∀ws,Al As ws->∃v,f ws=.ok v/\P v):E Q Γ (ç f r) P:=λg k=>(c g k).bd λws hw=>by obtain⟨v,e,d⟩:=h _ hw;rw[e];exact d
theorem Al.len:∀{As ws},Al As ws->ws.length=As.length|[],[],_=>rfl|_::_,_::_,h=>ê _<|Al.len h.2
def Dx{r}(c:AE Q Γ r As)(d:As.length<9)(h:∀ws,Al As ws->P (.t ws)):E Q Γ (eB r) P:=λf k=>(c f k).bd λws hw=>by rw[Ð (by rw[hw.len];exact ñ (Nc d)<|by decide)];exact h _ hw
abbrev Bo:Ty:=λv=>∃b,v=.B b
def Ze(h:E Q Γ e Bo):TE Q Γ (tB e):=λd k=>(h d k).bd λx c=>by obtain⟨b,rfl⟩:=c;trivial
def Rw{t}(h:TE Q Γ t):TE Q Γ (pP t):=λc k=>(h c k).bd λx _=>trivial
def UJ(h:E Q Γ e Bo):E Q Γ (ϣ e) Bo:=λd k=>(h d k).bd λx c=>by obtain⟨b,rfl⟩:=c;exact⟨_,M⟩
def Fb{c n}(d:E Q Γ e A)(h:∀x,A x->∃v,Ta c n x=.ok v/\P v):E Q Γ (dC c n e) P:=λj k=>(d j k).bd λx g=>by obtain⟨v,e,f⟩:=h x g;rw[e];exact f
def Uk{c f r}(j:E Q Γ e A)(l:∀x,A x->Ϝ c x=U)(m:AE Q Γ r As)(h:F Q f (A::As) P):E Q Γ (g9 c f e r) P:=λg k=>(j g k).bd λx d=>by rw[Ð (l x d)];exact(m g k).bd λws hw=>h _ ⟨d,hw⟩
abbrev Ls(À:Nat->Prop)(A:Ty):Ty:=λv=>∃c,v=.l c/\Se À A c
abbrev Tp(À:Nat->Prop)(A:Ty):Ty:=λv=>∃c,v=.t c/\Se À A c
def Kf(h:E Q Γ e (Ls À A)):IE Q Γ (lW e) À A:=λd k=>(h d k).bd λx c=>by obtain⟨f,rfl,h⟩:=c;exact h
def Qk(h:E Q Γ e (Tp À A)):IE Q Γ (lW e) À A:=λd k=>(h d k).bd λx c=>by obtain⟨f,rfl,h⟩:=c;exact h
theorem Mv{Γ e B}:∀{xs},(∀x∈xs,A x)->E Q (vT A::Γ) e B->∀Z,Sat Γ Z->XL Q (λys=>ys.length=xs.length/\∀y∈ys,B y) (bJ (ax 0) gD e (.o::Z) xs)|[],_,_,Z,_=>⟨M,λ_ z=>nomatch z⟩|x::xs,hx,h,Z,k=>(h (.v x::Z) ⟨hx x ę,k⟩).bd λy f=>(Mv (λz d=>hx z<|Ħ _ d) h Z k).bd λys c=>⟨ê (.+1) c.1,λz d=>by grind⟩
def Eb{it}(h:IE Q Γ it À A)(j:∀n,À n->n<=lim)(m:E no (vT A::Γ) e B):E Q Γ (dD 1 it (ax 0) gD e) (Ls À B):=λf k=>by refine XL.bd ((h f k).bd λg d=>?_) λc l=>⟨c,M,l⟩;rw[Ð (j _ d.len)];have:=Mv d.all m f k;show XL Q _ (match bJ _ gD e (.o::f) g with|.ok c=>.ok c|_=>.b);cases e:bJ _ gD _ _ g with|ok c=>rw[e]at this;exact⟨by rw[this.1];exact d.len,this.2⟩|_=>rw[e]at this;exact this.elim
def Ff(Γ:List ST):Prop:=∀c,Sat Γ c->Sat Γ (vm c)
def Np{it}(h:IE Q Γ it À A)(l:∀n,À n->n<=lim)(j:Ff Γ)(o:E Q (vT A::Γ) e B):E Q Γ (l1 1 it (ax 0) gD e) (Ls À B):=λc k=>by refine XL.bd ((h c k).bd λf d=>?_) λg m=>⟨g,M,m⟩;rw[Ð (l _ d.len)];have:=Mv d.all o (vm c)<|j c k;show XL Q _ (bJ _ gD e (.o::vm c) f);cases e:bJ _ gD _ _ f with|ok g=>rw[e]at this;exact⟨by rw[this.1];exact d.len,this.2⟩|x x=>rw[e]at this;exact this|b=>rw[e]at this;exact this
def ţ{s t}(d:S Q Γ s Δ P)(f:S Q Δ t Θ P):S Q Γ (aw s t) Θ P:=λc k=>by have:=d c k;unfold aw;cases e:s c with|n Ô=>rw[e]at this;exact f _ this|_=>rw[e]at this;exact this
def Ab(h:E Q Γ e A):S Q Γ (aN i e) (Γ.set i<|vT A) P:=λd k=>(h d k).om λx c=>k.set  c
def Ņ(h:E Q Γ e P):S Q Γ (aP e) Δ P:=λd k=>(h d k).om λx c=>c
def Zo:S Q Γ à Γ P:=λc k=>k
def Ld{t s u}(h:TE Q Γ t)(d:S Q Γ s Δ P)(f:S Q Γ u Δ P):S Q Γ (Ü t s u) Δ P:=λc k=>(h c k).om λx _=>by grind
abbrev GE(Γ:List ST)(g:GF)(A:Ty)(Δ:List ST):Prop:=∀d w,Sat Γ d->A w->∃c,g w d=.ok c/\Sat Δ c
def Sk:GE Γ (ax i) A (Γ.set i<|vT A):=λc w k h=>⟨_,M,k.set  h⟩
abbrev Pr(A B:Ty):Ty:=λv=>∃x y,v=.t [x,y]/\A x/\B y
def Kp{j}:GE Γ (vn<|di (ax i)<|di (ax j) vo) (Pr A B) ((Γ.set i<|vT A).set j<|vT B):=λf w k h=>by obtain⟨x,y,rfl,d,c⟩:=h;exact⟨_,M,(k.set  d).set  c⟩
theorem Zz{g s}(h:GE Γ g A Δ)(d:S Q Δ s Γ P):∀xs,(∀x∈xs,A x)->∀Z,Sat Γ Z->PO Q Γ P (forL g s xs Z)|[],_,Z,k=>k|x::xs,hx,Z,k=>by obtain⟨c,e,k'⟩:=h Z x k<|hx x ę;have:=d c k';unfold forL;rw[e];show PO Q Γ P (match s c with|.n é=>forL g s _ é|.ct é=>forL g s xs é|.bk é=>.n é|o=>o);cases e:s _ with|n é=>rw[e]at this;exact Zz h d xs (λz f=>hx z<|Ħ _ f) é this|r w=>rw[e]at this;exact this|x w=>rw[e]at this;exact this|_=>rw[e]at this;exact this.elim
def Cf{it g s}(d:IE Q Γ it À A)(h:GE Γ g A Δ)(j:S Q Δ s Γ P):S Q Γ (kq it g s) Γ P:=λc k=>(d c k).om λl f=>Zz h j _ f.all c k
theorem Sat.map:∀{As ws n},Al As ws->Sat (As.map vT++List.replicate n an) (ws.map .v++List.replicate n .o)|[],[],0,_=>trivial|[],[],n+1,_=>⟨trivial,Sat.map (As:=[]) (ws:=[]) trivial⟩|_::_,_::_,n,h=>⟨h.1,Sat.map h.2⟩
def Ş{n t}(h:S Q (As.map vT++List.replicate (n-As.length) an) t [λ_=>False] P):F Q (run n t) As P:=λws hw=>by have:=h _<|Sat.map hw;unfold WL.run;rw[hw.len];cases e:t _ with|n Z=>rw[e]at this;cases Z;exact this.elim;exact this.1.elim|r w=>rw[e]at this;exact this|x x=>rw[e]at this;exact this|_=>rw[e]at this;exact this.elim
def ZI{s t}(hi:Γ[i]?=L (vT λv=>v=.n\/A v))(h:∀v,A v->o7 v=O)(l:S Q Γ s [λ_=>False] P)(n:S Q (Γ.set i<|vT A) t Θ P):S Q Γ (aw (Ü (tB<|Ì ϐ (dA i)<|eC .n) s à) t) Θ P:=λc k=>by
 obtain⟨z,e,f⟩:=k.gt hi;cases z with|v w=>
 have m:dA i c=.ok w:=by simp_all
 have j:tB (Ì ϐ (dA i)<|eC .n) c=.ok (o7 w):=by show Res.bind (Res.bind (dA i c) _) _=_;rw[m];rfl
 unfold aw Ü;rw[j];rcases f with rfl|hw;.have:=l c k;cases d:s c with|n Ô=>rw[d]at this;cases Ô;exact this.elim;exact this.1.elim|_=>rw[d]at this;exact this
 .rw[h w hw];have:=k.set (i:=i) (g:=vT A) (s:=.v w) hw;rw[show c.set i (.v w)=c by obtain⟨q,e⟩:=Ĵ.mp e;rw[<-e];exact List.set_getElem_self q]at this;exact n c this|_=>exact f.elim
def Jk{nm r}(h:AE Q Γ r As)(g:∀ws,Al As ws->ws.length=(WL.fieldsOf nm).length/\ws.all ic=U/\Q (.e nm ws)):S Q Γ (jt nm r) Δ P:=λf k=>(h f k).om λws hw=>by obtain⟨c,j,d⟩:=g _ hw;rw[Ð ⟨c,j⟩];exact d
end
def aL{i e R Z v}(h:e Z=.ok v):aw (aN i e) R Z=R (Z.set i<|.v v):=by simp[h]
def ž{c a b R Z}(h:c Z=.ok U):aw (Ü c a b) R Z=aw a R Z:=by simp[h]
def ĭ{c a b R Z}(h:c Z=.ok O):aw (Ü c a b) R Z=aw b R Z:=by simp[h]
def LO{a b R Z}:aw (aw a b) R Z=aw a (aw b R) Z:=by simp ;cases a Z<;>rfl
def jS{R Z}:aw à R Z=R Z:=rfl
def Xv{a b Z x y}(h:a Z=.ok x)(g:b Z=.ok y):eB (aa a<|aa b ak) Z=.ok (.t [x,y]):=by simp_all
def WG{a b Z x y}(h:a Z=.ok x)(g:b Z=.ok y):vF a b Z=.ok (x&&y):=by cases x<;>simp[h,g]
def aU{r a b Z x y z}(h:a Z=.ok x)(g:b Z=.ok y)(k:r x y=.ok z):Ì r a b Z=.ok z:=by simp_all
def eA{f a Z xs w}(h:a Z=.ok xs)(g:f xs=.ok w):av f a Z=.ok w:=by simp_all
def fN{e Z w}(h:e Z=.ok w):aP e Z=.r w:=by simp[h]
def za{e R Z w}(h:e Z=.ok w):aw (aP e) R Z=.r w:=by simp[h]
def JT{a Z x}(h:a Z=.ok x):eB (aa a ak) Z=.ok (.t [x]):=by simp[h]
def bR{e a Z x xs}(h:e Z=.ok x)(k:a Z=.ok xs):aa e a Z=.ok (x::xs):=by simp_all
def mh{e Z b}(h:e Z=.ok (.B b)):tB e Z=.ok b:=by simp[h]
def Zt{it g t e Z xs vs}(h:it Z=.ok xs)(a:xs.length<=1000000)(k:bJ g t e (.o::Z) xs=.ok vs):dD 1 it g t e Z=.ok (.l vs):=by simp_all
def SK{e Z x xs v vs}(h:e (.v x::Z)=.ok v)(k:bJ (ax 0) gD e (.o::Z) xs=.ok vs):bJ (ax 0) gD e (.o::Z) (x::xs)=.ok (v::vs):=by simp[bJ,h,k]
def Mn(h:a Z=.ok xs)(g:f xs=.ok w):ç f a Z=.ok w:=by simp_all
def PM(h:e Z=.ok w)(g:itemsOf w=.ok xs):lW e Z=.ok xs:=by simp_all
def Nz(h:e Z=.ok w)(k:Ta c n w=.ok v):dC c n e Z=.ok v:=by rw[show dC c n e Z=(e Z).bind _ from rfl,h];exact k
def QM(h:o Z=.ok y)(n:Ϝ c y=U)(k:a Z=.ok ws)(g:fn (y::ws)=r):g9 c fn o a Z=r:=by rw[show g9 c _ o a Z=(o Z).bind _ from rfl,h];exact(Ð n).trans (by rw[k];exact g)
def dj{g b x xs Z c a o}(d:g x Z=.ok c)(f:b c=.n a)(e:forL g b xs a=o):forL g b (x::xs) Z=o:=by rw[n9,d,DD,f];exact e
def NM{i ws}{k:Nat}(h:Z[i]?=L (.w ws))(g:e Z=.ok (.int k))(hk:k<ws.length):ϱ i e w Z=.ok (Z.set i<|.w<|ws.set k w):=by have:=J1 Z i ws w k (by simp) (by omega);simp[h,g]at this⊢;exact this
def Yt{i À w}(h:Z[i]?=L (.w À))(a:À.length<1000000)(k:e (Z.set i<|.v<|.l À)=.ok w)(p:plain w=U):zt i (uV i e) Z=.n (Z.set i<|.w<|À++[w]):=by simp_all
def Bc{c a b Z}(h:c Z=.ok U):Ü c a b Z=a Z:=by simp[h]
def v_not(h:e Z=.ok (.B b)):ϣ e Z=.ok (.B !b):=by simp_all
def Cj{t}(h:t Z=.ok b):pP t Z=.ok !b:=by simp[h]
def Az(h:e Z=.x x):aw (aN k e) R Z=.x x Z:=by simp[h]
def Zy{e Z j}(h:e Z=.ok (.int j))(b:-2^62<=j/\j<2^62):fW e Z=.ok (û 0 j.toNat):=by simp_all
def vA{a b}(h:a Z=.n Ô):aw a b Z=b Ô:=by simp[h]
def Ke(h:c Z=.ok O):Ü c a à Z=.n Z:=by simp[h]
def y8(h:e Z=.ok v):aN k e Z=.n (Z.set k<|.v v):=by simp[h]
def Wc(h:l Z=.ok ws):aw (kL k l) R Z=R (Z.set k<|.w ws):=by simp[h]
def Vu{i À}(h:Z[i]?=L (.w À))(a:À.length<1000000)(k:e Z=.ok w):zt i e Z=.n (Z.set i<|.w<|À++[w]):=by simp_all
def LI(h:c Z=.ok U):gc c b (m+1) Z=zT (b Z) (gc c b m):=by rw[mO,h];rfl
def Kt(h:c Z=.ok O):gc c b (m+1) Z=.n Z:=by rw[mO,h];rfl
def Dz(h:c Z=.ok U)(k:b Z=.n Ô):gc c b (m+1) Z=gc c b m Ô:=by rw[LI h,k];rfl
def dk{g b x xs Z a o}(c:g x Z=.ok a)(d:b a=o)(h:∀k,zT o k=o):forL g b (x::xs) Z=o:=by rw[n9,c,DD,d];exact h _
def qE(h:a Z=.ok xs)(g:f xs=r):bc f a Z=r:=by simp_all
def Qn(h:t (î i Z)=o):zr i t Z=o:=h
def Xy(h:a Z=.ok xs)(b:xs.length<=lim):lb a Z=.ok (.l xs):=by simp_all
def RK{xs ys}(h:xs.length+ys.length<=lim):fK (.l xs) (.l ys)=.ok (.l<|xs++ys):=Ð h
def JU{a b}(h:a Z=.ok x)(g:b Z=.ok y):Ε a b Z=.ok (x||y):=by cases x<;>simp[h,g]
def Oz{g b}(h:it Z=.ok xs)(k:forL g b xs Z=.n Ô):aw (kq it g b) R Z=R Ô:=by simp_all
def v_bor(h:t (î i Z)=.ok b):zg i t Z=.ok b:=by rw[MY,h];rfl
def Yv{a b c Z x y z}(h:a Z=.ok x)(g:b Z=.ok y)(k:c Z=.ok z):eB (aa a<|aa b<|aa c ak) Z=.ok (.t [x,y,z]):=by simp_all
def Je{e g Z a b}(h:e Z=.ok (.B a))(k:g Z=.ok (.B b)):mn e g Z=.ok (.B<|a&&b):=by rw[show mn e g Z=(e Z).bind _ from rfl,h];cases a;rfl;exact k
def EB{t a b Z r}(h:t Z=.ok U)(k:a Z=r):ϓ t a b Z=r:=by simp_all
def Yy(h:f ws=r)(k:∀y,r=.ok y->Ϝ c y=U)(g:a Z=.ok ws):qm c f a Z=r:=by rw[show qm c f a Z=(a Z).bind _ from rfl,g];show(f _).bind _=_;rw[h];cases r with|ok y=>exact Ð<|k y M|_=>rfl
def OM{c a b Z}(h:c Z=.ok O):Ü c a b Z=b Z:=by simp[h]
def Qj{k e Z x}(h:e Z=.x x):aN k e Z=.x x Z:=by simp[h]
def QA{e Z x}(h:e Z=.x x):aP e Z=.x x Z:=by simp[h]
abbrev Ed(r:Res W):Prop:=∃b,r=.ok (.B b)
def ZK(x y f)(m n)(h:0<=f/\f<4):∃a b,Ą oE (.int f)=.ok (.t [.int a,.int b])/\(-2<a/\a<2)/\(-2<b/\b<2)/\ŗ (x,y,f) m n=(x+(a*m+b*n),y+(b*m-a*n)):=by
 have r:f=0\/f=1\/f=2\/f=3:=by grind
 rcases r with rfl|rfl|rfl|rfl;.exact⟨0,1,M,by decide,by decide,by simp[ŗ]⟩
 .exact⟨-1,0,M,by decide,by decide,by simp[ŗ,Hr]⟩
 .exact⟨0,-1,M,by decide,by decide,by simp[ŗ,Hr]⟩
 .exact⟨1,0,M,by decide,by decide,by simp[ŗ,Hr]⟩
def zO{i}(h:-2<i/\i<2)(j):rz (.int i) (.int j)=.ok (.int<|i*j):=BD j (by omega) (by omega)
def zo(p)(m n)(h:Ϫ p):bC [Ī p,.int m,.int n]=.ok (Ğ<|ŗ p m n):=by obtain⟨a,b,f,d,c,e⟩:=ZK p.1 p.2.1 p.2.2 m n h;rw[e];exact ê fin (a₁:=jl [.v<|Ī p,.v<|.int m,.v<|.int n,.o,.o,.o]) (a₂:=.r _)<|(aL<|aU M M f).trans<|(aL<|aU (aU (y:=.int m) M M<|zO d m) (aU (x:=.int b) (y:=.int n) M M<|zO c n) M).trans<|(aL<|aU (r:=pZ) (aU (y:=.int m) M M<|zO c m) (aU (x:=.int a) (y:=.int n) M M<|zO d n) M).trans M
def iD(p):eh [Ī p]=.ok (Ğ<|qK p):=rfl
theorem xm(F)(s):∀f k a b,fin (ϴ (forL (vn<|di (ax 2)<|di (ax 3) vo) gv (iS k<|f.map Ī) [.v F,.v<|Ğ s,a,b])<|aP<|eC .n)=.ok (Χ<|vl s k f)
|[],k,a,b=>rfl|p::f,k,a,b=>by
 simp [iS,n9];by_cases h:qK p=s;.simp[gv,iD,h,vl]
 .have c:=xm F s f (k+1) (.v<|.int k)<|.v<|Ī p;simp[gv,iD,h,vl]at c⊢;exact c
def Seq(f:List S3)(v:W):Prop:=v=ļ f\/v=.l (f.map Ī)
def Ew{f v}(h:Seq f v)(s):iF [v,Ğ s]=.ok (Χ<|vl s 0 f):=by rcases h with rfl|rfl<;>exact xm _ s f 0 _ _
def yw{f v}(h:Seq f v){k}(hk:k<f.length):Ą v (.int k)=.ok (Ī<|f.getD k (0,0,0)):=by
 have e:f[k]?=L (f.getD k (0,0,0)):=by grind
 rcases h with rfl|rfl;.exact VR (by simp) (by grind)
 .rw[fV,gT,Ų,e];rfl
def LG{f v}(b:Seq f v)(p)(o)(w:Ϲ)(h:∀k,o=L k->k<f.length)(hw:w≠.ô)(a:w≠.opposite):Ed (rS [Ī p,v,Χ o,.str w.w]):=by cases o with|none=>exact⟨SO f 0 p w Y,by cases w<;>kernel_rfl⟩|some k=>
 have go:∀(w:String)(q:Int),dm [.int p.2.2,.str w]=.ok (.int q)->(∀A B C,tB _ [A,B,C,.v<|.str w]=.ok O)->Ed (rS [Ī p,v,.int k,.str w]):=λw q t n=>⟨_,ê fin<|(ĭ M).trans<|jS.trans<|(ĭ<|n _ _ _).trans<|jS.trans<|fN<|aU (aU (aU M M<|yw b<|h k M) M M) (eA M t) M⟩;cases w;case none=>exact⟨O,by kernel_rfl⟩
 case any=>exact⟨U,by kernel_rfl⟩
 case ô=>exact absurd M hw
 case opposite=>exact absurd M a
 all_goals exact go _ _ M λ_ _ _=>by kernel_rfl
structure Fl(f:List S3):Prop where len:f.length=8fac:∀p∈f,Ϫ p
def Fl.at{f}(h:Fl f){k}(hk:k<8):Ϫ (f.getD k (0,0,0)):=h.fac _ (by have:=h.len;grind)
def Fl.ix{f}(h:Fl f){k:Nat}(hk:k<8):Ą (ļ f) (.int k)=.ok (Ī<|f.getD k (0,0,0)):=yw (.inl rfl) (by rw[h.len];exact hk)
def Tk:ũ->Prop|.at _ _ .opposite=>False|_=>True
def AU{f}(F:Fl f){d:Nat}(c:d<8)(a r)(w)(hw:w≠.opposite):Ed (Hv [ļ f,.int d,(ũ.at a r w).W]):=by
 have j:=zo _ a r<|F.at c;have g:=Ew (f:=f) (.inl rfl)<|ŗ (f.getD d (0,0,0)) a r;have p:=LG (f:=f) (.inl rfl) (f.getD d (0,0,0)) (vl (ŗ (f.getD d (0,0,0)) a r) 0 f) w λk q=>by have:=kA _ _ _ _ q;omega
 have st:∀R,aw (aN 3<|eJ É Ï) (aw (aN 4<|eJ Ø<|eI 3)<|aw (aN 5<|av iF<|aa É<|aa (av bC<|aa Ý<|aa (eJ Ø Ù)<|aa (eJ Ø ċ) ak) ak) R) [.v<|ļ f,.v<|.int d,.v (ũ.at a r w).W,.o,.o,.o]=R _:=λR=>(aL<|aU M M<|F.ix c).trans<|(aL<|aU M M M).trans<|aL<|eA (bR M<|bR (eA (bR M<|bR (x:=.int a) M<|bR (x:=.int r) M M) j) M) g;generalize vl (ŗ (f.getD d (0,0,0)) a r) 0 f=o at *;have go:w≠.ô->(∀A B C D G,tB (eQ õ<|eS "partner") [A,B,C,D,.v<|.str w.w,G]=.ok O/\tB (eQ õ<|eS "opposite") [A,B,C,D,.v<|.str w.w,G]=.ok O)->Ed (Hv [ļ f,.int d,(ũ.at a r w).W]):=λl n=>by obtain⟨b,e⟩:=p l hw;exact⟨b,ê fin<|(st _).trans<|(ĭ (n _ _ _ _ _).1).trans<|jS.trans<|(ĭ (n _ _ _ _ _).2).trans<|jS.trans<|fN<|eA M e⟩
 cases w;case opposite=>exact absurd M hw
 case ô=>
  obtain⟨i,m⟩:∃i,kc [.int d]=.ok (.int i):=by
   by_cases h:(d:Int)%2=0;.exact⟨d+1,by simp[kc,jV,h]⟩
   .exact⟨d-1,by simp[kc,jV,h]⟩
  obtain⟨b,s⟩:Ed (oEq (Χ o)<|.int i):=by cases o<;>exact⟨_,M⟩
  exact⟨b,ê fin<|(st _).trans<|(ž<|by kernel_rfl).trans<|za<|aU M (eA M m) s⟩
 all_goals exact go (λz=>nomatch z) λ_ _ _ _ _=>⟨by kernel_rfl,by kernel_rfl⟩
def jF(s):fb [Ğ s]=.ok (.int<|Mp s):=rfl
def IF{p}(h:Ϫ p):∃w:String,wA [Ī p]=.ok (.str w):=by
 have st:∀R,aw (aN 1<|av fb<|aa (av eh<|aa É ak) ak) (aw (aN 2<|av fb<|aa (av bC<|aa É<|aa Ù<|aa æ ak) ak) R) [.v<|Ī p,.o,.o]=R _:=λR=>(aL<|eA (bR (eA M<|iD p) M)<|jF _).trans<|aL<|eA (bR (eA M<|zo p 1 0 h) M)<|jF _;generalize Mp (qK p)=A,Mp (ŗ p 1 0)=B at st;by_cases a:B=A;.exact⟨"sideways",ê fin<|(st _).trans<|(ž<|ê Res.ok<|Μ.mpr a).trans<|za M⟩
 .refine⟨if B<A then"inward"else"outward",ê fin<|(st _).trans<|(ĭ<|ê Res.ok<|ϖ.mpr a).trans<|jS.trans<|fN ?_⟩;by_cases b:B<A<;>simp[b]
def GU(d)(w:String):Ed (ke [.int d,.str w]):=by
 have a:uQ [.int d]=.ok _:=rfl;by_cases h:"head"=w\/"side"=w;.exact⟨_,by simp[ke,jW,VF,a,h];rfl⟩
 .exact⟨_,by simp[ke,jW,VF,h];rfl⟩
def yB(n){f}(F:Fl f){d:Nat}(e:d<8)(t)(k:Tk t):Ed (fY (n+1) [ļ f,.int d,t.W]):=by cases t with|«at» a r w=>
 obtain⟨b,q⟩:=AU F e a r w λz=>by rw[z]at k;exact k
 exact⟨b,ê fin<|(aL M).trans<|(ĭ<|by kernel_rfl).trans<|jS.trans<|(ž<|by kernel_rfl).trans<|za<|eA M q⟩|inner m=>exact⟨_,ê fin<|(aL M).trans<|(ĭ<|by kernel_rfl).trans<|jS.trans<|(ĭ<|by kernel_rfl).trans<|jS.trans<|(ž<|by kernel_rfl).trans<|za<|aU (eA (bR (eA (bR (aU M M<|F.ix e) M)<|iD _) M)<|jF _) (aU M M M) M⟩|ĕ l=>
 obtain⟨w,o⟩:=IF<|F.at e;obtain⟨b,p⟩:=GU d l.w;have g:∀A B,tB (eQ Ý<|eS "not") [A,B,.v (ũ.ĕ l).W,.v<|.str l.w]=.ok O/\tB (eQ Ý<|eS "at") [A,B,.v (ũ.ĕ l).W,.v<|.str l.w]=.ok O/\tB (eQ Ý<|eS "inner") [A,B,.v (ũ.ĕ l).W,.v<|.str l.w]=.ok O:=λA B=>by cases l<;>exact⟨by kernel_rfl,by kernel_rfl,by kernel_rfl⟩
 have st:∀R i R2 h,aw (aN 3<|eJ Ø æ) (aw (Ü (tB<|eQ Ý<|eS "not") i à)<|aw (Ü (tB<|eQ Ý<|eS "at") R2 à)<|aw (Ü (tB<|eQ Ý<|eS "inner") h à) R) [.v<|ļ f,.v<|.int d,.v (ũ.ĕ l).W,.o]=R [.v<|ļ f,.v<|.int d,.v (ũ.ĕ l).W,.v<|.str l.w]:=λR i R2 h=>(aL M).trans<|(ĭ (g _ _).1).trans<|jS.trans<|(ĭ (g _ _).2.1).trans<|jS.trans<|(ĭ (g _ _).2.2).trans jS;obtain⟨c,j⟩:∃c,∀A B C,tB (Ì ı Ý<|eC iP) [A,B,C,.v<|.str l.w]=.ok c:=⟨match l with|.ň|.ń|.ŉ=>U|_=>O,λ_ _ _=>by cases l<;>kernel_rfl⟩;cases c;.exact⟨b,ê fin<|(st _ _ _ _).trans<|(ĭ<|j _ _ _).trans<|jS.trans<|fN<|eA M p⟩
 .exact⟨_,ê fin<|(st _ _ _ _).trans<|(ž<|j _ _ _).trans<|za<|aU (eA (bR (aU M M<|F.ix e) M) o) M M⟩
def MX{f}(F:Fl f){d:Nat}(a:d<8)(g)(t)(c:Tk t):Ed (fY 3 [ļ f,.int d,Lh g t]):=by cases g with|false=>exact yB 2 F a t c|true=>obtain⟨b,h⟩:=yB 1 F a t c;exact⟨!b,ê fin<|(aL M).trans<|(ž<|M).trans<|za<|v_not<|eA M h⟩
def le(b Δ:List ST):Prop:=∀a,Sat b a->Sat Δ a
section
variable{Q P A B:Ty}{Γ Δ Θ:List ST}{As:List Ty}{e a b:EF}{i:Nat}{À:Nat->Prop}{g:ST}
def l0:le Γ Γ:=λ_ k=>k
def sc{Z}(h:Sat (g::Γ) Z):∃s c,Z=s::c/\g s/\Sat Γ c:=by cases Z with|nil=>exact h.elim|cons s Z=>exact⟨_,_,M,h⟩
def sv{Z}(h:Sat (vT A::Γ) Z):∃w c,Z=.v w::c/\A w/\Sat Γ c:=by obtain⟨s,c,rfl,h,k⟩:=sc h;cases s with|v w=>exact⟨w,c,M,h,k⟩|_=>exact h.elim
def lw{g'}(f:∀s,g s->g' s)(h:le Γ Δ):le (g::Γ) (g'::Δ):=λd k=>by obtain⟨s,c,rfl,k,l⟩:=sc k;exact⟨f s k,h c l⟩
def la(h:le Γ Δ):le (g::Γ) (an::Δ):=lw (λ_ _=>trivial) h
def lv(h:le Γ Δ):le (g::Γ) (g::Δ):=lw (λ_ h=>h) h
def n0:Ff []:=λc k=>by cases c with|nil=>exact k|cons=>exact k.elim
def nv(h:Ff Γ):Ff (vT A::Γ):=λd k=>by obtain⟨w,c,rfl,g,k⟩:=sv k;exact⟨g,h _ k⟩
def na(h:Ff Γ):Ff (an::Γ):=λc k=>by obtain⟨w,d,rfl,g,k⟩:=sc k;exact⟨trivial,h _ k⟩
def al{ws}(h:Al (A::As) ws):∃x xs,ws=x::xs/\A x/\Al As xs:=by cases ws with|nil=>exact h.elim|cons s Z=>exact⟨_,_,M,h⟩
def a1{ws}(h:Al [A] ws):∃x,ws=[x]/\A x:=by obtain⟨x,c,rfl,g,k⟩:=al h;cases c with|nil=>exact⟨x,M,g⟩|cons=>exact k.elim
def a2{ws}(h:Al [A,B] ws):∃x y,ws=[x,y]/\A x/\B y:=by obtain⟨x,c,rfl,g,k⟩:=al h;obtain⟨y,rfl,l⟩:=a1 k;exact⟨x,y,M,g,l⟩
def a3{C ws}(h:Al [A,B,C] ws):∃x y z,ws=[x,y,z]/\A x/\B y/\C z:=by obtain⟨x,c,rfl,g,k⟩:=al h;obtain⟨y,z,rfl,l⟩:=a2 k;exact⟨x,y,z,M,g,l⟩
def a4{C D ws}(h:Al [A,B,C,D] ws):∃x y z w,ws=[x,y,z,w]/\A x/\B y/\C z/\D w:=by obtain⟨x,c,rfl,g,k⟩:=al h;obtain⟨y,z,w,rfl,l⟩:=a3 k;exact⟨x,y,z,w,M,g,l⟩
def Kk(h:le Γ Δ):S Q Γ à Δ P:=h
def Yo{s}(h:S Q Γ s Δ P)(g:le Δ Θ):S Q Γ s Θ P:=λc k=>by have:=h c k;cases e:s c with|n Ô=>rw[e]at this;exact g _ this|_=>rw[e]at this;exact this
theorem yK:∀{xs k x},x∈iS k xs->∃j y,xs[j]?=L y/\x=.t [.int (k+j:Nat),y]
|y::xs,k,x,h=>by
 rcases Ę.mp h with rfl|h;.exact⟨0,y,M,M⟩
 .obtain⟨j,z,e,rfl⟩:=yK h;exact⟨j+1,z,e,by grind⟩
abbrev Nn(n:Nat):Ty:=λv=>∃d:Nat,d<n/\v=.int d
def Yw{n}(h:E Q Γ e A)(m:∀v,A v->∃xs,(v=.l xs\/v=.t xs)/\xs.length=n/\∀x∈xs,B x):IE Q Γ (zZ e) (λ_=>True) (Pr (Nn n) B):=λl k=>(h l k).bd λv c=>by obtain⟨xs,h,rfl,f⟩:=m v c;have:Se (λ_=>True) (Pr (Nn xs.length) B) _:=⟨trivial,λx d=>by obtain⟨j,y,e,rfl⟩:=yK d;have:=Ĵ.mp e;exact⟨_,y,M,⟨j,this.1,by rw[Nat.zero_add]⟩,f y<|by grind⟩⟩;rcases h with rfl|rfl<;>exact this
def GH{lo n x}(h:x∈û lo n):∃i,i<n/\x=.int (lo+i):=by obtain⟨i,c,rfl⟩:=Ł.mp h;exact⟨i,ŵ.mp c,M⟩
def XL.cs{α p}{r:Res α}(h:XL Q p r):(∃x,r=.ok x/\p x)\/∃x,r=.x x/\Q x:=by cases r with|ok x=>exact .inl ⟨x,M,h⟩|x x=>exact .inr ⟨x,M,h⟩|b=>exact h.elim
def Ű(h:E Q Γ e A)(g:∀v,A v->P v):E Q Γ e P:=λc k=>by
 rcases(h c k).cs with⟨x,e,h⟩|⟨x,e,h⟩<;>rw[e];.exact g x h
 .exact h
def Rk{n}(f:n<1000)(h:E Q Γ e (.=.int (n:Nat))):IE Q Γ (fW e) (.=n) (Nn n):=λd k=>by
 rcases(h d k).cs with⟨x,e,rfl⟩|⟨x,e,h⟩;.rw[Zy e (by omega)];exact⟨by simp,λx c=>by obtain⟨i,j,rfl⟩:=GH c;exact⟨i,by omega,by simp⟩⟩
 .unfold fW;rw[e];exact h
def EL{n}(p:n<1000)(j:E Q Γ a (Nn n))(m:E Q Γ b (.=.int n)):IE Q Γ (jz (Ì fK a Ù) b) (λ_=>True) (Nn n):=λf k=>by
 rcases(j f k).cs with⟨x,e,d,o,rfl⟩|⟨x,e,h⟩
 .rcases(m f k).cs with⟨x,c,rfl⟩|⟨x,c,h⟩;.rw[show jz _ b f=.ok (û (d+1) (n-(d+1:Int)).toNat)by simp[e,c];omega];exact⟨trivial,λx l=>by obtain⟨i,q,rfl⟩:=GH l;exact⟨d+1+i,by omega,by simp⟩⟩
  .simp[e,c];exact h
 .simp[e];exact h
def YI{s t}(hi:Γ[i]?=L (vT λv=>v=.n\/A v))(h:∀v,A v->o7 v=O)(l:S Q (Γ.set i<|vT A) s [λ_=>False] P)(n:S Q Γ t Θ P):S Q Γ (aw (Ü (tB<|Ì fJ (dA i)<|eC .n) s à) t) Θ P:=λc k=>by obtain⟨z,e,f⟩:=k.gt hi;cases z with
|v w=>
 have m:dA i c=.ok w:=by simp_all
 have j:tB (Ì fJ (dA i)<|eC .n) c=.ok !o7 w:=by show Res.bind (Res.bind (dA i c) _) _=_;rw[m];rfl
 unfold aw Ü;rw[j];rcases f with rfl|hw;.exact n c k
 .rw[h w hw];have:=k.set (i:=i) (g:=vT A) (s:=.v w) hw;rw[show c.set i (.v w)=c by obtain⟨q,e⟩:=Ĵ.mp e;rw[<-e];exact List.set_getElem_self q]at this;have:=l c this;cases d:s c with|n Ô=>rw[d]at this;cases Ô;exact this.elim;exact this.1.elim|_=>rw[d]at this;exact this
|_=>exact f.elim
def Ho{À}:∀ws,Al [Ls À Bo] ws->∃v,Ϣ ws=.ok v/\Bo v
|[_],⟨⟨xs,rfl,h⟩,_⟩=>by
 have go:∀d,(∀v∈d,Bo v)->∃b,Tc d=L b:=λd=>by induction d with|nil=>exact λ_=>⟨U,M⟩|cons v d ih=>intro h;obtain⟨b,rfl⟩:=h v ę;obtain⟨c,e⟩:=ih λx f=>h x<|Ħ _ f;exact⟨b&&c,by show Option.map _ _=_;rw[e];rfl⟩
 obtain⟨b,e⟩:=go xs h.all;exact⟨_,by simp_all,b,M⟩
end
abbrev Sd:Ty:=λv=>∃p,Ϫ p/\v=Ī p
abbrev Fo:Ty:=λv=>∃f,Fl f/\v=ļ f
structure Dd(r:Rl):Prop where nt:r.ts.length<=100tk:∀p∈r.ts,Tk p.2ns:∀l,r.ss=L l->l.length<=100
def Ref(c:W):Prop:=(∃d:Nat,d<8/\(c=.e "Blind" [.int d]\/c=.e "Out" [.int d]))\/(∃i j:Nat,i<8/\j<8/\c=.e "Meet" [.int i,.int j])\/c=.e "NoPairs" []
def gj{n:Nat}(h:n<1000):ic (.int n)=U:=by
 show decide _=U;simp;by_cases z:n=0;.rw[z];decide
 .rw[Il z];exact Ē h (by simp)
def Uv{À A n}(b:∀m,À m->m=n):O2 Ą (Ls À A) (Nn n) A:=λx y⟨f,e,h⟩⟨d,a,c⟩=>by
 subst e c;have a:d<f.length:=by rw[b _ h.len];exact a
 exact⟨_,by rw[fV,gT,ν _];rfl,h.all _<|Ai a⟩
def Yz:O2 Ą Fo (Nn 8) Sd:=λx y⟨f,F,e⟩⟨d,a,b⟩=>by subst e b;exact⟨_,F.ix a,_,F.at a,M⟩
section
variable{c:List Rl}(hc:∀r∈c,Dd r)
include hc
theorem zu:F no qk [Fo,Nn 8,(.=Ŏ c)] λv=>v=.n\/Nn c.length v:=Ş (ţ (Cf (A:=Pr (Nn c.length) λv=>∃r∈c,v=r.W) (Yw (Þ M) λv l=>by subst l;exact⟨_,.inl rfl,by simp,λx i=>by obtain⟨r,a,rfl⟩:=Ł.mp i;exact⟨r,a,M⟩⟩) Kp (Ld (Ze (Gb (ï (Eb (À:=(.<=100)) (A:=λv=>∃g t,Tk t/\v=Lh g t) (Qk<|Ĥ (Þ M) Ķ λx y⟨r,a,e⟩j=>by subst e j;exact⟨_,M,_,M,by rw[Į];exact(hc r a).nt,λx i=>by obtain⟨p,k,rfl⟩:=Ł.mp i;exact⟨p.1,p.2,(hc r a).tk p k,M⟩⟩) (λn h=>ñ h<|by decide) (ű (ï (Þ M)<|ï (Þ M)<|ï (Þ M) Č) λws hw=>by obtain⟨_,_,_,rfl,⟨f,F,rfl⟩,⟨d,m,rfl⟩,⟨g,t,o,rfl⟩⟩:=a3 hw;obtain⟨b,e⟩:=MX F m g t o;rw[e];exact⟨b,M⟩)) Č) Ho)) (Ņ<|Ű (Þ M) λ_ h=>.inr h)<|Kk<|lv<|lv<|lv<|la<|la l0))<|Ņ<|Ű Ķ λ_ h=>.inl h)
end
def Sm:Ty:=λv=>v=.n\/∃l:List Nat,v=.l (l.map λk:Nat=>.int k)
abbrev SE:Ty:=λv=>v=.t [.str "stay"]\/∃s:Yb,v=s.W
abbrev Xj:Ty:=λv=>∃a,(v=.t a\/v=.l a)/\Se (.<=100) SE a
def LC{r}(h:Dd r):Xj (Tw r.ss):=by have:=h.ns;generalize r.ss=o at *;cases o with|none=>exact⟨_,.inl rfl,by grind,λx a=>.inl<|Ň.mp a⟩|some l=>exact⟨_,.inl rfl,by grind,λx a=>by grind⟩
section
variable{c:List Rl}(hc:∀r∈c,Dd r)
include hc
theorem zi:F Ref qj [Fo,Nn 8,(.=Ŏ c),Sm] Xj:=Ş (ţ (Ld (λj k=>by
 obtain⟨_,_,rfl,_,h⟩:=sc k;obtain⟨_,_,rfl,⟨d,a,rfl⟩,f⟩:=sv h;obtain⟨_,_,rfl,_,g⟩:=sc f;obtain⟨_,_,rfl,rfl|⟨l,rfl⟩,_⟩:=sv g;.trivial
 .rw[WG (x:=U) (y:=!bY (.int d) (l.map λk:Nat=>.int k)) M (mh<|aU M M<|Ð<|by rw[ry 50 _ _ λ_ _=>rfl];rfl)];trivial) (Ņ<|Dx Č (by decide) λws hw=>by cases ws;exact⟨[],.inl rfl,Ś _,λ_ z=>nomatch z⟩;exact hw.elim) Zo)<|ţ (Ab<|ű (ï (Þ M)<|ï (Þ M)<|ï (Þ M) Č)<|zu hc)<|ZI M λv⟨d,_,e⟩=>by subst e;rfl (Jk (ï (Þ M) Č) λws hw=>by obtain⟨_,rfl,⟨d,a,rfl⟩⟩:=a1 hw;exact⟨M,by have:=gj (n:=d) (by omega);simp[this],.inl ⟨d,a,.inl rfl⟩⟩) (Ņ<|Ĥ (A:=λv=>∃r∈c,v=r.W) (Ĥ (Þ M) (Þ M) λx y e⟨d,a,b⟩=>by subst e b;exact⟨_,UR a,_,Ai a,M⟩) Ķ λx y⟨r,i,e⟩b=>by subst e b;exact⟨_,M,LC<|hc r i⟩))
end
def C5(f){w:String}{q}(h:Ą gS (.str w)=.ok (.int q)):dm [.int f,.str w]=.ok (.int<|(f+q)%4):=ê fin<|fN<|aU (aU M (aU M M h) M) M M
def N0{p}(h:Ϫ p)(s:Yb):∃q,ja [Ī p,s.W]=.ok (Ī q)/\Ϫ q:=by cases s with|go g n=>
 obtain⟨a,b,c,f,d⟩:∃a b:Int,Ą iv (.str g.w)=.ok (.t [.int a,.int b])/\(-2<a/\a<2)/\-2<b/\b<2:=by cases g<;>exact⟨_,_,M,by decide,by decide⟩
 exact⟨((ŗ p (a*n)<|b*n).1,(ŗ p (a*n)<|b*n).2,p.2.2),ê fin ((ĭ<|by cases g<;>kernel_rfl).trans<|jS.trans<|(aL<|aU M (aU M M M) c).trans<|(aL<|eA (bR M<|bR (aU (aU M M M) (aU (z:=.int n) M M M)<|zO f n)<|bR (aU (aU M M M) (aU (z:=.int n) M M M)<|zO d n) M)<|zo p _ _ h).trans M),h⟩|turn t=>
 obtain⟨q,e⟩:∃q,Ą gS (.str t.w)=.ok (.int q):=by cases t<;>exact⟨_,M⟩
 exact⟨(p.1,p.2.1,(p.2.2+q)%4),ê fin ((ž<|by cases t<;>kernel_rfl).trans<|za<|Yv (z:=.int _) M M<|eA (bR M<|bR (aU M M M) M)<|C5 _ e),by unfold Ϫ;simp only;omega⟩
abbrev Wn(n:Nat):Prop:=0<n/\n<=1000
abbrev Way:Ty:=Ls Wn Sd
def rL{w}(h:0<w.length):∃x∈w,Ą (.l w) (.int<|-1)=.ok x:=by have h:=List.length_pos_iff.mp h;exact⟨_,List.getLast_mem h,by rw[fV,km,Sx h];rfl⟩
theorem qA(P S):∀l,(∀x∈l,SE x)->∀w o,Se (λn=>0<n/\n+l.length<=1000) Sd w->∃a o',forL (ax 3) kT l [.v P,.v S,.w w,o]=.n [.v P,.v S,.w a,o']/\Se Wn Sd a
|[],_,w,o,h=>⟨w,o,M,h⟩|x::l,hx,w,o,h=>by
 have i:=h.len;simp only[Ĩ]at i;have b:∀y∈l,SE y:=λy f=>hx y<|Ħ _ f;rcases hx x ę with rfl|⟨s,rfl⟩;.obtain⟨a,o',d,k⟩:=qA P S l b w (.v<|.t [.str "stay"]) ⟨by omega,h.all⟩;exact⟨a,o',dj M (Ke<|by kernel_rfl) d,k⟩
 .obtain⟨y,f,r⟩:=rL (w:=w) i.1;obtain⟨p,j,rfl⟩:=h.all y f;obtain⟨q,e,m⟩:=N0 j s;obtain⟨a,o',d,k⟩:=qA P S l b (w++[Ī q]) (.v s.W) ⟨by simp;omega,λz c=>by
  rcases ρ.mp c with c|c;.exact h.all z c
  .exact⟨q,m,Ň.mp c⟩⟩;exact⟨a,o',dj M ((Bc<|by cases s with|go g n=>cases g<;>kernel_rfl|turn t=>kernel_rfl).trans<|Yt M (by omega) (eA (bR (aU M M r) M) e) M) d,k⟩
def WA:F no mF [Sd,Xj] Way:=λws hw=>by obtain⟨_,v,rfl,⟨p,h,rfl⟩,⟨f,a,c⟩⟩:=a2 hw;obtain⟨d,i,e,b⟩:=qA (Ī p) v f c.all [Ī p] .o ⟨⟨Nat.zero_lt_one,by have:=c.len;simp;omega⟩,λx g=>⟨p,h,Ň.mp g⟩⟩;rw[show mF [Ī p,v]=.ok (.l d)from ê fin (a₁:=qH _) (a₂:=.r<|.l d)<|(Wc M).trans<|(Oz (by rcases a with a|a<;>subst a<;>rfl) e).trans M];exact⟨_,M,b⟩
def LY:F no k9 [Sd] Bo:=λws hw=>by
 obtain⟨_,rfl,⟨p,h,rfl⟩⟩:=a1 hw;obtain⟨x,y,k⟩:=p;have a1:jD [.int k]=.ok (.B U):=by have d:0<=k:=h.1;have b:k<4:=h.2;simp[jD,jq,iH,iC,Gf,wh,oE,d,b]
 have a2:∀z:Int,iI [.int z]=.ok (.B<|decide (-200<=z)&&decide (z<=200)):=λz=>by by_cases c:-200<=z<;>by_cases a:z<=200<;>simp[iI,kE,iH,iC,Gf,wh,iO,c,a]
 rw[show k9 [Ī (x,y,k)]=_ from ê fin<|(ĭ<|by kernel_rfl).trans<|jS.trans<|fN<|Je (eA M<|a2 x)<|Je (eA M<|a2 y)<|eA M a1];exact⟨_,M⟩
def Tz{α}(x)(xs:List α):cut (x::xs) (L 1) Y=xs:=by simp[cut,Ā]
def ZD:F Ref ot [Ls (.=8) Way] (Ls (.=8) Way):=Ş (ţ (Cf (A:=Pr (Nn 8) Way) (Yw (Þ M) λv⟨b,e,h⟩=>⟨b,.inl e,h.len,h.all⟩) Kp (Ld (Rw (Ze (Gb (ï (Eb (À:=(.<=1000)) (A:=Sd) (Kf λc k=>((Þ M:E Ref _ Ø Way) c k).bd λv⟨w,e,h⟩=>by subst e;have a:=h.len;cases w with|nil=>exact absurd a.1 (by decide)|cons x t=>exact⟨t,ê W.l<|Tz _ _,by simp at a⊢;omega,λy g=>h.all y<|Ħ _ g⟩) (λn h=>ñ h<|by decide)<|ű (ï (Þ M) Č) LY) Č) Ho))) (Jk (ï (Þ M) Č) λws hw=>by obtain⟨_,rfl,⟨d,f,rfl⟩⟩:=a1 hw;exact⟨M,by have:=gj (n:=d) (by omega);simp[this],.inl ⟨d,f,.inr rfl⟩⟩)<|Kk<|lv<|la<|la l0))<|Ņ<|Þ M)
def Hy{Q a}:IE Q a (fW<|eC bM) (.=8) (Nn 8):=Rk (by simp) Ķ
def OT{c}(a:∀r∈c,Dd r):F Ref Iv [Fo,(.=Ŏ c),Sm] (Ls (.=8) Way):=Ş (ţ (Ab<|Np Hy λn h=>by subst h;decide (nv<|nv<|nv<|na n0) (Pd (ï (Þ M)<|ï (Þ M)<|ï (Þ M)<|ï (Þ M) Č)<|zi a))<|Ņ<|Pd (ï (Eb Hy λn h=>by subst h;decide (ű (ï (Ĥ (Þ M) (Þ M) Yz)<|ï (Ĥ (Þ M) (Þ M)<|Uv λ_ h=>h) Č) WA)) Č) ZD)
abbrev Sq(n:Nat):Ty:=λv=>∃f:List S3,f.length=n/\(∀p∈f,Ϫ p)/\v=.l (f.map Ī)
def Tj{n}:O2 Ą (Sq n) (Nn n) Sd:=λx y⟨f,c,a,e⟩⟨d,g,b⟩=>by subst e b;exact⟨_,yw (.inr rfl) (by omega),_,a _ (by grind),M⟩
def tm:F no eh [Sd] λv=>∃s,v=Ğ s:=λws hw=>by obtain⟨_,rfl,⟨p,_,rfl⟩⟩:=a1 hw;exact⟨qK p,M⟩
def uq{n}(a:n<1000):F no dn [Sq n] λv=>v=.n\/Pr (Nn n) (Nn n) v:=have ln{b}(h:b[0]?=L (vT<|Sq n)):=Gb (ï (Þ h) Č) λws hw=>by obtain⟨_,rfl,⟨f,g,_,rfl⟩⟩:=a1 hw;exact⟨_,M,by rw[Į,g]⟩
 Ş (ţ (Cf (Rk a<|ln M) Sk<|Yo (Cf (EL a (Þ M)<|ln M) Sk<|Ld (Ze<|Ĥ (ű (ï (Ĥ (Þ M) (Þ M) Tj) Č) tm) (ű (ï (Ĥ (Þ M) (Þ M) Tj) Č) tm) λx y⟨s,e⟩⟨t,c⟩=>by subst e c;exact⟨_,M,_,M⟩) (Ņ (Dx (ï (Þ M)<|ï (Þ M) Č) (Qq M) λws hw=>by obtain⟨x,y,rfl,d,i⟩:=a2 hw;exact .inr ⟨x,y,M,d,i⟩))<|Kk<|lv<|lv<|la l0)<|lv<|la l0)<|Ņ<|Ű Ķ λ_ h=>.inl h)
def z7:F Ref iJ [Sq 8] Fo:=Ş (ţ (Ab<|ű (ï (Þ M) Č)<|uq<|by decide)<|YI M λv⟨x,y,e,_⟩=>by subst e;rfl (Jk (As:=[Nn 8,Nn 8]) (ï (Ĥ (Þ M) Ķ λx y⟨a,b,e,j,_⟩c=>by subst e c;exact⟨_,M,j⟩)<|ï (Ĥ (Þ M) Ķ λx y⟨a,b,e,_,m⟩c=>by subst e c;exact⟨_,M,m⟩) Č) λws hw=>by obtain⟨_,_,rfl,⟨d,l,rfl⟩,⟨h,g,rfl⟩⟩:=a2 hw;exact⟨M,by have:=gj (n:=d) (by omega);have:=gj (n:=h) (by omega);simp[*],.inr<|.inl ⟨d,h,l,g,M⟩⟩) (Ņ (Gb (ï (Þ M) Č) λws hw=>by obtain⟨_,rfl,⟨f,k,i,rfl⟩⟩:=a1 hw;exact⟨_,M,f,⟨k,i⟩,M⟩)))
def ZP{Q a}:E Q (vT Way::a) (eJ É<|Đ fU Ù) Sd:=Ĥ (B:=(.=.int (-1))) (Þ M) (Ax Ķ λx e=>by simp_all) λx y⟨w,e,h⟩b=>by subst e b;obtain⟨x,c,e⟩:=rL h.len.1;exact⟨x,e,h.all x c⟩
def Yu{n v}(h:Ls (.=n) Sd v):Sq n v:=by
 obtain⟨a,rfl,h⟩:=h;obtain⟨f,e,b⟩:∃f:List _,a=f.map Ī/\∀p∈f,Ϫ p:=by have:=h.all;clear h;induction a with|nil=>exact⟨[],M,λ_ z=>nomatch z⟩|cons x a ih=>obtain⟨p,g,rfl⟩:=this x ę;obtain⟨f,rfl,b⟩:=ih λy c=>this y<|Ħ _ c;exact⟨p::f,M,λq d=>by grind⟩
 subst e;exact⟨f,by have:=h.len;rwa[Į]at this,b,M⟩
def HA{a it}(h:IE Ref a it (.=8) Way):E Ref a (bc iJ<|aa (dD 1 it (ax 0) gD<|eJ É<|Đ fU Ù) ak) Fo:=Pd (ï (Ű (Eb h λn h=>by simp_all ZP) λv=>Yu) Č) z7
def yN{c}(a:∀r∈c,Dd r):F Ref dW [Fo,(.=Ŏ c),Sm] Fo:=Ş<|Ņ<|HA<|Kf<|Pd (ï (Þ M)<|ï (Þ M)<|ï (Þ M) Č)<|OT a
noncomputable def mj(hs:Nat->Option Nat):Nat->Nat->List Nat|0,d=>[d]|n+1,d=>d::match hs d with|some k=>mj hs n k|none=>[]
def tK(hs)(n d):d∈mj hs n d:=by cases n<;>simp[mj]
structure ź(hs:Nat->Option Nat)(rk:Nat->Nat):Prop where lt:∀d k,d<8->hs d=L k->k<8rl:∀d,d<8->rk d<8up:∀d k,d<8->hs d=L k->rk d<rk k
section
variable{hs:Nat->Option Nat}{rk:Nat->Nat}(H:ź hs rk)
include H
theorem QD:∀n d,d<8->∀x∈mj hs n d,x<8
|0,d,hd,x,a=>by simp[mj]at a;subst a;exact hd|n+1,d,hd,x,a=>by
 rcases Ę.mp a with rfl|a;.exact hd
 .cases e:hs d with|none=>rw[e]at a;cases a|some k=>rw[e]at a;exact QD n k (H.lt d k hd e) x a
theorem xN:∀n d,d<8->8<=n+rk d+1->∀x∈mj hs n d,∀k,hs x=L k->k∈mj hs n d
|0,d,hd,hn,x,c,k,e=>by simp[mj]at c;subst c;have a:=H.up x k hd e;have b:=H.rl k<|H.lt x k hd e;omega|n+1,d,hd,hn,x,c,k,e=>by
 rcases Ę.mp c with rfl|c;.refine Ħ _ ?_;rw[e];exact tK _ n k
 .refine Ħ _ ?_;cases f:hs d with|none=>rw[f]at c;cases c|some k0=>rw[f]at c;have a:=H.up d _ hd f;exact xN n k0 (H.lt d k0 hd f) (by omega) x c k e
omit H in noncomputable def startB(hs:Nat->Option Nat)(d:Nat):Bool:=(List.range 8).all λy=>hs y !=L d
theorem tI:∀r d,rk d<r->d<8->∃s,s<8/\startB hs s=U/\d∈mj hs 8 s
|0,_,h,_=>absurd h<|Ji _|r+1,d,h,hd=>by
  by_cases f:startB hs d=U;.exact⟨d,hd,f,tK _ 8 d⟩
  .have:=by simpa[startB]using f
   obtain⟨y,e,b⟩:=this;have a:=H.up y d e b;obtain⟨s,c,g,i⟩:=tI r y (by omega) e;exact⟨s,c,g,xN H 8 s c (by omega) y i d b⟩
end
def Df(f:List S3)(d:Nat):Option Nat:=match vl (ŗ (f.getD d (0,0,0)) 0 2) 0 f with|some k=>if dU f k=dU f d then L k else Y|none=>Y
theorem YH(s):∀f k i,vl s k f=L i->qK (f.getD (i-k) (0,0,0))=s
|[],_,_,h=>by simp[vl]at h|p::f,k,i,h=>by
 simp [vl]at h;split at h;.rename_i a;cases h;simpa using a
 .have b:=kA s _ f i h;have:=YH s f _ i h;obtain⟨j,rfl⟩:∃j,i=k+1+j:=⟨i-(k+1),by omega⟩;rw[show k+1+j-k=j+1 by omega];simpa using this
def xQ{f d k}(h:Df f d=L k):k<f.length/\qK (f.getD k (0,0,0))=ŗ (f.getD d (0,0,0)) 0 2/\(f.getD k (0,0,0)).2.2=(f.getD d (0,0,0)).2.2:=by unfold Df at h;cases e:vl _ 0 f with|none=>rw[e]at h;cases h|some j=>
 rw[e]at h;simp only at h;split at h;.rename_i a;cases h;have b:=kA _ 0 f k e;exact⟨by omega,YH _ f 0 k e,a⟩
 .cases h
noncomputable def Qi(p:S3):Int:=if p.2.2=0 then p.1 else if p.2.2=1 then p.2.1 else if p.2.2=2 then -p.1 else -p.2.1
def UP{p q}(a:qK q=ŗ p 0 2)(b:q.2.2=p.2.2):Qi q=Qi p+2:=by
 obtain⟨x,y,c⟩:=p;subst b;simp only[qK,ŗ]at a;simp [Qi];split at a;.simp only[Am]at a;simp[*]
 .split at a;.simp only[Am]at a;simp[*]
  .split at a;.simp only[Am]at a;simp[*];omega
   .simp only[Am]at a;simp[*];omega
theorem yQ{p q}:∀l:List Nat,(∀x∈l,p x=U->q x=U)->(∃x∈l,q x=U/\p x=O)->l.countP p<l.countP q
|[],_,h=>by grind|a::l,h,b=>by
  have le:l.countP p<=l.countP q:=List.countP_mono_left λx b=>h x<|Ħ _ b;rw[List.countP_cons,List.countP_cons];by_cases d:p a=U
  .have f:=h a ę d;obtain⟨x,c,g,e⟩:=b;rcases Ę.mp c with rfl|c;.rw[d]at e;cases e
   .have:=yQ l (λx b=>h x<|Ħ _ b) ⟨x,c,g,e⟩;simp[d,f];omega
  .by_cases f:q a=U;.simp[d,f];omega
   .obtain⟨x,c,g,e⟩:=b;rcases Ę.mp c with rfl|c;.exact(f g).elim
    .have:=yQ l (λx b=>h x<|Ħ _ b) ⟨x,c,g,e⟩;simp[d,f];omega
def Gg(f:List S3)(d e:Nat):Bool:=decide ((f.getD e (0,0,0)).2.2=(f.getD d (0,0,0)).2.2)&&decide (Qi (f.getD e (0,0,0))<Qi (f.getD d (0,0,0)))
def BJ(f:List S3)(d:Nat):Nat:=(List.range 8).countP<|Gg f d
def XZ{f:List S3}(hl:f.length=8):ź (Df f) (BJ f)where
 lt d k _ h:=by have:=(xQ h).1;omega
 rl d hd:=by have h:=yQ (p:=Gg f d) (q:=λ_=>U) (List.range 8) (λ_ _ _=>rfl) ⟨d,ŵ.mpr hd,M,by simp[Gg]⟩;rw[List.countP_true,List.length_range]at h;exact h
 up d k hd h:=by
  obtain⟨_,a1,a2⟩:=xQ h;have hk:=UP a1 a2;refine yQ _ (λx _ hx=>?_) ⟨d,ŵ.mpr hd,?_,?_⟩;.simp only[Gg,ł,Lb]at hx⊢;exact⟨hx.1.trans a2.symm,by omega⟩
  .simp only[Gg,ł,Lb];exact⟨a2.symm,by omega⟩
  .simp[Gg]
def qQ{f}(F:Fl f){d:Nat}(h:d<8):lX [ļ f,.int d]=.ok (Χ<|Df f d):=by have i:=F.ix h;have j:=Ew (f:=f) (.inl rfl)<|ŗ (f.getD d (0,0,0)) 0 2;refine(ê fin<|(aL<|aU M M i).trans<|aL<|eA (bR M<|bR (eA M<|zo _ 0 2<|F.at h) M) j).trans ?_;unfold Df;cases e:vl (ŗ (f.getD d (0,0,0)) 0 2) 0 f with|none=>rfl|some k=>
 have l:=yw (f:=f) (.inl rfl) (k:=k) (by have:=(kA _ 0 f k e).2;omega);have c:=WG (Z:=[.v<|ļ f,.v<|.int d,.v<|Ī<|f.getD d (0,0,0),.v<|.int k]) (a:=tB<|Ì fJ Ý<|eC .n) (b:=tB<|eQ (eJ (eJ É Ý) ċ)<|eJ Ø ċ) (x:=U) M<|mh<|aU (aU (aU M M l) M M) M M;refine(ê (λr=>fin<|ø _ (Res.bind r _) _) c).trans ?_;show _=Res.ok (Χ<|if dU f k=dU f d then L k else Y);by_cases g:dU f k=dU f d;.rw[Ð g,show eqv (.int (f.getD k (0,0,0)).2.2) (.int (f.getD d (0,0,0)).2.2)=U from Ϡ g];rfl
 .rw[Õ g,show eqv (.int (f.getD k (0,0,0)).2.2) (.int (f.getD d (0,0,0)).2.2)=O from Ũ g];rfl
noncomputable def nW(l:List Nat):List W:=l.map λk:Nat=>.int k
def ϑ(hs:Nat->Option Nat):W:=.l ((List.range 8).map λd=>Χ<|hs d)
def DA(hs){d:Nat}(a:d<8):Ą (ϑ hs) (.int d)=.ok (Χ<|hs d):=by unfold ϑ;rw[fV,gT,Ų,Mr a];rfl
def mE(l)(d:Nat):Ą (.l<|nW<|l++[d]) (.int<|-1)=.ok (.int d):=by rw[fV,km];simp[nW]
def E5{hs h}(H:ź hs h)(F):∀n m d pre,d<8->8<=n+h d+1->n<m->pre.length+n<1000->gc il ip m [.v<|ϑ hs,.v F,.w<|nW<|pre++[d]]=.n [.v<|ϑ hs,.v F,.w<|nW<|pre++mj hs n d]:=by intro n;induction n with
|zero=>intro m d pre f i l j;obtain⟨m,rfl⟩:∃k,m=k+1:=⟨m-1,by omega⟩;have c:=DA hs f;cases e:hs d with|none=>rw[e]at c;exact Kt<|v_bor<|mh<|aU (aU M (aU M M<|mE pre d) c) M M|some k=>have a:=H.up d k f e;have b:=H.rl k<|H.lt d k f e;omega
|succ n g=>intro m d pre f i l j;obtain⟨m,rfl⟩:∃k,m=k+1:=⟨m-1,by omega⟩;have c:=DA hs f;unfold mj;cases e:hs d with|none=>rw[e]at c;exact Kt<|v_bor<|mh<|aU (aU M (aU M M<|mE pre d) c) M M|some k=>rw[e]at c;have a:=H.up d k f e;have g:=g m k (pre++[d]) (H.lt d k f e) (by omega) (by omega) (by simp;omega);rw[show pre++d::mj hs n k=pre++[d]++mj hs n k by simp,<-g,show nW (pre++[d]++[k])=nW (pre++[d])++[.int k]by simp[nW]];exact Dz (v_bor<|mh<|aU (aU M (aU M M<|mE pre d) c) M M) (Yt M (by simp[nW];omega) (aU M (aU M M<|mE pre d) c) M)
def vL{hs a}(H:ź hs a){d:Nat}(b:d<8):k8 [ϑ hs,.int d]=.ok (.l<|nW<|mj hs 8 d):=ê fin (a₁:=kC _) (a₂:=.r _) ((Wc M).trans<|(vA<|E5 H _ 8 20 d [] b (by omega) (by simp)<|by decide).trans M)
noncomputable def İ(p:Nat×Nat):W:=.t [.int p.1,.int p.2]
def JQ(l):Ht (.l l)=if Bf l=U then .ok (.l l)else .b:=(rfl)
def HZ(n)(l:List Nat):hI (n+1) (l.map λk:Nat=>.int k)=U:=ry n _ _ λ_ _=>rfl
theorem FC:∀l,(∀x∈l,x<1000)->Fc (nW l)=L (12*l.length+3)|[],_=>rfl|a::l,h=>by have c:=h a ę;show(if(a:Int).natAbs<1000 then(Fc<|nW l).map _ else Y)=_;rw[Ð (by omega),FC l λx b=>h x<|Ħ _ b];congr 1
def EW(l)(h:∀x∈l,x<1000)(a:l.length<=100):Bf (nW l)=U:=by unfold Bf;rw[FC l h,show hI 51 (nW l)=U from HZ _ l];simp;omega
def XC(l){i:Nat}(h:i<l.length):Ą (.l<|nW l) (.int i)=.ok (.int<|l.getD i 0):=by rw[fV,gT];simp[nW,h]
theorem xO{hs}:∀n d,(mj hs n d).length<=n+1|0,d=>by simp[mj]|n+1,d=>by unfold mj;cases hs d with|none=>simp|some k=>have:=xO (hs:=hs) n k;simp;omega
def GZ(hs)(d:Nat):g7 (.int d) (ϑ hs)=.ok (.B<|startB hs d):=by
 have a:bY (.int d) ((List.range 8).map λy=>Χ<|hs y)=!startB hs d:=by
  have go:∀l:List Nat,bY (.int d) (l.map λy=>Χ<|hs y)=!l.all λy=>hs y !=L d:=λl=>by induction l with|nil=>rfl|cons y l ih=>rw[ņ,w9,ih,Yf,Bool.not_and];congr 1;cases hs y with|none=>rfl|some k=>rw[ϯ];simp[Χ];omega
  exact go _
 show(if(ě 50 _&&hI 51 _)=U then Res.ok _ else .b)=_;rw[ry 50 _ _ λy _=>by cases hs y<;>rfl,a];simp
noncomputable def two2(l:List Nat):List (Nat×Nat):=(List.range<|l.length/2).map λi=>(l.getD (2*i) 0,l.getD (2*i+1) 0)
def nr(l)(h:∀x∈l,x<1000)(g:l.length<=100):bP [.l<|nW l]=if l.length%2=0 then .ok (.l<|(two2 l).map İ)else .x (.e "NoPairs" []):=by
 have d:(nW l).length=l.length:=by simp[nW]
 by_cases e:l.length%2=0
 .rw[Ð e];have a:(l.length:Int)%2=0:=by omega
  have b:∀A:List Sl,bJ (ax 0) gD (eB<|aa (eJ Ï É)<|aa (eJ Ï<|Ì fK É Ù) ak) (.o::.v (.l<|nW l)::A) (Wb 0 2<|l.length/2)=.ok ((two2 l).map İ):=λA=>by rw[show(two2 l).map İ=(List.range<|l.length/2).map λi=>İ (l.getD (2*i) 0,l.getD (2*i+1) 0)by simp[two2,Function.comp_def]];refine oD λi a=>?_;have a:=ŵ.mp a;have a1:=XC l (i:=2*i) (by omega);have a2:=XC l (i:=2*i+1) (by omega);refine⟨_,M,M,?_⟩;rw[show(0:Int)+(i:Nat)*2=((2*i:Nat):Int)by omega];rw[show((2*i+1:Nat):Int)=((2*i:Nat):Int)+1 by omega]at a2;generalize W.l (nW l)=À at *;generalize((2*i:Nat):Int)=j at *;generalize l.getD (2*i) 0=u at *;generalize l.getD (2*i+1) 0=v at *;simp[a1,a2,İ]
  have b:=b [];have m:(-1152921504606846976:Int)<=l.length:=by omega
  have f:(l.length:Int)<1152921504606846976:=by omega
  have c:(((l.length:Int)-0+1)/2).toNat=l.length/2:=by omega
  generalize(two2 l).map İ=R at *;generalize nW l=À at *;simp only[Int.sub_zero]at c;have n:(Wb 0 2<|l.length/2).length<=1000000:=by simp[Wb];omega
  simp[bP,dQ,List.replicate,d,a,zY,m,f,c,n,b]
 .rw[Õ e];have a:¬(l.length:Int)%2=0:=by omega
  have k:=EW l h g;generalize nW l=À at *;simp[bP,dQ,List.replicate,d,a,Wk,JQ,k,gJ]
def LM{i À zs}(h:Z[i]?=L (.w À))(k:e Z=.ok (.l zs))(a:À.length+zs.length<=lim):Jg i e Z=.n (Z.set i<|.w<|À++zs):=by unfold Jg;rw[h,k];exact Ð a
def MM{i À}(h:Z[i]?=L (.w À))(k:e Z=.x x):Jg i e Z=.x x Z:=by unfold Jg;rw[h,k];rfl
structure Oo(ps:List (Nat×Nat)):Prop where len:ps.length<64lt:∀p∈ps,p.1<8/\p.2<8all:∀d,d<8->∃p∈ps,d=p.1\/d=p.2
def two2_in{l x}(b:l.length%2=0)(h:x∈l):∃p∈two2 l,x=p.1\/x=p.2:=by
 obtain⟨j,a,rfl⟩:=Qr h;refine⟨_,Ł.mpr ⟨j/2,ŵ.mpr (by omega),M⟩,?_⟩;have e:∀k,k=j->l[j]=l.getD k 0:=λk e=>by grind
 rcases Nat.mod_two_eq_zero_or_one j with z|z;.exact .inl (e _<|by omega)
 .exact .inr (e _<|by omega)
theorem kN{hs I}(H:ź hs I)(FL):∀ds(a:List (Nat×Nat))o,(∀d∈ds,d<8)->(∀p∈a,p.1<8/\p.2<8)->a.length+4*ds.length<64->(∃(ps:List (Nat×Nat))(o':Sl),forL (ax 3) bW (nW ds) [.v FL,.v<|ϑ hs,.w<|a.map İ,o]=.n [.v FL,.v<|ϑ hs,.w<|ps.map İ,o']/\ps.length<64/\(∀p∈ps,p.1<8/\p.2<8)/\(∀p∈a,p∈ps)/\∀d∈ds,startB hs d=U->∀x∈mj hs 8 d,∃p∈ps,x=p.1\/x=p.2)\/∃v,forL (ax 3) bW (nW ds) [.v FL,.v<|ϑ hs,.w<|a.map İ,o]=.x (.e "NoPairs" []) v
|[],a,o,_,ha,hl=>.inl ⟨a,o,M,by omega,ha,λ_ h=>h,λ_ z=>nomatch z⟩|d::ds,a,o,hd,ha,hl=>by
  have m:=hd d ę;have k:∀x∈ds,x<8:=λx c=>hd x<|Ħ _ c;have l:=GZ hs d;have Å:=xO (hs:=hs) 8 d;have C:=QD H 8 d m;have n:=nr (mj hs 8 d) λx c=>by have:=C x c;omega (by omega);have J:(two2<|mj hs 8 d).length<=4:=by simp[two2];omega
  simp only[Ĩ]at hl;rw[show nW (d::ds)=.int d::nW ds from rfl];by_cases h:startB hs d=U
  .rw[h]at l;have cX:∀r,bP [.l<|nW<|mj hs 8 d]=r->bc bP (aa (av k8<|aa Ï<|aa Ý ak) ak) [.v FL,.v<|ϑ hs,.w<|a.map İ,.v<|.int d]=r:=λr G=>qE (bR (eA M<|vL H m) M) G;by_cases A:(mj hs 8 d).length%2=0
   .rw[Ð A]at n;have b:bW [.v FL,.v<|ϑ hs,.w<|a.map İ,.v<|.int d]=_:=(Bc<|mh<|aU M M l).trans (LM M (cX _ n)<|by simp[lim];omega);rw[dj M b M];have D:=kN H FL ds (a++two2 (mj hs 8 d)) (.v<|.int d) k (λp f=>by
     rcases ρ.mp f with f|f;.exact ha p f
     .obtain⟨i,B,rfl⟩:=Ł.mp f;have B:=ŵ.mp B;have g:∀j,j<(mj hs 8 d).length->(mj hs 8 d).getD j 0<8:=λj K=>C _ (by grind);exact⟨g _ (by omega),g _<|by omega⟩) (by simp;omega);rw[Li]at D;refine D.imp_left λ⟨ps,o',e,w,u,q,t⟩=>⟨ps,o',e,w,u,λp f=>q p<|Ϯ _ f,λx c s y E=>?_⟩;rcases Ę.mp c with rfl|c;.obtain⟨p,f,e⟩:=two2_in A E;exact⟨p,q p<|ų _ f,e⟩
    .exact t x c s y E
   .rw[Õ A]at n;exact .inr ⟨_,dk M ((Bc<|mh<|aU M M l).trans<|MM M<|cX _ n) λ_=>rfl⟩
  .rw[show startB hs d=O by simpa using h]at l;have b:bW [.v FL,.v<|ϑ hs,.w<|a.map İ,.v<|.int d]=_:=Ke<|mh<|aU M M l;rw[dj M b M];refine(kN H FL ds a (.v<|.int d) k ha<|by omega).imp_left λ⟨ps,o',e,w,u,q,t⟩=>⟨ps,o',e,w,u,q,λx c s=>?_⟩;rcases Ę.mp c with rfl|c;.exact absurd s h
   .exact t x c s
open PySem.W(KasT kas_sort kas_rev kas_asc kas_desc kas_tail3 kas_descPart kas_count kas_place kas_bin)
def sy{α}(n:Nat)(P:α->Prop):KasT α->Prop|.ret a=>P a|.ask i j k=>i<n/\j<n/\sy n P (k U)/\sy n P (k O)
theorem sy.bind{α b n P Q}{f:α->KasT b}:∀{t},sy n P t->(∀a,P a->sy n Q (f a))->sy n Q (t.bind f)|.ret a,h,hf=>hf a h|.ask i j k,⟨h1,h2,h3,h4⟩,hf=>⟨h1,h2,sy.bind h3 hf,sy.bind h4 hf⟩
abbrev Pm(n:Nat)(p:Array Nat):Prop:=p.toList.Perm<|List.range n
def Pm.lt{n p}(h:Pm n p)(a:0<n)(i):p.getD i 0<n:=by
 unfold Array.getD;split;.exact ŵ.mp (h.mem_iff.mp<|by simp)
 .exact a
def Pm.rev{n p}(h:Pm n p)(i j):Pm n (kas_rev p i j):=(PyProof.Rows.mirror_perm _ _ _ _).toList.trans h
theorem w5{n p}(h:Pm n p)(a:0<n):∀f m,sy n (λ_=>True)<|kas_asc p f m|0,_=>trivial|f+1,m=>⟨h.lt a _,h.lt a _,trivial,w5 h a f _⟩
theorem mG{n}(a:0<n):∀f p m q,Pm n p->sy n (λr=>Pm n r.1) (kas_desc f p m q)
|0,_,_,_,h=>h|f+1,p,m,q,h=>by
 refine⟨h.lt a _,h.lt a _,?_,h.lt a _,h.lt a _,h,mG a f p _ _ h⟩;split;.exact mG a f _ _ _ (h.rev _ _)
 .exact mG a f _ _ _ h
def sP{n}(a:0<n){p}(h:Pm n p)(m r):sy n (λr=>Pm n r.2) (kas_tail3 m r p):=(w5 (h.rev 0 m) a _ _).bind λ_ _=>h.rev 0 m
def l3{n}(b:0<n){p}(h:Pm n p)(m r):sy n (λr=>Pm n r.2) (kas_descPart m r p):=(mG b _ p _ _ h).bind λa c=>by
 split;.exact sP b (c.rev _ _) _ _
 .exact sP b c _ _
def K3{n}(b:0<n){p}(h:Pm n p)(r):sy n (λr=>Pm n r.2) (kas_count r p):=(w5 h b _ _).bind λa _=>by
 split;.exact h
 .split;.exact⟨h.lt b _,h.lt b _,h,l3 b (h.rev 0 a) _ _⟩
  .exact l3 b h _ _
theorem nj{n}(a:0<n){p}(h:Pm n p)(k):∀f l r,sy n (λ_=>True) (kas_place p k f l r)
|0,_,_=>trivial|f+1,l,r=>by
 unfold kas_place;split;.trivial
 .exact⟨h.lt a _,h.lt a _,nj a h k f _ _,nj a h k f _ _⟩
theorem QE{n}(a:0<n):∀f p k,Pm n p->sy n (Pm n) (kas_bin f p k)|0,_,_,h=>h|f+1,p,k,h=>(nj a h k _ _ _).bind λl _=>QE a f _ _<|(PyProof.Rows.bubble_perm _ _ _).toList.trans h
def D1{n}(a:0<n):sy n (Pm n) (kas_sort n):=(K3 a (List.Perm.refl _) _).bind λr b=>by
 split;.exact QE a _ _ _ b
 .exact b
theorem Fv{n}:∀{t},sy n (Pm n) t->Ψ n t=U|.ret p,h=>by have:=h.length_eq;simp at this;simp[Ψ,this]|.ask i j k,⟨h1,h2,h3,h4⟩=>by simp[Ψ,h1,h2,Fv h3,Fv h4]
theorem xa{n c}:∀{t},sy n (Pm n) t->Pm n (Fe c t)
|.ret p,h=>h|.ask i j k,⟨_,_,h3,h4⟩=>by
 show Pm n (Fe c<|k _);cases c i j;.exact xa h4
 .exact xa h3
noncomputable def zP(p:Nat×Nat):Int×Int:=(p.1,p.2)
theorem KD:∀ps:List (Nat×Nat),Ef (ps.map İ)=L (ps.map zP)|[]=>rfl|p::ps=>by show(Ef _).map _=_;rw[KD _];rfl
def DU{ps}(h:Oo ps):∃m,oJ [.l<|ps.map İ]=.ok (.l<|m.map İ)/\Oo m:=by
 have s:2<=ps.length:=by match ps,h.all with
 |[],k=>obtain⟨p,z,_⟩:=k 0 (by decide);cases z|[q],k=>
   have g:∀d,d<8->d=q.1\/d=q.2:=λd c=>by obtain⟨p,a,e⟩:=k d c;rw[Ň.mp a]at e;exact e
   have:=g 0 (by decide);have:=g 1 (by decide);have:=g 2 (by decide);omega|_::_::_,_=>simp
 have A:=D1 (n:=ps.length) (by omega);have P:Pm ps.length (Fe (λi j=>ϫ ((ps.map zP).getD i (0,0))<|(ps.map zP).getD j (0,0))<|kas_sort ps.length):=xa A;have r:(ps.map zP).length=ps.length:=Į _;have l:(Od<|ps.map zP).Perm (List.range ps.length):=by unfold Od;rw[r];exact P
 have b:=l.map λi=>ps.getD i (0,0);rw[show(List.range ps.length).map (λi=>ps.getD i (0,0))=ps from List.ext_getElem (by simp) λi o t=>by simp at o;simp[o]]at b;refine⟨_,?_,⟨by rw[b.length_eq];exact h.len,λp a=>h.lt p<|b.mem_iff.mp a,λd c=>by obtain⟨p,a,e⟩:=h.all d c;exact⟨p,b.mem_iff.mpr a,e⟩⟩⟩;unfold oJ;simp only[KD];rw[r,Fv A,Ð<|by simp[s,h.len]];congr 2;rw[Xd];refine List.map_congr_left λi f=>?_;have f:i<ps.length:=ŵ.mp<|l.mem_iff.mp f;show(ps.map İ).getD i .n=İ (ps.getD i (0,0));rw[Zf,Ų,Zf,ν f];rfl
section
variable{Q P:Ty}{Γ Θ:List ST}{As:List Ty}{e b:EF}{i:Nat}{t:TF}{s u R:SF}
theorem XL.no{α p}{r:Res α}(h:XL no p r):XL Q p r:=by cases r with|ok x=>exact h|_=>exact h.elim
def TJ{f}(h:F no f As P):F Q f As P:=λws k=>(h _ k).no
def Oh(h:∀Z,Sat Γ Z->t Z=.ok U)(g:S Q Γ s [λ_=>False] P):S Q Γ (aw (Ü t s u) R) Θ P:=λZ k=>by have:=g Z k;unfold aw Ü;rw[h Z k];cases c:s Z with|n Ô=>rw[c]at this;cases Ô;exact this.elim;exact this.1.elim|_=>rw[c]at this;exact this
def Md(h:∀Z,Sat Γ Z->t Z=.ok O)(g:S Q Γ R Θ P):S Q Γ (aw (Ü t s à) R) Θ P:=λZ k=>by rw[ĭ (h Z k)];exact g Z k
def ϛ{v r b c n}(h:Γ[i]?=L (vT (.=v)))(g:∀Z,e Z=.ok c)(l:(Res.bind (Ą v<|.int n) λx=>(r x c).bind Β)=.ok b):∀Z,Sat Γ Z->tB (Ì r (eJ (dA i)<|eI n) e) Z=.ok b:=λZ k=>by
 obtain⟨z,m,d⟩:=k.gt h;cases z with|v w=>
 have f:dA i Z=.ok w:=by simp_all
 rw[d]at f;show Res.bind (Res.bind (Res.bind _ _) _) Β=_;rw[f,g Z,<-l];show Res.bind (Res.bind (Ą v<|.int n) _) _=Res.bind _ _;cases Ą v (.int n)<;>rfl|_=>exact d.elim
end
abbrev It:Ty:=λv=>∃i:Int,v=.int i
def LQ:F no bC [Sd,It,It] λv=>∃s,v=Ğ s:=λws hw=>by obtain⟨_,_,_,rfl,⟨p,h,rfl⟩,⟨m,rfl⟩,⟨n,rfl⟩⟩:=a3 hw;rw[zo p m n h];exact⟨_,M⟩
def yU:F no kf [Sd,It] Sd:=λws hw=>by obtain⟨_,_,rfl,⟨p,h,rfl⟩,⟨n,rfl⟩⟩:=a2 hw;rw[show kf [Ī p,.int n]=.ok _ from ê fin<|aL<|eA M<|zo p 0 n h];exact⟨((ŗ p 0 n).1,(ŗ p 0 n).2,p.2.2),h,M⟩
abbrev N8:=Nn 8
abbrev Pw(n:Nat):Ty:=λv=>∃a:List (Nat×Nat),v=.l (a.map İ)/\Oo a/\a.length=n
def LA{n v}(h:Pw n v):Ls (.=n) (Pr N8 N8) v:=by obtain⟨c,rfl,h,e⟩:=h;exact⟨_,M,by grind,λx b=>by obtain⟨p,a,rfl⟩:=Ł.mp b;exact⟨_,_,M,⟨_,(h.lt p a).1,M⟩,⟨_,(h.lt p a).2,M⟩⟩⟩
def Fy:O2 Ą (Pr N8 N8) (.=.int 0) N8:=λx y⟨a,b,e,h,_⟩c=>by subst e c;exact⟨_,M,h⟩
def Xx{v i}(h:v=.int i):It v:=⟨i,h⟩
def Zx{n}(h:n<64):∀m,m=n->m<=lim:=λm e=>by subst e;exact ñ (Nc h) (by decide)
def uo{n}(a:n<64):F no er [Fo,Pw n] (Sq n):=Ş (Ņ<|Ű (Eb (Kf<|Ű (Þ M) λv=>LA) (Zx a)<|ű (ï (Ĥ (Þ M) (Ĥ (Þ M) Ķ Fy) Yz)<|ï (Ű Ķ λv=>Xx) Č) yU) λv=>Yu)
def HX{f}(F:Fl f):(∃n,n<64/\∃v,gz [ļ f]=.ok v/\Pw n v)\/gz [ļ f]=.x (.e "NoPairs" []):=by
 have a:=XZ F.len;have st:gz [ļ f]=fin (ϴ (forL (ax 3) bW (nW<|List.range 8) [.v<|ļ f,.v<|ϑ<|Df f,.w<|([]:List (Nat×Nat)).map İ,.o]) _):=ê fin ((aL<|Zt M (by decide)<|oD λd a=>⟨_,M,M,by rw[Int.zero_add];exact eA M<|qQ F<|ŵ.mp a⟩).trans<|Wc M);rcases kN a (ļ f) (List.range 8) [] .o (λd a=>ŵ.mp a) (λ_ z=>nomatch z) (by decide)with⟨b,o,h,i,C,-,x⟩|⟨D,h⟩
 .have P:Oo b:=⟨i,C,λd p=>by obtain⟨s,u,q,k⟩:=tI a _ d (Bi _) p;exact x s (ŵ.mpr u) q d k⟩;rw[st,h];have m:=uo i [ļ f,.l<|b.map İ] ⟨⟨f,F,M⟩,⟨b,M,P,M⟩,trivial⟩;rcases m.cs with⟨Å,y,r⟩|⟨_,_,z⟩
  .rcases(uq (n:=b.length) (by omega) [Å] ⟨r,trivial⟩).cs with⟨w,t,hw⟩|⟨_,_,z⟩;.obtain⟨g,l,j⟩:=DU P;have e:∀A B,zg 2 (tB<|Ì fJ (av dn<|aa (av er<|aa É<|aa Ø ak) ak)<|eC .n) [.v<|ļ f,A,.w<|b.map İ,B]=.ok !o7 w:=λA B=>v_bor<|mh<|aU (eA (bR (eA M y) M) t) M M;cases c:o7 w with|true=>exact .inl ⟨g.length,j.len,_,ê fin ((ĭ<|(e _ _).trans<|by rw[c];rfl).trans<|jS.trans<|Qn<|fN<|Mn M l),g,M,j,M⟩|false=>exact .inr (ê fin<|(ž<|(e _ _).trans<|by rw[c];rfl).trans M)
   .exact z.elim
  .exact z.elim
 .exact .inr (by rw[st,h];rfl)
abbrev τ(n:Nat):Ty:=λv=>∃f p m,v=.i "PairedFloor" [f,p,m]/\Fo f/\Pw n p/\Sq n m
def IT:F Ref gP [Fo] λv=>∃n,n<64/\τ n v:=λws hw=>by
 obtain⟨_,rfl,⟨f,F,rfl⟩⟩:=a1 hw;show XL Ref _ ((gz [ļ f]).bind _);rcases HX F with⟨n,b,v,e,a⟩|e<;>rw[e]
 .rcases(uo b [ļ f,v] ⟨⟨f,F,M⟩,a,trivial⟩).cs with⟨Å,c,d⟩|⟨_,_,z⟩;.show XL Ref _ (match er [ļ f,v]with|.ok m=>Res.ok _|_=>.b);rw[c];exact⟨n,b,_,_,_,M,⟨f,F,M⟩,a,d⟩
  .exact z.elim
 .exact .inr (.inr rfl)
section
variable{n:Nat}
def DK:∀x,τ n x->∃v,Ta "PairedFloor" 0 x=.ok v/\Fo v:=λx⟨f,p,m,e,h,_⟩=>by subst e;exact⟨f,M,h⟩
def Us:∀x,τ n x->∃v,Ta "PairedFloor" 1 x=.ok v/\Pw n v:=λx⟨f,p,m,e,_,h,_⟩=>by subst e;exact⟨p,M,h⟩
def Vi:∀x,τ n x->∃v,Ta "PairedFloor" 2 x=.ok v/\Sq n v:=λx⟨f,p,m,e,_,_,h⟩=>by subst e;exact⟨m,M,h⟩
def Wi:∀x,τ n x->Ϝ "PairedFloor" x=U:=λx⟨f,p,m,e,_⟩=>by subst e;rfl
def KA:O2 Ą (Pw n) (Nn n) (Pr N8 N8):=λx y h a=>Uv (λ_ e=>e) x y (LA h) a
abbrev On(n:Nat):Ty:=λv=>∃o,v=Χ o/\∀k,o=L k->k<n
def RO:F no iF [Sq n,λv=>∃s,v=Ğ s] (On n):=λws hw=>by obtain⟨_,_,rfl,⟨f,a,_,rfl⟩,⟨s,rfl⟩⟩:=a2 hw;rw[Ew (.inr rfl) s];exact⟨_,M,λk h=>by have:=kA _ _ _ _ h;omega⟩
def TV(a r)(w):F no bI [τ n,Nn n,(.=(ũ.at a r w).W)] Bo:=by
 have go:w≠.ô->w≠.opposite->(Res.bind (Ą (ũ.at a r w).W<|.int 3) λx=>(ı x<|.t [.str "partner",.str "opposite"]).bind Β)=.ok O->F no bI [τ n,Nn n,(.=(ũ.at a r w).W)] Bo:=λg j h=>Ş (Md (ϛ M (λ_=>rfl) h) (ţ (Ab<|Ĥ (Fb (Þ M) Vi) (Þ M) Tj) (ţ (Ab (ű (ï (Fb (Þ M) Vi) (ï (ű (ï (Þ M) (ï (Ĥ (Þ M) Ķ λx y e c=>by subst e c;exact⟨_,M,a,M⟩) (ï (Ĥ (B:=(.=.int r)) Ķ (Ĥ (Þ M) Ķ λx y e c=>by subst e c;exact⟨_,M,M⟩) λx y e c=>by subst e c;exact⟨_,BD r (by decide) (by decide),_,M⟩) Č))) LQ) Č)) RO)) (Ņ (ű (ï (Þ M) (ï (Fb (Þ M) Vi) (ï (Þ M) (ï (Ĥ (P:=(.=.str w.w)) (Þ M) Ķ λx y e c=>by subst e c;exact⟨_,M,M⟩) Č)))) λws hw=>by obtain⟨_,_,_,_,rfl,⟨p,_,rfl⟩,⟨f,l,_,rfl⟩,⟨o,rfl,i⟩,rfl⟩:=a4 hw;obtain⟨b,e⟩:=LG (f:=f) (.inr rfl) p o w λk d=>by have:=i k d;omega g j;rw[e];exact⟨b,M⟩)))));cases w;case ô=>exact Ş (Oh (ϛ M (λ_=>rfl)<|by kernel_rfl)<|Ņ<|Ű Ķ λ_ e=>⟨_,e⟩)
 case opposite=>exact Ş (Oh (ϛ M (λ_=>rfl)<|by kernel_rfl)<|Ņ<|Ű Ķ λ_ e=>⟨_,e⟩)
 all_goals exact go (λz=>nomatch z) (λz=>nomatch z) (by kernel_rfl)
def JD(m)(t)(C:Tk t):F no (ay<|m+1) [τ n,Nn n,(.=t.W)] Bo:=by have all:(Res.bind (Ą t.W<|.int 0) λx=>(oEq x<|.str "not").bind Β)=.ok O->(Res.bind (Ą t.W<|.int 0) λx=>(oEq x<|.str "at").bind Β)=.ok O->(Res.bind (Ą t.W<|.int 0) λx=>(ı x iP).bind Β)=.ok O->F no (ay<|m+1) [τ n,Nn n,(.=t.W)] Bo:=λj q o=>Ş (Md (ϛ M (λ_=>rfl) j) (Md (ϛ M (λ_=>rfl) q) (Md (ϛ M (λ_=>rfl) o) (Ņ (Gb (ï (Eb (À:=(.=2)) (Qk<|Ű (Ĥ (Fb (Þ M) Us) (Þ M) KA) λv⟨a,b,e,h,s⟩=>⟨_,e,M,λx i=>by
  rcases Ę.mp i with rfl|i;.exact h
  .rw[Ň.mp i];exact s⟩) λ_ e=>by subst e;decide (ű (ï (Fb (Þ M) DK)<|ï (Þ M)<|ï (Þ M) Č) λws hw=>by obtain⟨_,_,_,rfl,⟨f,F,rfl⟩,⟨d,u,rfl⟩,rfl⟩:=a3 hw;obtain⟨b,e⟩:=yB 2 F u t C;rw[e];exact⟨b,M⟩)) Č) Ho)))));have c:(Res.bind (Ą t.W<|.int 0) λx=>(oEq x<|.str "not").bind Β)=.ok O->(Res.bind (Ą t.W<|.int 0) λx=>(oEq x<|.str "at").bind Β)=.ok O->(Res.bind (Ą t.W<|.int 0) λx=>(ı x iP).bind Β)=.ok U->(∃x,Ą t.W (.int 0)=.ok (.str x))->F no (ay<|m+1) [τ n,Nn n,(.=t.W)] Bo:=λj q o⟨z,B⟩=>Ş (Md (ϛ M (λ_=>rfl) j) (Md (ϛ M (λ_=>rfl) q) (Oh (ϛ M (λ_=>rfl) o) (Ņ (Ĥ (A:=λv=>∃x,v=.str x) (ű (ï (Ĥ (Fb (Þ M) Vi) (Þ M) Tj) Č) λws hw=>by obtain⟨_,rfl,⟨p,h,rfl⟩⟩:=a1 hw;obtain⟨w,e⟩:=IF h;rw[e];exact⟨_,M⟩) (Ĥ (P:=(.=.str z)) (Þ M) Ķ λx y e g=>by subst e g;exact⟨_,B,M⟩) λx y⟨a,e⟩g=>by subst e g;exact⟨_,M,_,M⟩)))));cases t with|«at» a r w=>exact Ş (Md (ϛ M (λ_=>rfl)<|by kernel_rfl)<|Oh (ϛ M (λ_=>rfl)<|by kernel_rfl)<|Ņ<|Uk (Þ M) Wi (ï (Þ M)<|ï (Þ M) Č)<|TV a r w)|inner k=>exact all (by kernel_rfl) (by kernel_rfl) (by kernel_rfl)|ĕ l=>
 cases l;case ň=>exact c (by kernel_rfl) (by kernel_rfl) (by kernel_rfl) ⟨_,M⟩
 case ń=>exact c (by kernel_rfl) (by kernel_rfl) (by kernel_rfl) ⟨_,M⟩
 case ŉ=>exact c (by kernel_rfl) (by kernel_rfl) (by kernel_rfl) ⟨_,M⟩
 all_goals exact all (by kernel_rfl) (by kernel_rfl) (by kernel_rfl)
abbrev Te:Ty:=λv=>∃g t,Tk t/\v=Lh g t
def C2:F no (ay 3) [τ n,Nn n,Te] Bo:=λws hw=>by obtain⟨_,_,_,rfl,a,c,⟨g,t,b,rfl⟩⟩:=a3 hw;cases g with|false=>exact JD 2 t b _ ⟨a,c,M,trivial⟩|true=>exact Ş (n:=3) (As:=[τ n,Nn n,(.=Lh U t)]) (Oh (ϛ M (λ_=>rfl)<|by kernel_rfl) (Ņ (UJ (Uk (Þ M) Wi (ï (Þ M) (ï (Ĥ (P:=(.=t.W)) (Þ M) Ķ λx y e d=>by subst e d;exact⟨_,M,M⟩) Č))<|JD 1 t b)))) _ ⟨a,c,M,trivial⟩
end
section
variable{Q P A:Ty}{Γ Δ:List ST}{e ix:EF}{i:Nat}{s R:SF}
def ow(D:Nat->Prop):ST|.w ts=>ts.length=8/\∀d,D d->d<8->∀t,ts[d]?=L t->Way t|_=>False
def AJ{A:Nat->Ty}(h:E Q Γ e λv=>∃n,n<64/\A n v)(g:∀n,n<64->S Q (Γ.set i<|vT<|A n) R Δ P):S Q Γ (aw (aN i e) R) Δ P:=λb k=>by
 rcases(h b k).cs with⟨v,e,n,a,h⟩|⟨x,e,h⟩;.rw[aL e];exact g n a _<|k.set  h
 .rw[Az e];exact h
def Uw{D}{d:Nat}(h:E Q Γ e Way)(hi:Γ[i]?=L (ow D))(p:E no Γ ix (.=.int d))(n:d<8):S Q Γ (Hj e<|ϱ i ix) (Γ.set i<|ow λx=>D x\/x=d) P:=λf k=>(h f k).om λv m=>by
 obtain⟨z,o,b⟩:=k.gt hi
 cases z with|w ts=>
  rcases(p f k).cs with⟨w,j,rfl⟩|⟨_,_,z⟩
  .rw[NM o j (by rw[b.1];exact n)];refine k.set (g:=ow _) (s:=.w _) ⟨by rw[Sf];exact b.1,λx c l t a=>?_⟩;rw[List.getElem?_set]at a;split at a;.rw[Ð (by grind)]at a;cases a;exact m
   .rcases c with c|rfl;.exact b.2 x c l t a
    .rename_i z;exact absurd M z
  .exact z.elim|_=>exact b.elim
def XI{D}(hi:Γ[i]?=L (ow D))(f:∀d,d<8->D d)(h:S Q (Γ.set i (vT (Ls (.=8) Way))) s Δ P):S Q Γ (zr i s) Δ P:=λc k=>by
 obtain⟨z,l,a⟩:=k.gt hi;cases z with|w ts=>rw[Qn M,show î i c=c.set i _ by unfold î;rw[l]];exact h _ (k.set (g:=vT _) ⟨ts,M,a.1,λt j=>by
  obtain⟨d,b,rfl⟩:=Qr j;have:d<8:=by rw[<-a.1];exact b
  exact a.2 d (f d this) this _<|ν b⟩)|_=>exact a.elim
end
section
variable{n:Nat}(hn:n<64){c:List Rl}(hc:∀r∈c,Dd r)
include hc
abbrev Rt(c:List Rl):Ty:=λv=>∃r∈c,v=r.W
theorem S2:F Ref cP [τ n,Nn n,(.=Ŏ c)] Xj:=Ş (ţ (Cf (À:=λ_=>True) (A:=Rt c) (Kf<|Ű (Þ M) λv e=>⟨_,e,trivial,λx f=>by obtain⟨r,a,rfl⟩:=Ł.mp f;exact⟨r,a,M⟩⟩) Sk (Ld (Ze (Gb (ï (Np (À:=(.<=100)) (A:=Te) (Qk<|Ĥ (Þ M) Ķ λx y⟨r,a,e⟩b=>by subst e b;exact⟨_,M,_,M,by rw[Į];exact(hc r a).nt,λx f=>by obtain⟨p,g,rfl⟩:=Ł.mp f;exact⟨p.1,p.2,(hc r a).tk p g,M⟩⟩) (λn h=>ñ h<|by decide) (nv<|nv<|nv<|nv n0)<|Uk (Þ M) Wi (ï (Þ M)<|ï (Þ M) Č)<|TJ C2) Č) Ho)) (Ņ<|Ĥ (Þ M) Ķ λx y⟨r,a,e⟩b=>by subst e b;exact⟨_,M,LC<|hc r a⟩)<|Kk<|lv<|lv<|lv<|la l0)) (Jk (ï (Ĥ (Ĥ (Fb (Þ M) Us) (Þ M) KA) Ķ Fy) Č) λws hw=>by obtain⟨_,rfl,⟨d,i,rfl⟩⟩:=a1 hw;exact⟨M,by have:=gj (n:=d) (by omega);simp[this],.inl ⟨d,i,.inl rfl⟩⟩))
omit hc
def A6:F no kb [SE] SE:=λws hw=>by
 obtain⟨_,rfl,h⟩:=a1 hw;rcases h with rfl|⟨s,rfl⟩;.rw[show kb _=.ok _ by kernel_rfl];exact .inl rfl
 .have go:∀s:Yb,kb [s.W]=.ok (match s with|.go .left k=>.go .left<|2*k|.go .right k=>.go .right<|2*k|s=>s:Yb).W:=λs=>by cases s with|go g k=>cases g;all_goals kernel_rfl|turn t=>kernel_rfl
  rw[go s];exact .inr ⟨_,M⟩
abbrev PG(n:Nat)(c:List Rl)(D:Nat->Prop):List ST:=[vT Fo,vT (.=Ŏ c),vT<|τ n,vT (Ls (.=n) Xj),ow D,an,an,an]
def IX{D p}(d:p.1<8/\p.2<8):S Ref (((PG n c D).set 5<|vT<|Nn n).set 6 (vT (.=İ p))) aF (PG n c λx=>(D x\/x=p.1)\/x=p.2) no:=have bs{f e k}(h:f[7]?=L (vT Way))(j:∀g,E no g e (.=.int k)):=Eb (Kf<|Þ h) (λn h=>ñ h.2<|by decide) (ű (ï (Þ M)<|ï (Ű (j _) λv=>Xx) Č) yU);Yo (ţ (Ab (ű (ï (Ĥ (Fb (Þ M) Vi) (Þ M) Tj) (ï (Ű (Eb (À:=(.<=100)) (A:=SE) (λi k=>((Ĥ (Þ M) (Þ M)<|Uv λ_ e=>e) i k).bd λv⟨b,e,h⟩=>by rcases e with e|e<;>subst e<;>exact h) (λn h=>ñ h<|by decide)<|ű (ï (Þ M) Č) A6) λv⟨b,e,h⟩=>⟨b,.inr e,h⟩) Č)) WA))<|ţ (Uw (bs M λ_=>Ax Ķ λx e=>by subst e;exact⟨_,M,M⟩) M (Ĥ (Þ M) Ķ λx y e a=>by subst e a;exact⟨_,M,M⟩) d.1)<|Uw (bs M λ_=>Ķ) M (Ĥ (Þ M) Ķ λx y e a=>by subst e a;exact⟨_,M,M⟩) d.2) (lv<|lv<|lv<|lv<|lv<|la<|la<|la l0)
theorem CG:∀a:List (Nat×Nat),(∀p∈a,p.1<8/\p.2<8)->∀k D,k+a.length=n->∀Z,Sat (PG n c D) Z->PO Ref (PG n c λx=>D x\/∃p∈a,x=p.1\/x=p.2) no (forL (vn<|di (ax 5)<|di (ax 6) vo) aF (iS k<|a.map İ) Z)|[],_,k,D,_,Z,h=>lv (lv<|lv<|lv<|lw (λs g=>by cases s with|w ts=>exact⟨g.1,λd l=>g.2 d<|l.elim id λ⟨_,z,_⟩=>nomatch z⟩|_=>exact g) l0) Z h|p::a,hq,k,D,hk,Z,h=>by simp only[Ĩ]at hk;obtain⟨f,e,m⟩:=Kp (A:=Nn n) (B:=(.=İ p)) Z _ h ⟨.int k,İ p,M,⟨k,by omega,M⟩,M⟩;have b:=IX (hq p ę) f m;show PO Ref _ no (forL _ _ (.t [.int k,İ p]::iS (k+1) (a.map İ)) Z);unfold forL;rw[e];show PO Ref _ no (match aF f with|.n é=>forL _ _ _ é|.ct é=>forL _ _ _ é|.bk é=>.n é|o=>o);cases i:aF f with|n é=>rw[i]at b;have j:=CG a (λq h=>hq q<|Ħ _ h) (k+1) _ (by omega) é b;rw[show(λx=>D x\/∃q∈p::a,x=q.1\/x=q.2)=λx=>((D x\/x=p.1)\/x=p.2)\/∃q∈a,x=q.1\/x=q.2 by funext x;simp[or_assoc]];exact j|x x=>rw[i]at b;exact b|_=>rw[i]at b;exact b.elim
include hc
theorem T5:F Ref gB [Fo,(.=Ŏ c)] Fo:=Ş (AJ (A:=τ) (λa k=>by
  rcases((ï (Þ (i:=0) M) Č:AE Ref _ _ [Fo]) a k).cs with⟨ws,e,hw⟩|⟨x,e,h⟩
  .rcases(IT ws hw).cs with⟨v,l,n,hn,h⟩|⟨x,l,h⟩;.rw[Yy l (λy z=>by cases z;exact Wi v h) e];exact⟨n,hn,h⟩
   .rw[Yy l (λy z=>nomatch z) e];exact h
  .unfold qm;rw[e];exact h) λn hn=>ţ (Ab<|Np (Rk (Nat.lt_trans hn<|by decide) (Gb (ï (Fb (Þ M) Us) Č) λws hw=>by obtain⟨_,rfl,⟨j,rfl,_,u⟩⟩:=a1 hw;exact⟨_,M,by rw[Į,u]⟩)) (Zx hn) (nv<|nv<|nv<|na<|na<|na<|na<|na n0)<|Uk (Þ M) Wi (ï (Þ M)<|ï (Þ M) Č)<|S2 hc) (ţ (Δ:=PG n c λ_=>False) λa k=>by rw[show kL 4 (uy 1 (fW<|eC bM) (ax 0) gD<|lb ak) a=.n (a.set 4<|.w<|List.replicate 8<|.l [])from rfl];exact k.set (i:=4) (g:=ow _) (s:=.w _) ⟨M,λ_ z=>z.elim⟩
 λa k=>by obtain⟨_,_,rfl,_,B⟩:=sc k;obtain⟨_,_,rfl,_,w⟩:=sc B;obtain⟨_,_,rfl,⟨f,p,m,rfl,_,⟨j,rfl,t,u⟩,_⟩,_⟩:=sv w;have b:=CG (c:=c) (n:=n) j t.lt 0 (λ_=>False) (by omega) _ k;have fz:S Ref (PG n c λx=>False\/∃p∈j,x=p.1\/x=p.2) _ [λ_=>False] Fo:=XI (i:=4) M (λd C=>.inr<|t.all d C)<|Ņ<|HA<|Kf<|Pd (ï (Þ (i:=4) M) Č) ZD;show PO Ref _ Fo (match forL (vn<|di (ax 5)<|di (ax 6) vo) aF (iS 0<|j.map İ) _ with|.n Ô=>_|o=>o);cases q:forL (vn<|di (ax 5)<|di (ax 6) vo) aF (iS 0<|j.map İ) _ with|n é=>rw[q]at b;exact fz é b|x x=>rw[q]at b;exact b|_=>rw[q]at b;exact b.elim))
theorem je{b}:F Ref bD [Fo,(.=Ŏ c),λv=>∃l:List Nat,v=.l (l.map λk:Nat=>.int k),(.=.B b)] Fo:=Ş (ţ (Ld (Rw<|Ze<|Ű (Þ M) λ_ e=>⟨b,e⟩) (Ņ<|Pd (ï (Þ M)<|ï (Þ M)<|ï (Ű (Þ M) λ_ h=>.inr h) Č)<|yN hc) Zo)<|ţ (Ld (Ze<|Ĥ (A:=It) (Gb (ï (Þ M) Č) λws hw=>by obtain⟨_,rfl,⟨l,rfl⟩⟩:=a1 hw;exact⟨_,M,_,M⟩) Ķ λx y⟨i,e⟩a=>by subst e a;exact⟨_,M,_,M⟩) (λd k=>.inr<|.inr rfl) Zo)<|Ņ<|Pd (ï (Þ M)<|ï (Þ M) Č)<|T5 hc)
end
def RL(a r:Nat):OX Rn->OX Rn->Prop|.n Z s,o=>∃f b e,Z=.v (.id 0)::f/\s=⟨0,0,b,e⟩/\o=.n (.v (.id a)::f) ⟨a,r,b,e⟩|.x c Z,o=>∃d,o=.x c d/\d.length=Z.length|.r w s,o=>∃b e,s=⟨0,0,b,e⟩/\o=.r w ⟨a,r,b,e⟩|.b,_=>True|_,_=>False
def Er(A:RF Rn):Prop:=∀a r c b d,RL a r (A (.v (.id 0)::c) ⟨0,0,b,d⟩)<|A (.v (.id a)::c) ⟨a,r,b,d⟩
def Uo(f:List W->Rn->OX Rn):Prop:=∀a r ws b c,RL a r (f (.id 0::ws) ⟨0,0,b,c⟩)<|f (.id a::ws) ⟨a,r,b,c⟩
section
variable{A B:RF Rn}{e:EF}{i:Nat}
def Er.seq(h:Er A)(m:Er B):Er (vu A B):=λa r g b d=>by have h:=h a r g b d;unfold vu;cases f:A _ _ with|n Ô s'=>rw[f]at h;obtain⟨g,b,d,rfl,rfl,h⟩:=h;rw[h];exact m a r _ b _|x c Ô=>rw[f]at h;obtain⟨j,h,l⟩:=h;rw[h];exact⟨_,M,l⟩|r w s=>rw[f]at h;obtain⟨b,d,k,h⟩:=h;rw[h];exact⟨b,d,k,M⟩|b=>trivial|_=>rw[f]at h;exact h.elim
def m8(a r xs b c):qM Rn.a Rn.val 0 (.v (.id a)::xs) ⟨a,r,b,c⟩=L (.v (.i "Run" [b,.l c])::xs):=by simp[qM,Rn.val]
def DC(val)(a r xs b c):qM Rn.a val 0 (.v (.id a)::xs) ⟨a,r,b,c⟩=L (.v (val ⟨a,r,b,c⟩)::xs):=by simp[qM]
def AR:Er (Qg Rn.a Rn.val 0 (i+1) e):=λa r d b c=>by
 unfold Qg;rw[m8,m8];dsimp 
 cases e _ with|ok w=>
 dsimp ;by_cases h:plain w=U;.rw[Ð h,Ð h];exact⟨_,b,c,M,M,M⟩
 .rw[Õ h];trivial|_=>trivial
def GV(h:∀r b xs,e (.v (.i "Run" [b,.id r])::xs)=e (.v (.i "Run" [b,.id 0])::xs)):Er (vt Rn.a Rn.Le 0 (i+1) e):=λa r xs b c=>by unfold vt;rw[DC,DC];show RL a r _ (match e (.v (.i _ _)::xs)with|.ok w=>_|_=>_);rw[h];show RL a r (match e (.v (.i _ _)::xs)with|.ok w=>_|_=>_) _;cases e _ with|ok w=>exact⟨_,b,c,M,M,M⟩|_=>trivial
def ZQ{t c}(h:∀a xs,t (.v (.id a)::xs)=t (.v (.id 0)::xs))(g:∀a xs,∃x,c (.v (.id a)::xs)=.x x (.v (.id a)::xs)/\c (.v (.id 0)::xs)=.x x (.v (.id 0)::xs)):Er (qt<|Ü t c à):=λa r xs b f=>by unfold qt Ü;rw[h a _];cases t _ with
|ok v=>cases v with|true=>obtain⟨x,d,j⟩:=g a _;rw[d,j];exact⟨_,M,M⟩|false=>exact⟨xs,b,f,M,M,M⟩
|x c=>exact⟨_,M,M⟩|b=>trivial
def HV{cs ci}:Er (yZ cs (ci+1) e):=λa r d b f=>by unfold yZ;rw[m8,m8];dsimp only;cases e _ with
|ok w=>
 dsimp ;by_cases h:plain w=U/\f.length<lim;.rw[Ð h,Ð h];exact⟨d,b,_,M,M,M⟩
 .rw[Õ h];trivial|x c=>dsimp only;rw[Yq,Yq];cases d[ci]? with|none=>trivial|some v=>cases v with
 |v w=>
  dsimp only;by_cases h:ic w=U/\Pk cs c=U;.rw[Ð h,Ð h];exact⟨_,M,M⟩
  .rw[Õ h];trivial|_=>trivial
|b=>trivial
def Gu{t}(d:Er A)(c:Er B):Er (ϻ (xT Rn.a Rn.val 0 t) A B):=λa r f b g=>by unfold ϻ xT;rw[m8,m8];dsimp ;cases t _ with
|ok v=>cases v with|true=>exact d a r _ b _|false=>exact c a r _ b _
|_=>trivial
def rZ{f g}(h:Uo f)(p:∀a r xs b d,g (.v (.id a)::xs) ⟨a,r,b,d⟩=g (.v (.id 0)::xs) ⟨0,0,b,d⟩):Er (cT 0 f g):=λa r xs b d=>by cases n:g _ _ with
|ok ws=>
 have o:=(p a r xs b d).trans n;have m:cT 0 f g (.v (.id 0)::xs) ⟨0,0,b,d⟩=ofM (.v (.id 0)::xs) (f (.id 0::ws) ⟨0,0,b,d⟩):=by simp[cT,n]
 have q:cT 0 f g (.v (.id a)::xs) ⟨a,r,b,d⟩=ofM (.v (.id a)::xs) (f (.id a::ws) ⟨a,r,b,d⟩):=by simp[cT,o]
 rw[m,q];have h:=h a r ws b d;cases k:f (.id 0::ws) ⟨0,0,b,d⟩with|n Z s=>rw[k]at h;obtain⟨_,l,j,rfl,rfl,h⟩:=h;rw[h];exact⟨xs,l,j,M,M,M⟩|x c Z=>rw[k]at h;obtain⟨_,h,_⟩:=h;rw[h];exact⟨_,M,M⟩|r w s=>rw[k]at h;obtain⟨l,j,rfl,h⟩:=h;rw[h];exact⟨xs,l,j,M,M,M⟩|b=>trivial|_=>rw[k]at h;exact h.elim
|_=>
 have m:cT 0 f g (.v (.id 0)::xs) ⟨0,0,b,d⟩=.b:=by simp[cT,n]
 rw[m];trivial
noncomputable def II{S}(o:OX S)(k:Ws->S->OX S):OX S:=match o with|.n Z s=>k Z s|.ct Z s=>k Z s|.bk Z s=>.n Z s|o=>o
def ku{S}(k)(b:RF S)(x xs Z s):kv k b (x::xs) Z s=II (b (Z.set k<|.v x) s) (kv k b xs):=rfl
def BC{it k}(hi:∀a xs,it (.v (.id a)::xs)=it (.v (.id 0)::xs))(h:Er A):Er (sF it (k+1) A):=λa r xs b m=>by unfold sF;rw[hi a xs];cases it _ with
|ok ws=>dsimp ;induction ws generalizing xs b m with|nil=>exact⟨xs,b,m,M,M,M⟩|cons w ws ih=>have h:=h a r (xs.set k<|.v w) b m;rw[ku,ku,List.set_cons_succ,List.set_cons_succ];cases f:A _ _ with|n Z s=>rw[f]at h;obtain⟨j,l,d,rfl,rfl,h⟩:=h;rw[h];exact ih j l _|x c Z=>rw[f]at h;obtain⟨g,h,n⟩:=h;rw[h];exact⟨g,M,n⟩|r w s=>rw[f]at h;obtain⟨l,d,o,h⟩:=h;rw[h];exact⟨l,d,o,M⟩|b=>trivial|_=>rw[f]at h;exact h.elim
|_=>trivial
end
def YB{n t}(h:Er t):Uo (runM n t):=λa r ws b c=>h a r _ b _
def TZ:Uo jE:=YB (AR.seq<|(ZQ (λ_ _=>rfl) λ_ _=>⟨_,M,M⟩).seq<|(GV λ_ _ _=>rfl).seq HV)
theorem Co:∀n,Uo<|aA n|0=>λ_ _ _ _ _=>trivial|n+1=>YB (BC (λ_ _=>rfl)<|Gu (rZ TZ λ_ _ _ _ _=>rfl)<|Gu (BC (λ_ _=>rfl)<|rZ (Co n) λ_ _ _ _ _=>rfl)<|Gu (rZ (Co n) λ_ _ _ _ _=>rfl)<|rZ (Co n) λa r c b d=>by simp [Ĺ,Lf,m8];rfl)
noncomputable def dg:W:=.l ((List.range 8).map λd=>.int (d:Nat))
def gO(bk F È:W):Res W:=match ofM [] (aA 4 [.id 0,È,dg,.B O] ⟨0,0,bk,[F]⟩)with|.n _ s=>.ok<|.l<|cut s.ė (L 1) Y|.x c _=>.x c|_=>.b
def qG{g t Z j i f o}(k:g Z=.ok [i,f])(h:Dv t Z j i f o):fin (js j g t Z)=o:=by
 unfold js;rw[k];have d:∃o,Dv t Z j _ _ o:=⟨o,h⟩;dsimp ;rw[dif_pos d];have e:Classical.choose d=o:=by have b:=Classical.choose_spec d 0 0;have a:=h 0 0;cases e:t _ _ with|r w s=>rw[e]at b a;rw[a];exact b|x c Ô=>rw[e]at b a;rw[a.1];exact b.1|_=>rw[e]at a;exact a.elim
 rw[e];cases o<;>rfl
def SD{bk F È}:k7 [bk,F,È]=gO bk F È:=by
 have d a r:cT 3 (aA 4) (Ĺ Ø<|Ĺ (Vk<|eC bM)<|Ĺ (eC<|.B O) La) [.v bk,.v F,.v È,.v<|.id a] ⟨a,r,bk,[F]⟩=ofM [.v bk,.v F,.v È,.v<|.id a] (aA 4 [.id a,È,dg,.B O] ⟨a,r,bk,[F]⟩):=by have i:Ĺ Ø (Ĺ (Vk<|eC bM)<|Ĺ (eC<|.B O) La) [.v bk,.v F,.v È,.v<|.id a] (⟨a,r,bk,[F]⟩:Rn)=.ok [È,dg,.B O]:=rfl;simp[cT,i]
 have f a r:=Co 4 a r [È,dg,.B O] bk [F];show WL.run 4 Su _=_;rw[run_eq];show fin (js 3 _ _ [.v bk,.v F,.v È,.o])=_;unfold gO;cases e:aA 4 [.id 0,È,dg,.B O] ⟨0,0,bk,[F]⟩with|n Z s=>exact qG M λa r=>by have:=f a r;rw[e]at this;obtain⟨k,b,j,rfl,rfl,h⟩:=this;simp[d,h,vu,Vj,qM,dC,Ta,Rn.val,ofM]|r Z s=>exact qG M λa r=>by have:=f a r;rw[e]at this;obtain⟨b,j,rfl,h⟩:=this;simp[d,h,vu,Vj,qM,dC,Ta,Rn.val,ofM]|x c Z=>exact qG M λa r=>by have:=f a r;rw[e]at this;obtain⟨g,h,_⟩:=this;simp[d,h,vu,ofM]|_=>exact ê fin (dif_neg λ⟨o,h⟩=>by have:=h 0 0;simp[d,e,vu,ofM]at this)
noncomputable abbrev Ľ(x:Str):W:=.t [.str "call",.str x]
noncomputable def Dc(i:Nat)(x y:Int)(f:Nat):W:=.t [.int x,.int y,.int (((f+i)%4:Nat):Int)]
def Cb(i:Nat):W:=.t [Dc i (-1) (-3) 0,Dc i 1 (-3) 0,Dc i 3 (-1) 1,Dc i 3 1 1,Dc i 1 3 2,Dc i (-1) 3 2,Dc i (-3) 1 3,Dc i (-3) (-1) 3]
abbrev So:Ty:=λv=>∃l:List Nat,v=.l (l.map λk:Nat=>.int k)/\l.length<=8/\∀d∈l,d<8
section
variable(z:Prop)(K:W)
def Fz(v:W):Prop:=Fo v/\(z->∃i,i<4/\v=Cb i)
def Sz(v:W)(b:Bool):Prop:=So v/\(z->v=dg/\b=O)
def Rz(x:W):Prop:=Ref x/\¬z
def Nm(nm:Str):Prop:=Hf "Book" K=U/\∃c,bg [K,.str nm]=.ok (Ŏ c)/\∀w v b,Fz z w->Sz z v b->XL (Rz z) (Fz z) (bD [w,Ŏ c,v,.B b])
def Stop(x:W):Prop:=(∃(n:Nat)(y:W),n<=400/\Rz z y/\x=.e "Broken" [.int n,y])\/x=.e "TooMany" []
def Rs(n:Nat)(s:Rn):Prop:=∃a,s=⟨0,0,K,a⟩/\n<a.length/\a.length<=401/\∀v∈a,Fz z v
def Pn(G:Ws->Prop)(n:Nat):OX Rn->Prop|.n Z s=>G Z/\Rs z K n s|.x c _=>Stop z c|_=>False
def Good(f:List W->Rn->OX Rn)(l:List W)(c:Nat):Prop:=∀v b n s,Sz z v b->Rs z K n s->Pn z K (λ_=>True) (n+c) (f [.id 0,.l l,v,.B b] s)
end
section
variable{z:Prop}{K:W}{G:Ws->Prop}{k c:Nat}{b:RF Rn}
theorem Sv:∀{xs},(∀x∈xs,∀n Z s,G Z->Rs z K n s->Pn z K G (n+c) (b (Z.set k<|.v x) s))->∀n Z s,G Z->Rs z K n s->Pn z K G (n+xs.length*c) (kv k b xs Z s)|[],_,n,Z,s,h,h'=>⟨h,by simpa using h'⟩|x::xs,hx,n,Z,s,h,h'=>by have:=hx x ę n Z s h h';rw[ku];cases e:b _ s with|n Ô s'=>rw[e]at this;rw[Ĩ,Nat.succ_mul,Nat.add_comm _ c,<-Nat.add_assoc];exact Sv (λy a=>hx y<|Ħ _ a) _ _ _ this.1 this.2|x c Ô=>rw[e]at this;exact this|_=>rw[e]at this;exact this.elim
def Ao{o Z n m}(h:Pn z K (λ_=>True) n o)(a:m<=n)(g:G Z):Pn z K G m (ofM Z o):=by cases o with|n Ô s=>exact⟨g,h.2.imp λ_⟨e,h,k⟩=>⟨e,by omega,k⟩⟩|x c Ô=>exact h|_=>exact h.elim
def Wo{a c:RF Rn}{Z s d s'}(h:a Z s=.n d s'):vu a c Z s=c d s':=by unfold vu;rw[h]
def mz{v}(h:Fo v):plain v=U:=by obtain⟨f,_,rfl⟩:=h;exact M4 f
def BO{x}(h:Ref x):Pk ["Blind","Out","Meet","NoPairs"] x=U:=by rcases h with⟨d,-,rfl|rfl⟩|⟨i,j,-,-,rfl⟩|rfl<;>kernel_rfl
def CV{nm v b n}(q:Nm z K nm)(i:Sz z v b){s}(hs:Rs z K n s):Pn z K (λ_=>True) (n+1) (jE [.id 0,.str nm,v,.B b] s):=by
 obtain⟨I,c,D,H⟩:=q;obtain⟨a,rfl,J,Å,o⟩:=hs;obtain⟨m,t⟩:∃m:Nat,a.length=m+1:=⟨a.length-1,by omega⟩;obtain⟨w,hw,A⟩:=rL (w:=a) (by omega);have E:Qg Rn.a Rn.val 0 4 (Ì pZ (ç eT<|aa (dC "Run" 1 É) ak) Ù) [.v<|.id 0,.v<|.str nm,.v v,.v<|.B b,.o,.o,.o] (⟨0,0,K,a⟩:Rn)=.n [.v<|.id 0,.v<|.str nm,.v v,.v<|.B b,.v<|.int m,.o,.o] ⟨0,0,K,a⟩:=by show OX.n [_,_,_,_,.v<|.int<|(a.length:Int)-1,_,_] _=_;rw[t];simp
 show Pn z K (λ_=>True) _ (gI [.v<|.id 0,.v<|.str nm,.v v,.v<|.B b,.o,.o,.o] ⟨0,0,K,a⟩);unfold gI;rw[Wo E];by_cases C:m=400
 .subst C;have e:qt (Ü (tB<|eQ õ<|eC bL) (gJ "TooMany"<|aa (Jc<|eC bL) ak) à) [.v<|.id 0,.v<|.str nm,.v v,.v<|.B b,.v<|.int (400:Nat),.o,.o] (⟨0,0,K,a⟩:Rn)=.x (.e "TooMany" []) [.v<|.id 0,.v<|.str nm,.v v,.v<|.B b,.v<|.int (400:Nat),.o,.o]:=by kernel_rfl
  unfold vu;rw[e];exact .inr rfl
 .have e:qt (Ü (tB<|eQ õ<|eC bL) (gJ "TooMany"<|aa (Jc<|eC bL) ak) à) [.v<|.id 0,.v<|.str nm,.v v,.v<|.B b,.v<|.int m,.o,.o] (⟨0,0,K,a⟩:Rn)=.n [.v<|.id 0,.v<|.str nm,.v v,.v<|.B b,.v<|.int m,.o,.o] ⟨0,0,K,a⟩:=by unfold qt;rw[Ke (mh<|aU M M<|ê (λb=>Res.ok<|W.B b)<|show eqv (.int m) (.int 400)=O from Ũ<|by omega)]
  have p:vt Rn.a Rn.Le 0 5 (cQ "Book" bg (dC "Run" 0 É)<|aa Ï ak) [.v<|.id 0,.v<|.str nm,.v v,.v<|.B b,.v<|.int m,.o,.o] (⟨0,0,K,a⟩:Rn)=.n [.v<|.id 0,.v<|.str nm,.v v,.v<|.B b,.v<|.int m,.v<|Ŏ c,.o] ⟨0,0,K,a⟩:=by simp[vt,qM,dC,Ta,Rn.Le,cQ,I,D]
  rw[Wo e,Wo p];have B:=H w v b (o w hw) i;obtain⟨⟨l,rfl,_⟩,_⟩:=i;have f:∀r,bD [w,Ŏ c,.l (l.map λk:Nat=>.int k),.B b]=r->bc bD (aa (eJ (dC "Run" 1 É)<|Đ fU Ù)<|aa Ŋ<|aa Ø<|aa Ý ak) [.v<|.i "Run" [K,.l a],.v<|.str nm,.v (.l (l.map λk:Nat=>.int k)),.v<|.B b,.v<|.int m,.v<|Ŏ c,.o]=r:=λr h=>qE (bR (aU (Nz M M) M A) M) h;show Pn z K _ _ (match bc bD _ [.v<|.i "Run" [K,.l a],_,_,_,_,_,_]with|.ok w=>if plain w=U/\a.length<lim then _ else _|.x c=>if ic (.int m)=U/\Pk _ c=U then _ else _|.b=>_);rcases B.cs with⟨u,y,g⟩|⟨x,ex,j⟩;.rw[f _ y];dsimp only;rw[Ð ⟨mz g.1,by unfold lim;omega⟩];exact⟨trivial,_,M,by simp;omega,by simp;omega,λz d=>by
    rcases ρ.mp d with d|d;.exact o z d
    .rw[Ň.mp d];exact g⟩
  .rw[f _ ex];dsimp only;rw[Ð ⟨gj (by omega),BO j.1⟩];exact .inl ⟨m,x,by omega,j,M⟩
end
theorem BE{Z t}(h:∀d:Nat,d<8->∃b,t (.v (.int d)::Z)=.ok b):∀l:List Nat,(∀d∈l,d<8)->∃a:List Nat,bJ (ax 0) t É (.o::Z) (l.map λk:Nat=>.int k)=.ok (a.map λk:Nat=>.int k)/\a.length<=l.length/\∀d∈a,d<8|[],_=>⟨[],M,í _,λ_ z=>nomatch z⟩|d::l,hl=>by obtain⟨b,e⟩:=h d<|hl d ę;obtain⟨a,i,c,g⟩:=BE h l λx f=>hl x<|Ħ _ f;have st:bJ (ax 0) t É (.o::Z) (.int d::l.map λk:Nat=>.int k)=(t (.v (.int d)::Z)).bind λb=>match b with|true=>(dA 0 (.v (.int d)::Z)).bind λy=>(bJ (ax 0) t É (.o::Z) (l.map λk:Nat=>.int k)).bind λj=>.ok (y::j)|false=>bJ (ax 0) t É (.o::Z) (l.map λk:Nat=>.int k):=rfl;rw[e,i]at st;cases b with|true=>exact⟨d::a,st,Nat.succ_le_succ c,λx f=>by rcases Ę.mp f with rfl|f;exact hl _ ę;exact g x f⟩|false=>exact⟨a,st,Gq c,g⟩
structure DI(x:W)(l:List W)(t:ũ):Prop where
 tk:Tk t
 n:∀A B C D G s,xT Rn.a Rn.val 0 (tB<|eQ (eJ õ æ)<|eS "call") [.v<|.id 0,A,B,C,.v x,D] (⟨0,0,G,s⟩:Rn)=.ok O/\xT Rn.a Rn.val 0 (tB<|eQ (eJ õ æ)<|eS "times") [.v<|.id 0,A,B,C,.v x,D] (⟨0,0,G,s⟩:Rn)=.ok O/\xT Rn.a Rn.val 0 (tB<|eQ (eJ õ æ)<|eS "couples") [.v<|.id 0,A,B,C,.v x,D] (⟨0,0,G,s⟩:Rn)=.ok O
 i:Ą x (.int 2)=.ok (.l l)t:∀V S A,ϓ (tB<|eQ (eJ Ø æ)<|eS "inner") (Ť Ø ο<|cS ċ) (eJ (eC JF)<|eJ Ø Ù) [V,S,.v x,A]=.ok t.W
def GQ{x l t K a v}(h:DI x l t)(g:0<a.length)(i:∀v∈a,Fo v)(n:So v):∃w,cD [.i "Run" [K,.l a],v,x]=.ok w/\So w:=by obtain⟨m,rfl,j,k⟩:=n;obtain⟨w,hw,q⟩:=rL g;obtain⟨f,F,rfl⟩:=i w hw;obtain⟨r,e,c,o⟩:=BE (t:=tB<|av (fY 3)<|aa (eJ (dC "Run" 1 Ï)<|Đ fU Ù)<|aa É<|aa õ ak) (Z:=[.v<|.i "Run" [K,.l a],.v _,.v x,.v t.W]) (λd p=>by obtain⟨b,e⟩:=yB 2 F p t h.tk;exact⟨b,mh<|eA (bR (aU (Nz M M) M q) M) e⟩) m k;exact⟨_,ê fin ((aL<|h.t _ _ _).trans<|fN<|Zt M (by simp;omega) e),r,M,ñ c j,o⟩
def Item(z:Prop)(K:W)(f:List W->Rn->OX Rn)(c:Nat)(x:W):Prop:=(∃nm,Nm z K nm/\c<=1/\x=Ľ nm)\/∃l d,Good z K f l d/\((∃m:Nat,m<=60/\c<=m*d/\x=.t [.str "times",.int m,.l l])\/(¬z/\c=0)/\(x=.t [.str "couples",.l l]\/∃t,DI x l t))
def Vo{t a b Z s}(h:xT Rn.a Rn.val 0 t Z s=.ok U):ϻ (xT Rn.a Rn.val 0 t) a b Z s=a Z s:=by unfold ϻ;rw[h];rfl
def Ve{t a b Z s}(h:xT Rn.a Rn.val 0 t Z s=.ok O):ϻ (xT Rn.a Rn.val 0 t) a b Z s=b Z s:=by unfold ϻ;rw[h];rfl
def Bk{b a Z s ws}(h:a (.v (.id 0)::Z) s=.ok ws)(hs:s.a=0):cT 0 b a (.v (.id 0)::Z) s=ofM (.v (.id 0)::Z) (b (.id 0::ws) s):=by show(if 0=s.a then match a _ s with|.ok _=>ofM _ _|_=>.b else .b)=_;rw[Ð hs.symm,h]
def JI{it k}{b:RF Rn}{Z s xs}(h:it Z=.ok xs):sF it k b Z s=kv k b xs Z s:=by unfold sF;rw[h]
def xw{u w r A B C D G a b}(h:decide (u=w)=b):xT Rn.a Rn.val 0 (tB<|eQ (eJ õ æ)<|eS w) [.v<|.id 0,A,B,C,.v<|.t (.str u::r),D] ⟨0,0,G,a⟩=.ok b:=by rw[<-h];simp[xT,qM]
def GP{z K c f x v b y s I n}(o:Item z K f c x)(i:Sz z v b)(hs:Rs z K n s):Pn z K (λZ=>∃y z,Z=[.v<|.id 0,.v I,.v v,.v<|.B b,y,z]) (n+c) (cg f [.v<|.id 0,.v I,.v v,.v<|.B b,.v x,y] s):=by
 have a:=hs;obtain⟨g,rfl,E,_,r⟩:=hs;unfold cg;rcases o with⟨nm,C,A,rfl⟩|⟨l,d,p,⟨m,Ã,P,rfl⟩|⟨⟨q,rfl⟩,rfl|⟨t,h⟩⟩⟩;.rw[Vo (xw<|by decide+kernel),Bk (ws:=[.str nm,v,.B b]) M M];exact Ao (CV C i a) (by omega) ⟨_,_,M⟩
 .rw[Ve (xw<|by decide+kernel),Vo<|xw<|by decide+kernel];have Å:=Zy (e:=eJ õ Ù) (Z:=[.v<|.id 0,.v I,.v v,.v<|.B b,.v<|.t [.str "times",.int m,.l l],y]) (j:=m) (aU M M M) (by omega);rw[JI Å];have:=Sv (z:=z) (K:=K) (k:=5) (c:=d) (b:=eY f) (xs:=û 0 m) (G:=λZ=>∃z,Z=[.v<|.id 0,.v I,.v v,.v<|.B b,.v<|.t [.str "times",.int m,.l l],z]) (λx _ n Z s⟨z,e⟩hs=>by subst e;obtain⟨g,rfl,h⟩:=hs;show Pn _ K _ _ (cT 0 f (Ĺ (eJ õ ċ)<|Ĺ Ø<|Ĺ Ý La) (.v (.id 0)::[.v I,.v v,.v<|.B b,.v<|.t [.str "times",.int m,.l l],.v x]) _);rw[Bk (ws:=[.l l,v,.B b]) M M];exact Ao (p v b _ _ i ⟨g,M,h⟩) (í _) ⟨_,M⟩) n [.v<|.id 0,.v I,.v v,.v<|.B b,.v<|.t [.str "times",.int m,.l l],y] _ ⟨y,M⟩ a;rw[Hq];cases e:kv 5 (eY f) _ _ _ with|n Z s=>rw[e]at this;obtain⟨⟨y,rfl⟩,h⟩:=this;exact⟨⟨_,_,M⟩,h.imp λ_⟨e,h,k⟩=>⟨e,by simp[û]at h;omega,k⟩⟩|x c Z=>rw[e]at this;exact this|_=>rw[e]at this;exact this.elim
 .rw[Ve (xw<|by decide+kernel),Ve (xw<|by decide+kernel),Vo (xw<|by decide+kernel),Bk (ws:=[.l l,v,.B U]) M M];exact Ao (p v U n _ ⟨i.1,λz=>absurd z q⟩ a) (ϔ ..) ⟨_,_,M⟩
 .obtain⟨A,N,J⟩:=h.n (.v I) (.v v) (.v<|.B b) y K g;obtain⟨w,D,hw⟩:=GQ (K:=K) h (by omega) (λv h=>(r v h).1) i.1;have H:Yn w=U/\Ek g=U:=by obtain⟨m,rfl,_⟩:=hw;refine⟨ş.mpr λx o=>by obtain⟨k,_,rfl⟩:=Ł.mp o;rfl,?_⟩;cases g with|nil=>exact absurd E<|Ji _|cons u g=>obtain⟨f,_,rfl⟩:=(r u ę).1;rfl
  rw[Ve A,Ve N,Ve J,Bk (ws:=[.l l,w,.B b]) (by have:g9 "Run" cD É (aa Ø<|aa õ ak) [.v<|.i "Run" [K,.l g],.v I,.v v,.v<|.B b,.v x,y]=.ok w:=QM M M M D;show Res.bind (Ą x<|.int 2) (λB=>Res.bind (match g9 "Run" cD É (aa Ø<|aa õ ak) [.v<|.i "Run" [K,.l g],.v I,.v v,.v<|.B b,.v x,y]with|.ok w=>if Yn w=U/\Ek g=U then _ else .b|_=>.b) λxs=>.ok (B::xs))=_;rw[h.i,this];dsimp only;rw[Ð H];rfl) M];exact Ao (p w b n _ ⟨hw,λz=>absurd z q⟩ a) (ϔ ..) ⟨_,_,M⟩
def Zs{z K f l c}(h:∀x∈l,Item z K f c x):Good z K (runM 6<|gH f) l (l.length*c):=λv b n s g d=>by have:=Sv (K:=K) (k:=4) (c:=c) (G:=λa=>∃y z,a=[.v<|.id 0,.v<|.l l,.v v,.v<|.B b,y,z]) (λx i n a s⟨y,z,e⟩d=>by subst e;exact GP (h x i) g d) n [.v<|.id 0,.v<|.l l,.v v,.v<|.B b,.o,.o] s ⟨_,_,M⟩ d;show Pn z K _ _ (kv 4 (cg f) l [.v<|.id 0,.v<|.l l,.v v,.v<|.B b,.o,.o] s);cases e:kv 4 (cg f) l _ s with|n a s=>rw[e]at this;exact⟨trivial,this.2⟩|x c a=>rw[e]at this;exact this|_=>rw[e]at this;exact this.elim
def P6(c:Nat)(v:W):Prop:=∃fs,v=.l fs/\c<=fs.length/\fs.length<=400/\∀x∈fs,Fo x
def JB{z K F È c}(h:Good z K (aA 4) È c)(k:Fz z F):XL (Stop z) (P6 c) (k7 [K,F,.l È]):=by have:=h dg O 0 ⟨0,0,K,[F]⟩ ⟨⟨List.range 8,M,by decide,λd j=>ŵ.mp j⟩,λ_=>⟨M,M⟩⟩ ⟨_,M,Nat.zero_lt_one,by simp,λv g=>by rw[Ň.mp g];exact k⟩;rw[SD];unfold gO;cases e:aA 4 _ ⟨0,0,K,[F]⟩with
|n Z s=>rw[e]at this;obtain⟨_,a,rfl,b,l,i⟩:=this;cases a with|nil=>exact absurd b<|Ji _|cons u a=>exact⟨a,ê W.l<|Tz _ _,by simp at b;omega,by simp at l;omega,λx f=>(i x<|Ħ _ f).1⟩
|x c Z=>rw[e]at this;exact this|_=>rw[e]at this;exact this.elim
noncomputable def BL:List (String×List Rl):=[("about",[⟨[],L [.turn .about]⟩]),("lt",[⟨[],L [.turn .left]⟩]),("walk",[⟨[(O,.at 2 0 .none)],L [.go .ahead 2]⟩]),("swap",[⟨[(O,.at 0 2 .same)],L [.go .right 2]⟩,⟨[(O,.at 0 (-2) .same)],L [.go .left 2]⟩,⟨[],Y⟩]),("cross",[⟨[(O,.at 6 0 .about)],L [.go .ahead 6]⟩,⟨[(O,.at 2 0 .about)],L [.go .ahead 2]⟩,⟨[],Y⟩]),("hin",[⟨[(O,.ĕ .head),(O,.ĕ .ň)],L [.go .ahead 2]⟩,⟨[],Y⟩]),("hout",[⟨[(O,.ĕ .head),(O,.inner 1)],L [.go .back 2]⟩,⟨[],Y⟩]),("face",[⟨[(O,.ĕ .Υ)],L [.turn .right]⟩,⟨[],L [.turn .left]⟩]),("pass",[⟨[(O,.at 2 0 .any),(U,.at 4 0 .any)],L [.go .ahead 4]⟩,⟨[(O,.at 2 0 .none)],L [.go .ahead 2]⟩,⟨[],Y⟩]),("side",[⟨[(O,.ĕ .side),(O,.at 0 2 .same)],L [.go .right 1,.go .ahead 2,.go .left 1]⟩,⟨[],Y⟩]),("ring",[⟨[(O,.ĕ .ń)],L [.turn .left,.go .ahead 2]⟩,⟨[(O,.ĕ .ň)],L [.go .right 2,.turn .left]⟩,⟨[],L [.turn .left]⟩]),("back",[⟨[(O,.inner 3),(U,.inner 1)],L [.go .back 2]⟩,⟨[],L [.turn .about]⟩]),("meet",[⟨[(O,.at 0 2 .ô)],L [.go .right 1]⟩,⟨[(O,.at 0 (-2) .ô)],L [.go .left 1,.turn .left]⟩,⟨[],Y⟩]),("own",[⟨[(O,.at 0 2 .ô)],L [.turn .left]⟩,⟨[(O,.at 0 (-2) .ô)],L [.turn .right]⟩,⟨[],Y⟩]),("prom",[⟨[(O,.ĕ .Υ)],L [.go .right 4,.go .ahead 2,.turn .left]⟩,⟨[],L [.go .right 2,.go .ahead 4,.turn .left]⟩])]
noncomputable def SB:String->Str:=Str.ofString
abbrev KK:W:=.ġ (BL.map λp=>.str<|SB p.1) (BL.map λp=>Ŏ p.2)
abbrev BK:W:=.i "Book" [KK]
def VU:uU "Book" yG (aa (av jC ak) ak) []=.ok BK:=by kernel_rfl
noncomputable def NS:List String:=["about","back","cross","face","hin","hout","lt","meet","own","pass","prom","ring","side","swap","walk"]
abbrev NW:W:=.l (NS.map λn=>.str<|SB n)
def rC:ba [BK]=.ok NW:=by kernel_rfl
def Cu(r:Rl):Bool:=decide (r.ts.length<=100)&&(r.ts.all λp=>match p.2 with|.at _ _ .opposite=>O|_=>U)&&r.ss.elim U λl=>decide (l.length<=100)
def PD{r}(h:Cu r=U):Dd r:=by
 simp only[Cu,ł,Lb,ş]at h;refine⟨h.1.1,λp a=>?_,λl e=>by grind⟩;have:=h.1.2 p a;unfold Tk;split;.rename_i e;rw[e]at this;cases this
 .trivial
def MV:(BL.all λp=>p.2.all Cu)=U:=rfl
def OF:∀p∈BL,bg [BK,.str<|SB p.1]=.ok (Ŏ p.2):=by repeat' first|refine List.forall_mem_cons.mpr ⟨by kernel_rfl,?_⟩|exact λ_ z=>absurd z Wf
def YC{n}(h:n∈NS):∃c,bg [BK,.str<|SB n]=.ok (Ŏ c)/\∀r∈c,Dd r:=by have:(NS.all λn=>BL.any λp=>p.1==n)=U:=rfl;obtain⟨p,a,e⟩:=List.any_eq_true.mp<|ş.mp this n h;rw[<-Μ.mp e];exact⟨p.2,OF p a,λr b=>PD<|ş.mp (ş.mp MV p a) r b⟩
noncomputable def ŋ(w:Str):Bool:=(w.cps.toList.all λc=>c !=32&&Nat.ble c 127)&&Nat.ble w.length 10&&!w=="("&&!w==")"&&Nat.ble 1 w.length
def vP{w}(h:ŋ w=U):(32∉w.cps.toList/\w.length<=10/\1<=w.length)/\(w=="(")=O/\(w==")")=O:=by simp only[ŋ,ł,Ma,ş,bne_iff_ne,Bool.not_eq_true']at h;exact⟨⟨λz=>(h.1.1.1.1 _ z).1 M,h.1.1.1.2,h.2⟩,h.1.1.2,h.1.2⟩
def Pu{w}(h:ŋ w=U)(n):ě n (.str w)=U:=by simp only[ŋ,ł,Ma,ş]at h;show w.cps.all _=U;rw[<-Array.all_toList,ş];intro c a;have:=(h.1.1.1.1 c a).2;exact Ϡ (by omega)
structure Na(a:Str):Prop where i:a∈NS.map SB
def DE:((NS.map SB).all λa=>ŋ a&&bY (.str a) (NS.map λn=>.str<|SB n))=U:=by kernel_rfl
def Na.o{a}(h:Na a):ŋ a=U:=(Sb.mp<|ş.mp DE a h.i).1
def CK:hI 51 (NS.map λn=>.str<|SB n)=U:=by kernel_rfl
def Na.n{a}(h:Na a):ı (.str a) NW=.ok (.B U):=by have:=(Sb.mp<|ş.mp DE a h.i).2;show(if(ě _ _&&hI _ _)=U then Res.ok _ else .b)=_;rw[Pu h.o,CK,this];rfl
noncomputable def Ϥ:List Str->Int->Option Nat|[],_=>Y|w::r,d=>if(w==")")=U then(if d-1=0 then L 1 else(Ϥ r<|d-1).map (.+1))else(Ϥ r<|if(w=="(")=U then d+1 else d).map (.+1)
def OB{α}(pre:List α)(x r):(pre++x::r)[pre.length]?=L x:=by simp
def Yx{A:List Str}{p:Nat}{w}(h:A[p]?=L w):Ą (.l<|A.map .str) (.int p)=.ok (.str w):=by rw[fV,gT,Ų,h];rfl
def IB(lo)(n):û lo (n+1)=.int lo::û (lo+1) n:=by unfold û;rw[List.range_succ_eq_map];simp ;omega
theorem yJ(st):∀Ò pre d q o,Ϥ Ò d=L q->forL (ax 3) aI (û pre.length Ò.length) [.v<|.l<|(pre++Ò).map .str,st,.v<|.int d,o]=.r (.int (pre.length+q:Nat))
|[],_,_,_,_,h=>nomatch h|w::Ò,pre,d,q,o,h=>by
  have e:=Yx<|OB pre w Ò;rw[Ĩ,IB];have g:=yJ st Ò<|pre++[w];rw[show pre++[w]++Ò=pre++w::Ò by simp,show((pre++[w]).length:Nat)=pre.length+1 by simp]at g;unfold Ϥ at h;generalize(pre++w::Ò).map W.str=A at *;have p:∀d,tB (eQ (eJ É Ý)<|eS "(") [.v<|.l A,st,.v<|.int d,.v<|.int (pre.length:Nat)]=.ok (w=="("):=λd=>mh<|aU (aU M M e) M M;have l:∀d,tB (eQ (eJ É Ý)<|eS ")") [.v<|.l A,st,.v<|.int d,.v<|.int (pre.length:Nat)]=.ok (w==")"):=λd=>mh<|aU (aU M M e) M M;have f:∀R,aw (Ü (tB<|eQ (eJ É Ý)<|eS "(") (aN 2<|Ì zK Ø Ù) à) R [.v<|.l A,st,.v<|.int d,.v<|.int (pre.length:Nat)]=R [.v<|.l A,st,.v (.int<|if(w=="(")=U then d+1 else d),.v<|.int (pre.length:Nat)]:=λR=>by have:=p d;cases k:w=="("with|true=>rw[k]at this;exact(ž this).trans (aL M)|false=>rw[k]at this;exact(ĭ this).trans jS
  by_cases a:(w==")")=U
  .rw[Ð a]at h;have r:(w=="(")=O:=by rw[Μ.mp a];decide+kernel
   rw[r]at f;have j:∀A B C,tB (eQ Ø æ) [A,B,.v<|.int<|d-1,C]=.ok (decide (d-1=0)):=λ_ _ _=>rfl;have m:∀P:Out->Prop,P (Ü (tB<|eQ Ø æ) (aP<|Ì fK Ý Ù) à [.v<|.l A,st,.v<|.int<|d-1,.v<|.int (pre.length:Nat)])->P (aI [.v<|.l A,st,.v<|.int d,.v<|.int (pre.length:Nat)]):=λP n=>by rw[show aI [.v<|.l A,st,.v<|.int d,.v<|.int (pre.length:Nat)]=_ from(f _).trans ((Bc<|(l d).trans<|ê _ a).trans<|aL M)];exact n
   by_cases b:d-1=0;.rw[Ð b]at h;cases h;exact dk M (m (λo=>o=_)<|(Bc<|(j _ _ _).trans<|ê _<|Ϡ b).trans<|fN (w:=.int (pre.length+1:Nat)) M) λ_=>rfl
   .rw[Õ b]at h;obtain⟨i,c,rfl⟩:=μ.mp h;refine dj M (m (λo=>o=_)<|Ke<|(j _ _ _).trans<|ê _<|Ũ b) ((g (d-1) i _ c).trans<|by congr 2;omega)
  .rw[Õ a]at h;obtain⟨i,c,rfl⟩:=μ.mp h;refine dj M ((f _).trans<|Ke<|(l _).trans<|ê _<|by simpa using a) ((g _ i _ c).trans<|by congr 2;omega)
theorem Fu{d r}:∀hs,(∀w∈hs,ŋ w=U)->Ϥ (hs++r) d=(Ϥ r d).map (.+hs.length)|[],_=>by simp|w::hs,h=>by have:=vP<|h w ę;show(if(w==")")=U then _ else(Ϥ (hs++r) _).map _)=_;rw[this.2.2,this.2.1,Õ ř,Õ ř,Fu _ λx a=>h x<|Ħ _ a];cases Ϥ r d with|none=>rfl|some q=>exact ê _<|M
def GN(r d):Ϥ ("("::r) d=(Ϥ r<|d+1).map (.+1):=rfl
def HN(r):Ϥ (")"::r) 1=L 1:=rfl
def six{n d k}(h:k<=n):Ā n d (L k)=k:=by unfold Ā;dsimp ;rw[Õ (by omega)];omega
def BN{α}(a b c:List α):cut (a++(b++c)) (L a.length) (L (a.length+b.length:Nat))=b:=by unfold cut;rw[six (by simp),six (by simp),List.drop_left,show a.length+b.length-a.length=b.length by omega,List.take_left]
def YM{α}(a b)(x:α):cut (a++(b++[x])) (L a.length) (L<|-1)=b:=by
 have:Ā (a++(b++[x])).length (a++(b++[x])).length (L<|-1)=a.length+b.length:=by unfold Ā;dsimp only;rw[Ð (by decide)];simp;omega
 unfold cut;rw[this,six (by simp),List.drop_left,show a.length+b.length-a.length=b.length by omega,List.take_left]
def ZM{α}(a b:List α):cut (a++b) Y (L a.length)=a:=by unfold cut;rw[six (by simp)];show List.take (a.length-0) (List.drop 0 _)=a;simp
def RM{e e' Z i j}(h:e Z=.ok (.int i))(g:e' Z=.ok (.int j))(b:-2^62<=i/\i<2^62/\-2^62<=j/\j<2^62):jz e e' Z=.ok (û i (j-i).toNat):=by simp_all
def RA{a b Z w}(h:a Z=.r w):aw a b Z=.r w:=by simp_all
def Bj{T r o a Z x ws w}(h:o Z=.ok x)(k:wh x=T)(g:a Z=.ok ws)(q:r x ws=.ok w):ov T r o a Z=.ok w:=by simp_all
def y9{e lo hi Z l r xs}(h:e Z=.ok (.l xs))(k:lo Z=.ok l)(g:hi Z=.ok r):Ť e lo hi Z=.ok (.l<|cut xs l r):=by simp_all
noncomputable abbrev br(a ins:List Str):List Str:=a++("(":Str)::(ins++[(")":Str)])
def dP{n}:ě n (.str "(")=U/\ě n (.str ")")=U:=⟨XF n _,XF n _⟩
section
variable{hd ins:List Str}(hh:∀w∈hd,ŋ w=U)(hi:∀w∈ins,ŋ w=U)
include hh hi
theorem JN(post):Ϥ (br hd ins++post) 0=L (br hd ins).length:=by rw[show br _ _++post=hd++("(":Str)::(ins++(")":Str)::post)by simp,Fu _ hh,GN,Fu _ hi,Int.zero_add,HN];simp;omega
theorem KN{pre post}(b:(pre++(br hd ins++post)).length<=1000):cC [.l<|(pre++(br hd ins++post)).map .str,.int pre.length]=.ok (.int (pre.length+(br hd ins).length:Nat)):=by
 have À:=yJ (.v<|.int (pre.length:Nat)) (br hd ins++post) pre 0 _ .o<|JN hh hi post;have f:((pre++(br hd ins++post)).map W.str).length=pre.length+(br hd ins++post).length:=by rw[Į,ϕ]
 have c:pre.length+(br hd ins++post).length<=1000:=by rw[<-ϕ];exact b
 generalize(pre++(br hd ins++post)).map W.str=A at *;have d:∀B C,jz Ï (ç eT<|aa É ak) [.v<|.l A,.v<|.int (pre.length:Nat),B,C]=.ok (û (pre.length:Nat) (br hd ins++post).length):=λB C=>by
  generalize(br hd ins++post).length=n at *;generalize pre.length=m at *;have z:((A.length:Int)-m).toNat=n:=by omega
  have:=RM (e:=dA 1) (e':=ç eT<|aa É ak) (Z:=[.v<|.l A,.v<|.int (m:Nat),B,C]) (i:=m) (j:=A.length) M M (by omega);rwa[z]at this
 have q:kq (jz Ï<|ç eT<|aa É ak) (ax 3) aI [.v<|.l A,.v<|.int (pre.length:Nat),.v<|.int 0,.o]=.r (.int (pre.length+(br hd ins).length:Nat)):=by unfold kq;rw[d];exact À
 have h:aw (kq (jz Ï<|ç eT<|aa É ak) (ax 3) aI) jY [.v<|.l A,.v<|.int (pre.length:Nat),.v<|.int 0,.o]=.r (.int (pre.length+(br hd ins).length:Nat)):=RA q;have g:∀a,cC [.l A,a]=fin (aw (kq (jz Ï<|ç eT<|aa É ak) (ax 3) aI) jY [.v<|.l A,.v a,.v<|.int 0,.o]):=λa=>rfl;rw[g,h,BR]
theorem BS:hI 51 ((br hd ins).map .str)=U:=ry _ _ _ λw hw=>by
 rcases ρ.mp hw with hw|hw;.exact Pu (hh w hw) _
 rcases Ę.mp hw with rfl|hw;.exact dP.1
 rcases ρ.mp hw with hw|hw;.exact Pu (hi w hw) _
 .rw[Ň.mp hw];exact dP.2
omit hh hi
theorem EA{r}:∀hd k,(∀w∈hd,ŋ w=U)->idx (.str "(") k ((hd++("(":Str)::r).map .str)=L (k+hd.length)|[],k,_=>rfl|w::hd,k,h=>by show(if eqv (.str w) _=U then L k else idx _ (k+1) ((hd++("(":Str)::r).map .str))=_;rw[show eqv (.str w) (.str "(")=O from(vP<|h w ę).2.1,EA hd (k+1) λx a=>h x<|Ħ _ a];exact ê L (by simp;omega)
include hh hi
theorem WM{a c l}(j:(br hd ins).length<=100)(k:ins≠[])(g:jB [.l<|hd.map .str]=.ok (.t c))(n:c.length<=9)(o:a [NW,.l<|ins.map .str,.int 1]=.ok l):aW a [NW,.l<|(br hd ins).map .str,.int 1]=.ok (.t<|c++[l]):=by
 have i:fL (.l<|(br hd ins).map .str) [.str "("]=.ok (.int (hd.length:Nat)):=by rw[kS,BS hh hi,dP.1,Ð (by simp[lim]at j⊢;omega),EA hd 0 hh,Nat.zero_add]
 have e:(br hd ins).map W.str=hd.map .str++.str "("::(ins.map .str++[.str ")"]):=by simp
 have m:cut ((br hd ins).map W.str) (L<|(hd.length:Int)+1) (L<|-1)=ins.map .str:=by have:=YM (hd.map W.str++[.str "("]) (ins.map .str)<|.str ")";rw[show((hd.map W.str++[W.str "("]).length:Int)=(hd.length:Int)+1 by simp]at this;rw[Ll]at this;rw[e];exact this
 have h:cut ((br hd ins).map W.str) Y (L (hd.length:Int))=hd.map .str:=by have:=ZM (hd.map W.str) (.str "("::(ins.map .str++[.str ")"]));rw[Į]at this;rw[e];exact this
 generalize(br hd ins).map W.str=A at *;have f:=y9 (e:=dA 1) (lo:=cS<|Ì fK Ý Ù) (hi:=cS<|Đ fU Ù) (Z:=[.v NW,.v<|.l A,.v<|.int 1,.v<|.int (hd.length:Nat),.o]) (l:=L<|(hd.length:Int)+1) (r:=L<|-1) M M M;have d:=y9 (e:=dA 1) (lo:=ο) (hi:=cS Ý) (Z:=[.v NW,.v<|.l A,.v<|.int 1,.v<|.int (hd.length:Nat),.v<|.l<|ins.map .str]) (l:=Y) (r:=L (hd.length:Int)) M M M;rw[m]at f;rw[h]at d;exact ê fin (a₁:=fP a [.v NW,.v<|.l A,.v<|.int 1,.o,.o]) (a₂:=.r _) ((ĭ<|by kernel_rfl).trans<|jS.trans<|(aL<|Bj M M M i).trans<|(aL f).trans<|(ĭ<|Cj (b:=U) (by obtain⟨x,t,rfl⟩:=Em k;rfl)).trans<|jS.trans<|fN<|aU (eA (bR d M) g) (JT<|eA M o)<|Ð<|by simp[lim];omega)
end
def Rd(c:List W->Res W)(d:Int)(ws:List Str)(x:W):Prop:=(∃a,Na a/\ws=[a]/\x=Ľ a)\/∃b ins,ws=br b ins/\b≠[]/\(∀w∈b,ŋ w=U)/\(∀w∈ins,ŋ w=U)/\ı (.str<|b.headD "") NW=.ok (.B O)/\c [NW,.l<|ws.map .str,.int<|d+1]=.ok x
theorem HB{g d}:∀È:List (List Str×W),(∀p∈È,Rd g d p.1 p.2)->∀pre f o m,È.length<m->f.length+È.length<=1000->(pre++(È.map (·.1)).flatten).length<=1000->∃o' q,gc (dR g) (dS g) m [.v NW,.v<|.l<|(pre++(È.map (·.1)).flatten).map .str,.v<|.int d,.w f,.v<|.int pre.length,o]=.n [.v NW,.v<|.l<|(pre++(È.map (·.1)).flatten).map .str,.v<|.int d,.w<|f++È.map (·.2),q,o']
|[],_,pre,f,o,m+1,_,_,_=>⟨o,.v<|.int (pre.length:Nat),by
 have e:(pre++(([]:List (List Str×W)).map (·.1)).flatten)=pre:=by simp
 rw[e];exact(Kt<|mh<|aU M M<|ê (λb=>Res.ok<|W.B b)<|show decide ((pre.length:Int)<((pre.map W.str).length:Nat))=O from Ũ<|by simp).trans (by simp)⟩|p::È,h,pre,f,o,m+1,hm,ha,hl=>by
  have C:pre++((p::È).map (·.1)).flatten=pre++p.1++(È.map (·.1)).flatten:=by simp
  have u:p.1≠[]:=by rcases h p ę with⟨a,_,e,_⟩|⟨i,ins,e,_⟩<;>rw[e]<;>simp
  obtain⟨w,r,hw⟩:=Em u;have j:=HB È (λq I=>h q<|Ħ _ I) (pre++p.1)<|f++[p.2];simp only[Ĩ]at hm ha;have s:Ą (.l<|(pre++((p::È).map (·.1)).flatten).map .str) (.int (pre.length:Nat))=.ok (.str w):=Yx (by rw[ņ,Ci,hw];exact OB _ _ _);have lt:pre.length<(pre++((p::È).map (·.1)).flatten).length:=by rw[ņ,Ci,hw];simp
  have E:cut ((pre++((p::È).map (·.1)).flatten).map W.str) (L (pre.length:Nat)) (L (pre.length+p.1.length:Nat))=p.1.map .str:=by have:=BN (pre.map W.str) (p.1.map .str)<|(È.map (·.1)).flatten.map .str;rw[Į,Į]at this;rw[<-this];simp
  have D:∀i ins,p.1=br i ins->(∀w∈i,ŋ w=U)->(∀w∈ins,ŋ w=U)->cC [.l<|(pre++((p::È).map (·.1)).flatten).map .str,.int (pre.length:Nat)]=.ok (.int (pre.length+p.1.length:Nat)):=λi ins e n hi=>by have:=KN n hi (pre:=pre) (post:=(È.map (·.1)).flatten) (by rw[<-e];simpa using hl);rw[<-e]at this;simpa using this
  rw[<-C]at j;have G:((pre++((p::È).map (·.1)).flatten).map W.str).length=(pre++((p::È).map (·.1)).flatten).length:=Į _;generalize(pre++((p::È).map (·.1)).flatten)=A at *;generalize A.map W.str=B at *;have c:dR g [.v NW,.v<|.l B,.v<|.int d,.w f,.v<|.int (pre.length:Nat),o]=.ok U:=mh (aU M M<|ê (λb=>Res.ok<|W.B b)<|Ϡ<|by omega);have b:∃o',dS g [.v NW,.v<|.l B,.v<|.int d,.w f,.v<|.int (pre.length:Nat),o]=.n [.v NW,.v<|.l B,.v<|.int d,.w<|f++[p.2],.v<|.int (pre.length+p.1.length:Nat),o']:=by
   rcases h p ę with⟨a,na,e,ex⟩|⟨i,ins,e,z,n,hi,v,y⟩;.rw[e]at hw;cases hw;exact⟨o,by rw[ex,e];exact(Bc<|mh<|aU (aU M M s) M na.n).trans ((vA<|Vu M (by omega)<|Xv M<|aU M M s).trans<|y8 M)⟩
   .have:i.headD ""=w:=by obtain⟨x,t,rfl⟩:=Em z;rw[e]at hw;cases hw;rfl
    rw[this]at v;have k:=y9 (e:=dA 1) (lo:=cS õ) (hi:=cS Ŋ) (Z:=[.v NW,.v<|.l B,.v<|.int d,.w f,.v<|.int (pre.length:Nat),.v<|.int (pre.length+p.1.length:Nat)]) (l:=L (pre.length:Nat)) (r:=L (pre.length+p.1.length:Nat)) M M M;rw[E]at k;exact⟨.v<|.int (pre.length+p.1.length:Nat),(OM<|mh<|aU (aU M M s) M v).trans<|(aL<|eA M<|D i ins e n hi).trans<|(vA<|Vu M (by omega)<|eA (bR M<|bR k<|bR (x:=.int<|d+1) M M) y).trans<|y8 M⟩
  obtain⟨o',b⟩:=b;obtain⟨H,q,j⟩:=j o' m (by omega) (by simp;omega) hl;refine⟨H,q,(Dz c b).trans ?_⟩;rw[show(pre++p.1).length=pre.length+p.1.length by simp]at j;rw[j];simp
def MD{n d}{È:List (List Str×W)}(h:∀p∈È,Rd (aW<|aR n) d p.1 p.2)(b:È.length<20)(a:(È.map (·.1)).flatten.length<=1000):aR (n+1) [NW,.l<|(È.map (·.1)).flatten.map .str,.int d]=.ok (.l<|È.map (·.2)):=by obtain⟨c,q,e⟩:=HB È h [] [] .o 20 b (by simp;omega) (by simpa using a);rw[Ki]at e;generalize(È.map (·.1)).flatten.map W.str=B at *;have:hZ (aW<|aR n) [.v NW,.v<|.l B,.v<|.int d,.o,.o,.o]=.r (.l<|È.map (·.2)):=(Wc M).trans<|(aL M).trans<|(vA e).trans M;exact ê fin this
abbrev Gd:=Good False BK
abbrev Im:=Item False BK
structure Kd(hd:List Str)(ht:Str)(hv:List W):Prop where
 ne:hd≠[]o:∀w∈hd,ŋ w=U
 i:ı (.str<|hd.headD "") NW=.ok (.B O)h:jB [.l<|hd.map .str]=.ok (.t hv)l:hd.length<=2/\hv.length<=9/\ht.length<=20t:ht=SG.J " " (hd++[("(":Str)])++" "it:∀l f,Gd f l 0->Im f 0 (.t<|hv++[.l l])
def Ig{l:List Str}(h:l.all ŋ=U):∀w∈l,ŋ w=U:=ş.mp h
def RJ:Kd ["2","times"] "2 times ( " [.str "times",.int 2]:=⟨by simp,Ig (by kernel_rfl),by kernel_rfl,M,by decide+kernel,by kernel_rfl,λl f g=>.inr ⟨l,0,g,.inl ⟨2,by decide,Ś _,M⟩⟩⟩
def LJ:Kd ["couples"] "couples ( " [.str "couples"]:=⟨by simp,Ig<|M,by kernel_rfl,by kernel_rfl,by decide+kernel,by kernel_rfl,λl f g=>.inr ⟨l,0,g,.inr ⟨⟨id,M⟩,.inl rfl⟩⟩⟩
def QJ:Kd ["heads"] "heads ( " [.str "some",.str "heads"]:=⟨by simp,Ig (by kernel_rfl),by kernel_rfl,by kernel_rfl,by decide+kernel,by kernel_rfl,λl f g=>.inr ⟨l,0,g,.inr ⟨⟨id,M⟩,.inr ⟨.ĕ .head,trivial,λ_ _ _ _ _ _=>⟨M,M,M⟩,M,λ_ _ _=>by kernel_rfl⟩⟩⟩⟩
def OJ:Kd ["sides"] "sides ( " [.str "some",.str "sides"]:=⟨by simp,Ig (by kernel_rfl),by kernel_rfl,by kernel_rfl,by decide+kernel,by kernel_rfl,λl f g=>.inr ⟨l,0,g,.inr ⟨⟨id,M⟩,.inr ⟨.ĕ .side,trivial,λ_ _ _ _ _ _=>⟨M,M,M⟩,M,λ_ _ _=>by kernel_rfl⟩⟩⟩⟩
def NJ:Kd ["lefts"] "lefts ( " [.str "some",.str "lefts"]:=⟨by simp,Ig (by kernel_rfl),by kernel_rfl,by kernel_rfl,by decide+kernel,by kernel_rfl,λl f g=>.inr ⟨l,0,g,.inr ⟨⟨id,M⟩,.inr ⟨.ĕ .Υ,trivial,λ_ _ _ _ _ _=>⟨M,M,M⟩,M,λ_ _ _=>by kernel_rfl⟩⟩⟩⟩
def MJ:Kd ["inner","3"] "inner 3 ( " [.str "inner",.int 3]:=⟨by simp,Ig (by kernel_rfl),by kernel_rfl,by kernel_rfl,by decide+kernel,by kernel_rfl,λl f g=>.inr ⟨l,0,g,.inr ⟨⟨id,M⟩,.inr ⟨.inner 3,trivial,λ_ _ _ _ _ _=>⟨M,M,M⟩,M,λ_ _ _=>by kernel_rfl⟩⟩⟩⟩
noncomputable def HT:List Str:=["2 times ( ","heads ( ","sides ( ","lefts ( ","inner 3 ( ","couples ( "]
def EO{c}(h:0<=c/\c<6):∃d a b,Kd d a b/\Ą (.l<|HT.map .str) (.int c)=.ok (.str a):=by
 have:c=0\/c=1\/c=2\/c=3\/c=4\/c=5:=by omega
 rcases this with rfl|rfl|rfl|rfl|rfl|rfl;.exact⟨_,_,_,RJ,M⟩
 .exact⟨_,_,_,QJ,M⟩
 .exact⟨_,_,_,OJ,M⟩
 .exact⟨_,_,_,NJ,M⟩
 .exact⟨_,_,_,MJ,M⟩
 .exact⟨_,_,_,LJ,M⟩
def G1{x y}(hy:y.cps.toList≠[])(hk:Builtin.Str.strKind y=1)(a:x.length<=1000000):gq (.str x) [.str y]=.ok (.l<|(SF.lK x y).map .str):=by exact Ð ⟨λz=>hy (by simp[Str.length]at z;simp[z]),hk,a⟩
theorem strs_map:∀ws,strsOf (ws.map .str)=L ws|[]=>rfl|w::ws=>by simp[strsOf,strs_map _]
theorem Vv(Å):∀ws:List Str,(∀w∈ws,w.length<=Å)->(ws.map (·.length)).sum<=ws.length*Å|[],_=>by simp|w::ws,h=>by have:=Vv Å ws λx a=>h x (by grind);have:=h w (by simp);simp [Nat.add_mul];omega
def PX{x ws}(Å N)(h:∀w∈ws,w.length<=Å)(a:ws.length<=N)(c:N*Å+N*x.length<=1000000):uu (.str x) [.l<|ws.map .str]=.ok (.str<|SG.J x ws):=by have b:=Vv Å _ h;have e:ws.length*Å<=N*Å:=Lm _ a;have d:ws.length*x.length<=N*x.length:=Lm _ a;show(match strsOf _ with|some ys=>if(ys.map _).sum+ys.length*x.length<=lim then Res.ok _ else .b|none=>.b)=_;rw[strs_map];exact Ð (show _<=1000000 by omega)
def My{x ws}(Å N)(h:∀w∈ws,w.length<=Å)(a:ws.length<=N):(SG.J x ws).length<=N*Å+N*x.length:=by have d:=SG.LN x ws;have b:=Vv Å _ h;have e:ws.length*Å<=N*Å:=Lm _ a;have c:ws.length*x.length<=N*x.length:=Lm _ a;omega
def WB:(" ":Str).cps.toList=[32]:=rfl
theorem MB(a):∀(xs:List (List Str)),(∀x∈xs,x≠[])->SG.J a (xs.map<|SG.J a)=SG.J a xs.flatten
|[],_=>rfl|[x],h=>by simp only[ņ,List.map_nil,Ci,List.flatten_nil,Ξ];exact SG.Xg _ _|x::y::xs,h=>by
 have b:(y::xs).flatten≠[]:=by simp_all
 rw[Ci,SG.Jj _ _ _ (h x<|by simp) b,<-MB a (y::xs) λz c=>h z<|by simp[c]];rw[show(x::y::xs).map (SG.J a)=[SG.J a x]++(y::xs).map (SG.J a)from rfl,SG.Jj _ _ _ (by simp) (by simp),SG.Xg]
def QL:Builtin.Str.strKind " "=1:=by decide+kernel
def sr(x y:Str):(x++y).cps.toList=x.cps.toList++y.cps.toList:=by show(x.cps++y.cps).toList=_;simp
def iy(x y:Str):(x++y).length=x.length+y.length:=by show(x.cps++y.cps).size=_;rw[Array.size_append];rfl
def vk(x y z:Str):x++y++z=x++(y++z):=by rw[<-SG.m6 (x++y++z),<-SG.m6 (x++(y++z)),sr,sr,sr,sr,Ll]
abbrev Wd(w:Str):Prop:=32∉w.cps.toList/\w.length<=10/\1<=w.length
def vH{ws}(hw:ws≠[])(h:∀w∈ws,Wd w):SF.lK (SG.J " " ws) " "=ws:=by refine SG.GW _ (by rw[WB];simp) _ hw (SG.yC ⟨[],M⟩ _ λp a r _=>?_);obtain⟨w,hw,rfl⟩:=Ł.mp a;exact SG.no_space (h w hw).1 r
def Ou(n):∃a,Na a/\Ą NW (.int<|n%15)=.ok (.str a):=by obtain⟨w,hw,e⟩:=W3 (ws:=NS) n 15 M (by simp);exact⟨_,⟨Ł.mpr ⟨w,hw,M⟩⟩,e⟩
def Aj{c f o a Z y ws r}(h:o Z=.ok y)(n:Hf c y=U)(g:a Z=.ok ws)(k:f (y::ws)=r):cQ c f o a Z=r:=by rw[show cQ c f o a Z=(o Z).bind _ from rfl,h];show(if Hf c y=U then _ else _)=_;rw[Ð n,g];exact k
structure Itm(ws:List Str)(x:W):Prop where
 r:Rd (aW<|aR 3) 0 ws x
 i:Im (aA 3) 0 x
 ne:ws≠[]l:ws.length<=6w:∀w∈ws,Wd w
def EE{n a}(h:Na a):Im n 0 (Ľ a):=by obtain⟨w,hw,rfl⟩:=Ł.mp h.i;obtain⟨c,d,f⟩:=YC hw;exact .inl ⟨_,⟨M,c,d,λw v b h g=>by
 rcases(je f (b:=b) [w,Ŏ c,v,.B b] ⟨h.1,M,g.1.imp λ_=>And.left,M,trivial⟩).cs with⟨u,e,h⟩|⟨x,e,h⟩<;>rw[e];.exact⟨h,False.elim⟩
 .exact⟨h,id⟩⟩,Ś _,M⟩
def HD:Wd "("/\Wd ")":=by decide+kernel
theorem Pt:∀l:List Str,(l.map λa=>[a]).flatten=l|[]=>rfl|a::l=>by rw[ņ,Ci,Pt l];rfl
def Pz{e o g ins}(k:Kd e o g)(i:ins≠[])(q:ins.length<=2)(b:∀a∈ins,Na a):Itm (br e ins) (.t<|g++[.l<|ins.map Ľ]):=by
 have m:=k.l;have f:∀a∈ins,ŋ a=U:=λa h=>(b a h).o;refine⟨.inr ⟨e,ins,M,k.ne,k.o,f,k.i,?_⟩,k.it _ _ (Zs (c:=0) λx j=>?_),by simp,by simp;omega,λw hw=>?_⟩;.have:=MD (n:=2) (d:=1) (È:=ins.map λa=>([a],Ľ a)) (λp l=>by obtain⟨a,h,rfl⟩:=Ł.mp l;exact .inl ⟨a,b a h,M,M⟩) (by simp;omega) (by rw[Xd];show((ins.map λa=>[a]).flatten).length<=_;rw[Pt];omega);rw[Xd,Xd,show((λx:List Str×W=>x.1)∘λa=>([a],Ľ a))=λa=>[a]from rfl,Pt]at this;exact WM k.o f (by simp;omega) i k.h m.2.1 this
 .obtain⟨a,h,rfl⟩:=Ł.mp j;exact EE<|b a h
 .rcases ρ.mp hw with hw|hw;.exact(vP<|k.o w hw).1
  rcases Ę.mp hw with rfl|hw;.exact HD.1
  rcases ρ.mp hw with hw|hw;.exact(vP<|f w hw).1
  .rw[Ň.mp hw];exact HD.2
def Qz{a b c ins}(k:Kd a b c)(d:ins≠[]):SG.J " " (br a ins)=b++(SG.J " " ins++" )"):=by rw[show br _ _=a++[("(":Str)]++(ins++[(")":Str)])by simp,SG.Jj _ _ _ (by simp) (by simp),SG.Jj _ _ _ d (by simp),<-k.t];rfl
def rA{x y}(h:x.length+y.length<=1000000):Ua (.str x) (.str y)=.ok (.str<|x++y):=Ð h
def WQ(n):∃ws x,iG [BK,.int n]=.ok (.str<|SG.J " " ws)/\Itm ws x:=by
 obtain⟨a,f,o⟩:=Ou n;obtain⟨b,g,l⟩:=Ou<|n/168;have la:=(vP f.o).1.2.1;have p:=(vP g.o).1.2.1;have st:∀R,aw (aN 2<|cQ "Book" ba É ak) (aw (aN 3<|eJ Ø<|Ì oMod Ï<|ç eT<|aa Ø ak)<|aw (aN 4<|Ì oMod (Ì oDiv Ï<|eI 14)<|eI 12) R) [.v BK,.v<|.int n,.o,.o,.o,.o,.o]=R [.v BK,.v<|.int n,.v NW,.v<|.str a,.v<|.int<|n/14%12,.o,.o]:=λR=>(aL<|Aj M M M rC).trans<|(aL<|aU M (aU (x:=.int n) (y:=.int 15) M M M) o).trans<|aL<|aU (aU (x:=.int n) M M M) M M;have u:=Int.emod_nonneg (n/14) (b:=12) (by decide);have s:=Int.emod_lt_of_pos (n/14) (b:=12) (by decide);generalize n/14%12=c at *;by_cases i:c<6;.exact⟨[a],Ľ a,by rw[SG.Xg];exact ê fin<|(st _).trans<|(ž<|ê Res.ok<|Ϡ i).trans<|za M,.inl ⟨a,f,M,M⟩,EE f,by simp,by simp,λw hw=>by rw[Ň.mp hw];exact(vP f.o).1⟩
 .obtain⟨h,m,t,k,j⟩:=EO (c:=c-6) (by omega);have q:=k.l.2.2;have d:∀z:Str,z.length<=30->Ą (.l [.str " )",.str<|" "++b++" )"]) (.int<|n/2352%2)=.ok (.str z)->iG [BK,.int n]=.ok (.str<|m++a++z):=λz r e=>ê fin (a₁:=kD [.v BK,.v<|.int n,.o,.o,.o,.o,.o]) (a₂:=.r _) ((st _).trans<|(ĭ<|ê Res.ok<|Ũ i).trans<|jS.trans<|(aL<|aU M (aU (aU (x:=.int n) M M M) (y:=.int 15) M M) l).trans<|(aL<|aU (x:=.l<|HT.map .str) M (aU (x:=.int c) M M M) j).trans<|fN<|aU (aU M M<|rA<|by omega) (aU (Xy (xs:=[.str " )",.str<|" "++b++" )"]) (bR M<|bR (aU (aU M M<|rA (by have:(" ":Str).length=1:=rfl;omega)) M<|rA (by rw[iy];have:(" ":Str).length=1:=rfl;have:(" )":Str).length=2:=rfl;omega)) M)<|Qq M) (aU (aU (x:=.int n) M M M) M M) e)<|rA<|by rw[iy];omega);have:n/2352%2=0\/n/2352%2=1:=by omega
  rcases this with z|z<;>rw[z]at d;.refine⟨br h [a],_,(d _ (by decide+kernel) M).trans ?_,Pz k (by simp) (by simp)<|by simpa using f⟩;rw[Qz k (by simp),SG.Xg,vk]
  .refine⟨br h [a,b],_,(d _ (by rw[iy,iy];have:(" ":Str).length=1:=rfl;have:(" )":Str).length=2:=rfl;omega) M).trans ?_,Pz k (by simp) (by simp)<|by simpa using⟨f,g⟩⟩;rw[Qz k (by simp),show SG.J " " [a,b]=SG.J " " ([a]++[b])from rfl,SG.Jj _ _ _ (by simp) (by simp),SG.Xg,SG.Xg];simp only[vk]
theorem OG(A:Ws):∀cs:List Int,∃È:List (List Str×W),È.length=cs.length/\(∀p∈È,Itm p.1 p.2)/\bJ (ax 0) gD (av iG<|aa Ï<|aa (Ì oMod (Ì rz É<|eI 69621)<|eI 2147483629) ak) (.o::.v BK::A) (cs.map .int)=.ok (È.map λp=>.str<|SG.J " " p.1)|[]=>⟨[],M,(λ_ z=>nomatch z),M⟩|c::cs=>by obtain⟨È,b,f,d⟩:=OG A cs;obtain⟨ws,x,e,h⟩:=WQ<|c*69621%2147483629;exact⟨(ws,x)::È,ê (.+1) b,λp a=>by rcases Ę.mp a with rfl|a;exact h;exact f p a,SK (eA (bR M<|bR (aU (aU (x:=.int c) (y:=.int 69621) M M<|WR c (by decide)<|by decide) M M) M) e) d⟩
theorem VE:∀{È:List (List Str×W)},(∀p∈È,Itm p.1 p.2)->(È.map (·.1)).flatten.length<=6*È.length|[],_=>í _|p::È,h=>by have:=VE λq a=>h q<|Ħ _ a;have:=(h p ę).l;simp at *;omega
def MN{w r}(h:1<=w.length):(SG.J " " (w::r)).length≠0:=by
 rw[SG.Ug];have:=by simpa[Str.length]using h
 show(SG.jn _ _).toArray.size≠0;cases r<;>simp[SG.jn]<;>(intro z;simp[z]at this)
def Q5{È:List (List Str×W)}(h:∀p∈È,Itm p.1 p.2)(j:È.length<=3):aS [BK,.str<|SG.J " "<|È.map λp=>SG.J " " p.1]=.ok (.l<|È.map (·.2)):=by
 have i:=VE h;have r:=MD (λp a=>(h p a).r) (by omega) (by omega);have e:SG.J " " (È.map λp=>SG.J " " p.1)=SG.J " " (È.map (·.1)).flatten:=by rw[<-MB " " (È.map (·.1)) λx b=>by obtain⟨p,a,rfl⟩:=Ł.mp b;exact(h p a).ne,Xd];rfl
 have hw:∀w∈(È.map (·.1)).flatten,Wd w:=λw hw=>by obtain⟨x,b,hw⟩:=List.mem_flatten.mp hw;obtain⟨p,a,rfl⟩:=Ł.mp b;exact(h p a).w w hw
 rw[e];have b:=My (x:=" ") 10 18 (λw d=>(hw w d).2.1) (by omega:(È.map (·.1)).flatten.length<=18);have f:ϓ (tS Ï) (ov "str" gq Ï<|aa (eS " ") ak) (lb ak) [.v BK,.v<|.str<|SG.J " " (È.map (·.1)).flatten,.o]=.ok (.l<|(È.map (·.1)).flatten.map .str):=by
  by_cases c:(È.map (·.1)).flatten=[];.rw[c];rfl
  .have g:=vH c hw;have a:(SG.J " " (È.map (·.1)).flatten).length≠0:=by obtain⟨w,r,e⟩:=Em c;rw[e];exact MN (hw w<|by rw[e];exact ę).2.2
   have z:(" ":Str).length=1:=rfl;have t:tS Ï [.v BK,.v<|.str<|SG.J " " (È.map (·.1)).flatten,.o]=.ok U:=by show(if _<=lim then Res.ok !_==0 else .b)=_;rw[Ð (by unfold lim;omega),ϖ.mpr a];rfl
   refine EB t<|Bj M M M ?_;rw[G1 (by rw[WB];simp) QL (by omega),g]
 generalize SG.J " " (È.map (·.1)).flatten=X at *;exact ê fin (a₁:=fO [.v BK,.v<|.str X,.o]) (a₂:=.r _) ((ĭ<|by kernel_rfl).trans<|jS.trans<|(aL f).trans<|fN<|eA (bR (Aj M M M rC) M) r)
def KR{cs:List Int}(g:cs.length<=3):∃t È,kd [BK,.l<|cs.map .int]=.ok (.str t)/\aS [BK,.str t]=.ok (.l È)/\Gd (aA 4) È 0:=by obtain⟨È,f,b,d⟩:=OG [.v<|.l<|cs.map .int] cs;refine⟨_,È.map (·.2),ê fin (a₁:=gG [.v BK,.v<|.l<|cs.map .int]) (a₂:=.r _) (fN<|Bj M M (bR (Zt M (by simp;omega) d) M) ?_),Q5 b (by omega),Zs (c:=0) λx e=>by obtain⟨p,a,rfl⟩:=Ł.mp e;exact(b p a).i⟩;have:=PX (x:=" ") (ws:=È.map λp=>SG.J " " p.1) 100 3 λw hw=>by obtain⟨p,a,rfl⟩:=Ł.mp hw;have:=My (x:=" ") 10 6 (λw hw=>((b p a).w w hw).2.1) (b p a).l;have z:(" ":Str).length=1:=rfl;omega (by simp;omega) (by have z:(" ":Str).length=1:=rfl;omega);rw[Xd]at this;exact this
def CO{x}(h:Ref x):cF "FloorError" x=U:=by rcases h with⟨d,-,rfl|rfl⟩|⟨i,j,-,-,rfl⟩|rfl<;>kernel_rfl
def K1:F no i9 [Sd] Sd:=λws hw=>by obtain⟨_,rfl,⟨p,h,rfl⟩⟩:=a1 hw;exact⟨(-p.2.1,p.1,(p.2.2+1)%4),by unfold Ϫ;simp;omega,M⟩
def KO{v}(h:Fo v):Tp (.=8) Sd v:=by obtain⟨f,F,rfl⟩:=h;exact⟨_,M,by rw[Į];exact F.len,λx a=>by obtain⟨p,b,rfl⟩:=Ł.mp a;exact⟨p,F.fac p b,M⟩⟩
def L1{q}:F no yF [Fo,(.=.int q)] Fo:=Ş (ţ (Ab<|Þ M)<|ţ (Cf (Rk (n:=(q%4).toNat) (by omega)<|Ĥ (Þ M) Ķ λx y e b=>by subst e b;exact⟨_,M,by rw[Int.toNat_of_nonneg (by omega)]⟩) Sk<|Yo (Ab (A:=Fo) (Gb (ï (Ű (Eb (Qk<|Ű (Þ M) λv=>KO) λn h=>by subst h;decide (ű (ï (Þ M) Č) K1)) λv=>Yu) Č) λws hw=>by obtain⟨_,rfl,⟨f,c,a,rfl⟩⟩:=a1 hw;exact⟨_,M,f,⟨c,a⟩,M⟩))<|lv<|lv<|lv<|la l0)<|Ņ<|Þ M)
def NO{b d h Z a}(e:b Z=.n a):Ge b d h Z=.n a:=by simp_all
def RC{b d h Z x a f}(e:b Z=.x x a)(c:cF d x=U)(k:h a=.n f):Ge b d h Z=.n f:=by simp_all
def EU(S)(c){F}(i:Fo F)(o):∃d o',Fo d/\eZ [.v BK,.v S,.v F,.v<|.int c,o]=.n [.v BK,.v S,.v d,.v<|.int c,o']:=by
 obtain⟨a,m,n⟩:=Ou c;obtain⟨w,hw,rfl⟩:=Ł.mp m.i;obtain⟨cl,p,s⟩:=YC hw;have nm(l):cQ "Book" ba É ak (.v BK::l)=.ok NW:=Aj M M M rC;have e:∀r,dW [F,Ŏ cl,.n]=r->bc (λws=>dW<|ws++[.n]) (aa Ø<|aa (cQ "Book" bg É<|aa (eJ (cQ "Book" ba É ak)<|Ì oMod Ý<|ç eT<|aa (cQ "Book" ba É ak) ak) ak) ak) [.v BK,.v S,.v F,.v<|.int c,.v .n]=r:=λr h=>qE (bR M<|bR (Aj M M (bR (aU (nm _) (aU (x:=.int c) (y:=.int 15) M (Mn (bR (nm _) M) M) M) n) M) p) M) h;rcases(yN s [F,Ŏ cl,.n] ⟨i,M,.inl rfl,trivial⟩).cs with⟨v,q,g⟩|⟨x,ex,k⟩
 .have j:o7 v=O:=by obtain⟨f,_,rfl⟩:=g;rfl
  exact⟨v,.v v,g,(aL M).trans<|(vA<|NO<|y8<|e _ q).trans<|(Bc<|mh<|aU M M<|ê (λb=>Res.ok<|W.B !b) j).trans<|y8 M⟩
 .exact⟨F,.v .n,i,(aL M).trans<|(vA<|RC (Qj<|e _ ex) (CO k)<|y8 M).trans<|Ke M⟩
theorem NH(S):∀(cs:List Int)F a b,Fo F->∃f e d,Fo f/\forL (ax 3) eZ (cs.map .int) [.v BK,.v S,.v F,a,b]=.n [.v BK,.v S,.v f,e,d]|[],F,a,b,h=>⟨F,a,b,h,M⟩|c::cs,F,a,b,h=>by obtain⟨o,p,k,l⟩:=EU S c h _;obtain⟨j,i,m,n,g⟩:=NH S _ _ _ p k;exact⟨j,i,m,n,dj M l g⟩
def QF(ns:List Int)(k:Nat):∃c,cj [.l<|ns.map .int,.int k]=.ok (.int c):=by
 by_cases h:k<ns.length
 .have a:k<ns.length:=by omega
  exact⟨ns.getD k 0,by simp[cj,eV,h,gT,a]⟩
 .exact⟨0,by simp[cj,eV,h]⟩
def yO(ns)(a b):cut (ns.map W.int) a b=(cut ns a b).map .int:=by unfold cut;rw[Į,List.map_take,List.map_drop]
def YE:Fo hG:=⟨[(-1,-3,0),(1,-3,0),(3,-1,1),(3,1,1),(1,3,2),(-1,3,2),(-3,1,3),(-3,-1,3)],⟨M,by unfold Ϫ;decide⟩,M⟩
def JV(ns:List Int):∃F,oo [BK,.l<|ns.map .int]=.ok F/\Fo F:=by
 obtain⟨c,a⟩:=QF ns 0;obtain⟨F,g,h,f,e⟩:=NH (.l<|ns.map .int) (cut ns (L 5)<|some 8) hG .o .o YE;rcases(L1 (q:=c%4) [F,.int<|c%4] ⟨f,M,trivial⟩).cs with⟨G,b,d⟩|⟨_,_,z⟩;.refine⟨G,ê fin (a₁:=jm _) (a₂:=.r _)<|(aL M).trans<|(Oz (PM (y9 M M M)<|ê Res.ok<|yO ns _ _) e).trans<|fN<|eA (bR M<|bR (aU (eA M a) M M) M) b,d⟩
 .exact z.elim
theorem GA{x zs}:∀ys j,bY x ys=U->∃k,idx x j ys=L k/\idx x j (ys++zs)=L k
|y::ys,j,h=>by
 simp  at h;rw[Kb,yA,yA];by_cases a:eqv y x=U;.exact⟨j,Ð a,Ð a⟩
 .rw[Õ a,Õ a];exact GA _ _<|h.resolve_left a|[],_,h=>by simp at h
def AN{α}(a)(x:α):cut (a++[x]) Y (L<|-1)=a:=by
 have:Ā (a++[x]).length (a++[x]).length (L<|-1)=a.length:=by unfold Ā;simp;omega
 unfold cut;rw[this];show List.take (a.length-0) (List.drop 0 _)=a;simp
def nT(a)(x):Ą (.l<|a++[x]) (.int<|-1)=.ok x:=by rw[fV,km];simp
def Vc{i e Z w}(h:e (î i Z)=.ok w)(p:plain w=U):uV i e Z=.ok w:=by unfold uV;rw[h];exact Ð p
def ED{v}(h:Fo v)(n):ě (n+2) v=U:=by obtain⟨f,_,rfl⟩:=h;exact ZR n f
def YF{n vs}(h:∀v∈vs,Fo v):hI (n+3) vs=U:=mC _ _ λv a=>ED (h v a) n
def Cz{b d i h c f Z a}(e:b Z=.n a):ng b d i h c f Z=.n a:=by unfold ng;rw[e]
def SA{b d i h g j Z a x f}(e:b Z=.x x a)(c:cF d x=U)(k:h (a.set i<|.v x)=.n f):ng b d i h g j Z=.n (f.set i .o):=by unfold ng;rw[e];show Kj _ _ _ _ _ _ _=_;unfold Kj;rw[Ð c];unfold n8;rw[Ð c,k]
def UA{b d i h g j Z a x f}(e:b Z=.x x a)(c:cF d x=O)(l:cF g x=U)(k:j a=.n f):ng b d i h g j Z=.n f:=by unfold ng;rw[e];show Kj _ _ _ _ _ _ _=_;unfold Kj;rw[Õ (by rw[c];exact ř)];unfold hOut;rw[Ð l,k]
def L5{n:Nat}(h:n<1000000):ic (.int n)=U:=by
 show decide _=U;simp;by_cases z:n=0;.rw[z];decide
 .rw[Il z];exact Ē h (by simp)
noncomputable abbrev brk(n:Nat)(y:W):W:=.e "Broken" [.int n,y]
noncomputable abbrev TM:W:=.e "TooMany" []
section
variable{È w F0:W}{m:Nat}
def FP{fs}(h:k7 [BK,w,È]=.ok fs):cO [BK,w,È,.int m]=.ok fs:=by show fin (lO _ 3 _)=_;unfold lO;rw[show bz _=.r _ from fN<|qE M h];rfl
def QB{n y}(h:k7 [BK,w,È]=.x (brk n y))(a:m+n<1000000):cO [BK,w,È,.int m]=.x (brk (m+n) y):=by show fin (lO bz 3 _)=_;unfold lO;rw[show bz _=.x (brk n y) _ from QA<|qE M h];show fin (if ic _=U then _ else _)=_;rw[Ð (by rw[<-Qp];exact L5 a)];rfl
def Gv(h:k7 [BK,w,È]=.x TM):cO [BK,w,È,.int m]=.x TM:=by show fin (lO _ 3 _)=_;unfold lO;rw[show bz _=.x _ _ from QA<|qE M h];rfl
abbrev LS(F0 È:W)(f:List W)(m:Nat)(a b c d e:Sl):Ws:=[.v BK,.v F0,.v È,.w f,.v<|.int m,a,b,c,d,e]
abbrev QS(F0 È:W)(e:List W)(m:Nat)(a b c d:Sl):Ws:=[.v BK,.v F0,.v È,.w e,.v<|.int m,a,b,c,d]
variable{pre:List W}{a b c d e:Sl}
def AQ{n y}(h:k7 [BK,w,È]=.x (brk n y))(f:plain w=U):bq (LS F0 È (pre++[w]) m a b c d e)=.r (.t [.str "broken",.int (m+n:Nat),y]):=by have l:=nT pre w;exact(aL M).trans ((aL M).trans<|(vA<|SA (Qj<|qE (bR M<|bR (Vc (aU M M l) f) M) h) (by kernel_rfl)<|y8<|Yv (x:=.str "broken") M (aU (x:=.int m) (y:=.int n) M M<|ê (λz=>Res.ok<|W.int z) (Qp m n).symm) M).trans<|(ž M).trans<|za M)
def DQ(h:k7 [BK,w,È]=.x TM)(f:plain w=U):bq (LS F0 È (pre++[w]) m a b c d e)=.r (.t [.str "many",.int 0,.n]):=by have l:=nT pre w;exact(aL M).trans ((aL M).trans<|(vA<|UA (Qj<|qE (bR M<|bR (Vc (aU M M l) f) M) h) (rfl) (rfl)<|y8 M).trans<|(ž M).trans<|za M)
def tM{x}(h:cO [BK,w,È,.int m]=.x x)(f:plain w=U):aE (QS F0 È (pre++[w]) m a b c d)=.x x (QS F0 È (pre++[w]) m a b c d):=by have l:=nT pre w;exact Az<|qE (bR M<|bR (Vc (aU M M l) f) M) h
end
def TY(w)(fs):∃x∈w::fs,Ą (.l<|[w]++fs) (.int<|-1)=.ok x/\lZ [w,.l fs]=.ok x:=by cases fs with|nil=>exact⟨w,ę,M,M⟩|cons y fs=>
 have a:y::fs≠[]:=by simp
 refine⟨_,Ħ _<|List.getLast_mem a,?_,?_⟩;.show Ζ (ŏ (w::y::fs)<|-1)=_;rw[km,List.getLast?_cons_cons];rfl
 .exact ê fin (fN<|EB M<|aU M M<|by rw[fV,km,Sx a];rfl)
section
variable{È w F0 x:W}{m:Nat}{pre fs:List W}{a b c d e b' c' d':Sl}
def WU(h:k7 [BK,w,È]=.ok (.l fs))(hw:∀v∈pre++[w],Fo v)(J:∀v∈fs,Fo v)(Ä:(pre++[w]).length<=1000)(K:fs.length<=400):∃x,Fo x/\((∃k:Nat,bq (LS F0 È (pre++[w]) m a b c d e)=.r (.t [.str "round",.t [.int k,.int<|(pre++[w]).length-k],.n])/\aE (QS F0 È (pre++[w]) m a b' c' d')=.r (.t [.int k,.int<|(pre++[w]).length-k]))\/∃Â Å Q s S T Ã,bq (LS F0 È (pre++[w]) m a b c d e)=.n (LS F0 È (pre++[w]++[x]) (m+fs.length) a Â Å Q s)/\aE (QS F0 È (pre++[w]) m a b' c' d')=.n (QS F0 È (pre++[w]++[x]) (m+fs.length) a S T Ã)):=by
 obtain⟨x,q,s,X⟩:=TY w fs;have C:Fo w:=hw w (by simp);have j:Fo x:=by
  rcases Ę.mp q with rfl|q;.exact C
  .exact J x q
 have B:=mz C;have D:=mz j;have l:=nT pre w;generalize hA:pre++[w]=A at *;have t:=nT A x;have cl:=AN A x;have N:=FP (m:=m) h;have p:=ED j 48;have u:hI 51 A=U:=YF (n:=48) hw;have oB:hI 51 (A++[x])=U:=YF (n:=48) λv g=>by
  rcases ρ.mp g with g|g;.exact hw v g
  .rw[Ň.mp g];exact j
 have i:∀z,bY x A=z->ı x (.l A)=.ok (.B z):=λz f=>by show(if(ě 50 x&&hI 51 A)=U then Res.ok (W.B<|bY x A)else .b)=_;rw[p,u,f];rfl-- the law's rows
 have I:∀R,aw (ng jk "Broken" 8 ji "TooMany" jj) R (LS F0 È A m a (.v .n) (.v .n) d e)=R (LS F0 È A m a (.v<|.l fs) (.v .n) d e):=λR=>vA<|Cz<|y8<|qE (bR M<|bR (Vc (aU M M l) B) M) h;have Á:∀R,aw (zt 3<|uV 3<|eJ (Ì fK (lb<|aa (eJ Ý<|Đ fU Ù) ak) Ba)<|Đ fU Ù) R (LS F0 È A (m+fs.length) a (.v<|.l fs) (.v .n) d e)=R (LS F0 È (A++[x]) (m+fs.length) a (.v<|.l fs) (.v .n) d e):=λR=>vA (Yt M (by omega) (aU (aU (Xy (bR (aU M M l) M)<|Qq M) M<|RK<|by simp[lim];omega) M s) D);have E:Res.ok (W.int<|(m:Int)+(fs.length:Nat))=.ok (.int (m+fs.length:Nat)):=by rw[Qp]
 have st:∀R,R=bq (LS F0 È A m a b c d e)->R=Ü (zg 3<|tB<|Ì ı (eJ Ý<|Đ fU Ù)<|Ť Ý ο<|cS<|Đ fU Ù) (aw (aN 9<|uV 3<|ov "list" fL Ý<|aa (eJ Ý<|Đ fU Ù) ak)<|zr 3<|aP<|eB<|aa (eS "round")<|aa (eB<|aa Xe<|aa (Ì pZ (Ì pZ (ç eT<|aa Ý ak) Ù) Xe) ak)<|aa (eC .n) ak) à (LS F0 È (A++[x]) (m+fs.length) a (.v<|.l fs) (.v .n) d e):=λR o=>o.trans<|(aL M).trans<|(aL M).trans<|(I _).trans<|(ĭ M).trans<|jS.trans<|(aL<|aU (x:=.int m) (y:=.int fs.length) M M E).trans<|Á _;have st:=st _ M;have H:∀z,bY x A=z->zg 3 (tB<|Ì ı (eJ Ý<|Đ fU Ù)<|Ť Ý ο<|cS<|Đ fU Ù) (LS F0 È (A++[x]) (m+fs.length) a (.v<|.l fs) (.v .n) d e)=.ok z:=λz f=>by have k:=y9 (e:=dA 3) (lo:=ο) (hi:=cS<|Đ fU Ù) (Z:=[.v BK,.v F0,.v È,.v<|.l<|A++[x],.v<|.int (m+fs.length:Nat),a,.v<|.l fs,.v .n,d,e]) (l:=Y) (r:=L<|-1) M M M;rw[cl]at k;exact v_bor<|mh<|aU (aU M M t) k<|i z f
 have rt:∀R,R=aE (QS F0 È A m a b' c' d')->R=aw (Ü (zg 3<|tB<|Ì ı Φ Ý) (aw (aN 8<|uV 3<|ov "list" fL Ý<|aa Φ ak)<|zr 3<|aP<|eB<|aa Aa<|aa (Ì pZ (ç eT<|aa Ý ak) Aa) ak) à) (zt 3 Φ) (QS F0 È A (m+fs.length) a (.v<|.l fs) (.v x) d'):=λR o=>o.trans<|(aL<|qE (bR M<|bR (Vc (aU M M l) B) M) N).trans<|(aL<|aU (x:=.int m) (y:=.int fs.length) M M E).trans<|aL<|Vc (eA (bR (aU M M l) M) X) D;have rt:=rt _ M;have G:∀z,bY x A=z->zg 3 (tB<|Ì ı Φ Ý) (QS F0 È A (m+fs.length) a (.v<|.l fs) (.v x) d')=.ok z:=λz f=>v_bor<|mh<|aU M M<|i z f
 refine⟨x,j,?_⟩;cases f:bY x A with|true=>
  obtain⟨k,i1,i2⟩:=GA (zs:=[x]) A 0 f;have P:fL (.l A) [x]=.ok (.int k):=by rw[kS,p,u,Zl,Zl,Ð (Ϡ<|ñ Ä<|by decide),i1]
  have m2:fL (.l<|A++[x]) [x]=.ok (.int k):=by rw[kS,p,oB,Zl,Zl,Ð (Ϡ<|ñ (show(A++[x]).length<=1001 by simp;omega)<|by decide),i2]
  refine .inl ⟨k,?_,?_⟩;.rw[st];refine(Bc<|H _ f).trans ((aL<|Vc (Bj M M (bR (aU M M t) M) m2) M).trans<|Qn<|fN<|Yv M (Xv (x:=.int k) M ?_) M);exact aU (aU (Mn (bR M M) M) M M) (y:=.int k) M (ê (λz=>Res.ok<|W.int z)<|by simp)
  .rw[rt];exact(ž<|G _ f).trans (LO.trans<|(aL<|Vc (Bj M M M P) M).trans<|RA<|Qn<|fN<|Xv (x:=.int k) M<|aU (y:=.int k) (Mn (bR M M) M) M M)|false=>exact .inr ⟨_,_,_,_,_,_,_,st.trans<|Ke<|H _ f,rt.trans<|(ĭ<|G _ f).trans<|jS.trans<|Vu M (by omega) M⟩
end
inductive Oc where|rnd(k n:Int)|brk(q:Nat)(y:W)(h:Ref y)|many
noncomputable def Oc.Gp:Oc->W|.rnd k n=>.t [.str "round",.t [.int k,.int n],.n]|.brk q y _=>.t [.str "broken",.int q,y]|.many=>.t [.str "many",.int 0,.n]
def Oc.res:Oc->Res W|.rnd k n=>.ok<|.t [.int k,.int n]|.brk q y _=>.x<|Ć.brk q y|.many=>.x TM
section
variable{È:List W}{F0:W}
theorem rounds(s:Gd (aA 4) È 0):∀xs pre w m a b c d e b' c' d',(∀v∈pre++[w],Fo v)->(pre++[w]).length+xs.length<=100->m+400*xs.length<=100000->(∃z:Oc,forL (ax 5) bq xs (LS F0 (.l È) (pre++[w]) m a b c d e)=.r z.Gp/\fin (forL (ax 5) aE xs<|QS F0 (.l È) (pre++[w]) m a b' c' d')=z.res/\∀Z,forL (ax 5) aE xs (QS F0 (.l È) (pre++[w]) m a b' c' d')≠.n Z)\/∃Z l,forL (ax 5) bq xs (LS F0 (.l È) (pre++[w]) m a b c d e)=.n Z/\forL (ax 5) aE xs (QS F0 (.l È) (pre++[w]) m a b' c' d')=.n l
|[],pre,w,m,a,b,c,d,e,b',c',d',_,_,_=>.inr ⟨_,_,M,M⟩|x::xs,pre,w,m,a,b,c,d,e,b',c',d',hw,hl,hm=>by
  have t:Fo w:=hw w (by simp);have h:=mz t;simp only[Ĩ]at hl hm;rcases(JB s ⟨t,False.elim⟩).cs with⟨v,N,fs,rfl,-,j,B⟩|⟨y,f,⟨n,z,P,⟨D,-⟩,rfl⟩|rfl⟩
  .obtain⟨u,G,⟨k,p,r⟩|⟨K,C,H,Ã,I,J,E,p,r⟩⟩:=WU (F0:=F0) (m:=m) (a:=.v x) (b:=b) (c:=c) (d:=d) (e:=e) (b':=b') (c':=c') (d':=d') N hw B (by omega) j;.have A:=dk (g:=ax 5) (x:=x) (xs:=xs) (Z:=QS F0 (.l È) (pre++[w]) m a b' c' d') M r λ_=>rfl;exact .inl ⟨.rnd _ _,dk M p λ_=>rfl,ê fin A,λZ q=>nomatch A.symm.trans q⟩
   .have Å:=rounds s xs (pre++[w]) u (m+fs.length) (.v x) K C H Ã I J E (λv i=>by
     rcases ρ.mp i with i|i;.exact hw v i
     .rw[Ň.mp i];exact G) (by simp at hl⊢;omega) (by omega);rw[dj (g:=ax 5) (b:=bq) (x:=x) (xs:=xs) (Z:=LS F0 (.l È) (pre++[w]) m a b c d e) M p M,dj (g:=ax 5) (b:=aE) (x:=x) (xs:=xs) (Z:=QS F0 (.l È) (pre++[w]) m a b' c' d') M r M];exact Å
  .exact .inl ⟨.brk (m+n) z D,dk M (AQ f h) λ_=>rfl,ê fin (dk (o:=.x (Ć.brk (m+n) z) _) M (tM (QB f<|by omega) h) λ_=>rfl),λZ q=>nomatch(dk (o:=.x (Ć.brk (m+n) z) _) M (tM (QB f<|by omega) h) λ_=>rfl).symm.trans q⟩
  .exact .inl ⟨.many,dk M (DQ f h) λ_=>rfl,ê fin (dk (o:=.x TM _) M (tM (Gv f) h) λ_=>rfl),λZ q=>nomatch(dk (o:=.x TM _) M (tM (Gv f) h) λ_=>rfl).symm.trans q⟩
def FN(f:Gd (aA 4) È 0)(k:Fo F0):∃z:Oc,oq [BK,F0,.l È]=.ok z.Gp/\aT [BK,F0,.l È]=z.res:=by
 have j:oq [BK,F0,.l È]=fin (ϴ (forL (ax 5) bq (û 0 60)<|LS F0 (.l È) ([]++[F0]) 0 .o .o .o .o .o) _):=ê fin<|(Wc M).trans<|aL M;have i:aT [BK,F0,.l È]=fin (ϴ (forL (ax 5) aE (û 0 60)<|QS F0 (.l È) ([]++[F0]) 0 .o .o .o .o) _):=ê fin<|(Wc M).trans<|aL M;rw[j,i];rcases rounds (F0:=F0) f (û 0 60) [] F0 0 .o .o .o .o .o .o .o .o (λv g=>by rw[Ň.mp (show v∈[F0]from g)];exact k) (show 1+60<=100 by decide) (show 0+400*60<=100000 by decide)with⟨z,b,a,h⟩|⟨c,d,b,a⟩;.rw[b];refine⟨z,M,?_⟩;cases e:forL (ax 5) aE (û 0 60) (QS F0 (.l È) ([]++[F0]) 0 .o .o .o .o)with|n c=>exact absurd e<|h c|_=>rw[e]at a;exact a
 .rw[b,a];exact⟨.many,M,M⟩
end
def Zw:List W->Res W|[b,F,i]=>gO b F i|ws=>k7 ws
def KQ:k7=Zw:=funext λws=>by
 unfold Zw;split;.exact SD
 .rfl
def Fp:{l:SF // aE=l}:=⟨_,by unfold aE cO hY bz;rw[KQ]⟩
def Vw{r a F}(h:fin (ϴ (forL (ax 5) Fp.1 (û 0 60) [.v BK,.v F,.v a,.w [F],.v<|.int 0,.o,.o,.o,.o])<|gJ "TooMany"<|aa (Jc<|eC fv) ak)=r):aT [BK,F,a]=r:=by rw[<-Fp.2]at h;exact(ê fin<|(Wc M).trans<|aL M).trans h
abbrev CA:W:=Ŏ [⟨[],L [.turn .about]⟩]
def AL:∀i,i<4->bD [Cb i,CA,dg,.B O]=.ok (Cb<|(i+2)%4):=by intro i a;rcases i with _|_|_|_|i<;>first|omega|kernel_rfl
def VB:bg [BK,.str "about"]=.ok CA:=OF ("about",[⟨[],L [.turn .about]⟩]) ę
def YJ:Nm True BK "about":=⟨M,_,VB,λw v b hw a=>by obtain⟨i,e,rfl⟩:=hw.2 trivial;obtain⟨rfl,rfl⟩:=a.2 trivial;have:=je (c:=[⟨[],L [.turn .about]⟩]) (λr d=>PD<|by rw[Ň.mp d];rfl) (b:=O) [Cb i,CA,dg,.B O] ⟨hw.1,M,⟨List.range 8,M⟩,M,trivial⟩;rw[AL i e]at this⊢;exact⟨this,λ_=>⟨_,by omega,M⟩⟩⟩
def one{f c x}(h:Item True BK f c x):Good True BK (runM 6<|gH f) [x] c:=by
 have:=Zs (l:=[x]) λy a=>by rw[Ň.mp a];exact h
 simpa using this
noncomputable abbrev Qw(m È:W):W:=.t [.str "times",m,È]
abbrev I4:W:=.l [Qw (.int 60)<|.l [Qw (.int 7)<|.l [Ľ "about"]]]
def r2:k7 [BK,Cb 0,I4]=.x TM:=by
 have h:=one (f:=aA 3) (.inr ⟨_,_,one (.inr ⟨_,_,one (f:=aA 1)<|.inl ⟨_,YJ,í _,M⟩,.inl ⟨7,by decide,í _,M⟩⟩),.inl ⟨60,by decide,í _,M⟩⟩);rcases(JB h ⟨YE,λ_=>⟨0,by decide,M⟩⟩).cs with⟨v,e,fs,rfl,b,c,_⟩|⟨x,e,⟨n,y,_,a,rfl⟩|rfl⟩;.omega
 .exact absurd trivial a.2
 .exact e
def r3:aT [BK,Cb 0,I4]=.x TM:=by have a:aT [BK,Cb 0,I4]=fin (ϴ (forL (ax 5) aE (û 0 60)<|QS (Cb 0) I4 ([]++[Cb 0]) 0 .o .o .o .o) _):=ê fin<|(Wc M).trans<|aL M;rw[a,IB 0 59,dk M (tM (Gv r2) M) λ_=>rfl];rfl
noncomputable def wk(y:Int)(k:Nat):W:=.t<|[.t [.int<|-1,.int<|y-2*k,.int 2]]++[.t [.int 1,.int<|-3-2*k,.int 2],.t [.int<|3+2*k,.int<|-1,.int 3],.t [.int<|3+2*k,.int 1,.int 3],.t [.int 1,.int<|3+2*k,.int 0],.t [.int<|-1,.int<|3+2*k,.int 0],.t [.int<|-3-2*k,.int 1,.int 1],.t [.int<|-3-2*k,.int<|-1,.int 1]]
def Ka(y:Int):W:=wk y 0
abbrev IW:W:=.l [Ľ "walk"]
def SG(y:Int)(k:Nat):Ws:=[.v BK,.v<|wk y 0,.v IW,.w<|(List.range<|k+1).map<|wk y,.v<|.int k,if k=0 then .o else .v (.int<|k-1),if k=0 then .o else .v (.l [wk y k]),if k=0 then .o else .v (wk y k),.o]
def fo(xs)(y)(k):=fin<|ϴ (forL (ax 5) Fp.1 xs<|SG y k)<|gJ "TooMany"<|aa (Jc<|eC fv) ak
def Xo{y r}(h:∀ys,fo (û 0 20++ys) y 0=fo ys y 20)(b:∀ys,fo (û 20 20++ys) y 20=fo ys y 40)(a:fo (û 40 20) y 40=r):aT [BK,wk y 0,IW]=r:=Vw<|(h _).trans<|(b _).trans a
def DO:dW [hG,CA,.n]=.ok (Ka<|-3):=by kernel_rfl
def JP:aT [BK,hG,.l [Ľ "prom"]]=.ok (.t [.int 0,.int 4]):=Vw (by kernel_rfl)
def GL ys:fo (û 0 20++ys) (-3) 0=fo ys (-3) 20:=by kernel_rfl
def JL ys:fo (û 20 20++ys) (-3) 20=fo ys (-3) 40:=by kernel_rfl
def NL:fo (û 40 20) (-3) 40=.x TM:=by kernel_rfl
def TL:aT [BK,Ka<|-3,IW]=.x TM:=Xo GL JL NL
def HL ys:fo (û 0 20++ys) (-80) 0=fo ys (-80) 20:=by kernel_rfl
def KL ys:fo (û 20 20++ys) (-80) 20=fo ys (-80) 40:=by kernel_rfl
def OL:fo (û 40 20) (-80) 40=.x TM:=by kernel_rfl
def UL:aT [BK,Ka<|-80,IW]=.x TM:=Xo HL KL OL
def IL ys:fo (û 0 20++ys) (-82) 0=fo ys (-82) 20:=by kernel_rfl
def LL ys:fo (û 20 20++ys) (-82) 20=fo ys (-82) 40:=by kernel_rfl
def PL:fo (û 40 20) (-82) 40=.x (brk 59<|.e "Out" [.int 0]):=by kernel_rfl
def VL:aT [BK,Ka<|-82,IW]=.x (brk 59<|.e "Out" [.int 0]):=Xo IL LL PL
def HJ:aS [BK,.str "60 times ( 7 times ( about ) )"]=.ok I4:=by kernel_rfl
def Cp:aS [BK,.str "walk"]=.ok IW:=by kernel_rfl
def GJ:aS [BK,.str "prom"]=.ok (.l [Ľ "prom"]):=by kernel_rfl
def DB{e Z x}(h:e Z=.x x):Rj e Z=.x x Z:=by simp_all
def Vt{F È t}(a:aS [BK,.str t]=.ok È)(b:aT [BK,F,È]=.x TM):cy [BK,F,.str t]=.ok (.B U):=ê fin ((aL M).trans<|(vA<|RC (DB<|qE (bR M<|bR M<|bR (eA M a) M) b) (by kernel_rfl)<|y8 M).trans<|fN M)
def MO{b d i h Z x a f}(e:b Z=.x x a)(c:cF d x=U)(k:h (a.set i<|.v x)=.n f):tF b d i h Z=.n (f.set i .o):=by simp_all
def BM:g8 [BK,Ka<|-82]=.ok (.B U):=ê fin (a₁:=eF _) (a₂:=.r _) ((aL M).trans<|(aL M).trans<|(vA<|MO (DB<|qE (bR M<|bR M<|bR (eA M Cp) M) VL) (by kernel_rfl)<|(aL M).trans<|y8 M).trans<|M)
def FT:ql [BK]=.ok (.B U):=by have a:cy [BK,hG,.str "60 times ( 7 times ( about ) )"]=.ok (.B U):=Vt HJ r3;have a1:=Vt (F:=Ka<|-3) Cp TL;have a2:=Vt (F:=Ka<|-80) Cp UL;have c:∀r,dW [hG,CA,.n]=r->bc (λws=>dW<|ws++[.n]) (aa (eC hG)<|aa (cQ "Book" bg É<|aa (eS "about") ak) ak) [.v BK,.o]=r:=λr h=>qE (bR M<|bR (Aj M M M VB) M) h;refine ê fin (a₁:=iB [.v BK,.o]) (a₂:=.r<|.B U) ?_;unfold iB;refine(aL<|c _ DO).trans ?_;show aw _ _ [.v BK,.v<|Ka<|-3]=_;refine(ĭ<|JU (x:=O) (y:=O) (Cj<|mh<|eA M a)<|Cj<|mh<|eA M a1).trans (jS.trans ?_);refine(ĭ<|Cj (b:=U)<|mh<|eA (bR M<|bR (show _=Res.ok (Ka<|-80)by kernel_rfl) M) a2).trans (jS.trans ?_);refine(ĭ<|Cj (b:=U)<|mh<|eA (bR M<|bR (show _=Res.ok (Ka<|-82)by kernel_rfl) M) BM).trans (jS.trans ?_);exact fN (aU (qE (bR M<|bR M<|bR (eA M GJ) M) JP) M<|by kernel_rfl)
def VP{y}(h:Ref y):∃k,gA [y]=.ok k/\oEq k k=.ok (.B U):=by
 rcases h with⟨d,-,rfl|rfl⟩|⟨i,j,-,-,rfl⟩|rfl;.exact⟨.l [.B U,.B O,.B O,.B O,.int d],by kernel_rfl,by simp[oEq,tD,eqv]⟩
 .exact⟨.l [.B O,.B U,.B O,.B O,.int d],by kernel_rfl,by simp[oEq,tD,eqv]⟩
 .exact⟨.l [.B O,.B O,.B U,.B O,.int i,.int j],by kernel_rfl,by simp[oEq,tD,eqv]⟩
 .exact⟨.l [.B O,.B O,.B O,.B U],by kernel_rfl,by kernel_rfl⟩
section
variable{S È F:W}
abbrev AS(S È F:W)(z:Oc)(a b c d e:Sl):Ws:=[.v S,.v BK,.v È,.v F,.v z.Gp,a,b,c,d,e]
abbrev WJ:SF:=aw (ng vE "Broken" 9 vC "TooMany" vD)<|aw (Ü (tB<|eQ (eJ õ æ)<|eS "broken") (aP<|mn (Ì ϐ Ŋ<|eC .n)<|mn (ϣ Aa)<|mn (eQ Ba<|eJ õ Ù)<|eQ (av gA<|aa Φ ak)<|av gA<|aa (eJ õ ċ) ak) à)<|aw (Ü (tB<|eQ (eJ õ æ)<|eS "many") (aP<|mn (Ì ϐ Ŋ<|eC .n) Aa) à)<|aP<|mn (ç bQ<|aa Ŋ<|aa (eC<|.ty "tuple") ak)<|mn (eQ Ŋ<|eJ õ Ù)<|ϣ<|ç bQ<|aa (eJ Ŋ æ)<|aa (eC<|.ty "bool") ak
def FV{z}(h:aT [BK,F,È]=z.res):WJ (AS S È F z (.v .n) (.v .n) (.v .n) (.v<|.B O) .o)=.r (.B U):=by cases z with|rnd k n=>refine(vA<|Cz<|y8<|qE M h).trans ((ĭ<|by kernel_rfl).trans<|jS.trans<|(ĭ<|by kernel_rfl).trans<|jS.trans<|fN<|Je (a:=U) (b:=U) M<|Je (a:=U) (b:=U) (aU M M ?_) M);simp[oEq,tD]|brk q y hy=>obtain⟨k,c,d⟩:=VP hy;exact(vA<|SA (Qj<|qE M h) (by kernel_rfl)<|(aL (v:=.int q) M).trans<|y8 (v:=y) M).trans ((ž<|by kernel_rfl).trans<|za<|Je (a:=U) (b:=U) M<|Je (a:=U) (b:=U) M<|Je (a:=U) (b:=U) (aU (x:=.int q) (y:=.int q) M M<|by simp)<|aU (eA M c) (eA (bR (x:=y) M M) c) d)|many=>exact(vA<|UA (Qj<|qE M h) (by kernel_rfl) (by kernel_rfl)<|y8 M).trans ((ĭ<|by kernel_rfl).trans<|jS.trans<|(ž<|by kernel_rfl).trans<|za M)
end
def XM(ns:List Int):(cut ns (L 2)<|some 5).length<=3:=by unfold cut Ā;simp;omega
def VY:∀ns:List Int,ns.length<=63->Hu [.l<|ns.map .int]=.ok (.B U):=λns _=>by
 obtain⟨c,n⟩:=QF ns 1;obtain⟨t,i,f,d,m⟩:=KR<|XM ns;obtain⟨F,g,o⟩:=JV ns;obtain⟨z,h,j⟩:=FN m o;have bk(Z):uU "Book" yG (aa (av jC ak) ak) Z=.ok BK:=VU;have a(Z):tB (eQ (Ì oMod (av cj<|aa É<|aa Ù ak)<|eI 8)<|eI 3) (.v (.l<|ns.map .int)::Z)=.ok (decide (c%8=3)):=mh<|aU (aU (eA M n) M M) M M;refine(ê fin<|aL<|bk _).trans ?_;by_cases b:c%8=3;.exact ê fin ((ž<|(a _).trans<|ê Res.ok<|Ϡ b).trans<|za<|qE M FT)
 .have k:=y9 (e:=dA 0) (lo:=cS ċ) (hi:=cS<|eI 5) (Z:=[.v<|.l<|ns.map .int,.v BK,.o,.o,.o,.o,.o,.o,.o,.o]) (l:=L 2) (r:=L 5) M M M;rw[yO]at k;refine ê fin (a₂:=.r<|.B U) ?_;exact(ĭ<|(a _).trans<|ê Res.ok<|Ũ b).trans (jS.trans<|(aL<|eA (bR M<|bR (eA (bR M<|bR k M) f) M) d).trans<|(aL<|eA M g).trans<|(aL<|eA M h).trans<|(aL M).trans<|(aL M).trans<|(aL M).trans<|(aL M).trans<|FV j)
end Ć
namespace PySem.W.Fast
def tw14740173605170823198:=0
def tw15759750092180029688:=0
def tw1854831682836963833:=0
def tw17736339230742083705:=0
def tw5339149026437319208:=0
def tw14783834493364384186:=0
def tw6519405123338522845:=0
def tw17676711344706730662:=0
def tw5903414045118245314:=0
def tw16051690782140467932:=0
def tw14631467309169407173:=0
def tw627076309651576373:=0
def tw12987112328886189876:=0
def tw15705121428070162301:=0
def tw5056775254171482226:=0
def tw8707798006138183241:=0
def tw5578145665333092609:=0
def tw3475780434451303739:=0
def tw17642124241847774302:=0
def tw13544308532743612350:=0
def tw7191270618536713229:=0
def tw7658739400879008583:=0
def tw11582472192263279191:=0
def tw8011320298219302581:=0
def tw10646083494004768112:=0
def tw17781117320625540619:=0
def tw17309919351256618220:=0
def tw6499327897849478993:=0
def tw11383278008799557320:=0
def tw16862022252997148813:=0
def tw15377939333856134593:=0
def tw11719895938571700961:=0
def tw12732853050114251352:=0
def tw3238767652174748385:=0
def tw10903926683343327577:=0
def tw6700466836340039941:=0
def tw12587317969193414545:=0
def tw73593570796685740:=0
def tw3408828528394190695:=0
def tw15350300070377710767:=0
def tw16627944335954375020:=0
def tw15419046816982951430:=0
def tw13859815983628782235:=0
def tw1975193249895151693:=0
def tw14430730100832565482:=0
def tw7348159699716686039:=0
def tw3462928826755877658:=0
def tw16980533147956529012:=0
def tw14972167772278203591:=0
def tw14412682694432619638:=0
def tw11797887340412866579:=0
def tw7594125179639887476:=0
def tw9995060604784800387:=0
def tw4383456412550353358:=0
def tw11483780740865474719:=0
def tw8093331611700302048:=0
def tw8830000121082465152:=0
def tw6004750945256329856:=0
def tw3310524523205710735:=0
def tw17812498103122458837:=0
def tw8369299915551694202:=0
def tw17292698839448384276:=0
def tw3266012110100161419:=0
def tw13675620830551102891:=0
def tw18430172510905172585:=0
def tw6306997003885618515:=0
def tw11084385454265281938:=0
def tw1334383551080740506:=0
def tw7440004655228615269:=0
def tw5685752220429779048:=0
def tw11637178801934807461:=0
def tw16243531352530300758:=0
def tw1046054987223133826:=0
def tw3114775592237475352:=0
def tw7301882445931232211:=0
def tw1779539275714202680:=0
def tw12338047663262105670:=0
def tw7816600167780455294:=0
def tw948485253799439018:=0
def tw17584912874531977839:=0
def tw6562983289215826953:=0
def tw9855494952113182878:=0
def tw10033706534807317467:=0
def tw338696620572537124:=0
def tw6589555053407001544:=0
def tw3137621826045447331:=0
def tw8039392468272342752:=0
def tw1727205429679937429:=0
def tw1994905689130607971:=0
def tw18348395259749187932:=0
def tw15940967819496289458:=0
def tw444469142524580849:=0
def tw17067074504119316568:=0
def tw4900997488113337772:=0
def tw1313512934326727544:=0
def tw18404081245898008356:=0
def tw14052914509481223050:=0
def tw198258175078207315:=0
def tw1906694593034474712:=0
def tw2745969356778623599:=0
def tw13749913700112429377:=0
def tw6351062863561308920:=0
def tw12688130768858946888:=0
def tw32052411175041568:=0
def tw7001015547184351373:=0
def tw5870641012695959910:=0
def tw7068770981896137232:=0
def tw2982786093149017180:=0
def tw11574985981047743537:=0
def tw10269039312163139430:=0
def tw4724341789347341534:=0
def tw17129191152918700276:=0
def tw9870386867944449008:=0
def tw7582175040601708806:=0
def tw18157059838506692930:=0
def tw12461972246599936075:=0
def tw8743942457375693156:=0
def tw8026234598596418354:=0
def tw1815058660899479562:=0
def tw3765460086761661772:=0
def tw11735771147417948978:=0
def tw6838237048879559485:=0
def tw6569243933037062777:=0
def tw7615292407317372584:=0
def tw6957530965501288166:=0
def tw1544627045051629624:=0
def tw1351032460061688228:=0
def tw16466840399896735128:=0
def tw17475291359572926298:=0
def tw13757581815204601085:=0
def tw44263100243752824:=0
def tw5070538214149624288:=0
def tw928062053161427192:=0
def tw2307531767422321477:=0
def tw9501462105942437005:=0
def tw3006319508634411561:=0
def tw9888520513544498249:=0
def tw5094767999210330517:=0
def tw3379277291455418238:=0
def tw8846916414702462771:=0
def tw6058090400880741248:=0
def tw819922412773770082:=0
def tw15917798898199621930:=0
def tw4105555250648897515:=0
def tw9515109398140192712:=0
def tw15781859775636032799:=0
def tw9779085244594152639:=0
def tw1662451844662214852:=0
def tw12659121801516117987:=0
def tw9086229707188793916:=0
def tw18213322635029962543:=0
def tw12704540839678792358:=0
def tw12469901699599966717:=0
def tw11133263956493742384:=0
def tw6628673094796763169:=0
def tw1728110215028630135:=0
def tw5377425152786038052:=0
def tw18281310758712049622:=0
def tw3762238968369049018:=0
def tw11848771707859425125:=0
def tw16810627031385813722:=0
def tw6472756960715050577:=0
def tw4190997093076374458:=0
def tw7736925721207457331:=0
def tw12107273890387136351:=0
def tw7650209244241801836:=0
def tw8354483282662532338:=0
def tw14087358551182282450:=0
def tw5400660708090034197:=0
def tw14441163445663742752:=0
def tw4297612247253678682:=0
def tw2116190486338791622:=0
def tw6951120688834977275:=0
def tw3428117068767035520:=0
def tw2118803278670808481:=0
def tw7089316436690024183:=0
def tw10477727233400464338:=0
def tw7814900011789726091:=0
def tw10437399037504507640:=0
def tw14385703965142937889:=0
def tw7767044678044077435:=0
def tw475673270528632715:=0
def tw9780911447191852006:=0
def tw462994142854603220:=0
def tw10795411575410580306:=0
def tw501942493912413888:=0
def tw20021625070212086:=0
def tw2649622157491901128:=0
def tw10882754629796974125:=0
def tw13965202863268353705:=0
def tw5938446960457645948:=0
def tw15123200354721355501:=0
def tw7846257561748226886:=0
def tw4674525548650280950:=0
def tw12102257996207540652:=0
def tw10568090955007003511:=0
def tw5542500999483315745:=0
def tw1791750300203869723:=0
def tw11117923513195683260:=0
def tw532237613161584712:=0
def tw3399322109674136194:=0
def tw4150968789806432153:=0
def tw16253863244160448344:=0
def tw2884799713681252251:=0
def tw4462786685942295370:=0
def tw5984427722299053122:=0
def tw15194650556100226354:=0
def tw15377605667366688609:=0
def tw5573353085972420168:=0
def tw15099353718101713573:=0
def tw3952299662787426147:=0
def tw5700825984274563582:=0
def tw9754245013663659374:=0
def tw14480929099340505819:=0
def tw8352481937737777535:=0
def tw10468075940563625989:=0
def tw14030864055201592492:=0
def tw1141591431005931291:=0
def tw8402091989568649429:=0
def tw14486985300337163463:=0
def tw11259872353188948205:=0
def tw2624986448681447791:=0
def tw2083772627522591646:=0
def tw16451414586415033719:=0
def tw11298178602522042285:=0
def tw11991988023646615690:=0
def tw14519052093284927946:=0
def tw11937207703623735484:=0
def tw4873769108961194849:=0
def tw508682558171714831:=0
def tw4734278803737801460:=0
def tw5524367363236583877:=0
def tw3658713864085428306:=0
def tw8933841589609426335:=0
def tw16862336225525172036:=0
def tw8462158084018781085:=0
def tw3229405001226342460:=0
def tw16158742617208141329:=0
def tw9375173064568089840:=0
def tw10207260595391817334:=0
def tw13846401316902766931:=0
def tw17544553077599269541:=0
def tw12644057208135246472:=0
def tw16181799986555561676:=0
def tw9297101376851714689:=0
def tw16244458466773510812:=0
def tw2822140155912039634:=0
def tw3729316842811152533:=0
def tw13232874414548956833:=0
def tw12210354995851859769:=0
def tw5927689308375184321:=0
def tw2622362778492649662:=0
def tw15700964186742055966:=0
def tw8505689622686208566:=0
def tw6579390563525150480:=0
def tw2253700387106010669:=0
def tw17031847970325218748:=0
def tw11302896912095183581:=0
def tw3731394519867124823:=0
def tw15451383891835865126:=0
def tw13763715570129569572:=0
def tw14058905195964754491:=0
def tw15382208183733786212:=0
def tw14789998934164018939:=0
def tw1324988408101254472:=0
def tw9744475886436719607:=0
def tw13822750401788453526:=0
def tw1785471557666390516:=0
def tw1490452479699790310:=0
def tw11703697191208132967:=0
def tw2951303886613572882:=0
def tw5494468123868967096:=0
def tw9040880915523683323:=0
def tw14559693196886168982:=0
def tw11348591969526493881:=0
def tw16800877566501202216:=0
def tw7107897513627717929:=0
def tw9749065674242288493:=0
def tw6896253915982476077:=0
def tw1317725823065465149:=0
def tw5305616701504178092:=0
def tw9539249204280104081:=0
def tw18194206671484237924:=0
def tw5158461312658156710:=0
def tw10986050174647875147:=0
def tw17221836157024412993:=0
def tw17556629205476915850:=0
def tw2149893231657436940:=0
def tw5094326822143829126:=0
def tw3754090008897774107:=0
def tw8753577186545102103:=0
def tw5896109991008964479:=0
def tw14444469838906465389:=0
def tw12195668458589311753:=0
def tw9504393050359847713:=0
def tw18098657299946829021:=0
def tw3985048701596241403:=0
def tw5985793187483638121:=0
def tw7502095581399914462:=0
def tw13788216936079905827:=0
def tw6602869546763141089:=0
def tw13452052109762366145:=0
def tw4216958501524465474:=0
def tw13683601982747714701:=0
def tw5483149037818729471:=0
def tw3386390836719565047:=0
def tw8866247990014820339:=0
def tw370414510544011248:=0
def tw4556236025816582101:=0
def tw2625292760403405017:=0
def tw8635592547341748666:=0
def tw751769523505064364:=0
def tw17938432496797949324:=0
def tw938081206031790611:=0
def tw9865348319062889937:=0
def tw9698683860697344274:=0
def tw2392620160468031947:=0
def tw5684576960339690986:=0
def tw6373565095004516826:=0
def tw12931626270779441722:=0
def tw169234438469893807:=0
def tw765754155769023486:=0
def tw462130012476123685:=0
def tw9111504208912271669:=0
def tw12458317741754183714:=0
def tw7867209905196694459:=0
def tw435574258735782474:=0
def tw16515701636930302369:=0
def tw3735226476795210877:=0
def tw10033372841741996321:=0
def tw16769470583018021512:=0
def tw17302946347211624132:=0
def tw7611636222369559179:=0
def tw6110498137873826200:=0
def tw173587044449167507:=0
def tw17059567082256250029:=0
def tw16429140180226593659:=0
def tw12727469185661943246:=0
def tw14663691776002850831:=0
def tw14868302326201903239:=0
def tw13377716960892160397:=0
def tw18292153316607996504:=0
def tw6430118995902439369:=0
def tw8392318329745229733:=0
def tw450803797963866462:=0
def tw1027957443716445208:=0
def tw3588079846660094382:=0
def tw2284301853042637329:=0
def tw5845241762698961619:=0
def tw14005710981645001347:=0
end PySem.W.Fast
namespace Ć
open PySem PySem.Spec PyProof.Rows L2 WS
open WL(Res Sl Ws EF TF AF LF GF Qe SF Out RF OX Rn Xa)
seal L2.PE L2.PS L2.ã L2.PA L2.PT L2.PW L2.PG L2.Ρ L2.PI L2.PO L2.ϡ L2.PC
def top(i:Nat):Stmt:=PySem.Challenge.pw_squarecall_k77_whole_rounds.main.body.getD i<|.Pass ⟨0,0,0,0⟩
local macro_rules|`(tactic|trivial)=>`(tactic|exact⟨M,M,M,by decide+kernel,M,by decide+kernel,by decide+kernel⟩)
noncomputable def fu:Stmt->List Stmt|.ClassDef _ _ _ b _ _ _ _ _ _ _=>b|_=>[]
def Qh(i j:Nat):Stmt:=(fu<|top i).getD j<|.Pass ⟨0,0,0,0⟩
abbrev xJ:Stmt:=(fu<|top 7).getD 0<|.Pass ⟨0,0,0,0⟩
def J5:Î ["self","who"] ["self","who"] (aj xJ):=by trivial
abbrev tw:Stmt:=(fu<|top 10).getD 0<|.Pass ⟨0,0,0,0⟩
def zq:Î ["self","at","why"] ["self","at","why"] (aj tw):=by trivial
abbrev MH:Stmt:=(fu<|top 9).getD 0<|.Pass ⟨0,0,0,0⟩
def C1:Î ["self","one","other"] ["self","one","other"] (aj MH):=by trivial
abbrev GC:Stmt:=(fu<|top 8).getD 0<|.Pass ⟨0,0,0,0⟩
def CW:Î ["self","who"] ["self","who"] (aj GC):=by trivial
abbrev LH:Stmt:=(fu<|top 103).getD 0<|.Pass ⟨0,0,0,0⟩
def vI:Î ["self","texts","name"] ["self","texts"] (aj LH):=by trivial
abbrev vJ:Stmt:=top 42
def qN:Î ["floor","dancer","test","word"] ["floor","dancer","test"] (aj vJ):=by trivial
abbrev VD:Stmt:=top 50
def JH:Î ["floor","call","some","steps"] ["floor","call","some"] (aj VD):=by trivial
abbrev xK:Stmt:=top 51
def G5:Î ["floor","call","some"] ["floor","call","some"] (aj xK):=by trivial
abbrev m9:Stmt:=(fu<|top 103).getD 2<|.Pass ⟨0,0,0,0⟩
def tE:Î ["self","name"] ["self","name"] (aj m9):=by trivial
abbrev HC:Stmt:=(fu<|top 66).getD 0<|.Pass ⟨0,0,0,0⟩
def UU:Î ["self","book","floor"] ["self","book","floor"] (aj HC):=by trivial
abbrev i3:Stmt:=(fu<|top 59).getD 0<|.Pass ⟨0,0,0,0⟩
def oS:Î ["self","floor"] ["self","floor"] (aj i3):=by trivial
abbrev cK:Stmt:=(fu<|top 59).getD 2<|.Pass ⟨0,0,0,0⟩
def fQ:Î ["self","place","test"] ["self","place","test"] (aj cK):=by trivial
abbrev i4:Stmt:=top 113
def fg:Î ["names","words","depth","opening","inside"] ["names","words","depth"] (aj i4):=by trivial
abbrev lM:Stmt:=top 114
def bZ:Î ["names","words","depth","items","place","end"] ["names","words","depth"] (aj lM):=by trivial
abbrev lN:Stmt:=(fu<|top 103).getD 1<|.Pass ⟨0,0,0,0⟩
def qO:Î ["self"] ["self"] (aj lN):=by trivial
abbrev Ku:Stmt:=top 128
def fG:Î ["_law_script","_law_book","_law_items","_law_floor","_law_due_here","_law_told","_law_at","_law_why","_law_many","e"] ["_law_script"] (aj Ku):=by trivial
structure Ad where(kn iA dO dJ dI dH aei oP oO oN oM aX jL gU bN eL ck bw dw aB fw ka ir oi uN wq fX ado fm_Book_call fm_PairedFloor_pair_sees fm_PairedFloor_pair_holds fm_PairedFloor_pair_steps fm_Run_dance fm_Run_those_left fm_Run_go_on fm_Book_names:Addr)
structure Txt(w:World)(K:W.Frag)(mg:Str->Option Value)(D:Ad):Prop where
 mgA:∀nm v,W.nsIn K mainGlobals nm=L (L v)->mg nm=L v
 yt:Kc K mg "HOME" hG
 fq:Kc K mg "DANCERS" bM
 qc:Kc K mg "FARTHEST" iO
 acY:Kc K mg "STEPS" oE
 kU:Kc K mg "QUARTERS" iM
 rG:mg "QUARTERS_OF"=L (.ref D.kn)qI:Dh w K D.kn [("same",.int 0),("left",.int 1),("about",.int 2),("right",.int 3)]yu:Kc K mg "DRIFTS" iP
 nN:mg "GOINGS_dances"=L (.ref D.iA)m3:Dh w K D.iA [("ahead",.ref D.dO),("back",.ref D.dJ),("left",.ref D.dI),("right",.ref D.dH)]kK:∀H:Hp,ü K H D.dO [.int 1,.int 0]kJ:∀H:Hp,ü K H D.dJ [.int<|-1,.int 0]kI:∀H:Hp,ü K H D.dI [.int 0,.int<|-1]kG:∀H:Hp,ü K H D.dH [.int 0,.int 1]j9:Kc K mg "MOST_DANCED" bL
 aiU:mg "TESTS"=L (.ref D.aei)ah0:Dh w K D.aei [("heads",.ref D.oP),("sides",.ref D.oO),("lefts",.ref D.oN),("rights",.ref D.oM)]abt:∀H:Hp,ü K H D.oP [.str "head"]abr:∀H:Hp,ü K H D.oO [.str "side"]abq:∀H:Hp,ü K H D.oN [.str "lefts"]abp:∀H:Hp,ü K H D.oM [.str "rights"]nX:Kc K mg "MOST_RUNS" fv
 uE:Kc K mg "MOST_RULES" l8
 uC:Kc K mg "MOST_TESTS" l6
 uD:Kc K mg "MOST_STEPS" l7
 dh:Kc K mg "FARTHEST_SEEN" bX
 iR:Kc K mg "WIDEST_INNER_rules" eR
 o4:Kc K mg "LONGEST_STEP" jb
 ai1:Kc K mg "WHATS" MF
 uG:Kc K mg "LONE_WORDS" ma
 o6:Kc K mg "GOINGS_rules" jd
 zW:Kc K mg "TURNINGS" qq
 uF:Kc K mg "MOST_CALLS" l9
 o5:Kc K mg "LONGEST_NAME" jc
 acZ:Kc K mg "LETTERS" vc
 amz:Kc K mg "KEPT" UB
 uz:Kc K mg "MOST_TIMES" l5
 gM:Kc K mg "WIDEST_INNER_programs" dv
 wj:Kc K mg "MOST_OPEN" oF
 ai2:Kc K mg "SOMES" RE
 nl:WS.Ph K=U
 al2:mg "abs"=Y
 acD:mg "all"=Y
 ag3:mg "bool"=Y
 gL:mg "enumerate"=Y
 apJ:mg "int"=Y
 aH:mg "isinstance"=Y
 cf:mg "len"=Y
 ag2:mg "list"=Y
 apI:mg "max"=Y
 bT:mg "range"=Y
 yh:mg "sorted"=Y
 acC:mg "str"=Y
 kR:mg "tuple"=Y
 eg:mg "FloorError"=L (.ref D.aX)uT:ExcAt K "FloorError" D.aX
 ij:mg "TooMany"=L (.ref D.jL)iu:ExcAt K "TooMany" D.jL
 sE:ko K D.jL Y
 ik:mg "NoPairs"=L (.ref D.gU)cz:ExcAt K "NoPairs" D.gU
 jM:ko K D.gU Y
 rJ:mg "Blind"=L (.ref D.bN)fZ:ExcAt K "Blind" D.bN
 afp:mg "Out"=L (.ref D.eL)pe:ExcAt K "Out" D.eL
 acG:mg "Meet"=L (.ref D.ck)kg:ExcAt K "Meet" D.ck
 j6:mg "Broken"=L (.ref D.bw)iK:ExcAt K "Broken" D.bw
 xs:Ġ K
 afQ:∀nm C,ExcAt K nm C->("at":Str)∈WL.fieldsOf nm->W.findIn K (.ref C) "at"=L Y/\W.hasDictIn K C=U
 am2:∀nm C,ExcAt K nm C->("one":Str)∈WL.fieldsOf nm->W.findIn K (.ref C) "one"=L Y/\W.hasDictIn K C=U
 afP:∀nm C,ExcAt K nm C->("other":Str)∈WL.fieldsOf nm->W.findIn K (.ref C) "other"=L Y/\W.hasDictIn K C=U
 aha:∀nm C,ExcAt K nm C->("who":Str)∈WL.fieldsOf nm->W.findIn K (.ref C) "who"=L Y/\W.hasDictIn K C=U
 yE:∀nm C,ExcAt K nm C->("why":Str)∈WL.fieldsOf nm->W.findIn K (.ref C) "why"=L Y/\W.hasDictIn K C=U
 anA:W.findIn K (.ref D.bN) "__init__"=L (L<|.ref D.ka)afO:∃fd,đ K "__init__" "Blind.__init__" xJ D.ka fd
 qU:ko K D.bN (L<|.ref D.ka)xS:W.typeIn K (.ref D.ka)=L (.type "function")aet:(W.clsIn K D.bN).map (·.mro)=L (.ref D.bN::.ref D.aX::gf)aes:W.hasDictIn K D.bN=U
 aer:W.findIn K (.ref D.bN) "__setattr__"=L (L<|.builtin "object.__setattr__")um:W.findIn K (.ref D.bN) "who"=L Y
 aka:W.findIn K (.ref D.bw) "__init__"=L (L<|.ref D.ir)adl:∃fd,đ K "__init__" "Broken.__init__" tw D.ir fd
 qT:ko K D.bw (L<|.ref D.ir)tP:W.typeIn K (.ref D.ir)=L (.type "function")aaM:(W.clsIn K D.bw).map (·.mro)=L (.ref D.bw::.ref D.aX::gf)aaL:W.hasDictIn K D.bw=U
 aaK:W.findIn K (.ref D.bw) "__setattr__"=L (L<|.builtin "object.__setattr__")uk:W.findIn K (.ref D.bw) "at"=L Y
 rE:W.findIn K (.ref D.bw) "why"=L Y
 aos:W.findIn K (.ref D.ck) "__init__"=L (L<|.ref D.oi)ai8:∃fd,đ K "__init__" "Meet.__init__" MH D.oi fd
 ab4:ko K D.ck (L<|.ref D.oi)aim:W.typeIn K (.ref D.oi)=L (.type "function")ahu:(W.clsIn K D.ck).map (·.mro)=L (.ref D.ck::.ref D.aX::gf)aht:W.hasDictIn K D.ck=U
 ahs:W.findIn K (.ref D.ck) "__setattr__"=L (L<|.builtin "object.__setattr__")v9:W.findIn K (.ref D.ck) "one"=L Y
 rD:W.findIn K (.ref D.ck) "other"=L Y
 aqP:W.findIn K (.ref D.eL) "__init__"=L (L<|.ref D.uN)amY:∃fd,đ K "__init__" "Out.__init__" GC D.uN fd
 ain:ko K D.eL (L<|.ref D.uN)ald:W.typeIn K (.ref D.uN)=L (.type "function")aj9:(W.clsIn K D.eL).map (·.mro)=L (.ref D.eL::.ref D.aX::gf)aj8:W.hasDictIn K D.eL=U
 aj7:W.findIn K (.ref D.eL) "__setattr__"=L (L<|.builtin "object.__setattr__")zN:W.findIn K (.ref D.eL) "who"=L Y
 aeU:Ÿ K D.bN
 akX:Ÿ K D.eL
 aic:Ÿ K D.ck
 zm:Ÿ K D.gU
 rd:W.readsIn K D.aX (.type "type")=U
 rf:W.findCls K (.ref D.aX) (.type "type") "__init__"=L (.val<|.builtin "ValueError.__init__")rs:W.specialIn K (.ref D.aX) "__getattribute__"=L (L<|.builtin "type.__getattribute__")al6:mg "Book"=L (.ref D.dw)aiT:Mk K D.dw D.wq
 ai9:∃fd,đ K "__init__" "Book.__init__" LH D.wq fd
 dq:ĝ K D.dw
 rF:bf K D.dw "calls"iw:W.nsIn K mainGlobals (Str.ofString "Book")=L (L<|.ref D.dw)rH:mg "PairedFloor"=L (.ref D.aB)oZ:Mk K D.aB D.fX
 o8:∃fd,đ K "__init__" "PairedFloor.__init__" i3 D.fX fd
 az:ĝ K D.aB
 eO:bf K D.aB "floor"bj:bf K D.aB "pairs"aK:bf K D.aB "middles"aD:W.nsIn K mainGlobals (Str.ofString "PairedFloor")=L (L<|.ref D.aB)apL:mg "Run"=L (.ref D.fw)al3:Mk K D.fw D.ado
 amX:∃fd,đ K "__init__" "Run.__init__" HC D.ado fd
 dE:ĝ K D.fw
 nL:bf K D.fw "book"cb:bf K D.fw "floors"lr:W.nsIn K mainGlobals (Str.ofString "Run")=L (L<|.ref D.fw)mL:Mi K D.dw D.fm_Book_call "call" "Book.call" m9
 gE:ϰ w K mg D.aB D.fm_PairedFloor_pair_sees "pair_sees" "PairedFloor.pair_sees" (Qh 59 1) ["self","place","test","own","who"] 3bF:Mi K D.aB D.fm_PairedFloor_pair_holds "pair_holds" "PairedFloor.pair_holds" cK
 gb:ϰ w K mg D.aB D.fm_PairedFloor_pair_steps "pair_steps" "PairedFloor.pair_steps" (Qh 59 3) ["self","place","call","rule"] 3vr:ϰ w K mg D.fw D.fm_Run_dance "dance" "Run.dance" (Qh 66 1) ["self","name","some","paired","count","call","refusal"] 4me:ϰ w K mg D.fw D.fm_Run_those_left "those_left" "Run.those_left" (Qh 66 2) ["self","some","item","test"] 3mK:ϰ w K mg D.fw D.fm_Run_go_on "go_on" "Run.go_on" (Qh 66 3) ["self","items","some","paired","item","again"] 4ly:Mi K D.dw D.fm_Book_names "names" "Book.names" lN
 adR:ý w K mg "is_name" (top 102)wN:ý w K mg "number_of" (top 74)jG:϶ w K mg "read_number_rules" "read_number" (top 86) ["word","least","most","number"] 3wJ:ý w K mg "read_step" (top 93)uZ:ý w K mg "read_steps" (top 94)adM:ý w K mg "read_at" (top 88)u0:ý w K mg "read_inner" (top 89)lg:ý w K mg "read_plain_test" (top 90)wI:ý w K mg "read_test" (top 91)uY:ý w K mg "read_tests" (top 92)wK:ý w K mg "read_rule" (top 95)wM:ý w K mg "read_call" (top 96)wO:ý w K mg "_law_texts" (top 118)sf:ý w K mg "_law_cell_at" (top 117)adK:ý w K mg "spot_of" (top 20)oA:ý w K mg "first_meeting" (top 21)aal:ý w K mg "floor_of" (top 22)afY:ý w K mg "who_at" (top 24)wH:ý w K mg "spot_from" (top 23)adN:ý w K mg "partner" (top 25)oz:ý w K mg "turned_facing" (top 30)ajq:ý w K mg "looks" (top 39)ang:ý w K mg "sees" (top 40)aam:ý w K mg "distance" (top 37)ajs:ý w K mg "drift" (top 38)adT:ý w K mg "is_head" (top 35)adS:ý w K mg "is_left" (top 36)adQ:ý w K mg "is_such" (top 41)ajr:Ϸ K "holds" vJ
 aab:ý w K mg "rule_for" (top 43)aaa:ý w K mg "steps_of" (top 46)aai:ý w K mg "is_whole" (top 16)aak:ý w K mg "is_place" (top 17)wR:ý w K mg "is_facing" (top 18)aaj:ý w K mg "is_stand" (top 19)adP:ý w K mg "kept_in" (top 49)pj:ý w K mg "stand_behind" (top 47)afZ:ý w K mg "way_of" (top 48)anf:Ak K "ways" VD #[.none]af1:Ak K "danced" xK #[.none]uX:ý w K mg "right_hand" (top 53)pw:ý w K mg "pairs_of_row" (top 55)aac:ý w K mg "row_from" (top 54)af2:ý w K mg "beside" (top 56)u1:ý w K mg "middles_of" (top 57)aae:GI w K mg "pairs_on" (top 58) ["floor","hands","pairs","dancer"] 1adJ:ý w K mg "widened" (top 60)lh:GI w K mg "danced_by_pairs" (top 61) ["floor","call","paired","steps","told","place","pair","way"] 2pz:ý w K mg "floor_behind" (top 65)aqq:ý w K mg "run" (top 67)uW:ý w K mg "run_behind" (top 71)u2:ý w K mg "last_floor" (top 68)aad:ý w K mg "round_of" (top 72)mr:ý w K mg "end_of_bracket" (top 112)hT:϶ w K mg "read_number_programs" "read_number" (top 109) ["word","least","most","number"] 3wL:ý w K mg "read_head" (top 111)pq:Ϸ K "read_bracket" i4
 l4:Ϸ K "read_items" lM
 pk:ý w K mg "read_program" (top 115)px:ý w K mg "_law_too_many" (top 125)mq:ý w K mg "_law_walked_out" (top 126)aaf:ý w K mg "_law_made" (top 127)aah:ý w K mg "_law_item" (top 120)se:ý w K mg "_law_program" (top 121)ph:ý w K mg "turned_stand" (top 31)af0:ý w K mg "turned" (top 32)wQ:ý w K mg "_law_first" (top 122)adO:ý w K mg "_law_due" (top 123)aag:ý w K mg "_law_kind" (top 124)aqs:Ϸ K "law" Ku
variable{P:Program}{w:World}{K:W.Frag}{mg:Str->Option Value}{base:Heap}{D:Ad}
variable(T:Txt w K mg D)
include T
theorem qC:∀F k u,WL.qo k [.str "same",.str "left",.str "about",.str "right"] [.int 0,.int 1,.int 2,.int 3]=L u->∃v,List.lookup k [(("same":Str),(.int 0:V)),(("left":Str),(.int 1:V)),(("about":Str),(.int 2:V)),(("right":Str),(.int 3:V))]=L v/\RW K F u v:=λF=>eG (by simp[RW]) (eG (by simp[RW])<|eG (by simp[RW])<|eG (by simp[RW]) Kv)
theorem mR:∀F k u,WL.qo k [.str "ahead",.str "back",.str "left",.str "right"] [.t [.int 1,.int 0],.t [.int<|-1,.int 0],.t [.int 0,.int<|-1],.t [.int 0,.int 1]]=L u->∃v,List.lookup k [(("ahead":Str),(.ref D.dO:V)),(("back":Str),(.ref D.dJ:V)),(("left":Str),(.ref D.dI:V)),(("right":Str),(.ref D.dH:V))]=L v/\RW K F u v:=λF=>eG (by simp only[RW,Ê];exact⟨_,_,M,T.kK F,⟨_,_,M,M,⟨_,_,M,M,M⟩⟩⟩) (eG (by simp only[RW,Ê];exact⟨_,_,M,T.kJ F,⟨_,_,M,M,⟨_,_,M,M,M⟩⟩⟩)<|eG (by simp only[RW,Ê];exact⟨_,_,M,T.kI F,⟨_,_,M,M,⟨_,_,M,M,M⟩⟩⟩)<|eG (by simp only[RW,Ê];exact⟨_,_,M,T.kG F,⟨_,_,M,M,⟨_,_,M,M,M⟩⟩⟩) Kv)
theorem WX:∀F k u,WL.qo k [.str "heads",.str "sides",.str "lefts",.str "rights"] [.t [.str "head"],.t [.str "side"],.t [.str "lefts"],.t [.str "rights"]]=L u->∃v,List.lookup k [(("heads":Str),(.ref D.oP:V)),(("sides":Str),(.ref D.oO:V)),(("lefts":Str),(.ref D.oN:V)),(("rights":Str),(.ref D.oM:V))]=L v/\RW K F u v:=λF=>eG (by simp only[RW,Ê];exact⟨_,_,M,T.abt F,⟨_,_,M,M,M⟩⟩) (eG (by simp only[RW,Ê];exact⟨_,_,M,T.abr F,⟨_,_,M,M,M⟩⟩)<|eG (by simp only[RW,Ê];exact⟨_,_,M,T.abq F,⟨_,_,M,M,M⟩⟩)<|eG (by simp only[RW,Ê];exact⟨_,_,M,T.abp F,⟨_,_,M,M,M⟩⟩) Kv)
theorem Y0:Ŀ K D.bN:=rX T.xs T.fZ T.aet T.aes T.aer
theorem j3:Rc P w K mg base D.ka ["self","who"] (Ec D.bN ["who"]):=rP T.afO (λ_ _ _ _ _ _ f c=>vi (λ_ _=>rfl) f c) λg Fn=>yz Fn J5 (by decide) (λ_ _ _ b d=>all_cons (lR<|by decide)<|all_cons (tT b d) all_nil) λe A a s H E r=>bx (dc<|mB (by rfl) T.eg T.rd T.rf T.rs T.qU<|aG (pv 0)<|aG (nk<|.cons i5<|.cons (pW<|pv 1) .nil) bS)<|cZ<|Mo (Y0 T) T.um (pv 0) (pv 1) M
theorem tO:Ŀ K D.bw:=rX T.xs T.iK T.aaM T.aaL T.aaK
theorem i7:Rc P w K mg base D.ir ["self","at","why"] (Za D.bw ["at","why"] 6000000<|ϧ K):=rP T.adl (λ_ _ _ _ _ _ d b=>oH (λ_ _ _=>rfl) d b) λe Fn=>C0 Fn zq (by decide) (by decide) (by decide) λc A a s H E r=>bx (dc<|mB (by rfl) T.eg T.rd T.rf T.rs T.qT<|aG (pv 0)<|aG (nk<|.cons i5<|.cons (pW<|pv 1)<|.cons i5<|.cons (QV r<|pv 2) .nil) bS)<|bx (Mo (tO T) T.uk (pv 0) (pv 1) M)<|cZ<|JA (tO T) T.rE (pv 0) (pv 2) M
theorem RH:Ŀ K D.ck:=rX T.xs T.kg T.ahu T.aht T.ahs
theorem uf:Rc P w K mg base D.oi ["self","one","other"] (Ec D.ck ["one","other"]):=rP T.ai8 (λ_ _ _ _ _ _ g c=>oH (λ_ _ _=>rfl) g c) λi Fn=>A0 Fn C1 (by decide) (by decide) (λ_ _ _ _ b e d h=>all_cons (lR<|by decide)<|all_cons (tT b d)<|all_cons (lR<|by decide)<|all_cons (tT e h)<|all_cons (lR<|by decide) all_nil) λf A a s H E r=>bx (dc<|mB (by rfl) T.eg T.rd T.rf T.rs T.ab4<|aG (pv 0)<|aG (nk<|.cons i5<|.cons (pW<|pv 1)<|.cons i5<|.cons (pW<|pv 2)<|.cons i5 .nil) bS)<|bx (Mo (RH T) T.v9 (pv 0) (pv 1) M)<|cZ<|JA (RH T) T.rD (pv 0) (pv 2) M
theorem QR:Ŀ K D.eL:=rX T.xs T.pe T.aj9 T.aj8 T.aj7
theorem vY:Rc P w K mg base D.uN ["self","who"] (Ec D.eL ["who"]):=rP T.amY (λ_ _ _ _ _ _ f c=>vi (λ_ _=>rfl) f c) λg Fn=>yz Fn CW (by decide) (λ_ _ _ b d=>all_cons (lR<|by decide)<|all_cons (tT b d)<|all_cons (lR<|by decide) all_nil) λe A a s H E r=>bx (dc<|mB (by rfl) T.eg T.rd T.rf T.rs T.ain<|aG (pv 0)<|aG (nk<|.cons i5<|.cons (pW<|pv 1)<|.cons i5 .nil) bS)<|cZ<|Mo (QR T) T.zN (pv 0) (pv 1) M
def zH:=T.adR.dN P base 40 sV λb s r u c p d=>ae (ð (PW.pt<|sG (fB<|cU<|wB bK (eU s) T.aH Ν<|af v0<|Ë<|Ya T.acC boot_str)<|lz<|fB<|U0 jI jI Pg Pg ah (wB u4 (TC s) T.cf Ul<|Ë v0)<|Ċ b T.o5) aY) (wr<|fD (lB dF (jf s u) v0 (Ċ b T.amz)<|by rfl)<|jP<|wB kj (w_all (cm r) s) T.acD boot_all<|Ë<|Ž "sign" (cm r) (WT v0) λ_ _ _ _=>lB P0 (OO s u) v0 (Ċ b T.acZ)<|by rfl)
def lS:=T.wN.dN P base 40 mZ λb s r u c p d=>ae (eN p (cm r) (vw (by rfl) T.bT v1<|į s v2 ah) (gN 3 d)<|show ã _ _ (â _ Ć.j7)from ao<|ð (Ĕ b u (wT U3 NT T.acC boot_str<|Ë v3) v0)<|wr v3)<|wr bt
def bE:=T.jG.dN P base 41 ff λb s r u c p d=>ae (wS 3 d<|cl b r (lS T)<|af v0<|af v1<|Ë v2)<|ae (ð (aO lq w_is v3 bt<|bu _) aY)<|wr v3
def tY:=T.wJ.dN P base 42 mV λb s r u c p d=>ae (ð (PW.pt<|jN (Ĕ b u v0 aq)<|gF<|aO eK (ϥ s u) v1 (Ċ b T.zW)<|by rfl)<|wr<|aM<|af v0<|Ë v1) (ae (ð (aO dF (jf s u) v0 (Ċ b T.o6)<|by rfl) aY)<|wr<|aM<|af v0<|Ë<|cl b r (bE T)<|af v1<|af ah<|Ë<|Ċ b T.o4)
def j1:=T.uZ.dN P base 43 lF λb s r u c p d=>ae (ð (Ĕ b u v0 aq)<|wr<|aM<|Ë<|aM<|Ë aq) (ae (wS 1 d<|jO s v0<|Ë aq)<|ae (ð (PW.pt<|sG (Fd b u (Ż (ĩ s T.cf v1) ah) ah)<|lz<|aO jJ Og (ĩ s T.cf v1) (cR du w_mul ah<|Ċ b T.uD)<|bu _) aY)<|wr<|wT iL (qB s) T.kR Mf<|Ë<|Ž "place" (cm r) (ZH (by rfl) T.bT ah<|ĩ s T.cf v1) λ_ _ _ _=>cl b r (tY T)<|af (wx b v2 v0)<|Ë<|wx b v2<|į s v0 ah)
def zC:=T.adM.dN P base 42 sS λb s r u c p d=>ae (ð (PW.pt<|sG (Fd b u (ĩ s T.cf v0) ah)<|lz<|aO dF (jf s u) (wx b v0 ah) (Ċ b T.ai1)<|by rfl) aY)<|ae (wS 1 d<|cl b r (bE T)<|af (wx b v0 ah)<|af (dY aJ dZ<|Ċ b T.dh)<|Ë<|Ċ b T.dh)<|ae (wS 2 d<|cl b r (bE T)<|af (wx b v0 ah)<|af (dY aJ dZ<|Ċ b T.dh)<|Ë<|Ċ b T.dh)<|ae (ð (PW.pt<|jN (Ĕ b u v1 ah)<|gF<|Ĕ b u v2 ah) aY)<|wr<|aM<|af aq<|af v1<|af v2<|Ë<|wx b v0 ah
def rh:=T.u0.dN P base 42 lG λb s r u c p d=>ae (ð (Fd b u (ĩ s T.cf v0) ah) aY)<|wr<|aM<|af aq<|Ë<|cl b r (bE T)<|af (wx b v0 ah)<|af ah<|Ë<|Ċ b T.iR
def fH:=T.lg.dN P base 43 gh λb s r u c p d=>ae (ð (Ĕ b u (wx b v0 ah) aq)<|wr<|cl b r (zC T)<|Ë v0) (ae (ð (Ĕ b u (wx b v0 ah) aq)<|wr<|cl b r (rh T)<|Ë v0)<|ae (ð (PW.pt<|sG (Fd b u (ĩ s T.cf v0) ah)<|lz<|aO dF (jf s u) (wx b v0 ah) (Ċ b T.uG)<|by rfl) aY)<|wr<|aM<|Ë<|wx b v0 ah)
def tX:=T.wI.dN P base 44 mU λb s r u c p d=>ae (wS 1 d<|jO s v0<|Ë aq)<|ae (ð (PW.pt<|jN (aO jJ Og (ĩ s T.cf v1) ah<|bu _)<|gF<|Ĕ b u (wx b v1 ah) aq)<|wr<|aM<|af aq<|Ë<|cl b r (fH T)<|Ë<|mf (Ϧ s) v1 (cw ah) hV)<|wr<|cl b r (fH T)<|Ë v1
def q9:=T.uY.dN P base 45 lE λb s r u c p d=>ae (wS 1 d<|jO s v0<|Ë aq) (ae (ð (aO jJ Og (ĩ s T.cf v1) (Ċ b T.uC)<|bu _) aY)<|wr<|wT iL (qB s) T.kR Mf<|Ë<|Ž "test" (cm r) (cG s v1) λ_ _ _ _=>cl b r (tX T)<|Ë v0)
def tZ:=T.wK.dN P base 46 mW λb s r u c p d=>ae (ð (cU<|B6 s v0<|Ë aq)<|wr<|aM<|af (aM aV)<|Ë<|cl b r (j1 T)<|Ë<|AY v0 ah)<|ae (wS 1 d<|TH s v0<|Ë aq)<|ae (ð (Ĕ b u (wx b v1 ah) aq) aY)<|wr<|aM<|af (cl b r (q9 T)<|Ë<|wx b v1 ah)<|Ë<|cl b r (j1 T)<|Ë<|wx b v1 ah
def ub:=T.wM.dN P base 47 mY λb s r u c p d=>ae (ð (fB<|cU<|wB bK (eU s) T.aH Ν<|af v0<|Ë<|Ya T.acC boot_str) aY) (ae (wS 1 d<|jO s v0<|Ë aq)<|ae (ð (aO jJ Og (ĩ s T.cf v1) (Ċ b T.uE)<|bu _) aY)<|wr<|Ž "rule" (cm r) (cG s v1) λ_ _ _ _=>cl b r (tZ T)<|Ë v0)
theorem WW:De P w K mg base 49 D.wq ["self","texts"] (Ik K "calls" yG):=rO T.ai9 (λ_ _ _ _ _ _ g e=>vi (λ_ _=>rfl) g e) λh Fn=>by refine D0 UG VG BH Fn vI M M ?_;intro f A a s H E X d r p;subst d;exact⟨λB b c=>⟨ky (aO jJ Og (wB u4 (TC b.symm) T.cf Ul<|af v1 aV) (Ċ b T.uF)<|bu _) aY eE,GY b.symm p (cm r) c (pv 1) (λ_=>gN 2 vI.nd) λB b c=>show ã _ _ (â _ Ć.yo)from ao<|ky (fB<|cU<|cl b r (zH T)<|af v2 aV) aY eE,cl b r (ub T)<|af (wx b v1 v2) aV⟩,pv 0,pv 0,pv 1,pv 2,qV vI.nd M<|Or.inl rfl,cm r,M,M,M,λ_=>rfl⟩
def uc:=T.wO.dN P base 40 m1 λb s r u c p d=>(ae (wS 0 d<|cH<|We M)<|ae (wS 0 d<|į s v0<|cH<|Ë aq)<|ae (wS 0 d<|į s v0<|cH<|Ë aq)<|ae (wS 0 d<|į s v0<|cH<|af aq<|Ë aq)<|ae (wS 0 d<|į s v0<|cH<|Ë aq)<|ae (wS 0 d<|į s v0<|cH<|Ë aq)<|ae (wS 0 d<|į s v0<|cH<|Ë aq)<|ae (wS 0 d<|į s v0<|cH<|Ë aq)<|ae (wS 0 d<|į s v0<|cH<|Ë aq)<|ae (wS 0 d<|į s v0<|cH<|Ë aq)<|ae (wS 0 d<|į s v0<|cH<|Ë aq)<|ae (wS 0 d<|į s v0<|cH<|Ë aq)<|ae (HY (i:=1) d M<|Or.inl rfl)<|ae (eN p (cm r) (cG s v0) (gN 2 d)<|show ã _ _ (â _ Ć.j8)from(ae (Cw (TH s v2<|Ë aq) (sH s (cm r) (cW (gN 3 d)<|cW (gN 4 d)<|cW (gN 5 d) mP) M (ft<|ft<|ft uL) kY)<|MQ kY)<|ao<|JY (i:=1) (Kw u) (pv 1) v3<|va 5))<|ao<|lA (i:=1)<|cV v1)
def i6:=T.sf.dN P base 0 eV λb s r u c p d=>ae (ð (aO jH w_lt v1 (ĩ s T.cf v0)<|bu _)<|wr<|wx b v0 v1)<|wr ah
def gk:=T.adK.dN P base 0 sR λb s r u c p d=>wr<|aM<|af (wx b v0 ah)<|Ë<|wx b v0 ah
def g6:=T.oA.dN P base 40 h8 λb s r u c p d=>ae (eN p (cm r) (fc (by rfl) T.bT<|ĩ s T.cf v0) (gN 1 d)<|show ã _ _ (â _ Ć.gw)from ao<|eN p (cm r) (vw (by rfl) T.bT (į s v1 ah)<|ĩ s T.cf v0) (gN 2 d)<|show ã _ _ (â _ Ć.gu)from ao<|ð (Ĕ b u (cl b r (gk T)<|Ë<|wx b v0 v1)<|cl b r (gk T)<|Ë<|wx b v0 v2)<|wr<|aM<|af v1<|Ë v2)<|wr bt
def nG:=T.aal.dX P base 41 pN λb s r u c p d=>ae (wS 1 d<|cl b r (g6 T)<|Ë v0)<|ae (ð (aO dG jg v1 bt<|bu _)<|ao<|rI b r c (cm r) T.acG T.ab4 T.aim (uf T) T.kg<|af (wx b v1 ah)<|Ë<|wx b v1 ah)<|wr<|wT iL (qB s) T.kR Mf<|Ë v0
def ny:=T.afY.dN P base 40 xA λb s r u c p d=>ae (eN p (cm r) (qw s (by rfl) T.gL v0) (sH s (cm r) (cW (gN 2 d)<|cW (gN 3 d) mP) M (ft<|ft uL) kY)<|show ã _ _ (â _ Ć.gv)from ao<|ð (Ĕ b u (cl b r (gk T)<|Ë v3) v1)<|wr v2)<|wr bt
def cL:=T.wH.dN P base 0 jl λb s r u c p d=>ae (wS 3 d<|wx b (Ċ b T.acY)<|wx b v0 ah)<|ae (wS 4 d<|į s (cR du w_mul (wx b v3 ah) v1)<|cR du w_mul (wx b v3 ah) v2)<|ae (wS 5 d<|cR fM w_sub (cR du w_mul (wx b v3 ah) v1)<|cR du w_mul (wx b v3 ah) v2)<|wr<|aM<|af (į s (wx b v0 ah) v4)<|Ë<|į s (wx b v0 ah)<|va 5
def zE:=T.adN.dN P base 0 jV λb s r u c p d=>wr<|vx (Ĕ b u (Ż v0 ah) ah) (į s v0 ah)<|cR fM w_sub v0 ah
def gZ:=T.oz.dN P base 0 hX λb s r u c p d=>wr<|Ż (į s v0<|gx b T.rG T.qI (qC T) v1)<|Ċ b T.kU
def x9:=T.ajq.dN P base 1 ZG λb s r u c p d=>ae (ð (aO lq w_is v2 bt<|bu _)<|wr<|ż s u v3 aq) (ae (ð (aO eK (ϥ s u) v3 (aM<|af aq<|Ë aq)<|by rfl)<|wr<|ż s u v3 aq)<|wr<|ż s u (wx b (wx b v1 v2) ah)<|cl b r (gZ T)<|af (wx b v0 ah)<|Ë v3)
def YW:=T.ang.dN P base 41 NC λb s r u c p d=>ae (wS 3 d<|wx b v0 v1)<|ae (wS 4 d<|wx b v2 ah)<|ae (wS 5 d<|cl b r (ny T)<|af v0<|Ë<|cl b r (cL T)<|af v3<|af (wx b v2 ah)<|Ë<|wx b v2 ah)<|ae (ð (Ĕ b u v4 aq)<|wr<|ż s u (va 5)<|cl b r (zE T)<|Ë v1)<|ae (ð (Ĕ b u v4 aq) aY)<|wr<|cl b r (x9 T)<|af v3<|af v0<|af (va 5)<|Ë v4
def ju:=T.aam.dN P base 40 pO λb s r u c p d=>wr<|wB Q3 (MT<|cm r) T.apI boot_max<|af (wB yT VA T.al2 boot_abs<|Ë<|wx b v0 ah)<|Ë<|wB yT VA T.al2 boot_abs<|Ë<|wx b v0 ah
def ya:=T.ajs.dN P base 41 XG λb s r u c p d=>ae (wS 1 d<|cl b r (ju T)<|Ë<|cl b r (gk T)<|Ë v0)<|ae (wS 2 d<|cl b r (ju T)<|Ë<|cl b r (cL T)<|af v0<|af ah<|Ë ah)<|ae (ð (Ĕ b u v2 v1)<|wr aq)<|wr<|vx (aO jH w_lt v2 v1<|bu _) aq aq
def zJ:=T.adT.dN P base 0 sX λb s r u c p d=>wr<|ż s u (Ż (cR ki w_div v0 ah) ah) ah
def zI:=T.adS.dN P base 0 sW λb s r u c p d=>wr<|ż s u (Ż v0 ah) ah
def zG:=T.adQ.dN P base 1 jW λb s r u c p d=>ae (ð (aO eK (ϥ s u) v1 (aM<|af aq<|Ë aq)<|by rfl)<|wr<|ż s u (cl b r (zJ T)<|Ë v0)<|ż s u v1 aq)<|wr<|ż s u (cl b r (zI T)<|Ë v0)<|ż s u v1 aq
theorem ui{f:Addr}{d:FuncData}(Fn:đ K "holds" "holds" vJ f d)(g:mg "holds"=L (.ref f))(h:Binds K d ["floor","dancer","test"] []):∀n:Nat,ä P w K mg base ē (42+n) f d ["floor","dancer","test"]<|Ğ K 3<|fY n|0=>DV Fn qN M|n+1=>have a:=ui Fn g h n;oy (YG<|fY n) Fn qN M M M (by decide) λi A e s H E B b r c p=>(ae (wS 3 qN.nd<|wx b v2 ah)<|ae (ky (Ĕ b r.units v3 aq) (ao<|cV<|sI<|XH b.symm a (r.mono<|í _) (by rfl) g Fn.kp h (af v0<|af v1<|af (wx b v2 ah) aV)<|cx<|cx<|cx iz) eE)<|ae (ky (Ĕ b r.units v3 aq) (ao<|cV<|cl b r (YW T) (af v0<|af v1<|af v2 aV)<|ñ (by decide)<|ϔ _ _) eE)<|ae (ky (Ĕ b r.units v3 aq) (ao<|cV<|lB jI Pg (cl b r (ju T) (af (cl b r (gk T) (af (wx b v0 v1) aV)<|ñ (by decide)<|ϔ _ _) aV)<|ñ (by decide)<|ϔ _ _) (wx b v2 ah)<|bu _) eE)<|ae (ky (aO eK (ϥ b.symm r.units) v3 (Ċ b T.yu)<|by rfl) (ao<|cV<|lB calm_eq (w_eq b.symm r.units) (cl b r (ya T) (af (wx b v0 v1) aV)<|ñ (by decide)<|ϔ _ _) v3<|bu _) eE)<|ao<|cV<|cl b r (zG T) (af v1<|af v3 aV)<|ñ (by decide)<|ϔ _ _)
theorem rj:Š P w K mg base ē 45 "holds" ["floor","dancer","test"] [] (Ğ K 3<|fY 3):=T.ajr.WK T.mgA (λ_ _ _ _ _ _ c d=>oH (λ_ _ _=>rfl) c d) λ_ _ Fn a b=>ui T Fn a b 3
def vR:=T.aab.dN P base 45 pI λb s r u c p d=>ae (eN p (cm r) (qw s (by rfl) T.gL v2) (sH s (cm r) (cW (gN 3 d)<|cW (gN 4 d) mP) M (ft<|ft uL) kY)<|show ã _ _ (â _ Ć.lU)from ao<|ð (cU<|wB kj (w_all (cm r) s) T.acD boot_all<|Ë<|Ž "test" (cm r) (cG s<|wx b v4 ah) λ_ _ _ _=>cl b r (rj T)<|af v1<|af v2<|Ë v0)<|wr v3)<|wr bt
def vQ:=T.aaa.dX P base 46 pH λb s r u c p d=>ae (ð (PW.pt<|jN (aO dG jg v3 bt<|bu _)<|gF<|aO dF (jf s u) v1 v3<|by rfl)<|wr<|aM aV)<|ae (wS 4 d<|cl b r (vR T)<|af v0<|af v1<|Ë v2)<|ae (ð (aO lq w_is v4 bt<|bu _)<|ao<|rI b r c (cm r) T.rJ T.qU T.xS (j3 T) T.fZ<|Ë v1)<|wr<|wx b (wx b v2 v4) ah
def nD:=T.aai.dN P base 0 iC λb s r u c p d=>wr<|fD (wB bK (eU s) T.aH Ν<|af v0<|Ë<|Ya T.apJ boot_int)<|jP<|sI<|wB bK (eU s) T.aH Ν<|af v0<|Ë<|Ya T.ag3 boot_bool
def nE:=T.aak.dN P base 1 kE λb s r u c p d=>wr<|fD (cl b r (nD T)<|Ë v0)<|jP<|xo jI jI Pg Pg (dY aJ dZ<|Ċ b T.qc) v0<|Ċ b T.qc
def ue:=T.wR.dN P base 1 jq λb s r u c p d=>wr<|fD (cl b r (nD T)<|Ë v0)<|jP<|xo jI jH Pg w_lt ah v0<|ĩ s T.cf<|Ċ b T.acY
def vX:=T.aaj.dN P base 2 pM λb s r u c p d=>ae (ð (PW.pt<|sG (fB<|cU<|wB bK (eU s) T.aH Ν<|af v0<|Ë<|Ya T.kR Mf)<|lz<|Fd b u (ĩ s T.cf v0) ah) aY)<|wr<|fD (cl b r (nE T)<|Ë<|wx b v0 ah)<|fD (cl b r (nE T)<|Ë<|wx b v0 ah)<|jP<|cl b r (ue T)<|Ë<|wx b v0 ah
def pX:=T.adP.dX P base 40 sU λb s r u c p d=>ae (eN p (cm r) (qw s (by rfl) T.gL v0) (sH s (cm r) (cW (gN 1 d)<|cW (gN 2 d) mP) M (ft<|ft uL) kY)<|show ã _ _ (â _ Ć.nS)from ao<|ð (fB<|cU<|wB kj (w_all (cm r) s) T.acD boot_all<|Ë<|Ž "stand" (cm r) (cG s<|mf (Ϧ s) v2 (cw ah) hV) λ_ _ _ _=>cl b r (vX T)<|Ë v0)<|ao<|rI b r c (cm r) T.afp T.ain T.ald (vY T) T.pe<|Ë v1)<|wr v0
def nA:=T.pj.dN P base 1 iY λb s r u c p d=>ae (ð (Ĕ b u (wx b v1 ah) aq)<|wr<|aM<|af (wx b v0 ah)<|af (wx b v0 ah)<|Ë<|cl b r (gZ T)<|af (wx b v0 ah)<|Ë<|wx b v1 ah)<|ae (wS 2 d<|gx b T.nN T.m3 (mR T)<|wx b v1 ah)<|ae (wS 3 d<|cl b r (cL T)<|af v0<|af (cR du w_mul (wx b v2 ah)<|wx b v1 ah)<|Ë<|cR du w_mul (wx b v2 ah)<|wx b v1 ah)<|wr<|aM<|af (wx b v3 ah)<|af (wx b v3 ah)<|Ë<|wx b v0 ah
def tW:=T.afZ.dN P base 40 qH λb s r u c p d=>(ae (kx (i:=2) d M (Or.inl rfl)<|pE<|Ë v0)<|ae (eN p (cm r) (cG s v1) (gN 3 d)<|show ã _ _ (â _ Ć.kT)from(ao<|ð (Fd b u (wx b v3 ah) aq)<|ao<|pB s<|dc<|kM Pb Ae Zd fk (pv 2)<|aG (lC (i:=2)<|cl b r (nA T)<|af (wx b v2<|dY aJ dZ ah)<|Ë v3) bS))<|ao<|lA (i:=2)<|cV v2)
theorem ZW:Š P w K mg base (ò P w) 48 "ways" ["floor","call","some"] [.none] (ĵ K 3 Iv):=T.anf.Ľ (ps:=["floor","call","some"]) (ds:=[.none]) T.mgA (λ_ _ _ _ _ _ _ e a=>Lw (λ_ _ _=>⟨_,M,M⟩) e<|by simpa using a) (λ_ _ _ _ _ _ _ e a=>Mw (λ_ _=>⟨_,M,M⟩) e<|by simpa using a) λ_ _ _ Fn=>yM OC Fn JH M M M (by decide) λf A d s H E B b r c p=>(ae (wS 3 JH.nd<|xn M M b.symm c (ts:=["dancer"]) ⟨M,M,M,M,M⟩ (cm r) M (cM<|by decide) (fc (by rfl) T.bT<|Ċ b T.fq) (λ_ _ _ _ _ B b c=>gN 0) (λ_ _ _ _ _ B b c=>mQ) λ_ _ _ _ _ B b c=>Ŧ b r c (vQ T)<|af v1<|af v0<|af v2<|Ë v3)<|wr<|Ŧ b r c (pX T)<|Ë<|Ž "dancer" (cm r) (fc (by rfl) T.bT<|Ċ b T.fq) λ_ _ _ _=>cl b r (tW T)<|af (wx b v1 v0)<|Ë<|wx b v4 v0)
theorem nI:Š P w K mg base (ò P w) 49 "danced" ["floor","call","some"] [.none] (ĵ K 3 dW):=T.af1.Ľ (ps:=["floor","call","some"]) (ds:=[.none]) T.mgA (λ_ _ _ _ _ _ _ e a=>Lw (λ_ _ _=>⟨_,M,M⟩) e<|by simpa using a) (λ_ _ _ _ _ _ _ e a=>Mw (λ_ _=>⟨_,M,M⟩) e<|by simpa using a) λ_ _ _ Fn=>yM xD Fn G5 M M M (by decide) λf A d s H E B b r c p=>wr (Ŧ b r c (nG T)<|Ë<|Ž "way" (cm r) (cG b.symm<|Ŧ b r c (ZW T)<|af v0<|af v1<|Ë v2) λ_ _ _ _=>wx b v0<|dY aJ dZ ah)
theorem rn:oR P w K mg base 41 D.dw D.fm_Book_call "call" ["self","name"] (Nh K 2 bg):=nM T.mL.1 T.mL.2 (λ_ _ _ _ _ _ f d=>vi (λ_ _=>rfl) f d) λg Fn=>FF m5 nU Fn tE M M M (by decide) λe A a s H E B b r c p=>S0 (ð (PW.pt<|sG (fB<|cU<|wB bK (eU b.symm) T.aH Ν<|af v1<|Ë<|Ya T.acC boot_str)<|lz<|aO wX (M1 b.symm r.units) v1 (Lp b T.iw T.dq T.rF v0)<|by rfl) aY) (CY b.symm (by rfl) T.ag2 boot_list<|KI b (Lp b T.iw T.dq T.rF v0) v1)
theorem ig:oR P w K mg base 41 D.dw D.fm_Book_call "call" ["self","name"] (ĵ K 2 bg):=oR.x<|rn T
theorem CS:De P w K mg base 41 D.ado ["self","book","floor"] (Kn K):=rO T.amX (λ_ _ _ _ _ _ e c=>oH (λ_ _ _=>rfl) e c) λf Fn=>J0 Fn UU M λd A a s H E X b=>by subst b;exact⟨pU (pv 0) (pv 1) M,pU (pv 0) (Qv<|aG (pv 2) bS) M⟩
def q0:=T.uX.dN P base 41 lD λb s r u c p d=>ae (wS 2 d<|wx b v0 v1)<|ae (wS 3 d<|cl b r (ny T)<|af v0<|Ë<|cl b r (cL T)<|af v2<|af ah<|Ë ah)<|wr<|vx (PW.pt<|jN (aO dG jg v3 bt<|bu _)<|gF<|Ĕ b u (wx b (wx b v0 v3) ah)<|wx b v2 ah) v3 bt
def nB:=T.pw.dX P base 40 dQ λb s r u c p d=>ae (ð (Fd b u (Ż (ĩ s T.cf v0) ah) ah)<|ao<|mM s c (cm r) (by rfl) T.ik T.jM T.cz M<|Dj<|VM s u r.gd v0 Bw) (wr<|Ž "place" (cm r) (ZH (by rfl) T.bT ah<|ĩ s T.cf v0) λ_ _ _ _=>aM<|af (wx b v1 v0)<|Ë<|wx b v1<|į s v0 ah)
def vS:=T.aac.dN P base 0 kC λb s r u c p d=>(ae (kx (i:=2) d M (Or.inl rfl)<|pE<|Ë v1)<|ae (xk p (show PT _ _ (ď _ Ć.il)from(xj (i:=2)<|aO dG jg (wx b v0<|wx b v2<|dY aJ dZ ah) bt<|bu _))<|show ã _ _ (â _ Ć.ip)from(ao<|pB s<|dc<|kM Pb Ae Zd fk (pv 2)<|aG (lC (i:=2)<|wx b v0<|wx b v2<|dY aJ dZ ah) bS))<|ao<|lA (i:=2)<|cV v2)
def nJ:=T.af2.dN P base 1 xE λb s r u c p d=>ae (wS 2 d<|cl b r (cL T)<|af v0<|af ah<|Ë v1)<|wr<|aM<|af (wx b v2 ah)<|af (wx b v2 ah)<|Ë<|wx b v0 ah
def j2:=T.u1.dN P base 40 lH λb s r u c p d=>wr (Ž "pair" (cm r) (cG s v1) λ_ _ _ _=>cl b r (nJ T)<|af (wx b v1<|wx b v0 ah)<|Ë ah)
def vU:=T.aae.dX P base 42 pK λb s r u c p d=>(ae (KY (i:=1) d M M (by rfl) (ts:=["dancer"]) ⟨M,M,M,M,M⟩ (cm r) M (cM<|by decide) (fc (by rfl) T.bT<|Ċ b T.fq) (λ_ _ _ _=>gN 0) (λ_ _ _ _=>mQ) λ_ _ _ _=>cl b r (q0 T)<|af v1<|Ë v0)<|ae (kx (i:=2) d M (Or.inl rfl)<|pE aV)<|ae (eN p (cm r) (fc (by rfl) T.bT<|Ċ b T.fq) (gN 3 d)<|show ã _ _ (â _ Ć.bW)from(ao<|ð (aO dF (jf s u) v3 v1<|by rfl)<|ao<|XT (i:=2) s T.nl<|dc<|kM Pb PySem.F.slot_list_extend PySem.F.type_list_extend LW (pv 2)<|aG (Ŧ b r c (nB T)<|Ë<|cl b r (vS T)<|af v1<|Ë v3) bS))<|ae (ð (xj (i:=2)<|aO dG jg (cl b r (g6 T)<|Ë<|cl b r (j2 T)<|af v0<|Ë v2) bt<|bu _)<|ao<|xl s c (cm r) (by rfl) T.ik T.jM T.cz M<|Ë aq)<|ao<|lA (i:=2)<|cV<|wB X5 (XX s) T.yh boot_sorted<|Ë v2)
theorem oY:∀f∈(["floor","pairs","middles"]:List Str),bf K D.aB f:=λf a=>by
 rcases Ę.mp a with rfl|a;.exact T.eO
 rcases Ę.mp a with rfl|a;.exact T.bj
 rcases Ę.mp a with rfl|a;.exact T.aK
 cases a
theorem oV:De P w K mg base 44 D.fX ["self","floor"] (Hk K "PairedFloor" ["floor","pairs","middles"] gP):=rO T.o8 (λ_ _ _ _ _ _ e c=>vi (λ_ _=>rfl) e c) λf Fn=>G0 Fn oS M (by decide) (by decide) (by decide) λd A a s H E X b r=>by subst b;exact⟨pU (pv 0) (pv 1) M,pU (pv 0) (EJ r (vU T)<|aG (pv 1) bS) M,pU (pv 0) (FJ r (j2 T)<|aG (pv 1)<|aG (tR (pv 0) M) bS) M⟩
def gp:=T.gE.dX P base 41 cY λb s r u c p d=>ae (ð (aO eK (ϥ s u) (wx b v2 ah) (aM<|af aq<|Ë aq)<|by rfl)<|wr vz)<|ae (wS 3 d<|wx b (Ϛ 2 s T.aD T.az T.aK v0) v1)<|ae (wS 4 d<|cl b r (ny T)<|af (Ϛ 2 s T.aD T.az T.aK v0)<|Ë<|cl b r (cL T)<|af v3<|af (wx b v2 ah)<|Ë<|cR du w_mul ah<|wx b v2 ah)<|wr<|cl b r (x9 T)<|af v3<|af (Ϛ 2 s T.aD T.az T.aK v0)<|af v4<|Ë<|wx b v2 ah
theorem cq:∀n:Nat,oR P w K mg base (45+n) D.aB D.fm_PairedFloor_pair_holds "pair_holds" ["self","place","test"]<|ĵ K 3<|ay n|0=>nM T.bF.1 T.bF.2 (λ_ _ _ _ _ _ e d=>oH (λ_ _ _=>rfl) e d) λf Fn=>QZ|n+1=>have a:=cq n;T.bF.dX (cJ<|ay n) fQ λb r c p=>(ae (ky (Ĕ b r.units (wx b v2 ah) aq) (ao<|cV<|sI<|Rh b r c T.aD T.az a v0 (af v1<|af (wx b v2 ah) aV) (hk:=í _)) eE)<|ae (ky (Ĕ b r.units (wx b v2 ah) aq) (ao<|cV<|Rh b r c T.aD T.az (gp T) v0 (af v1<|af v2 aV) (hk:=ñ (by decide)<|ϔ _ _)) eE)<|ae (ky (aO eK (ϥ b.symm r.units) (wx b v2 ah) (Ċ b T.yu)<|by rfl) (ao<|cV<|lB calm_eq (w_eq b.symm r.units) (cl b r (ya T) (af (wx b (qz (n:=2) b.symm T.aD T.az T.aK (by decide) M v0) v1) aV)<|ñ (by decide)<|ϔ _ _) (wx b v2 ah)<|bu _) eE)<|ao<|cV<|wB kj (w_all (cm r) b.symm) T.acD boot_all<|af (vy (ts:=["dancer"]) ⟨M,M,M,M,M⟩ (cm r) M (cM<|by decide) (cG b.symm<|wx b (qz (n:=1) b.symm T.aD T.az T.bj (by decide) M v0) v1) (λ_ _ _ _=>gN 0) (λ_ _ _ _=>mQ) λ_ _ _ _=>(cl b r (rj T) (af (qz (n:=0) b.symm T.aD T.az T.eO (by decide) M v1)<|af v0<|af v3 aV)<|ñ (by decide)<|ϔ _ _)) aV)
theorem fS:oR P w K mg base 48 D.aB D.fm_PairedFloor_pair_holds "pair_holds" ["self","place","test"] (ĵ K 3<|ay 3):=cq T 3
def fR:=T.gb.dX P base 48 cI λb s r u c p d=>(ae (eN p (cm r) (cG s v2) (gN 3 d)<|show ã _ _ (â _ Ć.cu)from(ao<|ð (cU<|wB kj (w_all (cm r) s) T.acD boot_all<|Ë<|xn M M s c (ts:=["test"]) ⟨M,M,M,M,M⟩ (cm r) M (cM<|by decide) (cG s<|wx b v3 ah) (λ_ _ _ _ _ B b c=>gN 0) (λ_ _ _ _ _ B b c=>mQ) λ_ _ _ _ _ B b c=>Rh b r c T.aD T.az (fS T) v1<|af v2<|Ë v0)<|wr<|wx b v3 ah))<|ao<|rI b r c (cm r) T.rJ T.qU T.xS (j3 T) T.fZ<|Ë<|wx b (wx b (Ϛ 1 s T.aD T.az T.bj v0) v1) ah)
def zB:=T.adJ.dN P base 0 sQ λb s r u c p d=>wr (vx (aO eK (ϥ s u) (wx b v0 ah) (aM<|af aq<|Ë aq)<|by rfl) (aM<|af (wx b v0 ah)<|Ë<|cR du w_mul ah<|wx b v0 ah) v0)
def j4:=T.lh.dX P base 49 gi λb s r u c p d=>(ae (wS 2 d<|JJ b r c T.oZ T.az (oY T) T.aD (oV T) T.rH<|Ë v0)<|ae (Y1 (iN:=3) (hN:=d) (hiN:=rfl) (hy:=rfl) (ϝ:=by rfl) M M s c (ts:=["place"]) ⟨M,M,M,M,M⟩ (cm r) M (cM<|by decide) (fc (by rfl) T.bT<|ĩ s T.cf<|Ϛ 1 s T.aD T.az T.bj v2) (λ_ _ _ _ _ B b c=>gN 0) (λ_ _ _ _ _ B b c=>mQ) λ_ _ _ _ _ B b c=>Rh b r c T.aD T.az (fR T) v3<|af v0<|Ë v2)<|ae (X1 (i:=4) d M M (by rfl) (ts:=["dancer"]) ⟨M,M,M,M,M⟩ (cm r) M (cM<|by decide) (fc (by rfl) T.bT<|Ċ b T.fq) (λ_ _ _ _=>gN 0) (λ_ _ _ _=>mQ) λ_ _ _ _=>cH aV)<|ae (eN p (cm r) (qw s (by rfl) T.gL<|Ϛ 1 s T.aD T.az T.bj v2) (sH s (cm r) (cW (gN 5 d)<|cW (gN 6 d) mP) M (ft<|ft uL) kY)<|show ã _ _ (â _ Ć.aF)from ae (wS 7 d<|cl b r (tW T)<|af (wx b (Ϛ 2 s T.aD T.az T.aK v2)<|va 5)<|Ë<|Ž "step" (cm r) (cG s<|wx b v3<|va 5) λ_ _ _ _=>cl b r (zB T)<|Ë v0)<|ae (Cw (Ž "middle" (cm r) (cG s<|va 7) λ_ _ _ _=>cl b r (nJ T)<|af v0<|Ë<|dY aJ dZ ah) (UC (pv 4)<|wx b (va 6) ah) WD)<|ao<|Cw (Ž "middle" (cm r) (cG s<|va 7) λ_ _ _ _=>cl b r (nJ T)<|af v0<|Ë ah) (UC (pv 4)<|wx b (va 6) ah) WD)<|ao<|lA (i:=4)<|cV<|Ŧ b r c (nG T)<|Ë<|Ž "way" (cm r) (cG s<|Ŧ b r c (pX T)<|Ë v4) λ_ _ _ _=>wx b v0<|dY aJ dZ ah)
def nH:=T.pz.dX P base 50 i0 λb s r u c p d=>ae (ð (fB<|cU v3)<|wr<|Ŧ b r c (nI T)<|af v0<|af v1<|Ë v2) (ae (ð (aO jH w_lt (ĩ s T.cf v2) (Ċ b T.fq)<|bu _)<|ao<|xl s c (cm r) (by rfl) T.ik T.jM T.cz M<|Ë aq)<|wr<|Ŧ b r c (j4 T)<|af v0<|Ë v1)
def uh:=T.vr.dM P base 51 gI λb s r u c p d=>(Dw (ZT (Å:=Ļ) (j:=0) (i:=4) d<|cR fM w_sub (ĩ s T.cf<|Ϛ 1 s T.lr T.dE T.cb v0) ah)<|Dw (QX b c λB b c=>ð (Ĕ b u v4<|Ċ b T.j9)<|ao<|mM b.symm c (cm r) (by rfl) T.ij T.sE T.iu M<|Dj<|Gz (Ċ b T.j9)<|Dj Bw)<|Dw (SX (j:=0) (i:=5) b c d λB b c=>Ep b r c T.iw T.dq (ig T) (Ϛ 0 b.symm T.lr T.dE T.nL v0)<|Ë v1)<|iU<|HI (ci:=4) (i:=6) b r c d T.rJ T.afp T.acG T.ik (rR T.fZ ⟨An T.xs T.fZ T.fZ T.pe T.kg T.cz M,T.aeU,_,T.qU⟩<|rR T.pe ⟨An T.xs T.pe T.fZ T.pe T.kg T.cz M,T.akX,_,T.ain⟩<|rR T.kg ⟨An T.xs T.kg T.fZ T.pe T.kg T.cz M,T.aic,_,T.ab4⟩<|rR T.cz ⟨An T.xs T.cz T.fZ T.pe T.kg T.cz M,T.zm,_,T.jM⟩ PQ) T.lr T.dE T.cb T.j6 T.qT T.tP T.iK (i7 T) λ_ _ B b c=>dc<|kM Pb Ae Zd fk (tR (pv 0) M)<|aG (Ŧ b r c (nH T)<|af (wx b (Ϛ 1 b.symm T.lr T.dE T.cb v0)<|dY aJ dZ ah)<|af (va 5)<|af v2<|Ë v3) bS)
def kQ:=T.me.dX P base 45 gY λb s r u c p d=>(ae (wS 3 d<|vx (Ĕ b u (wx b v2 ah) aq) (mf (Ϧ s) v2 hV<|cw ah)<|gx b T.aiU T.ah0 (WX T)<|wx b v2 ah)<|wr<|vy (ts:=["dancer"]) ⟨M,M,M,M,M⟩ (cm r) M (cM<|by decide) (cG s v1) (λ_ _ _ _=>gN 0) (λ_ _ _ _=>VT<|cU<|cl b r (rj T)<|af (wx b (Ϛ 1 s T.lr T.dE T.cb v1)<|dY aJ dZ ah)<|af v0<|Ë v4) λ_ _ _ _=>v0)
theorem j5:∀n:Nat,oR P w K mg base (52+n) D.fw D.fm_Run_go_on "go_on" ["self","items","some","paired"]<|Jd Ļ K 4<|aA n|0=>T.mK.Ľ λf Fn=>PZ|n+1=>have a:=j5 n;T.mK.dM P base (52+n) (gH<|aA n) λb s r u c p d=>(iU<|WH b p (cm r) (λB b=>cG b.symm v1) (qV d M<|Or.inl rfl)<|show ã _ _ (Ō _ _<|Ć.cg<|Ć.aA n)from(iU<|Ru (Å:=Ļ) (j:=0) (Ĕ b u (wx b v4 ah) aq) (iU<|Jh b r c T.lr T.dE (uh T) (pv 0) (xi b (λB b=>wx b v4 ah)<|xi b (λB b=>v2)<|xi b (λB b=>v3) sC) λe s ws z=>by rw[(yV<|yV<|yV vj) e s ws z] (ñ (by decide)<|ϔ _ _))<|iU<|Ru (Å:=Ļ) (j:=0) (Ĕ b u (wx b v4 ah) aq) (iU<|WH b p (cm r) (λB b=>fc (by rfl) T.bT<|wx b v4 ah) (qV d M<|Or.inl rfl)<|show ã _ _ (Ō _ _<|Ć.eY<|Ć.aA n)from iU<|Jh b r c T.lr T.dE a (pv 0) (xi b (λB b=>wx b v4 ah)<|xi b (λB b=>v2)<|xi b (λB b=>v3) sC) λe s ws z=>by rw[(yV<|yV<|yV vj) e s ws z] (í _))<|iU<|Ru (Å:=Ļ) (j:=0) (Ĕ b u (wx b v4 ah) aq) (iU<|Jh b r c T.lr T.dE a (pv 0) (xi b (λB b=>wx b v4 ah)<|xi b (λB b=>v2)<|xi b (λB b=>vz) sC) λe s ws z=>by rw[(yV<|yV<|yV vj) e s ws z] (í _))<|iU<|Jh b r c T.lr T.dE a (pv 0) (xi b (λB b=>wx b v4 ah)<|EM b (Rh b r c T.lr T.dE (kQ T) v0 (af v2<|af v4 aV) (hk:=ñ (by decide)<|ϔ _ _))<|xi b (λB b=>v3) sC) λe s ws z=>by rw[(yV<|UK<|yV vj) e s ws z] (í _)))
theorem ug:oR P w K mg base 56 D.fw D.fm_Run_go_on "go_on" ["self","items","some","paired"] (Jd Ļ K 4<|aA 4):=j5 T 4
def GD:=T.aqq.dX P base 56 Su λb s r u c p d=>(DM (j:=3) b r c d M (Or.inl rfl) T.al3 T.lr ⟨T.dE,T.nL,T.cb⟩ (CS T) T.apL (af v0<|Ë v1) λB b c=>(UX (Jh b r c T.lr T.dE (ug T) (pv 3) (xi b (λB b=>v2)<|xi b (λB b=>L6 b.symm (cm r) (by rfl) T.ag2 (by rfl) T.bT<|Ċ b T.fq)<|xi b (λB b=>vz) sC) λa s ws z=>by rw[(yV<|yV<|yV vj) a s ws z])<|W0 (j:=3)<|xU<|mf (Ϧ b.symm) (Ϛ 1 b.symm T.lr T.dE T.cb v3) (cw ah) hV))
def qZ:=T.uW.dX P base 57 hY λb s r u c p d=>(ao<|B2 (tb:=Ć.bz) (ci:=3) (i:=4) b r c d T.xs T.afQ T.yE T.j6 T.qT T.tP T.iK (i7 T) λ_ _ B b c p=>wr<|Ŧ b r c (GD T)<|af v0<|af v1<|Ë v2)
def ri:=T.u2.dN P base 0 lI λb s r u c p d=>wr<|vx (Hz b v1) (wx b v1<|dY aJ dZ ah) v0
def gK:=T.aad.dX P base 58 pJ λb s r u c p d=>(ae (kx (i:=3) d M (Or.inl rfl)<|pE<|Ë v1)<|ae (wS 4 d ah)<|ae (eN p (cm r) (fc (by rfl) T.bT<|Ċ b T.nX) (gN 5 d)<|show ã _ _ (â _ Ć.aE)from(ae (wS 6 d<|Ŧ b r c (qZ T)<|af v0<|af (lC (i:=3)<|wx b v3<|dY aJ dZ ah)<|af v2<|Ë v4)<|ae (vv (i:=4) d<|ĩ s T.cf<|va 6)<|ae (wS 7 d<|lC (i:=3)<|cl b r (ri T)<|af (wx b v3<|dY aJ dZ ah)<|Ë<|va 6)<|ae (ð (xj (i:=3)<|aO eK (ϥ s u) (va 7) v3<|by rfl)<|ae (wS 8 d<|lC (i:=3)<|qv s u v3<|Ë<|va 7)<|ao<|lA (i:=3)<|cV<|aM<|af (va 8)<|Ë<|cR fM w_sub (ĩ s T.cf v3)<|va 8)<|ao<|pB s<|dc<|kM Pb Ae Zd fk (pv 3)<|aG (va 7) bS))<|ao<|mM s c (cm r) (by rfl) T.ij T.sE T.iu M<|Dj<|Gz (Ċ b T.nX)<|Dj Bw)
def kP:=T.mr.dN P base 40 gX λb s r u c p d=>(ae (wS 2 d ah)<|ae (eN p (cm r) (vw (by rfl) T.bT v1<|ĩ s T.cf v0) (gN 3 d)<|show ã _ _ (â _ Ć.aI)from(ae (ð (Ĕ b u (wx b v0 v3) aq)<|ao<|vv (i:=2) d ah)<|ao<|ð (Ĕ b u (wx b v0 v3) aq)<|ae (EY (i:=2) d ah)<|ao<|ð (Ĕ b u v2 ah)<|wr<|į s v3 ah)) aY)
def df:=T.hT.dN P base 41 dy λb s r u c p d=>ae (wS 3 d<|cl b r (lS T)<|af v0<|af v1<|Ë v2)<|ae (ð (aO lq w_is v3 bt<|bu _) aY)<|wr v3
def ua:=T.wL.dN P base 42 mX λb s r u c p d=>ae (ð (PW.pt<|jN (Ĕ b u (ĩ s T.cf v0) ah)<|gF<|aO eK (ϥ s u) (wx b v0 ah) (Ċ b T.ai2)<|by rfl)<|wr<|aM<|af aq<|Ë<|wx b v0 ah)<|ae (ð (PW.pt<|jN (Ĕ b u (ĩ s T.cf v0) ah)<|gF<|Ĕ b u (wx b v0 ah) aq)<|wr<|aM<|Ë aq)<|ae (ð (PW.pt<|jN (Ĕ b u (ĩ s T.cf v0) ah)<|gF<|Ĕ b u (wx b v0 ah) aq)<|wr<|aM<|af aq<|Ë<|cl b r (df T)<|af (wx b v0 ah)<|af ah<|Ë<|Ċ b T.gM)<|ae (ð (PW.pt<|jN (Ĕ b u (ĩ s T.cf v0) ah)<|gF<|Ĕ b u (wx b v0 ah) aq)<|wr<|aM<|af aq<|Ë<|cl b r (df T)<|af (wx b v0 ah)<|af ah<|Ë<|Ċ b T.uz) aY
theorem i8:∀n:Nat,Š P w K mg base ē (44+(n+n)) "read_items" ["names","words","depth"] []<|Ğ K 3<|aR n|0=>XU T.l4 T.mgA λ_ _ _ _ _ _ f e=>oH (λ_ _ _=>rfl) f e|n+1=>have a:=i8 n;have a:Š P w K mg base ē (44+(n+n)+1) "read_bracket" ["names","words","depth"] [] (Ğ K 3<|aW<|aR n):=T.pq.Ľ T.mgA (λ_ _ _ _ _ _ f e=>oH (λ_ _ _=>rfl) f e) λ_ _ Fn=>oy (fP<|aR n) Fn fg M M M (by decide) λg A d s H E B b r c p=>(ae (ky (aO jJ Og v2 (Ċ b T.wj)<|bu _) aY eE)<|ae (wS 3 fg.nd<|qv b.symm r.units v1<|af aq aV)<|ae (wS 4 fg.nd<|mf (Ϧ b.symm) v1 (cw<|cR mI (w_add b.symm) v3 ah)<|cw<|dY aJ dZ ah)<|ae (ky (fB<|Hz b v4) aY eE)<|ao<|cV<|cR mI (w_add b.symm) (cl b r (ua T) (af (mf (Ϧ b.symm) v1 hV<|cw v3) aV)<|by omega)<|aM<|af (cl b r a (af v0<|af v4<|af v2 aV)<|í _) aV);show 44+(n+n)+1+1=44+(n+1+(n+1))by omega▸T.l4.Ľ T.mgA (λ_ _ _ _ _ _ f e=>oH (λ_ _ _=>rfl) f e) λ_ _ Fn=>oy (hZ<|aW<|aR n) Fn bZ M M M (by decide) λg A d s H E B b r c p=>(ae (kx (i:=3) bZ.nd M (Or.inl rfl)<|pE aV)<|ae (wS 4 bZ.nd ah)<|ae (xk p (show PT _ _ (ď _<|Ć.dR<|Ć.aW<|Ć.aR n)from aO jH w_lt v4 (wB sg (Xu b.symm) T.cf Ul<|af v1 aV)<|bu _)<|show ã _ _ (â _<|Ć.dS<|Ć.aW<|Ć.aR n)from(ao<|ky (aO eK (ϥ b.symm r.units) (wx b v1 v4) v0<|by rfl) (ae (pB b.symm<|dc<|kM Pb Ae Zd fk (pv 3)<|aG (aM<|af aq<|af (wx b v1 v4) aV) bS)<|ao<|vv (i:=4) bZ.nd ah)<|ae (wS 5 bZ.nd<|cl b r (kP T) (af v1<|af v4 aV)<|by omega)<|ae (pB b.symm<|dc<|kM Pb Ae Zd fk (pv 3)<|aG (cl b r a (af v0<|af (mf (Ϧ b.symm) v1 (cw v4)<|cw<|va 5)<|af (cR mI (w_add b.symm) v2 ah) aV)<|í _) bS)<|ao<|wS 4 bZ.nd<|va 5))<|ao<|lA (i:=3)<|cV v3)
theorem rg:Š P w K mg base ē 52 "read_items" ["names","words","depth"] [] (Ğ K 3<|aR 4):=i8 T 4
theorem oW:oR P w K mg base 41 D.dw D.fm_Book_names "names" ["self"] (Nh K 1 ba):=nM T.ly.1 T.ly.2 (λ_ _ _ _ _ _ f d=>bind1 (λ_=>rfl) f d) λg Fn=>FF lJ lV Fn qO M M M (by decide) λe A a s H E B b r c p=>D6<|V1<|U1 (cm r) T.yh boot_sorted<|Lp b T.iw T.dq T.rF v0
theorem eW:oR P w K mg base 41 D.dw D.fm_Book_names "names" ["self"] (ĵ K 1 ba):=oR.x<|oW T
def de:=T.pk.dN P base 52 fO λb s r u c p d=>ae (ð (fB<|cU<|wB bK (eU s) T.aH Ν<|af v1<|Ë<|Ya T.acC boot_str) aY)<|ae (wS 2 d<|vx (CM v1) (jO s v1<|Ë aq)<|cH aV)<|wr<|cl b r (rg T)<|af (Gn b r c T.iw T.dq (eW T) v0)<|af v2<|Ë ah
def fh:=T.px.dN P base 59 iZ λb s r u c p d=>(ae (wS 3 d vz)<|ae (WC (tb:=Ć.gW) (th:=Ć.gV) s M M (by rfl) T.ij (λnm e h=>T.xs.ex nm e _ _ h T.iu) (λ_ _ B b c p=>ao<|UH<|Ŧ b r c (gK T)<|af v0<|af v1<|Ë<|cl b r (de T)<|af v0<|Ë v2) λa B b c=>have r:=r.ă (v:=L<|.ref a) (by decide);ao (wS 3 d vz))<|wr v3)
def kO:=T.mq.dN P base 59 eF λb s r u c p d=>(ae (wS 2 d bt)<|ae (wS 3 d bt)<|ae (Z1 (tb:=Ć.fF) (th:=Ć.fE) (i:=4) s M M d M M (by rfl) T.j6 (λnm e h=>T.xs.ex nm e _ _ h T.iK) (λ_ _ B b c p=>ao<|UH<|Ŧ b r c (gK T)<|af v0<|af v1<|Ë<|cl b r (de T)<|af v0<|Ë aq) λa B b c=>have r:=r.ă (v:=L<|.ref a) (by decide);ae (wS 2 d<|iV b.symm T.xs T.afQ v4 M) (ao<|wS 3 d<|iV b.symm T.xs T.yE v4 M))<|wr<|fD (ż s u v2 ah)<|fD (wB kh (Wj s T.xs) T.aH Ν<|af v3<|Ë<|Kh b T.afp T.pe)<|jP<|ż s u (iV s T.xs T.aha v3 M) ah)
def vV:=T.aaf.dX P base 60 iB λb s r u c p d=>(ae (wS 1 d<|Fx (dws:=[.n]) (ĥ:=[.n]) b r c (nI T) (.cons rfl .nil) λ_=>by simp[Ê,RW] (af (Ċ b T.yt)<|Ë<|Ep b r c T.iw T.dq (ig T) v0<|Ë aq) λa ws z=>by rw[(cx<|cx iz) a ws z];rfl)<|ae (ð (PW.pt<|sG (fB<|cU<|cl b r (fh T)<|af v0<|af (Ċ b T.yt)<|Ë aq)<|lz<|fB<|cU<|cl b r (fh T)<|af v0<|af v1<|Ë aq) aY)<|ae (ð (fB<|cU<|cl b r (fh T)<|af v0<|af (į s (aM<|Ë<|aM<|af (dY aJ dZ ah)<|af (dY aJ dZ ah)<|Ë ah)<|mf (Ϧ s) v1 (cw ah) hV)<|Ë aq) aY)<|ae (ð (fB<|cU<|cl b r (kO T)<|af v0<|Ë<|į s (aM<|Ë<|aM<|af (dY aJ dZ ah)<|af (dY aJ dZ ah)<|Ë ah)<|mf (Ϧ s) v1 (cw ah) hV) aY)<|wr<|ż s u (Ŧ b r c (gK T)<|af v0<|af (Ċ b T.yt)<|Ë<|cl b r (de T)<|af v0<|Ë aq)<|aM<|af ah<|Ë ah)
def vW:=T.aah.dN P base 41 kD λb s r u c p d=>ae (wS 2 d<|Gn b r c T.iw T.dq (eW T) v0)<|ae (wS 3 d<|wx b v2<|Ż v1<|ĩ s T.cf v2)<|ae (wS 4 d<|Ż (cR ki w_div v1 ah) ah)<|ae (ð (aO jH w_lt v4 ah<|bu _)<|wr v3)<|ae (wS 5 d<|wx b v2<|Ż (cR ki w_div v1 ah)<|ĩ s T.cf v2)<|ae (wS 6 d<|wx b (cH<|We M)<|cR fM w_sub v4 ah)<|wr<|cR mH Lo (cR mH Lo (va 6) v3)<|wx b (cH<|af aq<|Ë<|cR mH Lo (cR mH Lo aq<|va 5) aq)<|Ż (cR ki w_div v1 ah) ah
def oU:=T.se.dN P base 42 gG λb s r u c p d=>wr (DY s aq<|Ë<|Ž "_law_cell" (cm r) (cG s v1) λ_ _ _ _=>cl b r (vW T)<|af v1<|Ë<|Ż (cR du w_mul v0 ah) ah)
def nz:=T.ph.dN P base 0 iX λb s r u c p d=>wr<|aM<|af (dY aJ dZ<|wx b v0 ah)<|af (wx b v0 ah)<|Ë<|Ż (į s (wx b v0 ah) ah)<|Ċ b T.kU
def Y3:=T.af0.dN P base 40 xC λb s r u c p d=>ae (wS 2 d v0) (ae (eN p (cm r) (fc (by rfl) T.bT<|Ż v1<|Ċ b T.kU) (gN 3 d)<|show ã _ _ (â _ Ć.p9)from ao<|wS 2 d<|wT iL (qB s) T.kR Mf<|Ë<|Ž "stand" (cm r) (cG s v2) λ_ _ _ _=>cl b r (nz T)<|Ë v0)<|wr v2)
def ud:=T.wQ.dN P base 49 jm λb s r u c p d=>(ae (wS 2 d<|Ċ b T.yt)<|ae (eN p (cm r) (cG s<|mf (Ϧ s) v1 (cw ah)<|cw ah) (gN 3 d)<|show ã _ _ (â _ Ć.eZ)from(ae (wS 4 d bt)<|ae (WC (tb:=Ć.jU) (th:=Ć.jT) s M M (by rfl) T.eg (λnm f h=>T.xs.ex nm f _ _ h T.uT) (λ_ _ B b c p=>(ao<|wS 4 d<|Fx (dws:=[.n]) (ĥ:=[.n]) b r c (nI T) (.cons rfl .nil) λ_=>by simp[Ê,RW] (af v2<|Ë<|Ep b r c T.iw T.dq (ig T) v0<|Ë<|wx b (Gn b r c T.iw T.dq (eW T) v0)<|Ż v3<|ĩ b.symm T.cf<|Gn b r c T.iw T.dq (eW T) v0) λa ws z=>by rw[(cx<|cx iz) a ws z];rfl)) λe B b c=>have r:=r.ă (v:=L<|.ref e) (by decide);ao (wS 4 d bt))<|ao<|ð (aO dG jg v4 bt<|bu _)<|ao<|wS 2 d v4))<|wr<|cl b r (Y3 T)<|af v2<|Ë<|Ż (cl b r (i6 T)<|af v1<|Ë ah) ah)
def zF:=T.adO.dN P base 57 sT λb s r u c p d=>(ae (kx (i:=3) d M (Or.inl rfl)<|pE<|Ë v1)<|ae (wS 4 d ah)<|ae (eN p (cm r) (fc (by rfl) T.bT ah) (gN 5 d)<|show ã _ _ (â _ Ć.bq)from(ae (wS 6 d bt)<|ae (wS 7 d bt)<|ae (VH (tb:=Ć.jk) (th:=Ć.ji) (th2:=Ć.jj) (i:=8) s M M d M M (by rfl) T.j6 (by rfl) T.ij (λnm e h=>T.xs.ex nm e _ _ h T.iK) (λnm e h=>T.xs.ex nm e _ _ h T.iu) (λ_ _ B b c p=>(ao<|wS 6 d<|Ŧ b r c (GD T)<|af v0<|af (lC (i:=3)<|wx b v3<|dY aJ dZ ah)<|Ë v2)) (λa B b c=>have r:=r.ă (v:=L<|.ref a) (by decide);ao (wS 7 d<|aM<|af aq<|af (į b.symm v4<|iV b.symm T.xs T.afQ (va 8) M)<|Ë<|iV b.symm T.xs T.yE (va 8) M)) λa B b c=>have r:=r.ă (v:=L<|.ref a) (by decide);ao (wS 7 d<|aM<|af aq<|af ah<|Ë bt))<|ae (ð (aO dG jg (va 7) bt<|bu _)<|wr<|va 7)<|ae (wS 4 d<|į s v4<|ĩ s T.cf<|va 6)<|ae (pB s<|dc<|kM Pb Ae Zd fk (pv 3)<|aG (lC (i:=3)<|wx b (į s (cH<|Ë<|wx b v3<|dY aJ dZ ah)<|va 6)<|dY aJ dZ ah) bS)<|ao<|ð (xj (i:=3)<|aO eK (ϥ s u) (wx b v3<|dY aJ dZ ah) (mf (Ϧ s) v3 hV<|cw<|dY aJ dZ ah)<|by rfl)<|ae (wS 9 d<|lC (i:=3)<|qv s u v3<|Ë<|wx b v3<|dY aJ dZ ah)<|ao<|lA (i:=3)<|cV<|aM<|af aq<|af (aM<|af (va 9)<|Ë<|cR fM w_sub (cR fM w_sub (ĩ s T.cf v3) ah)<|va 9)<|Ë bt))<|wr<|aM<|af aq<|af ah<|Ë bt)
def nC:=T.aag.dN P base 0 pL λb s r u c p d=>ae (wS 1 d<|cH<|af (wB kh (Wj s T.xs) T.aH Ν<|af v0<|Ë<|Kh b T.rJ T.fZ)<|af (wB kh (Wj s T.xs) T.aH Ν<|af v0<|Ë<|Kh b T.afp T.pe)<|af (wB kh (Wj s T.xs) T.aH Ν<|af v0<|Ë<|Kh b T.acG T.kg)<|Ë<|wB kh (Wj s T.xs) T.aH Ν<|af v0<|Ë<|Kh b T.ik T.cz)<|ae (ð (PW.pt<|sG (cU<|wx b v1 ah)<|lz<|cU<|wx b v1 ah)<|wr<|į s v1<|cH<|Ë<|iV s T.xs T.aha v0 M)<|ae (ð (cU<|wx b v1 ah)<|wr<|į s v1<|cH<|af (iV s T.xs T.am2 v0 M)<|Ë<|iV s T.xs T.afP v0 M)<|wr v1
theorem DS{f:Addr}{g:FuncData}(Fn:đ K "law" "law" Ku f g):ä P w K mg base ē 62 f g ["_law_script"] (Ğ K 1 Hu):=oy BB Fn fG M M M (by decide) λj A a s H E B b r c p=>(ae (wS 1 fG.nd<|KJ b r c T.aiT T.dq T.rF T.iw (WW T) T.al6<|Ë<|VJ b r<|uc T)<|ae (ð (Ĕ b r.units (Ż (cl b r (i6 T)<|af v0<|Ë ah) ah) ah)<|wr<|Ŧ b r c (vV T)<|Ë v1)<|ae (wS 2 fG.nd<|cl b r (de T)<|af v1<|Ë<|cl b r (oU T)<|af v1<|Ë<|mf (Ϧ b.symm) v0 (cw ah)<|cw ah)<|ae (wS 3 fG.nd<|cl b r (ud T)<|af v1<|Ë v0)<|ae (wS 4 fG.nd<|cl b r (zF T)<|af v1<|af v3<|Ë v2)<|ae (wS 5 fG.nd bt)<|ae (wS 6 fG.nd bt)<|ae (wS 7 fG.nd bt)<|ae (wS 8 fG.nd vz)<|ae (VH (tb:=Ć.vE) (th:=Ć.vC) (th2:=Ć.vD) (i:=9) b.symm rfl M fG.nd M M (by rfl) T.j6 (by rfl) T.ij (λnm e h=>T.xs.ex nm e _ _ h T.iK) (λnm e h=>T.xs.ex nm e _ _ h T.iu) (λ_ _ B b c p=>ao<|wS 5 fG.nd<|Ŧ b r c (gK T)<|af v1<|af v3<|Ë v2) (λd B b c=>have r:=r.ă (v:=L<|.ref d) (by decide);ae (wS 6 fG.nd<|iV b.symm T.xs T.afQ (va 9) M) (ao<|wS 7 fG.nd<|iV b.symm T.xs T.yE (va 9) M)) λd B b c=>have r:=r.ă (v:=L<|.ref d) (by decide);ao (wS 8 fG.nd vz))<|ae (ð (Ĕ b r.units (wx b v4 ah) aq)<|wr<|fD (lB lq w_is (va 5) bt<|bu _)<|fD (sI<|va 8)<|fD (ż b.symm r.units (va 6)<|wx b v4 ah)<|jP<|ż b.symm r.units (cl b r (nC T)<|Ë<|va 7)<|cl b r (nC T)<|Ë<|wx b v4 ah)<|ae (ð (Ĕ b r.units (wx b v4 ah) aq)<|wr<|fD (lB lq w_is (va 5) bt<|bu _)<|jP<|va 8)<|wr<|fD (wB bK (eU b.symm) T.aH Ν<|af (va 5)<|Ë<|Ya T.kR Mf)<|fD (ż b.symm r.units (va 5)<|wx b v4 ah)<|jP<|sI<|wB bK (eU b.symm) T.aH Ν<|af (wx b (va 5) ah)<|Ë<|Ya T.ag3 boot_bool)
theorem all_mk(a:∀ns:List Int,ns.length<=63->Hu [.l<|ns.map .int]=.ok (.B U)){l:W.OpenLaw}{d:Addr}(b:mg "law"=L (.ref d)):∃c:FuncData,(∀(s:Shared)(v:Value),BindsTo s c ⟨[v],[]⟩ [("_law_script",v)])/\∀base:Heap,K.In base->base.Ns mainGlobals mg->ä l.prog w K mg base ē 62 d c ["_law_script"] (WS.Sj K):=BQ T.aqs T.mgA b (λ_ _ _ _ _ _ _=>rfl) (λ_ _ _ Fn=>DS T Fn) a
omit T
def ant{a0 a1 a2 a3 a4 Å I H E G k z j o s A p a m v d h u c C i y x q n r g e B b f}(T:Txt w K mg ⟨a0,a1,a2,a3,a4,Å,I,H,E,G,k,z,j,o,s,A,p,a,m,v,d,h,u,c,C,i,y,x,q,n,r,g,e,B,b,f⟩){l:W.OpenLaw}{J:Addr}(t:mg "law"=L (.ref J)):=all_mk T VY (l:=l) t
def walk{l:W.OpenLaw}{j:Program}{b:List Str}{p:(Str->Option Value)->Heap->Prop}{g:World->Heap->Prop}{d:DefRec}{K:Params->W.Frag}(o:l.most=L 63)(c:d.params.defaults=[])(q:∀(w:World)(h:Heap),g w h->(K w.params).In h)(F:∀(w:World)(mg:Str->Option Value)(i:Addr)(h:Heap),(K w.params).In h->h.Ns mainGlobals mg->mg d.name=L (.ref i)->∃e:FuncData,(∀(s:Shared)(u:Value),BindsTo s e ⟨[u],[]⟩ [("_law_script",u)])/\∀base:Heap,(K w.params).In base->base.Ns mainGlobals mg->ä l.prog w (K w.params) mg base ē 62 i e ["_law_script"] (WS.Sj<|K w.params)):W.WalkO j b p g l.row.toRowW d [] λf vs=>PySem.call f vs:=L2.YX (n:=63) (k:=62) (x:="_law_script") (CX:=λ_=>ē) (sp:=λw=>WS.Sj<|K w.params) o (by decide) c ⟨λ_=>rfl,by decide,by decide,M⟩ q F (λ_ _ a m r _ t=>⟨a,m,M,t,r,λ_=>rfl⟩) λ_ _ _ _ _ z=>z
end Ć
local macro_rules|`(tactic|trivial)=>`(tactic|first|k_is|exact M)
open PySem PySem.W PyProof.Rows
set_option maxRecDepth 100000 in
set_option maxHeartbeats 0 in
theorem PySem.Challenge.cw_squarecall_k77_whole_rounds_holds : PySem.Challenge.rw_squarecall_k77_whole_rounds.Holds := by
 w_on;o_law;k_head;(case hw=>w_witness2)
 k_fill
 refine Ć.walk (l:=PySem.Challenge.rw_squarecall_k77_whole_rounds) rfl rfl (λw h Y=>W.kIn_of Y) ?F
 case F =>
 intro w mg fa h KX G hmg
 refine' Ć.ant ?T hmg
 case T =>
  constructor<;>(try dsimp only)<;>first|(exact WS.anr KX G (by k_is) (by k_is) (by k_is) (by k_is) ⟨rfl,rfl,rfl,by decide +kernel,rfl,by decide +kernel,by decide +kernel⟩ (by intro _ _ _ _ _ _ u h;first|exact WS.bind1 (by intros;rfl) u h|exact WS.vi (by intros;rfl) u h|exact WS.oH (by intros;rfl) u h|exact WS.NV (by intros;rfl) u h|exact WS.anm (by intros;rfl) u h)<|by decide)|(exact⟨⟨by k_is,by k_is,by k_is⟩,WS.ag4 (by k_is) (by k_is) (by k_is),⟨⟨rfl,rfl,rfl,by decide +kernel,rfl,by decide +kernel,by decide +kernel⟩,(by intro _ _ _ _ _ _ u h;first|exact WS.bind1 (by intros;rfl) u h|exact WS.vi (by intros;rfl) u h|exact WS.oH (by intros;rfl) u h|exact WS.NV (by intros;rfl) u h|exact WS.anm (by intros;rfl) u h),by decide⟩⟩)|(exact⟨_,W.mg_of KX G (by k_is),by repeat first|exact WS.abZ|exact WS.abX|exact .nil|refine WS.abW (by k_is) (by decide) ?_|refine .cons ?_ ?_⟩)|(exact WS.D5 (by k_is) (by decide)<|by repeat first|exact WS.abZ|exact WS.abX|exact .nil|refine WS.abW (by k_is) (by decide) ?_|refine .cons ?_ ?_)|(exact WS.aqC (by k_is) (by k_is) (by k_is)<|by k_is)|(exact WS.atA_mk (by k_is) (by k_is) (by k_is)<|by k_is)|(exact WS.ans (by k_is) (by k_is) (by k_is) (by k_is)<|by k_is)|(exact WS.PY (by k_is) (by repeat first|exact .nil|exact .cons rfl .nil|exact .cons ⟨_,rfl⟩ .nil|refine .cons rfl ?_|refine .cons ⟨_,rfl⟩ ?_)<|by decide)|(exact WS.ady (tab:=[("FloorError",_),("NoCall",_),("NoName",_),("NoProgram",_),("TooMany",_),("NoPairs",_),("Blind",_),("Out",_),("Meet",_),("Broken",_)]) (.head _) (by(refine WS.all_cons (WS.afR (by trivial) (by trivial) (by trivial) (by trivial) (by trivial)<|by trivial) ?_);(iterate 9 (refine WS.all_cons (WS.aje (by trivial) (by trivial) (by trivial) (by trivial) (by trivial)<|by trivial) ?_));exact WS.all_nil) ((WS.all_cons (.inl<|by simp)<|WS.all_cons (.inr<|by k_is)<|WS.all_cons (.inl<|by simp)<|WS.all_cons (.inl<|by simp)<|WS.all_cons (.inl<|by simp)<|WS.all_cons (.inl<|by simp)<|WS.all_cons (.inl<|by simp)<|WS.all_cons (.inr<|by k_is)<|WS.all_cons (.inl<|by simp)<|WS.all_cons (.inl<|by simp)<|WS.all_cons (.inl<|by simp)<|WS.all_cons (.inl<|by simp) WS.all_nil)) (show (["FloorError","NoCall","NoName","NoProgram","TooMany","NoPairs","Blind","Out","Meet","Broken"]:List String).Nodup from by decide) (by decide) (by trivial)<|by trivial)|(apply WS.asS<;>first|exact WS.ap4 (by decide)|exact WS.ajc (by k_is)|exact WS.am1 (by trivial) (by trivial)<|by trivial)|(exact WS.amF (by k_is) (by k_is)<|by k_is)|(exact⟨⟨by k_is,by k_is,by k_is⟩,WS.ag4 (by k_is) (by k_is)<|by k_is⟩)|(exact⟨by trivial,by trivial,by trivial,by trivial⟩)|(exact λ_ _=>W.mg_of KX G)|(refine W.mg_of KX G ?_;k_is)|(refine W.mg_none_of KX G ?_;k_is)|(exact⟨_,_,by k_is,by exact .cons ⟨⟨_,rfl⟩,rfl,⟨_,rfl⟩⟩<|.cons ⟨⟨_,rfl⟩,rfl,⟨_,rfl⟩⟩<|.cons ⟨⟨_,rfl⟩,rfl,⟨_,rfl⟩⟩<|.cons ⟨⟨_,rfl⟩,rfl,⟨_,rfl⟩⟩<|.nil⟩)|(exact⟨_,_,by k_is,by exact .cons ⟨⟨_,rfl⟩,rfl,rfl⟩<|.cons ⟨⟨_,rfl⟩,rfl,rfl⟩<|.cons ⟨⟨_,rfl⟩,rfl,rfl⟩<|.cons ⟨⟨_,rfl⟩,rfl,rfl⟩<|.nil⟩)|(refine⟨by decide,?_⟩;show W.nsIn _ _ _=_;k_is)|(exact L2.ko.mk (by k_is)<|by kernel_rfl)|(exact L2.Ÿ.mk (by trivial) (by trivial) (by trivial)<|by trivial)|(show W.findIn _ _ _=_;trivial)|(first|kernel_rfl|exact rfl)|(k_is)|(exact rfl)

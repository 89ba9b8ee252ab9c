import PyProof.Rows.All
import Wide.All
import OpenK.AllK
import Wide.FinOn
import Lean
import PyProof.EqAt
import PyProof.EqKinds
import PyProof.TupleCall
import PySem.Challenge.RW_squarecall_k66_floors_come_to
set_option linter.all false
def aoY:=@PySem.wpAny_bind
def aoZ:=@PySem.Heap.get?_push_of_some
def ao0:=@List.getElem?_set_ne
def ao1:=@if_pos
def ao2:=@if_neg
def ao3:=@List.getElem?_eq_some_iff
def ao4:=@PySem.wpAny_pure
def ao5:=@List.getElem?_eq_getElem
def ao6:=@Nat.le_refl
def ao7:=@Bool.false_ne_true
def ao8:=@List.getElem?_set_self
def ao9:=@List.map_cons
def apa:=@Nat.lt_of_lt_of_le
def apb:=@PySem.Heap.lt_size
def apc:=@Nat.le_trans
def apd:=@PySem.Heap.get?_push_size
def ape:=@Ne.symm
def apf:=@Option.some.inj
def apg:=@Bool.and_eq_true
def aph:=@List.length_cons
def api:=@decide_eq_false
def apj:=@List.getD_eq_getElem?_getD
def apk:=@List.length_map
def apl:=@List.mem_cons
def apm:=@Nat.ne_of_lt
def apn:=@List.mem_cons_self
def apo:=@List.getElem?_map
def apq:=@List.getElem?_append_left
def apr:=@PySem.boot_len
def aps:=@List.size_toArray
def apt:=@List.mem_append_right
def apu:=@PySem.Heap.get?_update_other
def apv:=@List.mem_map
def apw:=@List.getElem?_append_right
def apx:=@PySem.wpAny_mono
def apy:=@Option.map_eq_some_iff
def apz:=@decide_eq_true_eq
def apA:=@beq_eq_false_iff_ne
def apB:=@Bool.eq_iff_iff
def apC:=@List.all_eq_true
def apD:=@List.length_append
def apE:=@Bool.false_eq_true
def apF:=@List.drop_eq_getElem_cons
def apG:=@List.mem_cons_of_mem
def apH:=@Nat.zero_le
def apI:=@List.mem_of_getElem?
def apJ:=@PySem.wpAny_field
def apK:=@List.append_nil
def apL:=@List.mem_append_left
def apM:=@PySem.mem_of_lookup
def apN:=@if_false
def apO:=@decide_eq_true
def apP:=@PySem.wpAny_truthy_bool
def apQ:=@Nat.ne_of_gt
def apR:=@PySem.Heap.get?_update_self
def apS:=@List.set_cons_zero
def apT:=@List.getElem?_replicate
def apU:=@if_true
def apV:=@PySem.wpAny_call_entry
def apW:=@List.mem_range
def apX:=@PySem.wpAny_newObj_type
def apY:=@List.mem_append
def apZ:=@PyProof.Rows.boot_isinstance
def ap0:=@List.lookup_cons
def ap1:=@List.cons_append
def ap2:=@List.mem_singleton
def ap3:=@PySem.Heap.get?_none_of_le
def ap4:=@PySem.F.plainAttrs_list
def ap5:=@PyProof.Rows.callWith_type1
def ap6:=@List.find?_cons
def ap7:=@Nat.lt_irrefl
def ap8:=@beq_iff_eq
def ap9:=@PySem.F.excBase_ValueError
def aqa:=@List.getElem_mem
def aqb:=@List.set_cons_succ
def aqc:=@congrArg
def aqd:=@List.nodup_cons
def aqe:=@PySem.F.slot_list_append
def aqf:=@PySem.F.type_list_append
def aqg:=@PySem.W.kia_one
def aqh:=@PySem.wpAny_callSpecial?_slot
def aqi:=@List.length_eq_zero_iff
def aqj:=@Array.length_toList
def aqk:=@List.not_mem_nil
def aql:=@PySem.F.plain_min_loop
def aqm:=@Nat.le_add_right
def aqn:=@PySem.wpAny_Call_Name_kw
def aqo:=@List.map_map
def aqp:=@PySem.wpAny_passesOwn
def aqq:=@List.length_replicate
def aqr:=@List.nil_append
def aqs:=@PySem.F.slot_NoneType_hash
def aqt:=@PySem.wpAny_holding
def aqu:=@PySem.F.slot_tuple_iterator_next
def aqv:=@Array.getElem?_eq_some_iff
def aqw:=@Int.toNat_natCast
def aqx:=@PySem.wpAny_seqItems
def aqy:=@Nat.lt_succ_self
def aqz:=@Option.isSome_iff_exists
def aqA:=@List.length_take
def aqB:=@List.map_nil
def aqC:=@List.drop_length
def aqD:=@PySem.plainObj_wpAny_Assign_Attribute
def aqE:=@PyProof.Rows.slot_tuple_getitem
def aqF:=@PySem.wpAny_specialOf
def aqG:=@PySem.wpAny_execs_nil
def aqH:=@PySem.Obj.data_mapFields
def aqI:=@PySem.wpAny_setField_rec
def aqJ:=@List.map_append
def aqK:=@PySem.sizeLine_eq
def aqL:=@Nat.le_succ
def aqM:=@PySem.F.slot_str_split
def aqN:=@List.getLast?_eq_some_getLast
def aqO:=@PySem.PassesOwn.leaving
def aqP:=@PySem.wpAny_loadPart_at
def aqQ:=@PySem.F.slot_enumerate_next
def aqR:=@List.drop_zero
def aqS:=@Bool.beq_eq_decide_eq
def aqT:=@PySem.wpAny_callSpecialIfBoundUnlessNone?_slot
def aqU:=@Nat.min_le_right
def aqV:=@PySem.wpAny_forIn_list
def aqW:=@List.extract_eq_drop_take'
def aqX:=@Bool.not_true
def aqY:=@List.getElem?_range
def aqZ:=@List.mem_map_of_mem
def aq0:=@List.length_nil
def aq1:=@Nat.le_of_eq
def aq2:=@PySem.Calls.spliced_cons
def aq3:=@PySem.codeAny_mono
def aq4:=@PySem.F.args_tuple_add_2
def aq5:=@Nat.lt_of_lt_of_eq
def aq6:=@List.zip_cons_cons
def aq7:=@PySem.wpAny_pyIter_tuple
def aq8:=@Nat.lt_of_le_of_lt
def aq9:=@Nat.succ.inj
def ara:=@PySem.F.args_str_split_2
def arb:=@PySem.Heap.size_push
def arc:=@PySem.typeIs_str
def ard:=@PySem.wpAny_setField
def arf:=@PySem.F.entry_tuple_add
def arh:=@PySem.F.entry_str_split
def ari:=@PySem.wpAny_pyIter_enum
def arj:=@List.append_assoc
def ark:=@PySem.F.slot_tuple_hash
def arl:=@Nat.le_of_lt_succ
def arn:=@PySem.F.slot_tuple_add
def aro:=@PySem.F.plainAttrs_str
def arp:=@PySem.Str.ofString_eq_toList
def arq:=@beq_self_eq_true
def ars:=@PySem.wpAny_isInstance
def art:=@Array.toList_inj
def aru:=@List.length_singleton
def arv:=@Array.getElem?_toList
def arw:=@PySem.Obj.isFreed_of_fields
def arx:=@PySem.isSubtype_tuple_tuple
def ary:=@Classical.choose_spec
def arz:=@Nat.le_of_lt
def arA:=@PySem.wpAny_call
def arB:=@PyProof.Rows.callWith_builtin1
def arC:=@PySem.Calls.evalArgs_plain
def arD:=@PySem.call_meets
def arE:=@List.cons.injEq
def arF:=@PySem.Around.under_plainId
def arG:=@Bool.or_eq_true
def arH:=@Array.toList_extract
def arI:=@List.drop_eq_nil_iff
def arJ:=@PySem.F.slot_str_ascii_iterator_iter
def arK:=@PySem.F.slot_tuple_eq
def arL:=@PyProof.Rows.boot_tuple
def arM:=@List.filterMap_cons
def arN:=@ne_true_of_eq_false
def arO:=@PySem.wpAny_tryCatch
def arP:=@PySem.F.args_tuple_iterator_next_1
def arQ:=@PySem.wpAny_letGo
def arR:=@Array.find?_toList
def arS:=@PySem.F.entry_tuple_iterator_next
def arT:=@PySem.wpAny_tupleItemsOf
def arU:=@Array.forIn_toList
def arV:=@Int.sub_eq_add_neg
def arW:=@PySem.Calls.Name_function_global
def arX:=@PySem.W.looks_clsIn
def arY:=@PySem.wpAny_standAt
def arZ:=@PySem.plainId_quiet
def ar0:=@PySem.wpAny_letOwnedTupleGo_enum
def ar1:=@List.any_cons
def ar2:=@PySem.F.slot_str_partition
def ar3:=@PySem.Within.cons
def ar4:=@PySem.Heap.Ns1.of_empty
def ar5:=@Bool.not_eq_true'
def ar6:=@Nat.lt_succ_of_lt
def ar7:=@PySem.wpAny_pyIter_list
def ar8:=@List.isEmpty_cons
def ar9:=@Option.some.injEq
def asa:=@PySem.wpAny_rule
def asb:=@PySem.F.slot_dict_getitem
def asd:=@Array.getElem?_eq_getElem
def ase:=@List.pairwise_iff_getElem
def asf:=@List.getLastD_eq_getLast?
def ash:=@List.getElem?_eq_none_iff
def asi:=@PySem.wpAny_lookBehind
def asj:=@PySem.pastItsLine_dict
def asl:=@PySem.W.callWith_K
def asm:=@List.getElem?_take_of_lt
def asn:=@PySem.concat_meets
def aso:=@PySem.noFill_tuple_add
def asp:=@List.length_drop
def asq:=@Nat.le_of_not_lt
def asr:=@PySem.wpAny_comprehension_free
def ass:=@PySem.F.entry_min_loop
def asu:=@Option.bind_some
def asv:=@List.of_mem_zip
def asw:=@Nat.min_le_left
def asx:=@PySem.codeAny_builtin
def asy:=@PySem.wpAny_updateSeq
def asz:=@PySem.W.methodCall_KW
def asA:=@PySem.typeIs_none
def asB:=@PySem.wpAny_loadPart
def asC:=@PySem.refuseLoop_ref
def asD:=@List.drop_take
def asE:=@Nat.not_lt
noncomputable section
set_option compiler.extract_closed false
set_option Elab.async false
set_option linter.all false
set_option maxRecDepth 100000
namespace L2
open PySem PySem.Spec PyProof.Rows
abbrev Key:=Sum (Option Int) Str
noncomputable def i1:Int:=0xFCA86420
def abQ{prog:Program}{w:World}{A:Around}{E:Value->Shared->Prop}{s:Shared}{Q:Int->Shared->Prop}(h:Q i1 {s with toks:=s.toks+1}):wpAny (model prog w) A (pyHash .none) Q E s:=by unfold pyHash;have a:[Value.none].any Value.onHeap=false:=rfl;refine aoY ?_;rw[cRoomFor,ao2 (by rw[a];exact ao7)];refine ao4 ?_;refine aoY (aqF (asA s) aqs.lookup ?_);show wpAny _ _ (if(some (Value.builtin "NoneType.__hash__")==some Value.none)=true then _ else _) Q E s;rw[ao2 (by rw[beq_builtin_none];exact ao7)];refine aoY (aqF (asA s) aqs.lookup ?_);show wpAny _ _ (callSpecialIfBoundUnlessNone? .none "__hash__" _ >>=_) Q E s;refine aoY (aqT (asA s) aqs (apV aqs (asA s) PySem.F.entry_NoneType_hash (show wpAny _ _ (do ret (<-mkInt i1)) _ _ s from wpAny_ret_mkInt ?_) (PySem.F.args_NoneType_hash_1 _)));show wpAny _ _ (if(decide (-(2:Int)^63<=i1)&&decide (i1<2^63))=true then _ else _) Q E _;rw[ao1 (by decide)];exact ao4 h
noncomputable def yP:Key->Value->Bool|.inl (some k),v=>Value.isInt k v|.inl none,.none=>true|.inl none,_=>false|.inr x,v=>Value.isStrOf x v
def aoH(w:World):Key->Int|.inl (some k)=>hashInt k|.inl none=>i1|.inr x=>hashStr w x
def br:∀{k:Key}{v:Value},yP k v=true->(∃i t,k=Sum.inl (some i)/\v=Value.int i t)\/(∃x t,k=Sum.inr x/\v=Value.str x t)\/(k=Sum.inl none/\v=.none)
|.inl (some i),v,h=>by obtain⟨t,e⟩:=Value.isInt_shape (k:=i) (v:=v) h;exact .inl ⟨i,t,rfl,e⟩|.inl none,v,h=>by cases v<;>first|exact .inr (.inr ⟨rfl,rfl⟩)|exact nomatch h
|.inr x,v,h=>by obtain⟨t,e⟩:=Value.isStrOf_shape (x:=x) (v:=v) h;exact .inr (.inl ⟨x,t,rfl,e⟩)
def abE(i:Int)(t:Tok):yP (.inl (some i)) (.int i t)=true:=by simp[yP,Value.isInt]
def abD(x:Str)(t:Tok):yP (.inr x) (.str x t)=true:=by simp[yP,Value.isStrOf]
def ako(a b:Int):decide ((Sum.inl (some a):Key)=Sum.inl (some b))=(a==b):=by
 by_cases e:a=b;·subst e;simp
 ·have h:¬(Sum.inl (some a):Key)=Sum.inl (some b):=λq=>e (apf (Sum.inl.inj q));rw[api h];exact(apA.mpr e).symm
def akl(a b:Str):decide ((Sum.inr a:Key)=Sum.inr b)=decide (a=b):=by
 by_cases e:a=b;·subst e;simp
 ·have h:¬(Sum.inr a:Key)=Sum.inr b:=λq=>e (Sum.inr.inj q);rw[api h,api e]
def key_is(a:Int)(b:Str):decide ((Sum.inl (some a):Key)=Sum.inr b)=false:=api (λq=>nomatch q)
def akp(a:Int):decide ((Sum.inl (some a):Key)=Sum.inl none)=false:=api (λq=>nomatch q)
def akk(a:Str)(b:Int):decide ((Sum.inr a:Key)=Sum.inl (some b))=false:=api (λq=>nomatch q)
def akj(a:Str):decide ((Sum.inr a:Key)=Sum.inl none)=false:=api (λq=>nomatch q)
def akn(a:Int):decide ((Sum.inl none:Key)=Sum.inl (some a))=false:=api (λq=>nomatch q)
def akm(a:Str):decide ((Sum.inl none:Key)=Sum.inr a)=false:=api (λq=>nomatch q)
def cj(prog:Program)(w:World):PySem.KeyKind prog w Key where
 is:=yP;hash:=aoH w;inj:=λv a b ha hb=>by rcases br ha with⟨i,t,rfl,rfl⟩|⟨x,t,rfl,rfl⟩|⟨rfl,rfl⟩<;>rcases br hb with⟨j,u,rfl,e⟩|⟨y,u,rfl,e⟩|⟨rfl,e⟩<;>(cases e;try rfl)
 byValue:=λk v h=>by rcases br h with⟨i,t,rfl,rfl⟩|⟨x,t,rfl,rfl⟩|⟨rfl,rfl⟩<;>rfl
 pyHash:=λhv h=>by
  rcases br hv with⟨i,t,rfl,rfl⟩|⟨x,t,rfl,rfl⟩|⟨rfl,rfl⟩;·exact wpAny_pyHash_int h
  ·exact wpAny_pyHash_str h
  ·exact abQ h
 eqBool:=λhu hv h=>by
  rcases br hu with⟨i,t,rfl,rfl⟩|⟨x,t,rfl,rfl⟩|⟨rfl,rfl⟩
  ·rcases br hv with⟨j,u,rfl,rfl⟩|⟨y,u,rfl,rfl⟩|⟨rfl,rfl⟩;·rw[ako]at h;exact wpAny_eqBool_int h
   ·rw[key_is]at h;exact SeqAt.EqAt.int_str i t y u _ _ _ _ h
   ·rw[akp]at h;exact SeqAt.EqAt.int_none i t _ _ _ _ h
  ·rcases br hv with⟨j,u,rfl,rfl⟩|⟨y,u,rfl,rfl⟩|⟨rfl,rfl⟩;·rw[akk]at h;exact SeqAt.EqAt.str_int x t j u _ _ _ _ h
   ·rw[akl]at h;exact wpAny_eqBool_str h
   ·rw[akj]at h;exact SeqAt.EqAt.str_none x t _ _ _ _ h
  ·rcases br hv with⟨j,u,rfl,rfl⟩|⟨y,u,rfl,rfl⟩|⟨rfl,rfl⟩;·rw[akn]at h;exact SeqAt.EqAt.none_int j u _ _ _ _ h
   ·rw[akm]at h;exact SeqAt.EqAt.none_str y u _ _ _ _ h
   ·rw[apO rfl]at h;unfold eqBool;rw[ao1 (show(Value.none==Value.none)=true from rfl)];exact aoY (asa (ao4 h))
 «strs»:=λk x t v h=>by
  rcases br h with⟨i,u,rfl,e⟩|⟨y,u,rfl,e⟩|⟨_,e⟩;·exact nomatch e
  ·injection e with e1 _;subst e1;cases v<;>rfl
  ·exact nomatch e
def uO(prog:Program)(w:World)(i:Int)(t:Tok):(cj prog w).is (.inl (some i)) (.int i t)=true:=abE i t
def uN(prog:Program)(w:World)(x:Str)(t:Tok):(cj prog w).is (.inr x) (.str x t)=true:=abD x t
inductive V where|non|bl(b:Bool)|int(i:Int)|str(x:Str)|byt(b:Array UInt8)|flt(b:UInt64)|ref(a:Addr)|ty(n:String)deriving DecidableEq
def RelV:V->Value->Prop|.non,u=>u=Value.none|.bl b,u=>u=Value.bool b|.int i,u=>∃t,u=Value.int i t|.str x,u=>∃t,u=Value.str x t|.byt b,u=>∃t,u=Value.bytes b t|.flt b,u=>∃t,u=Value.float b t|.ref a,u=>u=Value.ref a|.ty n,u=>u=Value.type n
abbrev Vals:List V->List Value->Prop:=Paired RelV
theorem Vals.length{xs:List V}{us:List Value}(r:Vals xs us):xs.length=us.length:=Paired.length r
theorem Vals.get:∀{xs:List V}{us:List Value}{i:Nat}{x:V},Vals xs us->xs[i]?=some x->∃u,us[i]?=some u/\RelV x u|_,_,_,_,.nil,e=>by simp at e|_,_,0,_,.cons r _,e=>by simp at e;subst e;exact⟨_,rfl,r⟩|_,_,i+1,x,.cons _ t,e=>by obtain⟨u,a,b⟩:=Vals.get (i:=i) (x:=x) t (by simpa using e);exact⟨u,by simpa using a,b⟩
theorem Vals.set{x:V}{u:Value}(r:RelV x u):∀{xs:List V}{us:List Value}(i:Nat),Vals xs us->Vals (xs.set i x) (us.set i u)|_,_,_,.nil=>.nil|_,_,0,.cons _ t=>.cons r t|_,_,i+1,.cons q t=>.cons q (Vals.set r i t)
theorem Vals.append:∀{xs ys:List V}{us ws:List Value},Vals xs us->Vals ys ws->Vals (xs++ys) (us++ws)|_,_,_,_,.nil,s=>s|_,_,_,_,.cons r t,s=>.cons r (Vals.append t s)
theorem Vals.take:∀{xs:List V}{us:List Value}(n:Nat),Vals xs us->Vals (xs.take n) (us.take n)|_,_,0,_=>.nil|_,_,_+1,.nil=>.nil|_,_,n+1,.cons r t=>.cons r (Vals.take n t)
theorem Vals.drop:∀{xs:List V}{us:List Value}(n:Nat),Vals xs us->Vals (xs.drop n) (us.drop n)|_,_,0,r=>r|_,_,_+1,.nil=>.nil|_,_,n+1,.cons _ t=>Vals.drop n t
def tE:Option V->Option Value->Prop|some v,some u=>RelV v u|none,none=>True|_,_=>False
def KV{a:Type}:List (a×V)->List (a×Value)->Prop:=Paired λ(p:a×V)(q:a×Value)=>p.1=q.1/\RelV p.2 q.2
noncomputable def kV:Key->V|.inl (some i)=>.int i|.inl none=>.non|.inr x=>.str x
inductive HO where/-- a list -/|lst(xs:List V)/-- a tuple (never changes) -/|tup(xs:List V)/-- a dict whose keys are ints and texts;one whose keys are tuples of ints and texts (the empty one is both) -/|dK(kvs:List (Key×V))|dT(kvs:List (List Key×V))/-- a set of ints: its members,its size -/|set(S:Int->Bool)(n:Nat)/-- an instance of the class at C,its dict at dx,its attributes -/|ins(C dx:Addr)(fs:List (Str×V))/-- the dict of the instance at x -/|own(x:Addr)/-- the dict of an exception -/|xd(fs:List (Str×V))/-- a bound method,f of x -/|met(f x:Addr)/-- a range object lo,lo+1,.. below hi -/|rng(lo hi:Int)/-- a thing that is known to the object (the script;a dict while a loop walks it): read,never written while it is so -/|frz(o:Obj)(u:HO)/-- a code object's table -/|tbl(ps:Array Value)/-- any other thing,by what is true of its one object (a def of one's own: SetO a S n:=HO.ext λh => ..) -/|ext(φ:Heap->Prop)
abbrev Hp:=Addr->Option HO
noncomputable def upd(H:Hp)(a:Addr)(o:HO):Hp:=λb=>if b=a then some o else H b
def ao{H:Hp}{a:Addr}{o:HO}:upd H a o a=some o:=by unfold upd;rw[ao1 rfl]
def ag{H:Hp}{a b:Addr}{o:HO}(h:b≠a):upd H a o b=H b:=by unfold upd;rw[ao2 h]
def tW{H:Hp}{a:Addr}{o u:HO}:upd (upd H a o) a u=upd H a u:=by funext b;unfold upd;split<;>rfl
def amZ{H:Hp}{a b:Addr}{o u:HO}(h:H a=some o)(h':H b=some u)(d:o≠u):a≠b:=by intro e;subst e;rw[h]at h';exact d (apf h')
def aM{H:Hp}{a b:Addr}{o:HO}(h:H a=some o)(h':H b=none):a≠b:=by intro e;subst e;rw[h]at h';cases h'
section
variable(P:Program)(w:World)
def bO(H:Hp)(h:Heap)(a:Addr):HO->Prop|.lst c=>c.length<=sizeLine/\∃(b:List Value)(n:Nat),Vals c b/\h.get? a=some {cls:=.type "list",data:=.seq b.toArray n}|.tup c=>c.length<=sizeLine/\∃b:List Value,Vals c b/\IsTup h a b.toArray|.dK kvs=>kvs.length<=sizeLine/\(a==sysModules)=false/\∃g,KV kvs g/\h.DictOf (cj P w) a g|.dT kvs=>kvs.length<=sizeLine/\(a==sysModules)=false/\∃c:List (List Key×Addr×Value),Paired (λ(p:List Key×V)(q:List Key×Addr×Value)=>p.1=q.1/\H q.2.1=some (.tup (p.1.map kV))/\RelV p.2 q.2.2) kvs c/\∃o j k,h.get? a=some o/\o.ExactDict/\o.data=.dict j k/\j.toList=c.map (entryOfKey (tupleKind (cj P w)))/\(c.map (·.1)).Nodup|.set S n=>h.SetOf (intKind P w) a S n|.ins C dx fs=>H dx=some (.own a)/\fs.length<=1000/\dx≠a/\h.get? a=some (W.instObj C dx)/\∃d,h.Ns1 dx d/\(∀f,tE (fs.lookup f) (d f))/\PySem.Within d (fs.map (·.1))|.own _=>∃o,h.get? a=some o|.xd fs=>∃d,h.Ns1 a d/\∀f,tE (fs.lookup f) (d f)|.rng lo hi=>∃t u v,h.get? a=some {cls:=.type "range",data:=.fields #[.int lo t,.int hi u,.int 1 v]}|.frz o u=>h.get? a=some o/\bO H h a u|.tbl ps=>h.get? a=some {cls:=.none,data:=.fields ps}|.met f x=>h.get? a=some (W.methodObj (.ref f) (.ref x))|.ext φ=>φ h/\(∃o,h.get? a=some o)/\∀i e:Heap,φ i->(∀o,i.get? a=some o->e.get? a=some o)->φ e
def HOk(H:Hp)(h:Heap):Prop:=∀a o,H a=some o->bO P w H h a o
end
section
variable{P:Program}{w:World}{H H':Hp}{h h':Heap}{a:Addr}{o:HO}
theorem bO.lt(x:bO P w H h a o):a<h.objs.size:=by cases o with|lst xs=>obtain⟨_,_,_,_,e⟩:=x;exact apb e|tup xs=>obtain⟨_,_,_,p⟩:=x;exact p.lt|dK kvs=>obtain⟨_,_,_,_,o,_,_,e,_⟩:=x;exact apb e|dT kvs=>obtain⟨_,_,_,_,o,_,_,e,_⟩:=x;exact apb e|set S n=>obtain⟨o,_,_,_,e,_⟩:=x;exact apb e|ins C dx fs=>obtain⟨_,_,_,e,_⟩:=x;exact apb e|own y=>obtain⟨_,e⟩:=x;exact apb e|xd fs=>obtain⟨_,⟨_,_,_,e,_⟩,_⟩:=x;exact apb e|rng lo hi=>obtain⟨_,_,_,e⟩:=x;exact apb e|frz ob u=>obtain⟨e,_⟩:=x;exact apb e|tbl ps=>exact apb (show h.get? a=some _ from x)|met f y=>exact apb (show h.get? a=some _ from x)|ext φ=>obtain⟨_,⟨_,e⟩,_⟩:=x;exact apb e
theorem Paired.alv{g e:Type}{F G:g->e->Prop}:∀{d:List g}{c:List e},Paired F d c->(∀a b,F a b->G a b)->Paired G d c|_,_,.nil,_=>.nil|_,_,.cons r t,f=>.cons (f _ _ r) (Paired.alv t f)
def bO.vT(x:bO P w H h a o)(k:∀b u,(b=a\/H b=some (.own a))->h.get? b=some u->h'.get? b=some u)(s:∀b,H b=some (.own a)->H' b=some (.own a))(B:∀b l,H b=some (.tup l)->H' b=some (.tup l)):bO P w H' h' a o:=by induction o with|lst l=>obtain⟨z,j,n,r,e⟩:=x;exact⟨z,j,n,r,k _ _ (.inl rfl) e⟩|tup l=>obtain⟨z,j,r,ob,e,c⟩:=x;exact⟨z,j,r,ob,k _ _ (.inl rfl) e,c⟩|dK kvs=>obtain⟨z,y,A,r,ob,g,i,e,c⟩:=x;exact⟨z,y,A,r,ob,g,i,k _ _ (.inl rfl) e,c⟩|dT kvs=>obtain⟨z,y,l,r,ob,g,i,e,c⟩:=x;exact⟨z,y,l,Paired.alv r λp q z=>⟨z.1,B _ _ z.2.1,z.2.2⟩,ob,g,i,k _ _ (.inl rfl) e,c⟩|set S n=>obtain⟨ob,g,i,t,e,c⟩:=x;exact⟨ob,g,i,t,k _ _ (.inl rfl) e,c⟩|ins C dx fs=>obtain⟨d,z,D,e,m,⟨od,g,i,E,c⟩,r⟩:=x;exact⟨s _ d,z,D,k _ _ (.inl rfl) e,m,⟨od,g,i,k _ _ (.inr d) E,c⟩,r⟩|own y=>obtain⟨ob,e⟩:=x;exact⟨ob,k _ _ (.inl rfl) e⟩|xd fs=>obtain⟨m,⟨od,g,i,e,c⟩,r⟩:=x;exact⟨m,⟨od,g,i,k _ _ (.inl rfl) e,c⟩,r⟩|rng lo hi=>obtain⟨t,u,v,e⟩:=x;exact⟨t,u,v,k _ _ (.inl rfl) e⟩|frz ob u ih=>obtain⟨e,q⟩:=x;exact⟨k _ _ (.inl rfl) e,ih q⟩|tbl ps=>have e:h.get? a=some {cls:=.none,data:=.fields ps}:=x;show h'.get? a=some {cls:=.none,data:=.fields ps};exact k a _ (.inl rfl) e|met f y=>have e:h.get? a=some (W.methodObj (.ref f) (.ref y)):=x;show h'.get? a=some (W.methodObj (.ref f) (.ref y));exact k a _ (.inl rfl) e|ext φ=>obtain⟨p,⟨o,e⟩,st⟩:=x;exact⟨st _ _ p λo q=>k _ _ (.inl rfl) q,⟨o,k _ _ (.inl rfl) e⟩,st⟩
theorem HOk.lt(x:HOk P w H h)(e:H a=some o):a<h.objs.size:=(x a o e).lt
def HOk.fresh(x:HOk P w H h)(e:h.objs.size<=a):H a=none:=by cases q:H a with|none=>rfl|some u=>exact absurd (apa (x.lt q) e) (ap7 _)
def HOk.kept(x:HOk P w H h)(k:∀b u,h.get? b=some u->h'.get? b=some u):HOk P w H h':=λa o e=>(x a o e).vT (λb u _ q=>k b u q) (λ_ q=>q) λ_ _ q=>q
def HOk.laid(x:HOk P w H h)(k:∀b u,h.get? b=some u->h'.get? b=some u)(g:h.objs.size<=a)(new:bO P w (upd H a o) h' a o):HOk P w (upd H a o) h':=λb u e=>by
 have d:=x.fresh g;by_cases f:b=a;·subst f;rw[ao]at e;cases e;exact new
 ·rw[ag f]at e;exact(x b u e).vT (λc v _ q=>k c v q) (λc q=>by rw[ag (aM q d)];exact q) λc i q=>by rw[ag (aM q d)];exact q
end
def Rd(H:Hp)(a:Addr)(u:HO):Prop:=H a=some u\/∃o,H a=some (.frz o u)
def Rd.ok{P:Program}{w:World}{H:Hp}{h:Heap}{a:Addr}{u:HO}(r:Rd H a u)(x:HOk P w H h):bO P w H h a u:=by
 rcases r with r|⟨o,r⟩;·exact x a u r
 ·obtain⟨_,q⟩:=x a _ r;exact q
def Mut:Option HO->Prop|some (.lst _)=>True|some (.dK _)=>True|some (.dT _)=>True|some (.set _ _)=>True|some (.ins _ _ _)=>True|some (.ext _)=>True|_=>False
section
variable{P:Program}{w:World}{H:Hp}{h h':Heap}{x e:Addr}{o':HO}
def HOk.write(ok:HOk P w H h)(g:Mut (H x))(o:e=x\/H e=some (.own x))(k:∀b u,b≠e->h.get? b=some u->h'.get? b=some u)(m:∃u,h'.get? e=some u)(new:bO P w (upd H x o') h' x o'):HOk P w (upd H x o') h':=λb u q=>by
 have d:∀c y,H c=some (.own y)->c≠x:=λc y r z=>by subst z;rw[r]at g;exact g
 have f:∀c l,H c=some (.tup l)->c≠x:=λc l r z=>by subst z;rw[r]at g;exact g
 by_cases j:b=x;·subst j;rw[ao]at q;cases q;exact new
 ·rw[ag j]at q;by_cases a:b=e
  ·have n:H b=some (.own x):=by
    rcases o with z|z;·exact absurd (a.trans z) j
    ·rw[a];exact z
   rw[q]at n;cases n;obtain⟨v,p⟩:=m;exact⟨v,by rw[a];exact p⟩
  ·refine(ok b u q).vT (λc v i r=>k c v ?_ r) (λc r=>by rw[ag (d c b r)];exact r) λc l r=>by rw[ag (f c l r)];exact r
   rcases i with rfl|i;·exact a
   ·rintro rfl;rcases o with z|z;·exact d c b i z
    ·rw[i]at z;cases z;exact j rfl
end
structure Un(fs ex:List Addr)(H H':Hp)(h h':Heap):Prop where
 keep:∀b o,h.get? b=some o->H b=none->b∉fs->b∉ex->h'.get? b=some o
 slot:∀b o,h.get? b=some o->H b=none->b∈fs->b∉ex->∃sl,h'.get? b=some {o with slots:=sl}free:∀b o,h.get? b=some o->H b=none->b∉ex->H' b=none
 there:∀b o,h.get? b=some o->b∉ex->∃o',h'.get? b=some o'
 tups:∀b xs,H b=some (.tup xs)->H' b=some (.tup xs)frzs:∀b o u,H b=some (.frz o u)->H' b=some (.frz o u)tbls:∀b ps,H b=some (.tbl ps)->∃more,H' b=some (.tbl (ps++more))
section
variable{fs fs' ex ex':List Addr}{H H1 H2:Hp}{h h1 h2 h':Heap}{a x e:Addr}{o:HO}
def Un.any(u:Un fs ex H H1 h h1){b:Addr}{ob:Obj}(q:h.get? b=some ob)(n:H b=none)(c:b∉ex):∃f,h1.get? b=some {ob with slots:=f}:=by
 by_cases d:b∈fs;·exact u.slot b ob q n d c
 ·exact⟨ob.slots,u.keep b ob q n d c⟩
def Un.kept(k:∀b u,h.get? b=some u->h'.get? b=some u):Un fs ex H H h h':=⟨λb ob q _ _ _=>k b ob q,λb ob q _ _ _=>⟨ob.slots,k b ob q⟩,λ_ _ _ n _=>n,λb ob q _=>⟨ob,k b ob q⟩,λ_ _ q=>q,λ_ _ _ q=>q,λ_ c q=>⟨#[],by rw[q];simp⟩⟩
def Un.refl:Un fs ex H H h h:=Un.kept λ_ _ q=>q
def Un.laid(k:∀b u,h.get? b=some u->h'.get? b=some u)(hp:h.objs.size<=a)(hn:H a=none):Un fs ex H (upd H a o) h h' where
 keep:=λb u q _ _ _=>k b u q;slot:=λb u q _ _ _=>⟨u.slots,k b u q⟩;free:=λb u q n _=>by rw[ag (apm (apa (apb q) hp))];exact n
 there:=λb u q _=>⟨u,k b u q⟩;tups:=λb xs q=>by rw[ag (aM q hn)];exact q
 frzs:=λb u xs q=>by rw[ag (aM q hn)];exact q
 tbls:=λb ps q=>⟨#[],by rw[ag (aM q hn),q];simp⟩
def Un.write(d:Mut (H x))(p:e=x\/H e=some (.own x))(k:∀b u,b≠e->h.get? b=some u->h'.get? b=some u)(g:∃u,h'.get? e=some u):Un fs ex H (upd H x o) h h':=by
 have i:∀b,H b=none->b≠x:=λb n z=>by subst z;rw[n]at d;exact d
 have j:∀b,H b=none->b≠e:=λb n z=>by
  subst z;rcases p with r|r;·exact i b n r
  ·rw[n]at r;cases r
 have f:∀b u,H b=some u->¬Mut (some u)->b≠x:=λb u q l z=>by subst z;rw[q]at d;exact l d
 refine⟨λb u q n _ _=>k b u (j b n) q,λb u q n _ _=>⟨u.slots,k b u (j b n) q⟩,λb u q n _=>by rw[ag (i b n)];exact n,λb u q _=>?_,λb m q=>by rw[ag (f b _ q λz=>z)];exact q,λb u m q=>by rw[ag (f b _ q λz=>z)];exact q,λb s q=>⟨#[],by rw[ag (f b _ q λz=>z),q];simp⟩⟩;by_cases c:b=e;·subst c;exact g
 ·exact⟨u,k b u c q⟩
end
noncomputable def trk(h:Heap)(H:Hp):List Addr:=(List.range h.objs.size).filter λa=>(H a).isSome
def aey(h:Heap)(H:Hp):Heap:=W.hideAll h (trk h H)
def abP(h:Heap)(H:Hp):(aey h H).objs.size=h.objs.size:=W.hideAll_size _ _
def aex{h:Heap}{H:Hp}{b:Addr}{o:Obj}(e:h.get? b=some o)(n:H b=none):(aey h H).get? b=some o:=W.hideAll_get _ e λa=>by have q:(H b).isSome=true:=(List.mem_filter.mp a).2;rw[n]at q;simp at q
def ag5{h:Heap}{H:Hp}{b:Addr}{o:Obj}(e:(aey h H).get? b=some o):h.get? b=some o/\H b=none:=by have a:h.get? b=some o:=W.of_hideAll (trk h H) e;refine⟨a,?_⟩;cases q:H b with|none=>rfl|some x=>have c:b∈trk h H:=List.mem_filter.mpr ⟨apW.mpr (apb a),by simp[q]⟩;have z:(aey h H).get? b=none:=W.hideAll_none (trk h H) c;rw[z]at e;cases e
noncomputable def ahW(g h:Heap)(L:Addr):List (Addr×Obj):=(List.range h.objs.size).filterMap λa=>if a=L\/(g.get? a).isSome=true then none else(h.get? a).map λo=>(a,o)
def rest(g h:Heap)(L d:Addr):List (Addr×Obj):=(ahW g h L).filter λp=>decide (p.1≠d)
structure Mod(K:W.Frag)(mg:Str->Option Value)(base:Heap):Prop where
 kin:K.In base
 glob:base.Ns mainGlobals mg
 blt:∃mb,base.Ns builtinsNs mb/\∀x:Str,x≠"__name__"->mb x=bootBuiltins x
 nolimit:base.NoLimit
structure Cx where
 prog:Program
 w:World
 K:W.Frag
 mg:Str->Option Value
 base:Heap
 A:Around
 N:List Str
 s₀:Shared
 H₀:Hp
 env:Env
 outer:List Env
 stack:List Env
 ex:List Addr
 fn:Str->Bool
 calm:Bool
 pn:List (Addr×Obj)xe:Value->Shared->Prop
noncomputable def frs(l:List Env):List Addr:=l.filterMap (·.frame)
abbrev Cx.fs(X:Cx):List Addr:=frs X.outer
def Vis(a:Scope)(x:Str):Prop:=a.names.lookup x=some .local\/a.names.lookup x=some .cell\/a.names.lookup x=some .free
def Loc(a:Scope)(x:Str):Prop:=a.names.lookup x=some .local\/a.names.lookup x=some .cell
def Look(a:Env)(h:Heap)(m:Str->Option Value)(x:Str)(u:Value):Prop:=(a.kindOf x=some .local/\m x=some u)\/((a.kindOf x=some .cell\/a.kindOf x=some .free)/\∃c,a.cells.lookup x=some c/\h.IsCell c (some u))
structure Cx.Ok(X:Cx):Prop where
 mod:Mod X.K X.mg X.base
 kind:X.env.scope.kind=.function
 glob:X.env.globals=mainGlobals
 blt:X.env.builtins=builtinsNs
 above:X.s₀.heap.objs.size<=X.env.locals
 inj:∀x y c,X.env.cells.lookup x=some c->X.env.cells.lookup y=some c->x=y
 has:∀x,(X.env.kindOf x=some .cell\/X.env.kindOf x=some .free)->∃c,X.env.cells.lookup x=some c
 cab:∀x c,X.fn x=true->X.env.cells.lookup x=some c->X.s₀.heap.objs.size<=c
 hd:X.calm=true->X.A.handled=none
 frames:X.A.frames=some X.stack
 stk:X.stack=X.outer\/(X.stack=X.env::X.outer/\X.env.frame=some X.env.locals)exf:∀b∈X.ex,b≠X.env.locals/\∀x c,X.env.cells.lookup x=some c->c≠b
 bs:∀b o,X.base.get? b=some o->X.s₀.heap.get? b=some o/\X.H₀ b=none
 bsz:X.base.objs.size<=X.s₀.heap.objs.size
 noex:∀b o,X.base.get? b=some o->b∉X.ex
 exfs:∀b∈X.ex,b∉X.fs
 ql:X.s₀.heap.FunFrames X.base X.outer
 frf:∀b∈X.fs,X.H₀ b=none
structure Inv(X:Cx)(pins:List (Addr×Obj))(σ:List (Option V))(H:Hp)(s:Shared):Prop where
 ok:X.Ok
 os:s.os=X.s₀.os
 bare:AllBare s.gens
 base:Un X.fs X.ex X.H₀ H X.s₀.heap s.heap
 loc:∃m,s.heap.Ns X.env.locals m/\∀(i:Nat)(x:Str)(v:V),X.N[i]?=some x->σ[i]?=some (some v)->Vis X.env.scope x->∃u,RelV v u/\Look X.env s.heap m x u
 cell:∀x c,X.env.cells.lookup x=some c->∃v,s.heap.IsCell c v
 free:H X.env.locals=none
 freeC:∀x c,X.env.cells.lookup x=some c->H c=none
 pin:∀p∈X.pn++pins,s.heap.get? p.1=some p.2/\H p.1=none/\p.1≠X.env.locals/\p.1∉X.fs/\∀v,p.2.data≠.cell v
 hok:HOk X.prog X.w H s.heap
 len:σ.length=X.N.length
section
variable{X:Cx}{pins:List (Addr×Obj)}{σ:List (Option V)}{H H':Hp}{s:Shared}{h':Heap}
def Cx.Ok.aoF(ok:X.Ok){b:Addr}{o:Obj}(e:X.base.get? b=some o):b∉X.fs:=λa=>by have:=(ok.ql.mem a).1;rw[e]at this;cases this
theorem Inv.bs(I:Inv X pins σ H s):∀b o,X.base.get? b=some o->s.heap.get? b=some o/\H b=none:=λb o e=>⟨I.base.keep b o (I.ok.bs b o e).1 (I.ok.bs b o e).2 (I.ok.aoF e) (I.ok.noex b o e),I.base.free b o (I.ok.bs b o e).1 (I.ok.bs b o e).2 (I.ok.noex b o e)⟩
def Inv.bk(I:Inv X pins σ H s):∀b o,X.base.get? b=some o->s.heap.get? b=some o:=λb o e=>(I.bs b o e).1
theorem Inv.mod(I:Inv X pins σ H s):Mod X.K X.mg X.base:=I.ok.mod
def Inv.kIn(I:Inv X pins σ H s):X.K.In s.heap:=I.ok.mod.kin.keeps I.bk
theorem Inv.lt(I:Inv X pins σ H s):X.env.locals<s.heap.objs.size:=let⟨_,a,_⟩:=I.loc;a.lt
def Inv.sz(I:Inv X pins σ H s):X.s₀.heap.objs.size<=s.heap.objs.size:=apc I.ok.above (arz I.lt)
def Inv.aoE(I:Inv X pins σ H s){a:Addr}(h:s.heap.objs.size<=a):a∉X.fs:=λc=>by obtain⟨_,o,b,_⟩:=I.ok.ql.mem c;exact absurd (apa (apb b) (apc I.sz h)) (ap7 _)
def Inv.cne(I:Inv X pins σ H s):∀x c,X.env.cells.lookup x=some c->c≠X.env.locals:=λx c e z=>by obtain⟨v,o,d,f⟩:=I.cell x c e;obtain⟨m,⟨i,g,h,b,a,_⟩,_⟩:=I.loc;rw[z,b]at d;cases d;rw[a]at f;cases f
theorem Inv.ql(I:Inv X pins σ H s):s.heap.FunFrames X.base X.outer:=by
 have all:∀(l:List Env),(∀b∈frs l,b∈X.fs)->X.s₀.heap.FunFrames X.base l->s.heap.FunFrames X.base l:=by intro l;induction l with|nil=>intro _ _;trivial|cons env r ih=>intro f k;obtain⟨m,⟨L,o,d,i,g,j⟩,h⟩:=k;have a:L∈X.fs:=f L (by unfold frs;rw[arM,d];exact apn);obtain⟨n,e⟩:=I.base.slot L o g (I.ok.frf L a) a λz=>I.ok.exfs L z a;exact⟨m,⟨L,_,d,i,e,j⟩,ih (λb c=>f b (by unfold frs;rw[arM,d];exact apG _ c)) h⟩
 exact all X.outer (λ_ c=>c) I.ok.ql
theorem Inv.stack(I:Inv X pins σ H s):s.heap.FunFrames X.base X.stack:=by
 rcases I.ok.stk with e|⟨e,a⟩;·rw[e];exact I.ql
 ·rw[e];obtain⟨m,b,_⟩:=I.loc;refine .cons (by rw[I.ok.kind];decide) a b ?_ I.ql;exact ap3 (apc I.ok.bsz I.ok.above)
def Inv.vS(I:Inv X pins σ H s):∀b∈frs X.stack,b∈X.env.locals::X.fs:=λb a=>by
 rcases I.ok.stk with e|⟨e,c⟩;·rw[e]at a;exact apG _ a
 ·rw[e]at a;unfold frs at a;rw[arM,c]at a;exact a
def Inv.t7(I:Inv X pins σ H s):∀b∈frs X.stack,H b=none:=λb a=>by
 rcases apl.mp (I.vS b a)with e|a;·rw[e];exact I.free
 ·obtain⟨_,o,c,_⟩:=I.ok.ql.mem a;exact I.base.free b o c (I.ok.frf b a) λz=>I.ok.exfs b z a
def Inv.step{g':Array GenState}{t':Nat}{d':Drawn}{ch:List Addr}(I:Inv X pins σ H s)(g:∀b∈ch,(b∈X.ex\/X.s₀.heap.objs.size<=b)/\b≠X.env.locals/\(∀x c,X.env.cells.lookup x=some c->c≠b)/\∀p∈X.pn++pins,p.1≠b)(keep:∀b o,b≠X.env.locals->b∉X.fs->b∉ch->s.heap.get? b=some o->H b=none->h'.get? b=some o)(w:∀b o,b≠X.env.locals->b∈X.fs->b∉ch->s.heap.get? b=some o->H b=none->∃P,h'.get? b=some {o with slots:=P})(free:∀b o,b∉ch->s.heap.get? b=some o->H b=none->H' b=none)(there:∀b o,b∉ch->s.heap.get? b=some o->∃M,h'.get? b=some M)(E:∀b y,H b=some (.tup y)->H' b=some (.tup y))(G:∀b o u,H b=some (.frz o u)->H' b=some (.frz o u))(C:∀b N,H b=some (.tbl N)->∃D,H' b=some (.tbl (N++D)))(ns:∀m,s.heap.Ns X.env.locals m->h'.Ns X.env.locals m)(R:HOk X.prog X.w H' h')(hg:AllBare g'):Inv X pins σ H' {s with heap:=h',gens:=g',drawn:=d',toks:=t'}:=by
 have K:∀b o,X.s₀.heap.get? b=some o->b≠X.env.locals:=λb o e=>apm (apa (apb e) I.ok.above);have t:∀b o,X.s₀.heap.get? b=some o->b∉X.ex->b∉ch:=λb o e a A=>by
  rcases(g b A).1 with z|z;·exact a z
  ·exact absurd (apa (apb e) z) (ap7 _)
 have f:∀x c,X.env.cells.lookup x=some c->∀v,s.heap.IsCell c v->h'.IsCell c v:=λx c e v⟨o,B,Q⟩=>by
  have h:c∉ch:=λz=>(g c z).2.2.1 x c e rfl;by_cases U:c∈X.fs;·obtain⟨P,q⟩:=w c o (I.cne x c e) U h B (I.freeC x c e);exact⟨_,q,Q⟩
  ·exact⟨o,keep c o (I.cne x c e) U h B (I.freeC x c e),Q⟩
 refine⟨I.ok,I.os,hg,⟨λb o e n A a=>?_,λb o e n A a=>?_,λb o e n a=>?_,λb o e a=>?_,λb y e=>E b y (I.base.tups b y e),λb o y e=>G b o y (I.base.frzs b o y e),λb N e=>?_⟩,?_,λx c e=>?_,?_,λx c e=>?_,λp T=>?_,R,I.len⟩;·exact keep b o (K b o e) A (t b o e a) (I.base.keep b o e n A a) (I.base.free b o e n a)
 ·obtain⟨P,j⟩:=I.base.slot b o e n A a;obtain⟨O,J⟩:=w b _ (K b o e) A (t b o e a) j (I.base.free b o e n a);exact⟨O,J⟩
 ·obtain⟨M,j⟩:=I.base.there b o e a;exact free b M (t b o e a) j (I.base.free b o e n a)
 ·obtain⟨M,j⟩:=I.base.there b o e a;exact there b M (t b o e a) j
 ·obtain⟨m1,j⟩:=I.base.tbls b N e;obtain⟨m2,J⟩:=C b _ j;exact⟨m1++m2,by rw[J,Array.append_assoc]⟩
 ·obtain⟨m,hn,Z⟩:=I.loc;refine⟨m,ns m hn,λi x v j J e3=>?_⟩;obtain⟨u,r,l⟩:=Z i x v j J e3;refine⟨u,r,?_⟩;rcases l with l|⟨k,c,e,z⟩;·exact .inl l
  ·exact .inr ⟨k,c,e,f x c e _ z⟩
 ·obtain⟨v,z⟩:=I.cell x c e;exact⟨v,f x c e v z⟩
 ·obtain⟨m,⟨o,_,_,B,_⟩,_⟩:=I.loc;exact free _ o (λz=>(g _ z).2.1 rfl) B I.free
 ·obtain⟨v,o,B,Q⟩:=I.cell x c e;exact free c o (λz=>(g c z).2.2.1 x c e rfl) B (I.freeC x c e)
 ·obtain⟨e,n,Y,S,d⟩:=I.pin p T;have h:p.1∉ch:=λz=>(g p.1 z).2.2.2 p T rfl;exact⟨keep p.1 p.2 Y S h e n,free p.1 p.2 h e n,Y,S,d⟩
def Inv.ai2{g':Array GenState}{t':Nat}{d':Drawn}{ch:List Addr}(I:Inv X pins σ H s)(g:∀b∈ch,(b∈X.ex\/X.s₀.heap.get? b=none)/\b≠X.env.locals/\(∀x c,X.env.cells.lookup x=some c->c≠b)/\∀p∈X.pn++pins,p.1≠b)(keep:∀b o,b≠X.env.locals->b∉X.fs->b∉ch->s.heap.get? b=some o->H b=none->h'.get? b=some o)(w:∀b o,b≠X.env.locals->b∈X.fs->b∉ch->s.heap.get? b=some o->H b=none->∃P,h'.get? b=some {o with slots:=P})(free:∀b o,b∉ch->s.heap.get? b=some o->H b=none->H' b=none)(there:∀b o,b∉ch->s.heap.get? b=some o->∃M,h'.get? b=some M)(E:∀b y,H b=some (.tup y)->H' b=some (.tup y))(G:∀b o u,H b=some (.frz o u)->H' b=some (.frz o u))(C:∀b N,H b=some (.tbl N)->∃D,H' b=some (.tbl (N++D)))(ns:∀m,s.heap.Ns X.env.locals m->h'.Ns X.env.locals m)(R:HOk X.prog X.w H' h')(hg:AllBare g'):Inv X pins σ H' {s with heap:=h',gens:=g',drawn:=d',toks:=t'}:=by
 have K:∀b o,X.s₀.heap.get? b=some o->b≠X.env.locals:=λb o e=>apm (apa (apb e) I.ok.above);have t:∀b o,X.s₀.heap.get? b=some o->b∉X.ex->b∉ch:=λb o e a A=>by
  rcases(g b A).1 with z|z;·exact a z
  ·rw[z]at e;cases e
 have f:∀x c,X.env.cells.lookup x=some c->∀v,s.heap.IsCell c v->h'.IsCell c v:=λx c e v⟨o,B,Q⟩=>by
  have h:c∉ch:=λz=>(g c z).2.2.1 x c e rfl;by_cases U:c∈X.fs;·obtain⟨P,q⟩:=w c o (I.cne x c e) U h B (I.freeC x c e);exact⟨_,q,Q⟩
  ·exact⟨o,keep c o (I.cne x c e) U h B (I.freeC x c e),Q⟩
 refine⟨I.ok,I.os,hg,⟨λb o e n A a=>?_,λb o e n A a=>?_,λb o e n a=>?_,λb o e a=>?_,λb y e=>E b y (I.base.tups b y e),λb o y e=>G b o y (I.base.frzs b o y e),λb N e=>?_⟩,?_,λx c e=>?_,?_,λx c e=>?_,λp T=>?_,R,I.len⟩;·exact keep b o (K b o e) A (t b o e a) (I.base.keep b o e n A a) (I.base.free b o e n a)
 ·obtain⟨P,j⟩:=I.base.slot b o e n A a;obtain⟨O,J⟩:=w b _ (K b o e) A (t b o e a) j (I.base.free b o e n a);exact⟨O,J⟩
 ·obtain⟨M,j⟩:=I.base.there b o e a;exact free b M (t b o e a) j (I.base.free b o e n a)
 ·obtain⟨M,j⟩:=I.base.there b o e a;exact there b M (t b o e a) j
 ·obtain⟨m1,j⟩:=I.base.tbls b N e;obtain⟨m2,J⟩:=C b _ j;exact⟨m1++m2,by rw[J,Array.append_assoc]⟩
 ·obtain⟨m,hn,Z⟩:=I.loc;refine⟨m,ns m hn,λi x v j J e3=>?_⟩;obtain⟨u,r,l⟩:=Z i x v j J e3;refine⟨u,r,?_⟩;rcases l with l|⟨k,c,e,z⟩;·exact .inl l
  ·exact .inr ⟨k,c,e,f x c e _ z⟩
 ·obtain⟨v,z⟩:=I.cell x c e;exact⟨v,f x c e v z⟩
 ·obtain⟨m,⟨o,_,_,B,_⟩,_⟩:=I.loc;exact free _ o (λz=>(g _ z).2.1 rfl) B I.free
 ·obtain⟨v,o,B,Q⟩:=I.cell x c e;exact free c o (λz=>(g c z).2.2.1 x c e rfl) B (I.freeC x c e)
 ·obtain⟨e,n,Y,S,d⟩:=I.pin p T;have h:p.1∉ch:=λz=>(g p.1 z).2.2.2 p T rfl;exact⟨keep p.1 p.2 Y S h e n,free p.1 p.2 h e n,Y,S,d⟩
def Inv.un{t':Nat}(I:Inv X pins σ H s)(u:Un X.fs [] H H' s.heap h')(g:HOk X.prog X.w H' h'):Inv X pins σ H' {s with heap:=h',toks:=t'}:=by obtain⟨m,⟨o,q,t,h,r⟩,_⟩:=id I.loc;obtain⟨l,i⟩:=u.any h I.free (by simp);exact I.step (g':=s.gens) (d':=s.drawn) (ch:=[]) (λ_ z=>nomatch z) (λb o _ f _ e n=>u.keep b o e n f (by simp)) (λb o _ f _ e n=>u.slot b o e n f (by simp)) (λb o _ e n=>u.free b o e n (by simp)) (λb o _ e=>u.there b o e (by simp)) u.tups u.frzs u.tbls (λp j=>by obtain⟨v,c,d,a,k⟩:=j;rw[h]at a;cases a;exact⟨_,c,d,i,k⟩) g I.bare
def Inv.call{g':Array GenState}{t':Nat}{d':Drawn}{ch:List Addr}(I:Inv X pins σ H s)(u:Un (frs X.stack) ch H H' s.heap h')(j:HOk X.prog X.w H' h')(l:AllBare g')(f:∀b∈ch,(b∈X.ex\/X.s₀.heap.objs.size<=b)/\b≠X.env.locals/\(∀x c,X.env.cells.lookup x=some c->c≠b)/\∀p∈X.pn++pins,p.1≠b):Inv X pins σ H' {s with heap:=h',gens:=g',drawn:=d',toks:=t'}:=by obtain⟨m,⟨o,A,B,k,r⟩,_⟩:=id I.loc;obtain⟨w,g⟩:=u.any k I.free λz=>(f _ z).2.1 rfl;exact I.step (ch:=ch) f (λb o g q a e n=>u.keep b o e n (λz=>(apl.mp (I.vS b z)).elim g q) a) (λb o _ _ a e n=>u.any e n a) (λb o a e n=>u.free b o e n a) (λb o a e=>u.there b o e a) u.tups u.frzs u.tbls (λy t=>by obtain⟨C,h,i,d,v⟩:=t;rw[k]at d;cases d;exact⟨_,h,i,g,v⟩) j l
def Inv.turned{t':Nat}{it:Addr}(I:Inv X pins σ H s)(k:∀b o,b≠it->s.heap.get? b=some o->h'.get? b=some o)(i:H it=none)(f:it≠X.env.locals)(t:it∈X.ex\/X.s₀.heap.objs.size<=it)(g:∀x c,X.env.cells.lookup x=some c->c≠it)(j:∀p∈X.pn++pins,p.1≠it):Inv X pins σ H {s with heap:=h',toks:=t'}:=by
 have d:∀b u,H b=some u->b≠it:=λb u e z=>by rw[z,i]at e;cases e
 refine I.step (g':=s.gens) (d':=s.drawn) (ch:=[it]) (λb l=>?_) (λb o _ _ a e _=>k b o (λz=>a (by simp[z])) e) (λb o _ _ a e _=>⟨o.slots,k b o (λz=>a (by simp[z])) e⟩) (λ_ _ _ _ n=>n) (λb o a e=>⟨o,k b o (λz=>a (by simp[z])) e⟩) (λ_ _ e=>e) (λ_ _ _ e=>e) (λb B e=>⟨#[],by rw[e];simp⟩) (λm w=>?_) (λb u e=>?_) I.bare
 ·have e:b=it:=by simpa using l
  subst e;exact⟨t,f,g,j⟩
 ·obtain⟨o,y,A,h,r⟩:=w;exact⟨o,y,A,k _ o (ape f) h,r⟩
 ·refine(I.hok b u e).vT (λc v a q=>k c v ?_ q) (λ_ q=>q) λ_ _ q=>q;rcases a with z|z;·rw[z];exact d b u e
  ·exact d c _ z
def Inv.tok(I:Inv X pins σ H s)(t:Nat):Inv X pins σ H {s with toks:=t}:=I.un (h':=s.heap) (t':=t) Un.refl I.hok
theorem Inv.kept{t':Nat}(I:Inv X pins σ H s)(k:∀b u,s.heap.get? b=some u->h'.get? b=some u):Inv X pins σ H {s with heap:=h',toks:=t'}:=I.un (Un.kept k) (I.hok.kept k)
theorem Inv.laid{a:Addr}{o:HO}{t':Nat}(I:Inv X pins σ H s)(k:∀b u,s.heap.get? b=some u->h'.get? b=some u)(c:s.heap.objs.size<=a)(new:bO X.prog X.w (upd H a o) h' a o):Inv X pins σ (upd H a o) {s with heap:=h',toks:=t'}:=I.un (Un.laid k c (I.hok.fresh c)) (I.hok.laid k c new)
theorem Inv.write{x e:Addr}{o:HO}{t':Nat}(I:Inv X pins σ H s)(c:Mut (H x))(d:e=x\/H e=some (.own x))(k:∀b u,b≠e->s.heap.get? b=some u->h'.get? b=some u)(a:∃u,h'.get? e=some u)(new:bO X.prog X.w (upd H x o) h' x o):Inv X pins σ (upd H x o) {s with heap:=h',toks:=t'}:=I.un (Un.write c d k a) (I.hok.write c d k a new)
def Inv.gy{a:List (Addr×Obj)}(I:Inv X pins σ H s)(h:∀p∈a,s.heap.get? p.1=some p.2/\H p.1=none/\p.1≠X.env.locals/\p.1∉X.fs/\∀v,p.2.data≠.cell v):Inv X a σ H s:=⟨I.ok,I.os,I.bare,I.base,I.loc,I.cell,I.free,I.freeC,λp b=>(apY.mp b).elim (λz=>I.pin p (apL _ z)) (h p),I.hok,I.len⟩
def wU{N:List Str}(c:N.Nodup){i j:Nat}{x:Str}(a:N[i]?=some x)(b:N[j]?=some x):i=j:=by obtain⟨f,d⟩:=ao3.mp a;obtain⟨g,e⟩:=ao3.mp b;exact(List.getElem_inj c).mp (d.trans e.symm)
def aak{M:Model}{A:Around}{E:Value->Shared->Prop}{i:Nat}{x:Str}{v:V}{u:Value}{Q:Unit->Shared->Prop}(I:Inv X pins σ H s)(hN:X.N.Nodup)(P:X.N[i]?=some x)(w:Loc X.env.scope x)(r:RelV v u)(h:∀s',Inv X pins (σ.set i (some v)) H s'->(∃a,Heap.SameBut a s.heap s'.heap/\(a=X.env.locals\/X.env.cells.lookup x=some a))->Q () s')(hf:X.fn x=true\/X.env.scope.names.lookup x=some .local:=by first|exact .inl rfl|exact .inr rfl|assumption):wpAny M A (storeName X.env x u) Q E s:=by
 obtain⟨m,hn,hl⟩:=id I.loc;have O:(X.env.scope.kind==.class||(X.env.scope.kind==.module&&X.env.locals !=X.env.globals))=false:=by rw[I.ok.kind];rfl
 have G:i<σ.length:=by rw[I.len];exact(ao3.mp P).1
 have cne:=I.cne;have g:∀{a:Addr}{h':Heap},(∃o,s.heap.get? a=some o/\H a=none)->Heap.SameBut a s.heap h'->HOk X.prog X.w H h':=λ{a h'}ha f b ob e=>by
  obtain⟨_,_,B⟩:=ha;refine(I.hok b ob e).vT (λc Z t q=>(f.2 c ?_).trans q) (λ_ q=>q) λ_ _ q=>q;rintro rfl;rcases t with rfl|t;·rw[B]at e;cases e
  ·rw[B]at t;cases t
 rcases w with D|D
 ·refine wpAny_storeName_local D hn (λh' a0 f=>?_) O;obtain⟨oL,_,_,a1,_⟩:=id hn;refine h _ ⟨I.ok,I.os,I.bare,⟨λb o e n N w=>?_,λb o e n N w=>?_,I.base.free,λb o e w=>?_,I.base.tups,I.base.frzs,I.base.tbls⟩,⟨_,a0,λj y v' l C e3=>?_⟩,λy c e=>?_,I.free,I.freeC,λp hp=>?_,g ⟨oL,a1,I.free⟩ f,by simpa using I.len⟩ ⟨_,f,.inl rfl⟩;·exact(f.2 b (apm (apa (apb e) I.ok.above))).trans (I.base.keep b o e n N w)
  ·obtain⟨sl,l⟩:=I.base.slot b o e n N w;exact⟨sl,(f.2 b (apm (apa (apb e) I.ok.above))).trans l⟩
  ·obtain⟨o',l⟩:=I.base.there b o e w;exact⟨o',(f.2 b (apm (apa (apb e) I.ok.above))).trans l⟩
  ·by_cases J:j=i;·subst J;rw[P]at l;cases l;rw[ao8 G]at C;cases C;exact⟨u,r,.inl ⟨D,by simp⟩⟩
   ·rw[ao0 (ape J)]at C;obtain⟨u',r',q⟩:=hl j y v' l C e3;refine⟨u',r',?_⟩;rcases q with⟨k,e⟩|⟨k,c,e,z⟩;·refine .inl ⟨k,?_⟩;have:y≠x:=λe=>J (wU hN l (e▸P));simp[this,e]
    ·exact .inr ⟨k,c,e,z.sameBut f (cne y c e)⟩
  ·obtain⟨Z,z⟩:=I.cell y c e;exact⟨Z,z.sameBut f (cne y c e)⟩
  ·obtain⟨e,n,Y,nf,d⟩:=I.pin p hp;exact⟨(f.2 p.1 Y).trans e,n,Y,nf,d⟩
 ·have K:X.fn x=true:=by
   rcases hf with z|z;·exact z
   ·rw[z]at D;cases D
  obtain⟨c,t⟩:=I.ok.has x (.inl D);obtain⟨Z,z⟩:=I.cell x c t;refine wpAny_storeName_cell I.ok.kind D t z (λh' S f=>?_);obtain⟨oc,U,T⟩:=id z;refine h {s with heap:=h'} ⟨I.ok,I.os,I.bare,⟨λb o e n N w=>?_,λb o e n N w=>?_,I.base.free,λb o e w=>?_,I.base.tups,I.base.frzs,I.base.tbls⟩,⟨m,hn.sameBut f (ape (cne x c t)),λj y v' l C e3=>?_⟩,λy c' e=>?_,I.free,I.freeC,λp hp=>?_,g ⟨oc,U,I.freeC x c t⟩ f,by simpa using I.len⟩ ⟨c,f,.inr t⟩;·exact(f.2 b (apm (apa (apb e) (I.ok.cab x c K t)))).trans (I.base.keep b o e n N w)
  ·obtain⟨sl,l⟩:=I.base.slot b o e n N w;exact⟨sl,(f.2 b (apm (apa (apb e) (I.ok.cab x c K t)))).trans l⟩
  ·obtain⟨o',l⟩:=I.base.there b o e w;exact⟨o',(f.2 b (apm (apa (apb e) (I.ok.cab x c K t)))).trans l⟩
  ·by_cases J:j=i;·subst J;rw[P]at l;cases l;rw[ao8 G]at C;cases C;exact⟨u,r,.inr ⟨.inl D,c,t,S⟩⟩
   ·rw[ao0 (ape J)]at C;obtain⟨u',r',q⟩:=hl j y v' l C e3;refine⟨u',r',?_⟩;rcases q with q|⟨k,c',e,z'⟩;·exact .inl q
    ·refine .inr ⟨k,c',e,z'.sameBut f ?_⟩;rintro rfl;exact J (wU hN l (I.ok.inj _ _ _ e t▸P))
  ·by_cases R:c'=c;·subst R;exact⟨_,S⟩
   ·obtain⟨w2,z2⟩:=I.cell y c' e;exact⟨w2,z2.sameBut f R⟩
  ·obtain⟨e,n,Y,nf,d⟩:=I.pin p hp;refine⟨(f.2 p.1 ?_).trans e,n,Y,nf,d⟩;intro q;rw[q,U]at e;have q':oc=p.2:=apf e;exact d Z (by rw[<-q'];exact T)
def pe{M:Model}{A:Around}{E:Value->Shared->Prop}{i:Nat}{x:Str}{v:V}{u:Value}{Q:Unit->Shared->Prop}(I:Inv X pins σ H s)(d:X.N.Nodup)(f:X.N[i]?=some x)(b:Loc X.env.scope x)(r:RelV v u)(h:∀a,Inv X pins (σ.set i (some v)) H a->Q () a)(c:X.fn x=true\/X.env.scope.names.lookup x=some .local:=by first|exact .inl rfl|exact .inr rfl|assumption):wpAny M A (storeName X.env x u) Q E s:=aak I d f b r (λa e _=>h a e) c
def Inv.ahR{s':Shared}{ch:List Addr}(I:Inv X pins σ H s)(g:s'.os=s.os)(u:Un (frs X.stack) ch H H' s.heap s'.heap)(a:HOk X.prog X.w H' s'.heap)(f:AllBare s'.gens)(d:∀b∈ch,(b∈X.ex\/X.s₀.heap.objs.size<=b)/\b≠X.env.locals/\(∀x c,X.env.cells.lookup x=some c->c≠b)/\∀p∈X.pn++pins,p.1≠b):Inv X pins σ H' s':=by obtain⟨h',g',d',t',h⟩:=s';have e:h=s.os:=g;subst e;exact I.call (g':=g') (t':=t') (d':=d') u a f d
end
abbrev XK:=Value->Option Addr->Hp->Prop
abbrev St:=List (Option V)
abbrev VK:=V->Hp->Prop
abbrev TE:=St->Hp->VK->Prop
abbrev TT:=St->Hp->(Bool->Hp->Prop)->Prop
abbrev TA:=St->Hp->(List V->Hp->Prop)->Prop
structure Ends where
 nx:St->Hp->Prop
 rt:VK
 bk:St->Hp->Prop:=λ_ _=>False
 ct:St->Hp->Prop:=λ_ _=>False
abbrev TS:=Ends->St->Hp->Prop
def EP(X:Cx)(pins:List (Addr×Obj))(σ:St)(Q:VK)(u:Value)(s':Shared):Prop:=∃v a,Inv X pins σ a s'/\RelV v u/\Q v a
def TP(X:Cx)(pins:List (Addr×Obj))(σ:St)(Q:Bool->Hp->Prop)(b:Bool)(s':Shared):Prop:=∃a,Inv X pins σ a s'/\Q b a
def AP(X:Cx)(pins:List (Addr×Obj))(σ:St)(Q:List V->Hp->Prop)(us:List Value)(s':Shared):Prop:=∃b a,Inv X pins σ a s'/\Vals b us/\Q b a
def SP(X:Cx)(pins:List (Addr×Obj))(D:Ends)(f:Flow)(s':Shared):Prop:=match f with|.next=>∃a b,Inv X pins a b s'/\D.nx a b|.brk=>∃a b,Inv X pins a b s'/\D.bk a b|.cont=>∃a b,Inv X pins a b s'/\D.ct a b|.ret u=>∃v a b,Inv X pins a b s'/\RelV v u/\D.rt v b
def PE(X:Cx)(e:Expr)(t:TE):Prop:=∀(a:List (Addr×Obj))(s:Shared)(b:St)(H:Hp)(Q:VK),Inv X a b H s->t b H Q->wpAny (model X.prog X.w) X.A (eval e X.env) (EP X a b Q) X.xe s
def PT(X:Cx)(e:Expr)(t:TT):Prop:=∀(a:List (Addr×Obj))(s:Shared)(b:St)(H:Hp)(Q:Bool->Hp->Prop),Inv X a b H s->t b H Q->wpAny (model X.prog X.w) X.A (isTrue e X.env (eval e X.env)) (TP X a b Q) X.xe s
def PW(X:Cx)(e:Expr)(t:TT):Prop:=∀(b:Sem Value)(a:List (Addr×Obj))(s:Shared)(c:St)(H:Hp)(Q:Bool->Hp->Prop),Inv X a c H s->t c H Q->wpAny (model X.prog X.w) X.A (isTrue e X.env b) (TP X a c Q) X.xe s
def PW.pt{X:Cx}{e:Expr}{t:TT}(h:PW X e t):PT X e t:=h _
def PA(X:Cx)(es:List Expr)(t:TA):Prop:=∀(b:Pos)(a:List (Addr×Obj))(s:Shared)(c:St)(H:Hp)(Q:List V->Hp->Prop),Inv X a c H s->t c H Q->wpAny (model X.prog X.w) X.A (spliced (backTo b (starEach es X.env))) (AP X a c Q) X.xe s
def PS(X:Cx)(st:Stmt)(t:TS):Prop:=∀(a:List (Addr×Obj))(s:Shared)(b:St)(H:Hp)(D:Ends),Inv X a b H s->t D b H->wpAny (model X.prog X.w) X.A (exec st X.env) (SP X a D) X.xe s
def PSs(X:Cx)(st:List Stmt)(t:TS):Prop:=∀(a:List (Addr×Obj))(s:Shared)(b:St)(H:Hp)(D:Ends),Inv X a b H s->t D b H->wpAny (model X.prog X.w) X.A (execs st X.env) (SP X a D) X.xe s
def thn{c:Type}{t:Sem c}{Q b:c->Shared->Prop}{M:Model}{A:Around}{E:Value->Shared->Prop}{s:Shared}(h:wpAny M A t Q E s)(d:∀a s,Q a s->b a s):wpAny M A t b E s:=apx h d λ_ _ x=>x
section
variable{X:Cx}
def fj(i:Nat):TE:=λa H Q=>∃v,a[i]?=some (some v)/\Q v H
def tC(v:V):TE:=λ_ H Q=>Q v H
def ajw{i:Nat}{x:Str}{pos:Pos}(o:X.N[i]?=some x)(p:Vis X.env.scope x)(g:(x==("__debug__":Str))=false:=by decide)(f:(x==("__classdict__":Str))=false:=by decide):PE X (.Name x pos) (fj i):=by
 intro d s t H Q I h;obtain⟨v,e,h⟩:=h;obtain⟨m,k,n⟩:=I.loc;obtain⟨u,r,l⟩:=n i x v o e p;have fin:EP X d t Q u s:=⟨v,H,I,r,h⟩;rcases l with⟨b,q⟩|⟨b,c,j,a⟩;·exact wpAny_Name (wpAny_loadName_local I.ok.kind b k q fin) g
 ·rcases b with b|b;·exact wpAny_Name (wpAny_loadName_cell I.ok.kind b j a fin) g
  ·exact wpAny_Name (wpAny_loadName_free I.ok.kind b j a fin f) g
def afm{i j pos}:PE X (.Constant (.int i) j pos) (tC (.int i)):=λ_ _ _ H _ I h=>wpAny_Constant_int ⟨.int i,H,I.tok _,⟨_,rfl⟩,h⟩
def ajC{b j pos}:PE X (.Constant (.bool b) j pos) (tC (.bl b)):=λ_ _ _ H _ I h=>Constant_bool ⟨.bl b,H,I,rfl,h⟩
def ajA{j pos}:PE X (.Constant .none j pos) (tC .non):=λ_ _ _ H _ I h=>Constant_none ⟨.non,H,I,rfl,h⟩
def mv{x j pos}:PE X (.Constant (.str x) j pos) (tC (.str x)):=λ_ _ _ H _ I h=>Calls.Constant_str ⟨.str x,H,I.tok _,⟨_,rfl⟩,h⟩
def Gl(X:Cx)(x:Str):Prop:=X.env.kindOf x=some .globalImplicit
def dt{E:Value->Shared->Prop}{pins:List (Addr×Obj)}{s:Shared}{σ:St}{H:Hp}{x:Str}{u:Value}{pos:Pos}{Q:Value->Shared->Prop}(I:Inv X pins σ H s)(a:Gl X x)(b:X.mg x=some u)(h:Q u s)(c:(x==("__debug__":Str))=false:=by decide):wpAny (model X.prog X.w) X.A (eval (.Name x pos) X.env) Q E s:=arW I.ok.kind a (Calls.loadGlobal_global (by rw[I.ok.glob];exact I.mod.glob.keeps I.bk) b h) c
def mQ{E:Value->Shared->Prop}{pins:List (Addr×Obj)}{s:Shared}{σ:St}{H:Hp}{x:Str}{u:Value}{pos:Pos}{Q:Value->Shared->Prop}(I:Inv X pins σ H s)(b:Gl X x)(g:X.mg x=none)(f:bootBuiltins x=some u)(h:Q u s)(c:x≠"__name__":=by decide)(d:(x==("__debug__":Str))=false:=by decide):wpAny (model X.prog X.w) X.A (eval (.Name x pos) X.env) Q E s:=by obtain⟨i,e,a⟩:=I.mod.blt;exact arW I.ok.kind b (Calls.loadGlobal_builtin (by rw[I.ok.glob];exact I.mod.glob.keeps I.bk) g (by rw[I.ok.blt];exact e.keeps I.bk) ((a x c).trans f) h) d
def aaZ{x:Str}{v:V}{u:Value}{pos:Pos}(a:Gl X x)(b:X.mg x=some u)(r:RelV v u)(c:(x==("__debug__":Str))=false:=by decide):PE X (.Name x pos) (tC v):=λ_ _ _ H _ I h=>dt I a b ⟨v,H,I,r,h⟩ c
def agV{x:Str}{v:V}{u:Value}{pos:Pos}(a:Gl X x)(c:X.mg x=none)(b:bootBuiltins x=some u)(r:RelV v u)(d:x≠"__name__":=by decide)(e:(x==("__debug__":Str))=false:=by decide):PE X (.Name x pos) (tC v):=λ_ _ _ H _ I h=>mQ I a c b ⟨v,H,I,r,h⟩ d e
variable{a b:Expr}{ta tb:TE}{pos:Pos}
def PC(X:Cx)(op:CmpOp)(a b:Expr)(t:TE):Prop:=∀(c:List (Addr×Obj))(s:Shared)(f:St)(H:Hp)(Q:VK),Inv X c f H s->t f H Q->wpAny (model X.prog X.w) X.A (eval a X.env) (λv e=>wpAny (model X.prog X.w) X.A (eval b X.env) (λu d=>wpAny (model X.prog X.w) X.A (compareOp op v u) (EP X c f Q) X.xe d) X.xe e) X.xe s
def tB(t:TE):TT:=λe H Q=>t e H λx d=>∃c,x=.bl c/\Q c d
def ajl{e:Expr}{t:TE}(h:PE X e t)(i:∀c,isTrue e X.env c=(do let v <-c;standAt e.pos;holding [v] (truthy v)):=by intro _;rfl):PT X e (tB t):=by intro f s m H Q I hw;refine isTrue_plain (thn (h f s m H _ I hw) λv n⟨x,j,l,g,k⟩=>?_) (i _);obtain⟨d,rfl,q⟩:=k;cases g;exact apP ⟨j,l,q⟩
variable{tA tB':TT}{rest:List Expr}
def x8(t u:TT):TT:=λe H Q=>t e H λc d=>if c=true then u e d Q else Q false d
def tOr(t u:TT):TT:=λe H Q=>t e H λc d=>if c=true then Q true d else u e d Q
def vR(t:TT):TT:=λe H Q=>t e H λc d=>Q (!c) d
def agL(g:PT X a tA):PW X (.BoolOp .And [a] pos) tA:=by intro j d s f H Q I h;refine isTrue_and (thn (g d s f H Q I h) λc i e=>?_);cases c with|true=>exact isTrue_and_nil e|false=>exact e
def ajj(g:PT X a tA):PW X (.BoolOp .Or [a] pos) tA:=by intro j d s f H Q I h;refine isTrue_or (thn (g d s f H Q I h) λc i e=>?_);cases c with|false=>exact isTrue_or_nil e|true=>exact e
def ajk(k:PT X a tA)(m:PW X (.BoolOp .And (b::rest) pos) tB'):PW X (.BoolOp .And (a::b::rest) pos) (x8 tA tB'):=by intro l d s f H Q I h;refine isTrue_and (thn (k d s f H _ I h) λc j⟨g,e,i⟩=>?_);cases c with|true=>exact m l d j f g Q e i|false=>exact⟨g,e,i⟩
def amr(k:PT X a tA)(m:PW X (.BoolOp .Or (b::rest) pos) tB'):PW X (.BoolOp .Or (a::b::rest) pos) (tOr tA tB'):=by intro l d s f H Q I h;refine isTrue_or (thn (k d s f H _ I h) λc j⟨g,e,i⟩=>?_);cases c with|true=>exact⟨g,e,i⟩|false=>exact m l d j f g Q e i
def ajm(f:PT X a tA):PT X (.UnaryOp .Not a pos) (vR tA):=by intro d s e H Q I h;exact isTrue_not (f d s e H (λc g=>Q (!c) g) I h)
def al8(ta tb:TE):TE:=λe H Q=>ta e H λx d=>∃c,x=.bl c/\if c=true then tb e d Q else Q (.bl false) d
def al2(ta:TE):TE:=λe H Q=>ta e H λx d=>∃c,x=.bl c/\Q (.bl (!c)) d
def ajy{op}{t:TE}(h:PE X a t):PE X (.BoolOp op [a] pos) t:=λc s d H Q I hw=>BoolOp_one (h c s d H Q I hw)
def ajD(j:PE X a ta)(l:PE X (.BoolOp .And (b::rest) pos) tb):PE X (.BoolOp .And (a::b::rest) pos) (al8 ta tb):=by intro d s i H Q I h;refine BoolOp_and (thn (j d s i H _ I h) λv m⟨x,f,g,k,e⟩=>?_);obtain⟨c,rfl,e⟩:=e;cases k;refine apP ?_;cases c with|true=>exact l d m i f Q g e|false=>exact⟨.bl false,f,g,rfl,e⟩
def ajz(f:PE X a ta):PE X (.UnaryOp .Not a pos) (al2 ta):=by intro d s k H Q I h;refine UnaryOp_ (thn (f d s k H _ I h) λv l⟨x,i,j,g,e⟩=>?_);obtain⟨c,rfl,e⟩:=e;cases g;exact not_of (apP ⟨.bl (!c),i,j,rfl,e⟩)
def tIf(t:TT)(ta tb:TE):TE:=λd H Q=>t d H λc e=>if c=true then ta d e Q else tb d e Q
def adV{c:Expr}(m:PT X c tA)(l:PE X a ta)(n:PE X b tb):PE X (.IfExp c a b pos) (tIf tA ta tb):=by intro e s f H Q I h;refine wpAny_IfExp (thn (m e s f H _ I h) λd i⟨j,g,k⟩=>?_);cases d with|true=>exact l e i f j Q g k|false=>exact n e i f j Q g k
end
def SqL(K:W.Frag)(H:Hp)(a:Addr)(xs:List V):Prop:=Rd H a (.lst xs)\/∃(o:Obj)(b:Array Value)(n:Nat),K.lookup a=some o/\o.cls=.type "list"/\o.dict=none/\o.data=.seq b n/\b.size<=sizeLine/\Vals xs b.toList
def SqT(K:W.Frag)(H:Hp)(a:Addr)(xs:List V):Prop:=Rd H a (.tup xs)\/∃(o:Obj)(b:Array Value)(n:Nat),K.lookup a=some o/\o.cls=.type "tuple"/\o.data=.seq b n/\b.size<=sizeLine/\Vals xs b.toList
noncomputable def aoR:Value->Option V|.none=>some .non|.bool b=>some (.bl b)|.int i _=>some (.int i)|.str x _=>some (.str x)|.bytes b _=>some (.byt b)|.float b _=>some (.flt b)|.ref a=>some (.ref a)|.type n=>some (.ty n)|_=>none
def RelV.abs{x:V}{u:Value}(r:RelV x u):aoR u=some x:=by cases x with|non=>cases r;rfl|bl _=>cases r;rfl|int _=>obtain⟨t,rfl⟩:=r;rfl|str _=>obtain⟨t,rfl⟩:=r;rfl|byt _=>obtain⟨t,rfl⟩:=r;rfl|flt _=>obtain⟨t,rfl⟩:=r;rfl|ref _=>cases r;rfl|ty _=>cases r;rfl
def RelV.inj{x y:V}{u:Value}(r:RelV x u)(q:RelV y u):x=y:=apf (r.abs.symm.trans q.abs)
theorem Vals.inj:∀{xs ys:List V}{us:List Value},Vals xs us->Vals ys us->xs=ys|_,_,_,.nil,.nil=>rfl|_,_,_,.cons r t,.cons r' t'=>by rw[r.inj r',Vals.inj t t']
section
variable{X:Cx}{pins:List (Addr×Obj)}{σ:St}{H:Hp}{s:Shared}{a:Addr}{xs ys:List V}
def SqL.of{K:W.Frag}(h:H a=some (.lst xs)):SqL K H a xs:=.inl (.inl h)
def SqT.of{K:W.Frag}(h:H a=some (.tup xs)):SqT K H a xs:=.inl (.inl h)
def Inv.list(I:Inv X pins σ H s)(h:SqL X.K H a xs):∃b:List Value,Vals xs b/\PlainL s.heap a b.toArray/\xs.length<=sizeLine:=by
 rcases h with h|⟨o,b,n,c,f,g,d,i,r⟩;·obtain⟨z,b,n,r,e⟩:=h.ok I.hok;exact⟨b,r,⟨_,n,e,rfl,rfl,rfl⟩,z⟩
 ·refine⟨b.toList,r,⟨o,n,I.kIn a o c,f,g,by simpa using d⟩,?_⟩;have e:=r.length;simp only[aqj]at e;omega
def Inv.tuple(I:Inv X pins σ H s)(h:SqT X.K H a xs):∃b:List Value,Vals xs b/\IsTup s.heap a b.toArray/\xs.length<=sizeLine:=by
 rcases h with h|⟨o,b,n,c,f,d,g,r⟩;·obtain⟨z,b,r,p⟩:=h.ok I.hok;exact⟨b,r,p,z⟩
 ·refine⟨b.toList,r,⟨o,I.kIn a o c,f,n,by simpa using d⟩,?_⟩;have e:=r.length;simp only[aqj]at e;omega
def Inv.w6(I:Inv X pins σ H s)(h:SqL X.K H a xs)(h':SqL X.K H a ys):xs=ys:=by
 obtain⟨c,r,⟨o,n,e,_,_,d⟩,_⟩:=I.list h;obtain⟨b,i,⟨j,k,f,_,_,g⟩,_⟩:=I.list h';rw[e]at f;cases f;rw[d]at g;injection g with d1 _;have:c=b:=by simpa using aqc Array.toList d1
 subst this;exact r.inj i
def Inv.qu(I:Inv X pins σ H s)(h:SqT X.K H a xs)(h':SqT X.K H a ys):xs=ys:=by
 obtain⟨c,r,⟨o,e,_,n,d⟩,_⟩:=I.tuple h;obtain⟨b,i,⟨j,f,_,k,g⟩,_⟩:=I.tuple h';rw[e]at f;cases f;rw[d]at g;injection g with d1 _;have:c=b:=by simpa using aqc Array.toList d1
 subst this;exact r.inj i
end
abbrev Cx.nY(X:Cx)(E:Value->Shared->Prop):Cx:={X with xe:=E}
abbrev Cx.nox(X:Cx):Cx:=X.nY λ_ _=>False
theorem Cx.Ok.nY{X:Cx}(ok:X.Ok)(E:Value->Shared->Prop):(X.nY E).Ok:=⟨ok.mod,ok.kind,ok.glob,ok.blt,ok.above,ok.inj,ok.has,ok.cab,ok.hd,ok.frames,ok.stk,ok.exf,ok.bs,ok.bsz,ok.noex,ok.exfs,ok.ql,ok.frf⟩
def Cx.Ok.ka{X:Cx}{E:Value->Shared->Prop}(ok:(X.nY E).Ok):X.Ok:=⟨ok.mod,ok.kind,ok.glob,ok.blt,ok.above,ok.inj,ok.has,ok.cab,ok.hd,ok.frames,ok.stk,ok.exf,ok.bs,ok.bsz,ok.noex,ok.exfs,ok.ql,ok.frf⟩
section
variable{X:Cx}{pins:List (Addr×Obj)}{σ:St}{H:Hp}{s:Shared}{E:Value->Shared->Prop}
theorem Inv.nY(I:Inv X pins σ H s)(E:Value->Shared->Prop):Inv (X.nY E) pins σ H s:=⟨I.ok.nY E,I.os,I.bare,I.base,I.loc,I.cell,I.free,I.freeC,I.pin,I.hok,I.len⟩
theorem Inv.ka(I:Inv (X.nY E) pins σ H s):Inv X pins σ H s:=⟨I.ok.ka,I.os,I.bare,I.base,I.loc,I.cell,I.free,I.freeC,I.pin,I.hok,I.len⟩
theorem SP.ka{D:Ends}{f:Flow}{s':Shared}(h:SP (X.nY E) pins D f s'):SP X pins D f s':=by cases f with|next=>obtain⟨a,b,I,q⟩:=h;exact⟨a,b,I.ka,q⟩|brk=>obtain⟨a,b,I,q⟩:=h;exact⟨a,b,I.ka,q⟩|cont=>obtain⟨a,b,I,q⟩:=h;exact⟨a,b,I.ka,q⟩|ret u=>obtain⟨v,a,b,I,r,q⟩:=h;exact⟨v,a,b,I.ka,r,q⟩
theorem PSs.nox{st:List Stmt}{t:TS}(h:PSs X.nox st t):PSs X st t:=λpins s σ H D I hw=>apx (h pins s σ H D (I.nY _) hw) (λ_ _ q=>q.ka) λ_ _ z=>False.elim z
end
section
variable{X:Cx}{st:Stmt}{rest:List Stmt}{t u:TS}{e:Expr}{te:TE}{pos:Pos}
def al3:TS:=λD a H=>D.nx a H
def aiU(t u:TS):TS:=λD a H=>t {D with nx:=u D} a H
def aaO:PSs X [] al3:=λ_ _ a H _ I h=>aqG ⟨a,H,I,h⟩
def bN(d:PS X st t)(g:PSs X rest u):PSs X (st::rest) (aiU t u):=by intro a s i H D I h;refine wpAny_execs_cons (thn (d a s i H {D with nx:=u D} I h) λf j q=>?_);cases f with|next=>obtain⟨b,c,k,q⟩:=q;exact g a j b c D k q|ret v=>exact q|brk=>exact q|cont=>exact q
def dP(b:PS X st t):PSs X [st] t:=by intro a s c H D I h;refine wpAny_execs_cons (thn (b a s c H D I h) λf d q=>?_);cases f with|next=>exact aqG q|ret v=>exact q|brk=>exact q|cont=>exact q
def al5:TS:=λD a H=>D.ct a H
def ur:PS X (.Continue pos) al5:=λ_ _ a H _ I h=>wpAny_Continue ⟨a,H,I,h⟩
def Inv.quiet{pins:List (Addr×Obj)}{σ:St}{H:Hp}{s:Shared}(I:Inv X pins σ H s):interactive X.env=false:=by simp[interactive,I.ok.kind]
def x6(te:TE):TS:=λD a H=>te a H λ_ b=>D.nx a b
def eY(f:PE X e te)(c:swapsWith e none pos.line X.env=pure false:=by rfl):PS X (.Expr e pos) (x6 te):=by intro a s b H D I h;exact wpAny_Expr_any (thn (f a s b H _ I h) λv j⟨x,g,d,k,i⟩=>⟨b,g,d,i⟩) I.quiet c
def anM(te:TE):TS:=λD a H=>te a H D.rt
def wo(f:PE X e te):PS X (.Return (some e) pos) (anM te):=by intro a s b H D I h;exact wpAny_Return_some (thn (f a s b H _ I h) λv j⟨x,g,c,d,i⟩=>⟨x,b,g,c,d,i⟩)
def alZ:TS:=λD _ H=>D.rt .non H
def agN:PS X (.Return none pos) alZ:=λ_ _ a H _ I h=>wpAny_Return_none ⟨.non,a,H,I,rfl,h⟩
def aox(c:TT)(t u:TS):TS:=λD a H=>c a H λb d=>if b=true then t D a d else u D a d
def agO{c:Expr}{a b:List Stmt}{i:TT}(n:PT X c i)(o:PSs X a t)(p:PSs X b u):PS X (.If c a b pos) (aox i t u):=by intro f s g H D I h;refine wpAny_If (thn (n f s g H _ I h) λd m⟨j,l,k⟩=>?_);cases d with|true=>exact o f m g j D l k|false=>exact p f m g j D l k
end
abbrev TG:=V->St->Hp->(St->Hp->Prop)->Prop
abbrev TGs:=List V->St->Hp->(St->Hp->Prop)->Prop
def PG(X:Cx)(a:Expr)(t:TG):Prop:=∀(b:List (Addr×Obj))(s:Shared)(e:St)(H:Hp)(v:V)(u:Value)(Q:St->Hp->Prop),Inv X b e H s->RelV v u->t v e H Q->wpAny (model X.prog X.w) X.A (assign a X.env u) (λ_ f=>∃c d,Inv X b c d f/\Q c d) X.xe s
def PGs(X:Cx)(ts:List Expr)(t:TGs):Prop:=∀(a:List (Addr×Obj))(s:Shared)(e:St)(H:Hp)(f:List V)(d:List Value)(Q:St->Hp->Prop),Inv X a e H s->Vals f d->t f e H Q->wpAny (model X.prog X.w) X.A (assignInOrder ((assignEach ts X.env).map (·.2)) d) (λ_ g=>∃b c,Inv X a b c g/\Q b c) X.xe s
abbrev TIp:=V->V->Hp->VK->Prop
def PIp(X:Cx)(op:Operator)(t:TIp):Prop:=∀(a:List (Addr×Obj))(s:Shared)(b:St)(H:Hp)(x y:V)(v u:Value)(Q:VK),Inv X a b H s->RelV x v->RelV y u->t x y H Q->wpAny (model X.prog X.w) X.A (inplaceOp op v u) (EP X a b Q) X.xe s
section
variable{X:Cx}{pos:Pos}
def aA(i:Nat):TG:=λv a H Q=>Q (a.set i (some v)) H
def uw{i:Nat}{x:Str}(c:X.N.Nodup)(f:X.N[i]?=some x)(d:Loc X.env.scope x)(b:X.fn x=true\/X.env.scope.names.lookup x=some .local:=by first|exact .inl rfl|exact .inr rfl|assumption):PG X (.Name x pos) (aA i):=by intro a s j H v u Q I r h;exact wpAny_assign_Name (pe I c f d r (λg e=>⟨_,H,e,h⟩) b)
def xt:TGs:=λa b H Q=>a=[]/\Q b H
def di(t:TG)(u:TGs):TGs:=λd c H Q=>∃v r,d=v::r/\t v c H λa b=>u r a b Q
def agS:PGs X [] xt:=by intro a s b H d c Q I r h;obtain⟨e,h⟩:=h;subst e;cases r;exact assignInOrder_nil ⟨b,H,I,h⟩
def adT{e:Expr}{es:List Expr}{t:TG}{u:TGs}(i:PG X e t)(d:PGs X es u)(c:(assignEach (e::es) X.env).map (·.2)=assign e X.env::(assignEach es X.env).map (·.2):=by rfl):PGs X (e::es) (di t u):=by intro a s l H p o Q I r h;obtain⟨v,n,j,h⟩:=h;subst j;cases r with|cons r rr=>rw[c];refine assignInOrder_cons (thn (i a s l H _ _ _ I r h) λ_ m⟨b,f,k,g⟩=>?_);exact d a m b f _ _ Q k rr g
def xn(K:W.Frag)(n:Nat)(t:TGs):TG:=λv c H Q=>∃a b,v=.ref a/\SqT K H a b/\b.length=n/\t b c H Q
def ajv{es:List Expr}{k:Nat}{t:TGs}{n:Nat}(l:X.calm=true)(h:PGs X es t)(j:(assignEach es X.env).length=n:=by rfl)(d:(assignEach es X.env).findIdx? (·.1)=none:=by rfl):PG X (.Tuple es k pos) (xn X.K n t):=by intro c s f H v u Q I r hw;obtain⟨a,A,x,m,q,hw⟩:=hw;subst x;cases r;obtain⟨p,g,w,B⟩:=I.tuple m;refine assign_Tuple_tuple (I.ok.hd l) w (by simp[j,<-q,g.length]) d λz i=>?_;have y:Inv X c f H {s with heap:=z}:=I.kept (t':=s.toks) λb o e=>i b o (apm (apb e)) e;exact h c _ f H A _ Q y (by simpa using g) hw
def ai0(b:TE)(g:TG):TS:=λD a H=>b a H λx c=>g x a c D.nx
def ajo{b e:Expr}{c:TE}{g:TG}(k:PE X e c)(i:PG X b g)(f:swapsWithSole [b] e pos.line X.env=pure false:=by rfl)(hw:swappedStores [b] e X.env=pure none:=by rfl)(n:(assignEach [b] X.env).map (·.2)=[assign b X.env]:=by rfl):PS X (.Assign [b] e pos) (ai0 c g):=by intro a s d H D I h;refine wpAny_Assign_stores (thn (k a s d H _ I h) λv p⟨x,l,o,j,m⟩=>?_) f hw;rw[n];exact thn (i a p d l x v _ o j m) λ_ r q=>q
def qY{i:Nat}{x:Str}{e:Expr}{c:TE}{a:Pos}(o:X.N.Nodup)(r:X.N[i]?=some x)(f:Loc X.env.scope x)(j:PE X e c)(d:swapsWith e (some (.Name x a)) pos.line X.env=pure false:=by rfl)(m:X.fn x=true\/X.env.scope.names.lookup x=some .local:=by first|exact .inl rfl|exact .inr rfl|assumption):PS X (.Assign [.Name x a] e pos) (ai0 c (aA i)):=by intro b s q H D I h;refine wpAny_Assign_Name (thn (j b s q H _ I h) λv u⟨y,k,p,g,l⟩=>?_) d;exact pe p o r f g (λt n=>⟨_,k,n,l⟩) m
def aoy(i:Nat)(e:TE)(c:TIp):TS:=λD a H=>∃x,a[i]?=some (some x)/\e a H λy b=>c x y b λz d=>D.nx (a.set i (some z)) d
def ajn{i:Nat}{x:Str}{e:Expr}{p:TE}{op:Operator}{t:TIp}{g:Pos}(Y:X.N.Nodup)(q:X.N[i]?=some x)(o:Loc X.env.scope x)(R:PE X e p)(B:PIp X op t)(U:X.fn x=true\/X.env.scope.names.lookup x=some .local:=by first|exact .inl rfl|exact .inr rfl|assumption):PS X (.AugAssign (.Name x g) op e pos) (aoy i p t):=by
 intro a s A H D I h;obtain⟨v,J,h⟩:=h;obtain⟨m,P,E⟩:=I.loc;have n:Vis X.env.scope x:=by rcases o with k|k;exact .inl k;exact .inr (.inl k)
 obtain⟨u,r,l⟩:=E i x v q J n;refine wpAny_AugAssign_Name ?_;have go:wpAny (model X.prog X.w) X.A (eval e X.env) (λw f=>wpAny (model X.prog X.w) X.A (inplaceOp op u w) (λr j=>wpAny (model X.prog X.w) X.A (storeName X.env x r) (λ_=>SP X a D .next) X.xe j) X.xe f) X.xe s:=by refine thn (R a s A H _ I h) λw s1⟨y,S,K,Q,T⟩=>?_;refine thn (B a s1 A S v y u w _ K r Q T) λz s2⟨zv,Z,G,N,O⟩=>?_;exact pe G Y q o N (λs3 I3=>⟨_,Z,I3,O⟩) U
 rcases l with⟨b,M⟩|⟨b,c,C,d⟩;·exact wpAny_loadName_local I.ok.kind b P M go
 ·rcases b with b|b;·exact wpAny_loadName_cell I.ok.kind b C d go
  ·rcases o with k|k;·have:X.env.scope.names.lookup x=some .free:=b;rw[k]at this;cases this
   ·have:X.env.scope.names.lookup x=some .free:=b;rw[k]at this;cases this
def ipI(f:Int->Int->Int):TIp:=λx y H Q=>∃i j,x=.int i/\y=.int j/\Q (.int (f i j)) H
def akv:PIp X .Add (ipI λi j=>i+j):=by intro a s g H x y v u Q I b e h;obtain⟨i,j,c,d,q⟩:=h;subst c;subst d;obtain⟨t,rfl⟩:=b;obtain⟨f,rfl⟩:=e;exact iadd_int ⟨.int _,H,I.tok _,⟨_,rfl⟩,q⟩
end
section
variable{X:Cx}{pos:Pos}
def aiT(c:TT)(tb:TS):TS:=λD a H=>∃W:Nat->St->Hp->Prop,(∃m,W m a H)/\∀m a H,W m a H->c a H λb g=>if b=true then∃N:St->Hp->Prop,(∀d e,N d e->∃f,f<m/\W f d e)/\tb {D with nx:=N,ct:=N,bk:=D.nx} a g else D.nx a g
def wj{c:Expr}{g:List Stmt}{x:TT}{tb:TS}(u:PassesOwn (model X.prog X.w) X.A X.env X.xe)(G:PT X c x)(M:PSs X g tb):PS X (.While c g [] pos) (aiT x tb):=by intro d s P H D I h;obtain⟨W,⟨B,K⟩,turn⟩:=h;refine wpAny_While (codeAny_whileLoop (λn C=>∃j t,Inv X d j t C/\W n j t) ?_ B ⟨P,H,I,K⟩);rintro n Q⟨e,y,J,E⟩;refine aqp u (thn (G d Q e y _ J (turn n e y E)) λb O⟨A,w,k⟩=>?_);cases b with
|true=>obtain⟨N,z,k⟩:=k;rw[ao1 rfl];refine aqp u (thn (M d O e A _ w k) λf R l=>?_);cases f with|next=>obtain⟨a,i,r,p⟩:=l;obtain⟨q,o,m⟩:=z a i p;exact⟨q,o,a,i,r,m⟩|cont=>obtain⟨a,i,r,p⟩:=l;obtain⟨q,o,m⟩:=z a i p;exact⟨q,o,a,i,r,m⟩|brk=>exact l|ret v=>exact l
|false=>rw[ao2 ao7];exact aqG ⟨e,A,w,k⟩
end
structure It where
 go:Nat->Hp->Prop
 yld:Nat->Hp->V->Hp->Prop
 stop:Nat->Hp->Prop
def xQ(X:Cx)(pins:List (Addr×Obj))(H:Hp)(b:Addr):Prop:=H b=none/\b≠X.env.locals/\b∉X.fs/\(b∈X.ex\/X.s₀.heap.objs.size<=b)/\(∀x c,X.env.cells.lookup x=some c->c≠b)/\∀p∈X.pn++pins,p.1≠b
def Inv.aic{X:Cx}{pins:List (Addr×Obj)}{σ:St}{H H':Hp}{s:Shared}{b:Addr}(I:Inv X pins σ H s)(a:s.heap.objs.size<=b)(f:H' b=none):xQ X pins H' b:=by
 refine⟨f,apQ (apa I.lt a),I.aoE a,.inr (apc I.sz a),λx c e z=>?_,λp d z=>?_⟩;·obtain⟨v,q⟩:=I.cell x c e;exact absurd (apa q.lt (by rw[z];exact a)) (ap7 _)
 ·exact absurd (apa (apb (I.pin p d).1) (by rw[z];exact a)) (ap7 _)
structure Turn(P:Program)(w:World)(K:W.Frag)(tg:Expr)(J:It)(fp:List Addr)(it:Addr)(tn:Nat->Heap->Prop)(cl:Cx->Hp->Prop:=λX _=>X.calm=true):Prop where
 mem:it∈fp
 obj:∀i h,tn i h->∀b∈fp,∃o,h.get? b=some o/\∀v,o.data≠.cell v
 keep:∀i h h',tn i h->(∀b∈fp,∀o,h.get? b=some o->h'.get? b=some o)->tn i h'
 item:∀(X:Cx),X.prog=P->X.w=w->X.K=K->∀(i:Nat)(pins:List (Addr×Obj))(s:Shared)(σ:St)(H:Hp)(E:Value->Shared->Prop),cl X H->Inv X pins σ H s->(∀b∈fp,xQ X pins H b)->tn i s.heap->J.go i H->wpAny (model P w) X.A (pyNext (.ref it)) (λr s1=>∃u,r=some u/\wpAny (model P w) X.A (letOwnedTupleGo tg (.ref it) u) (λ_ s2=>∃x H',Inv X pins σ H' s2/\RelV x u/\J.yld i H x H'/\tn (i+1) s2.heap/\∀b∈fp,H' b=none) E s1) E s
 done:∀(X:Cx),X.prog=P->X.w=w->X.K=K->∀(i:Nat)(pins:List (Addr×Obj))(s:Shared)(σ:St)(H:Hp)(E:Value->Shared->Prop),cl X H->Inv X pins σ H s->(∀b∈fp,xQ X pins H b)->tn i s.heap->J.stop i H->wpAny (model P w) X.A (pyNext (.ref it)) (λr s1=>r=none/\Inv X pins σ H s1) E s
 self:∀(A:Around)(i:Nat)(s:Shared)(Q:Value->Shared->Prop)(E:Value->Shared->Prop),tn i s.heap->Q (.ref it) s->wpAny (model P w) A (pyIter (.ref it)) Q E s
abbrev TI:=St->Hp->(It->Hp->Prop)->Prop
def PIE(X:Cx)(pins:List (Addr×Obj))(σ:St)(h:Expr)(R:It->Hp->Prop)(c:Value)(f:Shared):Prop:=∃(g:Addr)(d:List Addr)(e:Nat->Heap->Prop)(J:It)(a:Hp),c=.ref g/\Inv X pins σ a f/\Turn X.prog X.w X.K h J d g e/\e 0 f.heap/\(∀b∈d,xQ X pins a b)/\R J a
def PI(X:Cx)(d b:Expr)(wi:TI):Prop:=∀(a:List (Addr×Obj))(s:Shared)(c:St)(H:Hp)(R:It->Hp->Prop),Inv X a c H s->wi c H R->wpAny (model X.prog X.w) X.A (eval b X.env) (λv e=>wpAny (model X.prog X.w) X.A (pyIter v) (PIE X a c d R) X.xe e) X.xe s
def yT{M:Model}{A:Around}{E:Value->Shared->Prop}{s:Shared}{b:Expr}{it:Addr}{u:Value}{o:Obj}{n:String}{vs:Array Value}{Q:Unit->Shared->Prop}(c:s.heap.get? it=some o)(e:o.cls=.type n)(f:o.data=.fields vs)(d:["enumerate","zip","dict_itemiterator","dict_reverseitemiterator","odict_iterator","itertools.zip_longest","itertools.pairwise"].contains n=false)(a:Q () s):wpAny M A (letOwnedTupleGo b (.ref it) u) Q E s:=by unfold letOwnedTupleGo;cases b<;>first|exact ao4 a|(cases u<;>first|exact ao4 a| (refine aoY (wpAny_load c ?_);rw[e,f];show wpAny M A (if(["enumerate","zip","dict_itemiterator","dict_reverseitemiterator","odict_iterator","itertools.zip_longest","itertools.pairwise"].contains n&&vs[0]?==some (rawInt _))=true then _ else _) Q E s;rw[ao2 (by intro h;rw[d,Bool.false_and]at h;cases h)];exact ao4 a))
noncomputable def Itl(K:W.Frag)(a:Addr):It:=⟨λi H=>∃b x,SqL K H a b/\b[i]?=some x,λi H x c=>c=H/\∀b,SqL K H a b->b[i]?=some x,λi H=>∃b,SqL K H a b/\b.length<=i⟩
noncomputable def Itt(K:W.Frag)(a:Addr):It:=⟨λi H=>∃b x,SqT K H a b/\b[i]?=some x,λi H x c=>c=H/\∀b,SqT K H a b->b[i]?=some x,λi H=>∃b,SqT K H a b/\b.length<=i⟩
noncomputable def Itr(lo:Int)(n:Nat):It:=⟨λi _=>i<n,λi H x a=>a=H/\x=.int (lo+i),λi _=>n<=i⟩
def z4{P:Program}{w:World}{K:W.Frag}{tg:Expr}(a it:Addr):Turn P w K tg (Itl K a) [it] it (λi h=>h.IsListIter it a i)where
 mem:=by simp
 obj:=λi h st b hb=>by
  have e:b=it:=by simpa using hb
  subst e;obtain⟨o,e,c,d⟩:=st;exact⟨o,e,λv z=>by rw[d]at z;cases z⟩
 keep:=λi h h' st k=>st.at λo e=>k it (by simp) o e;item:=by intro X hP hw hK i pins s σ H E hc I hf st hg;subst hP hw hK;obtain⟨xs,x,hq,hx⟩:=hg;obtain⟨its,rv,p,hz⟩:=I.list hq;obtain⟨u,hu,ru⟩:=rv.get hx;obtain⟨f0,f1,f2,f3,f4,f5⟩:=hf it (by simp);refine wpAny_pyNext_list_item st p.isList (x:=u) (by simpa using hu) λh' st' sb=>?_;have I1:Inv X pins σ H {s with heap:=h'}:=I.turned (t':=s.toks) (λb o hb e=>(sb.2 b hb).trans e) f0 f1 f3 f4 f5;obtain⟨o,e,c,d⟩:=id st';exact⟨u,rfl,yT (s:={s with heap:=h'}) e c d (by decide) ⟨x,H,I1,ru,⟨rfl,λys hy=>by rw[I.w6 hy hq];exact hx⟩,st',λb hb=>(hf b hb).1⟩⟩
 done:=by intro X hP hw hK i pins s σ H E hc I hf st hg;subst hP hw hK;obtain⟨xs,hq,hx⟩:=hg;obtain⟨its,rv,p,hz⟩:=I.list hq;obtain⟨f0,f1,f2,f3,f4,f5⟩:=hf it (by simp);have hl:=rv.length;exact wpAny_pyNext_list_end (I.ok.hd hc) st p.isList (by simp;omega) λh' eb=>⟨rfl,I.turned (t':=s.toks) (λb o hb e=>eb b o hb e) f0 f1 f3 f4 f5⟩
 self:=λ_ _ _ _ _ st h=>wpAny_pyIter_listiter st h
def xY{P:Program}{w:World}{K:W.Frag}{tg:Expr}(a it:Addr):Turn P w K tg (Itt K a) [it] it (λi h=>h.IsTupleIter it a i)where
 mem:=by simp
 obj:=λi h st b hb=>by
  have e:b=it:=by simpa using hb
  subst e;obtain⟨o,e,c,d⟩:=st;exact⟨o,e,λv z=>by rw[d]at z;cases z⟩
 keep:=λi h h' st k=>st.at λo e=>k it (by simp) o e;item:=by intro X hP hw hK i pins s σ H E hc I hf st hg;subst hP hw hK;obtain⟨xs,x,hq,hx⟩:=hg;obtain⟨its,rv,p,hz⟩:=I.tuple hq;obtain⟨u,hu,ru⟩:=rv.get hx;obtain⟨f0,f1,f2,f3,f4,f5⟩:=hf it (by simp);refine wpAny_pyNext_tuple_item st (show s.heap.IsTuple a its.toArray from p) (x:=u) (by simpa using hu) λh' st' sb=>?_;have I1:Inv X pins σ H {s with heap:=h'}:=I.turned (t':=s.toks) (λb o hb e=>(sb.2 b hb).trans e) f0 f1 f3 f4 f5;obtain⟨o,e,c,d⟩:=id st';exact⟨u,rfl,yT (s:={s with heap:=h'}) e c d (by decide) ⟨x,H,I1,ru,⟨rfl,λys hy=>by rw[I.qu hy hq];exact hx⟩,st',λb hb=>(hf b hb).1⟩⟩
 done:=by intro X hP hw hK i pins s σ H E hc I hf st hg;subst hP hw hK;obtain⟨xs,hq,hx⟩:=hg;obtain⟨its,rv,p,hz⟩:=I.tuple hq;obtain⟨f0,f1,f2,f3,f4,f5⟩:=hf it (by simp);have hl:=rv.length;exact wpAny_pyNext_tuple_end (I.ok.hd hc) st (show s.heap.IsTuple a its.toArray from p) (by simp;omega) λh' eb=>⟨rfl,I.turned (t':=s.toks) (λb o hb e=>eb b o hb e) f0 f1 f3 f4 f5⟩
 self:=λ_ _ _ _ _ st h=>wpAny_pyIter_tupleiter st h
def xZ{P:Program}{w:World}{K:W.Frag}{tg:Expr}(it:Addr)(lo:Int)(n:Nat):Turn P w K tg (Itr lo n) [it] it (λi h=>IsRangeIter h it (lo+(i:Nat)*1) ((n:Int)-(i:Nat)) 1)where
 mem:=by simp
 obj:=λi h st b hb=>by
  have e:b=it:=by simpa using hb
  subst e;exact⟨_,st,λv z=>by have z':Data.fields _=Data.cell v:=z;cases z'⟩
 keep:=λi h h' st k=>k it (by simp) _ st;item:=by intro X hP hw hK i pins s σ H E hc I hf st hg;subst hP hw hK;obtain⟨f0,f1,f2,f3,f4,f5⟩:=hf it (by simp);have W:=Walks.range (prog:=X.prog) (w:=X.w) (I.ok.hd hc) it lo 1 n;refine W.item i s _ _ hg st λv h' tk hv st' kk=>?_;obtain⟨t,rfl⟩:=hv;have I1:Inv X pins σ H {s with heap:=h',toks:=tk}:=I.turned (λb o hb e=>kk b o (by simpa using hb) e) f0 f1 f3 f4 f5;refine⟨_,rfl,yT (s:={s with heap:=h',toks:=tk}) (n:="range_iterator") st' rfl rfl (by decide) ⟨.int (lo+i),H,I1,⟨t,?_⟩,⟨rfl,rfl⟩,st',λb hb=>(hf b hb).1⟩⟩;rw[Int.mul_one]
 done:=by intro X hP hw hK i pins s σ H E hc I hf st hg;subst hP hw hK;obtain⟨f0,f1,f2,f3,f4,f5⟩:=hf it (by simp);exact wpAny_pyNext_range_end (I.ok.hd hc) st (by have:n<=i:=hg;omega) λh' eb=>⟨rfl,I.turned (t':=s.toks) (λb o hb e=>eb b o hb e) f0 f1 f3 f4 f5⟩
 self:=λ_ _ _ _ _ st h=>wpAny_pyIter_rangeiter st h
section
variable{X:Cx}{tg:Expr}
def wh{pins:List (Addr×Obj)}{σ:St}{H:Hp}{s:Shared}{R:It->Hp->Prop}{E:Value->Shared->Prop}{lo a:Int}{t u v:Tok}{tk:Nat}(I:Inv X pins σ H s)(h:-(2^62)<=lo)(d:lo<2^62)(f:-(2^62)<=a)(i:a<2^62)(q:R (Itr lo (a-lo).toNat) H):wpAny (model X.prog X.w) X.A (pyIter (.ref s.heap.objs.size)) (PIE X pins σ tg R) E {s with heap:=s.heap.push {cls:=.type "range",data:=.fields #[.int lo t,.int a u,.int 1 v]},toks:=tk}:=by
 refine wpAny_pyIter_range (IsRange.new ..) (small_one h d f i) ?_;have c:Inv X pins σ H {s with heap:=s.heap.push {cls:=.type "range",data:=.fields #[.int lo t,.int a u,.int 1 v]},toks:=tk}:=I.kept λb o e=>aoZ _ e;refine⟨(s.heap.push {cls:=.type "range",data:=.fields #[.int lo t,.int a u,.int 1 v]}).objs.size,[(s.heap.push {cls:=.type "range",data:=.fields #[.int lo t,.int a u,.int 1 v]}).objs.size],_,_,H,rfl,c.kept (t':=tk) λb o e=>aoZ _ e,xZ _ lo (a-lo).toNat,?_,λb g=>?_,q⟩
 ·have j:lo+((0:Nat):Int)*1=lo:=by simp
  have k:(((a-lo).toNat:Nat):Int)-((0:Nat):Int)=Builtin.Range.rangeSize lo a 1:=by rw[rangeSize_one];split<;>omega
  show IsRangeIter _ _ (lo+((0:Nat):Int)*1) ((((a-lo).toNat:Nat):Int)-((0:Nat):Int)) 1;rw[j,k];exact apd _ rfl
 ·have e:b=(s.heap.push {cls:=.type "range",data:=.fields #[.int lo t,.int a u,.int 1 v]}).objs.size:=by simpa using g
  subst e;exact c.aic (ao6 _) (c.hok.fresh (ao6 _))
def mW(ta:TA):TI:=λc H R=>ta c H λa b=>∃j:Int,a=[.int j]/\-(2^62)<=j/\j<2^62/\R (Itr 0 j.toNat) b
def rY(ta:TA):TI:=λc H R=>ta c H λa b=>∃i j:Int,a=[.int i,.int j]/\(-(2^62)<=i/\i<2^62/\-(2^62)<=j/\j<2^62)/\R (Itr i (j-i).toNat) b
def aaX{a:Expr}{ta:TA}{p pos:Pos}(f:Gl X "range")(l:X.mg "range"=none)(g:PA X [a] ta)(d:starEach [a] X.env=[(false,eval a X.env)]:=by rfl):PI X tg (.Call (.Name "range" p) [a] [] pos) (mW ta):=by intro b s m H R I h;refine Call_ (mQ I f l boot_range (ap5 (thn (g pos b s m H _ I h) λo w⟨u,v,k,i,c⟩=>?_) d rfl));obtain⟨j,e,c,n,q⟩:=c;subst e;cases i with|cons r rr=>cases rr;obtain⟨t,rfl⟩:=r;exact call_range_1 (wh k (by omega) (by omega) c n (by simpa using q))
def aaW{a b:Expr}{ta:TA}{p pos:Pos}(k:Gl X "range")(u:X.mg "range"=none)(l:PA X [a,b] ta)(g:starEach [a,b] X.env=[(false,eval a X.env),(false,eval b X.env)]:=by rfl)(d:starEach [b] X.env=[(false,eval b X.env)]:=by rfl):PI X tg (.Call (.Name "range" p) [a,b] [] pos) (rY ta):=by intro c s v H R I h;refine Call_ (mQ I k u boot_range (ap5 (thn (l pos c s v H _ I h) λz C⟨A,B,n,m,f⟩=>?_) (by rw[g,d]) (by rw[d];rfl)));obtain⟨i,j,e,⟨f,w,x,o⟩,q⟩:=f;subst e;cases m with|cons r rr=>cases rr with|cons r' rr=>cases rr;obtain⟨t,rfl⟩:=r;obtain⟨y,rfl⟩:=r';exact call_range_2 (wh n f w x o q)
def anO(wi:TI)(g:TG)(tb:TS):TS:=λD a H=>wi a H λJ h=>∃W:Nat->Nat->St->Hp->Prop,(∃m,W 0 m a h)/\∀i m a H,W i m a H->(J.stop i H/\D.nx a H)\/(J.go i H/\∃N:St->Hp->Prop,(∀c b,N c b->∃e,e<m/\W (i+1) e c b)/\∀x b,J.yld i H x b->g x a b λd f=>tb {D with nx:=N,ct:=N,bk:=D.nx} d f)
noncomputable def q0(a:List Addr)(h:Heap):List (Addr×Obj):=a.filterMap λb=>(h.get? b).map λo=>(b,o)
def gW{a:List Addr}{h:Heap}{b:Addr}{o:Obj}(c:b∈a)(e:h.get? b=some o):(b,o)∈q0 a h:=List.mem_filterMap.mpr ⟨b,c,by rw[e];rfl⟩
def aba{a:List Addr}{h:Heap}{p:Addr×Obj}(c:p∈q0 a h):p.1∈a/\h.get? p.1=some p.2:=by obtain⟨b,f,e⟩:=List.mem_filterMap.mp c;cases q:h.get? b with|none=>rw[q]at e;cases e|some o=>rw[q]at e;have d:(b,o)=p:=apf e;subst d;exact⟨f,q⟩
def Inv.pinned{pins:List (Addr×Obj)}{σ:St}{H:Hp}{s:Shared}{a:List Addr}(I:Inv X pins σ H s)(j:∀b∈a,xQ X pins H b)(g:∀b∈a,∃o,s.heap.get? b=some o/\∀v,o.data≠.cell v):Inv X (pins++q0 a s.heap) σ H s:=I.gy λp h=>(apY.mp h).elim (λz=>I.pin p (apt _ z)) λz=>by obtain⟨c,e⟩:=aba z;obtain⟨k,i,l,_⟩:=j p.1 c;obtain⟨o,f,d⟩:=g p.1 c;rw[e]at f;cases f;exact⟨e,k,i,l,d⟩
def Inv.oY{pins pl:List (Addr×Obj)}{σ:St}{H:Hp}{s:Shared}(I:Inv X (pins++pl) σ H s):Inv X pins σ H s:=I.gy λp a=>I.pin p (apt _ (apL _ a))
def wq{l:Expr}{z:List Stmt}{wi:TI}{g:TG}{tb:TS}{pos:Pos}(M:PassesOwn (model X.prog X.w) X.A X.env X.xe)(hc:X.calm=true)(hi:PI X tg l wi)(hg:PG X tg g)(t:PSs X z tb)(hs:∀x,foldedSetIterable l X.env x=pure x:=by intro _;rfl):PS X (.For tg l z [] pos) (anO wi g tb):=by
 intro c s σ H D I h;refine wpAny_For (thn (hi c s σ H _ I h) λv s1 h1=>thn h1 λa0 s2 h2=>?_) hs;obtain⟨it,K,tn,J,H2,e,I2,T,Z,f2,W,⟨m0,w0⟩,turn⟩:=h2;subst e;-- what stays true of the iterator's objects through the loop
 have w:∀{y:Hp},(∀b∈K,y b=none)->∀b∈K,xQ X c y b:=λhn b t=>⟨hn b t,(f2 b t).2⟩;refine codeAny_forLoop_any (λn s'=>∃i p y,Inv X c p y s'/\tn i s'.heap/\(∀b∈K,y b=none)/\W i n p y) ?_ m0 ⟨0,σ,H2,I2,Z,λb t=>(f2 b t).1,w0⟩;rintro n s3⟨i,q,P,I3,C,O,w3⟩;rcases turn i n q P w3 with⟨G,qn⟩|⟨go,N,hN,step⟩;·refine aqp M (thn (T.done X rfl rfl rfl i c s3 q P X.xe hc I3 (w O) C G) λr s4⟨Y,I4⟩=>?_);subst Y;exact aqG ⟨q,P,I4,qn⟩
 ·refine aqp M (thn (T.item X rfl rfl rfl i c s3 q P X.xe hc I3 (w O) C go) λr s4⟨u,Y,h4⟩=>?_);subst Y;refine aqp M (thn h4 λ_ s5⟨x,H5,I5,r5,y5,B,R⟩=>?_);have Q:=I5.pinned (w R) (T.obj _ _ B);refine aqp M (thn (hg _ s5 q H5 x u _ Q r5 (step x H5 y5)) λ_ s6⟨U,H6,I6,q6⟩=>?_);refine aqp M (thn (t _ s6 U H6 _ I6 q6) λf S A=>?_);have again:∀{a:St}{k:Hp},Inv X (c++q0 K s5.heap) a k S->N a k->∃m,m<n/\∃i p y,Inv X c p y S/\tn i S.heap/\(∀b∈K,y b=none)/\W i m p y:=λ{a k}j E=>by obtain⟨m',hm,w7⟩:=hN a k E;refine⟨m',hm,i+1,a,k,j.oY,T.keep _ _ _ B λb t o e=>(j.pin (b,o) (apt _ (apt _ (gW t e)))).1,λb t=>?_,w7⟩;obtain⟨o,e,d⟩:=T.obj _ _ B b t;exact(j.pin (b,o) (apt _ (apt _ (gW t e)))).2.1
  cases f with|next=>obtain⟨a,k,j,E⟩:=A;exact again j E|cont=>obtain⟨a,k,j,E⟩:=A;exact again j E|brk=>obtain⟨a,k,j,A⟩:=A;exact⟨a,k,j.oY,A⟩|ret v=>obtain⟨x7,a,k,j,r7,A⟩:=A;exact⟨x7,a,k,j.oY,r7,A⟩
end
abbrev R2:=V->V->Hp->VK->Prop
def OpR(X:Cx)(f:Value->Value->Sem Value)(r:R2):Prop:=∀(a:List (Addr×Obj))(s:Shared)(b:St)(H:Hp)(x y:V)(v u:Value)(Q:VK),Inv X a b H s->RelV x v->RelV y u->r x y H Q->wpAny (model X.prog X.w) X.A (f v u) (EP X a b Q) X.xe s
def UnR(X:Cx)(f:Value->Sem Value)(r:V->Hp->VK->Prop):Prop:=∀(a:List (Addr×Obj))(s:Shared)(b:St)(H:Hp)(x:V)(v:Value)(Q:VK),Inv X a b H s->RelV x v->r x H Q->wpAny (model X.prog X.w) X.A (f v) (EP X a b Q) X.xe s
def bJ(X:Cx)(f:Value)(r:List V->Hp->VK->Prop):Prop:=∀(a:List (Addr×Obj))(s:Shared)(c:St)(H:Hp)(d:List V)(b:List Value)(Q:VK),Inv X a c H s->Vals d b->r d H Q->wpAny (model X.prog X.w) X.A (call f b) (EP X a c Q) X.xe s
def tOp(r:R2)(ta tb:TE):TE:=λa H Q=>ta a H λx b=>tb a b λy c=>r x y c Q
def tUn(r:V->Hp->VK->Prop)(ta:TE):TE:=λb H Q=>ta b H λx a=>r x a Q
def rI(C:Int->Int->Prop)(g:Int->Int->V):R2:=λx y H Q=>∃i j,x=.int i/\y=.int j/\C i j/\Q (g i j) H
def rI0(g:Int->Int->V):R2:=λx y H Q=>∃i j,x=.int i/\y=.int j/\Q (g i j) H
def rU(g:Int->V):V->Hp->VK->Prop:=λx H Q=>∃i,x=.int i/\Q (g i) H
section
variable{X:Cx}{a b c:Expr}{ta tb tc:TE}{pos:Pos}
def anz(k:PE X a ta)(m:PE X b tb){pins:List (Addr×Obj)}{s:Shared}{σ:St}{H:Hp}{R:V->V->Hp->Prop}(I:Inv X pins σ H s)(h:ta σ H λx j=>tb σ j λy d=>R x y d){Q:Value->Shared->Prop}{f:Value->Value->Sem Value}(o:∀v u i x y d,Inv X pins σ d i->RelV x v->RelV y u->R x y d->wpAny (model X.prog X.w) X.A (f v u) Q X.xe i):wpAny (model X.prog X.w) X.A (eval a X.env) (λv e=>wpAny (model X.prog X.w) X.A (eval b X.env) (λu g=>wpAny (model X.prog X.w) X.A (f v u) Q X.xe g) X.xe e) X.xe s:=by refine thn (k pins s σ H _ I h) λv r⟨x,j,q,l,n⟩=>?_;refine thn (m pins r σ j _ q n) λu i⟨y,d,p,t,w⟩=>?_;exact o v u i x y d p l t w
def amw{op:Operator}{r:R2}(f:OpR X (binaryOp op) r)(g:PE X a ta)(i:PE X b tb):PE X (.BinOp a op b pos) (tOp r ta tb):=by intro d s m H Q I h;exact wpAny_BinOp (anz g i I h λv u l x y k j e n q=>f d l m k x y v u Q j e n q)
def amu{op:UnaryOp}{r:V->Hp->VK->Prop}(g:UnR X (unaryOp op) r)(j:PE X a ta):PE X (.UnaryOp op a pos) (tUn r ta):=by intro d s e H Q I h;exact UnaryOp_ (thn (j d s e H _ I h) λv i⟨x,l,f,k,m⟩=>g d i e l x v Q f k m)
def opI{f:Value->Value->Sem Value}{C:Int->Int->Prop}{g:Int->Int->Int}(rule:∀(i j:Int)(t u:Tok)(s:Shared)(Q:Value->Shared->Prop)(E:Value->Shared->Prop),C i j->Q (.int (g i j) s.toks) {s with toks:=s.toks+1}->wpAny (model X.prog X.w) X.A (f (.int i t) (.int j u)) Q E s):OpR X f (rI C λi j=>.int (g i j)):=by intro d s n H x y v u Q I e m h;obtain⟨i,j,rfl,rfl,k,q⟩:=h;obtain⟨t,rfl⟩:=e;obtain⟨l,rfl⟩:=m;exact rule i j t l s _ _ k ⟨.int (g i j),H,I.tok _,⟨_,rfl⟩,q⟩
def an1{f:Value->Value->Sem Value}{g:Int->Int->Int}(rule:∀(i j:Int)(t u:Tok)(s:Shared)(Q:Value->Shared->Prop)(E:Value->Shared->Prop),Q (.int (g i j) s.toks) {s with toks:=s.toks+1}->wpAny (model X.prog X.w) X.A (f (.int i t) (.int j u)) Q E s):OpR X f (rI0 λi j=>.int (g i j)):=by intro d s m H x y v u Q I e l h;obtain⟨i,j,rfl,rfl,q⟩:=h;obtain⟨t,rfl⟩:=e;obtain⟨k,rfl⟩:=l;exact rule i j t k s _ _ ⟨.int (g i j),H,I.tok _,⟨_,rfl⟩,q⟩
def ali{f:Value->Value->Sem Value}{g:Int->Int->Bool}(rule:∀(i j:Int)(t u:Tok)(s:Shared)(Q:Value->Shared->Prop)(E:Value->Shared->Prop),Q (.bool (g i j)) s->wpAny (model X.prog X.w) X.A (f (.int i t) (.int j u)) Q E s):OpR X f (rI0 λi j=>.bl (g i j)):=by intro d s m H x y v u Q I e l h;obtain⟨i,j,rfl,rfl,q⟩:=h;obtain⟨t,rfl⟩:=e;obtain⟨k,rfl⟩:=l;exact rule i j t k s _ _ ⟨.bl (g i j),H,I,rfl,q⟩
def anI(i j:Int):Prop:=(-(2^64)<i/\i<2^64)\/(-(2^64)<j/\j<2^64)
def anI.ok{i j:Int}(h:anI i j):IntMulOk i j:=by
 rcases h with⟨d,e⟩|⟨d,e⟩;·exact .of_left (intBits_le_64 d e)
 ·exact .of_right (intBits_le_64 d e)
def ajP:OpR X (binaryOp .Add) (rI0 λi j=>.int (i+j)):=an1 λ_ _ _ _ _ _ _ q=>add_int q
def ajG:OpR X (binaryOp .Sub) (rI0 λi j=>.int (i-j)):=an1 λ_ _ _ _ _ _ _ q=>sub_int q
def ajI:OpR X (binaryOp .Mult) (rI anI λi j=>.int (i*j)):=opI λ_ _ _ _ _ _ _ d q=>mul_int q d.ok
def ajJ:OpR X (binaryOp .Mod) (rI (λ_ j=>0<j) λi j=>.int (i%j)):=opI λi j _ _ _ _ _ d q=>by have e:(0:Int)<j:=d;exact mod_int' (by omega) (by rw[Int.fmod_eq_emod_of_nonneg i (by omega)];exact q)
def unI{f:Value->Sem Value}{g:Int->Int}(rule:∀(i:Int)(t:Tok)(s:Shared)(Q:Value->Shared->Prop)(E:Value->Shared->Prop),Q (.int (g i) s.toks) {s with toks:=s.toks+1}->wpAny (model X.prog X.w) X.A (f (.int i t)) Q E s):UnR X f (rU λi=>.int (g i)):=by intro d s j H x v Q I e h;obtain⟨i,rfl,q⟩:=h;obtain⟨t,rfl⟩:=e;exact rule i t s _ _ ⟨.int (g i),H,I.tok _,⟨_,rfl⟩,q⟩
def aiM:UnR X (unaryOp .USub) (rU λi=>.int (-i)):=unI λ_ _ _ _ _ q=>neg_int q
end
noncomputable def amc:V->V->Bool|.non,.non=>true|.non,.int _=>true|.int _,.non=>true|.non,.bl _=>true|.bl _,.non=>true|.non,.str _=>true|.str _,.non=>true|.int _,.int _=>true|.bl _,.bl _=>true|.str _,.str _=>true|.byt _,.byt _=>true|.int _,.str _=>true|.str _,.int _=>true|.bl _,.str _=>true|.str _,.bl _=>true|_,_=>false
def rEq:R2:=λx y H Q=>amc x y=true/\Q (.bl (decide (x=y))) H
def rNe:R2:=λx y H Q=>amc x y=true/\Q (.bl (!decide (x=y))) H
def u7{i j:Int}:decide (V.int i=V.int j)=(i==j):=by rw[apB];simp
def acp{i j:Bool}:decide (V.bl i=V.bl j)=(i==j):=by rw[apB];simp
def u6{i j:Str}:decide (V.str i=V.str j)=(i==j):=by rw[apB];simp
def aco{i j:Array UInt8}:decide (V.byt i=V.byt j)=(i.toList==j.toList):=by rw[apB];cases i;cases j;simp
section
variable{X:Cx}{a b c:Expr}{ta tb tc:TE}{pos:Pos}
def aV{pins:List (Addr×Obj)}{σ:St}{H:Hp}{s:Shared}{Q:VK}{k k':Bool}(I:Inv X pins σ H s)(q:Q (.bl k) H)(e:k=k'):EP X pins σ Q (.bool k') s:=by subst e;exact⟨.bl k,H,I,rfl,q⟩
def amD:OpR X (compareOp .Eq) rEq:=by intro k s l H x y v u Q I g d h;obtain⟨f,q⟩:=h;cases x with
|non=>cases g;cases y with|non=>cases d;exact PySem.EqNone.eq_none_none (aV I q (by simp))|bl j=>cases d;exact PySem.EqNone.eq_none_bool (aV I q (by simp))|int j=>obtain⟨e,rfl⟩:=d;exact PySem.EqNone.eq_none_int (aV I q (by simp))|str j=>obtain⟨e,rfl⟩:=d;exact PySem.EqNone.eq_none_str (aV I q (by simp))|_=>exact absurd (show false=true from f) ao7
|bl i=>cases g;cases y with|non=>cases d;exact PySem.EqNone.eq_bool_none (aV I q (by simp))|bl j=>cases d;exact eq_bool (aV I q acp)|str j=>obtain⟨e,rfl⟩:=d;exact PySem.EqMixed.eq_bool_str (aV I q (by simp))|_=>exact absurd (show false=true from f) ao7
|int i=>obtain⟨t,rfl⟩:=g;cases y with|non=>cases d;exact PySem.EqNone.eq_int_none (aV I q (by simp))|int j=>obtain⟨e,rfl⟩:=d;exact eq_int (aV I q u7)|str j=>obtain⟨e,rfl⟩:=d;exact PySem.EqMixed.eq_int_str (aV I q (by simp))|_=>exact absurd (show false=true from f) ao7
|str i=>obtain⟨t,rfl⟩:=g;cases y with|non=>cases d;exact PySem.EqNone.eq_str_none (aV I q (by simp))|bl j=>cases d;exact PySem.EqMixed.eq_str_bool (aV I q (by simp))|int j=>obtain⟨e,rfl⟩:=d;exact PySem.EqMixed.eq_str_int (aV I q (by simp))|str j=>obtain⟨e,rfl⟩:=d;exact eq_str (aV I q u6)|_=>exact absurd (show false=true from f) ao7
|byt i=>obtain⟨t,rfl⟩:=g;cases y with|byt j=>obtain⟨e,rfl⟩:=d;exact W.eq_bytes (aV I q aco)|_=>exact absurd (show false=true from f) ao7
|_=>cases y<;>exact absurd (show false=true from f) ao7
def amy:OpR X (compareOp .NotEq) rNe:=by intro k s l H x y v u Q I g d h;obtain⟨f,q⟩:=h;cases x with
|non=>cases g;cases y with|non=>cases d;exact PySem.EqNone.ne_none_none (aV I q (by simp))|bl j=>cases d;exact PySem.EqNone.ne_none_bool (aV I q (by simp))|int j=>obtain⟨e,rfl⟩:=d;exact PySem.EqNone.ne_none_int (aV I q (by simp))|str j=>obtain⟨e,rfl⟩:=d;exact PySem.EqNone.ne_none_str (aV I q (by simp))|_=>exact absurd (show false=true from f) ao7
|bl i=>cases g;cases y with|non=>cases d;exact PySem.EqNone.ne_bool_none (aV I q (by simp))|bl j=>cases d;exact ne_bool (aV I q (aqc not acp))|str j=>obtain⟨e,rfl⟩:=d;exact PySem.EqMixed.ne_bool_str (aV I q (by simp))|_=>exact absurd (show false=true from f) ao7
|int i=>obtain⟨t,rfl⟩:=g;cases y with|non=>cases d;exact PySem.EqNone.ne_int_none (aV I q (by simp))|int j=>obtain⟨e,rfl⟩:=d;exact ne_int (aV I q (aqc not u7))|str j=>obtain⟨e,rfl⟩:=d;exact PySem.EqMixed.ne_int_str (aV I q (by simp))|_=>exact absurd (show false=true from f) ao7
|str i=>obtain⟨t,rfl⟩:=g;cases y with|non=>cases d;exact PySem.EqNone.ne_str_none (aV I q (by simp))|bl j=>cases d;exact PySem.EqMixed.ne_str_bool (aV I q (by simp))|int j=>obtain⟨e,rfl⟩:=d;exact PySem.EqMixed.ne_str_int (aV I q (by simp))|str j=>obtain⟨e,rfl⟩:=d;exact ne_str (aV I q (aqc not u6))|_=>exact absurd (show false=true from f) ao7
|byt i=>obtain⟨t,rfl⟩:=g;cases y with|byt j=>obtain⟨e,rfl⟩:=d;exact W.ne_bytes (aV I q (aqc not aco))|_=>exact absurd (show false=true from f) ao7
|_=>cases y<;>exact absurd (show false=true from f) ao7
def amz:OpR X (compareOp .Lt) (rI0 λi j=>.bl (decide (i<j))):=ali λ_ _ _ _ _ _ _ q=>lt_int q
def amA:OpR X (compareOp .LtE) (rI0 λi j=>.bl (decide (i<=j))):=ali λ_ _ _ _ _ _ _ q=>le_int q
def amB:OpR X (compareOp .Gt) (rI0 λi j=>.bl (decide (j<i))):=ali λ_ _ _ _ _ _ _ q=>gt_int q
def amC:OpR X (compareOp .GtE) (rI0 λi j=>.bl (decide (j<=i))):=ali λ_ _ _ _ _ _ _ q=>ge_int q
def aa4:OpR X (compareOp .In) (λx y H Q=>∃i j,x=.str i/\y=.str j/\Q (.bl (!(Builtin.Str.occurrences j i 0 j.length 1).isEmpty)) H):=by intro d s k H x y v u Q I e f h;obtain⟨i,j,rfl,rfl,q⟩:=h;obtain⟨t,rfl⟩:=e;obtain⟨g,rfl⟩:=f;exact in_str (aV I q rfl)
def ajK:OpR X (compareOp .Is) (λx y H Q=>y=.non/\Q (.bl (decide (x=.non))) H):=by intro e s g H x y v u Q I d f h;obtain⟨rfl,q⟩:=h;cases f;refine is_none_gen (aV I q ?_);cases x<;>first|(cases d;rfl)|(obtain⟨t,rfl⟩:=d;rfl)
def agX:OpR X (compareOp .IsNot) (λx y H Q=>y=.non/\Q (.bl (!decide (x=.non))) H):=by intro e s g H x y v u Q I d f h;obtain⟨rfl,q⟩:=h;cases f;refine isnot_none_gen (aV I q ?_);cases x<;>first|(cases d;rfl)|(obtain⟨t,rfl⟩:=d;rfl)
def OpR.or{f:Value->Value->Sem Value}{r g:R2}(h:OpR X f r)(h':OpR X f g):OpR X f (λx y H Q=>r x y H Q\/g x y H Q):=by
 intro d s i H x y v u Q I e j q;rcases q with q|q;·exact h d s i H x y v u Q I e j q
 ·exact h' d s i H x y v u Q I e j q
def aU(b:Expr){op:CmpOp}(h:op≠.In:=by decide)(d:op≠.NotIn:=by decide):behindInMarks op b=false:=by
 have e:(op==CmpOp.In)=false:=by cases op<;>first|rfl|exact absurd rfl h
 have f:(op==CmpOp.NotIn)=false:=by cases op<;>first|rfl|exact absurd rfl d
 cases b<;>simp[behindInMarks,e,f]
def agT{op:CmpOp}{r:R2}(f:OpR X (compareOp op) r)(g:PE X a ta)(i:PE X b tb)(l:behindInMarks op b=false):PE X (.Compare a [op] [b] pos) (tOp r ta tb):=by intro d s n H Q I h;exact wpAny_Compare1 (anz g i I h λv u m x y k j e o q=>f d m n k x y v u Q j e o q) l
def adB(t:TE):TT:=λe H Q=>t e H λx d=>∃k,x=.bl k/\Q k d
def aaN{op:CmpOp}{r:R2}(i:OpR X (compareOp op) r)(j:PE X a ta)(m:PE X b tb)(A:behindInMarks op b=false):PT X (.Compare a [op] [b] pos) (adB (tOp r ta tb)):=by intro d s f H Q I h;refine wpAny_isTrue_Compare1 (thn (j d s f H _ I h) λv C⟨x,n,q,l,o⟩=>thn (m d C f n _ q o) λu B⟨y,t,p,D,G⟩=>thn (i d B f t x y v u _ p l D G) λc K⟨z,w,E,g,k,e,J⟩=>?_) A;subst e;cases g;exact apP ⟨w,E,J⟩
def aaf(r i:R2)(ta tb tc:TE):TE:=λd H Q=>ta d H λx f=>tb d f λy h=>r x y h λz e=>∃k,z=.bl k/\(if k=true then tc d e λg j=>i y g j Q else Q (.bl false) e)
def adX{op g:CmpOp}{r o:R2}(q:OpR X (compareOp op) r)(j:OpR X (compareOp g) o)(w:PE X a ta)(O:PE X b tb)(t:PE X c tc)(D:lastMarks [op,g] [b,c]=false:=by with_unfolding_all rfl):PE X (.Compare a [op,g] [b,c] pos) (aaf r o ta tb tc):=by intro f s i H Q I h;refine Compare_chain (thn (w f s i H _ I h) λv Y⟨x,P,B,N,R⟩=>chain_link (thn (O f Y i P _ B R) λu U⟨y,T,A,m,E⟩=>thn (q f U i T x y v u _ A N m E) λd s3⟨z,l,p,r3,k,e,n⟩=>?_)) D;subst e;cases r3;refine apP ?_;cases k with|false=>exact ite_ff ⟨.bl false,l,p,rfl,n⟩|true=>exact ite_tt (chain_last (thn (t f s3 i l _ p n) λS K⟨J,Z,G,M,C⟩=>j f K i Z y J u S Q G m M C))
def adN{op g:CmpOp}{r o:R2}(t:OpR X (compareOp op) r)(j:OpR X (compareOp g) o)(B:PE X a ta)(U:PE X b tb)(A:PE X c tc)(J:lastMarks [op,g] [b,c]=false:=by with_unfolding_all rfl):PT X (.Compare a [op,g] [b,c] pos) (adB (aaf r o ta tb tc)):=by intro f s i H Q I h;refine isTrue_chain (thn (B f s i H _ I h) λv s1⟨x,Y,E,T,Z⟩=>test_link (thn (U f s1 i Y _ E Z) λu s2⟨y,H2,D,m,K⟩=>thn (t f s2 i H2 x y v u _ D T m K) λd s3⟨z,l,p,r3,k,e,n⟩=>?_)) J;subst e;cases r3;refine apP ?_;cases k with|false=>obtain⟨k',e',R⟩:=n;cases e';exact ite_ff ⟨l,p,R⟩|true=>refine ite_tt (test_last (thn (A f s3 i l _ p n) λw' P⟨O,H4,N,S,G⟩=>thn (j f P i H4 y O u w' _ N m S G) λd' s5⟨z2,C,M,q,k2,e2,w⟩=>?_));subst e2;cases q;exact apP ⟨C,M,w⟩
def rP:(sizeLine:Nat)<2^63:=by rw[aqK];decide
def vals1{x:V}{us:List Value}(r:Vals [x] us):∃u,us=[u]/\RelV x u:=by cases r with|cons r1 r2=>cases r2;exact⟨_,rfl,r1⟩
def vals2{x y:V}{us:List Value}(r:Vals [x,y] us):∃u d,us=[u,d]/\RelV x u/\RelV y d:=by cases r with|cons r1 r2=>cases r2 with|cons r3 r4=>cases r4;exact⟨_,_,rfl,r1,r3⟩
def aeT:bJ X (.builtin "abs") (λe H Q=>∃i,e=[.int i]/\Q (.int (if i<0 then -i else i)) H):=by intro d s g H e f Q I r h;obtain⟨i,rfl,q⟩:=h;obtain⟨u,rfl,t,rfl⟩:=vals1 r;exact call_abs_int λu tk=>⟨.int (if i<0 then -i else i),H,I.tok _,⟨_,rfl⟩,q⟩
def acQ(g:X.calm=true):bJ X (.builtin "max") (λf H Q=>∃i j,f=[.int i,.int j]/\Q (.int (if j>i then j else i)) H):=by
 intro e s o H f m Q I r h;obtain⟨i,j,rfl,q⟩:=h;obtain⟨u,n,rfl,⟨t,rfl⟩,⟨l,rfl⟩⟩:=vals2 r;refine max_two_ints (I.ok.hd g) λp tk k=>⟨_,H,I.kept k,?_,q⟩;by_cases d:j>i;·rw[ao1 d,ao1 d];exact⟨_,rfl⟩
 ·rw[ao2 d,ao2 d];exact⟨_,rfl⟩
end
structure ObjM(h:Heap)(x dx C:Addr)(mA:Str->Option Value):Prop where
 obj:h.get? x=some (W.instObj C dx)ns:h.Ns1 dx mA
 ne:dx≠x
def abu{h:Heap}{dx:Addr}{f:Str->Option Value}(n:h.Ns1 dx f):∃od,h.get? dx=some od/\∀b,W.lookIn b od=some (f b):=by
 obtain⟨o,d,p,g,j,k,_,l⟩:=n;refine⟨o,g,λb=>?_⟩;have e:=l b;unfold nsFind findBy at e;rw[<-arR]at e;unfold W.lookIn;rw[j];dsimp only;split;·rename_i y q;rw[q]at e;exact aqc some e
 ·rename_i q;rw[q]at e;have a:d.toList.any (·.refKey)=false:=by rw[List.any_eq_false];intro y m;obtain⟨z,t,c⟩:=k y (Array.mem_toList_iff.mp m);simp[DictEntry.refKey,c]
  have i:¬d.toList.any (·.refKey)=true:=by rw[a];exact ao7
  rw[ao2 i];exact aqc some e
def ObjM.look{h:Heap}{x dx C:Addr}{b:Str->Option Value}(I:ObjM h x dx C b):∃od,W.InstAt h x (W.instObj C dx) C (some od)/\∀a,W.lookIn a od=some (b a):=let⟨od,c,d⟩:=abu I.ns;⟨od,⟨I.obj,rfl,rfl,c⟩,d⟩
section
variable{prog:Program}{w:World}{A:Around}{E:Value->Shared->Prop}{s:Shared}{K:W.Frag}{x dx C f:Addr}{mA:Str->Option Value}{name:Str}{v:Value}
def get_map{a:Bool}{Q:Value->Shared->Prop}(X:K.In s.heap)(I:ObjM s.heap x dx C mA)(c:W.plainGet K C name=true)(g:W.hasDictIn K C=true)(e:W.findIn K (.ref C) name=some none)(d:mA name=some v)(b:W.handedIn v=true)(h:Q v {s with toks:=s.toks+1}):wpAny (model prog w) A (getAttr (.ref x) name a) Q E s:=by obtain⟨od,J,i⟩:=I.look;exact W.get_value X J (W.plainGet_of c).1 (W.findObj_own g e rfl (by rw[i,d])) b h
def aeA{pl:Sem Bool}{Q:Value×List Value->Shared->Prop}(X:K.In s.heap)(I:ObjM s.heap x dx C mA)(a:W.plainGet K C name=true)(b:W.findIn K (.ref C) name=some (some (.ref f)))(e:W.isFn K (.ref f)=true)(c:mA name=none)(h:Q (.ref f,[.ref x]) s):wpAny (model prog w) A (getMethod (.ref x) name pl) Q E s:=by obtain⟨od,J,d⟩:=I.look;exact W.method_fn X J (W.plainGet_of a).1 (W.plainGet_of a).2 b (ap8.mp e) (by show(W.lookIn name od).map (·.isSome)=some false;rw[d,c];rfl) h
def agw{ns:List Str}{Q:Unit->Shared->Prop}(X:K.In s.heap)(I:ObjM s.heap x dx C mA)(l:W.findIn K (.ref C) "__setattr__"=some (some (.builtin "object.__setattr__")))(m:W.plainOver K C=true)(t:W.takerIn K C name=some none)(p:W.hasDictIn K C=true)(hw:PySem.Within mA ns)(hsz:ns.length<=sizeLine)(h:∀e,ObjM e x dx C (λy=>if y=name then some v else mA y)->Heap.SameBut dx s.heap e->Q () {s with heap:=e,toks:=s.toks+2}):wpAny (model prog w) A (setAttr (.ref x) name v) Q E s:=by obtain⟨od,J,z⟩:=I.look;refine W.set_plain X J l (W.osa_open (s:={s with toks:=s.toks+1}) (r:=none) X J m t λb=>?_);obtain⟨B,o,i⟩:=W.any_some p;have n:s.heap.get? x=some ⟨.ref C,some dx,.plain,#[]⟩:=I.obj;refine aoY (ao4 (aoY (aoY (asB n (aoY (W.Looks.here (s:={s with toks:=s.toks+1}) (arX X o) ?_))))));rw[i];refine ao4 (a:=some dx) (aoY (ao4 (aoY ?_)));refine wpAny_nsSet1 (s:={s with toks:=s.toks+1}) I.ns λe d c=>?_;obtain⟨D,q,u,j,k,g⟩:=d.count (ar3 name v hw);refine aoY (asi j (by rw[k];exact asj (apc g (by rw[aph];omega))) ?_);exact ao4 (h _ ⟨(c.2 _ (ape I.ne)).trans I.obj,d,I.ne⟩ c)
def aec{R:Result->Shared->Prop}{vs:List Value}{a:List (Str×Value)}(X:K.In s.heap)(c:W.makesIn K C=true)(e:W.findIn K (.ref C) "__init__"=some (some (.ref f)))(b:W.typeIn K (.ref f)=some (.type "function"))(h:codeAny (model prog w) (A.under (.builtin "type.__call__" ⟨.ref C::vs,a⟩)) (.call (.ref f) ⟨.ref (s.heap.objs.size+1)::vs,a⟩) (W.InitBack (s.heap.objs.size+1) R) {s with heap:=(s.heap.push W.emptyDict).push (W.instObj C s.heap.objs.size)}):codeAny (model prog w) A (.call (.ref C) ⟨vs,a⟩) R s:=by obtain⟨i,g,d,t,os⟩:=s;exact W.make_core (W.makes_of X c) (W.looks_findIn X e) (λself=>W.bind_fn X self b) (.inl rfl) h
end
noncomputable def oq(f:Str)(v:V):List (Str×V)->List (Str×V)|[]=>[(f,v)]|(g,x)::r=>if g=f then(g,v)::r else(g,x)::oq f v r
theorem mM(f g:Str)(v:V):∀fs:List (Str×V),(oq f v fs).lookup g=if g=f then some v else fs.lookup g
|[]=>by
 show List.lookup g [(f,v)]=_;by_cases h:g=f;·have a:(g==f)=true:=ap8.mpr h;simp only[List.lookup,a,ao1 h]
 ·have a:(g==f)=false:=apA.mpr h;simp only[List.lookup,a,ao2 h]|(k,x)::r=>by
  have c:=mM f g v r;rw[show oq f v ((k,x)::r)=(if k=f then(k,v)::r else(k,x)::oq f v r)from rfl];by_cases b:k=f
  ·rw[ao1 b];by_cases h:g=k;·have a:(g==k)=true:=ap8.mpr h;simp only[List.lookup,a,ao1 (h.trans b)]
   ·have a:(g==k)=false:=apA.mpr h;simp only[List.lookup,a,ao2 (λe:g=f=>h (e.trans b.symm))]
  ·rw[ao2 b];by_cases h:g=k;·have a:(g==k)=true:=ap8.mpr h;simp only[List.lookup,a,ao2 (λe:g=f=>b (h.symm.trans e))]
   ·have a:(g==k)=false:=apA.mpr h;simp only[List.lookup,a];exact c
theorem mS(f:Str)(v:V):∀fs:List (Str×V),f∈(oq f v fs).map (·.1)/\∀g,g∈fs.map (·.1)->g∈(oq f v fs).map (·.1)
|[]=>⟨by simp[oq],λg h=>by simp at h⟩|(k,x)::r=>by
  obtain⟨b,c⟩:=mS f v r;rw[show oq f v ((k,x)::r)=(if k=f then(k,v)::r else(k,x)::oq f v r)from rfl];by_cases a:k=f;·rw[ao1 a];subst a;exact⟨by simp,λg h=>by simpa using h⟩
  ·rw[ao2 a];refine⟨?_,λg h=>?_⟩;·rw[ao9];exact apG _ b
   ·rw[ao9]at h⊢;rcases apl.mp h with e|e;·exact apl.mpr (.inl e)
    ·exact apG _ (c g e)
theorem mP(f:Str)(v:V):∀fs:List (Str×V),(oq f v fs).length<=fs.length+1
|[]=>by simp[oq]|(k,x)::r=>by
 have b:=mP f v r;rw[show oq f v ((k,x)::r)=(if k=f then(k,v)::r else(k,x)::oq f v r)from rfl];by_cases a:k=f;·rw[ao1 a,aph,aph];omega
 ·rw[ao2 a,aph,aph];omega
def tE.some_of{v:V}{o:Option Value}(r:tE (some v) o):∃u,o=some u/\RelV v u:=by cases o with|none=>exact(show False from r).elim|some u=>exact⟨u,rfl,r⟩
def tE.none_of{o:Option Value}(r:tE none o):o=none:=by cases o with|none=>rfl|some u=>exact(show False from r).elim
def abR{v:V}{u:Value}(r:RelV v u):W.handedIn u=true:=by cases v with|non=>cases(show u=Value.none from r);rfl|bl b=>cases(show u=Value.bool b from r);rfl|int i=>obtain⟨t,e⟩:=(show∃t,u=Value.int i t from r);cases e;rfl|str x=>obtain⟨t,e⟩:=(show∃t,u=Value.str x t from r);cases e;rfl|byt b=>obtain⟨t,e⟩:=(show∃t,u=Value.bytes b t from r);cases e;rfl|flt b=>obtain⟨t,e⟩:=(show∃t,u=Value.float b t from r);cases e;rfl|ref a=>cases(show u=Value.ref a from r);rfl|ty n=>cases(show u=Value.type n from r);rfl
section
variable{P:Program}{w:World}{H H':Hp}{h h':Heap}{a C dx:Addr}{fs fs':List (Str×V)}
def pW(c:HOk P w H h)(e:H a=some (.ins C dx fs)):∃b,ObjM h a dx C b/\(∀f,tE (fs.lookup f) (b f))/\PySem.Within b (fs.map (·.1))/\fs.length<=1000/\H dx=some (.own a):=by obtain⟨d,z,g,ob,b,n,r,q⟩:=(show bO P w H h a (.ins C dx fs)from c a _ e);exact⟨b,⟨ob,n,g⟩,r,q,z,d⟩
end
structure Cls(K:W.Frag)(C:Addr):Prop where
 pg:W.plainGet K C Str.empty=true
 hd:W.hasDictIn K C=true
 po:W.plainOver K C=true
 sa:W.findIn K (.ref C) "__setattr__"=some (some (.builtin "object.__setattr__"))
def Cls.get{K:W.Frag}{C:Addr}(c:Cls K C)(f:Str):W.plainGet K C f=true:=c.pg
def aS(K:W.Frag)(C:Addr)(f:Str):Prop:=W.findIn K (.ref C) f=some none
def aS.alY{K:W.Frag}{C:Addr}{f:Str}(n:aS K C f):W.takerIn K C f=some none:=by unfold W.takerIn;rw[show W.findIn K (.ref C) f=some none from n];rfl
structure Meth(K:W.Frag)(C:Addr)(m:Str)(f:Addr):Prop where
 at_:W.findIn K (.ref C) m=some (some (.ref f))fn:W.isFn K (.ref f)=true
 kp:W.keepIn K (.ref f)=true
section
variable{X:Cx}{pins:List (Addr×Obj)}{σ:St}{H:Hp}{s:Shared}{a C dx:Addr}{fs:List (Str×V)}{f:Str}{v:V}{A:Around}{E:Value->Shared->Prop}
def yU{b:Bool}{Q:Value->Shared->Prop}(I:Inv X pins σ H s)(e:H a=some (.ins C dx fs))(c:Cls X.K C)(n:aS X.K C f)(l:fs.lookup f=some v)(h:∀u d,Inv X pins σ H d->RelV v u->Q u d):wpAny (model X.prog X.w) A (getAttr (.ref a) f b) Q E s:=by obtain⟨j,O,r,_,_,_⟩:=pW I.hok e;obtain⟨u,i,g⟩:=tE.some_of (v:=v) (o:=j f) (by rw[<-l];exact r f);exact get_map I.kIn O (c.get f) c.hd n i (abR g) (h u _ (I.tok _) g)
def oF{m:Str}{g:Addr}{pl:Sem Bool}{Q:Value×List Value->Shared->Prop}(I:Inv X pins σ H s)(e:H a=some (.ins C dx fs))(c:Cls X.K C)(k:Meth X.K C m g)(l:fs.lookup m=none)(h:Q (.ref g,[.ref a]) s):wpAny (model X.prog X.w) A (getMethod (.ref a) m pl) Q E s:=by obtain⟨d,O,r,_,_,_⟩:=pW I.hok e;have b:d m=none:=tE.none_of (by rw[<-l];exact r m);exact aeA I.kIn O (c.get m) k.at_ k.fn b h
def ye{y:V}{u:Value}{Q:Unit->Shared->Prop}(I:Inv X pins σ H s)(e:H a=some (.ins C dx fs))(c:Cls X.K C)(n:aS X.K C f)(K:fs.length<1000)(t:RelV y u)(h:∀i,Inv X pins σ (upd H a (.ins C dx (oq f y fs))) i->Q () i):wpAny (model X.prog X.w) A (setAttr (.ref a) f u) Q E s:=by
 obtain⟨l,O,r,k,_,j⟩:=pW I.hok e;have w:(fs.map (·.1)).length<=sizeLine:=by rw[apk,aqK];omega
 refine agw I.kIn O c.sa c.po n.alY c.hd k w λJ d p=>h _ ?_;have D:∃o,J.get? dx=some o:=let⟨o,_,_,G,_⟩:=d.ns;⟨o,G⟩;refine I.write (x:=a) (e:=dx) (by rw[e];exact True.intro) (.inr j) (λb q B z=>(p.2 b B).trans z) D ?_;refine⟨by rw[ag O.ne];exact j,?_,O.ne,d.obj,_,d.ns,λg=>?_,λg m=>?_⟩;·have:=mP f y fs;omega
 ·show tE ((oq f y fs).lookup g) (if g=f then some u else l g);rw[mM];by_cases q:g=f;·rw[ao1 q,ao1 q];exact t
  ·rw[ao2 q,ao2 q];exact r g
 ·by_cases q:g=f;·rw[q];exact(mS f y fs).1
  ·refine(mS f y fs).2 g (k g λz=>m ?_);show(if g=f then some u else l g)=none;rw[ao2 q];exact z
def Inv.made(I:Inv X pins σ H s):Inv X pins σ (upd (upd H s.heap.objs.size (.own (s.heap.objs.size+1))) (s.heap.objs.size+1) (.ins C s.heap.objs.size [])) {s with heap:=(s.heap.push W.emptyDict).push (W.instObj C s.heap.objs.size)}:=by
 have d:(s.heap.push W.emptyDict).get? s.heap.objs.size=some W.emptyDict:=apd s.heap rfl;have h:((s.heap.push W.emptyDict).push (W.instObj C s.heap.objs.size)).get? (s.heap.objs.size+1)=some (W.instObj C s.heap.objs.size):=by have:=apd (s.heap.push W.emptyDict) (o:=W.instObj C s.heap.objs.size) rfl;rwa[arb]at this
 have k:(s.heap.push W.emptyDict).Ns s.heap.objs.size (λ_=>none):=⟨PySem.W.emptyDict,#[],_,d,rfl,(λe j=>absurd j (by simp)),λ_=>rfl⟩;have g:=I.laid (a:=s.heap.objs.size) (o:=.own (s.heap.objs.size+1)) (h':=s.heap.push W.emptyDict) (t':=s.toks) (λb u q=>aoZ _ q) (ao6 _) ⟨_,d⟩;refine g.laid (a:=s.heap.objs.size+1) (o:=.ins C s.heap.objs.size []) (t':=s.toks) (λb u q=>aoZ _ q) (aq1 (arb _ _)) ?_;have c:s.heap.objs.size≠s.heap.objs.size+1:=apm (aqy _);refine⟨by rw[ag c,ao],apH _,c,h,λ_=>none,(ar4 k).at λo q=>aoZ _ q,λ_=>True.intro,λy i=>absurd rfl i⟩
def ahV{prog:Program}{w:World}{b:Env}{e:Expr}{f:Str}{pos:Pos}{s:Shared}{Q:Value->Shared->Prop}(d:attributeBase e f b (eval e b)=eval e b)(h:wpAny (model prog w) A (eval e b) (λo c=>wpAny (model prog w) A (getAttr o f true) Q E c) E s):wpAny (model prog w) A (eval (.Attribute e f pos) b) Q E s:=Attribute_any_ h (by rw[arm_eval_Attribute,d])
end
def aiW(K:W.Frag)(ta:TE)(f:Str):TE:=λc H Q=>ta c H λx b=>∃a C d fs v,x=.ref a/\b a=some (.ins C d fs)/\Cls K C/\aS K C f/\fs.lookup f=some v/\Q v b
def ai9(K:W.Frag)(ta tv:TE)(f:Str):TS:=λD b H=>tv b H λy e=>ta b e λx c=>∃a C d fs,x=.ref a/\c a=some (.ins C d fs)/\Cls K C/\aS K C f/\fs.length<1000/\D.nx b (upd c a (.ins C d (oq f y fs)))
section
variable{X:Cx}{o e value:Expr}{f:Str}{pos pos' tpos:Pos}{ta tv:TE}
def mw(j:PE X e ta)(i:attributeBase e f X.env (eval e X.env)=eval e X.env):PE X (.Attribute e f pos) (aiW X.K ta f):=by intro b s r H Q I h;refine ahV i (thn (j b s r H _ I h) λu A⟨x,k,p,d,a,C,w,fs,v,ex,t,c,n,l,q⟩=>?_);subst ex;obtain rfl:u=Value.ref a:=d;exact yU p t c n l λy z m g=>⟨v,k,m,g,q⟩
def qZ(j:PE X o ta)(m:PE X value tv)(g:swapsWith value (some (.Attribute o f pos')) pos.line X.env=pure false):PS X (.Assign [.Attribute o f pos'] value pos) (ai9 X.K ta tv f):=by intro b s d H D I h;refine aqD (thn (m b s d H _ I h) λu w⟨y,v,p,t,q⟩=>thn (j b w d v _ p q) λB J⟨x,G,k,i,a,C,E,fs,ex,z,c,n,l,r⟩=>?_) g;subst ex;obtain rfl:B=Value.ref a:=i;exact ye k z c n l t λK A=>⟨d,_,A,r⟩
end
section
variable{X:Cx}{pins:List (Addr×Obj)}{σ:St}{H:Hp}{s:Shared}{A:Around}{E:Value->Shared->Prop}{Q:Value->Shared->Prop}{c:Value}{b:Bool}
inductive TyOf(K:W.Frag)(H:Hp):V->Value->Prop where|non:TyOf K H .non (.type "NoneType")|bl(x:Bool):TyOf K H (.bl x) (.type "bool")|int(i:Int):TyOf K H (.int i) (.type "int")|str(x:Str):TyOf K H (.str x) (.type "str")|flt(x:UInt64):TyOf K H (.flt x) (.type "float")|lst{a:Addr}{xs:List V}(e:H a=some (.lst xs)):TyOf K H (.ref a) (.type "list")|frz{a:Addr}{o:Obj}{xs:List V}(e:H a=some (.frz o (.lst xs))):TyOf K H (.ref a) (.type "list")|tup{a:Addr}{xs:List V}(e:H a=some (.tup xs)):TyOf K H (.ref a) (.type "tuple")|dK{a:Addr}{kvs:List (Key×V)}(e:H a=some (.dK kvs)):TyOf K H (.ref a) (.type "dict")|dT{a:Addr}{kvs:List (List Key×V)}(e:H a=some (.dT kvs)):TyOf K H (.ref a) (.type "dict")|ins{a C dx:Addr}{fs:List (Str×V)}(e:H a=some (.ins C dx fs))(cl:Cls K C)(ha:W.findIn K (.ref C) "__class__"=some (some (.builtin "object.__class__")))(hn:W.specialIn K (.builtin "object.__class__") "__get__"=some (some (.builtin "getset_descriptor.__get__")))(htk:W.takesIn K (.builtin "object.__class__")=some true)(hm:W.mroIn K C (.type "object")=some true):TyOf K H (.ref a) (.ref C)
def abJ{x:V}{u t:Value}(I:Inv X pins σ H s)(d:RelV x u)(ty:TyOf X.K H x t)(e:W.kitOne X.K t c=some b)(h:∀tk,Q (.bool b) {s with toks:=tk}):wpAny (model X.prog X.w) A (call (.builtin "isinstance") [u,c]) Q E s:=by cases ty with|non=>cases(show u=Value.none from d);exact aqg W.kitx_none I.kIn True.intro e (λz=>nomatch z) h|bl y=>cases(show u=Value.bool y from d);exact aqg W.kitx_bool I.kIn True.intro e (λz=>nomatch z) h|int i=>obtain⟨t,q⟩:=(show∃t,u=Value.int i t from d);cases q;exact aqg W.kitx_int I.kIn True.intro e (λz=>nomatch z) h|str y=>obtain⟨t,q⟩:=(show∃t,u=Value.str y t from d);cases q;exact aqg W.kitx_str I.kIn True.intro e (λz=>nomatch z) h|flt y=>obtain⟨t,q⟩:=(show∃t,u=Value.float y t from d);cases q;exact aqg W.kitx_float I.kIn True.intro e (λz=>nomatch z) h|@lst a g ea=>cases(show u=Value.ref a from d);obtain⟨_,_,n,_,f⟩:=(show bO X.prog X.w H s.heap a (.lst g)from I.hok a _ ea);exact aqg W.kitx_list I.kIn ⟨_,f,rfl⟩ e (λz=>nomatch z) h|@frz a ob g ea=>cases(show u=Value.ref a from d);obtain⟨_,_,_,n,_,f⟩:=(show bO X.prog X.w H s.heap a (.frz ob (.lst g))from I.hok a _ ea);exact aqg W.kitx_list I.kIn ⟨_,f,rfl⟩ e (λz=>nomatch z) h|@tup a g ea=>cases(show u=Value.ref a from d);obtain⟨_,_,_,p⟩:=(show bO X.prog X.w H s.heap a (.tup g)from I.hok a _ ea);obtain⟨o,f,j,_⟩:=p;exact aqg W.kitx_tuple I.kIn ⟨o,f,j⟩ e (λz=>nomatch z) h|@dK a kvs ea=>cases(show u=Value.ref a from d);obtain⟨_,_,m,_,p⟩:=(show bO X.prog X.w H s.heap a (.dK kvs)from I.hok a _ ea);obtain⟨o,k,l,f,j,_⟩:=p;exact aqg W.kitx_dict I.kIn ⟨o,f,j.1⟩ e (λz=>nomatch z) h|@dT a kvs ea=>cases(show u=Value.ref a from d);obtain⟨_,_,g,_,o,k,l,f,j,_⟩:=(show bO X.prog X.w H s.heap a (.dT kvs)from I.hok a _ ea);exact aqg W.kitx_dict I.kIn ⟨o,f,j.1⟩ e (λz=>nomatch z) h|@ins a C dx fs ea cl ha hn htk hm=>cases(show u=Value.ref a from d);obtain⟨r,O,_⟩:=pW I.hok ea;obtain⟨od,J,_⟩:=O.look;exact aqg (W.kitx_own (cl.get _) cl.hd ha hn htk hm) I.kIn J e (λz=>nomatch z) h
end
structure Room(k:Nat)(A:Around):Prop where
 hd:40<=k->A.handled=none
 dp:A.depth+3*k+5<recursionLimit
 un:A.units+16*k+200<cLine
 gd:A.guards=some []
def Room.mono{j k:Nat}{A:Around}(r:Room k A)(h:j<=k):Room j A:=⟨(λz=>r.hd (by omega)),by have:=r.dp;omega,by have:=r.un;omega,r.gd⟩
theorem Room.deeper{k:Nat}{A:Around}(r:Room (k+1) A)(a:Env):Room k (A.deeper a):=⟨(λz=>r.hd (by omega)),by have:=r.dp;show A.depth+1+3*k+5<_;omega,by have:=r.un;show A.units+3+16*k+200<_;omega,r.gd⟩
def yL{A:Around}{C:Addr}{us:List Value}{a:List (Str×Value)}:(A.under (.builtin "type.__call__" ⟨.ref C::us,a⟩)).depth=A.depth+1:=by first|rfl|simp[Around.under,Code.weight,Code.isCreation,Code.isGuard,Code.isCaller,Code.frames,Code.isFrame,guardIds]
def yK{A:Around}{C:Addr}{us:List Value}{a:List (Str×Value)}:(A.under (.builtin "type.__call__" ⟨.ref C::us,a⟩)).units=A.units+1:=by first|rfl|simp[Around.under,Code.cUnits,Code.frames,Code.isFrame]
def Room.make{k:Nat}{A:Around}(r:Room (k+1) A)(C:Addr)(us:List Value)(a:List (Str×Value)):Room k (A.under (.builtin "type.__call__" ⟨.ref C::us,a⟩)):=⟨(λz=>r.hd (by omega)),by have:=r.dp;rw[yL];omega,by have:=r.un;rw[yK];omega,r.gd⟩
def Room.calm{k:Nat}{A:Around}{a:Env}(r:Room k (A.deeper a))(h:40<=k):A.handled.isNone=true:=by rw[show A.handled=none from r.hd h];rfl
def Room.sui{k:Nat}{A:Around}{v:Option Value}(r:Room k A)(h:39<=k):Room 39 (A.mark v):=⟨(λz=>by omega),(by have:=r.dp;show A.depth+3*39+5<_;omega),(by have:=r.un;show A.units+16*39+200<_;omega),r.gd⟩
theorem Room.depth{k:Nat}{A:Around}(r:Room k A):A.depth<recursionLimit:=by have:=r.dp;omega
theorem Room.units{k:Nat}{A:Around}(r:Room k A):A.units+64<cLine:=by have:=r.un;omega
def aae:TA:=λ_ H Q=>Q [] H
def lU(ta:TE)(d:TA):TA:=λa H Q=>ta a H λx e=>d a e λc b=>Q (x::c) b
section
variable{X:Cx}{e:Expr}{es:List Expr}{te:TE}{t:TA}{pos:Pos}
def fu:PA X [] aae:=λ_ _ _ _ H Q I h=>Calls.spliced_nil ⟨[],H,I,.nil,h⟩
def bU(f:PE X e te)(d:PA X es t)(c:starEach (e::es) X.env=(false,eval e X.env)::starEach es X.env:=by rfl):PA X (e::es) (lU te t):=by intro pos a s b H Q I h;rw[c];show wpAny _ _ (spliced ((false,eval e X.env)::backTo pos (starEach es X.env))) _ _ s;refine aq2 (thn (f a s b H _ I h) λu n⟨x,i,l,g,j⟩=>?_);exact thn (d pos a n b i _ l j) λr v⟨p,m,k,o,q⟩=>⟨x::p,m,k,.cons g o,q⟩
def aow(t:TA):TE:=λc H Q=>t c H λa b=>a.length<=sizeLine/\∀p,b p=none->Q (.ref p) (upd b p (.tup a))
def al4(t:TA):TE:=λc H Q=>t c H λa b=>a.length<=sizeLine/\∀p,b p=none->Q (.ref p) (upd b p (.lst a))
def ajx{x1}(h:PA X es t):PE X (.Tuple es x1 pos) (aow t):=by intro a s k H Q I g;refine wpAny_Tuple_spliced (thn (h pos a s k H _ I g) λi c⟨l,d,f,r,z,q⟩=>⟨by rw[<-r.length];exact z,?_⟩);have j:d c.heap.objs.size=none:=f.hok.fresh (ao6 _);refine⟨.ref c.heap.objs.size,upd d c.heap.objs.size (.tup l),f.laid (t':=c.toks) (λb u e=>aoZ _ e) (ao6 _) ?_,rfl,q _ j⟩;exact⟨z,i,r,⟨_,apd _ rfl,rfl,_,rfl⟩⟩
def aaY(h:PA X es t):PE X (.List es pos) (al4 t):=by intro a s k H Q I g;refine wpAny_List_spliced (thn (h pos a s k H _ I g) λi c⟨l,d,f,r,z,q⟩=>⟨by rw[<-r.length];exact z,?_⟩);have j:d c.heap.objs.size=none:=f.hok.fresh (ao6 _);refine⟨.ref c.heap.objs.size,upd d c.heap.objs.size (.lst l),f.laid (t':=c.toks) (λb u e=>aoZ _ e) (ao6 _) ?_,rfl,q _ j⟩;exact⟨z,i,0,r,apd _ rfl⟩
end
abbrev Sp:=List V->Hp->VK->XK->Prop
abbrev CXT:=List Env->Hp->Shared->XK->Value->Shared->Prop
structure Env0(P:Program)(w:World)(K:W.Frag)(mg:Str->Option Value)(base:Heap)(A:Around)(outer:List Env)(s:Shared)(H:Hp):Prop where
 frames:A.frames=some outer
 mod:Mod K mg base
 bs:∀b o,base.get? b=some o->s.heap.get? b=some o/\H b=none
 bsz:base.objs.size<=s.heap.objs.size
 ql:s.heap.FunFrames base outer
 frf:∀b∈frs outer,H b=none
 hok:HOk P w H s.heap
 bare:AllBare s.gens
def CE(a:List Env)(P:Program)(w:World)(H:Hp)(s:Shared)(Q:VK)(u:Value)(s':Shared):Prop:=∃v b,s'.os=s.os/\AllBare s'.gens/\Un (frs a) [] H b s.heap s'.heap/\HOk P w b s'.heap/\RelV v u/\Q v b
def CR(CX:CXT)(a:List Env)(P:Program)(w:World)(H:Hp)(s:Shared)(Q:VK)(E:XK)(r:Result)(s':Shared):Prop:=match r with|.ok (.ret u)=>CE a P w H s Q u s'|.ok _=>False|.error e=>CX a H s E e s'
structure FnOk(P:Program)(w:World)(K:W.Frag)(mg:Str->Option Value)(base:Heap)(CX:CXT)(k:Nat)(f:Addr)(fd:FuncData)(ps:List Str)(sp:Sp)(hn:Around->Hp->Prop:=λ_ _=>True):Prop where
 len:∀vs H Q E,sp vs H Q E->vs.length=ps.length
 run:∀(A:Around)(outer:List Env)(s:Shared)(H:Hp)(args:Args)(us:List Value)(vs:List V)(Q:VK)(E:XK),Room k A->hn A H->Env0 P w K mg base A outer s H->BindsTo s fd args (ps.zip us)->Vals vs us->sp vs H Q E->codeAny (model P w) A (.call (.ref f) args) (CR CX outer P w H s Q E) s
def FnOk.imp{P:Program}{w:World}{K:W.Frag}{i:Str->Option Value}{a:Heap}{CX:CXT}{k:Nat}{f:Addr}{g:FuncData}{ps:List Str}{sp e:Sp}(F:FnOk P w K i a CX k f g ps sp)(h:∀c H Q E,e c H Q E->sp c H Q E):FnOk P w K i a CX k f g ps e:=⟨λc H Q E q=>F.len c H Q E (h _ _ _ _ q),λA b s H d n c Q E l p o m r j=>F.run A b s H d n c Q E l p o m r (h _ _ _ _ j)⟩
def Env0.make{P:Program}{w:World}{K:W.Frag}{c:Str->Option Value}{b:Heap}{A:Around}{a:List Env}{s:Shared}{H:Hp}(e:Env0 P w K c b A a s H)(C:Addr)(us:List Value)(d:List (Str×Value)):Env0 P w K c b (A.under (.builtin "type.__call__" ⟨.ref C::us,d⟩)) a s H:=⟨by first|exact e.frames|(simpa[Around.under,Code.envs,Code.isFrame,pushEnvs]using e.frames),e.mod,e.bs,e.bsz,e.ql,e.frf,e.hok,e.bare⟩
section
variable{X:Cx}{pins:List (Addr×Obj)}{σ:St}{H:Hp}{s s':Shared}
def Inv.alH(I:Inv X pins σ H s):Env0 X.prog X.w X.K X.mg X.base X.A X.stack s H:=⟨I.ok.frames,I.ok.mod,I.bs,apc I.ok.bsz I.sz,I.stack,I.t7,I.hok,I.bare⟩
def Inv.after{Q:VK}{u:Value}(I:Inv X pins σ H s)(h:CE X.stack X.prog X.w H s Q u s'):EP X pins σ Q u s':=by obtain⟨v,f,os,a,un,e,r,q⟩:=h;obtain⟨i,g,d,t,c⟩:=s';obtain rfl:c=s.os:=os;exact⟨v,f,I.call (h':=i) (g':=g) (d':=d) (t':=t) (ch:=[]) un e a (λb z=>absurd z (by simp)),r,q⟩
end
def ags(sp:Sp)(dvs:List V)(E:XK)(t:TA):TE:=λa H Q=>t a H λb c=>sp (b++dvs) c Q E
def Binds(K:W.Frag)(b:FuncData)(ps:List Str)(ds:List Value):Prop:=∀(s:Shared)(a:List Value),K.In s.heap->(a++ds).length=ps.length->BindsTo s b ⟨a,[]⟩ (ps.zip (a++ds))
def Binds.all{K:W.Frag}{b:FuncData}{ps:List Str}(h:∀a:List Value,a.length=ps.length->bindArgs b ⟨a,[]⟩=pure (ps.zip a)):Binds K b ps []:=λs a _ c=>by rw[apK]at c⊢;exact .of_eq (h a c)
def Passes(CX:CXT)(X:Cx)(E:XK):Prop:=∀(a:List (Addr×Obj))(c:St)(H:Hp)(s:Shared)(e:Value)(b:Shared),Inv X a c H s->CX X.stack H s E e b->X.xe e b
section
variable{X:Cx}{CX:CXT}{k:Nat}{f C:Addr}{fd:FuncData}{ps:List Str}{sp:Sp}{dvs:List V}{ds:List Value}{E:XK}{x m:Str}{p pos apos:Pos}{e o:Expr}{es:List Expr}{ta:TE}{t:TA}
def aff{b:Around->Hp->Prop}{pins:List (Addr×Obj)}{σ:St}{H:Hp}{s:Shared}{Q:VK}{us:List Value}{vs:List V}(F:FnOk X.prog X.w X.K X.mg X.base CX k f fd ps sp b)(g:Room k X.A)(j:Binds X.K fd ps ds)(l:Vals dvs ds)(i:Passes CX X E)(I:Inv X pins σ H s)(r:Vals vs us)(h:sp (vs++dvs) H Q E)(q:b X.A H:=by exact trivial):wpAny (model X.prog X.w) X.A (call (.ref f) us) (EP X pins σ Q) X.xe s:=by
 have c:Vals (vs++dvs) (us++ds):=r.append l;have n:(us++ds).length=ps.length:=by rw[<-c.length];exact F.len _ _ _ _ h
 refine arA (aq3 (F.run X.A X.stack s H ⟨us,[]⟩ (us++ds) (vs++dvs) Q E g q I.alH (j s us I.kIn n) c h) λr d a=>?_);cases r with|error e=>exact i pins σ H s e d I a|ok fl=>cases fl with|ret u=>exact I.after a|next=>exact False.elim a|brk=>exact False.elim a|cont=>exact False.elim a
def agU(F:FnOk X.prog X.w X.K X.mg X.base CX k f fd ps sp)(i:Room k X.A)(g:Gl X x)(y:X.mg x=some (.ref f))(w:W.keepIn X.K (.ref f)=true)(n:Binds X.K fd ps ds)(v:Vals dvs ds)(j:Passes CX X E)(l:PA X (e::es) t)(c:(x==("__debug__":Str))=false:=by decide)(u:starEach (e::es) X.env=(false,eval e X.env)::starEach es X.env:=by rfl)(b:(backTo pos (starEach es X.env)).any (·.1)=false:=by rfl):PE X (.Call (.Name x p) (e::es) [] pos) (ags sp dvs E t):=by intro a s z H Q I h;refine aqn (dt I g y ?_ c);refine asl (h₀:=X.base) I.ok.mod.kin w (thn (l pos a s z H _ I h) λA G⟨B,D,d,r,q⟩=>⟨d.kIn,?_⟩) u b;exact aff F i n v j d r q
def adY(F:FnOk X.prog X.w X.K X.mg X.base CX k f fd ps sp)(d:Room k X.A)(c:Gl X x)(n:X.mg x=some (.ref f))(l:W.keepIn X.K (.ref f)=true)(i:Binds X.K fd ps ds)(j:Vals dvs ds)(g:Passes CX X E)(a:(x==("__debug__":Str))=false:=by decide):PE X (.Call (.Name x p) [] [] pos) (ags sp dvs E aae):=by intro b s q H Q I h;refine aqn (dt I c n ?_ a);exact W.callWith_K0 I.kIn l (aff (us:=[]) F d i j g I .nil h)
structure Mk(K:W.Frag)(C f:Addr):Prop where
 makes:W.makesIn K C=true
 init:W.findIn K (.ref C) "__init__"=some (some (.ref f))fn:W.isFn K (.ref f)=true
 kp:W.keepIn K (.ref C)=true
end
structure FnScope(N P:List Str)(sc:Scope):Prop where
 kind:sc.kind=.function
 co:sc.isCoroutine=false
 gen:sc.isGenerator=false
 nd:N.Nodup
 pre:N.take P.length=P
 par:∀x∈P,sc.names.lookup x=some .local\/sc.names.lookup x=some .cell
 nofree:∀y∈sc.names,y.2≠.free
theorem tf{kindOf:Str->Option NameKind}{x:Str}:∀{binds:List (Str×Value)}{m:Str->Option Value},(∀v,(x,v)∉binds)->bindL kindOf binds m x=m x
|[],_,_=>rfl|(n,v)::r,m,h=>by
 unfold bindL;rw[tf λw hw=>h w (apG _ hw)];split
 ·have:x≠n:=by rintro rfl;exact h v apn
  simp[this]
 ·rfl
theorem tm{kindOf:Str->Option NameKind}{x:Str}:∀{binds:List (Str×Value)}{m:Str->Option Value},(∀v,(x,v)∉binds)->bindC kindOf binds m x=m x
|[],_,_=>rfl|(n,v)::r,m,h=>by
 unfold bindC;rw[tm λw hw=>h w (apG _ hw)];split;·rfl
 ·have:x≠n:=by rintro rfl;exact h v apn
  simp[this]
theorem tj{kindOf:Str->Option NameKind}{x:Str}{v:Value}:∀{P:List Str}{vs:List Value}{i:Nat}{m:Str->Option Value},P.Nodup->P[i]?=some x->vs[i]?=some v->kindOf x=some .local->bindL kindOf (P.zip vs) m x=some v|[],_,_,_,_,h,_,_=>by simp at h|_::_,[],_,_,_,_,h,_=>by simp at h|p::P,w::vs,0,m,nd,h1,h2,hk=>by simp at h1 h2;subst h1;subst h2;show bindL kindOf ((p,w)::P.zip vs) m p=_;unfold bindL;rw[tf λv a=>(aqd.mp nd).1 (asv a).1,ao1 hk];simp|p::P,w::vs,i+1,m,nd,h1,h2,hk=>by show bindL kindOf ((p,w)::P.zip vs) m x=_;unfold bindL;exact tj (i:=i) (aqd.mp nd).2 (by simpa using h1) (by simpa using h2) hk
theorem tr{kindOf:Str->Option NameKind}{x:Str}{v:Value}:∀{P:List Str}{vs:List Value}{i:Nat}{m:Str->Option Value},P.Nodup->P[i]?=some x->vs[i]?=some v->kindOf x≠some .local->bindC kindOf (P.zip vs) m x=some v|[],_,_,_,_,h,_,_=>by simp at h|_::_,[],_,_,_,_,h,_=>by simp at h|p::P,w::vs,0,m,nd,h1,h2,hk=>by simp at h1 h2;subst h1;subst h2;show bindC kindOf ((p,w)::P.zip vs) m p=_;unfold bindC;rw[tm λv a=>(aqd.mp nd).1 (asv a).1,ao2 hk];simp|p::P,w::vs,i+1,m,nd,h1,h2,hk=>by show bindC kindOf ((p,w)::P.zip vs) m x=_;unfold bindC;exact tr (i:=i) (aqd.mp nd).2 (by simpa using h1) (by simpa using h2) hk
noncomputable def start(N:List Str)(vs:List V):St:=vs.map some++List.replicate (N.length-vs.length) none
noncomputable def ff(CX:CXT)(P:Program)(w:World)(K:W.Frag)(mg:Str->Option Value)(base:Heap)(N:List Str)(qual:Str)(scope:Scope)(f:Addr)(cd:Value)(A:Around)(outer:List Env)(s:Shared)(H:Hp)(E:XK):Cx where prog:=P;w:=w;K:=K;mg:=mg;base:=base;A:=A.deeper (envOfC qual scope s.heap.objs.size f cd);N:=N;s₀:=s;H₀:=H;env:=envOfC qual scope s.heap.objs.size f cd;outer:=outer;stack:=envOfC qual scope s.heap.objs.size f cd::outer;ex:=[];calm:=A.handled.isNone;fn:=λ_=>true;pn:=[];xe:=λe s'=>wpAny (model P w) (A.deeper (envOfC qual scope s.heap.objs.size f cd)) (leaving (envOfC qual scope s.heap.objs.size f cd) e) (λ_ s''=>CX outer H s E e s'') (λe' s''=>CX outer H s E e' s'') s'
def xH{a:Scope}{n:Nat}{x:Str}(h:a.names.lookup x=some .cell):∃c,(cellsFrom n a.names []).lookup x=some c:=by have q:=W.cellsFrom_some a.names n [] (.inl h);exact aqz.mp q
def abK{CX:CXT}{P:Program}{w:World}{K:W.Frag}{J:Str->Option Value}{l:Heap}{N ps:List Str}{g:Str}{scope:Scope}{f:Addr}{D:Value}{A:Around}{d:List Env}{s Q:Shared}{H:Hp}{E:XK}{us:List Value}{vs:List V}(S:FnScope N ps scope)(m:Env0 P w K J l A d s H)(Y:vs.length=ps.length)(r:Vals vs us)(x:InCallC s s.heap.objs.size (bindL (envOfC g scope s.heap.objs.size f D).kindOf (ps.zip us) λ_=>none) (cellsFrom (s.heap.objs.size+1) scope.names []) (bindC (envOfC g scope s.heap.objs.size f D).kindOf (ps.zip us) λ_=>none) Q):Inv (ff CX P w K J l N g scope f D A d s H E) [] (start N vs) H Q:=by
 have R:ps.length<=N.length:=by have:=aqc List.length S.pre;rw[aqA]at this;omega
 obtain⟨G,tk,rfl,M⟩:=x.done;have t:∀b:Addr,b ∉(ff CX P w K J l N g scope f D A d s H E).ex:=λb z=>absurd (show b∈([]:List Addr)from z) (by simp);refine⟨⟨m.mod,S.kind,rfl,rfl,ao6 _,λy z c G j=>?_,λy o=>?_,λy c _ h=>?_,λz=>Option.isNone_iff_eq_none.mp z,Around.frames_deeper m.frames,.inr ⟨rfl,rfl⟩,λb z=>absurd z (t b),m.bs,m.bsz,λb _ _=>t b,λb z=>absurd z (t b),m.ql,m.frf⟩,rfl,m.bare,Un.kept M,⟨_,x.toInCall.ns,λi y v G j X=>?_⟩,λy c h=>⟨_,x.cell y c h⟩,m.hok.fresh (ao6 _),λy c h=>?_,λp B=>absurd (show p∈([]:List (Addr×Obj))from B) (by simp),m.hok.kept M,?_⟩;·exact name_of_addr x.apart (apM G) (apM j)
 ·have o:scope.names.lookup y=some .cell\/scope.names.lookup y=some .free:=o;rcases o with o|o;·exact xH o
  ·exact absurd rfl (S.nofree _ (apM o))
 ·exact arz (x.above y c (apM h))
 ·have I:i<vs.length:=by
   unfold start at j;by_cases I:i<vs.length;·exact I
   ·rw[apw (by simpa using I)]at j;rw[apT]at j;split at j<;>cases j
  have T:vs[i]?=some v:=by unfold start at j;rw[apq (by simpa using I),apo]at j;cases e:vs[i]? with|none=>rw[e]at j;cases j|some a=>rw[e]at j;cases j;rfl
  obtain⟨u,O,U⟩:=r.get T;have B:ps[i]?=some y:=by rw[<-S.pre,asm (by omega)];exact G
  have C:ps.Nodup:=by rw[<-S.pre];exact S.nd.sublist (List.take_sublist _ _)
  refine⟨u,U,?_⟩;rcases S.par y (apI B)with k|k;·exact .inl ⟨k,tj C B O k⟩
  ·obtain⟨c,e⟩:=xH (n:=s.heap.objs.size+1) k;refine .inr ⟨.inl k,c,e,?_⟩;have q:=x.cell y c e;rw[tr C B O (by show scope.names.lookup y≠_;rw[k];decide)]at q;exact q
 ·exact m.hok.fresh (arz (x.above y c (apM h)))
 ·unfold start;show _=N.length;rw[apD,apk,aqq];omega
def u1{CX:CXT}{P:Program}{w:World}{K:W.Frag}{M:Str->Option Value}{h:Heap}{k:Nat}{f:Addr}{name c:Str}{g:Arguments}{i:List Stmt}{scope:Scope}{dV kV C pm d ct oc:Value}{an od:Option Addr}{O:Array (Option Value)}{N ps:List Str}{sp:Sp}(lk:K.lookup f=some ⟨oc,od,.func (W.fnOf name c g i scope dV kV C pm an d ct),O⟩)(U:W.codeIn K d c=true)(S:FnScope N ps scope)(len:∀j H Q E,sp j H Q E->j.length=ps.length){Y:Around->Hp->Prop}(z:∀(A:Around)(a:List Env)(s:Shared)(H:Hp)(j:List V)(Q:VK)(E:XK),Room k (A.deeper (envOfC c scope s.heap.objs.size f d))->Y A H->sp j H Q E->∃t,PSs (ff CX P w K M h N c scope f d A a s H E) i t/\t {nx:=λ_ m=>Q .non m,rt:=Q} (start N j) H):FnOk P w K M h CX (k+1) f (W.fnOf name c g i scope dV kV C pm an d ct) ps sp Y:=by
 refine⟨len,λA a s H Z us j Q E X hN D hb r G=>?_⟩;have hl:=len _ _ _ _ G;have KX:K.In s.heap:=D.mod.kin.keeps λb o e=>(D.bs b o e).1;have lim:s.heap.NoLimit:=D.mod.nolimit.keeps λb o e=>(D.bs b o e).1;have p:∀y∈ps.zip us,scope.names.lookup y.1=some .local\/(scope.names.lookup y.1=some .cell/\((cellsFrom (s.heap.objs.size+1) scope.names []).lookup y.1).isSome=true):=λ⟨n,v⟩hy=>by
  rcases S.par n (asv hy).1 with q|q;·exact .inl q
  ·exact .inr ⟨q,W.cellsFrom_some _ _ _ (.inl q)⟩
 refine codeAny_call_function X.depth (KX _ _ lk) rfl S.co S.gen rfl (W.codeRec_of KX U) (hb _ _ _ _ ?_);refine wpAny_newFunctionEnv_cells S.kind p λa0 he s1 x=>?_;subst he;refine⟨lim.keeps x.toInCall.keep,codeAny_func ?_⟩;obtain⟨t,ht,hq⟩:=z A a s H j Q E (X.deeper _) hN G;have I:Inv (ff CX P w K M h N c scope f d A a s H E) [] (start N j) H s1:=abK S D hl r x;refine apx (ht [] s1 (start N j) H _ I hq) (λfl R B=>?_) λe R B=>B;have fin:∀{l:St}{m:Hp}{v:V}{u:Value},Inv (ff CX P w K M h N c scope f d A a s H E) [] l m R->RelV v u->Q v m->CE a P w H s Q u R:=λ{l m v u}J T q=>⟨v,m,J.os,J.bare,J.base,J.hok,T,q⟩;cases fl with|ret u=>obtain⟨v,l,m,J,T,q⟩:=B;exact fin J T q|next=>obtain⟨l,m,J,q⟩:=B;exact fin (v:=V.non) (u:=Value.none) J rfl q|brk=>obtain⟨_,_,_,q⟩:=B;exact False.elim q|cont=>obtain⟨_,_,_,q⟩:=B;exact False.elim q
section
variable{X:Cx}{x:Str}{p pos:Pos}{e:Expr}{es:List Expr}{t:TA}{id T:String}{r:List V->Hp->VK->Prop}
def tCB(r:List V->Hp->VK->Prop)(t:TA):TE:=λc H Q=>t c H λa b=>r a b Q
def wG(i:bJ X (.builtin id) r)(f:Gl X x)(w:X.mg x=none)(u:bootBuiltins x=some (.builtin id))(j:PA X (e::es) t)(g:x≠"__name__":=by decide)(c:(x==("__debug__":Str))=false:=by decide)(n:starEach (e::es) X.env=(false,eval e X.env)::starEach es X.env:=by rfl)(b:(backTo pos (starEach es X.env)).any (·.1)=false:=by rfl):PE X (.Call (.Name x p) (e::es) [] pos) (tCB r t):=by intro a s d H Q I h;refine aqn (mQ I f w u ?_ g c);exact arB (thn (j pos a s d H _ I h) λl y⟨m,o,v,k,q⟩=>i a y d o m l Q v k q) n b
def q9(i:bJ X (.type T) r)(f:Gl X x)(w:X.mg x=none)(u:bootBuiltins x=some (.type T))(j:PA X (e::es) t)(g:x≠"__name__":=by decide)(c:(x==("__debug__":Str))=false:=by decide)(n:starEach (e::es) X.env=(false,eval e X.env)::starEach es X.env:=by rfl)(b:(backTo pos (starEach es X.env)).any (·.1)=false:=by rfl):PE X (.Call (.Name x p) (e::es) [] pos) (tCB r t):=by intro a s d H Q I h;refine aqn (mQ I f w u ?_ g c);exact ap5 (thn (j pos a s d H _ I h) λl y⟨m,o,v,k,q⟩=>i a y d o m l Q v k q) n b
end
end L2
namespace HT
open PySem PyProof.Rows
def we(A:Around)(s:Shared)(a:Int)(t:Tok)(c:Int)(u:Tok)(prog:Program)(w:World)(E:Value->Shared->Prop)(Q:Value->Shared->Prop)(h:Q (.bool (decide (a<c))) s):wpAny (model prog w) A (richCompare .Lt (.int a t) (.int c u)) Q E s:=(PyProof.Rows.lt_int h:wpAny (model prog w) A (compareOp .Lt (.int a t) (.int c u)) Q E s)
section
open PySem.SeqAt
open PySem.AutoSeq1(wpAny_loadPart')
open PySem.MeetsSeq PySem.MeetsSeq2 PySem.MeetsSeq3
end
section
variable{prog:Program}{w:World}{A:Around}{E:Value->Shared->Prop}{s:Shared}
def ahO{t b:Addr}{vs ws:List Value}{Q:Value->Shared->Prop}(r:IsTup s.heap t vs.toArray)(q:IsTup s.heap b ws.toArray)(m:vs≠[])(u:ws=[]->Q (.ref t) s)(p:ws≠[]->Q (.ref s.heap.objs.size) {s with heap:=s.heap.push {cls:=.type "tuple",data:=.seq (vs++ws).toArray}})(hsz:vs.length+ws.length<=sizeLine):wpAny (model prog w) A (binaryOp .Add (.ref t) (.ref b)) Q E s:=by
 obtain⟨⟨cls,dd,data,i⟩,h,j,n,l⟩:=id r;obtain⟨⟨k,c,data2,d⟩,a,f,o,g⟩:=id q;simp only at j l f g;subst j l f g;have e:vs.toArray++ws.toArray=(vs++ws).toArray:=by simp
 by_cases hw:ws=[];·exact asn ⟨_,h,rfl⟩ ⟨_,a,rfl⟩ aso seq_tuple_add arn arf (aq4 _ _) (tuple_addW1 t b vs.toArray ws.toArray n o dd c i d (by simpa using m) (by simp[hw])) ⟨h,a,u hw⟩
 ·refine asn ⟨_,h,rfl⟩ ⟨_,a,rfl⟩ aso seq_tuple_add arn arf (aq4 _ _) (tuple_addW2 t b vs.toArray ws.toArray n o dd c i d (by simpa using m) (by simpa using hw) (by rw[aps,aps];exact hsz)) ⟨h,a,?_⟩;rw[e];exact p hw
noncomputable def sIx(n d:Nat):Option Int->Nat|none=>d|some v=>if v<0 then(v+(n:Int)).toNat else min v.toNat n
def ai8(n d:Nat)(b:d<=n)(o:Option Int):sIx n d o<=n:=by cases o with|none=>exact b|some v=>
 show(if v<0 then(v+(n:Int)).toNat else min v.toNat n)<=n;by_cases a:v<0;·rw[ao1 a];omega
 ·rw[ao2 a];exact aqU _ _
def acG(v:Int)(n d:Nat):(if v<0 then max (v+(n:Int)) 0 else min v (n:Int))=((sIx n d (some v):Nat):Int):=by
 show(if v<0 then max (v+(n:Int)) 0 else min v (n:Int))=(((if v<0 then(v+(n:Int)).toNat else min v.toNat n):Nat):Int);by_cases a:v<0;·simp only[ao1 a];omega
 ·simp only[ao2 a];omega
def zm(lo a:Option Int)(n:Nat):Builtin.Slice.sliceAdjust lo a 1 (n:Int)=(((sIx n 0 lo:Nat):Int),((sIx n n a:Nat):Int)):=by
 have b:¬((1:Int)<0):=by omega
 unfold Builtin.Slice.sliceAdjust;simp only[b,apN];refine Prod.ext ?_ ?_;·cases lo with|none=>rfl|some v=>exact acG v n 0
 ·cases a with|none=>rfl|some v=>exact acG v n n
def yt(i j:Nat):Builtin.Slice.slicePlaces (i:Int) (j:Int) 1=j-i:=by
 unfold Builtin.Slice.slicePlaces;have a:(1:Int)>0:=by omega
 simp only[a,apU,Int.ediv_one];split<;>omega
def n6{v:Value}{o:Option Int}{Q:Option Int->Shared->Prop}(p:IsPart v o)(h:Q o s):wpAny (model prog w) A (Builtin.Slice.slicePartIndex v) Q E s:=by cases p with|none=>exact slicePart_none h|int i t=>exact slicePart_int h
def kL{sl:Addr}{d e:Value}{lo a:Option Int}{n:Nat}{Q:Int×Int×Nat->Shared->Prop}(f:s.heap.IsSliceOf sl d e .none)(pl:IsPart d lo)(g:IsPart e a)(h:Q (((sIx n 0 lo:Nat):Int),1,sIx n n a-sIx n 0 lo) s):wpAny (model prog w) A (Builtin.Slice.sliceApplied (.ref sl) (pure (n:Int))) Q E s:=by obtain⟨os,c,i,b⟩:=id f;unfold Builtin.Slice.sliceApplied Builtin.Slice.sliceFields;refine aoY (aoY (apJ c b (x:=d) rfl (aoY (apJ c b (x:=e) rfl (aoY (apJ c b (x:=.none) rfl (ao4 ?_)))))));refine aoY (slicePart_none ?_);show wpAny _ _ (if((1:Int)==0)=true then _ else _) _ _ s;rw[ao2 (by decide)];refine aoY (n6 pl (aoY (n6 g (aoY (ao4 ?_)))));show wpAny _ _ (match Builtin.Slice.sliceAdjust lo a 1 (n:Int)with|(lo,a)=>pure (lo,(1:Int),Builtin.Slice.slicePlaces lo a 1)) _ _ s;rw[zm lo a n];show wpAny _ _ (pure (((sIx n 0 lo:Nat):Int),(1:Int),Builtin.Slice.slicePlaces ((sIx n 0 lo:Nat):Int) ((sIx n n a:Nat):Int) 1)) _ _ s;rw[yt];exact ao4 h
def adR(xs:Array Value)(i k:Nat):((List.range k).filterMap λ(m:Nat)=>xs[((i:Int)+(m:Int)*1).toNat]?).toArray=((xs.toList.drop i).take k).toArray:=by
 have e:(λ(m:Nat)=>xs[((i:Int)+(m:Int)*1).toNat]?)=λm=>xs[i+m]?:=by
  funext m;have:((i:Int)+(m:Int)*1).toNat=i+m:=by omega
  rw[this]
 rw[e];have:=pick_run xs i k;rw[List.filterMap_map]at this;have a:((λx=>xs[x]?)∘λx=>i+x)=λm=>xs[i+m]?:=rfl;rw[a]at this;rw[this]
def jP{t sl:Addr}{items:Array Value}{k j:Value}{lo b:Option Int}{Q:Value->Shared->Prop}(c:IsTup s.heap t items)(i:s.heap.IsSliceOf sl k j .none)(pl:IsPart k lo)(l:IsPart j b)(hw:¬(sIx items.size 0 lo=0/\sIx items.size items.size b=items.size))(h:Q (.ref s.heap.objs.size) {s with heap:=s.heap.push {cls:=.type "tuple",data:=.seq ((items.toList.drop (sIx items.size 0 lo)).take (sIx items.size items.size b-sIx items.size 0 lo)).toArray}})(hsz:items.size<=sizeLine):wpAny (model prog w) A (getItem (.ref t) (.ref sl)) Q E s:=by
 have a:sizeOk (.seq ((items.toList.drop (sIx items.size 0 lo)).take (sIx items.size items.size b-sIx items.size 0 lo)).toArray):=by show((items.toList.drop (sIx items.size 0 lo)).take (sIx items.size items.size b-sIx items.size 0 lo)).toArray.size<=sizeLine;rw[aps,aqA,asp,aqj];omega
 have o:sIx items.size items.size b<=items.size:=ai8 _ _ (ao6 _) b;obtain⟨os,f,d,n⟩:=id i;have g:s.TypeIs (.ref sl) "slice":=⟨os,f,d⟩;unfold getItem;try with_reducible refine aqt ?_
 first|refine aoY (ao4 ?_)|skip
 refine aoY (wpAny_sequenceKey c.typeIs (by decide) ?_);refine aoY (aqh (name:=Str.ofString "__getitem__") c.typeIs aqE (apV aqE c.typeIs entry_tuple_getitem ?_ (args_tuple_getitem _ _)));show wpAny _ _ (Builtin.Tuple.tupleItemsOf (.ref t)>>=_) _ _ s;refine aoY (tupleItemsOf_ c ?_);refine aoY (wpAny_typeOf g ?_);rw[ao1 (by decide)];refine aoY (kL i pl l ?_);have e:¬((((sIx items.size 0 lo:Nat):Int)==0&&(1:Int)==1&&(sIx items.size items.size b-sIx items.size 0 lo)==items.size)=true):=by intro q;rw[apg,apg]at q;have p:((sIx items.size 0 lo:Nat):Int)=0:=eq_of_beq q.1.1;have r:sIx items.size items.size b-sIx items.size 0 lo=items.size:=eq_of_beq q.2;exact hw ⟨by omega,by omega⟩
 show wpAny _ _ (if(((sIx items.size 0 lo:Nat):Int)==0&&(1:Int)==1&&(sIx items.size items.size b-sIx items.size 0 lo)==items.size)=true then _ else _) _ _ s;rw[ao2 e,adR];first|exact aoY (m:=Builtin.Tuple.tupleExact _) (apX (ao4 ⟨_,rfl,ao4 h⟩) a)|exact aoY (m:=Builtin.Tuple.tupleExact _) (apX (aoY (ao4 (ao4 ⟨_,rfl,ao4 h⟩))) a)|exact aoY (aoY (m:=Builtin.Tuple.tupleExact _) (apX (ao4 (ao4 ⟨_,rfl,ao4 h⟩)) a))|exact aoY (aoY (m:=Builtin.Tuple.tupleExact _) (apX (ao4 ⟨_,rfl,ao4 h⟩) a))
end
end HT
namespace L2
open PySem PySem.Spec PyProof.Rows
abbrev TO:=St->Hp->(Option Int->Hp->Prop)->Prop
def PO(X:Cx)(e:Option Expr)(t:TO):Prop:=∀(a:List (Addr×Obj))(s:Shared)(b:St)(H:Hp)(Q:Option Int->Hp->Prop),Inv X a b H s->t b H Q->wpAny (model X.prog X.w) X.A (evalPart e X.env) (λu d=>∃o c,Inv X a b c d/\IsPart u o/\Q o c) X.xe s
def agq:TO:=λ_ H Q=>Q none H
def al0(t:TE):TO:=λb H Q=>t b H λx a=>∃i,x=.int i/\Q (some i) a
section
variable{X:Cx}{e:Expr}{te:TE}{lo hi:Option Expr}{tl th:TO}{pos p2:Pos}
def aaT:PO X none agq:=by intro a s b H Q I h;rw[evalPart_none];exact ao4 ⟨none,H,I,.none,h⟩
def aaS(h:PE X e te):PO X (some e) (al0 te):=by intro a s g H Q I hw;rw[evalPart_some];refine thn (h a s g H _ I hw) λu j⟨x,c,f,b,d⟩=>?_;obtain⟨i,rfl,q⟩:=d;obtain⟨t,rfl⟩:=b;exact⟨some i,c,f,.int i t,q⟩
def SlR(X:Cx)(r:V->Option Int->Option Int->Hp->VK->Prop):Prop:=∀(a:List (Addr×Obj))(s:Shared)(c:St)(H:Hp)(x:V)(v f d:Value)(lo hi:Option Int)(b:Addr)(Q:VK),Inv X a c H s->RelV x v->s.heap.IsSliceOf b f d .none->IsPart f lo->IsPart d hi->r x lo hi H Q->∃T id,typeLookup (.type T) "__getitem__"=pure (some (.builtin id))/\s.TypeIs v T/\wpAny (model X.prog X.w) X.A (getItem v (.ref b)) (EP X a c Q) X.xe s
def SlR.or{r i:V->Option Int->Option Int->Hp->VK->Prop}(h:SlR X r)(h':SlR X i):SlR X (λx lo hi H Q=>r x lo hi H Q\/i x lo hi H Q):=by
 intro a s j H x v k f lo hi d Q I c b pl g q;rcases q with q|q;·exact h a s j H x v k f lo hi d Q I c b pl g q
 ·exact h' a s j H x v k f lo hi d Q I c b pl g q
def tSl(r:V->Option Int->Option Int->Hp->VK->Prop)(te:TE)(tl th:TO):TE:=λa H Q=>te a H λx d=>tl a d λl b=>th a b λu c=>r x l u c Q
def wy{r:V->Option Int->Option Int->Hp->VK->Prop}(z:SlR X r)(C:PE X e te)(j:PO X lo tl)(A:PO X hi th):PE X (.Subscript e (.Slice lo hi none p2) pos) (tSl r te tl th):=by intro a s d H Q I h;refine Subscript_ (thn (C a s d H _ I h) λv K⟨x,D,o,B,E⟩=>?_);refine wpAny_Slice (thn (j a K d D _ o E) λg J⟨l,G,m,pl,p⟩=>thn (A a J d G _ m p) λf c⟨u,i,M,n,t⟩=>?_);rw[evalPart_none];refine ao4 ?_;have w:Inv X a d i {c with heap:=c.heap.push {cls:=.type "slice",data:=.fields #[g,f,.none]}}:=M.kept (t':=c.toks) λb ob q=>aoZ _ q;obtain⟨T,id,N,k,y⟩:=z a {c with heap:=c.heap.push {cls:=.type "slice",data:=.fields #[g,f,.none]}} d i x v g f l u c.heap.objs.size Q w B (Heap.IsSliceOf.new ..) pl n t;show wpAny (model X.prog X.w) X.A (subscriptTail e (.Slice lo hi none p2) v (.ref c.heap.objs.size)) (EP X a d Q) X.xe {c with heap:=c.heap.push {cls:=.type "slice",data:=.fields #[g,f,.none]}};exact tail_any (ops:=[.ref c.heap.objs.size,v]) k N y (by with_unfolding_all rfl)
def afJ(xs:List V)(lo hi:Option Int):List V:=(xs.drop (HT.sIx xs.length 0 lo)).take (HT.sIx xs.length xs.length hi-HT.sIx xs.length 0 lo)
def nj(xs:List V)(lo hi:Option Int):(afJ xs lo hi).length<=xs.length:=by unfold afJ;rw[aqA,asp];omega
def aoB(K:W.Frag):V->Option Int->Option Int->Hp->VK->Prop:=λx lo hi H Q=>∃a b,x=.ref a/\SqT K H a b/\¬(HT.sIx b.length 0 lo=0/\HT.sIx b.length b.length hi=b.length)/\∀p,H p=none->Q (.ref p) (upd H p (.tup (afJ b lo hi)))
def ai4:SlR X (aoB X.K):=by
 intro i s u H x v w t lo hi p Q I l k pl n h;obtain⟨a,d,rfl,m,hw,q⟩:=h;cases l;obtain⟨f,r,j,g⟩:=I.tuple m;have c:f.toArray.size=d.length:=by rw[aps];exact r.length.symm
 refine⟨"tuple",_,aqE.lookup,j.typeIs,?_⟩;refine HT.jP j k pl n (by rw[c];exact hw) ?_ (by rw[c];exact g);rw[c];refine⟨.ref s.heap.objs.size,_,I.laid (t':=s.toks) (o:=.tup (afJ d lo hi)) (λb ob q=>aoZ _ q) (ao6 _) ?_,rfl,q _ (I.hok.fresh (ao6 _))⟩;exact⟨apc (nj d lo hi) g,_,(r.drop (HT.sIx d.length 0 lo)).take (HT.sIx d.length d.length hi-HT.sIx d.length 0 lo),IsTup.new _ _⟩
def amq(K:W.Frag):R2:=λx y H Q=>∃a b d c,x=.ref a/\y=.ref b/\SqT K H a d/\SqT K H b c/\d≠[]/\d.length+c.length<=sizeLine/\(c=[]->Q (.ref a) H)/\(c≠[]->∀p,H p=none->Q (.ref p) (upd H p (.tup (d++c))))
def Vals.uL{xs:List V}{us:List Value}(r:Vals xs us):us=[]↔ xs=[]:=by cases r with|nil=>simp|cons _ _=>simp
def agY:OpR X (binaryOp .Add) (amq X.K):=by intro g s D H x y v u Q I j C h;obtain⟨a,b,n,m,rfl,rfl,l,t,r,f,B,p⟩:=h;cases j;cases C;obtain⟨A,d,k,_⟩:=I.tuple l;obtain⟨i,c,p2,_⟩:=I.tuple t;refine HT.ahO k p2 (λz=>r (d.uL.mp z)) (λz=>⟨.ref a,H,I,rfl,B (c.uL.mp z)⟩) (λz=>?_) (by rw[<-d.length,<-c.length];exact f);refine⟨.ref s.heap.objs.size,_,I.laid (t':=s.toks) (o:=.tup (n++m)) (λb ob q=>aoZ _ q) (ao6 _) ?_,rfl,p (λw=>z (c.uL.mpr w)) _ (I.hok.fresh (ao6 _))⟩;exact⟨by rw[apD];exact f,_,d.append c,IsTup.new _ _⟩
end
noncomputable def ixN(n:Nat)(i:Int):Option Nat:=if 0<=i then(if i<n then some i.toNat else none)else if -(n:Int)<=i then some (i+n).toNat else none
def atI{a:Type}(xs:List a)(i:Int):Option a:=(ixN xs.length i).bind λj=>xs[j]?
def ahk{n:Nat}{i:Int}{j:Nat}(h:ixN n i=some j):seqIndex? i n=some j/\j<n/\-(n:Int)<=i/\i<n:=by
 unfold ixN at h;by_cases b:0<=i
 ·rw[ao1 b]at h;by_cases a:i<n;·rw[ao1 a]at h;have e:i.toNat=j:=apf h;exact⟨by rw[seqIndex_of b a,e],by omega,by omega,a⟩
  ·rw[ao2 a]at h;cases h
 ·rw[ao2 b]at h;by_cases a:-(n:Int)<=i;·rw[ao1 a]at h;have e:(i+n).toNat=j:=apf h;exact⟨by rw[seqIndex_neg (by omega) a,e],by omega,a,by omega⟩
  ·rw[ao2 a]at h;cases h
def vA{a:Type}{xs:List a}{i:Int}{v:a}(h:atI xs i=some v):∃j,seqIndex? i xs.length=some j/\xs[j]?=some v/\j<xs.length/\-(xs.length:Int)<=i/\i<xs.length:=by unfold atI at h;cases e:ixN xs.length i with|none=>rw[e]at h;cases h|some j=>rw[e]at h;obtain⟨b,c,f,d⟩:=ahk e;exact⟨j,b,h,c,f,d⟩
def gO{a:Type}{xs:List a}{j:Nat}{v:a}(h:xs[j]?=some v):atI xs (j:Int)=some v:=by
 have b:j<xs.length:=(ao3.mp h).1;have e:ixN xs.length (j:Int)=some j:=by unfold ixN;rw[ao1 (by omega),ao1 (by omega)];simp
 unfold atI;rw[e];exact h
def k9{a:Type}(xs:List a)(v:a):atI (xs++[v]) (-1)=some v:=by
 have b:(xs++[v]).length=xs.length+1:=by simp
 have e:ixN (xs++[v]).length (-1)=some xs.length:=by unfold ixN;rw[b,ao2 (by decide),ao1 (by omega)];congr 1;omega
 unfold atI;rw[e];show(xs++[v])[xs.length]?=some v;simp
def j6(b:Expr):Prop:=∀o i,subscripted b false o i=operate [o,i] (getItem o i)
def IxR(X:Cx)(r:R2):Prop:=∀(c a:Expr)(b:List (Addr×Obj))(s:Shared)(d:St)(H:Hp)(x y:V)(v u:Value)(Q:VK),Inv X b d H s->RelV x v->RelV y u->r x y H Q->subscripted a false v u=operate [v,u] (getItem v u)->wpAny (model X.prog X.w) X.A (subscriptTail c a v u) (EP X b d Q) X.xe s
def MtR(X:Cx)(id:String)(r:V->List V->Hp->VK->Prop):Prop:=∀(a:List (Addr×Obj))(s:Shared)(c:St)(H:Hp)(x:V)(d:List V)(v:Value)(b:List Value)(Q:VK),Inv X a c H s->RelV x v->Vals d b->r x d H Q->wpAny (model X.prog X.w) X.A (call (.builtin id) (v::b)) (EP X a c Q) X.xe s
section
variable{X:Cx}{a b:Expr}{ta tb:TE}{pos:Pos}
def IxR.or{r i:R2}(h:IxR X r)(h':IxR X i):IxR X (λx y H Q=>r x y H Q\/i x y H Q):=by
 intro c d e s j H x y v u Q I g k q f;rcases q with q|q;·exact h c d e s j H x y v u Q I g k q f
 ·exact h' c d e s j H x y v u Q I g k q f
def MtR.or{id:String}{r g:V->List V->Hp->VK->Prop}(h:MtR X id r)(h':MtR X id g):MtR X id (λx d H Q=>r x d H Q\/g x d H Q):=by
 intro c s i H x d v j Q I f e q;rcases q with q|q;·exact h c s i H x d v j Q I f e q
 ·exact h' c s i H x d v j Q I f e q
def ajB{r:R2}(f:IxR X r)(g:PE X a ta)(i:PE X b tb)(d:j6 b):PE X (.Subscript a b pos) (tOp r ta tb):=by intro c s m H Q I h;exact Subscript_ (anz g i I h λv u l x y k j e n q=>f a b c l m k x y v u Q j e n q (d _ _))
def anY(K:W.Frag):R2:=λx y H Q=>∃p c i v,x=.ref p/\y=.int i/\SqL K H p c/\atI c i=some v/\Q v H
def anV(K:W.Frag):R2:=λx y H Q=>∃p c i v,x=.ref p/\y=.int i/\SqT K H p c/\atI c i=some v/\Q v H
def anW:R2:=λx y H Q=>∃z i c,x=.str z/\y=.int i/\z.length<=sizeLine/\atI z.cps.toList i=some c/\Q (.str ⟨#[c]⟩) H
def abH:IxR X (anY X.K):=by
 intro g e c s A H x y v u Q I C N h m;obtain⟨p,P,i,z,rfl,rfl,E,J,q⟩:=h;cases C;obtain⟨t,rfl⟩:=N;obtain⟨l,r,pl,S⟩:=I.list E;obtain⟨j,d,D,O,K,M⟩:=vA J;obtain⟨w,n,f⟩:=r.get D;have G:=r.length;have R:=rP;have fin:EP X c A Q w s:=⟨z,H,I,f,q⟩;by_cases o:0<=i
 ·have k:i.toNat=j:=by rw[seqIndex_of o M]at d;exact apf d
  exact item_listR pl.isList o (by omega) (by rw[k];simpa using n) fin m
 ·have k:(i+(l.toArray.size:Int)).toNat=j:=by rw[seqIndex_neg (by omega) K]at d;rw[aps,<-G];exact apf d
  exact subscriptTail_builtinR (x:=w) pl.isList.typeIs slot_list_getitem.lookup (wpAny_getItem_list_neg (Q:=λr B=>r=w/\EP X c A Q r B) pl.isList (by omega) (by rw[aps]<;>omega) (by omega) (by rw[k];simpa using n) ⟨rfl,fin⟩) m
def afA:IxR X (anV X.K):=by intro f d c s g H x y v u Q I m G h l;obtain⟨p,K,i,z,rfl,rfl,o,D,q⟩:=h;cases m;obtain⟨t,rfl⟩:=G;obtain⟨E,r,pl,N⟩:=I.tuple o;obtain⟨j,B,n,J,O,P⟩:=vA D;obtain⟨w,C,e⟩:=r.get n;have A:=r.length;have M:=rP;have fin:EP X c g Q w s:=⟨z,H,I,e,q⟩;exact subscriptTail_builtinR (x:=w) pl.typeIs slot_tuple_getitem.lookup (getItem_tuple (j:=j) (Q:=λr k=>r=w/\EP X c g Q r k) pl (by omega) (by omega) (by rw[aps,<-A];exact B) (by simpa using C) ⟨rfl,fin⟩) l
def aks:IxR X anW:=by
 intro e d g s J H x y v u Q I l B h k;obtain⟨z,i,c,rfl,rfl,G,p,q⟩:=h;obtain⟨t,rfl⟩:=l;obtain⟨C,rfl⟩:=B;obtain⟨j,f,m,D,r,A⟩:=vA p;have n:z.cps.toList.length=z.length:=by simp[Str.length]
 rw[n]at f r A;have E:=rP;exact tail_any (arc s z t) slot_str_getitem.lookup (getItem_str (c:=c) (by have o:decide (i < -(2^63:Int))=false:=api (by omega);have w:decide (i ≥ 2^63)=false:=api (by omega);rw[o,w,Bool.or_false]) (by rw[f];simpa using m) ⟨.str ⟨#[c]⟩,H,I.tok _,⟨_,rfl⟩,q⟩) k
def rIx(K:W.Frag):R2:=λx y H Q=>anY K x y H Q\/anV K x y H Q\/anW x y H Q
def abG:IxR X (rIx X.K):=abH.or (afA.or aks)
def qF(lo c:Option Int)(n:Nat):(sliceBounds lo c none n).1=((HT.sIx n 0 lo:Nat):Int)/\(sliceBounds lo c none n).2.1=((HT.sIx n n c:Nat):Int)/\(sliceBounds lo c none n).2.2=1:=by
 refine⟨?_,?_,rfl⟩;·cases lo with|none=>simp[sliceBounds,HT.sIx]|some i=>
  simp only[sliceBounds,HT.sIx,Option.getD_none,show(1:Int)>0 by decide,apU];by_cases h:i<0;·simp only[h,apU]<;>omega
  ·simp only[h,apN]<;>omega
 ·cases c with|none=>simp[sliceBounds,HT.sIx]|some i=>
  simp only[sliceBounds,HT.sIx,Option.getD_none,show(1:Int)>0 by decide,apU];by_cases h:i<0;·simp only[h,apU]<;>omega
  ·simp only[h,apN]<;>omega
def pf(its:List Value)(lo c:Option Int):slicePick its.toArray lo c none=((its.drop (HT.sIx its.length 0 lo)).take (HT.sIx its.length its.length c-HT.sIx its.length 0 lo)).toArray:=by obtain⟨d,e,f⟩:=qF lo c its.toArray.size;unfold slicePick;rw[d,e,f];simp only[sliceRange_one,pick_run,aps]<;>rfl
def aoC(K:W.Frag):V->Option Int->Option Int->Hp->VK->Prop:=λx lo d H Q=>∃a c,x=.ref a/\SqL K H a c/\∀p,H p=none->Q (.ref p) (upd H p (.lst (afJ c lo d)))
def agu:SlR X (aoC X.K):=by intro f s u H x v w t lo e p Q I j i pl n h;obtain⟨a,c,rfl,k,q⟩:=h;cases j;obtain⟨m,r,g,l⟩:=I.list k;have d:=r.length;refine⟨"list",_,slot_list_getitem.lookup,g.isList.typeIs,?_⟩;refine wpAny_getItem_list_slice g.isList i pl n .none (by simp) ?_ (by rw[aps]<;>omega);rw[pf,<-d];refine⟨.ref s.heap.objs.size,_,I.laid (t':=s.toks) (o:=.lst (afJ c lo e)) (λb ob q=>aoZ _ q) (ao6 _) ?_,rfl,q _ (I.hok.fresh (ao6 _))⟩;exact⟨apc (nj c lo e) l,_,0,(r.drop (HT.sIx c.length 0 lo)).take (HT.sIx c.length c.length e-HT.sIx c.length 0 lo),apd _ rfl⟩
def sV:bJ X (.builtin "len") (λj H Q=>∃p d,j=[.ref p]/\(SqL X.K H p d\/SqT X.K H p d)/\Q (.int d.length) H):=by
 intro i s o H j n Q I r h;obtain⟨p,d,rfl,e,q⟩:=h;obtain⟨u,rfl,k⟩:=vals1 r;cases k;have m:=rP;rcases e with e|e;·obtain⟨f,g,pl,l⟩:=I.list e;have c:=g.length;exact Calls.call_len_list pl.isList (by simp only[aps]<;>omega) ⟨.int d.length,H,I.tok _,⟨s.toks+1,by rw[aps,c]⟩,q⟩
 ·obtain⟨f,g,pl,l⟩:=I.tuple e;have c:=g.length;exact len_tuple pl (by simp only[aps]<;>omega) ⟨.int d.length,H,I.tok _,⟨s.toks+1,by rw[aps,c]⟩,q⟩
def sU:bJ X (.builtin "len") (λd H Q=>∃z,d=[.str z]/\z.length<=sizeLine/\Q (.int z.length) H):=by intro c s i H d g Q I r h;obtain⟨z,rfl,f,q⟩:=h;obtain⟨u,rfl,t,rfl⟩:=vals1 r;have e:=rP;exact len_str (by omega) ⟨.int z.length,H,I.tok _,⟨_,rfl⟩,q⟩
def bJ.or{f:Value}{r g:List V->Hp->VK->Prop}(h:bJ X f r)(h':bJ X f g):bJ X f (λd H Q=>r d H Q\/g d H Q):=by
 intro c s i H d j Q I e q;rcases q with q|q;·exact h c s i H d j Q I e q
 ·exact h' c s i H d j Q I e q
def kG:bJ X (.type "list") (λz H Q=>∃p f,z=[.ref p]/\(SqL X.K H p f\/SqT X.K H p f)/\∀l,H l=none->Q (.ref l) (upd H l (.lst f))):=by
 intro t s C H z D Q I r h;obtain⟨p,f,rfl,j,q⟩:=h;obtain⟨u,rfl,B⟩:=vals1 r;cases B;have fin:∀(c:List Value),Vals f c->f.length<=sizeLine->∀(d:Heap)(i:Nat),(∀b A,s.heap.get? b=some A->d.get? b=some A)->d.get? s.heap.objs.size=some {cls:=.type "list",dict:=none,data:=.seq c.toArray i,slots:=#[]}->EP X t C Q (.ref s.heap.objs.size) {s with heap:=d}:=λc g m d i k e=>⟨.ref s.heap.objs.size,_,I.laid (t':=s.toks) k (ao6 _) (show bO X.prog X.w _ d _ (.lst f)from⟨m,c,i,g,e⟩),rfl,q _ (I.hok.fresh (ao6 _))⟩;rcases j with j|j;·obtain⟨c,g,pl,m⟩:=I.list j;have v:=g.length;obtain⟨o,w,x,n,y⟩:=pl.isList;exact call_list_seq p (.inl rfl) w x y (λd i k e=>fin c g m d i k e) (by simp only[aps]<;>omega)
 ·obtain⟨c,g,pl,m⟩:=I.tuple j;have v:=g.length;obtain⟨o,w,x,n,y⟩:=pl;exact call_list_seq p (.inr rfl) w x y (λd i k e=>fin c g m d i k e) (by simp only[aps]<;>omega)
def qk:bJ X (.type "tuple") (λv H Q=>∃p f,v=[.ref p]/\((SqL X.K H p f/\∀l,H l=none->Q (.ref l) (upd H l (.tup f)))\/(SqT X.K H p f/\Q (.ref p) H))):=by
 intro c s t H v z Q I r h;obtain⟨p,f,rfl,h⟩:=h;obtain⟨u,rfl,w⟩:=vals1 r;cases w;rcases h with⟨i,q⟩|⟨i,q⟩;·obtain⟨d,j,pl,k⟩:=I.list i;have n:=j.length;refine call_tuple_list pl.isList (λg x=>?_) (by simp only[aps]<;>omega);have m:Inv X c t H {s with heap:=g}:=I.kept (t':=s.toks) x;have y:Inv X c t (upd H g.objs.size (.tup f)) {s with heap:=g.push {cls:=.type "tuple",data:=.seq d.toArray}}:=m.laid (t':=s.toks) (λb o e=>aoZ _ e) (ao6 _) (show bO X.prog X.w _ _ _ (.tup f)from⟨k,d,j,IsTup.new _ _⟩);exact⟨.ref g.objs.size,_,y,rfl,q _ (m.hok.fresh (ao6 _))⟩
 ·obtain⟨d,j,pl,k⟩:=I.tuple i;exact call_tuple_same pl ⟨.ref p,H,I,rfl,q⟩
def tyV(K:W.Frag)(T:String)(x:V)(H:Hp):Prop:=match x with|.str _=>T="str"|.int _=>T="int"|.ref p=>(T="list"/\∃d,SqL K H p d)\/(T="tuple"/\∃o,K.lookup p=some o/\o.cls=.type "tuple"/\o.dict=none)\/(T="dict"/\((∃c,H p=some (.dK c))\/∃c,H p=some (.dT c)))\/(T="set"/\∃S n,H p=some (.set S n))|_=>False
def aiN{pins:List (Addr×Obj)}{σ:St}{H:Hp}{s:Shared}{T:String}{x:V}{v:Value}(I:Inv X pins σ H s)(r:RelV x v)(ty:tyV X.K T x H):
 s.TypeIs v T/\∀a,v=.ref a->∃ob,s.heap.get? a=some ob/\ob.dict=none:=by cases x with|str z=>obtain⟨t,rfl⟩:=r;cases(show T="str"from ty);exact⟨arc s z t,λ_ e=>nomatch e⟩|int i=>obtain⟨t,rfl⟩:=r;cases(show T="int"from ty);exact⟨typeIs_int s i t,λ_ e=>nomatch e⟩|ref p=>
  cases r;rcases ty with⟨rfl,m,k⟩|⟨rfl,o,d,j,f⟩|⟨rfl,d⟩|⟨rfl,S,n,d⟩;·obtain⟨l,_,pl,_⟩:=I.list k;refine⟨pl.isList.typeIs,λa e=>?_⟩;cases e;obtain⟨o,n,e,c,f,_⟩:=pl;exact⟨o,e,f⟩
  ·refine⟨⟨o,I.kIn p o d,j⟩,λa e=>?_⟩;cases e;exact⟨o,I.kIn _ o d,f⟩
  ·have z:∃o,s.heap.get? p=some o/\o.ExactDict:=by
    rcases d with⟨g,d⟩|⟨g,d⟩;·obtain⟨_,_,_,_,o,_,_,e,ex,_⟩:=I.hok p _ d;exact⟨o,e,ex⟩
    ·obtain⟨_,_,_,_,o,_,_,e,ex,_⟩:=I.hok p _ d;exact⟨o,e,ex⟩
   obtain⟨o,e,ex⟩:=z;refine⟨⟨o,e,ex.1⟩,λa h=>?_⟩;cases h;exact⟨o,e,ex.2.1⟩
  ·obtain⟨o,_,_,_,e,ex,_⟩:=I.hok p _ d;refine⟨⟨o,e,ex.1⟩,λa h=>?_⟩;cases h;exact⟨o,e,ex.2.1⟩|_=>exact False.elim ty
def tBM(K:W.Frag)(T:String)(r:V->List V->Hp->VK->Prop)(g:TE)(t:TA):TE:=λc H Q=>g c H λx d=>tyV K T x d/\t c d λf e=>r x f e Q
variable{o e:Expr}{es:List Expr}{to:TE}{t:TA}{name:Str}{apos cpos:Pos}{T id:String}{r:V->List V->Hp->VK->Prop}
def pF(w:PlainAttrs T)(i:Slot T name id)(k:typeOf (.builtin id)=pure (.type "method_descriptor"))(K:MtR X id r)(y:PE X o to)(z:PA X (e::es) t)(f:attributeBase o name X.env (eval o X.env)=eval o X.env:=by rfl)(j:((backTo cpos (starEach (e::es) X.env)).all (λx=>!x.1)&&(backToKw cpos (keywordEach [] X.env)).all (λx=>x.1.isSome)&&decide ((e::es).length+([]:List Keyword).length+(if([]:List Keyword).isEmpty then 0 else 1)<30))=true:=by rfl)(g:(apos.endLine==cpos.line)=true:=by rfl)(q:starEach (e::es) X.env=(false,eval e X.env)::starEach es X.env:=by rfl)(d:(backTo cpos (starEach es X.env)).any (·.1)=false:=by rfl):PE X (.Call (.Attribute o name apos) (e::es) [] cpos) (tBM X.K T r to t):=by intro c s l H Q I h;refine wpAny_Call_method_late f j g rfl (thn (y c s l H _ I h) λv N⟨x,C,n,m,ty,D⟩=>?_);obtain⟨E,u⟩:=aiN n m ty;refine⟨T,id,w,i,k,E,u,?_⟩;have p:=z cpos c N l C _ n D;rw[q]at p⊢;refine Calls.callWith_builtin (by show(false||(backTo cpos (starEach es X.env)).any (·.1))=false;rw[d]<;>rfl) (arC ?_);exact thn p λA M⟨B,J,G,O,P⟩=>K c M l J x B v A Q G m O P
end
def MtM(X:Cx)(id:String)(r:V->List V->Hp->VK->Prop):Prop:=∀(a:List (Addr×Obj))(s:Shared)(c:St)(H:Hp)(x:V)(d:List V)(v:Value)(b:List Value)(Q:VK),Inv X a c H s->RelV x v->Vals d b->r x d H Q->wpAny (model X.prog X.w) X.A (call (.builtin id) (v::b)) (EP X a c Q) X.xe s
def Vals.one:∀{x:V}{us:List Value},Vals [x] us->∃u,us=[u]/\RelV x u|_,_,.cons r .nil=>⟨_,rfl,r⟩
theorem Vals.eraseIdx:∀{xs:List V}{us:List Value}(i:Nat),Vals xs us->Vals (xs.eraseIdx i) (us.eraseIdx i)|_,_,_,.nil=>.nil|_,_,0,.cons _ t=>t|_,_,i+1,.cons r t=>.cons r (Vals.eraseIdx i t)
theorem Vals.reverse{xs:List V}{us:List Value}(h:Vals xs us):Vals xs.reverse us.reverse:=by induction h with|nil=>exact .nil|cons r t ih=>rw[List.reverse_cons,List.reverse_cons];exact Vals.append ih (.cons r .nil)
theorem rQ{a:Type}:∀(l:List a)(i:Nat),(l.eraseIdx i).length<=l.length|[],_=>ao6 _|_::_,0=>aqL _|_::r,i+1=>Nat.succ_le_succ (rQ r i)
section
variable{X:Cx}{pins:List (Addr×Obj)}{σ:St}{H:Hp}{s:Shared}{l b:Addr}{xs ys zs:List V}
def Inv.aoa{its its':List Value}{n:Nat}{f:Array Value->Array Value}{t':Nat}(I:Inv X pins σ H s)(a:H l=some (.lst xs))(e:s.heap.get? l=some {cls:=.type "list",data:=.seq its.toArray n})(g:f its.toArray=its'.toArray)(h:Vals ys its')(hz:ys.length<=sizeLine):Inv X pins σ (upd H l (.lst ys)) {s with heap:=s.heap.update l (Obj.mapSeq f),toks:=t'}:=by have q:=PySem.IsL.update e f;rw[g]at q;refine I.write (x:=l) (e:=l) (by rw[a];exact trivial) (.inl rfl) (λi u d c=>(apu s.heap (Obj.mapSeq f) (ape d)).trans c) ⟨_,q⟩ ?_;exact⟨hz,its',_,h,q⟩
def Inv.am6{its:List Value}{t':Nat}(I:Inv X pins σ H s)(a:Vals ys its)(hz:ys.length<=sizeLine):Inv X pins σ (upd H s.heap.objs.size (.lst ys)) {s with heap:=s.heap.push {cls:=.type "list",data:=.seq its.toArray},toks:=t'}:=I.laid (λ_ _ q=>aoZ _ q) (ao6 _) ⟨hz,its,0,a,apd _ rfl⟩
theorem Inv.fresh(I:Inv X pins σ H s):H s.heap.objs.size=none:=I.hok.fresh (ao6 _)
def Inv.an9(I:Inv X pins σ H s)(a:H l=some (.lst xs)):xs.length<=sizeLine/\∃(its:List Value)(n:Nat),Vals xs its/\xs.length=its.length/\s.heap.get? l=some {cls:=.type "list",data:=.seq its.toArray n}:=by obtain⟨z,its,n,r,e⟩:=I.hok l _ a;exact⟨z,its,n,r,r.length,e⟩
end
section
variable{X:Cx}
def pB:V->List V->Hp->VK->Prop:=λx b H Q=>∃l a y,x=.ref l/\b=[y]/\H l=some (.lst a)/\a.length<sizeLine/\Q .non (upd H l (.lst (a++[y])))
def gA:MtM X "list.append" pB:=by intro c s o H x k v j Q I d g h;obtain⟨l,p,y,rfl,rfl,b,i,q⟩:=h;cases d;obtain⟨u,rfl,f⟩:=g.one;obtain⟨z,a,n,r,m,e⟩:=I.an9 b;refine arD F.slot_list_append ⟨_,e,rfl⟩ F.entry_list_append (F.args_list_append_2 _ _) (PySem.list_append l a.toArray n u (by rw[aps];omega)) ⟨e,?_⟩;refine⟨.non,_,I.aoa (its':=a++[u]) b e (by simp) (r.append (.cons f .nil)) ?_,rfl,q⟩;rw[apD,aru];omega
def afj:V->List V->Hp->VK->Prop:=λx b H Q=>∃l a i k y,x=.ref l/\b=[.int i]/\H l=some (.lst a)/\-(2^63)<=i/\i<2^63/\seqIndex? i a.length=some k/\a[k]?=some y/\Q y (upd H l (.lst (a.eraseIdx k)))
def aeb:MtM X "list.pop" afj:=by
 intro d s G H x E v D Q I f p h;obtain⟨l,A,i,k,y,rfl,rfl,c,m,g,o,B,q⟩:=h;cases f;obtain⟨u,rfl,C⟩:=p.one;obtain⟨t,rfl⟩:=C;obtain⟨z,a,n,r,j,e⟩:=I.an9 c;obtain⟨w,hw,b⟩:=r.get B;refine arD F.slot_list_pop ⟨_,e,rfl⟩ F.entry_list_pop (F.args_list_pop_2 _ _) (MeetsSeq.list_pop_at l a.toArray n i t k w (fitsIndex_both m g) (by rw[aps,<-j];exact o) (by rw[<-arv];exact hw) (by rw[aps];omega)) ⟨e,?_⟩;refine⟨y,_,I.aoa (its':=a.eraseIdx k) c e ?_ (r.eraseIdx k) ?_,b,q⟩;·show a.toArray.eraseIdxIfInBounds k=(a.eraseIdx k).toArray;rw[List.eraseIdxIfInBounds_toArray]
 ·have:=rQ A k;omega
end
end L2
namespace Att
open PySem PySem.W PySem.Calls PyProof.Rows
def mV{P:Params}{h:Heap}:∀(ns:List Int)(vs:List Value),WellAll P h vs (ns.map WData.int)->IntsAre vs ns:=by intro ns;induction ns with|nil=>intro vs w;rw[aqB]at w;cases w;exact .nil|cons n ns ih=>intro vs w;rw[ao9]at w;cases w with|cons a b=>cases a;exact .cons _ _ (ih _ b)
def aar{l:OpenLaw}{n:Nat}(t:l.most=some n){P:Params}{h:Heap}{args:List WData}{c:List Value}(e:l.row.toRowW.claim.pre args=true)(j:WellAll P h c args):∃a o b,c=[Value.ref a]/\args=[WData.list (b.map WData.int)]/\h.get? a=some {cls:=.type "list",data:=.seq o.toArray}/\IntsAre o b/\b.length<=n:=by
 have k:WShape.hasAll [] args [.list .int]=true:=(pre_splitW e).1;have m:l.pre.holds [] {args:=args}=true:=(pre_splitW e).2;obtain⟨d,r,rfl,v,p⟩:=hasAllW_cons k;obtain rfl:=hasAllW_nil p;obtain⟨w,rfl,u⟩:=hasW_list v;obtain⟨b,rfl⟩:=items_int u;have f:b.length<=n:=by
  unfold OpenLaw.pre at m;have g:(WTm.not (.lt (.lit (.int (n:Int))) (.len (.arg 0)))).holds [] {args:=[.list (b.map .int)]}=true:=by have g:=(holds_andW m).1;rw[t]at g;exact g
  have i:=condW_of g (w_not (w_lt w_lit (w_len_list (w_arg rfl))));rw[apk]at i;refine asq λq=>?_;have s:(n:Int)<((b.length:Nat):Int):=by omega
  first|(rw[apO s]at i;exact absurd i (by decide))|(simp at i;omega)
 cases j with|cons w1 w2=>cases w2;cases w1 with|list ho hall=>exact⟨_,_,b,rfl,rfl,ho,mV b _ hall,f⟩
def aaR(l:OpenLaw)(args:List WData):l.row.toRowW.claim.post args (.bool true) args=true:=postW_of (r:=l.row.toRowW) (X:=(true==true)) (show WShape.has [] (.bool true) .bool=true by first|rfl|decide|simp[WShape.has,WShape.arms,WShape.armsAll]) (show(WTm.eq .res (.lit (.bool true))).value [] {args:=args,res:=some (.bool true),after:=args}=some (.bool (true==true))from w_eq_bool (w_res rfl) w_lit) rfl
def vz{l:OpenLaw}{n:Nat}{q:Program}{c:List Str}{E:(Str->Option Value)->Heap->Prop}{K:World->Heap->Prop}{d:DefRec}(U:l.most=some n)(y:d.params.defaults=[])(call:∀(w:World)(e b:Shared)(t C:Str->Option Value)(j:Addr)(o:Obj)(B u g:Value)(a:Addr)(i:List Value)(v:List Int),Ground q c [] E w e t C b.heap->K w b.heap->b.heap.get? j=some o->o.data=.func (docDef d.name d.params d.body d.scope B u g)->b.heap.CodeRec u d.name->t d.name=some (.ref j)->b.heap.get? a=some {cls:=.type "list",data:=.seq i.toArray}->IntsAre i v->v.length<=n->b.gens=#[]->codeAny (model l.prog w) callerA (.call (.ref j) ⟨[.ref a],[]⟩) (λr s=>r=.ok (.ret (.bool true))/\OldK b.heap s.heap/\s.os=b.os/\AllBare s.gens) b):WalkO q c E K l.row.toRowW d [] (λf i=>PySem.call f i):=by intro w e b t C G Y j o B u g T kV N X A J x S I H as k D O z a0;obtain rfl:T=.none:=Dflts.none J y;obtain rfl:kV=.none:=Dflts.noKw J;obtain⟨a,i,v,rfl,rfl,m,h,p⟩:=aar U k z;refine enter_call (aq3 (call w e b t C j o B u g a i v G Y N (fd_plain X) A x m h p S) λr s P=>?_);obtain⟨rfl,M,Q,Z⟩:=P;exact⟨.inl ⟨.bool true,.bool true,[],rfl,λ_=>rfl,.bool true,aaR l _,λ_=>⟨List.Pairwise.nil,λ_ R=>(nomatch R)⟩⟩,M,Q,Z⟩
end Att
namespace L2
open PySem PySem.Spec PyProof.Rows
theorem qr:∀{vs:List Value}{ns:List Int},IntsAre vs ns->Vals (ns.map V.int) vs|_,_,.nil=>.nil|_,_,.cons n t h=>.cons ⟨t,rfl⟩ (qr h)
def anG(H:Hp):Prop:=∀b,H b=none\/∃o a,H b=some (.frz o (.lst a))
def aem{P:Program}{w:World}{K:W.Frag}{D S:Str->Option Value}{CX:CXT}{k:Nat}{X a:Addr}{fd:FuncData}{x:Str}{sp:Sp}{c:Shared}{vs:List Value}{ns:List Int}(KX:K.In c.heap)(G:c.heap.Ns mainGlobals D)(g:c.heap.Ns builtinsNs S)(U:∀x:Str,x≠"__name__"->S x=bootBuiltins x)(E:c.heap.NoLimit)(hg:c.gens=#[])(O:c.heap.get? a=some {cls:=.type "list",data:=.seq vs.toArray})(hi:IntsAre vs ns)(hl:ns.length<=sizeLine)(hr:Room k callerA)(F:∀i:Heap,K.In i->i.Ns mainGlobals D->FnOk P w K D i CX k X fd [x] sp)(t:∀(s:Shared)(u:Value),BindsTo s fd ⟨[u],[]⟩ [(x,u)])(T:∀H:Hp,anG H->SqL K H a (ns.map V.int)->sp [.ref a] H (λv _=>v=.bl true) λ_ _ _=>False)(Y:∀H e j,CX [] H c (λ_ _ _=>False) e j->False):codeAny (model P w) callerA (.call (.ref X) ⟨[.ref a],[]⟩) (λr j=>r=.ok (.ret (.bool true))/\OldK c.heap j.heap/\j.os=c.os/\AllBare j.gens) c:=by
 have rv:=qr hi;have y:=hi.length;-- from an abstract heap in which nothing but the script may be tracked
 have p:∀H:Hp,anG H->SqL K H a (ns.map V.int)->HOk P w H c.heap->(∀b,H b≠none->b=a)->(H a≠none->K.lookup a=none)->codeAny (model P w) callerA (.call (.ref X) ⟨[.ref a],[]⟩) (λr j=>r=.ok (.ret (.bool true))/\OldK c.heap j.heap/\j.os=c.os/\AllBare j.gens) c:=by
  intro H hO hS N hA hK;have f:∀{b:Addr}{o:Obj},c.heap.get? b=some o->H b=none->(aey c.heap H).get? b=some o:=λe n=>aex e n;have Z:∀{b:Addr}{o:Obj}{J:Array DictEntry}{B:Nat},c.heap.get? b=some o->o.data=.dict J B->H b=none:=λ{b o J B}e d=>by cases q:H b with|none=>rfl|some u=>have R:b=a:=hA b (by rw[q];simp);subst R;rw[O]at e;cases e;have d':Data.seq vs.toArray _=Data.dict J B:=d;cases d'
  have l:∀{b:Addr}{m:Str->Option Value},c.heap.Ns b m->(aey c.heap H).Ns b m:=λ{b m}⟨o,J,B,e,d,r⟩=>⟨o,J,B,f e (Z e d),d,r⟩;have M:K.In (aey c.heap H):=λb o e=>f (KX b o e) (by cases q:H b with|none=>rfl|some u=>have R:b=a:=hA b (by rw[q];simp);subst R;rw[hK (by rw[q];simp)]at e;cases e);have hM:Mod K D (aey c.heap H):=⟨M,l G,⟨S,l g,U⟩,let⟨mc,h1,h2⟩:=E;⟨mc,l h1,h2⟩⟩;have e0:Env0 P w K D (aey c.heap H) callerA [] c H:=⟨rfl,hM,λb o e=>ag5 e,aq1 (abP _ _),trivial,λb g=>absurd (show b∈([]:List Addr)from g) (by simp),N,.of_eq hg⟩;refine aq3 ((F _ M (l G)).run callerA [] c H ⟨[.ref a],[]⟩ [.ref a] [.ref a] _ _ hr trivial e0 (t c (.ref a)) (.cons rfl .nil) (T H hO hS)) λr j h=>?_;cases r with|error e=>exact(Y H e j h).elim|ok fl=>cases fl with|next=>exact False.elim h|brk=>exact False.elim h|cont=>exact False.elim h|ret u=>obtain⟨v,H',os,I,un,C,r',q⟩:=h;have q':v=.bl true:=q;subst q';obtain rfl:u=Value.bool true:=r';refine⟨rfl,OldK.of_keep λb o e=>?_,os,I⟩;cases q:H b with|none=>exact un.keep b o e q (by intro z;exact absurd (show b∈([]:List Addr)from z) (by simp)) (by simp)|some u=>
     rcases hO b with z|⟨ob,xs,z⟩;·rw[q]at z;cases z
     ·have z2:=un.frzs b ob _ z;obtain⟨e1,_⟩:=N b _ z;obtain⟨e2,_⟩:=C b _ z2;rw[e]at e1;cases e1;exact e2
 cases Q:K.lookup a with|some o=>-- the script is one of the module's own objects
 have e:=KX a o Q;rw[O]at e;cases e;refine p (λ_=>none) (λ_=>.inl rfl) (.inr ⟨_,vs.toArray,_,Q,rfl,rfl,rfl,by rw[aps,y];exact hl,by simpa using rv⟩) (λb u z=>by have A:(none:Option HO)=some u:=z;cases A) (λb z=>absurd rfl z) λz=>absurd rfl z|none=>
  refine p (λb=>if b=a then some (.frz {cls:=.type "list",data:=.seq vs.toArray} (.lst (ns.map V.int)))else none) (λb=>?_) (.inl (.inr ⟨{cls:=.type "list",data:=.seq vs.toArray},ao1 rfl⟩)) (λb u z=>?_) (λb z=>?_) λ_=>Q
  ·by_cases g:b=a;·exact .inr ⟨_,_,ao1 g⟩
   ·exact .inl (ao2 g)
  ·by_cases g:b=a;·have A:=(ao1 g).symm.trans z;cases A;subst g;exact⟨O,by rw[apk];exact hl,vs,_,rv,O⟩
   ·have A:=(ao2 g).symm.trans z;cases A
  ·by_cases g:b=a;·exact g
   ·exact absurd (ao2 g) z
def agd{l:W.OpenLaw}{n k:Nat}{q:Program}{g:List Str}{P:(Str->Option Value)->Heap->Prop}{N:World->Heap->Prop}{d:DefRec}{K:Params->W.Frag}{CX:World->CXT}{sp:World->Sp}{x:Str}(Z:l.most=some n)(D:n<=sizeLine)(C:d.params.defaults=[])(U:Room k callerA)(X:∀(w:World)(h:Heap),N w h->(K w.params).In h)(F:∀(w:World)(j:Str->Option Value)(r:Addr)(h:Heap),(K w.params).In h->h.Ns mainGlobals j->j d.name=some (.ref r)->∃A:FuncData,(∀(s:Shared)(u:Value),BindsTo s A ⟨[u],[]⟩ [(x,u)])/\∀b:Heap,(K w.params).In b->b.Ns mainGlobals j->FnOk l.prog w (K w.params) j b (CX w) k r A [x] (sp w))(B:∀(w:World)(H:Hp)(a:Addr)(t:List Int),t.length<=n->anG H->SqL (K w.params) H a (t.map V.int)->sp w [.ref a] H (λv _=>v=.bl true) λ_ _ _=>False)(E:∀(w:World)(H:Hp)(s:Shared)(e:Value)(y:Shared),CX w [] H s (λ_ _ _=>False) e y->False):W.WalkO q g P N l.row.toRowW d [] (λf M=>PySem.call f M):=by refine Att.vz Z C λw I m j mb r o pm cd O a M t G Y ho hd S z p i c Q=>?_;have J:=X w _ Y;obtain⟨A,hb,hF⟩:=F w j r _ J G.T.g z;exact aem J G.T.g G.T.b G.T.builtins G.T.nolimit Q p i (apc c D) U hF hb (λH T R=>B w H a t c T R) λH e y=>E w H m e y
noncomputable def bu(s:Stmt):Arguments:=match s with|.FunctionDef _ a _ _ _ _ _ _ _ _=>a|_=>{posonlyargs:=[],args:=[],vararg:=none,kwonlyargs:=[],kw_defaults:=[],kwarg:=none,defaults:=[]}
noncomputable def aH(s:Stmt):List Stmt:=match s with|.FunctionDef _ _ b _ _ _ _ _ _ _=>b|_=>[]
noncomputable def af(s:Stmt):Scope:=match s with|.FunctionDef _ _ _ _ _ _ sc _ _ _=>sc|_=>{kind:=.function,names:=[],isGenerator:=false,isCoroutine:=false}
abbrev CX0:CXT:=λ_ _ _ _ _ _=>False
abbrev E0:XK:=λ_ _ _=>False
def ajE{X:Cx}:Passes CX0 X E0:=λ_ _ _ _ _ _ _ h=>h.elim
structure Fun(K:W.Frag)(x qual:Str)(st:Stmt)(f:Addr)(fd:FuncData):Prop where
 ex:∃(oc:Value)(od:Option Addr)(kV doc pm:Value)(an:Option Addr)(cdv ct:Value)(osl:Array (Option Value)),fd=W.fnOf x qual (bu st) (aH st) (af st) .none kV doc pm an cdv ct/\K.lookup f=some ⟨oc,od,.func fd,osl⟩/\W.codeIn K cdv qual=true
 kp:W.keepIn K (.ref f)=true
section
variable{P:Program}{w:World}{K:W.Frag}{mg:Str->Option Value}{base:Heap}
def Fun.ok{x b:Str}{st:Stmt}{f:Addr}{j:FuncData}{N ps:List Str}{k:Nat}{sp:Sp}(F:Fun K x b st f j)(S:FnScope N ps (af st))(len:∀e H Q E,sp e H Q E->e.length=ps.length)(d:∀(c:Value)(A:Around)(a:List Env)(s:Shared)(H:Hp)(e:List V)(Q:VK)(E:XK),Room k (A.deeper (envOfC b (af st) s.heap.objs.size f c))->sp e H Q E->∃t,PSs (ff CX0 P w K mg base N b (af st) f c A a s H E).nox (aH st) t/\t {nx:=λ_ l=>Q .non l,rt:=Q} (start N e) H):FnOk P w K mg base CX0 (k+1) f j ps sp:=by obtain⟨r,od,kV,m,u,v,c,ct,n,rfl,p,i⟩:=F.ex;refine u1 p i S len λA a s H e Q E o _ g=>?_;obtain⟨t,h,q⟩:=d c A a s H e Q E o g;exact⟨t,h.nox,q⟩
def Fun.binds{x a:Str}{st:Stmt}{f:Addr}{i:FuncData}{ps:List Str}(F:Fun K x a st f i)(h:∀(kV b e:Value)(g:Option Addr)(c ct:Value)(d:List Value),d.length=ps.length->bindArgs (W.fnOf x a (bu st) (aH st) (af st) .none kV b e g c ct) ⟨d,[]⟩=pure (ps.zip d)):Binds K i ps []:=by obtain⟨l,od,kV,b,e,g,c,ct,k,rfl,m,j⟩:=F.ex;exact .all (h kV b e g c ct)
def abV{x a:Str}{st:Stmt}{f:Addr}{i:Value}{od h:Option Addr}{e:Array (Option Value)}{kV d g b ct:Value}(l:K.lookup f=some ⟨i,od,.func (W.fnOf x a (bu st) (aH st) (af st) .none kV d g h b ct),e⟩)(c:W.codeIn K b a=true)(k:W.keepIn K (.ref f)=true):Fun K x a st f (W.fnOf x a (bu st) (aH st) (af st) .none kV d g h b ct):=⟨⟨i,od,kV,d,g,h,b,ct,e,rfl,l,c⟩,k⟩
end
section
variable{X:Cx}
def pv(i:Nat){x:Str}{pos:Pos}(b:X.N[i]?=some x:=by rfl)(c:Vis X.env.scope x:=by first|exact Or.inl rfl|exact Or.inr (Or.inl rfl)|exact Or.inr (Or.inr rfl))(d:(x==("__debug__":Str))=false:=by decide)(a:(x==("__classdict__":Str))=false:=by decide):PE X (.Name x pos) (fj i):=ajw b c d a
end
def ar(H H':Hp):Prop:=∀b o,H b=some o->H' b=some o
def ar.refl(H:Hp):ar H H:=λ_ _ h=>h
def ar.trans{H e d:Hp}(a:ar H e)(b:ar e d):ar H d:=λc o h=>b c o (a c o h)
def ar.free{H H':Hp}(e:ar H H'){l:Addr}(h:H' l=Option.none):H l=Option.none:=by cases q:H l with|none=>rfl|some o=>rw[e l o q]at h;cases h
def ar.seq{K:W.Frag}{H H':Hp}{a:Addr}{xs:List V}(e:ar H H')(h:SqL K H a xs):SqL K H' a xs:=by
 rcases h with(h|⟨o,h⟩)|h;·exact .inl (.inl (e _ _ h))
 ·exact .inl (.inr ⟨o,e _ _ h⟩)
 ·exact .inr h
end L2
set_option maxHeartbeats 4000000
namespace FM
noncomputable def nx(x:Int):Int:=if x=200 then -200 else x+1
noncomputable def xk(x:Int):Nat->Int|0=>x|k+1=>nx (xk x k)
abbrev S3:=Int×Int×Int
noncomputable def tq(p:S3):S3:=(-p.2.1,p.1,(p.2.2+1)%4)
noncomputable def tqn:Nat->S3->S3|0,p=>p|n+1,p=>tq (tqn n p)
noncomputable def lt(q:Int)(p:S3):S3:=let r:=q%4;if r=0 then(p.1,p.2.1,(p.2.2+q)%4)else if r=1 then(0-p.2.1,p.1,(p.2.2+q)%4)else if r=2 then(0-p.1,0-p.2.1,(p.2.2+q)%4)else(p.2.1,0-p.1,(p.2.2+q)%4)
def Good(p:S3):Prop:=-200<=p.1/\p.1<=200/\-200<=p.2.1/\p.2.1<=200/\0<=p.2.2/\p.2.2<4
def tY(a b:Nat)(p:S3):tqn a (tqn b p)=tqn (a+b) p:=by induction a with|zero=>rw[Nat.zero_add];rfl|succ a ih=>rw[Nat.succ_add];simp only[tqn,ih]
def aov(p:S3)(h:Good p):tqn 4 p=p:=by obtain⟨x,y,f⟩:=p;obtain⟨_,_,_,_,a,b⟩:=h;have d:0<=f:=a;have c:f<4:=b;simp[tqn,tq];omega
def agj(p:S3)(h:Good p):Good (tq p):=by obtain⟨x,y,f⟩:=p;obtain⟨a,b,c,d,e,g⟩:=h;simp only[Good,tq]at *;omega
def ado(n:Nat)(p:S3)(h:Good p):Good (tqn n p):=by induction n with|zero=>exact h|succ n ih=>exact agj _ ih
theorem mJ{f:S3->S3}:∀(l:List S3),(∀p∈l,f p=p)->l.map f=l|[],_=>rfl|p::l,h=>by rw[ao9,h p apn,mJ l λq a=>h q (apG _ a)]
theorem gB{f g:S3->S3}:∀(l:List S3),(∀p∈l,f p=g p)->l.map f=l.map g|[],_=>rfl|p::l,h=>by rw[ao9,ao9,h p apn,gB l λq a=>h q (apG _ a)]
abbrev S3B:=Int×Int×Int
noncomputable def lx:List Int->List Int->Bool|[],[]=>false|[],_::_=>true|_::_,[]=>false|x::xs,y::ys=>if x=y then lx xs ys else decide (x<y)
theorem abo:∀a:List Int,lx a a=false|[]=>rfl|x::xs=>by simp only[lx,apU];exact abo xs
theorem afu:∀a b:List Int,lx a b=false->lx b a=false->a=b
|[],[],_,_=>rfl|[],_::_,h,_=>by simp[lx]at h|_::_,[],_,h=>by simp[lx]at h|x::xs,y::ys,h1,h2=>by
 simp only[lx]at h1 h2;by_cases e:x=y;·subst e;simp only[apU]at h1 h2;rw[afu xs ys h1 h2]
 ·have c:¬y=x:=λz=>e z.symm;simp only[e,c,apN,decide_eq_false_iff_not]at h1 h2;omega
theorem wX:∀a b c:List Int,lx a b=true->lx b c=true->lx a c=true
|[],[],_,h,_=>by simp[lx]at h|[],_::_,[],_,h=>by simp[lx]at h|[],_::_,_::_,_,_=>rfl|_::_,[],_,h,_=>by simp[lx]at h|_::_,_::_,[],_,h=>by simp[lx]at h|x::xs,y::ys,z::zs,h1,h2=>by
  simp only[lx]at h1 h2⊢;by_cases e:x=y
  ·subst e;simp only[apU]at h1;by_cases d:x=z;·subst d;simp only[apU]at h2⊢;exact wX xs ys zs h1 h2
   ·simp only[d,apN]at h2⊢;exact h2
  ·simp only[e,apN,apz]at h1;by_cases d:y=z;·subst d;simp only[e,apN,apz];exact h1
   ·simp only[d,apN,apz]at h2;have f:¬x=z:=by omega
    simp only[f,apN,apz];omega
noncomputable def flat:List S3B->List Int|[]=>[]|p::l=>p.1::p.2.1::p.2.2::flat l
theorem xu:∀f g:List S3B,flat f=flat g->f=g|[],[],_=>rfl|[],_::_,h=>by simp[flat]at h|_::_,[],h=>by simp[flat]at h|p::f,q::g,h=>by obtain⟨a,b,c⟩:=p;obtain⟨d,e,k⟩:=q;simp only[flat,arE]at h;obtain⟨i,j,m,l⟩:=h;subst i j m;rw[xu f g l]
noncomputable def pick(fs:Nat->List S3B):Nat->List S3B|0=>fs 0|k+1=>if lx (flat (fs (k+1))) (flat (pick fs k))=true then fs (k+1)else pick fs k
theorem kZ(fs:Nat->List S3B):∀k,∃i,i<=k/\pick fs k=fs i
|0=>⟨0,ao6 _,rfl⟩|k+1=>by
 simp only[pick];split;·exact⟨k+1,ao6 _,rfl⟩
 ·obtain⟨i,a,e⟩:=kZ fs k;exact⟨i,by omega,e⟩
theorem pE(fs:Nat->List S3B):∀k i,i<=k->lx (flat (fs i)) (flat (pick fs k))=false
|0,i,hi=>by
  have:i=0:=by omega
  subst this;exact abo _|k+1,i,hi=>by
  simp only[pick];split
  ·rename_i a;by_cases e:i=k+1;·subst e;exact abo _
   ·cases q:lx (flat (fs i)) (flat (fs (k+1)))with|false=>rfl|true=>have z:=wX _ _ _ q a;rw[pE fs k i (by omega)]at z;cases z
  ·rename_i a;by_cases e:i=k+1;·subst e;simpa using a
   ·exact pE fs k i (by omega)
def aaU{fs c:Nat->List S3B}{k:Nat}(p:∀i,i<=k->∃j,j<=k/\fs i=c j)(h:∀i,i<=k->∃j,j<=k/\c i=fs j):pick fs k=pick c k:=by obtain⟨i,r,m⟩:=kZ fs k;obtain⟨j,n,q⟩:=kZ c k;obtain⟨l,d,e⟩:=p i r;obtain⟨o,g,f⟩:=h j n;have a:=pE fs k o g;have b:=pE c k l d;rw[<-f,<-q]at a;rw[<-e,<-m]at b;exact xu _ _ (afu _ _ b a)
noncomputable def best(a:Nat->Nat->Bool):Nat->Nat|0=>0|k+1=>if a (k+1) (best a k)then k+1 else best a k
theorem vw(a:Nat->Nat->Bool):∀k,best a k<=k|0=>ao6 _|k+1=>by simp only[best];have:=vw a k;split<;>omega
theorem q3{fs:Nat->List S3B}{a:Nat->Nat->Bool}{n:Nat}(h:∀i j,i<=n->j<=n->a i j=lx (flat (fs i)) (flat (fs j))):∀k,k<=n->pick fs k=fs (best a k)|0,_=>rfl|k+1,hk=>by have b:=q3 h k (by omega);have c:=vw a k;simp only[pick,best,b,h (k+1) (best a k) hk (by omega)];split<;>rfl
def agi{f:List S3B}(a:∀p∈f,Good p):∀k:Nat,f.map (tqn k)=f.map (tqn (k%4)):=by
 intro k;apply gB;intro p b;have e:k=k%4+4*(k/4):=by omega
 have all:∀j,tqn (4*j) p=p:=by intro j;induction j with|zero=>rfl|succ j ih=>rw[Nat.mul_succ,Nat.add_comm,<-tY,ih,aov p (a p b)]
 have z:tqn (k%4) (tqn (4*(k/4)) p)=tqn k p:=by rw[tY,<-e]
 rw[<-z,all]
def uZ{f:List S3B}(a:∀p∈f,Good p)(q:Nat)(c:q<=3):pick (λi=>(f.map (tqn q)).map (tqn i)) 3=pick (λi=>f.map (tqn i)) 3:=by
 have e:∀i,(f.map (tqn q)).map (tqn i)=f.map (tqn ((i+q)%4)):=λi=>by rw[aqo,<-agi a (i+q)];apply gB;intro p _;exact tY i q p
 refine aaU (λi b=>⟨(i+q)%4,by omega,e i⟩) (λi b=>⟨(i+(4-q))%4,by omega,?_⟩);rw[e];congr 2;omega
end FM
set_option autoImplicit true
set_option relaxedAutoImplicit true
namespace L2
open PySem PySem.Spec PyProof.Rows
noncomputable def cM(a:List (Str×Addr)):List (Str×NameKind)->List (Str×Addr)->List (Str×Addr)|[],acc=>acc|(n,k)::r,acc=>if k==.free then(match a.lookup n with|some c=>cM a r ((n,c)::acc)|none=>cM a r acc)else cM a r acc
def jc (h:∀y∈scope.names,y.2=.free->(env.cells.lookup y.1).isSome=true):closureFor scope env=pure (cM env.cells scope.names []):=by
 have all:∀(a:List (Str×NameKind))(b:List (Str×Addr)),(∀y∈a,y.2=.free->(env.cells.lookup y.1).isSome=true)->(forIn a b λ(x:Str×NameKind)(r:List (Str×Addr))=>(match x with|(name,kind)=>if(kind==NameKind.free)=true then do let c <-cellOf env name;pure (ForInStep.yield ((name,c)::r))else pure (ForInStep.yield r):Sem (ForInStep (List (Str×Addr)))))=(pure (cM env.cells a b):Sem (List (Str×Addr))):=by intro a;induction a with|nil=>intro b _;rfl|cons y r ih=>
   intro b l;obtain⟨n,k⟩:=y;rw[List.forIn_cons];have i:=λd=>ih d λz m=>l z (apG _ m);by_cases g:(k==NameKind.free)=true
   ·have f:k=.free:=by simpa using g
    obtain⟨c,j⟩:=aqz.mp (l (n,k) apn f);have o:cellOf env n=pure c:=by unfold cellOf;rw[j]
    simp only[cM,g,apU,j];rw[o];simpa using i ((n,c)::b)
   ·simp only[cM,g,apN];simpa using i b
 have e:=all scope.names [] h;unfold closureFor;first|(simpa using e)|(rw[e];rfl)|exact e
theorem cw :∀(b:List (Str×NameKind))(a:List (Str×Addr)),(cM cells b a).lookup x=some c->a.lookup x=some c\/cells.lookup x=some c
|[],a,h=>.inl h|(n,k)::r,a,h=>by
  unfold cM at h;split at h;·cases e:cells.lookup n with|none=>rw[e]at h;exact cw r a h|some d=>
    rw[e]at h;rcases cw r _ h with q|q
    ·rw[ap0]at q;split at q
     ·rename_i g;have f:x=n:=by simpa using g
      cases q;exact .inr (by rw[f];exact e)
     ·exact .inl q
    ·exact .inr q
  ·exact cw r a h
theorem fR :∀(b:List (Str×NameKind))(a:List (Str×Addr)),(a.lookup x).isSome=true->((cM cells b a).lookup x).isSome=true
|[],a,h=>h|(n,k)::r,a,h=>by
 unfold cM;split;·cases e:cells.lookup n with|none=>exact fR r a h|some d=>
  refine fR r _ ?_;rw[ap0];split;·rfl
  ·exact h
 ·exact fR r a h
theorem g9 :∀(a:List (Str×NameKind))(b:List (Str×Addr)),(x,NameKind.free)∈a->(cells.lookup x).isSome=true->((cM cells a b).lookup x).isSome=true
|(n,k)::r,b,g,f=>by
 rcases apl.mp g with e|g;·cases e;obtain⟨c,f⟩:=aqz.mp f;unfold cM;simp only[arq,apU,f];refine fR r _ ?_;rw[ap0];simp
 ·unfold cM;split;·cases e:cells.lookup n with|none=>exact g9 r b g f|some d=>exact g9 r _ g f
  ·exact g9 r b g f
theorem bP{a:Env}{x:Str}:∀{b:List (Str×NameKind)}{k:NameKind},(b.map λ(n,k)=>if(k==NameKind.free&&a.scope.kind==.function&&a.kindOf n==some .cell)then(n,NameKind.cell)else(n,k)).lookup x=some k->b.lookup x=some k\/(k=.cell/\b.lookup x=some .free)
|[],_,h=>by simp at h|(n,k0)::r,k,h=>by
  have g:=@bP a x r k;have c:List.lookup x ((if(k0==NameKind.free&&a.scope.kind==.function&&a.kindOf n==some .cell)=true then(n,NameKind.cell)else(n,k0))::(r.map λ(n,k)=>if(k==NameKind.free&&a.scope.kind==.function&&a.kindOf n==some .cell)then(n,NameKind.cell)else(n,k)))=some k:=h
  cases e:x==n with|true=>
   rw[ap0,e];by_cases d:(k0==NameKind.free&&a.scope.kind==.function&&a.kindOf n==some .cell)=true
   ·rw[ao1 d,ap0,e]at c;have f:k0=.free:=by simp only[apg]at d;simpa using d.1.1
    cases c;exact .inr ⟨rfl,by rw[f]⟩
   ·rw[ao2 d,ap0,e]at c;exact .inl c|false=>
   rw[ap0,e];by_cases d:(k0==NameKind.free&&a.scope.kind==.function&&a.kindOf n==some .cell)=true;·rw[ao1 d,ap0,e]at c;exact g c
   ·rw[ao2 d,ap0,e]at c;exact g c
section
variable{X:Cx}{pins:List (Addr×Obj)}{σ:St}{H:Hp}{s:Shared}
def HOk.z7{P:Program}{w:World}{h:Heap}{a:Addr}{o:HO}(x:HOk P w H h)(d:H a=none)(new:bO P w (upd H a o) h a o):HOk P w (upd H a o) h:=λb u e=>by
 by_cases f:b=a;·subst f;rw[ao]at e;cases e;exact new
 ·rw[ag f]at e;exact(x b u e).vT (λc v _ q=>q) (λc q=>by rw[ag (aM q d)];exact q) λc g q=>by rw[ag (aM q d)];exact q
theorem Inv.z7 (I:Inv X pins σ H s)(hn:H a=none)(ha:X.s₀.heap.objs.size<=a)(hL:a≠X.env.locals)(hc:∀x c,X.env.cells.lookup x=some c->c≠a)(hp:∀p∈X.pn++pins,p.1≠a)(new:bO X.prog X.w (upd H a o) s.heap a o):Inv X pins σ (upd H a o) s where
 ok:=I.ok;os:=I.os;bare:=I.bare;base:=⟨I.base.keep,I.base.slot,λb u q n hx=>by rw[ag (apm (apa (apb q) ha))];exact I.base.free b u q n hx,I.base.there,λb xs q=>by have z:=I.base.tups b xs q;rw[ag (aM z hn)];exact z,λb u v q=>by have z:=I.base.frzs b u v q;rw[ag (aM z hn)];exact z,λb ps q=>by obtain⟨more,z⟩:=I.base.tbls b ps q;exact⟨more,by rw[ag (aM z hn)];exact z⟩⟩;loc:=I.loc;cell:=I.cell;free:=by rw[ag (ape hL)];exact I.free
 freeC:=λx c e=>by rw[ag (hc x c e)];exact I.freeC x c e
 pin:=λp hp'=>by obtain⟨e,n,r⟩:=I.pin p hp';exact⟨e,by rw[ag (hp p hp')];exact n,r⟩
 hok:=I.hok.z7 hn new;len:=I.len
end
abbrev Cx.tri(X:Cx)(E:Value->Shared->Prop)(pn:List (Addr×Obj)):Cx:={X with xe:=E,pn:=pn}
theorem Cx.Ok.tri{X:Cx}(ok:X.Ok)(E:Value->Shared->Prop)(a:List (Addr×Obj)):(X.tri E a).Ok:=⟨ok.mod,ok.kind,ok.glob,ok.blt,ok.above,ok.inj,ok.has,ok.cab,ok.hd,ok.frames,ok.stk,ok.exf,ok.bs,ok.bsz,ok.noex,ok.exfs,ok.ql,ok.frf⟩
section
variable{X:Cx}{pins:List (Addr×Obj)}{σ:St}{H:Hp}{s:Shared}
theorem Inv.tri(I:Inv X pins σ H s)(E:Value->Shared->Prop):Inv (X.tri E (X.pn++pins)) [] σ H s:=⟨I.ok.tri E _,I.os,I.bare,I.base,I.loc,I.cell,I.free,I.freeC,λp a=>I.pin p (by simpa using a),I.hok,I.len⟩
end
noncomputable def hd1(y:Str):Str:=⟨y.cps.push 32⟩
def hid(scope:Scope)(y:Str):Str:=match scope.names.lookup y with|some .local=>hd1 y|_=>y
def akz (h:hid scope y=x):(x=hd1 y/\scope.names.lookup y=some .local)\/(x=y/\scope.names.lookup y≠some .local):=by
 unfold hid at h;split at h;·rename_i e;exact .inl ⟨h.symm,e⟩
 ·rename_i e;exact .inr ⟨h.symm,e⟩
abbrev Cx.comp(X:Cx)(scope:Scope)(C:Addr)(ts:List Str)(a:Shared)(b:Hp)(c:List Addr):Cx:={X with N:=ts++X.N.map (hid scope),s₀:=a,H₀:=b,env:=compEnvC scope (cM X.env.cells scope.names []) C X.env,outer:=X.stack,stack:=X.stack,ex:=c,fn:=λ_=>false,pn:=[],xe:=λ_ _=>False}
structure CompLook(X:Cx)(scope:Scope):Prop where
 kind:scope.kind=.function
 nocell:(scope.names.all λy=>y.2!=.cell)=true
 names:(scope.names.all λy=>y.2!=.local||scope.names.lookup y.1==some .local)=true
 free:(scope.names.all λy=>y.2!=.free||X.env.scope.names.lookup y.1==some .cell||X.env.scope.names.lookup y.1==some .free)=true
 apart:(scope.names.all λy=>(scope.names.lookup (hd1 y.1)).isNone)=true
structure CompScope(X:Cx)(scope:Scope)(ts:List Str):Prop where
 kind:scope.kind=.function
 nocell:∀y∈scope.names,y.2≠.cell
 names:∀y∈scope.names,y.2=.local->scope.names.lookup y.1=some .local
 free:∀y∈scope.names,y.2=.free->X.env.scope.names.lookup y.1=some .cell\/X.env.scope.names.lookup y.1=some .free
 apart:∀y∈scope.names,scope.names.lookup (hd1 y.1)=none
theorem CompLook.scope{X:Cx}{scope:Scope}{ts:List Str}(L:CompLook X scope):CompScope X scope ts where
 kind:=L.kind;nocell:=λy hy=>by simpa using apC.mp L.nocell y hy
 names:=λy hy e=>by have h:=apC.mp L.names y hy;rw[e]at h;simpa using h
 free:=λy hy e=>by have h:=apC.mp L.free y hy;rw[e]at h;simpa using h
 apart:=λy hy=>by simpa using apC.mp L.apart y hy
noncomputable def abd:List Str->Bool|[]=>true|x::r=>!(r.any λy=>decide (y=x))&&abd r
theorem wR:∀{N:List Str},abd N=true->N.Nodup|[],_=>List.nodup_nil|x::r,h=>by simp only[abd,apg,ar5,List.any_eq_false,apz]at h;exact aqd.mpr ⟨λa=>h.1 x a rfl,wR h.2⟩
section
variable{X:Cx}{pins:List (Addr×Obj)}{σ:St}{H:Hp}{s:Shared}
def vn{scope:Scope}{ts:List Str}{C:Addr}{fp:List Addr}(S:CompScope X scope ts)(I:Inv X pins σ H s)(hf:∀b∈fp,xQ X pins H b)(hfl:∀b∈fp,b<s.heap.objs.size)(hC:s.heap.objs.size<=C):(X.comp scope C ts s H fp).Ok where
 mod:=I.ok.mod;kind:=S.kind;glob:=I.ok.glob;blt:=I.ok.blt;above:=hC;inj:=λx y c e1 e2=>by have q1:=(cw scope.names [] e1).resolve_left (by simp);have q2:=(cw scope.names [] e2).resolve_left (by simp);exact I.ok.inj x y c q1 q2
 has:=λx hx=>by
  have hx':scope.names.lookup x=some .free:=by
   rcases hx with hx|hx
   ·rcases bP hx with q|⟨_,q⟩;·exact absurd rfl (S.nocell _ (apM q))
    ·exact q
   ·rcases bP hx with q|⟨q,_⟩;·exact q
    ·cases q
  have hm:=apM hx';obtain⟨c,hc⟩:=I.ok.has x (S.free _ hm rfl);exact aqz.mp (g9 scope.names [] hm (by rw[hc];rfl))
 cab:=λx c h _=>by cases h
 hd:=I.ok.hd;frames:=I.ok.frames;stk:=.inl rfl;exf:=λb hb=>⟨apm (apa (hfl b hb) hC),λx c e=>by have q:=(cw scope.names [] e).resolve_left (by simp);exact(hf b hb).2.2.2.2.1 x c q⟩;bs:=I.bs;bsz:=apc I.ok.bsz I.sz;noex:=λb o e hb=>by
  rcases(hf b hb).2.2.2.1 with z|z;·exact I.ok.noex b o e z
  ·exact absurd (apa (apb e) (apc I.ok.bsz z)) (ap7 _)
 exfs:=λb hb z=>by
  rcases apl.mp (I.vS b z)with e|e;·exact(hf b hb).2.1 e
  ·exact(hf b hb).2.2.1 e
 ql:=I.stack;frf:=I.t7
def zb{scope:Scope}{ts:List Str}{C:Addr}{fp:List Addr}{s4:Shared}(S:CompScope X scope ts)(I:Inv X pins σ H s)(hf:∀b∈fp,xQ X pins H b)(hfl:∀b∈fp,b<s.heap.objs.size)(hC:s.heap.objs.size<=C)(ho:s4.os=s.os)(hg:s4.gens=s.gens)(hk:∀b o,s.heap.get? b=some o->s4.heap.get? b=some o){m:Str->Option Value}(hn:s4.heap.Ns C m):Inv (X.comp scope C ts s H fp) [] (List.replicate ts.length none++σ) H s4 where
 ok:=vn S I hf hfl hC;os:=ho;bare:=by rw[hg];exact I.bare
 base:=Un.kept hk;loc:=⟨m,hn,λi x v e1 e2 e3=>by
  have hi:ts.length<=i:=by
   rcases Nat.lt_or_ge i ts.length with h|h;·rw[apq (by simpa using h),apT]at e2;simp[h]at e2
   ·exact h
  rw[apw (by simpa using hi)]at e2;rw[apw hi]at e1;simp only[aqq]at e2;rw[apo]at e1;obtain⟨y,ey,hy⟩:=apy.mp e1;have hv:scope.names.lookup x≠none:=by
   rcases e3 with q|q|q;·rcases bP q with q|⟨_,q⟩<;>(rw[q];exact nofun)
   ·rcases bP q with q|⟨_,q⟩<;>(rw[q];exact nofun)
   ·rcases bP q with q|⟨_,q⟩<;>(rw[q];exact nofun)
  have hxy:x=y/\scope.names.lookup y≠some .local:=by
   rcases akz hy with z|z;·exact absurd (by rw[z.1];exact S.apart _ (apM z.2)) hv
   ·exact z
  have e1:X.N[i-ts.length]?=some x:=by rw[ey,hxy.1]
  have hap:scope.names.lookup x≠some .local:=by rw[hxy.1];exact hxy.2
  have hfree:scope.names.lookup x=some .free:=by
   rcases e3 with q|q|q
   ·rcases bP q with q|⟨q,_⟩;·exact absurd q hap
    ·cases q
   ·rcases bP q with q|⟨_,q⟩;·exact absurd rfl (S.nocell _ (apM q))
    ·exact q
   ·rcases bP q with q|⟨q,_⟩;·exact q
    ·cases q
  have hm:=apM hfree;have hk0:=S.free _ hm rfl;obtain⟨m0,_,hl⟩:=I.loc;obtain⟨u,r,l⟩:=hl (i-ts.length) x v e1 e2 (hk0.elim (λq=>.inr (.inl q)) λq=>.inr (.inr q));refine⟨u,r,?_⟩;rcases l with⟨kl,_⟩|⟨_,c,ec,z⟩
  ·exfalso;have kl':X.env.scope.names.lookup x=some .local:=kl;rcases hk0 with q|q;·rw[q]at kl';cases kl'
   ·rw[q]at kl';cases kl'
  ·have kk:(X.comp scope C ts s H fp).env.kindOf x=some .cell\/(X.comp scope C ts s H fp).env.kindOf x=some .free:=by
    rcases e3 with q|q|q
    ·rcases bP q with q|⟨q,_⟩;·exact absurd q hap
     ·cases q
    ·exact .inl q
    ·exact .inr q
   obtain⟨c',ec'⟩:=(vn S I hf hfl hC).has x kk;have ec2:=(cw scope.names [] ec').resolve_left (by simp);rw[ec]at ec2;cases ec2;obtain⟨o,ho',hd⟩:=z;exact .inr ⟨kk,c,ec',o,hk _ o ho',hd⟩⟩;cell:=λx c e=>by have q:=(cw scope.names [] e).resolve_left (by simp);obtain⟨v,o,ho',hd⟩:=I.cell x c q;exact⟨v,o,hk _ o ho',hd⟩
 free:=I.hok.fresh hC;freeC:=λx c e=>I.freeC x c ((cw scope.names [] e).resolve_left (by simp));pin:=λp hp=>by cases hp
 hok:=I.hok.kept hk;len:=by rw[apD,apD,aqq,I.len,apk]
end
section
variable{prog:Program}{w:World}{A:Around}{R:Result->Shared->Prop}{s:Shared}
def hR{B b E:Expr}{y:List Expr}{scope:Scope}{pos:Pos}{it u:Value}{a:Env}(I:Nat->Shared->Prop)(turn:∀n s,I n s->wpAny (model prog w) A (pyNext it) (λr f=>match r with|none=>R (.ok .next) f|some v=>wpAny (model prog w) A (letOwnedTupleGo b it v) (λ_ j=>wpAny (model prog w) A (assign b a v) (λ_ o=>wpAny (model prog w) A (forIn y true λc r=>if r=true then do let ok <-isTrue c a (eval c a);pure (ForInStep.yield ok)else pure (ForInStep.yield r)) (λok g=>if ok=true then wpAny (model prog w) A (eval B a) (λx k=>wpAny (model prog w) A (call (.builtin "list.append") [u,x]) (λ_ q=>∃m,m<n/\I m q) (notedBy (model prog w) A a λe d=>R (.error e) d) k) (notedBy (model prog w) A a λe d=>R (.error e) d) g else∃m,m<n/\I m g) (notedBy (model prog w) A a λe d=>R (.error e) d) o) (notedBy (model prog w) A a λe d=>R (.error e) d) j) (notedBy (model prog w) A a λe d=>R (.error e) d) f) (notedBy (model prog w) A a λe d=>R (.error e) d) s)(n:Nat)(h:I n s):codeAny (model prog w) A (.compLoop (.ListComp B [⟨b,E,y,0⟩] scope pos) 0 it u a) R s:=by refine codeAny_loop rfl I (λn s G=>?_) n h;refine wpAny_noted ?_;rw[compTurn_list];refine aoY (arY (aoY (apx (turn n s G) (λr f l=>?_) λ_ _ i=>i)));cases r with|none=>exact ao4 l|some v=>refine aoY (apx l (λ_ j t=>?_) λ_ _ i=>i);refine aoY (apx t (λ_ o C=>aoY (apx C (λok g p=>?_) λ_ _ i=>i)) λ_ _ i=>i);cases ok with|false=>exact ao4 ⟨rfl,p⟩|true=>exact aoY (aoY (apx p (λx k z=>aoY (apx z (λ_ q D=>ao4 (ao4 ⟨rfl,D⟩)) λ_ _ i=>i)) λ_ _ i=>i))
end
def ahX(X:Cx)(d:List Expr)(t:TT):Prop:=∀(a:List (Addr×Obj))(s:Shared)(b:St)(H:Hp)(Q:Bool->Hp->Prop),Inv X a b H s->t b H Q->wpAny (model X.prog X.w) X.A (forIn d true λc r=>if r=true then do let ok <-isTrue c X.env (eval c X.env);pure (ForInStep.yield ok)else pure (ForInStep.yield r)) (TP X a b Q) X.xe s
def nv:TT:=λ_ H Q=>Q true H
def adQ:ahX X [] nv:=λa s b H Q I h=>wpAny_tests_nil ⟨H,I,h⟩
def zo(J:It)(g:TG)(r:TT)(n:TE)(h:St)(o:Hp)(F:V->Hp->Prop):Prop:=∃W:Nat->Nat->List V->St->Hp->Prop,(∃m,W 0 m [] h o)/\∀i m f l H,W i m f l H->f.length<sizeLine/\((J.stop i H/\∀D,H D=none->F (.ref D) (upd H D (.lst f)))\/(J.go i H/\∃N:List V->St->Hp->Prop,(∀d e c,N d e c->∃j,j<m/\W (i+1) j d e c)/\∀x c,J.yld i H x c->g x l c λa p=>r a p λb k=>if b=true then n a k λy q=>N (f++[y]) a q else N f a k))
def oN(c:Hp->Prop)(J:It)(g:TG)(s:TT)(o:TE)(j:St)(p:Hp)(F:V->Hp->Prop):Prop:=∃W:Nat->Nat->List V->St->Hp->Prop,(∃m,W 0 m [] j p)/\∀i m h n H,W i m h n H->c H/\h.length<sizeLine/\((J.stop i H/\∀D,H D=none->F (.ref D) (upd H D (.lst h)))\/(J.go i H/\∃N:List V->St->Hp->Prop,(∀e f d,N e f d->∃k,k<m/\W (i+1) k e f d)/\∀x d,J.yld i H x d->g x n d λa q=>s a q λb l=>if b=true then o a l λy r=>N (h++[y]) a r else N h a l))
theorem oN.w    (h:oN c J g tt te σ0 H1 F):zo J g tt te σ0 H1 F:=by obtain⟨W,d,t⟩:=h;exact⟨W,d,λi m b a H w=>(t i m b a H w).2⟩
theorem zo.c    (h:zo J g tt te σ0 H1 F):oN (λ_=>True) J g tt te σ0 H1 F:=by obtain⟨W,a,t⟩:=h;exact⟨W,a,λi m c b H w=>⟨trivial,t i m c b H w⟩⟩
def aiY(k:Nat)(wi:TI)(g:TG)(c:TT)(b:TE):TE:=λa H Q=>wi a H λJ d=>zo J g c b (List.replicate k none++a) d Q
section
variable{X:Cx}{tg elt iter:Expr}{ifs:List Expr}{scope:Scope}{ts:List Str}{wi:TI}{g:TG}{tt:TT}{te:TE}
def oJ{pins:List (Addr×Obj)}{σ:St}{H:Hp}{j:Shared}{pos:Pos}{it:Addr}{k:List Addr}{tn:Nat->Heap->Prop}{J:It}{Q:VK}{RR:Value->Addr->Result->Shared->Prop}{E:Value->Shared->Prop}(S:CompScope X scope ts){cl:Cx->Hp->Prop}{cc:Hp->Prop}(O:Addr->Value->Shared->Prop)(c8:∀C U,cc U->cl ((X.comp scope C ts j H k).tri (O C) []) U)(hg:∀C,PG ((X.comp scope C ts j H k).tri (O C) []) tg g)(ht:∀C,ahX ((X.comp scope C ts j H k).tri (O C) []) ifs tt)(he:∀C,PE ((X.comp scope C ts j H k).tri (O C) []) elt te)(I:Inv X pins σ H j)(T:Turn X.prog X.w X.K tg J k it tn cl)(st:tn 0 j.heap)(hf:∀b∈k,xQ X pins H b)(hW:oN cc J g tt te (List.replicate ts.length none++σ) H Q)(fin:∀(C D:Addr)(U:Hp)(B:Shared)(m:Str->Option Value)(Z:List V),C≠D->j.heap.objs.size<=C->j.heap.objs.size<=D->B.heap.Ns C m->U C=none->Inv X pins σ (upd U D (.lst Z)) B->Q (.ref D) (upd U D (.lst Z))->RR (.ref D) C (.ok .next) B)(hx:∀(C D:Addr)(e:Value)(B:Shared),j.heap.objs.size<=C->O C e B->notedBy (model X.prog X.w) X.A (compEnvC scope (cM X.env.cells scope.names []) C X.env) (λe B=>RR (.ref D) C (.error e) B) e B):wpAny (model X.prog X.w) X.A (newList []) (λc3 M=>wpAny (model X.prog X.w) X.A (newFunctionEnv scope X.env.globals (cM X.env.cells scope.names []) [] X.env.qual none .none (some X.env)) (λa5 c5=>codeAny (model X.prog X.w) X.A (.compStart (.ListComp elt [⟨tg,iter,ifs,0⟩] scope pos) 0 (.ref it) c3 {a5 with scope:=relabel scope X.env}) (RR c3 a5.locals) c5) E M) E j:=by
 refine apX (wpAny_newFunctionEnv S.nocell (by intro y hy;simp at hy) (λG A s=>?_) S.kind);dsimp only at A s⊢;generalize hH2:j.heap.push {cls:=.type "list",dict:=none,data:=.seq ([]:List Value).toArray}=H2 at A s⊢;have b8:H2.objs.size=j.heap.objs.size+1:=by rw[<-hH2,arb]
 have b7:j.heap.objs.size≠H2.objs.size:=by rw[b8];exact apm (aqy _)
 have t:j.heap.objs.size<=H2.objs.size:=by rw[b8];exact aqL _
 have b6:∀b o,j.heap.get? b=some o->G.get? b=some o:=λb o e=>s.extBut b o (by rw[b8];exact apm (ar6 (apb e))) (aoZ _ (hH2▸aoZ _ e));have d1:G.PlainList j.heap.objs.size #[]:=⟨_,s.extBut _ _ b7 (aoZ _ (hH2▸apd _ rfl))⟩;have a7:∀b∈k,b<j.heap.objs.size:=λb l=>by obtain⟨o,e,_⟩:=T.obj _ _ st b l;exact apb e
 generalize hCdef:H2.objs.size=C at *;generalize hDdef:j.heap.objs.size=D at *;have a9:D∉k:=λhm=>ap7 _ (a7 _ hm);have a3:((X.comp scope C ts j H k).tri (O C) []).Ok:=(vn S I hf (by rw[hDdef];exact a7) (by rw[hDdef];exact t)).tri _ _;have a1:∀x c,((X.comp scope C ts j H k).tri (O C) []).env.cells.lookup x=some c->c<D:=λx c e=>by have q:=(cw scope.names [] e).resolve_left (by simp);obtain⟨v,z⟩:=I.cell x c q;rw[<-hDdef];exact z.lt
 have a0:∀{U:Hp}{pl:List (Addr×Obj)},(∀b∈k,U b=none)->(∀p∈pl,p.1∉k)->∀b∈k,xQ ((X.comp scope C ts j H k).tri (O C) []) pl U b:=λhn K b l=>⟨hn b l,(a3.exf b l).1,a3.exfs b l,.inl l,(a3.exf b l).2,λp e4 z=>K p (by simpa using e4) (z▸l)⟩;obtain⟨W,⟨m0,w0⟩,turn⟩:=hW;have a6:∀M:Shared,M={j with heap:=G,toks:=j.toks+([]:List (Str×Value)).length}->codeAny (model X.prog X.w) X.A (.compLoop (.ListComp elt [⟨tg,iter,ifs,0⟩] scope pos) 0 (.ref it) (.ref D) (compEnvC scope (cM X.env.cells scope.names []) C X.env)) (RR (.ref D) C) M:=by
  rintro M rfl;have d6:Inv (X.comp scope C ts j H k) [] (List.replicate ts.length none++σ) H {j with heap:=G,toks:=j.toks+([]:List (Str×Value)).length}:=zb S I hf (by rw[hDdef];exact a7) (by rw[hDdef];exact t) rfl rfl b6 A;have I0:Inv ((X.comp scope C ts j H k).tri (O C) []) [] (List.replicate ts.length none++σ) H {j with heap:=G,toks:=j.toks+([]:List (Str×Value)).length}:=d6.tri _;refine hR (λn B=>∃i Z c1 U h,Inv ((X.comp scope C ts j H k).tri (O C) []) [] c1 U B/\tn i B.heap/\(∀b∈k,U b=none)/\B.heap.PlainList D h/\Vals Z h.toList/\U D=none/\W i n Z c1 U) ?_ m0 ⟨0,[],_,H,#[],I0,T.keep _ _ _ st λb _ o e=>b6 b o e,λb l=>(hf b l).1,d1,.nil,I.hok.fresh (by rw[hDdef];exact ao6 _),w0⟩;rintro n s3⟨i,Z,Y,H3,h,I3,b9,c4,e3,v3,d3,w3⟩;obtain⟨d0,e0,a8⟩:=turn i n Z Y H3 w3;obtain⟨P,eD⟩:=id e3;have c7:∀v,(({cls:=.type "list",data:=.seq h P}:Obj)).data≠.cell v:=λv z=>by cases z
  have a2:=b7;have a4:D ∉((X.comp scope C ts j H k).tri (O C) []).fs:=λl=>by obtain⟨_,o,ho,_⟩:=a3.ql.mem l;exact absurd (aq5 (apb ho) hDdef) (ap7 _)
  rcases a8 with⟨c0,qn⟩|⟨go,N,hN,step⟩;·-- the end
   have b0:Inv ((X.comp scope C ts j H k).tri (O C) []) [(D,{cls:=.type "list",data:=.seq h P})] Y H3 s3:=I3.gy λp K=>by
    obtain rfl:p=(D,({cls:=.type "list",data:=.seq h P}:Obj)):=by simpa using K
    exact⟨eD,d3,a2,a4,c7⟩
   refine apx (T.done ((X.comp scope C ts j H k).tri (O C) []) rfl rfl rfl i _ s3 Y H3 (λ_ _=>False) (c8 C H3 d0) b0 (a0 c4 (λp K=>by
    obtain rfl:p=(D,({cls:=.type "list",data:=.seq h P}:Obj)):=by simpa using K
    exact a9)) b9 c0) (λr s4⟨hr,I4⟩=>?_) λ_ _ f=>f.elim;subst hr;have pD:=(I4.pin (D,{cls:=.type "list",data:=.seq h P}) (by simp)).1;obtain⟨m4,e5,_⟩:=I4.loc;have I5:=I.ahR I4.os I4.base I4.hok I4.bare λb l=>⟨(hf b l).2.2.2.1,(hf b l).2.1,(hf b l).2.2.2.2.1,(hf b l).2.2.2.2.2⟩;have e2:=apQ (aq5 I.lt hDdef);have d7:∀x c,X.env.cells.lookup x=some c->c≠D:=λx c e=>by obtain⟨v,z⟩:=I.cell x c e;exact apm (aq5 z.lt hDdef)
   have d4:∀p∈X.pn++pins,p.1≠D:=λp K=>apm (aq5 (apb (I.pin p K).1) hDdef);have new:bO X.prog X.w (upd H3 D (.lst Z)) s4.heap D (.lst Z):=⟨arz e0,h.toList,P,v3,by simpa using pD⟩;have I6:=I5.z7 d3 (by rw[<-hDdef];exact I.sz) e2 d7 d4 new;exact fin C D H3 s4 m4 Z (ape b7) t (ao6 _) e5 I4.free I6 (qn D d3)
  ·-- a turn
   have b0:Inv ((X.comp scope C ts j H k).tri (O C) []) [(D,{cls:=.type "list",data:=.seq h P})] Y H3 s3:=I3.gy λp K=>by
    obtain rfl:p=(D,({cls:=.type "list",data:=.seq h P}:Obj)):=by simpa using K
    exact⟨eD,d3,a2,a4,c7⟩
   have c2:∀p∈[((D,{cls:=.type "list",data:=.seq h P}):Addr×Obj)],p.1∉k:=λp K=>by
    obtain rfl:p=(D,({cls:=.type "list",data:=.seq h P}:Obj)):=by simpa using K
    exact a9
   refine apx (T.item ((X.comp scope C ts j H k).tri (O C) []) rfl rfl rfl i _ s3 Y H3 (λ_ _=>False) (c8 C H3 d0) b0 (a0 c4 c2) b9 go) (λr s4 w=>?_) λ_ _ f=>f.elim;obtain⟨u,hr,h4⟩:=w;subst hr;refine apx h4 (λ_ s5 w=>?_) λ_ _ f=>f.elim;obtain⟨x,H5,I5,r5,y5,b5,d2⟩:=w;have d9:=I5.pinned (a0 d2 c2) (T.obj _ _ b5);have back:∀{c6:St}{H7:Hp}{s7:Shared},Inv ((X.comp scope C ts j H k).tri (O C) []) ([(D,{cls:=.type "list",data:=.seq h P})]++q0 k s5.heap) c6 H7 s7->tn (i+1) s7.heap/\(∀b∈k,H7 b=none)/\s7.heap.get? D=some {cls:=.type "list",data:=.seq h P}/\H7 D=none:=λ{c6 H7 s7}I7=>by have pD:=I7.pin (D,({cls:=.type "list",data:=.seq h P}:Obj)) (apt _ (apL _ apn));refine⟨T.keep _ _ _ b5 λb l o e=>(I7.pin (b,o) (apt _ (apt _ (gW l e)))).1,λb l=>?_,pD.1,pD.2.1⟩;obtain⟨o,e,d⟩:=T.obj _ _ b5 b l;exact(I7.pin (b,o) (apt _ (apt _ (gW l e)))).2.1
   refine apx (hg C _ s5 Y H5 x u _ d9 r5 (step x H5 y5)) (λ_ s6 w=>?_) λe B f=>hx C D e B t f;obtain⟨R,H6,I6,q6⟩:=w;refine apx (ht C _ s6 R H6 _ I6 q6) (λb s7 w=>?_) λe B f=>hx C D e B t f;obtain⟨H7,I7,q7⟩:=w;cases b with|false=>obtain⟨m',hm,w7⟩:=hN _ _ _ (by simpa using q7);obtain⟨b1,b2,b3,b4⟩:=back I7;exact⟨m',hm,i+1,Z,R,H7,h,I7.gy (λp K=>absurd K aqk),b1,b2,⟨P,b3⟩,v3,b4,w7⟩|true=>
    have d8:te R H7 λy H4=>N (Z++[y]) R H4:=by simpa using q7
    refine apx (he C _ s7 R H7 _ I7 d8) (λu8 s8 w=>?_) λe B f=>hx C D e B t f;obtain⟨y,H8,I8,r8,q8⟩:=w;obtain⟨m',hm,w8⟩:=hN _ _ _ q8;obtain⟨b1,b2,b3,b4⟩:=back I8;have e6:h.size<=sizeLine:=by have e1:=v3.length;simp only[aqj]at e1;omega
    refine wpAny_list_append_plain (⟨P,b3⟩) λh9 d5 c9=>?_;have I9:Inv ((X.comp scope C ts j H k).tri (O C) []) [] R H8 {s8 with heap:=h9}:=(I8.gy (λp K=>absurd K aqk)).turned (λb o l e=>(c9.2 b l).trans e) b4 a2 (.inr (aq1 hDdef)) (λx c e=>apm (a1 x c e)) (λp K=>absurd (K) aqk);refine⟨m',hm,i+1,Z++[y],R,H8,h.push u8,I9,T.keep _ _ _ b1 λb l o e=>(c9.2 b (λz=>a9 (z▸l))).trans e,b2,d5,?_,b4,w8⟩;simpa using v3.append (.cons r8 .nil)
 exact codeAny_compStart_list (a6 _ rfl) (T.self _ 0 _ _ _ (T.keep _ _ _ st λb _ o e=>b6 b o e) (a6 _ rfl))
def adU (L:CompLook X scope)(n:X.calm=true)(Y:PI X tg iter wi)(hg:∀C a d i,PG (X.comp scope C ts a d i) tg g)(N:∀C a d i,ahX (X.comp scope C ts a d i) ifs tt)(he:∀C a d i,PE (X.comp scope C ts a d i) elt te)(K:∀x,foldedSetIterable iter X.env x=pure x:=by intro _;rfl):PE X (.ListComp elt [⟨tg,iter,ifs,0⟩] scope pos) (aiY ts.length wi g tt te):=by
 intro k s σ H Q I h;have S:CompScope X scope ts:=L.scope;have f:=jc λy Z hf=>by obtain⟨c,n⟩:=I.ok.has y.1 (S.free y Z hf);rw[n];rfl
 rw[eval_ListComp];refine asr rfl K f S.kind S.names (thn (Y k s σ H _ I h) λxv s1 O=>thn O λP s2 G=>?_);obtain⟨it,i,tn,J,H2,e,j,T,A,f2,R⟩:=G;subst e;refine oJ S (λ_ _ _=>False) (λ_ _ _=>n) (λC=>hg C _ _ _) (λC=>N C _ _ _) (λC=>he C _ _ _) j T A f2 R.c ?_ (λ_ _ _ _ _ z=>z.elim);intro C D H' E m ys r l hD hn t U q;refine⟨m,hn,λh' w=>?_⟩;have B:=apQ (apa j.lt l);have u:=U.turned (t':=E.toks) (λb o hb e=>(w.2 b hb).trans e) (by rw[ag r];exact t) B (.inr (apc j.sz l)) (λx c e=>by obtain⟨v,q⟩:=j.cell x c e;exact apm (apa q.lt l)) (λp M=>apm (apa (apb (j.pin p M).1) l));exact⟨.ref D,_,u,rfl,q⟩
end
def IsD(K:W.Frag)(H:Hp):Nat->V->PyData->Prop|_,x,.none=>x=.non|_,x,.bool b=>x=.bl b|_,x,.int i=>x=.int i|_,x,.str z=>x=.str z/\PyData.strOk z=true|_,_,.dict _=>False|0,_,.tuple _=>False|0,_,.list _=>False|n+1,x,.tuple ds=>∃a c,x=.ref a/\SqT K H a c/\Paired (IsD K H n) c ds|n+1,x,.list ds=>∃a c,x=.ref a/\SqL K H a c/\Paired (IsD K H n) c ds
section
variable{X:Cx}{pins:List (Addr×Obj)}{σ:St}{H:Hp}{s:Shared}
theorem mr{h:Heap}{n:Nat}{R:V->PyData->Prop}(one:∀x d u,R x d->RelV x u->(∃a,Reads h u d a)/\d.canLay0=true/\d.depth<=n):∀{xs:List V}{ds:List PyData}{us:List Value},Paired R xs ds->Vals xs us->(∃a,ReadsAll h us ds a)/\PyData.canLayAll0 ds=true/\PyData.depthAll ds<=n
|_,_,_,.nil,.nil=>⟨⟨_,.nil⟩,rfl,apH _⟩|_,_,_,.cons r t,.cons q t'=>by
 obtain⟨⟨a,e⟩,c,g⟩:=one _ _ _ r q;obtain⟨⟨bs,f⟩,b,i⟩:=mr one t t';refine⟨⟨_,.cons e f⟩,?_,?_⟩;·simp[PyData.canLayAll0,c,b]
 ·simp only[PyData.depthAll];omega
def Inv.reads(I:Inv X pins σ H s):∀(n:Nat)(d:PyData)(x:V)(u:Value),IsD X.K H n x d->RelV x u->(∃p,Reads s.heap u d p)/\d.canLay0=true/\d.depth<=n:=by intro n;induction n with
|zero=>intro d x u h r;cases d with|none=>simp only[IsD]at h;subst h;cases r;exact⟨⟨_,.none⟩,rfl,apH _⟩|bool b=>simp only[IsD]at h;subst h;cases r;exact⟨⟨_,.bool b⟩,rfl,apH _⟩|int i=>simp only[IsD]at h;subst h;obtain⟨t,rfl⟩:=r;exact⟨⟨_,.int i t⟩,rfl,apH _⟩|str z=>simp only[IsD]at h;obtain⟨rfl,c⟩:=h;obtain⟨t,rfl⟩:=r;exact⟨⟨_,.str z t⟩,by simpa[PyData.canLay0]using c,apH _⟩|dict kvs=>simp only[IsD]at h|tuple ds=>simp only[IsD]at h|list ds=>simp only[IsD]at h
|succ n ih=>intro d x u h r;cases d with|none=>simp only[IsD]at h;subst h;cases r;exact⟨⟨_,.none⟩,rfl,apH _⟩|bool b=>simp only[IsD]at h;subst h;cases r;exact⟨⟨_,.bool b⟩,rfl,apH _⟩|int i=>simp only[IsD]at h;subst h;obtain⟨t,rfl⟩:=r;exact⟨⟨_,.int i t⟩,rfl,apH _⟩|str z=>simp only[IsD]at h;obtain⟨rfl,c⟩:=h;obtain⟨t,rfl⟩:=r;exact⟨⟨_,.str z t⟩,by simpa[PyData.canLay0]using c,apH _⟩|dict kvs=>simp only[IsD]at h|tuple ds=>simp only[IsD]at h;obtain⟨a,A,rfl,j,f⟩:=h;cases r;obtain⟨m,w,⟨o,e,g,k,q⟩,c⟩:=I.tuple j;obtain⟨⟨p,v⟩,l,y⟩:=mr (λx d u=>ih d x u) f w;exact⟨⟨_,.tuple e g q (by simpa using v)⟩,by simpa[PyData.canLay0]using l,by simp only[PyData.depth];omega⟩|list ds=>simp only[IsD]at h;obtain⟨a,A,rfl,j,f⟩:=h;cases r;obtain⟨m,w,pl,c⟩:=I.list j;obtain⟨o,e,g,k,q⟩:=pl.isList;obtain⟨⟨p,v⟩,l,y⟩:=mr (λx d u=>ih d x u) f w;exact⟨⟨_,.list e g q (by simpa using v)⟩,by simpa[PyData.canLay0]using l,by simp only[PyData.depth];omega⟩
end
def ar.tup{K:W.Frag}{H H':Hp}{a:Addr}{xs:List V}(e:ar H H')(h:SqT K H a xs):SqT K H' a xs:=by
 rcases h with(h|⟨o,h⟩)|h;·exact .inl (.inl (e _ _ h))
 ·exact .inl (.inr ⟨o,e _ _ h⟩)
 ·exact .inr h
section
variable{X:Cx}
def ajO:OpR X (compareOp .Eq) (λx y H Q=>∃n d e,IsD X.K H n x d/\IsD X.K H n y e/\X.A.units+n<cLine/\Q (.bl (PyData.eqv d e)) H):=by intro a s r H x y v u Q I b f⟨n,d,e,c,j,l,q⟩;obtain⟨⟨m,i⟩,h,o⟩:=I.reads n d x v c b;obtain⟨⟨bs,k⟩,g,p⟩:=I.reads n e y u j f;exact SeqAt.compareEq_reads i k h g (by have:=asw d.depth e.depth;omega) ⟨.bl _,H,I,rfl,q⟩
def ajH:OpR X (compareOp .NotEq) (λx y H Q=>∃n d e,IsD X.K H n x d/\IsD X.K H n y e/\X.A.units+n<cLine/\Q (.bl (!PyData.eqv d e)) H):=by intro a s r H x y v u Q I b f⟨n,d,e,c,j,l,q⟩;obtain⟨⟨m,i⟩,h,o⟩:=I.reads n d x v c b;obtain⟨⟨bs,k⟩,g,p⟩:=I.reads n e y u j f;exact SeqAt.compareNe_reads i k h g (by have:=asw d.depth e.depth;omega) ⟨.bl _,H,I,rfl,q⟩
def ajN:OpR X (compareOp .In) (λx y H Q=>∃n d a,IsD X.K H n x d/\(IsD X.K H (n+1) y (.list a)\/IsD X.K H (n+1) y (.tuple a))/\X.A.units+1+n<cLine/\Q (.bl (a.any λz=>PyData.eqv z d)) H):=by
 intro h s r H x y v u Q I j f⟨n,d,a,k,b,m,q⟩;obtain⟨⟨o,i⟩,g,p⟩:=I.reads n d x v k j;rcases b with b|b;·obtain⟨⟨bs,e⟩,c,l⟩:=I.reads _ _ y u b f;exact SeqAt.in_list_reads e i (by simpa[PyData.canLay0]using c) g (by have:=aqU (PyData.depthAll a) d.depth;omega) ⟨.bl _,H,I,rfl,q⟩
 ·obtain⟨⟨bs,e⟩,c,l⟩:=I.reads _ _ y u b f;exact SeqAt.in_tuple_reads e i (by simpa[PyData.canLay0]using c) g (by have:=aqU (PyData.depthAll a) d.depth;omega) ⟨.bl _,H,I,rfl,q⟩
def aa2:OpR X (compareOp .NotIn) (λx y H Q=>∃n d a,IsD X.K H n x d/\(IsD X.K H (n+1) y (.list a)\/IsD X.K H (n+1) y (.tuple a))/\X.A.units+1+n<cLine/\Q (.bl (!a.any λz=>PyData.eqv z d)) H):=by
 intro h s r H x y v u Q I j f⟨n,d,a,k,b,m,q⟩;obtain⟨⟨o,i⟩,g,p⟩:=I.reads n d x v k j;rcases b with b|b;·obtain⟨⟨bs,e⟩,c,l⟩:=I.reads _ _ y u b f;exact SeqAt.notIn_list_reads e i (by simpa[PyData.canLay0]using c) g (by have:=aqU (PyData.depthAll a) d.depth;omega) ⟨.bl _,H,I,rfl,q⟩
 ·obtain⟨⟨bs,e⟩,c,l⟩:=I.reads _ _ y u b f;exact SeqAt.notIn_tuple_reads e i (by simpa[PyData.canLay0]using c) g (by have:=aqU (PyData.depthAll a) d.depth;omega) ⟨.bl _,H,I,rfl,q⟩
def amv{x:Str}{T:String}{pos:Pos}(a:Gl X x)(c:X.mg x=none)(b:bootBuiltins x=some (.type T))(d:x≠"__name__":=by decide)(e:(x==("__debug__":Str))=false:=by decide):PE X (.Name x pos) (tC (.ty T)):=agV (v:=.ty T) a c b rfl d e
def TyV(K:W.Frag)(H:Hp)(x:V)(t:Value):Prop:=TyOf K H x t\/∃a b,x=.ref a/\t=.type "tuple"/\SqT K H a b
def vu:bJ X (.builtin "isinstance") (λd H Q=>∃x T t b,d=[x,.ty T]/\TyV X.K H x t/\W.kitOne X.K t (.type T)=some b/\Q (.bl b) H):=by
 intro f s v H d n Q I r h;obtain⟨x,T,t,b,rfl,ty,e,q⟩:=h;obtain⟨u,l,rfl,c,m⟩:=vals2 r;cases(show l=Value.type T from m);rcases ty with ty|⟨a,p,rfl,rfl,i⟩;·exact abJ I c ty e λtk=>⟨.bl b,H,I.tok tk,rfl,q⟩
 ·cases(show u=Value.ref a from c);obtain⟨k,_,⟨o,j,g,_⟩,_⟩:=I.tuple i;exact aqg W.kitx_tuple I.kIn ⟨o,j,g⟩ e (λz=>nomatch z) λtk=>⟨.bl b,H,I.tok tk,rfl,q⟩
end
abbrev St3:=Int×Int×Int
noncomputable def stD(p:St3):PyData:=.tuple [.int p.1,.int p.2.1,.int p.2.2]
def flD(f:List St3):PyData:=.tuple (f.map stD)
noncomputable def spD(p:Int×Int):PyData:=.tuple [.int p.1,.int p.2]
section
variable{K:W.Frag}{H H':Hp}{v:V}{p:St3}{f:List St3}{x y:Int}
theorem ou{a b:Type}{R:a->b->Prop}:∀{l:List a}{m:List b},Paired R l m->l.length=m.length|_,_,.nil=>rfl|_,_,.cons _ t=>by rw[aph,aph,ou t]
theorem mx{c d:Type}{R:c->d->Prop}:∀{l:List c}{m:List d}{i:Nat}{a:c},Paired R l m->l[i]?=some a->∃b,m[i]?=some b/\R a b|_,_,_,_,.nil,e=>by simp at e|_,_,0,_,.cons r _,e=>by simp at e;subst e;exact⟨_,rfl,r⟩|_,_,i+1,a,.cons _ t,e=>by obtain⟨b,g,h⟩:=mx (i:=i) (a:=a) t (by simpa using e);exact⟨b,by simpa using g,h⟩
end
def xD(p q:St3):PyData.eqv (stD p) (stD q)=decide (p=q):=by obtain⟨a,b,c⟩:=p;obtain⟨d,e,f⟩:=q;simp only[stD,PyData.eqv,PyData.eqvAll,Bool.and_true];rw[apB];simp[Prod.ext_iff]
def afG(p q:Int×Int):PyData.eqv (spD p) (spD q)=decide (p=q):=by obtain⟨a,b⟩:=p;obtain⟨d,e⟩:=q;simp only[spD,PyData.eqv,PyData.eqvAll,Bool.and_true];rw[apB];simp[Prod.ext_iff]
theorem sx:∀f g:List St3,PyData.eqvAll (f.map stD) (g.map stD)=decide (f=g)|[],[]=>by simp[PyData.eqvAll]|[],_::_=>by simp[PyData.eqvAll]|_::_,[]=>by simp[PyData.eqvAll]|p::f,q::g=>by simp only[ao9,PyData.eqvAll,xD,sx f g];rw[apB];simp
def afH(f g:List St3):PyData.eqv (flD f) (flD g)=decide (f=g):=by simp only[flD,PyData.eqv];exact sx f g
def az{H:Hp}{p:Addr}(h:H p=none)(o:HO):ar H (upd H p o):=λb u q=>by rw[ag (aM q h)];exact q
end L2
set_option autoImplicit true
set_option relaxedAutoImplicit true
namespace L2
open PySem PySem.Spec PyProof.Rows
def aij(A:Around)(s:Shared)(y x:Value)(b:Bool):Prop:=∀(a:Program)(w:World)(E:Value->Shared->Prop)(Q:Value->Shared->Prop),Q (.bool b) s->wpAny (model a w) A (richCompare .Lt y x) Q E s
noncomputable def zr:List (Bool×Bool)->Bool->Bool|[],t=>t|(e,l)::r,t=>if e=true then zr r t else l
abbrev xP(A:Around)(s:Shared)(p:Value×Value)(q:Bool×Bool):Prop:=SeqAt.EqAt A s p.1 p.2 q.1/\(q.1=false->aij A s p.1 p.2 q.2)
section
open PySem.AutoSeq1(wpAny_loadPart')
open PySem.MeetsSeq PySem.MeetsSeq2 PySem.MeetsSeq3 PySem.SeqAt
def z6(l b:Addr)(its its2:Array Value)(n I:Nat)(dd o:Option Addr)(sl z:Array (Option Value)):Meets (Builtin.«tuple.__lt__» ⟨[.ref l,.ref b],[]⟩) (λA R s=>s.heap.get? l=some {cls:=.type "tuple",dict:=dd,data:=.seq its n,slots:=sl}/\s.heap.get? b=some {cls:=.type "tuple",dict:=o,data:=.seq its2 I,slots:=z}/\∃k,Paired (xP A.in1 s) (its.toList.zip its2.toList) k/\R (.ok (.ret (.bool (zr k (decide (its.size<its2.size)))))) s):=.of_wp λi w A R s h=>by
 obtain⟨p,g,d,tk,os⟩:=s;obtain⟨E,G,k,D,h⟩:=h;have M:=AutoSeq1.sub_tuple_tuple;wp_walk using wpAny_loadPart' E,wpAny_loadPart' G,aqV _ (λrest c m=>c.1=none/\m=⟨p,g,d,tk,os⟩/\∃f,Paired (xP A.in1 ⟨p,g,d,tk,os⟩) rest f/\R (.ok (.ret (.bool (zr f (decide (its.size<its2.size)))))) ⟨p,g,d,tk,os⟩) _;case turn=>rintro⟨y,x⟩rest c m⟨u,rfl,f,v,j⟩;cases v with|@cons a q l1 l2 r t=>obtain⟨e,lt⟩:=q;obtain⟨H,C⟩:=r;refine aoY (H i w _ _ ?_);cases e with|true=>simp only[zr,apU]at j;wp_walk;exact⟨rfl,rfl,_,t,j⟩|false=>simp only[zr,apE,apN]at j;have B:=C rfl i w;wp_walk using B;exact⟨_,rfl,by simpa using j⟩
 case fin=>rintro⟨K,J⟩m⟨u,rfl,f,v,j⟩;simp only at u;subst u;cases v;simp only[zr]at j;wp_walk;exact⟨_,rfl,by simpa[Builtin.Tuple.tupleCompareSizes]using j⟩
 case h=>exact⟨rfl,rfl,k,D,h⟩
def aij.tuples   (u:IsTup s.heap l its)(t:IsTup s.heap b its2)(q:A.units<cLine)(r:Paired (xP A.in1 s) (its.toList.zip its2.toList) qs):aij A s (.ref l) (.ref b) (zr qs (decide (its.size<its2.size))):=λg w E Q h=>by obtain⟨⟨cls,dd,o,p⟩,i,j,n,m⟩:=id u;obtain⟨⟨k,e,data2,f⟩,d,a,v,c⟩:=id t;simp only at j m a c;subst j m a c;exact richCompare_meets_room (op:=.Lt) ⟨_,i,rfl⟩ ⟨_,d,rfl⟩ PySem.F.slot_tuple_lt PySem.F.entry_tuple_lt (PySem.F.args_tuple_lt_2 _ _) (z6 l b its its2 n v dd e p f) ⟨i,d,qs,r,show Value.bool _≠Value.notImplemented/\Q (.bool _) s from⟨(λx=>nomatch x),h⟩⟩ q
end
mutual noncomputable def ltv:PyData->PyData->Bool|.int i,.int j=>decide (i<j)|.tuple xs,.tuple ys=>i3 xs ys|_,_=>false noncomputable def i3:List PyData->List PyData->Bool|[],[]=>false|[],_::_=>true|_::_,[]=>false|x::xs,y::ys=>if PyData.eqv x y=true then i3 xs ys else ltv x y end
mutual noncomputable def zc:PyData->PyData->Bool|.int _,.int _=>true|.tuple xs,.tuple ys=>fQ xs ys|_,_=>false noncomputable def fQ:List PyData->List PyData->Bool|x::xs,y::ys=>zc x y&&fQ xs ys|_,_=>true end
noncomputable def afP:List PyData->List PyData->List (Bool×Bool)|x::xs,y::ys=>(PyData.eqv x y,ltv x y)::afP xs ys|_,_=>[]
theorem oz:∀b a:List PyData,i3 b a=zr (afP b a) (decide (b.length<a.length))|[],[]=>by simp[i3,afP,zr]|[],_::_=>by simp[i3,afP,zr]|_::_,[]=>by simp[i3,afP,zr]|x::b,y::a=>by simp only[i3,afP,zr,oz b a,aph,Nat.add_lt_add_iff_right]
theorem mL  (one:∀d e a b as bs,d.depth<=n->Reads s.heap a d as->Reads s.heap b e bs->d.canLay0=true->e.canLay0=true->zc d e=true->aij A s a b (ltv d e))(h:A.units+n<cLine):∀(xs ys:List PyData)(us vs:List Value)(as bs:List Addr),PyData.depthAll xs<=n->ReadsAll s.heap us xs as->ReadsAll s.heap vs ys bs->PyData.canLayAll0 xs=true->PyData.canLayAll0 ys=true->fQ xs ys=true->Paired (xP A s) (us.zip vs) (afP xs ys)|[],_,_,_,_,_,_,r,_,_,_,_=>by cases r;exact .nil|_::_,[],_,_,_,_,_,r,r',_,_,_=>by cases r';rw[List.zip_nil_right];exact .nil|x::xs,y::ys,_,_,_,_,hd,r,r',c1,c2,c3=>by cases r with|cons ra rr=>cases r' with|cons rb rr'=>
  have f:x.canLay0=true/\PyData.canLayAll0 xs=true:=by simpa[PyData.canLayAll0]using c1
  have c:y.canLay0=true/\PyData.canLayAll0 ys=true:=by simpa[PyData.canLayAll0]using c2
  have g:zc x y=true/\fQ xs ys=true:=by simpa[fQ]using c3
  simp only[PyData.depthAll]at hd;rw[aq6];refine .cons ⟨SeqAt.eqAt_reads x y A s _ _ _ _ ra rb f.1 c.1 (by have:=asw x.depth y.depth;omega),λ_=>one x y _ _ _ _ (by omega) ra rb f.1 c.1 g.1⟩ ?_;exact mL one h xs ys _ _ _ _ (by omega) rr rr' f.2 c.2 g.2
def yN:∀(n:Nat)(d e:PyData)(A:Around)(s:Shared)(a b:Value)(as bs:List Addr),d.depth<=n->Reads s.heap a d as->Reads s.heap b e bs->d.canLay0=true->e.canLay0=true->zc d e=true->A.units+n<cLine->aij A s a b (ltv d e):=by intro n;induction n with
|zero=>intro d e A s a b as bs m p g v r f x;cases p with
 |int i t=>cases g with|int j u=>exact λc w E Q h=>HT.we A s i t j u c w E Q h|_=>cases f
 |tuple h1 h2 h3 h4=>cases m|_=>cases f
|succ n ih=>intro d e A s a b as bs m p g v r f x;cases p with
 |int i t=>cases g with|int j u=>exact λc w E Q h=>HT.we A s i t j u c w E Q h|_=>cases f
 |@tuple l o vs k xs as₁ h1 h2 h3 h4=>cases g with|@tuple l' o' vs' k' ys bs₁ k1 k2 k3 k4=>
    have C:vs.size=xs.length:=by simpa using SeqAt.ReadsAll.length _ _ _ h4
    have y:vs'.size=ys.length:=by simpa using SeqAt.ReadsAll.length _ _ _ k4
    have q:A.units+1+n<cLine:=Nat.add_right_comm A.units n 1▸x;have B:=mL (n:=n) (A:=A.in1) (s:=s) (λd e a b as bs m p g v r f=>ih d e A.in1 s a b as bs m p g v r f q) q xs ys _ _ _ _ (by simp only[PyData.depth]at m;omega) h4 k4 v r f;have z:=aij.tuples (A:=A) (s:=s) (l:=l) (b:=l') (its:=vs) (its2:=vs') ⟨o,h1,h2,k,h3⟩ ⟨o',k1,k2,k',k3⟩ (by omega) B;rw[C,y]at z;simpa only[ltv,oz]using z|_=>cases f
 |_=>cases f
mutual theorem jG{h h':Heap}(k:∀b o,h.get? b=some o->h'.get? b=some o):∀(d:PyData)(v:Value)(as:List Addr),d.canLay0=true->Reads h v d as->Reads h' v d as
|.none,_,_,_,r=>by cases r;exact .none|.bool b,_,_,_,r=>by cases r;exact .bool _|.int i,_,_,_,r=>by cases r;exact .int _ _|.str z,_,_,_,r=>by cases r;exact .str _ _|.dict _,_,_,c,_=>by simp[PyData.canLay0]at c|.tuple xs,_,_,c,r=>by cases r with|tuple h1 h2 h3 h4=>exact .tuple (k _ _ h1) h2 h3 (fJ k xs _ _ (by simpa[PyData.canLay0]using c) h4)
|.list xs,_,_,c,r=>by cases r with|list h1 h2 h3 h4=>exact .list (k _ _ h1) h2 h3 (fJ k xs _ _ (by simpa[PyData.canLay0]using c) h4)theorem fJ{h h':Heap}(k:∀b o,h.get? b=some o->h'.get? b=some o):∀(ds:List PyData)(vs:List Value)(as:List Addr),PyData.canLayAll0 ds=true->ReadsAll h vs ds as->ReadsAll h' vs ds as
|[],_,_,_,r=>by cases r;exact .nil|d::ds,_,_,c,r=>by
 have c':d.canLay0=true/\PyData.canLayAll0 ds=true:=by simpa[PyData.canLayAll0]using c
 cases r with|cons r1 r2=>exact .cons (jG k d _ _ c'.1 r1) (fJ k ds _ _ c'.2 r2)end
section
variable{prog:Program}{w:World}{A:Around}{R:Result->Shared->Prop}{I:Addr}{fp wr:List Addr}{n:Nat}{P:Nat->Value->Prop}{St:Nat->Heap->Prop}
def anH(prog:Program)(w:World)(A:Around)(d:Heap)(P:Nat->Value->Prop)(e:Nat->Nat->Bool):Prop:=∀i j a c(s:Shared)(Q:Value->Shared->Prop)(E:Value->Shared->Prop),P i a->P j c->(∀b o,d.get? b=some o->s.heap.get? b=some o)->Q (.bool (e i j)) s->wpAny (model prog w) A (richCompare .Lt a c) Q E s
def abk(W:Walks prog w A.in1 I fp wr n P St)(t:Nat->Nat->Bool){B:Heap}(y:anH prog w A.in1 B P t)(Q:∀b∈wr,B.get? b=none)(S:Addr)(D:S∉fp)(M:B.get? S=none):∀(k j:Nat)(s:Shared)(g:Value)(c:Nat),n-(j+1)=k->j+1<=n->St (j+1) s.heap->P (argBest t j) g->(∀b o,B.get? b=some o->s.heap.get? b=some o)->s.heap.get? S=some {cls:=.type "list",dict:=none,data:=.seq #[g,g] c,slots:=#[]}->(∀v X tk,P (argBest t (n-1)) v->(∀b o,b∉wr->b≠S->s.heap.get? b=some o->X.get? b=some o)->R (.ok (.ret v)) {s with heap:=X,toks:=tk})->codeAny (model prog w) A (.builtin "min.loop" ⟨[.ref I,.none,.ref S],[]⟩) R s:=by
 have Z:S∉wr:=λh=>D (W.sub _ h);have C:(toString "min"++toString ".loop":String)="min.loop":=by decide
 intro k;induction k with|zero=>
 intro j s g c hk hj st G Y x H;have u:j+1=n:=by omega
 refine asx ass ?_;rw[arF aql _];show wpAny _ A.in1 (seqItems? (.ref S)>>=_) _ _ s;refine aoY (aqx x rfl ?_);show wpAny _ A.in1 (tryCatch (pyNext (.ref I)) _ >>=_) _ _ s;refine aoY (arO (W.done s _ _ (u▸st) λU tk p=>?_));have f:=p S _ Z x;show wpAny _ A.in1 (updateSeq S (λ_=>#[])>>=_) _ _ _;refine aoY ?_;refine asy f rfl (aoY (arQ (ao4 ?_)));exact H g _ tk (by rw[<-u];exact G) λb o r a e=>(apu _ _ (ape a)).trans (p b o r e)|succ k ih=>
 intro j s g c hk hj st G Y x H;have q:j+1<n:=by omega
 refine asx ass ?_;rw[arF aql _];show wpAny _ A.in1 (seqItems? (.ref S)>>=_) _ _ s;refine aoY (aqx x rfl ?_);show wpAny _ A.in1 (tryCatch (pyNext (.ref I)) _ >>=_) _ _ s;refine aoY (arO (W.item (j+1) s _ _ q st λv U tk T E p=>?_));have f:=p S _ Z x;have N:∀b o,B.get? b=some o->U.get? b=some o:=λb o e=>p b o (λr=>by rw[Q b r]at e;cases e) (Y b o e);show wpAny _ A.in1 (tryCatch (holding [v,v] (richCompare .Lt v g >>=_)) _ >>=_) _ _ _;refine aoY (arO (aqt (aoY (y (j+1) (argBest t j) v g _ _ _ T G N ?_))));refine aoY (aqt (apP ?_));refine aoY (arQ (ao4 ?_));cases r:t (j+1) (argBest t j)with|true=>simp only[apU];refine aoY ?_;refine asy f rfl (aoY (arQ ?_));rw[C];have nS:∀b,b∈fp->¬S=b:=λb m z=>D (by rw[z];exact m);refine ao4 ⟨arZ aql _,ih (j+1) _ v _ (by omega) q (W.frame _ _ _ E λb m o e=>(apu _ _ (nS b m)).trans e) (by simp only[argBest,r,apU];exact T) (λb o e=>(apu _ _ (λz:S=b=>by rw[<-z,M]at e;cases e)).trans (N b o e)) (apR _ f rfl) λO J i l K=>?_⟩;exact H O J i l λb o d a e=>K b o d a ((apu _ _ (ape a)).trans (p b o d e))|false=>simp only[apE,apN];refine aoY (arQ ?_);rw[C];refine ao4 ⟨arZ aql _,ih (j+1) _ g c (by omega) q E (by simp only[argBest,r,apE,apN];exact G) N f λO J i l K=>?_⟩;exact H O J i l λb o d a e=>K b o d a (p b o d e)
def yI(W:Walks prog w A.in1 I fp wr n P St)(t:Nat->Nat->Bool){k:Heap}(i:anH prog w A.in1 k P t)(m:∀b∈wr,k.get? b=none)(S:Addr)(d:S∉fp)(f:k.get? S=none)(C:0<n){s:Shared}{c:Nat}(st:St 0 s.heap)(k0:∀b o,k.get? b=some o->s.heap.get? b=some o)(B:s.heap.get? S=some {cls:=.type "list",dict:=none,data:=.seq #[] c,slots:=#[]})(K:∀v y tk,P (argBest t (n-1)) v->(∀b o,b∉wr->b≠S->s.heap.get? b=some o->y.get? b=some o)->R (.ok (.ret v)) {s with heap:=y,toks:=tk}):codeAny (model prog w) A (.builtin "min.loop" ⟨[.ref I,.none,.ref S],[]⟩) R s:=by
 have Q:S∉wr:=λh=>d (W.sub _ h);have u:(toString "min"++toString ".loop":String)="min.loop":=by decide
 refine asx ass ?_;rw[arF aql _];show wpAny _ A.in1 (seqItems? (.ref S)>>=_) _ _ s;refine aoY (aqx B rfl ?_);show wpAny _ A.in1 (tryCatch (pyNext (.ref I)) _ >>=_) _ _ s;refine aoY (arO (W.item 0 s _ _ C st λv H tk G x r=>?_));have l:=r S _ Q B;have M:∀b o,k.get? b=some o->H.get? b=some o:=λb o e=>r b o (λN=>by rw[m b N]at e;cases e) (k0 b o e);show wpAny _ A.in1 (updateSeq S (λ_=>#[v,v])>>=_) _ _ _;refine aoY ?_;refine asy l rfl ?_;rw[u];have J:∀b,b∈fp->¬S=b:=λb a z=>d (by rw[z];exact a);refine ao4 ⟨arZ aql _,abk W t i m S d f _ 0 _ v _ rfl C (W.frame _ _ _ x λb a o e=>(apu _ _ (J b a)).trans e) G (λb o e=>(apu _ _ (λz:S=b=>by rw[<-z,f]at e;cases e)).trans (M b o e)) (apR _ l rfl) λO D p q E=>?_⟩;exact K O D p q λb o g j e=>E b o g j ((apu _ _ (ape j)).trans (r b o g e))
end
section
variable{X:Cx}
def acP(hc:X.calm=true):bJ X (.builtin "min") (λxs H Q=>∃l g n c,xs=[.ref l]/\SqL X.K H l g/\0<g.length/\Paired (IsD X.K H n) g c/\(∀d∈c,∀e∈c,zc d e=true)/\X.A.units+1+n<cLine/\∀y,g[argBest (λi j=>ltv (c.getD i .none) (c.getD j .none)) (g.length-1)]?=some y->Q y H):=by
 intro C s σ H xs us Q I r h;obtain⟨l,g,n,c,rfl,hq,a1,hp,a0,hu,q⟩:=h;obtain⟨u,rfl,rx⟩:=vals1 r;cases rx;obtain⟨f,Y,pl,hz⟩:=I.list hq;have hl:=Y.length;have a2:=ou hp;have P:(toString "min"++toString ".loop":String)="min.loop":=by decide
 refine call_function_tree F.kind_min F.plain_min F.entry_min (F.args_min1 _) ?_;show wpAny _ X.A.in1 (Builtin.Builtins.bindParams "min" ["key","default"] 0 ⟨[],[]⟩>>=_) _ _ s;refine aoY (wpAny_of_eq (show Builtin.Builtins.bindParams "min" ["key","default"] 0 ⟨[],[]⟩=pure [none,none]from rfl) ?_);refine aoY (ao4 ?_);refine aoY (ar7 pl.isList ?_);refine aoY (apX ?_);rw[P];have ll:l<s.heap.objs.size:=by obtain⟨o,_,S,_⟩:=pl;exact apb S
 have fresh:∀a,s.heap.objs.size<=a->s.heap.get? a=none:=λa ha=>by cases e:s.heap.get? a with|none=>rfl|some o=>exact absurd (apb e) (asE.mpr ha)
 have t:(s.heap.push {cls:=.type "list_iterator",data:=.fields #[.ref l,.int 0 0]}).objs.size=s.heap.objs.size+1:=arb ..;have p:∀(i:Nat)(v:Value),f.toArray[i]?=some v->∃d x,c[i]?=some d/\Reads s.heap v d x/\d.canLay0=true/\d.depth<=n:=λi v hv=>by
  have z:f[i]?=some v:=by simpa using hv
  have B:i<g.length:=by have:=(ao3.mp z).1;omega
  obtain⟨u,m,N⟩:=Y.get (ao5 B);rw[z]at m;cases m;obtain⟨d,J,rd⟩:=mx hp (ao5 B);obtain⟨⟨x,T⟩,G,U⟩:=I.reads n d _ _ rd N;exact⟨d,x,J,T,G,U⟩
 have W:=Walks.list (prog:=X.prog) (w:=X.w) (A:=X.A.in1) (show X.A.in1.handled=none from I.ok.hd hc) s.heap.objs.size l (apm ll) f.toArray;have D:anH X.prog X.w X.A.in1 s.heap (λi v=>f.toArray[i]?=some v) (λi j=>ltv (c.getD i .none) (c.getD j .none)):=by
  intro i j vi K s' Q' E' pi pj kk R;obtain⟨d,x,J,T,G,U⟩:=p i vi pi;obtain⟨e,bs,he,rb,c2,d2⟩:=p j K pj;have ed:c.getD i .none=d:=by rw[apj,J];rfl
  have ee:c.getD j .none=e:=by rw[apj,he];rfl
  dsimp only at R;rw[ed,ee]at R;exact yN n d e X.A.in1 s' vi K x bs U (jG kk d vi x G T) (jG kk e K bs c2 rb) G c2 (a0 d (apI J) e (apI he)) (by show X.A.units+1+n<cLine;exact hu) X.prog X.w E' Q' R
 refine ao4 ⟨arZ aql _,yI W _ D (λb hb=>by
  have e:b=s.heap.objs.size:=by simpa using hb
  rw[e];exact fresh _ (ao6 _)) (s.heap.push {cls:=.type "list_iterator",data:=.fields #[.ref l,.int 0 0]}).objs.size (λhm=>?_) (fresh _ (by rw[t];exact aqL _)) (by simp;omega) ⟨⟨_,aoZ _ (apd _ rfl),rfl,rfl⟩,?_⟩ (λb o e=>aoZ _ (aoZ _ e)) (apd _ rfl) λv h' tk hP hk=>?_⟩
 ·rw[t]at hm;have M:s.heap.objs.size+1=s.heap.objs.size\/s.heap.objs.size+1=l:=by simpa using hm
  rcases M with h|h;·exact absurd h (Nat.succ_ne_self _)
  ·exact absurd ll (by rw[<-h];exact asE.mpr (aqL _))
 ·obtain⟨o,k,S,Z,a3,O⟩:=pl;exact⟨o,aoZ _ (aoZ _ S),Z,k,O⟩
 ·have E:f[argBest (λi j=>ltv (c.getD i .none) (c.getD j .none)) (g.length-1)]?=some v:=by
   have e:f.toArray.size-1=g.length-1:=by simp;omega
   rw[e]at hP;simpa using hP
  have B:argBest (λi j=>ltv (c.getD i .none) (c.getD j .none)) (g.length-1)<g.length:=by have:=(ao3.mp E).1;omega
  obtain⟨u,m,N⟩:=Y.get (ao5 B);rw[E]at m;cases m;have Ik:Inv X C σ H {s with heap:=h',toks:=tk}:=I.kept λb o e=>hk b o (by
    intro hb;have e':b=s.heap.objs.size:=by simpa using hb
    exact absurd (apb e) (by rw[e'];exact ap7 _)) (by rw[t];exact apm (ar6 (apb e))) (aoZ _ (aoZ _ e));exact⟨_,H,Ik,N,q _ (ao5 B)⟩
end
theorem wY:∀(a b c d:List Int),a.length=b.length->FM.lx (a++c) (b++d)=if a=b then FM.lx c d else FM.lx a b
|[],[],_,_,_=>by simp|[],_::_,_,_,h=>by simp at h|_::_,[],_,_,h=>by simp at h|x::a,y::b,c,d,h=>by
 have f:=wY a b c d (by simpa using h);simp only[ap1,FM.lx,f,arE];by_cases e:x=y;·simp[e]
 ·simp[e]
end L2
set_option autoImplicit true
set_option relaxedAutoImplicit true
namespace L2
open PySem PySem.Spec PyProof.Rows
section
variable{prog:Program}{w:World}{A:Around}{E:Value->Shared->Prop}{s:Shared}
def yG{it t:Addr}{i:Nat}{its:Array Value}{x:Value}{Q:Value->Shared->Prop}(a:s.heap.IsTupleIter it t i)(k:s.heap.IsTuple t its)(h:its[i]?=some x)(g:∀f,f.IsTupleIter it t (i+1)->Heap.SameBut it s.heap f->Q x {s with heap:=f}):wpAny (model prog w) A (Builtin.SmallTypes.nextOf (.ref it)) Q E s:=by obtain⟨o,c,j,b⟩:=id a;obtain⟨m,d,_,l,e⟩:=k;unfold Builtin.SmallTypes.nextOf;refine aoY (aqh (name:=Str.ofString "__next__") a.typeIs aqu (apV aqu a.typeIs arS ?_ (arP _)));show wpAny _ _ (field (.ref it) 0 >>=_) _ _ s;refine aoY (apJ c b (x:=.ref t) rfl ?_);show wpAny _ _ (if(Value.ref t==Value.none)=true then _ else _) _ _ s;rw[ao2 (show¬((Value.ref t==Value.none)=true)from ao7)];show wpAny _ _ (field (.ref it) 1 >>=_) _ _ s;refine aoY (apJ c b (x:=.int i 0) rfl ?_);show wpAny _ _ (seqItems? (.ref t)>>=_) _ _ s;refine aoY (aqx d e ?_);simp only[aqw,h];refine aoY (ard c b (by simp) (ao4 ⟨x,rfl,ao4 (g _ ?_ (Heap.SameBut.update ..))⟩));exact⟨_,apR _ c (arw (aqH b _)),(Obj.cls_mapFields ..).trans j,by rw[aqH b];simp[rawInt]⟩
def abe  (j:A.handled=none)(b:s.heap.IsTupleIter it t i)(n:s.heap.IsTuple t its)(k:its[i]?=none)(l:∀g e,Heap.ExtBut it s.heap g->(∃o,g.get? e=some o/\o.cls=.type "StopIteration")->E (.ref e) {s with heap:=g}):wpAny (model prog w) A (Builtin.SmallTypes.nextOf (.ref it)) Q E s:=by
 obtain⟨o,d,q,h⟩:=id b;obtain⟨r,c,_,p,f⟩:=n;unfold Builtin.SmallTypes.nextOf;refine aoY (aqh (name:=Str.ofString "__next__") b.typeIs aqu (apV aqu b.typeIs arS ?_ (arP _)));show wpAny _ _ (field (.ref it) 0 >>=_) _ _ s;refine aoY (apJ d h (x:=.ref t) rfl ?_);show wpAny _ _ (if(Value.ref t==Value.none)=true then _ else _) _ _ s;rw[ao2 (show¬((Value.ref t==Value.none)=true)from ao7)];show wpAny _ _ (field (.ref it) 1 >>=_) _ _ s;refine aoY (apJ d h (x:=.int i 0) rfl ?_);show wpAny _ _ (seqItems? (.ref t)>>=_) _ _ s;refine aoY (aqx c f ?_);simp only[aqw,k];refine aoY (asa (aoY (ard d h (by simp) ?_)));show wpAny _ _ (newExc (.type "StopIteration") []>>=_) _ _ _;refine aoY ?_;simp only[newExc,newTuple];refine aoY (apX ?_ (by size_fits));refine aoY (m:=firstArgMember _ _) (wpAny_of_eq (a:=Value.none) (by first|rfl|(simp only[firstArgMember];rfl)) ?_);refine apX ?_ (by size_fits);simp only[raiseNew];refine aoY (wpAny_handled ?_);first|rw[show A.in1.handled=none from j]|rw[j]
 refine aoY (ao4 (wpAny_throw ?_));exact l _ _ (((Heap.SameBut.update ..).extBut.push _).push _) ⟨_,apd _ rfl,rfl⟩
def yW{e it t:Addr}{i:Nat}{its:Array Value}{x c:Value}{Q:Option Value->Shared->Prop}(B:IsEnum s.heap e it i c)(K:s.heap.IsTupleIter it t i)(ht:s.heap.IsTuple t its)(hx:its[i]?=some x)(a:e≠it)(Z:∀n,IsEnumOut n e it ((i:Int)+1) x s.heap.objs.size->n.IsTupleIter it t (i+1)->n.get? s.heap.objs.size=some {cls:=.type "tuple",data:=.seq #[.int i s.toks,x]}->(∀b o,b≠e->b≠it->s.heap.get? b=some o->n.get? b=some o)->Q (some (.ref s.heap.objs.size)) {s with heap:=n,toks:=s.toks+1}):wpAny (model prog w) A (pyNext (.ref e)) Q E s:=by
 have Y:s.TypeIs (.ref e) "enumerate":=⟨_,B,rfl⟩;unfold pyNext;refine aoY (wpAny_attempt (aqh (name:=Str.ofString "__next__") Y aqQ (apV aqQ Y F.entry_enumerate_next ?_ (F.args_enumerate_next_1 _))));obtain⟨f,g,d,tk,os⟩:=s;show wpAny _ _ (field (.ref e) 2 >>=_) _ _ _;refine aoY (apJ B rfl (x:=.ref it) rfl ?_);refine aoY (yG K ht hx λh I u=>?_);replace u:Heap.SameBut it f h:=u;have G:IsEnum h e it i c:=(u.2 e a).trans B;show wpAny _ _ (field (.ref e) 3 >>=_) _ _ ⟨h,g,d,tk,os⟩;refine aoY (apJ G rfl (x:=rawInt i) rfl ?_);show wpAny _ _ (field (.ref e) 4 >>=_) _ _ ⟨h,g,d,tk,os⟩;refine aoY (apJ G rfl (x:=.none) rfl ?_);show wpAny _ _ (mkInt i >>=_) _ _ ⟨h,g,d,tk,os⟩;refine aoY (wpAny_mkInt ?_);show wpAny _ _ (setField (.ref e) 3 (rawInt ((i:Int)+1))>>=_) _ _ ⟨h,g,d,tk+1,os⟩;refine aoY (aqI G (by simp) λy U q=>?_);replace q:Heap.SameBut e h y:=q;replace U:IsEnum y e it ((i:Int)+1) c:=U;show wpAny _ _ (setField (.ref e) 4 .none >>=_) _ _ ⟨y,g,d,tk+1,os⟩;refine aoY (aqI U (by simp) λk J v=>?_);replace v:Heap.SameBut e y k:=v;replace J:IsEnum k e it ((i:Int)+1) c:=J;show wpAny _ _ (newTuple [.int i tk,x]>>=_) _ _ ⟨k,g,d,tk+1,os⟩;refine aoY (wpAny_newTuple ?_);have z:IsEnum (k.push {cls:=.type "tuple",data:=.seq #[.int i tk,x]}) e it ((i:Int)+1) c:=aoZ _ J;generalize q4:k.push {cls:=.type "tuple",data:=.seq #[.int i tk,x]}=h4 at z;have X:k.objs.size=f.objs.size:=by rw[v.1,q.1,u.1]
 have M:=apb B;have t4:h4.get? f.objs.size=some {cls:=.type "tuple",data:=.seq #[.int i tk,x]}:=by rw[<-q4,<-X];exact apd _ rfl
 have k4:∀b o,b≠e->b≠it->f.get? b=some o->h4.get? b=some o:=λb o j S O=>by rw[<-q4];exact aoZ _ (v.extBut b o j (q.extBut b o j (u.extBut b o S O)))
 have P:h4.IsTupleIter it t (i+1):=by rw[<-q4];obtain⟨o,ho,r⟩:=(I.extBut q.extBut (ape a)).extBut v.extBut (ape a);exact⟨o,aoZ _ ho,r⟩
 show wpAny _ _ (Builtin.SmallTypes.ownedTupleIsFree (.ref e)>>=_) _ _ ⟨h4,g,d,tk+1,os⟩;rw[X];refine aoY ?_;unfold Builtin.SmallTypes.ownedTupleIsFree;refine aoY (apJ z rfl (x:=.none) rfl (ao4 ?_));simp only[apU];refine aoY (asa ?_);refine aoY (apJ z rfl (x:=c) rfl ?_);refine aoY (aqI z (by simp) λC H l=>?_);replace l:Heap.SameBut e h4 C:=l;replace H:IsEnum C e it ((i:Int)+1) x:=H;show wpAny _ _ (Builtin.SmallTypes.ownedTupleHandOut (.ref e) (.ref f.objs.size)>>=_) _ _ ⟨C,g,d,tk+1,os⟩;refine aoY ?_;unfold Builtin.SmallTypes.ownedTupleHandOut;refine aoY (aqI H (by simp) λT N p=>?_);replace p:Heap.SameBut e C T:=p;replace N:IsEnumOut T e it ((i:Int)+1) x f.objs.size:=N;refine aqI N (by simp) λD R m=>?_;replace m:Heap.SameBut e T D:=m;replace R:IsEnumOut D e it ((i:Int)+1) x f.objs.size:=R;refine aoY (arQ (ao4 ⟨_,rfl,ao4 (Z D R ?_ ?_ ?_)⟩));·exact((P.extBut l.extBut (ape a)).extBut p.extBut (ape a)).extBut m.extBut (ape a)
 ·exact m.extBut _ _ (apQ M) (p.extBut _ _ (apQ M) (l.extBut _ _ (apQ M) t4))
 ·exact λb o j S O=>m.extBut b o j (p.extBut b o j (l.extBut b o j (k4 b o j S O)))
def ab8{e it t:Addr}{i:Nat}{its:Array Value}{f:Value}{Q:Option Value->Shared->Prop}(n:A.handled=none)(g:IsEnum s.heap e it i f)(a:s.heap.IsTupleIter it t i)(p:s.heap.IsTuple t its)(l:its[i]?=none)(j:∀d,Heap.ExtBut it s.heap d->Q none {s with heap:=d}):wpAny (model prog w) A (pyNext (.ref e)) Q E s:=by have h:s.TypeIs (.ref e) "enumerate":=⟨_,g,rfl⟩;unfold pyNext;refine aoY (wpAny_attempt (aqh (name:=Str.ofString "__next__") h aqQ (apV aqQ h F.entry_enumerate_next ?_ (F.args_enumerate_next_1 _))));show wpAny _ _ (field (.ref e) 2 >>=_) _ _ _;refine aoY (apJ g rfl (x:=.ref it) rfl ?_);refine aoY (abe n a p l λd x q c=>?_);obtain⟨o,k,m⟩:=c;refine aoY (ars (T:="StopIteration") (b:=true) ⟨o,k,m⟩ isSubtype_stop ?_);exact ao4 (j _ q)
end
section
open PySem.AutoSeq1(wpAny_loadPart')
def ab7(l:Addr)(its:Array Value)(n:Nat)(e:Option Addr)(sl:Array (Option Value)):Meets (Builtin.«enumerate.__new__» ⟨[.type "enumerate",.ref l],[]⟩) (λ_ R s=>s.heap.get? l=some {cls:=.type "tuple",dict:=e,data:=.seq its n,slots:=sl}/\R (.ok (.ret (.ref (s.heap.push {cls:=.type "tuple_iterator",data:=.fields #[.ref l,.int 0 0]}).objs.size))) {s with heap:=(s.heap.push {cls:=.type "tuple_iterator",data:=.fields #[.ref l,.int 0 0]}).push {cls:=.type "enumerate",data:=.fields #[.none,.bool false,.ref s.heap.objs.size,rawInt 0,.none,.none]}}):=.of_wp λf w A R s h=>by
  obtain⟨j,g,d,tk,os⟩:=s;obtain⟨a,h⟩:=h;have i:=sub_enumerate;have b:Heap.IsTuple (Shared.heap ⟨j,g,d,tk,os⟩) l its:=⟨_,a,rfl,n,rfl⟩;wp_walk using wpAny_loadPart' a;refine wpAny_stack_any λst=>ao4 ?_;split
  ·rename_i c _ _ _ _ _;cases(c==Value.type "enumerate");·wp_walk using wpAny_loadPart' a,aq7 b;exact⟨_,rfl,h⟩
   ·wp_walk using wpAny_loadPart' a,aq7 b;exact⟨_,rfl,h⟩
  ·wp_walk using wpAny_loadPart' a,aq7 b;exact⟨_,rfl,h⟩
variable{prog:Program}{w:World}{A:Around}{E:Value->Shared->Prop}{s:Shared}
def zf{l:Addr}{its:Array Value}{Q:Value->Shared->Prop}(k:s.heap.IsTuple l its)(h:∀a,IsEnum a (s.heap.objs.size+1) s.heap.objs.size 0 .none->a.IsTupleIter s.heap.objs.size l 0->(∀b o,s.heap.get? b=some o->a.get? b=some o)->Q (.ref (s.heap.objs.size+1)) {s with heap:=a}):wpAny (model prog w) A (call (.type "enumerate") [.ref l]) Q E s:=by
 obtain⟨⟨c,e,q,m⟩,p,f,n,g⟩:=k;replace f:c=.type "tuple":=f;replace g:q=.seq its n:=g;subst f g;refine callType_new F.called_enumerate (by decide) (F.typeCall_enumerate_1 _) (F.newCall_enumerate_1 _) (λd=>F.args_object_init_2 d _) F.entry_enumerate_new (ab7 l its n e m) ⟨p,?_⟩;have i:(s.heap.push {cls:=.type "tuple_iterator",data:=.fields #[.ref l,.int 0 0]}).objs.size=s.heap.objs.size+1:=arb ..;show _/\_;rw[i];have j:IsEnum ((s.heap.push {cls:=.type "tuple_iterator",data:=.fields #[.ref l,.int 0 0]}).push {cls:=.type "enumerate",data:=.fields #[.none,.bool false,.ref s.heap.objs.size,rawInt 0,.none,.none]}) (s.heap.objs.size+1) s.heap.objs.size 0 .none:=by have z:=apd (s.heap.push {cls:=.type "tuple_iterator",data:=.fields #[.ref l,.int 0 0]}) (o:={cls:=.type "enumerate",data:=.fields #[.none,.bool false,.ref s.heap.objs.size,rawInt 0,.none,.none]}) rfl;rw[i]at z;exact z
 exact⟨⟨_,j,rfl⟩,h _ j ⟨_,aoZ _ (apd _ rfl),rfl,rfl⟩ λb o x=>aoZ _ (aoZ _ x)⟩
end
def Inv.z3    (I:Inv X pins σ H s)(k:∀c o,c≠a->c≠b->s.heap.get? c=some o->h'.get? c=some o)(h:xQ X pins H a)(g:xQ X pins H b):Inv X pins σ H {s with heap:=h',toks:=t'}:=by
 have i:∀c u,H c=some u->c≠a/\c≠b:=λc u e=>⟨aM e h.1,aM e g.1⟩;have f:∀{c:Addr},c∉[a,b]->c≠a/\c≠b:=λ{c}d=>⟨λz=>d (by simp[z]),λz=>d (by simp[z])⟩;refine I.step (g':=s.gens) (d':=s.drawn) (ch:=[a,b]) (λc d=>?_) (λc o _ _ d e _=>k c o (f d).1 (f d).2 e) (λc o _ _ d e _=>⟨o.slots,k c o (f d).1 (f d).2 e⟩) (λ_ _ _ _ n=>n) (λc o d e=>⟨o,k c o (f d).1 (f d).2 e⟩) (λ_ _ e=>e) (λ_ _ _ e=>e) (λc y e=>⟨#[],by rw[e];simp⟩) (λm t=>?_) (λc u e=>?_) I.bare
 ·have j:c=a\/c=b:=by simpa using d
  rcases j with rfl|rfl;·exact⟨h.2.2.2.1,h.2.1,h.2.2.2.2.1,h.2.2.2.2.2⟩
  ·exact⟨g.2.2.2.1,g.2.1,g.2.2.2.2.1,g.2.2.2.2.2⟩
 ·obtain⟨o,w,x,p,r⟩:=t;exact⟨o,w,x,k _ o (ape h.2.1) (ape g.2.1) p,r⟩
 ·refine(I.hok c u e).vT (λl v d q=>k l v ?_ ?_ q) (λ_ q=>q) λ_ _ q=>q
  ·rcases d with z|z;·rw[z];exact(i c u e).1
   ·exact(i l _ z).1
  ·rcases d with z|z;·rw[z];exact(i c u e).2
   ·exact(i l _ z).2
def Ite(K:W.Frag)(a:Addr):It:=⟨λi H=>∃b x,SqT K H a b/\b[i]?=some x,λi H x c=>∃p,x=.ref p/\H p=none/\∀b,SqT K H a b->∃y,b[i]?=some y/\c=upd H p (.tup [.int i,y]),λi H=>∃b,SqT K H a b/\b.length<=i⟩
def x2{P:Program}{w:World}{K:W.Frag}{es:List Expr}{k:Nat}{pos:Pos}(a e it:Addr)(hne:e≠it):Turn P w K (.Tuple es k pos) (Ite K a) [e,it] e (λi h=>(∃old,IsEnum h e it i old)/\h.IsTupleIter it a i)where
 mem:=by simp
 obj:=λi h st b hb=>by
  obtain⟨⟨old,he⟩,o,ho,hc,hd⟩:=st;have hb':b=e\/b=it:=by simpa using hb
  rcases hb' with rfl|rfl;·exact⟨_,he,λv z=>by cases z⟩
  ·exact⟨o,ho,λv z=>by rw[hd]at z;cases z⟩
 keep:=λi h h' st kk=>by obtain⟨⟨old,he⟩,o,ho,r⟩:=st;exact⟨⟨old,kk e (by simp) _ he⟩,o,kk it (by simp) o ho,r⟩
 item:=by
  intro X hP hw hK i pins s σ H E hc I hf st hg;subst hP hw hK;obtain⟨⟨old,he⟩,hit⟩:=st;obtain⟨xs,x,hq,hx⟩:=hg;obtain⟨its,rv,p,hz⟩:=I.tuple hq;obtain⟨u,hu,ru⟩:=rv.get hx;have fe:=hf e (by simp);have fi:=hf it (by simp);refine yW he hit (show s.heap.IsTuple a its.toArray from p) (x:=u) (by simpa using hu) hne λh' eo it' tp kp=>?_;have I1:=I.z3 (t':=s.toks+1) kp fe fi;have hfr:=I.hok.fresh (ao6 _);have hnT:∀b o,s.heap.get? b=some o->b≠s.heap.objs.size:=λb o q=>apm (apb q);have I2:Inv X pins σ (upd H s.heap.objs.size (.tup [.int i,x])) {s with heap:=h',toks:=s.toks+1}:=by
   refine I1.z7 hfr I.sz (apQ I.lt) (λy c q=>?_) (λpp hp=>hnT _ _ (I.pin pp hp).1) ⟨by show 2<=sizeLine;decide,[.int i s.toks,u],.cons ⟨_,rfl⟩ (.cons ru .nil),?_⟩;·obtain⟨v,z⟩:=I.cell y c q;exact apm z.lt
   ·exact⟨_,tp,rfl,0,rfl⟩
  refine⟨_,rfl,ar0 (s:={s with heap:=h',toks:=s.toks+1}) eo λh2 e2 s2=>?_⟩;have hTe:=ape (hnT _ _ he);obtain⟨o1,ho1,_⟩:=hit;have hTi:=ape (hnT _ _ ho1);refine⟨.ref s.heap.objs.size,upd H s.heap.objs.size (.tup [.int i,x]),?_,rfl,⟨_,rfl,hfr,λys hy=>⟨x,by rw[I.qu hy hq];exact hx,rfl⟩⟩,⟨⟨_,e2⟩,?_⟩,λb hb=>?_⟩;·exact I2.turned (t':=s.toks+1) (it:=e) (λb o hb q=>(s2.2 b hb).trans q) (by rw[ag (ape hTe)];exact fe.1) fe.2.1 fe.2.2.2.1 fe.2.2.2.2.1 fe.2.2.2.2.2
  ·exact it'.extBut s2.extBut (ape hne)
  ·have hb':b=e\/b=it:=by simpa using hb
   rcases hb' with rfl|rfl;·rw[ag (ape hTe)];exact fe.1
   ·rw[ag (ape hTi)];exact fi.1
 done:=by intro X hP hw hK i pins s σ H E hc I hf st hg;subst hP hw hK;obtain⟨⟨old,he⟩,hit⟩:=st;obtain⟨xs,hq,hx⟩:=hg;obtain⟨its,rv,p,hz⟩:=I.tuple hq;have fi:=hf it (by simp);have hl:=rv.length;exact ab8 (I.ok.hd hc) he hit (show s.heap.IsTuple a its.toArray from p) (by simp;omega) λh' eb=>⟨rfl,I.turned (t':=s.toks) (λb o hb q=>eb b o hb q) fi.1 fi.2.1 fi.2.2.2.1 fi.2.2.2.2.1 fi.2.2.2.2.2⟩
 self:=λ_ _ _ _ _ h0_ h=>by obtain⟨⟨_,he⟩,_⟩:=h0_;exact ari he h
section
variable{X:Cx}
def uX(K:W.Frag)(d:TE):TI:=λc H R=>d c H λx b=>∃a,x=.ref a/\(∃e,SqT K b a e)/\R (Ite K a) b
end
end L2
namespace L2
open PySem PySem.Spec PyProof.Rows
section
variable{κ:Type}[DecidableEq κ]
noncomputable def vN(kvs:List (κ×V))(k:κ):Option V:=(kvs.find? λa=>decide (a.1=k)).map (·.2)
noncomputable def putK(kvs:List (κ×V))(k:κ)(v:V):List (κ×V):=if(kvs.any λa=>decide (a.1=k))=true then kvs.map (λa=>if a.1=k then(a.1,v)else a)else kvs++[(k,v)]
def iH{p:κ×V}{r:List (κ×V)}{k:κ}(e:p.1=k):vN (p::r) k=some p.2:=by simp[vN,ap6,e]
def iI{p:κ×V}{r:List (κ×V)}{k:κ}(e:¬p.1=k):vN (p::r) k=vN r k:=by simp[vN,ap6,e]
theorem oX(k:κ):∀a:List (κ×V),(a.any λb=>decide (b.1=k))=(vN a k).isSome
|[]=>rfl|p::r=>by
 rw[ar1];by_cases e:p.1=k;·simp only[iH e,apO e,Bool.true_or,Option.isSome_some]
 ·rw[iI e,api e,Bool.false_or];exact oX k r
def mO(kvs:List (κ×V))(k:κ)(v:V):(putK kvs k v).length<=kvs.length+1:=by
 unfold putK;split;·rw[apk];omega
 ·rw[apD,aph,aq0];omega
def tE.mT{o:Option V}{u:Option Value}(r:tE o u):o.isSome=u.isSome:=by cases o with
|none=>cases u with|none=>rfl|some _=>exact(show False from r).elim
|some _=>cases u with|none=>exact(show False from r).elim|some _=>rfl
def KV.val{kvs:List (κ×V)}{vs:List (κ×Value)}(r:KV kvs vs)(k:κ):tE (vN kvs k) (valueAt vs k):=by unfold KV at r;induction r with|nil=>exact True.intro|@cons p q ps qs h t ih=>
 obtain⟨c,d⟩:=h;by_cases e:p.1=k
 ·have a:q.1=k:=c.symm.trans e;have b:valueAt (q::qs) k=some q.2:=by simp[valueAt,ap6,a]
  rw[iH e,b];exact d
 ·have a:¬q.1=k:=λz=>e (c.trans z);have b:valueAt (q::qs) k=valueAt qs k:=by simp[valueAt,ap6,a]
  rw[iI e,b];exact ih
theorem KV.any{kvs:List (κ×V)}{vs:List (κ×Value)}(r:KV kvs vs)(k:κ):(kvs.any λa=>decide (a.1=k))=vs.any λa=>decide (a.1=k):=by unfold KV at r;induction r with|nil=>rfl|cons h t ih=>rw[ar1,ar1,ih,h.1]
def KV.aml{kvs:List (κ×V)}{vs:List (κ×Value)}(r:KV kvs vs)(k:κ){y:V}{u:Value}(d:RelV y u):KV (kvs.map λa=>if a.1=k then(a.1,y)else a) (vs.map λa=>if a.1=k then(a.1,u)else a):=by unfold KV at r⊢;induction r with|nil=>exact .nil|@cons p q ps qs h t ih=>
 rw[ao9,ao9];refine .cons ?_ ih;obtain⟨b,c⟩:=h;by_cases e:p.1=k;·rw[ao1 e,ao1 (b.symm.trans e)];exact⟨b,d⟩
 ·rw[ao2 e,ao2 (λz=>e (b.trans z))];exact⟨b,c⟩
def KV.put{kvs:List (κ×V)}{vs:List (κ×Value)}(r:KV kvs vs)(k:κ){y:V}{u:Value}(a:RelV y u):KV (putK kvs k y) (stored vs k u):=by
 unfold putK stored;rw[r.any k];by_cases e:(vs.any λb=>decide (b.1=k))=true;·rw[ao1 e,ao1 e];exact r.aml k a
 ·rw[ao2 e,ao2 e];exact Paired.snoc r ⟨rfl,a⟩
theorem KV.length{kvs:List (κ×V)}{vs:List (κ×Value)}(r:KV kvs vs):kvs.length=vs.length:=Paired.length r
end
def aeo{P:Program}{w:World}:∀{k:Key}{u:Value},RelV (kV k) u->(cj P w).is k u=true|.inl (some i),u,r=>by obtain⟨t,e⟩:=(show∃t,u=Value.int i t from r);subst e;exact uO P w i t|.inl none,u,r=>by cases(show u=Value.none from r);rfl|.inr x,u,r=>by obtain⟨t,e⟩:=(show∃t,u=Value.str x t from r);subst e;exact uN P w x t
def afh{P:Program}{w:World}{k:Key}{u:Value}(h:(cj P w).is k u=true):RelV (kV k) u:=by
 rcases br h with⟨i,t,rfl,rfl⟩|⟨x,t,rfl,rfl⟩|⟨rfl,rfl⟩;·exact⟨t,rfl⟩
 ·exact⟨t,rfl⟩
 ·rfl
theorem rX{P:Program}{w:World}:∀{ks:List Key}{us:List Value},Vals (ks.map kV) us->ItemsAre (cj P w) ks us|[],_,r=>by rw[aqB]at r;cases r;exact .nil|k::ks,_,r=>by rw[ao9]at r;cases r with|cons h t=>exact .cons (aeo h) (rX t)
abbrev KT(H:Hp):List (List Key×V)->List (List Key×Addr×Value)->Prop:=Paired λp q=>p.1=q.1/\H q.2.1=some (.tup (p.1.map kV))/\RelV p.2 q.2.2
def KT.val{H:Hp}{kvs:List (List Key×V)}{xs:List (List Key×Addr×Value)}(r:KT H kvs xs)(k:List Key):tE (vN kvs k) ((atKey xs k).map (·.2)):=by induction r with|nil=>exact True.intro|@cons p q ps qs h t ih=>
 obtain⟨c,_,d⟩:=h;by_cases e:p.1=k
 ·have a:q.1=k:=c.symm.trans e;have b:atKey (q::qs) k=some q.2:=by simp[atKey,ap6,a]
  rw[iH e,b];exact d
 ·have a:¬q.1=k:=λz=>e (c.trans z);have b:atKey (q::qs) k=atKey qs k:=by simp[atKey,ap6,a]
  rw[iI e,b];exact ih
def KT.aml{H:Hp}{kvs:List (List Key×V)}{xs:List (List Key×Addr×Value)}(r:KT H kvs xs)(k:List Key){y:V}{u:Value}(f:RelV y u):KT H (kvs.map λb=>if b.1=k then(b.1,y)else b) (xs.map (putAt k u)):=by induction r with|nil=>exact .nil|@cons p q ps qs h t ih=>
 rw[ao9,ao9];refine .cons ?_ ih;obtain⟨a,c,d⟩:=h;unfold putAt;by_cases e:p.1=k;·rw[ao1 e,ao1 (a.symm.trans e)];exact⟨a,c,f⟩
 ·rw[ao2 e,ao2 (λz=>e (a.trans z))];exact⟨a,c,d⟩
def KT.put{H:Hp}{kvs:List (List Key×V)}{xs:List (List Key×Addr×Value)}(r:KT H kvs xs)(k:List Key){b:Addr}{y:V}{u:Value}(d:H b=some (.tup (k.map kV)))(a:RelV y u):KT H (putK kvs k y) (storedH xs k b u):=by
 have e:(kvs.any λc=>decide (c.1=k))=(atKey xs k).isSome:=by rw[oX,(r.val k).mT,Option.isSome_map]
 unfold putK storedH;rw[e];by_cases q:(atKey xs k).isSome=true;·rw[ao1 q,ao1 q];exact r.aml k a
 ·rw[ao2 q,ao2 q];exact Paired.snoc r ⟨rfl,d,a⟩
def KT.keeps{H H':Hp}{kvs:List (List Key×V)}{xs:List (List Key×Addr×Value)}(r:KT H kvs xs)(c:∀b a,H b=some (.tup a)->H' b=some (.tup a)):KT H' kvs xs:=Paired.alv r λ_ _ z=>⟨z.1,c _ _ z.2.1,z.2.2⟩
section
variable{P:Program}{w:World}{H:Hp}{h:Heap}{a:Addr}
def ajb{u:HO}(ok:HOk P w H h)(e:Rd H a u):bO P w H h a u:=e.ok ok
def aci{kvs:List (Key×V)}(ok:HOk P w H h)(e:Rd H a (.dK kvs)):kvs.length<=sizeLine/\(a==sysModules)=false/\∃b,KV kvs b/\h.DictOf (cj P w) a b:=show bO P w H h a (.dK kvs)from ajb ok e
def ant{kvs:List (Key×V)}(ok:HOk P w H h)(e:H a=some (.dK kvs)):kvs.length<=sizeLine/\(a==sysModules)=false/\∃b,KV kvs b/\h.DictOf (cj P w) a b:=aci ok (.inl e)
def oD{ks:List Key}(ok:HOk P w H h)(e:H a=some (.tup (ks.map kV))):(tupleKind (cj P w)).is h ks a:=by obtain⟨_,b,r,o,c,d,n,f⟩:=(show bO P w H h a (.tup (ks.map kV))from ok a _ e);exact⟨o,b.toArray,n,c,d,f,by simpa using rX r⟩
def akP{kvs:List (List Key×V)}(ok:HOk P w H h)(e:Rd H a (.dT kvs)):kvs.length<=sizeLine/\(a==sysModules)=false/\∃c,KT H kvs c/\h.DictOfH (tupleKind (cj P w)) a c:=by
 obtain⟨z,y,c,r,o,j,k,g,d,f,i,n⟩:=(show bO P w H h a (.dT kvs)from ajb ok e);refine⟨z,y,c,r,o,j,k,g,d,f,i,λx b=>?_,n⟩;have all:∀{l:List (List Key×V)}{m:List (List Key×Addr×Value)},KT H l m->∀x∈m,(tupleKind (cj P w)).is h x.1 x.2.1:=by intro l m q;induction q with|nil=>intro x b;exact nomatch b|@cons p q ps qs hq t ih=>
   intro x b;rcases apl.mp b with e|b;·subst e;exact oD ok (by rw[<-hq.1];exact hq.2.1)
   ·exact ih x b
 exact all r x b
def anr{kvs:List (List Key×V)}(ok:HOk P w H h)(e:H a=some (.dT kvs)):kvs.length<=sizeLine/\(a==sysModules)=false/\∃b,KT H kvs b/\h.DictOfH (tupleKind (cj P w)) a b:=akP ok (.inl e)
end
def aor(H:Hp)(a:Addr)(y:V)(r:Option V):Prop:=(∃c k,Rd H a (.dK c)/\y=kV k/\r=vN c k)\/∃c k b,Rd H a (.dT c)/\y=.ref b/\H b=some (.tup (k.map kV))/\r=vN c k
def aik(H:Hp)(a:Addr)(y v:V)(H':Hp):Prop:=(∃c k,H a=some (.dK c)/\y=kV k/\c.length<sizeLine/\H'=upd H a (.dK (putK c k v)))\/∃c k b,H a=some (.dT c)/\y=.ref b/\H b=some (.tup (k.map kV))/\c.length<sizeLine/\H'=upd H a (.dT (putK c k v))
theorem aik.k{H:Hp}{a:Addr}{kvs:List (Key×V)}{k:Key}{v:V}(e:H a=some (.dK kvs))(b:kvs.length<sizeLine):aik H a (kV k) v (upd H a (.dK (putK kvs k v))):=.inl ⟨kvs,k,e,rfl,b,rfl⟩
section
variable{X:Cx}{pins:List (Addr×Obj)}{σ:St}{H:Hp}{s:Shared}{a:Addr}{y v:V}{u r:Value}{o:Option V}{A:Around}{E:Value->Shared->Prop}
def Inv.big(I:Inv X pins σ H s):sysModules<s.heap.objs.size:=by have h:mainGlobals<s.heap.objs.size:=(I.mod.glob.keeps I.bk).lt;exact Nat.lt_trans (by decide) h
def ahF{Q:Value->Shared->Prop}(n:A.units+1<cLine)(I:Inv X pins σ H s)(g:aor H a y o)(m:RelV y u)(h:∀j,Inv X pins σ H j->Q (.bool (!o.isSome)) j):wpAny (model X.prog X.w) A (compareOp .NotIn u (.ref a)) Q E s:=by
 rcases g with⟨i,k,e,f,l⟩|⟨i,k,b,e,f,p,l⟩;·subst f;obtain⟨z,d,t,c,dd⟩:=aci I.hok e;refine wpAny_notIn_of (aeo m) d dd.mapOf ?_;rw[<-(c.val k).mT,<-l];exact h _ (I.tok _)
 ·subst f;cases(show u=Value.ref b from m);obtain⟨z,d,w,c,dd⟩:=akP I.hok e;refine wpAny_notIn_heap (tupleKind_room_in1 n) (oD I.hok p) d dd ?_;have q:=(c.val k).mT;rw[Option.isSome_map]at q;rw[<-q,<-l];exact h _ (I.tok _)
def qg{h':Heap}{t':Nat}{ob:HO}(I:Inv X pins σ H s)(d:Mut (H a))(c:Heap.SameBut a s.heap h')(g:∃q,h'.get? a=some q)(new:bO X.prog X.w (upd H a ob) h' a ob):Inv X pins σ (upd H a ob) {s with heap:=h',toks:=t'}:=I.write (x:=a) (e:=a) d (.inl rfl) (λb q f z=>(c.2 b f).trans z) g new
def akR{P:Program}{w:World}{H':Hp}{h':Heap}{kvs:List (Key×V)}{vs:List (Key×Value)}(z:kvs.length<=sizeLine)(c:(a==sysModules)=false)(b:KV kvs vs)(dd:h'.DictOf (cj P w) a vs):bO P w H' h' a (.dK kvs):=⟨z,c,vs,b,dd⟩
def acr{H':Hp}{Q:Unit->Shared->Prop}(P:A.units+1<cLine)(I:Inv X pins σ H s)(g:aik H a y v H')(J:RelV y u)(D:RelV v r)(h:∀B,Inv X pins σ H' B->Q () B):wpAny (model X.prog X.w) A (setItem (.ref a) u r) Q E s:=by
 rcases g with⟨d,k,e,t,l,n⟩|⟨d,k,b,e,t,K,l,n⟩
 ·subst t n;obtain⟨z,x,S,f,dd⟩:=ant I.hok e;have w:S.length<=sizeLine:=by rw[<-f.length];exact z
  have p:(putK d k v).length<=sizeLine:=by have:=mO d k v;omega
  refine wpAny_setItem_pairs (hsz:=w) (aeo J) dd λG i m=>h _ ?_;have R:∃q,G.get? a=some q:=let⟨q,_,_,j,_⟩:=i;⟨q,j⟩;exact qg I (by rw[e];exact True.intro) m R (akR p x (f.put k D) i)
 ·subst t n;cases(show u=Value.ref b from J);obtain⟨z,x,O,f,dd⟩:=anr I.hok e;have w:O.length<=sizeLine:=by rw[<-Paired.length f];exact z
  have p:(putK d k v).length<=sizeLine:=by have:=mO d k v;omega
  refine wpAny_setItem_heap (hsz:=w) (tupleKind_room_in1 P) (oD I.hok K) dd λG i m=>h _ ?_;obtain⟨q,U,Y,j,M,N,T,_,Z⟩:=i;refine qg I (by rw[e];exact True.intro) m ⟨q,j⟩ ⟨p,x,_,(f.put k K D).keeps λc ys C=>?_,q,U,Y,j,M,N,T,Z⟩;rw[ag (amZ C e (λz=>nomatch z))];exact C
end
section
variable{X:Cx}{pins:List (Addr×Obj)}{σ:St}{H:Hp}{s:Shared}{a:Addr}{kvs:List (Key×V)}{k:Key}{u:Value}{A:Around}{E:Value->Shared->Prop}
def anu{Q:Value->Shared->Prop}(I:Inv X pins σ H s)(e:Rd H a (.dK kvs))(h:∀t c,Inv X pins σ H c->Q (.int kvs.length t) c):wpAny (model X.prog X.w) A (call (.builtin "len") [.ref a]) Q E s:=by obtain⟨z,d,f,b,dd⟩:=aci I.hok e;refine call_len_dict d dd (by rw[<-b.length];rw[aqK]at z;omega) ?_;rw[<-b.length];exact h _ _ (I.tok _)
end
def amh(f ty tv:TE):TS:=λD b H=>tv b H λv g=>f b g λx d=>ty b d λy e=>∃a c,x=.ref a/\aik e a y v c/\D.nx b c
section
variable{X:Cx}{o i e value:Expr}{pos pos' tpos:Pos}{td ty tv:TE}
def aaQ(z:X.A.units+1<cLine)(j:PE X o td)(n:PE X i ty)(l:PE X value tv)(d:swapsWith value (some (.Subscript o i pos')) pos.line X.env=pure false):PS X (.Assign [.Subscript o i pos'] value pos) (amh td ty tv):=by intro b s c H D I h;refine wpAny_Assign_Subscript (thn (l b s c H _ I h) λr G⟨v,A,m,p,B⟩=>thn (j b G c A _ m B) λu E⟨x,C,k,f,q⟩=>thn (n b E c C _ k q) λP Q⟨y,N,J,M,a,K,ex,g,t⟩=>?_) d;subst ex;obtain rfl:u=Value.ref a:=f;exact acr z J g M p λO w=>⟨c,K,w,t⟩
end
def aeJ{P:Program}{w:World}{H:Hp}(h:Heap)(a:sysModules<h.objs.size):bO P w H (h.push {cls:=.type "dict",data:=.dict #[]}) h.objs.size (.dK []):=⟨apH _,apA.mpr (ape (apm a)),[],.nil,Heap.DictOf.new h⟩
def aiX:TE:=λ_ H Q=>∀p,H p=none->Q (.ref p) (upd H p (.dK []))
section
variable{X:Cx}{pos:Pos}
def wD:PE X (.Dict [] [] pos) aiX:=λb s c H Q I h=>wpAny_Dict_empty ⟨.ref s.heap.objs.size,_,I.laid (a:=s.heap.objs.size) (o:=.dK []) (t':=s.toks) (λ_ _ q=>aoZ _ q) (ao6 _) (aeJ s.heap I.big),rfl,h _ (I.hok.fresh (ao6 _))⟩
end
def Itd(a:Addr)(od:Obj)(kvs:List (Key×V)):It:=⟨λi H=>H a=some (.frz od (.dK kvs))/\i<kvs.length,λi H x b=>b=H/\∃p,kvs[i]?=some p/\x=kV p.1,λi H=>H a=some (.frz od (.dK kvs))/\kvs.length<=i⟩
section
variable{X:Cx}{pins:List (Addr×Obj)}{σ:St}{H:Hp}{s:Shared}{a:Addr}{kvs:List (Key×V)}{od:Obj}
def Inv.akF(I:Inv X pins σ H s)(e:H a=some (.frz od (.dK kvs))):(a==sysModules)=false/\∃d b c,KV kvs d/\od.data=.dict b c/\s.heap.DictAt (cj X.prog X.w) a d c:=by obtain⟨g,z,n,d,f,o,b,c,h,m,i,l,j,k⟩:=(show bO X.prog X.w H s.heap a (.frz od (.dK kvs))from I.hok a _ e);rw[g]at h;cases h;exact⟨n,d,b,c,f,i,od,b,g,m,i,l,j,k⟩
def KV.get{kvs:List (Key×V)}{vs:List (Key×Value)}(r:KV kvs vs){i:Nat}{p:Key×V}(e:kvs[i]?=some p):∃q:Key×Value,vs[i]?=some q/\p.1=q.1/\RelV p.2 q.2:=by unfold KV at r;induction r generalizing i with|nil=>simp at e|cons h t ih=>cases i with|zero=>simp at e;subst e;exact⟨_,rfl,h⟩|succ i=>simpa using ih (by simpa using e)
end
def z5{P:Program}{w:World}{K:W.Frag}{tg:Expr}(a it:Addr)(od:Obj)(kvs:List (Key×V))(ep:Nat)(hep:∃es,od.data=.dict es ep):Turn P w K tg (Itd a od kvs) [it] it (λi h=>h.IsKeyIter it a i kvs.length ep)where
 mem:=by simp
 obj:=λi h st b hb=>by
  have e:b=it:=by simpa using hb
  subst e;obtain⟨o,e,c,d⟩:=st;exact⟨o,e,λv z=>by rw[d]at z;cases z⟩
 keep:=λi h h' st k=>st.at λo e=>k it (by simp) o e;item:=by intro X hP hw hK i pins s σ H E hc I hf st hg;subst hP hw hK;obtain⟨hq,hi⟩:=hg;obtain⟨hd,vs,es,ep',rel,hdat,hat⟩:=I.akF hq;obtain⟨es',he⟩:=hep;rw[hdat]at he;cases he;obtain⟨q,hx,hk,rq⟩:=rel.get (ao5 hi);obtain⟨k,v⟩:=q;obtain⟨f0,f1,f2,f3,f4,f5⟩:=hf it (by simp);have hl:=rel.length;refine wpAny_pyNext_dict_item (show s.heap.IsKeyIter it a i vs.length ep by rw[<-hl];exact st) hat hx λkey h' hkey st' sb=>?_;have I1:Inv X pins σ H {s with heap:=h'}:=I.turned (t':=s.toks) (λb o hb e=>(sb.2 b hb).trans e) f0 f1 f3 f4 f5;obtain⟨o,e,c,d⟩:=id st';refine⟨key,rfl,yT (s:={s with heap:=h'}) e c d (by decide) ⟨kV kvs[i].1,H,I1,?_,⟨rfl,kvs[i],ao5 hi,rfl⟩,by rw[hl];exact st',λb hb=>(hf b hb).1⟩⟩;rw[hk];exact afh hkey
 done:=by intro X hP hw hK i pins s σ H E hc I hf st hg;subst hP hw hK;obtain⟨hq,hi⟩:=hg;obtain⟨hd,vs,es,ep',rel,hdat,hat⟩:=I.akF hq;obtain⟨es',he⟩:=hep;rw[hdat]at he;cases he;obtain⟨f0,f1,f2,f3,f4,f5⟩:=hf it (by simp);have hl:=rel.length;exact wpAny_pyNext_dict_end (I.ok.hd hc) (show s.heap.IsKeyIter it a i vs.length ep by rw[<-hl];exact st) hat (by simp;omega) λh' eb=>⟨rfl,I.turned (t':=s.toks) (λb o hb e=>eb b o hb e) f0 f1 f3 f4 f5⟩
 self:=λ_ _ _ _ _ st h=>wpAny_pyIter_keyiter st h
def aoJ(e:TE):TI:=λd H R=>e d H λx c=>∃a od b,x=.ref a/\c a=some (.frz od (.dK b))/\R (Itd a od b) c
def uv{X:Cx}{p l:Expr}{n:TE}(y:PE X l n):PI X p l (aoJ n):=by
 intro c s C H R I h;refine thn (y c s C H _ I h) λv g m=>?_;obtain⟨x,z,f,t,A⟩:=m;obtain⟨a,od,k,e,r,q⟩:=A;subst e;cases t;obtain⟨w,E,B,D,i,d,j⟩:=f.akF r;refine wpAny_pyIter_dict w j ?_;refine⟨g.heap.objs.size,[g.heap.objs.size],_,_,z,rfl,f.kept (t':=g.toks) λb o e=>aoZ _ e,z5 a _ od k D ⟨B,d⟩,⟨_,apd _ rfl,rfl,by rw[i.length];rfl⟩,λb u=>?_,q⟩;have e:b=g.heap.objs.size:=by simpa using u
 subst e;exact f.aic (ao6 _) (f.hok.fresh (ao6 _))
def Inv.ahs{X:Cx}{pins:List (Addr×Obj)}{σ:St}{H:Hp}{s:Shared}{a:Addr}{kvs:List (Key×V)}(I:Inv X pins σ H s)(e:H a=some (.dK kvs)):∃od,Inv X pins σ (upd H a (.frz od (.dK kvs))) s/\∀o u,X.H₀ a≠some (.frz o u):=by have ob:bO X.prog X.w H s.heap a (.dK kvs):=I.hok a _ e;obtain⟨z,d,f,b,o,g,h,c,r⟩:=id ob;refine⟨o,qg (t':=s.toks) (ob:=.frz o (.dK kvs)) I (by rw[e];exact True.intro) (Heap.SameBut.refl ..) ⟨o,c⟩ ⟨c,z,d,f,b,o,g,h,c,r⟩,λi u z=>?_⟩;have:=I.base.frzs a i u z;rw[e]at this;cases this
def Inv.r6{X:Cx}{pins:List (Addr×Obj)}{σ:St}{H:Hp}{s:Shared}{a:Addr}{kvs:List (Key×V)}{od:Obj}(I:Inv X pins σ H s)(e:H a=some (.frz od (.dK kvs)))(m:∀o u,X.H₀ a≠some (.frz o u)):Inv X pins σ (upd H a (.dK kvs)) s:=by
 have ob:bO X.prog X.w H s.heap a (.frz od (.dK kvs)):=I.hok a _ e;have f:∀{b:Addr},H b=none->upd H a (.dK kvs) b=none:=λ{b}z=>by rw[ag (λq=>by rw[q,e]at z;cases z)];exact z
 refine⟨I.ok,I.os,I.bare,⟨I.base.keep,I.base.slot,λb o q n l=>f (I.base.free b o q n l),I.base.there,λb i q=>?_,λb o u q=>?_,λb w q=>?_⟩,I.loc,I.cell,f I.free,λx c q=>f (I.freeC x c q),λp k=>?_,λb u q=>?_,I.len⟩;·have z:=I.base.tups b i q;rw[ag (λy=>by rw[y,e]at z;cases z)];exact z
 ·have z:=I.base.frzs b o u q;rw[ag (λy=>by rw[y]at q;exact m _ _ q)];exact z
 ·obtain⟨d,z⟩:=I.base.tbls b w q;exact⟨d,by rw[ag (λy=>by rw[y,e]at z;cases z)];exact z⟩
 ·obtain⟨v,j,t⟩:=I.pin p k;exact⟨v,f j,t⟩
 ·have g:∀{b:Addr}{u:HO},bO X.prog X.w H s.heap b u->bO X.prog X.w (upd H a (.dK kvs)) s.heap b u:=λ{b u}x=>x.vT (λ_ _ _ q=>q) (λc r=>by rw[ag (λy=>by rw[y,e]at r;cases r)];exact r) λc i r=>by rw[ag (λy=>by rw[y,e]at r;cases r)];exact r
  by_cases h:b=a;·subst h;rw[ao]at q;cases q;exact g ob.2
  ·rw[ag h]at q;exact g (I.hok b u q)
def alP(K:W.Frag)(a:Addr):It:=⟨λi H=>∃b x,SqL K H a b/\b[i]?=some x,λi H x c=>∃p,x=.ref p/\H p=none/\∀b,SqL K H a b->∃y,b[i]?=some y/\c=upd H p (.tup [.int i,y]),λi H=>∃b,SqL K H a b/\b.length<=i⟩
def x3{P:Program}{w:World}{K:W.Frag}{es:List Expr}{k:Nat}{pos:Pos}(a e it:Addr)(hne:e≠it):Turn P w K (.Tuple es k pos) (alP K a) [e,it] e (λi h=>(∃old,IsEnum h e it i old)/\h.IsListIter it a i)where
 mem:=by simp
 obj:=λi h st b hb=>by
  obtain⟨⟨old,he⟩,o,ho,hc,hd⟩:=st;have hb':b=e\/b=it:=by simpa using hb
  rcases hb' with rfl|rfl;·exact⟨_,he,λv z=>by cases z⟩
  ·exact⟨o,ho,λv z=>by rw[hd]at z;cases z⟩
 keep:=λi h h' st kk=>by obtain⟨⟨old,he⟩,o,ho,r⟩:=st;exact⟨⟨old,kk e (by simp) _ he⟩,o,kk it (by simp) o ho,r⟩
 item:=by
  intro X hP hw hK i pins s σ H E hc I hf st hg;subst hP hw hK;obtain⟨⟨old,he⟩,hit⟩:=st;obtain⟨xs,x,hq,hx⟩:=hg;obtain⟨its,rv,p,hz⟩:=I.list hq;obtain⟨u,hu,ru⟩:=rv.get hx;have fe:=hf e (by simp);have fi:=hf it (by simp);refine wpAny_pyNext_enum_item he hit p.isList (x:=u) (by simpa using hu) hne λh' eo it' tp _ kp=>?_;have I1:Inv X pins σ H {s with heap:=h',toks:=s.toks+1}:=I.z3 (t':=s.toks+1) kp fe fi;have hfr:H s.heap.objs.size=none:=I.hok.fresh (ao6 _);have hnT:∀b o,s.heap.get? b=some o->b≠s.heap.objs.size:=λb o q=>apm (apb q);have I2:Inv X pins σ (upd H s.heap.objs.size (.tup [.int i,x])) {s with heap:=h',toks:=s.toks+1}:=by
   refine I1.z7 hfr I.sz (apQ I.lt) (λy c q=>?_) (λpp hp=>hnT _ _ (I.pin pp hp).1) ⟨by show 2<=sizeLine;decide,[.int i s.toks,u],.cons ⟨_,rfl⟩ (.cons ru .nil),?_⟩;·obtain⟨v,z⟩:=I.cell y c q;exact apm z.lt
   ·exact⟨_,tp,rfl,0,rfl⟩
  refine⟨_,rfl,ar0 (s:={s with heap:=h',toks:=s.toks+1}) eo λh2 e2 s2=>?_⟩;have hTe:s.heap.objs.size≠e:=ape (hnT _ _ he);obtain⟨o1,ho1,_⟩:=hit;have hTi:s.heap.objs.size≠it:=ape (hnT _ _ ho1);refine⟨.ref s.heap.objs.size,upd H s.heap.objs.size (.tup [.int i,x]),?_,rfl,⟨_,rfl,hfr,λys hy=>⟨x,by rw[I.w6 hy hq];exact hx,rfl⟩⟩,⟨⟨_,e2⟩,?_⟩,λb hb=>?_⟩;·exact I2.turned (t':=s.toks+1) (it:=e) (λb o hb q=>(s2.2 b hb).trans q) (by rw[ag (ape hTe)];exact fe.1) fe.2.1 fe.2.2.2.1 fe.2.2.2.2.1 fe.2.2.2.2.2
  ·exact it'.extBut s2.extBut (ape hne)
  ·have hb':b=e\/b=it:=by simpa using hb
   rcases hb' with rfl|rfl;·rw[ag (ape hTe)];exact fe.1
   ·rw[ag (ape hTi)];exact fi.1
 done:=by intro X hP hw hK i pins s σ H E hc I hf st hg;subst hP hw hK;obtain⟨⟨old,he⟩,hit⟩:=st;obtain⟨xs,hq,hx⟩:=hg;obtain⟨its,rv,p,hz⟩:=I.list hq;have fi:=hf it (by simp);have hl:=rv.length;exact wpAny_pyNext_enum_end (I.ok.hd hc) he hit p.isList (by simp;omega) λh' eb=>⟨rfl,I.turned (t':=s.toks) (λb o hb q=>eb b o hb q) fi.1 fi.2.1 fi.2.2.2.1 fi.2.2.2.2.1 fi.2.2.2.2.2⟩
 self:=λ_ _ _ _ _ h0_ h=>by obtain⟨⟨_,he⟩,_⟩:=h0_;exact ari he h
section
variable{X:Cx}
def akx(K:W.Frag)(e:TE):TI:=λd H R=>e d H λx b=>∃a,x=.ref a/\(((∃c,SqT K b a c)/\R (Ite K a) b)\/((∃c,SqL K b a c)/\R (alP K a) b))
def uu{l:Expr}{y:TE}{es:List Expr}{k:Nat}{K p pos:Pos}(P:Gl X "enumerate")(M:X.mg "enumerate"=none)(J:PE X l y)(C:starEach [l] X.env=[(false,eval l X.env)]:=by rfl):PI X (.Tuple es k K) (.Call (.Name "enumerate" p) [l] [] pos) (akx X.K y):=by intro f s U H R I h;have G:PA X [l] (lU y aae):=bU J fu (by rw[C];rfl);refine Call_ (mQ I P M boot_enumerate (ap5 (thn (G pos f s U H (λA g=>match A with|[x]=>(∃a,x=.ref a/\(((∃n,SqT X.K g a n)/\R (Ite X.K a) g)\/((∃n,SqL X.K g a n)/\R (alP X.K a) g)))|_=>False) I h) λY c B=>?_) C rfl));obtain⟨A,g,j,z,d⟩:=B;match A,d,z with
|[x],d,z=>
  obtain⟨a,rfl,d⟩:=d;obtain⟨u,rfl,Q⟩:=vals1 z;cases Q;have D:c.heap.objs.size+1≠c.heap.objs.size:=Nat.succ_ne_self _;have E:∀b∈[c.heap.objs.size+1,c.heap.objs.size],xQ X f g b:=λb T=>by
   have v:b=c.heap.objs.size+1\/b=c.heap.objs.size:=by simpa using T
   have m:c.heap.objs.size<=b:=by
    rcases v with e|e;·rw[e];exact aqL _
    ·rw[e];exact ao6 _
   exact j.aic m (j.hok.fresh m)
  rcases d with⟨⟨n,t⟩,q⟩|⟨⟨n,t⟩,q⟩;·obtain⟨o,N,p,S⟩:=j.tuple t;refine zf (show c.heap.IsTuple a o.toArray from p) λO r i w=>ari r ?_;exact⟨c.heap.objs.size+1,[c.heap.objs.size+1,c.heap.objs.size],_,_,g,rfl,j.kept (t':=c.toks) w,x2 a _ _ D,⟨⟨_,r⟩,i⟩,E,q⟩
  ·obtain⟨o,N,p,S⟩:=j.list t;refine call_enumerate_list p.isList λO r i _ w=>ari r ?_;exact⟨c.heap.objs.size+1,[c.heap.objs.size+1,c.heap.objs.size],_,_,g,rfl,j.kept (t':=c.toks) w,x3 a _ _ D,⟨⟨_,r⟩,i⟩,E,q⟩|[],d,_=>exact d.elim|_::_::_,d,_=>exact d.elim
end
section
variable{X:Cx}
def acR(M:X.calm=true):bJ X (.builtin "all") (λC H Q=>∃(l:Addr)(bs:List Bool),C=[.ref l]/\SqL X.K H l (bs.map V.bl)/\Q (.bl (bs.all id)) H):=by
 intro E s σ H C us Q I r h;obtain⟨l,bs,rfl,N,q⟩:=h;obtain⟨u,rfl,K⟩:=vals1 r;cases K;obtain⟨a,B,pl,hz⟩:=I.list N;have O:=B.length;have P:l<s.heap.objs.size:=by obtain⟨o,_,m,_⟩:=pl;exact apb m
 have t:∀(i:Nat)(v:Value),a.toArray[i]?=some v->∃b,bs[i]?=some b/\v=Value.bool b:=λi v T=>by
  have f:a[i]?=some v:=by simpa using T
  have c:i<(bs.map V.bl).length:=by have:=(ao3.mp f).1;omega
  obtain⟨u,d,D⟩:=B.get (ao5 c);rw[f]at d;cases d;have n:i<bs.length:=by simpa using c
  refine⟨bs[i],ao5 n,?_⟩;rw[List.getElem_map]at D;exact D
 refine call_all_walk (ar7 pl.isList ⟨s.heap.objs.size,_,_,_,_,_,λi=>bs.getD i false,rfl,Walks.list (prog:=X.prog) (w:=X.w) (A:=X.A.in1) (show X.A.in1.handled=none from I.ok.hd M) s.heap.objs.size l (apm P) a.toArray,⟨⟨_,apd _ rfl,rfl,rfl⟩,?_⟩,?_,λh' tk S=>?_⟩);·obtain⟨o,k,m,p,Y,x⟩:=pl;exact⟨o,aoZ _ m,p,k,x⟩
 ·intro i v J U E' R g;obtain⟨b,y,rfl⟩:=t i v R;have g:U (bs.getD i false) J:=g;rw[apj,y]at g;exact apP g
 ·have e:(List.range a.toArray.size).all (λi=>bs.getD i false)=bs.all id:=by
   have j:a.toArray.size=bs.length:=by simp at O⊢;omega
   rw[j,apB,apC,apC];constructor;·intro h b t;obtain⟨i,c,rfl⟩:=List.getElem_of_mem t;have:=h i (apW.mpr c);rw[apj,ao5 c]at this;exact this
   ·intro h i c;have c:=apW.mp c;rw[apj,ao5 c];exact h _ (aqa c)
  rw[e];exact⟨.bl _,H,I.kept λb o G=>S b o (by
  intro z;have Z:b=s.heap.objs.size:=by simpa using z
  exact absurd (apb G) (by rw[Z];exact ap7 _)) (aoZ _ G),rfl,q⟩
def abI:IxR X (λx y H Q=>∃a b k v,x=.ref a/\y=kV k/\Rd H a (.dK b)/\vN b k=some v/\Q v H):=by intro g c h s A H x y v u Q I j p⟨a,b,k,z,ex,m,e,l,q⟩i;subst ex m;cases(show v=Value.ref a from j);obtain⟨r,t,n,f,dd⟩:=aci I.hok e;obtain⟨w,hw,d⟩:=tE.some_of (v:=z) (o:=valueAt n k) (by rw[<-l];exact f.val k);exact tail_any dd.typeIs asb.lookup (wpAny_getItem_of (aeo p) dd.mapOf hw ⟨z,H,I.tok _,d,q⟩) i
def acW(w:World)(K:W.Frag)(a:Addr)(kvs:List (Str×V)):Prop:=∃b n,K.lookup a=some ⟨.type "dict",none,.dict b n,#[]⟩/\Paired (λ(p:Str×V)(e:DictEntry)=>(∃t,e.key=.str p.1 t)/\e.hash=PyData.keyHash w.params p.1/\RelV p.2 e.val) kvs b.toList
theorem oC{w:World}:∀{kvs:List (Str×V)}{es:List DictEntry},Paired (λ(p:Str×V)(e:DictEntry)=>(∃t,e.key=.str p.1 t)/\e.hash=PyData.keyHash w.params p.1/\RelV p.2 e.val) kvs es->W.KeysLit w.params es|_,_,.nil=>trivial|_,_,.cons ⟨⟨t,e1⟩,e2,_⟩ r=>⟨⟨_,t,e1,e2⟩,oC r⟩
theorem ab1{w:World}(k:Str)(v:V):∀{kvs:List (Str×V)}{es:List DictEntry},Paired (λ(p:Str×V)(e:DictEntry)=>(∃t,e.key=.str p.1 t)/\e.hash=PyData.keyHash w.params p.1/\RelV p.2 e.val) kvs es->kvs.lookup k=some v->∃e,es.find? (λe=>Value.isStrOf k e.key)=some e/\RelV v e.val
|_,_,.nil,h=>by simp at h|_,_,.cons (a:=p) (b:=e) ⟨⟨t,e1⟩,e2,rv⟩ r,h=>by
 by_cases c:k=p.1;·obtain⟨d,l⟩:=p;subst c;simp[List.lookup]at h;subst h;exact⟨e,by simp[List.find?,e1,Value.isStrOf],rv⟩
 ·obtain⟨d,l⟩:=p;have f:(k==d)=false:=by simpa using c
  simp only[List.lookup,f]at h;obtain⟨j,g,i⟩:=ab1 k v r h;refine⟨j,?_,i⟩;rw[ap6,e1];have:Value.isStrOf k (.str d t)=false:=by simp[Value.isStrOf];exact λz=>c z.symm
  rw[this];exact g
def aep{a0:Addr}{kvs:List (Str×V)}(D:acW X.w X.K a0 kvs):IxR X (λx y H Q=>x=.ref a0/\∃k v,y=.str k/\kvs.lookup k=some v/\Q v H):=by intro a b c s A H x y v u Q I g o⟨ex,k,z,j,l,q⟩f;subst ex j;cases(show v=Value.ref a0 from g);obtain⟨t,rfl⟩:=(show∃t,u=Value.str k t from o);obtain⟨r,n,m,p⟩:=D;obtain⟨e,i,h⟩:=ab1 k z p l;have d:=W.mapOf_K (prog:=X.prog) (w:=X.w) I.kIn m (oC p);refine tail_any d.typeIs asb.lookup (wpAny_getItem_of (strKind_is X.prog X.w k t) d (v:=e.val) ?_ ⟨z,H,I.tok _,h,q⟩) f;unfold findBy;rw[<-arR,i];rfl
end
end L2
set_option autoImplicit true
set_option relaxedAutoImplicit true
namespace L2
open PySem PySem.Spec PyProof.Rows
def V12(vs:Array Value)(v:Value):Prop:=vs[1]?=some v/\vs[2]?=some .none
def Trc(h:Heap)(e C:Addr)(dx:Option Addr)(f:Value):Option Addr->Prop|none=>∃a b,h.get? e=some a/\a.cls=.ref C/\a.dict=dx/\a.data=.fields b/\V12 b .none|some T=>T≠e/\∃a b d c,h.get? e=some a/\a.cls=.ref C/\a.dict=dx/\a.data=.fields b/\V12 b (.ref T)/\h.get? T=some d/\d.data=.fields c/\c[3]?=some f
def Trc.there{h:Heap}{e C:Addr}{dx:Option Addr}{j:Value}{T:Option Addr}(t:Trc h e C dx j T):∃a b,h.get? e=some a/\a.cls=.ref C/\a.dict=dx/\a.data=.fields b/\b[2]?=some .none:=by cases T with|none=>obtain⟨a,b,c,d,i,f,g⟩:=t;exact⟨a,b,c,d,i,f,g.2⟩|some T=>obtain⟨_,a,b,_,_,c,d,i,f,g,_⟩:=t;exact⟨a,b,c,d,i,f,g.2⟩
def Trc.keeps{h h':Heap}{e C:Addr}{dx:Option Addr}{f:Value}{T:Option Addr}(t:Trc h e C dx f T)(k:∀b o,(b=e\/T=some b)->h.get? b=some o->h'.get? b=some o):Trc h' e C dx f T:=by cases T with|none=>obtain⟨a,c,d,r⟩:=t;exact⟨a,c,k _ _ (.inl rfl) d,r⟩|some T=>obtain⟨l,a,c,j,n,d,g,i,m,q,p,r⟩:=t;exact⟨l,a,c,j,n,k _ _ (.inl rfl) d,g,i,m,q,k _ _ (.inr rfl) p,r⟩
def Obj.nP(f:Array Value->Array Value)(o:Obj):(o.mapFields f).dict=o.dict:=by obtain⟨c,d,a,b⟩:=o;cases a<;>rfl
section
variable{M:Model}{A:Around}{E:Value->Shared->Prop}{s:Shared}
def sy{w:Heap}{g:Env}{d:List Env}{L e C:Addr}{x:Obj}{vs:Array Value}{head:Value}{j:Bool}{Q:Unit->Shared->Prop}(K:A.frames=some (g::d))(N:s.heap.FunFrames w (g::d))(T:g.frame=some L)(O:s.heap.get? e=some x)(J:x.data=.fields vs)(hsz:1<vs.size)(v:vs[2]?=some .none)(h:∀G P,(∀b o,s.heap.get? b=some o->b≠e->b∉frs (g::d)->G.get? b=some o)->(∀b o,s.heap.get? b=some o->b∈frs (g::d)->∃H,G.get? b=some {o with slots:=H})->s.heap.objs.size<=P->Trc G e C x.dict (rawInt L) (some P)->Q () {s with heap:=G})(R:x.cls=.ref C):wpAny M A (do let a <-frameOf g;let pl <-entryPlaceOf L j;let b <-EntryCells.newEntry head a .none (rawInt L) .none pl;setField (.ref e) 1 b) Q E s:=by
 have m:e ∉(g::d).filterMap (·.frame):=λS=>by obtain⟨_,o,D,I⟩:=N.mem S;rw[O]at D;injection D with D;subst D;exact I vs J
 refine aoY (wpAny_frameOf_fun K N T λc f=>?_);refine aoY (wpAny_entryPlaceOf λpl u=>?_);unfold EntryCells.newEntry newFields;refine aoY (apX ?_ (u.sizeOk5 _ _ _ _ _));have l:c.get? e=some x:=(f.2.1 e m).trans O;have k:=aoZ {cls:=.type "traceback",dict:=none,data:=.fields ([head,.ref L,.none,rawInt L,.none]++(if pl.isEmpty then List.replicate 6 Value.none else pl)).toArray} l;refine ard k J hsz ?_;have B:=apQ (apb l);have i:=aqH J (·.setIfInBounds 1 (Value.ref c.objs.size));have t:=apR (Obj.mapFields (·.setIfInBounds 1 (Value.ref c.objs.size))) k (arw i);have p:=(apu (c.push {cls:=.type "traceback",dict:=none,data:=.fields ([head,.ref L,.none,rawInt L,.none]++(if pl.isEmpty then List.replicate 6 Value.none else pl)).toArray}) (Obj.mapFields (·.setIfInBounds 1 (Value.ref c.objs.size))) (ape B)).trans (apd c rfl);have keep:∀b o,b≠e->c.get? b=some o->((c.push {cls:=.type "traceback",dict:=none,data:=.fields ([head,.ref L,.none,rawInt L,.none]++(if pl.isEmpty then List.replicate 6 Value.none else pl)).toArray}).update e (Obj.mapFields (·.setIfInBounds 1 (Value.ref c.objs.size)))).get? b=some o:=λb o n y=>by rw[apu _ _ (ape n)];exact aoZ _ y
 refine h _ c.objs.size (λb o y n r=>keep b o n ((f.2.1 b r).trans y)) (λb o y r=>?_) ?_ ?_;·obtain⟨H,q⟩:=f.2.2 b o y;exact⟨H,keep b _ (λz=>m (z▸r)) q⟩
 ·rw[f.1];exact ao6 _
 ·exact⟨B,_,_,_,_,t,(Obj.cls_mapFields _ _).trans R,Obj.nP _ _,i,⟨by simp[hsz],by rw[Array.getElem?_setIfInBounds];simpa using v⟩,p,rfl,by first|(simp;done)|(rcases u with rfl|⟨_,_,_,_,_,_,_,rfl⟩<;>simp)⟩
def wQ{n:Heap}{f:Env}{a:List Env}{L e C:Addr}{dx:Option Addr}{X:Value}{T:Option Addr}{Q:Unit->Shared->Prop}(u:A.frames=some (f::a))(B:s.heap.FunFrames n (f::a))(N:f.frame=some L)(U:Trc s.heap e C dx X T)(J:(X==rawInt L)=false)(h:∀i m,(∀b o,s.heap.get? b=some o->b≠e->T≠some b->b∉frs (f::a)->i.get? b=some o)->(∀b o,s.heap.get? b=some o->b∈frs (f::a)->∃sl,i.get? b=some {o with slots:=sl})->s.heap.objs.size<=m->Trc i e C dx (rawInt L) (some m)->Q () {s with heap:=i}):wpAny M A (noteFrame (.ref e) f) Q E s:=by unfold noteFrame;simp only[N];cases T with|none=>obtain⟨oe,K,r,w,l,t,j⟩:=U;refine aoY (apJ r t j.1 ?_);rw[ao2 (by decide)];subst l;exact sy u B N r t (aqv.mp j.1).1 j.2 (λi m H x R D=>h i m (λb o d G _ I=>H b o d G I) x R D) w|some T=>
 obtain⟨O,oe,K,oT,ts,r,w,l,t,j,P,k,S⟩:=U;subst l;refine aoY (apJ r t j.1 ?_);rw[ao1 (by simp)];refine aoY (apJ P k S ?_);rw[ao2 (by rw[J];exact ao7)];refine aoY (ard P k (aqv.mp S).1 ?_);have other:∀b,b≠T->(s.heap.update T (Obj.mapFields (·.setIfInBounds 3 Value.none))).get? b=s.heap.get? b:=λb d=>apu _ _ (ape d);have c:∀b o,s.heap.get? b=some o->(∀K,o.data≠.fields K)->b≠T:=λb o d g q=>by rw[q,P]at d;injection d with d;subst d;exact g ts k
 have y:∀b∈frs (f::a),b≠T:=λb d=>by obtain⟨_,o,Y,g⟩:=B.mem d;exact c b o Y g
 refine sy u (B.of_keeps λb o d g=>⟨o,(other b (c b o d g)).trans d,rfl⟩) N ((other e (ape O)).trans r) t (aqv.mp j.1).1 j.2 (λi m H x R D=>h i m (λb o d G Z I=>?_) (λb o d p=>?_) ?_ D) w;·have v:b≠T:=λz=>Z (by rw[z]);exact H b o ((other b v).trans d) G I
 ·exact x b o ((other b (y b p)).trans d) p
 ·have z:(s.heap.update T (Obj.mapFields (·.setIfInBounds 3 Value.none))).objs.size=s.heap.objs.size:=Heap.size_after_update ..;rw[<-z];exact R
def abc{a:Env}{L e C T:Addr}{dx:Option Addr}{d:Value}{Q:Unit->Shared->Prop}(l:a.frame=some L)(j:Trc s.heap e C dx d (some T))(b:(d==rawInt L)=true)(h:Q () s):wpAny M A (noteFrame (.ref e) a) Q E s:=by unfold noteFrame;simp only[l];obtain⟨m,p,t,r,u,g,q,o,i,k,n,c,f⟩:=j;refine aoY (apJ g i k.1 ?_);rw[ao1 (by simp)];refine aoY (apJ n c f ?_);rw[ao1 b];exact ao4 h
def yV   (u:Trc s.heap e C dx fl (some T))(h:∀i,(∀b o,s.heap.get? b=some o->b≠T->i.get? b=some o)->Trc i e C dx (fr.elim .none λf=>rawInt f) (some T)->Q () {s with heap:=i}):wpAny M A (setFlight (.ref e) fr) Q E s:=by obtain⟨d,p,t,x,w,k,q,j,l,m,n,c,r⟩:=u;have a:3<w.size:=(aqv.mp r).1;have other:∀b,b≠T->(s.heap.update T (Obj.mapFields (·.setIfInBounds 3 (fr.elim Value.none λf=>rawInt f)))).get? b=s.heap.get? b:=λb g=>apu _ _ (ape g);unfold setFlight;refine aoY (apJ k l m.1 ?_);rw[ao1 (by simp)];refine ard n c a (h _ (λb o g v=>(other b v).trans g) ?_);exact⟨d,p,t,_,_,(other e (ape d)).trans k,q,j,l,m,apR _ n (arw (aqH c _)),aqH c _,by simp[a]⟩
end
def mF{P:Program}{w:World}{H:Hp}{h:Heap}{a:Addr}{o:HO}(x:bO P w H h a o):∃ob,h.get? a=some ob:=by cases o with|lst xs=>obtain⟨_,_,_,_,e⟩:=x;exact⟨_,e⟩|tup xs=>obtain⟨_,_,_,o,e,_⟩:=x;exact⟨_,e⟩|dK kvs=>obtain⟨_,_,_,_,o,_,_,e,_⟩:=x;exact⟨_,e⟩|dT kvs=>obtain⟨_,_,_,_,o,_,_,e,_⟩:=x;exact⟨_,e⟩|set S n=>obtain⟨o,_,_,_,e,_⟩:=x;exact⟨_,e⟩|ins C dx fs=>obtain⟨_,_,_,e,_⟩:=x;exact⟨_,e⟩|own y=>exact x|xd fs=>obtain⟨_,⟨_,_,_,e,_⟩,_⟩:=x;exact⟨_,e⟩|rng lo hi=>obtain⟨_,_,_,e⟩:=x;exact⟨_,e⟩|frz ob u=>obtain⟨e,_⟩:=x;exact⟨_,e⟩|tbl ps=>exact⟨_,(x)⟩|met f y=>exact⟨_,(x)⟩|ext φ=>obtain⟨_,e,_⟩:=x;exact e
def FpX(X:Cx)(pins:List (Addr×Obj))(H:Hp)(b:Addr):Prop:=H b=none/\b≠X.env.locals/\b∉X.fs/\(b∈X.ex\/X.s₀.heap.get? b=none)/\(∀x c,X.env.cells.lookup x=some c->c≠b)/\∀p∈X.pn++pins,p.1≠b
structure Thr(X:Cx)(pins:List (Addr×Obj))(σ:St)(H:Hp)(s:Shared)(e C:Addr)(dx:Option Addr)(fl:Value)(T:Option Addr):Prop where
 inv:Inv X pins σ H s
 trc:Trc s.heap e C dx fl T
 fe:FpX X pins H e
 fT:∀t,T=some t->FpX X pins H t
section
variable{X:Cx}{pins:List (Addr×Obj)}{σ:St}{H:Hp}{s:Shared}{e C:Addr}{dx:Option Addr}{fl:Value}{T:Option Addr}
def Inv.fpX{H':Hp}(I:Inv X pins σ H s){b:Addr}(d:s.heap.get? b=none)(j:H' b=none):FpX X pins H' b:=by
 refine⟨j,λz=>?_,λz=>?_,?_,λx c i z=>?_,λp h z=>?_⟩;·obtain⟨m,⟨o,k,l,a,_⟩,_⟩:=I.loc;rw[<-z,d]at a;cases a
 ·obtain⟨_,o,a,_⟩:=I.ql.mem z;rw[d]at a;cases a
 ·by_cases f:b∈X.ex;·exact .inl f
  ·refine .inr ?_;cases q:X.s₀.heap.get? b with|none=>rfl|some o=>obtain⟨n,g⟩:=I.base.there b o q f;rw[d]at g;cases g
 ·obtain⟨v,o,a,_⟩:=I.cell x c i;rw[z,d]at a;cases a
 ·have:=(I.pin p h).1;rw[z,d]at this;cases this
def Inv.amm(I:Inv X pins σ H s){ch:List Addr}{h':Heap}(d:∀b∈ch,FpX X pins H b)(k:∀b o,s.heap.get? b=some o->b∉ch->b∉frs X.stack->h'.get? b=some o)(f:∀b o,s.heap.get? b=some o->b∉ch->b∈frs X.stack->∃h,h'.get? b=some {o with slots:=h}):Inv X pins σ H {s with heap:=h'}:=by
 have any:∀b o,s.heap.get? b=some o->b∉ch->∃h,h'.get? b=some {o with slots:=h}:=λb o q a=>by
  by_cases g:b∈frs X.stack;·exact f b o q a g
  ·exact⟨o.slots,k b o q a g⟩
 have l:∀b,b≠X.env.locals->b∉X.fs->b∉frs X.stack:=λb j i z=>(apl.mp (I.vS b z)).elim j i;have trk:∀b u,H b=some u->b∉ch/\b∉frs X.stack:=λb u q=>⟨(λz=>by rw[(d b z).1]at q;cases q),(λz=>by rw[I.t7 b z]at q;cases q)⟩;refine I.ai2 (λb g=>⟨(d b g).2.2.2.1,(d b g).2.1,(d b g).2.2.2.2.1,(d b g).2.2.2.2.2⟩) (λb o j i a q _=>k b o q a (l b j i)) (λb o _ _ a q _=>any b o q a) (λ_ _ _ _ n=>n) (λb o a q=>let⟨h,z⟩:=any b o q a;⟨_,z⟩) (λ_ _ q=>q) (λ_ _ _ q=>q) (λb A q=>⟨#[],by rw[q];simp⟩) (λm w=>?_) (λb u q=>?_) I.bare;·obtain⟨o,x,y,t,r⟩:=w;have a:X.env.locals∉ch:=λz=>(d _ z).2.1 rfl;obtain⟨h,p⟩:=any _ o t a;exact⟨_,x,y,p,r⟩
 ·refine(I.hok b u q).vT (λc v a z=>?_) (λ_ z=>z) λ_ _ z=>z;rcases a with rfl|a;·exact k c v z (trk c u q).1 (trk c u q).2
  ·exact k c v z (trk c _ a).1 (trk c _ a).2
variable{M:Model}{E:Value->Shared->Prop}{Q:Unit->Shared->Prop}
def Thr.note(t:Thr X pins σ H s e C dx fl T)(f:X.stack=X.env::X.outer)(w:X.env.frame=some X.env.locals)(h:∀j k x,Thr X pins σ H {s with heap:=j} e C dx x (some k)->Q () {s with heap:=j}):wpAny M X.A (noteFrame (.ref e) X.env) Q E s:=by
 have I:=t.inv;have g:=I.stack;rw[f]at g;have l:(fl==rawInt X.env.locals)=false->wpAny M X.A (noteFrame (.ref e) X.env) Q E s:=λc=>by
  refine wQ (by rw[<-f];exact I.ok.frames) g w t.trc c λj k p r m v=>h j k (rawInt X.env.locals) ?_;have i:=I.hok.fresh m;have u:∀b∈e::T.toList,FpX X pins H b:=λb a=>by
   rcases apl.mp a with rfl|a;·exact t.fe
   ·exact t.fT b (by cases T<;>simp at a⊢;exact a.symm)
  have d:∀b,b∉e::T.toList->b≠e/\T≠some b:=λb a=>⟨λz=>a (by rw[z];exact apn),λz=>a (by rw[z];simp)⟩;have y:=I.amm u (λb o q n a=>p b o q (d b n).1 (d b n).2 (by rw[<-f];exact a)) (λb o q _ a=>r b o q (by rw[<-f];exact a));exact⟨y,v,t.fe,λb a=>by cases a;exact I.fpX (ap3 m) i⟩
 cases T with|none=>exact(show Thr X pins σ H s e C dx .none none->_ from λt=>by
   have c:((.none:Value)==rawInt X.env.locals)=false:=by simp[rawInt]
   refine wQ (by rw[<-f];exact I.ok.frames) g w t.trc c λj k p r m v=>h j k (rawInt X.env.locals) ?_;have i:=I.hok.fresh m;have y:=I.amm (λb a=>by rw[ap2.mp a];exact t.fe) (λb o q n a=>p b o q (λz=>n (by rw[z];exact apn)) (by intro z;cases z) (by rw[<-f];exact a)) (λb o q _ a=>r b o q (by rw[<-f];exact a));exact⟨y,v,t.fe,λb a=>by cases a;exact I.fpX (ap3 m) i⟩) ⟨t.inv,t.trc,t.fe,t.fT⟩|some T0=>cases c:(fl==rawInt X.env.locals)with|false=>exact l c|true=>exact abc w t.trc c (h s.heap T0 fl t)
def Thr.abZ{T:Addr}{fr:Option Addr}(t:Thr X pins σ H s e C dx fl (some T))(h:∀c a,Thr X pins σ H {s with heap:=c} e C dx a (some T)->(fr=none->a=.none)->Q () {s with heap:=c}){A:Around}:wpAny M A (setFlight (.ref e) fr) Q E s:=by refine yV t.trc λc f g=>h c _ ⟨?_,g,t.fe,t.fT⟩ (λz=>by subst z;rfl);exact t.inv.amm (λb i=>by rw[ap2.mp i];exact t.fT T rfl) (λb o q d _=>f b o q (λz=>d (by rw[z];exact apn))) (λb o q d _=>⟨o.slots,f b o q (λz=>d (by rw[z];exact apn))⟩)
def Thr.sd{T:Addr}(t:Thr X pins σ H s e C dx fl (some T))(h:∀a,Thr X pins σ H {s with heap:=a} e C dx .none (some T)->Q () {s with heap:=a}){A:Around}:wpAny M A (setFlight (.ref e) none) Q E s:=t.abZ λa b c z=>h a (z rfl▸c)
def Thr.pass{f:Type}{T:Addr}{b:String}{d:Env}{Q:f->Shared->Prop}(t:Thr X pins σ H s e C dx fl (some T))(h:∀c a,Thr X pins σ H {s with heap:=c} e C dx a (some T)->E (.ref e) {s with heap:=c}){A:Around}:wpAny M A (PySem.passOn b (.ref e) d:Sem f) Q E s:=by unfold PySem.passOn;obtain⟨l,o,u,r,v,i,p,n,j,k,w,m,q⟩:=id t.trc;refine aoY (apJ i j k.1 ?_);rw[ao2 (by simp)];exact aoY (t.abZ λc a g _=>wpAny_throw (h c a g))
end
def CXX(P:Program)(w:World):CXT:=λa H s E e b=>∃d C f T c,e=.ref d/\b.os=s.os/\AllBare b.gens/\Un (frs a) [] H c s.heap b.heap/\HOk P w c b.heap/\Trc b.heap d C f .none (some T)/\s.heap.get? d=none/\s.heap.get? T=none/\c d=none/\c T=none/\E (.ref C) f c
section
variable{X:Cx}{pins:List (Addr×Obj)}{σ:St}{H:Hp}{s s':Shared}{e:Value}{E:XK}
def Inv.thrown(I:Inv X pins σ H s)(h:CXX X.prog X.w X.stack H s E e s'):∃d C c T a,e=.ref d/\Thr X pins σ a s' d C c .none (some T)/\E (.ref C) c a:=by obtain⟨d,C,c,T,a,rfl,i,k,un,f,j,m,n,l,g,q⟩:=h;exact⟨d,C,c,T,a,rfl,⟨I.ahR i un f k (λb z=>absurd z (by simp)),j,I.fpX m l,λt z=>by cases z;exact I.fpX n g⟩,q⟩
end
def jN{P:Program}{w:World}{K:W.Frag}{j:Str->Option Value}{d:Heap}{N:List Str}{g:Str}{scope:Scope}{f:Addr}{h:Value}{A:Around}{a:List Env}{s:Shared}{H:Hp}{E:XK}{pins:List (Addr×Obj)}{σ:St}{H':Hp}{s':Shared}{e C:Addr}{dx T:Option Addr}{l:Value}(t:Thr (ff (CXX P w) P w K j d N g scope f h A a s H E) pins σ H' s' e C dx l T)(q:E (.ref C) dx H'):(ff (CXX P w) P w K j d N g scope f h A a s H E).xe (.ref e) s':=by
 show wpAny (model P w) _ (leaving _ (.ref e)) _ _ s';unfold leaving;refine aoY (t.note rfl rfl λn i _ k=>k.sd λm c=>?_);have I:=c.inv;have new:∀b,FpX (ff (CXX P w) P w K j d N g scope f h A a s H E) pins H' b->s.heap.get? b=none:=λb z=>by
  rcases z.2.2.2.1 with z|z;·exact absurd (show b∈([]:List Addr)from z) (by simp)
  ·exact z
 exact⟨e,C,dx,i,H',rfl,I.os,I.bare,I.base,I.hok,c.trc,new e c.fe,new i (c.fT i rfl),c.fe.1,(c.fT i rfl).1,q⟩
section
variable{X:Cx}{k:Nat}{f:Addr}{fd:FuncData}{ps:List Str}{sp:Sp}{dvs:List V}{ds:List Value}{x:Str}{p pos:Pos}{e:Expr}{es:List Expr}{t:TA}
def aag(X:Cx)(sp:Sp)(dvs:List V)(t:TA):TE:=λc H Q=>t c H λh g=>∃E:XK,sp (h++dvs) g Q E/\∀a s e C d T b,Thr X a c b s e C d .none (some T)->E (.ref C) d b->X.xe (.ref e) s
def uk    (F:FnOk X.prog X.w X.K X.mg X.base (CXX X.prog X.w) k f fd ps sp)(j:Room k X.A)(m:Binds X.K fd ps ds)(n:Vals dvs ds)(l:∀a s e C d T c,Thr X a σ c s e C d .none (some T)->E (.ref C) d c->X.xe (.ref e) s)(I:Inv X a σ H s)(r:Vals vs us)(h:sp (vs++dvs) H Q E):wpAny (model X.prog X.w) X.A (call (.ref f) us) (EP X a σ Q) X.xe s:=by
 have g:=r.append n;have o:(us++ds).length=ps.length:=by rw[<-g.length];exact F.len _ _ _ _ h
 refine arA (aq3 (F.run X.A X.stack s H ⟨us,[]⟩ (us++ds) (vs++dvs) Q E j trivial I.alH (m s us I.kIn o) g h) λr i b=>?_);cases r with|error e=>obtain⟨v,C,d,T,c,rfl,t,q⟩:=I.thrown b;exact l a i v C d T c t q|ok fl=>cases fl with|ret u=>exact I.after b|next=>exact False.elim b|brk=>exact False.elim b|cont=>exact False.elim b
def wF(F:FnOk X.prog X.w X.K X.mg X.base (CXX X.prog X.w) k f fd ps sp)(i:Room k X.A)(g:Gl X x)(v:X.mg x=some (.ref f))(u:W.keepIn X.K (.ref f)=true)(m:Binds X.K fd ps ds)(o:Vals dvs ds)(l:PA X (e::es) t)(c:(x==("__debug__":Str))=false:=by decide)(n:starEach (e::es) X.env=(false,eval e X.env)::starEach es X.env:=by rfl)(b:(backTo pos (starEach es X.env)).any (·.1)=false:=by rfl):PE X (.Call (.Name x p) (e::es) [] pos) (aag X sp dvs t):=by intro a s w H Q I h;refine aqn (dt I g v ?_ c);refine asl I.ok.mod.kin u (thn (l pos a s w H _ I h) λy B⟨z,A,d,r,E,q,j⟩=>⟨d.kIn,?_⟩) n b;exact uk F i m o j d r q
end
section
variable{X:Cx}{t:TA}{x:Str}{C:Addr}{np cpos pos:Pos}{e:Expr}{es:List Expr}
noncomputable abbrev cP:List Value:=[.type "ValueError",.type "Exception",.type "BaseException",.type "object"]
def aiV(X:Cx)(C:Addr)(t:TA):TS:=λ_ b H=>t b H λd c=>d.length<=sizeLine/\∀a s e,Thr X a b c s e C none .none none->X.xe (.ref e) s
def akX{K:W.Frag}{h:Heap}{k:Str->Option Value}{d:List Value}{newId:String}(X:K.In h)(e:k x=some (.ref C))(q:W.excIn K C d newId=true):OwnCls x C d newId k h:=by
 refine⟨e,?_⟩;unfold W.excIn at q;split at q
 ·rename_i dd w p v;split at q
  ·rename_i J B s r j u n o m i;simp only[apg,ap8,ar5]at q;obtain⟨⟨⟨⟨⟨rfl,rfl⟩,a⟩,y⟩,b⟩,c⟩:=q;obtain⟨I,bs,D,G,z,E,A,sub,H,f,del⟩:=w;dsimp only at m a b c;subst m a;have g:p=#[s,r,j,u,some (.builtin n),o]:=by obtain⟨l⟩:=p;simp only at i;rw[i]
   subst g;exact⟨B,G,I,z,bs,E,A,sub,H,f,dd,s,r,j,u,o,_,X _ _ v,.of_isNs (W.isNs_of_in X b),W.nsMap_none_of_in X b c,W.tail_of_in X y⟩
  ·cases q
 ·cases q
def adO(n:X.calm=true)(E:Gl X x)(k:X.mg x=some (.ref C))(q:W.excIn X.K C cP "ValueError.__new__"=true)(p:PA X (e::es) t)(K:(x==("__debug__":Str))=false:=by decide)(l:starEach (e::es) X.env=(false,eval e X.env)::starEach es X.env:=by rfl)(a:(backTo cpos (starEach es X.env)).any (·.1)=false:=by rfl):PS X (.Raise (some (.Call (.Name x np) (e::es) [] cpos)) none pos) (aiV X C t):=by
 intro b s P H D I h;obtain⟨J,N,nm,y,bs,hdct,sn,sub,ab,col,dd,k0,k1,k2,k3,k5,mN,B,M,g,T⟩:=(akX (x:=x) I.mod.kin k q).obj;refine wpAny_Raise_call_subT (C:=C) (nm:=nm) (q:=y) (N:=N) (bs:=bs) (bm:=J) (hdct:=hdct) (sn:=sn) (sub:=sub) (ab:=ab) (col:=col) (dd:=dd) (k0:=k0) (k1:=k1) (k2:=k2) (k3:=k3) (k5:=k5) ap9 (mN:=mN) (T.hasType ap9.hasBase) (I.ok.hd n) (by rw[l];show(false||(backTo cpos (starEach es X.env)).any (·.1))=false;rw[a];rfl) g (dt I E k ⟨rfl,?_⟩ K);have j:=p cpos b s P H _ I h;rw[l]at j⊢;refine arC (thn j λS O⟨Z,m,c,w,r,A⟩=>⟨rfl,by rw[<-w.length];exact r,c.bk _ _ B,M.keeps c.bk,T.keeps c.bk,λU f d=>?_⟩);obtain⟨Y,v,Q,R⟩:=d.there;have G:m f=none:=by cases z:m f with|none=>rfl|some u=>obtain⟨o,i⟩:=mF (c.hok f u z);rw[d.new]at i;cases i
 refine A b _ f ⟨c.kept (t':=O.toks) d.keeps,⟨_,_,v,rfl,rfl,rfl,rfl,rfl⟩,c.fpX d.new G,λt z=>by cases z⟩
end
abbrev Cx.sui(X:Cx)(e:Addr):Cx:={X with A:=X.A.mark (some (.ref e)),calm:=false,xe:=λ_ _=>False}
def Cx.Ok.gi{X:Cx}{E:Value->Shared->Prop}{a:List (Addr×Obj)}(ok:(X.tri E a).Ok):X.Ok:=⟨ok.mod,ok.kind,ok.glob,ok.blt,ok.above,ok.inj,ok.has,ok.cab,ok.hd,ok.frames,ok.stk,ok.exf,ok.bs,ok.bsz,ok.noex,ok.exfs,ok.ql,ok.frf⟩
theorem Cx.Ok.sui{X:Cx}(ok:X.Ok)(e:Addr):(X.sui e).Ok:=⟨ok.mod,ok.kind,ok.glob,ok.blt,ok.above,ok.inj,ok.has,ok.cab,(λz=>by cases z),ok.frames,ok.stk,ok.exf,ok.bs,ok.bsz,ok.noex,ok.exfs,ok.ql,ok.frf⟩
section
variable{X:Cx}{pins pins':List (Addr×Obj)}{σ:St}{H:Hp}{s:Shared}{E:Value->Shared->Prop}
theorem Inv.gi(I:Inv (X.tri E (X.pn++pins)) pins' σ H s):Inv X pins σ H s:=⟨I.ok.gi,I.os,I.bare,I.base,I.loc,I.cell,I.free,I.freeC,λp a=>I.pin p (apL _ a),I.hok,I.len⟩
theorem Inv.sui(I:Inv X pins σ H s)(e:Addr):Inv (X.sui e) pins σ H s:=⟨I.ok.sui e,I.os,I.bare,I.base,I.loc,I.cell,I.free,I.freeC,I.pin,I.hok,I.len⟩
def Inv.back(I:Inv X pins σ H s){e:Addr}{a:St}{H':Hp}{s':Shared}(J:Inv (X.sui e) pins a H' s'):Inv X pins a H' s':=⟨I.ok,J.os,J.bare,J.base,J.loc,J.cell,J.free,J.freeC,J.pin,J.hok,J.len⟩
def FpX.gi{b:Addr}(h:FpX (X.tri E (X.pn++pins)) pins' H b):FpX X pins H b:=⟨h.1,h.2.1,h.2.2.1,h.2.2.2.1,h.2.2.2.2.1,λp a=>h.2.2.2.2.2 p (apL _ a)⟩
theorem Thr.gi{e C:Addr}{dx:Option Addr}{a:Value}{T:Option Addr}(t:Thr (X.tri E (X.pn++pins)) pins' σ H s e C dx a T):Thr X pins σ H s e C dx a T:=⟨t.inv.gi,t.trc,t.fe.gi,λb c=>(t.fT b c).gi⟩
theorem SP.gi{D:Ends}{f:Flow}{s':Shared}(h:SP (X.tri E (X.pn++pins)) pins' D f s'):SP X pins D f s':=by cases f with|next=>obtain⟨a,b,I,q⟩:=h;exact⟨a,b,I.gi,q⟩|brk=>obtain⟨a,b,I,q⟩:=h;exact⟨a,b,I.gi,q⟩|cont=>obtain⟨a,b,I,q⟩:=h;exact⟨a,b,I.gi,q⟩|ret u=>obtain⟨v,a,b,I,r,q⟩:=h;exact⟨v,a,b,I.gi,r,q⟩
theorem SP.back(I:Inv X pins σ H s){e:Addr}{D:Ends}{f:Flow}{s':Shared}(h:SP (X.sui e) pins D f s'):SP X pins D f s':=by cases f with|next=>obtain⟨a,b,J,q⟩:=h;exact⟨a,b,I.back J,q⟩|brk=>obtain⟨a,b,J,q⟩:=h;exact⟨a,b,I.back J,q⟩|cont=>obtain⟨a,b,J,q⟩:=h;exact⟨a,b,I.back J,q⟩|ret u=>obtain⟨v,a,b,J,r,q⟩:=h;exact⟨v,a,b,I.back J,r,q⟩
end
section
variable{X:Cx}{pins:List (Addr×Obj)}{σ:St}{H:Hp}{s:Shared}{e Ce C:Addr}{dx:Option Addr}{fl:Value}{T:Addr}{x n:Str}{np hpos:Pos}{b0:Stmt}{suite:List Stmt}{Q:Flow->Shared->Prop}{E:Value->Shared->Prop}
def Thr.ty(t:Thr X pins σ H s e Ce dx fl (some T)){M:Model}:W.Looks M s.heap (typeOf (.ref e)) (.ref Ce):=by obtain⟨d,c,a,b,_,_⟩:=t.trc.there;exact b▸(W.Looks.ld a).andThen .now
def uY(t:Thr X pins σ H s e Ce dx fl (some T))(b:Gl X x)(c:X.mg x=some (.ref C))(d:W.exmOne X.K (.ref Ce) (.ref C)=some true)(k:∀a,Thr X pins σ H {s with heap:=a} e Ce dx .none (some T)->wpAny (model X.prog X.w) (X.A.mark (some (.ref e))) (execs (b0::suite) X.env) Q (λ_ _=>False) {s with heap:=a})(g:(x==("__debug__":Str))=false:=by decide):wpAny (model X.prog X.w) X.A (handleBy (.ref e) X.env [.ExceptHandler (some (.Name x np)) none (b0::suite) hpos]) Q E s:=by refine wpAny_handleBy_cons (codeAny_handlers_test (dt (X:=X.sui e) (t.inv.sui e) b c ?_ g)) (by intro q;cases q);refine(W.exm_one t.inv.kIn t.ty d).here ?_;refine codeAny_handlers_suite (t.sd λa f=>?_);exact apx (k a f) (λ_ _ q=>q) λ_ _ z=>z.elim
def excAt(a C:Addr)(dx:Option Addr)(h:Heap):Prop:=∃b c,h.get? a=some b/\b.cls=.ref C/\b.dict=dx/\b.data=.fields c/\c[2]?=some .none
end
end L2
namespace WL
open PySem
inductive W where|non|bl(b:Bool)|int(i:Int)|str(x:Str)|ty(n:String)|tup(xs:List W)|lst(xs:List W)/-- a dict that is read alone: its keys,its values;a class of the text;an exception: its class,its fields -/|dic(ks vs:List W)|cls(c:String)|exc(c:String)(fs:List W)/-- an object that is made: its class,its fields -/|ins(c:String)(fs:List W)/-- a thing that is written,by its place alone -/|id(a:Nat)
inductive Res(α:Type)where|ok(a:α)|ex(c:W)|bad
noncomputable def Res.bind{b d:Type}:Res b->(b->Res d)->Res d|.ok a,f=>f a|.ex c,_=>.ex c|.bad,_=>.bad
inductive Sl where|no|va(w:W)|ow(ws:List W)|od(ks vs:List W)|ob
abbrev Ws:=List Sl
abbrev EF:=Ws->Res W
abbrev TF:=Ws->Res Bool
abbrev AF:=Ws->Res (List W)
abbrev LF:=Ws->Res (List W)
abbrev GF:=W->Ws->Res Ws
inductive Out where|nx(σ:Ws)|rt(w:W)|bk(σ:Ws)|ct(σ:Ws)|ex(c:W)(σ:Ws)|bad
abbrev SF:=Ws->Out
mutual def eqv:W->W->Bool|.non,.non=>true|.bl a,.bl b=>a==b|.bl a,.int j=>(if a then 1 else 0)==j|.int i,.bl b=>i==(if b then 1 else 0)|.int i,.int j=>i==j|.str x,.str y=>x==y|.lst xs,.lst ys=>xC xs ys|.tup xs,.tup ys=>xC xs ys|_,_=>false def xC:List W->List W->Bool|[],[]=>true|x::xs,y::ys=>eqv x y&&xC xs ys|_,_=>false end
mutual def okD:Nat->W->Bool|_,.non=>true|_,.bl _=>true|_,.int _=>true|_,.str x=>x.cps.all (·<0x110000)|_,.ty _=>false|n,.tup xs=>dQ n xs|n,.lst xs=>dQ n xs|_,.dic _ _=>false|_,.cls _=>false|_,.exc _ _=>false|_,.ins _ _=>false|_,.id _=>false def dQ:Nat->List W->Bool|0,_=>false|_+1,[]=>true|n+1,x::xs=>okD n x&&dQ (n+1) xs end
noncomputable def aau:W->W->Bool|.non,.non=>true|.non,.int _=>true|.int _,.non=>true|.non,.bl _=>true|.bl _,.non=>true|.non,.str _=>true|.str _,.non=>true|.int _,.int _=>true|.bl _,.bl _=>true|.str _,.str _=>true|.int _,.str _=>true|.str _,.int _=>true|.bl _,.str _=>true|.str _,.bl _=>true|_,_=>false
def oEq(x y:W):Res W:=if aau x y then .ok (.bl (eqv x y))else if okD 50 x&&okD 50 y then .ok (.bl (eqv x y))else .bad
def oNe(x y:W):Res W:=if aau x y then .ok (.bl (!eqv x y))else if okD 50 x&&okD 50 y then .ok (.bl (!eqv x y))else .bad
noncomputable def cC(x:W):List W->Bool|[]=>false|y::ys=>eqv y x||cC x ys
def oIn(x:W):W->Res W|.lst ys=>if okD 50 x&&dQ 51 ys then .ok (.bl (cC x ys))else .bad|.tup ys=>if okD 50 x&&dQ 51 ys then .ok (.bl (cC x ys))else .bad|_=>.bad
def fy(x:W):W->Res W|.lst ys=>if okD 50 x&&dQ 51 ys then .ok (.bl (!cC x ys))else .bad|.tup ys=>if okD 50 x&&dQ 51 ys then .ok (.bl (!cC x ys))else .bad|_=>.bad
noncomputable def lim:Nat:=1000000
def gb:W->W->Res W|.int i,.int j=>.ok (.int (i+j))|.lst xs,.lst ys=>if xs.length+ys.length<=lim then .ok (.lst (xs++ys))else .bad|.tup xs,.tup ys=>if xs.length+ys.length<=lim then .ok (.tup (xs++ys))else .bad|_,_=>.bad
noncomputable def acY:W->W->Res W|.int i,.int j=>.ok (.int (i-j))|_,_=>.bad
noncomputable def tI:W->W->Res W|.int i,.int j=>if(-(2^64)<i/\i<2^64)\/(-(2^64)<j/\j<2^64)then .ok (.int (i*j))else .bad|_,_=>.bad
noncomputable def oDiv:W->W->Res W|.int i,.int j=>if 0<j/\j<10^100 then .ok (.int (i/j))else .bad|_,_=>.bad
noncomputable def oMod:W->W->Res W|.int i,.int j=>if 0<j then .ok (.int (i%j))else .bad|_,_=>.bad
noncomputable def wM:W->Res W|.int i=>.ok (.int (-i))|_=>.bad
noncomputable def oLt:W->W->Res W|.int i,.int j=>.ok (.bl (decide (i<j)))|_,_=>.bad
noncomputable def oLe:W->W->Res W|.int i,.int j=>.ok (.bl (decide (i<=j)))|_,_=>.bad
noncomputable def oGt:W->W->Res W|.int i,.int j=>.ok (.bl (decide (j<i)))|_,_=>.bad
noncomputable def oGe:W->W->Res W|.int i,.int j=>.ok (.bl (decide (j<=i)))|_,_=>.bad
noncomputable def mU:W->Bool|.non=>true|_=>false
noncomputable def isB(b:Bool):W->Bool|.bl c=>b==c|_=>false
def oIs(x:W):W->Res W|.non=>.ok (.bl (mU x))|.bl b=>.ok (.bl (isB b x))|_=>.bad
def i0(x:W):W->Res W|.non=>.ok (.bl (!mU x))|.bl b=>.ok (.bl (!isB b x))|_=>.bad
noncomputable def ixN(n:Nat)(i:Int):Option Nat:=if 0<=i then(if i<n then some i.toNat else none)else if -(n:Int)<=i then some (i+n).toNat else none
def atI{a:Type}(xs:List a)(i:Int):Option a:=(ixN xs.length i).bind λj=>xs[j]?
noncomputable def ofO{b:Type}:Option b->Res b|some a=>.ok a|none=>.bad
@[simp]def aln{b:Type}(a:b):ofO (some a)=.ok a:=(rfl)
noncomputable def k8(k:Str):List W->List W->Option W|.str x::ks,v::vs=>if x==k then some v else k8 k ks vs|_,_=>none
def oIx:W->W->Res W|.lst xs,.int i=>ofO (atI xs i)|.tup xs,.int i=>ofO (atI xs i)|.dic ks vs,.str k=>ofO (k8 k ks vs)|_,_=>.bad
noncomputable def sIx(n d:Nat):Option Int->Nat|none=>d|some v=>if v<0 then(v+(n:Int)).toNat else min v.toNat n
def cut{a:Type}(xs:List a)(lo b:Option Int):List a:=(xs.drop (sIx xs.length 0 lo)).take (sIx xs.length xs.length b-sIx xs.length 0 lo)
def oSl:W->Option Int->Option Int->Res W|.lst xs,lo,hi=>.ok (.lst (cut xs lo hi))|.tup xs,lo,hi=>if sIx xs.length 0 lo=0/\sIx xs.length xs.length hi=xs.length then .bad else .ok (.tup (cut xs lo hi))|_,_,_=>.bad
noncomputable def gf:List W->Res W|[.lst xs]=>.ok (.int xs.length)|[.tup xs]=>.ok (.int xs.length)|_=>.bad
noncomputable def ib:List W->Res W|[.lst xs]=>.ok (.tup xs)|[.tup xs]=>.ok (.tup xs)|_=>.bad
noncomputable def vy:List W->Res W|[.lst xs]=>.ok (.lst xs)|[.tup xs]=>.ok (.lst xs)|_=>.bad
noncomputable def ahU:List W->Res W|[.int i]=>.ok (.int (if i<0 then -i else i))|_=>.bad
noncomputable def vx:List W->Res W|[.int i,.int j]=>.ok (.int (if j>i then j else i))|_=>.bad
noncomputable def allB:List W->Option Bool|[]=>some true|.bl b::xs=>(allB xs).map λc=>b&&c|_=>none
def ac0:List W->Res W
|[.lst xs]=>match allB xs with|some b=>.ok (.bl b)|none=>.bad
|_=>.bad
noncomputable def nM:W->String|.non=>"NoneType"|.bl _=>"bool"|.int _=>"int"|.str _=>"str"|.ty _=>"type"|.tup _=>"tuple"|.lst _=>"list"|.dic _ _=>"dict"|.cls _=>"type"|.exc _ _=>"exception"|.ins _ _=>"object"|.id _=>"object"
def isK(w:W)(t:String):Option Bool:=match w with|.ty _=>none|.dic _ _=>none|.cls _=>none|.exc _ _=>none|.ins _ _=>none|.id _=>none|_=>if["int","bool","str","list","tuple"].contains t then some (nM w==t||(nM w=="bool"&&t=="int"))else none
def bY:List W->Res W
|[x,.ty t]=>match isK x t with|some b=>.ok (.bl b)|none=>.bad
|_=>.bad
mutual def ltW:W->W->Bool|.int i,.int j=>decide (i<j)|.tup xs,.tup ys=>aef xs ys|_,_=>false def aef:List W->List W->Bool|[],[]=>false|[],_::_=>true|_::_,[]=>false|x::xs,y::ys=>if eqv x y then aef xs ys else ltW x y end
mutual def afL:W->W->Bool|.int _,.int _=>true|.tup xs,.tup ys=>sR xs ys|_,_=>false def sR:List W->List W->Bool|x::xs,y::ys=>afL x y&&sR xs ys|_,_=>true end
noncomputable def ac1(a:Nat->Nat->Bool):Nat->Nat|0=>0|k+1=>if a (k+1) (ac1 a k)then k+1 else ac1 a k
def minOf(ys:List W):Res W:=if 0<ys.length/\dQ 51 ys=true/\(ys.all λx=>ys.all λy=>afL x y)=true then ofO (ys[ac1 (λi j=>ltW (ys.getD i .non) (ys.getD j .non)) (ys.length-1)]?)else .bad
def zj:List W->Res W|[.lst ys]=>minOf ys|_=>.bad
noncomputable def aj(i:Nat):EF:=λa=>match a[i]? with|some (.va w)=>.ok w|_=>.bad
noncomputable def eC(w:W):EF:=λ_=>.ok w
def eOp(r:W->W->Res W)(a b:EF):EF:=λc=>(a c).bind λx=>(b c).bind λy=>r x y
def eUn(r:W->Res W)(a:EF):EF:=λb=>(a b).bind r
def kF(r e:W->W->Res W)(a b c:EF):EF:=λd=>(a d).bind λx=>(b d).bind λy=>(r x y).bind λz=>match z with|.bl true=>(c d).bind λw=>e y w|.bl false=>.ok (.bl false)|_=>.bad
noncomputable def toB:W->Res Bool|.bl b=>.ok b|_=>.bad
def tB(e:EF):TF:=λa=>(e a).bind toB
def x8(a b:TF):TF:=λc=>(a c).bind λx=>match x with|true=>b c|false=>.ok false
def tOr(a b:TF):TF:=λc=>(a c).bind λx=>match x with|true=>.ok true|false=>b c
def vR(a:TF):TF:=λb=>(a b).bind λx=>.ok (!x)
def aeH(a b:EF):EF:=λc=>(a c).bind λx=>match x with|.bl true=>b c|.bl false=>.ok (.bl false)|_=>.bad
def akN(a:EF):EF:=λc=>(a c).bind λx=>match x with|.bl b=>.ok (.bl (!b))|_=>.bad
def eIf(t:TF)(a b:EF):EF:=λc=>(t c).bind λx=>match x with|true=>a c|false=>b c
noncomputable def av:AF:=λ_=>.ok []
def ae(e:EF)(a:AF):AF:=λb=>(e b).bind λx=>(a b).bind λc=>.ok (x::c)
def kE(a:AF):EF:=λc=>(a c).bind λb=>if b.length<=lim then .ok (.tup b)else .bad
def sG(a:AF):EF:=λc=>(a c).bind λb=>if b.length<=lim then .ok (.lst b)else .bad
def ay(f:List W->Res W)(a:AF):EF:=λb=>(a b).bind λws=>match f ws with|.ok w=>.ok w|_=>.bad
def eBi(f:List W->Res W)(a:AF):EF:=λb=>(a b).bind f
def acb(T:String)(r:W->List W->Res W)(o:EF)(a:AF):EF:=λb=>(o b).bind λx=>if nM x==T then(a b).bind λws=>r x ws else .bad
noncomputable def idx(x:W):Nat->List W->Option Nat|_,[]=>none|k,y::ys=>if eqv y x then some k else idx x (k+1) ys
noncomputable def pNo:Ws->Res (Option Int):=λ_=>.ok none
def pH(e:EF):Ws->Res (Option Int):=λa=>(e a).bind λx=>match x with|.int i=>.ok (some i)|_=>.bad
def eSl(e:EF)(lo b:Ws->Res (Option Int)):EF:=λa=>(e a).bind λx=>(lo a).bind λl=>(b a).bind λh=>oSl x l h
noncomputable def itemsOf:W->Res (List W)|.lst xs=>.ok xs|.tup xs=>.ok xs|_=>.bad
@[simp]def ahm(xs:List W):itemsOf (.lst xs)=.ok xs:=(rfl)
@[simp]def ahl(xs:List W):itemsOf (.tup xs)=.ok xs:=(rfl)
def uW(e:EF):LF:=λa=>(e a).bind itemsOf
noncomputable def rng(lo:Int)(n:Nat):List W:=(List.range n).map λi=>.int (lo+(i:Nat))
def mW(e:EF):LF:=λa=>(e a).bind λx=>match x with|.int j=>if -(2^62)<=j/\j<2^62 then .ok (rng 0 j.toNat)else .bad|_=>.bad
def rY(e b:EF):LF:=λa=>(e a).bind λx=>(b a).bind λy=>match x,y with|.int i,.int j=>if -(2^62)<=i/\i<2^62/\-(2^62)<=j/\j<2^62 then .ok (rng i (j-i).toNat)else .bad|_,_=>.bad
noncomputable def dB:Nat->List W->List W|_,[]=>[]|k,x::xs=>.tup [.int k,x]::dB (k+1) xs
def uX(e:EF):LF:=λa=>(e a).bind λx=>match x with|.tup xs=>.ok (dB 0 xs)|.lst xs=>.ok (dB 0 xs)|_=>.bad
noncomputable def aA(i:Nat):GF:=λw a=>.ok (a.set i (.va w))
abbrev GsF:=List W->Ws->Res Ws
noncomputable def xt:GsF:=λws a=>match ws with|[]=>.ok a|_=>.bad
noncomputable def di(g:GF)(a:GsF):GsF:=λws b=>match ws with|w::r=>(match g w b with|.ok σ'=>(match a r σ' with|.ok σ2=>.ok σ2|_=>.bad)|_=>.bad)|[]=>.bad
noncomputable def xn(a:GsF):GF:=λw b=>match w with|.tup ws=>a ws b|_=>.bad
def aoW(i:Nat)(e:EF):GF:=λw a=>match a[i]? with|some (.ow ws)=>(match e a with|.ok (.int k)=>(match ixN ws.length k with|some j=>.ok (a.set i (.ow (ws.set j w)))|none=>.bad)|_=>.bad)|_=>.bad
noncomputable def bA(g:GF)(t:TF)(e:EF)(σ:Ws):List W->Res (List W)|[]=>.ok []|x::xs=>(g x σ).bind λa=>(t a).bind λb=>match b with|true=>(e a).bind λy=>(bA g t e σ xs).bind λc=>.ok (y::c)|false=>bA g t e σ xs
noncomputable def nv:TF:=λ_=>.ok true
def aen(k:Nat)(it:LF)(g:GF)(t:TF)(e:EF):LF:=λb=>(it b).bind λa=>if a.length<=lim then(match bA g t e (List.replicate k .no++b) a with|.ok ys=>.ok ys|_=>.bad)else .bad
def jX(k:Nat)(it:LF)(g:GF)(t:TF)(e:EF):EF:=λb=>(aen k it g t e b).bind λa=>.ok (.lst a)
noncomputable def frz(i:Nat)(σ:Ws):Ws:=match σ[i]? with|some (.ow ws)=>σ.set i (.va (.lst ws))|some (.od ks vs)=>σ.set i (.va (.dic ks vs))|_=>σ
mutual def plain:W->Bool|.tup xs=>fZ xs|.lst _=>false|.dic _ _=>false|.exc _ _=>false|.ins _ _=>false|.id _=>false|_=>true def fZ:List W->Bool|[]=>true|x::xs=>plain x&&fZ xs end
def afI(i:Nat)(e:EF):EF:=λa=>match e (frz i a)with|.ok w=>if plain w then .ok w else .bad|_=>.bad
def aiZ(i:Nat)(t:TF):TF:=λa=>match t (frz i a)with|.ok b=>.ok b|_=>.bad
noncomputable def sNx:SF:=λa=>.nx a
noncomputable def aK(a b:SF):SF:=λc=>match a c with|.nx σ'=>b σ'|o=>o
noncomputable def ofR{b:Type}(σ:Ws)(r:Res b)(f:b->Out):Out:=match r with|.ok a=>f a|.ex c=>.ex c σ|.bad=>.bad
def bK(i:Nat)(e:EF):SF:=λa=>ofR a (e a) λw=>.nx (a.set i (.va w))
def qT(i:Nat)(l:LF):SF:=λa=>ofR a (l a) λws=>.nx (a.set i (.ow ws))
def ah9(a:AF):LF:=λc=>(a c).bind λb=>if b.length<=lim then .ok b else .bad
def akh(e:EF):LF:=λa=>(e a).bind itemsOf
def anT(e:EF)(g:GF):SF:=λa=>ofR a (e a) λw=>ofR a (g w a) λb=>.nx b
def sIf(t:TF)(a b:SF):SF:=λc=>ofR c (t c) λx=>match x with|true=>a c|false=>b c
def bz(e:EF):SF:=λa=>ofR a (e a) λw=>.rt w
noncomputable def agB:SF:=λ_=>.rt .non
def agE(e:EF):SF:=λa=>ofR a (e a) λ_=>.nx a
noncomputable def sCt:SF:=λa=>.ct a
def ah2(i:Nat)(e:EF):SF:=λa=>match a[i]? with|some (.ow ws)=>ofR a (e a) λw=>if ws.length<lim then .nx (a.set i (.ow (ws++[w])))else .bad|_=>.bad
def ah1(i:Nat)(t:SF):SF:=λa=>t (frz i a)
noncomputable def forL(g:GF)(b:SF):List W->Ws->Out|[],σ=>.nx σ|x::xs,σ=>ofR σ (g x σ) λa=>match b a with|.nx σ2=>forL g b xs σ2|.ct σ2=>forL g b xs σ2|.bk σ2=>.nx σ2|o=>o
def nE(it:LF)(g:GF)(b:SF):SF:=λa=>ofR a (it a) λc=>forL g b c a
noncomputable def iG(c:TF)(b:SF):Nat->Ws->Out|0,_=>.bad|n+1,σ=>ofR σ (c σ) λx=>match x with|true=>(match b σ with|.nx σ2=>iG c b n σ2|.ct σ2=>iG c b n σ2|.bk σ2=>.nx σ2|o=>o)|false=>.nx σ
def aaA(n:Ws->Nat)(c:TF)(b:SF):SF:=λa=>iG c b (n a) a
noncomputable def xB:List String:=["FloorError","NotEven","NoCall","NoName","NoProgram","TooMany","NoPairs","NoRow","Blind","Out","Meet","Broken"]
noncomputable def kX(nm d:String):Bool:=nm==d||d=="FloorError"
noncomputable def fieldsOf(nm:String):List Str:=if nm=="Blind"then["who"]else if nm=="Out"then["who"]else if nm=="Meet"then["one","other"]else if nm=="Broken"then["at","why"]else[]
def jZ(d:String):W->Bool|.exc nm _=>kX nm d|_=>false
noncomputable def uj:SF:=λ_=>.bad
def afc(nm:String)(a:AF):SF:=λb=>ofR b (a b) λws=>if ws.length<=100 then .ex (.exc nm []) b else .bad
def cL(f:List W->Res W)(a:AF):EF:=λb=>(a b).bind f
def hOut(d:String)(h:SF)(c:W)(σ:Ws):Out:=if jZ d c then(match h σ with|.ex _ _=>.bad|o=>o)else .bad
def ai7(b:SF)(d:String)(h:SF):SF:=λa=>match b a with|.ex c σ'=>hOut d h c σ'|o=>o
noncomputable def jS(c:String):List Str:=if c=="Book"then["calls"]else if c=="Search"then["goal","most","rows","seen"]else[]
noncomputable def run(n:Nat)(t:SF)(ws:List W):Res W:=match t (ws.map .va++List.replicate (n-ws.length) .no)with|.rt w=>.ok w|.nx _=>.ok .non|.ex c _=>.ex c|_=>.bad
end WL
namespace L2
open PySem PySem.Spec PyProof.Rows
def ar.rd{H H':Hp}(e:ar H H'){a:Addr}{u:HO}(q:Rd H a u):Rd H' a u:=q.imp (e _ _) λ⟨o,z⟩=>⟨o,e _ _ z⟩
end L2
namespace WS
open PySem PySem.Spec PyProof.Rows L2
open WL(Res Sl Ws EF TF AF LF GF GsF SF Out)
abbrev VW:=WL.W
def ExcAt(K:W.Frag)(nm:String)(C:Addr):Prop:=nm∈WL.xB/\W.nsIn K mainGlobals (Str.ofString nm)=some (some (.ref C))
mutual def RW(K:W.Frag)(H:Hp):VW->V->Prop|.non,v=>v=.non|.bl b,v=>v=.bl b|.int i,v=>v=.int i|.str x,v=>v=.str x|.ty n,v=>v=.ty n|.tup ws,v=>∃a vs,v=.ref a/\SqT K H a vs/\RWs K H ws vs|.lst ws,v=>∃a vs,v=.ref a/\SqL K H a vs/\RWs K H ws vs|.dic ks vs,v=>∃a kvs,v=.ref a/\Rd H a (.dK kvs)/\RWs K H ks (kvs.map λp=>kV p.1)/\RWs K H vs (kvs.map λp=>p.2)|.cls d,v=>∃a,v=.ref a/\ExcAt K d a|.exc nm fs,v=>∃a C dx,v=.ref a/\H a=some (.ext (excAt a C dx))/\ExcAt K nm C/\∃fvs:List (Str×V),fvs.map (·.1)=WL.fieldsOf nm/\RWs K H fs (fvs.map (·.2))/\(fvs=[]/\dx=none\/∃d,dx=some d/\H d=some (.xd fvs))|.ins c fs,v=>∃a C dx,∃fvs:List (Str×V),v=.ref a/\H a=some (.ins C dx fvs)/\W.nsIn K mainGlobals (Str.ofString c)=some (some (.ref C))/\fvs.map (·.1)=WL.jS c/\fvs≠[]/\RWs K H fs (fvs.map (·.2))|.id a,v=>v=.ref a def RWs(K:W.Frag)(H:Hp):List VW->List V->Prop|[],vs=>vs=[]|w::ws,vs=>∃v r,vs=v::r/\RW K H w v/\RWs K H ws r end
section
variable{K:W.Frag}{H H':Hp}
mutual theorem RW.via(ht:∀a xs,SqT K H a xs->SqT K H' a xs)(hl:∀a xs,SqL K H a xs->SqL K H' a xs)(hd:∀a kvs,Rd H a (.dK kvs)->Rd H' a (.dK kvs))(he:∀a φ,H a=some (.ext φ)->H' a=some (.ext φ))(hx:∀a fs,H a=some (.xd fs)->H' a=some (.xd fs))(hi:∀a C dx fs,fs≠[]->H a=some (.ins C dx fs)->H' a=some (.ins C dx fs)):∀(w:VW)(v:V),RW K H w v->RW K H' w v|.non,_,h=>by simpa only[RW]using h|.bl _,_,h=>by simpa only[RW]using h|.int _,_,h=>by simpa only[RW]using h|.str _,_,h=>by simpa only[RW]using h|.ty _,_,h=>by simpa only[RW]using h|.tup ws,_,h=>by simp only[RW]at h⊢;obtain⟨a,vs,e,q,r⟩:=h;exact⟨a,vs,e,ht a vs q,RWs.via ht hl hd he hx hi ws vs r⟩|.lst ws,_,h=>by simp only[RW]at h⊢;obtain⟨a,vs,e,q,r⟩:=h;exact⟨a,vs,e,hl a vs q,RWs.via ht hl hd he hx hi ws vs r⟩|.dic ks vs,_,h=>by simp only[RW]at h⊢;obtain⟨a,kvs,e,q,r1,r2⟩:=h;exact⟨a,kvs,e,hd a kvs q,RWs.via ht hl hd he hx hi ks _ r1,RWs.via ht hl hd he hx hi vs _ r2⟩|.cls _,_,h=>by simpa only[RW]using h|.id _,_,h=>by simpa only[RW]using h|.exc nm fs,_,h=>by simp only[RW]at h⊢;obtain⟨a,C,dx,e,q,c,fvs,f1,f2,f3⟩:=h;exact⟨a,C,dx,e,he _ _ q,c,fvs,f1,RWs.via ht hl hd he hx hi fs _ f2,f3.imp (λz=>z) λ⟨d,z1,z2⟩=>⟨d,z1,hx _ _ z2⟩⟩|.ins c fs,_,h=>by simp only[RW]at h⊢;obtain⟨a,C,dx,fvs,e,q,c1,c2,c3,r⟩:=h;exact⟨a,C,dx,fvs,e,hi _ _ _ _ c3 q,c1,c2,c3,RWs.via ht hl hd he hx hi fs _ r⟩theorem RWs.via(ht:∀a xs,SqT K H a xs->SqT K H' a xs)(hl:∀a xs,SqL K H a xs->SqL K H' a xs)(hd:∀a kvs,Rd H a (.dK kvs)->Rd H' a (.dK kvs))(he:∀a φ,H a=some (.ext φ)->H' a=some (.ext φ))(hx:∀a fs,H a=some (.xd fs)->H' a=some (.xd fs))(hi:∀a C dx fs,fs≠[]->H a=some (.ins C dx fs)->H' a=some (.ins C dx fs)):∀(ws:List VW)(vs:List V),RWs K H ws vs->RWs K H' ws vs|[],_,h=>by simpa only[RWs]using h|w::ws,_,h=>by simp only[RWs]at h⊢;obtain⟨v,r,e,q,t⟩:=h;exact⟨v,r,e,RW.via ht hl hd he hx hi w v q,RWs.via ht hl hd he hx hi ws r t⟩end
def RW.keep(e:ar H H'){w:VW}{v:V}(h:RW K H w v):RW K H' w v:=RW.via (λ_ _ q=>e.tup q) (λ_ _ q=>e.seq q) (λ_ _ q=>e.rd q) (λ_ _ q=>e _ _ q) (λ_ _ q=>e _ _ q) (λ_ _ _ _ _ q=>e _ _ q) w v h
def RWs.keep(e:ar H H'){ws:List VW}{vs:List V}(h:RWs K H ws vs):RWs K H' ws vs:=RWs.via (λ_ _ q=>e.tup q) (λ_ _ q=>e.seq q) (λ_ _ q=>e.rd q) (λ_ _ q=>e _ _ q) (λ_ _ q=>e _ _ q) (λ_ _ _ _ _ q=>e _ _ q) ws vs h
mutual theorem RW.less(ht:∀a xs,SqT K H a xs->SqT K H' a xs):∀(w:VW)(v:V),WL.plain w=true->RW K H w v->RW K H' w v|.non,_,_,h=>by simpa only[RW]using h|.bl _,_,_,h=>by simpa only[RW]using h|.int _,_,_,h=>by simpa only[RW]using h|.str _,_,_,h=>by simpa only[RW]using h|.ty _,_,_,h=>by simpa only[RW]using h|.tup ws,_,p,h=>by simp only[RW]at h⊢;obtain⟨a,vs,e,q,r⟩:=h;exact⟨a,vs,e,ht a vs q,RWs.less ht ws vs (by simpa only[WL.plain]using p) r⟩|.lst ws,_,p,_=>by simp[WL.plain]at p|.dic _ _,_,p,_=>by simp[WL.plain]at p|.cls _,_,_,h=>by simpa only[RW]using h|.id _,_,_,h=>by simpa only[RW]using h|.exc _ _,_,p,_=>by simp[WL.plain]at p|.ins _ _,_,p,_=>by simp[WL.plain]at p theorem RWs.less(ht:∀a xs,SqT K H a xs->SqT K H' a xs):∀(ws:List VW)(vs:List V),WL.fZ ws=true->RWs K H ws vs->RWs K H' ws vs|[],_,_,h=>by simpa only[RWs]using h|w::ws,_,p,h=>by simp only[RWs]at h⊢;simp only[WL.fZ,apg]at p;obtain⟨v,r,e,q,t⟩:=h;exact⟨v,r,e,RW.less ht w v p.1 q,RWs.less ht ws r p.2 t⟩end
theorem RWs.length:∀{ws:List VW}{vs:List V},RWs K H ws vs->ws.length=vs.length|[],_,h=>by simp only[RWs]at h;subst h;rfl|w::ws,_,h=>by simp only[RWs]at h;obtain⟨v,r,rfl,_,t⟩:=h;simp only[aph,RWs.length t]
theorem RWs.get:∀{ws:List VW}{vs:List V}{i:Nat}{w:VW},RWs K H ws vs->ws[i]?=some w->∃v,vs[i]?=some v/\RW K H w v|[],_,_,_,_,e=>by simp at e|x::ws,_,0,w,h,e=>by simp only[RWs]at h;obtain⟨v,r,rfl,q,_⟩:=h;simp at e;subst e;exact⟨v,rfl,q⟩|x::ws,_,i+1,w,h,e=>by simp only[RWs]at h;obtain⟨v,r,rfl,_,t⟩:=h;obtain⟨u,a,b⟩:=RWs.get t (by simpa using e);exact⟨u,by simpa using a,b⟩
theorem RWs.app:∀{ws a:List VW}{vs b:List V},RWs K H ws vs->RWs K H a b->RWs K H (ws++a) (vs++b)|[],_,_,_,h,h'=>by simp only[RWs]at h;subst h;exact h'|w::ws,_,_,_,h,h'=>by simp only[RWs]at h;obtain⟨v,r,rfl,q,t⟩:=h;simp only[ap1,RWs];exact⟨v,_,rfl,q,RWs.app t h'⟩
def RWs.one{w:VW}{v:V}(h:RW K H w v):RWs K H [w] [v]:=by simp only[RWs];exact⟨v,[],rfl,h,rfl⟩
def RWs.cons{w:VW}{v:V}{ws:List VW}{vs:List V}(h:RW K H w v)(t:RWs K H ws vs):RWs K H (w::ws) (v::vs):=by simp only[RWs];exact⟨v,vs,rfl,h,t⟩
theorem RWs.drop:∀{ws:List VW}{vs:List V}(n:Nat),RWs K H ws vs->RWs K H (ws.drop n) (vs.drop n)|_,_,0,h=>by simpa using h|[],_,n+1,h=>by simp only[RWs]at h;subst h;simp[RWs]|w::ws,_,n+1,h=>by simp only[RWs]at h;obtain⟨v,r,rfl,_,t⟩:=h;simpa using RWs.drop n t
theorem RWs.take:∀{ws:List VW}{vs:List V}(n:Nat),RWs K H ws vs->RWs K H (ws.take n) (vs.take n)|_,_,0,h=>by simp[RWs]|[],_,n+1,h=>by simp only[RWs]at h;subst h;simp[RWs]|w::ws,_,n+1,h=>by simp only[RWs]at h;obtain⟨v,r,rfl,q,t⟩:=h;simp only[List.take_succ_cons,RWs];exact⟨v,_,rfl,q,RWs.take n t⟩
theorem RWs.set{w:VW}{v:V}(hw:RW K H w v):∀{ws:List VW}{vs:List V}(n:Nat),RWs K H ws vs->RWs K H (ws.set n w) (vs.set n v)|[],_,n,h=>by simp only[RWs]at h;subst h;simp[RWs]|x::ws,_,0,h=>by simp only[RWs]at h;obtain⟨u,r,rfl,q,t⟩:=h;simp only[apS,RWs];exact⟨v,r,rfl,hw,t⟩|x::ws,_,n+1,h=>by simp only[RWs]at h;obtain⟨u,r,rfl,q,t⟩:=h;simp only[aqb,RWs];exact⟨u,_,rfl,q,RWs.set hw n t⟩
theorem RWs.cut{ws:List VW}{vs:List V}(h:RWs K H ws vs)(lo a:Option Int):RWs K H (WL.cut ws lo a) (afJ vs lo a):=by
 have e:WL.sIx=HT.sIx:=by funext n d o;cases o<;>rfl
 unfold WL.cut afJ;rw[e,<-h.length];exact(h.drop _).take _
def RWs.ints(ns:List Int):RWs K H (ns.map .int) (ns.map V.int):=by induction ns with|nil=>simp[RWs]|cons n ns ih=>simp only[ao9,RWs];exact⟨_,_,rfl,by simp[RW],ih⟩
end
def NF:HO->Prop|.frz _ _=>False|.ins _ _ []=>False|_=>True
structure Bx where
 K:W.Frag
 H0:Hp
 F0:Hp
 xp:VW->Ws->Hp->Prop
 mono:∀c σ F F',ar F F'->xp c σ F->xp c σ F'
structure RB(B:Bx)(F H:Hp):Prop where
 sub:ar F H
 base:ar B.H0 H
 fz0:ar B.F0 F
 fr:∀a o,F a=some o->B.F0 a=some o\/B.H0 a=none/\NF o
def IsO:Sl->Prop|.od _ _=>True|.ob=>True|_=>False
structure OD(K:W.Frag)(H0:Hp)(σ:Ws)(σV:L2.St)(F H:Hp):Prop where
 od:∀(i:Nat)(ks us:List VW),σ[i]?=some (.od ks us)->∃a kvs,σV[i]?=some (some (.ref a))/\F a=none/\H0 a=none/\H a=some (.dK kvs)/\RWs K F ks (kvs.map λp=>kV p.1)/\RWs K F us (kvs.map λp=>p.2)ad:∀(i j:Nat)(ks us ks' us':List VW)(a:Addr),i≠j->σ[i]?=some (.od ks us)->σ[j]?=some (.od ks' us')->σV[i]?=some (some (.ref a))->σV[j]?=some (some (.ref a))->False
 ob:∀i:Nat,σ[i]?=some .ob->∃a C dx,σV[i]?=some (some (.ref a))/\F a=some (.ins C dx [])
def OD.via{K D:W.Frag}{A o:Hp}{σ g:Ws}{l k:L2.St}{F F' H H':Hp}(R:OD K A σ l F H)(P:D=K)(f:Nat->Nat)(Q:∀i j,f i=f j->i=j\/∀d c,g[i]?≠some (.od d c))(h:∀(i:Nat)(t:Sl),IsO t->g[i]?=some t->σ[f i]?=some t/\k[i]?=l[f i]?)(s:ar F F')(n:∀(i:Nat)(d c:List VW)(a:Addr)(b:List (Key×V)),g[i]?=some (.od d c)->l[f i]?=some (some (.ref a))->H a=some (.dK b)->F a=none->A a=none->F' a=none/\o a=none/\H' a=some (.dK b)):OD D o g k F' H':=by
 subst P;refine⟨λi d c e=>?_,λi j d c p m a x B U G Z=>?_,λi e=>?_⟩;·obtain⟨y,w⟩:=h i (.od d c) trivial e;obtain⟨a,b,q,r,I,S,X,T⟩:=R.od (f i) d c y;obtain⟨J,Y,M⟩:=n i d c a b e q S r I;exact⟨a,b,w.trans q,J,Y,M,X.keep s,T.keep s⟩
 ·obtain⟨v,N⟩:=h i (.od d c) trivial B;obtain⟨u,E⟩:=h j (.od p m) trivial U;refine R.ad (f i) (f j) d c p m a (λz=>?_) v u (N.symm.trans G) (E.symm.trans Z);rcases Q i j z with z|z;·exact x z
  ·exact z _ _ B
 ·obtain⟨y,w⟩:=h i .ob trivial e;obtain⟨a,C,O,q,r⟩:=R.ob (f i) y;exact⟨a,C,O,w.trans q,s _ _ r⟩
structure RS(B:Bx)(σ:Ws)(σV:L2.St)(F H:Hp):Prop where
 rb:RB B F H
 len:σ.length=σV.length
 va:∀(i:Nat)(w:VW),σ[i]?=some (.va w)->∃v,σV[i]?=some (some v)/\RW B.K F w v
 ow:∀(i:Nat)(ws:List VW),σ[i]?=some (.ow ws)->∃a vs,σV[i]?=some (some (.ref a))/\F a=none/\B.H0 a=none/\H a=some (.lst vs)/\RWs B.K F ws vs
 ap:∀(i j:Nat)(ws ws':List VW)(a:Addr),i≠j->σ[i]?=some (.ow ws)->σ[j]?=some (.ow ws')->σV[i]?=some (some (.ref a))->σV[j]?=some (some (.ref a))->False
 dd:OD B.K B.H0 σ σV F H
def RS.ahD{B:Bx}{σ:Ws}{c:L2.St}{F H F' H':Hp}(R:RS B σ c F H)(s:ar F F')(n:∀a b,H a=some (.dK b)->F a=none->F' a=none/\H' a=some (.dK b)):OD B.K B.H0 σ c F' H':=R.dd.via rfl id (λ_ _ z=>.inl z) (λ_ _ _ e=>⟨e,rfl⟩) s λ_ _ _ a b _ _ d f g=>⟨(n a b d f).1,g,(n a b d f).2⟩
def RS.akQ{B:Bx}{σ:Ws}{c:L2.St}{F H F' H':Hp}(R:RS B σ c F H)(i:Nat){sl:Sl}(k:¬IsO sl)(x:Option V)(s:ar F F')(n:∀(j:Nat)(f d:List VW)(a:Addr)(b:List (Key×V)),i≠j->σ[j]?=some (.od f d)->c[j]?=some (some (.ref a))->H a=some (.dK b)->F a=none->F' a=none/\H' a=some (.dK b)):OD B.K B.H0 (σ.set i sl) (c.set i x) F' H':=by
 have h:∀{j:Nat}{s':Sl},IsO s'->(σ.set i sl)[j]?=some s'->i≠j:=λ{j s'}l e z=>by
  subst z;have t:i<σ.length:=by have:=(ao3.mp e).1;simpa using this
  rw[ao8 t]at e;exact k (apf e▸l)
 refine R.dd.via rfl id (λ_ _ z=>.inl z) (λj f d e=>?_) s λj f d a b e p m r o=>?_;·have:=h d e;rw[ao0 this]at e;exact⟨e,by rw[ao0 this];rfl⟩
 ·have g:=h (s':=.od f d) trivial e;rw[ao0 g]at e;obtain⟨q,u⟩:=n j f d a b g e p m r;exact⟨q,o,u⟩
def set_same{a:L2.St}{i:Nat}{x:Option V}(e:a[i]?=some x):a.set i x=a:=by
 apply List.ext_getElem?;intro j;by_cases b:i=j;·subst b;rw[ao8 (ao3.mp e).1,e]
 ·rw[ao0 b]
structure Ext(F H F' H':Hp):Prop where
 same:ar F F'
 rs:∀B σ σV,RS B σ σV F H->RS B σ σV F' H'
 rb:∀B,RB B F H->RB B F' H'
 own:∀a o,H a=some o->H' a=some o/\(F a=none->F' a=none)
structure Gr(F H F' H':Hp):Prop where
 f:ar F F'
 h:ar H H'
 nf:∀a o,H a=some o->F a=none->F' a=none
theorem Gr.refl{F H:Hp}:Gr F H F H:=⟨ar.refl _,ar.refl _,λ_ _ _ z=>z⟩
theorem Gr.trans{F H c g d f:Hp}(a:Gr F H c g)(b:Gr c g d f):Gr F H d f:=⟨a.f.trans b.f,a.h.trans b.h,λx o e z=>b.nf x o (a.h x o e) (a.nf x o e z)⟩
def Ext.gr{F H F' H':Hp}(e:Ext F H F' H'):Gr F H F' H':=⟨e.same,λa o q=>(e.own a o q).1,λa o q=>(e.own a o q).2⟩
section
variable{B:Bx}{σ:Ws}{σV:L2.St}{F H:Hp}
def Gr.new{p:Addr}(c:F p=none)(b:H p=none)(o:HO):Gr F H (upd F p o) (upd H p o):=⟨az c o,az b o,λa u e z=>by rw[ag (aM e b)];exact z⟩
theorem Ext.refl(F H:Hp):Ext F H F H:=⟨ar.refl _,λ_ _ _ h=>h,λ_ h=>h,λ_ _ h=>⟨h,λz=>z⟩⟩
def RB.new(R:RB B F H){p:Addr}(d:H p=none)(o:HO)(g:NF o:=by trivial):RB B (upd F p o) (upd H p o):=by
 have h:=R.sub.free d;have f:=R.base.free d;refine⟨λb u e=>?_,λb u e=>?_,R.fz0.trans (az h o),λa u e=>?_⟩
 ·by_cases c:b=p;·subst c;rw[ao]at e⊢;exact e
  ·rw[ag c]at e⊢;exact R.sub b u e
 ·exact az d o b u (R.base b u e)
 ·by_cases c:a=p;·subst c;rw[ao]at e;cases e;exact .inr ⟨f,g⟩
  ·rw[ag c]at e;exact R.fr a u e
theorem RS.new(R:RS B σ σV F H){p:Addr}(b:H p=none)(o:HO)(k:NF o:=by trivial):RS B σ σV (upd F p o) (upd H p o):=by
 have h:=R.rb.sub.free b;refine⟨R.rb.new b o k,R.len,λi w e=>?_,λi ws e=>?_,R.ap,R.ahD (az h o) λa n d r=>⟨by rw[ag (aM d b)];exact r,by rw[ag (aM d b)];exact d⟩⟩;·obtain⟨v,f,c⟩:=R.va i w e;exact⟨v,f,c.keep (az h o)⟩
 ·obtain⟨a,m,f,c,l,g,q⟩:=R.ow i ws e;have j:a≠p:=λz=>by subst z;rw[b]at g;cases g
  exact⟨a,m,f,by rw[ag j];exact c,l,by rw[ag j];exact g,q.keep (az h o)⟩
theorem Ext.new{p:Addr}(f:F p=none)(b:H p=none)(o:HO)(d:NF o:=by trivial):Ext F H (upd F p o) (upd H p o):=⟨az f o,λ_ _ _ R=>R.new b o d,λ_ R=>R.new b o d,λa u e=>by
 have c:a≠p:=λz=>by subst z;rw[b]at e;cases e
 exact⟨by rw[ag c];exact e,λz=>by rw[ag c];exact z⟩⟩
def RS.ah8(R:RS B σ σV F H){p:Addr}(c:H p=none)(o:HO):RS B σ σV F (upd H p o):=by refine⟨⟨λb u e=>az c o b u (R.rb.sub b u e),λb u e=>az c o b u (R.rb.base b u e),R.rb.fz0,R.rb.fr⟩,R.len,R.va,λi ws e=>?_,R.ap,R.ahD (ar.refl _) λa l d n=>⟨n,by rw[ag (aM d c)];exact d⟩⟩;obtain⟨a,h,j,f,g,k,m⟩:=R.ow i ws e;exact⟨a,h,j,f,g,az c o _ _ k,m⟩
def RS.grow(R:RS B σ σV F H){F' H':Hp}(g:Gr F H F' H')(n:RB B F' H'):RS B σ σV F' H':=by
 refine⟨n,R.len,λi w e=>?_,λi ws e=>?_,R.ap,R.ahD g.f λa k d m=>⟨g.nf a _ d m,g.h a _ d⟩⟩;·obtain⟨v,c,b⟩:=R.va i w e;exact⟨v,c,b.keep g.f⟩
 ·obtain⟨a,j,c,b,h,f,l⟩:=R.ow i ws e;exact⟨a,j,c,g.nf a _ f b,h,g.h a _ f,l.keep g.f⟩
theorem RS.set(R:RS B σ σV F H){i:Nat}{w:VW}{v:V}(hw:RW B.K F w v):RS B (σ.set i (.va w)) (σV.set i (some v)) F H:=by
 have n:=R.len;refine⟨R.rb,by simp[n],λj u e=>?_,λj ws e=>?_,λj k ws g a h d f l m=>?_,R.akQ i (sl:=.va w) (λz=>z) _ (ar.refl _) λ_ _ _ _ _ _ _ _ o r=>⟨r,o⟩⟩
 ·by_cases c:i=j
  ·subst c;have b:i<σ.length:=by have:=(ao3.mp e).1;simpa using this
   rw[ao8 b]at e;cases e;exact⟨v,ao8 (by omega),hw⟩
  ·rw[ao0 c]at e⊢;exact R.va j u e
 ·by_cases c:i=j
  ·subst c;have b:i<σ.length:=by have:=(ao3.mp e).1;simpa using this
   rw[ao8 b]at e;cases e
  ·rw[ao0 c]at e⊢;exact R.ow j ws e
 ·have p:i≠j:=λz=>by
   subst z;have b:i<σ.length:=by have:=(ao3.mp d).1;simpa using this
   rw[ao8 b]at d;cases d
  have q:i≠k:=λz=>by
   subst z;have b:i<σ.length:=by have:=(ao3.mp f).1;simpa using this
   rw[ao8 b]at f;cases f
  rw[ao0 p]at d l;rw[ao0 q]at f m;exact R.ap j k ws g a h d f l m
def RS.aoA(R:RS B σ σV F H){i:Nat}{ws:List VW}{vs:List V}{a:Addr}(y:F a=none)(x:B.H0 a=none)(t:H a=some (.lst vs))(hw:RWs B.K F ws vs)(s:∀(j:Nat)(d:List VW),j≠i->σ[j]?=some (.ow d)->σV[j]?≠some (some (.ref a))):RS B (σ.set i (.ow ws)) (σV.set i (some (.ref a))) F H:=by
 have v:=R.len;have f:∀{j:Nat}{d:List VW},(σ.set i (.ow ws))[j]?=some (.ow d)->i=j->d=ws/\(σV.set i (some (V.ref a)))[j]?=some (some (.ref a)):=λ{j d}e z=>by
  subst z;have r:i<σ.length:=by have:=(ao3.mp e).1;simpa using this
  rw[ao8 r]at e;cases e;exact⟨rfl,ao8 (by omega)⟩
 refine⟨R.rb,by simp[v],λj u e=>?_,λj d e=>?_,λj k d h b n q m p o=>?_,R.akQ i (sl:=.ow ws) (λz=>z) _ (ar.refl _) λ_ _ _ _ _ _ _ _ w A=>⟨A,w⟩⟩
 ·by_cases c:i=j
  ·subst c;have r:i<σ.length:=by have:=(ao3.mp e).1;simpa using this
   rw[ao8 r]at e;cases e
  ·rw[ao0 c]at e⊢;exact R.va j u e
 ·by_cases c:i=j;·obtain⟨rfl,g⟩:=f e c;exact⟨a,vs,g,y,x,t,hw⟩
  ·rw[ao0 c]at e⊢;exact R.ow j d e
 ·by_cases c:i=j;·obtain⟨_,g⟩:=f q c;rw[p]at g;cases g;have l:i≠k:=λz=>n (c.symm.trans z);rw[ao0 l]at m o;exact s k h (ape l) m o
  ·rw[ao0 c]at q p;by_cases l:i=k;·obtain⟨_,g⟩:=f m l;rw[o]at g;cases g;exact s j d (ape c) q p
   ·rw[ao0 l]at m o;exact R.ap j k d h b n q m p o
def RS.write(R:RS B σ σV F H){i:Nat}{ws us:List VW}{vs zs:List V}{a:Addr}(e:σ[i]?=some (.ow ws))(n:σV[i]?=some (some (.ref a)))(t:F a=none)(s:B.H0 a=none)(I:H a=some (.lst vs))(J:RWs B.K F us zs):RS B (σ.set i (.ow us)) σV F (upd H a (.lst zs)):=by
 have r:i<σ.length:=(ao3.mp e).1;have K:∀b o,F b=some o->b≠a:=λb o q z=>by subst z;rw[t]at q;cases q
 refine⟨⟨λb u q=>by rw[ag (K b u q)];exact R.rb.sub b u q,λb u q=>by
  have f:b≠a:=λz=>by subst z;rw[s]at q;cases q
  rw[ag f];exact R.rb.base b u q,R.rb.fz0,R.rb.fr⟩,by simp[R.len],λj w q=>?_,λj d q=>?_,λj k d O b m C P y S=>?_,by
 have M:=R.akQ (H':=upd H a (.lst zs)) i (sl:=.ow us) (λz=>z) (some (.ref a)) (ar.refl _) λ_ _ _ b D _ _ _ l E=>⟨E,by
   have f:b≠a:=λz=>by subst z;rw[I]at l;cases l
   rw[ag f];exact l⟩;rwa[set_same n]at M⟩
 ·by_cases c:i=j;·subst c;rw[ao8 r]at q;cases q
  ·rw[ao0 c]at q;exact R.va j w q
 ·by_cases c:i=j;·subst c;rw[ao8 r]at q;cases q;exact⟨a,zs,n,t,s,ao,J⟩
  ·rw[ao0 c]at q;obtain⟨b,g,p,v,A,N,Q⟩:=R.ow j d q;have f:b≠a:=λz=>by subst z;exact R.ap i j ws d b c e q n p
   exact⟨b,g,p,v,A,by rw[ag f];exact N,Q⟩
 ·have back:∀{j:Nat}{d:List VW},(σ.set i (.ow us))[j]?=some (.ow d)->∃g,σ[j]?=some (.ow g):=λ{j d}q=>by
   by_cases c:i=j;·subst c;exact⟨ws,e⟩
   ·rw[ao0 c]at q;exact⟨d,q⟩
  obtain⟨g,G⟩:=back C;obtain⟨h,x⟩:=back P;exact R.ap j k g h b m G x y S
def RS.aog(R:RS B σ σV F H){i:Nat}{sl:Sl}{a:Addr}{o:HO}{w:VW}(e:σ[i]?=some sl)(A:σV[i]?=some (some (.ref a)))(hF:F a=none)(Y:B.H0 a=none)(T:H a=some o)(C:NF o)(hw:RW B.K (upd F a o) w (.ref a))(N:∀(j:Nat)(ws:List VW),i≠j->σ[j]?=some (.ow ws)->σV[j]?≠some (some (.ref a)))(E:∀(j:Nat)(t p:List VW),i≠j->σ[j]?=some (.od t p)->σV[j]?≠some (some (.ref a))):RS B (σ.set i (.va w)) σV (upd F a o) H:=by
 have g:i<σ.length:=(ao3.mp e).1;have s:ar F (upd F a o):=az hF _;refine⟨⟨λb u q=>?_,R.rb.base,R.rb.fz0.trans s,λb u q=>?_⟩,by simp[R.len],λj w' q=>?_,λj h q=>?_,λj k h x b y f m D f2=>?_,by
 have U:=R.akQ i (sl:=.va w) (λz=>z) (some (.ref a)) s λj t p b J c I G X P=>⟨by
  have r:b≠a:=λz=>by subst z;exact E j t p c I G
  rw[ag r];exact P,X⟩;rwa[set_same A]at U⟩
 ·by_cases d:b=a;·subst d;rw[ao]at q;cases q;exact T
  ·rw[ag d]at q;exact R.rb.sub b u q
 ·by_cases d:b=a;·subst d;rw[ao]at q;cases q;exact .inr ⟨Y,C⟩
  ·rw[ag d]at q;exact R.rb.fr b u q
 ·by_cases c:i=j;·subst c;rw[ao8 g]at q;cases q;exact⟨.ref a,A,hw⟩
  ·rw[ao0 c]at q;obtain⟨v,l,n⟩:=R.va j w' q;exact⟨v,l,n.keep s⟩
 ·by_cases c:i=j;·subst c;rw[ao8 g]at q;cases q
  ·rw[ao0 c]at q;obtain⟨b,O,l,n,K,S,Q⟩:=R.ow j h q;have r:b≠a:=λz=>by subst z;exact N j h c q l
   exact⟨b,O,l,by rw[ag r];exact n,K,S,Q.keep s⟩
 ·have M:i≠j:=λz=>by subst z;rw[ao8 g]at f;cases f
  have Z:i≠k:=λz=>by subst z;rw[ao8 g]at m;cases m
  rw[ao0 M]at f;rw[ao0 Z]at m;exact R.ap j k h x b y f m D f2
def Ow1:HO->Prop|.lst _=>True|.dK _=>True|_=>False
theorem RS.frz(R:RS B σ σV F H)(i:Nat):∃s,ar F s/\RS B (WL.frz i σ) σV s H/\((s=F/\WL.frz i σ=σ)\/∃a o w,s=upd F a o/\Ow1 o/\F a=none/\WL.frz i σ=σ.set i (.va w)/\σV[i]?=some (some (.ref a))/\H a=some o/\B.H0 a=none):=by cases e:σ[i]? with
|none=>
 have c:WL.frz i σ=σ:=by unfold WL.frz;rw[e]
 rw[c];exact⟨F,ar.refl _,R,.inl ⟨rfl,rfl⟩⟩
|some sl=>cases sl with|no=>
  have c:WL.frz i σ=σ:=by unfold WL.frz;rw[e]
  rw[c];exact⟨F,ar.refl _,R,.inl ⟨rfl,rfl⟩⟩|va w=>
  have c:WL.frz i σ=σ:=by unfold WL.frz;rw[e]
  rw[c];exact⟨F,ar.refl _,R,.inl ⟨rfl,rfl⟩⟩|ob=>
  have c:WL.frz i σ=σ:=by unfold WL.frz;rw[e]
  rw[c];exact⟨F,ar.refl _,R,.inl ⟨rfl,rfl⟩⟩|ow ws=>
  have c:WL.frz i σ=σ.set i (.va (.lst ws)):=by unfold WL.frz;rw[e]
  rw[c];obtain⟨a,t,f,d,n,g,x⟩:=R.ow i ws e;refine⟨upd F a (.lst t),az d _,R.aog e f d n g trivial (by simp only[RW];exact⟨a,t,rfl,SqL.of ao,x.keep (az d _)⟩) (λj y m q z=>R.ap i j ws y a m e q f z) (λj l p m q z=>?_),.inr ⟨a,_,_,rfl,trivial,d,rfl,f,g,n⟩⟩;obtain⟨b,h,r,_,_,k,_⟩:=R.dd.od j l p q;rw[z]at r;cases r;rw[g]at k;cases k|od l p=>
  have c:WL.frz i σ=σ.set i (.va (.dic l p)):=by unfold WL.frz;rw[e]
  rw[c];obtain⟨a,h,f,d,n,g,x,A⟩:=R.dd.od i l p e;refine⟨upd F a (.dK h),az d _,R.aog e f d n g trivial (by simp only[RW];exact⟨a,h,rfl,.inl ao,x.keep (az d _),A.keep (az d _)⟩) (λj y m q z=>?_) (λj v u m q z=>R.dd.ad i j l p v u a m e q f z),.inr ⟨a,_,_,rfl,trivial,d,rfl,f,g,n⟩⟩;obtain⟨b,t,r,_,_,k,_⟩:=R.ow j y q;rw[z]at r;cases r;rw[g]at k;cases k
def RS.anR(R:RS B σ σV F H){i:Nat}{ks us:List VW}{kvs:List (Key×V)}{a:Addr}(M:F a=none)(I:B.H0 a=none)(E:H a=some (.dK kvs))(y:RWs B.K F ks (kvs.map λp=>kV p.1))(G:RWs B.K F us (kvs.map λp=>p.2))(w:∀(j:Nat)(q o:List VW),j≠i->σ[j]?=some (.od q o)->σV[j]?≠some (some (.ref a))):RS B (σ.set i (.od ks us)) (σV.set i (some (.ref a))) F H:=by
 have x:=R.len;have c:∀{j:Nat}{t:Sl},(σ.set i (.od ks us))[j]?=some t->i=j->t=.od ks us/\(σV.set i (some (V.ref a)))[j]?=some (some (.ref a)):=λ{j t}e z=>by
  subst z;have D:i<σ.length:=by have:=(ao3.mp e).1;simpa using this
  rw[ao8 D]at e;exact⟨(apf e).symm,ao8 (by omega)⟩
 refine⟨R.rb,by simp[x],λj u e=>?_,λj s e=>?_,λj k s v b l h g n m=>?_,λj q o e=>?_,λj k K us1 A us2 b l h g n m=>?_,λj e=>?_⟩
 ·by_cases d:i=j;·cases(c e d).1
  ·rw[ao0 d]at e⊢;exact R.va j u e
 ·by_cases d:i=j;·cases(c e d).1
  ·rw[ao0 d]at e⊢;exact R.ow j s e
 ·have C:i≠j:=λz=>by cases(c h z).1
  have J:i≠k:=λz=>by cases(c g z).1
  rw[ao0 C]at h n;rw[ao0 J]at g m;exact R.ap j k s v b l h g n m
 ·by_cases d:i=j;·obtain⟨h,g⟩:=c e d;cases h;exact⟨a,kvs,g,M,I,E,y,G⟩
  ·rw[ao0 d]at e⊢;exact R.dd.od j q o e
 ·by_cases d:i=j;·have r:=(c h d).2;rw[n]at r;cases r;have f:i≠k:=λz=>l (d.symm.trans z);rw[ao0 f]at g m;exact w k _ _ (ape f) g m
  ·rw[ao0 d]at h n;by_cases f:i=k;·have r:=(c g f).2;rw[m]at r;cases r;exact w j _ _ (ape d) h n
   ·rw[ao0 f]at g m;exact R.dd.ad j k _ _ _ _ b l h g n m
 ·have d:i≠j:=λz=>by cases(c e z).1
  rw[ao0 d]at e⊢;exact R.dd.ob j e
def RS.aeZ(R:RS B σ σV F H){i:Nat}{ks us f us2:List VW}{kvs d:List (Key×V)}{a:Addr}(e:σ[i]?=some (.od ks us))(N:σV[i]?=some (some (.ref a)))(O:F a=none)(M:B.H0 a=none)(X:H a=some (.dK kvs))(S:RWs B.K F f (d.map λp=>kV p.1))(Y:RWs B.K F us2 (d.map λp=>p.2)):RS B (σ.set i (.od f us2)) σV F (upd H a (.dK d)):=by
 have l:i<σ.length:=(ao3.mp e).1;have Z:∀b o,F b=some o->b≠a:=λb o q z=>by subst z;rw[O]at q;cases q
 refine⟨⟨λb u q=>by rw[ag (Z b u q)];exact R.rb.sub b u q,λb u q=>by
 have n:b≠a:=λz=>by subst z;rw[M]at q;cases q
 rw[ag n];exact R.rb.base b u q,R.rb.fz0,R.rb.fr⟩,by simp[R.len],λj w q=>?_,λj D q=>?_,λj k D G b g h m v K=>?_,λj I E q=>?_,λj k a0 us1 Q us3 b g h m v K=>?_,λj q=>?_⟩
 ·by_cases c:i=j;·subst c;rw[ao8 l]at q;cases q
  ·rw[ao0 c]at q;exact R.va j w q
 ·by_cases c:i=j;·subst c;rw[ao8 l]at q;cases q
  ·rw[ao0 c]at q;obtain⟨b,C,s,t,A,r,J⟩:=R.ow j D q;have n:b≠a:=λz=>by subst z;rw[X]at r;cases r
   exact⟨b,C,s,t,A,by rw[ag n];exact r,J⟩
 ·have T:i≠j:=λz=>by subst z;rw[ao8 l]at h;cases h
  have n2:i≠k:=λz=>by subst z;rw[ao8 l]at m;cases m
  rw[ao0 T]at h;rw[ao0 n2]at m;exact R.ap j k D G b g h m v K
 ·by_cases c:i=j;·subst c;rw[ao8 l]at q;cases q;exact⟨a,d,N,O,M,ao,S,Y⟩
  ·rw[ao0 c]at q;obtain⟨b,C,s,t,A,r,J⟩:=R.dd.od j I E q;have n:b≠a:=λz=>by subst z;exact R.dd.ad i j _ _ _ _ b c e q N s
   exact⟨b,C,s,t,A,by rw[ag n];exact r,J⟩
 ·have back:∀{j:Nat}{x y:List VW},(σ.set i (.od f us2))[j]?=some (.od x y)->∃x' y',σ[j]?=some (.od x' y'):=λ{j x y}q=>by
   by_cases c:i=j;·subst c;exact⟨_,_,e⟩
   ·rw[ao0 c]at q;exact⟨_,_,q⟩
  obtain⟨_,_,U⟩:=back h;obtain⟨_,_,P⟩:=back m;exact R.dd.ad j k _ _ _ _ b g U P v K
 ·have c:i≠j:=λz=>by subst z;rw[ao8 l]at q;cases q
  rw[ao0 c]at q;exact R.dd.ob j q
end
end WS
set_option autoImplicit true
set_option relaxedAutoImplicit true
namespace WS
open PySem PySem.Spec PyProof.Rows L2
open WL(Res Sl Ws EF TF AF LF GF GsF SF Out)
section
variable{X:Cx}{e:Expr}{es:List Expr}{st:Stmt}{sts:List Stmt}
def PE.imp{t t':TE}(h:PE X e t)(f:∀a H Q,t' a H Q->t a H Q):PE X e t':=λb s a H Q I q=>h b s a H Q I (f a H Q q)
def PT.imp{t t':TT}(h:PT X e t)(f:∀a H Q,t' a H Q->t a H Q):PT X e t':=λb s a H Q I q=>h b s a H Q I (f a H Q q)
def PW.imp{t t':TT}(h:PW X e t)(f:∀a H Q,t' a H Q->t a H Q):PW X e t':=λc b s a H Q I q=>h c b s a H Q I (f a H Q q)
def PA.imp{t t':TA}(h:PA X es t)(f:∀a H Q,t' a H Q->t a H Q):PA X es t':=λc b s a H Q I q=>h c b s a H Q I (f a H Q q)
def PS.imp{t t':TS}(h:PS X st t)(f:∀D a H,t' D a H->t D a H):PS X st t':=λb s a H D I q=>h b s a H D I (f D a H q)
def PSs.imp{t t':TS}(h:PSs X sts t)(f:∀D a H,t' D a H->t D a H):PSs X sts t':=λb s a H D I q=>h b s a H D I (f D a H q)
def PG.imp{t t':TG}(h:PG X e t)(f:∀v a H Q,t' v a H Q->t v a H Q):PG X e t':=λb s a H v u Q I r q=>h b s a H v u Q I r (f v a H Q q)
def PGs.imp{t t':TGs}(h:PGs X es t)(f:∀v a H Q,t' v a H Q->t v a H Q):PGs X es t':=λb s a H v u Q I r q=>h b s a H v u Q I r (f v a H Q q)
def PI.imp{c:Expr}{t t':TI}(h:PI X c e t)(f:∀a H Q,t' a H Q->t a H Q):PI X c e t':=λb s a H Q I q=>h b s a H Q I (f a H Q q)
def PO.imp{o:Option Expr}{t t':TO}(h:PO X o t)(f:∀a H Q,t' a H Q->t a H Q):PO X o t':=λb s a H Q I q=>h b s a H Q I (f a H Q q)
end
def Rq(B:Bx)(σ:Ws)(F:Hp){b:Type}(r:Res b)(k:b->Prop):Prop:=match r with|.ok a=>k a|.ex c=>B.xp c σ F|.bad=>False
theorem Rq.mono{B:Bx}{σ:Ws}{F F':Hp}{b:Type}{r:Res b}{k k':b->Prop}(s:ar F F')(h:Rq B σ F r k)(f:∀a,k a->k' a):Rq B σ F' r k':=by cases r with|ok a=>exact f a h|ex c=>exact B.mono c σ F F' s h|bad=>exact h
theorem Rq.bind{B:Bx}{σ:Ws}{F:Hp}{d b:Type}{r:Res d}{g:d->Res b}{k:b->Prop}(h:Rq B σ F (r.bind g) k):Rq B σ F r λa=>Rq B σ F (g a) k:=by cases r with|ok a=>exact h|ex c=>exact h|bad=>exact h
def lo(B:Bx)(t:EF):TE:=λa H Q=>∃b F,RS B b a F H/\Rq B b F (t b) λw=>∀v c d,RS B b a d c->Gr F H d c->RW B.K d w v->Q v c
def loT(B:Bx)(t:TF):TT:=λa H Q=>∃c F,RS B c a F H/\Rq B c F (t c) λb=>∀d e,RS B c a e d->Gr F H e d->Q b d
def loA(B:Bx)(t:AF):TA:=λa H Q=>∃b F,RS B b a F H/\Rq B b F (t b) λws=>∀e c d,RS B b a d c->Gr F H d c->RWs B.K d ws e->Q e c
def loO(B:Bx)(t:Ws->Res (Option Int)):TO:=λa H Q=>∃b F,RS B b a F H/\Rq B b F (t b) λo=>∀c d,RS B b a d c->Gr F H d c->Q o c
def loL(B:Bx)(t:LF):TE:=λb H Q=>∃c F,RS B c b F H/\Rq B c F (t c) λws=>∀a f d e,RS B c b e d->Gr F H e d->e a=none->B.H0 a=none->d a=some (.lst f)->RWs B.K e ws f->(∀(j:Nat)(g:List VW),c[j]?=some (.ow g)->b[j]?≠some (some (.ref a)))->Q (.ref a) d
structure Gm(m:Bool)(F H F' H':Hp):Prop where
 f:ar F F'
 nf:∀a o,H a=some o->F a=none->F' a=none
 th:∀a o,H a=some o->∃o',H' a=some o'
 h:m=true->ar H H'
theorem Gm.refl{m:Bool}{F H:Hp}:Gm m F H F H:=⟨ar.refl _,λ_ _ _ z=>z,λ_ o e=>⟨o,e⟩,λ_=>ar.refl _⟩
theorem Gm.trans{m:Bool}{F H f g h j:Hp}(a:Gm m F H f g)(b:Gm m f g h j):Gm m F H h j:=⟨a.f.trans b.f,λx o e z=>by obtain⟨d,c⟩:=a.th x o e;exact b.nf x d c (a.nf x o e z),λx o e=>by obtain⟨d,c⟩:=a.th x o e;exact b.th x d c,λi=>(a.h i).trans (b.h i)⟩
def loG(m:Bool)(B:Bx)(g:GF):TG:=λv c H Q=>∃e F w,RS B e c F H/\RW B.K F w v/\Rq B e F (g w e) λd=>∀a b f,RS B d a f b->Gm m F H f b->Q a b
def alz(m:Bool)(B:Bx)(g:GsF):TGs:=λh c H Q=>∃e F ws,RS B e c F H/\RWs B.K F ws h/\Rq B e F (g ws e) λd=>∀a b f,RS B d a f b->Gm m F H f b->Q a b
def Oq(B:Bx)(D:Ends)(F:Hp)(o:Out):Prop:=match o with|.nx σ'=>∀a d b,RS B σ' a b d->ar F b->D.nx a d|.bk σ'=>∀a d b,RS B σ' a b d->ar F b->D.bk a d|.ct σ'=>∀a d b,RS B σ' a b d->ar F b->D.ct a d|.rt w=>∀v d b,RB B b d->ar F b->RW B.K b w v->D.rt v d|.ex c σ'=>B.xp c σ' F|.bad=>False
def loS(B:Bx)(t:SF):TS:=λD a H=>∃b F,RS B b a F H/\Oq B D F (t b)
theorem Oq.mono{B:Bx}{D:Ends}{F F':Hp}{o:Out}(s:ar F F')(h:Oq B D F o):Oq B D F' o:=by cases o with|nx σ=>exact λa H G R z=>h a H G R (s.trans z)|bk σ=>exact λa H G R z=>h a H G R (s.trans z)|ct σ=>exact λa H G R z=>h a H G R (s.trans z)|rt w=>exact λa H G R z=>h a H G R (s.trans z)|ex c σ=>exact B.mono c σ F F' s h|bad=>exact h
theorem Oq.ofR    (h:Oq B D F (WL.ofR σ r f)):Rq B σ F r λa=>Oq B D F (f a):=by cases r with|ok a=>exact h|ex c=>exact h|bad=>exact h
def Eq1(F H:Hp)(K:W.Frag)(r:Res VW)(Q:VK):Prop:=match r with|.ok w=>∀v b a,Ext F H b a->RW K b w v->Q v a|_=>False
def lo2(K:W.Frag)(r:VW->VW->Res VW):R2:=λx y H Q=>∃F wx a,ar F H/\RW K F wx x/\RW K F a y/\Eq1 F H K (r wx a) Q
def lo1(K:W.Frag)(r:VW->Res VW):V->Hp->VK->Prop:=λx H Q=>∃F wx,ar F H/\RW K F wx x/\Eq1 F H K (r wx) Q
def loN(K:W.Frag)(r:List VW->Res VW):List V->Hp->VK->Prop:=λa H Q=>∃F ws,ar F H/\RWs K F ws a/\Eq1 F H K (r ws) Q
def Calm(r:VW->VW->Res VW):Prop:=∀x y c,r x y≠.ex c
def OpR.imp{X:Cx}{f:Value->Value->Sem Value}{r b:R2}(h:OpR X f r)(g:∀x y H Q,b x y H Q->r x y H Q):OpR X f b:=λa s d H x y v u Q I c e q=>h a s d H x y v u Q I c e (g x y H Q q)
def UnR.imp{X:Cx}{f:Value->Sem Value}{r b:V->Hp->VK->Prop}(h:UnR X f r)(g:∀x H Q,b x H Q->r x H Q):UnR X f b:=λa s d H x v Q I c q=>h a s d H x v Q I c (g x H Q q)
def bJ.imp{X:Cx}{f:Value}{r c:List V->Hp->VK->Prop}(h:bJ X f r)(g:∀b H Q,c b H Q->r b H Q):bJ X f c:=λa s e H b i Q I d q=>h a s e H b i Q I d (g b H Q q)
def IxR.imp{X:Cx}{r d:R2}(h:IxR X r)(g:∀x y H Q,d x y H Q->r x y H Q):IxR X d:=λa b c s i H x y v u Q I f j q e=>h a b c s i H x y v u Q I f j (g x y H Q q) e
def SlR.imp{X:Cx}{r e:V->Option Int->Option Int->Hp->VK->Prop}(h:SlR X r)(g:∀x a b H Q,e x a b H Q->r x a b H Q):SlR X e:=λd s l H x v m k lo f j Q I i a b c q=>h d s l H x v m k lo f j Q I i a b c (g x lo f H Q q)
section
variable{X:Cx}{B:Bx}{e a b c:Expr}{es:List Expr}{pos:Pos}{ta tb tc:EF}{K:W.Frag}
def aiw{i:Nat}(h:PE X e (fj i)):PE X e (lo B (WL.aj i)):=PE.imp h λf H Q d=>by
 obtain⟨j,F,R,q⟩:=d;simp only[WL.aj]at q;split at q;·rename_i w e;obtain⟨v,g,r⟩:=R.va i w e;exact⟨v,g,q v H F R Gr.refl r⟩
 ·exact q.elim
def ahZ (h:PE X e (tC v))(r:∀F,RW B.K F w v):PE X e (lo B (WL.eC w)):=PE.imp h λf H Q d=>by obtain⟨g,F,R,q⟩:=d;exact q v H F R Gr.refl (r F)
def aq{i j pos}:PE X (.Constant (.int i) j pos) (lo B (WL.eC (.int i))):=ahZ afm λ_=>by simp[RW]
def oQ{i j pos}:PE X (.Constant (.bool i) j pos) (lo B (WL.eC (.bl i))):=ahZ ajC λ_=>by simp[RW]
def cQ{j pos}:PE X (.Constant .none j pos) (lo B (WL.eC .non)):=ahZ ajA λ_=>by simp[RW]
def aD{x j pos}:PE X (.Constant (.str x) j pos) (lo B (WL.eC (.str x))):=ahZ mv λ_=>by simp[RW]
def aeh (cm:Calm r)(f:∀x y H Q,lo2 B.K r x y H Q->rV x y H Q):∀d H Q,lo B (WL.eOp r ta tb) d H Q->tOp rV (lo B ta) (lo B tb) d H Q:=by intro d H Q⟨h,F,R,q⟩;have q:=Rq.bind q;refine⟨h,F,R,Rq.mono (ar.refl _) q λx i D A l o k n=>?_⟩;have i:=Rq.bind i;refine⟨h,l,o,Rq.mono k.f i λy g z C s R2 j u=>?_⟩;refine f _ _ _ _ ⟨s,x,y,R2.rb.sub,n.keep j.f,u,?_⟩;unfold Eq1;cases e:r x y with|ok w=>rw[e]at g;exact λv p t E m=>g v t p (E.rs B h d R2) ((k.trans j).trans E.gr) m|ex c=>exact(cm x y c e).elim|bad=>rw[e]at g;exact g
def aI (cm:Calm r)(h:OpR X (binaryOp op) (lo2 B.K r))(d:PE X a (lo B ta))(f:PE X b (lo B tb)):PE X (.BinOp a op b pos) (lo B (WL.eOp r ta tb)):=PE.imp (amw h d f) (aeh cm λ_ _ _ _ q=>q)
def dv (cm:Calm r)(h:OpR X (compareOp op) (lo2 B.K r))(d:PE X a (lo B ta))(f:PE X b (lo B tb))(g:behindInMarks op b=false):PE X (.Compare a [op] [b] pos) (lo B (WL.eOp r ta tb)):=PE.imp (agT h d f g) (aeh cm λ_ _ _ _ q=>q)
def aix (cm:Calm r)(h:IxR X (lo2 B.K r))(d:PE X a (lo B ta))(g:PE X b (lo B tb))(f:j6 b):PE X (.Subscript a b pos) (lo B (WL.eOp r ta tb)):=PE.imp (ajB h d g f) (aeh cm λ_ _ _ _ q=>q)
def tR (cm:∀x c,r x≠.ex c)(h:UnR X (unaryOp op) (lo1 B.K r))(m:PE X a (lo B ta)):PE X (.UnaryOp op a pos) (lo B (WL.eUn r ta)):=PE.imp (amu h m) λf H Q g=>by obtain⟨j,F,R,q⟩:=g;have q:=Rq.bind q;refine⟨j,F,R,Rq.mono (ar.refl _) q λx d u t k i s n=>?_⟩;refine⟨k,x,i.rb.sub,n,?_⟩;unfold Eq1;cases e:r x with|ok w=>rw[e]at d;exact λv o p E l=>d v p o (E.rs B j f i) (s.trans E.gr) l|ex c=>exact(cm x c e).elim|bad=>rw[e]at d;exact d
def uQ:∀d H Q,loT B (WL.tB t) d H Q->adB (lo B t) d H Q:=by
 intro d H Q⟨j,F,R,q⟩;have q:=Rq.bind q;refine⟨j,F,R,Rq.mono (ar.refl _) q λx f m i h l k g=>?_⟩;cases x<;>simp only[WL.toB]at f<;>first|exact f.elim|skip
 simp only[RW]at g;exact⟨_,g,f i h l k⟩
def bf (cm:Calm r)(h:OpR X (compareOp op) (lo2 B.K r))(g:PE X a (lo B ta))(i:PE X b (lo B tb))(f:behindInMarks op b=false):PT X (.Compare a [op] [b] pos) (loT B (WL.tB (WL.eOp r ta tb))):=PT.imp (aaN h g i f) λd H Q q=>aeh cm (λ_ _ _ _ q=>q) d H _ (uQ d H Q q)
def er (h:PE X e (lo B t))(f:∀d,isTrue e X.env d=(do let v <-d;standAt e.pos;holding [v] (truthy v)):=by intro _;rfl):PT X e (loT B (WL.tB t)):=PT.imp (ajl h f) uQ
def w5 (cm:Calm r)(n:Calm r'):∀d H Q,lo B (WL.kF r r' ta tb tc) d H Q->aaf (lo2 B.K r) (lo2 B.K r') (lo B ta) (lo B tb) (lo B tc) d H Q:=by intro d H Q⟨f,F,R,q⟩;have q:=Rq.bind q;refine⟨f,F,R,Rq.mono (ar.refl _) q λx p v1 H1 O J m T=>?_⟩;have p:=Rq.bind p;refine⟨f,O,J,Rq.mono m.f p λy i Y H2 M R2 l t=>?_⟩;refine⟨M,x,y,R2.rb.sub,T.keep l.f,t,?_⟩;unfold Eq1;cases e:r x y with|ex c=>exact(cm x y c e).elim|bad=>rw[e]at i;exact i|ok z=>rw[e]at i;intro v3 s N g E;have h:=i;cases z with
 |bl k=>simp only[RW]at E;refine⟨k,E,?_⟩;cases k with|false=>rw[ao2 ao7];exact h (.bl false) N s (g.rs B f d R2) ((m.trans l).trans g.gr) (by simp[RW])|true=>rw[ao1 rfl];have h:=Rq.bind (show Rq B f F ((tc f).bind λw=>r' y w) _ from h);refine⟨f,s,g.rs B f d R2,Rq.mono ((m.trans l).trans g.gr).f h λw j Z H4 P A C S=>?_⟩;refine⟨P,y,w,A.rb.sub,(t.keep g.same).keep C.f,S,?_⟩;unfold Eq1;cases o:r' y w with|ex c=>exact(n y w c o).elim|bad=>rw[o]at j;exact j|ok u=>rw[o]at j;exact λv U I D G=>j v I U (D.rs B f d A) ((((m.trans l).trans g.gr).trans C).trans D.gr) G
 |_=>exact h.elim
def vJ (cm:Calm r)(f:Calm r')(g:OpR X (compareOp op) (lo2 B.K r))(d:OpR X (compareOp op') (lo2 B.K r'))(i:PE X a (lo B ta))(k:PE X b (lo B tb))(j:PE X c (lo B tc))(h:lastMarks [op,op'] [b,c]=false:=by with_unfolding_all rfl):PE X (.Compare a [op,op'] [b,c] pos) (lo B (WL.kF r r' ta tb tc)):=PE.imp (adX g d i k j h) (w5 cm f)
def ac9 (cm:Calm r)(g:Calm r')(h:OpR X (compareOp op) (lo2 B.K r))(f:OpR X (compareOp op') (lo2 B.K r'))(j:PE X a (lo B ta))(l:PE X b (lo B tb))(k:PE X c (lo B tc))(i:lastMarks [op,op'] [b,c]=false:=by with_unfolding_all rfl):PT X (.Compare a [op,op'] [b,c] pos) (loT B (WL.tB (WL.kF r r' ta tb tc))):=PT.imp (adN h f j l k i) λd H Q q=>w5 cm g d H _ (uQ d H Q q)
variable{uA uB:TF}{rest:List Expr}
def ie(d:PT X a (loT B uA)):PW X (.BoolOp .And [a] pos) (loT B uA):=agL d
def j8(d:PT X a (loT B uA)):PW X (.BoolOp .Or [a] pos) (loT B uA):=ajj d
def j9(m:PT X a (loT B uA))(n:PW X (.BoolOp .And (b::rest) pos) (loT B uB)):PW X (.BoolOp .And (a::b::rest) pos) (loT B (WL.x8 uA uB)):=PW.imp (ajk m n) λk H Q f=>by obtain⟨i,F,R,q⟩:=f;have q:=Rq.bind q;refine⟨i,F,R,Rq.mono (ar.refl _) q λx j o g h d=>?_⟩;cases x with|true=>rw[ao1 rfl];exact⟨i,g,h,Rq.mono d.f (j) λb l r p R2 s=>l r p R2 (d.trans s)⟩|false=>rw[ao2 ao7];exact(j) o g h d
def nA(m:PT X a (loT B uA))(n:PW X (.BoolOp .Or (b::rest) pos) (loT B uB)):PW X (.BoolOp .Or (a::b::rest) pos) (loT B (WL.tOr uA uB)):=PW.imp (amr m n) λk H Q f=>by obtain⟨i,F,R,q⟩:=f;have q:=Rq.bind q;refine⟨i,F,R,Rq.mono (ar.refl _) q λx j o g h d=>?_⟩;cases x with|false=>rw[ao2 ao7];exact⟨i,g,h,Rq.mono d.f (j) λb l r p R2 s=>l r p R2 (d.trans s)⟩|true=>rw[ao1 rfl];exact(j) o g h d
def hT(h:PT X a (loT B uA)):PT X (.UnaryOp .Not a pos) (loT B (WL.vR uA)):=PT.imp (ajm h) λf H Q d=>by obtain⟨g,F,R,q⟩:=d;have q:=Rq.bind q;exact⟨g,F,R,Rq.mono (ar.refl _) q λx i=>i⟩
def qm{op}(h:PE X a (lo B ta)):PE X (.BoolOp op [a] pos) (lo B ta):=ajy h
def nZ(p:PE X a (lo B ta))(r:PE X (.BoolOp .And (b::rest) pos) (lo B tb)):PE X (.BoolOp .And (a::b::rest) pos) (lo B (WL.aeH ta tb)):=PE.imp (ajD p r) λm H Q g=>by obtain⟨l,F,R,q⟩:=g;have q:=Rq.bind q;refine⟨l,F,R,Rq.mono (ar.refl _) q λx f v s h j d i=>?_⟩;cases x with
|bl k=>simp only[RW]at i;refine⟨k,i,?_⟩;cases k with|true=>rw[ao1 rfl];exact⟨l,h,j,Rq.mono d.f (f) λb o n u t R2 w y=>o n u t R2 (d.trans w) y⟩|false=>rw[ao2 ao7];exact(f) _ s h j d (by simp[RW])
|_=>exact f.elim
def ae2(j:PE X a (lo B ta)):PE X (.UnaryOp .Not a pos) (lo B (WL.akN ta)):=PE.imp (ajz j) λi H Q d=>by obtain⟨n,F,R,q⟩:=d;have q:=Rq.bind q;refine⟨n,F,R,Rq.mono (ar.refl _) q λx g v l h m o f=>?_⟩;cases x with|bl k=>simp only[RW]at f;exact⟨k,f,(g) _ l h m o (by simp[RW])⟩|_=>exact g.elim
def aiy(s:PT X c (loT B uA))(t:PE X a (lo B ta))(u:PE X b (lo B tb)):PE X (.IfExp c a b pos) (lo B (WL.eIf uA ta tb)):=PE.imp (adV s t u) λr H Q m=>by obtain⟨k,F,R,q⟩:=m;have q:=Rq.bind q;refine⟨k,F,R,Rq.mono (ar.refl _) q λx p v n o d=>?_⟩;cases x with|true=>rw[ao1 rfl];exact⟨k,n,o,Rq.mono d.f (p) λb g f i h R2 j l=>g f i h R2 (d.trans j) l⟩|false=>rw[ao2 ao7];exact⟨k,n,o,Rq.mono d.f (p) λb g f i h R2 j l=>g f i h R2 (d.trans j) l⟩
variable{tas:AF}
def ai:PA X [] (loA B WL.av):=PA.imp fu λf H Q d=>by obtain⟨g,F,R,q⟩:=d;exact(q) [] H F R Gr.refl (by simp[RWs])
def ahf:∀d H Q,loA B (WL.ae ta tas) d H Q->lU (lo B ta) (loA B tas) d H Q:=λd H Q h=>by obtain⟨j,F,R,q⟩:=h;have q:=Rq.bind q;refine⟨j,F,R,Rq.mono (ar.refl _) q λx g v t l n k m=>?_⟩;have g:=Rq.bind g;exact⟨j,l,n,Rq.mono k.f g λu f s p o R2 i r=>(f) _ p o R2 (k.trans i) (.cons (m.keep i.f) r)⟩
def aa(d:PE X e (lo B ta))(f:PA X es (loA B tas))(g:starEach (e::es) X.env=(false,eval e X.env)::starEach es X.env:=by rfl):PA X (e::es) (loA B (WL.ae ta tas)):=PA.imp (bU d f g) ahf
def dw:WL.lim<=sizeLine:=by decide
def bT{x1}(h:PA X es (loA B tas)):PE X (.Tuple es x1 pos) (lo B (WL.kE tas)):=PE.imp (ajx h) λl H Q j=>by
 obtain⟨n,F,R,q⟩:=j;have q:=Rq.bind q;refine⟨n,F,R,Rq.mono (ar.refl _) q λr f m t s i o k=>?_⟩;by_cases g:r.length<=WL.lim;·rw[ao1 g]at f;refine⟨by rw[<-k.length];exact apc g dw,λp d=>?_⟩;exact f (.ref p) _ _ (i.new d _) (o.trans (Gr.new (i.rb.sub.free d) d _)) (by simp only[RW];exact⟨p,m,rfl,SqT.of ao,k.keep (az (i.rb.sub.free d) _)⟩)
 ·rw[ao2 g]at f;exact f.elim
def aka:∀d H Q,lo B (WL.sG tas) d H Q->al4 (loA B tas) d H Q:=λd H Q j=>by
 obtain⟨m,F,R,q⟩:=j;have q:=Rq.bind q;refine⟨m,F,R,Rq.mono (ar.refl _) q λo g l s r i n k=>?_⟩;by_cases h:o.length<=WL.lim;·rw[ao1 h]at g;refine⟨by rw[<-k.length];exact apc h dw,λp f=>?_⟩;exact g (.ref p) _ _ (i.new f _) (n.trans (Gr.new (i.rb.sub.free f) f _)) (by simp only[RW];exact⟨p,l,rfl,SqL.of ao,k.keep (az (i.rb.sub.free f) _)⟩)
 ·rw[ao2 h]at g;exact g.elim
def fk(h:PA X es (loA B tas)):PE X (.List es pos) (lo B (WL.sG tas)):=PE.imp (aaY h) aka
def alu{σ:Ws}{d:L2.St}{F h k:Hp}{xs:List VW}{vs:List V}{p:Addr}{Q:VK}(i:RS B σ d h k){H:Hp}(s:Gr F H h k)(r:RWs B.K h xs vs)(f:k p=none)(q:∀a vs g l,RS B σ d l g->Gr F H l g->l a=none->B.H0 a=none->g a=some (.lst vs)->RWs B.K l xs vs->(∀(j:Nat)(m:List VW),σ[j]?=some (.ow m)->d[j]?≠some (some (.ref a)))->Q (.ref a) g):Q (.ref p) (upd k p (.lst vs)):=q p vs _ h (i.ah8 f _) (s.trans ⟨ar.refl _,az f _,λ_ _ _ z=>z⟩) (i.rb.sub.free f) (i.rb.base.free f) ao r λj m e z=>by obtain⟨a,v,n,t,u,o,w⟩:=i.ow j m e;rw[z]at n;cases n;rw[f]at o;cases o
def vF(h:PA X es (loA B tas)):PE X (.List es pos) (loL B (WL.ah9 tas)):=PE.imp (aaY h) λj H Q g=>by
 obtain⟨m,F,R,q⟩:=g;have q:=Rq.bind q;refine⟨m,F,R,Rq.mono (ar.refl _) q λo d s t r l n i=>?_⟩;by_cases f:o.length<=WL.lim;·rw[ao1 f]at d;exact⟨by rw[<-i.length];exact apc f dw,λp k=>alu l n i k d⟩
 ·rw[ao2 f]at d;exact d.elim
def am4 (cm:∀f c,r f≠.ex c):∀d H Q,lo B (WL.eBi r tas) d H Q->tCB (loN B.K r) (loA B tas) d H Q:=by intro d H Q⟨i,F,R,q⟩;have q:=Rq.bind q;refine⟨i,F,R,Rq.mono (ar.refl _) q λf g p s j h o l=>?_⟩;refine⟨j,f,h.rb.sub,l,?_⟩;unfold Eq1;cases e:r f with|ok w=>rw[e]at g;exact λv m n E k=>g v n m (E.rs B i d h) (o.trans E.gr) k|ex c=>exact(cm f c e).elim|bad=>rw[e]at g;exact g
def aiA (cm:∀d c,r d≠.ex c)(h:PE X e (tCB (loN B.K r) (loA B tas))):PE X e (lo B (WL.eBi r tas)):=PE.imp h (am4 cm)
def tO:PO X none (loO B WL.pNo):=PO.imp aaT λf H Q d=>by obtain⟨g,F,R,q⟩:=d;exact(q) H F R Gr.refl
def lB(h:PE X e (lo B ta)):PO X (some e) (loO B (WL.pH ta)):=PO.imp (aaS h) λk H Q d=>by obtain⟨n,F,R,q⟩:=d;have q:=Rq.bind q;refine⟨n,F,R,Rq.mono (ar.refl _) q λx g v l j m o f=>?_⟩;cases x with|int i=>simp only[RW]at f;exact⟨i,f,g l j m o⟩|_=>exact g.elim
def aoc(K:W.Frag):V->Option Int->Option Int->Hp->VK->Prop:=λx l h H Q=>∃F wx,ar F H/\RW K F wx x/\Eq1 F H K (WL.oSl wx l h) Q
variable{l u:Option Expr}{tl tu:Ws->Res (Option Int)}{p2:Pos}
def adg(D:SlR X (aoc B.K))(M:PE X e (lo B ta))(r:PO X l (loO B tl))(G:PO X u (loO B tu)):PE X (.Subscript e (.Slice l u none p2) pos) (lo B (WL.eSl ta tl tu)):=PE.imp (wy D M r G) λi H Q j=>by obtain⟨h,F,R,q⟩:=j;have q:=Rq.bind q;refine⟨h,F,R,Rq.mono (ar.refl _) q λx n v P A s m J=>?_⟩;have n:=Rq.bind n;refine⟨h,A,s,Rq.mono m.f n λlo f S y R2 k=>?_⟩;have f:=Rq.bind f;refine⟨h,y,R2,Rq.mono (m.trans k).f f λz d O t o p=>?_⟩;refine⟨t,x,o.rb.sub,(J.keep k.f).keep p.f,?_⟩;unfold Eq1;cases g:WL.oSl x lo z with|ok w=>rw[g]at d;exact λv C N E I=>d v N C (E.rs B h i o) (((m.trans k).trans p).trans E.gr) I|ex c=>cases x<;>simp[WL.oSl]at g;split at g<;>cases g|bad=>rw[g]at d;exact d
def lend  (R:RS B σ σV F H)(x:Hp)(s1:ar F x)(N:(x=F/\WL.frz i σ=σ)\/∃a o w,x=upd F a o/\Ow1 o/\F a=none/\WL.frz i σ=σ.set i (.va w)/\σV[i]?=some (some (.ref a))/\H a=some o/\B.H0 a=none)(R2:RS B (WL.frz i σ) σV F2 H2)(f:Gr x H F2 H2):∃A,RS B σ σV A H2/\Gr F H A H2/\∀w v,WL.plain w=true->RW B.K F2 w v->RW B.K A w v:=by
 rcases N with⟨rfl,D⟩|⟨a,ow,wa,rfl,s,G,D,E,hH,h0⟩;·rw[D]at R2;exact⟨F2,R2,f,λ_ _ _ h=>h⟩
 ·rw[D]at R2;have m:=f.f _ _ ao;have k:ar F (λb=>if b=a then none else F2 b):=λb o q=>by
   have n:b≠a:=λz=>by subst z;rw[G]at q;cases q
   show(if b=a then none else F2 b)=some o;rw[ao2 n];exact f.f b o (s1 b o q)
  have r:∀b o,(if b=a then none else F2 b)=some o->b≠a/\F2 b=some o:=λb o q=>by
   by_cases d:b=a;·rw[ao1 d]at q;cases q
   ·rw[ao2 d]at q;exact⟨d,q⟩
  refine⟨λb=>if b=a then none else F2 b,⟨⟨λb o q=>R2.rb.sub b o (r b o q).2,R2.rb.base,R.rb.fz0.trans k,λb o q=>R2.rb.fr b o (r b o q).2⟩,R.len,λj w q=>?_,λj t q=>?_,R.ap,?_⟩,⟨k,f.h,λb o q z=>?_⟩,λw v O h=>?_⟩;·obtain⟨v,g,I⟩:=R.va j w q;exact⟨v,g,I.keep k⟩
  ·obtain⟨b,zs,g,I,P,Z,Y⟩:=R.ow j t q;refine⟨b,zs,g,?_,P,f.h b _ Z,Y.keep k⟩;by_cases d:b=a;·exact ao1 d
   ·show(if b=a then none else F2 b)=none;rw[ao2 d];have C:i≠j:=λz=>by subst z;rw[E]at g;cases g;exact d rfl
    obtain⟨M,T,p,y,_⟩:=R2.ow j t (by rw[ao0 C];exact q);rw[g]at p;cases p;exact y
  ·refine R.dd.via rfl id (λ_ _ z=>.inl z) (λ_ _ _ e=>⟨e,rfl⟩) k λj ks t b S Q J q1 q2 U=>⟨?_,U,f.h b _ q1⟩;by_cases d:b=a;·exact ao1 d
   ·show(if b=a then none else F2 b)=none;rw[ao2 d];have C:i≠j:=λz=>by subst z;rw[show σV[i]?=_ from J]at E;cases E;exact d rfl
    obtain⟨M,T,p,y,_⟩:=R2.dd.od j ks t (by rw[ao0 C];exact Q);rw[show σV[j]?=_ from J]at p;cases p;exact y
  ·show(if b=a then none else F2 b)=none;by_cases d:b=a;·exact ao1 d
   ·rw[ao2 d];exact f.nf b o q (by rw[ag d];exact z)
  ·refine RW.less (λc xs q=>?_) w v O h;rcases q with(q|⟨o,q⟩)|q
   ·refine .inl (.inl ?_);have n:c≠a:=λz=>by subst z;rw[m]at q;cases q;exact s
    show(if c=a then none else F2 c)=_;rw[ao2 n];exact q
   ·refine .inl (.inr ⟨o,?_⟩);have n:c≠a:=λz=>by subst z;rw[m]at q;cases q;exact s
    show(if c=a then none else F2 c)=_;rw[ao2 n];exact q
   ·exact .inr q
def vK (h:PE X e (lo B ta)):PE X e (lo B (WL.afI i ta)):=PE.imp h λo H Q j=>by
 obtain⟨d,F,R,q⟩:=j;obtain⟨m,y,r,p⟩:=R.frz i;refine⟨WL.frz i d,m,r,?_⟩;have q:Rq B d F (match ta (WL.frz i d)with|.ok w=>if WL.plain w then .ok w else .bad|_=>.bad) _:=q
 cases g:ta (WL.frz i d)with|ok w=>
 rw[g]at q;intro v t C R2 x z;obtain⟨s,A,n,k⟩:=lend R m y p R2 x;have q:Rq B d F (if WL.plain w=true then .ok w else .bad) _:=q;by_cases f:WL.plain w=true;·rw[ao1 f]at q;exact q v t s A n (k w v f z)
 ·rw[ao2 f]at q;exact q.elim|ex c=>rw[g]at q;exact q.elim|bad=>rw[g]at q;exact q
def aeW (h:PT X e (loT B uA)):PT X e (loT B (WL.aiZ i uA)):=PT.imp h λn H Q g=>by obtain⟨d,F,R,q⟩:=g;obtain⟨j,v,p,o⟩:=R.frz i;refine⟨WL.frz i d,j,p,?_⟩;have q:Rq B d F (match uA (WL.frz i d)with|.ok b=>.ok b|_=>.bad) _:=q;cases f:uA (WL.frz i d)with|ok w=>rw[f]at q;intro s y R2 t;obtain⟨r,x,m,k⟩:=lend R j v o R2 t;exact q s r x m|ex c=>rw[f]at q;exact q.elim|bad=>rw[f]at q;exact q
end
mutual def toD:VW->PyData|.non=>.none|.bl b=>.bool b|.int i=>.int i|.str x=>.str x|.ty _=>.none|.tup xs=>.tuple (nu xs)|.lst xs=>.list (nu xs)|.dic _ _=>.none|.cls _=>.none|.exc _ _=>.none|.ins _ _=>.none|.id _=>.none def nu:List VW->List PyData|[]=>[]|x::xs=>toD x::nu xs end
mutual theorem RW.isD{K:W.Frag}{H:Hp}:∀(n:Nat)(w:VW)(v:V),WL.okD n w=true->RW K H w v->IsD K H n v (toD w)
|n,.non,v,_,h=>by cases n<;>exact h|n,.bl b,v,_,h=>by cases n<;>exact h|n,.int i,v,_,h=>by cases n<;>exact h|n,.str x,v,o,h=>by cases n<;>exact⟨h,o⟩|n,.tup xs,v,o,h=>by obtain⟨a,vs,e,q,r⟩:=h;cases n with|zero=>cases xs<;>cases o|succ n=>exact⟨a,vs,e,q,RWs.isD n xs vs o r⟩
|n,.lst xs,v,o,h=>by obtain⟨a,vs,e,q,r⟩:=h;cases n with|zero=>cases xs<;>cases o|succ n=>exact⟨a,vs,e,q,RWs.isD n xs vs o r⟩theorem RWs.isD{K:W.Frag}{H:Hp}:∀(n:Nat)(ws:List VW)(vs:List V),WL.dQ (n+1) ws=true->RWs K H ws vs->Paired (IsD K H n) vs (nu ws)|n,[],vs,_,h=>by simp only[RWs]at h;subst h;exact .nil|n,w::ws,vs,o,h=>by simp only[RWs]at h;obtain⟨v,r,rfl,q,t⟩:=h;simp only[WL.dQ,apg]at o;exact .cons (RW.isD n w v o.1 q) (RWs.isD n ws r o.2 t)end
mutual theorem nc:∀(n m:Nat)(x y:VW),WL.okD n x=true->WL.okD m y=true->PyData.eqv (toD x) (toD y)=WL.eqv x y
|n,m,.tup xs,y,h1,h2=>by cases y with|tup ys=>exact qc n m xs ys h1 h2|_=>first|rfl|cases h2
|n,m,.lst xs,y,h1,h2=>by cases y with|lst ys=>exact qc n m xs ys h1 h2|_=>first|rfl|cases h2
|n,m,.ty _,_,h1,_=>by cases h1|n,m,.non,y,_,h2=>by cases y<;>first|rfl|cases h2
|n,m,.bl b,y,_,h2=>by cases y<;>first|rfl|cases h2
|n,m,.int b,y,_,h2=>by cases y<;>first|rfl|cases h2
|n,m,.str b,y,_,h2=>by cases y<;>first|rfl|cases h2 theorem qc:∀(n m:Nat)(xs ys:List VW),WL.dQ n xs=true->WL.dQ m ys=true->PyData.eqvAll (nu xs) (nu ys)=WL.xC xs ys|n,m,[],ys,_,_=>by cases ys<;>rfl|n,m,x::xs,ys,h1,h2=>by cases ys with|nil=>rfl|cons y ys=>cases n with|zero=>cases h1|succ n=>cases m with|zero=>cases h2|succ m=>simp only[WL.dQ,apg]at h1 h2;show(PyData.eqv _ _&&PyData.eqvAll _ _)=(_&&_);rw[nc n m x y h1.1 h2.1,qc (n+1) (m+1) xs ys h1.2 h2.2]end
theorem vB{n m:Nat}{x:VW}(a:WL.okD n x=true):∀{ys:List VW},WL.dQ m ys=true->((nu ys).any λz=>PyData.eqv z (toD x))=WL.cC x ys|[],_=>by simp[nu,WL.cC]|y::ys,h=>by cases m with|zero=>simp[WL.dQ]at h|succ m=>simp only[WL.dQ,apg]at h;simp only[nu,ar1,WL.cC];rw[nc m n y x h.1 a,vB a h.2]
section
variable{X:Cx}{K:W.Frag}
def eq1{F H:Hp}{w:VW}{Q:VK}{v:V}(q:Eq1 F H K (.ok w) Q)(r:RW K F w v):Q v H:=q v F H (Ext.refl F H) r
def aid{F H:Hp}{ws:List VW}{vs:List V}{Q:VK}(s:ar F H)(q:Eq1 F H K (.ok (.lst ws)) Q)(r:RWs K F ws vs){p:Addr}(a:H p=none):Q (.ref p) (upd H p (.lst vs)):=q _ _ _ (Ext.new (s.free a) a _) (by simp only[RW];exact⟨p,vs,rfl,SqL.of ao,r.keep (az (s.free a) _)⟩)
def alG{F H:Hp}{ws:List VW}{vs:List V}{Q:VK}(s:ar F H)(q:Eq1 F H K (.ok (.tup ws)) Q)(r:RWs K F ws vs){p:Addr}(a:H p=none):Q (.ref p) (upd H p (.tup vs)):=q _ _ _ (Ext.new (s.free a) a _) (by simp only[RW];exact⟨p,vs,rfl,SqT.of ao,r.keep (az (s.free a) _)⟩)
def agZ:OpR X (binaryOp .Add) (λx y H Q=>∃l b i j,x=.ref l/\y=.ref b/\SqL X.K H l i/\SqL X.K H b j/\i.length+j.length<=sizeLine/\∀p,H p=none->Q (.ref p) (upd H p (.lst (i++j)))):=by
 intro B s T H x y v u Q I E O h;obtain⟨l,b,i,j,rfl,rfl,G,M,S,q⟩:=h;cases E;cases O;obtain⟨c,r,pl,_⟩:=I.list G;obtain⟨a,A,m,_⟩:=I.list M;obtain⟨⟨cls,dd,D,J⟩,t,w,n,C⟩:=pl.isList;obtain⟨⟨z,k,data2,o⟩,f,g,N,d⟩:=m.isList;simp only at w C g d;subst w C g d;have e:c.toArray++a.toArray=(c++a).toArray:=by simp
 have R:=r.length;have P:=A.length;refine asn ⟨_,t,rfl⟩ ⟨_,f,rfl⟩ noFill_list_add seq_list_add PySem.F.slot_list_add PySem.F.entry_list_add (PySem.F.args_list_add_2 _ _) (list_addW l b c.toArray a.toArray n N dd k J o (by simp;omega)) ⟨t,f,?_⟩;rw[e];exact⟨.ref _,_,I.am6 (t':=s.toks) (r.append A) (by rw[apD];omega),rfl,q _ I.fresh⟩
def ad0:OpR X (binaryOp .Add) (λx y H Q=>∃a b m,x=.ref a/\y=.ref b/\SqT X.K H a []/\SqT X.K H b m/\Q (.ref b) H):=by intro o s N H x y v u Q I w J h;obtain⟨a,b,m,rfl,rfl,A,D,q⟩:=h;cases w;cases J;obtain⟨E,r,z,_⟩:=I.tuple A;obtain⟨f,M,B,_⟩:=I.tuple D;cases r;obtain⟨⟨cls,dd,t,C⟩,j,k,n,p⟩:=id z;obtain⟨⟨l,g,data2,i⟩,d,e,G,c⟩:=id B;simp only at k p e c;subst k p e c;exact asn ⟨_,j,rfl⟩ ⟨_,d,rfl⟩ aso seq_tuple_add arn arf (aq4 _ _) (tuple_addW0 a b #[] f.toArray n G dd g C i (by simp)) ⟨j,d,⟨.ref b,H,I,rfl,q⟩⟩
def w_add(z:X.K=K):OpR X (binaryOp .Add) (lo2 K WL.gb):=by
 subst z;refine OpR.imp (ajP.or (agZ.or (agY.or ad0))) λx y H Q u=>?_;obtain⟨F,wx,A,s,d,j,q⟩:=u;unfold WL.gb at q;split at q;·simp only[RW]at d j;exact .inl ⟨_,_,d,j,q _ F H (Ext.refl F H) (by simp[RW])⟩
 rotate_left
 ·rename_i i h;simp only[RW]at d j;obtain⟨a,f,rfl,m,g⟩:=d;obtain⟨b,e,rfl,l,k⟩:=j;by_cases c:i.length+h.length<=WL.lim
  ·rw[ao1 c]at q;have q:Eq1 F H X.K (.ok (.tup (i++h))) Q:=q;have o:=g.length;have n:=k.length;have r:f.length+e.length<=sizeLine:=by rw[<-o,<-n];exact apc c dw
   by_cases w:f=[];·subst w;have:i=[]:=aqi.mp o;subst this;refine .inr (.inr (.inr ⟨a,b,e,rfl,rfl,s.tup m,s.tup l,?_⟩));exact eq1 q (by simp only[RW,aqr];exact⟨b,e,rfl,l,k⟩)
   ·refine .inr (.inr (.inl ⟨a,b,f,e,rfl,rfl,s.tup m,s.tup l,w,r,λv=>?_,λv p t=>?_⟩));·subst v;have:h=[]:=aqi.mp n;subst this;exact eq1 q (by simp only[RW,apK];exact⟨a,f,rfl,m,g⟩)
    ·exact alG s q (g.app k) t
  ·rw[ao2 c]at q;exact q.elim
 ·exact q.elim
 ·rename_i i h;simp only[RW]at d j;obtain⟨a,f,rfl,m,g⟩:=d;obtain⟨b,e,rfl,l,k⟩:=j;by_cases c:i.length+h.length<=WL.lim;·rw[ao1 c]at q;have q:Eq1 F H X.K (.ok (.lst (i++h))) Q:=q;have o:=g.length;have n:=k.length;exact .inr (.inl ⟨a,b,f,e,rfl,rfl,s.seq m,s.seq l,by rw[<-o,<-n];exact apc c dw,λp t=>aid s q (g.app k) t⟩)
  ·rw[ao2 c]at q;exact q.elim
def aG:Calm WL.gb:=λx y c h=>by unfold WL.gb at h;split at h<;>first|(cases h;done)|(split at h<;>cases h)
def age{f:Value->Value->Sem Value}{C:Int->Int->Prop}{g:Int->Int->V}{r:VW->VW->Res VW}(h:OpR X f (rI C g))(k:∀x y w,r x y=.ok w->∃i j,x=.int i/\y=.int j/\C i j/\∀F,RW K F w (g i j))(cm:Calm r):OpR X f (lo2 K r):=by refine OpR.imp h λx y H Q a=>?_;obtain⟨F,wx,d,s,b,l,q⟩:=a;cases e:r wx d with|bad=>rw[e]at q;exact q.elim|ex c=>exact(cm _ _ _ e).elim|ok w=>obtain⟨i,j,rfl,rfl,n,m⟩:=k wx d w e;simp only[RW]at b l;rw[e]at q;exact⟨i,j,b,l,n,eq1 q (m F)⟩
def qo{f:Value->Value->Sem Value}{g:Int->Int->V}{r:VW->VW->Res VW}(h:OpR X f (rI0 g))(k:∀x y w,r x y=.ok w->∃i j,x=.int i/\y=.int j/\∀F,RW K F w (g i j))(cm:Calm r):OpR X f (lo2 K r):=by refine OpR.imp h λx y H Q a=>?_;obtain⟨F,wx,d,s,b,l,q⟩:=a;cases e:r wx d with|bad=>rw[e]at q;exact q.elim|ex c=>exact(cm _ _ _ e).elim|ok w=>obtain⟨i,j,rfl,rfl,m⟩:=k wx d w e;simp only[RW]at b l;rw[e]at q;exact⟨i,j,b,l,eq1 q (m F)⟩
def je:Calm WL.acY:=λx y c h=>by unfold WL.acY at h;split at h<;>cases h
def dC:Calm WL.tI:=λx y c h=>by unfold WL.tI at h;split at h<;>first|(cases h;done)|(split at h<;>cases h)
def eO:Calm WL.oDiv:=λx y c h=>by unfold WL.oDiv at h;split at h<;>first|(cases h;done)|(split at h<;>cases h)
def aY:Calm WL.oMod:=λx y c h=>by unfold WL.oMod at h;split at h<;>first|(cases h;done)|(split at h<;>cases h)
def gK:Calm WL.oLt:=λx y c h=>by unfold WL.oLt at h;split at h<;>cases h
def iC:Calm WL.oLe:=λx y c h=>by unfold WL.oLe at h;split at h<;>cases h
def j0:Calm WL.oGt:=λx y c h=>by unfold WL.oGt at h;split at h<;>cases h
def acO:Calm WL.oGe:=λx y c h=>by unfold WL.oGe at h;split at h<;>cases h
def w_sub:OpR X (binaryOp .Sub) (lo2 K WL.acY):=qo ajG (λx y w e=>by unfold WL.acY at e;split at e<;>cases e;exact⟨_,_,rfl,rfl,λF=>by simp[RW]⟩) je
def w_mul:OpR X (binaryOp .Mult) (lo2 K WL.tI):=age ajI (λx y w e=>by
 unfold WL.tI at e;split at e<;>first|(cases e;done)|skip
 split at e;·rename_i a;cases e;exact⟨_,_,rfl,rfl,a,λF=>by simp[RW]⟩
 ·cases e) dC
def adZ:OpR X (binaryOp .FloorDiv) (rI (λ_ j=>0<j/\j<10^100) λi j=>.int (i/j)):=opI λi j _ _ _ _ _ a q=>by
 have c:(0:Int)<j:=a.1;have d:j<10^100:=a.2;refine floordiv_int (by omega) (by rw[Int.fdiv_eq_ediv_of_nonneg i (by omega)];exact q) (.inl (PyProof.noPylong_of_log2 ?_));have b:j.natAbs<10^100:=by omega
 have:j.natAbs.log2<400:=(Nat.log2_lt (by omega)).mpr (apa b (by decide+kernel));omega
def w_div:OpR X (binaryOp .FloorDiv) (lo2 K WL.oDiv):=age adZ (λx y w e=>by
 unfold WL.oDiv at e;split at e<;>first|(cases e;done)|skip
 split at e;·rename_i a;cases e;exact⟨_,_,rfl,rfl,a,λF=>by simp[RW]⟩
 ·cases e) eO
def w_mod:OpR X (binaryOp .Mod) (lo2 K WL.oMod):=age ajJ (λx y w e=>by
 unfold WL.oMod at e;split at e<;>first|(cases e;done)|skip
 split at e;·rename_i a;cases e;exact⟨_,_,rfl,rfl,a,λF=>by simp[RW]⟩
 ·cases e) aY
def w_lt:OpR X (compareOp .Lt) (lo2 K WL.oLt):=qo amz (λx y w e=>by unfold WL.oLt at e;split at e<;>cases e;exact⟨_,_,rfl,rfl,λF=>by simp[RW]⟩) gK
def ah0:OpR X (compareOp .LtE) (lo2 K WL.oLe):=qo amA (λx y w e=>by unfold WL.oLe at e;split at e<;>cases e;exact⟨_,_,rfl,rfl,λF=>by simp[RW]⟩) iC
def aiH:OpR X (compareOp .Gt) (lo2 K WL.oGt):=qo amB (λx y w e=>by unfold WL.oGt at e;split at e<;>cases e;exact⟨_,_,rfl,rfl,λF=>by simp[RW]⟩) j0
def aot:OpR X (compareOp .GtE) (lo2 K WL.oGe):=qo amC (λx y w e=>by unfold WL.oGe at e;split at e<;>cases e;exact⟨_,_,rfl,rfl,λF=>by simp[RW]⟩) acO
def tU:UnR X (unaryOp .USub) (lo1 K WL.wM):=UnR.imp aiM λx H Q a=>by
 obtain⟨F,wx,s,b,q⟩:=a;cases wx<;>simp only[WL.wM,Eq1]at q<;>first|exact q.elim|skip
 simp only[RW]at b;exact⟨_,b,q _ F H (Ext.refl F H) (by simp[RW])⟩
def fS:∀x c,WL.wM x≠.ex c:=λx c h=>by cases x<;>simp[WL.wM]at h
def aat{F:Hp}{x y:VW}{v u:V}(h:WL.aau x y=true)(a:RW K F x v)(b:RW K F y u):amc v u=true/\decide (v=u)=WL.eqv x y:=by
 cases x<;>first|(cases h;done)|skip
 all_goals cases y<;>first|(cases h;done)|(simp only[RW]at a b;subst a;subst b;exact⟨rfl,by first|rfl|exact u7|exact acp|exact u6|exact api nofun⟩)
def calm_eq:Calm WL.oEq:=λx y c h=>by simp only[WL.oEq]at h;split at h<;>first|(cases h;done)|(split at h<;>cases h)
def ahP:Calm WL.oNe:=λx y c h=>by simp only[WL.oNe]at h;split at h<;>first|(cases h;done)|(split at h<;>cases h)
def w_eq(g:X.K=K)(i:X.A.units+64<cLine):OpR X (compareOp .Eq) (lo2 K WL.oEq):=by
 subst g;refine OpR.imp (amD.or ajO) λx y H Q a=>?_;obtain⟨F,wx,c,s,b,d,q⟩:=a;simp only[WL.oEq]at q;split at q;·rename_i h;obtain⟨e,f⟩:=aat h b d;exact .inl ⟨e,eq1 q (by simp[RW,f])⟩
 ·split at q;·rename_i h;rw[apg]at h;refine .inr ⟨50,_,_,RW.isD 50 wx x h.1 (b.keep s),RW.isD 50 c y h.2 (d.keep s),by omega,?_⟩;rw[nc 50 50 wx c h.1 h.2];exact eq1 q (by simp[RW])
  ·exact q.elim
def aos(g:X.K=K)(i:X.A.units+64<cLine):OpR X (compareOp .NotEq) (lo2 K WL.oNe):=by
 subst g;refine OpR.imp (amy.or ajH) λx y H Q a=>?_;obtain⟨F,wx,c,s,b,d,q⟩:=a;simp only[WL.oNe]at q;split at q;·rename_i h;obtain⟨e,f⟩:=aat h b d;exact .inl ⟨e,eq1 q (by simp[RW,f])⟩
 ·split at q;·rename_i h;rw[apg]at h;refine .inr ⟨50,_,_,RW.isD 50 wx x h.1 (b.keep s),RW.isD 50 c y h.2 (d.keep s),by omega,?_⟩;rw[nc 50 50 wx c h.1 h.2];exact eq1 q (by simp[RW])
  ·exact q.elim
def nk:Calm WL.oIn:=λx y c h=>by cases y<;>simp only[WL.oIn]at h<;>first|(cases h;done)|(split at h<;>cases h)
def cU:Calm WL.fy:=λx y c h=>by cases y<;>simp only[WL.fy]at h<;>first|(cases h;done)|(split at h<;>cases h)
def aiG(f:X.K=K)(i:X.A.units+64<cLine):OpR X (compareOp .In) (lo2 K WL.oIn):=by
 subst f;refine OpR.imp ajN λx y H Q b=>?_;obtain⟨F,wx,e,s,d,g,q⟩:=b;cases e<;>simp only[WL.oIn]at q<;>first|exact q.elim|skip
 all_goals
 rename_i c;by_cases h:(WL.okD 50 wx&&WL.dQ 51 c)=true;·rw[ao1 h]at q;rw[apg]at h;have a:=RW.isD 51 _ y (show WL.okD 51 _=true by simpa only[WL.okD]using h.2) (g.keep s);simp only[toD]at a;refine⟨50,_,nu c,RW.isD 50 wx x h.1 (d.keep s),by first|exact .inl a|exact .inr a,by omega,?_⟩;rw[vB h.1 h.2];exact eq1 q (by simp[RW])
 ·rw[ao2 h]at q;exact q.elim
def ij(f:X.K=K)(i:X.A.units+64<cLine):OpR X (compareOp .NotIn) (lo2 K WL.fy):=by
 subst f;refine OpR.imp aa2 λx y H Q b=>?_;obtain⟨F,wx,e,s,d,g,q⟩:=b;cases e<;>simp only[WL.fy]at q<;>first|exact q.elim|skip
 all_goals
 rename_i c;by_cases h:(WL.okD 50 wx&&WL.dQ 51 c)=true;·rw[ao1 h]at q;rw[apg]at h;have a:=RW.isD 51 _ y (show WL.okD 51 _=true by simpa only[WL.okD]using h.2) (g.keep s);simp only[toD]at a;refine⟨50,_,nu c,RW.isD 50 wx x h.1 (d.keep s),by first|exact .inl a|exact .inr a,by omega,?_⟩;rw[vB h.1 h.2];exact eq1 q (by simp[RW])
 ·rw[ao2 h]at q;exact q.elim
def xc{F:Hp}{w:VW}{v:V}(r:RW K F w v):decide (v=V.non)=WL.mU w:=by cases w<;>simp only[RW]at r;all_goals first|(subst r;rfl)|(obtain⟨a,c,rfl,_⟩:=r;rfl)|(obtain⟨a,rfl,_⟩:=r;rfl)|(obtain⟨a,C,b,rfl,_⟩:=r;rfl)|(obtain⟨a,C,b,l,rfl,_⟩:=r;rfl)
def ajL:OpR X (compareOp .Is) (λx y H Q=>∃b,y=.bl b/\Q (.bl (decide (x=.bl b))) H):=by
 intro d s f H x y v u Q I a e h;obtain⟨b,rfl,q⟩:=h;cases e;refine wpAny_is_plain ?_ (aV I q ?_);·cases x<;>first|(cases a;rfl)|(obtain⟨t,rfl⟩:=a;rfl)
 ·cases x with|bl c=>cases a;cases b<;>cases c<;>rfl|_=>first|(cases a;cases b<;>rfl)|(obtain⟨t,rfl⟩:=a;cases b<;>rfl)
def aa3:OpR X (compareOp .IsNot) (λx y H Q=>∃b,y=.bl b/\Q (.bl (!decide (x=.bl b))) H):=by
 intro d s f H x y v u Q I a e h;obtain⟨b,rfl,q⟩:=h;cases e;refine wpAny_isNot_plain ?_ (aV I q ?_);·cases x<;>first|(cases a;rfl)|(obtain⟨t,rfl⟩:=a;rfl)
 ·cases x with|bl c=>cases a;cases b<;>cases c<;>rfl|_=>first|(cases a;cases b<;>rfl)|(obtain⟨t,rfl⟩:=a;cases b<;>rfl)
def afB{F:Hp}{w:VW}{v:V}{b:Bool}(r:RW K F w v):decide (v=V.bl b)=WL.isB b w:=by cases w<;>simp only[RW]at r;all_goals first|(subst r;cases b<;>first|rfl|(rename_i c;cases c<;>rfl))|(obtain⟨a,e,rfl,_⟩:=r;cases b<;>rfl)|(obtain⟨a,rfl,_⟩:=r;cases b<;>rfl)|(obtain⟨a,C,d,rfl,_⟩:=r;cases b<;>rfl)|(obtain⟨a,C,d,l,rfl,_⟩:=r;cases b<;>rfl)
def vr:Calm WL.oIs:=λx y c h=>by cases y<;>simp[WL.oIs]at h
def hG:Calm WL.i0:=λx y c h=>by cases y<;>simp[WL.i0]at h
def w_is:OpR X (compareOp .Is) (lo2 K WL.oIs):=by
 refine OpR.imp (ajK.or ajL) λx y H Q b=>?_;obtain⟨F,wx,d,s,c,a,q⟩:=b;cases d<;>simp only[WL.oIs]at q<;>first|exact q.elim|skip
 ·simp only[RW]at a;exact .inl ⟨a,eq1 q (by simp[RW,xc c])⟩
 ·simp only[RW]at a;exact .inr ⟨_,a,eq1 q (by simp[RW,afB c])⟩
def oV:OpR X (compareOp .IsNot) (lo2 K WL.i0):=by
 refine OpR.imp (agX.or aa3) λx y H Q b=>?_;obtain⟨F,wx,d,s,c,a,q⟩:=b;cases d<;>simp only[WL.i0]at q<;>first|exact q.elim|skip
 ·simp only[RW]at a;exact .inl ⟨a,eq1 q (by simp[RW,xc c])⟩
 ·simp only[RW]at a;exact .inr ⟨_,a,eq1 q (by simp[RW,afB c])⟩
def ak3{F:Hp}{ws:List VW}{vs:List V}{i:Int}{w:VW}(r:RWs K F ws vs)(h:WL.atI ws i=some w):∃v,L2.atI vs i=some v/\RW K F w v:=by unfold WL.atI at h;cases e:WL.ixN ws.length i with|none=>rw[e]at h;cases h|some j=>rw[e]at h;obtain⟨v,a,b⟩:=r.get h;refine⟨v,?_,b⟩;unfold L2.atI;rw[<-r.length,show L2.ixN ws.length i=some j from e];exact a
def acN:Calm WL.oIx:=λx y c h=>by
 unfold WL.oIx at h;split at h<;>first|(cases h;done)|skip
 all_goals revert h;first|(cases WL.atI _ _<;>simp[WL.ofO];done)|(cases WL.k8 _ _ _<;>simp[WL.ofO];done)
theorem acj{F:Hp}(k:Str)(w:VW):∀{kvs:List (Key×V)}{ks vs:List VW},RWs K F ks (kvs.map λp=>kV p.1)->RWs K F vs (kvs.map λp=>p.2)->WL.k8 k ks vs=some w->∃v,vN kvs (Sum.inr k)=some v/\RW K F w v
|[],ks,vs,r1,r2,e=>by cases ks with|nil=>simp[WL.k8]at e|cons x ks=>simp[RWs]at r1
|p::kvs,ks,vs,r1,r2,e=>by cases ks with|nil=>simp[WL.k8]at e|cons x ks=>cases vs with
 |nil=>simp only[WL.k8]at e;cases x<;>cases e
 |cons y vs=>simp only[ao9,RWs]at r1 r2;obtain⟨s,r,f,a,l⟩:=r1;obtain⟨o,q,g,n,j⟩:=r2;cases f;cases g;cases x with|str x=>
     simp only[RW]at a;have b:p.1=Sum.inr x:=by cases b:p.1 with|inl i=>rw[b]at a;cases i<;>exact absurd a (by simp[kV])|inr z=>rw[b]at a;simp only[kV]at a;cases a;rfl
     simp only[WL.k8]at e;by_cases h:x=k;·subst h;simp at e;subst e;exact⟨p.2,iH b,n⟩
     ·have m:(x==k)=false:=by simpa using h
      rw[m]at e;obtain⟨v,d,c⟩:=acj k w l j (by simpa using e);exact⟨v,by rw[iI (λz=>h (by rw[b]at z;exact Sum.inr.inj z))];exact d,c⟩|_=>simp[WL.k8]at e
def anL(p:X.K=K):IxR X (lo2 K WL.oIx):=by
 subst p;refine IxR.imp ((abH.or afA).or abI) λx y H Q l=>?_;obtain⟨F,wx,u,s,c,b,q⟩:=l;unfold WL.oIx at q;split at q;rotate_left 2;·rename_i m f k;simp only[RW]at c b;obtain⟨a,j,rfl,h,n,r⟩:=c;cases e:WL.k8 k m f with|none=>rw[e]at q;exact q.elim|some w=>rw[e]at q;obtain⟨v,g,d⟩:=acj k w n r e;exact .inr ⟨a,j,Sum.inr k,v,rfl,b,s.rd h,g,eq1 q d⟩
 ·exact q.elim
 all_goals rename_i t i;simp only[RW]at c b;obtain⟨a,f,rfl,h,o⟩:=c;cases e:WL.atI t i with|none=>rw[e]at q;exact q.elim|some w=>rw[e]at q;obtain⟨v,g,d⟩:=ak3 o e;first|exact .inl (.inl ⟨a,f,i,v,rfl,b,s.seq h,g,eq1 q d⟩)|exact .inl (.inr ⟨a,f,i,v,rfl,b,s.tup h,g,eq1 q d⟩)
def ak8(k:X.K=K):SlR X (aoc K):=by
 subst k;have l:WL.sIx=HT.sIx:=by funext n d o;cases o<;>rfl
 refine SlR.imp (agu.or ai4) λx lo i H Q h=>?_;obtain⟨F,wx,s,b,q⟩:=h;cases wx<;>simp only[WL.oSl]at q<;>first|exact q.elim|skip
 ·rename_i m;simp only[RW]at b;obtain⟨a,f,rfl,g,c⟩:=b;have j:=c.length;split at q;·exact q.elim
  ·rename_i hw;rw[l,j]at hw;exact .inr ⟨a,f,rfl,s.tup g,hw,λp e=>alG s q (c.cut lo i) e⟩
 ·rename_i m;simp only[RW]at b;obtain⟨a,f,rfl,g,c⟩:=b;exact .inl ⟨a,f,rfl,s.seq g,λp e=>aid s q (c.cut lo i) e⟩
def cz{F:Hp}{w:VW}{xs:List V}(r:RWs K F [w] xs):∃v,xs=[v]/\RW K F w v:=by simp only[RWs]at r;obtain⟨v,t,rfl,h,rfl⟩:=r;exact⟨v,rfl,h⟩
def two_of{F:Hp}{w b:VW}{xs:List V}(r:RWs K F [w,b] xs):∃v a,xs=[v,a]/\RW K F w v/\RW K F b a:=by simp only[RWs]at r;obtain⟨v,t,rfl,h,a,d,rfl,c,rfl⟩:=r;exact⟨v,a,rfl,h,c⟩
def dz(f:X.K=K):bJ X (.builtin "len") (loN K WL.gf):=by
 subst f;refine bJ.imp sV λi H Q e=>?_;obtain⟨F,ws,s,r,q⟩:=e;unfold WL.gf at q;split at q;·rename_i g;obtain⟨v,rfl,h⟩:=cz r;simp only[RW]at h;obtain⟨a,b,rfl,d,c⟩:=h;exact⟨a,b,rfl,.inl (s.seq d),eq1 q (by simp[RW,c.length])⟩
 ·rename_i g;obtain⟨v,rfl,h⟩:=cz r;simp only[RW]at h;obtain⟨a,b,rfl,d,c⟩:=h;exact⟨a,b,rfl,.inr (s.tup d),eq1 q (by simp[RW,c.length])⟩
 ·exact q.elim
def oU(g:X.K=K):bJ X (.type "tuple") (loN K WL.ib):=by
 subst g;refine bJ.imp qk λk H Q d=>?_;obtain⟨F,ws,s,r,q⟩:=d;unfold WL.ib at q;split at q;·rename_i i;obtain⟨v,rfl,h⟩:=cz r;simp only[RW]at h;obtain⟨a,b,rfl,c,e⟩:=h;exact⟨a,b,rfl,.inl ⟨s.seq c,λl f=>alG s q e f⟩⟩
 ·rename_i i;obtain⟨v,rfl,h⟩:=cz r;have j:=h;simp only[RW]at h;obtain⟨a,b,rfl,c,e⟩:=h;exact⟨a,b,rfl,.inr ⟨s.tup c,eq1 q j⟩⟩
 ·exact q.elim
def aiF(g:X.K=K):bJ X (.type "list") (loN K WL.vy):=by
 subst g;refine bJ.imp kG λj H Q f=>?_;obtain⟨F,ws,s,r,q⟩:=f;unfold WL.vy at q;split at q;·rename_i i;obtain⟨v,rfl,h⟩:=cz r;simp only[RW]at h;obtain⟨a,b,rfl,e,c⟩:=h;exact⟨a,b,rfl,.inl (s.seq e),λl d=>aid s q c d⟩
 ·rename_i i;obtain⟨v,rfl,h⟩:=cz r;simp only[RW]at h;obtain⟨a,b,rfl,e,c⟩:=h;exact⟨a,b,rfl,.inr (s.tup e),λl d=>aid s q c d⟩
 ·exact q.elim
def aiJ:bJ X (.builtin "abs") (loN K WL.ahU):=bJ.imp aeT λb H Q a=>by
 obtain⟨F,ws,s,r,q⟩:=a;unfold WL.ahU at q;split at q;·rename_i i;obtain⟨v,rfl,h⟩:=cz r;simp only[RW]at h;subst h;exact⟨i,rfl,eq1 q (by simp[RW])⟩
 ·exact q.elim
def aiE(d:X.calm=true):bJ X (.builtin "max") (loN K WL.vx):=bJ.imp (acQ d) λg H Q a=>by obtain⟨F,ws,s,r,q⟩:=a;cases e:WL.vx ws with|bad=>rw[e]at q;exact q.elim|ex c=>rw[e]at q;exact q.elim|ok w=>
 unfold WL.vx at e;split at e;·cases e;obtain⟨v,f,rfl,h,b⟩:=two_of r;simp only[RW]at h b;subst h b;exact⟨_,_,rfl,eq1 q (by simp[RW])⟩
 ·cases e
noncomputable def aou:VW->Value|.non=>.type "NoneType"|.bl _=>.type "bool"|.int _=>.type "int"|.str _=>.type "str"|.ty _=>.type "type"|.tup _=>.type "tuple"|.lst _=>.type "list"|.dic _ _=>.type "dict"|.cls _=>.type "type"|.exc _ _=>.none|.ins _ _=>.none|.id _=>.none
def aki{w:VW}{t:String}{b:Bool}(h:WL.isK w t=some b):W.kitOne K (aou w) (.type t)=some b:=by
 have a:t="int"\/t="bool"\/t="str"\/t="list"\/t="tuple":=by
  cases w<;>simp only[WL.isK]at h<;>first|(cases h;done)|skip
  all_goals
  split at h;·rename_i c;simpa using c
  ·cases h
 cases w<;>rcases a with rfl|rfl|rfl|rfl|rfl<;>first|(cases h;done)|(rw[<-h];rfl)
def aj7{F H:Hp}{a:Addr}{vs:List V}(s:ar F H)(h:SqL K F a vs):(TyOf K H (.ref a) (.type "list"))\/∃o b n,K.lookup a=some o/\o.cls=.type "list"/\o.dict=none/\o.data=.seq b n:=by
 rcases h with(h|⟨o,h⟩)|⟨o,b,n,c,d,f,e,_⟩;·exact .inl (.lst (s _ _ h))
 ·exact .inl (.frz (s _ _ h))
 ·exact .inr ⟨o,b,n,c,d,f,e⟩
def sW:bJ X (.builtin "isinstance") (λd H Q=>∃a o T b,d=[.ref a,.ty T]/\X.K.lookup a=some o/\o.cls=.type "list"/\W.kitOne X.K (.type "list") (.type T)=some b/\Q (.bl b) H):=by intro c s m H d l Q I r h;obtain⟨a,o,T,b,rfl,i,g,e,q⟩:=h;obtain⟨u,j,rfl,f,k⟩:=vals2 r;cases(show j=Value.type T from k);cases(show u=Value.ref a from f);exact aqg W.kitx_list I.kIn ⟨o,I.kIn a o i,g⟩ e (λz=>nomatch z) λtk=>⟨.bl b,H,I.tok tk,rfl,q⟩
def cX(z:X.K=K):bJ X (.builtin "isinstance") (loN K WL.bY):=by subst z;refine bJ.imp (vu.or sW) λB H Q g=>?_;obtain⟨F,ws,s,r,q⟩:=g;cases e:WL.bY ws with|bad=>rw[e]at q;exact q.elim|ex c=>rw[e]at q;exact q.elim|ok w=>
  rw[e]at q;unfold WL.bY at e;split at e
  ·rename_i x t;split at e;·rename_i b f;cases e;obtain⟨v,D,rfl,h,j⟩:=two_of r;simp only[RW]at j;subst j;have d:=aki (K:=X.K) f;have fin:Q (.bl b) H:=eq1 q (by simp[RW]);cases x with|non=>simp only[RW]at h;subst h;exact .inl ⟨_,t,_,b,rfl,.inl .non,d,fin⟩|bl k=>simp only[RW]at h;subst h;exact .inl ⟨_,t,_,b,rfl,.inl (.bl k),d,fin⟩|int k=>simp only[RW]at h;subst h;exact .inl ⟨_,t,_,b,rfl,.inl (.int k),d,fin⟩|str k=>simp only[RW]at h;subst h;exact .inl ⟨_,t,_,b,rfl,.inl (.str k),d,fin⟩|ty k=>simp[WL.isK]at f|dic _ _=>simp[WL.isK]at f|cls _=>simp[WL.isK]at f|exc _ _=>simp[WL.isK]at f|ins _ _=>simp[WL.isK]at f|id _=>simp[WL.isK]at f|tup ys=>simp only[RW]at h;obtain⟨a,l,rfl,i,p⟩:=h;exact .inl ⟨_,t,_,b,rfl,.inr ⟨a,l,rfl,rfl,s.tup i⟩,d,fin⟩|lst ys=>
     simp only[RW]at h;obtain⟨a,l,rfl,i,p⟩:=h;rcases aj7 s i with ty|⟨o,y,n,u,m,A,C⟩;·exact .inl ⟨_,t,_,b,rfl,.inl ty,d,fin⟩
     ·exact .inr ⟨a,o,t,b,rfl,u,m,d,fin⟩
   ·cases e
  ·cases e
mutual theorem abp:∀(n m:Nat)(x y:VW),WL.okD n x=true->WL.okD m y=true->ltv (toD x) (toD y)=WL.ltW x y
|n,m,.tup xs,y,h1,h2=>by cases y with|tup ys=>exact wZ n m xs ys h1 h2|_=>first|rfl|cases h2
|n,m,.int _,y,_,h2=>by cases y<;>first|rfl|cases h2
|n,m,.non,y,_,h2=>by cases y<;>first|rfl|cases h2
|n,m,.bl _,y,_,h2=>by cases y<;>first|rfl|cases h2
|n,m,.str _,y,_,h2=>by cases y<;>first|rfl|cases h2
|n,m,.lst _,y,_,h2=>by cases y<;>first|rfl|cases h2 theorem wZ:∀(n m:Nat)(xs ys:List VW),WL.dQ n xs=true->WL.dQ m ys=true->i3 (nu xs) (nu ys)=WL.aef xs ys|n,m,[],ys,_,_=>by cases ys<;>rfl|n,m,x::xs,ys,h1,h2=>by cases ys with|nil=>rfl|cons y ys=>cases n with|zero=>cases h1|succ n=>cases m with|zero=>cases h2|succ m=>simp only[WL.dQ,apg]at h1 h2;show(if PyData.eqv _ _ then i3 _ _ else ltv _ _)=if _ then _ else _;rw[nc n m x y h1.1 h2.1,abp n m x y h1.1 h2.1,wZ (n+1) (m+1) xs ys h1.2 h2.2]end
mutual theorem acD:∀(x y:VW),WL.afL x y=true->zc (toD x) (toD y)=true
|.tup xs,y,h=>by cases y with|tup ys=>exact xF xs ys h|_=>cases h
|.int _,y,h=>by cases y<;>first|(cases h;done)|rfl theorem xF:∀(xs ys:List VW),WL.sR xs ys=true->fQ (nu xs) (nu ys)=true|[],_,_=>rfl|_::_,[],_=>rfl|x::xs,y::ys,h=>by simp only[WL.sR,apg]at h;simp only[nu,fQ,apg];exact⟨acD x y h.1,xF xs ys h.2⟩end
theorem oZ:∀a:List VW,nu a=a.map toD|[]=>rfl|x::a=>by simp only[nu,ao9,oZ a]
theorem acU{b a:Nat->Nat->Bool}{n:Nat}(h:∀i j,i<=n->j<=n->b i j=a i j):∀k,k<=n->argBest b k=WL.ac1 a k/\WL.ac1 a k<=k|0,_=>⟨rfl,ao6 _⟩|k+1,hk=>by obtain⟨e,l⟩:=acU h k (by omega);simp only[argBest,WL.ac1,e,h (k+1) (WL.ac1 a k) hk (by omega)];refine⟨trivial,?_⟩;split<;>omega
theorem wK{n:Nat}:∀{xs:List VW},WL.dQ (n+1) xs=true->∀x∈xs,WL.okD n x=true
|[],_,x,a=>by cases a|y::ys,h,x,a=>by
 simp only[WL.dQ,apg]at h;rcases apl.mp a with rfl|a;·exact h.1
 ·exact wK h.2 x a
def ad5{a:Type}(o:Option a)(c:VW):WL.ofO o≠.ex c:=by cases o<;>simp[WL.ofO]
def aiD(E:X.calm=true)(S:X.K=K)(Z:X.A.units+64<cLine):bJ X (.builtin "min") (loN K WL.zj):=by
 subst S;refine bJ.imp (acP E) λY H Q o=>?_;obtain⟨F,ws,s,r,q⟩:=o;unfold WL.zj at q;split at q
 ·rename_i b;obtain⟨v,rfl,h⟩:=cz r;simp only[RW]at h;obtain⟨a,B,rfl,T,m⟩:=h;have q:Eq1 F H X.K (WL.minOf b) Q:=q;unfold WL.minOf at q;split at q
  ·rename_i G;obtain⟨h0,w,D⟩:=G;have I:=m.length;have z:∀x∈b,WL.okD 50 x=true:=wK w;have p:∀x∈b,∀y∈b,WL.afL x y=true:=λx k y c=>by have:=apC.mp D x k;exact apC.mp this y c
   refine⟨a,B,50,nu b,rfl,s.seq T,by omega,RWs.isD 50 b B w (m.keep s),?_,by omega,λy c=>?_⟩;·rw[oZ];intro d R e P;obtain⟨x,k,rfl⟩:=apv.mp R;obtain⟨y,c,rfl⟩:=apv.mp P;exact acD x y (p x k y c)
   ·have U:∀i j,i<=b.length-1->j<=b.length-1->ltv ((nu b).getD i .none) ((nu b).getD j .none)=WL.ltW (b.getD i .non) (b.getD j .non):=λi j A M=>by
     have t:∀i,i<=b.length-1->∃x∈b,(nu b).getD i .none=toD x/\b.getD i .non=x:=λi A=>by
      have f:i<b.length:=by omega
      refine⟨b[i],aqa f,?_,?_⟩;·rw[oZ,apj,apo,ao5 f];rfl
      ·rw[apj,ao5 f];rfl
     obtain⟨x,k,n,C⟩:=t i A;obtain⟨y,c,J,O⟩:=t j M;rw[n,C,J,O,abp 50 50 x y (z x k) (z y c)]
    obtain⟨n,C⟩:=acU U (b.length-1) (ao6 _);rw[<-I,n]at c;have l:WL.ac1 (λi j=>WL.ltW (b.getD i .non) (b.getD j .non)) (b.length-1)<b.length:=by omega
    rw[ao5 l]at q;obtain⟨u,g,N⟩:=m.get (ao5 l);rw[c]at g;cases g;exact eq1 q N
  ·exact q.elim
 ·exact q.elim
def acK:∀a c,WL.zj a≠.ex c:=λa c h=>by
 unfold WL.zj at h;split at h
 ·unfold WL.minOf at h;split at h;·exact ad5 _ _ h
  ·cases h
 ·cases h
def aP:∀a c,WL.gf a≠.ex c:=λa c h=>by unfold WL.gf at h;split at h<;>cases h
def hE:∀a c,WL.ib a≠.ex c:=λa c h=>by unfold WL.ib at h;split at h<;>cases h
def acM:∀a c,WL.vy a≠.ex c:=λa c h=>by unfold WL.vy at h;split at h<;>cases h
def xJ:∀a c,WL.ahU a≠.ex c:=λa c h=>by unfold WL.ahU at h;split at h<;>cases h
def acL:∀a c,WL.vx a≠.ex c:=λa c h=>by unfold WL.vx at h;split at h<;>cases h
def bw:∀a c,WL.bY a≠.ex c:=λa c h=>by
 unfold WL.bY at h;split at h;·split at h<;>cases h
 ·cases h
end
structure Walk(K:W.Frag)(J:It)(xs:List VW)(F:Hp):Prop where
 go:∀(i:Nat)(x:VW),xs[i]?=some x->∀F1 H1:Hp,ar F F1->ar F1 H1->J.go i H1/\∀v H2,J.yld i H1 v H2->∃F2,Ext F1 H1 F2 H2/\RW K F2 x v
 stop:∀F1 H1:Hp,ar F F1->ar F1 H1->J.stop xs.length H1
def loI(B:Bx)(it:LF):TI:=λa H R=>∃b F,RS B b a F H/\Rq B b F (it b) λe=>∀J c d,RS B b a d c->Gr F H d c->Walk B.K J e d->R J c
def zT{K:W.Frag}{a:Addr}{xs:List VW}{vs:List V}{F:Hp}(h:SqL K F a vs)(r:RWs K F xs vs):Walk K (Itl K a) xs F:=by refine⟨λi x e f k b c=>?_,λf k b c=>⟨vs,c.seq (b.seq h),by rw[r.length];exact ao6 _⟩⟩;obtain⟨v,g,j⟩:=r.get e;refine⟨⟨vs,v,c.seq (b.seq h),g⟩,λu m d=>?_⟩;obtain⟨l,y⟩:=d;subst l;have:=y vs (c.seq (b.seq h));rw[g]at this;cases this;exact⟨f,Ext.refl _ _,j.keep b⟩
def adl{K:W.Frag}{a:Addr}{xs:List VW}{vs:List V}{F:Hp}(h:SqT K F a vs)(r:RWs K F xs vs):Walk K (Itt K a) xs F:=by refine⟨λi x e f k b c=>?_,λf k b c=>⟨vs,c.tup (b.tup h),by rw[r.length];exact ao6 _⟩⟩;obtain⟨v,g,j⟩:=r.get e;refine⟨⟨vs,v,c.tup (b.tup h),g⟩,λu m d=>?_⟩;obtain⟨l,y⟩:=d;subst l;have:=y vs (c.tup (b.tup h));rw[g]at this;cases this;exact⟨f,Ext.refl _ _,j.keep b⟩
def aaF(lo:Int)(n:Nat):(WL.rng lo n).length=n:=by simp[WL.rng]
def vM{K:W.Frag}{lo:Int}{n:Nat}{F:Hp}:Walk K (Itr lo n) (WL.rng lo n) F:=by
 refine⟨λi x e b h g f=>?_,λb h g f=>by rw[aaF];exact ao6 n⟩;have c:i<n:=by have:=(ao3.mp e).1;rwa[aaF]at this
 refine⟨c,λv j a=>?_⟩;obtain⟨d,y⟩:=a;subst d y;refine⟨b,Ext.refl _ _,?_⟩;simp only[WL.rng,apo,aqY c]at e;have e:=apf e;subst e;simp[RW]
theorem qe:∀(xs:List VW)(k i:Nat),(WL.dB k xs)[i]?=(xs[i]?).map λx=>.tup [.int ((k+i:Nat):Int),x]|[],_,_=>by simp[WL.dB]|x::xs,k,0=>by simp[WL.dB]|x::xs,k,i+1=>by simp only[WL.dB,List.getElem?_cons_succ];rw[qe xs (k+1) i];congr 1;funext y;congr 4;omega
theorem qd:∀(xs:List VW)(k:Nat),(WL.dB k xs).length=xs.length|[],_=>rfl|x::xs,k=>by simp only[WL.dB,aph,qd xs (k+1)]
def zU{K:W.Frag}{a:Addr}{xs:List VW}{vs:List V}{F:Hp}(h:SqT K F a vs)(r:RWs K F xs vs):Walk K (Ite K a) (WL.dB 0 xs) F:=by refine⟨λi x e m o c b=>?_,λm o c b=>⟨vs,b.tup (c.tup h),by rw[qd,r.length];exact ao6 _⟩⟩;rw[qe]at e;cases f:xs[i]? with|none=>rw[f]at e;cases e|some y=>rw[f]at e;obtain⟨v,k,n⟩:=r.get f;have e:=apf e;subst e;refine⟨⟨vs,v,b.tup (c.tup h),k⟩,λu t d=>?_⟩;obtain⟨p,s,g,q⟩:=d;subst s;obtain⟨z,j,rfl⟩:=q vs (b.tup (c.tup h));rw[k]at j;cases j;have l:=b.free g;refine⟨_,Ext.new l g _,?_⟩;simp only[RW];refine⟨p,_,rfl,SqT.of ao,?_⟩;simp only[RWs,RW];refine⟨_,_,rfl,?_,_,_,rfl,(n.keep c).keep (az l _),rfl⟩;simp
def xW{K:W.Frag}{a:Addr}{xs:List VW}{vs:List V}{F:Hp}(h:SqL K F a vs)(r:RWs K F xs vs):Walk K (alP K a) (WL.dB 0 xs) F:=by refine⟨λi x e m o c b=>?_,λm o c b=>⟨vs,b.seq (c.seq h),by rw[qd,r.length];exact ao6 _⟩⟩;rw[qe]at e;cases f:xs[i]? with|none=>rw[f]at e;cases e|some y=>rw[f]at e;obtain⟨v,k,n⟩:=r.get f;have e:=apf e;subst e;refine⟨⟨vs,v,b.seq (c.seq h),k⟩,λu t d=>?_⟩;obtain⟨p,s,g,q⟩:=d;subst s;obtain⟨z,j,rfl⟩:=q vs (b.seq (c.seq h));rw[k]at j;cases j;have l:=b.free g;refine⟨_,Ext.new l g _,?_⟩;simp only[RW];refine⟨p,_,rfl,SqT.of ao,?_⟩;simp only[RWs,RW];refine⟨_,_,rfl,?_,_,_,rfl,(n.keep c).keep (az l _),rfl⟩;simp
section
variable{X:Cx}{B:Bx}{e tg iter:Expr}{pos:Pos}{ta tb:EF}{it:LF}{g:GF}{b:SF}
def tSq(K:W.Frag)(h:TE):TI:=λf H R=>h f H λx c=>∃a,x=.ref a/\(((∃d,SqL K c a d)/\R (Itl K a) c)\/((∃d,SqT K c a d)/\R (Itt K a) c))
def agR{pins:List (Addr×Obj)}{σ:L2.St}{c:Hp}{R:It->Hp->Prop}{d:Shared}{x:V}{v:Value}(f:Inv X pins σ c d)(m:RelV x v)(q:∃a,x=.ref a/\(((∃h,SqL X.K c a h)/\R (Itl X.K a) c)\/((∃h,SqT X.K c a h)/\R (Itt X.K a) c))):wpAny (model X.prog X.w) X.A (pyIter v) (PIE X pins σ tg R) X.xe d:=by
 obtain⟨a,e,r⟩:=q;subst e;cases m;have k:∀b∈[d.heap.objs.size],xQ X pins c b:=λb n=>by
  have e:b=d.heap.objs.size:=by simpa using n
  subst e;exact f.aic (ao6 _) (f.hok.fresh (ao6 _))
 rcases r with⟨⟨h,i⟩,q⟩|⟨⟨h,i⟩,q⟩;·obtain⟨j,s,p,l⟩:=f.list i;exact ar7 p.isList ⟨d.heap.objs.size,[d.heap.objs.size],_,_,c,rfl,f.kept λb o e=>aoZ _ e,z4 a _,⟨_,apd _ rfl,rfl,rfl⟩,k,q⟩
 ·obtain⟨j,s,p,l⟩:=f.tuple i;exact aq7 (p) ⟨d.heap.objs.size,[d.heap.objs.size],_,_,c,rfl,f.kept λb o e=>aoZ _ e,xY a _,⟨_,apd _ rfl,rfl,rfl⟩,k,q⟩
def aju{l:Expr}{d:TE}(f:PE X l d):PI X tg l (tSq X.K d):=λa s j H R I h=>thn (f a s j H _ I h) λv m c=>by obtain⟨x,n,i,k,q⟩:=c;exact agR i k q
def ahd{K:W.Frag}(i:K=B.K):∀c H R,loI B (WL.uW ta) c H R->tSq K (lo B ta) c H R:=λc H R j=>by obtain⟨r,F,s,q⟩:=j;have q:=Rq.bind q;refine⟨r,F,s,Rq.mono (ar.refl _) q λx m v o n h p f=>?_⟩;cases x with|lst xs=>simp only[RW]at f;obtain⟨a,k,rfl,d,l⟩:=f;refine⟨a,rfl,.inl ⟨⟨k,by rw[i];exact h.rb.sub.seq d⟩,?_⟩⟩;rw[i];exact(m) _ o n h p (zT d l)|tup xs=>simp only[RW]at f;obtain⟨a,k,rfl,d,l⟩:=f;refine⟨a,rfl,.inr ⟨⟨k,by rw[i];exact h.rb.sub.tup d⟩,?_⟩⟩;rw[i];exact(m) _ o n h p (adl d l)|_=>exact(m).elim
def fV(a:X.K=B.K)(h:PE X e (lo B ta)):PI X tg e (loI B (WL.uW ta)):=PI.imp (aju h) (ahd a)
def jm{a:Expr}{p pos:Pos}(u:Gl X "range")(C:X.mg "range"=none)(h:PE X a (lo B ta))(t:starEach [a] X.env=[(false,eval a X.env)]:=by rfl)(o:starEach [a] X.env=(false,eval a X.env)::starEach [] X.env:=by rfl):PI X tg (.Call (.Name "range" p) [a] [] pos) (loI B (WL.mW ta)):=PI.imp (aaX u C (aa h ai o) t) λk H R l=>by
 obtain⟨d,F,D,q⟩:=l;have q:=Rq.bind q;have w:Rq B d F (WL.ae ta WL.av d) λws=>∀m i n,RS B d k n i->Gr F H n i->RWs B.K n ws m->∃j:Int,m=[.int j]/\-(2^62)<=j/\j<2^62/\R (Itr 0 j.toNat) i:=by show Rq B d F ((ta d).bind λx=>.ok [x]) _;cases e:ta d with
 |ok x=>
   rw[e]at q;intro m A s z E y;obtain⟨v,rfl,r⟩:=cz y
   cases x with|int j=>
    simp only[RW]at r;subst r;have q:Rq B d F (if -(2^62)<=j/\j<2^62 then .ok (WL.rng 0 j.toNat)else .bad) _:=q;by_cases f:-(2^62)<=j/\j<2^62;·rw[ao1 f]at q;exact⟨j,rfl,f.1,f.2,q _ A s z E vM⟩
    ·rw[ao2 f]at q;exact q.elim|_=>exact(q).elim
 |ex c=>rw[e]at q;exact q|bad=>rw[e]at q;exact q
 exact⟨d,F,D,w⟩
def zL{a c:Expr}{p pos:Pos}(M:Gl X "range")(E:X.mg "range"=none)(h:PE X a (lo B ta))(h':PE X c (lo B tb))(A:starEach [a,c] X.env=[(false,eval a X.env),(false,eval c X.env)]:=by rfl)(u:starEach [c] X.env=[(false,eval c X.env)]:=by rfl)(n:starEach [a,c] X.env=(false,eval a X.env)::starEach [c] X.env:=by rfl)(f:starEach [c] X.env=(false,eval c X.env)::starEach [] X.env:=by rfl):PI X tg (.Call (.Name "range" p) [a,c] [] pos) (loI B (WL.rY ta tb)):=PI.imp (aaW M E (aa h (aa h' ai f) n) A u) λl H R o=>by
 obtain⟨d,F,D,q⟩:=o;have q:=Rq.bind q;have N:Rq B d F (WL.ae ta (WL.ae tb WL.av) d) λws=>∀s k m,RS B d l m k->Gr F H m k->RWs B.K m ws s->∃i j:Int,s=[.int i,.int j]/\(-(2^62)<=i/\i<2^62/\-(2^62)<=j/\j<2^62)/\R (Itr i (j-i).toNat) k:=by show Rq B d F ((ta d).bind λx=>((tb d).bind λy=>(Res.ok []).bind λG=>.ok (y::G)).bind λI=>.ok (x::I)) _;cases e:ta d with
 |ok x=>rw[e]at q;have q:=Rq.bind q;cases t:tb d with
  |ok y=>rw[t]at q;intro s P K C J O;obtain⟨v,Q,rfl,z,w⟩:=two_of O;cases x with
   |int i=>cases y with|int j=>
      simp only[RW]at z w;subst z w;have q:Rq B d F (if -(2^62)<=i/\i<2^62/\-(2^62)<=j/\j<2^62 then .ok (WL.rng i (j-i).toNat)else .bad) _:=q;by_cases r:-(2^62)<=i/\i<2^62/\-(2^62)<=j/\j<2^62;·rw[ao1 r]at q;exact⟨i,j,rfl,r,q _ P K C J vM⟩
      ·rw[ao2 r]at q;exact q.elim|_=>exact(q).elim
   |_=>exact(q).elim
  |ex c=>rw[t]at q;exact q|bad=>rw[t]at q;exact q
 |ex c=>rw[e]at q;exact q|bad=>rw[e]at q;exact q
 exact⟨d,F,D,N⟩
def tP{l:Expr}{es:List Expr}{k:Nat}{z p pos:Pos}(i:X.K=B.K)(y:Gl X "enumerate")(A:X.mg "enumerate"=none)(h:PE X l (lo B ta))(u:starEach [l] X.env=[(false,eval l X.env)]:=by rfl):PI X (.Tuple es k z) (.Call (.Name "enumerate" p) [l] [] pos) (loI B (WL.uX ta)):=PI.imp (uu y A h u) λw H R j=>by obtain⟨C,F,D,q⟩:=j;have q:=Rq.bind q;refine⟨C,F,D,Rq.mono (ar.refl _) q λx o v s r f t d=>?_⟩;cases x with|tup xs=>simp only[RW]at d;obtain⟨a,m,rfl,c,n⟩:=d;refine⟨a,rfl,.inl ⟨⟨m,by rw[i];exact f.rb.sub.tup c⟩,?_⟩⟩;rw[i];exact(o) _ s r f t (zU c n)|lst xs=>simp only[RW]at d;obtain⟨a,m,rfl,c,n⟩:=d;refine⟨a,rfl,.inr ⟨⟨m,by rw[i];exact f.rb.sub.seq c⟩,?_⟩⟩;rw[i];exact(o) _ s r f t (xW c n)|_=>exact(o).elim
variable{m:Bool}{es:List Expr}{gs:GsF}
def af9{i:Nat}(h:PG X e (L2.aA i)):PG X e (loG m B (WL.aA i)):=PG.imp h λv c H Q a=>by obtain⟨d,F,w,R,r,q⟩:=a;exact(q) _ H F (R.set r) Gm.refl
def oP:PGs X [] (alz m B WL.xt):=PGs.imp agS λf c H Q a=>by obtain⟨d,F,ws,R,r,q⟩:=a;cases ws with|nil=>simp only[RWs]at r;exact⟨r,(q) _ H F R Gm.refl⟩|cons w ws=>exact(q).elim
def dy(y:PG X e (loG m B g))(p:PGs X es (alz m B gs))(n:(assignEach (e::es) X.env).map (·.2)=assign e X.env::(assignEach es X.env).map (·.2):=by rfl):PGs X (e::es) (alz m B (WL.di g gs)):=PGs.imp (adT y p n) λA o H Q f=>by obtain⟨d,F,ws,R,r,q⟩:=f;cases ws with|nil=>exact(q).elim|cons w ws=>simp only[RWs]at r;obtain⟨v,t,rfl,r,rt⟩:=r;refine⟨v,t,rfl,d,F,w,R,r,?_⟩;have q:Rq B d F (match g w d with|.ok σ'=>(match gs ws σ' with|.ok σ2=>.ok σ2|_=>.bad)|_=>.bad) _:=q;cases i:g w d with|bad=>rw[i]at q;exact q|ex c=>rw[i]at q;exact q.elim|ok σ1=>rw[i]at q;intro j C l u k;have q:Rq B d F (match gs ws σ1 with|.ok σ2=>.ok σ2|_=>.bad) _:=q;refine⟨σ1,l,ws,u,rt.keep k.f,?_⟩;cases h:gs ws σ1 with|bad=>rw[h]at q;exact q|ok σ2=>rw[h]at q;exact λa z x R2 s=>q a z x R2 (k.trans s)|ex c=>rw[h]at q;exact q.elim
def vI{k:Nat}{n:Nat}(z:X.K=B.K)(u:X.calm=true)(h:PGs X es (alz m B gs))(t:(assignEach es X.env).length=n)(y:∀ws d f,gs ws d=.ok f->ws.length=n)(s:∀ws d c,gs ws d≠.ex c)(i:(assignEach es X.env).findIdx? (·.1)=none:=by rfl):PG X (.Tuple es k pos) (loG m B (WL.xn gs)):=PG.imp (ajv u h t i) λv p H Q l=>by obtain⟨d,F,w,R,r,q⟩:=l;cases w with
|tup ws=>simp only[RW]at r;obtain⟨a,x,rfl,A,o⟩:=r;have q:Rq B d F (gs ws d) _:=q;refine⟨a,x,rfl,by rw[z];exact R.rb.sub.tup A,?_,d,F,ws,R,o,q⟩;cases j:gs ws d with|ok f=>rw[<-o.length];exact y _ _ _ j|ex c=>exact(s _ _ _ j).elim|bad=>rw[j]at q;exact q.elim
|_=>exact(q).elim
def xi:∀ws c a,WL.xt ws c=.ok a->ws.length=0:=λws c a h=>by cases ws<;>simp[WL.xt]at h;rfl
def fM{n:Nat}(h:∀ws d a,gs ws d=.ok a->ws.length=n):∀ws d a,WL.di g gs ws d=.ok a->ws.length=n+1:=λws d a q=>by cases ws with|nil=>simp[WL.di]at q|cons w ws=>have q:(match g w d with|.ok a=>(match gs ws a with|.ok σ2=>Res.ok σ2|_=>.bad)|_=>.bad)=.ok a:=q;cases f:g w d with
 |ok σ1=>rw[f]at q;have q:(match gs ws σ1 with|.ok σ2=>Res.ok σ2|_=>.bad)=.ok a:=q;cases i:gs ws σ1 with|ok σ2=>simp[h _ _ _ i]|ex c=>rw[i]at q;cases q|bad=>rw[i]at q;cases q
 |ex c=>rw[f]at q;cases q|bad=>rw[f]at q;cases q
def mY:∀ws a c,WL.di g gs ws a≠.ex c:=λws a c q=>by cases ws with|nil=>simp[WL.di]at q|cons w ws=>have q:(match g w a with|.ok σ'=>(match gs ws σ' with|.ok σ2=>Res.ok σ2|_=>.bad)|_=>.bad)=.ex c:=q;cases d:g w a with|ok σ1=>rw[d]at q;have q:(match gs ws σ1 with|.ok σ2=>Res.ok σ2|_=>.bad)=.ex c:=q;cases f:gs ws σ1<;>rw[f]at q<;>cases q|ex c=>rw[d]at q;cases q|bad=>rw[d]at q;cases q
def akC(h:∀ws a c,gs ws a≠.ex c):∀w a c,WL.xn gs w a≠.ex c:=λw a c q=>by cases w<;>simp only[WL.xn]at q<;>first|(cases q;done)|exact h _ _ _ q
abbrev Bx.calm(B:Bx):Bx:=⟨B.K,B.H0,B.F0,λ_ _ _=>False,λ_ _ _ _ _ h=>h⟩
def RS.aiP{σ:Ws}{a:L2.St}{F H:Hp}(R:RS B σ a F H):RS B.calm σ a F H:=⟨⟨R.rb.sub,R.rb.base,R.rb.fz0,R.rb.fr⟩,R.len,R.va,R.ow,R.ap,R.dd⟩
def RB.ajS{F H:Hp}(R:RB B.calm F H):RB B F H:=⟨R.sub,R.base,R.fz0,R.fr⟩
def RS.ahead{σ:Ws}{f:L2.St}{F H:Hp}(R:RS B σ f F H)(k:Nat):RS B (List.replicate k .no++σ) (List.replicate k none++f) F H:=by
 have c:∀{i:Nat}{q:Sl},(List.replicate k Sl.no++σ)[i]?=some q->q≠.no->k<=i/\σ[i-k]?=some q:=λ{i q}e K=>by
  by_cases d:i<k;·rw[apq (by simpa using d)]at e;rw[apT,ao1 d]at e;exact absurd (apf e).symm K
  ·rw[apw (by simp;omega)]at e;simp only[aqq]at e;exact⟨by omega,e⟩
 have r:∀{i:Nat}{x:Option V},k<=i->f[i-k]?=some x->(List.replicate k none++f)[i]?=some x:=λ{i x}d e=>by rw[apw (by simp;omega)];simpa using e
 have p:∀{i:Nat}{x:Option V},k<=i->(List.replicate k none++f)[i]?=some x->f[i-k]?=some x:=λ{i x}d e=>by rw[apw (by simp;omega)]at e;simpa using e
 refine⟨R.rb,by simp[R.len],λi w e=>?_,λi ws e=>?_,λi j ws u a I n o s J=>?_,λi A t e=>?_,λi j A t G E a I n o s J=>?_,λi e=>?_⟩;rotate_left 3;·obtain⟨d,e⟩:=c e (by intro z;cases z);obtain⟨a,y,l,h⟩:=R.dd.od _ A t e;exact⟨a,y,r d l,h⟩
 ·obtain⟨d,n⟩:=c n (by intro z;cases z);obtain⟨D,o⟩:=c o (by intro z;cases z);exact R.dd.ad _ _ A t G E a (by omega) n o (p d s) (p D J)
 ·obtain⟨d,e⟩:=c e (by intro z;cases z);obtain⟨a,C,M,l,h⟩:=R.dd.ob _ e;exact⟨a,C,M,r d l,h⟩
 ·obtain⟨d,e⟩:=c e (by intro z;cases z);obtain⟨v,l,h⟩:=R.va _ w e;exact⟨v,r d l,h⟩
 ·obtain⟨d,e⟩:=c e (by intro z;cases z);obtain⟨a,N,l,h⟩:=R.ow _ ws e;exact⟨a,N,r d l,h⟩
 ·obtain⟨d,n⟩:=c n (by intro z;cases z);obtain⟨D,o⟩:=c o (by intro z;cases z);exact R.ap _ _ ws u a (by omega) n o (p d s) (p D J)
def RS.forget{σ c:Ws}{d:L2.St}{F H:Hp}(R:RS B σ d F H)(p:c.length=σ.length)(h:∀(i:Nat)(f:Sl),c[i]?=some f->f≠.no->σ[i]?=some f):RS B c d F H:=⟨R.rb,by rw[p];exact R.len,λi w e=>R.va i w (h i _ e (by intro z;cases z)),λi ws e=>R.ow i ws (h i _ e (by intro z;cases z)),λi j ws k a l r t=>R.ap i j ws k a l (h i _ r (by intro z;cases z)) (h j _ t (by intro z;cases z)),R.dd.via rfl id (λ_ _ z=>.inl z) (λi f n e=>⟨h i _ e (by intro z;subst z;exact n),rfl⟩) (ar.refl _) λ_ _ _ a s _ _ q u o=>⟨u,o,q⟩⟩
def Keeps(k:Nat)(g:GF):Prop:=∀w c a,g w c=.ok a->a.length=c.length/\∀j:Nat,k<=j->a[j]?=c[j]?
def bB{k i:Nat}(h:i<k):Keeps k (WL.aA i):=λw c a e=>by simp only[WL.aA]at e;cases e;exact⟨by simp,λj d=>by rw[ao0 (by omega)]⟩
end
end WS
set_option autoImplicit true
set_option relaxedAutoImplicit true
namespace WS
open PySem PySem.Spec PyProof.Rows L2
open WL(Res Sl Ws EF TF AF LF GF GsF SF Out)
section
variable{X:Cx}{B:Bx}{e tg iter:Expr}{pos:Pos}{ta tb:EF}{tt:TF}{it:LF}{g:GF}{b:SF}{k:Nat}
def aeQ   (hg:Keeps k g)(R1:RS B σ σV F1 H1)(wk:Walk B.K J xs F1)(hx:xs.length<=WL.lim)(hc:WL.bA g tt ta (List.replicate k .no++σ) xs=.ok all)(fin:∀o l h,RB B l h->Gr F1 H1 l h->RWs B.K l all o->∀D,h D=none->Q (.ref D) (upd h D (.lst o))):oN (ar H1) J (loG true B.calm g) (loT B.calm tt) (lo B.calm ta) (List.replicate k none++σV) H1 Q:=by
 refine⟨λi m o p h=>m=xs.length-i/\i<=xs.length/\o.length<=i/\∃l d rest,RS B.calm (List.replicate k .no++σ) p l h/\Gr F1 H1 l h/\RWs B.K l d o/\WL.bA g tt ta (List.replicate k .no++σ) (xs.drop i)=.ok rest/\d++rest=all,⟨xs.length,rfl,apH _,apH _,F1,[],all,(R1.aiP).ahead k,Gr.refl,by simp[RWs],by simpa using hc,rfl⟩,?_⟩;rintro i m o p h⟨rfl,hi,R,l,d,rest,G,w,P,a,f⟩;refine⟨w.h,aq8 (apc R (apc hi hx)) (by decide),?_⟩;by_cases s:i<xs.length;·have hd:=apF s;rw[hd]at a;obtain⟨go,yl⟩:=wk.go i xs[i] (ao5 s) l h w.f G.rb.sub;refine .inr ⟨go,λr x C=>r.length<=i+1/\∃z d rest,RS B.calm (List.replicate k .no++σ) x z C/\Gr F1 H1 z C/\RWs B.K z d r/\WL.bA g tt ta (List.replicate k .no++σ) (xs.drop (i+1))=.ok rest/\d++rest=all,λr x C⟨a1,a2⟩=>⟨xs.length-(i+1),by omega,rfl,s,a1,a2⟩,λv C hy=>?_⟩;obtain⟨z,T,r2⟩:=yl v C hy;simp only[WL.bA]at a;cases A:g xs[i] (List.replicate k .no++σ)with|bad=>rw[A]at a;cases a|ex c=>rw[A]at a;cases a|ok σ1=>
   rw[A]at a;obtain⟨kl,kk⟩:=hg _ _ _ A;refine⟨_,z,xs[i],T.rs _ _ _ G,r2,?_⟩;rw[A];intro q H3 F3 R3 N;have back:∀{t K:Hp},RS B.calm σ1 q t K->RS B.calm (List.replicate k .no++σ) q t K:=λ{t K}E=>E.forget kl.symm λj sl O ne=>by
    by_cases Y:j<k;·rw[apq (by simpa using Y),apT,ao1 Y]at O;exact absurd (apf O).symm ne
    ·rw[kk j (by omega)];exact O
   have n:=T.gr.trans ⟨N.f,N.h rfl,N.nf⟩;have a:((tt σ1).bind λb=>match b with|true=>(ta σ1).bind λy=>(WL.bA g tt ta (List.replicate k .no++σ) (xs.drop (i+1))).bind λo=>.ok (y::o)|false=>WL.bA g tt ta (List.replicate k .no++σ) (xs.drop (i+1)))=.ok rest:=a;cases M:tt σ1 with|bad=>rw[M]at a;cases a|ex c=>rw[M]at a;cases a|ok b=>rw[M]at a;refine⟨σ1,F3,R3,?_⟩;rw[M];intro K t E I;cases b with|false=>rw[ao2 ao7];exact⟨by omega,t,d,rest,back E,w.trans (n.trans I),P.keep (n.trans I).f,a,f⟩|true=>rw[ao1 rfl];have a:=a;cases H:ta σ1 with|bad=>rw[H]at a;cases a|ex c=>rw[H]at a;cases a|ok y=>rw[H]at a;refine⟨σ1,t,E,?_⟩;rw[H];intro u H5 F5 R5 U Z;have a:=a;cases S:WL.bA g tt ta (List.replicate k .no++σ) (xs.drop (i+1))with|bad=>rw[S]at a;cases a|ex c=>rw[S]at a;cases a|ok zs=>rw[S]at a;cases a;exact⟨by rw[apD,aru];omega,F5,d++[y],zs,back R5,w.trans ((n.trans I).trans U),(P.keep ((n.trans I).trans U).f).app (.one Z),rfl,by rw[<-f];simp⟩
 ·have ei:i=xs.length:=by omega
  subst ei;rw[aqC]at a;simp only[WL.bA]at a;cases a;rw[apK]at f;subst f;exact .inl ⟨wk.stop l h w.f G.rb.sub,λD hD=>fin o l h G.rb.ajS w P D hD⟩
def ahg(o:Keeps k g):∀d H Q,lo B (WL.jX k it g tt ta) d H Q->aiY k (loI B it) (loG true B.calm g) (loT B.calm tt) (lo B.calm ta) d H Q:=by
 intro d H Q⟨m,F,R,q⟩;have q:=Rq.bind (Rq.bind q);refine⟨m,F,R,Rq.mono (ar.refl _) q λn a J w u l t wk=>?_⟩;by_cases h:n.length<=WL.lim;·rw[ao1 h]at a;cases e:WL.bA g tt ta (List.replicate k .no++m) n with|bad=>rw[e]at a;exact(a).elim|ex c=>rw[e]at a;exact(a).elim|ok all=>rw[e]at a;refine oN.w (aeQ o l wk h e λp x v i j r D f=>?_);have s:=l.grow j i;exact(a) (.ref D) _ _ (s.new f _) (t.trans (j.trans (Gr.new (i.sub.free f) f _))) (by simp only[RW];exact⟨D,p,rfl,SqL.of ao,r.keep (az (i.sub.free f) _)⟩)
 ·rw[ao2 h]at a;exact(a).elim
variable{scope:Scope}{ts:List Str}{elt:Expr}{ifs:List Expr}
def gh:ahX X [] (loT B WL.nv):=λa s f H Q I c=>by obtain⟨d,F,R,q⟩:=c;exact adQ a s f H Q I ((q) H F R Gr.refl)
def eR(L:CompLook X scope)(n:X.calm=true)(f:ts.length=k)(i:Keeps k g)(m:PI X tg iter (loI B it))(h:∀C a c d,PG (X.comp scope C ts a c d) tg (loG true B.calm g))(j:∀C a c d,ahX (X.comp scope C ts a c d) ifs (loT B.calm tt))(o:∀C a c d,PE (X.comp scope C ts a c d) elt (lo B.calm ta))(l:∀x,foldedSetIterable iter X.env x=pure x:=by intro _;rfl):PE X (.ListComp elt [⟨tg,iter,ifs,0⟩] scope pos) (lo B (WL.jX k it g tt ta)):=by subst f;exact PE.imp (adU L n m h j o l) (ahg i)
def af7 (z:X.K=B.K)(D:Gl X x)(J:X.mg x=none)(I:bootBuiltins x=some (.type "list"))(h:PE X e (lo B ta))(E:x≠"__name__":=by decide)(t:(x==("__debug__":Str))=false:=by decide)(y:starEach [e] X.env=(false,eval e X.env)::starEach [] X.env:=by rfl)(j:(backTo pos (starEach [] X.env)).any (·.1)=false:=by rfl):PE X (.Call (.Name x p) [e] [] pos) (loL B (WL.akh ta)):=PE.imp (q9 kG D J I (aa h ai y) E t y j) λC H Q u=>by obtain⟨i,F,R,q⟩:=u;have q:=Rq.bind q;refine⟨i,F,R,?_⟩;show Rq B i F ((ta i).bind λx=>.ok [x]) _;cases o:ta i with|bad=>rw[o]at q;exact q|ex c=>rw[o]at q;exact q|ok w=>rw[o]at q;intro M N K f A G;obtain⟨v,rfl,d⟩:=cz G;cases w with|lst xs=>simp only[RW]at d;obtain⟨a,m,rfl,s,r⟩:=d;exact⟨a,m,rfl,.inl (by rw[z];exact f.rb.sub.seq s),λl n=>alu f A r n q⟩|tup xs=>simp only[RW]at d;obtain⟨a,m,rfl,s,r⟩:=d;exact⟨a,m,rfl,.inr (by rw[z];exact f.rb.sub.tup s),λl n=>alu f A r n q⟩|_=>exact(q).elim
variable{st:Stmt}{sts rest:List Stmt}{s1 s2:SF}{i:Nat}
def ax:PSs X [] (loS B WL.sNx):=PSs.imp aaO λD a H c=>by obtain⟨d,F,R,q⟩:=c;exact(q) a H F R (ar.refl _)
def aj9:∀D a H,loS B (WL.aK s1 s2) D a H->aiU (loS B s1) (loS B s2) D a H:=λD a H f=>by obtain⟨d,F,R,q⟩:=f;refine⟨d,F,R,?_⟩;have q:Oq B D F (match s1 d with|.nx σ'=>s2 σ'|o=>o):=q;cases e:s1 d with|nx σ'=>rw[e]at q;exact λh m l j s=>⟨σ',l,j,Oq.mono s q⟩|bk σ'=>rw[e]at q;exact q|ct σ'=>rw[e]at q;exact q|rt w=>rw[e]at q;exact q|ex c σ'=>rw[e]at q;exact q|bad=>rw[e]at q;exact q
def ah(a:PS X st (loS B s1))(c:PSs X rest (loS B s2)):PSs X (st::rest) (loS B (WL.aK s1 s2)):=PSs.imp (bN a c) aj9
def ak(a:PS X st (loS B s1)):PSs X [st] (loS B s1):=dP a
def tN:PS X (.Continue pos) (loS B WL.sCt):=PS.imp ur λD a H c=>by obtain⟨d,F,R,q⟩:=c;exact(q) a H F R (ar.refl _)
def af5(j:PE X e (lo B ta))(f:swapsWith e none pos.line X.env=pure false:=by rfl):PS X (.Expr e pos) (loS B (WL.agE ta)):=PS.imp (eY j f) λD a H c=>by obtain⟨m,F,R,q⟩:=c;have q:=Oq.ofR q;exact⟨m,F,R,Rq.mono (ar.refl _) q λw h v d l n g r=>(h) a d l n g.f⟩
def au(h:PE X e (lo B ta)):PS X (.Return (some e) pos) (loS B (WL.bz ta)):=PS.imp (wo h) λD f H a=>by obtain⟨l,F,R,q⟩:=a;have q:=Oq.ofR q;exact⟨l,F,R,Rq.mono (ar.refl _) q λw d v c j m g r=>(d) v c j m.rb g.f r⟩
def zC:PS X (.Return none pos) (loS B WL.agB):=PS.imp agN λD c H a=>by obtain⟨d,F,R,q⟩:=a;exact(q) .non H F R.rb (ar.refl _) (by simp[RW])
def aX (r:PT X c (loT B tt))(p:PSs X a (loS B s1))(o:PSs X d (loS B s2)):PS X (.If c a d pos) (loS B (WL.sIf tt s1 s2)):=PS.imp (agO r p o) λD n H h=>by obtain⟨f,F,R,q⟩:=h;have q:=Oq.ofR q;refine⟨f,F,R,Rq.mono (ar.refl _) q λx l s j m g=>?_⟩;cases x with|true=>rw[ao1 rfl];exact⟨f,j,m,Oq.mono g.f (l)⟩|false=>rw[ao2 ao7];exact⟨f,j,m,Oq.mono g.f (l)⟩
def aj8 (f:∀a H Q,lo B ta a H Q->tV a H Q):∀D a H,loS B (WL.bK i ta) D a H->ai0 tV (L2.aA i) D a H:=λD a H c=>by obtain⟨l,F,R,q⟩:=c;have q:=Oq.ofR q;exact f _ _ _ ⟨l,F,R,Rq.mono (ar.refl _) q λw h v d j m g r=>(h) _ d j (m.set r) g.f⟩
def ahe (f:∀c H Q,loL B l c H Q->tV c H Q):∀D c H,loS B (WL.qT i l) D c H->ai0 tV (L2.aA i) D c H:=λD c H d=>by obtain⟨u,F,R,q⟩:=d;have q:=Oq.ofR q;refine f _ _ _ ⟨u,F,R,Rq.mono (ar.refl _) q λws m a x h p v g w s n r t=>?_⟩;exact(m) _ h p (v.aoA w s n r λj o _ e=>t j o e) g.f
def ais (d:X.N.Nodup)(h:X.N[i]?=some x)(f:Loc X.env.scope x)(j:PE X e (lo B ta))(a:swapsWith e (some (.Name x pos')) pos.line X.env=pure false:=by rfl)(c:X.fn x=true\/X.env.scope.names.lookup x=some .local:=by first|exact .inl rfl|exact .inr rfl|assumption):PS X (.Assign [.Name x pos'] e pos) (loS B (WL.bK i ta)):=PS.imp (qY d h f j a c) (aj8 λ_ _ _ q=>q)
def lA  (d:X.N.Nodup)(h:X.N[i]?=some x)(f:Loc X.env.scope x)(j:PE X e (loL B l))(a:swapsWith e (some (.Name x pos')) pos.line X.env=pure false:=by rfl)(c:X.fn x=true\/X.env.scope.names.lookup x=some .local:=by first|exact .inl rfl|exact .inr rfl|assumption):PS X (.Assign [.Name x pos'] e pos) (loS B (WL.qT i l)):=PS.imp (qY d h f j a c) (ahe λ_ _ _ q=>q)
def ait(p:PE X e (lo B ta))(n:PG X tg (loG false B g))(E:∀w d c,g w d≠.ex c)(l:swapsWithSole [tg] e pos.line X.env=pure false:=by rfl)(hw:swappedStores [tg] e X.env=pure none:=by rfl)(x:(assignEach [tg] X.env).map (·.2)=[assign tg X.env]:=by rfl):PS X (.Assign [tg] e pos) (loS B (WL.anT ta g)):=PS.imp (ajo p n l hw x) λD m H h=>by obtain⟨d,F,R,q⟩:=h;have q:=Oq.ofR q;refine⟨d,F,R,Rq.mono (ar.refl _) q λw f v C s A j r=>⟨d,s,w,A,r,?_⟩⟩;have f:=Oq.ofR f;exact Rq.mono j.f f λz u a y t R2 o=>(u) a y t R2 (j.f.trans o.f)
def zI(G:X.K=B.K)(h:PS X st (x6 (tBM X.K "list" pB (fj i) (lU (lo B ta) aae)))):PS X st (loS B (WL.ah2 i ta)):=PS.imp h λD l H o=>by obtain⟨c,F,R,q⟩:=o;have q:Oq B D F (match c[i]? with|some (.ow ws)=>WL.ofR c (ta c) λw=>if ws.length<WL.lim then .nx (c.set i (.ow (ws++[w])))else .bad|_=>.bad):=q;cases f:c[i]? with|none=>rw[f]at q;exact q.elim|some sl=>rw[f]at q;cases sl with|no=>exact q.elim|va _=>exact q.elim|od _ _=>exact q.elim|ob=>exact q.elim|ow ws=>
   obtain⟨a,r,s,x,y,n,t⟩:=R.ow i ws f;have q:=Oq.ofR (q);refine⟨.ref a,s,.inl ⟨rfl,r,SqL.of n⟩,c,F,R,Rq.mono (ar.refl _) q λw d v E u C j z=>?_⟩;by_cases m:ws.length<WL.lim;·rw[ao1 m]at d;have p:=j.h a _ n;have A:=t.length;refine⟨a,r,v,rfl,rfl,p,by rw[<-A];exact apa m dw,?_⟩;exact(d) l _ u (C.write f s (j.nf a _ n x) y p ((t.keep j.f).app (.one z))) j.f
   ·rw[ao2 m]at d;exact(d).elim
def vD(h:PS X st (loS B s1)):PS X st (loS B (WL.ah1 i s1)):=PS.imp h λD d H a=>by obtain⟨f,F,R,q⟩:=a;obtain⟨c,s,j,_⟩:=R.frz i;exact⟨WL.frz i f,c,j,Oq.mono s (q)⟩
def akb:∀D r H,loS B (WL.nE it g b) D r H->anO (loI B it) (loG false B g) (loS B b) D r H:=λD r H O=>by
 obtain⟨S,F,R,q⟩:=O;have q:=Oq.ofR q;refine⟨S,F,R,Rq.mono (ar.refl _) q λj qx J H1 P R1 g1 wk=>?_⟩;refine⟨λi m h A=>m=j.length-i/\i<=j.length/\∃n o,RS B n h o A/\ar P o/\Oq B D o (WL.forL g b (j.drop i) n),⟨j.length,rfl,apH _,S,P,R1,ar.refl _,by rw[aqR];exact Oq.mono g1.f qx⟩,?_⟩;rintro i m h A⟨rfl,Y,n,o,K,I,z⟩;by_cases u:i<j.length;·have hd:=apF u;rw[hd]at z;obtain⟨go,yl⟩:=wk.go i j[i] (ao5 u) o A I K.rb.sub;refine .inr ⟨go,λa M=>∃p C,RS B p a C M/\ar P C/\Oq B D C (WL.forL g b (j.drop (i+1)) p),λa M U=>⟨j.length-(i+1),by omega,rfl,u,U⟩,λv M hy=>?_⟩;obtain⟨C,N,r2⟩:=yl v M hy;have z:=Oq.ofR (z);refine⟨n,C,j[i],N.rs _ _ _ K,r2,Rq.mono N.same z λE d T H3 Q R3 g3=>?_⟩;refine⟨E,Q,R3,?_⟩;have x:=N.same.trans g3.f;cases y:b E with|nx a=>rw[y]at d;exact λf G t s l=>⟨a,t,s,(I.trans x).trans l,Oq.mono (x.trans l) d⟩|ct a=>rw[y]at d;exact λf G t s l=>⟨a,t,s,(I.trans x).trans l,Oq.mono (x.trans l) d⟩|bk a=>rw[y]at d;exact λf G t s l=>(d) f G t s (x.trans l)|rt w=>rw[y]at d;exact λv4 G t s l=>(d) v4 G t s (x.trans l)|ex c a=>rw[y]at d;exact B.mono c a o Q x d|bad=>rw[y]at d;exact d
 ·have Z:i=j.length:=by omega
  subst Z;rw[aqC]at z;exact .inl ⟨wk.stop o A I K.rb.sub,(z) h A o K (ar.refl _)⟩
def eu (d:PassesOwn (model X.prog X.w) X.A X.env X.xe)(f:X.calm=true)(h:PI X tg iter (loI B it))(c:PG X tg (loG false B g))(j:PSs X body (loS B b))(a:∀x,foldedSetIterable iter X.env x=pure x:=by intro _;rfl):PS X (.For tg iter body [] pos) (loS B (WL.nE it g b)):=PS.imp (wq d f h c j a) akb
def ade  (N:PassesOwn (model X.prog X.w) X.A X.env X.xe)(O:PT X c (loT B tt))(S:PSs X body (loS B b)):PS X (.While c body [] pos) (loS B (WL.aaA n tt b)):=PS.imp (wj N O S) λD K H z=>by obtain⟨J,F,R,q⟩:=z;refine⟨λm j C=>∃f u,RS B f j u C/\Oq B D u (WL.iG tt b m f),⟨n J,J,F,R,q⟩,?_⟩;rintro m j C⟨f,u,Q,y⟩;cases m with|zero=>exact(y).elim|succ m=>have y:=Oq.ofR (y);refine⟨f,u,Q,Rq.mono (ar.refl _) y λx d T A E t=>?_⟩;cases x with|false=>rw[ao2 ao7];exact(d) j T A E t.f|true=>rw[ao1 rfl];refine⟨λl I=>∃a G,RS B a l G I/\Oq B D G (WL.iG tt b m a),λl I M=>⟨m,aqy m,M⟩,f,A,E,?_⟩;have d:=d;cases s:b f with|nx a=>rw[s]at d;exact λh v r o p=>⟨a,r,o,Oq.mono (t.f.trans p) d⟩|ct a=>rw[s]at d;exact λh v r o p=>⟨a,r,o,Oq.mono (t.f.trans p) d⟩|bk a=>rw[s]at d;exact λh v r o p=>(d) h v r o (t.f.trans p)|rt w=>rw[s]at d;exact λP v r o p=>(d) P v r o (t.f.trans p)|ex c a=>rw[s]at d;exact B.mono c a u A t.f d|bad=>rw[s]at d;exact d
end
def spW(K:W.Frag)(n:Nat)(f:List VW->Res VW):Sp:=λd H Q _=>∃F ws,ar F H/\RWs K F ws d/\ws.length=n/\match f ws with|.ok w=>∀v c b,ar F b->ar b c->ar H c->(∀a o,b a=some o->F a=some o\/H a=none/\NF o)->RW K b w v->Q v c|_=>False
section
variable{P:Program}{w:World}{K:W.Frag}{mg:Str->Option Value}{base:Heap}
theorem RS.start{N:List Str}{F H:Hp}{ws:List VW}{vs:List V}(s:ar F H)(r:RWs K F ws vs)(B:ws.length<=N.length):RS ⟨K,H,F,λ_ _ _=>False,λ_ _ _ _ _ h=>h⟩ (ws.map .va++List.replicate (N.length-ws.length) .no) (L2.start N vs) F H:=by
 have q:=r.length;have b:∀{i:Nat}{c:Sl},(ws.map Sl.va++List.replicate (N.length-ws.length) Sl.no)[i]?=some c->c≠.no->∃u,ws[i]?=some u/\c=.va u:=λ{i c}e p=>by
  by_cases d:i<ws.length;·rw[apq (by simpa using d),apo]at e;rw[ao5 d]at e⊢;exact⟨_,rfl,(apf e).symm⟩
  ·rw[apw (by simp;omega)]at e;simp only[apk,apT]at e;split at e;·exact absurd (apf e).symm p
   ·cases e
 refine⟨⟨s,ar.refl _,ar.refl _,λa o h=>.inl h⟩,by simp[L2.start,q],λi u e=>?_,λi f e=>?_,λi j f g a l k y _ _=>?_,λi n f e=>?_,λi j n f t g a l k y _ _=>?_,λi e=>?_⟩;rotate_left 3;·obtain⟨x,ex,h⟩:=b e (by intro z;cases z);cases h
 ·obtain⟨x,ex,h⟩:=b k (by intro z;cases z);cases h
 ·obtain⟨x,ex,h⟩:=b e (by intro z;cases z);cases h
 ·obtain⟨x,ex,h⟩:=b e (by intro z;cases z);cases h;obtain⟨v,m,A⟩:=r.get ex;refine⟨v,?_,A⟩;have d:i<vs.length:=(ao3.mp m).1;unfold L2.start;rw[apq (by simpa using d),apo,m];rfl
 ·obtain⟨x,ex,h⟩:=b e (by intro z;cases z);cases h
 ·obtain⟨x,ex,h⟩:=b k (by intro z;cases z);cases h
end
section
variable{X:Cx}{B:Bx}{k:Nat}{f:Addr}{fd:FuncData}{ps:List Str}{fn:List VW->Res VW}{x:Str}{p pos:Pos}{e:Expr}{es:List Expr}{tas:AF}{n:Nat}
def abw(M:X.K=B.K){E:XK}(I:∀h ws,tas h=.ok ws->ws.length=n):∀b H Q,lo B (WL.ay fn tas) b H Q->ags (spW X.K n fn) [] E (loA B tas) b H Q:=by intro b H Q⟨h,F,R,q⟩;have q:=Rq.bind q;refine⟨h,F,R,?_⟩;cases j:tas h with|bad=>rw[j]at q;exact q|ex c=>rw[j]at q;exact q|ok ws=>rw[j]at q;intro P K u d D J;rw[apK,M];refine⟨u,ws,d.rb.sub,J,I h ws j,?_⟩;have g:Rq B h F (match fn ws with|.ok w=>.ok w|_=>.bad) _:=q;cases l:fn ws with
|bad=>rw[l]at g;exact g.elim|ex c=>rw[l]at g;exact g.elim
|ok w=>rw[l]at g;intro v r i y N A fr C;have t:Gr u K i r:=⟨y,A,λa o G m=>by cases s:i a with|none=>rfl|some o2=>
  rcases fr a o2 s with z|z;·rw[m]at z;cases z
  ·rw[G]at z;cases z.1⟩;have O:RB B i r:=⟨N,d.rb.base.trans A,d.rb.fz0.trans y,λa o s=>by
  rcases fr a o s with z|z;·exact d.rb.fr a o z
  ·exact .inr ⟨d.rb.base.free z.1,z.2⟩⟩;exact g v r i (d.grow t O) (D.trans t) C
def zQ(q:X.K=B.K)(F:FnOk X.prog X.w X.K X.mg X.base CX0 k f fd ps (spW X.K n fn))(h:Room k X.A)(d:Gl X x)(g:X.mg x=some (.ref f))(c:W.keepIn X.K (.ref f)=true)(m:Binds X.K fd ps [])(l:PA X (e::es) (loA B tas))(i:∀j ws,tas j=.ok ws->ws.length=n)(b:(x==("__debug__":Str))=false:=by decide)(o:starEach (e::es) X.env=(false,eval e X.env)::starEach es X.env:=by rfl)(a:(backTo pos (starEach es X.env)).any (·.1)=false:=by rfl):PE X (.Call (.Name x p) (e::es) [] pos) (lo B (WL.ay fn tas)):=PE.imp (agU F h d g c m .nil ajE l b o a) (abw q i)
def adk(m:X.K=B.K)(F:FnOk X.prog X.w X.K X.mg X.base CX0 k f fd ps (spW X.K 0 fn))(i:Room k X.A)(d:Gl X x)(g:X.mg x=some (.ref f))(c:W.keepIn X.K (.ref f)=true)(l:Binds X.K fd ps [])(b:(x==("__debug__":Str))=false:=by decide):PE X (.Call (.Name x p) [] [] pos) (lo B (WL.ay fn WL.av)):=PE.imp (adY F i d g c l .nil ajE b) λa H Q q=>by have h:=abw (E:=E0) m (λj ws e=>by cases e;rfl) a H Q q;obtain⟨j,F,R,h⟩:=h;exact(h) [] H F R Gr.refl (by simp[RWs])
def eQ:∀(σ:Ws)(ws:List VW),WL.av σ=.ok ws->ws.length=0:=λσ ws e=>by cases e;rfl
def aL (h:∀(σ:Ws)(ws:List VW),tas σ=.ok ws->ws.length=n):∀(σ:Ws)(ws:List VW),WL.ae t tas σ=.ok ws->ws.length=n+1:=λσ ws q=>by have q:((t σ).bind λx=>(tas σ).bind λd=>.ok (x::d))=.ok ws:=q;cases b:t σ with|bad=>rw[b]at q;cases q|ex c=>rw[b]at q;cases q|ok x=>rw[b]at q;have q:=q;cases a:tas σ with|bad=>rw[a]at q;cases q|ex c=>rw[a]at q;cases q|ok d=>rw[a]at q;cases q;simp[h σ d a]
end
def aam(K:W.Frag):Sp:=λd H Q _=>∃(a:Addr)(b:List Int),d=[.ref a]/\SqL K H a (b.map V.int)/\b.length<=63/\∀c,Q (.bl true) c
def akf{P:Program}{w:World}{K:W.Frag}{g:Str->Option Value}{b:Heap}{k:Nat}{f:Addr}{i:FuncData}{ps:List Str}{j:List VW->Res VW}(G:FnOk P w K g b CX0 k f i ps (spW K 1 j))(h:∀c:List Int,c.length<=63->j [.lst (c.map .int)]=.ok (.bl true)):FnOk P w K g b CX0 k f i ps (aam K):=G.imp λo H Q E d=>by obtain⟨a,c,e,m,n,q⟩:=d;subst e;refine⟨H,[.lst (c.map .int)],ar.refl _,.one (by simp only[RW];exact⟨a,_,rfl,m,RWs.ints c⟩),rfl,?_⟩;rw[h c n];intro v l p _ _ _ _ r;simp only[RW]at r;subst r;exact q l
section
variable{X:Cx}{K:W.Frag}
def qj:∀a c,WL.ac0 a≠.ex c:=λa c h=>by
 unfold WL.ac0 at h;split at h;·split at h<;>cases h
 ·cases h
theorem acV{F:Hp}:∀{xs:List VW}{vs:List V}{b:Bool},RWs K F xs vs->WL.allB xs=some b->∃bs:List Bool,vs=bs.map V.bl/\bs.all id=b|[],vs,b,r,e=>by simp only[RWs]at r;subst r;simp only[WL.allB]at e;cases e;exact⟨[],rfl,rfl⟩|x::xs,vs,b,r,e=>by simp only[RWs]at r;obtain⟨v,t,rfl,q,s⟩:=r;cases x with
 |bl k=>simp only[WL.allB]at e;cases a:WL.allB xs with|none=>rw[a]at e;cases e|some c=>rw[a]at e;cases e;obtain⟨bs,rfl,h⟩:=acV s a;simp only[RW]at q;subst q;exact⟨k::bs,rfl,by simp only[List.all_cons,id,h]⟩
 |_=>simp[WL.allB]at e
def w_all(g:X.calm=true)(k:X.K=K):bJ X (.builtin "all") (loN K WL.ac0):=by subst k;refine bJ.imp (acR g) λo H Q f=>?_;obtain⟨F,ws,s,r,q⟩:=f;cases e:WL.ac0 ws with|bad=>rw[e]at q;exact q.elim|ex c=>rw[e]at q;exact q.elim|ok w=>
  rw[e]at q;unfold WL.ac0 at e;split at e
  ·rename_i n;split at e;·rename_i b i;cases e;obtain⟨v,rfl,h⟩:=cz r;simp only[RW]at h;obtain⟨a,m,rfl,l,j⟩:=h;obtain⟨bs,rfl,d⟩:=acV j i;subst d;exact⟨a,bs,rfl,s.seq l,eq1 q (by simp[RW])⟩
   ·cases e
  ·cases e
end
section
variable{X:Cx}{B:Bx}{K:W.Frag}{o e:Expr}{es:List Expr}{to ta:EF}{tas:AF}{pos apos cpos:Pos}
def ahE{P:Program}{w:World}{K:W.Frag}{l:Str->Option Value}{c:Heap}{x b:Str}{st:Stmt}{f:Addr}{i:FuncData}{N ps:List Str}{k m:Nat}(y:Fun K x b st f i)(S:FnScope N ps (af st))(v:ps.length=m):FnOk P w K l c CX0 k f i ps (spW K m λ_=>.bad):=⟨λj H Q E a=>by obtain⟨_,_,_,_,_,h⟩:=a;exact h.elim,λA d s H g q j Q E n t r p u a=>by obtain⟨_,_,_,_,_,h⟩:=a;exact h.elim⟩
def afF{F:Hp}:∀k u,WL.k8 k [] []=some u->∃v,List.lookup k ([]:List (Str×V))=some v/\RW K F u v:=λk u h=>by simp[WL.k8]at h
def gD{F:Hp}{x:Str}{c:VW}{a:V}{ks vs:List VW}{kvs:List (Str×V)}(i:RW K F c a)(h:∀k u,WL.k8 k ks vs=some u->∃v,kvs.lookup k=some v/\RW K F u v):∀k u,WL.k8 k (.str x::ks) (c::vs)=some u->∃v,List.lookup k ((x,a)::kvs)=some v/\RW K F u v:=λk u e=>by
 simp only[WL.k8]at e;by_cases b:x=k;·subst b;simp at e;subst e;exact⟨a,by simp[List.lookup],i⟩
 ·have d:(x==k)=false:=by simpa using b
  have f:(k==x)=false:=by simpa using ape b
  rw[d]at e;obtain⟨v,j,g⟩:=h k u (by simpa using e);exact⟨v,by simp only[List.lookup,f];exact j,g⟩
def aiz{a i:Expr}{d:EF}{a0:Addr}{kvs:List (Str×V)}{ks vs:List VW}(E:X.K=B.K)(n:PE X a (tC (.ref a0)))(D:acW X.w X.K a0 kvs)(x:PE X i (lo B d))(p:∀F k w,WL.k8 k ks vs=some w->∃v,kvs.lookup k=some v/\RW B.K F w v)(m:j6 i):PE X (.Subscript a i pos) (lo B (WL.eOp WL.oIx (WL.eC (.dic ks vs)) d)):=PE.imp (ajB (aep D) n x m) λj H Q f=>by obtain⟨c,F,R,q⟩:=f;have q:=Rq.bind (show Rq B c F ((d c).bind λy=>WL.oIx (.dic ks vs) y) _ from q);refine⟨c,F,R,Rq.mono (ar.refl _) q λy b v s g r z h=>?_⟩;cases y with
 |str k=>have b:Rq B c F (WL.ofO (WL.k8 k ks vs)) _:=b;cases e:WL.k8 k ks vs with|none=>rw[e]at b;exact b.elim|some w=>rw[e]at b;obtain⟨u,t,l⟩:=p g k w e;simp only[RW]at h;exact⟨rfl,k,u,h,t,(show∀v A C,_ from b) u s g r z l⟩
 |_=>exact(show False from b).elim
end
end WS
set_option autoImplicit true
set_option relaxedAutoImplicit true
namespace WS
open PySem PySem.Spec PyProof.Rows L2
open WL(Res Sl Ws EF TF AF LF GF GsF SF Out)
def XR(K:W.Frag)(F:Hp):VW->Addr->Option Addr->Prop|.exc nm fs,C,dx=>ExcAt K nm C/\∃a:List (Str×V),a.map (·.1)=WL.fieldsOf nm/\RWs K F fs (a.map (·.2))/\(a=[]/\dx=none\/∃d,dx=some d/\F d=some (.xd a))|_,_,_=>False
theorem XR.keep{K:W.Frag}{F F':Hp}(s:ar F F'){c:VW}{C:Addr}{dx:Option Addr}(h:XR K F c C dx):XR K F' c C dx:=by cases c with|exc nm fs=>obtain⟨e,a,f,k,g⟩:=h;exact⟨e,a,f,k.keep s,g.imp (λz=>z) λb=>by obtain⟨d,i,j⟩:=b;exact⟨d,i,s _ _ j⟩⟩|_=>exact h
def XR.is{K:W.Frag}{F:Hp}{c:VW}{C:Addr}{dx:Option Addr}(h:XR K F c C dx):∃a fs,c=.exc a fs/\ExcAt K a C:=by cases c with|exc a fs=>exact⟨a,fs,rfl,h.1⟩|_=>exact h.elim
def XW(X:Cx)(B:Bx):Prop:=∀(b:List (Addr×Obj))(a:L2.St)(H:Hp)(s:Shared)(d:Ws)(F:Hp)(c:VW),RS B d a F H->B.xp c d F->∀(e C:Addr)(f T:Option Addr)(g:Value),Thr X b a H s e C f g T->XR X.K F c C f->X.xe (.ref e) s
abbrev Bx.nY(B:Bx)(a:VW->Ws->Hp->Prop)(mono:∀c b F d,ar F d->a c b F->a c b d):Bx:=⟨B.K,B.H0,B.F0,a,mono⟩
abbrev Bx.never(B:Bx):Bx:=B.nY (λ_ _ _=>False) λ_ _ _ _ _ h=>h
def oO (h:∀c a F,¬B.xp c a F):XW X B:=λ_ _ _ _ a F c _ q=>(h c a F q).elim
section
variable{B B':Bx}{σ:Ws}{σV:L2.St}{F H:Hp}
def RB.box(R:RB B F H)(b:B'.H0=B.H0)(c:B'.F0=B.F0):RB B' F H:=⟨R.sub,b▸R.base,c▸R.fz0,λa o e=>by rw[b,c];exact R.fr a o e⟩
theorem RS.box(R:RS B σ σV F H)(b:B'.K=B.K)(a:B'.H0=B.H0)(c:B'.F0=B.F0):RS B' σ σV F H:=⟨R.rb.box a c,R.len,λi w e=>by rw[b];exact R.va i w e,λi ws e=>by rw[b,a];exact R.ow i ws e,R.ap,by rw[b,a];exact R.dd⟩
end
section
variable{X:Cx}{B:Bx}{k:Nat}{f:Addr}{fd:FuncData}{ps:List Str}{fn:List VW->Res VW}{x:Str}{p pos np hpos cpos:Pos}{e:Expr}{es:List Expr}{tas:AF}{n:Nat}{st:Stmt}
def spX(K:W.Frag)(n:Nat)(f:List VW->Res VW):Sp:=λh H Q E=>∃F ws,ar F H/\RWs K F ws h/\ws.length=n/\match f ws with|.ok w=>∀v d b,ar F b->ar b d->ar H d->(∀a o,b a=some o->F a=some o\/H a=none/\NF o)->RW K b w v->Q v d|.ex c=>∀C g d b,ar F b->ar b d->ar H d->(∀a o,b a=some o->F a=some o\/H a=none/\NF o)->XR K b c C g->E (.ref C) g d|.bad=>False
def aej(P:X.K=B.K)(hx:XW X B)(hn:∀h ws,tas h=.ok ws->ws.length=n):∀d H Q,lo B (WL.cL fn tas) d H Q->aag X (spX X.K n fn) [] (loA B tas) d H Q:=by intro d H Q⟨h,F,R,q⟩;have q:=Rq.bind q;refine⟨h,F,R,?_⟩;cases D:tas h with|bad=>rw[D]at q;exact q|ex c=>rw[D]at q;exact q|ok ws=>
 rw[D]at q;have q:Rq B h F (fn ws) _:=q;intro vs K y i O r1;rw[apK,P];have ext:∀{b g:Hp},ar y b->ar b g->ar K g->(∀a o,b a=some o->y a=some o\/K a=none/\NF o)->Gr y K b g/\RB B b g:=λ{b g}j r l fr=>by
  refine⟨⟨j,l,λa o eh I=>?_⟩,r,i.rb.base.trans l,i.rb.fz0.trans j,λa o M=>?_⟩;·cases M:b a with|none=>rfl|some o2=>
    rcases fr a o2 M with z|z;·rw[I]at z;cases z
    ·rw[eh]at z;cases z.1
  ·rcases fr a o M with z|z;·exact i.rb.fr a o z
   ·exact .inr ⟨i.rb.base.free z.1,z.2⟩
 refine⟨λC A g=>∃G b c,C=.ref G/\RS B h d b g/\B.xp c h b/\XR B.K b c G A,⟨y,ws,i.rb.sub,r1,hn h ws D,?_⟩,λm s e C A T S t⟨G,b,c,U,R2,Y,J⟩=>?_⟩;·cases E:fn ws with|bad=>rw[E]at q;exact q.elim|ok w=>rw[E]at q;intro v g b j r l fr Z;obtain⟨u,N⟩:=ext j r l fr;exact q v g b (i.grow u N) (O.trans u) Z|ex c=>rw[E]at q;intro C A g b j r l fr J;obtain⟨u,N⟩:=ext j r l fr;exact⟨C,b,c,rfl,i.grow u N,B.mono c h F b (O.f.trans j) q,J⟩
 ·cases U;exact hx m d S s h b c R2 Y e C A (some T) _ t (by rw[P];exact J)
def adj(r:X.K=B.K)(i:XW X B)(F:FnOk X.prog X.w X.K X.mg X.base (CXX X.prog X.w) k f fd ps (spX X.K n fn))(h:Room k X.A)(d:Gl X x)(g:X.mg x=some (.ref f))(c:W.keepIn X.K (.ref f)=true)(o:Binds X.K fd ps [])(m:PA X (e::es) (loA B tas))(j:∀l ws,tas l=.ok ws->ws.length=n)(b:(x==("__debug__":Str))=false:=by decide)(q:starEach (e::es) X.env=(false,eval e X.env)::starEach es X.env:=by rfl)(a:(backTo pos (starEach es X.env)).any (·.1)=false:=by rfl):PE X (.Call (.Name x p) (e::es) [] pos) (lo B (WL.cL fn tas)):=PE.imp (wF F h d g c o .nil m b q a) (aej r i j)
def ez:PS X st (loS B WL.uj):=λb s c H D I a=>by obtain⟨d,F,R,q⟩:=a;exact(q).elim
def adf (K:X.K=B.K)(m:XW X B)(o:X.calm=true)(l:Gl X x)(E:X.mg x=some (.ref C))(q:W.excIn X.K C cP "ValueError.__new__"=true)(G:ExcAt X.K nm C)(A:WL.fieldsOf nm=[])(r:PA X (e::es) (loA B tas))(z:(x==("__debug__":Str))=false:=by decide)(v:starEach (e::es) X.env=(false,eval e X.env)::starEach es X.env:=by rfl)(a:(backTo cpos (starEach es X.env)).any (·.1)=false:=by rfl):PS X (.Raise (some (.Call (.Name x np) (e::es) [] cpos)) none pos) (loS B (WL.afc nm tas)):=PS.imp (adO o l E q r z v a) λD d H i=>by
 obtain⟨h,F,R,q⟩:=i;have q:=Oq.ofR q;refine⟨h,F,R,Rq.mono (ar.refl _) q λws c J w j y I u=>?_⟩;by_cases g:ws.length<=100;·rw[ao1 g]at c;refine⟨by rw[<-u.length];exact apc g (by decide),λb s e t=>?_⟩;exact m b d w s h j (.exc nm []) y (B.mono _ h F j I.f c) e C none none _ t ⟨G,[],by rw[A];rfl,by simp[RWs],.inl ⟨rfl,rfl⟩⟩
 ·rw[ao2 g]at c;exact(c).elim
theorem Oq.box  (j:B'.K=B.K)(i:B'.H0=B.H0)(l:B'.F0=B.F0)(m:∀c d,o=.ex c d->B'.xp c d F)(h:Oq B D F o):Oq B' D F o:=by cases o with|nx d=>exact λa b g R s=>h a b g (R.box j.symm i.symm l.symm) s|bk d=>exact λa b g R s=>h a b g (R.box j.symm i.symm l.symm) s|ct d=>exact λa b g R s=>h a b g (R.box j.symm i.symm l.symm) s|rt w=>exact λv b g R s r=>h v b g (R.box i.symm l.symm) s (by rw[<-j];exact r)|ex c d=>exact m c d rfl|bad=>exact h
def aeY{r b:List Stmt}{N:Stmt}{C:Addr}{d:String}{tb th:SF}(hK:X.K=B.K)(hs:X.stack=X.env::X.outer)(hf:X.env.frame=some X.env.locals)(hg:Gl X x)(hm:X.mg x=some (.ref C))(hc:∀m Ca,ExcAt X.K m Ca->W.exmOne X.K (.ref Ca) (.ref C)=some (WL.kX m d))(hb:∀(E:Value->Shared->Prop)(pn:List (Addr×Obj))(B':Bx),B'.K=X.K->XW (X.tri E pn) B'->PassesOwn (model X.prog X.w) X.A X.env E->PSs (X.tri E pn) r (loS B' tb))(hh:∀(e:Addr)(B':Bx),B'.K=X.K->XW (X.sui e) B'->PSs (X.sui e) (N::b) (loS B' th))(hd:(x==("__debug__":Str))=false:=by decide):PS X (.Try r [.ExceptHandler (some (.Name x np)) none (N::b) hpos] [] [] pos) (loS B (WL.ai7 tb d th)):=by
 intro g s S H D I⟨Q,F,R,q⟩;refine wpAny_Try_except ?_;let Y:Value->Shared->Prop:=λe y=>wpAny (model X.prog X.w) X.A (noteFrame e X.env) (λ_ G=>wpAny (model X.prog X.w) X.A (setFlight e none) (λ_ A=>wpAny (model X.prog X.w) X.A (handleBy e X.env [.ExceptHandler (some (.Name x np)) none (N::b) hpos]) (SP X g D) X.xe A) X.xe G) X.xe y;let v:Bx:=B.nY (λc l Z=>Oq B D Z (WL.hOut d th c l)) λc l Z a0 s h=>Oq.mono s h;have xw:XW (X.tri Y (X.pn++g)) v:=by
  intro O K H1 s1 i F1 c R1 a e Ce dx T U t xr;have t2:=t.gi;obtain⟨m,fs,rfl,ce⟩:=xr.is;have a:Oq B D F1 (WL.hOut d th (.exc m fs) i):=a;have ex:=hc m Ce ce
  cases u:WL.kX m d with|false=>
   have:WL.hOut d th (.exc m fs) i=.bad:=by simp[WL.hOut,WL.jZ,u]
   rw[this]at a;exact a.elim|true=>
   have hO:WL.hOut d th (.exc m fs) i=(match th i with|.ex _ _=>.bad|o=>o):=by unfold WL.hOut;rw[show WL.jZ d (.exc m fs)=true from u];rfl
   rw[hO]at a;rw[u]at ex;refine t2.note hs hf λh' T' _ t3=>t3.sd λa1 t4=>uY t4 hg hm ex (λh3 t5=>?_) hd;have J:=t5.inv;let M:Bx:=B.never;have P:=hh e M hK.symm (oO λ_ _ _ z=>z);refine apx (P g _ K H1 D (J.sui e) ⟨i,F1,R1.box rfl rfl rfl,?_⟩) (λU s' h=>SP.back J h) λ_ _ z=>z;cases j:th i with|ex c2 σ2=>rw[j]at a;exact a.elim|nx σ2=>rw[j]at a;exact Oq.box (B:=B) (B':=M) rfl rfl rfl (λ_ _ z=>by cases z) a|bk σ2=>rw[j]at a;exact Oq.box (B:=B) (B':=M) rfl rfl rfl (λ_ _ z=>by cases z) a|ct σ2=>rw[j]at a;exact Oq.box (B:=B) (B':=M) rfl rfl rfl (λ_ _ z=>by cases z) a|rt w=>rw[j]at a;exact Oq.box (B:=B) (B':=M) rfl rfl rfl (λ_ _ z=>by cases z) a|bad=>rw[j]at a;exact a
 have P:=hb Y (X.pn++g) v hK.symm xw PassesOwn.looking;refine apx (P [] s S H D (I.tri Y) ⟨Q,F,R.box rfl rfl rfl,?_⟩) (λU s' h=>?_) λ_ _ z=>z;·have q:Oq B D F (match tb Q with|.ex c l=>WL.hOut d th c l|o=>o):=q;cases j:tb Q with|ex c l=>rw[j]at q;exact q|nx σ2=>rw[j]at q;exact Oq.box (B:=B) (B':=v) rfl rfl rfl (λ_ _ z=>by cases z) q|bk σ2=>rw[j]at q;exact Oq.box (B:=B) (B':=v) rfl rfl rfl (λ_ _ z=>by cases z) q|ct σ2=>rw[j]at q;exact Oq.box (B:=B) (B':=v) rfl rfl rfl (λ_ _ z=>by cases z) q|rt w=>rw[j]at q;exact Oq.box (B:=B) (B':=v) rfl rfl rfl (λ_ _ z=>by cases z) q|bad=>rw[j]at q;exact q
 ·have h:=SP.gi h;cases U with|next=>exact aqG h|_=>exact h
end
section
variable{P:Program}{w:World}{K:W.Frag}{mg:Str->Option Value}{base:Heap}
def u5{x a:Str}{st:Stmt}{f:Addr}{C:FuncData}{N ps:List Str}{k m n:Nat}{I:List VW->Res VW}(t:SF)(M:Fun K x a st f C)(S:FnScope N ps (af st))(R:N.length=n)(d:ps.length=m)(u:WL.run n t=I)(U:ps.length<=N.length)(h:∀(g:Value)(A:Around)(b:List Env)(s:Shared)(H:Hp)(E:XK)(B:Bx),B.K=K->Room k (A.deeper (envOfC a (af st) s.heap.objs.size f g))->XW (ff CX0 P w K mg base N a (af st) f g A b s H E).nox B->PassesOwn (model P w) (A.deeper (envOfC a (af st) s.heap.objs.size f g)) (envOfC a (af st) s.heap.objs.size f g) (λ_ _=>False)->PSs (ff CX0 P w K mg base N a (af st) f g A b s H E).nox (aH st) (loS B t)):FnOk P w K mg base CX0 (k+1) f C ps (spW K m I):=by subst R d u;refine M.ok S (λT H Q E i=>by obtain⟨F,ws,_,r,D,_⟩:=i;rw[<-r.length];exact D) λg A b s H T Q E O i=>?_;obtain⟨F,ws,J,r,D,d⟩:=i;refine⟨_,h g A b s H E ⟨K,H,F,λ_ _ _=>False,λ_ _ _ _ _ h=>h⟩ rfl O (oO λ_ _ _ z=>z) PassesOwn.never,_,F,RS.start J r (by omega),?_⟩;unfold WL.run at d;cases e:t (ws.map .va++List.replicate (N.length-ws.length) .no)with|rt w=>rw[e]at d;exact λv j o y l p=>d v j o l y.sub y.base y.fr p|nx σ'=>rw[e]at d;exact λG j o q l=>d .non j o l q.rb.sub q.rb.base q.rb.fr (by simp[RW])|bk σ'=>rw[e]at d;exact d.elim|ct σ'=>rw[e]at d;exact d.elim|ex c σ'=>rw[e]at d;exact d.elim|bad=>rw[e]at d;exact d.elim
def ack{x b:Str}{st:Stmt}{f:Addr}{M:FuncData}{N ps:List Str}{k m n:Nat}{J:List VW->Res VW}(t:SF)(Fn:Fun K x b st f M)(S:FnScope N ps (af st))(hn:N.length=n)(g:ps.length=m)(I:WL.run n t=J)(a1:ps.length<=N.length)(h:∀(d:Value)(A:Around)(a:List Env)(s:Shared)(H:Hp)(E:XK)(B:Bx),B.K=K->Room k (A.deeper (envOfC b (af st) s.heap.objs.size f d))->XW (ff (CXX P w) P w K mg base N b (af st) f d A a s H E) B->PassesOwn (model P w) (ff (CXX P w) P w K mg base N b (af st) f d A a s H E).A (ff (CXX P w) P w K mg base N b (af st) f d A a s H E).env (ff (CXX P w) P w K mg base N b (af st) f d A a s H E).xe->PSs (ff (CXX P w) P w K mg base N b (af st) f d A a s H E) (aH st) (loS B t)):FnOk P w K mg base (CXX P w) (k+1) f M ps (spX K m J):=by subst hn g I;obtain⟨oc,od,kV,Z,pm,an,d,ct,a0,rfl,lk,D⟩:=Fn.ex;refine u1 lk D S (λvs H Q E p=>by obtain⟨F,ws,_,r,O,_⟩:=p;rw[<-r.length];exact O) λA a s H vs Q E hr _ p=>?_;obtain⟨F,ws,sm,r,O,g⟩:=p;let R:Bx:=⟨K,H,F,λ_ _ _=>False,λ_ _ _ _ _ h=>h⟩;let B1:Bx:=R.nY (λc _ u=>∀C l j i,ar u i->RB R i j->XR K i c C l->E (.ref C) l j) λc σ u F2 s h C l j i o=>h C l j i (s.trans o);refine⟨_,h d A a s H E B1 rfl hr (λU Y H1 s1 σ u c R1 xp e C l T fl t G=>jN t (xp C l H1 u (ar.refl _) (R1.rb.box rfl rfl) G)) aqO,_,F,(RS.start sm r (by omega)).box rfl rfl rfl,?_⟩;unfold WL.run at g;cases e:t (ws.map .va++List.replicate (N.length-ws.length) .no)with|rt w=>rw[e]at g;exact λv j i q o y=>g v j i o q.sub q.base q.fr y|nx σ'=>rw[e]at g;exact λX j i z o=>g .non j i o z.rb.sub z.rb.base z.rb.fr (by simp[RW])|bk σ'=>rw[e]at g;exact g.elim|ct σ'=>rw[e]at g;exact g.elim|ex c σ'=>rw[e]at g;exact λC l j i o q G=>g C l j i o q.sub q.base q.fr G|bad=>rw[e]at g;exact g.elim
end
end WS
namespace L2
open PySem PySem.Spec PyProof.Rows
open PySem.W(findIn mroIn findObj specialIn takesIn clsIn hasDictIn KitX looks_findIn looks_mroIn looks_find)
section
variable{prog:Program}{w:World}{A:Around}{E:Value->Shared->Prop}{s:Shared}{K:W.Frag}{x D:Addr}{ox:Obj}{od:Option Obj}{name:Str}
structure ExcK(K:W.Frag)(D:Addr):Prop where
 cls:(clsIn K D).isSome=true
 ga:findIn K (.ref D) "__getattribute__"=some (some (.builtin "BaseException.__getattribute__"))gn:findIn K (.ref D) "__getattr__"=some none
 mb:mroIn K D (.type "BaseException")=some true
 mo:mroIn K D (.type "object")=some true
 cl:findIn K (.ref D) "__class__"=some (some (.builtin "object.__class__"))hn:specialIn K (.builtin "object.__class__") "__get__"=some (some (.builtin "getset_descriptor.__get__"))tk:takesIn K (.builtin "object.__class__")=some true
end
end L2
namespace L2
open PySem PySem.Spec PyProof.Rows
noncomputable abbrev gc(C:Addr)(dx:Option Addr)(a0:Value):Obj:={cls:=.ref C,dict:=dx,data:=.fields #[a0,.none,.none,.none,.bool false,.none]}
def jW(e C:Addr)(dx:Option Addr)(h:Heap):Prop:=∃a,h.get? e=some (gc C dx a)
section
variable{prog:Program}{w:World}{A:Around}{E:Value->Shared->Prop}{env:Env}
variable{nm q:Str}{C N:Addr}{bs bm bmB:List Value}{hdct:Bool}{sn:List Str}{sub:List Value}{ab:Bool}{col:Option Bool}{dd:Option Addr}{k0 k1 k2 k3 k5:Option Value}{B newId initId:String}
def nF{s:Shared}{x:Sem Value}{Q:Flow->Shared->Prop}(b:bm.contains (.type "BaseException")=true)(l:A.handled=none)(h:wpAny (model prog w) A x (λv a=>∃e j i,v=.ref e/\a.heap.get? C=some (excClassObj nm q C N bs bm hdct sn sub ab col dd k0 k1 k2 k3 k5 newId)/\a.heap.get? e=some (gc C j i)/\E (.ref e) a) E s):wpAny (model prog w) A (raiseStmt env (some x) none) Q E s:=by
 have f:(Value.ref C::bm).contains (.type "BaseException")=true:=by rw[List.contains_cons,b,Bool.or_true]
 unfold raiseStmt;refine aoY (apx h (λv a c=>?_) λ_ _ x=>x);obtain⟨e,j,i,rfl,k,m,n⟩:=c;obtain⟨o,g,d,tk,os⟩:=a;repeat(first|with_reducible refine aqP m ?_|with_reducible refine aqP k ?_|(with_reducible refine wpAny_isSubtype_exc k ?_;rw[f])|wp_step)
 exact wpAny_raiseNew_none l n
variable{h:Heap}{g:Array GenState}{d:Drawn}{t:Nat}{os:OsState}
def lE(F:ExcBaseFacts B newId initId bmB)(T:OwnTail h bmB bm){mN:Str->Option Value}{rest:List Value}{fI:Addr}{s:Obj}{Q:Fin->Shared->Prop}(k:h.get? C=some (excClassObj nm q C N bs bm hdct sn sub ab col dd k0 k1 k2 k3 k5 newId))(y:h.Ns N mN)(I:mN "__init__"=some (.ref fI))(l:h.get? fI=some s)(m:s.cls=.type "function")(z:∀h' e,Heap.MadeExcOf h h' e (.ref C) rest->wpAny (model prog w) A (call (.ref fI) (.ref e::rest)) (λr p=>r=.none/\Q (.done (.ret (.ref e))) p) E ⟨h',g,d,t,os⟩)(hrest:rest.length<=sizeLine:=by size_fits):wpAny (model prog w) A (Builtin.«type.__call__» ⟨.ref C::rest,[]⟩) Q E ⟨h,g,d,t,os⟩:=by
 repeat(first|with_reducible refine aqP k ?_|with_reducible refine wpAny_madeBy_exc k ?_|wp_step)
 refine codeAny_call_builtin_code (Code.quiet_builtin _ F.quiet) (wpAny_check_new_subT F T k ?_);refine codeAny_exc_new_subT F T k ?_ hrest;show wpAny _ _ _ _ _ _;have a:=aoZ {cls:=.ref C,data:=.fields #[.ref h.objs.size,.none,.none,.none,.bool false,.none]} (aoZ {cls:=.type "tuple",data:=.seq rest.toArray} k);have c:=aoZ {cls:=.ref C,data:=.fields #[.ref h.objs.size,.none,.none,.none,.bool false,.none]} (aoZ {cls:=.type "tuple",data:=.seq rest.toArray} l);have i:((h.push {cls:=.type "tuple",data:=.seq rest.toArray}).push {cls:=.ref C,data:=.fields #[.ref h.objs.size,.none,.none,.none,.bool false,.none]}).Ns N mN:=let⟨o,G,H,e,r⟩:=y;⟨o,G,H,aoZ _ (aoZ _ e),r⟩;have f:((h.push {cls:=.type "tuple",data:=.seq rest.toArray}).push {cls:=.ref C,data:=.fields #[.ref h.objs.size,.none,.none,.none,.bool false,.none]}).get? (h.objs.size+1)=some {cls:=.ref C,data:=.fields #[.ref h.objs.size,.none,.none,.none,.bool false,.none]}:=by heap_get
 have n:(Value.ref C::bm).contains (.ref C)=true:=by simp
 have j:=T.keeps (h':=(h.push {cls:=.type "tuple",data:=.seq rest.toArray}).push {cls:=.ref C,data:=.fields #[.ref h.objs.size,.none,.none,.none,.bool false,.none]}) λb o e=>aoZ _ (aoZ _ e);unfold isInstance;repeat(first|with_reducible refine aqP f ?_|(with_reducible refine wpAny_isSubtype_exc a ?_;rw[n])|wp_step)
 show wpAny _ _ (typeLookup (.ref C) _) _ _ _;refine wpAny_typeLookup_tail a i j F.mroIs F.init.lookup ?_;rw[I];refine aqt (aoY ?_);unfold bindSpecial;refine aoY (wpAny_typeOf (T:="function") ⟨_,c,m⟩ ?_);rw[ao1 (by decide)];refine ao4 (aoY (apx (z _ (h.objs.size+1) ⟨λb o D=>aoZ _ (aoZ _ D),ap3 (aqL _),h.objs.size,f,ap3 (ao6 _),?_⟩) (λr p v=>?_) λ_ _ x=>x));·exact aoZ _ (Heap.get?_push_at rfl rfl)
 ·obtain⟨rfl,u⟩:=v;wp_walk;exact u
def ze(F:ExcBaseFacts B newId initId bmB)(T:OwnTail h bmB bm){mN:Str->Option Value}{rest:List Value}{fI:Addr}{i:Obj}{Q:Value->Shared->Prop}(b:h.get? C=some (excClassObj nm q C N bs bm hdct sn sub ab col dd k0 k1 k2 k3 k5 newId))(k:h.Ns N mN)(n:mN "__init__"=some (.ref fI))(c:h.get? fI=some i)(f:i.cls=.type "function")(l:∀a e,Heap.MadeExcOf h a e (.ref C) rest->wpAny (model prog w) (A.under (.builtin "type.__call__" ⟨.ref C::rest,[]⟩)) (call (.ref fI) (.ref e::rest)) (λr j=>r=.none/\Q (.ref e) j) E ⟨a,g,d,t,os⟩)(hrest:rest.length<=sizeLine:=by size_fits):wpAny (model prog w) A (call (.ref C) rest) Q E ⟨h,g,d,t,os⟩:=by
 have o:=tc_lookup;have s:=tc_bind (.ref C);have p:(⟨h,g,d,t,os⟩:Shared).TypeIs (.ref C) "type":=⟨_,b,rfl⟩;refine arA (codeAny_of_tree ?_);show wpAny _ _ (callAny (.ref C) _) _ _ _;repeat(any_goals(first|assumption|with_reducible refine aqP b ?_|wp_step))
 refine⟨rfl,?_⟩;refine codeAny_call_builtin_at (Code.quiet_builtin _ (by decide+kernel)) entry_typeCall (wpAny_check_type_call_sub b (lE (hrest:=hrest) F T b k n c f λa e m=>?_));exact l a e m
end
end L2
namespace L2
open PySem PySem.Spec PyProof.Rows
open PySem.W(findIn mroIn findObj specialIn takesIn clsIn hasDictIn looks_findIn looks_mroIn looks_find InstAt)
def kx(self:Value):refuseLoop self "__setattr__" cP=pure ():=by kernel_rfl
structure ExcS(K:W.Frag)(C:Addr):Prop where
 k:ExcK K C
 m:∃cd,clsIn K C=some cd/\cd.hasDict=true/\(cd.mro=.ref C::cP\/∃D:Addr,cd.mro=.ref C::.ref D::cP)sa:findIn K (.ref C) "__setattr__"=some (some (.builtin "object.__setattr__"))
section
variable{prog:Program}{w:World}{A:Around}{E:Value->Shared->Prop}{s:Shared}{K:W.Frag}{x C:Addr}{ox:Obj}{od:Option Obj}{name:Str}{v:Value}{R:Result->Shared->Prop}
def aa1{tk:Tok}(k:ExcS K C)(X:K.In s.heap)(I:InstAt s.heap x ox C od)(i:findIn K (.ref C) name=some none)(h:∀b,wpAny (model prog w) A.in1 (Builtin.ObjectAttr.storeInOwnDict (.ref x) (.ref C) (.str name tk) name v b) (λfin a=>match fin with|.done f=>R (.ok f) a|.again c'=>c'.quiet=true/\codeAny (model prog w) A c' R a) (λe a=>R (.error e) a) s):codeAny (model prog w) A (.call (.builtin "object.__setattr__") ⟨[.ref x,.str name tk,v],[]⟩) R s:=by
 have SF:=PySem.F.store_object;obtain⟨c,j,_,d⟩:=k.m;have sub:W.Looks (model prog w) s.heap (isInstance (.ref x) (.type "object")) true:=I.type.andThen (looks_mroIn X k.k.mo);refine codeAny_call_builtin SF.slot.plain SF.entry (@W.check_slot (model prog w) _ _ s "object.__setattr__" "object" "__setattr__" (.ref x) [.str name tk,v] [] _ SF.kind SF.split sub (SF.args (.ref x) (.str name tk) v) ?_);have g:W.Looks (model prog w) s.heap (mroOf (.ref C)) c.mro:=(arX X j).andThen .now;rw[W.osa_eq,refuse_eq];refine aoY (aoY (I.type.here (aoY (g.here ?_))));rw[show refuseLoop (.ref x) "__setattr__" c.mro=pure ()from by
 rcases d with e|⟨D,e⟩;·rw[e,asC,kx]
 ·rw[e,asC,asC,kx]];refine ao4 (aoY (I.type.here (aoY ((looks_findIn X i).here (aoY (ao4 ?_))))));exact h _
def qb{a0:Value}{Q:Unit->Shared->Prop}(k:ExcS K C)(X:K.In s.heap)(a:s.heap.get? x=some (gc C none a0))(z:findIn K (.ref C) name=some none)(h:∀g,Heap.SameBut s.heap.objs.size ((s.heap.push W.emptyDict).update x (λo:Obj=>{o with dict:=some s.heap.objs.size})) g->g.Ns1 s.heap.objs.size (λy=>if y=name then some v else none)->Q () {s with heap:=g,toks:=s.toks+2}):wpAny (model prog w) A (setAttr (.ref x) name v) Q E s:=by have I:InstAt s.heap x (gc C none a0) C none:=⟨a,rfl,rfl,True.intro⟩;refine W.set_plain X I k.sa (aa1 (s:={s with toks:=s.toks+1}) k X I z λb=>?_);obtain⟨M,q,t,_⟩:=k.m;unfold Builtin.ObjectAttr.storeInOwnDict;refine aoY (ao4 (aoY (aoY (asB a (aoY (W.Looks.here (s:={s with toks:=s.toks+1}) (arX X q) ?_))))));rw[t];rw[ao2 (by decide)];show wpAny _ _ (alloc {cls:=.type "dict",data:=.dict #[]}>>=λd=>update x (λo=>{o with dict:=some d})>>=λ_=>dictMade (.ref C) x d) _ _ _;have c:=aoZ (h:=s.heap) W.emptyDict a;have hd1:(s.heap.push W.emptyDict).get? s.heap.objs.size=some W.emptyDict:=apd s.heap rfl;have B:s.heap.objs.size≠x:=apQ (apb a);refine aoY (wpAny_alloc (aoY (wpAny_update (o:=gc C none a0) c (ao4 ?_))));have D:=apR (h:=s.heap.push W.emptyDict) (λo:Obj=>{o with dict:=some s.heap.objs.size}) c rfl;have i:∀b,b≠x->((s.heap.push W.emptyDict).update x (λo:Obj=>{o with dict:=some s.heap.objs.size})).get? b=(s.heap.push W.emptyDict).get? b:=λb r=>apu _ _ (ape r);have m:=(i _ B).trans hd1;have J:((s.heap.push W.emptyDict).update x (λo:Obj=>{o with dict:=some s.heap.objs.size})).Ns s.heap.objs.size (λ_=>none):=⟨PySem.W.emptyDict,#[],_,m,rfl,(λe a=>absurd a (by simp)),λ_=>rfl⟩;unfold Builtin.ObjectAttr.storeInDict;refine aoY (ao4 (aoY ?_));refine wpAny_nsSet1 (s:={s with heap:=(s.heap.push W.emptyDict).update x (λo:Obj=>{o with dict:=some s.heap.objs.size}),toks:=s.toks+1}) (ar4 J) λg f n=>?_;obtain⟨N,u,G,l,p,j⟩:=f.count (ns:=[name]) (ar3 name v (λy H=>absurd rfl H));refine aoY (asi l (by rw[p];exact asj (apc j (by rw[aph,aq0,aqK];omega))) ?_);exact ao4 (h _ n f)
def su{a0:Value}{d:Addr}{l:Str->Option Value}{ns:List Str}{Q:Unit->Shared->Prop}(k:ExcS K C)(X:K.In s.heap)(o:s.heap.get? x=some (gc C (some d) a0))(q:s.heap.Ns1 d l)(B:findIn K (.ref C) name=some none)(hw:PySem.Within l ns)(hz:ns.length<=100)(h:∀f,Heap.SameBut d s.heap f->f.Ns1 d (λy=>if y=name then some v else l y)->Q () {s with heap:=f,toks:=s.toks+2}):wpAny (model prog w) A (setAttr (.ref x) name v) Q E s:=by obtain⟨i,r,p,c,_⟩:=id q;have I:InstAt s.heap x (gc C (some d) a0) C (some i):=⟨o,rfl,rfl,c⟩;refine W.set_plain X I k.sa (aa1 (s:={s with toks:=s.toks+1}) k X I B λb=>?_);obtain⟨G,t,u,_⟩:=k.m;unfold Builtin.ObjectAttr.storeInOwnDict;refine aoY (ao4 (aoY (aoY (asB o (aoY (W.Looks.here (s:={s with toks:=s.toks+1}) (arX X t) ?_))))));rw[u,ao2 (by decide)];refine ao4 (a:=some d) ?_;unfold Builtin.ObjectAttr.storeInDict;refine aoY (ao4 (aoY ?_));refine wpAny_nsSet1 (s:={s with toks:=s.toks+1}) q λf e m=>?_;obtain⟨H,z,D,j,n,g⟩:=e.count (ar3 name v hw);refine aoY (asi j (by rw[n];exact asj (apc g (by rw[aph,aqK];omega))) ?_);exact ao4 (h _ m e)
end
end L2
namespace L2
open PySem PySem.Spec PyProof.Rows
section
variable{prog:Program}{w:World}{A:Around}{E:Value->Shared->Prop}{h:Heap}{g:Array GenState}{d:Drawn}{t:Nat}{os:OsState}
variable{nm q:Str}{C N:Addr}{bs bm bmB:List Value}{hdct:Bool}{sn:List Str}{sub:List Value}{ab:Bool}{col:Option Bool}{dd:Option Addr}{k0 k1 k2 k3 k5:Option Value}{B newId initId:String}
def acT(F:ExcBaseFacts B newId initId bmB)(T:OwnTail h bmB bm){e:Addr}{dx:Option Addr}{a0:Value}{rest:List Value}{Q:Value->Shared->Prop}(m:h.get? C=some (excClassObj nm q C N bs bm hdct sn sub ab col dd k0 k1 k2 k3 k5 newId))(k:h.get? e=some (gc C dx a0))(hrest:rest.length<=sizeLine)(f:∀j n,(∀b o,b≠e->h.get? b=some o->j.get? b=some o)->j.get? e=some (gc C dx n)->Q .none ⟨j,g,d,t,os⟩):wpAny (model prog w) A (call (.builtin initId) (.ref e::rest)) Q E ⟨h,g,d,t,os⟩:=by
 refine arA (codeAny_call_builtin F.init.plain F.initEntry (wpAny_check_init_subT F T m k rfl ?_));wp_walk;have i:=aoZ (h:=h) {cls:=.type "tuple",data:=.seq rest.toArray} k;have fin:∀c:Shared,c=⟨(h.push {cls:=.type "tuple",data:=.seq rest.toArray}).update e (Obj.mapFields λx=>x.setIfInBounds 0 (Value.ref h.objs.size)),g,d,t,os⟩->Q .none c:=λc z=>by
  subst z;refine f _ (.ref h.objs.size) (λb o l f=>?_) ?_;·rw[apu _ _ (ape l)];exact aoZ _ f
  ·rw[apR _ i rfl];rfl
 have go:∀v:Value,wpAny (model prog w) A.in1 (match v with|.ref a=>letGo [v]|x=>pure ()) (λ_ c=>c=⟨(h.push {cls:=.type "tuple",data:=.seq rest.toArray}).update e (Obj.mapFields λx=>x.setIfInBounds 0 (Value.ref h.objs.size)),g,d,t,os⟩) (λ_ _=>False) ⟨(h.push {cls:=.type "tuple",data:=.seq rest.toArray}).update e (Obj.mapFields λx=>x.setIfInBounds 0 (Value.ref h.objs.size)),g,d,t,os⟩:=λv=>by cases v<;>first|exact ao4 rfl|(wp_walk;rfl)
 refine apx (go _) (λ_ c z=>ao4 (fin c z)) λ_ _ z=>z.elim
end
end L2
namespace L2
open PySem PySem.Spec PyProof.Rows
open PySem.W(findIn InstAt)
def fc(d:Addr)(fs:List (Str×V))(h:Heap):Prop:=∃a,h.Ns1 d a/\(∀f,tE (fs.lookup f) (a f))/\PySem.Within a (fs.map (·.1))
def afn{P:Program}{w:World}{H:Hp}{h:Heap}{e C:Addr}{dx:Option Addr}{a0:Value}(b:h.get? e=some (gc C dx a0)):bO P w H h e (.ext (jW e C dx)):=⟨⟨a0,b⟩,⟨_,b⟩,λ_ _⟨a,q⟩k=>⟨a,k _ q⟩⟩
def uI{P:Program}{w:World}{H:Hp}{h:Heap}{d:Addr}{fs:List (Str×V)}(a:fc d fs h):bO P w H h d (.ext (fc d fs)):=by
 refine⟨a,?_,λm l⟨b,f,r,g⟩k=>⟨b,?_,r,g⟩⟩;·obtain⟨b,⟨o,_,_,e,_⟩,_⟩:=a;exact⟨o,e⟩
 ·obtain⟨o,i,j,e,c⟩:=f;exact⟨o,i,j,k _ e,c⟩
section
variable{X:Cx}{pins:List (Addr×Obj)}{σ:St}{H:Hp}{s:Shared}{e C:Addr}{f:Str}{A:Around}{E:Value->Shared->Prop}
def xA(I:Inv X pins σ H s){dx:Option Addr}(q:H e=some (.ext (jW e C dx))):∃a,s.heap.get? e=some (gc C dx a):=(I.hok e _ q).1
def xS{y:V}{u:Value}{Q:Unit->Shared->Prop}(k:ExcS X.K C)(I:Inv X pins σ H s)(q:H e=some (.ext (jW e C none)))(P:findIn X.K (.ref C) f=some none)(R:RelV y u)(h:∀d D,H d=none->d≠e->Inv X pins σ (upd (upd H d (.ext (fc d [(f,y)]))) e (.ext (jW e C (some d)))) D->Q () D):wpAny (model X.prog X.w) A (setAttr (.ref e) f u) Q E s:=by
 obtain⟨a0,i⟩:=xA I q;refine qb k I.kIn i P λh' B j=>h s.heap.objs.size _ (I.hok.fresh (ao6 _)) (apQ (apb i)) ?_;have t:=apQ (apb i);have r:=aoZ (h:=s.heap) W.emptyDict i;have hd1:(s.heap.push W.emptyDict).get? s.heap.objs.size=some W.emptyDict:=apd s.heap rfl;have M:(s.heap.push W.emptyDict).Ns s.heap.objs.size (λ_=>none):=⟨PySem.W.emptyDict,#[],_,hd1,rfl,(λe i=>absurd i (by simp)),λ_=>rfl⟩;have K:=I.laid (a:=s.heap.objs.size) (o:=.ext (fc s.heap.objs.size [])) (h':=s.heap.push W.emptyDict) (t':=s.toks) (λb u q=>aoZ _ q) (ao6 _) (uI ⟨_,ar4 M,λ_=>True.intro,λy N=>absurd rfl N⟩);have m:=apR (h:=s.heap.push W.emptyDict) (λo:Obj=>{o with dict:=some s.heap.objs.size}) r rfl;have p:∀b,b≠e->((s.heap.push W.emptyDict).update e (λo:Obj=>{o with dict:=some s.heap.objs.size})).get? b=(s.heap.push W.emptyDict).get? b:=λb l=>apu _ _ (ape l);have S:upd H s.heap.objs.size (.ext (fc s.heap.objs.size [])) e=some (.ext (jW e C none)):=by rw[ag (ape t)];exact q
 have J:=K.write (x:=e) (e:=e) (o:=.ext (jW e C (some s.heap.objs.size))) (h':=(s.heap.push W.emptyDict).update e (λo:Obj=>{o with dict:=some s.heap.objs.size})) (t':=s.toks) (by rw[S];exact True.intro) (.inl rfl) (λb u l q=>(p b l).trans q) ⟨_,m⟩ (afn (a0:=a0) m);have w:∃o,h'.get? s.heap.objs.size=some o:=let⟨o,_,_,T,_⟩:=j;⟨o,T⟩;have G:=J.write (x:=s.heap.objs.size) (e:=s.heap.objs.size) (o:=.ext (fc s.heap.objs.size [(f,y)])) (h':=h') (t':=s.toks+2) (by rw[ag t,ao];exact True.intro) (.inl rfl) (λb u l q=>(B.2 b l).trans q) w (uI ⟨_,j,λg=>by
 by_cases z:g=f;·rw[ao1 z,z];simp only[List.lookup,arq];exact R
 ·rw[ao2 z,show([(f,y)]:List (Str×V)).lookup g=none from by simp[List.lookup,apA.mpr z]];exact True.intro,λg O=>by
  by_cases z:g=f;·rw[z];exact apn
  ·exact absurd (ao2 z) O⟩);have v:upd (upd (upd H s.heap.objs.size (.ext (fc s.heap.objs.size []))) e (.ext (jW e C (some s.heap.objs.size)))) s.heap.objs.size (.ext (fc s.heap.objs.size [(f,y)]))=upd (upd H s.heap.objs.size (.ext (fc s.heap.objs.size [(f,y)]))) e (.ext (jW e C (some s.heap.objs.size))):=by
  funext b;unfold upd;by_cases c:b=s.heap.objs.size;·rw[ao1 c,ao2 (by rw[c];exact t),ao1 c]
  ·rw[ao2 c];by_cases n:b=e;·rw[ao1 n,ao1 n]
   ·rw[ao2 n,ao2 n,ao2 c,ao2 c]
 rw[v]at G;exact G
def zu{y:V}{u:Value}{d:Addr}{fs:List (Str×V)}{Q:Unit->Shared->Prop}(k:ExcS X.K C)(I:Inv X pins σ H s)(q:H e=some (.ext (jW e C (some d))))(n:H d=some (.ext (fc d fs)))(R:d≠e)(D:findIn X.K (.ref C) f=some none)(N:RelV y u)(P:fs.length<=50)(K:fs.lookup f=none)(h:∀m,Inv X pins σ (upd H d (.ext (fc d (fs++[(f,y)])))) m->Q () m):wpAny (model X.prog X.w) A (setAttr (.ref e) f u) Q E s:=by
 obtain⟨O,J⟩:=xA I q;obtain⟨t,M,r,p⟩:=(I.hok d _ n).1;refine su k I.kIn J M D p (by rw[apk];omega) λx l a=>h _ ?_;have j:∃o,x.get? d=some o:=let⟨o,_,_,i,_⟩:=a;⟨o,i⟩;refine I.write (by rw[n];exact True.intro) (.inl rfl) (λb u G q=>(l.2 b G).trans q) j (uI ⟨_,a,λg=>?_,λg B=>?_⟩)
 ·show tE ((fs++[(f,y)]).lookup g) (if g=f then some u else t g);have w:(fs++[(f,y)]).lookup g=match fs.lookup g with|some v=>some v|none=>([(f,y)]:List (Str×V)).lookup g:=by rw[List.lookup_append];cases fs.lookup g<;>rfl
  rw[w];by_cases z:g=f;·rw[ao1 z,z,K];simp only[List.lookup,arq];exact N
  ·have c:=r g;rw[ao2 z];cases i:fs.lookup g with|some v=>rw[i]at c;exact c|none=>rw[i]at c;rw[show([(f,y)]:List (Str×V)).lookup g=none from by simp[List.lookup,apA.mpr z]];exact c
 ·rw[aqJ];by_cases z:g=f;·rw[z];exact apt _ apn
  ·exact apL _ (p g λy=>B (by show(if g=f then some u else t g)=none;rw[ao2 z];exact y))
end
section
variable{X:Cx}{e:Expr}{es:List Expr}{pos:Pos}{ta:TE}{ts:List TE}
def anP(ta:TE):TE:=λb H Q=>ta b H λx a=>(∃i:Int,x=.int i/\i.natAbs.log2<1920/\Q (.str (toString i)) a)\/∃y:Str,x=.str y/\y.length<=sizeLine/\Q (.str y) a
def wC(g:PE X e ta):PE X (.FormattedValue e (-1) none pos) (anP ta):=by
 intro a s j H Q I h;refine PyProof.Rows.FormattedValue_plain (thn (g a s j H _ I h) λu n b=>?_);obtain⟨x,d,f,c,q⟩:=b;rcases q with⟨i,rfl,k,q⟩|⟨y,rfl,l,q⟩;·obtain⟨t,rfl⟩:=c;exact PyProof.Rows.formatField_int_small k ⟨.str (toString i),d,f.tok _,⟨_,rfl⟩,q⟩
 ·obtain⟨t,rfl⟩:=c;exact PyProof.Rows.formatField_str (λm tk=>⟨.str y,d,f.tok tk,⟨_,rfl⟩,q⟩) l
def tJ:List TE->Str->TE|[],acc=>λa H Q=>acc.length<=sizeLine/\Q (.str acc) H|t::ts,acc=>λa H Q=>t a H λx b=>∃y:Str,x=.str y/\(acc++y).length<=sizeLine/\tJ ts (acc++y) a b Q
theorem oE:∀{es:List Expr}{ts:List TE},Paired (PE X) es ts->∀(a:Str)(pins:List (Addr×Obj))(s:Shared)(σ:St)(H:Hp)(Q:VK),Inv X pins σ H s->tJ ts a σ H Q->wpAny (model X.prog X.w) X.A (joinParts a (es.map λe=>eval e X.env)) (EP X pins σ Q) X.xe s|[],[],_,a,pins,s,σ,H,Q,I,h=>PyProof.Rows.joinParts_nil ⟨.str a,H,I.tok _,⟨_,rfl⟩,h.2⟩ h.1|e::es,t::ts,.cons p ps,a,pins,s,σ,H,Q,I,h=>by rw[ao9];refine PyProof.Rows.joinParts_cons (thn (p pins s σ H _ I h) λu i b=>?_);obtain⟨x,f,g,c,y,ex,d,q⟩:=b;subst ex;obtain⟨t,rfl⟩:=c;exact⟨d,oE ps (a++y) pins i σ f Q g q⟩
def ux{b c:Expr}{es:List Expr}(d:Paired (PE X) (b::c::es) ts)(g:evalEach es X.env=es.map λe=>eval e X.env:=by rfl):PE X (.JoinedStr (b::c::es) pos) (tJ ts Str.empty):=by intro a s f H Q I h;refine PyProof.Rows.JoinedStr_many ?_;rw[g];exact oE d Str.empty a s f H Q I h
end
noncomputable def gJ(K:W.Frag)(C:Addr)(a:List Value)(newId:String)(fI:Addr):Bool:=match K.lookup C with|some ⟨.type "type",_,.cls cd,sl⟩=>(match cd.mro,sl.toList with|.ref C'::bm,[_,_,_,_,some (.builtin n),_]=>C'==C&&n==newId&&!cd.hasDel&&W.tailIn K a bm&&W.nsOkIn K cd.ns&&W.nsIn K cd.ns "__init__"==some (some (.ref fI))|_,_=>false)|_=>false
def yF{K:W.Frag}{h:Heap}{N:Addr}{a:Str->Option Value}{n:Str}{v:Value}(X:K.In h)(G:h.Ns N a)(e:W.nsIn K N n=some (some v)):a n=some v:=by
 obtain⟨o,p,r,b,i,_,j⟩:=G;unfold W.nsIn at e;split at e
 ·rename_i c d f l k q;have:=X _ _ q;rw[b]at this;cases this;cases i;split at e;·rename_i m g;cases e;rw[<-j];unfold nsFind findBy;rw[<-arR,g];rfl
  ·split at e<;>cases e
 ·cases e
def aoS(h:Heap)(C fI:Addr):Prop:=∃(b:List Value)(N:Addr)(k l:Str)(bs:List Value)(f:Bool)(n:List Str)(sub:List Value)(g:Bool)(a:Option Bool)(dd:Option Addr)(i d e m j:Option Value)(c:Str->Option Value),h.get? C=some (excClassObj k l C N bs b f n sub g a dd i d e m j "ValueError.__new__")/\h.Ns N c/\c "__init__"=some (.ref fI)/\OwnTail h cP b
def acE{K:W.Frag}{h:Heap}{C fI:Addr}(X:K.In h)(q:gJ K C cP "ValueError.__new__" fI=true):aoS h C fI:=by
 unfold gJ at q;split at q
 ·rename_i dd s k r;split at q
  ·rename_i D w o m g p n j i f;simp only[apg,ap8,ar5]at q;obtain⟨⟨⟨⟨⟨rfl,rfl⟩,a⟩,t⟩,b⟩,c⟩:=q;obtain⟨B,bs,x,z,u,y,v,sub,A,d,del⟩:=s;dsimp only at i a b c;subst i a;have e:k=#[o,m,g,p,some (.builtin "ValueError.__new__"),j]:=by obtain⟨l⟩:=k;simp only at f;rw[f]
   subst e;exact⟨w,z,B,u,bs,y,v,sub,A,d,dd,o,m,g,p,j,_,X _ _ r,.of_isNs (W.isNs_of_in X b),yF X (.of_isNs (W.isNs_of_in X b)) c,W.tail_of_in X t⟩
  ·cases q
 ·cases q
section
variable{X:Cx}{e:Expr}{es:List Expr}{x:Str}{np apos pos:Pos}{t:TA}{C D fI:Addr}
def aah(C:Addr)(t:TA):TE:=λb H Q=>t b H λd a=>∃ex c rest,d=.ref ex::rest/\rest.length<=100/\a ex=some (.ext (jW ex C c))/\Q .non a
def pG{pl:Sem Bool}(hg:Gl X x)(hm:X.mg x=some (.ref D))(P:W.readsIn X.K D (.type "type")=true)(hf:W.findCls X.K (.ref D) (.type "type") "__init__"=some (.val (.builtin "ValueError.__init__")))(G:W.specialIn X.K (.ref D) "__getattribute__"=some (some (.builtin "type.__getattribute__")))(hC:gJ X.K C cP "ValueError.__new__" fI=true)(ha:PA X (e::es) t)(w:(x==("__debug__":Str))=false:=by decide)(m:starEach (e::es) X.env=(false,eval e X.env)::starEach es X.env:=by rfl)(n:(backTo pos (starEach es X.env)).any (·.1)=false:=by rfl)(M:eval (.Call (.Attribute (.Name x np) "__init__" apos) (e::es) [] pos) X.env=(do
  let E <-eval (.Name x np) X.env
  standAt apos.atName let(f,first)<-holding [E] (getMethod E "__init__" pl)callWith pos f first (backTo pos (starEach (e::es) X.env)) (backToKw pos (keywordEach [] X.env))):=by rfl):PE X (.Call (.Attribute (.Name x np) "__init__" apos) (e::es) [] pos) (aah C t):=by
 intro j s Z H Q I h;refine asz (pl:=pl) (dt I hg hm ?_ w) M;refine W.method_cls I.kIn G (W.cls_value I.kIn P hf rfl ?_);have K:=I.tok (s.toks+1);refine arB (thn (ha pos j _ Z H _ K h) λus s1 A=>?_) m n;obtain⟨vs,y,p,r1,ex,B,rest,Y,hl,v,U⟩:=A;subst Y;obtain⟨l,c,rfl,R,S⟩:∃l c,us=l::c/\RelV (.ref ex) l/\Vals rest c:=by cases r1 with|cons a b=>exact⟨_,_,rfl,a,b⟩
 cases(show l=Value.ref ex from R);obtain⟨a0,he⟩:=xA p v;obtain⟨bm,N,nm,qn,bs,hd,sn,sub,ab,a2,dd,k0,k1,k2,k3,k5,mN,r,hN,_,T⟩:=acE p.kIn hC;have k:c.length<=sizeLine:=by rw[<-S.length];exact apc hl (by decide)
 obtain⟨hh,g,d,tk,os⟩:=s1;refine acT ap9 T r he k λh' a1 O i=>⟨.non,y,?_,rfl,U⟩;have J:=p.write (x:=ex) (e:=ex) (o:=.ext (jW ex C B)) (h':=h') (t':=tk) (by rw[v];exact True.intro) (.inl rfl) (λb u hb q=>O b u hb q) ⟨_,i⟩ (afn i);have eH:upd y ex (.ext (jW ex C B))=y:=by
  funext b;by_cases z:b=ex;·rw[z,ao,v]
  ·rw[ag z]
 rw[eH]at J;exact J
end
end L2
set_option autoImplicit true
set_option relaxedAutoImplicit true
namespace L2
open PySem PySem.Spec PyProof.Rows
open PySem.W(findIn InstAt)
section
variable{prog:Program}{w:World}{A:Around}{E:Value->Shared->Prop}{s:Shared}{env:Env}
variable{nm q:Str}{C N:Addr}{bs bm bmB:List Value}{hdct:Bool}{sn:List Str}{sub:List Value}{ab:Bool}{col:Option Bool}{dd:Option Addr}{k0 k1 k2 k3 k5:Option Value}{B newId initId:String}
def tF(F:ExcBaseFacts B newId initId bmB){mN:Str->Option Value}{fI:Addr}{x:Str}{M k pos:Pos}{j:List Expr}{Q:Flow->Shared->Prop}(n:bm.contains (.type "BaseException")=true)(X:A.handled=none)(l:(backTo k (starEach j env)).any (·.1)=false)(Z:mN "__init__"=some (.ref fI))(h:wpAny (model prog w) A (eval (.Name x M) env) (λf m=>f=.ref C/\wpAny (model prog w) A (evalArgs (.ref C) true (backTo k (starEach j env)) []) (λa b=>a.kw=[]/\a.pos.length<=sizeLine/\b.heap.get? C=some (excClassObj nm q C N bs bm hdct sn sub ab col dd k0 k1 k2 k3 k5 newId)/\b.heap.Ns N mN/\OwnTail b.heap bmB bm/\(∃y,b.heap.get? fI=some y/\y.cls=.type "function")/\∀u e,Heap.MadeExcOf b.heap u e (.ref C) a.pos->wpAny (model prog w) (A.under (.builtin "type.__call__" ⟨.ref C::a.pos,[]⟩)) (call (.ref fI) (.ref e::a.pos)) (λr t=>r=.none/\t.heap.get? C=some (excClassObj nm q C N bs bm hdct sn sub ab col dd k0 k1 k2 k3 k5 newId)/\∃K G,t.heap.get? e=some (gc C K G)/\E (.ref e) t) E {b with heap:=u}) E m) E s):wpAny (model prog w) A (exec (.Raise (some (.Call (.Name x M) j [] k)) none pos) env) Q E s:=by rw[arm_exec_Raise];refine aoY (arY (nF (C:=C) (nm:=nm) (q:=q) (N:=N) (bs:=bs) (bm:=bm) (hdct:=hdct) (sn:=sn) (sub:=sub) (ab:=ab) (col:=col) (dd:=dd) (k0:=k0) (k1:=k1) (k2:=k2) (k3:=k3) (k5:=k5) (newId:=newId) n X (aoY (apx (wpAny_Call_ofName (apx h (λf m c=>?_) λ_ _ x=>x)) (λv S o=>aoY (arY (ao4 o))) λ_ _ x=>x))));obtain⟨rfl,c⟩:=c;unfold callWith;refine aoY (aqt (apx c (λa b i=>aoY (arY ?_)) λ_ _ x=>x));obtain⟨O,I⟩:=a;obtain⟨D,p,P,hn,T,⟨y,J,H⟩,i⟩:=i;obtain rfl:I=[]:=D;obtain⟨hp,g,d,tk,os⟩:=b;simp only[l];refine aoY (wpAny_keeperOf_exc P ?_);refine aoY (ze (hrest:=p) F T P hn Z J H λu e Y=>apx (i u e Y) (λr t R=>⟨R.1,aoY (aqt (wpAny_point (ao4 ?_)))⟩) λ_ _ z=>z);obtain⟨_,U,K,G,h4,h5⟩:=R;exact⟨e,K,G,rfl,U,h4,h5⟩
end
section
variable{X:Cx}{o value:Expr}{f:Str}{pos pos':Pos}{ta tv:TE}{C:Addr}
def sX1(C:Addr)(ta tv:TE)(f:Str):TS:=λD b H=>tv b H λy c=>ta b c λx a=>∃e,x=.ref e/\a e=some (.ext (jW e C none))/\∀d,a d=none->d≠e->D.nx b (upd (upd a d (.ext (fc d [(f,y)]))) e (.ext (jW e C (some d))))
def sX2(C:Addr)(ta tv:TE)(f:Str):TS:=λD b H=>tv b H λy c=>ta b c λx a=>∃e d fs,x=.ref e/\a e=some (.ext (jW e C (some d)))/\a d=some (.ext (fc d fs))/\d≠e/\fs.length<=50/\fs.lookup f=none/\D.nx b (upd a d (.ext (fc d (fs++[(f,y)]))))
def agM(k:ExcS X.K C)(m:findIn X.K (.ref C) f=some none)(l:PE X o ta)(v:PE X value tv)(g:swapsWith value (some (.Attribute o f pos')) pos.line X.env=pure false):PS X (.Assign [.Attribute o f pos'] value pos) (sX1 C ta tv f):=by intro a s c H D I h;refine aqD (thn (v a s c H _ I h) λu z⟨y,p,w,j,q⟩=>thn (l a z c p _ w q) λG K b=>?_) g;obtain⟨x,J,t,i,e,ex,A,E⟩:=b;subst ex;obtain rfl:G=Value.ref e:=i;exact xS k t A m j λd M n r B=>⟨c,_,B,E d n r⟩
def amt(k:ExcS X.K C)(z:findIn X.K (.ref C) f=some none)(l:PE X o ta)(t:PE X value tv)(g:swapsWith value (some (.Attribute o f pos')) pos.line X.env=pure false):PS X (.Assign [.Attribute o f pos'] value pos) (sX2 C ta tv f):=by intro a s c H D I h;refine aqD (thn (t a s c H _ I h) λu E⟨y,A,v,K,q⟩=>thn (l a E c A _ v q) λj N b=>?_) g;obtain⟨x,M,p,i,e,d,fs,ex,G,n,r,m,B,w⟩:=b;subst ex;obtain rfl:j=Value.ref e:=i;exact zu k p G n r z K m B λO J=>⟨c,_,J,w⟩
end
noncomputable def del(H:Hp)(e:Addr):Hp:=λb=>if b=e then none else H b
section
variable{X:Cx}{pins:List (Addr×Obj)}{σ:St}{H:Hp}{s:Shared}{e C d:Addr}{fs:List (Str×V)}
def Inv.agh{φ:Heap->Prop}(I:Inv X pins σ H s)(q:H e=some (.ext φ)):Inv X pins σ (del H e) s:=by
 have none_of:∀{b},H b=none->del H e b=none:=λ{b}h=>by unfold del;split<;>first|rfl|exact h
 have keep:∀{b o},H b=some o->(∀m,o≠.ext m)->del H e b=some o:=λ{b o}h n=>by unfold del;rw[ao2 (λz=>by rw[z,q]at h;injection h with h;exact n φ h.symm)];exact h
 refine⟨I.ok,I.os,I.bare,⟨I.base.keep,I.base.slot,λb o i f g=>none_of (I.base.free b o i f g),I.base.there,λb j h=>keep (I.base.tups b j h) (λ_ z=>by cases z),λb o u h=>keep (I.base.frzs b o u h) (λ_ z=>by cases z),λb r h=>?_⟩,I.loc,I.cell,none_of I.free,λx c h=>none_of (I.freeC x c h),λp k=>?_,λb u h=>?_,I.len⟩;·obtain⟨a,t⟩:=I.base.tbls b r h;exact⟨a,keep t (λ_ z=>by cases z)⟩
 ·obtain⟨i,f,g⟩:=I.pin p k;exact⟨i,none_of f,g⟩
 ·have l:H b=some u:=by
   unfold del at h;split at h;·cases h
   ·exact h
  exact(I.hok b u l).vT (λ_ _ _ z=>z) (λc z=>keep z (λ_ y=>by cases y)) λc j z=>keep z (λ_ y=>by cases y)
def Inv.aiO (I:Inv X pins σ H s)(g:FpX X pins H e)(new:φ s.heap/\(∃o,s.heap.get? e=some o)/\∀i h:Heap,φ i->(∀o,i.get? e=some o->h.get? e=some o)->φ h):Inv X pins σ (upd H e (.ext φ)) s:=by
 have f:∀b u,H b=some u->b≠e:=λb u q z=>by rw[z,g.1]at q;cases q
 have:=I.ai2 (H':=upd H e (.ext φ)) (d':=s.drawn) (t':=s.toks) (λb a=>by rw[ap2.mp a];exact⟨g.2.2.2.1,g.2.1,g.2.2.2.2.1,g.2.2.2.2.2⟩) (λb o _ _ _ q _=>q) (λb o _ _ _ q _=>⟨o.slots,q⟩) (λb o a _ n=>by rw[ag (λz=>a (by rw[z];exact apn))];exact n) (λb o _ q=>⟨o,q⟩) (λb k q=>by rw[ag (f b _ q)];exact q) (λb o u q=>by rw[ag (f b _ q)];exact q) (λb l q=>⟨#[],by rw[ag (f b _ q),q];simp⟩) (λm j=>j) (λb u q=>by
   by_cases a:b=e;·subst a;rw[ao]at q;cases q;exact new
   ·rw[ag a]at q;exact(I.hok b u q).vT (λ_ _ _ z=>z) (λc z=>by rw[ag (f c _ z)];exact z) λc k z=>by rw[ag (f c _ z)];exact z) I.bare;exact this
theorem Inv.xd(I:Inv X pins σ H s)(q:H d=some (.ext (fc d fs))):Inv X pins σ (upd H d (.xd fs)) s:=by obtain⟨b,a,r,g⟩:=(I.hok d _ q).1;have f:∃u,s.heap.get? d=some u:=let⟨o,_,_,c,_⟩:=a;⟨o,c⟩;exact I.write (by rw[q];exact True.intro) (.inl rfl) (λ_ _ _ z=>z) f ⟨b,a,r⟩
end
def spI(C:Addr)(a:List Str):Sp:=λb H Q _=>∃e ws,b=.ref e::ws/\ws.length=a.length/\H e=some (.ext (jW e C none))/\(∀w∈ws,∃i:Int,w=.int i/\i.natAbs.log2<100)/\∀d,H d=none->d≠e->Q .non (upd (upd H d (.ext (fc d (a.zip ws)))) e (.ext (jW e C (some d))))
section
variable{X:Cx}{t:TA}{x:Str}{C fI:Addr}{fd:FuncData}{ps fl:List Str}{k:Nat}{np cpos pos:Pos}{e:Expr}{es:List Expr}
def agp(X:Cx)(C:Addr)(fl:List Str)(t:TA):TS:=λ_ c H=>t c H λb f=>b.length=fl.length/\(∀w∈b,∃i:Int,w=.int i/\i.natAbs.log2<100)/\fl.length<=50/\∀a s e d,f d=none->d≠e->Thr X a c (upd f d (.xd (fl.zip b))) s e C (some d) .none none->X.xe (.ref e) s
def aaP(hc:X.calm=true)(hg:Gl X x)(hm:X.mg x=some (.ref C))(q:gJ X.K C cP "ValueError.__new__" fI=true)(Y:W.typeIn X.K (.ref fI)=some (.type "function"))(F:FnOk X.prog X.w X.K X.mg X.base CX0 k fI fd ps (spI C fl))(hr:Room (k+1) X.A)(hb:Binds X.K fd ps [])(ha:PA X (e::es) t)(hd:(x==("__debug__":Str))=false:=by decide)(he:starEach (e::es) X.env=(false,eval e X.env)::starEach es X.env:=by rfl)(j:(backTo cpos (starEach es X.env)).any (·.1)=false:=by rfl):PS X (.Raise (some (.Call (.Name x np) (e::es) [] cpos)) none pos) (agp X C fl t):=by
 intro f s σ H D I h;obtain⟨bm,N,nm,qn,bs,hdct,sn,sub,ab,col,dd,k0,k1,k2,k3,k5,mN,hC,hN,hi,T⟩:=acE I.mod.kin q;obtain⟨oI,P,M⟩:=apy.mp Y;refine tF (C:=C) (nm:=nm) (q:=qn) (N:=N) (bs:=bs) (bm:=bm) (hdct:=hdct) (sn:=sn) (sub:=sub) (ab:=ab) (col:=col) (dd:=dd) (k0:=k0) (k1:=k1) (k2:=k2) (k3:=k3) (k5:=k5) ap9 (mN:=mN) (fI:=fI) (T.hasType ap9.hasBase) (I.ok.hd hc) (by rw[he];show(false||(backTo cpos (starEach es X.env)).any (·.1))=false;rw[j];rfl) hi (dt I hg hm ⟨rfl,?_⟩ hd);have hA:=ha cpos f s σ H _ I h;rw[he]at hA⊢;refine arC (thn hA λn U⟨m,i,p,r2,hl,a1,S,q2⟩=>⟨rfl,?_,p.bk _ _ hC,hN.keeps p.bk,T.keeps p.bk,⟨oI,p.bk _ _ (I.mod.kin _ _ P),M⟩,λh' c K=>?_⟩);·rw[<-r2.length,hl];exact apc S (by decide)
 obtain⟨ta,h1,h2,h3⟩:=K.there;have R:i c=none:=by cases z:i c with|none=>rfl|some u=>obtain⟨o,ho⟩:=mF (p.hok c u z);rw[K.new]at ho;cases ho
 have J:=p.kept (t':=U.toks) K.keeps;have fp:∀y,y c=none->FpX X f y c:=λy hn=>p.fpX K.new hn;have Q:Inv X f σ (upd i c (.ext (jW c C none))) {U with heap:=h'}:=J.aiO (fp i R) ⟨⟨_,h1⟩,⟨_,h1⟩,λ_ _⟨a,z⟩k=>⟨a,k _ z⟩⟩;have r3:Vals (V.ref c::m) (Value.ref c::n):=.cons rfl r2;let Q':VK:=λv y=>v=.non/\∃d,upd i c (.ext (jW c C none)) d=none/\d≠c/\y=upd (upd (upd i c (.ext (jW c C none))) d (.ext (fc d (fl.zip m)))) c (.ext (jW c C (some d)));have sp:spI C fl (V.ref c::m) (upd i c (.ext (jW c C none))) Q' (λ_ _ _=>False):=⟨c,m,rfl,hl,ao,a1,λd hd l=>⟨rfl,d,hd,l,rfl⟩⟩;have G:(Value.ref c::n).length=ps.length:=by rw[<-r3.length];exact F.len _ _ _ _ sp
 have E:=hb {U with heap:=h'} (Value.ref c::n) Q.kIn (by rw[apK];exact G);rw[apK]at E;refine arA (aq3 (F.run _ X.stack _ _ ⟨Value.ref c::n,[]⟩ (Value.ref c::n) _ Q' (λ_ _ _=>False) (hr.make C n []) trivial (Q.alH.make C n []) E r3 sp) λr s' g=>?_);cases r with|error e'=>exact False.elim g|ok fl'=>cases fl' with|next=>exact False.elim g|brk=>exact False.elim g|cont=>exact False.elim g|ret u=>
   obtain⟨v,y,I3,rv,ev,d,Z,l,eH⟩:=Q.after g;subst ev eH;have O:i d=none:=by rwa[ag l]at Z
   obtain⟨a0,A⟩:=xA I3 (e:=c) (C:=C) (dx:=some d) ao;refine⟨rv,I3.bk _ _ hC,some d,a0,A,q2 f s' c d O l ?_⟩;have I4:=I3.xd (d:=d) (fs:=fl.zip m) (by rw[ag l,ao]);have I5:=I4.agh (e:=c) (φ:=jW c C (some d)) (by rw[ag (ape l),ao]);have eH:del (upd (upd (upd (upd i c (.ext (jW c C none))) d (.ext (fc d (fl.zip m)))) c (.ext (jW c C (some d)))) d (.xd (fl.zip m))) c=upd i d (.xd (fl.zip m)):=by
    funext b;unfold del upd;by_cases w:b=c;·rw[ao1 w,ao2 (by rw[w];exact ape l),w,R]
    ·rw[ao2 w];by_cases B:b=d;·rw[ao1 B,ao1 B]
     ·rw[ao2 B,ao2 B,ao2 w,ao2 B,ao2 w]
   rw[eH]at I5;exact⟨I5,⟨_,_,A,rfl,rfl,rfl,rfl,rfl⟩,fp _ (by rw[ag (ape l)];exact R),λt z=>by cases z⟩
end
end L2
namespace L2
open PySem PySem.Spec PyProof.Rows
section
variable{X:Cx}
inductive TyW(K:W.Frag)(H:Hp):V->Value->Prop where|non:TyW K H .non (.type "NoneType")|bl(x:Bool):TyW K H (.bl x) (.type "bool")|int(i:Int):TyW K H (.int i) (.type "int")|str(x:Str):TyW K H (.str x) (.type "str")|lst{a:Addr}{xs:List V}(e:SqL K H a xs):TyW K H (.ref a) (.type "list")|tup{a:Addr}{xs:List V}(e:SqT K H a xs):TyW K H (.ref a) (.type "tuple")
end
end L2
namespace WL
open PySem
def aoq:List W->Res W|[.exc nm _,.cls d]=>.ok (.bl (kX nm d))|[.exc _ _,.ty "ValueError"]=>.ok (.bl true)|_=>.bad
@[simp]def alM(nm d:String)(fs:List W):aoq [.exc nm fs,.cls d]=.ok (.bl (kX nm d)):=rfl
@[simp]def anA(nm:String)(fs:List W):aoq [.exc nm fs,.ty "ValueError"]=.ok (.bl true):=rfl
noncomputable def kf:W->Bool|.int i=>decide (i.natAbs.log2<100)|_=>false
def iu(nm:String)(a:AF):SF:=λb=>ofR b (a b) λws=>if ws.length=(fieldsOf nm).length/\ws.all kf=true then .ex (.exc nm ws) b else .bad
def jE(nm:String)(a:AF)(σ:Ws):iu nm a σ=ofR σ (a σ) λws=>if ws.length=(fieldsOf nm).length/\ws.all kf=true then .ex (.exc nm ws) σ else .bad:=(rfl)
noncomputable def tK(σ:Ws):Ws:=σ.map λs=>match s with|.ow _=>.no|.od _ _=>.no|s=>s
def abA(k:Nat)(it:LF)(g:GF)(t:TF)(e:EF):LF:=λb=>(it b).bind λa=>if a.length<=lim then bA g t e (List.replicate k .no++tK b) a else .bad
def ace(k:Nat)(it:LF)(g:GF)(t:TF)(e:EF):EF:=λb=>(abA k it g t e b).bind λa=>.ok (.lst a)
def rT(k:Nat)(it:LF)(g:GF)(t:TF)(e:EF)(σ:Ws):abA k it g t e σ=(it σ).bind λa=>if a.length<=lim then bA g t e (List.replicate k .no++tK σ) a else .bad:=(rfl)
def sI(k:Nat)(it:LF)(g:GF)(t:TF)(e:EF)(σ:Ws):ace k it g t e σ=(abA k it g t e σ).bind λa=>.ok (.lst a):=(rfl)
end WL
namespace WS
open PySem PySem.Spec PyProof.Rows L2
open WL(Res Sl Ws EF TF AF LF GF GsF SF Out)
structure Exc1(K:W.Frag)(FE Ca:Addr):Prop where
 ty:W.typeIn K (.ref Ca)=some (.type "type")mro:(W.clsIn K Ca).map (·.mro)=some (.ref Ca::cP)/\Ca=FE\/(W.clsIn K Ca).map (·.mro)=some (.ref Ca::.ref FE::cP)ga:W.findIn K (.ref Ca) "__getattribute__"=some (some (.builtin "BaseException.__getattribute__"))gn:W.findIn K (.ref Ca) "__getattr__"=some none
 cl:W.findIn K (.ref Ca) "__class__"=some (some (.builtin "object.__class__"))
structure ExcAll(K:W.Frag):Prop where
 k:∀nm Ca,ExcAt K nm Ca->ExcK K Ca
 is:∀nm Ca d D,ExcAt K nm Ca->ExcAt K d D->W.kitOne K (.ref Ca) (.ref D)=some (WL.kX nm d)ve:∀nm Ca,ExcAt K nm Ca->W.kitOne K (.ref Ca) (.type "ValueError")=some true
 ex:∀nm Ca d D,ExcAt K nm Ca->ExcAt K d D->W.exmOne K (.ref Ca) (.ref D)=some (WL.kX nm d)
def all_nil{a:Type}{P:a->Prop}:∀p∈([]:List a),P p:=λ_ h=>nomatch h
def all_cons{b:Type}{P:b->Prop}{a:b}{l:List b}(h:P a)(t:∀p∈l,P p):∀p∈a::l,P p:=λp c=>(apl.mp c).elim (λe=>e▸h) (t p)
section
variable{K:W.Frag}{FE:Addr}{tab:List (String×Addr)}
theorem lF:∀{tab:List (String×Addr)},(tab.map (·.1)).Nodup->(tab.map (·.2)).Nodup->∀p∈tab,∀q∈tab,(p.1=q.1↔p.2=q.2)
|[],_,_,p,hp,_,_=>nomatch hp|a::l,h1,h2,p,hp,q,hq=>by
 rw[ao9,aqd]at h1 h2;rcases apl.mp hp with z|c<;>rcases apl.mp hq with y|b;·rw[z,y];exact⟨λ_=>rfl,λ_=>rfl⟩
 ·subst z;exact⟨λe=>absurd (e▸aqZ (f:=(·.1)) b) h1.1,λe=>absurd (e▸aqZ (f:=(·.2)) b) h2.1⟩
 ·subst y;exact⟨λe=>absurd (e▸aqZ (f:=(·.1)) c) h1.1,λe=>absurd (e▸aqZ (f:=(·.2)) c) h2.1⟩
 ·exact lF h1.2 h2.2 p c q b
def ab5(v:("FloorError",FE)∈tab)(n:∀p∈tab,W.nsIn K mainGlobals (Str.ofString p.1)=some (some (.ref p.2))/\Exc1 K FE p.2)(s:∀b∈WL.xB,b∈tab.map (·.1)\/W.nsIn K mainGlobals (Str.ofString b)=some none)(o:(tab.map (·.1)).Nodup)(q:(tab.map (·.2)).Nodup)(B:W.specialIn K (.builtin "object.__class__") "__get__"=some (some (.builtin "getset_descriptor.__get__")))(r:W.takesIn K (.builtin "object.__class__")=some true):ExcAll K:=by
 have c:∀b a,ExcAt K b a->(b,a)∈tab/\Exc1 K FE a:=λb a⟨i,f⟩=>by
  rcases s b i with h|h;·obtain⟨⟨x,y⟩,t,rfl⟩:=apv.mp h;obtain⟨C,G⟩:=n _ t;have:=C.symm.trans f;injection this with this;injection this with this;injection this with this;subst this;exact⟨t,G⟩
  ·rw[h]at f;cases f
 have k:∀b a,ExcAt K b a->∃j,W.clsIn K a=some j/\((j.mro=.ref a::cP/\a=FE)\/j.mro=.ref a::.ref FE::cP):=λb a h=>by
  rcases(c b a h).2.mro with⟨e,z⟩|e;·obtain⟨j,i,f⟩:=apy.mp e;exact⟨j,i,.inl ⟨f,z⟩⟩
  ·obtain⟨j,i,f⟩:=apy.mp e;exact⟨j,i,.inr f⟩
 have l:∀b a T,ExcAt K b a->Value.type T∈cP->W.mroIn K a (.type T)=some true:=λb a T h A=>by
  obtain⟨j,i,f⟩:=k b a h;unfold W.mroIn;rw[i,asu];rcases f with⟨f,_⟩|f<;>rw[f]<;>simp only[ar8,apE,apN,ar9,List.contains_eq_mem,apz,apl];·exact .inr (by simpa using A)
  ·exact .inr (.inr (by simpa using A))
 have sub:∀b a d D,ExcAt K b a->ExcAt K d D->W.mroIn K a (.ref D)=some (WL.kX b d):=λb a d D h g=>by
  obtain⟨j,i,f⟩:=k b a h;have w:=lF o q _ (c b a h).1 _ (c d D g).1;have u:=lF o q _ v _ (c d D g).1;have E:=lF o q _ v _ (c b a h).1;dsimp only at w u E;unfold W.mroIn;rw[i,asu];have e:WL.kX b d=decide (a=D\/FE=D):=by unfold WL.kX;rw[apB];simp only[arG,ap8,apz];exact or_congr w (by rw[eq_comm];exact u)
  rw[e];rcases f with⟨f,z⟩|f<;>rw[f]<;>simp only[ar8,apE,apN,ar9,List.contains_eq_mem];·subst z;congr 1;simp[eq_comm]
  ·congr 1;simp[eq_comm]
 have cls:∀b a d D,ExcAt K b a->ExcAt K d D->W.kitCls K (.ref a) (.ref D)=some (WL.kX b d):=λb a d D h g=>by obtain⟨j,i,_⟩:=k d D g;unfold W.kitCls;dsimp only;rw[ao1 (by rw[i,(c d D g).2.ty];rfl)];exact sub b a d D h g
 refine⟨λb a h=>?_,λb a d D h g=>?_,λb a h=>?_,λb a d D h g=>?_⟩;·obtain⟨j,i,_⟩:=k b a h;have m:=(c b a h).2;exact⟨by rw[i];rfl,m.ga,m.gn,l b a _ h (by simp),l b a _ h (by simp),m.cl,B,r⟩
 ·unfold W.kitOne;by_cases e:((Value.ref a==Value.ref D)=true);·rw[ao1 e];have e:=Value.ref.inj (ap8.mp e);subst e;have:=(lF o q _ (c b a h).1 _ (c d a g).1).mpr rfl;dsimp only at this;subst this;simp[WL.kX]
  ·rw[ao2 e];exact cls b a d D h g
 ·unfold W.kitOne;rw[ao2 (by intro z;cases ap8.mp z)];unfold W.kitCls;dsimp only;rw[ao1 (by decide+kernel)];exact l b a _ h (by simp)
 ·unfold W.exmOne;rw[ao1 (by rw[show W.subIn K (.ref D) (.type "BaseException")=W.mroIn K D (.type "BaseException")from rfl,l d D _ g (by simp)];rfl)];exact cls b a d D h g
end
end WS
namespace WS
open PySem PySem.Spec PyProof.Rows L2
end WS
namespace WS
open PySem PySem.Spec PyProof.Rows L2
open WL(Res Sl Ws EF TF AF LF GF GsF SF Out)
section
variable{σ:L2.St}{H:Hp}
def Part(t:TE)(σ:L2.St)(H:Hp):Prop:=∀Q:VK,(∀y:Str,y.length<=1000->Q (.str y) H)->t σ H Q
def ot{y:Str}(h:y.length<=1000):Part (tC (.str y)) σ H:=λQ k=>k y h
def wI{i:Nat}{n:Int}(h:σ[i]?=some (some (.int n)))(a:n.natAbs.log2<100):Part (anP (fj i)) σ H:=λQ k=>⟨.int n,h,.inl ⟨n,rfl,apa a (by decide),k _ (by have e:=int_text_length_le (k:=100) (by decide) a;show(Str.ofString (toString n)).length<=1000;rw[PySem.ofString_length];omega)⟩⟩
theorem agr{Q:VK}:∀(ts:List TE)(a:Str),a.length+1000*ts.length<=100000->(∀t∈ts,Part t σ H)->(∀y,Q (.str y) H)->tJ ts a σ H Q|[],a,hl,_,k=>⟨by rw[aqK];simp at hl;omega,k a⟩|t::ts,a,hl,hp,k=>hp t apn _ λy c=>by rw[aph]at hl;have e:(a++y).length=a.length+y.length:=strLen_append ..;exact⟨y,rfl,by rw[e,aqK];omega,agr ts (a++y) (by omega) (λt b=>hp t (apG _ b)) k⟩
end
section
variable{P:Program}{w:World}{K:W.Frag}{mg:Str->Option Value}{base:Heap}
def xf{g o a b:Str}{st:Stmt}{f C:Addr}{p:FuncData}{k:Nat}{ts:List TE}(D:Fun K "__init__" g st f p)(S:FnScope [a,b] [a,b] (af st))(J:ts.length<=50)(v:∀(u:L2.St)(H:Hp)(n:Int),u[1]?=some (some (.int n))->n.natAbs.log2<100->∀t∈ts,Part t u H)(h:∀(i:Value)(A:Around)(c:List Env)(s:Shared)(H:Hp)(E:XK),Room k (A.deeper (envOfC g (af st) s.heap.objs.size f i))->PSs (ff CX0 P w K mg base [a,b] g (af st) f i A c s H E).nox (aH st) (aiU (x6 (aah C (lU (fj 0) (lU (tJ ts Str.empty) aae)))) (sX1 C (fj 0) (fj 1) o))):FnOk P w K mg base CX0 (k+1) f p [a,b] (spI C [o]):=by refine D.ok S (λM H Q E j=>by obtain⟨e,ws,m,l,_⟩:=j;rw[m,aph,l];rfl) λi A c s H M Q E G j=>?_;obtain⟨e,ws,m,l,r,B,q⟩:=j;subst m;obtain⟨x,rfl⟩:=List.length_eq_one_iff.mp l;obtain⟨n,rfl,I⟩:=B x apn;refine⟨_,h i A c s H E G,?_⟩;refine⟨.ref e,rfl,agr ts _ (by have:Str.empty.length=0:=rfl;omega) (v _ H n rfl I) λy=>⟨e,none,[.str y],rfl,by simp,r,?_⟩⟩;exact⟨.int n,rfl,.ref e,rfl,e,rfl,r,λd N z=>q d N z⟩
def aes{i l r a b c:Str}{st:Stmt}{f C:Addr}{J:FuncData}{k:Nat}{ts:List TE}(U:Fun K "__init__" i st f J)(S:FnScope [a,b,c] [a,b,c] (af st))(hf:r≠l)(Z:ts.length<=50)(O:∀(I:L2.St)(H:Hp)(n m:Int),I[1]?=some (some (.int n))->I[2]?=some (some (.int m))->n.natAbs.log2<100->m.natAbs.log2<100->∀t∈ts,Part t I H)(h:∀(j:Value)(A:Around)(g:List Env)(s:Shared)(H:Hp)(E:XK),Room k (A.deeper (envOfC i (af st) s.heap.objs.size f j))->PSs (ff CX0 P w K mg base [a,b,c] i (af st) f j A g s H E).nox (aH st) (aiU (x6 (aah C (lU (fj 0) (lU (tJ ts Str.empty) aae)))) (aiU (sX1 C (fj 0) (fj 1) l) (sX2 C (fj 0) (fj 2) r)))):FnOk P w K mg base CX0 (k+1) f J [a,b,c] (spI C [l,r]):=by
 refine U.ok S (λvs H Q E o=>by obtain⟨e,ws,G,D,_⟩:=o;rw[G,aph,D];rfl) λj A g s H vs Q E X o=>?_;obtain⟨e,ws,G,D,N,M,q⟩:=o;subst G;obtain⟨u,v,rfl⟩:∃u v,ws=[u,v]:=by match ws,D with|[u,v],_=>exact⟨u,v,rfl⟩
 obtain⟨n,rfl,Y⟩:=M u apn;obtain⟨m,rfl,T⟩:=M v (apG _ apn);refine⟨_,h j A g s H E X,?_⟩;refine⟨.ref e,rfl,agr ts _ (by have:Str.empty.length=0:=rfl;omega) (O _ H n m rfl rfl Y T) λy=>⟨e,none,[.str y],rfl,by simp,N,?_⟩⟩;refine⟨.int n,rfl,.ref e,rfl,e,rfl,N,λd hd B=>?_⟩;refine⟨.int m,rfl,.ref e,rfl,e,d,[(l,.int n)],rfl,ao,by rw[ag B,ao],B,by simp,by simp[List.lookup,apA.mpr hf],?_⟩;have:=q d hd B;have R:upd (upd (upd H d (.ext (fc d [(l,.int n)]))) e (.ext (jW e C (some d)))) d (.ext (fc d ([(l,.int n)]++[(r,.int m)])))=upd (upd H d (.ext (fc d ([l,r].zip [.int n,.int m])))) e (.ext (jW e C (some d))):=by
  funext z;unfold upd;by_cases p:z=d;·rw[ao1 p,ao2 (by rw[p];exact B),ao1 p];rfl
  ·rw[ao2 p];by_cases x:z=e;·rw[ao1 x,ao1 x]
   ·rw[ao2 x,ao2 x,ao2 p,ao2 p]
 show Q .non (upd _ d _);rw[R];exact this
end
section
variable{X:Cx}{B:Bx}{k:Nat}{fI C:Addr}{fd:FuncData}{ps:List Str}{x:Str}{p pos np cpos:Pos}{e:Expr}{es:List Expr}{tas:AF}{nm:String}
theorem abM{K:W.Frag}{F:Hp}:∀{ws:List VW}{vs:List V},RWs K F ws vs->ws.all WL.kf=true->∀v∈vs,∃i:Int,v=.int i/\i.natAbs.log2<100
|[],vs,h,_,v,a=>by simp only[RWs]at h;subst h;cases a|w::ws,vs,h,ha,v,a=>by
 simp only[RWs]at h;obtain⟨d,r,rfl,b,c⟩:=h;rw[List.all_cons,apg]at ha;rcases apl.mp a with rfl|a;·cases w with|int i=>simp only[RW]at b;subst b;exact⟨i,rfl,of_decide_eq_true ha.1⟩|_=>cases ha.1
 ·exact abM c ha.2 v a
def zE(N:X.K=B.K)(J:XW X B)(w:X.calm=true)(G:Gl X x)(z:X.mg x=some (.ref C))(q:gJ X.K C cP "ValueError.__new__" fI=true)(r:W.typeIn X.K (.ref fI)=some (.type "function"))(F:FnOk X.prog X.w X.K X.mg X.base CX0 k fI fd ps (spI C (WL.fieldsOf nm)))(I:Room (k+1) X.A)(K:Binds X.K fd ps [])(A:ExcAt X.K nm C)(O:(WL.fieldsOf nm).length<=50)(y:PA X (e::es) (loA B tas))(i:(x==("__debug__":Str))=false:=by decide)(M:starEach (e::es) X.env=(false,eval e X.env)::starEach es X.env:=by rfl)(a:(backTo cpos (starEach es X.env)).any (·.1)=false:=by rfl):PS X (.Raise (some (.Call (.Name x np) (e::es) [] cpos)) none pos) (loS B (WL.iu nm tas)):=PS.imp (aaP w G z q r F I K y i M a) λD j H l=>by
 obtain⟨o,F,R,q⟩:=l;have q:=Oq.ofR q;refine⟨o,F,R,Rq.mono (ar.refl _) q λws g h S m v E n=>?_⟩;by_cases f:ws.length=(WL.fieldsOf nm).length/\ws.all WL.kf=true
 ·rw[ao1 f]at g;have c:h.length=(WL.fieldsOf nm).length:=by rw[<-n.length];exact f.1
  refine⟨c,abM n f.2,O,λb s e d i Q t=>?_⟩;have P:m d=none:=v.rb.sub.free i;have u:ar m (upd m d (.xd ((WL.fieldsOf nm).zip h))):=az P _;refine J b j _ s o _ (.exc nm ws) (v.new i (.xd ((WL.fieldsOf nm).zip h))) (B.mono _ o F _ (E.f.trans u) g) e C (some d) none _ t ⟨A,(WL.fieldsOf nm).zip h,?_,?_,.inr ⟨d,rfl,ao⟩⟩;·rw[List.map_fst_zip (by omega)]
  ·rw[List.map_snd_zip (by omega),N];exact n.keep u
 ·rw[ao2 f]at g;exact(show False from g).elim
end
end WS
namespace WS
open PySem PySem.Spec PyProof.Rows L2
section
variable{K:W.Frag}{a:Addr}{f nm:Str}
def u3{C c:Addr}{n:String}(x:ExcAll K)(h:ExcAt K n C)(m:(W.clsIn K C).map (·.mro)=some (.ref C::.ref c::cP))(k:W.hasDictIn K C=true)(j:W.findIn K (.ref C) "__setattr__"=some (some (.builtin "object.__setattr__"))):ExcS K C:=by obtain⟨l,b,e⟩:=apy.mp m;obtain⟨i,d,g⟩:=W.any_some k;rw[b]at d;cases d;exact⟨x.k n C h,⟨l,b,g,.inr ⟨c,e⟩⟩,j⟩
end
end WS
namespace WS
open PySem PySem.Spec PyProof.Rows L2
open WL(Res Sl Ws EF TF AF LF GF GsF SF Out)
section
variable{X:Cx}{B:Bx}{e tg iter elt:Expr}{pos:Pos}{ta tb:EF}{tt:TF}{it:LF}{g:GF}{k:Nat}{scope:Scope}{ts:List Str}{ifs:List Expr}
def acC{σ:Ws}{C:L2.St}{s G:Hp}{J:It}{xs:List VW}{Q:V->Hp->Prop}(hg:Keeps k g)(R1:RS B σ C s G)(wk:Walk B.K J xs s)(hx:xs.length<=WL.lim)(hb:WL.bA g tt ta (List.replicate k .no++σ) xs≠.bad)(ex:∀c,WL.bA g tt ta (List.replicate k .no++σ) xs=.ex c->∀P f,ar s f->B.xp c P f)(fin:∀all,WL.bA g tt ta (List.replicate k .no++σ) xs=.ok all->∀n f l,RB B f l->Gr s G f l->RWs B.K f all n->∀D,l D=none->Q (.ref D) (upd l D (.lst n))):zo J (loG true B g) (loT B tt) (lo B ta) (List.replicate k none++C) G Q:=by
 refine⟨λi m n p l=>m=xs.length-i/\i<=xs.length/\n.length<=i/\∃f d,RS B (List.replicate k .no++σ) p f l/\Gr s G f l/\RWs B.K f d n/\WL.bA g tt ta (List.replicate k .no++σ) xs=(WL.bA g tt ta (List.replicate k .no++σ) (xs.drop i)).bind λr=>.ok (d++r),⟨xs.length,rfl,apH _,apH _,s,[],R1.ahead k,Gr.refl,by simp[RWs],?_⟩,?_⟩;·rw[aqR];cases WL.bA g tt ta (List.replicate k .no++σ) xs<;>rfl
 rintro i m n p l⟨rfl,hi,Y,f,d,K,o,U,a⟩;refine⟨aq8 (apc Y (apc hi hx)) (by decide),?_⟩;by_cases x:i<xs.length;·have hd:=apF x;rw[hd]at a;obtain⟨go,yl⟩:=wk.go i xs[i] (ao5 x) f l o.f K.rb.sub;refine .inr ⟨go,λw A H=>w.length<=i+1/\∃z d,RS B (List.replicate k .no++σ) A z H/\Gr s G z H/\RWs B.K z d w/\WL.bA g tt ta (List.replicate k .no++σ) xs=(WL.bA g tt ta (List.replicate k .no++σ) (xs.drop (i+1))).bind λr=>.ok (d++r),λw A H⟨a1,a2⟩=>⟨xs.length-(i+1),by omega,rfl,x,a1,a2⟩,λv H hy=>?_⟩;obtain⟨z,S,r2⟩:=yl v H hy;have R:=o.f.trans S.same;simp only[WL.bA]at a;refine⟨_,z,xs[i],S.rs _ _ _ K,r2,?_⟩;cases I:g xs[i] (List.replicate k .no++σ)with|bad=>rw[I]at a;exact(hb a).elim|ex c=>rw[I]at a;exact ex c a _ z R|ok σ1=>
   rw[I]at a;obtain⟨kl,kk⟩:=hg _ _ _ I;intro q H3 F3 R3 O;have back:∀{t M:Hp},RS B σ1 q t M->RS B (List.replicate k .no++σ) q t M:=λ{t M}N=>N.forget kl.symm λj sl T ne=>by
    by_cases hj:j<k;·rw[apq (by simpa using hj),apT,ao1 hj]at T;exact absurd (apf T).symm ne
    ·rw[kk j (by omega)];exact T
   have h:=S.gr.trans ⟨O.f,O.h rfl,O.nf⟩;have a:WL.bA g tt ta (List.replicate k .no++σ) xs=(((tt σ1).bind λb=>match b with|true=>(ta σ1).bind λy=>(WL.bA g tt ta (List.replicate k .no++σ) (xs.drop (i+1))).bind λn=>.ok (y::n)|false=>WL.bA g tt ta (List.replicate k .no++σ) (xs.drop (i+1))).bind λr=>.ok (d++r)):=a;refine⟨σ1,F3,R3,?_⟩;cases e2:tt σ1 with|bad=>rw[e2]at a;exact(hb a).elim|ex c=>rw[e2]at a;exact ex c a _ F3 (o.f.trans h.f)|ok b=>rw[e2]at a;intro M t N E;cases b with|false=>rw[ao2 ao7];exact⟨by omega,t,d,back N,o.trans (h.trans E),U.keep (h.trans E).f,a⟩|true=>rw[ao1 rfl];have a:=a;refine⟨σ1,t,N,?_⟩;cases Z:ta σ1 with|bad=>rw[Z]at a;exact(hb a).elim|ex c=>rw[Z]at a;exact ex c a _ t (o.f.trans (h.trans E).f)|ok y=>rw[Z]at a;intro u H5 F5 R5 g5 r5;refine⟨by rw[apD,aru];omega,F5,d++[y],back R5,o.trans ((h.trans E).trans g5),(U.keep ((h.trans E).trans g5).f).app (.one r5),?_⟩;rw[a];cases WL.bA g tt ta (List.replicate k .no++σ) (xs.drop (i+1))with|ok zs=>show Res.ok _=Res.ok _;rw[arj];rfl|ex c=>rfl|bad=>rfl
 ·have ei:i=xs.length:=by omega
  subst ei;rw[aqC]at a;have a:WL.bA g tt ta (List.replicate k .no++σ) xs=.ok (d++[]):=a;rw[apK]at a;exact .inl ⟨wk.stop f l o.f K.rb.sub,λD hD=>fin d a n f l K.rb o U D hD⟩
theorem RS.tK{B':Bx}{σ:Ws}{h:L2.St}{F H:Hp}(R:RS B σ h F H)(r:B'.K=B.K)(q:B'.H0=H)(m:B'.F0=F):RS B' (WL.tK σ) h F H:=by
 have b:∀{i:Nat}{f:Sl},(WL.tK σ)[i]?=some f->(∀w,f=.va w->σ[i]?=some (.va w))/\(∀ws,f≠.ow ws)/\(∀c d,f≠.od c d)/\(f=.ob->σ[i]?=some .ob):=λ{i f}e=>by unfold WL.tK at e;rw[apo]at e;cases n:σ[i]? with|none=>rw[n]at e;cases e|some s0=>rw[n]at e;have e:=apf e;subst e;cases s0 with|no=>exact⟨λw z=>(by cases z),λws z=>(by cases z),λc d z=>(by cases z),λz=>(by cases z)⟩|va w=>exact⟨λs z=>(by cases z;rfl),λws z=>(by cases z),λc d z=>(by cases z),λz=>(by cases z)⟩|ow ws=>exact⟨λw z=>(by cases z),λws z=>(by cases z),λc d z=>(by cases z),λz=>(by cases z)⟩|od c d=>exact⟨λw z=>(by cases z),λws z=>(by cases z),λc d z=>(by cases z),λz=>(by cases z)⟩|ob=>exact⟨λw z=>(by cases z),λws z=>(by cases z),λc d z=>(by cases z),λz=>rfl⟩
 refine⟨⟨R.rb.sub,q▸ar.refl _,m▸ar.refl _,λa o e=>.inl (m▸e)⟩,by rw[<-R.len];simp[WL.tK],λi w e=>?_,λi ws e=>((b e).2.1 ws rfl).elim,λi j ws p a _ l=>((b l).2.1 ws rfl).elim,λi c d e=>((b e).2.2.1 c d rfl).elim,λi j c d _ _ a _ l=>((b l).2.2.1 c d rfl).elim,λi e=>R.dd.ob i ((b e).2.2.2 rfl)⟩;rw[r];exact R.va i w ((b e).1 w rfl)
def aez{B':Bx}{c d F' H':Hp}(b:RB B' F' H')(h:B'.H0=d)(i:B'.F0=c):Gr c d F' H':=by subst h i;refine⟨b.fz0,b.base,λa o f l=>?_⟩;cases j:F' a with|none=>rfl|some o2=>
 rcases b.fr a o2 j with z|z;·rw[l]at z;cases z
 ·rw[f]at z;cases z.1
def aaG{B':Bx}{σ:Ws}{c:L2.St}{d f F' H':Hp}(R:RS B σ c d f)(b:RB B' F' H')(h:B'.H0=f)(i:B'.F0=d):RB B F' H':=by
 subst h i;refine⟨b.sub,R.rb.base.trans b.base,R.rb.fz0.trans b.fz0,λa o e=>?_⟩;rcases b.fr a o e with z|z;·exact R.rb.fr a o z
 ·exact .inr ⟨R.rb.base.free z.1,z.2⟩
def adi(b1:X.stack=X.env::X.outer)(b8:X.env.frame=some X.env.locals)(hK:X.K=B.K)(hx:XW X B)(L:CompLook X scope)(hc:X.calm=true)(hk:ts.length=k)(hg:Keeps k g)(hi:PI X tg iter (loI B it))(b5:∀C i j G E(A:Bx),A.K=X.K->XW ((X.comp scope C ts i j G).tri E []) A->PG ((X.comp scope C ts i j G).tri E []) tg (loG true A g))(b3:∀C i j G E(A:Bx),A.K=X.K->XW ((X.comp scope C ts i j G).tri E []) A->ahX ((X.comp scope C ts i j G).tri E []) ifs (loT A tt))(c1:∀C i j G E(A:Bx),A.K=X.K->XW ((X.comp scope C ts i j G).tri E []) A->PE ((X.comp scope C ts i j G).tri E []) elt (lo A ta))(hs:∀x,foldedSetIterable iter X.env x=pure x:=by intro _;rfl):PE X (.ListComp elt [⟨tg,iter,ifs,0⟩] scope pos) (lo B (WL.ace k it g tt ta)):=by
 subst hk;intro pins s d H Q I⟨Y,F,R,q⟩;have S:CompScope X scope ts:=L.scope;have a3:closureFor scope X.env=pure (cM X.env.cells scope.names []):=jc λy hy hf=>by obtain⟨c,hc⟩:=I.ok.has y.1 (S.free y hy hf);rw[hc];rfl
 have q:=Rq.bind (Rq.bind q);rw[eval_ListComp];refine asr (use:=none) rfl hs a3 S.kind S.names (thn (hi pins s d H (λJ H1=>∃F1 xs,RS B Y d F1 H1/\Gr F H F1 H1/\Walk B.K J xs F1/\Rq B Y F (if xs.length<=WL.lim then WL.bA g tt ta (List.replicate ts.length .no++WL.tK Y) xs else .bad) λys=>∀v a u,RS B Y d u a->Gr F H u a->RW B.K u (.lst ys) v->Q v a) I ⟨Y,F,R,Rq.mono (ar.refl _) q λxs P J H1 F1 R1 g1 wk=>⟨F1,xs,R1,g1,wk,?_⟩⟩) λxv s1 h1=>thn h1 λc8 s2 h2=>?_);·exact P
 obtain⟨it,G,tn,J,H2,e,Z,T,c0,f2,F1,xs,R1,g1,wk,P⟩:=h2;subst e;by_cases a2:xs.length<=WL.lim
 ·rw[ao1 a2]at P;let A:Bx:=⟨B.K,H2,F1,λc _ u=>B.xp c Y u,λc _ u b6 sm h=>B.mono c Y u b6 sm h⟩;let EC:Addr->Value->Shared->Prop:=λC v M=>∃(e Ce:Addr)(dx:Option Addr)(fl:Value)(T:Option Addr)(K:L2.St)(a u:Hp)(c:VW),v=.ref e/\Thr (X.comp scope C ts s2 H2 G) [] K a M e Ce dx fl T/\RB A u a/\B.xp c Y u/\XR X.K u c Ce dx;have xw:∀C,XW ((X.comp scope C ts s2 H2 G).tri (EC C) []) A:=λC b7 K a M b9 u c R' xp e Ce dx T fl t xr=>⟨e,Ce,dx,fl,T,K,a,u,c,rfl,Thr.gi (X:=X.comp scope C ts s2 H2 G) (pins:=[]) t,R'.rb,xp,xr⟩;have hW:zo J (loG true A g) (loT A tt) (lo A ta) (List.replicate ts.length none++d) H2 Q:=by
   refine acC hg (R1.tK rfl rfl rfl) wk a2 (λz=>by rw[z]at P;exact P) (λc z b9 u sm=>?_) λall z ys u a rb g' r D hD=>?_;·rw[z]at P;exact B.mono c Y F u (g1.f.trans sm) P
   ·rw[z]at P;have N:RB B u a:=aaG R1 rb rfl rfl;have R':=R1.grow g' N;exact P (.ref D) _ _ (R'.new hD _) (g1.trans (g'.trans (Gr.new (N.sub.free hD) hD _))) (by simp only[RW];exact⟨D,ys,rfl,SqL.of ao,r.keep (az (N.sub.free hD) _)⟩)
  refine oJ (Q:=Q) (RR:=λc2 C=>compPost (model X.prog X.w) X.A X.xe none (EP X pins d Q) c2 C) S EC (λ_ _ _=>hc) (λC=>b5 C s2 H2 G (EC C) A hK.symm (xw C)) (λC=>b3 C s2 H2 G (EC C) A hK.symm (xw C)) (λC=>c1 C s2 H2 G (EC C) A hK.symm (xw C)) Z T c0 f2 hW.c ?_ ?_;·intro C D a M m ys b4 hC hD hn c3 I' q;refine⟨m,hn,λh' a0=>?_⟩;have a1:C≠X.env.locals:=apQ (apa Z.lt hC);have c4:Inv X pins d (upd a D (.lst ys)) {M with heap:=h'}:=I'.turned (t':=M.toks) (it:=C) (λb o n e=>(a0.2 b n).trans e) (by rw[ag b4];exact c3) a1 (.inr (apc Z.sz hC)) (λx c e=>by obtain⟨v,q⟩:=Z.cell x c e;exact apm (apa q.lt hC)) (λp l=>apm (apa (apb (Z.pin p l).1) hC));exact⟨.ref D,_,c4,rfl,q⟩
  ·rintro C D _ M hC⟨e,Ce,dx,fl,T,K,a,u,c,rfl,t,rb,xp,xr⟩;have J':Inv X pins d a M:=Z.ahR (ch:=G) t.inv.os t.inv.base t.inv.hok t.inv.bare λb n=>⟨(f2 b n).2.2.2.1,(f2 b n).2.1,(f2 b n).2.2.2.2.1,(f2 b n).2.2.2.2.2⟩;obtain⟨m,a6,_⟩:=t.inv.loc;obtain⟨U,es,ep,c5,a9⟩:=id a6;have a4:a C=none:=t.inv.free;have a1:C≠X.env.locals:=apQ (apa Z.lt hC);have a8:s2.heap.get? C=none:=ap3 hC;have fC:FpX X pins a C:=Z.fpX a8 a4;have a5:∀v,U.data≠.cell v:=λv z=>by obtain⟨hd,_⟩:=a9;rw[hd]at z;cases z
   have J2:Inv X (pins++[(C,U)]) d a M:=J'.gy λp l=>by
    rcases apY.mp l with l|l;·exact J'.pin p (apt _ l)
    ·obtain rfl:p=(C,U):=by simpa using l
     exact⟨c5,a4,a1,fC.2.2.1,a5⟩
   have O:∀b,FpX (X.comp scope C ts s2 H2 G) [] a b->FpX X pins a b/\b≠C:=λb z=>by
    refine⟨?_,z.2.1⟩;rcases z.2.2.2.1 with n|n;·have f:=f2 b n;exact⟨z.1,f.2.1,f.2.2.1,f.2.2.2.1.imp (λw=>w) λw=>ap3 w,f.2.2.2.2.1,f.2.2.2.2.2⟩
    ·exact Z.fpX n z.1
   have b0:∀b,FpX X pins a b->b≠C->FpX X (pins++[(C,U)]) a b:=λb z ne=>⟨z.1,z.2.1,z.2.2.1,z.2.2.2.1,z.2.2.2.2.1,λp l=>by
    rcases apY.mp l with l|l;·exact z.2.2.2.2.2 p (apL _ l)
    ·rcases apY.mp l with l|l;·exact z.2.2.2.2.2 p (apt _ l)
     ·obtain rfl:p=(C,U):=by simpa using l
      exact ape ne⟩;have te:=O e t.fe;have t1:Thr X (pins++[(C,U)]) d a M e Ce dx fl T:=⟨J2,t.trc,b0 e te.1 te.2,λb n=>b0 b (O b (t.fT b n)).1 (O b (t.fT b n)).2⟩;refine t1.note b1 b8 λa7 T1 b2 t2=>?_;have pC:=(t2.inv.pin (C,U) (by simp)).1;refine⟨m,⟨U,es,ep,pC,a9⟩,λh' a0 c7 _=>?_⟩;have drop:∀b,FpX X (pins++[(C,U)]) a b->FpX X pins a b/\b≠C:=λb z=>⟨⟨z.1,z.2.1,z.2.2.1,z.2.2.2.1,z.2.2.2.2.1,λp l=>by
    rcases apY.mp l with l|l;·exact z.2.2.2.2.2 p (apL _ l)
    ·exact z.2.2.2.2.2 p (apt _ (apL _ l))⟩,λw=>z.2.2.2.2.2 (C,U) (by simp) w.symm⟩;have J3:Inv X pins d a {M with heap:=a7}:=t2.inv.gy λp l=>t2.inv.pin p (apt _ (apL _ l));have J4:Inv X pins d a {M with heap:=h'}:=Inv.turned (s:={M with heap:=a7}) (t':=M.toks) (it:=C) J3 (λb o n e=>(a0.2 b n).trans e) a4 a1 (.inr (apc Z.sz hC)) fC.2.2.2.2.1 fC.2.2.2.2.2;have t3:Thr X pins d a {M with heap:=h'} e Ce dx b2 (some T1):=⟨J4,t2.trc.keeps λb o n q=>(a0.2 b (by
    rcases n with rfl|n;·exact(drop _ t2.fe).2
    ·exact(drop b (t2.fT b n)).2)).trans q,(drop e t2.fe).1,λb n=>(drop b (t2.fT b n)).1⟩;refine t3.pass λc9 c6 t4=>?_;have N:RB B u a:=aaG R1 rb rfl rfl;exact hx pins d a _ Y u c (R1.grow (aez rb rfl rfl) N) xp e Ce dx (some T1) c6 t4 xr
 ·rw[ao2 a2]at P;exact(P).elim
end
section
variable{X:Cx}{B:Bx}{k:Nat}{f:Addr}{fd:FuncData}{ps:List Str}{fn:List VW->Res VW}{x:Str}{p pos:Pos}{e:Expr}{es:List Expr}{tas:AF}{n:Nat}{dws:List VW}{dvs:List V}{ds:List Value}
def abv(P:X.K=B.K)(hx:XW X B)(hd:∀F,RWs B.K F dws dvs)(hn:∀h ws,tas h=.ok ws->ws.length+dws.length=n):∀d H Q,lo B (WL.cL (λws=>fn (ws++dws)) tas) d H Q->aag X (spX X.K n fn) dvs (loA B tas) d H Q:=by intro d H Q⟨h,F,R,q⟩;have q:=Rq.bind q;refine⟨h,F,R,?_⟩;cases D:tas h with|bad=>rw[D]at q;exact q|ex c=>rw[D]at q;exact q|ok ws=>
 rw[D]at q;have q:Rq B h F (fn (ws++dws)) _:=q;intro vs K m i O r1;rw[P];have ext:∀{b g:Hp},ar m b->ar b g->ar K g->(∀a o,b a=some o->m a=some o\/K a=none/\NF o)->Gr m K b g/\RB B b g:=λ{b g}j u l fr=>by
  refine⟨⟨j,l,λa o eh I=>?_⟩,u,i.rb.base.trans l,i.rb.fz0.trans j,λa o M=>?_⟩;·cases M:b a with|none=>rfl|some o2=>
    rcases fr a o2 M with z|z;·rw[I]at z;cases z
    ·rw[eh]at z;cases z.1
  ·rcases fr a o M with z|z;·exact i.rb.fr a o z
   ·exact .inr ⟨i.rb.base.free z.1,z.2⟩
 refine⟨λC A g=>∃G b c,C=.ref G/\RS B h d b g/\B.xp c h b/\XR B.K b c G A,⟨m,ws++dws,i.rb.sub,r1.app (hd m),by rw[apD];exact hn h ws D,?_⟩,λr s e C A T S t⟨G,b,c,U,R2,Y,J⟩=>?_⟩;·cases E:fn (ws++dws)with|bad=>rw[E]at q;exact q.elim|ok w=>rw[E]at q;intro v g b j u l fr Z;obtain⟨y,N⟩:=ext j u l fr;exact q v g b (i.grow y N) (O.trans y) Z|ex c=>rw[E]at q;intro C A g b j u l fr J;obtain⟨y,N⟩:=ext j u l fr;exact⟨C,b,c,rfl,i.grow y N,B.mono c h F b (O.f.trans j) q,J⟩
 ·cases U;exact hx r d S s h b c R2 Y e C A (some T) _ t (by rw[P];exact J)
def zP(q:X.K=B.K)(h:XW X B)(F:FnOk X.prog X.w X.K X.mg X.base (CXX X.prog X.w) k f fd ps (spX X.K n fn))(g:Room k X.A)(d:Gl X x)(s:X.mg x=some (.ref f))(r:W.keepIn X.K (.ref f)=true)(l:Binds X.K fd ps ds)(c:Vals dvs ds)(o:∀F,RWs B.K F dws dvs)(j:PA X (e::es) (loA B tas))(i:∀t ws,tas t=.ok ws->ws.length+dws.length=n)(b:(x==("__debug__":Str))=false:=by decide)(m:starEach (e::es) X.env=(false,eval e X.env)::starEach es X.env:=by rfl)(a:(backTo pos (starEach es X.env)).any (·.1)=false:=by rfl):PE X (.Call (.Name x p) (e::es) [] pos) (lo B (WL.cL (λws=>fn (ws++dws)) tas)):=PE.imp (wF F g d s r l c j b m a) (abv q h o i)
end
structure FunD(K:W.Frag)(x qual:Str)(st:Stmt)(f:Addr)(fd:FuncData)(dV:Value):Prop where ex:∃(oc:Value)(od:Option Addr)(kV doc pm:Value)(an:Option Addr)(cdv ct:Value)(osl:Array (Option Value)),fd=W.fnOf x qual (bu st) (aH st) (af st) dV kV doc pm an cdv ct/\K.lookup f=some ⟨oc,od,.func fd,osl⟩/\W.codeIn K cdv qual=true
section
variable{P:Program}{w:World}{K:W.Frag}{mg:Str->Option Value}{base:Heap}
def ahr{x a:Str}{st:Stmt}{f:Addr}{j g:Value}{od i:Option Addr}{e:Array (Option Value)}{kV d h b ct:Value}(l:K.lookup f=some ⟨j,od,.func (W.fnOf x a (bu st) (aH st) (af st) g kV d h i b ct),e⟩)(c:W.codeIn K b a=true):FunD K x a st f (W.fnOf x a (bu st) (aH st) (af st) g kV d h i b ct) g:=⟨j,od,kV,d,h,i,b,ct,e,rfl,l,c⟩
def FunD.binds{x a:Str}{st:Stmt}{f T:Addr}{j:FuncData}{ps:List Str}{ds:List Value}{o:Obj}{items:Array Value}{n:Nat}(F:FunD K x a st f j (.ref T))(u:K.lookup T=some o)(l:o.data=.seq items n)(h:∀(kV b g:Value)(i:Option Addr)(c ct:Value)(d:List Value),(d++ds).length=ps.length->∃k:Option (Array Value)->Sem (List (Str×Value)),bindArgs (W.fnOf x a (bu st) (aH st) (af st) (.ref T) kV b g i c ct) ⟨d,[]⟩=seqItems? (.ref T)>>=k/\k (some items)=pure (ps.zip (d++ds))):Binds K j ps ds:=by obtain⟨v,od,kV,b,g,i,c,ct,t,rfl,y,p⟩:=F.ex;intro s d e q;obtain⟨k,r,m⟩:=h kV b g i c ct d q;exact BindsTo.of_defaults (k:=k) rfl (e _ _ u) l r m
def qf{x b:Str}{st:Stmt}{f:Addr}{O:FuncData}{dV:Value}{N ps:List Str}{k m n:Nat}{Y:List VW->Res VW}(t:SF)(Fn:FunD K x b st f O dV)(S:FnScope N ps (af st))(hn:N.length=n)(g:ps.length=m)(G:WL.run n t=Y)(a1:ps.length<=N.length)(h:∀(d:Value)(A:Around)(a:List Env)(s:Shared)(H:Hp)(E:XK)(B:Bx),B.K=K->Room k (A.deeper (envOfC b (af st) s.heap.objs.size f d))->XW (ff (CXX P w) P w K mg base N b (af st) f d A a s H E) B->PassesOwn (model P w) (ff (CXX P w) P w K mg base N b (af st) f d A a s H E).A (ff (CXX P w) P w K mg base N b (af st) f d A a s H E).env (ff (CXX P w) P w K mg base N b (af st) f d A a s H E).xe->PSs (ff (CXX P w) P w K mg base N b (af st) f d A a s H E) (aH st) (loS B t)):FnOk P w K mg base (CXX P w) (k+1) f O ps (spX K m Y):=by subst hn g G;obtain⟨oc,od,kV,Z,pm,an,d,ct,a0,rfl,lk,I⟩:=Fn.ex;refine u1 lk I S (λvs H Q E o=>by obtain⟨F,ws,_,r,R,_⟩:=o;rw[<-r.length];exact R) λA a s H vs Q E hr _ o=>?_;obtain⟨F,ws,sm,r,R,g⟩:=o;let U:Bx:=⟨K,H,F,λ_ _ _=>False,λ_ _ _ _ _ h=>h⟩;let J:Bx:=U.nY (λc _ u=>∀C l j i,ar u i->RB U i j->XR K i c C l->E (.ref C) l j) λc σ u F2 s h C l j i q=>h C l j i (s.trans q);refine⟨_,h d A a s H E J rfl hr (λX a2 H1 s1 σ u c R1 xp e C l T fl t D=>jN t (xp C l H1 u (ar.refl _) (R1.rb.box rfl rfl) D)) aqO,_,F,(RS.start sm r (by omega)).box (B':=J) rfl rfl rfl,?_⟩;unfold WL.run at g;cases e:t (ws.map .va++List.replicate (N.length-ws.length) .no)with|rt w=>rw[e]at g;exact λv j i p q y=>g v j i q p.sub p.base p.fr y|nx σ'=>rw[e]at g;exact λM j i z q=>g .non j i q z.rb.sub z.rb.base z.rb.fr (by simp[RW])|bk σ'=>rw[e]at g;exact g.elim|ct σ'=>rw[e]at g;exact g.elim|ex c σ'=>rw[e]at g;exact λC l j i q p D=>g C l j i q p.sub p.base p.fr D|bad=>rw[e]at g;exact g.elim
end
section
variable{P:List Value->Prop}
def us0(h:P []):∀a:List Value,a.length=0->P a:=λa e=>by rw[aqi.mp e];exact h
def us1(h:∀c,P [c]):∀b:List Value,b.length=1->P b:=λb e=>by cases b with|nil=>cases e|cons a t=>exact us0 (P:=λt=>P (a::t)) (h a) t (aq9 e)
def us2(h:∀d c,P [d,c]):∀b:List Value,b.length=2->P b:=λb e=>by cases b with|nil=>cases e|cons a t=>exact us1 (P:=λt=>P (a::t)) (λc=>h a c) t (aq9 e)
def us3(h:∀f c d,P [f,c,d]):∀b:List Value,b.length=3->P b:=λb e=>by cases b with|nil=>cases e|cons a t=>exact us2 (P:=λt=>P (a::t)) (λc d=>h a c d) t (aq9 e)
def us4(h:∀g c f d,P [g,c,f,d]):∀b:List Value,b.length=4->P b:=λb e=>by cases b with|nil=>cases e|cons a t=>exact us3 (P:=λt=>P (a::t)) (λc f d=>h a c f d) t (aq9 e)
def us5(h:∀i c f d g,P [i,c,f,d,g]):∀b:List Value,b.length=5->P b:=λb e=>by cases b with|nil=>cases e|cons a t=>exact us4 (P:=λt=>P (a::t)) (λc f d g=>h a c f d g) t (aq9 e)
def us6(h:∀j d g f i c,P [j,d,g,f,i,c]):∀b:List Value,b.length=6->P b:=λb e=>by cases b with|nil=>cases e|cons a t=>exact us5 (P:=λt=>P (a::t)) (λd g f i c=>h a d g f i c) t (aq9 e)
end
def AtD(K:W.Frag)(nm:Str)(st:Stmt):Prop:=∃(f:Addr)(a:FuncData),Fun K nm nm st f a/\W.nsIn K mainGlobals nm=some (some (.ref f))
def AtE(K:W.Frag)(nm:Str)(st:Stmt)(ds:Array Value):Prop:=∃(f T:Addr)(b:FuncData)(d:Option Addr)(n:Nat)(a:Array (Option Value)),FunD K nm nm st f b (.ref T)/\W.nsIn K mainGlobals nm=some (some (.ref f))/\W.keepIn K (.ref f)=true/\K.lookup T=some ⟨.type "tuple",d,.seq ds n,a⟩
def Cal(P:Program)(w:World)(K:W.Frag)(c:Str->Option Value)(a:Heap)(CX:CXT)(k:Nat)(nm:Str)(ps:List Str)(ds:List Value)(sp:Sp):Prop:=∃(f:Addr)(b:FuncData),FnOk P w K c a CX k f b ps sp/\c nm=some (.ref f)/\W.keepIn K (.ref f)=true/\Binds K b ps []/\Binds K b ps ds
section
variable{P:Program}{w:World}{K:W.Frag}{mg:Str->Option Value}{base:Heap}{CX:CXT}{k:Nat}{nm:Str}{ps:List Str}{sp:Sp}{st:Stmt}
def anC{f:Addr}{g:Value}{od h:Option Addr}{d:Array (Option Value)}{kV e i b ct:Value}(a:W.nsIn K mainGlobals nm=some (some (.ref f)))(l:K.lookup f=some ⟨g,od,.func (W.fnOf nm nm (bu st) (aH st) (af st) .none kV e i h b ct),d⟩)(c:W.codeIn K b nm=true)(q:W.keepIn K (.ref f)=true):AtD K nm st:=⟨f,_,abV l c q,a⟩
def ak4{f T:Addr}{h:Value}{od j d:Option Addr}{g sl:Array (Option Value)}{kV e i b ct:Value}{ds:Array Value}{n:Nat}(a:W.nsIn K mainGlobals nm=some (some (.ref f)))(l:K.lookup f=some ⟨h,od,.func (W.fnOf nm nm (bu st) (aH st) (af st) (.ref T) kV e i j b ct),g⟩)(c:W.codeIn K b nm=true)(q:W.keepIn K (.ref f)=true)(t:K.lookup T=some ⟨.type "tuple",d,.seq ds n,sl⟩):AtE K nm st ds:=⟨f,T,_,d,n,sl,ahr l c,a,q,t⟩
def AtD.cal(D:AtD K nm st)(i:∀nm v,W.nsIn K mainGlobals nm=some (some v)->mg nm=some v)(g:∀(kV d l:Value)(j:Option Addr)(c ct:Value)(e:List Value),e.length=ps.length->bindArgs (W.fnOf nm nm (bu st) (aH st) (af st) .none kV d l j c ct) ⟨e,[]⟩=pure (ps.zip e))(h:∀(f:Addr)(b:FuncData),Fun K nm nm st f b->FnOk P w K mg base CX k f b ps sp):Cal P w K mg base CX k nm ps [] sp:=by obtain⟨f,b,F,a⟩:=D;exact⟨f,b,h f b F,i _ _ a,F.kp,F.binds g,F.binds g⟩
def AtD.aoP(D:AtD K nm st)(i:∀nm v,W.nsIn K mainGlobals nm=some (some v)->mg nm=some v)(c:∀(kV e l:Value)(j:Option Addr)(d ct:Value)(g:List Value),g.length=ps.length->bindArgs (W.fnOf nm nm (bu st) (aH st) (af st) .none kV e l j d ct) ⟨g,[]⟩=pure (ps.zip g))(h:∀(f:Addr)(b:FuncData),Fun K nm nm st f b->mg nm=some (.ref f)->Binds K b ps []->FnOk P w K mg base CX k f b ps sp):Cal P w K mg base CX k nm ps [] sp:=by obtain⟨f,b,F,a⟩:=D;exact⟨f,b,h f b F (i _ _ a) (F.binds c),i _ _ a,F.kp,F.binds c,F.binds c⟩
def AtE.cal{ds:List Value}(D:AtE K nm st ds.toArray)(p:∀nm v,W.nsIn K mainGlobals nm=some (some v)->mg nm=some v)(m:∀(T:Addr)(kV b i:Value)(j:Option Addr)(e ct:Value)(c:List Value),(c++[]).length=ps.length->∃k:Option (Array Value)->Sem (List (Str×Value)),bindArgs (W.fnOf nm nm (bu st) (aH st) (af st) (.ref T) kV b i j e ct) ⟨c,[]⟩=seqItems? (.ref T)>>=k/\k (some ds.toArray)=pure (ps.zip (c++[])))(o:∀(T:Addr)(kV b i:Value)(j:Option Addr)(e ct:Value)(c:List Value),(c++ds).length=ps.length->∃k:Option (Array Value)->Sem (List (Str×Value)),bindArgs (W.fnOf nm nm (bu st) (aH st) (af st) (.ref T) kV b i j e ct) ⟨c,[]⟩=seqItems? (.ref T)>>=k/\k (some ds.toArray)=pure (ps.zip (c++ds)))(h:∀(f:Addr)(g:FuncData)(l:Value),FunD K nm nm st f g l->FnOk P w K mg base CX k f g ps sp):Cal P w K mg base CX k nm ps ds sp:=by obtain⟨f,T,g,d,n,r,F,a,q,t⟩:=D;exact⟨f,g,h f g _ F,p _ _ a,q,F.binds t rfl (m T),F.binds t rfl (o T)⟩
end
section
variable{X:Cx}{B:Bx}{k j:Nat}{ps:List Str}{ds:List Value}{fn:List VW->Res VW}{x:Str}{p pos:Pos}{e:Expr}{es:List Expr}{tas:AF}{n:Nat}{dws:List VW}{dvs:List V}
def cl(h:B.K=X.K)(g:Room j X.A)(C:Cal X.prog X.w X.K X.mg X.base CX0 k x ps ds (spW X.K n fn))(l:PA X (e::es) (loA B tas))(r:k<=j:=by decide)(i:∀s ws,tas s=.ok ws->ws.length=n:=by repeat first|exact eQ|apply aL)(d:Gl X x:=by rfl)(c:(x==("__debug__":Str))=false:=by decide)(o:starEach (e::es) X.env=(false,eval e X.env)::starEach es X.env:=by rfl)(a:(backTo pos (starEach es X.env)).any (·.1)=false:=by rfl):PE X (.Call (.Name x p) (e::es) [] pos) (lo B (WL.ay fn tas)):=by obtain⟨f,t,G,m,q,b,_⟩:=C;exact zQ h.symm G (g.mono r) d m q b l i c o a
def cl0(h:B.K=X.K)(g:Room j X.A)(C:Cal X.prog X.w X.K X.mg X.base CX0 k x ps ds (spW X.K 0 fn))(c:k<=j:=by decide)(d:Gl X x:=by rfl)(a:(x==("__debug__":Str))=false:=by decide):PE X (.Call (.Name x p) [] [] pos) (lo B (WL.ay fn WL.av)):=by obtain⟨f,i,G,m,q,b,_⟩:=C;exact adk h.symm G (g.mono c) d m q b a
def clX(h:B.K=X.K)(g:Room j X.A)(i:XW X B)(C:Cal X.prog X.w X.K X.mg X.base (CXX X.prog X.w) k x ps ds (spX X.K n fn))(o:PA X (e::es) (loA B tas))(s:k<=j:=by decide)(l:∀t ws,tas t=.ok ws->ws.length=n:=by repeat first|exact eQ|apply aL)(d:Gl X x:=by rfl)(c:(x==("__debug__":Str))=false:=by decide)(r:starEach (e::es) X.env=(false,eval e X.env)::starEach es X.env:=by rfl)(a:(backTo pos (starEach es X.env)).any (·.1)=false:=by rfl):PE X (.Call (.Name x p) (e::es) [] pos) (lo B (WL.cL fn tas)):=by obtain⟨f,u,G,m,q,b,_⟩:=C;exact adj h.symm i G (g.mono s) d m q b o l c r a
def clD(i:B.K=X.K)(h:Room j X.A)(l:XW X B)(C:Cal X.prog X.w X.K X.mg X.base (CXX X.prog X.w) k x ps ds (spX X.K n fn))(d:Vals dvs ds)(t:∀F,RWs B.K F dws dvs)(r:PA X (e::es) (loA B tas))(o:∀v ws,tas v=.ok ws->ws.length+dws.length=n)(u:k<=j:=by decide)(g:Gl X x:=by rfl)(c:(x==("__debug__":Str))=false:=by decide)(s:starEach (e::es) X.env=(false,eval e X.env)::starEach es X.env:=by rfl)(a:(backTo pos (starEach es X.env)).any (·.1)=false:=by rfl):PE X (.Call (.Name x p) (e::es) [] pos) (lo B (WL.cL (λws=>fn (ws++dws)) tas)):=by obtain⟨f,w,G,m,q,_,b⟩:=C;exact zP i.symm l G (h.mono u) g m q b d t r o c s a
end
def ak0{a:FuncData}{ps:List Str}(h:bindArgs a ⟨[],[]⟩=pure (ps.zip []))(us:List Value)(e:us.length=0):bindArgs a ⟨us,[]⟩=pure (ps.zip us):=by cases us with|nil=>exact h|cons _ _=>cases e
def bind1{a:FuncData}{ps:List Str}(h:∀b,bindArgs a ⟨[b],[]⟩=pure (ps.zip [b]))(us:List Value)(e:us.length=1):bindArgs a ⟨us,[]⟩=pure (ps.zip us):=us1 (P:=λus=>bindArgs a ⟨us,[]⟩=pure (ps.zip us)) h us e
def zh{a:FuncData}{ps:List Str}(h:∀b c,bindArgs a ⟨[b,c],[]⟩=pure (ps.zip [b,c]))(us:List Value)(e:us.length=2):bindArgs a ⟨us,[]⟩=pure (ps.zip us):=us2 (P:=λus=>bindArgs a ⟨us,[]⟩=pure (ps.zip us)) h us e
def zg{a:FuncData}{ps:List Str}(h:∀b c d,bindArgs a ⟨[b,c,d],[]⟩=pure (ps.zip [b,c,d]))(us:List Value)(e:us.length=3):bindArgs a ⟨us,[]⟩=pure (ps.zip us):=us3 (P:=λus=>bindArgs a ⟨us,[]⟩=pure (ps.zip us)) h us e
def akZ{a:FuncData}{ps:List Str}(h:∀b c f d,bindArgs a ⟨[b,c,f,d],[]⟩=pure (ps.zip [b,c,f,d]))(us:List Value)(e:us.length=4):bindArgs a ⟨us,[]⟩=pure (ps.zip us):=us4 (P:=λus=>bindArgs a ⟨us,[]⟩=pure (ps.zip us)) h us e
def ahT{a:FuncData}{ps:List Str}(h:∀b c f d g,bindArgs a ⟨[b,c,f,d,g],[]⟩=pure (ps.zip [b,c,f,d,g]))(us:List Value)(e:us.length=5):bindArgs a ⟨us,[]⟩=pure (ps.zip us):=us5 (P:=λus=>bindArgs a ⟨us,[]⟩=pure (ps.zip us)) h us e
def akY{a:FuncData}{ps:List Str}(h:∀c d g f i b,bindArgs a ⟨[c,d,g,f,i,b],[]⟩=pure (ps.zip [c,d,g,f,i,b]))(us:List Value)(e:us.length=6):bindArgs a ⟨us,[]⟩=pure (ps.zip us):=us6 (P:=λus=>bindArgs a ⟨us,[]⟩=pure (ps.zip us)) h us e
def ud2{a:FuncData}{T:Addr}{it:Array Value}{ds:List Value}{ps:List Str}(h:∀b c,∃k:Option (Array Value)->Sem (List (Str×Value)),bindArgs a ⟨[b,c],[]⟩=seqItems? (.ref T)>>=k/\k (some it)=pure (ps.zip ([b,c]++ds)))(us:List Value)(e:us.length=2):∃k:Option (Array Value)->Sem (List (Str×Value)),bindArgs a ⟨us,[]⟩=seqItems? (.ref T)>>=k/\k (some it)=pure (ps.zip (us++ds)):=us2 (P:=λus=>∃k:Option (Array Value)->Sem (List (Str×Value)),bindArgs a ⟨us,[]⟩=seqItems? (.ref T)>>=k/\k (some it)=pure (ps.zip (us++ds))) h us e
def ud3{a:FuncData}{T:Addr}{it:Array Value}{ds:List Value}{ps:List Str}(h:∀b c d,∃k:Option (Array Value)->Sem (List (Str×Value)),bindArgs a ⟨[b,c,d],[]⟩=seqItems? (.ref T)>>=k/\k (some it)=pure (ps.zip ([b,c,d]++ds)))(us:List Value)(e:us.length=3):∃k:Option (Array Value)->Sem (List (Str×Value)),bindArgs a ⟨us,[]⟩=seqItems? (.ref T)>>=k/\k (some it)=pure (ps.zip (us++ds)):=us3 (P:=λus=>∃k:Option (Array Value)->Sem (List (Str×Value)),bindArgs a ⟨us,[]⟩=seqItems? (.ref T)>>=k/\k (some it)=pure (ps.zip (us++ds))) h us e
def ud4{a:FuncData}{T:Addr}{it:Array Value}{ds:List Value}{ps:List Str}(h:∀b c f d,∃k:Option (Array Value)->Sem (List (Str×Value)),bindArgs a ⟨[b,c,f,d],[]⟩=seqItems? (.ref T)>>=k/\k (some it)=pure (ps.zip ([b,c,f,d]++ds)))(us:List Value)(e:us.length=4):∃k:Option (Array Value)->Sem (List (Str×Value)),bindArgs a ⟨us,[]⟩=seqItems? (.ref T)>>=k/\k (some it)=pure (ps.zip (us++ds)):=us4 (P:=λus=>∃k:Option (Array Value)->Sem (List (Str×Value)),bindArgs a ⟨us,[]⟩=seqItems? (.ref T)>>=k/\k (some it)=pure (ps.zip (us++ds))) h us e
def ud5{a:FuncData}{T:Addr}{it:Array Value}{ds:List Value}{ps:List Str}(h:∀b c f d g,∃k:Option (Array Value)->Sem (List (Str×Value)),bindArgs a ⟨[b,c,f,d,g],[]⟩=seqItems? (.ref T)>>=k/\k (some it)=pure (ps.zip ([b,c,f,d,g]++ds)))(us:List Value)(e:us.length=5):∃k:Option (Array Value)->Sem (List (Str×Value)),bindArgs a ⟨us,[]⟩=seqItems? (.ref T)>>=k/\k (some it)=pure (ps.zip (us++ds)):=us5 (P:=λus=>∃k:Option (Array Value)->Sem (List (Str×Value)),bindArgs a ⟨us,[]⟩=seqItems? (.ref T)>>=k/\k (some it)=pure (ps.zip (us++ds))) h us e
def cm{k:Nat}{A:Around}{a:Env}(r:Room k (A.deeper a))(h:40<=k:=by first|decide|omega|exact apc (show 40<=_ by decide) (aqm _ _)):A.handled.isNone=true:=r.calm h
section
variable{X:Cx}{B:Bx}{a b e:Expr}{ta tb:EF}{pos:Pos}{x:Str}
def va(i:Nat)(f:X.N[i]?=some x:=by rfl)(d:Vis X.env.scope x:=by first|exact Or.inl rfl|exact Or.inr (Or.inl rfl)|exact Or.inr (Or.inr rfl))(g:(x==("__debug__":Str))=false:=by decide)(c:(x==("__classdict__":Str))=false:=by decide):PE X (.Name x pos) (lo B (WL.aj i)):=aiw (pv i f d g c)
def wx(g:B.K=X.K)(c:PE X a (lo B ta))(f:PE X b (lo B tb))(d:j6 b:=by exact λ_ _=>rfl):PE X (.Subscript a b pos) (lo B (WL.eOp WL.oIx ta tb)):=aix acN (anL g.symm) c f d
def wk{v:V}{u:Value}{w:VW}(f:B.K=X.K)(d:X.mg x=some u)(r:RelV v u)(hw:∀F,RW X.K F w v)(c:Gl X x:=by rfl)(g:(x==("__debug__":Str))=false:=by decide):PE X (.Name x pos) (lo B (WL.eC w)):=ahZ (aaZ c d r g) (by rw[f];exact hw)
def wty{T:String}(f:X.mg x=none)(d:bootBuiltins x=some (.type T))(c:Gl X x:=by rfl)(h:x≠"__name__":=by decide)(g:(x==("__debug__":Str))=false:=by decide):PE X (.Name x pos) (lo B (WL.eC (.ty T))):=ahZ (amv c f d h g) (λ_=>by simp[RW])
def gx{i:Expr}{c:EF}{a0:Addr}{kvs:List (Str×V)}{ks vs:List VW}{p:Pos}(d:B.K=X.K)(l:X.mg x=some (.ref a0))(D:acW X.w X.K a0 kvs)(h:∀F k w,WL.k8 k ks vs=some w->∃v,kvs.lookup k=some v/\RW X.K F w v)(m:PE X i (lo B c))(g:Gl X x:=by rfl)(f:j6 i:=by exact λ_ _=>rfl)(j:(x==("__debug__":Str))=false:=by decide):PE X (.Subscript (.Name x p) i pos) (lo B (WL.eOp WL.oIx (WL.eC (.dic ks vs)) c)):=aiz d.symm (aaZ g l rfl j) D m (by rw[d];exact h) f
def we2(d:B.K=X.K)(f:X.A.units+64<cLine)(c:PE X a (lo B ta))(g:PE X b (lo B tb)):PT X (.Compare a [.Eq] [b] pos) (loT B (WL.tB (WL.eOp WL.oEq ta tb))):=bf calm_eq (w_eq d.symm f) c g (aU _)
def wn2(d:B.K=X.K)(f:X.A.units+64<cLine)(c:PE X a (lo B ta))(g:PE X b (lo B tb)):PT X (.Compare a [.NotEq] [b] pos) (loT B (WL.tB (WL.eOp WL.oNe ta tb))):=bf ahP (aos d.symm f) c g (aU _)
def wS(i:Nat){c:Pos}(g:X.N.Nodup)(k:PE X e (lo B ta))(j:X.N[i]?=some x:=by rfl)(h:Loc X.env.scope x:=by first|exact Or.inl rfl|exact Or.inr rfl)(d:swapsWith e (some (.Name x c)) pos.line X.env=pure false:=by rfl)(f:X.fn x=true\/X.env.scope.names.lookup x=some .local:=by first|exact .inl rfl|exact .inr rfl|assumption):PS X (.Assign [.Name x c] e pos) (loS B (WL.bK i ta)):=ais g j h k d f
def gN(i:Nat){b:Bool}(d:X.N.Nodup:=by exact wR rfl)(g:X.N[i]?=some x:=by rfl)(f:Loc X.env.scope x:=by first|exact Or.inl rfl|exact Or.inr rfl)(c:X.fn x=true\/X.env.scope.names.lookup x=some .local:=by first|exact .inl rfl|exact .inr rfl|assumption):PG X (.Name x pos) (loG b B (WL.aA i)):=af9 (uw d g f c)
end
section
variable{X:Cx}{B:Bx}{r:List VW->Res VW}{tas:AF}{x:Str}{e:Expr}{es:List Expr}{p pos:Pos}{id:String}
def wB(cm:∀k c,r k≠.ex c)(i:bJ X (.builtin id) (loN B.K r))(g:X.mg x=none)(f:bootBuiltins x=some (.builtin id))(j:PA X (e::es) (loA B tas))(d:Gl X x:=by rfl)(h:x≠"__name__":=by decide)(b:(x==("__debug__":Str))=false:=by decide)(l:starEach (e::es) X.env=(false,eval e X.env)::starEach es X.env:=by rfl)(a:(backTo pos (starEach es X.env)).any (·.1)=false:=by rfl):PE X (.Call (.Name x p) (e::es) [] pos) (lo B (WL.eBi r tas)):=aiA cm (wG i d g f j h b l a)
def wT(cm:∀k c,r k≠.ex c)(i:bJ X (.type id) (loN B.K r))(g:X.mg x=none)(f:bootBuiltins x=some (.type id))(j:PA X (e::es) (loA B tas))(d:Gl X x:=by rfl)(h:x≠"__name__":=by decide)(b:(x==("__debug__":Str))=false:=by decide)(l:starEach (e::es) X.env=(false,eval e X.env)::starEach es X.env:=by rfl)(a:(backTo pos (starEach es X.env)).any (·.1)=false:=by rfl):PE X (.Call (.Name x p) (e::es) [] pos) (lo B (WL.eBi r tas)):=aiA cm (q9 i d g f j h b l a)
def ak5(P:Program)(w:World)(K:W.Frag)(c:Str->Option Value)(a:Heap)(fI:Addr)(ps:List Str)(sp:Sp):Prop:=∃b:FuncData,FnOk P w K c a CX0 1 fI b ps sp/\Binds K b ps []
def rI{j:Nat}{C fI:Addr}{ps:List Str}{nm:String}{n c:Pos}(h:B.K=X.K)(g:Room j X.A)(i:XW X B)(k:X.calm=true)(u:X.mg x=some (.ref C))(q:gJ X.K C cP "ValueError.__new__" fI=true)(d:W.typeIn X.K (.ref fI)=some (.type "function"))(I:ak5 X.prog X.w X.K X.mg X.base fI ps (spI C (WL.fieldsOf nm)))(v:ExcAt X.K nm C)(l:PA X (e::es) (loA B tas))(m:2<=j:=by decide)(f:Gl X x:=by rfl)(t:(WL.fieldsOf nm).length<=50:=by decide)(s:(x==("__debug__":Str))=false:=by decide)(o:starEach (e::es) X.env=(false,eval e X.env)::starEach es X.env:=by rfl)(a:(backTo c (starEach es X.env)).any (·.1)=false:=by rfl):PS X (.Raise (some (.Call (.Name x n) (e::es) [] c)) none pos) (loS B (WL.iu nm tas)):=by obtain⟨w,F,b⟩:=I;exact zE h.symm i k f u q d F (g.mono m) b v t l s o a
end
section
variable{K:W.Frag}
def ai3{a:Addr}{d:Option Addr}{n:Nat}{sl:Array (Option Value)}{vs:Array Value}{xs:List V}(l:K.lookup a=some ⟨.type "tuple",d,.seq vs n,sl⟩)(b:Vals xs vs.toList)(c:vs.size<=sizeLine):∀H,SqT K H a xs:=λ_=>.inr ⟨_,_,_,l,rfl,rfl,c,b⟩
def akw{f:Addr}{a:Str}{st:Stmt}{g:Value}{od j:Option Addr}{e:Array (Option Value)}{kV d i b ct:Value}(l:K.lookup f=some ⟨g,od,.func (W.fnOf "__init__" a (bu st) (aH st) (af st) .none kV d i j b ct),e⟩)(c:W.codeIn K b a=true)(q:W.keepIn K (.ref f)=true):∃h,Fun K "__init__" a st f h:=⟨_,abV l c q⟩
def uV{P:Program}{w:World}{i:Str->Option Value}{b:Heap}{f:Addr}{a:Str}{st:Stmt}{ps:List Str}{sp:Sp}(D:∃c,Fun K "__init__" a st f c)(j:∀(kV d k:Value)(l:Option Addr)(g ct:Value)(e:List Value),e.length=ps.length->bindArgs (W.fnOf "__init__" a (bu st) (aH st) (af st) .none kV d k l g ct) ⟨e,[]⟩=pure (ps.zip e))(h:∀c:FuncData,Fun K "__init__" a st f c->FnOk P w K i b CX0 1 f c ps sp):ak5 P w K i b f ps sp:=by obtain⟨c,F⟩:=D;exact⟨c,h c F,F.binds j⟩
def aeE{nm:String}{a:Addr}(b:W.nsIn K mainGlobals (Str.ofString nm)=some (some (.ref a)))(c:W.typeIn K (.ref a)=some (.type "type"))(d:(W.clsIn K a).map (·.mro)=some (.ref a::cP))(e:W.findIn K (.ref a) "__getattribute__"=some (some (.builtin "BaseException.__getattribute__")))(f:W.findIn K (.ref a) "__getattr__"=some none)(g:W.findIn K (.ref a) "__class__"=some (some (.builtin "object.__class__"))):W.nsIn K mainGlobals (Str.ofString (nm,a).1)=some (some (.ref (nm,a).2))/\Exc1 K a (nm,a).2:=⟨b,c,.inl ⟨d,rfl⟩,e,f,g⟩
def ahy{nm:String}{a b:Addr}(h:W.nsIn K mainGlobals (Str.ofString nm)=some (some (.ref a)))(c:W.typeIn K (.ref a)=some (.type "type"))(d:(W.clsIn K a).map (·.mro)=some (.ref a::.ref b::cP))(e:W.findIn K (.ref a) "__getattribute__"=some (some (.builtin "BaseException.__getattribute__")))(f:W.findIn K (.ref a) "__getattr__"=some none)(g:W.findIn K (.ref a) "__class__"=some (some (.builtin "object.__class__"))):W.nsIn K mainGlobals (Str.ofString (nm,a).1)=some (some (.ref (nm,a).2))/\Exc1 K b (nm,a).2:=⟨h,c,.inr d,e,f,g⟩
def akK{a:Addr}{s:String}(h:W.excIn K a [.type "ValueError",.type "Exception",.type "BaseException",.type "object"] s=true):W.excIn K a cP s=true:=h
def ahz{a f:Addr}{s:String}(h:gJ K a [.type "ValueError",.type "Exception",.type "BaseException",.type "object"] s f=true):gJ K a cP s f=true:=h
end
def akg{P:Program}{w:World}{K:W.Frag}{i:Str->Option Value}{k:Nat}{n:List VW->Res VW}{st:Stmt}{o:Addr}{ps:List Str}(D:AtD K "law" st)(t:∀q v,W.nsIn K mainGlobals q=some (some v)->i q=some v)(j:i "law"=some (.ref o)){x:Str}(z:∀(kV c l:Value)(m:Option Addr)(g ct v:Value),bindArgs (W.fnOf "law" "law" (bu st) (aH st) (af st) .none kV c l m g ct) ⟨[v],[]⟩=pure [(x,v)])(h:∀(b:Heap)(f:Addr)(d:FuncData),Fun K "law" "law" st f d->FnOk P w K i b CX0 k f d ps (spW K 1 n))(r:∀p:List Int,p.length<=63->n [.lst (p.map .int)]=.ok (.bl true)):∃d:FuncData,(∀(s:Shared)(v:Value),BindsTo s d ⟨[v],[]⟩ [(x,v)])/\∀b:Heap,K.In b->b.Ns mainGlobals i->FnOk P w K i b CX0 k o d ps (aam K):=by obtain⟨f,d,F,a⟩:=D;have e:=j.symm.trans (t _ _ a);cases e;refine⟨d,λs v=>?_,λb _ _=>akf (h b _ _ F) r⟩;obtain⟨A,od,kV,c,l,m,g,ct,u,rfl,B,y⟩:=F.ex;exact .of_eq (z kV c l m g ct v)
end WS
namespace WL
open PySem
noncomputable def dd:List (List Int)->List (List Int):=List.foldl (λa k=>if k∈a then a else k::a) []
mutual def anc:W->Bool|.tup xs=>sf xs|.lst xs=>sf xs|.dic _ _=>false|.cls _=>false|.exc _ _=>false|.ins _ _=>false|.id _=>false|_=>true def sf:List W->Bool|[]=>true|x::xs=>anc x&&sf xs end
end WL
namespace WS
open PySem PySem.Spec PyProof.Rows L2
open WL(Res Sl Ws EF TF AF LF GF GsF SF Out)
noncomputable def one(a:Addr)(o:HO):Hp:=λb=>if b=a then some o else none
section
variable{X:Cx}{B:Bx}{σ:Ws}{σV:L2.St}{F H:Hp}
def RS.drop(R:RS B σ σV F H)(i:Nat)(x:Option V):RS B (σ.set i .no) (σV.set i x) F H:=by
 have c:∀{j:Nat}{sl:Sl},(σ.set i .no)[j]?=some sl->sl≠.no->i≠j/\σ[j]?=some sl:=λ{j sl}e p=>by
  by_cases b:i=j
  ·subst b;have q:i<σ.length:=by have:=(ao3.mp e).1;simpa using this
   rw[ao8 q]at e;cases e;exact absurd rfl p
  ·rw[ao0 b]at e;exact⟨b,e⟩
 refine⟨R.rb,by simp[R.len],λj w e=>?_,λj ws e=>?_,λj k ws d a h f g l m=>?_,R.akQ i (sl:=.no) (λz=>z) _ (ar.refl _) λ_ _ _ _ _ _ _ _ n r=>⟨r,n⟩⟩;·obtain⟨b,e⟩:=c e (by intro z;cases z);rw[ao0 b];exact R.va j w e
 ·obtain⟨b,e⟩:=c e (by intro z;cases z);rw[ao0 b];exact R.ow j ws e
 ·obtain⟨b,f⟩:=c f (by intro z;cases z);obtain⟨o,g⟩:=c g (by intro z;cases z);rw[ao0 b]at l;rw[ao0 o]at m;exact R.ap j k ws d a h f g l m
def RS.away(R:RS B σ σV F H){a:Addr}(o:HO)(w:F a=none)(q:B.H0 a=none)(l:∀(j:Nat)(ws:List VW),σ[j]?=some (Sl.ow ws)->σV[j]?≠some (some (V.ref a)))(g:∀(j:Nat)(d f:List VW),σ[j]?=some (Sl.od d f)->σV[j]?≠some (some (V.ref a))):RS B σ σV F (upd H a o):=by
 refine⟨⟨λb u e=>?_,λb u e=>?_,R.rb.fz0,R.rb.fr⟩,R.len,R.va,λj ws e=>?_,R.ap,R.dd.via rfl id (λ_ _ z=>.inl z) (λ_ _ _ e=>⟨e,rfl⟩) (ar.refl _) λj d f b v t r p y k=>⟨y,k,by
  have c:b≠a:=λz=>by subst z;exact g j d f t r
  rw[ag c];exact p⟩⟩
 ·have c:b≠a:=λz=>by subst z;rw[w]at e;cases e
  rw[ag c];exact R.rb.sub b u e
 ·have c:b≠a:=λz=>by subst z;rw[q]at e;cases e
  rw[ag c];exact R.rb.base b u e
 ·obtain⟨b,n,h,i,m,s,x⟩:=R.ow j ws e;have c:b≠a:=λz=>by subst z;exact l j ws e h
  exact⟨b,n,h,i,m,by rw[ag c];exact s,x⟩
variable{i:Nat}{as:List VW}{s1 s2:SF}{st:Stmt}{sts rest:List Stmt}{tt:TF}{pos:Pos}
end
end WS
namespace SF
open PySem PySem.Builtin PySem.Builtin.Str PySem.StrLaws
noncomputable def acX(sub:List Nat)(k:Nat):Nat->Nat->List Nat->List Nat|_,_,[]=>[]|i,free,c::l=>if Nat.ble free i&&sub.isPrefixOf (c::l)then i::acX sub k (i+1) (i+k) l else acX sub k (i+1) free l
noncomputable def akV(xs:List Nat)(k:Nat):Nat->List Nat->List Str|st,[]=>[⟨(xs.drop st).toArray⟩]|st,c::cs=>⟨((xs.drop st).take (c-st)).toArray⟩::akV xs k (c+k) cs
def ai1(x y:Str)(i:Nat)(c:y.length≠0):(i+y.length<=x.length/\subAt x y i=true)↔ y.cps.toList.isPrefixOf (x.cps.toList.drop i)=true:=by
 obtain⟨f⟩:=x;obtain⟨e⟩:=y;simp only[Str.length]at c⊢;unfold subAt;simp only[Str.length,ap8];rw[List.isPrefixOf_iff_prefix,List.prefix_iff_eq_take,<-art,arH];simp only[aqj,aqW];constructor;·rintro⟨d,a⟩;rw[<-a];simp[asD];try omega
 ·intro h;have b:=aqc List.length h;simp at b;refine⟨by omega,?_⟩;rw[asD];rw[h];simp;try omega
theorem abb(x y:Str)(f:y.length≠0):∀(m i free:Nat)(a:Array Nat),i+m=x.length+1->a.size<=i->(forIn (List.range' i m) (a,free) (occBody x y x.length (x.length+1))).run.fst.toList=a.toList++acX y.cps.toList y.length i free (x.cps.toList.drop i)
|0,i,free,a,hm,ha=>by
  have:x.cps.toList.drop i=[]:=by rw[arI];exact apc (aqL _) (aq1 hm.symm)
  rw[this];simp[acX]|m+1,i,free,a,hm,ha=>by
  have l:=ai1 x y i f;rw[List.range'_succ,List.forIn_cons];have j:a.size<x.length+1:=hm▸aq8 ha (Nat.lt_add_of_pos_right (Nat.succ_pos m));have d:=(Nat.succ_add_eq_add_succ i m).trans hm;by_cases c:free<=i/\y.cps.toList.isPrefixOf (x.cps.toList.drop i)=true
  ·have g:=l.mpr c.2;have h:occBody x y x.length (x.length+1) i (a,free)=pure (ForInStep.yield (a.push i,i+y.length)):=by unfold occBody;rw[ao1 ⟨⟨⟨j,c.1⟩,g.1⟩,g.2⟩]
   rw[h];have b:i<x.cps.toList.length:=apa (Nat.lt_add_of_pos_right (Nat.pos_of_ne_zero f)) g.1;have k:=abb x y f m (i+1) (i+y.length) (a.push i) d (by rw[Array.size_push];exact Nat.succ_le_succ ha);have e:x.cps.toList.drop i=x.cps.toList[i]::x.cps.toList.drop (i+1):=apF b;rw[e]at c⊢;simp only[acX,c.2,Nat.ble_eq.mpr c.1,Bool.and_self,apU];refine Eq.trans k ?_;simp
  ·have h:occBody x y x.length (x.length+1) i (a,free)=pure (ForInStep.yield (a,free)):=by unfold occBody;rw[ao2];rintro⟨⟨⟨_,o⟩,n⟩,p⟩;exact c ⟨o,l.mp ⟨n,p⟩⟩
   rw[h];have k:=abb x y f m (i+1) free a d (Nat.le_succ_of_le ha);refine Eq.trans k ?_;by_cases b:i<x.cps.toList.length
   ·have e:x.cps.toList.drop i=x.cps.toList[i]::x.cps.toList.drop (i+1):=apF b;rw[e]at c⊢;have:(Nat.ble free i&&y.cps.toList.isPrefixOf (x.cps.toList[i]::x.cps.toList.drop (i+1)))=false:=by rw[Bool.eq_false_iff];intro z;rw[apg,Nat.ble_eq]at z;exact c z
    simp only[acX,this,apE,apN]
   ·have q:x.cps.toList.drop i=[]:=arI.mpr (asq b);have r:x.cps.toList.drop (i+1)=[]:=arI.mpr (Nat.le_succ_of_le (asq b));rw[q,r];simp[acX]
def wL(x y:Str)(a:y.length≠0):occurrences x y 0 x.length (x.length+1)=acX y.cps.toList y.length 0 0 x.cps.toList:=by rw[StrLaws.occ_eq];have:=abb x y a (x.length+1) 0 0 #[] (Nat.zero_add _) (ao6 _);simpa using this
theorem wH(x:Str)(k:Nat):∀(a:List Nat)(st:Nat),((st::a.map (·+k)).zip (a++[x.length])).map (λ(p:Nat×Nat)=>strSub x p.1 p.2)=akV x.cps.toList k st a|[],st=>by simp only[aqB,aqr,aq6,List.zip_nil_right,ao9,akV,List.zip_nil_left];congr 1;unfold strSub;congr 1;apply art.mp;rw[arH];simp[aqW,Str.length,List.take_of_length_le]|c::a,st=>by have b:=wH x k a (c+k);simp only[ao9,ap1,aq6,akV];rw[<-b];congr 1;unfold strSub;congr 1;apply art.mp;rw[arH,aqW];first|rfl|(rw[asD];done)|skip
def aal(x y:Str):List Str:=match acX y.cps.toList y.length 0 0 x.cps.toList with|[]=>[x]|c::cs=>akV x.cps.toList y.length 0 (c::cs)
def ya(x y:Str)(d:y.length≠0)(f:strKind y=1):Txt.split x y=aal x y:=by
 unfold Txt.split aal;rw[wL x y d];have a:decide (strKind x<strKind y)=false:=by
  rw[f];unfold PySem.Builtin.Str.strKind;split;·rfl
  ·split<;>rfl
 rw[a];cases e:acX y.cps.toList y.length 0 0 x.cps.toList with|nil=>simp|cons c cs=>
  have g:¬x.length<y.length:=λz=>by have b:=wL x y d;rw[e]at b;have:=occ_spec x y 0 x.length (x.length+1) c (by rw[b];simp);omega
  simp only[api g,Bool.or_self,apE,apN,ar8];exact wH x y.length (c::cs) 0
end SF
namespace WL
open PySem
def ag8:W->W->Res W|.str x,.str y=>if x.length+y.length<=lim then .ok (.str (x++y))else .bad|_,_=>.bad
def aoU:W->W->Res W|.lst xs,.int k=>if -1000000<=k/\k<=1000000/\xs.length*k.toNat<=lim then .ok (.lst (List.replicate k.toNat xs).flatten)else .bad|.tup xs,.int k=>if xs≠[]/\k≠1/\-1000000<=k/\k<=1000000/\xs.length*k.toNat<=lim then .ok (.tup (List.replicate k.toNat xs).flatten)else .bad|_,_=>.bad
noncomputable def aoX:List W->Res W|[.int i]=>if i.natAbs.log2<1920 then .ok (.str (toString i))else .bad|_=>.bad
def h7:W->List W->Res W|.str x,[.str y]=>if y.length≠0/\Builtin.Str.strKind y=1/\x.length<=lim then .ok (.lst ((SF.aal x y).map .str))else .bad|_,_=>.bad
noncomputable def ix:W->List W->Res W|.str x,[.str y]=>.ok (.bl (Txt.startswith x y))|_,_=>.bad
def rO:W->List W->Res W|.str x,[.str y]=>if y.length≠0/\x.length<=lim then .ok (.tup [.str (Txt.partition x y).1,.str (Txt.partition x y).2.1,.str (Txt.partition x y).2.2])else .bad|_,_=>.bad
noncomputable def strsOf:List W->Option (List Str)|[]=>some []|.str x::r=>(strsOf r).map (x::·)|_=>none
def uJ:W->W->Res W|.str x,.int i=>if 0<=i/\x.length<=lim then .ok (.str (Txt.slice x (some i) none))else .bad|_,_=>.bad
noncomputable def agH(lo st:Int)(n:Nat):List W:=(List.range n).map λi=>.int (lo+(i:Nat)*st)
def aet(a b:EF):LF:=λc=>(a c).bind λx=>(b c).bind λy=>match x,y with|.int i,.int j=>if -(2^60)<=i/\i<2^60/\-(2^60)<=j/\j<2^60 then .ok (agH i 2 ((j-i+1)/2).toNat)else .bad|_,_=>.bad
noncomputable def aoL:W->Res W|.int i=>if i.natAbs<1000 then .ok (.int i)else .bad|.str x=>if x.length<=1000 then .ok (.str x)else .bad|_=>.bad
noncomputable def shL:List W->Option Nat|[]=>some 3|.str x::r=>(shL r).map (·+(10*x.length+4))|.int i::r=>if i.natAbs<1000 then(shL r).map (·+12)else none|_=>none
def shC(ws:List W):Bool:=dQ 51 ws&&(match shL ws with|some n=>decide (n<=80000)|none=>false)
def aoK:W->Res W|.str x=>if x.length<=5000/\(x.cps.toList.all λc=>Nat.ble c 1114111)=true then .ok (.str x)else .bad|.lst ws=>if shC ws=true then .ok (.lst ws)else .bad|.int i=>if i.natAbs<1000 then .ok (.int i)else .bad|.non=>.ok .non|.tup ws=>if shC ws=true then .ok (.tup ws)else .bad|.bl b=>.ok (.bl b)|_=>.bad
def eFf(e:EF):EF:=λa=>(e a).bind aoL
def eFr(e:EF):EF:=λa=>(e a).bind aoK
end WL
namespace WS
open PySem PySem.Spec PyProof.Rows L2 PySem.Builtin PySem.Builtin.Str
open WL(Res Sl Ws EF TF AF LF GF GsF SF Out)
section
variable{X:Cx}{B:Bx}{K:W.Frag}
def xI:Calm WL.ag8:=λx y c h=>by
 unfold WL.ag8 at h;split at h;·split at h<;>cases h
 ·cases h
def aiI:OpR X (binaryOp .Add) (lo2 K WL.ag8):=by intro f s n H x y v u Q I h k⟨F,wx,i,o,d,g,q⟩;cases e:WL.ag8 wx i with|bad=>rw[e]at q;exact q.elim|ex c=>rw[e]at q;exact q.elim|ok w=>
  rw[e]at q;unfold WL.ag8 at e;split at e
  ·split at e;·rename_i a b j;cases e;simp only[RW]at d g;subst d g;obtain⟨t,rfl⟩:=h;obtain⟨l,rfl⟩:=k;exact PyProof.Rows.add_str (λm tk=>⟨.str (a++b),H,I.tok tk,⟨_,rfl⟩,eq1 q (by simp[RW])⟩) (apc j dw)
   ·cases e
  ·cases e
def aly(K:W.Frag)(r:VW->List VW->Res VW):V->List V->Hp->VK->Prop:=λx a H Q=>∃F w ws,ar F H/\RW K F w x/\RWs K F ws a/\Eq1 F H K (r w ws) Q
def tS{e:Expr}{j:EF}{tas:AF}{r:VW->List VW->Res VW}(cm:∀w ws c,r w ws≠.ex c)(h:PE X e (tBM X.K "str" (aly B.K r) (lo B j) (loA B tas))):PE X e (lo B (WL.acb "str" r j tas)):=PE.imp h λf H Q g=>by obtain⟨a,F,R,q⟩:=g;have q:=Rq.bind q;refine⟨a,F,R,Rq.mono (ar.refl _) q λw d v A l o k i=>?_⟩;cases w with
|str x=>have d:=Rq.bind (show Rq B a F ((tas a).bind λws=>r (.str x) ws) _ from d);simp only[RW]at i;subst i;refine⟨rfl,a,l,o,Rq.mono k.f d λws b y C p R2 n u=>?_⟩;refine⟨p,.str x,ws,R2.rb.sub,by simp[RW],u,?_⟩;cases em:r (.str x) ws with|bad=>rw[em]at b;exact b.elim|ex c=>exact absurd em (cm _ _ c)|ok z=>rw[em]at b;exact λv s m ex t=>b v m s (ex.rs B a f R2) ((k.trans n).trans ex.gr) t
|_=>exact(show False from d).elim
theorem qq:∀(tk:Nat)(ys:List Str),Vals (ys.map V.str) (strsFrom tk ys)|_,[]=>.nil|tk,y::ys=>.cons ⟨tk,rfl⟩ (qq (tk+1) ys)
theorem kY{F:Hp}:∀a:List Str,RWs K F (a.map WL.W.str) (a.map V.str)|[]=>by simp[RWs]|y::a=>by simp only[ao9,RWs];exact⟨_,_,rfl,by simp[RW],kY a⟩
def zd:∀w ws c,WL.h7 w ws≠.ex c:=λw ws c h=>by
 unfold WL.h7 at h;split at h;·split at h<;>cases h
 ·cases h
def aea:MtR X "str.split" (aly K WL.h7):=by intro g s J H x O v N Q I y j⟨F,w,ws,m,p,D,q⟩;cases e:WL.h7 w ws with|bad=>rw[e]at q;exact q.elim|ex c=>rw[e]at q;exact q.elim|ok z=>
  rw[e]at q;unfold WL.h7 at e;split at e
  ·split at e
   ·rename_i a b A;obtain⟨n,C,l⟩:=A;cases e;simp only[RW]at p;subst p;obtain⟨M,rfl,r⟩:=cz D;simp only[RW]at r;subst r;obtain⟨t,rfl⟩:=y;obtain⟨u,rfl,⟨t',rfl⟩⟩:=vals1 j;have f:(b.length==0)=false:=by simpa using n
    have G:a.length<=sizeLine:=apc l dw;have E:a.length+2<=sizeLine:=apc (Nat.add_le_add_right l 2) (by decide);have o:(partsBetween a (occurrences a b 0 a.length (a.length+1)) b.length).length<=sizeLine:=by have h:=StrLaws.occ_length_le a b 0 a.length (a.length+1);rw[length_partsBetween];omega
    have q:Eq1 F H K (.ok (.lst ((Txt.split a b).map .str))) Q:=by rw[SF.ya a b n C];exact q
    have one:Txt.split a b=[a]->∃v k,Inv X g J k {s with heap:=s.heap.push {cls:=.type "list",data:=.seq #[.str a t]}}/\RelV v (.ref s.heap.objs.size)/\Q v k:=λh=>by rw[h]at q;exact⟨.ref _,_,I.am6 (t':=s.toks) (ys:=[.str a]) (its:=[.str a t]) (.cons ⟨_,rfl⟩ .nil) (show 1<=sizeLine by decide),rfl,aid m q (kY [a]) I.fresh⟩
    cases d:(decide (a.length<b.length)||decide (strKind a<strKind b))
    ·cases i:(occurrences a b 0 a.length (a.length+1)).isEmpty;·refine arD aqM (arc _ _ _) arh (ara _ _) (meets_str_split_sep a b t t' d f i G o) ?_;have h:Txt.split a b=partsBetween a (occurrences a b 0 a.length (a.length+1)) b.length:=(ao2 (arN d)).trans (ao2 (arN i));rw[h]at q;exact⟨.ref _,_,I.am6 (qq _ _) (by rw[apk];exact o),rfl,aid m q (kY _) I.fresh⟩
     ·refine arD aqM (arc _ _ _) arh (ara _ _) (meets_str_split_not_found a b t t' d f i) ?_;exact one ((ao2 (arN d)).trans (ao1 i))
    ·refine arD aqM (arc _ _ _) arh (ara _ _) (meets_str_split_cannot_occur a b t t' d) ?_;exact one (ao1 d)
   ·cases e
  ·cases e
def vp:∀w ws c,WL.ix w ws≠.ex c:=λw ws c h=>by unfold WL.ix at h;split at h<;>cases h
def abh:MtR X "str.startswith" (aly K WL.ix):=by intro g s n H x p v m Q I i d⟨F,w,ws,o,f,j,q⟩;cases e:WL.ix w ws with|bad=>rw[e]at q;exact q.elim|ex c=>rw[e]at q;exact q.elim|ok z=>
 rw[e]at q;unfold WL.ix at e;split at e;·rename_i a b;cases e;simp only[RW]at f;subst f;obtain⟨k,rfl,h⟩:=cz j;simp only[RW]at h;subst h;obtain⟨t,rfl⟩:=i;obtain⟨u,rfl,⟨l,rfl⟩⟩:=vals1 d;exact SC.startswith ⟨.bl _,H,I,rfl,eq1 q (by simp[RW])⟩
 ·cases e
def acJ:∀w ws c,WL.rO w ws≠.ex c:=λw ws c h=>by
 unfold WL.rO at h;split at h;·split at h<;>cases h
 ·cases h
def aha:MtR X "str.partition" (aly K WL.rO):=by intro h s O H x S v R Q I C n⟨F,w,ws,G,y,J,q⟩;cases e:WL.rO w ws with|bad=>rw[e]at q;exact q.elim|ex c=>rw[e]at q;exact q.elim|ok z=>
  rw[e]at q;unfold WL.rO at e;split at e
  ·split at e
   ·rename_i a b D;obtain⟨M,E⟩:=D;cases e;simp only[RW]at y;subst y;obtain⟨P,rfl,A⟩:=cz J;simp only[RW]at A;subst A;obtain⟨t,rfl⟩:=C;obtain⟨u,rfl,⟨t',rfl⟩⟩:=vals1 n;have j:(b.length==0)=false:=by simpa using M
    have N:a.length<=sizeLine:=apc E dw;have lay:∀(d g f:Str)(m l k:Tok)(tk:Nat),Eq1 F H K (.ok (.tup [.str d,.str g,.str f])) Q->∃v p,Inv X h O p {s with heap:=s.heap.push {cls:=.type "tuple",data:=.seq [.str d m,.str g l,.str f k].toArray},toks:=tk}/\RelV v (.ref s.heap.objs.size)/\Q v p:=λd g f m l k tk q=>by refine⟨.ref _,_,I.laid (t':=tk) (o:=.tup [.str d,.str g,.str f]) (λb ob q=>aoZ _ q) (ao6 _) ?_,rfl,alG G q (vs:=[.str d,.str g,.str f]) (kY [d,g,f]) I.fresh⟩;exact⟨show 3<=sizeLine by decide,[.str d m,.str g l,.str f k],.cons ⟨_,rfl⟩ (.cons ⟨_,rfl⟩ (.cons ⟨_,rfl⟩ .nil)),_,apd _ rfl,rfl,0,rfl⟩
    refine arD ar2 (arc _ _ _) PySem.F.entry_str_partition (PySem.F.args_str_partition_2 _ _) (meets_str_partition a b t t' j N) ?_;unfold Txt.partition at q;revert q;cases occurrences a b 0 a.length 1 with|nil=>intro q;exact lay _ _ _ _ _ _ _ q|cons i r=>intro q;exact lay _ _ _ _ _ _ _ q
   ·cases e
  ·cases e
def aoG(K:W.Frag):V->Option Int->Option Int->Hp->VK->Prop:=λx l h H Q=>∃F wx i,ar F H/\RW K F wx x/\l=some i/\h=none/\Eq1 F H K (WL.uJ wx (.int i)) Q
def ai5:SlR X (aoG K):=by intro d s w H x v A o lo p n Q I g f pl m⟨F,wx,i,y,r,j,b,q⟩;subst j b;cases pl with|int i ti=>cases m;cases e:WL.uJ wx (.int i)with|bad=>rw[e]at q;exact q.elim|ex c=>rw[e]at q;exact q.elim|ok z=>rw[e]at q;cases wx with
 |str a=>
   simp only[RW]at r;subst r;obtain⟨t,rfl⟩:=g;unfold WL.uJ at e;dsimp only at e;split at e;·rename_i b;cases e;refine⟨"str",_,PySem.F.slot_str_getitem.lookup,arc _ _ _,wpAny_getItem_str_slice (l:=some (i,ti)) (u:=none) (st:=none) f rfl ?_⟩;exact post_val_or_str ⟨apc (Txt.slice_le a _ _) (apc b.2 dw),λh k=>⟨.str (Txt.slice a (some i) none),H,I.tok k,⟨h,rfl⟩,eq1 q (by simp[RW])⟩⟩
   ·cases e|_=>cases e
def aga{a b:Expr}{ta tb:EF}{C pos:Pos}(r:PE X a (lo B ta))(t:PE X b (lo B tb)):PE X (.Subscript a (.Slice (some b) none none C) pos) (lo B (WL.eOp WL.uJ ta tb)):=PE.imp (wy (ai5 (K:=B.K)) r (aaS t) aaT) λf H Q j=>by obtain⟨g,F,R,q⟩:=j;have q:=Rq.bind q;refine⟨g,F,R,Rq.mono (ar.refl _) q λx h v G n u l s=>?_⟩;have h:=Rq.bind h;refine⟨g,n,u,Rq.mono l.f h λy e D I z R2 k m=>?_⟩;cases y with
 |int i=>simp only[RW]at m;refine⟨i,m,z,x,i,R2.rb.sub,s.keep k.f,rfl,rfl,?_⟩;unfold Eq1;cases d:WL.uJ x (.int i)with
  |ok w=>rw[d]at e;exact λv o A E p=>e v A o (E.rs B g f R2) ((l.trans k).trans E.gr) p|ex c=>
    unfold WL.uJ at d;split at d;·split at d<;>cases d
    ·cases d|bad=>rw[d]at e;exact e
 |_=>cases x<;>exact(show False from e).elim
end
end WS
namespace L2
open PySem PySem.Spec PyProof.Rows
noncomputable def alO(lo:Int)(n:Nat):It:=⟨λi _=>i<n,λi H x a=>a=H/\x=.int (lo+(i:Nat)*2),λi _=>n<=i⟩
def tX{P:Program}{w:World}{K:W.Frag}{tg:Expr}(it:Addr)(lo:Int)(n:Nat):Turn P w K tg (alO lo n) [it] it (λi h=>IsRangeIter h it (lo+(i:Nat)*2) ((n:Int)-(i:Nat)) 2)where
 mem:=by simp
 obj:=λi h st b hb=>by
  have e:b=it:=by simpa using hb
  subst e;exact⟨_,st,λv z=>by have z':Data.fields _=Data.cell v:=z;cases z'⟩
 keep:=λi h h' st k=>k it (by simp) _ st;item:=by intro X hP hw hK i pins s σ H E hc I hf st hg;subst hP hw hK;obtain⟨f0,f1,f2,f3,f4,f5⟩:=hf it (by simp);have W:=Walks.range (prog:=X.prog) (w:=X.w) (I.ok.hd hc) it lo 2 n;refine W.item i s _ _ hg st λv h' tk hv st' kk=>?_;obtain⟨t,rfl⟩:=hv;have I1:Inv X pins σ H {s with heap:=h',toks:=tk}:=I.turned (λb o hb e=>kk b o (by simpa using hb) e) f0 f1 f3 f4 f5;exact⟨_,rfl,yT (s:={s with heap:=h',toks:=tk}) (n:="range_iterator") st' rfl rfl (by decide) ⟨.int (lo+i*2),H,I1,⟨t,rfl⟩,⟨rfl,rfl⟩,st',λb hb=>(hf b hb).1⟩⟩
 done:=by intro X hP hw hK i pins s σ H E hc I hf st hg;subst hP hw hK;obtain⟨f0,f1,f2,f3,f4,f5⟩:=hf it (by simp);exact wpAny_pyNext_range_end (I.ok.hd hc) st (by have:n<=i:=hg;omega) λh' eb=>⟨rfl,I.turned (t':=s.toks) (λb o hb e=>eb b o hb e) f0 f1 f3 f4 f5⟩
 self:=λ_ _ _ _ _ st h=>wpAny_pyIter_rangeiter st h
def iU(a b:Int):Builtin.Range.rangeSize a b 2=(((b-a+1)/2).toNat:Nat):=by unfold Builtin.Range.rangeSize;simp only[show(2:Int)>0 by decide,apU];split<;>omega
def aao{a b:Int}(e:-(2^60)<=a)(d:a<2^60)(f:-(2^60)<=b)(c:b<2^60):Builtin.Range.small a b 2=true:=by unfold Builtin.Range.small;rw[iU];simp only[Builtin.Range.rangeFitsLong,apg,arG,apz,ap8,show(2:Int)>0 by decide,apU];omega
section
variable{X:Cx}{tg:Expr}
def aaH{pins:List (Addr×Obj)}{σ:St}{H:Hp}{s:Shared}{R:It->Hp->Prop}{E:Value->Shared->Prop}{lo a:Int}{t u v:Tok}{tk:Nat}(I:Inv X pins σ H s)(h:-(2^60)<=lo)(d:lo<2^60)(f:-(2^60)<=a)(i:a<2^60)(q:R (alO lo ((a-lo+1)/2).toNat) H):wpAny (model X.prog X.w) X.A (pyIter (.ref s.heap.objs.size)) (PIE X pins σ tg R) E {s with heap:=s.heap.push {cls:=.type "range",data:=.fields #[.int lo t,.int a u,.int 2 v]},toks:=tk}:=by
 refine wpAny_pyIter_range (IsRange.new ..) (aao h d f i) ?_;have c:Inv X pins σ H {s with heap:=s.heap.push {cls:=.type "range",data:=.fields #[.int lo t,.int a u,.int 2 v]},toks:=tk}:=I.kept λb o e=>aoZ _ e;refine⟨(s.heap.push {cls:=.type "range",data:=.fields #[.int lo t,.int a u,.int 2 v]}).objs.size,[(s.heap.push {cls:=.type "range",data:=.fields #[.int lo t,.int a u,.int 2 v]}).objs.size],_,_,H,rfl,c.kept (t':=tk) λb o e=>aoZ _ e,tX _ lo ((a-lo+1)/2).toNat,?_,λb g=>?_,q⟩
 ·have j:lo+((0:Nat):Int)*2=lo:=by simp
  have k:((((a-lo+1)/2).toNat:Nat):Int)-((0:Nat):Int)=Builtin.Range.rangeSize lo a 2:=by rw[iU];simp
  show IsRangeIter _ _ (lo+((0:Nat):Int)*2) (((((a-lo+1)/2).toNat:Nat):Int)-((0:Nat):Int)) 2;rw[j,k];exact apd _ rfl
 ·have e:b=(s.heap.push {cls:=.type "range",data:=.fields #[.int lo t,.int a u,.int 2 v]}).objs.size:=by simpa using g
  subst e;exact c.aic (ao6 _) (c.hok.fresh (ao6 _))
def aet(ta:TA):TI:=λc H R=>ta c H λa b=>∃i j:Int,a=[.int i,.int j,.int 2]/\(-(2^60)<=i/\i<2^60/\-(2^60)<=j/\j<2^60)/\R (alO i ((j-i+1)/2).toNat) b
def aaV{a b c:Expr}{ta:TA}{p pos:Pos}(m:Gl X "range")(x:X.mg "range"=none)(o:PA X [a,b,c] ta)(l:starEach [a,b,c] X.env=[(false,eval a X.env),(false,eval b X.env),(false,eval c X.env)]:=by rfl)(f:starEach [b,c] X.env=[(false,eval b X.env),(false,eval c X.env)]:=by rfl):PI X tg (.Call (.Name "range" p) [a,b,c] [] pos) (aet ta):=by intro d s y H R I h;refine Call_ (mQ I m x boot_range (ap5 (thn (o pos d s y H _ I h) λC G g=>?_) (by rw[l,f]) (by rw[f];rfl)));obtain⟨D,E,v,u,k⟩:=g;obtain⟨i,j,e,⟨k,z,A,w⟩,q⟩:=k;subst e;cases u with|cons r rr=>cases rr with|cons r' rr=>cases rr with|cons r'' rr=>cases rr;obtain⟨t,rfl⟩:=r;obtain⟨B,rfl⟩:=r';obtain⟨n,rfl⟩:=r'';exact call_range_3 (by decide) (aaH v k z A w q) (Or.inl (PyProof.noPylong_small (by omega)))
end
end L2
namespace WS
open PySem PySem.Spec PyProof.Rows L2 PySem.Builtin PySem.Builtin.Str
open WL(Res Sl Ws EF TF AF LF GF GsF SF Out)
section
variable{X:Cx}{B:Bx}{K:W.Frag}{tg:Expr}{ta tb:EF}
def zS{lo:Int}{n:Nat}{F:Hp}:Walk K (alO lo n) (WL.agH lo 2 n) F:=by
 refine⟨λi x e b j h g=>?_,λb j h g=>by show n<=(WL.agH lo 2 n).length;simp[WL.agH]⟩;have c:i<n:=by have:=(ao3.mp e).1;simpa[WL.agH]using this
 simp only[WL.agH,apo,aqY c]at e;cases e;refine⟨c,λu k a=>?_⟩;obtain⟨d,f⟩:=a;subst d f;exact⟨b,Ext.refl _ _,by simp[RW]⟩
def af8{a c:Expr}{d:Nat}{p pos b:Pos}(M:Gl X "range")(G:X.mg "range"=none)(h:PE X a (lo B ta))(h':PE X c (lo B tb))(s:starEach [a,c,.Constant (.int 2) d b] X.env=[(false,eval a X.env),(false,eval c X.env),(false,eval (.Constant (.int 2) d b) X.env)]:=by rfl)(l:starEach [c,.Constant (.int 2) d b] X.env=[(false,eval c X.env),(false,eval (.Constant (.int 2) d b) X.env)]:=by rfl)(D:starEach [a,c,.Constant (.int 2) d b] X.env=(false,eval a X.env)::starEach [c,.Constant (.int 2) d b] X.env:=by rfl)(u:starEach [c,.Constant (.int 2) d b] X.env=(false,eval c X.env)::starEach [.Constant (.int 2) d b] X.env:=by rfl)(z:starEach [.Constant (.int 2) d b] X.env=(false,eval (.Constant (.int 2) d b) X.env)::starEach [] X.env:=by rfl):PI X tg (.Call (.Name "range" p) [a,c,.Constant (.int 2) d b] [] pos) (loI B (WL.aet ta tb)):=PI.imp (aaV M G (bU h (bU h' (bU afm fu z) u) D) s l) λt H R g=>by obtain⟨j,F,E,q⟩:=g;have q:=Rq.bind q;refine⟨j,F,E,Rq.mono (ar.refl _) q λx m v S I A o r=>?_⟩;have m:=Rq.bind m;refine⟨j,I,A,Rq.mono o.f m λy e P N C R2 w n=>?_⟩;cases x with
|int i=>cases y with|int k=>
   have e:Rq B j F (if -(2^60)<=i/\i<2^60/\-(2^60)<=k/\k<2^60 then Res.ok (WL.agH i 2 ((k-i+1)/2).toNat)else .bad) _:=e;simp only[RW]at r n;subst r n;by_cases f:-(2^60)<=i/\i<2^60/\-(2^60)<=k/\k<2^60;·rw[ao1 f]at e;exact⟨i,k,rfl,f,(show∀J O Q,_ from e) _ N C R2 (o.trans w) zS⟩
   ·rw[ao2 f]at e;exact(show False from e).elim|_=>exact(show False from e).elim
|_=>exact(show False from e).elim
end
section
variable{X:Cx}{B:Bx}{K:W.Frag}{o x:Expr}{to:EF}{tas:AF}{apos cpos:Pos}
def kT(h:X.K=B.K)(f:PE X o (lo B to))(g:PA X [x] (loA B tas))(b:attributeBase o "split" X.env (eval o X.env)=eval o X.env:=by rfl)(d:((backTo cpos (starEach [x] X.env)).all (λx=>!x.1)&&(backToKw cpos (keywordEach [] X.env)).all (λx=>x.1.isSome)&&decide (([x]:List Expr).length+([]:List Keyword).length+(if([]:List Keyword).isEmpty then 0 else 1)<30))=true:=by rfl)(c:(apos.endLine==cpos.line)=true:=by rfl)(e:starEach [x] X.env=(false,eval x X.env)::starEach [] X.env:=by rfl)(a:(backTo cpos (starEach [] X.env)).any (·.1)=false:=by rfl):PE X (.Call (.Attribute o "split" apos) [x] [] cpos) (lo B (WL.acb "str" WL.h7 to tas)):=tS zd (pF aro aqM PySem.F.type_str_split aea f g b d c e a)
def zJ(h:X.K=B.K)(f:PE X o (lo B to))(g:PA X [x] (loA B tas))(b:attributeBase o "startswith" X.env (eval o X.env)=eval o X.env:=by rfl)(d:((backTo cpos (starEach [x] X.env)).all (λx=>!x.1)&&(backToKw cpos (keywordEach [] X.env)).all (λx=>x.1.isSome)&&decide (([x]:List Expr).length+([]:List Keyword).length+(if([]:List Keyword).isEmpty then 0 else 1)<30))=true:=by rfl)(c:(apos.endLine==cpos.line)=true:=by rfl)(e:starEach [x] X.env=(false,eval x X.env)::starEach [] X.env:=by rfl)(a:(backTo cpos (starEach [] X.env)).any (·.1)=false:=by rfl):PE X (.Call (.Attribute o "startswith" apos) [x] [] cpos) (lo B (WL.acb "str" WL.ix to tas)):=tS vp (pF aro PySem.F.slot_str_startswith PySem.F.type_str_startswith abh f g b d c e a)
def zK(h:X.K=B.K)(f:PE X o (lo B to))(g:PA X [x] (loA B tas))(b:attributeBase o "partition" X.env (eval o X.env)=eval o X.env:=by rfl)(d:((backTo cpos (starEach [x] X.env)).all (λx=>!x.1)&&(backToKw cpos (keywordEach [] X.env)).all (λx=>x.1.isSome)&&decide (([x]:List Expr).length+([]:List Keyword).length+(if([]:List Keyword).isEmpty then 0 else 1)<30))=true:=by rfl)(c:(apos.endLine==cpos.line)=true:=by rfl)(e:starEach [x] X.env=(false,eval x X.env)::starEach [] X.env:=by rfl)(a:(backTo cpos (starEach [] X.env)).any (·.1)=false:=by rfl):PE X (.Call (.Attribute o "partition" apos) [x] [] cpos) (lo B (WL.acb "str" WL.rO to tas)):=tS acJ (pF aro ar2 PySem.F.type_str_partition aha f g b d c e a)
end
section
variable{X:Cx}{B:Bx}
inductive PJ(X:Cx)(B:Bx):List Expr->AF->Prop where|nil:PJ X B [] WL.av|c{x:Str}{j:Nat}{pos:Pos}{es:List Expr}{t:AF}(h:PJ X B es t)(hl:x.length<=1000):PJ X B (.Constant (.str x) j pos::es) t|f{e:Expr}{pos:Pos}{es:List Expr}{ta:EF}{t:AF}(he:PE X e (lo B ta))(h:PJ X B es t):PJ X B (.FormattedValue e (-1) none pos::es) (WL.ae (WL.eFf ta) t)|r{e:Expr}{pos:Pos}{es:List Expr}{ta:EF}{t:AF}(hK:X.K=B.K)(hu:X.A.units+64<cLine)(hg:X.A.guards=some [])(he:PE X e (lo B ta))(h:PJ X B es t):PJ X B (.FormattedValue e 114 none pos::es) (WL.ae (WL.eFr ta) t)
end
end WS
namespace L2
open PySem PySem.Spec PyProof.Rows PySem.Builtin
end L2
namespace WS
open PySem PySem.Spec PyProof.Rows L2 PySem.Builtin PySem.Builtin.Str
open WL(Res Sl Ws EF TF AF LF GF GsF SF Out)
end WS
namespace WL
open PySem
noncomputable def zi:List W->Res W|[.int i]=>if i.natAbs.log2<1920 then .ok (.str (toString i))else .bad|[.str x]=>.ok (.str x)|_=>.bad
noncomputable def amx:W->Res W|.str y=>if y.length<=100000 then .ok (.str y)else .bad|_=>.bad
def ePt(e:EF):EF:=λa=>(e a).bind amx
end WL
namespace WS
open PySem PySem.Spec PyProof.Rows L2 PySem.Builtin PySem.Builtin.Str
open WL(Res Sl Ws EF TF AF LF GF GsF SF Out)
section
variable{X:Cx}{B:Bx}{K:W.Frag}
def acH:∀a c,WL.zi a≠.ex c:=λa c h=>by
 unfold WL.zi at h;split at h;·split at h<;>cases h
 ·cases h
 ·cases h
def aiB:bJ X (.type "str") (loN K WL.zi):=by intro d s h H k g Q I r⟨F,ws,j,b,q⟩;cases e:WL.zi ws with|bad=>rw[e]at q;exact q.elim|ex c=>rw[e]at q;exact q.elim|ok w=>
  rw[e]at q;unfold WL.zi at e;split at e
  ·split at e;·rename_i i f;cases e;obtain⟨v,rfl,a⟩:=cz b;simp only[RW]at a;subst a;obtain⟨u,rfl,⟨t,rfl⟩⟩:=vals1 r;exact PySem.P.str_of_int f ⟨.str (toString i),H,I.tok _,⟨_,rfl⟩,eq1 q (by simp[RW])⟩
   ·cases e
  ·rename_i x;cases e;obtain⟨v,rfl,a⟩:=cz b;simp only[RW]at a;subst a;obtain⟨u,rfl,⟨t,rfl⟩⟩:=vals1 r;exact PySem.P.str_of_str ⟨.str x,H,I,⟨_,rfl⟩,eq1 q (by simp[RW])⟩
  ·cases e
inductive PF(X:Cx)(B:Bx):List Expr->AF->Prop where|nil:PF X B [] WL.av|c{x:Str}{j:Nat}{pos:Pos}{es:List Expr}{t:AF}(h:PF X B es t)(hl:x.length<=1000):PF X B (.Constant (.str x) j pos::es) (WL.ae (WL.eC (.str x)) t)|f{e:Expr}{pos:Pos}{es:List Expr}{ta:EF}{t:AF}(he:PE X e (lo B ta))(h:PF X B es t):PF X B (.FormattedValue e (-1) none pos::es) (WL.ae (WL.ePt ta) t)
end
end WS
namespace WL
open PySem
end WL
namespace WS
open PySem PySem.Spec PyProof.Rows L2
open WL(Res Sl Ws EF TF AF LF GF GsF SF Out)
end WS
namespace WL
open PySem
noncomputable def zt:W->Bool|.str _=>true|.int _=>true|.non=>true|_=>false
noncomputable def uT:W->W->Bool|.str x,.str y=>x==y|.int i,.int j=>i==j|.non,.non=>true|_,_=>false
def acZ(k:W)(ks:List W):Bool:=ks.any λx=>uT x k
noncomputable def aeO(k v:W):List W->List W->List W|k'::ks,v'::vs=>(if uT k' k then v else v')::aeO k v ks vs|_,_=>[]
noncomputable def agC(i:Nat):SF:=λa=>.nx (a.set i (.od [] []))
def putK(ks:List W)(k:W):List W:=if acZ k ks then ks else ks++[k]
def afl(ks us:List W)(k v:W):List W:=if acZ k ks then aeO k v ks us else us++[v]
def putD(i:Nat)(ks us:List W)(k v:W)(σ:Ws):Out:=if zt k=true/\ks.length<lim then .nx (σ.set i (.od (putK ks k) (afl ks us k v)))else .bad
def hQ(i:Nat)(b c:EF):SF:=λa=>match a[i]? with|some (.od ks us)=>ofR a (b a) λv=>ofR a (c a) λk=>putD i ks us k v a|_=>.bad
noncomputable def aib(i:Nat):LF:=λa=>match a[i]? with|some (.va (.dic ks _))=>.ok ks|_=>.bad
def zk:List W->Res W|[.str x]=>if x.length<=lim then .ok (.int x.length)else .bad|[.dic ks _]=>.ok (.int ks.length)|ws=>gf ws
def ah7(x y:W):Res W:=match x,y with|.str a,.str b=>.ok (.bl (!(Builtin.Str.occurrences b a 0 b.length 1).isEmpty))|_,.str _=>.bad|x,y=>oIn x y
noncomputable def signs(x:Str):List W:=x.cps.toList.map λc=>.str ⟨#[c]⟩
def aoe(e:EF):LF:=λa=>(e a).bind λw=>match w with|.str x=>if x.cps.all (·<128)=true then .ok (signs x)else .bad|_=>.bad
end WL
namespace WL
def zY(tv:EF):EF:=λa=>tv (tK (a.take 3))
def abr(tv:EF):SF:=nE (aib 1) (aA 2) (hQ 3 (zY tv) (aj 2))
noncomputable def anj:Out->Res W
|.nx σ=>match(σ[3]?:Option Sl)with|some (.od ks us)=>.ok (.dic ks us)|_=>.bad
|.ex c _=>.ex c|_=>.bad
noncomputable def clr(σ:Ws):Ws:=σ.map λs=>match s with|.va w=>.va w|_=>.no
def am3(tv:EF)(σ:Ws):Res W:=match(σ[0]?:Option Sl)with|some .ob=>if σ.length=3 then anj (abr tv (clr σ++[.od [] []]))else .bad|_=>.bad
def anU(a b:SF)(tv:EF):List W->Res W
|[w]=>match aK a b [.ob,.va w,.no]with|.nx σ=>am3 tv σ|.ex c _=>.ex c|_=>.bad
|_=>.bad
end WL
namespace WS
open PySem PySem.Spec PyProof.Rows L2
open WL(Res Sl Ws EF TF AF LF GF GsF SF Out)
section
variable{B:Bx}{σ:Ws}{σV:L2.St}{F H:Hp}{a:Addr}{kvs:List (Key×V)}{od:Obj}{K:W.Frag}
noncomputable abbrev zD(od:Obj)(kvs:List (Key×V)):HO:=.frz od (.dK kvs)
def amo(e:F a=some (.dK kvs)){b:Addr}{l:List (Key×V)}(h:Rd F b (.dK l)):Rd (upd F a (zD od kvs)) b (.dK l):=by
 by_cases c:b=a;·subst c;rcases h with h|⟨o,h⟩<;>rw[e]at h<;>cases h;exact .inr ⟨od,ao⟩
 ·unfold Rd;rw[ag c];exact h
def amn(e:F a=some (zD od kvs)){b:Addr}{l:List (Key×V)}(h:Rd F b (.dK l)):Rd (upd F a (.dK kvs)) b (.dK l):=by
 by_cases c:b=a;·subst c;rcases h with h|⟨o,h⟩<;>rw[e]at h<;>cases h;exact .inl ao
 ·unfold Rd;rw[ag c];exact h
def vU{o o':HO}(e:F a=some o)(c:∀xs,o≠.tup xs)(d:∀ob xs,o≠.frz ob (.tup xs)){b:Addr}{xs:List V}(h:SqT K F b xs):SqT K (upd F a o') b xs:=by
 rcases h with(h|⟨ob,h⟩)|h;·exact .inl (.inl (by rw[ag (λz=>by rw[z,e]at h;exact c _ (apf h))];exact h))
 ·exact .inl (.inr ⟨ob,by rw[ag (λz=>by rw[z,e]at h;exact d _ _ (apf h))];exact h⟩)
 ·exact .inr h
def ae7{o o':HO}(e:F a=some o)(c:∀xs,o≠.lst xs)(d:∀ob xs,o≠.frz ob (.lst xs)){b:Addr}{xs:List V}(h:SqL K F b xs):SqL K (upd F a o') b xs:=by
 rcases h with(h|⟨ob,h⟩)|h;·exact .inl (.inl (by rw[ag (λz=>by rw[z,e]at h;exact c _ (apf h))];exact h))
 ·exact .inl (.inr ⟨ob,by rw[ag (λz=>by rw[z,e]at h;exact d _ _ (apf h))];exact h⟩)
 ·exact .inr h
def RWs.fz(e:F a=some (.dK kvs)){ws:List VW}{vs:List V}(h:RWs K F ws vs):RWs K (upd F a (zD od kvs)) ws vs:=RWs.via (λ_ _ q=>vU e (λ_ z=>nomatch z) (λ_ _ z=>nomatch z) q) (λ_ _ q=>ae7 e (λ_ z=>nomatch z) (λ_ _ z=>nomatch z) q) (λ_ _ q=>amo e q) (λb c q=>by rw[ag (λz=>by rw[z,e]at q;cases q)];exact q) (λb c q=>by rw[ag (λz=>by rw[z,e]at q;cases q)];exact q) (λb _ _ _ _ q=>by rw[ag (λz=>by rw[z,e]at q;cases q)];exact q) ws vs h
def RWs.th(e:F a=some (zD od kvs)){ws:List VW}{vs:List V}(h:RWs K F ws vs):RWs K (upd F a (.dK kvs)) ws vs:=RWs.via (λ_ _ q=>vU e (λ_ z=>nomatch z) (λ_ _ z=>nomatch z) q) (λ_ _ q=>ae7 e (λ_ z=>nomatch z) (λ_ _ z=>nomatch z) q) (λ_ _ q=>amn e q) (λb c q=>by rw[ag (λz=>by rw[z,e]at q;cases q)];exact q) (λb c q=>by rw[ag (λz=>by rw[z,e]at q;cases q)];exact q) (λb _ _ _ _ q=>by rw[ag (λz=>by rw[z,e]at q;cases q)];exact q) ws vs h
def RW.one{w:VW}{v:V}(h:RWs K F [w] [v]):RW K F w v:=by simp only[RWs]at h;obtain⟨_,_,e,q,_⟩:=h;cases e;exact q
theorem RW.fz(e:F a=some (.dK kvs)){w:VW}{v:V}(h:RW K F w v):RW K (upd F a (zD od kvs)) w v:=RW.one (RWs.fz e (RWs.one h))
theorem RW.th(e:F a=some (zD od kvs)){w:VW}{v:V}(h:RW K F w v):RW K (upd F a (.dK kvs)) w v:=RW.one (RWs.th e (RWs.one h))
theorem XR.th(e:F a=some (zD od kvs)){c:VW}{C:Addr}{dx:Option Addr}(h:XR K F c C dx):XR K (upd F a (.dK kvs)) c C dx:=by cases c with|exc nm fs=>obtain⟨i,b,j,m,k⟩:=h;exact⟨i,b,j,m.th e,k.imp id λg=>by obtain⟨d,l,f⟩:=g;exact⟨d,l,by rw[ag (λz=>by rw[z,e]at f;cases f)];exact f⟩⟩|_=>exact h.elim
def uh{F F':Hp}{o o':HO}(s:ar (upd F a o) F'):ar (upd F a o') (upd F' a o'):=λb u e=>by
 by_cases c:b=a;·subst c;rw[ao]at e⊢;exact e
 ·rw[ag c]at e⊢;exact s b u (by rw[ag c];exact e)
def n4{F:Hp}{o:HO}(e:F a=some o):upd F a o=F:=by
 funext b;by_cases c:b=a;·subst c;rw[ao,e]
 ·rw[ag c]
def Bx.fz(B:Bx)(a:Addr)(od:Obj)(kvs:List (Key×V)):Bx:=⟨B.K,upd B.H0 a (zD od kvs),upd B.F0 a (zD od kvs),λc σ F=>B.xp c σ (upd F a (.dK kvs)),λc σ F f s h=>B.mono c σ _ _ (λb u e=>by
 by_cases d:b=a;·subst d;rw[ao]at e⊢;exact e
 ·rw[ag d]at e⊢;exact s b u e) h⟩
theorem RS.fz(R:RS B σ σV F H)(e:F a=some (.dK kvs)):RS (B.fz a od kvs) σ σV (upd F a (zD od kvs)) (upd H a (zD od kvs)):=by
 refine⟨⟨λb u q=>?_,λb u q=>?_,λb u q=>?_,λb u q=>?_⟩,R.len,λi w q=>?_,λi ws q=>?_,R.ap,λi k n q=>?_,R.dd.ad,λi q=>?_⟩
 ·by_cases c:b=a;·subst c;rw[ao]at q⊢;exact q
  ·rw[ag c]at q⊢;exact R.rb.sub b u q
 ·by_cases c:b=a;·subst c;exact(show upd B.H0 b (zD od kvs) b=some u from q)▸(by rw[ao,ao])
  ·have q:upd B.H0 a (zD od kvs) b=some u:=q;rw[ag c]at q⊢;exact R.rb.base b u q
 ·by_cases c:b=a;·subst c;exact(show upd B.F0 b (zD od kvs) b=some u from q)▸(by rw[ao,ao])
  ·have q:upd B.F0 a (zD od kvs) b=some u:=q;rw[ag c]at q⊢;exact R.rb.fz0 b u q
 ·by_cases c:b=a;·subst c;rw[ao]at q;exact .inl (by show upd B.F0 b (zD od kvs) b=_;rw[ao];exact q)
  ·rw[ag c]at q;rcases R.rb.fr b u q with z|z;·exact .inl (by show upd B.F0 a (zD od kvs) b=_;rw[ag c];exact z)
   ·exact .inr ⟨by show upd B.H0 a (zD od kvs) b=_;rw[ag c];exact z.1,z.2⟩
 ·obtain⟨v,f,d⟩:=R.va i w q;exact⟨v,f,d.fz e⟩
 ·obtain⟨b,o,f,d,g,h,j⟩:=R.ow i ws q;have c:b≠a:=λz=>by rw[z,e]at d;cases d
  exact⟨b,o,f,by rw[ag c];exact d,by show upd B.H0 a (zD od kvs) b=_;rw[ag c];exact g,by rw[ag c];exact h,j.fz e⟩
 ·obtain⟨b,l,f,d,g,h,j,p⟩:=R.dd.od i k n q;have c:b≠a:=λz=>by rw[z,e]at d;cases d
  exact⟨b,l,f,by rw[ag c];exact d,by show upd B.H0 a (zD od kvs) b=_;rw[ag c];exact g,by rw[ag c];exact h,j.fz e,p.fz e⟩
 ·obtain⟨b,C,m,f,d⟩:=R.dd.ob i q;exact⟨b,C,m,f,by rw[ag (λz=>by rw[z,e]at d;cases d)];exact d⟩
def Was(B:Bx)(a:Addr)(kvs:List (Key×V)):Prop:=(B.F0 a=some (.dK kvs)\/B.H0 a=none/\B.F0 a=none)/\(B.H0 a=none\/B.H0 a=some (.dK kvs))
def RB.was(R:RB B F H)(e:F a=some (.dK kvs)):Was B a kvs:=by
 constructor
 ·rcases R.fr a _ e with z|z;·exact .inl z
  ·cases q:B.F0 a with|none=>exact .inr ⟨z.1,rfl⟩|some u=>have:=R.fz0 a u q;rw[e]at this;cases this;exact .inl rfl
 ·cases q:B.H0 a with|none=>exact .inl rfl|some u=>have:=R.base a u q;rw[R.sub a _ e]at this;cases this;exact .inr rfl
def RB.th(R:RB (B.fz a od kvs) F H)(w:Was B a kvs):F a=some (zD od kvs)/\H a=some (zD od kvs)/\RB B (upd F a (.dK kvs)) (upd H a (.dK kvs)):=by
 have e:=R.fz0 a _ (by show upd B.F0 a (zD od kvs) a=_;rw[ao]);refine⟨e,R.sub a _ e,λb u q=>?_,λb u q=>?_,λb u q=>?_,λb u q=>?_⟩
 ·by_cases c:b=a;·subst c;rw[ao]at q⊢;exact q
  ·rw[ag c]at q⊢;exact R.sub b u q
 ·by_cases c:b=a
  ·subst c;rcases w.2 with z|z<;>rw[z]at q;·cases q
   ·rw[ao];exact q
  ·rw[ag c];exact R.base b u (by show upd B.H0 a (zD od kvs) b=_;rw[ag c];exact q)
 ·by_cases c:b=a
  ·subst c;rcases w.1 with z|⟨_,z⟩<;>rw[z]at q;·rw[ao];exact q
   ·cases q
  ·rw[ag c];exact R.fz0 b u (by show upd B.F0 a (zD od kvs) b=_;rw[ag c];exact q)
 ·by_cases c:b=a
  ·subst c;rw[ao]at q;cases q;rcases w.1 with z|⟨z,_⟩;·exact .inl z
   ·exact .inr ⟨z,trivial⟩
  ·rw[ag c]at q;rcases R.fr b u q with z|z;·exact .inl (by have:upd B.F0 a (zD od kvs) b=some u:=z;rwa[ag c]at this)
   ·exact .inr ⟨by have:upd B.H0 a (zD od kvs) b=none:=z.1;rwa[ag c]at this,z.2⟩
theorem RS.th(R:RS (B.fz a od kvs) σ σV F H)(w:Was B a kvs):RS B σ σV (upd F a (.dK kvs)) (upd H a (.dK kvs)):=by
 obtain⟨e,s,r⟩:=R.rb.th w;refine⟨r,R.len,λi w q=>?_,λi ws q=>?_,R.ap,λi k n q=>?_,R.dd.ad,λi q=>?_⟩;·obtain⟨v,f,c⟩:=R.va i w q;exact⟨v,f,c.th e⟩
 ·obtain⟨b,o,f,c,g,h,j⟩:=R.ow i ws q;have d:b≠a:=λz=>by rw[z,e]at c;cases c
  exact⟨b,o,f,by rw[ag d];exact c,by have:upd B.H0 a (zD od kvs) b=none:=g;rwa[ag d]at this,by rw[ag d];exact h,j.th e⟩
 ·obtain⟨b,l,f,c,g,h,j,p⟩:=R.dd.od i k n q;have d:b≠a:=λz=>by rw[z,e]at c;cases c
  exact⟨b,l,f,by rw[ag d];exact c,by have:upd B.H0 a (zD od kvs) b=none:=g;rwa[ag d]at this,by rw[ag d];exact h,j.th e,p.th e⟩
 ·obtain⟨b,C,m,f,c⟩:=R.dd.ob i q;exact⟨b,C,m,f,by rw[ag (λz=>by rw[z,e]at c;cases c)];exact c⟩
end
section
variable{X:Cx}{B:Bx}{a:Addr}{kvs:List (Key×V)}{od:Obj}
def aiQ{pins:List (Addr×Obj)}{c:L2.St}{H:Hp}{s:Shared}{e C:Addr}{dx T:Option Addr}{g:Value}(t:Thr X pins c H s e C dx g T)(q:H a=some (zD od kvs))(k:∀o u,X.H₀ a≠some (.frz o u)):Thr X pins c (upd H a (.dK kvs)) s e C dx g T:=by
 have f:∀{b:Addr},FpX X pins H b->FpX X pins (upd H a (.dK kvs)) b:=λ{b}h=>by obtain⟨d,i⟩:=h;exact⟨by rw[ag (λz=>by rw[z,q]at d;cases d)];exact d,i⟩
 exact⟨t.inv.r6 q k,t.trc,f t.fe,λu j=>f (t.fT u j)⟩
theorem XW.fz(g:XW X B)(w:Was B a kvs)(h:∀o u,X.H₀ a≠some (.frz o u)):XW X (B.fz a od kvs):=λb d H s n F c R j e C i T k t f=>by obtain⟨l,m,_⟩:=R.rb.th w;exact g b d _ s n _ c (R.th w) j e C i T k (aiQ t m h) (f.th l)
def ahB(D:Ends)(a:Addr)(od:Obj)(kvs:List (Key×V)):Ends:=⟨λb H=>H a=some (zD od kvs)/\D.nx b (upd H a (.dK kvs)),λv H=>H a=some (zD od kvs)/\D.rt v (upd H a (.dK kvs)),λb H=>H a=some (zD od kvs)/\D.bk b (upd H a (.dK kvs)),λb H=>H a=some (zD od kvs)/\D.ct b (upd H a (.dK kvs))⟩
def agt{pins:List (Addr×Obj)}{D:Ends}(c:∀o u,X.H₀ a≠some (.frz o u))(f:Flow)(s:Shared)(h:SP X pins (ahB D a od kvs) f s):SP X pins D f s:=by cases f with|next=>obtain⟨b,H,I,e,q⟩:=h;exact⟨b,_,I.r6 e c,q⟩|brk=>obtain⟨b,H,I,e,q⟩:=h;exact⟨b,_,I.r6 e c,q⟩|cont=>obtain⟨b,H,I,e,q⟩:=h;exact⟨b,_,I.r6 e c,q⟩|ret u=>obtain⟨v,b,H,I,r,e,q⟩:=h;exact⟨v,b,_,I.r6 e c,r,q⟩
theorem Oq.fz{D:Ends}{F:Hp}(e:F a=some (.dK kvs))(w:Was B a kvs){o:Out}(h:Oq B D F o):Oq (B.fz a od kvs) (ahB D a od kvs) (upd F a (zD od kvs)) o:=by
 have bk:∀{d},ar (upd F a (zD od kvs)) d->ar F (upd d a (.dK kvs)):=λs=>by have:=uh (o':=.dK kvs) s;rwa[n4 e]at this
 cases o with|nx σ=>exact λb H G R z=>⟨(R.rb.th w).2.1,h b _ _ (R.th w) (bk z)⟩|bk σ=>exact λb H G R z=>⟨(R.rb.th w).2.1,h b _ _ (R.th w) (bk z)⟩|ct σ=>exact λb H G R z=>⟨(R.rb.th w).2.1,h b _ _ (R.th w) (bk z)⟩|rt u=>exact λv H G R z r=>⟨(R.th w).2.1,h v _ _ (R.th w).2.2 (bk z) (r.th (R.th w).1)⟩|ex c σ=>show B.xp c σ (upd (upd F a (zD od kvs)) a (.dK kvs));rw[tW,n4 e];exact h|bad=>exact h
variable{tg l:Expr}{body:List Stmt}{g:GF}{b:SF}{i:Nat}{pos:Pos}
def lC{K:W.Frag}{ks:List VW}{F:Hp}(h:F a=some (zD od kvs))(r:RWs K F ks (kvs.map λp=>kV p.1)):Walk K (Itd a od kvs) ks F:=by have n:=r.length;rw[apk]at n;refine⟨λi x e j o d f=>?_,λj o d f=>⟨f _ _ (d _ _ h),by omega⟩⟩;obtain⟨v,c,m⟩:=r.get e;rw[apo,apy]at c;obtain⟨p,c,rfl⟩:=c;refine⟨⟨f _ _ (d _ _ h),(ao3.mp c).1⟩,λu s⟨q,t,k,y⟩=>?_⟩;subst q y;rw[c]at k;cases k;exact⟨j,Ext.refl _ _,m.keep d⟩
def af3(hK:X.K=B.K)(hp:PassesOwn (model X.prog X.w) X.A X.env X.xe)(hc:X.calm=true)(hx:XW X B)(hl:PE X l (fj i))(hg:∀k:Bx,PG X tg (loG false k g))(hb:∀k:Bx,k.K=X.K->XW X k->PSs X body (loS k b))(hs:∀x,foldedSetIterable l X.env x=pure x:=by intro _;rfl):PS X (.For tg l body [] pos) (loS B (WL.nE (WL.aib i) g b)):=by
 intro d s t H D I⟨σ,F,R,q⟩;have z:=Oq.ofR (q);have N:∀(k:Bx)(T:Ends)(d:List (Addr×Obj))(s:Shared)(H' G:Hp)(o us:List VW)(a:Addr)(od:Obj)(kvs:List (Key×V)),k.K=X.K->XW X k->Inv X d t H' s->RS k σ t G H'->t[i]?=some (some (.ref a))->G a=some (zD od kvs)->RWs k.K G o (kvs.map λp=>kV p.1)->Oq k T G (WL.forL g b o σ)->wpAny (model X.prog X.w) X.A (exec (.For tg l body [] pos) X.env) (SP X d T) X.xe s:=by
  intro k T d s H' G o us a od kvs a1 a2 I' R' U e3 rk q';refine wq (wi:=λt H R=>∃J,R J H/\J=Itd a od kvs/\t[i]?=some (some (.ref a))/\H a=some (zD od kvs)) hp hc (PI.imp (uv hl) λt H R a0=>by obtain⟨J,r,ej,U,e3⟩:=a0;exact⟨.ref a,U,a,od,kvs,rfl,e3,by rw[<-ej];exact r⟩) (hg k) (hb k a1 a2) hs d s t H' T I' ?_;refine⟨_,?_,rfl,U,R'.rb.sub _ _ e3⟩;have wk:=lC e3 rk;refine⟨λj m y H1=>m=o.length-j/\j<=o.length/\∃C K,RS k C y K H1/\ar G K/\Oq k T K (WL.forL g b (o.drop j) C),⟨o.length,rfl,apH _,σ,G,R',ar.refl _,by rw[aqR];exact q'⟩,?_⟩;rintro j m y H1⟨rfl,hj,C,K,R1,s1,n⟩;by_cases Q:j<o.length;·have hd:=apF Q;rw[hd]at n;obtain⟨go,yl⟩:=wk.go j o[j] (ao5 Q) K H1 s1 R1.rb.sub;refine .inr ⟨go,λe H2=>∃M F2,RS k M e F2 H2/\ar G F2/\Oq k T F2 (WL.forL g b (o.drop (j+1)) M),λe H2 h2=>⟨o.length-(j+1),by omega,rfl,Q,h2⟩,λv H2 hy=>?_⟩;obtain⟨F2,E2,r2⟩:=yl v H2 hy;have n:=Oq.ofR (n);refine⟨C,F2,o[j],E2.rs _ _ _ R1,r2,Rq.mono E2.same n λY n a3 H3 F3 R3 g3=>?_⟩;refine⟨Y,F3,R3,?_⟩;have S:=E2.same.trans g3.f;cases A:b Y with|nx e=>rw[A]at n;exact λu Z O P E=>⟨e,O,P,(s1.trans S).trans E,Oq.mono (S.trans E) n⟩|ct e=>rw[A]at n;exact λu Z O P E=>⟨e,O,P,(s1.trans S).trans E,Oq.mono (S.trans E) n⟩|bk e=>rw[A]at n;exact λu Z O P E=>(n) u Z O P (S.trans E)|rt w=>rw[A]at n;exact λv4 Z O P E=>(n) v4 Z O P (S.trans E)|ex c e=>rw[A]at n;exact k.mono c e K F3 S n|bad=>rw[A]at n;exact n
  ·have ei:j=o.length:=by omega
   subst ei;rw[aqC]at n;exact .inl ⟨wk.stop K H1 s1 R1.rb.sub,(n) y H1 K R1 (ar.refl _)⟩
 unfold WL.aib at z;cases A:σ[i]? with|none=>rw[A]at z;exact(z).elim|some sl=>rw[A]at z;cases sl with
 |va w=>cases w with|dic o us=>
    have z:=z;obtain⟨v,U,r2⟩:=R.va i _ A;simp only[RW]at r2;obtain⟨a,kvs,rfl,rd,rk,ru⟩:=r2;rcases rd with rd|⟨od,rd⟩;·obtain⟨od,I',hn⟩:=I.ahs (R.rb.sub _ _ rd);have w:=R.rb.was rd;exact thn (N (B.fz a od kvs) (ahB D a od kvs) d s _ _ o us a od kvs hK.symm (hx.fz w hn) I' (R.fz rd) U ao (rk.fz rd) (z.fz rd w)) λf s h=>agt hn f s h
    ·exact N B D d s H F o us a od kvs hK.symm hx I R U rd rk z|_=>exact(z).elim
 |_=>exact(z).elim
end
end WS
namespace PySem
def Heap.IsStrIter.at{h h':Heap}{a:Addr}{ty:String}{x:Str}{t:Tok}{i:Nat}(y:h.IsStrIter a ty x t i)(e:∀o,h.get? a=some o->h'.get? a=some o):h'.IsStrIter a ty x t i:=let⟨o,b,r⟩:=y;⟨o,e _ b,r⟩
end PySem
namespace L2
open PySem PySem.Spec PyProof.Rows
noncomputable def Its(x:Str):It:=⟨λi _=>i<x.cps.size,λi H v a=>a=H/\∃c,x.cps[i]?=some c/\v=.str ⟨#[c]⟩,λi _=>x.cps.size<=i⟩
def x4{P:Program}{w:World}{K:W.Frag}{tg:Expr}(it:Addr)(x:Str)(t:Tok):Turn P w K tg (Its x) [it] it (λi h=>h.IsStrIter it "str_ascii_iterator" x t i)where
 mem:=by simp
 obj:=λi h st b hb=>by
  have e:b=it:=by simpa using hb
  subst e;obtain⟨o,e,c,d⟩:=st;exact⟨o,e,λv z=>by rw[d]at z;cases z⟩
 keep:=λi h h' st k=>st.at λo e=>k it (by simp) o e;item:=by intro X hP hw hK i pins s σ H E hc I hf st hg;subst hP hw hK;have hg:i<x.cps.size:=hg;obtain⟨f0,f1,f2,f3,f4,f5⟩:=hf it (by simp);refine wpAny_pyNext_ascii_item st (c:=x.cps[i]) (asd hg) λh' st' sb=>?_;have I1:Inv X pins σ H {s with heap:=h',toks:=s.toks+1}:=I.turned (t':=s.toks+1) (λb o hb e=>(sb.2 b hb).trans e) f0 f1 f3 f4 f5;obtain⟨o,e,c,d⟩:=id st';exact⟨_,rfl,yT (s:={s with heap:=h',toks:=s.toks+1}) e c d (by decide) ⟨.str ⟨#[x.cps[i]]⟩,H,I1,⟨_,rfl⟩,⟨rfl,_,asd hg,rfl⟩,st',λb hb=>(hf b hb).1⟩⟩
 done:=by intro X hP hw hK i pins s σ H E hc I hf st hg;subst hP hw hK;have hg:x.cps.size<=i:=hg;obtain⟨f0,f1,f2,f3,f4,f5⟩:=hf it (by simp);exact wpAny_pyNext_ascii_end (I.ok.hd hc) st (Array.getElem?_eq_none hg) λh' eb=>⟨rfl,I.turned (t':=s.toks) (λb o hb e=>eb b o hb e) f0 f1 f3 f4 f5⟩
 self:=λA i s Q E st h=>by refine wpAny_pyIter_slot st.typeIs arJ (apV arJ st.typeIs F.entry_str_ascii_iterator_iter ?_ (F.args_str_ascii_iterator_iter_1 _));show wpAny _ _ (ret (.ref it)) _ _ s;exact ao4 ⟨_,rfl,"str_ascii_iterator",_,st.typeIs,F.slot_str_ascii_iterator_next.lookup,h⟩
def aoI(a:TE):TI:=λc H R=>a c H λv b=>∃x:Str,v=.str x/\x.cps.all (·<128)=true/\R (Its x) b
def adS{X:Cx}{i l:Expr}{g:TE}(n:PE X l g):PI X i l (aoI g):=by
 intro a s r H R I h;refine thn (n a s r H _ I h) λv c f=>?_;obtain⟨z,p,d,k,x,e,j,q⟩:=f;subst e;obtain⟨t,rfl⟩:=k;refine wpAny_pyIter_ascii j ?_;refine⟨c.heap.objs.size,[c.heap.objs.size],_,_,p,rfl,d.kept (t':=c.toks) λb o e=>aoZ _ e,x4 _ x t,⟨_,apd _ rfl,rfl,rfl⟩,λb m=>?_,q⟩;have e:b=c.heap.objs.size:=by simpa using m
 subst e;exact d.aic (ao6 _) (d.hok.fresh (ao6 _))
def nT{X:Cx}:bJ X (.builtin "len") (λd H Q=>∃a b,d=[.ref a]/\Rd H a (.dK b)/\Q (.int (b.length:Nat)) H):=by
 intro c s l H d i Q I f⟨a,b,e,rd,q⟩;subst e;obtain⟨u,rfl,g⟩:∃u,i=[u]/\RelV (.ref a) u:=by cases f with|cons h t=>cases t;exact⟨_,rfl,h⟩
 cases(show u=Value.ref a from g);exact anu I rd λt k j=>⟨.int b.length,H,j,⟨t,rfl⟩,q⟩
end L2
namespace WS
open PySem PySem.Spec PyProof.Rows L2
open WL(Res Sl Ws EF TF AF LF GF GsF SF Out)
section
variable{X:Cx}{B:Bx}{K:W.Frag}
def aiu{n e:Expr}{ta:EF}(h:PE X e (lo B ta)):PI X n e (loI B (WL.aoe ta)):=PI.imp (adS h) λm H R d=>by
 obtain⟨l,F,p,q⟩:=d;have q:=Rq.bind q;refine⟨l,F,p,Rq.mono (ar.refl _) q λx a v u t o s k=>?_⟩
 cases x with|str x=>
  simp only[RW]at k;have a:Rq B l F (if x.cps.all (·<128)=true then Res.ok (WL.signs x)else .bad) _:=a;by_cases b:x.cps.all (·<128)=true
  ·rw[ao1 b]at a;refine⟨x,k,b,(show∀J E G,_ from a) _ u t o s ⟨λi y e g w D C=>?_,λg w D C=>by show x.cps.size<=(WL.signs x).length;simp[WL.signs]⟩⟩;unfold WL.signs at e;rw[apo,apy]at e;obtain⟨c,e,rfl⟩:=e;have r:i<x.cps.size:=by have:=(ao3.mp e).1;simpa using this
   refine⟨r,λv I f=>?_⟩;obtain⟨A,z,j,y⟩:=f;subst A y;have:c=z:=by rw[arv]at e;rw[e]at j;exact apf j
   subst this;exact⟨g,Ext.refl _ _,by simp[RW]⟩
  ·rw[ao2 b]at a;exact(show False from a).elim|_=>exact(show False from a).elim
def sT:∀a c,WL.zk a≠.ex c:=λa c h=>by
 unfold WL.zk at h;split at h;·split at h<;>cases h
 ·cases h
 ·exact aP _ _ h
def ae3(j:X.K=K):bJ X (.builtin "len") (loN K WL.zk):=by
 intro b s f H l d Q I c⟨F,ws,g,r,q⟩;unfold WL.zk at q;split at q
 ·split at q;·rename_i x i;obtain⟨v,rfl,h⟩:=cz r;simp only[RW]at h;exact sU b s f H _ d Q I c ⟨x,by rw[h],apc i dw,eq1 q (by simp[RW])⟩
  ·exact q.elim
 ·rename_i m _;obtain⟨v,rfl,h⟩:=cz r;simp only[RW]at h;obtain⟨a,e,rfl,rd,k,_⟩:=h;have:=k.length;rw[apk]at this;exact nT b s f H _ d Q I c ⟨a,e,rfl,g.rd rd,eq1 q (by simp[RW,this])⟩
 ·exact dz j b s f H l d Q I c ⟨F,_,g,r,q⟩
def aeS:Calm WL.ah7:=λx y c h=>by
 unfold WL.ah7 at h;split at h;·cases h
 ·cases h
 ·exact nk _ _ _ h
def alT(j:X.K=K)(i:X.A.units+64<cLine):OpR X (compareOp .In) (lo2 K WL.ah7):=by
 intro c s g H x y v u Q I f h⟨F,wx,l,k,d,e,q⟩;unfold WL.ah7 at q;split at q;·rename_i a b;simp only[RW]at d e;exact aa4 c s g H x y v u Q I f h ⟨a,b,d,e,eq1 q (by simp[RW])⟩
 ·exact q.elim
 ·exact aiG j i c s g H x y v u Q I f h ⟨F,_,_,k,d,e,q⟩
noncomputable def kW:Key->VW|.inl none=>.non|.inl (some i)=>.int i|.inr z=>.str z
def oD{F:Hp}{x:VW}{a:Key}(h:RW K F x (kV a)):x=kW a:=by rcases a with(_|i)|z<;>cases x<;>simp only[kV,RW,reduceCtorEq,false_and,exists_false,exists_const]at h<;>cases h<;>rfl
def pU{F:Hp}{x y:VW}:∀{a b:Key},RW K F x (kV a)->RW K F y (kV b)->WL.uT x y=decide (a=b):=by intro a b c d;rw[oD c,oD d,apB];rcases a with(_|i)|z<;>rcases b with(_|j)|e<;>simp[WL.uT,kW]
def xb{F:Hp}{k:VW}{v:V}(b:WL.zt k=true)(r:RW K F k v):∃a,v=kV a:=by
 cases k<;>simp only[WL.zt]at b<;>first|(cases b;done)|skip
 ·simp only[RW]at r;exact⟨.inl none,r⟩
 ·rename_i i;simp only[RW]at r;exact⟨.inl (some i),r⟩
 ·rename_i x;simp only[RW]at r;exact⟨.inr x,r⟩
theorem vm{F:Hp}{k:VW}{a:Key}(b:RW K F k (kV a)):∀{kvs:List (Key×V)}{ks:List VW},RWs K F ks (kvs.map λp=>kV p.1)->WL.acZ k ks=kvs.any λc=>decide (c.1=a)
|[],ks,r=>by cases ks with|nil=>rfl|cons x ks=>simp[RWs]at r
|p::kvs,ks,r=>by cases ks with|nil=>simp[RWs]at r|cons x ks=>simp only[ao9,RWs]at r;obtain⟨h,g,d,e,f⟩:=r;cases d;show(WL.uT x k||WL.acZ k ks)=_;rw[pU e b,vm b f];rfl
theorem acB{F:Hp}{k w:VW}{a:Key}{v:V}(g:RW K F k (kV a))(i:RW K F w v):∀{kvs:List (Key×V)}{ks us:List VW},RWs K F ks (kvs.map λp=>kV p.1)->RWs K F us (kvs.map λp=>p.2)->RWs K F ks ((kvs.map λb=>if b.1=a then(b.1,v)else b).map λp=>kV p.1)/\RWs K F (WL.aeO k w ks us) ((kvs.map λb=>if b.1=a then(b.1,v)else b).map λp=>p.2)
|[],ks,us,r1,r2=>by cases ks with
 |nil=>cases us with|nil=>exact⟨r1,r2⟩|cons _ _=>simp[RWs]at r2
 |cons x ks=>simp[RWs]at r1
|p::kvs,ks,us,r1,r2=>by cases ks with|nil=>simp[RWs]at r1|cons x ks=>cases us with|nil=>simp[RWs]at r2|cons y us=>
    simp only[ao9,RWs]at r1 r2;obtain⟨t,s,j,c,n⟩:=r1;obtain⟨q,r,l,o,m⟩:=r2;cases j;cases l;obtain⟨f,d⟩:=acB g i n m;have e:=pU c g;unfold WL.aeO;rw[e];by_cases h:p.1=a;·rw[apO h,ao1 rfl];simp only[ao9,ao1 h];exact⟨.cons c f,.cons i d⟩
    ·rw[api h,ao2 ao7];simp only[ao9,ao2 h];exact⟨.cons c f,.cons o d⟩
def aaM{F:Hp}{k w:VW}{a:Key}{v:V}(b:RW K F k (kV a))(d:RW K F w v){kvs:List (Key×V)}{ks us:List VW}(c:RWs K F ks (kvs.map λp=>kV p.1))(e:RWs K F us (kvs.map λp=>p.2)):RWs K F (WL.putK ks k) ((putK kvs a v).map λp=>kV p.1)/\RWs K F (WL.afl ks us k w) ((putK kvs a v).map λp=>p.2):=by
 unfold WL.putK WL.afl L2.putK;rw[vm b c];by_cases h:(kvs.any λf=>decide (f.1=a))=true;·rw[ao1 h,ao1 h,ao1 h];exact acB b d c e
 ·rw[ao2 h,ao2 h,ao2 h,aqJ,aqJ];exact⟨c.app (.one b),e.app (.one d)⟩
variable{i j:Nat}{pos pos':Pos}{x:Str}
def zG{a:Pos}(t:X.N.Nodup)(v:X.N[i]?=some x)(n:Loc X.env.scope x)(h:swapsWith (.Dict [] [] a) (some (.Name x pos')) pos.line X.env=pure false:=by rfl)(r:X.fn x=true\/X.env.scope.names.lookup x=some .local:=by first|exact .inl rfl|exact .inr rfl|assumption):PS X (.Assign [.Name x pos'] (.Dict [] [] a) pos) (loS B (WL.agC i)):=PS.imp (qY t v n wD h r) λD k H d=>by obtain⟨z,F,R,q⟩:=d;intro p c;refine(show∀f w y,_ from q) _ _ F ((R.ah8 c (.dK [])).anR (R.rb.sub.free c) (R.rb.base.free c) ao (by simp[RWs]) (by simp[RWs]) λj m o _ u s=>?_) (ar.refl _);obtain⟨b,l,g,_,_,e,_⟩:=R.dd.od j m o u;rw[s]at g;cases g;rw[c]at e;cases e
def zF{o m b:Expr}{tv tk:EF}(Z:X.A.units+1<cLine)(J:PE X o (fj i))(S:PE X m (lo B tk))(P:PE X b (lo B tv))(G:swapsWith b (some (.Subscript o m pos')) pos.line X.env=pure false:=by rfl):PS X (.Assign [.Subscript o m pos'] b pos) (loS B (WL.hQ i tv tk)):=PS.imp (aaQ Z J S P G) λD h H n=>by obtain⟨c,F,R,q⟩:=n;have q:Oq B D F (match c[i]? with|some (.od ks us)=>WL.ofR c (tv c) λv=>WL.ofR c (tk c) λk=>WL.putD i ks us k v c|_=>.bad):=q;cases f:c[i]? with|none=>rw[f]at q;exact q.elim|some sl=>
 rw[f]at q;cases sl with|od ks us=>
   have q:=Oq.ofR (show Oq B D F (WL.ofR c (tv c) λv=>WL.ofR c (tk c) λk=>WL.putD i ks us k v c)from q);refine⟨c,F,R,Rq.mono (ar.refl _) q λw p v H1 U s A r1=>?_⟩;obtain⟨a,Q,l,_⟩:=s.dd.od i ks us f;refine⟨.ref a,l,?_⟩;have p:=Oq.ofR p;refine⟨c,U,s,Rq.mono A.f p λk d y H2 O R2 r z=>?_⟩;obtain⟨a',e,C,M,k3,t,u,k6⟩:=R2.dd.od i ks us f;rw[l]at C;cases C;have d:Oq B D F (if WL.zt k=true/\ks.length<WL.lim then .nx (c.set i (.od (WL.putK ks k) (WL.afl ks us k w)))else .bad):=d;by_cases g:WL.zt k=true/\ks.length<WL.lim
   ·rw[ao1 g]at d;obtain⟨Y,rfl⟩:=xb g.1 z;have N:e.length<sizeLine:=by have:=u.length;rw[apk]at this;rw[<-this];exact apa g.2 dw
    obtain⟨I,T⟩:=aaM z (r1.keep r.f) u k6;exact⟨a,_,rfl,aik.k t N,(show∀E H' F',_ from d) h _ O (R2.aeZ f l M k3 t I T) (A.f.trans r.f)⟩
   ·rw[ao2 g]at d;exact d.elim|_=>exact q.elim
end
end WS
set_option autoImplicit true
set_option relaxedAutoImplicit true
namespace L2
open PySem PySem.Spec PyProof.Rows
section
variable{X:Cx}{k:Nat}{f C:Addr}{fd:FuncData}{ps:List Str}{sp:Sp}{dvs:List V}{ds:List Value}{x:Str}{p pos:Pos}{e:Expr}{es:List Expr}{t:TA}
def ae5(X:Cx)(C:Addr)(sp:Sp)(dvs:List V)(t:TA):TE:=λi H Q=>t i H λj d=>∀x c,d x=none->d c=none->c≠x->∃E:XK,sp (.ref x::(j++dvs)) (upd (upd d c (.own x)) x (.ins C c [])) (λv l=>v=.non/\Q (.ref x) l) E/\∀a s e h b T g,Thr X a i g s e h b .none (some T)->E (.ref h) b g->X.xe (.ref e) s
def wA(M:Mk X.K C f)(F:FnOk X.prog X.w X.K X.mg X.base (CXX X.prog X.w) k f fd ps sp)(O:Room (k+1) X.A)(K:Gl X x)(B:X.mg x=some (.ref C))(R:Binds X.K fd ps ds)(Y:Vals dvs ds)(y:PA X (e::es) t)(l:(x==("__debug__":Str))=false:=by decide)(S:starEach (e::es) X.env=(false,eval e X.env)::starEach es X.env:=by rfl)(i:(backTo pos (starEach es X.env)).any (·.1)=false:=by rfl):PE X (.Call (.Name x p) (e::es) [] pos) (ae5 X C sp dvs t):=by
 intro b N σ z Q j Z;refine aqn (dt j K B ?_ l);refine asl j.ok.mod.kin M.kp (thn (y pos b N σ z _ j Z) λc s⟨U,H,I,r,h⟩=>⟨I.kIn,?_⟩) S i;obtain⟨E,n,P⟩:=h (s.heap.objs.size+1) s.heap.objs.size (I.hok.fresh (aqL _)) (I.hok.fresh (ao6 _)) (apm (aqy _));have d:=Inv.made (C:=C) I;have o:Vals (V.ref (s.heap.objs.size+1)::(U++dvs)) (Value.ref (s.heap.objs.size+1)::(c++ds)):=.cons rfl (r.append Y);have A:(Value.ref (s.heap.objs.size+1)::c++ds).length=ps.length:=by have e:=o.length;rw[F.len _ _ _ _ n]at e;exact e.symm
 refine arA (aec I.kIn M.makes M.init (ap8.mp M.fn) (aq3 (F.run _ X.stack _ _ ⟨Value.ref (s.heap.objs.size+1)::c,[]⟩ (Value.ref (s.heap.objs.size+1)::(c++ds)) _ _ E (O.make C c []) trivial (d.alH.make C c []) (R _ (Value.ref (s.heap.objs.size+1)::c) d.kIn A) o n) λr w a=>?_));cases r with|error e=>obtain⟨ea,D,m,T,g,rfl,t,q⟩:=d.thrown a;exact P b w ea D m T g t q|ok fl=>cases fl with|ret u=>obtain⟨v,g,I3,G,ev,J⟩:=d.after a;subst ev;exact⟨G,⟨V.ref (s.heap.objs.size+1),g,I3,rfl,J⟩⟩|next=>exact False.elim a|brk=>exact False.elim a|cont=>exact False.elim a
end
end L2
namespace WS
open PySem PySem.Spec PyProof.Rows L2
open WL(Res Sl Ws EF TF AF LF GF GsF SF Out)
section
variable{B B1:Bx}{σ:Ws}{σV:L2.St}{F H F' H':Hp}
def RB.adJ(R:RB B1 F' H')(c:B1.H0=H)(d:B1.F0=F)(b:RB B F H):RB B F' H':=by
 subst c d;refine⟨R.sub,b.base.trans R.base,b.fz0.trans R.fz0,λa o e=>?_⟩;rcases R.fr a o e with z|z;·exact b.fr a o z
 ·exact .inr ⟨b.base.free z.1,z.2⟩
theorem RS.adJ(R:RS B1 σ σV F' H')(d:B1.K=B.K)(g:B1.H0=H)(p:B1.F0=F)(k:RB B F H):RS B σ σV F' H':=by
 refine⟨R.rb.adJ g p k,R.len,λi w e=>?_,λi ws e=>?_,R.ap,λi m n e=>?_,R.dd.ad,R.dd.ob⟩;·obtain⟨v,c,b⟩:=R.va i w e;exact⟨v,c,d▸b⟩
 ·obtain⟨a,o,c,b,f,h,j⟩:=R.ow i ws e;exact⟨a,o,c,b,k.base.free (g▸f),h,d▸j⟩
 ·obtain⟨a,l,c,b,f,h,j,q⟩:=R.dd.od i m n e;exact⟨a,l,c,b,k.base.free (g▸f),h,d▸j,d▸q⟩
def RS.front (R:RS B σ (σV++r) F H)(G:σV.length=k):RS B (σ.take k) σV F H:=by
 subst G;have b:∀{i:Nat}{m:Sl},(σ.take σV.length)[i]?=some m->σ[i]?=some m/\(σV++r)[i]?=σV[i]?:=λ{i m}e=>by
  have z:i<σV.length:=by have:=(ao3.mp e).1;rw[aqA]at this;omega
  rw[asm z]at e;exact⟨e,apq z⟩
 have p:=R.len;refine⟨R.rb,by rw[aqA,p,apD];omega,λi w e=>?_,λi ws e=>?_,λi j ws q a s c d n u=>?_,λi x y e=>?_,λi j x y I D a s c d n u=>?_,λi e=>?_⟩;·obtain⟨c,d⟩:=b e;obtain⟨v,h,f⟩:=R.va i w c;exact⟨v,d▸h,f⟩
 ·obtain⟨c,d⟩:=b e;obtain⟨a,E,h,f⟩:=R.ow i ws c;exact⟨a,E,d▸h,f⟩
 ·obtain⟨c,g⟩:=b c;obtain⟨t,o⟩:=b d;exact R.ap i j ws q a s c t (g.trans n) (o.trans u)
 ·obtain⟨c,d⟩:=b e;obtain⟨a,l,h,f⟩:=R.dd.od i x y c;exact⟨a,l,d▸h,f⟩
 ·obtain⟨c,g⟩:=b c;obtain⟨t,o⟩:=b d;exact R.dd.ad i j _ _ _ _ a s c t (g.trans n) (o.trans u)
 ·obtain⟨c,d⟩:=b e;obtain⟨a,C,A,h,f⟩:=R.dd.ob i c;exact⟨a,C,A,d▸h,f⟩
def RS.snoc(R:RS B σ σV F H):RS B (σ++[.no]) (σV++[none]) F H:=by
 have b:∀{i:Nat}{m:Sl},(σ++[Sl.no])[i]?=some m->m≠.no->σ[i]?=some m/\(σV++[none])[i]?=σV[i]?:=λ{i m}e k=>by
  by_cases y:i<σ.length;·rw[apq y]at e;exact⟨e,apq (by rw[<-R.len];exact y)⟩
  ·rw[apw (by omega)]at e;cases u:i-σ.length with|zero=>rw[u]at e;cases e;exact(k rfl).elim|succ n=>rw[u]at e;cases e
 refine⟨R.rb,by simp[R.len],λi w e=>?_,λi ws e=>?_,λi j ws q a k c d o s=>?_,λi t x e=>?_,λi j t x G D a k c d o s=>?_,λi e=>?_⟩;·obtain⟨c,d⟩:=b e (λz=>nomatch z);obtain⟨v,h,f⟩:=R.va i w c;exact⟨v,d.trans h,f⟩
 ·obtain⟨c,d⟩:=b e (λz=>nomatch z);obtain⟨a,E,h,f⟩:=R.ow i ws c;exact⟨a,E,d.trans h,f⟩
 ·obtain⟨c,g⟩:=b c (λz=>nomatch z);obtain⟨r,p⟩:=b d (λz=>nomatch z);exact R.ap i j ws q a k c r (g.symm.trans o) (p.symm.trans s)
 ·obtain⟨c,d⟩:=b e (λz=>nomatch z);obtain⟨a,l,h,f⟩:=R.dd.od i t x c;exact⟨a,l,d.trans h,f⟩
 ·obtain⟨c,g⟩:=b c (λz=>nomatch z);obtain⟨r,p⟩:=b d (λz=>nomatch z);exact R.dd.ad i j _ _ _ _ a k c r (g.symm.trans o) (p.symm.trans s)
 ·obtain⟨c,d⟩:=b e (λz=>nomatch z);obtain⟨a,C,A,h,f⟩:=R.dd.ob i c;exact⟨a,C,A,d.trans h,f⟩
structure Ex(f:Str)(x C dx d:Addr)(σV:L2.St)(F H:Hp):Prop where
 sl:σV[0]?=some (some (.ref x))F:F x=none
 H:H x=some (.ins C dx [(f,.ref d)])
def Oq4(B:Bx)(f:Str)(x C dx:Addr)(D:Ends)(F:Hp):Out->Prop|.nx σ'=>∀a d H' F',a.length=3->RS B σ' (a++[some (.ref d)]) F' H'->Ex f x C dx d a F' H'->ar F F'->D.nx a H'|.ex c σ'=>B.xp c σ' F|_=>False
def aob(B:Bx)(f:Str)(x C dx:Addr)(t:SF):TS:=λD σV H=>∃σ d F,σV.length=3/\RS B σ (σV++[some (.ref d)]) F H/\Ex f x C dx d σV F H/\Oq4 B f x C dx D F (t σ)
theorem Oq4.mono{f:Str}{x C dx:Addr}{D:Ends}{F F':Hp}{o:Out}(s:ar F F')(h:Oq4 B f x C dx D F o):Oq4 B f x C dx D F' o:=by cases o with|nx σ=>exact λσV d H G a R ex z=>h σV d H G a R ex (s.trans z)|ex c σ=>exact B.mono c σ F F' s h|_=>exact h
end
section
variable{X:Cx}{B:Bx}{f:Str}{x C dx:Addr}{self texts name value tg:Expr}{tv:EF}{ap sp apos pos:Pos}
def af2(hK:X.K=B.K)(hx:XW X B)(J:∀c a P F,B.xp c a F->B.xp c P F)(hu:X.A.units+1<cLine)(h:PE X self (fj 0))(i:PE X name (fj 2))(hv:∀G:Bx,G.K=X.K->XW X G->PE X value (lo G tv))(hb:attributeBase self f X.env (eval self X.env)=eval self X.env)(cl:Cls X.K C)(na:aS X.K C f)(K:swapsWith value (some (.Subscript (.Attribute self f ap) name sp)) apos.line X.env=pure false):PS X (.Assign [.Subscript (.Attribute self f ap) name sp] value apos) (aob B f x C dx (WL.hQ 3 (WL.zY tv) (WL.aj 2))):=by intro g s b H D I⟨a,d,F,r,R,ex,q⟩;have q:Oq4 B f x C dx D F (match(a[3]?:Option Sl)with|some (.od ks us)=>WL.ofR a (WL.zY tv a) λv=>WL.ofR a (WL.aj 2 a) λk=>WL.putD 3 ks us k v a|_=>.bad):=q;cases n:a[3]? with|none=>rw[n]at q;exact(q).elim|some sl=>rw[n]at q;cases sl with
 |od ks us=>
   have q:=q;let O:Bx:=⟨B.K,H,F,B.xp,B.mono⟩;have N:XW X O:=λg b H1 s a F1 c u xp e C dx T fl t xr=>hx g b H1 s a F1 c (u.adJ rfl rfl rfl R.rb) xp e C dx T fl t xr;have u:RS O (WL.tK (a.take 3)) b F H:=(R.front r).tK rfl rfl rfl;have Z:(b++[some (V.ref d)])[3]?=some (some (.ref d)):=by rw[apw (by omega),r];rfl
   refine aaQ hu (mw h hb) i (hv O hK.symm N) K g s b H D I ?_;refine⟨_,F,u,?_⟩;have q:Oq4 B f x C dx D F (WL.ofR a (tv (WL.tK (a.take 3))) λv=>WL.ofR a (WL.aj 2 a) λk=>WL.putD 3 ks us k v a):=q;cases Q:tv (WL.tK (a.take 3))with|bad=>rw[Q]at q;exact q|ex c=>rw[Q]at q;exact J c _ _ F q|ok w=>rw[Q]at q;intro v H2 F2 R2 m r2;have q:=q;have j:=m.h _ _ ex.H;refine⟨.ref x,ex.sl,x,C,dx,[(f,.ref d)],.ref d,rfl,j,cl,na,by simp[List.lookup],?_⟩;have A:=R.grow m (R2.rb.adJ rfl rfl R.rb);cases M:a[2]? with|none=>unfold WL.aj at q;rw[M]at q;exact(q).elim|some sl=>
     unfold WL.aj at q
     rw[M]at q;cases sl with|va k=>
      have q:Oq4 B f x C dx D F (if WL.zt k=true/\ks.length<WL.lim then .nx (a.set 3 (.od (WL.putK ks k) (WL.afl ks us k w)))else .bad):=q;obtain⟨y,U,S⟩:=A.va 2 k M;rw[apq (by omega)]at U;refine⟨y,U,?_⟩;by_cases o:WL.zt k=true/\ks.length<WL.lim
      ·rw[ao1 o]at q;obtain⟨a0,rfl⟩:=xb o.1 S;obtain⟨a',E,k1,k2,k3,p,Y,k6⟩:=A.dd.od 3 ks us n;rw[Z]at k1;cases k1;have l:E.length<sizeLine:=by have:=Y.length;rw[apk]at this;rw[<-this];exact apa o.2 dw
       obtain⟨p1,p2⟩:=aaM S (r2) Y k6;refine⟨d,_,rfl,aik.k p l,(q) b d _ F2 r (A.aeZ n Z k2 k3 p p1 p2) ⟨ex.sl,?_,?_⟩ m.f⟩;·exact m.nf x _ ex.H ex.F
       ·rw[ag (λz=>by rw[<-z,j]at p;cases p)];exact j
      ·rw[ao2 o]at q;exact(q).elim|_=>exact(q).elim
 |_=>exact(q).elim
theorem Oq4.fz   (e:F a=some (.dK kvs))(w:Was B a kvs)(g:x≠a)(h:Oq4 B f x C dx D F o):Oq4 (B.fz a od kvs) f x C dx (ahB D a od kvs) (upd F a (zD od kvs)) o:=by
 have bk:∀{i},ar (upd F a (zD od kvs)) i->ar F (upd i a (.dK kvs)):=λs=>by have:=uh (o':=.dK kvs) s;rwa[n4 e]at this
 cases o with|nx σ=>exact λb d H G j R ex z=>⟨(R.rb.th w).2.1,h b d _ _ j (R.th w) ⟨ex.sl,by rw[ag g];exact ex.F,by rw[ag g];exact ex.H⟩ (bk z)⟩|ex c σ=>show B.xp c σ (upd (upd F a (zD od kvs)) a (.dK kvs));rw[tW,n4 e];exact h|_=>exact h
def v8  :(∀a,WL.hQ i ev ek σ≠.ct a)/\∀a,WL.hQ i ev ek σ≠.bk a:=by
 unfold WL.hQ;split;·cases ev σ with
 |ok v=>cases ek σ with|ok k=>rename_i b d _;show(∀a,(if WL.zt k=true/\b.length<WL.lim then Out.nx (σ.set i (.od (WL.putK b k) (WL.afl b d k v)))else .bad)≠.ct a)/\∀a,(if WL.zt k=true/\b.length<WL.lim then Out.nx (σ.set i (.od (WL.putK b k) (WL.afl b d k v)))else .bad)≠.bk a;split<;>exact⟨λ_ z=>(by cases z),λ_ z=>(by cases z)⟩|ex c=>exact⟨λ_ z=>(by cases z),λ_ z=>(by cases z)⟩|bad=>exact⟨λ_ z=>(by cases z),λ_ z=>(by cases z)⟩
 |ex c=>exact⟨λ_ z=>(by cases z),λ_ z=>(by cases z)⟩|bad=>exact⟨λ_ z=>(by cases z),λ_ z=>(by cases z)⟩
 ·exact⟨λ_ z=>(by cases z),λ_ z=>(by cases z)⟩
def af4(hK:X.K=B.K)(hp:PassesOwn (model X.prog X.w) X.A X.env X.xe)(hc:X.calm=true)(hx:XW X B)(a1:∀c A e F,B.xp c A F->B.xp c e F)(hu:X.A.units+1<cLine)(b1:PE X texts (fj 1))(T:PE X self (fj 0))(Q:PE X name (fj 2))(hg:PG X tg (L2.aA 2))(hv:∀t:Bx,t.K=X.K->XW X t->PE X value (lo t tv))(hb:attributeBase self f X.env (eval self X.env)=eval self X.env)(cl:Cls X.K C)(na:aS X.K C f)(a7:swapsWith value (some (.Subscript (.Attribute self f ap) name sp)) apos.line X.env=pure false)(hs:∀x,foldedSetIterable texts X.env x=pure x:=by intro _;rfl):PS X (.For tg texts [.Assign [.Subscript (.Attribute self f ap) name sp] value apos] [] pos) (aob B f x C dx (WL.abr tv)):=by
 intro k s u H D I⟨A,d,F,hl,R,ex,q⟩;have P:∀(t:Bx)(S:Ends)(k:List (Addr×Obj))(s:Shared)(H' K:Hp)(l:List VW)(a:Addr)(od:Obj)(g:List (Key×V)),t.K=X.K->XW X t->(∀c A e F,t.xp c A F->t.xp c e F)->Inv X k u H' s->RS t A (u++[some (.ref d)]) K H'->Ex f x C dx d u K H'->u[1]?=some (some (.ref a))->K a=some (zD od g)->RWs t.K K l (g.map λp=>kV p.1)->Oq4 t f x C dx S K (WL.forL (WL.aA 2) (WL.hQ 3 (WL.zY tv) (WL.aj 2)) l A)->wpAny (model X.prog X.w) X.A (exec (.For tg texts [.Assign [.Subscript (.Attribute self f ap) name sp] value apos] [] pos) X.env) (SP X k S) X.xe s:=by
  intro t S k s H' K l a od g a9 b0 a2 I' R' a8 Y e3 rk q';refine wq (wi:=λu H R=>∃J,R J H/\J=Itd a od g/\u[1]?=some (some (.ref a))/\H a=some (zD od g)) hp hc (PI.imp (uv b1) λu H R a6=>by obtain⟨J,r,ej,Y,e3⟩:=a6;exact⟨.ref a,Y,a,od,g,rfl,e3,by rw[<-ej];exact r⟩) hg (dP (af2 (x:=x) (dx:=dx) a9.symm b0 a2 hu T Q hv hb cl na a7)) hs k s u H' S I' ?_;refine⟨_,?_,rfl,Y,R'.rb.sub _ _ e3⟩;have wk:=lC e3 rk;refine⟨λj m n Z=>m=l.length-j/\j<=l.length/\∃e d' E,n.length=3/\RS t e (n++[some (.ref d')]) E Z/\Ex f x C dx d' n E Z/\ar K E/\Oq4 t f x C dx S E (WL.forL (WL.aA 2) (WL.hQ 3 (WL.zY tv) (WL.aj 2)) (l.drop j) e),⟨l.length,rfl,apH _,A,d,K,hl,R',a8,ar.refl _,by rw[aqR];exact q'⟩,?_⟩;rintro j m n Z⟨rfl,hj,e,d',E,a0,R1,M,s1,y⟩;by_cases N:j<l.length
  ·have hd:=apF N;rw[hd]at y;obtain⟨go,yl⟩:=wk.go j l[j] (ao5 N) E Z s1 R1.rb.sub;refine .inr ⟨go,λb H2=>∃O a3 F2,b.length=3/\RS t O (b++[some (.ref a3)]) F2 H2/\Ex f x C dx a3 b F2 H2/\ar K F2/\Oq4 t f x C dx S F2 (WL.forL (WL.aA 2) (WL.hQ 3 (WL.zY tv) (WL.aj 2)) (l.drop (j+1)) O),λb H2 h2=>⟨l.length-(j+1),by omega,rfl,N,h2⟩,λv H2 hy=>?_⟩;obtain⟨e4,p,e5,e6⟩:=hy;subst e4 e6;have hr:RW t.K E l[j] (kV p.1):=by obtain⟨v',h1,h2⟩:=rk.get (ao5 N);rw[apo,e5]at h1;cases h1;exact h2.keep s1
   have R2:RS t (e.set 2 (.va l[j])) ((n.set 2 (some (kV p.1)))++[some (.ref d')]) E H2:=by have:=R1.set (i:=2) hr;rwa[List.set_append_left _ _ (by omega)]at this
   refine⟨e.set 2 (.va l[j]),d',E,by rw[List.length_set];exact a0,R2,⟨by rw[ao0 (by decide)];exact M.sl,M.F,M.H⟩,?_⟩;have y:Oq4 t f x C dx S E (match WL.hQ 3 (WL.zY tv) (WL.aj 2) (e.set 2 (.va l[j]))with|.nx b=>WL.forL (WL.aA 2) (WL.hQ 3 (WL.zY tv) (WL.aj 2)) (l.drop (j+1)) b|.ct b=>WL.forL (WL.aA 2) (WL.hQ 3 (WL.zY tv) (WL.aj 2)) (l.drop (j+1)) b|.bk b=>.nx b|o=>o):=y;cases G:WL.hQ 3 (WL.zY tv) (WL.aj 2) (e.set 2 (.va l[j]))with|nx b=>rw[G]at y;exact λb2 d4 H4 F4 a4 R4 a5 s4=>⟨b,d4,F4,a4,R4,a5,s1.trans s4,Oq4.mono s4 y⟩|ex c b=>rw[G]at y;exact y|bad=>rw[G]at y;exact y|rt w=>rw[G]at y;exact y|ct b=>exact(v8.1 _ G).elim|bk b=>exact(v8.2 _ G).elim
  ·have ei:j=l.length:=by omega
   subst ei;rw[aqC]at y;exact .inl ⟨wk.stop E Z s1 R1.rb.sub,(y) n d' Z E a0 R1 M (ar.refl _)⟩
 have q:Oq4 B f x C dx D F (WL.ofR A (WL.aib 1 A) λxs=>WL.forL (WL.aA 2) (WL.hQ 3 (WL.zY tv) (WL.aj 2)) xs A):=q;unfold WL.aib at q;cases G:A[1]? with|none=>rw[G]at q;exact(q).elim|some sl=>rw[G]at q;cases sl with
 |va w=>cases w with|dic l us=>
    have q:=q;obtain⟨v,Y,r2⟩:=R.va 1 _ G;rw[apq (by omega)]at Y;simp only[RW]at r2;obtain⟨a,g,rfl,rd,rk,ru⟩:=r2;rcases rd with rd|⟨od,rd⟩
    ·obtain⟨od,I',hn⟩:=I.ahs (R.rb.sub _ _ rd);have w:=R.rb.was rd;have U:x≠a:=λz=>by have:=ex.F;rw[z,rd]at this;cases this
     exact thn (P (B.fz a od g) (ahB D a od g) k s _ _ l a od g hK.symm (hx.fz w hn) (λc A e F h=>a1 c A e _ h) I' (R.fz rd) ⟨ex.sl,by rw[ag U];exact ex.F,by rw[ag U];exact ex.H⟩ Y ao (rk.fz rd) (q.fz rd w U)) λf s h=>agt hn f s h
    ·exact P B D k s H F l a od g hK.symm hx a1 I R ex Y rd rk q|_=>exact(q).elim
 |_=>exact(q).elim
end
noncomputable def h8(H:Hp)(x:Addr):Hp:=λb=>if b=x then none else H b
def cH{H:Hp}{x b:Addr}(h:b≠x):h8 H x b=H b:=ao2 h
def mX :h8 H x x=none:=ao1 rfl
def pX{H:Hp}{x b:Addr}{o:HO}(h:h8 H x b=some o):b≠x/\H b=some o:=by
 by_cases a:b=x;·subst a;rw[mX]at h;cases h
 ·rw[cH a]at h;exact⟨a,h⟩
def aev  (h:F x=none):h8 (upd F x o) x=F:=by
 funext b;by_cases a:b=x;·subst a;rw[mX,h]
 ·rw[cH a,ag a]
def abO (s:ar F F'):ar (h8 F x) (h8 F' x):=λb o e=>by obtain⟨a,c⟩:=pX e;rw[cH a];exact s b o c
section
variable{K:W.Frag}{F:Hp}{x:Addr}{C dx:Addr}
def RWs.akc{F':Hp}(h:∀b o,F b=some o->F' b=some o\/∃C dx,o=.ins C dx []){ws:List VW}{vs:List V}(r:RWs K F ws vs):RWs K F' ws vs:=by
 have k:∀{b:Addr}{o:HO},F b=some o->(∀C dx,o≠.ins C dx [])->F' b=some o:=λ{b o}e n=>by
  rcases h b o e with z|⟨C,dx,z⟩;·exact z
  ·exact(n C dx z).elim
 refine RWs.via (λb c q=>?_) (λb c q=>?_) (λb g q=>?_) (λb f q=>k q λ_ _ z=>nomatch z) (λb f q=>k q λ_ _ z=>nomatch z) (λb C dx l a q=>k q λi d z=>by cases z;exact a rfl) ws vs r
 ·rcases q with(q|⟨o,q⟩)|q;·exact .inl (.inl (k q λ_ _ z=>nomatch z))
  ·exact .inl (.inr ⟨o,k q λ_ _ z=>nomatch z⟩)
  ·exact .inr q
 ·rcases q with(q|⟨o,q⟩)|q;·exact .inl (.inl (k q λ_ _ z=>nomatch z))
  ·exact .inl (.inr ⟨o,k q λ_ _ z=>nomatch z⟩)
  ·exact .inr q
 ·rcases q with q|⟨o,q⟩;·exact .inl (k q λ_ _ z=>nomatch z)
  ·exact .inr ⟨o,k q λ_ _ z=>nomatch z⟩
def RWs.out(e:F x=some (.ins C dx [])){ws:List VW}{vs:List V}(r:RWs K F ws vs):RWs K (h8 F x) ws vs:=r.akc λb o q=>by
 by_cases a:b=x;·subst a;rw[e]at q;cases q;exact .inr ⟨_,_,rfl⟩
 ·exact .inl (by rw[cH a];exact q)
theorem XR.out(e:F x=some (.ins C dx [])){c:VW}{g:Addr}{i:Option Addr}(h:XR K F c g i):XR K (h8 F x) c g i:=by cases c with|exc nm fs=>obtain⟨j,a,k,n,l⟩:=h;exact⟨j,a,k,n.out e,l.imp id λf=>by obtain⟨d,m,b⟩:=f;exact⟨d,m,by rw[cH (λz=>by rw[z,e]at b;cases b)];exact b⟩⟩|_=>exact h.elim
end
section
variable{B B1:Bx}{σ:Ws}{σV:L2.St}{F H F1 H1:Hp}{x C dx:Addr}
def RB.out(R:RB B1 F H)(c:B1.H0=H1)(d:B1.F0=upd F1 x (.ins C dx []))(h:F1 x=none)(g:B.H0=h8 H1 x)(f:B.F0=F1):RB B (h8 F x) H:=by
 refine⟨λb o e=>R.sub b o (pX e).2,λb o e=>?_,λb o e=>?_,λb o e=>?_⟩;·rw[g]at e;exact R.base b o (by rw[c];exact(pX e).2)
 ·rw[f]at e;have a:b≠x:=λz=>by rw[z,h]at e;cases e
  rw[cH a];exact R.fz0 b o (by rw[d,ag a];exact e)
 ·obtain⟨a,e⟩:=pX e;rw[g,f];rcases R.fr b o e with z|z;·rw[d,ag a]at z;exact .inl z
  ·exact .inr ⟨by rw[cH a,<-c];exact z.1,z.2⟩
theorem RS.clr(R:RS B1 σ σV F H)(o:B1.K=B.K)(l:F x=some (.ins C dx []))(r:RB B (h8 F x) H):RS B (WL.clr σ) σV (h8 F x) H:=by
 have b:∀{i:Nat}{d:Sl},(WL.clr σ)[i]?=some d->d=.no\/∃w,d=.va w/\σ[i]?=some (.va w):=λ{i d}e=>by unfold WL.clr at e;rw[apo]at e;cases g:σ[i]? with|none=>rw[g]at e;cases e|some s0=>rw[g]at e;have e:=apf e;subst e;cases s0 with|va w=>exact .inr ⟨w,rfl,rfl⟩|_=>exact .inl rfl
 refine⟨r,by rw[<-R.len];simp[WL.clr],λi w e=>?_,λi ws e=>?_,λi j ws n a _ f=>?_,λi k m e=>?_,λi j k m _ _ a _ f=>?_,λi e=>?_⟩
 ·rcases b e with z|⟨c,z,q⟩;·cases z
  ·cases z;obtain⟨v,p,h⟩:=R.va i w q;exact⟨v,p,by rw[<-o];exact RW.one ((RWs.one h).out l)⟩
 ·rcases b e with z|⟨c,z,_⟩<;>cases z
 ·rcases b f with z|⟨c,z,_⟩<;>cases z
 ·rcases b e with z|⟨c,z,_⟩<;>cases z
 ·rcases b f with z|⟨c,z,_⟩<;>cases z
 ·rcases b e with z|⟨c,z,_⟩<;>cases z
end
def acF{σ:Ws}{j:Nat}:(∀ws,(WL.clr σ)[j]?≠some (.ow ws))/\∀a b,(WL.clr σ)[j]?≠some (.od a b):=by unfold WL.clr;rw[apo];cases σ[j]? with|none=>exact⟨λ_ z=>(by cases z),λ_ _ z=>(by cases z)⟩|some s=>cases s<;>exact⟨λ_ z=>(by cases z),λ_ _ z=>(by cases z)⟩
def ahY(K:W.Frag)(f:Str)(x dx C:Addr)(F H:Hp)(Q:VK)(E:XK):Res VW->Prop|.ok wd=>∀e a d,H d=none->ar F a->ar a e->(∀b o,b≠x->H b=some o->e b=some o)->e x=some (.ins C dx [(f,.ref d)])->a x=none->(∀b o,a b=some o->F b=some o\/(b=x\/H b=none)/\NF o)->RW K a wd (.ref d)->Q .non e|.ex c=>∀h g e a,ar F a->ar a e->(∀b o,b≠x->H b=some o->e b=some o)->(∀b o,a b=some o->F b=some o\/(b=x\/H b=none)/\NF o)->XR K a c h g->E (.ref h) g e|.bad=>False
def spB(K:W.Frag)(f:Str)(d:List VW->Res VW):Sp:=λc H Q E=>∃x b C F w v,c=[.ref x,v]/\H x=some (.ins C b [])/\Cls K C/\aS K C f/\F x=none/\(∀a C b,F a≠some (.ins C b []))/\ar F H/\RW K F w v/\ahY K f x b C F H Q E (d [w])
section
variable{P:Program}{w:World}{K:W.Frag}{mg:Str->Option Value}{base:Heap}
def aer{nm a1 m:Str}{st:Stmt}{f:Addr}{fd:FuncData}{n0 n1 n2:Str}{k:Nat}{fn:List VW->Res VW}{s1 s2:Stmt}{self l y name I tg:Expr}{p0 p1 p2 p3 p4 p5 p6:Pos}(t1 t2:SF)(tv:EF)(Fn:Fun K nm a1 st f fd)(S:FnScope [n0,n1,n2] [n0,n1] (af st))(c9:WL.anU t1 t2 tv=fn)(d3:aH st=[s1,s2,.Assign [.Attribute self m p0] (.Dict [] [] p1) p2,.For tg y [.Assign [.Subscript (.Attribute l m p3) name p4] I p5] [] p6])(h:∀(a2:Value)(A:Around)(D:List Env)(s:Shared)(H:Hp)(E:XK)(X:Cx),X=ff (CXX P w) P w K mg base [n0,n1,n2] a1 (af st) f a2 A D s H E->Room k X.A->PassesOwn (model P w) X.A X.env X.xe->(∀B:Bx,B.K=K->XW X B->PS X s1 (loS B t1)/\PS X s2 (loS B t2)/\PE X I (lo B tv))/\PE X self (fj 0)/\PE X l (fj 0)/\PE X y (fj 1)/\PE X name (fj 2)/\PG X tg (L2.aA 2)/\X.calm=true/\attributeBase l m X.env (eval l X.env)=eval l X.env/\swapsWith (.Dict [] [] p1) (some (.Attribute self m p0)) p2.line X.env=pure false/\swapsWith I (some (.Subscript (.Attribute l m p3) name p4)) p5.line X.env=pure false/\∀x,foldedSetIterable y X.env x=pure x):FnOk P w K mg base (CXX P w) (k+1) f fd [n0,n1] (spB K m fn):=by
 subst c9;obtain⟨oc,od,f4,f3,pm,an,a2,ct,f5,rfl,lk,d1⟩:=Fn.ex;refine u1 lk d1 S (λvs H Q E a5=>by obtain⟨x,dx,C,F,w,v,e,_⟩:=a5;rw[e];rfl) λA D s H vs Q E hr _ a5=>?_;obtain⟨x,dx,C,F,w',v,e,hH,cl,na,hF,d0,sm,r,g⟩:=a5;subst e;obtain⟨X,eX⟩:∃X,X=ff (CXX P w) P w K mg base [n0,n1,n2] a1 (af st) f a2 A D s H E:=⟨_,rfl⟩;rw[<-eX];have c3:Room k X.A:=by rw[eX];exact hr
 have Y:X.K=K:=by rw[eX];rfl
 have a6:PassesOwn (model P w) X.A X.env X.xe:=by rw[eX];exact aqO
 obtain⟨hB,b0,a3,e9,a7,hg,hc,d5,d2,d7,d6⟩:=h a2 A D s H E X eX c3 a6;let Bz:Bx:=⟨K,h8 H x,F,λ_ _ _=>False,λ_ _ _ _ _ h=>h⟩;let Z:Bx:=Bz.nY (λc _ M=>∀C dx U N,ar M N->RB Bz N U->XR K N c C dx->E (.ref C) dx U) λc O M F2 s h C dx U N s'=>h C dx U N (s.trans s');have c8:XW X Z:=λc0 e6 H1 s1 O M c R1 xp e C dx T m t xr=>by subst eX;exact jN t (xp C dx H1 M (ar.refl _) (R1.rb.box rfl rfl) xr)
 let F0:Hp:=upd F x (.ins C dx []);let B1:Bx:=⟨K,H,F0,λc O M=>Z.xp c O (h8 M x),λc O M F2 s h=>Z.mono c O _ _ (abO s) h⟩;have b7:∀{M H1:Hp},RB B1 M H1->M x=some (.ins C dx [])/\RB Z (h8 M x) H1:=λ{M H1}R=>⟨R.fz0 x _ (ao),R.out rfl rfl hF rfl rfl⟩;have d4:XW X B1:=λc0 e6 H1 s1 O M c R1 xp e Ce b3 T m t xr=>by obtain⟨z1,z2⟩:=b7 R1.rb;subst eX;exact jN t (xp Ce b3 H1 _ (ar.refl _) (z2.box rfl rfl) (xr.out z1))
 obtain⟨h1,h2,_⟩:=hB B1 rfl d4;have hu:X.A.units+1<cLine:=by have:=c3.un;omega
 have h4:=af4 (X:=X) (B:=Z) (f:=m) (x:=x) (C:=C) (dx:=dx) (tv:=tv) (ap:=p3) (sp:=p4) (apos:=p5) (pos:=p6) Y (by rw[eX]at a6⊢;exact a6) hc c8 (λc O f2 F h=>h) hu e9 a3 a7 hg (λB' hk hx=>(hB B' (hk.trans Y) hx).2.2) d5 (Y▸cl) (Y▸na) d7 d6;have b6:aH st=[s1,s2,.Assign [.Attribute self m p0] (.Dict [] [] p1) p2,.For tg y [.Assign [.Subscript (.Attribute l m p3) name p4] I p5] [] p6]:=d3;rw[b6];have d9:ar F0 H:=λb o e=>by
  by_cases G:b=x;·subst G;have:upd F b (.ins C dx []) b=some o:=e;rw[ao]at this;cases this;exact hH
  ·have:upd F x (.ins C dx []) b=some o:=e;rw[ag G]at this;exact sm b o this
 have R0:RS B1 [.ob,.va w',.no] (L2.start [n0,n1,n2] [.ref x,v]) F0 H:=by
  refine⟨⟨d9,ar.refl _,ar.refl _,λa o e=>.inl e⟩,rfl,λi u e=>?_,λi u e=>?_,λi j u u' a _ e1 _ _ _=>?_,λi u u' e=>?_,λi j u u' _ _ a _ e1 _ _ _=>?_,λi e=>?_⟩;·rcases i with _|_|_|i<;>cases e;exact⟨v,rfl,r.keep (az hF _)⟩
  ·rcases i with _|_|_|i<;>cases e
  ·rcases i with _|_|_|i<;>cases e1
  ·rcases i with _|_|_|i<;>cases e
  ·rcases i with _|_|_|i<;>cases e1
  ·rcases i with _|_|_|i<;>cases e;exact⟨x,C,dx,rfl,ao⟩
 have g:ahY K m x dx C F H Q E (match WL.aK t1 t2 [.ob,.va w',.no]with|.nx O=>WL.am3 tv O|.ex c _=>.ex c|_=>.bad):=g;have c1:∀{N U:Hp},RB Bz N U->∀b o,N b=some o->F b=some o\/(b=x\/H b=none)/\NF o:=λ{N U}rb b o e=>by
  rcases rb.fr b o e with z|z;·exact .inl z
  ·refine .inr ⟨?_,z.2⟩;by_cases G:b=x;·exact .inl G
   ·have z1:h8 H x b=none:=z.1;rw[cH G]at z1;exact .inr z1
 have c2:∀{N U:Hp},RB Bz N U->∀b o,b≠x->H b=some o->U b=some o:=λ{N U}rb b o G e=>rb.base b o (by show h8 H x b=_;rw[cH G];exact e);have a0:∀{c:VW}{O:Ws},ahY K m x dx C F H Q E (.ex c)->Z.xp c O F:=λ{c O}q Ce b3 U N s' rb xr=>q Ce b3 U N s' rb.sub (c2 rb) (c1 rb) xr;have c5:h8 F0 x=F:=aev hF;refine⟨_,bN h1 (bN h2 (bN (qZ b0 wD d2) (dP h4))),?_⟩;refine⟨_,F0,R0,?_⟩;unfold WL.aK at g;cases e1:t1 [.ob,.va w',.no]with|bk _=>rw[e1]at g;exact g.elim|ct _=>rw[e1]at g;exact g.elim|rt _=>rw[e1]at g;exact g.elim|bad=>rw[e1]at g;exact g.elim|ex c σ1=>rw[e1]at g;show Z.xp c σ1 (h8 F0 x);rw[c5];exact a0 g|nx σ1=>
  rw[e1]at g;intro f0 H1 M R1 s1;refine⟨σ1,M,R1,?_⟩;have g:ahY K m x dx C F H Q E (match t2 σ1 with|.nx O=>WL.am3 tv O|.ex c _=>.ex c|_=>.bad):=g
  cases e2:t2 σ1 with|bk _=>rw[e2]at g;exact g.elim|ct _=>rw[e2]at g;exact g.elim|rt _=>rw[e2]at g;exact g.elim|bad=>rw[e2]at g;exact g.elim|ex c σ2=>
   rw[e2]at g;refine Z.mono c σ2 F _ (λb o e=>?_) (a0 g);have G:b≠x:=λz=>by rw[z,hF]at e;cases e
   rw[cH G];exact s1 b o (by show upd F x _ b=_;rw[ag G];exact e)|nx σ2=>rw[e2]at g;intro J H2 F2 R2 s2;have g:ahY K m x dx C F H Q E (match(σ2[0]?:Option Sl)with|some .ob=>if σ2.length=3 then WL.anj (WL.abr tv (WL.clr σ2++[.od [] []]))else .bad|_=>.bad):=g;cases e3:σ2[0]? with|none=>rw[e3]at g;exact g.elim|some sl=>rw[e3]at g;cases sl with
 |ob=>
     have g:ahY K m x dx C F H Q E (if σ2.length=3 then WL.anj (WL.abr tv (WL.clr σ2++[.od [] []]))else .bad):=g;by_cases a4:σ2.length=3;rotate_left;·rw[ao2 a4]at g;exact g.elim
     rw[ao1 a4]at g;obtain⟨b8,c7⟩:=b7 R2.rb;have l0:J[0]?=some (some (.ref x)):=by
      obtain⟨a,Ca,f6,g1,g2⟩:=R2.dd.ob 0 e3;rcases R2.rb.fr a _ g2 with z|z
      ·by_cases ha:a=x;·subst ha;exact g1
       ·have z:upd F x (.ins C dx []) a=_:=z;rw[ag ha]at z;exact(d0 _ _ _ z).elim
      ·exact z.2.elim
     have c6:H2 x=some (.ins C dx []):=R2.rb.sub _ _ b8;have b5:J.length=3:=by rw[<-R2.len];exact a4
     have R3:RS Z (WL.clr σ2) J (h8 F2 x) H2:=R2.clr rfl b8 c7;intro p hp;have b2:p≠x:=λz=>by rw[z,c6]at hp;cases hp
     refine⟨.ref x,l0,x,C,dx,[],rfl,by rw[ag (ape b2)];exact c6,Y▸cl,Y▸na,by decide,?_⟩;have R4:RS Z (WL.clr σ2) J (h8 F2 x) (upd (upd H2 p (.dK [])) x (.ins C dx [(m,.ref p)])):=(R3.ah8 hp (.dK [])).away _ mX (mX) (λj ws e=>(acF.1 ws e).elim) (λj ks us e=>(acF.2 ks us e).elim);have e7:h8 F2 x p=none:=by rw[cH b2];exact R2.rb.sub.free hp
     have d8:upd (upd H2 p (.dK [])) x (.ins C dx [(m,.ref p)]) p=some (.dK []):=by rw[ag b2,ao]
     have e8:Z.H0 p=none:=R3.rb.base.free hp;have c4:(WL.clr σ2).length=3:=by rw[<-a4];simp[WL.clr]
     have R5:RS Z (WL.clr σ2++[.od [] []]) (J++[some (.ref p)]) (h8 F2 x) (upd (upd H2 p (.dK [])) x (.ins C dx [(m,.ref p)])):=by
      have:=R4.snoc.anR (i:=3) (ks:=[]) (us:=[]) e7 e8 d8 (by simp[RWs]) (by simp[RWs]) λj ks us hj ej hv=>by
       by_cases f7:j<3;·rw[apq (by omega)]at ej;exact(acF.2 ks us ej).elim
       ·rw[apw (by omega),c4]at ej;cases hz:j-3 with|zero=>exact hj (by omega)|succ n=>rw[hz]at ej;cases ej
      rw[List.set_append_right _ _ (by omega),List.set_append_right _ _ (by omega),c4,b5]at this;exact this
     have b4:ar F (h8 F2 x):=λb o e=>by
      have G:b≠x:=λz=>by rw[z,hF]at e;cases e
      rw[cH G];exact s2 b o (s1 b o (by show upd F x _ b=_;rw[ag G];exact e))
     refine⟨_,p,h8 F2 x,b5,R5,⟨l0,mX,ao⟩,?_⟩;cases e4:WL.abr tv (WL.clr σ2++[.od [] []])with|bk _=>rw[e4]at g;exact g|ct _=>rw[e4]at g;exact g|rt _=>rw[e4]at g;exact g|bad=>rw[e4]at g;exact g|ex c σ3=>rw[e4]at g;exact Z.mono c σ3 F _ b4 (a0 g)|nx σ3=>rw[e4]at g;intro f1 d H3 F3 e0 R6 a8 s6;have g:ahY K m x dx C F H Q E (match(σ3[3]?:Option Sl)with|some (.od ks us)=>.ok (.dic ks us)|_=>.bad):=g;cases e5:σ3[3]? with
   |none=>rw[e5]at g;exact g.elim
    |some sl=>rw[e5]at g;cases sl with|od ks us=>
        obtain⟨a,b1,k1,k2,k3,k4,k5,k6⟩:=R6.dd.od 3 ks us e5;rw[apw (by omega),e0]at k1;cases k1;have a9:d≠x:=λz=>by rw[z,a8.H]at k4;cases k4
        have sD:ar F3 (upd F3 d (.dK b1)):=az k2 _;have b9:RB Bz F3 H3:=R6.rb.box rfl rfl;refine(g) H3 (upd F3 d (.dK b1)) d (by have k3:h8 H x d=none:=k3;rw[cH a9]at k3;exact k3) ((b4.trans s6).trans sD) (λb o e=>?_) (c2 b9) a8.H (by rw[ag (ape a9)];exact a8.F) (λb o e=>?_) (by simp only[RW];exact⟨d,b1,rfl,.inl ao,k5.keep sD,k6.keep sD⟩)
        ·by_cases G:b=d;·subst G;rw[ao]at e;cases e;exact k4
         ·rw[ag G]at e;exact R6.rb.sub b o e
        ·by_cases G:b=d;·subst G;rw[ao]at e;cases e;have k3:h8 H x b=none:=k3;rw[cH a9]at k3;exact .inr ⟨.inr k3,trivial⟩
         ·rw[ag G]at e;exact c1 b9 b o e|_=>exact g.elim
  |_=>exact g.elim
end
noncomputable def noI(F:Hp):Hp:=λb=>match F b with|some (.ins _ _ [])=>none|o=>o
def wV{F:Hp}{b:Addr}{o:HO}(h:noI F b=some o):F b=some o:=by
 unfold noI at h;split at h;·cases h
 ·exact h
def ajV{F:Hp}{b:Addr}{o:HO}(h:F b=some o):noI F b=some o\/∃C a,o=.ins C a []:=by
 unfold noI;rw[h];split;·rename_i C a e;cases e;exact .inr ⟨C,a,rfl⟩
 ·exact .inl rfl
noncomputable def jo(F F':Hp):Hp:=λb=>match F b with|some o=>some o|none=>F' b
def akr{F F':Hp}{b:Addr}{o:HO}(h:F b=some o):jo F F' b=some o:=by unfold jo;rw[h]
def akq{F F':Hp}{b:Addr}(h:F b=none):jo F F' b=F' b:=by unfold jo;rw[h]
def ak6(P:Program)(w:World)(K:W.Frag)(c:Str->Option Value)(a:Heap)(k:Nat)(fI:Addr)(ps:List Str)(sp:Sp):Prop:=∃b:FuncData,FnOk P w K c a (CXX P w) k fI b ps sp/\Binds K b ps []
def xg{P:Program}{w:World}{K:W.Frag}{i:Str->Option Value}{b:Heap}{k:Nat}{f:Addr}{a:Str}{st:Stmt}{ps:List Str}{sp:Sp}(D:∃c,Fun K "__init__" a st f c)(j:∀(kV d l:Value)(m:Option Addr)(g ct:Value)(e:List Value),e.length=ps.length->bindArgs (W.fnOf "__init__" a (bu st) (aH st) (af st) .none kV d l m g ct) ⟨e,[]⟩=pure (ps.zip e))(h:∀c:FuncData,Fun K "__init__" a st f c->FnOk P w K i b (CXX P w) k f c ps sp):ak6 P w K i b k f ps sp:=by obtain⟨c,F⟩:=D;exact⟨c,h c F,F.binds j⟩
def un1{n:Nat}(h:n+64<cLine):n+1<cLine:=by omega
end WS
namespace WL
open PySem
def sF(c:String)(f:List W->Res W)(a:AF):EF:=λd=>(a d).bind λws=>(f ws).bind λb=>.ok (.ins c [b])
noncomputable def aoh(c:String):W->Res W|.ins c' [w]=>if c'==c then .ok w else .bad|_=>.bad
def acd(c:String)(e:EF):EF:=λa=>(e a).bind (aoh c)
noncomputable def isI(c:String):W->Bool|.ins c' [_]=>c'==c|_=>false
def eM(c:String)(f:List W->Res W)(o:EF)(a:AF):EF:=λb=>(o b).bind λx=>if isI c x then(a b).bind λws=>f (x::ws)else .bad
end WL
namespace L2
open PySem PySem.Spec PyProof.Rows
section
variable{X:Cx}{k:Nat}{f C:Addr}{fd:FuncData}{ps:List Str}{sp:Sp}{dvs:List V}{ds:List Value}{m:Str}{apos pos:Pos}{o e:Expr}{es:List Expr}{ta:TE}{t:TA}
def qz(X:Cx)(C:Addr)(m:Str)(sp:Sp)(dvs:List V)(ta:TE)(t:TA):TE:=λd H Q=>ta d H λx h=>∃a j fs,x=.ref a/\h a=some (.ins C j fs)/\fs.lookup m=none/\t d h λl n=>∃E:XK,sp (x::(l++dvs)) n Q E/\∀b s e i c T g,Thr X b d g s e i c .none (some T)->E (.ref i) c g->X.xe (.ref e) s
def wz{pl:Sem Bool}(K:PE X o ta)(c:Cls X.K C)(p:Meth X.K C m f)(F:FnOk X.prog X.w X.K X.mg X.base (CXX X.prog X.w) k f fd ps sp)(D:Room k X.A)(J:Binds X.K fd ps ds)(M:Vals dvs ds)(z:PA X (e::es) t)(d:starEach (e::es) X.env=(false,eval e X.env)::starEach es X.env:=by rfl)(g:(backTo pos (starEach es X.env)).any (·.1)=false:=by rfl)(A:eval (.Call (.Attribute o m apos) (e::es) [] pos) X.env=(do
  let w <-eval o X.env
  standAt apos.atName let(f,first)<-holding [w] (getMethod w m pl)callWith pos f first (backTo pos (starEach (e::es) X.env)) (backToKw pos (keywordEach [] X.env))):=by rfl):PE X (.Call (.Attribute o m apos) (e::es) [] pos) (qz X C m sp dvs ta t):=by intro b s v H Q I h;refine asz (pl:=pl) (thn (K b s v H _ I h) λu O i=>?_) A;obtain⟨x,N,n,y,a,R,fs,ex,P,l,q⟩:=i;subst ex;obtain rfl:u=Value.ref a:=y;refine oF n P c p l ?_;refine asl (first:=[.ref a]) (h₀:=X.base) I.ok.mod.kin p.kp (thn (z pos b O v N _ n q) λus T⟨vs,S,j,r,E,B,G⟩=>⟨j.kIn,?_⟩) d g;exact uk (us:=.ref a::us) (vs:=.ref a::vs) F D J M G j (.cons rfl r) B
def q5{pl:Sem Bool}(w:PE X o ta)(c:Cls X.K C)(i:Meth X.K C m f)(F:FnOk X.prog X.w X.K X.mg X.base (CXX X.prog X.w) k f fd ps sp)(p:Room k X.A)(v:Binds X.K fd ps ds)(y:Vals dvs ds)(z:eval (.Call (.Attribute o m apos) [] [] pos) X.env=(do
  let j <-eval o X.env
  standAt apos.atName let(f,first)<-holding [j] (getMethod j m pl)callWith pos f first (backTo pos (starEach [] X.env)) (backToKw pos (keywordEach [] X.env))):=by rfl):PE X (.Call (.Attribute o m apos) [] [] pos) (qz X C m sp dvs ta aae):=by intro b s A H Q I h;refine asz (pl:=pl) (thn (w b s A H _ I h) λu K d=>?_) z;obtain⟨x,J,g,n,a,G,fs,ex,B,l,q⟩:=d;subst ex;obtain rfl:u=Value.ref a:=n;refine oF g B c i l ?_;obtain⟨E,D,r⟩:=q;exact W.callWith_K0 (first:=[.ref a]) g.kIn i.kp (uk (us:=[.ref a]) (vs:=[.ref a]) F p v y r g (.cons rfl .nil) D)
end
end L2
namespace WS
open PySem PySem.Spec PyProof.Rows L2
open WL(Res Sl Ws EF TF AF LF GF GsF SF Out)
section
variable{B:Bx}{σ:Ws}{σV:L2.St}{F H:Hp}{x:Addr}{o:HO}
def RS.aoQ(R:RS B σ σV F H)(D:F x=none)(t:B.H0 x=none)(g:H x=some o)(k:NF o)(y:∀l,o≠.lst l)(nd:∀l,o≠.dK l):RS B σ σV (upd F x o) H:=by
 have s:ar F (upd F x o):=az D _;refine⟨⟨λb u q=>?_,R.rb.base,R.rb.fz0.trans s,λb u q=>?_⟩,R.len,λi w q=>?_,λi ws q=>?_,R.ap,λi m p q=>?_,R.dd.ad,λi q=>?_⟩
 ·by_cases c:b=x;·subst c;rw[ao]at q;cases q;exact g
  ·rw[ag c]at q;exact R.rb.sub b u q
 ·by_cases c:b=x;·subst c;rw[ao]at q;cases q;exact .inr ⟨t,k⟩
  ·rw[ag c]at q;exact R.rb.fr b u q
 ·obtain⟨v,e,d⟩:=R.va i w q;exact⟨v,e,d.keep s⟩
 ·obtain⟨a,r,e,d,h,f,j⟩:=R.ow i ws q;have c:a≠x:=λz=>by rw[z,g]at f;exact y _ (apf f)
  exact⟨a,r,e,by rw[ag c];exact d,h,f,j.keep s⟩
 ·obtain⟨a,l,e,d,h,f,j,A⟩:=R.dd.od i m p q;have c:a≠x:=λz=>by rw[z,g]at f;exact nd _ (apf f)
  exact⟨a,l,e,by rw[ag c];exact d,h,f,j.keep s,A.keep s⟩
 ·obtain⟨a,C,n,e,d⟩:=R.dd.ob i q;exact⟨a,C,n,e,s _ _ d⟩
end
section
variable{X:Cx}{B:Bx}{fl x:Str}{c:String}{C f:Addr}{fd:FuncData}{ps:List Str}{k:Nat}{fn:List VW->Res VW}{e:Expr}{es:List Expr}{tas:AF}{p pos pos':Pos}
def adh(hK:X.K=B.K)(hx:XW X B)(M:Mk X.K C f)(cl:Cls X.K C)(na:aS X.K C fl)(a6:W.nsIn X.K mainGlobals (Str.ofString c)=some (some (.ref C)))(a2:WL.jS c=[fl])(G:FnOk X.prog X.w X.K X.mg X.base (CXX X.prog X.w) k f fd ps (spB X.K fl fn))(hr:Room (k+1) X.A)(hg:Gl X x)(hm:X.mg x=some (.ref C))(hb:Binds X.K fd ps [])(ha:PA X (e::es) (loA B tas))(hn:∀A ws,tas A=.ok ws->ws.length=1:=by repeat first|exact eQ|apply aL)(a4:(x==("__debug__":Str))=false:=by decide)(he:starEach (e::es) X.env=(false,eval e X.env)::starEach es X.env:=by rfl)(a0:(backTo pos (starEach es X.env)).any (·.1)=false:=by rfl):PE X (.Call (.Name x p) (e::es) [] pos) (lo B (WL.sF c fn tas)):=PE.imp (wA M G hr hg hm hb .nil ha a4 he a0) λI H Q a1=>by obtain⟨A,F,R,q⟩:=a1;have q:=Rq.bind q;refine⟨A,F,R,?_⟩;cases ea:tas A with|bad=>rw[ea]at q;exact q|ex c=>rw[ea]at q;exact q|ok ws=>
 rw[ea]at q;have hl:=hn A ws ea;obtain⟨w,rfl⟩:∃w,ws=[w]:=by match ws,hl with|[w],_=>exact⟨w,rfl⟩
 have q:=Rq.bind (show Rq B A F ((fn [w]).bind λwd=>Res.ok (WL.W.ins c [wd])) _ from q);intro vs E i j g1 r1 x r m a3 a9;obtain⟨v,rfl,r3⟩:=cz r1;rw[apK];have S:∀b o,E b=some o->b≠x/\b≠r/\upd (upd E r (.own x)) x (.ins C r []) b=some o:=λb o z=>by
  have O:b≠x:=λy=>by rw[y,m]at z;cases z
  have J:b≠r:=λy=>by rw[y,a3]at z;cases z
  exact⟨O,J,by rw[ag O,ag J];exact z⟩
 have ext:∀{g l:Hp},ar (noI i) g->ar g l->(∀b o,b≠x->upd (upd E r (.own x)) x (.ins C r []) b=some o->l b=some o)->(∀b o,g b=some o->noI i b=some o\/(b=x\/upd (upd E r (.own x)) x (.ins C r []) b=none)/\NF o)->Gr i E (jo i g) l/\RB B (jo i g) l/\ar g (jo i g):=λ{g l}s1 N s3 fr=>by
  have sH:ar E l:=λb o z=>s3 b o (S b o z).1 (S b o z).2.2;have Y:∀b o,g b=some o->i b=none->E b=none/\NF o:=λb o z n=>by
   rcases fr b o z with y|⟨y,nf⟩;·rw[wV y]at n;cases n
   ·refine⟨?_,nf⟩;rcases y with y|y;·rw[y];exact m
    ·cases h:E b with|none=>rfl|some u=>rw[(S b u h).2.2]at y;cases y
  refine⟨⟨λb o z=>akr z,sH,λb o z n=>?_⟩,⟨λb o z=>?_,j.rb.base.trans sH,λb o z=>akr (j.rb.fz0 b o z),λb o z=>?_⟩,λb o z=>?_⟩;·rw[akq n];cases e2:g b with|none=>rfl|some u=>rw[(Y b u e2 n).1]at z;cases z
  ·cases h:i b with|some u=>rw[akr h]at z;cases z;exact sH b _ (j.rb.sub b _ h)|none=>rw[akq h]at z;exact N b o z
  ·cases h:i b with|some u=>rw[akr h]at z;cases z;exact j.rb.fr b _ h|none=>rw[akq h]at z;obtain⟨O,J⟩:=Y b o z h;exact .inr ⟨j.rb.base.free O,J⟩
  ·cases h:i b with|none=>rw[akq h];exact z|some u=>have O:=sH b _ (j.rb.sub b _ h);have J:=N b o z;rw[O]at J;cases J;exact akr h
 have P:i x=none:=j.rb.sub.free m;refine⟨λU D l=>∃Ca g c,U=.ref Ca/\RS B A I g l/\B.xp c A g/\XR B.K g c Ca D,?_,λZ s e U D T H' t⟨Ca,g,c,ec,R2,xp,xr⟩=>?_⟩
 ·refine⟨x,r,C,noI i,w,v,rfl,ao,cl,na,?_,λa Ca da z=>?_,λb o z=>?_,?_,?_⟩;·cases h:noI i x with|none=>rfl|some u=>have:=j.rb.sub x _ (wV h);rw[m]at this;cases this
  ·have:=wV z;unfold noI at z;rw[this]at z;cases z
  ·exact(S b o (j.rb.sub b o (wV z))).2.2
  ·rw[hK];exact RW.one ((RWs.one r3).akc λb o z=>ajV z)
  ·cases ef:fn [w]with|bad=>rw[ef]at q;exact q|ok wd=>
    rw[ef]at q;intro l g d _ s1 N s3 a5 a7 fr a8;obtain⟨K,rb,sj⟩:=ext s1 N s3 fr;have fx:jo i g x=none:=by rw[akq P];exact a7
    have R3:RS B A I (upd (jo i g) x (.ins C r [(fl,.ref d)])) l:=(j.grow K rb).aoQ fx (j.rb.base.free m) a5 trivial (λ_ z=>nomatch z) (λ_ z=>nomatch z);refine⟨rfl,(show∀v H' F',_ from q) (.ref x) l _ R3 (g1.trans ⟨K.f.trans (az fx _),K.h,λb o z n=>?_⟩) ?_⟩;·rw[ag (S b o z).1];exact K.nf b o z n
    ·simp only[RW];refine⟨x,C,r,[(fl,.ref d)],rfl,ao,hK▸a6,a2.symm,by simp,RWs.one ?_⟩;exact(show RW B.K g wd (.ref d)from hK▸a8).keep (sj.trans (az fx _))|ex c=>rw[ef]at q;intro U D l g s1 N s3 fr xr;obtain⟨K,rb,sj⟩:=ext s1 N s3 fr;exact⟨U,jo i g,c,rfl,j.grow K rb,B.mono c A F _ (g1.f.trans K.f) q,(hK▸xr).keep sj⟩
 ·cases ec;exact hx Z I H' s A g c R2 xp e U D (some T) _ t (by rw[hK];exact xr)
def agb{o:Expr}{u:EF}(N:X.K=B.K)(I:W.nsIn X.K mainGlobals (Str.ofString c)=some (some (.ref C)))(cl:Cls X.K C)(P:aS X.K C fl)(m:WL.jS c=[fl])(D:PE X o (lo B u))(K:attributeBase o fl X.env (eval o X.env)=eval o X.env:=by rfl):PE X (.Attribute o fl pos) (lo B (WL.acd c u)):=PE.imp (mw D K) λA H Q l=>by
 obtain⟨O,F,R,q⟩:=l;have q:=Rq.bind q;refine⟨O,F,R,Rq.mono (ar.refl _) q λy h v M s n G t=>?_⟩;unfold WL.aoh at h;split at h
 ·rename_i Y w;split at h
  ·rename_i b;have b:=eq_of_beq b;subst b;simp only[RW]at t;obtain⟨a,U,J,i,rfl,E,z,j,_,r⟩:=t;rw[<-N,I]at z;cases z;rw[m]at j;obtain⟨d,rfl,r⟩:∃d,i=[(fl,d)]/\RWs B.K s [w] [d]:=by match i,j,r with
 |[(g,d)],j,r=>
     have:g=fl:=by simpa using j
     subst this;exact⟨d,rfl,r⟩
   exact⟨a,C,J,_,d,rfl,n.rb.sub _ _ E,cl,P,by simp[List.lookup],(show∀v S T,_ from h) d M s n G (RW.one r)⟩
  ·exact(show False from h).elim
 ·exact(show False from h).elim
def w4{o:Expr}{to:EF}{m:Str}{n:Nat}(hK:X.K=B.K)(hx:XW X B)(hC:W.nsIn X.K mainGlobals (Str.ofString c)=some (some (.ref C)))(a0:WL.jS c=[fl])(a1:(m==fl)=false)(hn:∀d ws,tas d=.ok ws->ws.length+1=n):∀i H Q,lo B (WL.eM c fn to tas) i H Q->qz X C m (spX X.K n fn) [] (lo B to) (loA B tas) i H Q:=by
 intro i H Q⟨d,F,R,q⟩;have q:=Rq.bind q;refine⟨d,F,R,Rq.mono (ar.refl _) q λy h v H0 F0 R0 g0 r0=>?_⟩;by_cases u:WL.isI c y=true
 ·rw[ao1 u]at h;have h:=Rq.bind (show Rq B d F ((tas d).bind λws=>fn (y::ws)) _ from h);obtain⟨I,rfl⟩:∃I,y=.ins c [I]:=by
   unfold WL.isI at u;split at u;·rw[eq_of_beq u];exact⟨_,rfl⟩
   ·cases u
  have G:=r0;simp only[RW]at G;obtain⟨a,C',A,K,rfl,e1,D,S,_,_⟩:=G;rw[<-hK,hC]at D;cases D;rw[a0]at S;obtain⟨N,rfl⟩:∃N,K=[(fl,N)]:=by match K,S with
 |[(g,N)],S=>
    have:g=fl:=by simpa using S
    subst this;exact⟨N,rfl⟩
  refine⟨a,A,_,rfl,R0.rb.sub _ _ e1,by simp[List.lookup,a1],d,F0,R0,?_⟩;cases U:tas d with|bad=>rw[U]at h;exact h|ex c=>rw[U]at h;exact B.mono c d F F0 g0.f h|ok ws=>
  rw[U]at h;have q:Rq B d F (fn (.ins c [I]::ws)) _:=h;intro vs H1 O r g1 r1;rw[apK,hK];have ext:∀{b j:Hp},ar O b->ar b j->ar H1 j->(∀a o,b a=some o->O a=some o\/H1 a=none/\NF o)->Gr O H1 b j/\RB B b j:=λ{b j}l J E fr=>by
   refine⟨⟨l,E,λa o eh a2=>?_⟩,J,r.rb.base.trans E,r.rb.fz0.trans l,λa o D=>?_⟩;·cases D:b a with|none=>rfl|some o2=>
     rcases fr a o2 D with z|z;·rw[a2]at z;cases z
     ·rw[eh]at z;cases z.1
   ·rcases fr a o D with z|z;·exact r.rb.fr a o z
    ·exact .inr ⟨r.rb.base.free z.1,z.2⟩
  refine⟨λC A j=>∃Z b c,C=.ref Z/\RS B d i b j/\B.xp c d b/\XR B.K b c Z A,⟨O,.ins c [I]::ws,r.rb.sub,.cons (r0.keep g1.f) r1,by rw[aph];exact hn d ws U,?_⟩,λM s e C A T H' t⟨Z,b,c,ec,R2,xp,xr⟩=>?_⟩;·cases Y:fn (.ins c [I]::ws)with|bad=>rw[Y]at q;exact q.elim|ok w=>rw[Y]at q;intro v j b l J E fr r2;obtain⟨P,rb⟩:=ext l J E fr;exact q v j b (r.grow P rb) ((g0.trans g1).trans P) r2|ex c=>rw[Y]at q;intro C A j b l J E fr xr;obtain⟨P,rb⟩:=ext l J E fr;exact⟨C,b,c,rfl,r.grow P rb,B.mono c d F b ((g0.f.trans g1.f).trans l) q,xr⟩
  ·cases ec;exact hx M i H' s d b c R2 xp e C A (some T) _ t (by rw[hK];exact xr)
 ·rw[ao2 u]at h;exact(show False from h).elim
end
end WS
namespace WL
open PySem
def aoV(x y:W):Res W:=match y with|.dic ks _=>if zt x=true then .ok (.bl (acZ x ks))else .bad|_=>ah7 x y
def mG(x y:W):Res W:=match y with|.dic ks _=>if zt x=true then .ok (.bl (!acZ x ks))else .bad|_=>fy x y
def aop:List W->Res W|[.dic ks _]=>if ks.length<=lim then .ok (.lst ks)else .bad|ws=>vy ws
noncomputable def za(k:W):List W->List W->Option W|k'::ks,v::vs=>if uT k' k then some v else za k ks vs|_,_=>none
def ah5(x y:W):Res W:=match x with|.dic ks us=>if zt y=true then ofO (za y ks us)else .bad|_=>oIx x y
end WL
namespace L2
open PySem PySem.Spec PyProof.Rows
section
variable{X:Cx}
def ri(d:X.A.units+1<cLine):OpR X (compareOp .NotIn) (λx y H Q=>∃a o,y=.ref a/\aor H a x o/\Q (.bl (!o.isSome)) H):=by intro b s j H x y v u Q I c h⟨a,o,e,g,q⟩;subst e;cases(show u=Value.ref a from h);exact ahF d I g c λi f=>⟨.bl (!o.isSome),H,f,rfl,q⟩
end
end L2
namespace WS
open PySem PySem.Spec PyProof.Rows L2
open WL(Res Sl Ws EF TF AF LF GF GsF SF Out)
section
variable{X:Cx}{B:Bx}{K:W.Frag}
def vq:Calm WL.mG:=λx y c h=>by
 unfold WL.mG at h;split at h;·split at h<;>cases h
 ·exact cU _ _ _ h
def akB{F:Hp}{k:VW}{a:Key}(b:RW K F k (kV a)){kvs:List (Key×V)}{ks:List VW}(r:RWs K F ks (kvs.map λp=>kV p.1)):WL.acZ k ks=(vN kvs a).isSome:=by rw[vm b r,oX]
def adm(l:X.K=K)(h:X.A.units+64<cLine):OpR X (compareOp .NotIn) (lo2 K WL.mG):=by
 intro b s i H x y v u Q I g k⟨F,wx,p,j,d,f,q⟩;unfold WL.mG at q;split at q
 ·rename_i o r;split at q;·rename_i m;obtain⟨c,rfl⟩:=xb m d;simp only[RW]at f;obtain⟨a,e,rfl,rd,n,_⟩:=f;rw[akB d n]at q;exact ri (un1 h) b s i H _ _ v u Q I g k ⟨a,_,rfl,.inl ⟨e,c,j.rd rd,rfl,rfl⟩,eq1 q (by simp[RW])⟩
  ·exact q.elim
 ·exact ij l h b s i H x y v u Q I g k ⟨F,_,_,j,d,f,q⟩
theorem xE{F:Hp}{k:VW}{a:Key}(b:RW K F k (kV a))(w:VW):∀{kvs:List (Key×V)}{ks us:List VW},RWs K F ks (kvs.map λp=>kV p.1)->RWs K F us (kvs.map λp=>p.2)->WL.za k ks us=some w->∃v,vN kvs a=some v/\RW K F w v
|[],ks,us,r1,r2,e=>by cases ks with|nil=>cases e|cons x ks=>simp[RWs]at r1
|p::kvs,ks,us,r1,r2,e=>by cases ks with|nil=>cases e|cons x ks=>cases us with|nil=>cases e|cons y us=>
  simp only[ao9,RWs]at r1 r2;obtain⟨r,q,f,d,j⟩:=r1;obtain⟨n,o,g,l,i⟩:=r2;cases f;cases g;unfold WL.za at e;rw[pU d b]at e;by_cases h:p.1=a;·rw[apO h,ao1 rfl]at e;cases e;exact⟨p.2,iH h,l⟩
  ·rw[api h,ao2 ao7]at e;obtain⟨v,m,c⟩:=xE b w j i e;exact⟨v,by rw[iI h];exact m,c⟩
def aeR:Calm WL.ah5:=λx y c h=>by
 unfold WL.ah5 at h;split at h
 ·split at h;·revert h;cases WL.za _ _ _<;>simp[WL.ofO]
  ·cases h
 ·exact acN _ _ _ h
def alS(G:X.K=K):IxR X (lo2 K WL.ah5):=by
 intro c b d s m H x y v u Q I k n⟨F,wx,p,l,i,g,q⟩j;unfold WL.ah5 at q;split at q
 ·rename_i D r;split at q;·rename_i t;obtain⟨h,rfl⟩:=xb t g;simp only[RW]at i;obtain⟨a,f,rfl,rd,C,E⟩:=i;cases e:WL.za p D r with|none=>rw[e]at q;exact q.elim|some w=>rw[e]at q;obtain⟨z,A,o⟩:=xE g w C E e;exact abI c b d s m H _ _ v u Q I k n ⟨a,f,h,z,rfl,rfl,l.rd rd,A,eq1 q o⟩ j
  ·exact q.elim
 ·exact anL G c b d s m H x y v u Q I k n ⟨F,_,_,l,i,g,q⟩ j
variable{i:Nat}{pos pos':Pos}{x:Str}
end
end WS
namespace WL
open PySem PyProof.Rows PySem.Spec
noncomputable def leS(a b:Str):Bool:=!ltCps b.cps.toList a.cps.toList
def yd(l:List Str):List Str:=l.mergeSort leS
def tx:List W->Res W
|[.lst ws]=>match strsOf ws with|some ss=>if ss.length<64 then .ok (.lst ((yd ss).map .str))else .bad|none=>.bad
|_=>.bad
def pQ(a b:Str):leS a b=true↔a.cps.toList<=b.cps.toList:=by unfold leS;rw[ltCps_eq];simp[List.not_lt]
def rR(a b c:Str)(d:leS a b=true)(e:leS b c=true):leS a c=true:=by rw[pQ]at *;exact List.le_trans d e
def aby(a b:Str):(leS a b||leS b a)=true:=by rw[arG,pQ,pQ];exact List.le_total _ _
def aek{a b:Str}(c:leS a b=true)(d:leS b a=true):a=b:=by rw[pQ]at *;have:=List.le_antisymm c d;cases a;cases b;congr 1;exact art.mp this
theorem pA:∀(r:List Str)(x:Str),risingS x r=true->∀y∈r,leS x y=true
|[],_,_,_,a=>nomatch a|z::r,x,h,y,a=>by
 have b:(leS x z&&risingS z r)=true:=h;rw[apg]at b;rcases apl.mp a with rfl|a;·exact b.1
 ·exact rR _ _ _ b.1 (pA r z b.2 y a)
def qW:∀(r:List Str)(x:Str),risingS x r=true->sortedS r=true|[],_,_=>rfl|z::r,x,h=>by have a:(leS x z&&risingS z r)=true:=h;rw[apg]at a;exact a.2
theorem lW:∀(b a:List Str),sortedS b=true->sortedS a=true->b.Perm a->b=a
|[],a,_,_,p=>by simpa using p|x::r1,[],_,_,p=>by simpa using p|x::r1,y::r2,h1,h2,p=>by
  have c:=pA r1 x h1;have d:=pA r2 y h2;have e:x=y:=by
   rcases apl.mp (p.mem_iff.mp (apn ..):x∈y::r2)with z|z;·exact z
   ·rcases apl.mp (p.mem_iff.mpr (apn ..):y∈x::r1)with w|w;·exact w.symm
    ·exact aek (c y w) (d x z)
  subst e;rw[lW r1 r2 (qW r1 x h1) (qW r2 x h2) (List.Perm.cons_inv p)]
def gR(l:List Str):(yd l).Perm l:=List.mergeSort_perm l leS
def qE(l:List Str):sortedS (yd l)=true:=by refine sortedS_of_pairwise _ ?_;have:=List.pairwise_mergeSort (le:=leS) rR aby l;refine this.imp λ{a b}h=>?_;unfold leS at h;simpa using h
def yc{l a:List Str}(p:a.Perm l)(h:sortedS a=true):a=yd l:=lW _ _ h (qE l) (p.trans (gR l).symm)
end WL
namespace WL
open PySem
def xN:List W->Res W|[.dic ks _]=>tx [.lst ks]|ws=>tx ws
end WL
namespace L2
open PySem PySem.Spec PyProof.Rows
theorem n5:∀{a:List Str}{us:List Value},Vals (a.map V.str) us->StrsAre us a|[],_,r=>by cases r;exact .nil|x::a,_,r=>by rw[ao9]at r;cases r with|cons h t=>obtain⟨k,rfl⟩:=(show∃t,_=Value.str x t from h);exact .cons x k (n5 t)
theorem ov:∀{us:List Value}{a:List Str},StrsAre us a->Vals (a.map V.str) us|_,_,.nil=>.nil|_,_,.cons y t r=>.cons ⟨t,rfl⟩ (ov r)
end L2
namespace WS
open PySem PySem.Spec PyProof.Rows L2
open WL(Res Sl Ws EF TF AF LF GF GsF SF Out)
section
variable{X:Cx}{K:W.Frag}
theorem qA{F:Hp}:∀{ws:List VW}{a:List Str}{vs:List V},WL.strsOf ws=some a->RWs K F ws vs->vs=a.map V.str
|[],_,_,e,r=>by cases e;simpa[RWs]using r|w::ws,a,vs,e,r=>by
 simp only[RWs]at r;obtain⟨v,d,rfl,q,t⟩:=r;cases w<;>simp only[WL.strsOf]at e<;>first|(cases e;done)|skip
 rename_i x;obtain⟨b,c,rfl⟩:=apy.mp e;simp only[RW]at q;rw[q,qA c t];rfl
theorem aaD{F:Hp}:∀(a:List Str),RWs K F (a.map WL.W.str) (a.map V.str)|[]=>by simp[RWs]|x::a=>.cons (by simp[RW]) (aaD a)
end
end WS
namespace L2
open PySem PySem.Spec PyProof.Rows
theorem zX:∀{xs:List V}{us:List Value},us.length=xs.length->(∀(i:Nat)(x:V)(u:Value),xs[i]?=some x->us[i]?=some u->RelV x u)->Vals xs us|[],[],_,_=>.nil|[],_::_,h,_=>by simp at h|_::_,[],h,_=>by simp at h|x::xs,u::us,h,k=>.cons (k 0 x u rfl rfl) (zX (by simpa using h) λi y v a b=>k (i+1) y v (by simpa using a) (by simpa using b))
end L2
namespace WS
open PySem PySem.Spec PyProof.Rows L2
open WL(Res Sl Ws EF TF AF LF GF GsF SF Out)
end WS
namespace WL
open PySem
end WL
namespace WS
open PySem PySem.Spec PyProof.Rows L2
open WL(Res Sl Ws EF TF AF LF GF GsF SF Out)
end WS
namespace L2
open PySem PySem.Spec PyProof.Rows PySem.Calls
def kR{X:Cx}(hc:X.calm=true):bJ X (.builtin "sorted") (λR H Q=>∃a kvs,∃n:List Str,R=[.ref a]/\Rd H a (.dK kvs)/\(kvs.map λp=>kV p.1)=n.map V.str/\n.length<64/\∀l c,H l=none->List.Perm c n->sortedS c=true->Q (.ref l) (upd H l (.lst (c.map V.str)))):=by
 intro C s σ H R us Q I rx⟨a,kvs,n,e,rd,B,D,q⟩;subst e;obtain⟨u,rfl,ru⟩:∃u,us=[u]/\RelV (.ref a) u:=by cases rx with|cons h t=>cases t;exact⟨_,rfl,h⟩
 cases(show u=Value.ref a from ru);obtain⟨z,hd,vs,w,dd⟩:=aci I.hok rd;obtain⟨ep,E⟩:=dd.dictAt;have T:=w.length;have a0:kvs.length=n.length:=by have:=aqc List.length B;simpa using this
 refine call_function_entry kind_sorted plain_sorted entry_sorted (args_sorted1 _) ?_;unfold Builtin.«sorted»;refine aoY (m:=checkCount "sorted" 1 1 _) (ao4 ?_);refine aoY (W.kdu_collect (A:=X.A.in1) (W.kdl_dict (knd:=cj X.prog X.w) (kvs:=vs) (ep:=ep) hd) (I.ok.hd hc) E (by rw[<-T];exact z) λj tk d hk P=>?_);have f:Vals (n.map V.str) d.toList:=by
  rw[<-B];refine zX ?_ ?_;·rw[aqj,apk,T];exact P.1
  ·intro i x v N e2;rw[apo,apy]at N;obtain⟨p,M,rfl⟩:=N;obtain⟨k,y,g1,g2⟩:=P.2 i v (by rw[<-arv];exact e2);obtain⟨r,Z,r2,_⟩:=w.get M;rw[g1]at Z;cases Z;rw[r2];exact afh g2
 have K:=n5 f;have G:d.toList.length<64:=by rw[<-f.length,apk];exact D
 refine aoY (wpAny_newList ?_ (by rw[aqK];omega));have g:(j.push (seqObj "list" d.toList.toArray 0)).get? j.objs.size=some (seqObj "list" d.toList.toArray 0):=apd _ rfl;refine aoY (aqt (apV (s:={s with heap:=j.push (seqObj "list" d.toList.toArray 0),toks:=tk}) slot_list_sort ⟨_,g,rfl⟩ entry_list_sort (list_sort_treeK strKind_oneLt g K.keysOf (λS Y rest e=>keyKind_strs (by rw[<-e];exact K)) G λJ a1 a2=>⟨_,rfl,?_⟩) (args_list_sort _)));obtain⟨c,b1,U,b3⟩:=sorted_out_str K a1 a2;obtain⟨e,he⟩:=sortedHeap_at (out:=(arrOf J).map (·.2)) g;have O:Inv X C σ H {s with heap:=j,toks:=tk}:=I.kept (t':=tk) hk;refine ao4 ⟨_,rfl,.ref j.objs.size,_,O.laid (a:=j.objs.size) (o:=.lst (c.map V.str)) (t':=tk) (λb o z=>?_) (ao6 _) ⟨?_,_,e,ov b1,?_⟩,rfl,q _ c (O.hok.fresh (ao6 _)) U b3⟩;·have hb:=apb z;rw[sortedHeap_old (apm hb) (by rw[size_push'];exact ar6 hb)];exact aoZ _ z
 ·rw[apk,U.length_eq];exact apc (arz D) (by decide)
 ·rw[he]
end L2
namespace WS
open PySem PySem.Spec PyProof.Rows L2
open WL(Res Sl Ws EF TF AF LF GF GsF SF Out)
end WS
namespace WL
open PySem
def aoM:W->Bool|.dic ks us=>sf ks&&sf us|_=>false
def ani(l:LF):Out->Res W|.nx σ=>(l σ).bind λa=>.ok (.lst a)|.ex c _=>.ex c|_=>.bad
def afg(n:Nat)(t:SF)(l:LF):List W->Res W:=λws=>ani l (t (ws.map .va++List.replicate (n-ws.length) .no))
noncomputable def asL:W->Res (List W)|.lst xs=>.ok xs|_=>.bad
def xa(e:EF):LF:=λa=>(e a).bind λx=>match x with|.dic _ _=>(xN [x]).bind asL|_=>.bad
end WL
namespace WS
open PySem PySem.Spec PyProof.Rows L2
open WL(Res Sl Ws EF TF AF LF GF GsF SF Out)
def spO(K:W.Frag)(n:Nat)(f:List VW->Res VW):Sp:=λi H Q E=>∃F ws,ar F H/\RWs K F ws i/\ws.length=n/\match f ws with|.ok w=>∃g,w=.lst g/\∀a h d b,ar F b->ar b d->ar H d->(∀a o,b a=some o->F a=some o\/H a=none/\NF o)->b a=none->H a=none->d a=some (.lst h)->RWs K b g h->Q (.ref a) d|.ex c=>∀C e d b,ar F b->ar b d->ar H d->(∀a o,b a=some o->F a=some o\/H a=none/\NF o)->XR K b c C e->E (.ref C) e d|.bad=>False
def OqO(B:Bx)(D:Ends)(F:Hp)(l:LF):Out->Prop|.nx σ'=>Rq B σ' F (l σ') λws=>∀a e d b,RB B b d->ar F b->b a=none->B.H0 a=none->d a=some (.lst e)->RWs B.K b ws e->D.rt (.ref a) d|.ex c σ'=>B.xp c σ' F|_=>False
def am5(B:Bx)(t:SF)(l:LF):TS:=λD a H=>∃b F,RS B b a F H/\OqO B D F l (t b)
section
variable{X:Cx}{B:Bx}{t:SF}{l:LF}{e:Expr}{s1:Stmt}{pos:Pos}
def zB(j:PE X e (loL B l)):PSs X [.Return (some e) pos] (am5 B WL.sNx l):=PSs.imp (dP (wo j)) λD d H⟨b,F,R,q⟩=>⟨b,F,R,Rq.mono (ar.refl _) (show Rq B b F (l b) _ from q) λw f a k c m p g n h i o _=>f a k c m p.rb g.f n h i o⟩
def ada(d:PS X s1 (loS B t))(p:PE X e (loL B l)):PSs X [s1,.Return (some e) pos] (am5 B t l):=PSs.imp (bN d (dP (wo p))) λD k H f=>by obtain⟨i,F,R,q⟩:=f;refine⟨i,F,R,?_⟩;cases b:t i with|nx σ'=>rw[b]at q;exact λj z s y h=>⟨σ',s,y,Rq.mono h (show Rq B σ' F (l σ') _ from q) λw m a r x u R2 g d n o v _=>m a r x u R2.rb (h.trans g.f) d n o v⟩|ex c σ'=>rw[b]at q;exact q|rt _=>rw[b]at q;exact q.elim|bk _=>rw[b]at q;exact q.elim|ct _=>rw[b]at q;exact q.elim|bad=>rw[b]at q;exact q.elim
end
section
variable{P:Program}{w:World}{K:W.Frag}{mg:Str->Option Value}{base:Heap}
def acm{x d:Str}{st:Stmt}{f:Addr}{U:FuncData}{N ps:List Str}{k m n:Nat}{fn:List VW->Res VW}(t:SF)(l:LF)(Fn:Fun K x d st f U)(S:FnScope N ps (af st))(hn:N.length=n)(g:ps.length=m)(M:WL.afg n t l=fn)(a2:ps.length<=N.length)(h:∀(i:Value)(A:Around)(b:List Env)(s:Shared)(H:Hp)(E:XK)(B:Bx),B.K=K->Room k (A.deeper (envOfC d (af st) s.heap.objs.size f i))->XW (ff (CXX P w) P w K mg base N d (af st) f i A b s H E) B->PassesOwn (model P w) (ff (CXX P w) P w K mg base N d (af st) f i A b s H E).A (ff (CXX P w) P w K mg base N d (af st) f i A b s H E).env (ff (CXX P w) P w K mg base N d (af st) f i A b s H E).xe->PSs (ff (CXX P w) P w K mg base N d (af st) f i A b s H E) (aH st) (am5 B t l)):FnOk P w K mg base (CXX P w) (k+1) f U ps (spO K m fn):=by subst hn g M;obtain⟨oc,od,kV,a0,pm,an,i,ct,a1,rfl,lk,O⟩:=Fn.ex;refine u1 lk O S (λJ H Q E v=>by obtain⟨F,ws,_,r,X,_⟩:=v;rw[<-r.length];exact X) λA b s H J Q E hr _ v=>?_;obtain⟨F,ws,sm,r,X,g⟩:=v;let Y:Bx:=⟨K,H,F,λ_ _ _=>False,λ_ _ _ _ _ h=>h⟩;let I:Bx:=Y.nY (λc _ G=>∀C o u j,ar G j->RB Y j u->XR K j c C o->E (.ref C) o u) λc σ G F2 s h C o u j y=>h C o u j (s.trans y);refine⟨_,h i A b s H E I rfl hr (λZ a3 H1 s1 σ G c R1 xp e C o T fl t z=>jN t (xp C o H1 G (ar.refl _) (R1.rb.box rfl rfl) z)) aqO,_,F,(RS.start sm r (by omega)).box (B':=I) rfl rfl rfl,?_⟩;unfold WL.afg at g;cases e:t (ws.map .va++List.replicate (N.length-ws.length) .no)with
|nx σ'=>rw[e]at g;unfold WL.ani at g;dsimp only at g;show Rq I σ' F (l σ') _;cases R:l σ' with|bad=>rw[R]at g;exact g.elim|ex c=>rw[R]at g;exact λC o u j y p z=>(show∀C o u j,_ from g) C o u j y p.sub p.base p.fr z|ok xs=>rw[R]at g;obtain⟨D,ex,q⟩:∃D,WL.W.lst xs=.lst D/\_:=g;cases ex;exact λa J u j p y h1 h2 h3 h4=>q a J u j y p.sub p.base p.fr h1 h2 h3 h4
|ex c σ'=>rw[e]at g;exact λC o u j y p z=>g C o u j y p.sub p.base p.fr z|rt _=>rw[e]at g;exact g.elim|bk σ'=>rw[e]at g;exact g.elim|ct σ'=>rw[e]at g;exact g.elim|bad=>rw[e]at g;exact g.elim
def adH{n:Nat}{t:SF}{l:LF}{ws:List VW}{w:VW}(h:WL.afg n t l ws=.ok w):∃a,w=.lst a:=by
 unfold WL.afg WL.ani at h;split at h;·revert h;cases l _ with|ok a=>intro h;exact⟨a,(Res.ok.inj h).symm⟩|ex c=>intro h;cases h|bad=>intro h;cases h
 ·cases h
 ·cases h
def FnOk.ofO{f:Addr}{q:FuncData}{ps:List Str}{k m:Nat}{h:List VW->Res VW}(F:FnOk P w K mg base (CXX P w) k f q ps (spO K m h))(y:∀ws w,h ws=.ok w->∃j,w=.lst j):FnOk P w K mg base (CXX P w) k f q ps (spX K m h):=F.imp λI H Q E l=>by obtain⟨F,ws,A,u,x,d⟩:=l;refine⟨F,ws,A,u,x,?_⟩;cases e:h ws with|bad=>rw[e]at d;exact d|ex c=>rw[e]at d;exact d|ok w=>
   rw[e]at d;obtain⟨j,rfl⟩:=y ws w e;refine⟨j,rfl,λa p n s D C G fr t B i r=>(show∀v n s,_ from d) (.ref a) n (upd s a (.lst p)) (D.trans (az t _)) (λb o z=>?_) G (λb o z=>?_) ?_⟩
   ·by_cases g:b=a;·subst g;rw[ao]at z;cases z;exact i
    ·rw[ag g]at z;exact C b o z
   ·by_cases g:b=a;·subst g;rw[ao]at z;cases z;exact .inr ⟨B,trivial⟩
    ·rw[ag g]at z;exact fr b o z
   ·simp only[RW];exact⟨a,p,rfl,SqL.of ao,r.keep (az t _)⟩
end
section
variable{X:Cx}{B:Bx}{fl x:Str}{c:String}{C f:Addr}{fd:FuncData}{ps:List Str}{k:Nat}{fn:List VW->Res VW}{e:Expr}{es:List Expr}{tas:AF}{p pos pos':Pos}
def vE{ta:EF}(A:X.calm=true)(E:X.mg x=none)(D:bootBuiltins x=some (.builtin "sorted"))(h:PE X e (lo B ta))(J:Gl X x:=by rfl)(o:x≠"__name__":=by decide)(m:(x==("__debug__":Str))=false:=by decide)(s:starEach [e] X.env=(false,eval e X.env)::starEach [] X.env:=by rfl)(d:(backTo pos (starEach [] X.env)).any (·.1)=false:=by rfl):PE X (.Call (.Name x p) [e] [] pos) (loL B (WL.xa ta)):=PE.imp (wG (kR A) J E D (aa h ai s) o m s d) λy H Q n=>by obtain⟨b,F,R,q⟩:=n;have q:=Rq.bind q;refine⟨b,F,R,?_⟩;show Rq B b F ((ta b).bind λx=>.ok [x]) _;cases i:ta b with|bad=>rw[i]at q;exact q|ex c=>rw[i]at q;exact q|ok w=>rw[i]at q;intro O P N r I M;obtain⟨v,rfl,t⟩:=cz M;cases w with
 |dic ks us=>simp only[RW]at t;obtain⟨a,j,rfl,rd,G,_⟩:=t;have q:Rq B b F ((match WL.strsOf ks with|some ss=>if ss.length<64 then Res.ok (WL.W.lst ((WL.yd ss).map .str))else .bad|none=>.bad).bind WL.asL) _:=q;cases es:WL.strsOf ks with|none=>rw[es]at q;exact q.elim|some ss=>
     rw[es]at q;dsimp only at q;by_cases g:ss.length<64;·rw[ao1 g]at q;refine⟨a,j,ss,rfl,r.rb.sub.rd rd,qA es G,g,λl K o z u=>?_⟩;have e:=WL.yc z u;subst e;exact alu r I (aaD _) o q
     ·rw[ao2 g]at q;exact q.elim
 |_=>exact(show False from q).elim
end
end WS
namespace WL
open PySem
end WL
namespace L2
open PySem PySem.Spec PyProof.Rows
end L2
namespace WS
open PySem PySem.Spec PyProof.Rows L2
open WL(Res Sl Ws EF TF AF LF GF GsF SF Out)
def tG(P:Program)(w:World)(K:W.Frag)(c:Str->Option Value)(a:Heap)(k:Nat)(C f:Addr)(m:Str)(ps:List Str)(sp:Sp):Prop:=Meth K C m f/\∃b:FuncData,FnOk P w K c a (CXX P w) k f b ps sp/\Binds K b ps []
def ajZ{K:W.Frag}{f:Addr}{nm a:Str}{st:Stmt}{g:Value}{od j:Option Addr}{e:Array (Option Value)}{kV d i b ct:Value}(l:K.lookup f=some ⟨g,od,.func (W.fnOf nm a (bu st) (aH st) (af st) .none kV d i j b ct),e⟩)(c:W.codeIn K b a=true)(q:W.keepIn K (.ref f)=true):∃h,Fun K nm a st f h:=⟨_,abV l c q⟩
def mI{P:Program}{w:World}{K:W.Frag}{i:Str->Option Value}{b:Heap}{k:Nat}{C f:Addr}{nm a:Str}{st:Stmt}{ps:List Str}{sp:Sp}(M:Meth K C nm f)(D:∃c,Fun K nm a st f c)(j:∀(kV d l:Value)(m:Option Addr)(g ct:Value)(e:List Value),e.length=ps.length->bindArgs (W.fnOf nm a (bu st) (aH st) (af st) .none kV d l m g ct) ⟨e,[]⟩=pure (ps.zip e))(h:∀c:FuncData,Fun K nm a st f c->FnOk P w K i b (CXX P w) k f c ps sp):tG P w K i b k C f nm ps sp:=by obtain⟨c,F⟩:=D;exact⟨M,c,h c F,F.binds j⟩
def tG.x{P:Program}{w:World}{K:W.Frag}{c:Str->Option Value}{a:Heap}{k m n:Nat}{C f:Addr}{nm:Str}{ps:List Str}{t:SF}{l:LF}(h:tG P w K c a k C f nm ps (spO K m (WL.afg n t l))):tG P w K c a k C f nm ps (spX K m (WL.afg n t l)):=by obtain⟨M,d,F,b⟩:=h;exact⟨M,d,FnOk.ofO F λws w e=>adH e,b⟩
section
variable{X:Cx}{B:Bx}{a b e o:Expr}{ta tb to:EF}{pos pos' cpos apos p:Pos}{x fl m nx_:Str}{es:List Expr}{tas:AF}{i j k n d:Nat}{C f g:Addr}{ps:List Str}{fn:List VW->Res VW}{c:String}{pl:Sem Bool}
def wxD(r:B.K=X.K)(h:PE X a (lo B ta))(q:PE X b (lo B tb))(l:j6 b:=by exact λ_ _=>rfl):PE X (.Subscript a b pos) (lo B (WL.eOp WL.ah5 ta tb)):=aix aeR (alS r.symm) h q l
def flI(r:B.K=X.K)(s:W.nsIn X.K mainGlobals (Str.ofString c)=some (some (.ref C)))(cl:Cls X.K C)(l:aS X.K C fl)(q:PE X o (lo B to))(h:WL.jS c=[fl]:=by rfl)(t:attributeBase o fl X.env (eval o X.env)=eval o X.env:=by rfl):PE X (.Attribute o fl pos) (lo B (WL.acd c to)):=agb r.symm s cl l h q t
def mkI(t:B.K=X.K)(s:Room j X.A)(u:XW X B)(M:Mk X.K C f)(cl:Cls X.K C)(E:aS X.K C fl)(H:W.nsIn X.K mainGlobals (Str.ofString c)=some (some (.ref C)))(G:ak6 X.prog X.w X.K X.mg X.base k f ps (spB X.K fl fn))(A:X.mg x=some (.ref C))(w:PA X (e::es) (loA B tas))(z:k+1<=j:=by decide)(v:∀D ws,tas D=.ok ws->ws.length=1:=by repeat first|exact eQ|apply aL)(l:WL.jS c=[fl]:=by rfl)(r:Gl X x:=by rfl)(q:(x==("__debug__":Str))=false:=by decide)(y:starEach (e::es) X.env=(false,eval e X.env)::starEach es X.env:=by rfl)(h:(backTo pos (starEach es X.env)).any (·.1)=false:=by rfl):PE X (.Call (.Name x p) (e::es) [] pos) (lo B (WL.sF c fn tas)):=by obtain⟨I,F,b⟩:=G;exact adh t.symm u M cl E H l F (s.mono z) r A b w v q y h
def an8(Z:B.K=X.K)(Y:Room j X.A)(hx:XW X B)(U:W.nsIn X.K mainGlobals (Str.ofString c)=some (some (.ref C)))(cl:Cls X.K C)(G:tG X.prog X.w X.K X.mg X.base k C g m ps (spX X.K 1 fn))(E:PE X o (lo B to))(O:k<=j:=by decide)(l:WL.jS c=[fl]:=by rfl)(r:(m==fl)=false:=by decide)(K:eval (.Call (.Attribute o m apos) [] [] pos) X.env=(do
  let z <-eval o X.env
  standAt apos.atName let(f,first)<-holding [z] (getMethod z m pl)callWith pos f first (backTo pos (starEach [] X.env)) (backToKw pos (keywordEach [] X.env))):=by rfl):PE X (.Call (.Attribute o m apos) [] [] pos) (lo B (WL.eM c fn to WL.av)):=by obtain⟨M,fd,F,b⟩:=G;refine PE.imp (q5 (pl:=pl) E cl M F (Y.mono O) b .nil K) λh H Q q=>?_;obtain⟨w,s,R,q⟩:=w4 (o:=o) Z.symm hx U l r (n:=1) (tas:=WL.av) (λw ws e=>by cases e;rfl) h H Q q;refine⟨w,s,R,Rq.mono (ar.refl _) q λy A v t s P S J=>?_⟩;obtain⟨a,dx,fs,N,D,I,a0,u,T,q'⟩:=A v t s P S J;exact⟨a,dx,fs,N,D,I,(show∀vs H' u,_ from q') [] t u T Gr.refl (by simp[RWs])⟩
def meI(u:B.K=X.K)(v:Room j X.A)(w:XW X B)(E:W.nsIn X.K mainGlobals (Str.ofString c)=some (some (.ref C)))(cl:Cls X.K C)(G:tG X.prog X.w X.K X.mg X.base k C g m ps (spX X.K n fn))(t:PE X o (lo B to))(z:PA X (e::es) (loA B tas))(y:∀H ws,tas H=.ok ws->ws.length+1=n)(D:k<=j:=by decide)(q:WL.jS c=[fl]:=by rfl)(r:(m==fl)=false:=by decide)(h:starEach (e::es) X.env=(false,eval e X.env)::starEach es X.env:=by rfl)(l:(backTo pos (starEach es X.env)).any (·.1)=false:=by rfl)(A:eval (.Call (.Attribute o m apos) (e::es) [] pos) X.env=(do
  let s <-eval o X.env
  standAt apos.atName let(f,first)<-holding [s] (getMethod s m pl)callWith pos f first (backTo pos (starEach (e::es) X.env)) (backToKw pos (keywordEach [] X.env))):=by rfl):PE X (.Call (.Attribute o m apos) (e::es) [] pos) (lo B (WL.eM c fn to tas)):=by obtain⟨M,I,F,b⟩:=G;exact PE.imp (wz (pl:=pl) t cl M F (v.mono D) b .nil z h l A) (w4 (o:=o) u.symm w E q r y)
end
end WS
namespace WL
open PySem
noncomputable def ad6:W->W->Res W|.int i,.int j=>.ok (.int (i+j))|_,_=>.bad
noncomputable def inner:List W->Option (List W)
|.tup ts::_=>match ts.getLast? with|some (.lst us)=>some us|_=>none
|_=>none
end WL
namespace WS
open PySem PySem.Spec PyProof.Rows L2
open WL(Res Sl Ws EF TF AF LF GF GsF SF Out)
section
variable{X:Cx}{B:Bx}{e:Expr}{te:EF}{i:Nat}{x:Str}{pos pos':Pos}
def af6(u:X.N.Nodup)(o:PE X e (lo B te))(z:X.N[i]?=some x:=by rfl)(n:Loc X.env.scope x:=by first|exact Or.inl rfl|exact Or.inr rfl)(t:X.fn x=true\/X.env.scope.names.lookup x=some .local:=by first|exact .inl rfl|exact .inr rfl|assumption):PS X (.AugAssign (.Name x pos') .Add e pos) (loS B (WL.bK i (WL.eOp WL.ad6 (WL.aj i) te))):=PS.imp (ajn u z n o akv t) λD l H f=>by
 obtain⟨d,F,R,q⟩:=f;have q:=Rq.bind (Oq.ofR q);unfold WL.aj at q;split at q;·rename_i w A;obtain⟨v,s,g⟩:=R.va i w A;have q:=Rq.bind (show Rq B d F ((te d).bind λy=>WL.ad6 w y) _ from q);refine⟨v,s,d,F,R,Rq.mono (ar.refl _) q λy c E r k p m h=>?_⟩;cases w with
 |int a=>cases y with|int b=>simp only[RW]at g h;subst g h;exact⟨a,b,rfl,rfl,(show∀j C G,_ from c) _ r k (p.set (by simp[RW])) m.f⟩|_=>exact(show False from c).elim
 |_=>exact(show False from c).elim
 ·exact q.elim
end
end WS
namespace WL
open PySem
abbrev Fs:=List (W×List W)
inductive KO where|nx(σ:Ws)(fs:Fs)|rt(w:W)|bad
abbrev KF:=Ws->Fs->KO
end WL
namespace WL
end WL
namespace WS
open PySem PySem.Spec PyProof.Rows L2
open WL(Res Sl Ws EF TF AF LF GF GsF SF Out Fs KO KF)
def Frs(K:W.Frag)(F H:Hp):List (Addr×Addr)->Fs->Prop|[],[]=>True|(b,c)::r,(h,is)::fs=>(∃a d,H b=some (.lst [a,.ref c])/\H c=some (.lst d)/\RW K F h a/\RWs K F is d)/\Frs K F H r fs|_,_=>False
noncomputable def adr:List (Addr×Addr)->List Addr|[]=>[]|(b,c)::r=>b::c::adr r
structure Stk(B:Bx)(F H:Hp)(a:Addr)(r:List (Addr×Addr))(fs:Fs):Prop where
 top:H a=some (.lst (r.reverse.map λp=>.ref p.1))frs:Frs B.K F H r fs
 nd:(a::adr r).Nodup
 own:∀x∈a::adr r,F x=none/\B.H0 x=none
section
variable{B:Bx}{a:Addr}{r:List (Addr×Addr)}{fs:Fs}{F H F' H':Hp}
structure RK(B:Bx)(j:Nat)(a:Addr)(g:List (Nat×Addr))(r:List (Addr×Addr))(fs:Fs)(σ:Ws)(σV:L2.St)(F H:Hp):Prop where
 rs:RS B σ σV F H
 no:σ[j]?=some .no
 at_:σV[j]?=some (some (.ref a))st:Stk B F H a r fs
 ap:∀(k:Nat)(ws:List VW)(x:Addr),σ[k]?=some (.ow ws)->σV[k]?=some (some (.ref x))->x∉a::adr r
 fx:∀p∈g,σV[p.1]?=some (some (.ref p.2))
variable{g:List (Nat×Addr)}{j:Nat}{σ:Ws}{σV:L2.St}
open Classical in noncomputable def fzS(F H:Hp)(l:List Addr):Hp:=λx=>if x∈l then H x else F x
def dS{l:List Addr}{x:Addr}(h:x∈l):fzS F H l x=H x:=ao1 h
def aT{l:List Addr}{x:Addr}(h:x∉l):fzS F H l x=F x:=ao2 h
end
end WS
namespace L2
open PySem PySem.Spec PyProof.Rows
end L2
namespace WS
open PySem PySem.Spec PyProof.Rows L2
open WL(Res Sl Ws EF TF AF LF GF GsF SF Out Fs KO KF)
section
variable{B:Bx}{g:List (Nat×Addr)}{j:Nat}{a:Addr}{r:List (Addr×Addr)}{fs:Fs}{σ:Ws}{σV:L2.St}{F H F' H':Hp}{D:Ends}
def akE{g:List (Nat×Addr)}{σV:L2.St}{i:Nat}{v:Option V}(h:∀p∈g,σV[p.1]?=some (some (.ref p.2)))(c:∀p∈g,p.1≠i):∀p∈g,(σV.set i v)[p.1]?=some (some (.ref p.2)):=λp b=>by rw[ao0 (ape (c p b))];exact h p b
theorem RK.set(R:RK B j a g r fs σ σV F H){i:Nat}{w:VW}{v:V}(e:i≠j)(f:∀p∈g,p.1≠i)(hw:RW B.K F w v):RK B j a g r fs (σ.set i (.va w)) (σV.set i (some v)) F H:=by
 refine⟨R.rs.set hw,by rw[ao0 e];exact R.no,by rw[ao0 e];exact R.at_,R.st,λk ws x b d=>?_,akE R.fx f⟩;by_cases c:i=k
 ·subst c;have h:i<σ.length:=by have:=(ao3.mp b).1;simpa using this
  rw[ao8 h]at b;cases b
 ·rw[ao0 c]at b d;exact R.ap k ws x b d
end
section
variable{B:Bx}{l:List Addr}{σ:Ws}{σV:L2.St}{F H F' H':Hp}
abbrev iD(B:Bx)(H:Hp)(l:List Addr):Bx:=⟨B.K,fzS B.H0 H l,B.F0,B.xp,B.mono⟩
def RS.inS(R:RS B σ σV F H)(n:∀x∈l,F x=none)(ap:∀(k:Nat)(ws:List VW)(x:Addr),σ[k]?=some (.ow ws)->σV[k]?=some (some (.ref x))->x∉l)(ad:∀x∈l,∀(k:Nat)(c d:List VW),σ[k]?=some (.od c d)->σV[k]?≠some (some (.ref x))):RS (iD B H l) σ σV F H:=by
 refine⟨⟨R.rb.sub,λx o q=>?_,R.rb.fz0,λx o q=>?_⟩,R.len,R.va,λk ws e=>?_,R.ap,R.dd.via rfl id (λ_ _ z=>.inl z) (λ_ _ _ e=>⟨e,rfl⟩) (ar.refl _) λk c d b t m s p v h=>⟨v,?_,p⟩⟩
 ·have q:fzS B.H0 H l x=some o:=q;by_cases a:x∈l;·rw[dS a]at q;exact q
  ·rw[aT a]at q;exact R.rb.base x o q
 ·rcases R.rb.fr x o q with z|z;·exact .inl z
  ·refine .inr ⟨?_,z.2⟩;show fzS B.H0 H l x=none;rw[aT λa=>by rw[n x a]at q;cases q];exact z.1
 ·obtain⟨b,j,f,g,i,r,u⟩:=R.ow k ws e;refine⟨b,j,f,g,?_,r,u⟩;show fzS B.H0 H l b=none;rw[aT (ap k ws b e f)];exact i
 ·show fzS B.H0 H l b=none;rw[aT λa=>ad b a k c d m s];exact h
def RS.ajF(R:RS (iD B H l) σ σV F' H')(c:∀x∈l,B.H0 x=none)(u:∀x∈l,∃o,H x=some o):RS B σ σV F' H':=by
 have n:∀{x:Addr},fzS B.H0 H l x=none->B.H0 x=none:=λ{x}z=>by
  by_cases a:x∈l;·exact c x a
  ·rw[aT a]at z;exact z
 refine⟨⟨R.rb.sub,λx o q=>?_,R.rb.fz0,λx o q=>?_⟩,R.len,R.va,λk ws e=>?_,R.ap,R.dd.via rfl id (λ_ _ z=>.inl z) (λ_ _ _ e=>⟨e,rfl⟩) (ar.refl _) λk t v b p w y i s f=>⟨s,n f,i⟩⟩;·refine R.rb.base x o (show fzS B.H0 H l x=some o from ?_);rw[aT λa=>by rw[c x a]at q;cases q];exact q
 ·rcases R.rb.fr x o q with z|z;·exact .inl z
  ·exact .inr ⟨n z.1,z.2⟩
 ·obtain⟨b,h,j,d,g,m,r⟩:=R.ow k ws e;exact⟨b,h,j,d,n g,m,r⟩
def my(c:∀x∈l,∃o,H x=some o){x:Addr}(h:fzS B.H0 H l x=none):x∉l:=λa=>by obtain⟨o,b⟩:=c x a;rw[dS a,b]at h;cases h
end
section
variable{P:Program}{w:World}{K:W.Frag}{mg:Str->Option Value}{base:Heap}
open Classical in end
end WS
namespace WS
open PySem PySem.Spec PyProof.Rows L2
open WL(Res Sl Ws EF TF AF LF GF GsF SF Out Fs KO KF)
end WS
namespace WL
open PySem
end WL
namespace WS
open PySem PySem.Spec PyProof.Rows L2
open WL(Res Sl Ws EF TF AF LF GF GsF SF Out Fs KO KF)
end WS
namespace WL
open PySem
def jd(ds:List String):W->Bool|.exc nm _=>ds.any (kX nm)|_=>false
def nO(ds:List String)(h:SF)(c:W)(σ:Ws):Out:=if jd ds c then(match h σ with|.ex _ _=>.bad|o=>o)else .bad
def yn(b:SF)(ds:List String)(h:SF):SF:=λa=>match b a with|.ex c σ'=>nO ds h c σ'|o=>o
end WL
namespace L2
open PySem PySem.Spec PyProof.Rows
section
variable{X:Cx}{pins:List (Addr×Obj)}{σ:St}{H:Hp}{s:Shared}{e Ce A B C D:Addr}{dx:Option Addr}{fl:Value}{T:Addr}{a b c d n:Str}{pa pb pc pd pos hpos:Pos}{b0:Stmt}{suite:List Stmt}
def aeF{x1}{Q:Value->Shared->Prop}{E:Value->Shared->Prop}(I:Inv X pins σ H s)(g:Gl X a/\X.mg a=some (.ref A))(i:Gl X b/\X.mg b=some (.ref B))(f:Gl X c/\X.mg c=some (.ref C))(h:Q (.ref s.heap.objs.size) {s with heap:=s.heap.push {cls:=.type "tuple",data:=.seq [Value.ref A,.ref B,.ref C].toArray}})(k:(a==("__debug__":Str))=false:=by decide)(l:(b==("__debug__":Str))=false:=by decide)(j:(c==("__debug__":Str))=false:=by decide):wpAny (model X.prog X.w) X.A (eval (.Tuple [.Name a pa,.Name b pb,.Name c pc] x1 pos) X.env) Q E s:=by refine wpAny_Tuple_spliced ?_;refine aq2 (dt I g.1 g.2 (aq2 (dt I i.1 i.2 (aq2 (dt I f.1 f.2 (Calls.spliced_nil ⟨(show 3<=sizeLine by decide),h⟩) j)) l)) k)
theorem Thr.push(t:Thr X pins σ H s e Ce dx fl (some T))(o:Obj):Thr X pins σ H {s with heap:=s.heap.push o} e Ce dx fl (some T):=⟨t.inv.kept (t':=s.toks) (λb u q=>aoZ _ q),t.trc.keeps (λb u _ q=>aoZ _ q),t.fe,t.fT⟩
variable{Q:Flow->Shared->Prop}{E:Value->Shared->Prop}
def rZ{j:Expr}{vs:List Value}(t:Thr X pins σ H s e Ce dx fl (some T))(g:∀(Q:Value->Shared->Prop)(E:Value->Shared->Prop),Q (.ref s.heap.objs.size) {s with heap:=s.heap.push {cls:=.type "tuple",data:=.seq vs.toArray}}->wpAny (model X.prog X.w) (X.A.mark (some (.ref e))) (eval j X.env) Q E s)(m:∀{M:Model}{h:Heap},X.K.In h->W.Looks M h (typeOf (.ref e)) (.ref Ce)->h.get? s.heap.objs.size=some {cls:=.type "tuple",data:=.seq vs.toArray}->W.Looks M h (excMatches (.ref e) (.ref s.heap.objs.size)) true)(k:∀f,Thr X pins σ H {s with heap:=f} e Ce dx .none (some T)->wpAny (model X.prog X.w) (X.A.mark (some (.ref e))) (execs (b0::suite) X.env) Q (λ_ _=>False) {s with heap:=f}):wpAny (model X.prog X.w) X.A (handleBy (.ref e) X.env [.ExceptHandler (some j) none (b0::suite) hpos]) Q E s:=by have i:=t.push {cls:=.type "tuple",data:=.seq vs.toArray};refine wpAny_handleBy_cons (codeAny_handlers_test (g _ _ ?_)) (by intro q;cases q);refine(m i.inv.kIn i.ty (apd _ rfl)).here ?_;refine codeAny_handlers_suite (i.sd λf l=>?_);exact apx (k f l) (λ_ _ q=>q) λ_ _ z=>z.elim
end
end L2
namespace WS
open PySem PySem.Spec PyProof.Rows L2
open WL(Res Sl Ws EF TF AF LF GF GsF SF Out)
section
variable{X:Cx}{B:Bx}{pos hpos:Pos}
def af1{p f:List Stmt}{Z:Stmt}{Y O N:Addr}{m n k:String}{v M x:Str}{p1 p2 p3 tp:Pos}{ec:Nat}{tb th:SF}(hK:X.K=B.K)(hs:X.stack=X.env::X.outer)(hf:X.env.frame=some X.env.locals)(g1:Gl X v/\X.mg v=some (.ref Y))(g2:Gl X M/\X.mg M=some (.ref O))(g3:Gl X x/\X.mg x=some (.ref N))(hc:∀d S,ExcAt X.K d S->W.exmOne X.K (.ref S) (.ref Y)=some (WL.kX d m)/\W.exmOne X.K (.ref S) (.ref O)=some (WL.kX d n)/\W.exmOne X.K (.ref S) (.ref N)=some (WL.kX d k))(hb:∀(E:Value->Shared->Prop)(pn:List (Addr×Obj))(B':Bx),B'.K=X.K->XW (X.tri E pn) B'->PassesOwn (model X.prog X.w) X.A X.env E->PSs (X.tri E pn) p (loS B' tb))(hh:∀(e:Addr)(B':Bx),B'.K=X.K->XW (X.sui e) B'->PSs (X.sui e) (Z::f) (loS B' th))(e1:(v==("__debug__":Str))=false:=by decide)(e2:(M==("__debug__":Str))=false:=by decide)(e3:(x==("__debug__":Str))=false:=by decide):PS X (.Try p [.ExceptHandler (some (.Tuple [.Name v p1,.Name M p2,.Name x p3] ec tp)) none (Z::f) hpos] [] [] pos) (loS B (WL.yn tb [m,n,k] th)):=by
 intro b s a1 H D I⟨σ,F,R,q⟩;refine wpAny_Try_except ?_;let E':Value->Shared->Prop:=λe y=>wpAny (model X.prog X.w) X.A (noteFrame e X.env) (λ_ C=>wpAny (model X.prog X.w) X.A (setFlight e none) (λ_ A=>wpAny (model X.prog X.w) X.A (handleBy e X.env [.ExceptHandler (some (.Tuple [.Name v p1,.Name M p2,.Name x p3] ec tp)) none (Z::f) hpos]) (SP X b D) X.xe A) X.xe C) X.xe y;let u:Bx:=B.nY (λc l F'=>Oq B D F' (WL.nO [m,n,k] th c l)) λc l F' a2 s h=>Oq.mono s h;have xw:XW (X.tri E' (X.pn++b)) u:=by intro a0 r H1 s1 g F1 c R1 a e Ce dx T U t xr;have t2:Thr X b r H1 s1 e Ce dx U T:=t.gi;obtain⟨d,fs,rfl,ce⟩:=xr.is;have a:Oq B D F1 (WL.nO [m,n,k] th (.exc d fs) g):=a;have ex:=hc d Ce ce;cases j:[m,n,k].any (WL.kX d)with
 |false=>
   have:WL.nO [m,n,k] th (.exc d fs) g=.bad:=by unfold WL.nO;rw[show WL.jd [m,n,k] (.exc d fs)=false from j];rfl
   rw[this]at a;exact a.elim|true=>
   have hO:WL.nO [m,n,k] th (.exc d fs) g=(match th g with|.ex _ _=>.bad|o=>o):=by unfold WL.nO;rw[show WL.jd [m,n,k] (.exc d fs)=true from j];rfl
   rw[hO]at a;have G:W.exmAny X.K (.ref Ce) [.ref Y,.ref O,.ref N]=some true:=by obtain⟨y1,y2,y3⟩:=ex;have j:(WL.kX d m||(WL.kX d n||(WL.kX d k||false)))=true:=j;simp only[W.exmAny,y1,y2,y3];rw[j]
   refine t2.note hs hf λh' T' _ t3=>t3.sd λa3 t4=>rZ (vs:=[.ref Y,.ref O,.ref N]) t4 (λQ E h=>aeF (X:=X.sui e) (t4.inv.sui e) g1 g2 g3 h e1 e2 e3) (λkI ty hp=>W.exm_tup3 kI ty hp G) (λh3 t5=>?_);have J:=t5.inv;let K:Bx:=B.never;have P:=hh e K hK.symm (oO λ_ _ _ z=>z);refine apx (P b _ r H1 D (J.sui e) ⟨g,F1,R1.box rfl rfl rfl,?_⟩) (λU s' h=>SP.back J h) λ_ _ z=>z;cases i:th g with|ex c2 σ2=>rw[i]at a;exact a.elim|nx σ2=>rw[i]at a;exact Oq.box (B:=B) (B':=K) rfl rfl rfl (λ_ _ z=>by cases z) a|bk σ2=>rw[i]at a;exact Oq.box (B:=B) (B':=K) rfl rfl rfl (λ_ _ z=>by cases z) a|ct σ2=>rw[i]at a;exact Oq.box (B:=B) (B':=K) rfl rfl rfl (λ_ _ z=>by cases z) a|rt w=>rw[i]at a;exact Oq.box (B:=B) (B':=K) rfl rfl rfl (λ_ _ z=>by cases z) a|bad=>rw[i]at a;exact a
 have P:=hb E' (X.pn++b) u hK.symm xw PassesOwn.looking;refine apx (P [] s a1 H D (I.tri E') ⟨σ,F,R.box rfl rfl rfl,?_⟩) (λU s' h=>?_) λ_ _ z=>z;·have q:Oq B D F (match tb σ with|.ex c l=>WL.nO [m,n,k] th c l|o=>o):=q;cases i:tb σ with|ex c l=>rw[i]at q;exact q|nx σ2=>rw[i]at q;exact Oq.box (B:=B) (B':=u) rfl rfl rfl (λ_ _ z=>by cases z) q|bk σ2=>rw[i]at q;exact Oq.box (B:=B) (B':=u) rfl rfl rfl (λ_ _ z=>by cases z) q|ct σ2=>rw[i]at q;exact Oq.box (B:=B) (B':=u) rfl rfl rfl (λ_ _ z=>by cases z) q|rt w=>rw[i]at q;exact Oq.box (B:=B) (B':=u) rfl rfl rfl (λ_ _ z=>by cases z) q|bad=>rw[i]at q;exact q
 ·have h:=SP.gi h;cases U with|next=>exact aqG h|_=>exact h
end
end WS
namespace WL
open PySem
inductive OX(S:Type)where|nx(σ:Ws)(s:S)|bk(σ:Ws)(s:S)|ct(σ:Ws)(s:S)|rt(w:W)(s:S)|ex(c:W)(σ:Ws)|bad
abbrev RF(S:Type):=Ws->S->OX S
variable{S:Type}
noncomputable def jl(t:SF):RF S:=λa s=>match t a with|.nx σ'=>.nx σ' s|.bk σ'=>.bk σ' s|.ct σ'=>.ct σ' s|.rt w=>.rt w s|.ex c σ'=>.ex c σ'|.bad=>.bad
noncomputable def lz(a b:RF S):RF S:=λc s=>match a c s with|.nx σ' s'=>b σ' s'|o=>o
noncomputable def xNx:RF S:=λa s=>.nx a s
noncomputable def seen(adr:S->Nat)(val:S->W)(j:Nat)(σ:Ws)(s:S):Option Ws:=match σ[j]? with|some (.va (.id b))=>if b=adr s then some (σ.set j (.va (val s)))else none|_=>none
def xT(adr:S->Nat)(val:S->W)(j:Nat)(t:TF)(σ:Ws)(s:S):Res Bool:=match seen adr val j σ s with|some σ'=>t σ'|none=>.bad
noncomputable def ac8(r:Res Bool)(a b:OX S):OX S:=match r with|.ok true=>a|.ok false=>b|_=>.bad
def xIf(t:Ws->S->Res Bool)(a b:RF S):RF S:=λc s=>ac8 (t c s) (a c s) (b c s)
noncomputable def zp(t:Ws->S->Res Bool)(b:RF S):Nat->Ws->S->OX S|0,_,_=>.bad|n+1,σ,s=>ac8 (t σ s) (match b σ s with|.nx σ' s'=>zp t b n σ' s'|.ct σ' s'=>zp t b n σ' s'|.bk σ' s'=>.nx σ' s'|o=>o) (.nx σ s)
noncomputable def hJ(k:Nat)(b:RF S):List W->Ws->S->OX S|[],σ,s=>.nx σ s|x::xs,σ,s=>match b (σ.set k (.va x)) s with|.nx σ2 s2=>hJ k b xs σ2 s2|.ct σ2 s2=>hJ k b xs σ2 s2|.bk σ2 s2=>.nx σ2 s2|o=>o
def afZ(i k:Nat)(b:RF S):RF S:=λa s=>match a[i]? with|some (.va (.dic ks _))=>hJ k b ks a s|_=>.bad
def aiq(adr:S->Nat)(val:S->W)(j i:Nat)(e:EF):RF S:=λa s=>match seen adr val j a s with|some σ'=>(match e σ' with|.ok w=>if plain w=true then .nx (a.set i (.va w)) s else .bad|_=>.bad)|none=>.bad
noncomputable def runM(n:Nat)(t:RF S):List W->S->OX S:=λws s=>t (ws.map .va++List.replicate (n-ws.length) .no) s
noncomputable def ofM(σ:Ws):OX S->OX S|.nx _ s'=>.nx σ s'|.rt _ s'=>.nx σ s'|.ex c _=>.ex c σ|_=>.bad
def gg(adr:S->Nat)(j:Nat)(d:List W->S->OX S)(a:AF):RF S:=λc s=>match c[j]? with|some (.va (.id b))=>if b=adr s then(match a c with|.ok ws=>ofM c (d (.id b::ws) s)|_=>.bad)else .bad|_=>.bad
end WL
namespace WS
open PySem PySem.Spec PyProof.Rows L2
open WL(Res Sl Ws EF TF AF LF GF GsF SF Out OX RF)
structure Rsc(S:Type)where
 adr:S->Addr
 rel:W.Frag->S->List Addr->Hp->Hp->Prop
 mono:∀{K s l F H F' H'},rel K s l F H->ar F F'->(∀x∈l,∀o,H x=some o->H' x=some o)->rel K s l F' H'
 there:∀{K s l F H},rel K s l F H->∀x∈l,∃o,H x=some o/\NF o/\∀xs,o≠.tup xs
 val:S->VW
 fz:∀{K s l F H a od kvs},rel K s l F H->(∀x∈l,F x=none)->F a=some (.dK kvs)->rel K s l (upd F a (zD od kvs)) (upd H a (zD od kvs))th:∀{K s l F H a od kvs},rel K s l F H->(∀x∈l,F x=none)->F a=some (zD od kvs)->rel K s l (upd F a (.dK kvs)) (upd H a (.dK kvs))rw:∀{K s l F H F'},rel K s l F H->ar F F'->(∀x∈l,∀o,H x=some o->F' x=some o)->RW K F' (val s) (.ref (adr s))
variable{S:Type}
structure RX(M:Rsc S)(B:Bx)(s:S)(l:List Addr)(σ:Ws)(σV:L2.St)(F H:Hp):Prop where
 rs:RS (iD B H l) σ σV F H
 fr:∀x∈l,F x=none/\B.H0 x=none
 re:M.rel B.K s l F H
def OqX(M:Rsc S)(B:Bx)(D:Ends)(F:Hp):OX S->Prop|.nx σ' s'=>∀a d b e,RX M B s' e σ' a b d->ar F b->D.nx a d|.bk σ' s'=>∀a d b e,RX M B s' e σ' a b d->ar F b->D.bk a d|.ct σ' s'=>∀a d b e,RX M B s' e σ' a b d->ar F b->D.ct a d|.rt w s'=>∀v d b e,RB (iD B d e) b d->(∀x∈e,b x=none/\B.H0 x=none)->M.rel B.K s' e b d->ar F b->RW B.K b w v->D.rt v d|.ex c σ'=>B.xp c σ' F|.bad=>False
def loX(M:Rsc S)(B:Bx)(t:RF S):TS:=λD a H=>∃b F s l,RX M B s l b a F H/\OqX M B D F (t b s)
section
variable{M:Rsc S}{B:Bx}{s:S}{l:List Addr}{σ:Ws}{σV:L2.St}{F H F' H':Hp}{D:Ends}{X:Cx}
theorem OqX.mono(k:ar F F'){o:OX S}(h:OqX M B D F o):OqX M B D F' o:=by cases o with|nx σ s=>exact λσV H G l R z=>h σV H G l R (k.trans z)|bk σ s=>exact λσV H G l R z=>h σV H G l R (k.trans z)|ct σ s=>exact λσV H G l R z=>h σV H G l R (k.trans z)|rt w s=>exact λv H G l R r q z=>h v H G l R r q (k.trans z)|ex c σ=>exact B.mono c σ F F' k h|bad=>exact h
theorem RX.there(R:RX M B s l σ σV F H):∀x∈l,∃o,H x=some o:=λx a=>let⟨o,h,_⟩:=M.there R.re x a;⟨o,h⟩
def abF(c:∀x∈l,∃o,H x=some o)(a:RB (iD B H l) F' H'):∀x∈l,∀o,H x=some o->H' x=some o:=λx b o q=>a.base x o (by show fzS B.H0 H l x=some o;rw[dS b];exact q)
def afM(c:∀x∈l,∃o,H x=some o)(k:∀x∈l,∀o,H x=some o->H' x=some o):iD B H l=iD B H' l:=by
 have:fzS B.H0 H l=fzS B.H0 H' l:=by
  funext x;by_cases a:x∈l;·obtain⟨o,b⟩:=c x a;rw[dS a,dS a,b,k x a o b]
  ·rw[aT a,aT a]
 simp only[iD,this]
def abW(d:∀x∈l,∃o,H x=some o)(g:∀x∈l,F x=none)(b:ar B.F0 F)(c:RB (iD B H l) F' H'):∀x∈l,F' x=none:=λx a=>by cases e:F' x with|none=>rfl|some o=>
 rcases c.fr x o e with z|⟨z,_⟩;·have:=b x o z;rw[g x a]at this;cases this
 ·have z:fzS B.H0 H l x=none:=z;obtain⟨u,f⟩:=d x a;rw[dS a,f]at z;cases z
def RX.next(R:RX M B s l σ σV F H){b:Ws}{a:L2.St}(c:RS (iD B H l) b a F' H')(k:ar F F'):RX M B s l b a F' H':=by have d:=abF R.there c.rb;refine⟨?_,λx e=>⟨abW (B:=B) R.there (λy f=>(R.fr y f).1) R.rs.rb.fz0 c.rb x e,(R.fr x e).2⟩,M.mono R.re k d⟩;rw[<-afM R.there d];exact c
def XW.inS(e:XW X B)(b:∀x∈l,B.H0 x=none)(d:∀x∈l,∃o,H x=some o):XW X (iD B H l):=λa σV H' f σ F c R q=>e a σV H' f σ F c (R.ajF b d) q
variable{st:Stmt}{rest ss:List Stmt}{t:SF}{t1 t2:RF S}
def agW(R:RX M B s l σ σV F H)(q:OqX M B D F (WL.jl t σ s)):Oq (iD B H l) D F (t σ):=by unfold WL.jl at q;cases e:t σ with|nx σ'=>rw[e]at q;exact λa H' F' b k=>q a H' F' l (R.next b k) k|bk σ'=>rw[e]at q;exact λa H' F' b k=>q a H' F' l (R.next b k) k|ct σ'=>rw[e]at q;exact λa H' F' b k=>q a H' F' l (R.next b k) k|rt w=>rw[e]at q;intro v H' F' d k r;have f:=abF R.there d;refine q v H' F' l (by rw[<-afM R.there f];exact d) (λx g=>⟨abW (B:=B) R.there (λy h=>(R.fr y h).1) R.rs.rb.fz0 d x g,(R.fr x g).2⟩) (M.mono R.re k f) k r|ex c σ'=>rw[e]at q;exact q|bad=>rw[e]at q;exact q
def ic(d:B.K=X.K)(b:XW X B)(h:∀c:Bx,c.K=X.K->XW X c->PS X st (loS c t)):PS X st (loX M B (WL.jl t)):=by intro a e σV H D I⟨σ,F,s,l,R,q⟩;exact h (iD B H l) d (XW.inS b (λx b=>(R.fr x b).2) R.there) a e σV H D I ⟨σ,F,R.rs,agW R q⟩
def zw:PSs X [] (loX M B WL.xNx):=PSs.imp aaO λD σV H a=>by obtain⟨σ,F,s,l,R,q⟩:=a;exact(show∀b H' F' c,_ from q) σV H F l R (ar.refl _)
def ly(h:PS X st (loX M B t1)):PSs X [st] (loX M B t1):=dP h
def j7(g:PS X st (loX M B t1))(e:PSs X rest (loX M B t2)):PSs X (st::rest) (loX M B (WL.lz t1 t2)):=PSs.imp (bN g e) λD σV H b=>by obtain⟨σ,F,s,l,R,q⟩:=b;refine⟨σ,F,s,l,R,?_⟩;have q:OqX M B D F (match t1 σ s with|.nx σ' s'=>t2 σ' s'|o=>o):=q;cases a:t1 σ s with|nx σ' s'=>rw[a]at q;exact λd H' F' f h k=>⟨σ',F',s',f,h,OqX.mono k q⟩|bk σ' s'=>rw[a]at q;exact q|ct σ' s'=>rw[a]at q;exact q|rt w s'=>rw[a]at q;exact q|ex c σ'=>rw[a]at q;exact q|bad=>rw[a]at q;exact q
end
variable{S:Type}
section
variable{M:Rsc S}{B:Bx}{s:S}{l:List Addr}{σ σ1:Ws}{σV:L2.St}{F H F' H':Hp}{D:Ends}{X:Cx}{j:Nat}
def RX.frz(R:RX M B s l σ σV F H)(e:WL.seen M.adr M.val j σ s=some σ1):ar F (fzS F H l)/\RS B σ1 σV (fzS F H l) H:=by
 have A:=R.there;have k:ar F (fzS F H l):=λx o q=>by rw[aT λz=>by rw[(R.fr x z).1]at q;cases q];exact q
 have c:RS B σ σV F H:=R.rs.ajF (λx a=>(R.fr x a).2) A;have rb:RB B (fzS F H l) H:=⟨λx o q=>by
  by_cases a:x∈l;·rw[dS a]at q;exact q
  ·rw[aT a]at q;exact c.rb.sub x o q,c.rb.base,c.rb.fz0.trans k,λx o q=>by
  by_cases a:x∈l;·rw[dS a]at q;obtain⟨u,T,C,_⟩:=M.there R.re x a;rw[T]at q;cases q;exact .inr ⟨(R.fr x a).2,C⟩
  ·rw[aT a]at q;exact c.rb.fr x o q⟩;have out:∀{b:Addr},(iD B H l).H0 b=none->b∉l:=λ{b}z=>my (B:=B) A z;have t:RS B σ σV (fzS F H l) H:=by
  refine⟨rb,c.len,λi w q=>?_,λi ws q=>?_,c.ap,c.dd.via rfl id (λ_ _ z=>.inl z) (λ_ _ _ q=>⟨q,rfl⟩) k λi Q I b J E h Z K N=>⟨?_,N,Z⟩⟩;·obtain⟨v,f,d⟩:=c.va i w q;exact⟨v,f,d.keep k⟩
  ·obtain⟨b,vs,f,d,G,h4,h5⟩:=R.rs.ow i ws q;obtain⟨p,n,g,g2,m,P,O⟩:=c.ow i ws q;rw[f]at g;cases g;exact⟨b,n,f,by rw[aT (out G)];exact d,m,P,O.keep k⟩
  ·obtain⟨p,r,g,_,m,_⟩:=R.rs.dd.od i Q I E;have g:σV[i]?=some (some (.ref p)):=g;have h:σV[i]?=some (some (.ref b)):=h;rw[h]at g;cases g;rw[aT (out m)];exact K
 refine⟨k,?_⟩;unfold WL.seen at e;split at e
 ·rename_i b eb;split at e
  ·rename_i Y;cases e;subst Y;obtain⟨v,f,d⟩:=t.va j _ eb;have d:v=.ref (M.adr s):=by simpa only[RW]using d
   subst d;have U:σV.set j (some (.ref (M.adr s)))=σV:=by
    apply List.ext_getElem?;intro i;by_cases y:j=i;·subst y;rw[ao8 (ao3.mp f).1,f]
    ·rw[ao0 y]
   have:=t.set (i:=j) (w:=M.val s) (v:=.ref (M.adr s)) (M.rw R.re k λx a o q=>by rw[dS a];exact q);rw[U]at this;exact this
  ·cases e
 ·cases e
open Classical in theorem RX.back(R:RX M B s l σ σV F H){i:Ws}{d e:Hp}(k:RS B i σV d e)(g:Gr (fzS F H l) H d e):∃b,Gr F H b e/\(∀x o,d x=some o->x∉l->b x=some o)/\RX M B s l σ σV b e:=by
 let b:Hp:=λx=>if x∈l then none else d x;have c:∀{x:Addr},x∈l->b x=none:=λh=>ao1 h;have h8:∀{x:Addr},x∉l->b x=d x:=λh=>ao2 h;have f:Gr F H b e:=⟨λx o q=>by
 have a:x∉l:=λz=>by rw[(R.fr x z).1]at q;cases q
 rw[h8 a];exact g.f x o (by rw[aT a];exact q),g.h,λx o q n=>by
 by_cases a:x∈l;·exact c a
 ·rw[h8 a];exact g.nf x o q (by rw[aT a];exact n)⟩;have sub:ar b d:=λx o q=>by
  by_cases a:x∈l;·rw[c a]at q;cases q
  ·rw[h8 a]at q;exact q
 have m:RB (iD B H l) b e:=⟨sub.trans k.rb.sub,R.rs.rb.base.trans g.h,R.rs.rb.fz0.trans f.f,λx o q=>by
  by_cases a:x∈l;·rw[c a]at q;cases q
  ·rcases k.rb.fr x o (sub x o q)with z|⟨z,n⟩;·exact .inl z
   ·exact .inr ⟨by show fzS B.H0 H l x=none;rw[aT a];exact z,n⟩⟩;exact⟨b,f,λx o q a=>by rw[h8 a];exact q,R.next (R.rs.grow f m) f.f⟩
variable{c:Expr}{tt:TF}{st:Stmt}{ss ss':List Stmt}{t1 t2 b:RF S}{pos:Pos}
def anK{D:Bool->Hp->Prop}{v:Bool}(R:RX M B s l σ σV F H)(e:WL.xT M.adr M.val j tt σ s=.ok v)(h:∀a d,Gr F H d a->RX M B s l σ σV d a->D v a):loT B tt σV H D:=by
 unfold WL.xT at e;split at e;·rename_i σ1 m;obtain⟨k,o⟩:=R.frz m;refine⟨_,_,o,?_⟩;rw[e];intro a d R2 i;obtain⟨f,n,_,g⟩:=R.back R2 i;exact h a f n g
 ·cases e
def OqX.ifB{r:Res Bool}{d a:OX S}(h:OqX M B D F (WL.ac8 r d a)):∃v,r=.ok v/\OqX M B D F (if v=true then d else a):=by cases r with
|ok v=>cases v with|true=>exact⟨true,rfl,h⟩|false=>exact⟨false,rfl,h⟩
|ex c=>exact(show False from h).elim|bad=>exact(show False from h).elim
def aip(g:PT X c (loT B tt))(h:PSs X ss (loX M B t1))(i:PSs X ss' (loX M B t2)):PS X (.If c ss ss' pos) (loX M B (WL.xIf (WL.xT M.adr M.val j tt) t1 t2)):=PS.imp (agO g h i) λD σV H a=>by obtain⟨σ,F,s,l,R,q⟩:=a;obtain⟨v,k,q⟩:=OqX.ifB q;refine anK R k λm d f e=>?_;cases v with|true=>rw[ao1 rfl]at q⊢;exact⟨σ,d,s,l,e,OqX.mono f.f q⟩|false=>rw[ao2 ao7]at q⊢;exact⟨σ,d,s,l,e,OqX.mono f.f q⟩
def ac5{n:Nat}(E:PassesOwn (model X.prog X.w) X.A X.env X.xe)(G:PT X c (loT B tt))(J:PSs X ss (loX M B b)):PS X (.While c ss [] pos) (loX M B (WL.zp (WL.xT M.adr M.val j tt) b n)):=PS.imp (wj E G J) λD σV H y=>by obtain⟨σ,F,s,l,R,q⟩:=y;refine⟨λm f H'=>∃g F' u r,RX M B u r g f F' H'/\OqX M B D F' (WL.zp (WL.xT M.adr M.val j tt) b m g u),⟨n,σ,F,s,l,R,q⟩,?_⟩;rintro m f H'⟨g,F',u,r,I,d⟩;cases m with|zero=>exact(show False from d).elim|succ m=>obtain⟨v,N,d⟩:=OqX.ifB d;refine anK I N λK A p z=>?_;cases v with|false=>rw[ao2 ao7]at d⊢;exact(show∀f H' F' r,_ from d) f K A r z p.f|true=>rw[ao1 rfl]at d⊢;refine⟨λa t=>∃e h i k,RX M B i k e a h t/\OqX M B D h (WL.zp (WL.xT M.adr M.val j tt) b m e i),λa t C=>⟨m,aqy m,C⟩,g,A,u,r,z,?_⟩;cases o:b g u with|nx e i=>rw[o]at d;exact λa t h k R2 x=>⟨e,h,i,k,R2,OqX.mono (p.f.trans x) d⟩|ct e i=>rw[o]at d;exact λa t h k R2 x=>⟨e,h,i,k,R2,OqX.mono (p.f.trans x) d⟩|bk e i=>rw[o]at d;exact λa t h k R2 x=>(show∀f H' F' r,_ from d) a t h k R2 (p.f.trans x)|rt w i=>rw[o]at d;exact OqX.mono (D:=D) p.f d|ex c e=>rw[o]at d;exact OqX.mono (D:=D) p.f d|bad=>rw[o]at d;exact d
end
variable{S:Type}
section
variable{M:Rsc S}{B:Bx}{s:S}{l:List Addr}{σ:Ws}{σV:L2.St}{F H F' H':Hp}{D:Ends}{X:Cx}{i j:Nat}{e:Expr}{te:EF}{x:Str}{pos pos':Pos}
def ahh(R:RX M B s l σ σV F H){b k f:Hp}(g:Gr (fzS F H l) H b f)(sub:ar b f)(h:∀y o,b y=some o->y∉l->k y=some o){w:VW}{v:V}(p:WL.plain w=true)(r:RW B.K b w v):RW B.K k w v:=by
 refine RW.less (λa m q=>?_) w v p r;have c:∀{o:HO},b a=some o->(o=.tup m\/∃ob u,o=.frz ob u)->a∉l:=λ{o}q z t=>by
  obtain⟨u,A,n,C⟩:=M.there R.re a t;have d:=sub a o q;rw[g.h a u A]at d;cases d;rcases z with rfl|⟨ob,E,rfl⟩;·exact C m rfl
  ·exact n
 rcases q with(q|⟨o,q⟩)|q;·exact .inl (.inl (h a _ q (c q (.inl rfl))))
 ·exact .inl (.inr ⟨o,h a _ q (c q (.inr ⟨_,_,rfl⟩))⟩)
 ·exact .inr q
def aio(G:X.N.Nodup)(A:PE X e (lo B te))(r:X.N[i]?=some x:=by rfl)(y:Loc X.env.scope x:=by first|exact Or.inl rfl|exact Or.inr rfl)(f:swapsWith e (some (.Name x pos')) pos.line X.env=pure false:=by rfl)(E:X.fn x=true\/X.env.scope.names.lookup x=some .local:=by first|exact .inl rfl|exact .inr rfl|assumption):PS X (.Assign [.Name x pos'] e pos) (loX M B (WL.aiq M.adr M.val j i te)):=PS.imp (qY G r y A f E) λD σV H b=>by
 obtain⟨σ,F,s,l,R,q⟩:=b;unfold WL.aiq at q;split at q
 ·rename_i m o;obtain⟨k,h⟩:=R.frz o;split at q
  ·rename_i w u;split at q;·rename_i hw;refine⟨_,_,h,?_⟩;rw[u];intro v C I R2 c z;obtain⟨n,g,p,a⟩:=R.back R2 c;have t:=ahh R c R2.rb.sub p hw z;exact(show∀d H' F' J,_ from q) _ C n l ⟨a.rs.set t,a.fr,a.re⟩ g.f
   ·exact(show False from q).elim
  ·exact(show False from q).elim
 ·exact(show False from q).elim
end
variable{S:Type}
section
variable{M:Rsc S}{B:Bx}{s s':S}{l:List Addr}{σ:Ws}{σV:L2.St}{F H:Hp}
def RX.write(R:RX M B s l σ σV F H){x:Addr}(h:x∈l){o:HO}(q:M.rel B.K s' l F (upd H x o)):RX M B s' l σ σV F (upd H x o):=by
 have i:=R.there;have p:RS B σ σV F H:=R.rs.ajF (λy g=>(R.fr y g).2) i;have m:∀(k:Nat)(ws:List VW)(y:Addr),σ[k]?=some (.ow ws)->σV[k]?=some (some (.ref y))->y∉l:=λk ws y a f=>by obtain⟨b,_,e,_,j,_⟩:=R.rs.ow k ws a;rw[f]at e;cases e;exact my (B:=B) i j
 have nd:∀y∈l,∀(k:Nat)(c d:List VW),σ[k]?=some (.od c d)->σV[k]?≠some (some (.ref y)):=λy g k c d a f=>by obtain⟨b,_,e,_,j,_⟩:=R.rs.dd.od k c d a;rw[f]at e;cases e;exact my (B:=B) i j g
 have n:RS B σ σV F (upd H x o):=p.away o (R.fr x h).1 (R.fr x h).2 (λk ws a f=>m k ws x a f h) (λk c d a=>nd x h k c d a);exact⟨n.inS (λy g=>(R.fr y g).1) m nd,R.fr,q⟩
end
open Classical in noncomputable def hol(l:List Addr)(H:Hp):Hp:=λx=>if x∈l then none else H x
def aky{l:List Addr}{H:Hp}{x:Addr}(h:x∈l):hol l H x=none:=ao1 h
def jO{l:List Addr}{H:Hp}{x:Addr}(h:x∉l):hol l H x=H x:=ao2 h
def spM(M:Rsc S)(K:W.Frag)(n:Nat)(f:List VW->S->OX S):Sp:=λh H Q E=>∃F ws s l,ar F H/\RWs K F ws h/\ws.length=n/\M.rel K s l F H/\(∀x∈l,F x=none)/\match f ws s with|.rt w s'=>∀v d b e,ar F b->ar b d->ar (hol l H) d->(∀x∈e,b x=none/\hol l H x=none)->M.rel K s' e b d->(∀a o,b a=some o->F a=some o\/hol l H a=none/\NF o)->RW K b w v->Q v d|.nx _ s'=>∀d b e,ar F b->ar b d->ar (hol l H) d->(∀x∈e,b x=none/\hol l H x=none)->M.rel K s' e b d->(∀a o,b a=some o->F a=some o\/hol l H a=none/\NF o)->Q .non d|.ex c _=>∀C g d b,ar F b->ar b d->ar (hol l H) d->(∀a o,b a=some o->F a=some o\/hol l H a=none/\NF o)->XR K b c C g->E (.ref C) g d|_=>False
section
variable{P:Program}{w:World}{K:W.Frag}{mg:Str->Option Value}{base:Heap}{M:Rsc S}
def acn{x d:Str}{st:Stmt}{f:Addr}{fd:FuncData}{N ps:List Str}{k m n:Nat}{fn:List VW->S->OX S}(t:RF S)(Fn:Fun K x d st f fd)(Sc:FnScope N ps (af st))(hn:N.length=n)(p:ps.length=m)(Z:WL.runM n t=fn)(a6:ps.length<=N.length)(h:∀(i:Value)(A:Around)(b:List Env)(s:Shared)(H:Hp)(E:XK)(B:Bx),B.K=K->Room k (A.deeper (envOfC d (af st) s.heap.objs.size f i))->XW (ff (CXX P w) P w K mg base N d (af st) f i A b s H E) B->PassesOwn (model P w) (ff (CXX P w) P w K mg base N d (af st) f i A b s H E).A (ff (CXX P w) P w K mg base N d (af st) f i A b s H E).env (ff (CXX P w) P w K mg base N d (af st) f i A b s H E).xe->PSs (ff (CXX P w) P w K mg base N d (af st) f i A b s H E) (aH st) (loX M B t)):FnOk P w K mg base (CXX P w) (k+1) f fd ps (spM M K m fn):=by
 subst hn p Z;obtain⟨oc,od,kV,a4,pm,an,i,ct,a5,rfl,lk,a0⟩:=Fn.ex;refine u1 lk a0 Sc (λvs H Q E J=>by obtain⟨F,ws,_,_,_,r,hl,_⟩:=J;rw[<-r.length];exact hl) λA b s H vs Q E hr _ J=>?_;obtain⟨F,ws,th,l,sm,r,hl,re,hF,p⟩:=J;let B0:Bx:=⟨K,hol l H,F,λ_ _ _=>False,λ_ _ _ _ _ h=>h⟩;let R:Bx:=B0.nY (λc _ X=>∀C I g j,ar X j->RB B0 j g->XR K j c C I->E (.ref C) I g) λc σ X F2 s h C I g j U=>h C I g j (s.trans U);have e0:fzS (hol l H) H l=H:=by
  funext y;by_cases G:y∈l;·rw[dS G]
  ·rw[aT G,jO G]
 have R0:RX M R th l (ws.map .va++List.replicate (N.length-ws.length) .no) (L2.start N vs) F H:=⟨(RS.start (N:=N) sm r (by omega)).box (B':=iD R H l) rfl e0 rfl,λy G=>⟨hF y G,aky G⟩,re⟩;refine⟨_,h i A b s H E R rfl hr (λa3 a7 H1 s1 σ X c R1 xp e C I T fl t Y=>jN t (xp C I H1 X (ar.refl _) (R1.rb.box rfl rfl) Y)) aqO,_,F,th,l,R0,?_⟩;have bs:∀{j g:Hp}{u:List Addr},RB (iD R g u) j g->(∀y∈u,j y=none/\R.H0 y=none)->ar (hol l H) g/\∀a o,j a=some o->F a=some o\/hol l H a=none/\NF o:=λ{j g u}D fr=>⟨λy o q=>by
 have G:y∉u:=λz=>by rw[show hol l H y=none from(fr y z).2]at q;cases q
 exact D.base y o (by show fzS (hol l H) g u y=some o;rw[aT G];exact q),λy o q=>by
 rcases D.fr y o q with z|⟨z,nf⟩;·exact .inl z
 ·have G:y∉u:=λz2=>by rw[(fr y z2).1]at q;cases q
  have z:fzS (hol l H) g u y=none:=z;rw[aT G]at z;exact .inr ⟨z,nf⟩⟩;unfold WL.runM at p;cases e:t (ws.map .va++List.replicate (N.length-ws.length) .no) th with|rt w U=>rw[e]at p;exact λv g j u D fr a1 k r'=>p v g j u k D.sub (bs D fr).1 fr a1 (bs D fr).2 r'|nx σ' U=>rw[e]at p;exact λa2 g j u O k=>p g j u k O.rs.rb.sub (bs O.rs.rb O.fr).1 O.fr O.re (bs O.rs.rb O.fr).2|bk σ' U=>rw[e]at p;exact p.elim|ct σ' U=>rw[e]at p;exact p.elim|ex c σ'=>rw[e]at p;exact λC I g j k D Y=>p C I g j k D.sub D.base D.fr Y|bad=>rw[e]at p;exact p.elim
end
variable{S:Type}
section
variable{M:Rsc S}{B:Bx}{s s':S}{l l':List Addr}{σ:Ws}{σV:L2.St}{F H F' H':Hp}
def RX.out(R:RX M B s l σ σV F H)(k1:ar F F')(k2:ar F' H')(k3:ar (hol l H) H')(r:∀a o,F' a=some o->F a=some o\/hol l H a=none/\NF o):RS B σ σV F' H'/\∀a,hol l H a=none->B.H0 a=none:=by
 have k:=R.there;have c:RS B σ σV F H:=R.rs.ajF (λy N=>(R.fr y N).2) k;have t:∀a,hol l H a=none->B.H0 a=none:=λa z=>by
  by_cases m:a∈l;·exact(R.fr a m).2
  ·rw[jO m]at z;exact c.rb.base.free z
 have vT:∀{b:Addr}{o:HO},H b=some o->F b=none->b∉l->F' b=none/\H' b=some o:=λ{b o}p O n=>by refine⟨?_,k3 b o (by rw[jO n];exact p)⟩;cases e:F' b with|none=>rfl|some u=>
   rcases r b u e with z|⟨z,_⟩;·rw[O]at z;cases z
   ·rw[jO n,p]at z;cases z
 refine⟨⟨⟨k2,λx o q=>k3 x o ?_,c.rb.fz0.trans k1,λa o q=>?_⟩,c.len,λi w q=>?_,λi ws q=>?_,c.ap,c.dd.via rfl id (λ_ _ z=>.inl z) (λ_ _ _ q=>⟨q,rfl⟩) k1 λi P G b I D h U J K=>?_⟩,t⟩
 ·have Q:x∉l:=λz=>by rw[(R.fr x z).2]at q;cases q
  rw[jO Q];exact c.rb.base x o q
 ·rcases r a o q with z|⟨z,A⟩;·exact c.rb.fr a o z
  ·exact .inr ⟨t a z,A⟩
 ·obtain⟨v,f,g⟩:=c.va i w q;exact⟨v,f,g.keep k1⟩
 ·obtain⟨b,T,f,g,E,X,Y⟩:=c.ow i ws q;obtain⟨C,_,d,_,j,_⟩:=R.rs.ow i ws q;rw[f]at d;cases d;have:=vT X g (my (B:=B) k j);exact⟨b,T,f,this.1,E,this.2,Y.keep k1⟩
 ·obtain⟨C,_,d,_,j,_⟩:=R.rs.dd.od i P G D;have h:σV[i]?=some (some (.ref b)):=h;rw[h]at d;cases d;have:=vT U J (my (B:=B) k j);exact⟨this.1,K,this.2⟩
def RX.hand(R:RX M B s l σ σV F H)(k1:ar F F')(k2:ar F' H')(k3:ar (hol l H) H')(fr:∀x∈l',F' x=none/\hol l H x=none)(v:M.rel B.K s' l' F' H')(q:∀a o,F' a=some o->F a=some o\/hol l H a=none/\NF o):RX M B s' l' σ σV F' H':=by
 obtain⟨r,t⟩:=R.out k1 k2 k3 q;have j:=R.there;have k:∀{b:Addr}{o:HO},H b=some o->b∉l->b∉l':=λ{b o}n u z=>by have:=(fr b z).2;rw[jO u,n]at this;cases this
 refine⟨r.inS (λx c=>(fr x c).1) (λi ws x f h=>?_) (λx c i m p f h=>?_),λx c=>⟨(fr x c).1,t x (fr x c).2⟩,v⟩;·obtain⟨b,_,d,_,g,e,_⟩:=R.rs.ow i ws f;rw[h]at d;cases d;exact k e (my (B:=B) j g)
 ·obtain⟨b,_,d,_,g,e,_⟩:=R.rs.dd.od i m p f;rw[h]at d;cases d;exact k e (my (B:=B) j g) c
variable{X:Cx}{D:Ends}{j k n:Nat}{f C:Addr}{fd:FuncData}{ps:List Str}{fn:List VW->S->OX S}{tas:AF}{e o:Expr}{es:List Expr}{m:Str}{apos cpos pos:Pos}
def afV(i:B.K=X.K)(Z:XW X B)(cl:Cls X.K C)(hm:Meth X.K C m f)(G:FnOk X.prog X.w X.K X.mg X.base (CXX X.prog X.w) k f fd ps (spM M X.K n fn))(hr:Room k X.A)(hb:Binds X.K fd ps [])(A:∀s l F H,ar F H->M.rel X.K s l F H->∃dx fs,H (M.adr s)=some (.ins C dx fs)/\fs.lookup m=none)(ho:PE X o (fj j))(ha:∀B':Bx,B'.K=X.K->PA X (e::es) (loA B' tas))(hn:∀σ ws,tas σ=.ok ws->ws.length+1=n)(Q:∀t:TA,PA X (e::es) t->PE X (.Call (.Attribute o m apos) (e::es) [] cpos) (qz X C m (spM M X.K n fn) [] (fj j) t))(hs:swapsWith (.Call (.Attribute o m apos) (e::es) [] cpos) none pos.line X.env=pure false:=by rfl):PS X (.Expr (.Call (.Attribute o m apos) (e::es) [] cpos) pos) (loX M B (WL.gg M.adr j fn tas)):=by
 intro E sh σV H D I⟨σ,F,s,l,R,q⟩;refine eY (Q _ (ha (iD B H l) i)) hs E sh σV H D I ?_;unfold WL.gg at q;split at q
 ·rename_i b eb;split at q
  ·rename_i a0;subst a0;split at q
   ·rename_i ws ew;obtain⟨v,h1,P⟩:=R.rs.va j _ eb;have P:v=.ref (M.adr s):=by simpa only[RW]using P
    subst P;obtain⟨dx,fs,hi,hl⟩:=A s l F H R.rs.rb.sub (i▸R.re);refine⟨_,h1,M.adr s,dx,fs,rfl,hi,hl,σ,F,R.rs,?_⟩;rw[ew];intro vs H1 F1 R1 O r1;have d:RX M B s l σ σV F1 H1:=R.next R1 O.f;have a1:X.K=B.K:=i.symm;rw[apK];refine⟨λCv g H'=>∃z F' c a,Cv=.ref z/\RS B a σV F' H'/\B.xp c a F'/\XR X.K F' c z g,⟨F1,.id (M.adr s)::ws,s,l,R1.rb.sub,.cons (by simp only[RW]) (i▸r1),by rw[aph];exact hn σ ws ew,i▸d.re,λx Z=>(d.fr x Z).1,?_⟩,?_⟩;·cases u:fn (.id (M.adr s)::ws) s with|nx a s'=>rw[u]at q;exact λH' F' l' h y N fr U J=>(show∀K H' F' l',_ from q) σV H' F' l' (d.hand h y N fr (i▸U) J) (O.f.trans h)|rt w s'=>rw[u]at q;exact λv H' F' l' h y N fr U J r=>(show∀K H' F' l',_ from q) σV H' F' l' (d.hand h y N fr (i▸U) J) (O.f.trans h)|ex c a=>rw[u]at q;intro z g H' F' h y N J Y;have q:B.xp c σ F:=q;refine⟨z,F',c,σ,rfl,?_,B.mono c σ F F' (O.f.trans h) q,Y⟩;exact(d.out h y N J).1|bk a s'=>rw[u]at q;exact(show False from q).elim|ct a s'=>rw[u]at q;exact(show False from q).elim|bad=>rw[u]at q;exact(show False from q).elim
    ·rintro p s' e' C' g T H' t⟨z,F',c,a,ec,R',xp,Y⟩;cases ec;exact Z p σV H' s' a F' c R' xp e' C' g (some T) .none t Y
   ·exact(show False from q).elim
  ·exact(show False from q).elim
 ·exact(show False from q).elim
end
variable{S:Type}
section
variable{M:Rsc S}{B:Bx}{s:S}{l:List Addr}{σ:Ws}{σV:L2.St}{F H:Hp}{a:Addr}{kvs:List (Key×V)}{od:Obj}
theorem RX.fz(R:RX M B s l σ σV F H)(e:F a=some (.dK kvs)):RX M (B.fz a od kvs) s l σ σV (upd F a (zD od kvs)) (upd H a (zD od kvs)):=by
 have d:∀x∈l,x≠a:=λx b z=>by rw[z]at b;rw[(R.fr a b).1]at e;cases e
 have f:(iD B H l).fz a od kvs=iD (B.fz a od kvs) (upd H a (zD od kvs)) l:=by
  have:upd (fzS B.H0 H l) a (zD od kvs)=fzS (upd B.H0 a (zD od kvs)) (upd H a (zD od kvs)) l:=by
   funext x;by_cases b:x∈l;·rw[ag (d x b),dS b,dS b,ag (d x b)]
   ·rw[aT b];by_cases c:x=a;·subst c;rw[ao,ao]
    ·rw[ag c,ag c,aT b]
  simp only[iD,Bx.fz,this]
 refine⟨f▸R.rs.fz e,λx b=>⟨?_,?_⟩,M.fz R.re (λx b=>(R.fr x b).1) e⟩;·rw[ag (d x b)];exact(R.fr x b).1
 ·show upd B.H0 a (zD od kvs) x=none;rw[ag (d x b)];exact(R.fr x b).2
def afi(g:RB (iD (B.fz a od kvs) H l) F H)(fr:∀x∈l,F x=none/\(B.fz a od kvs).H0 x=none)(h:M.rel B.K s l F H)(w:Was B a kvs):F a=some (zD od kvs)/\H a=some (zD od kvs)/\iD (B.fz a od kvs) H l=(iD B (upd H a (.dK kvs)) l).fz a od kvs/\Was (iD B (upd H a (.dK kvs)) l) a kvs/\(∀x∈l,upd F a (.dK kvs) x=none/\B.H0 x=none)/\M.rel B.K s l (upd F a (.dK kvs)) (upd H a (.dK kvs)):=by
 have e:F a=some (zD od kvs):=g.fz0 a _ (by show upd B.F0 a (zD od kvs) a=_;rw[ao]);have d:∀x∈l,x≠a:=λx b z=>by rw[z]at b;rw[(fr a b).1]at e;cases e
 have f:a∉l:=λz=>d a z rfl;refine⟨e,g.sub a _ e,?_,⟨w.1.imp id λz=>⟨?_,z.2⟩,?_⟩,λx b=>⟨?_,?_⟩,M.th h (λx b=>(fr x b).1) e⟩
 ·have:fzS (upd B.H0 a (zD od kvs)) H l=upd (fzS B.H0 (upd H a (.dK kvs)) l) a (zD od kvs):=by
   funext x;by_cases b:x∈l;·rw[ag (d x b),dS b,dS b,ag (d x b)]
   ·rw[aT b];by_cases c:x=a;·subst c;rw[ao,ao]
    ·rw[ag c,ag c,aT b]
  simp only[iD,Bx.fz,this]
 ·show fzS B.H0 _ l a=none;rw[aT f];exact z.1
 ·show fzS B.H0 _ l a=none\/fzS B.H0 _ l a=_;rw[aT f];exact w.2
 ·rw[ag (d x b)];exact(fr x b).1
 ·have:=(fr x b).2;have this:upd B.H0 a (zD od kvs) x=none:=this;rwa[ag (d x b)]at this
theorem RX.th(R:RX M (B.fz a od kvs) s l σ σV F H)(w:Was B a kvs):F a=some (zD od kvs)/\H a=some (zD od kvs)/\RX M B s l σ σV (upd F a (.dK kvs)) (upd H a (.dK kvs)):=by obtain⟨d,e,g,c,fr,f⟩:=afi (B:=B) R.rs.rb R.fr R.re w;have b:=R.rs;rw[g]at b;exact⟨d,e,b.th c,fr,f⟩
theorem OqX.fz{D:Ends}(e:F a=some (.dK kvs))(w:Was B a kvs){o:OX S}(h:OqX M B D F o):OqX M (B.fz a od kvs) (ahB D a od kvs) (upd F a (zD od kvs)) o:=by
 have bk:∀{g},ar (upd F a (zD od kvs)) g->ar F (upd g a (.dK kvs)):=λs=>by have:=uh (o':=.dK kvs) s;rwa[n4 e]at this
 cases o with|nx σ s=>exact λσV H G l R z=>⟨(R.th w).2.1,h σV _ _ l (R.th w).2.2 (bk z)⟩|bk σ s=>exact λσV H G l R z=>⟨(R.th w).2.1,h σV _ _ l (R.th w).2.2 (bk z)⟩|ct σ s=>exact λσV H G l R z=>⟨(R.th w).2.1,h σV _ _ l (R.th w).2.2 (bk z)⟩|rt u s=>intro v H G l f fr n z r;obtain⟨j,m,k,i,b,d⟩:=afi (B:=B) f fr n w;rw[k]at f;exact⟨m,h v _ _ l (f.th i).2.2 b d (bk z) (r.th j)⟩|ex c σ=>show B.xp c σ (upd (upd F a (zD od kvs)) a (.dK kvs));rw[tW,n4 e];exact h|bad=>exact h
variable{X:Cx}{tg e:Expr}{body:List Stmt}{b:RF S}{i k:Nat}{pos:Pos}
def afX(hK:B.K=X.K)(hp:PassesOwn (model X.prog X.w) X.A X.env X.xe)(hc:X.calm=true)(hx:XW X B)(hl:PE X e (fj i))(hg:PG X tg (L2.aA k))(hb:∀u:Bx,u.K=X.K->XW X u->PSs X body (loX M u b))(hs:∀x,foldedSetIterable e X.env x=pure x:=by intro _;rfl):PS X (.For tg e body [] pos) (loX M B (WL.afZ i k b)):=by
 intro n Y σV H D I⟨σ,F,s,l,R,q⟩;have P:∀(u:Bx)(G:Ends)(n:List (Addr×Obj))(Y:Shared)(H' C:Hp)(g:List VW)(a:Addr)(od:Obj)(kvs:List (Key×V)),u.K=X.K->XW X u->Inv X n σV H' Y->RX M u s l σ σV C H'->σV[i]?=some (some (.ref a))->C a=some (zD od kvs)->RWs u.K C g (kvs.map λp=>kV p.1)->OqX M u G C (WL.hJ k b g σ s)->wpAny (model X.prog X.w) X.A (exec (.For tg e body [] pos) X.env) (SP X n G) X.xe Y:=by
  intro u G n Y H' C g a od kvs a2 a3 I' R' e2 e3 rk q';refine wq (wi:=λσV H R=>∃J,R J H/\J=Itd a od kvs/\σV[i]?=some (some (.ref a))/\H a=some (zD od kvs)) hp hc (PI.imp (uv hl) λσV H R a1=>by obtain⟨J,r,ej,e2,e3⟩:=a1;exact⟨.ref a,e2,a,od,kvs,rfl,e3,by rw[<-ej];exact r⟩) hg (hb u a2 a3) hs n Y σV H' G I' ?_;refine⟨_,?_,rfl,e2,R'.rs.rb.sub _ _ e3⟩;have wk:Walk u.K (Itd a od kvs) g C:=lC e3 rk;refine⟨λj m t H1=>m=g.length-j/\j<=g.length/\∃z K T l1,RX M u T l1 z t K H1/\ar C K/\OqX M u G K (WL.hJ k b (g.drop j) z T),⟨g.length,rfl,apH _,σ,C,s,l,R',ar.refl _,by rw[aqR];exact q'⟩,?_⟩;rintro j m t H1⟨rfl,hj,z,K,T,l1,R1,k1,y⟩;by_cases a0:j<g.length;·have hd:g.drop j=g[j]::g.drop (j+1):=apF a0;rw[hd]at y;obtain⟨go,yl⟩:=wk.go j g[j] (ao5 a0) K H1 k1 R1.rs.rb.sub;refine .inr ⟨go,λd H2=>∃O Z A l2,RX M u A l2 O d Z H2/\ar C Z/\OqX M u G Z (WL.hJ k b (g.drop (j+1)) O A),λd H2 h2=>⟨g.length-(j+1),by omega,rfl,a0,h2⟩,λv H2 hy=>?_⟩;obtain⟨Z,E2,r2⟩:=yl v H2 hy;have R2:RX M u T l1 z t Z H2:=R1.next (E2.rs _ _ _ R1.rs) E2.same;refine⟨z.set k (.va g[j]),Z,T,l1,⟨R2.rs.set r2,R2.fr,R2.re⟩,?_⟩;have y:OqX M u G K (match b (z.set k (.va g[j])) T with|.nx d A=>WL.hJ k b (g.drop (j+1)) d A|.ct d A=>WL.hJ k b (g.drop (j+1)) d A|.bk d A=>.nx d A|o=>o):=y;have U:ar K Z:=E2.same;cases N:b (z.set k (.va g[j])) T with|nx d A=>rw[N]at y;exact λE H4 F4 l4 R4 Q=>⟨d,F4,A,l4,R4,(k1.trans U).trans Q,OqX.mono (U.trans Q) y⟩|ct d A=>rw[N]at y;exact λE H4 F4 l4 R4 Q=>⟨d,F4,A,l4,R4,(k1.trans U).trans Q,OqX.mono (U.trans Q) y⟩|bk d A=>rw[N]at y;exact λE H4 F4 l4 R4 Q=>(show∀t H' C l',_ from y) E H4 F4 l4 R4 (U.trans Q)|rt w A=>rw[N]at y;exact OqX.mono (D:=G) U y|ex c d=>rw[N]at y;exact OqX.mono (D:=G) U y|bad=>rw[N]at y;exact y
  ·have ei:j=g.length:=by omega
   subst ei;rw[aqC]at y;exact .inl ⟨wk.stop K H1 k1 R1.rs.rb.sub,(show∀t H' C l',_ from y) t H1 K l1 R1 (ar.refl _)⟩
 unfold WL.afZ at q;split at q
 ·rename_i g us N;obtain⟨v,e2,r2⟩:=R.rs.va i _ N;simp only[RW]at r2;obtain⟨a,kvs,rfl,rd,rk,ru⟩:=r2;rcases rd with rd|⟨od,rd⟩;·obtain⟨od,I',hn⟩:=I.ahs (R.rs.rb.sub _ _ rd);have R0:RB B F H:=(R.rs.ajF (λx hx=>(R.fr x hx).2) R.there).rb;have w:=R0.was rd;exact thn (P (B.fz a od kvs) (ahB D a od kvs) n Y _ _ g a od kvs hK (hx.fz w hn) I' (R.fz rd) e2 ao (rk.fz rd) (q.fz rd w)) λf s h=>agt hn f s h
  ·exact P B D n Y H F g a od kvs hK hx I R e2 rd rk q
 ·exact(show False from q).elim
end
end WS
namespace WL
open PySem
structure Sr where
 a:Nat
 d:Nat
 goal:W
 most:W
 rows:List W
 seen:List (List (List Int))
noncomputable def abN:List W->Option (List Int)|[]=>some []|.int i::ws=>(abN ws).map (i::·)|_=>none
noncomputable def aia:List W->Option (List (List Int))|[]=>some []|.tup ws::r=>(abN ws).bind λx=>(aia r).map (x::·)|_=>none
def kyW:W->Option (List (List Int))|.tup ws=>aia ws|_=>none
def Sr.val(s:Sr):W:=.ins "Search" [s.goal,s.most,.lst s.rows,.id s.d]
def at_(j:Nat)(σ:Ws)(s:Sr)(o:OX Sr):OX Sr:=match(σ[j]?:Option Sl)with|some (.va (.id b))=>if b=s.a then o else .bad|_=>.bad
def xIn(i:Nat)(σ:Ws)(s:Sr):Res Bool:=match(σ[0]?:Option Sl)with|some (.va (.id b))=>if b=s.a then(match(σ[i]?:Option Sl)with|some (.va w)=>(match kyW w with|some k=>.ok (decide (k∈s.seen))|none=>.bad)|_=>.bad)else .bad|_=>.bad
def xU(i:Nat):RF Sr:=λa s=>at_ 0 a s (match(a[i]?:Option Sl)with|some (.va w)=>(match kyW w with|some k=>if k∉s.seen/\s.seen.length<lim then .nx a {s with seen:=s.seen++[k]}else .bad|none=>.bad)|_=>.bad)
def af0(e:EF):RF Sr:=λa s=>at_ 0 a s (match e a with|.ok w=>if s.rows.length<lim then .nx a {s with rows:=s.rows++[w]}else .bad|_=>.bad)
noncomputable def akH(c:String)(n:Nat):W->Res W|.ins c' ws=>if c'==c then(match ws[n]? with|some w=>.ok w|none=>.bad)else .bad|_=>.bad
def iA(c:String)(n:Nat)(e:EF):EF:=λa=>(e a).bind (akH c n)
noncomputable def isN(c:String):W->Bool|.ins c' _=>c'==c|_=>false
def ia(c:String)(d:List W->Res W)(o:EF)(a:AF):EF:=λb=>(o b).bind λy=>if isN c y=true then(a b).bind λws=>d (y::ws)else .bad
def alR(j:Nat):RF Sr:=λa s=>at_ j a s (.rt (.lst s.rows) s)
def Comes(t:RF Sr)(σ:Ws)(j:Nat)(wg wm:W)(o:Res W):Prop:=∀a d:Nat,(match t (σ.set j (.va (.id a))) ⟨a,d,wg,wm,[],[]⟩with|.rt w _=>o=.ok w|.ex c σ'=>o=.ex c/\σ'.length=σ.length|_=>False)
noncomputable def iT(j:Nat)(as:AF)(t:RF Sr):SF:=λa=>match as a with|.ok [wg,wm]=>@dite _ (∃o:Res W,Comes t a j wg wm o) (Classical.propDecidable _) (λh=>match Classical.choose h with|.ok w=>.rt w|.ex c=>.ex c (List.replicate a.length .no)|.bad=>.bad) (λ_=>.bad)|_=>.bad
noncomputable def agD(i:Nat)(t:SF):SF:=λa=>match(a[i]?:Option Sl)with|some (.od ks us)=>t (a.set i (.va (.dic ks us)))|_=>.bad
end WL
set_option autoImplicit true
set_option relaxedAutoImplicit true
namespace K2
open PySem
section
variable{prog:Program}{w:World}{K:Type}[DecidableEq K](I:HeapKind prog w K)
def Its(h:Heap):List K->List Value->Prop|[],vs=>vs=[]|k::ks,vs=>∃b a,vs=.ref b::a/\I.is h k b/\Its h ks a
def Is(h:Heap)(ks:List K)(a:Addr):Prop:=∃o b n,h.get? a=some o/\o.cls=.type "tuple"/\o.data=.seq b n/\Its I h ks b.toList
noncomputable def ahp(ks:List K):Int:=reduceHash (Builtin.Tuple.tupleHashOf (ks.map I.hash))
noncomputable def acg(ks:List K):Nat:=(ks.map I.draws).sum+1
variable{I}
theorem Its.same{h:Heap}:∀{x y:List K}{vs:List Value},Its I h x vs->Its I h y vs->x=y
|[],y,vs,c,a=>by cases(show vs=[]from c);cases y with|nil=>rfl|cons=>obtain⟨_,_,e,_⟩:=a;cases e
|_::_,y,vs,c,a=>by obtain⟨b,d,rfl,i,c⟩:=c;cases y with|nil=>cases a|cons=>obtain⟨_,_,e,j,a⟩:=a;cases e;rw[I.inj i j,Its.same c a]
theorem Its.move{h h':Heap}{d:Addr}{o:Obj}{es ep}(c:h.get? d=some o)(e:o.data=.dict es ep)(a:Heap.SameBut d h h'):∀{x:List K}{vs:List Value},Its I h x vs->Its I h' x vs|[],_,q=>q|_::_,_,q=>by obtain⟨b,f,rfl,i,q⟩:=q;exact⟨b,f,rfl,I.keeps i c e a,q.move c e a⟩
def Is.ty{s:Shared}{ks:List K}{a:Addr}(x:Is I s.heap ks a):s.TypeIs (.ref a) "tuple":=let⟨o,_,_,b,c,_⟩:=x;⟨o,b,c⟩
theorem Is.same{h:Heap}{a:Addr}{x y:List K}(e:Is I h x a)(k:Is I h y a):x=y:=by obtain⟨o,i,n,g,_,d,f⟩:=e;obtain⟨p,l,m,c,_,b,j⟩:=k;rw[g]at c;cases c;rw[d]at b;cases b;exact f.same j
variable{A:Around}{E:Value->Shared->Prop}{s:Shared}
def akA{ks:List K}{a:Addr}{Q:Int->Shared->Prop}(t:A.units<cLine)(r:I.room A.in1)(x:Is I s.heap ks a)(h:Q (ahp I ks) {s with toks:=s.toks+acg I ks}):wpAny (model prog w) A (PySem.pyHash (.ref a)) Q E s:=by
 have ty:=x.ty;obtain⟨o,m,n,q,_,u,z⟩:=x;unfold PySem.pyHash;first|unfold pyHashByItsType|skip
 first|refine aoY (wpAny_cRoomFor_or (.inr t) ?_)|skip
 refine aoY (aqF ty ark.lookup ?_);rw[ao2 (by rw[beq_builtin_none];exact ao7)];refine aoY (aqF ty ark.lookup ?_);refine aoY (aqT ty ark (apV ark ty F.entry_tuple_hash ?_ (F.args_tuple_hash_1 _)));show wpAny _ _ (Builtin.Tuple.tupleItemsOf (.ref a)>>=_) _ _ s;refine aoY (arT q u (aoY ?_));rw[<-arU];refine aqV _ (λrest(b:Array Int)l=>∃d f,ks=d++f/\Its I s.heap f rest/\b.toList=d.map I.hash/\l={s with toks:=s.toks+(d.map I.draws).sum}) _ ?_ ?_ _ _ ⟨[],ks,rfl,z,rfl,rfl⟩;·rintro v rest b l⟨d,f,rfl,g,p,rfl⟩;cases f with|nil=>cases g|cons k f=>
   obtain⟨c,_,e,y,g⟩:=g;cases e;refine aoY (I.pyHash r y ?_);have i:(b.push (I.hash k)).toList=(d++[k]).map I.hash:=by simp[p]
   have j:({s with toks:=s.toks+(d.map I.draws).sum+I.draws k}:Shared)={s with toks:=s.toks+((d++[k]).map I.draws).sum}:=by simp[Nat.add_assoc]
   first|exact ao4 ⟨d++[k],f,by simp,g,i,j⟩|exact aoY (ao4 (ao4 ⟨d++[k],f,by simp,g,i,j⟩))
 ·rintro b l⟨d,f,rfl,g,p,rfl⟩;cases f with|cons _ _=>obtain⟨_,_,e,_⟩:=g;cases e|nil=>
   rw[apK]at h;show wpAny _ _ (retInt (Builtin.Tuple.tupleHashOf b.toList)) _ _ _;rw[p];have j:({s with toks:=s.toks+acg I d}:Shared)={s with toks:=s.toks+(d.map I.draws).sum+1}:=rfl;rw[j]at h;refine wpAny_ret_mkInt ?_;unfold ahp reduceHash at h;show wpAny _ _ (if(decide (-(2:Int)^63<=Builtin.Tuple.tupleHashOf (d.map I.hash))&&decide (Builtin.Tuple.tupleHashOf (d.map I.hash)<2^63))=true then _ else _) Q E _;split at h;·rename_i c;rw[ao1 c];exact ao4 h
   ·rename_i c;rw[ao2 c];exact aoY (asa (ao4 h))
def ahA{x y:List K}{a b:Addr}{P:Fin->Shared->Prop}(Q:I.room A)(R:Is I s.heap x a)(N:Is I s.heap y b)(h:P (.done (.ret (.bool (decide (x=y))))) s):wpAny (model prog w) A (Builtin.«tuple.__eq__» ⟨[.ref a,.ref b],[]⟩) P E s:=by
 have O:=N.ty;obtain⟨oa,z,Z,B,_,M,H⟩:=R;obtain⟨ob,t,U,J,_,G,C⟩:=N;show wpAny _ _ (isInstance (.ref b) (.type "tuple")>>=_) _ _ s;refine aoY (ars O arx ?_);simp only[aqX,apE,apN];refine aoY (arT B M (aoY (arT J G (aoY ?_))));refine aqV _ (λrest r q=>r.1=none/\q=s/\∃k j l m,rest=List.zip l m/\Its I s.heap k l/\Its I s.heap j m/\decide (k=j)=decide (x=y)/\(l.length==m.length)=(z.size==t.size)) _ ?_ ?_ _ _ ⟨rfl,rfl,x,y,z.toList,t.toList,rfl,H,C,rfl,by simp⟩;·rintro⟨u,v⟩rest r q⟨n,rfl,k,j,l,m,o,f,e,g,i⟩;cases k with|nil=>cases f;simp at o|cons k1 k=>obtain⟨c,l,rfl,S,f⟩:=f;cases j with|nil=>cases e;simp at o|cons k2 j=>
    obtain⟨d,m,rfl,T,e⟩:=e;simp only[aq6,arE,Prod.mk.injEq]at o;obtain⟨⟨rfl,rfl⟩,rfl⟩:=o;refine aoY (I.eqBool Q S T ?_);by_cases D:k1=k2;·subst D;rw[apO rfl];simp only[aqX,apE,apN];refine ao4 ⟨rfl,rfl,k,j,l,m,rfl,f,e,?_,by simpa using i⟩;rw[<-g];simp
    ·rw[api D];simp only[Bool.not_false,apU];rw[show decide (x=y)=false by rw[<-g];simp[D]]at h;exact aoY (ao4 (ao4 (ao4 h)))
 ·rintro⟨Y,X⟩q⟨n,rfl,k,j,l,m,o,f,e,g,i⟩;simp only at n;subst n;have p:(z.size==t.size)=decide (x=y):=by rw[<-g,<-i];cases k with
 |nil=>cases f;cases j with|nil=>cases e;rfl|cons=>obtain⟨_,_,rfl,_⟩:=e;simp
 |cons=>obtain⟨_,_,rfl,_⟩:=f;cases j with|nil=>cases e;simp|cons=>obtain⟨_,_,rfl,_⟩:=e;cases o
  refine ao4 ?_;show P (.done (.ret (.bool (z.size==t.size)))) q;rw[p];exact h
def aoN{x y:List K}{a b:Addr}{Q:Bool->Shared->Prop}(i:A.units<cLine)(g:I.room A.in1)(d:Is I s.heap x a)(f:Is I s.heap y b)(h:Q (decide (x=y)) s):wpAny (model prog w) A (PySem.eqBool (.ref a) (.ref b)) Q E s:=by
 unfold PySem.eqBool;try with_reducible refine aqt ?_
 by_cases c:(Value.ref a==Value.ref b)=true
 ·show wpAny _ _ (if(Value.ref a==Value.ref b)=true then _ else _) Q E s;rw[ao1 c];have e:a=b:=by have:=eq_of_beq c;injection this
  subst e;obtain rfl:=d.same f;exact aoY (asa (ao4 (by simpa using h)))
 ·show wpAny _ _ (if(Value.ref a==Value.ref b)=true then _ else _) Q E s;rw[ao2 c];exact aoY (wpAny_richCompare_same_room d.ty f.ty arK (apV arK d.ty F.entry_tuple_eq (ahA g d f ⟨_,rfl,(λe=>nomatch e),apP h⟩) (F.args_tuple_eq_2 _ _)) i)
def agJ{ks:List K}{a:Addr}{Q:Bool->Shared->Prop}(j:∀{k:K}{c:Addr}{P:Bool->Shared->Prop},I.is s.heap k c->P true s->wpAny (model prog w) A (eqIsQuiet 7 (.ref c)) P E s)(x:Is I s.heap ks a)(h:Q true s):wpAny (model prog w) A (eqIsQuiet 8 (.ref a)) Q E s:=by
 have ty:=x.ty;obtain⟨o,i,n,l,_,m,q⟩:=x;unfold eqIsQuiet;refine aoY (aqF ty arK.lookup ?_);refine aoY (ars ty arx ?_);simp only[aqX,apE,apN];refine aoY (aqx l m (aoY ?_));rw[<-arU];refine aqV _ (λrest r g=>r.1=none/\g=s/\∃b,Its I s.heap b rest) _ ?_ ?_ _ _ ⟨rfl,rfl,ks,q⟩;·rintro v rest r g⟨d,rfl,b,f⟩;cases b with|nil=>cases f|cons k b=>obtain⟨c,_,e,p,f⟩:=f;cases e;refine aoY (j p ?_);simp only[aqX,apE,apN];exact ao4 ⟨rfl,rfl,b,f⟩
 ·rintro⟨t,u⟩g⟨d,rfl,_⟩;simp only at d;subst d;exact ao4 h
theorem Is.move{h h':Heap}{ks:List K}{a d:Addr}{o:Obj}{es ep}(x:Is I h ks a)(g:h.get? d=some o)(i:o.data=.dict es ep)(f:Heap.SameBut d h h'):Is I h' ks a:=by
 obtain⟨m,b,n,e,j,c,k⟩:=x;have l:a≠d:=λz=>by subst z;rw[g]at e;cases e;rw[i]at c;cases c
 exact⟨m,b,n,(f.2 a l).trans e,j,c,k.move g i f⟩
def ajf{ks:List Int}{a:Addr}{Q:Bool->Shared->Prop}(x:IsTupleKey (intKind prog w) s.heap ks a)(h:Q true s):wpAny (model prog w) A (eqIsQuiet 7 (.ref a)) Q E s:=by
 have ty:=x.typeIs;obtain⟨o,d,n,f,_,i,j⟩:=x;unfold eqIsQuiet;refine aoY (aqF ty arK.lookup ?_);refine aoY (ars ty arx ?_);simp only[aqX,apE,apN];refine aoY (aqx f i (aoY ?_));rw[<-arU];refine aqV _ (λrest r c=>r.1=none/\c=s/\∀v∈rest,carriedByValue v=true) _ ?_ ?_ _ _ ⟨rfl,rfl,j.byValue⟩;·rintro v rest r c⟨b,rfl,e⟩;rw[eqIsQuiet_byValue _ (e v (by simp))];refine aoY (ao4 ?_);simp only[aqX,apE,apN];exact ao4 ⟨rfl,rfl,λu g=>e u (by simp[g])⟩
 ·rintro⟨k,l⟩c⟨b,rfl,_⟩;simp only at b;subst b;exact ao4 h
end
def cI(prog:Program)(w:World):HeapKind prog w (List (List Int))where is:=Is (tupleKind (intKind prog w));hash:=ahp (tupleKind (intKind prog w));draws:=acg (tupleKind (intKind prog w));room:=λA=>A.units<cLine/\A.in1.units<cLine;inj:=λx y=>x.same y;keeps:=λx ho hd hs=>x.move ho hd hs;pyHash:=λhu x h=>akA hu.1 hu.2 x h;eqBool:=λhu x y h=>aoN hu.1 hu.2 x y h;quiet:=λx h=>agJ (λq p=>ajf q p) x h
end K2
set_option autoImplicit true
set_option relaxedAutoImplicit true
namespace L2
open PySem PySem.Spec PyProof.Rows
abbrev xR:=List (List Int)
def fde(P:Program)(w:World)(x:xR×Addr):DictEntry:=entryOfKey (K2.cI P w) (x.1,x.2,Value.bool true)
def FD(P:Program)(w:World)(d:Addr)(xs:List (xR×Addr)):HO:=.ext λh=>xs.length<=sizeLine/\(d==sysModules)=false/\(xs.map (·.1)).Nodup/\∃o a b,h.get? d=some o/\o.ExactDict/\o.data=.dict a b/\a.toList=xs.map (fde P w)
def FD.ok   (g:xs.length<=sizeLine)(i:(d==sysModules)=false)(l:(xs.map (·.1)).Nodup)(f:∃o a b,h.get? d=some o/\o.ExactDict/\o.data=.dict a b/\a.toList=xs.map (fde P w)):bO P w H h d (FD P w d xs):=⟨⟨g,i,l,f⟩,let⟨o,_,_,e,_⟩:=f;⟨o,e⟩,λq p c k=>by obtain⟨j,m,n,o,a,b,e,r⟩:=c;exact⟨j,m,n,o,a,b,k o e,r⟩⟩
def FD.of   (ok:HOk P w H h)(e:H d=some (FD P w d xs))(j:∀x∈xs,(K2.cI P w).is h x.1 x.2):xs.length<=sizeLine/\(d==sysModules)=false/\h.DictOfH (K2.cI P w) d (xs.map λx=>(x.1,x.2,Value.bool true)):=by
 obtain⟨⟨i,a,g,o,l,m,n,c,k,b⟩,_⟩:=(ok d _ e);refine⟨i,a,o,l,m,n,c,k,?_,λx f=>?_,?_⟩;·rw[b,aqo];rfl
 ·obtain⟨y,p,rfl⟩:=apv.mp f;exact j y p
 ·rw[aqo];exact g
def akJ{xs:List (xR×Addr)}{k:xR}:(atKey (xs.map λx=>(x.1,x.2,Value.bool true)) k).isSome=decide (k∈xs.map (·.1)):=by induction xs with|nil=>rfl|cons x xs ih=>
 unfold atKey at ih⊢;rw[ao9,ap6];by_cases h:x.1=k;·subst h;simp
 ·have a:k≠x.1:=λz=>h z.symm;simp only[h,decide_false,ao9,apl,a,false_or];rw[ih]
def FKy(K:W.Frag)(H:Hp)(k:xR)(a:Addr):Prop:=∃bs:List Addr,SqT K H a (bs.map V.ref)/\Paired (λ(x:List Int)(b:Addr)=>SqT K H b (x.map V.int)) k bs
section
variable{X:Cx}{pins:List (Addr×Obj)}{σ:St}{H:Hp}{s:Shared}{d a:Addr}{k:xR}{xs:List (xR×Addr)}{A:Around}{E:Value->Shared->Prop}
def ab2(b:A.units+2<cLine):(K2.cI X.prog X.w).room A.in1:=by
 refine⟨?_,?_⟩;·show A.in1.units<cLine;show A.units+1<cLine;omega
 ·show A.units+1+1<cLine;omega
def anf{Q:Value->Shared->Prop}(g:A.units+2<cLine)(I:Inv X pins σ H s)(e:H d=some (FD X.prog X.w d xs))(c:(K2.cI X.prog X.w).is s.heap k a)(f:∀x∈xs,(K2.cI X.prog X.w).is s.heap x.1 x.2)(h:∀b,Inv X pins σ H b->Q (.bool (decide (k∈xs.map (·.1)))) b):wpAny (model X.prog X.w) A (compareOp .In (.ref a) (.ref d)) Q E s:=by obtain⟨_,i,dd⟩:=FD.of I.hok e f;refine wpAny_in_heap (ab2 g) c i dd ?_;rw[akJ];exact h _ (I.tok _)
def akI{Q:Unit->Shared->Prop}(p:A.units+2<cLine)(I:Inv X pins σ H s)(e:H d=some (FD X.prog X.w d xs))(u:(K2.cI X.prog X.w).is s.heap k a)(n:∀x∈xs,(K2.cI X.prog X.w).is s.heap x.1 x.2)(o:k∉xs.map (·.1))(hz:xs.length<sizeLine)(h:∀f,Inv X pins σ (upd H d (FD X.prog X.w d (xs++[(k,a)]))) f->Q () f):wpAny (model X.prog X.w) A (setItem (.ref d) (.ref a) (.bool true)) Q E s:=by
 obtain⟨_,t,dd⟩:=FD.of I.hok e n;have b:atKey (xs.map λx=>(x.1,x.2,Value.bool true)) k=none:=by have:=akJ (xs:=xs) (k:=k);rw[api o]at this;cases q:atKey (xs.map λx=>(x.1,x.2,Value.bool true)) k with|none=>rfl|some _=>rw[q]at this;cases this
 refine wpAny_setItem_heap (ab2 p) u dd λy c l=>h _ ?_;obtain⟨q,v,w,g,m,r,i,_,j⟩:=c;rw[storedH_new b]at i j;refine qg I (by rw[e];exact True.intro) l ⟨q,g⟩ (FD.ok (by rw[apD];exact hz) t ?_ ⟨q,v,w,g,m,r,?_⟩);·simpa[aqJ,Function.comp_def]using j
 ·rw[i];simp[fde,Function.comp_def]
def xx(I:Inv X pins σ H s)(f:FKy X.K H k a):(K2.cI X.prog X.w).is s.heap k a:=by
 obtain⟨bs,h,r⟩:=f;obtain⟨e,B,⟨o,w,m,n,v⟩,_⟩:=I.tuple h;refine⟨o,e.toArray,n,w,m,v,?_⟩;have l:∀(x:List Int)(c:List Value),Vals (x.map V.int) c->ItemsAre (intKind X.prog X.w) x c:=by intro x;induction x with|nil=>intro c q;cases q;exact .nil|cons i x ih=>intro c q;cases q with|cons q1 q2=>obtain⟨t,rfl⟩:=(q1);refine .cons ?_ (ih _ q2);simp[intKind,Value.isInt]
 have:∀(k:xR)(bs:List Addr)(c:List Value),Paired (λ(x:List Int)(b:Addr)=>SqT X.K H b (x.map V.int)) k bs->Vals (bs.map V.ref) c->K2.Its (tupleKind (intKind X.prog X.w)) s.heap k c:=by intro k bs c r;induction r generalizing c with|nil=>intro q;cases q;rfl|@cons x b k bs h t ih=>intro q;cases q with|cons q1 q2=>cases(q1);obtain⟨g,j,⟨z,C,p,u,y⟩,_⟩:=I.tuple h;exact⟨_,_,rfl,⟨z,g.toArray,u,C,p,y,by simpa using l _ _ j⟩,ih _ q2⟩
 simpa using this k bs e r B
end
section
variable{X:Cx}{o i value:Expr}{td ty tv:TE}{pos pos':Pos}
def aja(td ty:TE)(P:Program)(w:World)(K:W.Frag):TS:=λD e H=>td e H λx f=>ty e f λy c=>∃d a b k,x=.ref d/\y=.ref a/\c d=some (FD P w d b)/\FKy K c k a/\(∀x∈b,FKy K c x.1 x.2)/\k∉b.map (·.1)/\b.length<sizeLine/\D.nx e (upd c d (FD P w d (b++[(k,a)])))
def agP(O:X.A.units+2<cLine)(p:PE X o td)(B:PE X i ty)(w:PE X value (tC (.bl true)))(m:swapsWith value (some (.Subscript o i pos')) pos.line X.env=pure false:=by rfl):PS X (.Assign [.Subscript o i pos'] value pos) (aja td ty X.prog X.w X.K):=by intro b s c H D I h;refine wpAny_Assign_Subscript (thn (w b s c H _ I (show tC (.bl true) c H (λv l=>v=.bl true/\l=H)from⟨rfl,rfl⟩)) λr U⟨v,l,A,C,Q⟩=>?_) m;obtain⟨rfl,rfl⟩:=Q;refine thn (p b U c _ _ A h) λu T⟨x,S,t,n,E⟩=>thn (B b T c S _ t E) λR s3 f=>?_;obtain⟨y,Y,j,N,d,a,Z,k,ex,z,e,q,K,M,P,G⟩:=f;subst ex z;obtain rfl:u=Value.ref d:=n;obtain rfl:R=Value.ref a:=N;obtain rfl:r=Value.bool true:=C;exact akI O j e (xx j q) (λx g=>xx j (K x g)) M P λs4 J=>⟨c,_,J,G⟩
def ajM(l:X.A.units+2<cLine):OpR X (compareOp .In) (λx y H Q=>∃d a b k,x=.ref a/\y=.ref d/\H d=some (FD X.prog X.w d b)/\FKy X.K H k a/\(∀x∈b,FKy X.K H x.1 x.2)/\Q (.bl (decide (k∈b.map (·.1)))) H):=by intro f s t H x y v u Q I g j⟨d,a,b,k,ex,n,e,m,h,q⟩;subst ex n;obtain rfl:v=Value.ref a:=g;obtain rfl:u=Value.ref d:=j;exact anf l I e (xx I m) (λx c=>xx I (h x c)) λr p=>⟨.bl (decide (k∈b.map λx:xR×Addr=>x.1)),H,p,rfl,q⟩
end
def ae6(P:Program)(w:World):TE:=λ_ H Q=>∀p,H p=none->Q (.ref p) (upd H p (FD P w p []))
def adW :PE X (.Dict [] [] pos) (ae6 X.prog X.w):=λa s b H Q I h=>wpAny_Dict_empty ⟨.ref s.heap.objs.size,_,I.laid (o:=FD X.prog X.w s.heap.objs.size []) (λ_ _ q=>aoZ _ q) (ao6 _) (FD.ok (apH _) (apA.mpr (ape (apm I.big))) List.nodup_nil ⟨_,#[],0,apd _ rfl,⟨rfl,rfl,rfl⟩,rfl,rfl⟩),rfl,h _ (I.hok.fresh (ao6 _))⟩
end L2
set_option autoImplicit true
set_option relaxedAutoImplicit true
namespace L2
open PySem PySem.Spec PyProof.Rows WS
section
variable{K:W.Frag}{F F' H:Hp}
def FKy.via{k:xR}{a:Addr}(h:FKy K F k a)(s:∀b c,SqT K F b c->SqT K F' b c):FKy K F' k a:=by obtain⟨bs,d,e⟩:=h;exact⟨bs,s _ _ d,Paired.alv e λ_ _ z=>s _ _ z⟩
def FKy.keep{k:xR}{a:Addr}(h:FKy K F k a)(s:ar F F'):FKy K F' k a:=h.via λ_ _ z=>s.tup z
end
end L2
namespace WS
open PySem PySem.Spec PyProof.Rows L2
open WL(Res Sl Ws EF TF AF LF GF GsF SF Out OX RF Sr)
section
variable{K:W.Frag}{F F' H:Hp}
theorem abL:∀{ws:List VW}{x:List Int}{vs:List V},WL.abN ws=some x->RWs K F ws vs->vs=x.map V.int|[],_,_,e,r=>by cases e;simp only[RWs]at r;rw[r];rfl|.int i::ws,_,_,e,r=>by simp only[WL.abN,apy]at e;obtain⟨y,e,rfl⟩:=e;simp only[RWs,RW]at r;obtain⟨_,a,rfl,rfl,h⟩:=r;rw[ao9,abL e h]|.non::_,_,_,e,_|.bl _::_,_,_,e,_|.str _::_,_,_,e,_|.ty _::_,_,_,e,_|.tup _::_,_,_,e,_|.lst _::_,_,_,e,_|.dic _ _::_,_,_,e,_|.cls _::_,_,_,e,_|.exc _ _::_,_,_,e,_|.ins _ _::_,_,_,e,_|.id _::_,_,_,e,_=>by cases e
theorem abB:∀{ws:List VW}{x:xR}{vs:List V},WL.aia ws=some x->RWs K F ws vs->∃bs:List Addr,vs=bs.map V.ref/\Paired (λ(x:List Int)(b:Addr)=>SqT K F b (x.map V.int)) x bs|[],_,_,e,r=>by cases e;simp only[RWs]at r;exact⟨[],r,.nil⟩|.tup us::ws,_,_,e,r=>by simp only[WL.aia,Option.bind_eq_some_iff,apy]at e;obtain⟨y,f,z,g,rfl⟩:=e;simp only[RWs,RW]at r;obtain⟨_,i,rfl,⟨a,vs,rfl,d,c⟩,h⟩:=r;obtain⟨bs,rfl,p⟩:=abB g h;refine⟨a::bs,rfl,.cons ?_ p⟩;rw[<-abL f c];exact d|.int _::_,_,_,e,_|.non::_,_,_,e,_|.bl _::_,_,_,e,_|.str _::_,_,_,e,_|.ty _::_,_,_,e,_|.lst _::_,_,_,e,_|.dic _ _::_,_,_,e,_|.cls _::_,_,_,e,_|.exc _ _::_,_,_,e,_|.ins _ _::_,_,_,e,_|.id _::_,_,_,e,_=>by cases e
def afz{w:VW}{k:xR}{v:V}(e:WL.kyW w=some k)(r:RW K F w v):∃a,v=.ref a/\FKy K F k a:=by
 unfold WL.kyW at e;split at e;·simp only[RW]at r;obtain⟨a,d,rfl,b,c⟩:=r;obtain⟨bs,rfl,p⟩:=abB e c;exact⟨a,rfl,bs,b,p⟩
 ·cases e
end
noncomputable abbrev sfs(g m:V)(r d:Addr):List (Str×V):=[("goal",g),("most",m),("rows",.ref r),("seen",.ref d)]
def vW{g m:V}{r d:Addr}:(sfs g m r d).lookup ("seen":Str)=some (V.ref d):=rfl
def vX :(sfs g m r d).lookup ("rows":Str)=some (V.ref r):=rfl
structure SRel(P:Program)(w:World)(K:W.Frag)(s:Sr)(F H:Hp)(C dx r:Addr)(g m:V)(vs:List V)(xs:List (xR×Addr)):Prop where
 ns:W.nsIn K mainGlobals (Str.ofString "Search")=some (some (.ref C))at_:F s.a=some (.ins C dx (sfs g m r s.d))go:RW K F s.goal g
 mo:RW K F s.most m
 ro:H r=some (.lst vs)rs:RWs K F s.rows vs
 se:H s.d=some (FD P w s.d xs)ks:xs.map (·.1)=s.seen
 ky:∀x∈xs,FKy K F x.1 x.2
def anQ(P:Program)(w:World)(K:W.Frag)(s:Sr)(l:List Addr)(F H:Hp):Prop:=∃C a r g m c b,l=[r,s.d]/\SRel P w K s F H C a r g m c b
def srM(P:Program)(w:World):Rsc Sr where
 adr:=Sr.a;rel:=anQ P w;val:=Sr.val;mono:=λh0_ k h=>by obtain⟨C,dx,r,g,m,vs,xs,el,R⟩:=h0_;subst el;exact⟨C,dx,r,g,m,vs,xs,rfl,R.ns,k _ _ R.at_,R.go.keep k,R.mo.keep k,h r (by simp) _ R.ro,R.rs.keep k,h _ (by simp) _ R.se,R.ks,λx hx=>(R.ky x hx).keep k⟩
 there:=λh0_ x hx=>by
  obtain⟨C,dx,r,g,m,vs,xs,el,R⟩:=h0_;subst el;simp only[apl,aqk,or_false]at hx;rcases hx with rfl|rfl;·exact⟨_,R.ro,trivial,λ_ z=>nomatch z⟩
  ·exact⟨_,R.se,trivial,λ_ z=>nomatch z⟩
 fz:=λ{K s l F H a od kvs}h0_ hF e=>by
  obtain⟨C,dx,r,g,m,vs,xs,el,R⟩:=h0_;subst el;have n1:r≠a:=λz=>by have:=hF r (by simp);rw[z,e]at this;cases this
  have n2:s.d≠a:=λz=>by have:=hF s.d (by simp);rw[z,e]at this;cases this
  have n3:s.a≠a:=λz=>by have:=R.at_;rw[z,e]at this;cases this
  exact⟨C,dx,r,g,m,vs,xs,rfl,R.ns,by rw[ag n3];exact R.at_,R.go.fz e,R.mo.fz e,by rw[ag n1];exact R.ro,R.rs.fz e,by rw[ag n2];exact R.se,R.ks,λx hx=>(R.ky x hx).via λ_ _ q=>vU e (λ_ z=>nomatch z) (λ_ _ z=>nomatch z) q⟩
 th:=λ{K s l F H a od kvs}h0_ hF e=>by
  obtain⟨C,dx,r,g,m,vs,xs,el,R⟩:=h0_;subst el;have n1:r≠a:=λz=>by have:=hF r (by simp);rw[z,e]at this;cases this
  have n2:s.d≠a:=λz=>by have:=hF s.d (by simp);rw[z,e]at this;cases this
  have n3:s.a≠a:=λz=>by have:=R.at_;rw[z,e]at this;cases this
  exact⟨C,dx,r,g,m,vs,xs,rfl,R.ns,by rw[ag n3];exact R.at_,R.go.th e,R.mo.th e,by rw[ag n1];exact R.ro,R.rs.th e,by rw[ag n2];exact R.se,R.ks,λx hx=>(R.ky x hx).via λ_ _ q=>vU e (λ_ z=>nomatch z) (λ_ _ z=>nomatch z) q⟩
 rw:=λ{K s l F H F'}h0_ k h=>by obtain⟨C,dx,r,g,m,vs,xs,el,R⟩:=h0_;subst el;unfold WL.Sr.val;simp only[RW,RWs];exact⟨s.a,C,dx,sfs g m r s.d,rfl,k _ _ R.at_,R.ns,rfl,List.cons_ne_nil _ _,g,_,rfl,R.go.keep k,m,_,rfl,R.mo.keep k,.ref r,_,rfl,⟨r,vs,rfl,SqL.of (h r (by simp) _ R.ro),R.rs.keep k⟩,.ref s.d,_,rfl,rfl,rfl⟩
section
variable{P:Program}{w:World}{B:Bx}{s:Sr}{l:List Addr}{σ:Ws}{σV:L2.St}{F H:Hp}{D:Ends}{X:Cx}{i j:Nat}{st:Stmt}{c:Expr}{ss ss':List Stmt}{t1 t2:RF Sr}{pos:Pos}
theorem OqX.at_{M:Rsc Sr}{o:OX Sr}(q:OqX M B D F (WL.at_ j σ s o)):σ[j]?=some (.va (.id s.a))/\OqX M B D F o:=by
 unfold WL.at_ at q;split at q
 ·rename_i b e;split at q;·rename_i a;subst a;exact⟨e,q⟩
  ·exact(q).elim
 ·exact(q).elim
def RX.self{M:Rsc Sr}(R:RX M B s l σ σV F H)(e:σ[j]?=some (.va (.id s.a))):σV[j]?=some (some (.ref s.a)):=by
 obtain⟨v,b,a⟩:=R.rs.va j _ e;have a:v=.ref s.a:=by simpa only[RW]using a
 rw[b,a]
abbrev aoD(P:Program)(w:World)(K:W.Frag):R2:=λx y H Q=>∃d a b k,x=.ref a/\y=.ref d/\H d=some (FD P w d b)/\FKy K H k a/\(∀x∈b,FKy K H x.1 x.2)/\Q (.bl (decide (k∈b.map (·.1)))) H
def afW(n:B.K=X.K)(h:∀C,W.nsIn X.K mainGlobals (Str.ofString "Search")=some (some (.ref C))->Cls X.K C/\aS X.K C "seen")(z:PT X c (adB (tOp (aoD X.prog X.w X.K) (fj i) (aiW X.K (fj 0) "seen"))))(y:PSs X ss (loX (srM X.prog X.w) B t1))(o:PSs X ss' (loX (srM X.prog X.w) B t2)):PS X (.If c ss ss' pos) (loX (srM X.prog X.w) B (WL.xIf (WL.xIn i) t1 t2)):=PS.imp (agO z y o) λD σV H f=>by
 obtain⟨σ,F,s,l,R,q⟩:=f;obtain⟨v,d,q⟩:=OqX.ifB q;unfold WL.xIn at d;split at d
 ·rename_i b N;split at d
  ·rename_i o;subst o;split at d
   ·rename_i T u;split at d
    ·rename_i k A;cases d;have M:=R.self N;obtain⟨U,E,t⟩:=R.rs.va i _ u;obtain⟨a,rfl,Q⟩:=afz A t;obtain⟨C,J,r,g,m,Y,p,rfl,S⟩:=(R.re);obtain⟨cl,O⟩:=h C (n▸S.ns);have G:∀x∈p,FKy X.K H x.1 x.2:=λx I=>n▸(S.ky x I).keep R.rs.rb.sub;refine⟨.ref a,E,.ref s.a,M,s.a,C,J,_,.ref s.d,rfl,R.rs.rb.sub _ _ S.at_,cl,O,vW,s.d,a,p,k,rfl,rfl,S.se,n▸FKy.keep (K:=(iD B H [r,s.d]).K) Q R.rs.rb.sub,G,_,rfl,?_⟩;rw[S.ks];by_cases e:k∈s.seen;·rw[apO e]at q⊢;rw[ao1 rfl]at q⊢;exact⟨σ,F,s,_,R,q⟩
     ·rw[api e]at q⊢;rw[ao2 ao7]at q⊢;exact⟨σ,F,s,_,R,q⟩
    ·cases d
   ·cases d
  ·cases d
 ·cases d
def afU(n:B.K=X.K)(f:∀C,W.nsIn X.K mainGlobals (Str.ofString "Search")=some (some (.ref C))->Cls X.K C/\aS X.K C "seen")(h:PS X st (aja (aiW X.K (fj 0) "seen") (fj i) X.prog X.w X.K)):PS X st (loX (srM X.prog X.w) B (WL.xU i)):=PS.imp h λD σV H e=>by
 obtain⟨σ,F,s,l,R,q⟩:=e;obtain⟨Q,q⟩:=OqX.at_ q;split at q
 ·rename_i U E;split at q
  ·rename_i k I;split at q
   ·rename_i u;have O:=R.self Q;obtain⟨Y,J,A⟩:=R.rs.va i _ E;obtain⟨a,rfl,y⟩:=afz I A;obtain⟨C,v,r,g,m,M,d,t,S⟩:=(R.re);obtain⟨cl,T⟩:=f C (n▸S.ns);have o:∀x∈d,FKy X.K H x.1 x.2:=λx b=>n▸(S.ky x b).keep R.rs.rb.sub;have G:d.length=s.seen.length:=by rw[<-S.ks,apk]
    refine⟨.ref s.a,O,s.a,C,v,_,.ref s.d,rfl,R.rs.rb.sub _ _ S.at_,cl,T,vW,.ref a,J,s.d,a,d,k,rfl,rfl,S.se,n▸FKy.keep (K:=(iD B H l).K) y R.rs.rb.sub,o,by rw[S.ks];exact u.1,by rw[G];exact apa u.2 dw,?_⟩;have N:s.d∈l:=by rw[t];simp
    have p:r≠s.d:=λz=>by have:=S.ro;rw[z,S.se]at this;cases this
    refine(q) σV _ F l (R.write (s':={s with seen:=s.seen++[k]}) N ?_) (ar.refl _);refine⟨C,v,r,g,m,M,d++[(k,a)],t,S.ns,S.at_,S.go,S.mo,by rw[ag p];exact S.ro,S.rs,ao,by rw[aqJ,S.ks];rfl,λx b=>?_⟩;rcases apY.mp b with b|b;·exact S.ky x b
    ·rw[ap2.mp b];exact y
   ·exact(q).elim
  ·exact(q).elim
 ·exact(q).elim
def afY{o:EF}(t:B.K=X.K)(d:∀C,W.nsIn X.K mainGlobals (Str.ofString "Search")=some (some (.ref C))->Cls X.K C/\aS X.K C "rows")(h:∀p:Bx,p.K=X.K->PS X st (x6 (tBM X.K "list" pB (aiW X.K (fj 0) "rows") (lU (lo p o) aae)))):PS X st (loX (srM X.prog X.w) B (WL.af0 o)):=by
 intro b y σV H D I⟨σ,F,s,l,R,q⟩;refine h (iD B H l) t b y σV H D I ?_;obtain⟨T,q⟩:=OqX.at_ q;split at q
 ·rename_i w G;split at q
  ·rename_i N;have Q:=R.self T;obtain⟨C,u,r,g,m,e,E,n,S⟩:=(R.re);obtain⟨cl,U⟩:=d C (t▸S.ns);refine⟨.ref s.a,Q,s.a,C,u,_,.ref r,rfl,R.rs.rb.sub _ _ S.at_,cl,U,vX,.inl ⟨rfl,e,SqL.of S.ro⟩,σ,F,R.rs,?_⟩;rw[G];intro v Y J A a O;have R2:=R.next A a.f;have k:=a.h _ _ S.ro;refine⟨r,e,v,rfl,rfl,k,by rw[<-S.rs.length];exact apa N dw,?_⟩;have K:r∈l:=by rw[n];simp
   have f:s.d≠r:=λz=>by have:=S.ro;rw[<-z,S.se]at this;cases this
   refine(q) σV _ J l (R2.write (s':={s with rows:=s.rows++[w]}) K ?_) a.f;exact⟨C,u,r,g,m,e++[v],E,n,S.ns,a.f _ _ S.at_,S.go.keep a.f,S.mo.keep a.f,ao,(S.rs.keep a.f).app (.one O),by rw[ag f];exact a.h _ _ S.se,S.ks,λx M=>(S.ky x M).keep a.f⟩
  ·exact(q).elim
 ·exact(q).elim
end
end WS
set_option autoImplicit true
set_option relaxedAutoImplicit true
namespace WS
open PySem PySem.Spec PyProof.Rows L2
open WL(Res Sl Ws EF TF AF LF GF GsF SF Out OX RF Sr)
theorem abt :∀{fs:List (Str×V)}{n:Nat},(fs.map (·.1)).Nodup->fs[n]?=some (f,v)->fs.lookup f=some v
|[],_,_,e=>by simp at e|(g,u)::fs,0,_,e=>by simp at e;obtain⟨rfl,rfl⟩:=e;simp[List.lookup]|(g,u)::fs,n+1,nd,e=>by
 simp only[ao9,aqd]at nd;have a:fs[n]?=some (f,v):=by simpa using e
 have c:f∈fs.map (·.1):=apv.mpr ⟨(f,v),apI a,rfl⟩;have b:(f==g)=false:=apA.mpr λz=>nd.1 (z▸c);simp only[List.lookup,b];exact abt nd.2 a
theorem uP:∀{fs:List (Str×V)},f∉fs.map (·.1)->fs.lookup f=none|[],_=>rfl|(g,u)::fs,h=>by simp only[ao9,apl,not_or]at h;have a:=apA.mpr h.1;simp only[List.lookup,a];exact uP h.2
section
variable{X:Cx}{B:Bx}{fl m:Str}{c:String}{C f:Addr}{fd:FuncData}{ps:List Str}{k n:Nat}{fn:List VW->Res VW}{e o:Expr}{es:List Expr}{to:EF}{tas:AF}{pos:Pos}
def ig(T:X.K=B.K)(M:W.nsIn X.K mainGlobals (Str.ofString c)=some (some (.ref C)))(cl:Cls X.K C)(Y:aS X.K C fl)(nd:(WL.jS c).Nodup)(p:(WL.jS c)[n]?=some fl)(D:PE X o (lo B to))(P:attributeBase o fl X.env (eval o X.env)=eval o X.env:=by rfl):PE X (.Attribute o fl pos) (lo B (WL.iA c n to)):=PE.imp (mw D P) λA H Q j=>by
 obtain⟨U,F,R,q⟩:=j;have q:=Rq.bind q;refine⟨U,F,R,Rq.mono (ar.refl _) q λy b v S K u I i=>?_⟩;unfold WL.akH at b;split at b
 ·rename_i c' ws;split at b
  ·rename_i d;have d:=eq_of_beq d;subst d;split at b
   ·rename_i w J;simp only[RW]at i;obtain⟨a,Z,O,G,rfl,E,z,x,_,r⟩:=i;rw[<-T,M]at z;cases z;obtain⟨v1,h,i⟩:=r.get J;rw[apo,apy]at h;obtain⟨⟨g,s⟩,t,rfl⟩:=h;have N:g=fl:=by have:=aqc (λl=>l[n]?) x;simp only[apo,t,p,Option.map_some]at this;exact apf this
    subst N;exact⟨a,C,O,_,s,rfl,u.rb.sub _ _ E,cl,Y,abt (by rw[x];exact nd) t,(b) s S K u I i⟩
   ·exact(b).elim
  ·exact(b).elim
 ·exact(b).elim
def aei (hK:X.K=B.K)(hx:XW X B)(hC:W.nsIn X.K mainGlobals (Str.ofString c)=some (some (.ref C)))(Y:m∉WL.jS c)(hn:∀d ws,tas d=.ok ws->ws.length+1=n):∀h H Q,lo B (WL.ia c fn to tas) h H Q->qz X C m (spX X.K n fn) [] (lo B to) (loA B tas) h H Q:=by
 intro h H Q⟨d,F,R,q⟩;have q:=Rq.bind q;refine⟨d,F,R,Rq.mono (ar.refl _) q λy g v H0 F0 R0 O r0=>?_⟩;by_cases p:WL.isN c y=true
 ·rw[ao1 p]at g;have g:=Rq.bind (g);obtain⟨D,rfl⟩:∃D,y=.ins c D:=by
   unfold WL.isN at p;split at p;·rw[eq_of_beq p];exact⟨_,rfl⟩
   ·cases p
  have A:=r0;simp only[RW]at A;obtain⟨a,C',r,a0,rfl,e1,u,e3,_,_⟩:=A;rw[<-hK,hC]at u;cases u;refine⟨a,r,_,rfl,R0.rb.sub _ _ e1,uP (by rw[e3];exact Y),d,F0,R0,?_⟩;cases K:tas d with|bad=>rw[K]at g;exact g|ex c=>rw[K]at g;exact B.mono c d F F0 O.f g|ok ws=>
  rw[K]at g;have q:Rq B d F (fn (.ins c D::ws)) _:=g;intro vs Z J j P r1;rw[apK,hK];have ext:∀{b i:Hp},ar J b->ar b i->ar Z i->(∀a o,b a=some o->J a=some o\/Z a=none/\NF o)->Gr J Z b i/\RB B b i:=λ{b i}l G x fr=>by
   refine⟨⟨l,x,λa o eh S=>?_⟩,G,j.rb.base.trans x,j.rb.fz0.trans l,λa o u=>?_⟩;·cases u:b a with|none=>rfl|some o2=>
     rcases fr a o2 u with z|z;·rw[S]at z;cases z
     ·rw[eh]at z;cases z.1
   ·rcases fr a o u with z|z;·exact j.rb.fr a o z
    ·exact .inr ⟨j.rb.base.free z.1,z.2⟩
  refine⟨λC r i=>∃N b c,C=.ref N/\RS B d h b i/\B.xp c d b/\XR B.K b c N r,⟨J,.ins c D::ws,j.rb.sub,.cons (r0.keep P.f) r1,by rw[aph];exact hn d ws K,?_⟩,λE s e C r T H' t⟨N,b,c,ec,R2,xp,U⟩=>?_⟩;·cases M:fn (.ins c D::ws)with|bad=>rw[M]at q;exact q.elim|ok w=>rw[M]at q;intro v i b l G x fr r2;obtain⟨I,rb⟩:=ext l G x fr;exact q v i b (j.grow I rb) ((O.trans P).trans I) r2|ex c=>rw[M]at q;intro C r i b l G x fr U;obtain⟨I,rb⟩:=ext l G x fr;exact⟨C,b,c,rfl,j.grow I rb,B.mono c d F b ((O.f.trans P.f).trans l) q,U⟩
  ·cases ec;exact hx E h H' s d b c R2 xp e C r (some T) _ t (by rw[hK];exact U)
 ·rw[ao2 p]at g;exact(g).elim
def an7  (P:B.K=X.K)(O:Room j X.A)(S:XW X B)(N:W.nsIn X.K mainGlobals (Str.ofString c)=some (some (.ref C)))(cl:Cls X.K C)(G:tG X.prog X.w X.K X.mg X.base k C g m ps (spX X.K 1 fn))(u:PE X o (lo B to))(E:k<=j:=by decide)(h:m∉WL.jS c:=by decide)(A:eval (.Call (.Attribute o m apos) [] [] pos) X.env=(do
  let r <-eval o X.env
  standAt apos.atName let(f,first)<-holding [r] (getMethod r m pl)callWith pos f first (backTo pos (starEach [] X.env)) (backToKw pos (keywordEach [] X.env))):=by rfl):PE X (.Call (.Attribute o m apos) [] [] pos) (lo B (WL.ia c fn to WL.av)):=by obtain⟨M,fd,F,b⟩:=G;refine PE.imp (q5 u cl M F (O.mono E) b .nil A) λd H Q q=>?_;obtain⟨p,i,R,q⟩:=aei P.symm S N h (λp ws e=>by cases e;rfl) d H Q q;refine⟨p,i,R,Rq.mono (ar.refl _) q λy s v l i I J x=>?_⟩;obtain⟨a,U,fs,D,t,w,Y,z,K,T⟩:=s v l i I J x;exact⟨a,U,fs,D,t,w,(T) [] l z K Gr.refl (by simp[RWs])⟩
end
section
variable{S:Type}{M:Rsc S}{B:Bx}{s:S}{l:List Addr}{σ:Ws}{σV:L2.St}{F H F' H':Hp}{D:Ends}{X:Cx}{j:Nat}{st:Stmt}{rest:List Stmt}{t1 t2:RF S}
def OqE(B:Bx)(D:Ends)(F:Hp):OX S->Prop|.rt w _=>∀v H' F',RB B F' H'->ar F F'->RW B.K F' w v->D.rt v H'|.ex c σ'=>B.xp c σ' F|_=>False
def loE(M:Rsc S)(B:Bx)(t:RF S):TS:=λD σV H=>∃σ F s l,RX M B s l σ σV F H/\OqE B D F (t σ s)
theorem OqE.mono(k:ar F F'){o:OX S}(h:OqE B D F o):OqE B D F' o:=by cases o with|rt w s=>exact λv H G a z r=>h v H G a (k.trans z) r|ex c σ=>exact B.mono c σ F F' k h|_=>exact h
def ajc(a:RB (iD B H l) F H)(fr:∀x∈l,F x=none/\B.H0 x=none):RB B F H:=by
 refine⟨a.sub,λx o q=>?_,a.fz0,λx o q=>?_⟩
 ·have b:x∉l:=λz=>by rw[(fr x z).2]at q;cases q
  exact a.base x o (by show fzS B.H0 H l x=some o;rw[aT b];exact q)
 ·rcases a.fr x o q with z|⟨z,c⟩;·exact .inl z
  ·have b:x∉l:=λd=>by rw[(fr x d).1]at q;cases q
   have z:fzS B.H0 H l x=none:=z;rw[aT b]at z;exact .inr ⟨z,c⟩
def tL(g:PS X st (loX M B t1))(f:PSs X rest (loE M B t2)):PSs X (st::rest) (loE M B (WL.lz t1 t2)):=PSs.imp (bN g f) λD σV H b=>by obtain⟨σ,F,s,l,R,q⟩:=b;refine⟨σ,F,s,l,R,?_⟩;have q:OqE B D F (match t1 σ s with|.nx σ' s'=>t2 σ' s'|o=>o):=q;cases a:t1 σ s with|nx σ' s'=>rw[a]at q;exact λe H' F' d h k=>⟨σ',F',s',d,h,OqE.mono k q⟩|bk σ' s'=>rw[a]at q;exact q.elim|ct σ' s'=>rw[a]at q;exact q.elim|rt w s'=>rw[a]at q;exact λv H' F' d i fr m k r=>q v H' F' (ajc i fr) k r|ex c σ'=>rw[a]at q;exact q|bad=>rw[a]at q;exact q
end
section
variable{B:Bx}{s:Sr}{l:List Addr}{σ:Ws}{σV:L2.St}{F H F' H':Hp}{D:Ends}{X:Cx}{i j:Nat}{st:Stmt}{rest:List Stmt}{t:RF Sr}{ts:SF}
def afT(n:B.K=X.K)(a:∀C,W.nsIn X.K mainGlobals (Str.ofString "Search")=some (some (.ref C))->Cls X.K C/\aS X.K C "rows")(h:PS X st (anM (aiW X.K (fj j) "rows"))):PSs X [st] (loE (srM X.prog X.w) B (WL.alR j)):=PSs.imp (dP h) λD σV H c=>by
 obtain⟨σ,F,s,l,R,q⟩:=c;have q:OqE B D F (WL.at_ j σ s (.rt (.lst s.rows) s)):=q;have:σ[j]?=some (.va (.id s.a))/\OqE B D F (.rt (.lst s.rows) s):=by
  unfold WL.at_ at q;split at q
  ·rename_i b e;split at q;·rename_i p;subst p;exact⟨e,q⟩
   ·exact(q).elim
  ·exact(q).elim
 obtain⟨d,q⟩:=this;have w:=R.self d;obtain⟨k,v⟩:=R.frz (by unfold WL.seen;rw[d];exact ao1 rfl);obtain⟨C,o,r,g,m,u,y,f,S⟩:=(R.re);obtain⟨cl,x⟩:=a C (n▸S.ns);refine⟨.ref s.a,w,s.a,C,o,_,.ref r,rfl,R.rs.rb.sub _ _ S.at_,cl,x,vX,?_⟩;refine(q) (.ref r) H _ v.rb k ?_;simp only[RW];exact⟨r,u,rfl,SqL.of (by rw[dS (by rw[f];simp)];exact S.ro),S.rs.keep k⟩
def RS.blank(R:RS B σ σV F H):RS B (List.replicate σ.length .no) σV F H:=by
 have no:∀{i:Nat}{b:Sl},(List.replicate σ.length Sl.no)[i]?=some b->b=.no:=λ{i b}e=>by
  rw[apT]at e;split at e;·exact(apf e).symm
  ·cases e
 refine⟨R.rb,by rw[aqq];exact R.len,λi w e=>(nomatch no e),λi ws e=>(nomatch no e),λi j ws g a _ e _ _ _=>(nomatch no e),λi c f e=>(nomatch no e),λi j c f d h a _ e _ _ _=>(nomatch no e),λi e=>(nomatch no e)⟩
def RS.akF(R:RS B σ σV F H){ks us:List VW}(e:σ[i]?=some (.od ks us)):∃F',RS B (σ.set i (.va (.dic ks us))) σV F' H/\ar F F':=by
 obtain⟨a,f,g,h,J,G,Q,P⟩:=R.dd.od i ks us e;have c:=R.drop i (some (.ref a));have A:=set_same g;rw[A]at c;have s:ar F (upd F a (.dK f)):=az h _;have M:i<σ.length:=(ao3.mp e).1;have K:RS B (σ.set i .no) σV (upd F a (.dK f)) H:=by
  refine⟨⟨λb u q=>?_,c.rb.base,c.rb.fz0.trans s,λb u q=>?_⟩,c.len,λi w q=>?_,λi ws q=>?_,c.ap,λk y x q=>?_,c.dd.ad,λi q=>?_⟩
  ·by_cases d:b=a;·subst d;rw[ao]at q;cases q;exact G
   ·rw[ag d]at q;exact c.rb.sub b u q
  ·by_cases d:b=a;·subst d;rw[ao]at q;cases q;exact .inr ⟨J,trivial⟩
   ·rw[ag d]at q;exact c.rb.fr b u q
  ·obtain⟨v,g,h⟩:=c.va i w q;exact⟨v,g,h.keep s⟩
  ·obtain⟨b,O,n,o,p,m,r⟩:=c.ow i ws q;have d:b≠a:=λz=>by rw[z,G]at m;cases m
   exact⟨b,O,n,by rw[ag d];exact o,p,m,r.keep s⟩
  ·obtain⟨b,l,n,o,p,m,r,I⟩:=c.dd.od k y x q;have E:i≠k:=λz=>by subst z;rw[ao8 M]at q;cases q
   have d:b≠a:=λz=>by subst z;rw[ao0 E]at q;exact R.dd.ad i k _ _ _ _ b E e q g n
   exact⟨b,l,n,by rw[ag d];exact o,p,m,r.keep s,I.keep s⟩
  ·obtain⟨b,C,N,g,h⟩:=c.dd.ob i q;exact⟨b,C,N,g,s _ _ h⟩
 have R2:=K.set (i:=i) (w:=.dic ks us) (by simp only[RW];exact⟨a,f,rfl,.inl ao,Q.keep s,P.keep s⟩);rw[A,List.set_set]at R2;exact⟨_,R2,s⟩
def adb(h:PSs X rest (loS B ts)):PSs X rest (loS B (WL.agD i ts)):=PSs.imp h λD σV H a=>by
 obtain⟨σ,F,R,q⟩:=a;unfold WL.agD at q;split at q;·rename_i c d e;obtain⟨F',b,k⟩:=R.akF e;exact⟨_,F',b,Oq.mono k q⟩
 ·exact(q).elim
end
def alc(P:Program)(w:World)(K:W.Frag):Sp:=λe H Q E=>∃x C c g m,e=[.ref x,g,m]/\H x=some (.ins C c [])/\(Cls K C/\aS K C "goal"/\aS K C "most"/\aS K C "rows"/\aS K C "seen")/\∀r d a,H r=none->H d=none->r≠d->a x=some (.ins C c (sfs g m r d))->a r=some (.lst [])->a d=some (FD P w d [])->(∀b,b≠x->b≠r->b≠d->a b=H b)->Q .non a
section
variable{P:Program}{w:World}{K:W.Frag}{mg:Str->Option Value}{base:Heap}
def aeq{nm j:Str}{st:Stmt}{f:Addr}{I:FuncData}{v u y:Str}{k:Nat}{N M O J:Stmt}(Fn:Fun K nm j st f I)(Z:FnScope [v,u,y] [v,u,y] (af st))(D:aH st=[N,M,O,J])(h:∀(o:Value)(A:Around)(a:List Env)(s:Shared)(H:Hp)(E:XK)(X:Cx),X=ff (CXX P w) P w K mg base [v,u,y] j (af st) f o A a s H E->PS X N (ai9 K (fj 0) (fj 1) "goal")/\PS X M (ai9 K (fj 0) (fj 2) "most")/\PS X O (ai9 K (fj 0) (al4 aae) "rows")/\PS X J (ai9 K (fj 0) (ae6 P w) "seen")):FnOk P w K mg base (CXX P w) (k+1) f I [v,u,y] (alc P w K):=by
 obtain⟨oc,od,a0,U,pm,an,o,ct,a5,rfl,lk,G⟩:=Fn.ex;refine u1 lk G Z (λvs H Q E n=>by obtain⟨x,C,t,g,m,e,_⟩:=n;rw[e];rfl) λA a s H vs Q E q _ n=>?_;obtain⟨x,C,t,g,m,e,hH,⟨cl,a1,a2,a3,a4⟩,Y⟩:=n;subst e;obtain⟨h1,S,h3,h4⟩:=h o A a s H E _ rfl;rw[D];refine⟨_,bN h1 (bN S (bN h3 (dP h4))),?_⟩;have T:oq ("goal":Str) g []=[(("goal":Str),g)]:=rfl;have p2:oq ("most":Str) m [(("goal":Str),g)]=[(("goal":Str),g),("most",m)]:=rfl;have p3:∀r:Addr,oq ("rows":Str) (V.ref r) [(("goal":Str),g),("most",m)]=[(("goal":Str),g),("most",m),("rows",.ref r)]:=λ_=>rfl;have R:∀r d:Addr,oq ("seen":Str) (V.ref d) [(("goal":Str),g),("most",m),("rows",.ref r)]=sfs g m r d:=λ_ _=>rfl;refine⟨g,rfl,.ref x,rfl,x,C,t,[],rfl,hH,cl,a1,by decide,?_⟩;rw[T];refine⟨m,rfl,.ref x,rfl,x,C,t,[("goal",g)],rfl,ao,cl,a2,by simp,?_⟩;rw[p2];refine⟨by decide,λr q=>?_⟩;have c:x≠r:=λz=>by rw[<-z,ao]at q;cases q
 refine⟨.ref x,rfl,x,C,t,[("goal",g),("most",m)],rfl,by rw[ag c];exact ao,cl,a3,by simp,?_⟩;rw[p3];intro d p;have i:x≠d:=λz=>by rw[<-z,ao]at p;cases p
 have l:r≠d:=λz=>by rw[<-z,ag (ape c),ao]at p;cases p
 refine⟨.ref x,rfl,x,C,t,[("goal",g),("most",m),("rows",.ref r)],rfl,by rw[ag i];exact ao,cl,a4,by simp,?_⟩;rw[R];refine Y r d _ ?_ ?_ l ao ?_ ?_ λb B b2 b3=>?_;·rw[ag (ape c),ag (ape c)]at q;exact q
 ·rw[ag (ape i),ag (ape l),ag (ape i),ag (ape i)]at p;exact p
 ·rw[ag (ape c),ag l,ag (ape c),ao]
 ·rw[ag (ape i),ao]
 ·rw[ag B,ag b3,ag B,ag b2,ag B,ag B]
end
section
variable{X:Cx}{B:Bx}{j:Nat}{C:Addr}{s1:Stmt}{rest:List Stmt}{as:AF}{t:RF Sr}
def zA(hB:B.K=X.K)(hx:XW X B)(a6:W.nsIn X.K mainGlobals (Str.ofString "Search")=some (some (.ref C)))(a3:Cls X.K C/\aS X.K C "goal"/\aS X.K C "most"/\aS X.K C "rows"/\aS X.K C "seen")(h1:PS X s1 (ai0 (ae5 X C (alc X.prog X.w X.K) [] (loA B as)) (L2.aA j)))(h2:∀B':Bx,B'.K=X.K->XW X B'->PSs X rest (loE (srM X.prog X.w) B' t)):PSs X (s1::rest) (loS B (WL.iT j as t)):=by
 let B1:Bx:=B.nY (λc l F=>B.xp c (List.replicate l.length .no) F) λc l F F' s h=>B.mono c _ F F' s h;have xw:XW X B1:=λa0 m H s l F c R xp e C i T fl t xr=>hx a0 m H s _ F c (RS.blank (R.box rfl rfl rfl)) xp e C i T fl t xr;refine PSs.imp (bN h1 (h2 B1 hB xw)) λD m H a2=>?_;obtain⟨l,F,R,q⟩:=a2;refine⟨l,F,R,?_⟩;unfold WL.iT at q;split at q
 ·rename_i wg wm ea;rw[ea];split at q
  ·rename_i hh;have a:=ary hh;intro vs H1 P K I r1 x i Q a4 E;obtain⟨p,u,rfl,rg,rm⟩:∃p u,vs=[p,u]/\RW B.K P wg p/\RW B.K P wm u:=by simp only[RWs]at r1;obtain⟨v,r,rfl,h,v',r',rfl,h',rfl⟩:=r1;exact⟨v,v',rfl,h,h'⟩
   refine⟨λ_ _ _=>False,⟨x,C,i,p,u,rfl,ao,a3,λr d H' J N a1 a5 U O ho=>⟨rfl,?_⟩⟩,λ_ _ _ _ _ _ _ _ z=>z.elim⟩;have A:r≠x:=λz=>by rw[z,ao]at J;cases J
   have g:d≠x:=λz=>by rw[z,ao]at N;cases N
   have n:r≠i:=λz=>by rw[z,ag E,ao]at J;cases J
   have o:d≠i:=λz=>by rw[z,ag E,ao]at N;cases N
   have S:H1 r=none:=by rw[ag A,ag n]at J;exact J
   have hd1:H1 d=none:=by rw[ag g,ag o]at N;exact N
   let G:Hp:=upd P x (.ins C i (sfs p u r d));have eH:H'=upd (upd (upd (upd H1 i (.own x)) x (.ins C i (sfs p u r d))) r (.lst [])) d (FD X.prog X.w d []):=by
    funext b;by_cases b1:b=d;·subst b1;rw[ao,O]
    ·rw[ag b1];by_cases b2:b=r;·subst b2;rw[ao,U]
     ·rw[ag b2];by_cases b3:b=x;·subst b3;rw[ao,a5]
      ·rw[ag b3,ho b b3 b2 b1,ag b3]
   have a7:=K.rb.sub.free Q;have k2:ar P G:=az a7 _;have R2:RS B l m G H':=by have Ra:=(K.ah8 a4 (.own x)).new (by rw[ag (ape E)];exact Q) (.ins C i (sfs p u r d)) trivial;have Rb:=Ra.ah8 (by rw[ag A,ag n];exact S) (.lst []);have Rc:=Rb.ah8 (by rw[ag (ape a1),ag g,ag o];exact hd1) (FD X.prog X.w d []);rw[eH];exact Rc
   have Z:∀{y:Addr},y≠x->H1 y=none->G y=none:=λ{y}h1 h2=>by show upd P x _ y=none;rw[ag h1];exact K.rb.sub.free h2
   have inl:∀y∈[r,d],y≠x/\H1 y=none:=λy f=>by
    simp only[apl,aqk,or_false]at f;rcases f with rfl|rfl;·exact⟨A,S⟩
    ·exact⟨g,hd1⟩
   have R3:RS (iD B1 H' [r,d]) l m G H':=by
    refine RS.inS (R2.box rfl rfl rfl) (λy f=>Z (inl y f).1 (inl y f).2) (λk ws y e1 e2 f=>?_) (λy f k ks us e1 e2=>?_);·obtain⟨b,vs,I,_,_,Y,_⟩:=K.ow k ws e1;rw[e2]at I;cases I;rw[(inl y f).2]at Y;cases Y
    ·obtain⟨b,vs,I,_,_,Y,_⟩:=K.dd.od k ks us e1;rw[e2]at I;cases I;rw[(inl y f).2]at Y;cases Y
   refine⟨l.set j (.va (.id x)),G,⟨x,d,wg,wm,[],[]⟩,[r,d],⟨R3.set (by simp only[RW]),λy f=>⟨Z (inl y f).1 (inl y f).2,K.rb.base.free (inl y f).2⟩,C,i,r,p,u,[],[],rfl,hB▸a6,ao,rg.keep k2,rm.keep k2,U,by simp[RWs],O,rfl,λ_ z=>nomatch z⟩,?_⟩;have a:=a x d;have k3:=I.f.trans k2;cases M:t (l.set j (.va (.id x))) ⟨x,d,wg,wm,[],[]⟩with|rt w s'=>rw[M]at a;have a:=a;rw[a]at q;exact λv H3 F3 rb k4 r=>(q) v H3 F3 (rb.box rfl rfl) (k3.trans k4) r|ex c σ'=>rw[M]at a;obtain⟨a,hl⟩:=a;rw[a]at q;show B.xp c (List.replicate σ'.length .no) G;rw[hl];exact B.mono c _ F G k3 q|nx _ _=>rw[M]at a;exact a.elim|bk _ _=>rw[M]at a;exact a.elim|ct _ _=>rw[M]at a;exact a.elim|bad=>rw[M]at a;exact a.elim
  ·exact(q).elim
 ·exact(q).elim
end
end WS
namespace WL
open PySem
noncomputable def yE:W->W->Res W|.str x,.int n=>if 2<=n/\n<=100/\0<x.length/\x.length*n.toNat<=5000 then .ok (.str ⟨(List.replicate n.toNat x.cps).foldl (·++·) #[]⟩)else .bad|_,_=>.bad
def jF(i j:Nat)(e:EF):SF:=λa=>match(a[i]?:Option Sl),(a[j]?:Option Sl)with|some (.ow xs),some (.ow ys)=>(match e a with|.ok (.int n)=>if i≠j/\0<=n/\n<ys.length/\ys.length<=lim/\xs.length<lim then(match ys[n.toNat]? with|some y=>.nx ((a.set j (.ow (ys.eraseIdx n.toNat))).set i (.ow (xs++[y])))|none=>.bad)else .bad|_=>.bad)|_,_=>.bad
end WL
namespace WS
open PySem PySem.Spec PyProof.Rows L2
open WL(Res Sl Ws EF TF AF LF GF GsF SF Out OX RF Sr)
theorem wc(x:Array Nat):∀(n:Nat)(a:Array Nat),((List.replicate n x).foldl (·++·) a).size=a.size+x.size*n|0,a=>by simp|n+1,a=>by rw[List.replicate_succ,List.foldl_cons,wc x n,Array.size_append,Nat.mul_succ];omega
section
variable{X:Cx}{K:W.Frag}
def acI:Calm WL.yE:=λx y c h=>by
 unfold WL.yE at h;split at h;·split at h<;>cases h
 ·cases h
def aiC:OpR X (binaryOp .Mult) (lo2 K WL.yE):=by intro f s E H x y v u Q I g o⟨F,wx,h,C,d,b,q⟩;cases e:WL.yE wx h with|bad=>rw[e]at q;exact q.elim|ex c=>rw[e]at q;exact q.elim|ok w=>
  rw[e]at q;unfold WL.yE at e;split at e
  ·split at e
   ·rename_i a n i;cases e;simp only[RW]at d b;subst d b;obtain⟨t,rfl⟩:=g;obtain⟨r,rfl⟩:=o;obtain⟨B,p,A,k⟩:=i;have l:5000<=sizeLine:=by decide
    refine PySem.P.mul_str ?_ (λ_ _=>?_) (λ_ _=>?_) ?_;·rw[api (by omega),api (by omega)];rfl
    ·have G:(a.length:Int)<=5000:=by have:a.length*1<=a.length*n.toNat:=Nat.mul_le_mul_left _ (by omega);omega
     have D:(5000:Int)<=(2^63-1)/n:=by
      have:100*5000<=(2^63-1:Int):=by decide
      exact Int.le_ediv_of_mul_le (by omega) (by omega)
     omega
    ·unfold Builtin.Str.tooLong;exact api (by omega)
    ·rw[ao2 (by omega),ao2 (by have j:(n==1)=false:=apA.mpr (by omega);have m:(a.length==0)=false:=apA.mpr (by omega);rw[j,m];exact ao7)];refine⟨?_,⟨.str _,H,I.tok _,⟨_,rfl⟩,eq1 q (by simp[RW])⟩⟩;have:=wc a.cps n.toNat #[];have z:a.cps.size*n.toNat<=5000:=k;simp only[Str.length,this,Array.size_empty];omega
   ·cases e
  ·cases e
end
theorem RWs.erase{K:W.Frag}{F:Hp}:∀{ws:List VW}{vs:List V}(i:Nat),RWs K F ws vs->RWs K F (ws.eraseIdx i) (vs.eraseIdx i)|[],_,i,h=>by simp only[RWs]at h;subst h;simp[RWs]|w::ws,_,0,h=>by simp only[RWs]at h;obtain⟨v,r,rfl,_,h⟩:=h;exact h|w::ws,_,i+1,h=>by simp only[RWs]at h;obtain⟨v,r,rfl,a,h⟩:=h;simp only[List.eraseIdx_cons_succ,RWs];exact⟨v,_,rfl,a,RWs.erase i h⟩
section
variable{X:Cx}{B:Bx}{i j:Nat}{st:Stmt}{te:EF}
def zH(h:PS X st (x6 (tBM X.K "list" pB (fj i) (lU (tBM X.K "list" afj (fj j) (lU (lo B te) aae)) aae)))):PS X st (loS B (WL.jF i j te)):=PS.imp h λD m H t=>by
 obtain⟨J,F,R,q⟩:=t;unfold WL.jF at q;split at q
 ·rename_i u k o s;split at q
  ·rename_i n en;split at q
   ·rename_i N;obtain⟨e,h0,S,h2,M⟩:=N;split at q
    ·rename_i y Z;obtain⟨a,us,E,a2,a3,w,I⟩:=R.ow i u o;obtain⟨b,l,C,T,O,x,r⟩:=R.ow j k s;have d:a≠b:=λz=>by subst z;exact R.ap i j u k a e o s E C
     refine⟨.ref a,E,.inl ⟨rfl,us,SqL.of w⟩,.ref b,C,.inl ⟨rfl,l,SqL.of x⟩,J,F,R,?_⟩;rw[en];intro v H1 F1 P c A;have A:v=.int n:=by simpa only[RW]using A
     subst A;have Q:=r.length;have g:=c.h b _ x;have f:=c.h a _ w;obtain⟨G,hy,ry⟩:=(r.keep c.f).get Z;have a0:WL.lim<=2^62:=by decide
     refine⟨b,l,n,n.toNat,G,rfl,rfl,g,by omega,by omega,?_,hy,a,us,G,rfl,rfl,by rw[ag d];exact f,by rw[<-I.length];exact apa M dw,?_⟩
     ·have hn:¬n<0:=by omega
      have U:n<(l.length:Int):=by rw[<-Q];exact S
      simp[seqIndex?,hn,h0,U]
     ·have R2:=P.write s C (c.nf b _ x T) O g (us:=k.eraseIdx n.toNat) (zs:=l.eraseIdx n.toNat) ((r.keep c.f).erase n.toNat);have p:(J.set j (.ow (k.eraseIdx n.toNat)))[i]?=some (.ow u):=by rw[ao0 (ape e)];exact o
      have Y:=R2.write p E (c.nf a _ w a2) a3 (by rw[ag d];exact f) ((I.keep c.f).app (.one ry));exact(show∀K H' F',_ from q) m _ F1 Y c.f
    ·exact(show False from q).elim
   ·exact(show False from q).elim
  ·exact(show False from q).elim
 ·exact(show False from q).elim
end
section
variable{X:Cx}{B:Bx}{C g:Addr}{k jr j n:Nat}{m:Str}{ps:List Str}{fn:List VW->Sr->OX Sr}{e o:Expr}{es:List Expr}{tas:AF}{apos cpos pos:Pos}{pl:Sem Bool}
def xm(E:B.K=X.K)(u:Room jr X.A)(I:XW X B)(D:W.nsIn X.K mainGlobals (Str.ofString "Search")=some (some (.ref C)))(cl:Cls X.K C)(G:tG X.prog X.w X.K X.mg X.base k C g m ps (spM (srM X.prog X.w) X.K n fn))(i:PE X o (fj j))(x:∀q:Bx,q.K=X.K->PA X (e::es) (loA q tas))(J:∀N ws,tas N=.ok ws->ws.length+1=n)(p:k<=jr:=by decide)(h:m∉WL.jS "Search":=by decide)(a:starEach (e::es) X.env=(false,eval e X.env)::starEach es X.env:=by rfl)(c:(backTo cpos (starEach es X.env)).any (·.1)=false:=by rfl)(y:eval (.Call (.Attribute o m apos) (e::es) [] cpos) X.env=(do
  let v <-eval o X.env
  standAt apos.atName let(f,first)<-holding [v] (getMethod v m pl)callWith cpos f first (backTo cpos (starEach (e::es) X.env)) (backToKw cpos (keywordEach [] X.env))):=by rfl)(w:swapsWith (.Call (.Attribute o m apos) (e::es) [] cpos) none pos.line X.env=pure false:=by rfl):PS X (.Expr (.Call (.Attribute o m apos) (e::es) [] cpos) pos) (loX (srM X.prog X.w) B (WL.gg WL.Sr.a j fn tas)):=by obtain⟨M,P,F,b⟩:=G;refine afV (M:=srM X.prog X.w) E I cl M F (u.mono p) b (λs l F H z A=>?_) i x J (λt d=>wz (pl:=pl) i cl M F (u.mono p) b .nil d a c y) w;obtain⟨Q,K,r,g,U,T,R,O,S⟩:=(show anQ X.prog X.w X.K s l F H from A);have:=S.ns;rw[D]at this;cases this;exact⟨K,_,z _ _ S.at_,uP (by exact h)⟩
def wth{q:Addr}{r:Nat}{a x:Str}{rest:List Stmt}{t:RF Sr}{p c:Pos}(H:B.K=X.K)(E:Room jr X.A)(I:XW X B)(K:X.N.Nodup)(z:X.N[j]?=some a)(l:Loc X.env.scope a)(M:Mk X.K C q)(A:W.nsIn X.K mainGlobals (Str.ofString "Search")=some (some (.ref C)))(i:Cls X.K C/\aS X.K C "goal"/\aS X.K C "most"/\aS X.K C "rows"/\aS X.K C "seen")(G:ak6 X.prog X.w X.K X.mg X.base r q ps (alc X.prog X.w X.K))(y:X.mg x=some (.ref C))(v:PA X (e::es) (loA B tas))(u:∀h:Bx,h.K=X.K->XW X h->PSs X rest (loE (srM X.prog X.w) h t))(w:r+1<=jr:=by decide)(D:Gl X x:=by rfl)(f:(x==("__debug__":Str))=false:=by decide)(J:starEach (e::es) X.env=(false,eval e X.env)::starEach es X.env:=by rfl)(d:(backTo cpos (starEach es X.env)).any (·.1)=false:=by rfl)(s:swapsWith (.Call (.Name x p) (e::es) [] cpos) (some (.Name a c)) pos.line X.env=pure false:=by rfl)(N:X.fn a=true\/X.env.scope.names.lookup a=some .local:=by first|exact .inl rfl|exact .inr rfl|assumption):PSs X (.Assign [.Name a c] (.Call (.Name x p) (e::es) [] cpos) pos::rest) (loS B (WL.iT j tas t)):=by obtain⟨O,F,b⟩:=G;exact zA H I A i (qY K z l (wA M F (E.mono w) D y b .nil v f J d) s N) u
def xh{b:Str}(d:W.nsIn X.K mainGlobals (Str.ofString "Search")=some (some (.ref C)))(cl:Cls X.K C)(c:aS X.K C b):∀a,W.nsIn X.K mainGlobals (Str.ofString "Search")=some (some (.ref a))->Cls X.K a/\aS X.K a b:=λa h=>by rw[d]at h;cases h;exact⟨cl,c⟩
def un2{n:Nat}(h:n+64<cLine):n+2<cLine:=by omega
end
end WS
namespace WS
open PySem PySem.Spec PyProof.Rows L2
open WL(Res Sl Ws EF TF AF LF GF GsF SF Out RF OX Sr)
section
variable{P:Program}{w:World}{K:W.Frag}{mg:Str->Option Value}{base:Heap}{k m n:Nat}{nm:Str}{ps N:List Str}{st:Stmt}{fn:List VW->Res VW}
abbrev MgA(K:W.Frag)(mg:Str->Option Value):Prop:=∀nm v,W.nsIn K mainGlobals nm=some (some v)->mg nm=some v
abbrev BdA(nm:Str)(ps:List Str)(st:Stmt):Prop:=∀(kV b e:Value)(d:Option Addr)(a ct:Value)(c:List Value),c.length=ps.length->bindArgs (W.fnOf nm nm (bu st) (aH st) (af st) .none kV b e d a ct) ⟨c,[]⟩=pure (ps.zip c)
def AtD.dN(D:AtD K nm st)(l:MgA K mg)(t:SF)(S:FnScope N ps (af st))(h:∀{g:Value}{f:Addr}{A:Around}{e:List Env}{s:Shared}{H:Hp}{E:XK}{B:Bx},B.K=K->Room k (A.deeper (envOfC nm (af st) s.heap.objs.size f g))->XW (ff CX0 P w K mg base N nm (af st) f g A e s H E).nox B->PassesOwn (model P w) (A.deeper (envOfC nm (af st) s.heap.objs.size f g)) (envOfC nm (af st) s.heap.objs.size f g) (λ_ _=>False)->PSs (ff CX0 P w K mg base N nm (af st) f g A e s H E).nox (aH st) (loS B t))(p:BdA nm ps st:=by intro _ _ _ _ _ _ u h;first|exact bind1 (by intros;rfl) u h|exact zh (by intros;rfl) u h|exact zg (by intros;rfl) u h|exact akZ (by intros;rfl) u h|exact ak0 (by intros;rfl) u h|exact ahT (by intros;rfl) u h|exact akY (by intros;rfl) u h)(o:N.length=n:=by rfl)(q:ps.length=m:=by rfl)(j:WL.run n t=fn:=by rfl)(i:ps.length<=N.length:=by decide):Cal P w K mg base CX0 (k+1) nm ps [] (spW K m fn):=D.cal l p λ_ _ r=>u5 t r S o q j i λ_ _ _ _ _ _ _ a b c d=>h a b c d
def AtD.dX(D:AtD K nm st)(l:MgA K mg)(t:SF)(S:FnScope N ps (af st))(h:∀{g:Value}{f:Addr}{A:Around}{e:List Env}{s:Shared}{H:Hp}{E:XK}{B:Bx},B.K=K->Room k (A.deeper (envOfC nm (af st) s.heap.objs.size f g))->XW (ff (CXX P w) P w K mg base N nm (af st) f g A e s H E) B->PassesOwn (model P w) (ff (CXX P w) P w K mg base N nm (af st) f g A e s H E).A (ff (CXX P w) P w K mg base N nm (af st) f g A e s H E).env (ff (CXX P w) P w K mg base N nm (af st) f g A e s H E).xe->PSs (ff (CXX P w) P w K mg base N nm (af st) f g A e s H E) (aH st) (loS B t))(p:BdA nm ps st:=by intro _ _ _ _ _ _ u h;first|exact bind1 (by intros;rfl) u h|exact zh (by intros;rfl) u h|exact zg (by intros;rfl) u h|exact akZ (by intros;rfl) u h|exact ak0 (by intros;rfl) u h|exact ahT (by intros;rfl) u h|exact akY (by intros;rfl) u h)(o:N.length=n:=by rfl)(q:ps.length=m:=by rfl)(j:WL.run n t=fn:=by rfl)(i:ps.length<=N.length:=by decide):Cal P w K mg base (CXX P w) (k+1) nm ps [] (spX K m fn):=D.cal l p λ_ _ r=>ack t r S o q j i λ_ _ _ _ _ _ _ a b c d=>h a b c d
end
section
variable{X:Cx}{B:Bx}{x:Str}{pos:Pos}
def wki{i:Int}{q:Tok}{w:VW}(c:B.K=X.K)(b:X.mg x=some (.int i q))(hw:w=.int i:=by rfl)(a:Gl X x:=by rfl)(d:(x==("__debug__":Str))=false:=by decide):PE X (.Name x pos) (lo B (WL.eC w)):=by subst hw;exact wk c b ⟨_,rfl⟩ (v:=.int i) (λF=>by simp[RW]) a d
end
end WS
namespace WL
open PySem
section
variable{α β:Type}
@[simp]def cn(a:α)(f:α->Res β):(Res.ok a).bind f=f a:=(rfl)
@[simp]def anx(c:W)(f:α->Res β):(Res.ex c:Res α).bind f=.ex c:=(rfl)
@[simp]def hY(σ:Ws)(a:α)(f:α->Out):ofR σ (.ok a) f=f a:=(rfl)
@[simp]def an4(σ:Ws)(c:W)(f:α->Out):ofR σ (.ex c:Res α) f=.ex c σ:=(rfl)
@[simp]def amG(σ:Ws)(f:α->Out):ofR σ (.bad:Res α) f=.bad:=(rfl)
@[simp]def amF(σ:Ws)(p:Prop)[Decidable p](a b:Res α)(f:α->Out):ofR σ (if p then a else b) f=if p then ofR σ a f else ofR σ b f:=by split<;>rfl
end
@[simp]def alE{b:Type}(a:b)(l:List b):(a::l)[0]?=some a:=(rfl)
@[simp]def alD{b:Type}(a:b)(l:List b)(n:Nat):(a::l)[n+1]?=l[n]?:=(rfl)
noncomputable def am9:Option Sl->Res W|some (.va w)=>.ok w|_=>.bad
@[simp]def pY(w:W):am9 (some (.va w))=.ok w:=(rfl)
@[simp]def ng(i:Nat)(σ:Ws):aj i σ=am9 σ[i]?:=by unfold aj am9;split<;>simp_all
@[simp]def ano(w:W)(σ:Ws):eC w σ=.ok w:=(rfl)
@[simp]def aca(r:W->W->Res W)(a b:EF)(σ:Ws):eOp r a b σ=(a σ).bind λx=>(b σ).bind λy=>r x y:=(rfl)
@[simp]def aok(r:W->Res W)(a:EF)(σ:Ws):eUn r a σ=(a σ).bind r:=(rfl)
noncomputable def chB(z:W)(k:Res W):Res W:=match z with|.bl true=>k|.bl false=>.ok (.bl false)|_=>.bad
@[simp]def aoo(b:Bool)(k:Res W):chB (.bl b) k=if b=true then k else .ok (.bl false):=by cases b<;>rfl
@[simp]def akO(r d:W->W->Res W)(a b c:EF)(σ:Ws):kF r d a b c σ=(a σ).bind λx=>(b σ).bind λy=>(r x y).bind λz=>chB z ((c σ).bind λw=>d y w):=by unfold kF chB;rfl
@[simp]def ae4(b:Bool):toB (.bl b)=.ok b:=(rfl)
@[simp]def adC(e:EF)(σ:Ws):tB e σ=(e σ).bind toB:=(rfl)
@[simp]def al7(a b:TF)(σ:Ws):x8 a b σ=(a σ).bind λx=>if x=true then b σ else .ok false:=by unfold x8;congr 1;funext x;cases x<;>rfl
@[simp]def anN(a b:TF)(σ:Ws):tOr a b σ=(a σ).bind λx=>if x=true then .ok true else b σ:=by unfold tOr;congr 1;funext x;cases x<;>rfl
@[simp]def al1(a:TF)(σ:Ws):vR a σ=(a σ).bind λx=>.ok (!x):=(rfl)
@[simp]def anq(a b:EF)(σ:Ws):aeH a b σ=(a σ).bind λx=>(toB x).bind λy=>if y=true then b σ else .ok (.bl false):=by
 unfold aeH;congr 1;funext x;cases x<;>try rfl
 rename_i k;cases k<;>rfl
@[simp]def anl(a:EF)(σ:Ws):akN a σ=(a σ).bind λx=>(toB x).bind λy=>.ok (.bl (!y)):=by unfold akN;congr 1;funext x;cases x<;>rfl
@[simp]def aom(t:TF)(a b:EF)(σ:Ws):eIf t a b σ=(t σ).bind λx=>if x=true then a σ else b σ:=by unfold eIf;congr 1;funext x;cases x<;>rfl
@[simp]def j5(σ:Ws):av σ=.ok []:=(rfl)
@[simp]def hI(e:EF)(a:AF)(σ:Ws):ae e a σ=(e σ).bind λx=>(a σ).bind λb=>.ok (x::b):=(rfl)
@[simp]def ank(a:AF)(σ:Ws):kE a σ=(a σ).bind λb=>if b.length<=lim then .ok (.tup b)else .bad:=(rfl)
@[simp]def anm(a:AF)(σ:Ws):sG a σ=(a σ).bind λb=>if b.length<=lim then .ok (.lst b)else .bad:=(rfl)
@[simp]def am7(a:AF)(σ:Ws):ah9 a σ=(a σ).bind λb=>if b.length<=lim then .ok b else .bad:=(rfl)
noncomputable def vt{b:Type}:Res b->Res b|.ok a=>.ok a|_=>.bad
@[simp]def eP{b:Type}(a:b):vt (.ok a)=.ok a:=(rfl)
@[simp]def jb(f:List W->Res W)(a:AF)(σ:Ws):ay f a σ=(a σ).bind λws=>vt (f ws):=by unfold ay;congr 1;funext ws;cases f ws<;>rfl
@[simp]def acf(f:List W->Res W)(a:AF)(σ:Ws):cL f a σ=(a σ).bind f:=(rfl)
@[simp]def aon(f:List W->Res W)(a:AF)(σ:Ws):eBi f a σ=(a σ).bind f:=(rfl)
@[simp]def ag6(ks vs:List W)(k:Str):oIx (.dic ks vs) (.str k)=ofO (k8 k ks vs):=(rfl)
@[simp]def an0(σ:Ws):pNo σ=.ok none:=(rfl)
noncomputable def toI:W->Res (Option Int)|.int i=>.ok (some i)|_=>.bad
@[simp]def alX(i:Int):toI (.int i)=.ok (some i):=(rfl)
@[simp]def alh(e:EF)(σ:Ws):pH e σ=(e σ).bind toI:=by unfold pH;congr 1
@[simp]def aol(e:EF)(lo a:Ws->Res (Option Int))(σ:Ws):eSl e lo a σ=(e σ).bind λx=>(lo σ).bind λl=>(a σ).bind λh=>oSl x l h:=(rfl)
@[simp]def als(i j:Int):gb (.int i) (.int j)=.ok (.int (i+j)):=(rfl)
@[simp]def alo(i j:Int):acY (.int i) (.int j)=.ok (.int (i-j)):=(rfl)
def wO(i j:Int):tI (.int i) (.int j)=if(-(2^64)<i/\i<2^64)\/(-(2^64)<j/\j<2^64)then .ok (.int (i*j))else .bad:=(rfl)
def afq{i:Int}(j:Int)(a:-18446744073709551616<i)(b:i<18446744073709551616):tI (.int i) (.int j)=.ok (.int (i*j)):=by rw[wO,ao1];exact .inl ⟨by omega,by omega⟩
def ajT(i:Int){j:Int}(a:-18446744073709551616<j)(b:j<18446744073709551616):tI (.int i) (.int j)=.ok (.int (i*j)):=by rw[wO,ao1];exact .inr ⟨by omega,by omega⟩
@[simp]def alr(i j:Int):oDiv (.int i) (.int j)=if 0<j/\j<10^100 then .ok (.int (i/j))else .bad:=(rfl)
@[simp]def alq(i j:Int):oMod (.int i) (.int j)=if 0<j then .ok (.int (i%j))else .bad:=(rfl)
@[simp]def alp(i:Int):wM (.int i)=.ok (.int (-i)):=(rfl)
@[simp]def amK(i j:Int):oLt (.int i) (.int j)=.ok (.bl (decide (i<j))):=(rfl)
@[simp]def amL(i j:Int):oLe (.int i) (.int j)=.ok (.bl (decide (i<=j))):=(rfl)
@[simp]def amS(i j:Int):oGe (.int i) (.int j)=.ok (.bl (decide (j<=i))):=(rfl)
@[simp] def amU (i j:Int):oEq (.int i) (.int j)=.ok (.bl (decide (i=j))):=by show Res.ok (W.bl (i==j))=_;rw[aqS]
@[simp] theorem amJ (i j:Int):oNe (.int i) (.int j)=.ok (.bl (!decide (i=j))):=by show Res.ok (W.bl !(i==j))=_;rw[aqS]
@[simp] theorem ag7 (j:Int):oEq .non (.int j)=.ok (.bl false):=(rfl)
@[simp]def an6(a b:Bool):oEq (.bl a) (.bl b)=.ok (.bl (a==b)):=rfl
@[simp]def an5(a b:Bool):oNe (.bl a) (.bl b)=.ok (.bl (a !=b)):=rfl
@[simp]def amR(x:W):oIs x .non=.ok (.bl (mU x)):=(rfl)
@[simp]def ah6(x:W):i0 x .non=.ok (.bl (!mU x)):=(rfl)
@[simp]def akt:mU .non=true:=(rfl)
@[simp]def aku(i:Int):mU (.int i)=false:=(rfl)
@[simp]def uK(xs:List W)(i:Int):oIx (.lst xs) (.int i)=ofO (atI xs i):=(rfl)
@[simp]def amM(xs:List W)(i:Int):oIx (.tup xs) (.int i)=ofO (atI xs i):=(rfl)
@[simp]def amH(xs:List W)(l h:Option Int):oSl (.lst xs) l h=.ok (.lst (cut xs l h)):=(rfl)
def gO{a:Type}(xs:List a)(k:Nat):atI xs (k:Int)=xs[k]?:=by
 unfold atI ixN;by_cases h:k<xs.length;·rw[ao1 (by omega),ao1 (by omega)];simp
 ·rw[ao1 (by omega),ao2 (by omega)];simp;omega
@[simp]def anD{a:Type}(xs:List a)(k:Nat):atI xs (no_index(@OfNat.ofNat Int k _))=xs[k]?:=gO xs k
def afN{a:Type}(xs:List a){i:Int}(h:0<=i):atI xs i=xs[i.toNat]?:=by have e:=gO xs i.toNat;rwa[Int.toNat_of_nonneg h]at e
@[simp]def alL(xs:List W):gf [.lst xs]=.ok (.int xs.length):=(rfl)
@[simp]def alK(xs:List W):gf [.tup xs]=.ok (.int xs.length):=(rfl)
@[simp]def aif(xs:List W):ib [.lst xs]=.ok (.tup xs):=(rfl)
@[simp]def aie(xs:List W):ib [.tup xs]=.ok (.tup xs):=(rfl)
@[simp]def ak2(xs:List W):vy [.lst xs]=.ok (.lst xs):=(rfl)
@[simp]def alN(i:Int):ahU [.int i]=.ok (.int (if i<0 then -i else i)):=(rfl)
@[simp]def ak1(i j:Int):vx [.int i,.int j]=.ok (.int (if j>i then j else i)):=(rfl)
noncomputable def oB(o:Option Bool):Res W:=match o with|some b=>.ok (.bl b)|none=>.bad
@[simp]def amV(b:Bool):oB (some b)=.ok (.bl b):=(rfl)
@[simp]def aih(x:W)(t:String):bY [x,.ty t]=oB (isK x t):=by cases h:isK x t<;>simp[bY,oB,h]
@[simp]def anB(xs:List W):ac0 [.lst xs]=oB (allB xs):=by cases h:allB xs<;>simp[ac0,oB,h]
@[simp]def ahn(e:EF)(σ:Ws):uW e σ=(e σ).bind itemsOf:=(rfl)
def amk:W->Res (List W)|.int j=>if -(2^62)<=j/\j<2^62 then .ok (rng 0 j.toNat)else .bad|_=>.bad
@[simp]def adI(j:Int):amk (.int j)=if -(2^62)<=j/\j<2^62 then .ok (rng 0 j.toNat)else .bad:=(rfl)
@[simp]def aeu(e:EF)(σ:Ws):mW e σ=(e σ).bind amk:=by unfold mW amk;congr 1
def amj:W->W->Res (List W)|.int i,.int j=>if -(2^62)<=i/\i<2^62/\-(2^62)<=j/\j<2^62 then .ok (rng i (j-i).toNat)else .bad|_,_=>.bad
@[simp]def alg(i j:Int):amj (.int i) (.int j)=if -(2^62)<=i/\i<2^62/\-(2^62)<=j/\j<2^62 then .ok (rng i (j-i).toNat)else .bad:=(rfl)
@[simp]def alB(e a:EF)(σ:Ws):rY e a σ=(e σ).bind λx=>(a σ).bind λy=>amj x y:=by unfold rY amj;congr 1
def aeG:W->Res (List W)|.tup xs=>.ok (dB 0 xs)|.lst xs=>.ok (dB 0 xs)|_=>.bad
@[simp]def akM(xs:List W):aeG (.lst xs)=.ok (dB 0 xs):=(rfl)
@[simp]def akL(xs:List W):aeG (.tup xs)=.ok (dB 0 xs):=(rfl)
@[simp]def alC(e:EF)(σ:Ws):uX e σ=(e σ).bind aeG:=by unfold uX aeG;congr 1
@[simp] def yp (lo:Int) (n:Nat):(rng lo n).length=n:=by simp[rng]
theorem uq (lo:Int) (n i:Nat) (x:W) (h:(rng lo n)[i]?=some x):i<n/\x=.int (lo+i):=by
  have a:i<n:=by
    have:=(ao3.mp h).1
    simpa using this
  simp only[rng,apo,aqY a] at h
  exact⟨a,(apf h).symm⟩
@[simp]def pZ(i:Nat)(w:W)(σ:Ws):aA i w σ=.ok (σ.set i (.va w)):=(rfl)
@[simp]def xo(σ:Ws):xt [] σ=.ok σ:=(rfl)
@[simp]def oG(g:GF)(d:GsF)(w:W)(r:List W)(σ:Ws):di g d (w::r) σ=(vt (g w σ)).bind λb=>vt (d r b):=by unfold di;show(match g w σ with|.ok b=>(match d r b with|.ok σ2=>Res.ok σ2|_=>.bad)|_=>.bad)=_;cases g w σ with|ok a=>simp only[eP,cn];cases d r a<;>rfl|ex c=>rfl|bad=>rfl
@[simp]def xj(a:GsF)(ws:List W)(σ:Ws):xn a (.tup ws) σ=a ws σ:=(rfl)
def aoz(σ:Ws)(i:Nat)(ws:List W)(w:W):Res W->Res Ws|.ok (.int k)=>(match ixN ws.length k with|some j=>.ok (σ.set i (.ow (ws.set j w)))|none=>.bad)|_=>.bad
def aoT(σ:Ws)(i:Nat)(w:W)(r:Res W):Option Sl->Res Ws|some (.ow ws)=>aoz σ i ws w r|_=>.bad
noncomputable def anb(σ:Ws)(i:Nat):Option Sl->Ws|some (.ow ws)=>σ.set i (.va (.lst ws))|some (.od ks vs)=>σ.set i (.va (.dic ks vs))|_=>σ
@[simp]def aof(i:Nat)(σ:Ws):frz i σ=anb σ i σ[i]?:=by unfold frz anb;split<;>simp_all
@[simp]def ana(σ:Ws)(i:Nat)(ws:List W):anb σ i (some (.ow ws))=σ.set i (.va (.lst ws)):=(rfl)
def plR:Res W->Res W|.ok w=>if plain w then .ok w else .bad|_=>.bad
@[simp]def anZ(w:W):plR (.ok w)=if plain w=true then .ok w else .bad:=(rfl)
@[simp]def anp(i:Nat)(e:EF)(σ:Ws):afI i e σ=plR (e (frz i σ)):=by unfold afI plR;cases e (frz i σ)<;>rfl
@[simp]def al6(i:Nat)(t:TF)(σ:Ws):aiZ i t σ=vt (t (frz i σ)):=by unfold aiZ vt;cases t (frz i σ)<;>rfl
@[simp]def ajt(i:Int):plain (.int i)=true:=(rfl)
@[simp]def ajs:plain .non=true:=(rfl)
@[simp]def ajr(b:Str):plain (.str b)=true:=(rfl)
@[simp] def ajq (xs:List W):plain (.tup xs)=fZ xs:=by simp[plain]
@[simp] theorem ah4:fZ []=true:=by simp[fZ]
@[simp] theorem agQ (x:W) (xs:List W):fZ (x::xs)=(plain x&&fZ xs):=by simp[fZ]
theorem yr (xs:List W):fZ xs=true ↔ ∀ x∈xs,plain x=true:=by
  induction xs with
  | nil=>simp
  | cons x xs ih=>simp[ih]
@[simp]def alA(k:Nat)(it:LF)(g:GF)(t:TF)(e:EF)(σ:Ws):aen k it g t e σ=(it σ).bind λa=>if a.length<=lim then vt (bA g t e (List.replicate k .no++σ) a)else .bad:=by unfold aen;congr 1;funext a;cases bA g t e (List.replicate k .no++σ) a<;>rfl
@[simp]def alI(k:Nat)(it:LF)(g:GF)(t:TF)(e:EF)(σ:Ws):jX k it g t e σ=(aen k it g t e σ).bind λa=>.ok (.lst a):=(rfl)
noncomputable def ua(o:Out)(b:SF):Out:=match o with|.nx σ'=>b σ'|o=>o
@[simp]def lY(σ:Ws)(b:SF):ua (.nx σ) b=b σ:=(rfl)
@[simp]def ama(w:W)(b:SF):ua (.rt w) b=.rt w:=(rfl)
@[simp]def ald(p:Prop)[Decidable p](x y:Out)(b:SF):ua (if p then x else y) b=if p then ua x b else ua y b:=by split<;>rfl
@[simp]def gp(a b:SF)(σ:Ws):aK a b σ=ua (a σ) b:=(rfl)
@[simp]def anS(σ:Ws):sNx σ=.nx σ:=(rfl)
@[simp]def aaB(i:Nat)(e:EF)(σ:Ws):bK i e σ=ofR σ (e σ) λw=>.nx (σ.set i (.va w)):=(rfl)
@[simp]def ale(i:Nat)(l:LF)(σ:Ws):qT i l σ=ofR σ (l σ) λws=>.nx (σ.set i (.ow ws)):=(rfl)
@[simp]def afe(t:TF)(a b:SF)(σ:Ws):sIf t a b σ=ofR σ (t σ) λx=>if x=true then a σ else b σ:=by unfold sIf;congr 1;funext x;cases x<;>rfl
@[simp]def ame(e:EF)(σ:Ws):bz e σ=ofR σ (e σ) λw=>.rt w:=(rfl)
@[simp]def alf(e:EF)(σ:Ws):agE e σ=ofR σ (e σ) λ_=>.nx σ:=(rfl)
def anF(σ:Ws)(i:Nat)(r:Res W):Option Sl->Out|some (.ow ws)=>ofR σ r λw=>if ws.length<lim then .nx (σ.set i (.ow (ws++[w])))else .bad|_=>.bad
@[simp]def ami(i:Nat)(e:EF)(σ:Ws):ah2 i e σ=anF σ i (e σ) σ[i]?:=by unfold ah2 anF;split<;>simp_all
@[simp]def anE(σ:Ws)(i:Nat)(r:Res W)(ws:List W):anF σ i r (some (.ow ws))=ofR σ r λw=>if ws.length<lim then .nx (σ.set i (.ow (ws++[w])))else .bad:=(rfl)
@[simp]def amg(i:Nat)(t:SF)(σ:Ws):ah1 i t σ=t (frz i σ):=(rfl)
@[simp]def aaC(it:LF)(g:GF)(b:SF)(σ:Ws):nE it g b σ=ofR σ (it σ) λa=>forL g b a σ:=(rfl)
@[simp]def ai6(n:Ws->Nat)(c:TF)(b:SF)(σ:Ws):aaA n c b σ=iG c b (n σ) σ:=(rfl)
@[simp]def amb(c:W)(σ:Ws)(b:SF):ua (.ex c σ) b=.ex c σ:=(rfl)
@[simp]def ahN(d nm:String)(fs:List W):jZ d (.exc nm fs)=kX nm d:=(rfl)
noncomputable def ak9(o:Out)(k:W->Ws->Out):Out:=match o with|.ex c σ=>k c σ|o=>o
@[simp]def alV(σ:Ws)(k:W->Ws->Out):ak9 (.nx σ) k=.nx σ:=(rfl)
@[simp]def alW(c:W)(σ:Ws)(k:W->Ws->Out):ak9 (.ex c σ) k=k c σ:=(rfl)
@[simp]def amd(b:SF)(d:String)(h:SF)(σ:Ws):ai7 b d h σ=ak9 (b σ) (hOut d h):=by unfold ai7 ak9;rfl
noncomputable def amX(o:Out):Out:=match o with|.ex _ _=>.bad|o=>o
@[simp]def amW(σ:Ws):amX (.nx σ)=.nx σ:=(rfl)
@[simp]def am8(d:String)(h:SF)(c:W)(σ:Ws):hOut d h c σ=if jZ d c then amX (h σ)else .bad:=by unfold hOut amX;rfl
noncomputable def fin:Out->Res W|.rt w=>.ok w|.nx _=>.ok .non|.ex c _=>.ex c|_=>.bad
@[simp]def aoi(w:W):fin (.rt w)=.ok w:=(rfl)
@[simp]def aoj(c:W)(σ:Ws):fin (.ex c σ)=.ex c:=(rfl)
@[simp]def ane(p:Prop)[Decidable p](x y:Out):fin (if p then x else y)=if p then fin x else fin y:=by split<;>rfl
@[simp]def run_eq(n:Nat)(t:SF)(ws:List W):run n t ws=fin (t (ws.map .va++List.replicate (n-ws.length) .no)):=by unfold run fin;rfl
@[simp]def abx:lim=1000000:=(rfl)
noncomputable def yO(o:Out)(k:SF):Out:=match o with|.nx σ2=>k σ2|.ct σ2=>k σ2|.bk σ2=>.nx σ2|o=>o
@[simp]def alx(σ:Ws)(k:SF):yO (.nx σ) k=k σ:=(rfl)
@[simp]def alw(w:W)(k:SF):yO (.rt w) k=.rt w:=(rfl)
def tQ(c:TF)(b:SF)(n:Nat)(σ:Ws):iG c b (n+1) σ=ofR σ (c σ) λx=>if x=true then yO (b σ) (iG c b n)else .nx σ:=by
 show ofR σ (c σ) _=_;congr 1;funext x;cases x;·rfl
 ·simp only[apU];cases b σ<;>rfl
def dj(g:GF)(b:SF)(x:W)(xs:List W)(σ:Ws):forL g b (x::xs) σ=ofR σ (g x σ) λa=>yO (b a) (forL g b xs):=by show ofR σ (g x σ) _=_;congr 1
@[simp]def alF(g:GF)(b:SF)(σ:Ws):forL g b [] σ=.nx σ:=(rfl)
theorem p7{g:GF}{b:SF}:∀{xs:List W}(P:Nat->Ws->Prop){σ:Ws},P 0 σ->(∀(i:Nat)(x:W)(σ:Ws),xs[i]?=some x->P i σ->∃d,g x σ=.ok d/\∃c,b d=.nx c/\P (i+1) c)->∃a,forL g b xs σ=.nx a/\P xs.length a|[],P,σ,h0,_=>⟨σ,rfl,h0⟩|x::xs,P,σ,h0,hs=>by obtain⟨d,j,c,k,e⟩:=hs 0 x σ rfl h0;obtain⟨a,l,h⟩:=p7 (xs:=xs) (λi σ=>P (i+1) σ) e λi y σ m f=>hs (i+1) y σ (by simpa using m) f;exact⟨a,by simp only[forL,j,k,hY];exact l,h⟩
theorem u0{g:GF}{b:SF}:∀{xs:List W}(P:Nat->Ws->Prop)(R:Nat->W->Prop){σ:Ws},P 0 σ->(∀(i:Nat)(x:W)(σ:Ws),xs[i]?=some x->P i σ->∃a,g x σ=.ok a/\((∃d,b a=.nx d/\P (i+1) d)\/∃w,b a=.rt w/\R i w))->(∃c,forL g b xs σ=.nx c/\P xs.length c)\/∃i w,i<xs.length/\forL g b xs σ=.rt w/\R i w
|[],P,R,σ,h0,_=>.inl ⟨σ,rfl,h0⟩|x::xs,P,R,σ,h0,hs=>by
 obtain⟨a,j,h⟩:=hs 0 x σ rfl h0;rcases h with⟨d,e,f⟩|⟨w,e,f⟩
 ·rcases u0 (xs:=xs) (λi σ=>P (i+1) σ) (λi w=>R (i+1) w) f λi y σ l k=>hs (i+1) y σ (by simpa using l) k with⟨c,e3,h3⟩|⟨i,w,hi,e3,h3⟩;·exact .inl ⟨c,by simp only[forL,j,e,hY];exact e3,h3⟩
  ·exact .inr ⟨i+1,w,by simpa using hi,by simp only[forL,j,e,hY];exact e3,h3⟩
 ·exact .inr ⟨0,w,by simp,by simp only[forL,j,e,hY],f⟩
theorem dY{g:GF}{t:TF}{e:EF}{σ:Ws}{b:Type}{emb f:b->W}:∀{xs:List b},(∀x∈xs,∃a,g (emb x) σ=.ok a/\t a=.ok true/\e a=.ok (f x))->bA g t e σ (xs.map emb)=.ok (xs.map f)|[],_=>rfl|x::xs,h=>by obtain⟨a,c,d,k⟩:=h x (by simp);have j:=dY (xs:=xs) λy i=>h y (by simp[i]);simp only[ao9,bA,c,d,k,cn,j]
end WL
namespace ML
open PySem WL
abbrev S3:=Int×Int×Int
noncomputable def stW(p:S3):W:=.tup [.int p.1,.int p.2.1,.int p.2.2]
noncomputable def spW(p:Int×Int):W:=.tup [.int p.1,.int p.2]
def flW(f:List S3):W:=.tup (f.map stW)
noncomputable def cp(p:S3):Int×Int:=(p.1,p.2.1)
@[simp] def ag4 (n:Nat) (i:Int):okD n (.int i)=true:=by simp[okD]
@[simp] theorem an3 (n:Nat) (p:Int×Int):okD (n+1) (spW p)=true:=by simp[okD,dQ,spW]
@[simp] theorem an2 (n:Nat) (p:S3):okD (n+1) (stW p)=true:=by simp[okD,dQ,stW]
theorem gU (n:Nat):∀(a:List W),(∀ x∈a,okD n x=true)->dQ (n+1) a=true
  | [],_=>by simp[dQ]
  | x::a,h=>by simp only[dQ,apg];exact⟨h x (by simp),gU n a λy b=>h y (by simp[b])⟩
@[simp]def aa9(n:Nat)(f:List S3):okD (n+2) (flW f)=true:=by simp only[okD,flW];exact gU (n+1) _ λx a=>by obtain⟨p,_,rfl⟩:=apv.mp a;simp
def afG(p q:Int×Int):eqv (spW p) (spW q)=decide (p=q):=by obtain⟨a,b⟩:=p;obtain⟨c,d⟩:=q;rw[apB];simp[eqv,xC,spW]
def xD(p q:S3):eqv (stW p) (stW q)=decide (p=q):=by obtain⟨a,b,e⟩:=p;obtain⟨c,d,k⟩:=q;rw[apB];simp[eqv,xC,stW]
theorem ab6:∀f g:List S3,xC (f.map stW) (g.map stW)=decide (f=g)|[],[]=>by simp[xC]|[],_::_=>by simp[xC]|_::_,[]=>by simp[xC]|p::f,q::g=>by simp only[ao9,xC,xD,ab6 f g];rw[apB];simp
def afH(f g:List S3):eqv (flW f) (flW g)=decide (f=g):=by simp only[flW,eqv,ab6]
@[simp]def afs(p q:Int×Int):oEq (spW p) (spW q)=.ok (.bl (decide (p=q))):=by have:aau (spW p) (spW q)=false:=rfl;simp[oEq,this,afG]
@[simp] def wu (p:S3):plain (stW p)=true:=by simp[stW]
@[simp] theorem ajp (f:List S3):fZ (f.map stW)=true:=(yr _).mpr λx a=>by
  obtain⟨p,_,rfl⟩:=apv.mp a
  simp
@[simp]def amO(p:Int×Int):oIx (spW p) (.int 0)=.ok (.int p.1):=(rfl)
@[simp]def amN(p:Int×Int):oIx (spW p) (.int 1)=.ok (.int p.2):=(rfl)
def afr{f:List S3}{p:S3}{k:Int}(h0:0<=k)(h:f[k.toNat]?=some p):oIx (flW f) (.int k)=.ok (stW p):=by simp[flW,afN _ h0,h]
noncomputable def sfp(p:S3)(m n:Int):Int×Int:=if p.2.2=0 then(p.1+n,p.2.1+m)else if p.2.2=1 then(p.1-m,p.2.1+n)else if p.2.2=2 then(p.1-n,p.2.1-m)else(p.1+m,p.2.1-n)
noncomputable def ae1(s:Int×Int):Nat->List S3->W|_,[]=>.non|k,p::f=>if cp p=s then .int k else ae1 s (k+1) f
def aR(f:List S3):Nat->List S3:=λi=>f.map (FM.tqn i)
def aj5(p q:S3):ltW (stW p) (stW q)=FM.lx [p.1,p.2.1,p.2.2] [q.1,q.2.1,q.2.2]:=by obtain⟨a,b,c⟩:=p;obtain⟨d,e,f⟩:=q;simp only[stW,ltW,aef,FM.lx,eqv,ap8]
theorem wY:∀(a b c d:List Int),a.length=b.length->FM.lx (a++c) (b++d)=if a=b then FM.lx c d else FM.lx a b
|[],[],c,d,_=>by simp|[],_::_,_,_,h=>by simp at h|_::_,[],_,_,h=>by simp at h|x::a,y::b,c,d,h=>by
 have f:=wY a b c d (by simpa using h);simp only[ap1,FM.lx,f];by_cases e:x=y;·subst e;simp
 ·simp[e]
theorem abq:∀f g:List S3,aef (f.map stW) (g.map stW)=FM.lx (FM.flat f) (FM.flat g)|[],[]=>by simp[aef,FM.flat,FM.lx]|[],_::_=>by simp[aef,FM.flat,FM.lx]|_::_,[]=>by simp[aef,FM.flat,FM.lx]|p::f,q::g=>by have h:=wY [p.1,p.2.1,p.2.2] [q.1,q.2.1,q.2.2] (FM.flat f) (FM.flat g) rfl;simp only[ap1,aqr]at h;simp only[ao9,aef,FM.flat,xD,abq f g,aj5,h];obtain⟨a,b,c⟩:=p;obtain⟨d,e,k⟩:=q;simp
def aj6(f g:List S3):ltW (flW f) (flW g)=FM.lx (FM.flat f) (FM.flat g):=by simp only[flW,ltW,abq]
theorem xG:∀f g:List S3,sR (f.map stW) (g.map stW)=true|[],_=>by simp[sR]|_::_,[]=>by simp[sR]|p::f,q::g=>by simp[ao9,sR,stW,afL,xG f g]
def ahL(f g:List S3):afL (flW f) (flW g)=true:=by simp only[flW,afL,xG]
theorem tD(a:Nat->Nat->Bool):∀k,ac1 a k=FM.best a k|0=>rfl|k+1=>by simp only[ac1,FM.best,tD a k]
def abj(f:List S3):minOf [flW (aR f 0),flW (aR f 1),flW (aR f 2),flW (aR f 3)]=.ok (flW (FM.pick (aR f) 3)):=by
 have e:dQ 51 [flW (aR f 0),flW (aR f 1),flW (aR f 2),flW (aR f 3)]=true:=by simp[dQ]
 have g:([flW (aR f 0),flW (aR f 1),flW (aR f 2),flW (aR f 3)].all λx=>[flW (aR f 0),flW (aR f 1),flW (aR f 2),flW (aR f 3)].all λy=>afL x y)=true:=by simp[ahL]
 unfold minOf;rw[ao1 ⟨by simp,e,g⟩];have l:∀i j,i<=3->j<=3->(λi j=>ltW ([flW (aR f 0),flW (aR f 1),flW (aR f 2),flW (aR f 3)].getD i .non) ([flW (aR f 0),flW (aR f 1),flW (aR f 2),flW (aR f 3)].getD j .non)) i j=FM.lx (FM.flat (aR f i)) (FM.flat (aR f j)):=λi j c k=>by
  have d:∀i:Nat,i<=3->[flW (aR f 0),flW (aR f 1),flW (aR f 2),flW (aR f 3)].getD i .non=flW (aR f i):=λi c=>by match i,c with|0,_=>rfl|1,_=>rfl|2,_=>rfl|3,_=>rfl
  show ltW _ _=_;rw[d i c,d j k,aj6]
 have h:=FM.q3 (fs:=aR f) (n:=3) l 3 (by decide);have a:=FM.vw (λi j=>ltW ([flW (aR f 0),flW (aR f 1),flW (aR f 2),flW (aR f 3)].getD i .non) ([flW (aR f 0),flW (aR f 1),flW (aR f 2),flW (aR f 3)].getD j .non)) 3;rw[h,tD];show ofO ([flW (aR f 0),flW (aR f 1),flW (aR f 2),flW (aR f 3)][FM.best _ 3]?)=_;generalize FM.best (λi j=>ltW ([flW (aR f 0),flW (aR f 1),flW (aR f 2),flW (aR f 3)].getD i .non) ([flW (aR f 0),flW (aR f 1),flW (aR f 2),flW (aR f 3)].getD j .non)) 3=b at a⊢;match b,a with|0,_=>rfl|1,_=>rfl|2,_=>rfl|3,_=>rfl
mutual theorem eqv_refl:∀(n:Nat)(x:W),okD n x=true->eqv x x=true|_,.non,_=>by simp[eqv]|_,.bl _,_=>by simp[eqv]|_,.int _,_=>by simp[eqv]|_,.str _,_=>by simp[eqv]|_,.ty _,h=>by simp[okD]at h|n,.tup xs,h=>by simp only[eqv];exact m9 n xs (by simpa only[okD]using h)|n,.lst xs,h=>by simp only[eqv];exact m9 n xs (by simpa only[okD]using h)|_,.dic _ _,h=>by simp[okD]at h|_,.cls _,h=>by simp[okD]at h|_,.exc _ _,h=>by simp[okD]at h|_,.ins _ _,h=>by simp[okD]at h|_,.id _,h=>by simp[okD]at h theorem m9:∀(n:Nat)(xs:List W),dQ n xs=true->xC xs xs=true|_,[],_=>by simp[xC]|0,_::_,h=>by simp[dQ]at h|n+1,x::xs,h=>by simp only[dQ,apg]at h;simp only[xC,apg];exact⟨eqv_refl n x h.1,m9 (n+1) xs h.2⟩end
def wN{x:W}(h:okD 50 x=true):oNe x x=.ok (.bl false):=by unfold oNe;simp[h,eqv_refl 50 x h]
theorem toNat_inj{a b:Char}(h:a.toNat=b.toNat):a=b:=Char.ext (UInt32.toNat_inj.mp h)
@[simp]def afo(a b:String):(Str.ofString a=Str.ofString b)=(a=b):=by
 apply propext;constructor
 ·intro h;rw[arp,arp]at h;have c:a.toList.map Char.toNat=b.toList.map Char.toNat:=by have:=aqc Str.cps h;simpa using this
  have d:a.toList=b.toList:=List.map_inj_right (λ_ _=>toNat_inj)|>.mp c;exact String.toList_inj.mp d
 ·intro h;rw[h]
@[simp]def afp(a b:String):(Str.ofString a==Str.ofString b)=(a==b):=by rw[apB];simp
def ahM(c:Char):c.toNat<0x110000:=by have h:=c.valid;have a:c.toNat=c.val.toNat:=rfl;simp only[UInt32.isValidChar,Nat.isValidChar]at h;omega
@[simp]def amE(n:Nat)(a:String):okD n (.str (Str.ofString a))=true:=by simp only[okD,arp];simp only[List.all_toArray,List.all_map,apC,Function.comp,apz];intro c _;exact ahM c
@[simp] def aa8 (n:Nat) (xs:List W):okD n (.lst xs)=dQ n xs:=by simp[okD]
@[simp] theorem alm (n:Nat):dQ (n+1) []=true:=by simp[dQ]
@[simp] theorem ajR (n:Nat) (x:W) (xs:List W):dQ (n+1) (x::xs)=(okD n x&&dQ (n+1) xs):=by simp[dQ]
@[simp] theorem amT (a b:Str):oEq (.str a) (.str b)=.ok (.bl (decide (a=b))):=by show Res.ok (W.bl (a==b))=_;rw[aqS]
@[simp] theorem amI (a b:Str):oNe (.str a) (.str b)=.ok (.bl (!decide (a=b))):=by show Res.ok (W.bl !(a==b))=_;rw[aqS]
theorem mH (x:W) (ys:List W):oIn x (.tup ys)=if okD 50 x&&dQ 51 ys then .ok (.bl (cC x ys)) else .bad:=(rfl)
@[simp]def ang(a b:Str):eqv (.str a) (.str b)=(a==b):=rfl
@[simp]def anh(a b:Int):eqv (.int a) (.int b)=(a==b):=rfl
@[simp] def aii (x:W):cC x []=false:=by simp[cC]
@[simp] theorem vC (x y:W) (ys:List W):cC x (y::ys)=(eqv y x || cC x ys):=by simp[cC]
noncomputable def zN (s:Int×Int):Nat->List S3->Option Nat
  | _,[]=>none
  | k,p::f=>if cp p=s then some k else zN s (k+1) f
noncomputable def onW:Option Nat->W|none=>.non|some k=>.int k
@[simp]def alk:onW none=.non:=(rfl)
@[simp]def alj(k:Nat):onW (some k)=.int k:=(rfl)
theorem ae0(s:Int×Int):∀(k:Nat)(f:List S3),ae1 s k f=onW (zN s k f)|_,[]=>rfl|k,p::f=>by simp only[ae1,zN,ae0 s (k+1) f];split<;>rfl
theorem zM(s:Int×Int):∀(k:Nat)(f:List S3)(i:Nat),zN s k f=some i->k<=i/\i<k+f.length
|_,[],_,h=>by simp[zN]at h|k,p::f,i,h=>by
 simp only[zN]at h;split at h;·cases h;simp
 ·have:=zM s (k+1) f i h;simp only[aph];omega
inductive What where|none|any|same|left|about|right|partner|opposite
inductive Lone where|head|side|lefts|rights|inward|outward|sideways
noncomputable def What.w:What->String|.none=>"none"|.any=>"any"|.same=>"same"|.left=>"left"|.about=>"about"|.right=>"right"|.partner=>"partner"|.opposite=>"opposite"
noncomputable def Lone.w:Lone->String|.head=>"head"|.side=>"side"|.lefts=>"lefts"|.rights=>"rights"|.inward=>"inward"|.outward=>"outward"|.sideways=>"sideways"
inductive Tst where|lone(l:Lone)|at(a r:Int)(w:What)|inner(n:Int)
def Tst.W:Tst->WL.W|.lone l=>.tup [.str l.w]|.at a r w=>.tup [.str "at",.int a,.int r,.str w.w]|.inner n=>.tup [.str "inner",.int n]
def tsW(a:Bool)(t:Tst):WL.W:=if a then .tup [.str "not",t.W]else t.W
noncomputable def far(s:Int×Int):Int:=if(if s.2<0 then -s.2 else s.2)>(if s.1<0 then -s.1 else s.1)then(if s.2<0 then -s.2 else s.2)else(if s.1<0 then -s.1 else s.1)
noncomputable def eK(f:List S3)(k:Nat):Int:=(f.getD k (0,0,0)).2.2
def kM(f:List S3)(d:Nat)(p:S3)(w:What):Option Nat->Bool
|none=>match w with|.none=>true|_=>false
|some k=>match w with|.none=>false|.any=>true|.same=>decide (eK f k=p.2.2)|.left=>decide (eK f k=(p.2.2+1)%4)|.about=>decide (eK f k=(p.2.2+2)%4)|.right=>decide (eK f k=(p.2.2+3)%4)|.partner=>decide ((k:Int)=if(d:Int)%2=0 then(d:Int)+1 else d-1)|.opposite=>decide ((k:Int)=(d+4)%8)
def nN(f:List S3)(d:Nat)(p:S3):Tst->Bool|.lone .head=>decide ((d:Int)/2%2=0)|.lone .side=>!decide ((d:Int)/2%2=0)|.lone .lefts=>decide ((d:Int)%2=0)|.lone .rights=>!decide ((d:Int)%2=0)|.lone .inward=>decide (far (sfp p 1 0)<far (cp p))|.lone .outward=>decide (far (cp p)<far (sfp p 1 0))|.lone .sideways=>decide (far (sfp p 1 0)=far (cp p))|.inner n=>decide (far (cp p)<=n)|.at a r w=>kM f d p w (zN (sfp p a r) 0 f)
inductive Go where|ahead|back|left|right
inductive Tn where|left|right|about
noncomputable def Go.w:Go->String|.ahead=>"ahead"|.back=>"back"|.left=>"left"|.right=>"right"
noncomputable def Tn.w:Tn->String|.left=>"left"|.right=>"right"|.about=>"about"
inductive Stp where|go(g:Go)(n:Int)|turn(t:Tn)
def Stp.W:Stp->WL.W|.go g n=>.tup [.str g.w,.int n]|.turn t=>.tup [.str "turn",.str t.w]
structure Rl where ts:List (Bool×Tst)ss:Option (List Stp)
def tsL(ts:List (Bool×Tst)):WL.W:=.tup (ts.map λp=>tsW p.1 p.2)
def ssW:Option (List Stp)->WL.W|none=>.tup [.tup [.str "stay"]]|some l=>.tup (l.map Stp.W)
def Rl.W(r:Rl):WL.W:=.tup [tsL r.ts,ssW r.ss]
def clW(c:List Rl):WL.W:=.lst (c.map Rl.W)
def ag3{ι:Type}(n:Nat)(g:ι->W)(l:List ι)(h:∀x∈l,okD n (g x)=true):dQ (n+1) (l.map g)=true:=gU n _ λx b=>by obtain⟨p,a,rfl⟩:=apv.mp b;exact h p a
@[simp]def amQ(r:Rl):oIx r.W (.int 0)=.ok (tsL r.ts):=(rfl)
@[simp]def amP(r:Rl):oIx r.W (.int 1)=.ok (ssW r.ss):=(rfl)
def ajU{c:List Rl}{k:Nat}(a:k<c.length):oIx (clW c) (.int k)=.ok c[k].W:=by simp[clW,gO,a]
noncomputable def ajW(g b:Bool):Bool:=if g then !b else b
def agF(f:List S3)(d:Nat)(r:Rl):Bool:=r.ts.all λp=>ajW p.1 (nN f d (f.getD d (0,0,0)) p.2)
noncomputable def kO(f:List S3)(d:Nat):Nat->List Rl->Option Nat|_,[]=>none|k,r::c=>if agF f d r then some k else kO f d (k+1) c
theorem pz(f:List S3)(d:Nat):∀(k:Nat)(c:List Rl)(i:Nat),kO f d k c=some i->k<=i/\i<k+c.length
|_,[],_,h=>by simp[kO]at h|k,r::c,i,h=>by
 simp only[kO]at h;split at h;·cases h;simp
 ·have:=pz f d (k+1) c i h;simp only[aph];omega
def xO(l:List Bool):allB (l.map .bl)=some (l.all id):=by induction l with|nil=>rfl|cons b l ih=>simp[ao9,allB,ih]
abbrev nX(f:List S3):Prop:=f.Pairwise λp r=>cp p≠cp r
inductive Met(f:List S3):W->Prop|none:nX f->Met f .non|two(i j:Nat):i<j->j<f.length->cp (f.getD i (0,0,0))=cp (f.getD j (0,0,0))->(∀a b,a<i->a<b->b<f.length->cp (f.getD a (0,0,0))≠cp (f.getD b (0,0,0)))->(∀b,i<b->b<j->cp (f.getD i (0,0,0))≠cp (f.getD b (0,0,0)))->Met f (.tup [.int i,.int j])
def aeU{f:List S3}(h:∀a b,a<b->b<f.length->cp (f.getD a (0,0,0))≠cp (f.getD b (0,0,0))):nX f:=by rw[nX,ase];intro i j e d c;have:=h i j c d;simpa[apj,e,d]using this
def la{f:List S3}(h:nX f){a b:Nat}(c:a<b)(e:b<f.length):cp (f.getD a (0,0,0))≠cp (f.getD b (0,0,0)):=by
 rw[nX,ase]at h;have d:a<f.length:=by omega
 have:=h a b d e c;simpa[apj,d,e]using this
def t9(p:S3):Stp->S3|.go .ahead n=>((sfp p n 0).1,(sfp p n 0).2,p.2.2)|.go .back n=>((sfp p (-n) 0).1,(sfp p (-n) 0).2,p.2.2)|.go .left n=>((sfp p 0 (-n)).1,(sfp p 0 (-n)).2,p.2.2)|.go .right n=>((sfp p 0 n).1,(sfp p 0 n).2,p.2.2)|.turn .left=>(p.1,p.2.1,(p.2.2+1)%4)|.turn .about=>(p.1,p.2.1,(p.2.2+2)%4)|.turn .right=>(p.1,p.2.1,(p.2.2+3)%4)
noncomputable def kK(p:S3):List Stp->List S3|[]=>[p]|s::l=>p::kK (t9 p s) l
def kP(p:S3):Option (List Stp)->List S3|none=>[p]|some l=>kK p l
def Fac(p:S3):Prop:=0<=p.2.2/\p.2.2<4
def qB(p:S3)(s:Stp)(h:Fac p):Fac (t9 p s):=by obtain⟨a,b⟩:=h;cases s with|go g n=>cases g<;>exact⟨a,b⟩|turn t=>cases t<;>(constructor<;>simp only[t9]<;>omega)
theorem qD:∀(l:List Stp)(p:S3),Fac p->∀q∈kK p l,Fac q
|[],p,h,q,a=>by simp only[kK,ap2]at a;rw[a];exact h|s::l,p,h,q,a=>by
 simp only[kK,apl]at a;rcases a with rfl|a;·exact h
 ·exact qD l _ (qB p s h) q a
def rh(s:Option (List Stp))(p:S3)(h:Fac p):∀q∈kP p s,Fac q:=by cases s with|none=>intro q a;simp only[kP,ap2]at a;rw[a];exact h|some l=>exact qD l p h
theorem qC:∀(l:List Stp)(p:S3),(kK p l).length=l.length+1|[],p=>rfl|s::l,p=>by simp[kK,qC l]
def yb:∀(l:List Stp)(p:S3),∃t,kK p l=p::t|[],p=>⟨[],rfl⟩|s::l,p=>⟨_,rfl⟩
def yw(s:Option (List Stp))(p:S3):∃t,kP p s=p::t:=by cases s with|none=>exact⟨[],rfl⟩|some l=>exact yb l p
noncomputable def inB(p:S3):Bool:=decide (-200<=p.1)&&decide (p.1<=200)&&(decide (-200<=p.2.1)&&decide (p.2.1<=200))
noncomputable def gC(w:List S3):S3:=w.getLastD (0,0,0)
def oS(w:List S3):W:=.lst (w.map stW)
def kJ(ws:List (List S3)):W:=.lst (ws.map oS)
noncomputable def smW:Option (List Nat)->W|none=>.non|some l=>.lst (l.map λk:Nat=>.int k)
noncomputable def alJ(a:Option (List Nat))(d:Nat):Bool:=match a with|none=>true|some l=>l.contains d
def ny(f:List S3)(c:List Rl)(a:Option (List Nat))(d:Nat):Option (Option (List Stp)):=if alJ a d then(kO f d 0 c).map λk=>(c.getD k ⟨[],none⟩).ss else some (some [])
def cE(f:List S3)(c:List Rl)(a:Option (List Nat)):List (List S3):=(List.range 8).map λd=>kP (f.getD d (0,0,0)) ((ny f c a d).getD none)
noncomputable def zq:Nat->List (List S3)->Option Nat|_,[]=>none|k,w::ws=>if(w.drop 1).all inB then zq (k+1) ws else some k
noncomputable def exN(nm:String)(d:Nat):W:=.exc nm [.int d]
def oR(f:List S3)(c:List Rl)(a:Option (List Nat)):Res (List (List S3)):=match(List.range 8).find? λd=>(ny f c a d).isNone with|some d=>.ex (exN "Blind" d)|none=>match zq 0 (cE f c a)with|some d=>.ex (exN "Out" d)|none=>.ok (cE f c a)
noncomputable def ah3{a:Type}:List (Res a)->Res (List a)|[]=>.ok []|r::rs=>r.bind λx=>(ah3 rs).bind λb=>.ok (x::b)
theorem sQ{g:GF}{t:TF}{e:EF}{σ:Ws}{b:Type}{emb:b->W}{h:b->Res W}:∀{xs:List b},(∀x∈xs,∃a,g (emb x) σ=.ok a/\t a=.ok true/\e a=h x)->bA g t e σ (xs.map emb)=ah3 (xs.map h)|[],_=>rfl|x::xs,hh=>by obtain⟨a,c,d,j⟩:=hh x (by simp);have i:=sQ (xs:=xs) λy f=>hh y (by simp[f]);simp only[ao9,bA,c,d,j,cn,ah3,i]
noncomputable def stR{b:Type}(k:b->W)(x:W):Option b->Res W|some a=>.ok (k a)|none=>.ex x
noncomputable def stN{b:Type}(k:b->W):Option b->W|some a=>k a|none=>.non
@[simp]def adD{b:Type}(k:b->W)(x:W)(a:b):stR k x (some a)=.ok (k a):=(rfl)
@[simp]def ala{a:Type}(k:a->W)(x:W):stR k x none=.ex x:=(rfl)
@[simp]def alb{b:Type}(k:b->W)(a:b):stN k (some a)=k a:=(rfl)
theorem qV{c b:Type}{h:b->Option c}{k:c->W}{x:b->W}:∀(l:List b),ah3 (l.map λi=>stR k (x i) (h i))=(l.find? λi=>(h i).isNone).elim (.ok (l.map λi=>stN k (h i))) λi=>.ex (x i)|[]=>rfl|i::l=>by simp only[ao9,ah3,ap6];cases e:h i with|none=>simp|some a=>simp only[adD,cn,Option.isNone_some];rw[qV l];cases l.find? λi=>(h i).isNone<;>rfl
def abz{w:List S3}(h:w≠[]):gC w∈w:=by unfold gC;cases w with|nil=>exact absurd rfl h|cons x xs=>rw[asf,aqN h];exact List.getLast_mem h
def k9{b:Type}(xs:List b):atI xs (-1)=xs.getLast?:=by unfold atI ixN;cases xs with|nil=>rfl|cons x xs=>
 have h:¬(0:Int)<=-1:=by omega
 rw[ao2 h];have a:-(((x::xs).length:Nat):Int)<=-1:=by simp only[aph];omega
 rw[ao1 a];simp only[asu,List.getLast?_eq_getElem?];congr 1;simp only[aph];omega
end ML
namespace K66
open PySem WL
noncomputable def xM:W:=(.tup [(.tup [(.int (-1)),(.int (-3)),(.int 0)]),(.tup [(.int 1),(.int (-3)),(.int 0)]),(.tup [(.int 3),(.int (-1)),(.int 1)]),(.tup [(.int 3),(.int 1),(.int 1)]),(.tup [(.int 1),(.int 3),(.int 2)]),(.tup [(.int (-1)),(.int 3),(.int 2)]),(.tup [(.int (-3)),(.int 1),(.int 3)]),(.tup [(.int (-3)),(.int (-1)),(.int 3)])])
noncomputable def dZ:W:=(.int 8)
noncomputable def j4:W:=(.int 200)
noncomputable def j3:W:=(.tup [(.tup [(.int 0),(.int 1)]),(.tup [(.int (-1)),(.int 0)]),(.tup [(.int 0),(.int (-1))]),(.tup [(.int 1),(.int 0)])])
noncomputable def cB:W:=(.int 4)
noncomputable def jf:W:=(.dic [(.str "same"),(.str "left"),(.str "about"),(.str "right")] [(.int 0),(.int 1),(.int 2),(.int 3)])
noncomputable def jg:W:=(.tup [(.str "inward"),(.str "outward"),(.str "sideways")])
noncomputable def gM:W:=(.dic [(.str "ahead"),(.str "back"),(.str "left"),(.str "right")] [(.tup [(.int 1),(.int 0)]),(.tup [(.int (-1)),(.int 0)]),(.tup [(.int 0),(.int (-1))]),(.tup [(.int 0),(.int 1)])])
noncomputable def sZ:W:=(.int 12)
noncomputable def sX:W:=(.int 6)
noncomputable def sY:W:=(.int 8)
noncomputable def cN:W:=(.int 9)
noncomputable def nU:W:=(.int 200)
noncomputable def nV:W:=(.int 9)
noncomputable def vv:W:=(.tup [(.str "none"),(.str "any"),(.str "same"),(.str "left"),(.str "about"),(.str "right"),(.str "partner"),(.str "opposite")])
noncomputable def gL:W:=(.tup [(.str "head"),(.str "side"),(.str "lefts"),(.str "rights"),(.str "inward"),(.str "outward"),(.str "sideways")])
noncomputable def fh:W:=(.tup [(.str "ahead"),(.str "back"),(.str "left"),(.str "right")])
noncomputable def j1:W:=(.tup [(.str "left"),(.str "right"),(.str "about")])
noncomputable def s9:W:=(.int 60)
noncomputable def nW:W:=(.int 8)
noncomputable def nq:W:=(.str "abcdefghijklmnopqrstuvwxyz")
noncomputable def acS:W:=(.tup [(.str "times"),(.str "heads"),(.str "sides"),(.str "lefts"),(.str "rights"),(.str "inner"),(.str "couples")])
def qw:SF:=(aK (sIf (tOr (vR (tB (eBi bY (ae (aj 0) (ae (eC (.ty "str")) av))))) (vR (tB (kF oLe oLe (eC (.int 1)) (eBi zk (ae (aj 0) av)) (eC nW))))) (bz (eC (.bl false))) sNx) (bz (aeH (eOp fy (aj 0) (eC acS)) (eBi ac0 (ae (jX 1 (aoe (aj 0)) (aA 0) nv (eOp ah7 (aj 0) (eC nq))) av)))))
def sk:List W->Res W:=run 1 qw
def i4:SF:=(sIf (tB (eOp oEq (eBi zi (ae (aj 3) av)) (aj 0))) (bz (aj 3)) sNx)
def lN:SF:=(aK (nE (rY (aj 1) (eOp gb (aj 2) (eC (.int 1)))) (aA 3) i4) (bz (eC .non)))
def m8:List W->Res W:=run 4 lN
def iJ:SF:=(aK (bK 3 (ay m8 (ae (aj 0) (ae (aj 1) (ae (aj 2) av))))) (aK (sIf (tB (eOp oIs (aj 3) (eC .non))) uj sNx) (bz (aj 3))))
def cJ:List W->Res W:=run 4 iJ
def lI:SF:=(aK (sIf (x8 (tB (eOp oEq (aj 0) (eC (.str "turn")))) (tB (eOp oIn (aj 1) (eC j1)))) (bz (kE (ae (aj 0) (ae (aj 1) av)))) sNx) (aK (sIf (tB (eOp fy (aj 0) (eC fh))) uj sNx) (bz (kE (ae (aj 0) (ae (ay cJ (ae (aj 1) (ae (eC (.int 1)) (ae (eC nV) av)))) av))))))
def m5:List W->Res W:=run 2 lI
def kc:SF:=(aK (sIf (tB (eOp oEq (aj 0) (eC (.str "stay")))) (bz (kE (ae (kE (ae (eC (.str "stay")) av)) av))) sNx) (aK (bK 1 (acb "str" h7 (aj 0) (ae (eC (.str " ")) av))) (aK (sIf (tOr (tB (eOp oNe (eOp oMod (eBi gf (ae (aj 1) av)) (eC (.int 2))) (eC (.int 0)))) (tB (eOp oGt (eBi gf (ae (aj 1) av)) (eOp tI (eC (.int 2)) (eC sY))))) uj sNx) (bz (eBi ib (ae (jX 1 (aet (eC (.int 0)) (eBi gf (ae (aj 1) av))) (aA 0) nv (ay m5 (ae (eOp oIx (aj 2) (aj 0)) (ae (eOp oIx (aj 2) (eOp gb (aj 0) (eC (.int 1)))) av)))) av))))))
def gE:List W->Res W:=run 2 kc
def qv:SF:=(aK (sIf (tOr (tB (eOp oNe (eBi gf (ae (aj 0) av)) (eC (.int 4)))) (tB (eOp fy (eOp oIx (aj 0) (eC (.int 3))) (eC vv)))) uj sNx) (aK (bK 1 (ay cJ (ae (eOp oIx (aj 0) (eC (.int 1))) (ae (eUn wM (eC cN)) (ae (eC cN) av))))) (aK (bK 2 (ay cJ (ae (eOp oIx (aj 0) (eC (.int 2))) (ae (eUn wM (eC cN)) (ae (eC cN) av))))) (aK (sIf (x8 (tB (eOp oEq (aj 1) (eC (.int 0)))) (tB (eOp oEq (aj 2) (eC (.int 0))))) uj sNx) (bz (kE (ae (eC (.str "at")) (ae (aj 1) (ae (aj 2) (ae (eOp oIx (aj 0) (eC (.int 3))) av))))))))))
def si:List W->Res W:=run 3 qv
def kd:SF:=(aK (sIf (tB (eOp oNe (eBi gf (ae (aj 0) av)) (eC (.int 2)))) uj sNx) (bz (kE (ae (eC (.str "inner")) (ae (ay cJ (ae (eOp oIx (aj 0) (eC (.int 1))) (ae (eC (.int 0)) (ae (eC nU) av)))) av)))))
def kD:List W->Res W:=run 1 kd
def fq:SF:=(aK (sIf (tB (eOp oEq (eOp oIx (aj 0) (eC (.int 0))) (eC (.str "at")))) (bz (ay si (ae (aj 0) av))) sNx) (aK (sIf (tB (eOp oEq (eOp oIx (aj 0) (eC (.int 0))) (eC (.str "inner")))) (bz (ay kD (ae (aj 0) av))) sNx) (aK (sIf (tOr (tB (eOp oNe (eBi gf (ae (aj 0) av)) (eC (.int 1)))) (tB (eOp fy (eOp oIx (aj 0) (eC (.int 0))) (eC gL)))) uj sNx) (bz (kE (ae (eOp oIx (aj 0) (eC (.int 0))) av))))))
def cT:List W->Res W:=run 1 fq
def lH:SF:=(aK (bK 1 (acb "str" h7 (aj 0) (ae (eC (.str " ")) av))) (aK (sIf (x8 (tB (eOp oGt (eBi gf (ae (aj 1) av)) (eC (.int 1)))) (tB (eOp oEq (eOp oIx (aj 1) (eC (.int 0))) (eC (.str "not"))))) (bz (kE (ae (eC (.str "not")) (ae (ay cT (ae (eSl (aj 1) (pH (eC (.int 1))) pNo) av)) av)))) sNx) (bz (ay cT (ae (aj 1) av)))))
def m3:List W->Res W:=run 2 lH
def kb:SF:=(aK (bK 1 (acb "str" h7 (aj 0) (ae (eC (.str " and ")) av))) (aK (sIf (tB (eOp oGt (eBi gf (ae (aj 1) av)) (eC sX))) uj sNx) (bz (eBi ib (ae (jX 1 (uW (aj 1)) (aA 0) nv (ay m3 (ae (aj 0) av))) av)))))
def kC:List W->Res W:=run 2 kb
def lJ:SF:=(aK (sIf (tB (acb "str" ix (aj 0) (ae (eC (.str "> ")) av))) (bz (kE (ae (kE av) (ae (ay gE (ae (eOp uJ (aj 0) (eC (.int 2))) av)) av)))) sNx) (aK (bK 1 (acb "str" rO (aj 0) (ae (eC (.str " > ")) av))) (aK (sIf (tB (eOp oEq (eOp oIx (aj 1) (eC (.int 1))) (eC (.str "")))) uj sNx) (bz (kE (ae (ay kC (ae (eOp oIx (aj 1) (eC (.int 0))) av)) (ae (ay gE (ae (eOp oIx (aj 1) (eC (.int 2))) av)) av)))))))
def m6:List W->Res W:=run 2 lJ
def lK:SF:=(aK (sIf (vR (tB (eBi bY (ae (aj 0) (ae (eC (.ty "str")) av))))) uj sNx) (aK (bK 1 (acb "str" h7 (aj 0) (ae (eC (.str " ; ")) av))) (aK (sIf (tB (eOp oGt (eBi gf (ae (aj 1) av)) (eC sZ))) uj sNx) (bz (jX 1 (uW (aj 1)) (aA 0) nv (ay m6 (ae (aj 0) av)))))))
def m7:List W->Res W:=run 2 lK
def w9:SF:=(sIf (vR (tB (ay sk (ae (aj 2) av)))) uj sNx)
def aaj:SF:=(sIf (tB (eOp oGt (eBi zk (ae (aj 1) av)) (eC s9))) uj sNx)
def aai:SF:=(nE (aib 1) (aA 2) w9)
def z0:EF:=(ay m7 (ae (eOp oIx (aj 1) (aj 2)) av))
def sr:List W->Res W:=anU aaj aai z0
def i5:SF:=(aK (anT (acb "str" rO (aj 2) (ae (eC (.str ":")) av)) (xn (di (aA 3) (di (aA 4) (di (aA 5) xt))))) (hQ 1 (aj 5) (aj 3)))
def lO:SF:=(aK (bK 0 (sG (ae (eC (.str "about:> turn about")) (ae (eC (.str "lt:> turn left")) (ae (eC (.str "walk:at 2 0 none > ahead 2")) av))))) (aK (bK 0 (eOp gb (aj 0) (sG (ae (eC (.str "swap:at 0 2 same > right 2 ; at 0 -2 same > left 2 ; > stay")) av)))) (aK (bK 0 (eOp gb (aj 0) (sG (ae (eC (.str "cross:at 6 0 about > ahead 6 ; at 2 0 about > ahead 2 ; > stay")) av)))) (aK (bK 0 (eOp gb (aj 0) (sG (ae (eC (.str "hin:head and inward > ahead 2 ; > stay")) (ae (eC (.str "hout:head and inner 1 > back 2 ; > stay")) av))))) (aK (bK 0 (eOp gb (aj 0) (sG (ae (eC (.str "face:lefts > turn right ; > turn left")) av)))) (aK (bK 0 (eOp gb (aj 0) (sG (ae (eC (.str "pass:at 2 0 any and not at 4 0 any > ahead 4 ; at 2 0 none > ahead 2 ; > stay")) av)))) (aK (bK 0 (eOp gb (aj 0) (sG (ae (eC (.str "side:side and at 0 2 same > right 1 ahead 2 left 1 ; > stay")) av)))) (aK (bK 0 (eOp gb (aj 0) (sG (ae (eC (.str "ring:outward > turn left ahead 2 ; inward > right 2 turn left ; > turn left")) av)))) (aK (bK 0 (eOp gb (aj 0) (sG (ae (eC (.str "back:inner 3 and not inner 1 > back 2 ; > turn about")) av)))) (aK (bK 0 (eOp gb (aj 0) (sG (ae (eC (.str "meet:at 0 2 partner > right 1 ; at 0 -2 partner > left 1 turn left ; > stay")) av)))) (aK (bK 0 (eOp gb (aj 0) (sG (ae (eC (.str "own:at 0 2 partner > turn left ; at 0 -2 partner > turn right ; > stay")) av)))) (aK (bK 0 (eOp gb (aj 0) (sG (ae (eOp ag8 (eOp ag8 (eC (.str "off:outward >")) (eOp yE (eC (.str " ahead 9")) (eC (.int 8)))) (eC (.str " ; > turn about"))) av)))) (aK (agC 1) (aK (nE (uW (aj 0)) (aA 2) i5) (ah1 1 (bz (aj 1)))))))))))))))))
def bX:List W->Res W:=run 6 lO
def fH:SF:=(aK (sIf (tB (eOp oLt (aj 1) (eBi gf (ae (aj 0) av)))) (bz (eOp oIx (aj 0) (aj 1))) sNx) (bz (eC (.int 0))))
def bj:List W->Res W:=run 2 fH
def fL:SF:=(aK (jF 3 2 (afI 2 (eOp oMod (aj 0) (eBi gf (ae (aj 2) av))))) (bK 0 (eOp oDiv (aj 0) (eC (.int 14)))))
def il:SF:=(aK (qT 2 (xa (ay bX av))) (aK (qT 3 (ah9 av)) (aK (nE (mW (aj 1)) (aA 4) fL) (ah1 3 (bz (aj 3))))))
def dW:List W->Res W:=run 5 il
def lG:SF:=(bz (kE (ae (eOp oIx (aj 0) (eC (.int 0))) (ae (eOp oIx (aj 0) (eC (.int 1))) av))))
def dk:List W->Res W:=run 1 lG
def aN:SF:=(sIf (tB (eOp oEq (ay dk (ae (eOp oIx (aj 0) (aj 1)) av)) (ay dk (ae (eOp oIx (aj 0) (aj 2)) av)))) (bz (kE (ae (aj 1) (ae (aj 2) av)))) sNx)
def cg:SF:=(nE (rY (eOp gb (aj 1) (eC (.int 1))) (eBi gf (ae (aj 0) av))) (aA 2) aN)
def cD:SF:=(aK (nE (mW (eBi gf (ae (aj 0) av))) (aA 1) cg) (bz (eC .non)))
def bD:List W->Res W:=run 3 cD
def gQ:SF:=(aK (bK 1 (ay bD (ae (aj 0) av))) (aK (sIf (tB (eOp i0 (aj 1) (eC .non))) (iu "Meet" (ae (eOp oIx (aj 1) (eC (.int 0))) (ae (eOp oIx (aj 1) (eC (.int 1))) av))) sNx) (bz (eBi ib (ae (aj 0) av)))))
def dF:List W->Res W:=run 2 gQ
def fA:SF:=(sIf (tB (eOp oEq (ay dk (ae (aj 3) av)) (aj 1))) (bz (aj 2)) sNx)
def o3:SF:=(aK (nE (uX (aj 0)) (xn (di (aA 2) (di (aA 3) xt))) fA) (bz (eC .non)))
def i7:List W->Res W:=run 4 o3
def ik:SF:=(aK (bK 3 (eOp oIx (eC j3) (eOp oIx (aj 0) (eC (.int 2))))) (aK (bK 4 (eOp gb (eOp tI (eOp oIx (aj 3) (eC (.int 0))) (aj 1)) (eOp tI (eOp oIx (aj 3) (eC (.int 1))) (aj 2)))) (aK (bK 5 (eOp acY (eOp tI (eOp oIx (aj 3) (eC (.int 1))) (aj 1)) (eOp tI (eOp oIx (aj 3) (eC (.int 0))) (aj 2)))) (bz (kE (ae (eOp gb (eOp oIx (aj 0) (eC (.int 0))) (aj 4)) (ae (eOp gb (eOp oIx (aj 0) (eC (.int 1))) (aj 5)) av)))))))
def cy:List W->Res W:=run 6 ik
def lM:SF:=(bz (eIf (tB (eOp oEq (eOp oMod (aj 0) (eC (.int 2))) (eC (.int 0)))) (eOp gb (aj 0) (eC (.int 1))) (eOp acY (aj 0) (eC (.int 1)))))
def i8:List W->Res W:=run 1 lM
def jq:SF:=(bz (eOp oMod (eOp gb (aj 0) (eOp oDiv (eC dZ) (eC (.int 2)))) (eC dZ)))
def g7:List W->Res W:=run 1 jq
def dH:SF:=(bz (eOp oMod (eOp gb (aj 0) (eOp oIx (eC jf) (aj 1))) (eC cB)))
def bC:List W->Res W:=run 2 dH
def js:SF:=(aK (sIf (tB (eOp oIs (aj 2) (eC .non))) (bz (eOp oEq (aj 3) (eC (.str "none")))) sNx) (aK (sIf (tB (eOp oIn (aj 3) (kE (ae (eC (.str "none")) (ae (eC (.str "any")) av))))) (bz (eOp oEq (aj 3) (eC (.str "any")))) sNx) (bz (eOp oEq (eOp oIx (eOp oIx (aj 1) (aj 2)) (eC (.int 2))) (ay bC (ae (eOp oIx (aj 0) (eC (.int 2))) (ae (aj 3) av)))))))
def gF:List W->Res W:=run 4 js
def z8:SF:=(aK (bK 3 (eOp oIx (aj 0) (aj 1))) (aK (bK 4 (eOp oIx (aj 2) (eC (.int 3)))) (aK (bK 5 (ay i7 (ae (aj 0) (ae (ay cy (ae (aj 3) (ae (eOp oIx (aj 2) (eC (.int 1))) (ae (eOp oIx (aj 2) (eC (.int 2))) av)))) av)))) (aK (sIf (tB (eOp oEq (aj 4) (eC (.str "partner")))) (bz (eOp oEq (aj 5) (ay i8 (ae (aj 1) av)))) sNx) (aK (sIf (tB (eOp oEq (aj 4) (eC (.str "opposite")))) (bz (eOp oEq (aj 5) (ay g7 (ae (aj 1) av)))) sNx) (bz (ay gF (ae (aj 3) (ae (aj 0) (ae (aj 5) (ae (aj 4) av)))))))))))
def xy:List W->Res W:=run 6 z8
def jw:SF:=(bz (eBi vx (ae (eBi ahU (ae (eOp oIx (aj 0) (eC (.int 0))) av)) (ae (eBi ahU (ae (eOp oIx (aj 0) (eC (.int 1))) av)) av))))
def dG:List W->Res W:=run 1 jw
def o5:SF:=(aK (bK 1 (ay dG (ae (ay dk (ae (aj 0) av)) av))) (aK (bK 2 (ay dG (ae (ay cy (ae (aj 0) (ae (eC (.int 1)) (ae (eC (.int 0)) av)))) av))) (aK (sIf (tB (eOp oEq (aj 2) (aj 1))) (bz (eC (.str "sideways"))) sNx) (bz (eIf (tB (eOp oLt (aj 2) (aj 1))) (eC (.str "inward")) (eC (.str "outward")))))))
def jU:List W->Res W:=run 3 o5
def lR:SF:=(bz (eOp oEq (eOp oMod (eOp oDiv (aj 0) (eC (.int 2))) (eC (.int 2))) (eC (.int 0))))
def ja:List W->Res W:=run 1 lR
def lQ:SF:=(bz (eOp oEq (eOp oMod (aj 0) (eC (.int 2))) (eC (.int 0))))
def i9:List W->Res W:=run 1 lQ
def lP:SF:=(aK (sIf (tB (eOp oIn (aj 1) (kE (ae (eC (.str "head")) (ae (eC (.str "side")) av))))) (bz (eOp oEq (ay ja (ae (aj 0) av)) (eOp oEq (aj 1) (eC (.str "head"))))) sNx) (bz (eOp oEq (ay i9 (ae (aj 0) av)) (eOp oEq (aj 1) (eC (.str "lefts"))))))
def gH:List W->Res W:=run 2 lP
def gj(a:List W->Res W):SF:=(aK (bK 3 (eOp oIx (aj 2) (eC (.int 0)))) (aK (sIf (tB (eOp oEq (aj 3) (eC (.str "not")))) (bz (akN (ay a (ae (aj 0) (ae (aj 1) (ae (eOp oIx (aj 2) (eC (.int 1))) av)))))) sNx) (aK (sIf (tB (eOp oEq (aj 3) (eC (.str "at")))) (bz (ay xy (ae (aj 0) (ae (aj 1) (ae (aj 2) av))))) sNx) (aK (sIf (tB (eOp oEq (aj 3) (eC (.str "inner")))) (bz (eOp oLe (ay dG (ae (ay dk (ae (eOp oIx (aj 0) (aj 1)) av)) av)) (eOp oIx (aj 2) (eC (.int 1))))) sNx) (aK (sIf (tB (eOp oIn (aj 3) (eC jg))) (bz (eOp oEq (ay jU (ae (eOp oIx (aj 0) (aj 1)) av)) (aj 3))) sNx) (bz (ay gH (ae (aj 1) (ae (aj 3) av)))))))))
noncomputable def ck:Nat->List W->Res W|0=>λ_=>.bad|n+1=>run 4 (gj (ck n))
def dg:SF:=(sIf (tB (eBi ac0 (ae (jX 1 (uW (eOp oIx (aj 4) (eC (.int 0)))) (aA 0) nv (ay (ck 2) (ae (aj 1) (ae (aj 2) (ae (aj 0) av))))) av))) (bz (aj 3)) sNx)
def jn:SF:=(aK (nE (uX (aj 2)) (xn (di (aA 3) (di (aA 4) xt))) dg) (bz (eC .non)))
def fB:List W->Res W:=run 5 jn
def fo:SF:=(aK (sIf (x8 (tB (eOp i0 (aj 3) (eC .non))) (tB (eOp fy (aj 1) (aj 3)))) (bz (kE av)) sNx) (aK (bK 4 (ay fB (ae (aj 0) (ae (aj 1) (ae (aj 2) av))))) (aK (sIf (tB (eOp oIs (aj 4) (eC .non))) (iu "Blind" (ae (aj 1) av)) sNx) (bz (eOp oIx (eOp oIx (aj 2) (aj 4)) (eC (.int 1)))))))
def cS:List W->Res W:=run 5 fo
def gP:SF:=(bz (aeH (eBi bY (ae (aj 0) (ae (eC (.ty "int")) av))) (akN (eBi bY (ae (aj 0) (ae (eC (.ty "bool")) av))))))
def fE:List W->Res W:=run 1 gP
def jv:SF:=(bz (aeH (ay fE (ae (aj 0) av)) (kF oLe oLe (eUn wM (eC j4)) (aj 0) (eC j4))))
def fG:List W->Res W:=run 1 jv
def iq:SF:=(bz (aeH (ay fE (ae (aj 0) av)) (kF oLe oLt (eC (.int 0)) (aj 0) (eBi gf (ae (eC j3) av)))))
def fP:List W->Res W:=run 1 iq
def ju:SF:=(aK (sIf (tOr (vR (tB (eBi bY (ae (aj 0) (ae (eC (.ty "tuple")) av))))) (tB (eOp oNe (eBi gf (ae (aj 0) av)) (eC (.int 3))))) (bz (eC (.bl false))) sNx) (bz (aeH (ay fG (ae (eOp oIx (aj 0) (eC (.int 0))) av)) (aeH (ay fG (ae (eOp oIx (aj 0) (eC (.int 1))) av)) (ay fP (ae (eOp oIx (aj 0) (eC (.int 2))) av))))))
def fF:List W->Res W:=run 1 ju
def bW:SF:=(sIf (vR (tB (eBi ac0 (ae (jX 1 (uW (eSl (aj 2) (pH (eC (.int 1))) pNo)) (aA 0) nv (ay fF (ae (aj 0) av))) av)))) (iu "Out" (ae (aj 1) av)) sNx)
def iK:SF:=(aK (nE (uX (aj 0)) (xn (di (aA 1) (di (aA 2) xt))) bW) (bz (aj 0)))
def gG:List W->Res W:=run 3 iK
def cZ:SF:=(aK (sIf (tB (eOp oEq (eOp oIx (aj 1) (eC (.int 0))) (eC (.str "turn")))) (bz (kE (ae (eOp oIx (aj 0) (eC (.int 0))) (ae (eOp oIx (aj 0) (eC (.int 1))) (ae (ay bC (ae (eOp oIx (aj 0) (eC (.int 2))) (ae (eOp oIx (aj 1) (eC (.int 1))) av))) av))))) sNx) (aK (bK 2 (eOp oIx (eC gM) (eOp oIx (aj 1) (eC (.int 0))))) (aK (bK 3 (ay cy (ae (aj 0) (ae (eOp tI (eOp oIx (aj 2) (eC (.int 0))) (eOp oIx (aj 1) (eC (.int 1)))) (ae (eOp tI (eOp oIx (aj 2) (eC (.int 1))) (eOp oIx (aj 1) (eC (.int 1)))) av))))) (bz (kE (ae (eOp oIx (aj 3) (eC (.int 0))) (ae (eOp oIx (aj 3) (eC (.int 1))) (ae (eOp oIx (aj 0) (eC (.int 2))) av))))))))
def cu:List W->Res W:=run 4 cZ
def dE:SF:=(sIf (tB (eOp oNe (eOp oIx (aj 3) (eC (.int 0))) (eC (.str "stay")))) (ah2 2 (afI 2 (ay cu (ae (eOp oIx (aj 2) (eUn wM (eC (.int 1)))) (ae (aj 3) av))))) sNx)
def kU:SF:=(aK (qT 2 (ah9 (ae (aj 0) av))) (aK (nE (uW (aj 1)) (aA 3) dE) (ah1 2 (bz (aj 2)))))
def g6:List W->Res W:=run 4 kU
def vQ:SF:=(aK (bK 3 (ace 1 (mW (eC dZ)) (aA 0) nv (cL cS (ae (aj 1) (ae (aj 0) (ae (aj 2) (ae (aj 3) av))))))) (bz (cL gG (ae (jX 1 (mW (eC dZ)) (aA 0) nv (ay g6 (ae (eOp oIx (aj 1) (aj 0)) (ae (eOp oIx (aj 4) (aj 0)) av)))) av))))
def sg:List W->Res W:=run 4 vQ
def iL:SF:=(bz (cL dF (ae (jX 1 (uW (cL sg (ae (aj 0) (ae (aj 1) (ae (aj 2) av))))) (aA 0) nv (eOp oIx (aj 0) (eUn wM (eC (.int 1))))) av)))
def cK:List W->Res W:=run 3 iL
def lT:SF:=(sIf (tOr (vR (tB (eBi bY (ae (aj 1) (ae (eC (.ty "str")) av))))) (tB (eOp mG (aj 1) (acd "Book" (aj 0))))) uj sNx)
def mR:LF:=(akh (eOp ah5 (acd "Book" (aj 0)) (aj 1)))
def bt:List W->Res W:=afg 2 lT mR
def cY:SF:=(bK 3 (cL (λws=>cK (ws++[.non])) (ae (aj 1) (ae (eM "Book" bt (aj 0) (ae (aj 2) av)) av))))
def eS:SF:=(bK 3 (eC .non))
def eB:SF:=(aK (bK 3 (eC .non)) (aK (ai7 cY "FloorError" eS) (bz (aj 3))))
def cA:List W->Res W:=run 4 eB
def ke:SF:=sNx
def eJ:LF:=(xa (acd "Book" (aj 0)))
def bM:List W->Res W:=afg 1 ke eJ
def eT:SF:=(bz (kE (ae (eUn wM (eOp oIx (aj 0) (eC (.int 1)))) (ae (eOp oIx (aj 0) (eC (.int 0))) (ae (eOp oMod (eOp gb (eOp oIx (aj 0) (eC (.int 2))) (eC (.int 1))) (eC cB)) av)))))
def cq:List W->Res W:=run 1 eT
def gZ:SF:=(bK 2 (eBi ib (ae (jX 1 (uW (aj 2)) (aA 0) nv (ay cq (ae (aj 0) av))) av)))
def o4:SF:=(aK (bK 2 (aj 0)) (aK (nE (mW (eOp oMod (aj 1) (eC cB))) (aA 3) gZ) (bz (aj 2))))
def eL:List W->Res W:=run 4 o4
def cG:SF:=(aK (bK 4 (ay cA (ae (aj 0) (ae (aj 2) (ae (eOp oIx (eM "Book" bM (aj 0) av) (eOp oMod (aj 3) (eBi gf (ae (eM "Book" bM (aj 0) av) av)))) av))))) (sIf (tB (eOp i0 (aj 4) (eC .non))) (bK 2 (aj 4)) sNx))
def ip:SF:=(aK (bK 2 (eC xM)) (aK (nE (uW (eSl (aj 1) (pH (eC (.int 2))) (pH (eC (.int 6))))) (aA 3) cG) (bz (ay eL (ae (aj 2) (ae (eOp oMod (ay bj (ae (aj 1) (ae (eC (.int 2)) av))) (eC (.int 4))) av))))))
def fO:List W->Res W:=run 5 ip
def z9:SF:=(bz (eBi zj (ae (jX 1 (mW (eC cB)) (aA 0) nv (ay eL (ae (aj 1) (ae (aj 0) av)))) av)))
def gI:List W->Res W:=run 1 z9
def bc:SF:=(aK (bK 8 (afI 4 (ay cA (ae (aj 0) (ae (eOp oIx (eOp oIx (aj 4) (aj 6)) (eC (.int 0))) (ae (aj 7) av)))))) (sIf (aiZ 5 (x8 (tB (eOp i0 (aj 8) (eC .non))) (tB (eOp fy (ay gI (ae (aj 8) av)) (aj 5))))) (aK (ah2 5 (ay gI (ae (aj 8) av))) (ah2 4 (afI 4 (kE (ae (ay gI (ae (aj 8) av)) (ae (eOp gb (eOp oIx (eOp oIx (aj 4) (aj 6)) (eC (.int 1))) (eC (.int 1))) (ae (aj 6) (ae (aj 7) av)))))))) sNx))
def dh:SF:=(aK (nE (uW (aj 2)) (aA 7) bc) (bK 6 (eOp gb (aj 6) (eC (.int 1)))))
def bV:TF:=(aiZ 4 (x8 (tB (eOp oLt (aj 6) (eBi gf (ae (aj 4) av)))) (tB (eOp oLt (eOp oIx (eOp oIx (aj 4) (aj 6)) (eC (.int 1))) (aj 3)))))
noncomputable def kB:Ws->Nat:=λ_=>3000
def jt:SF:=(aK (qT 4 (ah9 (ae (kE (ae (ay gI (ae (aj 1) av)) (ae (eC (.int 0)) (ae (eC .non) (ae (eC .non) av))))) av))) (aK (qT 5 (ah9 (ae (ay gI (ae (aj 1) av)) av))) (aK (bK 6 (eC (.int 0))) (aK (aaA kB bV dh) (ah1 4 (bz (aj 4)))))))
def fD:List W->Res W:=run 9 jt
def eE:RF Sr:=(lz (jl (bK 5 (ay gI (ae (aj 1) av)))) (lz (xIf (xIn 5) (jl agB) xNx) (lz (xIf (xT Sr.a Sr.val 0 (tB (eOp oGe (eBi gf (ae (iA "Search" 2 (aj 0)) av)) (iA "Search" 1 (aj 0))))) (jl (afc "TooMany" (ae (eC (.str "more floors are come to than are asked for")) av))) xNx) (lz (xU 5) (af0 (kE (ae (aj 5) (ae (aj 2) (ae (aj 3) (ae (aj 4) av))))))))))
def bL:List W->Sr->OX Sr:=runM 6 eE
def dn:SF:=(bz (eOp oEq (eOp oIx (eOp oIx (iA "Search" 2 (aj 0)) (eUn wM (eC (.int 1)))) (eC (.int 0))) (iA "Search" 0 (aj 0))))
def aE:List W->Res W:=run 1 dn
def aJ:SF:=(bK 5 (cL (λws=>cK (ws++[.non])) (ae (eOp oIx (aj 3) (eC (.int 0))) (ae (eOp oIx (aj 2) (aj 4)) av))))
def bQ:SF:=sCt
def aw:RF Sr:=(lz (jl (yn aJ ["Blind","Out","Meet"] bQ)) (lz (gg Sr.a 0 bL (ae (aj 5) (ae (eOp gb (eOp oIx (aj 3) (eC (.int 1))) (eC (.int 1))) (ae (aj 1) (ae (aj 4) av))))) (xIf (xT Sr.a Sr.val 0 (tB (ia "Search" aE (aj 0) av))) (jl agB) xNx)))
def fW:RF Sr:=(lz (aiq Sr.a Sr.val 0 3 (eOp oIx (iA "Search" 2 (aj 0)) (aj 1))) (afZ 2 4 aw))
def bh:List W->Sr->OX Sr:=runM 6 fW
def bq:SF:=(hQ 6 (eM "Book" bt (aj 1) (ae (aj 7) av)) (aj 7))
def bp:RF Sr:=(lz (gg Sr.a 8 bh (ae (aj 9) (ae (aj 6) av))) (jl (bK 9 (eOp ad6 (aj 9) (eC (.int 1))))))
def aF:TF:=(x8 (tB (eOp oLt (aj 9) (eBi gf (ae (iA "Search" 2 (aj 8)) av)))) (x8 (tB (eOp oLt (eOp oIx (eOp oIx (iA "Search" 2 (aj 8)) (aj 9)) (eC (.int 1))) (aj 4))) (vR (tB (ia "Search" aE (aj 8) av)))))
def eA:SF:=(aK (agC 6) (aK (nE (uW (aj 3)) (aA 7) bq) (agD 6 (iT 8 (ae (aj 0) (ae (aj 5) av)) (lz (gg Sr.a 8 bL (ae (aj 2) (ae (eC (.int 0)) (ae (eC .non) (ae (eC .non) av))))) (lz (jl (bK 9 (eC (.int 0)))) (lz (zp (xT Sr.a Sr.val 8 aF) bp 3000) (alR 8))))))))
def dm:List W->Res W:=run 10 eA
def lL:SF:=(bz (cL dm (ae (eC .non) (ae (aj 0) (ae (aj 1) (ae (aj 2) (ae (aj 3) (ae (aj 4) av))))))))
def cv:List W->Res W:=run 5 lL
def pR:SF:=(sIf (tOr (vR (tB (eBi bY (ae (aj 10) (ae (eC (.ty "tuple")) av))))) (tOr (tB (eBi bY (ae (eOp oIx (aj 10) (eC (.int 1))) (ae (eC (.ty "bool")) av)))) (tB (eBi bY (ae (eOp oIx (aj 10) (eC (.int 2))) (ae (eC (.ty "bool")) av)))))) (bz (eC (.bl false))) sNx)
def t6:SF:=(agE (cL cv (ae (aj 1) (ae (aj 6) (ae (aj 3) (ae (aj 5) (ae (eOp acY (eBi gf (ae (aj 7) av)) (eC (.int 1))) av)))))))
def tZ:SF:=(bK 11 (eC (.bl true)))
def agm:SF:=(aK (bK 1 (sF "Book" sr (ae (ay bX av) av))) (aK (bK 2 (eOp oMod (eOp tI (ay bj (ae (aj 0) (ae (eC (.int 0)) av))) (eC (.int 69621))) (eC (.int 2147483629)))) (aK (bK 3 (ay dW (ae (eOp oDiv (aj 2) (eC (.int 4))) (ae (eOp gb (eC (.int 1)) (eOp oMod (aj 2) (eC (.int 4)))) av)))) (aK (bK 4 (ay bj (ae (aj 0) (ae (eC (.int 1)) av)))) (aK (bK 5 (eOp oMod (aj 4) (eC (.int 4)))) (aK (sIf (tB (eOp oEq (eOp oMod (eOp oDiv (aj 4) (eC (.int 4))) (eC (.int 4))) (eC (.int 1)))) (aK (bK 3 (eSl (aj 3) pNo (pH (eOp gb (eC (.int 1)) (eOp oMod (eOp oDiv (aj 2) (eC (.int 60))) (eC (.int 2))))))) (bK 5 (eOp gb (eC (.int 4)) (eOp oMod (eOp oDiv (aj 4) (eC (.int 16))) (eOp oIx (sG (ae (eC (.int 9)) (ae (eC (.int 2)) av))) (eOp acY (eBi gf (ae (aj 3) av)) (eC (.int 1)))))))) sNx) (aK (bK 6 (ay fO (ae (aj 1) (ae (aj 0) av)))) (aK (bK 7 (ay fD (ae (aj 1) (ae (aj 6) (ae (aj 3) (ae (aj 5) av)))))) (aK (bK 8 (eBi vy (ae (aj 3) av))) (aK (bK 9 (cL (λws=>cv (ws++[.int 2000])) (ae (aj 1) (ae (aj 6) (ae (aj 8) (ae (aj 5) av)))))) (aK (sIf (tOr (vR (tB (eBi bY (ae (aj 9) (ae (eC (.ty "list")) av))))) (tOr (tB (eOp oNe (aj 9) (aj 7))) (tB (eOp oNe (aj 8) (aj 3))))) (bz (eC (.bl false))) sNx) (aK (nE (uW (aj 9)) (aA 10) pR) (aK (sIf (tB (eOp oNe (cL cv (ae (aj 1) (ae (aj 6) (ae (aj 3) (ae (aj 5) (ae (eBi gf (ae (aj 7) av)) av)))))) (aj 7))) (bz (eC (.bl false))) sNx) (aK (sIf (tB (eOp oNe (cL (λws=>cv (ws++[.int 2000])) (ae (aj 1) (ae (ay eL (ae (aj 6) (ae (eOp gb (eC (.int 1)) (eOp oMod (aj 2) (eC (.int 3)))) av))) (ae (aj 3) (ae (aj 5) av))))) (aj 7))) (bz (eC (.bl false))) sNx) (aK (sIf (tB (eOp oEq (eBi gf (ae (aj 7) av)) (eC (.int 1)))) (bz (eC (.bl true))) sNx) (aK (bK 11 (eC (.bl false))) (aK (ai7 t6 "TooMany" tZ) (bz (aj 11)))))))))))))))))))
def aeD:List W->Res W:=run 12 agm
end K66
namespace K66
open PySem WL ML
def vo(ns:List Int)(k:Int)(a:0<=k):bj [.lst (ns.map .int),.int k]=.ok (.int (ns.getD k.toNat 0)):=by obtain⟨n,rfl⟩:∃n:Nat,k=n:=⟨k.toNat,by omega⟩;by_cases h:n<ns.length<;>simp[bj,fH,h,gO]
def alU(p:S3):cq [stW p]=.ok (stW (FM.tq p)):=by simp[cq,eT,cB,stW,FM.tq]
def qt(f:List S3)(n:Int)(m:f.length<=100):eL [flW f,.int n]=.ok (flW (f.map (FM.tqn (n%4).toNat))):=by
 obtain⟨d,h,o,rfl⟩:=p7 (g:=aA 3) (b:=gZ) (xs:=rng 0 (n%4).toNat) (λi d=>∃o,d=[.va (flW f),.va (.int n),.va (flW (f.map (FM.tqn i))),o]) (σ:=[.va (flW f),.va (.int n),.va (flW f),.no]) ⟨.no,by rw[FM.mJ (f:=FM.tqn 0) f λp _=>rfl]⟩ (by
   rintro i w σ hw⟨o,rfl⟩;obtain⟨q,rfl⟩:=uq _ _ _ _ hw;refine⟨_,rfl,[.va (flW f),.va (.int n),.va (flW (f.map (FM.tqn (i+1)))),.va (.int (0+i))],?_,_,rfl⟩;have j:bA (aA 0) nv (ay cq (ae (aj 0) av)) [.no,.va (flW f),.va (.int n),.va (flW (f.map (FM.tqn i))),.va (.int (0+i))] ((f.map (FM.tqn i)).map stW)=.ok ((f.map (FM.tqn i)).map λp=>stW (FM.tq p)):=dY λp _=>⟨_,rfl,rfl,by simp[alU]⟩;have e:f.length<=1000000:=by omega
   simp only[flW]at j⊢;simp at j;simp[gZ,List.replicate,e,j];intro a b c _;rfl);simp at h;have l:-4611686018427387904<=n%4:=by omega
 have k:n%4<4611686018427387904:=by omega
 simp[eL,o4,cB,List.replicate,l,k,h]
def aht(f:List S3)(d:f.length<=100):gI [flW f]=.ok (flW (FM.pick (aR f) 3)):=by
 have a:bA (aA 0) nv (ay eL (ae (aj 1) (ae (aj 0) av))) [.no,.va (flW f)] ([0,1,2,3].map λi:Nat=>.int i)=.ok ([0,1,2,3].map λi:Nat=>flW (aR f i)):=dY λi g=>⟨_,rfl,rfl,by
  have e:((i:Int)%4).toNat=i:=by simp at g;omega
  simp[qt f i d,e,aR]⟩;have b:rng 0 4=[0,1,2,3].map λi:Nat=>W.int i:=by simp[rng,List.range_succ]
 simp only[ao9,aqB]at a b;have c:=abj f;simp at a b;simp[gI,z9,cB,List.replicate,b,a,zj,c]
def agv(p:S3)(m n:Int)(c:0<=p.2.2)(g:p.2.2<4):cy [stW p,.int m,.int n]=.ok (spW (sfp p m n)):=by
 obtain⟨x,y,f⟩:=p;have r:f=0\/f=1\/f=2\/f=3:=by have h:0<=f:=c;have i:f<4:=g;omega
 obtain⟨a,b,d,k,j,e⟩:∃a b:Int,oIx j3 (.int f)=.ok (.tup [.int a,.int b])/\(-2<a/\a<2)/\(-2<b/\b<2)/\sfp (x,y,f) m n=(x+(a*m+b*n),y+(b*m-a*n)):=by
  rcases r with rfl|rfl|rfl|rfl;·exact⟨0,1,rfl,by decide,by decide,by simp[sfp]⟩
  ·exact⟨-1,0,rfl,by decide,by decide,by simp[sfp,arV]⟩
  ·exact⟨0,-1,rfl,by decide,by decide,by simp[sfp,arV]⟩
  ·exact⟨1,0,rfl,by decide,by decide,by simp[sfp,arV]⟩
 rw[e];simp(disch:=omega)[cy,ik,stW,spW,d,afq,List.replicate]
def cR(p:S3):dk [stW p]=.ok (spW (cp p)):=by simp[dk,lG,stW,spW,cp]
theorem vG(F:W)(s:Int×Int):∀(f:List S3)(k:Nat)(a b:Sl),fin (ua (forL (xn (di (aA 2) (di (aA 3) xt))) fA (dB k (f.map stW)) [.va F,.va (spW s),a,b]) (bz (eC .non)))=.ok (ae1 s k f)
|[],k,a,b=>by simp[dB,ae1]|p::f,k,a,b=>by
 simp only[ao9,dB,dj];by_cases h:cp p=s;·simp[fA,cR,h,ae1]
 ·have c:=vG F s f (k+1) (.va (.int k)) (.va (stW p));simp[fA,cR,h,ae1]at c⊢;exact c
def aiv(f:List S3)(s:Int×Int):i7 [flW f,spW s]=.ok (ae1 s 0 f):=by have h:=vG (flW f) s f 0 .no .no;simp[i7,o3,List.replicate,flW]at h⊢;exact h
def yv(d:Int):i8 [.int d]=.ok (.int (if d%2=0 then d+1 else d-1)):=by by_cases h:d%2=0<;>simp[i8,lM,h]
def uy(d:Int):g7 [.int d]=.ok (.int ((d+4)%8)):=by simp[g7,jq,dZ]
def yS(d:Int):ja [.int d]=.ok (.bl (decide (d/2%2=0))):=by simp[ja,lR]
def yR(d:Int):i9 [.int d]=.ok (.bl (decide (d%2=0))):=by simp[i9,lQ]
def iB(s:Int×Int):dG [spW s]=.ok (.int (far s)):=by simp[dG,jw,far]
def aeI(p:S3)(c:0<=p.2.2)(d:p.2.2<4):jU [stW p]=.ok (.str (if far (sfp p 1 0)=far (cp p)then"sideways"else if far (sfp p 1 0)<far (cp p)then"inward"else"outward")):=by
 have b:=agv p 1 0 c d;by_cases a:far (sfp p 1 0)=far (cp p);·simp[jU,o5,List.replicate,cR,iB,b,a]
 ·by_cases e:far (sfp p 1 0)<far (cp p)<;>simp[jU,o5,List.replicate,cR,iB,b,a,e]
def bg(f:Int)(w:String)(q:Int)(h:(w="same"/\q=0)\/(w="left"/\q=1)\/(w="about"/\q=2)\/(w="right"/\q=3)):bC [.int f,.str w]=.ok (.int ((f+q)%4)):=by
 have e:oIx jf (.str w)=.ok (.int q):=by rcases h with⟨rfl,rfl⟩|⟨rfl,rfl⟩|⟨rfl,rfl⟩|⟨rfl,rfl⟩<;>rfl
 simp[bC,dH,e,cB]
def ab0{f:List S3}{k:Nat}(a:k<f.length):oIx (flW f) (.int k)=.ok (stW (f.getD k (0,0,0))):=by refine afr (by omega) ?_;rw[aqw,ao5 a,apj,ao5 a];rfl
def gY(f:List S3)(p:S3)(i:0<=p.2.2)(j:p.2.2<4)(k:Nat)(e:k<f.length)(w:String)(q:Int)(hw:(w="same"/\q=0)\/(w="left"/\q=1)\/(w="about"/\q=2)\/(w="right"/\q=3)){b:Bool}(d:decide ((f.getD k (0,0,0)).2.2=(p.2.2+q)%4)=b):gF [stW p,flW f,.int k,.str w]=.ok (.bl b):=by
 have a:=ab0 e;have g:=bg p.2.2 w q hw;have h:¬"none"=w:=by rcases hw with⟨rfl,_⟩|⟨rfl,_⟩|⟨rfl,_⟩|⟨rfl,_⟩<;>decide
 have c:¬"any"=w:=by rcases hw with⟨rfl,_⟩|⟨rfl,_⟩|⟨rfl,_⟩|⟨rfl,_⟩<;>decide
 subst d;generalize f.getD k (0,0,0)=r at *;simp[gF,js,List.replicate,mH,stW,h,c]at a⊢;simp[a,g]
def aeg(f:List S3)(p:S3)(a:0<=p.2.2)(b:p.2.2<4)(o:Option Nat)(w:What)(d:Nat)(h:∀k,o=some k->k<f.length)(hw:w≠.partner)(c:w≠.opposite):gF [stW p,flW f,onW o,.str w.w]=.ok (.bl (kM f d p w o)):=by cases o with|none=>cases w<;>simp[gF,js,List.replicate,What.w,kM]|some k=>
 have e:=ab0 (h k rfl);cases w;case none=>simp[gF,js,List.replicate,What.w,kM,mH]
 case any=>simp[gF,js,List.replicate,What.w,kM,mH]
 case partner=>exact absurd rfl hw
 case opposite=>exact absurd rfl c
 all_goals first|exact gY f p a b k (h k rfl) _ 0 (.inl ⟨rfl,rfl⟩) (by simp[kM,eK];omega)|exact gY f p a b k (h k rfl) _ 1 (.inr (.inl ⟨rfl,rfl⟩)) (by simp[kM,eK])|exact gY f p a b k (h k rfl) _ 2 (.inr (.inr (.inl ⟨rfl,rfl⟩))) (by simp[kM,eK])|exact gY f p a b k (h k rfl) _ 3 (.inr (.inr (.inr ⟨rfl,rfl⟩))) (by simp[kM,eK])
def agx(f:List S3)(s:∀p∈f,0<=p.2.2/\p.2.2<4)(d:Nat)(c:d<f.length)(a r:Int)(w:What):xy [flW f,.int d,(Tst.at a r w).W]=.ok (.bl (kM f d (f.getD d (0,0,0)) w (zN (sfp (f.getD d (0,0,0)) a r) 0 f))):=by
 have n:f.getD d (0,0,0)∈f:=by rw[apj,ao5 c];exact aqa c
 obtain⟨h,i⟩:=s _ n;have u:=ab0 c;have y:=agv (f.getD d (0,0,0)) a r h i;have j:=aiv f (sfp (f.getD d (0,0,0)) a r);rw[ae0]at j;have lt:=zM (sfp (f.getD d (0,0,0)) a r) 0 f;have e:∀k,zN (sfp (f.getD d (0,0,0)) a r) 0 f=some k->k<f.length:=λk q=>by have:=lt k q;omega
 have x:=aeg f (f.getD d (0,0,0)) h i (zN (sfp (f.getD d (0,0,0)) a r) 0 f) w d e;generalize f.getD d (0,0,0)=p at *;generalize hw:zN (sfp p a r) 0 f=o at *;have l(t:SF):aK (bK 3 (eOp oIx (aj 0) (aj 1))) (aK (bK 4 (eOp oIx (aj 2) (eC (.int 3)))) (aK (bK 5 (ay i7 (ae (aj 0) (ae (ay cy (ae (aj 3) (ae (eOp oIx (aj 2) (eC (.int 1))) (ae (eOp oIx (aj 2) (eC (.int 2))) av)))) av)))) t)) [.va (flW f),.va (.int d),.va (Tst.at a r w).W,.no,.no,.no]=t [.va (flW f),.va (.int d),.va (Tst.at a r w).W,.va (stW p),.va (.str w.w),.va (onW o)]:=by simp[Tst.W,u,y,j]
 simp only[xy,z8,run_eq,ao9,aqB,aph,aq0,List.replicate,ap1,aqr];rw[l];by_cases b:w=.partner;·subst b;cases o<;>simp[What.w,kM,yv]
 by_cases g:w=.opposite;·subst g;cases o<;>simp[What.w,kM,uy]
 have m:=x b g;have v:¬w.w="partner":=by cases w<;>first|decide|exact absurd rfl b
 have z:¬w.w="opposite":=by cases w<;>first|decide|exact absurd rfl g
 simp[m,v,z]
def g4(d:Int)(w:String)(b:Bool)(h:(w="head"/\b=decide (d/2%2=0))\/(w="side"/\b=!decide (d/2%2=0))\/(w="lefts"/\b=decide (d%2=0))\/(w="rights"/\b=!decide (d%2=0))):gH [.int d,.str w]=.ok (.bl b):=by rcases h with⟨rfl,rfl⟩|⟨rfl,rfl⟩|⟨rfl,rfl⟩|⟨rfl,rfl⟩<;>simp[gH,lP,mH,yS,yR]
def afC(n:Nat)(f:List S3)(j:∀p∈f,0<=p.2.2/\p.2.2<4)(d:Nat)(g:d<f.length)(t:Tst):ck (n+1) [flW f,.int d,t.W]=.ok (.bl (nN f d (f.getD d (0,0,0)) t)):=by
 have u:f.getD d (0,0,0)∈f:=by rw[apj,ao5 g];exact aqa g
 obtain⟨z,h⟩:=j _ u;have k:=ab0 g;cases t with|«at» a r w=>have m:=agx f j d g a r w;simp[Tst.W]at m;simp[ck,gj,Tst.W,List.replicate,m,nN]|inner n=>simp[ck,gj,Tst.W,List.replicate,k,cR,iB,nN]|lone l=>
  have o:=aeI _ z h;generalize f.getD d (0,0,0)=p at *;have c:∀(w:String)(b:Bool),¬w="not"->¬w="at"->¬w="inner"->¬"inward"=w->¬"outward"=w->¬"sideways"=w->gH [.int d,.str w]=.ok (.bl b)->ck (n+1) [flW f,.int d,.tup [.str w]]=.ok (.bl b):=λw b G I J s y K e=>by simp[ck,gj,List.replicate,mH,jg,G,I,J,s,y,K,e]
  cases l;case head=>exact c "head" _ (by decide) (by decide) (by decide) (by decide) (by decide) (by decide) (g4 d "head" _ (Or.inl ⟨rfl,rfl⟩))
  case side=>exact c "side" _ (by decide) (by decide) (by decide) (by decide) (by decide) (by decide) (g4 d "side" _ (Or.inr (Or.inl ⟨rfl,rfl⟩)))
  case lefts=>exact c "lefts" _ (by decide) (by decide) (by decide) (by decide) (by decide) (by decide) (g4 d "lefts" _ (Or.inr (Or.inr (Or.inl ⟨rfl,rfl⟩))))
  case rights=>exact c "rights" _ (by decide) (by decide) (by decide) (by decide) (by decide) (by decide) (g4 d "rights" _ (Or.inr (Or.inr (Or.inr ⟨rfl,rfl⟩))))
  all_goals
   have i:∀(D w:Str)(b:Bool),jU [stW p]=.ok (.str D)->oIn (.str w) jg=.ok (.bl true)->oEq (.str w) (.str "not")=.ok (.bl false)->oEq (.str w) (.str "at")=.ok (.bl false)->oEq (.str w) (.str "inner")=.ok (.bl false)->(D==w)=b->ck (n+1) [flW f,.int d,.tup [.str w]]=.ok (.bl b):=λD w b C q x h H E=>by
    have v:oEq (.str D) (.str w)=.ok (.bl b):=by rw[<-E];rfl
    simp[ck,gj,List.replicate,q,x,h,H,k,C,v]
   refine i _ _ _ o (by kernel_rfl) (by kernel_rfl) (by kernel_rfl) (by kernel_rfl) ?_;clear i c o;simp only[nN];generalize far (sfp p 1 0)=A at *;generalize far (cp p)=B at *;rcases Int.lt_trichotomy A B with st|st|st
   ·rw[ao2 (by omega),ao1 st];first|rw[apO (by omega)]|rw[api (by omega)]
    rfl
   ·rw[ao1 st];first|rw[apO (by omega)]|rw[api (by omega)]
    rfl
   ·rw[ao2 (by omega),ao2 (by omega)];first|rw[apO (by omega)]|rw[api (by omega)]
    rfl
def aew(f:List S3)(a:∀p∈f,0<=p.2.2/\p.2.2<4)(d:Nat)(b:d<f.length)(g:Bool)(t:Tst):ck 2 [flW f,.int d,tsW g t]=.ok (.bl (if g then !nN f d (f.getD d (0,0,0)) t else nN f d (f.getD d (0,0,0)) t)):=by cases g with|false=>exact afC 1 f a d b t|true=>have h:=afC 0 f a d b t;simp only[tsW,apU];rw[show ck 2=run 4 (gj (ck 1))from rfl];simp[gj,List.replicate,h]
theorem qU(f:List S3)(m:∀p∈f,0<=p.2.2/\p.2.2<4)(d:Nat)(j:d<f.length)(C:W):∀(c:List Rl)(e:∀r∈c,r.ts.length<=100)(k:Nat)(i g:Sl),fin (ua (forL (xn (di (aA 3) (di (aA 4) xt))) dg (dB k (c.map Rl.W)) [.va (flW f),.va (.int d),.va C,i,g]) (bz (eC .non)))=.ok (onW (kO f d k c))
|[],_,k,i,g=>by simp[dB,kO]|r::c,e,k,i,g=>by
 simp only[ao9,dB,dj];have n:=qU f m d j C c (λr o=>e r (by simp[o])) (k+1) (.va (.int k)) (.va r.W);have l:r.ts.length<=1000000:=by have:=e r (by simp);omega
 have a:bA (aA 0) nv (ay (ck 2) (ae (aj 1) (ae (aj 2) (ae (aj 0) av)))) [.no,.va (flW f),.va (.int d),.va C,.va (.int k),.va r.W] (r.ts.map λp=>tsW p.1 p.2)=.ok (r.ts.map λp=>.bl (ajW p.1 (nN f d (f.getD d (0,0,0)) p.2))):=dY λp _=>⟨_,rfl,rfl,by have h:=aew f m d j p.1 p.2;simp at h;simp[h,ajW]⟩;have b:allB (r.ts.map λp=>.bl (ajW p.1 (nN f d (f.getD d (0,0,0)) p.2)))=some (agF f d r):=by have:=xO (r.ts.map λp=>ajW p.1 (nN f d (f.getD d (0,0,0)) p.2));simp only[aqo,List.all_map]at this;exact this
 by_cases h:agF f d r=true;·simp at a b;simp[dg,tsL,l,List.replicate,a,b,h,kO]
 ·simp at a b;simp[dg,tsL,l,List.replicate,a,b,h,kO]at n⊢;exact n
def um(f:List S3)(a:∀p∈f,0<=p.2.2/\p.2.2<4)(d:Nat)(e:d<f.length)(c:List Rl)(b:∀r∈c,r.ts.length<=100):fB [flW f,.int d,clW c]=.ok (onW (kO f d 0 c)):=by have h:=qU f a d e (clW c) c b 0 .no .no;simp[fB,jn,List.replicate,clW]at h⊢;exact h
def aaE{lo:Int}{n i:Nat}{x:W}(h:(rng lo n)[i]?=some x):i<n/\x=.int (lo+i):=uq lo n i x h
def abG{f:List S3}{S:W}(b:S=flW f\/S=.lst (f.map stW)){k:Nat}(a:k<f.length):oIx S (.int k)=.ok (stW (f.getD k (0,0,0))):=by
 have e:f[k]?=some (f.getD k (0,0,0)):=by rw[apj,ao5 a];rfl
 rcases b with rfl|rfl;·exact afr (by omega) (by rw[aqw];exact e)
 ·rw[uK,gO,apo,e];rfl
def uR{f:List S3}{S:W}(a:S=flW f\/S=.lst (f.map stW)):gf [S]=.ok (.int f.length):=by rcases a with rfl|rfl<;>simp[flW]
def bb{n:Nat}(h:n<=100):(n:Int)<4611686018427387904/\-4611686018427387904<=(n:Int):=by omega
def du(f:List S3)(z:f.length<=100)(S:W)(q:S=flW f\/S=.lst (f.map stW)):∃w,bD [S]=.ok w/\Met f w:=by
 have h:=u0 (g:=aA 1) (b:=cg) (xs:=rng 0 f.length) (σ:=[.va S,.no,.no]) (λi k=>(∃o c,k=[.va S,o,c])/\∀a b,a<i->a<b->b<f.length->cp (f.getD a (0,0,0))≠cp (f.getD b (0,0,0))) (λi w=>Met f w) ⟨⟨_,_,rfl⟩,λa b h=>absurd h (Nat.not_lt_zero _)⟩ (by
   rintro i x σ v⟨⟨o,c,rfl⟩,r⟩;obtain⟨B,rfl⟩:=aaE v;refine⟨_,rfl,?_⟩;have m:=u0 (g:=aA 2) (b:=aN) (xs:=rng (i+1) (f.length-(i+1))) (σ:=[.va S,.va (.int (0+i)),c]) (λj k=>(∃c,k=[.va S,.va (.int (0+i)),c])/\∀b,i<b->b<i+1+j->cp (f.getD i (0,0,0))≠cp (f.getD b (0,0,0))) (λj w=>Met f w) ⟨⟨_,rfl⟩,λb n l=>absurd l (asE.mpr n)⟩ (by
     rintro j x σ v⟨⟨c,rfl⟩,m⟩;obtain⟨K,rfl⟩:=aaE v;refine⟨_,rfl,?_⟩;have A:=abG q B;have p:=Nat.add_lt_of_lt_sub' K;have C:=abG q p;have M:((0:Int)+(i:Nat))=((i:Nat):Int):=Int.zero_add _;have D:((i:Int)+1+(j:Nat))=((i+1+j:Nat):Int):=rfl;rw[M,D];by_cases h:cp (f.getD i (0,0,0))=cp (f.getD (i+1+j) (0,0,0));·refine .inr ⟨.tup [.int i,.int ((i+1+j:Nat):Int)],?_,Met.two i (i+1+j) (apa (aqy i) (aqm ..)) p h (λa b=>r a b) (λb n l=>m b n l)⟩;simp only[aN];rw[afe];simp only[adC,aca,jb,hI,j5,ng,aqb,apS,alD,alE,pY,cn,A,C,cR,eP,afs,ae4,hY,h,decide_true,apU];simp
     ·refine .inl ⟨[.va S,.va (.int i),.va (.int ((i+1+j:Nat):Int))],?_,⟨_,rfl⟩,λb n l=>?_⟩;·simp only[aN];rw[afe];simp only[adC,aca,jb,hI,j5,ng,aqb,apS,alD,alE,pY,cn,A,C,cR,eP,afs,ae4,hY,h,decide_false];simp
      ·by_cases s:b<i+1+j;·exact m b n s
       ·have:b=i+1+j:=Nat.le_antisymm (arl l) (asE.mp s);rw[this];exact h);have J:∀o,ofR o (rY (eOp gb (aj 1) (eC (.int 1))) (eBi gf (ae (aj 0) av)) [.va S,.va (.int (0+i)),c]) (λxs=>forL (aA 2) aN xs [.va S,.va (.int (0+i)),c])=forL (aA 2) aN (rng (i+1) (f.length-(i+1))) [.va S,.va (.int (0+i)),c]:=λo=>by have t:=bb z;have I:((i:Int)+1)<4611686018427387904/\-4611686018427387904<=((i:Int)+1):=bb (apc B z);have H:((f.length:Int)-((i:Int)+1)).toNat=f.length-(i+1):=Int.toNat_sub f.length (i+1);simp[uR q,t,I,H]
   have s:cg (([.va S,o,c]:Ws).set 1 (.va (.int (0+i))))=forL (aA 2) aN (rng (i+1) (f.length-(i+1))) [.va S,.va (.int (0+i)),c]:=by show nE _ _ _ _=_;rw[aaC];exact J _
   rw[s];rcases m with⟨k,e,⟨N,rfl⟩,d⟩|⟨j,w,_,e,u⟩
   ·refine .inl ⟨_,e,⟨_,_,rfl⟩,λa b n l G=>?_⟩;by_cases E:a<i;·exact r a b E l G
    ·have:a=i:=by omega
     subst this;exact d b l (by simp;omega)
   ·exact .inr ⟨w,e,u⟩);have t:(f.length:Int)<4611686018427387904:=by omega
 have y:-4611686018427387904<=(f.length:Int):=by omega
 rcases h with⟨k,e,⟨o,c,rfl⟩,d⟩|⟨i,w,_,e,u⟩;·refine⟨.non,?_,.none (aeU λa b n l=>d a b (by simp;omega) n l)⟩;simp[bD,cD,List.replicate,uR q,t,y,e]
 ·refine⟨w,?_,u⟩;simp[bD,cD,List.replicate,uR q,t,y,e]
def i6(f:List S3)(c:f.length<=100)(S:W)(a:S=flW f\/S=.lst (f.map stW))(b:nX f):bD [S]=.ok .non:=by obtain⟨w,e,m⟩:=du f c S a;cases m with|none _=>exact e|two i j hij hj h _ _=>exact absurd h (la b hij hj)
def u2(f:List S3)(c:f.length<=100)(S:W)(a:S=flW f\/S=.lst (f.map stW))(b:nX f):dF [S]=.ok (flW f):=by have e:=i6 f c S a b;rcases a with rfl|rfl<;>simp[dF,gQ,List.replicate,e,flW]at e⊢<;>simp[e]
def lV(p:S3)(h:Fac p)(s:Stp):cu [stW p,s.W]=.ok (stW (t9 p s)):=by obtain⟨f,i⟩:=h;cases s with|go g n=>
 obtain⟨a,b,j,l,m,c⟩:∃a b:Int,oIx gM (.str g.w)=.ok (.tup [.int a,.int b])/\(-2<a/\a<2)/\(-2<b/\b<2)/\t9 p (.go g n)=((sfp p (a*n) (b*n)).1,(sfp p (a*n) (b*n)).2,p.2.2):=by
  cases g;·exact⟨1,0,rfl,by decide,by decide,by simp[t9]⟩
  ·exact⟨-1,0,rfl,by decide,by decide,by simp[t9]⟩
  ·exact⟨0,-1,rfl,by decide,by decide,by simp[t9]⟩
  ·exact⟨0,1,rfl,by decide,by decide,by simp[t9]⟩
 have d:=agv p (a*n) (b*n) f i;have k:¬g.w="turn":=by cases g<;>decide
 rw[c];generalize sfp p (a*n) (b*n)=P at *;simp only[stW,spW]at d;simp(disch:=omega)[cu,cZ,List.replicate,Stp.W,j,afq,k,stW,d]|turn t=>
 obtain⟨q,e,c⟩:∃q:Int,bC [.int p.2.2,.str t.w]=.ok (.int ((p.2.2+q)%4))/\t9 p (.turn t)=(p.1,p.2.1,(p.2.2+q)%4):=by
  cases t;·exact⟨_,bg _ _ 1 (.inr (.inl ⟨rfl,rfl⟩)),rfl⟩
  ·first|exact⟨_,bg _ _ 3 (.inr (.inr (.inr ⟨rfl,rfl⟩))),rfl⟩|exact⟨_,bg _ _ 2 (.inr (.inr (.inl ⟨rfl,rfl⟩))),rfl⟩
  ·first|exact⟨_,bg _ _ 3 (.inr (.inr (.inr ⟨rfl,rfl⟩))),rfl⟩|exact⟨_,bg _ _ 2 (.inr (.inr (.inl ⟨rfl,rfl⟩))),rfl⟩
 rw[c];simp[cu,cZ,List.replicate,Stp.W,e,stW]
def x9(s:Stp):∃w:String,oIx s.W (.int 0)=.ok (.str w)/\w≠"stay":=by cases s with|go g n=>cases g<;>exact⟨_,rfl,by decide⟩|turn t=>exact⟨_,rfl,by decide⟩
def wu(p:S3):plain (stW p)=true:=by simp[stW]
theorem vL(P S:W):∀(l:List Stp)(p:S3)(pre:List S3)(o:Sl),Fac p->pre.length+l.length<999999->∃c,forL (aA 3) dE (l.map Stp.W) [.va P,.va S,.ow ((pre++[p]).map stW),o]=.nx [.va P,.va S,.ow ((pre++kK p l).map stW),c]
|[],p,pre,o,_,_=>⟨o,rfl⟩|s::l,p,pre,o,h,hl=>by
 obtain⟨w,hw,f⟩:=x9 s;have e:=lV p h s;obtain⟨c,i⟩:=vL P S l (t9 p s) (pre++[p]) (.va s.W) (qB p s h) (by simp at hl⊢;omega);refine⟨c,?_⟩;have a:atI ((pre++[p]).map stW) (-1)=some (stW p):=by rw[k9];simp
 have b:((pre++[p]).map stW).length<1000000:=by simp at hl⊢;omega
 have g:=wu (t9 p s);simp only[ao9,dj];have d:dE [.va P,.va S,.ow ((pre++[p]).map stW),.va s.W]=.nx [.va P,.va S,.ow ((pre++[p]++[t9 p s]).map stW),.va s.W]:=by simp at a b;simp[dE,hw,f,a,e,g,b]
 simp only[pZ,aqb,apS,hY,d];simp only[kK];rw[show pre++p::kK (t9 p s) l=pre++[p]++kK (t9 p s) l from by simp];exact i
def zR(p:S3)(h:Fac p)(s:Option (List Stp))(a:∀l,s=some l->l.length<=100):g6 [stW p,ssW s]=.ok (oS (kP p s)):=by cases s with|none=>simp[g6,kU,List.replicate,ssW,dj,dE,oS,kP]|some l=>obtain⟨b,e⟩:=vL (stW p) (ssW (some l)) l p [] .no h (by have:=a l rfl;simp;omega);simp[ssW]at e;simp[g6,kU,List.replicate,ssW,e,oS,kP]
def uU(p:S3)(h:Fac p):fF [stW p]=.ok (.bl (inB p)):=by
 obtain⟨c,d⟩:=h;obtain⟨x,y,k⟩:=p;simp only at c d;have e:fP [.int k]=.ok (.bl true):=by simp[fP,iq,fE,gP,isK,nM,j3,c,d]
 have f:∀z:Int,fG [.int z]=.ok (.bl (decide (-200<=z)&&decide (z<=200))):=λz=>by by_cases a:-200<=z<;>by_cases b:z<=200<;>simp[fG,jv,fE,gP,isK,nM,j4,a,b]
 simp only[inB];by_cases a:(decide (-200<=x)&&decide (x<=200))=true<;>by_cases b:(decide (-200<=y)&&decide (y<=200))=true<;>simp[fF,ju,isK,nM,stW,e,f,a,b]at a b⊢<;>simp[a,b]
theorem rW(A:W):∀(ws:List (List S3))(k:Nat)(j g:Sl),(∀w∈ws,∀p∈w,Fac p)->(∀w∈ws,w.length<=1000)->k+ws.length<=900->(match zq k ws with|some d=>∃l,forL (xn (di (aA 1) (di (aA 2) xt))) bW (dB k (ws.map oS)) [.va A,j,g]=.ex (exN "Out" d) l|none=>∃m n,forL (xn (di (aA 1) (di (aA 2) xt))) bW (dB k (ws.map oS)) [.va A,j,g]=.nx [.va A,m,n])
|[],k,j,g,_,_,_=>⟨j,g,rfl⟩|w::ws,k,j,g,hf,hl,hk=>by
  have r:=rW A ws (k+1) (.va (.int k)) (.va (oS w)) (λw hw=>hf w (by simp[hw])) (λw hw=>hl w (by simp[hw])) (by simp at hk⊢;omega);have f:cut (w.map stW) (some 1) none=(w.drop 1).map stW:=by simp[cut,sIx,List.map_drop];cases w with|nil=>simp|cons x xs=>simp[List.take_of_length_le]
  have a:bA (aA 0) nv (ay fF (ae (aj 0) av)) [.no,.va A,.va (.int k),.va (oS w)] ((w.drop 1).map stW)=.ok ((w.drop 1).map λp=>.bl (inB p)):=dY λp o=>⟨_,rfl,rfl,by have e:=uU p (hf w (by simp) p (List.mem_of_mem_drop o));simp[e]⟩;have b:allB ((w.drop 1).map λp=>.bl (inB p))=some ((w.drop 1).all inB):=by have:=xO ((w.drop 1).map inB);simp only[aqo,List.all_map]at this;exact this
  have c:((w.drop 1).map stW).length<=1000000:=by have:=hl w (by simp);simp;omega
  have q:kf (.int k)=true:=by
   simp only[kf,apz,Int.natAbs_natCast];by_cases z:k=0;·rw[z];decide
   ·rw[Nat.log2_lt z];exact apa (show k<1000 by simp at hk;omega) (by decide)
  simp only[zq,ao9,dB,dj];have e:oS w=.lst (w.map stW):=rfl;generalize w.drop 1=v at *;rw[apk]at c;by_cases h:v.all inB=true
  ·rw[ao1 h];have i:bW [.va A,.va (.int k),.va (oS w)]=.nx [.va A,.va (.int k),.va (oS w)]:=by rw[h]at b;rw[e]at a⊢;simp[bW,f,c,List.replicate,a,b]
   simp only[xj,oG,pZ,eP,cn,aqb,apS,xo,hY,i];exact r
  ·rw[ao2 h];have s:v.all inB=false:=by simpa using h
   have i:∃l,bW [.va A,.va (.int k),.va (oS w)]=.ex (exN "Out" k) l:=by rw[s]at b;rw[e]at a⊢;simp[bW,f,c,List.replicate,a,b,jE,WL.fieldsOf,q,exN]
   obtain⟨l,i⟩:=i;refine⟨l,?_⟩;simp only[xj,oG,pZ,eP,cn,aqb,apS,xo,hY,i];rfl
def yQ(ws:List (List S3))(a:∀w∈ws,∀p∈w,Fac p)(b:∀w∈ws,w.length<=1000)(c:ws.length<=800):gG [kJ ws]=(match zq 0 ws with|some d=>.ex (exN "Out" d)|none=>.ok (kJ ws)):=by have h:=rW (kJ ws) ws 0 .no .no a b (by omega);cases e:zq 0 ws with|some d=>rw[e]at h;obtain⟨f,h⟩:=h;simp[kJ]at h;simp[gG,iK,List.replicate,kJ,run_eq,h]|none=>rw[e]at h;obtain⟨i,g,h⟩:=h;simp[kJ]at h;simp[gG,iK,List.replicate,kJ,h]
def lX{n:Nat}(h:n<1000):kf (.int n)=true:=by
 simp only[kf,apz,Int.natAbs_natCast];by_cases z:n=0;·rw[z];decide
 ·rw[Nat.log2_lt z];exact apa h (by decide)
theorem oM(d:Nat):∀l:List Nat,cC (.int d) (l.map λk:Nat=>.int k)=l.contains d|[]=>rfl|k::l=>by simp only[ao9,vC,oM d l,List.contains_cons];congr 1;simp only[eqv];rw[apB];simp;omega
def ad4(n:Nat)(l:List Nat):dQ (n+1) (l.map λk:Nat=>.int k)=true:=ag3 n _ _ λ_ _=>by simp[okD]
def t8(f:List S3)(u:∀p∈f,Fac p)(c:List Rl)(q:∀r∈c,r.ts.length<=100)(b:Option (List Nat))(d:Nat)(s:d<f.length)(y:d<900):cS [flW f,.int d,clW c,smW b]=stR ssW (exN "Blind" d) (ny f c b d):=by
 have i:=um f u d s c q;have g:=pz f d 0 c;have x:=lX (n:=d) (by omega);have go:alJ b d=true->(fin (aK (bK 4 (ay fB (ae (aj 0) (ae (aj 1) (ae (aj 2) av))))) (aK (sIf (tB (eOp oIs (aj 4) (eC .non))) (iu "Blind" (ae (aj 1) av)) sNx) (bz (eOp oIx (eOp oIx (aj 2) (aj 4)) (eC (.int 1))))) [.va (flW f),.va (.int d),.va (clW c),.va (smW b),.no]))=stR ssW (exN "Blind" d) (ny f c b d):=λe=>by unfold ny;rw[ao1 e];generalize kO f d 0 c=o at *;cases o with|none=>simp[i,jE,WL.fieldsOf,x,exN]|some k=>
   have j:k<c.length:=by have:=g k rfl;omega
   have v:=ajU j;simp[i,v,j]
 cases b with|none=>rw[<-go rfl];simp[cS,fo,List.replicate,smW]|some l=>
  have a:fy (.int d) (.lst (l.map λk:Nat=>.int k))=.ok (.bl (!l.contains d)):=by show(if(okD 50 (.int d)&&dQ 51 (l.map λk:Nat=>W.int k))=true then Res.ok (W.bl (!cC (.int d) (l.map λk:Nat=>W.int k)))else .bad)=_;rw[ao1 (by rw[ad4];simp[okD]),oM]
  by_cases h:l.contains d=true;·rw[<-go h];have w:smW (some l)=.lst (l.map λk:Nat=>.int k):=rfl;rw[h]at a;rw[w];simp only[cS,fo,run_eq];simp[List.replicate,mU,a]
  ·have m:l.contains d=false:=by simpa using h
   rw[m]at a;have t:ny f c (some l) d=some (some []):=by unfold ny;rw[ao2 (by simpa[alJ]using m)]
   rw[t];simp[cS,fo,List.replicate,smW,mU,a,ssW]
def agc(f:List S3)(K:f.length=8)(B:∀p∈f,Fac p)(c:List Rl)(E:∀r∈c,r.ts.length<=100)(D:∀r∈c,∀l,r.ss=some l->l.length<=100)(b:Option (List Nat)):sg [flW f,clW c,smW b]=(oR f c b).bind λws=>.ok (kJ ws):=by
 have y:∀d,d<8->f.getD d (0,0,0)∈f:=λd n=>by
  have v:d<f.length:=by omega
  rw[apj,ao5 v];exact aqa v
 have x:∀d l,ny f c b d=some (some l)->l.length<=100:=λd l h=>by
  unfold ny at h;by_cases q:alJ b d=true;·rw[ao1 q]at h;cases z:kO f d 0 c with|none=>rw[z]at h;cases h|some k=>
    rw[z]at h;have t:=(pz f d 0 c k z).2;rw[Nat.zero_add]at t;have e:c.getD k ⟨[],none⟩=c[k]:=by rw[apj,ao5 t];rfl
    simp only[Option.map_some,ar9,e]at h;exact D c[k] (aqa t) l h
  ·rw[ao2 q]at h;cases h;simp
 have a:bA (aA 0) nv (cL cS (ae (aj 1) (ae (aj 0) (ae (aj 2) (ae (aj 3) av))))) [.no,.va (flW f),.va (clW c),.va (smW b),.no] ((List.range 8).map λi:Nat=>.int (0+(i:Nat)))=ah3 ((List.range 8).map λd=>stR ssW (exN "Blind" d) (ny f c b d)):=sQ λd n=>⟨_,rfl,rfl,by have o:d<8:=apW.mp n;have e:=t8 f B c E b d (by omega) (by omega);simp only[Int.zero_add];simp only[acf,hI,j5,ng,apS,alD,alE,pY,cn];exact e⟩;rw[qV]at a;rw[show(List.range 8).map (λi:Nat=>W.int (0+(i:Nat)))=rng 0 8 from rfl]at a;unfold oR;cases g:(List.range 8).find? λd=>(ny f c b d).isNone with|some d=>rw[g]at a;simp only[Option.elim]at a;simp[sg,vQ,List.replicate,dZ,sI,rT,tK,a]|none=>
  rw[g]at a;simp only[Option.elim]at a;have m:∀d,d<8->∃s,ny f c b d=some s:=λd n=>by have:=List.find?_eq_none.mp g d (apW.mpr n);cases e:ny f c b d with|none=>rw[e]at this;exact absurd rfl this|some s=>exact⟨s,rfl⟩
  have j:bA (aA 0) nv (ay g6 (ae (eOp oIx (aj 1) (aj 0)) (ae (eOp oIx (aj 4) (aj 0)) av))) [.no,.va (flW f),.va (clW c),.va (smW b),.va (.lst ((List.range 8).map λi=>stN ssW (ny f c b i)))] ((List.range 8).map λi:Nat=>.int (0+(i:Nat)))=.ok ((List.range 8).map λd=>oS (kP (f.getD d (0,0,0)) ((ny f c b d).getD none))):=dY λd n=>⟨_,rfl,rfl,by
    have o:d<8:=apW.mp n;obtain⟨s,u⟩:=m d o;have H:=ab0 (f:=f) (k:=d) (by omega);have I:=zR (f.getD d (0,0,0)) (B _ (y d o)) s (λl e=>x d l (by rw[u,e]));have J:oIx (.lst ((List.range 8).map λi=>stN ssW (ny f c b i))) (.int d)=.ok (ssW s):=by rw[uK,gO,apo,aqY o];simp[u]
    simp only[Int.zero_add];simp only[jb,aca,hI,j5,ng,apS,alD,alE,pY,cn,H,J,I,eP,u,Option.getD_some]⟩;rw[show(List.range 8).map (λi:Nat=>W.int (0+(i:Nat)))=rng 0 8 from rfl]at j;have t:=yQ (cE f c b) (λw hw=>by obtain⟨d,n,rfl⟩:=apv.mp hw;exact rh _ _ (B _ (y d (apW.mp n)))) (λw hw=>by obtain⟨d,n,rfl⟩:=apv.mp hw;obtain⟨s,u⟩:=m d (apW.mp n);rw[u];cases s with|none=>simp[kP]|some l=>have:=x d l u;simp[kP,qC];omega) (by simp[cE]);have C:kJ (cE f c b)=.lst ((List.range 8).map λd=>oS (kP (f.getD d (0,0,0)) ((ny f c b d).getD none))):=by simp only[kJ,cE,aqo];rfl
  rw[<-show W.lst _=_ from C.symm]at t;have G:=t;generalize hA:(List.range 8).map (λi=>stN ssW (ny f c b i))=A at *;generalize hB:(List.range 8).map (λd=>oS (kP (f.getD d (0,0,0)) ((ny f c b d).getD none)))=Bq at *;simp only[sg,vQ,run_eq,ao9,aqB,aph,aq0,List.replicate,ap1,aqr,gp,aaB,sI,rT,aeu,ano,dZ,cn,adI];simp[tK,a,j,t];rw[<-C];cases zq 0 (cE f c b)<;>simp
def yJ{f:List S3}{w b:W}(h:Met f w)(h':Met f b):w=b:=by cases h with
|none a=>cases h' with|none _=>rfl|two i j hij hj h _ _=>exact absurd h (la a hij hj)
|two i j hij hj h p1 p2=>cases h' with|none a=>exact absurd h (la a hij hj)|two i' j' hij' hj' h' q1 q2=>
   have c:i=i':=by
    rcases Nat.lt_trichotomy i i' with z|z|z;·exact absurd h (q1 i j z hij hj)
    ·exact z
    ·exact absurd h' (p1 i' j' z hij' hj')
   subst c;have d:j=j':=by
    rcases Nat.lt_trichotomy j j' with z|z|z;·exact absurd h (q2 j hij z)
    ·exact z
    ·exact absurd h' (p2 j' hij' z)
   subst d;rfl
theorem aa0:∀(k:Nat)(ws:List (List S3)),zq k ws=none->∀w∈ws,(w.drop 1).all inB=true
|_,[],_,w,hw=>by cases hw|k,x::ws,h,w,hw=>by
 simp only[zq]at h;split at h
 ·rename_i a;rcases apl.mp hw with rfl|hw;·exact a
  ·exact aa0 (k+1) ws h w hw
 ·cases h
def ahj(w:List S3)(hw:w≠[]):oIx (oS w) (.int (-1))=.ok (stW (gC w)):=by have e:oS w=.lst (w.map stW):=rfl;rw[e,uK,k9,List.getLast?_map,gC,asf,aqN hw];rfl
def oA(A:List Sl)(ws:List (List S3))(h:∀w∈ws,w≠[]):bA (aA 0) nv (eOp oIx (aj 0) (eUn wM (eC (.int 1)))) (.no::A) (ws.map oS)=.ok ((ws.map gC).map stW):=by have:=dY (g:=aA 0) (t:=nv) (e:=eOp oIx (aj 0) (eUn wM (eC (.int 1)))) (σ:=.no::A) (emb:=oS) (f:=λw=>stW (gC w)) (xs:=ws) λw hw=>⟨_,rfl,rfl,by have e:=ahj w (h w hw);simp[e]⟩;rw[this,aqo];rfl
def qa(f:List S3)(h:f.length<=100)(i j:Nat)(a:Met f (.tup [.int i,.int j]))(S:W)(b:S=flW f\/S=.lst (f.map stW)):dF [S]=.ex (.exc "Meet" [.int i,.int j]):=by
 obtain⟨w,e,m⟩:=du f h S b;have c:i<f.length/\j<f.length:=by cases a with|two i' j' h1 h2 _ _ _=>simp at *;omega
 have hw:w=.tup [.int i,.int j]:=yJ m a;subst hw;have g:=lX (n:=i) (by omega);have d:=lX (n:=j) (by omega);simp[dF,gQ,List.replicate,e,jE,WL.fieldsOf,g,d,mU]
def ans(f:List S3)(s:f.length=8)(t:∀p∈f,Fac p)(c:List Rl)(q:∀r∈c,r.ts.length<=100)(n:∀r∈c,∀l,r.ss=some l->l.length<=100):(∀x,oR f c none=.ex x->cK [flW f,clW c,.non]=.ex x)/\∀ws g,oR f c none=.ok ws->(∀w∈ws,w≠[])->ws.map gC=g->g.length=8->(nX g->cK [flW f,clW c,.non]=.ok (flW g))/\∀i j:Nat,Met g (.tup [.int i,.int j])->cK [flW f,clW c,.non]=.ex (.exc "Meet" [.int i,.int j]):=by
 have a:=agc f s t c q n none;rw[show smW none=.non from rfl]at a;refine⟨λx e=>?_,λws g e d h v=>⟨λo=>?_,λi j u=>?_⟩⟩;·rw[e]at a;simp at a;simp[cK,iL,List.replicate,a]
 ·rw[e,cn]at a;have b:=λA=>oA A ws d;have k:=u2 g (by omega) (.lst (g.map stW)) (.inr rfl) o;rw[h]at b;have m:ws.length<=1000000:=by rw[<-apk (f:=gC),h];omega
  simp only[kJ]at a;simp[cK,iL,List.replicate,a,b,k,m]
 ·rw[e,cn]at a;have b:=λA=>oA A ws d;have k:=qa g (by omega) i j u (.lst (g.map stW)) (.inr rfl);rw[h]at b;have m:ws.length<=1000000:=by rw[<-apk (f:=gC),h];omega
  simp only[kJ]at a;simp[cK,iL,List.replicate,a,b,k,m]
structure G8(f:List S3):Prop where len:f.length=8good:∀p∈f,FM.Good p
def G8.fac{f:List S3}(h:G8 f):∀p∈f,Fac p:=λp a=>(h.good p a).2.2.2.2
def dnc(f:List S3)(c:List Rl):Option (List S3):=match oR f c none with|.ok ws=>@ite _ (nX (ws.map gC)) (Classical.propDecidable _) (some (ws.map gC)) none|_=>none
def Ref(x:W):Prop:=∃fs,x=.exc "Blind" fs\/x=.exc "Out" fs\/x=.exc "Meet" fs
def ahq{p:S3}(h:inB p=true)(a:Fac p):FM.Good p:=by simp only[inB,apg,apz]at h;exact⟨h.1.1,h.1.2,h.2.1,h.2.2,a.1,a.2⟩
def yu{f:List S3}(h:G8 f){c:List Rl}(k:zq 0 (cE f c none)=none):(∀w∈cE f c none,w≠[])/\G8 ((cE f c none).map gC):=by
 have b:∀w∈cE f c none,w≠[]/\FM.Good (gC w):=λw hw=>by
  have j:=aa0 0 _ k w hw;obtain⟨d,g,rfl⟩:=apv.mp hw;have g:d<f.length:=by rw[h.len];exact apW.mp g
  have e:f.getD d (0,0,0)∈f:=by rw[apj,ao5 g];exact aqa g
  have a:=rh ((ny f c none d).getD none) _ (h.fac _ e);obtain⟨t,l⟩:=yw ((ny f c none d).getD none) (f.getD d (0,0,0));rw[l]at j a⊢;refine⟨by simp,?_⟩;have i:=abz (w:=f.getD d (0,0,0)::t) (by simp);rcases apl.mp i with z|z;·rw[z];exact h.good _ e
  ·exact ahq (apC.mp j _ z) (a _ i)
 refine⟨λw hw=>(b w hw).1,by simp[cE],λp e=>?_⟩;obtain⟨w,hw,rfl⟩:=apv.mp e;exact(b w hw).2
structure COk(c:List Rl):Prop where ts:∀r∈c,r.ts.length<=100ss:∀r∈c,∀l,r.ss=some l->l.length<=100
def tT(f:List S3)(c:List Rl):(∃d,oR f c none=.ex (exN "Blind" d))\/(∃d,oR f c none=.ex (exN "Out" d))\/(oR f c none=.ok (cE f c none)/\zq 0 (cE f c none)=none):=by unfold oR;cases(List.range 8).find? λd=>(ny f c none d).isNone with|some d=>exact .inl ⟨d,rfl⟩|none=>cases e:zq 0 (cE f c none)with|some d=>exact .inr (.inl ⟨d,rfl⟩)|none=>exact .inr (.inr ⟨rfl,rfl⟩)
def ach{f:List S3}(l:G8 f){c:List Rl}(o:COk c):(∃g,dnc f c=some g/\cK [flW f,clW c,.non]=.ok (flW g)/\G8 g)\/(dnc f c=none/\∃x,Ref x/\cK [flW f,clW c,.non]=.ex x):=by
 obtain⟨p,r⟩:=ans f l.len l.fac c o.ts o.ss;rcases tT f c with⟨d,e⟩|⟨d,e⟩|⟨e,s⟩;·exact .inr ⟨by unfold dnc;rw[e],_,⟨_,.inl rfl⟩,p _ e⟩
 ·exact .inr ⟨by unfold dnc;rw[e],_,⟨_,.inr (.inl rfl)⟩,p _ e⟩
 ·obtain⟨n,k⟩:=yu l s;obtain⟨t,u⟩:=r _ _ e n rfl k.len;obtain⟨w,_,m⟩:=du ((cE f c none).map gC) (by have:=k.len;omega) (flW ((cE f c none).map gC)) (.inl rfl);have q:dnc f c=@ite _ (nX ((cE f c none).map gC)) (Classical.propDecidable _) (some ((cE f c none).map gC)) none:=by unfold dnc;rw[e]
  cases m with|none a=>exact .inl ⟨_,by rw[q,ao1 a],t a,k⟩|two i j hij hj h a b=>exact .inr ⟨by rw[q,ao2 λz=>la z hij hj h],_,⟨_,.inr (.inr rfl)⟩,u i j (.two i j hij hj h a b)⟩
def fm(f:List S3):List S3:=FM.pick (aR f) 3
def ahx{f:List S3}(h:G8 f):gI [flW f]=.ok (flW (fm f)):=aht f (by have:=h.len;omega)
def G8.turn{f:List S3}(h:G8 f)(k:Nat):G8 (f.map (FM.tqn k)):=⟨by rw[apk];exact h.len,λp b=>by obtain⟨r,a,rfl⟩:=apv.mp b;exact FM.ado k r (h.good r a)⟩
theorem G8.fm{f:List S3}(h:G8 f):G8 (fm f):=by obtain⟨i,_,e⟩:=FM.kZ (aR f) 3;unfold K66.fm;rw[e];exact h.turn i
def ahw{f:List S3}(h:G8 f)(q:Nat)(a:q<=3):fm (f.map (FM.tqn q))=fm f:=FM.uZ h.good q a
def vO{f:List S3}(h:G8 f)(n:Int):∃q,q<=3/\eL [flW f,.int n]=.ok (flW (f.map (FM.tqn q))):=⟨(n%4).toNat,by omega,qt f n (by have:=h.len;omega)⟩
noncomputable def CS:List (Str×List Rl):=[("about",[⟨[],some [.turn .about]⟩]),("lt",[⟨[],some [.turn .left]⟩]),("walk",[⟨[(false,.at 2 0 .none)],some [.go .ahead 2]⟩]),("swap",[⟨[(false,.at 0 2 .same)],some [.go .right 2]⟩,⟨[(false,.at 0 (-2) .same)],some [.go .left 2]⟩,⟨[],none⟩]),("cross",[⟨[(false,.at 6 0 .about)],some [.go .ahead 6]⟩,⟨[(false,.at 2 0 .about)],some [.go .ahead 2]⟩,⟨[],none⟩]),("hin",[⟨[(false,.lone .head),(false,.lone .inward)],some [.go .ahead 2]⟩,⟨[],none⟩]),("hout",[⟨[(false,.lone .head),(false,.inner 1)],some [.go .back 2]⟩,⟨[],none⟩]),("face",[⟨[(false,.lone .lefts)],some [.turn .right]⟩,⟨[],some [.turn .left]⟩]),("pass",[⟨[(false,.at 2 0 .any),(true,.at 4 0 .any)],some [.go .ahead 4]⟩,⟨[(false,.at 2 0 .none)],some [.go .ahead 2]⟩,⟨[],none⟩]),("side",[⟨[(false,.lone .side),(false,.at 0 2 .same)],some [.go .right 1,.go .ahead 2,.go .left 1]⟩,⟨[],none⟩]),("ring",[⟨[(false,.lone .outward)],some [.turn .left,.go .ahead 2]⟩,⟨[(false,.lone .inward)],some [.go .right 2,.turn .left]⟩,⟨[],some [.turn .left]⟩]),("back",[⟨[(false,.inner 3),(true,.inner 1)],some [.go .back 2]⟩,⟨[],some [.turn .about]⟩]),("meet",[⟨[(false,.at 0 2 .partner)],some [.go .right 1]⟩,⟨[(false,.at 0 (-2) .partner)],some [.go .left 1,.turn .left]⟩,⟨[],none⟩]),("own",[⟨[(false,.at 0 2 .partner)],some [.turn .left]⟩,⟨[(false,.at 0 (-2) .partner)],some [.turn .right]⟩,⟨[],none⟩]),("off",[⟨[(false,.lone .outward)],some (List.replicate 8 (.go .ahead 9))⟩,⟨[],some [.turn .about]⟩])]
def TXS:W:=match bX []with|.ok w=>w|_=>.non
def KN:List W:=CS.map λp=>.str p.1
def VC:List W:=CS.map λp=>clW p.2
def BK:W:=.ins "Book" [.dic KN VC]
def vP:bX []=.ok TXS:=by kernel_rfl
def ahS:sr [TXS]=.ok (.dic KN VC):=by kernel_rfl
def al9:xN [TXS]=tx [.lst KN]:=by kernel_rfl
def ahQ:∀p∈CS,bt [BK,.str p.1]=.ok (clW p.2):=by intro p a;simp only[CS,apl,aqk,or_false]at a;rcases a with rfl|rfl|rfl|rfl|rfl|rfl|rfl|rfl|rfl|rfl|rfl|rfl|rfl|rfl|rfl<;>kernel_rfl
def akW:(CS.all λp=>p.2.all λr=>decide (r.ts.length<=100)&&(match r.ss with|none=>true|some l=>decide (l.length<=100)))=true:=by decide+kernel
def ahK{p:Str×List Rl}(b:p∈CS):COk p.2:=by
 have h:=apC.mp (apC.mp akW p b);refine⟨λr a=>?_,λr a l e=>?_⟩;·have:=h r a;simp only[apg,apz]at this;exact this.1
 ·have:=h r a;rw[e]at this;simp only[apg,apz]at this;exact this.2
def ahJ:(CS.all λp=>p.1.cps.all (·<0x110000))=true:=by decide+kernel
def afK{p:Str×List Rl}(a:p∈CS)(n:Nat):okD n (.str p.1)=true:=by have:=apC.mp ahJ p a;simpa[okD]using this
def anw:(CS.map (·.1)).Nodup:=by decide+kernel
def sN:List Str:=yd (CS.map (·.1))
def aan:tx [.lst KN]=.ok (.lst (sN.map .str)):=by kernel_rfl
def v9:sN.length=15:=by have:=(gR (CS.map (·.1))).length_eq;exact this
def amf:sN.Nodup:=(gR _).nodup_iff.mpr anw
def afd{x:Str}(h:x∈sN):∃p∈CS,p.1=x:=by obtain⟨p,a,e⟩:=apv.mp ((gR _).mem_iff.mp h);exact⟨p,a,e⟩
def aod:isI "Book" BK=true:=by simp[isI,BK]
def sE(c:String)(f:List W->Res W)(o:EF)(a:AF)(σ:Ws):eM c f o a σ=(o σ).bind λx=>if isI c x then(a σ).bind λws=>f (x::ws)else .bad:=rfl
def aj0{p:Str×List Rl}(b:p∈CS){o a:EF}{σ:Ws}(h:o σ=.ok BK)(c:a σ=.ok (.str p.1)):eM "Book" bt o (ae a av) σ=.ok (clW p.2):=by rw[sE,h];show(if isI "Book" BK=true then((ae a av) σ).bind λws=>bt (BK::ws)else .bad)=_;rw[ao1 aod,hI,c];exact ahQ p b
def opW:Option (List S3)->W|none=>.non|some g=>flW g
def tw{p:Str×List Rl}(b:p∈CS){f:List S3}(d:G8 f):cA [BK,flW f,.str p.1]=.ok (opW (dnc f p.2)):=by
 have m:∀c,eM "Book" bt (aj 0) (ae (aj 2) av) [.va BK,.va (flW f),.va (.str p.1),c]=.ok (clW p.2):=λc=>aj0 b (by simp) (by simp);rcases ach d (ahK b)with⟨g,e,a,_⟩|⟨e,x,h,a⟩;·rw[e];simp[cA,eB,cY,List.replicate,m,a,opW]
 ·rw[e];have i:jZ "FloorError" x=true:=by obtain⟨fs,rfl|rfl|rfl⟩:=h<;>simp[kX]
  simp[cA,eB,cY,eS,List.replicate,m,a,opW,i]
def k7{p:Str×List Rl}(c:p∈CS){f g:List S3}(a:G8 f)(h:dnc f p.2=some g):G8 g:=by
 rcases ach a (ahK c)with⟨d,e,_,b⟩|⟨e,_⟩;·rw[e]at h;cases h;exact b
 ·rw[e]at h;cases h
noncomputable def HM:List S3:=[(-1,-3,0),(1,-3,0),(3,-1,1),(3,1,1),(1,3,2),(-1,3,2),(-3,1,3),(-3,-1,3)]
def aho:G8 HM:=⟨rfl,by intro p a;simp only[HM,apl,aqk,or_false]at a;rcases a with rfl|rfl|rfl|rfl|rfl|rfl|rfl|rfl<;>simp[FM.Good]⟩
def aeP(ns:List Int)(a b:Option Int):cut (ns.map W.int) a b=(cut ns a b).map .int:=by unfold cut;rw[apk,<-List.map_drop,<-List.map_take]
def pV(f:List S3):mU (flW f)=false:=rfl
def ad8:bM [BK]=.ok (.lst (sN.map .str)):=by
 have e:eJ [.va BK]=.ok (sN.map .str):=by show(tx [.lst KN]).bind asL=_;rw[aan];rfl
 show(eJ [.va BK]).bind (λa=>Res.ok (W.lst a))=_;rw[e];rfl
def ajY{o:EF}{σ:Ws}(h:o σ=.ok BK):eM "Book" bM o av σ=.ok (.lst (sN.map .str)):=by rw[sE,h];show(if isI "Book" BK=true then bM [BK]else .bad)=_;rw[ao1 aod,ad8]
def aeC(ns:List Int):∃f,G8 f/\fO [BK,.lst (ns.map .int)]=.ok (flW f):=by obtain⟨e,h,f,d,c,a,rfl⟩:=p7 (g:=aA 3) (b:=cG) (xs:=(cut ns (some 2) (some 6)).map W.int) (λ_ e=>∃f,G8 f/\∃c a,e=[.va BK,.va (.lst (ns.map .int)),.va (flW f),c,a]) (σ:=[.va BK,.va (.lst (ns.map .int)),.va xM,.no,.no]) ⟨HM,aho,_,_,rfl⟩ (by
   rintro i w σ hw⟨f,d,c,a,rfl⟩;obtain⟨z,_,rfl⟩:=apv.mp (apI hw);have s:∀c a:Sl,eM "Book" bM (aj 0) av [.va BK,.va (.lst (ns.map .int)),.va (flW f),c,a]=.ok (.lst (sN.map .str)):=λc a=>ajY (by simp);have t:0<=z%15/\z%15<15:=by omega
   have j:(z%15).toNat<sN.length:=by rw[v9];omega
   obtain⟨p,m,u⟩:=afd (aqa j);have o:atI (sN.map W.str) (z%15)=some (.str p.1):=by rw[afN _ t.1,apo,ao5 j,u];rfl
   have k:=tw m d;cases l:dnc f p.2 with|none=>rw[l]at k;refine⟨_,rfl,[.va BK,.va (.lst (ns.map .int)),.va (flW f),.va (.int z),.va .non],?_,f,d,_,_,rfl⟩;simp[cG,s,v9,o,k,opW]|some g=>rw[l]at k;refine⟨_,rfl,[.va BK,.va (.lst (ns.map .int)),.va (flW g),.va (.int z),.va (flW g)],?_,g,k7 m d l,_,_,rfl⟩;simp[cG,s,v9,o,k,opW,pV]);have r:=vo ns 2 (by decide);obtain⟨q,v,n⟩:=vO d (ns.getD 2 0%4);refine⟨_,d.turn q,?_⟩;simp at r n;simp[fO,ip,List.replicate,aeP,h,r,n]
theorem sv{b c:Type}(f:b->c):∀(l:List b)(n:Nat),(l.map f).eraseIdx n=(l.eraseIdx n).map f|[],_=>rfl|_::_,0=>rfl|a::l,n+1=>aqc (f a::·) (sv f l n)
theorem oH{b:Type}:∀{l:List b}{n:Nat}(h:n<l.length),(l[n]::l.eraseIdx n).Perm l|a::l,0,_=>.refl _|a::l,n+1,h=>((List.Perm.swap a _ _).trans (List.Perm.cons a (oH (l:=l) (n:=n) (Nat.lt_of_succ_lt_succ h))):)
def yo{i j:Nat}{e:EF}{σ:Ws}{xs ys:List W}{n:Nat}{y:W}(f:σ[i]?=some (.ow xs))(c:σ[j]?=some (.ow ys))(d:e σ=.ok (.int n))(a:i≠j)(b:ys[n]?=some y)(k:ys.length<=1000)(g:xs.length<=1000):jF i j e σ=.nx ((σ.set j (.ow (ys.eraseIdx n))).set i (.ow (xs++[y]))):=by have h:n<ys.length:=(ao3.mp b).1;unfold jF;rw[f,c];dsimp only;rw[d];dsimp only;rw[ao1 ⟨a,by omega,by omega,by rw[abx];omega,by rw[abx];omega⟩,aqw,b]
theorem wJ:∀{l:List Str},(∀x∈l,x∈sN)->∃a:List (Str×List Rl),a.map (·.1)=l/\∀p∈a,p∈CS|[],_=>⟨[],rfl,λ_ h=>nomatch h⟩|x::l,h=>by obtain⟨p,c,rfl⟩:=afd (h x (by simp));obtain⟨a,e,f⟩:=wJ (l:=l) λy d=>h y (by simp[d]);exact⟨p::a,by simp[e],λq b=>by
  rcases apl.mp b with rfl|b;·exact c
  ·exact f q b⟩
structure NL(l:List (Str×List Rl)):Prop where
 mem:∀p∈l,p∈CS
 nd:(l.map (·.1)).Nodup
noncomputable def nmW(l:List (Str×List Rl)):List W:=l.map λp=>.str p.1
noncomputable def aoO:W->Bool|.dic _ _=>true|_=>false
def rS(z:Int)(m:Nat)(G:m<=4):∃l,NL l/\l.length=m/\dW [.int z,.int m]=.ok (.lst (nmW l)):=by
 obtain⟨p,h,d,c,f,t,k,u,rfl⟩:=p7 (g:=aA 4) (b:=fL) (xs:=rng 0 m) (λi p=>∃(d c:List Str)(f:Int)(t:Sl),(d++c).Perm sN/\d.length=i/\p=[.va (.int f),.va (.int m),.ow (c.map .str),.ow (d.map .str),t]) (σ:=[.va (.int z),.va (.int m),.ow (sN.map .str),.ow [],.no]) ⟨[],sN,z,.no,.refl _,rfl,rfl⟩ (by
   rintro i w σ hw⟨d,c,f,t,k,u,rfl⟩;obtain⟨H,rfl⟩:=uq _ _ _ _ hw;have A:c.length=15-i:=by have:=k.length_eq;rw[apD,v9]at this;omega
   have o:(0:Int)<c.length:=by omega
   obtain⟨n,C⟩:∃n:Nat,f%(c.length:Int)=n:=⟨(f%(c.length:Int)).toNat,by have:=Int.emod_nonneg f (b:=c.length) (by omega);omega⟩;have q:n<c.length:=by have:=Int.emod_lt_of_pos f o;omega
   refine⟨_,rfl,[.va (.int (f/14)),.va (.int m),.ow ((c.eraseIdx n).map .str),.ow ((d++[c[n]]).map .str),.va (.int (0+i))],?_,d++[c[n]],c.eraseIdx n,f/14,_,?_,by simp[u],rfl⟩;·have e:=yo (i:=3) (j:=2) (e:=afI 2 (eOp oMod (aj 0) (eBi gf (ae (aj 2) av)))) (σ:=[.va (.int f),.va (.int m),.ow (c.map .str),.ow (d.map .str),.va (.int (0+i))]) (xs:=d.map .str) (ys:=c.map .str) (n:=n) (y:=.str c[n]) rfl rfl (by simp[show 0<c.length by omega,C]) (by decide) (by simp[q]) (by simp;omega) (by simp;omega);show ua (jF 3 2 _ [.va (.int f),.va (.int m),.ow (c.map .str),.ow (d.map .str),.va (.int (0+i))]) _=_;rw[e];simp[sv]
   ·refine List.Perm.trans ?_ k;rw[arj];exact List.Perm.append_left d (oH q));have s:(d++c).Nodup:=k.nodup_iff.mpr amf;obtain⟨l,r,v⟩:=wJ (l:=d) λx B=>k.mem_iff.mp (apY.mpr (.inl B));have D:d.map W.str=nmW l:=by rw[<-r,aqo];rfl
 refine⟨l,⟨v,by rw[r];exact(List.nodup_append.mp s).1⟩,by have:=aqc List.length r;rw[apk]at this;rw[this,u,yp],?_⟩;have b:-4611686018427387904<=(m:Int)/\(m:Int)<4611686018427387904:=by omega
 have E:xa (ay bX av) [.va (.int z),.va (.int m),.no,.no,.no]=.ok (sN.map .str):=by
  show((ay bX av [.va (.int z),.va (.int m),.no,.no,.no]).bind λx=>match x with|.dic _ _=>(xN [x]).bind asL|_=>.bad)=_;rw[jb,j5,cn,vP,eP,cn];have e:aoO TXS=true:=by kernel_rfl
  have st:=al9;generalize TXS=T at e st⊢;cases T with|dic a b=>show(xN [.dic a b]).bind asL=_;rw[st,aan];rfl|_=>cases e
 simp[dW,il,List.replicate,E,b,h,D]
structure Row where
 f:List S3
 d:Nat
 p:W
 n:W
def Row.w(r:Row):W:=.tup [flW r.f,.int r.d,r.p,r.n]
structure Row.Ok(r:Row):Prop where
 g:G8 r.f
 p:r.p=.non\/∃i:Int,r.p=.int i
 n:r.n=.non\/∃q∈CS,r.n=.str q.1
def Row.Ok.dp{r:Row}(h:r.Ok):okD 49 r.w=true:=by
 have b:okD 48 r.p=true:=by rcases h.p with e|⟨i,e⟩<;>rw[e]<;>simp[okD]
 have c:okD 48 r.n=true:=by
  rcases h.n with e|⟨q,a,e⟩;·rw[e];simp[okD]
  ·rw[e];exact afK a 48
 simp only[Row.w,okD,dQ,b,c,aa9 46,ag4,Bool.and_self]
def Row.Ok.pl{r:Row}(h:r.Ok):plain r.w=true:=by
 have a:plain r.p=true:=by rcases h.p with e|⟨i,e⟩<;>rw[e]<;>rfl
 have b:plain r.n=true:=by rcases h.n with e|⟨q,d,e⟩<;>rw[e]<;>rfl
 have c:plain (flW r.f)=true:=by simp[flW]
 simp[Row.w,a,b,c]
def agG{rs:List Row}(h:∀r∈rs,r.Ok):okD 50 (.lst (rs.map Row.w))=true:=by rw[aa8];exact gU 49 _ λx b=>by obtain⟨r,a,rfl⟩:=apv.mp b;exact(h r a).dp
def lay(rs:List Row)(o:Option (List S3))(d:Nat)(p n:W):List Row:=match o with|none=>rs|some g=>if fm g∈rs.map (·.f)then rs else rs++[⟨fm g,d,p,n⟩]
noncomputable def ext(pl:Nat)(f:List S3)(d:Nat):List (Str×List Rl)->List Row->List Row|[],rs=>rs|q::l,rs=>ext pl f d l (lay rs (dnc f q.2) (d+1) (.int pl) (.str q.1))
def pT(rs:List Row)(o:Option (List S3))(d:Nat)(p n:W):lay rs o d p n=rs\/∃g,o=some g/\fm g∉rs.map (·.f)/\lay rs o d p n=rs++[⟨fm g,d,p,n⟩]:=by cases o with|none=>exact .inl rfl|some g=>
 by_cases h:fm g∈rs.map (·.f);·exact .inl (ao1 h)
 ·exact .inr ⟨g,rfl,h,ao2 h⟩
theorem ab4(pl:Nat)(f:List S3)(i:G8 f)(d:Nat):∀(l:List (Str×List Rl))(_:∀p∈l,p∈CS)(rs:List Row),∃a,ext pl f d l rs=rs++a/\a.length<=l.length/\∀r∈a,r.d=d+1/\r.Ok
|[],_,rs=>⟨[],by simp[ext],by simp,λ_ h=>nomatch h⟩|q::l,hl,rs=>by
 obtain⟨a,e,m,c⟩:=ab4 pl f i d l (λp j=>hl p (by simp[j])) (lay rs (dnc f q.2) (d+1) (.int pl) (.str q.1));rcases pT rs (dnc f q.2) (d+1) (.int pl) (.str q.1)with z|⟨g,k,_,z⟩;·rw[z]at e;exact⟨a,by rw[ext,z,e],by simp;omega,c⟩
 ·rw[z]at e;refine⟨⟨fm g,d+1,.int pl,.str q.1⟩::a,by rw[ext,z,e];simp,by simp;omega,λr b=>?_⟩;rcases apl.mp b with rfl|b;·exact⟨rfl,(k7 (hl q (by simp)) i k).fm,.inr ⟨_,rfl⟩,.inr ⟨q,hl q (by simp),rfl⟩⟩
  ·exact c r b
noncomputable def go(L:Nat)(l:List (Str×List Rl)):Nat->Nat->List Row->Option (List Row)|0,_,_=>none|n+1,pl,rs=>match rs[pl]? with|none=>some rs|some r=>if r.d<L then go L l n (pl+1) (ext pl r.f r.d l rs)else some rs
noncomputable def gS(b:Nat):Nat->Nat|0=>1|k+1=>1+b*gS b k
def akD(b k:Nat):1<=gS b k:=by cases k<;>simp[gS]
noncomputable def wt(b L:Nat):List Row->Nat|[]=>0|r::rs=>gS b (L-r.d)+wt b L rs
theorem aeX(b L:Nat):∀c a:List Row,wt b L (c++a)=wt b L c+wt b L a|[],a=>by simp[wt]|r::c,a=>by simp only[ap1,wt,aeX b L c a];omega
theorem aeV(b L k:Nat):∀a:List Row,(∀r∈a,r.d=k)->wt b L a=a.length*gS b (L-k)|[],_=>by simp[wt]|r::a,h=>by rw[wt,h r (by simp),aeV b L k a λx c=>h x (by simp[c]),aph,Nat.add_mul];omega
theorem zz(b L:Nat):∀a:List Row,a.length<=wt b L a|[]=>by simp[wt]|r::a=>by have:=zz b L a;have:=akD b (L-r.d);simp only[wt,aph];omega
theorem abT{L:Nat}{l:List (Str×List Rl)}(m:∀p∈l,p∈CS){B:Nat}:∀(n pl:Nat)(rs:List Row),(∀r∈rs,r.Ok)->pl<=rs.length->pl+wt l.length L (rs.drop pl)<=B->B<n+pl->∃R,go L l n pl rs=some R/\R.length<=B/\(∀r∈R,r.Ok)/\rs <+:R
|0,pl,rs,_,hp,hB,hn=>by have:=zz l.length L (rs.drop pl);omega|n+1,pl,rs,hr,hp,hB,hn=>by
  have a:rs.length<=B:=by have:=zz l.length L (rs.drop pl);rw[asp]at this;omega
  cases e:rs[pl]? with|none=>exact⟨rs,by simp[go,e],a,hr,List.prefix_refl _⟩|some r=>
   have g:=(ao3.mp e).1;by_cases j:r.d<L
   ·have f:=apI e;obtain⟨c,q,t,i⟩:=ab4 pl r.f (hr r f).g r.d l m rs;have d:rs.drop pl=r::rs.drop (pl+1):=by rw[apF g];congr 1;exact(ao3.mp e).2
    obtain⟨k,u⟩:∃k,L-r.d=k+1:=⟨L-r.d-1,by omega⟩;have h:L-(r.d+1)=k:=by omega
    rw[d,wt,u,gS]at hB;have hw:=aeV l.length L (r.d+1) c λx b=>(i x b).1;rw[h]at hw;have y:c.length*gS l.length k<=l.length*gS l.length k:=Nat.mul_le_mul_right _ t;obtain⟨R,v,w,s,o⟩:=abT (L:=L) (B:=B) m n (pl+1) (rs++c) (λx b=>by
     rcases apY.mp b with b|b;·exact hr x b
     ·exact(i x b).2) (by simp;omega) (by rw[List.drop_append_of_le_length (by omega),aeX];omega) (by omega);refine⟨R,?_,w,s,(List.prefix_append rs c).trans o⟩;rw[go,e];dsimp only;rw[ao1 j,q];exact v
   ·exact⟨rs,by simp[go,e,j],a,hr,List.prefix_refl _⟩
theorem afO(f:List S3):∀l:List (List S3),cC (flW f) (l.map flW)=decide (f∈l)|[]=>by simp[cC]|p::l=>by simp only[ao9,cC,afH,afO f l];rw[apB];simp only[arG,apz,apl];exact or_congr eq_comm Iff.rfl
def ad7(f:List S3)(rs:List Row):fy (flW f) (.lst (rs.map λr=>flW r.f))=.ok (.bl (!decide (f∈rs.map (·.f)))):=by
 have e:(rs.map λr=>flW r.f)=(rs.map (·.f)).map flW:=by rw[aqo];rfl
 have h:dQ 51 ((rs.map (·.f)).map flW)=true:=gU 50 _ λx a=>by obtain⟨p,_,rfl⟩:=apv.mp a;simp
 rw[e];show(if(okD 50 (flW f)&&dQ 51 ((rs.map (·.f)).map flW))=true then Res.ok (W.bl (!cC (flW f) ((rs.map (·.f)).map flW)))else .bad)=_;rw[ao1 (by rw[h,aa9 48];rfl),afO]
def pS(rs:List Row)(o:Option (List S3))(d:Nat)(p n:W):rs.length<=(lay rs o d p n).length/\(lay rs o d p n).length<=rs.length+1:=by rcases pT rs o d p n with z|⟨g,_,_,z⟩<;>rw[z]<;>simp
theorem jV(pl:Nat)(f:List S3)(d:Nat):∀(l:List (Str×List Rl))(rs:List Row),rs.length<=(ext pl f d l rs).length|[],rs=>ao6 _|q::l,rs=>apc (pS ..).1 (jV pl f d l _)
def ake{rs:List Row}{o:Option (List S3)}{d:Nat}{p n:W}{k:Nat}{r:Row}(h:rs[k]?=some r):(lay rs o d p n)[k]?=some r:=by
 rcases pT rs o d p n with z|⟨g,_,_,z⟩<;>rw[z];·exact h
 ·rw[apq (ao3.mp h).1];exact h
def afv{rs:List Row}{q:Str×List Rl}(b:q∈CS){f:List S3}(c:G8 f){d:Nat}{i:Int}(h:∀r∈rs,r.Ok):∀r∈lay rs (dnc f q.2) d (.int i) (.str q.1),r.Ok:=by
 rcases pT rs (dnc f q.2) d (.int i) (.str q.1)with z|⟨g,e,_,z⟩<;>rw[z];·exact h
 ·intro r a;rcases apY.mp a with a|a;·exact h r a
  ·rw[ap2.mp a];exact⟨(k7 b c e).fm,.inr ⟨_,rfl⟩,.inr ⟨q,b,rfl⟩⟩
theorem ab3{pl:Nat}{f:List S3}(a:G8 f){d:Nat}:∀{l:List (Str×List Rl)}(_:∀p∈l,p∈CS){rs:List Row},(∀r∈rs,r.Ok)->∀r∈ext pl f d l rs,r.Ok|[],_,_,h=>h|q::l,hl,rs,h=>λr b=>ab3 (pl:=pl) (d:=d) a (l:=l) (λp c=>hl p (by simp[c])) (rs:=lay rs (dnc f q.2) (d+1) (.int pl) (.str q.1)) (afv (hl q (by simp)) a h) r b
theorem abU{L:Nat}{l:List (Str×List Rl)}:∀(n pl:Nat)(rs R:List Row),go L l n pl rs=some R->rs.length<=R.length
|0,_,_,_,h=>nomatch h|n+1,pl,rs,R,h=>by
 unfold go at h;split at h;·cases h;exact ao6 _
 ·split at h;·exact apc (jV ..) (abU n _ _ _ h)
  ·cases h;exact ao6 _
def wb{rs:List Row}{pl:Nat}{r:Row}(e:rs[pl]?=some r):atI (rs.map Row.w) (pl:Int)=some r.w:=by rw[gO,apo,e];rfl
def tH(f:List S3):Row:=⟨fm f,0,.non,.non⟩
def uo{f:List S3}(h:G8 f):∀r∈[tH f],r.Ok:=λr a=>by rw[ap2.mp a];exact⟨h.fm,.inl rfl,.inl rfl⟩
def LS(f:W)(l:List (Str×List Rl))(L pl:Nat)(rs:List Row)(o7 o8:Sl):Ws:=[.va BK,.va f,.va (.lst (nmW l)),.va (.int L),.ow (rs.map Row.w),.ow (rs.map λr=>flW r.f),.va (.int pl),o7,o8]
def adP(o:Option (List S3)):plain (opW o)=true:=by cases o<;>simp[opW,flW]
section
variable{F:W}{l:List (Str×List Rl)}{L:Nat}
def akd{q:Str×List Rl}(m:q∈CS){rs:List Row}(p:∀r∈rs,r.Ok){pl:Nat}{r:Row}(e:rs[pl]?=some r)(o:rs.length<900000)(o8:Sl):∃h,bc (LS F l L pl rs (.va (.str q.1)) o8)=.nx (LS F l L pl (lay rs (dnc r.f q.2) (r.d+1) (.int pl) (.str q.1)) (.va (.str q.1)) h):=by
 have k:=(p r (apI e)).g;have a:=tw m k;have j:=wb e;have s:rs.length<1000000:=by omega
 refine⟨.va (opW (dnc r.f q.2)),?_⟩;have b:=adP (dnc r.f q.2);cases i:dnc r.f q.2 with|none=>rw[i]at a b;simp[bc,LS,j,Row.w,a,opW,lay]|some g=>
 rw[i]at a b;have n:=ahx (k7 m k i);have c:=ad7 (fm g) rs;have t:plain (flW (fm g))=true:=by simp[flW]
 by_cases d:fm g∈rs.map (·.f);·rw[apO d]at c;have f:lay rs (some g) (r.d+1) (.int pl) (.str q.1)=rs:=ao1 d;rw[f];simp only[opW]at a b;simp[bc,LS,j,Row.w,a,opW,n,c,pV,b]
 ·rw[api d]at c;have f:lay rs (some g) (r.d+1) (.int pl) (.str q.1)=rs++[⟨fm g,r.d+1,.int pl,.str q.1⟩]:=ao2 d;rw[f];simp only[opW]at a b;simp[bc,LS,j,Row.w,a,opW,n,c,pV,b,s,t]
theorem abX{pl:Nat}{r:Row}:∀(a:List (Str×List Rl))(_:∀p∈a,p∈CS)(rs:List Row)(_:∀r∈rs,r.Ok)(_:rs[pl]?=some r)(_:(ext pl r.f r.d a rs).length<900000)(o7 o8:Sl),∃c b,forL (aA 7) bc (nmW a) (LS F l L pl rs o7 o8)=.nx (LS F l L pl (ext pl r.f r.d a rs) c b)|[],_,rs,_,_,_,o7,o8=>⟨o7,o8,rfl⟩|q::a,hl,rs,hr,e,hlen,o7,o8=>by have d:=hl q (by simp);have f:=(hr r (apI e)).g;have i:rs.length<900000:=aq8 (jV pl r.f r.d (q::a) rs) hlen;obtain⟨b,m⟩:=akd (F:=F) (l:=l) (L:=L) d hr e i o8;obtain⟨h,k,j⟩:=abX a (λp g=>hl p (by simp[g])) _ (afv d f hr) (ake e) hlen (.va (.str q.1)) b;refine⟨h,k,?_⟩;rw[show nmW (q::a)=.str q.1::nmW a from rfl,dj];show yO (bc (LS F l L pl rs (.va (.str q.1)) o8)) (forL (aA 7) bc (nmW a))=_;rw[m];exact j
theorem vH(g:∀p∈l,p∈CS){R:List Row}(t:R.length<900000):∀(n pl:Nat)(rs:List Row)(_:∀r∈rs,r.Ok)(_:pl<=rs.length)(_:go L l n pl rs=some R)(o7 o8:Sl),∃a d f,iG bV dh n (LS F l L pl rs o7 o8)=.nx (LS F l L a R d f)
|0,_,_,_,_,h,_,_=>nomatch h|n+1,pl,rs,hr,hp,h,o7,o8=>by
 rw[tQ];unfold go at h;cases e:rs[pl]? with|none=>
   rw[e]at h;have q:¬pl<rs.length:=by have:=ash.mp e;omega
   cases h;refine⟨pl,o7,o8,?_⟩;simp[bV,LS,q]|some r=>
   rw[e]at h;dsimp only at h;have b:=(ao3.mp e).1;have j:=wb e;by_cases c:r.d<L
   ·rw[ao1 c]at h;have o:=(hr r (apI e)).g;have w:=abU n _ _ _ h;obtain⟨i,k,u⟩:=abX (F:=F) (l:=l) (L:=L) (pl:=pl) (r:=r) l g rs hr e (by omega) o7 o8;obtain⟨a,m,y,x⟩:=vH g t n (pl+1) _ (ab3 o g hr) (by have:=jV pl r.f r.d l rs;omega) h i k;refine⟨a,m,y,?_⟩;rw[<-x];have s:bV (LS F l L pl rs o7 o8)=.ok true:=by simp[bV,LS,j,Row.w,b,c]
    have v:dh (LS F l L pl rs o7 o8)=.nx (LS F l L (pl+1) (ext pl r.f r.d l rs) i k):=by unfold dh;rw[gp,aaC,ahn];show ua (forL (aA 7) bc (nmW l) (LS F l L pl rs o7 o8)) _=_;rw[u];simp[LS]
    rw[s,v];rfl
   ·rw[ao2 c]at h;cases h;refine⟨pl,o7,o8,?_⟩;simp[bV,LS,j,Row.w,b,c]
end
def uS{f:List S3}(a:G8 f){l:List (Str×List Rl)}(c:NL l){L:Nat}{R:List Row}(b:go L l 3000 0 [tH f]=some R)(d:R.length<900000):fD [BK,flW f,.lst (nmW l),.int L]=.ok (.lst (R.map Row.w)):=by have h:=ahx a;obtain⟨g,j,i,e⟩:=vH (F:=flW f) (l:=l) (L:=L) c.mem d 3000 0 [tH f] (uo a) (by simp) b .no .no;simp only[LS,tH,Row.w,ao9,aqB]at e;simp[fD,jt,List.replicate,h,kB]at e⊢;rw[e];simp
noncomputable def xq(o:OX Sr)(b:RF Sr):OX Sr:=match o with|.nx σ s=>b σ s|o=>o
def bS(a b:RF Sr)(σ:Ws)(s:Sr):lz a b σ s=xq (a σ s) b:=by unfold lz xq;cases a σ s<;>rfl
def nz(σ:Ws)(s:Sr)(b:RF Sr):xq (.nx σ s) b=b σ s:=rfl
noncomputable def ams(o:Out)(s:Sr):OX Sr:=match o with|.nx σ'=>.nx σ' s|.bk σ'=>.bk σ' s|.ct σ'=>.ct σ' s|.rt w=>.rt w s|.ex c σ'=>.ex c σ'|.bad=>.bad
def kS(t:SF)(σ:Ws)(s:Sr):jl t σ s=ams (t σ) s:=rfl
def zy(t:Ws->Sr->Res Bool)(a b:RF Sr)(σ:Ws)(s:Sr):xIf t a b σ s=ac8 (t σ s) (a σ s) (b σ s):=rfl
def tM(c:Bool)(a b:OX Sr):ac8 (.ok c) a b=if c=true then a else b:=by cases c<;>rfl
noncomputable def ky(f:List S3):List (List Int):=f.map λp=>[p.1,p.2.1,p.2.2]
def abC(f:List S3):kyW (flW f)=some (ky f):=by show aia (f.map stW)=some (ky f);induction f with|nil=>rfl|cons p f ih=>show((abN [.int p.1,.int p.2.1,.int p.2.2]).bind λx=>(aia (f.map stW)).map (x::·))=_;rw[ih];rfl
theorem afy:∀{f g:List S3},ky f=ky g->f=g|[],[],_=>rfl|[],_::_,h=>nomatch h|_::_,[],h=>nomatch h|(a,b,c)::f,(a',b',c')::g,h=>by simp only[ky,ao9,arE,and_true]at h;obtain⟨⟨rfl,rfl,rfl⟩,h⟩:=h;rw[afy (f:=f) (g:=g) h]
def afx(f:List S3)(rs:List Row):ky f∈rs.map (λr=>ky r.f)↔ f∈rs.map (·.f):=by
 constructor;·intro h;obtain⟨r,a,e⟩:=apv.mp h;exact apv.mpr ⟨r,a,afy e⟩
 ·intro h;obtain⟨r,a,e⟩:=apv.mp h;exact apv.mpr ⟨r,a,by rw[e]⟩
def SR(a d m:Nat)(rs:List Row):Sr:=⟨a,d,.non,.int m,rs.map Row.w,rs.map λr=>ky r.f⟩
def g8(c:String)(n:Nat)(e:EF)(σ:Ws):iA c n e σ=(e σ).bind (akH c n):=rfl
def jT(n:Nat)(ws:List W):akH "Search" n (.ins "Search" ws)=ofO ws[n]?:=by unfold akH;simp only[arq,apU];cases ws[n]?<;>rfl
section
variable{a d m:Nat}{rs:List Row}{g:List S3}{dp:Nat}{p n:W}
def ac7{j:Nat}{t:TF}{σ:Ws}(h:σ[j]?=some (.va (.id a))):xT Sr.a Sr.val j t σ (SR a d m rs)=t (σ.set j (.va (.ins "Search" [.non,.int m,.lst (rs.map Row.w),.id d]))):=by unfold xT seen;rw[h];show(match(if a=a then some (σ.set j (.va (SR a d m rs).val))else none)with|some σ'=>t σ'|none=>.bad)=_;rw[ao1 rfl];rfl
def air{σ:Ws}(b:σ[0]?=some (.va (.id a)))(c:σ[5]?=some (.va (flW g))):xIn 5 σ (SR a d m rs)=.ok (decide (g∈rs.map (·.f))):=by unfold xIn;rw[b];show(if a=a then _ else _)=_;rw[ao1 rfl,c];dsimp only;rw[abC];show Res.ok (decide (ky g∈rs.map λr=>ky r.f))=_;congr 1;rw[decide_eq_decide];exact afx g rs
def ahi(i:G8 g):bL [.id a,flW g,.int dp,p,n] (SR a d m rs)=if fm g∈rs.map (·.f)then .rt .non (SR a d m rs)else if m<=rs.length then .ex (.exc "TooMany" []) [.va (.id a),.va (flW g),.va (.int dp),.va p,.va n,.va (flW (fm g))]else if rs.length<1000000 then .nx [.va (.id a),.va (flW g),.va (.int dp),.va p,.va n,.va (flW (fm g))] (SR a d m (rs++[⟨fm g,dp,p,n⟩]))else .bad:=by
 have q:=ahx i;show eE [.va (.id a),.va (flW g),.va (.int dp),.va p,.va n,.no] (SR a d m rs)=_;unfold eE;have j:bK 5 (ay gI (ae (aj 1) av)) [.va (.id a),.va (flW g),.va (.int dp),.va p,.va n,.no]=.nx [.va (.id a),.va (flW g),.va (.int dp),.va p,.va n,.va (flW (fm g))]:=by simp[q]
 rw[bS,kS,j];show xq (OX.nx _ _) _=_;rw[nz,bS,zy,air (g:=fm g) rfl rfl,tM];by_cases c:fm g∈rs.map (·.f);·rw[ao1 c,apO c,ao1 rfl];rfl
 rw[ao2 c,api c,ao2 ao7];show xq (OX.nx _ _) _=_;rw[nz,bS,zy,ac7 (a:=a) rfl];have l:(tB (eOp oGe (eBi gf (ae (iA "Search" 2 (aj 0)) av)) (iA "Search" 1 (aj 0)))) [.va (.ins "Search" [.non,.int m,.lst (rs.map Row.w),.id d]),.va (flW g),.va (.int dp),.va p,.va n,.va (flW (fm g))]=.ok (decide (m<=rs.length)):=by simp[g8,jT]
 show xq (ac8 ((tB (eOp oGe (eBi gf (ae (iA "Search" 2 (aj 0)) av)) (iA "Search" 1 (aj 0)))) [.va (.ins "Search" [.non,.int m,.lst (rs.map Row.w),.id d]),.va (flW g),.va (.int dp),.va p,.va n,.va (flW (fm g))]) _ _) _=_;rw[l,tM];by_cases f:m<=rs.length;·rw[ao1 f,apO f,ao1 rfl];rfl
 rw[ao2 f,api f,ao2 ao7];show xq (OX.nx _ _) _=_;rw[nz,bS];by_cases e:rs.length<1000000
 ·rw[ao1 e];have b:rs.length<lim:=e;have h:xU 5 [.va (.id a),.va (flW g),.va (.int dp),.va p,.va n,.va (flW (fm g))] (SR a d m rs)=.nx [.va (.id a),.va (flW g),.va (.int dp),.va p,.va n,.va (flW (fm g))] {SR a d m rs with seen:=rs.map (λr=>ky r.f)++[ky (fm g)]}:=by unfold xU at_;show(if a=a then _ else _)=_;rw[ao1 rfl];show(match kyW (flW (fm g))with|some k=>_|none=>_)=_;rw[abC];dsimp only;rw[ao1 ⟨by show ky (fm g)∉rs.map (λr=>ky r.f);rw[afx];exact c,by show(rs.map (λr=>ky r.f)).length<lim;rw[apk];exact b⟩];rfl
  rw[h,nz];unfold af0 at_;show(if a=a then _ else _)=_;rw[ao1 rfl];have o:(kE (ae (aj 5) (ae (aj 2) (ae (aj 3) (ae (aj 4) av))))) [.va (.id a),.va (flW g),.va (.int dp),.va p,.va n,.va (flW (fm g))]=.ok (.tup [flW (fm g),.int dp,p,n]):=by simp
  rw[o];dsimp only;rw[ao1 (by show(rs.map Row.w).length<lim;rw[apk];exact b)];simp[SR,Row.w]
 ·rw[ao2 e];have b:¬rs.length<lim:=e;have h:xU 5 [.va (.id a),.va (flW g),.va (.int dp),.va p,.va n,.va (flW (fm g))] (SR a d m rs)=.bad:=by unfold xU at_;show(if a=a then _ else _)=_;rw[ao1 rfl];show(match kyW (flW (fm g))with|some k=>_|none=>_)=_;rw[abC];dsimp only;rw[ao2 λz=>by have:=z.2;simp only[SR,apk]at this;exact b this]
  rw[h];rfl
def zl(h:rs≠[]):aE [.ins "Search" [.non,.int m,.lst (rs.map Row.w),.id d]]=.ok (.bl false):=by
 obtain⟨r,b⟩:∃r,rs.getLast?=some r:=⟨_,aqN h⟩;have e:atI (rs.map Row.w) (-1)=some r.w:=by rw[k9,List.getLast?_map,b];rfl
 have c:oEq (flW r.f) .non=.ok (.bl false):=by have:aau (flW r.f) .non=false:=rfl;unfold oEq;rw[ao2 (by rw[this];exact ao7),ao1 (by rw[aa9 48];rfl)];rfl
 simp[aE,dn,g8,jT,e,Row.w,c]
end
def VL(l:List (Str×List Rl)):List W:=l.map λp=>clW p.2
def DW(l:List (Str×List Rl)):W:=.dic (nmW l) (VL l)
theorem afE:∀{l:List (Str×List Rl)},(l.map (·.1)).Nodup->∀{q:Str×List Rl},q∈l->k8 q.1 (nmW l) (VL l)=some (clW q.2)
|[],_,_,h=>nomatch h|p::l,hn,q,a=>by
 rw[ao9,aqd]at hn;show(if(p.1==q.1)=true then some (clW p.2)else k8 q.1 (nmW l) (VL l))=_;rcases apl.mp a with rfl|a;·rw[ao1 (by simp)]
 ·rw[ao2 λz=>hn.1 (apv.mpr ⟨q,a,(eq_of_beq z).symm⟩)];exact afE hn.2 a
noncomputable def TS(a pl:Nat)(D rw:W)(c b:Sl):Ws:=[.va (.id a),.va (.int pl),.va D,.va rw,c,b]
noncomputable abbrev TMX:W:=.exc "TooMany" []
noncomputable def xl(o:OX Sr)(k:RF Sr):OX Sr:=match o with|.nx σ2 s2=>k σ2 s2|.ct σ2 s2=>k σ2 s2|.bk σ2 s2=>.nx σ2 s2|o=>o
def xV(k:Nat)(b:RF Sr)(x:W)(xs:List W)(σ:Ws)(s:Sr):hJ k b (x::xs) σ s=xl (b (σ.set k (.va x)) s) (hJ k b xs):=by rw[hJ];unfold xl;cases b (σ.set k (.va x)) s<;>rfl
def ac6(t:Ws->Sr->Res Bool)(b:RF Sr)(n:Nat)(σ:Ws)(s:Sr):zp t b (n+1) σ s=ac8 (t σ s) (xl (b σ s) (zp t b n)) (.nx σ s):=by rw[zp];unfold xl;cases b σ s<;>rfl
section
variable{a d m:Nat}{l:List (Str×List Rl)}{pl:Nat}{r:Row}
def xK{j:Nat}{σ:Ws}{rs:List Row}{g:List S3}{dp:Nat}{p n:W}{as:AF}(h:σ[j]?=some (.va (.id a)))(k:as σ=.ok [flW g,.int dp,p,n])(i:G8 g)(hz:rs.length<900000):gg Sr.a j bL as σ (SR a d m rs)=(let b:=lay rs (some g) dp p n;if b.length<=m\/b.length=rs.length then .nx σ (SR a d m b)else .ex TMX σ):=by
 unfold gg;rw[h];show(if a=a then _ else _)=_;rw[ao1 rfl,k];show ofM σ (bL [.id a,flW g,.int dp,p,n] (SR a d m rs))=_;rw[ahi i];by_cases c:fm g∈rs.map (·.f);·have e:lay rs (some g) dp p n=rs:=ao1 c;rw[ao1 c];dsimp only;rw[e,ao1 (.inr rfl)];rfl
 ·have e:lay rs (some g) dp p n=rs++[⟨fm g,dp,p,n⟩]:=ao2 c;rw[ao2 c];dsimp only;rw[e];by_cases f:m<=rs.length;·rw[ao1 f,ao2 (by simp;omega)];rfl
  ·rw[ao2 f,ao1 (by omega),ao1 (.inl (by simp;omega))];rfl
def abS{rs:List Row}(h:rs≠[]){j:Nat}{σ:Ws}(c:σ[j]?=some (.va (.id a))):xT Sr.a Sr.val j (tB (ia "Search" aE (aj j) av)) σ (SR a d m rs)=.ok false:=by
 rw[ac7 c];have b:=(ao3.mp c).1;have e:ia "Search" aE (aj j) av (σ.set j (.va (.ins "Search" [.non,.int m,.lst (rs.map Row.w),.id d])))=.ok (.bl false):=by unfold ia;rw[ng,ao8 b];show(if isN "Search" (.ins "Search" [.non,.int m,.lst (rs.map Row.w),.id d])=true then aE [.ins "Search" [.non,.int m,.lst (rs.map Row.w),.id d]]else .bad)=_;rw[ao1 (by simp[isN]),zl h]
 rw[adC,e];rfl
def afw{rs:List Row}{o:Option (List S3)}{d:Nat}{p n:W}(h:rs≠[]):lay rs o d p n≠[]:=λe=>by have:=(pS rs o d p n).1;rw[e]at this;exact h (aqi.mp (by simpa using this))
def agg{q:Str×List Rl}(v:q∈l)(w:NL l)(B:r.Ok){rs:List Row}(u:rs≠[])(hz:rs.length<900000)(I:rs.length<=m)(b:Sl):∃f,(let c:=lay rs (dnc r.f q.2) (r.d+1) (.int pl) (.str q.1);(c.length<=m->aw (TS a pl (DW l) r.w (.va (.str q.1)) b) (SR a d m rs)=.nx (TS a pl (DW l) r.w (.va (.str q.1)) f) (SR a d m c)\/aw (TS a pl (DW l) r.w (.va (.str q.1)) b) (SR a d m rs)=.ct (TS a pl (DW l) r.w (.va (.str q.1)) f) (SR a d m c))/\(m<c.length->∃t,aw (TS a pl (DW l) r.w (.va (.str q.1)) b) (SR a d m rs)=.ex TMX t)):=by
 have z:oIx (DW l) (.str q.1)=.ok (clW q.2):=by rw[DW,ag6,afE w.nd v];rfl
 have y:oIx r.w (.int 0)=.ok (flW r.f):=rfl;have H:oIx r.w (.int 1)=.ok (.int r.d):=rfl;rcases ach B.g (ahK (w.mem q v))with⟨g,e,s,A⟩|⟨e,x,C,s⟩
 ·rw[e];refine⟨.va (flW g),?_⟩;have i:yn aJ ["Blind","Out","Meet"] bQ (TS a pl (DW l) r.w (.va (.str q.1)) b)=.nx (TS a pl (DW l) r.w (.va (.str q.1)) (.va (flW g))):=by
   have:aJ (TS a pl (DW l) r.w (.va (.str q.1)) b)=.nx (TS a pl (DW l) r.w (.va (.str q.1)) (.va (flW g))):=by simp[aJ,TS,y,z,s]
   unfold yn;rw[this]
  have k:=xK (a:=a) (d:=d) (m:=m) (j:=0) (σ:=TS a pl (DW l) r.w (.va (.str q.1)) (.va (flW g))) (rs:=rs) (g:=g) (dp:=r.d+1) (p:=.int pl) (n:=.str q.1) (as:=ae (aj 5) (ae (eOp gb (eOp oIx (aj 3) (eC (.int 1))) (eC (.int 1))) (ae (aj 1) (ae (aj 4) av)))) rfl (by simp[TS,H]) A hz;have D:=pS rs (some g) (r.d+1) (.int pl) (.str q.1);dsimp only at k⊢;constructor;·intro o;refine .inl ?_;unfold aw;rw[bS,kS,i];show xq (OX.nx _ _) _=_;rw[nz,bS,k,ao1 (.inl o),nz,zy,abS (afw u) rfl];rfl
  ·intro G;refine⟨TS a pl (DW l) r.w (.va (.str q.1)) (.va (flW g)),?_⟩;unfold aw;rw[bS,kS,i];show xq (OX.nx _ _) _=_;rw[nz,bS,k,ao2 (by omega)];rfl
 ·rw[e];have i:yn aJ ["Blind","Out","Meet"] bQ (TS a pl (DW l) r.w (.va (.str q.1)) b)=.ct (TS a pl (DW l) r.w (.va (.str q.1)) b):=by
   have:aJ (TS a pl (DW l) r.w (.va (.str q.1)) b)=.ex x (TS a pl (DW l) r.w (.va (.str q.1)) b):=by simp[aJ,TS,y,z,s]
   have E:jd ["Blind","Out","Meet"] x=true:=by obtain⟨fs,rfl|rfl|rfl⟩:=C<;>simp[jd,kX]
   unfold yn;rw[this];show nO _ _ _ _=_;unfold nO;rw[ao1 E];rfl
  refine⟨b,λ_=>.inr ?_,λh=>absurd h (by show¬m<rs.length;omega)⟩;unfold aw;rw[bS,kS,i];rfl
theorem zZ(o:NL l)(k:r.Ok):∀(b:List (Str×List Rl))(_:∀q∈b,q∈l)(rs:List Row)(_:rs≠[])(_:(ext pl r.f r.d b rs).length<900000)(_:rs.length<=m)(g e:Sl),((ext pl r.f r.d b rs).length<=m->∃i c,hJ 4 aw (nmW b) (TS a pl (DW l) r.w g e) (SR a d m rs)=.nx (TS a pl (DW l) r.w i c) (SR a d m (ext pl r.f r.d b rs)))/\(m<(ext pl r.f r.d b rs).length->∃f,hJ 4 aw (nmW b) (TS a pl (DW l) r.w g e) (SR a d m rs)=.ex TMX f)
|[],_,rs,_,_,hm,g,e=>⟨λ_=>⟨g,e,rfl⟩,λh=>absurd h (by show¬m<rs.length;omega)⟩|q::b,hs,rs,hne,hz,hm,g,e=>by
 have j:(ext pl r.f r.d b (lay rs (dnc r.f q.2) (r.d+1) (.int pl) (.str q.1))).length<900000:=hz;have z:=jV pl r.f r.d b (lay rs (dnc r.f q.2) (r.d+1) (.int pl) (.str q.1));have y:=(pS rs (dnc r.f q.2) (r.d+1) (.int pl) (.str q.1)).1;obtain⟨c,w,v⟩:=agg (a:=a) (d:=d) (m:=m) (pl:=pl) (hs q (by simp)) o k hne (by omega) hm e;have ex:∀s,hJ 4 aw (nmW (q::b)) (TS a pl (DW l) r.w g e) s=xl (aw (TS a pl (DW l) r.w (.va (.str q.1)) e) s) (hJ 4 aw (nmW b)):=λs=>xV ..;rw[ex];show((ext pl r.f r.d b (lay rs (dnc r.f q.2) (r.d+1) (.int pl) (.str q.1))).length<=m->∃i c,_=OX.nx _ (SR a d m (ext pl r.f r.d b (lay rs (dnc r.f q.2) (r.d+1) (.int pl) (.str q.1)))))/\(m<(ext pl r.f r.d b (lay rs (dnc r.f q.2) (r.d+1) (.int pl) (.str q.1))).length->_);by_cases n:(lay rs (dnc r.f q.2) (r.d+1) (.int pl) (.str q.1)).length<=m;·have x:=zZ o k b (λp u=>hs p (by simp[u])) (lay rs (dnc r.f q.2) (r.d+1) (.int pl) (.str q.1)) (afw hne) j n (.va (.str q.1)) c;rcases w n with t|t<;>rw[t]<;>exact x
 ·obtain⟨f,t⟩:=v (by omega);exact⟨λh=>by omega,λ_=>⟨f,by rw[t];rfl⟩⟩
def agk(k:NL l){rs:List Row}(c:∀r∈rs,r.Ok)(e:rs[pl]?=some r)(hz:(ext pl r.f r.d l rs).length<900000)(p:rs.length<=m):((ext pl r.f r.d l rs).length<=m->∃b,bh [.id a,.int pl,DW l] (SR a d m rs)=.nx b (SR a d m (ext pl r.f r.d l rs)))/\(m<(ext pl r.f r.d l rs).length->∃b,bh [.id a,.int pl,DW l] (SR a d m rs)=.ex TMX b):=by
 have g:=c r (apI e);have f:rs≠[]:=λz=>by rw[z]at e;cases e
 obtain⟨o,i⟩:=zZ (a:=a) (d:=d) (m:=m) (pl:=pl) k g l (λ_ h=>h) rs f hz p .no .no;have q:aiq Sr.a Sr.val 0 3 (eOp oIx (iA "Search" 2 (aj 0)) (aj 1)) [.va (.id a),.va (.int pl),.va (DW l),.no,.no,.no] (SR a d m rs)=.nx (TS a pl (DW l) r.w .no .no) (SR a d m rs):=by
  have n:seen Sr.a Sr.val 0 [.va (.id a),.va (.int pl),.va (DW l),.no,.no,.no] (SR a d m rs)=some [.va (.ins "Search" [.non,.int m,.lst (rs.map Row.w),.id d]),.va (.int pl),.va (DW l),.no,.no,.no]:=ao1 rfl;have t:eOp oIx (iA "Search" 2 (aj 0)) (aj 1) [.va (.ins "Search" [.non,.int m,.lst (rs.map Row.w),.id d]),.va (.int pl),.va (DW l),.no,.no,.no]=.ok r.w:=by have s:=wb e;simp[g8,jT,s]
  unfold aiq;rw[n];dsimp only;rw[t];dsimp only;rw[ao1 g.pl];rfl
 have j:bh [.id a,.int pl,DW l] (SR a d m rs)=hJ 4 aw (nmW l) (TS a pl (DW l) r.w .no .no) (SR a d m rs):=by show lz _ _ [.va (.id a),.va (.int pl),.va (DW l),.no,.no,.no] (SR a d m rs)=_;rw[bS,q];rfl
 rw[j];exact⟨λh=>let⟨_,_,z⟩:=o h;⟨_,z⟩,i⟩
end
def adp{j:Nat}{as:AF}{t:RF Sr}{σ:Ws}{wg wm w:W}(c:as σ=.ok [wg,wm])(h:∀a d,∃s,t (σ.set j (.va (.id a))) ⟨a,d,wg,wm,[],[]⟩=.rt w s):iT j as t σ=.rt w:=by have H:∃o:Res W,Comes t σ j wg wm o:=⟨.ok w,λa d=>by obtain⟨s,e⟩:=h a d;rw[e]⟩;unfold iT;rw[c];dsimp only;rw[dif_pos H];have b:=ary H 0 0;obtain⟨s,e⟩:=h 0 0;rw[e]at b;have b:Classical.choose H=.ok w:=b;rw[b]
def adq{j:Nat}{as:AF}{t:RF Sr}{σ:Ws}{wg wm c:W}(g:as σ=.ok [wg,wm])(h:∀a d,∃b,t (σ.set j (.va (.id a))) ⟨a,d,wg,wm,[],[]⟩=.ex c b/\b.length=σ.length):iT j as t σ=.ex c (List.replicate σ.length .no):=by have H:∃o:Res W,Comes t σ j wg wm o:=⟨.ex c,λa d=>by obtain⟨s,e,i⟩:=h a d;rw[e];exact⟨rfl,i⟩⟩;unfold iT;rw[g];dsimp only;rw[dif_pos H];have f:=ary H 0 0;obtain⟨s,e,_⟩:=h 0 0;rw[e]at f;have f:Classical.choose H=.ex c:=f.1;rw[f]
theorem afD(x:Str):∀l:List (Str×List Rl),acZ (.str x) (nmW l)=l.any λp=>p.1==x|[]=>rfl|p::l=>by show(uT (.str p.1) (.str x)||acZ (.str x) (nmW l))=_;rw[afD x l];rfl
def CS0(F N:W)(L m:Nat)(c o7 o8 o9:Sl):Ws:=[.va .non,.va BK,.va F,.va N,.va (.int L),.va (.int m),c,o7,o8,o9]
theorem oK{F N:W}{L m:Nat}{o8 o9:Sl}:∀(rest a:List (Str×List Rl))(o7:Sl),a.length+rest.length<=900->(∀p∈rest,p∈CS)->((a++rest).map (·.1)).Nodup->∃b,forL (aA 7) bq (nmW rest) (CS0 F N L m (.od (nmW a) (VL a)) o7 o8 o9)=.nx (CS0 F N L m (.od (nmW (a++rest)) (VL (a++rest))) b o8 o9)
|[],a,o7,_,_,_=>⟨o7,by rw[apK];rfl⟩|q::rest,a,o7,hl,hc,hn=>by
 obtain⟨b,d⟩:=oK (F:=F) (N:=N) (L:=L) (m:=m) (o8:=o8) (o9:=o9) rest (a++[q]) (.va (.str q.1)) (by simp at hl⊢;omega) (λp c=>hc p (by simp[c])) (by rw[arj];exact hn);refine⟨b,?_⟩;rw[show nmW (q::rest)=.str q.1::nmW rest from rfl,dj];show yO (bq (CS0 F N L m (.od (nmW a) (VL a)) (.va (.str q.1)) o8 o9)) (forL (aA 7) bq (nmW rest))=_;have em:eM "Book" bt (aj 1) (ae (aj 7) av) (CS0 F N L m (.od (nmW a) (VL a)) (.va (.str q.1)) o8 o9)=.ok (clW q.2):=aj0 (hc q (by simp)) rfl rfl;have f:acZ (.str q.1) (nmW a)=false:=by rw[afD,Bool.eq_false_iff];intro z;obtain⟨p,c,e⟩:=List.any_eq_true.mp z;rw[aqJ,List.nodup_append]at hn;exact hn.2.2 p.1 (apv.mpr ⟨p,c,rfl⟩) q.1 (by simp) (eq_of_beq e)
 have g:bq (CS0 F N L m (.od (nmW a) (VL a)) (.va (.str q.1)) o8 o9)=.nx (CS0 F N L m (.od (nmW (a++[q])) (VL (a++[q]))) (.va (.str q.1)) o8 o9):=by show ofR _ (eM "Book" bt (aj 1) (ae (aj 7) av) (CS0 F N L m (.od (nmW a) (VL a)) (.va (.str q.1)) o8 o9)) (λv=>putD 6 (nmW a) (VL a) (.str q.1) v _)=_;rw[em];show putD 6 (nmW a) (VL a) (.str q.1) (clW q.2) _=_;unfold putD putK afl;rw[ao1 ⟨rfl,by rw[abx];simp[nmW]at hl⊢;omega⟩,f];simp[CS0,nmW,VL]
 rw[g];rw[arj]at d;exact d
section
variable{a d m:Nat}{l:List (Str×List Rl)}{L:Nat}{F N:W}{o7:Sl}
theorem zO(q:NL l){R:List Row}(A:R.length<900000):∀(n pl:Nat)(rs:List Row)(_:∀r∈rs,r.Ok)(_:rs≠[])(_:pl<=rs.length)(_:rs.length<=m)(_:go L l n pl rs=some R),(R.length<=m->∃o:Nat,zp (xT Sr.a Sr.val 8 aF) bp n (CS0 F N L m (.va (DW l)) o7 (.va (.id a)) (.va (.int pl))) (SR a d m rs)=.nx (CS0 F N L m (.va (DW l)) o7 (.va (.id a)) (.va (.int o))) (SR a d m R))/\(m<R.length->∃b,zp (xT Sr.a Sr.val 8 aF) bp n (CS0 F N L m (.va (DW l)) o7 (.va (.id a)) (.va (.int pl))) (SR a d m rs)=.ex TMX b/\b.length=10)
|0,_,_,_,_,_,_,h=>nomatch h|n+1,pl,rs,hr,hne,hp,hm,h=>by
  rw[ac6,ac7 (a:=a) rfl];have i:ia "Search" aE (aj 8) av (CS0 F N L m (.va (DW l)) o7 (.va (.ins "Search" [.non,.int m,.lst (rs.map Row.w),.id d])) (.va (.int pl)))=.ok (.bl false):=by have z:=abS (a:=a) (d:=d) (m:=m) hne (j:=8) (σ:=CS0 F N L m (.va (DW l)) o7 (.va (.id a)) (.va (.int pl))) rfl;rw[ac7 (a:=a) rfl,adC]at z;have z:(ia "Search" aE (aj 8) av (CS0 F N L m (.va (DW l)) o7 (.va (.ins "Search" [.non,.int m,.lst (rs.map Row.w),.id d])) (.va (.int pl)))).bind toB=.ok false:=z;generalize ia "Search" aE (aj 8) av (CS0 F N L m (.va (DW l)) o7 (.va (.ins "Search" [.non,.int m,.lst (rs.map Row.w),.id d])) (.va (.int pl)))=y at z;cases y with
 |ok w=>cases w<;>first|(cases z;rfl)|cases z
 |_=>cases z
  show(R.length<=m->∃o:Nat,ac8 (aF (CS0 F N L m (.va (DW l)) o7 (.va (.ins "Search" [.non,.int m,.lst (rs.map Row.w),.id d])) (.va (.int pl)))) _ _=_)/\(m<R.length->∃b,ac8 (aF (CS0 F N L m (.va (DW l)) o7 (.va (.ins "Search" [.non,.int m,.lst (rs.map Row.w),.id d])) (.va (.int pl)))) _ _=_/\_)
  unfold go at h;cases e:rs[pl]? with|none=>
   rw[e]at h;have x:¬pl<rs.length:=by have:=ash.mp e;omega
   have c:aF (CS0 F N L m (.va (DW l)) o7 (.va (.ins "Search" [.non,.int m,.lst (rs.map Row.w),.id d])) (.va (.int pl)))=.ok false:=by simp[aF,CS0,g8,jT,x]
   rw[c];cases h;exact⟨λ_=>⟨pl,rfl⟩,λz=>by omega⟩|some r=>
   rw[e]at h;dsimp only at h;have k:=(ao3.mp e).1;have u:=wb e;by_cases p:r.d<L
   ·rw[ao1 p]at h;have v:=(hr r (apI e)).g;have B:=abU n _ _ _ h;have f:=jV pl r.f r.d l rs;have c:aF (CS0 F N L m (.va (DW l)) o7 (.va (.ins "Search" [.non,.int m,.lst (rs.map Row.w),.id d])) (.va (.int pl)))=.ok true:=by simp only[CS0]at i;simp[aF,CS0,g8,jT,k,u,Row.w,p,i]
    rw[c,tM,ao1 rfl];obtain⟨D,C⟩:=agk (a:=a) (d:=d) (m:=m) q hr e (by omega) hm;have s:bp (CS0 F N L m (.va (DW l)) o7 (.va (.id a)) (.va (.int pl))) (SR a d m rs)=xq (ofM (CS0 F N L m (.va (DW l)) o7 (.va (.id a)) (.va (.int pl))) (bh [.id a,.int pl,DW l] (SR a d m rs))) (jl (bK 9 (eOp ad6 (aj 9) (eC (.int 1))))):=by unfold bp;rw[bS];congr 1;unfold gg;exact ao1 rfl
    by_cases g:(ext pl r.f r.d l rs).length<=m;·obtain⟨b,t⟩:=D g;have E:=zO q A n (pl+1) _ (ab3 v q.mem hr) (λz=>hne (aqi.mp (by rw[z]at f;simpa using f))) (by omega) g h;rw[s,t];exact E
    ·obtain⟨b,t⟩:=C (by omega);refine⟨λz=>by omega,λ_=>⟨CS0 F N L m (.va (DW l)) o7 (.va (.id a)) (.va (.int pl)),?_,rfl⟩⟩;rw[s,t];rfl
   ·rw[ao2 p]at h;have c:aF (CS0 F N L m (.va (DW l)) o7 (.va (.ins "Search" [.non,.int m,.lst (rs.map Row.w),.id d])) (.va (.int pl)))=.ok false:=by simp[aF,CS0,g8,jT,k,u,Row.w,p]
    rw[c];cases h;exact⟨λ_=>⟨pl,rfl⟩,λz=>by omega⟩
end
def jH{f:List S3}(o:G8 f){l:List (Str×List Rl)}(b:NL l)(x:l.length<=100){L m:Nat}{R:List Row}(u:go L l 3000 0 [tH f]=some R)(v:R.length<900000)(r:1<=m):cv [BK,flW f,.lst (nmW l),.int L,.int m]=if R.length<=m then .ok (.lst (R.map Row.w))else .ex TMX:=by
 obtain⟨o7,k⟩:=oK (F:=flW f) (N:=.lst (nmW l)) (L:=L) (m:=m) (o8:=.no) (o9:=.no) l [] .no (by simp;omega) b.mem b.nd;rw[aqr]at k;have q:∀a d,gg Sr.a 8 bL (ae (aj 2) (ae (eC (.int 0)) (ae (eC .non) (ae (eC .non) av)))) (CS0 (flW f) (.lst (nmW l)) L m (.va (DW l)) o7 (.va (.id a)) .no) (SR a d m [])=.nx (CS0 (flW f) (.lst (nmW l)) L m (.va (DW l)) o7 (.va (.id a)) .no) (SR a d m [tH f]):=λa d=>by
  rw[xK (g:=f) (dp:=0) (p:=.non) (n:=.non) rfl rfl o (by simp)];have s:lay [] (some f) 0 .non .non=[tH f]:=by simp[lay,tH]
  dsimp only;rw[s,ao1 (.inl (by simpa using r))]
 have hw:=λa d=>zO (a:=a) (d:=d) (m:=m) (F:=flW f) (N:=.lst (nmW l)) (o7:=o7) b v 3000 0 [tH f] (uo o) (by simp) (by simp) (by simpa using r) u;have e:dm [.non,BK,flW f,.lst (nmW l),.int L,.int m]=if R.length<=m then .ok (.lst (R.map Row.w))else .ex TMX:=by
  have j:dm [.non,BK,flW f,.lst (nmW l),.int L,.int m]=fin (iT 8 (ae (aj 0) (ae (aj 5) av)) (lz (gg Sr.a 8 bL (ae (aj 2) (ae (eC (.int 0)) (ae (eC .non) (ae (eC .non) av))))) (lz (jl (bK 9 (eC (.int 0)))) (lz (zp (xT Sr.a Sr.val 8 aF) bp 3000) (alR 8)))) (CS0 (flW f) (.lst (nmW l)) L m (.va (DW l)) o7 .no .no)):=by unfold dm;rw[run_eq];show fin (eA [.va .non,.va BK,.va (flW f),.va (.lst (nmW l)),.va (.int L),.va (.int m),.no,.no,.no,.no])=_;unfold eA;rw[gp];show fin (ua (forL (aA 7) bq (nmW l) (CS0 (flW f) (.lst (nmW l)) L m (.od (nmW []) (VL [])) .no .no .no)) _)=_;rw[k];rfl
  rw[j];by_cases h:R.length<=m;·rw[ao1 h,adp (w:=.lst (R.map Row.w)) (wg:=.non) (wm:=.int m) rfl λa d=>by obtain⟨y,t⟩:=(hw a d).1 h;refine⟨SR a d m R,?_⟩;show lz _ _ (CS0 (flW f) (.lst (nmW l)) L m (.va (DW l)) o7 (.va (.id a)) .no) (SR a d m [])=_;rw[bS,q,nz,bS];show lz _ _ (CS0 (flW f) (.lst (nmW l)) L m (.va (DW l)) o7 (.va (.id a)) (.va (.int (0:Nat)))) (SR a d m [tH f])=_;rw[bS,t,nz];exact ao1 rfl];rfl
  ·rw[ao2 h,adq (c:=TMX) (wg:=.non) (wm:=.int m) rfl λa d=>by obtain⟨i,t,b⟩:=(hw a d).2 (by omega);refine⟨i,?_,b⟩;show lz _ _ (CS0 (flW f) (.lst (nmW l)) L m (.va (DW l)) o7 (.va (.id a)) .no) (SR a d m [])=_;rw[bS,q,nz,bS];show lz _ _ (CS0 (flW f) (.lst (nmW l)) L m (.va (DW l)) o7 (.va (.id a)) (.va (.int (0:Nat)))) (SR a d m [tH f])=_;rw[bS,t];rfl];rfl
 simp only[cv,lL,run_eq];simp[e]
def amY{l:List (Str×List Rl)}(h:∀p∈l,p∈CS):okD 50 (.lst (nmW l))=true:=by rw[aa8];exact gU 49 _ λx b=>by obtain⟨p,a,rfl⟩:=apv.mp b;exact afK (h p a) 49
theorem sS{S B N0 N C Le F D H FD:W}{o11:Sl}:∀(rs:List Row)(a:Sl),(∀r∈rs,r.Ok)->∃b,forL (aA 10) pR (rs.map Row.w) [.va S,.va B,.va N0,.va N,.va C,.va Le,.va F,.va D,.va H,.va FD,a,o11]=.nx [.va S,.va B,.va N0,.va N,.va C,.va Le,.va F,.va D,.va H,.va FD,b,o11]
|[],a,_=>⟨a,rfl⟩|r::rs,a,h=>by
 obtain⟨m,l⟩:=sS (S:=S) (B:=B) (N0:=N0) (N:=N) (C:=C) (Le:=Le) (F:=F) (D:=D) (H:=H) (FD:=FD) (o11:=o11) rs (.va r.w) λx c=>h x (by simp[c]);refine⟨m,?_⟩;have g:isK r.w "tuple"=some true:=by simp[Row.w,isK,nM]
 have j:oIx r.w (.int 1)=.ok (.int r.d):=rfl;have k:oIx r.w (.int 2)=.ok r.p:=rfl;have f:isK r.p "bool"=some false:=by rcases(h r (by simp)).p with e|⟨i,e⟩<;>rw[e]<;>simp[isK,nM]
 have d:isK (.int r.d) "bool"=some false:=by simp[isK,nM]
 rw[ao9,dj];rw[<-l];simp[pR,g,j,k,f,d]
def adE(b L:Nat)(h:(b<=4/\L<=3)\/(b<=1/\L<=12)\/(b<=2/\L<=5)):gS b L<=1000:=by
 have d:((List.range 5).all λb=>(List.range 4).all λL=>decide (gS b L<=1000))=true:=by decide+kernel
 have e:((List.range 2).all λb=>(List.range 13).all λL=>decide (gS b L<=1000))=true:=by decide+kernel
 have f:((List.range 3).all λb=>(List.range 6).all λL=>decide (gS b L<=1000))=true:=by decide+kernel
 have go:∀m n,((List.range m).all λb=>(List.range n).all λL=>decide (gS b L<=1000))=true->b<m->L<n->gS b L<=1000:=λm n h a c=>by have:=apC.mp (apC.mp h b (apW.mpr a)) L (apW.mpr c);exact of_decide_eq_true this
 rcases h with h|h|h;·exact go _ _ d (by omega) (by omega)
 ·exact go _ _ e (by omega) (by omega)
 ·exact go _ _ f (by omega) (by omega)
def agl{l:List (Str×List Rl)}(c:NL l){L:Nat}(k:(l.length<=4/\L<=3)\/(l.length<=1/\L<=12)\/(l.length<=2/\L<=5)){f:List S3}(b:G8 f):∃R:List Row,fD [BK,flW f,.lst (nmW l),.int L]=.ok (.lst (R.map Row.w))/\(∀r∈R,r.Ok)/\1<=R.length/\(∀q,q<=3->cv [BK,flW (f.map (FM.tqn q)),.lst (nmW l),.int L,.int 2000]=.ok (.lst (R.map Row.w)))/\cv [BK,flW f,.lst (nmW l),.int L,.int R.length]=.ok (.lst (R.map Row.w))/\(R.length≠1->cv [BK,flW f,.lst (nmW l),.int L,.int ((R.length:Int)-1)]=.ex TMX):=by
 have g:=adE l.length L k;have a:l.length<=100:=by omega
 obtain⟨R,d,p,n,j⟩:=abT (L:=L) (l:=l) c.mem (B:=1000) 3000 0 [tH f] (uo b) (by simp) (by simp[wt,tH];exact g) (by omega);have e:1<=R.length:=by have:=j.length_le;simpa using this
 refine⟨R,uS b c d (by omega),n,e,λq h=>?_,?_,λo=>?_⟩
 ·have i:tH (f.map (FM.tqn q))=tH f:=by unfold tH;rw[ahw b q h]
  have:=jH (b.turn q) c a (m:=2000) (by rw[i];exact d) (by omega) (by omega);rw[ao1 (by omega)]at this;exact this
 ·have:=jH b c a d (by omega) e;rw[ao1 (ao6 _)]at this;exact this
 ·have:=jH b c a (m:=R.length-1) d (by omega) (by omega);rw[ao2 (by omega)]at this;rw[show(R.length:Int)-1=((R.length-1:Nat):Int)by omega];exact this
def md(z m:Int)(h:0<m):∃k:Nat,z%m=k/\k<m.toNat:=by obtain⟨k,e⟩:=Int.eq_ofNat_of_zero_le (Int.emod_nonneg z (Int.ne_of_gt h));have:=Int.emod_lt_of_pos z h;exact⟨k,e,by omega⟩
def mn{j:Nat}(k:Nat)(h:j<2):min (1+j) (1+k)=1\/min (1+j) (1+k)=2:=by omega
def ael(ns:List Int)(hn:ns.length<=63):aeD [.lst (ns.map .int)]=.ok (.bl true):=by
 have Y:=vo ns 0 (by decide);have E:=vo ns 1 (by decide);obtain⟨z,hz⟩:∃z:Int,ns.getD (0:Int).toNat 0*69621%2147483629=z:=⟨_,rfl⟩;obtain⟨c,P⟩:∃c:Int,ns.getD (1:Int).toNat 0=c:=⟨_,rfl⟩;obtain⟨k,U,u⟩:∃k:Nat,z%4=k/\k<4:=md z 4 (by decide);have u:1+k<=4:=Nat.add_comm 1 k▸u;obtain⟨d,i,g,G⟩:=rS (z/4) (1+k) u;rw[show((1+k:Nat):Int)=1+z%4 by rw[U];rfl]at G;obtain⟨f,M,T⟩:=aeC ns;rw[P]at E;have em:sF "Book" sr (ae (ay bX av) av) [.va (.lst (ns.map .int)),.no,.no,.no,.no,.no,.no,.no,.no,.no,.no,.no]=.ok BK:=by unfold sF;rw[hI,jb,j5,cn,vP,eP];show(sr [TXS]).bind (λwd=>Res.ok (W.ins "Book" [wd]))=_;rw[ahS];rfl
 obtain⟨l,L,I,hb,o⟩:∃(l:List (Str×List Rl))(L:Nat),NL l/\((l.length<=4/\L<=3)\/(l.length<=1/\L<=12)\/(l.length<=2/\L<=5))/\ua (bK 5 (eOp oMod (aj 4) (eC (.int 4))) [.va (.lst (ns.map .int)),.va BK,.va (.int z),.va (.lst (nmW d)),.va (.int c),.no,.no,.no,.no,.no,.no,.no]) (sIf (tB (eOp oEq (eOp oMod (eOp oDiv (aj 4) (eC (.int 4))) (eC (.int 4))) (eC (.int 1)))) (aK (bK 3 (eSl (aj 3) pNo (pH (eOp gb (eC (.int 1)) (eOp oMod (eOp oDiv (aj 2) (eC (.int 60))) (eC (.int 2))))))) (bK 5 (eOp gb (eC (.int 4)) (eOp oMod (eOp oDiv (aj 4) (eC (.int 16))) (eOp oIx (sG (ae (eC (.int 9)) (ae (eC (.int 2)) av))) (eOp acY (eBi gf (ae (aj 3) av)) (eC (.int 1)))))))) sNx)=.nx [.va (.lst (ns.map .int)),.va BK,.va (.int z),.va (.lst (nmW l)),.va (.int c),.va (.int L),.no,.no,.no,.no,.no,.no]:=by
  by_cases w:c/4%4=1
  ·obtain⟨j,hj,j2⟩:∃j:Nat,z/60%2=j/\j<2:=md (z/60) 2 (by decide);have h:cut (nmW d) none (some (1+z/60%2))=nmW (d.take (1+j)):=by rw[hj];show cut _ none (some ((1+j:Nat):Int))=_;have:¬((1+j:Nat):Int)<0:=Int.not_lt.mpr (Int.natCast_nonneg _);simp only[cut,sIx,ao2 this,aqw,aqR,Nat.sub_zero,nmW,apk,List.map_take];rw[List.take_eq_take_iff];simp
   have A:(d.take (1+j)).length=1\/(d.take (1+j)).length=2:=by rw[aqA,g];exact mn k j2
   have m:NL (d.take (1+j)):=⟨λp hp=>i.mem p (List.mem_of_mem_take hp),by rw[List.map_take];exact i.nd.sublist (List.take_sublist ..)⟩;have e:(nmW (d.take (1+j))).length=(d.take (1+j)).length:=by simp[nmW]
   rcases A with n|n;·obtain⟨L,s,L9⟩:∃L:Nat,c/16%9=L/\L<9:=md (c/16) 9 (by decide);refine⟨d.take (1+j),4+L,m,.inr (.inl ⟨aq1 n,Nat.add_le_add_left (arl L9) 4⟩),?_⟩;rw[show((4+L:Nat):Int)=4+c/16%9 by rw[s];rfl];rw[n]at e;simp[w,h,e]
   ·obtain⟨L,s,L2⟩:∃L:Nat,c/16%2=L/\L<2:=md (c/16) 2 (by decide);refine⟨d.take (1+j),4+L,m,.inr (.inr ⟨aq1 n,Nat.add_le_add_left (arl L2) 4⟩),?_⟩;rw[show((4+L:Nat):Int)=4+c/16%2 by rw[s];rfl];rw[n]at e;simp[w,h,e]
  ·obtain⟨L,s,L4⟩:∃L:Nat,c%4=L/\L<4:=md c 4 (by decide);refine⟨d,L,i,.inl ⟨g▸u,arl L4⟩,?_⟩;rw[<-s];simp[w]
 obtain⟨R,r1,J,r3,K,r5,X⟩:=agl I hb M;obtain⟨q,Q,et⟩:=vO M (1+z%3);have r:=K 0 (by omega);rw[FM.mJ (f:=FM.tqn 0) f λp _=>rfl]at r;have x:=K q Q;have dR:=wN (agG J);have dN:=wN (amY I.mem);obtain⟨a0,O⟩:=sS (S:=.lst (ns.map .int)) (B:=BK) (N0:=.int z) (N:=.lst (nmW l)) (C:=.int c) (Le:=.int L) (F:=flW f) (D:=.lst (R.map Row.w)) (H:=.lst (nmW l)) (FD:=.lst (R.map Row.w)) (o11:=.no) R .no J;simp only[aeD,agm,run_eq,ao9,aqB,aph,aq0,List.replicate,ap1,aqr];rw[gp,aaB,em];simp only[hY,aqb,apS,lY];have e2:bK 2 (eOp oMod (eOp tI (ay bj (ae (aj 0) (ae (eC (.int 0)) av))) (eC (.int 69621))) (eC (.int 2147483629))) [.va (.lst (ns.map .int)),.va BK,.no,.no,.no,.no,.no,.no,.no,.no,.no,.no]=.nx [.va (.lst (ns.map .int)),.va BK,.va (.int z),.no,.no,.no,.no,.no,.no,.no,.no,.no]:=by rw[<-hz];simp(disch:=omega)[Y,ajT]
 have e3:bK 3 (ay dW (ae (eOp oDiv (aj 2) (eC (.int 4))) (ae (eOp gb (eC (.int 1)) (eOp oMod (aj 2) (eC (.int 4)))) av))) [.va (.lst (ns.map .int)),.va BK,.va (.int z),.no,.no,.no,.no,.no,.no,.no,.no,.no]=.nx [.va (.lst (ns.map .int)),.va BK,.va (.int z),.va (.lst (nmW d)),.no,.no,.no,.no,.no,.no,.no,.no]:=by simp[G]
 have Z:bK 4 (ay bj (ae (aj 0) (ae (eC (.int 1)) av))) [.va (.lst (ns.map .int)),.va BK,.va (.int z),.va (.lst (nmW d)),.no,.no,.no,.no,.no,.no,.no,.no]=.nx [.va (.lst (ns.map .int)),.va BK,.va (.int z),.va (.lst (nmW d)),.va (.int c),.no,.no,.no,.no,.no,.no,.no]:=by simp[E]
 have sq:∀(a b t:SF)(v:Ws),aK a (aK b t) v=ua (ua (a v) b) t:=λa b t v=>by rw[gp];cases a v<;>rfl
 rw[gp,e2,lY,gp,e3,lY,gp,Z,lY,sq,o,lY];have y:isK (.lst (R.map Row.w)) "list"=some true:=by simp[isK,nM]
 simp[T,r1,r,y,dR,dN,O,r5,et,x,t6,tZ];intro w;simp[X (by omega),kX]
end K66
namespace PySem.W.Fast
def tw6147102775076361029:=0
def tw6732188027740897624:=0
def tw5434553546157672255:=0
def tw16114523038656279706:=0
def tw16159706012473238020:=0
def tw17201178301398630397:=0
def tw1747755518060422443:=0
def tw15263613844407786801:=0
def tw4236541677983462674:=0
def tw11163538770267059014:=0
def tw15638540979513436090:=0
def tw6130085414834530347:=0
def tw585844746683689241:=0
def tw581409838115567142:=0
def tw2817665047773249205:=0
def tw12041791963550944622:=0
def tw12718491905598690900:=0
def tw9481311266339379762:=0
def tw14512993111752602234:=0
def tw9825818295723175281:=0
def tw14828797354665821917:=0
def tw9423525765630855017:=0
def tw16342044832718544187:=0
def tw12365814286091728225:=0
def tw5566870808163828381:=0
def tw12306256949624486181:=0
def tw3667870543806170372:=0
def tw15851022977691149826:=0
def tw13260392967249341675:=0
def tw18263408579145647436:=0
def tw5915871691936488114:=0
def tw5127242704122345416:=0
def tw3574699272819240877:=0
def tw14621394291940567170:=0
def tw17260003858195385163:=0
def tw9729644801187850976:=0
def tw2729779302406278885:=0
def tw5318763917931321679:=0
def tw13487883726888665272:=0
def tw2342374510481458294:=0
def tw7891574715775903385:=0
def tw15524498417451553093:=0
def tw14879984296018979562:=0
def tw4606904304511283111:=0
def tw8175006521186440987:=0
def tw15800492371428258964:=0
def tw1072827923349733368:=0
def tw4068757192537860635:=0
def tw14481886592659063291:=0
def tw1757974464285616276:=0
def tw3182357360758483354:=0
def tw18049542491598171969:=0
def tw16374471337740195320:=0
def tw1504353135546775491:=0
def tw7246412564111250345:=0
def tw6886217575305084345:=0
def tw4417529830302115200:=0
def tw5326874194747721605:=0
def tw13524782363164735105:=0
def tw15256143917663743467:=0
def tw2171577624573955013:=0
def tw15632371743508883201:=0
def tw2476636646265585500:=0
def tw1119531069092179809:=0
def tw7744343199039017440:=0
def tw6331488947317158956:=0
def tw7552151270410177545:=0
def tw3915258431473354738:=0
def tw5385754323149582373:=0
def tw4093794612135879416:=0
def tw3984843920390278452:=0
def tw6188201349654510723:=0
def tw12076992916792237005:=0
def tw15040741800274791409:=0
def tw10559865349126964221:=0
def tw14647328315163658645:=0
def tw1661393393493709120:=0
def tw11985862854879828499:=0
def tw14410777771416706566:=0
def tw15348269592176316498:=0
def tw5713990375455475777:=0
def tw8298850396147022015:=0
def tw11233052898234198:=0
def tw12996102584073127231:=0
def tw12895380318514738743:=0
def tw11616917848715536015:=0
def tw5015409583841239356:=0
def tw7262542936866760612:=0
def tw17920384715432580402:=0
def tw17036422234974555592:=0
def tw3898179966886534548:=0
def tw8989026696237168927:=0
def tw11080453718495125724:=0
def tw8236629057514899839:=0
def tw4698054618469499807:=0
def tw11817367444390631937:=0
def tw1621612800926523979:=0
def tw11749712528421942743:=0
def tw1182244942767371564:=0
def tw10682433860510732997:=0
def tw15129486685439453674:=0
def tw7419590844262356169:=0
def tw17468143925320708497:=0
def tw15668031053159674508:=0
def tw5944834801213324861:=0
def tw17270127331035566349:=0
def tw6797951471180240981:=0
def tw38003811106418003:=0
def tw10572038092877456607:=0
def tw17290151032299407818:=0
def tw4127413966017247195:=0
def tw17378420961672742787:=0
def tw17033617714026013416:=0
def tw11222474005157755420:=0
def tw14489277341166879731:=0
def tw15290184101385704064:=0
def tw9173592487404835982:=0
def tw8218527946406792254:=0
def tw10982037337520758363:=0
def tw4180514050858709270:=0
def tw275851194559963842:=0
def tw6671260241751469726:=0
def tw10837475792402769792:=0
def tw9709361261742497052:=0
def tw9117534183243552832:=0
def tw6574272584810253069:=0
def tw2814314226578328284:=0
def tw2306712268272812296:=0
def tw11094544461024649837:=0
def tw14443770047334370422:=0
def tw18086875929521244480:=0
def tw5257900954739236328:=0
def tw13307173064876198036:=0
def tw7704913016466237160:=0
def tw7206219236064853694:=0
def tw10437554459144692806:=0
def tw4577988807175626225:=0
def tw6575721712683485109:=0
def tw13025209342260415204:=0
def tw15479336877702589112:=0
def tw11314332551860538336:=0
def tw6074124326868066862:=0
def tw13428053245352519051:=0
def tw9672810170736082866:=0
def tw9366721965644232013:=0
def tw1004360665444277874:=0
def tw17049005109957959395:=0
def tw2249356112294275439:=0
def tw15736306997922521432:=0
def tw18336500728043782288:=0
def tw1368313330570696732:=0
def tw13630984037065199191:=0
def tw9338023949970286462:=0
def tw17857932016568196572:=0
def tw4256484923639886503:=0
def tw17145613689069016292:=0
def tw3196348322735400382:=0
def tw1097716863057864742:=0
def tw17570199782367435832:=0
def tw3956897829252882495:=0
def tw12032315387438172604:=0
def tw17662893151804894214:=0
def tw2298646656574030974:=0
def tw7582965913749454861:=0
def tw8803706116461270241:=0
def tw11181784111377900813:=0
def tw10086682148280781441:=0
def tw1218915930340544406:=0
def tw15349741303683823493:=0
def tw4948499317907232300:=0
def tw9034781413811815208:=0
def tw10335686730649176069:=0
def tw12599636366820673184:=0
def tw1968472923904892157:=0
def tw1894613743695556075:=0
def tw17849301659394151834:=0
def tw300849840183629470:=0
def tw12030341321868294128:=0
def tw2498753527279545186:=0
def tw6611859102954212520:=0
def tw13545874331331308525:=0
def tw16166068636642174622:=0
def tw12657170289318549524:=0
def tw13382744376559421060:=0
def tw9675310657281661339:=0
def tw11421482465248242907:=0
def tw14633065451027059542:=0
def tw4586835442176898051:=0
def tw10542847999876864109:=0
def tw9429131734138930990:=0
def tw9446988713157517238:=0
def tw1772556348330831385:=0
def tw1502497048033450761:=0
def tw11842672463482983560:=0
def tw8988051291439677853:=0
def tw16897965035604297969:=0
def tw6809340591272607044:=0
def tw3326950092255733498:=0
def tw2744593049923944491:=0
def tw679870478461177134:=0
def tw2958999045321339826:=0
def tw9909186693786679565:=0
def tw3692256308911314848:=0
def tw3534181237541385817:=0
def tw2018448346698728543:=0
def tw15800766120454534233:=0
def tw7823239514769180236:=0
def tw1492082910471281804:=0
def tw13956570239905386561:=0
def tw4072162572537378528:=0
def tw2244585459543553581:=0
def tw1829264591490071789:=0
def tw16485166998807662320:=0
def tw4388217027723798790:=0
def tw14196151472558671487:=0
def tw16287514842205850486:=0
def tw5331339581869710837:=0
def tw6597613905887655568:=0
def tw15157674357170033009:=0
def tw3175932500631270928:=0
def tw2789919468976614554:=0
end PySem.W.Fast
namespace K66
open PySem PySem.Spec PyProof.Rows L2 WS
open WL(Res Sl Ws EF TF AF LF GF GsF SF Out RF OX Sr)
seal L2.PE L2.PS L2.PSs L2.PA L2.PT L2.PW L2.PG L2.PGs L2.PI L2.PO L2.ahX L2.PC
def top(i:Nat):Stmt:=PySem.Challenge.pw_squarecall_k66_floors_come_to.main.body.getD i (.Pass ⟨0,0,0,0⟩)
local macro_rules|`(tactic|trivial)=>`(tactic|exact⟨rfl,rfl,rfl,by decide+kernel,rfl,by decide+kernel,by decide+kernel⟩)
noncomputable def fg:Stmt->List Stmt|.ClassDef _ _ _ b _ _ _ _ _ _ _=>b|_=>[]
abbrev vV:Stmt:=(fg (top 5)).getD 0 (.Pass ⟨0,0,0,0⟩)
def aas:FnScope ["self","who"] ["self","who"] (af vV):=by trivial
abbrev aap:Stmt:=(fg (top 7)).getD 0 (.Pass ⟨0,0,0,0⟩)
def adF:FnScope ["self","one","other"] ["self","one","other"] (af aap):=by trivial
abbrev ae8:Stmt:=(fg (top 6)).getD 0 (.Pass ⟨0,0,0,0⟩)
def agy:FnScope ["self","who"] ["self","who"] (af ae8):=by trivial
abbrev qQ:Stmt:=top 82
def yj:FnScope ["thing"] ["thing"] (af qQ):=by trivial
abbrev mh:Stmt:=top 55
def kj:FnScope ["word","least","most","number"] ["word","least","most"] (af mh):=by trivial
abbrev iR:Stmt:=top 67
def hU:FnScope ["word","least","most","number"] ["word","least","most"] (af iR):=by trivial
abbrev ma:Stmt:=top 73
def qH:FnScope ["word","more"] ["word","more"] (af ma):=by trivial
abbrev ko:Stmt:=top 74
def iO:FnScope ["text","words"] ["text"] (af ko):=by trivial
abbrev qL:Stmt:=top 68
def jB:FnScope ["words","ahead","right"] ["words"] (af qL):=by trivial
abbrev kq:Stmt:=top 69
def pk:FnScope ["words"] ["words"] (af kq):=by trivial
abbrev ft:Stmt:=top 70
def iP:FnScope ["words"] ["words"] (af ft):=by trivial
abbrev l9:Stmt:=top 71
def kg:FnScope ["text","words"] ["text"] (af l9):=by trivial
abbrev kn:Stmt:=top 72
def iN:FnScope ["text","texts"] ["text"] (af kn):=by trivial
abbrev me:Stmt:=top 75
def kh:FnScope ["text","parts"] ["text"] (af me):=by trivial
abbrev mf:Stmt:=top 76
def ki:FnScope ["text","texts"] ["text"] (af mf):=by trivial
abbrev aaq:Stmt:=(fg (top 83)).getD 0 (.Pass ⟨0,0,0,0⟩)
def ug:FnScope ["self","texts","name"] ["self","texts"] (af aaq):=by trivial
abbrev mi:Stmt:=top 86
def aB:FnScope ["_law_some","_law_texts_here","_law_one","_law_name","_law_mark","_law_text"] [] (af mi):=by trivial
abbrev iS:Stmt:=top 85
def nD:FnScope ["_law_script","_law_k"] ["_law_script","_law_k"] (af iS):=by trivial
abbrev mj:Stmt:=top 87
def de:FnScope ["_law_number","_law_many","_law_names_here","_law_found","_law_k"] ["_law_number","_law_many"] (af mj):=by trivial
abbrev qK:Stmt:=top 17
def yf:FnScope ["stand"] ["stand"] (af qK):=by trivial
abbrev gm:Stmt:=top 18
def dq:FnScope ["stands","one","other"] ["stands"] (af gm):=by trivial
abbrev om:Stmt:=top 19
def l7:FnScope ["stands","meeting"] ["stands"] (af om):=by trivial
abbrev vY:Stmt:=top 21
def lZ:FnScope ["floor","spot","dancer","stand"] ["floor","spot"] (af vY):=by trivial
abbrev l8:Stmt:=top 20
def eF:FnScope ["stand","ahead","right","step","east","north"] ["stand","ahead","right"] (af l8):=by trivial
abbrev qN:Stmt:=top 22
def yh:FnScope ["dancer"] ["dancer"] (af qN):=by trivial
abbrev n9:Stmt:=top 23
def ub:FnScope ["dancer"] ["dancer"] (af n9):=by trivial
abbrev gk:Stmt:=top 27
def kN:FnScope ["facing","way"] ["facing","way"] (af gk):=by trivial
abbrev aay:Stmt:=top 37
def adG:FnScope ["own","stands","who","what"] ["own","stands","who","what"] (af aay):=by trivial
abbrev afa:Stmt:=top 38
def ph:FnScope ["floor","dancer","test","own","what","who"] ["floor","dancer","test"] (af afa):=by trivial
abbrev oo:Stmt:=top 35
def uf:FnScope ["spot"] ["spot"] (af oo):=by trivial
abbrev aaz:Stmt:=top 36
def pw:FnScope ["stand","before","behind"] ["stand"] (af aaz):=by trivial
abbrev qS:Stmt:=top 33
def ym:FnScope ["dancer"] ["dancer"] (af qS):=by trivial
abbrev qR:Stmt:=top 34
def yk:FnScope ["dancer"] ["dancer"] (af qR):=by trivial
abbrev qP:Stmt:=top 39
def yi:FnScope ["dancer","word"] ["dancer","word"] (af qP):=by trivial
abbrev ui:Stmt:=top 40
def pq:FnScope ["floor","dancer","test","word"] ["floor","dancer","test"] (af ui):=by trivial
abbrev n8:Stmt:=top 41
def ir:FnScope ["floor","dancer","call","place","rule"] ["floor","dancer","call"] (af n8):=by trivial
abbrev n7:Stmt:=top 44
def l6:FnScope ["floor","dancer","call","some","place"] ["floor","dancer","call","some"] (af n7):=by trivial
abbrev oh:Stmt:=top 13
def uc:FnScope ["thing"] ["thing"] (af oh):=by trivial
abbrev oj:Stmt:=top 14
def ue:FnScope ["thing"] ["thing"] (af oj):=by trivial
abbrev mm:Stmt:=top 15
def qI:FnScope ["thing"] ["thing"] (af mm):=by trivial
abbrev oi:Stmt:=top 16
def ud:FnScope ["thing"] ["thing"] (af oi):=by trivial
abbrev qO:Stmt:=top 47
def jC:FnScope ["told","dancer","way"] ["told"] (af qO):=by trivial
abbrev hX:Stmt:=top 45
def dI:FnScope ["stand","step","going","spot"] ["stand","step"] (af hX):=by trivial
abbrev vZ:Stmt:=top 46
def l3:FnScope ["stand","steps","way","step"] ["stand","steps"] (af vZ):=by trivial
abbrev ae9:Stmt:=top 48
def aav:FnScope ["floor","call","some","steps"] ["floor","call","some"] (af ae9):=by trivial
abbrev v7:Stmt:=top 49
def aaw:FnScope ["floor","call","some"] ["floor","call","some"] (af v7):=by trivial
abbrev mq:Stmt:=(fg (top 83)).getD 2 (.Pass ⟨0,0,0,0⟩)
def qJ:FnScope ["self","name"] ["self","name"] (af mq):=by trivial
abbrev kr:Stmt:=top 88
def dA:FnScope ["_law_book","_law_floor","_law_name","_law_found"] ["_law_book","_law_floor","_law_name"] (af kr):=by trivial
abbrev kv:Stmt:=(fg (top 83)).getD 1 (.Pass ⟨0,0,0,0⟩)
def px:FnScope ["self"] ["self"] (af kv):=by trivial
abbrev hV:Stmt:=top 28
def l5:FnScope ["stand"] ["stand"] (af hV):=by trivial
abbrev v5:Stmt:=top 29
def iM:FnScope ["floor","quarters","result","quarter"] ["floor","quarters"] (af v5):=by trivial
abbrev ml:Stmt:=top 90
def df:FnScope ["_law_book","_law_script","_law_floor","_law_cell","_law_behind_here"] ["_law_book","_law_script"] (af ml):=by trivial
abbrev afb:Stmt:=top 30
def agz:FnScope ["floor"] ["floor"] (af afb):=by trivial
abbrev og:Stmt:=top 89
def cx:FnScope ["_law_book","_law_floor","_law_names_here","_law_length","_law_rows_here","_law_forms","_law_place","_law_name","_law_behind_here"] ["_law_book","_law_floor","_law_names_here","_law_length"] (af og):=by trivial
abbrev qG:Stmt:=(fg (top 51)).getD 0 (.Pass ⟨0,0,0,0⟩)
def aax:FnScope ["self","goal","most"] ["self","goal","most"] (af qG):=by trivial
abbrev ku:Stmt:=(fg (top 51)).getD 2 (.Pass ⟨0,0,0,0⟩)
def iQ:FnScope ["self","floor","depth","parent","name","own"] ["self","floor","depth","parent","name"] (af ku):=by trivial
abbrev fY:Stmt:=(fg (top 51)).getD 1 (.Pass ⟨0,0,0,0⟩)
def jD:FnScope ["self"] ["self"] (af fY):=by trivial
abbrev fX:Stmt:=(fg (top 51)).getD 3 (.Pass ⟨0,0,0,0⟩)
def cf:FnScope ["self","place","calls","row","name","floor"] ["self","place","calls"] (af fX):=by trivial
abbrev km:Stmt:=top 52
def cb:FnScope ["goal","book","floor","names","length","most","calls","name","search","place"] ["goal","book","floor","names","length","most"] (af km):=by trivial
abbrev qM:Stmt:=top 53
def yg:FnScope ["book","floor","names","length","most"] ["book","floor","names","length","most"] (af qM):=by trivial
abbrev agA:Stmt:=top 91
def dJ:FnScope ["_law_script","_law_book","_law_number","_law_names_here","_law_cell","_law_length","_law_floor","_law_due","_law_handed","_law_found","_law_row","_law_refused"] ["_law_script"] (af agA):=by trivial
structure Txt(w:World)(K:W.Frag)(mg:Str->Option Value)(nt lu lr lq lp lj lh lg lb:Addr)(mu jJ:Tok)(iF jk jj ji jh:Addr)(jI:Tok)(dD fU cO bI bH bG bF:Addr)(gv gq gu dO eU eV:Tok)(iE bZ bx cW:Addr)(gw eW iV:Tok)(nr aQ eg bE cV bR aW fN iy mZ iz fm_Book_call fm_Book_names fm_Search_lay fm_Search_at_goal fm_Search_take_up:Addr)(dM:Tok)(aC dU:Addr):Prop where
 mgA:∀nm v,W.nsIn K mainGlobals nm=some (some v)->mg nm=some v
 aj3:mg "HOME"=some (.ref nt)aiS:∀H:Hp,SqT K H nt [.ref lu,.ref lr,.ref lq,.ref lp,.ref lj,.ref lh,.ref lg,.ref lb]adz:∀H:Hp,SqT K H lu [.int (-1),.int (-3),.int 0]ady:∀H:Hp,SqT K H lr [.int 1,.int (-3),.int 0]adx:∀H:Hp,SqT K H lq [.int 3,.int (-1),.int 1]adw:∀H:Hp,SqT K H lp [.int 3,.int 1,.int 1]adv:∀H:Hp,SqT K H lj [.int 1,.int 3,.int 2]adu:∀H:Hp,SqT K H lh [.int (-1),.int 3,.int 2]adt:∀H:Hp,SqT K H lg [.int (-3),.int 1,.int 3]ads:∀H:Hp,SqT K H lb [.int (-3),.int (-1),.int 3]i2:mg "DANCERS"=some (.int 8 mu)oy:mg "FARTHEST"=some (.int 200 jJ)abl:mg "STEPS"=some (.ref iF)ago:∀H:Hp,SqT K H iF [.ref jk,.ref jj,.ref ji,.ref jh]aad:∀H:Hp,SqT K H jk [.int 0,.int 1]aac:∀H:Hp,SqT K H jj [.int (-1),.int 0]aab:∀H:Hp,SqT K H ji [.int 0,.int (-1)]aaa:∀H:Hp,SqT K H jh [.int 1,.int 0]gX:mg "QUARTERS"=some (.int 4 jI)pP:mg "QUARTERS_OF"=some (.ref dD)o6:acW w K dD [("same",.int 0),("left",.int 1),("about",.int 2),("right",.int 3)]aee:mg "DRIFTS"=some (.ref fU)adA:∀H:Hp,SqT K H fU [.str "inward",.str "outward",.str "sideways"]mK:mg "GOINGS_dances"=some (.ref cO)lS:acW w K cO [("ahead",.ref bI),("back",.ref bH),("left",.ref bG),("right",.ref bF)]jA:∀H:Hp,SqT K H bI [.int 1,.int 0]jz:∀H:Hp,SqT K H bH [.int (-1),.int 0]jy:∀H:Hp,SqT K H bG [.int 0,.int (-1)]jx:∀H:Hp,SqT K H bF [.int 0,.int 1]rL:mg "MOST_RULES"=some (.int 12 gv)rJ:mg "MOST_TESTS"=some (.int 6 gq)rK:mg "MOST_STEPS"=some (.int 8 gu)cF:mg "FARTHEST_SEEN"=some (.int 9 dO)nI:mg "WIDEST_INNER"=some (.int 200 eU)nJ:mg "LONGEST_STEP"=some (.int 9 eV)ahc:mg "WHATS"=some (.ref iE)agn:∀H:Hp,SqT K H iE [.str "none",.str "any",.str "same",.str "left",.str "about",.str "right",.str "partner",.str "opposite"]rN:mg "LONE_WORDS"=some (.ref bZ)qy:∀H:Hp,SqT K H bZ [.str "head",.str "side",.str "lefts",.str "rights",.str "inward",.str "outward",.str "sideways"]nL:mg "GOINGS_rules"=some (.ref bx)nC:∀H:Hp,SqT K H bx [.str "ahead",.str "back",.str "left",.str "right"]yM:mg "TURNINGS"=some (.ref cW)x5:∀H:Hp,SqT K H cW [.str "left",.str "right",.str "about"]rM:mg "MOST_CALLS"=some (.int 60 gw)nK:mg "LONGEST_NAME"=some (.int 8 eW)abm:mg "LETTERS"=some (.str "abcdefghijklmnopqrstuvwxyz" iV)aj2:mg "KEPT"=some (.ref nr)aiR:∀H:Hp,SqT K H nr [.str "times",.str "heads",.str "sides",.str "lefts",.str "rights",.str "inner",.str "couples"]ajX:mg "abs"=none
 ag9:mg "all"=none
 abg:mg "bool"=none
 iw:mg "enumerate"=none
 am2:mg "int"=none
 ba:mg "isinstance"=none
 dr:mg "len"=none
 abf:mg "list"=none
 am1:mg "max"=none
 am0:mg "min"=none
 fK:mg "range"=none
 wW:mg "sorted"=none
 ad9:mg "str"=none
 jM:mg "tuple"=none
 eI:mg "FloorError"=some (.ref aQ)sC:ExcAt K "FloorError" aQ
 rH:mg "TooMany"=some (.ref eg)sA:ExcAt K "TooMany" eg
 zx:W.excIn K eg cP "ValueError.__new__"=true
 abn:mg "Blind"=some (.ref bE)u4:ExcAt K "Blind" bE
 aj1:mg "Out"=some (.ref cV)ahC:ExcAt K "Out" cV
 aft:mg "Meet"=some (.ref bR)ab9:ExcAt K "Meet" bR
 xs:ExcAll K
 ak7:W.findIn K (.ref bE) "__init__"=some (some (.ref fN))aeB:∃fd,Fun K "__init__" "Blind.__init__" vV fN fd
 aaL:gJ K bE cP "ValueError.__new__" fN=true
 adM:W.typeIn K (.ref fN)=some (.type "function")ac4:(W.clsIn K bE).map (·.mro)=some (.ref bE::.ref aQ::cP)ac3:W.hasDictIn K bE=true
 ac2:W.findIn K (.ref bE) "__setattr__"=some (some (.builtin "object.__setattr__"))rG:W.findIn K (.ref bE) "who"=some none
 alQ:W.findIn K (.ref bR) "__init__"=some (some (.ref iy))ahu:∃fd,Fun K "__init__" "Meet.__init__" aap iy fd
 afk:gJ K bR cP "ValueError.__new__" iy=true
 agK:W.typeIn K (.ref iy)=some (.type "function")afS:(W.clsIn K bR).map (·.mro)=some (.ref bR::.ref aQ::cP)afR:W.hasDictIn K bR=true
 afQ:W.findIn K (.ref bR) "__setattr__"=some (some (.builtin "object.__setattr__"))uM:W.findIn K (.ref bR) "one"=some none
 pN:W.findIn K (.ref bR) "other"=some none
 anJ:W.findIn K (.ref cV) "__init__"=some (some (.ref mZ))akG:∃fd,Fun K "__init__" "Out.__init__" ae8 mZ fd
 aji:gJ K cV cP "ValueError.__new__" mZ=true
 ajh:W.typeIn K (.ref mZ)=some (.type "function")ain:(W.clsIn K cV).map (·.mro)=some (.ref cV::.ref aQ::cP)aim:W.hasDictIn K cV=true
 ail:W.findIn K (.ref cV) "__setattr__"=some (some (.builtin "object.__setattr__"))yH:W.findIn K (.ref cV) "who"=some none
 rd:W.readsIn K aQ (.type "type")=true
 rf:W.findCls K (.ref aQ) (.type "type") "__init__"=some (.val (.builtin "ValueError.__init__"))rs:W.specialIn K (.ref aQ) "__getattribute__"=some (some (.builtin "type.__getattribute__"))aj4:mg "Book"=some (.ref aW)z1_Book:W.makesIn K aW=true
 z2_Book:W.findIn K (.ref aW) "__init__"=some (some (.ref iz))ahv:∃fd,Fun K "__init__" "Book.__init__" aaq iz fd
 z3_Book:W.isFn K (.ref iz)=true
 z4_Book:W.keepIn K (.ref aW)=true
 z5_Book:W.plainGet K aW Str.empty=true
 z6_Book:W.hasDictIn K aW=true
 z7_Book:W.plainOver K aW=true
 z8_Book:W.findIn K (.ref aW) "__setattr__"=some (some (.builtin "object.__setattr__"))pO:aS K aW "calls"kH:W.nsIn K mainGlobals (Str.ofString "Book")=some (some (.ref aW))aed:mg "Search"=some (.ref aC)z1_Search:W.makesIn K aC=true
 z2_Search:W.findIn K (.ref aC) "__init__"=some (some (.ref dU))abY:∃fd,Fun K "__init__" "Search.__init__" qG dU fd
 z3_Search:W.isFn K (.ref dU)=true
 z4_Search:W.keepIn K (.ref aC)=true
 z5_Search:W.plainGet K aC Str.empty=true
 z6_Search:W.hasDictIn K aC=true
 z7_Search:W.plainOver K aC=true
 z8_Search:W.findIn K (.ref aC) "__setattr__"=some (some (.builtin "object.__setattr__"))h6:aS K aC "goal"hZ:aS K aC "most"aZ:aS K aC "rows"fb:aS K aC "seen"bo:W.nsIn K mainGlobals (Str.ofString "Search")=some (some (.ref aC))y1_Book_call:W.findIn K (.ref aW) "call"=some (some (.ref fm_Book_call))y2_Book_call:W.isFn K (.ref fm_Book_call)=true
 y3_Book_call:W.keepIn K (.ref fm_Book_call)=true
 r9:∃fd,Fun K "call" "Book.call" mq fm_Book_call fd
 y1_Book_names:W.findIn K (.ref aW) "names"=some (some (.ref fm_Book_names))y2_Book_names:W.isFn K (.ref fm_Book_names)=true
 y3_Book_names:W.keepIn K (.ref fm_Book_names)=true
 p9:∃fd,Fun K "names" "Book.names" kv fm_Book_names fd
 y1_Search_lay:W.findIn K (.ref aC) "lay"=some (some (.ref fm_Search_lay))y2_Search_lay:W.isFn K (.ref fm_Search_lay)=true
 y3_Search_lay:W.keepIn K (.ref fm_Search_lay)=true
 p8:∃fd,Fun K "lay" "Search.lay" ku fm_Search_lay fd
 y1_Search_at_goal:W.findIn K (.ref aC) "at_goal"=some (some (.ref fm_Search_at_goal))y2_Search_at_goal:W.isFn K (.ref fm_Search_at_goal)=true
 y3_Search_at_goal:W.keepIn K (.ref fm_Search_at_goal)=true
 jR:∃fd,Fun K "at_goal" "Search.at_goal" fY fm_Search_at_goal fd
 y1_Search_take_up:W.findIn K (.ref aC) "take_up"=some (some (.ref fm_Search_take_up))y2_Search_take_up:W.isFn K (.ref fm_Search_take_up)=true
 y3_Search_take_up:W.keepIn K (.ref fm_Search_take_up)=true
 jQ:∃fd,Fun K "take_up" "Search.take_up" fX fm_Search_take_up fd
 acy:AtD K "is_name" qQ
 vg:AtD K "number_of" mh
 qh:AtD K "read_number" iR
 vc:AtD K "read_step" ma
 sM:AtD K "read_steps" ko
 acs:AtD K "read_at" qL
 sO:AtD K "read_inner" kq
 jY:AtD K "read_plain_test" ft
 vb:AtD K "read_test" l9
 sL:AtD K "read_tests" kn
 vd:AtD K "read_rule" me
 vf:AtD K "read_call" mf
 vh:AtD K "_law_texts" mi
 qi:AtD K "_law_cell_at" iS
 vj:AtD K "_law_names" mj
 acq:AtD K "spot_of" qK
 ni:AtD K "first_meeting" gm
 y8:AtD K "floor_of" om
 aeK:AtD K "who_at" vY
 u9:AtD K "spot_from" l8
 acv:AtD K "partner" qN
 yZ:AtD K "opposite" n9
 nh:AtD K "turned_facing" gk
 ahG:AtD K "looks" aay
 akT:AtD K "sees" afa
 y9:AtD K "distance" oo
 ahI:AtD K "drift" aaz
 acA:AtD K "is_head" qS
 acz:AtD K "is_left" qR
 acx:AtD K "is_such" qP
 ahH:AtD K "holds" ui
 yY:AtD K "rule_for" n8
 yX:AtD K "steps_of" n7
 y4:AtD K "is_whole" oh
 y7:AtD K "is_place" oj
 vl:AtD K "is_facing" mm
 y6:AtD K "is_stand" oi
 acw:AtD K "kept_in" qO
 nR:AtD K "stand_behind" hX
 aeL:AtD K "way_of" vZ
 akS:AtE K "ways" ae9 #[.none]aeN:AtE K "danced" v7 #[.none]sP:AtD K "_law_behind" kr
 nQ:AtD K "turned_stand" hV
 aeM:AtD K "turned" v5
 vk:AtD K "_law_first" ml
 akU:AtD K "form" afb
 y0:AtD K "_law_rows" og
 sJ:AtD K "rows_up_to" km
 acu:AtE K "reached" qM #[.int 2000 dM]anv:AtD K "law" agA
variable{P:Program}{w:World}{K:W.Frag}{mg:Str->Option Value}{base:Heap}{nt lu lr lq lp lj lh lg lb:Addr}{mu jJ:Tok}{iF jk jj ji jh:Addr}{jI:Tok}{dD fU cO bI bH bG bF:Addr}{gv gq gu dO eU eV:Tok}{iE bZ bx cW:Addr}{gw eW iV:Tok}{nr aQ eg bE cV bR aW fN iy mZ iz fm_Book_call fm_Book_names fm_Search_lay fm_Search_at_goal fm_Search_take_up:Addr}{dM:Tok}{aC dU:Addr}
def aje:RelV (.ref nt) (.ref nt):=rfl
def aaI:RelV (.ref iF) (.ref iF):=rfl
def adK:RelV (.ref fU) (.ref fU):=rfl
def agI:RelV (.ref iE) (.ref iE):=rfl
def qX:RelV (.ref bZ) (.ref bZ):=rfl
def nG:RelV (.ref bx) (.ref bx):=rfl
def yq:RelV (.ref cW) (.ref cW):=rfl
def aaJ:RelV (.str "abcdefghijklmnopqrstuvwxyz") (.str "abcdefghijklmnopqrstuvwxyz" iV):=⟨_,rfl⟩
def ajd:RelV (.ref nr) (.ref nr):=rfl
variable(T:Txt w K mg nt lu lr lq lp lj lh lg lb mu jJ iF jk jj ji jh jI dD fU cO bI bH bG bF gv gq gu dO eU eV iE bZ bx cW gw eW iV nr aQ eg bE cV bR aW fN iy mZ iz fm_Book_call fm_Book_names fm_Search_lay fm_Search_at_goal fm_Search_take_up dM aC dU)
include T
theorem aiL:∀F,RW K F xM (.ref nt):=λF=>by simp only[RW,RWs,xM];exact⟨_,_,rfl,T.aiS F,⟨_,_,rfl,⟨_,_,rfl,T.adz F,⟨_,_,rfl,rfl,⟨_,_,rfl,rfl,⟨_,_,rfl,rfl,rfl⟩⟩⟩⟩,⟨_,_,rfl,⟨_,_,rfl,T.ady F,⟨_,_,rfl,rfl,⟨_,_,rfl,rfl,⟨_,_,rfl,rfl,rfl⟩⟩⟩⟩,⟨_,_,rfl,⟨_,_,rfl,T.adx F,⟨_,_,rfl,rfl,⟨_,_,rfl,rfl,⟨_,_,rfl,rfl,rfl⟩⟩⟩⟩,⟨_,_,rfl,⟨_,_,rfl,T.adw F,⟨_,_,rfl,rfl,⟨_,_,rfl,rfl,⟨_,_,rfl,rfl,rfl⟩⟩⟩⟩,⟨_,_,rfl,⟨_,_,rfl,T.adv F,⟨_,_,rfl,rfl,⟨_,_,rfl,rfl,⟨_,_,rfl,rfl,rfl⟩⟩⟩⟩,⟨_,_,rfl,⟨_,_,rfl,T.adu F,⟨_,_,rfl,rfl,⟨_,_,rfl,rfl,⟨_,_,rfl,rfl,rfl⟩⟩⟩⟩,⟨_,_,rfl,⟨_,_,rfl,T.adt F,⟨_,_,rfl,rfl,⟨_,_,rfl,rfl,⟨_,_,rfl,rfl,rfl⟩⟩⟩⟩,⟨_,_,rfl,⟨_,_,rfl,T.ads F,⟨_,_,rfl,rfl,⟨_,_,rfl,rfl,⟨_,_,rfl,rfl,rfl⟩⟩⟩⟩,rfl⟩⟩⟩⟩⟩⟩⟩⟩⟩
theorem zV:∀F,RW K F j3 (.ref iF):=λF=>by simp only[RW,RWs,j3];exact⟨_,_,rfl,T.ago F,⟨_,_,rfl,⟨_,_,rfl,T.aad F,⟨_,_,rfl,rfl,⟨_,_,rfl,rfl,rfl⟩⟩⟩,⟨_,_,rfl,⟨_,_,rfl,T.aac F,⟨_,_,rfl,rfl,⟨_,_,rfl,rfl,rfl⟩⟩⟩,⟨_,_,rfl,⟨_,_,rfl,T.aab F,⟨_,_,rfl,rfl,⟨_,_,rfl,rfl,rfl⟩⟩⟩,⟨_,_,rfl,⟨_,_,rfl,T.aaa F,⟨_,_,rfl,rfl,⟨_,_,rfl,rfl,rfl⟩⟩⟩,rfl⟩⟩⟩⟩⟩
theorem oW:∀F k u,WL.k8 k [(.str "same"),(.str "left"),(.str "about"),(.str "right")] [(.int 0),(.int 1),(.int 2),(.int 3)]=some u->∃v,List.lookup k [(("same":Str),(.int 0:V)),(("left":Str),(.int 1:V)),(("about":Str),(.int 2:V)),(("right":Str),(.int 3:V))]=some v/\RW K F u v:=λF=>(gD (by simp[RW]) (gD (by simp[RW]) (gD (by simp[RW]) (gD (by simp[RW]) afF))))
theorem adn:∀F,RW K F jg (.ref fU):=λF=>by simp only[RW,RWs,jg];exact⟨_,_,rfl,T.adA F,⟨_,_,rfl,rfl,⟨_,_,rfl,rfl,⟨_,_,rfl,rfl,rfl⟩⟩⟩⟩
theorem lD:∀F k u,WL.k8 k [(.str "ahead"),(.str "back"),(.str "left"),(.str "right")] [(.tup [(.int 1),(.int 0)]),(.tup [(.int (-1)),(.int 0)]),(.tup [(.int 0),(.int (-1))]),(.tup [(.int 0),(.int 1)])]=some u->∃v,List.lookup k [(("ahead":Str),(.ref bI:V)),(("back":Str),(.ref bH:V)),(("left":Str),(.ref bG:V)),(("right":Str),(.ref bF:V))]=some v/\RW K F u v:=λF=>(gD (by simp only[RW,RWs];exact⟨_,_,rfl,T.jA F,⟨_,_,rfl,rfl,⟨_,_,rfl,rfl,rfl⟩⟩⟩) (gD (by simp only[RW,RWs];exact⟨_,_,rfl,T.jz F,⟨_,_,rfl,rfl,⟨_,_,rfl,rfl,rfl⟩⟩⟩) (gD (by simp only[RW,RWs];exact⟨_,_,rfl,T.jy F,⟨_,_,rfl,rfl,⟨_,_,rfl,rfl,rfl⟩⟩⟩) (gD (by simp only[RW,RWs];exact⟨_,_,rfl,T.jx F,⟨_,_,rfl,rfl,⟨_,_,rfl,rfl,rfl⟩⟩⟩) afF))))
theorem agf:∀F,RW K F vv (.ref iE):=λF=>by simp only[RW,RWs,vv];exact⟨_,_,rfl,T.agn F,⟨_,_,rfl,rfl,⟨_,_,rfl,rfl,⟨_,_,rfl,rfl,⟨_,_,rfl,rfl,⟨_,_,rfl,rfl,⟨_,_,rfl,rfl,⟨_,_,rfl,rfl,⟨_,_,rfl,rfl,rfl⟩⟩⟩⟩⟩⟩⟩⟩⟩
theorem qp:∀F,RW K F gL (.ref bZ):=λF=>by simp only[RW,RWs,gL];exact⟨_,_,rfl,T.qy F,⟨_,_,rfl,rfl,⟨_,_,rfl,rfl,⟨_,_,rfl,rfl,⟨_,_,rfl,rfl,⟨_,_,rfl,rfl,⟨_,_,rfl,rfl,⟨_,_,rfl,rfl,rfl⟩⟩⟩⟩⟩⟩⟩⟩
theorem nB:∀F,RW K F fh (.ref bx):=λF=>by simp only[RW,RWs,fh];exact⟨_,_,rfl,T.nC F,⟨_,_,rfl,rfl,⟨_,_,rfl,rfl,⟨_,_,rfl,rfl,⟨_,_,rfl,rfl,rfl⟩⟩⟩⟩⟩
theorem xX:∀F,RW K F j1 (.ref cW):=λF=>by simp only[RW,RWs,j1];exact⟨_,_,rfl,T.x5 F,⟨_,_,rfl,rfl,⟨_,_,rfl,rfl,⟨_,_,rfl,rfl,rfl⟩⟩⟩⟩
theorem zW:∀F,RW K F nq (.str "abcdefghijklmnopqrstuvwxyz"):=λF=>by simp[RW,nq]
theorem aiK:∀F,RW K F acS (.ref nr):=λF=>by simp only[RW,RWs,acS];exact⟨_,_,rfl,T.aiR F,⟨_,_,rfl,rfl,⟨_,_,rfl,rfl,⟨_,_,rfl,rfl,⟨_,_,rfl,rfl,⟨_,_,rfl,rfl,⟨_,_,rfl,rfl,⟨_,_,rfl,rfl,rfl⟩⟩⟩⟩⟩⟩⟩⟩
theorem adL:ExcS K bE:=u3 T.xs T.u4 T.ac4 T.ac3 T.ac2
theorem pL:ak5 P w K mg base fN ["self","who"] (spI bE ["who"]):=uV T.aeB (λ_ _ _ _ _ _ f c=>zh (λ_ _=>rfl) f c) λi g=>xf g aas (by decide) (λ_ _ _ b d=>(all_cons (ot (by decide)) (all_cons (wI b d) all_nil))) λe A a s H E h=>(bN (eY (pG (by rfl) T.eI T.rd T.rf T.rs T.aaL (bU (pv 0) (bU (ux (.cons mv (.cons (wC (pv 1)) .nil))) fu)))) (dP (agM (adL T) T.rG (pv 0) (pv 1) rfl)))
theorem aaK:ExcS K bR:=u3 T.xs T.ab9 T.afS T.afR T.afQ
theorem rD:ak5 P w K mg base iy ["self","one","other"] (spI bR ["one","other"]):=uV T.ahu (λ_ _ _ _ _ _ c d=>zg (λ_ _ _=>rfl) c d) λk i=>aes i adF (by decide) (by decide) (λ_ _ _ _ e b f h=>(all_cons (ot (by decide)) (all_cons (wI e f) (all_cons (ot (by decide)) (all_cons (wI b h) (all_cons (ot (by decide)) all_nil)))))) λg A a s H E j=>(bN (eY (pG (by rfl) T.eI T.rd T.rf T.rs T.afk (bU (pv 0) (bU (ux (.cons mv (.cons (wC (pv 1)) (.cons mv (.cons (wC (pv 2)) (.cons mv .nil)))))) fu)))) (bN (agM (aaK T) T.uM (pv 0) (pv 1) rfl) (dP (amt (aaK T) T.pN (pv 0) (pv 2) rfl))))
theorem ajg:ExcS K cV:=u3 T.xs T.ahC T.ain T.aim T.ail
theorem uG:ak5 P w K mg base mZ ["self","who"] (spI cV ["who"]):=uV T.akG (λ_ _ _ _ _ _ f c=>zh (λ_ _=>rfl) f c) λi g=>xf g agy (by decide) (λ_ _ _ b d=>(all_cons (ot (by decide)) (all_cons (wI b d) (all_cons (ot (by decide)) all_nil)))) λe A a s H E h=>(bN (eY (pG (by rfl) T.eI T.rd T.rf T.rs T.aji (bU (pv 0) (bU (ux (.cons mv (.cons (wC (pv 1)) (.cons mv .nil)))) fu)))) (dP (agM (ajg T) T.yH (pv 0) (pv 1) rfl)))
theorem ahb:Mk K aW iz:=⟨T.z1_Book,T.z2_Book,T.z3_Book,T.z4_Book⟩
theorem eN:Cls K aW:=⟨T.z5_Book,T.z6_Book,T.z7_Book,T.z8_Book⟩
theorem abi:Mk K aC dU:=⟨T.z1_Search,T.z2_Search,T.z3_Search,T.z4_Search⟩
theorem aO:Cls K aC:=⟨T.z5_Search,T.z6_Search,T.z7_Search,T.z8_Search⟩
theorem yB:Cal P w K mg base CX0 41 "is_name" ["thing"] [] (spW K 1 sk):=T.acy.dN T.mgA qw yj λa b d c=>(ah (aX (PW.pt (nA (hT (er (wB bw (cX a.symm) T.ba apZ (aa (va 0) (aa (wty T.ad9 boot_str) ai))))) (j8 (hT (ac9 iC iC ah0 ah0 aq (wB sT (ae3 a.symm) T.dr apr (aa (va 0) ai)) (wki a T.nK)))))) (ak (au oQ)) ax) (ak (au (nZ (dv cU (ij a.symm b.units) (va 0) (wk a T.aj2 ajd (aiK T)) (by rfl)) (qm (wB qj (w_all (cm b) a.symm) T.ag9 boot_all (aa (eR (ts:=["sign"]) ⟨rfl,rfl,rfl,rfl,rfl⟩ (cm b) rfl (bB (by decide)) (aiu (va 0)) (λ_ _ _ _=>(gN 0)) (λ_ _ _ _=>gh) (λ_ _ _ _=>(dv aeS (alT a.symm b.units) (va 0) (wk a T.abm aaJ (zW T)) (by rfl)))) ai)))))))
theorem rz:Cal P w K mg base CX0 41 "number_of" ["word","least","most"] [] (spW K 3 m8):=T.vg.dN T.mgA lN kj λb a d c=>(ah (eu c (cm a) (zL (by rfl) T.fK (va 1) (aI aG (w_add b.symm) (va 2) aq)) (gN 3 kj.nd) (show PSs _ _ (loS _ (K66.i4))from(ak (aX (we2 b a.units (wT acH aiB T.ad9 boot_str (aa (va 3) ai)) (va 0)) (ak (au (va 3))) ax)))) (ak (au cQ)))
theorem dc:Cal P w K mg base CX0 42 "read_number" ["word","least","most"] [] (spW K 3 cJ):=T.qh.dN T.mgA iJ hU λb a c d=>(ah (wS 3 hU.nd (cl b a (rz T) (aa (va 0) (aa (va 1) (aa (va 2) ai))))) (ah (aX (bf vr w_is (va 3) cQ (aU _)) (ak ez) ax) (ak (au (va 3)))))
theorem rl:Cal P w K mg base CX0 43 "read_step" ["word","more"] [] (spW K 2 m5):=T.vc.dN T.mgA lI qH λa b c d=>(ah (aX (PW.pt (j9 (we2 a b.units (va 0) aD) (ie (bf nk (aiG a.symm b.units) (va 1) (wk a T.yM yq (xX T)) (by rfl))))) (ak (au (bT (aa (va 0) (aa (va 1) ai))))) ax) (ah (aX (bf cU (ij a.symm b.units) (va 0) (wk a T.nL nG (nB T)) (by rfl)) (ak ez) ax) (ak (au (bT (aa (va 0) (aa (cl a b (dc T) (aa (va 1) (aa aq (aa (wki a T.nJ) ai)))) ai)))))))
theorem iW:Cal P w K mg base CX0 44 "read_steps" ["text"] [] (spW K 1 gE):=T.sM.dN T.mgA kc iO λa b d c=>(ah (aX (we2 a b.units (va 0) aD) (ak (au (bT (aa (bT (aa aD ai)) ai)))) ax) (ah (wS 1 iO.nd (kT a.symm (va 0) (aa aD ai))) (ah (aX (PW.pt (nA (wn2 a b.units (aI aY w_mod (wB aP (dz a.symm) T.dr apr (aa (va 1) ai)) aq) aq) (j8 (bf j0 aiH (wB aP (dz a.symm) T.dr apr (aa (va 1) ai)) (aI dC w_mul aq (wki a T.rK)) (aU _))))) (ak ez) ax) (ak (au (wT hE (oU a.symm) T.jM arL (aa (eR (ts:=["place"]) ⟨rfl,rfl,rfl,rfl,rfl⟩ (cm b) rfl (bB (by decide)) (af8 (by rfl) T.fK aq (wB aP (dz a.symm) T.dr apr (aa (va 1) ai))) (λ_ _ _ _=>(gN 0)) (λ_ _ _ _=>gh) (λ_ _ _ _=>(cl a b (rl T) (aa (wx a (va 2) (va 0)) (aa (wx a (va 2) (aI aG (w_add a.symm) (va 0) aq)) ai))))) ai)))))))
theorem yx:Cal P w K mg base CX0 43 "read_at" ["words"] [] (spW K 1 si):=T.acs.dN T.mgA qv jB λa b c d=>(ah (aX (PW.pt (nA (wn2 a b.units (wB aP (dz a.symm) T.dr apr (aa (va 0) ai)) aq) (j8 (bf cU (ij a.symm b.units) (wx a (va 0) aq) (wk a T.ahc agI (agf T)) (by rfl))))) (ak ez) ax) (ah (wS 1 jB.nd (cl a b (dc T) (aa (wx a (va 0) aq) (aa (tR fS tU (wki a T.cF)) (aa (wki a T.cF) ai))))) (ah (wS 2 jB.nd (cl a b (dc T) (aa (wx a (va 0) aq) (aa (tR fS tU (wki a T.cF)) (aa (wki a T.cF) ai))))) (ah (aX (PW.pt (j9 (we2 a b.units (va 1) aq) (ie (we2 a b.units (va 2) aq)))) (ak ez) ax) (ak (au (bT (aa aD (aa (va 1) (aa (va 2) (aa (wx a (va 0) aq) ai)))))))))))
theorem pK:Cal P w K mg base CX0 43 "read_inner" ["words"] [] (spW K 1 kD):=T.sO.dN T.mgA kd pk λa b c d=>(ah (aX (wn2 a b.units (wB aP (dz a.symm) T.dr apr (aa (va 0) ai)) aq) (ak ez) ax) (ak (au (bT (aa aD (aa (cl a b (dc T) (aa (wx a (va 0) aq) (aa aq (aa (wki a T.nI) ai)))) ai))))))
theorem eG:Cal P w K mg base CX0 44 "read_plain_test" ["words"] [] (spW K 1 cT):=T.jY.dN T.mgA fq iP λa b c d=>(ah (aX (we2 a b.units (wx a (va 0) aq) aD) (ak (au (cl a b (yx T) (aa (va 0) ai)))) ax) (ah (aX (we2 a b.units (wx a (va 0) aq) aD) (ak (au (cl a b (pK T) (aa (va 0) ai)))) ax) (ah (aX (PW.pt (nA (wn2 a b.units (wB aP (dz a.symm) T.dr apr (aa (va 0) ai)) aq) (j8 (bf cU (ij a.symm b.units) (wx a (va 0) aq) (wk a T.rN qX (qp T)) (by rfl))))) (ak ez) ax) (ak (au (bT (aa (wx a (va 0) aq) ai)))))))
theorem rj:Cal P w K mg base CX0 45 "read_test" ["text"] [] (spW K 1 m3):=T.vb.dN T.mgA lH kg λa b c d=>(ah (wS 1 kg.nd (kT a.symm (va 0) (aa aD ai))) (ah (aX (PW.pt (j9 (bf j0 aiH (wB aP (dz a.symm) T.dr apr (aa (va 1) ai)) aq (aU _)) (ie (we2 a b.units (wx a (va 1) aq) aD)))) (ak (au (bT (aa aD (aa (cl a b (eG T) (aa (adg (ak8 a.symm) (va 1) (lB aq) tO) ai)) ai))))) ax) (ak (au (cl a b (eG T) (aa (va 1) ai))))))
theorem pJ:Cal P w K mg base CX0 46 "read_tests" ["text"] [] (spW K 1 kC):=T.sL.dN T.mgA kb iN λa b d c=>(ah (wS 1 iN.nd (kT a.symm (va 0) (aa aD ai))) (ah (aX (bf j0 aiH (wB aP (dz a.symm) T.dr apr (aa (va 1) ai)) (wki a T.rJ) (aU _)) (ak ez) ax) (ak (au (wT hE (oU a.symm) T.jM arL (aa (eR (ts:=["test"]) ⟨rfl,rfl,rfl,rfl,rfl⟩ (cm b) rfl (bB (by decide)) (fV a.symm (va 1)) (λ_ _ _ _=>(gN 0)) (λ_ _ _ _=>gh) (λ_ _ _ _=>(cl a b (rj T) (aa (va 0) ai)))) ai))))))
theorem rn:Cal P w K mg base CX0 47 "read_rule" ["text"] [] (spW K 1 m6):=T.vd.dN T.mgA lJ kh λa b c d=>(ah (aX (er (zJ a.symm (va 0) (aa aD ai))) (ak (au (bT (aa (bT ai) (aa (cl a b (iW T) (aa (aga (va 0) aq) ai)) ai))))) ax) (ah (wS 1 kh.nd (zK a.symm (va 0) (aa aD ai))) (ah (aX (we2 a b.units (wx a (va 1) aq) aD) (ak ez) ax) (ak (au (bT (aa (cl a b (pJ T) (aa (wx a (va 1) aq) ai)) (aa (cl a b (iW T) (aa (wx a (va 1) aq) ai)) ai))))))))
theorem rp:Cal P w K mg base CX0 48 "read_call" ["text"] [] (spW K 1 m7):=T.vf.dN T.mgA lK ki λa b d c=>(ah (aX (hT (er (wB bw (cX a.symm) T.ba apZ (aa (va 0) (aa (wty T.ad9 boot_str) ai))))) (ak ez) ax) (ah (wS 1 ki.nd (kT a.symm (va 0) (aa aD ai))) (ah (aX (bf j0 aiH (wB aP (dz a.symm) T.dr apr (aa (va 1) ai)) (wki a T.rL) (aU _)) (ak ez) ax) (ak (au (eR (ts:=["rule"]) ⟨rfl,rfl,rfl,rfl,rfl⟩ (cm b) rfl (bB (by decide)) (fV a.symm (va 1)) (λ_ _ _ _=>(gN 0)) (λ_ _ _ _=>gh) (λ_ _ _ _=>(cl a b (rn T) (aa (va 0) ai)))))))))
theorem ag2:ak6 P w K mg base 49 iz ["self","texts"] (spB K "calls" sr):=xg T.ahv (λ_ _ _ _ _ _ f g=>zh (λ_ _=>rfl) f g) λk j=>by refine aer aaj aai z0 j ug rfl rfl ?_;intro i A c s H E X h b e;subst h;exact⟨λB a d=>⟨(aX (bf j0 aiH (wB sT (ae3 a.symm) T.dr apr (aa (va 1) ai)) (wki a T.rM) (aU _)) (ak ez) ax),(af3 a.symm e (cm b) d (pv 1) (λ_=>gN 2 ug.nd) (λB a d=>(show PSs _ _ (loS _ K66.w9)from(ak (aX (hT (er (cl a b (yB T) (aa (va 2) ai)))) (ak ez) ax))))),(cl a b (rp T) (aa (wx a (va 1) (va 2)) ai))⟩,pv 0,pv 0,pv 1,pv 2,uw ug.nd rfl (Or.inl rfl),cm b,rfl,rfl,rfl,λ_=>rfl⟩
theorem kz:Cal P w K mg base CX0 41 "_law_texts" [] [] (spW K 0 bX):=T.vh.dN T.mgA lO aB λa b d c=>(ah (wS 0 aB.nd (fk (aa aD (aa aD (aa aD ai))))) (ah (wS 0 aB.nd (aI aG (w_add a.symm) (va 0) (fk (aa aD ai)))) (ah (wS 0 aB.nd (aI aG (w_add a.symm) (va 0) (fk (aa aD ai)))) (ah (wS 0 aB.nd (aI aG (w_add a.symm) (va 0) (fk (aa aD (aa aD ai))))) (ah (wS 0 aB.nd (aI aG (w_add a.symm) (va 0) (fk (aa aD ai)))) (ah (wS 0 aB.nd (aI aG (w_add a.symm) (va 0) (fk (aa aD ai)))) (ah (wS 0 aB.nd (aI aG (w_add a.symm) (va 0) (fk (aa aD ai)))) (ah (wS 0 aB.nd (aI aG (w_add a.symm) (va 0) (fk (aa aD ai)))) (ah (wS 0 aB.nd (aI aG (w_add a.symm) (va 0) (fk (aa aD ai)))) (ah (wS 0 aB.nd (aI aG (w_add a.symm) (va 0) (fk (aa aD ai)))) (ah (wS 0 aB.nd (aI aG (w_add a.symm) (va 0) (fk (aa aD ai)))) (ah (wS 0 aB.nd (aI aG (w_add a.symm) (va 0) (fk (aa (aI xI aiI (aI xI aiI aD (aI acI aiC aD aq)) aD) ai)))) (ah (zG (i:=1) aB.nd rfl (Or.inl rfl)) (ah (eu c (cm b) (fV a.symm (va 0)) (gN 2 aB.nd) (show PSs _ _ (loS _ (K66.i5))from(ah (ait (zK a.symm (va 2) (aa aD ai)) (vI a.symm (cm b) (dy (gN 3 aB.nd) (dy (gN 4 aB.nd) (dy (gN 5 aB.nd) oP))) rfl (fM (fM (fM xi))) mY) (akC mY)) (ak (zF (i:=1) (un1 b.units) (pv 1) (va 3) (va 5)))))) (ak (vD (i:=1) (au (va 1))))))))))))))))))
theorem eZ:Cal P w K mg base CX0 1 "_law_cell_at" ["_law_script","_law_k"] [] (spW K 2 bj):=T.qi.dN T.mgA fH nD λa b c d=>(ah (aX (bf gK w_lt (va 1) (wB aP (dz a.symm) T.dr apr (aa (va 0) ai)) (aU _)) (ak (au (wx a (va 0) (va 1)))) ax) (ak (au aq)))
theorem rA:Cal P w K mg base CX0 42 "_law_names" ["_law_number","_law_many"] [] (spW K 2 dW):=T.vj.dN T.mgA il de λb a d c=>(ah (lA (i:=2) de.nd rfl (Or.inl rfl) (vE (cm a) T.wW boot_sorted (cl0 b a (kz T)))) (ah (lA (i:=3) de.nd rfl (Or.inl rfl) (vF ai)) (ah (eu c (cm a) (jm (by rfl) T.fK (va 1)) (gN 4 de.nd) (show PSs _ _ (loS _ (K66.fL))from(ah (zH (i:=3) (j:=2) (eY (pF ap4 aqe aqf gA (pv 3) (bU (pF ap4 PySem.F.slot_list_pop PySem.F.type_list_pop aeb (pv 2) (bU (vK (i:=2) (aI aY w_mod (va 0) (wB aP (dz b.symm) T.dr apr (aa (va 2) ai)))) fu)) fu)))) (ak (wS 0 de.nd (aI eO w_div (va 0) aq)))))) (ak (vD (i:=3) (au (va 3)))))))
theorem fv:Cal P w K mg base CX0 1 "spot_of" ["stand"] [] (spW K 1 dk):=T.acq.dN T.mgA lG yf λa b c d=>(ak (au (bT (aa (wx a (va 0) aq) (aa (wx a (va 0) aq) ai)))))
theorem kQ:Cal P w K mg base CX0 41 "first_meeting" ["stands"] [] (spW K 1 bD):=T.ni.dN T.mgA cD dq λa b d c=>(ah (eu c (cm b) (jm (by rfl) T.fK (wB aP (dz a.symm) T.dr apr (aa (va 0) ai))) (gN 1 dq.nd) (show PSs _ _ (loS _ (K66.cg))from(ak (eu c (cm b) (zL (by rfl) T.fK (aI aG (w_add a.symm) (va 1) aq) (wB aP (dz a.symm) T.dr apr (aa (va 0) ai))) (gN 2 dq.nd) (show PSs _ _ (loS _ (K66.aN))from(ak (aX (we2 a b.units (cl a b (fv T) (aa (wx a (va 0) (va 1)) ai)) (cl a b (fv T) (aa (wx a (va 0) (va 2)) ai))) (ak (au (bT (aa (va 1) (aa (va 2) ai))))) ax))))))) (ak (au cQ)))
theorem uH:Cal P w K mg base (CXX P w) 42 "floor_of" ["stands"] [] (spX K 1 dF):=T.y8.dX T.mgA gQ l7 λa b c d=>(ah (wS 1 l7.nd (cl a b (kQ T) (aa (va 0) ai))) (ah (aX (bf hG oV (va 1) cQ (aU _)) (ak (rI a b c (cm b) T.aft T.afk T.agK (rD T) T.ab9 (aa (wx a (va 1) aq) (aa (wx a (va 1) aq) ai)))) ax) (ak (au (wT hE (oU a.symm) T.jM arL (aa (va 0) ai))))))
theorem aa5:Cal P w K mg base CX0 41 "who_at" ["floor","spot"] [] (spW K 2 i7):=T.aeK.dN T.mgA o3 lZ λb a d c=>(ah (eu c (cm a) (tP b.symm (by rfl) T.iw (va 0)) (vI b.symm (cm a) (dy (gN 2 lZ.nd) (dy (gN 3 lZ.nd) oP)) rfl (fM (fM xi)) mY) (show PSs _ _ (loS _ (K66.fA))from(ak (aX (we2 b a.units (cl b a (fv T) (aa (va 3) ai)) (va 1)) (ak (au (va 2))) ax)))) (ak (au cQ)))
theorem gz:Cal P w K mg base CX0 1 "spot_from" ["stand","ahead","right"] [] (spW K 3 cy):=T.u9.dN T.mgA ik eF λa b c d=>(ah (wS 3 eF.nd (wx a (wk a T.abl aaI (zV T)) (wx a (va 0) aq))) (ah (wS 4 eF.nd (aI aG (w_add a.symm) (aI dC w_mul (wx a (va 3) aq) (va 1)) (aI dC w_mul (wx a (va 3) aq) (va 2)))) (ah (wS 5 eF.nd (aI je w_sub (aI dC w_mul (wx a (va 3) aq) (va 1)) (aI dC w_mul (wx a (va 3) aq) (va 2)))) (ak (au (bT (aa (aI aG (w_add a.symm) (wx a (va 0) aq) (va 4)) (aa (aI aG (w_add a.symm) (wx a (va 0) aq) (va 5)) ai))))))))
theorem yy:Cal P w K mg base CX0 1 "partner" ["dancer"] [] (spW K 1 i8):=T.acv.dN T.mgA lM yh λa b c d=>(ak (au (aiy (we2 a b.units (aI aY w_mod (va 0) aq) aq) (aI aG (w_add a.symm) (va 0) aq) (aI je w_sub (va 0) aq))))
theorem uD:Cal P w K mg base CX0 1 "opposite" ["dancer"] [] (spW K 1 g7):=T.yZ.dN T.mgA jq ub λa b c d=>(ak (au (aI aY w_mod (aI aG (w_add a.symm) (va 0) (aI eO w_div (wki a T.i2) aq)) (wki a T.i2))))
theorem f9:Cal P w K mg base CX0 1 "turned_facing" ["facing","way"] [] (spW K 2 bC):=T.nh.dN T.mgA dH kN λa b c d=>(ak (au (aI aY w_mod (aI aG (w_add a.symm) (va 0) (gx a T.pP T.o6 (oW T) (va 1))) (wki a T.gX))))
theorem ad1:Cal P w K mg base CX0 2 "looks" ["own","stands","who","what"] [] (spW K 4 gF):=T.ahG.dN T.mgA js adG λa b c d=>(ah (aX (bf vr w_is (va 2) cQ (aU _)) (ak (au (dv calm_eq (w_eq a.symm b.units) (va 3) aD (aU _)))) ax) (ah (aX (bf nk (aiG a.symm b.units) (va 3) (bT (aa aD (aa aD ai))) (by rfl)) (ak (au (dv calm_eq (w_eq a.symm b.units) (va 3) aD (aU _)))) ax) (ak (au (dv calm_eq (w_eq a.symm b.units) (wx a (wx a (va 1) (va 2)) aq) (cl a b (f9 T) (aa (wx a (va 0) aq) (aa (va 3) ai))) (aU _))))))
theorem ag1:Cal P w K mg base CX0 42 "sees" ["floor","dancer","test"] [] (spW K 3 xy):=T.akT.dN T.mgA z8 ph λa b c d=>(ah (wS 3 ph.nd (wx a (va 0) (va 1))) (ah (wS 4 ph.nd (wx a (va 2) aq)) (ah (wS 5 ph.nd (cl a b (aa5 T) (aa (va 0) (aa (cl a b (gz T) (aa (va 3) (aa (wx a (va 2) aq) (aa (wx a (va 2) aq) ai)))) ai)))) (ah (aX (we2 a b.units (va 4) aD) (ak (au (dv calm_eq (w_eq a.symm b.units) (va 5) (cl a b (yy T) (aa (va 1) ai)) (aU _)))) ax) (ah (aX (we2 a b.units (va 4) aD) (ak (au (dv calm_eq (w_eq a.symm b.units) (va 5) (cl a b (uD T) (aa (va 1) ai)) (aU _)))) ax) (ak (au (cl a b (ad1 T) (aa (va 3) (aa (va 0) (aa (va 5) (aa (va 4) ai))))))))))))
theorem iv:Cal P w K mg base CX0 41 "distance" ["spot"] [] (spW K 1 dG):=T.y9.dN T.mgA jw uf λa b c d=>(ak (au (wB acL (aiE (cm b)) T.am1 boot_max (aa (wB xJ aiJ T.ajX boot_abs (aa (wx a (va 0) aq) ai)) (aa (wB xJ aiJ T.ajX boot_abs (aa (wx a (va 0) aq) ai)) ai)))))
theorem ad3:Cal P w K mg base CX0 42 "drift" ["stand"] [] (spW K 1 jU):=T.ahI.dN T.mgA o5 pw λb a c d=>(ah (wS 1 pw.nd (cl b a (iv T) (aa (cl b a (fv T) (aa (va 0) ai)) ai))) (ah (wS 2 pw.nd (cl b a (iv T) (aa (cl b a (gz T) (aa (va 0) (aa aq (aa aq ai)))) ai))) (ah (aX (we2 b a.units (va 2) (va 1)) (ak (au aD)) ax) (ak (au (aiy (bf gK w_lt (va 2) (va 1) (aU _)) aD aD))))))
theorem yD:Cal P w K mg base CX0 1 "is_head" ["dancer"] [] (spW K 1 ja):=T.acA.dN T.mgA lR ym λb a c d=>(ak (au (dv calm_eq (w_eq b.symm a.units) (aI aY w_mod (aI eO w_div (va 0) aq) aq) aq (aU _))))
theorem yC:Cal P w K mg base CX0 1 "is_left" ["dancer"] [] (spW K 1 i9):=T.acz.dN T.mgA lQ yk λb a c d=>(ak (au (dv calm_eq (w_eq b.symm a.units) (aI aY w_mod (va 0) aq) aq (aU _))))
theorem yA:Cal P w K mg base CX0 2 "is_such" ["dancer","word"] [] (spW K 2 gH):=T.acx.dN T.mgA lP yi λb a c d=>(ah (aX (bf nk (aiG b.symm a.units) (va 1) (bT (aa aD (aa aD ai))) (by rfl)) (ak (au (dv calm_eq (w_eq b.symm a.units) (cl b a (yD T) (aa (va 0) ai)) (dv calm_eq (w_eq b.symm a.units) (va 1) aD (aU _)) (aU _)))) ax) (ak (au (dv calm_eq (w_eq b.symm a.units) (cl b a (yC T) (aa (va 0) ai)) (dv calm_eq (w_eq b.symm a.units) (va 1) aD (aU _)) (aU _)))))
theorem rF{f:Addr}{e:FuncData}(d:Fun K "holds" "holds" ui f e)(h:mg "holds"=some (.ref f))(i:Binds K e ["floor","dancer","test"] []):∀n:Nat,FnOk P w K mg base CX0 (42+n) f e ["floor","dancer","test"] (spW K 3 (ck n))|0=>ahE d pq rfl|n+1=>have c:=rF d h i n;u5 (gj (ck n)) d pq rfl rfl rfl (by decide) λj A g s H E B a b l k=>(ah (wS 3 pq.nd (wx a (va 2) aq)) (ah (aX (we2 a b.units (va 3) aD) (ak (au (ae2 (zQ a.symm c (b.mono (ao6 _)) (by rfl) h d.kp i (aa (va 0) (aa (va 1) (aa (wx a (va 2) aq) ai))) (aL (aL (aL eQ))))))) ax) (ah (aX (we2 a b.units (va 3) aD) (ak (au (cl a b (ag1 T) (aa (va 0) (aa (va 1) (aa (va 2) ai))) (apc (by decide) (aqm _ _))))) ax) (ah (aX (we2 a b.units (va 3) aD) (ak (au (dv iC ah0 (cl a b (iv T) (aa (cl a b (fv T) (aa (wx a (va 0) (va 1)) ai) (apc (by decide) (aqm _ _))) ai) (apc (by decide) (aqm _ _))) (wx a (va 2) aq) (aU _)))) ax) (ah (aX (bf nk (aiG a.symm b.units) (va 3) (wk a T.aee adK (adn T)) (by rfl)) (ak (au (dv calm_eq (w_eq a.symm b.units) (cl a b (ad3 T) (aa (wx a (va 0) (va 1)) ai) (apc (by decide) (aqm _ _))) (va 3) (aU _)))) ax) (ak (au (cl a b (yA T) (aa (va 1) (aa (va 3) ai)) (apc (by decide) (aqm _ _))))))))))
theorem ad2:Cal P w K mg base CX0 44 "holds" ["floor","dancer","test"] [] (spW K 3 (ck 2)):=T.ahH.aoP T.mgA (λ_ _ _ _ _ _ c e=>zg (λ_ _ _=>rfl) c e) λ_ _ b a d=>rF T b a d 2
theorem uC:Cal P w K mg base CX0 45 "rule_for" ["floor","dancer","call"] [] (spW K 3 fB):=T.yY.dN T.mgA jn ir λa b d c=>(ah (eu c (cm b) (tP a.symm (by rfl) T.iw (va 2)) (vI a.symm (cm b) (dy (gN 3 ir.nd) (dy (gN 4 ir.nd) oP)) rfl (fM (fM xi)) mY) (show PSs _ _ (loS _ (K66.dg))from(ak (aX (er (wB qj (w_all (cm b) a.symm) T.ag9 boot_all (aa (eR (ts:=["test"]) ⟨rfl,rfl,rfl,rfl,rfl⟩ (cm b) rfl (bB (by decide)) (fV a.symm (wx a (va 4) aq)) (λ_ _ _ _=>(gN 0)) (λ_ _ _ _=>gh) (λ_ _ _ _=>(cl a b (ad2 T) (aa (va 1) (aa (va 2) (aa (va 0) ai)))))) ai))) (ak (au (va 3))) ax)))) (ak (au cQ)))
theorem uz:Cal P w K mg base (CXX P w) 46 "steps_of" ["floor","dancer","call","some"] [] (spX K 4 cS):=T.yX.dX T.mgA fo l6 λa b c d=>(ah (aX (PW.pt (j9 (bf hG oV (va 3) cQ (aU _)) (ie (bf cU (ij a.symm b.units) (va 1) (va 3) (by rfl))))) (ak (au (bT ai))) ax) (ah (wS 4 l6.nd (cl a b (uC T) (aa (va 0) (aa (va 1) (aa (va 2) ai))))) (ah (aX (bf vr w_is (va 4) cQ (aU _)) (ak (rI a b c (cm b) T.abn T.aaL T.adM (pL T) T.u4 (aa (va 1) ai))) ax) (ak (au (wx a (wx a (va 2) (va 4)) aq))))))
theorem mD:Cal P w K mg base CX0 1 "is_whole" ["thing"] [] (spW K 1 fE):=T.y4.dN T.mgA gP uc λa b c d=>(ak (au (nZ (wB bw (cX a.symm) T.ba apZ (aa (va 0) (aa (wty T.am2 boot_int) ai))) (qm (ae2 (wB bw (cX a.symm) T.ba apZ (aa (va 0) (aa (wty T.abg boot_bool) ai))))))))
theorem mE:Cal P w K mg base CX0 2 "is_place" ["thing"] [] (spW K 1 fG):=T.y7.dN T.mgA jv ue λa b c d=>(ak (au (nZ (cl a b (mD T) (aa (va 0) ai)) (qm (vJ iC iC ah0 ah0 (tR fS tU (wki a T.oy)) (va 0) (wki a T.oy))))))
theorem rC:Cal P w K mg base CX0 2 "is_facing" ["thing"] [] (spW K 1 fP):=T.vl.dN T.mgA iq qI λa b c d=>(ak (au (nZ (cl a b (mD T) (aa (va 0) ai)) (qm (vJ iC gK ah0 w_lt aq (va 0) (wB aP (dz a.symm) T.dr apr (aa (wk a T.abl aaI (zV T)) ai)))))))
theorem uF:Cal P w K mg base CX0 3 "is_stand" ["thing"] [] (spW K 1 fF):=T.y6.dN T.mgA ju ud λa b c d=>(ah (aX (PW.pt (nA (hT (er (wB bw (cX a.symm) T.ba apZ (aa (va 0) (aa (wty T.jM arL) ai))))) (j8 (wn2 a b.units (wB aP (dz a.symm) T.dr apr (aa (va 0) ai)) aq)))) (ak (au oQ)) ax) (ak (au (nZ (cl a b (mE T) (aa (wx a (va 0) aq) ai)) (nZ (cl a b (mE T) (aa (wx a (va 0) aq) ai)) (qm (cl a b (rC T) (aa (wx a (va 0) aq) ai))))))))
theorem yz:Cal P w K mg base (CXX P w) 41 "kept_in" ["told"] [] (spX K 1 gG):=T.acw.dX T.mgA iK jC λb a d c=>(ah (eu c (cm a) (tP b.symm (by rfl) T.iw (va 0)) (vI b.symm (cm a) (dy (gN 1 jC.nd) (dy (gN 2 jC.nd) oP)) rfl (fM (fM xi)) mY) (show PSs _ _ (loS _ (K66.bW))from(ak (aX (hT (er (wB qj (w_all (cm a) b.symm) T.ag9 boot_all (aa (eR (ts:=["stand"]) ⟨rfl,rfl,rfl,rfl,rfl⟩ (cm a) rfl (bB (by decide)) (fV b.symm (adg (ak8 b.symm) (va 2) (lB aq) tO)) (λ_ _ _ _=>(gN 0)) (λ_ _ _ _=>gh) (λ_ _ _ _=>(cl b a (uF T) (aa (va 0) ai)))) ai)))) (ak (rI b a d (cm a) T.aj1 T.aji T.ajh (uG T) T.ahC (aa (va 1) ai))) ax)))) (ak (au (va 0))))
theorem mC:Cal P w K mg base CX0 2 "stand_behind" ["stand","step"] [] (spW K 2 cu):=T.nR.dN T.mgA cZ dI λa b c d=>(ah (aX (we2 a b.units (wx a (va 1) aq) aD) (ak (au (bT (aa (wx a (va 0) aq) (aa (wx a (va 0) aq) (aa (cl a b (f9 T) (aa (wx a (va 0) aq) (aa (wx a (va 1) aq) ai))) ai)))))) ax) (ah (wS 2 dI.nd (gx a T.mK T.lS (lD T) (wx a (va 1) aq))) (ah (wS 3 dI.nd (cl a b (gz T) (aa (va 0) (aa (aI dC w_mul (wx a (va 2) aq) (wx a (va 1) aq)) (aa (aI dC w_mul (wx a (va 2) aq) (wx a (va 1) aq)) ai))))) (ak (au (bT (aa (wx a (va 3) aq) (aa (wx a (va 3) aq) (aa (wx a (va 0) aq) ai)))))))))
theorem aa6:Cal P w K mg base CX0 41 "way_of" ["stand","steps"] [] (spW K 2 g6):=T.aeL.dN T.mgA kU l3 λa b d c=>(ah (lA (i:=2) l3.nd rfl (Or.inl rfl) (vF (aa (va 0) ai))) (ah (eu c (cm b) (fV a.symm (va 1)) (gN 3 l3.nd) (show PSs _ _ (loS _ (K66.dE))from(ak (aX (wn2 a b.units (wx a (va 3) aq) aD) (ak (zI a.symm (eY (pF ap4 aqe aqf gA (pv 2) (bU (vK (i:=2) (cl a b (mC T) (aa (wx a (va 2) (tR fS tU aq)) (aa (va 3) ai)))) fu))))) ax)))) (ak (vD (i:=2) (au (va 2))))))
theorem ag0:Cal P w K mg base (CXX P w) 47 "ways" ["floor","call","some"] [.none] (spX K 3 sg):=T.akS.cal (ps:=["floor","call","some"]) (ds:=[.none]) T.mgA (λ_ _ _ _ _ _ _ e f=>ud3 (λ_ _ _=>⟨_,rfl,rfl⟩) e (by simpa using f)) (λ_ _ _ _ _ _ _ e f=>ud2 (λ_ _=>⟨_,rfl,rfl⟩) e (by simpa using f)) λ_ _ _ h=>qf vQ h aav rfl rfl rfl (by decide) λg A d s H E B a c b i=>(ah (wS 3 aav.nd (adi rfl rfl a.symm b (ts:=["dancer"]) ⟨rfl,rfl,rfl,rfl,rfl⟩ (cm c) rfl (bB (by decide)) (jm (by rfl) T.fK (wki a T.i2)) (λ_ _ _ _ _ B a b=>(gN 0)) (λ_ _ _ _ _ B a b=>gh) (λ_ _ _ _ _ B a b=>(clX a c b (uz T) (aa (va 1) (aa (va 0) (aa (va 2) (aa (va 3) ai)))))))) (ak (au (clX a c b (yz T) (aa (eR (ts:=["dancer"]) ⟨rfl,rfl,rfl,rfl,rfl⟩ (cm c) rfl (bB (by decide)) (jm (by rfl) T.fK (wki a T.i2)) (λ_ _ _ _=>(gN 0)) (λ_ _ _ _=>gh) (λ_ _ _ _=>(cl a c (aa6 T) (aa (wx a (va 1) (va 0)) (aa (wx a (va 4) (va 0)) ai))))) ai)))))
theorem rE:Cal P w K mg base (CXX P w) 48 "danced" ["floor","call","some"] [.none] (spX K 3 cK):=T.aeN.cal (ps:=["floor","call","some"]) (ds:=[.none]) T.mgA (λ_ _ _ _ _ _ _ e b=>ud3 (λ_ _ _=>⟨_,rfl,rfl⟩) e (by simpa using b)) (λ_ _ _ _ _ _ _ e b=>ud2 (λ_ _=>⟨_,rfl,rfl⟩) e (by simpa using b)) λ_ _ _ h=>qf iL h aaw rfl rfl rfl (by decide) λg A d s H E B a c f i=>(ak (au (clX a c f (uH T) (aa (eR (ts:=["way"]) ⟨rfl,rfl,rfl,rfl,rfl⟩ (cm c) rfl (bB (by decide)) (fV a.symm (clX a c f (ag0 T) (aa (va 0) (aa (va 1) (aa (va 2) ai))))) (λ_ _ _ _=>(gN 0)) (λ_ _ _ _=>gh) (λ_ _ _ _=>(wx a (va 0) (tR fS tU aq)))) ai))))
theorem pM:tG P w K mg base 41 aW fm_Book_call "call" ["self","name"] (spO K 2 bt):=mI ⟨T.y1_Book_call,T.y2_Book_call,T.y3_Book_call⟩ T.r9 (λ_ _ _ _ _ _ d e=>zh (λ_ _=>rfl) d e) λj g=>acm lT mR g qJ rfl rfl rfl (by decide) λf A b s H E B a c i h=>(ada (aX (PW.pt (nA (hT (er (wB bw (cX a.symm) T.ba apZ (aa (va 1) (aa (wty T.ad9 boot_str) ai))))) (j8 (bf vq (adm a.symm c.units) (va 1) (flI a T.kH (eN T) T.pO (va 0)) (by rfl))))) (ak ez) ax) (af7 a.symm (by rfl) T.abf boot_list (wxD a (flI a T.kH (eN T) T.pO (va 0)) (va 1))))
theorem kA:tG P w K mg base 41 aW fm_Book_call "call" ["self","name"] (spX K 2 bt):=tG.x (pM T)
theorem iX:Cal P w K mg base CX0 49 "_law_behind" ["_law_book","_law_floor","_law_name"] [] (spW K 3 cA):=T.sP.dN T.mgA eB dA λa b c e=>(ah (wS 3 dA.nd cQ) (ah (aeY (tb:=(K66.cY)) (th:=(K66.eS)) a.symm rfl rfl (by rfl) T.eI (λf i h=>T.xs.ex f i _ _ h T.sC) (λ_ _ B a c e=>(ak (wS 3 dA.nd (clD (dws:=[.non]) (dvs:=[.non]) a b c (rE T) (.cons rfl .nil) (λ_=>by simp[RWs,RW]) (aa (va 1) (aa (meI a b c T.kH (eN T) (kA T) (va 0) (aa (va 2) ai) (λd ws z=>by rw[(aL eQ) d ws z])) ai)) (λd ws z=>by rw[(aL (aL eQ)) d ws z];rfl))))) (λg B a c=>have b:=b.sui (v:=some (.ref g)) (by decide);(ak (wS 3 dA.nd cQ)))) (ak (au (va 3)))))
theorem nH:tG P w K mg base 41 aW fm_Book_names "names" ["self"] (spO K 1 bM):=mI ⟨T.y1_Book_names,T.y2_Book_names,T.y3_Book_names⟩ T.p9 (λ_ _ _ _ _ _ d e=>bind1 (λ_=>rfl) d e) λj g=>acm ke eJ g px rfl rfl rfl (by decide) λf A a s H E B c b i h=>(zB (vE (cm b) T.wW boot_sorted (flI c T.kH (eN T) T.pO (va 0))))
theorem iZ:tG P w K mg base 41 aW fm_Book_names "names" ["self"] (spX K 1 bM):=tG.x (nH T)
theorem mz:Cal P w K mg base CX0 1 "turned_stand" ["stand"] [] (spW K 1 cq):=T.nQ.dN T.mgA eT l5 λa b c d=>(ak (au (bT (aa (tR fS tU (wx a (va 0) aq)) (aa (wx a (va 0) aq) (aa (aI aY w_mod (aI aG (w_add a.symm) (wx a (va 0) aq) aq) (wki a T.gX)) ai))))))
theorem mB:Cal P w K mg base CX0 41 "turned" ["floor","quarters"] [] (spW K 2 eL):=T.aeM.dN T.mgA o4 iM λa b d c=>(ah (wS 2 iM.nd (va 0)) (ah (eu c (cm b) (jm (by rfl) T.fK (aI aY w_mod (va 1) (wki a T.gX))) (gN 3 iM.nd) (show PSs _ _ (loS _ (K66.gZ))from(ak (wS 2 iM.nd (wT hE (oU a.symm) T.jM arL (aa (eR (ts:=["stand"]) ⟨rfl,rfl,rfl,rfl,rfl⟩ (cm b) rfl (bB (by decide)) (fV a.symm (va 2)) (λ_ _ _ _=>(gN 0)) (λ_ _ _ _=>gh) (λ_ _ _ _=>(cl a b (mz T) (aa (va 0) ai)))) ai)))))) (ak (au (va 2)))))
theorem rB:Cal P w K mg base CX0 50 "_law_first" ["_law_book","_law_script"] [] (spW K 2 fO):=T.vk.dN T.mgA ip df λa b c d=>(ah (wS 2 df.nd (wk a T.aj3 aje (aiL T))) (ah (eu d (cm b) (fV a.symm (adg (ak8 a.symm) (va 1) (lB aq) (lB aq))) (gN 3 df.nd) (show PSs _ _ (loS _ (K66.cG))from(ah (wS 4 df.nd (cl a b (iX T) (aa (va 0) (aa (va 2) (aa (wx a (an8 a b c T.kH (eN T) (iZ T) (va 0)) (aI aY w_mod (va 3) (wB aP (dz a.symm) T.dr apr (aa (an8 a b c T.kH (eN T) (iZ T) (va 0)) ai)))) ai))))) (ak (aX (bf hG oV (va 4) cQ (aU _)) (ak (wS 2 df.nd (va 4))) ax))))) (ak (au (cl a b (mB T) (aa (va 2) (aa (aI aY w_mod (cl a b (eZ T) (aa (va 1) (aa aq ai))) aq) ai)))))))
theorem jK:Cal P w K mg base CX0 42 "form" ["floor"] [] (spW K 1 gI):=T.akU.dN T.mgA z9 agz λb a d c=>(ak (au (wB acK (aiD (cm a) b.symm a.units) T.am0 boot_min (aa (eR (ts:=["quarters"]) ⟨rfl,rfl,rfl,rfl,rfl⟩ (cm a) rfl (bB (by decide)) (jm (by rfl) T.fK (wki b T.gX)) (λ_ _ _ _=>(gN 0)) (λ_ _ _ _=>gh) (λ_ _ _ _=>(cl b a (mB T) (aa (va 1) (aa (va 0) ai))))) ai))))
theorem uE:Cal P w K mg base CX0 50 "_law_rows" ["_law_book","_law_floor","_law_names_here","_law_length"] [] (spW K 4 fD):=T.y0.dN T.mgA jt cx λa b d c=>(ah (lA (i:=4) cx.nd rfl (Or.inl rfl) (vF (aa (bT (aa (cl a b (jK T) (aa (va 1) ai)) (aa aq (aa cQ (aa cQ ai))))) ai))) (ah (lA (i:=5) cx.nd rfl (Or.inl rfl) (vF (aa (cl a b (jK T) (aa (va 1) ai)) ai))) (ah (wS 6 cx.nd aq) (ah (ade c (show PT _ _ (loT _ (K66.bV))from(aeW (i:=4) (PW.pt (j9 (bf gK w_lt (va 6) (wB aP (dz a.symm) T.dr apr (aa (va 4) ai)) (aU _)) (ie (bf gK w_lt (wx a (wx a (va 4) (va 6)) aq) (va 3) (aU _))))))) (show PSs _ _ (loS _ (K66.dh))from(ah (eu c (cm b) (fV a.symm (va 2)) (gN 7 cx.nd) (show PSs _ _ (loS _ (K66.bc))from(ah (wS 8 cx.nd (vK (i:=4) (cl a b (iX T) (aa (va 0) (aa (wx a (wx a (va 4) (va 6)) aq) (aa (va 7) ai)))))) (ak (aX (aeW (i:=5) (PW.pt (j9 (bf hG oV (va 8) cQ (aU _)) (ie (bf cU (ij a.symm b.units) (cl a b (jK T) (aa (va 8) ai)) (va 5) (by rfl)))))) (ah (zI a.symm (eY (pF ap4 aqe aqf gA (pv 5) (bU (cl a b (jK T) (aa (va 8) ai)) fu)))) (ak (zI a.symm (eY (pF ap4 aqe aqf gA (pv 4) (bU (vK (i:=4) (bT (aa (cl a b (jK T) (aa (va 8) ai)) (aa (aI aG (w_add a.symm) (wx a (wx a (va 4) (va 6)) aq) aq) (aa (va 6) (aa (va 7) ai)))))) fu)))))) ax))))) (ak (wS 6 cx.nd (aI aG (w_add a.symm) (va 6) aq)))))) (ak (vD (i:=4) (au (va 4))))))))
theorem aa7:ak6 P w K mg base 41 dU ["self","goal","most"] (alc P w K):=xg T.abY (λ_ _ _ _ _ _ e b=>zg (λ_ _ _=>rfl) e b) λg f=>aeq f aax rfl λd A a s H E X c=>by subst c;exact⟨qZ (pv 0) (pv 1) rfl,qZ (pv 0) (pv 2) rfl,qZ (pv 0) (aaY fu) rfl,qZ (pv 0) adW rfl⟩
theorem iY:tG P w K mg base 43 aC fm_Search_lay "lay" ["self","floor","depth","parent","name"] (spM (srM P w) K 5 bL):=mI ⟨T.y1_Search_lay,T.y2_Search_lay,T.y3_Search_lay⟩ T.p8 (λ_ _ _ _ _ _ e f=>ahT (λ_ _ _ _ _=>rfl) e f) λl h=>acn eE h iQ rfl rfl rfl (by decide) λg A d s H E B a c b k=>(j7 (ic a b (λB a b=>(wS 5 iQ.nd (cl a c (jK T) (aa (va 1) ai))))) (j7 (afW (i:=5) a (xh T.bo (aO T) T.fb) (aaN (ajM (un2 c.units)) (pv 5) (mw (pv 0) rfl) (by rfl)) (ly (ic a b (λB a b=>zC))) zw) (j7 (aip (j:=0) (bf acO aot (wB aP (dz a.symm) T.dr apr (aa (ig (n:=2) a.symm T.bo (aO T) T.aZ (by decide) rfl (va 0)) ai)) (ig (n:=1) a.symm T.bo (aO T) T.hZ (by decide) rfl (va 0)) (aU _)) (ly (ic a b (λB a b=>(adf a.symm b (cm c) (by rfl) T.rH T.zx T.sA rfl (aa aD ai))))) zw) (j7 (afU a (xh T.bo (aO T) T.fb) (agP (un2 c.units) (mw (pv 0) rfl) (pv 5) ajC)) (ly (afY a (xh T.bo (aO T) T.aZ) (λB a=>(eY (pF ap4 aqe aqf gA (mw (pv 0) rfl) (bU (bT (aa (va 5) (aa (va 2) (aa (va 3) (aa (va 4) ai))))) fu))))))))))
theorem fw:tG P w K mg base 41 aC fm_Search_at_goal "at_goal" ["self"] (spX K 1 aE):=mI ⟨T.y1_Search_at_goal,T.y2_Search_at_goal,T.y3_Search_at_goal⟩ T.jR (λ_ _ _ _ _ _ d e=>bind1 (λ_=>rfl) d e) λj g=>ack dn g jD rfl rfl rfl (by decide) λf A b s H E B a c i h=>(ak (au (dv calm_eq (w_eq a.symm c.units) (wx a (wx a (ig (n:=2) a.symm T.bo (aO T) T.aZ (by decide) rfl (va 0)) (tR fS tU aq)) aq) (ig (n:=0) a.symm T.bo (aO T) T.h6 (by decide) rfl (va 0)) (aU _))))
theorem jL:tG P w K mg base 49 aC fm_Search_take_up "take_up" ["self","place","calls"] (spM (srM P w) K 3 bh):=mI ⟨T.y1_Search_take_up,T.y2_Search_take_up,T.y3_Search_take_up⟩ T.jQ (λ_ _ _ _ _ _ l m=>zg (λ_ _ _=>rfl) l m) λr p=>acn fW p cf rfl rfl rfl (by decide) λo A d s H E B a c b k=>(j7 (aio (j:=0) (i:=3) cf.nd (wx a (ig (n:=2) a.symm T.bo (aO T) T.aZ (by decide) rfl (va 0)) (va 1))) (ly (afX a k (cm c) b (pv 2) (uw cf.nd rfl (Or.inl rfl)) (λB a b=>(show PSs _ _ (loX _ _ K66.aw)from(j7 (ic a b (λB a b=>(af1 (tb:=K66.aJ) (th:=K66.bQ) a.symm rfl rfl ⟨by rfl,T.abn⟩ ⟨by rfl,T.aj1⟩ ⟨by rfl,T.aft⟩ (λf g h=>⟨T.xs.ex f g _ _ h T.u4,T.xs.ex f g _ _ h T.ahC,T.xs.ex f g _ _ h T.ab9⟩) (λ_ _ B a b k=>(ak (wS 5 cf.nd (clD (dws:=[.non]) (dvs:=[.non]) a c b (rE T) (.cons rfl .nil) (λ_=>by simp[RWs,RW]) (aa (wx a (va 3) aq) (aa (wx a (va 2) (va 4)) ai)) (λe ws z=>by rw[(aL (aL eQ)) e ws z];rfl))))) (λq B a b=>(ak tN))))) (j7 (xm a c b T.bo (aO T) (iY T) (pv 0) (λB a=>(aa (va 5) (aa (aI aG (w_add a.symm) (wx a (va 3) aq) aq) (aa (va 1) (aa (va 4) ai))))) (λe ws z=>by rw[(aL (aL (aL (aL eQ)))) e ws z])) (ly (aip (j:=0) (er (an7 a c b T.bo (aO T) (fw T) (va 0))) (ly (ic a b (λB a b=>zC))) zw)))))))))
theorem pI:Cal P w K mg base (CXX P w) 50 "rows_up_to" ["goal","book","floor","names","length","most"] [] (spX K 6 dm):=T.sJ.dX T.mgA eA cb λa c b e=>(ah (zG (i:=6) cb.nd rfl (Or.inl rfl)) (ah (eu e (cm c) (fV a.symm (va 3)) (gN 7 cb.nd) (show PSs _ _ (loS _ (K66.bq))from(ak (zF (i:=6) (un1 c.units) (pv 6) (va 7) (meI a c b T.kH (eN T) (kA T) (va 1) (aa (va 7) ai) (λd ws z=>by rw[(aL eQ) d ws z])))))) (adb (i:=6) (wth (j:=8) a c b cb.nd rfl (Or.inl rfl) (abi T) T.bo ⟨aO T,T.h6,T.hZ,T.aZ,T.fb⟩ (aa7 T) T.aed (aa (va 0) (aa (va 5) ai)) (λB a b=>(tL (xm a c b T.bo (aO T) (iY T) (pv 8) (λB a=>(aa (va 2) (aa aq (aa cQ (aa cQ ai))))) (λd ws z=>by rw[(aL (aL (aL (aL eQ)))) d ws z])) (tL (ic a b (λB a b=>(wS 9 cb.nd aq))) (tL (ac5 (j:=8) e (show PT _ _ (loT _ K66.aF)from(PW.pt (j9 (bf gK w_lt (va 9) (wB aP (dz a.symm) T.dr apr (aa (ig (n:=2) a.symm T.bo (aO T) T.aZ (by decide) rfl (va 8)) ai)) (aU _)) (j9 (bf gK w_lt (wx a (wx a (ig (n:=2) a.symm T.bo (aO T) T.aZ (by decide) rfl (va 8)) (va 9)) aq) (va 4) (aU _)) (ie (hT (er (an7 a c b T.bo (aO T) (fw T) (va 8))))))))) (show PSs _ _ (loX _ _ K66.bp)from(j7 (xm a c b T.bo (aO T) (jL T) (pv 8) (λB a=>(aa (va 9) (aa (va 6) ai))) (λd ws z=>by rw[(aL (aL eQ)) d ws z])) (ly (ic a b (λB a b=>(af6 (i:=9) cb.nd aq))))))) (afT a (xh T.bo (aO T) T.aZ) (wo (mw (pv 8) rfl)))))))))))
theorem gT:Cal P w K mg base (CXX P w) 51 "reached" ["book","floor","names","length","most"] [.int 2000 dM] (spX K 5 cv):=T.acu.cal (ps:=["book","floor","names","length","most"]) (ds:=[.int 2000 dM]) T.mgA (λ_ _ _ _ _ _ _ c a=>ud5 (λ_ _ _ _ _=>⟨_,rfl,rfl⟩) c (by simpa using a)) (λ_ _ _ _ _ _ _ c a=>ud4 (λ_ _ _ _=>⟨_,rfl,rfl⟩) c (by simpa using a)) λ_ _ _ h=>qf lL h yg rfl rfl rfl (by decide) λg A b s H E B e d f i=>(ak (au (clX e d f (pI T) (aa cQ (aa (va 0) (aa (va 1) (aa (va 2) (aa (va 3) (aa (va 4) ai)))))))))
theorem ajQ{f:Addr}{i:FuncData}(n:Fun K "law" "law" agA f i):FnOk P w K mg base CX0 52 f i ["_law_script"] (spW K 1 aeD):=u5 agm n dJ rfl rfl rfl (by decide) λk A d s H E B a b c g=>(ah (wS 1 dJ.nd (mkI a b c (ahb T) (eN T) T.pO T.kH (ag2 T) T.aj4 (aa (cl0 a b (kz T)) ai))) (ah (wS 2 dJ.nd (aI aY w_mod (aI dC w_mul (cl a b (eZ T) (aa (va 0) (aa aq ai))) aq) aq)) (ah (wS 3 dJ.nd (cl a b (rA T) (aa (aI eO w_div (va 2) aq) (aa (aI aG (w_add a.symm) aq (aI aY w_mod (va 2) aq)) ai)))) (ah (wS 4 dJ.nd (cl a b (eZ T) (aa (va 0) (aa aq ai)))) (ah (wS 5 dJ.nd (aI aY w_mod (va 4) aq)) (ah (aX (we2 a b.units (aI aY w_mod (aI eO w_div (va 4) aq) aq) aq) (ah (wS 3 dJ.nd (adg (ak8 a.symm) (va 3) tO (lB (aI aG (w_add a.symm) aq (aI aY w_mod (aI eO w_div (va 2) aq) aq))))) (ak (wS 5 dJ.nd (aI aG (w_add a.symm) aq (aI aY w_mod (aI eO w_div (va 4) aq) (wx a (fk (aa aq (aa aq ai))) (aI je w_sub (wB aP (dz a.symm) T.dr apr (aa (va 3) ai)) aq))))))) ax) (ah (wS 6 dJ.nd (cl a b (rB T) (aa (va 1) (aa (va 0) ai)))) (ah (wS 7 dJ.nd (cl a b (uE T) (aa (va 1) (aa (va 6) (aa (va 3) (aa (va 5) ai)))))) (ah (wS 8 dJ.nd (wT acM (aiF a.symm) T.abf boot_list (aa (va 3) ai))) (ah (wS 9 dJ.nd (clD (dws:=[.int 2000]) (dvs:=[.int 2000]) a b c (gT T) (.cons ⟨_,rfl⟩ .nil) (λ_=>by simp[RWs,RW]) (aa (va 1) (aa (va 6) (aa (va 8) (aa (va 5) ai)))) (λe ws z=>by rw[(aL (aL (aL (aL eQ)))) e ws z];rfl))) (ah (aX (PW.pt (nA (hT (er (wB bw (cX a.symm) T.ba apZ (aa (va 9) (aa (wty T.abf boot_list) ai))))) (nA (wn2 a b.units (va 9) (va 7)) (j8 (wn2 a b.units (va 8) (va 3)))))) (ak (au oQ)) ax) (ah (eu g (cm b) (fV a.symm (va 9)) (gN 10 dJ.nd) (show PSs _ _ (loS _ (K66.pR))from(ak (aX (PW.pt (nA (hT (er (wB bw (cX a.symm) T.ba apZ (aa (va 10) (aa (wty T.jM arL) ai))))) (nA (er (wB bw (cX a.symm) T.ba apZ (aa (wx a (va 10) aq) (aa (wty T.abg boot_bool) ai)))) (j8 (er (wB bw (cX a.symm) T.ba apZ (aa (wx a (va 10) aq) (aa (wty T.abg boot_bool) ai)))))))) (ak (au oQ)) ax)))) (ah (aX (wn2 a b.units (clX a b c (gT T) (aa (va 1) (aa (va 6) (aa (va 3) (aa (va 5) (aa (wB aP (dz a.symm) T.dr apr (aa (va 7) ai)) ai)))))) (va 7)) (ak (au oQ)) ax) (ah (aX (wn2 a b.units (clD (dws:=[.int 2000]) (dvs:=[.int 2000]) a b c (gT T) (.cons ⟨_,rfl⟩ .nil) (λ_=>by simp[RWs,RW]) (aa (va 1) (aa (cl a b (mB T) (aa (va 6) (aa (aI aG (w_add a.symm) aq (aI aY w_mod (va 2) aq)) ai))) (aa (va 3) (aa (va 5) ai)))) (λe ws z=>by rw[(aL (aL (aL (aL eQ)))) e ws z];rfl)) (va 7)) (ak (au oQ)) ax) (ah (aX (we2 a b.units (wB aP (dz a.symm) T.dr apr (aa (va 7) ai)) aq) (ak (au oQ)) ax) (ah (wS 11 dJ.nd oQ) (ah (aeY (tb:=(K66.t6)) (th:=(K66.tZ)) a.symm rfl rfl (by rfl) T.rH (λl m h=>T.xs.ex l m _ _ h T.sA) (λ_ _ B a c g=>(ak (af5 (clX a b c (gT T) (aa (va 1) (aa (va 6) (aa (va 3) (aa (va 5) (aa (aI je w_sub (wB aP (dz a.symm) T.dr apr (aa (va 7) ai)) aq) ai))))))))) (λj B a c=>have b:=b.sui (v:=some (.ref j)) (by decide);(ak (wS 11 dJ.nd oQ)))) (ak (au (va 11))))))))))))))))))))
theorem all_mk(a:∀e:List Int,e.length<=63->aeD [.lst (e.map .int)]=.ok (.bl true)){l:W.OpenLaw}{c:Addr}(b:mg "law"=some (.ref c)):∃d:FuncData,(∀(s:Shared)(v:Value),BindsTo s d ⟨[v],[]⟩ [("_law_script",v)])/\∀base:Heap,K.In base->base.Ns mainGlobals mg->FnOk l.prog w K mg base CX0 52 c d ["_law_script"] (WS.aam K):=akg T.anv T.mgA b (λ_ _ _ _ _ _ _=>rfl) (λ_ _ _ f=>ajQ T f) a
omit T
def walk{l:W.OpenLaw}{v:Program}{b:List Str}{t:(Str->Option Value)->Heap->Prop}{i:World->Heap->Prop}{d:DefRec}{K:Params->W.Frag}(o:l.most=some 63)(c:d.params.defaults=[])(m:∀(w:World)(h:Heap),i w h->(K w.params).In h)(F:∀(w:World)(mg:Str->Option Value)(e:Addr)(h:Heap),(K w.params).In h->h.Ns mainGlobals mg->mg d.name=some (.ref e)->∃g:FuncData,(∀(s:Shared)(u:Value),BindsTo s g ⟨[u],[]⟩ [("_law_script",u)])/\∀base:Heap,(K w.params).In base->base.Ns mainGlobals mg->FnOk l.prog w (K w.params) mg base CX0 52 e g ["_law_script"] (WS.aam (K w.params))):W.WalkO v b t i l.row.toRowW d [] (λf p=>PySem.call f p):=L2.agd (n:=63) (k:=52) (x:="_law_script") (CX:=λ_=>CX0) (sp:=λw=>WS.aam (K w.params)) o (by decide) c ⟨λ_=>rfl,by decide,by decide,rfl⟩ m F (λ_ _ a r q _ j=>⟨a,r,rfl,j,q,λ_=>rfl⟩) λ_ _ _ _ _ z=>z
end K66
open PySem PySem.W PyProof.Rows
set_option maxRecDepth 100000 in
set_option maxHeartbeats 0 in
theorem PySem.Challenge.cw_squarecall_k66_floors_come_to_holds : PySem.Challenge.rw_squarecall_k66_floors_come_to.Holds := by
 w_on;o_law;k_head;(case hw=>w_witness2)
 k_fill
 refine K66.walk (l:=PySem.Challenge.rw_squarecall_k66_floors_come_to) rfl rfl (λw h Y=>W.kIn_of Y) ?F
 case F =>
 intro w mg fa h KX G hmg
 refine' K66.all_mk ?T K66.ael hmg
 case T =>
  constructor<;>first|(exact WS.anC (by k_is) (by k_is) (by k_is) (by k_is))|(exact WS.ak4 (by k_is) (by k_is) (by k_is) (by k_is) (by k_is))|(exact WS.ai3 (by k_is) (by repeat first|exact .nil|exact .cons rfl .nil|exact .cons ⟨_,rfl⟩ .nil|refine .cons rfl ?_|refine .cons ⟨_,rfl⟩ ?_) (by decide))|(exact WS.ab5 (tab:=[("FloorError",_),("NoCall",_),("NoName",_),("TooMany",_),("Blind",_),("Out",_),("Meet",_)]) (.head _) (by(refine WS.all_cons (WS.aeE (by first|k_is|exact rfl) (by first|k_is|exact rfl) (by first|k_is|exact rfl) (by first|k_is|exact rfl) (by first|k_is|exact rfl) (by first|k_is|exact rfl)) ?_);(iterate 6 (refine WS.all_cons (WS.ahy (by first|k_is|exact rfl) (by first|k_is|exact rfl) (by first|k_is|exact rfl) (by first|k_is|exact rfl) (by first|k_is|exact rfl) (by first|k_is|exact rfl)) ?_));exact WS.all_nil) ((WS.all_cons (.inl (by simp)) (WS.all_cons (.inr (by k_is)) (WS.all_cons (.inl (by simp)) (WS.all_cons (.inl (by simp)) (WS.all_cons (.inr (by k_is)) (WS.all_cons (.inl (by simp)) (WS.all_cons (.inr (by k_is)) (WS.all_cons (.inr (by k_is)) (WS.all_cons (.inl (by simp)) (WS.all_cons (.inl (by simp)) (WS.all_cons (.inl (by simp)) (WS.all_cons (.inr (by k_is)) WS.all_nil))))))))))))) (show (["FloorError","NoCall","NoName","TooMany","Blind","Out","Meet"]:List String).Nodup from by decide) (by decide) (by first|k_is|exact rfl) (by first|k_is|exact rfl))|(exact WS.akw (by k_is) (by k_is) (by k_is))|(exact WS.ajZ (by k_is) (by k_is) (by k_is))|(exact λ_ _=>W.mg_of KX G)|(refine W.mg_of KX G ?_;k_is)|(refine W.mg_none_of KX G ?_;k_is)|(exact⟨_,_,by k_is,by exact .cons ⟨⟨_,rfl⟩,rfl,⟨_,rfl⟩⟩ (.cons ⟨⟨_,rfl⟩,rfl,⟨_,rfl⟩⟩ (.cons ⟨⟨_,rfl⟩,rfl,⟨_,rfl⟩⟩ (.cons ⟨⟨_,rfl⟩,rfl,⟨_,rfl⟩⟩ (.nil))))⟩)|(exact⟨_,_,by k_is,by exact .cons ⟨⟨_,rfl⟩,rfl,rfl⟩ (.cons ⟨⟨_,rfl⟩,rfl,rfl⟩ (.cons ⟨⟨_,rfl⟩,rfl,rfl⟩ (.cons ⟨⟨_,rfl⟩,rfl,rfl⟩ (.nil))))⟩)|(refine⟨by decide,?_⟩;k_is)|(refine WS.akK ?_;k_exc)|(refine WS.ahz ?_;first|kernel_rfl|exact rfl)|(show W.findIn _ _ _=_;first|k_is|exact rfl)|(k_is)|(exact rfl)

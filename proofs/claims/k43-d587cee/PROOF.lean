import PyProof.Rows.All
import Wide.All
import OpenK.AllK
import Wide.FinOn
import Lean
import PyProof.EqAt
import PyProof.EqKinds
import PyProof.TupleCall
import PySem.Challenge.RW_squarecall_k43_programs_read
set_option Elab.async false
set_option linter.all false
set_option maxRecDepth 100000
namespace L2
open PySem PySem.Spec PyProof.Rows
noncomputable abbrev Key:=Sum (Option Int) Str
noncomputable def gb:Int:=0xFCA86420
theorem uL{prog:Program}{w:World}{A:Around}{E:Value->Shared->Prop}{s:Shared}{Q:Int->Shared->Prop}(h:Q gb {s with toks:=s.toks+1}):wpAny (model prog w) A (pyHash .none) Q E s:=by unfold pyHash;have hv:[Value.none].any Value.onHeap=false:=rfl;refine wpAny_bind ?_;rw[cRoomFor,if_neg (by rw[hv];exact Bool.false_ne_true)];refine wpAny_pure ?_;refine wpAny_bind (wpAny_specialOf (typeIs_none s) PySem.F.slot_NoneType_hash.lookup ?_);show wpAny _ _ (if(some (Value.builtin "NoneType.__hash__")==some Value.none)=true then _ else _) Q E s;rw[if_neg (by rw[beq_builtin_none];exact Bool.false_ne_true)];refine wpAny_bind (wpAny_specialOf (typeIs_none s) PySem.F.slot_NoneType_hash.lookup ?_);show wpAny _ _ (callSpecialIfBoundUnlessNone? .none "__hash__" _ >>=_) Q E s;refine wpAny_bind (wpAny_callSpecialIfBoundUnlessNone?_slot (typeIs_none s) PySem.F.slot_NoneType_hash (wpAny_call_entry PySem.F.slot_NoneType_hash (typeIs_none s) PySem.F.entry_NoneType_hash (show wpAny _ _ (do ret (<-mkInt gb)) _ _ s from wpAny_ret_mkInt ?_) (PySem.F.args_NoneType_hash_1 _)));show wpAny _ _ (if(decide (-(2:Int)^63<=gb)&&decide (gb<2^63))=true then _ else _) Q E _;rw[if_pos (by decide)];exact wpAny_pure h
noncomputable def qY:Key->Value->Bool|.inl (some k),v=>Value.isInt k v|.inl none,.none=>true|.inl none,_=>false|.inr x,v=>Value.isStrOf x v
noncomputable def ai6(w:World):Key->Int|.inl (some k)=>hashInt k|.inl none=>gb|.inr x=>hashStr w x
theorem aS:∀{k:Key}{v:Value},qY k v=true->(∃i t,k=Sum.inl (some i)/\v=Value.int i t)\/(∃x t,k=Sum.inr x/\v=Value.str x t)\/(k=Sum.inl none/\v=.none)
|.inl (some i),v,h=>by obtain⟨t,e⟩:=Value.isInt_shape (k:=i) (v:=v) h;exact .inl ⟨i,t,rfl,e⟩|.inl none,v,h=>by cases v<;>first|exact .inr (.inr ⟨rfl,rfl⟩)|exact nomatch h
|.inr x,v,h=>by obtain⟨t,e⟩:=Value.isStrOf_shape (x:=x) (v:=v) h;exact .inr (.inl ⟨x,t,rfl,e⟩)
theorem uz(i:Int)(t:Tok):qY (.inl (some i)) (.int i t)=true:=by simp[qY,Value.isInt]
theorem uy(x:Str)(t:Tok):qY (.inr x) (.str x t)=true:=by simp[qY,Value.isStrOf]
theorem ady(a b:Int):decide ((Sum.inl (some a):Key)=Sum.inl (some b))=(a==b):=by
 by_cases e:a=b;·subst e;simp
 ·have h:¬(Sum.inl (some a):Key)=Sum.inl (some b):=fun q=>e (Option.some.inj (Sum.inl.inj q));rw[decide_eq_false h];exact(beq_eq_false_iff_ne.mpr e).symm
theorem adv(a b:Str):decide ((Sum.inr a:Key)=Sum.inr b)=decide (a=b):=by
 by_cases e:a=b;·subst e;simp
 ·have h:¬(Sum.inr a:Key)=Sum.inr b:=fun q=>e (Sum.inr.inj q);rw[decide_eq_false h,decide_eq_false e]
theorem key_is(a:Int)(b:Str):decide ((Sum.inl (some a):Key)=Sum.inr b)=false:=decide_eq_false (fun q=>nomatch q)
theorem adz(a:Int):decide ((Sum.inl (some a):Key)=Sum.inl none)=false:=decide_eq_false (fun q=>nomatch q)
theorem adu(a:Str)(b:Int):decide ((Sum.inr a:Key)=Sum.inl (some b))=false:=decide_eq_false (fun q=>nomatch q)
theorem adt(a:Str):decide ((Sum.inr a:Key)=Sum.inl none)=false:=decide_eq_false (fun q=>nomatch q)
theorem adx(a:Int):decide ((Sum.inl none:Key)=Sum.inl (some a))=false:=decide_eq_false (fun q=>nomatch q)
theorem adw(a:Str):decide ((Sum.inl none:Key)=Sum.inr a)=false:=decide_eq_false (fun q=>nomatch q)
noncomputable def bf(prog:Program)(w:World):PySem.KeyKind prog w Key where
 is:=qY;hash:=ai6 w;inj:=fun v a b ha hb=>by rcases aS ha with⟨i,t,rfl,rfl⟩|⟨x,t,rfl,rfl⟩|⟨rfl,rfl⟩<;>rcases aS hb with⟨j,u,rfl,e⟩|⟨y,u,rfl,e⟩|⟨rfl,e⟩<;>(cases e;try rfl)
 byValue:=fun k v h=>by rcases aS h with⟨i,t,rfl,rfl⟩|⟨x,t,rfl,rfl⟩|⟨rfl,rfl⟩<;>rfl
 pyHash:=fun hv h=>by
  rcases aS hv with⟨i,t,rfl,rfl⟩|⟨x,t,rfl,rfl⟩|⟨rfl,rfl⟩;·exact wpAny_pyHash_int h
  ·exact wpAny_pyHash_str h
  ·exact uL h
 eqBool:=fun hu hv h=>by
  rcases aS hu with⟨i,t,rfl,rfl⟩|⟨x,t,rfl,rfl⟩|⟨rfl,rfl⟩
  ·rcases aS hv with⟨j,u,rfl,rfl⟩|⟨y,u,rfl,rfl⟩|⟨rfl,rfl⟩;·rw[ady]at h;exact wpAny_eqBool_int h
   ·rw[key_is]at h;exact SeqAt.EqAt.int_str i t y u _ _ _ _ h
   ·rw[adz]at h;exact SeqAt.EqAt.int_none i t _ _ _ _ h
  ·rcases aS hv with⟨j,u,rfl,rfl⟩|⟨y,u,rfl,rfl⟩|⟨rfl,rfl⟩;·rw[adu]at h;exact SeqAt.EqAt.str_int x t j u _ _ _ _ h
   ·rw[adv]at h;exact wpAny_eqBool_str h
   ·rw[adt]at h;exact SeqAt.EqAt.str_none x t _ _ _ _ h
  ·rcases aS hv with⟨j,u,rfl,rfl⟩|⟨y,u,rfl,rfl⟩|⟨rfl,rfl⟩;·rw[adx]at h;exact SeqAt.EqAt.none_int j u _ _ _ _ h
   ·rw[adw]at h;exact SeqAt.EqAt.none_str y u _ _ _ _ h
   ·rw[decide_eq_true rfl]at h;unfold eqBool;rw[if_pos (show(Value.none==Value.none)=true from rfl)];exact wpAny_bind (wpAny_rule (wpAny_pure h))
 «strs»:=fun k x t v h=>by
  rcases aS h with⟨i,u,rfl,e⟩|⟨y,u,rfl,e⟩|⟨_,e⟩;·exact nomatch e
  ·injection e with e1 _;subst e1;cases v<;>rfl
  ·exact nomatch e
theorem nR(prog:Program)(w:World)(i:Int)(t:Tok):(bf prog w).is (.inl (some i)) (.int i t)=true:=uz i t
theorem nQ(prog:Program)(w:World)(x:Str)(t:Tok):(bf prog w).is (.inr x) (.str x t)=true:=uy x t
end L2
namespace L2
open PySem PySem.Spec PyProof.Rows
inductive V where|non|bl(b:Bool)|int(i:Int)|str(x:Str)|byt(b:Array UInt8)|flt(b:UInt64)|ref(a:Addr)|ty(n:String)deriving DecidableEq
noncomputable def RelV:V->Value->Prop|.non,u=>u=Value.none|.bl b,u=>u=Value.bool b|.int i,u=>∃t,u=Value.int i t|.str x,u=>∃t,u=Value.str x t|.byt b,u=>∃t,u=Value.bytes b t|.flt b,u=>∃t,u=Value.float b t|.ref a,u=>u=Value.ref a|.ty n,u=>u=Value.type n
noncomputable abbrev Vals:List V->List Value->Prop:=Paired RelV
theorem Vals.length{xs:List V}{us:List Value}(r:Vals xs us):xs.length=us.length:=Paired.length r
theorem Vals.get:∀{xs:List V}{us:List Value}{i:Nat}{x:V},Vals xs us->xs[i]?=some x->∃u,us[i]?=some u/\RelV x u|_,_,_,_,.nil,e=>by simp at e|_,_,0,_,.cons r _,e=>by simp at e;subst e;exact⟨_,rfl,r⟩|_,_,i+1,x,.cons _ t,e=>by obtain⟨u,h1,h2⟩:=Vals.get (i:=i) (x:=x) t (by simpa using e);exact⟨u,by simpa using h1,h2⟩
theorem Vals.set{x:V}{u:Value}(r:RelV x u):∀{xs:List V}{us:List Value}(i:Nat),Vals xs us->Vals (xs.set i x) (us.set i u)|_,_,_,.nil=>.nil|_,_,0,.cons _ t=>.cons r t|_,_,i+1,.cons q t=>.cons q (Vals.set r i t)
theorem Vals.append:∀{xs ys:List V}{us ws:List Value},Vals xs us->Vals ys ws->Vals (xs++ys) (us++ws)|_,_,_,_,.nil,s=>s|_,_,_,_,.cons r t,s=>.cons r (Vals.append t s)
theorem Vals.take:∀{xs:List V}{us:List Value}(n:Nat),Vals xs us->Vals (xs.take n) (us.take n)|_,_,0,_=>.nil|_,_,_+1,.nil=>.nil|_,_,n+1,.cons r t=>.cons r (Vals.take n t)
theorem Vals.drop:∀{xs:List V}{us:List Value}(n:Nat),Vals xs us->Vals (xs.drop n) (us.drop n)|_,_,0,r=>r|_,_,_+1,.nil=>.nil|_,_,n+1,.cons _ t=>Vals.drop n t
noncomputable def oQ:Option V->Option Value->Prop|some v,some u=>RelV v u|none,none=>True|_,_=>False
noncomputable def KV{κ:Type}:List (κ×V)->List (κ×Value)->Prop:=Paired fun(p:κ×V)(q:κ×Value)=>p.1=q.1/\RelV p.2 q.2
noncomputable def kV:Key->V|.inl (some i)=>.int i|.inl none=>.non|.inr x=>.str x
inductive HO where/-- a list -/|lst(xs:List V)/-- a tuple (never changes) -/|tup(xs:List V)/-- a dict whose keys are ints and texts;one whose keys are tuples of ints and texts (the empty one is both) -/|dK(kvs:List (Key×V))|dT(kvs:List (List Key×V))/-- a set of ints: its members,its size -/|set(S:Int->Bool)(n:Nat)/-- an instance of the class at C,its dict at dx,its attributes -/|ins(C dx:Addr)(fs:List (Str×V))/-- the dict of the instance at x -/|own(x:Addr)/-- the dict of an exception -/|xd(fs:List (Str×V))/-- a bound method,f of x -/|met(f x:Addr)/-- a range object lo,lo+1,.. below hi -/|rng(lo hi:Int)/-- a thing that is known to the object (the script;a dict while a loop walks it): read,never written while it is so -/|frz(o:Obj)(u:HO)/-- a code object's table -/|tbl(ps:Array Value)/-- any other thing,by what is true of its one object (a def of one's own: SetO a S n:=HO.ext fun h => ..) -/|ext(φ:Heap->Prop)
noncomputable abbrev Hp:=Addr->Option HO
noncomputable def upd(H:Hp)(a:Addr)(o:HO):Hp:=fun b=>if b=a then some o else H b
theorem ag{H:Hp}{a:Addr}{o:HO}:upd H a o a=some o:=by unfold upd;rw[if_pos rfl]
theorem ae{H:Hp}{a b:Addr}{o:HO}(h:b≠a):upd H a o b=H b:=by unfold upd;rw[if_neg h]
theorem sC{H:Hp}{a:Addr}{o u:HO}:upd (upd H a o) a u=upd H a u:=by funext b;unfold upd;split<;>rfl
theorem agL{H:Hp}{a b:Addr}{o u:HO}(h:H a=some o)(h':H b=some u)(d:o≠u):a≠b:=by intro e;subst e;rw[h]at h';exact d (Option.some.inj h')
theorem aD{H:Hp}{a b:Addr}{o:HO}(h:H a=some o)(h':H b=none):a≠b:=by intro e;subst e;rw[h]at h';cases h'
section
variable(P:Program)(w:World)
noncomputable def bo(H:Hp)(h:Heap)(a:Addr):HO->Prop|.lst xs=>xs.length<=sizeLine/\∃(its:List Value)(n:Nat),Vals xs its/\h.get? a=some {cls:=.type "list",data:=.seq its.toArray n}|.tup xs=>xs.length<=sizeLine/\∃its:List Value,Vals xs its/\IsTup h a its.toArray|.dK kvs=>kvs.length<=sizeLine/\(a==sysModules)=false/\∃vs,KV kvs vs/\h.DictOf (bf P w) a vs|.dT kvs=>kvs.length<=sizeLine/\(a==sysModules)=false/\∃xs:List (List Key×Addr×Value),Paired (fun(p:List Key×V)(q:List Key×Addr×Value)=>p.1=q.1/\H q.2.1=some (.tup (p.1.map kV))/\RelV p.2 q.2.2) kvs xs/\∃o es ep,h.get? a=some o/\o.ExactDict/\o.data=.dict es ep/\es.toList=xs.map (entryOfKey (tupleKind (bf P w)))/\(xs.map (·.1)).Nodup|.set S n=>h.SetOf (intKind P w) a S n|.ins C dx fs=>H dx=some (.own a)/\fs.length<=1000/\dx≠a/\h.get? a=some (W.instObj C dx)/\∃mA,h.Ns1 dx mA/\(∀f,oQ (fs.lookup f) (mA f))/\PySem.Within mA (fs.map (·.1))|.own _=>∃o,h.get? a=some o|.xd fs=>∃mA,h.Ns1 a mA/\∀f,oQ (fs.lookup f) (mA f)|.rng lo hi=>∃t u v,h.get? a=some {cls:=.type "range",data:=.fields #[.int lo t,.int hi u,.int 1 v]}|.frz o u=>h.get? a=some o/\bo H h a u|.tbl ps=>h.get? a=some {cls:=.none,data:=.fields ps}|.met f x=>h.get? a=some (W.methodObj (.ref f) (.ref x))|.ext φ=>φ h/\(∃o,h.get? a=some o)/\∀h1 h2:Heap,φ h1->(∀o,h1.get? a=some o->h2.get? a=some o)->φ h2
noncomputable def HOk(H:Hp)(h:Heap):Prop:=∀a o,H a=some o->bo P w H h a o
end
section
variable{P:Program}{w:World}{H H':Hp}{h h':Heap}{a:Addr}{o:HO}
theorem bo.lt(x:bo P w H h a o):a<h.objs.size:=by cases o with|lst xs=>obtain⟨_,_,_,_,e⟩:=x;exact Heap.lt_size e|tup xs=>obtain⟨_,_,_,p⟩:=x;exact p.lt|dK kvs=>obtain⟨_,_,_,_,o,_,_,e,_⟩:=x;exact Heap.lt_size e|dT kvs=>obtain⟨_,_,_,_,o,_,_,e,_⟩:=x;exact Heap.lt_size e|set S n=>obtain⟨o,_,_,_,e,_⟩:=x;exact Heap.lt_size e|ins C dx fs=>obtain⟨_,_,_,e,_⟩:=x;exact Heap.lt_size e|own y=>obtain⟨_,e⟩:=x;exact Heap.lt_size e|xd fs=>obtain⟨_,⟨_,_,_,e,_⟩,_⟩:=x;exact Heap.lt_size e|rng lo hi=>obtain⟨_,_,_,e⟩:=x;exact Heap.lt_size e|frz ob u=>obtain⟨e,_⟩:=x;exact Heap.lt_size e|tbl ps=>exact Heap.lt_size (show h.get? a=some _ from x)|met f y=>exact Heap.lt_size (show h.get? a=some _ from x)|ext φ=>obtain⟨_,⟨_,e⟩,_⟩:=x;exact Heap.lt_size e
theorem Paired.agN{α β:Type}{F G:α->β->Prop}:∀{l₁:List α}{l₂:List β},Paired F l₁ l₂->(∀a b,F a b->G a b)->Paired G l₁ l₂|_,_,.nil,_=>.nil|_,_,.cons r t,f=>.cons (f _ _ r) (Paired.agN t f)
theorem bo.sO(x:bo P w H h a o)(k:∀b u,(b=a\/H b=some (.own a))->h.get? b=some u->h'.get? b=some u)(ho:∀b,H b=some (.own a)->H' b=some (.own a))(ht:∀b xs,H b=some (.tup xs)->H' b=some (.tup xs)):bo P w H' h' a o:=by induction o with|lst xs=>obtain⟨z,its,n,r,e⟩:=x;exact⟨z,its,n,r,k _ _ (.inl rfl) e⟩|tup xs=>obtain⟨z,its,r,ob,e,c⟩:=x;exact⟨z,its,r,ob,k _ _ (.inl rfl) e,c⟩|dK kvs=>obtain⟨z,y,vs,r,ob,es,ep,e,c⟩:=x;exact⟨z,y,vs,r,ob,es,ep,k _ _ (.inl rfl) e,c⟩|dT kvs=>obtain⟨z,y,xs,r,ob,es,ep,e,c⟩:=x;exact⟨z,y,xs,Paired.agN r fun p q z=>⟨z.1,ht _ _ z.2.1,z.2.2⟩,ob,es,ep,k _ _ (.inl rfl) e,c⟩|set S n=>obtain⟨ob,es,ep,t,e,c⟩:=x;exact⟨ob,es,ep,t,k _ _ (.inl rfl) e,c⟩|ins C dx fs=>obtain⟨d,z,ne,e,mA,⟨od,es,ep,e2,c⟩,r⟩:=x;exact⟨ho _ d,z,ne,k _ _ (.inl rfl) e,mA,⟨od,es,ep,k _ _ (.inr d) e2,c⟩,r⟩|own y=>obtain⟨ob,e⟩:=x;exact⟨ob,k _ _ (.inl rfl) e⟩|xd fs=>obtain⟨mA,⟨od,es,ep,e,c⟩,r⟩:=x;exact⟨mA,⟨od,es,ep,k _ _ (.inl rfl) e,c⟩,r⟩|rng lo hi=>obtain⟨t,u,v,e⟩:=x;exact⟨t,u,v,k _ _ (.inl rfl) e⟩|frz ob u ih=>obtain⟨e,q⟩:=x;exact⟨k _ _ (.inl rfl) e,ih q⟩|tbl ps=>have e:h.get? a=some {cls:=.none,data:=.fields ps}:=x;show h'.get? a=some {cls:=.none,data:=.fields ps};exact k a _ (.inl rfl) e|met f y=>have e:h.get? a=some (W.methodObj (.ref f) (.ref y)):=x;show h'.get? a=some (W.methodObj (.ref f) (.ref y));exact k a _ (.inl rfl) e|ext φ=>obtain⟨p,⟨o,e⟩,st⟩:=x;exact⟨st _ _ p fun o q=>k _ _ (.inl rfl) q,⟨o,k _ _ (.inl rfl) e⟩,st⟩
theorem HOk.lt(x:HOk P w H h)(e:H a=some o):a<h.objs.size:=(x a o e).lt
theorem HOk.fresh(x:HOk P w H h)(e:h.objs.size<=a):H a=none:=by cases q:H a with|none=>rfl|some u=>exact absurd (Nat.lt_of_lt_of_le (x.lt q) e) (Nat.lt_irrefl _)
theorem HOk.kept(x:HOk P w H h)(k:∀b u,h.get? b=some u->h'.get? b=some u):HOk P w H h':=fun a o e=>(x a o e).sO (fun b u _ q=>k b u q) (fun _ q=>q) fun _ _ q=>q
theorem HOk.laid(x:HOk P w H h)(k:∀b u,h.get? b=some u->h'.get? b=some u)(hp:h.objs.size<=a)(new:bo P w (upd H a o) h' a o):HOk P w (upd H a o) h':=fun b u e=>by
 have hn:=x.fresh hp;by_cases hb:b=a;·subst hb;rw[ag]at e;cases e;exact new
 ·rw[ae hb]at e;exact(x b u e).sO (fun c v _ q=>k c v q) (fun c q=>by rw[ae (aD q hn)];exact q) fun c xs q=>by rw[ae (aD q hn)];exact q
end
noncomputable def Rd(H:Hp)(a:Addr)(u:HO):Prop:=H a=some u\/∃o,H a=some (.frz o u)
theorem Rd.ok{P:Program}{w:World}{H:Hp}{h:Heap}{a:Addr}{u:HO}(r:Rd H a u)(x:HOk P w H h):bo P w H h a u:=by
 rcases r with r|⟨o,r⟩;·exact x a u r
 ·obtain⟨_,q⟩:=x a _ r;exact q
noncomputable def Mut:Option HO->Prop|some (.lst _)=>True|some (.dK _)=>True|some (.dT _)=>True|some (.set _ _)=>True|some (.ins _ _ _)=>True|some (.ext _)=>True|_=>False
section
variable{P:Program}{w:World}{H:Hp}{h h':Heap}{x e:Addr}{o':HO}
theorem HOk.write(ok:HOk P w H h)(mu:Mut (H x))(he:e=x\/H e=some (.own x))(k:∀b u,b≠e->h.get? b=some u->h'.get? b=some u)(heo:∃u,h'.get? e=some u)(new:bo P w (upd H x o') h' x o'):HOk P w (upd H x o') h':=fun b u q=>by
 have nown:∀c y,H c=some (.own y)->c≠x:=fun c y r z=>by subst z;rw[r]at mu;exact mu
 have ntup:∀c xs,H c=some (.tup xs)->c≠x:=fun c xs r z=>by subst z;rw[r]at mu;exact mu
 by_cases hb:b=x;·subst hb;rw[ag]at q;cases q;exact new
 ·rw[ae hb]at q;by_cases hbe:b=e
  ·have q':H b=some (.own x):=by
    rcases he with z|z;·exact absurd (hbe.trans z) hb
    ·rw[hbe];exact z
   rw[q]at q';cases q';obtain⟨v,hv⟩:=heo;exact⟨v,by rw[hbe];exact hv⟩
  ·refine(ok b u q).sO (fun c v hc r=>k c v ?_ r) (fun c r=>by rw[ae (nown c b r)];exact r) fun c xs r=>by rw[ae (ntup c xs r)];exact r
   rcases hc with rfl|hc;·exact hbe
   ·rintro rfl;rcases he with z|z;·exact nown c b hc z
    ·rw[hc]at z;cases z;exact hb rfl
end
structure Un(fs ex:List Addr)(H H':Hp)(h h':Heap):Prop where
 keep:∀b o,h.get? b=some o->H b=none->b∉fs->b∉ex->h'.get? b=some o
 slot:∀b o,h.get? b=some o->H b=none->b∈fs->b∉ex->∃sl,h'.get? b=some {o with slots:=sl}free:∀b o,h.get? b=some o->H b=none->b∉ex->H' b=none
 there:∀b o,h.get? b=some o->b∉ex->∃o',h'.get? b=some o'
 tups:∀b xs,H b=some (.tup xs)->H' b=some (.tup xs)frzs:∀b o u,H b=some (.frz o u)->H' b=some (.frz o u)tbls:∀b ps,H b=some (.tbl ps)->∃more,H' b=some (.tbl (ps++more))
section
variable{fs fs' ex ex':List Addr}{H H1 H2:Hp}{h h1 h2 h':Heap}{a x e:Addr}{o:HO}
theorem Un.any(u:Un fs ex H H1 h h1){b:Addr}{ob:Obj}(q:h.get? b=some ob)(n:H b=none)(hx:b∉ex):∃sl,h1.get? b=some {ob with slots:=sl}:=by
 by_cases hb:b∈fs;·exact u.slot b ob q n hb hx
 ·exact⟨ob.slots,u.keep b ob q n hb hx⟩
theorem Un.kept(k:∀b u,h.get? b=some u->h'.get? b=some u):Un fs ex H H h h':=⟨fun b ob q _ _ _=>k b ob q,fun b ob q _ _ _=>⟨ob.slots,k b ob q⟩,fun _ _ _ n _=>n,fun b ob q _=>⟨ob,k b ob q⟩,fun _ _ q=>q,fun _ _ _ q=>q,fun _ ps q=>⟨#[],by rw[q];simp⟩⟩
theorem Un.refl:Un fs ex H H h h:=Un.kept fun _ _ q=>q
theorem Un.laid(k:∀b u,h.get? b=some u->h'.get? b=some u)(hp:h.objs.size<=a)(hn:H a=none):Un fs ex H (upd H a o) h h' where
 keep:=fun b u q _ _ _=>k b u q;slot:=fun b u q _ _ _=>⟨u.slots,k b u q⟩;free:=fun b u q n _=>by rw[ae (Nat.ne_of_lt (Nat.lt_of_lt_of_le (Heap.lt_size q) hp))];exact n
 there:=fun b u q _=>⟨u,k b u q⟩;tups:=fun b xs q=>by rw[ae (aD q hn)];exact q
 frzs:=fun b u xs q=>by rw[ae (aD q hn)];exact q
 tbls:=fun b ps q=>⟨#[],by rw[ae (aD q hn),q];simp⟩
theorem Un.write(mu:Mut (H x))(he:e=x\/H e=some (.own x))(k:∀b u,b≠e->h.get? b=some u->h'.get? b=some u)(heo:∃u,h'.get? e=some u):Un fs ex H (upd H x o) h h':=by
 have hx:∀b,H b=none->b≠x:=fun b n z=>by subst z;rw[n]at mu;exact mu
 have hb:∀b,H b=none->b≠e:=fun b n z=>by
  subst z;rcases he with r|r;·exact hx b n r
  ·rw[n]at r;cases r
 have hm:∀b u,H b=some u->¬Mut (some u)->b≠x:=fun b u q nm z=>by subst z;rw[q]at mu;exact nm mu
 refine⟨fun b u q n _ _=>k b u (hb b n) q,fun b u q n _ _=>⟨u.slots,k b u (hb b n) q⟩,fun b u q n _=>by rw[ae (hx b n)];exact n,fun b u q _=>?_,fun b xs q=>by rw[ae (hm b _ q fun z=>z)];exact q,fun b u xs q=>by rw[ae (hm b _ q fun z=>z)];exact q,fun b ps q=>⟨#[],by rw[ae (hm b _ q fun z=>z),q];simp⟩⟩;by_cases hbe:b=e;·subst hbe;exact heo
 ·exact⟨u,k b u hbe q⟩
end
noncomputable def trk(h:Heap)(H:Hp):List Addr:=(List.range h.objs.size).filter fun a=>(H a).isSome
noncomputable def xh(h:Heap)(H:Hp):Heap:=W.hideAll h (trk h H)
theorem uK(h:Heap)(H:Hp):(xh h H).objs.size=h.objs.size:=W.hideAll_size _ _
theorem xg{h:Heap}{H:Hp}{b:Addr}{o:Obj}(e:h.get? b=some o)(n:H b=none):(xh h H).get? b=some o:=W.hideAll_get _ e fun hm=>by have q:(H b).isSome=true:=(List.mem_filter.mp hm).2;rw[n]at q;simp at q
theorem zM{h:Heap}{H:Hp}{b:Addr}{o:Obj}(e:(xh h H).get? b=some o):h.get? b=some o/\H b=none:=by have e':h.get? b=some o:=W.of_hideAll (trk h H) e;refine⟨e',?_⟩;cases q:H b with|none=>rfl|some x=>have hm:b∈trk h H:=List.mem_filter.mpr ⟨List.mem_range.mpr (Heap.lt_size e'),by simp[q]⟩;have z:(xh h H).get? b=none:=W.hideAll_none (trk h H) hm;rw[z]at e;cases e
noncomputable def aaU(g h:Heap)(L:Addr):List (Addr×Obj):=(List.range h.objs.size).filterMap fun a=>if a=L\/(g.get? a).isSome=true then none else(h.get? a).map fun o=>(a,o)
noncomputable def rest(g h:Heap)(L d:Addr):List (Addr×Obj):=(aaU g h L).filter fun p=>decide (p.1≠d)
end L2
namespace L2
open PySem PySem.Spec PyProof.Rows
structure Mod(K:W.Frag)(mg:Str->Option Value)(base:Heap):Prop where
 kin:K.In base
 glob:base.Ns mainGlobals mg
 blt:∃mb,base.Ns builtinsNs mb/\∀x:Str,x≠"__name__"->mb x=bootBuiltins x
 nolimit:base.NoLimit
structure Cx where
 prog:Program
 w:World
 K:W.Frag
 mg:Str->Option Value
 base:Heap
 A:Around
 N:List Str
 s₀:Shared
 H₀:Hp
 env:Env
 outer:List Env
 stack:List Env
 ex:List Addr
 fn:Str->Bool
 calm:Bool
 pn:List (Addr×Obj)xe:Value->Shared->Prop
noncomputable def frs(l:List Env):List Addr:=l.filterMap (·.frame)
noncomputable abbrev Cx.fs(X:Cx):List Addr:=frs X.outer
noncomputable def Vis(sc:Scope)(x:Str):Prop:=sc.names.lookup x=some .local\/sc.names.lookup x=some .cell\/sc.names.lookup x=some .free
noncomputable def Loc(sc:Scope)(x:Str):Prop:=sc.names.lookup x=some .local\/sc.names.lookup x=some .cell
noncomputable def Look(env:Env)(h:Heap)(m:Str->Option Value)(x:Str)(u:Value):Prop:=(env.kindOf x=some .local/\m x=some u)\/((env.kindOf x=some .cell\/env.kindOf x=some .free)/\∃c,env.cells.lookup x=some c/\h.IsCell c (some u))
structure Cx.Ok(X:Cx):Prop where
 mod:Mod X.K X.mg X.base
 kind:X.env.scope.kind=.function
 glob:X.env.globals=mainGlobals
 blt:X.env.builtins=builtinsNs
 above:X.s₀.heap.objs.size<=X.env.locals
 inj:∀x y c,X.env.cells.lookup x=some c->X.env.cells.lookup y=some c->x=y
 has:∀x,(X.env.kindOf x=some .cell\/X.env.kindOf x=some .free)->∃c,X.env.cells.lookup x=some c
 cab:∀x c,X.fn x=true->X.env.cells.lookup x=some c->X.s₀.heap.objs.size<=c
 hd:X.calm=true->X.A.handled=none
 frames:X.A.frames=some X.stack
 stk:X.stack=X.outer\/(X.stack=X.env::X.outer/\X.env.frame=some X.env.locals)exf:∀b∈X.ex,b≠X.env.locals/\∀x c,X.env.cells.lookup x=some c->c≠b
 bs:∀b o,X.base.get? b=some o->X.s₀.heap.get? b=some o/\X.H₀ b=none
 bsz:X.base.objs.size<=X.s₀.heap.objs.size
 noex:∀b o,X.base.get? b=some o->b∉X.ex
 exfs:∀b∈X.ex,b∉X.fs
 my:X.s₀.heap.FunFrames X.base X.outer
 frf:∀b∈X.fs,X.H₀ b=none
structure Inv(X:Cx)(pins:List (Addr×Obj))(σ:List (Option V))(H:Hp)(s:Shared):Prop where
 ok:X.Ok
 os:s.os=X.s₀.os
 bare:AllBare s.gens
 base:Un X.fs X.ex X.H₀ H X.s₀.heap s.heap
 loc:∃m,s.heap.Ns X.env.locals m/\∀(i:Nat)(x:Str)(v:V),X.N[i]?=some x->σ[i]?=some (some v)->Vis X.env.scope x->∃u,RelV v u/\Look X.env s.heap m x u
 cell:∀x c,X.env.cells.lookup x=some c->∃v,s.heap.IsCell c v
 free:H X.env.locals=none
 freeC:∀x c,X.env.cells.lookup x=some c->H c=none
 pin:∀p∈X.pn++pins,s.heap.get? p.1=some p.2/\H p.1=none/\p.1≠X.env.locals/\p.1∉X.fs/\∀v,p.2.data≠.cell v
 hok:HOk X.prog X.w H s.heap
 len:σ.length=X.N.length
section
variable{X:Cx}{pins:List (Addr×Obj)}{σ:List (Option V)}{H H':Hp}{s:Shared}{h':Heap}
theorem Cx.Ok.ai4(ok:X.Ok){b:Addr}{o:Obj}(e:X.base.get? b=some o):b∉X.fs:=fun hb=>by have:=(ok.my.mem hb).1;rw[e]at this;cases this
theorem Inv.bs(I:Inv X pins σ H s):∀b o,X.base.get? b=some o->s.heap.get? b=some o/\H b=none:=fun b o e=>⟨I.base.keep b o (I.ok.bs b o e).1 (I.ok.bs b o e).2 (I.ok.ai4 e) (I.ok.noex b o e),I.base.free b o (I.ok.bs b o e).1 (I.ok.bs b o e).2 (I.ok.noex b o e)⟩
theorem Inv.bk(I:Inv X pins σ H s):∀b o,X.base.get? b=some o->s.heap.get? b=some o:=fun b o e=>(I.bs b o e).1
theorem Inv.mod(I:Inv X pins σ H s):Mod X.K X.mg X.base:=I.ok.mod
theorem Inv.kIn(I:Inv X pins σ H s):X.K.In s.heap:=I.ok.mod.kin.keeps I.bk
theorem Inv.lt(I:Inv X pins σ H s):X.env.locals<s.heap.objs.size:=let⟨_,hn,_⟩:=I.loc;hn.lt
theorem Inv.sz(I:Inv X pins σ H s):X.s₀.heap.objs.size<=s.heap.objs.size:=Nat.le_trans I.ok.above (Nat.le_of_lt I.lt)
theorem Inv.ai3(I:Inv X pins σ H s){a:Addr}(h:s.heap.objs.size<=a):a∉X.fs:=fun hb=>by obtain⟨_,o,ho,_⟩:=I.ok.my.mem hb;exact absurd (Nat.lt_of_lt_of_le (Heap.lt_size ho) (Nat.le_trans I.sz h)) (Nat.lt_irrefl _)
theorem Inv.cne(I:Inv X pins σ H s):∀x c,X.env.cells.lookup x=some c->c≠X.env.locals:=fun x c e z=>by obtain⟨v,o,ho,hd⟩:=I.cell x c e;obtain⟨m,⟨o',es,ep,ho',hd',_⟩,_⟩:=I.loc;rw[z,ho']at ho;cases ho;rw[hd']at hd;cases hd
theorem Inv.my(I:Inv X pins σ H s):s.heap.FunFrames X.base X.outer:=by
 have all:∀(l:List Env),(∀b∈frs l,b∈X.fs)->X.s₀.heap.FunFrames X.base l->s.heap.FunFrames X.base l:=by intro l;induction l with|nil=>intro _ _;trivial|cons env r ih=>intro hs hl;obtain⟨hk,⟨L,o,hf,hn,ho,hd⟩,hr⟩:=hl;have hL:L∈X.fs:=hs L (by unfold frs;rw[List.filterMap_cons,hf];exact List.mem_cons_self);obtain⟨sl,e⟩:=I.base.slot L o ho (I.ok.frf L hL) hL fun z=>I.ok.exfs L z hL;exact⟨hk,⟨L,_,hf,hn,e,hd⟩,ih (fun b hb=>hs b (by unfold frs;rw[List.filterMap_cons,hf];exact List.mem_cons_of_mem _ hb)) hr⟩
 exact all X.outer (fun _ hb=>hb) I.ok.my
theorem Inv.stack(I:Inv X pins σ H s):s.heap.FunFrames X.base X.stack:=by
 rcases I.ok.stk with e|⟨e,hf⟩;·rw[e];exact I.my
 ·rw[e];obtain⟨m,hn,_⟩:=I.loc;refine .cons (by rw[I.ok.kind];decide) hf hn ?_ I.my;exact Heap.get?_none_of_le (Nat.le_trans I.ok.bsz I.ok.above)
theorem Inv.pf(I:Inv X pins σ H s):∀b∈frs X.stack,b∈X.env.locals::X.fs:=fun b hb=>by
 rcases I.ok.stk with e|⟨e,hf⟩;·rw[e]at hb;exact List.mem_cons_of_mem _ hb
 ·rw[e]at hb;unfold frs at hb;rw[List.filterMap_cons,hf]at hb;exact hb
theorem Inv.nu(I:Inv X pins σ H s):∀b∈frs X.stack,H b=none:=fun b hb=>by
 rcases List.mem_cons.mp (I.pf b hb)with e|hb;·rw[e];exact I.free
 ·obtain⟨_,o,ho,_⟩:=I.ok.my.mem hb;exact I.base.free b o ho (I.ok.frf b hb) fun z=>I.ok.exfs b z hb
theorem Inv.step{g':Array GenState}{t':Nat}{d':Drawn}{ch:List Addr}(I:Inv X pins σ H s)(hch:∀b∈ch,(b∈X.ex\/X.s₀.heap.objs.size<=b)/\b≠X.env.locals/\(∀x c,X.env.cells.lookup x=some c->c≠b)/\∀p∈X.pn++pins,p.1≠b)(keep:∀b o,b≠X.env.locals->b∉X.fs->b∉ch->s.heap.get? b=some o->H b=none->h'.get? b=some o)(slot:∀b o,b≠X.env.locals->b∈X.fs->b∉ch->s.heap.get? b=some o->H b=none->∃sl,h'.get? b=some {o with slots:=sl})(free:∀b o,b∉ch->s.heap.get? b=some o->H b=none->H' b=none)(there:∀b o,b∉ch->s.heap.get? b=some o->∃o',h'.get? b=some o')(tups:∀b xs,H b=some (.tup xs)->H' b=some (.tup xs))(frzs:∀b o u,H b=some (.frz o u)->H' b=some (.frz o u))(tbls:∀b ps,H b=some (.tbl ps)->∃more,H' b=some (.tbl (ps++more)))(ns:∀m,s.heap.Ns X.env.locals m->h'.Ns X.env.locals m)(hok:HOk X.prog X.w H' h')(hg:AllBare g'):Inv X pins σ H' {s with heap:=h',gens:=g',drawn:=d',toks:=t'}:=by
 have neL:∀b o,X.s₀.heap.get? b=some o->b≠X.env.locals:=fun b o e=>Nat.ne_of_lt (Nat.lt_of_lt_of_le (Heap.lt_size e) I.ok.above);have neC:∀b o,X.s₀.heap.get? b=some o->b∉X.ex->b∉ch:=fun b o e hx hb=>by
  rcases(hch b hb).1 with z|z;·exact hx z
  ·exact absurd (Nat.lt_of_lt_of_le (Heap.lt_size e) z) (Nat.lt_irrefl _)
 have cellK:∀x c,X.env.cells.lookup x=some c->∀v,s.heap.IsCell c v->h'.IsCell c v:=fun x c e v⟨o,ho,hd⟩=>by
  have nch:c∉ch:=fun z=>(hch c z).2.2.1 x c e rfl;by_cases hc:c∈X.fs;·obtain⟨sl,q⟩:=slot c o (I.cne x c e) hc nch ho (I.freeC x c e);exact⟨_,q,hd⟩
  ·exact⟨o,keep c o (I.cne x c e) hc nch ho (I.freeC x c e),hd⟩
 refine⟨I.ok,I.os,hg,⟨fun b o e n hb hx=>?_,fun b o e n hb hx=>?_,fun b o e n hx=>?_,fun b o e hx=>?_,fun b xs e=>tups b xs (I.base.tups b xs e),fun b o xs e=>frzs b o xs (I.base.frzs b o xs e),fun b ps e=>?_⟩,?_,fun x c e=>?_,?_,fun x c e=>?_,fun p hp=>?_,hok,I.len⟩;·exact keep b o (neL b o e) hb (neC b o e hx) (I.base.keep b o e n hb hx) (I.base.free b o e n hx)
 ·obtain⟨sl,e1⟩:=I.base.slot b o e n hb hx;obtain⟨sl',e2⟩:=slot b _ (neL b o e) hb (neC b o e hx) e1 (I.base.free b o e n hx);exact⟨sl',e2⟩
 ·obtain⟨o',e1⟩:=I.base.there b o e hx;exact free b o' (neC b o e hx) e1 (I.base.free b o e n hx)
 ·obtain⟨o',e1⟩:=I.base.there b o e hx;exact there b o' (neC b o e hx) e1
 ·obtain⟨m1,e1⟩:=I.base.tbls b ps e;obtain⟨m2,e2⟩:=tbls b _ e1;exact⟨m1++m2,by rw[e2,Array.append_assoc]⟩
 ·obtain⟨m,hn,hl⟩:=I.loc;refine⟨m,ns m hn,fun i x v e1 e2 e3=>?_⟩;obtain⟨u,r,l⟩:=hl i x v e1 e2 e3;refine⟨u,r,?_⟩;rcases l with l|⟨k,c,e,z⟩;·exact .inl l
  ·exact .inr ⟨k,c,e,cellK x c e _ z⟩
 ·obtain⟨v,z⟩:=I.cell x c e;exact⟨v,cellK x c e v z⟩
 ·obtain⟨m,⟨o,_,_,ho,_⟩,_⟩:=I.loc;exact free _ o (fun z=>(hch _ z).2.1 rfl) ho I.free
 ·obtain⟨v,o,ho,hd⟩:=I.cell x c e;exact free c o (fun z=>(hch c z).2.2.1 x c e rfl) ho (I.freeC x c e)
 ·obtain⟨e,n,ne,nf,d⟩:=I.pin p hp;have nch:p.1∉ch:=fun z=>(hch p.1 z).2.2.2 p hp rfl;exact⟨keep p.1 p.2 ne nf nch e n,free p.1 p.2 nch e n,ne,nf,d⟩
theorem Inv.afB{g':Array GenState}{t':Nat}{d':Drawn}{ch:List Addr}(I:Inv X pins σ H s)(hch:∀b∈ch,(b∈X.ex\/X.s₀.heap.get? b=none)/\b≠X.env.locals/\(∀x c,X.env.cells.lookup x=some c->c≠b)/\∀p∈X.pn++pins,p.1≠b)(keep:∀b o,b≠X.env.locals->b∉X.fs->b∉ch->s.heap.get? b=some o->H b=none->h'.get? b=some o)(slot:∀b o,b≠X.env.locals->b∈X.fs->b∉ch->s.heap.get? b=some o->H b=none->∃sl,h'.get? b=some {o with slots:=sl})(free:∀b o,b∉ch->s.heap.get? b=some o->H b=none->H' b=none)(there:∀b o,b∉ch->s.heap.get? b=some o->∃o',h'.get? b=some o')(tups:∀b xs,H b=some (.tup xs)->H' b=some (.tup xs))(frzs:∀b o u,H b=some (.frz o u)->H' b=some (.frz o u))(tbls:∀b ps,H b=some (.tbl ps)->∃more,H' b=some (.tbl (ps++more)))(ns:∀m,s.heap.Ns X.env.locals m->h'.Ns X.env.locals m)(hok:HOk X.prog X.w H' h')(hg:AllBare g'):Inv X pins σ H' {s with heap:=h',gens:=g',drawn:=d',toks:=t'}:=by
 have neL:∀b o,X.s₀.heap.get? b=some o->b≠X.env.locals:=fun b o e=>Nat.ne_of_lt (Nat.lt_of_lt_of_le (Heap.lt_size e) I.ok.above);have neC:∀b o,X.s₀.heap.get? b=some o->b∉X.ex->b∉ch:=fun b o e hx hb=>by
  rcases(hch b hb).1 with z|z;·exact hx z
  ·rw[z]at e;cases e
 have cellK:∀x c,X.env.cells.lookup x=some c->∀v,s.heap.IsCell c v->h'.IsCell c v:=fun x c e v⟨o,ho,hd⟩=>by
  have nch:c∉ch:=fun z=>(hch c z).2.2.1 x c e rfl;by_cases hc:c∈X.fs;·obtain⟨sl,q⟩:=slot c o (I.cne x c e) hc nch ho (I.freeC x c e);exact⟨_,q,hd⟩
  ·exact⟨o,keep c o (I.cne x c e) hc nch ho (I.freeC x c e),hd⟩
 refine⟨I.ok,I.os,hg,⟨fun b o e n hb hx=>?_,fun b o e n hb hx=>?_,fun b o e n hx=>?_,fun b o e hx=>?_,fun b xs e=>tups b xs (I.base.tups b xs e),fun b o xs e=>frzs b o xs (I.base.frzs b o xs e),fun b ps e=>?_⟩,?_,fun x c e=>?_,?_,fun x c e=>?_,fun p hp=>?_,hok,I.len⟩;·exact keep b o (neL b o e) hb (neC b o e hx) (I.base.keep b o e n hb hx) (I.base.free b o e n hx)
 ·obtain⟨sl,e1⟩:=I.base.slot b o e n hb hx;obtain⟨sl',e2⟩:=slot b _ (neL b o e) hb (neC b o e hx) e1 (I.base.free b o e n hx);exact⟨sl',e2⟩
 ·obtain⟨o',e1⟩:=I.base.there b o e hx;exact free b o' (neC b o e hx) e1 (I.base.free b o e n hx)
 ·obtain⟨o',e1⟩:=I.base.there b o e hx;exact there b o' (neC b o e hx) e1
 ·obtain⟨m1,e1⟩:=I.base.tbls b ps e;obtain⟨m2,e2⟩:=tbls b _ e1;exact⟨m1++m2,by rw[e2,Array.append_assoc]⟩
 ·obtain⟨m,hn,hl⟩:=I.loc;refine⟨m,ns m hn,fun i x v e1 e2 e3=>?_⟩;obtain⟨u,r,l⟩:=hl i x v e1 e2 e3;refine⟨u,r,?_⟩;rcases l with l|⟨k,c,e,z⟩;·exact .inl l
  ·exact .inr ⟨k,c,e,cellK x c e _ z⟩
 ·obtain⟨v,z⟩:=I.cell x c e;exact⟨v,cellK x c e v z⟩
 ·obtain⟨m,⟨o,_,_,ho,_⟩,_⟩:=I.loc;exact free _ o (fun z=>(hch _ z).2.1 rfl) ho I.free
 ·obtain⟨v,o,ho,hd⟩:=I.cell x c e;exact free c o (fun z=>(hch c z).2.2.1 x c e rfl) ho (I.freeC x c e)
 ·obtain⟨e,n,ne,nf,d⟩:=I.pin p hp;have nch:p.1∉ch:=fun z=>(hch p.1 z).2.2.2 p hp rfl;exact⟨keep p.1 p.2 ne nf nch e n,free p.1 p.2 nch e n,ne,nf,d⟩
theorem Inv.un{t':Nat}(I:Inv X pins σ H s)(u:Un X.fs [] H H' s.heap h')(hok:HOk X.prog X.w H' h'):Inv X pins σ H' {s with heap:=h',toks:=t'}:=by obtain⟨m,⟨o,es,ep,ho,r⟩,_⟩:=id I.loc;obtain⟨sl,hL⟩:=u.any ho I.free (by simp);exact I.step (g':=s.gens) (d':=s.drawn) (ch:=[]) (fun _ z=>nomatch z) (fun b o _ hb _ e n=>u.keep b o e n hb (by simp)) (fun b o _ hb _ e n=>u.slot b o e n hb (by simp)) (fun b o _ e n=>u.free b o e n (by simp)) (fun b o _ e=>u.there b o e (by simp)) u.tups u.frzs u.tbls (fun m' hm=>by obtain⟨o',es',ep',ho',r'⟩:=hm;rw[ho]at ho';cases ho';exact⟨_,es',ep',hL,r'⟩) hok I.bare
theorem Inv.call{g':Array GenState}{t':Nat}{d':Drawn}{ch:List Addr}(I:Inv X pins σ H s)(u:Un (frs X.stack) ch H H' s.heap h')(hok:HOk X.prog X.w H' h')(hg:AllBare g')(hch:∀b∈ch,(b∈X.ex\/X.s₀.heap.objs.size<=b)/\b≠X.env.locals/\(∀x c,X.env.cells.lookup x=some c->c≠b)/\∀p∈X.pn++pins,p.1≠b):Inv X pins σ H' {s with heap:=h',gens:=g',drawn:=d',toks:=t'}:=by obtain⟨m,⟨o,es,ep,ho,r⟩,_⟩:=id I.loc;obtain⟨sl,hL⟩:=u.any ho I.free fun z=>(hch _ z).2.1 rfl;exact I.step (ch:=ch) hch (fun b o hL hb hc e n=>u.keep b o e n (fun z=>(List.mem_cons.mp (I.pf b z)).elim hL hb) hc) (fun b o _ _ hc e n=>u.any e n hc) (fun b o hc e n=>u.free b o e n hc) (fun b o hc e=>u.there b o e hc) u.tups u.frzs u.tbls (fun m' hm=>by obtain⟨o',es',ep',ho',r'⟩:=hm;rw[ho]at ho';cases ho';exact⟨_,es',ep',hL,r'⟩) hok hg
theorem Inv.turned{t':Nat}{it:Addr}(I:Inv X pins σ H s)(k:∀b o,b≠it->s.heap.get? b=some o->h'.get? b=some o)(hn:H it=none)(hL:it≠X.env.locals)(h1:it∈X.ex\/X.s₀.heap.objs.size<=it)(h2:∀x c,X.env.cells.lookup x=some c->c≠it)(h3:∀p∈X.pn++pins,p.1≠it):Inv X pins σ H {s with heap:=h',toks:=t'}:=by
 have nit:∀b u,H b=some u->b≠it:=fun b u e z=>by rw[z,hn]at e;cases e
 refine I.step (g':=s.gens) (d':=s.drawn) (ch:=[it]) (fun b hb=>?_) (fun b o _ _ hc e _=>k b o (fun z=>hc (by simp[z])) e) (fun b o _ _ hc e _=>⟨o.slots,k b o (fun z=>hc (by simp[z])) e⟩) (fun _ _ _ _ n=>n) (fun b o hc e=>⟨o,k b o (fun z=>hc (by simp[z])) e⟩) (fun _ _ e=>e) (fun _ _ _ e=>e) (fun b ps e=>⟨#[],by rw[e];simp⟩) (fun m hm=>?_) (fun b u e=>?_) I.bare
 ·have e:b=it:=by simpa using hb
  subst e;exact⟨h1,hL,h2,h3⟩
 ·obtain⟨o,es,ep,ho,r⟩:=hm;exact⟨o,es,ep,k _ o (Ne.symm hL) ho,r⟩
 ·refine(I.hok b u e).sO (fun c v hc q=>k c v ?_ q) (fun _ q=>q) fun _ _ q=>q;rcases hc with z|z;·rw[z];exact nit b u e
  ·exact nit c _ z
theorem Inv.tok(I:Inv X pins σ H s)(t:Nat):Inv X pins σ H {s with toks:=t}:=I.un (h':=s.heap) (t':=t) Un.refl I.hok
theorem Inv.kept{t':Nat}(I:Inv X pins σ H s)(k:∀b u,s.heap.get? b=some u->h'.get? b=some u):Inv X pins σ H {s with heap:=h',toks:=t'}:=I.un (Un.kept k) (I.hok.kept k)
theorem Inv.laid{a:Addr}{o:HO}{t':Nat}(I:Inv X pins σ H s)(k:∀b u,s.heap.get? b=some u->h'.get? b=some u)(hp:s.heap.objs.size<=a)(new:bo X.prog X.w (upd H a o) h' a o):Inv X pins σ (upd H a o) {s with heap:=h',toks:=t'}:=I.un (Un.laid k hp (I.hok.fresh hp)) (I.hok.laid k hp new)
theorem Inv.write{x e:Addr}{o:HO}{t':Nat}(I:Inv X pins σ H s)(mu:Mut (H x))(he:e=x\/H e=some (.own x))(k:∀b u,b≠e->s.heap.get? b=some u->h'.get? b=some u)(heo:∃u,h'.get? e=some u)(new:bo X.prog X.w (upd H x o) h' x o):Inv X pins σ (upd H x o) {s with heap:=h',toks:=t'}:=I.un (Un.write mu he k heo) (I.hok.write mu he k heo new)
theorem Inv.eJ{pins':List (Addr×Obj)}(I:Inv X pins σ H s)(h:∀p∈pins',s.heap.get? p.1=some p.2/\H p.1=none/\p.1≠X.env.locals/\p.1∉X.fs/\∀v,p.2.data≠.cell v):Inv X pins' σ H s:=⟨I.ok,I.os,I.bare,I.base,I.loc,I.cell,I.free,I.freeC,fun p hp=>(List.mem_append.mp hp).elim (fun z=>I.pin p (List.mem_append_left _ z)) (h p),I.hok,I.len⟩
theorem pU{N:List Str}(hN:N.Nodup){i j:Nat}{x:Str}(a:N[i]?=some x)(b:N[j]?=some x):i=j:=by obtain⟨h1,e1⟩:=List.getElem?_eq_some_iff.mp a;obtain⟨h2,e2⟩:=List.getElem?_eq_some_iff.mp b;exact(List.getElem_inj hN).mp (e1.trans e2.symm)
theorem sN{M:Model}{A:Around}{E:Value->Shared->Prop}{i:Nat}{x:Str}{v:V}{u:Value}{Q:Unit->Shared->Prop}(I:Inv X pins σ H s)(hN:X.N.Nodup)(hi:X.N[i]?=some x)(hx:Loc X.env.scope x)(r:RelV v u)(h:∀s',Inv X pins (σ.set i (some v)) H s'->(∃a,Heap.SameBut a s.heap s'.heap/\(a=X.env.locals\/X.env.cells.lookup x=some a))->Q () s')(hf:X.fn x=true\/X.env.scope.names.lookup x=some .local:=by first|exact .inl rfl|exact .inr rfl|assumption):wpAny M A (storeName X.env x u) Q E s:=by
 obtain⟨m,hn,hl⟩:=id I.loc;have hcls:(X.env.scope.kind==.class||(X.env.scope.kind==.module&&X.env.locals !=X.env.globals))=false:=by rw[I.ok.kind];rfl
 have hiσ:i<σ.length:=by rw[I.len];exact(List.getElem?_eq_some_iff.mp hi).1
 have cne:=I.cne;have tracked:∀{a:Addr}{h':Heap},(∃o,s.heap.get? a=some o/\H a=none)->Heap.SameBut a s.heap h'->HOk X.prog X.w H h':=fun{a h'}ha hs b ob e=>by
  obtain⟨_,_,hfree⟩:=ha;refine(I.hok b ob e).sO (fun c w' hc q=>(hs.2 c ?_).trans q) (fun _ q=>q) fun _ _ q=>q;rintro rfl;rcases hc with rfl|hc;·rw[hfree]at e;cases e
  ·rw[hfree]at hc;cases hc
 rcases hx with hk|hk
 ·refine wpAny_storeName_local hk hn (fun h' hn' hs=>?_) hcls;obtain⟨oL,_,_,hoL,_⟩:=id hn;refine h _ ⟨I.ok,I.os,I.bare,⟨fun b o e n hb hx=>?_,fun b o e n hb hx=>?_,I.base.free,fun b o e hx=>?_,I.base.tups,I.base.frzs,I.base.tbls⟩,⟨_,hn',fun j y v' e1 e2 e3=>?_⟩,fun y c e=>?_,I.free,I.freeC,fun p hp=>?_,tracked ⟨oL,hoL,I.free⟩ hs,by simpa using I.len⟩ ⟨_,hs,.inl rfl⟩;·exact(hs.2 b (Nat.ne_of_lt (Nat.lt_of_lt_of_le (Heap.lt_size e) I.ok.above))).trans (I.base.keep b o e n hb hx)
  ·obtain⟨sl,e1⟩:=I.base.slot b o e n hb hx;exact⟨sl,(hs.2 b (Nat.ne_of_lt (Nat.lt_of_lt_of_le (Heap.lt_size e) I.ok.above))).trans e1⟩
  ·obtain⟨o',e1⟩:=I.base.there b o e hx;exact⟨o',(hs.2 b (Nat.ne_of_lt (Nat.lt_of_lt_of_le (Heap.lt_size e) I.ok.above))).trans e1⟩
  ·by_cases hj:j=i;·subst hj;rw[hi]at e1;cases e1;rw[List.getElem?_set_self hiσ]at e2;cases e2;exact⟨u,r,.inl ⟨hk,by simp⟩⟩
   ·rw[List.getElem?_set_ne (Ne.symm hj)]at e2;obtain⟨u',r',q⟩:=hl j y v' e1 e2 e3;refine⟨u',r',?_⟩;rcases q with⟨k,e⟩|⟨k,c,e,z⟩;·refine .inl ⟨k,?_⟩;have:y≠x:=fun e=>hj (pU hN e1 (e▸hi));simp[this,e]
    ·exact .inr ⟨k,c,e,z.sameBut hs (cne y c e)⟩
  ·obtain⟨w',z⟩:=I.cell y c e;exact⟨w',z.sameBut hs (cne y c e)⟩
  ·obtain⟨e,n,ne,nf,d⟩:=I.pin p hp;exact⟨(hs.2 p.1 ne).trans e,n,ne,nf,d⟩
 ·have hfn:X.fn x=true:=by
   rcases hf with z|z;·exact z
   ·rw[z]at hk;cases hk
  obtain⟨c,hc⟩:=I.ok.has x (.inl hk);obtain⟨w',z⟩:=I.cell x c hc;refine wpAny_storeName_cell I.ok.kind hk hc z (fun h' hc' hs=>?_);obtain⟨oc,hoc,hocd⟩:=id z;refine h {s with heap:=h'} ⟨I.ok,I.os,I.bare,⟨fun b o e n hb hx=>?_,fun b o e n hb hx=>?_,I.base.free,fun b o e hx=>?_,I.base.tups,I.base.frzs,I.base.tbls⟩,⟨m,hn.sameBut hs (Ne.symm (cne x c hc)),fun j y v' e1 e2 e3=>?_⟩,fun y c' e=>?_,I.free,I.freeC,fun p hp=>?_,tracked ⟨oc,hoc,I.freeC x c hc⟩ hs,by simpa using I.len⟩ ⟨c,hs,.inr hc⟩;·exact(hs.2 b (Nat.ne_of_lt (Nat.lt_of_lt_of_le (Heap.lt_size e) (I.ok.cab x c hfn hc)))).trans (I.base.keep b o e n hb hx)
  ·obtain⟨sl,e1⟩:=I.base.slot b o e n hb hx;exact⟨sl,(hs.2 b (Nat.ne_of_lt (Nat.lt_of_lt_of_le (Heap.lt_size e) (I.ok.cab x c hfn hc)))).trans e1⟩
  ·obtain⟨o',e1⟩:=I.base.there b o e hx;exact⟨o',(hs.2 b (Nat.ne_of_lt (Nat.lt_of_lt_of_le (Heap.lt_size e) (I.ok.cab x c hfn hc)))).trans e1⟩
  ·by_cases hj:j=i;·subst hj;rw[hi]at e1;cases e1;rw[List.getElem?_set_self hiσ]at e2;cases e2;exact⟨u,r,.inr ⟨.inl hk,c,hc,hc'⟩⟩
   ·rw[List.getElem?_set_ne (Ne.symm hj)]at e2;obtain⟨u',r',q⟩:=hl j y v' e1 e2 e3;refine⟨u',r',?_⟩;rcases q with q|⟨k,c',e,z'⟩;·exact .inl q
    ·refine .inr ⟨k,c',e,z'.sameBut hs ?_⟩;rintro rfl;exact hj (pU hN e1 (I.ok.inj _ _ _ e hc▸hi))
  ·by_cases hcc:c'=c;·subst hcc;exact⟨_,hc'⟩
   ·obtain⟨w2,z2⟩:=I.cell y c' e;exact⟨w2,z2.sameBut hs hcc⟩
  ·obtain⟨e,n,ne,nf,d⟩:=I.pin p hp;refine⟨(hs.2 p.1 ?_).trans e,n,ne,nf,d⟩;intro q;rw[q,hoc]at e;have q':oc=p.2:=Option.some.inj e;exact d w' (by rw[<-q'];exact hocd)
theorem ki{M:Model}{A:Around}{E:Value->Shared->Prop}{i:Nat}{x:Str}{v:V}{u:Value}{Q:Unit->Shared->Prop}(I:Inv X pins σ H s)(hN:X.N.Nodup)(hi:X.N[i]?=some x)(hx:Loc X.env.scope x)(r:RelV v u)(h:∀s',Inv X pins (σ.set i (some v)) H s'->Q () s')(hf:X.fn x=true\/X.env.scope.names.lookup x=some .local:=by first|exact .inl rfl|exact .inr rfl|assumption):wpAny M A (storeName X.env x u) Q E s:=sN I hN hi hx r (fun s' I' _=>h s' I') hf
theorem Inv.aaP{s':Shared}{ch:List Addr}(I:Inv X pins σ H s)(ho:s'.os=s.os)(u:Un (frs X.stack) ch H H' s.heap s'.heap)(hok:HOk X.prog X.w H' s'.heap)(hg:AllBare s'.gens)(hch:∀b∈ch,(b∈X.ex\/X.s₀.heap.objs.size<=b)/\b≠X.env.locals/\(∀x c,X.env.cells.lookup x=some c->c≠b)/\∀p∈X.pn++pins,p.1≠b):Inv X pins σ H' s':=by obtain⟨h',g',d',t',o'⟩:=s';have e:o'=s.os:=ho;subst e;exact I.call (g':=g') (t':=t') (d':=d') u hok hg hch
end
noncomputable abbrev XK:=Value->Option Addr->Hp->Prop
noncomputable abbrev St:=List (Option V)
noncomputable abbrev VK:=V->Hp->Prop
noncomputable abbrev TE:=St->Hp->VK->Prop
noncomputable abbrev TT:=St->Hp->(Bool->Hp->Prop)->Prop
noncomputable abbrev TA:=St->Hp->(List V->Hp->Prop)->Prop
structure Ends where
 nx:St->Hp->Prop
 rt:VK
 bk:St->Hp->Prop:=fun _ _=>False
 ct:St->Hp->Prop:=fun _ _=>False
noncomputable abbrev TS:=Ends->St->Hp->Prop
noncomputable def EP(X:Cx)(pins:List (Addr×Obj))(σ:St)(Q:VK)(u:Value)(s':Shared):Prop:=∃v H',Inv X pins σ H' s'/\RelV v u/\Q v H'
noncomputable def TP(X:Cx)(pins:List (Addr×Obj))(σ:St)(Q:Bool->Hp->Prop)(b:Bool)(s':Shared):Prop:=∃H',Inv X pins σ H' s'/\Q b H'
noncomputable def AP(X:Cx)(pins:List (Addr×Obj))(σ:St)(Q:List V->Hp->Prop)(us:List Value)(s':Shared):Prop:=∃vs H',Inv X pins σ H' s'/\Vals vs us/\Q vs H'
noncomputable def SP(X:Cx)(pins:List (Addr×Obj))(D:Ends)(f:Flow)(s':Shared):Prop:=match f with|.next=>∃σ' H',Inv X pins σ' H' s'/\D.nx σ' H'|.brk=>∃σ' H',Inv X pins σ' H' s'/\D.bk σ' H'|.cont=>∃σ' H',Inv X pins σ' H' s'/\D.ct σ' H'|.ret u=>∃v σ' H',Inv X pins σ' H' s'/\RelV v u/\D.rt v H'
noncomputable def PE(X:Cx)(e:Expr)(t:TE):Prop:=∀(pins:List (Addr×Obj))(s:Shared)(σ:St)(H:Hp)(Q:VK),Inv X pins σ H s->t σ H Q->wpAny (model X.prog X.w) X.A (eval e X.env) (EP X pins σ Q) X.xe s
noncomputable def PT(X:Cx)(e:Expr)(t:TT):Prop:=∀(pins:List (Addr×Obj))(s:Shared)(σ:St)(H:Hp)(Q:Bool->Hp->Prop),Inv X pins σ H s->t σ H Q->wpAny (model X.prog X.w) X.A (isTrue e X.env (eval e X.env)) (TP X pins σ Q) X.xe s
noncomputable def PW(X:Cx)(e:Expr)(t:TT):Prop:=∀(whole:Sem Value)(pins:List (Addr×Obj))(s:Shared)(σ:St)(H:Hp)(Q:Bool->Hp->Prop),Inv X pins σ H s->t σ H Q->wpAny (model X.prog X.w) X.A (isTrue e X.env whole) (TP X pins σ Q) X.xe s
theorem PW.pt{X:Cx}{e:Expr}{t:TT}(h:PW X e t):PT X e t:=h _
noncomputable def PA(X:Cx)(es:List Expr)(t:TA):Prop:=∀(pos:Pos)(pins:List (Addr×Obj))(s:Shared)(σ:St)(H:Hp)(Q:List V->Hp->Prop),Inv X pins σ H s->t σ H Q->wpAny (model X.prog X.w) X.A (spliced (backTo pos (starEach es X.env))) (AP X pins σ Q) X.xe s
noncomputable def PS(X:Cx)(st:Stmt)(t:TS):Prop:=∀(pins:List (Addr×Obj))(s:Shared)(σ:St)(H:Hp)(D:Ends),Inv X pins σ H s->t D σ H->wpAny (model X.prog X.w) X.A (exec st X.env) (SP X pins D) X.xe s
noncomputable def PSs(X:Cx)(st:List Stmt)(t:TS):Prop:=∀(pins:List (Addr×Obj))(s:Shared)(σ:St)(H:Hp)(D:Ends),Inv X pins σ H s->t D σ H->wpAny (model X.prog X.w) X.A (execs st X.env) (SP X pins D) X.xe s
theorem thn{α:Type}{t:Sem α}{Q Q':α->Shared->Prop}{M:Model}{A:Around}{E:Value->Shared->Prop}{s:Shared}(h:wpAny M A t Q E s)(hQ:∀a s,Q a s->Q' a s):wpAny M A t Q' E s:=wpAny_mono h hQ fun _ _ x=>x
end L2
namespace L2
open PySem PySem.Spec PyProof.Rows
section
variable{X:Cx}
noncomputable def tVar(i:Nat):TE:=fun σ H Q=>∃v,σ[i]?=some (some v)/\Q v H
noncomputable def tC(v:V):TE:=fun _ H Q=>Q v H
theorem acr{i:Nat}{x:Str}{pos:Pos}(hN:X.N[i]?=some x)(hv:Vis X.env.scope x)(hd:(x==("__debug__":Str))=false:=by decide)(hcd:(x==("__classdict__":Str))=false:=by decide):PE X (.Name x pos) (tVar i):=by
 intro pins s σ H Q I h;obtain⟨v,e,h⟩:=h;obtain⟨m,hn,hl⟩:=I.loc;obtain⟨u,r,l⟩:=hl i x v hN e hv;have fin:EP X pins σ Q u s:=⟨v,H,I,r,h⟩;rcases l with⟨hk,hm⟩|⟨hk,c,hc,hcell⟩;·exact wpAny_Name (wpAny_loadName_local I.ok.kind hk hn hm fin) hd
 ·rcases hk with hk|hk;·exact wpAny_Name (wpAny_loadName_cell I.ok.kind hk hc hcell fin) hd
  ·exact wpAny_Name (wpAny_loadName_free I.ok.kind hk hc hcell fin hcd) hd
theorem pe_int{i j pos}:PE X (.Constant (.int i) j pos) (tC (.int i)):=fun _ _ _ H _ I h=>wpAny_Constant_int ⟨.int i,H,I.tok _,⟨_,rfl⟩,h⟩
theorem af2{b j pos}:PE X (.Constant (.bool b) j pos) (tC (.bl b)):=fun _ _ _ H _ I h=>Constant_bool ⟨.bl b,H,I,rfl,h⟩
theorem acx{j pos}:PE X (.Constant .none j pos) (tC .non):=fun _ _ _ H _ I h=>Constant_none ⟨.non,H,I,rfl,h⟩
theorem yc{x j pos}:PE X (.Constant (.str x) j pos) (tC (.str x)):=fun _ _ _ H _ I h=>Calls.Constant_str ⟨.str x,H,I.tok _,⟨_,rfl⟩,h⟩
noncomputable def Gl(X:Cx)(x:Str):Prop:=X.env.kindOf x=some .globalImplicit
theorem je{E:Value->Shared->Prop}{pins:List (Addr×Obj)}{s:Shared}{σ:St}{H:Hp}{x:Str}{u:Value}{pos:Pos}{Q:Value->Shared->Prop}(I:Inv X pins σ H s)(hg:Gl X x)(hm:X.mg x=some u)(h:Q u s)(hd:(x==("__debug__":Str))=false:=by decide):wpAny (model X.prog X.w) X.A (eval (.Name x pos) X.env) Q E s:=Calls.Name_function_global I.ok.kind hg (Calls.loadGlobal_global (by rw[I.ok.glob];exact I.mod.glob.keeps I.bk) hm h) hd
theorem j3{E:Value->Shared->Prop}{pins:List (Addr×Obj)}{s:Shared}{σ:St}{H:Hp}{x:Str}{u:Value}{pos:Pos}{Q:Value->Shared->Prop}(I:Inv X pins σ H s)(hg:Gl X x)(hm:X.mg x=none)(hv:bootBuiltins x=some u)(h:Q u s)(hn:x≠"__name__":=by decide)(hd:(x==("__debug__":Str))=false:=by decide):wpAny (model X.prog X.w) X.A (eval (.Name x pos) X.env) Q E s:=by obtain⟨mb,h1,h2⟩:=I.mod.blt;exact Calls.Name_function_global I.ok.kind hg (Calls.loadGlobal_builtin (by rw[I.ok.glob];exact I.mod.glob.keeps I.bk) hm (by rw[I.ok.blt];exact h1.keeps I.bk) ((h2 x hn).trans hv) h) hd
theorem zG{x:Str}{v:V}{u:Value}{pos:Pos}(hg:Gl X x)(hm:X.mg x=some u)(r:RelV v u)(hd:(x==("__debug__":Str))=false:=by decide):PE X (.Name x pos) (tC v):=fun _ _ _ H _ I h=>je I hg hm ⟨v,H,I,r,h⟩ hd
theorem zI{x:Str}{v:V}{u:Value}{pos:Pos}(hg:Gl X x)(hm:X.mg x=none)(hv:bootBuiltins x=some u)(r:RelV v u)(hn:x≠"__name__":=by decide)(hd:(x==("__debug__":Str))=false:=by decide):PE X (.Name x pos) (tC v):=fun _ _ _ H _ I h=>j3 I hg hm hv ⟨v,H,I,r,h⟩ hn hd
variable{a b:Expr}{ta tb:TE}{pos:Pos}
noncomputable def PC(X:Cx)(op:CmpOp)(a b:Expr)(t:TE):Prop:=∀(pins:List (Addr×Obj))(s:Shared)(σ:St)(H:Hp)(Q:VK),Inv X pins σ H s->t σ H Q->wpAny (model X.prog X.w) X.A (eval a X.env) (fun v s₁=>wpAny (model X.prog X.w) X.A (eval b X.env) (fun u s₂=>wpAny (model X.prog X.w) X.A (compareOp op v u) (EP X pins σ Q) X.xe s₂) X.xe s₁) X.xe s
noncomputable def tB(t:TE):TT:=fun σ H Q=>t σ H fun x H1=>∃c,x=.bl c/\Q c H1
theorem acf{e:Expr}{t:TE}(h:PE X e t)(he:∀whole,isTrue e X.env whole=(do let v <-whole;standAt e.pos;holding [v] (truthy v)):=by intro _;rfl):PT X e (tB t):=by intro pins s σ H Q I hw;refine isTrue_plain (thn (h pins s σ H _ I hw) fun v s1⟨x,H1,I1,r1,q1⟩=>?_) (he _);obtain⟨d,rfl,q⟩:=q1;cases r1;exact wpAny_truthy_bool ⟨H1,I1,q⟩
variable{tA tB':TT}{rest:List Expr}
noncomputable def kg(t u:TT):TT:=fun σ H Q=>t σ H fun c H1=>if c=true then u σ H1 Q else Q false H1
noncomputable def tOr(t u:TT):TT:=fun σ H Q=>t σ H fun c H1=>if c=true then Q true H1 else u σ H1 Q
noncomputable def rP(t:TT):TT:=fun σ H Q=>t σ H fun c H1=>Q (!c) H1
theorem zy(ha:PT X a tA):PW X (.BoolOp .And [a] pos) tA:=by intro wh pins s σ H Q I h;refine isTrue_and (thn (ha pins s σ H Q I h) fun c s1 e=>?_);cases c with|true=>exact isTrue_and_nil e|false=>exact e
theorem acd(ha:PT X a tA):PW X (.BoolOp .Or [a] pos) tA:=by intro wh pins s σ H Q I h;refine isTrue_or (thn (ha pins s σ H Q I h) fun c s1 e=>?_);cases c with|false=>exact isTrue_or_nil e|true=>exact e
theorem ace(ha:PT X a tA)(hb:PW X (.BoolOp .And (b::rest) pos) tB'):PW X (.BoolOp .And (a::b::rest) pos) (kg tA tB'):=by intro wh pins s σ H Q I h;refine isTrue_and (thn (ha pins s σ H _ I h) fun c s1⟨H1,I1,q1⟩=>?_);cases c with|true=>exact hb wh pins s1 σ H1 Q I1 q1|false=>exact⟨H1,I1,q1⟩
theorem afZ(ha:PT X a tA)(hb:PW X (.BoolOp .Or (b::rest) pos) tB'):PW X (.BoolOp .Or (a::b::rest) pos) (tOr tA tB'):=by intro wh pins s σ H Q I h;refine isTrue_or (thn (ha pins s σ H _ I h) fun c s1⟨H1,I1,q1⟩=>?_);cases c with|true=>exact⟨H1,I1,q1⟩|false=>exact hb wh pins s1 σ H1 Q I1 q1
theorem acg(ha:PT X a tA):PT X (.UnaryOp .Not a pos) (rP tA):=by intro pins s σ H Q I h;exact isTrue_not (ha pins s σ H (fun c H1=>Q (!c) H1) I h)
noncomputable def afw(ta tb:TE):TE:=fun σ H Q=>ta σ H fun x H1=>∃c,x=.bl c/\if c=true then tb σ H1 Q else Q (.bl false) H1
theorem acw{op}{t:TE}(h:PE X a t):PE X (.BoolOp op [a] pos) t:=fun pins s σ H Q I hw=>BoolOp_one (h pins s σ H Q I hw)
theorem acA(ha:PE X a ta)(hb:PE X (.BoolOp .And (b::rest) pos) tb):PE X (.BoolOp .And (a::b::rest) pos) (afw ta tb):=by intro pins s σ H Q I h;refine BoolOp_and (thn (ha pins s σ H _ I h) fun v s1⟨x,H1,I1,r1,q1⟩=>?_);obtain⟨c,rfl,q1⟩:=q1;cases r1;refine wpAny_truthy_bool ?_;cases c with|true=>exact hb pins s1 σ H1 Q I1 q1|false=>exact⟨.bl false,H1,I1,rfl,q1⟩
noncomputable def tIf(t:TT)(ta tb:TE):TE:=fun σ H Q=>t σ H fun c H1=>if c=true then ta σ H1 Q else tb σ H1 Q
theorem wm{c:Expr}(hc:PT X c tA)(ha:PE X a ta)(hb:PE X b tb):PE X (.IfExp c a b pos) (tIf tA ta tb):=by intro pins s σ H Q I h;refine wpAny_IfExp (thn (hc pins s σ H _ I h) fun d s1⟨H1,I1,q1⟩=>?_);cases d with|true=>exact ha pins s1 σ H1 Q I1 q1|false=>exact hb pins s1 σ H1 Q I1 q1
end
end L2
namespace L2
open PySem PySem.Spec PyProof.Rows
noncomputable def SqL(K:W.Frag)(H:Hp)(a:Addr)(xs:List V):Prop:=Rd H a (.lst xs)\/∃(o:Obj)(its:Array Value)(n:Nat),K.lookup a=some o/\o.cls=.type "list"/\o.dict=none/\o.data=.seq its n/\its.size<=sizeLine/\Vals xs its.toList
noncomputable def SqT(K:W.Frag)(H:Hp)(a:Addr)(xs:List V):Prop:=Rd H a (.tup xs)\/∃(o:Obj)(its:Array Value)(n:Nat),K.lookup a=some o/\o.cls=.type "tuple"/\o.data=.seq its n/\its.size<=sizeLine/\Vals xs its.toList
noncomputable def ajg:Value->Option V|.none=>some .non|.bool b=>some (.bl b)|.int i _=>some (.int i)|.str x _=>some (.str x)|.bytes b _=>some (.byt b)|.float b _=>some (.flt b)|.ref a=>some (.ref a)|.type n=>some (.ty n)|_=>none
theorem RelV.abs{x:V}{u:Value}(r:RelV x u):ajg u=some x:=by cases x with|non=>cases r;rfl|bl _=>cases r;rfl|int _=>obtain⟨t,rfl⟩:=r;rfl|str _=>obtain⟨t,rfl⟩:=r;rfl|byt _=>obtain⟨t,rfl⟩:=r;rfl|flt _=>obtain⟨t,rfl⟩:=r;rfl|ref _=>cases r;rfl|ty _=>cases r;rfl
theorem RelV.inj{x y:V}{u:Value}(r:RelV x u)(q:RelV y u):x=y:=Option.some.inj (r.abs.symm.trans q.abs)
theorem Vals.inj:∀{xs ys:List V}{us:List Value},Vals xs us->Vals ys us->xs=ys|_,_,_,.nil,.nil=>rfl|_,_,_,.cons r t,.cons r' t'=>by rw[r.inj r',Vals.inj t t']
section
variable{X:Cx}{pins:List (Addr×Obj)}{σ:St}{H:Hp}{s:Shared}{a:Addr}{xs ys:List V}
theorem SqL.of{K:W.Frag}(h:H a=some (.lst xs)):SqL K H a xs:=.inl (.inl h)
theorem SqT.of{K:W.Frag}(h:H a=some (.tup xs)):SqT K H a xs:=.inl (.inl h)
theorem Inv.list(I:Inv X pins σ H s)(h:SqL X.K H a xs):∃its:List Value,Vals xs its/\PlainL s.heap a its.toArray/\xs.length<=sizeLine:=by
 rcases h with h|⟨o,its,n,hk,hc,hd,hs,hz,r⟩;·obtain⟨z,its,n,r,e⟩:=h.ok I.hok;exact⟨its,r,⟨_,n,e,rfl,rfl,rfl⟩,z⟩
 ·refine⟨its.toList,r,⟨o,n,I.kIn a o hk,hc,hd,by simpa using hs⟩,?_⟩;have e:=r.length;simp only[Array.length_toList]at e;omega
theorem Inv.tuple(I:Inv X pins σ H s)(h:SqT X.K H a xs):∃its:List Value,Vals xs its/\IsTup s.heap a its.toArray/\xs.length<=sizeLine:=by
 rcases h with h|⟨o,its,n,hk,hc,hs,hz,r⟩;·obtain⟨z,its,r,p⟩:=h.ok I.hok;exact⟨its,r,p,z⟩
 ·refine⟨its.toList,r,⟨o,I.kIn a o hk,hc,n,by simpa using hs⟩,?_⟩;have e:=r.length;simp only[Array.length_toList]at e;omega
theorem Inv.pY(I:Inv X pins σ H s)(h:SqL X.K H a xs)(h':SqL X.K H a ys):xs=ys:=by
 obtain⟨its,r,⟨o,n,e,_,_,d⟩,_⟩:=I.list h;obtain⟨its',r',⟨o',n',e',_,_,d'⟩,_⟩:=I.list h';rw[e]at e';cases e';rw[d]at d';injection d' with d1 _;have:its=its':=by simpa using congrArg Array.toList d1
 subst this;exact r.inj r'
theorem Inv.lx(I:Inv X pins σ H s)(h:SqT X.K H a xs)(h':SqT X.K H a ys):xs=ys:=by
 obtain⟨its,r,⟨o,e,_,n,d⟩,_⟩:=I.tuple h;obtain⟨its',r',⟨o',e',_,n',d'⟩,_⟩:=I.tuple h';rw[e]at e';cases e';rw[d]at d';injection d' with d1 _;have:its=its':=by simpa using congrArg Array.toList d1
 subst this;exact r.inj r'
end
noncomputable abbrev Cx.oU(X:Cx)(E:Value->Shared->Prop):Cx:={X with xe:=E}
noncomputable abbrev Cx.nox(X:Cx):Cx:=X.oU fun _ _=>False
theorem Cx.Ok.oU{X:Cx}(ok:X.Ok)(E:Value->Shared->Prop):(X.oU E).Ok:=⟨ok.mod,ok.kind,ok.glob,ok.blt,ok.above,ok.inj,ok.has,ok.cab,ok.hd,ok.frames,ok.stk,ok.exf,ok.bs,ok.bsz,ok.noex,ok.exfs,ok.my,ok.frf⟩
theorem Cx.Ok.gL{X:Cx}{E:Value->Shared->Prop}(ok:(X.oU E).Ok):X.Ok:=⟨ok.mod,ok.kind,ok.glob,ok.blt,ok.above,ok.inj,ok.has,ok.cab,ok.hd,ok.frames,ok.stk,ok.exf,ok.bs,ok.bsz,ok.noex,ok.exfs,ok.my,ok.frf⟩
section
variable{X:Cx}{pins:List (Addr×Obj)}{σ:St}{H:Hp}{s:Shared}{E:Value->Shared->Prop}
theorem Inv.oU(I:Inv X pins σ H s)(E:Value->Shared->Prop):Inv (X.oU E) pins σ H s:=⟨I.ok.oU E,I.os,I.bare,I.base,I.loc,I.cell,I.free,I.freeC,I.pin,I.hok,I.len⟩
theorem Inv.gL(I:Inv (X.oU E) pins σ H s):Inv X pins σ H s:=⟨I.ok.gL,I.os,I.bare,I.base,I.loc,I.cell,I.free,I.freeC,I.pin,I.hok,I.len⟩
theorem SP.gL{D:Ends}{f:Flow}{s':Shared}(h:SP (X.oU E) pins D f s'):SP X pins D f s':=by cases f with|next=>obtain⟨σ',H',I,q⟩:=h;exact⟨σ',H',I.gL,q⟩|brk=>obtain⟨σ',H',I,q⟩:=h;exact⟨σ',H',I.gL,q⟩|cont=>obtain⟨σ',H',I,q⟩:=h;exact⟨σ',H',I.gL,q⟩|ret u=>obtain⟨v,σ',H',I,r,q⟩:=h;exact⟨v,σ',H',I.gL,r,q⟩
theorem PSs.nox{st:List Stmt}{t:TS}(h:PSs X.nox st t):PSs X st t:=fun pins s σ H D I hw=>wpAny_mono (h pins s σ H D (I.oU _) hw) (fun _ _ q=>q.gL) fun _ _ z=>False.elim z
end
section
variable{X:Cx}{st:Stmt}{rest:List Stmt}{t u:TS}{e:Expr}{te:TE}{pos:Pos}
noncomputable def aft:TS:=fun D σ H=>D.nx σ H
noncomputable def ahL(t u:TS):TS:=fun D σ H=>t {D with nx:=u D} σ H
theorem kA:PSs X [] aft:=fun _ _ σ H _ I h=>wpAny_execs_nil ⟨σ,H,I,h⟩
theorem cq(h1:PS X st t)(h2:PSs X rest u):PSs X (st::rest) (ahL t u):=by intro pins s σ H D I h;refine wpAny_execs_cons (thn (h1 pins s σ H {D with nx:=u D} I h) fun f s1 q=>?_);cases f with|next=>obtain⟨σ',H',I',q⟩:=q;exact h2 pins s1 σ' H' D I' q|ret v=>exact q|brk=>exact q|cont=>exact q
theorem gx(h1:PS X st t):PSs X [st] t:=by intro pins s σ H D I h;refine wpAny_execs_cons (thn (h1 pins s σ H D I h) fun f s1 q=>?_);cases f with|next=>exact wpAny_execs_nil q|ret v=>exact q|brk=>exact q|cont=>exact q
theorem Inv.quiet{pins:List (Addr×Obj)}{σ:St}{H:Hp}{s:Shared}(I:Inv X pins σ H s):interactive X.env=false:=by simp[interactive,I.ok.kind]
noncomputable def lB(te:TE):TS:=fun D σ H=>te σ H fun _ H1=>D.nx σ H1
theorem ps_expr(he:PE X e te)(hs:swapsWith e none pos.line X.env=pure false:=by rfl):PS X (.Expr e pos) (lB te):=by intro pins s σ H D I h;exact wpAny_Expr_any (thn (he pins s σ H _ I h) fun v s1⟨x,H1,I1,r1,q1⟩=>⟨σ,H1,I1,q1⟩) I.quiet hs
noncomputable def aiP(te:TE):TS:=fun D σ H=>te σ H D.rt
theorem x8(he:PE X e te):PS X (.Return (some e) pos) (aiP te):=by intro pins s σ H D I h;exact wpAny_Return_some (thn (he pins s σ H _ I h) fun v s1⟨x,H1,I1,r1,q1⟩=>⟨x,σ,H1,I1,r1,q1⟩)
noncomputable def aiR(c:TT)(t u:TS):TS:=fun D σ H=>c σ H fun b H1=>if b=true then t D σ H1 else u D σ H1
theorem v8{c:Expr}{a b:List Stmt}{tc:TT}(hc:PT X c tc)(ha:PSs X a t)(hb:PSs X b u):PS X (.If c a b pos) (aiR tc t u):=by intro pins s σ H D I h;refine wpAny_If (thn (hc pins s σ H _ I h) fun d s1⟨H1,I1,q1⟩=>?_);cases d with|true=>exact ha pins s1 σ H1 D I1 q1|false=>exact hb pins s1 σ H1 D I1 q1
end
noncomputable abbrev TG:=V->St->Hp->(St->Hp->Prop)->Prop
noncomputable abbrev TGs:=List V->St->Hp->(St->Hp->Prop)->Prop
noncomputable def PG(X:Cx)(target:Expr)(t:TG):Prop:=∀(pins:List (Addr×Obj))(s:Shared)(σ:St)(H:Hp)(v:V)(u:Value)(Q:St->Hp->Prop),Inv X pins σ H s->RelV v u->t v σ H Q->wpAny (model X.prog X.w) X.A (assign target X.env u) (fun _ s'=>∃σ' H',Inv X pins σ' H' s'/\Q σ' H') X.xe s
noncomputable def PGs(X:Cx)(ts:List Expr)(t:TGs):Prop:=∀(pins:List (Addr×Obj))(s:Shared)(σ:St)(H:Hp)(vs:List V)(us:List Value)(Q:St->Hp->Prop),Inv X pins σ H s->Vals vs us->t vs σ H Q->wpAny (model X.prog X.w) X.A (assignInOrder ((assignEach ts X.env).map (·.2)) us) (fun _ s'=>∃σ' H',Inv X pins σ' H' s'/\Q σ' H') X.xe s
noncomputable abbrev aji:=V->V->V->Hp->(Hp->Prop)->Prop
noncomputable abbrev TIp:=V->V->Hp->VK->Prop
noncomputable def PIp(X:Cx)(op:Operator)(t:TIp):Prop:=∀(pins:List (Addr×Obj))(s:Shared)(σ:St)(H:Hp)(x y:V)(v u:Value)(Q:VK),Inv X pins σ H s->RelV x v->RelV y u->t x y H Q->wpAny (model X.prog X.w) X.A (inplaceOp op v u) (EP X pins σ Q) X.xe s
section
variable{X:Cx}{pos:Pos}
noncomputable def ay(i:Nat):TG:=fun v σ H Q=>Q (σ.set i (some v)) H
theorem fv{i:Nat}{x:Str}(hN:X.N.Nodup)(hi:X.N[i]?=some x)(hx:Loc X.env.scope x)(hf:X.fn x=true\/X.env.scope.names.lookup x=some .local:=by first|exact .inl rfl|exact .inr rfl|assumption):PG X (.Name x pos) (ay i):=by intro pins s σ H v u Q I r h;exact wpAny_assign_Name (ki I hN hi hx r (fun s' I'=>⟨_,H,I',h⟩) hf)
noncomputable def uP:TGs:=fun vs σ H Q=>vs=[]/\Q σ H
noncomputable def dW(t:TG)(u:TGs):TGs:=fun vs σ H Q=>∃v r,vs=v::r/\t v σ H fun σ' H'=>u r σ' H' Q
theorem nB:PGs X [] uP:=by intro pins s σ H vs us Q I r h;obtain⟨e,h⟩:=h;subst e;cases r;exact assignInOrder_nil ⟨σ,H,I,h⟩
theorem fY{e:Expr}{es:List Expr}{t:TG}{u:TGs}(h1:PG X e t)(h2:PGs X es u)(hs:(assignEach (e::es) X.env).map (·.2)=assign e X.env::(assignEach es X.env).map (·.2):=by rfl):PGs X (e::es) (dW t u):=by intro pins s σ H vs us Q I r h;obtain⟨v,vr,e1,h⟩:=h;subst e1;cases r with|cons r rr=>rw[hs];refine assignInOrder_cons (thn (h1 pins s σ H _ _ _ I r h) fun _ s1⟨σ1,H1,I1,q1⟩=>?_);exact h2 pins s1 σ1 H1 _ _ Q I1 rr q1
noncomputable def vy(K:W.Frag)(n:Nat)(t:TGs):TG:=fun v σ H Q=>∃a xs,v=.ref a/\SqT K H a xs/\xs.length=n/\t xs σ H Q
theorem yb{es:List Expr}{k:Nat}{t:TGs}{n:Nat}(hc:X.calm=true)(h:PGs X es t)(hn:(assignEach es X.env).length=n:=by rfl)(hst:(assignEach es X.env).findIdx? (·.1)=none:=by rfl):PG X (.Tuple es k pos) (vy X.K n t):=by intro pins s σ H v u Q I r hw;obtain⟨a,xs,e1,hq,hl,hw⟩:=hw;subst e1;cases r;obtain⟨its,rv,ht,hz⟩:=I.tuple hq;refine assign_Tuple_tuple (I.ok.hd hc) ht (by simp[hn,<-hl,rv.length]) hst fun h' hx=>?_;have I1:Inv X pins σ H {s with heap:=h'}:=I.kept (t':=s.toks) fun b o e=>hx b o (Nat.ne_of_lt (Heap.lt_size e)) e;exact h pins _ σ H xs _ Q I1 (by simpa using rv) hw
noncomputable def ag1(to ti:TE)(t:aji):TG:=fun v σ H Q=>to σ H fun o H1=>ti σ H1 fun i H2=>t o i v H2 fun H3=>Q σ H3
noncomputable def xY(te:TE)(g:TG):TS:=fun D σ H=>te σ H fun x H1=>g x σ H1 D.nx
theorem tK{tg e:Expr}{te:TE}{g:TG}(he:PE X e te)(hg:PG X tg g)(hs:swapsWithSole [tg] e pos.line X.env=pure false:=by rfl)(hw:swappedStores [tg] e X.env=pure none:=by rfl)(h1:(assignEach [tg] X.env).map (·.2)=[assign tg X.env]:=by rfl):PS X (.Assign [tg] e pos) (xY te g):=by intro pins s σ H D I h;refine wpAny_Assign_stores (thn (he pins s σ H _ I h) fun v s1⟨x,H1,I1,r1,q1⟩=>?_) hs hw;rw[h1];exact thn (hg pins s1 σ H1 x v _ I1 r1 q1) fun _ s2 q=>q
theorem fW{i:Nat}{x:Str}{e:Expr}{te:TE}{pos':Pos}(hN:X.N.Nodup)(hi:X.N[i]?=some x)(hx:Loc X.env.scope x)(he:PE X e te)(hs:swapsWith e (some (.Name x pos')) pos.line X.env=pure false:=by rfl)(hf:X.fn x=true\/X.env.scope.names.lookup x=some .local:=by first|exact .inl rfl|exact .inr rfl|assumption):PS X (.Assign [.Name x pos'] e pos) (xY te (ay i)):=by intro pins s σ H D I h;refine wpAny_Assign_Name (thn (he pins s σ H _ I h) fun v s1⟨y,H1,I1,r1,q1⟩=>?_) hs;exact ki I1 hN hi hx r1 (fun s2 I2=>⟨_,H1,I2,q1⟩) hf
noncomputable def aiV(i:Nat)(te:TE)(ti:TIp):TS:=fun D σ H=>∃x,σ[i]?=some (some x)/\te σ H fun y H1=>ti x y H1 fun z H2=>D.nx (σ.set i (some z)) H2
theorem x9{i:Nat}{x:Str}{e:Expr}{te:TE}{op:Operator}{ti:TIp}{pos':Pos}(hN:X.N.Nodup)(hi:X.N[i]?=some x)(hx:Loc X.env.scope x)(he:PE X e te)(ho:PIp X op ti)(hf:X.fn x=true\/X.env.scope.names.lookup x=some .local:=by first|exact .inl rfl|exact .inr rfl|assumption):PS X (.AugAssign (.Name x pos') op e pos) (aiV i te ti):=by
 intro pins s σ H D I h;obtain⟨v,e1,h⟩:=h;obtain⟨m,hn,hl⟩:=I.loc;have vis:Vis X.env.scope x:=by rcases hx with k|k;exact .inl k;exact .inr (.inl k)
 obtain⟨u,r,l⟩:=hl i x v hi e1 vis;refine wpAny_AugAssign_Name ?_;have go:wpAny (model X.prog X.w) X.A (eval e X.env) (fun w s₂=>wpAny (model X.prog X.w) X.A (inplaceOp op u w) (fun r s₃=>wpAny (model X.prog X.w) X.A (storeName X.env x r) (fun _=>SP X pins D .next) X.xe s₃) X.xe s₂) X.xe s:=by refine thn (he pins s σ H _ I h) fun w s1⟨y,H1,I1,r1,q1⟩=>?_;refine thn (ho pins s1 σ H1 v y u w _ I1 r r1 q1) fun z s2⟨zv,H2,I2,r2,q2⟩=>?_;exact ki I2 hN hi hx r2 (fun s3 I3=>⟨_,H2,I3,q2⟩) hf
 rcases l with⟨hk,hm⟩|⟨hk,c,hc,hcell⟩;·exact wpAny_loadName_local I.ok.kind hk hn hm go
 ·rcases hk with hk|hk;·exact wpAny_loadName_cell I.ok.kind hk hc hcell go
  ·rcases hx with k|k;·have:X.env.scope.names.lookup x=some .free:=hk;rw[k]at this;cases this
   ·have:X.env.scope.names.lookup x=some .free:=hk;rw[k]at this;cases this
noncomputable def ipI(f:Int->Int->Int):TIp:=fun x y H Q=>∃i j,x=.int i/\y=.int j/\Q (.int (f i j)) H
theorem adG:PIp X .Add (ipI fun i j=>i+j):=by intro pins s σ H x y v u Q I r1 r2 h;obtain⟨i,j,e1,e2,q⟩:=h;subst e1;subst e2;obtain⟨t,rfl⟩:=r1;obtain⟨t',rfl⟩:=r2;exact iadd_int ⟨.int _,H,I.tok _,⟨_,rfl⟩,q⟩
theorem adF:PIp X .Sub (ipI fun i j=>i-j):=by intro pins s σ H x y v u Q I r1 r2 h;obtain⟨i,j,e1,e2,q⟩:=h;subst e1;subst e2;obtain⟨t,rfl⟩:=r1;obtain⟨t',rfl⟩:=r2;exact isub_int ⟨.int _,H,I.tok _,⟨_,rfl⟩,q⟩
end
section
variable{X:Cx}{pos:Pos}
noncomputable def abC(c:TT)(tb:TS):TS:=fun D σ H=>∃W:Nat->St->Hp->Prop,(∃m,W m σ H)/\∀m σ H,W m σ H->c σ H fun b H1=>if b=true then∃N:St->Hp->Prop,(∀σ' H',N σ' H'->∃m',m'<m/\W m' σ' H')/\tb {D with nx:=N,ct:=N,bk:=D.nx} σ H1 else D.nx σ H1
theorem pE{c:Expr}{body:List Stmt}{tc:TT}{tb:TS}(hp:PassesOwn (model X.prog X.w) X.A X.env X.xe)(hc:PT X c tc)(hb:PSs X body tb):PS X (.While c body [] pos) (abC tc tb):=by intro pins s σ H D I h;obtain⟨W,⟨m0,w0⟩,turn⟩:=h;refine wpAny_While (codeAny_whileLoop (fun n s'=>∃σ' H',Inv X pins σ' H' s'/\W n σ' H') ?_ m0 ⟨σ,H,I,w0⟩);rintro n s1⟨σ1,H1,I1,w1⟩;refine wpAny_passesOwn hp (thn (hc pins s1 σ1 H1 _ I1 (turn n σ1 H1 w1)) fun b s2⟨H2,I2,q2⟩=>?_);cases b with
|true=>obtain⟨N,hN,q2⟩:=q2;rw[if_pos rfl];refine wpAny_passesOwn hp (thn (hb pins s2 σ1 H2 _ I2 q2) fun f s3 q3=>?_);cases f with|next=>obtain⟨σ3,H3,I3,n3⟩:=q3;obtain⟨m',hm,w3⟩:=hN σ3 H3 n3;exact⟨m',hm,σ3,H3,I3,w3⟩|cont=>obtain⟨σ3,H3,I3,n3⟩:=q3;obtain⟨m',hm,w3⟩:=hN σ3 H3 n3;exact⟨m',hm,σ3,H3,I3,w3⟩|brk=>exact q3|ret v=>exact q3
|false=>rw[if_neg Bool.false_ne_true];exact wpAny_execs_nil ⟨σ1,H2,I2,q2⟩
end
structure It where
 go:Nat->Hp->Prop
 yld:Nat->Hp->V->Hp->Prop
 stop:Nat->Hp->Prop
noncomputable def vq(X:Cx)(pins:List (Addr×Obj))(H:Hp)(b:Addr):Prop:=H b=none/\b≠X.env.locals/\b∉X.fs/\(b∈X.ex\/X.s₀.heap.objs.size<=b)/\(∀x c,X.env.cells.lookup x=some c->c≠b)/\∀p∈X.pn++pins,p.1≠b
theorem Inv.adP{X:Cx}{pins:List (Addr×Obj)}{σ:St}{H H':Hp}{s:Shared}{b:Addr}(I:Inv X pins σ H s)(hb:s.heap.objs.size<=b)(hn:H' b=none):vq X pins H' b:=by
 refine⟨hn,Nat.ne_of_gt (Nat.lt_of_lt_of_le I.lt hb),I.ai3 hb,.inr (Nat.le_trans I.sz hb),fun x c e z=>?_,fun p hp z=>?_⟩;·obtain⟨v,q⟩:=I.cell x c e;exact absurd (Nat.lt_of_lt_of_le q.lt (by rw[z];exact hb)) (Nat.lt_irrefl _)
 ·exact absurd (Nat.lt_of_lt_of_le (Heap.lt_size (I.pin p hp).1) (by rw[z];exact hb)) (Nat.lt_irrefl _)
structure Turn(P:Program)(w:World)(K:W.Frag)(tg:Expr)(J:It)(fp:List Addr)(it:Addr)(tn:Nat->Heap->Prop)(cl:Cx->Hp->Prop:=fun X _=>X.calm=true):Prop where
 mem:it∈fp
 obj:∀i h,tn i h->∀b∈fp,∃o,h.get? b=some o/\∀v,o.data≠.cell v
 keep:∀i h h',tn i h->(∀b∈fp,∀o,h.get? b=some o->h'.get? b=some o)->tn i h'
 item:∀(X:Cx),X.prog=P->X.w=w->X.K=K->∀(i:Nat)(pins:List (Addr×Obj))(s:Shared)(σ:St)(H:Hp)(E:Value->Shared->Prop),cl X H->Inv X pins σ H s->(∀b∈fp,vq X pins H b)->tn i s.heap->J.go i H->wpAny (model P w) X.A (pyNext (.ref it)) (fun r s1=>∃u,r=some u/\wpAny (model P w) X.A (letOwnedTupleGo tg (.ref it) u) (fun _ s2=>∃x H',Inv X pins σ H' s2/\RelV x u/\J.yld i H x H'/\tn (i+1) s2.heap/\∀b∈fp,H' b=none) E s1) E s
 done:∀(X:Cx),X.prog=P->X.w=w->X.K=K->∀(i:Nat)(pins:List (Addr×Obj))(s:Shared)(σ:St)(H:Hp)(E:Value->Shared->Prop),cl X H->Inv X pins σ H s->(∀b∈fp,vq X pins H b)->tn i s.heap->J.stop i H->wpAny (model P w) X.A (pyNext (.ref it)) (fun r s1=>r=none/\Inv X pins σ H s1) E s
 self:∀(A:Around)(i:Nat)(s:Shared)(Q:Value->Shared->Prop)(E:Value->Shared->Prop),tn i s.heap->Q (.ref it) s->wpAny (model P w) A (pyIter (.ref it)) Q E s
noncomputable abbrev TI:=St->Hp->(It->Hp->Prop)->Prop
noncomputable def PIE(X:Cx)(pins:List (Addr×Obj))(σ:St)(tg:Expr)(R:It->Hp->Prop)(itv:Value)(s2:Shared):Prop:=∃(it:Addr)(fp:List Addr)(tn:Nat->Heap->Prop)(J:It)(H':Hp),itv=.ref it/\Inv X pins σ H' s2/\Turn X.prog X.w X.K tg J fp it tn/\tn 0 s2.heap/\(∀b∈fp,vq X pins H' b)/\R J H'
noncomputable def PI(X:Cx)(tg iter:Expr)(wi:TI):Prop:=∀(pins:List (Addr×Obj))(s:Shared)(σ:St)(H:Hp)(R:It->Hp->Prop),Inv X pins σ H s->wi σ H R->wpAny (model X.prog X.w) X.A (eval iter X.env) (fun v s1=>wpAny (model X.prog X.w) X.A (pyIter v) (PIE X pins σ tg R) X.xe s1) X.xe s
theorem ri{M:Model}{A:Around}{E:Value->Shared->Prop}{s:Shared}{tg:Expr}{it:Addr}{u:Value}{o:Obj}{n:String}{vs:Array Value}{Q:Unit->Shared->Prop}(ho:s.heap.get? it=some o)(hc:o.cls=.type n)(hd:o.data=.fields vs)(hn:["enumerate","zip","dict_itemiterator","dict_reverseitemiterator","odict_iterator","itertools.zip_longest","itertools.pairwise"].contains n=false)(hQ:Q () s):wpAny M A (letOwnedTupleGo tg (.ref it) u) Q E s:=by unfold letOwnedTupleGo;cases tg<;>first|exact wpAny_pure hQ|(cases u<;>first|exact wpAny_pure hQ| (refine wpAny_bind (wpAny_load ho ?_);rw[hc,hd];show wpAny M A (if(["enumerate","zip","dict_itemiterator","dict_reverseitemiterator","odict_iterator","itertools.zip_longest","itertools.pairwise"].contains n&&vs[0]?==some (rawInt _))=true then _ else _) Q E s;rw[if_neg (by intro h;rw[hn,Bool.false_and]at h;cases h)];exact wpAny_pure hQ))
noncomputable def Itl(K:W.Frag)(a:Addr):It:=⟨fun i H=>∃xs x,SqL K H a xs/\xs[i]?=some x,fun i H x H'=>H'=H/\∀xs,SqL K H a xs->xs[i]?=some x,fun i H=>∃xs,SqL K H a xs/\xs.length<=i⟩
noncomputable def Itt(K:W.Frag)(a:Addr):It:=⟨fun i H=>∃xs x,SqT K H a xs/\xs[i]?=some x,fun i H x H'=>H'=H/\∀xs,SqT K H a xs->xs[i]?=some x,fun i H=>∃xs,SqT K H a xs/\xs.length<=i⟩
noncomputable def Itr(lo:Int)(n:Nat):It:=⟨fun i _=>i<n,fun i H x H'=>H'=H/\x=.int (lo+i),fun i _=>n<=i⟩
theorem sG{P:Program}{w:World}{K:W.Frag}{tg:Expr}(a it:Addr):Turn P w K tg (Itl K a) [it] it (fun i h=>h.IsListIter it a i)where
 mem:=by simp
 obj:=fun i h st b hb=>by
  have e:b=it:=by simpa using hb
  subst e;obtain⟨o,e,c,d⟩:=st;exact⟨o,e,fun v z=>by rw[d]at z;cases z⟩
 keep:=fun i h h' st k=>st.at fun o e=>k it (by simp) o e;item:=by intro X hP hw hK i pins s σ H E hc I hf st hg;subst hP hw hK;obtain⟨xs,x,hq,hx⟩:=hg;obtain⟨its,rv,p,hz⟩:=I.list hq;obtain⟨u,hu,ru⟩:=rv.get hx;obtain⟨f0,f1,f2,f3,f4,f5⟩:=hf it (by simp);refine wpAny_pyNext_list_item st p.isList (x:=u) (by simpa using hu) fun h' st' sb=>?_;have I1:Inv X pins σ H {s with heap:=h'}:=I.turned (t':=s.toks) (fun b o hb e=>(sb.2 b hb).trans e) f0 f1 f3 f4 f5;obtain⟨o,e,c,d⟩:=id st';exact⟨u,rfl,ri (s:={s with heap:=h'}) e c d (by decide) ⟨x,H,I1,ru,⟨rfl,fun ys hy=>by rw[I.pY hy hq];exact hx⟩,st',fun b hb=>(hf b hb).1⟩⟩
 done:=by intro X hP hw hK i pins s σ H E hc I hf st hg;subst hP hw hK;obtain⟨xs,hq,hx⟩:=hg;obtain⟨its,rv,p,hz⟩:=I.list hq;obtain⟨f0,f1,f2,f3,f4,f5⟩:=hf it (by simp);have hl:=rv.length;exact wpAny_pyNext_list_end (I.ok.hd hc) st p.isList (by simp;omega) fun h' eb=>⟨rfl,I.turned (t':=s.toks) (fun b o hb e=>eb b o hb e) f0 f1 f3 f4 f5⟩
 self:=fun _ _ _ _ _ st h=>wpAny_pyIter_listiter st h
theorem qA{P:Program}{w:World}{K:W.Frag}{tg:Expr}(a it:Addr):Turn P w K tg (Itt K a) [it] it (fun i h=>h.IsTupleIter it a i)where
 mem:=by simp
 obj:=fun i h st b hb=>by
  have e:b=it:=by simpa using hb
  subst e;obtain⟨o,e,c,d⟩:=st;exact⟨o,e,fun v z=>by rw[d]at z;cases z⟩
 keep:=fun i h h' st k=>st.at fun o e=>k it (by simp) o e;item:=by intro X hP hw hK i pins s σ H E hc I hf st hg;subst hP hw hK;obtain⟨xs,x,hq,hx⟩:=hg;obtain⟨its,rv,p,hz⟩:=I.tuple hq;obtain⟨u,hu,ru⟩:=rv.get hx;obtain⟨f0,f1,f2,f3,f4,f5⟩:=hf it (by simp);refine wpAny_pyNext_tuple_item st (show s.heap.IsTuple a its.toArray from p) (x:=u) (by simpa using hu) fun h' st' sb=>?_;have I1:Inv X pins σ H {s with heap:=h'}:=I.turned (t':=s.toks) (fun b o hb e=>(sb.2 b hb).trans e) f0 f1 f3 f4 f5;obtain⟨o,e,c,d⟩:=id st';exact⟨u,rfl,ri (s:={s with heap:=h'}) e c d (by decide) ⟨x,H,I1,ru,⟨rfl,fun ys hy=>by rw[I.lx hy hq];exact hx⟩,st',fun b hb=>(hf b hb).1⟩⟩
 done:=by intro X hP hw hK i pins s σ H E hc I hf st hg;subst hP hw hK;obtain⟨xs,hq,hx⟩:=hg;obtain⟨its,rv,p,hz⟩:=I.tuple hq;obtain⟨f0,f1,f2,f3,f4,f5⟩:=hf it (by simp);have hl:=rv.length;exact wpAny_pyNext_tuple_end (I.ok.hd hc) st (show s.heap.IsTuple a its.toArray from p) (by simp;omega) fun h' eb=>⟨rfl,I.turned (t':=s.toks) (fun b o hb e=>eb b o hb e) f0 f1 f3 f4 f5⟩
 self:=fun _ _ _ _ _ st h=>wpAny_pyIter_tupleiter st h
theorem qB{P:Program}{w:World}{K:W.Frag}{tg:Expr}(it:Addr)(lo:Int)(n:Nat):Turn P w K tg (Itr lo n) [it] it (fun i h=>IsRangeIter h it (lo+(i:Nat)*1) ((n:Int)-(i:Nat)) 1)where
 mem:=by simp
 obj:=fun i h st b hb=>by
  have e:b=it:=by simpa using hb
  subst e;exact⟨_,st,fun v z=>by have z':Data.fields _=Data.cell v:=z;cases z'⟩
 keep:=fun i h h' st k=>k it (by simp) _ st;item:=by intro X hP hw hK i pins s σ H E hc I hf st hg;subst hP hw hK;obtain⟨f0,f1,f2,f3,f4,f5⟩:=hf it (by simp);have W:=Walks.range (prog:=X.prog) (w:=X.w) (I.ok.hd hc) it lo 1 n;refine W.item i s _ _ hg st fun v h' tk hv st' kk=>?_;obtain⟨t,rfl⟩:=hv;have I1:Inv X pins σ H {s with heap:=h',toks:=tk}:=I.turned (fun b o hb e=>kk b o (by simpa using hb) e) f0 f1 f3 f4 f5;refine⟨_,rfl,ri (s:={s with heap:=h',toks:=tk}) (n:="range_iterator") st' rfl rfl (by decide) ⟨.int (lo+i),H,I1,⟨t,?_⟩,⟨rfl,rfl⟩,st',fun b hb=>(hf b hb).1⟩⟩;rw[Int.mul_one]
 done:=by intro X hP hw hK i pins s σ H E hc I hf st hg;subst hP hw hK;obtain⟨f0,f1,f2,f3,f4,f5⟩:=hf it (by simp);exact wpAny_pyNext_range_end (I.ok.hd hc) st (by have:n<=i:=hg;omega) fun h' eb=>⟨rfl,I.turned (t':=s.toks) (fun b o hb e=>eb b o hb e) f0 f1 f3 f4 f5⟩
 self:=fun _ _ _ _ _ st h=>wpAny_pyIter_rangeiter st h
end L2
namespace L2
open PySem PySem.Spec PyProof.Rows
section
variable{X:Cx}{tg:Expr}
theorem pB{pins:List (Addr×Obj)}{σ:St}{H:Hp}{s:Shared}{R:It->Hp->Prop}{E:Value->Shared->Prop}{lo hi:Int}{t u v:Tok}{tk:Nat}(I:Inv X pins σ H s)(h1:-(2^62)<=lo)(h2:lo<2^62)(h3:-(2^62)<=hi)(h4:hi<2^62)(q:R (Itr lo (hi-lo).toNat) H):wpAny (model X.prog X.w) X.A (pyIter (.ref s.heap.objs.size)) (PIE X pins σ tg R) E {s with heap:=s.heap.push {cls:=.type "range",data:=.fields #[.int lo t,.int hi u,.int 1 v]},toks:=tk}:=by
 refine wpAny_pyIter_range (IsRange.new ..) (small_one h1 h2 h3 h4) ?_;have I1:Inv X pins σ H {s with heap:=s.heap.push {cls:=.type "range",data:=.fields #[.int lo t,.int hi u,.int 1 v]},toks:=tk}:=I.kept fun b o e=>Heap.get?_push_of_some _ e;refine⟨(s.heap.push {cls:=.type "range",data:=.fields #[.int lo t,.int hi u,.int 1 v]}).objs.size,[(s.heap.push {cls:=.type "range",data:=.fields #[.int lo t,.int hi u,.int 1 v]}).objs.size],_,_,H,rfl,I1.kept (t':=tk) fun b o e=>Heap.get?_push_of_some _ e,qB _ lo (hi-lo).toNat,?_,fun b hb=>?_,q⟩
 ·have e1:lo+((0:Nat):Int)*1=lo:=by simp
  have e2:(((hi-lo).toNat:Nat):Int)-((0:Nat):Int)=Builtin.Range.rangeSize lo hi 1:=by rw[rangeSize_one];split<;>omega
  show IsRangeIter _ _ (lo+((0:Nat):Int)*1) ((((hi-lo).toNat:Nat):Int)-((0:Nat):Int)) 1;rw[e1,e2];exact Heap.get?_push_size _ rfl
 ·have e:b=(s.heap.push {cls:=.type "range",data:=.fields #[.int lo t,.int hi u,.int 1 v]}).objs.size:=by simpa using hb
  subst e;exact I1.adP (Nat.le_refl _) (I1.hok.fresh (Nat.le_refl _))
noncomputable def n4(ta:TA):TI:=fun σ H R=>ta σ H fun vs H1=>∃j:Int,vs=[.int j]/\-(2^62)<=j/\j<2^62/\R (Itr 0 j.toNat) H1
noncomputable def nZ(ta:TA):TI:=fun σ H R=>ta σ H fun vs H1=>∃i j:Int,vs=[.int i,.int j]/\(-(2^62)<=i/\i<2^62/\-(2^62)<=j/\j<2^62)/\R (Itr i (j-i).toNat) H1
theorem lS{a:Expr}{ta:TA}{p pos:Pos}(hg:Gl X "range")(hm:X.mg "range"=none)(ha:PA X [a] ta)(hs:starEach [a] X.env=[(false,eval a X.env)]:=by rfl):PI X tg (.Call (.Name "range" p) [a] [] pos) (n4 ta):=by intro pins s σ H R I h;refine Call_ (j3 I hg hm boot_range (PyProof.Rows.callWith_type1 (thn (ha pos pins s σ H _ I h) fun us s1⟨vs,H1,I1,r1,q1⟩=>?_) hs rfl));obtain⟨j,e,q1,q2,q⟩:=q1;subst e;cases r1 with|cons r rr=>cases rr;obtain⟨t,rfl⟩:=r;exact call_range_1 (pB I1 (by omega) (by omega) q1 q2 (by simpa using q))
theorem tQ{a b:Expr}{ta:TA}{p pos:Pos}(hg:Gl X "range")(hm:X.mg "range"=none)(ha:PA X [a,b] ta)(hs:starEach [a,b] X.env=[(false,eval a X.env),(false,eval b X.env)]:=by rfl)(hs2:starEach [b] X.env=[(false,eval b X.env)]:=by rfl):PI X tg (.Call (.Name "range" p) [a,b] [] pos) (nZ ta):=by intro pins s σ H R I h;refine Call_ (j3 I hg hm boot_range (PyProof.Rows.callWith_type1 (thn (ha pos pins s σ H _ I h) fun us s1⟨vs,H1,I1,r1,q1⟩=>?_) (by rw[hs,hs2]) (by rw[hs2];rfl)));obtain⟨i,j,e,⟨q1,q2,q3,q4⟩,q⟩:=q1;subst e;cases r1 with|cons r rr=>cases rr with|cons r' rr=>cases rr;obtain⟨t,rfl⟩:=r;obtain⟨t',rfl⟩:=r';exact call_range_2 (pB I1 q1 q2 q3 q4 q)
noncomputable def ahN(wi:TI)(g:TG)(tb:TS):TS:=fun D σ H=>wi σ H fun J H1=>∃W:Nat->Nat->St->Hp->Prop,(∃m,W 0 m σ H1)/\∀i m σ H,W i m σ H->(J.stop i H/\D.nx σ H)\/(J.go i H/\∃N:St->Hp->Prop,(∀σ' H',N σ' H'->∃m',m'<m/\W (i+1) m' σ' H')/\∀x H',J.yld i H x H'->g x σ H' fun σ2 H2=>tb {D with nx:=N,ct:=N,bk:=D.nx} σ2 H2)
noncomputable def lR(fp:List Addr)(h:Heap):List (Addr×Obj):=fp.filterMap fun b=>(h.get? b).map fun o=>(b,o)
theorem eZ{fp:List Addr}{h:Heap}{b:Addr}{o:Obj}(hb:b∈fp)(e:h.get? b=some o):(b,o)∈lR fp h:=List.mem_filterMap.mpr ⟨b,hb,by rw[e];rfl⟩
theorem t7{fp:List Addr}{h:Heap}{p:Addr×Obj}(hp:p∈lR fp h):p.1∈fp/\h.get? p.1=some p.2:=by obtain⟨b,hb,e⟩:=List.mem_filterMap.mp hp;cases q:h.get? b with|none=>rw[q]at e;cases e|some o=>rw[q]at e;have e':(b,o)=p:=Option.some.inj e;subst e';exact⟨hb,q⟩
theorem Inv.pinned{pins:List (Addr×Obj)}{σ:St}{H:Hp}{s:Shared}{fp:List Addr}(I:Inv X pins σ H s)(hf:∀b∈fp,vq X pins H b)(ho:∀b∈fp,∃o,s.heap.get? b=some o/\∀v,o.data≠.cell v):Inv X (pins++lR fp s.heap) σ H s:=I.eJ fun p hp=>(List.mem_append.mp hp).elim (fun z=>I.pin p (List.mem_append_right _ z)) fun z=>by obtain⟨hb,e⟩:=t7 z;obtain⟨f0,f1,f2,_⟩:=hf p.1 hb;obtain⟨o,e',d⟩:=ho p.1 hb;rw[e]at e';cases e';exact⟨e,f0,f1,f2,d⟩
theorem Inv.ke{pins pl:List (Addr×Obj)}{σ:St}{H:Hp}{s:Shared}(I:Inv X (pins++pl) σ H s):Inv X pins σ H s:=I.eJ fun p hp=>I.pin p (List.mem_append_right _ (List.mem_append_left _ hp))
theorem pG{iter:Expr}{body:List Stmt}{wi:TI}{g:TG}{tb:TS}{pos:Pos}(hp:PassesOwn (model X.prog X.w) X.A X.env X.xe)(hc:X.calm=true)(hi:PI X tg iter wi)(hg:PG X tg g)(hb:PSs X body tb)(hs:∀x,foldedSetIterable iter X.env x=pure x:=by intro _;rfl):PS X (.For tg iter body [] pos) (ahN wi g tb):=by
 intro pins s σ H D I h;refine wpAny_For (thn (hi pins s σ H _ I h) fun v s1 h1=>thn h1 fun itv s2 h2=>?_) hs;obtain⟨it,fp,tn,J,H2,e,I2,T,st2,f2,W,⟨m0,w0⟩,turn⟩:=h2;subst e;-- what stays true of the iterator's objects through the loop
 have stat:∀{H':Hp},(∀b∈fp,H' b=none)->∀b∈fp,vq X pins H' b:=fun hn b hb=>⟨hn b hb,(f2 b hb).2⟩;refine codeAny_forLoop_any (fun n s'=>∃i σ' H',Inv X pins σ' H' s'/\tn i s'.heap/\(∀b∈fp,H' b=none)/\W i n σ' H') ?_ m0 ⟨0,σ,H2,I2,st2,fun b hb=>(f2 b hb).1,w0⟩;rintro n s3⟨i,σ3,H3,I3,st3,fr3,w3⟩;rcases turn i n σ3 H3 w3 with⟨stop,qn⟩|⟨go,N,hN,step⟩;·refine wpAny_passesOwn hp (thn (T.done X rfl rfl rfl i pins s3 σ3 H3 X.xe hc I3 (stat fr3) st3 stop) fun r s4⟨hr,I4⟩=>?_);subst hr;exact wpAny_execs_nil ⟨σ3,H3,I4,qn⟩
 ·refine wpAny_passesOwn hp (thn (T.item X rfl rfl rfl i pins s3 σ3 H3 X.xe hc I3 (stat fr3) st3 go) fun r s4⟨u,hr,h4⟩=>?_);subst hr;refine wpAny_passesOwn hp (thn h4 fun _ s5⟨x,H5,I5,r5,y5,st5,fr5⟩=>?_);have I5':=I5.pinned (stat fr5) (T.obj _ _ st5);refine wpAny_passesOwn hp (thn (hg _ s5 σ3 H5 x u _ I5' r5 (step x H5 y5)) fun _ s6⟨σ6,H6,I6,q6⟩=>?_);refine wpAny_passesOwn hp (thn (hb _ s6 σ6 H6 _ I6 q6) fun f s7 q7=>?_);have again:∀{σ7:St}{H7:Hp},Inv X (pins++lR fp s5.heap) σ7 H7 s7->N σ7 H7->∃m,m<n/\∃i σ' H',Inv X pins σ' H' s7/\tn i s7.heap/\(∀b∈fp,H' b=none)/\W i m σ' H':=fun{σ7 H7}I7 n7=>by obtain⟨m',hm,w7⟩:=hN σ7 H7 n7;refine⟨m',hm,i+1,σ7,H7,I7.ke,T.keep _ _ _ st5 fun b hb o e=>(I7.pin (b,o) (List.mem_append_right _ (List.mem_append_right _ (eZ hb e)))).1,fun b hb=>?_,w7⟩;obtain⟨o,e,d⟩:=T.obj _ _ st5 b hb;exact(I7.pin (b,o) (List.mem_append_right _ (List.mem_append_right _ (eZ hb e)))).2.1
  cases f with|next=>obtain⟨σ7,H7,I7,n7⟩:=q7;exact again I7 n7|cont=>obtain⟨σ7,H7,I7,n7⟩:=q7;exact again I7 n7|brk=>obtain⟨σ7,H7,I7,q7⟩:=q7;exact⟨σ7,H7,I7.ke,q7⟩|ret v=>obtain⟨x7,σ7,H7,I7,r7,q7⟩:=q7;exact⟨x7,σ7,H7,I7.ke,r7,q7⟩
end
theorem uR{lo:Int}{n:Nat}{g:TG}{tb:TS}{D:Ends}{σ:St}{H:Hp}(Pv:Nat->St->Hp->Prop)(h0:Pv 0 σ H)(hs:∀i σ H,i<n->Pv i σ H->g (.int (lo+i)) σ H fun σ2 H2=>tb {D with nx:=Pv (i+1),ct:=Pv (i+1),bk:=D.nx} σ2 H2)(hd:∀σ H,Pv n σ H->D.nx σ H):∃W:Nat->Nat->St->Hp->Prop,(∃m,W 0 m σ H)/\∀i m σ H,W i m σ H->((Itr lo n).stop i H/\D.nx σ H)\/((Itr lo n).go i H/\∃N:St->Hp->Prop,(∀σ' H',N σ' H'->∃m',m'<m/\W (i+1) m' σ' H')/\∀x H',(Itr lo n).yld i H x H'->g x σ H' fun σ2 H2=>tb {D with nx:=N,ct:=N,bk:=D.nx} σ2 H2):=by
 refine⟨fun i m σ H=>m=n-i/\i<=n/\Pv i σ H,⟨n,by simp,Nat.zero_le _,h0⟩,?_⟩;rintro i m σ H⟨rfl,hi,p⟩;by_cases hlt:i<n;·refine .inr ⟨hlt,Pv (i+1),fun σ' H' p'=>⟨n-(i+1),by omega,rfl,hlt,p'⟩,fun x H' y=>?_⟩;obtain⟨e,y⟩:=y;subst e y;exact hs i σ _ hlt p
 ·have e:i=n:=by omega
  subst e;exact .inl ⟨Nat.le_refl _,hd σ H p⟩
end L2
namespace L2
open PySem PySem.Spec PyProof.Rows
noncomputable abbrev R2:=V->V->Hp->VK->Prop
noncomputable def OpR(X:Cx)(f:Value->Value->Sem Value)(r:R2):Prop:=∀(pins:List (Addr×Obj))(s:Shared)(σ:St)(H:Hp)(x y:V)(v u:Value)(Q:VK),Inv X pins σ H s->RelV x v->RelV y u->r x y H Q->wpAny (model X.prog X.w) X.A (f v u) (EP X pins σ Q) X.xe s
noncomputable def UnR(X:Cx)(f:Value->Sem Value)(r:V->Hp->VK->Prop):Prop:=∀(pins:List (Addr×Obj))(s:Shared)(σ:St)(H:Hp)(x:V)(v:Value)(Q:VK),Inv X pins σ H s->RelV x v->r x H Q->wpAny (model X.prog X.w) X.A (f v) (EP X pins σ Q) X.xe s
noncomputable def bz(X:Cx)(f:Value)(r:List V->Hp->VK->Prop):Prop:=∀(pins:List (Addr×Obj))(s:Shared)(σ:St)(H:Hp)(xs:List V)(us:List Value)(Q:VK),Inv X pins σ H s->Vals xs us->r xs H Q->wpAny (model X.prog X.w) X.A (call f us) (EP X pins σ Q) X.xe s
noncomputable def ajh(X:Cx)(r:V->Hp->(Bool->Hp->Prop)->Prop):Prop:=∀(pins:List (Addr×Obj))(s:Shared)(σ:St)(H:Hp)(x:V)(v:Value)(Q:Bool->Hp->Prop),Inv X pins σ H s->RelV x v->r x H Q->wpAny (model X.prog X.w) X.A (truthy v) (TP X pins σ Q) X.xe s
noncomputable def tOp(r:R2)(ta tb:TE):TE:=fun σ H Q=>ta σ H fun x H1=>tb σ H1 fun y H2=>r x y H2 Q
noncomputable def tUn(r:V->Hp->VK->Prop)(ta:TE):TE:=fun σ H Q=>ta σ H fun x H1=>r x H1 Q
noncomputable def rI(C:Int->Int->Prop)(g:Int->Int->V):R2:=fun x y H Q=>∃i j,x=.int i/\y=.int j/\C i j/\Q (g i j) H
noncomputable def rI0(g:Int->Int->V):R2:=fun x y H Q=>∃i j,x=.int i/\y=.int j/\Q (g i j) H
noncomputable def rU(g:Int->V):V->Hp->VK->Prop:=fun x H Q=>∃i,x=.int i/\Q (g i) H
section
variable{X:Cx}{a b c:Expr}{ta tb tc:TE}{pos:Pos}
theorem ahu(ha:PE X a ta)(hb:PE X b tb){pins:List (Addr×Obj)}{s:Shared}{σ:St}{H:Hp}{R:V->V->Hp->Prop}(I:Inv X pins σ H s)(h:ta σ H fun x H1=>tb σ H1 fun y H2=>R x y H2){Q:Value->Shared->Prop}{f:Value->Value->Sem Value}(hf:∀v u s2 x y H2,Inv X pins σ H2 s2->RelV x v->RelV y u->R x y H2->wpAny (model X.prog X.w) X.A (f v u) Q X.xe s2):wpAny (model X.prog X.w) X.A (eval a X.env) (fun v s₁=>wpAny (model X.prog X.w) X.A (eval b X.env) (fun u s₂=>wpAny (model X.prog X.w) X.A (f v u) Q X.xe s₂) X.xe s₁) X.xe s:=by refine thn (ha pins s σ H _ I h) fun v s1⟨x,H1,I1,r1,q1⟩=>?_;refine thn (hb pins s1 σ H1 _ I1 q1) fun u s2⟨y,H2,I2,r2,q2⟩=>?_;exact hf v u s2 x y H2 I2 r1 r2 q2
theorem acv{op:Operator}{r:R2}(ho:OpR X (binaryOp op) r)(ha:PE X a ta)(hb:PE X b tb):PE X (.BinOp a op b pos) (tOp r ta tb):=by intro pins s σ H Q I h;exact wpAny_BinOp (ahu ha hb I h fun v u s2 x y H2 I2 rx ry q=>ho pins s2 σ H2 x y v u Q I2 rx ry q)
theorem af0{op:UnaryOp}{r:V->Hp->VK->Prop}(ho:UnR X (unaryOp op) r)(ha:PE X a ta):PE X (.UnaryOp op a pos) (tUn r ta):=by intro pins s σ H Q I h;exact UnaryOp_ (thn (ha pins s σ H _ I h) fun v s1⟨x,H1,I1,r1,q1⟩=>ho pins s1 σ H1 x v Q I1 r1 q1)
theorem opI{f:Value->Value->Sem Value}{C:Int->Int->Prop}{g:Int->Int->Int}(rule:∀(i j:Int)(t u:Tok)(s:Shared)(Q:Value->Shared->Prop)(E:Value->Shared->Prop),C i j->Q (.int (g i j) s.toks) {s with toks:=s.toks+1}->wpAny (model X.prog X.w) X.A (f (.int i t) (.int j u)) Q E s):OpR X f (rI C fun i j=>.int (g i j)):=by intro pins s σ H x y v u Q I rx ry h;obtain⟨i,j,rfl,rfl,hc,q⟩:=h;obtain⟨t,rfl⟩:=rx;obtain⟨t',rfl⟩:=ry;exact rule i j t t' s _ _ hc ⟨.int (g i j),H,I.tok _,⟨_,rfl⟩,q⟩
theorem ai1{f:Value->Value->Sem Value}{g:Int->Int->Int}(rule:∀(i j:Int)(t u:Tok)(s:Shared)(Q:Value->Shared->Prop)(E:Value->Shared->Prop),Q (.int (g i j) s.toks) {s with toks:=s.toks+1}->wpAny (model X.prog X.w) X.A (f (.int i t) (.int j u)) Q E s):OpR X f (rI0 fun i j=>.int (g i j)):=by intro pins s σ H x y v u Q I rx ry h;obtain⟨i,j,rfl,rfl,q⟩:=h;obtain⟨t,rfl⟩:=rx;obtain⟨t',rfl⟩:=ry;exact rule i j t t' s _ _ ⟨.int (g i j),H,I.tok _,⟨_,rfl⟩,q⟩
theorem af9{f:Value->Value->Sem Value}{g:Int->Int->Bool}(rule:∀(i j:Int)(t u:Tok)(s:Shared)(Q:Value->Shared->Prop)(E:Value->Shared->Prop),Q (.bool (g i j)) s->wpAny (model X.prog X.w) X.A (f (.int i t) (.int j u)) Q E s):OpR X f (rI0 fun i j=>.bl (g i j)):=by intro pins s σ H x y v u Q I rx ry h;obtain⟨i,j,rfl,rfl,q⟩:=h;obtain⟨t,rfl⟩:=rx;obtain⟨t',rfl⟩:=ry;exact rule i j t t' s _ _ ⟨.bl (g i j),H,I,rfl,q⟩
noncomputable def ahG(i j:Int):Prop:=(-(2^64)<i/\i<2^64)\/(-(2^64)<j/\j<2^64)
theorem ahG.ok{i j:Int}(h:ahG i j):IntMulOk i j:=by
 rcases h with⟨h1,h2⟩|⟨h1,h2⟩;·exact .of_left (intBits_le_64 h1 h2)
 ·exact .of_right (intBits_le_64 h1 h2)
theorem acK:OpR X (binaryOp .Add) (rI0 fun i j=>.int (i+j)):=ai1 fun _ _ _ _ _ _ _ q=>add_int q
theorem acE:OpR X (binaryOp .Mult) (rI ahG fun i j=>.int (i*j)):=opI fun _ _ _ _ _ _ _ hc q=>mul_int q hc.ok
theorem acF:OpR X (binaryOp .Mod) (rI (fun _ j=>0<j) fun i j=>.int (i%j)):=opI fun i j _ _ _ _ _ hc q=>by have h1:(0:Int)<j:=hc;exact mod_int' (by omega) (by rw[Int.fmod_eq_emod_of_nonneg i (by omega)];exact q)
theorem unI{f:Value->Sem Value}{g:Int->Int}(rule:∀(i:Int)(t:Tok)(s:Shared)(Q:Value->Shared->Prop)(E:Value->Shared->Prop),Q (.int (g i) s.toks) {s with toks:=s.toks+1}->wpAny (model X.prog X.w) X.A (f (.int i t)) Q E s):UnR X f (rU fun i=>.int (g i)):=by intro pins s σ H x v Q I rx h;obtain⟨i,rfl,q⟩:=h;obtain⟨t,rfl⟩:=rx;exact rule i t s _ _ ⟨.int (g i),H,I.tok _,⟨_,rfl⟩,q⟩
theorem abw:UnR X (unaryOp .USub) (rU fun i=>.int (-i)):=unI fun _ _ _ _ _ q=>neg_int q
end
noncomputable def ael:V->V->Bool|.non,.non=>true|.non,.int _=>true|.int _,.non=>true|.non,.bl _=>true|.bl _,.non=>true|.non,.str _=>true|.str _,.non=>true|.int _,.int _=>true|.bl _,.bl _=>true|.str _,.str _=>true|.byt _,.byt _=>true|.int _,.str _=>true|.str _,.int _=>true|.bl _,.str _=>true|.str _,.bl _=>true|_,_=>false
noncomputable def rEq:R2:=fun x y H Q=>ael x y=true/\Q (.bl (decide (x=y))) H
noncomputable def rNe:R2:=fun x y H Q=>ael x y=true/\Q (.bl (!decide (x=y))) H
theorem u3{i j:Int}:decide (V.int i=V.int j)=(i==j):=by rw[Bool.eq_iff_iff];simp
theorem yz{i j:Bool}:decide (V.bl i=V.bl j)=(i==j):=by rw[Bool.eq_iff_iff];simp
theorem u0{i j:Str}:decide (V.str i=V.str j)=(i==j):=by rw[Bool.eq_iff_iff];simp
theorem u4{i j:Array UInt8}:decide (V.byt i=V.byt j)=(i.toList==j.toList):=by rw[Bool.eq_iff_iff];cases i;cases j;simp
section
variable{X:Cx}{a b c:Expr}{ta tb tc:TE}{pos:Pos}
theorem aG{pins:List (Addr×Obj)}{σ:St}{H:Hp}{s:Shared}{Q:VK}{k k':Bool}(I:Inv X pins σ H s)(q:Q (.bl k) H)(e:k=k'):EP X pins σ Q (.bool k') s:=by subst e;exact⟨.bl k,H,I,rfl,q⟩
theorem af8:OpR X (compareOp .Eq) rEq:=by intro pins s σ H x y v u Q I rx ry h;obtain⟨hs,q⟩:=h;cases x with
|non=>cases rx;cases y with|non=>cases ry;exact PySem.EqNone.eq_none_none (aG I q (by simp))|bl j=>cases ry;exact PySem.EqNone.eq_none_bool (aG I q (by simp))|int j=>obtain⟨t',rfl⟩:=ry;exact PySem.EqNone.eq_none_int (aG I q (by simp))|str j=>obtain⟨t',rfl⟩:=ry;exact PySem.EqNone.eq_none_str (aG I q (by simp))|_=>exact absurd (show false=true from hs) Bool.false_ne_true
|bl i=>cases rx;cases y with|non=>cases ry;exact PySem.EqNone.eq_bool_none (aG I q (by simp))|bl j=>cases ry;exact eq_bool (aG I q yz)|str j=>obtain⟨t',rfl⟩:=ry;exact PySem.EqMixed.eq_bool_str (aG I q (by simp))|_=>exact absurd (show false=true from hs) Bool.false_ne_true
|int i=>obtain⟨t,rfl⟩:=rx;cases y with|non=>cases ry;exact PySem.EqNone.eq_int_none (aG I q (by simp))|int j=>obtain⟨t',rfl⟩:=ry;exact eq_int (aG I q u3)|str j=>obtain⟨t',rfl⟩:=ry;exact PySem.EqMixed.eq_int_str (aG I q (by simp))|_=>exact absurd (show false=true from hs) Bool.false_ne_true
|str i=>obtain⟨t,rfl⟩:=rx;cases y with|non=>cases ry;exact PySem.EqNone.eq_str_none (aG I q (by simp))|bl j=>cases ry;exact PySem.EqMixed.eq_str_bool (aG I q (by simp))|int j=>obtain⟨t',rfl⟩:=ry;exact PySem.EqMixed.eq_str_int (aG I q (by simp))|str j=>obtain⟨t',rfl⟩:=ry;exact eq_str (aG I q u0)|_=>exact absurd (show false=true from hs) Bool.false_ne_true
|byt i=>obtain⟨t,rfl⟩:=rx;cases y with|byt j=>obtain⟨t',rfl⟩:=ry;exact W.eq_bytes (aG I q u4)|_=>exact absurd (show false=true from hs) Bool.false_ne_true
|_=>cases y<;>exact absurd (show false=true from hs) Bool.false_ne_true
theorem af4:OpR X (compareOp .NotEq) rNe:=by intro pins s σ H x y v u Q I rx ry h;obtain⟨hs,q⟩:=h;cases x with
|non=>cases rx;cases y with|non=>cases ry;exact PySem.EqNone.ne_none_none (aG I q (by simp))|bl j=>cases ry;exact PySem.EqNone.ne_none_bool (aG I q (by simp))|int j=>obtain⟨t',rfl⟩:=ry;exact PySem.EqNone.ne_none_int (aG I q (by simp))|str j=>obtain⟨t',rfl⟩:=ry;exact PySem.EqNone.ne_none_str (aG I q (by simp))|_=>exact absurd (show false=true from hs) Bool.false_ne_true
|bl i=>cases rx;cases y with|non=>cases ry;exact PySem.EqNone.ne_bool_none (aG I q (by simp))|bl j=>cases ry;exact ne_bool (aG I q (congrArg not yz))|str j=>obtain⟨t',rfl⟩:=ry;exact PySem.EqMixed.ne_bool_str (aG I q (by simp))|_=>exact absurd (show false=true from hs) Bool.false_ne_true
|int i=>obtain⟨t,rfl⟩:=rx;cases y with|non=>cases ry;exact PySem.EqNone.ne_int_none (aG I q (by simp))|int j=>obtain⟨t',rfl⟩:=ry;exact ne_int (aG I q (congrArg not u3))|str j=>obtain⟨t',rfl⟩:=ry;exact PySem.EqMixed.ne_int_str (aG I q (by simp))|_=>exact absurd (show false=true from hs) Bool.false_ne_true
|str i=>obtain⟨t,rfl⟩:=rx;cases y with|non=>cases ry;exact PySem.EqNone.ne_str_none (aG I q (by simp))|bl j=>cases ry;exact PySem.EqMixed.ne_str_bool (aG I q (by simp))|int j=>obtain⟨t',rfl⟩:=ry;exact PySem.EqMixed.ne_str_int (aG I q (by simp))|str j=>obtain⟨t',rfl⟩:=ry;exact ne_str (aG I q (congrArg not u0))|_=>exact absurd (show false=true from hs) Bool.false_ne_true
|byt i=>obtain⟨t,rfl⟩:=rx;cases y with|byt j=>obtain⟨t',rfl⟩:=ry;exact W.ne_bytes (aG I q (congrArg not u4))|_=>exact absurd (show false=true from hs) Bool.false_ne_true
|_=>cases y<;>exact absurd (show false=true from hs) Bool.false_ne_true
theorem af5:OpR X (compareOp .Lt) (rI0 fun i j=>.bl (decide (i<j))):=af9 fun _ _ _ _ _ _ _ q=>lt_int q
theorem af6:OpR X (compareOp .LtE) (rI0 fun i j=>.bl (decide (i<=j))):=af9 fun _ _ _ _ _ _ _ q=>le_int q
theorem af7:OpR X (compareOp .Gt) (rI0 fun i j=>.bl (decide (j<i))):=af9 fun _ _ _ _ _ _ _ q=>gt_int q
theorem tY:OpR X (compareOp .In) (fun x y H Q=>∃i j,x=.str i/\y=.str j/\Q (.bl (!(Builtin.Str.occurrences j i 0 j.length 1).isEmpty)) H):=by intro pins s σ H x y v u Q I rx ry h;obtain⟨i,j,rfl,rfl,q⟩:=h;obtain⟨t,rfl⟩:=rx;obtain⟨t',rfl⟩:=ry;exact in_str (aG I q rfl)
theorem acG:OpR X (compareOp .Is) (fun x y H Q=>y=.non/\Q (.bl (decide (x=.non))) H):=by intro pins s σ H x y v u Q I rx ry h;obtain⟨rfl,q⟩:=h;cases ry;refine is_none_gen (aG I q ?_);cases x<;>first|(cases rx;rfl)|(obtain⟨t,rfl⟩:=rx;rfl)
theorem OpR.or{f:Value->Value->Sem Value}{r r':R2}(h:OpR X f r)(h':OpR X f r'):OpR X f (fun x y H Q=>r x y H Q\/r' x y H Q):=by
 intro pins s σ H x y v u Q I rx ry q;rcases q with q|q;·exact h pins s σ H x y v u Q I rx ry q
 ·exact h' pins s σ H x y v u Q I rx ry q
theorem bR(b:Expr){op:CmpOp}(h:op≠.In:=by decide)(h2:op≠.NotIn:=by decide):behindInMarks op b=false:=by
 have e1:(op==CmpOp.In)=false:=by cases op<;>first|rfl|exact absurd rfl h
 have e2:(op==CmpOp.NotIn)=false:=by cases op<;>first|rfl|exact absurd rfl h2
 cases b<;>simp[behindInMarks,e1,e2]
theorem zH{op:CmpOp}{r:R2}(ho:OpR X (compareOp op) r)(ha:PE X a ta)(hb:PE X b tb)(hm:behindInMarks op b=false):PE X (.Compare a [op] [b] pos) (tOp r ta tb):=by intro pins s σ H Q I h;exact wpAny_Compare1 (ahu ha hb I h fun v u s2 x y H2 I2 rx ry q=>ho pins s2 σ H2 x y v u Q I2 rx ry q) hm
noncomputable def zd(t:TE):TT:=fun σ H Q=>t σ H fun x H'=>∃k,x=.bl k/\Q k H'
theorem zB{op:CmpOp}{r:R2}(ho:OpR X (compareOp op) r)(ha:PE X a ta)(hb:PE X b tb)(hm:behindInMarks op b=false):PT X (.Compare a [op] [b] pos) (zd (tOp r ta tb)):=by intro pins s σ H Q I h;refine wpAny_isTrue_Compare1 (thn (ha pins s σ H _ I h) fun v s1⟨x,H1,I1,r1,q1⟩=>thn (hb pins s1 σ H1 _ I1 q1) fun u s2⟨y,H2,I2,r2,q2⟩=>thn (ho pins s2 σ H2 x y v u _ I2 r1 r2 q2) fun c s3⟨z,H3,I3,r3,k,e,q3⟩=>?_) hm;subst e;cases r3;exact wpAny_truthy_bool ⟨H3,I3,q3⟩
noncomputable def xW(r r':R2)(ta tb tc:TE):TE:=fun σ H Q=>ta σ H fun x H1=>tb σ H1 fun y H2=>r x y H2 fun z H3=>∃k,z=.bl k/\(if k=true then tc σ H3 fun w' H4=>r' y w' H4 Q else Q (.bl false) H3)
theorem v7{op op':CmpOp}{r r':R2}(ho:OpR X (compareOp op) r)(ho':OpR X (compareOp op') r')(ha:PE X a ta)(hb:PE X b tb)(hc:PE X c tc)(hm:lastMarks [op,op'] [b,c]=false:=by with_unfolding_all rfl):PT X (.Compare a [op,op'] [b,c] pos) (zd (xW r r' ta tb tc)):=by intro pins s σ H Q I h;refine isTrue_chain (thn (ha pins s σ H _ I h) fun v s1⟨x,H1,I1,r1,q1⟩=>test_link (thn (hb pins s1 σ H1 _ I1 q1) fun u s2⟨y,H2,I2,r2,q2⟩=>thn (ho pins s2 σ H2 x y v u _ I2 r1 r2 q2) fun d s3⟨z,H3,I3,r3,k,e,q3⟩=>?_)) hm;subst e;cases r3;refine wpAny_truthy_bool ?_;cases k with|false=>obtain⟨k',e',q'⟩:=q3;cases e';exact ite_ff ⟨H3,I3,q'⟩|true=>refine ite_tt (test_last (thn (hc pins s3 σ H3 _ I3 q3) fun w' s4⟨z',H4,I4,r4,q4⟩=>thn (ho' pins s4 σ H4 y z' u w' _ I4 r2 r4 q4) fun d' s5⟨z2,H5,I5,r5,k2,e2,q5⟩=>?_));subst e2;cases r5;exact wpAny_truthy_bool ⟨H5,I5,q5⟩
noncomputable def aiH(K:W.Frag)(x:V)(H:Hp)(k:Bool):Prop:=match x with|.non=>k=false|.bl b=>k=b|.int i=>k=(i !=0)|.str y=>y.length<=sizeLine/\k=((y.length:Int)!=0)|.byt y=>y.size<=sizeLine/\k=((y.size:Int)!=0)|.ref p=>(∃xs,SqL K H p xs/\k=!xs.isEmpty)\/(∃xs,SqT K H p xs/\k=!xs.isEmpty)\/∃kvs,H p=some (.dK kvs)/\k=!kvs.isEmpty|_=>False
theorem rf{κ:Type}{kvs:List (κ×V)}{vs:List (κ×Value)}(r:KV kvs vs):(!vs.isEmpty)=!kvs.isEmpty:=by cases r<;>rfl
theorem j7{xs:List V}{its:List Value}(r:Vals xs its):(!its.toArray.isEmpty)=!xs.isEmpty:=by cases r<;>simp
theorem j1:(sizeLine:Nat)<2^63:=by rw[sizeLine_eq];decide
theorem abx:ajh X (fun x H Q=>∃k,aiH X.K x H k/\Q k H):=by intro pins s σ H x v Q I rx h;obtain⟨k,e,q⟩:=h;have hl:=j1;have hs:sizeLine=16777216:=sizeLine_eq;cases x with|non=>cases rx;have e':k=false:=e;subst e';exact truthy_none ⟨H,I,q⟩|bl b=>cases rx;have e':k=b:=e;subst e';exact wpAny_truthy_bool ⟨H,I,q⟩|int i=>obtain⟨t,rfl⟩:=rx;have e':k=(i !=0):=e;subst e';exact PySem.P.truthy_int ⟨H,I,q⟩|str y=>obtain⟨t,rfl⟩:=rx;obtain⟨hy,e'⟩:y.length<=sizeLine/\k=((y.length:Int)!=0):=e;subst e';exact PySem.P.truthy_str (by omega) ⟨H,I.tok _,q⟩|byt y=>obtain⟨t,rfl⟩:=rx;obtain⟨hy,e'⟩:y.size<=sizeLine/\k=((y.size:Int)!=0):=e;subst e';exact W.truthy_bytes (by omega) ⟨H,I.tok _,q⟩|ref p=>
 cases rx;have e':(∃xs,SqL X.K H p xs/\k=!xs.isEmpty)\/(∃xs,SqT X.K H p xs/\k=!xs.isEmpty)\/∃kvs,H p=some (.dK kvs)/\k=!kvs.isEmpty:=e;rcases e' with⟨xs,hx,e'⟩|⟨xs,hx,e'⟩|⟨kvs,hx,e'⟩;·subst e';obtain⟨its,r,pl,hz⟩:=I.list hx;have hlen:=r.length;exact wpAny_truthy_list pl.isList (by simp only[List.size_toArray];omega) ⟨H,I.tok _,by rw[j7 r];exact q⟩
 ·subst e';obtain⟨its,r,pl,hz⟩:=I.tuple hx;have hlen:=r.length;exact truthy_tuple pl (by simp only[List.size_toArray];omega) ⟨H,I.tok _,by rw[j7 r];exact q⟩
 ·subst e';obtain⟨hz,hS,vs,r,m⟩:kvs.length<=sizeLine/\(p==sysModules)=false/\∃vs,KV kvs vs/\s.heap.DictOf (bf X.prog X.w) p vs:=I.hok p _ hx;have hlen:kvs.length=vs.length:=Paired.length r;exact wpAny_truthy_dict hS m (by omega) ⟨H,I.tok _,by rw[rf r];exact q⟩|_=>exact(show False from e).elim
theorem vZ(ha:PE X a ta)(he:∀whole,isTrue a X.env whole=(do let v <-whole;standAt a.pos;holding [v] (truthy v))):PT X a (fun σ H Q=>ta σ H fun x H'=>∃k,aiH X.K x H' k/\Q k H'):=by intro pins s σ H Q I h;exact isTrue_plain (thn (ha pins s σ H _ I h) fun v s1⟨x,H1,I1,r1,q1⟩=>abx pins s1 σ H1 x v Q I1 r1 q1) (he _)
theorem vals1{x:V}{us:List Value}(r:Vals [x] us):∃u,us=[u]/\RelV x u:=by cases r with|cons r1 r2=>cases r2;exact⟨_,rfl,r1⟩
theorem vals2{x y:V}{us:List Value}(r:Vals [x,y] us):∃u w',us=[u,w']/\RelV x u/\RelV y w':=by cases r with|cons r1 r2=>cases r2 with|cons r3 r4=>cases r4;exact⟨_,_,rfl,r1,r3⟩
end
end L2
namespace L2
open PySem PySem.Spec PyProof.Rows
structure ObjM(h:Heap)(x dx C:Addr)(mA:Str->Option Value):Prop where
 obj:h.get? x=some (W.instObj C dx)ns:h.Ns1 dx mA
 ne:dx≠x
theorem uo{h:Heap}{dx:Addr}{mA:Str->Option Value}(n:h.Ns1 dx mA):∃od,h.get? dx=some od/\∀name,W.lookIn name od=some (mA name):=by
 obtain⟨o,es,ep,ho,hd,hk,_,hm⟩:=n;refine⟨o,ho,fun name=>?_⟩;have e:=hm name;unfold nsFind findBy at e;rw[<-Array.find?_toList]at e;unfold W.lookIn;rw[hd];dsimp only;split;·rename_i y q;rw[q]at e;exact congrArg some e
 ·rename_i q;rw[q]at e;have a:es.toList.any (·.refKey)=false:=by rw[List.any_eq_false];intro y hy;obtain⟨z,t,hkey⟩:=hk y (Array.mem_toList_iff.mp hy);simp[DictEntry.refKey,hkey]
  have a':¬es.toList.any (·.refKey)=true:=by rw[a];exact Bool.false_ne_true
  rw[if_neg a'];exact congrArg some e
theorem ObjM.look{h:Heap}{x dx C:Addr}{mA:Str->Option Value}(I:ObjM h x dx C mA):∃od,W.InstAt h x (W.instObj C dx) C (some od)/\∀name,W.lookIn name od=some (mA name):=let⟨od,ho,hl⟩:=uo I.ns;⟨od,⟨I.obj,rfl,rfl,ho⟩,hl⟩
section
variable{prog:Program}{w:World}{A:Around}{E:Value->Shared->Prop}{s:Shared}{K:W.Frag}{x dx C f:Addr}{mA:Str->Option Value}{name:Str}{v:Value}
theorem get_map{expr:Bool}{Q:Value->Shared->Prop}(X:K.In s.heap)(I:ObjM s.heap x dx C mA)(hg:W.plainGet K C name=true)(hh:W.hasDictIn K C=true)(ha:W.findIn K (.ref C) name=some none)(hv:mA name=some v)(hv':W.handedIn v=true)(h:Q v {s with toks:=s.toks+1}):wpAny (model prog w) A (getAttr (.ref x) name expr) Q E s:=by obtain⟨od,J,hl⟩:=I.look;exact W.get_value X J (W.plainGet_of hg).1 (W.findObj_own hh ha rfl (by rw[hl,hv])) hv' h
theorem xq{pl:Sem Bool}{Q:Value×List Value->Shared->Prop}(X:K.In s.heap)(I:ObjM s.heap x dx C mA)(hg:W.plainGet K C name=true)(hf:W.findIn K (.ref C) name=some (some (.ref f)))(ht:W.isFn K (.ref f)=true)(hv:mA name=none)(h:Q (.ref f,[.ref x]) s):wpAny (model prog w) A (getMethod (.ref x) name pl) Q E s:=by obtain⟨od,J,hl⟩:=I.look;exact W.method_fn X J (W.plainGet_of hg).1 (W.plainGet_of hg).2 hf (beq_iff_eq.mp ht) (by show(W.lookIn name od).map (·.isSome)=some false;rw[hl,hv];rfl) h
theorem zj{ns:List Str}{Q:Unit->Shared->Prop}(X:K.In s.heap)(I:ObjM s.heap x dx C mA)(hs:W.findIn K (.ref C) "__setattr__"=some (some (.builtin "object.__setattr__")))(hp:W.plainOver K C=true)(ht:W.takerIn K C name=some none)(hh:W.hasDictIn K C=true)(hw:PySem.Within mA ns)(hsz:ns.length<=sizeLine)(h:∀h',ObjM h' x dx C (fun y=>if y=name then some v else mA y)->Heap.SameBut dx s.heap h'->Q () {s with heap:=h',toks:=s.toks+2}):wpAny (model prog w) A (setAttr (.ref x) name v) Q E s:=by obtain⟨od,J,hl⟩:=I.look;refine W.set_plain X J hs (W.osa_open (s:={s with toks:=s.toks+1}) (r:=none) X J hp ht fun b=>?_);obtain⟨cd,hc,hd'⟩:=W.any_some hh;have hx:s.heap.get? x=some ⟨.ref C,some dx,.plain,#[]⟩:=I.obj;refine wpAny_bind (wpAny_pure (wpAny_bind (wpAny_bind (wpAny_loadPart hx (wpAny_bind (W.Looks.here (s:={s with toks:=s.toks+1}) (W.looks_clsIn X hc) ?_))))));rw[hd'];refine wpAny_pure (a:=some dx) (wpAny_bind (wpAny_pure (wpAny_bind ?_)));refine wpAny_nsSet1 (s:={s with toks:=s.toks+1}) I.ns fun h' hn2 hs2=>?_;obtain⟨oD,esD,epD,hoD,hdD,hcD⟩:=hn2.count (PySem.Within.cons name v hw);refine wpAny_bind (wpAny_lookBehind hoD (by rw[hdD];exact pastItsLine_dict (Nat.le_trans hcD (by rw[List.length_cons];omega))) ?_);exact wpAny_pure (h _ ⟨(hs2.2 _ (Ne.symm I.ne)).trans I.obj,hn2,I.ne⟩ hs2)
theorem wD{R:Result->Shared->Prop}{vs:List Value}{kw:List (Str×Value)}(X:K.In s.heap)(hm:W.makesIn K C=true)(hi:W.findIn K (.ref C) "__init__"=some (some (.ref f)))(hf:W.typeIn K (.ref f)=some (.type "function"))(h:codeAny (model prog w) (A.under (.builtin "type.__call__" ⟨.ref C::vs,kw⟩)) (.call (.ref f) ⟨.ref (s.heap.objs.size+1)::vs,kw⟩) (W.InitBack (s.heap.objs.size+1) R) {s with heap:=(s.heap.push W.emptyDict).push (W.instObj C s.heap.objs.size)}):codeAny (model prog w) A (.call (.ref C) ⟨vs,kw⟩) R s:=by obtain⟨hh,g,d,t,os⟩:=s;exact W.make_core (W.makes_of X hm) (W.looks_findIn X hi) (fun self=>W.bind_fn X self hf) (.inl rfl) h
end
noncomputable def m8(f:Str)(v:V):List (Str×V)->List (Str×V)|[]=>[(f,v)]|(g,x)::r=>if g=f then(g,v)::r else(g,x)::m8 f v r
theorem ja(f g:Str)(v:V):∀fs:List (Str×V),(m8 f v fs).lookup g=if g=f then some v else fs.lookup g
|[]=>by
 show List.lookup g [(f,v)]=_;by_cases h:g=f;·have hb:(g==f)=true:=beq_iff_eq.mpr h;simp only[List.lookup,hb,if_pos h]
 ·have hb:(g==f)=false:=beq_eq_false_iff_ne.mpr h;simp only[List.lookup,hb,if_neg h]|(k,x)::r=>by
  have ih:=ja f g v r;rw[show m8 f v ((k,x)::r)=(if k=f then(k,v)::r else(k,x)::m8 f v r)from rfl];by_cases hk:k=f
  ·rw[if_pos hk];by_cases h:g=k;·have hb:(g==k)=true:=beq_iff_eq.mpr h;simp only[List.lookup,hb,if_pos (h.trans hk)]
   ·have hb:(g==k)=false:=beq_eq_false_iff_ne.mpr h;simp only[List.lookup,hb,if_neg (fun e:g=f=>h (e.trans hk.symm))]
  ·rw[if_neg hk];by_cases h:g=k;·have hb:(g==k)=true:=beq_iff_eq.mpr h;simp only[List.lookup,hb,if_neg (fun e:g=f=>hk (h.symm.trans e))]
   ·have hb:(g==k)=false:=beq_eq_false_iff_ne.mpr h;simp only[List.lookup,hb];exact ih
theorem jf(f:Str)(v:V):∀fs:List (Str×V),f∈(m8 f v fs).map (·.1)/\∀g,g∈fs.map (·.1)->g∈(m8 f v fs).map (·.1)
|[]=>⟨by simp[m8],fun g h=>by simp at h⟩|(k,x)::r=>by
  obtain⟨i1,i2⟩:=jf f v r;rw[show m8 f v ((k,x)::r)=(if k=f then(k,v)::r else(k,x)::m8 f v r)from rfl];by_cases hk:k=f;·rw[if_pos hk];subst hk;exact⟨by simp,fun g h=>by simpa using h⟩
  ·rw[if_neg hk];refine⟨?_,fun g h=>?_⟩;·rw[List.map_cons];exact List.mem_cons_of_mem _ i1
   ·rw[List.map_cons]at h⊢;rcases List.mem_cons.mp h with e|e;·exact List.mem_cons.mpr (.inl e)
    ·exact List.mem_cons_of_mem _ (i2 g e)
theorem jd(f:Str)(v:V):∀fs:List (Str×V),(m8 f v fs).length<=fs.length+1
|[]=>by simp[m8]|(k,x)::r=>by
 have ih:=jd f v r;rw[show m8 f v ((k,x)::r)=(if k=f then(k,v)::r else(k,x)::m8 f v r)from rfl];by_cases hk:k=f;·rw[if_pos hk,List.length_cons,List.length_cons];omega
 ·rw[if_neg hk,List.length_cons,List.length_cons];omega
theorem oQ.some_of{v:V}{o:Option Value}(r:oQ (some v) o):∃u,o=some u/\RelV v u:=by cases o with|none=>exact(show False from r).elim|some u=>exact⟨u,rfl,r⟩
theorem oQ.none_of{o:Option Value}(r:oQ none o):o=none:=by cases o with|none=>rfl|some u=>exact(show False from r).elim
theorem uM{v:V}{u:Value}(r:RelV v u):W.handedIn u=true:=by cases v with|non=>cases(show u=Value.none from r);rfl|bl b=>cases(show u=Value.bool b from r);rfl|int i=>obtain⟨t,e⟩:=(show∃t,u=Value.int i t from r);cases e;rfl|str x=>obtain⟨t,e⟩:=(show∃t,u=Value.str x t from r);cases e;rfl|byt b=>obtain⟨t,e⟩:=(show∃t,u=Value.bytes b t from r);cases e;rfl|flt b=>obtain⟨t,e⟩:=(show∃t,u=Value.float b t from r);cases e;rfl|ref a=>cases(show u=Value.ref a from r);rfl|ty n=>cases(show u=Value.type n from r);rfl
section
variable{P:Program}{w:World}{H H':Hp}{h h':Heap}{a C dx:Addr}{fs fs':List (Str×V)}
theorem kK(hok:HOk P w H h)(e:H a=some (.ins C dx fs)):∃mA,ObjM h a dx C mA/\(∀f,oQ (fs.lookup f) (mA f))/\PySem.Within mA (fs.map (·.1))/\fs.length<=1000/\H dx=some (.own a):=by obtain⟨d,z,ne,ob,mA,n,r,q⟩:=(show bo P w H h a (.ins C dx fs)from hok a _ e);exact⟨mA,⟨ob,n,ne⟩,r,q,z,d⟩
end
structure Cls(K:W.Frag)(C:Addr):Prop where
 pg:W.plainGet K C Str.empty=true
 hd:W.hasDictIn K C=true
 po:W.plainOver K C=true
 sa:W.findIn K (.ref C) "__setattr__"=some (some (.builtin "object.__setattr__"))
theorem Cls.get{K:W.Frag}{C:Addr}(c:Cls K C)(f:Str):W.plainGet K C f=true:=c.pg
noncomputable def di(K:W.Frag)(C:Addr)(f:Str):Prop:=W.findIn K (.ref C) f=some none
theorem di.afp{K:W.Frag}{C:Addr}{f:Str}(n:di K C f):W.takerIn K C f=some none:=by unfold W.takerIn;rw[show W.findIn K (.ref C) f=some none from n];rfl
structure Meth(K:W.Frag)(C:Addr)(m:Str)(f:Addr):Prop where
 at_:W.findIn K (.ref C) m=some (some (.ref f))fn:W.isFn K (.ref f)=true
 kp:W.keepIn K (.ref f)=true
section
variable{X:Cx}{pins:List (Addr×Obj)}{σ:St}{H:Hp}{s:Shared}{a C dx:Addr}{fs:List (Str×V)}{f:Str}{v:V}{A:Around}{E:Value->Shared->Prop}
theorem rm{b:Bool}{Q:Value->Shared->Prop}(I:Inv X pins σ H s)(e:H a=some (.ins C dx fs))(c:Cls X.K C)(n:di X.K C f)(l:fs.lookup f=some v)(h:∀u s',Inv X pins σ H s'->RelV v u->Q u s'):wpAny (model X.prog X.w) A (getAttr (.ref a) f b) Q E s:=by obtain⟨mA,O,r,_,_,_⟩:=kK I.hok e;obtain⟨u,hu,ru⟩:=oQ.some_of (v:=v) (o:=mA f) (by rw[<-l];exact r f);exact get_map I.kIn O (c.get f) c.hd n hu (uM ru) (h u _ (I.tok _) ru)
theorem rj{m:Str}{g:Addr}{pl:Sem Bool}{Q:Value×List Value->Shared->Prop}(I:Inv X pins σ H s)(e:H a=some (.ins C dx fs))(c:Cls X.K C)(k:Meth X.K C m g)(l:fs.lookup m=none)(h:Q (.ref g,[.ref a]) s):wpAny (model X.prog X.w) A (getMethod (.ref a) m pl) Q E s:=by obtain⟨mA,O,r,_,_,_⟩:=kK I.hok e;have hn:mA m=none:=oQ.none_of (by rw[<-l];exact r m);exact xq I.kIn O (c.get m) k.at_ k.fn hn h
theorem qH{y:V}{u:Value}{Q:Unit->Shared->Prop}(I:Inv X pins σ H s)(e:H a=some (.ins C dx fs))(c:Cls X.K C)(n:di X.K C f)(hl:fs.length<1000)(ry:RelV y u)(h:∀s',Inv X pins σ (upd H a (.ins C dx (m8 f y fs))) s'->Q () s'):wpAny (model X.prog X.w) A (setAttr (.ref a) f u) Q E s:=by
 obtain⟨mA,O,r,wi,_,ho⟩:=kK I.hok e;have hz:(fs.map (·.1)).length<=sizeLine:=by rw[List.length_map,sizeLine_eq];omega
 refine zj I.kIn O c.sa c.po n.afp c.hd wi hz fun h' O' sb=>h _ ?_;have hd:∃o,h'.get? dx=some o:=let⟨o,_,_,e',_⟩:=O'.ns;⟨o,e'⟩;refine I.write (x:=a) (e:=dx) (by rw[e];exact True.intro) (.inr ho) (fun b q hb z=>(sb.2 b hb).trans z) hd ?_;refine⟨by rw[ae O.ne];exact ho,?_,O.ne,O'.obj,_,O'.ns,fun g=>?_,fun g hg=>?_⟩;·have:=jd f y fs;omega
 ·show oQ ((m8 f y fs).lookup g) (if g=f then some u else mA g);rw[ja];by_cases q:g=f;·rw[if_pos q,if_pos q];exact ry
  ·rw[if_neg q,if_neg q];exact r g
 ·by_cases q:g=f;·rw[q];exact(jf f y fs).1
  ·refine(jf f y fs).2 g (wi g fun z=>hg ?_);show(if g=f then some u else mA g)=none;rw[if_neg q];exact z
theorem Inv.made(I:Inv X pins σ H s):Inv X pins σ (upd (upd H s.heap.objs.size (.own (s.heap.objs.size+1))) (s.heap.objs.size+1) (.ins C s.heap.objs.size [])) {s with heap:=(s.heap.push W.emptyDict).push (W.instObj C s.heap.objs.size)}:=by
 have e1:(s.heap.push W.emptyDict).get? s.heap.objs.size=some W.emptyDict:=Heap.get?_push_size s.heap rfl;have e2:((s.heap.push W.emptyDict).push (W.instObj C s.heap.objs.size)).get? (s.heap.objs.size+1)=some (W.instObj C s.heap.objs.size):=by have:=Heap.get?_push_size (s.heap.push W.emptyDict) (o:=W.instObj C s.heap.objs.size) rfl;rwa[Heap.size_push]at this
 have e3:(s.heap.push W.emptyDict).Ns s.heap.objs.size (fun _=>none):=⟨PySem.W.emptyDict,#[],_,e1,rfl,(fun e he=>absurd he (by simp)),fun _=>rfl⟩;have I1:=I.laid (a:=s.heap.objs.size) (o:=.own (s.heap.objs.size+1)) (h':=s.heap.push W.emptyDict) (t':=s.toks) (fun b u q=>Heap.get?_push_of_some _ q) (Nat.le_refl _) ⟨_,e1⟩;refine I1.laid (a:=s.heap.objs.size+1) (o:=.ins C s.heap.objs.size []) (t':=s.toks) (fun b u q=>Heap.get?_push_of_some _ q) (Nat.le_of_eq (Heap.size_push _ _)) ?_;have ne:s.heap.objs.size≠s.heap.objs.size+1:=Nat.ne_of_lt (Nat.lt_succ_self _);refine⟨by rw[ae ne,ag],Nat.zero_le _,ne,e2,fun _=>none,(Heap.Ns1.of_empty e3).at fun o q=>Heap.get?_push_of_some _ q,fun _=>True.intro,fun y hy=>absurd rfl hy⟩
theorem aaR{prog:Program}{w:World}{env:Env}{e:Expr}{f:Str}{pos:Pos}{s:Shared}{Q:Value->Shared->Prop}(hb:attributeBase e f env (eval e env)=eval e env)(h:wpAny (model prog w) A (eval e env) (fun o s₁=>wpAny (model prog w) A (getAttr o f true) Q E s₁) E s):wpAny (model prog w) A (eval (.Attribute e f pos) env) Q E s:=Attribute_any_ h (by rw[arm_eval_Attribute,hb])
end
noncomputable def aiT(K:W.Frag)(ta:TE)(f:Str):TE:=fun σ H Q=>ta σ H fun x H1=>∃a C dx fs v,x=.ref a/\H1 a=some (.ins C dx fs)/\Cls K C/\di K C f/\fs.lookup f=some v/\Q v H1
noncomputable def aiW(K:W.Frag)(ta tv:TE)(f:Str):TS:=fun D σ H=>tv σ H fun y H1=>ta σ H1 fun x H2=>∃a C dx fs,x=.ref a/\H2 a=some (.ins C dx fs)/\Cls K C/\di K C f/\fs.length<1000/\D.nx σ (upd H2 a (.ins C dx (m8 f y fs)))
section
variable{X:Cx}{o e value:Expr}{f:Str}{pos pos' tpos:Pos}{ta tv:TE}
theorem yd(he:PE X e ta)(hb:attributeBase e f X.env (eval e X.env)=eval e X.env):PE X (.Attribute e f pos) (aiT X.K ta f):=by intro pins s σ H Q I h;refine aaR hb (thn (he pins s σ H _ I h) fun u s1⟨x,H1,I1,rx,a,C,dx,fs,v,ex,ea,c,n,l,q⟩=>?_);subst ex;obtain rfl:u=Value.ref a:=rx;exact rm I1 ea c n l fun u' s2 I2 ru=>⟨v,H1,I2,ru,q⟩
theorem ach(ha:PE X o ta)(hv:PE X value tv)(hs:swapsWith value (some (.Attribute o f pos')) pos.line X.env=pure false):PS X (.Assign [.Attribute o f pos'] value pos) (aiW X.K ta tv f):=by intro pins s σ H D I h;refine plainObj_wpAny_Assign_Attribute (thn (hv pins s σ H _ I h) fun u s1⟨y,H1,I1,ry,q⟩=>thn (ha pins s1 σ H1 _ I1 q) fun ov s2⟨x,H2,I2,rx,a,C,dx,fs,ex,ea,c,n,l,q2⟩=>?_) hs;subst ex;obtain rfl:ov=Value.ref a:=rx;exact qH I2 ea c n l ry fun s3 I3=>⟨σ,_,I3,q2⟩
end
section
variable{X:Cx}{pins:List (Addr×Obj)}{σ:St}{H:Hp}{s:Shared}{A:Around}{E:Value->Shared->Prop}{Q:Value->Shared->Prop}{c:Value}{b:Bool}
inductive TyOf(K:W.Frag)(H:Hp):V->Value->Prop where|non:TyOf K H .non (.type "NoneType")|bl(x:Bool):TyOf K H (.bl x) (.type "bool")|int(i:Int):TyOf K H (.int i) (.type "int")|str(x:Str):TyOf K H (.str x) (.type "str")|flt(x:UInt64):TyOf K H (.flt x) (.type "float")|lst{a:Addr}{xs:List V}(e:H a=some (.lst xs)):TyOf K H (.ref a) (.type "list")|frz{a:Addr}{o:Obj}{xs:List V}(e:H a=some (.frz o (.lst xs))):TyOf K H (.ref a) (.type "list")|tup{a:Addr}{xs:List V}(e:H a=some (.tup xs)):TyOf K H (.ref a) (.type "tuple")|dK{a:Addr}{kvs:List (Key×V)}(e:H a=some (.dK kvs)):TyOf K H (.ref a) (.type "dict")|dT{a:Addr}{kvs:List (List Key×V)}(e:H a=some (.dT kvs)):TyOf K H (.ref a) (.type "dict")|ins{a C dx:Addr}{fs:List (Str×V)}(e:H a=some (.ins C dx fs))(cl:Cls K C)(ha:W.findIn K (.ref C) "__class__"=some (some (.builtin "object.__class__")))(hn:W.specialIn K (.builtin "object.__class__") "__get__"=some (some (.builtin "getset_descriptor.__get__")))(htk:W.takesIn K (.builtin "object.__class__")=some true)(hm:W.mroIn K C (.type "object")=some true):TyOf K H (.ref a) (.ref C)
theorem uG{x:V}{u t:Value}(I:Inv X pins σ H s)(rx:RelV x u)(ty:TyOf X.K H x t)(e:W.kitOne X.K t c=some b)(h:∀tk,Q (.bool b) {s with toks:=tk}):wpAny (model X.prog X.w) A (call (.builtin "isinstance") [u,c]) Q E s:=by cases ty with|non=>cases(show u=Value.none from rx);exact W.kia_one W.kitx_none I.kIn True.intro e (fun z=>nomatch z) h|bl y=>cases(show u=Value.bool y from rx);exact W.kia_one W.kitx_bool I.kIn True.intro e (fun z=>nomatch z) h|int i=>obtain⟨t,q⟩:=(show∃t,u=Value.int i t from rx);cases q;exact W.kia_one W.kitx_int I.kIn True.intro e (fun z=>nomatch z) h|str y=>obtain⟨t,q⟩:=(show∃t,u=Value.str y t from rx);cases q;exact W.kia_one W.kitx_str I.kIn True.intro e (fun z=>nomatch z) h|flt y=>obtain⟨t,q⟩:=(show∃t,u=Value.float y t from rx);cases q;exact W.kia_one W.kitx_float I.kIn True.intro e (fun z=>nomatch z) h|@lst a xs ea=>cases(show u=Value.ref a from rx);obtain⟨_,_,n,_,h1⟩:=(show bo X.prog X.w H s.heap a (.lst xs)from I.hok a _ ea);exact W.kia_one W.kitx_list I.kIn ⟨_,h1,rfl⟩ e (fun z=>nomatch z) h|@frz a ob xs ea=>cases(show u=Value.ref a from rx);obtain⟨_,_,_,n,_,h1⟩:=(show bo X.prog X.w H s.heap a (.frz ob (.lst xs))from I.hok a _ ea);exact W.kia_one W.kitx_list I.kIn ⟨_,h1,rfl⟩ e (fun z=>nomatch z) h|@tup a xs ea=>cases(show u=Value.ref a from rx);obtain⟨_,_,_,p⟩:=(show bo X.prog X.w H s.heap a (.tup xs)from I.hok a _ ea);obtain⟨o,h1,h2,_⟩:=p;exact W.kia_one W.kitx_tuple I.kIn ⟨o,h1,h2⟩ e (fun z=>nomatch z) h|@dK a kvs ea=>cases(show u=Value.ref a from rx);obtain⟨_,_,vs,_,p⟩:=(show bo X.prog X.w H s.heap a (.dK kvs)from I.hok a _ ea);obtain⟨o,es,ep,h1,h2,_⟩:=p;exact W.kia_one W.kitx_dict I.kIn ⟨o,h1,h2.1⟩ e (fun z=>nomatch z) h|@dT a kvs ea=>cases(show u=Value.ref a from rx);obtain⟨_,_,xs,_,o,es,ep,h1,h2,_⟩:=(show bo X.prog X.w H s.heap a (.dT kvs)from I.hok a _ ea);exact W.kia_one W.kitx_dict I.kIn ⟨o,h1,h2.1⟩ e (fun z=>nomatch z) h|@ins a C dx fs ea cl ha hn htk hm=>cases(show u=Value.ref a from rx);obtain⟨mA,O,_⟩:=kK I.hok ea;obtain⟨od,J,_⟩:=O.look;exact W.kia_one (W.kitx_own (cl.get _) cl.hd ha hn htk hm) I.kIn J e (fun z=>nomatch z) h
end
end L2
namespace L2
open PySem PySem.Spec PyProof.Rows
structure Room(k:Nat)(A:Around):Prop where
 hd:40<=k->A.handled=none
 dp:A.depth+3*k+5<recursionLimit
 un:A.units+16*k+200<cLine
 gd:A.guards=some []
theorem Room.mono{j k:Nat}{A:Around}(r:Room k A)(h:j<=k):Room j A:=⟨(fun z=>r.hd (by omega)),by have:=r.dp;omega,by have:=r.un;omega,r.gd⟩
theorem Room.deeper{k:Nat}{A:Around}(r:Room (k+1) A)(env:Env):Room k (A.deeper env):=⟨(fun z=>r.hd (by omega)),by have:=r.dp;show A.depth+1+3*k+5<_;omega,by have:=r.un;show A.units+3+16*k+200<_;omega,r.gd⟩
theorem qV{A:Around}{C:Addr}{us:List Value}{kw:List (Str×Value)}:(A.under (.builtin "type.__call__" ⟨.ref C::us,kw⟩)).depth=A.depth+1:=by first|rfl|simp[Around.under,Code.weight,Code.isCreation,Code.isGuard,Code.isCaller,Code.frames,Code.isFrame,guardIds]
theorem qU{A:Around}{C:Addr}{us:List Value}{kw:List (Str×Value)}:(A.under (.builtin "type.__call__" ⟨.ref C::us,kw⟩)).units=A.units+1:=by first|rfl|simp[Around.under,Code.cUnits,Code.frames,Code.isFrame]
theorem Room.make{k:Nat}{A:Around}(r:Room (k+1) A)(C:Addr)(us:List Value)(kw:List (Str×Value)):Room k (A.under (.builtin "type.__call__" ⟨.ref C::us,kw⟩)):=⟨(fun z=>r.hd (by omega)),by have:=r.dp;rw[qV];omega,by have:=r.un;rw[qU];omega,r.gd⟩
theorem Room.calm{k:Nat}{A:Around}{env:Env}(r:Room k (A.deeper env))(h:40<=k):A.handled.isNone=true:=by rw[show A.handled=none from r.hd h];rfl
theorem Room.depth{k:Nat}{A:Around}(r:Room k A):A.depth<recursionLimit:=by have:=r.dp;omega
theorem Room.units{k:Nat}{A:Around}(r:Room k A):A.units+64<cLine:=by have:=r.un;omega
noncomputable def tNil:TA:=fun _ H Q=>Q [] H
noncomputable def tCons(ta:TE)(tr:TA):TA:=fun σ H Q=>ta σ H fun x H1=>tr σ H1 fun xs H2=>Q (x::xs) H2
section
variable{X:Cx}{e:Expr}{es:List Expr}{te:TE}{t:TA}{pos:Pos}
theorem pa_nil:PA X [] tNil:=fun _ _ _ _ H Q I h=>Calls.spliced_nil ⟨[],H,I,.nil,h⟩
theorem pa_cons(ha:PE X e te)(hr:PA X es t)(hs:starEach (e::es) X.env=(false,eval e X.env)::starEach es X.env:=by rfl):PA X (e::es) (tCons te t):=by intro pos pins s σ H Q I h;rw[hs];show wpAny _ _ (spliced ((false,eval e X.env)::backTo pos (starEach es X.env))) _ _ s;refine Calls.spliced_cons (thn (ha pins s σ H _ I h) fun u s1⟨x,H1,I1,r1,q1⟩=>?_);exact thn (hr pos pins s1 σ H1 _ I1 q1) fun us s2⟨xs,H2,I2,r2,q2⟩=>⟨x::xs,H2,I2,.cons r1 r2,q2⟩
noncomputable def aiO(t:TA):TE:=fun σ H Q=>t σ H fun xs H1=>xs.length<=sizeLine/\∀p,H1 p=none->Q (.ref p) (upd H1 p (.tup xs))
noncomputable def tLst(t:TA):TE:=fun σ H Q=>t σ H fun xs H1=>xs.length<=sizeLine/\∀p,H1 p=none->Q (.ref p) (upd H1 p (.lst xs))
theorem acs{x1}(h:PA X es t):PE X (.Tuple es x1 pos) (aiO t):=by intro pins s σ H Q I hq;refine wpAny_Tuple_spliced (thn (h pos pins s σ H _ I hq) fun us s1⟨xs,H1,I1,r,z,q⟩=>⟨by rw[<-r.length];exact z,?_⟩);have hf:H1 s1.heap.objs.size=none:=I1.hok.fresh (Nat.le_refl _);refine⟨.ref s1.heap.objs.size,upd H1 s1.heap.objs.size (.tup xs),I1.laid (t':=s1.toks) (fun b u e=>Heap.get?_push_of_some _ e) (Nat.le_refl _) ?_,rfl,q _ hf⟩;exact⟨z,us,r,⟨_,Heap.get?_push_size _ rfl,rfl,_,rfl⟩⟩
theorem pe_lst(h:PA X es t):PE X (.List es pos) (tLst t):=by intro pins s σ H Q I hq;refine wpAny_List_spliced (thn (h pos pins s σ H _ I hq) fun us s1⟨xs,H1,I1,r,z,q⟩=>⟨by rw[<-r.length];exact z,?_⟩);have hf:H1 s1.heap.objs.size=none:=I1.hok.fresh (Nat.le_refl _);refine⟨.ref s1.heap.objs.size,upd H1 s1.heap.objs.size (.lst xs),I1.laid (t':=s1.toks) (fun b u e=>Heap.get?_push_of_some _ e) (Nat.le_refl _) ?_,rfl,q _ hf⟩;exact⟨z,us,0,r,Heap.get?_push_size _ rfl⟩
end
noncomputable abbrev Sp:=List V->Hp->VK->XK->Prop
noncomputable abbrev CXT:=List Env->Hp->Shared->XK->Value->Shared->Prop
structure Env0(P:Program)(w:World)(K:W.Frag)(mg:Str->Option Value)(base:Heap)(A:Around)(outer:List Env)(s:Shared)(H:Hp):Prop where
 frames:A.frames=some outer
 mod:Mod K mg base
 bs:∀b o,base.get? b=some o->s.heap.get? b=some o/\H b=none
 bsz:base.objs.size<=s.heap.objs.size
 my:s.heap.FunFrames base outer
 frf:∀b∈frs outer,H b=none
 hok:HOk P w H s.heap
 bare:AllBare s.gens
noncomputable def CE(outer:List Env)(P:Program)(w:World)(H:Hp)(s:Shared)(Q:VK)(u:Value)(s':Shared):Prop:=∃v H',s'.os=s.os/\AllBare s'.gens/\Un (frs outer) [] H H' s.heap s'.heap/\HOk P w H' s'.heap/\RelV v u/\Q v H'
noncomputable def CR(CX:CXT)(outer:List Env)(P:Program)(w:World)(H:Hp)(s:Shared)(Q:VK)(E:XK)(r:Result)(s':Shared):Prop:=match r with|.ok (.ret u)=>CE outer P w H s Q u s'|.ok _=>False|.error e=>CX outer H s E e s'
structure FnOk(P:Program)(w:World)(K:W.Frag)(mg:Str->Option Value)(base:Heap)(CX:CXT)(k:Nat)(f:Addr)(fd:FuncData)(ps:List Str)(sp:Sp)(hn:Around->Hp->Prop:=fun _ _=>True):Prop where
 len:∀vs H Q E,sp vs H Q E->vs.length=ps.length
 run:∀(A:Around)(outer:List Env)(s:Shared)(H:Hp)(args:Args)(us:List Value)(vs:List V)(Q:VK)(E:XK),Room k A->hn A H->Env0 P w K mg base A outer s H->BindsTo s fd args (ps.zip us)->Vals vs us->sp vs H Q E->codeAny (model P w) A (.call (.ref f) args) (CR CX outer P w H s Q E) s
theorem FnOk.imp{P:Program}{w:World}{K:W.Frag}{mg:Str->Option Value}{base:Heap}{CX:CXT}{k:Nat}{f:Addr}{fd:FuncData}{ps:List Str}{sp sp':Sp}(F:FnOk P w K mg base CX k f fd ps sp)(h:∀vs H Q E,sp' vs H Q E->sp vs H Q E):FnOk P w K mg base CX k f fd ps sp':=⟨fun vs H Q E q=>F.len vs H Q E (h _ _ _ _ q),fun A outer s H args us vs Q E hr hN he hb hv hs=>F.run A outer s H args us vs Q E hr hN he hb hv (h _ _ _ _ hs)⟩
theorem Env0.make{P:Program}{w:World}{K:W.Frag}{mg:Str->Option Value}{base:Heap}{A:Around}{outer:List Env}{s:Shared}{H:Hp}(e:Env0 P w K mg base A outer s H)(C:Addr)(us:List Value)(kw:List (Str×Value)):Env0 P w K mg base (A.under (.builtin "type.__call__" ⟨.ref C::us,kw⟩)) outer s H:=⟨by first|exact e.frames|(simpa[Around.under,Code.envs,Code.isFrame,pushEnvs]using e.frames),e.mod,e.bs,e.bsz,e.my,e.frf,e.hok,e.bare⟩
section
variable{X:Cx}{pins:List (Addr×Obj)}{σ:St}{H:Hp}{s s':Shared}
theorem Inv.ahf(I:Inv X pins σ H s):Env0 X.prog X.w X.K X.mg X.base X.A X.stack s H:=⟨I.ok.frames,I.ok.mod,I.bs,Nat.le_trans I.ok.bsz I.sz,I.stack,I.nu,I.hok,I.bare⟩
theorem Inv.after{Q:VK}{u:Value}(I:Inv X pins σ H s)(h:CE X.stack X.prog X.w H s Q u s'):EP X pins σ Q u s':=by obtain⟨v,H',os,bare,un,hok,r,q⟩:=h;obtain⟨hh,g,d,t,os'⟩:=s';obtain rfl:os'=s.os:=os;exact⟨v,H',I.call (h':=hh) (g':=g) (d':=d) (t':=t) (ch:=[]) un hok bare (fun b z=>absurd z (by simp)),r,q⟩
end
noncomputable def abI(sp:Sp)(dvs:List V)(E:XK)(t:TA):TE:=fun σ H Q=>t σ H fun vs H1=>sp (vs++dvs) H1 Q E
noncomputable def Binds(K:W.Frag)(fd:FuncData)(ps:List Str)(ds:List Value):Prop:=∀(s:Shared)(us:List Value),K.In s.heap->(us++ds).length=ps.length->BindsTo s fd ⟨us,[]⟩ (ps.zip (us++ds))
theorem Binds.all{K:W.Frag}{fd:FuncData}{ps:List Str}(h:∀us:List Value,us.length=ps.length->bindArgs fd ⟨us,[]⟩=pure (ps.zip us)):Binds K fd ps []:=fun s us _ hl=>by rw[List.append_nil]at hl⊢;exact .of_eq (h us hl)
noncomputable def Passes(CX:CXT)(X:Cx)(E:XK):Prop:=∀(pins:List (Addr×Obj))(σ:St)(H:Hp)(s:Shared)(e:Value)(s':Shared),Inv X pins σ H s->CX X.stack H s E e s'->X.xe e s'
section
variable{X:Cx}{CX:CXT}{k:Nat}{f C:Addr}{fd:FuncData}{ps:List Str}{sp:Sp}{dvs:List V}{ds:List Value}{E:XK}{x m:Str}{p pos apos:Pos}{e o:Expr}{es:List Expr}{ta:TE}{t:TA}
theorem abW{hn:Around->Hp->Prop}{pins:List (Addr×Obj)}{σ:St}{H:Hp}{s:Shared}{Q:VK}{us:List Value}{vs:List V}(F:FnOk X.prog X.w X.K X.mg X.base CX k f fd ps sp hn)(hr:Room k X.A)(hb:Binds X.K fd ps ds)(hd:Vals dvs ds)(hx:Passes CX X E)(I:Inv X pins σ H s)(r:Vals vs us)(h:sp (vs++dvs) H Q E)(hN:hn X.A H:=by exact trivial):wpAny (model X.prog X.w) X.A (call (.ref f) us) (EP X pins σ Q) X.xe s:=by
 have r2:Vals (vs++dvs) (us++ds):=r.append hd;have hl:(us++ds).length=ps.length:=by rw[<-r2.length];exact F.len _ _ _ _ h
 refine wpAny_call (codeAny_mono (F.run X.A X.stack s H ⟨us,[]⟩ (us++ds) (vs++dvs) Q E hr hN I.ahf (hb s us I.kIn hl) r2 h) fun r s' hq=>?_);cases r with|error e=>exact hx pins σ H s e s' I hq|ok fl=>cases fl with|ret u=>exact I.after hq|next=>exact False.elim hq|brk=>exact False.elim hq|cont=>exact False.elim hq
theorem tW(F:FnOk X.prog X.w X.K X.mg X.base CX k f fd ps sp)(hr:Room k X.A)(hg:Gl X x)(hm:X.mg x=some (.ref f))(hk:W.keepIn X.K (.ref f)=true)(hb:Binds X.K fd ps ds)(hd:Vals dvs ds)(hx:Passes CX X E)(ha:PA X (e::es) t)(hdb:(x==("__debug__":Str))=false:=by decide)(he:starEach (e::es) X.env=(false,eval e X.env)::starEach es X.env:=by rfl)(hpl:(backTo pos (starEach es X.env)).any (·.1)=false:=by rfl):PE X (.Call (.Name x p) (e::es) [] pos) (abI sp dvs E t):=by intro pins s σ H Q I h;refine wpAny_Call_Name_kw (je I hg hm ?_ hdb);refine W.callWith_K (h₀:=X.base) I.ok.mod.kin hk (thn (ha pos pins s σ H _ I h) fun us s1⟨vs,H1,I1,r,q⟩=>⟨I1.kIn,?_⟩) he hpl;exact abW F hr hb hd hx I1 r q
structure Mk(K:W.Frag)(C f:Addr):Prop where
 makes:W.makesIn K C=true
 init:W.findIn K (.ref C) "__init__"=some (some (.ref f))fn:W.isFn K (.ref f)=true
 kp:W.keepIn K (.ref C)=true
end
noncomputable def PK(X:Cx)(kws:List Keyword)(t:TA):Prop:=∀(pos:Pos)(pins:List (Addr×Obj))(s:Shared)(σ:St)(H:Hp)(Q:List V->Hp->Prop),Inv X pins σ H s->t σ H Q->wpAny (model X.prog X.w) X.A (evalAll ((backToKw pos (keywordEach kws X.env)).map (·.2))) (AP X pins σ Q) X.xe s
section
variable{X:Cx}{CX:CXT}{k:Nat}{f C:Addr}{fd:FuncData}{ps ks:List Str}{sp:Sp}{E:XK}{x m:Str}{p pos apos kpos:Pos}{e o:Expr}{es:List Expr}{kws:List Keyword}{te ta:TE}{t tk:TA}{nm:Option Str}
variable{g:List Value->List Value->List Value}{gV:List V->List V->List V}
end
structure FnScope(N P:List Str)(sc:Scope):Prop where
 kind:sc.kind=.function
 co:sc.isCoroutine=false
 gen:sc.isGenerator=false
 nd:N.Nodup
 pre:N.take P.length=P
 par:∀x∈P,sc.names.lookup x=some .local\/sc.names.lookup x=some .cell
 nofree:∀y∈sc.names,y.2≠.free
theorem mY{kindOf:Str->Option NameKind}{x:Str}:∀{binds:List (Str×Value)}{m:Str->Option Value},(∀v,(x,v)∉binds)->bindL kindOf binds m x=m x
|[],_,_=>rfl|(n,v)::r,m,h=>by
 unfold bindL;rw[mY fun w hw=>h w (List.mem_cons_of_mem _ hw)];split
 ·have:x≠n:=by rintro rfl;exact h v List.mem_cons_self
  simp[this]
 ·rfl
theorem m3{kindOf:Str->Option NameKind}{x:Str}:∀{binds:List (Str×Value)}{m:Str->Option Value},(∀v,(x,v)∉binds)->bindC kindOf binds m x=m x
|[],_,_=>rfl|(n,v)::r,m,h=>by
 unfold bindC;rw[m3 fun w hw=>h w (List.mem_cons_of_mem _ hw)];split;·rfl
 ·have:x≠n:=by rintro rfl;exact h v List.mem_cons_self
  simp[this]
theorem mZ{kindOf:Str->Option NameKind}{x:Str}{v:Value}:∀{P:List Str}{vs:List Value}{i:Nat}{m:Str->Option Value},P.Nodup->P[i]?=some x->vs[i]?=some v->kindOf x=some .local->bindL kindOf (P.zip vs) m x=some v|[],_,_,_,_,h,_,_=>by simp at h|_::_,[],_,_,_,_,h,_=>by simp at h|p::P,w::vs,0,m,nd,h1,h2,hk=>by simp at h1 h2;subst h1;subst h2;show bindL kindOf ((p,w)::P.zip vs) m p=_;unfold bindL;rw[mY fun v hv=>(List.nodup_cons.mp nd).1 (List.of_mem_zip hv).1,if_pos hk];simp|p::P,w::vs,i+1,m,nd,h1,h2,hk=>by show bindL kindOf ((p,w)::P.zip vs) m x=_;unfold bindL;exact mZ (i:=i) (List.nodup_cons.mp nd).2 (by simpa using h1) (by simpa using h2) hk
theorem m5{kindOf:Str->Option NameKind}{x:Str}{v:Value}:∀{P:List Str}{vs:List Value}{i:Nat}{m:Str->Option Value},P.Nodup->P[i]?=some x->vs[i]?=some v->kindOf x≠some .local->bindC kindOf (P.zip vs) m x=some v|[],_,_,_,_,h,_,_=>by simp at h|_::_,[],_,_,_,_,h,_=>by simp at h|p::P,w::vs,0,m,nd,h1,h2,hk=>by simp at h1 h2;subst h1;subst h2;show bindC kindOf ((p,w)::P.zip vs) m p=_;unfold bindC;rw[m3 fun v hv=>(List.nodup_cons.mp nd).1 (List.of_mem_zip hv).1,if_neg hk];simp|p::P,w::vs,i+1,m,nd,h1,h2,hk=>by show bindC kindOf ((p,w)::P.zip vs) m x=_;unfold bindC;exact m5 (i:=i) (List.nodup_cons.mp nd).2 (by simpa using h1) (by simpa using h2) hk
noncomputable def start(N:List Str)(vs:List V):St:=vs.map some++List.replicate (N.length-vs.length) none
noncomputable def gH(CX:CXT)(P:Program)(w:World)(K:W.Frag)(mg:Str->Option Value)(base:Heap)(N:List Str)(qual:Str)(scope:Scope)(f:Addr)(cd:Value)(A:Around)(outer:List Env)(s:Shared)(H:Hp)(E:XK):Cx where prog:=P;w:=w;K:=K;mg:=mg;base:=base;A:=A.deeper (envOfC qual scope s.heap.objs.size f cd);N:=N;s₀:=s;H₀:=H;env:=envOfC qual scope s.heap.objs.size f cd;outer:=outer;stack:=envOfC qual scope s.heap.objs.size f cd::outer;ex:=[];calm:=A.handled.isNone;fn:=fun _=>true;pn:=[];xe:=fun e s'=>wpAny (model P w) (A.deeper (envOfC qual scope s.heap.objs.size f cd)) (leaving (envOfC qual scope s.heap.objs.size f cd) e) (fun _ s''=>CX outer H s E e s'') (fun e' s''=>CX outer H s E e' s'') s'
theorem qm{sc:Scope}{n:Nat}{x:Str}(h:sc.names.lookup x=some .cell):∃c,(cellsFrom n sc.names []).lookup x=some c:=by have q:=W.cellsFrom_some sc.names n [] (.inl h);exact Option.isSome_iff_exists.mp q
theorem uI{CX:CXT}{P:Program}{w:World}{K:W.Frag}{mg:Str->Option Value}{base:Heap}{N ps:List Str}{qual:Str}{scope:Scope}{f:Addr}{cd:Value}{A:Around}{outer:List Env}{s s1:Shared}{H:Hp}{E:XK}{us:List Value}{vs:List V}(S:FnScope N ps scope)(e0:Env0 P w K mg base A outer s H)(hl:vs.length=ps.length)(r:Vals vs us)(x:InCallC s s.heap.objs.size (bindL (envOfC qual scope s.heap.objs.size f cd).kindOf (ps.zip us) fun _=>none) (cellsFrom (s.heap.objs.size+1) scope.names []) (bindC (envOfC qual scope s.heap.objs.size f cd).kindOf (ps.zip us) fun _=>none) s1):Inv (gH CX P w K mg base N qual scope f cd A outer s H E) [] (start N vs) H s1:=by
 have hpl:ps.length<=N.length:=by have:=congrArg List.length S.pre;rw[List.length_take]at this;omega
 obtain⟨h1,tk,rfl,hk⟩:=x.done;have noA:∀b:Addr,b ∉(gH CX P w K mg base N qual scope f cd A outer s H E).ex:=fun b z=>absurd (show b∈([]:List Addr)from z) (by simp);refine⟨⟨e0.mod,S.kind,rfl,rfl,Nat.le_refl _,fun y z c h1 h2=>?_,fun y hy=>?_,fun y c _ h=>?_,fun z=>Option.isNone_iff_eq_none.mp z,Around.frames_deeper e0.frames,.inr ⟨rfl,rfl⟩,fun b z=>absurd z (noA b),e0.bs,e0.bsz,fun b _ _=>noA b,fun b z=>absurd z (noA b),e0.my,e0.frf⟩,rfl,e0.bare,Un.kept hk,⟨_,x.toInCall.ns,fun i y v h1 h2 h3=>?_⟩,fun y c h=>⟨_,x.cell y c h⟩,e0.hok.fresh (Nat.le_refl _),fun y c h=>?_,fun p hp=>absurd (show p∈([]:List (Addr×Obj))from hp) (by simp),e0.hok.kept hk,?_⟩;·exact name_of_addr x.apart (PySem.mem_of_lookup h1) (PySem.mem_of_lookup h2)
 ·have hy:scope.names.lookup y=some .cell\/scope.names.lookup y=some .free:=hy;rcases hy with hy|hy;·exact qm hy
  ·exact absurd rfl (S.nofree _ (PySem.mem_of_lookup hy))
 ·exact Nat.le_of_lt (x.above y c (PySem.mem_of_lookup h))
 ·have hi:i<vs.length:=by
   unfold start at h2;by_cases hi:i<vs.length;·exact hi
   ·rw[List.getElem?_append_right (by simpa using hi)]at h2;rw[List.getElem?_replicate]at h2;split at h2<;>cases h2
  have ha:vs[i]?=some v:=by unfold start at h2;rw[List.getElem?_append_left (by simpa using hi),List.getElem?_map]at h2;cases e:vs[i]? with|none=>rw[e]at h2;cases h2|some a=>rw[e]at h2;cases h2;rfl
  obtain⟨u,hu,rv⟩:=r.get ha;have hp:ps[i]?=some y:=by rw[<-S.pre,List.getElem?_take_of_lt (by omega)];exact h1
  have ndP:ps.Nodup:=by rw[<-S.pre];exact S.nd.sublist (List.take_sublist _ _)
  refine⟨u,rv,?_⟩;rcases S.par y (List.mem_of_getElem? hp)with k|k;·exact .inl ⟨k,mZ ndP hp hu k⟩
  ·obtain⟨c,e⟩:=qm (n:=s.heap.objs.size+1) k;refine .inr ⟨.inl k,c,e,?_⟩;have q:=x.cell y c e;rw[m5 ndP hp hu (by show scope.names.lookup y≠_;rw[k];decide)]at q;exact q
 ·exact e0.hok.fresh (Nat.le_of_lt (x.above y c (PySem.mem_of_lookup h)))
 ·unfold start;show _=N.length;rw[List.length_append,List.length_map,List.length_replicate];omega
theorem xt{CX:CXT}{P:Program}{w:World}{K:W.Frag}{mg:Str->Option Value}{base:Heap}{k:Nat}{f:Addr}{name qual:Str}{params:Arguments}{body:List Stmt}{scope:Scope}{dV kV doc pm cdv ct oc:Value}{an od:Option Addr}{osl:Array (Option Value)}{N ps:List Str}{sp:Sp}(lk:K.lookup f=some ⟨oc,od,.func (W.fnOf name qual params body scope dV kV doc pm an cdv ct),osl⟩)(hcd:W.codeIn K cdv qual=true)(S:FnScope N ps scope)(len:∀vs H Q E,sp vs H Q E->vs.length=ps.length){hn:Around->Hp->Prop}(hbody:∀(A:Around)(outer:List Env)(s:Shared)(H:Hp)(vs:List V)(Q:VK)(E:XK),Room k (A.deeper (envOfC qual scope s.heap.objs.size f cdv))->hn A H->sp vs H Q E->∃t,PSs (gH CX P w K mg base N qual scope f cdv A outer s H E) body t/\t {nx:=fun _ H'=>Q .non H',rt:=Q} (start N vs) H):FnOk P w K mg base CX (k+1) f (W.fnOf name qual params body scope dV kV doc pm an cdv ct) ps sp hn:=by
 refine⟨len,fun A outer s H args us vs Q E hr hN e0 hb r hsp=>?_⟩;have hl:=len _ _ _ _ hsp;have KX:K.In s.heap:=e0.mod.kin.keeps fun b o e=>(e0.bs b o e).1;have lim:s.heap.NoLimit:=e0.mod.nolimit.keeps fun b o e=>(e0.bs b o e).1;have hkind:∀y∈ps.zip us,scope.names.lookup y.1=some .local\/(scope.names.lookup y.1=some .cell/\((cellsFrom (s.heap.objs.size+1) scope.names []).lookup y.1).isSome=true):=fun⟨n,v⟩hy=>by
  rcases S.par n (List.of_mem_zip hy).1 with q|q;·exact .inl q
  ·exact .inr ⟨q,W.cellsFrom_some _ _ _ (.inl q)⟩
 refine codeAny_call_function hr.depth (KX _ _ lk) rfl S.co S.gen rfl (W.codeRec_of KX hcd) (hb _ _ _ _ ?_);refine wpAny_newFunctionEnv_cells S.kind hkind fun env he s1 x=>?_;subst he;refine⟨lim.keeps x.toInCall.keep,codeAny_func ?_⟩;obtain⟨t,ht,hq⟩:=hbody A outer s H vs Q E (hr.deeper _) hN hsp;have I:Inv (gH CX P w K mg base N qual scope f cdv A outer s H E) [] (start N vs) H s1:=uI S e0 hl r x;refine wpAny_mono (ht [] s1 (start N vs) H _ I hq) (fun fl s' hs=>?_) fun e s' hs=>hs;have fin:∀{σ':St}{H':Hp}{v:V}{u:Value},Inv (gH CX P w K mg base N qual scope f cdv A outer s H E) [] σ' H' s'->RelV v u->Q v H'->CE outer P w H s Q u s':=fun{σ' H' v u}J rv q=>⟨v,H',J.os,J.bare,J.base,J.hok,rv,q⟩;cases fl with|ret u=>obtain⟨v,σ',H',J,rv,q⟩:=hs;exact fin J rv q|next=>obtain⟨σ',H',J,q⟩:=hs;exact fin (v:=V.non) (u:=Value.none) J rfl q|brk=>obtain⟨_,_,_,q⟩:=hs;exact False.elim q|cont=>obtain⟨_,_,_,q⟩:=hs;exact False.elim q
end L2
namespace L2
open PySem PySem.Spec PyProof.Rows
section
variable{X:Cx}{x:Str}{p pos:Pos}{e:Expr}{es:List Expr}{t:TA}{id T:String}{r:List V->Hp->VK->Prop}
noncomputable def tCB(r:List V->Hp->VK->Prop)(t:TA):TE:=fun σ H Q=>t σ H fun vs H1=>r vs H1 Q
theorem pK(hc:bz X (.builtin id) r)(hg:Gl X x)(hm:X.mg x=none)(hv:bootBuiltins x=some (.builtin id))(ha:PA X (e::es) t)(hn:x≠"__name__":=by decide)(hdb:(x==("__debug__":Str))=false:=by decide)(he:starEach (e::es) X.env=(false,eval e X.env)::starEach es X.env:=by rfl)(hpl:(backTo pos (starEach es X.env)).any (·.1)=false:=by rfl):PE X (.Call (.Name x p) (e::es) [] pos) (tCB r t):=by intro pins s σ H Q I h;refine wpAny_Call_Name_kw (j3 I hg hm hv ?_ hn hdb);exact PyProof.Rows.callWith_builtin1 (thn (ha pos pins s σ H _ I h) fun us s1⟨vs,H1,I1,r1,q1⟩=>hc pins s1 σ H1 vs us Q I1 r1 q1) he hpl
theorem tU(hc:bz X (.type T) r)(hg:Gl X x)(hm:X.mg x=none)(hv:bootBuiltins x=some (.type T))(ha:PA X (e::es) t)(hn:x≠"__name__":=by decide)(hdb:(x==("__debug__":Str))=false:=by decide)(he:starEach (e::es) X.env=(false,eval e X.env)::starEach es X.env:=by rfl)(hpl:(backTo pos (starEach es X.env)).any (·.1)=false:=by rfl):PE X (.Call (.Name x p) (e::es) [] pos) (tCB r t):=by intro pins s σ H Q I h;refine wpAny_Call_Name_kw (j3 I hg hm hv ?_ hn hdb);exact PyProof.Rows.callWith_type1 (thn (ha pos pins s σ H _ I h) fun us s1⟨vs,H1,I1,r1,q1⟩=>hc pins s1 σ H1 vs us Q I1 r1 q1) he hpl
end
end L2
namespace HT
open PySem PyProof.Rows
section
open PySem.SeqAt
open PySem.AutoSeq1(wpAny_loadPart')
open PySem.MeetsSeq PySem.MeetsSeq2 PySem.MeetsSeq3
end
section
variable{prog:Program}{w:World}{A:Around}{E:Value->Shared->Prop}{s:Shared}
theorem aaN{t b:Addr}{vs ws:List Value}{Q:Value->Shared->Prop}(ht:IsTup s.heap t vs.toArray)(hb:IsTup s.heap b ws.toArray)(hv:vs≠[])(h1:ws=[]->Q (.ref t) s)(h2:ws≠[]->Q (.ref s.heap.objs.size) {s with heap:=s.heap.push {cls:=.type "tuple",data:=.seq (vs++ws).toArray}})(hsz:vs.length+ws.length<=sizeLine):wpAny (model prog w) A (binaryOp .Add (.ref t) (.ref b)) Q E s:=by
 obtain⟨⟨cls,dd,data,sl⟩,ho,hc,n,hd⟩:=id ht;obtain⟨⟨cls2,dd2,data2,sl2⟩,ho2,hc2,n2,hd2⟩:=id hb;simp only at hc hd hc2 hd2;subst hc hd hc2 hd2;have e:vs.toArray++ws.toArray=(vs++ws).toArray:=by simp
 by_cases hw:ws=[];·exact concat_meets ⟨_,ho,rfl⟩ ⟨_,ho2,rfl⟩ noFill_tuple_add seq_tuple_add PySem.F.slot_tuple_add PySem.F.entry_tuple_add (PySem.F.args_tuple_add_2 _ _) (tuple_addW1 t b vs.toArray ws.toArray n n2 dd dd2 sl sl2 (by simpa using hv) (by simp[hw])) ⟨ho,ho2,h1 hw⟩
 ·refine concat_meets ⟨_,ho,rfl⟩ ⟨_,ho2,rfl⟩ noFill_tuple_add seq_tuple_add PySem.F.slot_tuple_add PySem.F.entry_tuple_add (PySem.F.args_tuple_add_2 _ _) (tuple_addW2 t b vs.toArray ws.toArray n n2 dd dd2 sl sl2 (by simpa using hv) (by simpa using hw) (by rw[List.size_toArray,List.size_toArray];exact hsz)) ⟨ho,ho2,?_⟩;rw[e];exact h2 hw
noncomputable def sIx(n d:Nat):Option Int->Nat|none=>d|some v=>if v<0 then(v+(n:Int)).toNat else min v.toNat n
theorem abU(n d:Nat)(hd:d<=n)(o:Option Int):sIx n d o<=n:=by cases o with|none=>exact hd|some v=>
 show(if v<0 then(v+(n:Int)).toNat else min v.toNat n)<=n;by_cases hv:v<0;·rw[if_pos hv];omega
 ·rw[if_neg hv];exact Nat.min_le_right _ _
theorem vi(v:Int)(n d:Nat):(if v<0 then max (v+(n:Int)) 0 else min v (n:Int))=((sIx n d (some v):Nat):Int):=by
 show(if v<0 then max (v+(n:Int)) 0 else min v (n:Int))=(((if v<0 then(v+(n:Int)).toNat else min v.toNat n):Nat):Int);by_cases hv:v<0;·simp only[if_pos hv];omega
 ·simp only[if_neg hv];omega
theorem rM(lo hi:Option Int)(n:Nat):Builtin.Slice.sliceAdjust lo hi 1 (n:Int)=(((sIx n 0 lo:Nat):Int),((sIx n n hi:Nat):Int)):=by
 have h1:¬((1:Int)<0):=by omega
 unfold Builtin.Slice.sliceAdjust;simp only[h1,if_false];refine Prod.ext ?_ ?_;·cases lo with|none=>rfl|some v=>exact vi v n 0
 ·cases hi with|none=>rfl|some v=>exact vi v n n
theorem qN(i j:Nat):Builtin.Slice.slicePlaces (i:Int) (j:Int) 1=j-i:=by
 unfold Builtin.Slice.slicePlaces;have h1:(1:Int)>0:=by omega
 simp only[h1,if_true,Int.ediv_one];split<;>omega
theorem jV{v:Value}{o:Option Int}{Q:Option Int->Shared->Prop}(p:IsPart v o)(h:Q o s):wpAny (model prog w) A (Builtin.Slice.slicePartIndex v) Q E s:=by cases p with|none=>exact slicePart_none h|int i t=>exact slicePart_int h
theorem iq{sl:Addr}{vl vu:Value}{lo hi:Option Int}{n:Nat}{Q:Int×Int×Nat->Shared->Prop}(hs:s.heap.IsSliceOf sl vl vu .none)(pl:IsPart vl lo)(pu:IsPart vu hi)(h:Q (((sIx n 0 lo:Nat):Int),1,sIx n n hi-sIx n 0 lo) s):wpAny (model prog w) A (Builtin.Slice.sliceApplied (.ref sl) (pure (n:Int))) Q E s:=by obtain⟨os,hos,hcs,hds⟩:=id hs;unfold Builtin.Slice.sliceApplied Builtin.Slice.sliceFields;refine wpAny_bind (wpAny_bind (wpAny_field hos hds (x:=vl) rfl (wpAny_bind (wpAny_field hos hds (x:=vu) rfl (wpAny_bind (wpAny_field hos hds (x:=.none) rfl (wpAny_pure ?_)))))));refine wpAny_bind (slicePart_none ?_);show wpAny _ _ (if((1:Int)==0)=true then _ else _) _ _ s;rw[if_neg (by decide)];refine wpAny_bind (jV pl (wpAny_bind (jV pu (wpAny_bind (wpAny_pure ?_)))));show wpAny _ _ (match Builtin.Slice.sliceAdjust lo hi 1 (n:Int)with|(lo,hi)=>pure (lo,(1:Int),Builtin.Slice.slicePlaces lo hi 1)) _ _ s;rw[rM lo hi n];show wpAny _ _ (pure (((sIx n 0 lo:Nat):Int),(1:Int),Builtin.Slice.slicePlaces ((sIx n 0 lo:Nat):Int) ((sIx n n hi:Nat):Int) 1)) _ _ s;rw[qN];exact wpAny_pure h
theorem wb(xs:Array Value)(i k:Nat):((List.range k).filterMap fun(m:Nat)=>xs[((i:Int)+(m:Int)*1).toNat]?).toArray=((xs.toList.drop i).take k).toArray:=by
 have e:(fun(m:Nat)=>xs[((i:Int)+(m:Int)*1).toNat]?)=fun m=>xs[i+m]?:=by
  funext m;have:((i:Int)+(m:Int)*1).toNat=i+m:=by omega
  rw[this]
 rw[e];have:=pick_run xs i k;rw[List.filterMap_map]at this;have e2:((fun x=>xs[x]?)∘fun x=>i+x)=fun m=>xs[i+m]?:=rfl;rw[e2]at this;rw[this]
theorem gE{t sl:Addr}{items:Array Value}{vl vu:Value}{lo hi:Option Int}{Q:Value->Shared->Prop}(ht:IsTup s.heap t items)(hs:s.heap.IsSliceOf sl vl vu .none)(pl:IsPart vl lo)(pu:IsPart vu hi)(hw:¬(sIx items.size 0 lo=0/\sIx items.size items.size hi=items.size))(h:Q (.ref s.heap.objs.size) {s with heap:=s.heap.push {cls:=.type "tuple",data:=.seq ((items.toList.drop (sIx items.size 0 lo)).take (sIx items.size items.size hi-sIx items.size 0 lo)).toArray}})(hsz:items.size<=sizeLine):wpAny (model prog w) A (getItem (.ref t) (.ref sl)) Q E s:=by
 have htake:sizeOk (.seq ((items.toList.drop (sIx items.size 0 lo)).take (sIx items.size items.size hi-sIx items.size 0 lo)).toArray):=by show((items.toList.drop (sIx items.size 0 lo)).take (sIx items.size items.size hi-sIx items.size 0 lo)).toArray.size<=sizeLine;rw[List.size_toArray,List.length_take,List.length_drop,Array.length_toList];omega
 have hj:sIx items.size items.size hi<=items.size:=abU _ _ (Nat.le_refl _) hi;obtain⟨os,hos,hcs,hds⟩:=id hs;have hTs:s.TypeIs (.ref sl) "slice":=⟨os,hos,hcs⟩;unfold getItem;try with_reducible refine wpAny_holding ?_
 first|refine wpAny_bind (wpAny_pure ?_)|skip
 refine wpAny_bind (wpAny_sequenceKey ht.typeIs (by decide) ?_);refine wpAny_bind (wpAny_callSpecial?_slot (name:=Str.ofString "__getitem__") ht.typeIs PyProof.Rows.slot_tuple_getitem (wpAny_call_entry PyProof.Rows.slot_tuple_getitem ht.typeIs entry_tuple_getitem ?_ (args_tuple_getitem _ _)));show wpAny _ _ (Builtin.Tuple.tupleItemsOf (.ref t)>>=_) _ _ s;refine wpAny_bind (tupleItemsOf_ ht ?_);refine wpAny_bind (wpAny_typeOf hTs ?_);rw[if_pos (by decide)];refine wpAny_bind (iq hs pl pu ?_);have hno:¬((((sIx items.size 0 lo:Nat):Int)==0&&(1:Int)==1&&(sIx items.size items.size hi-sIx items.size 0 lo)==items.size)=true):=by intro q;rw[Bool.and_eq_true,Bool.and_eq_true]at q;have q1:((sIx items.size 0 lo:Nat):Int)=0:=eq_of_beq q.1.1;have q2:sIx items.size items.size hi-sIx items.size 0 lo=items.size:=eq_of_beq q.2;exact hw ⟨by omega,by omega⟩
 show wpAny _ _ (if(((sIx items.size 0 lo:Nat):Int)==0&&(1:Int)==1&&(sIx items.size items.size hi-sIx items.size 0 lo)==items.size)=true then _ else _) _ _ s;rw[if_neg hno,wb];first|exact wpAny_bind (m:=Builtin.Tuple.tupleExact _) (wpAny_newObj_type (wpAny_pure ⟨_,rfl,wpAny_pure h⟩) htake)|exact wpAny_bind (m:=Builtin.Tuple.tupleExact _) (wpAny_newObj_type (wpAny_bind (wpAny_pure (wpAny_pure ⟨_,rfl,wpAny_pure h⟩))) htake)|exact wpAny_bind (wpAny_bind (m:=Builtin.Tuple.tupleExact _) (wpAny_newObj_type (wpAny_pure (wpAny_pure ⟨_,rfl,wpAny_pure h⟩)) htake))|exact wpAny_bind (wpAny_bind (m:=Builtin.Tuple.tupleExact _) (wpAny_newObj_type (wpAny_pure ⟨_,rfl,wpAny_pure h⟩) htake))
end
end HT
namespace L2
open PySem PySem.Spec PyProof.Rows
noncomputable abbrev TO:=St->Hp->(Option Int->Hp->Prop)->Prop
noncomputable def PO(X:Cx)(e:Option Expr)(t:TO):Prop:=∀(pins:List (Addr×Obj))(s:Shared)(σ:St)(H:Hp)(Q:Option Int->Hp->Prop),Inv X pins σ H s->t σ H Q->wpAny (model X.prog X.w) X.A (evalPart e X.env) (fun u s'=>∃o H',Inv X pins σ H' s'/\IsPart u o/\Q o H') X.xe s
noncomputable def ze:TO:=fun _ H Q=>Q none H
noncomputable def afr(t:TE):TO:=fun σ H Q=>t σ H fun x H1=>∃i,x=.int i/\Q (some i) H1
section
variable{X:Cx}{e:Expr}{te:TE}{lo hi:Option Expr}{tl th:TO}{pos p2:Pos}
theorem tO:PO X none ze:=by intro pins s σ H Q I h;rw[evalPart_none];exact wpAny_pure ⟨none,H,I,.none,h⟩
theorem tN(h:PE X e te):PO X (some e) (afr te):=by intro pins s σ H Q I hw;rw[evalPart_some];refine thn (h pins s σ H _ I hw) fun u s1⟨x,H1,I1,r1,q1⟩=>?_;obtain⟨i,rfl,q⟩:=q1;obtain⟨t,rfl⟩:=r1;exact⟨some i,H1,I1,.int i t,q⟩
noncomputable def SlR(X:Cx)(r:V->Option Int->Option Int->Hp->VK->Prop):Prop:=∀(pins:List (Addr×Obj))(s:Shared)(σ:St)(H:Hp)(x:V)(v vl vu:Value)(lo hi:Option Int)(sl:Addr)(Q:VK),Inv X pins σ H s->RelV x v->s.heap.IsSliceOf sl vl vu .none->IsPart vl lo->IsPart vu hi->r x lo hi H Q->∃T id,typeLookup (.type T) "__getitem__"=pure (some (.builtin id))/\s.TypeIs v T/\wpAny (model X.prog X.w) X.A (getItem v (.ref sl)) (EP X pins σ Q) X.xe s
theorem SlR.or{r r':V->Option Int->Option Int->Hp->VK->Prop}(h:SlR X r)(h':SlR X r'):SlR X (fun x lo hi H Q=>r x lo hi H Q\/r' x lo hi H Q):=by
 intro pins s σ H x v vl vu lo hi sl Q I rx hs pl pu q;rcases q with q|q;·exact h pins s σ H x v vl vu lo hi sl Q I rx hs pl pu q
 ·exact h' pins s σ H x v vl vu lo hi sl Q I rx hs pl pu q
noncomputable def tSl(r:V->Option Int->Option Int->Hp->VK->Prop)(te:TE)(tl th:TO):TE:=fun σ H Q=>te σ H fun x H1=>tl σ H1 fun l H2=>th σ H2 fun u H3=>r x l u H3 Q
theorem pH{r:V->Option Int->Option Int->Hp->VK->Prop}(hr:SlR X r)(he:PE X e te)(hl:PO X lo tl)(hu:PO X hi th):PE X (.Subscript e (.Slice lo hi none p2) pos) (tSl r te tl th):=by intro pins s σ H Q I h;refine Subscript_ (thn (he pins s σ H _ I h) fun v s1⟨x,H1,I1,r1,q1⟩=>?_);refine wpAny_Slice (thn (hl pins s1 σ H1 _ I1 q1) fun vl s2⟨l,H2,I2,pl,q2⟩=>thn (hu pins s2 σ H2 _ I2 q2) fun vu s3⟨u,H3,I3,pu,q3⟩=>?_);rw[evalPart_none];refine wpAny_pure ?_;have I4:Inv X pins σ H3 {s3 with heap:=s3.heap.push {cls:=.type "slice",data:=.fields #[vl,vu,.none]}}:=I3.kept (t':=s3.toks) fun b ob q=>Heap.get?_push_of_some _ q;obtain⟨T,id,hT,ht,hg⟩:=hr pins {s3 with heap:=s3.heap.push {cls:=.type "slice",data:=.fields #[vl,vu,.none]}} σ H3 x v vl vu l u s3.heap.objs.size Q I4 r1 (Heap.IsSliceOf.new ..) pl pu q3;show wpAny (model X.prog X.w) X.A (subscriptTail e (.Slice lo hi none p2) v (.ref s3.heap.objs.size)) (EP X pins σ Q) X.xe {s3 with heap:=s3.heap.push {cls:=.type "slice",data:=.fields #[vl,vu,.none]}};exact tail_any (ops:=[.ref s3.heap.objs.size,v]) ht hT hg (by with_unfolding_all rfl)
noncomputable def yB(xs:List V)(lo hi:Option Int):List V:=(xs.drop (HT.sIx xs.length 0 lo)).take (HT.sIx xs.length xs.length hi-HT.sIx xs.length 0 lo)
theorem jw(xs:List V)(lo hi:Option Int):(yB xs lo hi).length<=xs.length:=by unfold yB;rw[List.length_take,List.length_drop];omega
noncomputable def aiX(K:W.Frag):V->Option Int->Option Int->Hp->VK->Prop:=fun x lo hi H Q=>∃a xs,x=.ref a/\SqT K H a xs/\¬(HT.sIx xs.length 0 lo=0/\HT.sIx xs.length xs.length hi=xs.length)/\∀p,H p=none->Q (.ref p) (upd H p (.tup (yB xs lo hi)))
theorem abN:SlR X (aiX X.K):=by
 intro pins s σ H x v vl vu lo hi sl Q I rx hs pl pu h;obtain⟨a,xs,rfl,hx,hw,q⟩:=h;cases rx;obtain⟨its,r,ht,hz⟩:=I.tuple hx;have hlen:its.toArray.size=xs.length:=by rw[List.size_toArray];exact r.length.symm
 refine⟨"tuple",_,PyProof.Rows.slot_tuple_getitem.lookup,ht.typeIs,?_⟩;refine HT.gE ht hs pl pu (by rw[hlen];exact hw) ?_ (by rw[hlen];exact hz);rw[hlen];refine⟨.ref s.heap.objs.size,_,I.laid (t':=s.toks) (o:=.tup (yB xs lo hi)) (fun b ob q=>Heap.get?_push_of_some _ q) (Nat.le_refl _) ?_,rfl,q _ (I.hok.fresh (Nat.le_refl _))⟩;exact⟨Nat.le_trans (jw xs lo hi) hz,_,(r.drop (HT.sIx xs.length 0 lo)).take (HT.sIx xs.length xs.length hi-HT.sIx xs.length 0 lo),IsTup.new _ _⟩
noncomputable def afY(K:W.Frag):R2:=fun x y H Q=>∃a b xs ys,x=.ref a/\y=.ref b/\SqT K H a xs/\SqT K H b ys/\xs≠[]/\xs.length+ys.length<=sizeLine/\(ys=[]->Q (.ref a) H)/\(ys≠[]->∀p,H p=none->Q (.ref p) (upd H p (.tup (xs++ys))))
theorem Vals.nP{xs:List V}{us:List Value}(r:Vals xs us):us=[]↔ xs=[]:=by cases r with|nil=>simp|cons _ _=>simp
theorem zJ:OpR X (binaryOp .Add) (afY X.K):=by intro pins s σ H x y v u Q I rx ry h;obtain⟨a,b,xs,ys,rfl,rfl,ha,hb,hx,hz,q1,q2⟩:=h;cases rx;cases ry;obtain⟨its,r1,p1,_⟩:=I.tuple ha;obtain⟨its2,r2,p2,_⟩:=I.tuple hb;refine HT.aaN p1 p2 (fun z=>hx (r1.nP.mp z)) (fun z=>⟨.ref a,H,I,rfl,q1 (r2.nP.mp z)⟩) (fun z=>?_) (by rw[<-r1.length,<-r2.length];exact hz);refine⟨.ref s.heap.objs.size,_,I.laid (t':=s.toks) (o:=.tup (xs++ys)) (fun b ob q=>Heap.get?_push_of_some _ q) (Nat.le_refl _) ?_,rfl,q2 (fun w=>z (r2.nP.mpr w)) _ (I.hok.fresh (Nat.le_refl _))⟩;exact⟨by rw[List.length_append];exact hz,_,r1.append r2,IsTup.new _ _⟩
end
end L2
namespace L2
open PySem PySem.Spec PyProof.Rows
noncomputable def ixN(n:Nat)(i:Int):Option Nat:=if 0<=i then(if i<n then some i.toNat else none)else if -(n:Int)<=i then some (i+n).toNat else none
noncomputable def atI{α:Type}(xs:List α)(i:Int):Option α:=(ixN xs.length i).bind fun j=>xs[j]?
theorem aau{n:Nat}{i:Int}{j:Nat}(h:ixN n i=some j):seqIndex? i n=some j/\j<n/\-(n:Int)<=i/\i<n:=by
 unfold ixN at h;by_cases h0:0<=i
 ·rw[if_pos h0]at h;by_cases h1:i<n;·rw[if_pos h1]at h;have e:i.toNat=j:=Option.some.inj h;exact⟨by rw[seqIndex_of h0 h1,e],by omega,by omega,h1⟩
  ·rw[if_neg h1]at h;cases h
 ·rw[if_neg h0]at h;by_cases h1:-(n:Int)<=i;·rw[if_pos h1]at h;have e:(i+n).toNat=j:=Option.some.inj h;exact⟨by rw[seqIndex_neg (by omega) h1,e],by omega,h1,by omega⟩
  ·rw[if_neg h1]at h;cases h
theorem oK{α:Type}{xs:List α}{i:Int}{v:α}(h:atI xs i=some v):∃j,seqIndex? i xs.length=some j/\xs[j]?=some v/\j<xs.length/\-(xs.length:Int)<=i/\i<xs.length:=by unfold atI at h;cases e:ixN xs.length i with|none=>rw[e]at h;cases h|some j=>rw[e]at h;obtain⟨h1,h2,h3,h4⟩:=aau e;exact⟨j,h1,h,h2,h3,h4⟩
theorem vn{α:Type}{xs:List α}{j:Nat}{v:α}(h:xs[j]?=some v):atI xs (j:Int)=some v:=by
 have hj:j<xs.length:=(List.getElem?_eq_some_iff.mp h).1;have e:ixN xs.length (j:Int)=some j:=by unfold ixN;rw[if_pos (by omega),if_pos (by omega)];simp
 unfold atI;rw[e];exact h
noncomputable def kU(b:Expr):Prop:=∀o i,subscripted b false o i=operate [o,i] (getItem o i)
noncomputable def IxR(X:Cx)(r:R2):Prop:=∀(value slice:Expr)(pins:List (Addr×Obj))(s:Shared)(σ:St)(H:Hp)(x y:V)(v u:Value)(Q:VK),Inv X pins σ H s->RelV x v->RelV y u->r x y H Q->subscripted slice false v u=operate [v,u] (getItem v u)->wpAny (model X.prog X.w) X.A (subscriptTail value slice v u) (EP X pins σ Q) X.xe s
noncomputable def MtR(X:Cx)(id:String)(r:V->List V->Hp->VK->Prop):Prop:=∀(pins:List (Addr×Obj))(s:Shared)(σ:St)(H:Hp)(x:V)(xs:List V)(v:Value)(us:List Value)(Q:VK),Inv X pins σ H s->RelV x v->Vals xs us->r x xs H Q->wpAny (model X.prog X.w) X.A (call (.builtin id) (v::us)) (EP X pins σ Q) X.xe s
section
variable{X:Cx}{a b:Expr}{ta tb:TE}{pos:Pos}
theorem IxR.or{r r':R2}(h:IxR X r)(h':IxR X r'):IxR X (fun x y H Q=>r x y H Q\/r' x y H Q):=by
 intro value slice pins s σ H x y v u Q I rx ry q hs;rcases q with q|q;·exact h value slice pins s σ H x y v u Q I rx ry q hs
 ·exact h' value slice pins s σ H x y v u Q I rx ry q hs
theorem pe_ix{r:R2}(hr:IxR X r)(ha:PE X a ta)(hb:PE X b tb)(hs:kU b):PE X (.Subscript a b pos) (tOp r ta tb):=by intro pins s σ H Q I h;exact Subscript_ (ahu ha hb I h fun v u s2 x y H2 I2 rx ry q=>hr a b pins s2 σ H2 x y v u Q I2 rx ry q (hs _ _))
noncomputable def rIxL(K:W.Frag):R2:=fun x y H Q=>∃p xs i v,x=.ref p/\y=.int i/\SqL K H p xs/\atI xs i=some v/\Q v H
noncomputable def rIxT(K:W.Frag):R2:=fun x y H Q=>∃p xs i v,x=.ref p/\y=.int i/\SqT K H p xs/\atI xs i=some v/\Q v H
noncomputable def aiZ:R2:=fun x y H Q=>∃z i c,x=.str z/\y=.int i/\z.length<=sizeLine/\atI z.cps.toList i=some c/\Q (.str ⟨#[c]⟩) H
theorem ix_list:IxR X (rIxL X.K):=by
 intro value slice pins s σ H x y v u Q I rx ry h hs;obtain⟨p,xs,i,z,rfl,rfl,hq,he,q⟩:=h;cases rx;obtain⟨t,rfl⟩:=ry;obtain⟨its,r,pl,hz⟩:=I.list hq;obtain⟨j,h1,h2,h3,h4,h5⟩:=oK he;obtain⟨w,ew,rw'⟩:=r.get h2;have hl:=r.length;have hn:=j1;have fin:EP X pins σ Q w s:=⟨z,H,I,rw',q⟩;by_cases h0:0<=i
 ·have hj:i.toNat=j:=by rw[seqIndex_of h0 h5]at h1;exact Option.some.inj h1
  exact item_listR pl.isList h0 (by omega) (by rw[hj];simpa using ew) fin hs
 ·have hj:(i+(its.toArray.size:Int)).toNat=j:=by rw[seqIndex_neg (by omega) h4]at h1;rw[List.size_toArray,<-hl];exact Option.some.inj h1
  exact subscriptTail_builtinR (x:=w) pl.isList.typeIs slot_list_getitem.lookup (wpAny_getItem_list_neg (Q:=fun r s'=>r=w/\EP X pins σ Q r s') pl.isList (by omega) (by rw[List.size_toArray]<;>omega) (by omega) (by rw[hj];simpa using ew) ⟨rfl,fin⟩) hs
theorem ix_tup:IxR X (rIxT X.K):=by intro value slice pins s σ H x y v u Q I rx ry h hs;obtain⟨p,xs,i,z,rfl,rfl,hq,he,q⟩:=h;cases rx;obtain⟨t,rfl⟩:=ry;obtain⟨its,r,pl,hz⟩:=I.tuple hq;obtain⟨j,h1,h2,h3,h4,h5⟩:=oK he;obtain⟨w,ew,rw'⟩:=r.get h2;have hl:=r.length;have hn:=j1;have fin:EP X pins σ Q w s:=⟨z,H,I,rw',q⟩;exact subscriptTail_builtinR (x:=w) pl.typeIs slot_tuple_getitem.lookup (getItem_tuple (j:=j) (Q:=fun r s'=>r=w/\EP X pins σ Q r s') pl (by omega) (by omega) (by rw[List.size_toArray,<-hl];exact h1) (by simpa using ew) ⟨rfl,fin⟩) hs
theorem adB:IxR X aiZ:=by
 intro value slice pins s σ H x y v u Q I rx ry h hs;obtain⟨z,i,c,rfl,rfl,hz,he,q⟩:=h;obtain⟨t,rfl⟩:=rx;obtain⟨t',rfl⟩:=ry;obtain⟨j,h1,h2,h3,h4,h5⟩:=oK he;have hl:z.cps.toList.length=z.length:=by simp[Str.length]
 rw[hl]at h1 h4 h5;have hn:=j1;exact tail_any (typeIs_str s z t) slot_str_getitem.lookup (getItem_str (c:=c) (by have e1:decide (i < -(2^63:Int))=false:=decide_eq_false (by omega);have e2:decide (i ≥ 2^63)=false:=decide_eq_false (by omega);rw[e1,e2,Bool.or_false]) (by rw[h1];simpa using h2) ⟨.str ⟨#[c]⟩,H,I.tok _,⟨_,rfl⟩,q⟩) hs
theorem lF(lo hi:Option Int)(n:Nat):(sliceBounds lo hi none n).1=((HT.sIx n 0 lo:Nat):Int)/\(sliceBounds lo hi none n).2.1=((HT.sIx n n hi:Nat):Int)/\(sliceBounds lo hi none n).2.2=1:=by
 refine⟨?_,?_,rfl⟩;·cases lo with|none=>simp[sliceBounds,HT.sIx]|some i=>
  simp only[sliceBounds,HT.sIx,Option.getD_none,show(1:Int)>0 by decide,if_true];by_cases h:i<0;·simp only[h,if_true]<;>omega
  ·simp only[h,if_false]<;>omega
 ·cases hi with|none=>simp[sliceBounds,HT.sIx]|some i=>
  simp only[sliceBounds,HT.sIx,Option.getD_none,show(1:Int)>0 by decide,if_true];by_cases h:i<0;·simp only[h,if_true]<;>omega
  ·simp only[h,if_false]<;>omega
theorem kj(its:List Value)(lo hi:Option Int):slicePick its.toArray lo hi none=((its.drop (HT.sIx its.length 0 lo)).take (HT.sIx its.length its.length hi-HT.sIx its.length 0 lo)).toArray:=by obtain⟨h1,h2,h3⟩:=lF lo hi its.toArray.size;unfold slicePick;rw[h1,h2,h3];simp only[sliceRange_one,pick_run,List.size_toArray]<;>rfl
noncomputable def aiY(K:W.Frag):V->Option Int->Option Int->Hp->VK->Prop:=fun x lo hi H Q=>∃a xs,x=.ref a/\SqL K H a xs/\∀p,H p=none->Q (.ref p) (upd H p (.lst (yB xs lo hi)))
theorem zi:SlR X (aiY X.K):=by intro pins s σ H x v vl vu lo hi sl Q I rx hs pl pu h;obtain⟨a,xs,rfl,hx,q⟩:=h;cases rx;obtain⟨its,r,ht,hz⟩:=I.list hx;have hlen:=r.length;refine⟨"list",_,slot_list_getitem.lookup,ht.isList.typeIs,?_⟩;refine wpAny_getItem_list_slice ht.isList hs pl pu .none (by simp) ?_ (by rw[List.size_toArray]<;>omega);rw[kj,<-hlen];refine⟨.ref s.heap.objs.size,_,I.laid (t':=s.toks) (o:=.lst (yB xs lo hi)) (fun b ob q=>Heap.get?_push_of_some _ q) (Nat.le_refl _) ?_,rfl,q _ (I.hok.fresh (Nat.le_refl _))⟩;exact⟨Nat.le_trans (jw xs lo hi) hz,_,0,(r.drop (HT.sIx xs.length 0 lo)).take (HT.sIx xs.length xs.length hi-HT.sIx xs.length 0 lo),Heap.get?_push_size _ rfl⟩
theorem mW:bz X (.builtin "len") (fun xs H Q=>∃p ys,xs=[.ref p]/\(SqL X.K H p ys\/SqT X.K H p ys)/\Q (.int ys.length) H):=by
 intro pins s σ H xs us Q I r h;obtain⟨p,ys,rfl,hq,q⟩:=h;obtain⟨u,rfl,rx⟩:=vals1 r;cases rx;have hn:=j1;rcases hq with hq|hq;·obtain⟨its,r',pl,hz⟩:=I.list hq;have hlen:=r'.length;exact Calls.call_len_list pl.isList (by simp only[List.size_toArray]<;>omega) ⟨.int ys.length,H,I.tok _,⟨s.toks+1,by rw[List.size_toArray,hlen]⟩,q⟩
 ·obtain⟨its,r',pl,hz⟩:=I.tuple hq;have hlen:=r'.length;exact len_tuple pl (by simp only[List.size_toArray]<;>omega) ⟨.int ys.length,H,I.tok _,⟨s.toks+1,by rw[List.size_toArray,hlen]⟩,q⟩
theorem mV:bz X (.builtin "len") (fun xs H Q=>∃z,xs=[.str z]/\z.length<=sizeLine/\Q (.int z.length) H):=by intro pins s σ H xs us Q I r h;obtain⟨z,rfl,hz,q⟩:=h;obtain⟨u,rfl,t,rfl⟩:=vals1 r;have hn:=j1;exact len_str (by omega) ⟨.int z.length,H,I.tok _,⟨_,rfl⟩,q⟩
theorem bz.or{f:Value}{r r':List V->Hp->VK->Prop}(h:bz X f r)(h':bz X f r'):bz X f (fun xs H Q=>r xs H Q\/r' xs H Q):=by
 intro pins s σ H xs us Q I rs q;rcases q with q|q;·exact h pins s σ H xs us Q I rs q
 ·exact h' pins s σ H xs us Q I rs q
theorem kP:bz X (.type "tuple") (fun xs H Q=>∃p ys,xs=[.ref p]/\((SqL X.K H p ys/\∀l,H l=none->Q (.ref l) (upd H l (.tup ys)))\/(SqT X.K H p ys/\Q (.ref p) H))):=by
 intro pins s σ H xs us Q I r h;obtain⟨p,ys,rfl,h⟩:=h;obtain⟨u,rfl,rx⟩:=vals1 r;cases rx;rcases h with⟨hq,q⟩|⟨hq,q⟩;·obtain⟨its,r',pl,hz⟩:=I.list hq;have hlen:=r'.length;refine call_tuple_list pl.isList (fun h' kp=>?_) (by simp only[List.size_toArray]<;>omega);have I1:Inv X pins σ H {s with heap:=h'}:=I.kept (t':=s.toks) kp;have I2:Inv X pins σ (upd H h'.objs.size (.tup ys)) {s with heap:=h'.push {cls:=.type "tuple",data:=.seq its.toArray}}:=I1.laid (t':=s.toks) (fun b o e=>Heap.get?_push_of_some _ e) (Nat.le_refl _) (show bo X.prog X.w _ _ _ (.tup ys)from⟨hz,its,r',IsTup.new _ _⟩);exact⟨.ref h'.objs.size,_,I2,rfl,q _ (I1.hok.fresh (Nat.le_refl _))⟩
 ·obtain⟨its,r',pl,hz⟩:=I.tuple hq;exact call_tuple_same pl ⟨.ref p,H,I,rfl,q⟩
noncomputable def tyV(K:W.Frag)(T:String)(x:V)(H:Hp):Prop:=match x with|.str _=>T="str"|.int _=>T="int"|.ref p=>(T="list"/\∃xs,SqL K H p xs)\/(T="tuple"/\∃o,K.lookup p=some o/\o.cls=.type "tuple"/\o.dict=none)\/(T="dict"/\((∃kvs,H p=some (.dK kvs))\/∃kvs,H p=some (.dT kvs)))\/(T="set"/\∃S n,H p=some (.set S n))|_=>False
theorem xU{pins:List (Addr×Obj)}{σ:St}{H:Hp}{s:Shared}{T:String}{x:V}{v:Value}(I:Inv X pins σ H s)(r:RelV x v)(ty:tyV X.K T x H):
 s.TypeIs v T/\∀a,v=.ref a->∃ob,s.heap.get? a=some ob/\ob.dict=none:=by cases x with|str z=>obtain⟨t,rfl⟩:=r;cases(show T="str"from ty);exact⟨typeIs_str s z t,fun _ e=>nomatch e⟩|int i=>obtain⟨t,rfl⟩:=r;cases(show T="int"from ty);exact⟨typeIs_int s i t,fun _ e=>nomatch e⟩|ref p=>
  cases r;rcases ty with⟨rfl,xs,hq⟩|⟨rfl,o,hk,hc,hd⟩|⟨rfl,hk⟩|⟨rfl,S,n,hk⟩;·obtain⟨its,_,pl,_⟩:=I.list hq;refine⟨pl.isList.typeIs,fun a e=>?_⟩;cases e;obtain⟨o,n,e,c,hd,_⟩:=pl;exact⟨o,e,hd⟩
  ·refine⟨⟨o,I.kIn p o hk,hc⟩,fun a e=>?_⟩;cases e;exact⟨o,I.kIn _ o hk,hd⟩
  ·have z:∃o,s.heap.get? p=some o/\o.ExactDict:=by
    rcases hk with⟨kvs,hk⟩|⟨kvs,hk⟩;·obtain⟨_,_,_,_,o,_,_,e,ex,_⟩:=I.hok p _ hk;exact⟨o,e,ex⟩
    ·obtain⟨_,_,_,_,o,_,_,e,ex,_⟩:=I.hok p _ hk;exact⟨o,e,ex⟩
   obtain⟨o,e,ex⟩:=z;refine⟨⟨o,e,ex.1⟩,fun a e2=>?_⟩;cases e2;exact⟨o,e,ex.2.1⟩
  ·obtain⟨o,_,_,_,e,ex,_⟩:=I.hok p _ hk;refine⟨⟨o,e,ex.1⟩,fun a e2=>?_⟩;cases e2;exact⟨o,e,ex.2.1⟩|_=>exact False.elim ty
noncomputable def ahO(K:W.Frag)(T:String)(r:V->List V->Hp->VK->Prop)(to:TE):TE:=fun σ H Q=>to σ H fun x H1=>tyV K T x H1/\r x [] H1 Q
noncomputable def tBM(K:W.Frag)(T:String)(r:V->List V->Hp->VK->Prop)(to:TE)(t:TA):TE:=fun σ H Q=>to σ H fun x H1=>tyV K T x H1/\t σ H1 fun xs H2=>r x xs H2 Q
variable{o e:Expr}{es:List Expr}{to:TE}{t:TA}{name:Str}{apos cpos:Pos}{T id:String}{r:V->List V->Hp->VK->Prop}
theorem acz(pa:PlainAttrs T)(slot:Slot T name id)(hty:typeOf (.builtin id)=pure (.type "method_descriptor"))(hm:MtR X id r)(ho:PE X o to)(hbase:attributeBase o name X.env (eval o X.env)=eval o X.env:=by rfl)(hline:(apos.endLine==cpos.line)=true:=by rfl):PE X (.Call (.Attribute o name apos) [] [] cpos) (ahO X.K T r to):=by intro pins s σ H Q I h;refine wpAny_Call_method0_late hbase hline (thn (ho pins s σ H _ I h) fun v s1⟨x,H1,I1,r1,ty,q1⟩=>?_);obtain⟨h1,h2⟩:=xU I1 r1 ty;exact⟨T,id,pa,slot,hty,h1,h2,Calls.callWith_builtin rfl (PySem.evalArgs_none (hm pins s1 σ H1 x [] v [] Q I1 r1 .nil q1))⟩
theorem pe_bm(pa:PlainAttrs T)(slot:Slot T name id)(hty:typeOf (.builtin id)=pure (.type "method_descriptor"))(hm:MtR X id r)(ho:PE X o to)(ha:PA X (e::es) t)(hbase:attributeBase o name X.env (eval o X.env)=eval o X.env:=by rfl)(hfew:((backTo cpos (starEach (e::es) X.env)).all (fun x=>!x.1)&&(backToKw cpos (keywordEach [] X.env)).all (fun x=>x.1.isSome)&&decide ((e::es).length+([]:List Keyword).length+(if([]:List Keyword).isEmpty then 0 else 1)<30))=true:=by rfl)(hline:(apos.endLine==cpos.line)=true:=by rfl)(hs:starEach (e::es) X.env=(false,eval e X.env)::starEach es X.env:=by rfl)(hplain:(backTo cpos (starEach es X.env)).any (·.1)=false:=by rfl):PE X (.Call (.Attribute o name apos) (e::es) [] cpos) (tBM X.K T r to t):=by intro pins s σ H Q I h;refine wpAny_Call_method_late hbase hfew hline rfl (thn (ho pins s σ H _ I h) fun v s1⟨x,H1,I1,r1,ty,q1⟩=>?_);obtain⟨h1,h2⟩:=xU I1 r1 ty;refine⟨T,id,pa,slot,hty,h1,h2,?_⟩;have hA:=ha cpos pins s1 σ H1 _ I1 q1;rw[hs]at hA⊢;refine Calls.callWith_builtin (by show(false||(backTo cpos (starEach es X.env)).any (·.1))=false;rw[hplain]<;>rfl) (Calls.evalArgs_plain ?_);exact thn hA fun us s2⟨vs,H2,I2,r2,q2⟩=>hm pins s2 σ H2 x vs v us Q I2 r1 r2 q2
end
end L2
namespace L2
open PySem PySem.Spec PyProof.Rows
noncomputable def MtM(X:Cx)(id:String)(r:V->List V->Hp->VK->Prop):Prop:=∀(pins:List (Addr×Obj))(s:Shared)(σ:St)(H:Hp)(x:V)(xs:List V)(v:Value)(us:List Value)(Q:VK),Inv X pins σ H s->RelV x v->Vals xs us->r x xs H Q->wpAny (model X.prog X.w) X.A (call (.builtin id) (v::us)) (EP X pins σ Q) X.xe s
theorem Vals.one:∀{x:V}{us:List Value},Vals [x] us->∃u,us=[u]/\RelV x u|_,_,.cons r .nil=>⟨_,rfl,r⟩
theorem Vals.zero:∀{us:List Value},Vals [] us->us=[]|_,.nil=>rfl
theorem Vals.dropLast{xs:List V}{us:List Value}(h:Vals xs us):Vals xs.dropLast us.dropLast:=by induction h with|nil=>exact .nil|cons r t ih=>cases t with|nil=>exact .nil|cons q t'=>exact .cons r ih
theorem ro{α:Type}(l:List α):l.eraseIdx (l.length-1)=l.dropLast:=by induction l with|nil=>rfl|cons a r ih=>cases r with|nil=>rfl|cons b r=>
   have e:(a::b::r).length-1=((b::r).length-1)+1:=by have h1:(a::b::r).length=r.length+2:=rfl;have h2:(b::r).length=r.length+1:=rfl;omega
   rw[e,List.eraseIdx_cons_succ,ih];all_goals rfl
section
variable{X:Cx}{pins:List (Addr×Obj)}{σ:St}{H:Hp}{s:Shared}{l b:Addr}{xs ys zs:List V}
theorem Inv.aif{its its':List Value}{n:Nat}{f:Array Value->Array Value}{t':Nat}(I:Inv X pins σ H s)(hH:H l=some (.lst xs))(e:s.heap.get? l=some {cls:=.type "list",data:=.seq its.toArray n})(hf:f its.toArray=its'.toArray)(hv:Vals ys its')(hz:ys.length<=sizeLine):Inv X pins σ (upd H l (.lst ys)) {s with heap:=s.heap.update l (Obj.mapSeq f),toks:=t'}:=by have q:=PySem.IsL.update e f;rw[hf]at q;refine I.write (x:=l) (e:=l) (by rw[hH];exact trivial) (.inl rfl) (fun b' u hb hu=>(Heap.get?_update_other s.heap (Obj.mapSeq f) (Ne.symm hb)).trans hu) ⟨_,q⟩ ?_;exact⟨hz,its',_,hv,q⟩
theorem Inv.agP{its:List Value}{t':Nat}(I:Inv X pins σ H s)(hv:Vals ys its)(hz:ys.length<=sizeLine):Inv X pins σ (upd H s.heap.objs.size (.lst ys)) {s with heap:=s.heap.push {cls:=.type "list",data:=.seq its.toArray},toks:=t'}:=I.laid (fun _ _ q=>Heap.get?_push_of_some _ q) (Nat.le_refl _) ⟨hz,its,0,hv,Heap.get?_push_size _ rfl⟩
theorem Inv.fresh(I:Inv X pins σ H s):H s.heap.objs.size=none:=I.hok.fresh (Nat.le_refl _)
theorem Inv.aie(I:Inv X pins σ H s)(hH:H l=some (.lst xs)):xs.length<=sizeLine/\∃(its:List Value)(n:Nat),Vals xs its/\xs.length=its.length/\s.heap.get? l=some {cls:=.type "list",data:=.seq its.toArray n}:=by obtain⟨z,its,n,r,e⟩:=I.hok l _ hH;exact⟨z,its,n,r,r.length,e⟩
end
section
variable{X:Cx}
noncomputable def rAppend:V->List V->Hp->VK->Prop:=fun x vs H Q=>∃l xs y,x=.ref l/\vs=[y]/\H l=some (.lst xs)/\xs.length<sizeLine/\Q .non (upd H l (.lst (xs++[y])))
theorem mt_append:MtM X "list.append" rAppend:=by intro pins s σ H x vs v us Q I rx rv h;obtain⟨l,xs,y,rfl,rfl,hH,hz,q⟩:=h;cases rx;obtain⟨u,rfl,ru⟩:=rv.one;obtain⟨z,its,n,r,hl,e⟩:=I.aie hH;refine call_meets F.slot_list_append ⟨_,e,rfl⟩ F.entry_list_append (F.args_list_append_2 _ _) (PySem.list_append l its.toArray n u (by rw[List.size_toArray];omega)) ⟨e,?_⟩;refine⟨.non,_,I.aif (its':=its++[u]) hH e (by simp) (r.append (.cons ru .nil)) ?_,rfl,q⟩;rw[List.length_append,List.length_singleton];omega
noncomputable def ahV:V->List V->Hp->VK->Prop:=fun x vs H Q=>∃l xs y,x=.ref l/\vs=[]/\H l=some (.lst xs)/\xs[xs.length-1]?=some y/\Q y (upd H l (.lst xs.dropLast))
theorem acY:MtM X "list.pop" ahV:=by
 intro pins s σ H x vs v us Q I rx rv h;obtain⟨l,xs,y,rfl,rfl,hH,hy,q⟩:=h;cases rx;have hus:=rv.zero;subst hus;obtain⟨z,its,n,r,hl,e⟩:=I.aie hH;obtain⟨u,hu,ru⟩:=r.get hy;have hy':its.toArray[its.toArray.size-1]?=some u:=by show its.toArray[its.length-1]?=some u;rw[<-Array.getElem?_toList,<-hl];exact hu
 refine call_meets F.slot_list_pop ⟨_,e,rfl⟩ F.entry_list_pop (F.args_list_pop_1 _) (MeetsSeq.list_pop_last l its.toArray n u hy' (by rw[List.size_toArray];omega)) ⟨e,?_⟩;refine⟨y,_,I.aif (its':=its.dropLast) hH e ?_ r.dropLast ?_,ru,q⟩;·show its.toArray.eraseIdxIfInBounds (its.toArray.size-1)=its.dropLast.toArray;rw[List.size_toArray,List.eraseIdxIfInBounds_toArray,ro]
 ·rw[List.length_dropLast];omega
end
section
variable{prog:Program}{w:World}{A:Around}{E:Value->Shared->Prop}{s:Shared}
end
section
variable{X:Cx}
end
end L2
namespace Att
open PySem PySem.W PySem.Calls PyProof.Rows
theorem jj{P:Params}{h:Heap}:∀(ns:List Int)(vs:List Value),WellAll P h vs (ns.map WData.int)->IntsAre vs ns:=by intro ns;induction ns with|nil=>intro vs w;rw[List.map_nil]at w;cases w;exact .nil|cons n ns ih=>intro vs w;rw[List.map_cons]at w;cases w with|cons a b=>cases a;exact .cons _ _ (ih _ b)
theorem sU{l:OpenLaw}{n:Nat}(hn:l.most=some n){P:Params}{h:Heap}{args:List WData}{vals:List Value}(hpre:l.row.toRowW.claim.pre args=true)(hwl:WellAll P h vals args):∃a vs ns,vals=[Value.ref a]/\args=[WData.list (ns.map WData.int)]/\h.get? a=some {cls:=.type "list",data:=.seq vs.toArray}/\IntsAre vs ns/\ns.length<=n:=by
 have hsh:WShape.hasAll [] args [.list .int]=true:=(pre_splitW hpre).1;have hc:l.pre.holds [] {args:=args}=true:=(pre_splitW hpre).2;obtain⟨d,r,rfl,h1,h2⟩:=hasAllW_cons hsh;obtain rfl:=hasAllW_nil h2;obtain⟨xs,rfl,h3⟩:=hasW_list h1;obtain⟨ns,rfl⟩:=items_int h3;have hlen:ns.length<=n:=by
  unfold OpenLaw.pre at hc;have h4:(WTm.not (.lt (.lit (.int (n:Int))) (.len (.arg 0)))).holds [] {args:=[.list (ns.map .int)]}=true:=by have h4:=(holds_andW hc).1;rw[hn]at h4;exact h4
  have h5:=condW_of h4 (w_not (w_lt w_lit (w_len_list (w_arg rfl))));rw[List.length_map]at h5;refine Nat.le_of_not_lt fun q=>?_;have q':(n:Int)<((ns.length:Nat):Int):=by omega
  first|(rw[decide_eq_true q']at h5;exact absurd h5 (by decide))|(simp at h5;omega)
 cases hwl with|cons w1 w2=>cases w2;cases w1 with|list ho hall=>exact⟨_,_,ns,rfl,rfl,ho,jj ns _ hall,hlen⟩
theorem tM(l:OpenLaw)(args:List WData):l.row.toRowW.claim.post args (.bool true) args=true:=postW_of (r:=l.row.toRowW) (X:=(true==true)) (show WShape.has [] (.bool true) .bool=true by first|rfl|decide|simp[WShape.has,WShape.arms,WShape.armsAll]) (show(WTm.eq .res (.lit (.bool true))).value [] {args:=args,res:=some (.bool true),after:=args}=some (.bool (true==true))from w_eq_bool (w_res rfl) w_lit) rfl
theorem oJ{l:OpenLaw}{n:Nat}{q:Program}{loose:List Str}{XP:(Str->Option Value)->Heap->Prop}{YP:World->Heap->Prop}{d:DefRec}(hn:l.most=some n)(hdf:d.params.defaults=[])(call:∀(w:World)(s₀ s₁:Shared)(mg mb:Str->Option Value)(fa:Addr)(o:Obj)(pm cd doc:Value)(a:Addr)(vs:List Value)(ns:List Int),Ground q loose [] XP w s₀ mg mb s₁.heap->YP w s₁.heap->s₁.heap.get? fa=some o->o.data=.func (docDef d.name d.params d.body d.scope pm cd doc)->s₁.heap.CodeRec cd d.name->mg d.name=some (.ref fa)->s₁.heap.get? a=some {cls:=.type "list",data:=.seq vs.toArray}->IntsAre vs ns->ns.length<=n->s₁.gens=#[]->codeAny (model l.prog w) callerA (.call (.ref fa) ⟨[.ref a],[]⟩) (fun r s'=>r=.ok (.ret (.bool true))/\OldK s₁.heap s'.heap/\s'.os=s₁.os/\AllBare s'.gens) s₁):WalkO q loose XP YP l.row.toRowW d [] (fun f vs=>PySem.call f vs):=by intro w s₀ s₁ mg mb G Y fa o pm cd doc dV kV ho hd hcd hD hmg hg args vals as hpre hlay hrd hwl hlo;obtain rfl:dV=.none:=Dflts.none hD hdf;obtain rfl:kV=.none:=Dflts.noKw hD;obtain⟨a,vs,ns,rfl,rfl,hobj,hints,hlen⟩:=sU hn hpre hwl;refine enter_call (codeAny_mono (call w s₀ s₁ mg mb fa o pm cd doc a vs ns G Y ho (fd_plain hd) hcd hmg hobj hints hlen hg) fun r s' hq=>?_);obtain⟨rfl,h2,h3,h4⟩:=hq;exact⟨.inl ⟨.bool true,.bool true,[],rfl,fun _=>rfl,.bool true,tM l _,fun _=>⟨List.Pairwise.nil,fun _ hm=>(nomatch hm)⟩⟩,h2,h3,h4⟩
section
variable{prog:Program}{w:World}{A:Around}{E:Value->Shared->Prop}{s:Shared}{K:Frag}
end
end Att
namespace L2
open PySem PySem.Spec PyProof.Rows
theorem lp:∀{vs:List Value}{ns:List Int},IntsAre vs ns->Vals (ns.map V.int) vs|_,_,.nil=>.nil|_,_,.cons n t h=>.cons ⟨t,rfl⟩ (lp h)
noncomputable def ahB(H:Hp):Prop:=∀b,H b=none\/∃o xs,H b=some (.frz o (.lst xs))
theorem wQ{P:Program}{w:World}{K:W.Frag}{mg mb:Str->Option Value}{CX:CXT}{k:Nat}{fa a:Addr}{fd:FuncData}{x:Str}{sp:Sp}{s₁:Shared}{vs:List Value}{ns:List Int}(KX:K.In s₁.heap)(hns:s₁.heap.Ns mainGlobals mg)(hb:s₁.heap.Ns builtinsNs mb)(hbb:∀x:Str,x≠"__name__"->mb x=bootBuiltins x)(hlim:s₁.heap.NoLimit)(hg:s₁.gens=#[])(ha:s₁.heap.get? a=some {cls:=.type "list",data:=.seq vs.toArray})(hi:IntsAre vs ns)(hl:ns.length<=sizeLine)(hr:Room k callerA)(F:∀base:Heap,K.In base->base.Ns mainGlobals mg->FnOk P w K mg base CX k fa fd [x] sp)(hbind:∀(s:Shared)(u:Value),BindsTo s fd ⟨[u],[]⟩ [(x,u)])(hsp:∀H:Hp,ahB H->SqL K H a (ns.map V.int)->sp [.ref a] H (fun v _=>v=.bl true) fun _ _ _=>False)(hCX:∀H e s',CX [] H s₁ (fun _ _ _=>False) e s'->False):codeAny (model P w) callerA (.call (.ref fa) ⟨[.ref a],[]⟩) (fun r s'=>r=.ok (.ret (.bool true))/\OldK s₁.heap s'.heap/\s'.os=s₁.os/\AllBare s'.gens) s₁:=by
 have rv:=lp hi;have lenV:=hi.length;-- from an abstract heap in which nothing but the script may be tracked
 have core:∀H:Hp,ahB H->SqL K H a (ns.map V.int)->HOk P w H s₁.heap->(∀b,H b≠none->b=a)->(H a≠none->K.lookup a=none)->codeAny (model P w) callerA (.call (.ref fa) ⟨[.ref a],[]⟩) (fun r s'=>r=.ok (.ret (.bool true))/\OldK s₁.heap s'.heap/\s'.os=s₁.os/\AllBare s'.gens) s₁:=by
  intro H hO hS hok hA hK;have base_of:∀{b:Addr}{o:Obj},s₁.heap.get? b=some o->H b=none->(xh s₁.heap H).get? b=some o:=fun e n=>xg e n;have noA:∀{b:Addr}{o:Obj}{es:Array DictEntry}{ep:Nat},s₁.heap.get? b=some o->o.data=.dict es ep->H b=none:=fun{b o es ep}e d=>by cases q:H b with|none=>rfl|some u=>have e':b=a:=hA b (by rw[q];simp);subst e';rw[ha]at e;cases e;have d':Data.seq vs.toArray _=Data.dict es ep:=d;cases d'
  have nsK:∀{b:Addr}{m:Str->Option Value},s₁.heap.Ns b m->(xh s₁.heap H).Ns b m:=fun{b m}⟨o,es,ep,e,d,r⟩=>⟨o,es,ep,base_of e (noA e d),d,r⟩;have hKb:K.In (xh s₁.heap H):=fun b o e=>base_of (KX b o e) (by cases q:H b with|none=>rfl|some u=>have e':b=a:=hA b (by rw[q];simp);subst e';rw[hK (by rw[q];simp)]at e;cases e);have hM:Mod K mg (xh s₁.heap H):=⟨hKb,nsK hns,⟨mb,nsK hb,hbb⟩,let⟨mc,h1,h2⟩:=hlim;⟨mc,nsK h1,h2⟩⟩;have e0:Env0 P w K mg (xh s₁.heap H) callerA [] s₁ H:=⟨rfl,hM,fun b o e=>zM e,Nat.le_of_eq (uK _ _),trivial,fun b hb=>absurd (show b∈([]:List Addr)from hb) (by simp),hok,.of_eq hg⟩;refine codeAny_mono ((F _ hKb (nsK hns)).run callerA [] s₁ H ⟨[.ref a],[]⟩ [.ref a] [.ref a] _ _ hr trivial e0 (hbind s₁ (.ref a)) (.cons rfl .nil) (hsp H hO hS)) fun r s' h=>?_;cases r with|error e=>exact(hCX H e s' h).elim|ok fl=>cases fl with|next=>exact False.elim h|brk=>exact False.elim h|cont=>exact False.elim h|ret u=>obtain⟨v,H',os,bare,un,hok',r',q⟩:=h;have q':v=.bl true:=q;subst q';obtain rfl:u=Value.bool true:=r';refine⟨rfl,OldK.of_keep fun b o e=>?_,os,bare⟩;cases q:H b with|none=>exact un.keep b o e q (by intro z;exact absurd (show b∈([]:List Addr)from z) (by simp)) (by simp)|some u=>
     rcases hO b with z|⟨ob,xs,z⟩;·rw[q]at z;cases z
     ·have z2:=un.frzs b ob _ z;obtain⟨e1,_⟩:=hok b _ z;obtain⟨e2,_⟩:=hok' b _ z2;rw[e]at e1;cases e1;exact e2
 cases hk:K.lookup a with|some o=>-- the script is one of the module's own objects
 have e:=KX a o hk;rw[ha]at e;cases e;refine core (fun _=>none) (fun _=>.inl rfl) (.inr ⟨_,vs.toArray,_,hk,rfl,rfl,rfl,by rw[List.size_toArray,lenV];exact hl,by simpa using rv⟩) (fun b u z=>by have z':(none:Option HO)=some u:=z;cases z') (fun b z=>absurd rfl z) fun z=>absurd rfl z|none=>
  refine core (fun b=>if b=a then some (.frz {cls:=.type "list",data:=.seq vs.toArray} (.lst (ns.map V.int)))else none) (fun b=>?_) (.inl (.inr ⟨{cls:=.type "list",data:=.seq vs.toArray},if_pos rfl⟩)) (fun b u z=>?_) (fun b z=>?_) fun _=>hk
  ·by_cases hb:b=a;·exact .inr ⟨_,_,if_pos hb⟩
   ·exact .inl (if_neg hb)
  ·by_cases hb:b=a;·have z':=(if_pos hb).symm.trans z;cases z';subst hb;exact⟨ha,by rw[List.length_map];exact hl,vs,_,rv,ha⟩
   ·have z':=(if_neg hb).symm.trans z;cases z'
  ·by_cases hb:b=a;·exact hb
   ·exact absurd (if_neg hb) z
end L2
namespace L2
open PySem PySem.Spec PyProof.Rows
theorem yX{l:W.OpenLaw}{n k:Nat}{q:Program}{loose:List Str}{XP:(Str->Option Value)->Heap->Prop}{YP:World->Heap->Prop}{d:DefRec}{K:Params->W.Frag}{CX:World->CXT}{sp:World->Sp}{x:Str}(hn:l.most=some n)(hn2:n<=sizeLine)(hdf:d.params.defaults=[])(hr:Room k callerA)(hY:∀(w:World)(h:Heap),YP w h->(K w.params).In h)(F:∀(w:World)(mg:Str->Option Value)(fa:Addr)(h:Heap),(K w.params).In h->h.Ns mainGlobals mg->mg d.name=some (.ref fa)->∃fd:FuncData,(∀(s:Shared)(u:Value),BindsTo s fd ⟨[u],[]⟩ [(x,u)])/\∀base:Heap,(K w.params).In base->base.Ns mainGlobals mg->FnOk l.prog w (K w.params) mg base (CX w) k fa fd [x] (sp w))(hsp:∀(w:World)(H:Hp)(a:Addr)(ns:List Int),ns.length<=n->ahB H->SqL (K w.params) H a (ns.map V.int)->sp w [.ref a] H (fun v _=>v=.bl true) fun _ _ _=>False)(hCX:∀(w:World)(H:Hp)(s:Shared)(e:Value)(s':Shared),CX w [] H s (fun _ _ _=>False) e s'->False):W.WalkO q loose XP YP l.row.toRowW d [] (fun f vs=>PySem.call f vs):=by refine Att.oJ hn hdf fun w s₀ s₁ mg mb fa o pm cd doc a vs ns G Y ho hd hcd hmg hobj hints hlen hg=>?_;have KX:=hY w _ Y;obtain⟨fd,hb,hF⟩:=F w mg fa _ KX G.T.g hmg;exact wQ KX G.T.g G.T.b G.T.builtins G.T.nolimit hg hobj hints (Nat.le_trans hlen hn2) hr hF hb (fun H hO hS=>hsp w H a ns hlen hO hS) fun H e s'=>hCX w H s₁ e s'
end L2
namespace L2
open PySem PySem.Spec PyProof.Rows
noncomputable def bG(s:Stmt):Arguments:=match s with|.FunctionDef _ a _ _ _ _ _ _ _ _=>a|_=>{posonlyargs:=[],args:=[],vararg:=none,kwonlyargs:=[],kw_defaults:=[],kwarg:=none,defaults:=[]}
noncomputable def aO(s:Stmt):List Stmt:=match s with|.FunctionDef _ _ b _ _ _ _ _ _ _=>b|_=>[]
noncomputable def af(s:Stmt):Scope:=match s with|.FunctionDef _ _ _ _ _ _ sc _ _ _=>sc|_=>{kind:=.function,names:=[],isGenerator:=false,isCoroutine:=false}
noncomputable abbrev CX0:CXT:=fun _ _ _ _ _ _=>False
noncomputable abbrev E0:XK:=fun _ _ _=>False
theorem acB{X:Cx}:Passes CX0 X E0:=fun _ _ _ _ _ _ _ h=>h.elim
structure Fun(K:W.Frag)(x qual:Str)(st:Stmt)(f:Addr)(fd:FuncData):Prop where
 ex:∃(oc:Value)(od:Option Addr)(kV doc pm:Value)(an:Option Addr)(cdv ct:Value)(osl:Array (Option Value)),fd=W.fnOf x qual (bG st) (aO st) (af st) .none kV doc pm an cdv ct/\K.lookup f=some ⟨oc,od,.func fd,osl⟩/\W.codeIn K cdv qual=true
 kp:W.keepIn K (.ref f)=true
section
variable{P:Program}{w:World}{K:W.Frag}{mg:Str->Option Value}{base:Heap}
theorem Fun.ok{x qual:Str}{st:Stmt}{f:Addr}{fd:FuncData}{N ps:List Str}{k:Nat}{sp:Sp}(F:Fun K x qual st f fd)(S:FnScope N ps (af st))(len:∀vs H Q E,sp vs H Q E->vs.length=ps.length)(hbody:∀(cdv:Value)(A:Around)(outer:List Env)(s:Shared)(H:Hp)(vs:List V)(Q:VK)(E:XK),Room k (A.deeper (envOfC qual (af st) s.heap.objs.size f cdv))->sp vs H Q E->∃t,PSs (gH CX0 P w K mg base N qual (af st) f cdv A outer s H E).nox (aO st) t/\t {nx:=fun _ H'=>Q .non H',rt:=Q} (start N vs) H):FnOk P w K mg base CX0 (k+1) f fd ps sp:=by obtain⟨oc,od,kV,doc,pm,an,cdv,ct,osl,rfl,lk,hcd⟩:=F.ex;refine xt lk hcd S len fun A outer s H vs Q E hr _ hsp=>?_;obtain⟨t,h,q⟩:=hbody cdv A outer s H vs Q E hr hsp;exact⟨t,h.nox,q⟩
theorem Fun.binds{x qual:Str}{st:Stmt}{f:Addr}{fd:FuncData}{ps:List Str}(F:Fun K x qual st f fd)(h:∀(kV doc pm:Value)(an:Option Addr)(cdv ct:Value)(us:List Value),us.length=ps.length->bindArgs (W.fnOf x qual (bG st) (aO st) (af st) .none kV doc pm an cdv ct) ⟨us,[]⟩=pure (ps.zip us)):Binds K fd ps []:=by obtain⟨oc,od,kV,doc,pm,an,cdv,ct,osl,rfl,lk,hcd⟩:=F.ex;exact .all (h kV doc pm an cdv ct)
theorem qf{x qual:Str}{st:Stmt}{f:Addr}{oc:Value}{od an:Option Addr}{osl:Array (Option Value)}{kV doc pm cdv ct:Value}(l:K.lookup f=some ⟨oc,od,.func (W.fnOf x qual (bG st) (aO st) (af st) .none kV doc pm an cdv ct),osl⟩)(c:W.codeIn K cdv qual=true)(k:W.keepIn K (.ref f)=true):Fun K x qual st f (W.fnOf x qual (bG st) (aO st) (af st) .none kV doc pm an cdv ct):=⟨⟨oc,od,kV,doc,pm,an,cdv,ct,osl,rfl,l,c⟩,k⟩
end
section
variable{X:Cx}
theorem pv(i:Nat){x:Str}{pos:Pos}(hN:X.N[i]?=some x:=by rfl)(hv:Vis X.env.scope x:=by first|exact Or.inl rfl|exact Or.inr (Or.inl rfl)|exact Or.inr (Or.inr rfl))(hd:(x==("__debug__":Str))=false:=by decide)(hcd:(x==("__classdict__":Str))=false:=by decide):PE X (.Name x pos) (tVar i):=acr hN hv hd hcd
end
noncomputable def Same(H H':Hp):Prop:=∀b o,H b=some o->H' b=some o
theorem Same.refl(H:Hp):Same H H:=fun _ _ h=>h
theorem Same.trans{H H1 H2:Hp}(a:Same H H1)(b:Same H1 H2):Same H H2:=fun c o h=>b c o (a c o h)
theorem Same.free{H H':Hp}(e:Same H H'){l:Addr}(h:H' l=Option.none):H l=Option.none:=by cases q:H l with|none=>rfl|some o=>rw[e l o q]at h;cases h
theorem Same.seq{K:W.Frag}{H H':Hp}{a:Addr}{xs:List V}(e:Same H H')(h:SqL K H a xs):SqL K H' a xs:=by
 rcases h with(h|⟨o,h⟩)|h;·exact .inl (.inl (e _ _ h))
 ·exact .inl (.inr ⟨o,e _ _ h⟩)
 ·exact .inr h
end L2
set_option maxHeartbeats 4000000
namespace FM
theorem ya(f:Nat->Int):∀(j:Nat)(L:List Int),(∀k,k<j->f k∈L)->(∀a b,a<j->b<j->f a=f b->a=b)->j<=L.length
|0,_,_,_=>Nat.zero_le _|j+1,L,h,inj=>by have hj:=h j (Nat.lt_succ_self j);have ih:=ya f j (L.erase (f j)) (fun k hk=>by
   have ne:f k≠f j:=fun e=>by have:=inj k j (by omega) (by omega) e;omega
   exact(List.mem_erase_of_ne ne).mpr (h k (by omega))) (fun a b ha hb e=>inj a b (by omega) (by omega) e);have e:=List.length_erase_of_mem hj;have pos:0<L.length:=List.length_pos_of_mem hj;omega
noncomputable def nx(x:Int):Int:=if x=200 then -200 else x+1
noncomputable def xk(x:Int):Nat->Int|0=>x|k+1=>nx (xk x k)
theorem yH(x:Int)(h1:-200<=x)(h2:x<=200):∀k:Nat,xk x k=(x+200+(k:Int))%401-200|0=>by simp only[xk];omega|k+1=>by have ih:=yH x h1 h2 k;simp only[xk,nx];rw[ih];split<;>omega
theorem abh{x:Int}(h1:-200<=x)(h2:x<=200){a b:Nat}(ha:a<=300)(hb:b<=300)(e:xk x a=xk x b):a=b:=by rw[yH x h1 h2,yH x h1 h2]at e;omega
theorem few{x:Int}(h1:-200<=x)(h2:x<=200){j:Nat}{L:List Int}(hL:L.length<=8)(hj:j<=9)(h:∀k,k<j->xk x k∈L):j<=8:=by have:=ya (xk x) j L h fun a b ha hb e=>abh h1 h2 (by omega) (by omega) e;omega
end FM
namespace FM
noncomputable abbrev S3:=Int×Int×Int
noncomputable def lt(q:Int)(p:S3):S3:=let r:=q%4;if r=0 then(p.1,p.2.1,(p.2.2+q)%4)else if r=1 then(0-p.2.1,p.1,(p.2.2+q)%4)else if r=2 then(0-p.1,0-p.2.1,(p.2.2+q)%4)else(p.2.1,0-p.1,(p.2.2+q)%4)
noncomputable def Good(p:S3):Prop:=-200<=p.1/\p.1<=200/\-200<=p.2.1/\p.2.1<=200/\0<=p.2.2/\p.2.2<4
end FM
namespace FM
end FM
namespace FM
end FM
namespace L2
open PySem PySem.Spec PyProof.Rows
noncomputable def bI(cells:List (Str×Addr)):List (Str×NameKind)->List (Str×Addr)->List (Str×Addr)|[],acc=>acc|(n,k)::r,acc=>if k==.free then(match cells.lookup n with|some c=>bI cells r ((n,c)::acc)|none=>bI cells r acc)else bI cells r acc
theorem gi{scope:Scope}{env:Env}(h:∀y∈scope.names,y.2=.free->(env.cells.lookup y.1).isSome=true):closureFor scope env=pure (bI env.cells scope.names []):=by
 have all:∀(names:List (Str×NameKind))(acc:List (Str×Addr)),(∀y∈names,y.2=.free->(env.cells.lookup y.1).isSome=true)->(forIn names acc fun(x:Str×NameKind)(r:List (Str×Addr))=>(match x with|(name,kind)=>if(kind==NameKind.free)=true then do let c <-cellOf env name;pure (ForInStep.yield ((name,c)::r))else pure (ForInStep.yield r):Sem (ForInStep (List (Str×Addr)))))=(pure (bI env.cells names acc):Sem (List (Str×Addr))):=by intro names;induction names with|nil=>intro acc _;rfl|cons y r ih=>
   intro acc hy;obtain⟨n,k⟩:=y;rw[List.forIn_cons];have hr:=fun acc'=>ih acc' fun z hz=>hy z (List.mem_cons_of_mem _ hz);by_cases hk:(k==NameKind.free)=true
   ·have hk':k=.free:=by simpa using hk
    obtain⟨c,hc⟩:=Option.isSome_iff_exists.mp (hy (n,k) List.mem_cons_self hk');have e1:cellOf env n=pure c:=by unfold cellOf;rw[hc]
    simp only[bI,hk,if_true,hc];rw[e1];simpa using hr ((n,c)::acc)
   ·simp only[bI,hk,if_false];simpa using hr acc
 have e:=all scope.names [] h;unfold closureFor;first|(simpa using e)|(rw[e];rfl)|exact e
theorem bB{cells:List (Str×Addr)}{x:Str}{c:Addr}:∀(names:List (Str×NameKind))(acc:List (Str×Addr)),(bI cells names acc).lookup x=some c->acc.lookup x=some c\/cells.lookup x=some c
|[],acc,h=>.inl h|(n,k)::r,acc,h=>by
  unfold bI at h;split at h;·cases e:cells.lookup n with|none=>rw[e]at h;exact bB r acc h|some d=>
    rw[e]at h;rcases bB r _ h with q|q
    ·rw[List.lookup_cons]at q;split at q
     ·rename_i hb;have hb':x=n:=by simpa using hb
      cases q;exact .inr (by rw[hb'];exact e)
     ·exact .inl q
    ·exact .inr q
  ·exact bB r acc h
theorem dY{cells:List (Str×Addr)}{x:Str}:∀(names:List (Str×NameKind))(acc:List (Str×Addr)),(acc.lookup x).isSome=true->((bI cells names acc).lookup x).isSome=true
|[],acc,h=>h|(n,k)::r,acc,h=>by
 unfold bI;split;·cases e:cells.lookup n with|none=>exact dY r acc h|some d=>
  refine dY r _ ?_;rw[List.lookup_cons];split;·rfl
  ·exact h
 ·exact dY r acc h
theorem e7{cells:List (Str×Addr)}{x:Str}:∀(names:List (Str×NameKind))(acc:List (Str×Addr)),(x,NameKind.free)∈names->(cells.lookup x).isSome=true->((bI cells names acc).lookup x).isSome=true
|(n,k)::r,acc,hm,hc=>by
 rcases List.mem_cons.mp hm with e|hm;·cases e;obtain⟨c,hc⟩:=Option.isSome_iff_exists.mp hc;unfold bI;simp only[beq_self_eq_true,if_true,hc];refine dY r _ ?_;rw[List.lookup_cons];simp
 ·unfold bI;split;·cases e:cells.lookup n with|none=>exact e7 r acc hm hc|some d=>exact e7 r _ hm hc
  ·exact e7 r acc hm hc
theorem a7{env:Env}{x:Str}:∀{names:List (Str×NameKind)}{k:NameKind},(names.map fun(n,k)=>if(k==NameKind.free&&env.scope.kind==.function&&env.kindOf n==some .cell)then(n,NameKind.cell)else(n,k)).lookup x=some k->names.lookup x=some k\/(k=.cell/\names.lookup x=some .free)
|[],_,h=>by simp at h|(n,k0)::r,k,h=>by
  have ih:=@a7 env x r k;have h':List.lookup x ((if(k0==NameKind.free&&env.scope.kind==.function&&env.kindOf n==some .cell)=true then(n,NameKind.cell)else(n,k0))::(r.map fun(n,k)=>if(k==NameKind.free&&env.scope.kind==.function&&env.kindOf n==some .cell)then(n,NameKind.cell)else(n,k)))=some k:=h;show List.lookup x ((n,k0)::r)=_\/(_/\List.lookup x ((n,k0)::r)=_)
  cases hx:x==n with|true=>
   rw[List.lookup_cons,hx];by_cases hc:(k0==NameKind.free&&env.scope.kind==.function&&env.kindOf n==some .cell)=true
   ·rw[if_pos hc,List.lookup_cons,hx]at h';have hk0:k0=.free:=by simp only[Bool.and_eq_true]at hc;simpa using hc.1.1
    cases h';exact .inr ⟨rfl,by rw[hk0]⟩
   ·rw[if_neg hc,List.lookup_cons,hx]at h';exact .inl h'|false=>
   rw[List.lookup_cons,hx];by_cases hc:(k0==NameKind.free&&env.scope.kind==.function&&env.kindOf n==some .cell)=true;·rw[if_pos hc,List.lookup_cons,hx]at h';exact ih h'
   ·rw[if_neg hc,List.lookup_cons,hx]at h';exact ih h'
section
variable{X:Cx}{pins:List (Addr×Obj)}{σ:St}{H:Hp}{s:Shared}
theorem HOk.y9{P:Program}{w:World}{h:Heap}{a:Addr}{o:HO}(x:HOk P w H h)(hn:H a=none)(new:bo P w (upd H a o) h a o):HOk P w (upd H a o) h:=fun b u e=>by
 by_cases hb:b=a;·subst hb;rw[ag]at e;cases e;exact new
 ·rw[ae hb]at e;exact(x b u e).sO (fun c v _ q=>q) (fun c q=>by rw[ae (aD q hn)];exact q) fun c xs q=>by rw[ae (aD q hn)];exact q
theorem Inv.y9{a:Addr}{o:HO}(I:Inv X pins σ H s)(hn:H a=none)(ha:X.s₀.heap.objs.size<=a)(hL:a≠X.env.locals)(hc:∀x c,X.env.cells.lookup x=some c->c≠a)(hp:∀p∈X.pn++pins,p.1≠a)(new:bo X.prog X.w (upd H a o) s.heap a o):Inv X pins σ (upd H a o) s where
 ok:=I.ok;os:=I.os;bare:=I.bare;base:=⟨I.base.keep,I.base.slot,fun b u q n hx=>by rw[ae (Nat.ne_of_lt (Nat.lt_of_lt_of_le (Heap.lt_size q) ha))];exact I.base.free b u q n hx,I.base.there,fun b xs q=>by have z:=I.base.tups b xs q;rw[ae (aD z hn)];exact z,fun b u v q=>by have z:=I.base.frzs b u v q;rw[ae (aD z hn)];exact z,fun b ps q=>by obtain⟨more,z⟩:=I.base.tbls b ps q;exact⟨more,by rw[ae (aD z hn)];exact z⟩⟩;loc:=I.loc;cell:=I.cell;free:=by rw[ae (Ne.symm hL)];exact I.free
 freeC:=fun x c e=>by rw[ae (hc x c e)];exact I.freeC x c e
 pin:=fun p hp'=>by obtain⟨e,n,r⟩:=I.pin p hp';exact⟨e,by rw[ae (hp p hp')];exact n,r⟩
 hok:=I.hok.y9 hn new;len:=I.len
end
noncomputable abbrev Cx.tri(X:Cx)(E:Value->Shared->Prop)(pn:List (Addr×Obj)):Cx:={X with xe:=E,pn:=pn}
theorem Cx.Ok.tri{X:Cx}(ok:X.Ok)(E:Value->Shared->Prop)(pn:List (Addr×Obj)):(X.tri E pn).Ok:=⟨ok.mod,ok.kind,ok.glob,ok.blt,ok.above,ok.inj,ok.has,ok.cab,ok.hd,ok.frames,ok.stk,ok.exf,ok.bs,ok.bsz,ok.noex,ok.exfs,ok.my,ok.frf⟩
section
variable{X:Cx}{pins:List (Addr×Obj)}{σ:St}{H:Hp}{s:Shared}
theorem Inv.tri(I:Inv X pins σ H s)(E:Value->Shared->Prop):Inv (X.tri E (X.pn++pins)) [] σ H s:=⟨I.ok.tri E _,I.os,I.bare,I.base,I.loc,I.cell,I.free,I.freeC,fun p hp=>I.pin p (by simpa using hp),I.hok,I.len⟩
end
noncomputable def hd1(y:Str):Str:=⟨y.cps.push 32⟩
noncomputable def hid(scope:Scope)(y:Str):Str:=match scope.names.lookup y with|some .local=>hd1 y|_=>y
theorem adI{scope:Scope}{x y:Str}(h:hid scope y=x):(x=hd1 y/\scope.names.lookup y=some .local)\/(x=y/\scope.names.lookup y≠some .local):=by
 unfold hid at h;split at h;·rename_i e;exact .inl ⟨h.symm,e⟩
 ·rename_i e;exact .inr ⟨h.symm,e⟩
noncomputable abbrev Cx.comp(X:Cx)(scope:Scope)(C:Addr)(ts:List Str)(s₂:Shared)(H₂:Hp)(fp:List Addr):Cx:={X with N:=ts++X.N.map (hid scope),s₀:=s₂,H₀:=H₂,env:=compEnvC scope (bI X.env.cells scope.names []) C X.env,outer:=X.stack,stack:=X.stack,ex:=fp,fn:=fun _=>false,pn:=[],xe:=fun _ _=>False}
structure CompLook(X:Cx)(scope:Scope):Prop where
 kind:scope.kind=.function
 nocell:(scope.names.all fun y=>y.2!=.cell)=true
 names:(scope.names.all fun y=>y.2!=.local||scope.names.lookup y.1==some .local)=true
 free:(scope.names.all fun y=>y.2!=.free||X.env.scope.names.lookup y.1==some .cell||X.env.scope.names.lookup y.1==some .free)=true
 apart:(scope.names.all fun y=>(scope.names.lookup (hd1 y.1)).isNone)=true
structure CompScope(X:Cx)(scope:Scope)(ts:List Str):Prop where
 kind:scope.kind=.function
 nocell:∀y∈scope.names,y.2≠.cell
 names:∀y∈scope.names,y.2=.local->scope.names.lookup y.1=some .local
 free:∀y∈scope.names,y.2=.free->X.env.scope.names.lookup y.1=some .cell\/X.env.scope.names.lookup y.1=some .free
 apart:∀y∈scope.names,scope.names.lookup (hd1 y.1)=none
theorem CompLook.scope{X:Cx}{scope:Scope}{ts:List Str}(L:CompLook X scope):CompScope X scope ts where
 kind:=L.kind;nocell:=fun y hy=>by simpa using List.all_eq_true.mp L.nocell y hy
 names:=fun y hy e=>by have h:=List.all_eq_true.mp L.names y hy;rw[e]at h;simpa using h
 free:=fun y hy e=>by have h:=List.all_eq_true.mp L.free y hy;rw[e]at h;simpa using h
 apart:=fun y hy=>by simpa using List.all_eq_true.mp L.apart y hy
noncomputable def uc:List Str->Bool|[]=>true|x::r=>!(r.any fun y=>decide (y=x))&&uc r
theorem pT:∀{N:List Str},uc N=true->N.Nodup|[],_=>List.nodup_nil|x::r,h=>by simp only[uc,Bool.and_eq_true,Bool.not_eq_true',List.any_eq_false,decide_eq_true_eq]at h;exact List.nodup_cons.mpr ⟨fun hx=>h.1 x hx rfl,pT h.2⟩
section
variable{X:Cx}{pins:List (Addr×Obj)}{σ:St}{H:Hp}{s:Shared}
theorem ot{scope:Scope}{ts:List Str}{C:Addr}{fp:List Addr}(S:CompScope X scope ts)(I:Inv X pins σ H s)(hf:∀b∈fp,vq X pins H b)(hfl:∀b∈fp,b<s.heap.objs.size)(hC:s.heap.objs.size<=C):(X.comp scope C ts s H fp).Ok where
 mod:=I.ok.mod;kind:=S.kind;glob:=I.ok.glob;blt:=I.ok.blt;above:=hC;inj:=fun x y c e1 e2=>by have q1:=(bB scope.names [] e1).resolve_left (by simp);have q2:=(bB scope.names [] e2).resolve_left (by simp);exact I.ok.inj x y c q1 q2
 has:=fun x hx=>by
  have hx':scope.names.lookup x=some .free:=by
   rcases hx with hx|hx
   ·rcases a7 (env:=X.env) hx with q|⟨_,q⟩;·exact absurd rfl (S.nocell _ (PySem.mem_of_lookup q))
    ·exact q
   ·rcases a7 (env:=X.env) hx with q|⟨q,_⟩;·exact q
    ·cases q
  have hm:=PySem.mem_of_lookup hx';obtain⟨c,hc⟩:=I.ok.has x (S.free _ hm rfl);exact Option.isSome_iff_exists.mp (e7 scope.names [] hm (by rw[hc];rfl))
 cab:=fun x c h _=>by cases h
 hd:=I.ok.hd;frames:=I.ok.frames;stk:=.inl rfl;exf:=fun b hb=>⟨Nat.ne_of_lt (Nat.lt_of_lt_of_le (hfl b hb) hC),fun x c e=>by have q:=(bB scope.names [] e).resolve_left (by simp);exact(hf b hb).2.2.2.2.1 x c q⟩;bs:=I.bs;bsz:=Nat.le_trans I.ok.bsz I.sz;noex:=fun b o e hb=>by
  rcases(hf b hb).2.2.2.1 with z|z;·exact I.ok.noex b o e z
  ·exact absurd (Nat.lt_of_lt_of_le (Heap.lt_size e) (Nat.le_trans I.ok.bsz z)) (Nat.lt_irrefl _)
 exfs:=fun b hb z=>by
  rcases List.mem_cons.mp (I.pf b z)with e|e;·exact(hf b hb).2.1 e
  ·exact(hf b hb).2.2.1 e
 my:=I.stack;frf:=I.nu
theorem rE{scope:Scope}{ts:List Str}{C:Addr}{fp:List Addr}{s4:Shared}(S:CompScope X scope ts)(I:Inv X pins σ H s)(hf:∀b∈fp,vq X pins H b)(hfl:∀b∈fp,b<s.heap.objs.size)(hC:s.heap.objs.size<=C)(ho:s4.os=s.os)(hg:s4.gens=s.gens)(hk:∀b o,s.heap.get? b=some o->s4.heap.get? b=some o){m:Str->Option Value}(hn:s4.heap.Ns C m):Inv (X.comp scope C ts s H fp) [] (List.replicate ts.length none++σ) H s4 where
 ok:=ot S I hf hfl hC;os:=ho;bare:=by rw[hg];exact I.bare
 base:=Un.kept hk;loc:=⟨m,hn,fun i x v e1 e2 e3=>by
  have hi:ts.length<=i:=by
   rcases Nat.lt_or_ge i ts.length with h|h;·rw[List.getElem?_append_left (by simpa using h),List.getElem?_replicate]at e2;simp[h]at e2
   ·exact h
  rw[List.getElem?_append_right (by simpa using hi)]at e2;rw[List.getElem?_append_right hi]at e1;simp only[List.length_replicate]at e2;rw[List.getElem?_map]at e1;obtain⟨y,ey,hy⟩:=Option.map_eq_some_iff.mp e1;have hv:scope.names.lookup x≠none:=by
   rcases e3 with q|q|q;·rcases a7 (env:=X.env) q with q|⟨_,q⟩<;>(rw[q];exact nofun)
   ·rcases a7 (env:=X.env) q with q|⟨_,q⟩<;>(rw[q];exact nofun)
   ·rcases a7 (env:=X.env) q with q|⟨_,q⟩<;>(rw[q];exact nofun)
  have hxy:x=y/\scope.names.lookup y≠some .local:=by
   rcases adI hy with z|z;·exact absurd (by rw[z.1];exact S.apart _ (PySem.mem_of_lookup z.2)) hv
   ·exact z
  have e1:X.N[i-ts.length]?=some x:=by rw[ey,hxy.1]
  have hap:scope.names.lookup x≠some .local:=by rw[hxy.1];exact hxy.2
  have hfree:scope.names.lookup x=some .free:=by
   rcases e3 with q|q|q
   ·rcases a7 (env:=X.env) q with q|⟨q,_⟩;·exact absurd q hap
    ·cases q
   ·rcases a7 (env:=X.env) q with q|⟨_,q⟩;·exact absurd rfl (S.nocell _ (PySem.mem_of_lookup q))
    ·exact q
   ·rcases a7 (env:=X.env) q with q|⟨q,_⟩;·exact q
    ·cases q
  have hm:=PySem.mem_of_lookup hfree;have hk0:=S.free _ hm rfl;obtain⟨m0,_,hl⟩:=I.loc;obtain⟨u,r,l⟩:=hl (i-ts.length) x v e1 e2 (hk0.elim (fun q=>.inr (.inl q)) fun q=>.inr (.inr q));refine⟨u,r,?_⟩;rcases l with⟨kl,_⟩|⟨_,c,ec,z⟩
  ·exfalso;have kl':X.env.scope.names.lookup x=some .local:=kl;rcases hk0 with q|q;·rw[q]at kl';cases kl'
   ·rw[q]at kl';cases kl'
  ·have kk:(X.comp scope C ts s H fp).env.kindOf x=some .cell\/(X.comp scope C ts s H fp).env.kindOf x=some .free:=by
    rcases e3 with q|q|q
    ·rcases a7 (env:=X.env) q with q|⟨q,_⟩;·exact absurd q hap
     ·cases q
    ·exact .inl q
    ·exact .inr q
   obtain⟨c',ec'⟩:=(ot (C:=C) S I hf hfl hC).has x kk;have ec2:=(bB scope.names [] ec').resolve_left (by simp);rw[ec]at ec2;cases ec2;obtain⟨o,ho',hd⟩:=z;exact .inr ⟨kk,c,ec',o,hk _ o ho',hd⟩⟩;cell:=fun x c e=>by have q:=(bB scope.names [] e).resolve_left (by simp);obtain⟨v,o,ho',hd⟩:=I.cell x c q;exact⟨v,o,hk _ o ho',hd⟩
 free:=I.hok.fresh hC;freeC:=fun x c e=>I.freeC x c ((bB scope.names [] e).resolve_left (by simp));pin:=fun p hp=>by cases hp
 hok:=I.hok.kept hk;len:=by show(List.replicate ts.length none++σ).length=(ts++X.N.map (hid scope)).length;rw[List.length_append,List.length_append,List.length_replicate,I.len,List.length_map]
end
section
variable{prog:Program}{w:World}{A:Around}{R:Result->Shared->Prop}{s:Shared}
theorem fg{elt target iter:Expr}{ifs:List Expr}{scope:Scope}{pos:Pos}{it acc:Value}{env:Env}(I:Nat->Shared->Prop)(turn:∀n s,I n s->wpAny (model prog w) A (pyNext it) (fun r s₁=>match r with|none=>R (.ok .next) s₁|some v=>wpAny (model prog w) A (letOwnedTupleGo target it v) (fun _ s₁'=>wpAny (model prog w) A (assign target env v) (fun _ s₂=>wpAny (model prog w) A (forIn ifs true fun c r=>if r=true then do let ok <-isTrue c env (eval c env);pure (ForInStep.yield ok)else pure (ForInStep.yield r)) (fun ok s₃=>if ok=true then wpAny (model prog w) A (eval elt env) (fun x s₄=>wpAny (model prog w) A (call (.builtin "list.append") [acc,x]) (fun _ s₅=>∃m,m<n/\I m s₅) (notedBy (model prog w) A env fun e s'=>R (.error e) s') s₄) (notedBy (model prog w) A env fun e s'=>R (.error e) s') s₃ else∃m,m<n/\I m s₃) (notedBy (model prog w) A env fun e s'=>R (.error e) s') s₂) (notedBy (model prog w) A env fun e s'=>R (.error e) s') s₁') (notedBy (model prog w) A env fun e s'=>R (.error e) s') s₁) (notedBy (model prog w) A env fun e s'=>R (.error e) s') s)(n:Nat)(h:I n s):codeAny (model prog w) A (.compLoop (.ListComp elt [⟨target,iter,ifs,0⟩] scope pos) 0 it acc env) R s:=by refine codeAny_loop rfl I (fun n s hI=>?_) n h;show wpAny _ A ((compTurn (.ListComp elt [⟨target,iter,ifs,0⟩] scope pos) 0 it acc env).onRaise (fun x=>do noteFrame x env;theTreesLotGoes x)) _ _ s;refine wpAny_noted ?_;rw[compTurn_list];refine wpAny_bind (wpAny_standAt (wpAny_bind (wpAny_mono (turn n s hI) (fun r s₁ h₁=>?_) fun _ _ h'=>h')));cases r with|none=>exact wpAny_pure h₁|some v=>refine wpAny_bind (wpAny_mono h₁ (fun _ s₁' h₁'=>?_) fun _ _ h'=>h');refine wpAny_bind (wpAny_mono h₁' (fun _ s₂ h₂=>wpAny_bind (wpAny_mono h₂ (fun ok s₃ h₃=>?_) fun _ _ h'=>h')) fun _ _ h'=>h');cases ok with|false=>exact wpAny_pure ⟨rfl,h₃⟩|true=>exact wpAny_bind (wpAny_bind (wpAny_mono h₃ (fun x s₄ h₄=>wpAny_bind (wpAny_mono h₄ (fun _ s₅ h₅=>wpAny_pure (wpAny_pure ⟨rfl,h₅⟩)) fun _ _ h'=>h')) fun _ _ h'=>h'))
end
noncomputable def aaW(X:Cx)(ifs:List Expr)(t:TT):Prop:=∀(pins:List (Addr×Obj))(s:Shared)(σ:St)(H:Hp)(Q:Bool->Hp->Prop),Inv X pins σ H s->t σ H Q->wpAny (model X.prog X.w) X.A (forIn ifs true fun c r=>if r=true then do let ok <-isTrue c X.env (eval c X.env);pure (ForInStep.yield ok)else pure (ForInStep.yield r)) (TP X pins σ Q) X.xe s
noncomputable def pb:TT:=fun _ H Q=>Q true H
theorem v9{X:Cx}:aaW X [] pb:=fun pins s σ H Q I h=>wpAny_tests_nil ⟨H,I,h⟩
noncomputable def rO(J:It)(g:TG)(tt:TT)(te:TE)(σ0:St)(H1:Hp)(F:V->Hp->Prop):Prop:=∃W:Nat->Nat->List V->St->Hp->Prop,(∃m,W 0 m [] σ0 H1)/\∀i m ys σ H,W i m ys σ H->ys.length<sizeLine/\((J.stop i H/\∀D,H D=none->F (.ref D) (upd H D (.lst ys)))\/(J.go i H/\∃N:List V->St->Hp->Prop,(∀ys' σ' H',N ys' σ' H'->∃m',m'<m/\W (i+1) m' ys' σ' H')/\∀x H',J.yld i H x H'->g x σ H' fun σ2 H2=>tt σ2 H2 fun b H3=>if b=true then te σ2 H3 fun y H4=>N (ys++[y]) σ2 H4 else N ys σ2 H3))
noncomputable def kb(c:Hp->Prop)(J:It)(g:TG)(tt:TT)(te:TE)(σ0:St)(H1:Hp)(F:V->Hp->Prop):Prop:=∃W:Nat->Nat->List V->St->Hp->Prop,(∃m,W 0 m [] σ0 H1)/\∀i m ys σ H,W i m ys σ H->c H/\ys.length<sizeLine/\((J.stop i H/\∀D,H D=none->F (.ref D) (upd H D (.lst ys)))\/(J.go i H/\∃N:List V->St->Hp->Prop,(∀ys' σ' H',N ys' σ' H'->∃m',m'<m/\W (i+1) m' ys' σ' H')/\∀x H',J.yld i H x H'->g x σ H' fun σ2 H2=>tt σ2 H2 fun b H3=>if b=true then te σ2 H3 fun y H4=>N (ys++[y]) σ2 H4 else N ys σ2 H3))
theorem kb.w{c:Hp->Prop}{J:It}{g:TG}{tt:TT}{te:TE}{σ0:St}{H1:Hp}{F:V->Hp->Prop}(h:kb c J g tt te σ0 H1 F):rO J g tt te σ0 H1 F:=by obtain⟨W,w0,t⟩:=h;exact⟨W,w0,fun i m ys σ H w=>(t i m ys σ H w).2⟩
theorem rO.c{J:It}{g:TG}{tt:TT}{te:TE}{σ0:St}{H1:Hp}{F:V->Hp->Prop}(h:rO J g tt te σ0 H1 F):kb (fun _=>True) J g tt te σ0 H1 F:=by obtain⟨W,w0,t⟩:=h;exact⟨W,w0,fun i m ys σ H w=>⟨trivial,t i m ys σ H w⟩⟩
noncomputable def abH(k:Nat)(wi:TI)(g:TG)(tt:TT)(te:TE):TE:=fun σ H Q=>wi σ H fun J H1=>rO J g tt te (List.replicate k none++σ) H1 Q
section
variable{X:Cx}{tg elt iter:Expr}{ifs:List Expr}{scope:Scope}{ts:List Str}{wi:TI}{g:TG}{tt:TT}{te:TE}
theorem j9{pins:List (Addr×Obj)}{σ:St}{H:Hp}{s2:Shared}{pos:Pos}{it:Addr}{fp:List Addr}{tn:Nat->Heap->Prop}{J:It}{Q:VK}{RR:Value->Addr->Result->Shared->Prop}{E:Value->Shared->Prop}(S:CompScope X scope ts){cl:Cx->Hp->Prop}{cc:Hp->Prop}(EC:Addr->Value->Shared->Prop)(hcl:∀C H',cc H'->cl ((X.comp scope C ts s2 H fp).tri (EC C) []) H')(hg:∀C,PG ((X.comp scope C ts s2 H fp).tri (EC C) []) tg g)(ht:∀C,aaW ((X.comp scope C ts s2 H fp).tri (EC C) []) ifs tt)(he:∀C,PE ((X.comp scope C ts s2 H fp).tri (EC C) []) elt te)(I:Inv X pins σ H s2)(T:Turn X.prog X.w X.K tg J fp it tn cl)(st:tn 0 s2.heap)(hf:∀b∈fp,vq X pins H b)(hW:kb cc J g tt te (List.replicate ts.length none++σ) H Q)(fin:∀(C D:Addr)(H':Hp)(s':Shared)(m:Str->Option Value)(ys:List V),C≠D->s2.heap.objs.size<=C->s2.heap.objs.size<=D->s'.heap.Ns C m->H' C=none->Inv X pins σ (upd H' D (.lst ys)) s'->Q (.ref D) (upd H' D (.lst ys))->RR (.ref D) C (.ok .next) s')(hx:∀(C D:Addr)(e:Value)(s':Shared),s2.heap.objs.size<=C->EC C e s'->notedBy (model X.prog X.w) X.A (compEnvC scope (bI X.env.cells scope.names []) C X.env) (fun e s'=>RR (.ref D) C (.error e) s') e s'):wpAny (model X.prog X.w) X.A (newList []) (fun acc s₃=>wpAny (model X.prog X.w) X.A (newFunctionEnv scope X.env.globals (bI X.env.cells scope.names []) [] X.env.qual none .none (some X.env)) (fun cenv s₄=>codeAny (model X.prog X.w) X.A (.compStart (.ListComp elt [⟨tg,iter,ifs,0⟩] scope pos) 0 (.ref it) acc {cenv with scope:=relabel scope X.env}) (RR acc cenv.locals) s₄) E s₃) E s2:=by
 refine wpAny_newObj_type (wpAny_newFunctionEnv S.nocell (by intro y hy;simp at hy) (fun h₁ hns₁ hsb₁=>?_) S.kind);dsimp only at hns₁ hsb₁⊢;generalize hH2:s2.heap.push {cls:=.type "list",dict:=none,data:=.seq ([]:List Value).toArray}=H2 at hns₁ hsb₁⊢;have hCs:H2.objs.size=s2.heap.objs.size+1:=by rw[<-hH2,Heap.size_push]
 have hDC:s2.heap.objs.size≠H2.objs.size:=by rw[hCs];exact Nat.ne_of_lt (Nat.lt_succ_self _)
 have hCle:s2.heap.objs.size<=H2.objs.size:=by rw[hCs];exact Nat.le_succ _
 have old:∀b o,s2.heap.get? b=some o->h₁.get? b=some o:=fun b o e=>hsb₁.extBut b o (by rw[hCs];exact Nat.ne_of_lt (Nat.lt_succ_of_lt (Heap.lt_size e))) (Heap.get?_push_of_some _ (hH2▸Heap.get?_push_of_some _ e));have hacc:h₁.PlainList s2.heap.objs.size #[]:=⟨_,hsb₁.extBut _ _ hDC (Heap.get?_push_of_some _ (hH2▸Heap.get?_push_size _ rfl))⟩;have hfl:∀b∈fp,b<s2.heap.objs.size:=fun b hb=>by obtain⟨o,e,_⟩:=T.obj _ _ st b hb;exact Heap.lt_size e
 generalize hCdef:H2.objs.size=C at *;generalize hDdef:s2.heap.objs.size=D at *;have hDf:D∉fp:=fun hm=>Nat.lt_irrefl _ (hfl _ hm);have ok':((X.comp scope C ts s2 H fp).tri (EC C) []).Ok:=(ot S I hf (by rw[hDdef];exact hfl) (by rw[hDdef];exact hCle)).tri _ _;have cellsLt:∀x c,((X.comp scope C ts s2 H fp).tri (EC C) []).env.cells.lookup x=some c->c<D:=fun x c e=>by have q:=(bB scope.names [] e).resolve_left (by simp);obtain⟨v,z⟩:=I.cell x c q;rw[<-hDdef];exact z.lt
 have stat:∀{H':Hp}{pl:List (Addr×Obj)},(∀b∈fp,H' b=none)->(∀p∈pl,p.1∉fp)->∀b∈fp,vq ((X.comp scope C ts s2 H fp).tri (EC C) []) pl H' b:=fun hn hp b hb=>⟨hn b hb,(ok'.exf b hb).1,ok'.exfs b hb,.inl hb,(ok'.exf b hb).2,fun p hp' z=>hp p (by simpa using hp') (z▸hb)⟩;obtain⟨W,⟨m0,w0⟩,turn⟩:=hW;have loop:∀s₃:Shared,s₃={s2 with heap:=h₁,toks:=s2.toks+([]:List (Str×Value)).length}->codeAny (model X.prog X.w) X.A (.compLoop (.ListComp elt [⟨tg,iter,ifs,0⟩] scope pos) 0 (.ref it) (.ref D) (compEnvC scope (bI X.env.cells scope.names []) C X.env)) (RR (.ref D) C) s₃:=by
  rintro s₃ rfl;have I00:Inv (X.comp scope C ts s2 H fp) [] (List.replicate ts.length none++σ) H {s2 with heap:=h₁,toks:=s2.toks+([]:List (Str×Value)).length}:=rE S I hf (by rw[hDdef];exact hfl) (by rw[hDdef];exact hCle) rfl rfl old hns₁;have I0:Inv ((X.comp scope C ts s2 H fp).tri (EC C) []) [] (List.replicate ts.length none++σ) H {s2 with heap:=h₁,toks:=s2.toks+([]:List (Str×Value)).length}:=I00.tri _;refine fg (fun n s'=>∃i ys σ' H' its,Inv ((X.comp scope C ts s2 H fp).tri (EC C) []) [] σ' H' s'/\tn i s'.heap/\(∀b∈fp,H' b=none)/\s'.heap.PlainList D its/\Vals ys its.toList/\H' D=none/\W i n ys σ' H') ?_ m0 ⟨0,[],_,H,#[],I0,T.keep _ _ _ st fun b _ o e=>old b o e,fun b hb=>(hf b hb).1,hacc,.nil,I.hok.fresh (by rw[hDdef];exact Nat.le_refl _),w0⟩;rintro n s3⟨i,ys,σ3,H3,its,I3,st3,fr3,pl3,v3,d3,w3⟩;obtain⟨hcH,hsz,hturn⟩:=turn i n ys σ3 H3 w3;obtain⟨nD,eD⟩:=id pl3;have noc:∀v,(({cls:=.type "list",data:=.seq its nD}:Obj)).data≠.cell v:=fun v z=>by cases z
  have hDCa:D≠((X.comp scope C ts s2 H fp).tri (EC C) []).env.locals:=hDC;have nDfs:D ∉((X.comp scope C ts s2 H fp).tri (EC C) []).fs:=fun hb=>by obtain⟨_,o,ho,_⟩:=ok'.my.mem hb;exact absurd (Nat.lt_of_lt_of_eq (Heap.lt_size ho) hDdef) (Nat.lt_irrefl _)
  rcases hturn with⟨stop,qn⟩|⟨go,N,hN,step⟩;·-- the end
   have I3':Inv ((X.comp scope C ts s2 H fp).tri (EC C) []) [(D,{cls:=.type "list",data:=.seq its nD})] σ3 H3 s3:=I3.eJ fun p hp=>by
    obtain rfl:p=(D,({cls:=.type "list",data:=.seq its nD}:Obj)):=by simpa using hp
    exact⟨eD,d3,hDCa,nDfs,noc⟩
   refine wpAny_mono (T.done ((X.comp scope C ts s2 H fp).tri (EC C) []) rfl rfl rfl i _ s3 σ3 H3 (fun _ _=>False) (hcl C H3 hcH) I3' (stat fr3 (fun p hp=>by
   obtain rfl:p=(D,({cls:=.type "list",data:=.seq its nD}:Obj)):=by simpa using hp
   exact hDf)) st3 stop) (fun r s4⟨hr,I4⟩=>?_) fun _ _ f=>f.elim;subst hr;show RR (.ref D) C (.ok .next) s4;have pD:=(I4.pin (D,{cls:=.type "list",data:=.seq its nD}) (by simp)).1;obtain⟨m4,hn4,_⟩:=I4.loc;have I5:Inv X pins σ H3 s4:=I.aaP (ch:=fp) I4.os I4.base I4.hok I4.bare fun b hb=>⟨(hf b hb).2.2.2.1,(hf b hb).2.1,(hf b hb).2.2.2.2.1,(hf b hb).2.2.2.2.2⟩;have hDL:D≠X.env.locals:=Nat.ne_of_gt (Nat.lt_of_lt_of_eq I.lt hDdef);have hDc:∀x c,X.env.cells.lookup x=some c->c≠D:=fun x c e=>by obtain⟨v,z⟩:=I.cell x c e;exact Nat.ne_of_lt (Nat.lt_of_lt_of_eq z.lt hDdef)
   have hDp:∀p∈X.pn++pins,p.1≠D:=fun p hp=>Nat.ne_of_lt (Nat.lt_of_lt_of_eq (Heap.lt_size (I.pin p hp).1) hDdef);have new:bo X.prog X.w (upd H3 D (.lst ys)) s4.heap D (.lst ys):=⟨Nat.le_of_lt hsz,its.toList,nD,v3,by simpa using pD⟩;have I6:=I5.y9 d3 (by rw[<-hDdef];exact I.sz) hDL hDc hDp new;exact fin C D H3 s4 m4 ys (Ne.symm hDC) hCle (Nat.le_refl _) hn4 I4.free I6 (qn D d3)
  ·-- a turn
   have I3':Inv ((X.comp scope C ts s2 H fp).tri (EC C) []) [(D,{cls:=.type "list",data:=.seq its nD})] σ3 H3 s3:=I3.eJ fun p hp=>by
    obtain rfl:p=(D,({cls:=.type "list",data:=.seq its nD}:Obj)):=by simpa using hp
    exact⟨eD,d3,hDCa,nDfs,noc⟩
   have npl:∀p∈[((D,{cls:=.type "list",data:=.seq its nD}):Addr×Obj)],p.1∉fp:=fun p hp=>by
    obtain rfl:p=(D,({cls:=.type "list",data:=.seq its nD}:Obj)):=by simpa using hp
    exact hDf
   refine wpAny_mono (T.item ((X.comp scope C ts s2 H fp).tri (EC C) []) rfl rfl rfl i _ s3 σ3 H3 (fun _ _=>False) (hcl C H3 hcH) I3' (stat fr3 npl) st3 go) (fun r s4⟨u,hr,h4⟩=>?_) fun _ _ f=>f.elim;subst hr;refine wpAny_mono h4 (fun _ s5⟨x,H5,I5,r5,y5,st5,fr5⟩=>?_) fun _ _ f=>f.elim;have I5':=I5.pinned (stat fr5 npl) (T.obj _ _ st5);have back:∀{σ7:St}{H7:Hp}{s7:Shared},Inv ((X.comp scope C ts s2 H fp).tri (EC C) []) ([(D,{cls:=.type "list",data:=.seq its nD})]++lR fp s5.heap) σ7 H7 s7->tn (i+1) s7.heap/\(∀b∈fp,H7 b=none)/\s7.heap.get? D=some {cls:=.type "list",data:=.seq its nD}/\H7 D=none:=fun{σ7 H7 s7}I7=>by have pD:=I7.pin (D,({cls:=.type "list",data:=.seq its nD}:Obj)) (List.mem_append_right _ (List.mem_append_left _ List.mem_cons_self));refine⟨T.keep _ _ _ st5 fun b hb o e=>(I7.pin (b,o) (List.mem_append_right _ (List.mem_append_right _ (eZ hb e)))).1,fun b hb=>?_,pD.1,pD.2.1⟩;obtain⟨o,e,d⟩:=T.obj _ _ st5 b hb;exact(I7.pin (b,o) (List.mem_append_right _ (List.mem_append_right _ (eZ hb e)))).2.1
   refine wpAny_mono (hg C _ s5 σ3 H5 x u _ I5' r5 (step x H5 y5)) (fun _ s6⟨σ6,H6,I6,q6⟩=>?_) fun e s' f=>hx C D e s' hCle f;refine wpAny_mono (ht C _ s6 σ6 H6 _ I6 q6) (fun b s7⟨H7,I7,q7⟩=>?_) fun e s' f=>hx C D e s' hCle f;cases b with|false=>obtain⟨m',hm,w7⟩:=hN _ _ _ (by simpa using q7);obtain⟨b1,b2,b3,b4⟩:=back I7;exact⟨m',hm,i+1,ys,σ6,H7,its,I7.eJ (fun p hp=>absurd hp List.not_mem_nil),b1,b2,⟨nD,b3⟩,v3,b4,w7⟩|true=>
    have q7':te σ6 H7 fun y H4=>N (ys++[y]) σ6 H4:=by simpa using q7
    refine wpAny_mono (he C _ s7 σ6 H7 _ I7 q7') (fun u8 s8⟨y,H8,I8,r8,q8⟩=>?_) fun e s' f=>hx C D e s' hCle f;obtain⟨m',hm,w8⟩:=hN _ _ _ q8;obtain⟨b1,b2,b3,b4⟩:=back I8;have hys:its.size<=sizeLine:=by have e1:=v3.length;simp only[Array.length_toList]at e1;omega
    refine wpAny_list_append_plain (hsz:=hys) (show s8.heap.PlainList D its from⟨nD,b3⟩) fun h9 hl9 hs9=>?_;have I9:Inv ((X.comp scope C ts s2 H fp).tri (EC C) []) [] σ6 H8 {s8 with heap:=h9}:=(I8.eJ (pins':=[]) (fun p hp=>absurd hp List.not_mem_nil)).turned (t':=s8.toks) (it:=D) (fun b o hb e=>(hs9.2 b hb).trans e) b4 hDCa (.inr (Nat.le_of_eq hDdef)) (fun x c e=>Nat.ne_of_lt (cellsLt x c e)) (fun p hp=>absurd (show p∈([]:List (Addr×Obj))from hp) List.not_mem_nil);refine⟨m',hm,i+1,ys++[y],σ6,H8,its.push u8,I9,T.keep _ _ _ b1 fun b hb o e=>(hs9.2 b (fun z=>hDf (z▸hb))).trans e,b2,hl9,?_,b4,w8⟩;simpa using v3.append (.cons r8 .nil)
 exact codeAny_compStart_list (loop _ rfl) (T.self _ 0 _ _ _ (T.keep _ _ _ st fun b _ o e=>old b o e) (loop _ rfl))
theorem wj{pos:Pos}(L:CompLook X scope)(hc:X.calm=true)(hi:PI X tg iter wi)(hg:∀C s₂ H₂ fp,PG (X.comp scope C ts s₂ H₂ fp) tg g)(ht:∀C s₂ H₂ fp,aaW (X.comp scope C ts s₂ H₂ fp) ifs tt)(he:∀C s₂ H₂ fp,PE (X.comp scope C ts s₂ H₂ fp) elt te)(hs:∀x,foldedSetIterable iter X.env x=pure x:=by intro _;rfl):PE X (.ListComp elt [⟨tg,iter,ifs,0⟩] scope pos) (abH ts.length wi g tt te):=by
 intro pins s σ H Q I h;have S:CompScope X scope ts:=L.scope;have hclos:closureFor scope X.env=pure (bI X.env.cells scope.names []):=gi fun y hy hf=>by obtain⟨c,hc⟩:=I.ok.has y.1 (S.free y hy hf);rw[hc];rfl
 rw[eval_ListComp];refine wpAny_comprehension_free (use:=none) rfl hs hclos S.kind S.names (thn (hi pins s σ H _ I h) fun xv s1 h1=>thn h1 fun itv s2 h2=>?_);obtain⟨it,fp,tn,J,H2,e,I2,T,st2,f2,hW⟩:=h2;subst e;refine j9 (Q:=Q) (RR:=fun acc C=>compPost (model X.prog X.w) X.A X.xe none (EP X pins σ Q) acc C) S (fun _ _ _=>False) (fun _ _ _=>hc) (fun C=>hg C _ _ _) (fun C=>ht C _ _ _) (fun C=>he C _ _ _) I2 T st2 f2 hW.c ?_ (fun _ _ _ _ _ z=>z.elim);intro C D H' s' m ys hCD hC hD hn hCn I' q;refine⟨m,hn,fun h' hs'=>?_⟩;have hCL:C≠X.env.locals:=Nat.ne_of_gt (Nat.lt_of_lt_of_le I2.lt hC);have I'':Inv X pins σ (upd H' D (.lst ys)) {s' with heap:=h'}:=I'.turned (t':=s'.toks) (it:=C) (fun b o hb e=>(hs'.2 b hb).trans e) (by rw[ae hCD];exact hCn) hCL (.inr (Nat.le_trans I2.sz hC)) (fun x c e=>by obtain⟨v,q⟩:=I2.cell x c e;exact Nat.ne_of_lt (Nat.lt_of_lt_of_le q.lt hC)) (fun p hp=>Nat.ne_of_lt (Nat.lt_of_lt_of_le (Heap.lt_size (I2.pin p hp).1) hC));exact⟨.ref D,_,I'',rfl,q⟩
end
end L2
namespace L2
open PySem PySem.Spec PyProof.Rows
noncomputable def IsD(K:W.Frag)(H:Hp):Nat->V->PyData->Prop|_,x,.none=>x=.non|_,x,.bool b=>x=.bl b|_,x,.int i=>x=.int i|_,x,.str z=>x=.str z/\PyData.strOk z=true|_,_,.dict _=>False|0,_,.tuple _=>False|0,_,.list _=>False|n+1,x,.tuple ds=>∃a xs,x=.ref a/\SqT K H a xs/\Paired (IsD K H n) xs ds|n+1,x,.list ds=>∃a xs,x=.ref a/\SqL K H a xs/\Paired (IsD K H n) xs ds
section
variable{X:Cx}{pins:List (Addr×Obj)}{σ:St}{H:Hp}{s:Shared}
theorem i4{h:Heap}{n:Nat}{R:V->PyData->Prop}(one:∀x d u,R x d->RelV x u->(∃as,Reads h u d as)/\d.canLay0=true/\d.depth<=n):∀{xs:List V}{ds:List PyData}{us:List Value},Paired R xs ds->Vals xs us->(∃as,ReadsAll h us ds as)/\PyData.canLayAll0 ds=true/\PyData.depthAll ds<=n
|_,_,_,.nil,.nil=>⟨⟨_,.nil⟩,rfl,Nat.zero_le _⟩|_,_,_,.cons r t,.cons q t'=>by
 obtain⟨⟨as,ra⟩,c1,d1⟩:=one _ _ _ r q;obtain⟨⟨bs,rb⟩,c2,d2⟩:=i4 one t t';refine⟨⟨_,.cons ra rb⟩,?_,?_⟩;·simp[PyData.canLayAll0,c1,c2]
 ·simp only[PyData.depthAll];omega
theorem Inv.reads(I:Inv X pins σ H s):∀(n:Nat)(d:PyData)(x:V)(u:Value),IsD X.K H n x d->RelV x u->(∃as,Reads s.heap u d as)/\d.canLay0=true/\d.depth<=n:=by intro n;induction n with
|zero=>intro d x u h r;cases d with|none=>simp only[IsD]at h;subst h;cases r;exact⟨⟨_,.none⟩,rfl,Nat.zero_le _⟩|bool b=>simp only[IsD]at h;subst h;cases r;exact⟨⟨_,.bool b⟩,rfl,Nat.zero_le _⟩|int i=>simp only[IsD]at h;subst h;obtain⟨t,rfl⟩:=r;exact⟨⟨_,.int i t⟩,rfl,Nat.zero_le _⟩|str z=>simp only[IsD]at h;obtain⟨rfl,hz⟩:=h;obtain⟨t,rfl⟩:=r;exact⟨⟨_,.str z t⟩,by simpa[PyData.canLay0]using hz,Nat.zero_le _⟩|dict kvs=>simp only[IsD]at h|tuple ds=>simp only[IsD]at h|list ds=>simp only[IsD]at h
|succ n ih=>intro d x u h r;cases d with|none=>simp only[IsD]at h;subst h;cases r;exact⟨⟨_,.none⟩,rfl,Nat.zero_le _⟩|bool b=>simp only[IsD]at h;subst h;cases r;exact⟨⟨_,.bool b⟩,rfl,Nat.zero_le _⟩|int i=>simp only[IsD]at h;subst h;obtain⟨t,rfl⟩:=r;exact⟨⟨_,.int i t⟩,rfl,Nat.zero_le _⟩|str z=>simp only[IsD]at h;obtain⟨rfl,hz⟩:=h;obtain⟨t,rfl⟩:=r;exact⟨⟨_,.str z t⟩,by simpa[PyData.canLay0]using hz,Nat.zero_le _⟩|dict kvs=>simp only[IsD]at h|tuple ds=>simp only[IsD]at h;obtain⟨a,xs,rfl,hq,hp⟩:=h;cases r;obtain⟨its,rv,⟨o,ho,hc,k,hd⟩,hz⟩:=I.tuple hq;obtain⟨⟨as,ra⟩,c1,d1⟩:=i4 (fun x d u=>ih d x u) hp rv;exact⟨⟨_,.tuple ho hc hd (by simpa using ra)⟩,by simpa[PyData.canLay0]using c1,by simp only[PyData.depth];omega⟩|list ds=>simp only[IsD]at h;obtain⟨a,xs,rfl,hq,hp⟩:=h;cases r;obtain⟨its,rv,pl,hz⟩:=I.list hq;obtain⟨o,ho,hc,k,hd⟩:=pl.isList;obtain⟨⟨as,ra⟩,c1,d1⟩:=i4 (fun x d u=>ih d x u) hp rv;exact⟨⟨_,.list ho hc hd (by simpa using ra)⟩,by simpa[PyData.canLay0]using c1,by simp only[PyData.depth];omega⟩
end
theorem Same.tup{K:W.Frag}{H H':Hp}{a:Addr}{xs:List V}(e:Same H H')(h:SqT K H a xs):SqT K H' a xs:=by
 rcases h with(h|⟨o,h⟩)|h;·exact .inl (.inl (e _ _ h))
 ·exact .inl (.inr ⟨o,e _ _ h⟩)
 ·exact .inr h
section
variable{X:Cx}
theorem acJ:OpR X (compareOp .Eq) (fun x y H Q=>∃n d e,IsD X.K H n x d/\IsD X.K H n y e/\X.A.units+n<cLine/\Q (.bl (PyData.eqv d e)) H):=by intro pins s σ H x y v u Q I rx ry⟨n,d,e,hx,hy,hu,q⟩;obtain⟨⟨as,ra⟩,c1,d1⟩:=I.reads n d x v hx rx;obtain⟨⟨bs,rb⟩,c2,d2⟩:=I.reads n e y u hy ry;exact SeqAt.compareEq_reads ra rb c1 c2 (by have:=Nat.min_le_left d.depth e.depth;omega) ⟨.bl _,H,I,rfl,q⟩
theorem acD:OpR X (compareOp .NotEq) (fun x y H Q=>∃n d e,IsD X.K H n x d/\IsD X.K H n y e/\X.A.units+n<cLine/\Q (.bl (!PyData.eqv d e)) H):=by intro pins s σ H x y v u Q I rx ry⟨n,d,e,hx,hy,hu,q⟩;obtain⟨⟨as,ra⟩,c1,d1⟩:=I.reads n d x v hx rx;obtain⟨⟨bs,rb⟩,c2,d2⟩:=I.reads n e y u hy ry;exact SeqAt.compareNe_reads ra rb c1 c2 (by have:=Nat.min_le_left d.depth e.depth;omega) ⟨.bl _,H,I,rfl,q⟩
theorem acI:OpR X (compareOp .In) (fun x y H Q=>∃n d ds,IsD X.K H n x d/\(IsD X.K H (n+1) y (.list ds)\/IsD X.K H (n+1) y (.tuple ds))/\X.A.units+1+n<cLine/\Q (.bl (ds.any fun z=>PyData.eqv z d)) H):=by
 intro pins s σ H x y v u Q I rx ry⟨n,d,ds,hx,hy,hu,q⟩;obtain⟨⟨as,ra⟩,c1,d1⟩:=I.reads n d x v hx rx;rcases hy with hy|hy;·obtain⟨⟨bs,rb⟩,c2,d2⟩:=I.reads _ _ y u hy ry;exact SeqAt.in_list_reads rb ra (by simpa[PyData.canLay0]using c2) c1 (by have:=Nat.min_le_right (PyData.depthAll ds) d.depth;omega) ⟨.bl _,H,I,rfl,q⟩
 ·obtain⟨⟨bs,rb⟩,c2,d2⟩:=I.reads _ _ y u hy ry;exact SeqAt.in_tuple_reads rb ra (by simpa[PyData.canLay0]using c2) c1 (by have:=Nat.min_le_right (PyData.depthAll ds) d.depth;omega) ⟨.bl _,H,I,rfl,q⟩
theorem tX:OpR X (compareOp .NotIn) (fun x y H Q=>∃n d ds,IsD X.K H n x d/\(IsD X.K H (n+1) y (.list ds)\/IsD X.K H (n+1) y (.tuple ds))/\X.A.units+1+n<cLine/\Q (.bl (!ds.any fun z=>PyData.eqv z d)) H):=by
 intro pins s σ H x y v u Q I rx ry⟨n,d,ds,hx,hy,hu,q⟩;obtain⟨⟨as,ra⟩,c1,d1⟩:=I.reads n d x v hx rx;rcases hy with hy|hy;·obtain⟨⟨bs,rb⟩,c2,d2⟩:=I.reads _ _ y u hy ry;exact SeqAt.notIn_list_reads rb ra (by simpa[PyData.canLay0]using c2) c1 (by have:=Nat.min_le_right (PyData.depthAll ds) d.depth;omega) ⟨.bl _,H,I,rfl,q⟩
 ·obtain⟨⟨bs,rb⟩,c2,d2⟩:=I.reads _ _ y u hy ry;exact SeqAt.notIn_tuple_reads rb ra (by simpa[PyData.canLay0]using c2) c1 (by have:=Nat.min_le_right (PyData.depthAll ds) d.depth;omega) ⟨.bl _,H,I,rfl,q⟩
theorem af1{x:Str}{T:String}{pos:Pos}(hg:Gl X x)(hm:X.mg x=none)(hv:bootBuiltins x=some (.type T))(hn:x≠"__name__":=by decide)(hd:(x==("__debug__":Str))=false:=by decide):PE X (.Name x pos) (tC (.ty T)):=zI (v:=.ty T) hg hm hv rfl hn hd
noncomputable def TyV(K:W.Frag)(H:Hp)(x:V)(t:Value):Prop:=TyOf K H x t\/∃a xs,x=.ref a/\t=.type "tuple"/\SqT K H a xs
theorem oF:bz X (.builtin "isinstance") (fun xs H Q=>∃x T t b,xs=[x,.ty T]/\TyV X.K H x t/\W.kitOne X.K t (.type T)=some b/\Q (.bl b) H):=by
 intro pins s σ H xs us Q I r h;obtain⟨x,T,t,b,rfl,ty,e,q⟩:=h;obtain⟨u,w',rfl,rx,ry⟩:=vals2 r;cases(show w'=Value.type T from ry);rcases ty with ty|⟨a,ys,rfl,rfl,hq⟩;·exact uG I rx ty e fun tk=>⟨.bl b,H,I.tok tk,rfl,q⟩
 ·cases(show u=Value.ref a from rx);obtain⟨its,_,⟨o,h1,h2,_⟩,_⟩:=I.tuple hq;exact W.kia_one W.kitx_tuple I.kIn ⟨o,h1,h2⟩ e (fun z=>nomatch z) fun tk=>⟨.bl b,H,I.tok tk,rfl,q⟩
end
noncomputable abbrev St3:=Int×Int×Int
noncomputable def stD(p:St3):PyData:=.tuple [.int p.1,.int p.2.1,.int p.2.2]
noncomputable def flD(f:List St3):PyData:=.tuple (f.map stD)
noncomputable def spD(p:Int×Int):PyData:=.tuple [.int p.1,.int p.2]
section
variable{K:W.Frag}{H H':Hp}{v:V}{p:St3}{f:List St3}{x y:Int}
end
theorem qh(p q:St3):PyData.eqv (stD p) (stD q)=decide (p=q):=by obtain⟨a,b,c⟩:=p;obtain⟨d,e,f⟩:=q;simp only[stD,PyData.eqv,PyData.eqvAll,Bool.and_true];rw[Bool.eq_iff_iff];simp[Prod.ext_iff]
theorem uV(p q:Int×Int):PyData.eqv (spD p) (spD q)=decide (p=q):=by obtain⟨a,b⟩:=p;obtain⟨d,e⟩:=q;simp only[spD,PyData.eqv,PyData.eqvAll,Bool.and_true];rw[Bool.eq_iff_iff];simp[Prod.ext_iff]
theorem mF:∀f g:List St3,PyData.eqvAll (f.map stD) (g.map stD)=decide (f=g)|[],[]=>by simp[PyData.eqvAll]|[],_::_=>by simp[PyData.eqvAll]|_::_,[]=>by simp[PyData.eqvAll]|p::f,q::g=>by simp only[List.map_cons,PyData.eqvAll,qh,mF f g];rw[Bool.eq_iff_iff];simp
theorem uW(f g:List St3):PyData.eqv (flD f) (flD g)=decide (f=g):=by simp only[flD,PyData.eqv];exact mF f g
theorem ao{H:Hp}{p:Addr}(h:H p=none)(o:HO):Same H (upd H p o):=fun b u q=>by rw[ae (aD q h)];exact q
end L2
namespace L2
open PySem PySem.Spec PyProof.Rows
section
open PySem.AutoSeq1(wpAny_loadPart')
open PySem.MeetsSeq PySem.MeetsSeq2 PySem.MeetsSeq3 PySem.SeqAt
end
section
variable{X:Cx}
end
section
variable{prog:Program}{w:World}{A:Around}{R:Result->Shared->Prop}{I:Addr}{fp wr:List Addr}{n:Nat}{P:Nat->Value->Prop}{St:Nat->Heap->Prop}
end
section
variable{X:Cx}
end
end L2
namespace L2
open PySem PySem.Spec PyProof.Rows
section
variable{prog:Program}{w:World}{A:Around}{E:Value->Shared->Prop}{s:Shared}
end
section
open PySem.AutoSeq1(wpAny_loadPart')
variable{prog:Program}{w:World}{A:Around}{E:Value->Shared->Prop}{s:Shared}
end
noncomputable def Ite(K:W.Frag)(a:Addr):It:=⟨fun i H=>∃xs x,SqT K H a xs/\xs[i]?=some x,fun i H x H'=>∃p,x=.ref p/\H p=none/\∀xs,SqT K H a xs->∃y,xs[i]?=some y/\H'=upd H p (.tup [.int i,y]),fun i H=>∃xs,SqT K H a xs/\xs.length<=i⟩
section
variable{X:Cx}
noncomputable def aaz(K:W.Frag)(tl:TE):TI:=fun σ H R=>tl σ H fun x H1=>∃a,x=.ref a/\(∃xs,SqT K H1 a xs)/\R (Ite K a) H1
end
end L2
namespace L2
open PySem PySem.Spec PyProof.Rows
section
variable{κ:Type}[DecidableEq κ]
noncomputable def vw(kvs:List (κ×V))(k:κ):Option V:=(kvs.find? fun kv=>decide (kv.1=k)).map (·.2)
noncomputable def putK(kvs:List (κ×V))(k:κ)(v:V):List (κ×V):=if(kvs.any fun kv=>decide (kv.1=k))=true then kvs.map (fun kv=>if kv.1=k then(kv.1,v)else kv)else kvs++[(k,v)]
theorem iz{p:κ×V}{r:List (κ×V)}{k:κ}(e:p.1=k):vw (p::r) k=some p.2:=by simp[vw,List.find?_cons,e]
theorem iA{p:κ×V}{r:List (κ×V)}{k:κ}(e:¬p.1=k):vw (p::r) k=vw r k:=by simp[vw,List.find?_cons,e]
theorem oY(k:κ):∀kvs:List (κ×V),(kvs.any fun kv=>decide (kv.1=k))=(vw kvs k).isSome
|[]=>rfl|p::r=>by
 rw[List.any_cons];by_cases e:p.1=k;·simp only[iz e,decide_eq_true e,Bool.true_or,Option.isSome_some]
 ·rw[iA e,decide_eq_false e,Bool.false_or];exact oY k r
theorem jb(kvs:List (κ×V))(k:κ)(v:V):(putK kvs k v).length<=kvs.length+1:=by
 unfold putK;split;·rw[List.length_map];omega
 ·rw[List.length_append,List.length_cons,List.length_nil];omega
theorem oQ.uH{o:Option V}{u:Option Value}(r:oQ o u):o.isSome=u.isSome:=by cases o with
|none=>cases u with|none=>rfl|some _=>exact(show False from r).elim
|some _=>cases u with|none=>exact(show False from r).elim|some _=>rfl
theorem KV.val{kvs:List (κ×V)}{vs:List (κ×Value)}(r:KV kvs vs)(k:κ):oQ (vw kvs k) (valueAt vs k):=by unfold KV at r;induction r with|nil=>exact True.intro|@cons p q ps qs h t ih=>
 obtain⟨h1,h2⟩:=h;by_cases e:p.1=k
 ·have e':q.1=k:=h1.symm.trans e;have b:valueAt (q::qs) k=some q.2:=by simp[valueAt,List.find?_cons,e']
  rw[iz e,b];exact h2
 ·have e':¬q.1=k:=fun z=>e (h1.trans z);have b:valueAt (q::qs) k=valueAt qs k:=by simp[valueAt,List.find?_cons,e']
  rw[iA e,b];exact ih
theorem KV.any{kvs:List (κ×V)}{vs:List (κ×Value)}(r:KV kvs vs)(k:κ):(kvs.any fun kv=>decide (kv.1=k))=vs.any fun kv=>decide (kv.1=k):=by unfold KV at r;induction r with|nil=>rfl|cons h t ih=>rw[List.any_cons,List.any_cons,ih,h.1]
theorem KV.afU{kvs:List (κ×V)}{vs:List (κ×Value)}(r:KV kvs vs)(k:κ){y:V}{u:Value}(ry:RelV y u):KV (kvs.map fun kv=>if kv.1=k then(kv.1,y)else kv) (vs.map fun kv=>if kv.1=k then(kv.1,u)else kv):=by unfold KV at r⊢;induction r with|nil=>exact .nil|@cons p q ps qs h t ih=>
 rw[List.map_cons,List.map_cons];refine .cons ?_ ih;obtain⟨h1,h2⟩:=h;by_cases e:p.1=k;·rw[if_pos e,if_pos (h1.symm.trans e)];exact⟨h1,ry⟩
 ·rw[if_neg e,if_neg (fun z=>e (h1.trans z))];exact⟨h1,h2⟩
theorem KV.put{kvs:List (κ×V)}{vs:List (κ×Value)}(r:KV kvs vs)(k:κ){y:V}{u:Value}(ry:RelV y u):KV (putK kvs k y) (stored vs k u):=by
 unfold putK stored;rw[r.any k];by_cases e:(vs.any fun kv=>decide (kv.1=k))=true;·rw[if_pos e,if_pos e];exact r.afU k ry
 ·rw[if_neg e,if_neg e];exact Paired.snoc r ⟨rfl,ry⟩
theorem KV.length{kvs:List (κ×V)}{vs:List (κ×Value)}(r:KV kvs vs):kvs.length=vs.length:=Paired.length r
end
theorem aaq{P:Program}{w:World}:∀{k:Key}{u:Value},RelV (kV k) u->(bf P w).is k u=true|.inl (some i),u,r=>by obtain⟨t,e⟩:=(show∃t,u=Value.int i t from r);subst e;exact nR P w i t|.inl none,u,r=>by cases(show u=Value.none from r);rfl|.inr x,u,r=>by obtain⟨t,e⟩:=(show∃t,u=Value.str x t from r);subst e;exact nQ P w x t
theorem x4{P:Program}{w:World}{k:Key}{u:Value}(h:(bf P w).is k u=true):RelV (kV k) u:=by
 rcases aS h with⟨i,t,rfl,rfl⟩|⟨x,t,rfl,rfl⟩|⟨rfl,rfl⟩;·exact⟨t,rfl⟩
 ·exact⟨t,rfl⟩
 ·rfl
theorem mq{P:Program}{w:World}:∀{ks:List Key}{us:List Value},Vals (ks.map kV) us->ItemsAre (bf P w) ks us|[],_,r=>by rw[List.map_nil]at r;cases r;exact .nil|k::ks,_,r=>by rw[List.map_cons]at r;cases r with|cons h t=>exact .cons (aaq h) (mq t)
noncomputable abbrev KT(H:Hp):List (List Key×V)->List (List Key×Addr×Value)->Prop:=Paired fun p q=>p.1=q.1/\H q.2.1=some (.tup (p.1.map kV))/\RelV p.2 q.2.2
theorem KT.val{H:Hp}{kvs:List (List Key×V)}{xs:List (List Key×Addr×Value)}(r:KT H kvs xs)(k:List Key):oQ (vw kvs k) ((atKey xs k).map (·.2)):=by induction r with|nil=>exact True.intro|@cons p q ps qs h t ih=>
 obtain⟨h1,_,h2⟩:=h;by_cases e:p.1=k
 ·have e':q.1=k:=h1.symm.trans e;have b:atKey (q::qs) k=some q.2:=by simp[atKey,List.find?_cons,e']
  rw[iz e,b];exact h2
 ·have e':¬q.1=k:=fun z=>e (h1.trans z);have b:atKey (q::qs) k=atKey qs k:=by simp[atKey,List.find?_cons,e']
  rw[iA e,b];exact ih
theorem KT.afU{H:Hp}{kvs:List (List Key×V)}{xs:List (List Key×Addr×Value)}(r:KT H kvs xs)(k:List Key){y:V}{u:Value}(ry:RelV y u):KT H (kvs.map fun kv=>if kv.1=k then(kv.1,y)else kv) (xs.map (putAt k u)):=by induction r with|nil=>exact .nil|@cons p q ps qs h t ih=>
 rw[List.map_cons,List.map_cons];refine .cons ?_ ih;obtain⟨h1,h2,h3⟩:=h;unfold putAt;by_cases e:p.1=k;·rw[if_pos e,if_pos (h1.symm.trans e)];exact⟨h1,h2,ry⟩
 ·rw[if_neg e,if_neg (fun z=>e (h1.trans z))];exact⟨h1,h2,h3⟩
theorem KT.put{H:Hp}{kvs:List (List Key×V)}{xs:List (List Key×Addr×Value)}(r:KT H kvs xs)(k:List Key){b:Addr}{y:V}{u:Value}(hb:H b=some (.tup (k.map kV)))(ry:RelV y u):KT H (putK kvs k y) (storedH xs k b u):=by
 have e:(kvs.any fun kv=>decide (kv.1=k))=(atKey xs k).isSome:=by rw[oY,(r.val k).uH,Option.isSome_map]
 unfold putK storedH;rw[e];by_cases q:(atKey xs k).isSome=true;·rw[if_pos q,if_pos q];exact r.afU k ry
 ·rw[if_neg q,if_neg q];exact Paired.snoc r ⟨rfl,hb,ry⟩
theorem KT.keeps{H H':Hp}{kvs:List (List Key×V)}{xs:List (List Key×Addr×Value)}(r:KT H kvs xs)(ht:∀b ys,H b=some (.tup ys)->H' b=some (.tup ys)):KT H' kvs xs:=Paired.agN r fun _ _ z=>⟨z.1,ht _ _ z.2.1,z.2.2⟩
section
variable{P:Program}{w:World}{H:Hp}{h:Heap}{a:Addr}
theorem aca{u:HO}(ok:HOk P w H h)(e:Rd H a u):bo P w H h a u:=e.ok ok
theorem xC{kvs:List (Key×V)}(ok:HOk P w H h)(e:Rd H a (.dK kvs)):kvs.length<=sizeLine/\(a==sysModules)=false/\∃vs,KV kvs vs/\h.DictOf (bf P w) a vs:=show bo P w H h a (.dK kvs)from aca ok e
theorem ahq{kvs:List (Key×V)}(ok:HOk P w H h)(e:H a=some (.dK kvs)):kvs.length<=sizeLine/\(a==sysModules)=false/\∃vs,KV kvs vs/\h.DictOf (bf P w) a vs:=xC ok (.inl e)
theorem yt{ks:List Key}(ok:HOk P w H h)(e:H a=some (.tup (ks.map kV))):(tupleKind (bf P w)).is h ks a:=by obtain⟨_,its,r,o,h1,h2,n,h3⟩:=(show bo P w H h a (.tup (ks.map kV))from ok a _ e);exact⟨o,its.toArray,n,h1,h2,h3,by simpa using mq r⟩
theorem aho{kvs:List (List Key×V)}(ok:HOk P w H h)(e:Rd H a (.dT kvs)):kvs.length<=sizeLine/\(a==sysModules)=false/\∃xs,KT H kvs xs/\h.DictOfH (tupleKind (bf P w)) a xs:=by
 obtain⟨z,y,xs,r,o,es,ep,h1,h2,h3,h4,h5⟩:=(show bo P w H h a (.dT kvs)from aca ok e);refine⟨z,y,xs,r,o,es,ep,h1,h2,h3,h4,fun x hx=>?_,h5⟩;have all:∀{l:List (List Key×V)}{m:List (List Key×Addr×Value)},KT H l m->∀x∈m,(tupleKind (bf P w)).is h x.1 x.2.1:=by intro l m q;induction q with|nil=>intro x hx;exact nomatch hx|@cons p q ps qs hq t ih=>
   intro x hx;rcases List.mem_cons.mp hx with e|hx;·subst e;exact yt ok (by rw[<-hq.1];exact hq.2.1)
   ·exact ih x hx
 exact all r x hx
theorem ahp{kvs:List (List Key×V)}(ok:HOk P w H h)(e:H a=some (.dT kvs)):kvs.length<=sizeLine/\(a==sysModules)=false/\∃xs,KT H kvs xs/\h.DictOfH (tupleKind (bf P w)) a xs:=aho ok (.inl e)
end
noncomputable def abg(H:Hp)(a:Addr)(y v:V)(H':Hp):Prop:=(∃kvs k,H a=some (.dK kvs)/\y=kV k/\kvs.length<sizeLine/\H'=upd H a (.dK (putK kvs k v)))\/∃kvs k b,H a=some (.dT kvs)/\y=.ref b/\H b=some (.tup (k.map kV))/\kvs.length<sizeLine/\H'=upd H a (.dT (putK kvs k v))
theorem abg.k{H:Hp}{a:Addr}{kvs:List (Key×V)}{k:Key}{v:V}(e:H a=some (.dK kvs))(hl:kvs.length<sizeLine):abg H a (kV k) v (upd H a (.dK (putK kvs k v))):=.inl ⟨kvs,k,e,rfl,hl,rfl⟩
section
variable{X:Cx}{pins:List (Addr×Obj)}{σ:St}{H:Hp}{s:Shared}{a:Addr}{y v:V}{u r:Value}{o:Option V}{A:Around}{E:Value->Shared->Prop}
theorem Inv.big(I:Inv X pins σ H s):sysModules<s.heap.objs.size:=by have h:mainGlobals<s.heap.objs.size:=(I.mod.glob.keeps I.bk).lt;exact Nat.lt_trans (by decide) h
theorem n9{h':Heap}{t':Nat}{ob:HO}(I:Inv X pins σ H s)(mu:Mut (H a))(hs:Heap.SameBut a s.heap h')(he:∃q,h'.get? a=some q)(new:bo X.prog X.w (upd H a ob) h' a ob):Inv X pins σ (upd H a ob) {s with heap:=h',toks:=t'}:=I.write (x:=a) (e:=a) mu (.inl rfl) (fun b q hb z=>(hs.2 b hb).trans z) he new
theorem adY{P:Program}{w:World}{H':Hp}{h':Heap}{kvs:List (Key×V)}{vs:List (Key×Value)}(z:kvs.length<=sizeLine)(hd:(a==sysModules)=false)(rel:KV kvs vs)(dd:h'.DictOf (bf P w) a vs):bo P w H' h' a (.dK kvs):=⟨z,hd,vs,rel,dd⟩
theorem u5{H':Hp}{Q:Unit->Shared->Prop}(hu:A.units+1<cLine)(I:Inv X pins σ H s)(g:abg H a y v H')(ry:RelV y u)(rv:RelV v r)(h:∀s',Inv X pins σ H' s'->Q () s'):wpAny (model X.prog X.w) A (setItem (.ref a) u r) Q E s:=by
 rcases g with⟨kvs,k,e,ey,l,eH⟩|⟨kvs,k,b,e,ey,eb,l,eH⟩
 ·subst ey eH;obtain⟨z,hd,vs,rel,dd⟩:=ahq I.hok e;have hz:vs.length<=sizeLine:=by rw[<-rel.length];exact z
  have hl:(putK kvs k v).length<=sizeLine:=by have:=jb kvs k v;omega
  refine wpAny_setItem_pairs (hsz:=hz) (aaq ry) dd fun h' dd' hs=>h _ ?_;have he:∃q,h'.get? a=some q:=let⟨q,_,_,hq,_⟩:=dd';⟨q,hq⟩;exact n9 I (by rw[e];exact True.intro) hs he (adY hl hd (rel.put k rv) dd')
 ·subst ey eH;cases(show u=Value.ref b from ry);obtain⟨z,hd,xs,rel,dd⟩:=ahp I.hok e;have hz:xs.length<=sizeLine:=by rw[<-Paired.length rel];exact z
  have hl:(putK kvs k v).length<=sizeLine:=by have:=jb kvs k v;omega
  refine wpAny_setItem_heap (hsz:=hz) (tupleKind_room_in1 hu) (yt I.hok eb) dd fun h' dd' hs=>h _ ?_;obtain⟨q,es,ep,hq,h2,h3,h4,_,h5⟩:=dd';refine n9 I (by rw[e];exact True.intro) hs ⟨q,hq⟩ ⟨hl,hd,_,(rel.put k eb rv).keeps fun c ys ec=>?_,q,es,ep,hq,h2,h3,h4,h5⟩;rw[ae (agL ec e (fun z=>nomatch z))];exact ec
end
section
variable{X:Cx}{pins:List (Addr×Obj)}{σ:St}{H:Hp}{s:Shared}{a:Addr}{kvs:List (Key×V)}{k:Key}{u:Value}{A:Around}{E:Value->Shared->Prop}
theorem ahr{Q:Value->Shared->Prop}(I:Inv X pins σ H s)(e:Rd H a (.dK kvs))(h:∀t s',Inv X pins σ H s'->Q (.int kvs.length t) s'):wpAny (model X.prog X.w) A (call (.builtin "len") [.ref a]) Q E s:=by obtain⟨z,hd,vs,rel,dd⟩:=xC I.hok e;refine call_len_dict hd dd (by rw[<-rel.length];rw[sizeLine_eq]at z;omega) ?_;rw[<-rel.length];exact h _ _ (I.tok _)
end
noncomputable def afN(td ty tv:TE):TS:=fun D σ H=>tv σ H fun v H1=>td σ H1 fun x H2=>ty σ H2 fun y H3=>∃a H4,x=.ref a/\abg H3 a y v H4/\D.nx σ H4
section
variable{X:Cx}{o i e value:Expr}{pos pos' tpos:Pos}{td ty tv:TE}
theorem tI(hu:X.A.units+1<cLine)(ho:PE X o td)(hi:PE X i ty)(hv:PE X value tv)(hs:swapsWith value (some (.Subscript o i pos')) pos.line X.env=pure false):PS X (.Assign [.Subscript o i pos'] value pos) (afN td ty tv):=by intro pins s σ H D I h;refine wpAny_Assign_Subscript (thn (hv pins s σ H _ I h) fun r s1⟨v,H1,I1,rv,q1⟩=>thn (ho pins s1 σ H1 _ I1 q1) fun u s2⟨x,H2,I2,rx,q2⟩=>thn (hi pins s2 σ H2 _ I2 q2) fun iv s3⟨y,H3,I3,ry,a,H4,ex,g,q3⟩=>?_) hs;subst ex;obtain rfl:u=Value.ref a:=rx;exact u5 hu I3 g ry rv fun s4 I4=>⟨σ,H4,I4,q3⟩
end
theorem xD{P:Program}{w:World}{H:Hp}(h:Heap)(hb:sysModules<h.objs.size):bo P w H (h.push {cls:=.type "dict",data:=.dict #[]}) h.objs.size (.dK []):=⟨Nat.zero_le _,beq_eq_false_iff_ne.mpr (Ne.symm (Nat.ne_of_lt hb)),[],.nil,Heap.DictOf.new h⟩
noncomputable def abG:TE:=fun _ H Q=>∀p,H p=none->Q (.ref p) (upd H p (.dK []))
section
variable{X:Cx}{pos:Pos}
theorem pI:PE X (.Dict [] [] pos) abG:=fun pins s σ H Q I h=>wpAny_Dict_empty ⟨.ref s.heap.objs.size,_,I.laid (a:=s.heap.objs.size) (o:=.dK []) (t':=s.toks) (fun _ _ q=>Heap.get?_push_of_some _ q) (Nat.le_refl _) (xD s.heap I.big),rfl,h _ (I.hok.fresh (Nat.le_refl _))⟩
end
section
variable{X:Cx}{pins:List (Addr×Obj)}{σ:St}{H:Hp}{s:Shared}{a:Addr}{kvs:List (Key×V)}{A:Around}{E:Value->Shared->Prop}
end
section
variable{X:Cx}{pins:List (Addr×Obj)}{σ:St}{H:Hp}{s:Shared}{a:Addr}{y:V}{u:Value}{A:Around}{E:Value->Shared->Prop}
end
end L2
namespace L2
open PySem PySem.Spec PyProof.Rows
noncomputable def Itd(a:Addr)(od:Obj)(kvs:List (Key×V)):It:=⟨fun i H=>H a=some (.frz od (.dK kvs))/\i<kvs.length,fun i H x H'=>H'=H/\∃p,kvs[i]?=some p/\x=kV p.1,fun i H=>H a=some (.frz od (.dK kvs))/\kvs.length<=i⟩
section
variable{X:Cx}{pins:List (Addr×Obj)}{σ:St}{H:Hp}{s:Shared}{a:Addr}{kvs:List (Key×V)}{od:Obj}
theorem Inv.ag5(I:Inv X pins σ H s)(e:H a=some (.frz od (.dK kvs))):(a==sysModules)=false/\∃vs es ep,KV kvs vs/\od.data=.dict es ep/\s.heap.DictAt (bf X.prog X.w) a vs ep:=by obtain⟨h1,z,hd,vs,rel,o,es,ep,h2,h3,h4,h5,h6,h7⟩:=(show bo X.prog X.w H s.heap a (.frz od (.dK kvs))from I.hok a _ e);rw[h1]at h2;cases h2;exact⟨hd,vs,es,ep,rel,h4,od,es,h1,h3,h4,h5,h6,h7⟩
theorem KV.get{kvs:List (Key×V)}{vs:List (Key×Value)}(r:KV kvs vs){i:Nat}{p:Key×V}(e:kvs[i]?=some p):∃q:Key×Value,vs[i]?=some q/\p.1=q.1/\RelV p.2 q.2:=by unfold KV at r;induction r generalizing i with|nil=>simp at e|cons h t ih=>cases i with|zero=>simp at e;subst e;exact⟨_,rfl,h⟩|succ i=>simpa using ih (by simpa using e)
end
theorem sI{P:Program}{w:World}{K:W.Frag}{tg:Expr}(a it:Addr)(od:Obj)(kvs:List (Key×V))(ep:Nat)(hep:∃es,od.data=.dict es ep):Turn P w K tg (Itd a od kvs) [it] it (fun i h=>h.IsKeyIter it a i kvs.length ep)where
 mem:=by simp
 obj:=fun i h st b hb=>by
  have e:b=it:=by simpa using hb
  subst e;obtain⟨o,e,c,d⟩:=st;exact⟨o,e,fun v z=>by rw[d]at z;cases z⟩
 keep:=fun i h h' st k=>st.at fun o e=>k it (by simp) o e;item:=by intro X hP hw hK i pins s σ H E hc I hf st hg;subst hP hw hK;obtain⟨hq,hi⟩:=hg;obtain⟨hd,vs,es,ep',rel,hdat,hat⟩:=I.ag5 hq;obtain⟨es',he⟩:=hep;rw[hdat]at he;cases he;obtain⟨q,hx,hk,rq⟩:=rel.get (List.getElem?_eq_getElem hi);obtain⟨k,v⟩:=q;obtain⟨f0,f1,f2,f3,f4,f5⟩:=hf it (by simp);have hl:=rel.length;refine wpAny_pyNext_dict_item (show s.heap.IsKeyIter it a i vs.length ep by rw[<-hl];exact st) hat hx fun key h' hkey st' sb=>?_;have I1:Inv X pins σ H {s with heap:=h'}:=I.turned (t':=s.toks) (fun b o hb e=>(sb.2 b hb).trans e) f0 f1 f3 f4 f5;obtain⟨o,e,c,d⟩:=id st';refine⟨key,rfl,ri (s:={s with heap:=h'}) e c d (by decide) ⟨kV kvs[i].1,H,I1,?_,⟨rfl,kvs[i],List.getElem?_eq_getElem hi,rfl⟩,by rw[hl];exact st',fun b hb=>(hf b hb).1⟩⟩;rw[hk];exact x4 hkey
 done:=by intro X hP hw hK i pins s σ H E hc I hf st hg;subst hP hw hK;obtain⟨hq,hi⟩:=hg;obtain⟨hd,vs,es,ep',rel,hdat,hat⟩:=I.ag5 hq;obtain⟨es',he⟩:=hep;rw[hdat]at he;cases he;obtain⟨f0,f1,f2,f3,f4,f5⟩:=hf it (by simp);have hl:=rel.length;exact wpAny_pyNext_dict_end (I.ok.hd hc) (show s.heap.IsKeyIter it a i vs.length ep by rw[<-hl];exact st) hat (by simp;omega) fun h' eb=>⟨rfl,I.turned (t':=s.toks) (fun b o hb e=>eb b o hb e) f0 f1 f3 f4 f5⟩
 self:=fun _ _ _ _ _ st h=>wpAny_pyIter_keyiter st h
noncomputable def ai9(tl:TE):TI:=fun σ H R=>tl σ H fun x H1=>∃a od kvs,x=.ref a/\H1 a=some (.frz od (.dK kvs))/\R (Itd a od kvs) H1
theorem tR{X:Cx}{tg l:Expr}{tl:TE}(hl:PE X l tl):PI X tg l (ai9 tl):=by
 intro pins s σ H R I h;refine thn (hl pins s σ H _ I h) fun v s1⟨x,H1,I1,r1,q1⟩=>?_;obtain⟨a,od,kvs,e,hq,q⟩:=q1;subst e;cases r1;obtain⟨hd,vs,es,ep,rel,hdat,hat⟩:=I1.ag5 hq;refine wpAny_pyIter_dict hd hat ?_;refine⟨s1.heap.objs.size,[s1.heap.objs.size],_,_,H1,rfl,I1.kept (t':=s1.toks) fun b o e=>Heap.get?_push_of_some _ e,sI a _ od kvs ep ⟨es,hdat⟩,⟨_,Heap.get?_push_size _ rfl,rfl,by rw[rel.length];rfl⟩,fun b hb=>?_,q⟩;have e:b=s1.heap.objs.size:=by simpa using hb
 subst e;exact I1.adP (Nat.le_refl _) (I1.hok.fresh (Nat.le_refl _))
theorem Inv.adO{X:Cx}{pins:List (Addr×Obj)}{σ:St}{H:Hp}{s:Shared}{a:Addr}{kvs:List (Key×V)}(I:Inv X pins σ H s)(e:H a=some (.dK kvs)):∃od,Inv X pins σ (upd H a (.frz od (.dK kvs))) s/\∀o u,X.H₀ a≠some (.frz o u):=by have ob:bo X.prog X.w H s.heap a (.dK kvs):=I.hok a _ e;obtain⟨z,hd,vs,rel,o,es,ep,h2,r⟩:=id ob;refine⟨o,n9 (t':=s.toks) (ob:=.frz o (.dK kvs)) I (by rw[e];exact True.intro) (Heap.SameBut.refl ..) ⟨o,h2⟩ ⟨h2,z,hd,vs,rel,o,es,ep,h2,r⟩,fun o' u z=>?_⟩;have:=I.base.frzs a o' u z;rw[e]at this;cases this
theorem Inv.mB{X:Cx}{pins:List (Addr×Obj)}{σ:St}{H:Hp}{s:Shared}{a:Addr}{kvs:List (Key×V)}{od:Obj}(I:Inv X pins σ H s)(e:H a=some (.frz od (.dK kvs)))(hn:∀o u,X.H₀ a≠some (.frz o u)):Inv X pins σ (upd H a (.dK kvs)) s:=by
 have ob:bo X.prog X.w H s.heap a (.frz od (.dK kvs)):=I.hok a _ e;have nn:∀{b:Addr},H b=none->upd H a (.dK kvs) b=none:=fun{b}z=>by rw[ae (fun q=>by rw[q,e]at z;cases z)];exact z
 refine⟨I.ok,I.os,I.bare,⟨I.base.keep,I.base.slot,fun b o q n hx=>nn (I.base.free b o q n hx),I.base.there,fun b xs q=>?_,fun b o u q=>?_,fun b ps q=>?_⟩,I.loc,I.cell,nn I.free,fun x c q=>nn (I.freeC x c q),fun p hp=>?_,fun b u q=>?_,I.len⟩;·have z:=I.base.tups b xs q;rw[ae (fun y=>by rw[y,e]at z;cases z)];exact z
 ·have z:=I.base.frzs b o u q;rw[ae (fun y=>by rw[y]at q;exact hn _ _ q)];exact z
 ·obtain⟨more,z⟩:=I.base.tbls b ps q;exact⟨more,by rw[ae (fun y=>by rw[y,e]at z;cases z)];exact z⟩
 ·obtain⟨h1,h2,h3⟩:=I.pin p hp;exact⟨h1,nn h2,h3⟩
 ·have ks:∀{b:Addr}{u:HO},bo X.prog X.w H s.heap b u->bo X.prog X.w (upd H a (.dK kvs)) s.heap b u:=fun{b u}x=>x.sO (fun _ _ _ q=>q) (fun c r=>by rw[ae (fun y=>by rw[y,e]at r;cases r)];exact r) fun c xs r=>by rw[ae (fun y=>by rw[y,e]at r;cases r)];exact r
  by_cases hb:b=a;·subst hb;rw[ag]at q;cases q;exact ks ob.2
  ·rw[ae hb]at q;exact ks (I.hok b u q)
end L2
namespace L2
open PySem PySem.Spec PyProof.Rows
section
variable{X:Cx}
end
end L2
namespace L2
open PySem PySem.Spec PyProof.Rows
section
variable{X:Cx}
theorem i5{h:Heap}:∀{us:List Value}{ds:List PyData}{as:List Addr},ReadsAll h us ds as->us.length=ds.length|_,_,_,.nil=>rfl|_,_,_,.cons _ t=>by rw[List.length_cons,List.length_cons,i5 t]
noncomputable def vt(p:PyData->Bool)(ds:List PyData)(k:Nat):Prop:=(∃d,ds[k]?=some d/\p d=true)/\∀m d,m<k->ds[m]?=some d->p d=false
theorem uj:MtR X "list.index" (fun x vs H Q=>∃n y d ds k,vs=[y]/\IsD X.K H n y d/\IsD X.K H (n+1) x (.list ds)/\X.A.units+1+n<cLine/\vt (fun z=>PyData.eqv z d) ds k/\ds.length<=1000000/\Q (.int k) H):=by
 intro pins s σ H x vs v us Q I rx rv⟨n,y,d,ds,k,e,hy,hx,hu,⟨⟨dk,hdk,ek⟩,hno⟩,hl,q⟩;subst e;obtain⟨u,rfl,ru⟩:=vals1 rv;obtain⟨⟨as,ra⟩,c1,d1⟩:=I.reads n d y u hy ru;obtain⟨⟨bs,rb⟩,c2,d2⟩:=I.reads _ _ x v hx rx;have c2:PyData.canLayAll0 ds=true:=by simpa[PyData.canLay0]using c2
 cases rb with|@list a o its m ds' as' h1 h2 h3 h4=>
 obtain⟨cl,dd,dt,sl⟩:=o;cases h2;cases h3;have hmap:=SeqAt.readsAll_map ds _ _ c2 h4;have hlen:=i5 h4;have at':∀m(hm:m<its.size),ds[m]?=some (SeqAt.readOf s.heap its[m]):=fun m hm=>by rw[<-hmap,List.getElem?_map];simp[hm]
 have hk:k<its.size:=by have:=(List.getElem?_eq_some_iff.mp hdk).1;have:its.toList.length=ds.length:=hlen;simp at this;omega
 have ik:=at' k hk;rw[hdk]at ik;have hz:its.size<=1000000:=by have:its.toList.length=ds.length:=hlen;simp at this;omega
 refine call_meets F.slot_list_index ⟨_,h1,rfl⟩ F.entry_list_index (F.args_list_index_2 _ _) (SeqAt.list_indexAt a its m dd sl u (fun z=>PyData.eqv (SeqAt.readOf s.heap z) d) k hk (by omega) ?_ fun m hm hlt=>?_) ⟨h1,SeqAt.items_eqAt h4 ra c2 c1 (by have:=Nat.min_le_right (PyData.depthAll ds) d.depth;omega),⟨.int k,H,I.tok _,⟨_,rfl⟩,q⟩⟩;·show PyData.eqv (SeqAt.readOf s.heap its[k]) d=true;rw[<-Option.some.inj ik];exact ek
 ·exact hno m _ hlt (at' m hm)
theorem vm(hc:X.calm=true):bz X (.builtin "all") (fun xs H Q=>∃(l:Addr)(bs:List Bool),xs=[.ref l]/\SqL X.K H l (bs.map V.bl)/\Q (.bl (bs.all id)) H):=by
 intro pins s σ H xs us Q I r h;obtain⟨l,bs,rfl,hq,q⟩:=h;obtain⟨u,rfl,rx⟩:=vals1 r;cases rx;obtain⟨its,rv,pl,hz⟩:=I.list hq;have hl:=rv.length;have ll:l<s.heap.objs.size:=by obtain⟨o,_,ho,_⟩:=pl;exact Heap.lt_size ho
 have hb:∀(i:Nat)(v:Value),its.toArray[i]?=some v->∃b,bs[i]?=some b/\v=Value.bool b:=fun i v hv=>by
  have hv':its[i]?=some v:=by simpa using hv
  have hi:i<(bs.map V.bl).length:=by have:=(List.getElem?_eq_some_iff.mp hv').1;omega
  obtain⟨u,hu',ru⟩:=rv.get (List.getElem?_eq_getElem hi);rw[hv']at hu';cases hu';have hi':i<bs.length:=by simpa using hi
  refine⟨bs[i],List.getElem?_eq_getElem hi',?_⟩;rw[List.getElem_map]at ru;exact ru
 refine call_all_walk (wpAny_pyIter_list pl.isList ⟨s.heap.objs.size,_,_,_,_,_,fun i=>bs.getD i false,rfl,Walks.list (prog:=X.prog) (w:=X.w) (A:=X.A.in1) (show X.A.in1.handled=none from I.ok.hd hc) s.heap.objs.size l (Nat.ne_of_lt ll) its.toArray,⟨⟨_,Heap.get?_push_size _ rfl,rfl,rfl⟩,?_⟩,?_,fun h' tk hk=>?_⟩);·obtain⟨o,k,ho,hc',hd',hdd⟩:=pl;exact⟨o,Heap.get?_push_of_some _ ho,hc',k,hdd⟩
 ·intro i v s' Q' E' hP hQ;obtain⟨b,hb1,rfl⟩:=hb i v hP;have hQ:Q' (bs.getD i false) s':=hQ;rw[List.getD_eq_getElem?_getD,hb1]at hQ;exact wpAny_truthy_bool hQ
 ·have e:(List.range its.toArray.size).all (fun i=>bs.getD i false)=bs.all id:=by
   have hl':its.toArray.size=bs.length:=by simp at hl⊢;omega
   rw[hl',Bool.eq_iff_iff,List.all_eq_true,List.all_eq_true];constructor;·intro h b hb;obtain⟨i,hi,rfl⟩:=List.getElem_of_mem hb;have:=h i (List.mem_range.mpr hi);rw[List.getD_eq_getElem?_getD,List.getElem?_eq_getElem hi]at this;exact this
   ·intro h i hi;have hi:=List.mem_range.mp hi;rw[List.getD_eq_getElem?_getD,List.getElem?_eq_getElem hi];exact h _ (List.getElem_mem hi)
  rw[e];exact⟨.bl _,H,I.kept fun b o eb=>hk b o (by
  intro z;have e':b=s.heap.objs.size:=by simpa using z
  exact absurd (Heap.lt_size eb) (by rw[e'];exact Nat.lt_irrefl _)) (Heap.get?_push_of_some _ eb),rfl,q⟩
theorem aat:IxR X (fun x y H Q=>∃a kvs k v,x=.ref a/\y=kV k/\Rd H a (.dK kvs)/\vw kvs k=some v/\Q v H):=by intro value slice pins s σ H x y v u Q I rx ry⟨a,kvs,k,z,ex,ey,e,l,q⟩hs;subst ex ey;cases(show v=Value.ref a from rx);obtain⟨zl,hd,vs,rel,dd⟩:=xC I.hok e;obtain⟨w',hw,rw'⟩:=oQ.some_of (v:=z) (o:=valueAt vs k) (by rw[<-l];exact rel.val k);exact tail_any dd.typeIs PySem.F.slot_dict_getitem.lookup (wpAny_getItem_of (aaq ry) dd.mapOf hw ⟨z,H,I.tok _,rw',q⟩) hs
end
end L2
namespace L2
open PySem PySem.Spec PyProof.Rows
noncomputable def V12(vs:Array Value)(v:Value):Prop:=vs[1]?=some v/\vs[2]?=some .none
noncomputable def Trc(h:Heap)(e C:Addr)(dx:Option Addr)(fl:Value):Option Addr->Prop|none=>∃oe vs,h.get? e=some oe/\oe.cls=.ref C/\oe.dict=dx/\oe.data=.fields vs/\V12 vs .none|some T=>T≠e/\∃oe vs oT ts,h.get? e=some oe/\oe.cls=.ref C/\oe.dict=dx/\oe.data=.fields vs/\V12 vs (.ref T)/\h.get? T=some oT/\oT.data=.fields ts/\ts[3]?=some fl
theorem Trc.keeps{h h':Heap}{e C:Addr}{dx:Option Addr}{fl:Value}{T:Option Addr}(t:Trc h e C dx fl T)(k:∀b o,(b=e\/T=some b)->h.get? b=some o->h'.get? b=some o):Trc h' e C dx fl T:=by cases T with|none=>obtain⟨oe,vs,h1,r⟩:=t;exact⟨oe,vs,k _ _ (.inl rfl) h1,r⟩|some T=>obtain⟨ne,oe,vs,oT,ts,h1,h2,h3,h4,h5,h6,r⟩:=t;exact⟨ne,oe,vs,oT,ts,k _ _ (.inl rfl) h1,h2,h3,h4,h5,k _ _ (.inr rfl) h6,r⟩
theorem Obj.jN(f:Array Value->Array Value)(o:Obj):(o.mapFields f).dict=o.dict:=by obtain⟨c,d,dt,sl⟩:=o;cases dt<;>rfl
section
variable{M:Model}{A:Around}{E:Value->Shared->Prop}{s:Shared}
theorem mG{base:Heap}{env:Env}{outer:List Env}{L e C:Addr}{oe:Obj}{vs:Array Value}{head:Value}{hadNext:Bool}{Q:Unit->Shared->Prop}(hfr:A.frames=some (env::outer))(hl:s.heap.FunFrames base (env::outer))(hf:env.frame=some L)(he:s.heap.get? e=some oe)(hd:oe.data=.fields vs)(hsz:1<vs.size)(hctx:vs[2]?=some .none)(h:∀h' T',(∀b o,s.heap.get? b=some o->b≠e->b∉frs (env::outer)->h'.get? b=some o)->(∀b o,s.heap.get? b=some o->b∈frs (env::outer)->∃sl,h'.get? b=some {o with slots:=sl})->s.heap.objs.size<=T'->Trc h' e C oe.dict (rawInt L) (some T')->Q () {s with heap:=h'})(hc:oe.cls=.ref C):wpAny M A (do let a <-frameOf env;let pl <-entryPlaceOf L hadNext;let b <-EntryCells.newEntry head a .none (rawInt L) .none pl;setField (.ref e) 1 b) Q E s:=by
 have hene:e ∉(env::outer).filterMap (·.frame):=fun hm=>by obtain⟨_,o,ho,hnf⟩:=hl.mem hm;rw[he]at ho;injection ho with ho;subst ho;exact hnf vs hd
 refine wpAny_bind (wpAny_frameOf_fun hfr hl hf fun h₁ hs₁=>?_);refine wpAny_bind (wpAny_entryPlaceOf fun pl hpl=>?_);unfold EntryCells.newEntry newFields;refine wpAny_bind (wpAny_newObj_type ?_ (hpl.sizeOk5 _ _ _ _ _));have he₁:h₁.get? e=some oe:=(hs₁.2.1 e hene).trans he;have he₂:=Heap.get?_push_of_some (h:=h₁) {cls:=.type "traceback",dict:=none,data:=.fields ([head,.ref L,.none,rawInt L,.none]++(if pl.isEmpty then List.replicate 6 Value.none else pl)).toArray} he₁;refine wpAny_setField he₂ hd hsz ?_;have hTe:h₁.objs.size≠e:=Nat.ne_of_gt (Heap.lt_size he₁);have hd₃:=Obj.data_mapFields hd (·.setIfInBounds 1 (Value.ref h₁.objs.size));have he₃:=Heap.get?_update_self (Obj.mapFields (·.setIfInBounds 1 (Value.ref h₁.objs.size))) he₂ (Obj.isFreed_of_fields hd₃);have hT₃:=(Heap.get?_update_other (h₁.push {cls:=.type "traceback",dict:=none,data:=.fields ([head,.ref L,.none,rawInt L,.none]++(if pl.isEmpty then List.replicate 6 Value.none else pl)).toArray}) (Obj.mapFields (·.setIfInBounds 1 (Value.ref h₁.objs.size))) (Ne.symm hTe)).trans (Heap.get?_push_size h₁ rfl);have keep:∀b o,b≠e->h₁.get? b=some o->((h₁.push {cls:=.type "traceback",dict:=none,data:=.fields ([head,.ref L,.none,rawInt L,.none]++(if pl.isEmpty then List.replicate 6 Value.none else pl)).toArray}).update e (Obj.mapFields (·.setIfInBounds 1 (Value.ref h₁.objs.size)))).get? b=some o:=fun b o hbe hb=>by rw[Heap.get?_update_other _ _ (Ne.symm hbe)];exact Heap.get?_push_of_some _ hb
 refine h _ h₁.objs.size (fun b o hb hbe hbf=>keep b o hbe ((hs₁.2.1 b hbf).trans hb)) (fun b o hb hbf=>?_) ?_ ?_;·obtain⟨sl,q⟩:=hs₁.2.2 b o hb;exact⟨sl,keep b _ (fun z=>hene (z▸hbf)) q⟩
 ·rw[hs₁.1];exact Nat.le_refl _
 ·exact⟨hTe,_,_,_,_,he₃,(Obj.cls_mapFields _ _).trans hc,Obj.jN _ _,hd₃,⟨by simp[hsz],by rw[Array.getElem?_setIfInBounds];simpa using hctx⟩,hT₃,rfl,by first|(simp;done)|(rcases hpl with rfl|⟨_,_,_,_,_,_,_,rfl⟩<;>simp)⟩
theorem pR{base:Heap}{env:Env}{outer:List Env}{L e C:Addr}{dx:Option Addr}{fl:Value}{T:Option Addr}{Q:Unit->Shared->Prop}(hfr:A.frames=some (env::outer))(hl:s.heap.FunFrames base (env::outer))(hf:env.frame=some L)(ht:Trc s.heap e C dx fl T)(hfl:(fl==rawInt L)=false)(h:∀h' T',(∀b o,s.heap.get? b=some o->b≠e->T≠some b->b∉frs (env::outer)->h'.get? b=some o)->(∀b o,s.heap.get? b=some o->b∈frs (env::outer)->∃sl,h'.get? b=some {o with slots:=sl})->s.heap.objs.size<=T'->Trc h' e C dx (rawInt L) (some T')->Q () {s with heap:=h'}):wpAny M A (noteFrame (.ref e) env) Q E s:=by unfold noteFrame;simp only[hf];cases T with|none=>obtain⟨oe,vs,he,hc,hdx,hd,h1⟩:=ht;refine wpAny_bind (wpAny_field he hd h1.1 ?_);rw[if_neg (by decide)];subst hdx;exact mG hfr hl hf he hd (Array.getElem?_eq_some_iff.mp h1.1).1 h1.2 (fun h' T' k1 k2 k3 k4=>h h' T' (fun b o hb ne _ hn=>k1 b o hb ne hn) k2 k3 k4) hc|some T=>
 obtain⟨hTe,oe,vs,oT,ts,he,hc,hdx,hd,h1,hT,hdT,h3⟩:=ht;subst hdx;refine wpAny_bind (wpAny_field he hd h1.1 ?_);rw[if_pos (show(Value.ref T !=Value.none)=true from by simp)];refine wpAny_bind (wpAny_field hT hdT h3 ?_);rw[if_neg (show¬((fl==rawInt L)=true)from by rw[hfl];exact Bool.false_ne_true)];refine wpAny_bind (wpAny_setField hT hdT (Array.getElem?_eq_some_iff.mp h3).1 ?_);have other:∀b,b≠T->(s.heap.update T (Obj.mapFields (·.setIfInBounds 3 Value.none))).get? b=s.heap.get? b:=fun b hb=>Heap.get?_update_other _ _ (Ne.symm hb);have noRecord:∀b o,s.heap.get? b=some o->(∀vs,o.data≠.fields vs)->b≠T:=fun b o hb hnf q=>by rw[q,hT]at hb;injection hb with hb;subst hb;exact hnf ts hdT
 have frT:∀b∈frs (env::outer),b≠T:=fun b hb=>by obtain⟨_,o,ho,hnf⟩:=hl.mem hb;exact noRecord b o ho hnf
 refine mG hfr (hl.of_keeps fun b o hb hnf=>⟨o,(other b (noRecord b o hb hnf)).trans hb,rfl⟩) hf ((other e (Ne.symm hTe)).trans he) hd (Array.getElem?_eq_some_iff.mp h1.1).1 h1.2 (fun h' T' k1 k2 k3 k4=>h h' T' (fun b o hb ne nT hn=>?_) (fun b o hb hbf=>?_) ?_ k4) hc;·have nT':b≠T:=fun z=>nT (by rw[z]);exact k1 b o ((other b nT').trans hb) ne hn
 ·exact k2 b o ((other b (frT b hbf)).trans hb) hbf
 ·have z:(s.heap.update T (Obj.mapFields (·.setIfInBounds 3 Value.none))).objs.size=s.heap.objs.size:=Heap.size_after_update ..;rw[<-z];exact k3
theorem ua{env:Env}{L e C T:Addr}{dx:Option Addr}{fl:Value}{Q:Unit->Shared->Prop}(hf:env.frame=some L)(ht:Trc s.heap e C dx fl (some T))(hfl:(fl==rawInt L)=true)(h:Q () s):wpAny M A (noteFrame (.ref e) env) Q E s:=by unfold noteFrame;simp only[hf];obtain⟨hTe,oe,vs,oT,ts,he,hc,hdx,hd,h1,hT,hdT,h3⟩:=ht;refine wpAny_bind (wpAny_field he hd h1.1 ?_);rw[if_pos (show(Value.ref T !=Value.none)=true from by simp)];refine wpAny_bind (wpAny_field hT hdT h3 ?_);rw[if_pos hfl];exact wpAny_pure h
theorem rn{e C T:Addr}{dx:Option Addr}{fl:Value}{fr:Option Addr}{Q:Unit->Shared->Prop}(ht:Trc s.heap e C dx fl (some T))(h:∀h',(∀b o,s.heap.get? b=some o->b≠T->h'.get? b=some o)->Trc h' e C dx (fr.elim .none fun f=>rawInt f) (some T)->Q () {s with heap:=h'}):wpAny M A (setFlight (.ref e) fr) Q E s:=by obtain⟨hTe,oe,vs,oT,ts,he,hc,hdx,hd,h1,hT,hdT,h3⟩:=ht;have hsz3:3<ts.size:=(Array.getElem?_eq_some_iff.mp h3).1;have other:∀b,b≠T->(s.heap.update T (Obj.mapFields (·.setIfInBounds 3 (fr.elim Value.none fun f=>rawInt f)))).get? b=s.heap.get? b:=fun b hb=>Heap.get?_update_other _ _ (Ne.symm hb);unfold setFlight;refine wpAny_bind (wpAny_field he hd h1.1 ?_);rw[if_pos (show(Value.ref T !=Value.none)=true from by simp)];refine wpAny_setField hT hdT hsz3 (h _ (fun b o hb ne=>(other b ne).trans hb) ?_);exact⟨hTe,oe,vs,_,_,(other e (Ne.symm hTe)).trans he,hc,hdx,hd,h1,Heap.get?_update_self _ hT (Obj.isFreed_of_fields (Obj.data_mapFields hdT _)),Obj.data_mapFields hdT _,by simp[hsz3]⟩
end
theorem nL{P:Program}{w:World}{H:Hp}{h:Heap}{a:Addr}{o:HO}(x:bo P w H h a o):∃ob,h.get? a=some ob:=by cases o with|lst xs=>obtain⟨_,_,_,_,e⟩:=x;exact⟨_,e⟩|tup xs=>obtain⟨_,_,_,o,e,_⟩:=x;exact⟨_,e⟩|dK kvs=>obtain⟨_,_,_,_,o,_,_,e,_⟩:=x;exact⟨_,e⟩|dT kvs=>obtain⟨_,_,_,_,o,_,_,e,_⟩:=x;exact⟨_,e⟩|set S n=>obtain⟨o,_,_,_,e,_⟩:=x;exact⟨_,e⟩|ins C dx fs=>obtain⟨_,_,_,e,_⟩:=x;exact⟨_,e⟩|own y=>exact x|xd fs=>obtain⟨_,⟨_,_,_,e,_⟩,_⟩:=x;exact⟨_,e⟩|rng lo hi=>obtain⟨_,_,_,e⟩:=x;exact⟨_,e⟩|frz ob u=>obtain⟨e,_⟩:=x;exact⟨_,e⟩|tbl ps=>exact⟨_,(show h.get? a=some _ from x)⟩|met f y=>exact⟨_,(show h.get? a=some _ from x)⟩|ext φ=>obtain⟨_,e,_⟩:=x;exact e
noncomputable def FpX(X:Cx)(pins:List (Addr×Obj))(H:Hp)(b:Addr):Prop:=H b=none/\b≠X.env.locals/\b∉X.fs/\(b∈X.ex\/X.s₀.heap.get? b=none)/\(∀x c,X.env.cells.lookup x=some c->c≠b)/\∀p∈X.pn++pins,p.1≠b
structure Thr(X:Cx)(pins:List (Addr×Obj))(σ:St)(H:Hp)(s:Shared)(e C:Addr)(dx:Option Addr)(fl:Value)(T:Option Addr):Prop where
 inv:Inv X pins σ H s
 trc:Trc s.heap e C dx fl T
 fe:FpX X pins H e
 fT:∀t,T=some t->FpX X pins H t
section
variable{X:Cx}{pins:List (Addr×Obj)}{σ:St}{H:Hp}{s:Shared}{e C:Addr}{dx:Option Addr}{fl:Value}{T:Option Addr}
theorem Inv.fpX{H':Hp}(I:Inv X pins σ H s){b:Addr}(hb:s.heap.get? b=none)(hn:H' b=none):FpX X pins H' b:=by
 refine⟨hn,fun z=>?_,fun z=>?_,?_,fun x c ec z=>?_,fun p hp z=>?_⟩;·obtain⟨m,⟨o,es,ep,ho,_⟩,_⟩:=I.loc;rw[<-z,hb]at ho;cases ho
 ·obtain⟨_,o,ho,_⟩:=I.my.mem z;rw[hb]at ho;cases ho
 ·by_cases hx:b∈X.ex;·exact .inl hx
  ·refine .inr ?_;cases q:X.s₀.heap.get? b with|none=>rfl|some o=>obtain⟨o',e'⟩:=I.base.there b o q hx;rw[hb]at e';cases e'
 ·obtain⟨v,o,ho,_⟩:=I.cell x c ec;rw[z,hb]at ho;cases ho
 ·have:=(I.pin p hp).1;rw[z,hb]at this;cases this
theorem Inv.aer(I:Inv X pins σ H s){ch:List Addr}{h':Heap}(hch:∀b∈ch,FpX X pins H b)(k:∀b o,s.heap.get? b=some o->b∉ch->b∉frs X.stack->h'.get? b=some o)(f:∀b o,s.heap.get? b=some o->b∉ch->b∈frs X.stack->∃sl,h'.get? b=some {o with slots:=sl}):Inv X pins σ H {s with heap:=h'}:=by
 have any:∀b o,s.heap.get? b=some o->b∉ch->∃sl,h'.get? b=some {o with slots:=sl}:=fun b o q hc=>by
  by_cases hb:b∈frs X.stack;·exact f b o q hc hb
  ·exact⟨o.slots,k b o q hc hb⟩
 have nst:∀b,b≠X.env.locals->b∉X.fs->b∉frs X.stack:=fun b h1 h2 z=>(List.mem_cons.mp (I.pf b z)).elim h1 h2;have trk:∀b u,H b=some u->b∉ch/\b∉frs X.stack:=fun b u q=>⟨(fun z=>by rw[(hch b z).1]at q;cases q),(fun z=>by rw[I.nu b z]at q;cases q)⟩;refine I.afB (g':=s.gens) (d':=s.drawn) (t':=s.toks) (ch:=ch) (fun b hb=>⟨(hch b hb).2.2.2.1,(hch b hb).2.1,(hch b hb).2.2.2.2.1,(hch b hb).2.2.2.2.2⟩) (fun b o h1 h2 hc q _=>k b o q hc (nst b h1 h2)) (fun b o _ _ hc q _=>any b o q hc) (fun _ _ _ _ n=>n) (fun b o hc q=>let⟨sl,z⟩:=any b o q hc;⟨_,z⟩) (fun _ _ q=>q) (fun _ _ _ q=>q) (fun b ps q=>⟨#[],by rw[q];simp⟩) (fun m hm=>?_) (fun b u q=>?_) I.bare;·obtain⟨o,es,ep,ho,r⟩:=hm;have hc:X.env.locals∉ch:=fun z=>(hch _ z).2.1 rfl;obtain⟨sl,hL⟩:=any _ o ho hc;exact⟨_,es,ep,hL,r⟩
 ·refine(I.hok b u q).sO (fun c v hc z=>?_) (fun _ z=>z) fun _ _ z=>z;rcases hc with rfl|hc;·exact k c v z (trk c u q).1 (trk c u q).2
  ·exact k c v z (trk c _ hc).1 (trk c _ hc).2
variable{M:Model}{E:Value->Shared->Prop}{Q:Unit->Shared->Prop}
theorem Thr.note(t:Thr X pins σ H s e C dx fl T)(hs:X.stack=X.env::X.outer)(hf:X.env.frame=some X.env.locals)(h:∀h' T' fl',Thr X pins σ H {s with heap:=h'} e C dx fl' (some T')->Q () {s with heap:=h'}):wpAny M X.A (noteFrame (.ref e) X.env) Q E s:=by
 have I:=t.inv;have hst:=I.stack;rw[hs]at hst;have main:(fl==rawInt X.env.locals)=false->wpAny M X.A (noteFrame (.ref e) X.env) Q E s:=fun hfl=>by
  refine pR (by rw[<-hs];exact I.ok.frames) hst hf t.trc hfl fun h' T' k1 k2 k3 k4=>h h' T' (rawInt X.env.locals) ?_;have hT':H T'=none:=I.hok.fresh k3;have hch:∀b∈e::T.toList,FpX X pins H b:=fun b hb=>by
   rcases List.mem_cons.mp hb with rfl|hb;·exact t.fe
   ·exact t.fT b (by cases T<;>simp at hb⊢;exact hb.symm)
  have hmem:∀b,b∉e::T.toList->b≠e/\T≠some b:=fun b hb=>⟨fun z=>hb (by rw[z];exact List.mem_cons_self),fun z=>hb (by rw[z];simp)⟩;have I':Inv X pins σ H {s with heap:=h'}:=I.aer hch (fun b o q hc hb=>k1 b o q (hmem b hc).1 (hmem b hc).2 (by rw[<-hs];exact hb)) (fun b o q _ hb=>k2 b o q (by rw[<-hs];exact hb));exact⟨I',k4,t.fe,fun b hb=>by cases hb;exact I.fpX (Heap.get?_none_of_le k3) hT'⟩
 cases T with|none=>exact(show Thr X pins σ H s e C dx .none none->_ from fun t=>by
   have hfl:((.none:Value)==rawInt X.env.locals)=false:=by simp[rawInt]
   refine pR (by rw[<-hs];exact I.ok.frames) hst hf t.trc hfl fun h' T' k1 k2 k3 k4=>h h' T' (rawInt X.env.locals) ?_;have hT':H T'=none:=I.hok.fresh k3;have I':Inv X pins σ H {s with heap:=h'}:=I.aer (ch:=[e]) (fun b hb=>by rw[List.mem_singleton.mp hb];exact t.fe) (fun b o q hc hb=>k1 b o q (fun z=>hc (by rw[z];exact List.mem_cons_self)) (by intro z;cases z) (by rw[<-hs];exact hb)) (fun b o q _ hb=>k2 b o q (by rw[<-hs];exact hb));exact⟨I',k4,t.fe,fun b hb=>by cases hb;exact I.fpX (Heap.get?_none_of_le k3) hT'⟩) ⟨t.inv,t.trc,t.fe,t.fT⟩|some T0=>cases hfl:(fl==rawInt X.env.locals)with|false=>exact main hfl|true=>exact ua hf t.trc hfl (h s.heap T0 fl t)
theorem Thr.uS{T:Addr}{fr:Option Addr}(t:Thr X pins σ H s e C dx fl (some T))(h:∀h' fl',Thr X pins σ H {s with heap:=h'} e C dx fl' (some T)->(fr=none->fl'=.none)->Q () {s with heap:=h'}){A:Around}:wpAny M A (setFlight (.ref e) fr) Q E s:=by refine rn t.trc fun h' k1 k2=>h h' _ ⟨?_,k2,t.fe,t.fT⟩ (fun z=>by subst z;rfl);exact t.inv.aer (ch:=[T]) (fun b hb=>by rw[List.mem_singleton.mp hb];exact t.fT T rfl) (fun b o q hc _=>k1 b o q (fun z=>hc (by rw[z];exact List.mem_cons_self))) (fun b o q hc _=>⟨o.slots,k1 b o q (fun z=>hc (by rw[z];exact List.mem_cons_self))⟩)
theorem Thr.adQ{T:Addr}(t:Thr X pins σ H s e C dx fl (some T))(h:∀h',Thr X pins σ H {s with heap:=h'} e C dx .none (some T)->Q () {s with heap:=h'}){A:Around}:wpAny M A (setFlight (.ref e) none) Q E s:=t.uS fun h' fl' t' z=>h h' (z rfl▸t')
theorem Thr.pass{α:Type}{T:Addr}{what:String}{env:Env}{Q:α->Shared->Prop}(t:Thr X pins σ H s e C dx fl (some T))(h:∀h' fl',Thr X pins σ H {s with heap:=h'} e C dx fl' (some T)->E (.ref e) {s with heap:=h'}){A:Around}:wpAny M A (PySem.passOn what (.ref e) env:Sem α) Q E s:=by unfold PySem.passOn;obtain⟨hTe,oe,vs,oT,ts,he,hc,hdx,hd,h1,hT,hdT,h3⟩:=id t.trc;refine wpAny_bind (wpAny_field he hd h1.1 ?_);rw[if_neg (show¬((Value.ref T==Value.none)=true)from by simp)];exact wpAny_bind (t.uS fun h' fl' t' _=>wpAny_throw (h h' fl' t'))
end
noncomputable def CXX(P:Program)(w:World):CXT:=fun outer H s E e s'=>∃ea C dx T H',e=.ref ea/\s'.os=s.os/\AllBare s'.gens/\Un (frs outer) [] H H' s.heap s'.heap/\HOk P w H' s'.heap/\Trc s'.heap ea C dx .none (some T)/\s.heap.get? ea=none/\s.heap.get? T=none/\H' ea=none/\H' T=none/\E (.ref C) dx H'
section
variable{X:Cx}{pins:List (Addr×Obj)}{σ:St}{H:Hp}{s s':Shared}{e:Value}{E:XK}
theorem Inv.thrown(I:Inv X pins σ H s)(h:CXX X.prog X.w X.stack H s E e s'):∃ea C dx T H',e=.ref ea/\Thr X pins σ H' s' ea C dx .none (some T)/\E (.ref C) dx H':=by obtain⟨ea,C,dx,T,H',rfl,ho,hb,un,hok,tr,n1,n2,h1,h2,q⟩:=h;exact⟨ea,C,dx,T,H',rfl,⟨I.aaP (ch:=[]) ho un hok hb (fun b z=>absurd z (by simp)),tr,I.fpX n1 h1,fun t z=>by cases z;exact I.fpX n2 h2⟩,q⟩
end
theorem kH{P:Program}{w:World}{K:W.Frag}{mg:Str->Option Value}{base:Heap}{N:List Str}{qual:Str}{scope:Scope}{f:Addr}{cdv:Value}{A:Around}{outer:List Env}{s:Shared}{H:Hp}{E:XK}{pins:List (Addr×Obj)}{σ:St}{H':Hp}{s':Shared}{e C:Addr}{dx T:Option Addr}{fl:Value}(t:Thr (gH (CXX P w) P w K mg base N qual scope f cdv A outer s H E) pins σ H' s' e C dx fl T)(q:E (.ref C) dx H'):(gH (CXX P w) P w K mg base N qual scope f cdv A outer s H E).xe (.ref e) s':=by
 show wpAny (model P w) _ (leaving _ (.ref e)) _ _ s';unfold leaving;refine wpAny_bind (t.note rfl rfl fun h' T' _ t'=>t'.adQ fun h'' t''=>?_);have I:=t''.inv;have new:∀b,FpX (gH (CXX P w) P w K mg base N qual scope f cdv A outer s H E) pins H' b->s.heap.get? b=none:=fun b z=>by
  rcases z.2.2.2.1 with z|z;·exact absurd (show b∈([]:List Addr)from z) (by simp)
  ·exact z
 exact⟨e,C,dx,T',H',rfl,I.os,I.bare,I.base,I.hok,t''.trc,new e t''.fe,new T' (t''.fT T' rfl),t''.fe.1,(t''.fT T' rfl).1,q⟩
section
variable{X:Cx}{k:Nat}{f:Addr}{fd:FuncData}{ps:List Str}{sp:Sp}{dvs:List V}{ds:List Value}{x:Str}{p pos:Pos}{e:Expr}{es:List Expr}{t:TA}
noncomputable def xX(X:Cx)(sp:Sp)(dvs:List V)(t:TA):TE:=fun σ H Q=>t σ H fun vs H1=>∃E:XK,sp (vs++dvs) H1 Q E/\∀pins s e C dx T H',Thr X pins σ H' s e C dx .none (some T)->E (.ref C) dx H'->X.xe (.ref e) s
theorem tq{pins:List (Addr×Obj)}{σ:St}{H:Hp}{s:Shared}{Q:VK}{us:List Value}{vs:List V}{E:XK}(F:FnOk X.prog X.w X.K X.mg X.base (CXX X.prog X.w) k f fd ps sp)(hr:Room k X.A)(hb:Binds X.K fd ps ds)(hd:Vals dvs ds)(hx:∀pins s e C dx T H',Thr X pins σ H' s e C dx .none (some T)->E (.ref C) dx H'->X.xe (.ref e) s)(I:Inv X pins σ H s)(r:Vals vs us)(h:sp (vs++dvs) H Q E):wpAny (model X.prog X.w) X.A (call (.ref f) us) (EP X pins σ Q) X.xe s:=by
 have r2:Vals (vs++dvs) (us++ds):=r.append hd;have hl:(us++ds).length=ps.length:=by rw[<-r2.length];exact F.len _ _ _ _ h
 refine wpAny_call (codeAny_mono (F.run X.A X.stack s H ⟨us,[]⟩ (us++ds) (vs++dvs) Q E hr trivial I.ahf (hb s us I.kIn hl) r2 h) fun r s' hq=>?_);cases r with|error e=>obtain⟨ea,C,dx,T,H',rfl,t,q⟩:=I.thrown hq;exact hx pins s' ea C dx T H' t q|ok fl=>cases fl with|ret u=>exact I.after hq|next=>exact False.elim hq|brk=>exact False.elim hq|cont=>exact False.elim hq
theorem pJ(F:FnOk X.prog X.w X.K X.mg X.base (CXX X.prog X.w) k f fd ps sp)(hr:Room k X.A)(hg:Gl X x)(hm:X.mg x=some (.ref f))(hk:W.keepIn X.K (.ref f)=true)(hb:Binds X.K fd ps ds)(hd:Vals dvs ds)(ha:PA X (e::es) t)(hdb:(x==("__debug__":Str))=false:=by decide)(he:starEach (e::es) X.env=(false,eval e X.env)::starEach es X.env:=by rfl)(hpl:(backTo pos (starEach es X.env)).any (·.1)=false:=by rfl):PE X (.Call (.Name x p) (e::es) [] pos) (xX X sp dvs t):=by intro pins s σ H Q I h;refine wpAny_Call_Name_kw (je I hg hm ?_ hdb);refine W.callWith_K (h₀:=X.base) I.ok.mod.kin hk (thn (ha pos pins s σ H _ I h) fun us s1⟨vs,H1,I1,r,E,q,hx⟩=>⟨I1.kIn,?_⟩) he hpl;exact tq F hr hb hd hx I1 r q
end
section
variable{X:Cx}{t:TA}{x:Str}{C:Addr}{np cpos pos:Pos}{e:Expr}{es:List Expr}
noncomputable abbrev lq:List Value:=[.type "ValueError",.type "Exception",.type "BaseException",.type "object"]
noncomputable def abE(X:Cx)(C:Addr)(t:TA):TS:=fun _ σ H=>t σ H fun vs H1=>vs.length<=sizeLine/\∀pins s e,Thr X pins σ H1 s e C none .none none->X.xe (.ref e) s
theorem ad1{K:W.Frag}{h:Heap}{mg:Str->Option Value}{bmB:List Value}{newId:String}(X:K.In h)(e:mg x=some (.ref C))(q:W.excIn K C bmB newId=true):OwnCls x C bmB newId mg h:=by
 refine⟨e,?_⟩;unfold W.excIn at q;split at q
 ·rename_i dd cd sl ho;split at q
  ·rename_i C' bm k0 k1 k2 k3 n k5 hm hs;simp only[Bool.and_eq_true,beq_iff_eq,Bool.not_eq_true']at q;obtain⟨⟨⟨⟨⟨rfl,rfl⟩,hdel⟩,ht⟩,hok⟩,hni⟩:=q;obtain⟨nm,bs,mro,ns,qn,hd,sn,sub,ab,col,del⟩:=cd;dsimp only at hm hdel hok hni;subst hm hdel;have hsl:sl=#[k0,k1,k2,k3,some (.builtin n),k5]:=by obtain⟨l⟩:=sl;simp only at hs;rw[hs]
   subst hsl;exact⟨bm,ns,nm,qn,bs,hd,sn,sub,ab,col,dd,k0,k1,k2,k3,k5,_,X _ _ ho,.of_isNs (W.isNs_of_in X hok),W.nsMap_none_of_in X hok hni,W.tail_of_in X ht⟩
  ·cases q
 ·cases q
theorem pF(hc:X.calm=true)(hg:Gl X x)(hm:X.mg x=some (.ref C))(q:W.excIn X.K C lq "ValueError.__new__"=true)(ha:PA X (e::es) t)(hd:(x==("__debug__":Str))=false:=by decide)(he:starEach (e::es) X.env=(false,eval e X.env)::starEach es X.env:=by rfl)(hplain:(backTo cpos (starEach es X.env)).any (·.1)=false:=by rfl):PS X (.Raise (some (.Call (.Name x np) (e::es) [] cpos)) none pos) (abE X C t):=by
 intro pins s σ H D I h;obtain⟨tl,N,nm,qn,bs,hdct,sn,sub,ab,col,dd,k0,k1,k2,k3,k5,mN,hC,hN,hni,T⟩:=(ad1 (x:=x) I.mod.kin hm q).obj;refine wpAny_Raise_call_subT (C:=C) (nm:=nm) (q:=qn) (N:=N) (bs:=bs) (bm:=tl) (hdct:=hdct) (sn:=sn) (sub:=sub) (ab:=ab) (col:=col) (dd:=dd) (k0:=k0) (k1:=k1) (k2:=k2) (k3:=k3) (k5:=k5) PySem.F.excBase_ValueError (mN:=mN) (T.hasType PySem.F.excBase_ValueError.hasBase) (I.ok.hd hc) (by rw[he];show(false||(backTo cpos (starEach es X.env)).any (·.1))=false;rw[hplain];rfl) hni (je I hg hm ⟨rfl,?_⟩ hd);have hA:=ha cpos pins s σ H _ I h;rw[he]at hA⊢;refine Calls.evalArgs_plain (thn hA fun us s2⟨vs,H2,I2,r2,hl,q2⟩=>⟨rfl,by rw[<-r2.length];exact hl,I2.bk _ _ hC,hN.keeps I2.bk,T.keeps I2.bk,fun h' ea hx=>?_⟩);obtain⟨ta,h1,h2,h3⟩:=hx.there;have hH:H2 ea=none:=by cases z:H2 ea with|none=>rfl|some u=>obtain⟨o,ho⟩:=nL (I2.hok ea u z);rw[hx.new]at ho;cases ho
 refine q2 pins _ ea ⟨I2.kept (t':=s2.toks) hx.keeps,⟨_,_,h1,rfl,rfl,rfl,rfl,rfl⟩,I2.fpX hx.new hH,fun t z=>by cases z⟩
end
end L2
namespace L2
open PySem PySem.Spec PyProof.Rows
theorem Cx.Ok.lr{X:Cx}{E:Value->Shared->Prop}{pn:List (Addr×Obj)}(ok:(X.tri E pn).Ok):X.Ok:=⟨ok.mod,ok.kind,ok.glob,ok.blt,ok.above,ok.inj,ok.has,ok.cab,ok.hd,ok.frames,ok.stk,ok.exf,ok.bs,ok.bsz,ok.noex,ok.exfs,ok.my,ok.frf⟩
section
variable{X:Cx}{pins pins':List (Addr×Obj)}{σ:St}{H:Hp}{s:Shared}{E:Value->Shared->Prop}
theorem Inv.lr(I:Inv (X.tri E (X.pn++pins)) pins' σ H s):Inv X pins σ H s:=⟨I.ok.lr,I.os,I.bare,I.base,I.loc,I.cell,I.free,I.freeC,fun p hp=>I.pin p (List.mem_append_left _ hp),I.hok,I.len⟩
theorem FpX.lr{b:Addr}(h:FpX (X.tri E (X.pn++pins)) pins' H b):FpX X pins H b:=⟨h.1,h.2.1,h.2.2.1,h.2.2.2.1,h.2.2.2.2.1,fun p hp=>h.2.2.2.2.2 p (List.mem_append_left _ hp)⟩
theorem Thr.lr{e C:Addr}{dx:Option Addr}{fl:Value}{T:Option Addr}(t:Thr (X.tri E (X.pn++pins)) pins' σ H s e C dx fl T):Thr X pins σ H s e C dx fl T:=⟨t.inv.lr,t.trc,t.fe.lr,fun b hb=>(t.fT b hb).lr⟩
end
section
variable{X:Cx}{pins:List (Addr×Obj)}{σ:St}{H:Hp}{s:Shared}{e Ce C:Addr}{dx:Option Addr}{fl:Value}{T:Addr}{x n:Str}{np hpos:Pos}{b0:Stmt}{suite:List Stmt}{Q:Flow->Shared->Prop}{E:Value->Shared->Prop}
noncomputable def excAt(a C:Addr)(dx:Option Addr)(h:Heap):Prop:=∃oe vs,h.get? a=some oe/\oe.cls=.ref C/\oe.dict=dx/\oe.data=.fields vs/\vs[2]?=some .none
end
end L2
namespace WL
open PySem
inductive W where|non|bl(b:Bool)|int(i:Int)|str(x:Str)|ty(n:String)|tup(xs:List W)|lst(xs:List W)/-- a dict that is read alone: its keys,its values;a class of the text;an exception: its class,its fields -/|dic(ks vs:List W)|cls(c:String)|exc(c:String)(fs:List W)/-- an object that is made: its class,its fields -/|ins(c:String)(fs:List W)
inductive Res(α:Type)where|ok(a:α)|ex(c:W)|bad
noncomputable def Res.bind{α β:Type}:Res α->(α->Res β)->Res β|.ok a,f=>f a|.ex c,_=>.ex c|.bad,_=>.bad
inductive Sl where|no|va(w:W)|ow(ws:List W)|od(ks vs:List W)|ob
noncomputable abbrev Ws:=List Sl
noncomputable abbrev EF:=Ws->Res W
noncomputable abbrev TF:=Ws->Res Bool
noncomputable abbrev AF:=Ws->Res (List W)
noncomputable abbrev LF:=Ws->Res (List W)
noncomputable abbrev GF:=W->Ws->Res Ws
inductive Out where|nx(σ:Ws)|rt(w:W)|bk(σ:Ws)|ct(σ:Ws)|ex(c:W)(σ:Ws)|bad
noncomputable abbrev SF:=Ws->Out
mutual noncomputable def eqv:W->W->Bool|.non,.non=>true|.bl a,.bl b=>a==b|.bl a,.int j=>(if a then 1 else 0)==j|.int i,.bl b=>i==(if b then 1 else 0)|.int i,.int j=>i==j|.str x,.str y=>x==y|.lst xs,.lst ys=>gh xs ys|.tup xs,.tup ys=>gh xs ys|_,_=>false noncomputable def gh:List W->List W->Bool|[],[]=>true|x::xs,y::ys=>eqv x y&&gh xs ys|_,_=>false end
mutual noncomputable def okD:Nat->W->Bool|_,.non=>true|_,.bl _=>true|_,.int _=>true|_,.str x=>x.cps.all (·<0x110000)|_,.ty _=>false|n,.tup xs=>bH n xs|n,.lst xs=>bH n xs|_,.dic _ _=>false|_,.cls _=>false|_,.exc _ _=>false|_,.ins _ _=>false noncomputable def bH:Nat->List W->Bool|0,_=>false|_+1,[]=>true|n+1,x::xs=>okD n x&&bH (n+1) xs end
noncomputable def dM:W->W->Bool|.non,.non=>true|.non,.int _=>true|.int _,.non=>true|.non,.bl _=>true|.bl _,.non=>true|.non,.str _=>true|.str _,.non=>true|.int _,.int _=>true|.bl _,.bl _=>true|.str _,.str _=>true|.int _,.str _=>true|.str _,.int _=>true|.bl _,.str _=>true|.str _,.bl _=>true|_,_=>false
noncomputable def oEq(x y:W):Res W:=if dM x y then .ok (.bl (eqv x y))else if okD 50 x&&okD 50 y then .ok (.bl (eqv x y))else .bad
noncomputable def oNe(x y:W):Res W:=if dM x y then .ok (.bl (!eqv x y))else if okD 50 x&&okD 50 y then .ok (.bl (!eqv x y))else .bad
noncomputable def bJ(x:W):List W->Bool|[]=>false|y::ys=>eqv y x||bJ x ys
noncomputable def oIn(x:W):W->Res W|.lst ys=>if okD 50 x&&bH 51 ys then .ok (.bl (bJ x ys))else .bad|.tup ys=>if okD 50 x&&bH 51 ys then .ok (.bl (bJ x ys))else .bad|_=>.bad
noncomputable def d7(x:W):W->Res W|.lst ys=>if okD 50 x&&bH 51 ys then .ok (.bl (!bJ x ys))else .bad|.tup ys=>if okD 50 x&&bH 51 ys then .ok (.bl (!bJ x ys))else .bad|_=>.bad
noncomputable def lim:Nat:=1000000
noncomputable def fc:W->W->Res W|.int i,.int j=>.ok (.int (i+j))|.lst xs,.lst ys=>if xs.length+ys.length<=lim then .ok (.lst (xs++ys))else .bad|.tup xs,.tup ys=>if xs.length+ys.length<=lim then .ok (.tup (xs++ys))else .bad|_,_=>.bad
noncomputable def aa3:W->W->Res W|.int i,.int j=>.ok (.int (i-j))|_,_=>.bad
noncomputable def t9:W->W->Res W|.int i,.int j=>if(-(2^64)<i/\i<2^64)\/(-(2^64)<j/\j<2^64)then .ok (.int (i*j))else .bad|_,_=>.bad
noncomputable def oDiv:W->W->Res W|.int i,.int j=>if 0<j/\j<10^100 then .ok (.int (i/j))else .bad|_,_=>.bad
noncomputable def oMod:W->W->Res W|.int i,.int j=>if 0<j then .ok (.int (i%j))else .bad|_,_=>.bad
noncomputable def ai2:W->W->Res W|.int i,.int j=>if 0<=j/\j<=1000/\i.natAbs<2^64 then .ok (.int (i^j.toNat))else .bad|_,_=>.bad
noncomputable def oNeg:W->Res W|.int i=>.ok (.int (-i))|_=>.bad
noncomputable def oLt:W->W->Res W|.int i,.int j=>.ok (.bl (decide (i<j)))|_,_=>.bad
noncomputable def oLe:W->W->Res W|.int i,.int j=>.ok (.bl (decide (i<=j)))|_,_=>.bad
noncomputable def oGt:W->W->Res W|.int i,.int j=>.ok (.bl (decide (j<i)))|_,_=>.bad
noncomputable def oGe:W->W->Res W|.int i,.int j=>.ok (.bl (decide (j<=i)))|_,_=>.bad
noncomputable def mr:W->Bool|.non=>true|_=>false
noncomputable def isB(b:Bool):W->Bool|.bl c=>b==c|_=>false
noncomputable def oIs(x:W):W->Res W|.non=>.ok (.bl (mr x))|.bl b=>.ok (.bl (isB b x))|_=>.bad
noncomputable def yi(x:W):W->Res W|.non=>.ok (.bl (!mr x))|.bl b=>.ok (.bl (!isB b x))|_=>.bad
noncomputable def ixN(n:Nat)(i:Int):Option Nat:=if 0<=i then(if i<n then some i.toNat else none)else if -(n:Int)<=i then some (i+n).toNat else none
noncomputable def atI{α:Type}(xs:List α)(i:Int):Option α:=(ixN xs.length i).bind fun j=>xs[j]?
noncomputable def ofO{α:Type}:Option α->Res α|some a=>.ok a|none=>.bad
@[simp]theorem aez{α:Type}(a:α):ofO (some a)=.ok a:=(rfl)
noncomputable def nc(k:Str):List W->List W->Option W|.str x::ks,v::vs=>if x==k then some v else nc k ks vs|_,_=>none
noncomputable def oIx:W->W->Res W|.lst xs,.int i=>ofO (atI xs i)|.tup xs,.int i=>ofO (atI xs i)|.dic ks vs,.str k=>ofO (nc k ks vs)|_,_=>.bad
noncomputable def sIx(n d:Nat):Option Int->Nat|none=>d|some v=>if v<0 then(v+(n:Int)).toNat else min v.toNat n
noncomputable def cut{α:Type}(xs:List α)(lo hi:Option Int):List α:=(xs.drop (sIx xs.length 0 lo)).take (sIx xs.length xs.length hi-sIx xs.length 0 lo)
noncomputable def oSl:W->Option Int->Option Int->Res W|.lst xs,lo,hi=>.ok (.lst (cut xs lo hi))|.tup xs,lo,hi=>if sIx xs.length 0 lo=0/\sIx xs.length xs.length hi=xs.length then .bad else .ok (.tup (cut xs lo hi))|_,_,_=>.bad
noncomputable def cx:List W->Res W|[.lst xs]=>.ok (.int xs.length)|[.tup xs]=>.ok (.int xs.length)|_=>.bad
noncomputable def ij:List W->Res W|[.lst xs]=>.ok (.tup xs)|[.tup xs]=>.ok (.tup xs)|_=>.bad
noncomputable def ad8:List W->Res W|[.lst xs]=>.ok (.lst xs)|[.tup xs]=>.ok (.lst xs)|_=>.bad
noncomputable def ajd:List W->Res W|[.int i]=>.ok (.int (if i<0 then -i else i))|_=>.bad
noncomputable def ahv:List W->Res W|[.int i,.int j]=>.ok (.int (if j>i then j else i))|_=>.bad
noncomputable def aiG:List W->Res W|[.bl b]=>.ok (.int (if b then 1 else 0))|[.int i]=>.ok (.int i)|_=>.bad
noncomputable def allB:List W->Option Bool|[]=>some true|.bl b::xs=>(allB xs).map fun c=>b&&c|_=>none
noncomputable def xM:List W->Res W
|[.lst xs]=>match allB xs with|some b=>.ok (.bl b)|none=>.bad
|_=>.bad
noncomputable def dU:W->String|.non=>"NoneType"|.bl _=>"bool"|.int _=>"int"|.str _=>"str"|.ty _=>"type"|.tup _=>"tuple"|.lst _=>"list"|.dic _ _=>"dict"|.cls _=>"type"|.exc _ _=>"exception"|.ins _ _=>"object"
noncomputable def isK(w:W)(t:String):Option Bool:=match w with|.ty _=>none|.dic _ _=>none|.cls _=>none|.exc _ _=>none|.ins _ _=>none|_=>if["int","bool","str","list","tuple"].contains t then some (dU w==t||(dU w=="bool"&&t=="int"))else none
noncomputable def bx:List W->Res W
|[x,.ty t]=>match isK x t with|some b=>.ok (.bl b)|none=>.bad
|_=>.bad
noncomputable def ah(i:Nat):EF:=fun σ=>match σ[i]? with|some (.va w)=>.ok w|_=>.bad
noncomputable def eC(w:W):EF:=fun _=>.ok w
noncomputable def eOp(r:W->W->Res W)(a b:EF):EF:=fun σ=>(a σ).bind fun x=>(b σ).bind fun y=>r x y
noncomputable def eUn(r:W->Res W)(a:EF):EF:=fun σ=>(a σ).bind r
noncomputable def mI(r r':W->W->Res W)(a b c:EF):EF:=fun σ=>(a σ).bind fun x=>(b σ).bind fun y=>(r x y).bind fun z=>match z with|.bl true=>(c σ).bind fun w=>r' y w|.bl false=>.ok (.bl false)|_=>.bad
noncomputable def toB:W->Res Bool|.bl b=>.ok b|_=>.bad
noncomputable def tB(e:EF):TF:=fun σ=>(e σ).bind toB
noncomputable def kg(a b:TF):TF:=fun σ=>(a σ).bind fun x=>match x with|true=>b σ|false=>.ok false
noncomputable def tOr(a b:TF):TF:=fun σ=>(a σ).bind fun x=>match x with|true=>.ok true|false=>b σ
noncomputable def rP(a:TF):TF:=fun σ=>(a σ).bind fun x=>.ok (!x)
noncomputable def yy(a b:EF):EF:=fun σ=>(a σ).bind fun x=>match x with|.bl true=>b σ|.bl false=>.ok (.bl false)|_=>.bad
noncomputable def eOr(a b:EF):EF:=fun σ=>(a σ).bind fun x=>match x with|.bl true=>.ok (.bl true)|.bl false=>b σ|_=>.bad
noncomputable def aiz(a:EF):EF:=fun σ=>(a σ).bind fun x=>match x with|.bl b=>.ok (.bl (!b))|_=>.bad
noncomputable def eIf(t:TF)(a b:EF):EF:=fun σ=>(t σ).bind fun x=>match x with|true=>a σ|false=>b σ
noncomputable def aj:AF:=fun _=>.ok []
noncomputable def aa(e:EF)(a:AF):AF:=fun σ=>(e σ).bind fun x=>(a σ).bind fun xs=>.ok (x::xs)
noncomputable def cT(a:AF):EF:=fun σ=>(a σ).bind fun xs=>if xs.length<=lim then .ok (.tup xs)else .bad
noncomputable def gF(a:AF):EF:=fun σ=>(a σ).bind fun xs=>if xs.length<=lim then .ok (.lst xs)else .bad
noncomputable def bF(f:List W->Res W)(a:AF):EF:=fun σ=>(a σ).bind fun ws=>match f ws with|.ok w=>.ok w|_=>.bad
noncomputable def eBi(f:List W->Res W)(a:AF):EF:=fun σ=>(a σ).bind f
noncomputable def kN(T:String)(r:W->List W->Res W)(o:EF)(a:AF):EF:=fun σ=>(o σ).bind fun x=>if dU x==T then(a σ).bind fun ws=>r x ws else .bad
noncomputable def idx(x:W):Nat->List W->Option Nat|_,[]=>none|k,y::ys=>if eqv y x then some k else idx x (k+1) ys
noncomputable def i8:W->List W->Res W|.lst ys,[x]=>if okD 50 x&&bH 51 ys&&decide (ys.length<=lim)then(match idx x 0 ys with|some k=>.ok (.int k)|none=>.bad)else .bad|_,_=>.bad
noncomputable def sP:List W->Option (List W×List W)|[]=>some ([],[])|.str k::v::r=>(sP r).map fun p=>(.str k::p.1,v::p.2)|_=>none
noncomputable def gf:List W->Bool|[]=>true|.str k::ks=>!(ks.any fun x=>match x with|.str y=>y==k|_=>true)&&gf ks|_=>false
noncomputable def ajb(a:AF):EF:=fun σ=>(a σ).bind fun xs=>match sP xs with|some (ks,vs)=>if gf ks&&decide (ks.length<=15)then .ok (.dic ks vs)else .bad|none=>.bad
noncomputable def pNo:Ws->Res (Option Int):=fun _=>.ok none
noncomputable def fb(e:EF):Ws->Res (Option Int):=fun σ=>(e σ).bind fun x=>match x with|.int i=>.ok (some i)|_=>.bad
noncomputable def eSl(e:EF)(lo hi:Ws->Res (Option Int)):EF:=fun σ=>(e σ).bind fun x=>(lo σ).bind fun l=>(hi σ).bind fun h=>oSl x l h
noncomputable def itemsOf:W->Res (List W)|.lst xs=>.ok xs|.tup xs=>.ok xs|_=>.bad
@[simp]theorem aaw(xs:List W):itemsOf (.lst xs)=.ok xs:=(rfl)
@[simp]theorem aav(xs:List W):itemsOf (.tup xs)=.ok xs:=(rfl)
noncomputable def xb(e:EF):LF:=fun σ=>(e σ).bind itemsOf
noncomputable def rng(lo:Int)(n:Nat):List W:=(List.range n).map fun i=>.int (lo+(i:Nat))
noncomputable def n4(e:EF):LF:=fun σ=>(e σ).bind fun x=>match x with|.int j=>if -(2^62)<=j/\j<2^62 then .ok (rng 0 j.toNat)else .bad|_=>.bad
noncomputable def nZ(e e':EF):LF:=fun σ=>(e σ).bind fun x=>(e' σ).bind fun y=>match x,y with|.int i,.int j=>if -(2^62)<=i/\i<2^62/\-(2^62)<=j/\j<2^62 then .ok (rng i (j-i).toNat)else .bad|_,_=>.bad
noncomputable def n8:Nat->List W->List W|_,[]=>[]|k,x::xs=>.tup [.int k,x]::n8 (k+1) xs
noncomputable def aaz(e:EF):LF:=fun σ=>(e σ).bind fun x=>match x with|.tup xs=>.ok (n8 0 xs)|.lst xs=>.ok (n8 0 xs)|_=>.bad
noncomputable def ay(i:Nat):GF:=fun w σ=>.ok (σ.set i (.va w))
noncomputable abbrev GsF:=List W->Ws->Res Ws
noncomputable def uP:GsF:=fun ws σ=>match ws with|[]=>.ok σ|_=>.bad
noncomputable def dW(g:GF)(gs:GsF):GsF:=fun ws σ=>match ws with|w::r=>(match g w σ with|.ok σ'=>(match gs r σ' with|.ok σ2=>.ok σ2|_=>.bad)|_=>.bad)|[]=>.bad
noncomputable def vy(gs:GsF):GF:=fun w σ=>match w with|.tup ws=>gs ws σ|_=>.bad
noncomputable def ag1(i:Nat)(e:EF):GF:=fun w σ=>match σ[i]? with|some (.ow ws)=>(match e σ with|.ok (.int k)=>(match ixN ws.length k with|some j=>.ok (σ.set i (.ow (ws.set j w)))|none=>.bad)|_=>.bad)|_=>.bad
noncomputable def a6(g:GF)(t:TF)(e:EF)(σ:Ws):List W->Res (List W)|[]=>.ok []|x::xs=>(g x σ).bind fun σ1=>(t σ1).bind fun b=>match b with|true=>(e σ1).bind fun y=>(a6 g t e σ xs).bind fun ys=>.ok (y::ys)|false=>a6 g t e σ xs
noncomputable def pb:TF:=fun _=>.ok true
noncomputable def wR(k:Nat)(it:LF)(g:GF)(t:TF)(e:EF):LF:=fun σ=>(it σ).bind fun xs=>if xs.length<=lim then(match a6 g t e (List.replicate k .no++σ) xs with|.ok ys=>.ok ys|_=>.bad)else .bad
noncomputable def rA(k:Nat)(it:LF)(g:GF)(t:TF)(e:EF):EF:=fun σ=>(wR k it g t e σ).bind fun xs=>.ok (.lst xs)
noncomputable def frz(i:Nat)(σ:Ws):Ws:=match σ[i]? with|some (.ow ws)=>σ.set i (.va (.lst ws))|some (.od ks vs)=>σ.set i (.va (.dic ks vs))|_=>σ
mutual noncomputable def plain:W->Bool|.tup xs=>d6 xs|.lst _=>false|.dic _ _=>false|.exc _ _=>false|.ins _ _=>false|_=>true noncomputable def d6:List W->Bool|[]=>true|x::xs=>plain x&&d6 xs end
noncomputable def aiB(i:Nat)(e:EF):EF:=fun σ=>match e (frz i σ)with|.ok w=>if plain w then .ok w else .bad|_=>.bad
noncomputable def aef(i:Nat)(t:TF):TF:=fun σ=>match t (frz i σ)with|.ok b=>.ok b|_=>.bad
noncomputable def sNx:SF:=fun σ=>.nx σ
noncomputable def aX(a b:SF):SF:=fun σ=>match a σ with|.nx σ'=>b σ'|o=>o
noncomputable def ofR{α:Type}(σ:Ws)(r:Res α)(f:α->Out):Out:=match r with|.ok a=>f a|.ex c=>.ex c σ|.bad=>.bad
noncomputable def eG(i:Nat)(e:EF):SF:=fun σ=>ofR σ (e σ) fun w=>.nx (σ.set i (.va w))
noncomputable def tf(i:Nat)(l:LF):SF:=fun σ=>ofR σ (l σ) fun ws=>.nx (σ.set i (.ow ws))
noncomputable def aeP(a:AF):LF:=fun σ=>(a σ).bind fun xs=>if xs.length<=lim then .ok xs else .bad
noncomputable def agR(e:EF):LF:=fun σ=>(e σ).bind itemsOf
noncomputable def adh(e e':EF):LF:=fun σ=>(e σ).bind fun x=>(e' σ).bind fun y=>match x,y with|.lst xs,.lst ys=>if xs.length+ys.length<=lim then .ok (xs++ys)else .bad|_,_=>.bad
noncomputable def abV(e:EF)(g:GF):SF:=fun σ=>ofR σ (e σ) fun w=>ofR σ (g w σ) fun σ'=>.nx σ'
noncomputable def sIf(t:TF)(a b:SF):SF:=fun σ=>ofR σ (t σ) fun x=>match x with|true=>a σ|false=>b σ
noncomputable def b8(e:EF):SF:=fun σ=>ofR σ (e σ) fun w=>.rt w
noncomputable def afJ:SF:=fun _=>.rt .non
noncomputable def afM(e:EF):SF:=fun σ=>ofR σ (e σ) fun _=>.nx σ
noncomputable def sBk:SF:=fun σ=>.bk σ
noncomputable def sCt:SF:=fun σ=>.ct σ
noncomputable def sApp(i:Nat)(e:EF):SF:=fun σ=>match σ[i]? with|some (.ow ws)=>ofR σ (e σ) fun w=>if ws.length<lim then .nx (σ.set i (.ow (ws++[w])))else .bad|_=>.bad
noncomputable def vx(i:Nat)(t:SF):SF:=fun σ=>t (frz i σ)
noncomputable def forL(g:GF)(b:SF):List W->Ws->Out|[],σ=>.nx σ|x::xs,σ=>ofR σ (g x σ) fun σ1=>match b σ1 with|.nx σ2=>forL g b xs σ2|.ct σ2=>forL g b xs σ2|.bk σ2=>.nx σ2|o=>o
noncomputable def tm(it:LF)(g:GF)(b:SF):SF:=fun σ=>ofR σ (it σ) fun xs=>forL g b xs σ
noncomputable def bZ(c:TF)(b:SF):Nat->Ws->Out|0,_=>.bad|n+1,σ=>ofR σ (c σ) fun x=>match x with|true=>(match b σ with|.nx σ2=>bZ c b n σ2|.ct σ2=>bZ c b n σ2|.bk σ2=>.nx σ2|o=>o)|false=>.nx σ
noncomputable def sZ(n:Ws->Nat)(c:TF)(b:SF):SF:=fun σ=>bZ c b (n σ) σ
noncomputable def xx:List String:=["FloorError","NotEven","NoCall","NoName","NoProgram","TooMany","NoPairs","NoRow","Blind","Out","Meet","Broken"]
noncomputable def aeg(nm d:String):Bool:=nm==d||d=="FloorError"
noncomputable def fieldsOf(nm:String):List Str:=if nm=="Blind"then["who"]else if nm=="Out"then["who"]else if nm=="Meet"then["one","other"]else if nm=="Broken"then["at","why"]else[]
noncomputable def jy(d:String):W->Bool|.exc nm _=>aeg nm d|_=>false
noncomputable def fk(nm:String)(a:AF):SF:=fun σ=>ofR σ (a σ) fun ws=>if ws.length<=100 then .ex (.exc nm []) σ else .bad
noncomputable def aP(f:List W->Res W)(a:AF):EF:=fun σ=>(a σ).bind f
noncomputable def hOut(d:String)(h:SF)(c:W)(σ:Ws):Out:=if jy d c then(match h σ with|.ex _ _=>.bad|o=>o)else .bad
noncomputable def ahQ(b:SF)(d:String)(h:SF):SF:=fun σ=>match b σ with|.ex c σ'=>hOut d h c σ'|o=>o
noncomputable def xm(d:String)(i:Nat)(h:SF)(c:W)(σ:Ws):Out:=if jy d c then(match h (σ.set i (.va c))with|.nx σ2=>.nx (σ2.set i .no)|.rt w=>.rt w|_=>.bad)else .bad
noncomputable def x3(b:SF)(d:String)(i:Nat)(h:SF):SF:=fun σ=>match b σ with|.ex c σ'=>xm d i h c σ'|o=>o
noncomputable def n5(c:String):List Str:=if c=="Book"then["calls"]else[]
noncomputable def run(n:Nat)(t:SF)(ws:List W):Res W:=match t (ws.map .va++List.replicate (n-ws.length) .no)with|.rt w=>.ok w|.nx _=>.ok .non|.ex c _=>.ex c|_=>.bad
end WL
namespace L2
open PySem PySem.Spec PyProof.Rows
theorem Same.rd{H H':Hp}(e:Same H H'){a:Addr}{u:HO}(q:Rd H a u):Rd H' a u:=q.imp (e _ _) fun⟨o,z⟩=>⟨o,e _ _ z⟩
end L2
namespace WS
open PySem PySem.Spec PyProof.Rows L2
open WL(Res Sl Ws EF TF AF LF GF GsF SF Out)
noncomputable abbrev VW:=WL.W
noncomputable def ExcAt(K:W.Frag)(nm:String)(C:Addr):Prop:=nm∈WL.xx/\W.nsIn K mainGlobals (Str.ofString nm)=some (some (.ref C))
mutual noncomputable def RW(K:W.Frag)(H:Hp):VW->V->Prop|.non,v=>v=.non|.bl b,v=>v=.bl b|.int i,v=>v=.int i|.str x,v=>v=.str x|.ty n,v=>v=.ty n|.tup ws,v=>∃a vs,v=.ref a/\SqT K H a vs/\RWs K H ws vs|.lst ws,v=>∃a vs,v=.ref a/\SqL K H a vs/\RWs K H ws vs|.dic ks vs,v=>∃a kvs,v=.ref a/\Rd H a (.dK kvs)/\RWs K H ks (kvs.map fun p=>kV p.1)/\RWs K H vs (kvs.map fun p=>p.2)|.cls d,v=>∃a,v=.ref a/\ExcAt K d a|.exc nm fs,v=>∃a C dx,v=.ref a/\H a=some (.ext (excAt a C dx))/\ExcAt K nm C/\∃fvs:List (Str×V),fvs.map (·.1)=WL.fieldsOf nm/\RWs K H fs (fvs.map (·.2))/\(fvs=[]/\dx=none\/∃d,dx=some d/\H d=some (.xd fvs))|.ins c fs,v=>∃a C dx,∃fvs:List (Str×V),v=.ref a/\H a=some (.ins C dx fvs)/\W.nsIn K mainGlobals (Str.ofString c)=some (some (.ref C))/\fvs.map (·.1)=WL.n5 c/\fvs≠[]/\RWs K H fs (fvs.map (·.2))noncomputable def RWs(K:W.Frag)(H:Hp):List VW->List V->Prop|[],vs=>vs=[]|w::ws,vs=>∃v r,vs=v::r/\RW K H w v/\RWs K H ws r end
section
variable{K:W.Frag}{H H':Hp}
mutual theorem RW.via(ht:∀a xs,SqT K H a xs->SqT K H' a xs)(hl:∀a xs,SqL K H a xs->SqL K H' a xs)(hd:∀a kvs,Rd H a (.dK kvs)->Rd H' a (.dK kvs))(he:∀a φ,H a=some (.ext φ)->H' a=some (.ext φ))(hx:∀a fs,H a=some (.xd fs)->H' a=some (.xd fs))(hi:∀a C dx fs,fs≠[]->H a=some (.ins C dx fs)->H' a=some (.ins C dx fs)):∀(w:VW)(v:V),RW K H w v->RW K H' w v|.non,_,h=>by simpa only[RW]using h|.bl _,_,h=>by simpa only[RW]using h|.int _,_,h=>by simpa only[RW]using h|.str _,_,h=>by simpa only[RW]using h|.ty _,_,h=>by simpa only[RW]using h|.tup ws,_,h=>by simp only[RW]at h⊢;obtain⟨a,vs,e,q,r⟩:=h;exact⟨a,vs,e,ht a vs q,RWs.via ht hl hd he hx hi ws vs r⟩|.lst ws,_,h=>by simp only[RW]at h⊢;obtain⟨a,vs,e,q,r⟩:=h;exact⟨a,vs,e,hl a vs q,RWs.via ht hl hd he hx hi ws vs r⟩|.dic ks vs,_,h=>by simp only[RW]at h⊢;obtain⟨a,kvs,e,q,r1,r2⟩:=h;exact⟨a,kvs,e,hd a kvs q,RWs.via ht hl hd he hx hi ks _ r1,RWs.via ht hl hd he hx hi vs _ r2⟩|.cls _,_,h=>by simpa only[RW]using h|.exc nm fs,_,h=>by simp only[RW]at h⊢;obtain⟨a,C,dx,e,q,c,fvs,f1,f2,f3⟩:=h;exact⟨a,C,dx,e,he _ _ q,c,fvs,f1,RWs.via ht hl hd he hx hi fs _ f2,f3.imp (fun z=>z) fun⟨d,z1,z2⟩=>⟨d,z1,hx _ _ z2⟩⟩|.ins c fs,_,h=>by simp only[RW]at h⊢;obtain⟨a,C,dx,fvs,e,q,c1,c2,c3,r⟩:=h;exact⟨a,C,dx,fvs,e,hi _ _ _ _ c3 q,c1,c2,c3,RWs.via ht hl hd he hx hi fs _ r⟩theorem RWs.via(ht:∀a xs,SqT K H a xs->SqT K H' a xs)(hl:∀a xs,SqL K H a xs->SqL K H' a xs)(hd:∀a kvs,Rd H a (.dK kvs)->Rd H' a (.dK kvs))(he:∀a φ,H a=some (.ext φ)->H' a=some (.ext φ))(hx:∀a fs,H a=some (.xd fs)->H' a=some (.xd fs))(hi:∀a C dx fs,fs≠[]->H a=some (.ins C dx fs)->H' a=some (.ins C dx fs)):∀(ws:List VW)(vs:List V),RWs K H ws vs->RWs K H' ws vs|[],_,h=>by simpa only[RWs]using h|w::ws,_,h=>by simp only[RWs]at h⊢;obtain⟨v,r,e,q,t⟩:=h;exact⟨v,r,e,RW.via ht hl hd he hx hi w v q,RWs.via ht hl hd he hx hi ws r t⟩end
theorem RW.keep(e:Same H H'){w:VW}{v:V}(h:RW K H w v):RW K H' w v:=RW.via (fun _ _ q=>e.tup q) (fun _ _ q=>e.seq q) (fun _ _ q=>e.rd q) (fun _ _ q=>e _ _ q) (fun _ _ q=>e _ _ q) (fun _ _ _ _ _ q=>e _ _ q) w v h
theorem RWs.keep(e:Same H H'){ws:List VW}{vs:List V}(h:RWs K H ws vs):RWs K H' ws vs:=RWs.via (fun _ _ q=>e.tup q) (fun _ _ q=>e.seq q) (fun _ _ q=>e.rd q) (fun _ _ q=>e _ _ q) (fun _ _ q=>e _ _ q) (fun _ _ _ _ _ q=>e _ _ q) ws vs h
mutual theorem RW.less(ht:∀a xs,SqT K H a xs->SqT K H' a xs):∀(w:VW)(v:V),WL.plain w=true->RW K H w v->RW K H' w v|.non,_,_,h=>by simpa only[RW]using h|.bl _,_,_,h=>by simpa only[RW]using h|.int _,_,_,h=>by simpa only[RW]using h|.str _,_,_,h=>by simpa only[RW]using h|.ty _,_,_,h=>by simpa only[RW]using h|.tup ws,_,p,h=>by simp only[RW]at h⊢;obtain⟨a,vs,e,q,r⟩:=h;exact⟨a,vs,e,ht a vs q,RWs.less ht ws vs (by simpa only[WL.plain]using p) r⟩|.lst ws,_,p,_=>by simp[WL.plain]at p|.dic _ _,_,p,_=>by simp[WL.plain]at p|.cls _,_,_,h=>by simpa only[RW]using h|.exc _ _,_,p,_=>by simp[WL.plain]at p|.ins _ _,_,p,_=>by simp[WL.plain]at p theorem RWs.less(ht:∀a xs,SqT K H a xs->SqT K H' a xs):∀(ws:List VW)(vs:List V),WL.d6 ws=true->RWs K H ws vs->RWs K H' ws vs|[],_,_,h=>by simpa only[RWs]using h|w::ws,_,p,h=>by simp only[RWs]at h⊢;simp only[WL.d6,Bool.and_eq_true]at p;obtain⟨v,r,e,q,t⟩:=h;exact⟨v,r,e,RW.less ht w v p.1 q,RWs.less ht ws r p.2 t⟩end
theorem RWs.length:∀{ws:List VW}{vs:List V},RWs K H ws vs->ws.length=vs.length|[],_,h=>by simp only[RWs]at h;subst h;rfl|w::ws,_,h=>by simp only[RWs]at h;obtain⟨v,r,rfl,_,t⟩:=h;simp only[List.length_cons,RWs.length t]
theorem RWs.get:∀{ws:List VW}{vs:List V}{i:Nat}{w:VW},RWs K H ws vs->ws[i]?=some w->∃v,vs[i]?=some v/\RW K H w v|[],_,_,_,_,e=>by simp at e|x::ws,_,0,w,h,e=>by simp only[RWs]at h;obtain⟨v,r,rfl,q,_⟩:=h;simp at e;subst e;exact⟨v,rfl,q⟩|x::ws,_,i+1,w,h,e=>by simp only[RWs]at h;obtain⟨v,r,rfl,_,t⟩:=h;obtain⟨u,h1,h2⟩:=RWs.get (i:=i) (w:=w) t (by simpa using e);exact⟨u,by simpa using h1,h2⟩
theorem RWs.app:∀{ws ws':List VW}{vs vs':List V},RWs K H ws vs->RWs K H ws' vs'->RWs K H (ws++ws') (vs++vs')|[],_,_,_,h,h'=>by simp only[RWs]at h;subst h;exact h'|w::ws,_,_,_,h,h'=>by simp only[RWs]at h;obtain⟨v,r,rfl,q,t⟩:=h;simp only[List.cons_append,RWs];exact⟨v,_,rfl,q,RWs.app t h'⟩
theorem RWs.one{w:VW}{v:V}(h:RW K H w v):RWs K H [w] [v]:=by simp only[RWs];exact⟨v,[],rfl,h,rfl⟩
theorem RWs.cons{w:VW}{v:V}{ws:List VW}{vs:List V}(h:RW K H w v)(t:RWs K H ws vs):RWs K H (w::ws) (v::vs):=by simp only[RWs];exact⟨v,vs,rfl,h,t⟩
theorem RWs.drop:∀{ws:List VW}{vs:List V}(n:Nat),RWs K H ws vs->RWs K H (ws.drop n) (vs.drop n)|_,_,0,h=>by simpa using h|[],_,n+1,h=>by simp only[RWs]at h;subst h;simp[RWs]|w::ws,_,n+1,h=>by simp only[RWs]at h;obtain⟨v,r,rfl,_,t⟩:=h;simpa using RWs.drop n t
theorem RWs.take:∀{ws:List VW}{vs:List V}(n:Nat),RWs K H ws vs->RWs K H (ws.take n) (vs.take n)|_,_,0,h=>by simp[RWs]|[],_,n+1,h=>by simp only[RWs]at h;subst h;simp[RWs]|w::ws,_,n+1,h=>by simp only[RWs]at h;obtain⟨v,r,rfl,q,t⟩:=h;simp only[List.take_succ_cons,RWs];exact⟨v,_,rfl,q,RWs.take n t⟩
theorem RWs.set{w:VW}{v:V}(hw:RW K H w v):∀{ws:List VW}{vs:List V}(n:Nat),RWs K H ws vs->RWs K H (ws.set n w) (vs.set n v)|[],_,n,h=>by simp only[RWs]at h;subst h;simp[RWs]|x::ws,_,0,h=>by simp only[RWs]at h;obtain⟨u,r,rfl,q,t⟩:=h;simp only[List.set_cons_zero,RWs];exact⟨v,r,rfl,hw,t⟩|x::ws,_,n+1,h=>by simp only[RWs]at h;obtain⟨u,r,rfl,q,t⟩:=h;simp only[List.set_cons_succ,RWs];exact⟨u,_,rfl,q,RWs.set hw n t⟩
theorem RWs.cut{ws:List VW}{vs:List V}(h:RWs K H ws vs)(lo hi:Option Int):RWs K H (WL.cut ws lo hi) (yB vs lo hi):=by
 have e:WL.sIx=HT.sIx:=by funext n d o;cases o<;>rfl
 unfold WL.cut yB;rw[e,<-h.length];exact(h.drop _).take _
theorem RWs.ints(ns:List Int):RWs K H (ns.map .int) (ns.map V.int):=by induction ns with|nil=>simp[RWs]|cons n ns ih=>simp only[List.map_cons,RWs];exact⟨_,_,rfl,by simp[RW],ih⟩
end
noncomputable def NF:HO->Prop|.frz _ _=>False|.ins _ _ []=>False|_=>True
structure Bx where
 K:W.Frag
 H0:Hp
 F0:Hp
 xp:VW->Ws->Hp->Prop
 mono:∀c σ F F',Same F F'->xp c σ F->xp c σ F'
structure RB(B:Bx)(F H:Hp):Prop where
 sub:Same F H
 base:Same B.H0 H
 fz0:Same B.F0 F
 fr:∀a o,F a=some o->B.F0 a=some o\/B.H0 a=none/\NF o
noncomputable def IsO:Sl->Prop|.od _ _=>True|.ob=>True|_=>False
structure OD(K:W.Frag)(H0:Hp)(σ:Ws)(σV:L2.St)(F H:Hp):Prop where
 od:∀(i:Nat)(ks us:List VW),σ[i]?=some (.od ks us)->∃a kvs,σV[i]?=some (some (.ref a))/\F a=none/\H0 a=none/\H a=some (.dK kvs)/\RWs K F ks (kvs.map fun p=>kV p.1)/\RWs K F us (kvs.map fun p=>p.2)ad:∀(i j:Nat)(ks us ks' us':List VW)(a:Addr),i≠j->σ[i]?=some (.od ks us)->σ[j]?=some (.od ks' us')->σV[i]?=some (some (.ref a))->σV[j]?=some (some (.ref a))->False
 ob:∀i:Nat,σ[i]?=some .ob->∃a C dx,σV[i]?=some (some (.ref a))/\F a=some (.ins C dx [])
theorem OD.via{K K':W.Frag}{H0 H0':Hp}{σ σ':Ws}{σV σV':L2.St}{F F' H H':Hp}(R:OD K H0 σ σV F H)(hK:K'=K)(f:Nat->Nat)(hf:∀i j,f i=f j->i=j\/∀ks us,σ'[i]?≠some (.od ks us))(h:∀(i:Nat)(sl:Sl),IsO sl->σ'[i]?=some sl->σ[f i]?=some sl/\σV'[i]?=σV[f i]?)(s:Same F F')(n:∀(i:Nat)(ks us:List VW)(a:Addr)(kvs:List (Key×V)),σ'[i]?=some (.od ks us)->σV[f i]?=some (some (.ref a))->H a=some (.dK kvs)->F a=none->H0 a=none->F' a=none/\H0' a=none/\H' a=some (.dK kvs)):OD K' H0' σ' σV' F' H':=by
 subst hK;refine⟨fun i ks us e=>?_,fun i j ks us ks' us' a hne e1 e2 f1 f2=>?_,fun i e=>?_⟩;·obtain⟨e',ev⟩:=h i (.od ks us) trivial e;obtain⟨a,kvs,h1,h2,h3,h4,h5,h6⟩:=R.od (f i) ks us e';obtain⟨n1,n2,n3⟩:=n i ks us a kvs e h1 h4 h2 h3;exact⟨a,kvs,ev.trans h1,n1,n2,n3,h5.keep s,h6.keep s⟩
 ·obtain⟨e1',v1⟩:=h i (.od ks us) trivial e1;obtain⟨e2',v2⟩:=h j (.od ks' us') trivial e2;refine R.ad (f i) (f j) ks us ks' us' a (fun z=>?_) e1' e2' (v1.symm.trans f1) (v2.symm.trans f2);rcases hf i j z with z|z;·exact hne z
  ·exact z _ _ e1
 ·obtain⟨e',ev⟩:=h i .ob trivial e;obtain⟨a,C,dx,h1,h2⟩:=R.ob (f i) e';exact⟨a,C,dx,ev.trans h1,s _ _ h2⟩
structure RS(B:Bx)(σ:Ws)(σV:L2.St)(F H:Hp):Prop where
 rb:RB B F H
 len:σ.length=σV.length
 va:∀(i:Nat)(w:VW),σ[i]?=some (.va w)->∃v,σV[i]?=some (some v)/\RW B.K F w v
 ow:∀(i:Nat)(ws:List VW),σ[i]?=some (.ow ws)->∃a vs,σV[i]?=some (some (.ref a))/\F a=none/\B.H0 a=none/\H a=some (.lst vs)/\RWs B.K F ws vs
 ap:∀(i j:Nat)(ws ws':List VW)(a:Addr),i≠j->σ[i]?=some (.ow ws)->σ[j]?=some (.ow ws')->σV[i]?=some (some (.ref a))->σV[j]?=some (some (.ref a))->False
 dd:OD B.K B.H0 σ σV F H
theorem RS.aaG{B:Bx}{σ:Ws}{σV:L2.St}{F H F' H':Hp}(R:RS B σ σV F H)(s:Same F F')(n:∀a kvs,H a=some (.dK kvs)->F a=none->F' a=none/\H' a=some (.dK kvs)):OD B.K B.H0 σ σV F' H':=R.dd.via rfl id (fun _ _ z=>.inl z) (fun _ _ _ e=>⟨e,rfl⟩) s fun _ _ _ a kvs _ _ hH hF h0=>⟨(n a kvs hH hF).1,h0,(n a kvs hH hF).2⟩
theorem RS.aa8{B:Bx}{σ:Ws}{σV:L2.St}{F H F' H':Hp}(R:RS B σ σV F H)(i:Nat){sl:Sl}(hs:¬IsO sl)(x:Option V)(s:Same F F')(n:∀(j:Nat)(ks us:List VW)(a:Addr)(kvs:List (Key×V)),i≠j->σ[j]?=some (.od ks us)->σV[j]?=some (some (.ref a))->H a=some (.dK kvs)->F a=none->F' a=none/\H' a=some (.dK kvs)):OD B.K B.H0 (σ.set i sl) (σV.set i x) F' H':=by
 have ne:∀{j:Nat}{s':Sl},IsO s'->(σ.set i sl)[j]?=some s'->i≠j:=fun{j s'}ho e z=>by
  subst z;have hi:i<σ.length:=by have:=(List.getElem?_eq_some_iff.mp e).1;simpa using this
  rw[List.getElem?_set_self hi]at e;exact hs (Option.some.inj e▸ho)
 refine R.dd.via rfl id (fun _ _ z=>.inl z) (fun j ks us e=>?_) s fun j ks us a kvs e hv hH hF h0=>?_;·have:=ne us e;rw[List.getElem?_set_ne this]at e;exact⟨e,by rw[List.getElem?_set_ne this];rfl⟩
 ·have hj:=ne (s':=.od ks us) trivial e;rw[List.getElem?_set_ne hj]at e;obtain⟨n1,n2⟩:=n j ks us a kvs hj e hv hH hF;exact⟨n1,h0,n2⟩
theorem set_same{σV:L2.St}{i:Nat}{x:Option V}(e:σV[i]?=some x):σV.set i x=σV:=by
 apply List.ext_getElem?;intro j;by_cases hj:i=j;·subst hj;rw[List.getElem?_set_self (List.getElem?_eq_some_iff.mp e).1,e]
 ·rw[List.getElem?_set_ne hj]
structure Ext(F H F' H':Hp):Prop where
 same:Same F F'
 rs:∀B σ σV,RS B σ σV F H->RS B σ σV F' H'
 rb:∀B,RB B F H->RB B F' H'
 own:∀a o,H a=some o->H' a=some o/\(F a=none->F' a=none)
structure Gr(F H F' H':Hp):Prop where
 f:Same F F'
 h:Same H H'
 nf:∀a o,H a=some o->F a=none->F' a=none
theorem Gr.refl{F H:Hp}:Gr F H F H:=⟨Same.refl _,Same.refl _,fun _ _ _ z=>z⟩
theorem Gr.trans{F H F1 H1 F2 H2:Hp}(a:Gr F H F1 H1)(b:Gr F1 H1 F2 H2):Gr F H F2 H2:=⟨a.f.trans b.f,a.h.trans b.h,fun x o e z=>b.nf x o (a.h x o e) (a.nf x o e z)⟩
theorem Ext.gr{F H F' H':Hp}(e:Ext F H F' H'):Gr F H F' H':=⟨e.same,fun a o q=>(e.own a o q).1,fun a o q=>(e.own a o q).2⟩
section
variable{B:Bx}{σ:Ws}{σV:L2.St}{F H:Hp}
theorem Gr.new{p:Addr}(hF:F p=none)(hp:H p=none)(o:HO):Gr F H (upd F p o) (upd H p o):=⟨ao hF o,ao hp o,fun a u e z=>by rw[ae (aD e hp)];exact z⟩
theorem Ext.refl(F H:Hp):Ext F H F H:=⟨Same.refl _,fun _ _ _ h=>h,fun _ h=>h,fun _ _ h=>⟨h,fun z=>z⟩⟩
theorem RB.new(R:RB B F H){p:Addr}(hp:H p=none)(o:HO)(nf:NF o:=by trivial):RB B (upd F p o) (upd H p o):=by
 have hF:F p=none:=R.sub.free hp;have h0:B.H0 p=none:=R.base.free hp;refine⟨fun b u e=>?_,fun b u e=>?_,R.fz0.trans (ao hF o),fun a u e=>?_⟩
 ·by_cases hb:b=p;·subst hb;rw[ag]at e⊢;exact e
  ·rw[ae hb]at e⊢;exact R.sub b u e
 ·exact ao hp o b u (R.base b u e)
 ·by_cases hb:a=p;·subst hb;rw[ag]at e;cases e;exact .inr ⟨h0,nf⟩
  ·rw[ae hb]at e;exact R.fr a u e
theorem RS.new(R:RS B σ σV F H){p:Addr}(hp:H p=none)(o:HO)(nf:NF o:=by trivial):RS B σ σV (upd F p o) (upd H p o):=by
 have hF:F p=none:=R.rb.sub.free hp;refine⟨R.rb.new hp o nf,R.len,fun i w e=>?_,fun i ws e=>?_,R.ap,R.aaG (ao hF o) fun a kvs q1 q2=>⟨by rw[ae (aD q1 hp)];exact q2,by rw[ae (aD q1 hp)];exact q1⟩⟩;·obtain⟨v,h1,h2⟩:=R.va i w e;exact⟨v,h1,h2.keep (ao hF o)⟩
 ·obtain⟨a,vs,h1,h2,h3,h4,h5⟩:=R.ow i ws e;have ne:a≠p:=fun z=>by subst z;rw[hp]at h4;cases h4
  exact⟨a,vs,h1,by rw[ae ne];exact h2,h3,by rw[ae ne];exact h4,h5.keep (ao hF o)⟩
theorem Ext.new{p:Addr}(hF:F p=none)(hp:H p=none)(o:HO)(nf:NF o:=by trivial):Ext F H (upd F p o) (upd H p o):=⟨ao hF o,fun _ _ _ R=>R.new hp o nf,fun _ R=>R.new hp o nf,fun a u e=>by
 have ne:a≠p:=fun z=>by subst z;rw[hp]at e;cases e
 exact⟨by rw[ae ne];exact e,fun z=>by rw[ae ne];exact z⟩⟩
theorem RS.wA(R:RS B σ σV F H){p:Addr}(hp:H p=none)(o:HO):RS B σ σV F (upd H p o):=by refine⟨⟨fun b u e=>ao hp o b u (R.rb.sub b u e),fun b u e=>ao hp o b u (R.rb.base b u e),R.rb.fz0,R.rb.fr⟩,R.len,R.va,fun i ws e=>?_,R.ap,R.aaG (Same.refl _) fun a kvs q1 q2=>⟨q2,by rw[ae (aD q1 hp)];exact q1⟩⟩;obtain⟨a,vs,h1,h2,h3,h4,h5⟩:=R.ow i ws e;exact⟨a,vs,h1,h2,h3,ao hp o _ _ h4,h5⟩
theorem RS.grow(R:RS B σ σV F H){F' H':Hp}(g:Gr F H F' H')(rb:RB B F' H'):RS B σ σV F' H':=by
 refine⟨rb,R.len,fun i w e=>?_,fun i ws e=>?_,R.ap,R.aaG g.f fun a kvs q1 q2=>⟨g.nf a _ q1 q2,g.h a _ q1⟩⟩;·obtain⟨v,h1,h2⟩:=R.va i w e;exact⟨v,h1,h2.keep g.f⟩
 ·obtain⟨a,vs,h1,h2,h3,h4,h5⟩:=R.ow i ws e;exact⟨a,vs,h1,g.nf a _ h4 h2,h3,g.h a _ h4,h5.keep g.f⟩
theorem RS.set(R:RS B σ σV F H){i:Nat}{w:VW}{v:V}(hw:RW B.K F w v):RS B (σ.set i (.va w)) (σV.set i (some v)) F H:=by
 have hl:=R.len;refine⟨R.rb,by simp[hl],fun j u e=>?_,fun j ws e=>?_,fun j k ws ws' a hne e1 e2 f1 f2=>?_,R.aa8 i (sl:=.va w) (fun z=>z) _ (Same.refl _) fun _ _ _ _ _ _ _ _ q1 q2=>⟨q2,q1⟩⟩
 ·by_cases hj:i=j
  ·subst hj;have hi:i<σ.length:=by have:=(List.getElem?_eq_some_iff.mp e).1;simpa using this
   rw[List.getElem?_set_self hi]at e;cases e;exact⟨v,List.getElem?_set_self (by omega),hw⟩
  ·rw[List.getElem?_set_ne hj]at e⊢;exact R.va j u e
 ·by_cases hj:i=j
  ·subst hj;have hi:i<σ.length:=by have:=(List.getElem?_eq_some_iff.mp e).1;simpa using this
   rw[List.getElem?_set_self hi]at e;cases e
  ·rw[List.getElem?_set_ne hj]at e⊢;exact R.ow j ws e
 ·have n1:i≠j:=fun z=>by
   subst z;have hi:i<σ.length:=by have:=(List.getElem?_eq_some_iff.mp e1).1;simpa using this
   rw[List.getElem?_set_self hi]at e1;cases e1
  have n2:i≠k:=fun z=>by
   subst z;have hi:i<σ.length:=by have:=(List.getElem?_eq_some_iff.mp e2).1;simpa using this
   rw[List.getElem?_set_self hi]at e2;cases e2
  rw[List.getElem?_set_ne n1]at e1 f1;rw[List.getElem?_set_ne n2]at e2 f2;exact R.ap j k ws ws' a hne e1 e2 f1 f2
theorem RS.abP(R:RS B σ σV F H){i:Nat}{ws:List VW}{vs:List V}{a:Addr}(hF:F a=none)(h0:B.H0 a=none)(hH:H a=some (.lst vs))(hw:RWs B.K F ws vs)(hn:∀(j:Nat)(us:List VW),j≠i->σ[j]?=some (.ow us)->σV[j]?≠some (some (.ref a))):RS B (σ.set i (.ow ws)) (σV.set i (some (.ref a))) F H:=by
 have hl:=R.len;have at':∀{j:Nat}{us:List VW},(σ.set i (.ow ws))[j]?=some (.ow us)->i=j->us=ws/\(σV.set i (some (V.ref a)))[j]?=some (some (.ref a)):=fun{j us}e z=>by
  subst z;have hi:i<σ.length:=by have:=(List.getElem?_eq_some_iff.mp e).1;simpa using this
  rw[List.getElem?_set_self hi]at e;cases e;exact⟨rfl,List.getElem?_set_self (by omega)⟩
 refine⟨R.rb,by simp[hl],fun j u e=>?_,fun j us e=>?_,fun j k us us' b hne e1 e2 f1 f2=>?_,R.aa8 i (sl:=.ow ws) (fun z=>z) _ (Same.refl _) fun _ _ _ _ _ _ _ _ q1 q2=>⟨q2,q1⟩⟩
 ·by_cases hj:i=j
  ·subst hj;have hi:i<σ.length:=by have:=(List.getElem?_eq_some_iff.mp e).1;simpa using this
   rw[List.getElem?_set_self hi]at e;cases e
  ·rw[List.getElem?_set_ne hj]at e⊢;exact R.va j u e
 ·by_cases hj:i=j;·obtain⟨rfl,e'⟩:=at' e hj;exact⟨a,vs,e',hF,h0,hH,hw⟩
  ·rw[List.getElem?_set_ne hj]at e⊢;exact R.ow j us e
 ·by_cases hj:i=j;·obtain⟨_,e'⟩:=at' e1 hj;rw[f1]at e';cases e';have hk:i≠k:=fun z=>hne (hj.symm.trans z);rw[List.getElem?_set_ne hk]at e2 f2;exact hn k us' (Ne.symm hk) e2 f2
  ·rw[List.getElem?_set_ne hj]at e1 f1;by_cases hk:i=k;·obtain⟨_,e'⟩:=at' e2 hk;rw[f2]at e';cases e';exact hn j us (Ne.symm hj) e1 f1
   ·rw[List.getElem?_set_ne hk]at e2 f2;exact R.ap j k us us' b hne e1 e2 f1 f2
theorem RS.write(R:RS B σ σV F H){i:Nat}{ws us:List VW}{vs zs:List V}{a:Addr}(e:σ[i]?=some (.ow ws))(ea:σV[i]?=some (some (.ref a)))(hF:F a=none)(h0:B.H0 a=none)(hH:H a=some (.lst vs))(hu:RWs B.K F us zs):RS B (σ.set i (.ow us)) σV F (upd H a (.lst zs)):=by
 have hi:i<σ.length:=(List.getElem?_eq_some_iff.mp e).1;have nF:∀b o,F b=some o->b≠a:=fun b o q z=>by subst z;rw[hF]at q;cases q
 refine⟨⟨fun b u q=>by rw[ae (nF b u q)];exact R.rb.sub b u q,fun b u q=>by
  have ne:b≠a:=fun z=>by subst z;rw[h0]at q;cases q
  rw[ae ne];exact R.rb.base b u q,R.rb.fz0,R.rb.fr⟩,by simp[R.len],fun j w q=>?_,fun j xs q=>?_,fun j k xs xs' b hne e1 e2 f1 f2=>?_,by
 have hd:=R.aa8 (F':=F) (H':=upd H a (.lst zs)) i (sl:=.ow us) (fun z=>z) (some (.ref a)) (Same.refl _) fun _ _ _ b kvs _ _ _ q1 q2=>⟨q2,by
   have ne:b≠a:=fun z=>by subst z;rw[hH]at q1;cases q1
   rw[ae ne];exact q1⟩;rwa[set_same ea]at hd⟩
 ·by_cases hj:i=j;·subst hj;rw[List.getElem?_set_self hi]at q;cases q
  ·rw[List.getElem?_set_ne hj]at q;exact R.va j w q
 ·by_cases hj:i=j;·subst hj;rw[List.getElem?_set_self hi]at q;cases q;exact⟨a,zs,ea,hF,h0,ag,hu⟩
  ·rw[List.getElem?_set_ne hj]at q;obtain⟨b,ys,h1,h2,h3,h4,h5⟩:=R.ow j xs q;have ne:b≠a:=fun z=>by subst z;exact R.ap i j ws xs b hj e q ea h1
   exact⟨b,ys,h1,h2,h3,by rw[ae ne];exact h4,h5⟩
 ·have back:∀{j:Nat}{xs:List VW},(σ.set i (.ow us))[j]?=some (.ow xs)->∃ys,σ[j]?=some (.ow ys):=fun{j xs}q=>by
   by_cases hj:i=j;·subst hj;exact⟨ws,e⟩
   ·rw[List.getElem?_set_ne hj]at q;exact⟨xs,q⟩
  obtain⟨ys,g1⟩:=back e1;obtain⟨ys',g2⟩:=back e2;exact R.ap j k ys ys' b hne g1 g2 f1 f2
theorem RS.air(R:RS B σ σV F H){i:Nat}{sl:Sl}{a:Addr}{o:HO}{w:VW}(e:σ[i]?=some sl)(ea:σV[i]?=some (some (.ref a)))(hF:F a=none)(h0:B.H0 a=none)(hH:H a=some o)(nf:NF o)(hw:RW B.K (upd F a o) w (.ref a))(nO:∀(j:Nat)(ws:List VW),i≠j->σ[j]?=some (.ow ws)->σV[j]?≠some (some (.ref a)))(nD:∀(j:Nat)(ks us:List VW),i≠j->σ[j]?=some (.od ks us)->σV[j]?≠some (some (.ref a))):RS B (σ.set i (.va w)) σV (upd F a o) H:=by
 have hi:i<σ.length:=(List.getElem?_eq_some_iff.mp e).1;have s:Same F (upd F a o):=ao hF _;refine⟨⟨fun b u q=>?_,R.rb.base,R.rb.fz0.trans s,fun b u q=>?_⟩,by simp[R.len],fun j w' q=>?_,fun j xs q=>?_,fun j k xs xs' b hne e1 e2 f1 f2=>?_,by
 have hd:=R.aa8 (F':=upd F a o) (H':=H) i (sl:=.va w) (fun z=>z) (some (.ref a)) s fun j ks us b kvs hj ej hv q1 q2=>⟨by
  have ne:b≠a:=fun z=>by subst z;exact nD j ks us hj ej hv
  rw[ae ne];exact q2,q1⟩;rwa[set_same ea]at hd⟩
 ·by_cases hb:b=a;·subst hb;rw[ag]at q;cases q;exact hH
  ·rw[ae hb]at q;exact R.rb.sub b u q
 ·by_cases hb:b=a;·subst hb;rw[ag]at q;cases q;exact .inr ⟨h0,nf⟩
  ·rw[ae hb]at q;exact R.rb.fr b u q
 ·by_cases hj:i=j;·subst hj;rw[List.getElem?_set_self hi]at q;cases q;exact⟨.ref a,ea,hw⟩
  ·rw[List.getElem?_set_ne hj]at q;obtain⟨v,g1,g2⟩:=R.va j w' q;exact⟨v,g1,g2.keep s⟩
 ·by_cases hj:i=j;·subst hj;rw[List.getElem?_set_self hi]at q;cases q
  ·rw[List.getElem?_set_ne hj]at q;obtain⟨b,ys,g1,g2,g3,g4,g5⟩:=R.ow j xs q;have ne:b≠a:=fun z=>by subst z;exact nO j xs hj q g1
   exact⟨b,ys,g1,by rw[ae ne];exact g2,g3,g4,g5.keep s⟩
 ·have n1:i≠j:=fun z=>by subst z;rw[List.getElem?_set_self hi]at e1;cases e1
  have n2:i≠k:=fun z=>by subst z;rw[List.getElem?_set_self hi]at e2;cases e2
  rw[List.getElem?_set_ne n1]at e1;rw[List.getElem?_set_ne n2]at e2;exact R.ap j k xs xs' b hne e1 e2 f1 f2
noncomputable def Ow1:HO->Prop|.lst _=>True|.dK _=>True|_=>False
theorem RS.frz(R:RS B σ σV F H)(i:Nat):∃F',Same F F'/\RS B (WL.frz i σ) σV F' H/\((F'=F/\WL.frz i σ=σ)\/∃a o w,F'=upd F a o/\Ow1 o/\F a=none/\WL.frz i σ=σ.set i (.va w)/\σV[i]?=some (some (.ref a))/\H a=some o/\B.H0 a=none):=by cases e:σ[i]? with
|none=>
 have hz:WL.frz i σ=σ:=by unfold WL.frz;rw[e]
 rw[hz];exact⟨F,Same.refl _,R,.inl ⟨rfl,rfl⟩⟩
|some sl=>cases sl with|no=>
  have hz:WL.frz i σ=σ:=by unfold WL.frz;rw[e]
  rw[hz];exact⟨F,Same.refl _,R,.inl ⟨rfl,rfl⟩⟩|va w=>
  have hz:WL.frz i σ=σ:=by unfold WL.frz;rw[e]
  rw[hz];exact⟨F,Same.refl _,R,.inl ⟨rfl,rfl⟩⟩|ob=>
  have hz:WL.frz i σ=σ:=by unfold WL.frz;rw[e]
  rw[hz];exact⟨F,Same.refl _,R,.inl ⟨rfl,rfl⟩⟩|ow ws=>
  have hz:WL.frz i σ=σ.set i (.va (.lst ws)):=by unfold WL.frz;rw[e]
  rw[hz];obtain⟨a,vs,h1,h2,h3,h4,h5⟩:=R.ow i ws e;refine⟨upd F a (.lst vs),ao h2 _,R.air e h1 h2 h3 h4 trivial (by simp only[RW];exact⟨a,vs,rfl,SqL.of ag,h5.keep (ao h2 _)⟩) (fun j xs hj q z=>R.ap i j ws xs a hj e q h1 z) (fun j ks us hj q z=>?_),.inr ⟨a,_,_,rfl,trivial,h2,rfl,h1,h4,h3⟩⟩;obtain⟨b,kvs,g1,_,_,g4,_⟩:=R.dd.od j ks us q;rw[z]at g1;cases g1;rw[h4]at g4;cases g4|od ks us=>
  have hz:WL.frz i σ=σ.set i (.va (.dic ks us)):=by unfold WL.frz;rw[e]
  rw[hz];obtain⟨a,kvs,h1,h2,h3,h4,h5,h6⟩:=R.dd.od i ks us e;refine⟨upd F a (.dK kvs),ao h2 _,R.air e h1 h2 h3 h4 trivial (by simp only[RW];exact⟨a,kvs,rfl,.inl ag,h5.keep (ao h2 _),h6.keep (ao h2 _)⟩) (fun j xs hj q z=>?_) (fun j ks' us' hj q z=>R.dd.ad i j ks us ks' us' a hj e q h1 z),.inr ⟨a,_,_,rfl,trivial,h2,rfl,h1,h4,h3⟩⟩;obtain⟨b,vs,g1,_,_,g4,_⟩:=R.ow j xs q;rw[z]at g1;cases g1;rw[h4]at g4;cases g4
theorem RS.ahP(R:RS B σ σV F H){i:Nat}{ks us:List VW}{kvs:List (Key×V)}{a:Addr}(hF:F a=none)(h0:B.H0 a=none)(hH:H a=some (.dK kvs))(hk:RWs B.K F ks (kvs.map fun p=>kV p.1))(hu:RWs B.K F us (kvs.map fun p=>p.2))(hn:∀(j:Nat)(ks' us':List VW),j≠i->σ[j]?=some (.od ks' us')->σV[j]?≠some (some (.ref a))):RS B (σ.set i (.od ks us)) (σV.set i (some (.ref a))) F H:=by
 have hl:=R.len;have at':∀{j:Nat}{sl:Sl},(σ.set i (.od ks us))[j]?=some sl->i=j->sl=.od ks us/\(σV.set i (some (V.ref a)))[j]?=some (some (.ref a)):=fun{j sl}e z=>by
  subst z;have hi:i<σ.length:=by have:=(List.getElem?_eq_some_iff.mp e).1;simpa using this
  rw[List.getElem?_set_self hi]at e;exact⟨(Option.some.inj e).symm,List.getElem?_set_self (by omega)⟩
 refine⟨R.rb,by simp[hl],fun j u e=>?_,fun j xs e=>?_,fun j k xs xs' b hne e1 e2 f1 f2=>?_,fun j ks' us' e=>?_,fun j k ks1 us1 ks2 us2 b hne e1 e2 f1 f2=>?_,fun j e=>?_⟩
 ·by_cases hj:i=j;·cases(at' e hj).1
  ·rw[List.getElem?_set_ne hj]at e⊢;exact R.va j u e
 ·by_cases hj:i=j;·cases(at' e hj).1
  ·rw[List.getElem?_set_ne hj]at e⊢;exact R.ow j xs e
 ·have n1:i≠j:=fun z=>by cases(at' e1 z).1
  have n2:i≠k:=fun z=>by cases(at' e2 z).1
  rw[List.getElem?_set_ne n1]at e1 f1;rw[List.getElem?_set_ne n2]at e2 f2;exact R.ap j k xs xs' b hne e1 e2 f1 f2
 ·by_cases hj:i=j;·obtain⟨e1,e2⟩:=at' e hj;cases e1;exact⟨a,kvs,e2,hF,h0,hH,hk,hu⟩
  ·rw[List.getElem?_set_ne hj]at e⊢;exact R.dd.od j ks' us' e
 ·by_cases hj:i=j;·have e':=(at' e1 hj).2;rw[f1]at e';cases e';have hk':i≠k:=fun z=>hne (hj.symm.trans z);rw[List.getElem?_set_ne hk']at e2 f2;exact hn k _ _ (Ne.symm hk') e2 f2
  ·rw[List.getElem?_set_ne hj]at e1 f1;by_cases hk':i=k;·have e':=(at' e2 hk').2;rw[f2]at e';cases e';exact hn j _ _ (Ne.symm hj) e1 f1
   ·rw[List.getElem?_set_ne hk']at e2 f2;exact R.dd.ad j k _ _ _ _ b hne e1 e2 f1 f2
 ·have hj:i≠j:=fun z=>by cases(at' e z).1
  rw[List.getElem?_set_ne hj]at e⊢;exact R.dd.ob j e
theorem RS.xQ(R:RS B σ σV F H){i:Nat}{ks us ks2 us2:List VW}{kvs kvs2:List (Key×V)}{a:Addr}(e:σ[i]?=some (.od ks us))(ea:σV[i]?=some (some (.ref a)))(hF:F a=none)(h0:B.H0 a=none)(hH:H a=some (.dK kvs))(hk:RWs B.K F ks2 (kvs2.map fun p=>kV p.1))(hu:RWs B.K F us2 (kvs2.map fun p=>p.2)):RS B (σ.set i (.od ks2 us2)) σV F (upd H a (.dK kvs2)):=by
 have hi:i<σ.length:=(List.getElem?_eq_some_iff.mp e).1;have nF:∀b o,F b=some o->b≠a:=fun b o q z=>by subst z;rw[hF]at q;cases q
 refine⟨⟨fun b u q=>by rw[ae (nF b u q)];exact R.rb.sub b u q,fun b u q=>by
 have ne:b≠a:=fun z=>by subst z;rw[h0]at q;cases q
 rw[ae ne];exact R.rb.base b u q,R.rb.fz0,R.rb.fr⟩,by simp[R.len],fun j w q=>?_,fun j xs q=>?_,fun j k xs xs' b hne e1 e2 f1 f2=>?_,fun j ks' us' q=>?_,fun j k ks1 us1 ks3 us3 b hne e1 e2 f1 f2=>?_,fun j q=>?_⟩
 ·by_cases hj:i=j;·subst hj;rw[List.getElem?_set_self hi]at q;cases q
  ·rw[List.getElem?_set_ne hj]at q;exact R.va j w q
 ·by_cases hj:i=j;·subst hj;rw[List.getElem?_set_self hi]at q;cases q
  ·rw[List.getElem?_set_ne hj]at q;obtain⟨b,ys,h1,h2,h3,h4,h5⟩:=R.ow j xs q;have ne:b≠a:=fun z=>by subst z;rw[hH]at h4;cases h4
   exact⟨b,ys,h1,h2,h3,by rw[ae ne];exact h4,h5⟩
 ·have n1:i≠j:=fun z=>by subst z;rw[List.getElem?_set_self hi]at e1;cases e1
  have n2:i≠k:=fun z=>by subst z;rw[List.getElem?_set_self hi]at e2;cases e2
  rw[List.getElem?_set_ne n1]at e1;rw[List.getElem?_set_ne n2]at e2;exact R.ap j k xs xs' b hne e1 e2 f1 f2
 ·by_cases hj:i=j;·subst hj;rw[List.getElem?_set_self hi]at q;cases q;exact⟨a,kvs2,ea,hF,h0,ag,hk,hu⟩
  ·rw[List.getElem?_set_ne hj]at q;obtain⟨b,ys,h1,h2,h3,h4,h5⟩:=R.dd.od j ks' us' q;have ne:b≠a:=fun z=>by subst z;exact R.dd.ad i j _ _ _ _ b hj e q ea h1
   exact⟨b,ys,h1,h2,h3,by rw[ae ne];exact h4,h5⟩
 ·have back:∀{j:Nat}{x y:List VW},(σ.set i (.od ks2 us2))[j]?=some (.od x y)->∃x' y',σ[j]?=some (.od x' y'):=fun{j x y}q=>by
   by_cases hj:i=j;·subst hj;exact⟨_,_,e⟩
   ·rw[List.getElem?_set_ne hj]at q;exact⟨_,_,q⟩
  obtain⟨_,_,g1⟩:=back e1;obtain⟨_,_,g2⟩:=back e2;exact R.dd.ad j k _ _ _ _ b hne g1 g2 f1 f2
 ·have hj:i≠j:=fun z=>by subst z;rw[List.getElem?_set_self hi]at q;cases q
  rw[List.getElem?_set_ne hj]at q;exact R.dd.ob j q
end
end WS
namespace WS
open PySem PySem.Spec PyProof.Rows L2
open WL(Res Sl Ws EF TF AF LF GF GsF SF Out)
section
variable{X:Cx}{e:Expr}{es:List Expr}{st:Stmt}{sts:List Stmt}
theorem PE.imp{t t':TE}(h:PE X e t)(f:∀σ H Q,t' σ H Q->t σ H Q):PE X e t':=fun pins s σ H Q I q=>h pins s σ H Q I (f σ H Q q)
theorem PT.imp{t t':TT}(h:PT X e t)(f:∀σ H Q,t' σ H Q->t σ H Q):PT X e t':=fun pins s σ H Q I q=>h pins s σ H Q I (f σ H Q q)
theorem PW.imp{t t':TT}(h:PW X e t)(f:∀σ H Q,t' σ H Q->t σ H Q):PW X e t':=fun wh pins s σ H Q I q=>h wh pins s σ H Q I (f σ H Q q)
theorem PA.imp{t t':TA}(h:PA X es t)(f:∀σ H Q,t' σ H Q->t σ H Q):PA X es t':=fun pos pins s σ H Q I q=>h pos pins s σ H Q I (f σ H Q q)
theorem PS.imp{t t':TS}(h:PS X st t)(f:∀D σ H,t' D σ H->t D σ H):PS X st t':=fun pins s σ H D I q=>h pins s σ H D I (f D σ H q)
theorem PSs.imp{t t':TS}(h:PSs X sts t)(f:∀D σ H,t' D σ H->t D σ H):PSs X sts t':=fun pins s σ H D I q=>h pins s σ H D I (f D σ H q)
theorem PG.imp{t t':TG}(h:PG X e t)(f:∀v σ H Q,t' v σ H Q->t v σ H Q):PG X e t':=fun pins s σ H v u Q I r q=>h pins s σ H v u Q I r (f v σ H Q q)
theorem PGs.imp{t t':TGs}(h:PGs X es t)(f:∀v σ H Q,t' v σ H Q->t v σ H Q):PGs X es t':=fun pins s σ H v u Q I r q=>h pins s σ H v u Q I r (f v σ H Q q)
theorem PI.imp{tg:Expr}{t t':TI}(h:PI X tg e t)(f:∀σ H Q,t' σ H Q->t σ H Q):PI X tg e t':=fun pins s σ H Q I q=>h pins s σ H Q I (f σ H Q q)
theorem PO.imp{o:Option Expr}{t t':TO}(h:PO X o t)(f:∀σ H Q,t' σ H Q->t σ H Q):PO X o t':=fun pins s σ H Q I q=>h pins s σ H Q I (f σ H Q q)
end
noncomputable def Rq(B:Bx)(σ:Ws)(F:Hp){α:Type}(r:Res α)(k:α->Prop):Prop:=match r with|.ok a=>k a|.ex c=>B.xp c σ F|.bad=>False
theorem Rq.mono{B:Bx}{σ:Ws}{F F':Hp}{α:Type}{r:Res α}{k k':α->Prop}(s:Same F F')(h:Rq B σ F r k)(f:∀a,k a->k' a):Rq B σ F' r k':=by cases r with|ok a=>exact f a h|ex c=>exact B.mono c σ F F' s h|bad=>exact h
theorem Rq.bind{B:Bx}{σ:Ws}{F:Hp}{α β:Type}{r:Res α}{g:α->Res β}{k:β->Prop}(h:Rq B σ F (r.bind g) k):Rq B σ F r fun a=>Rq B σ F (g a) k:=by cases r with|ok a=>exact h|ex c=>exact h|bad=>exact h
noncomputable def lo(B:Bx)(t:EF):TE:=fun σV H Q=>∃σ F,RS B σ σV F H/\Rq B σ F (t σ) fun w=>∀v H' F',RS B σ σV F' H'->Gr F H F' H'->RW B.K F' w v->Q v H'
noncomputable def loT(B:Bx)(t:TF):TT:=fun σV H Q=>∃σ F,RS B σ σV F H/\Rq B σ F (t σ) fun b=>∀H' F',RS B σ σV F' H'->Gr F H F' H'->Q b H'
noncomputable def loA(B:Bx)(t:AF):TA:=fun σV H Q=>∃σ F,RS B σ σV F H/\Rq B σ F (t σ) fun ws=>∀vs H' F',RS B σ σV F' H'->Gr F H F' H'->RWs B.K F' ws vs->Q vs H'
noncomputable def loO(B:Bx)(t:Ws->Res (Option Int)):TO:=fun σV H Q=>∃σ F,RS B σ σV F H/\Rq B σ F (t σ) fun o=>∀H' F',RS B σ σV F' H'->Gr F H F' H'->Q o H'
noncomputable def loL(B:Bx)(t:LF):TE:=fun σV H Q=>∃σ F,RS B σ σV F H/\Rq B σ F (t σ) fun ws=>∀a vs H' F',RS B σ σV F' H'->Gr F H F' H'->F' a=none->B.H0 a=none->H' a=some (.lst vs)->RWs B.K F' ws vs->(∀(j:Nat)(us:List VW),σ[j]?=some (.ow us)->σV[j]?≠some (some (.ref a)))->Q (.ref a) H'
structure Gm(m:Bool)(F H F' H':Hp):Prop where
 f:Same F F'
 nf:∀a o,H a=some o->F a=none->F' a=none
 th:∀a o,H a=some o->∃o',H' a=some o'
 h:m=true->Same H H'
theorem Gm.refl{m:Bool}{F H:Hp}:Gm m F H F H:=⟨Same.refl _,fun _ _ _ z=>z,fun _ o e=>⟨o,e⟩,fun _=>Same.refl _⟩
theorem Gm.trans{m:Bool}{F H F1 H1 F2 H2:Hp}(a:Gm m F H F1 H1)(b:Gm m F1 H1 F2 H2):Gm m F H F2 H2:=⟨a.f.trans b.f,fun x o e z=>by obtain⟨o',e'⟩:=a.th x o e;exact b.nf x o' e' (a.nf x o e z),fun x o e=>by obtain⟨o',e'⟩:=a.th x o e;exact b.th x o' e',fun hm=>(a.h hm).trans (b.h hm)⟩
noncomputable def loG(m:Bool)(B:Bx)(g:GF):TG:=fun v σV H Q=>∃σ F w,RS B σ σV F H/\RW B.K F w v/\Rq B σ F (g w σ) fun σ'=>∀σV' H' F',RS B σ' σV' F' H'->Gm m F H F' H'->Q σV' H'
noncomputable def aeO(m:Bool)(B:Bx)(g:GsF):TGs:=fun vs σV H Q=>∃σ F ws,RS B σ σV F H/\RWs B.K F ws vs/\Rq B σ F (g ws σ) fun σ'=>∀σV' H' F',RS B σ' σV' F' H'->Gm m F H F' H'->Q σV' H'
noncomputable def Oq(B:Bx)(D:Ends)(F:Hp)(o:Out):Prop:=match o with|.nx σ'=>∀σV' H' F',RS B σ' σV' F' H'->Same F F'->D.nx σV' H'|.bk σ'=>∀σV' H' F',RS B σ' σV' F' H'->Same F F'->D.bk σV' H'|.ct σ'=>∀σV' H' F',RS B σ' σV' F' H'->Same F F'->D.ct σV' H'|.rt w=>∀v H' F',RB B F' H'->Same F F'->RW B.K F' w v->D.rt v H'|.ex c σ'=>B.xp c σ' F|.bad=>False
noncomputable def loS(B:Bx)(t:SF):TS:=fun D σV H=>∃σ F,RS B σ σV F H/\Oq B D F (t σ)
theorem Oq.mono{B:Bx}{D:Ends}{F F':Hp}{o:Out}(s:Same F F')(h:Oq B D F o):Oq B D F' o:=by cases o with|nx σ=>exact fun σV H G R z=>h σV H G R (s.trans z)|bk σ=>exact fun σV H G R z=>h σV H G R (s.trans z)|ct σ=>exact fun σV H G R z=>h σV H G R (s.trans z)|rt w=>exact fun σV H G R z=>h σV H G R (s.trans z)|ex c σ=>exact B.mono c σ F F' s h|bad=>exact h
theorem Oq.ofR{B:Bx}{D:Ends}{F:Hp}{σ:Ws}{α:Type}{r:Res α}{f:α->Out}(h:Oq B D F (WL.ofR σ r f)):Rq B σ F r fun a=>Oq B D F (f a):=by cases r with|ok a=>exact h|ex c=>exact h|bad=>exact h
noncomputable def Eq1(F H:Hp)(K:W.Frag)(r:Res VW)(Q:VK):Prop:=match r with|.ok w=>∀v F' H',Ext F H F' H'->RW K F' w v->Q v H'|_=>False
noncomputable def lo2(K:W.Frag)(r:VW->VW->Res VW):R2:=fun x y H Q=>∃F wx wy,Same F H/\RW K F wx x/\RW K F wy y/\Eq1 F H K (r wx wy) Q
noncomputable def lo1(K:W.Frag)(r:VW->Res VW):V->Hp->VK->Prop:=fun x H Q=>∃F wx,Same F H/\RW K F wx x/\Eq1 F H K (r wx) Q
noncomputable def loN(K:W.Frag)(r:List VW->Res VW):List V->Hp->VK->Prop:=fun xs H Q=>∃F ws,Same F H/\RWs K F ws xs/\Eq1 F H K (r ws) Q
noncomputable def Calm(r:VW->VW->Res VW):Prop:=∀x y c,r x y≠.ex c
theorem OpR.imp{X:Cx}{f:Value->Value->Sem Value}{r r':R2}(h:OpR X f r)(g:∀x y H Q,r' x y H Q->r x y H Q):OpR X f r':=fun pins s σ H x y v u Q I rx ry q=>h pins s σ H x y v u Q I rx ry (g x y H Q q)
theorem UnR.imp{X:Cx}{f:Value->Sem Value}{r r':V->Hp->VK->Prop}(h:UnR X f r)(g:∀x H Q,r' x H Q->r x H Q):UnR X f r':=fun pins s σ H x v Q I rx q=>h pins s σ H x v Q I rx (g x H Q q)
theorem bz.imp{X:Cx}{f:Value}{r r':List V->Hp->VK->Prop}(h:bz X f r)(g:∀xs H Q,r' xs H Q->r xs H Q):bz X f r':=fun pins s σ H xs us Q I rx q=>h pins s σ H xs us Q I rx (g xs H Q q)
theorem IxR.imp{X:Cx}{r r':R2}(h:IxR X r)(g:∀x y H Q,r' x y H Q->r x y H Q):IxR X r':=fun value slice pins s σ H x y v u Q I rx ry q hs=>h value slice pins s σ H x y v u Q I rx ry (g x y H Q q) hs
theorem SlR.imp{X:Cx}{r r':V->Option Int->Option Int->Hp->VK->Prop}(h:SlR X r)(g:∀x a b H Q,r' x a b H Q->r x a b H Q):SlR X r':=fun pins s σ H x v vl vu lo hi sl Q I rx a b c q=>h pins s σ H x v vl vu lo hi sl Q I rx a b c (g x lo hi H Q q)
section
variable{X:Cx}{B:Bx}{e a b c:Expr}{es:List Expr}{pos:Pos}{ta tb tc:EF}{K:W.Frag}
theorem abp{i:Nat}(h:PE X e (tVar i)):PE X e (lo B (WL.ah i)):=PE.imp h fun σV H Q⟨σ,F,R,q⟩=>by
 simp only[WL.ah]at q;split at q;·rename_i w e;obtain⟨v,e1,r⟩:=R.va i w e;exact⟨v,e1,q v H F R Gr.refl r⟩
 ·exact q.elim
theorem aa0{v:V}{w:VW}(h:PE X e (tC v))(r:∀F,RW B.K F w v):PE X e (lo B (WL.eC w)):=PE.imp h fun σV H Q⟨σ,F,R,q⟩=>q v H F R Gr.refl (r F)
theorem we_int{i j pos}:PE X (.Constant (.int i) j pos) (lo B (WL.eC (.int i))):=aa0 pe_int fun _=>by simp[RW]
theorem yW{i j pos}:PE X (.Constant (.bool i) j pos) (lo B (WL.eC (.bl i))):=aa0 af2 fun _=>by simp[RW]
theorem sf{j pos}:PE X (.Constant .none j pos) (lo B (WL.eC .non)):=aa0 acx fun _=>by simp[RW]
theorem we_str{x j pos}:PE X (.Constant (.str x) j pos) (lo B (WL.eC (.str x))):=aa0 yc fun _=>by simp[RW]
theorem wJ{r:VW->VW->Res VW}{rV:R2}(cm:Calm r)(f:∀x y H Q,lo2 B.K r x y H Q->rV x y H Q):∀σV H Q,lo B (WL.eOp r ta tb) σV H Q->tOp rV (lo B ta) (lo B tb) σV H Q:=by intro σV H Q⟨σ,F,R,q⟩;have q:=Rq.bind q;refine⟨σ,F,R,Rq.mono (Same.refl _) q fun x qx v1 H1 F1 R1 s1 r1=>?_⟩;have qx:=Rq.bind qx;refine⟨σ,F1,R1,Rq.mono s1.f qx fun y qy v2 H2 F2 R2 s2 r2=>?_⟩;refine f _ _ _ _ ⟨F2,x,y,R2.rb.sub,r1.keep s2.f,r2,?_⟩;unfold Eq1;cases e:r x y with|ok w=>rw[e]at qy;exact fun v F3 H3 E r3=>qy v H3 F3 (E.rs B σ σV R2) ((s1.trans s2).trans E.gr) r3|ex c=>exact(cm x y c e).elim|bad=>rw[e]at qy;exact qy
theorem we_op{op:Operator}{r:VW->VW->Res VW}(cm:Calm r)(h:OpR X (binaryOp op) (lo2 B.K r))(ha:PE X a (lo B ta))(hb:PE X b (lo B tb)):PE X (.BinOp a op b pos) (lo B (WL.eOp r ta tb)):=PE.imp (acv h ha hb) (wJ cm fun _ _ _ _ q=>q)
theorem kY{op:CmpOp}{r:VW->VW->Res VW}(cm:Calm r)(h:OpR X (compareOp op) (lo2 B.K r))(ha:PE X a (lo B ta))(hb:PE X b (lo B tb))(hm:behindInMarks op b=false):PE X (.Compare a [op] [b] pos) (lo B (WL.eOp r ta tb)):=PE.imp (zH h ha hb hm) (wJ cm fun _ _ _ _ q=>q)
theorem abq{r:VW->VW->Res VW}(cm:Calm r)(h:IxR X (lo2 B.K r))(ha:PE X a (lo B ta))(hb:PE X b (lo B tb))(hs:kU b):PE X (.Subscript a b pos) (lo B (WL.eOp r ta tb)):=PE.imp (pe_ix h ha hb hs) (wJ cm fun _ _ _ _ q=>q)
theorem we_un{op:UnaryOp}{r:VW->Res VW}(cm:∀x c,r x≠.ex c)(h:UnR X (unaryOp op) (lo1 B.K r))(ha:PE X a (lo B ta)):PE X (.UnaryOp op a pos) (lo B (WL.eUn r ta)):=PE.imp (af0 h ha) fun σV H Q⟨σ,F,R,q⟩=>by have q:=Rq.bind q;refine⟨σ,F,R,Rq.mono (Same.refl _) q fun x qx v1 H1 F1 R1 s1 r1=>?_⟩;refine⟨F1,x,R1.rb.sub,r1,?_⟩;unfold Eq1;cases e:r x with|ok w=>rw[e]at qx;exact fun v F3 H3 E r3=>qx v H3 F3 (E.rs B σ σV R1) (s1.trans E.gr) r3|ex c=>exact(cm x c e).elim|bad=>rw[e]at qx;exact qx
theorem nW{t:EF}:∀σV H Q,loT B (WL.tB t) σV H Q->zd (lo B t) σV H Q:=by
 intro σV H Q⟨σ,F,R,q⟩;have q:=Rq.bind q;refine⟨σ,F,R,Rq.mono (Same.refl _) q fun x qx v1 H1 F1 R1 s1 r1=>?_⟩;cases x<;>simp only[WL.toB]at qx<;>first|exact qx.elim|skip
 simp only[RW]at r1;exact⟨_,r1,qx H1 F1 R1 s1⟩
theorem ba{op:CmpOp}{r:VW->VW->Res VW}(cm:Calm r)(h:OpR X (compareOp op) (lo2 B.K r))(ha:PE X a (lo B ta))(hb:PE X b (lo B tb))(hm:behindInMarks op b=false):PT X (.Compare a [op] [b] pos) (loT B (WL.tB (WL.eOp r ta tb))):=PT.imp (zB h ha hb hm) fun σV H Q q=>wJ cm (fun _ _ _ _ q=>q) σV H _ (nW σV H Q q)
theorem iH{t:EF}(h:PE X e (lo B t))(he:∀whole,isTrue e X.env whole=(do let v <-whole;standAt e.pos;holding [v] (truthy v)):=by intro _;rfl):PT X e (loT B (WL.tB t)):=PT.imp (acf h he) nW
theorem wL{r r':VW->VW->Res VW}(cm:Calm r)(cm':Calm r'):∀σV H Q,lo B (WL.mI r r' ta tb tc) σV H Q->xW (lo2 B.K r) (lo2 B.K r') (lo B ta) (lo B tb) (lo B tc) σV H Q:=by intro σV H Q⟨σ,F,R,q⟩;have q:=Rq.bind q;refine⟨σ,F,R,Rq.mono (Same.refl _) q fun x qx v1 H1 F1 R1 s1 r1=>?_⟩;have qx:=Rq.bind qx;refine⟨σ,F1,R1,Rq.mono s1.f qx fun y qy v2 H2 F2 R2 s2 r2=>?_⟩;refine⟨F2,x,y,R2.rb.sub,r1.keep s2.f,r2,?_⟩;unfold Eq1;cases e:r x y with|ex c=>exact(cm x y c e).elim|bad=>rw[e]at qy;exact qy|ok z=>rw[e]at qy;intro v3 F3 H3 E3 r3;have qz:Rq B σ F (match z with|.bl true=>(tc σ).bind fun w=>r' y w|.bl false=>.ok (.bl false)|_=>.bad) _:=qy;cases z with
 |bl k=>simp only[RW]at r3;refine⟨k,r3,?_⟩;cases k with|false=>rw[if_neg Bool.false_ne_true];exact qz (.bl false) H3 F3 (E3.rs B σ σV R2) ((s1.trans s2).trans E3.gr) (by simp[RW])|true=>rw[if_pos rfl];have qz:=Rq.bind (show Rq B σ F ((tc σ).bind fun w=>r' y w) _ from qz);refine⟨σ,F3,E3.rs B σ σV R2,Rq.mono ((s1.trans s2).trans E3.gr).f qz fun w qw v4 H4 F4 R4 s4 r4=>?_⟩;refine⟨F4,y,w,R4.rb.sub,(r2.keep E3.same).keep s4.f,r4,?_⟩;unfold Eq1;cases e':r' y w with|ex c=>exact(cm' y w c e').elim|bad=>rw[e']at qw;exact qw|ok u=>rw[e']at qw;exact fun v F5 H5 E5 r5=>qw v H5 F5 (E5.rs B σ σV R4) ((((s1.trans s2).trans E3.gr).trans s4).trans E5.gr) r5
 |_=>exact qz.elim
theorem vB{op op':CmpOp}{r r':VW->VW->Res VW}(cm:Calm r)(cm':Calm r')(ho:OpR X (compareOp op) (lo2 B.K r))(ho':OpR X (compareOp op') (lo2 B.K r'))(ha:PE X a (lo B ta))(hb:PE X b (lo B tb))(hc:PE X c (lo B tc))(hm:lastMarks [op,op'] [b,c]=false:=by with_unfolding_all rfl):PT X (.Compare a [op,op'] [b,c] pos) (loT B (WL.tB (WL.mI r r' ta tb tc))):=PT.imp (v7 ho ho' ha hb hc hm) fun σV H Q q=>wL cm cm' σV H _ (nW σV H Q q)
variable{uA uB:TF}{rest:List Expr}
theorem dj(ha:PT X a (loT B uA)):PW X (.BoolOp .And [a] pos) (loT B uA):=zy ha
theorem ww_or1(ha:PT X a (loT B uA)):PW X (.BoolOp .Or [a] pos) (loT B uA):=acd ha
theorem fh(ha:PT X a (loT B uA))(hb:PW X (.BoolOp .And (b::rest) pos) (loT B uB)):PW X (.BoolOp .And (a::b::rest) pos) (loT B (WL.kg uA uB)):=PW.imp (ace ha hb) fun σV H Q⟨σ,F,R,q⟩=>by have q:=Rq.bind q;refine⟨σ,F,R,Rq.mono (Same.refl _) q fun x qx H1 F1 R1 s1=>?_⟩;cases x with|true=>rw[if_pos rfl];exact⟨σ,F1,R1,Rq.mono s1.f (show Rq B σ F (uB σ) _ from qx) fun b qb H2 F2 R2 s2=>qb H2 F2 R2 (s1.trans s2)⟩|false=>rw[if_neg Bool.false_ne_true];exact(show∀H' F',_ from qx) H1 F1 R1 s1
theorem ww_or(ha:PT X a (loT B uA))(hb:PW X (.BoolOp .Or (b::rest) pos) (loT B uB)):PW X (.BoolOp .Or (a::b::rest) pos) (loT B (WL.tOr uA uB)):=PW.imp (afZ ha hb) fun σV H Q⟨σ,F,R,q⟩=>by have q:=Rq.bind q;refine⟨σ,F,R,Rq.mono (Same.refl _) q fun x qx H1 F1 R1 s1=>?_⟩;cases x with|false=>rw[if_neg Bool.false_ne_true];exact⟨σ,F1,R1,Rq.mono s1.f (show Rq B σ F (uB σ) _ from qx) fun b qb H2 F2 R2 s2=>qb H2 F2 R2 (s1.trans s2)⟩|true=>rw[if_pos rfl];exact(show∀H' F',_ from qx) H1 F1 R1 s1
theorem iI(ha:PT X a (loT B uA)):PT X (.UnaryOp .Not a pos) (loT B (WL.rP uA)):=PT.imp (acg ha) fun σV H Q⟨σ,F,R,q⟩=>by have q:=Rq.bind q;exact⟨σ,F,R,Rq.mono (Same.refl _) q fun x qx=>qx⟩
theorem xS{op}(h:PE X a (lo B ta)):PE X (.BoolOp op [a] pos) (lo B ta):=acw h
theorem sg(ha:PE X a (lo B ta))(hb:PE X (.BoolOp .And (b::rest) pos) (lo B tb)):PE X (.BoolOp .And (a::b::rest) pos) (lo B (WL.yy ta tb)):=PE.imp (acA ha hb) fun σV H Q⟨σ,F,R,q⟩=>by have q:=Rq.bind q;refine⟨σ,F,R,Rq.mono (Same.refl _) q fun x qx v H1 F1 R1 s1 r1=>?_⟩;cases x with
|bl k=>simp only[RW]at r1;refine⟨k,r1,?_⟩;cases k with|true=>rw[if_pos rfl];exact⟨σ,F1,R1,Rq.mono s1.f (show Rq B σ F (tb σ) _ from qx) fun b qb v2 H2 F2 R2 s2 r2=>qb v2 H2 F2 R2 (s1.trans s2) r2⟩|false=>rw[if_neg Bool.false_ne_true];exact(show∀v H' F',_ from qx) _ H1 F1 R1 s1 (by simp[RW])
|_=>exact qx.elim
theorem abr(hc:PT X c (loT B uA))(ha:PE X a (lo B ta))(hb:PE X b (lo B tb)):PE X (.IfExp c a b pos) (lo B (WL.eIf uA ta tb)):=PE.imp (wm hc ha hb) fun σV H Q⟨σ,F,R,q⟩=>by have q:=Rq.bind q;refine⟨σ,F,R,Rq.mono (Same.refl _) q fun x qx H1 F1 R1 s1=>?_⟩;cases x with|true=>rw[if_pos rfl];exact⟨σ,F1,R1,Rq.mono s1.f (show Rq B σ F (ta σ) _ from qx) fun b qb v2 H2 F2 R2 s2 r2=>qb v2 H2 F2 R2 (s1.trans s2) r2⟩|false=>rw[if_neg Bool.false_ne_true];exact⟨σ,F1,R1,Rq.mono s1.f (show Rq B σ F (tb σ) _ from qx) fun b qb v2 H2 F2 R2 s2 r2=>qb v2 H2 F2 R2 (s1.trans s2) r2⟩
variable{tas:AF}
theorem wa_nil:PA X [] (loA B WL.aj):=PA.imp pa_nil fun σV H Q⟨σ,F,R,q⟩=>(show∀vs H' F',_ from q) [] H F R Gr.refl (by simp[RWs])
theorem aag:∀σV H Q,loA B (WL.aa ta tas) σV H Q->tCons (lo B ta) (loA B tas) σV H Q:=fun σV H Q⟨σ,F,R,q⟩=>by have q:=Rq.bind q;refine⟨σ,F,R,Rq.mono (Same.refl _) q fun x qx v H1 F1 R1 s1 r1=>?_⟩;have qx:=Rq.bind qx;exact⟨σ,F1,R1,Rq.mono s1.f qx fun xs qxs vs H2 F2 R2 s2 r2=>(show∀vs H' F',_ from qxs) _ H2 F2 R2 (s1.trans s2) (.cons (r1.keep s2.f) r2)⟩
theorem wa_cons(ha:PE X e (lo B ta))(hr:PA X es (loA B tas))(hs:starEach (e::es) X.env=(false,eval e X.env)::starEach es X.env:=by rfl):PA X (e::es) (loA B (WL.aa ta tas)):=PA.imp (pa_cons ha hr hs) aag
theorem bA:WL.lim<=sizeLine:=by decide
theorem we_tup{x1}(h:PA X es (loA B tas)):PE X (.Tuple es x1 pos) (lo B (WL.cT tas)):=PE.imp (acs h) fun σV H Q⟨σ,F,R,q⟩=>by
 have q:=Rq.bind q;refine⟨σ,F,R,Rq.mono (Same.refl _) q fun xs qx vs H1 F1 R1 s1 r1=>?_⟩;by_cases hl:xs.length<=WL.lim;·rw[if_pos hl]at qx;refine⟨by rw[<-r1.length];exact Nat.le_trans hl bA,fun p hp=>?_⟩;exact qx (.ref p) _ _ (R1.new hp _) (s1.trans (Gr.new (R1.rb.sub.free hp) hp _)) (by simp only[RW];exact⟨p,vs,rfl,SqT.of ag,r1.keep (ao (R1.rb.sub.free hp) _)⟩)
 ·rw[if_neg hl]at qx;exact qx.elim
theorem ac7:∀σV H Q,lo B (WL.gF tas) σV H Q->tLst (loA B tas) σV H Q:=fun σV H Q⟨σ,F,R,q⟩=>by
 have q:=Rq.bind q;refine⟨σ,F,R,Rq.mono (Same.refl _) q fun xs qx vs H1 F1 R1 s1 r1=>?_⟩;by_cases hl:xs.length<=WL.lim;·rw[if_pos hl]at qx;refine⟨by rw[<-r1.length];exact Nat.le_trans hl bA,fun p hp=>?_⟩;exact qx (.ref p) _ _ (R1.new hp _) (s1.trans (Gr.new (R1.rb.sub.free hp) hp _)) (by simp only[RW];exact⟨p,vs,rfl,SqL.of ag,r1.keep (ao (R1.rb.sub.free hp) _)⟩)
 ·rw[if_neg hl]at qx;exact qx.elim
theorem cH(h:PA X es (loA B tas)):PE X (.List es pos) (lo B (WL.gF tas)):=PE.imp (pe_lst h) ac7
theorem agK{σ:Ws}{σV:L2.St}{F F1 H1:Hp}{xs:List VW}{vs:List V}{p:Addr}{Q:VK}(R1:RS B σ σV F1 H1){H:Hp}(s1:Gr F H F1 H1)(r1:RWs B.K F1 xs vs)(hp:H1 p=none)(q:∀a vs H' F',RS B σ σV F' H'->Gr F H F' H'->F' a=none->B.H0 a=none->H' a=some (.lst vs)->RWs B.K F' xs vs->(∀(j:Nat)(us:List VW),σ[j]?=some (.ow us)->σV[j]?≠some (some (.ref a)))->Q (.ref a) H'):Q (.ref p) (upd H1 p (.lst vs)):=q p vs _ F1 (R1.wA hp _) (s1.trans ⟨Same.refl _,ao hp _,fun _ _ _ z=>z⟩) (R1.rb.sub.free hp) (R1.rb.base.free hp) ag r1 fun j us e z=>by obtain⟨a,zs,h1,h2,h3,h4,h5⟩:=R1.ow j us e;rw[z]at h1;cases h1;rw[hp]at h4;cases h4
theorem xR(h:PA X es (loA B tas)):PE X (.List es pos) (loL B (WL.aeP tas)):=PE.imp (pe_lst h) fun σV H Q⟨σ,F,R,q⟩=>by
 have q:=Rq.bind q;refine⟨σ,F,R,Rq.mono (Same.refl _) q fun xs qx vs H1 F1 R1 s1 r1=>?_⟩;by_cases hl:xs.length<=WL.lim;·rw[if_pos hl]at qx;exact⟨by rw[<-r1.length];exact Nat.le_trans hl bA,fun p hp=>agK R1 s1 r1 hp qx⟩
 ·rw[if_neg hl]at qx;exact qx.elim
theorem agO{r:List VW->Res VW}(cm:∀xs c,r xs≠.ex c):∀σV H Q,lo B (WL.eBi r tas) σV H Q->tCB (loN B.K r) (loA B tas) σV H Q:=by intro σV H Q⟨σ,F,R,q⟩;have q:=Rq.bind q;refine⟨σ,F,R,Rq.mono (Same.refl _) q fun xs qx vs H1 F1 R1 s1 r1=>?_⟩;refine⟨F1,xs,R1.rb.sub,r1,?_⟩;unfold Eq1;cases e:r xs with|ok w=>rw[e]at qx;exact fun v F3 H3 E r3=>qx v H3 F3 (E.rs B σ σV R1) (s1.trans E.gr) r3|ex c=>exact(cm xs c e).elim|bad=>rw[e]at qx;exact qx
theorem abt{r:List VW->Res VW}(cm:∀xs c,r xs≠.ex c)(h:PE X e (tCB (loN B.K r) (loA B tas))):PE X e (lo B (WL.eBi r tas)):=PE.imp h (agO cm)
theorem ng:PO X none (loO B WL.pNo):=PO.imp tO fun σV H Q⟨σ,F,R,q⟩=>(show∀H' F',_ from q) H F R Gr.refl
theorem wo_some(h:PE X e (lo B ta)):PO X (some e) (loO B (WL.fb ta)):=PO.imp (tN h) fun σV H Q⟨σ,F,R,q⟩=>by have q:=Rq.bind q;refine⟨σ,F,R,Rq.mono (Same.refl _) q fun x qx v H1 F1 R1 s1 r1=>?_⟩;cases x with|int i=>simp only[RW]at r1;exact⟨i,r1,qx H1 F1 R1 s1⟩|_=>exact qx.elim
noncomputable def aii(K:W.Frag):V->Option Int->Option Int->Hp->VK->Prop:=fun x l h H Q=>∃F wx,Same F H/\RW K F wx x/\Eq1 F H K (WL.oSl wx l h) Q
variable{l u:Option Expr}{tl tu:Ws->Res (Option Int)}{p2:Pos}
theorem we_sl(hr:SlR X (aii B.K))(he:PE X e (lo B ta))(hl:PO X l (loO B tl))(hu:PO X u (loO B tu)):PE X (.Subscript e (.Slice l u none p2) pos) (lo B (WL.eSl ta tl tu)):=PE.imp (pH hr he hl hu) fun σV H Q⟨σ,F,R,q⟩=>by have q:=Rq.bind q;refine⟨σ,F,R,Rq.mono (Same.refl _) q fun x qx v H1 F1 R1 s1 r1=>?_⟩;have qx:=Rq.bind qx;refine⟨σ,F1,R1,Rq.mono s1.f qx fun lo qlo H2 F2 R2 s2=>?_⟩;have qlo:=Rq.bind qlo;refine⟨σ,F2,R2,Rq.mono (s1.trans s2).f qlo fun hi qhi H3 F3 R3 s3=>?_⟩;refine⟨F3,x,R3.rb.sub,(r1.keep s2.f).keep s3.f,?_⟩;unfold Eq1;cases e':WL.oSl x lo hi with|ok w=>rw[e']at qhi;exact fun v F4 H4 E r4=>qhi v H4 F4 (E.rs B σ σV R3) (((s1.trans s2).trans s3).trans E.gr) r4|ex c=>cases x<;>simp[WL.oSl]at e';split at e'<;>cases e'|bad=>rw[e']at qhi;exact qhi
theorem lend{σ:Ws}{σV:L2.St}{F H F2 H2:Hp}{i:Nat}(R:RS B σ σV F H)(F1:Hp)(s1:Same F F1)(cs:(F1=F/\WL.frz i σ=σ)\/∃a o w,F1=upd F a o/\Ow1 o/\F a=none/\WL.frz i σ=σ.set i (.va w)/\σV[i]?=some (some (.ref a))/\H a=some o/\B.H0 a=none)(R2:RS B (WL.frz i σ) σV F2 H2)(s2:Gr F1 H F2 H2):∃F',RS B σ σV F' H2/\Gr F H F' H2/\∀w v,WL.plain w=true->RW B.K F2 w v->RW B.K F' w v:=by
 rcases cs with⟨rfl,hz⟩|⟨a,ow,wa,rfl,how,hFa,hz,ea,hH,h0⟩;·rw[hz]at R2;exact⟨F2,R2,s2,fun _ _ _ h=>h⟩
 ·rw[hz]at R2;have h2a:F2 a=some ow:=s2.f _ _ ag;have sF:Same F (fun b=>if b=a then none else F2 b):=fun b o q=>by
   have ne:b≠a:=fun z=>by subst z;rw[hFa]at q;cases q
   show(if b=a then none else F2 b)=some o;rw[if_neg ne];exact s2.f b o (s1 b o q)
  have off:∀b o,(if b=a then none else F2 b)=some o->b≠a/\F2 b=some o:=fun b o q=>by
   by_cases hb:b=a;·rw[if_pos hb]at q;cases q
   ·rw[if_neg hb]at q;exact⟨hb,q⟩
  refine⟨fun b=>if b=a then none else F2 b,⟨⟨fun b o q=>R2.rb.sub b o (off b o q).2,R2.rb.base,R.rb.fz0.trans sF,fun b o q=>R2.rb.fr b o (off b o q).2⟩,R.len,fun j w q=>?_,fun j us q=>?_,R.ap,?_⟩,⟨sF,s2.h,fun b o q z=>?_⟩,fun w v pw h=>?_⟩;·obtain⟨v,g1,g2⟩:=R.va j w q;exact⟨v,g1,g2.keep sF⟩
  ·obtain⟨b,zs,g1,g2,g3,g4,g5⟩:=R.ow j us q;refine⟨b,zs,g1,?_,g3,s2.h b _ g4,g5.keep sF⟩;by_cases hb:b=a;·exact if_pos hb
   ·show(if b=a then none else F2 b)=none;rw[if_neg hb];have hj:i≠j:=fun z=>by subst z;rw[ea]at g1;cases g1;exact hb rfl
    obtain⟨b',ys,k1,k2,_⟩:=R2.ow j us (by rw[List.getElem?_set_ne hj];exact q);rw[g1]at k1;cases k1;exact k2
  ·refine R.dd.via rfl id (fun _ _ z=>.inl z) (fun _ _ _ e=>⟨e,rfl⟩) sF fun j ks us b kvs ej hv q1 q2 q3=>⟨?_,q3,s2.h b _ q1⟩;by_cases hb:b=a;·exact if_pos hb
   ·show(if b=a then none else F2 b)=none;rw[if_neg hb];have hj:i≠j:=fun z=>by subst z;rw[show σV[i]?=_ from hv]at ea;cases ea;exact hb rfl
    obtain⟨b',ys,k1,k2,_⟩:=R2.dd.od j ks us (by rw[List.getElem?_set_ne hj];exact ej);rw[show σV[j]?=_ from hv]at k1;cases k1;exact k2
  ·show(if b=a then none else F2 b)=none;by_cases hb:b=a;·exact if_pos hb
   ·rw[if_neg hb];exact s2.nf b o q (by rw[ae hb];exact z)
  ·refine RW.less (fun c xs q=>?_) w v pw h;rcases q with(q|⟨o,q⟩)|q
   ·refine .inl (.inl ?_);have ne:c≠a:=fun z=>by subst z;rw[h2a]at q;cases q;exact how
    show(if c=a then none else F2 c)=_;rw[if_neg ne];exact q
   ·refine .inl (.inr ⟨o,?_⟩);have ne:c≠a:=fun z=>by subst z;rw[h2a]at q;cases q;exact how
    show(if c=a then none else F2 c)=_;rw[if_neg ne];exact q
   ·exact .inr q
theorem abi{i:Nat}(h:PT X e (loT B uA)):PT X e (loT B (WL.aef i uA)):=PT.imp h fun σV H Q⟨σ,F,R,q⟩=>by obtain⟨F1,s1,R1,cs⟩:=R.frz i;refine⟨WL.frz i σ,F1,R1,?_⟩;have q:Rq B σ F (match uA (WL.frz i σ)with|.ok b=>.ok b|_=>.bad) _:=q;cases e':uA (WL.frz i σ)with|ok w=>rw[e']at q;intro H2 F2 R2 s2;obtain⟨F',R',s',k⟩:=lend R F1 s1 cs R2 s2;exact q H2 F' R' s'|ex c=>rw[e']at q;exact q.elim|bad=>rw[e']at q;exact q
end
end WS
namespace WS
open PySem PySem.Spec PyProof.Rows L2
open WL(Res Sl Ws EF TF AF LF GF GsF SF Out)
mutual noncomputable def toD:VW->PyData|.non=>.none|.bl b=>.bool b|.int i=>.int i|.str x=>.str x|.ty _=>.none|.tup xs=>.tuple (cJ xs)|.lst xs=>.list (cJ xs)|.dic _ _=>.none|.cls _=>.none|.exc _ _=>.none|.ins _ _=>.none noncomputable def cJ:List VW->List PyData|[]=>[]|x::xs=>toD x::cJ xs end
mutual theorem RW.isD{K:W.Frag}{H:Hp}:∀(n:Nat)(w:VW)(v:V),WL.okD n w=true->RW K H w v->IsD K H n v (toD w)|n,.non,v,_,h=>by simp only[RW]at h;subst h;cases n<;>simp[toD,IsD]|n,.bl b,v,_,h=>by simp only[RW]at h;subst h;cases n<;>simp[toD,IsD]|n,.int i,v,_,h=>by simp only[RW]at h;subst h;cases n<;>simp[toD,IsD]|n,.str x,v,o,h=>by simp only[RW]at h;subst h;simp only[WL.okD]at o;cases n<;>simp[toD,IsD,PyData.strOk]<;>simpa using o|n,.ty t,v,o,h=>by simp[WL.okD]at o|0,.tup xs,v,o,h=>by simp[WL.okD,WL.bH]at o|n+1,.tup xs,v,o,h=>by simp only[RW]at h;obtain⟨a,vs,rfl,q,r⟩:=h;simp only[toD,IsD];exact⟨a,vs,rfl,q,RWs.isD n xs vs (by simpa only[WL.okD]using o) r⟩|0,.lst xs,v,o,h=>by simp[WL.okD,WL.bH]at o|n+1,.lst xs,v,o,h=>by simp only[RW]at h;obtain⟨a,vs,rfl,q,r⟩:=h;simp only[toD,IsD];exact⟨a,vs,rfl,q,RWs.isD n xs vs (by simpa only[WL.okD]using o) r⟩theorem RWs.isD{K:W.Frag}{H:Hp}:∀(n:Nat)(ws:List VW)(vs:List V),WL.bH (n+1) ws=true->RWs K H ws vs->Paired (IsD K H n) vs (cJ ws)|n,[],vs,_,h=>by simp only[RWs]at h;subst h;exact .nil|n,w::ws,vs,o,h=>by simp only[RWs]at h;obtain⟨v,r,rfl,q,t⟩:=h;simp only[WL.bH,Bool.and_eq_true]at o;exact .cons (RW.isD n w v o.1 q) (RWs.isD n ws r o.2 t)end
mutual theorem jv:∀(n m:Nat)(x y:VW),WL.okD n x=true->WL.okD m y=true->PyData.eqv (toD x) (toD y)=WL.eqv x y
|n,m,.tup xs,.tup ys,h1,h2=>by simp only[toD,PyData.eqv,WL.eqv];exact kM n m xs ys (by simpa only[WL.okD]using h1) (by simpa only[WL.okD]using h2)|n,m,.lst xs,.lst ys,h1,h2=>by simp only[toD,PyData.eqv,WL.eqv];exact kM n m xs ys (by simpa only[WL.okD]using h1) (by simpa only[WL.okD]using h2)|n,m,.ty _,_,h1,_=>by simp[WL.okD]at h1|n,m,.non,y,_,h2=>by cases y<;>first|simp[WL.okD]at h2;done|simp[toD,PyData.eqv,WL.eqv]
|n,m,.bl b,y,_,h2=>by cases y<;>first|simp[WL.okD]at h2;done|simp[toD,PyData.eqv,WL.eqv]
|n,m,.int b,y,_,h2=>by cases y<;>first|simp[WL.okD]at h2;done|simp[toD,PyData.eqv,WL.eqv]
|n,m,.str b,y,_,h2=>by cases y<;>first|(simp[WL.okD]at h2;done)|simp[toD,PyData.eqv,WL.eqv]
|n,m,.tup xs,.non,_,h2=>by simp[toD,PyData.eqv,WL.eqv]|n,m,.tup xs,.bl _,_,h2=>by simp[toD,PyData.eqv,WL.eqv]|n,m,.tup xs,.int _,_,h2=>by simp[toD,PyData.eqv,WL.eqv]|n,m,.tup xs,.str _,_,h2=>by simp[toD,PyData.eqv,WL.eqv]|n,m,.tup xs,.ty _,_,h2=>by simp[WL.okD]at h2|n,m,.tup xs,.lst _,_,h2=>by simp[toD,PyData.eqv,WL.eqv]|n,m,.lst xs,.non,_,h2=>by simp[toD,PyData.eqv,WL.eqv]|n,m,.lst xs,.bl _,_,h2=>by simp[toD,PyData.eqv,WL.eqv]|n,m,.lst xs,.int _,_,h2=>by simp[toD,PyData.eqv,WL.eqv]|n,m,.lst xs,.str _,_,h2=>by simp[toD,PyData.eqv,WL.eqv]|n,m,.lst xs,.ty _,_,h2=>by simp[WL.okD]at h2|n,m,.lst xs,.tup _,_,h2=>by simp[toD,PyData.eqv,WL.eqv]theorem kM:∀(n m:Nat)(xs ys:List VW),WL.bH n xs=true->WL.bH m ys=true->PyData.eqvAll (cJ xs) (cJ ys)=WL.gh xs ys|n,m,[],[],_,_=>by simp[cJ,PyData.eqvAll,WL.gh]|n,m,[],y::ys,_,_=>by simp[cJ,PyData.eqvAll,WL.gh]|n,m,x::xs,[],_,_=>by simp[cJ,PyData.eqvAll,WL.gh]|0,m,x::xs,y::ys,h1,_=>by simp[WL.bH]at h1|n+1,0,x::xs,y::ys,_,h2=>by simp[WL.bH]at h2|n+1,m+1,x::xs,y::ys,h1,h2=>by simp only[WL.bH,Bool.and_eq_true]at h1 h2;simp only[cJ,PyData.eqvAll,WL.gh];rw[jv n m x y h1.1 h2.1,kM (n+1) (m+1) xs ys h1.2 h2.2]end
theorem oM{n m:Nat}{x:VW}(hx:WL.okD n x=true):∀{ys:List VW},WL.bH m ys=true->((cJ ys).any fun z=>PyData.eqv z (toD x))=WL.bJ x ys|[],_=>by simp[cJ,WL.bJ]|y::ys,h=>by cases m with|zero=>simp[WL.bH]at h|succ m=>simp only[WL.bH,Bool.and_eq_true]at h;simp only[cJ,List.any_cons,WL.bJ];rw[jv m n y x h.1 hx,oM hx h.2]
section
variable{X:Cx}{K:W.Frag}
theorem eq1{F H:Hp}{w:VW}{Q:VK}{v:V}(q:Eq1 F H K (.ok w) Q)(r:RW K F w v):Q v H:=q v F H (Ext.refl F H) r
theorem aa7{F H:Hp}{ws:List VW}{vs:List V}{Q:VK}(s:Same F H)(q:Eq1 F H K (.ok (.lst ws)) Q)(r:RWs K F ws vs){p:Addr}(hp:H p=none):Q (.ref p) (upd H p (.lst vs)):=q _ _ _ (Ext.new (s.free hp) hp _) (by simp only[RW];exact⟨p,vs,rfl,SqL.of ag,r.keep (ao (s.free hp) _)⟩)
theorem ae4{F H:Hp}{ws:List VW}{vs:List V}{Q:VK}(s:Same F H)(q:Eq1 F H K (.ok (.tup ws)) Q)(r:RWs K F ws vs){p:Addr}(hp:H p=none):Q (.ref p) (upd H p (.tup vs)):=q _ _ _ (Ext.new (s.free hp) hp _) (by simp only[RW];exact⟨p,vs,rfl,SqT.of ag,r.keep (ao (s.free hp) _)⟩)
theorem tZ:OpR X (binaryOp .Add) (fun x y H Q=>∃l b xs zs,x=.ref l/\y=.ref b/\SqL X.K H l xs/\SqL X.K H b zs/\xs.length+zs.length<=sizeLine/\∀p,H p=none->Q (.ref p) (upd H p (.lst (xs++zs)))):=by
 intro pins s σ H x y v u Q I rx ry h;obtain⟨l,b,xs,zs,rfl,rfl,hl,hb,hz,q⟩:=h;cases rx;cases ry;obtain⟨its,r,pl,_⟩:=I.list hl;obtain⟨its2,r2,pl2,_⟩:=I.list hb;obtain⟨⟨cls,dd,data,sl⟩,ho,hc,n,hd⟩:=pl.isList;obtain⟨⟨cls2,dd2,data2,sl2⟩,ho2,hc2,n2,hd2⟩:=pl2.isList;simp only at hc hd hc2 hd2;subst hc hd hc2 hd2;have e:its.toArray++its2.toArray=(its++its2).toArray:=by simp
 have h1:=r.length;have h2:=r2.length;refine concat_meets ⟨_,ho,rfl⟩ ⟨_,ho2,rfl⟩ noFill_list_add seq_list_add PySem.F.slot_list_add PySem.F.entry_list_add (PySem.F.args_list_add_2 _ _) (list_addW l b its.toArray its2.toArray n n2 dd dd2 sl sl2 (by simp;omega)) ⟨ho,ho2,?_⟩;rw[e];exact⟨.ref _,_,I.agP (t':=s.toks) (r.append r2) (by rw[List.length_append];omega),rfl,q _ I.fresh⟩
theorem wq:OpR X (binaryOp .Add) (fun x y H Q=>∃a b ys,x=.ref a/\y=.ref b/\SqT X.K H a []/\SqT X.K H b ys/\Q (.ref b) H):=by intro pins s σ H x y v u Q I rx ry h;obtain⟨a,b,ys,rfl,rfl,ha,hb,q⟩:=h;cases rx;cases ry;obtain⟨its,r,p1,_⟩:=I.tuple ha;obtain⟨its2,r2,p2,_⟩:=I.tuple hb;cases r;obtain⟨⟨cls,dd,data,sl⟩,ho,hc,n,hd⟩:=id p1;obtain⟨⟨cls2,dd2,data2,sl2⟩,ho2,hc2,n2,hd2⟩:=id p2;simp only at hc hd hc2 hd2;subst hc hd hc2 hd2;exact concat_meets ⟨_,ho,rfl⟩ ⟨_,ho2,rfl⟩ noFill_tuple_add seq_tuple_add PySem.F.slot_tuple_add PySem.F.entry_tuple_add (PySem.F.args_tuple_add_2 _ _) (tuple_addW0 a b #[] its2.toArray n n2 dd dd2 sl sl2 (by simp)) ⟨ho,ho2,⟨.ref b,H,I,rfl,q⟩⟩
theorem w_add(hK:X.K=K):OpR X (binaryOp .Add) (lo2 K WL.fc):=by
 subst hK;refine OpR.imp (acK.or (tZ.or (zJ.or wq))) fun x y H Q⟨F,wx,wy,s,rx,ry,q⟩=>?_;cases wx<;>cases wy<;>simp only[WL.fc,Eq1]at q<;>first|exact q.elim|skip
 ·simp only[RW]at rx ry;exact .inl ⟨_,_,rx,ry,q _ F H (Ext.refl F H) (by simp[RW])⟩
 ·rename_i xs ys;simp only[RW]at rx ry;obtain⟨a,vs,rfl,qa,ra⟩:=rx;obtain⟨b,us,rfl,qb,rb⟩:=ry;by_cases hz:xs.length+ys.length<=WL.lim
  ·rw[if_pos hz]at q;have q:Eq1 F H X.K (.ok (.tup (xs++ys))) Q:=q;have h1:=ra.length;have h2:=rb.length;have hz':vs.length+us.length<=sizeLine:=by rw[<-h1,<-h2];exact Nat.le_trans hz bA
   by_cases hv:vs=[];·subst hv;have:xs=[]:=List.length_eq_zero_iff.mp h1;subst this;refine .inr (.inr (.inr ⟨a,b,us,rfl,rfl,s.tup qa,s.tup qb,?_⟩));exact eq1 q (by simp only[RW,List.nil_append];exact⟨b,us,rfl,qb,rb⟩)
   ·refine .inr (.inr (.inl ⟨a,b,vs,us,rfl,rfl,s.tup qa,s.tup qb,hv,hz',fun hu=>?_,fun hu p hp=>?_⟩));·subst hu;have:ys=[]:=List.length_eq_zero_iff.mp h2;subst this;exact eq1 q (by simp only[RW,List.append_nil];exact⟨a,vs,rfl,qa,ra⟩)
    ·exact ae4 s q (ra.app rb) hp
  ·rw[if_neg hz]at q;exact q.elim
 ·rename_i xs ys;simp only[RW]at rx ry;obtain⟨a,vs,rfl,qa,ra⟩:=rx;obtain⟨b,us,rfl,qb,rb⟩:=ry;by_cases hz:xs.length+ys.length<=WL.lim;·rw[if_pos hz]at q;have q:Eq1 F H X.K (.ok (.lst (xs++ys))) Q:=q;have h1:=ra.length;have h2:=rb.length;exact .inr (.inl ⟨a,b,vs,us,rfl,rfl,s.seq qa,s.seq qb,by rw[<-h1,<-h2];exact Nat.le_trans hz bA,fun p hp=>aa7 s q (ra.app rb) hp⟩)
  ·rw[if_neg hz]at q;exact q.elim
theorem calm_add:Calm WL.fc:=fun x y c h=>by cases x<;>cases y<;>simp[WL.fc]at h<;>(split at h<;>cases h)
theorem y0{f:Value->Value->Sem Value}{C:Int->Int->Prop}{g:Int->Int->V}{r:VW->VW->Res VW}(h:OpR X f (rI C g))(k:∀x y w,r x y=.ok w->∃i j,x=.int i/\y=.int j/\C i j/\∀F,RW K F w (g i j))(cm:Calm r):OpR X f (lo2 K r):=by refine OpR.imp h fun x y H Q⟨F,wx,wy,s,rx,ry,q⟩=>?_;cases e:r wx wy with|bad=>rw[e]at q;exact q.elim|ex c=>exact(cm _ _ _ e).elim|ok w=>obtain⟨i,j,rfl,rfl,hc,hr⟩:=k wx wy w e;simp only[RW]at rx ry;rw[e]at q;exact⟨i,j,rx,ry,hc,eq1 q (hr F)⟩
theorem su{f:Value->Value->Sem Value}{g:Int->Int->V}{r:VW->VW->Res VW}(h:OpR X f (rI0 g))(k:∀x y w,r x y=.ok w->∃i j,x=.int i/\y=.int j/\∀F,RW K F w (g i j))(cm:Calm r):OpR X f (lo2 K r):=by refine OpR.imp h fun x y H Q⟨F,wx,wy,s,rx,ry,q⟩=>?_;cases e:r wx wy with|bad=>rw[e]at q;exact q.elim|ex c=>exact(cm _ _ _ e).elim|ok w=>obtain⟨i,j,rfl,rfl,hr⟩:=k wx wy w e;simp only[RW]at rx ry;rw[e]at q;exact⟨i,j,rx,ry,eq1 q (hr F)⟩
theorem gj:Calm WL.t9:=fun x y c h=>by cases x<;>cases y<;>simp only[WL.t9]at h<;>first|cases h;done|(split at h<;>cases h)
theorem bt:Calm WL.oDiv:=fun x y c h=>by cases x<;>cases y<;>simp only[WL.oDiv]at h<;>first|cases h;done|(split at h<;>cases h)
theorem aE:Calm WL.oMod:=fun x y c h=>by cases x<;>cases y<;>simp only[WL.oMod]at h<;>first|cases h;done|(split at h<;>cases h)
theorem oz:Calm WL.oLt:=fun x y c h=>by cases x<;>cases y<;>simp[WL.oLt]at h
theorem oA:Calm WL.oLe:=fun x y c h=>by cases x<;>cases y<;>simp[WL.oLe]at h
theorem cR:Calm WL.oGt:=fun x y c h=>by cases x<;>cases y<;>simp[WL.oGt]at h
theorem w_mul:OpR X (binaryOp .Mult) (lo2 K WL.t9):=y0 acE (fun x y w e=>by
 cases x<;>cases y<;>simp only[WL.t9]at e<;>first|(cases e;done)|skip
 split at e;·rename_i hc;cases e;exact⟨_,_,rfl,rfl,hc,fun F=>by simp[RW]⟩
 ·cases e) gj
theorem wo:OpR X (binaryOp .FloorDiv) (rI (fun _ j=>0<j/\j<10^100) fun i j=>.int (i/j)):=opI fun i j _ _ _ _ _ hc q=>by
 have h1:(0:Int)<j:=hc.1;have h2:j<10^100:=hc.2;refine floordiv_int (by omega) (by rw[Int.fdiv_eq_ediv_of_nonneg i (by omega)];exact q) (.inl (PyProof.noPylong_of_log2 ?_));have hn:j.natAbs<10^100:=by omega
 have:j.natAbs.log2<400:=(Nat.log2_lt (by omega)).mpr (Nat.lt_of_lt_of_le hn (by decide+kernel));omega
theorem w_div:OpR X (binaryOp .FloorDiv) (lo2 K WL.oDiv):=y0 wo (fun x y w e=>by
 cases x<;>cases y<;>simp only[WL.oDiv]at e<;>first|(cases e;done)|skip
 split at e;·rename_i hc;cases e;exact⟨_,_,rfl,rfl,hc,fun F=>by simp[RW]⟩
 ·cases e) bt
theorem w_mod:OpR X (binaryOp .Mod) (lo2 K WL.oMod):=y0 acF (fun x y w e=>by
 cases x<;>cases y<;>simp only[WL.oMod]at e<;>first|(cases e;done)|skip
 split at e;·rename_i hc;cases e;exact⟨_,_,rfl,rfl,hc,fun F=>by simp[RW]⟩
 ·cases e) aE
theorem w_lt:OpR X (compareOp .Lt) (lo2 K WL.oLt):=su af5 (fun x y w e=>by cases x<;>cases y<;>simp[WL.oLt]at e;subst e;exact⟨_,_,rfl,rfl,fun F=>by simp[RW]⟩) oz
theorem ahH:OpR X (compareOp .LtE) (lo2 K WL.oLe):=su af6 (fun x y w e=>by cases x<;>cases y<;>simp[WL.oLe]at e;subst e;exact⟨_,_,rfl,rfl,fun F=>by simp[RW]⟩) oA
theorem vv:OpR X (compareOp .Gt) (lo2 K WL.oGt):=su af7 (fun x y w e=>by cases x<;>cases y<;>simp[WL.oGt]at e;subst e;exact⟨_,_,rfl,rfl,fun F=>by simp[RW]⟩) cR
theorem w_neg:UnR X (unaryOp .USub) (lo1 K WL.oNeg):=UnR.imp abw fun x H Q⟨F,wx,s,rx,q⟩=>by
 cases wx<;>simp only[WL.oNeg,Eq1]at q<;>first|exact q.elim|skip
 simp only[RW]at rx;exact⟨_,rx,q _ F H (Ext.refl F H) (by simp[RW])⟩
theorem calm_neg:∀x c,WL.oNeg x≠.ex c:=fun x c h=>by cases x<;>simp[WL.oNeg]at h
theorem sV{F:Hp}{x y:VW}{v u:V}(h:WL.dM x y=true)(rx:RW K F x v)(ry:RW K F y u):ael v u=true/\decide (v=u)=WL.eqv x y:=by cases x<;>cases y<;>simp[WL.dM]at h<;>simp only[RW]at rx ry<;>subst rx<;>subst ry<;>simp[ael,WL.eqv]<;>rfl
theorem calm_eq:Calm WL.oEq:=fun x y c h=>by simp only[WL.oEq]at h;split at h<;>first|(cases h;done)|(split at h<;>cases h)
theorem aaO:Calm WL.oNe:=fun x y c h=>by simp only[WL.oNe]at h;split at h<;>first|(cases h;done)|(split at h<;>cases h)
theorem w_eq(hK:X.K=K)(hu:X.A.units+64<cLine):OpR X (compareOp .Eq) (lo2 K WL.oEq):=by
 subst hK;refine OpR.imp (af8.or acJ) fun x y H Q⟨F,wx,wy,s,rx,ry,q⟩=>?_;simp only[WL.oEq]at q;split at q;·rename_i h;obtain⟨h1,h2⟩:=sV h rx ry;exact .inl ⟨h1,eq1 q (by simp[RW,h2])⟩
 ·split at q;·rename_i h;rw[Bool.and_eq_true]at h;refine .inr ⟨50,_,_,RW.isD 50 wx x h.1 (rx.keep s),RW.isD 50 wy y h.2 (ry.keep s),by omega,?_⟩;rw[jv 50 50 wx wy h.1 h.2];exact eq1 q (by simp[RW])
  ·exact q.elim
theorem aiL(hK:X.K=K)(hu:X.A.units+64<cLine):OpR X (compareOp .NotEq) (lo2 K WL.oNe):=by
 subst hK;refine OpR.imp (af4.or acD) fun x y H Q⟨F,wx,wy,s,rx,ry,q⟩=>?_;simp only[WL.oNe]at q;split at q;·rename_i h;obtain⟨h1,h2⟩:=sV h rx ry;exact .inl ⟨h1,eq1 q (by simp[RW,h2])⟩
 ·split at q;·rename_i h;rw[Bool.and_eq_true]at h;refine .inr ⟨50,_,_,RW.isD 50 wx x h.1 (rx.keep s),RW.isD 50 wy y h.2 (ry.keep s),by omega,?_⟩;rw[jv 50 50 wx wy h.1 h.2];exact eq1 q (by simp[RW])
  ·exact q.elim
theorem jz:Calm WL.oIn:=fun x y c h=>by cases y<;>simp only[WL.oIn]at h<;>first|(cases h;done)|(split at h<;>cases h)
theorem dD:Calm WL.d7:=fun x y c h=>by cases y<;>simp only[WL.d7]at h<;>first|(cases h;done)|(split at h<;>cases h)
theorem abu(hK:X.K=K)(hu:X.A.units+64<cLine):OpR X (compareOp .In) (lo2 K WL.oIn):=by
 subst hK;refine OpR.imp acI fun x y H Q⟨F,wx,wy,s,rx,ry,q⟩=>?_;cases wy<;>simp only[WL.oIn]at q<;>first|exact q.elim|skip
 all_goals
 rename_i ys;by_cases h:(WL.okD 50 wx&&WL.bH 51 ys)=true;·rw[if_pos h]at q;rw[Bool.and_eq_true]at h;have hy:=RW.isD 51 _ y (show WL.okD 51 _=true by simpa only[WL.okD]using h.2) (ry.keep s);simp only[toD]at hy;refine⟨50,_,cJ ys,RW.isD 50 wx x h.1 (rx.keep s),by first|exact .inl hy|exact .inr hy,by omega,?_⟩;rw[oM h.1 h.2];exact eq1 q (by simp[RW])
 ·rw[if_neg h]at q;exact q.elim
theorem iK(hK:X.K=K)(hu:X.A.units+64<cLine):OpR X (compareOp .NotIn) (lo2 K WL.d7):=by
 subst hK;refine OpR.imp tX fun x y H Q⟨F,wx,wy,s,rx,ry,q⟩=>?_;cases wy<;>simp only[WL.d7]at q<;>first|exact q.elim|skip
 all_goals
 rename_i ys;by_cases h:(WL.okD 50 wx&&WL.bH 51 ys)=true;·rw[if_pos h]at q;rw[Bool.and_eq_true]at h;have hy:=RW.isD 51 _ y (show WL.okD 51 _=true by simpa only[WL.okD]using h.2) (ry.keep s);simp only[toD]at hy;refine⟨50,_,cJ ys,RW.isD 50 wx x h.1 (rx.keep s),by first|exact .inl hy|exact .inr hy,by omega,?_⟩;rw[oM h.1 h.2];exact eq1 q (by simp[RW])
 ·rw[if_neg h]at q;exact q.elim
theorem w6{F:Hp}{w:VW}{v:V}(r:RW K F w v):decide (v=V.non)=WL.mr w:=by cases w<;>simp only[RW]at r;all_goals first|(subst r;rfl)|(obtain⟨a,vs,rfl,_⟩:=r;rfl)|(obtain⟨a,rfl,_⟩:=r;rfl)|(obtain⟨a,C,dx,rfl,_⟩:=r;rfl)|(obtain⟨a,C,dx,l,rfl,_⟩:=r;rfl)
theorem acH:OpR X (compareOp .Is) (fun x y H Q=>∃b,y=.bl b/\Q (.bl (decide (x=.bl b))) H):=by
 intro pins s σ H x y v u Q I rx ry h;obtain⟨b,rfl,q⟩:=h;cases ry;refine wpAny_is_plain ?_ (aG I q ?_);·cases x<;>first|(cases rx;rfl)|(obtain⟨t,rfl⟩:=rx;rfl)
 ·cases x with|bl c=>cases rx;cases b<;>cases c<;>rfl|_=>first|(cases rx;cases b<;>rfl)|(obtain⟨t,rfl⟩:=rx;cases b<;>rfl)
theorem adE{F:Hp}{w:VW}{v:V}{b:Bool}(r:RW K F w v):decide (v=V.bl b)=WL.isB b w:=by cases w<;>simp only[RW]at r;all_goals first|(subst r;cases b<;>first|rfl|(rename_i c;cases c<;>rfl))|(obtain⟨a,vs,rfl,_⟩:=r;cases b<;>rfl)|(obtain⟨a,rfl,_⟩:=r;cases b<;>rfl)|(obtain⟨a,C,dx,rfl,_⟩:=r;cases b<;>rfl)|(obtain⟨a,C,dx,l,rfl,_⟩:=r;cases b<;>rfl)
theorem vk:Calm WL.oIs:=fun x y c h=>by cases y<;>simp[WL.oIs]at h
theorem w_is:OpR X (compareOp .Is) (lo2 K WL.oIs):=by
 refine OpR.imp (acG.or acH) fun x y H Q⟨F,wx,wy,s,rx,ry,q⟩=>?_;cases wy<;>simp only[WL.oIs]at q<;>first|exact q.elim|skip
 ·simp only[RW]at ry;exact .inl ⟨ry,eq1 q (by simp[RW,w6 rx])⟩
 ·simp only[RW]at ry;exact .inr ⟨_,ry,eq1 q (by simp[RW,adE rx])⟩
theorem aea{F:Hp}{ws:List VW}{vs:List V}{i:Int}{w:VW}(r:RWs K F ws vs)(h:WL.atI ws i=some w):∃v,L2.atI vs i=some v/\RW K F w v:=by unfold WL.atI at h;cases e:WL.ixN ws.length i with|none=>rw[e]at h;cases h|some j=>rw[e]at h;obtain⟨v,h1,h2⟩:=r.get h;refine⟨v,?_,h2⟩;unfold L2.atI;rw[<-r.length,show L2.ixN ws.length i=some j from e];exact h1
theorem oE:Calm WL.oIx:=fun x y c h=>by
 cases x<;>cases y<;>simp only[WL.oIx]at h<;>first|(cases h;done)|skip
 all_goals revert h;first|(cases WL.atI _ _<;>simp[WL.ofO];done)|(cases WL.nc _ _ _<;>simp[WL.ofO];done)
theorem uZ{F:Hp}(k:Str)(w:VW):∀{kvs:List (Key×V)}{ks vs:List VW},RWs K F ks (kvs.map fun p=>kV p.1)->RWs K F vs (kvs.map fun p=>p.2)->WL.nc k ks vs=some w->∃v,vw kvs (Sum.inr k)=some v/\RW K F w v
|[],ks,vs,r1,r2,e=>by cases ks with|nil=>simp[WL.nc]at e|cons x ks=>simp[RWs]at r1
|p::kvs,ks,vs,r1,r2,e=>by cases ks with|nil=>simp[WL.nc]at e|cons x ks=>cases vs with
 |nil=>simp only[WL.nc]at e;cases x<;>cases e
 |cons y vs=>simp only[List.map_cons,RWs]at r1 r2;obtain⟨v1,t1,e1,q1,s1⟩:=r1;obtain⟨v2,t2,e2,q2,s2⟩:=r2;cases e1;cases e2;cases x with|str x=>
     simp only[RW]at q1;have hp:p.1=Sum.inr x:=by cases hp:p.1 with|inl i=>rw[hp]at q1;cases i<;>exact absurd q1 (by simp[kV])|inr z=>rw[hp]at q1;simp only[kV]at q1;cases q1;rfl
     simp only[WL.nc]at e;by_cases h:x=k;·subst h;simp at e;subst e;exact⟨p.2,iz hp,q2⟩
     ·have h':(x==k)=false:=by simpa using h
      rw[h']at e;obtain⟨v,h1,h2⟩:=uZ k w s1 s2 (by simpa using e);exact⟨v,by rw[iA (fun z=>h (by rw[hp]at z;exact Sum.inr.inj z))];exact h1,h2⟩|_=>simp[WL.nc]at e
theorem ahI(hK:X.K=K):IxR X (lo2 K WL.oIx):=by
 subst hK;refine IxR.imp ((ix_list.or ix_tup).or aat) fun x y H Q⟨F,wx,wy,s,rx,ry,q⟩=>?_;cases wx<;>cases wy<;>simp only[WL.oIx]at q<;>first|exact q.elim|skip
 case dic.str ks vs k=>simp only[RW]at rx ry;obtain⟨a,kvs,rfl,qa,r1,r2⟩:=rx;cases e:WL.nc k ks vs with|none=>rw[e]at q;exact q.elim|some w=>rw[e]at q;obtain⟨v,h1,h2⟩:=uZ k w r1 r2 e;exact .inr ⟨a,kvs,Sum.inr k,v,rfl,ry,s.rd qa,h1,eq1 q h2⟩
 all_goals rename_i xs i;simp only[RW]at rx ry;obtain⟨a,vs,rfl,qa,ra⟩:=rx;cases e:WL.atI xs i with|none=>rw[e]at q;exact q.elim|some w=>rw[e]at q;obtain⟨v,h1,h2⟩:=aea ra e;first|exact .inl (.inl ⟨a,vs,i,v,rfl,ry,s.seq qa,h1,eq1 q h2⟩)|exact .inl (.inr ⟨a,vs,i,v,rfl,ry,s.tup qa,h1,eq1 q h2⟩)
theorem w_sl(hK:X.K=K):SlR X (aii K):=by
 subst hK;have e0:WL.sIx=HT.sIx:=by funext n d o;cases o<;>rfl
 refine SlR.imp (zi.or abN) fun x lo hi H Q⟨F,wx,s,rx,q⟩=>?_;cases wx<;>simp only[WL.oSl]at q<;>first|exact q.elim|skip
 ·rename_i xs;simp only[RW]at rx;obtain⟨a,vs,rfl,qa,ra⟩:=rx;have hl:=ra.length;split at q;·exact q.elim
  ·rename_i hw;rw[e0,hl]at hw;exact .inr ⟨a,vs,rfl,s.tup qa,hw,fun p hp=>ae4 s q (ra.cut lo hi) hp⟩
 ·rename_i xs;simp only[RW]at rx;obtain⟨a,vs,rfl,qa,ra⟩:=rx;exact .inl ⟨a,vs,rfl,s.seq qa,fun p hp=>aa7 s q (ra.cut lo hi) hp⟩
theorem b6{F:Hp}{w:VW}{xs:List V}(r:RWs K F [w] xs):∃v,xs=[v]/\RW K F w v:=by simp only[RWs]at r;obtain⟨v,t,rfl,h,rfl⟩:=r;exact⟨v,rfl,h⟩
theorem two_of{F:Hp}{w w':VW}{xs:List V}(r:RWs K F [w,w'] xs):∃v v',xs=[v,v']/\RW K F w v/\RW K F w' v':=by simp only[RWs]at r;obtain⟨v,t,rfl,h,v',t',rfl,h',rfl⟩:=r;exact⟨v,v',rfl,h,h'⟩
theorem cU(hK:X.K=K):bz X (.builtin "len") (loN K WL.cx):=by subst hK;refine bz.imp mW fun xs H Q⟨F,ws,s,r,q⟩=>?_;match ws,r,q with|[.lst ys],r,q=>obtain⟨v,rfl,h⟩:=b6 r;simp only[RW]at h;obtain⟨a,vs,rfl,qa,ra⟩:=h;exact⟨a,vs,rfl,.inl (s.seq qa),eq1 q (by simp[RW,ra.length])⟩|[.tup ys],r,q=>obtain⟨v,rfl,h⟩:=b6 r;simp only[RW]at h;obtain⟨a,vs,rfl,qa,ra⟩:=h;exact⟨a,vs,rfl,.inr (s.tup qa),eq1 q (by simp[RW,ra.length])⟩|[],_,q=>exact q.elim|[.non],_,q=>exact q.elim|[.bl _],_,q=>exact q.elim|[.int _],_,q=>exact q.elim|[.str _],_,q=>exact q.elim|[.ty _],_,q=>exact q.elim|[.dic _ _],_,q=>exact q.elim|[.cls _],_,q=>exact q.elim|[.exc _ _],_,q=>exact q.elim|[.ins _ _],_,q=>exact q.elim|_::_::_,_,q=>exact absurd q (by simp[WL.cx,Eq1])
theorem sj(hK:X.K=K):bz X (.type "tuple") (loN K WL.ij):=by subst hK;refine bz.imp kP fun xs H Q⟨F,ws,s,r,q⟩=>?_;match ws,r,q with|[.lst ys],r,q=>obtain⟨v,rfl,h⟩:=b6 r;simp only[RW]at h;obtain⟨a,vs,rfl,qa,ra⟩:=h;exact⟨a,vs,rfl,.inl ⟨s.seq qa,fun l hl=>ae4 s q ra hl⟩⟩|[.tup ys],r,q=>obtain⟨v,rfl,h⟩:=b6 r;have h':=h;simp only[RW]at h;obtain⟨a,vs,rfl,qa,ra⟩:=h;exact⟨a,vs,rfl,.inr ⟨s.tup qa,eq1 q h'⟩⟩|[],_,q=>exact q.elim|[.non],_,q=>exact q.elim|[.bl _],_,q=>exact q.elim|[.int _],_,q=>exact q.elim|[.str _],_,q=>exact q.elim|[.ty _],_,q=>exact q.elim|[.dic _ _],_,q=>exact q.elim|[.cls _],_,q=>exact q.elim|[.exc _ _],_,q=>exact q.elim|[.ins _ _],_,q=>exact q.elim|_::_::_,_,q=>exact absurd q (by simp[WL.ij,Eq1])
noncomputable def aiM:VW->Value|.non=>.type "NoneType"|.bl _=>.type "bool"|.int _=>.type "int"|.str _=>.type "str"|.ty _=>.type "type"|.tup _=>.type "tuple"|.lst _=>.type "list"|.dic _ _=>.type "dict"|.cls _=>.type "type"|.exc _ _=>.none|.ins _ _=>.none
theorem adm{w:VW}{t:String}{b:Bool}(h:WL.isK w t=some b):W.kitOne K (aiM w) (.type t)=some b:=by
 have ht:t="int"\/t="bool"\/t="str"\/t="list"\/t="tuple":=by
  cases w<;>simp only[WL.isK]at h<;>first|(cases h;done)|skip
  all_goals
  split at h;·rename_i hc;simpa using hc
  ·cases h
 cases w<;>rcases ht with rfl|rfl|rfl|rfl|rfl<;>first|(simp[WL.isK]at h;done)|(simp[WL.isK,WL.dU]at h;subst h;rfl)
theorem ac3{F H:Hp}{a:Addr}{vs:List V}(s:Same F H)(h:SqL K F a vs):(TyOf K H (.ref a) (.type "list"))\/∃o its n,K.lookup a=some o/\o.cls=.type "list"/\o.dict=none/\o.data=.seq its n:=by
 rcases h with(h|⟨o,h⟩)|⟨o,its,n,h1,h2,h3,h4,_⟩;·exact .inl (.lst (s _ _ h))
 ·exact .inl (.frz (s _ _ h))
 ·exact .inr ⟨o,its,n,h1,h2,h3,h4⟩
theorem mX:bz X (.builtin "isinstance") (fun xs H Q=>∃a o T b,xs=[.ref a,.ty T]/\X.K.lookup a=some o/\o.cls=.type "list"/\W.kitOne X.K (.type "list") (.type T)=some b/\Q (.bl b) H):=by intro pins s σ H xs us Q I r h;obtain⟨a,o,T,b,rfl,hk,hc,e,q⟩:=h;obtain⟨u,w',rfl,rx,ry⟩:=vals2 r;cases(show w'=Value.type T from ry);cases(show u=Value.ref a from rx);exact W.kia_one W.kitx_list I.kIn ⟨o,I.kIn a o hk,hc⟩ e (fun z=>nomatch z) fun tk=>⟨.bl b,H,I.tok tk,rfl,q⟩
theorem fJ(hK:X.K=K):bz X (.builtin "isinstance") (loN K WL.bx):=by subst hK;refine bz.imp (oF.or mX) fun xs H Q⟨F,ws,s,r,q⟩=>?_;cases e:WL.bx ws with|bad=>rw[e]at q;exact q.elim|ex c=>rw[e]at q;exact q.elim|ok w=>
  rw[e]at q;unfold WL.bx at e;split at e
  ·rename_i x t;split at e;·rename_i b hb;cases e;obtain⟨v,v',rfl,h,h'⟩:=two_of r;simp only[RW]at h';subst h';have hk:=adm (K:=X.K) hb;have fin:Q (.bl b) H:=eq1 q (by simp[RW]);cases x with|non=>simp only[RW]at h;subst h;exact .inl ⟨_,t,_,b,rfl,.inl .non,hk,fin⟩|bl k=>simp only[RW]at h;subst h;exact .inl ⟨_,t,_,b,rfl,.inl (.bl k),hk,fin⟩|int k=>simp only[RW]at h;subst h;exact .inl ⟨_,t,_,b,rfl,.inl (.int k),hk,fin⟩|str k=>simp only[RW]at h;subst h;exact .inl ⟨_,t,_,b,rfl,.inl (.str k),hk,fin⟩|ty k=>simp[WL.isK]at hb|dic _ _=>simp[WL.isK]at hb|cls _=>simp[WL.isK]at hb|exc _ _=>simp[WL.isK]at hb|ins _ _=>simp[WL.isK]at hb|tup ys=>simp only[RW]at h;obtain⟨a,vs,rfl,qa,ra⟩:=h;exact .inl ⟨_,t,_,b,rfl,.inr ⟨a,vs,rfl,rfl,s.tup qa⟩,hk,fin⟩|lst ys=>
     simp only[RW]at h;obtain⟨a,vs,rfl,qa,ra⟩:=h;rcases ac3 s qa with ty|⟨o,its,n,h1,h2,h3,h4⟩;·exact .inl ⟨_,t,_,b,rfl,.inl ty,hk,fin⟩
     ·exact .inr ⟨a,o,t,b,rfl,h1,h2,hk,fin⟩
   ·cases e
  ·cases e
theorem o9:∀xs:List VW,cJ xs=xs.map toD|[]=>rfl|x::xs=>by simp only[cJ,List.map_cons,o9 xs]
theorem aC:∀xs c,WL.cx xs≠.ex c:=fun xs c h=>by unfold WL.cx at h;split at h<;>cases h
theorem ka:∀xs c,WL.ij xs≠.ex c:=fun xs c h=>by unfold WL.ij at h;split at h<;>cases h
theorem cQ:∀xs c,WL.bx xs≠.ex c:=fun xs c h=>by
 unfold WL.bx at h;split at h;·split at h<;>cases h
 ·cases h
end
end WS
namespace WS
open PySem PySem.Spec PyProof.Rows L2
open WL(Res Sl Ws EF TF AF LF GF GsF SF Out)
structure Walk(K:W.Frag)(J:It)(xs:List VW)(F:Hp):Prop where
 go:∀(i:Nat)(x:VW),xs[i]?=some x->∀F1 H1:Hp,Same F F1->Same F1 H1->J.go i H1/\∀v H2,J.yld i H1 v H2->∃F2,Ext F1 H1 F2 H2/\RW K F2 x v
 stop:∀F1 H1:Hp,Same F F1->Same F1 H1->J.stop xs.length H1
noncomputable def loI(B:Bx)(it:LF):TI:=fun σV H R=>∃σ F,RS B σ σV F H/\Rq B σ F (it σ) fun xs=>∀J H' F',RS B σ σV F' H'->Gr F H F' H'->Walk B.K J xs F'->R J H'
theorem si{K:W.Frag}{a:Addr}{xs:List VW}{vs:List V}{F:Hp}(h:SqL K F a vs)(r:RWs K F xs vs):Walk K (Itl K a) xs F:=by refine⟨fun i x e F1 H1 s1 s2=>?_,fun F1 H1 s1 s2=>⟨vs,s2.seq (s1.seq h),by rw[r.length];exact Nat.le_refl _⟩⟩;obtain⟨v,e1,r1⟩:=r.get e;refine⟨⟨vs,v,s2.seq (s1.seq h),e1⟩,fun u H2⟨e2,y⟩=>?_⟩;subst e2;have:=y vs (s2.seq (s1.seq h));rw[e1]at this;cases this;exact⟨F1,Ext.refl _ _,r1.keep s1⟩
theorem vJ{K:W.Frag}{a:Addr}{xs:List VW}{vs:List V}{F:Hp}(h:SqT K F a vs)(r:RWs K F xs vs):Walk K (Itt K a) xs F:=by refine⟨fun i x e F1 H1 s1 s2=>?_,fun F1 H1 s1 s2=>⟨vs,s2.tup (s1.tup h),by rw[r.length];exact Nat.le_refl _⟩⟩;obtain⟨v,e1,r1⟩:=r.get e;refine⟨⟨vs,v,s2.tup (s1.tup h),e1⟩,fun u H2⟨e2,y⟩=>?_⟩;subst e2;have:=y vs (s2.tup (s1.tup h));rw[e1]at this;cases this;exact⟨F1,Ext.refl _ _,r1.keep s1⟩
theorem tx(lo:Int)(n:Nat):(WL.rng lo n).length=n:=by simp[WL.rng]
theorem oX{K:W.Frag}{lo:Int}{n:Nat}{F:Hp}:Walk K (Itr lo n) (WL.rng lo n) F:=by
 refine⟨fun i x e F1 H1 s1 s2=>?_,fun F1 H1 s1 s2=>by rw[tx];exact Nat.le_refl n⟩;have hi:i<n:=by have:=(List.getElem?_eq_some_iff.mp e).1;rwa[tx]at this
 refine⟨hi,fun v H2⟨e2,y⟩=>?_⟩;subst e2 y;refine⟨F1,Ext.refl _ _,?_⟩;simp only[WL.rng,List.getElem?_map,List.getElem?_range hi]at e;have e:=Option.some.inj e;subst e;simp[RW]
section
variable{X:Cx}{B:Bx}{e tg iter:Expr}{pos:Pos}{ta tb:EF}{it:LF}{g:GF}{b:SF}
noncomputable def tSq(K:W.Frag)(tl:TE):TI:=fun σ H R=>tl σ H fun x H1=>∃a,x=.ref a/\(((∃xs,SqL K H1 a xs)/\R (Itl K a) H1)\/((∃xs,SqT K H1 a xs)/\R (Itt K a) H1))
theorem zE{pins:List (Addr×Obj)}{σ:L2.St}{H1:Hp}{R:It->Hp->Prop}{s1:Shared}{x:V}{v:Value}(I1:Inv X pins σ H1 s1)(r1:RelV x v)(q:∃a,x=.ref a/\(((∃xs,SqL X.K H1 a xs)/\R (Itl X.K a) H1)\/((∃xs,SqT X.K H1 a xs)/\R (Itt X.K a) H1))):wpAny (model X.prog X.w) X.A (pyIter v) (PIE X pins σ tg R) X.xe s1:=by
 obtain⟨a,e,q1⟩:=q;subst e;cases r1;have fp:∀b∈[s1.heap.objs.size],vq X pins H1 b:=fun b hb=>by
  have e:b=s1.heap.objs.size:=by simpa using hb
  subst e;exact I1.adP (Nat.le_refl _) (I1.hok.fresh (Nat.le_refl _))
 rcases q1 with⟨⟨xs,hq⟩,q⟩|⟨⟨xs,hq⟩,q⟩;·obtain⟨its,rv,p,hz⟩:=I1.list hq;exact wpAny_pyIter_list p.isList ⟨s1.heap.objs.size,[s1.heap.objs.size],_,_,H1,rfl,I1.kept (t':=s1.toks) fun b o e=>Heap.get?_push_of_some _ e,sG a _,⟨_,Heap.get?_push_size _ rfl,rfl,rfl⟩,fp,q⟩
 ·obtain⟨its,rv,p,hz⟩:=I1.tuple hq;exact wpAny_pyIter_tuple (show s1.heap.IsTuple a its.toArray from p) ⟨s1.heap.objs.size,[s1.heap.objs.size],_,_,H1,rfl,I1.kept (t':=s1.toks) fun b o e=>Heap.get?_push_of_some _ e,qA a _,⟨_,Heap.get?_push_size _ rfl,rfl,rfl⟩,fp,q⟩
theorem acp{l:Expr}{tl:TE}(hl:PE X l tl):PI X tg l (tSq X.K tl):=fun pins s σ H R I h=>thn (hl pins s σ H _ I h) fun v s1⟨x,H1,I1,r1,q⟩=>zE I1 r1 q
theorem aae{K:W.Frag}(hK:K=B.K):∀σV H R,loI B (WL.xb ta) σV H R->tSq K (lo B ta) σV H R:=fun σV H R⟨σ,F,R0,q⟩=>by have q:=Rq.bind q;refine⟨σ,F,R0,Rq.mono (Same.refl _) q fun x qx v H1 F1 R1 g1 r1=>?_⟩;cases x with|lst xs=>simp only[RW]at r1;obtain⟨a,vs,rfl,qa,ra⟩:=r1;refine⟨a,rfl,.inl ⟨⟨vs,by rw[hK];exact R1.rb.sub.seq qa⟩,?_⟩⟩;rw[hK];exact(show∀J H' F',_ from qx) _ H1 F1 R1 g1 (si qa ra)|tup xs=>simp only[RW]at r1;obtain⟨a,vs,rfl,qa,ra⟩:=r1;refine⟨a,rfl,.inr ⟨⟨vs,by rw[hK];exact R1.rb.sub.tup qa⟩,?_⟩⟩;rw[hK];exact(show∀J H' F',_ from qx) _ H1 F1 R1 g1 (vJ qa ra)|_=>exact(show False from qx).elim
theorem kX(hK:X.K=B.K)(h:PE X e (lo B ta)):PI X tg e (loI B (WL.xb ta)):=PI.imp (acp h) (aae hK)
theorem yQ{a:Expr}{p pos:Pos}(hg:Gl X "range")(hm:X.mg "range"=none)(h:PE X a (lo B ta))(hs:starEach [a] X.env=[(false,eval a X.env)]:=by rfl)(hs':starEach [a] X.env=(false,eval a X.env)::starEach [] X.env:=by rfl):PI X tg (.Call (.Name "range" p) [a] [] pos) (loI B (WL.n4 ta)):=PI.imp (lS hg hm (wa_cons h wa_nil hs') hs) fun σV H R⟨σ,F,R0,q⟩=>by
 have q:=Rq.bind q;have q':Rq B σ F (WL.aa ta WL.aj σ) fun ws=>∀vs H' F',RS B σ σV F' H'->Gr F H F' H'->RWs B.K F' ws vs->∃j:Int,vs=[.int j]/\-(2^62)<=j/\j<2^62/\R (Itr 0 j.toNat) H':=by show Rq B σ F ((ta σ).bind fun x=>.ok [x]) _;cases e:ta σ with
 |ok x=>
   rw[e]at q;intro vs H1 F1 R1 g1 r1;obtain⟨v,rfl,r3⟩:=b6 r1
   cases x with|int j=>
    simp only[RW]at r3;subst r3;have q:Rq B σ F (if -(2^62)<=j/\j<2^62 then .ok (WL.rng 0 j.toNat)else .bad) _:=q;by_cases hj:-(2^62)<=j/\j<2^62;·rw[if_pos hj]at q;exact⟨j,rfl,hj.1,hj.2,q _ H1 F1 R1 g1 oX⟩
    ·rw[if_neg hj]at q;exact q.elim|_=>exact(show False from q).elim
 |ex c=>rw[e]at q;exact q|bad=>rw[e]at q;exact q
 exact⟨σ,F,R0,q'⟩
theorem se{a c:Expr}{p pos:Pos}(hg:Gl X "range")(hm:X.mg "range"=none)(h:PE X a (lo B ta))(h':PE X c (lo B tb))(hs:starEach [a,c] X.env=[(false,eval a X.env),(false,eval c X.env)]:=by rfl)(hs2:starEach [c] X.env=[(false,eval c X.env)]:=by rfl)(hs':starEach [a,c] X.env=(false,eval a X.env)::starEach [c] X.env:=by rfl)(hs'':starEach [c] X.env=(false,eval c X.env)::starEach [] X.env:=by rfl):PI X tg (.Call (.Name "range" p) [a,c] [] pos) (loI B (WL.nZ ta tb)):=PI.imp (tQ hg hm (wa_cons h (wa_cons h' wa_nil hs'') hs') hs hs2) fun σV H R⟨σ,F,R0,q⟩=>by
 have q:=Rq.bind q;have q':Rq B σ F (WL.aa ta (WL.aa tb WL.aj) σ) fun ws=>∀vs H' F',RS B σ σV F' H'->Gr F H F' H'->RWs B.K F' ws vs->∃i j:Int,vs=[.int i,.int j]/\(-(2^62)<=i/\i<2^62/\-(2^62)<=j/\j<2^62)/\R (Itr i (j-i).toNat) H':=by show Rq B σ F ((ta σ).bind fun x=>((tb σ).bind fun y=>(Res.ok []).bind fun ys=>.ok (y::ys)).bind fun xs=>.ok (x::xs)) _;cases e:ta σ with
 |ok x=>rw[e]at q;have q:=Rq.bind q;show Rq B σ F (((tb σ).bind fun y=>(Res.ok []).bind fun ys=>.ok (y::ys)).bind fun xs=>.ok (x::xs)) _;cases e':tb σ with
  |ok y=>rw[e']at q;intro vs H1 F1 R1 g1 r1;obtain⟨v,v',rfl,r3,r2⟩:=two_of r1;cases x with
   |int i=>cases y with|int j=>
      simp only[RW]at r3 r2;subst r3 r2;have q:Rq B σ F (if -(2^62)<=i/\i<2^62/\-(2^62)<=j/\j<2^62 then .ok (WL.rng i (j-i).toNat)else .bad) _:=q;by_cases hj:-(2^62)<=i/\i<2^62/\-(2^62)<=j/\j<2^62;·rw[if_pos hj]at q;exact⟨i,j,rfl,hj,q _ H1 F1 R1 g1 oX⟩
      ·rw[if_neg hj]at q;exact q.elim|_=>exact(show False from q).elim
   |_=>exact(show False from q).elim
  |ex c=>rw[e']at q;exact q|bad=>rw[e']at q;exact q
 |ex c=>rw[e]at q;exact q|bad=>rw[e]at q;exact q
 exact⟨σ,F,R0,q'⟩
variable{m:Bool}{es:List Expr}{gs:GsF}
theorem yS{i:Nat}(h:PG X e (L2.ay i)):PG X e (loG m B (WL.ay i)):=PG.imp h fun v σV H Q⟨σ,F,w,R,r,q⟩=>(show∀σV' H' F',_ from q) _ H F (R.set r) Gm.refl
theorem yR:PGs X [] (aeO m B WL.uP):=PGs.imp nB fun vs σV H Q⟨σ,F,ws,R,r,q⟩=>by cases ws with|nil=>simp only[RWs]at r;exact⟨r,(show∀σV' H' F',_ from q) _ H F R Gm.refl⟩|cons w ws=>exact(show False from q).elim
theorem oW(h1:PG X e (loG m B g))(h2:PGs X es (aeO m B gs))(hs:(assignEach (e::es) X.env).map (·.2)=assign e X.env::(assignEach es X.env).map (·.2):=by rfl):PGs X (e::es) (aeO m B (WL.dW g gs)):=PGs.imp (fY h1 h2 hs) fun vs σV H Q⟨σ,F,ws,R,r,q⟩=>by cases ws with|nil=>exact(show False from q).elim|cons w ws=>simp only[RWs]at r;obtain⟨v,t,rfl,r,rt⟩:=r;refine⟨v,t,rfl,σ,F,w,R,r,?_⟩;have q:Rq B σ F (match g w σ with|.ok σ'=>(match gs ws σ' with|.ok σ2=>.ok σ2|_=>.bad)|_=>.bad) _:=q;cases e':g w σ with|bad=>rw[e']at q;exact q|ex c=>rw[e']at q;exact q.elim|ok σ1=>rw[e']at q;intro σV1 H1 F1 R1 g1;have q:Rq B σ F (match gs ws σ1 with|.ok σ2=>.ok σ2|_=>.bad) _:=q;refine⟨σ1,F1,ws,R1,rt.keep g1.f,?_⟩;cases e2:gs ws σ1 with|bad=>rw[e2]at q;exact q|ok σ2=>rw[e2]at q;exact fun σV2 H2 F2 R2 g2=>q σV2 H2 F2 R2 (g1.trans g2)|ex c=>rw[e2]at q;exact q.elim
theorem abo{k:Nat}{n:Nat}(hK:X.K=B.K)(hc:X.calm=true)(h:PGs X es (aeO m B gs))(hn:(assignEach es X.env).length=n)(hl:∀ws σ σ',gs ws σ=.ok σ'->ws.length=n)(hx:∀ws σ c,gs ws σ≠.ex c)(hst:(assignEach es X.env).findIdx? (·.1)=none:=by rfl):PG X (.Tuple es k pos) (loG m B (WL.vy gs)):=PG.imp (yb (n:=n) hc h hn hst) fun v σV H Q⟨σ,F,w,R,r,q⟩=>by cases w with
|tup ws=>simp only[RW]at r;obtain⟨a,vs,rfl,qa,ra⟩:=r;have q:Rq B σ F (gs ws σ) _:=q;refine⟨a,vs,rfl,by rw[hK];exact R.rb.sub.tup qa,?_,σ,F,ws,R,ra,q⟩;cases e':gs ws σ with|ok σ'=>rw[<-ra.length];exact hl _ _ _ e'|ex c=>exact(hx _ _ _ e').elim|bad=>rw[e']at q;exact q.elim
|_=>exact(show False from q).elim
theorem adL:∀ws σ σ',WL.uP ws σ=.ok σ'->ws.length=0:=fun ws σ σ' h=>by cases ws<;>simp[WL.uP]at h;rfl
theorem uO{n:Nat}(h:∀ws σ σ',gs ws σ=.ok σ'->ws.length=n):∀ws σ σ',WL.dW g gs ws σ=.ok σ'->ws.length=n+1:=fun ws σ σ' q=>by cases ws with|nil=>simp[WL.dW]at q|cons w ws=>have q:(match g w σ with|.ok σ'=>(match gs ws σ' with|.ok σ2=>Res.ok σ2|_=>.bad)|_=>.bad)=.ok σ':=q;cases e1:g w σ with
 |ok σ1=>rw[e1]at q;have q:(match gs ws σ1 with|.ok σ2=>Res.ok σ2|_=>.bad)=.ok σ':=q;cases e2:gs ws σ1 with|ok σ2=>simp[h _ _ _ e2]|ex c=>rw[e2]at q;cases q|bad=>rw[e2]at q;cases q
 |ex c=>rw[e1]at q;cases q|bad=>rw[e1]at q;cases q
theorem uN:∀ws σ c,WL.dW g gs ws σ≠.ex c:=fun ws σ c q=>by cases ws with|nil=>simp[WL.dW]at q|cons w ws=>have q:(match g w σ with|.ok σ'=>(match gs ws σ' with|.ok σ2=>Res.ok σ2|_=>.bad)|_=>.bad)=.ex c:=q;cases e1:g w σ with|ok σ1=>rw[e1]at q;have q:(match gs ws σ1 with|.ok σ2=>Res.ok σ2|_=>.bad)=.ex c:=q;cases e2:gs ws σ1<;>rw[e2]at q<;>cases q|ex c=>rw[e1]at q;cases q|bad=>rw[e1]at q;cases q
theorem adK(h:∀ws σ c,gs ws σ≠.ex c):∀w σ c,WL.vy gs w σ≠.ex c:=fun w σ c q=>by cases w<;>simp only[WL.vy]at q<;>first|(cases q;done)|exact h _ _ _ q
noncomputable abbrev Bx.calm(B:Bx):Bx:=⟨B.K,B.H0,B.F0,fun _ _ _=>False,fun _ _ _ _ _ h=>h⟩
theorem RS.abz{σ:Ws}{σV:L2.St}{F H:Hp}(R:RS B σ σV F H):RS B.calm σ σV F H:=⟨⟨R.rb.sub,R.rb.base,R.rb.fz0,R.rb.fr⟩,R.len,R.va,R.ow,R.ap,R.dd⟩
theorem RB.acP{F H:Hp}(R:RB B.calm F H):RB B F H:=⟨R.sub,R.base,R.fz0,R.fr⟩
theorem RS.ahead{σ:Ws}{σV:L2.St}{F H:Hp}(R:RS B σ σV F H)(k:Nat):RS B (List.replicate k .no++σ) (List.replicate k none++σV) F H:=by
 have at':∀{i:Nat}{sl:Sl},(List.replicate k Sl.no++σ)[i]?=some sl->sl≠.no->k<=i/\σ[i-k]?=some sl:=fun{i sl}e ne=>by
  by_cases hi:i<k;·rw[List.getElem?_append_left (by simpa using hi)]at e;rw[List.getElem?_replicate,if_pos hi]at e;exact absurd (Option.some.inj e).symm ne
  ·rw[List.getElem?_append_right (by simp;omega)]at e;simp only[List.length_replicate]at e;exact⟨by omega,e⟩
 have up:∀{i:Nat}{x:Option V},k<=i->σV[i-k]?=some x->(List.replicate k none++σV)[i]?=some x:=fun{i x}hi e=>by rw[List.getElem?_append_right (by simp;omega)];simpa using e
 have dn:∀{i:Nat}{x:Option V},k<=i->(List.replicate k none++σV)[i]?=some x->σV[i-k]?=some x:=fun{i x}hi e=>by rw[List.getElem?_append_right (by simp;omega)]at e;simpa using e
 refine⟨R.rb,by simp[R.len],fun i w e=>?_,fun i ws e=>?_,fun i j ws ws' a hne e1 e2 f1 f2=>?_,fun i ks us e=>?_,fun i j ks us ks' us' a hne e1 e2 f1 f2=>?_,fun i e=>?_⟩;rotate_left 3;·obtain⟨hi,e⟩:=at' e (by intro z;cases z);obtain⟨a,kvs,h1,h2⟩:=R.dd.od _ ks us e;exact⟨a,kvs,up hi h1,h2⟩
 ·obtain⟨hi,e1⟩:=at' e1 (by intro z;cases z);obtain⟨hj,e2⟩:=at' e2 (by intro z;cases z);exact R.dd.ad _ _ ks us ks' us' a (by omega) e1 e2 (dn hi f1) (dn hj f2)
 ·obtain⟨hi,e⟩:=at' e (by intro z;cases z);obtain⟨a,C,dx,h1,h2⟩:=R.dd.ob _ e;exact⟨a,C,dx,up hi h1,h2⟩
 ·obtain⟨hi,e⟩:=at' e (by intro z;cases z);obtain⟨v,h1,h2⟩:=R.va _ w e;exact⟨v,up hi h1,h2⟩
 ·obtain⟨hi,e⟩:=at' e (by intro z;cases z);obtain⟨a,vs,h1,h2⟩:=R.ow _ ws e;exact⟨a,vs,up hi h1,h2⟩
 ·obtain⟨hi,e1⟩:=at' e1 (by intro z;cases z);obtain⟨hj,e2⟩:=at' e2 (by intro z;cases z);exact R.ap _ _ ws ws' a (by omega) e1 e2 (dn hi f1) (dn hj f2)
theorem RS.forget{σ σ':Ws}{σV:L2.St}{F H:Hp}(R:RS B σ σV F H)(hl:σ'.length=σ.length)(h:∀(i:Nat)(sl:Sl),σ'[i]?=some sl->sl≠.no->σ[i]?=some sl):RS B σ' σV F H:=⟨R.rb,by rw[hl];exact R.len,fun i w e=>R.va i w (h i _ e (by intro z;cases z)),fun i ws e=>R.ow i ws (h i _ e (by intro z;cases z)),fun i j ws ws' a hne e1 e2=>R.ap i j ws ws' a hne (h i _ e1 (by intro z;cases z)) (h j _ e2 (by intro z;cases z)),R.dd.via rfl id (fun _ _ z=>.inl z) (fun i sl hs e=>⟨h i _ e (by intro z;subst z;exact hs),rfl⟩) (Same.refl _) fun _ _ _ a kvs _ _ q1 q2 q3=>⟨q2,q3,q1⟩⟩
noncomputable def Keeps(k:Nat)(g:GF):Prop:=∀w σ σ',g w σ=.ok σ'->σ'.length=σ.length/\∀j:Nat,k<=j->σ'[j]?=σ[j]?
theorem cG{k i:Nat}(h:i<k):Keeps k (WL.ay i):=fun w σ σ' e=>by simp only[WL.ay]at e;cases e;exact⟨by simp,fun j hj=>by rw[List.getElem?_set_ne (by omega)]⟩
end
end WS
namespace WS
open PySem PySem.Spec PyProof.Rows L2
open WL(Res Sl Ws EF TF AF LF GF GsF SF Out)
section
variable{X:Cx}{B:Bx}{e tg iter:Expr}{pos:Pos}{ta tb:EF}{tt:TF}{it:LF}{g:GF}{b:SF}{k:Nat}
theorem xF{σ:Ws}{σV:L2.St}{F1 H1:Hp}{J:It}{xs all:List VW}{Q:V->Hp->Prop}(hg:Keeps k g)(R1:RS B σ σV F1 H1)(wk:Walk B.K J xs F1)(hx:xs.length<=WL.lim)(hc:WL.a6 g tt ta (List.replicate k .no++σ) xs=.ok all)(fin:∀ys F' H',RB B F' H'->Gr F1 H1 F' H'->RWs B.K F' all ys->∀D,H' D=none->Q (.ref D) (upd H' D (.lst ys))):kb (Same H1) J (loG true B.calm g) (loT B.calm tt) (lo B.calm ta) (List.replicate k none++σV) H1 Q:=by
 refine⟨fun i m ys σV' H'=>m=xs.length-i/\i<=xs.length/\ys.length<=i/\∃F' pre rest,RS B.calm (List.replicate k .no++σ) σV' F' H'/\Gr F1 H1 F' H'/\RWs B.K F' pre ys/\WL.a6 g tt ta (List.replicate k .no++σ) (xs.drop i)=.ok rest/\pre++rest=all,⟨xs.length,rfl,Nat.zero_le _,Nat.zero_le _,F1,[],all,(R1.abz).ahead k,Gr.refl,by simp[RWs],by simpa using hc,rfl⟩,?_⟩;rintro i m ys σV' H'⟨rfl,hi,hyl,F',pre,rest,R',g',rp,hr,hall⟩;refine⟨g'.h,Nat.lt_of_le_of_lt (Nat.le_trans hyl (Nat.le_trans hi hx)) (by decide),?_⟩;by_cases hlt:i<xs.length;·have hd:xs.drop i=xs[i]::xs.drop (i+1):=List.drop_eq_getElem_cons hlt;rw[hd]at hr;obtain⟨go,yl⟩:=wk.go i xs[i] (List.getElem?_eq_getElem hlt) F' H' g'.f R'.rb.sub;refine .inr ⟨go,fun ys' σ2 H2=>ys'.length<=i+1/\∃F2 pre rest,RS B.calm (List.replicate k .no++σ) σ2 F2 H2/\Gr F1 H1 F2 H2/\RWs B.K F2 pre ys'/\WL.a6 g tt ta (List.replicate k .no++σ) (xs.drop (i+1))=.ok rest/\pre++rest=all,fun ys' σ2 H2⟨a1,a2⟩=>⟨xs.length-(i+1),by omega,rfl,hlt,a1,a2⟩,fun v H2 hy=>?_⟩;obtain⟨F2,E2,r2⟩:=yl v H2 hy;simp only[WL.a6]at hr;cases e1:g xs[i] (List.replicate k .no++σ)with|bad=>rw[e1]at hr;cases hr|ex c=>rw[e1]at hr;cases hr|ok σ1=>
   rw[e1]at hr;obtain⟨kl,kk⟩:=hg _ _ _ e1;refine⟨_,F2,xs[i],E2.rs _ _ _ R',r2,?_⟩;rw[e1];intro σV3 H3 F3 R3 g3;have back:∀{F4 H4:Hp},RS B.calm σ1 σV3 F4 H4->RS B.calm (List.replicate k .no++σ) σV3 F4 H4:=fun{F4 H4}R4=>R4.forget kl.symm fun j sl ej ne=>by
    by_cases hj:j<k;·rw[List.getElem?_append_left (by simpa using hj),List.getElem?_replicate,if_pos hj]at ej;exact absurd (Option.some.inj ej).symm ne
    ·rw[kk j (by omega)];exact ej
   have g3':Gr F' H' F3 H3:=E2.gr.trans ⟨g3.f,g3.h rfl,g3.nf⟩;have hr:((tt σ1).bind fun b=>match b with|true=>(ta σ1).bind fun y=>(WL.a6 g tt ta (List.replicate k .no++σ) (xs.drop (i+1))).bind fun ys=>.ok (y::ys)|false=>WL.a6 g tt ta (List.replicate k .no++σ) (xs.drop (i+1)))=.ok rest:=hr;cases e2:tt σ1 with|bad=>rw[e2]at hr;cases hr|ex c=>rw[e2]at hr;cases hr|ok b=>rw[e2]at hr;refine⟨σ1,F3,R3,?_⟩;rw[e2];intro H4 F4 R4 g4;cases b with|false=>rw[if_neg Bool.false_ne_true];exact⟨by omega,F4,pre,rest,back R4,g'.trans (g3'.trans g4),rp.keep (g3'.trans g4).f,hr,hall⟩|true=>rw[if_pos rfl];have hr:((ta σ1).bind fun y=>(WL.a6 g tt ta (List.replicate k .no++σ) (xs.drop (i+1))).bind fun ys=>.ok (y::ys))=.ok rest:=hr;cases e3:ta σ1 with|bad=>rw[e3]at hr;cases hr|ex c=>rw[e3]at hr;cases hr|ok y=>rw[e3]at hr;refine⟨σ1,F4,R4,?_⟩;rw[e3];intro u H5 F5 R5 g5 r5;have hr:((WL.a6 g tt ta (List.replicate k .no++σ) (xs.drop (i+1))).bind fun ys=>.ok (y::ys))=.ok rest:=hr;cases e4:WL.a6 g tt ta (List.replicate k .no++σ) (xs.drop (i+1))with|bad=>rw[e4]at hr;cases hr|ex c=>rw[e4]at hr;cases hr|ok zs=>rw[e4]at hr;cases hr;exact⟨by rw[List.length_append,List.length_singleton];omega,F5,pre++[y],zs,back R5,g'.trans ((g3'.trans g4).trans g5),(rp.keep ((g3'.trans g4).trans g5).f).app (.one r5),rfl,by rw[<-hall];simp⟩
 ·have ei:i=xs.length:=by omega
  subst ei;rw[List.drop_length]at hr;simp only[WL.a6]at hr;cases hr;rw[List.append_nil]at hall;subst hall;exact .inl ⟨wk.stop F' H' g'.f R'.rb.sub,fun D hD=>fin ys F' H' R'.rb.acP g' rp D hD⟩
theorem aah(hg:Keeps k g):∀σV H Q,lo B (WL.rA k it g tt ta) σV H Q->abH k (loI B it) (loG true B.calm g) (loT B.calm tt) (lo B.calm ta) σV H Q:=by
 intro σV H Q⟨σ,F,R,q⟩;have q:=Rq.bind (Rq.bind q);refine⟨σ,F,R,Rq.mono (Same.refl _) q fun xs qx J H1 F1 R1 g1 wk=>?_⟩;by_cases hx:xs.length<=WL.lim;·rw[if_pos hx]at qx;cases e:WL.a6 g tt ta (List.replicate k .no++σ) xs with|bad=>rw[e]at qx;exact(show False from qx).elim|ex c=>rw[e]at qx;exact(show False from qx).elim|ok all=>rw[e]at qx;refine kb.w (xF hg R1 wk hx e fun ys F' H' rb g' r D hD=>?_);have R':=R1.grow g' rb;exact(show∀v H' F',_ from qx) (.ref D) _ _ (R'.new hD _) (g1.trans (g'.trans (Gr.new (rb.sub.free hD) hD _))) (by simp only[RW];exact⟨D,ys,rfl,SqL.of ag,r.keep (ao (rb.sub.free hD) _)⟩)
 ·rw[if_neg hx]at qx;exact(show False from qx).elim
variable{scope:Scope}{ts:List Str}{elt:Expr}{ifs:List Expr}
theorem jS:aaW X [] (loT B WL.pb):=fun pins s σ H Q I⟨σ',F,R,q⟩=>v9 pins s σ H Q I ((show∀H' F',_ from q) H F R Gr.refl)
theorem ni(L:CompLook X scope)(hc:X.calm=true)(hk:ts.length=k)(hg:Keeps k g)(hi:PI X tg iter (loI B it))(h1:∀C s₂ H₂ fp,PG (X.comp scope C ts s₂ H₂ fp) tg (loG true B.calm g))(h2:∀C s₂ H₂ fp,aaW (X.comp scope C ts s₂ H₂ fp) ifs (loT B.calm tt))(h3:∀C s₂ H₂ fp,PE (X.comp scope C ts s₂ H₂ fp) elt (lo B.calm ta))(hs:∀x,foldedSetIterable iter X.env x=pure x:=by intro _;rfl):PE X (.ListComp elt [⟨tg,iter,ifs,0⟩] scope pos) (lo B (WL.rA k it g tt ta)):=by subst hk;exact PE.imp (wj L hc hi h1 h2 h3 hs) (aah hg)
theorem abl{a c:Expr}(hK:X.K=B.K)(ha:PE X a (lo B ta))(hb:PE X c (lo B tb)):PE X (.BinOp a .Add c pos) (loL B (WL.adh ta tb)):=PE.imp (acv tZ ha hb) fun σV H Q⟨σ,F,R,q⟩=>by have q:=Rq.bind q;refine⟨σ,F,R,Rq.mono (Same.refl _) q fun x qx v H1 F1 R1 g1 r1=>?_⟩;have qx:=Rq.bind qx;refine⟨σ,F1,R1,Rq.mono g1.f qx fun y qy v2 H2 F2 R2 g2 r2=>?_⟩;cases x with
|lst xs=>cases y with|lst ys=>
   simp only[RW]at r1 r2;obtain⟨a,vs,rfl,qa,ra⟩:=r1;obtain⟨b,us,rfl,qb,rb⟩:=r2;have qy:Rq B σ F (if xs.length+ys.length<=WL.lim then .ok (xs++ys)else .bad) _:=qy;by_cases hz:xs.length+ys.length<=WL.lim;·rw[if_pos hz]at qy;have h1:=ra.length;have h2:=rb.length;exact⟨a,b,vs,us,rfl,rfl,by rw[hK];exact R2.rb.sub.seq (g2.f.seq qa),by rw[hK];exact R2.rb.sub.seq qb,by rw[<-h1,<-h2];exact Nat.le_trans hz bA,fun p hp=>agK R2 (g1.trans g2) ((ra.keep g2.f).app rb) hp qy⟩
   ·rw[if_neg hz]at qy;exact qy.elim|_=>exact(show False from qy).elim
|_=>exact(show False from qy).elim
variable{st:Stmt}{sts rest:List Stmt}{s1 s2:SF}{i:Nat}
theorem aq:PSs X [] (loS B WL.sNx):=PSs.imp kA fun D σV H⟨σ,F,R,q⟩=>(show∀σV' H' F',_ from q) σV H F R (Same.refl _)
theorem ac6:∀D σV H,loS B (WL.aX s1 s2) D σV H->ahL (loS B s1) (loS B s2) D σV H:=fun D σV H⟨σ,F,R,q⟩=>by refine⟨σ,F,R,?_⟩;have q:Oq B D F (match s1 σ with|.nx σ'=>s2 σ'|o=>o):=q;cases e:s1 σ with|nx σ'=>rw[e]at q;exact fun σV' H' F' R' s=>⟨σ',F',R',Oq.mono s q⟩|bk σ'=>rw[e]at q;exact q|ct σ'=>rw[e]at q;exact q|rt w=>rw[e]at q;exact q|ex c σ'=>rw[e]at q;exact q|bad=>rw[e]at q;exact q
theorem wss_cons(h1:PS X st (loS B s1))(h2:PSs X rest (loS B s2)):PSs X (st::rest) (loS B (WL.aX s1 s2)):=PSs.imp (cq h1 h2) ac6
theorem ai(h1:PS X st (loS B s1)):PSs X [st] (loS B s1):=gx h1
theorem aw(he:PE X e (lo B ta)):PS X (.Return (some e) pos) (loS B (WL.b8 ta)):=PS.imp (x8 he) fun D σV H⟨σ,F,R,q⟩=>by have q:=Oq.ofR q;exact⟨σ,F,R,Rq.mono (Same.refl _) q fun w qw v H' F' R' g r=>(show∀v H' F',_ from qw) v H' F' R'.rb g.f r⟩
theorem ws_if{c:Expr}{a d:List Stmt}(hc:PT X c (loT B tt))(ha:PSs X a (loS B s1))(hb:PSs X d (loS B s2)):PS X (.If c a d pos) (loS B (WL.sIf tt s1 s2)):=PS.imp (v8 hc ha hb) fun D σV H⟨σ,F,R,q⟩=>by have q:=Oq.ofR q;refine⟨σ,F,R,Rq.mono (Same.refl _) q fun x qx H' F' R' g=>?_⟩;cases x with|true=>rw[if_pos rfl];exact⟨σ,F',R',Oq.mono g.f (show Oq B D F (s1 σ)from qx)⟩|false=>rw[if_neg Bool.false_ne_true];exact⟨σ,F',R',Oq.mono g.f (show Oq B D F (s2 σ)from qx)⟩
theorem ac5{tV:TE}(f:∀σV H Q,lo B ta σV H Q->tV σV H Q):∀D σV H,loS B (WL.eG i ta) D σV H->xY tV (L2.ay i) D σV H:=fun D σV H⟨σ,F,R,q⟩=>by have q:=Oq.ofR q;exact f _ _ _ ⟨σ,F,R,Rq.mono (Same.refl _) q fun w qw v H' F' R' g r=>(show∀σV' H' F',_ from qw) _ H' F' (R'.set r) g.f⟩
theorem aaf{l:LF}{tV:TE}(f:∀σV H Q,loL B l σV H Q->tV σV H Q):∀D σV H,loS B (WL.tf i l) D σV H->xY tV (L2.ay i) D σV H:=fun D σV H⟨σ,F,R,q⟩=>by have q:=Oq.ofR q;refine f _ _ _ ⟨σ,F,R,Rq.mono (Same.refl _) q fun ws qw a vs H' F' R' g hF h0 hH r ne=>?_⟩;exact(show∀σV' H' F',_ from qw) _ H' F' (R'.abP hF h0 hH r fun j us _ e=>ne j us e) g.f
theorem abj{x:Str}{pos':Pos}(hN:X.N.Nodup)(hi:X.N[i]?=some x)(hx:Loc X.env.scope x)(he:PE X e (lo B ta))(hs:swapsWith e (some (.Name x pos')) pos.line X.env=pure false:=by rfl)(hf:X.fn x=true\/X.env.scope.names.lookup x=some .local:=by first|exact .inl rfl|exact .inr rfl|assumption):PS X (.Assign [.Name x pos'] e pos) (loS B (WL.eG i ta)):=PS.imp (fW hN hi hx he hs hf) (ac5 fun _ _ _ q=>q)
theorem rS{l:LF}{x:Str}{pos':Pos}(hN:X.N.Nodup)(hi:X.N[i]?=some x)(hx:Loc X.env.scope x)(he:PE X e (loL B l))(hs:swapsWith e (some (.Name x pos')) pos.line X.env=pure false:=by rfl)(hf:X.fn x=true\/X.env.scope.names.lookup x=some .local:=by first|exact .inl rfl|exact .inr rfl|assumption):PS X (.Assign [.Name x pos'] e pos) (loS B (WL.tf i l)):=PS.imp (fW hN hi hx he hs hf) (aaf fun _ _ _ q=>q)
theorem abk(he:PE X e (lo B ta))(hg:PG X tg (loG false B g))(hx:∀w σ c,g w σ≠.ex c)(hs:swapsWithSole [tg] e pos.line X.env=pure false:=by rfl)(hw:swappedStores [tg] e X.env=pure none:=by rfl)(h1:(assignEach [tg] X.env).map (·.2)=[assign tg X.env]:=by rfl):PS X (.Assign [tg] e pos) (loS B (WL.abV ta g)):=PS.imp (tK he hg hs hw h1) fun D σV H⟨σ,F,R,q⟩=>by have q:=Oq.ofR q;refine⟨σ,F,R,Rq.mono (Same.refl _) q fun w qw v H' F' R' g' r=>⟨σ,F',w,R',r,?_⟩⟩;have qw:=Oq.ofR qw;exact Rq.mono g'.f qw fun σ' qs σV2 H2 F2 R2 g2=>(show∀σV' H' F',_ from qs) σV2 H2 F2 R2 (g'.f.trans g2.f)
theorem rY(hK:X.K=B.K)(h:PS X st (lB (tBM X.K "list" rAppend (tVar i) (tCons (lo B ta) tNil)))):PS X st (loS B (WL.sApp i ta)):=PS.imp h fun D σV H⟨σ,F,R,q⟩=>by have q:Oq B D F (match σ[i]? with|some (.ow ws)=>WL.ofR σ (ta σ) fun w=>if ws.length<WL.lim then .nx (σ.set i (.ow (ws++[w])))else .bad|_=>.bad):=q;cases e':σ[i]? with|none=>rw[e']at q;exact q.elim|some sl=>rw[e']at q;cases sl with|no=>exact q.elim|va _=>exact q.elim|od _ _=>exact q.elim|ob=>exact q.elim|ow ws=>
   obtain⟨a,vs,h1,h2,h3,h4,h5⟩:=R.ow i ws e';have q:=Oq.ofR (show Oq B D F (WL.ofR σ (ta σ) fun w=>if ws.length<WL.lim then .nx (σ.set i (.ow (ws++[w])))else .bad)from q);refine⟨.ref a,h1,.inl ⟨rfl,vs,SqL.of h4⟩,σ,F,R,Rq.mono (Same.refl _) q fun w qw v H1 F1 R1 g1 r1=>?_⟩;by_cases hz:ws.length<WL.lim;·rw[if_pos hz]at qw;have hH:=g1.h a _ h4;have hl:=h5.length;refine⟨a,vs,v,rfl,rfl,hH,by rw[<-hl];exact Nat.lt_of_lt_of_le hz bA,?_⟩;exact(show∀σV' H' F',_ from qw) σV _ F1 (R1.write e' h1 (g1.nf a _ h4 h2) h3 hH ((h5.keep g1.f).app (.one r1))) g1.f
   ·rw[if_neg hz]at qw;exact(show False from qw).elim
theorem rT(h:PS X st (loS B s1)):PS X st (loS B (WL.vx i s1)):=PS.imp h fun D σV H⟨σ,F,R,q⟩=>by obtain⟨F1,s,R1,_⟩:=R.frz i;exact⟨WL.frz i σ,F1,R1,Oq.mono s (show Oq B D F (s1 (WL.frz i σ))from q)⟩
theorem ac8:∀D σV H,loS B (WL.tm it g b) D σV H->ahN (loI B it) (loG false B g) (loS B b) D σV H:=fun D σV H⟨σ,F,R,q⟩=>by
 have q:=Oq.ofR q;refine⟨σ,F,R,Rq.mono (Same.refl _) q fun xs qx J H1 F1 R1 g1 wk=>?_⟩;refine⟨fun i m σV' H'=>m=xs.length-i/\i<=xs.length/\∃σ' F',RS B σ' σV' F' H'/\Same F1 F'/\Oq B D F' (WL.forL g b (xs.drop i) σ'),⟨xs.length,rfl,Nat.zero_le _,σ,F1,R1,Same.refl _,by rw[List.drop_zero];exact Oq.mono g1.f qx⟩,?_⟩;rintro i m σV' H'⟨rfl,hi',σ',F',R',s',q'⟩;by_cases hlt:i<xs.length;·have hd:xs.drop i=xs[i]::xs.drop (i+1):=List.drop_eq_getElem_cons hlt;rw[hd]at q';obtain⟨go,yl⟩:=wk.go i xs[i] (List.getElem?_eq_getElem hlt) F' H' s' R'.rb.sub;refine .inr ⟨go,fun σ2 H2=>∃σ'' F2,RS B σ'' σ2 F2 H2/\Same F1 F2/\Oq B D F2 (WL.forL g b (xs.drop (i+1)) σ''),fun σ2 H2 h2=>⟨xs.length-(i+1),by omega,rfl,hlt,h2⟩,fun v H2 hy=>?_⟩;obtain⟨F2,E2,r2⟩:=yl v H2 hy;have q':=Oq.ofR (show Oq B D F' (WL.ofR σ' (g xs[i] σ') fun σ1=>match b σ1 with|.nx σ2=>WL.forL g b (xs.drop (i+1)) σ2|.ct σ2=>WL.forL g b (xs.drop (i+1)) σ2|.bk σ2=>.nx σ2|o=>o)from q');refine⟨σ',F2,xs[i],E2.rs _ _ _ R',r2,Rq.mono E2.same q' fun σ1 q1 σV3 H3 F3 R3 g3=>?_⟩;refine⟨σ1,F3,R3,?_⟩;have s3:Same F' F3:=E2.same.trans g3.f;cases e1:b σ1 with|nx σ2=>rw[e1]at q1;exact fun σV4 H4 F4 R4 s4=>⟨σ2,F4,R4,(s'.trans s3).trans s4,Oq.mono (s3.trans s4) q1⟩|ct σ2=>rw[e1]at q1;exact fun σV4 H4 F4 R4 s4=>⟨σ2,F4,R4,(s'.trans s3).trans s4,Oq.mono (s3.trans s4) q1⟩|bk σ2=>rw[e1]at q1;exact fun σV4 H4 F4 R4 s4=>(show∀σV' H' F',_ from q1) σV4 H4 F4 R4 (s3.trans s4)|rt w=>rw[e1]at q1;exact fun v4 H4 F4 R4 s4=>(show∀v H' F',_ from q1) v4 H4 F4 R4 (s3.trans s4)|ex c σ2=>rw[e1]at q1;exact B.mono c σ2 F' F3 s3 q1|bad=>rw[e1]at q1;exact q1
 ·have ei:i=xs.length:=by omega
  subst ei;rw[List.drop_length]at q';exact .inl ⟨wk.stop F' H' s' R'.rb.sub,(show∀σV' H' F',_ from q') σV' H' F' R' (Same.refl _)⟩
theorem oS{body:List Stmt}(hp:PassesOwn (model X.prog X.w) X.A X.env X.xe)(hc:X.calm=true)(hi:PI X tg iter (loI B it))(hg:PG X tg (loG false B g))(hb:PSs X body (loS B b))(hs:∀x,foldedSetIterable iter X.env x=pure x:=by intro _;rfl):PS X (.For tg iter body [] pos) (loS B (WL.tm it g b)):=PS.imp (pG hp hc hi hg hb hs) ac8
theorem vC{c:Expr}{body:List Stmt}{n:Ws->Nat}(hp:PassesOwn (model X.prog X.w) X.A X.env X.xe)(hc:PT X c (loT B tt))(hb:PSs X body (loS B b)):PS X (.While c body [] pos) (loS B (WL.sZ n tt b)):=PS.imp (pE hp hc hb) fun D σV H⟨σ,F,R,q⟩=>by refine⟨fun m σV' H'=>∃σ' F',RS B σ' σV' F' H'/\Oq B D F' (WL.bZ tt b m σ'),⟨n σ,σ,F,R,q⟩,?_⟩;rintro m σV' H'⟨σ',F',R',q'⟩;cases m with|zero=>exact(show False from q').elim|succ m=>have q':=Oq.ofR (show Oq B D F' (WL.ofR σ' (tt σ') fun x=>match x with|true=>(match b σ' with|.nx σ2=>WL.bZ tt b m σ2|.ct σ2=>WL.bZ tt b m σ2|.bk σ2=>.nx σ2|o=>o)|false=>.nx σ')from q');refine⟨σ',F',R',Rq.mono (Same.refl _) q' fun x qx H1 F1 R1 g1=>?_⟩;cases x with|false=>rw[if_neg Bool.false_ne_true];exact(show∀σV' H' F',_ from qx) σV' H1 F1 R1 g1.f|true=>rw[if_pos rfl];refine⟨fun σV2 H2=>∃σ2 F2,RS B σ2 σV2 F2 H2/\Oq B D F2 (WL.bZ tt b m σ2),fun σV2 H2 h2=>⟨m,Nat.lt_succ_self m,h2⟩,σ',F1,R1,?_⟩;have qx:Oq B D F' (match b σ' with|.nx σ2=>WL.bZ tt b m σ2|.ct σ2=>WL.bZ tt b m σ2|.bk σ2=>.nx σ2|o=>o):=qx;cases e1:b σ' with|nx σ2=>rw[e1]at qx;exact fun σV4 H4 F4 R4 s4=>⟨σ2,F4,R4,Oq.mono (g1.f.trans s4) qx⟩|ct σ2=>rw[e1]at qx;exact fun σV4 H4 F4 R4 s4=>⟨σ2,F4,R4,Oq.mono (g1.f.trans s4) qx⟩|bk σ2=>rw[e1]at qx;exact fun σV4 H4 F4 R4 s4=>(show∀σV' H' F',_ from qx) σV4 H4 F4 R4 (g1.f.trans s4)|rt w=>rw[e1]at qx;exact fun v4 H4 F4 R4 s4=>(show∀v H' F',_ from qx) v4 H4 F4 R4 (g1.f.trans s4)|ex c σ2=>rw[e1]at qx;exact B.mono c σ2 F' F1 g1.f qx|bad=>rw[e1]at qx;exact qx
end
noncomputable def spW(K:W.Frag)(n:Nat)(f:List VW->Res VW):Sp:=fun vs H Q _=>∃F ws,Same F H/\RWs K F ws vs/\ws.length=n/\match f ws with|.ok w=>∀v H' F',Same F F'->Same F' H'->Same H H'->(∀a o,F' a=some o->F a=some o\/H a=none/\NF o)->RW K F' w v->Q v H'|_=>False
section
variable{P:Program}{w:World}{K:W.Frag}{mg:Str->Option Value}{base:Heap}
theorem RS.start{N:List Str}{F H:Hp}{ws:List VW}{vs:List V}(s:Same F H)(r:RWs K F ws vs)(hl:ws.length<=N.length):RS ⟨K,H,F,fun _ _ _=>False,fun _ _ _ _ _ h=>h⟩ (ws.map .va++List.replicate (N.length-ws.length) .no) (L2.start N vs) F H:=by
 have hv:=r.length;have at':∀{i:Nat}{sl:Sl},(ws.map Sl.va++List.replicate (N.length-ws.length) Sl.no)[i]?=some sl->sl≠.no->∃u,ws[i]?=some u/\sl=.va u:=fun{i sl}e ne=>by
  by_cases hi:i<ws.length;·rw[List.getElem?_append_left (by simpa using hi),List.getElem?_map]at e;rw[List.getElem?_eq_getElem hi]at e⊢;exact⟨_,rfl,(Option.some.inj e).symm⟩
  ·rw[List.getElem?_append_right (by simp;omega)]at e;simp only[List.length_map,List.getElem?_replicate]at e;split at e;·exact absurd (Option.some.inj e).symm ne
   ·cases e
 refine⟨⟨s,Same.refl _,Same.refl _,fun a o h=>.inl h⟩,by simp[L2.start,hv],fun i u e=>?_,fun i us e=>?_,fun i j us us' a hne e1 e2 _ _=>?_,fun i ks us e=>?_,fun i j ks us ks' us' a hne e1 e2 _ _=>?_,fun i e=>?_⟩;rotate_left 3;·obtain⟨x,ex,h⟩:=at' e (by intro z;cases z);cases h
 ·obtain⟨x,ex,h⟩:=at' e1 (by intro z;cases z);cases h
 ·obtain⟨x,ex,h⟩:=at' e (by intro z;cases z);cases h
 ·obtain⟨x,ex,h⟩:=at' e (by intro z;cases z);cases h;obtain⟨v,ev,rv⟩:=r.get ex;refine⟨v,?_,rv⟩;have hi:i<vs.length:=(List.getElem?_eq_some_iff.mp ev).1;unfold L2.start;rw[List.getElem?_append_left (by simpa using hi),List.getElem?_map,ev];rfl
 ·obtain⟨x,ex,h⟩:=at' e (by intro z;cases z);cases h
 ·obtain⟨x,ex,h⟩:=at' e1 (by intro z;cases z);cases h
end
section
variable{X:Cx}{B:Bx}{k:Nat}{f:Addr}{fd:FuncData}{ps:List Str}{fn:List VW->Res VW}{x:Str}{p pos:Pos}{e:Expr}{es:List Expr}{tas:AF}{n:Nat}
theorem aai(hK:X.K=B.K){E:XK}(hn:∀σ ws,tas σ=.ok ws->ws.length=n):∀σV H Q,lo B (WL.bF fn tas) σV H Q->abI (spW X.K n fn) [] E (loA B tas) σV H Q:=by intro σV H Q⟨σ,F,R,q⟩;have q:=Rq.bind q;refine⟨σ,F,R,?_⟩;cases ea:tas σ with|bad=>rw[ea]at q;exact q|ex c=>rw[ea]at q;exact q|ok ws=>rw[ea]at q;intro vs H1 F1 R1 g1 r1;rw[List.append_nil,hK];refine⟨F1,ws,R1.rb.sub,r1,hn σ ws ea,?_⟩;have qw:Rq B σ F (match fn ws with|.ok w=>.ok w|_=>.bad) _:=q;cases ef:fn ws with
|bad=>rw[ef]at qw;exact qw.elim|ex c=>rw[ef]at qw;exact qw.elim
|ok w=>rw[ef]at qw;intro v H2 F2 s1 s2 s3 fr r2;have g2:Gr F1 H1 F2 H2:=⟨s1,s3,fun a o eh ef'=>by cases e2:F2 a with|none=>rfl|some o2=>
  rcases fr a o2 e2 with z|z;·rw[ef']at z;cases z
  ·rw[eh]at z;cases z.1⟩;have rb:RB B F2 H2:=⟨s2,R1.rb.base.trans s3,R1.rb.fz0.trans s1,fun a o e2=>by
  rcases fr a o e2 with z|z;·exact R1.rb.fr a o z
  ·exact .inr ⟨R1.rb.base.free z.1,z.2⟩⟩;exact qw v H2 F2 (R1.grow g2 rb) (g1.trans g2) r2
theorem yV(hK:X.K=B.K)(F:FnOk X.prog X.w X.K X.mg X.base CX0 k f fd ps (spW X.K n fn))(hr:Room k X.A)(hg:Gl X x)(hm:X.mg x=some (.ref f))(hk:W.keepIn X.K (.ref f)=true)(hb:Binds X.K fd ps [])(ha:PA X (e::es) (loA B tas))(hn:∀σ ws,tas σ=.ok ws->ws.length=n)(hdb:(x==("__debug__":Str))=false:=by decide)(he:starEach (e::es) X.env=(false,eval e X.env)::starEach es X.env:=by rfl)(hpl:(backTo pos (starEach es X.env)).any (·.1)=false:=by rfl):PE X (.Call (.Name x p) (e::es) [] pos) (lo B (WL.bF fn tas)):=PE.imp (tW F hr hg hm hk hb .nil acB ha hdb he hpl) (aai hK hn)
theorem vo:∀(σ:Ws)(ws:List VW),WL.aj σ=.ok ws->ws.length=0:=fun σ ws e=>by cases e;rfl
theorem oN{t:EF}(h:∀(σ:Ws)(ws:List VW),tas σ=.ok ws->ws.length=n):∀(σ:Ws)(ws:List VW),WL.aa t tas σ=.ok ws->ws.length=n+1:=fun σ ws q=>by have q:((t σ).bind fun x=>(tas σ).bind fun xs=>.ok (x::xs))=.ok ws:=q;cases e1:t σ with|bad=>rw[e1]at q;cases q|ex c=>rw[e1]at q;cases q|ok x=>rw[e1]at q;have q:((tas σ).bind fun xs=>.ok (x::xs))=.ok ws:=q;cases e2:tas σ with|bad=>rw[e2]at q;cases q|ex c=>rw[e2]at q;cases q|ok xs=>rw[e2]at q;cases q;simp[h σ xs e2]
end
noncomputable def sQ(K:W.Frag):Sp:=fun vs H Q _=>∃(a:Addr)(ns:List Int),vs=[.ref a]/\SqL K H a (ns.map V.int)/\ns.length<=63/\∀H',Q (.bl true) H'
theorem ade{P:Program}{w:World}{K:W.Frag}{mg:Str->Option Value}{base:Heap}{k:Nat}{f:Addr}{fd:FuncData}{ps:List Str}{fn:List VW->Res VW}(G:FnOk P w K mg base CX0 k f fd ps (spW K 1 fn))(h:∀ns:List Int,ns.length<=63->fn [.lst (ns.map .int)]=.ok (.bl true)):FnOk P w K mg base CX0 k f fd ps (sQ K):=G.imp fun vs H Q E⟨a,ns,e,hS,hl,q⟩=>by subst e;refine⟨H,[.lst (ns.map .int)],Same.refl _,.one (by simp only[RW];exact⟨a,_,rfl,hS,RWs.ints ns⟩),rfl,?_⟩;rw[h ns hl];intro v H' F' _ _ _ _ r;simp only[RW]at r;subst r;exact q H'
end WS
namespace WS
open PySem PySem.Spec PyProof.Rows L2
open WL(Res Sl Ws EF TF AF LF GF GsF SF Out)
section
variable{X:Cx}{K:W.Frag}
theorem xI:∀xs c,WL.xM xs≠.ex c:=fun xs c h=>by
 unfold WL.xM at h;split at h;·split at h<;>cases h
 ·cases h
theorem vp{F:Hp}:∀{xs:List VW}{vs:List V}{b:Bool},RWs K F xs vs->WL.allB xs=some b->∃bs:List Bool,vs=bs.map V.bl/\bs.all id=b|[],vs,b,r,e=>by simp only[RWs]at r;subst r;simp only[WL.allB]at e;cases e;exact⟨[],rfl,rfl⟩|x::xs,vs,b,r,e=>by simp only[RWs]at r;obtain⟨v,t,rfl,q,s⟩:=r;cases x with
 |bl k=>simp only[WL.allB]at e;cases e2:WL.allB xs with|none=>rw[e2]at e;cases e|some c=>rw[e2]at e;cases e;obtain⟨bs,rfl,h⟩:=vp s e2;simp only[RW]at q;subst q;exact⟨k::bs,rfl,by simp only[List.all_cons,id,h]⟩
 |_=>simp[WL.allB]at e
theorem w_all(hc:X.calm=true)(hK:X.K=K):bz X (.builtin "all") (loN K WL.xM):=by subst hK;refine bz.imp (vm hc) fun xs H Q⟨F,ws,s,r,q⟩=>?_;cases e:WL.xM ws with|bad=>rw[e]at q;exact q.elim|ex c=>rw[e]at q;exact q.elim|ok w=>
  rw[e]at q;unfold WL.xM at e;split at e
  ·rename_i ys;split at e;·rename_i b hb;cases e;obtain⟨v,rfl,h⟩:=b6 r;simp only[RW]at h;obtain⟨a,vs,rfl,qa,ra⟩:=h;obtain⟨bs,rfl,hbs⟩:=vp ra hb;subst hbs;exact⟨a,bs,rfl,s.seq qa,eq1 q (by simp[RW])⟩
   ·cases e
  ·cases e
end
section
variable{X:Cx}{B:Bx}{K:W.Frag}{o e:Expr}{es:List Expr}{to ta:EF}{tas:AF}{pos apos cpos:Pos}
theorem mw:∀{ys:List VW}{x:VW}{j k:Nat}{n m:Nat},WL.okD n x=true->WL.bH m ys=true->WL.idx x j ys=some k->∃i,k=j+i/\vt (fun z=>PyData.eqv z (toD x)) (cJ ys) i|[],_,_,_,_,_,_,_,e=>by simp[WL.idx]at e|y::ys,x,j,k,n,m,hx,hy,e=>by cases m with|zero=>simp[WL.bH]at hy|succ m=>
   simp only[WL.bH,Bool.and_eq_true]at hy;simp only[WL.idx]at e;have he:=jv m n y x hy.1 hx;by_cases h:WL.eqv y x=true;·rw[if_pos h]at e;cases e;refine⟨0,rfl,⟨toD y,rfl,by show PyData.eqv (toD y) (toD x)=true;rw[he];exact h⟩,fun m d hm=>absurd hm (Nat.not_lt_zero _)⟩
   ·rw[if_neg h]at e;obtain⟨i,rfl,⟨d,h1,h2⟩,h3⟩:=mw hx hy.2 e;refine⟨i+1,by omega,⟨d,by simpa[cJ]using h1,h2⟩,fun m' d' hm hd=>?_⟩;cases m' with|zero=>simp[cJ]at hd;subst hd;show PyData.eqv (toD y) (toD x)=false;rw[he];simpa using h|succ m'=>exact h3 m' d' (by omega) (by simpa[cJ]using hd)
theorem vF{x:Expr}(hK:X.K=B.K)(hu:X.A.units+64<cLine)(ho:PE X o (lo B to))(ha:PA X [x] (loA B tas))(hbase:attributeBase o "index" X.env (eval o X.env)=eval o X.env:=by rfl)(hfew:((backTo cpos (starEach [x] X.env)).all (fun x=>!x.1)&&(backToKw cpos (keywordEach [] X.env)).all (fun x=>x.1.isSome)&&decide (([x]:List Expr).length+([]:List Keyword).length+(if([]:List Keyword).isEmpty then 0 else 1)<30))=true:=by rfl)(hline:(apos.endLine==cpos.line)=true:=by rfl)(hs:starEach [x] X.env=(false,eval x X.env)::starEach [] X.env:=by rfl)(hplain:(backTo cpos (starEach [] X.env)).any (·.1)=false:=by rfl):PE X (.Call (.Attribute o "index" apos) [x] [] cpos) (lo B (WL.kN "list" WL.i8 to tas)):=PE.imp (pe_bm PySem.F.plainAttrs_list PySem.F.slot_list_index PySem.F.type_list_index uj ho ha hbase hfew hline hs hplain) fun σV H Q⟨σ,F,R,q⟩=>by have q:=Rq.bind q;refine⟨σ,F,R,Rq.mono (Same.refl _) q fun w qx v H1 F1 R1 g1 r1=>?_⟩;cases w with
 |lst ys=>have qx:=Rq.bind (show Rq B σ F ((tas σ).bind fun ws=>WL.i8 (.lst ys) ws) _ from qx);have r1':=r1;simp only[RW]at r1;obtain⟨a,vs,rfl,qa,ra⟩:=r1;refine⟨.inl ⟨rfl,vs,by rw[hK];exact R1.rb.sub.seq qa⟩,σ,F1,R1,Rq.mono g1.f qx fun ws qw us H2 F2 R2 g2 r2=>?_⟩;cases em:WL.i8 (.lst ys) ws with
  |bad=>rw[em]at qw;exact qw.elim|ex c=>
    unfold WL.i8 at em;split at em
    ·split at em;·split at em<;>cases em
     ·cases em
    ·cases em|ok z=>
    rw[em]at qw;unfold WL.i8 at em;split at em
    ·rename_i e1 e2 ys' x' e3;cases e3;split at em
     ·rename_i hok;rw[Bool.and_eq_true,Bool.and_eq_true]at hok;obtain⟨hok,hlim⟩:=hok;split at em
      ·rename_i k hk;cases em;obtain⟨u,rfl,ru⟩:=b6 r2;obtain⟨i,ei,fa⟩:=mw hok.1 hok.2 hk;have ei:k=i:=by omega
       subst ei;have sub:=R2.rb.sub;have hD:=RW.isD 51 (.lst ys) (.ref a) (show WL.okD 51 (.lst ys)=true by simpa only[WL.okD]using hok.2) ((r1'.keep g2.f).keep sub);simp only[toD]at hD;have hlen:(cJ ys).length<=1000000:=by rw[o9,List.length_map];exact of_decide_eq_true hlim
       refine⟨50,u,toD x',cJ ys,k,rfl,by rw[hK];exact RW.isD 50 x' u hok.1 (ru.keep sub),by rw[hK];exact hD,by omega,fa,hlen,?_⟩;exact qw (.int k) H2 F2 R2 (g1.trans g2) (by simp[RW])
      ·cases em
     ·cases em
    ·cases em
 |_=>exact(show False from qx).elim
end
end WS
namespace WS
open PySem PySem.Spec PyProof.Rows L2
open WL(Res Sl Ws EF TF AF LF GF GsF SF Out)
noncomputable def XR(K:W.Frag)(F:Hp):VW->Addr->Option Addr->Prop|.exc nm fs,C,dx=>ExcAt K nm C/\∃fvs:List (Str×V),fvs.map (·.1)=WL.fieldsOf nm/\RWs K F fs (fvs.map (·.2))/\(fvs=[]/\dx=none\/∃d,dx=some d/\F d=some (.xd fvs))|_,_,_=>False
noncomputable def XW(X:Cx)(B:Bx):Prop:=∀(pins:List (Addr×Obj))(σV:L2.St)(H:Hp)(s:Shared)(σ:Ws)(F:Hp)(c:VW),RS B σ σV F H->B.xp c σ F->∀(e C:Addr)(dx T:Option Addr)(fl:Value),Thr X pins σV H s e C dx fl T->XR X.K F c C dx->X.xe (.ref e) s
noncomputable abbrev Bx.oU(B:Bx)(xp:VW->Ws->Hp->Prop)(mono:∀c σ F F',Same F F'->xp c σ F->xp c σ F'):Bx:=⟨B.K,B.H0,B.F0,xp,mono⟩
theorem vz{X:Cx}{B:Bx}(h:∀c σ F,¬B.xp c σ F):XW X B:=fun _ _ _ _ σ F c _ q=>(h c σ F q).elim
section
variable{B B':Bx}{σ:Ws}{σV:L2.St}{F H:Hp}
theorem RB.box(R:RB B F H)(h0:B'.H0=B.H0)(f0:B'.F0=B.F0):RB B' F H:=⟨R.sub,h0▸R.base,f0▸R.fz0,fun a o e=>by rw[h0,f0];exact R.fr a o e⟩
theorem RS.box(R:RS B σ σV F H)(hk:B'.K=B.K)(h0:B'.H0=B.H0)(f0:B'.F0=B.F0):RS B' σ σV F H:=⟨R.rb.box h0 f0,R.len,fun i w e=>by rw[hk];exact R.va i w e,fun i ws e=>by rw[hk,h0];exact R.ow i ws e,R.ap,by rw[hk,h0];exact R.dd⟩
end
section
variable{X:Cx}{B:Bx}{k:Nat}{f:Addr}{fd:FuncData}{ps:List Str}{fn:List VW->Res VW}{x:Str}{p pos np hpos cpos:Pos}{e:Expr}{es:List Expr}{tas:AF}{n:Nat}{st:Stmt}
noncomputable def spX(K:W.Frag)(n:Nat)(f:List VW->Res VW):Sp:=fun vs H Q E=>∃F ws,Same F H/\RWs K F ws vs/\ws.length=n/\match f ws with|.ok w=>∀v H' F',Same F F'->Same F' H'->Same H H'->(∀a o,F' a=some o->F a=some o\/H a=none/\NF o)->RW K F' w v->Q v H'|.ex c=>∀C dx H' F',Same F F'->Same F' H'->Same H H'->(∀a o,F' a=some o->F a=some o\/H a=none/\NF o)->XR K F' c C dx->E (.ref C) dx H'|.bad=>False
theorem wM(hK:X.K=B.K)(hx:XW X B)(hn:∀σ ws,tas σ=.ok ws->ws.length=n):∀σV H Q,lo B (WL.aP fn tas) σV H Q->xX X (spX X.K n fn) [] (loA B tas) σV H Q:=by intro σV H Q⟨σ,F,R,q⟩;have q:=Rq.bind q;refine⟨σ,F,R,?_⟩;cases ea:tas σ with|bad=>rw[ea]at q;exact q|ex c=>rw[ea]at q;exact q|ok ws=>
 rw[ea]at q;have q:Rq B σ F (fn ws) _:=q;intro vs H1 F1 R1 g1 r1;rw[List.append_nil,hK];have ext:∀{F2 H2:Hp},Same F1 F2->Same F2 H2->Same H1 H2->(∀a o,F2 a=some o->F1 a=some o\/H1 a=none/\NF o)->Gr F1 H1 F2 H2/\RB B F2 H2:=fun{F2 H2}s1 s2 s3 fr=>by
  refine⟨⟨s1,s3,fun a o eh ef'=>?_⟩,s2,R1.rb.base.trans s3,R1.rb.fz0.trans s1,fun a o e2=>?_⟩;·cases e2:F2 a with|none=>rfl|some o2=>
    rcases fr a o2 e2 with z|z;·rw[ef']at z;cases z
    ·rw[eh]at z;cases z.1
  ·rcases fr a o e2 with z|z;·exact R1.rb.fr a o z
   ·exact .inr ⟨R1.rb.base.free z.1,z.2⟩
 refine⟨fun C dx H2=>∃Ca F2 c,C=.ref Ca/\RS B σ σV F2 H2/\B.xp c σ F2/\XR B.K F2 c Ca dx,⟨F1,ws,R1.rb.sub,r1,hn σ ws ea,?_⟩,fun pins s e C dx T H' t⟨Ca,F2,c,ec,R2,xp,xr⟩=>?_⟩;·cases ef:fn ws with|bad=>rw[ef]at q;exact q.elim|ok w=>rw[ef]at q;intro v H2 F2 s1 s2 s3 fr r2;obtain⟨g2,rb⟩:=ext s1 s2 s3 fr;exact q v H2 F2 (R1.grow g2 rb) (g1.trans g2) r2|ex c=>rw[ef]at q;intro C dx H2 F2 s1 s2 s3 fr xr;obtain⟨g2,rb⟩:=ext s1 s2 s3 fr;exact⟨C,F2,c,rfl,R1.grow g2 rb,B.mono c σ F F2 (g1.f.trans s1) q,xr⟩
 ·cases ec;exact hx pins σV H' s σ F2 c R2 xp e C dx (some T) _ t (by rw[hK];exact xr)
theorem vI(hK:X.K=B.K)(hx:XW X B)(F:FnOk X.prog X.w X.K X.mg X.base (CXX X.prog X.w) k f fd ps (spX X.K n fn))(hr:Room k X.A)(hg:Gl X x)(hm:X.mg x=some (.ref f))(hk:W.keepIn X.K (.ref f)=true)(hb:Binds X.K fd ps [])(ha:PA X (e::es) (loA B tas))(hn:∀σ ws,tas σ=.ok ws->ws.length=n)(hdb:(x==("__debug__":Str))=false:=by decide)(he:starEach (e::es) X.env=(false,eval e X.env)::starEach es X.env:=by rfl)(hpl:(backTo pos (starEach es X.env)).any (·.1)=false:=by rfl):PE X (.Call (.Name x p) (e::es) [] pos) (lo B (WL.aP fn tas)):=PE.imp (pJ F hr hg hm hk hb .nil ha hdb he hpl) (wM hK hx hn)
theorem cV{C:Addr}{nm:String}(hK:X.K=B.K)(hx:XW X B)(hc:X.calm=true)(hg:Gl X x)(hm:X.mg x=some (.ref C))(q:W.excIn X.K C lq "ValueError.__new__"=true)(hC:ExcAt X.K nm C)(hf:WL.fieldsOf nm=[])(ha:PA X (e::es) (loA B tas))(hd:(x==("__debug__":Str))=false:=by decide)(he:starEach (e::es) X.env=(false,eval e X.env)::starEach es X.env:=by rfl)(hplain:(backTo cpos (starEach es X.env)).any (·.1)=false:=by rfl):PS X (.Raise (some (.Call (.Name x np) (e::es) [] cpos)) none pos) (loS B (WL.fk nm tas)):=PS.imp (pF hc hg hm q ha hd he hplain) fun D σV H⟨σ,F,R,q⟩=>by
 have q:=Oq.ofR q;refine⟨σ,F,R,Rq.mono (Same.refl _) q fun ws qw vs H1 F1 R1 g1 r1=>?_⟩;by_cases hl:ws.length<=100;·rw[if_pos hl]at qw;refine⟨by rw[<-r1.length];exact Nat.le_trans hl (by decide),fun pins s e t=>?_⟩;exact hx pins σV H1 s σ F1 (.exc nm []) R1 (B.mono _ σ F F1 g1.f qw) e C none none _ t ⟨hC,[],by rw[hf];rfl,by simp[RWs],.inl ⟨rfl,rfl⟩⟩
 ·rw[if_neg hl]at qw;exact(show False from qw).elim
end
section
variable{P:Program}{w:World}{K:W.Frag}{mg:Str->Option Value}{base:Heap}
theorem dr{x qual:Str}{st:Stmt}{f:Addr}{fd:FuncData}{N ps:List Str}{k m n:Nat}{fn:List VW->Res VW}(t:SF)(Fn:Fun K x qual st f fd)(S:FnScope N ps (af st))(hn:N.length=n)(hm:ps.length=m)(hfn:WL.run n t=fn)(hps:ps.length<=N.length)(h:∀(cdv:Value)(A:Around)(outer:List Env)(s:Shared)(H:Hp)(E:XK)(B:Bx),B.K=K->Room k (A.deeper (envOfC qual (af st) s.heap.objs.size f cdv))->XW (gH CX0 P w K mg base N qual (af st) f cdv A outer s H E).nox B->PassesOwn (model P w) (A.deeper (envOfC qual (af st) s.heap.objs.size f cdv)) (envOfC qual (af st) s.heap.objs.size f cdv) (fun _ _=>False)->PSs (gH CX0 P w K mg base N qual (af st) f cdv A outer s H E).nox (aO st) (loS B t)):FnOk P w K mg base CX0 (k+1) f fd ps (spW K m fn):=by subst hn hm hfn;refine Fn.ok S (fun vs H Q E⟨F,ws,_,r,hl,_⟩=>by rw[<-r.length];exact hl) fun cdv A outer s H vs Q E hr⟨F,ws,sm,r,hl,hm⟩=>?_;refine⟨_,h cdv A outer s H E ⟨K,H,F,fun _ _ _=>False,fun _ _ _ _ _ h=>h⟩ rfl hr (vz fun _ _ _ z=>z) PassesOwn.never,_,F,RS.start sm r (by omega),?_⟩;unfold WL.run at hm;cases e:t (ws.map .va++List.replicate (N.length-ws.length) .no)with|rt w=>rw[e]at hm;exact fun v H' F' rb s' rw'=>hm v H' F' s' rb.sub rb.base rb.fr rw'|nx σ'=>rw[e]at hm;exact fun σV' H' F' R' s'=>hm .non H' F' s' R'.rb.sub R'.rb.base R'.rb.fr (by simp[RW])|bk σ'=>rw[e]at hm;exact hm.elim|ct σ'=>rw[e]at hm;exact hm.elim|ex c σ'=>rw[e]at hm;exact hm.elim|bad=>rw[e]at hm;exact hm.elim
theorem bu{x qual:Str}{st:Stmt}{f:Addr}{fd:FuncData}{N ps:List Str}{k m n:Nat}{fn:List VW->Res VW}(t:SF)(Fn:Fun K x qual st f fd)(S:FnScope N ps (af st))(hn:N.length=n)(hm:ps.length=m)(hfn:WL.run n t=fn)(hps:ps.length<=N.length)(h:∀(cdv:Value)(A:Around)(outer:List Env)(s:Shared)(H:Hp)(E:XK)(B:Bx),B.K=K->Room k (A.deeper (envOfC qual (af st) s.heap.objs.size f cdv))->XW (gH (CXX P w) P w K mg base N qual (af st) f cdv A outer s H E) B->PassesOwn (model P w) (gH (CXX P w) P w K mg base N qual (af st) f cdv A outer s H E).A (gH (CXX P w) P w K mg base N qual (af st) f cdv A outer s H E).env (gH (CXX P w) P w K mg base N qual (af st) f cdv A outer s H E).xe->PSs (gH (CXX P w) P w K mg base N qual (af st) f cdv A outer s H E) (aO st) (loS B t)):FnOk P w K mg base (CXX P w) (k+1) f fd ps (spX K m fn):=by subst hn hm hfn;obtain⟨oc,od,kV,doc,pm,an,cdv,ct,osl,rfl,lk,hcd⟩:=Fn.ex;refine xt lk hcd S (fun vs H Q E⟨F,ws,_,r,hl,_⟩=>by rw[<-r.length];exact hl) fun A outer s H vs Q E hr _⟨F,ws,sm,r,hl,hm⟩=>?_;let B0:Bx:=⟨K,H,F,fun _ _ _=>False,fun _ _ _ _ _ h=>h⟩;let B1:Bx:=B0.oU (fun c _ F1=>∀C dx H' F',Same F1 F'->RB B0 F' H'->XR K F' c C dx->E (.ref C) dx H') fun c σ F1 F2 s h C dx H' F' s'=>h C dx H' F' (s.trans s');refine⟨_,h cdv A outer s H E B1 rfl hr (fun pins σV H1 s1 σ F1 c R1 xp e C dx T fl t xr=>kH t (xp C dx H1 F1 (Same.refl _) (R1.rb.box rfl rfl) xr)) PassesOwn.leaving,_,F,(RS.start sm r (by omega)).box (B':=B1) rfl rfl rfl,?_⟩;unfold WL.run at hm;cases e:t (ws.map .va++List.replicate (N.length-ws.length) .no)with|rt w=>rw[e]at hm;exact fun v H' F' rb s' rw'=>hm v H' F' s' rb.sub rb.base rb.fr rw'|nx σ'=>rw[e]at hm;exact fun σV' H' F' R' s'=>hm .non H' F' s' R'.rb.sub R'.rb.base R'.rb.fr (by simp[RW])|bk σ'=>rw[e]at hm;exact hm.elim|ct σ'=>rw[e]at hm;exact hm.elim|ex c σ'=>rw[e]at hm;exact fun C dx H' F' s' rb xr=>hm C dx H' F' s' rb.sub rb.base rb.fr xr|bad=>rw[e]at hm;exact hm.elim
end
section
variable{K:W.Frag}{C a:Addr}{d:String}{nm:Str}{b:Bool}
end
end WS
namespace L2
open PySem PySem.Spec PyProof.Rows
open PySem.W(findIn mroIn findObj specialIn takesIn clsIn hasDictIn KitX looks_findIn looks_mroIn looks_find)
section
variable{prog:Program}{w:World}{A:Around}{E:Value->Shared->Prop}{s:Shared}{K:W.Frag}{x D:Addr}{ox:Obj}{od:Option Obj}{name:Str}
end
end L2
namespace L2
open PySem PySem.Spec PyProof.Rows
section
variable{prog:Program}{w:World}{A:Around}{E:Value->Shared->Prop}{env:Env}
variable{nm q:Str}{C N:Addr}{bs bm bmB:List Value}{hdct:Bool}{sn:List Str}{sub:List Value}{ab:Bool}{col:Option Bool}{dd:Option Addr}{k0 k1 k2 k3 k5:Option Value}{B newId initId:String}
variable{h:Heap}{g:Array GenState}{d:Drawn}{t:Nat}{os:OsState}
end
end L2
namespace L2
open PySem PySem.Spec PyProof.Rows
open PySem.W(findIn mroIn findObj specialIn takesIn clsIn hasDictIn looks_findIn looks_mroIn looks_find InstAt)
section
variable{prog:Program}{w:World}{A:Around}{E:Value->Shared->Prop}{s:Shared}{K:W.Frag}{x C:Addr}{ox:Obj}{od:Option Obj}{name:Str}{v:Value}{R:Result->Shared->Prop}
end
end L2
namespace L2
open PySem PySem.Spec PyProof.Rows
section
variable{prog:Program}{w:World}{A:Around}{E:Value->Shared->Prop}{h:Heap}{g:Array GenState}{d:Drawn}{t:Nat}{os:OsState}
variable{nm q:Str}{C N:Addr}{bs bm bmB:List Value}{hdct:Bool}{sn:List Str}{sub:List Value}{ab:Bool}{col:Option Bool}{dd:Option Addr}{k0 k1 k2 k3 k5:Option Value}{B newId initId:String}
end
end L2
namespace L2
open PySem PySem.Spec PyProof.Rows
open PySem.W(findIn InstAt)
section
variable{X:Cx}{pins:List (Addr×Obj)}{σ:St}{H:Hp}{s:Shared}{e C:Addr}{f:Str}{A:Around}{E:Value->Shared->Prop}
end
end L2
namespace L2
open PySem PySem.Spec PyProof.Rows
open PySem.W(findIn InstAt)
section
variable{X:Cx}{e:Expr}{es:List Expr}{pos:Pos}{ta:TE}{ts:List TE}
noncomputable def aiS(ta:TE):TE:=fun σ H Q=>ta σ H fun x H1=>(∃i:Int,x=.int i/\i.natAbs.log2<1920/\Q (.str (toString i)) H1)\/∃y:Str,x=.str y/\y.length<=sizeLine/\Q (.str y) H1
theorem acy(he:PE X e ta):PE X (.FormattedValue e (-1) none pos) (aiS ta):=by
 intro pins s σ H Q I h;refine PyProof.Rows.FormattedValue_plain (thn (he pins s σ H _ I h) fun u s1⟨x,H1,I1,rx,q⟩=>?_);rcases q with⟨i,rfl,hi,q⟩|⟨y,rfl,hy,q⟩;·obtain⟨t,rfl⟩:=rx;exact PyProof.Rows.formatField_int_small hi ⟨.str (toString i),H1,I1.tok _,⟨_,rfl⟩,q⟩
 ·obtain⟨t,rfl⟩:=rx;exact PyProof.Rows.formatField_str (fun t' tk=>⟨.str y,H1,I1.tok tk,⟨_,rfl⟩,q⟩) hy
noncomputable def tJ:List TE->Str->TE|[],acc=>fun σ H Q=>acc.length<=sizeLine/\Q (.str acc) H|t::ts,acc=>fun σ H Q=>t σ H fun x H1=>∃y:Str,x=.str y/\(acc++y).length<=sizeLine/\tJ ts (acc++y) σ H1 Q
theorem j5:∀{es:List Expr}{ts:List TE},Paired (PE X) es ts->∀(acc:Str)(pins:List (Addr×Obj))(s:Shared)(σ:St)(H:Hp)(Q:VK),Inv X pins σ H s->tJ ts acc σ H Q->wpAny (model X.prog X.w) X.A (joinParts acc (es.map fun e=>eval e X.env)) (EP X pins σ Q) X.xe s|[],[],_,acc,pins,s,σ,H,Q,I,h=>PyProof.Rows.joinParts_nil ⟨.str acc,H,I.tok _,⟨_,rfl⟩,h.2⟩ h.1|e::es,t::ts,.cons p ps,acc,pins,s,σ,H,Q,I,h=>by rw[List.map_cons];refine PyProof.Rows.joinParts_cons (thn (p pins s σ H _ I h) fun u s1⟨x,H1,I1,rx,y,ex,hl,q⟩=>?_);subst ex;obtain⟨t,rfl⟩:=rx;exact⟨hl,j5 ps (acc++y) pins s1 σ H1 Q I1 q⟩
theorem zF{e1 e2:Expr}{es:List Expr}(hp:Paired (PE X) (e1::e2::es) ts)(he:evalEach es X.env=es.map fun e=>eval e X.env:=by rfl):PE X (.JoinedStr (e1::e2::es) pos) (tJ ts Str.empty):=by intro pins s σ H Q I h;refine PyProof.Rows.JoinedStr_many ?_;rw[he];exact j5 hp Str.empty pins s σ H Q I h
end
section
variable{X:Cx}{e:Expr}{es:List Expr}{x:Str}{np apos pos:Pos}{t:TA}{C D fI:Addr}
end
end L2
namespace L2
open PySem PySem.Spec PyProof.Rows
open PySem.W(findIn InstAt)
section
variable{prog:Program}{w:World}{A:Around}{E:Value->Shared->Prop}{s:Shared}{env:Env}
variable{nm q:Str}{C N:Addr}{bs bm bmB:List Value}{hdct:Bool}{sn:List Str}{sub:List Value}{ab:Bool}{col:Option Bool}{dd:Option Addr}{k0 k1 k2 k3 k5:Option Value}{B newId initId:String}
end
section
variable{X:Cx}{o value:Expr}{f:Str}{pos pos':Pos}{ta tv:TE}{C:Addr}
end
noncomputable def del(H:Hp)(e:Addr):Hp:=fun b=>if b=e then none else H b
section
variable{X:Cx}{pins:List (Addr×Obj)}{σ:St}{H:Hp}{s:Shared}{e C d:Addr}{fs:List (Str×V)}
end
section
variable{X:Cx}{t:TA}{x:Str}{C fI:Addr}{fd:FuncData}{ps fl:List Str}{k:Nat}{np cpos pos:Pos}{e:Expr}{es:List Expr}
end
end L2
namespace L2
open PySem PySem.Spec PyProof.Rows
section
variable{X:Cx}
inductive TyW(K:W.Frag)(H:Hp):V->Value->Prop where|non:TyW K H .non (.type "NoneType")|bl(x:Bool):TyW K H (.bl x) (.type "bool")|int(i:Int):TyW K H (.int i) (.type "int")|str(x:Str):TyW K H (.str x) (.type "str")|lst{a:Addr}{xs:List V}(e:SqL K H a xs):TyW K H (.ref a) (.type "list")|tup{a:Addr}{xs:List V}(e:SqT K H a xs):TyW K H (.ref a) (.type "tuple")
end
end L2
namespace L2
open PySem PySem.Spec PyProof.Rows
section
variable{prog:Program}{w:World}{A:Around}{E:Value->Shared->Prop}{s:Shared}
end
section
variable{prog:Program}{w:World}{A:Around}{E:Value->Shared->Prop}{s:Shared}
end
section
variable{X:Cx}
end
end L2
namespace WL
open PySem
noncomputable def aiF:List W->Res W|[.exc nm _,.cls d]=>.ok (.bl (aeg nm d))|[.exc _ _,.ty "ValueError"]=>.ok (.bl true)|_=>.bad
@[simp]theorem afd(nm d:String)(fs:List W):aiF [.exc nm fs,.cls d]=.ok (.bl (aeg nm d)):=rfl
@[simp]theorem ahw(nm:String)(fs:List W):aiF [.exc nm fs,.ty "ValueError"]=.ok (.bl true):=rfl
end WL
namespace WL
open PySem
end WL
namespace WL
open PySem
noncomputable def qS(σ:Ws):Ws:=σ.map fun s=>match s with|.ow _=>.no|.od _ _=>.no|s=>s
noncomputable def adg(k:Nat)(it:LF)(g:GF)(t:TF)(e:EF):LF:=fun σ=>(it σ).bind fun xs=>if xs.length<=lim then a6 g t e (List.replicate k .no++qS σ) xs else .bad
noncomputable def qi(k:Nat)(it:LF)(g:GF)(t:TF)(e:EF):EF:=fun σ=>(adg k it g t e σ).bind fun xs=>.ok (.lst xs)
end WL
namespace WS
open PySem PySem.Spec PyProof.Rows L2
open WL(Res Sl Ws EF TF AF LF GF GsF SF Out)
section
variable{K:W.Frag}{FE:Addr}{tab:List (String×Addr)}
end
section
variable{X:Cx}{K:W.Frag}
end
section
variable{X:Cx}{B:Bx}{σ:Ws}{σV:L2.St}{F H:Hp}
end
section
variable{X:Cx}{B:Bx}{x n:Str}{pos np hpos:Pos}
end
end WS
namespace WS
open PySem PySem.Spec PyProof.Rows L2
end WS
namespace WS
open PySem PySem.Spec PyProof.Rows L2
open WL(Res Sl Ws EF TF AF LF GF GsF SF Out)
section
variable{σ:L2.St}{H:Hp}
end
section
variable{P:Program}{w:World}{K:W.Frag}{mg:Str->Option Value}{base:Heap}
end
section
variable{X:Cx}{B:Bx}{k:Nat}{fI C:Addr}{fd:FuncData}{ps:List Str}{x:Str}{p pos np cpos:Pos}{e:Expr}{es:List Expr}{tas:AF}{nm:String}
end
section
variable{X:Cx}{B:Bx}{o:Expr}{f:Str}{pos:Pos}{ta:EF}
end
end WS
namespace WS
open PySem PySem.Spec PyProof.Rows L2
section
variable{K:W.Frag}{a:Addr}{f nm:Str}
end
end WS
namespace WS
open PySem PySem.Spec PyProof.Rows L2
open WL(Res Sl Ws EF TF AF LF GF GsF SF Out)
section
variable{X:Cx}{B:Bx}{e tg iter elt:Expr}{pos:Pos}{ta tb:EF}{tt:TF}{it:LF}{g:GF}{k:Nat}{scope:Scope}{ts:List Str}{ifs:List Expr}
theorem ve{σ:Ws}{σV:L2.St}{F1 H1:Hp}{J:It}{xs:List VW}{Q:V->Hp->Prop}(hg:Keeps k g)(R1:RS B σ σV F1 H1)(wk:Walk B.K J xs F1)(hx:xs.length<=WL.lim)(hb:WL.a6 g tt ta (List.replicate k .no++σ) xs≠.bad)(ex:∀c,WL.a6 g tt ta (List.replicate k .no++σ) xs=.ex c->∀σ' F',Same F1 F'->B.xp c σ' F')(fin:∀all,WL.a6 g tt ta (List.replicate k .no++σ) xs=.ok all->∀ys F' H',RB B F' H'->Gr F1 H1 F' H'->RWs B.K F' all ys->∀D,H' D=none->Q (.ref D) (upd H' D (.lst ys))):rO J (loG true B g) (loT B tt) (lo B ta) (List.replicate k none++σV) H1 Q:=by
 refine⟨fun i m ys σV' H'=>m=xs.length-i/\i<=xs.length/\ys.length<=i/\∃F' pre,RS B (List.replicate k .no++σ) σV' F' H'/\Gr F1 H1 F' H'/\RWs B.K F' pre ys/\WL.a6 g tt ta (List.replicate k .no++σ) xs=(WL.a6 g tt ta (List.replicate k .no++σ) (xs.drop i)).bind fun r=>.ok (pre++r),⟨xs.length,rfl,Nat.zero_le _,Nat.zero_le _,F1,[],R1.ahead k,Gr.refl,by simp[RWs],?_⟩,?_⟩;·rw[List.drop_zero];cases WL.a6 g tt ta (List.replicate k .no++σ) xs<;>rfl
 rintro i m ys σV' H'⟨rfl,hi,hyl,F',pre,R',g',rp,hr⟩;refine⟨Nat.lt_of_le_of_lt (Nat.le_trans hyl (Nat.le_trans hi hx)) (by decide),?_⟩;by_cases hlt:i<xs.length;·have hd:xs.drop i=xs[i]::xs.drop (i+1):=List.drop_eq_getElem_cons hlt;rw[hd]at hr;obtain⟨go,yl⟩:=wk.go i xs[i] (List.getElem?_eq_getElem hlt) F' H' g'.f R'.rb.sub;refine .inr ⟨go,fun ys' σ2 H2=>ys'.length<=i+1/\∃F2 pre,RS B (List.replicate k .no++σ) σ2 F2 H2/\Gr F1 H1 F2 H2/\RWs B.K F2 pre ys'/\WL.a6 g tt ta (List.replicate k .no++σ) xs=(WL.a6 g tt ta (List.replicate k .no++σ) (xs.drop (i+1))).bind fun r=>.ok (pre++r),fun ys' σ2 H2⟨a1,a2⟩=>⟨xs.length-(i+1),by omega,rfl,hlt,a1,a2⟩,fun v H2 hy=>?_⟩;obtain⟨F2,E2,r2⟩:=yl v H2 hy;have sF2:Same F1 F2:=g'.f.trans E2.same;simp only[WL.a6]at hr;refine⟨_,F2,xs[i],E2.rs _ _ _ R',r2,?_⟩;cases e1:g xs[i] (List.replicate k .no++σ)with|bad=>rw[e1]at hr;exact(hb hr).elim|ex c=>rw[e1]at hr;exact ex c hr _ F2 sF2|ok σ1=>
   rw[e1]at hr;obtain⟨kl,kk⟩:=hg _ _ _ e1;intro σV3 H3 F3 R3 g3;have back:∀{F4 H4:Hp},RS B σ1 σV3 F4 H4->RS B (List.replicate k .no++σ) σV3 F4 H4:=fun{F4 H4}R4=>R4.forget kl.symm fun j sl ej ne=>by
    by_cases hj:j<k;·rw[List.getElem?_append_left (by simpa using hj),List.getElem?_replicate,if_pos hj]at ej;exact absurd (Option.some.inj ej).symm ne
    ·rw[kk j (by omega)];exact ej
   have g3':Gr F' H' F3 H3:=E2.gr.trans ⟨g3.f,g3.h rfl,g3.nf⟩;have hr:WL.a6 g tt ta (List.replicate k .no++σ) xs=(((tt σ1).bind fun b=>match b with|true=>(ta σ1).bind fun y=>(WL.a6 g tt ta (List.replicate k .no++σ) (xs.drop (i+1))).bind fun ys=>.ok (y::ys)|false=>WL.a6 g tt ta (List.replicate k .no++σ) (xs.drop (i+1))).bind fun r=>.ok (pre++r)):=hr;refine⟨σ1,F3,R3,?_⟩;cases e2:tt σ1 with|bad=>rw[e2]at hr;exact(hb hr).elim|ex c=>rw[e2]at hr;exact ex c hr _ F3 (g'.f.trans g3'.f)|ok b=>rw[e2]at hr;intro H4 F4 R4 g4;cases b with|false=>rw[if_neg Bool.false_ne_true];exact⟨by omega,F4,pre,back R4,g'.trans (g3'.trans g4),rp.keep (g3'.trans g4).f,hr⟩|true=>rw[if_pos rfl];have hr:WL.a6 g tt ta (List.replicate k .no++σ) xs=(((ta σ1).bind fun y=>(WL.a6 g tt ta (List.replicate k .no++σ) (xs.drop (i+1))).bind fun ys=>.ok (y::ys)).bind fun r=>.ok (pre++r)):=hr;refine⟨σ1,F4,R4,?_⟩;cases e3:ta σ1 with|bad=>rw[e3]at hr;exact(hb hr).elim|ex c=>rw[e3]at hr;exact ex c hr _ F4 (g'.f.trans (g3'.trans g4).f)|ok y=>rw[e3]at hr;intro u H5 F5 R5 g5 r5;refine⟨by rw[List.length_append,List.length_singleton];omega,F5,pre++[y],back R5,g'.trans ((g3'.trans g4).trans g5),(rp.keep ((g3'.trans g4).trans g5).f).app (.one r5),?_⟩;rw[hr];cases WL.a6 g tt ta (List.replicate k .no++σ) (xs.drop (i+1))with|ok zs=>show Res.ok _=Res.ok _;rw[List.append_assoc];rfl|ex c=>rfl|bad=>rfl
 ·have ei:i=xs.length:=by omega
  subst ei;rw[List.drop_length]at hr;have hr:WL.a6 g tt ta (List.replicate k .no++σ) xs=.ok (pre++[]):=hr;rw[List.append_nil]at hr;exact .inl ⟨wk.stop F' H' g'.f R'.rb.sub,fun D hD=>fin pre hr ys F' H' R'.rb g' rp D hD⟩
theorem RS.qS{B':Bx}{σ:Ws}{σV:L2.St}{F H:Hp}(R:RS B σ σV F H)(hk:B'.K=B.K)(h0:B'.H0=H)(f0:B'.F0=F):RS B' (WL.qS σ) σV F H:=by
 have at':∀{i:Nat}{sl:Sl},(WL.qS σ)[i]?=some sl->(∀w,sl=.va w->σ[i]?=some (.va w))/\(∀ws,sl≠.ow ws)/\(∀ks us,sl≠.od ks us)/\(sl=.ob->σ[i]?=some .ob):=fun{i sl}e=>by unfold WL.qS at e;rw[List.getElem?_map]at e;cases es:σ[i]? with|none=>rw[es]at e;cases e|some s0=>rw[es]at e;have e:=Option.some.inj e;subst e;cases s0 with|no=>exact⟨fun w z=>(by cases z),fun ws z=>(by cases z),fun ks us z=>(by cases z),fun z=>(by cases z)⟩|va w=>exact⟨fun w' z=>(by cases z;rfl),fun ws z=>(by cases z),fun ks us z=>(by cases z),fun z=>(by cases z)⟩|ow ws=>exact⟨fun w z=>(by cases z),fun ws z=>(by cases z),fun ks us z=>(by cases z),fun z=>(by cases z)⟩|od ks us=>exact⟨fun w z=>(by cases z),fun ws z=>(by cases z),fun ks us z=>(by cases z),fun z=>(by cases z)⟩|ob=>exact⟨fun w z=>(by cases z),fun ws z=>(by cases z),fun ks us z=>(by cases z),fun z=>rfl⟩
 refine⟨⟨R.rb.sub,h0▸Same.refl _,f0▸Same.refl _,fun a o e=>.inl (f0▸e)⟩,by rw[<-R.len];simp[WL.qS],fun i w e=>?_,fun i ws e=>((at' e).2.1 ws rfl).elim,fun i j ws ws' a _ e1=>((at' e1).2.1 ws rfl).elim,fun i ks us e=>((at' e).2.2.1 ks us rfl).elim,fun i j ks us _ _ a _ e1=>((at' e1).2.2.1 ks us rfl).elim,fun i e=>R.dd.ob i ((at' e).2.2.2 rfl)⟩;rw[hk];exact R.va i w ((at' e).1 w rfl)
theorem xn{B':Bx}{F1 H1 F' H':Hp}(rb:RB B' F' H')(h0:B'.H0=H1)(f0:B'.F0=F1):Gr F1 H1 F' H':=by subst h0 f0;refine⟨rb.fz0,rb.base,fun a o eh ef=>?_⟩;cases e2:F' a with|none=>rfl|some o2=>
 rcases rb.fr a o2 e2 with z|z;·rw[ef]at z;cases z
 ·rw[eh]at z;cases z.1
theorem tD{B':Bx}{σ:Ws}{σV:L2.St}{F1 H1 F' H':Hp}(R:RS B σ σV F1 H1)(rb:RB B' F' H')(h0:B'.H0=H1)(f0:B'.F0=F1):RB B F' H':=by
 subst h0 f0;refine⟨rb.sub,R.rb.base.trans rb.base,R.rb.fz0.trans rb.fz0,fun a o e=>?_⟩;rcases rb.fr a o e with z|z;·exact R.rb.fr a o z
 ·exact .inr ⟨R.rb.base.free z.1,z.2⟩
theorem kd(hst:X.stack=X.env::X.outer)(hfr:X.env.frame=some X.env.locals)(hK:X.K=B.K)(hx:XW X B)(L:CompLook X scope)(hc:X.calm=true)(hk:ts.length=k)(hg:Keeps k g)(hi:PI X tg iter (loI B it))(hT1:∀C s₂ H₂ fp E(B':Bx),B'.K=X.K->XW ((X.comp scope C ts s₂ H₂ fp).tri E []) B'->PG ((X.comp scope C ts s₂ H₂ fp).tri E []) tg (loG true B' g))(hT2:∀C s₂ H₂ fp E(B':Bx),B'.K=X.K->XW ((X.comp scope C ts s₂ H₂ fp).tri E []) B'->aaW ((X.comp scope C ts s₂ H₂ fp).tri E []) ifs (loT B' tt))(hT3:∀C s₂ H₂ fp E(B':Bx),B'.K=X.K->XW ((X.comp scope C ts s₂ H₂ fp).tri E []) B'->PE ((X.comp scope C ts s₂ H₂ fp).tri E []) elt (lo B' ta))(hs:∀x,foldedSetIterable iter X.env x=pure x:=by intro _;rfl):PE X (.ListComp elt [⟨tg,iter,ifs,0⟩] scope pos) (lo B (WL.qi k it g tt ta)):=by
 subst hk;intro pins s σV H Q I⟨σ,F,R,q⟩;have S:CompScope X scope ts:=L.scope;have hclos:closureFor scope X.env=pure (bI X.env.cells scope.names []):=gi fun y hy hf=>by obtain⟨c,hc⟩:=I.ok.has y.1 (S.free y hy hf);rw[hc];rfl
 have q:=Rq.bind (Rq.bind q);rw[eval_ListComp];refine wpAny_comprehension_free (use:=none) rfl hs hclos S.kind S.names (thn (hi pins s σV H (fun J H1=>∃F1 xs,RS B σ σV F1 H1/\Gr F H F1 H1/\Walk B.K J xs F1/\Rq B σ F (if xs.length<=WL.lim then WL.a6 g tt ta (List.replicate ts.length .no++WL.qS σ) xs else .bad) fun ys=>∀v H' F',RS B σ σV F' H'->Gr F H F' H'->RW B.K F' (.lst ys) v->Q v H') I ⟨σ,F,R,Rq.mono (Same.refl _) q fun xs qx J H1 F1 R1 g1 wk=>⟨F1,xs,R1,g1,wk,?_⟩⟩) fun xv s1 h1=>thn h1 fun itv s2 h2=>?_);·exact qx
 obtain⟨it,fp,tn,J,H2,e,I2,T,st2,f2,F1,xs,R1,g1,wk,qx⟩:=h2;subst e;by_cases hxl:xs.length<=WL.lim
 ·rw[if_pos hxl]at qx;let B':Bx:=⟨B.K,H2,F1,fun c _ F'=>B.xp c σ F',fun c _ F' F'' sm h=>B.mono c σ F' F'' sm h⟩;let EC:Addr->Value->Shared->Prop:=fun C v s'=>∃(e Ce:Addr)(dx:Option Addr)(fl:Value)(T:Option Addr)(σV':L2.St)(H' F':Hp)(c:VW),v=.ref e/\Thr (X.comp scope C ts s2 H2 fp) [] σV' H' s' e Ce dx fl T/\RB B' F' H'/\B.xp c σ F'/\XR X.K F' c Ce dx;have xw:∀C,XW ((X.comp scope C ts s2 H2 fp).tri (EC C) []) B':=fun C pins' σV' H' s' σ' F' c R' xp e Ce dx T fl t xr=>⟨e,Ce,dx,fl,T,σV',H',F',c,rfl,Thr.lr (X:=X.comp scope C ts s2 H2 fp) (pins:=[]) t,R'.rb,xp,xr⟩;have hW:rO J (loG true B' g) (loT B' tt) (lo B' ta) (List.replicate ts.length none++σV) H2 Q:=by
   refine ve hg (R1.qS rfl rfl rfl) wk hxl (fun z=>by rw[z]at qx;exact qx) (fun c z σ' F' sm=>?_) fun all z ys F' H' rb g' r D hD=>?_;·rw[z]at qx;exact B.mono c σ F F' (g1.f.trans sm) qx
   ·rw[z]at qx;have rb':RB B F' H':=tD R1 rb rfl rfl;have R':=R1.grow g' rb';exact qx (.ref D) _ _ (R'.new hD _) (g1.trans (g'.trans (Gr.new (rb'.sub.free hD) hD _))) (by simp only[RW];exact⟨D,ys,rfl,SqL.of ag,r.keep (ao (rb'.sub.free hD) _)⟩)
  refine j9 (Q:=Q) (RR:=fun acc C=>compPost (model X.prog X.w) X.A X.xe none (EP X pins σV Q) acc C) S EC (fun _ _ _=>hc) (fun C=>hT1 C s2 H2 fp (EC C) B' hK.symm (xw C)) (fun C=>hT2 C s2 H2 fp (EC C) B' hK.symm (xw C)) (fun C=>hT3 C s2 H2 fp (EC C) B' hK.symm (xw C)) I2 T st2 f2 hW.c ?_ ?_;·intro C D H' s' m ys hCD hC hD hn hCn I' q;refine⟨m,hn,fun h' hs'=>?_⟩;have hCL:C≠X.env.locals:=Nat.ne_of_gt (Nat.lt_of_lt_of_le I2.lt hC);have I'':Inv X pins σV (upd H' D (.lst ys)) {s' with heap:=h'}:=I'.turned (t':=s'.toks) (it:=C) (fun b o hb e=>(hs'.2 b hb).trans e) (by rw[ae hCD];exact hCn) hCL (.inr (Nat.le_trans I2.sz hC)) (fun x c e=>by obtain⟨v,q⟩:=I2.cell x c e;exact Nat.ne_of_lt (Nat.lt_of_lt_of_le q.lt hC)) (fun p hp=>Nat.ne_of_lt (Nat.lt_of_lt_of_le (Heap.lt_size (I2.pin p hp).1) hC));exact⟨.ref D,_,I'',rfl,q⟩
  ·rintro C D _ s' hC⟨e,Ce,dx,fl,T,σV',H',F',c,rfl,t,rb,xp,xr⟩;have J':Inv X pins σV H' s':=I2.aaP (ch:=fp) t.inv.os t.inv.base t.inv.hok t.inv.bare fun b hb=>⟨(f2 b hb).2.2.2.1,(f2 b hb).2.1,(f2 b hb).2.2.2.2.1,(f2 b hb).2.2.2.2.2⟩;obtain⟨m,hnsC,_⟩:=t.inv.loc;obtain⟨oC,es,ep,hoC,hdC⟩:=id hnsC;have hHC:H' C=none:=t.inv.free;have hCL:C≠X.env.locals:=Nat.ne_of_gt (Nat.lt_of_lt_of_le I2.lt hC);have new0:s2.heap.get? C=none:=Heap.get?_none_of_le hC;have fC:FpX X pins H' C:=I2.fpX new0 hHC;have ncell:∀v,oC.data≠.cell v:=fun v z=>by obtain⟨hd,_⟩:=hdC;rw[hd]at z;cases z
   have J2:Inv X (pins++[(C,oC)]) σV H' s':=J'.eJ fun p hp=>by
    rcases List.mem_append.mp hp with hp|hp;·exact J'.pin p (List.mem_append_right _ hp)
    ·obtain rfl:p=(C,oC):=by simpa using hp
     exact⟨hoC,hHC,hCL,fC.2.2.1,ncell⟩
   have newB:∀b,FpX (X.comp scope C ts s2 H2 fp) [] H' b->FpX X pins H' b/\b≠C:=fun b z=>by
    refine⟨?_,z.2.1⟩;rcases z.2.2.2.1 with hb|hb;·have f:=f2 b hb;exact⟨z.1,f.2.1,f.2.2.1,f.2.2.2.1.imp (fun w=>w) fun w=>Heap.get?_none_of_le w,f.2.2.2.2.1,f.2.2.2.2.2⟩
    ·exact I2.fpX hb z.1
   have add:∀b,FpX X pins H' b->b≠C->FpX X (pins++[(C,oC)]) H' b:=fun b z ne=>⟨z.1,z.2.1,z.2.2.1,z.2.2.2.1,z.2.2.2.2.1,fun p hp=>by
    rcases List.mem_append.mp hp with hp|hp;·exact z.2.2.2.2.2 p (List.mem_append_left _ hp)
    ·rcases List.mem_append.mp hp with hp|hp;·exact z.2.2.2.2.2 p (List.mem_append_right _ hp)
     ·obtain rfl:p=(C,oC):=by simpa using hp
      exact Ne.symm ne⟩;have te:=newB e t.fe;have t1:Thr X (pins++[(C,oC)]) σV H' s' e Ce dx fl T:=⟨J2,t.trc,add e te.1 te.2,fun b hb=>add b (newB b (t.fT b hb)).1 (newB b (t.fT b hb)).2⟩;show wpAny (model X.prog X.w) X.A (noteFrame (.ref e) X.env) _ _ s';refine t1.note hst hfr fun h1' T1 fl1 t2=>?_;have pC:=(t2.inv.pin (C,oC) (by simp)).1;refine⟨m,⟨oC,es,ep,pC,hdC⟩,fun h' hs' cenv _=>?_⟩;have drop:∀b,FpX X (pins++[(C,oC)]) H' b->FpX X pins H' b/\b≠C:=fun b z=>⟨⟨z.1,z.2.1,z.2.2.1,z.2.2.2.1,z.2.2.2.2.1,fun p hp=>by
    rcases List.mem_append.mp hp with hp|hp;·exact z.2.2.2.2.2 p (List.mem_append_left _ hp)
    ·exact z.2.2.2.2.2 p (List.mem_append_right _ (List.mem_append_left _ hp))⟩,fun w=>z.2.2.2.2.2 (C,oC) (by simp) w.symm⟩;have J3:Inv X pins σV H' {s' with heap:=h1'}:=t2.inv.eJ fun p hp=>t2.inv.pin p (List.mem_append_right _ (List.mem_append_left _ hp));have J4:Inv X pins σV H' {s' with heap:=h'}:=Inv.turned (s:={s' with heap:=h1'}) (t':=s'.toks) (it:=C) J3 (fun b o hb e=>(hs'.2 b hb).trans e) hHC hCL (.inr (Nat.le_trans I2.sz hC)) fC.2.2.2.2.1 fC.2.2.2.2.2;have t3:Thr X pins σV H' {s' with heap:=h'} e Ce dx fl1 (some T1):=⟨J4,t2.trc.keeps fun b o hb q=>(hs'.2 b (by
    rcases hb with rfl|hb;·exact(drop _ t2.fe).2
    ·exact(drop b (t2.fT b hb)).2)).trans q,(drop e t2.fe).1,fun b hb=>(drop b (t2.fT b hb)).1⟩;refine t3.pass fun h'' fl2 t4=>?_;have rb':RB B F' H':=tD R1 rb rfl rfl;exact hx pins σV H' _ σ F' c (R1.grow (xn rb rfl rfl) rb') xp e Ce dx (some T1) fl2 t4 xr
 ·rw[if_neg hxl]at qx;exact(show False from qx).elim
end
section
variable{X:Cx}{B:Bx}{ta tb:EF}
end
end WS
namespace WS
open PySem PySem.Spec PyProof.Rows L2
open WL(Res Sl Ws EF TF AF LF GF GsF SF Out)
section
variable{X:Cx}{K:W.Frag}
end
section
variable{X:Cx}{B:Bx}{K:W.Frag}{o e:Expr}{es:List Expr}{to ta:EF}{tas:AF}{pos apos cpos:Pos}
end
section
variable{X:Cx}{B:Bx}{ta:EF}
end
section
variable{X:Cx}{B:Bx}{k:Nat}{f:Addr}{fd:FuncData}{ps:List Str}{fn:List VW->Res VW}{x:Str}{p pos:Pos}{e:Expr}{es:List Expr}{tas:AF}{n:Nat}{dws:List VW}{dvs:List V}{ds:List Value}
end
section
variable{P:Program}{w:World}{K:W.Frag}{mg:Str->Option Value}{base:Heap}
end
section
variable{P:List Value->Prop}
theorem us0(h:P []):∀us:List Value,us.length=0->P us:=fun us e=>by rw[List.length_eq_zero_iff.mp e];exact h
theorem us1(h:∀a0,P [a0]):∀us:List Value,us.length=1->P us:=fun us e=>by cases us with|nil=>cases e|cons a t=>exact us0 (P:=fun t=>P (a::t)) (h a) t (Nat.succ.inj e)
theorem us2(h:∀a0 a1,P [a0,a1]):∀us:List Value,us.length=2->P us:=fun us e=>by cases us with|nil=>cases e|cons a t=>exact us1 (P:=fun t=>P (a::t)) (fun a1=>h a a1) t (Nat.succ.inj e)
theorem us3(h:∀a0 a1 a2,P [a0,a1,a2]):∀us:List Value,us.length=3->P us:=fun us e=>by cases us with|nil=>cases e|cons a t=>exact us2 (P:=fun t=>P (a::t)) (fun a1 a2=>h a a1 a2) t (Nat.succ.inj e)
end
end WS
namespace WS
open PySem PySem.Spec PyProof.Rows L2
open WL(Res Sl Ws EF TF AF LF GF GsF SF Out)
noncomputable def AtD(K:W.Frag)(nm:Str)(st:Stmt):Prop:=∃(f:Addr)(fd:FuncData),Fun K nm nm st f fd/\W.nsIn K mainGlobals nm=some (some (.ref f))
noncomputable def Cal(P:Program)(w:World)(K:W.Frag)(mg:Str->Option Value)(base:Heap)(CX:CXT)(k:Nat)(nm:Str)(ps:List Str)(ds:List Value)(sp:Sp):Prop:=∃(f:Addr)(fd:FuncData),FnOk P w K mg base CX k f fd ps sp/\mg nm=some (.ref f)/\W.keepIn K (.ref f)=true/\Binds K fd ps []/\Binds K fd ps ds
section
variable{P:Program}{w:World}{K:W.Frag}{mg:Str->Option Value}{base:Heap}{CX:CXT}{k:Nat}{nm:Str}{ps:List Str}{sp:Sp}{st:Stmt}
theorem aaS{f:Addr}{oc:Value}{od an:Option Addr}{osl:Array (Option Value)}{kV doc pm cdv ct:Value}(a:W.nsIn K mainGlobals nm=some (some (.ref f)))(l:K.lookup f=some ⟨oc,od,.func (W.fnOf nm nm (bG st) (aO st) (af st) .none kV doc pm an cdv ct),osl⟩)(c:W.codeIn K cdv nm=true)(q:W.keepIn K (.ref f)=true):AtD K nm st:=⟨f,_,qf l c q,a⟩
theorem AtD.cal(D:AtD K nm st)(hm:∀nm v,W.nsIn K mainGlobals nm=some (some v)->mg nm=some v)(hb:∀(kV doc pm:Value)(an:Option Addr)(cdv ct:Value)(us:List Value),us.length=ps.length->bindArgs (W.fnOf nm nm (bG st) (aO st) (af st) .none kV doc pm an cdv ct) ⟨us,[]⟩=pure (ps.zip us))(h:∀(f:Addr)(fd:FuncData),Fun K nm nm st f fd->FnOk P w K mg base CX k f fd ps sp):Cal P w K mg base CX k nm ps [] sp:=by obtain⟨f,fd,F,a⟩:=D;exact⟨f,fd,h f fd F,hm _ _ a,F.kp,F.binds hb,F.binds hb⟩
end
section
variable{X:Cx}{B:Bx}{k j:Nat}{ps:List Str}{ds:List Value}{fn:List VW->Res VW}{x:Str}{p pos:Pos}{e:Expr}{es:List Expr}{tas:AF}{n:Nat}{dws:List VW}{dvs:List V}
theorem cl(hB:B.K=X.K)(hr:Room j X.A)(C:Cal X.prog X.w X.K X.mg X.base CX0 k x ps ds (spW X.K n fn))(ha:PA X (e::es) (loA B tas))(hk:k<=j:=by decide)(hn:∀σ ws,tas σ=.ok ws->ws.length=n:=by repeat first|exact vo|apply oN)(hg:Gl X x:=by rfl)(hdb:(x==("__debug__":Str))=false:=by decide)(he:starEach (e::es) X.env=(false,eval e X.env)::starEach es X.env:=by rfl)(hpl:(backTo pos (starEach es X.env)).any (·.1)=false:=by rfl):PE X (.Call (.Name x p) (e::es) [] pos) (lo B (WL.bF fn tas)):=by obtain⟨f,fd,G,m,q,b,_⟩:=C;exact yV hB.symm G (hr.mono hk) hg m q b ha hn hdb he hpl
theorem clX(hB:B.K=X.K)(hr:Room j X.A)(hx:XW X B)(C:Cal X.prog X.w X.K X.mg X.base (CXX X.prog X.w) k x ps ds (spX X.K n fn))(ha:PA X (e::es) (loA B tas))(hk:k<=j:=by decide)(hn:∀σ ws,tas σ=.ok ws->ws.length=n:=by repeat first|exact vo|apply oN)(hg:Gl X x:=by rfl)(hdb:(x==("__debug__":Str))=false:=by decide)(he:starEach (e::es) X.env=(false,eval e X.env)::starEach es X.env:=by rfl)(hpl:(backTo pos (starEach es X.env)).any (·.1)=false:=by rfl):PE X (.Call (.Name x p) (e::es) [] pos) (lo B (WL.aP fn tas)):=by obtain⟨f,fd,G,m,q,b,_⟩:=C;exact vI hB.symm hx G (hr.mono hk) hg m q b ha hn hdb he hpl
end
theorem bind1{fd:FuncData}{ps:List Str}(h:∀a0,bindArgs fd ⟨[a0],[]⟩=pure (ps.zip [a0]))(us:List Value)(e:us.length=1):bindArgs fd ⟨us,[]⟩=pure (ps.zip us):=us1 (P:=fun us=>bindArgs fd ⟨us,[]⟩=pure (ps.zip us)) h us e
theorem oI{fd:FuncData}{ps:List Str}(h:∀a0 a1,bindArgs fd ⟨[a0,a1],[]⟩=pure (ps.zip [a0,a1]))(us:List Value)(e:us.length=2):bindArgs fd ⟨us,[]⟩=pure (ps.zip us):=us2 (P:=fun us=>bindArgs fd ⟨us,[]⟩=pure (ps.zip us)) h us e
theorem rL{fd:FuncData}{ps:List Str}(h:∀a0 a1 a2,bindArgs fd ⟨[a0,a1,a2],[]⟩=pure (ps.zip [a0,a1,a2]))(us:List Value)(e:us.length=3):bindArgs fd ⟨us,[]⟩=pure (ps.zip us):=us3 (P:=fun us=>bindArgs fd ⟨us,[]⟩=pure (ps.zip us)) h us e
theorem cm{k:Nat}{A:Around}{env:Env}(r:Room k (A.deeper env))(h:40<=k:=by first|decide|omega|exact Nat.le_trans (show 40<=_ by decide) (Nat.le_add_right _ _)):A.handled.isNone=true:=r.calm h
section
variable{X:Cx}{B:Bx}{a b e:Expr}{ta tb:EF}{pos:Pos}{x:Str}
theorem va(i:Nat)(hN:X.N[i]?=some x:=by rfl)(hv:Vis X.env.scope x:=by first|exact Or.inl rfl|exact Or.inr (Or.inl rfl)|exact Or.inr (Or.inr rfl))(hd:(x==("__debug__":Str))=false:=by decide)(hcd:(x==("__classdict__":Str))=false:=by decide):PE X (.Name x pos) (lo B (WL.ah i)):=abp (pv i hN hv hd hcd)
theorem wx(hB:B.K=X.K)(ha:PE X a (lo B ta))(hb:PE X b (lo B tb))(hs:kU b:=by exact fun _ _=>rfl):PE X (.Subscript a b pos) (lo B (WL.eOp WL.oIx ta tb)):=abq oE (ahI hB.symm) ha hb hs
theorem wk{v:V}{u:Value}{w:VW}(hB:B.K=X.K)(hm:X.mg x=some u)(r:RelV v u)(hw:∀F,RW X.K F w v)(hg:Gl X x:=by rfl)(hd:(x==("__debug__":Str))=false:=by decide):PE X (.Name x pos) (lo B (WL.eC w)):=aa0 (zG hg hm r hd) (by rw[hB];exact hw)
theorem wty{T:String}(hm:X.mg x=none)(hv:bootBuiltins x=some (.type T))(hg:Gl X x:=by rfl)(hn:x≠"__name__":=by decide)(hd:(x==("__debug__":Str))=false:=by decide):PE X (.Name x pos) (lo B (WL.eC (.ty T))):=aa0 (af1 hg hm hv hn hd) (fun _=>by simp[RW])
theorem we2(hB:B.K=X.K)(hu:X.A.units+64<cLine)(ha:PE X a (lo B ta))(hb:PE X b (lo B tb)):PT X (.Compare a [.Eq] [b] pos) (loT B (WL.tB (WL.eOp WL.oEq ta tb))):=ba calm_eq (w_eq hB.symm hu) ha hb (bR _)
theorem wn2(hB:B.K=X.K)(hu:X.A.units+64<cLine)(ha:PE X a (lo B ta))(hb:PE X b (lo B tb)):PT X (.Compare a [.NotEq] [b] pos) (loT B (WL.tB (WL.eOp WL.oNe ta tb))):=ba aaO (aiL hB.symm hu) ha hb (bR _)
theorem wS(i:Nat){pos':Pos}(hN:X.N.Nodup)(he:PE X e (lo B ta))(hi:X.N[i]?=some x:=by rfl)(hx:Loc X.env.scope x:=by first|exact Or.inl rfl|exact Or.inr rfl)(hs:swapsWith e (some (.Name x pos')) pos.line X.env=pure false:=by rfl)(hf:X.fn x=true\/X.env.scope.names.lookup x=some .local:=by first|exact .inl rfl|exact .inr rfl|assumption):PS X (.Assign [.Name x pos'] e pos) (loS B (WL.eG i ta)):=abj hN hi hx he hs hf
theorem gN(i:Nat){b:Bool}(hN:X.N.Nodup:=by exact pT rfl)(hi:X.N[i]?=some x:=by rfl)(hx:Loc X.env.scope x:=by first|exact Or.inl rfl|exact Or.inr rfl)(hf:X.fn x=true\/X.env.scope.names.lookup x=some .local:=by first|exact .inl rfl|exact .inr rfl|assumption):PG X (.Name x pos) (loG b B (WL.ay i)):=yS (fv hN hi hx hf)
end
section
variable{X:Cx}{B:Bx}{r:List VW->Res VW}{tas:AF}{x:Str}{e:Expr}{es:List Expr}{p pos:Pos}{id:String}
theorem wB(cm:∀xs c,r xs≠.ex c)(hc:bz X (.builtin id) (loN B.K r))(hm:X.mg x=none)(hv:bootBuiltins x=some (.builtin id))(ha:PA X (e::es) (loA B tas))(hg:Gl X x:=by rfl)(hn:x≠"__name__":=by decide)(hdb:(x==("__debug__":Str))=false:=by decide)(he:starEach (e::es) X.env=(false,eval e X.env)::starEach es X.env:=by rfl)(hpl:(backTo pos (starEach es X.env)).any (·.1)=false:=by rfl):PE X (.Call (.Name x p) (e::es) [] pos) (lo B (WL.eBi r tas)):=abt cm (pK hc hg hm hv ha hn hdb he hpl)
theorem wT(cm:∀xs c,r xs≠.ex c)(hc:bz X (.type id) (loN B.K r))(hm:X.mg x=none)(hv:bootBuiltins x=some (.type id))(ha:PA X (e::es) (loA B tas))(hg:Gl X x:=by rfl)(hn:x≠"__name__":=by decide)(hdb:(x==("__debug__":Str))=false:=by decide)(he:starEach (e::es) X.env=(false,eval e X.env)::starEach es X.env:=by rfl)(hpl:(backTo pos (starEach es X.env)).any (·.1)=false:=by rfl):PE X (.Call (.Name x p) (e::es) [] pos) (lo B (WL.eBi r tas)):=abt cm (tU hc hg hm hv ha hn hdb he hpl)
end
section
variable{K:W.Frag}
theorem jU{a:Addr}{d:Option Addr}{n:Nat}{sl:Array (Option Value)}{vs:Array Value}{xs:List V}(l:K.lookup a=some ⟨.type "tuple",d,.seq vs n,sl⟩)(hv:Vals xs vs.toList)(hn:vs.size<=sizeLine):∀H,SqT K H a xs:=fun _=>.inr ⟨_,_,_,l,rfl,rfl,hn,hv⟩
theorem adH{f:Addr}{qual:Str}{st:Stmt}{oc:Value}{od an:Option Addr}{osl:Array (Option Value)}{kV doc pm cdv ct:Value}(l:K.lookup f=some ⟨oc,od,.func (W.fnOf "__init__" qual (bG st) (aO st) (af st) .none kV doc pm an cdv ct),osl⟩)(c:W.codeIn K cdv qual=true)(q:W.keepIn K (.ref f)=true):∃fd,Fun K "__init__" qual st f fd:=⟨_,qf l c q⟩
theorem qg{a:Addr}{s:String}(h:W.excIn K a [.type "ValueError",.type "Exception",.type "BaseException",.type "object"] s=true):W.excIn K a lq s=true:=h
end
theorem adf{P:Program}{w:World}{K:W.Frag}{mg:Str->Option Value}{k:Nat}{fn:List VW->Res VW}{st:Stmt}{fa:Addr}{ps:List Str}(D:AtD K "law" st)(hm:∀nm v,W.nsIn K mainGlobals nm=some (some v)->mg nm=some v)(hfa:mg "law"=some (.ref fa)){x:Str}(hb:∀(kV doc pm:Value)(an:Option Addr)(cdv ct v:Value),bindArgs (W.fnOf "law" "law" (bG st) (aO st) (af st) .none kV doc pm an cdv ct) ⟨[v],[]⟩=pure [(x,v)])(h:∀(base:Heap)(f:Addr)(fd:FuncData),Fun K "law" "law" st f fd->FnOk P w K mg base CX0 k f fd ps (spW K 1 fn))(hl:∀ns:List Int,ns.length<=63->fn [.lst (ns.map .int)]=.ok (.bl true)):∃fd:FuncData,(∀(s:Shared)(v:Value),BindsTo s fd ⟨[v],[]⟩ [(x,v)])/\∀base:Heap,K.In base->base.Ns mainGlobals mg->FnOk P w K mg base CX0 k fa fd ps (sQ K):=by obtain⟨f,fd,F,a⟩:=D;have e:=hfa.symm.trans (hm _ _ a);cases e;refine⟨fd,fun s v=>?_,fun base _ _=>ade (h base _ _ F) hl⟩;obtain⟨oc,od,kV,doc,pm,an,cdv,ct,osl,rfl,lk,hcd⟩:=F.ex;exact .of_eq (hb kV doc pm an cdv ct v)
end WS
namespace WL
open PySem
noncomputable def dd:List (List Int)->List (List Int):=List.foldl (fun acc k=>if k∈acc then acc else k::acc) []
end WL
namespace WL
open PySem
mutual noncomputable def eM:W->List (List W)|.tup xs=>aA xs|.lst xs=>xs::aA xs|_=>[]noncomputable def aA:List W->List (List W)|[]=>[]|x::xs=>eM x++aA xs end
mutual noncomputable def aF:W->Bool|.tup xs=>ar xs|.lst xs=>ar xs|.dic _ _=>false|.cls _=>false|.exc _ _=>false|.ins _ _=>false|_=>true noncomputable def ar:List W->Bool|[]=>true|x::xs=>aF x&&ar xs end
noncomputable def cI:List W->List W|.ins _ [.dic ks us]::r=>ks++(us++cI r)|w::r=>w::cI r|[]=>[]
noncomputable def sJ(i:Nat)(ws:List W)(s:List W->SF)(σ:Ws):Res W->Out|.ok w=>if ar (cI ws)=true then s (cI ws) (σ.set i (.va w))else .bad|_=>.bad
noncomputable def zo(i:Nat)(f:List W->Res W)(a:AF)(s:List W->SF):SF:=fun σ=>ofR σ (a σ) fun ws=>sJ i ws s σ (f ws)
noncomputable def afT:Out->Out|.rt w=>.rt w|_=>.bad
noncomputable def px(t:TF)(a b:SF):SF:=fun σ=>ofR σ (t σ) fun x=>match x with|true=>afT (a σ)|false=>b σ
end WL
namespace WS
open PySem PySem.Spec PyProof.Rows L2
open WL(Res Sl Ws EF TF AF LF GF GsF SF Out)
noncomputable def noL(K:W.Frag):Bool:=K.all fun p=>match p.2.cls with|.type n=>n !="list"|_=>true
theorem ym:∀{K:W.Frag},noL K=true->∀{a:Addr}{o:Obj},K.lookup a=some o->o.cls≠.type "list"
|[],_,a,o,e=>by simp at e|(b,u)::K,h,a,o,e=>by
 simp only[noL,List.all_cons,Bool.and_eq_true]at h;rw[List.lookup_cons]at e;split at e;·cases e;intro z;have h1:=h.1;rw[z]at h1;simp at h1
 ·exact ym h.2 e
theorem SqL.here{K:W.Frag}{F:Hp}{a:Addr}{vs:List V}(h:noL K=true)(q:SqL K F a vs):Rd F a (.lst vs):=by
 rcases q with q|⟨o,its,n,hk,hc,_⟩;·exact q
 ·exact absurd hc (ym h hk)
noncomputable def uni(G G':Hp):Hp:=fun a=>match G a with|some o=>some o|none=>G' a
theorem kf{G G':Hp}:Same G (uni G G'):=fun a o e=>by unfold uni;rw[e]
theorem iL{G G' F:Hp}(h:Same G F)(h':Same G' F):Same G' (uni G G'):=fun a o e=>by unfold uni;cases e1:G a with|none=>exact e|some u=>rw[<-h a u e1,h' a o e]
theorem lu{G G':Hp}{a:Addr}{o:HO}(e:uni G G' a=some o):G a=some o\/G a=none/\G' a=some o:=by unfold uni at e;cases e1:G a with|none=>rw[e1]at e;exact .inr ⟨rfl,e⟩|some u=>rw[e1]at e;exact .inl e
theorem fK{G G' F:Hp}(h:Same G F)(h':Same G' F):Same (uni G G') F:=fun a o e=>by
 rcases lu e with e|⟨_,e⟩;·exact h a o e
 ·exact h' a o e
theorem o1{G G':Hp}{a:Addr}{u:HO}(e:Rd (uni G G') a u):Rd G a u\/Rd G' a u:=by
 rcases e with e|⟨o,e⟩
 ·rcases lu e with e|⟨_,e⟩;·exact .inl (.inl e)
  ·exact .inr (.inl e)
 ·rcases lu e with e|⟨_,e⟩;·exact .inl (.inr ⟨o,e⟩)
  ·exact .inr (.inr ⟨o,e⟩)
noncomputable def one(a:Addr)(o:HO):Hp:=fun b=>if b=a then some o else none
theorem i6{a b:Addr}{o u:HO}(e:one a o b=some u):b=a/\u=o:=by
 unfold one at e;split at e;·rename_i h;cases e;exact⟨h,rfl⟩
 ·cases e
theorem one_le{a:Addr}{o:HO}{F:Hp}(h:F a=some o):Same (one a o) F:=fun b u e=>by obtain⟨rfl,rfl⟩:=i6 e;exact h
theorem iD{a:Addr}{o:HO}:one a o a=some o:=if_pos rfl
section
variable{K:W.Frag}{F:Hp}
noncomputable def Sm(K:W.Frag)(F G:Hp)(ls:List (List VW)):Prop:=∀a vs,Rd G a (.lst vs)->∃l∈ls,RWs K F l vs
theorem fu{a:Addr}{u:HO}(h:Rd (fun _=>none) a u):False:=by rcases h with h|⟨_,h⟩<;>cases h
mutual theorem small:∀(w:VW)(v:V),WL.aF w=true->RW K F w v->∃G,Same G F/\RW K G w v/\Sm K F G (WL.eM w)
|.non,v,_,h=>⟨fun _=>none,fun _ _ e=>(by cases e),by simpa only[RW]using h,fun _ _ e=>(fu e).elim⟩|.bl _,v,_,h=>⟨fun _=>none,fun _ _ e=>(by cases e),by simpa only[RW]using h,fun _ _ e=>(fu e).elim⟩|.int _,v,_,h=>⟨fun _=>none,fun _ _ e=>(by cases e),by simpa only[RW]using h,fun _ _ e=>(fu e).elim⟩|.str _,v,_,h=>⟨fun _=>none,fun _ _ e=>(by cases e),by simpa only[RW]using h,fun _ _ e=>(fu e).elim⟩|.ty _,v,_,h=>⟨fun _=>none,fun _ _ e=>(by cases e),by simpa only[RW]using h,fun _ _ e=>(fu e).elim⟩|.tup ws,v,f,h=>by
  simp only[RW]at h;obtain⟨a,vs,rfl,q,r⟩:=h;obtain⟨G,s,rg,sm⟩:=lE ws vs (by simpa only[WL.aF]using f) r;rcases q with q|q
  ·obtain⟨x,ex,hx⟩:∃x,F a=some x/\(x=.tup vs\/∃o,x=.frz o (.tup vs)):=by
    rcases q with q|⟨o,q⟩;·exact⟨_,q,.inl rfl⟩
    ·exact⟨_,q,.inr ⟨o,rfl⟩⟩
   have s1:Same (one a x) F:=one_le ex;refine⟨uni G (one a x),fK s s1,?_,fun b us e=>?_⟩
   ·simp only[RW];refine⟨a,vs,rfl,.inl ?_,rg.keep kf⟩;have e:=iL s s1 a x iD;rcases hx with rfl|⟨o,rfl⟩;·exact .inl e
    ·exact .inr ⟨o,e⟩
   ·rcases o1 e with e|e;·simpa only[WL.eM]using sm b us e
    ·rcases e with e|⟨o,e⟩;·obtain⟨_,rfl⟩:=i6 e;rcases hx with z|⟨o,z⟩<;>cases z
     ·obtain⟨_,rfl⟩:=i6 e;rcases hx with z|⟨o,z⟩<;>cases z
  ·exact⟨G,s,by simp only[RW];exact⟨a,vs,rfl,.inr q,rg⟩,by simpa only[WL.eM]using sm⟩|.lst ws,v,f,h=>by
  simp only[RW]at h;obtain⟨a,vs,rfl,q,r⟩:=h;obtain⟨G,s,rg,sm⟩:=lE ws vs (by simpa only[WL.aF]using f) r;have up:Sm K F G (WL.eM (.lst ws)):=fun b us e=>by obtain⟨l,hl,hr⟩:=sm b us e;exact⟨l,by simp only[WL.eM];exact List.mem_cons_of_mem _ hl,hr⟩
  rcases q with q|q
  ·obtain⟨x,ex,hx⟩:∃x,F a=some x/\(x=.lst vs\/∃o,x=.frz o (.lst vs)):=by
    rcases q with q|⟨o,q⟩;·exact⟨_,q,.inl rfl⟩
    ·exact⟨_,q,.inr ⟨o,rfl⟩⟩
   have s1:Same (one a x) F:=one_le ex;refine⟨uni G (one a x),fK s s1,?_,fun b us e=>?_⟩
   ·simp only[RW];refine⟨a,vs,rfl,.inl ?_,rg.keep kf⟩;have e:=iL s s1 a x iD;rcases hx with rfl|⟨o,rfl⟩;·exact .inl e
    ·exact .inr ⟨o,e⟩
   ·rcases o1 e with e|e;·exact up b us e
    ·have e2:us=vs:=by
      rcases e with e|⟨o,e⟩;·obtain⟨_,z⟩:=i6 e;rcases hx with y|⟨o,y⟩<;>rw[y]at z<;>cases z;rfl
      ·obtain⟨_,z⟩:=i6 e;rcases hx with y|⟨o,y⟩<;>rw[y]at z<;>cases z;rfl
     subst e2;exact⟨ws,by simp[WL.eM],r⟩
  ·exact⟨G,s,by simp only[RW];exact⟨a,vs,rfl,.inr q,rg⟩,up⟩|.dic _ _,_,f,_=>by simp[WL.aF]at f|.cls _,_,f,_=>by simp[WL.aF]at f|.exc _ _,_,f,_=>by simp[WL.aF]at f|.ins _ _,_,f,_=>by simp[WL.aF]at f theorem lE:∀(ws:List VW)(vs:List V),WL.ar ws=true->RWs K F ws vs->∃G,Same G F/\RWs K G ws vs/\Sm K F G (WL.aA ws)
|[],vs,_,h=>⟨fun _=>none,fun _ _ e=>(by cases e),by simpa only[RWs]using h,fun _ _ e=>(fu e).elim⟩|w::ws,vs,f,h=>by
  simp only[RWs]at h;obtain⟨v,r,rfl,h1,h2⟩:=h;simp only[WL.ar,Bool.and_eq_true]at f;obtain⟨G1,s1,r1,m1⟩:=small w v f.1 h1;obtain⟨G2,s2,r2,m2⟩:=lE ws r f.2 h2;refine⟨uni G1 G2,fK s1 s2,.cons (r1.keep kf) (r2.keep (iL s1 s2)),fun b us e=>?_⟩;simp only[WL.aA,List.mem_append];rcases o1 e with e|e;·obtain⟨l,hl,hr⟩:=m1 b us e;exact⟨l,.inl hl,hr⟩
  ·obtain⟨l,hl,hr⟩:=m2 b us e;exact⟨l,.inr hl,hr⟩end
theorem jm:∀{xs ys:List VW},WL.ar (xs++ys)=true->WL.ar xs=true/\WL.ar ys=true|[],_,h=>⟨rfl,h⟩|x::xs,ys,h=>by simp only[List.cons_append,WL.ar,Bool.and_eq_true]at h⊢;obtain⟨a,b⟩:=jm h.2;exact⟨⟨h.1,a⟩,b⟩
theorem kG:∀(xs ys:List VW),WL.aA (xs++ys)=WL.aA xs++WL.aA ys|[],_=>rfl|x::xs,ys=>by simp only[List.cons_append,WL.aA,kG xs ys,List.append_assoc]
theorem Sm.uni{G G':Hp}{l l':List (List VW)}(h:Sm K F G l)(h':Sm K F G' l'):Sm K F (WS.uni G G') (l++l'):=fun a vs e=>by
 rcases o1 e with e|e;·obtain⟨z,hz,r⟩:=h a vs e;exact⟨z,List.mem_append_left _ hz,r⟩
 ·obtain⟨z,hz,r⟩:=h' a vs e;exact⟨z,List.mem_append_right _ hz,r⟩
theorem Sm.one{a:Addr}{o:HO}(h1:∀vs,o≠.lst vs)(h2:∀u vs,o≠.frz u (.lst vs)):Sm K F (WS.one a o) []:=fun b vs e=>by
 rcases e with e|⟨u,e⟩;·exact(h1 vs (i6 e).2.symm).elim
 ·exact(h2 u vs (i6 e).2.symm).elim
theorem ny:∀(ws:List VW)(vs:List V),WL.ar (WL.cI ws)=true->RWs K F ws vs->∃G,Same G F/\RWs K G ws vs/\Sm K F G (WL.aA (WL.cI ws))
|[],vs,_,h=>⟨fun _=>none,(fun _ _ z=>nomatch z),by simpa only[RWs]using h,fun _ _ z=>(fu z).elim⟩|w::ws,vs,hf,h=>by
  have plainC:WL.cI (w::ws)=w::WL.cI ws->∃G,Same G F/\RWs K G (w::ws) vs/\Sm K F G (WL.aA (WL.cI (w::ws))):=fun e=>by rw[e]at hf⊢;simp only[WL.ar,Bool.and_eq_true]at hf;simp only[RWs]at h;obtain⟨v,r,rfl,h1,h2⟩:=h;obtain⟨G1,a1,a2,a3⟩:=small w v hf.1 h1;obtain⟨G2,b1,b2,b3⟩:=ny ws r hf.2 h2;refine⟨WS.uni G1 G2,fK a1 b1,?_,a3.uni b3⟩;simp only[RWs];exact⟨v,r,rfl,a2.keep kf,b2.keep (iL a1 b1)⟩
  match w,plainC,hf,h with
 |.ins c [.dic ks us],_,hf,h=>
   have hf:WL.ar (ks++(us++WL.cI ws))=true:=hf;obtain⟨f1,f2⟩:=jm hf;obtain⟨f2,f3⟩:=jm f2;simp only[RWs]at h;obtain⟨v,r,rfl,h1,h2⟩:=h;simp only[RW]at h1;obtain⟨a,C,dx,fvs,rfl,e1,e2,e3,e4,hr⟩:=h1;simp only[RWs,RW]at hr;obtain⟨v1,r1,ev,⟨d,kvs,rfl,rd,rk,ru⟩,e5⟩:=hr;subst e5;obtain⟨G1,a1,a2,a3⟩:=lE ks _ f1 rk;obtain⟨G2,b1,b2,b3⟩:=lE us _ f2 ru;obtain⟨G3,c1,c2,c3⟩:=ny ws r f3 h2;obtain⟨od,ed,hd,nd1,nd2⟩:∃od,F d=some od/\(∀G:Hp,G d=some od->Rd G d (.dK kvs))/\(∀vs,od≠.lst vs)/\∀u vs,od≠.frz u (.lst vs):=by
    rcases rd with z|⟨o,z⟩;·exact⟨_,z,fun G y=>.inl y,(fun _ y=>nomatch y),fun _ _ y=>nomatch y⟩
    ·exact⟨_,z,fun G y=>.inr ⟨o,y⟩,(fun _ y=>nomatch y),fun _ _ y=>nomatch y⟩
   have l1:Same (WS.one a (.ins C dx fvs)) F:=one_le e1;have l2:Same (WS.one d od) F:=one_le ed;have m23:=fK b1 c1;have m123:=fK a1 m23;have md:=fK l2 m123;refine⟨WS.uni (WS.one a (.ins C dx fvs)) (WS.uni (WS.one d od) (WS.uni G1 (WS.uni G2 G3))),fK l1 md,?_,?_⟩;·have k1:Same (WS.one d od) (WS.uni (WS.one a (.ins C dx fvs)) (WS.uni (WS.one d od) (WS.uni G1 (WS.uni G2 G3)))):=kf.trans (iL l1 md);have k2:Same (WS.uni G1 (WS.uni G2 G3)) (WS.uni (WS.one a (.ins C dx fvs)) (WS.uni (WS.one d od) (WS.uni G1 (WS.uni G2 G3)))):=(iL l2 m123).trans (iL l1 md);simp only[RWs,RW];refine⟨.ref a,r,rfl,⟨a,C,dx,fvs,rfl,kf _ _ iD,e2,e3,e4,.ref d,[],ev,⟨d,kvs,rfl,hd _ (k1 _ _ iD),a2.keep (kf.trans k2),b2.keep ((kf.trans (iL a1 m23)).trans k2)⟩,rfl⟩,c2.keep (((iL b1 c1).trans (iL a1 m23)).trans k2)⟩
   ·show Sm K F _ (WL.aA (ks++(us++WL.cI ws)));rw[kG,kG];have s0:Sm K F (WS.one a (.ins C dx fvs)) []:=Sm.one (fun _ y=>nomatch y) (fun _ _ y=>nomatch y);exact s0.uni ((Sm.one nd1 nd2).uni (a3.uni (b3.uni c3)))|.non,p,_,_=>exact p rfl|.bl _,p,_,_=>exact p rfl|.int _,p,_,_=>exact p rfl|.str _,p,_,_=>exact p rfl|.ty _,p,_,_=>exact p rfl|.tup _,p,_,_=>exact p rfl|.lst _,p,_,_=>exact p rfl|.dic _ _,p,_,_=>exact p rfl|.cls _,p,_,_=>exact p rfl|.exc _ _,p,_,_=>exact p rfl|.ins _ [],p,_,_=>exact p rfl|.ins _ [.non],p,_,_=>exact p rfl|.ins _ [.bl _],p,_,_=>exact p rfl|.ins _ [.int _],p,_,_=>exact p rfl|.ins _ [.str _],p,_,_=>exact p rfl|.ins _ [.ty _],p,_,_=>exact p rfl|.ins _ [.tup _],p,_,_=>exact p rfl|.ins _ [.lst _],p,_,_=>exact p rfl|.ins _ [.cls _],p,_,_=>exact p rfl|.ins _ [.exc _ _],p,_,_=>exact p rfl|.ins _ [.ins _ _],p,_,_=>exact p rfl|.ins _ (z::_::_),p,_,_=>exact p (by cases z<;>rfl)
mutual theorem aaE:∀(w:VW),WL.aF w=true->∀l∈WL.eM w,WL.ar l=true
|.tup ws,f,l,h=>iE ws (by simpa only[WL.aF]using f) l (by simpa only[WL.eM]using h)|.lst ws,f,l,h=>by
 simp only[WL.eM,List.mem_cons]at h;simp only[WL.aF]at f;rcases h with rfl|h;·exact f
 ·exact iE ws f l h|.non,_,l,h=>by simp[WL.eM]at h|.bl _,_,l,h=>by simp[WL.eM]at h|.int _,_,l,h=>by simp[WL.eM]at h|.str _,_,l,h=>by simp[WL.eM]at h|.ty _,_,l,h=>by simp[WL.eM]at h|.dic _ _,f,_,_=>by simp[WL.aF]at f|.cls _,f,_,_=>by simp[WL.aF]at f|.exc _ _,f,_,_=>by simp[WL.aF]at f|.ins _ _,f,_,_=>by simp[WL.aF]at f theorem iE:∀(ws:List VW),WL.ar ws=true->∀l∈WL.aA ws,WL.ar l=true
|[],_,l,h=>by simp[WL.aA]at h|w::ws,f,l,h=>by
 simp only[WL.ar,Bool.and_eq_true]at f;simp only[WL.aA,List.mem_append]at h;rcases h with h|h;·exact aaE w f.1 l h
 ·exact iE ws f.2 l h end
end
section
variable{X:Cx}{pins:List (Addr×Obj)}{σV:L2.St}{H:Hp}{s:Shared}
theorem ub(I:Inv X pins σV H s){a:Addr}{xs ys:List V}(h:SqT X.K H a xs)(h':SqL X.K H a ys):False:=by obtain⟨_,_,⟨o,e,c,_⟩,_⟩:=I.tuple h;obtain⟨_,_,⟨o',n',e',c',_⟩,_⟩:=I.list h';rw[e]at e';cases e';rw[c]at c';exact absurd c' (by decide)
mutual theorem RW.det(I:Inv X pins σV H s):∀(w w':VW)(v:V),WL.aF w=true->WL.aF w'=true->RW X.K H w v->RW X.K H w' v->w=w'
|.non,w',v,_,f',h,h'=>by cases w'<;>simp_all[RW,WL.aF]|.bl _,w',v,_,f',h,h'=>by cases w'<;>simp_all[RW,WL.aF]|.int _,w',v,_,f',h,h'=>by cases w'<;>simp_all[RW,WL.aF]|.str _,w',v,_,f',h,h'=>by cases w'<;>simp_all[RW,WL.aF]|.ty _,w',v,_,f',h,h'=>by cases w'<;>simp_all[RW,WL.aF]|.tup ws,w',v,f,f',h,h'=>by simp only[RW]at h;obtain⟨a,vs,rfl,q,r⟩:=h;cases w' with|tup ws'=>simp only[RW]at h';obtain⟨a',vs',e,q',r'⟩:=h';cases e;cases I.lx q q';rw[RWs.det I ws ws' vs (by simpa only[WL.aF]using f) (by simpa only[WL.aF]using f') r r']|lst ws'=>simp only[RW]at h';obtain⟨a',vs',e,q',r'⟩:=h';cases e;exact(ub I q q').elim|dic _ _=>simp[WL.aF]at f'|cls _=>simp[WL.aF]at f'|exc _ _=>simp[WL.aF]at f'|ins _ _=>simp[WL.aF]at f'|_=>simp[RW]at h'
|.lst ws,w',v,f,f',h,h'=>by simp only[RW]at h;obtain⟨a,vs,rfl,q,r⟩:=h;cases w' with|lst ws'=>simp only[RW]at h';obtain⟨a',vs',e,q',r'⟩:=h';cases e;cases I.pY q q';rw[RWs.det I ws ws' vs (by simpa only[WL.aF]using f) (by simpa only[WL.aF]using f') r r']|tup ws'=>simp only[RW]at h';obtain⟨a',vs',e,q',r'⟩:=h';cases e;exact(ub I q' q).elim|dic _ _=>simp[WL.aF]at f'|cls _=>simp[WL.aF]at f'|exc _ _=>simp[WL.aF]at f'|ins _ _=>simp[WL.aF]at f'|_=>simp[RW]at h'
|.dic _ _,_,_,f,_,_,_=>by simp[WL.aF]at f|.cls _,_,_,f,_,_,_=>by simp[WL.aF]at f|.exc _ _,_,_,f,_,_,_=>by simp[WL.aF]at f|.ins _ _,_,_,f,_,_,_=>by simp[WL.aF]at f theorem RWs.det(I:Inv X pins σV H s):∀(ws ws':List VW)(vs:List V),WL.ar ws=true->WL.ar ws'=true->RWs X.K H ws vs->RWs X.K H ws' vs->ws=ws'
|[],ws',vs,_,_,h,h'=>by simp only[RWs]at h;subst h;cases ws' with|nil=>rfl|cons w ws'=>simp[RWs]at h'
|w::ws,ws',vs,f,f',h,h'=>by simp only[RWs]at h;obtain⟨v,r,rfl,h1,h2⟩:=h;cases ws' with|nil=>simp[RWs]at h'|cons w' ws'=>simp only[RWs]at h';obtain⟨v',r',e,h1',h2'⟩:=h';cases e;simp only[WL.ar,Bool.and_eq_true]at f f';rw[RW.det I w w' v f.1 f'.1 h1 h1',RWs.det I ws ws' r f.2 f'.2 h2 h2']end
end
section
variable{X:Cx}{B:Bx}{σ:Ws}{σV:L2.St}{F H:Hp}
theorem RS.drop(R:RS B σ σV F H)(i:Nat)(x:Option V):RS B (σ.set i .no) (σV.set i x) F H:=by
 have at':∀{j:Nat}{sl:Sl},(σ.set i .no)[j]?=some sl->sl≠.no->i≠j/\σ[j]?=some sl:=fun{j sl}e ne=>by
  by_cases hj:i=j
  ·subst hj;have hi:i<σ.length:=by have:=(List.getElem?_eq_some_iff.mp e).1;simpa using this
   rw[List.getElem?_set_self hi]at e;cases e;exact absurd rfl ne
  ·rw[List.getElem?_set_ne hj]at e;exact⟨hj,e⟩
 refine⟨R.rb,by simp[R.len],fun j w e=>?_,fun j ws e=>?_,fun j k ws ws' a hne e1 e2 f1 f2=>?_,R.aa8 i (sl:=.no) (fun z=>z) _ (Same.refl _) fun _ _ _ _ _ _ _ _ q1 q2=>⟨q2,q1⟩⟩;·obtain⟨hj,e⟩:=at' e (by intro z;cases z);rw[List.getElem?_set_ne hj];exact R.va j w e
 ·obtain⟨hj,e⟩:=at' e (by intro z;cases z);rw[List.getElem?_set_ne hj];exact R.ow j ws e
 ·obtain⟨hj,e1⟩:=at' e1 (by intro z;cases z);obtain⟨hk,e2⟩:=at' e2 (by intro z;cases z);rw[List.getElem?_set_ne hj]at f1;rw[List.getElem?_set_ne hk]at f2;exact R.ap j k ws ws' a hne e1 e2 f1 f2
theorem RS.away(R:RS B σ σV F H){a:Addr}(o:HO)(hF:F a=none)(h0:B.H0 a=none)(hn:∀(j:Nat)(ws:List VW),σ[j]?=some (Sl.ow ws)->σV[j]?≠some (some (V.ref a)))(hn2:∀(j:Nat)(ks us:List VW),σ[j]?=some (Sl.od ks us)->σV[j]?≠some (some (V.ref a))):RS B σ σV F (upd H a o):=by
 refine⟨⟨fun b u e=>?_,fun b u e=>?_,R.rb.fz0,R.rb.fr⟩,R.len,R.va,fun j ws e=>?_,R.ap,R.dd.via rfl id (fun _ _ z=>.inl z) (fun _ _ _ e=>⟨e,rfl⟩) (Same.refl _) fun j ks us b kvs ej hv q1 q2 q3=>⟨q2,q3,by
  have ne:b≠a:=fun z=>by subst z;exact hn2 j ks us ej hv
  rw[ae ne];exact q1⟩⟩
 ·have ne:b≠a:=fun z=>by subst z;rw[hF]at e;cases e
  rw[ae ne];exact R.rb.sub b u e
 ·have ne:b≠a:=fun z=>by subst z;rw[h0]at e;cases e
  rw[ae ne];exact R.rb.base b u e
 ·obtain⟨b,vs,h1,h2,h3,h4,h5⟩:=R.ow j ws e;have ne:b≠a:=fun z=>by subst z;exact hn j ws e h1
  exact⟨b,vs,h1,h2,h3,by rw[ae ne];exact h4,h5⟩
structure Mid(B:Bx)(i:Nat)(as:List VW)(σ:Ws)(σV:L2.St)(F H F0:Hp):Prop where
 rs:RS B σ σV F H
 old:RS B (σ.set i .no) σV F0 H
 sub:Same F0 F
 fl:WL.ar as=true
 tl:∃(Fa Fr:Hp)(w:VW)(v:V),σ[i]?=some (.va w)/\σV[i]?=some (some v)/\Same Fr F/\RW B.K Fr w v/\Sm B.K F Fa (WL.aA as)/\∀a o,Fr a=some o->Fa a=some o\/(F0 a=none/\B.H0 a=none/\NF o)
theorem Mid.grow{i:Nat}{as:List VW}{F0 F' H':Hp}(m:Mid B i as σ σV F H F0)(R':RS B σ σV F' H')(g:Gr F H F' H'):Mid B i as σ σV F' H' F0:=by obtain⟨Fa,Fr,w,v,e1,e2,s,r,sm,fr⟩:=m.tl;refine⟨R',m.old.grow ⟨Same.refl _,g.h,fun _ _ _ z=>z⟩ ⟨m.old.rb.sub.trans g.h,m.old.rb.base.trans g.h,m.old.rb.fz0,m.old.rb.fr⟩,m.sub.trans g.f,m.fl,Fa,Fr,w,v,e1,e2,s.trans g.f,r,fun a vs e=>?_,fr⟩;obtain⟨l,hl,hr⟩:=sm a vs e;exact⟨l,hl,hr.keep g.f⟩
theorem Mid.at{i:Nat}{as:List VW}{F0:Hp}(m:Mid B i as σ σV F H F0){pins:List (Addr×Obj)}{s:Shared}(hB:B.K=X.K)(hnl:noL X.K=true)(I:Inv X pins σV H s){Fa Fr:Hp}(sr:Same Fr F)(sm:Sm B.K F Fa (WL.aA as))(fr:∀a o,Fr a=some o->Fa a=some o\/(F0 a=none/\B.H0 a=none/\NF o)){a:Addr}{ws:List VW}{vs:List V}(q:SqL B.K Fr a vs)(r:RWs B.K Fr ws vs)(hf:WL.ar ws=true)(hn:ws∉WL.aA as):Fr a=some (.lst vs)/\F0 a=none/\B.H0 a=none:=by
 have no:¬Rd Fa a (.lst vs):=fun z=>by obtain⟨l,hl,hr⟩:=sm a vs z;refine hn ?_;have r1:RWs X.K H ws vs:=hB▸(r.keep sr).keep m.rs.rb.sub;have r2:RWs X.K H l vs:=hB▸hr.keep m.rs.rb.sub;rw[RWs.det I ws l vs hf (iE as m.fl l hl) r1 r2];exact hl
 rcases SqL.here (hB▸hnl) q with q|⟨o,q⟩
 ·rcases fr a _ q with z|z;·exact(no (.inl z)).elim
  ·exact⟨q,z.1,z.2.1⟩
 ·rcases fr a _ q with z|z;·exact(no (.inr ⟨o,z⟩)).elim
  ·exact z.2.2.elim
noncomputable def loM(B:Bx)(i:Nat)(as:List VW)(t:SF):TS:=fun D σV H=>∃σ F F0,Mid B i as σ σV F H F0/\Oq B D F0 (t σ)
variable{i:Nat}{as:List VW}{s1 s2:SF}{st:Stmt}{sts rest:List Stmt}{tt:TF}{pos:Pos}
theorem vG{c:Expr}{a:List Stmt}(hc:PT X c (loT B tt))(ha:PSs X a (loS B s1))(hr:PSs X rest (loM B i as s2)):PSs X (.If c a [] pos::rest) (loM B i as (WL.px tt s1 s2)):=PSs.imp (cq (v8 hc ha kA) hr) fun D σV H⟨σ,F,F0,m,q⟩=>by have q:=Oq.ofR q;refine⟨σ,F,m.rs,Rq.mono m.sub q fun x qx H' F' R' g=>?_⟩;cases x with
|true=>rw[if_pos rfl];refine⟨σ,F',R',?_⟩;have qx:Oq B D F0 (WL.afT (s1 σ)):=qx;cases e:s1 σ with|rt w=>rw[e]at qx;exact fun v H2 F2 rb s r=>(show∀v H' F',_ from qx) v H2 F2 rb ((m.sub.trans g.f).trans s) r|nx σ'=>rw[e]at qx;exact(show False from qx).elim|bk σ'=>rw[e]at qx;exact(show False from qx).elim|ct σ'=>rw[e]at qx;exact(show False from qx).elim|ex c σ'=>rw[e]at qx;exact(show False from qx).elim|bad=>rw[e]at qx;exact(show False from qx).elim
|false=>rw[if_neg Bool.false_ne_true];exact⟨σ,F',F0,m.grow R' g,qx⟩
end
section
variable{X:Cx}{B:Bx}{j k n:Nat}{f:Addr}{fd:FuncData}{ps:List Str}{ds:List Value}{fn:List VW->Res VW}{x y:Str}{p pos pos' apos:Pos}{e:Expr}{es:List Expr}{tas:AF}{i:Nat}{rest:List Stmt}{s:List VW->SF}
end
end WS
namespace SF
open PySem PySem.Builtin PySem.Builtin.Str PySem.StrLaws
noncomputable def iu(sub:List Nat)(k:Nat):Nat->Nat->List Nat->List Nat|_,_,[]=>[]|i,free,c::l=>if Nat.ble free i&&sub.isPrefixOf (c::l)then i::iu sub k (i+1) (i+k) l else iu sub k (i+1) free l
noncomputable def yC(xs:List Nat)(k:Nat):Nat->List Nat->List Str|st,[]=>[⟨(xs.drop st).toArray⟩]|st,c::cs=>⟨((xs.drop st).take (c-st)).toArray⟩::yC xs k (c+k) cs
theorem abK(x y:Str)(i:Nat)(hy:y.length≠0):(i+y.length<=x.length/\subAt x y i=true)↔ y.cps.toList.isPrefixOf (x.cps.toList.drop i)=true:=by
 obtain⟨xs⟩:=x;obtain⟨ys⟩:=y;simp only[Str.length]at hy⊢;unfold subAt;simp only[Str.length,beq_iff_eq];rw[List.isPrefixOf_iff_prefix,List.prefix_iff_eq_take,<-Array.toList_inj,Array.toList_extract];simp only[Array.length_toList,List.extract_eq_drop_take'];constructor;·rintro⟨h1,h2⟩;rw[<-h2];simp[List.drop_take];try omega
 ·intro h;have hl:=congrArg List.length h;simp at hl;refine⟨by omega,?_⟩;rw[List.drop_take];rw[h];simp;try omega
theorem t8(x y:Str)(hy:y.length≠0):∀(m i free:Nat)(acc:Array Nat),m=x.length+1-i->i<=x.length+1->acc.size<=i->(forIn (List.range' i m) (acc,free) (occBody x y x.length (x.length+1))).run.fst.toList=acc.toList++iu y.cps.toList y.length i free (x.cps.toList.drop i)
|0,i,free,acc,hm,hi,ha=>by
  have:x.cps.toList.drop i=[]:=by rw[List.drop_eq_nil_iff];have:x.cps.toList.length=x.length:=rfl;omega
  rw[this];simp[iu]|m+1,i,free,acc,hm,hi,ha=>by
  have xl:x.cps.toList.length=x.length:=rfl;have hs:=abK x y i hy;rw[List.range'_succ,List.forIn_cons];have ha':acc.size<x.length+1:=by omega
  by_cases hc:free<=i/\y.cps.toList.isPrefixOf (x.cps.toList.drop i)=true
  ·have h2:=hs.mpr hc.2;have hb:occBody x y x.length (x.length+1) i (acc,free)=pure (ForInStep.yield (acc.push i,i+y.length)):=by unfold occBody;rw[if_pos ⟨⟨⟨ha',hc.1⟩,h2.1⟩,h2.2⟩]
   rw[hb];have hi':i<x.cps.toList.length:=by omega
   have ih:=t8 x y hy m (i+1) (i+y.length) (acc.push i) (by omega) (by omega) (by simp;omega);have e:x.cps.toList.drop i=x.cps.toList[i]::x.cps.toList.drop (i+1):=List.drop_eq_getElem_cons hi';rw[e]at hc⊢;simp only[iu,hc.2,Nat.ble_eq.mpr hc.1,Bool.and_self,if_true];refine Eq.trans ih ?_;simp
  ·have hb:occBody x y x.length (x.length+1) i (acc,free)=pure (ForInStep.yield (acc,free)):=by unfold occBody;rw[if_neg];rintro⟨⟨⟨_,h1⟩,h3⟩,h4⟩;exact hc ⟨h1,hs.mp ⟨h3,h4⟩⟩
   rw[hb];have ih:=t8 x y hy m (i+1) free acc (by omega) (by omega) (by omega);refine Eq.trans ih ?_;by_cases hi':i<x.cps.toList.length
   ·have e:x.cps.toList.drop i=x.cps.toList[i]::x.cps.toList.drop (i+1):=List.drop_eq_getElem_cons hi';rw[e]at hc⊢;have:(Nat.ble free i&&y.cps.toList.isPrefixOf (x.cps.toList[i]::x.cps.toList.drop (i+1)))=false:=by rw[Bool.eq_false_iff];intro z;rw[Bool.and_eq_true,Nat.ble_eq]at z;exact hc z
    simp only[iu,this,Bool.false_eq_true,if_false]
   ·have e1:x.cps.toList.drop i=[]:=by rw[List.drop_eq_nil_iff];omega
    have e2:x.cps.toList.drop (i+1)=[]:=by rw[List.drop_eq_nil_iff];omega
    rw[e1,e2];simp[iu]
theorem pO(x y:Str)(hy:y.length≠0):occurrences x y 0 x.length (x.length+1)=iu y.cps.toList y.length 0 0 x.cps.toList:=by rw[StrLaws.occ_eq];have:=t8 x y hy (x.length+1) 0 0 #[] (by omega) (by omega) (by simp);simpa using this
theorem pL(x:Str)(k:Nat):∀(cs:List Nat)(st:Nat),((st::cs.map (·+k)).zip (cs++[x.length])).map (fun(p:Nat×Nat)=>strSub x p.1 p.2)=yC x.cps.toList k st cs|[],st=>by simp only[List.map_nil,List.nil_append,List.zip_cons_cons,List.zip_nil_right,List.map_cons,yC,List.zip_nil_left];congr 1;unfold strSub;congr 1;apply Array.toList_inj.mp;rw[Array.toList_extract];simp[List.extract_eq_drop_take',Str.length,List.take_of_length_le]|c::cs,st=>by have ih:=pL x k cs (c+k);simp only[List.map_cons,List.cons_append,List.zip_cons_cons,yC];rw[<-ih];congr 1;unfold strSub;congr 1;apply Array.toList_inj.mp;rw[Array.toList_extract,List.extract_eq_drop_take'];first|rfl|(rw[List.drop_take];done)|skip
noncomputable def fM(x y:Str):List Str:=match iu y.cps.toList y.length 0 0 x.cps.toList with|[]=>[x]|c::cs=>yC x.cps.toList y.length 0 (c::cs)
theorem qG(x y:Str)(hy:y.length≠0)(hk:strKind y=1):Txt.split x y=fM x y:=by
 unfold Txt.split fM;rw[pO x y hy];have hk':decide (strKind x<strKind y)=false:=by
  rw[hk];unfold PySem.Builtin.Str.strKind;split;·rfl
  ·split<;>rfl
 rw[hk'];cases e:iu y.cps.toList y.length 0 0 x.cps.toList with|nil=>simp|cons c cs=>
  have hl:¬x.length<y.length:=fun z=>by have h0:=pO x y hy;rw[e]at h0;have:=occ_spec x y 0 x.length (x.length+1) c (by rw[h0];simp);omega
  simp only[decide_eq_false hl,Bool.or_self,Bool.false_eq_true,if_false,List.isEmpty_cons];exact pL x y.length (c::cs) 0
noncomputable def gB(sep:List Nat):List Str->List Nat|[]=>[]|[x]=>x.cps.toList|x::y::r=>x.cps.toList++(sep++gB sep (y::r))
theorem fB(sep:Str):∀(r:List Str)(acc:Array Nat),(r.foldl (fun acc p=>acc++sep.cps++p.cps) acc).toList=acc.toList++(match r with|[]=>[]|_=>sep.cps.toList++gB sep.cps.toList r)|[],acc=>by simp|[x],acc=>by simp[gB]|x::y::r,acc=>by have:=fB sep (y::r) (acc++sep.cps++x.cps);rw[List.foldl_cons,this];simp[gB]
theorem uE(sep:Str)(ys:List Str):Txt.join sep ys=⟨(gB sep.cps.toList ys).toArray⟩:=by unfold Txt.join glued;congr 1;apply Array.toList_inj.mp;cases ys with|nil=>simp[gB,Str.empty]|cons x r=>have:=fB sep r x.cps;simp only[List.drop_succ_cons,List.drop_zero,List.headD_cons];rw[this];cases r with|nil=>simp[gB]|cons y r=>simp[gB]
end SF
namespace WL
open PySem
noncomputable def m9:W->W->Res W|.str x,.str y=>if x.length+y.length<=lim then .ok (.str (x++y))else .bad|_,_=>.bad
noncomputable def ajj:W->W->Res W|.lst xs,.int k=>if -1000000<=k/\k<=1000000/\xs.length*k.toNat<=lim then .ok (.lst (List.replicate k.toNat xs).flatten)else .bad|.tup xs,.int k=>if xs≠[]/\k≠1/\-1000000<=k/\k<=1000000/\xs.length*k.toNat<=lim then .ok (.tup (List.replicate k.toNat xs).flatten)else .bad|_,_=>.bad
noncomputable def ajm:List W->Res W|[.int i]=>if i.natAbs.log2<1920 then .ok (.str (toString i))else .bad|_=>.bad
noncomputable def dA:W->List W->Res W|.str x,[.str y]=>if y.length≠0/\Builtin.Str.strKind y=1/\x.length<=lim then .ok (.lst ((SF.fM x y).map .str))else .bad|_,_=>.bad
noncomputable def fy:W->List W->Res W|.str x,[.str y]=>.ok (.bl (Txt.startswith x y))|_,_=>.bad
noncomputable def nU:W->List W->Res W|.str x,[.str y]=>if y.length≠0/\x.length<=lim then .ok (.tup [.str (Txt.partition x y).1,.str (Txt.partition x y).2.1,.str (Txt.partition x y).2.2])else .bad|_,_=>.bad
noncomputable def strsOf:List W->Option (List Str)|[]=>some []|.str x::r=>(strsOf r).map (x::·)|_=>none
noncomputable def gA:W->List W->Res W
|.str x,[.lst ws]=>match strsOf ws with|some ys=>if(ys.map (·.length)).sum+ys.length*x.length<=lim then .ok (.str ⟨(SF.gB x.cps.toList ys).toArray⟩)else .bad|none=>.bad
|_,_=>.bad
noncomputable def nM:W->W->Res W|.str x,.int i=>if 0<=i/\x.length<=lim then .ok (.str (Txt.slice x (some i) none))else .bad|_,_=>.bad
noncomputable def zu(lo st:Int)(n:Nat):List W:=(List.range n).map fun i=>.int (lo+(i:Nat)*st)
noncomputable def xc(a b:EF):LF:=fun σ=>(a σ).bind fun x=>(b σ).bind fun y=>match x,y with|.int i,.int j=>if -(2^60)<=i/\i<2^60/\-(2^60)<=j/\j<2^60 then .ok (zu i 2 ((j-i+1)/2).toNat)else .bad|_,_=>.bad
noncomputable def ais:W->Res W|.int i=>if i.natAbs<1000 then .ok (.int i)else .bad|.str x=>if x.length<=1000 then .ok (.str x)else .bad|_=>.bad
noncomputable def shL:List W->Option Nat|[]=>some 3|.str x::r=>(shL r).map (·+(10*x.length+4))|.int i::r=>if i.natAbs<1000 then(shL r).map (·+12)else none|_=>none
noncomputable def shC(ws:List W):Bool:=bH 51 ws&&(match shL ws with|some n=>decide (n<=80000)|none=>false)
noncomputable def adR:W->Res W|.str x=>if x.length<=5000/\(x.cps.toList.all fun c=>Nat.ble c 1114111)=true then .ok (.str x)else .bad|.lst ws=>if shC ws=true then .ok (.lst ws)else .bad|.int i=>if i.natAbs<1000 then .ok (.int i)else .bad|.non=>.ok .non|.tup ws=>if shC ws=true then .ok (.tup ws)else .bad|.bl b=>.ok (.bl b)|_=>.bad
noncomputable def eFf(e:EF):EF:=fun σ=>(e σ).bind ais
noncomputable def eFr(e:EF):EF:=fun σ=>(e σ).bind adR
noncomputable def cB(nm:String)(a:AF):SF:=fun σ=>ofR σ (a σ) fun _=>.ex (.exc nm []) σ
end WL
namespace WS
open PySem PySem.Spec PyProof.Rows L2 PySem.Builtin PySem.Builtin.Str
open WL(Res Sl Ws EF TF AF LF GF GsF SF Out)
section
variable{X:Cx}{B:Bx}{K:W.Frag}
theorem gk:Calm WL.m9:=fun x y c h=>by
 unfold WL.m9 at h;split at h;·split at h<;>cases h
 ·cases h
theorem sv:OpR X (binaryOp .Add) (lo2 K WL.m9):=by intro pins s σ H x y v u Q I rx ry⟨F,wx,wy,sm,r1,r2,q⟩;cases e:WL.m9 wx wy with|bad=>rw[e]at q;exact q.elim|ex c=>rw[e]at q;exact q.elim|ok w=>
  rw[e]at q;unfold WL.m9 at e;split at e
  ·split at e;·rename_i a b hl;cases e;simp only[RW]at r1 r2;subst r1 r2;obtain⟨t,rfl⟩:=rx;obtain⟨t',rfl⟩:=ry;exact PyProof.Rows.add_str (fun t2 tk=>⟨.str (a++b),H,I.tok tk,⟨_,rfl⟩,eq1 q (by simp[RW])⟩) (Nat.le_trans hl bA)
   ·cases e
  ·cases e
noncomputable def ac9(K:W.Frag)(r:VW->List VW->Res VW):V->List V->Hp->VK->Prop:=fun x xs H Q=>∃F w ws,Same F H/\RW K F w x/\RWs K F ws xs/\Eq1 F H K (r w ws) Q
theorem kc{e:Expr}{to:EF}{tas:AF}{r:VW->List VW->Res VW}(cm:∀w ws c,r w ws≠.ex c)(h:PE X e (tBM X.K "str" (ac9 B.K r) (lo B to) (loA B tas))):PE X e (lo B (WL.kN "str" r to tas)):=PE.imp h fun σV H Q⟨σ,F,R,q⟩=>by have q:=Rq.bind q;refine⟨σ,F,R,Rq.mono (Same.refl _) q fun w qx v H1 F1 R1 g1 r1=>?_⟩;cases w with
|str x=>have qx:=Rq.bind (show Rq B σ F ((tas σ).bind fun ws=>r (.str x) ws) _ from qx);simp only[RW]at r1;subst r1;refine⟨rfl,σ,F1,R1,Rq.mono g1.f qx fun ws qw us H2 F2 R2 g2 r2=>?_⟩;refine⟨F2,.str x,ws,R2.rb.sub,by simp[RW],r2,?_⟩;cases em:r (.str x) ws with|bad=>rw[em]at qw;exact qw.elim|ex c=>exact absurd em (cm _ _ c)|ok z=>rw[em]at qw;exact fun v F' H' ex rv=>qw v H' F' (ex.rs B σ σV R2) ((g1.trans g2).trans ex.gr) rv
|_=>exact(show False from qx).elim
theorem lj:∀(tk:Nat)(ys:List Str),Vals (ys.map V.str) (strsFrom tk ys)|_,[]=>.nil|tk,y::ys=>.cons ⟨tk,rfl⟩ (lj (tk+1) ys)
theorem iC{F:Hp}:∀ys:List Str,RWs K F (ys.map WL.W.str) (ys.map V.str)|[]=>by simp[RWs]|y::ys=>by simp only[List.map_cons,RWs];exact⟨_,_,rfl,by simp[RW],iC ys⟩
theorem rF:∀w ws c,WL.dA w ws≠.ex c:=fun w ws c h=>by
 unfold WL.dA at h;split at h;·split at h<;>cases h
 ·cases h
theorem wC:MtR X "str.split" (ac9 K WL.dA):=by intro pins s σ H x xs v us Q I rx rxs⟨F,w,ws,sm,r1,r2,q⟩;cases e:WL.dA w ws with|bad=>rw[e]at q;exact q.elim|ex c=>rw[e]at q;exact q.elim|ok z=>
  rw[e]at q;unfold WL.dA at e;split at e
  ·split at e
   ·rename_i a b hh;obtain⟨hy,hk,hl⟩:=hh;cases e;simp only[RW]at r1;subst r1;obtain⟨v2,rfl,r3⟩:=b6 r2;simp only[RW]at r3;subst r3;obtain⟨t,rfl⟩:=rx;obtain⟨u,rfl,⟨t',rfl⟩⟩:=vals1 rxs;have hy':(b.length==0)=false:=by simpa using hy
    have hx:a.length<=sizeLine:=Nat.le_trans hl bA;have hx2:a.length+2<=sizeLine:=Nat.le_trans (Nat.add_le_add_right hl 2) (by decide);have hn:(partsBetween a (occurrences a b 0 a.length (a.length+1)) b.length).length<=sizeLine:=by have e1:=StrLaws.occ_length_le a b 0 a.length (a.length+1);rw[length_partsBetween];omega
    have q:Eq1 F H K (.ok (.lst ((Txt.split a b).map .str))) Q:=by rw[SF.qG a b hy hk];exact q
    have one:Txt.split a b=[a]->∃v H',Inv X pins σ H' {s with heap:=s.heap.push {cls:=.type "list",data:=.seq #[.str a t]}}/\RelV v (.ref s.heap.objs.size)/\Q v H':=fun e1=>by rw[e1]at q;exact⟨.ref _,_,I.agP (t':=s.toks) (ys:=[.str a]) (its:=[.str a t]) (.cons ⟨_,rfl⟩ .nil) (show 1<=sizeLine by decide),rfl,aa7 sm q (iC [a]) I.fresh⟩
    cases h1:(decide (a.length<b.length)||decide (strKind a<strKind b))
    ·cases hf:(occurrences a b 0 a.length (a.length+1)).isEmpty;·refine call_meets PySem.F.slot_str_split (typeIs_str _ _ _) PySem.F.entry_str_split (PySem.F.args_str_split_2 _ _) (meets_str_split_sep a b t t' h1 hy' hf hx hn) ?_;have e1:Txt.split a b=partsBetween a (occurrences a b 0 a.length (a.length+1)) b.length:=(if_neg (ne_true_of_eq_false h1)).trans (if_neg (ne_true_of_eq_false hf));rw[e1]at q;exact⟨.ref _,_,I.agP (lj _ _) (by rw[List.length_map];exact hn),rfl,aa7 sm q (iC _) I.fresh⟩
     ·refine call_meets PySem.F.slot_str_split (typeIs_str _ _ _) PySem.F.entry_str_split (PySem.F.args_str_split_2 _ _) (meets_str_split_not_found a b t t' h1 hy' hf) ?_;exact one ((if_neg (ne_true_of_eq_false h1)).trans (if_pos hf))
    ·refine call_meets PySem.F.slot_str_split (typeIs_str _ _ _) PySem.F.entry_str_split (PySem.F.args_str_split_2 _ _) (meets_str_split_cannot_occur a b t t' h1) ?_;exact one (if_pos h1)
   ·cases e
  ·cases e
theorem oy:∀w ws c,WL.fy w ws≠.ex c:=fun w ws c h=>by unfold WL.fy at h;split at h<;>cases h
theorem ui:MtR X "str.startswith" (ac9 K WL.fy):=by intro pins s σ H x xs v us Q I rx rxs⟨F,w,ws,sm,r1,r2,q⟩;cases e:WL.fy w ws with|bad=>rw[e]at q;exact q.elim|ex c=>rw[e]at q;exact q.elim|ok z=>
 rw[e]at q;unfold WL.fy at e;split at e;·rename_i a b;cases e;simp only[RW]at r1;subst r1;obtain⟨v2,rfl,r3⟩:=b6 r2;simp only[RW]at r3;subst r3;obtain⟨t,rfl⟩:=rx;obtain⟨u,rfl,⟨t',rfl⟩⟩:=vals1 rxs;exact SC.startswith ⟨.bl _,H,I,rfl,eq1 q (by simp[RW])⟩
 ·cases e
theorem vj:∀w ws c,WL.nU w ws≠.ex c:=fun w ws c h=>by
 unfold WL.nU at h;split at h;·split at h<;>cases h
 ·cases h
theorem zX:MtR X "str.partition" (ac9 K WL.nU):=by intro pins s σ H x xs v us Q I rx rxs⟨F,w,ws,sm,r1,r2,q⟩;cases e:WL.nU w ws with|bad=>rw[e]at q;exact q.elim|ex c=>rw[e]at q;exact q.elim|ok z=>
  rw[e]at q;unfold WL.nU at e;split at e
  ·split at e
   ·rename_i a b hh;obtain⟨hy,hl⟩:=hh;cases e;simp only[RW]at r1;subst r1;obtain⟨v2,rfl,r3⟩:=b6 r2;simp only[RW]at r3;subst r3;obtain⟨t,rfl⟩:=rx;obtain⟨u,rfl,⟨t',rfl⟩⟩:=vals1 rxs;have hy':(b.length==0)=false:=by simpa using hy
    have hx:a.length<=sizeLine:=Nat.le_trans hl bA;have lay:∀(p1 p2 p3:Str)(t1 t2 t3:Tok)(tk:Nat),Eq1 F H K (.ok (.tup [.str p1,.str p2,.str p3])) Q->∃v H',Inv X pins σ H' {s with heap:=s.heap.push {cls:=.type "tuple",data:=.seq [.str p1 t1,.str p2 t2,.str p3 t3].toArray},toks:=tk}/\RelV v (.ref s.heap.objs.size)/\Q v H':=fun p1 p2 p3 t1 t2 t3 tk q=>by refine⟨.ref _,_,I.laid (t':=tk) (o:=.tup [.str p1,.str p2,.str p3]) (fun b ob q=>Heap.get?_push_of_some _ q) (Nat.le_refl _) ?_,rfl,ae4 sm q (vs:=[.str p1,.str p2,.str p3]) (iC [p1,p2,p3]) I.fresh⟩;exact⟨show 3<=sizeLine by decide,[.str p1 t1,.str p2 t2,.str p3 t3],.cons ⟨_,rfl⟩ (.cons ⟨_,rfl⟩ (.cons ⟨_,rfl⟩ .nil)),_,Heap.get?_push_size _ rfl,rfl,0,rfl⟩
    refine call_meets PySem.F.slot_str_partition (typeIs_str _ _ _) PySem.F.entry_str_partition (PySem.F.args_str_partition_2 _ _) (meets_str_partition a b t t' hy' hx) ?_;unfold Txt.partition at q;revert q;cases occurrences a b 0 a.length 1 with|nil=>intro q;exact lay _ _ _ _ _ _ _ q|cons i r=>intro q;exact lay _ _ _ _ _ _ _ q
   ·cases e
  ·cases e
theorem pd{F:Hp}:∀{ws:List VW}{ys:List Str}{vs:List V}{its:List Value},WL.strsOf ws=some ys->RWs K F ws vs->Vals vs its->StrsAre its ys|[],ys,vs,its,e,r,h=>by cases e;simp only[RWs]at r;subst r;cases h;exact .nil|w::ws,ys,vs,its,e,r,h=>by cases w with
 |str x=>simp only[WL.strsOf]at e;obtain⟨ys',e',rfl⟩:=Option.map_eq_some_iff.mp e;simp only[RWs,RW]at r;obtain⟨v,vs',rfl,rfl,r2⟩:=r;cases h with|cons h1 h2=>obtain⟨t,rfl⟩:=h1;exact .cons x t (pd e' r2 h2)
 |_=>simp[WL.strsOf]at e
theorem rJ:∀w ws c,WL.gA w ws≠.ex c:=fun w ws c h=>by
 unfold WL.gA at h;split at h
 ·split at h;·split at h<;>cases h
  ·cases h
 ·cases h
theorem zY(hK:X.K=K):MtR X "str.join" (ac9 K WL.gA):=by intro pins s σ H x xs v us Q I rx rxs⟨F,w,ws,sm,r1,r2,q⟩;cases e:WL.gA w ws with|bad=>rw[e]at q;exact q.elim|ex c=>rw[e]at q;exact q.elim|ok z=>
  rw[e]at q;unfold WL.gA at e;split at e
  ·split at e
   ·split at e;·rename_i a zs ys hz hl;cases e;simp only[RW]at r1;subst r1;obtain⟨v2,rfl,r3⟩:=b6 r2;simp only[RW]at r3;obtain⟨p,vs,rfl,hq,hr⟩:=r3;obtain⟨t,rfl⟩:=rx;obtain⟨u,rfl,ru⟩:=vals1 rxs;cases ru;obtain⟨its,rv,pl,_⟩:=I.list (hK▸sm.seq hq);refine PyProof.Rows.join_list pl.isList (pd hz hr rv) (Nat.le_trans hl (by decide)) fun t' k=>?_;rw[SF.uE];exact⟨.str _,H,I.tok k,⟨_,rfl⟩,eq1 q (by simp[RW])⟩
    ·cases e
   ·cases e
  ·cases e
noncomputable def ai5(K:W.Frag):V->Option Int->Option Int->Hp->VK->Prop:=fun x l h H Q=>∃F wx i,Same F H/\RW K F wx x/\l=some i/\h=none/\Eq1 F H K (WL.nM wx (.int i)) Q
theorem abO:SlR X (ai5 K):=by intro pins s σ H x v vl vu lo hi sl Q I rx hs pl pu⟨F,wx,i,sm,r,hl,hh,q⟩;subst hl hh;cases pl with|int i ti=>cases pu;cases e:WL.nM wx (.int i)with|bad=>rw[e]at q;exact q.elim|ex c=>rw[e]at q;exact q.elim|ok z=>rw[e]at q;cases wx with
 |str a=>
   simp only[RW]at r;subst r;obtain⟨t,rfl⟩:=rx;unfold WL.nM at e;dsimp only at e;split at e;·rename_i hh;cases e;refine⟨"str",_,PySem.F.slot_str_getitem.lookup,typeIs_str _ _ _,wpAny_getItem_str_slice (l:=some (i,ti)) (u:=none) (st:=none) hs rfl ?_⟩;exact post_val_or_str ⟨Nat.le_trans (Txt.slice_le a _ _) (Nat.le_trans hh.2 bA),fun t' k=>⟨.str (Txt.slice a (some i) none),H,I.tok k,⟨t',rfl⟩,eq1 q (by simp[RW])⟩⟩
   ·cases e|_=>cases e
theorem yT{a b:Expr}{ta tb:EF}{p2 pos:Pos}(ha:PE X a (lo B ta))(hb:PE X b (lo B tb)):PE X (.Subscript a (.Slice (some b) none none p2) pos) (lo B (WL.eOp WL.nM ta tb)):=PE.imp (pH (abO (K:=B.K)) ha (tN hb) tO) fun σV H Q⟨σ,F,R,q⟩=>by have q:=Rq.bind q;refine⟨σ,F,R,Rq.mono (Same.refl _) q fun x qx v H1 F1 R1 s1 r1=>?_⟩;have qx:=Rq.bind qx;refine⟨σ,F1,R1,Rq.mono s1.f qx fun y qy v2 H2 F2 R2 s2 r2=>?_⟩;cases y with
 |int i=>simp only[RW]at r2;refine⟨i,r2,F2,x,i,R2.rb.sub,r1.keep s2.f,rfl,rfl,?_⟩;unfold Eq1;cases e':WL.nM x (.int i)with
  |ok w=>rw[e']at qy;exact fun v F4 H4 E r4=>qy v H4 F4 (E.rs B σ σV R2) ((s1.trans s2).trans E.gr) r4|ex c=>
    unfold WL.nM at e';split at e';·split at e'<;>cases e'
    ·cases e'|bad=>rw[e']at qy;exact qy
 |_=>cases x<;>exact(show False from qy).elim
end
end WS
namespace L2
open PySem PySem.Spec PyProof.Rows
noncomputable def afi(lo:Int)(n:Nat):It:=⟨fun i _=>i<n,fun i H x H'=>H'=H/\x=.int (lo+(i:Nat)*2),fun i _=>n<=i⟩
theorem nq{P:Program}{w:World}{K:W.Frag}{tg:Expr}(it:Addr)(lo:Int)(n:Nat):Turn P w K tg (afi lo n) [it] it (fun i h=>IsRangeIter h it (lo+(i:Nat)*2) ((n:Int)-(i:Nat)) 2)where
 mem:=by simp
 obj:=fun i h st b hb=>by
  have e:b=it:=by simpa using hb
  subst e;exact⟨_,st,fun v z=>by have z':Data.fields _=Data.cell v:=z;cases z'⟩
 keep:=fun i h h' st k=>k it (by simp) _ st;item:=by intro X hP hw hK i pins s σ H E hc I hf st hg;subst hP hw hK;obtain⟨f0,f1,f2,f3,f4,f5⟩:=hf it (by simp);have W:=Walks.range (prog:=X.prog) (w:=X.w) (I.ok.hd hc) it lo 2 n;refine W.item i s _ _ hg st fun v h' tk hv st' kk=>?_;obtain⟨t,rfl⟩:=hv;have I1:Inv X pins σ H {s with heap:=h',toks:=tk}:=I.turned (fun b o hb e=>kk b o (by simpa using hb) e) f0 f1 f3 f4 f5;exact⟨_,rfl,ri (s:={s with heap:=h',toks:=tk}) (n:="range_iterator") st' rfl rfl (by decide) ⟨.int (lo+i*2),H,I1,⟨t,rfl⟩,⟨rfl,rfl⟩,st',fun b hb=>(hf b hb).1⟩⟩
 done:=by intro X hP hw hK i pins s σ H E hc I hf st hg;subst hP hw hK;obtain⟨f0,f1,f2,f3,f4,f5⟩:=hf it (by simp);exact wpAny_pyNext_range_end (I.ok.hd hc) st (by have:n<=i:=hg;omega) fun h' eb=>⟨rfl,I.turned (t':=s.toks) (fun b o hb e=>eb b o hb e) f0 f1 f3 f4 f5⟩
 self:=fun _ _ _ _ _ st h=>wpAny_pyIter_rangeiter st h
theorem fU(a b:Int):Builtin.Range.rangeSize a b 2=(((b-a+1)/2).toNat:Nat):=by unfold Builtin.Range.rangeSize;simp only[show(2:Int)>0 by decide,if_true];split<;>omega
theorem sS{a b:Int}(ha:-(2^60)<=a)(ha':a<2^60)(hb:-(2^60)<=b)(hb':b<2^60):Builtin.Range.small a b 2=true:=by unfold Builtin.Range.small;rw[fU];simp only[Builtin.Range.rangeFitsLong,Bool.and_eq_true,Bool.or_eq_true,decide_eq_true_eq,beq_iff_eq,show(2:Int)>0 by decide,if_true];omega
section
variable{X:Cx}{tg:Expr}
theorem tE{pins:List (Addr×Obj)}{σ:St}{H:Hp}{s:Shared}{R:It->Hp->Prop}{E:Value->Shared->Prop}{lo hi:Int}{t u v:Tok}{tk:Nat}(I:Inv X pins σ H s)(h1:-(2^60)<=lo)(h2:lo<2^60)(h3:-(2^60)<=hi)(h4:hi<2^60)(q:R (afi lo ((hi-lo+1)/2).toNat) H):wpAny (model X.prog X.w) X.A (pyIter (.ref s.heap.objs.size)) (PIE X pins σ tg R) E {s with heap:=s.heap.push {cls:=.type "range",data:=.fields #[.int lo t,.int hi u,.int 2 v]},toks:=tk}:=by
 refine wpAny_pyIter_range (IsRange.new ..) (sS h1 h2 h3 h4) ?_;have I1:Inv X pins σ H {s with heap:=s.heap.push {cls:=.type "range",data:=.fields #[.int lo t,.int hi u,.int 2 v]},toks:=tk}:=I.kept fun b o e=>Heap.get?_push_of_some _ e;refine⟨(s.heap.push {cls:=.type "range",data:=.fields #[.int lo t,.int hi u,.int 2 v]}).objs.size,[(s.heap.push {cls:=.type "range",data:=.fields #[.int lo t,.int hi u,.int 2 v]}).objs.size],_,_,H,rfl,I1.kept (t':=tk) fun b o e=>Heap.get?_push_of_some _ e,nq _ lo ((hi-lo+1)/2).toNat,?_,fun b hb=>?_,q⟩
 ·have e1:lo+((0:Nat):Int)*2=lo:=by simp
  have e2:((((hi-lo+1)/2).toNat:Nat):Int)-((0:Nat):Int)=Builtin.Range.rangeSize lo hi 2:=by rw[fU];simp
  show IsRangeIter _ _ (lo+((0:Nat):Int)*2) (((((hi-lo+1)/2).toNat:Nat):Int)-((0:Nat):Int)) 2;rw[e1,e2];exact Heap.get?_push_size _ rfl
 ·have e:b=(s.heap.push {cls:=.type "range",data:=.fields #[.int lo t,.int hi u,.int 2 v]}).objs.size:=by simpa using hb
  subst e;exact I1.adP (Nat.le_refl _) (I1.hok.fresh (Nat.le_refl _))
noncomputable def xc(ta:TA):TI:=fun σ H R=>ta σ H fun vs H1=>∃i j:Int,vs=[.int i,.int j,.int 2]/\(-(2^60)<=i/\i<2^60/\-(2^60)<=j/\j<2^60)/\R (afi i ((j-i+1)/2).toNat) H1
theorem tP{a b c:Expr}{ta:TA}{p pos:Pos}(hg:Gl X "range")(hm:X.mg "range"=none)(ha:PA X [a,b,c] ta)(hs:starEach [a,b,c] X.env=[(false,eval a X.env),(false,eval b X.env),(false,eval c X.env)]:=by rfl)(hs2:starEach [b,c] X.env=[(false,eval b X.env),(false,eval c X.env)]:=by rfl):PI X tg (.Call (.Name "range" p) [a,b,c] [] pos) (xc ta):=by intro pins s σ H R I h;refine Call_ (j3 I hg hm boot_range (PyProof.Rows.callWith_type1 (thn (ha pos pins s σ H _ I h) fun us s1⟨vs,H1,I1,r1,q1⟩=>?_) (by rw[hs,hs2]) (by rw[hs2];rfl)));obtain⟨i,j,e,⟨q1,q2,q3,q4⟩,q⟩:=q1;subst e;cases r1 with|cons r rr=>cases rr with|cons r' rr=>cases rr with|cons r'' rr=>cases rr;obtain⟨t,rfl⟩:=r;obtain⟨t',rfl⟩:=r';obtain⟨t'',rfl⟩:=r'';exact call_range_3 (by decide) (tE I1 q1 q2 q3 q4 q) (Or.inl (PyProof.noPylong_small (by omega)))
end
end L2
namespace WS
open PySem PySem.Spec PyProof.Rows L2 PySem.Builtin PySem.Builtin.Str
open WL(Res Sl Ws EF TF AF LF GF GsF SF Out)
section
variable{X:Cx}{B:Bx}{K:W.Frag}{tg:Expr}{ta tb:EF}
theorem sh{lo:Int}{n:Nat}{F:Hp}:Walk K (afi lo n) (WL.zu lo 2 n) F:=by
 refine⟨fun i x e F1 H1 s1 s2=>?_,fun F1 H1 s1 s2=>by show n<=(WL.zu lo 2 n).length;simp[WL.zu]⟩;have hi:i<n:=by have:=(List.getElem?_eq_some_iff.mp e).1;simpa[WL.zu]using this
 simp only[WL.zu,List.getElem?_map,List.getElem?_range hi]at e;cases e;refine⟨hi,fun u H2⟨e1,e2⟩=>?_⟩;subst e1 e2;exact⟨F1,Ext.refl _ _,by simp[RW]⟩
theorem yP{a c:Expr}{j2:Nat}{p pos p2:Pos}(hg:Gl X "range")(hm:X.mg "range"=none)(h:PE X a (lo B ta))(h':PE X c (lo B tb))(hs:starEach [a,c,.Constant (.int 2) j2 p2] X.env=[(false,eval a X.env),(false,eval c X.env),(false,eval (.Constant (.int 2) j2 p2) X.env)]:=by rfl)(hs2:starEach [c,.Constant (.int 2) j2 p2] X.env=[(false,eval c X.env),(false,eval (.Constant (.int 2) j2 p2) X.env)]:=by rfl)(h1:starEach [a,c,.Constant (.int 2) j2 p2] X.env=(false,eval a X.env)::starEach [c,.Constant (.int 2) j2 p2] X.env:=by rfl)(h2:starEach [c,.Constant (.int 2) j2 p2] X.env=(false,eval c X.env)::starEach [.Constant (.int 2) j2 p2] X.env:=by rfl)(h3:starEach [.Constant (.int 2) j2 p2] X.env=(false,eval (.Constant (.int 2) j2 p2) X.env)::starEach [] X.env:=by rfl):PI X tg (.Call (.Name "range" p) [a,c,.Constant (.int 2) j2 p2] [] pos) (loI B (WL.xc ta tb)):=PI.imp (tP hg hm (pa_cons h (pa_cons h' (pa_cons pe_int pa_nil h3) h2) h1) hs hs2) fun σV H R⟨σ,F,R0,q⟩=>by have q:=Rq.bind q;refine⟨σ,F,R0,Rq.mono (Same.refl _) q fun x qx v H1 F1 R1 g1 r1=>?_⟩;have qx:=Rq.bind qx;refine⟨σ,F1,R1,Rq.mono g1.f qx fun y qy v2 H2 F2 R2 g2 r2=>?_⟩;cases x with
|int i=>cases y with|int k=>
   have qy:Rq B σ F (if -(2^60)<=i/\i<2^60/\-(2^60)<=k/\k<2^60 then Res.ok (WL.zu i 2 ((k-i+1)/2).toNat)else .bad) _:=qy;simp only[RW]at r1 r2;subst r1 r2;by_cases hh:-(2^60)<=i/\i<2^60/\-(2^60)<=k/\k<2^60;·rw[if_pos hh]at qy;exact⟨i,k,rfl,hh,(show∀J H' F',_ from qy) _ H2 F2 R2 (g1.trans g2) sh⟩
   ·rw[if_neg hh]at qy;exact(show False from qy).elim|_=>exact(show False from qy).elim
|_=>exact(show False from qy).elim
end
end WS
namespace WS
open PySem PySem.Spec PyProof.Rows L2 PySem.Builtin PySem.Builtin.Str
open WL(Res Sl Ws EF TF AF LF GF GsF SF Out)
section
variable{X:Cx}{B:Bx}{K:W.Frag}{o x:Expr}{to:EF}{tas:AF}{apos cpos:Pos}
theorem fH(hK:X.K=B.K)(ho:PE X o (lo B to))(ha:PA X [x] (loA B tas))(hbase:attributeBase o "split" X.env (eval o X.env)=eval o X.env:=by rfl)(hfew:((backTo cpos (starEach [x] X.env)).all (fun x=>!x.1)&&(backToKw cpos (keywordEach [] X.env)).all (fun x=>x.1.isSome)&&decide (([x]:List Expr).length+([]:List Keyword).length+(if([]:List Keyword).isEmpty then 0 else 1)<30))=true:=by rfl)(hline:(apos.endLine==cpos.line)=true:=by rfl)(hs:starEach [x] X.env=(false,eval x X.env)::starEach [] X.env:=by rfl)(hplain:(backTo cpos (starEach [] X.env)).any (·.1)=false:=by rfl):PE X (.Call (.Attribute o "split" apos) [x] [] cpos) (lo B (WL.kN "str" WL.dA to tas)):=kc rF (pe_bm PySem.F.plainAttrs_str PySem.F.slot_str_split PySem.F.type_str_split wC ho ha hbase hfew hline hs hplain)
theorem rZ(hK:X.K=B.K)(ho:PE X o (lo B to))(ha:PA X [x] (loA B tas))(hbase:attributeBase o "startswith" X.env (eval o X.env)=eval o X.env:=by rfl)(hfew:((backTo cpos (starEach [x] X.env)).all (fun x=>!x.1)&&(backToKw cpos (keywordEach [] X.env)).all (fun x=>x.1.isSome)&&decide (([x]:List Expr).length+([]:List Keyword).length+(if([]:List Keyword).isEmpty then 0 else 1)<30))=true:=by rfl)(hline:(apos.endLine==cpos.line)=true:=by rfl)(hs:starEach [x] X.env=(false,eval x X.env)::starEach [] X.env:=by rfl)(hplain:(backTo cpos (starEach [] X.env)).any (·.1)=false:=by rfl):PE X (.Call (.Attribute o "startswith" apos) [x] [] cpos) (lo B (WL.kN "str" WL.fy to tas)):=kc oy (pe_bm PySem.F.plainAttrs_str PySem.F.slot_str_startswith PySem.F.type_str_startswith ui ho ha hbase hfew hline hs hplain)
theorem yO(hK:X.K=B.K)(ho:PE X o (lo B to))(ha:PA X [x] (loA B tas))(hbase:attributeBase o "partition" X.env (eval o X.env)=eval o X.env:=by rfl)(hfew:((backTo cpos (starEach [x] X.env)).all (fun x=>!x.1)&&(backToKw cpos (keywordEach [] X.env)).all (fun x=>x.1.isSome)&&decide (([x]:List Expr).length+([]:List Keyword).length+(if([]:List Keyword).isEmpty then 0 else 1)<30))=true:=by rfl)(hline:(apos.endLine==cpos.line)=true:=by rfl)(hs:starEach [x] X.env=(false,eval x X.env)::starEach [] X.env:=by rfl)(hplain:(backTo cpos (starEach [] X.env)).any (·.1)=false:=by rfl):PE X (.Call (.Attribute o "partition" apos) [x] [] cpos) (lo B (WL.kN "str" WL.nU to tas)):=kc vj (pe_bm PySem.F.plainAttrs_str PySem.F.slot_str_partition PySem.F.type_str_partition zX ho ha hbase hfew hline hs hplain)
theorem nh(hK:X.K=B.K)(ho:PE X o (lo B to))(ha:PA X [x] (loA B tas))(hbase:attributeBase o "join" X.env (eval o X.env)=eval o X.env:=by rfl)(hfew:((backTo cpos (starEach [x] X.env)).all (fun x=>!x.1)&&(backToKw cpos (keywordEach [] X.env)).all (fun x=>x.1.isSome)&&decide (([x]:List Expr).length+([]:List Keyword).length+(if([]:List Keyword).isEmpty then 0 else 1)<30))=true:=by rfl)(hline:(apos.endLine==cpos.line)=true:=by rfl)(hs:starEach [x] X.env=(false,eval x X.env)::starEach [] X.env:=by rfl)(hplain:(backTo cpos (starEach [] X.env)).any (·.1)=false:=by rfl):PE X (.Call (.Attribute o "join" apos) [x] [] cpos) (lo B (WL.kN "str" WL.gA to tas)):=kc rJ (pe_bm PySem.F.plainAttrs_str PySem.F.slot_str_join PySem.F.type_str_join (zY hK) ho ha hbase hfew hline hs hplain)
end
section
variable{X:Cx}{B:Bx}
theorem int_text{i:Int}(h:i.natAbs<1000):(Str.ofString (toString i)).length<=10/\i.natAbs.log2<1920:=by
 have key:((List.range 1000).all fun n=>Nat.ble (Str.ofString (toString (Int.ofNat n))).length 10&&Nat.ble (Str.ofString (toString (Int.neg (Int.ofNat n)))).length 10)=true:=by decide+kernel
 have k:=List.all_eq_true.mp key i.natAbs (List.mem_range.mpr h);rw[Bool.and_eq_true,Nat.ble_eq,Nat.ble_eq]at k;refine⟨?_,?_⟩
 ·rcases Int.natAbs_eq i with e|e;·rw[e];exact k.1
  ·rw[e];exact k.2
 ·by_cases z:i.natAbs=0;·rw[z];decide
  ·rw[Nat.log2_lt z];exact Nat.lt_of_lt_of_le h (by decide)
theorem xP{pins:List (Addr×Obj)}{σ:L2.St}{H:Hp}{s:Shared}(I:Inv X pins σ H s){h':Heap}(k:∀b o,s.heap.get? b=some o->h'.get? b=some o):Inv X pins σ H {s with heap:=h'}:=I.aer (ch:=[]) (fun b hb=>absurd hb List.not_mem_nil) (fun b o q _ _=>k b o q) (fun b o q _ _=>⟨o.slots,k b o q⟩)
noncomputable def aiQ(K:W.Frag)(U:Nat)(ta:TE):TE:=fun σ H Q=>ta σ H fun x H1=>(∃y:Str,x=.str y/\(∀c∈y.cps.toList,c<16^8)/\y.length<=5000/\∀z:Str,z.length<=10*y.length+2->Q (.str z) H1)\/(∃n d a,x=.ref a/\IsD K H1 n x d/\d.showable=true/\d.hasDict=false/\U+n<cLine/\d.shown.length<=80000/\Q (.str d.shown) H1)\/∃z:Str,((∃i:Int,x=.int i/\i.natAbs.log2<1920/\z=toString i)\/x=.non/\z="None"\/∃b:Bool,x=.bl b/\z=(if b then("True":Str)else"False"))/\z.length<=1000/\Q (.str z) H1
theorem acu{e:Expr}{pos:Pos}{ta:TE}(hg:X.A.guards=some [])(he:PE X e ta):PE X (.FormattedValue e 114 none pos) (aiQ X.K X.A.units ta):=by
 intro pins s σ H Q I h;refine wpAny_FormattedValue_repr (thn (he pins s σ H _ I h) fun u s1⟨x,H1,I1,rx,q⟩=>?_);rcases q with⟨y,ex,hc,hl,q⟩|⟨n,d,a,ex,hd,hs,hh,hu,hz,q⟩|⟨z,(⟨i,ex,hi,ez⟩|⟨ex,ez⟩|⟨b,ex,ez⟩),hz,q⟩;·subst ex;obtain⟨t,rfl⟩:=rx;have hz:=StrLaws.reprText_len y hc;have hz2:(reprText y).length<=sizeLine:=Nat.le_trans hz (Nat.le_trans (show 10*y.length+2<=50002 by omega) (by decide));exact pyReprObj_str (PyProof.Rows.formatField_str (fun t' tk=>⟨.str (reprText y),H1,(I1.tok _).tok tk,⟨_,rfl⟩,q _ hz⟩) hz2) hz2
 ·subst ex;cases(show u=Value.ref a from rx);obtain⟨⟨as,ra⟩,c1,d1⟩:=I1.reads n d (.ref a) _ hd rfl;have hz2:d.shown.length<=sizeLine:=Nat.le_trans hz (by decide);refine pyReprObj_of_reads ra hs (fun z=>by rw[hh]at z;cases z) hg (by omega) (fun _ _ q=>q) (fun h' u tk hk=>?_) hz2;exact PyProof.Rows.formatField_str (fun t' tk'=>⟨.str d.shown,H1,((xP I1 hk).tok _).tok _,⟨_,rfl⟩,q⟩) hz2
 ·subst ex ez;obtain⟨t,rfl⟩:=rx;exact pyReprObj_int hi (PyProof.Rows.formatField_str (fun t' tk=>⟨.str (toString i),H1,(I1.tok _).tok tk,⟨_,rfl⟩,q⟩) (Nat.le_trans hz (by decide)))
 ·subst ex ez;cases(show u=Value.none from rx);exact pyReprObj_none (PyProof.Rows.formatField_str (fun t' tk=>⟨.str "None",H1,(I1.tok _).tok tk,⟨_,rfl⟩,q⟩) (Nat.le_trans hz (by decide)))
 ·subst ex ez;cases(show u=Value.bool b from rx);exact pyReprObj_bool (PyProof.Rows.formatField_str (fun t' tk=>⟨.str _,H1,(I1.tok _).tok tk,⟨_,rfl⟩,q⟩) (Nat.le_trans hz (by decide)))
theorem eB:∀l:List PyData,(PyData.shownAll l).length=l.length|[]=>rfl|x::l=>by simp only[PyData.shownAll,List.length_cons,eB l]
theorem vS:∀{ws:List VW}{n k:Nat},WL.shL ws=some n->WL.bH (k+1) ws=true->PyData.showableAll (cJ ws)=true/\PyData.hasDictAll (cJ ws)=false/\((PyData.shownAll (cJ ws)).map (·.length)).sum+2*(cJ ws).length+3<=n
|[],n,k,e,_=>by cases e;exact⟨rfl,rfl,Nat.le_refl _⟩|.str x::ws,n,k,e,o=>by
 obtain⟨m,em,rfl⟩:=Option.map_eq_some_iff.mp (show(WL.shL ws).map (·+(10*x.length+4))=some n from e);simp only[WL.bH,Bool.and_eq_true]at o;obtain⟨h1,h2,h3⟩:=vS em o.2;have hx:∀c∈x.cps.toList,c<16^8:=fun c hc=>by
  have h:=o.1;simp only[WL.okD]at h;have:=Array.all_eq_true_iff_forall_mem.mp h c (by simpa using hc);have h4:c<1114112:=by simpa using this
  exact Nat.lt_trans h4 (by decide)
 have hr:=StrLaws.reprText_len x hx;refine⟨by simpa[cJ,toD,PyData.showableAll,PyData.showable]using h1,by simpa[cJ,toD,PyData.hasDictAll,PyData.hasDict]using h2,?_⟩;simp only[cJ,toD,PyData.shownAll,PyData.shown,List.map_cons,List.sum_cons,List.length_cons];omega|.int i::ws,n,k,e,o=>by
 have e:(if i.natAbs<1000 then(WL.shL ws).map (·+12)else none)=some n:=e;by_cases hi:i.natAbs<1000;·rw[if_pos hi]at e;obtain⟨m,em,rfl⟩:=Option.map_eq_some_iff.mp e;simp only[WL.bH,Bool.and_eq_true]at o;obtain⟨h1,h2,h3⟩:=vS em o.2;have ht:=int_text hi;refine⟨by simpa[cJ,toD,PyData.showableAll,PyData.showable,ht.2]using h1,by simpa[cJ,toD,PyData.hasDictAll,PyData.hasDict]using h2,?_⟩;simp only[cJ,toD,PyData.shownAll,PyData.shown,List.map_cons,List.sum_cons,List.length_cons];have:=ht.1;omega
 ·rw[if_neg hi]at e;cases e|.non::_,_,_,e,_=>by cases e|.bl _::_,_,_,e,_=>by cases e|.ty _::_,_,_,e,_=>by cases e|.tup _::_,_,_,e,_=>by cases e|.lst _::_,_,_,e,_=>by cases e|.dic _ _::_,_,_,e,_=>by cases e|.cls _::_,_,_,e,_=>by cases e|.exc _ _::_,_,_,e,_=>by cases e|.ins _ _::_,_,_,e,_=>by cases e
inductive PJ(X:Cx)(B:Bx):List Expr->AF->Prop where|nil:PJ X B [] WL.aj|c{x:Str}{j:Nat}{pos:Pos}{es:List Expr}{t:AF}(h:PJ X B es t)(hl:x.length<=1000):PJ X B (.Constant (.str x) j pos::es) t|f{e:Expr}{pos:Pos}{es:List Expr}{ta:EF}{t:AF}(he:PE X e (lo B ta))(h:PJ X B es t):PJ X B (.FormattedValue e (-1) none pos::es) (WL.aa (WL.eFf ta) t)|r{e:Expr}{pos:Pos}{es:List Expr}{ta:EF}{t:AF}(hK:X.K=B.K)(hu:X.A.units+64<cLine)(hg:X.A.guards=some [])(he:PE X e (lo B ta))(h:PJ X B es t):PJ X B (.FormattedValue e 114 none pos::es) (WL.aa (WL.eFr ta) t)
theorem eu:PJ X B [] WL.aj:=.nil
theorem kW{x:Str}{j:Nat}{pos:Pos}{es:List Expr}{t:AF}(h:PJ X B es t)(hl:x.length<=1000:=by decide+kernel):PJ X B (.Constant (.str x) j pos::es) t:=.c h hl
theorem abm{e:Expr}{pos:Pos}{es:List Expr}{ta:EF}{t:AF}(he:PE X e (lo B ta))(h:PJ X B es t):PJ X B (.FormattedValue e (-1) none pos::es) (WL.aa (WL.eFf ta) t):=.f he h
theorem sd{e:Expr}{pos:Pos}{es:List Expr}{ta:EF}{t:AF}(hK:X.K=B.K)(hu:X.A.units+64<cLine)(hg:X.A.guards=some [])(he:PE X e (lo B ta))(h:PJ X B es t):PJ X B (.FormattedValue e 114 none pos::es) (WL.aa (WL.eFr ta) t):=.r hK hu hg he h
theorem cC(x y:Str):(x++y).length=x.length+y.length:=by show(x.cps++y.cps).size=_;rw[Array.size_append];rfl
theorem fR{n m:Nat}{acc:Str}(h:acc.length<=100000*n)(hm:n+m<=50):acc.length<=sizeLine:=Nat.le_trans h (Nat.le_trans (Nat.mul_le_mul_left 100000 (show n<=50 by omega)) (by decide))
theorem fB:∀{es:List Expr}{t:AF},PJ X B es t->∃ts,Paired (PE X) es ts/\∀(σ:Ws)(σV:L2.St)(F H:Hp)(Q:VK)(acc:Str)(n:Nat),RS B σ σV F H->n+es.length<=50->acc.length<=100000*n->Rq B σ F (t σ) (fun _=>∀H' F'(y:Str),RS B σ σV F' H'->Gr F H F' H'->Q (.str y) H')->tJ ts acc σV H Q
|_,_,.nil=>⟨[],.nil,fun σ σV F H Q acc n R hn ha q=>⟨fR ha hn,(show∀H' F'(y:Str),_ from q) H F acc R Gr.refl⟩⟩|_,_,.c (x:=x) (es:=es) h hl=>by
 obtain⟨ts,hp,hq⟩:=fB h;refine⟨_,.cons yc hp,fun σ σV F H Q acc n R hn ha q=>?_⟩;have hn':n+1+es.length<=50:=by simp at hn;omega
 have hl2:(acc++x).length<=100000*(n+1):=by rw[cC];omega
 exact⟨x,rfl,fR hl2 hn',hq σ σV F H Q (acc++x) (n+1) R hn' hl2 q⟩|_,_,.f (es:=es) (ta:=ta) (t:=t) he h=>by
  obtain⟨ts,hp,hq⟩:=fB h;refine⟨_,.cons (acy he) hp,fun σ σV F H Q acc n R hn ha q=>?_⟩;have hn':n+1+es.length<=50:=by simp at hn;omega
  have q:=Rq.bind (Rq.bind q);refine⟨σ,F,R,Rq.mono (Same.refl _) q fun x qx v H1 F1 R1 g1 r1=>?_⟩;have rest:∀y:Str,y.length<=1000->(∃z,WL.ais x=.ok z)->∃y',V.str y=.str y'/\(acc++y').length<=sizeLine/\tJ ts (acc++y') σV H1 Q:=fun y hy⟨z,ez⟩=>by
   rw[ez]at qx;have hl2:(acc++y).length<=100000*(n+1):=by rw[cC];omega
   refine⟨y,rfl,fR hl2 hn',hq σ σV F1 H1 Q (acc++y) (n+1) R1 hn' hl2 ?_⟩;exact Rq.mono g1.f (Rq.bind (show Rq B σ F ((t σ).bind fun xs=>.ok (z::xs)) _ from qx)) fun ws k H' F' y2 R2 g2=>(show∀H' F'(y:Str),_ from k) H' F' y2 R2 (g1.trans g2)
  cases x with|int i=>
   simp only[RW]at r1;subst r1;by_cases hi:i.natAbs<1000;·have ht:=int_text hi;exact .inl ⟨i,rfl,ht.2,rest (toString i) (Nat.le_trans ht.1 (by decide)) ⟨_,if_pos hi⟩⟩
   ·have qx:Rq B σ F (if i.natAbs<1000 then Res.ok (WL.W.int i)else .bad) _:=qx;rw[if_neg hi]at qx;exact(show False from qx).elim|str y=>
   simp only[RW]at r1;subst r1;by_cases hi:y.length<=1000;·exact .inr ⟨y,rfl,Nat.le_trans hi (by decide),rest y hi ⟨_,if_pos hi⟩⟩
   ·have qx:Rq B σ F (if y.length<=1000 then Res.ok (WL.W.str y)else .bad) _:=qx;rw[if_neg hi]at qx;exact(show False from qx).elim|_=>exact(show False from qx).elim
|_,_,.r (es:=es) (ta:=ta) (t:=t) hK hu hg he h=>by
  obtain⟨ts,hp,hq⟩:=fB h;refine⟨_,.cons (acu hg he) hp,fun σ σV F H Q acc n R hn ha q=>?_⟩;have hn':n+1+es.length<=50:=by simp at hn;omega
  have q:=Rq.bind (Rq.bind q);refine⟨σ,F,R,Rq.mono (Same.refl _) q fun x qx v H1 F1 R1 g1 r1=>?_⟩;cases x with|str y=>
   simp only[RW]at r1;subst r1;by_cases hi:y.length<=5000/\(y.cps.toList.all fun c=>Nat.ble c 1114111)=true
   ·have ez:WL.adR (.str y)=.ok (.str y):=if_pos hi;rw[ez]at qx;refine .inl ⟨y,rfl,fun c hc=>Nat.lt_of_le_of_lt (Nat.ble_eq.mp (List.all_eq_true.mp hi.2 c hc)) (by decide),hi.1,fun z hz=>?_⟩;have hl2:(acc++z).length<=100000*(n+1):=by rw[cC];have:=hi.1;omega
    refine⟨z,rfl,fR hl2 hn',hq σ σV F1 H1 Q (acc++z) (n+1) R1 hn' hl2 ?_⟩;exact Rq.mono g1.f (Rq.bind (show Rq B σ F ((t σ).bind fun xs=>.ok (.str y::xs)) _ from qx)) fun ws k H' F' y2 R2 g2=>(show∀H' F'(y:Str),_ from k) H' F' y2 R2 (g1.trans g2)
   ·have qx:Rq B σ F (if y.length<=5000/\(y.cps.toList.all fun c=>Nat.ble c 1114111)=true then Res.ok (WL.W.str y)else .bad) _:=qx;rw[if_neg hi]at qx;exact(show False from qx).elim|lst ws=>
   by_cases hi:WL.shC ws=true;·have ez:WL.adR (.lst ws)=.ok (.lst ws):=if_pos hi;rw[ez]at qx;have hi2:(WL.bH 51 ws&&(match WL.shL ws with|some n=>decide (n<=80000)|none=>false))=true:=hi;rw[Bool.and_eq_true]at hi2;obtain⟨ho,hb⟩:=hi2;cases es':WL.shL ws with|none=>rw[es']at hb;cases hb|some m=>
     rw[es']at hb;have hb:m<=80000:=by simpa using hb
     obtain⟨s1,s2,s3⟩:=vS es' ho;have hd:=RW.isD 51 (.lst ws) v (by simpa only[WL.okD]using ho) (r1.keep R1.rb.sub);simp only[toD]at hd;simp only[RW]at r1;obtain⟨a,vs,rfl,_,_⟩:=r1;have hlen:(PyData.shown (.list (cJ ws))).length<=80000:=by have h1:=listText_len_le (PyData.shownAll (cJ ws));have h2:(PyData.shownAll (cJ ws)).length=(cJ ws).length:=eB (cJ ws);simp only[PyData.shown];omega
     refine .inr (.inl ⟨51,.list (cJ ws),a,rfl,by rw[hK];exact hd,by simpa only[PyData.showable]using s1,by simpa only[PyData.hasDict]using s2,by omega,hlen,?_⟩);have hl2:(acc++PyData.shown (.list (cJ ws))).length<=100000*(n+1):=by rw[cC];omega
     refine⟨_,rfl,fR hl2 hn',hq σ σV F1 H1 Q _ (n+1) R1 hn' hl2 ?_⟩;exact Rq.mono g1.f (Rq.bind (show Rq B σ F ((t σ).bind fun xs=>.ok (.lst ws::xs)) _ from qx)) fun ws k H' F' y2 R2 g2=>(show∀H' F'(y:Str),_ from k) H' F' y2 R2 (g1.trans g2)
   ·have qx:Rq B σ F (if WL.shC ws=true then Res.ok (WL.W.lst ws)else .bad) _:=qx;rw[if_neg hi]at qx;exact(show False from qx).elim|tup ws=>
   by_cases hi:WL.shC ws=true;·have ez:WL.adR (.tup ws)=.ok (.tup ws):=if_pos hi;rw[ez]at qx;have hi2:(WL.bH 51 ws&&(match WL.shL ws with|some n=>decide (n<=80000)|none=>false))=true:=hi;rw[Bool.and_eq_true]at hi2;obtain⟨ho,hb⟩:=hi2;cases es':WL.shL ws with|none=>rw[es']at hb;cases hb|some m=>
     rw[es']at hb;have hb:m<=80000:=by simpa using hb
     obtain⟨s1,s2,s3⟩:=vS es' ho;have hd:=RW.isD 51 (.tup ws) v (by simpa only[WL.okD]using ho) (r1.keep R1.rb.sub);simp only[toD]at hd;simp only[RW]at r1;obtain⟨a,vs,rfl,_,_⟩:=r1;have hlen:(PyData.shown (.tuple (cJ ws))).length<=80000:=by have h1:=tupleText_len_le (PyData.shownAll (cJ ws));have h2:(PyData.shownAll (cJ ws)).length=(cJ ws).length:=eB (cJ ws);simp only[PyData.shown];omega
     refine .inr (.inl ⟨51,.tuple (cJ ws),a,rfl,by rw[hK];exact hd,by simpa only[PyData.showable]using s1,by simpa only[PyData.hasDict]using s2,by omega,hlen,?_⟩);have hl2:(acc++PyData.shown (.tuple (cJ ws))).length<=100000*(n+1):=by rw[cC];omega
     refine⟨_,rfl,fR hl2 hn',hq σ σV F1 H1 Q _ (n+1) R1 hn' hl2 ?_⟩;exact Rq.mono g1.f (Rq.bind (show Rq B σ F ((t σ).bind fun xs=>.ok (.tup ws::xs)) _ from qx)) fun ws k H' F' y2 R2 g2=>(show∀H' F'(y:Str),_ from k) H' F' y2 R2 (g1.trans g2)
   ·have qx:Rq B σ F (if WL.shC ws=true then Res.ok (WL.W.tup ws)else .bad) _:=qx;rw[if_neg hi]at qx;exact(show False from qx).elim|bl b=>
   simp only[RW]at r1;subst r1;have hl3:(if b then("True":Str)else"False").length<=10:=by cases b<;>decide
   refine .inr (.inr ⟨(if b then("True":Str)else"False"),.inr (.inr ⟨b,rfl,rfl⟩),Nat.le_trans hl3 (by decide),?_⟩);have hl2:(acc++(if b then("True":Str)else"False")).length<=100000*(n+1):=by rw[cC];omega
   refine⟨_,rfl,fR hl2 hn',hq σ σV F1 H1 Q _ (n+1) R1 hn' hl2 ?_⟩;exact Rq.mono g1.f (Rq.bind (show Rq B σ F ((t σ).bind fun xs=>.ok (.bl b::xs)) _ from qx)) fun ws k H' F' y2 R2 g2=>(show∀H' F'(y:Str),_ from k) H' F' y2 R2 (g1.trans g2)|int i=>
   simp only[RW]at r1;subst r1;by_cases hi:i.natAbs<1000
   ·have ez:WL.adR (.int i)=.ok (.int i):=if_pos hi;rw[ez]at qx;have ht:=int_text hi;refine .inr (.inr ⟨toString i,.inl ⟨i,rfl,ht.2,rfl⟩,Nat.le_trans ht.1 (by decide),?_⟩);have hl2:(acc++(toString i:Str)).length<=100000*(n+1):=by rw[cC];have:=ht.1;omega
    refine⟨_,rfl,fR hl2 hn',hq σ σV F1 H1 Q _ (n+1) R1 hn' hl2 ?_⟩;exact Rq.mono g1.f (Rq.bind (show Rq B σ F ((t σ).bind fun xs=>.ok (.int i::xs)) _ from qx)) fun ws k H' F' y2 R2 g2=>(show∀H' F'(y:Str),_ from k) H' F' y2 R2 (g1.trans g2)
   ·have qx:Rq B σ F (if i.natAbs<1000 then Res.ok (WL.W.int i)else .bad) _:=qx;rw[if_neg hi]at qx;exact(show False from qx).elim|non=>
  simp only[RW]at r1;subst r1;refine .inr (.inr ⟨"None",.inr (.inl ⟨rfl,rfl⟩),by decide,?_⟩);have hl3:("None":Str).length<=10:=by decide
  have hl2:(acc++("None":Str)).length<=100000*(n+1):=by rw[cC];omega
  refine⟨_,rfl,fR hl2 hn',hq σ σV F1 H1 Q _ (n+1) R1 hn' hl2 ?_⟩;exact Rq.mono g1.f (Rq.bind (show Rq B σ F ((t σ).bind fun xs=>.ok (.non::xs)) _ from qx)) fun ws k H' F' y2 R2 g2=>(show∀H' F'(y:Str),_ from k) H' F' y2 R2 (g1.trans g2)|_=>exact(show False from qx).elim
theorem bb{x:Str}{C:Addr}{nm:String}{e1 e2:Expr}{es:List Expr}{a:AF}{np jpos cpos pos:Pos}(hK:X.K=B.K)(hx:XW X B)(hc:X.calm=true)(hg:Gl X x)(hm:X.mg x=some (.ref C))(q:W.excIn X.K C lq "ValueError.__new__"=true)(hC:ExcAt X.K nm C)(hf:WL.fieldsOf nm=[])(hj:PJ X B (e1::e2::es) a)(hl:es.length<=40:=by decide)(hd:(x==("__debug__":Str))=false:=by decide)(hev:evalEach es X.env=es.map fun e=>eval e X.env:=by rfl)(hs:starEach [Expr.JoinedStr (e1::e2::es) jpos] X.env=(false,eval (.JoinedStr (e1::e2::es) jpos) X.env)::starEach [] X.env:=by rfl)(hplain:(backTo cpos (starEach [] X.env)).any (·.1)=false:=by rfl):PS X (.Raise (some (.Call (.Name x np) [.JoinedStr (e1::e2::es) jpos] [] cpos)) none pos) (loS B (WL.cB nm a)):=by obtain⟨ts,hp,hq⟩:=fB hj;refine PS.imp (pF hc hg hm q (pa_cons (zF hp hev) pa_nil hs) hd hs hplain) fun D σV H⟨σ,F,R,q⟩=>?_;have q:=Oq.ofR q;refine hq σ σV F H _ Str.empty 0 R (by simp;omega) (Nat.le_refl _) (Rq.mono (Same.refl _) q fun ws qw H1 F1 y R1 g1=>?_);refine⟨show 1<=sizeLine by decide,fun pins s e t=>?_⟩;exact hx pins σV H1 s σ F1 (.exc nm []) R1 (B.mono _ σ F F1 g1.f qw) e C none none _ t ⟨hC,[],by rw[hf];rfl,by simp[RWs],.inl ⟨rfl,rfl⟩⟩
end
end WS
namespace L2
open PySem PySem.Spec PyProof.Rows PySem.Builtin
section
variable{X:Cx}
end
end L2
namespace WS
open PySem PySem.Spec PyProof.Rows L2 PySem.Builtin PySem.Builtin.Str
open WL(Res Sl Ws EF TF AF LF GF GsF SF Out)
section
variable{X:Cx}{K:W.Frag}
end
end WS
namespace WL
open PySem
noncomputable def jA:List W->Res W|[.int i]=>if i.natAbs.log2<1920 then .ok (.str (toString i))else .bad|[.str x]=>.ok (.str x)|_=>.bad
noncomputable def aiN:W->Res Bool|.str y=>if y.length<=lim then .ok (!(y.length==0))else .bad|_=>.bad
noncomputable def tS(e:EF):TF:=fun σ=>(e σ).bind aiN
noncomputable def af3:W->Res W|.str y=>if y.length<=100000 then .ok (.str y)else .bad|_=>.bad
noncomputable def ePt(e:EF):EF:=fun σ=>(e σ).bind af3
end WL
namespace WS
open PySem PySem.Spec PyProof.Rows L2 PySem.Builtin PySem.Builtin.Str
open WL(Res Sl Ws EF TF AF LF GF GsF SF Out)
section
variable{X:Cx}{B:Bx}{K:W.Frag}
theorem eR:∀xs c,WL.jA xs≠.ex c:=fun xs c h=>by
 unfold WL.jA at h;split at h;·split at h<;>cases h
 ·cases h
 ·cases h
theorem k7:bz X (.type "str") (loN K WL.jA):=by intro pins s σ H xs us Q I r⟨F,ws,sm,rw_,q⟩;cases e:WL.jA ws with|bad=>rw[e]at q;exact q.elim|ex c=>rw[e]at q;exact q.elim|ok w=>
  rw[e]at q;unfold WL.jA at e;split at e
  ·split at e;·rename_i i hl;cases e;obtain⟨v,rfl,hv⟩:=b6 rw_;simp only[RW]at hv;subst hv;obtain⟨u,rfl,⟨t,rfl⟩⟩:=vals1 r;exact PySem.P.str_of_int hl ⟨.str (toString i),H,I.tok _,⟨_,rfl⟩,eq1 q (by simp[RW])⟩
   ·cases e
  ·rename_i x;cases e;obtain⟨v,rfl,hv⟩:=b6 rw_;simp only[RW]at hv;subst hv;obtain⟨u,rfl,⟨t,rfl⟩⟩:=vals1 r;exact PySem.P.str_of_str ⟨.str x,H,I,⟨_,rfl⟩,eq1 q (by simp[RW])⟩
  ·cases e
noncomputable def abD(t:TE):TT:=fun σ H Q=>t σ H fun x H'=>∃y:Str,x=.str y/\y.length<=sizeLine/\Q (!(y.length==0)) H'
theorem zA{e:Expr}{t:TE}(h:PE X e t)(he:∀whole,isTrue e X.env whole=(do let v <-whole;standAt e.pos;holding [v] (truthy v)):=by intro _;rfl):PT X e (abD t):=by
 intro pins s σ H Q I hw;refine isTrue_plain (thn (h pins s σ H _ I hw) fun v s1⟨x,H1,I1,r1,q1⟩=>?_) (he _);obtain⟨y,rfl,hy,q⟩:=q1;obtain⟨t,rfl⟩:=r1;have e:((y.length:Int)!=0)=(!(y.length==0)):=by rw[bne,Bool.eq_iff_iff];simp
 have hb:¬(y.length:Int)≥ 2^63:=by
  have:(sizeLine:Nat)<2^63:=by decide
  omega
 exact PySem.P.truthy_str hb (by rw[e];exact⟨H1,I1.tok _,q⟩)
theorem aiJ{e:Expr}{t:EF}(h:PE X e (lo B t))(he:∀whole,isTrue e X.env whole=(do let v <-whole;standAt e.pos;holding [v] (truthy v)):=by intro _;rfl):PT X e (loT B (WL.tS t)):=PT.imp (zA h he) fun σV H Q⟨σ,F,R,q⟩=>by
 have q:=Rq.bind q;refine⟨σ,F,R,Rq.mono (Same.refl _) q fun x qx v1 H1 F1 R1 s1 r1=>?_⟩;cases x with|str y=>
   simp only[RW]at r1;by_cases hy:y.length<=WL.lim;·have qx:Rq B σ F (if y.length<=WL.lim then Res.ok (!(y.length==0))else .bad) _:=qx;rw[if_pos hy]at qx;exact⟨y,r1,Nat.le_trans hy bA,qx H1 F1 R1 s1⟩
   ·have qx:Rq B σ F (if y.length<=WL.lim then Res.ok (!(y.length==0))else .bad) _:=qx;rw[if_neg hy]at qx;exact(show False from qx).elim|_=>exact(show False from qx).elim
inductive PF(X:Cx)(B:Bx):List Expr->AF->Prop where|nil:PF X B [] WL.aj|c{x:Str}{j:Nat}{pos:Pos}{es:List Expr}{t:AF}(h:PF X B es t)(hl:x.length<=1000):PF X B (.Constant (.str x) j pos::es) (WL.aa (WL.eC (.str x)) t)|f{e:Expr}{pos:Pos}{es:List Expr}{ta:EF}{t:AF}(he:PE X e (lo B ta))(h:PF X B es t):PF X B (.FormattedValue e (-1) none pos::es) (WL.aa (WL.ePt ta) t)
end
section
variable{X:Cx}{B:Bx}{j k n:Nat}{f:Addr}{fd:FuncData}{ps:List Str}{ds:List Value}{fn:List VW->Res VW}{x y:Str}{p pos pos' apos:Pos}{e:Expr}{es:List Expr}{tas:AF}{i:Nat}{rest:List Stmt}{s:List VW->SF}
theorem vE(hB:B.K=X.K)(hr:Room j X.A)(C:Cal X.prog X.w X.K X.mg X.base (CXX X.prog X.w) k x ps ds (spX X.K n fn))(hN:X.N.Nodup)(hi:X.N[i]?=some y)(hy:Loc X.env.scope y)(ha:PA X (e::es) (loA B tas))(hrest:∀as,PSs X rest (loM B i as (s as)))(hk:k<=j:=by decide)(hn:∀σ ws,tas σ=.ok ws->ws.length=n:=by repeat first|exact vo|apply oN)(hg:Gl X x:=by rfl)(hdb:(x==("__debug__":Str))=false:=by decide)(he:starEach (e::es) X.env=(false,eval e X.env)::starEach es X.env:=by rfl)(hpl:(backTo pos (starEach es X.env)).any (·.1)=false:=by rfl)(hs:swapsWith (.Call (.Name x p) (e::es) [] pos) (some (.Name y pos')) apos.line X.env=pure false:=by rfl)(hf:X.fn y=true\/X.env.scope.names.lookup y=some .local:=by first|exact .inl rfl|exact .inr rfl|assumption):PSs X (.Assign [.Name y pos'] (.Call (.Name x p) (e::es) [] pos) apos::rest) (loS B (WL.zo i fn tas s)):=by
 obtain⟨f,fd,G,hm,hq,b,_⟩:=C;have hrest':PSs X rest (fun D σV H=>∃as,loM B i as (s as) D σV H):=fun pins s σ H D I⟨as,q⟩=>hrest as pins s σ H D I q;intro pins0 s0 σV H D I⟨σ,F,R,q⟩;refine cq (fW hN hi hy (pJ G (hr.mono hk) hg hm hq b .nil ha hdb he hpl) hs hf) hrest' pins0 s0 σV H D I ?_;have hil:i<σV.length:=by rw[I.len];exact(List.getElem?_eq_some_iff.mp hi).1
 have q:=Oq.ofR q;refine⟨σ,F,R,?_⟩;cases ea:tas σ with|bad=>rw[ea]at q;exact q|ex c=>rw[ea]at q;exact q|ok ws=>rw[ea]at q;intro vs H1 F1 R1 g1 r1;rw[List.append_nil,<-hB];refine⟨fun _ _ _=>False,?_,fun _ _ _ _ _ _ _ _ z=>z.elim⟩;have qw:Oq B D F (WL.sJ i ws s σ (fn ws)):=q;cases ef:fn ws with|bad=>rw[ef]at qw;exact(show False from qw).elim|ex c=>rw[ef]at qw;exact(show False from qw).elim|ok w=>
 rw[ef]at qw;have qw:Oq B D F (if WL.ar (WL.cI ws)=true then s (WL.cI ws) (σ.set i (.va w))else .bad):=qw;by_cases hfl:WL.ar (WL.cI ws)=true
 ·rw[if_pos hfl]at qw;obtain⟨Fa,sa,ra,la⟩:=ny ws vs hfl r1;refine⟨Fa,ws,sa.trans R1.rb.sub,ra,hn σ ws ea,?_⟩;rw[ef];intro v H2 Fr t1 t2 t3 fr r2;have le1:Same F1 H2:=R1.rb.sub.trans t3;have u1:Same F1 (uni F1 Fr):=kf;have u2:Same Fr (uni F1 Fr):=iL le1 t2;have g2:Gr F1 H1 (uni F1 Fr) H2:=⟨u1,t3,fun a o eh ef'=>by cases e2:uni F1 Fr a with|none=>rfl|some o2=>
    rcases lu e2 with z|⟨_,z⟩;·rw[ef']at z;cases z
    ·rcases fr a o2 z with z|z;·rw[sa a _ z]at ef';cases ef'
     ·rw[eh]at z;cases z.1⟩;have rb:RB B (uni F1 Fr) H2:=⟨fK le1 t2,R1.rb.base.trans t3,R1.rb.fz0.trans u1,fun a o e2=>by
   rcases lu e2 with z|⟨n1,z⟩;·exact R1.rb.fr a o z
   ·rcases fr a o z with z|z;·rw[sa a _ z]at n1;cases n1
    ·exact .inr ⟨R1.rb.base.free z.1,z.2⟩⟩;have R2:=R1.grow g2 rb;have R3:RS B σ σV F1 H2:=R1.grow ⟨Same.refl _,t3,fun _ _ _ z=>z⟩ ⟨le1,R1.rb.base.trans t3,R1.rb.fz0,R1.rb.fr⟩;have hil':i<σ.length:=by rw[R1.len];exact hil
  refine⟨WL.cI ws,σ.set i (.va w),uni F1 Fr,F1,⟨R2.set (r2.keep u2),by rw[List.set_set];exact R3.drop i (some v),u1,hfl,Fa,Fr,w,v,List.getElem?_set_self hil',List.getElem?_set_self hil,u2,r2,fun a us z=>?_,fun a o z=>?_⟩,Oq.mono g1.f qw⟩;·obtain⟨l,hl,hr'⟩:=la a us z;exact⟨l,hl,hr'.keep u1⟩
  ·rcases fr a o z with z|z;·exact .inl z
   ·exact .inr ⟨R1.rb.sub.free z.1,R1.rb.base.free z.1,z.2⟩
 ·rw[if_neg hfl]at qw;exact(show False from qw).elim
end
end WS
namespace WL
open PySem
end WL
namespace WS
open PySem PySem.Spec PyProof.Rows L2
open WL(Res Sl Ws EF TF AF LF GF GsF SF Out)
section
variable{X:Cx}{K:W.Frag}
end
end WS
namespace WL
open PySem
end WL
namespace WL
open PySem
noncomputable def ux:W->Bool|.str _=>true|.int _=>true|.non=>true|_=>false
noncomputable def qZ:W->W->Bool|.str x,.str y=>x==y|.int i,.int j=>i==j|.non,.non=>true|_,_=>false
noncomputable def aa9(k:W)(ks:List W):Bool:=ks.any fun x=>qZ x k
noncomputable def rD(k v:W):List W->List W->List W|k'::ks,v'::vs=>(if qZ k' k then v else v')::rD k v ks vs|_,_=>[]
noncomputable def zq(i:Nat):SF:=fun σ=>.nx (σ.set i (.od [] []))
noncomputable def putK(ks:List W)(k:W):List W:=if aa9 k ks then ks else ks++[k]
noncomputable def tG(ks us:List W)(k v:W):List W:=if aa9 k ks then rD k v ks us else us++[v]
noncomputable def putD(i:Nat)(ks us:List W)(k v:W)(σ:Ws):Out:=if ux k=true/\ks.length<lim then .nx (σ.set i (.od (putK ks k) (tG ks us k v)))else .bad
noncomputable def cE(i:Nat)(ev ek:EF):SF:=fun σ=>match σ[i]? with|some (.od ks us)=>ofR σ (ev σ) fun v=>ofR σ (ek σ) fun k=>putD i ks us k v σ|_=>.bad
noncomputable def aaA(i:Nat):LF:=fun σ=>match σ[i]? with|some (.va (.dic ks _))=>.ok ks|_=>.bad
noncomputable def m6:List W->Res W|[.str x]=>if x.length<=lim then .ok (.int x.length)else .bad|[.dic ks _]=>.ok (.int ks.length)|ws=>cx ws
noncomputable def wu(x y:W):Res W:=match x,y with|.str z,.int i=>if z.length<=lim then(match atI z.cps.toList i with|some c=>.ok (.str ⟨#[c]⟩)|none=>.bad)else .bad|x,y=>oIx x y
noncomputable def yj(x y:W):Res W:=match x,y with|.str a,.str b=>.ok (.bl (!(Builtin.Str.occurrences b a 0 b.length 1).isEmpty))|_,.str _=>.bad|x,y=>oIn x y
noncomputable def signs(x:Str):List W:=x.cps.toList.map fun c=>.str ⟨#[c]⟩
noncomputable def agV(e:EF):LF:=fun σ=>(e σ).bind fun w=>match w with|.str x=>if x.cps.all (·<128)=true then .ok (signs x)else .bad|_=>.bad
end WL
namespace WL
noncomputable def jF(tv:EF):EF:=fun σ=>tv (qS (σ.take 3))
noncomputable def nV(tv:EF):SF:=tm (aaA 1) (ay 2) (cE 3 (jF tv) (ah 2))
noncomputable def ae5:Out->Res W
|.nx σ=>match(σ[3]?:Option Sl)with|some (.od ks us)=>.ok (.dic ks us)|_=>.bad
|.ex c _=>.ex c|_=>.bad
noncomputable def clr(σ:Ws):Ws:=σ.map fun s=>match s with|.va w=>.va w|_=>.no
noncomputable def aa5(tv:EF)(σ:Ws):Res W:=match(σ[0]?:Option Sl)with|some .ob=>if σ.length=3 then ae5 (nV tv (clr σ++[.od [] []]))else .bad|_=>.bad
noncomputable def afQ(t1 t2:SF)(tv:EF):List W->Res W
|[w]=>match aX t1 t2 [.ob,.va w,.no]with|.nx σ=>aa5 tv σ|.ex c _=>.ex c|_=>.bad
|_=>.bad
end WL
namespace WS
open PySem PySem.Spec PyProof.Rows L2
open WL(Res Sl Ws EF TF AF LF GF GsF SF Out)
section
variable{B:Bx}{σ:Ws}{σV:L2.St}{F H:Hp}{a:Addr}{kvs:List (Key×V)}{od:Obj}{K:W.Frag}
noncomputable abbrev zD(od:Obj)(kvs:List (Key×V)):HO:=.frz od (.dK kvs)
theorem afW(e:F a=some (.dK kvs)){b:Addr}{l:List (Key×V)}(h:Rd F b (.dK l)):Rd (upd F a (zD od kvs)) b (.dK l):=by
 by_cases hb:b=a;·subst hb;rcases h with h|⟨o,h⟩<;>rw[e]at h<;>cases h;exact .inr ⟨od,ag⟩
 ·unfold Rd;rw[ae hb];exact h
theorem afV(e:F a=some (zD od kvs)){b:Addr}{l:List (Key×V)}(h:Rd F b (.dK l)):Rd (upd F a (.dK kvs)) b (.dK l):=by
 by_cases hb:b=a;·subst hb;rcases h with h|⟨o,h⟩<;>rw[e]at h<;>cases h;exact .inl ag
 ·unfold Rd;rw[ae hb];exact h
theorem xZ{o o':HO}(e:F a=some o)(h1:∀xs,o≠.tup xs)(h2:∀ob xs,o≠.frz ob (.tup xs)){b:Addr}{xs:List V}(h:SqT K F b xs):SqT K (upd F a o') b xs:=by
 rcases h with(h|⟨ob,h⟩)|h;·exact .inl (.inl (by rw[ae (fun z=>by rw[z,e]at h;exact h1 _ (Option.some.inj h))];exact h))
 ·exact .inl (.inr ⟨ob,by rw[ae (fun z=>by rw[z,e]at h;exact h2 _ _ (Option.some.inj h))];exact h⟩)
 ·exact .inr h
theorem x2{o o':HO}(e:F a=some o)(h1:∀xs,o≠.lst xs)(h2:∀ob xs,o≠.frz ob (.lst xs)){b:Addr}{xs:List V}(h:SqL K F b xs):SqL K (upd F a o') b xs:=by
 rcases h with(h|⟨ob,h⟩)|h;·exact .inl (.inl (by rw[ae (fun z=>by rw[z,e]at h;exact h1 _ (Option.some.inj h))];exact h))
 ·exact .inl (.inr ⟨ob,by rw[ae (fun z=>by rw[z,e]at h;exact h2 _ _ (Option.some.inj h))];exact h⟩)
 ·exact .inr h
theorem RWs.fz(e:F a=some (.dK kvs)){ws:List VW}{vs:List V}(h:RWs K F ws vs):RWs K (upd F a (zD od kvs)) ws vs:=RWs.via (fun _ _ q=>xZ e (fun _ z=>nomatch z) (fun _ _ z=>nomatch z) q) (fun _ _ q=>x2 e (fun _ z=>nomatch z) (fun _ _ z=>nomatch z) q) (fun _ _ q=>afW e q) (fun b φ q=>by rw[ae (fun z=>by rw[z,e]at q;cases q)];exact q) (fun b φ q=>by rw[ae (fun z=>by rw[z,e]at q;cases q)];exact q) (fun b _ _ _ _ q=>by rw[ae (fun z=>by rw[z,e]at q;cases q)];exact q) ws vs h
theorem RWs.th(e:F a=some (zD od kvs)){ws:List VW}{vs:List V}(h:RWs K F ws vs):RWs K (upd F a (.dK kvs)) ws vs:=RWs.via (fun _ _ q=>xZ e (fun _ z=>nomatch z) (fun _ _ z=>nomatch z) q) (fun _ _ q=>x2 e (fun _ z=>nomatch z) (fun _ _ z=>nomatch z) q) (fun _ _ q=>afV e q) (fun b φ q=>by rw[ae (fun z=>by rw[z,e]at q;cases q)];exact q) (fun b φ q=>by rw[ae (fun z=>by rw[z,e]at q;cases q)];exact q) (fun b _ _ _ _ q=>by rw[ae (fun z=>by rw[z,e]at q;cases q)];exact q) ws vs h
theorem RW.one{w:VW}{v:V}(h:RWs K F [w] [v]):RW K F w v:=by simp only[RWs]at h;obtain⟨_,_,e,q,_⟩:=h;cases e;exact q
theorem RW.fz(e:F a=some (.dK kvs)){w:VW}{v:V}(h:RW K F w v):RW K (upd F a (zD od kvs)) w v:=RW.one (RWs.fz e (RWs.one h))
theorem RW.th(e:F a=some (zD od kvs)){w:VW}{v:V}(h:RW K F w v):RW K (upd F a (.dK kvs)) w v:=RW.one (RWs.th e (RWs.one h))
theorem XR.th(e:F a=some (zD od kvs)){c:VW}{C:Addr}{dx:Option Addr}(h:XR K F c C dx):XR K (upd F a (.dK kvs)) c C dx:=by cases c with|exc nm fs=>obtain⟨h1,fvs,h2,h3,h4⟩:=h;exact⟨h1,fvs,h2,h3.th e,h4.imp id fun⟨d,z1,z2⟩=>⟨d,z1,by rw[ae (fun z=>by rw[z,e]at z2;cases z2)];exact z2⟩⟩|_=>exact h.elim
theorem sY{F F':Hp}{o o':HO}(s:Same (upd F a o) F'):Same (upd F a o') (upd F' a o'):=fun b u e=>by
 by_cases hb:b=a;·subst hb;rw[ag]at e⊢;exact e
 ·rw[ae hb]at e⊢;exact s b u (by rw[ae hb];exact e)
theorem oZ{F:Hp}{o:HO}(e:F a=some o):upd F a o=F:=by
 funext b;by_cases hb:b=a;·subst hb;rw[ag,e]
 ·rw[ae hb]
noncomputable def Bx.fz(B:Bx)(a:Addr)(od:Obj)(kvs:List (Key×V)):Bx:=⟨B.K,upd B.H0 a (zD od kvs),upd B.F0 a (zD od kvs),fun c σ F=>B.xp c σ (upd F a (.dK kvs)),fun c σ F F' s h=>B.mono c σ _ _ (fun b u e=>by
 by_cases hb:b=a;·subst hb;rw[ag]at e⊢;exact e
 ·rw[ae hb]at e⊢;exact s b u e) h⟩
theorem RS.fz(R:RS B σ σV F H)(e:F a=some (.dK kvs)):RS (B.fz a od kvs) σ σV (upd F a (zD od kvs)) (upd H a (zD od kvs)):=by
 refine⟨⟨fun b u q=>?_,fun b u q=>?_,fun b u q=>?_,fun b u q=>?_⟩,R.len,fun i w q=>?_,fun i ws q=>?_,R.ap,fun i ks us q=>?_,R.dd.ad,fun i q=>?_⟩
 ·by_cases hb:b=a;·subst hb;rw[ag]at q⊢;exact q
  ·rw[ae hb]at q⊢;exact R.rb.sub b u q
 ·by_cases hb:b=a;·subst hb;exact(show upd B.H0 b (zD od kvs) b=some u from q)▸(by rw[ag,ag])
  ·have q:upd B.H0 a (zD od kvs) b=some u:=q;rw[ae hb]at q⊢;exact R.rb.base b u q
 ·by_cases hb:b=a;·subst hb;exact(show upd B.F0 b (zD od kvs) b=some u from q)▸(by rw[ag,ag])
  ·have q:upd B.F0 a (zD od kvs) b=some u:=q;rw[ae hb]at q⊢;exact R.rb.fz0 b u q
 ·by_cases hb:b=a;·subst hb;rw[ag]at q;exact .inl (by show upd B.F0 b (zD od kvs) b=_;rw[ag];exact q)
  ·rw[ae hb]at q;rcases R.rb.fr b u q with z|z;·exact .inl (by show upd B.F0 a (zD od kvs) b=_;rw[ae hb];exact z)
   ·exact .inr ⟨by show upd B.H0 a (zD od kvs) b=_;rw[ae hb];exact z.1,z.2⟩
 ·obtain⟨v,h1,h2⟩:=R.va i w q;exact⟨v,h1,h2.fz e⟩
 ·obtain⟨b,vs,h1,h2,h3,h4,h5⟩:=R.ow i ws q;have hb:b≠a:=fun z=>by rw[z,e]at h2;cases h2
  exact⟨b,vs,h1,by rw[ae hb];exact h2,by show upd B.H0 a (zD od kvs) b=_;rw[ae hb];exact h3,by rw[ae hb];exact h4,h5.fz e⟩
 ·obtain⟨b,l,h1,h2,h3,h4,h5,h6⟩:=R.dd.od i ks us q;have hb:b≠a:=fun z=>by rw[z,e]at h2;cases h2
  exact⟨b,l,h1,by rw[ae hb];exact h2,by show upd B.H0 a (zD od kvs) b=_;rw[ae hb];exact h3,by rw[ae hb];exact h4,h5.fz e,h6.fz e⟩
 ·obtain⟨b,C,dx,h1,h2⟩:=R.dd.ob i q;exact⟨b,C,dx,h1,by rw[ae (fun z=>by rw[z,e]at h2;cases h2)];exact h2⟩
noncomputable def Was(B:Bx)(a:Addr)(kvs:List (Key×V)):Prop:=(B.F0 a=some (.dK kvs)\/B.H0 a=none/\B.F0 a=none)/\(B.H0 a=none\/B.H0 a=some (.dK kvs))
theorem RB.was(R:RB B F H)(e:F a=some (.dK kvs)):Was B a kvs:=by
 constructor
 ·rcases R.fr a _ e with z|z;·exact .inl z
  ·cases q:B.F0 a with|none=>exact .inr ⟨z.1,rfl⟩|some u=>have:=R.fz0 a u q;rw[e]at this;cases this;exact .inl rfl
 ·cases q:B.H0 a with|none=>exact .inl rfl|some u=>have:=R.base a u q;rw[R.sub a _ e]at this;cases this;exact .inr rfl
theorem RB.th(R:RB (B.fz a od kvs) F H)(w:Was B a kvs):F a=some (zD od kvs)/\H a=some (zD od kvs)/\RB B (upd F a (.dK kvs)) (upd H a (.dK kvs)):=by
 have e:F a=some (zD od kvs):=R.fz0 a _ (by show upd B.F0 a (zD od kvs) a=_;rw[ag]);refine⟨e,R.sub a _ e,fun b u q=>?_,fun b u q=>?_,fun b u q=>?_,fun b u q=>?_⟩
 ·by_cases hb:b=a;·subst hb;rw[ag]at q⊢;exact q
  ·rw[ae hb]at q⊢;exact R.sub b u q
 ·by_cases hb:b=a
  ·subst hb;rcases w.2 with z|z<;>rw[z]at q;·cases q
   ·rw[ag];exact q
  ·rw[ae hb];exact R.base b u (by show upd B.H0 a (zD od kvs) b=_;rw[ae hb];exact q)
 ·by_cases hb:b=a
  ·subst hb;rcases w.1 with z|⟨_,z⟩<;>rw[z]at q;·rw[ag];exact q
   ·cases q
  ·rw[ae hb];exact R.fz0 b u (by show upd B.F0 a (zD od kvs) b=_;rw[ae hb];exact q)
 ·by_cases hb:b=a
  ·subst hb;rw[ag]at q;cases q;rcases w.1 with z|⟨z,_⟩;·exact .inl z
   ·exact .inr ⟨z,trivial⟩
  ·rw[ae hb]at q;rcases R.fr b u q with z|z;·exact .inl (by have:upd B.F0 a (zD od kvs) b=some u:=z;rwa[ae hb]at this)
   ·exact .inr ⟨by have:upd B.H0 a (zD od kvs) b=none:=z.1;rwa[ae hb]at this,z.2⟩
theorem RS.th(R:RS (B.fz a od kvs) σ σV F H)(w:Was B a kvs):RS B σ σV (upd F a (.dK kvs)) (upd H a (.dK kvs)):=by
 obtain⟨e,eH,rb⟩:=R.rb.th w;refine⟨rb,R.len,fun i w q=>?_,fun i ws q=>?_,R.ap,fun i ks us q=>?_,R.dd.ad,fun i q=>?_⟩;·obtain⟨v,h1,h2⟩:=R.va i w q;exact⟨v,h1,h2.th e⟩
 ·obtain⟨b,vs,h1,h2,h3,h4,h5⟩:=R.ow i ws q;have hb:b≠a:=fun z=>by rw[z,e]at h2;cases h2
  exact⟨b,vs,h1,by rw[ae hb];exact h2,by have:upd B.H0 a (zD od kvs) b=none:=h3;rwa[ae hb]at this,by rw[ae hb];exact h4,h5.th e⟩
 ·obtain⟨b,l,h1,h2,h3,h4,h5,h6⟩:=R.dd.od i ks us q;have hb:b≠a:=fun z=>by rw[z,e]at h2;cases h2
  exact⟨b,l,h1,by rw[ae hb];exact h2,by have:upd B.H0 a (zD od kvs) b=none:=h3;rwa[ae hb]at this,by rw[ae hb];exact h4,h5.th e,h6.th e⟩
 ·obtain⟨b,C,dx,h1,h2⟩:=R.dd.ob i q;exact⟨b,C,dx,h1,by rw[ae (fun z=>by rw[z,e]at h2;cases h2)];exact h2⟩
end
section
variable{X:Cx}{B:Bx}{a:Addr}{kvs:List (Key×V)}{od:Obj}
theorem abA{pins:List (Addr×Obj)}{σV:L2.St}{H:Hp}{s:Shared}{e C:Addr}{dx T:Option Addr}{fl:Value}(t:Thr X pins σV H s e C dx fl T)(q:H a=some (zD od kvs))(hn:∀o u,X.H₀ a≠some (.frz o u)):Thr X pins σV (upd H a (.dK kvs)) s e C dx fl T:=by
 have ch:∀{b:Addr},FpX X pins H b->FpX X pins (upd H a (.dK kvs)) b:=fun{b}h=>by obtain⟨h1,h2⟩:=h;exact⟨by rw[ae (fun z=>by rw[z,q]at h1;cases h1)];exact h1,h2⟩
 exact⟨t.inv.mB q hn,t.trc,ch t.fe,fun u hu=>ch (t.fT u hu)⟩
theorem XW.fz(hx:XW X B)(w:Was B a kvs)(hn:∀o u,X.H₀ a≠some (.frz o u)):XW X (B.fz a od kvs):=fun pins σV H s σ F c R xp e C dx T fl t xr=>by obtain⟨e1,e2,_⟩:=R.rb.th w;exact hx pins σV _ s σ _ c (R.th w) xp e C dx T fl (abA t e2 hn) (xr.th e1)
noncomputable def adV(D:Ends)(a:Addr)(od:Obj)(kvs:List (Key×V)):Ends:=⟨fun σ H=>H a=some (zD od kvs)/\D.nx σ (upd H a (.dK kvs)),fun v H=>H a=some (zD od kvs)/\D.rt v (upd H a (.dK kvs)),fun σ H=>H a=some (zD od kvs)/\D.bk σ (upd H a (.dK kvs)),fun σ H=>H a=some (zD od kvs)/\D.ct σ (upd H a (.dK kvs))⟩
theorem abM{pins:List (Addr×Obj)}{D:Ends}(hn:∀o u,X.H₀ a≠some (.frz o u))(f:Flow)(s:Shared)(h:SP X pins (adV D a od kvs) f s):SP X pins D f s:=by cases f with|next=>obtain⟨σ,H,I,e,q⟩:=h;exact⟨σ,_,I.mB e hn,q⟩|brk=>obtain⟨σ,H,I,e,q⟩:=h;exact⟨σ,_,I.mB e hn,q⟩|cont=>obtain⟨σ,H,I,e,q⟩:=h;exact⟨σ,_,I.mB e hn,q⟩|ret u=>obtain⟨v,σ,H,I,r,e,q⟩:=h;exact⟨v,σ,_,I.mB e hn,r,q⟩
theorem Oq.fz{D:Ends}{F:Hp}(e:F a=some (.dK kvs))(w:Was B a kvs){o:Out}(h:Oq B D F o):Oq (B.fz a od kvs) (adV D a od kvs) (upd F a (zD od kvs)) o:=by
 have bk:∀{F'},Same (upd F a (zD od kvs)) F'->Same F (upd F' a (.dK kvs)):=fun s=>by have:=sY (o':=.dK kvs) s;rwa[oZ e]at this
 cases o with|nx σ=>exact fun σV H G R z=>⟨(R.rb.th w).2.1,h σV _ _ (R.th w) (bk z)⟩|bk σ=>exact fun σV H G R z=>⟨(R.rb.th w).2.1,h σV _ _ (R.th w) (bk z)⟩|ct σ=>exact fun σV H G R z=>⟨(R.rb.th w).2.1,h σV _ _ (R.th w) (bk z)⟩|rt u=>exact fun v H G R z r=>⟨(R.th w).2.1,h v _ _ (R.th w).2.2 (bk z) (r.th (R.th w).1)⟩|ex c σ=>show B.xp c σ (upd (upd F a (zD od kvs)) a (.dK kvs));rw[sC,oZ e];exact h|bad=>exact h
variable{tg l:Expr}{body:List Stmt}{g:GF}{b:SF}{i:Nat}{pos:Pos}
theorem kZ{K:W.Frag}{ks:List VW}{F:Hp}(h:F a=some (zD od kvs))(r:RWs K F ks (kvs.map fun p=>kV p.1)):Walk K (Itd a od kvs) ks F:=by have hl:=r.length;rw[List.length_map]at hl;refine⟨fun i x e F1 H1 s1 s2=>?_,fun F1 H1 s1 s2=>⟨s2 _ _ (s1 _ _ h),by omega⟩⟩;obtain⟨v,e1,r1⟩:=r.get e;rw[List.getElem?_map,Option.map_eq_some_iff]at e1;obtain⟨p,e1,rfl⟩:=e1;refine⟨⟨s2 _ _ (s1 _ _ h),(List.getElem?_eq_some_iff.mp e1).1⟩,fun u H2⟨e2,p',e3,y⟩=>?_⟩;subst e2 y;rw[e1]at e3;cases e3;exact⟨F1,Ext.refl _ _,r1.keep s1⟩
theorem yL(hK:X.K=B.K)(hp:PassesOwn (model X.prog X.w) X.A X.env X.xe)(hc:X.calm=true)(hx:XW X B)(hl:PE X l (tVar i))(hg:∀B':Bx,PG X tg (loG false B' g))(hb:∀B':Bx,B'.K=X.K->XW X B'->PSs X body (loS B' b))(hs:∀x,foldedSetIterable l X.env x=pure x:=by intro _;rfl):PS X (.For tg l body [] pos) (loS B (WL.tm (WL.aaA i) g b)):=by
 intro pins s σV H D I⟨σ,F,R,q⟩;have q0:=Oq.ofR (show Oq B D F (WL.ofR σ (WL.aaA i σ) fun xs=>WL.forL g b xs σ)from q);have main:∀(B':Bx)(D':Ends)(pins:List (Addr×Obj))(s:Shared)(H' F':Hp)(ks us:List VW)(a:Addr)(od:Obj)(kvs:List (Key×V)),B'.K=X.K->XW X B'->Inv X pins σV H' s->RS B' σ σV F' H'->σV[i]?=some (some (.ref a))->F' a=some (zD od kvs)->RWs B'.K F' ks (kvs.map fun p=>kV p.1)->Oq B' D' F' (WL.forL g b ks σ)->wpAny (model X.prog X.w) X.A (exec (.For tg l body [] pos) X.env) (SP X pins D') X.xe s:=by
  intro B' D' pins s H' F' ks us a od kvs hK' hx' I' R' e2 e3 rk q';refine pG (wi:=fun σV H R=>∃J,R J H/\J=Itd a od kvs/\σV[i]?=some (some (.ref a))/\H a=some (zD od kvs)) hp hc (PI.imp (tR hl) fun σV H R⟨J,r,ej,e2,e3⟩=>⟨.ref a,e2,a,od,kvs,rfl,e3,by rw[<-ej];exact r⟩) (hg B') (hb B' hK' hx') hs pins s σV H' D' I' ?_;refine⟨_,?_,rfl,e2,R'.rb.sub _ _ e3⟩;have wk:Walk B'.K (Itd a od kvs) ks F':=kZ e3 rk;refine⟨fun j m σV' H1=>m=ks.length-j/\j<=ks.length/\∃σ' F1,RS B' σ' σV' F1 H1/\Same F' F1/\Oq B' D' F1 (WL.forL g b (ks.drop j) σ'),⟨ks.length,rfl,Nat.zero_le _,σ,F',R',Same.refl _,by rw[List.drop_zero];exact q'⟩,?_⟩;rintro j m σV' H1⟨rfl,hj,σ',F1,R1,s1,q1⟩;by_cases hlt:j<ks.length;·have hd:ks.drop j=ks[j]::ks.drop (j+1):=List.drop_eq_getElem_cons hlt;rw[hd]at q1;obtain⟨go,yl⟩:=wk.go j ks[j] (List.getElem?_eq_getElem hlt) F1 H1 s1 R1.rb.sub;refine .inr ⟨go,fun σ2 H2=>∃σ'' F2,RS B' σ'' σ2 F2 H2/\Same F' F2/\Oq B' D' F2 (WL.forL g b (ks.drop (j+1)) σ''),fun σ2 H2 h2=>⟨ks.length-(j+1),by omega,rfl,hlt,h2⟩,fun v H2 hy=>?_⟩;obtain⟨F2,E2,r2⟩:=yl v H2 hy;have q1:=Oq.ofR (show Oq B' D' F1 (WL.ofR σ' (g ks[j] σ') fun σ1=>match b σ1 with|.nx σ2=>WL.forL g b (ks.drop (j+1)) σ2|.ct σ2=>WL.forL g b (ks.drop (j+1)) σ2|.bk σ2=>.nx σ2|o=>o)from q1);refine⟨σ',F2,ks[j],E2.rs _ _ _ R1,r2,Rq.mono E2.same q1 fun σ1 q1 σV3 H3 F3 R3 g3=>?_⟩;refine⟨σ1,F3,R3,?_⟩;have s3:Same F1 F3:=E2.same.trans g3.f;cases e1:b σ1 with|nx σ2=>rw[e1]at q1;exact fun σV4 H4 F4 R4 s4=>⟨σ2,F4,R4,(s1.trans s3).trans s4,Oq.mono (s3.trans s4) q1⟩|ct σ2=>rw[e1]at q1;exact fun σV4 H4 F4 R4 s4=>⟨σ2,F4,R4,(s1.trans s3).trans s4,Oq.mono (s3.trans s4) q1⟩|bk σ2=>rw[e1]at q1;exact fun σV4 H4 F4 R4 s4=>(show∀σV' H' F',_ from q1) σV4 H4 F4 R4 (s3.trans s4)|rt w=>rw[e1]at q1;exact fun v4 H4 F4 R4 s4=>(show∀v H' F',_ from q1) v4 H4 F4 R4 (s3.trans s4)|ex c σ2=>rw[e1]at q1;exact B'.mono c σ2 F1 F3 s3 q1|bad=>rw[e1]at q1;exact q1
  ·have ei:j=ks.length:=by omega
   subst ei;rw[List.drop_length]at q1;exact .inl ⟨wk.stop F1 H1 s1 R1.rb.sub,(show∀σV' H' F',_ from q1) σV' H1 F1 R1 (Same.refl _)⟩
 unfold WL.aaA at q0;cases e1:σ[i]? with|none=>rw[e1]at q0;exact(show False from q0).elim|some sl=>rw[e1]at q0;cases sl with
 |va w=>cases w with|dic ks us=>
    have q0:Oq B D F (WL.forL g b ks σ):=q0;obtain⟨v,e2,r2⟩:=R.va i _ e1;simp only[RW]at r2;obtain⟨a,kvs,rfl,rd,rk,ru⟩:=r2;rcases rd with rd|⟨od,rd⟩;·obtain⟨od,I',hn⟩:=I.adO (R.rb.sub _ _ rd);have w:=R.rb.was rd;exact thn (main (B.fz a od kvs) (adV D a od kvs) pins s _ _ ks us a od kvs hK.symm (hx.fz w hn) I' (R.fz rd) e2 ag (rk.fz rd) (q0.fz rd w)) fun f s h=>abM hn f s h
    ·exact main B D pins s H F ks us a od kvs hK.symm hx I R e2 rd rk q0|_=>exact(show False from q0).elim
 |_=>exact(show False from q0).elim
end
end WS
namespace PySem
theorem Heap.IsStrIter.at{h h':Heap}{a:Addr}{ty:String}{x:Str}{t:Tok}{i:Nat}(y:h.IsStrIter a ty x t i)(e:∀o,h.get? a=some o->h'.get? a=some o):h'.IsStrIter a ty x t i:=let⟨o,ho,r⟩:=y;⟨o,e _ ho,r⟩
end PySem
namespace L2
open PySem PySem.Spec PyProof.Rows
noncomputable def Its(x:Str):It:=⟨fun i _=>i<x.cps.size,fun i H v H'=>H'=H/\∃c,x.cps[i]?=some c/\v=.str ⟨#[c]⟩,fun i _=>x.cps.size<=i⟩
theorem qC{P:Program}{w:World}{K:W.Frag}{tg:Expr}(it:Addr)(x:Str)(t:Tok):Turn P w K tg (Its x) [it] it (fun i h=>h.IsStrIter it "str_ascii_iterator" x t i)where
 mem:=by simp
 obj:=fun i h st b hb=>by
  have e:b=it:=by simpa using hb
  subst e;obtain⟨o,e,c,d⟩:=st;exact⟨o,e,fun v z=>by rw[d]at z;cases z⟩
 keep:=fun i h h' st k=>st.at fun o e=>k it (by simp) o e;item:=by intro X hP hw hK i pins s σ H E hc I hf st hg;subst hP hw hK;have hg:i<x.cps.size:=hg;obtain⟨f0,f1,f2,f3,f4,f5⟩:=hf it (by simp);refine wpAny_pyNext_ascii_item st (c:=x.cps[i]) (Array.getElem?_eq_getElem hg) fun h' st' sb=>?_;have I1:Inv X pins σ H {s with heap:=h',toks:=s.toks+1}:=I.turned (t':=s.toks+1) (fun b o hb e=>(sb.2 b hb).trans e) f0 f1 f3 f4 f5;obtain⟨o,e,c,d⟩:=id st';exact⟨_,rfl,ri (s:={s with heap:=h',toks:=s.toks+1}) e c d (by decide) ⟨.str ⟨#[x.cps[i]]⟩,H,I1,⟨_,rfl⟩,⟨rfl,_,Array.getElem?_eq_getElem hg,rfl⟩,st',fun b hb=>(hf b hb).1⟩⟩
 done:=by intro X hP hw hK i pins s σ H E hc I hf st hg;subst hP hw hK;have hg:x.cps.size<=i:=hg;obtain⟨f0,f1,f2,f3,f4,f5⟩:=hf it (by simp);exact wpAny_pyNext_ascii_end (I.ok.hd hc) st (Array.getElem?_eq_none hg) fun h' eb=>⟨rfl,I.turned (t':=s.toks) (fun b o hb e=>eb b o hb e) f0 f1 f3 f4 f5⟩
 self:=fun A i s Q E st h=>by refine wpAny_pyIter_slot st.typeIs F.slot_str_ascii_iterator_iter (wpAny_call_entry F.slot_str_ascii_iterator_iter st.typeIs F.entry_str_ascii_iterator_iter ?_ (F.args_str_ascii_iterator_iter_1 _));show wpAny _ _ (ret (.ref it)) _ _ s;exact wpAny_pure ⟨_,rfl,"str_ascii_iterator",_,st.typeIs,F.slot_str_ascii_iterator_next.lookup,h⟩
noncomputable def ai8(tl:TE):TI:=fun σ H R=>tl σ H fun v H1=>∃x:Str,v=.str x/\x.cps.all (·<128)=true/\R (Its x) H1
theorem wc{X:Cx}{tg l:Expr}{tl:TE}(hl:PE X l tl):PI X tg l (ai8 tl):=by
 intro pins s σ H R I h;refine thn (hl pins s σ H _ I h) fun v s1⟨z,H1,I1,r1,x,e,ha,q⟩=>?_;subst e;obtain⟨t,rfl⟩:=r1;refine wpAny_pyIter_ascii ha ?_;refine⟨s1.heap.objs.size,[s1.heap.objs.size],_,_,H1,rfl,I1.kept (t':=s1.toks) fun b o e=>Heap.get?_push_of_some _ e,qC _ x t,⟨_,Heap.get?_push_size _ rfl,rfl,rfl⟩,fun b hb=>?_,q⟩;have e:b=s1.heap.objs.size:=by simpa using hb
 subst e;exact I1.adP (Nat.le_refl _) (I1.hok.fresh (Nat.le_refl _))
theorem jR{X:Cx}:bz X (.builtin "len") (fun xs H Q=>∃a kvs,xs=[.ref a]/\Rd H a (.dK kvs)/\Q (.int (kvs.length:Nat)) H):=by
 intro pins s σ H xs us Q I rx⟨a,kvs,e,rd,q⟩;subst e;obtain⟨u,rfl,ru⟩:∃u,us=[u]/\RelV (.ref a) u:=by cases rx with|cons h t=>cases t;exact⟨_,rfl,h⟩
 cases(show u=Value.ref a from ru);exact ahr I rd fun t s' I'=>⟨.int kvs.length,H,I',⟨t,rfl⟩,q⟩
end L2
namespace WS
open PySem PySem.Spec PyProof.Rows L2
open WL(Res Sl Ws EF TF AF LF GF GsF SF Out)
section
variable{X:Cx}{B:Bx}{K:W.Frag}
theorem abn{tg e:Expr}{ta:EF}(h:PE X e (lo B ta)):PI X tg e (loI B (WL.agV ta)):=PI.imp (wc h) fun σV H R⟨σ,F,R0,q⟩=>by
 have q:=Rq.bind q;refine⟨σ,F,R0,Rq.mono (Same.refl _) q fun x qx v H1 F1 R1 g1 r1=>?_⟩
 cases x with|str x=>
  simp only[RW]at r1;have qx:Rq B σ F (if x.cps.all (·<128)=true then Res.ok (WL.signs x)else .bad) _:=qx;by_cases ha:x.cps.all (·<128)=true
  ·rw[if_pos ha]at qx;refine⟨x,r1,ha,(show∀J H' F',_ from qx) _ H1 F1 R1 g1 ⟨fun i y e F2 H2 s1 s2=>?_,fun F2 H2 s1 s2=>by show x.cps.size<=(WL.signs x).length;simp[WL.signs]⟩⟩;unfold WL.signs at e;rw[List.getElem?_map,Option.map_eq_some_iff]at e;obtain⟨c,e,rfl⟩:=e;have hi:i<x.cps.size:=by have:=(List.getElem?_eq_some_iff.mp e).1;simpa using this
   refine⟨hi,fun v H3⟨e2,c',e3,y⟩=>?_⟩;subst e2 y;have:c=c':=by rw[Array.getElem?_toList]at e;rw[e]at e3;exact Option.some.inj e3
   subst this;exact⟨F2,Ext.refl _ _,by simp[RW]⟩
  ·rw[if_neg ha]at qx;exact(show False from qx).elim|_=>exact(show False from qx).elim
theorem mU:∀xs c,WL.m6 xs≠.ex c:=fun xs c h=>by
 unfold WL.m6 at h;split at h;·split at h<;>cases h
 ·cases h
 ·exact aC _ _ h
theorem xT(hK:X.K=K):bz X (.builtin "len") (loN K WL.m6):=by
 intro pins s σ H xs us Q I rx⟨F,ws,sm,r,q⟩;unfold WL.m6 at q;split at q
 ·split at q;·rename_i x hl;obtain⟨v,rfl,h⟩:=b6 r;simp only[RW]at h;exact mV pins s σ H _ us Q I rx ⟨x,by rw[h],Nat.le_trans hl bA,eq1 q (by simp[RW])⟩
  ·exact q.elim
 ·rename_i ks _;obtain⟨v,rfl,h⟩:=b6 r;simp only[RW]at h;obtain⟨a,kvs,rfl,rd,rk,_⟩:=h;have:=rk.length;rw[List.length_map]at this;exact jR pins s σ H _ us Q I rx ⟨a,kvs,rfl,sm.rd rd,eq1 q (by simp[RW,this])⟩
 ·exact cU hK pins s σ H xs us Q I rx ⟨F,_,sm,r,q⟩
theorem xG:Calm WL.wu:=fun x y c h=>by
 unfold WL.wu at h;split at h
 ·split at h;·split at h<;>cases h
  ·cases h
 ·exact oE _ _ _ h
theorem afj(hK:X.K=K):IxR X (lo2 K WL.wu):=by
 intro value slice pins s σ H x y v u Q I rx ry⟨F,wx,wy,sm,r1,r2,q⟩hs;unfold WL.wu at q;split at q
 ·rename_i z i;split at q
  ·rename_i hl;split at q;·rename_i c e;simp only[RW]at r1 r2;exact adB value slice pins s σ H x y v u Q I rx ry ⟨z,i,c,r1,r2,Nat.le_trans hl bA,e,eq1 q (by simp[RW])⟩ hs
   ·exact q.elim
  ·exact q.elim
 ·exact ahI hK value slice pins s σ H x y v u Q I rx ry ⟨F,_,_,sm,r1,r2,q⟩ hs
theorem xH:Calm WL.yj:=fun x y c h=>by
 unfold WL.yj at h;split at h;·cases h
 ·cases h
 ·exact jz _ _ _ h
theorem afk(hK:X.K=K)(hu:X.A.units+64<cLine):OpR X (compareOp .In) (lo2 K WL.yj):=by
 intro pins s σ H x y v u Q I rx ry⟨F,wx,wy,sm,r1,r2,q⟩;unfold WL.yj at q;split at q;·rename_i a b;simp only[RW]at r1 r2;exact tY pins s σ H x y v u Q I rx ry ⟨a,b,r1,r2,eq1 q (by simp[RW])⟩
 ·exact q.elim
 ·exact abu hK hu pins s σ H x y v u Q I rx ry ⟨F,_,_,sm,r1,r2,q⟩
theorem pZ{F:Hp}{x y:VW}:∀{a b:Key},RW K F x (kV a)->RW K F y (kV b)->WL.qZ x y=decide (a=b):=by
 intro a b h1 h2;rcases a with(_|i)|z<;>rcases b with(_|j)|z'<;>cases x<;>simp only[kV,RW,reduceCtorEq,false_and,exists_false,exists_const]at h1<;>cases y<;>simp only[kV,RW,reduceCtorEq,false_and,exists_false,exists_const]at h2<;>first|(cases h1;done)|skip
 all_goals first|(simp[WL.qZ];done)|(injection h1 with h1;injection h2 with h2;subst h1 h2;rw[Bool.eq_iff_iff];simp[WL.qZ];done)
theorem yr{F:Hp}{k:VW}{v:V}(hk:WL.ux k=true)(r:RW K F k v):∃key,v=kV key:=by
 cases k<;>simp only[WL.ux]at hk<;>first|(cases hk;done)|skip
 ·simp only[RW]at r;exact⟨.inl none,r⟩
 ·rename_i i;simp only[RW]at r;exact⟨.inl (some i),r⟩
 ·rename_i x;simp only[RW]at r;exact⟨.inr x,r⟩
theorem vb{F:Hp}{k:VW}{key:Key}(rk:RW K F k (kV key)):∀{kvs:List (Key×V)}{ks:List VW},RWs K F ks (kvs.map fun p=>kV p.1)->WL.aa9 k ks=kvs.any fun kv=>decide (kv.1=key)
|[],ks,r=>by cases ks with|nil=>rfl|cons x ks=>simp[RWs]at r
|p::kvs,ks,r=>by cases ks with|nil=>simp[RWs]at r|cons x ks=>simp only[List.map_cons,RWs]at r;obtain⟨v1,t1,e1,q1,s1⟩:=r;cases e1;show(WL.qZ x k||WL.aa9 k ks)=_;rw[pZ q1 rk,vb rk s1];rfl
theorem u9{F:Hp}{k w:VW}{key:Key}{v:V}(rk:RW K F k (kV key))(rv:RW K F w v):∀{kvs:List (Key×V)}{ks us:List VW},RWs K F ks (kvs.map fun p=>kV p.1)->RWs K F us (kvs.map fun p=>p.2)->RWs K F ks ((kvs.map fun kv=>if kv.1=key then(kv.1,v)else kv).map fun p=>kV p.1)/\RWs K F (WL.rD k w ks us) ((kvs.map fun kv=>if kv.1=key then(kv.1,v)else kv).map fun p=>p.2)
|[],ks,us,r1,r2=>by cases ks with
 |nil=>cases us with|nil=>exact⟨r1,r2⟩|cons _ _=>simp[RWs]at r2
 |cons x ks=>simp[RWs]at r1
|p::kvs,ks,us,r1,r2=>by cases ks with|nil=>simp[RWs]at r1|cons x ks=>cases us with|nil=>simp[RWs]at r2|cons y us=>
    simp only[List.map_cons,RWs]at r1 r2;obtain⟨v1,t1,e1,q1,s1⟩:=r1;obtain⟨v2,t2,e2,q2,s2⟩:=r2;cases e1;cases e2;obtain⟨h1,h2⟩:=u9 rk rv s1 s2;have e:=pZ q1 rk;unfold WL.rD;rw[e];by_cases h:p.1=key;·rw[decide_eq_true h,if_pos rfl];simp only[List.map_cons,if_pos h];exact⟨.cons q1 h1,.cons rv h2⟩
    ·rw[decide_eq_false h,if_neg Bool.false_ne_true];simp only[List.map_cons,if_neg h];exact⟨.cons q1 h1,.cons q2 h2⟩
theorem tH{F:Hp}{k w:VW}{key:Key}{v:V}(rk:RW K F k (kV key))(rv:RW K F w v){kvs:List (Key×V)}{ks us:List VW}(r1:RWs K F ks (kvs.map fun p=>kV p.1))(r2:RWs K F us (kvs.map fun p=>p.2)):RWs K F (WL.putK ks k) ((putK kvs key v).map fun p=>kV p.1)/\RWs K F (WL.tG ks us k w) ((putK kvs key v).map fun p=>p.2):=by
 unfold WL.putK WL.tG L2.putK;rw[vb rk r1];by_cases h:(kvs.any fun kv=>decide (kv.1=key))=true;·rw[if_pos h,if_pos h,if_pos h];exact u9 rk rv r1 r2
 ·rw[if_neg h,if_neg h,if_neg h,List.map_append,List.map_append];exact⟨r1.app (.one rk),r2.app (.one rv)⟩
variable{i j:Nat}{pos pos':Pos}{x:Str}
theorem yK{dpos:Pos}(hN:X.N.Nodup)(hi:X.N[i]?=some x)(hx:Loc X.env.scope x)(hs:swapsWith (.Dict [] [] dpos) (some (.Name x pos')) pos.line X.env=pure false:=by rfl)(hf:X.fn x=true\/X.env.scope.names.lookup x=some .local:=by first|exact .inl rfl|exact .inr rfl|assumption):PS X (.Assign [.Name x pos'] (.Dict [] [] dpos) pos) (loS B (WL.zq i)):=PS.imp (fW hN hi hx pI hs hf) fun D σV H⟨σ,F,R,q⟩=>by intro p hp;refine(show∀σV' H' F',_ from q) _ _ F ((R.wA hp (.dK [])).ahP (R.rb.sub.free hp) (R.rb.base.free hp) ag (by simp[RWs]) (by simp[RWs]) fun j ks us _ ej hv=>?_) (Same.refl _);obtain⟨b,l,g1,_,_,g4,_⟩:=R.dd.od j ks us ej;rw[hv]at g1;cases g1;rw[hp]at g4;cases g4
theorem yI{o ix value:Expr}{tv tk:EF}(hu:X.A.units+1<cLine)(ho:PE X o (tVar i))(hi:PE X ix (lo B tk))(hv:PE X value (lo B tv))(hs:swapsWith value (some (.Subscript o ix pos')) pos.line X.env=pure false:=by rfl):PS X (.Assign [.Subscript o ix pos'] value pos) (loS B (WL.cE i tv tk)):=PS.imp (tI hu ho hi hv hs) fun D σV H⟨σ,F,R,q⟩=>by have q:Oq B D F (match σ[i]? with|some (.od ks us)=>WL.ofR σ (tv σ) fun v=>WL.ofR σ (tk σ) fun k=>WL.putD i ks us k v σ|_=>.bad):=q;cases e1:σ[i]? with
|none=>rw[e1]at q;exact q.elim
|some sl=>rw[e1]at q;cases sl with|od ks us=>
   have q:=Oq.ofR (show Oq B D F (WL.ofR σ (tv σ) fun v=>WL.ofR σ (tk σ) fun k=>WL.putD i ks us k v σ)from q);refine⟨σ,F,R,Rq.mono (Same.refl _) q fun w qw v H1 F1 R1 g1 r1=>?_⟩;obtain⟨a,kvs,h1,_⟩:=R1.dd.od i ks us e1;refine⟨.ref a,h1,?_⟩;have qw:=Oq.ofR qw;refine⟨σ,F1,R1,Rq.mono g1.f qw fun k qk y H2 F2 R2 g2 r2=>?_⟩;obtain⟨a',kvs',k1,k2,k3,k4,k5,k6⟩:=R2.dd.od i ks us e1;rw[h1]at k1;cases k1;have qk:Oq B D F (if WL.ux k=true/\ks.length<WL.lim then .nx (σ.set i (.od (WL.putK ks k) (WL.tG ks us k w)))else .bad):=qk;by_cases hk:WL.ux k=true/\ks.length<WL.lim
   ·rw[if_pos hk]at qk;obtain⟨key,rfl⟩:=yr hk.1 r2;have hl:kvs'.length<sizeLine:=by have:=k5.length;rw[List.length_map]at this;rw[<-this];exact Nat.lt_of_lt_of_le hk.2 bA
    obtain⟨p1,p2⟩:=tH r2 (r1.keep g2.f) k5 k6;exact⟨a,_,rfl,abg.k k4 hl,(show∀σV' H' F',_ from qk) σV _ F2 (R2.xQ e1 h1 k2 k3 k4 p1 p2) (g1.f.trans g2.f)⟩
   ·rw[if_neg hk]at qk;exact qk.elim|_=>exact q.elim
end
end WS
namespace L2
open PySem PySem.Spec PyProof.Rows
section
variable{X:Cx}{k:Nat}{f C:Addr}{fd:FuncData}{ps:List Str}{sp:Sp}{dvs:List V}{ds:List Value}{x:Str}{p pos:Pos}{e:Expr}{es:List Expr}{t:TA}
noncomputable def abF(X:Cx)(C:Addr)(sp:Sp)(dvs:List V)(t:TA):TE:=fun σ H Q=>t σ H fun vs H1=>∀x dx,H1 x=none->H1 dx=none->dx≠x->∃E:XK,sp (.ref x::(vs++dvs)) (upd (upd H1 dx (.own x)) x (.ins C dx [])) (fun v H2=>v=.non/\Q (.ref x) H2) E/\∀pins s e C' dx' T H',Thr X pins σ H' s e C' dx' .none (some T)->E (.ref C') dx' H'->X.xe (.ref e) s
theorem wg(M:Mk X.K C f)(F:FnOk X.prog X.w X.K X.mg X.base (CXX X.prog X.w) k f fd ps sp)(hr:Room (k+1) X.A)(hg:Gl X x)(hm:X.mg x=some (.ref C))(hb:Binds X.K fd ps ds)(hd:Vals dvs ds)(ha:PA X (e::es) t)(hdb:(x==("__debug__":Str))=false:=by decide)(he:starEach (e::es) X.env=(false,eval e X.env)::starEach es X.env:=by rfl)(hpl:(backTo pos (starEach es X.env)).any (·.1)=false:=by rfl):PE X (.Call (.Name x p) (e::es) [] pos) (abF X C sp dvs t):=by
 intro pins s0 σ H0 Q I0 h0;refine wpAny_Call_Name_kw (je I0 hg hm ?_ hdb);refine W.callWith_K (h₀:=X.base) I0.ok.mod.kin M.kp (thn (ha pos pins s0 σ H0 _ I0 h0) fun us s⟨vs,H,I,r,h⟩=>⟨I.kIn,?_⟩) he hpl;obtain⟨E,hq,hx⟩:=h (s.heap.objs.size+1) s.heap.objs.size (I.hok.fresh (Nat.le_succ _)) (I.hok.fresh (Nat.le_refl _)) (Nat.ne_of_lt (Nat.lt_succ_self _));have I2:=Inv.made (C:=C) I;have r2:Vals (V.ref (s.heap.objs.size+1)::(vs++dvs)) (Value.ref (s.heap.objs.size+1)::(us++ds)):=.cons rfl (r.append hd);have hl:(Value.ref (s.heap.objs.size+1)::us++ds).length=ps.length:=by have e:=r2.length;rw[F.len _ _ _ _ hq]at e;exact e.symm
 refine wpAny_call (wD (f:=f) I.kIn M.makes M.init (beq_iff_eq.mp M.fn) (codeAny_mono (F.run _ X.stack _ _ ⟨Value.ref (s.heap.objs.size+1)::us,[]⟩ (Value.ref (s.heap.objs.size+1)::(us++ds)) _ _ E (hr.make C us []) trivial (I2.ahf.make C us []) (hb _ (Value.ref (s.heap.objs.size+1)::us) I2.kIn hl) r2 hq) fun r s' hq'=>?_));cases r with|error e=>obtain⟨ea,C',dx',T,H',rfl,t,q⟩:=I2.thrown hq';exact hx pins s' ea C' dx' T H' t q|ok fl=>cases fl with|ret u=>obtain⟨v,H',I3,rv,ev,q3⟩:=I2.after hq';subst ev;exact⟨rv,⟨V.ref (s.heap.objs.size+1),H',I3,rfl,q3⟩⟩|next=>exact False.elim hq'|brk=>exact False.elim hq'|cont=>exact False.elim hq'
end
end L2
namespace WS
open PySem PySem.Spec PyProof.Rows L2
open WL(Res Sl Ws EF TF AF LF GF GsF SF Out)
section
variable{B B1:Bx}{σ:Ws}{σV:L2.St}{F H F' H':Hp}
theorem RB.vV(R:RB B1 F' H')(h0:B1.H0=H)(f0:B1.F0=F)(rb:RB B F H):RB B F' H':=by
 subst h0 f0;refine⟨R.sub,rb.base.trans R.base,rb.fz0.trans R.fz0,fun a o e=>?_⟩;rcases R.fr a o e with z|z;·exact rb.fr a o z
 ·exact .inr ⟨rb.base.free z.1,z.2⟩
theorem RS.vV(R:RS B1 σ σV F' H')(hK:B1.K=B.K)(h0:B1.H0=H)(f0:B1.F0=F)(rb:RB B F H):RS B σ σV F' H':=by
 refine⟨R.rb.vV h0 f0 rb,R.len,fun i w e=>?_,fun i ws e=>?_,R.ap,fun i ks us e=>?_,R.dd.ad,R.dd.ob⟩;·obtain⟨v,h1,h2⟩:=R.va i w e;exact⟨v,h1,hK▸h2⟩
 ·obtain⟨a,vs,h1,h2,h3,h4,h5⟩:=R.ow i ws e;exact⟨a,vs,h1,h2,rb.base.free (h0▸h3),h4,hK▸h5⟩
 ·obtain⟨a,l,h1,h2,h3,h4,h5,h6⟩:=R.dd.od i ks us e;exact⟨a,l,h1,h2,rb.base.free (h0▸h3),h4,hK▸h5,hK▸h6⟩
theorem RS.front{k:Nat}{r:L2.St}(R:RS B σ (σV++r) F H)(hl:σV.length=k):RS B (σ.take k) σV F H:=by
 subst hl;have at':∀{i:Nat}{sl:Sl},(σ.take σV.length)[i]?=some sl->σ[i]?=some sl/\(σV++r)[i]?=σV[i]?:=fun{i sl}e=>by
  have hi:i<σV.length:=by have:=(List.getElem?_eq_some_iff.mp e).1;rw[List.length_take]at this;omega
  rw[List.getElem?_take_of_lt hi]at e;exact⟨e,List.getElem?_append_left hi⟩
 have hln:=R.len;refine⟨R.rb,by rw[List.length_take,hln,List.length_append];omega,fun i w e=>?_,fun i ws e=>?_,fun i j ws ws' a ne e1 e2 f1 f2=>?_,fun i ks us e=>?_,fun i j ks us ks' us' a ne e1 e2 f1 f2=>?_,fun i e=>?_⟩;·obtain⟨e1,e2⟩:=at' e;obtain⟨v,h1,h2⟩:=R.va i w e1;exact⟨v,e2▸h1,h2⟩
 ·obtain⟨e1,e2⟩:=at' e;obtain⟨a,vs,h1,h2⟩:=R.ow i ws e1;exact⟨a,vs,e2▸h1,h2⟩
 ·obtain⟨e1,e2'⟩:=at' e1;obtain⟨e3,e4⟩:=at' e2;exact R.ap i j ws ws' a ne e1 e3 (e2'.trans f1) (e4.trans f2)
 ·obtain⟨e1,e2⟩:=at' e;obtain⟨a,l,h1,h2⟩:=R.dd.od i ks us e1;exact⟨a,l,e2▸h1,h2⟩
 ·obtain⟨e1,e2'⟩:=at' e1;obtain⟨e3,e4⟩:=at' e2;exact R.dd.ad i j _ _ _ _ a ne e1 e3 (e2'.trans f1) (e4.trans f2)
 ·obtain⟨e1,e2⟩:=at' e;obtain⟨a,C,dx,h1,h2⟩:=R.dd.ob i e1;exact⟨a,C,dx,e2▸h1,h2⟩
theorem RS.snoc(R:RS B σ σV F H):RS B (σ++[.no]) (σV++[none]) F H:=by
 have at':∀{i:Nat}{sl:Sl},(σ++[Sl.no])[i]?=some sl->sl≠.no->σ[i]?=some sl/\(σV++[none])[i]?=σV[i]?:=fun{i sl}e ne=>by
  by_cases hi:i<σ.length;·rw[List.getElem?_append_left hi]at e;exact⟨e,List.getElem?_append_left (by rw[<-R.len];exact hi)⟩
  ·rw[List.getElem?_append_right (by omega)]at e;cases hz:i-σ.length with|zero=>rw[hz]at e;cases e;exact(ne rfl).elim|succ n=>rw[hz]at e;cases e
 refine⟨R.rb,by simp[R.len],fun i w e=>?_,fun i ws e=>?_,fun i j ws ws' a ne e1 e2 f1 f2=>?_,fun i ks us e=>?_,fun i j ks us ks' us' a ne e1 e2 f1 f2=>?_,fun i e=>?_⟩;·obtain⟨e1,e2⟩:=at' e (fun z=>nomatch z);obtain⟨v,h1,h2⟩:=R.va i w e1;exact⟨v,e2.trans h1,h2⟩
 ·obtain⟨e1,e2⟩:=at' e (fun z=>nomatch z);obtain⟨a,vs,h1,h2⟩:=R.ow i ws e1;exact⟨a,vs,e2.trans h1,h2⟩
 ·obtain⟨e1,e2'⟩:=at' e1 (fun z=>nomatch z);obtain⟨e3,e4⟩:=at' e2 (fun z=>nomatch z);exact R.ap i j ws ws' a ne e1 e3 (e2'.symm.trans f1) (e4.symm.trans f2)
 ·obtain⟨e1,e2⟩:=at' e (fun z=>nomatch z);obtain⟨a,l,h1,h2⟩:=R.dd.od i ks us e1;exact⟨a,l,e2.trans h1,h2⟩
 ·obtain⟨e1,e2'⟩:=at' e1 (fun z=>nomatch z);obtain⟨e3,e4⟩:=at' e2 (fun z=>nomatch z);exact R.dd.ad i j _ _ _ _ a ne e1 e3 (e2'.symm.trans f1) (e4.symm.trans f2)
 ·obtain⟨e1,e2⟩:=at' e (fun z=>nomatch z);obtain⟨a,C,dx,h1,h2⟩:=R.dd.ob i e1;exact⟨a,C,dx,e2.trans h1,h2⟩
structure Ex(f:Str)(x C dx d:Addr)(σV:L2.St)(F H:Hp):Prop where
 sl:σV[0]?=some (some (.ref x))F:F x=none
 H:H x=some (.ins C dx [(f,.ref d)])
noncomputable def Oq4(B:Bx)(f:Str)(x C dx:Addr)(D:Ends)(F:Hp):Out->Prop|.nx σ'=>∀σV' d H' F',σV'.length=3->RS B σ' (σV'++[some (.ref d)]) F' H'->Ex f x C dx d σV' F' H'->Same F F'->D.nx σV' H'|.ex c σ'=>B.xp c σ' F|_=>False
noncomputable def aih(B:Bx)(f:Str)(x C dx:Addr)(t:SF):TS:=fun D σV H=>∃σ d F,σV.length=3/\RS B σ (σV++[some (.ref d)]) F H/\Ex f x C dx d σV F H/\Oq4 B f x C dx D F (t σ)
theorem Oq4.mono{f:Str}{x C dx:Addr}{D:Ends}{F F':Hp}{o:Out}(s:Same F F')(h:Oq4 B f x C dx D F o):Oq4 B f x C dx D F' o:=by cases o with|nx σ=>exact fun σV d H G hl R ex z=>h σV d H G hl R ex (s.trans z)|ex c σ=>exact B.mono c σ F F' s h|_=>exact h
end
section
variable{X:Cx}{B:Bx}{f:Str}{x C dx:Addr}{self texts name value tg:Expr}{tv:EF}{ap sp apos pos:Pos}
theorem yJ(hK:X.K=B.K)(hx:XW X B)(hxp:∀c σ σ' F,B.xp c σ F->B.xp c σ' F)(hu:X.A.units+1<cLine)(hself:PE X self (tVar 0))(hname:PE X name (tVar 2))(hv:∀B':Bx,B'.K=X.K->XW X B'->PE X value (lo B' tv))(hb:attributeBase self f X.env (eval self X.env)=eval self X.env)(cl:Cls X.K C)(na:di X.K C f)(hsw:swapsWith value (some (.Subscript (.Attribute self f ap) name sp)) apos.line X.env=pure false):PS X (.Assign [.Subscript (.Attribute self f ap) name sp] value apos) (aih B f x C dx (WL.cE 3 (WL.jF tv) (WL.ah 2))):=by intro pins s σV H D I⟨σ,d,F,hl,R,ex,q⟩;have q:Oq4 B f x C dx D F (match(σ[3]?:Option Sl)with|some (.od ks us)=>WL.ofR σ (WL.jF tv σ) fun v=>WL.ofR σ (WL.ah 2 σ) fun k=>WL.putD 3 ks us k v σ|_=>.bad):=q;cases e1:σ[3]? with|none=>rw[e1]at q;exact(show False from q).elim|some sl=>rw[e1]at q;cases sl with
 |od ks us=>
   have q:Oq4 B f x C dx D F (WL.ofR σ (WL.jF tv σ) fun v=>WL.ofR σ (WL.ah 2 σ) fun k=>WL.putD 3 ks us k v σ):=q;let B1:Bx:=⟨B.K,H,F,B.xp,B.mono⟩;have hx1:XW X B1:=fun pins σV H1 s σ F1 c R1 xp e C dx T fl t xr=>hx pins σV H1 s σ F1 c (R1.vV rfl rfl rfl R.rb) xp e C dx T fl t xr;have R1:RS B1 (WL.qS (σ.take 3)) σV F H:=(R.front hl).qS rfl rfl rfl;have d3:(σV++[some (V.ref d)])[3]?=some (some (.ref d)):=by rw[List.getElem?_append_right (by omega),hl];rfl
   refine tI hu (yd hself hb) hname (hv B1 hK.symm hx1) hsw pins s σV H D I ?_;refine⟨_,F,R1,?_⟩;have q:Oq4 B f x C dx D F (WL.ofR σ (tv (WL.qS (σ.take 3))) fun v=>WL.ofR σ (WL.ah 2 σ) fun k=>WL.putD 3 ks us k v σ):=q;cases e2:tv (WL.qS (σ.take 3))with|bad=>rw[e2]at q;exact q|ex c=>rw[e2]at q;exact hxp c _ _ F q|ok w=>rw[e2]at q;intro v H2 F2 R2 g2 r2;have q:Oq4 B f x C dx D F (WL.ofR σ (WL.ah 2 σ) fun k=>WL.putD 3 ks us k w σ):=q;have hx2:H2 x=some (.ins C dx [(f,.ref d)]):=g2.h _ _ ex.H;refine⟨.ref x,ex.sl,x,C,dx,[(f,.ref d)],.ref d,rfl,hx2,cl,na,by simp[List.lookup],?_⟩;have R3:RS B σ (σV++[some (.ref d)]) F2 H2:=R.grow g2 (R2.rb.vV rfl rfl R.rb);cases e3:σ[2]? with
  |none=>unfold WL.ah at q;rw[e3]at q;exact(show False from q).elim
  |some sl=>unfold WL.ah at q;rw[e3]at q;cases sl with|va k=>
      have q:Oq4 B f x C dx D F (if WL.ux k=true/\ks.length<WL.lim then .nx (σ.set 3 (.od (WL.putK ks k) (WL.tG ks us k w)))else .bad):=q;obtain⟨y,h1,h2⟩:=R3.va 2 k e3;rw[List.getElem?_append_left (by omega)]at h1;refine⟨y,h1,?_⟩;by_cases hk:WL.ux k=true/\ks.length<WL.lim
      ·rw[if_pos hk]at q;obtain⟨key,rfl⟩:=yr hk.1 h2;obtain⟨a',kvs,k1,k2,k3,k4,k5,k6⟩:=R3.dd.od 3 ks us e1;rw[d3]at k1;cases k1;have hlen:kvs.length<sizeLine:=by have:=k5.length;rw[List.length_map]at this;rw[<-this];exact Nat.lt_of_lt_of_le hk.2 bA
       obtain⟨p1,p2⟩:=tH h2 (show RW B.K F2 w v from r2) k5 k6;refine⟨d,_,rfl,abg.k k4 hlen,(show∀σV' d H' F',_ from q) σV d _ F2 hl (R3.xQ e1 d3 k2 k3 k4 p1 p2) ⟨ex.sl,?_,?_⟩ g2.f⟩;·exact g2.nf x _ ex.H ex.F
       ·rw[ae (fun z=>by rw[<-z,hx2]at k4;cases k4)];exact hx2
      ·rw[if_neg hk]at q;exact(show False from q).elim|_=>exact(show False from q).elim
 |_=>exact(show False from q).elim
theorem Oq4.fz{D:Ends}{F:Hp}{a:Addr}{kvs:List (Key×V)}{od:Obj}(e:F a=some (.dK kvs))(w:Was B a kvs)(na:x≠a){o:Out}(h:Oq4 B f x C dx D F o):Oq4 (B.fz a od kvs) f x C dx (adV D a od kvs) (upd F a (zD od kvs)) o:=by
 have bk:∀{F'},Same (upd F a (zD od kvs)) F'->Same F (upd F' a (.dK kvs)):=fun s=>by have:=sY (o':=.dK kvs) s;rwa[oZ e]at this
 cases o with|nx σ=>exact fun σV d H G hl R ex z=>⟨(R.rb.th w).2.1,h σV d _ _ hl (R.th w) ⟨ex.sl,by rw[ae na];exact ex.F,by rw[ae na];exact ex.H⟩ (bk z)⟩|ex c σ=>show B.xp c σ (upd (upd F a (zD od kvs)) a (.dK kvs));rw[sC,oZ e];exact h|_=>exact h
theorem pj{i:Nat}{ev ek:EF}{σ:Ws}:(∀σ2,WL.cE i ev ek σ≠.ct σ2)/\∀σ2,WL.cE i ev ek σ≠.bk σ2:=by
 unfold WL.cE;split;·cases ev σ with
 |ok v=>cases ek σ with|ok k=>rename_i ks us _;show(∀σ2,(if WL.ux k=true/\ks.length<WL.lim then Out.nx (σ.set i (.od (WL.putK ks k) (WL.tG ks us k v)))else .bad)≠.ct σ2)/\∀σ2,(if WL.ux k=true/\ks.length<WL.lim then Out.nx (σ.set i (.od (WL.putK ks k) (WL.tG ks us k v)))else .bad)≠.bk σ2;split<;>exact⟨fun _ z=>(by cases z),fun _ z=>(by cases z)⟩|ex c=>exact⟨fun _ z=>(by cases z),fun _ z=>(by cases z)⟩|bad=>exact⟨fun _ z=>(by cases z),fun _ z=>(by cases z)⟩
 |ex c=>exact⟨fun _ z=>(by cases z),fun _ z=>(by cases z)⟩|bad=>exact⟨fun _ z=>(by cases z),fun _ z=>(by cases z)⟩
 ·exact⟨fun _ z=>(by cases z),fun _ z=>(by cases z)⟩
theorem yM(hK:X.K=B.K)(hp:PassesOwn (model X.prog X.w) X.A X.env X.xe)(hc:X.calm=true)(hx:XW X B)(hxp:∀c σ σ' F,B.xp c σ F->B.xp c σ' F)(hu:X.A.units+1<cLine)(htx:PE X texts (tVar 1))(hself:PE X self (tVar 0))(hname:PE X name (tVar 2))(hg:PG X tg (L2.ay 2))(hv:∀B':Bx,B'.K=X.K->XW X B'->PE X value (lo B' tv))(hb:attributeBase self f X.env (eval self X.env)=eval self X.env)(cl:Cls X.K C)(na:di X.K C f)(hsw:swapsWith value (some (.Subscript (.Attribute self f ap) name sp)) apos.line X.env=pure false)(hs:∀x,foldedSetIterable texts X.env x=pure x:=by intro _;rfl):PS X (.For tg texts [.Assign [.Subscript (.Attribute self f ap) name sp] value apos] [] pos) (aih B f x C dx (WL.nV tv)):=by
 intro pins s σV H D I⟨σ,d,F,hl,R,ex,q⟩;have main:∀(B':Bx)(D':Ends)(pins:List (Addr×Obj))(s:Shared)(H' F':Hp)(ks:List VW)(a:Addr)(od:Obj)(kvs:List (Key×V)),B'.K=X.K->XW X B'->(∀c σ σ' F,B'.xp c σ F->B'.xp c σ' F)->Inv X pins σV H' s->RS B' σ (σV++[some (.ref d)]) F' H'->Ex f x C dx d σV F' H'->σV[1]?=some (some (.ref a))->F' a=some (zD od kvs)->RWs B'.K F' ks (kvs.map fun p=>kV p.1)->Oq4 B' f x C dx D' F' (WL.forL (WL.ay 2) (WL.cE 3 (WL.jF tv) (WL.ah 2)) ks σ)->wpAny (model X.prog X.w) X.A (exec (.For tg texts [.Assign [.Subscript (.Attribute self f ap) name sp] value apos] [] pos) X.env) (SP X pins D') X.xe s:=by
  intro B' D' pins s H' F' ks a od kvs hK' hx' hxp' I' R' ex' e2 e3 rk q';refine pG (wi:=fun σV H R=>∃J,R J H/\J=Itd a od kvs/\σV[1]?=some (some (.ref a))/\H a=some (zD od kvs)) hp hc (PI.imp (tR htx) fun σV H R⟨J,r,ej,e2,e3⟩=>⟨.ref a,e2,a,od,kvs,rfl,e3,by rw[<-ej];exact r⟩) hg (gx (yJ (B:=B') (x:=x) (C:=C) (dx:=dx) hK'.symm hx' hxp' hu hself hname hv hb cl na hsw)) hs pins s σV H' D' I' ?_;refine⟨_,?_,rfl,e2,R'.rb.sub _ _ e3⟩;have wk:Walk B'.K (Itd a od kvs) ks F':=kZ e3 rk;refine⟨fun j m σV' H1=>m=ks.length-j/\j<=ks.length/\∃σ' d' F1,σV'.length=3/\RS B' σ' (σV'++[some (.ref d')]) F1 H1/\Ex f x C dx d' σV' F1 H1/\Same F' F1/\Oq4 B' f x C dx D' F1 (WL.forL (WL.ay 2) (WL.cE 3 (WL.jF tv) (WL.ah 2)) (ks.drop j) σ'),⟨ks.length,rfl,Nat.zero_le _,σ,d,F',hl,R',ex',Same.refl _,by rw[List.drop_zero];exact q'⟩,?_⟩;rintro j m σV' H1⟨rfl,hj,σ',d',F1,hl1,R1,ex1,s1,q1⟩;by_cases hlt:j<ks.length
  ·have hd:ks.drop j=ks[j]::ks.drop (j+1):=List.drop_eq_getElem_cons hlt;rw[hd]at q1;obtain⟨go,yl⟩:=wk.go j ks[j] (List.getElem?_eq_getElem hlt) F1 H1 s1 R1.rb.sub;refine .inr ⟨go,fun σ2 H2=>∃σ'' d'' F2,σ2.length=3/\RS B' σ'' (σ2++[some (.ref d'')]) F2 H2/\Ex f x C dx d'' σ2 F2 H2/\Same F' F2/\Oq4 B' f x C dx D' F2 (WL.forL (WL.ay 2) (WL.cE 3 (WL.jF tv) (WL.ah 2)) (ks.drop (j+1)) σ''),fun σ2 H2 h2=>⟨ks.length-(j+1),by omega,rfl,hlt,h2⟩,fun v H2 hy=>?_⟩;obtain⟨e4,p,e5,e6⟩:=hy;subst e4 e6;have hr:RW B'.K F1 ks[j] (kV p.1):=by obtain⟨v',h1,h2⟩:=rk.get (List.getElem?_eq_getElem hlt);rw[List.getElem?_map,e5]at h1;cases h1;exact h2.keep s1
   have R2:RS B' (σ'.set 2 (.va ks[j])) ((σV'.set 2 (some (kV p.1)))++[some (.ref d')]) F1 H2:=by have:=R1.set (i:=2) hr;rwa[List.set_append_left _ _ (by omega)]at this
   refine⟨σ'.set 2 (.va ks[j]),d',F1,by rw[List.length_set];exact hl1,R2,⟨by rw[List.getElem?_set_ne (by decide)];exact ex1.sl,ex1.F,ex1.H⟩,?_⟩;have q1:Oq4 B' f x C dx D' F1 (match WL.cE 3 (WL.jF tv) (WL.ah 2) (σ'.set 2 (.va ks[j]))with|.nx σ2=>WL.forL (WL.ay 2) (WL.cE 3 (WL.jF tv) (WL.ah 2)) (ks.drop (j+1)) σ2|.ct σ2=>WL.forL (WL.ay 2) (WL.cE 3 (WL.jF tv) (WL.ah 2)) (ks.drop (j+1)) σ2|.bk σ2=>.nx σ2|o=>o):=q1;cases e1:WL.cE 3 (WL.jF tv) (WL.ah 2) (σ'.set 2 (.va ks[j]))with|nx σ2=>rw[e1]at q1;exact fun σV4 d4 H4 F4 hl4 R4 ex4 s4=>⟨σ2,d4,F4,hl4,R4,ex4,s1.trans s4,Oq4.mono s4 q1⟩|ex c σ2=>rw[e1]at q1;exact q1|bad=>rw[e1]at q1;exact q1|rt w=>rw[e1]at q1;exact q1|ct σ2=>exact(pj.1 _ e1).elim|bk σ2=>exact(pj.2 _ e1).elim
  ·have ei:j=ks.length:=by omega
   subst ei;rw[List.drop_length]at q1;exact .inl ⟨wk.stop F1 H1 s1 R1.rb.sub,(show∀σV' d H' F',_ from q1) σV' d' H1 F1 hl1 R1 ex1 (Same.refl _)⟩
 have q:Oq4 B f x C dx D F (WL.ofR σ (WL.aaA 1 σ) fun xs=>WL.forL (WL.ay 2) (WL.cE 3 (WL.jF tv) (WL.ah 2)) xs σ):=q;unfold WL.aaA at q;cases e1:σ[1]? with|none=>rw[e1]at q;exact(show False from q).elim|some sl=>rw[e1]at q;cases sl with
 |va w=>cases w with|dic ks us=>
    have q:Oq4 B f x C dx D F (WL.forL (WL.ay 2) (WL.cE 3 (WL.jF tv) (WL.ah 2)) ks σ):=q;obtain⟨v,e2,r2⟩:=R.va 1 _ e1;rw[List.getElem?_append_left (by omega)]at e2;simp only[RW]at r2;obtain⟨a,kvs,rfl,rd,rk,ru⟩:=r2;rcases rd with rd|⟨od,rd⟩
    ·obtain⟨od,I',hn⟩:=I.adO (R.rb.sub _ _ rd);have w:=R.rb.was rd;have nxa:x≠a:=fun z=>by have:=ex.F;rw[z,rd]at this;cases this
     exact thn (main (B.fz a od kvs) (adV D a od kvs) pins s _ _ ks a od kvs hK.symm (hx.fz w hn) (fun c σ σ' F h=>hxp c σ σ' _ h) I' (R.fz rd) ⟨ex.sl,by rw[ae nxa];exact ex.F,by rw[ae nxa];exact ex.H⟩ e2 ag (rk.fz rd) (q.fz rd w nxa)) fun f s h=>abM hn f s h
    ·exact main B D pins s H F ks a od kvs hK.symm hx hxp I R ex e2 rd rk q|_=>exact(show False from q).elim
 |_=>exact(show False from q).elim
end
noncomputable def eo(H:Hp)(x:Addr):Hp:=fun b=>if b=x then none else H b
theorem bD{H:Hp}{x b:Addr}(h:b≠x):eo H x b=H b:=if_neg h
theorem jk{H:Hp}{x:Addr}:eo H x x=none:=if_pos rfl
theorem gD{H:Hp}{x b:Addr}{o:HO}(h:eo H x b=some o):b≠x/\H b=some o:=by
 by_cases hb:b=x;·subst hb;rw[jk]at h;cases h
 ·rw[bD hb]at h;exact⟨hb,h⟩
theorem xf{F:Hp}{x:Addr}{o:HO}(h:F x=none):eo (upd F x o) x=F:=by
 funext b;by_cases hb:b=x;·subst hb;rw[jk,h]
 ·rw[bD hb,ae hb]
theorem uJ{F F':Hp}{x:Addr}(s:Same F F'):Same (eo F x) (eo F' x):=fun b o e=>by obtain⟨h1,h2⟩:=gD e;rw[bD h1];exact s b o h2
section
variable{K:W.Frag}{F:Hp}{x:Addr}{C dx:Addr}
theorem RWs.ada{F':Hp}(h:∀b o,F b=some o->F' b=some o\/∃C dx,o=.ins C dx []){ws:List VW}{vs:List V}(r:RWs K F ws vs):RWs K F' ws vs:=by
 have k:∀{b:Addr}{o:HO},F b=some o->(∀C dx,o≠.ins C dx [])->F' b=some o:=fun{b o}e n=>by
  rcases h b o e with z|⟨C,dx,z⟩;·exact z
  ·exact(n C dx z).elim
 refine RWs.via (fun b xs q=>?_) (fun b xs q=>?_) (fun b kv q=>?_) (fun b φ q=>k q fun _ _ z=>nomatch z) (fun b φ q=>k q fun _ _ z=>nomatch z) (fun b C dx l hl q=>k q fun C' dx' z=>by cases z;exact hl rfl) ws vs r
 ·rcases q with(q|⟨o,q⟩)|q;·exact .inl (.inl (k q fun _ _ z=>nomatch z))
  ·exact .inl (.inr ⟨o,k q fun _ _ z=>nomatch z⟩)
  ·exact .inr q
 ·rcases q with(q|⟨o,q⟩)|q;·exact .inl (.inl (k q fun _ _ z=>nomatch z))
  ·exact .inl (.inr ⟨o,k q fun _ _ z=>nomatch z⟩)
  ·exact .inr q
 ·rcases q with q|⟨o,q⟩;·exact .inl (k q fun _ _ z=>nomatch z)
  ·exact .inr ⟨o,k q fun _ _ z=>nomatch z⟩
theorem RWs.out(e:F x=some (.ins C dx [])){ws:List VW}{vs:List V}(r:RWs K F ws vs):RWs K (eo F x) ws vs:=r.ada fun b o q=>by
 by_cases hb:b=x;·subst hb;rw[e]at q;cases q;exact .inr ⟨_,_,rfl⟩
 ·exact .inl (by rw[bD hb];exact q)
theorem XR.out(e:F x=some (.ins C dx [])){c:VW}{Ce:Addr}{de:Option Addr}(h:XR K F c Ce de):XR K (eo F x) c Ce de:=by cases c with|exc nm fs=>obtain⟨h1,fvs,h2,h3,h4⟩:=h;exact⟨h1,fvs,h2,h3.out e,h4.imp id fun⟨d,z1,z2⟩=>⟨d,z1,by rw[bD (fun z=>by rw[z,e]at z2;cases z2)];exact z2⟩⟩|_=>exact h.elim
end
section
variable{B B1:Bx}{σ:Ws}{σV:L2.St}{F H F1 H1:Hp}{x C dx:Addr}
theorem RB.out(R:RB B1 F H)(h0:B1.H0=H1)(f0:B1.F0=upd F1 x (.ins C dx []))(hF:F1 x=none)(b0:B.H0=eo H1 x)(c0:B.F0=F1):RB B (eo F x) H:=by
 refine⟨fun b o e=>R.sub b o (gD e).2,fun b o e=>?_,fun b o e=>?_,fun b o e=>?_⟩;·rw[b0]at e;exact R.base b o (by rw[h0];exact(gD e).2)
 ·rw[c0]at e;have hb:b≠x:=fun z=>by rw[z,hF]at e;cases e
  rw[bD hb];exact R.fz0 b o (by rw[f0,ae hb];exact e)
 ·obtain⟨hb,e⟩:=gD e;rw[b0,c0];rcases R.fr b o e with z|z;·rw[f0,ae hb]at z;exact .inl z
  ·exact .inr ⟨by rw[bD hb,<-h0];exact z.1,z.2⟩
theorem RS.clr(R:RS B1 σ σV F H)(hK:B1.K=B.K)(hx:F x=some (.ins C dx []))(rb:RB B (eo F x) H):RS B (WL.clr σ) σV (eo F x) H:=by
 have at':∀{i:Nat}{sl:Sl},(WL.clr σ)[i]?=some sl->sl=.no\/∃w,sl=.va w/\σ[i]?=some (.va w):=fun{i sl}e=>by unfold WL.clr at e;rw[List.getElem?_map]at e;cases es:σ[i]? with|none=>rw[es]at e;cases e|some s0=>rw[es]at e;have e:=Option.some.inj e;subst e;cases s0 with|va w=>exact .inr ⟨w,rfl,rfl⟩|_=>exact .inl rfl
 refine⟨rb,by rw[<-R.len];simp[WL.clr],fun i w e=>?_,fun i ws e=>?_,fun i j ws ws' a _ e1=>?_,fun i ks us e=>?_,fun i j ks us _ _ a _ e1=>?_,fun i e=>?_⟩
 ·rcases at' e with z|⟨w',z,e'⟩;·cases z
  ·cases z;obtain⟨v,h1,h2⟩:=R.va i w e';exact⟨v,h1,by rw[<-hK];exact RW.one ((RWs.one h2).out hx)⟩
 ·rcases at' e with z|⟨w',z,_⟩<;>cases z
 ·rcases at' e1 with z|⟨w',z,_⟩<;>cases z
 ·rcases at' e with z|⟨w',z,_⟩<;>cases z
 ·rcases at' e1 with z|⟨w',z,_⟩<;>cases z
 ·rcases at' e with z|⟨w',z,_⟩<;>cases z
end
theorem vg{σ:Ws}{j:Nat}:(∀ws,(WL.clr σ)[j]?≠some (.ow ws))/\∀ks us,(WL.clr σ)[j]?≠some (.od ks us):=by unfold WL.clr;rw[List.getElem?_map];cases σ[j]? with|none=>exact⟨fun _ z=>(by cases z),fun _ _ z=>(by cases z)⟩|some s=>cases s<;>exact⟨fun _ z=>(by cases z),fun _ _ z=>(by cases z)⟩
noncomputable def aaY(K:W.Frag)(f:Str)(x dx C:Addr)(F H:Hp)(Q:VK)(E:XK):Res VW->Prop|.ok wd=>∀H' F' d,H d=none->Same F F'->Same F' H'->(∀b o,b≠x->H b=some o->H' b=some o)->H' x=some (.ins C dx [(f,.ref d)])->F' x=none->(∀b o,F' b=some o->F b=some o\/(b=x\/H b=none)/\NF o)->RW K F' wd (.ref d)->Q .non H'|.ex c=>∀Ce dxe H' F',Same F F'->Same F' H'->(∀b o,b≠x->H b=some o->H' b=some o)->(∀b o,F' b=some o->F b=some o\/(b=x\/H b=none)/\NF o)->XR K F' c Ce dxe->E (.ref Ce) dxe H'|.bad=>False
noncomputable def spB(K:W.Frag)(f:Str)(fn:List VW->Res VW):Sp:=fun vs H Q E=>∃x dx C F w v,vs=[.ref x,v]/\H x=some (.ins C dx [])/\Cls K C/\di K C f/\F x=none/\(∀a C dx,F a≠some (.ins C dx []))/\Same F H/\RW K F w v/\aaY K f x dx C F H Q E (fn [w])
section
variable{P:Program}{w:World}{K:W.Frag}{mg:Str->Option Value}{base:Heap}
theorem w9{nm qual fl:Str}{st:Stmt}{f:Addr}{fd:FuncData}{n0 n1 n2:Str}{k:Nat}{fn:List VW->Res VW}{s1 s2:Stmt}{self self2 texts name value tg:Expr}{p0 p1 p2 p3 p4 p5 p6:Pos}(t1 t2:SF)(tv:EF)(Fn:Fun K nm qual st f fd)(S:FnScope [n0,n1,n2] [n0,n1] (af st))(hfn:WL.afQ t1 t2 tv=fn)(hbd:aO st=[s1,s2,.Assign [.Attribute self fl p0] (.Dict [] [] p1) p2,.For tg texts [.Assign [.Subscript (.Attribute self2 fl p3) name p4] value p5] [] p6])(h:∀(cdv:Value)(A:Around)(outer:List Env)(s:Shared)(H:Hp)(E:XK)(X:Cx),X=gH (CXX P w) P w K mg base [n0,n1,n2] qual (af st) f cdv A outer s H E->Room k X.A->PassesOwn (model P w) X.A X.env X.xe->(∀B:Bx,B.K=K->XW X B->PS X s1 (loS B t1)/\PS X s2 (loS B t2)/\PE X value (lo B tv))/\PE X self (tVar 0)/\PE X self2 (tVar 0)/\PE X texts (tVar 1)/\PE X name (tVar 2)/\PG X tg (L2.ay 2)/\X.calm=true/\attributeBase self2 fl X.env (eval self2 X.env)=eval self2 X.env/\swapsWith (.Dict [] [] p1) (some (.Attribute self fl p0)) p2.line X.env=pure false/\swapsWith value (some (.Subscript (.Attribute self2 fl p3) name p4)) p5.line X.env=pure false/\∀x,foldedSetIterable texts X.env x=pure x):FnOk P w K mg base (CXX P w) (k+1) f fd [n0,n1] (spB K fl fn):=by
 subst hfn;obtain⟨oc,od,kV',doc,pm,an,cdv,ct,osl,rfl,lk,hcd⟩:=Fn.ex;refine xt lk hcd S (fun vs H Q E⟨x,dx,C,F,w,v,e,_⟩=>by rw[e];rfl) fun A outer s H vs Q E hr _⟨x,dx,C,F,w',v,e,hH,cl,na,hF,hni,sm,r,hm⟩=>?_;subst e;obtain⟨X,eX⟩:∃X,X=gH (CXX P w) P w K mg base [n0,n1,n2] qual (af st) f cdv A outer s H E:=⟨_,rfl⟩;rw[<-eX];have hXr:Room k X.A:=by rw[eX];exact hr
 have hXK:X.K=K:=by rw[eX];rfl
 have hXp:PassesOwn (model P w) X.A X.env X.xe:=by rw[eX];exact PassesOwn.leaving
 obtain⟨hB,hself,hself2,htx,hname,hg,hc,hat,hs3,hs4,hfs⟩:=h cdv A outer s H E X eX hXr hXp;let Bz:Bx:=⟨K,eo H x,F,fun _ _ _=>False,fun _ _ _ _ _ h=>h⟩;let B0:Bx:=Bz.oU (fun c _ F1=>∀C dx H' F',Same F1 F'->RB Bz F' H'->XR K F' c C dx->E (.ref C) dx H') fun c σ F1 F2 s h C dx H' F' s'=>h C dx H' F' (s.trans s');have xw0:XW X B0:=fun pins σV H1 s1 σ F1 c R1 xp e C dx T fl t xr=>by subst eX;exact kH t (xp C dx H1 F1 (Same.refl _) (R1.rb.box rfl rfl) xr)
 let F0:Hp:=upd F x (.ins C dx []);let B1:Bx:=⟨K,H,F0,fun c σ F1=>B0.xp c σ (eo F1 x),fun c σ F1 F2 s h=>B0.mono c σ _ _ (uJ s) h⟩;have rb1:∀{F1 H1:Hp},RB B1 F1 H1->F1 x=some (.ins C dx [])/\RB B0 (eo F1 x) H1:=fun{F1 H1}R=>⟨R.fz0 x _ (show F0 x=_ from ag),R.out rfl rfl hF rfl rfl⟩;have xw1:XW X B1:=fun pins σV H1 s1 σ F1 c R1 xp e Ce dxe T fl t xr=>by obtain⟨z1,z2⟩:=rb1 R1.rb;subst eX;exact kH t (xp Ce dxe H1 _ (Same.refl _) (z2.box rfl rfl) (xr.out z1))
 obtain⟨h1,h2,_⟩:=hB B1 rfl xw1;have hu:X.A.units+1<cLine:=by have:=hXr.un;omega
 have h4:=yM (X:=X) (B:=B0) (f:=fl) (x:=x) (C:=C) (dx:=dx) (tv:=tv) (ap:=p3) (sp:=p4) (apos:=p5) (pos:=p6) hXK (by rw[eX]at hXp⊢;exact hXp) hc xw0 (fun c σ σ' F h=>h) hu htx hself2 hname hg (fun B' hk hx=>(hB B' (hk.trans hXK) hx).2.2) hat (hXK▸cl) (hXK▸na) hs4 hfs;have hbd':aO st=[s1,s2,.Assign [.Attribute self fl p0] (.Dict [] [] p1) p2,.For tg texts [.Assign [.Subscript (.Attribute self2 fl p3) name p4] value p5] [] p6]:=hbd;rw[hbd'];have sm0:Same F0 H:=fun b o e=>by
  by_cases hb:b=x;·subst hb;have:upd F b (.ins C dx []) b=some o:=e;rw[ag]at this;cases this;exact hH
  ·have:upd F x (.ins C dx []) b=some o:=e;rw[ae hb]at this;exact sm b o this
 have R0:RS B1 [.ob,.va w',.no] (L2.start [n0,n1,n2] [.ref x,v]) F0 H:=by
  refine⟨⟨sm0,Same.refl _,Same.refl _,fun a o e=>.inl e⟩,rfl,fun i u e=>?_,fun i u e=>?_,fun i j u u' a _ e1 _ _ _=>?_,fun i u u' e=>?_,fun i j u u' _ _ a _ e1 _ _ _=>?_,fun i e=>?_⟩;·match i,e with|0,e=>cases e|1,e=>cases e;exact⟨v,rfl,r.keep (ao hF _)⟩|2,e=>cases e
  ·match i,e with|0,e=>cases e|1,e=>cases e|2,e=>cases e
  ·match i,e1 with|0,e=>cases e|1,e=>cases e|2,e=>cases e
  ·match i,e with|0,e=>cases e|1,e=>cases e|2,e=>cases e
  ·match i,e1 with|0,e=>cases e|1,e=>cases e|2,e=>cases e
  ·match i,e with|0,e=>exact⟨x,C,dx,rfl,ag⟩|1,e=>cases e|2,e=>cases e
 have hm:aaY K fl x dx C F H Q E (match WL.aX t1 t2 [.ob,.va w',.no]with|.nx σ=>WL.aa5 tv σ|.ex c _=>.ex c|_=>.bad):=hm;have frB:∀{F' H':Hp},RB Bz F' H'->∀b o,F' b=some o->F b=some o\/(b=x\/H b=none)/\NF o:=fun{F' H'}rb b o e=>by
  rcases rb.fr b o e with z|z;·exact .inl z
  ·refine .inr ⟨?_,z.2⟩;by_cases hb:b=x;·exact .inl hb
   ·have z1:eo H x b=none:=z.1;rw[bD hb]at z1;exact .inr z1
 have bsB:∀{F' H':Hp},RB Bz F' H'->∀b o,b≠x->H b=some o->H' b=some o:=fun{F' H'}rb b o hb e=>rb.base b o (by show eo H x b=_;rw[bD hb];exact e);have xpOf:∀{c:VW}{σ:Ws},aaY K fl x dx C F H Q E (.ex c)->B0.xp c σ F:=fun{c σ}q Ce dxe H' F' s' rb xr=>q Ce dxe H' F' s' rb.sub (bsB rb) (frB rb) xr;have out0:eo F0 x=F:=xf hF;refine⟨_,cq h1 (cq h2 (cq (ach hself pI hs3) (gx h4))),?_⟩;refine⟨_,F0,R0,?_⟩;unfold WL.aX at hm;cases e1:t1 [.ob,.va w',.no]with|bk _=>rw[e1]at hm;exact hm.elim|ct _=>rw[e1]at hm;exact hm.elim|rt _=>rw[e1]at hm;exact hm.elim|bad=>rw[e1]at hm;exact hm.elim|ex c σ1=>rw[e1]at hm;show B0.xp c σ1 (eo F0 x);rw[out0];exact xpOf hm|nx σ1=>
  rw[e1]at hm;intro σV1 H1 F1 R1 s1;refine⟨σ1,F1,R1,?_⟩;have hm:aaY K fl x dx C F H Q E (match t2 σ1 with|.nx σ=>WL.aa5 tv σ|.ex c _=>.ex c|_=>.bad):=hm
  cases e2:t2 σ1 with|bk _=>rw[e2]at hm;exact hm.elim|ct _=>rw[e2]at hm;exact hm.elim|rt _=>rw[e2]at hm;exact hm.elim|bad=>rw[e2]at hm;exact hm.elim|ex c σ2=>
   rw[e2]at hm;show B0.xp c σ2 (eo F1 x);refine B0.mono c σ2 F _ (fun b o e=>?_) (xpOf hm);have hb:b≠x:=fun z=>by rw[z,hF]at e;cases e
   rw[bD hb];exact s1 b o (by show upd F x _ b=_;rw[ae hb];exact e)|nx σ2=>rw[e2]at hm;intro σV2 H2 F2 R2 s2;have hm:aaY K fl x dx C F H Q E (match(σ2[0]?:Option Sl)with|some .ob=>if σ2.length=3 then WL.ae5 (WL.nV tv (WL.clr σ2++[.od [] []]))else .bad|_=>.bad):=hm;cases e3:σ2[0]? with|none=>rw[e3]at hm;exact hm.elim|some sl=>rw[e3]at hm;cases sl with
 |ob=>
     have hm:aaY K fl x dx C F H Q E (if σ2.length=3 then WL.ae5 (WL.nV tv (WL.clr σ2++[.od [] []]))else .bad):=hm;by_cases hσ:σ2.length=3;rotate_left;·rw[if_neg hσ]at hm;exact hm.elim
     rw[if_pos hσ]at hm;obtain⟨hx2,rb2⟩:=rb1 R2.rb;have l0:σV2[0]?=some (some (.ref x)):=by
      obtain⟨a,Ca,dxa,g1,g2⟩:=R2.dd.ob 0 e3;rcases R2.rb.fr a _ g2 with z|z
      ·by_cases ha:a=x;·subst ha;exact g1
       ·have z:upd F x (.ins C dx []) a=_:=z;rw[ae ha]at z;exact(hni _ _ _ z).elim
      ·exact z.2.elim
     have hHx:H2 x=some (.ins C dx []):=R2.rb.sub _ _ hx2;have hl2:σV2.length=3:=by rw[<-R2.len];exact hσ
     have R3:RS B0 (WL.clr σ2) σV2 (eo F2 x) H2:=R2.clr rfl hx2 rb2;intro p hp;have hpx:p≠x:=fun z=>by rw[z,hHx]at hp;cases hp
     refine⟨.ref x,l0,x,C,dx,[],rfl,by rw[ae (Ne.symm hpx)];exact hHx,hXK▸cl,hXK▸na,by decide,?_⟩;have R4:RS B0 (WL.clr σ2) σV2 (eo F2 x) (upd (upd H2 p (.dK [])) x (.ins C dx [(fl,.ref p)])):=(R3.wA hp (.dK [])).away _ jk (show eo H x x=none from jk) (fun j ws e=>(vg.1 ws e).elim) (fun j ks us e=>(vg.2 ks us e).elim);have hFp:eo F2 x p=none:=by rw[bD hpx];exact R2.rb.sub.free hp
     have hHp:upd (upd H2 p (.dK [])) x (.ins C dx [(fl,.ref p)]) p=some (.dK []):=by rw[ae hpx,ag]
     have h0p:B0.H0 p=none:=R3.rb.base.free hp;have hcl:(WL.clr σ2).length=3:=by rw[<-hσ];simp[WL.clr]
     have R5:RS B0 (WL.clr σ2++[.od [] []]) (σV2++[some (.ref p)]) (eo F2 x) (upd (upd H2 p (.dK [])) x (.ins C dx [(fl,.ref p)])):=by
      have:=R4.snoc.ahP (i:=3) (ks:=[]) (us:=[]) hFp h0p hHp (by simp[RWs]) (by simp[RWs]) fun j ks us hj ej hv=>by
       by_cases hj3:j<3;·rw[List.getElem?_append_left (by omega)]at ej;exact(vg.2 ks us ej).elim
       ·rw[List.getElem?_append_right (by omega),hcl]at ej;cases hz:j-3 with|zero=>exact hj (by omega)|succ n=>rw[hz]at ej;cases ej
      rw[List.set_append_right _ _ (by omega),List.set_append_right _ _ (by omega),hcl,hl2]at this;exact this
     have sFF:Same F (eo F2 x):=fun b o e=>by
      have hb:b≠x:=fun z=>by rw[z,hF]at e;cases e
      rw[bD hb];exact s2 b o (s1 b o (by show upd F x _ b=_;rw[ae hb];exact e))
     refine⟨_,p,eo F2 x,hl2,R5,⟨l0,jk,ag⟩,?_⟩;cases e4:WL.nV tv (WL.clr σ2++[.od [] []])with|bk _=>rw[e4]at hm;exact hm|ct _=>rw[e4]at hm;exact hm|rt _=>rw[e4]at hm;exact hm|bad=>rw[e4]at hm;exact hm|ex c σ3=>rw[e4]at hm;exact B0.mono c σ3 F _ sFF (xpOf hm)|nx σ3=>rw[e4]at hm;intro σV3 d H3 F3 hl3 R6 ex6 s6;have hm:aaY K fl x dx C F H Q E (match(σ3[3]?:Option Sl)with|some (.od ks us)=>.ok (.dic ks us)|_=>.bad):=hm;cases e5:σ3[3]? with
   |none=>rw[e5]at hm;exact hm.elim
    |some sl=>rw[e5]at hm;cases sl with|od ks us=>
        obtain⟨a,kvs,k1,k2,k3,k4,k5,k6⟩:=R6.dd.od 3 ks us e5;rw[List.getElem?_append_right (by omega),hl3]at k1;cases k1;have hdx:d≠x:=fun z=>by rw[z,ex6.H]at k4;cases k4
        have sD:Same F3 (upd F3 d (.dK kvs)):=ao k2 _;have rbz:RB Bz F3 H3:=R6.rb.box rfl rfl;refine(show∀H' F' d,_ from hm) H3 (upd F3 d (.dK kvs)) d (by have k3:eo H x d=none:=k3;rw[bD hdx]at k3;exact k3) ((sFF.trans s6).trans sD) (fun b o e=>?_) (bsB rbz) ex6.H (by rw[ae (Ne.symm hdx)];exact ex6.F) (fun b o e=>?_) (by simp only[RW];exact⟨d,kvs,rfl,.inl ag,k5.keep sD,k6.keep sD⟩)
        ·by_cases hb:b=d;·subst hb;rw[ag]at e;cases e;exact k4
         ·rw[ae hb]at e;exact R6.rb.sub b o e
        ·by_cases hb:b=d;·subst hb;rw[ag]at e;cases e;have k3:eo H x b=none:=k3;rw[bD hdx]at k3;exact .inr ⟨.inr k3,trivial⟩
         ·rw[ae hb]at e;exact frB rbz b o e|_=>exact hm.elim
  |_=>exact hm.elim
end
noncomputable def noI(F:Hp):Hp:=fun b=>match F b with|some (.ins _ _ [])=>none|o=>o
theorem pV{F:Hp}{b:Addr}{o:HO}(h:noI F b=some o):F b=some o:=by
 unfold noI at h;split at h;·cases h
 ·exact h
theorem acX{F:Hp}{b:Addr}{o:HO}(h:F b=some o):noI F b=some o\/∃C dx,o=.ins C dx []:=by
 unfold noI;rw[h];split;·rename_i C dx e;cases e;exact .inr ⟨C,dx,rfl⟩
 ·exact .inl rfl
noncomputable def jo(F F':Hp):Hp:=fun b=>match F b with|some o=>some o|none=>F' b
theorem aeU{F F':Hp}{b:Addr}{o:HO}(h:F b=some o):jo F F' b=some o:=by unfold jo;rw[h]
theorem aim{F F':Hp}{b:Addr}(h:F b=none):jo F F' b=F' b:=by unfold jo;rw[h]
section
variable{X:Cx}{B:Bx}{fl x:Str}{C f:Addr}{fd:FuncData}{ps:List Str}{k:Nat}{fn:List VW->Res VW}{e:Expr}{es:List Expr}{tas:AF}{p pos pos':Pos}
end
end WS
namespace WS
open PySem PySem.Spec PyProof.Rows L2
open WL(Res Sl Ws EF TF AF LF GF GsF SF Out)
noncomputable def ahF(P:Program)(w:World)(K:W.Frag)(mg:Str->Option Value)(base:Heap)(k:Nat)(fI:Addr)(ps:List Str)(sp:Sp):Prop:=∃fd:FuncData,FnOk P w K mg base (CXX P w) k fI fd ps sp/\Binds K fd ps []
theorem xa{P:Program}{w:World}{K:W.Frag}{mg:Str->Option Value}{base:Heap}{k:Nat}{f:Addr}{qual:Str}{st:Stmt}{ps:List Str}{sp:Sp}(D:∃fd,Fun K "__init__" qual st f fd)(hb:∀(kV doc pm:Value)(an:Option Addr)(cdv ct:Value)(us:List Value),us.length=ps.length->bindArgs (W.fnOf "__init__" qual (bG st) (aO st) (af st) .none kV doc pm an cdv ct) ⟨us,[]⟩=pure (ps.zip us))(h:∀fd:FuncData,Fun K "__init__" qual st f fd->FnOk P w K mg base (CXX P w) k f fd ps sp):ahF P w K mg base k f ps sp:=by obtain⟨fd,F⟩:=D;exact⟨fd,h fd F,F.binds hb⟩
section
variable{X:Cx}{B:Bx}{a b e:Expr}{ta tb:EF}{pos pos' p:Pos}{x fl:Str}{es:List Expr}{tas:AF}{j k:Nat}{C f:Addr}{ps:List Str}{fn:List VW->Res VW}
theorem wxX(hB:B.K=X.K)(ha:PE X a (lo B ta))(hb:PE X b (lo B tb))(hs:kU b:=by exact fun _ _=>rfl):PE X (.Subscript a b pos) (lo B (WL.eOp WL.wu ta tb)):=abq xG (afj hB.symm) ha hb hs
end
theorem un1{n:Nat}(h:n+64<cLine):n+1<cLine:=by omega
end WS
namespace WL
open PySem
noncomputable def adS(c:String):W->Res W|.ins c' [w]=>if c'==c then .ok w else .bad|_=>.bad
noncomputable def rz(c:String)(e:EF):EF:=fun σ=>(e σ).bind (adS c)
noncomputable def isI(c:String):W->Bool|.ins c' [_]=>c'==c|_=>false
noncomputable def ie(c:String)(f:List W->Res W)(o:EF)(a:AF):EF:=fun σ=>(o σ).bind fun x=>if isI c x then(a σ).bind fun ws=>f (x::ws)else .bad
end WL
namespace L2
open PySem PySem.Spec PyProof.Rows
section
variable{X:Cx}{k:Nat}{f C:Addr}{fd:FuncData}{ps:List Str}{sp:Sp}{dvs:List V}{ds:List Value}{m:Str}{apos pos:Pos}{o e:Expr}{es:List Expr}{ta:TE}{t:TA}
noncomputable def xV(X:Cx)(C:Addr)(m:Str)(sp:Sp)(dvs:List V)(ta:TE)(t:TA):TE:=fun σ H Q=>ta σ H fun x H1=>∃a dx fs,x=.ref a/\H1 a=some (.ins C dx fs)/\fs.lookup m=none/\t σ H1 fun vs H2=>∃E:XK,sp (x::(vs++dvs)) H2 Q E/\∀pins s e C' dx' T H',Thr X pins σ H' s e C' dx' .none (some T)->E (.ref C') dx' H'->X.xe (.ref e) s
theorem tT{pl:Sem Bool}(he:PE X o ta)(c:Cls X.K C)(hm:Meth X.K C m f)(F:FnOk X.prog X.w X.K X.mg X.base (CXX X.prog X.w) k f fd ps sp)(hr:Room k X.A)(hb:Binds X.K fd ps ds)(hd:Vals dvs ds)(ht:eval (.Call (.Attribute o m apos) [] [] pos) X.env=(do
  let ov <-eval o X.env
  standAt apos.atName let(f,first)<-holding [ov] (getMethod ov m pl)callWith pos f first (backTo pos (starEach [] X.env)) (backToKw pos (keywordEach [] X.env))):=by rfl):PE X (.Call (.Attribute o m apos) [] [] pos) (xV X C m sp dvs ta tNil):=by intro pins s σ H Q I h;refine W.methodCall_KW (pl:=pl) (thn (he pins s σ H _ I h) fun u s1⟨x,H1,I1,rx,a,dx,fs,ex,ea,l,q⟩=>?_) ht;subst ex;obtain rfl:u=Value.ref a:=rx;refine rj I1 ea c hm l ?_;obtain⟨E,q2,hx⟩:=q;exact W.callWith_K0 (first:=[.ref a]) I1.kIn hm.kp (tq (us:=[.ref a]) (vs:=[.ref a]) F hr hb hd hx I1 (.cons rfl .nil) q2)
end
end L2
namespace WS
open PySem PySem.Spec PyProof.Rows L2
open WL(Res Sl Ws EF TF AF LF GF GsF SF Out)
section
variable{B:Bx}{σ:Ws}{σV:L2.St}{F H:Hp}{x:Addr}{o:HO}
theorem RS.ajf(R:RS B σ σV F H)(hF:F x=none)(h0:B.H0 x=none)(hH:H x=some o)(nf:NF o)(nl:∀l,o≠.lst l)(nd:∀l,o≠.dK l):RS B σ σV (upd F x o) H:=by
 have s:Same F (upd F x o):=ao hF _;refine⟨⟨fun b u q=>?_,R.rb.base,R.rb.fz0.trans s,fun b u q=>?_⟩,R.len,fun i w q=>?_,fun i ws q=>?_,R.ap,fun i ks us q=>?_,R.dd.ad,fun i q=>?_⟩
 ·by_cases hb:b=x;·subst hb;rw[ag]at q;cases q;exact hH
  ·rw[ae hb]at q;exact R.rb.sub b u q
 ·by_cases hb:b=x;·subst hb;rw[ag]at q;cases q;exact .inr ⟨h0,nf⟩
  ·rw[ae hb]at q;exact R.rb.fr b u q
 ·obtain⟨v,h1,h2⟩:=R.va i w q;exact⟨v,h1,h2.keep s⟩
 ·obtain⟨a,vs,h1,h2,h3,h4,h5⟩:=R.ow i ws q;have hb:a≠x:=fun z=>by rw[z,hH]at h4;exact nl _ (Option.some.inj h4)
  exact⟨a,vs,h1,by rw[ae hb];exact h2,h3,h4,h5.keep s⟩
 ·obtain⟨a,l,h1,h2,h3,h4,h5,h6⟩:=R.dd.od i ks us q;have hb:a≠x:=fun z=>by rw[z,hH]at h4;exact nd _ (Option.some.inj h4)
  exact⟨a,l,h1,by rw[ae hb];exact h2,h3,h4,h5.keep s,h6.keep s⟩
 ·obtain⟨a,C,dx,h1,h2⟩:=R.dd.ob i q;exact⟨a,C,dx,h1,s _ _ h2⟩
end
section
variable{X:Cx}{B:Bx}{fl x:Str}{c:String}{C f:Addr}{fd:FuncData}{ps:List Str}{k:Nat}{fn:List VW->Res VW}{e:Expr}{es:List Expr}{tas:AF}{p pos pos':Pos}
theorem yU{o:Expr}{to:EF}(hK:X.K=B.K)(hC:W.nsIn X.K mainGlobals (Str.ofString c)=some (some (.ref C)))(cl:Cls X.K C)(na:di X.K C fl)(hfl:WL.n5 c=[fl])(ho:PE X o (lo B to))(hb:attributeBase o fl X.env (eval o X.env)=eval o X.env:=by rfl):PE X (.Attribute o fl pos) (lo B (WL.rz c to)):=PE.imp (yd ho hb) fun σV H Q⟨σ,F,R,q⟩=>by
 have q:=Rq.bind q;refine⟨σ,F,R,Rq.mono (Same.refl _) q fun y qy v H1 F1 R1 g1 r1=>?_⟩;unfold WL.adS at qy;split at qy
 ·rename_i c' w;split at qy
  ·rename_i hcc;have hcc:=eq_of_beq hcc;subst hcc;simp only[RW]at r1;obtain⟨a,C',dx,fvs,rfl,e1,e2,e3,_,r⟩:=r1;rw[<-hK,hC]at e2;cases e2;rw[hfl]at e3;obtain⟨v1,rfl,r⟩:∃v1,fvs=[(fl,v1)]/\RWs B.K F1 [w] [v1]:=by match fvs,e3,r with
 |[(g,v1)],e3,r=>
     have:g=fl:=by simpa using e3
     subst this;exact⟨v1,rfl,r⟩
   exact⟨a,C,dx,_,v1,rfl,R1.rb.sub _ _ e1,cl,na,by simp[List.lookup],(show∀v H' F',_ from qy) v1 H1 F1 R1 g1 (RW.one r)⟩
  ·exact(show False from qy).elim
 ·exact(show False from qy).elim
theorem wK{o:Expr}{to:EF}{m:Str}{n:Nat}(hK:X.K=B.K)(hx:XW X B)(hC:W.nsIn X.K mainGlobals (Str.ofString c)=some (some (.ref C)))(hfl:WL.n5 c=[fl])(hmf:(m==fl)=false)(hn:∀σ ws,tas σ=.ok ws->ws.length+1=n):∀σV H Q,lo B (WL.ie c fn to tas) σV H Q->xV X C m (spX X.K n fn) [] (lo B to) (loA B tas) σV H Q:=by
 intro σV H Q⟨σ,F,R,q⟩;have q:=Rq.bind q;refine⟨σ,F,R,Rq.mono (Same.refl _) q fun y qy v H0 F0 R0 g0 r0=>?_⟩;by_cases hi:WL.isI c y=true
 ·rw[if_pos hi]at qy;have qy:=Rq.bind (show Rq B σ F ((tas σ).bind fun ws=>fn (y::ws)) _ from qy);obtain⟨w0,rfl⟩:∃w0,y=.ins c [w0]:=by
   unfold WL.isI at hi;split at hi;·rw[eq_of_beq hi];exact⟨_,rfl⟩
   ·cases hi
  have r0':=r0;simp only[RW]at r0';obtain⟨a,C',dx,fvs,rfl,e1,e2,e3,_,_⟩:=r0';rw[<-hK,hC]at e2;cases e2;rw[hfl]at e3;obtain⟨v1,rfl⟩:∃v1,fvs=[(fl,v1)]:=by match fvs,e3 with
 |[(g,v1)],e3=>
    have:g=fl:=by simpa using e3
    subst this;exact⟨v1,rfl⟩
  refine⟨a,dx,_,rfl,R0.rb.sub _ _ e1,by simp[List.lookup,hmf],σ,F0,R0,?_⟩;cases ea:tas σ with|bad=>rw[ea]at qy;exact qy|ex c=>rw[ea]at qy;exact B.mono c σ F F0 g0.f qy|ok ws=>
  rw[ea]at qy;have q:Rq B σ F (fn (.ins c [w0]::ws)) _:=qy;intro vs H1 F1 R1 g1 r1;rw[List.append_nil,hK];have ext:∀{F2 H2:Hp},Same F1 F2->Same F2 H2->Same H1 H2->(∀a o,F2 a=some o->F1 a=some o\/H1 a=none/\NF o)->Gr F1 H1 F2 H2/\RB B F2 H2:=fun{F2 H2}s1 s2 s3 fr=>by
   refine⟨⟨s1,s3,fun a o eh ef'=>?_⟩,s2,R1.rb.base.trans s3,R1.rb.fz0.trans s1,fun a o e2=>?_⟩;·cases e2:F2 a with|none=>rfl|some o2=>
     rcases fr a o2 e2 with z|z;·rw[ef']at z;cases z
     ·rw[eh]at z;cases z.1
   ·rcases fr a o e2 with z|z;·exact R1.rb.fr a o z
    ·exact .inr ⟨R1.rb.base.free z.1,z.2⟩
  refine⟨fun C dx H2=>∃Ca F2 c,C=.ref Ca/\RS B σ σV F2 H2/\B.xp c σ F2/\XR B.K F2 c Ca dx,⟨F1,.ins c [w0]::ws,R1.rb.sub,.cons (r0.keep g1.f) r1,by rw[List.length_cons];exact hn σ ws ea,?_⟩,fun pins s e C dx T H' t⟨Ca,F2,c,ec,R2,xp,xr⟩=>?_⟩;·cases ef:fn (.ins c [w0]::ws)with|bad=>rw[ef]at q;exact q.elim|ok w=>rw[ef]at q;intro v H2 F2 s1 s2 s3 fr r2;obtain⟨g2,rb⟩:=ext s1 s2 s3 fr;exact q v H2 F2 (R1.grow g2 rb) ((g0.trans g1).trans g2) r2|ex c=>rw[ef]at q;intro C dx H2 F2 s1 s2 s3 fr xr;obtain⟨g2,rb⟩:=ext s1 s2 s3 fr;exact⟨C,F2,c,rfl,R1.grow g2 rb,B.mono c σ F F2 ((g0.f.trans g1.f).trans s1) q,xr⟩
  ·cases ec;exact hx pins σV H' s σ F2 c R2 xp e C dx (some T) _ t (by rw[hK];exact xr)
 ·rw[if_neg hi]at qy;exact(show False from qy).elim
end
end WS
namespace WL
open PySem
end WL
namespace L2
open PySem PySem.Spec PyProof.Rows
section
variable{X:Cx}
end
end L2
namespace WS
open PySem PySem.Spec PyProof.Rows L2
open WL(Res Sl Ws EF TF AF LF GF GsF SF Out)
section
variable{X:Cx}{B:Bx}{K:W.Frag}
variable{i:Nat}{pos pos':Pos}{x:Str}
end
end WS
namespace WL
open PySem PyProof.Rows PySem.Spec
noncomputable def leS(a b:Str):Bool:=!ltCps b.cps.toList a.cps.toList
noncomputable def d9(l:List Str):List Str:=l.mergeSort leS
noncomputable def gm:List W->Res W
|[.lst ws]=>match strsOf ws with|some ss=>if ss.length<64 then .ok (.lst ((d9 ss).map .str))else .bad|none=>.bad
|_=>.bad
theorem kI(a b:Str):leS a b=true↔a.cps.toList<=b.cps.toList:=by unfold leS;rw[ltCps_eq];simp[List.not_lt]
theorem mf(a b c:Str)(h1:leS a b=true)(h2:leS b c=true):leS a c=true:=by rw[kI]at *;exact List.le_trans h1 h2
theorem uu(a b:Str):(leS a b||leS b a)=true:=by rw[Bool.or_eq_true,kI,kI];exact List.le_total _ _
theorem wN{a b:Str}(h1:leS a b=true)(h2:leS b a=true):a=b:=by rw[kI]at *;have:=List.le_antisymm h1 h2;cases a;cases b;congr 1;exact Array.toList_inj.mp this
theorem kz:∀(r:List Str)(x:Str),risingS x r=true->∀y∈r,leS x y=true
|[],_,_,_,hy=>nomatch hy|z::r,x,h,y,hy=>by
 have h':(leS x z&&risingS z r)=true:=h;rw[Bool.and_eq_true]at h';rcases List.mem_cons.mp hy with rfl|hy;·exact h'.1
 ·exact mf _ _ _ h'.1 (kz r z h'.2 y hy)
theorem lK:∀(r:List Str)(x:Str),risingS x r=true->sortedS r=true|[],_,_=>rfl|z::r,x,h=>by have h':(leS x z&&risingS z r)=true:=h;rw[Bool.and_eq_true]at h';exact h'.2
theorem iT:∀(l1 l2:List Str),sortedS l1=true->sortedS l2=true->l1.Perm l2->l1=l2
|[],l2,_,_,p=>by simpa using p|x::r1,[],_,_,p=>by simpa using p|x::r1,y::r2,h1,h2,p=>by
  have a1:=kz r1 x h1;have a2:=kz r2 y h2;have e:x=y:=by
   rcases List.mem_cons.mp (p.mem_iff.mp (List.mem_cons_self ..):x∈y::r2)with z|z;·exact z
   ·rcases List.mem_cons.mp (p.mem_iff.mpr (List.mem_cons_self ..):y∈x::r1)with w|w;·exact w.symm
    ·exact wN (a1 y w) (a2 x z)
  subst e;rw[iT r1 r2 (lK r1 x h1) (lK r2 x h2) (List.Perm.cons_inv p)]
theorem dw(l:List Str):(d9 l).Perm l:=List.mergeSort_perm l leS
theorem lD(l:List Str):sortedS (d9 l)=true:=by refine sortedS_of_pairwise _ ?_;have:=List.pairwise_mergeSort (le:=leS) mf uu l;refine this.imp fun{a b}h=>?_;unfold leS at h;simpa using h
theorem gq{l l':List Str}(p:l'.Perm l)(h:sortedS l'=true):l'=d9 l:=iT _ _ h (lD l) (p.trans (dw l).symm)
end WL
namespace WL
open PySem
noncomputable def gn:List W->Res W|[.dic ks _]=>gm [.lst ks]|ws=>gm ws
end WL
namespace L2
open PySem PySem.Spec PyProof.Rows
theorem gp:∀{ss:List Str}{us:List Value},Vals (ss.map V.str) us->StrsAre us ss|[],_,r=>by cases r;exact .nil|x::ss,_,r=>by rw[List.map_cons]at r;cases r with|cons h t=>obtain⟨k,rfl⟩:=(show∃t,_=Value.str x t from h);exact .cons x k (gp t)
theorem gz:∀{us:List Value}{ss:List Str},StrsAre us ss->Vals (ss.map V.str) us|_,_,.nil=>.nil|_,_,.cons y t r=>.cons ⟨t,rfl⟩ (gz r)
theorem iy{X:Cx}:bz X (.builtin "sorted") (fun xs H Q=>∃p ss,xs=[.ref p]/\SqL X.K H p (ss.map V.str)/\ss.length<64/\∀l ss',H l=none->List.Perm ss' ss->sortedS ss'=true->Q (.ref l) (upd H l (.lst (ss'.map V.str)))):=by
 intro pins s σ H xs us Q I rx⟨p,ss,e,hq,hl,q⟩;subst e;obtain⟨u,rfl,ru⟩:∃u,us=[u]/\RelV (.ref p) u:=by cases rx with|cons h t=>cases t;exact⟨_,rfl,h⟩
 cases(show u=Value.ref p from ru);obtain⟨its,rv,pl,hz⟩:=I.list hq;have hS:=gp rv;have hlen:its.length<64:=by rw[<-rv.length,List.length_map];exact hl
 refine sorted_strs pl.isList hS hlen fun out ss' a1 a2 a3=>?_;obtain⟨e,he⟩:=sortedAll_at s.heap its out;refine⟨.ref (s.heap.objs.size+1),_,I.laid (a:=s.heap.objs.size+1) (o:=.lst (ss'.map V.str)) (t':=s.toks) (fun b o z=>sortedAll_old z) (Nat.le_succ _) ⟨?_,out.toList,e,gz a1,?_⟩,rfl,q _ ss' (I.hok.fresh (Nat.le_succ _)) a2 a3⟩;·rw[List.length_map,a2.length_eq];exact Nat.le_trans (Nat.le_of_lt hl) (by decide)
 ·rw[he]
end L2
namespace WS
open PySem PySem.Spec PyProof.Rows L2
open WL(Res Sl Ws EF TF AF LF GF GsF SF Out)
section
variable{X:Cx}{K:W.Frag}
theorem fL{F:Hp}:∀{ws:List VW}{ss:List Str}{vs:List V},WL.strsOf ws=some ss->RWs K F ws vs->vs=ss.map V.str
|[],_,_,e,r=>by cases e;simpa[RWs]using r|w::ws,ss,vs,e,r=>by
 simp only[RWs]at r;obtain⟨v,r',rfl,q,t⟩:=r;cases w<;>simp only[WL.strsOf]at e<;>first|(cases e;done)|skip
 rename_i x;obtain⟨ss',e',rfl⟩:=Option.map_eq_some_iff.mp e;simp only[RW]at q;rw[q,fL e' t];rfl
theorem ky{F:Hp}:∀(ss:List Str),RWs K F (ss.map WL.W.str) (ss.map V.str)|[]=>by simp[RWs]|x::ss=>.cons (by simp[RW]) (ky ss)
theorem rG:∀xs c,WL.gm xs≠.ex c:=fun xs c h=>by
 unfold WL.gm at h;split at h
 ·split at h;·split at h<;>cases h
  ·cases h
 ·cases h
theorem yY(hK:X.K=K):bz X (.builtin "sorted") (loN K WL.gm):=by
 subst hK;refine bz.imp iy fun xs H Q⟨F,ws,s,r,q⟩=>?_;unfold WL.gm at q;split at q
 ·rename_i ys;split at q
  ·rename_i ss es;split at q;·rename_i hl;obtain⟨v,rfl,h⟩:=b6 r;simp only[RW]at h;obtain⟨a,vs,rfl,qa,ra⟩:=h;have ev:=fL es ra;subst ev;refine⟨a,ss,rfl,s.seq qa,hl,fun l ss' hn hp hs=>?_⟩;have e:=WL.gq hp hs;subst e;exact aa7 s q (ky _) hn
   ·exact q.elim
  ·exact q.elim
 ·exact q.elim
end
end WS
namespace L2
open PySem PySem.Spec PyProof.Rows
theorem sy:∀{xs:List V}{us:List Value},us.length=xs.length->(∀(i:Nat)(x:V)(u:Value),xs[i]?=some x->us[i]?=some u->RelV x u)->Vals xs us|[],[],_,_=>.nil|[],_::_,h,_=>by simp at h|_::_,[],h,_=>by simp at h|x::xs,u::us,h,k=>.cons (k 0 x u rfl rfl) (sy (by simpa using h) fun i y v e1 e2=>k (i+1) y v (by simpa using e1) (by simpa using e2))
end L2
namespace WS
open PySem PySem.Spec PyProof.Rows L2
open WL(Res Sl Ws EF TF AF LF GF GsF SF Out)
section
variable{X:Cx}{K:W.Frag}
end
end WS
namespace WL
open PySem
end WL
namespace WS
open PySem PySem.Spec PyProof.Rows L2
open WL(Res Sl Ws EF TF AF LF GF GsF SF Out)
section
variable{X:Cx}{K:W.Frag}
end
end WS
namespace L2
open PySem PySem.Spec PyProof.Rows PySem.Calls
theorem d8{X:Cx}(hc:X.calm=true):bz X (.builtin "sorted") (fun xs H Q=>∃a kvs,∃ss:List Str,xs=[.ref a]/\Rd H a (.dK kvs)/\(kvs.map fun p=>kV p.1)=ss.map V.str/\ss.length<64/\∀l ss',H l=none->List.Perm ss' ss->sortedS ss'=true->Q (.ref l) (upd H l (.lst (ss'.map V.str)))):=by
 intro pins s σ H xs us Q I rx⟨a,kvs,ss,e,rd,hks,hlt,q⟩;subst e;obtain⟨u,rfl,ru⟩:∃u,us=[u]/\RelV (.ref a) u:=by cases rx with|cons h t=>cases t;exact⟨_,rfl,h⟩
 cases(show u=Value.ref a from ru);obtain⟨z,hd,vs,rel,dd⟩:=xC I.hok rd;obtain⟨ep,hat⟩:=dd.dictAt;have hl:=rel.length;have hls:kvs.length=ss.length:=by have:=congrArg List.length hks;simpa using this
 refine call_function_entry kind_sorted plain_sorted entry_sorted (args_sorted1 _) ?_;unfold Builtin.«sorted»;refine wpAny_bind (m:=checkCount "sorted" 1 1 _) (wpAny_pure ?_);refine wpAny_bind (W.kdu_collect (A:=X.A.in1) (W.kdl_dict (knd:=bf X.prog X.w) (kvs:=vs) (ep:=ep) hd) (I.ok.hd hc) hat (by rw[<-hl];exact z) fun h' tk acc hk hi=>?_);have hval:Vals (ss.map V.str) acc.toList:=by
  rw[<-hks];refine sy ?_ ?_;·rw[Array.length_toList,List.length_map,hl];exact hi.1
  ·intro i x v e1 e2;rw[List.getElem?_map,Option.map_eq_some_iff]at e1;obtain⟨p,ep1,rfl⟩:=e1;obtain⟨k,y,g1,g2⟩:=hi.2 i v (by rw[<-Array.getElem?_toList];exact e2);obtain⟨r,r1,r2,_⟩:=rel.get ep1;rw[g1]at r1;cases r1;rw[r2];exact x4 g2
 have hS:=gp hval;have h64:acc.toList.length<64:=by rw[<-hval.length,List.length_map];exact hlt
 refine wpAny_bind (wpAny_newList ?_ (by rw[sizeLine_eq];omega));have hoL:(h'.push (seqObj "list" acc.toList.toArray 0)).get? h'.objs.size=some (seqObj "list" acc.toList.toArray 0):=Heap.get?_push_size _ rfl;refine wpAny_bind (wpAny_holding (wpAny_call_entry (s:={s with heap:=h'.push (seqObj "list" acc.toList.toArray 0),toks:=tk}) slot_list_sort ⟨_,hoL,rfl⟩ entry_list_sort (list_sort_treeK strKind_oneLt hoL hS.keysOf (fun v₁ v₂ rest e=>keyKind_strs (by rw[<-e];exact hS)) h64 fun st' a1 a2=>⟨_,rfl,?_⟩) (args_list_sort _)));obtain⟨ss',b1,b2,b3⟩:=sorted_out_str hS a1 a2;obtain⟨e,he⟩:=sortedHeap_at (out:=(arrOf st').map (·.2)) hoL;have I1:Inv X pins σ H {s with heap:=h',toks:=tk}:=I.kept (t':=tk) hk;refine wpAny_pure ⟨_,rfl,.ref h'.objs.size,_,I1.laid (a:=h'.objs.size) (o:=.lst (ss'.map V.str)) (t':=tk) (fun b o z=>?_) (Nat.le_refl _) ⟨?_,_,e,gz b1,?_⟩,rfl,q _ ss' (I1.hok.fresh (Nat.le_refl _)) b2 b3⟩;·have hb:=Heap.lt_size z;rw[sortedHeap_old (Nat.ne_of_lt hb) (by rw[size_push'];exact Nat.lt_succ_of_lt hb)];exact Heap.get?_push_of_some _ z
 ·rw[List.length_map,b2.length_eq];exact Nat.le_trans (Nat.le_of_lt hlt) (by decide)
 ·rw[he]
end L2
namespace WS
open PySem PySem.Spec PyProof.Rows L2
open WL(Res Sl Ws EF TF AF LF GF GsF SF Out)
section
variable{X:Cx}{K:W.Frag}
theorem rH:∀xs c,WL.gn xs≠.ex c:=fun xs c h=>by unfold WL.gn at h;split at h<;>exact rG _ _ h
theorem yZ(hc:X.calm=true)(hK:X.K=K):bz X (.builtin "sorted") (loN K WL.gn):=by
 intro pins s σ H xs us Q I rx⟨F,ws,sm,r,q⟩;unfold WL.gn at q;split at q
 ·rename_i ks us';unfold WL.gm at q;dsimp only at q;split at q
  ·rename_i ss es;split at q;·rename_i hl;obtain⟨v,rfl,h⟩:=b6 r;simp only[RW]at h;obtain⟨a,kvs,rfl,rd,rk,_⟩:=h;refine d8 hc pins s σ H _ us Q I rx ⟨a,kvs,ss,rfl,sm.rd rd,fL es rk,hl,fun l ss' hn hp hs=>?_⟩;have e:=WL.gq hp hs;subst e;exact aa7 sm q (ky _) hn
   ·exact q.elim
  ·exact q.elim
 ·exact yY hK pins s σ H xs us Q I rx ⟨F,_,sm,r,q⟩
end
end WS
namespace WL
open PySem
noncomputable def uT:W->Bool|.dic ks us=>ar ks&&ar us|_=>false
noncomputable def wF(i:Nat)(c:String)(σ:Ws):Res W->Out|.ok wd=>if uT wd=true then .nx (σ.set i (.va (.ins c [wd])))else .bad|_=>.bad
noncomputable def pq(i j:Nat)(c:String)(f:List W->Res W):SF:=fun σ=>match σ[j]? with|some (.od ks us)=>wF i c σ (f [.dic ks us])|_=>.bad
noncomputable def ahg(l:LF):Out->Res W|.nx σ=>(l σ).bind fun xs=>.ok (.lst xs)|.ex c _=>.ex c|_=>.bad
noncomputable def zr(n:Nat)(t:SF)(l:LF):List W->Res W:=fun ws=>ahg l (t (ws.map .va++List.replicate (n-ws.length) .no))
noncomputable def asL:W->Res (List W)|.lst xs=>.ok xs|_=>.bad
noncomputable def yo(e:EF):LF:=fun σ=>(e σ).bind fun x=>match x with|.dic _ _=>(gn [x]).bind asL|_=>.bad
end WL
namespace WS
open PySem PySem.Spec PyProof.Rows L2
open WL(Res Sl Ws EF TF AF LF GF GsF SF Out)
noncomputable def spO(K:W.Frag)(n:Nat)(f:List VW->Res VW):Sp:=fun vs H Q E=>∃F ws,Same F H/\RWs K F ws vs/\ws.length=n/\match f ws with|.ok w=>∃xs,w=.lst xs/\∀a us H' F',Same F F'->Same F' H'->Same H H'->(∀a o,F' a=some o->F a=some o\/H a=none/\NF o)->F' a=none->H a=none->H' a=some (.lst us)->RWs K F' xs us->Q (.ref a) H'|.ex c=>∀C dx H' F',Same F F'->Same F' H'->Same H H'->(∀a o,F' a=some o->F a=some o\/H a=none/\NF o)->XR K F' c C dx->E (.ref C) dx H'|.bad=>False
noncomputable def OqO(B:Bx)(D:Ends)(F:Hp)(l:LF):Out->Prop|.nx σ'=>Rq B σ' F (l σ') fun ws=>∀a vs H' F',RB B F' H'->Same F F'->F' a=none->B.H0 a=none->H' a=some (.lst vs)->RWs B.K F' ws vs->D.rt (.ref a) H'|.ex c σ'=>B.xp c σ' F|_=>False
noncomputable def aij(B:Bx)(t:SF)(l:LF):TS:=fun D σV H=>∃σ F,RS B σ σV F H/\OqO B D F l (t σ)
section
variable{X:Cx}{B:Bx}{t:SF}{l:LF}{e:Expr}{s1:Stmt}{pos:Pos}
theorem rR(he:PE X e (loL B l)):PSs X [.Return (some e) pos] (aij B WL.sNx l):=PSs.imp (gx (x8 he)) fun D σV H⟨σ,F,R,q⟩=>⟨σ,F,R,Rq.mono (Same.refl _) (show Rq B σ F (l σ) _ from q) fun w qw a vs H' F' R' g h1 h2 h3 h4 _=>qw a vs H' F' R'.rb g.f h1 h2 h3 h4⟩
end
section
variable{P:Program}{w:World}{K:W.Frag}{mg:Str->Option Value}{base:Heap}
theorem aaH{x qual:Str}{st:Stmt}{f:Addr}{fd:FuncData}{N ps:List Str}{k m n:Nat}{fn:List VW->Res VW}(t:SF)(l:LF)(Fn:Fun K x qual st f fd)(S:FnScope N ps (af st))(hn:N.length=n)(hm:ps.length=m)(hfn:WL.zr n t l=fn)(hps:ps.length<=N.length)(h:∀(cdv:Value)(A:Around)(outer:List Env)(s:Shared)(H:Hp)(E:XK)(B:Bx),B.K=K->Room k (A.deeper (envOfC qual (af st) s.heap.objs.size f cdv))->XW (gH (CXX P w) P w K mg base N qual (af st) f cdv A outer s H E) B->PassesOwn (model P w) (gH (CXX P w) P w K mg base N qual (af st) f cdv A outer s H E).A (gH (CXX P w) P w K mg base N qual (af st) f cdv A outer s H E).env (gH (CXX P w) P w K mg base N qual (af st) f cdv A outer s H E).xe->PSs (gH (CXX P w) P w K mg base N qual (af st) f cdv A outer s H E) (aO st) (aij B t l)):FnOk P w K mg base (CXX P w) (k+1) f fd ps (spO K m fn):=by subst hn hm hfn;obtain⟨oc,od,kV,doc,pm,an,cdv,ct,osl,rfl,lk,hcd⟩:=Fn.ex;refine xt lk hcd S (fun vs H Q E⟨F,ws,_,r,hl,_⟩=>by rw[<-r.length];exact hl) fun A outer s H vs Q E hr _⟨F,ws,sm,r,hl,hm⟩=>?_;let B0:Bx:=⟨K,H,F,fun _ _ _=>False,fun _ _ _ _ _ h=>h⟩;let B1:Bx:=B0.oU (fun c _ F1=>∀C dx H' F',Same F1 F'->RB B0 F' H'->XR K F' c C dx->E (.ref C) dx H') fun c σ F1 F2 s h C dx H' F' s'=>h C dx H' F' (s.trans s');refine⟨_,h cdv A outer s H E B1 rfl hr (fun pins σV H1 s1 σ F1 c R1 xp e C dx T fl t xr=>kH t (xp C dx H1 F1 (Same.refl _) (R1.rb.box rfl rfl) xr)) PassesOwn.leaving,_,F,(RS.start sm r (by omega)).box (B':=B1) rfl rfl rfl,?_⟩;unfold WL.zr at hm;cases e:t (ws.map .va++List.replicate (N.length-ws.length) .no)with
|nx σ'=>rw[e]at hm;unfold WL.ahg at hm;dsimp only at hm;show Rq B1 σ' F (l σ') _;cases e2:l σ' with|bad=>rw[e2]at hm;exact hm.elim|ex c=>rw[e2]at hm;exact fun C dx H' F' s' rb xr=>(show∀C dx H' F',_ from hm) C dx H' F' s' rb.sub rb.base rb.fr xr|ok xs=>rw[e2]at hm;obtain⟨xs',ex,q⟩:∃xs',WL.W.lst xs=.lst xs'/\_:=hm;cases ex;exact fun a vs H' F' rb s' h1 h2 h3 h4=>q a vs H' F' s' rb.sub rb.base rb.fr h1 h2 h3 h4
|ex c σ'=>rw[e]at hm;exact fun C dx H' F' s' rb xr=>hm C dx H' F' s' rb.sub rb.base rb.fr xr|rt _=>rw[e]at hm;exact hm.elim|bk σ'=>rw[e]at hm;exact hm.elim|ct σ'=>rw[e]at hm;exact hm.elim|bad=>rw[e]at hm;exact hm.elim
theorem vU{n:Nat}{t:SF}{l:LF}{ws:List VW}{w:VW}(h:WL.zr n t l ws=.ok w):∃xs,w=.lst xs:=by
 unfold WL.zr WL.ahg at h;split at h;·revert h;cases l _ with|ok xs=>intro h;exact⟨xs,(Res.ok.inj h).symm⟩|ex c=>intro h;cases h|bad=>intro h;cases h
 ·cases h
 ·cases h
theorem FnOk.ofO{f:Addr}{fd:FuncData}{ps:List Str}{k m:Nat}{fn:List VW->Res VW}(F:FnOk P w K mg base (CXX P w) k f fd ps (spO K m fn))(hl:∀ws w,fn ws=.ok w->∃xs,w=.lst xs):FnOk P w K mg base (CXX P w) k f fd ps (spX K m fn):=F.imp fun vs H Q E⟨F,ws,h1,h2,h3,h4⟩=>by refine⟨F,ws,h1,h2,h3,?_⟩;cases e:fn ws with|bad=>rw[e]at h4;exact h4|ex c=>rw[e]at h4;exact h4|ok w=>
   rw[e]at h4;obtain⟨xs,rfl⟩:=hl ws w e;refine⟨xs,rfl,fun a us H' F' s1 s2 s3 fr hF hH hH' r=>(show∀v H' F',_ from h4) (.ref a) H' (upd F' a (.lst us)) (s1.trans (ao hF _)) (fun b o z=>?_) s3 (fun b o z=>?_) ?_⟩
   ·by_cases hb:b=a;·subst hb;rw[ag]at z;cases z;exact hH'
    ·rw[ae hb]at z;exact s2 b o z
   ·by_cases hb:b=a;·subst hb;rw[ag]at z;cases z;exact .inr ⟨hH,trivial⟩
    ·rw[ae hb]at z;exact fr b o z
   ·simp only[RW];exact⟨a,us,rfl,SqL.of ag,r.keep (ao hF _)⟩
end
section
variable{X:Cx}{B:Bx}{fl x:Str}{c:String}{C f:Addr}{fd:FuncData}{ps:List Str}{k:Nat}{fn:List VW->Res VW}{e:Expr}{es:List Expr}{tas:AF}{p pos pos':Pos}
theorem vH{ta:EF}(hc:X.calm=true)(hm:X.mg x=none)(hv:bootBuiltins x=some (.builtin "sorted"))(h:PE X e (lo B ta))(hg:Gl X x:=by rfl)(hn:x≠"__name__":=by decide)(hdb:(x==("__debug__":Str))=false:=by decide)(he:starEach [e] X.env=(false,eval e X.env)::starEach [] X.env:=by rfl)(hpl:(backTo pos (starEach [] X.env)).any (·.1)=false:=by rfl):PE X (.Call (.Name x p) [e] [] pos) (loL B (WL.yo ta)):=PE.imp (pK (d8 hc) hg hm hv (wa_cons h wa_nil he) hn hdb he hpl) fun σV H Q⟨σ,F,R,q⟩=>by have q:=Rq.bind q;refine⟨σ,F,R,?_⟩;show Rq B σ F ((ta σ).bind fun x=>.ok [x]) _;cases ek:ta σ with|bad=>rw[ek]at q;exact q|ex c=>rw[ek]at q;exact q|ok w=>rw[ek]at q;intro vs H1 F1 R1 g1 r1;obtain⟨v,rfl,r3⟩:=b6 r1;cases w with
 |dic ks us=>simp only[RW]at r3;obtain⟨a,kvs,rfl,rd,rk,_⟩:=r3;have q:Rq B σ F ((match WL.strsOf ks with|some ss=>if ss.length<64 then Res.ok (WL.W.lst ((WL.d9 ss).map .str))else .bad|none=>.bad).bind WL.asL) _:=q;cases es:WL.strsOf ks with|none=>rw[es]at q;exact q.elim|some ss=>
     rw[es]at q;dsimp only at q;by_cases hl:ss.length<64;·rw[if_pos hl]at q;refine⟨a,kvs,ss,rfl,R1.rb.sub.rd rd,fL es rk,hl,fun l ss' hn hp hs=>?_⟩;have e:=WL.gq hp hs;subst e;exact agK R1 g1 (ky _) hn q
     ·rw[if_neg hl]at q;exact q.elim
 |_=>exact(show False from q).elim
end
end WS
namespace WS
open PySem PySem.Spec PyProof.Rows L2
open WL(Res Sl Ws EF TF AF LF GF GsF SF Out)
section
variable{K:W.Frag}{H H':Hp}
mutual theorem RW.flat(ht:∀a xs,SqT K H a xs->SqT K H' a xs)(hl:∀a xs,SqL K H a xs->SqL K H' a xs):∀(w:VW)(v:V),WL.aF w=true->RW K H w v->RW K H' w v|.non,_,_,h=>by simpa only[RW]using h|.bl _,_,_,h=>by simpa only[RW]using h|.int _,_,_,h=>by simpa only[RW]using h|.str _,_,_,h=>by simpa only[RW]using h|.ty _,_,_,h=>by simpa only[RW]using h|.tup ws,_,p,h=>by simp only[RW]at h⊢;obtain⟨a,vs,e,q,r⟩:=h;exact⟨a,vs,e,ht a vs q,RWs.flat ht hl ws vs (by simpa only[WL.aF]using p) r⟩|.lst ws,_,p,h=>by simp only[RW]at h⊢;obtain⟨a,vs,e,q,r⟩:=h;exact⟨a,vs,e,hl a vs q,RWs.flat ht hl ws vs (by simpa only[WL.aF]using p) r⟩|.dic _ _,_,p,_=>by simp[WL.aF]at p|.cls _,_,p,_=>by simp[WL.aF]at p|.exc _ _,_,p,_=>by simp[WL.aF]at p|.ins _ _,_,p,_=>by simp[WL.aF]at p theorem RWs.flat(ht:∀a xs,SqT K H a xs->SqT K H' a xs)(hl:∀a xs,SqL K H a xs->SqL K H' a xs):∀(ws:List VW)(vs:List V),WL.ar ws=true->RWs K H ws vs->RWs K H' ws vs|[],_,_,h=>by simpa only[RWs]using h|w::ws,_,p,h=>by simp only[RWs]at h⊢;simp only[WL.ar,Bool.and_eq_true]at p;obtain⟨v,r,e,q,t⟩:=h;exact⟨v,r,e,RW.flat ht hl w v p.1 q,RWs.flat ht hl ws r p.2 t⟩end
end
section
variable{X:Cx}{B:Bx}{fl x nx_:Str}{c:String}{C f:Addr}{fd:FuncData}{ps:List Str}{k i j:Nat}{fn:List VW->Res VW}{e:Expr}{p pos pos' cpos:Pos}
theorem vD(hN:X.N.Nodup)(hi:X.N[i]?=some nx_)(hnx:Loc X.env.scope nx_)(hK:X.K=B.K)(M:Mk X.K C f)(cl:Cls X.K C)(na:di X.K C fl)(hns:W.nsIn X.K mainGlobals (Str.ofString c)=some (some (.ref C)))(hfl:WL.n5 c=[fl])(G:FnOk X.prog X.w X.K X.mg X.base (CXX X.prog X.w) k f fd ps (spB X.K fl fn))(hr:Room (k+1) X.A)(hg:Gl X x)(hm:X.mg x=some (.ref C))(hb:Binds X.K fd ps [])(he1:PE X e (tVar j))(hdb:(x==("__debug__":Str))=false:=by decide)(he:starEach [e] X.env=(false,eval e X.env)::starEach [] X.env:=by rfl)(hpl:(backTo cpos (starEach [] X.env)).any (·.1)=false:=by rfl)(hs:swapsWith (.Call (.Name x p) [e] [] cpos) (some (.Name nx_ pos')) pos.line X.env=pure false:=by rfl)(hf:X.fn nx_=true\/X.env.scope.names.lookup nx_=some .local:=by first|exact .inl rfl|exact .inr rfl|assumption):PS X (.Assign [.Name nx_ pos'] (.Call (.Name x p) [e] [] cpos) pos) (loS B (WL.pq i j c fn)):=PS.imp (fW hN hi hnx (wg M G hr hg hm hb .nil (pa_cons he1 pa_nil he) hdb he hpl) hs hf) fun D σV H⟨σ,F,R,q⟩=>by have q:Oq B D F (match(σ[j]?:Option Sl)with|some (.od ks us)=>WL.wF i c σ (fn [.dic ks us])|_=>.bad):=q;cases e1:σ[j]? with|none=>rw[e1]at q;exact q.elim|some sl=>rw[e1]at q;cases sl with
|od ks us=>
  obtain⟨a,kvs,h1,h2,h3,h4,h5,h6⟩:=R.dd.od j ks us e1;refine⟨.ref a,h1,fun x dx hx1 hdx hne=>?_⟩;have q:Oq B D F (WL.wF i c σ (fn [.dic ks us])):=q;let Fa:Hp:=upd F a (.dK kvs);have sFa:Same F Fa:=ao h2 _;have hFx:F x=none:=R.rb.sub.free hx1;have hax:a≠x:=fun z=>by rw[z,hx1]at h4;cases h4
  have hc:∀b o,H b=some o->b≠x/\b≠dx/\upd (upd H dx (.own x)) x (.ins C dx []) b=some o:=fun b o z=>by
   have h1:b≠x:=fun y=>by rw[y,hx1]at z;cases z
   have h2:b≠dx:=fun y=>by rw[y,hdx]at z;cases z
   exact⟨h1,h2,by rw[ae h1,ae h2];exact z⟩
  have sFaH:Same Fa H:=fun b o z=>by
   by_cases hb:b=a;·subst hb;rw[show Fa b=_ from ag]at z;cases z;exact h4
   ·rw[show Fa b=_ from ae hb]at z;exact R.rb.sub b o z
  refine⟨fun _ _ _=>False,?_,fun _ _ _ _ _ _ _ _ z=>z.elim⟩;refine⟨x,dx,C,noI Fa,.dic ks us,.ref a,rfl,ag,cl,na,?_,fun b Cb db z=>?_,fun b o z=>(hc b o (sFaH b o (pV z))).2.2,?_,?_⟩;·cases e2:noI Fa x with|none=>rfl|some u=>have:=sFaH x _ (pV e2);rw[hx1]at this;cases this
  ·have:=pV z;unfold noI at z;rw[this]at z;cases z
  ·rw[hK];refine RW.one ((RWs.one ?_).ada fun b o z=>acX z);simp only[RW];exact⟨a,kvs,rfl,.inl ag,h5.keep sFa,h6.keep sFa⟩
  ·cases ef:fn [.dic ks us]with|bad=>rw[ef]at q;exact q|ex c=>rw[ef]at q;exact q.elim|ok wd=>
    rw[ef]at q;intro H2 F2 d hd s1 s2 s3 hx2 hFx2 fr rwd;have q:Oq B D F (if WL.uT wd=true then .nx (σ.set i (.va (.ins c [wd])))else .bad):=q;by_cases hfd:WL.uT wd=true;rotate_left;·rw[if_neg hfd]at q;exact q.elim
    rw[if_pos hfd]at q;have hda:d≠a:=fun z=>by rw[z,(hc a _ h4).2.2]at hd;cases hd
    have sH:Same H H2:=fun b o z=>s3 b o (hc b o z).1 (hc b o z).2.2;let F3:Hp:=jo F (eo F2 a);have old:∀b o,b≠a->F2 b=some o->F b=none->H b=none/\NF o:=fun b o hb z n=>by
     rcases fr b o z with y|⟨y,nf⟩;·have:=pV y;rw[show Fa b=_ from ae hb,n]at this;cases this
     ·refine⟨?_,nf⟩;rcases y with y|y;·rw[y];exact hx1
      ·cases e1:H b with|none=>rfl|some u=>rw[(hc b u e1).2.2]at y;cases y
    have F3of:∀b o,F3 b=some o->F b=some o\/b≠a/\F2 b=some o/\F b=none:=fun b o z=>by cases e1:F b with|some u=>rw[show F3 b=some u from aeU e1]at z;cases z;exact .inl rfl|none=>rw[show F3 b=eo F2 a b from aim e1]at z;exact .inr ⟨(gD z).1,(gD z).2,rfl⟩
    have F3to:∀b o,b≠a->F2 b=some o->F3 b=some o:=fun b o hb z=>by cases e1:F b with|none=>rw[show F3 b=eo F2 a b from aim e1,bD hb];exact z|some u=>have h1:=sH b _ (R.rb.sub b _ e1);rw[s2 b o z]at h1;cases h1;exact aeU e1
    have g:Gr F H F3 H2:=⟨fun b o z=>aeU z,sH,fun b o z n=>by cases e2:F3 b with|none=>rfl|some u=>
      rcases F3of b u e2 with y|⟨y1,y2,_⟩;·rw[n]at y;cases y
      ·rw[(old b u y1 y2 n).1]at z;cases z⟩;have rb:RB B F3 H2:=⟨fun b o z=>by
     rcases F3of b o z with y|⟨_,y2,_⟩;·exact sH b _ (R.rb.sub b _ y)
     ·exact s2 b o y2,R.rb.base.trans sH,fun b o z=>aeU (R.rb.fz0 b o z),fun b o z=>by
     rcases F3of b o z with y|⟨y1,y2,y3⟩;·exact R.rb.fr b _ y
     ·obtain⟨g1,g2⟩:=old b o y1 y2 y3;exact .inr ⟨R.rb.base.free g1,g2⟩⟩;have fx:F3 x=none:=by cases e2:F3 x with|none=>rfl|some u=>
      rcases F3of x u e2 with y|⟨_,y2,_⟩;·rw[hFx]at y;cases y
      ·rw[hFx2]at y2;cases y2
    have R3:RS B σ σV (upd F3 x (.ins C dx [(fl,.ref d)])) H2:=(R.grow g rb).ajf fx (R.rb.base.free hx1) hx2 trivial (fun _ z=>nomatch z) (fun _ z=>nomatch z);have F2a:∀o,F2 a=some o->o=.dK kvs:=fun o z=>by have:=s2 a o z;rw[sH a _ h4]at this;exact(Option.some.inj this).symm
    have mv:∀b o,b≠a->F2 b=some o->upd F3 x (.ins C dx [(fl,.ref d)]) b=some o:=fun b o hb z=>ao fx _ b o (F3to b o hb z);have hT:∀b xs,SqT B.K F2 b xs->SqT B.K (upd F3 x (.ins C dx [(fl,.ref d)])) b xs:=fun b xs z=>by refine z.imp (fun z=>?_) fun z=>z;exact z.imp (fun z=>mv b _ (fun y=>by rw[y]at z;cases F2a _ z) z) fun⟨od,z⟩=>⟨od,mv b _ (fun y=>by rw[y]at z;cases F2a _ z) z⟩
    have hL:∀b xs,SqL B.K F2 b xs->SqL B.K (upd F3 x (.ins C dx [(fl,.ref d)])) b xs:=fun b xs z=>by refine z.imp (fun z=>?_) fun z=>z;exact z.imp (fun z=>mv b _ (fun y=>by rw[y]at z;cases F2a _ z) z) fun⟨od,z⟩=>⟨od,mv b _ (fun y=>by rw[y]at z;cases F2a _ z) z⟩
    refine⟨rfl,(show∀σV' H' F',_ from q) _ H2 _ (R3.set (i:=i) (w:=.ins c [wd]) (v:=.ref x) ?_) (g.f.trans (ao fx _))⟩;simp only[RW];refine⟨x,C,dx,[(fl,.ref d)],rfl,ag,hK▸hns,hfl.symm,by simp,RWs.one ?_⟩;have rwd:RW B.K F2 wd (.ref d):=hK▸rwd;cases wd with|dic ks' us'=>have hfd:(WL.ar ks'&&WL.ar us')=true:=hfd;rw[Bool.and_eq_true]at hfd;simp only[RW]at rwd⊢;obtain⟨d',kvs',ed,rd,rk,ru⟩:=rwd;cases ed;refine⟨d,kvs',rfl,?_,RWs.flat hT hL _ _ hfd.1 rk,RWs.flat hT hL _ _ hfd.2 ru⟩;exact rd.imp (fun z=>mv d _ hda z) fun⟨od,z⟩=>⟨od,mv d _ hda z⟩|_=>cases hfd
|_=>exact q.elim
end
end WS
namespace WL
open PySem
end WL
namespace L2
open PySem PySem.Spec PyProof.Rows
section
variable{prog:Program}{w:World}{A:Around}{E:Value->Shared->Prop}{s:Shared}{d:Addr}{o:Obj}{es:Array DictEntry}{ep:Nat}{hh:Int}
end
section
variable{P:Program}{w:World}{H:Hp}{h:Heap}{a:Addr}
end
section
variable{X:Cx}
end
end L2
namespace WS
open PySem PySem.Spec PyProof.Rows L2
open WL(Res Sl Ws EF TF AF LF GF GsF SF Out)
section
variable{X:Cx}{K:W.Frag}
end
end WS
namespace WS
open PySem PySem.Spec PyProof.Rows L2
open WL(Res Sl Ws EF TF AF LF GF GsF SF Out)
noncomputable def yG(P:Program)(w:World)(K:W.Frag)(mg:Str->Option Value)(base:Heap)(k:Nat)(C f:Addr)(m:Str)(ps:List Str)(sp:Sp):Prop:=Meth K C m f/\∃fd:FuncData,FnOk P w K mg base (CXX P w) k f fd ps sp/\Binds K fd ps []
theorem acZ{K:W.Frag}{f:Addr}{nm qual:Str}{st:Stmt}{oc:Value}{od an:Option Addr}{osl:Array (Option Value)}{kV doc pm cdv ct:Value}(l:K.lookup f=some ⟨oc,od,.func (W.fnOf nm qual (bG st) (aO st) (af st) .none kV doc pm an cdv ct),osl⟩)(c:W.codeIn K cdv qual=true)(q:W.keepIn K (.ref f)=true):∃fd,Fun K nm qual st f fd:=⟨_,qf l c q⟩
theorem aab{P:Program}{w:World}{K:W.Frag}{mg:Str->Option Value}{base:Heap}{k:Nat}{C f:Addr}{nm qual:Str}{st:Stmt}{ps:List Str}{sp:Sp}(M:Meth K C nm f)(D:∃fd,Fun K nm qual st f fd)(hb:∀(kV doc pm:Value)(an:Option Addr)(cdv ct:Value)(us:List Value),us.length=ps.length->bindArgs (W.fnOf nm qual (bG st) (aO st) (af st) .none kV doc pm an cdv ct) ⟨us,[]⟩=pure (ps.zip us))(h:∀fd:FuncData,Fun K nm qual st f fd->FnOk P w K mg base (CXX P w) k f fd ps sp):yG P w K mg base k C f nm ps sp:=by obtain⟨fd,F⟩:=D;exact⟨M,fd,h fd F,F.binds hb⟩
theorem yG.x{P:Program}{w:World}{K:W.Frag}{mg:Str->Option Value}{base:Heap}{k m n:Nat}{C f:Addr}{nm:Str}{ps:List Str}{t:SF}{l:LF}(h:yG P w K mg base k C f nm ps (spO K m (WL.zr n t l))):yG P w K mg base k C f nm ps (spX K m (WL.zr n t l)):=by obtain⟨M,fd,F,b⟩:=h;exact⟨M,fd,FnOk.ofO F fun ws w e=>vU e,b⟩
section
variable{X:Cx}{B:Bx}{a b e o:Expr}{ta tb to:EF}{pos pos' cpos apos p:Pos}{x fl m nx_:Str}{es:List Expr}{tas:AF}{i j k n d:Nat}{C f g:Addr}{ps:List Str}{fn:List VW->Res VW}{c:String}{pl:Sem Bool}
theorem flI(hB:B.K=X.K)(hC:W.nsIn X.K mainGlobals (Str.ofString c)=some (some (.ref C)))(cl:Cls X.K C)(na:di X.K C fl)(ho:PE X o (lo B to))(hfl:WL.n5 c=[fl]:=by rfl)(hb:attributeBase o fl X.env (eval o X.env)=eval o X.env:=by rfl):PE X (.Attribute o fl pos) (lo B (WL.rz c to)):=yU hB.symm hC cl na hfl ho hb
theorem mkL(hB:B.K=X.K)(hr:Room j X.A)(M:Mk X.K C f)(cl:Cls X.K C)(na:di X.K C fl)(hC:W.nsIn X.K mainGlobals (Str.ofString c)=some (some (.ref C)))(G:ahF X.prog X.w X.K X.mg X.base k f ps (spB X.K fl fn))(hm:X.mg x=some (.ref C))(hN:X.N.Nodup)(hi:X.N[i]?=some nx_)(hnx:Loc X.env.scope nx_)(he1:PE X e (tVar d))(hk:k+1<=j:=by decide)(hfl:WL.n5 c=[fl]:=by rfl)(hg:Gl X x:=by rfl)(hdb:(x==("__debug__":Str))=false:=by decide)(he:starEach [e] X.env=(false,eval e X.env)::starEach [] X.env:=by rfl)(hpl:(backTo cpos (starEach [] X.env)).any (·.1)=false:=by rfl)(hs:swapsWith (.Call (.Name x p) [e] [] cpos) (some (.Name nx_ pos')) pos.line X.env=pure false:=by rfl)(hf:X.fn nx_=true\/X.env.scope.names.lookup nx_=some .local:=by first|exact .inl rfl|exact .inr rfl|assumption):PS X (.Assign [.Name nx_ pos'] (.Call (.Name x p) [e] [] cpos) pos) (loS B (WL.pq i d c fn)):=by obtain⟨fd,F,b⟩:=G;exact vD hN hi hnx hB.symm M cl na hC hfl F (hr.mono hk) hg hm b he1 hdb he hpl hs hf
theorem aid(hB:B.K=X.K)(hr:Room j X.A)(hx:XW X B)(hC:W.nsIn X.K mainGlobals (Str.ofString c)=some (some (.ref C)))(cl:Cls X.K C)(G:yG X.prog X.w X.K X.mg X.base k C g m ps (spX X.K 1 fn))(ho:PE X o (lo B to))(hk:k<=j:=by decide)(hfl:WL.n5 c=[fl]:=by rfl)(hmf:(m==fl)=false:=by decide)(ht:eval (.Call (.Attribute o m apos) [] [] pos) X.env=(do
  let ov <-eval o X.env
  standAt apos.atName let(f,first)<-holding [ov] (getMethod ov m pl)callWith pos f first (backTo pos (starEach [] X.env)) (backToKw pos (keywordEach [] X.env))):=by rfl):PE X (.Call (.Attribute o m apos) [] [] pos) (lo B (WL.ie c fn to WL.aj)):=by obtain⟨M,fd,F,b⟩:=G;refine PE.imp (tT (pl:=pl) ho cl M F (hr.mono hk) b .nil ht) fun σV H Q q=>?_;obtain⟨σ,F0,R,q⟩:=wK (o:=o) hB.symm hx hC hfl hmf (n:=1) (tas:=WL.aj) (fun σ ws e=>by cases e;rfl) σV H Q q;refine⟨σ,F0,R,Rq.mono (Same.refl _) q fun y qy v H0 F0 R0 g0 r0=>?_⟩;obtain⟨a,dx,fs,h1,h2,h3,σ',F',R',q'⟩:=qy v H0 F0 R0 g0 r0;exact⟨a,dx,fs,h1,h2,h3,(show∀vs H' F',_ from q') [] H0 F' R' Gr.refl (by simp[RWs])⟩
end
end WS
namespace WL
open PySem
noncomputable def qR:W->W->Res W|.int i,.int j=>.ok (.int (i+j))|_,_=>.bad
noncomputable def ahJ:W->Res Bool|.lst xs=>.ok (!xs.isEmpty)|_=>.bad
noncomputable def tL(e:EF):TF:=fun σ=>(e σ).bind ahJ
noncomputable def inner:List W->Option (List W)
|.tup ts::_=>match ts.getLast? with|some (.lst us)=>some us|_=>none
|_=>none
noncomputable def lC(i:Nat)(as:List W)(s:SF)(σ:Ws)(b:Bool):Option Sl->Out|some (.va (.lst xs))=>@ite _ (ar xs=true/\xs∉aA as/\xs.length+1<lim/\(b=true->∃us,inner xs=some us/\us∉aA as/\us.length+1<lim)) (Classical.propDecidable _) (s (σ.set i .no)) .bad|_=>.bad
noncomputable def sSpoil3(i:Nat)(as:List W)(t:TF)(e e':EF)(s:SF):SF:=fun σ=>ofR σ (t σ) fun b=>ofR σ (e (σ.set i .no)) fun _=>ofR σ (e' (σ.set i .no)) fun _=>lC i as s σ b σ[i]?
end WL
namespace WS
open PySem PySem.Spec PyProof.Rows L2
open WL(Res Sl Ws EF TF AF LF GF GsF SF Out)
noncomputable def AtA(K:W.Frag)(nm fn:Str)(st:Stmt):Prop:=∃(f:Addr)(fd:FuncData),Fun K fn fn st f fd/\W.nsIn K mainGlobals nm=some (some (.ref f))
section
variable{P:Program}{w:World}{K:W.Frag}{mg:Str->Option Value}{base:Heap}{CX:CXT}{k:Nat}{nm fn:Str}{ps:List Str}{sp:Sp}{st:Stmt}
theorem yD{f:Addr}{oc:Value}{od an:Option Addr}{osl:Array (Option Value)}{kV doc pm cdv ct:Value}(a:W.nsIn K mainGlobals nm=some (some (.ref f)))(l:K.lookup f=some ⟨oc,od,.func (W.fnOf fn fn (bG st) (aO st) (af st) .none kV doc pm an cdv ct),osl⟩)(c:W.codeIn K cdv fn=true)(q:W.keepIn K (.ref f)=true):AtA K nm fn st:=⟨f,_,qf l c q,a⟩
theorem AtA.cal(D:AtA K nm fn st)(hm:∀nm v,W.nsIn K mainGlobals nm=some (some v)->mg nm=some v)(hb:∀(kV doc pm:Value)(an:Option Addr)(cdv ct:Value)(us:List Value),us.length=ps.length->bindArgs (W.fnOf fn fn (bG st) (aO st) (af st) .none kV doc pm an cdv ct) ⟨us,[]⟩=pure (ps.zip us))(h:∀(f:Addr)(fd:FuncData),Fun K fn fn st f fd->FnOk P w K mg base CX k f fd ps sp):Cal P w K mg base CX k nm ps [] sp:=by obtain⟨f,fd,F,a⟩:=D;exact⟨f,fd,h f fd F,hm _ _ a,F.kp,F.binds hb,F.binds hb⟩
theorem xK{m:Nat}(D:AtD K nm st)(hm:∀nm v,W.nsIn K mainGlobals nm=some (some v)->mg nm=some v)(hb:∀(kV doc pm:Value)(an:Option Addr)(cdv ct:Value)(us:List Value),us.length=ps.length->bindArgs (W.fnOf nm nm (bG st) (aO st) (af st) .none kV doc pm an cdv ct) ⟨us,[]⟩=pure (ps.zip us)):Cal P w K mg base (CXX P w) k nm ps [] (spX K m fun _=>.bad):=D.cal hm hb fun f fd F=>⟨fun vs H Q E⟨_,_,_,_,_,h⟩=>h.elim,fun A outer s H args us vs Q E hr hN he hb hv⟨_,_,_,_,_,h⟩=>h.elim⟩
theorem aaQ{m:Nat}(D:AtD K nm st)(hm:∀nm v,W.nsIn K mainGlobals nm=some (some v)->mg nm=some v)(hb:∀(kV doc pm:Value)(an:Option Addr)(cdv ct:Value)(us:List Value),us.length=ps.length->bindArgs (W.fnOf nm nm (bG st) (aO st) (af st) .none kV doc pm an cdv ct) ⟨us,[]⟩=pure (ps.zip us)):Cal P w K mg base CX0 k nm ps [] (spW K m fun _=>.bad):=D.cal hm hb fun f fd F=>⟨fun vs H Q E⟨_,_,_,_,_,h⟩=>h.elim,fun A outer s H args us vs Q E hr hN he hb hv⟨_,_,_,_,_,h⟩=>h.elim⟩
end
section
variable{X:Cx}{B:Bx}{e:Expr}{te:EF}{i:Nat}{x:Str}{pos pos':Pos}
theorem rX(hN:X.N.Nodup)(he:PE X e (lo B te))(hi:X.N[i]?=some x:=by rfl)(hx:Loc X.env.scope x:=by first|exact Or.inl rfl|exact Or.inr rfl)(hf:X.fn x=true\/X.env.scope.names.lookup x=some .local:=by first|exact .inl rfl|exact .inr rfl|assumption):PS X (.AugAssign (.Name x pos') .Add e pos) (loS B (WL.eG i (WL.eOp WL.qR (WL.ah i) te))):=PS.imp (x9 hN hi hx he adG hf) fun D σV H⟨σ,F,R,q⟩=>by
 have q:=Rq.bind (Oq.ofR q);unfold WL.ah at q;split at q;·rename_i w ew;obtain⟨v,h1,h2⟩:=R.va i w ew;have q:=Rq.bind (show Rq B σ F ((te σ).bind fun y=>WL.qR w y) _ from q);refine⟨v,h1,σ,F,R,Rq.mono (Same.refl _) q fun y qy v2 H1 F1 R1 g1 r1=>?_⟩;cases w with
 |int a=>cases y with|int b=>simp only[RW]at h2 r1;subst h2 r1;exact⟨a,b,rfl,rfl,(show∀σV' H' F',_ from qy) _ H1 F1 (R1.set (by simp[RW])) g1.f⟩|_=>exact(show False from qy).elim
 |_=>exact(show False from qy).elim
 ·exact q.elim
theorem yN(hN:X.N.Nodup)(he:PE X e (lo B te))(hi:X.N[i]?=some x:=by rfl)(hx:Loc X.env.scope x:=by first|exact Or.inl rfl|exact Or.inr rfl)(hf:X.fn x=true\/X.env.scope.names.lookup x=some .local:=by first|exact .inl rfl|exact .inr rfl|assumption):PS X (.AugAssign (.Name x pos') .Sub e pos) (loS B (WL.eG i (WL.eOp WL.aa3 (WL.ah i) te))):=PS.imp (x9 hN hi hx he adF hf) fun D σV H⟨σ,F,R,q⟩=>by
 have q:=Rq.bind (Oq.ofR q);unfold WL.ah at q;split at q;·rename_i w ew;obtain⟨v,h1,h2⟩:=R.va i w ew;have q:=Rq.bind (show Rq B σ F ((te σ).bind fun y=>WL.aa3 w y) _ from q);refine⟨v,h1,σ,F,R,Rq.mono (Same.refl _) q fun y qy v2 H1 F1 R1 g1 r1=>?_⟩;cases w with
 |int a=>cases y with|int b=>simp only[RW]at h2 r1;subst h2 r1;exact⟨a,b,rfl,rfl,(show∀σV' H' F',_ from qy) _ H1 F1 (R1.set (by simp[RW])) g1.f⟩|_=>exact(show False from qy).elim
 |_=>exact(show False from qy).elim
 ·exact q.elim
theorem aiK(hB:B.K=X.K)(h:PE X e (lo B te))(he:∀whole,isTrue e X.env whole=(do let v <-whole;standAt e.pos;holding [v] (truthy v)):=by intro _;rfl):PT X e (loT B (WL.tL te)):=PT.imp (vZ h he) fun σV H Q⟨σ,F,R,q⟩=>by
 have q:=Rq.bind q;refine⟨σ,F,R,Rq.mono (Same.refl _) q fun y qy v H1 F1 R1 g1 r1=>?_⟩;cases y with|lst ws=>
 have hl:∀vs:List V,RWs B.K F1 ws vs->vs.isEmpty=ws.isEmpty:=fun vs r=>by have:=r.length;cases ws<;>cases vs<;>first|rfl|simp at this
 simp only[RW]at r1;obtain⟨a,vs,rfl,sq,r⟩:=r1;refine⟨!ws.isEmpty,.inl ⟨vs,hB▸R1.rb.sub.seq sq,by rw[hl vs r]⟩,(show∀H' F',_ from qy) H1 F1 R1 g1⟩|_=>exact(show False from qy).elim
end
section
variable{X:Cx}{B:Bx}{i:Nat}{as:List VW}{t:TF}{e e':EF}{s1:SF}{c:Expr}{sa st2:Stmt}{rest:List Stmt}{pos:Pos}
theorem aak{K:W.Frag}{F:Hp}:∀{ts:List VW}{vs:List V}{w:VW},RWs K F ts vs->ts.getLast?=some w->∃v,L2.atI vs (-1)=some v/\RW K F w v:=fun{ts vs w}r h=>by
 rw[List.getLast?_eq_getElem?]at h;obtain⟨v,h1,h2⟩:=r.get h;refine⟨v,?_,h2⟩;have hl:=r.length;have:ts.length-1<vs.length:=(List.getElem?_eq_some_iff.mp h1).1;rw[hl]at h1;unfold L2.atI L2.ixN;have z:¬(0:Int)<=-1:=by decide
 have z2:-(vs.length:Int)<=-1:=by omega
 rw[if_neg z,if_pos z2];show vs[(-1+(vs.length:Int)).toNat]?=some v;rw[show(-1+(vs.length:Int)).toNat=vs.length-1 by omega];exact h1
theorem yk{k w:VW}{j:Nat}{σ:Ws}{c:VW}(z:WL.cT (WL.aa (WL.eC k) (WL.aa (WL.eOp WL.oIx (WL.ah j) (WL.eC w)) WL.aj)) σ=.ex c):False:=by
 have h:WL.cT (WL.aa (WL.eC k) (WL.aa (WL.eOp WL.oIx (WL.ah j) (WL.eC w)) WL.aj)) σ=((((WL.ah j σ).bind fun x=>WL.oIx x w).bind fun x=>Res.ok [x]).bind fun xs=>Res.ok (k::xs)).bind fun xs=>if xs.length<=WL.lim then .ok (.tup xs)else .bad:=rfl;rw[h]at z;unfold WL.ah at z;split at z;·rename_i x _;cases e:WL.oIx x w with|ex c=>exact oE _ _ _ e|ok y=>rw[show((Res.ok x).bind fun x=>WL.oIx x w)=WL.oIx x w from rfl,e]at z;cases z|bad=>rw[show((Res.ok x).bind fun x=>WL.oIx x w)=WL.oIx x w from rfl,e]at z;cases z
 ·cases z
theorem r9(hB:B.K=X.K)(hnl:noL X.K=true)(hc:PT X c (loT B t))(h1:PS X sa (lB (tBM X.K "list" rAppend (tOp (rIxT X.K) (tOp (rIxL X.K) (tVar i) (tC (.int 0))) (lo B (WL.eUn WL.oNeg (WL.eC (.int 1))))) (tCons (lo B e) tNil))))(h2:PS X st2 (lB (tBM X.K "list" rAppend (tVar i) (tCons (lo B e') tNil))))(h3:PSs X rest (loS B s1))(hxc:∀c σ,e σ≠.ex c)(hxc':∀c σ,e' σ≠.ex c):PSs X (.If c [sa] [] pos::st2::rest) (loM B i as (WL.sSpoil3 i as t e e' s1)):=by intro pins s σV H D I⟨σ,F,F0,m,q⟩;refine cq (v8 hc (gx h1) kA) (cq h2 h3) pins s σV H D I ?_;obtain⟨Fa,Fr,w,v,e1,e2,sr,r,sm,fr⟩:=m.tl;have q:=Oq.ofR q;have q:Rq B σ F0 (t σ) fun b=>Oq B D F0 (WL.ofR σ (e (σ.set i .no)) fun _=>WL.ofR σ (e' (σ.set i .no)) fun _=>WL.lC i as s1 σ b σ[i]?):=q;refine⟨σ,F,m.rs,Rq.mono m.sub q fun b qb H1 F1 R1 g1=>?_⟩;have m1:=m.grow R1 g1;rw[e1]at qb;have qb:=Oq.ofR qb;cases ee:e (σ.set i .no)with|bad=>rw[ee]at qb;exact(show False from qb).elim|ex c=>exact(hxc c (σ.set i .no) ee).elim|ok we=>rw[ee]at qb;have qb:Oq B D F0 (WL.ofR σ (e' (σ.set i .no)) fun _=>WL.lC i as s1 σ b (some (.va w))):=qb;have qb:=Oq.ofR qb;cases ee':e' (σ.set i .no)with|bad=>rw[ee']at qb;exact(show False from qb).elim|ex c=>exact(hxc' c (σ.set i .no) ee').elim|ok we'=>rw[ee']at qb;have qb:Oq B D F0 (WL.lC i as s1 σ b (some (.va w))):=qb;cases w with
|lst xs=>
  unfold WL.lC at qb;dsimp only at qb;by_cases hh:WL.ar xs=true/\xs∉WL.aA as/\xs.length+1<WL.lim/\(b=true->∃us,WL.inner xs=some us/\us∉WL.aA as/\us.length+1<WL.lim);rotate_left;·rw[if_neg hh]at qb;exact(show False from qb).elim
  rw[if_pos hh]at qb;obtain⟨f1,n1,hz,hb⟩:=hh;simp only[RW]at r;obtain⟨a,vs,rfl,q1,r1⟩:=r;obtain⟨g1',g2',g3'⟩:=m.at hB hnl I sr sm fr q1 r1 f1 n1;have hH:H a=some (.lst vs):=m.rs.rb.sub _ _ (sr _ _ g1');have hl:vs.length<sizeLine:=by rw[<-r1.length];exact Nat.lt_of_lt_of_le (show xs.length<WL.lim by omega) bA
  have nw:∀{b:Addr},(∃o,F b=some o)->∀(j:Nat)(ws:List VW),(σ.set i .no)[j]?=some (Sl.ow ws)->σV[j]?≠some (some (V.ref b)):=fun{b}⟨o,eb⟩j ws ej hv=>by
   have hj:i≠j:=fun z=>by subst z;have hi:i<σ.length:=(List.getElem?_eq_some_iff.mp e1).1;rw[List.getElem?_set_self hi]at ej;cases ej
   rw[List.getElem?_set_ne hj]at ej;obtain⟨b',vs',h1',h2',_⟩:=m.rs.ow j ws ej;rw[hv]at h1';cases h1';rw[eb]at h2';cases h2'
  have nd:∀{b:Addr}{u:List V},H b=some (.lst u)->∀(j:Nat)(ks us:List VW),(σ.set i .no)[j]?=some (Sl.od ks us)->σV[j]?≠some (some (V.ref b)):=fun{b u}eb j ks us ej hv=>by obtain⟨b',_,h1',_,_,h4',_⟩:=m.old.dd.od j ks us ej;rw[hv]at h1';cases h1';rw[eb]at h4';cases h4'
  have fin:∀H2 F2,RS B (σ.set i .no) σV F2 H2->Same F0 F2->F2 a=none->H2 a=some (.lst vs)->lB (tBM X.K "list" rAppend (tVar i) (tCons (lo B e') tNil)) {D with nx:=fun σ' H'=>loS B s1 D σ' H'} σV H2:=fun H2 F2 R2 s2 n2 h2=>by refine⟨.ref a,e2,.inl ⟨rfl,vs,SqL.of h2⟩,σ.set i .no,F2,R2,?_⟩;rw[ee'];intro v' H3 F3 R3 g3 r3;refine⟨a,vs,v',rfl,rfl,g3.h _ _ h2,hl,σ.set i .no,F3,?_,Oq.mono (s2.trans g3.f) qb⟩;exact R3.away _ (g3.nf _ _ h2 n2) g3' (nw ⟨_,sr _ _ g1'⟩) (nd hH)
  have hH1:H1 a=some (.lst vs):=g1.h _ _ hH;cases b with|false=>exact fin H1 F0 m1.old (Same.refl _) g2' hH1|true=>
   obtain⟨us,hin,n2,hz2⟩:=hb rfl;obtain⟨ts,r0,rfl,hlast⟩:∃ts r0,xs=.tup ts::r0/\ts.getLast?=some (.lst us):=by match xs,hin with
 |.tup ts::r0,hin=>
     refine⟨ts,r0,rfl,?_⟩;have hin:(match ts.getLast? with|some (WL.W.lst us)=>some us|_=>none)=some us:=hin;split at hin;·rename_i us' hu;cases hin;exact hu
     ·cases hin
   have r1':=r1;simp only[RWs,RW]at r1';obtain⟨v0,vr,rfl,⟨p0,tvs,rfl,q2,r2⟩,r3⟩:=r1';obtain⟨vl,hvl,rl⟩:=aak r2 hlast;simp only[RW]at rl;obtain⟨a0,vs0,rfl,q3,r4⟩:=rl;have f2:WL.ar us=true:=by
    simp only[WL.ar,WL.aF,Bool.and_eq_true]at f1;have key:∀{l:List VW}{w:VW},WL.ar l=true->w∈l->WL.aF w=true:=fun{l}=>by induction l with|nil=>intro w _ h;nomatch h|cons x l ih=>
      intro w hf hm;simp only[WL.ar,Bool.and_eq_true]at hf;rcases List.mem_cons.mp hm with rfl|hm;·exact hf.1
      ·exact ih hf.2 hm
    have:=key f1.1 (List.mem_of_getLast? hlast);simpa only[WL.aF]using this
   obtain⟨k1,k2,k3⟩:=m.at hB hnl I sr sm fr q3 r4 f2 n2;have hH0:H a0=some (.lst vs0):=m.rs.rb.sub _ _ (sr _ _ k1);have ne:a≠a0:=fun z=>by subst z;rw[g1']at k1;cases k1;have e:=RWs.det I _ _ _ f1 f2 (hB▸(r1.keep sr).keep m.rs.rb.sub:RWs X.K H _ _) (hB▸(r4.keep sr).keep m.rs.rb.sub:RWs X.K H _ _);have h1:=congrArg sizeOf e;have h2:sizeOf (WL.W.lst us)<sizeOf ts:=List.sizeOf_lt_of_mem (List.mem_of_getLast? hlast);simp at h1 h2;omega
   have hl0:vs0.length<sizeLine:=by rw[<-r4.length];exact Nat.lt_of_lt_of_le (show us.length<WL.lim by omega) bA
   have sqT:SqT X.K H1 p0 tvs:=hB▸g1.h.tup (m.rs.rb.sub.tup (sr.tup q2));refine⟨.ref a,e2,a,_,0,.ref p0,rfl,rfl,SqL.of hH1,(by simp[L2.atI,L2.ixN]),σ.set i .no,F0,m1.old,?_⟩;intro v5 H5 F5 R5 g5 r5;have r5:v5=.int (-1):=by simpa only[RW]using r5
   subst r5;refine⟨p0,tvs,-1,.ref a0,rfl,rfl,g5.h.tup sqT,hvl,.inl ⟨rfl,vs0,SqL.of (g5.h _ _ (g1.h _ _ hH0))⟩,σ.set i .no,F5,R5,?_⟩;rw[ee];intro v6 H6 F6 R6 g6 r6;have h6:∀{b:Addr}{o:HO},H b=some o->H6 b=some o:=fun{b o}z=>g6.h _ _ (g5.h _ _ (g1.h _ _ z));have n6:∀{b:Addr}{o:HO},H b=some o->F0 b=none->F6 b=none:=fun{b o}z y=>g6.nf _ _ (g5.h _ _ (g1.h _ _ z)) (g5.nf _ _ (g1.h _ _ z) y);refine⟨a0,vs0,v6,rfl,rfl,h6 hH0,hl0,?_⟩;exact fin _ F6 (R6.away _ (n6 hH0 k2) k3 (nw ⟨_,sr _ _ k1⟩) (nd hH0)) (g5.f.trans g6.f) (n6 hH g2') (by rw[ae ne];exact h6 hH)
|_=>exact(show False from qb).elim
end
end WS
namespace WL
open PySem
noncomputable abbrev Fs:=List (W×List W)
inductive KO where|nx(σ:Ws)(fs:Fs)|rt(w:W)|bad
noncomputable abbrev KF:=Ws->Fs->KO
noncomputable def frW(p:W×List W):W:=.lst [p.1,.lst p.2]
noncomputable def gR(fs:Fs):W:=.lst (fs.reverse.map frW)
noncomputable def kO{α:Type}(r:Res α)(k:α->KO):KO:=match r with|.ok a=>k a|_=>.bad
noncomputable def aar(i:Nat)(e:EF):KF:=fun σ fs=>kO (e σ) fun w=>.nx (σ.set i (.va w)) fs
noncomputable def wZ(i k:Nat)(e:EF):KF:=fun σ fs=>kO (e σ) fun w=>match w with|.tup [x,y]=>.nx ((σ.set i (.va x)).set k (.va y)) fs|_=>.bad
noncomputable def kApp(i:Nat)(e:EF):KF:=fun σ fs=>match σ[i]? with|some (.ow ws)=>kO (e σ) fun w=>if ws.length<lim then .nx (σ.set i (.ow (ws++[w]))) fs else .bad|_=>.bad
noncomputable def agT(i:Nat)(l:LF):KF:=fun σ fs=>match σ[i]? with|some (.ow _)=>kO (l (frz i σ)) fun ws=>.nx (σ.set i (.ow ws)) fs|_=>.bad
noncomputable def kPut(e:EF):KF:=fun σ fs=>kO (e σ) fun w=>match fs with|(h,is)::r=>if is.length<lim then .nx σ ((h,is++[w])::r)else .bad|[]=>.bad
noncomputable def kPush(e:EF):KF:=fun σ fs=>kO (e σ) fun w=>if fs.length<lim then .nx σ ((w,[])::fs)else .bad
noncomputable def mj(a b:KF):KF:=fun σ fs=>match a σ fs with|.nx σ' fs'=>b σ' fs'|o=>o
noncomputable def kNx:KF:=fun σ fs=>.nx σ fs
noncomputable def kT(j:Nat)(t:TF)(σ:Ws)(fs:Fs):Res Bool:=t (σ.set j (.va (gR fs)))
noncomputable def kIf(j:Nat)(t:TF)(a b:KF):KF:=fun σ fs=>kO (kT j t σ fs) fun x=>match x with|true=>a σ fs|false=>b σ fs
noncomputable def uC(j:Nat)(s:SF):KF:=fun σ fs=>match s (σ.set j (.va (gR fs)))with|.rt w=>.rt w|_=>.bad
noncomputable def ml(i:Nat)(b:KF):Nat->Nat->Ws->Fs->KO|_,0,σ,fs=>.nx σ fs|k,n+1,σ,fs=>match b (σ.set i (.va (.int k))) fs with|.nx σ' fs'=>ml i b (k+1) n σ' fs'|o=>o
noncomputable def kFor(i:Nat)(e:EF)(b:KF):KF:=fun σ fs=>kO (e σ) fun w=>match w with|.int n=>if n<2^62/\-(2^62)<=n then ml i b 0 n.toNat σ fs else .bad|_=>.bad
noncomputable def wW(j:Nat)(t:TF)(b:KF):Nat->Ws->Fs->KO|0,_,_=>.bad|n+1,σ,fs=>kO (kT j t σ fs) fun x=>match x with|true=>(match b σ fs with|.nx σ' fs'=>wW j t b n σ' fs'|o=>o)|false=>.nx σ fs
noncomputable def kWh(j:Nat)(n:Nat)(t:TF)(b:KF):KF:=wW j t b n
noncomputable def agS(i k:Nat):KF:=fun σ fs=>match fs with|(h,is)::r=>.nx ((σ.set i (.va h)).set k (.va (.lst is))) r|[]=>.bad
noncomputable def mn:KF:=mj (agS 2 3) (mj (kPut (eOp fc (ah 2) (cT (aa (ah 3) aj)))) (mj (kApp 1 (eC (.str ")"))) kNx))
noncomputable def jg(i:Nat):KF:=fun σ fs=>match σ[i]? with|some (.ow ws)=>(match mn [.no,.ow ws,.no,.no] fs with|.nx [_,.ow ws',_,_] fs'=>.nx (σ.set i (.ow ws')) fs'|_=>.bad)|_=>.bad
end WL
namespace WL
noncomputable def aeT(i:Nat):KF:=fun σ fs=>.nx (σ.set i (.ow [])) fs
noncomputable def runK(n:Nat)(t:KF):List W->Res W|[c,nm]=>(match t (.va c::.va nm::List.replicate (n-2) .no) [(.tup [],[])]with|.rt w=>.ok w|_=>.bad)|_=>.bad
end WL
namespace WS
open PySem PySem.Spec PyProof.Rows L2
open WL(Res Sl Ws EF TF AF LF GF GsF SF Out Fs KO KF)
noncomputable def Frs(K:W.Frag)(F H:Hp):List (Addr×Addr)->Fs->Prop|[],[]=>True|(b,c)::r,(h,is)::fs=>(∃hv vs,H b=some (.lst [hv,.ref c])/\H c=some (.lst vs)/\RW K F h hv/\RWs K F is vs)/\Frs K F H r fs|_,_=>False
noncomputable def adr:List (Addr×Addr)->List Addr|[]=>[]|(b,c)::r=>b::c::adr r
structure Stk(B:Bx)(F H:Hp)(a:Addr)(r:List (Addr×Addr))(fs:Fs):Prop where
 top:H a=some (.lst (r.reverse.map fun p=>.ref p.1))frs:Frs B.K F H r fs
 nd:(a::adr r).Nodup
 own:∀x∈a::adr r,F x=none/\B.H0 x=none
theorem aal{α:Type}(l:List α)(v:α)(h:l.getLast?=some v):L2.atI l (-1)=some v:=by
 rw[List.getLast?_eq_getElem?]at h;have:l.length-1<l.length:=(List.getElem?_eq_some_iff.mp h).1;unfold L2.atI L2.ixN;have z:¬(0:Int)<=-1:=by decide
 have z2:-(l.length:Int)<=-1:=by omega
 rw[if_neg z,if_pos z2];show l[(-1+(l.length:Int)).toNat]?=some v;rw[show(-1+(l.length:Int)).toNat=l.length-1 by omega];exact h
section
variable{K:W.Frag}{F H F' H':Hp}
theorem Frs.len:∀{r:List (Addr×Addr)}{fs:Fs},Frs K F H r fs->r.length=fs.length|[],[],_=>rfl|(_,_)::r,(_,_)::fs,h=>by simp only[List.length_cons,Frs.len h.2]
theorem Frs.there:∀{r:List (Addr×Addr)}{fs:Fs},Frs K F H r fs->∀x∈adr r,∃l,H x=some (.lst l)
|[],_,_,x,hx=>nomatch hx|(b,c)::r,(h,is)::fs,q,x,hx=>by
 obtain⟨⟨hv,vs,h1,h2,_,_⟩,q2⟩:=q;simp only[adr,List.mem_cons]at hx;rcases hx with rfl|rfl|hx;·exact⟨_,h1⟩
 ·exact⟨_,h2⟩
 ·exact q2.there x hx
theorem Frs.via(s:Same F F'):∀{r:List (Addr×Addr)}{fs:Fs},(∀x∈adr r,∀o,H x=some o->H' x=some o)->Frs K F H r fs->Frs K F' H' r fs|[],[],_,_=>trivial|(b,c)::r,(h,is)::fs,k,q=>by obtain⟨⟨hv,vs,h1,h2,h3,h4⟩,q2⟩:=q;exact⟨⟨hv,vs,k b (by simp[adr]) _ h1,k c (by simp[adr]) _ h2,h3.keep s,h4.keep s⟩,q2.via s fun x hx=>k x (by simp[adr,hx])⟩
end
section
variable{B:Bx}{a:Addr}{r:List (Addr×Addr)}{fs:Fs}{F H F' H':Hp}
theorem Stk.there(S:Stk B F H a r fs):∀x∈a::adr r,∃l,H x=some (.lst l):=fun x hx=>by
 rcases List.mem_cons.mp hx with rfl|hx;·exact⟨_,S.top⟩
 ·exact S.frs.there x hx
theorem Stk.grow(S:Stk B F H a r fs)(g:Gr F H F' H'):Stk B F' H' a r fs:=⟨g.h _ _ S.top,S.frs.via g.f fun x _ o q=>g.h x o q,S.nd,fun x hx=>by obtain⟨l,hl⟩:=S.there x hx;exact⟨g.nf x _ hl (S.own x hx).1,(S.own x hx).2⟩⟩
theorem Stk.other(S:Stk B F H a r fs){x:Addr}(o:HO)(hx:x∉a::adr r):Stk B F (upd H x o) a r fs:=by have ne:∀y∈a::adr r,y≠x:=fun y hy z=>hx (z▸hy);refine⟨by rw[ae (ne a (by simp))];exact S.top,S.frs.via (Same.refl _) fun y hy u q=>?_,S.nd,S.own⟩;rw[ae (ne y (by simp[hy]))];exact q
structure RK(B:Bx)(j:Nat)(a:Addr)(g:List (Nat×Addr))(r:List (Addr×Addr))(fs:Fs)(σ:Ws)(σV:L2.St)(F H:Hp):Prop where
 rs:RS B σ σV F H
 no:σ[j]?=some .no
 at_:σV[j]?=some (some (.ref a))st:Stk B F H a r fs
 ap:∀(k:Nat)(ws:List VW)(x:Addr),σ[k]?=some (.ow ws)->σV[k]?=some (some (.ref x))->x∉a::adr r
 fx:∀p∈g,σV[p.1]?=some (some (.ref p.2))
variable{g:List (Nat×Addr)}{j:Nat}{σ:Ws}{σV:L2.St}
theorem RK.nd(R:RK B j a g r fs σ σV F H){x:Addr}(hx:x∈a::adr r)(k:Nat)(ks us:List VW)(e:σ[k]?=some (.od ks us)):σV[k]?≠some (some (.ref x)):=fun z=>by obtain⟨b,kvs,h1,_,_,h4,_⟩:=R.rs.dd.od k ks us e;obtain⟨l,hl⟩:=R.st.there x hx;rw[z]at h1;cases h1;rw[hl]at h4;cases h4
theorem RK.grow(R:RK B j a g r fs σ σV F H)(gr:Gr F H F' H')(R':RS B σ σV F' H'):RK B j a g r fs σ σV F' H':=⟨R',R.no,R.at_,R.st.grow gr,R.ap,R.fx⟩
theorem abL(S:Stk B F H a r fs)(s:Same F F')(k:∀x∈a::adr r,∀o,H x=some o->F' x=some o):RW B.K F' (WL.gR fs) (.ref a):=by
 have key:∀{r:List (Addr×Addr)}{fs:Fs},Frs B.K F H r fs->(∀x∈adr r,∀o,H x=some o->F' x=some o)->RWs B.K F' (fs.reverse.map WL.frW) (r.reverse.map fun p=>.ref p.1):=fun{r}=>by induction r with
 |nil=>intro fs h _;cases fs with|nil=>simp[RWs]|cons _ _=>exact h.elim
 |cons p r ih=>intro fs h hk;obtain⟨b,c⟩:=p;cases fs with|nil=>exact h.elim|cons q fs=>obtain⟨hd,is⟩:=q;obtain⟨⟨hv,vs,h1,h2,h3,h4⟩,h5⟩:=h;simp only[List.reverse_cons,List.map_append,List.map_cons,List.map_nil];refine(ih h5 fun x hx=>hk x (by simp[adr,hx])).app (RWs.one ?_);show RW B.K F' (.lst [hd,.lst is]) (.ref b);simp only[RW,RWs];exact⟨b,_,rfl,SqL.of (hk b (by simp[adr]) _ h1),hv,_,rfl,h3.keep s,.ref c,[],rfl,⟨c,vs,rfl,SqL.of (hk c (by simp[adr]) _ h2),h4.keep s⟩,rfl⟩
 unfold WL.gR;simp only[RW];exact⟨a,_,rfl,SqL.of (k a (by simp) _ S.top),key S.frs fun x hx=>k x (by simp[hx])⟩
open Classical in noncomputable def fzS(F H:Hp)(l:List Addr):Hp:=fun x=>if x∈l then H x else F x
theorem mx{l:List Addr}{x:Addr}(h:x∈l):fzS F H l x=H x:=if_pos h
theorem bW{l:List Addr}{x:Addr}(h:x∉l):fzS F H l x=F x:=if_neg h
theorem RK.frz(R:RK B j a g r fs σ σV F H):Same F (fzS F H (a::adr r))/\RS B (σ.set j (.va (WL.gR fs))) σV (fzS F H (a::adr r)) H:=by
 have s:Same F (fzS F H (a::adr r)):=fun x o q=>by rw[bW fun z=>by rw[(R.st.own x z).1]at q;cases q];exact q
 have rb:RB B (fzS F H (a::adr r)) H:=⟨fun x o q=>by
  by_cases hx:x∈a::adr r;·rw[mx hx]at q;exact q
  ·rw[bW hx]at q;exact R.rs.rb.sub x o q,R.rs.rb.base,R.rs.rb.fz0.trans s,fun x o q=>by
  by_cases hx:x∈a::adr r;·rw[mx hx]at q;obtain⟨l,hl⟩:=R.st.there x hx;rw[hl]at q;cases q;exact .inr ⟨(R.st.own x hx).2,trivial⟩
  ·rw[bW hx]at q;exact R.rs.rb.fr x o q⟩;refine⟨s,?_⟩;have R1:RS B σ σV (fzS F H (a::adr r)) H:=by
  refine⟨rb,R.rs.len,fun i w e=>?_,fun i ws e=>?_,R.rs.ap,R.rs.dd.via rfl id (fun _ _ z=>.inl z) (fun _ _ _ e=>⟨e,rfl⟩) s fun i ks us b kvs ei hv q1 q2 q3=>⟨?_,q3,q1⟩⟩;·obtain⟨v,h1,h2⟩:=R.rs.va i w e;exact⟨v,h1,h2.keep s⟩
  ·obtain⟨b,vs,h1,h2,h3,h4,h5⟩:=R.rs.ow i ws e;exact⟨b,vs,h1,by rw[bW (R.ap i ws b e h1)];exact h2,h3,h4,h5.keep s⟩
  ·rw[bW fun z=>R.nd z i ks us ei hv];exact q2
 have hj:σV.set j (some (.ref a))=σV:=by
  apply List.ext_getElem?;intro i;by_cases hi:j=i;·subst hi;rw[List.getElem?_set_self (List.getElem?_eq_some_iff.mp R.at_).1,R.at_]
  ·rw[List.getElem?_set_ne hi]
 have:=R1.set (i:=j) (w:=WL.gR fs) (v:=.ref a) (abL R.st s fun x hx o q=>by rw[mx hx];exact q);rw[hj]at this;exact this
theorem RK.back(R:RK B j a g r fs σ σV F H){σ':Ws}{F1 H1:Hp}(R1:RS B σ' σV F1 H1)(gg:Gr (fzS F H (a::adr r)) H F1 H1):∃F2,Gr F H F2 H1/\RK B j a g r fs σ σV F2 H1:=by
 refine⟨fun x=>@ite _ (x∈a::adr r) (Classical.propDecidable _) none (F1 x),?_⟩;have hin:∀{x:Addr},x∈a::adr r->(@ite _ (x∈a::adr r) (Classical.propDecidable _) none (F1 x))=none:=fun h=>if_pos h;have eo:∀{x:Addr},x∉a::adr r->(@ite _ (x∈a::adr r) (Classical.propDecidable _) none (F1 x))=F1 x:=fun h=>if_neg h;have g2:Gr F H (fun x=>@ite _ (x∈a::adr r) (Classical.propDecidable _) none (F1 x)) H1:=⟨fun x o q=>by
  have hx:x∉a::adr r:=fun z=>by rw[(R.st.own x z).1]at q;cases q
  show(@ite _ (x∈a::adr r) (Classical.propDecidable _) none (F1 x))=some o;rw[eo hx];exact gg.f x o (by rw[bW hx];exact q),gg.h,fun x o q n=>by
  by_cases hx:x∈a::adr r;·exact hin hx
  ·show(@ite _ (x∈a::adr r) (Classical.propDecidable _) none (F1 x))=none;rw[eo hx];exact gg.nf x o q (by rw[bW hx];exact n)⟩;have sub:Same (fun x=>@ite _ (x∈a::adr r) (Classical.propDecidable _) none (F1 x)) F1:=fun x o q=>by
  by_cases hx:x∈a::adr r;·rw[show(fun x=>@ite _ (x∈a::adr r) (Classical.propDecidable _) none (F1 x)) x=none from hin hx]at q;cases q
  ·rw[show(fun x=>@ite _ (x∈a::adr r) (Classical.propDecidable _) none (F1 x)) x=F1 x from eo hx]at q;exact q
 have rb:RB B (fun x=>@ite _ (x∈a::adr r) (Classical.propDecidable _) none (F1 x)) H1:=⟨sub.trans R1.rb.sub,R1.rb.base,R.rs.rb.fz0.trans g2.f,fun x o q=>R1.rb.fr x o (sub x o q)⟩;exact⟨g2,R.grow g2 (R.rs.grow g2 rb)⟩
end
end WS
namespace L2
open PySem PySem.Spec PyProof.Rows
section
variable{prog:Program}{w:World}{A:Around}{E:Value->Shared->Prop}
theorem mJ{it t:Addr}{items:Array Value}(hne:t≠it):∀(n i:Nat)(s:Shared)(Q:List Value->Shared->Prop),s.heap.IsListIter it t i->s.heap.IsList t items->i+n<=items.size->(∀h',h'.IsListIter it t (i+n)->Heap.SameBut it s.heap h'->Q ((items.toList.drop i).take n) {s with heap:=h'})->wpAny (model prog w) A (draw (.ref it) n) Q E s
|0,i,s,Q,hit,_,_,hQ=>by show wpAny _ _ (pure []) Q E s;exact wpAny_pure (by simpa using hQ s.heap hit (Heap.SameBut.refl ..))|n+1,i,s,Q,hit,ht,hle,hQ=>by
 have hlt:i<items.size:=by omega
 show wpAny _ _ (pyNext (.ref it)>>=_) Q E s;refine wpAny_bind (wpAny_pyNext_list_item hit ht (x:=items[i]) (by simp[hlt]) fun h₁ hit₁ hs₁=>?_);refine wpAny_bind (wpAny_holding (mJ hne n (i+1) _ _ hit₁ (ht.extBut hs₁.extBut hne) (by omega) fun h₂ hit₂ hs₂=>wpAny_pure ?_));have hd:items.toList.drop i=items[i]::items.toList.drop (i+1):=by simp[List.drop_eq_getElem_cons,hlt]
 have:=hQ h₂ (by rw[show i+(n+1)=i+1+n by omega];exact hit₂) (hs₁.trans hs₂);rw[hd,List.take_succ_cons]at this;exact this
theorem ip{s:Shared}{t:Addr}{items:Array Value}{Q:List Value->Shared->Prop}(hh:A.handled=none)(ht:s.heap.IsList t items)(hQ:∀h',Heap.ExtBut s.heap.objs.size s.heap h'->Q items.toList {s with heap:=h'}):wpAny (model prog w) A (unpackItems (.ref t) items.size none) Q E s:=by
 have hlt:t≠s.heap.objs.size:=by obtain⟨o,ho,_⟩:=ht;exact Nat.ne_of_lt (Heap.lt_size ho)
 unfold unpackItems;refine wpAny_bind ?_
 ·unfold notIterableAtAll;refine wpAny_bind (wpAny_specialOf ht.typeIs slot_list_iter.lookup ?_);refine wpAny_pure ?_;simp only[Bool.false_eq_true,if_false];refine wpAny_bind (wpAny_holding (wpAny_pyIter_list ht ?_));refine wpAny_bind (wpAny_holding (mJ hlt items.size 0 _ _ ⟨_,Heap.get?_push_size _ rfl,rfl,rfl⟩ (ht.push _) (by omega) fun h₁ hit₁ hs₁=>?_));have hall:List.take items.size (List.drop 0 items.toList)=items.toList:=by rw[List.drop_zero];exact List.take_of_length_le (by simp)
  rw[hall];rw[if_neg (by simp)];have ht₁:h₁.IsList t items:=(ht.push _).extBut hs₁.extBut hlt;refine wpAny_bind (wpAny_holding (wpAny_pyNext_list_end hh hit₁ ht₁ (by simp) fun h₂ he₂=>?_));simp only[Option.isSome_none,Bool.false_eq_true,if_false];refine wpAny_pure (hQ h₂ fun b o hb e=>he₂ b o hb (hs₁.extBut b o hb (Heap.get?_push_of_some _ e)))
theorem gJ{s:Shared}{env:Env}{elts:List Expr}{x1}{pos:Pos}{t:Addr}{items:Array Value}{Q:Unit->Shared->Prop}(hh:A.handled=none)(ht:s.heap.IsList t items)(hn:(assignEach elts env).length=items.size)(hstar:(assignEach elts env).findIdx? (·.1)=none)(h:∀h',Heap.ExtBut s.heap.objs.size s.heap h'->wpAny (model prog w) A (assignInOrder ((assignEach elts env).map (·.2)) items.toList) Q E {s with heap:=h'}):wpAny (model prog w) A (assign (.Tuple elts x1 pos) env (.ref t)) Q E s:=by rw[assign_Tuple];refine wpAny_bind (wpAny_standAt ?_);unfold unpack;rw[hn,hstar];exact wpAny_bind (wpAny_holding (ip hh ht h))
end
section
variable{X:Cx}{pos:Pos}
noncomputable def aip(K:W.Frag)(n:Nat)(t:TGs):TG:=fun v σ H Q=>∃a xs,v=.ref a/\SqL K H a xs/\xs.length=n/\t xs σ H Q
theorem acq{es:List Expr}{k:Nat}{t:TGs}{n:Nat}(hc:X.calm=true)(h:PGs X es t)(hn:(assignEach es X.env).length=n:=by rfl)(hst:(assignEach es X.env).findIdx? (·.1)=none:=by rfl):PG X (.Tuple es k pos) (aip X.K n t):=by intro pins s σ H v u Q I r hw;obtain⟨a,xs,e1,hq,hl,hw⟩:=hw;subst e1;cases r;obtain⟨its,rv,ht,hz⟩:=I.list hq;refine gJ (I.ok.hd hc) ht.isList (by simp[hn,<-hl,rv.length]) hst fun h' hx=>?_;have I1:Inv X pins σ H {s with heap:=h'}:=I.kept (t':=s.toks) fun b o e=>hx b o (Nat.ne_of_lt (Heap.lt_size e)) e;exact h pins _ σ H xs _ Q I1 (by simpa using rv) hw
end
end L2
namespace WS
open PySem PySem.Spec PyProof.Rows L2
open WL(Res Sl Ws EF TF AF LF GF GsF SF Out Fs KO KF)
noncomputable def OqK(B:Bx)(j:Nat)(a:Addr)(g:List (Nat×Addr))(D:Ends)(F:Hp):KO->Prop|.nx σ' fs'=>∀σV' H' F' r',RK B j a g r' fs' σ' σV' F' H'->Same F F'->D.nx σV' H'|.rt w=>∀v H' F',RB B F' H'->Same F F'->RW B.K F' w v->D.rt v H'|.bad=>False
noncomputable def loK(B:Bx)(j:Nat)(a:Addr)(g:List (Nat×Addr))(t:KF):TS:=fun D σV H=>∃σ F r fs,RK B j a g r fs σ σV F H/\OqK B j a g D F (t σ fs)
section
variable{B:Bx}{g:List (Nat×Addr)}{j:Nat}{a:Addr}{r:List (Addr×Addr)}{fs:Fs}{σ:Ws}{σV:L2.St}{F H F' H':Hp}{D:Ends}
theorem OqK.mono(s:Same F F'){o:KO}(h:OqK B j a g D F o):OqK B j a g D F' o:=by cases o with|nx σ fs=>exact fun σV H G r R z=>h σV H G r R (s.trans z)|rt w=>exact fun v H G R z=>h v H G R (s.trans z)|bad=>exact h
theorem OqK.kO{α:Type}{x:Res α}{k:α->KO}(h:OqK B j a g D F (WL.kO x k)):∃w,x=.ok w/\OqK B j a g D F (k w):=by cases x with|ok w=>exact⟨w,rfl,h⟩|ex c=>exact(show False from h).elim|bad=>exact(show False from h).elim
theorem yx{g:List (Nat×Addr)}{σV:L2.St}{i:Nat}{v:Option V}(h:∀p∈g,σV[p.1]?=some (some (.ref p.2)))(hg:∀p∈g,p.1≠i):∀p∈g,(σV.set i v)[p.1]?=some (some (.ref p.2)):=fun p hp=>by rw[List.getElem?_set_ne (Ne.symm (hg p hp))];exact h p hp
theorem RK.set(R:RK B j a g r fs σ σV F H){i:Nat}{w:VW}{v:V}(hi:i≠j)(hg:∀p∈g,p.1≠i)(hw:RW B.K F w v):RK B j a g r fs (σ.set i (.va w)) (σV.set i (some v)) F H:=by
 refine⟨R.rs.set hw,by rw[List.getElem?_set_ne hi];exact R.no,by rw[List.getElem?_set_ne hi];exact R.at_,R.st,fun k ws x e1 e2=>?_,yx R.fx hg⟩;by_cases hk:i=k
 ·subst hk;have hl:i<σ.length:=by have:=(List.getElem?_eq_some_iff.mp e1).1;simpa using this
  rw[List.getElem?_set_self hl]at e1;cases e1
 ·rw[List.getElem?_set_ne hk]at e1 e2;exact R.ap k ws x e1 e2
theorem RK.abP(R:RK B j a g r fs σ σV F H){i:Nat}{ws:List VW}{vs:List V}{p:Addr}(hi:i≠j)(hg:∀p∈g,p.1≠i)(hF:F p=none)(h0:B.H0 p=none)(hH:H p=some (.lst vs))(hw:RWs B.K F ws vs)(hn:∀(k:Nat)(us:List VW),k≠i->σ[k]?=some (.ow us)->σV[k]?≠some (some (.ref p)))(hp:p∉a::adr r):RK B j a g r fs (σ.set i (.ow ws)) (σV.set i (some (.ref p))) F H:=by
 refine⟨R.rs.abP hF h0 hH hw hn,by rw[List.getElem?_set_ne hi];exact R.no,by rw[List.getElem?_set_ne hi];exact R.at_,R.st,fun k ws' x e1 e2=>?_,yx R.fx hg⟩;by_cases hk:i=k
 ·subst hk;have hl:i<σV.length:=by have:=(List.getElem?_eq_some_iff.mp e2).1;simpa using this
  rw[List.getElem?_set_self hl]at e2;cases e2;exact hp
 ·rw[List.getElem?_set_ne hk]at e1 e2;exact R.ap k ws' x e1 e2
end
section
variable{B:Bx}{l:List Addr}{σ:Ws}{σV:L2.St}{F H F' H':Hp}
noncomputable abbrev ae8(B:Bx)(H:Hp)(l:List Addr):Bx:=⟨B.K,fzS B.H0 H l,B.F0,B.xp,B.mono⟩
theorem RS.inS(R:RS B σ σV F H)(hl:∀x∈l,F x=none)(ap:∀(k:Nat)(ws:List VW)(x:Addr),σ[k]?=some (.ow ws)->σV[k]?=some (some (.ref x))->x∉l)(ad:∀x∈l,∀(k:Nat)(ks us:List VW),σ[k]?=some (.od ks us)->σV[k]?≠some (some (.ref x))):RS (ae8 B H l) σ σV F H:=by
 refine⟨⟨R.rb.sub,fun x o q=>?_,R.rb.fz0,fun x o q=>?_⟩,R.len,R.va,fun k ws e=>?_,R.ap,R.dd.via rfl id (fun _ _ z=>.inl z) (fun _ _ _ e=>⟨e,rfl⟩) (Same.refl _) fun k ks us b kvs ek hv q1 q2 q3=>⟨q2,?_,q1⟩⟩
 ·have q:fzS B.H0 H l x=some o:=q;by_cases hx:x∈l;·rw[mx hx]at q;exact q
  ·rw[bW hx]at q;exact R.rb.base x o q
 ·rcases R.rb.fr x o q with z|z;·exact .inl z
  ·refine .inr ⟨?_,z.2⟩;show fzS B.H0 H l x=none;rw[bW fun hx=>by rw[hl x hx]at q;cases q];exact z.1
 ·obtain⟨b,vs,h1,h2,h3,h4,h5⟩:=R.ow k ws e;refine⟨b,vs,h1,h2,?_,h4,h5⟩;show fzS B.H0 H l b=none;rw[bW (ap k ws b e h1)];exact h3
 ·show fzS B.H0 H l b=none;rw[bW fun hx=>ad b hx k ks us ek hv];exact q3
theorem RS.ai0(R:RS (ae8 B H l) σ σV F' H')(hl:∀x∈l,B.H0 x=none)(hH:∀x∈l,∃o,H x=some o):RS B σ σV F' H':=by
 have n:∀{x:Addr},fzS B.H0 H l x=none->B.H0 x=none:=fun{x}z=>by
  by_cases hx:x∈l;·exact hl x hx
  ·rw[bW hx]at z;exact z
 refine⟨⟨R.rb.sub,fun x o q=>?_,R.rb.fz0,fun x o q=>?_⟩,R.len,R.va,fun k ws e=>?_,R.ap,R.dd.via rfl id (fun _ _ z=>.inl z) (fun _ _ _ e=>⟨e,rfl⟩) (Same.refl _) fun k ks us b kvs ek hv q1 q2 q3=>⟨q2,n q3,q1⟩⟩;·refine R.rb.base x o (show fzS B.H0 H l x=some o from ?_);rw[bW fun hx=>by rw[hl x hx]at q;cases q];exact q
 ·rcases R.rb.fr x o q with z|z;·exact .inl z
  ·exact .inr ⟨n z.1,z.2⟩
 ·obtain⟨b,vs,h1,h2,h3,h4,h5⟩:=R.ow k ws e;exact⟨b,vs,h1,h2,n h3,h4,h5⟩
theorem acC(hH:∀x∈l,∃o,H x=some o){x:Addr}(h:fzS B.H0 H l x=none):x∉l:=fun hx=>by obtain⟨o,ho⟩:=hH x hx;rw[mx hx,ho]at h;cases h
end
section
variable{X:Cx}{B:Bx}{g:List (Nat×Addr)}{j i k:Nat}{a:Addr}{e c:Expr}{te:EF}{x y:Str}{pos pos' pos'' cpos:Pos}{t1 t2:KF}{tt:TF}{st:Stmt}{rest ss ss':List Stmt}
theorem yp(hN:X.N.Nodup)(he:PE X e (lo B te))(hg:∀p∈g,p.1≠i:=by simp)(hij:i≠j:=by decide)(hi:X.N[i]?=some x:=by rfl)(hx:Loc X.env.scope x:=by first|exact Or.inl rfl|exact Or.inr rfl)(hs:swapsWith e (some (.Name x pos')) pos.line X.env=pure false:=by rfl)(hf:X.fn x=true\/X.env.scope.names.lookup x=some .local:=by first|exact .inl rfl|exact .inr rfl|assumption):PS X (.Assign [.Name x pos'] e pos) (loK B j a g (WL.aar i te)):=PS.imp (fW hN hi hx he hs hf) fun D σV H⟨σ,F,r,fs,R,q⟩=>by obtain⟨w,ew,q⟩:=OqK.kO q;refine⟨σ,F,R.rs,?_⟩;rw[ew];exact fun v H1 F1 R1 g1 r1=>(show∀σV' H' F' r',_ from q) _ H1 F1 r ((R.grow g1 R1).set hij hg r1) g1.f
theorem aao(hB:B.K=X.K)(h:PS X st (xY (lo B te) (L2.vy X.K 2 (L2.dW (L2.ay i) (L2.dW (L2.ay k) L2.uP)))))(hg:∀p∈g,p.1≠i:=by simp)(hgk:∀p∈g,p.1≠k:=by simp)(hij:i≠j:=by decide)(hkj:k≠j:=by decide):PS X st (loK B j a g (WL.wZ i k te)):=PS.imp h fun D σV H⟨σ,F,r,fs,R,q⟩=>by
 obtain⟨w,ew,q⟩:=OqK.kO q;refine⟨σ,F,R.rs,?_⟩;rw[ew];intro v H1 F1 R1 g1 r1;have key:∀u z,w=.tup [u,z]->OqK B j a g D F (.nx ((σ.set i (.va u)).set k (.va z)) fs)->L2.vy X.K 2 (L2.dW (L2.ay i) (L2.dW (L2.ay k) L2.uP)) v σV H1 D.nx:=fun u z e q=>by subst e;simp only[RW,RWs]at r1;obtain⟨p,vs,rfl,sq,v1,t1,rfl,h1,v2,t2,rfl,h2,rfl⟩:=r1;refine⟨p,_,rfl,hB▸R1.rb.sub.tup sq,rfl,v1,_,rfl,v2,_,rfl,rfl,?_⟩;exact(show∀σV' H' F' r',_ from q) _ H1 F1 r (((R.grow g1 R1).set hij hg h1).set hkj hgk h2) g1.f
 clear r1 ew;revert q;split;·exact fun q=>key _ _ rfl q
 ·exact fun q=>(show False from q).elim
theorem kk_app(h:PS X st (lB (tBM X.K "list" rAppend (tVar i) (tCons (lo B te) tNil))))(hij:i≠j:=by decide):PS X st (loK B j a g (WL.kApp i te)):=PS.imp h fun D σV H⟨σ,F,r,fs,R,q⟩=>by have q:OqK B j a g D F (match σ[i]? with|some (.ow ws)=>WL.kO (te σ) fun w=>if ws.length<WL.lim then .nx (σ.set i (.ow (ws++[w]))) fs else .bad|_=>.bad):=q;cases e':σ[i]? with
|none=>rw[e']at q;exact(show False from q).elim
|some sl=>rw[e']at q;cases sl with|ow ws=>
   obtain⟨p,vs,h1,h2,h3,h4,h5⟩:=R.rs.ow i ws e';obtain⟨w,ew,q⟩:=OqK.kO (show OqK B j a g D F (WL.kO (te σ) fun w=>if ws.length<WL.lim then .nx (σ.set i (.ow (ws++[w]))) fs else .bad)from q);refine⟨.ref p,h1,.inl ⟨rfl,vs,SqL.of h4⟩,σ,F,R.rs,?_⟩;rw[ew];intro v H1 F1 R1 g1 r1;by_cases hz:ws.length<WL.lim
   ·rw[if_pos hz]at q;have hH:=g1.h p _ h4;have hp:=R.ap i ws p e' h1;have hl:=h5.length;refine⟨p,vs,v,rfl,rfl,hH,by rw[<-hl];exact Nat.lt_of_lt_of_le hz bA,?_⟩;have R2:=R.grow g1 R1;refine(show∀σV' H' F' r',_ from q) σV _ F1 r ⟨R1.write e' h1 (g1.nf p _ h4 h2) h3 hH ((h5.keep g1.f).app (.one r1)),by rw[List.getElem?_set_ne hij];exact R.no,R.at_,R2.st.other _ hp,fun k ws' z e1 e2=>?_,R.fx⟩ g1.f;by_cases hk:i=k;·subst hk;rw[h1]at e2;cases e2;exact hp
    ·rw[List.getElem?_set_ne hk]at e1;exact R.ap k ws' z e1 e2
   ·rw[if_neg hz]at q;exact(show False from q).elim|_=>exact(show False from q).elim
theorem uv(hB:B.K=X.K)(h:PS X st (lB (tBM X.K "list" rAppend (tOp (rIxL X.K) (tOp (rIxL X.K) (tVar j) (lo B (WL.eUn WL.oNeg (WL.eC (.int 1))))) (tC (.int 1))) (tCons (lo B te) tNil)))):PS X st (loK B j a g (WL.kPut te)):=PS.imp h fun D σV H⟨σ,F,r,fs,R,q⟩=>by obtain⟨w,ew,q⟩:=OqK.kO q;cases fs with|nil=>exact(show False from q).elim|cons p fs=>
 obtain⟨hd,is⟩:=p;have q:OqK B j a g D F (if is.length<WL.lim then .nx σ ((hd,is++[w])::fs)else .bad):=q;by_cases hz:is.length<WL.lim;rotate_left;·rw[if_neg hz]at q;exact(show False from q).elim
 rw[if_pos hz]at q;refine⟨.ref a,R.at_,σ,F,R.rs,fun v0 H0 F0 R0 g0 r0=>?_⟩;have r0:v0=.int (-1):=by simpa only[RW]using r0
 subst r0;have S0:=R.st.grow g0;cases r with|nil=>exact S0.frs.elim|cons bc r=>
   obtain⟨b,c⟩:=bc;have S0':=S0.frs;obtain⟨⟨hv,vs,h1,h2,h3,h4⟩,h5⟩:=S0';have hlast:L2.atI (((b,c)::r).reverse.map fun p:Addr×Addr=>V.ref p.1) (-1)=some (.ref b):=by have:=aal (((b,c)::r).reverse.map fun p:Addr×Addr=>V.ref p.1) (.ref b) (by simp);exact this
   refine⟨a,_,-1,.ref b,rfl,rfl,SqL.of S0.top,hlast,b,_,1,.ref c,rfl,rfl,SqL.of h1,(by simp[L2.atI,L2.ixN]),.inl ⟨rfl,vs,SqL.of h2⟩,σ,F0,R0,?_⟩;rw[ew];intro v H1 F1 R1 g1 r1;have hc:c∈a::adr ((b,c)::r):=by simp[adr]
   have S1:=S0.grow g1;have nd:=S1.nd;refine⟨c,vs,v,rfl,rfl,g1.h _ _ h2,by rw[<-h4.length];exact Nat.lt_of_lt_of_le hz bA,?_⟩;have ne:∀y∈a::b::adr r,y≠c:=fun y hy z=>by
    subst z;simp only[adr,List.nodup_cons,List.mem_cons]at nd;simp only[List.mem_cons]at hy;rcases hy with rfl|rfl|hy;·exact nd.1 (.inr (.inl rfl))
    ·exact nd.2.1 (.inl rfl)
    ·exact nd.2.2.1 hy
   have Rg:=(R.grow g0 R0).grow g1 R1;refine(show∀σV' H' F' r',_ from q) σV _ F1 ((b,c)::r) ⟨R1.away _ (S1.own c hc).1 (S1.own c hc).2 (fun k ws e1 e2=>Rg.ap k ws c e1 e2 hc) (fun k ks us e1=>Rg.nd hc k ks us e1),R.no,R.at_,⟨?_,⟨⟨hv,vs++[v],?_,ag,h3.keep g1.f,(h4.keep g1.f).app (.one r1)⟩,?_⟩,S1.nd,S1.own⟩,R.ap,R.fx⟩ (g0.f.trans g1.f);·rw[ae (ne a (by simp))];exact S1.top
   ·rw[ae (ne b (by simp))];exact g1.h _ _ h1
   ·exact S1.frs.2.via (Same.refl _) fun y hy o z=>by rw[ae (ne y (by simp[hy]))];exact z
theorem aan(hB:B.K=X.K)(h:PS X st (lB (tBM X.K "list" rAppend (tVar j) (tCons (tLst (tCons (lo B te) (tCons (tLst tNil) tNil))) tNil)))):PS X st (loK B j a g (WL.kPush te)):=PS.imp h fun D σV H⟨σ,F,r,fs,R,q⟩=>by
 obtain⟨w,ew,q⟩:=OqK.kO q;have q:OqK B j a g D F (if fs.length<WL.lim then .nx σ ((w,[])::fs)else .bad):=q;by_cases hz:fs.length<WL.lim;rotate_left;·rw[if_neg hz]at q;exact(show False from q).elim
 rw[if_pos hz]at q;refine⟨.ref a,R.at_,.inl ⟨rfl,_,SqL.of R.st.top⟩,σ,F,R.rs,?_⟩;rw[ew];intro v H1 F1 R1 g1 r1;refine⟨by decide,fun p hp=>⟨show 2<=sizeLine by decide,fun p2 hp2=>?_⟩⟩;have S1:=R.st.grow g1;have Rg:=R.grow g1 R1;have pn2:p≠p2:=fun z=>by rw[<-z,ag]at hp2;cases hp2
 have hp2':H1 p2=none:=by rw[ae (Ne.symm pn2)]at hp2;exact hp2
 have out:∀y∈a::adr r,y≠p/\y≠p2:=fun y hy=>by obtain⟨l,hl⟩:=S1.there y hy;exact⟨fun z=>(by rw[z,hp]at hl;cases hl),fun z=>(by rw[z,hp2']at hl;cases hl)⟩
 have na:∀y∈adr r,y≠a:=fun y hy z=>by have:=S1.nd;rw[List.nodup_cons]at this;exact this.1 (z▸hy)
 have ha:=out a (by simp);have hlen:(r.reverse.map fun p:Addr×Addr=>V.ref p.1).length<sizeLine:=by rw[List.length_map,List.length_reverse,S1.frs.len];exact Nat.lt_of_lt_of_le hz bA
 refine⟨a,_,.ref p2,rfl,rfl,(by rw[ae ha.2,ae ha.1];exact S1.top),hlen,?_⟩;have f1:F1 p=none/\B.H0 p=none:=⟨R1.rb.sub.free hp,R1.rb.base.free hp⟩;have f2:F1 p2=none/\B.H0 p2=none:=⟨R1.rb.sub.free hp2',R1.rb.base.free hp2'⟩;have R2:=(R1.wA hp (.lst [])).wA hp2 (.lst [v,.ref p]);have old:∀y∈adr r,∀o,H1 y=some o->upd (upd (upd H1 p (.lst [])) p2 (.lst [v,.ref p])) a (.lst ((r.reverse.map fun p:Addr×Addr=>V.ref p.1)++[.ref p2])) y=some o:=fun y hy o z=>by rw[ae (na y hy),ae (out y (by simp[hy])).2,ae (out y (by simp[hy])).1];exact z
 refine(show∀σV' H' F' r',_ from q) σV _ F1 ((p2,p)::r) ⟨R2.away _ (S1.own a (by simp)).1 (S1.own a (by simp)).2 (fun k ws e1 e2=>Rg.ap k ws a e1 e2 (by simp)) (fun k ks us e1=>Rg.nd (by simp) k ks us e1),R.no,R.at_,⟨?_,⟨⟨v,[],?_,?_,r1,by simp[RWs]⟩,S1.frs.via (Same.refl _) old⟩,?_,?_⟩,fun k ws x e1 e2=>?_,R.fx⟩ g1.f;·rw[ag];simp
 ·rw[ae (Ne.symm ha.2),ag]
 ·rw[ae (Ne.symm ha.1),ae pn2,ag]
 ·simp only[adr,List.nodup_cons,List.mem_cons,not_or];have nd:=S1.nd;rw[List.nodup_cons]at nd;exact⟨⟨ha.2,ha.1,nd.1⟩,⟨Ne.symm pn2,fun z=>(out p2 (by simp[z])).2 rfl⟩,fun z=>(out p (by simp[z])).1 rfl,nd.2⟩
 ·intro y hy;simp only[adr,List.mem_cons]at hy;rcases hy with rfl|rfl|rfl|hy;·exact S1.own y (by simp)
  ·exact f2
  ·exact f1
  ·exact S1.own y (by simp[hy])
 ·have hx:=Rg.ap k ws x e1 e2;obtain⟨b,zs,h1,_,_,h4,_⟩:=R1.ow k ws e1;rw[e2]at h1;cases h1;simp only[adr,List.mem_cons,not_or]at hx⊢;exact⟨hx.1,fun z=>(by rw[z,hp2']at h4;cases h4),fun z=>(by rw[z,hp]at h4;cases h4),hx.2⟩
theorem adl{l:LF}(hB:B.K=X.K)(hN:X.N.Nodup)(he:∀B':Bx,B'.K=X.K->PE X e (loL B' l))(hg:∀p∈g,p.1≠i:=by simp)(hij:i≠j:=by decide)(hi:X.N[i]?=some x:=by rfl)(hx:Loc X.env.scope x:=by first|exact Or.inl rfl|exact Or.inr rfl)(hs:swapsWith e (some (.Name x pos')) pos.line X.env=pure false:=by rfl)(hf:X.fn x=true\/X.env.scope.names.lookup x=some .local:=by first|exact .inl rfl|exact .inr rfl|assumption):PS X (.Assign [.Name x pos'] e pos) (loK B j a g (WL.agT i l)):=by
 intro pins s σV H D I⟨σ,F,r,fs,R,q⟩;refine fW hN hi hx (he (ae8 B H (a::adr r)) hB) hs hf pins s σV H D I ?_
 have q:OqK B j a g D F (match(σ[i]?:Option Sl)with|some (.ow _)=>WL.kO (l (WL.frz i σ)) fun ws=>.nx (σ.set i (.ow ws)) fs|_=>.bad):=q;cases e0:σ[i]? with|none=>rw[e0]at q;exact(show False from q).elim|some sl=>rw[e0]at q;cases sl with|ow ws0=>
  obtain⟨ws,ew,q⟩:=OqK.kO (show OqK B j a g D F (WL.kO (l (WL.frz i σ)) fun ws=>.nx (σ.set i (.ow ws)) fs)from q);obtain⟨F1,s1,R1,cs⟩:=R.rs.frz i;have there:∀x∈a::adr r,∃o,H x=some o:=fun x hx=>by obtain⟨l',hl'⟩:=R.st.there x hx;exact⟨_,hl'⟩
  have fset:∀sl',(WL.frz i σ).set i sl'=σ.set i sl':=fun sl'=>by
   rcases cs with⟨_,z⟩|⟨b,o,w,_,_,_,z,_⟩;·rw[z]
   ·rw[z,List.set_set]
  have fne:∀m:Nat,i≠m->(WL.frz i σ)[m]?=σ[m]?:=fun m hm=>by
   rcases cs with⟨_,z⟩|⟨b,o,w,_,_,_,z,_⟩;·rw[z]
   ·rw[z,List.getElem?_set_ne hm]
  have S1:Stk B F1 H a r fs:=⟨R.st.top,R.st.frs.via s1 fun _ _ _ z=>z,R.st.nd,fun y hy=>⟨by
   rcases cs with⟨z,_⟩|⟨b,o,w,z,_,_,hw,hb,_⟩;·rw[z];exact(R.st.own y hy).1
   ·rw[z,ae (fun z2:y=b=>R.ap i ws0 b e0 hb (z2▸hy))];exact(R.st.own y hy).1,(R.st.own y hy).2⟩⟩;have apf:∀(m:Nat)(ws':List VW)(x:Addr),(WL.frz i σ)[m]?=some (.ow ws')->σV[m]?=some (some (.ref x))->x∉a::adr r:=fun m ws' x e1 e2=>by
   by_cases hm:i=m
   ·subst hm;have hil:=(List.getElem?_eq_some_iff.mp e0).1;rcases cs with⟨_,z⟩|⟨b,o,w,_,_,_,z,_⟩;·exact R.ap i ws' x (z▸e1) e2
    ·rw[z,List.getElem?_set_self hil]at e1;cases e1
   ·rw[fne m hm]at e1;exact R.ap m ws' x e1 e2
  have Ri:RS (ae8 B H (a::adr r)) (WL.frz i σ) σV F1 H:=R1.inS (fun x hx=>(S1.own x hx).1) apf fun x hx m ks us e1 e2=>by obtain⟨b,kvs,h1,_,_,h4,_⟩:=R1.dd.od m ks us e1;obtain⟨l',hl'⟩:=R.st.there x hx;rw[e2]at h1;cases h1;rw[hl']at h4;cases h4
  refine⟨WL.frz i σ,F1,Ri,?_⟩;rw[ew];intro p vs H2 F2 R2' g2 hF h0' hH r2 hn;have R2:RS B (WL.frz i σ) σV F2 H2:=R2'.ai0 (fun x hx=>(R.st.own x hx).2) there;have hp:p∉a::adr r:=acC there h0';have h0:B.H0 p=none:=by have z:fzS B.H0 H (a::adr r) p=none:=h0';rw[bW hp]at z;exact z
  have S2:=S1.grow g2;have R3:RK B j a g r fs (WL.frz i σ) σV F2 H2:=⟨R2,by rw[fne j hij];exact R.no,R.at_,S2,apf,R.fx⟩;have R4:=R3.abP hij hg hF h0 hH r2 (fun m us _ z=>hn m us z) hp;rw[fset]at R4;exact(show∀σV' H' F' r',_ from q) _ H2 F2 r R4 (s1.trans g2.f)|_=>exact(show False from q).elim
end
end WS
namespace WS
open PySem PySem.Spec PyProof.Rows L2
open WL(Res Sl Ws EF TF AF LF GF GsF SF Out Fs KO KF)
section
variable{X:Cx}{B:Bx}{g:List (Nat×Addr)}{j i k n:Nat}{a:Addr}{e c:Expr}{te:EF}{x y:Str}{pos pos' pos'' cpos:Pos}{t1 t2 b:KF}{tt:TF}{st:Stmt}{rest ss ss':List Stmt}{s1:SF}
theorem kk_nil:PSs X [] (loK B j a g WL.kNx):=PSs.imp kA fun D σV H⟨σ,F,r,fs,R,q⟩=>(show∀σV' H' F' r',_ from q) σV H F r R (Same.refl _)
theorem kk_seq(h1:PS X st (loK B j a g t1))(h2:PSs X rest (loK B j a g t2)):PSs X (st::rest) (loK B j a g (WL.mj t1 t2)):=PSs.imp (cq h1 h2) fun D σV H⟨σ,F,r,fs,R,q⟩=>by refine⟨σ,F,r,fs,R,?_⟩;have q:OqK B j a g D F (match t1 σ fs with|.nx σ' fs'=>t2 σ' fs'|o=>o):=q;cases e1:t1 σ fs with|nx σ' fs'=>rw[e1]at q;exact fun σV' H' F' r' R' s'=>⟨σ',F',r',fs',R',OqK.mono s' q⟩|rt w=>rw[e1]at q;exact q|bad=>rw[e1]at q;exact q
theorem ia(h:PS X st (loK B j a g t1)):PSs X [st] (loK B j a g t1):=gx h
theorem ail{D:Bool->Hp->Prop}{σV:L2.St}{H F:Hp}{σ:Ws}{r:List (Addr×Addr)}{fs:Fs}{v:Bool}(R:RK B j a g r fs σ σV F H)(e:WL.kT j tt σ fs=.ok v)(h:∀H1 F1,Gr F H F1 H1->RK B j a g r fs σ σV F1 H1->D v H1):loT B tt σV H D:=by obtain⟨s,R1⟩:=R.frz;refine⟨_,_,R1,?_⟩;rw[show tt (σ.set j (.va (WL.gR fs)))=.ok v from e];intro H1 F1 R2 gg;obtain⟨F2,g2,R3⟩:=R.back R2 gg;exact h H1 F2 g2 R3
theorem wV(hc:PT X c (loT B tt))(ha:PSs X ss (loK B j a g t1))(hb:PSs X ss' (loK B j a g t2)):PS X (.If c ss ss' pos) (loK B j a g (WL.kIf j tt t1 t2)):=PS.imp (v8 hc ha hb) fun D σV H⟨σ,F,r,fs,R,q⟩=>by obtain⟨v,ev,q⟩:=OqK.kO q;refine ail R ev fun H1 F1 g1 R1=>?_;cases v with|true=>rw[if_pos rfl];exact⟨σ,F1,r,fs,R1,OqK.mono g1.f q⟩|false=>rw[if_neg Bool.false_ne_true];exact⟨σ,F1,r,fs,R1,OqK.mono g1.f q⟩
theorem aam(h:PSs X ss (loS B s1)):PSs X ss (loK B j a g (WL.uC j s1)):=PSs.imp h fun D σV H⟨σ,F,r,fs,R,q⟩=>by obtain⟨s,R1⟩:=R.frz;refine⟨_,_,R1,?_⟩;have q:OqK B j a g D F (match s1 (σ.set j (.va (WL.gR fs)))with|.rt w=>.rt w|_=>.bad):=q;cases e1:s1 (σ.set j (.va (WL.gR fs)))with|rt w=>rw[e1]at q;exact fun v H' F' rb s' rw'=>q v H' F' rb (s.trans s') rw'|nx _=>rw[e1]at q;exact(show False from q).elim|bk _=>rw[e1]at q;exact(show False from q).elim|ct _=>rw[e1]at q;exact(show False from q).elim|ex _ _=>rw[e1]at q;exact(show False from q).elim|bad=>rw[e1]at q;exact(show False from q).elim
theorem wU(hp:PassesOwn (model X.prog X.w) X.A X.env X.xe)(hc:PT X c (loT B tt))(hb:PSs X ss (loK B j a g b)):PS X (.While c ss [] pos) (loK B j a g (WL.kWh j n tt b)):=PS.imp (pE hp hc hb) fun D σV H⟨σ,F,r,fs,R,q⟩=>by refine⟨fun m σV' H'=>∃σ' F' r' fs',RK B j a g r' fs' σ' σV' F' H'/\OqK B j a g D F' (WL.wW j tt b m σ' fs'),⟨n,σ,F,r,fs,R,q⟩,?_⟩;rintro m σV' H'⟨σ',F',r',fs',R',q'⟩;cases m with|zero=>exact(show False from q').elim|succ m=>obtain⟨v,ev,q'⟩:=OqK.kO (show OqK B j a g D F' (WL.kO (WL.kT j tt σ' fs') fun x=>match x with|true=>(match b σ' fs' with|.nx σ2 fs2=>WL.wW j tt b m σ2 fs2|o=>o)|false=>.nx σ' fs')from q');refine ail R' ev fun H1 F1 g1 R1=>?_;cases v with|false=>rw[if_neg Bool.false_ne_true];exact(show∀σV' H' F' r',_ from q') σV' H1 F1 r' R1 g1.f|true=>rw[if_pos rfl];refine⟨fun σV2 H2=>∃σ2 F2 r2 fs2,RK B j a g r2 fs2 σ2 σV2 F2 H2/\OqK B j a g D F2 (WL.wW j tt b m σ2 fs2),fun σV2 H2 h2=>⟨m,Nat.lt_succ_self m,h2⟩,σ',F1,r',fs',R1,?_⟩;have q':OqK B j a g D F' (match b σ' fs' with|.nx σ2 fs2=>WL.wW j tt b m σ2 fs2|o=>o):=q';cases e1:b σ' fs' with|nx σ2 fs2=>rw[e1]at q';exact fun σV2 H2 F2 r2 R2 s2=>⟨σ2,F2,r2,fs2,R2,OqK.mono (g1.f.trans s2) q'⟩|rt w=>rw[e1]at q';exact fun v2 H2 F2 rb s2 rw2=>(show∀v H' F',_ from q') v2 H2 F2 rb (g1.f.trans s2) rw2|bad=>rw[e1]at q';exact q'
theorem adk{tg iter:Expr}(hp:PassesOwn (model X.prog X.w) X.A X.env X.xe)(hc:X.calm=true)(hi:PI X tg iter (L2.n4 (tCons (lo B te) tNil)))(hgt:PG X tg (L2.ay i))(hb:PSs X ss (loK B j a g b))(hgi:∀p∈g,p.1≠i:=by simp)(hij:i≠j:=by decide)(hs:∀x,foldedSetIterable iter X.env x=pure x:=by intro _;rfl):PS X (.For tg iter ss [] pos) (loK B j a g (WL.kFor i te b)):=PS.imp (pG hp hc hi hgt hb hs) fun D σV H⟨σ,F,r,fs,R,q⟩=>by
 obtain⟨w,ew,q⟩:=OqK.kO q;refine⟨σ,F,R.rs,?_⟩;rw[ew];intro v H1 F1 R1 g1 r1;cases w with|int m=>
 have q:OqK B j a g D F (if m<2^62/\-(2^62)<=m then WL.ml i b 0 m.toNat σ fs else .bad):=q;by_cases hm:m<2^62/\-(2^62)<=m;rotate_left;·rw[if_neg hm]at q;exact(show False from q).elim
 rw[if_pos hm]at q;have r1:v=.int m:=by simpa only[RW]using r1
 subst r1;refine⟨m,rfl,hm.2,hm.1,?_⟩;refine uR (fun k σV' H'=>∃σ' F' r' fs',RK B j a g r' fs' σ' σV' F' H'/\OqK B j a g D F' (WL.ml i b k (m.toNat-k) σ' fs')) ⟨σ,F1,r,fs,R.grow g1 R1,OqK.mono g1.f q⟩ (fun k σV' H' hk⟨σ',F',r',fs',R',q'⟩=>?_) fun σV' H'⟨σ',F',r',fs',R',q'⟩=>?_
 ·have ez:m.toNat-k=(m.toNat-(k+1))+1:=by omega
  rw[ez]at q';have q':OqK B j a g D F' (match b (σ'.set i (.va (.int k))) fs' with|.nx σ2 fs2=>WL.ml i b (k+1) (m.toNat-(k+1)) σ2 fs2|o=>o):=q';show loK B j a g b _ (σV'.set i (some (.int (0+(k:Int))))) H';rw[Int.zero_add];refine⟨_,F',r',fs',R'.set hij hgi (show RW B.K F' (.int k) (.int k)by simp[RW]),?_⟩;cases e1:b (σ'.set i (.va (.int k))) fs' with|nx σ2 fs2=>rw[e1]at q';exact fun σV2 H2 F2 r2 R2 s2=>⟨σ2,F2,r2,fs2,R2,OqK.mono s2 q'⟩|rt w=>rw[e1]at q';exact q'|bad=>rw[e1]at q';exact q'
 ·rw[Nat.sub_self]at q';exact(show∀σV' H' F' r',_ from q') σV' H' F' r' R' (Same.refl _)|_=>exact(show False from q).elim
end
end WS
namespace WS
open PySem PySem.Spec PyProof.Rows L2
open WL(Res Sl Ws EF TF AF LF GF GsF SF Out Fs KO KF)
section
variable{B:Bx}{σ:Ws}{σV:L2.St}{F H:Hp}
theorem RS.aje(R:RS B σ σV F H){x:Addr}{vs:List V}(hF:F x=none)(h0:B.H0 x=none)(hH:H x=some (.lst vs))(hn:∀(k:Nat)(ws:List VW),σ[k]?=some (.ow ws)->σV[k]?≠some (some (.ref x))):RS B σ σV (upd F x (.lst vs)) H:=by
 have s:Same F (upd F x (.lst vs)):=ao hF _;refine⟨⟨fun b u q=>?_,R.rb.base,R.rb.fz0.trans s,fun b u q=>?_⟩,R.len,fun i w q=>?_,fun i ws q=>?_,R.ap,fun i ks us q=>?_,R.dd.ad,fun i q=>?_⟩
 ·by_cases hb:b=x;·subst hb;rw[ag]at q;cases q;exact hH
  ·rw[ae hb]at q;exact R.rb.sub b u q
 ·by_cases hb:b=x;·subst hb;rw[ag]at q;cases q;exact .inr ⟨h0,trivial⟩
  ·rw[ae hb]at q;exact R.rb.fr b u q
 ·obtain⟨v,h1,h2⟩:=R.va i w q;exact⟨v,h1,h2.keep s⟩
 ·obtain⟨a,us,h1,h2,h3,h4,h5⟩:=R.ow i ws q;have hb:a≠x:=fun z=>hn i ws q (z▸h1);exact⟨a,us,h1,by rw[ae hb];exact h2,h3,h4,h5.keep s⟩
 ·obtain⟨a,l,h1,h2,h3,h4,h5,h6⟩:=R.dd.od i ks us q;have hb:a≠x:=fun z=>by rw[z,hH]at h4;cases h4
  exact⟨a,l,h1,by rw[ae hb];exact h2,h3,h4,h5.keep s,h6.keep s⟩
 ·obtain⟨a,C,dx,h1,h2⟩:=R.dd.ob i q;exact⟨a,C,dx,h1,s _ _ h2⟩
end
section
variable{X:Cx}{B:Bx}{g:List (Nat×Addr)}{j i k:Nat}{a:Addr}{st:Stmt}
theorem adi(hB:B.K=X.K)(h:PS X st (xY (ahO X.K "list" ahV (tVar j)) (aip X.K 2 (L2.dW (L2.ay i) (L2.dW (L2.ay k) L2.uP)))))(hg:∀p∈g,p.1≠i)(hgk:∀p∈g,p.1≠k)(hij:i≠j:=by decide)(hkj:k≠j:=by decide):PS X st (loK B j a g (WL.agS i k)):=PS.imp h fun D σV H⟨σ,F,r,fs,R,q⟩=>by cases fs with|nil=>exact(show False from q).elim|cons p fs=>obtain⟨hd,is⟩:=p;cases r with|nil=>exact R.st.frs.elim|cons bc r=>
   obtain⟨b,c⟩:=bc;obtain⟨⟨hv,vs,h1,h2,h3,h4⟩,h5⟩:=R.st.frs;have top:=R.st.top;have er:(((b,c)::r).reverse.map fun p:Addr×Addr=>V.ref p.1)=(r.reverse.map fun p=>V.ref p.1)++[.ref b]:=by simp
   rw[er]at top;have nd:=R.st.nd;simp only[adr,List.nodup_cons,List.mem_cons,not_or]at nd;obtain⟨⟨nab,nac,nar⟩,⟨nbc,nbr⟩,ncr,ndr⟩:=nd;have hc:c∈a::adr ((b,c)::r):=by simp[adr]
   have ha:a∈a::adr ((b,c)::r):=by simp
   refine⟨.ref a,R.at_,.inl ⟨rfl,_,SqL.of top⟩,a,_,.ref b,rfl,rfl,top,(by simp),?_⟩;rw[List.dropLast_concat];refine⟨b,[hv,.ref c],rfl,SqL.of (by rw[ae (Ne.symm nab)];exact h1),rfl,hv,_,rfl,.ref c,_,rfl,rfl,?_⟩;have R1:RS B σ σV F (upd H a (.lst (r.reverse.map fun p:Addr×Addr=>V.ref p.1))):=R.rs.away _ (R.st.own a ha).1 (R.st.own a ha).2 (fun k ws e1 e2=>R.ap k ws a e1 e2 ha) (fun k ks us e1=>R.nd ha k ks us e1);have hc1:upd H a (.lst (r.reverse.map fun p:Addr×Addr=>V.ref p.1)) c=some (.lst vs):=by rw[ae (Ne.symm nac)];exact h2
   have s:Same F (upd F c (.lst vs)):=ao (R.st.own c hc).1 _;have R2:=R1.aje (R.st.own c hc).1 (R.st.own c hc).2 hc1 (fun k ws e1 e2=>R.ap k ws c e1 e2 hc);have R3:RK B j a g r fs σ σV (upd F c (.lst vs)) (upd H a (.lst (r.reverse.map fun p:Addr×Addr=>V.ref p.1))):=⟨R2,R.no,R.at_,⟨ag,h5.via s fun y hy o z=>by rw[ae (fun z2:y=a=>nar (z2▸hy))];exact z,by rw[List.nodup_cons];exact⟨nar,ndr⟩,fun y hy=>by
     have hy2:y∈a::adr ((b,c)::r):=by
      simp only[adr,List.mem_cons]at hy⊢;rcases hy with z|z;·exact .inl z
      ·exact .inr (.inr (.inr z))
     refine⟨?_,(R.st.own y hy2).2⟩;have ne:y≠c:=fun z2=>by
      subst z2;rcases List.mem_cons.mp hy with z|z;·exact nac z.symm
      ·exact ncr z
     rw[ae ne];exact(R.st.own y hy2).1⟩,fun k ws x e1 e2=>fun hx=>R.ap k ws x e1 e2 (by
     simp only[adr,List.mem_cons]at hx⊢;rcases hx with z|z;·exact .inl z
     ·exact .inr (.inr (.inr z))),R.fx⟩;refine(show∀σV' H' F' r',_ from q) _ _ (upd F c (.lst vs)) r ((R3.set hij hg (h3.keep s)).set hkj hgk ?_) s;simp only[RW];exact⟨c,vs,rfl,SqL.of ag,h4.keep s⟩
end
noncomputable def spC(K:W.Frag):Sp:=fun vs H Q _=>∃a x r fs F ws us,vs=[.ref a,.ref x]/\Same F H/\H a=some (.lst (r.reverse.map fun p=>.ref p.1))/\Frs K F H r fs/\(x::a::adr r).Nodup/\(∀y∈x::a::adr r,F y=none)/\H x=some (.lst us)/\RWs K F ws us/\∃σ' ws' fs',WL.mn [.no,.ow ws,.no,.no] fs=.nx σ' fs'/\σ'[1]?=some (.ow ws')/\∀H' F' r' us',Same F F'->Same F' H'->H' a=some (.lst (r'.reverse.map fun p=>.ref p.1))->Frs K F' H' r' fs'->(x::a::adr r').Nodup->(∀y∈x::a::adr r',F' y=none/\(y∈x::a::adr r\/H y=none))->H' x=some (.lst us')->RWs K F' ws' us'->(∀y o,y∉x::a::adr r->H y=some o->H' y=some o)->(∀y o,F' y=some o->F y=some o\/(y∈x::a::adr r\/H y=none)/\NF o)->Q .non H'
section
variable{P:Program}{w:World}{K:W.Frag}{mg:Str->Option Value}{base:Heap}
open Classical in theorem vh{x qual:Str}{st:Stmt}{f:Addr}{fd:FuncData}{n0 n1 n2 n3:Str}{k:Nat}(Fn:Fun K x qual st f fd)(S:FnScope [n0,n1,n2,n3] [n0,n1] (af st))(h:∀(cdv:Value)(A:Around)(outer:List Env)(s:Shared)(H:Hp)(E:XK)(B:Bx)(a x0:Addr),B.K=K->Room k (A.deeper (envOfC qual (af st) s.heap.objs.size f cdv))->PSs (gH CX0 P w K mg base [n0,n1,n2,n3] qual (af st) f cdv A outer s H E).nox (aO st) (loK B 0 a [(1,x0)] WL.mn)):FnOk P w K mg base CX0 (k+1) f fd [n0,n1] (spC K):=by
 refine Fn.ok S (fun vs H Q E⟨a,x,r,fs,F,ws,us,e,_⟩=>by rw[e];rfl) fun cdv A outer s H vs Q E hr⟨a,x,r,fs,F,ws,us,e,sm,top,frs,nd,own,hx,rx,σ',ws',fs',eb,ew,q⟩=>?_;subst e;let B0:Bx:=⟨K,fun y=>if y∈x::a::adr r then none else H y,F,fun _ _ _=>False,fun _ _ _ _ _ h=>h⟩;have h0i:∀{y:Addr},y∈x::a::adr r->B0.H0 y=none:=fun hy=>if_pos hy;have h0o:∀{y:Addr},y∉x::a::adr r->B0.H0 y=H y:=fun hy=>if_neg hy;have hnx:x∉a::adr r:=by rw[List.nodup_cons]at nd;exact nd.1
 have hs:L2.start [n0,n1,n2,n3] [V.ref a,V.ref x]=[some (.ref a),some (.ref x),none,none]:=rfl;have R0:RK B0 0 a [(1,x)] r fs [.no,.ow ws,.no,.no] [some (.ref a),some (.ref x),none,none] F H:=by
  refine⟨⟨⟨sm,fun y o z=>?_,Same.refl _,fun y o z=>.inl z⟩,rfl,fun i w z=>?_,fun i us' z=>?_,fun i j' us' us2 b hne e1 e2 _ _=>?_,fun i ks us' z=>?_,fun i j' ks us' ks' us2 b hne e1 e2 _ _=>?_,fun i z=>?_⟩,rfl,rfl,⟨top,frs,?_,fun y hy=>⟨own y (by simp[List.mem_cons.mp hy]),h0i (by simp[List.mem_cons.mp hy])⟩⟩,fun i ws2 y e1 e2=>?_,fun p hp=>(by have this:p=(1,x):=(by simpa using hp);subst this;rfl)⟩
  ·by_cases hy:y∈x::a::adr r;·rw[h0i hy]at z;cases z
   ·rw[h0o hy]at z;exact z
  ·match i,z with|0,z=>cases z|1,z=>cases z|2,z=>cases z|3,z=>cases z
  ·match i,z with|1,z=>cases z;exact⟨x,us,rfl,own x (by simp),h0i (by simp),hx,rx⟩|0,z=>cases z|2,z=>cases z|3,z=>cases z
  ·match i,j',e1,e2,hne with|1,1,_,_,hne=>exact hne rfl|0,_,e1,_,_=>cases e1|2,_,e1,_,_=>cases e1|3,_,e1,_,_=>cases e1|1,0,_,e2,_=>cases e2|1,2,_,e2,_=>cases e2|1,3,_,e2,_=>cases e2
  ·match i,z with|0,z=>cases z|1,z=>cases z|2,z=>cases z|3,z=>cases z
  ·match i,e1 with|0,z=>cases z|1,z=>cases z|2,z=>cases z|3,z=>cases z
  ·match i,z with|0,z=>cases z|1,z=>cases z|2,z=>cases z|3,z=>cases z
  ·rw[List.nodup_cons]at nd;exact nd.2
  ·match i,e1,e2 with|1,_,e2=>cases e2;exact hnx|0,e1,_=>cases e1|2,e1,_=>cases e1|3,e1,_=>cases e1
 refine⟨_,h cdv A outer s H E B0 a x rfl hr,?_⟩;rw[hs];refine⟨_,F,r,fs,R0,?_⟩;rw[eb];intro σV' H' F' r' R' s';obtain⟨x',us',g1,g2,g3,g4,g5⟩:=R'.rs.ow 1 ws' ew;have hx':=R'.fx (1,x) (by simp);rw[show((1,x):Nat×Addr).1=1 from rfl,g1]at hx';cases hx';have h0n:∀{y:Addr},B0.H0 y=none->y∈x::a::adr r\/H y=none:=fun{y}z=>by
  by_cases hy:y∈x::a::adr r;·exact .inl hy
  ·rw[h0o hy]at z;exact .inr z
 refine q H' F' r' us' s' R'.rs.rb.sub R'.st.top R'.st.frs ?_ (fun y hy=>?_) g4 g5 (fun y o hy z=>R'.rs.rb.base y o (by rw[h0o hy];exact z)) fun y o z=>?_;·rw[List.nodup_cons];exact⟨R'.ap 1 ws' x ew g1,R'.st.nd⟩
 ·rcases List.mem_cons.mp hy with rfl|hy;·exact⟨g2,h0n g3⟩
  ·exact⟨(R'.st.own y hy).1,h0n (R'.st.own y hy).2⟩
 ·rcases R'.rs.rb.fr y o z with z|z;·exact .inl z
  ·exact .inr ⟨h0n z.1,z.2⟩
end
end WS
namespace WS
open PySem PySem.Spec PyProof.Rows L2
open WL(Res Sl Ws EF TF AF LF GF GsF SF Out Fs KO KF)
section
variable{X:Cx}{B:Bx}{j i k m:Nat}{a f:Addr}{fd:FuncData}{ps:List Str}{fx e1 e2:Expr}{nx_:Str}{p pos cpos:Pos}
theorem RK.hand{r r':List (Addr×Addr)}{fs fs':Fs}{σ:Ws}{σV:L2.St}{F H F' H':Hp}(R:RK B j a [] r fs σ σV F H)(hij:i≠j){ws ws':List VW}{x:Addr}{us':List V}(e0:σ[i]?=some (.ow ws))(hx:σV[i]?=some (some (.ref x)))(s1:Same F F')(s2:Same F' H')(top:H' a=some (.lst (r'.reverse.map fun p=>.ref p.1)))(frs:Frs B.K F' H' r' fs')(nd:(x::a::adr r').Nodup)(own:∀y∈x::a::adr r',F' y=none/\(y∈x::a::adr r\/H y=none))(hH:H' x=some (.lst us'))(hu:RWs B.K F' ws' us')(keep:∀y o,y∉x::a::adr r->H y=some o->H' y=some o)(fr:∀y o,F' y=some o->F y=some o\/(y∈x::a::adr r\/H y=none)/\NF o):RK B j a [] r' fs' (σ.set i (.ow ws')) σV F' H':=by
 obtain⟨x0,us,h1,h2,h3,h4,h5⟩:=R.rs.ow i ws e0;rw[hx]at h1;cases h1;have hxn:x∉a::adr r:=R.ap i ws x e0 hx;have hil:i<σ.length:=(List.getElem?_eq_some_iff.mp e0).1;have hiv:i<σV.length:=(List.getElem?_eq_some_iff.mp hx).1;have h0:∀y∈x::a::adr r,B.H0 y=none:=fun y hy=>by
  rcases List.mem_cons.mp hy with rfl|hy;·exact h3
  ·exact(R.st.own y hy).2
 have h0':∀y,(y∈x::a::adr r\/H y=none)->B.H0 y=none:=fun y hy=>hy.elim (h0 y) fun z=>R.rs.rb.base.free z;have out:∀(k:Nat)(w2:List VW)(z:Addr),k≠i->σ[k]?=some (.ow w2)->σV[k]?=some (some (.ref z))->z∉x::a::adr r:=fun k w2 z hk ez hz hm=>by
  rcases List.mem_cons.mp hm with rfl|hm;·exact R.rs.ap k i w2 ws z hk ez e0 hz hx
  ·exact R.ap k w2 z ez hz hm
 have sO:∀(z:Addr)(o:HO),H z=some o->F z=none->z∉x::a::adr r->F' z=none:=fun z o hz fz hm=>by cases e2:F' z with|none=>rfl|some u=>
   rcases fr z u e2 with y|⟨y|y,_⟩;·rw[fz]at y;cases y
   ·exact(hm y).elim
   ·rw[hz]at y;cases y
 have hself:σV.set i (some (.ref x))=σV:=by
  apply List.ext_getElem?;intro k;by_cases hk:i=k;·subst hk;rw[List.getElem?_set_self hiv,hx]
  ·rw[List.getElem?_set_ne hk]
 have back:∀{k:Nat}{w2:List VW},(σ.set i (.ow ws'))[k]?=some (.ow w2)->∃w3,σ[k]?=some (.ow w3):=fun{k w2}q=>by
  by_cases hk:i=k;·subst hk;exact⟨ws,e0⟩
  ·rw[List.getElem?_set_ne hk]at q;exact⟨w2,q⟩
 have rs:RS B (σ.set i (.ow ws')) σV F' H':=by
  refine⟨⟨s2,fun y o z=>keep y o (fun hy=>by rw[h0 y hy]at z;cases z) (R.rs.rb.base y o z),R.rs.rb.fz0.trans s1,fun y o z=>?_⟩,by rw[List.length_set];exact R.rs.len,fun k w q=>?_,fun k w2 q=>?_,fun k k' w2 w3 b hne q1 q2 g1 g2=>?_,?_⟩
  ·rcases fr y o z with z|z;·exact R.rs.rb.fr y o z
   ·exact .inr ⟨h0' y z.1,z.2⟩
  ·by_cases hk:i=k;·subst hk;rw[List.getElem?_set_self hil]at q;cases q
   ·rw[List.getElem?_set_ne hk]at q;obtain⟨v,g1,g2⟩:=R.rs.va k w q;exact⟨v,g1,g2.keep s1⟩
  ·by_cases hk:i=k;·subst hk;rw[List.getElem?_set_self hil]at q;cases q;exact⟨x,us',hx,(own x (by simp)).1,h3,hH,hu⟩
   ·rw[List.getElem?_set_ne hk]at q;obtain⟨z,zs,g1,g2,g3,g4,g5⟩:=R.rs.ow k w2 q;have hz:=out k w2 z (Ne.symm hk) q g1;exact⟨z,zs,g1,sO z _ g4 g2 hz,g3,keep z _ hz g4,g5.keep s1⟩
  ·obtain⟨w4,q1⟩:=back q1;obtain⟨w5,q2⟩:=back q2;exact R.rs.ap k k' w4 w5 b hne q1 q2 g1 g2
  ·have hd:=R.rs.aa8 (F':=F') (H':=H') i (sl:=.ow ws') (fun z=>z) (some (.ref x)) s1 fun k ks us2 b kvs hk ek hv q1 q2=>by
    have hb:b∉x::a::adr r:=fun hm=>by
     rcases List.mem_cons.mp hm with rfl|hm;·rw[h4]at q1;cases q1
     ·obtain⟨l,hl⟩:=R.st.there b hm;rw[hl]at q1;cases q1
    exact⟨sO b _ q1 q2 hb,keep b _ hb q1⟩
   rw[hself]at hd;exact hd
 refine⟨rs,by rw[List.getElem?_set_ne hij];exact R.no,R.at_,⟨top,frs,by rw[List.nodup_cons]at nd;exact nd.2,fun y hy=>⟨(own y (by simp[List.mem_cons.mp hy])).1,h0' y (own y (by simp[List.mem_cons.mp hy])).2⟩⟩,fun k w2 z q1 q2 hm=>?_,fun p hp=>nomatch hp⟩;by_cases hk:i=k;·subst hk;rw[hx]at q2;cases q2;rw[List.nodup_cons]at nd;exact nd.1 hm
 ·rw[List.getElem?_set_ne hk]at q1;obtain⟨z',zs,g1,_,_,g4,_⟩:=R.rs.ow k w2 q1;rw[q2]at g1;cases g1;rcases(own z (by simp[List.mem_cons.mp hm])).2 with y|y;·exact out k w2 z (Ne.symm hk) q1 q2 y
  ·rw[y]at g4;cases g4
theorem uw(hB:B.K=X.K)(G:FnOk X.prog X.w X.K X.mg X.base CX0 k f fd ps (spC X.K))(hr:Room m X.A)(hk:k<=m)(hg:Gl X nx_)(hm:X.mg nx_=some (.ref f))(hq:W.keepIn X.K (.ref f)=true)(hb:Binds X.K fd ps [])(h1:PE X e1 (tVar j))(h2:PE X e2 (tVar i))(hij:i≠j:=by decide)(hdb:(nx_==("__debug__":Str))=false:=by decide)(he1:starEach [e1,e2] X.env=(false,eval e1 X.env)::starEach [e2] X.env:=by rfl)(he2:starEach [e2] X.env=(false,eval e2 X.env)::starEach [] X.env:=by rfl)(hpl:(backTo cpos (starEach [e2] X.env)).any (·.1)=false:=by rfl)(hs:swapsWith (.Call (.Name nx_ p) [e1,e2] [] cpos) none pos.line X.env=pure false:=by rfl):PS X (.Expr (.Call (.Name nx_ p) [e1,e2] [] cpos) pos) (loK B j a [] (WL.jg i)):=PS.imp (ps_expr (tW G (hr.mono hk) hg hm hq hb .nil acB (pa_cons h1 (pa_cons h2 pa_nil he2) he1) hdb he1 hpl) hs) fun D σV H⟨σ,F,r,fs,R,q⟩=>by have q:OqK B j a [] D F (match(σ[i]?:Option Sl)with|some (.ow ws)=>(match WL.mn [.no,.ow ws,.no,.no] fs with|.nx [_,.ow ws',_,_] fs'=>.nx (σ.set i (.ow ws')) fs'|_=>.bad)|_=>.bad):=q;cases e0:σ[i]? with|none=>rw[e0]at q;exact(show False from q).elim|some sl=>
 rw[e0]at q;cases sl with|ow ws=>
  have q:OqK B j a [] D F (match WL.mn [.no,.ow ws,.no,.no] fs with|.nx [_,.ow ws',_,_] fs'=>.nx (σ.set i (.ow ws')) fs'|_=>.bad):=q;obtain⟨x,us,g1,g2,g3,g4,g5⟩:=R.rs.ow i ws e0;have hxn:=R.ap i ws x e0 g1;split at q
  ·rename_i s0 ws' s2 s3 fs' eb;refine⟨.ref a,R.at_,.ref x,g1,a,x,r,fs,F,ws,us,rfl,R.rs.rb.sub,R.st.top,hB▸R.st.frs,by rw[List.nodup_cons];exact⟨hxn,R.st.nd⟩,fun y hy=>?_,g4,hB▸g5,_,ws',fs',eb,rfl,fun H' F' r' us' s1 s2 top frs nd own hH hu keep fr=>?_⟩
   ·rcases List.mem_cons.mp hy with rfl|hy;·exact g2
    ·exact(R.st.own y hy).1
   ·exact(show∀σV' H' F' r',_ from q) σV H' F' r' (R.hand hij e0 g1 s1 s2 top (hB▸frs) nd own hH (hB▸hu) keep fr) s1
  ·exact(show False from q).elim|_=>exact(show False from q).elim
end
end WS
namespace WS
open PySem PySem.Spec PyProof.Rows L2
open WL(Res Sl Ws EF TF AF LF GF GsF SF Out Fs KO KF)
section
variable{X:Cx}{B:Bx}{j i:Nat}{a:Addr}{st:Stmt}
theorem adj(h:PS X st (xY (tLst tNil) (L2.ay i)))(hij:i≠j:=by decide):PS X st (loK B j a [] (WL.aeT i)):=PS.imp h fun D σV H⟨σ,F,r,fs,R,q⟩=>by
 refine⟨by decide,fun p hp=>?_⟩;have hpn:p∉a::adr r:=fun z=>by obtain⟨l,hl⟩:=R.st.there p z;rw[hp]at hl;cases hl
 have R1:RK B j a [] r fs σ σV F (upd H p (.lst [])):=⟨R.rs.wA hp _,R.no,R.at_,R.st.other _ hpn,R.ap,R.fx⟩;refine(show∀σV' H' F' r',_ from q) _ _ F r (R1.abP hij (fun _ z=>nomatch z) (R.rs.rb.sub.free hp) (R.rs.rb.base.free hp) ag (by simp[RWs]) (fun k us _ e1 e2=>?_) hpn) (Same.refl _);obtain⟨b,vs,h1,_,_,h4,_⟩:=R.rs.ow k us e1;rw[e2]at h1;cases h1;rw[hp]at h4;cases h4
end
section
variable{P:Program}{w:World}{K:W.Frag}{mg:Str->Option Value}{base:Heap}
theorem aaI{x qual:Str}{st s1:Stmt}{rest:List Stmt}{f:Addr}{fd:FuncData}{N:List Str}{n0 n1:Str}{k n:Nat}{fn:List VW->Res VW}(t:KF)(Fn:Fun K x qual st f fd)(S:FnScope N [n0,n1] (af st))(hn:N.length=n)(h3:3<=n)(hfn:WL.runK n t=fn)(hbd:aO st=s1::rest)(h:∀(cdv:Value)(A:Around)(outer:List Env)(s:Shared)(H:Hp)(E:XK)(B:Bx),B.K=K->Room k (A.deeper (envOfC qual (af st) s.heap.objs.size f cdv))->PassesOwn (model P w) (A.deeper (envOfC qual (af st) s.heap.objs.size f cdv)) (envOfC qual (af st) s.heap.objs.size f cdv) (fun _ _=>False)->PS (gH CX0 P w K mg base N qual (af st) f cdv A outer s H E).nox s1 (xY (tLst (tCons (tLst (tCons (lo B (WL.cT WL.aj)) (tCons (tLst tNil) tNil))) tNil)) (L2.ay 2))/\∀a,PSs (gH CX0 P w K mg base N qual (af st) f cdv A outer s H E).nox rest (loK B 2 a [] t)):FnOk P w K mg base CX0 (k+1) f fd [n0,n1] (spW K 2 fn):=by subst hn hfn;refine Fn.ok S (fun vs H Q E⟨F,ws,_,r,hl,_⟩=>by rw[<-r.length];exact hl) fun cdv A outer s H vs Q E hr⟨F,ws,sm,r,hl,hm⟩=>?_;obtain⟨hp1,hp2⟩:=h cdv A outer s H E ⟨K,H,F,fun _ _ _=>False,fun _ _ _ _ _ h=>h⟩ rfl hr PassesOwn.never;have R0:=RS.start (N:=N) sm r (by omega);rw[hbd];have hp2':PSs (gH CX0 P w K mg base N qual (af st) f cdv A outer s H E).nox rest (fun D σV H'=>∃a,loK ⟨K,H,F,fun _ _ _=>False,fun _ _ _ _ _ h=>h⟩ 2 a [] t D σV H'):=fun pins s σ H D I⟨a,q⟩=>hp2 a pins s σ H D I q;refine⟨_,cq hp1 hp2',?_⟩;match ws,hl,r,hm,R0 with
|[c,nm],_,r,hm,R0=>
 have hσ:([c,nm].map Sl.va++List.replicate (N.length-[c,nm].length) Sl.no)=.va c::.va nm::List.replicate (N.length-2) .no:=rfl;rw[hσ]at R0;refine⟨_,F,R0,fun v0 H1 F1 R1 g1 r1=>⟨by decide,fun p hp=>⟨show 2<=sizeLine by decide,fun p2 hp2=>⟨show 1<=sizeLine by decide,fun a ha=>?_⟩⟩⟩⟩;have pn2:p≠p2:=fun z=>by rw[<-z,ag]at hp2;cases hp2
 have hp2':H1 p2=none:=by rw[ae (Ne.symm pn2)]at hp2;exact hp2
 have an2:a≠p2:=fun z=>by rw[z,ag]at ha;cases ha
 have anp:a≠p:=fun z=>by rw[z,ae pn2,ag]at ha;cases ha
 have ha':H1 a=none:=by rw[ae an2,ae anp]at ha;exact ha
 have hN:2<(Sl.va c::.va nm::List.replicate (N.length-2) .no).length:=by simp;omega
 have hno:(Sl.va c::.va nm::List.replicate (N.length-2) .no)[2]?=some .no:=by simp only[List.getElem?_cons_succ,List.getElem?_replicate];rw[if_pos (by omega)]
 have hset:(Sl.va c::.va nm::List.replicate (N.length-2) .no).set 2 .no=(Sl.va c::.va nm::List.replicate (N.length-2) .no):=by
  apply List.ext_getElem?;intro m;by_cases hm:2=m;·subst hm;rw[List.getElem?_set_self hN,hno]
  ·rw[List.getElem?_set_ne hm]
 have R2:=(((R1.wA hp (.lst [])).wA hp2 (.lst [v0,.ref p])).wA ha (.lst [.ref p2])).drop 2 (some (.ref a));rw[hset]at R2;have hV:2<(L2.start N vs).length:=by rw[<-R0.len];exact hN
 have noow:∀(k:Nat)(ws:List VW),(Sl.va c::.va nm::List.replicate (N.length-2) .no)[k]?≠some (.ow ws):=fun k ws z=>by match k,z with|0,z=>cases z|1,z=>cases z|k+2,z=>simp only[List.getElem?_cons_succ,List.getElem?_replicate]at z;split at z<;>cases z
 refine⟨a,_,F1,[(p2,p)],[(.tup [],[])],⟨R2,hno,by rw[List.getElem?_set_self hV],⟨?_,⟨⟨v0,[],?_,?_,r1,by simp[RWs]⟩,trivial⟩,?_,fun y hy=>?_⟩,fun k ws x e1 _=>(noow k ws e1).elim,fun _ z=>nomatch z⟩,?_⟩;·rw[ag];rfl
 ·rw[ae (Ne.symm an2),ag]
 ·rw[ae (Ne.symm anp),ae pn2,ag]
 ·simp only[adr,List.nodup_cons,List.mem_cons,List.not_mem_nil,not_or,or_false,not_false_eq_true,List.nodup_nil,and_true];exact⟨⟨an2,anp⟩,Ne.symm pn2⟩
 ·simp only[adr,List.mem_cons,List.not_mem_nil,or_false]at hy;rcases hy with rfl|rfl|rfl;·exact⟨R1.rb.sub.free ha',R1.rb.base.free ha'⟩
  ·exact⟨R1.rb.sub.free hp2',R1.rb.base.free hp2'⟩
  ·exact⟨R1.rb.sub.free hp,R1.rb.base.free hp⟩
 ·have hm:match(match t (.va c::.va nm::List.replicate (N.length-2) .no) [(.tup [],[])]with|.rt w=>Res.ok w|_=>.bad)with|.ok w=>∀v H' F',Same F F'->Same F' H'->Same H H'->(∀a o,F' a=some o->F a=some o\/H a=none/\NF o)->RW K F' w v->Q v H'|_=>False:=hm;cases e:t (.va c::.va nm::List.replicate (N.length-2) .no) [(.tup [],[])]with|rt w=>rw[e]at hm;exact fun v H' F' rb s' rw'=>hm v H' F' (g1.f.trans s') rb.sub rb.base rb.fr rw'|nx _ _=>rw[e]at hm;exact hm.elim|bad=>rw[e]at hm;exact hm.elim
end
section
variable{X:Cx}{B:Bx}{j i k m:Nat}{a:Addr}{ps:List Str}{ds:List Value}{e1 e2:Expr}{nx_:Str}{p pos cpos:Pos}
theorem j4(hB:B.K=X.K)(hr:Room m X.A)(C:Cal X.prog X.w X.K X.mg X.base CX0 k nx_ ps ds (spC X.K))(h1:PE X e1 (tVar j))(h2:PE X e2 (tVar i))(hk:k<=m:=by decide)(hg:Gl X nx_:=by rfl)(hij:i≠j:=by decide)(hdb:(nx_==("__debug__":Str))=false:=by decide)(he1:starEach [e1,e2] X.env=(false,eval e1 X.env)::starEach [e2] X.env:=by rfl)(he2:starEach [e2] X.env=(false,eval e2 X.env)::starEach [] X.env:=by rfl)(hpl:(backTo cpos (starEach [e2] X.env)).any (·.1)=false:=by rfl)(hs:swapsWith (.Call (.Name nx_ p) [e1,e2] [] cpos) none pos.line X.env=pure false:=by rfl):PS X (.Expr (.Call (.Name nx_ p) [e1,e2] [] cpos) pos) (loK B j a [] (WL.jg i)):=by obtain⟨f,fd,G,hm,q,b,_⟩:=C;exact uw hB G hr hk hg hm q b h1 h2 hij hdb he1 he2 hpl hs
end
end WS
namespace WL
open PySem
section
variable{α β:Type}
@[simp]theorem kR(a:α)(f:α->Res β):(Res.ok a).bind f=f a:=(rfl)
@[simp]theorem aht(c:W)(f:α->Res β):(Res.ex c:Res α).bind f=.ex c:=(rfl)
@[simp]theorem afa(f:α->Res β):(Res.bad:Res α).bind f=.bad:=(rfl)
@[simp]theorem ae9(p:Prop)[Decidable p](a b:Res α)(f:α->Res β):(if p then a else b).bind f=if p then a.bind f else b.bind f:=by split<;>rfl
@[simp]theorem yg(σ:Ws)(a:α)(f:α->Out):ofR σ (.ok a) f=f a:=(rfl)
@[simp]theorem ah4(σ:Ws)(c:W)(f:α->Out):ofR σ (.ex c:Res α) f=.ex c σ:=(rfl)
@[simp]theorem agi(σ:Ws)(f:α->Out):ofR σ (.bad:Res α) f=.bad:=(rfl)
@[simp]theorem agh(σ:Ws)(p:Prop)[Decidable p](a b:Res α)(f:α->Out):ofR σ (if p then a else b) f=if p then ofR σ a f else ofR σ b f:=by split<;>rfl
end
@[simp]theorem ajl{α:Type}(a:α)(l:List α):(a::l)[0]?=some a:=(rfl)
@[simp]theorem ajk{α:Type}(a:α)(l:List α)(n:Nat):(a::l)[n+1]?=l[n]?:=(rfl)
noncomputable def agZ:Option Sl->Res W|some (.va w)=>.ok w|_=>.bad
@[simp]theorem agY(w:W):agZ (some (.va w))=.ok w:=(rfl)
@[simp]theorem aaF(i:Nat)(σ:Ws):ah i σ=agZ σ[i]?:=by unfold ah agZ;split<;>simp_all
@[simp]theorem ajc(w:W)(σ:Ws):eC w σ=.ok w:=(rfl)
@[simp]theorem adW(r:W->W->Res W)(a b:EF)(σ:Ws):eOp r a b σ=(a σ).bind fun x=>(b σ).bind fun y=>r x y:=(rfl)
@[simp]theorem aiw(r:W->Res W)(a:EF)(σ:Ws):eUn r a σ=(a σ).bind r:=(rfl)
noncomputable def chB(z:W)(k:Res W):Res W:=match z with|.bl true=>k|.bl false=>.ok (.bl false)|_=>.bad
@[simp]theorem aiE(b:Bool)(k:Res W):chB (.bl b) k=if b=true then k else .ok (.bl false):=by cases b<;>rfl
@[simp]theorem adX(r r':W->W->Res W)(a b c:EF)(σ:Ws):mI r r' a b c σ=(a σ).bind fun x=>(b σ).bind fun y=>(r x y).bind fun z=>chB z ((c σ).bind fun w=>r' y w):=by unfold mI chB;rfl
@[simp]theorem ahK(b:Bool):toB (.bl b)=.ok b:=(rfl)
@[simp]theorem aiU(e:EF)(σ:Ws):tB e σ=(e σ).bind toB:=(rfl)
@[simp]theorem afv(a b:TF)(σ:Ws):kg a b σ=(a σ).bind fun x=>if x=true then b σ else .ok false:=by unfold kg;congr 1;funext x;cases x<;>rfl
@[simp]theorem ahM(a b:TF)(σ:Ws):tOr a b σ=(a σ).bind fun x=>if x=true then .ok true else b σ:=by unfold tOr;congr 1;funext x;cases x<;>rfl
@[simp]theorem afs(a:TF)(σ:Ws):rP a σ=(a σ).bind fun x=>.ok (!x):=(rfl)
@[simp]theorem ahn(a b:EF)(σ:Ws):yy a b σ=(a σ).bind fun x=>(toB x).bind fun y=>if y=true then b σ else .ok (.bl false):=by
 unfold yy;congr 1;funext x;cases x<;>try rfl
 rename_i k;cases k<;>rfl
@[simp]theorem aiy(a b:EF)(σ:Ws):eOr a b σ=(a σ).bind fun x=>(toB x).bind fun y=>if y=true then .ok (.bl true)else b σ:=by
 unfold eOr;congr 1;funext x;cases x<;>try rfl
 rename_i k;cases k<;>rfl
@[simp]theorem ahi(a:EF)(σ:Ws):aiz a σ=(a σ).bind fun x=>(toB x).bind fun y=>.ok (.bl (!y)):=by unfold aiz;congr 1;funext x;cases x<;>rfl
@[simp]theorem aiA(t:TF)(a b:EF)(σ:Ws):eIf t a b σ=(t σ).bind fun x=>if x=true then a σ else b σ:=by unfold eIf;congr 1;funext x;cases x<;>rfl
@[simp]theorem aaV(σ:Ws):aj σ=.ok []:=(rfl)
@[simp]theorem xO(e:EF)(a:AF)(σ:Ws):aa e a σ=(e σ).bind fun x=>(a σ).bind fun xs=>.ok (x::xs):=(rfl)
@[simp]theorem ahh(a:AF)(σ:Ws):cT a σ=(a σ).bind fun xs=>if xs.length<=lim then .ok (.tup xs)else .bad:=(rfl)
@[simp]theorem ahk(a:AF)(σ:Ws):gF a σ=(a σ).bind fun xs=>if xs.length<=lim then .ok (.lst xs)else .bad:=(rfl)
@[simp]theorem agQ(a:AF)(σ:Ws):aeP a σ=(a σ).bind fun xs=>if xs.length<=lim then .ok xs else .bad:=(rfl)
noncomputable def jQ{α:Type}:Res α->Res α|.ok a=>.ok a|_=>.bad
@[simp]theorem xJ{α:Type}(a:α):jQ (.ok a)=.ok a:=(rfl)
@[simp]theorem ad4{α:Type}(p:Prop)[Decidable p](a b:Res α):jQ (if p then a else b)=if p then jQ a else jQ b:=by split<;>rfl
@[simp]theorem ae7(f:List W->Res W)(a:AF)(σ:Ws):bF f a σ=(a σ).bind fun ws=>jQ (f ws):=by unfold bF;congr 1;funext ws;cases f ws<;>rfl
@[simp]theorem uY(f:List W->Res W)(a:AF)(σ:Ws):aP f a σ=(a σ).bind f:=(rfl)
@[simp]theorem aiC(f:List W->Res W)(a:AF)(σ:Ws):eBi f a σ=(a σ).bind f:=(rfl)
@[simp]theorem ahj(T:String)(r:W->List W->Res W)(o:EF)(a:AF)(σ:Ws):kN T r o a σ=(o σ).bind fun x=>if dU x==T then(a σ).bind fun ws=>r x ws else .bad:=(rfl)
@[simp]theorem adq(xs:List W):dU (.lst xs)="list":=(rfl)
@[simp]theorem adn(xs:List W):dU (.tup xs)="tuple":=(rfl)
@[simp]theorem ado(x:Str):dU (.str x)="str":=(rfl)
@[simp]theorem ads(i:Int):dU (.int i)="int":=(rfl)
@[simp]theorem aeS(b:Bool):dU (.bl b)="bool":=(rfl)
@[simp]theorem adp:dU .non="NoneType":=(rfl)
noncomputable def aiD(o:Option (List W×List W)):Res W:=match o with|some (ks,vs)=>if gf ks&&decide (ks.length<=15)then .ok (.dic ks vs)else .bad|none=>.bad
@[simp]theorem adZ(ks vs:List W):aiD (some (ks,vs))=if gf ks&&decide (ks.length<=15)then .ok (.dic ks vs)else .bad:=(rfl)
@[simp]theorem ahl(a:AF)(σ:Ws):ajb a σ=(a σ).bind fun xs=>aiD (sP xs):=(rfl)
@[simp]theorem zR(ks vs:List W)(k:Str):oIx (.dic ks vs) (.str k)=ofO (nc k ks vs):=(rfl)
@[simp]theorem ahX(σ:Ws):pNo σ=.ok none:=(rfl)
noncomputable def toI:W->Res (Option Int)|.int i=>.ok (some i)|_=>.bad
@[simp]theorem afo(i:Int):toI (.int i)=.ok (some i):=(rfl)
@[simp]theorem aev(e:EF)(σ:Ws):fb e σ=(e σ).bind toI:=by unfold fb;congr 1
@[simp]theorem aix(e:EF)(lo hi:Ws->Res (Option Int))(σ:Ws):eSl e lo hi σ=(e σ).bind fun x=>(lo σ).bind fun l=>(hi σ).bind fun h=>oSl x l h:=(rfl)
@[simp]theorem aeH(i j:Int):fc (.int i) (.int j)=.ok (.int (i+j)):=(rfl)
@[simp]theorem aeG(xs ys:List W):fc (.lst xs) (.lst ys)=if xs.length+ys.length<=lim then .ok (.lst (xs++ys))else .bad:=(rfl)
@[simp]theorem aeF(xs ys:List W):fc (.tup xs) (.tup ys)=if xs.length+ys.length<=lim then .ok (.tup (xs++ys))else .bad:=(rfl)
@[simp]theorem aeA(i j:Int):aa3 (.int i) (.int j)=.ok (.int (i-j)):=(rfl)
theorem pP(i j:Int):t9 (.int i) (.int j)=if(-(2^64)<i/\i<2^64)\/(-(2^64)<j/\j<2^64)then .ok (.int (i*j))else .bad:=(rfl)
theorem acR{i:Int}(j:Int)(h1:-18446744073709551616<i)(h2:i<18446744073709551616):t9 (.int i) (.int j)=.ok (.int (i*j)):=by rw[pP,if_pos];exact .inl ⟨by omega,by omega⟩
theorem acQ(i:Int){j:Int}(h1:-18446744073709551616<j)(h2:j<18446744073709551616):t9 (.int i) (.int j)=.ok (.int (i*j)):=by rw[pP,if_pos];exact .inr ⟨by omega,by omega⟩
@[simp]theorem aeE(i j:Int):oDiv (.int i) (.int j)=if 0<j/\j<10^100 then .ok (.int (i/j))else .bad:=(rfl)
@[simp]theorem aeD(i j:Int):oMod (.int i) (.int j)=if 0<j then .ok (.int (i%j))else .bad:=(rfl)
@[simp]theorem aeB(i j:Int):ai2 (.int i) (.int j)=if 0<=j/\j<=1000/\i.natAbs<2^64 then .ok (.int (i^j.toNat))else .bad:=(rfl)
@[simp]theorem aeC(i:Int):oNeg (.int i)=.ok (.int (-i)):=(rfl)
@[simp]theorem agp(i j:Int):oLt (.int i) (.int j)=.ok (.bl (decide (i<j))):=(rfl)
@[simp]theorem agq(i j:Int):oLe (.int i) (.int j)=.ok (.bl (decide (i<=j))):=(rfl)
@[simp]theorem agB(i j:Int):oGt (.int i) (.int j)=.ok (.bl (decide (j<i))):=(rfl)
@[simp]theorem agC(i j:Int):oGe (.int i) (.int j)=.ok (.bl (decide (j<=i))):=(rfl)
@[simp] theorem agF (i j:Int):oEq (.int i) (.int j)=.ok (.bl (decide (i=j))):=by simp[oEq,dM,eqv,Bool.beq_eq_decide_eq]
@[simp] theorem ago (i j:Int):oNe (.int i) (.int j)=.ok (.bl (!decide (i=j))):=by simp[oNe,dM,eqv,Bool.beq_eq_decide_eq]
@[simp] theorem zS (j:Int):oEq .non (.int j)=.ok (.bl false):=(rfl)
@[simp]theorem zT(j:Int):oEq (.int j) .non=.ok (.bl false):=(rfl)
@[simp]theorem agE:oEq .non .non=.ok (.bl true):=(rfl)
@[simp]theorem zP(j:Int):oNe .non (.int j)=.ok (.bl true):=(rfl)
@[simp]theorem zQ(j:Int):oNe (.int j) .non=.ok (.bl true):=(rfl)
@[simp]theorem agn:oNe .non .non=.ok (.bl false):=(rfl)
@[simp] theorem aic (a b:Bool):oEq (.bl a) (.bl b)=.ok (.bl (a==b)):=by simp[oEq,dM,eqv]
@[simp] theorem ah7 (a b:Bool):oNe (.bl a) (.bl b)=.ok (.bl (a != b)):=by simp[oNe,dM,eqv,bne]
@[simp] theorem agA (x:W):oIs x .non=.ok (.bl (mr x)):=(rfl)
@[simp]theorem ah8(x:W)(b:Bool):oIs x (.bl b)=.ok (.bl (isB b x)):=(rfl)
@[simp]theorem aa4(x:W):yi x .non=.ok (.bl (!mr x)):=(rfl)
@[simp]theorem acS(x:W)(b:Bool):yi x (.bl b)=.ok (.bl (!isB b x)):=(rfl)
@[simp]theorem adC:mr .non=true:=(rfl)
@[simp]theorem adD(i:Int):mr (.int i)=false:=(rfl)
@[simp]theorem ain(a b:Bool):isB a (.bl b)=(a==b):=(rfl)
@[simp]theorem agz(xs:List W)(i:Int):oIx (.lst xs) (.int i)=ofO (atI xs i):=(rfl)
@[simp]theorem agr(xs:List W)(i:Int):oIx (.tup xs) (.int i)=ofO (atI xs i):=(rfl)
@[simp]theorem agl(xs:List W)(l h:Option Int):oSl (.lst xs) l h=.ok (.lst (cut xs l h)):=(rfl)
@[simp]theorem agj(xs:List W)(l h:Option Int):oSl (.tup xs) l h=if sIx xs.length 0 l=0/\sIx xs.length xs.length h=xs.length then .bad else .ok (.tup (cut xs l h)):=(rfl)
theorem vn{α:Type}(xs:List α)(k:Nat):atI xs (k:Int)=xs[k]?:=by
 unfold atI ixN;by_cases h:k<xs.length;·rw[if_pos (by omega),if_pos (by omega)];simp
 ·rw[if_pos (by omega),if_neg (by omega)];simp;omega
@[simp]theorem ahz{α:Type}(xs:List α)(k:Nat):atI xs (no_index(@OfNat.ofNat Int k _))=xs[k]?:=vn xs k
@[simp]theorem afc(xs:List W):cx [.lst xs]=.ok (.int xs.length):=(rfl)
@[simp]theorem afb(xs:List W):cx [.tup xs]=.ok (.int xs.length):=(rfl)
@[simp]theorem abb(xs:List W):ij [.lst xs]=.ok (.tup xs):=(rfl)
@[simp]theorem aba(xs:List W):ij [.tup xs]=.ok (.tup xs):=(rfl)
@[simp]theorem ad7(xs:List W):ad8 [.lst xs]=.ok (.lst xs):=(rfl)
@[simp]theorem ad6(xs:List W):ad8 [.tup xs]=.ok (.lst xs):=(rfl)
@[simp]theorem aff(i:Int):ajd [.int i]=.ok (.int (if i<0 then -i else i)):=(rfl)
@[simp]theorem ad5(i j:Int):ahv [.int i,.int j]=.ok (.int (if j>i then j else i)):=(rfl)
@[simp]theorem ahx(b:Bool):aiG [.bl b]=.ok (.int (if b then 1 else 0)):=(rfl)
@[simp]theorem afe(i:Int):aiG [.int i]=.ok (.int i):=(rfl)
noncomputable def oB(o:Option Bool):Res W:=match o with|some b=>.ok (.bl b)|none=>.bad
@[simp]theorem agG(b:Bool):oB (some b)=.ok (.bl b):=(rfl)
@[simp]theorem abc(x:W)(t:String):bx [x,.ty t]=oB (isK x t):=by cases h:isK x t<;>simp[bx,oB,h]
@[simp]theorem ahy(xs:List W):xM [.lst xs]=oB (allB xs):=by cases h:allB xs<;>simp[xM,oB,h]
@[simp]theorem agU(e:EF)(σ:Ws):xb e σ=(e σ).bind itemsOf:=(rfl)
noncomputable def afS:W->Res (List W)|.int j=>if -(2^62)<=j/\j<2^62 then .ok (rng 0 j.toNat)else .bad|_=>.bad
@[simp]theorem aeq(j:Int):afS (.int j)=if -(2^62)<=j/\j<2^62 then .ok (rng 0 j.toNat)else .bad:=(rfl)
@[simp]theorem aeX(e:EF)(σ:Ws):n4 e σ=(e σ).bind afS:=by unfold n4 afS;congr 1
noncomputable def afR:W->W->Res (List W)|.int i,.int j=>if -(2^62)<=i/\i<2^62/\-(2^62)<=j/\j<2^62 then .ok (rng i (j-i).toNat)else .bad|_,_=>.bad
@[simp]theorem aep(i j:Int):afR (.int i) (.int j)=if -(2^62)<=i/\i<2^62/\-(2^62)<=j/\j<2^62 then .ok (rng i (j-i).toNat)else .bad:=(rfl)
@[simp]theorem aeW(e e':EF)(σ:Ws):nZ e e' σ=(e σ).bind fun x=>(e' σ).bind fun y=>afR x y:=by unfold nZ afR;congr 1
noncomputable def xy:W->Res (List W)|.tup xs=>.ok (n8 0 xs)|.lst xs=>.ok (n8 0 xs)|_=>.bad
@[simp]theorem adU(xs:List W):xy (.lst xs)=.ok (n8 0 xs):=(rfl)
@[simp]theorem adT(xs:List W):xy (.tup xs)=.ok (n8 0 xs):=(rfl)
@[simp]theorem aeY(e:EF)(σ:Ws):aaz e σ=(e σ).bind xy:=by unfold aaz xy;congr 1
@[simp] theorem aa1 (lo:Int) (n:Nat):(rng lo n).length=n:=by simp[rng]
@[simp] theorem ae2 (i:Nat) (w:W) (σ:Ws):ay i w σ=.ok (σ.set i (.va w)):=(rfl)
@[simp]theorem ae1(σ:Ws):uP [] σ=.ok σ:=(rfl)
@[simp]theorem aa6(g:GF)(gs:GsF)(w:W)(r:List W)(σ:Ws):dW g gs (w::r) σ=(jQ (g w σ)).bind fun σ'=>jQ (gs r σ'):=by unfold dW;show(match g w σ with|.ok σ'=>(match gs r σ' with|.ok σ2=>Res.ok σ2|_=>.bad)|_=>.bad)=_;cases g w σ with|ok a=>simp only[xJ,kR];cases gs r a<;>rfl|ex c=>rfl|bad=>rfl
@[simp]theorem ae0(gs:GsF)(ws:List W)(σ:Ws):vy gs (.tup ws) σ=gs ws σ:=(rfl)
noncomputable def afA(σ:Ws)(i:Nat)(ws:List W)(w:W):Res W->Res Ws|.ok (.int k)=>(match ixN ws.length k with|some j=>.ok (σ.set i (.ow (ws.set j w)))|none=>.bad)|_=>.bad
noncomputable def afz(σ:Ws)(i:Nat)(w:W)(r:Res W):Option Sl->Res Ws|some (.ow ws)=>afA σ i ws w r|_=>.bad
@[simp]theorem ag0(i:Nat)(e:EF)(w:W)(σ:Ws):ag1 i e w σ=afz σ i w (e σ) σ[i]?:=by unfold ag1 afz;cases h:σ[i]? with|none=>rfl|some sl=>cases sl with|no=>rfl|va _=>rfl|od _ _=>rfl|ob=>rfl|ow ws=>unfold afA;cases e σ with|bad=>rfl|ex c=>rfl|ok k=>cases k<;>rfl
@[simp]theorem afy(σ:Ws)(i:Nat)(w:W)(r:Res W)(ws:List W):afz σ i w r (some (.ow ws))=afA σ i ws w r:=(rfl)
noncomputable def adN(σ:Ws)(i:Nat):Option Sl->Ws|some (.ow ws)=>σ.set i (.va (.lst ws))|some (.od ks vs)=>σ.set i (.va (.dic ks vs))|_=>σ
@[simp]theorem aiq(i:Nat)(σ:Ws):frz i σ=adN σ i σ[i]?:=by unfold frz adN;split<;>simp_all
@[simp]theorem ag3(σ:Ws)(i:Nat)(ws:List W):adN σ i (some (.ow ws))=σ.set i (.va (.lst ws)):=(rfl)
@[simp]theorem ag4(σ:Ws)(i:Nat)(ks vs:List W):adN σ i (some (.od ks vs))=σ.set i (.va (.dic ks vs)):=(rfl)
@[simp]theorem ag2(σ:Ws)(i:Nat)(w:W):adN σ i (some (.va w))=σ:=(rfl)
noncomputable def plR:Res W->Res W|.ok w=>if plain w then .ok w else .bad|_=>.bad
@[simp]theorem ahW(w:W):plR (.ok w)=if plain w=true then .ok w else .bad:=(rfl)
@[simp]theorem ahm(i:Nat)(e:EF)(σ:Ws):aiB i e σ=plR (e (frz i σ)):=by unfold aiB plR;cases e (frz i σ)<;>rfl
@[simp]theorem afu(i:Nat)(t:TF)(σ:Ws):aef i t σ=jQ (t (frz i σ)):=by unfold aef jQ;cases t (frz i σ)<;>rfl
@[simp]theorem aco(i:Int):plain (.int i)=true:=(rfl)
@[simp]theorem acn:plain .non=true:=(rfl)
@[simp]theorem aeu(b:Bool):plain (.bl b)=true:=(rfl)
@[simp]theorem acm(b:Str):plain (.str b)=true:=(rfl)
@[simp] theorem ack (xs:List W):plain (.tup xs)=d6 xs:=by simp[plain]
@[simp] theorem aa2:d6 []=true:=by simp[d6]
@[simp] theorem zC (x:W) (xs:List W):d6 (x::xs)=(plain x&&d6 xs):=by simp[d6]
theorem qM (xs:List W):d6 xs=true ↔ ∀ x∈xs,plain x=true:=by
  induction xs with
  | nil=>simp
  | cons x xs ih=>simp[ih]
@[simp]theorem aeQ(e:EF)(σ:Ws):agR e σ=(e σ).bind itemsOf:=(rfl)
@[simp]theorem afq(σ:Ws):pb σ=.ok true:=(rfl)
@[simp]theorem aeR(k:Nat)(it:LF)(g:GF)(t:TF)(e:EF)(σ:Ws):wR k it g t e σ=(it σ).bind fun xs=>if xs.length<=lim then jQ (a6 g t e (List.replicate k .no++σ) xs)else .bad:=by unfold wR;congr 1;funext xs;cases a6 g t e (List.replicate k .no++σ) xs<;>rfl
@[simp]theorem ae6(k:Nat)(it:LF)(g:GF)(t:TF)(e:EF)(σ:Ws):rA k it g t e σ=(wR k it g t e σ).bind fun xs=>.ok (.lst xs):=(rfl)
noncomputable def zk(o:Out)(b:SF):Out:=match o with|.nx σ'=>b σ'|o=>o
@[simp]theorem gu(σ:Ws)(b:SF):zk (.nx σ) b=b σ:=(rfl)
@[simp]theorem afD(w:W)(b:SF):zk (.rt w) b=.rt w:=(rfl)
@[simp]theorem aek(p:Prop)[Decidable p](x y:Out)(b:SF):zk (if p then x else y) b=if p then zk x b else zk y b:=by split<;>rfl
@[simp]theorem gw(a b:SF)(σ:Ws):aX a b σ=zk (a σ) b:=(rfl)
@[simp]theorem ahR(σ:Ws):sNx σ=.nx σ:=(rfl)
@[simp]theorem afH(i:Nat)(e:EF)(σ:Ws):eG i e σ=ofR σ (e σ) fun w=>.nx (σ.set i (.va w)):=(rfl)
@[simp]theorem aem(i:Nat)(l:LF)(σ:Ws):tf i l σ=ofR σ (l σ) fun ws=>.nx (σ.set i (.ow ws)):=(rfl)
@[simp]theorem afO(e:EF)(g:GF)(σ:Ws):abV e g σ=ofR σ (e σ) fun w=>ofR σ (g w σ) fun σ'=>.nx σ':=(rfl)
@[simp]theorem ahS(t:TF)(a b:SF)(σ:Ws):sIf t a b σ=ofR σ (t σ) fun x=>if x=true then a σ else b σ:=by unfold sIf;congr 1;funext x;cases x<;>rfl
@[simp]theorem afI(e:EF)(σ:Ws):b8 e σ=ofR σ (e σ) fun w=>.rt w:=(rfl)
@[simp]theorem aen(σ:Ws):afJ σ=.rt .non:=(rfl)
@[simp]theorem aeo(e:EF)(σ:Ws):afM e σ=ofR σ (e σ) fun _=>.nx σ:=(rfl)
@[simp]theorem ahU(σ:Ws):sBk σ=.bk σ:=(rfl)
@[simp]theorem ahT(σ:Ws):sCt σ=.ct σ:=(rfl)
noncomputable def abd(σ:Ws)(i:Nat)(r:Res W):Option Sl->Out|some (.ow ws)=>ofR σ r fun w=>if ws.length<lim then .nx (σ.set i (.ow (ws++[w])))else .bad|_=>.bad
@[simp]theorem afP(i:Nat)(e:EF)(σ:Ws):sApp i e σ=abd σ i (e σ) σ[i]?:=by unfold sApp abd;split<;>simp_all
@[simp]theorem ahA(σ:Ws)(i:Nat)(r:Res W)(ws:List W):abd σ i r (some (.ow ws))=ofR σ r fun w=>if ws.length<lim then .nx (σ.set i (.ow (ws++[w])))else .bad:=(rfl)
@[simp]theorem afK(i:Nat)(t:SF)(σ:Ws):vx i t σ=t (frz i σ):=(rfl)
@[simp]theorem afL(it:LF)(g:GF)(b:SF)(σ:Ws):tm it g b σ=ofR σ (it σ) fun xs=>forL g b xs σ:=(rfl)
@[simp]theorem abR(n:Ws->Nat)(c:TF)(b:SF)(σ:Ws):sZ n c b σ=bZ c b (n σ) σ:=(rfl)
@[simp]theorem afE(c:W)(σ:Ws)(b:SF):zk (.ex c σ) b=.ex c σ:=(rfl)
@[simp]theorem abT(nm:String)(a:AF)(σ:Ws):fk nm a σ=ofR σ (a σ) fun ws=>if ws.length<=100 then .ex (.exc nm []) σ else .bad:=(rfl)
@[simp]theorem aaM(d nm:String)(fs:List W):jy d (.exc nm fs)=aeg nm d:=(rfl)
noncomputable def y8(o:Out)(k:W->Ws->Out):Out:=match o with|.ex c σ=>k c σ|o=>o
@[simp]theorem afm(σ:Ws)(k:W->Ws->Out):y8 (.nx σ) k=.nx σ:=(rfl)
@[simp]theorem afl(w:W)(k:W->Ws->Out):y8 (.rt w) k=.rt w:=(rfl)
@[simp]theorem afn(c:W)(σ:Ws)(k:W->Ws->Out):y8 (.ex c σ) k=k c σ:=(rfl)
@[simp]theorem afG(b:SF)(d:String)(h:SF)(σ:Ws):ahQ b d h σ=y8 (b σ) (hOut d h):=by unfold ahQ y8;rfl
@[simp]theorem abS(b:SF)(d:String)(i:Nat)(h:SF)(σ:Ws):x3 b d i h σ=y8 (b σ) (xm d i h):=by unfold x3 y8;rfl
noncomputable def aeI(o:Out):Out:=match o with|.ex _ _=>.bad|o=>o
@[simp]theorem agJ(σ:Ws):aeI (.nx σ)=.nx σ:=(rfl)
@[simp]theorem agI(w:W):aeI (.rt w)=.rt w:=(rfl)
@[simp]theorem agX(d:String)(h:SF)(c:W)(σ:Ws):hOut d h c σ=if jy d c then aeI (h σ)else .bad:=by unfold hOut aeI;rfl
noncomputable def xN(i:Nat)(o:Out):Out:=match o with|.nx σ2=>.nx (σ2.set i .no)|.rt w=>.rt w|_=>.bad
@[simp]theorem afh(i:Nat)(σ:Ws):xN i (.nx σ)=.nx (σ.set i .no):=(rfl)
@[simp]theorem afg(i:Nat)(w:W):xN i (.rt w)=.rt w:=(rfl)
@[simp]theorem aeZ(d:String)(i:Nat)(h:SF)(c:W)(σ:Ws):xm d i h c σ=if jy d c then xN i (h (σ.set i (.va c)))else .bad:=by unfold xm xN;rfl
noncomputable def fin:Out->Res W|.rt w=>.ok w|.nx _=>.ok .non|.ex c _=>.ex c|_=>.bad
@[simp]theorem ait(w:W):fin (.rt w)=.ok w:=(rfl)
@[simp]theorem aiv(c:W)(σ:Ws):fin (.ex c σ)=.ex c:=(rfl)
@[simp]theorem aiu(σ:Ws):fin (.nx σ)=.ok .non:=(rfl)
@[simp]theorem ag6(p:Prop)[Decidable p](x y:Out):fin (if p then x else y)=if p then fin x else fin y:=by split<;>rfl
@[simp]theorem run_eq(n:Nat)(t:SF)(ws:List W):run n t ws=fin (t (ws.map .va++List.replicate (n-ws.length) .no)):=by unfold run fin;rfl
@[simp]theorem aik:lim=1000000:=(rfl)
noncomputable def fA(o:Out)(k:SF):Out:=match o with|.nx σ2=>k σ2|.ct σ2=>k σ2|.bk σ2=>.nx σ2|o=>o
@[simp]theorem aeK(σ:Ws)(k:SF):fA (.nx σ) k=k σ:=(rfl)
@[simp]theorem aeM(σ:Ws)(k:SF):fA (.ct σ) k=k σ:=(rfl)
@[simp]theorem aeN(σ:Ws)(k:SF):fA (.bk σ) k=.nx σ:=(rfl)
@[simp]theorem aeL(c:W)(σ:Ws)(k:SF):fA (.ex c σ) k=.ex c σ:=(rfl)
@[simp]theorem aeJ(w:W)(k:SF):fA (.rt w) k=.rt w:=(rfl)
@[simp]theorem ac4(p:Prop)[Decidable p](x y:Out)(k:SF):fA (if p then x else y) k=if p then fA x k else fA y k:=by split<;>rfl
theorem dB(g:GF)(b:SF)(x:W)(xs:List W)(σ:Ws):forL g b (x::xs) σ=ofR σ (g x σ) fun σ1=>fA (b σ1) (forL g b xs):=by show ofR σ (g x σ) _=_;congr 1
@[simp]theorem ae3(g:GF)(b:SF)(σ:Ws):forL g b [] σ=.nx σ:=(rfl)
theorem jx{g:GF}{t:TF}{e:EF}{σ:Ws}{ι:Type}{emb f:ι->W}:∀{xs:List ι},(∀x∈xs,∃σ1,g (emb x) σ=.ok σ1/\t σ1=.ok true/\e σ1=.ok (f x))->a6 g t e σ (xs.map emb)=.ok (xs.map f)|[],_=>rfl|x::xs,h=>by obtain⟨σ1,h1,h2,h3⟩:=h x (by simp);have ih:=jx (xs:=xs) fun y hy=>h y (by simp[hy]);simp only[List.map_cons,a6,h1,h2,h3,kR,ih]
end WL
namespace ML
open PySem WL
noncomputable abbrev S3:=Int×Int×Int
noncomputable def stW(p:S3):W:=.tup [.int p.1,.int p.2.1,.int p.2.2]
noncomputable def spW(p:Int×Int):W:=.tup [.int p.1,.int p.2]
noncomputable def flW(f:List S3):W:=.tup (f.map stW)
noncomputable def jH(p:S3):Int×Int:=(p.1,p.2.1)
@[simp] theorem age (n:Nat) (i:Int):okD n (.int i)=true:=by simp[okD]
@[simp] theorem ah0 (n:Nat) (p:Int×Int):okD (n+1) (spW p)=true:=by simp[okD,bH,spW]
@[simp] theorem ahY (n:Nat) (p:S3):okD (n+1) (stW p)=true:=by simp[okD,bH,stW]
theorem kF (n:Nat):∀(xs:List W),(∀ x∈xs,okD n x=true)->bH (n+1) xs=true
  | [],_=>by simp[bH]
  | x::xs,h=>by simp only[bH,Bool.and_eq_true];exact⟨h x (by simp),kF n xs fun y hy=>h y (by simp[hy])⟩
@[simp]theorem ah1(n:Nat)(f:List S3):okD (n+2) (flW f)=true:=by simp only[okD,flW];exact kF (n+1) _ fun x hx=>by obtain⟨p,_,rfl⟩:=List.mem_map.mp hx;simp
theorem uV(p q:Int×Int):eqv (spW p) (spW q)=decide (p=q):=by obtain⟨a,b⟩:=p;obtain⟨c,d⟩:=q;rw[Bool.eq_iff_iff];simp[eqv,gh,spW]
theorem qh(p q:S3):eqv (stW p) (stW q)=decide (p=q):=by obtain⟨a,b,e⟩:=p;obtain⟨c,d,k⟩:=q;rw[Bool.eq_iff_iff];simp[eqv,gh,stW]
theorem uU:∀f g:List S3,gh (f.map stW) (g.map stW)=decide (f=g)|[],[]=>by simp[gh]|[],_::_=>by simp[gh]|_::_,[]=>by simp[gh]|p::f,q::g=>by simp only[List.map_cons,gh,qh,uU f g];rw[Bool.eq_iff_iff];simp
theorem uW(f g:List S3):eqv (flW f) (flW g)=decide (f=g):=by simp only[flW,eqv,uU]
@[simp]theorem aia(p q:Int×Int):oEq (spW p) (spW q)=.ok (.bl (decide (p=q))):=by have:dM (spW p) (spW q)=false:=rfl;simp[oEq,this,uV]
@[simp]theorem ah5(p q:Int×Int):oNe (spW p) (spW q)=.ok (.bl (!decide (p=q))):=by have:dM (spW p) (spW q)=false:=rfl;simp[oNe,this,uV]
@[simp]theorem aib(p q:List S3):oEq (flW p) (flW q)=.ok (.bl (decide (p=q))):=by have:dM (flW p) (flW q)=false:=rfl;simp[oEq,this,uW]
@[simp]theorem ah6(p q:List S3):oNe (flW p) (flW q)=.ok (.bl (!decide (p=q))):=by have:dM (flW p) (flW q)=false:=rfl;simp[oNe,this,uW]
@[simp] theorem aes (p:S3):plain (stW p)=true:=by simp[stW]
@[simp] theorem aet (p:Int×Int):plain (spW p)=true:=by simp[spW]
@[simp] theorem acj (f:List S3):d6 (f.map stW)=true:=(qM _).mpr fun x hx=>by
  obtain⟨p,_,rfl⟩:=List.mem_map.mp hx
  simp
@[simp]theorem agu(p:S3):oIx (stW p) (.int 0)=.ok (.int p.1):=(rfl)
@[simp]theorem agt(p:S3):oIx (stW p) (.int 1)=.ok (.int p.2.1):=(rfl)
@[simp]theorem ags(p:S3):oIx (stW p) (.int 2)=.ok (.int p.2.2):=(rfl)
@[simp]theorem agw(p:Int×Int):oIx (spW p) (.int 0)=.ok (.int p.1):=(rfl)
@[simp]theorem agv(p:Int×Int):oIx (spW p) (.int 1)=.ok (.int p.2):=(rfl)
@[simp] theorem agk (p:S3):oSl (stW p) none (some 2)=.ok (spW (jH p)):=by simp[stW,spW,jH,sIx,cut]
mutual
theorem eqv_refl:∀(n:Nat)(x:W),okD n x=true->eqv x x=true|_,.non,_=>by simp[eqv]|_,.bl _,_=>by simp[eqv]|_,.int _,_=>by simp[eqv]|_,.str _,_=>by simp[eqv]|_,.ty _,h=>by simp[okD]at h|n,.tup xs,h=>by simp only[eqv];exact ju n xs (by simpa only[okD]using h)|n,.lst xs,h=>by simp only[eqv];exact ju n xs (by simpa only[okD]using h)|_,.dic _ _,h=>by simp[okD]at h|_,.cls _,h=>by simp[okD]at h|_,.exc _ _,h=>by simp[okD]at h|_,.ins _ _,h=>by simp[okD]at h
theorem ju:∀(n:Nat)(xs:List W),bH n xs=true->gh xs xs=true|_,[],_=>by simp[gh]|0,_::_,h=>by simp[bH]at h|n+1,x::xs,h=>by simp only[bH,Bool.and_eq_true]at h;simp only[gh,Bool.and_eq_true];exact⟨eqv_refl n x h.1,ju (n+1) xs h.2⟩
end
theorem wt{x:W}(h:okD 50 x=true):oNe x x=.ok (.bl false):=by unfold oNe;simp[h,eqv_refl 50 x h]
theorem pQ{x:W}(h:okD 50 x=true):oEq x x=.ok (.bl true):=by unfold oEq;simp[h,eqv_refl 50 x h]
end ML
namespace ML
open PySem WL
theorem toNat_inj{a b:Char}(h:a.toNat=b.toNat):a=b:=Char.ext (UInt32.toNat_inj.mp h)
@[simp]theorem ye(a b:String):(Str.ofString a=Str.ofString b)=(a=b):=by
 apply propext;constructor
 ·intro h;rw[Str.ofString_eq_toList,Str.ofString_eq_toList]at h;have h2:a.toList.map Char.toNat=b.toList.map Char.toNat:=by have:=congrArg Str.cps h;simpa using this
  have h3:a.toList=b.toList:=List.map_inj_right (fun _ _=>toNat_inj)|>.mp h2;exact String.toList_inj.mp h3
 ·intro h;rw[h]
@[simp]theorem yf(a b:String):(Str.ofString a==Str.ofString b)=(a==b):=by rw[Bool.eq_iff_iff];simp
theorem aaL(c:Char):c.toNat<0x110000:=by have h:=c.valid;have ht:c.toNat=c.val.toNat:=rfl;simp only[UInt32.isValidChar,Nat.isValidChar]at h;omega
@[simp]theorem agd(n:Nat)(a:String):okD n (.str (Str.ofString a))=true:=by simp only[okD,Str.ofString_eq_toList];simp only[List.all_toArray,List.all_map,List.all_eq_true,Function.comp,decide_eq_true_eq];intro c _;exact aaL c
@[simp] theorem agc (n:Nat):okD n .non=true:=by simp[okD]
@[simp] theorem ah3 (n:Nat) (b:Bool):okD n (.bl b)=true:=by simp[okD]
@[simp] theorem t6 (n:Nat) (xs:List W):okD n (.tup xs)=bH n xs:=by simp[okD]
@[simp] theorem zL (n:Nat) (xs:List W):okD n (.lst xs)=bH n xs:=by simp[okD]
@[simp] theorem aey (n:Nat):bH (n+1) []=true:=by simp[bH]
@[simp] theorem acM (n:Nat) (x:W) (xs:List W):bH (n+1) (x::xs)=(okD n x&&bH (n+1) xs):=by simp[bH]
@[simp] theorem agD (a b:Str):oEq (.str a) (.str b)=.ok (.bl (decide (a=b))):=by simp[oEq,dM,eqv,Bool.beq_eq_decide_eq]
@[simp] theorem agm (a b:Str):oNe (.str a) (.str b)=.ok (.bl (!decide (a=b))):=by simp[oNe,dM,eqv,Bool.beq_eq_decide_eq]
@[simp] theorem ahc (a b:Str):eqv (.str a) (.str b)=(a==b):=by simp[eqv]
@[simp] theorem ahe (a b:Int):eqv (.int a) (.int b)=(a==b):=by simp[eqv]
@[simp] theorem ahb (a b:List W):eqv (.tup a) (.tup b)=gh a b:=by simp[eqv]
@[simp] theorem ahd (a b:List W):eqv (.lst a) (.lst b)=gh a b:=by simp[eqv]
@[simp] theorem ag7:gh [] []=true:=by simp[gh]
@[simp] theorem ag8 (x:W) (xs:List W):gh [] (x::xs)=false:=by simp[gh]
@[simp] theorem ag9 (x:W) (xs:List W):gh (x::xs) []=false:=by simp[gh]
@[simp] theorem aha (x y:W) (xs ys:List W):gh (x::xs) (y::ys)=(eqv x y&&gh xs ys):=by simp[gh]
@[simp] theorem abe (x:W):bJ x []=false:=by simp[bJ]
@[simp] theorem aaT (x y:W) (ys:List W):bJ x (y::ys)=(eqv y x || bJ x ys):=by simp[bJ]
@[simp] theorem ad0 (k x:Str) (ks:List W) (v:W) (vs:List W):nc k (.str x::ks) (v::vs)=if x==k then some v else nc k ks vs:=by simp[nc]
@[simp] theorem aeV (x y:W) (k:Nat) (ys:List W):idx x k (y::ys)=if eqv y x then some k else idx x (k+1) ys:=by simp[idx]
noncomputable def onW:Option Nat->W
  | none=>.non
  | some k=>.int k
@[simp]theorem aex:onW none=.non:=(rfl)
@[simp]theorem aew(k:Nat):onW (some k)=.int k:=(rfl)
inductive What where|none|any|same|left|about|right|partner|opposite
inductive Lone where|head|side|lefts|rights|inward|outward|sideways
noncomputable def What.w:What->String|.none=>"none"|.any=>"any"|.same=>"same"|.left=>"left"|.about=>"about"|.right=>"right"|.partner=>"partner"|.opposite=>"opposite"
noncomputable def Lone.w:Lone->String|.head=>"head"|.side=>"side"|.lefts=>"lefts"|.rights=>"rights"|.inward=>"inward"|.outward=>"outward"|.sideways=>"sideways"
inductive Tst where|lone(l:Lone)|at(a r:Int)(w:What)|inner(n:Int)
noncomputable def Tst.W:Tst->WL.W|.lone l=>.tup [.str l.w]|.at a r w=>.tup [.str "at",.int a,.int r,.str w.w]|.inner n=>.tup [.str "inner",.int n]
noncomputable def tsW(neg:Bool)(t:Tst):WL.W:=if neg then .tup [.str "not",t.W]else t.W
inductive Go where|ahead|back|left|right
inductive Tn where|left|right|about
noncomputable def Go.w:Go->String|.ahead=>"ahead"|.back=>"back"|.left=>"left"|.right=>"right"
noncomputable def Tn.w:Tn->String|.left=>"left"|.right=>"right"|.about=>"about"
inductive Stp where|go(g:Go)(n:Int)|turn(t:Tn)
noncomputable def Stp.W:Stp->WL.W|.go g n=>.tup [.str g.w,.int n]|.turn t=>.tup [.str "turn",.str t.w]
structure Rl where ts:List (Bool×Tst)ss:Option (List Stp)
noncomputable def tsL(ts:List (Bool×Tst)):WL.W:=.tup (ts.map fun p=>tsW p.1 p.2)
noncomputable def ssW:Option (List Stp)->WL.W|none=>.tup [.tup [.str "stay"]]|some l=>.tup (l.map Stp.W)
noncomputable def Rl.W(r:Rl):WL.W:=.tup [tsL r.ts,ssW r.ss]
noncomputable def clW(c:List Rl):WL.W:=.lst (c.map Rl.W)
@[simp] theorem agf (n:Nat) (t:Tst):okD (n+1) t.W=true:=by cases t<;>simp[Tst.W]
@[simp] theorem acN (n:Nat) (g:Bool) (t:Tst):okD (n+2) (tsW g t)=true:=by
  cases g
  · exact agf (n+1) t
  · simp[tsW]
@[simp] theorem agg (n:Nat) (t:Stp):okD (n+1) t.W=true:=by cases t<;>simp[Stp.W]
theorem nH {ι:Type} (n:Nat) (g:ι->W) (l:List ι) (h:∀ x∈l,okD n (g x)=true):bH (n+1) (l.map g)=true:=kF n _ fun x hx=>by
  obtain⟨p,hp,rfl⟩:=List.mem_map.mp hx
  exact h p hp
@[simp]theorem agb(n:Nat)(ts:List (Bool×Tst)):okD (n+3) (tsL ts)=true:=by simp only[tsL,t6];exact nH (n+2) _ _ fun p _=>acN n p.1 p.2
@[simp]theorem ahZ(n:Nat)(s:Option (List Stp)):okD (n+2) (ssW s)=true:=by cases s with|none=>simp[ssW]|some l=>simp only[ssW,t6];exact nH (n+1) _ _ fun p _=>agg n p
@[simp] theorem acO (n:Nat) (r:Rl):okD (n+4) r.W=true:=by simp[Rl.W]
@[simp] theorem ah2 (n:Nat) (c:List Rl):okD (n+5) (clW c)=true:=by
  simp only[clW,zL]
  exact nH (n+4) _ _ fun p _=>acO n p
@[simp]theorem agy(r:Rl):oIx r.W (.int 0)=.ok (tsL r.ts):=(rfl)
@[simp]theorem agx(r:Rl):oIx r.W (.int 1)=.ok (ssW r.ss):=(rfl)
@[simp]theorem ah9(p q:S3):oEq (stW p) (stW q)=.ok (.bl (decide (p=q))):=by have:dM (stW p) (stW q)=false:=rfl;simp[oEq,this,qh]
noncomputable abbrev ahC(f:List S3):Prop:=f.Pairwise fun p r=>jH p≠jH r
inductive Met(f:List S3):W->Prop|none:ahC f->Met f .non|two(i j:Nat):i<j->j<f.length->jH (f.getD i (0,0,0))=jH (f.getD j (0,0,0))->(∀a b,a<i->a<b->b<f.length->jH (f.getD a (0,0,0))≠jH (f.getD b (0,0,0)))->(∀b,i<b->b<j->jH (f.getD i (0,0,0))≠jH (f.getD b (0,0,0)))->Met f (.tup [.int i,.int j])
end ML
namespace SG
open PySem SF
noncomputable def jn(sep:List Nat):List (List Nat)->List Nat|[]=>[]|[x]=>x|x::y::r=>x++(sep++jn sep (y::r))
noncomputable def aec(sub a r:List Nat):Prop:=∀j,j<a.length->sub.isPrefixOf ((a++r).drop j)=false
theorem nK(sub:List Nat)(k:Nat):∀(a r:List Nat)(i free:Nat),aec sub a r->iu sub k i free (a++r)=iu sub k (i+a.length) free r
|[],r,i,free,_=>by simp|c::a,r,i,free,h=>by
 have h0:=h 0 (by simp);simp only[List.cons_append,List.drop_zero]at h0;have ih:=nK sub k a r (i+1) free fun j hj=>by have:=h (j+1) (by simp;omega);simpa using this
 simp only[List.cons_append,iu,h0,Bool.and_false,Bool.false_eq_true,if_false,ih,List.length_cons];congr 1;omega
theorem pN(sub:List Nat)(k:Nat):∀(a r:List Nat)(i free:Nat),i+a.length<=free->iu sub k i free (a++r)=iu sub k (i+a.length) free r
|[],r,i,free,_=>by simp|c::a,r,i,free,h=>by
 have hb:Nat.ble free i=false:=by rw[Bool.eq_false_iff];intro z;rw[Nat.ble_eq]at z;simp at h;omega
 have ih:=pN sub k a r (i+1) free (by simp at h;omega);simp only[List.cons_append,iu,hb,Bool.false_and,Bool.false_eq_true,if_false,ih,List.length_cons];congr 1;omega
theorem zO(sub r:List Nat)(i:Nat)(hs:sub≠[]):iu sub sub.length i i (sub++r)=i::iu sub sub.length (i+sub.length) (i+sub.length) r:=by cases sub with|nil=>exact absurd rfl hs|cons c t=>
 have hp:(c::t).isPrefixOf (c::(t++r))=true:=by rw[List.isPrefixOf_iff_prefix];exact⟨r,rfl⟩
 have hb:Nat.ble i i=true:=by rw[Nat.ble_eq];exact Nat.le_refl _
 have sk:=pN (c::t) (c::t).length t r (i+1) (i+(c::t).length) (by simp;omega);simp only[List.cons_append,iu,hp,hb,Bool.and_self,if_true,sk];congr 2;simp;omega
noncomputable def pos(k:Nat):Nat->List (List Nat)->List Nat|_,[]=>[]|_,[_]=>[]|i,p::q::ps=>(i+p.length)::pos k (i+p.length+k) (q::ps)
noncomputable def Good(sub:List Nat):List (List Nat)->Prop|[]=>True|[p]=>aec sub p []|p::q::ps=>aec sub p (sub++jn sub (q::ps))/\Good sub (q::ps)
theorem yh{sub:List Nat}(hs:sub≠[]):∀(ps:List (List Nat))(i:Nat),Good sub ps->iu sub sub.length i i (jn sub ps)=pos sub.length i ps
|[],i,_=>by simp[jn,iu,pos]|[p],i,h=>by have:=nK sub sub.length p [] i i h;simp only[List.append_nil]at this;simp only[jn,pos,this,iu]|p::q::ps,i,h=>by
 have free:∀(l:List Nat)(a b:Nat),b<=a->iu sub sub.length a b (sub++l)=iu sub sub.length a a (sub++l):=fun l a b hb=>by cases sub with|nil=>exact absurd rfl hs|cons c t=>
  have h1:Nat.ble b a=true:=by rw[Nat.ble_eq];exact hb
  have h2:Nat.ble a a=true:=by rw[Nat.ble_eq];exact Nat.le_refl _
  have hp:(c::t).isPrefixOf (c::(t++l))=true:=by rw[List.isPrefixOf_iff_prefix];exact⟨l,rfl⟩
  simp only[List.cons_append,iu,h1,h2,hp,Bool.and_self,if_true]
 have e1:=nK sub sub.length p (sub++jn sub (q::ps)) i i h.1;simp only[jn,pos];rw[e1,free _ _ _ (by omega),zO sub _ _ hs,yh hs (q::ps) (i+p.length+sub.length) h.2]
theorem yA{sub:List Nat}:∀(ps:List (List Nat))(pre:List Nat),ps≠[]->yC (pre++jn sub ps) sub.length pre.length (pos sub.length pre.length ps)=ps.map fun p=>⟨p.toArray⟩
|[],pre,h=>absurd rfl h|[p],pre,_=>by simp[jn,pos,yC]|p::q::ps,pre,_=>by
 have ih:=yA (sub:=sub) (q::ps) (pre++p++sub) (by simp);have e:pre++jn sub (p::q::ps)=(pre++p++sub)++jn sub (q::ps):=by simp[jn]
 have el:(pre++p++sub).length=pre.length+p.length+sub.length:=by simp;omega
 rw[el]at ih;simp only[pos,yC,List.map_cons];rw[List.cons.injEq];refine⟨?_,?_⟩;·rw[e];simp[List.append_assoc]
 ·rw[e];exact ih
theorem vR{sub:List Nat}(hs:sub≠[])(ps:List (List Nat))(hp:ps≠[])(h:Good sub ps):fM ⟨(jn sub ps).toArray⟩ ⟨sub.toArray⟩=ps.map fun p=>⟨p.toArray⟩:=by have e:=yh hs ps 0 h;have c:=yA (sub:=sub) ps [] hp;unfold fM;simp only[Str.length,List.size_toArray];simp only[List.nil_append,List.length_nil]at c;match ps,hp,h,e,c with|[p],_,_,e,c=>simp only[pos]at e;rw[e];simp[jn]|p::q::ps,_,_,e,c=>rw[e];simp only[pos]at c⊢;exact c
theorem p9(sep:List Nat):∀ys:List Str,gB sep ys=jn sep (ys.map (·.cps.toList))|[]=>rfl|[x]=>rfl|x::y::r=>by have ih:=p9 sep (y::r);simp only[gB,jn,List.map_cons]at ih⊢;rw[ih]
theorem yv(sep:List Nat):∀(xs ys:List (List Nat)),xs≠[]->ys≠[]->jn sep (xs++ys)=jn sep xs++(sep++jn sep ys)|[],_,h,_=>absurd rfl h|[x],y::ys,_,_=>rfl|[x],[],_,h=>absurd rfl h|x::z::xs,ys,_,h=>by have ih:=yv sep (z::xs) ys (by simp) h;simp only[List.cons_append,jn]at ih⊢;rw[ih];simp
theorem no_space{a:List Nat}(h:32∉a)(r:List Nat):aec [32] a r:=fun j hj=>by rw[Bool.eq_false_iff];intro z;rw[List.isPrefixOf_iff_prefix]at z;rw[List.drop_append_of_le_length (by omega),List.drop_eq_getElem_cons hj]at z;obtain⟨t,e⟩:=z;simp only[List.cons_append,List.nil_append,List.cons.injEq]at e;exact h (e.1▸List.getElem_mem hj)
theorem qe{sub:List Nat}{c:Nat}(hs:∃t,sub=c::t):∀(ps:List (List Nat)),(∀p∈ps,∀r,(r=[]\/∃t,r=c::t)->aec sub p r)->Good sub ps|[],_=>trivial|[p],h=>h p (by simp) [] (.inl rfl)|p::q::ps,h=>by obtain⟨t,e⟩:=hs;exact⟨h p (by simp) _ (.inr ⟨t++jn sub (q::ps),by rw[e];rfl⟩),qe ⟨t,e⟩ (q::ps) fun x hx=>h x (List.mem_cons_of_mem _ hx)⟩
end SG
namespace SG
open PySem SF PySem.StrLaws PySem.Builtin PySem.Builtin.Str
noncomputable def J(sep:Str)(ws:List Str):Str:=⟨(gB sep.cps.toList ws).toArray⟩
theorem abf(sep:Str)(ws:List Str):J sep ws=⟨(jn sep.cps.toList (ws.map (·.cps.toList))).toArray⟩:=by unfold J;rw[p9]
theorem iS(x:Str):(⟨x.cps.toList.toArray⟩:Str)=x:=by cases x;rfl
theorem zh(sep:Str)(hs:sep.cps.toList≠[])(ws:List Str)(hw:ws≠[])(h:Good sep.cps.toList (ws.map (·.cps.toList))):fM (J sep ws) sep=ws:=by
 have:=vR hs (ws.map (·.cps.toList)) (by simpa using hw) h;rw[iS]at this;rw[abf,this,List.map_map];conv=>rhs;rw[<-List.map_id ws]
 exact List.map_congr_left fun x _=>iS x
theorem rN(sep:Str)(xs ys:List Str)(hx:xs≠[])(hy:ys≠[]):J sep (xs++ys)=J sep xs++sep++J sep ys:=by rw[abf,abf,abf,List.map_append,yv _ _ _ (by simpa using hx) (by simpa using hy)];show _=(⟨_++_++_⟩:Str);congr 1;apply Array.toList_inj.mp;simp
theorem oR(sep x:Str):J sep [x]=x:=iS x
theorem ahD(sep:Str):∀ws:List Str,(J sep ws).length<=(ws.map (·.length)).sum+ws.length*sep.length:=by intro ws;rw[abf];show(jn _ _).toArray.size<=_;rw[List.size_toArray];induction ws with|nil=>simp[jn]|cons x ws ih=>cases ws with|nil=>simp[jn,Str.length]|cons y ws=>simp only[List.map_cons,jn,List.length_append,List.sum_cons,List.length_cons]at ih⊢;simp only[Str.length,Array.length_toList]at ih⊢;rw[Nat.add_mul,Nat.one_mul];omega
end SG
namespace ML
open PySem WL
noncomputable def stR{α:Type}(k:α->W)(x:W):Option α->Res W|some a=>.ok (k a)|none=>.ex x
noncomputable def stN{α:Type}(k:α->W):Option α->W|some a=>k a|none=>.non
@[simp]theorem aeh{α:Type}(k:α->W)(x:W)(a:α):stR k x (some a)=.ok (k a):=(rfl)
@[simp]theorem aei{α:Type}(k:α->W)(x:W):stR k x none=.ex x:=(rfl)
@[simp]theorem aej{α:Type}(k:α->W)(a:α):stN k (some a)=k a:=(rfl)
end ML
namespace K43
open PySem WL
noncomputable def dh:W:=(.int 60)
noncomputable def aJ:W:=(.int 200)
noncomputable def dZ:W:=(.int 6)
noncomputable def oH:W:=(.tup [(.str "heads"),(.str "sides"),(.str "lefts"),(.str "rights")])
noncomputable def eV:W:=(.int 12)
noncomputable def eS:W:=(.int 6)
noncomputable def eU:W:=(.int 8)
noncomputable def aW:W:=(.int 9)
noncomputable def bw:W:=(.int 200)
noncomputable def du:W:=(.int 9)
noncomputable def oG:W:=(.tup [(.str "none"),(.str "any"),(.str "same"),(.str "left"),(.str "about"),(.str "right"),(.str "partner"),(.str "opposite")])
noncomputable def eW:W:=(.tup [(.str "head"),(.str "side"),(.str "lefts"),(.str "rights"),(.str "inward"),(.str "outward"),(.str "sideways")])
noncomputable def kQ:W:=(.tup [(.str "ahead"),(.str "back"),(.str "left"),(.str "right")])
noncomputable def gI:W:=(.tup [(.str "left"),(.str "right"),(.str "about")])
noncomputable def cw:W:=(.int 60)
noncomputable def cu:W:=(.int 8)
noncomputable def dE:W:=(.str "abcdefghijklmnopqrstuvwxyz")
noncomputable def qq:W:=(.tup [(.str "times"),(.str "heads"),(.str "sides"),(.str "lefts"),(.str "rights"),(.str "inner"),(.str "couples")])
noncomputable def eA:SF:=(b8 (eOp oMod (eOp t9 (eOp fc (eOp oMod (ah 0) (eC (.int 2147483647))) (eC (.int 7919))) (eOp fc (eC (.int 48271)) (eOp t9 (eOp t9 (eC (.int 69621)) (ah 1)) (ah 1)))) (eC (.int 2147483629))))
noncomputable def aZ:List W->Res W:=run 2 eA
noncomputable def eY:SF:=(aX (eG 1 (eC (.str "abcdefghijklmnopqrstuvwxyz"))) (aX (eG 2 (kN "str" gA (eC (.str "")) (aa (rA 1 (n4 (eOp fc (eC (.int 1)) (eOp oMod (ah 0) (eC (.int 8))))) (ay 0) pb (eOp wu (ah 2) (eOp oMod (bF aZ (aa (ah 1) (aa (eOp fc (eC (.int 60)) (ah 0)) aj))) (eC (.int 26))))) aj))) (aX (sIf (tB (eOp oIn (ah 2) (gF (aa (eC (.str "times")) (aa (eC (.str "heads")) (aa (eC (.str "sides")) (aa (eC (.str "lefts")) (aa (eC (.str "rights")) (aa (eC (.str "inner")) (aa (eC (.str "couples")) aj)))))))))) (b8 (eC (.str "a"))) sNx) (b8 (ah 2)))))
noncomputable def dC:List W->Res W:=run 3 eY
noncomputable def aI:SF:=(aX (eG 3 (bF dC (aa (ah 2) aj))) (sIf (aef 1 (tB (eOp d7 (ah 3) (ah 1)))) (sApp 1 (ah 3)) sNx))
noncomputable def fq:SF:=(aX (tf 1 (aeP aj)) (aX (tm (xb (eOp fc (eSl (ah 0) pNo (fb (eC (.int 5)))) (gF (aa (eC (.int 1)) (aa (eC (.int 2)) aj))))) (ay 2) aI) (vx 1 (b8 (ah 1)))))
noncomputable def cP:List W->Res W:=run 4 fq
noncomputable def gc:SF:=(sIf (tB (eOp oEq (eBi jA (aa (ah 3) aj)) (ah 0))) (b8 (ah 3)) sNx)
noncomputable def iQ:SF:=(aX (tm (nZ (ah 1) (eOp fc (ah 2) (eC (.int 1)))) (ay 3) gc) (b8 (eC .non)))
noncomputable def bh:List W->Res W:=run 4 iQ
noncomputable def cK:SF:=(aX (eG 3 (bF bh (aa (ah 0) (aa (ah 1) (aa (ah 2) aj))))) (aX (sIf (tB (eOp oIs (ah 3) (eC .non))) (cB "NoCall" (aa (eFf (ah 1)) (aa (eFf (ah 2)) (aa (eFr (ah 0)) aj)))) sNx) (b8 (ah 3))))
noncomputable def aN:List W->Res W:=run 4 cK
noncomputable def ly:SF:=(aX (sIf (tOr (tB (eOp oNe (eBi cx (aa (ah 0) aj)) (eC (.int 4)))) (tB (eOp d7 (eOp oIx (ah 0) (eC (.int 3))) (eC oG)))) (cB "NoCall" (aa (eFr (ah 0)) aj)) sNx) (aX (eG 1 (aP aN (aa (eOp oIx (ah 0) (eC (.int 1))) (aa (eUn oNeg (eC aW)) (aa (eC aW) aj))))) (aX (eG 2 (aP aN (aa (eOp oIx (ah 0) (eC (.int 2))) (aa (eUn oNeg (eC aW)) (aa (eC aW) aj))))) (aX (sIf (kg (tB (eOp oEq (ah 1) (eC (.int 0)))) (tB (eOp oEq (ah 2) (eC (.int 0))))) (fk "NoCall" (aa (eC (.str "a test of the dancer's own spot")) aj)) sNx) (b8 (cT (aa (eC (.str "at")) (aa (ah 1) (aa (ah 2) (aa (eOp oIx (ah 0) (eC (.int 3))) aj))))))))))
noncomputable def mE:List W->Res W:=run 3 ly
noncomputable def gP:SF:=(aX (sIf (tB (eOp oNe (eBi cx (aa (ah 0) aj)) (eC (.int 2)))) (cB "NoCall" (aa (eFr (ah 0)) aj)) sNx) (b8 (cT (aa (eC (.str "inner")) (aa (aP aN (aa (eOp oIx (ah 0) (eC (.int 1))) (aa (eC (.int 0)) (aa (eC bw) aj)))) aj)))))
noncomputable def ic:List W->Res W:=run 1 gP
noncomputable def dv:SF:=(aX (sIf (tB (eOp oEq (eOp oIx (ah 0) (eC (.int 0))) (eC (.str "at")))) (b8 (aP mE (aa (ah 0) aj))) sNx) (aX (sIf (tB (eOp oEq (eOp oIx (ah 0) (eC (.int 0))) (eC (.str "inner")))) (b8 (aP ic (aa (ah 0) aj))) sNx) (aX (sIf (tOr (tB (eOp oNe (eBi cx (aa (ah 0) aj)) (eC (.int 1)))) (tB (eOp d7 (eOp oIx (ah 0) (eC (.int 0))) (eC eW)))) (cB "NoCall" (aa (eFr (ah 0)) aj)) sNx) (b8 (cT (aa (eOp oIx (ah 0) (eC (.int 0))) aj))))))
noncomputable def cf:List W->Res W:=run 1 dv
noncomputable def iM:SF:=(aX (eG 1 (kN "str" dA (ah 0) (aa (eC (.str " ")) aj))) (aX (sIf (kg (tB (eOp oGt (eBi cx (aa (ah 1) aj)) (eC (.int 1)))) (tB (eOp oEq (eOp oIx (ah 1) (eC (.int 0))) (eC (.str "not"))))) (b8 (cT (aa (eC (.str "not")) (aa (aP cf (aa (eSl (ah 1) (fb (eC (.int 1))) pNo) aj)) aj)))) sNx) (b8 (aP cf (aa (ah 1) aj)))))
noncomputable def jq:List W->Res W:=run 2 iM
noncomputable def gM:SF:=(aX (eG 1 (kN "str" dA (ah 0) (aa (eC (.str " and ")) aj))) (aX (sIf (tB (eOp oGt (eBi cx (aa (ah 1) aj)) (eC eS))) (fk "NoCall" (aa (eC (.str "a rule of too many tests")) aj)) sNx) (b8 (eBi ij (aa (qi 1 (xb (ah 1)) (ay 0) pb (aP jq (aa (ah 0) aj))) aj)))))
noncomputable def ib:List W->Res W:=run 2 gM
noncomputable def iN:SF:=(aX (sIf (kg (tB (eOp oEq (ah 0) (eC (.str "turn")))) (tB (eOp oIn (ah 1) (eC gI)))) (b8 (cT (aa (ah 0) (aa (ah 1) aj)))) sNx) (aX (sIf (tB (eOp d7 (ah 0) (eC kQ))) (cB "NoCall" (aa (eFr (ah 0)) (aa (eFr (ah 1)) aj))) sNx) (b8 (cT (aa (ah 0) (aa (aP aN (aa (ah 1) (aa (eC (.int 1)) (aa (eC du) aj)))) aj))))))
noncomputable def jr:List W->Res W:=run 2 iN
noncomputable def gO:SF:=(aX (sIf (tB (eOp oEq (ah 0) (eC (.str "stay")))) (b8 (cT (aa (cT (aa (eC (.str "stay")) aj)) aj))) sNx) (aX (eG 1 (kN "str" dA (ah 0) (aa (eC (.str " ")) aj))) (aX (sIf (tOr (tB (eOp oNe (eOp oMod (eBi cx (aa (ah 1) aj)) (eC (.int 2))) (eC (.int 0)))) (tB (eOp oGt (eBi cx (aa (ah 1) aj)) (eOp t9 (eC (.int 2)) (eC eU))))) (cB "NoCall" (aa (eFr (ah 0)) aj)) sNx) (b8 (eBi ij (aa (qi 1 (xc (eC (.int 0)) (eBi cx (aa (ah 1) aj))) (ay 0) pb (aP jr (aa (eOp oIx (ah 2) (ah 0)) (aa (eOp oIx (ah 2) (eOp fc (ah 0) (eC (.int 1)))) aj)))) aj))))))
noncomputable def eO:List W->Res W:=run 2 gO
noncomputable def iO:SF:=(aX (sIf (tB (kN "str" fy (ah 0) (aa (eC (.str "> ")) aj))) (b8 (cT (aa (cT aj) (aa (aP eO (aa (eOp nM (ah 0) (eC (.int 2))) aj)) aj)))) sNx) (aX (eG 1 (kN "str" nU (ah 0) (aa (eC (.str " > ")) aj))) (aX (sIf (tB (eOp oEq (eOp oIx (ah 1) (eC (.int 1))) (eC (.str "")))) (cB "NoCall" (aa (eFr (ah 0)) aj)) sNx) (b8 (cT (aa (aP ib (aa (eOp oIx (ah 1) (eC (.int 0))) aj)) (aa (aP eO (aa (eOp oIx (ah 1) (eC (.int 2))) aj)) aj)))))))
noncomputable def jt:List W->Res W:=run 2 iO
noncomputable def iP:SF:=(aX (sIf (rP (tB (eBi bx (aa (ah 0) (aa (eC (.ty "str")) aj))))) (fk "NoCall" (aa (eC (.str "no text")) aj)) sNx) (aX (eG 1 (kN "str" dA (ah 0) (aa (eC (.str " ; ")) aj))) (aX (sIf (tB (eOp oGt (eBi cx (aa (ah 1) aj)) (eC eV))) (fk "NoCall" (aa (eC (.str "a call of too many rules")) aj)) sNx) (b8 (qi 1 (xb (ah 1)) (ay 0) pb (aP jt (aa (ah 0) aj)))))))
noncomputable def a5:List W->Res W:=run 2 iP
noncomputable def iR:SF:=(aX (sIf (tOr (rP (tB (eBi bx (aa (ah 0) (aa (eC (.ty "str")) aj))))) (rP (tB (mI oLe oLe (eC (.int 1)) (eBi m6 (aa (ah 0) aj)) (eC cu))))) (b8 (eC (.bl false))) sNx) (b8 (yy (eOp d7 (ah 0) (eC qq)) (eBi xM (aa (rA 1 (agV (ah 0)) (ay 0) pb (eOp yj (ah 0) (eC dE))) aj)))))
noncomputable def eP:List W->Res W:=run 1 iR
noncomputable def df:SF:=(sIf (rP (tB (bF eP (aa (ah 2) aj)))) (cB "NoName" (aa (eFr (ah 2)) aj)) sNx)
noncomputable def kh:SF:=(sIf (tB (eOp oGt (eBi m6 (aa (ah 1) aj)) (eC cw))) (cB "TooMany" (aa (eFf (eC cw)) aj)) sNx)
noncomputable def nr:SF:=(tm (aaA 1) (ay 2) df)
noncomputable def cy:EF:=(aP a5 (aa (eOp oIx (ah 1) (ah 2)) aj))
noncomputable def j8:List W->Res W:=afQ kh nr cy
noncomputable def cF:SF:=(aX (sIf (tB (eOp oEq (eOp oMod (ah 0) (eC (.int 4))) (eC (.int 0)))) (aX (eG 1 (eOp oIx (gF (aa (eOp fc (eC (.int 1)) (eOp oMod (eOp oDiv (ah 0) (eC (.int 4))) (eC (.int 3)))) (aa (eOp fc (eC (.int 1)) (eOp oMod (eOp oDiv (ah 0) (eC (.int 4))) (eC (.int 60)))) aj))) (eOp oDiv (eOp oMod (eOp oDiv (ah 0) (eC (.int 240))) (eC (.int 8))) (eC (.int 7))))) (b8 (cT (aa (cT (aa (eC (.str "times")) (aa (ah 1) aj))) (aa (gF (aa (eBi jA (aa (ah 1) aj)) (aa (eC (.str "times")) aj))) aj))))) sNx) (aX (sIf (tB (eOp oEq (eOp oMod (ah 0) (eC (.int 4))) (eC (.int 1)))) (aX (eG 2 (eOp oIx (gF (aa (eOp fc (eC (.int 1)) (eOp oMod (eOp oDiv (ah 0) (eC (.int 4))) (eC (.int 4)))) (aa (eOp oMod (eOp oDiv (ah 0) (eC (.int 4))) (eC (.int 201))) aj))) (eOp oDiv (eOp oMod (eOp oDiv (ah 0) (eC (.int 900))) (eC (.int 4))) (eC (.int 3))))) (b8 (cT (aa (cT (aa (eC (.str "inner")) (aa (ah 2) aj))) (aa (gF (aa (eC (.str "inner")) (aa (eBi jA (aa (ah 2) aj)) aj))) aj))))) sNx) (aX (sIf (tB (eOp oEq (eOp oMod (eOp oDiv (ah 0) (eC (.int 4))) (eC (.int 6))) (eC (.int 0)))) (b8 (cT (aa (cT (aa (eC (.str "couples")) aj)) (aa (gF (aa (eC (.str "couples")) aj)) aj)))) sNx) (aX (eG 3 (eOp oIx (gF (aa (eC (.str "heads")) (aa (eC (.str "sides")) (aa (eC (.str "lefts")) (aa (eC (.str "rights")) aj))))) (eOp oMod (eOp oDiv (ah 0) (eC (.int 24))) (eC (.int 4))))) (b8 (cT (aa (cT (aa (eC (.str "some")) (aa (ah 3) aj))) (aa (gF (aa (ah 3) aj)) aj))))))))
noncomputable def bq:List W->Res W:=run 4 cF
noncomputable def bV:KF:=(mj (aar 5 (bF aZ (aa (eOp oIx (ah 0) (ah 4)) (aa (ah 4) aj)))) (kIf 2 (tOr (tB (eOp oLt (eOp oMod (ah 5) (eC (.int 8))) (eC (.int 5)))) (tOr (kg (tB (eOp oEq (eOp oMod (ah 5) (eC (.int 8))) (eC (.int 5)))) (tB (eOp oEq (eBi cx (aa (ah 2) aj)) (eC (.int 7))))) (kg (tB (eOp oGt (eOp oMod (ah 5) (eC (.int 8))) (eC (.int 5)))) (tB (eOp oEq (eOp oIx (eOp oIx (ah 2) (eUn oNeg (eC (.int 1)))) (eC (.int 1))) (gF aj)))))) (mj (aar 6 (eOp oIx (ah 1) (eOp oMod (eOp oDiv (ah 5) (eC (.int 8))) (eBi cx (aa (ah 1) aj))))) (mj (kPut (cT (aa (eC (.str "call")) (aa (ah 6) aj)))) (kApp 3 (ah 6)))) (kIf 2 (tB (eOp oEq (eOp oMod (ah 5) (eC (.int 8))) (eC (.int 5)))) (mj (wZ 7 8 (bF bq (aa (eOp oDiv (ah 5) (eC (.int 8))) aj))) (mj (kPush (ah 7)) (agT 3 (adh (eOp fc (ah 3) (ah 8)) (gF (aa (eC (.str "(")) aj)))))) (kIf 2 (tB (eOp oGt (eBi cx (aa (ah 2) aj)) (eC (.int 1)))) (jg 3) kNx))))
noncomputable def bU:KF:=(mj (kIf 2 (tB (eOp oEq (eOp oIx (eOp oIx (ah 2) (eUn oNeg (eC (.int 1)))) (eC (.int 1))) (gF aj))) (mj (kPut (cT (aa (eC (.str "call")) (aa (eOp oIx (ah 1) (eC (.int 0))) aj)))) (kApp 3 (eOp oIx (ah 1) (eC (.int 0))))) kNx) (jg 3))
noncomputable def dJ:KF:=(mj (aeT 3) (mj (kFor 4 (eBi cx (aa (ah 0) aj)) bV) (mj (kWh 2 10 (tB (eOp oGt (eBi cx (aa (ah 2) aj)) (eC (.int 1)))) bU) (uC 2 (vx 3 (b8 (cT (aa (eOp oIx (eOp oIx (ah 2) (eC (.int 0))) (eC (.int 1))) (aa (ah 3) aj)))))))))
noncomputable def bE:List W->Res W:=runK 9 dJ
noncomputable def lb0_end_of_bracket:SF:=(aX (sIf (tB (eOp oEq (eOp oIx (ah 0) (ah 3)) (eC (.str "(")))) (eG 2 (eOp qR (ah 2) (eC (.int 1)))) sNx) (sIf (tB (eOp oEq (eOp oIx (ah 0) (ah 3)) (eC (.str ")")))) (aX (eG 2 (eOp aa3 (ah 2) (eC (.int 1)))) (sIf (tB (eOp oEq (ah 2) (eC (.int 0)))) (b8 (eOp fc (ah 3) (eC (.int 1)))) sNx)) sNx))
noncomputable def cz:SF:=(aX (eG 2 (eC (.int 0))) (aX (tm (nZ (ah 1) (eBi cx (aa (ah 0) aj))) (ay 3) lb0_end_of_bracket) (fk "NoProgram" (aa (eC (.str "neither a name of the book nor a bracket that is closed")) aj))))
noncomputable def bC:List W->Res W:=run 4 cz
noncomputable def a8:SF:=(aX (eG 3 (bF bh (aa (ah 0) (aa (ah 1) (aa (ah 2) aj))))) (aX (sIf (tB (eOp oIs (ah 3) (eC .non))) (cB "NoProgram" (aa (eFf (ah 1)) (aa (eFf (ah 2)) (aa (eFr (ah 0)) aj)))) sNx) (b8 (ah 3))))
noncomputable def av:List W->Res W:=run 4 a8
noncomputable def dI:SF:=(aX (sIf (kg (tB (eOp oEq (eBi cx (aa (ah 0) aj)) (eC (.int 1)))) (tB (eOp oIn (eOp oIx (ah 0) (eC (.int 0))) (eC oH)))) (b8 (cT (aa (eC (.str "some")) (aa (eOp oIx (ah 0) (eC (.int 0))) aj)))) sNx) (aX (sIf (kg (tB (eOp oEq (eBi cx (aa (ah 0) aj)) (eC (.int 1)))) (tB (eOp oEq (eOp oIx (ah 0) (eC (.int 0))) (eC (.str "couples"))))) (b8 (cT (aa (eC (.str "couples")) aj))) sNx) (aX (sIf (kg (tB (eOp oEq (eBi cx (aa (ah 0) aj)) (eC (.int 2)))) (tB (eOp oEq (eOp oIx (ah 0) (eC (.int 0))) (eC (.str "inner"))))) (b8 (cT (aa (eC (.str "inner")) (aa (aP av (aa (eOp oIx (ah 0) (eC (.int 1))) (aa (eC (.int 0)) (aa (eC aJ) aj)))) aj)))) sNx) (aX (sIf (kg (tB (eOp oEq (eBi cx (aa (ah 0) aj)) (eC (.int 2)))) (tB (eOp oEq (eOp oIx (ah 0) (eC (.int 1))) (eC (.str "times"))))) (b8 (cT (aa (eC (.str "times")) (aa (aP av (aa (eOp oIx (ah 0) (eC (.int 0))) (aa (eC (.int 1)) (aa (eC dh) aj)))) aj)))) sNx) (cB "NoProgram" (aa (eFr (ah 0)) aj))))))
noncomputable def bg:List W->Res W:=run 1 dI
noncomputable def dm(rec_:List W->Res W):SF:=(aX (sIf (tB (eOp oGt (ah 2) (eC dZ))) (fk "NoProgram" (aa (eC (.str "too many open brackets")) aj)) sNx) (aX (eG 3 (kN "list" i8 (ah 1) (aa (eC (.str "(")) aj))) (aX (eG 4 (eSl (ah 1) (fb (eOp fc (ah 3) (eC (.int 1)))) (fb (eUn oNeg (eC (.int 1)))))) (aX (sIf (rP (tL (ah 4))) (fk "NoProgram" (aa (eC (.str "brackets without an item between")) aj)) sNx) (b8 (eOp fc (aP bg (aa (eSl (ah 1) pNo (fb (ah 3))) aj)) (cT (aa (aP rec_ (aa (ah 0) (aa (ah 4) (aa (ah 2) aj)))) aj))))))))
noncomputable def ax(rec_:List W->Res W):List W->Res W:=run 5 (dm rec_)
noncomputable def aL(rec_:List W->Res W):SF:=(sIf (tB (eOp oIn (eOp oIx (ah 1) (ah 4)) (ah 0))) (aX (sApp 3 (cT (aa (eC (.str "call")) (aa (eOp oIx (ah 1) (ah 4)) aj)))) (eG 4 (eOp qR (ah 4) (eC (.int 1))))) (aX (eG 5 (aP bC (aa (ah 1) (aa (ah 4) aj)))) (aX (sApp 3 (aP rec_ (aa (ah 0) (aa (eSl (ah 1) (fb (ah 4)) (fb (ah 5))) (aa (eOp fc (ah 2) (eC (.int 1))) aj))))) (eG 4 (ah 5)))))
noncomputable def aK(rec_:List W->Res W):TF:=(tB (eOp oLt (ah 4) (eBi cx (aa (ah 1) aj))))
noncomputable def fo:Ws->Nat:=fun _=>300
noncomputable def cY(rec_:List W->Res W):SF:=(aX (tf 3 (aeP aj)) (aX (eG 4 (eC (.int 0))) (aX (sZ fo (aK rec_) (aL rec_)) (vx 3 (b8 (ah 3))))))
noncomputable def au:Nat->List W->Res W|0=>fun _=>.bad|n+1=>run 6 (cY (ax (au n)))
noncomputable def gQ:SF:=sNx
noncomputable def dg:LF:=(yo (rz "Book" (ah 0)))
noncomputable def aB:List W->Res W:=zr 1 gQ dg
noncomputable def ck:SF:=(aX (sIf (rP (tB (eBi bx (aa (ah 1) (aa (eC (.ty "str")) aj))))) (fk "NoProgram" (aa (eC (.str "no text")) aj)) sNx) (aX (eG 2 (eIf (tS (ah 1)) (kN "str" dA (ah 1) (aa (eC (.str " ")) aj)) (gF aj))) (b8 (aP (au 8) (aa (ie "Book" aB (ah 0) aj) (aa (ah 2) (aa (eC (.int 0)) aj)))))))
noncomputable def az:List W->Res W:=run 3 ck
noncomputable def cX:SF:=(aX (sIf (tB (eOp oEq (eOp oIx (ah 0) (eC (.int 0))) (eC (.str "times")))) (b8 (eOp m9 (eBi jA (aa (eOp oIx (ah 0) (eC (.int 1))) aj)) (eC (.str " times")))) sNx) (aX (sIf (tB (eOp oEq (eOp oIx (ah 0) (eC (.int 0))) (eC (.str "inner")))) (b8 (eOp m9 (eC (.str "inner ")) (eBi jA (aa (eOp oIx (ah 0) (eC (.int 1))) aj)))) sNx) (b8 (eIf (tB (eOp oEq (eOp oIx (ah 0) (eC (.int 0))) (eC (.str "some")))) (eOp oIx (ah 0) (eC (.int 1))) (eC (.str "couples"))))))
noncomputable def aY:List W->Res W:=run 1 cX
noncomputable def cW(rec_:List W->Res W):SF:=(aX (sIf (tB (eOp oEq (eOp oIx (ah 0) (eC (.int 0))) (eC (.str "call")))) (b8 (eOp oIx (ah 0) (eC (.int 1)))) sNx) (b8 (eOp m9 (eOp m9 (eOp m9 (bF aY (aa (ah 0) aj)) (eC (.str " ( "))) (bF rec_ (aa (eOp oIx (ah 0) (eUn oNeg (eC (.int 1)))) aj))) (eC (.str " )")))))
noncomputable def aM(rec_:List W->Res W):List W->Res W:=run 1 (cW rec_)
noncomputable def bM(rec_:List W->Res W):SF:=(b8 (kN "str" gA (eC (.str " ")) (aa (rA 1 (xb (ah 0)) (ay 0) pb (bF rec_ (aa (ah 0) aj))) aj)))
noncomputable def ak:Nat->List W->Res W|0=>fun _=>.bad|n+1=>run 1 (bM (aM (ak n)))
noncomputable def dS:SF:=(cE 2 (eC (.str "> stay")) (ah 3))
noncomputable def za:SF:=(aX (eG 1 (bF cP (aa (ah 0) aj))) (aX (zq 2) (aX (tm (xb (ah 1)) (ay 3) dS) (aX (pq 4 2 "Book" j8) (aX (abV (bF bE (aa (eSl (ah 0) (fb (eC (.int 5))) (fb (eC (.int 65)))) (aa (ah 1) aj))) (vy (dW (ay 5) (dW (ay 6) uP)))) (aX (eG 7 (kN "str" gA (eC (.str " ")) (aa (ah 6) aj))) (zo 8 az (aa (ah 4) (aa (ah 7) aj)) (fun as_=>(px (tOr (rP (tB (eBi bx (aa (ah 8) (aa (eC (.ty "list")) aj))))) (tOr (tB (eOp oNe (ah 8) (ah 5))) (tB (eOp oNe (bF (ak 8) (aa (ah 8) aj)) (ah 7))))) (b8 (eC (.bl false))) (sSpoil3 8 as_ (kg (tB (eOp oGt (eBi cx (aa (ah 8) aj)) (eC (.int 0)))) (tB (eBi bx (aa (eOp oIx (eOp oIx (ah 8) (eC (.int 0))) (eUn oNeg (eC (.int 1)))) (aa (eC (.ty "list")) aj))))) (cT (aa (eC (.str "call")) (aa (eOp oIx (ah 1) (eC (.int 0))) aj))) (cT (aa (eC (.str "call")) (aa (eOp oIx (ah 1) (eC (.int 0))) aj))) (aX (sIf (tOr (tB (eOp oNe (aP az (aa (ah 4) (aa (ah 7) aj))) (ah 5))) (tB (eOp oNe (bF (ak 8) (aa (ah 5) aj)) (ah 7)))) (b8 (eC (.bl false))) sNx) (b8 (yy (eOp oEq (aP az (aa (ah 4) (aa (eC (.str "")) aj))) (gF aj)) (yy (eOp oEq (bF (ak 8) (aa (gF aj) aj)) (eC (.str ""))) (eOp oEq (ie "Book" aB (ah 4) aj) (eBi gn (aa (ah 1) aj)))))))))))))))))
noncomputable def xu:List W->Res W:=run 9 za
end K43
namespace K43
open PySem WL ML
noncomputable def okV(w:Str):Bool:=(w.cps.toList.all fun c=>c !=32&&Nat.ble c 127)&&Nat.ble w.length 10&&Nat.ble 1 w.length
theorem nG{w:Str}(h:okV w=true):32∉w.cps.toList/\w.length<=10/\1<=w.length:=by unfold okV at h;simp only[Bool.and_eq_true,Nat.ble_eq,List.all_eq_true,bne_iff_ne,ne_eq]at h;obtain⟨⟨h1,h2⟩,h3⟩:=h;exact⟨fun z=>(h1 _ z).1 rfl,h2,h3⟩
theorem qQ{w:Str}(h:okV w=true)(n:Nat):okD n (.str w)=true:=by unfold okV at h;simp only[Bool.and_eq_true,Nat.ble_eq,List.all_eq_true,bne_iff_ne,ne_eq]at h;obtain⟨⟨h1,h2⟩,h3⟩:=h;show(w.cps.all fun c=>decide (c<0x110000))=true;rw[<-Array.all_toList,List.all_eq_true];intro c hc;have:=(h1 c hc).2;exact decide_eq_true (by omega)
noncomputable def ad3(lo hi k:Int):Bool:=match bh [.str (toString k:Str),.int lo,.int hi]with|.ok (.int j)=>j==k|_=>false
noncomputable def tw(i:Int):Bool:=(List.range 21).all fun j=>ad3 0 200 (i*21+Int.ofNat j)||Nat.blt 200 (i*21+Int.ofNat j).toNat
set_option maxRecDepth 1000000 in theorem ab6:tw 0=true:=by decide+kernel
set_option maxRecDepth 1000000 in theorem ab5:tw 1=true:=by decide+kernel
set_option maxRecDepth 1000000 in theorem ab4:tw 2=true:=by decide+kernel
set_option maxRecDepth 1000000 in theorem ab3:tw 3=true:=by decide+kernel
set_option maxRecDepth 1000000 in theorem ab2:tw 4=true:=by decide+kernel
set_option maxRecDepth 1000000 in theorem ab1:tw 5=true:=by decide+kernel
set_option maxRecDepth 1000000 in theorem ab0:tw 6=true:=by decide+kernel
set_option maxRecDepth 1000000 in theorem abZ:tw 7=true:=by decide+kernel
set_option maxRecDepth 1000000 in theorem abY:tw 8=true:=by decide+kernel
set_option maxRecDepth 1000000 in theorem abX:tw 9=true:=by decide+kernel
theorem agH{i:Int}(h1:0<=i)(h2:i<=9):tw i=true:=by
 have h:i=0\/i=1\/i=2\/i=3\/i=4\/i=5\/i=6\/i=7\/i=8\/i=9:=by omega
 rcases h with rfl|rfl|rfl|rfl|rfl|rfl|rfl|rfl|rfl|rfl;·exact ab6
 ·exact ab5
 ·exact ab4
 ·exact ab3
 ·exact ab2
 ·exact ab1
 ·exact ab0
 ·exact abZ
 ·exact abY
 ·exact abX
set_option maxRecDepth 1000000 in theorem ou{lo hi k:Int}(h:ad3 lo hi k=true):bh [.str (toString k:Str),.int lo,.int hi]=.ok (.int k):=by
 unfold ad3 at h;split at h;·rename_i j e;rw[e,eq_of_beq h]
 ·cases h
theorem vQ{x y:Str}(hy:y.cps.toList≠[])(hk:Builtin.Str.strKind y=1)(hx:x.length<=1000000):dA (.str x) [.str y]=.ok (.lst ((SF.fM x y).map .str)):=by have hy':y.length≠0:=fun z=>hy (by cases y;simp[Str.length]at z;simp[z]);exact if_pos ⟨hy',hk,hx⟩
theorem strs_map:∀ws:List Str,strsOf (ws.map .str)=some ws|[]=>rfl|w::ws=>by simp[strsOf,strs_map ws]
theorem sL(M:Nat):∀ws:List Str,(∀w∈ws,w.length<=M)->(ws.map (·.length)).sum<=ws.length*M|[],_=>by simp|w::ws,h=>by have:=sL M ws fun x hx=>h x (by simp[hx]);have:=h w (by simp);simp only[List.map_cons,List.sum_cons,List.length_cons,Nat.add_mul,Nat.one_mul];omega
theorem nY{x:Str}{ws:List Str}(M N:Nat)(h:∀w∈ws,w.length<=M)(hn:ws.length<=N)(hb:N*M+N*x.length<=1000000):gA (.str x) [.lst (ws.map .str)]=.ok (.str (SG.J x ws)):=by have h1:=sL M ws h;have h2:ws.length*M<=N*M:=Nat.mul_le_mul_right _ hn;have h3:ws.length*x.length<=N*x.length:=Nat.mul_le_mul_right _ hn;show(match strsOf (ws.map .str)with|some ys=>if(ys.map (fun z:Str=>z.length)).sum+ys.length*x.length<=lim then Res.ok (W.str ⟨(SF.gB x.cps.toList ys).toArray⟩)else .bad|none=>.bad)=_;rw[strs_map];exact if_pos (show _<=1000000 by omega)
theorem ahE{x:Str}{ws:List Str}(M N:Nat)(h:∀w∈ws,w.length<=M)(hn:ws.length<=N):(SG.J x ws).length<=N*M+N*x.length:=by have h0:=SG.ahD x ws;have h1:=sL M ws h;have h2:ws.length*M<=N*M:=Nat.mul_le_mul_right _ hn;have h3:ws.length*x.length<=N*x.length:=Nat.mul_le_mul_right _ hn;omega
theorem vd:(" ":Str).cps.toList=[32]:=by decide+kernel
theorem nv{ws:List Str}(hw:ws≠[])(h:∀w∈ws,okV w=true):SF.fM (SG.J " " ws) " "=ws:=by refine SG.zh _ (by rw[vd];simp) ws hw ?_;rw[vd];refine SG.qe (c:=32) ⟨[],rfl⟩ _ fun p hp r _=>?_;obtain⟨w,hw,rfl⟩:=List.mem_map.mp hp;exact SG.no_space (nG (h w hw)).1 r
theorem ai7:Builtin.Str.strKind " "=1:=by decide+kernel
set_option maxRecDepth 1000000 in theorem acV:((List.range 30).all fun j=>ad3 1 60 (Int.ofNat j+1))=true:=by decide+kernel
set_option maxRecDepth 1000000 in theorem acU:((List.range 30).all fun j=>ad3 1 60 (Int.ofNat j+31))=true:=by decide+kernel
theorem pA{T:Str}{lo hi k:Int}(h:bh [.str T,.int lo,.int hi]=.ok (.int k)):av [.str T,.int lo,.int hi]=.ok (.int k):=by simp[av,a8,List.replicate,h,mr]
theorem ab8{k:Int}(h1:0<=k)(h2:k<=200):av [.str (toString k:Str),.int 0,.int 200]=.ok (.int k):=by
 have h:bh [.str (toString k:Str),.int 0,.int 200]=.ok (.int k):=by
  have:=List.all_eq_true.mp (agH (i:=k/21) (by omega) (by omega)) (k%21).toNat (List.mem_range.mpr (by omega));have e:k/21*21+Int.ofNat (k%21).toNat=k:=by simp only[Int.ofNat_eq_natCast];omega
  rw[e]at this;rcases Bool.or_eq_true_iff.mp this with z|z;·exact ou z
  ·have:=Nat.blt_eq.mp z;omega
 exact pA h
theorem ab7{k:Int}(h1:1<=k)(h2:k<=60):av [.str (toString k:Str),.int 1,.int 60]=.ok (.int k):=by
 have h:bh [.str (toString k:Str),.int 1,.int 60]=.ok (.int k):=by
  by_cases hk:k<=30
  ·have:=List.all_eq_true.mp acV (k-1).toNat (List.mem_range.mpr (by omega));have e:Int.ofNat (k-1).toNat+1=k:=by simp only[Int.ofNat_eq_natCast];omega
   rw[e]at this;exact ou this
  ·have:=List.all_eq_true.mp acU (k-31).toNat (List.mem_range.mpr (by omega));have e:Int.ofNat (k-31).toNat+31=k:=by simp only[Int.ofNat_eq_natCast];omega
   rw[e]at this;exact ou this
 exact pA h
noncomputable def acW(w:Str):Bool:=okV w&&(w.cps.toList.all fun c=>Nat.ble 48 c&&Nat.ble c 57)
set_option maxRecDepth 1000000 in theorem acT:((List.range 201).all fun j=>acW (toString (Int.ofNat j):Str))=true:=by decide+kernel
theorem zU{k:Int}(h1:0<=k)(h2:k<=200):acW (toString k:Str)=true:=by
 have h:=List.all_eq_true.mp acT k.toNat (List.mem_range.mpr (by omega));have e:Int.ofNat k.toNat=k:=by simp only[Int.ofNat_eq_natCast];omega
 rw[e]at h;exact h
inductive So|heads|sides|lefts|rights
noncomputable def So.w:So->Str|.heads=>"heads"|.sides=>"sides"|.lefts=>"lefts"|.rights=>"rights"
inductive Hd|times(n:Int)|inner(n:Int)|couples|some(s:So)
noncomputable def Hd.ps:Hd->List W|.times n=>[.str "times",.int n]|.inner n=>[.str "inner",.int n]|.couples=>[.str "couples"]|.some s=>[.str "some",.str s.w]
noncomputable def Hd.ws:Hd->List Str|.times n=>[toString n,"times"]|.inner n=>["inner",toString n]|.couples=>["couples"]|.some s=>[s.w]
noncomputable def Hd.Ok:Hd->Prop|.times n=>1<=n/\n<=60|.inner n=>0<=n/\n<=200|_=>True
inductive It|call(x:Str)|br(h:Hd)(is:List It)
mutual noncomputable def It.W:It->WL.W|.call x=>.tup [.str "call",.str x]|.br h is=>.tup (h.ps++[.lst (Its.W is)])noncomputable def Its.W:List It->List WL.W|[]=>[]|i::is=>i.W::Its.W is end
mutual noncomputable def It.ws:It->List Str|.call x=>[x]|.br h is=>h.ws++(("(":Str)::(Its.ws is++[(")":Str)]))noncomputable def Its.ws:List It->List Str|[]=>[]|i::is=>i.ws++Its.ws is end
mutual noncomputable def It.Ok(N:List Str):Nat->It->Prop|_,.call x=>x∈N|0,.br _ _=>False|n+1,.br h is=>h.Ok/\is≠[]/\Its.Ok N n is noncomputable def Its.Ok(N:List Str):Nat->List It->Prop|_,[]=>True|n,i::is=>i.Ok N n/\Its.Ok N n is end
theorem xj{h:Hd}(ok:h.Ok):∀w∈h.ws,okV w=true/\w≠"("/\w≠")":=by
 have num:∀{n:Int},0<=n->n<=200->okV (toString n:Str)=true/\(toString n:Str)≠"("/\(toString n:Str)≠")":=fun{n}h1 h2=>by
  have:=zU h1 h2;unfold acW at this;rw[Bool.and_eq_true]at this;refine⟨this.1,fun z=>?_,fun z=>?_⟩;·rw[z]at this;exact absurd this.2 (by decide+kernel)
  ·rw[z]at this;exact absurd this.2 (by decide+kernel)
 intro w hw
 cases h with|times n=>
  simp only[Hd.ws,List.mem_cons,List.not_mem_nil,or_false]at hw;rcases hw with rfl|rfl;·exact num (by have:=ok.1;omega) (by have:=ok.2;omega)
  ·decide+kernel|inner n=>
  simp only[Hd.ws,List.mem_cons,List.not_mem_nil,or_false]at hw;rcases hw with rfl|rfl;·decide+kernel
  ·exact num ok.1 ok.2|couples=>simp only[Hd.ws,List.mem_cons,List.not_mem_nil,or_false]at hw;rw[hw];decide+kernel|some s=>simp only[Hd.ws,List.mem_cons,List.not_mem_nil,or_false]at hw;rw[hw];cases s<;>decide+kernel
theorem eL(x y:Str):oEq (.str x) (.str y)=.ok (.bl (x==y)):=by simp[oEq,dM,eqv]
theorem lL{h:Hd}(ok:h.Ok):bg [.lst (h.ws.map .str)]=.ok (.tup h.ps):=by cases h with|some s=>cases s<;>kernel_rfl|couples=>kernel_rfl|inner n=>have e:=ab8 ok.1 ok.2;show bg [.lst [.str "inner",.str (toString n:Str)]]=.ok (.tup [.str "inner",.int n]);generalize(toString n:Str)=T at *;simp[bg,dI,List.replicate,Hd.ws,Hd.ps,oIx,atI,ixN,eL,e,aJ]|times n=>
 have e:=ab7 ok.1 ok.2;have hne:((toString n:Str)=="inner")=false:=by have:=zU (k:=n) (by have:=ok.1;omega) (by have:=ok.2;omega);rw[Bool.eq_false_iff];intro z;rw[eq_of_beq z]at this;exact absurd this (by decide+kernel)
 show bg [.lst [.str (toString n:Str),.str "times"]]=.ok (.tup [.str "times",.int n]);generalize(toString n:Str)=T at *;simp[bg,dI,List.replicate,Hd.ws,Hd.ps,oIx,atI,ixN,eL,hne,e,dh];intro z;rw[z]at hne;simp at hne
noncomputable def sW(ws:List Str):W:=.lst (ws.map .str)
theorem ad9{α:Type}(pre:List α)(x:α)(post:List α):(pre++x::post)[pre.length]?=some x:=by simp
theorem j6(pre:List Str)(x:Str)(post:List Str):oIx (sW (pre++x::post)) (.int pre.length)=.ok (.str x):=by
 have h:((pre++x::post).map W.str)[pre.length]?=some (.str x):=by rw[List.getElem?_map,ad9];rfl
 have hl:(pre.length:Int)<((pre++x::post).map W.str).length:=by simp;omega
 show ofO (atI ((pre++x::post).map W.str) (pre.length:Int))=_;unfold atI ixN;rw[if_pos (by omega),if_pos hl];show ofO (((pre++x::post).map W.str)[((pre.length:Nat):Int).toNat]?)=_;rw[Int.toNat_natCast,h];rfl
noncomputable def turn(d:Int)(w:Str):Int:=if w="("then d+1 else if w=")"then d-1 else d
theorem aaj(L:W)(s:Sl){p:Int}{w:Str}(e:oIx L (.int p)=.ok (.str w)){d:Int}(h:¬(w=")"/\d=1)):lb0_end_of_bracket [.va L,s,.va (.int d),.va (.int p)]=.nx [.va L,s,.va (.int (turn d w)),.va (.int p)]:=by
 unfold turn;by_cases h1:w="(";·subst h1;simp[lb0_end_of_bracket,e,eL,qR]
 ·by_cases h2:w=")";·subst h2;have hd:¬d-1=0:=fun z=>h ⟨rfl,by omega⟩;have hd':¬d=1:=fun z=>h ⟨rfl,z⟩;simp[lb0_end_of_bracket,e,eL,aa3,hd,hd']
  ·have b1:(w=="(")=false:=by simpa using h1
   have b2:(w==")")=false:=by simpa using h2
   simp[lb0_end_of_bracket,e,eL,b1,b2,h1,h2]
theorem adb(L:W)(s:Sl){p:Int}(e:oIx L (.int p)=.ok (.str ")")):lb0_end_of_bracket [.va L,s,.va (.int 1),.va (.int p)]=.rt (.int (p+1)):=by simp[lb0_end_of_bracket,e,eL,aa3]
theorem pz(p:Int)(n:Nat):rng p (n+1)=.int p::rng (p+1) n:=by
 unfold rng;rw[List.range_succ_eq_map];simp only[List.map_cons,List.map_map];congr 1;·simp
 ·refine List.map_congr_left fun i _=>?_;show W.int (p+((i+1:Nat):Int))=W.int (p+1+(i:Int));congr 1;push_cast;omega
noncomputable def sc(d:Int):List Str->Option Int|[]=>some d|w::ws=>if w=")"/\d=1 then none else sc (turn d w) ws
theorem ph:∀(a b:List Str)(d:Int),sc d (a++b)=(sc d a).bind fun d'=>sc d' b
|[],b,d=>rfl|w::a,b,d=>by
 simp only[List.cons_append,sc];split;·rfl
 ·exact ph a b _
theorem iB:∀(a:List Str)(d:Int),(∀w∈a,w≠"("/\w≠")")->sc d a=some d|[],d,_=>rfl|w::a,d,h=>by obtain⟨h1,h2⟩:=h w (by simp);simp only[sc,h2,false_and,if_false,turn,h1];exact iB a d fun x hx=>h x (by simp[hx])
mutual theorem afF{N:List Str}(hN:∀x∈N,x≠("(":Str)/\x≠")"):∀(n:Nat)(i:It),i.Ok N n->∀d:Int,1<=d->sc d i.ws=some d
|n,.call x,ok,d,hd=>by
 have ok:x∈N:=by cases n<;>simpa only[It.Ok]using ok
 refine iB [x] d fun w hw=>?_;have hw:w=x:=by simpa using hw
 rw[hw];exact hN x ok|0,.br h is,ok,_,_=>by simp only[It.Ok]at ok|n+1,.br h is,ok,d,hd=>by
 simp only[It.Ok]at ok;have ih:=sX hN n is ok.2.2 (d+1) (by omega);have hne:¬d+1=1:=by omega
 simp only[It.ws,ph,iB h.ws d (fun w hw=>(xj ok.1 w hw).2),Option.bind_some,sc];have c1:¬(("(":Str)=")"/\d=1):=fun z=>absurd z.1 (by decide+kernel);have t1:turn d "("=d+1:=if_pos rfl;have t2:turn (d+1) ")"=d:=by unfold turn;rw[if_neg (by decide+kernel),if_pos rfl];omega
 rw[if_neg c1,t1,ih];simp only[Option.bind_some,sc,hne,and_false,if_false,t2]theorem sX{N:List Str}(hN:∀x∈N,x≠("(":Str)/\x≠")"):∀(n:Nat)(is:List It),Its.Ok N n is->∀d:Int,1<=d->sc d (Its.ws is)=some d|n,[],_,d,_=>rfl|n,i::is,ok,d,hd=>by simp only[Its.Ok]at ok;simp only[Its.ws,ph,afF hN n i ok.1 d hd,Option.bind_some];exact sX hN n is ok.2 d hd end
theorem scan(s:Sl):∀(seg pre post:List Str)(d d':Int)(s3:Sl)(n:Nat),sc d seg=some d'->∃s3',forL (ay 3) lb0_end_of_bracket (rng pre.length (seg.length+n)) [.va (sW (pre++seg++post)),s,.va (.int d),s3]=forL (ay 3) lb0_end_of_bracket (rng (pre.length+seg.length:Nat) n) [.va (sW (pre++seg++post)),s,.va (.int d'),s3']
|[],pre,post,d,d',s3,n,h=>⟨s3,by simp only[sc,Option.some.injEq]at h;simp[h]⟩|w::seg,pre,post,d,d',s3,n,h=>by
 simp only[sc]at h;split at h;·cases h
 ·rename_i hc;have e:=j6 pre w (seg++post);have ew:pre++(w::seg)++post=pre++w::(seg++post):=by simp
  have ew2:pre++(w::seg)++post=(pre++[w])++seg++post:=by simp
  rw[<-ew]at e;obtain⟨s3',ih⟩:=scan s seg (pre++[w]) post (turn d w) d' (.va (.int pre.length)) n h;refine⟨s3',?_⟩;rw[show(w::seg).length+n=(seg.length+n)+1 by simp;omega,pz,dB];show fA (lb0_end_of_bracket [.va (sW (pre++(w::seg)++post)),s,.va (.int d),.va (.int pre.length)]) (forL (ay 3) lb0_end_of_bracket (rng (pre.length+1) (seg.length+n)))=_;rw[aaj _ s e hc];rw[<-ew2]at ih;rw[show((pre++[w]).length:Int)=(pre.length:Int)+1 by simp]at ih;rw[show((pre++[w]).length+seg.length:Nat)=pre.length+(w::seg).length by simp;omega]at ih;exact ih
theorem end_eq{N:List Str}(hN:∀x∈N,x≠("(":Str)/\x≠")"){n:Nat}{h:Hd}{is:List It}(ok:(It.br h is).Ok N n)(pre post:List Str)(hl:(pre++(It.br h is).ws++post).length<=100000):bC [sW (pre++(It.br h is).ws++post),.int pre.length]=.ok (.int ((pre.length:Int)+((It.br h is).ws.length:Nat))):=by cases n with|zero=>simp only[It.Ok]at ok|succ n=>
 simp only[It.Ok]at ok;have hsc:sc 0 (h.ws++(("(":Str)::Its.ws is))=some 1:=by simp only[ph,iB h.ws 0 (fun w hw=>(xj ok.1 w hw).2),Option.bind_some,sc];have c1:¬(("(":Str)=")"/\(0:Int)=1):=fun z=>absurd z.2 (by decide);rw[if_neg c1,show turn 0 "("=1 from if_pos rfl];exact sX hN n is ok.2.2 1 (by omega)
 have ew:(It.br h is).ws=(h.ws++(("(":Str)::Its.ws is))++[(")":Str)]:=by simp[It.ws]
 obtain⟨s3,e⟩:=scan (.va (.int pre.length)) (h.ws++(("(":Str)::Its.ws is)) pre ([(")":Str)]++post) 0 1 .no (post.length+1) hsc;have e2:pre++(h.ws++(("(":Str)::Its.ws is))++([(")":Str)]++post)=pre++(It.br h is).ws++post:=by rw[ew];simp
 rw[e2]at e;have e3:=j6 (pre++(h.ws++(("(":Str)::Its.ws is))) ")" post;rw[show pre++(h.ws++(("(":Str)::Its.ws is))++(")":Str)::post=pre++(It.br h is).ws++post from by rw[<-e2];simp]at e3;rw[pz,dB]at e;have e4:=adb (sW (pre++(It.br h is).ws++post)) (.va (.int pre.length)) (p:=((pre++(h.ws++(("(":Str)::Its.ws is))).length:Nat)) e3;rw[List.length_append]at e4;have e5:forL (ay 3) lb0_end_of_bracket (rng pre.length ((h.ws++(("(":Str)::Its.ws is)).length+(post.length+1))) [.va (sW (pre++(It.br h is).ws++post)),.va (.int pre.length),.va (.int 0),.no]=.rt (.int (((pre.length+(h.ws++(("(":Str)::Its.ws is)).length:Nat):Int)+1)):=by rw[e];show fA (lb0_end_of_bracket [.va (sW (pre++(It.br h is).ws++post)),.va (.int pre.length),.va (.int 1),.va (.int ((pre.length+(h.ws++(("(":Str)::Its.ws is)).length:Nat):Int))]) _=_;rw[e4];rfl
 have hlen:(pre++(It.br h is).ws++post).length=pre.length+((h.ws++(("(":Str)::Its.ws is)).length+(post.length+1)):=by rw[ew];simp;omega
 have hn:(((pre++(It.br h is).ws++post).length:Int)-(pre.length:Int)).toNat=(h.ws++(("(":Str)::Its.ws is)).length+(post.length+1):=by omega
 have hr:-4611686018427387904<=(pre.length:Int)/\(pre.length:Int)<4611686018427387904/\-4611686018427387904<=((pre++(It.br h is).ws++post).length:Int)/\((pre++(It.br h is).ws++post).length:Int)<4611686018427387904:=by omega
 have hend:(((pre.length+(h.ws++(("(":Str)::Its.ws is)).length:Nat):Int)+1)=(pre.length:Int)+((It.br h is).ws.length:Nat):=by rw[ew,List.length_append];simp;omega
 rw[hend]at e5;have bl:cx [sW (pre++(It.br h is).ws++post)]=.ok (.int ((pre++(It.br h is).ws++post).length:Nat)):=by show Res.ok (W.int (((pre++(It.br h is).ws++post).map W.str).length:Nat))=_;rw[List.length_map]
 clear hend e4 e e3 hlen;generalize(h.ws++("(":Str)::Its.ws is).length+(post.length+1)=M at hn e5;generalize hL:sW (pre++(It.br h is).ws++post)=L at *;generalize hl2:(pre++(It.br h is).ws++post).length=len at *;simp[bC,cz,List.replicate,bl,hr,hn,e5]
theorem dX:∀{xs:List W},(∀x∈xs,aF x=true)->ar xs=true|[],_=>by simp[ar]|x::xs,h=>by simp[ar,h x (by simp),dX (xs:=xs) fun y hy=>h y (by simp[hy])]
theorem l5(c:Int)(k:Nat)(hk:k<=1000):∃m:Int,aZ [.int c,.int k]=.ok (.int m)/\0<=m:=by obtain⟨a,ha,a1,a2⟩:∃a:Int,c%2147483647+7919=a/\0<=a/\a<18446744073709551616:=⟨_,rfl,by omega,by omega⟩;refine⟨_,by simp(disch:=omega)[aZ,eA,List.replicate,ha,acR,acQ];exact rfl,by omega⟩
theorem zN:((List.range 26).all fun j=>!(Builtin.Str.occurrences "abcdefghijklmnopqrstuvwxyz" ⟨#[j+97]⟩ 0 (Str.length "abcdefghijklmnopqrstuvwxyz") 1).isEmpty)=true:=by decide+kernel
theorem rh{c:Nat}(h1:97<=c)(h2:c<=122):yj (.str ⟨#[c]⟩) dE=.ok (.bl true):=by have h:=List.all_eq_true.mp zN (c-97) (List.mem_range.mpr (by omega));rw[show c-97+97=c by omega]at h;show Res.ok (W.bl (!(Builtin.Str.occurrences "abcdefghijklmnopqrstuvwxyz" ⟨#[c]⟩ 0 (Str.length "abcdefghijklmnopqrstuvwxyz") 1).isEmpty))=_;rw[h]
noncomputable def kept:List Str:=["times","heads","sides","lefts","rights","inner","couples"]
structure NOk(x:Str):Prop where
 lo:1<=x.length
 hi:x.length<=8ch:∀c∈x.cps.toList,97<=c/\c<=122nk:x∉kept
theorem qt{α:Type}:∀(l:List α),allB (l.map fun _=>W.bl true)=some true|[]=>rfl|_::l=>by simp[allB,qt l]
theorem jY{x:Str}(h:∀c∈x.cps.toList,97<=c/\c<=122)(n:Nat):okD n (.str x)=true:=by
 have:(x.cps.all (·<0x110000))=true:=by rw[Array.all_eq_true_iff_forall_mem];intro c hc;have:=h c (by simpa using hc);simp;omega
 cases n<;>simpa[okD]using this
theorem wz{x:Str}(h:NOk x):d7 (.str x) qq=.ok (.bl true):=by
 have ho:=jY h.ch 50;have hk:bH 51 [W.str "times",.str "heads",.str "sides",.str "lefts",.str "rights",.str "inner",.str "couples"]=true:=by decide+kernel
 show(if(okD 50 (.str x)&&bH 51 [W.str "times",.str "heads",.str "sides",.str "lefts",.str "rights",.str "inner",.str "couples"])=true then Res.ok (W.bl (!bJ (.str x) [W.str "times",.str "heads",.str "sides",.str "lefts",.str "rights",.str "inner",.str "couples"]))else .bad)=_;rw[ho,hk];have hn:=h.nk;simp only[kept,List.mem_cons,List.not_mem_nil,or_false,not_or]at hn;obtain⟨h1,h2,h3,h4,h5,h6,h7⟩:=hn;simp[bJ,eqv,Ne.symm h1,Ne.symm h2,Ne.symm h3,Ne.symm h4,Ne.symm h5,Ne.symm h6,Ne.symm h7]
theorem q9{x:Str}(h:NOk x):eP [.str x]=.ok (.bl true):=by
 have h1:=h.lo;have h2:=h.hi;have hl:m6 [.str x]=.ok (.int x.length):=by show(if x.length<=lim then Res.ok (W.int x.length)else .bad)=_;rw[if_pos (Nat.le_trans h2 (by decide))]
 have ha:(x.cps.all (·<128))=true:=by rw[Array.all_eq_true_iff_forall_mem];intro c hc;have:=h.ch c (by simpa using hc);simp;omega
 have hc:=jx (g:=ay 0) (t:=pb) (e:=eOp yj (ah 0) (eC dE)) (σ:=[.no,.va (.str x)]) (emb:=fun c=>W.str ⟨#[c]⟩) (f:=fun _=>W.bl true) (xs:=x.cps.toList) fun c hc=>⟨_,rfl,rfl,by have:=h.ch c hc;simp[rh this.1 this.2]⟩;have hi:agV (ah 0) [.va (.str x)]=.ok (signs x):=by show(if x.cps.all (·<128)=true then Res.ok (signs x)else .bad)=_;rw[if_pos ha]
 have hsl:(signs x).length<=1000000:=by simp only[signs,List.length_map,Array.length_toList];exact Nat.le_trans h2 (by decide)
 have hcs:a6 (ay 0) pb (eOp yj (ah 0) (eC dE)) [.no,.va (.str x)] (signs x)=.ok (x.cps.toList.map fun _=>.bl true):=hc;have hb:xM [.lst (x.cps.toList.map fun _=>W.bl true)]=.ok (.bl true):=by show(match allB (x.cps.toList.map fun _=>W.bl true)with|some b=>Res.ok (W.bl b)|none=>.bad)=_;rw[qt]
 have hi1:(1:Int)<=x.length:=by omega
 have hi2:(x.length:Int)<=8:=by omega
 have hst:bx [.str x,.ty "str"]=.ok (.bl true):=rfl;simp[eP,iR,List.replicate,hl,hi,hsl,hcs,hb,hst,wz h,hi1,hi2,cu]
theorem ql{g:GF}{t:TF}{e:EF}{σ:Ws}(P:Str->Prop):∀{xs:List W},(∀x∈xs,∃σ1 y,g x σ=.ok σ1/\t σ1=.ok true/\e σ1=.ok (.str y)/\P y)->∃ys:List Str,ys.length=xs.length/\(∀y∈ys,P y)/\a6 g t e σ xs=.ok (ys.map .str)
|[],_=>⟨[],rfl,by simp,rfl⟩|x::xs,h=>by
 obtain⟨σ1,y,h1,h2,h3,h4⟩:=h x (by simp);obtain⟨ys,e1,e2,e3⟩:=ql P (xs:=xs) fun z hz=>h z (by simp[hz]);refine⟨y::ys,by simp[e1],?_,by simp only[a6,h1,h2,h3,kR,e3,List.map_cons]⟩;intro z hz;rcases List.mem_cons.mp hz with rfl|hz;·exact h4
 ·exact e2 z hz
theorem yu:∀ps:List (List Nat),SG.jn [] ps=ps.flatten|[]=>rfl|[x]=>by simp[SG.jn]|x::y::r=>by have:=yu (y::r);simp only[SG.jn,this,List.nil_append,List.flatten_cons]
theorem aee(ws:List Str):(SG.J "" ws).cps.toList=(ws.map (·.cps.toList)).flatten:=by rw[SG.abf,show("":Str).cps.toList=[]from rfl,yu]
theorem qX{m:Int}(h:0<=m):∃ch:Nat,97<=ch/\ch<=122/\wu (.str "abcdefghijklmnopqrstuvwxyz") (.int (m%26))=.ok (.str ⟨#[ch]⟩):=by
 have h1:0<=m%26:=by omega
 have h2:m%26<26:=by omega
 have key:((List.range 26).all fun k=>match wu (.str "abcdefghijklmnopqrstuvwxyz") (.int (Int.ofNat k))with|.ok (.str y)=>y==⟨#[k+97]⟩|_=>false)=true:=by decide+kernel
 have k1:=List.all_eq_true.mp key (m%26).toNat (List.mem_range.mpr (by omega));rw[show Int.ofNat (m%26).toNat=m%26 from Int.toNat_of_nonneg h1]at k1;refine⟨(m%26).toNat+97,by omega,by omega,?_⟩;split at k1;·rename_i y e;rw[e,eq_of_beq k1]
 ·cases k1
noncomputable def One(y:Str):Prop:=∃ch:Nat,97<=ch/\ch<=122/\y=⟨#[ch]⟩
theorem lT:∀(ys:List Str),(∀y∈ys,One y)->(ys.map (·.cps.toList)).flatten.length=ys.length/\∀c∈(ys.map (·.cps.toList)).flatten,97<=c/\c<=122
|[],_=>⟨rfl,by simp⟩|y::ys,h=>by
 obtain⟨ch,h1,h2,rfl⟩:=h y (by simp);obtain⟨e1,e2⟩:=lT ys fun z hz=>h z (by simp[hz]);refine⟨by simp only[List.map_cons,List.flatten_cons,List.length_append,e1,List.length_cons];simp;omega,?_⟩;intro c hc;simp only[List.map_cons,List.flatten_cons,List.mem_append]at hc;rcases hc with hc|hc
 ·have:c=ch:=by simpa using hc
  omega
 ·exact e2 c hc
theorem iG(z:Str):∀l:List Str,bJ (.str z) (l.map .str)=l.any (·==z)|[]=>rfl|x::l=>by simp only[List.map_cons,bJ,iG z l,List.any_cons];rfl
theorem aeb:NOk "a":=⟨by decide,by decide,by decide,by decide⟩
theorem nX(c:Int):∃x:Str,dC [.int c]=.ok (.str x)/\NOk x:=by
 obtain⟨n,hn⟩:∃n:Nat,1+c%8=n:=⟨(1+c%8).toNat,by omega⟩;have n1:1<=n:=by omega
 have n2:n<=8:=by omega
 obtain⟨ys,l1,l2,l3⟩:=ql (g:=ay 0) (t:=pb) (e:=eOp wu (ah 2) (eOp oMod (bF aZ (aa (ah 1) (aa (eOp fc (eC (.int 60)) (ah 0)) aj))) (eC (.int 26)))) (σ:=[.no,.va (.int c),.va (.str "abcdefghijklmnopqrstuvwxyz"),.no]) One (xs:=rng 0 n) fun x hx=>by
  simp only[rng,List.mem_map,List.mem_range]at hx;obtain⟨j,hj,rfl⟩:=hx;obtain⟨m,e,hm⟩:=l5 c (60+j) (by omega);obtain⟨ch,c1,c2,c3⟩:=qX hm;refine⟨_,⟨#[ch]⟩,rfl,rfl,?_,ch,c1,c2,rfl⟩;have e':aZ [.int c,.int (60+(j:Int))]=.ok (.int m):=by rw[show(60+(j:Int))=((60+j:Nat):Int)by omega];exact e
  simp[e',c3]
 have lys:ys.length=n:=by rw[l1];simp[rng]
 have hj:=nY (x:="") (ws:=ys) 1 8 (fun w hw=>by obtain⟨ch,_,_,rfl⟩:=l2 w hw;exact Nat.le_refl 1) (by omega) (by decide);obtain⟨f1,f2⟩:=lT ys l2;have jl:(SG.J "" ys).length=n:=by show(SG.J "" ys).cps.size=n;rw[<-Array.length_toList,aee,f1,lys]
 have jc:∀c∈(SG.J "" ys).cps.toList,97<=c/\c<=122:=by rw[aee];exact f2
 have hin:oIn (.str (SG.J "" ys)) (.lst [.str "times",.str "heads",.str "sides",.str "lefts",.str "rights",.str "inner",.str "couples"])=.ok (.bl (kept.any (·==SG.J "" ys))):=by
  have ho:=jY jc 50;have hk:bH 51 [W.str "times",.str "heads",.str "sides",.str "lefts",.str "rights",.str "inner",.str "couples"]=true:=by decide+kernel
  show(if(okD 50 (.str (SG.J "" ys))&&bH 51 [W.str "times",.str "heads",.str "sides",.str "lefts",.str "rights",.str "inner",.str "couples"])=true then Res.ok (W.bl (bJ (.str (SG.J "" ys)) (kept.map .str)))else .bad)=_;rw[ho,hk,iG];rfl
 have hrg:-4611686018427387904<=1+c%8/\1+c%8<4611686018427387904:=by omega
 have hnt:(1+c%8).toNat=n:=by omega
 have rl:n<=1000000:=by omega
 cases hk:kept.any (·==SG.J "" ys)with|true=>rw[hk]at hin;refine⟨"a",?_,aeb⟩;simp[dC,eY,List.replicate,hrg,hnt,rl,l3,hj,hin]|false=>
  rw[hk]at hin;refine⟨_,?_,⟨by omega,by omega,jc,fun hm=>?_⟩⟩;·simp[dC,eY,List.replicate,hrg,hnt,rl,l3,hj,hin]
  ·rw[List.any_eq_true.mpr ⟨_,hm,by simp⟩]at hk;cases hk
noncomputable def xo(k:W):Prop:=eP [k]=.ok (.bl true)
theorem ue(d:W){k:W}(h:xo k):df [.ob,.va d,.va k]=.nx [.ob,.va d,.va k]:=by unfold xo at h;simp[df,h]
theorem j0(d:W):∀(ks:List W)(s:Sl),(∀k∈ks,xo k)->∃s',forL (ay 2) df ks [.ob,.va d,s]=.nx [.ob,.va d,s']|[],s,_=>⟨s,rfl⟩|k::ks,s,h=>by obtain⟨s',e⟩:=j0 d ks (.va k) fun x hx=>h x (by simp[hx]);refine⟨s',?_⟩;rw[dB];show fA (df [.ob,.va d,.va k]) (forL (ay 2) df ks)=_;rw[ue d (h k (by simp))];exact e
theorem abJ{ks us:List W}(h:ks.length<=60):kh [.ob,.va (.dic ks us),.no]=.nx [.ob,.va (.dic ks us),.no]:=by
 have hl:m6 [.dic ks us]=.ok (.int ks.length):=rfl;have h':¬(60:Int)<ks.length:=by omega
 simp[kh,hl,cw,h']
theorem afx(ks us:List W)(s:Sl):nr [.ob,.va (.dic ks us),s]=forL (ay 2) df ks [.ob,.va (.dic ks us),s]:=rfl
theorem zt(t1 t2:SF)(tv:EF)(w:W):afQ t1 t2 tv [w]=(match aX t1 t2 [.ob,.va w,.no]with|.nx σ=>aa5 tv σ|.ex c _=>.ex c|_=>.bad):=rfl
theorem abQ{a b:SF}{σ σ':Ws}(h:a σ=.nx σ'):aX a b σ=b σ':=by unfold aX;rw[h]
noncomputable def qK(d k:W):Res W:=(oIx d k).bind fun u=>a5 [u]
theorem val_eq(d k:W)(aks avs:List W):jF cy [.no,.va d,.va k,.od aks avs]=qK d k:=by show cy [.no,.va d,.va k]=_;unfold qK;simp only[cy,uY,xO,aaV,adW,aaF];show(((((Res.ok d).bind fun x=>(Res.ok k).bind fun y=>oIx x y).bind fun x=>Res.ok [x]).bind a5))=_;simp only[kR];cases oIx d k<;>rfl
theorem vX(d:W){k v:W}(hk:ux k=true)(aks avs:List W)(hl:aks.length<1000)(h:qK d k=.ok v):cE 3 (jF cy) (ah 2) [.no,.va d,.va k,.od aks avs]=.nx [.no,.va d,.va k,.od (putK aks k) (tG aks avs k v)]:=by show ofR [.no,.va d,.va k,.od aks avs] (jF cy [.no,.va d,.va k,.od aks avs]) (fun v=>ofR [.no,.va d,.va k,.od aks avs] (Res.ok k) fun k'=>putD 3 aks avs k' v [.no,.va d,.va k,.od aks avs])=_;rw[val_eq,h];show putD 3 aks avs k v [.no,.va d,.va k,.od aks avs]=_;unfold putD;rw[if_pos ⟨hk,Nat.lt_trans hl (by decide)⟩];rfl
theorem wI(tv:EF)(ks us:List W)(s:Sl):nV tv [.no,.va (.dic ks us),s,.od [] []]=forL (ay 2) (cE 3 (jF tv) (ah 2)) ks [.no,.va (.dic ks us),s,.od [] []]:=rfl
theorem aaa(tv:EF)(d:W)(s:Sl):aa5 tv [.ob,.va d,s]=ae5 (nV tv (clr [.ob,.va d,s]++[.od [] []])):=rfl
theorem ad2(d:W)(s:Sl):∃s',clr [.ob,.va d,s]++[.od [] []]=[.no,.va d,s',.od [] []]:=⟨_,rfl⟩
noncomputable def KS(ps:List (Str×W)):List W:=ps.map fun p=>.str p.1
noncomputable def US(ps:List (Str×W)):List W:=ps.map fun p=>p.2
noncomputable def zz(ps:List (Str×W))(x:Str)(v:W):List (Str×W):=if(ps.any fun p=>p.1==x)=true then ps.map (fun p=>if p.1==x then(p.1,v)else p)else ps++[(x,v)]
theorem adJ(x:Str):∀ps:List (Str×W),aa9 (.str x) (KS ps)=ps.any fun p=>p.1==x|[]=>rfl|p::ps=>by show(p.1==x||aa9 (.str x) (KS ps))=_;rw[adJ x ps];rfl
theorem x6(x:Str)(v:W):∀ps:List (Str×W),rD (.str x) v (KS ps) (US ps)=US (ps.map fun p=>if p.1==x then(p.1,v)else p)|[]=>rfl|p::ps=>by show(if(p.1==x)=true then v else p.2)::rD (.str x) v (KS ps) (US ps)=(if(p.1==x)=true then(p.1,v)else p).2::US _;rw[x6 x v ps];congr 1;split<;>rfl
theorem yq(x:Str)(v:W):∀ps:List (Str×W),KS (ps.map fun p=>if p.1==x then(p.1,v)else p)=KS ps|[]=>rfl|p::ps=>by show W.str (if(p.1==x)=true then(p.1,v)else p).1::KS _=W.str p.1::KS ps;rw[yq x v ps];congr 2;split<;>rfl
theorem vY(ps:List (Str×W))(x:Str)(v:W):putK (KS ps) (.str x)=KS (zz ps x v)/\tG (KS ps) (US ps) (.str x) v=US (zz ps x v):=by
 unfold putK tG zz;rw[adJ];by_cases h:(ps.any fun p=>p.1==x)=true;·rw[if_pos h,if_pos h,if_pos h];exact⟨(yq x v ps).symm,x6 x v ps⟩
 ·rw[if_neg h,if_neg h,if_neg h];simp[KS,US]
theorem adM(x:Str):∀{ps:List (Str×W)},W.str x∈KS ps->∃p∈ps,p.1=x/\nc x (KS ps) (US ps)=some p.2
|[],h=>nomatch h|p::ps,h=>by
  show∃q∈p::ps,q.1=x/\(if(p.1==x)=true then some p.2 else nc x (KS ps) (US ps))=some q.2;by_cases hx:(p.1==x)=true;·exact⟨p,by simp,eq_of_beq hx,by rw[if_pos hx]⟩
  ·rw[if_neg hx];have h':W.str x∈KS ps:=by
    rcases List.mem_cons.mp h with z|z;·have:x=p.1:=W.str.inj z;exact(hx (by simp[this])).elim
    ·exact z
   obtain⟨q,hq,e1,e2⟩:=adM x h';exact⟨q,by simp[hq],e1,e2⟩
theorem aap{ps:List (Str×W)}{k:W}(h:k∈KS ps):∃p∈ps,k=.str p.1:=by obtain⟨p,hp,e⟩:=List.mem_map.mp h;exact⟨p,hp,e.symm⟩
theorem ab9{ps:List (Str×W)}{x:Str}(h:W.str x∈KS ps):∃p∈ps,p.1=x/\qK (.dic (KS ps) (US ps)) (.str x)=a5 [p.2]:=by obtain⟨p,hp,e1,e2⟩:=adM x h;refine⟨p,hp,e1,?_⟩;unfold qK;rw[zR,e2];rfl
theorem zV{ps:List (Str×W)}(h:∀p∈ps,NOk p.1):∀k∈KS ps,xo k:=fun k hk=>by obtain⟨p,hp,rfl⟩:=aap hk;exact q9 (h p hp)
theorem ur(ps:List (Str×W)):(KS ps).length=ps.length:=by simp[KS]
structure NN(N:List Str):Prop where
 ok:∀x∈N,NOk x
 few:N.length<=60
theorem nN{x:Str}(h:NOk x):okV x=true:=by unfold okV;simp only[Bool.and_eq_true,Nat.ble_eq,List.all_eq_true,bne_iff_ne,ne_eq];exact⟨⟨fun c hc=>⟨fun z=>by have:=(h.ch c hc).1;omega,by have:=(h.ch c hc).2;omega⟩,by have:=h.hi;omega⟩,h.lo⟩
theorem nok_p{x:Str}(h:NOk x):x≠("(":Str)/\x≠")":=by
 refine⟨fun z=>?_,fun z=>?_⟩;·have:=h.ch 40 (by rw[z];decide+kernel);omega
 ·have:=h.ch 41 (by rw[z];decide+kernel);omega
theorem eK(n:Nat):∀ws:List Str,(∀w∈ws,okV w=true)->bH (n+1) (ws.map .str)=true|[],_=>rfl|w::ws,h=>by simp only[List.map_cons,bH,qQ (h w (by simp)),eK n ws fun x hx=>h x (by simp[hx]),Bool.and_self]
theorem qc{N:List Str}(hN:NN N){w:Str}(hw:okV w=true):oIn (.str w) (sW N)=.ok (.bl (N.any (·==w))):=by show(if(okD 50 (.str w)&&bH 51 (N.map .str))=true then Res.ok (W.bl (bJ (.str w) (N.map .str)))else .bad)=_;rw[qQ hw,eK 50 N fun x hx=>nN (hN.ok x hx),iG];rfl
mutual theorem yw{N:List Str}(hN:NN N):∀(n:Nat)(i:It),i.Ok N n->i.ws≠[]/\∀w∈i.ws,okV w=true
|n,.call x,ok=>by
 have ok:x∈N:=by cases n<;>simpa only[It.Ok]using ok
 refine⟨by simp[It.ws],fun w hw=>?_⟩;have hw:w=x:=by simpa[It.ws]using hw
 rw[hw];exact nN (hN.ok x ok)|0,.br h is,ok=>by simp only[It.Ok]at ok|n+1,.br h is,ok=>by
 simp only[It.Ok]at ok;refine⟨by simp[It.ws],fun w hw=>?_⟩;simp only[It.ws,List.mem_append,List.mem_cons,List.not_mem_nil,or_false]at hw;rcases hw with hw|rfl|hw|rfl;·exact(xj ok.1 w hw).1
 ·decide+kernel
 ·exact uF hN n is ok.2.2 w hw
 ·decide+kernel theorem uF{N:List Str}(hN:NN N):∀(n:Nat)(is:List It),Its.Ok N n is->∀w∈Its.ws is,okV w=true
|n,[],_,w,hw=>nomatch hw|n,i::is,ok,w,hw=>by
 simp only[Its.Ok]at ok;simp only[Its.ws,List.mem_append]at hw;rcases hw with hw|hw;·exact(yw hN n i ok.1).2 w hw
 ·exact uF hN n is ok.2 w hw end
theorem xi{N:List Str}(hN:NN N){h:Hd}(ok:h.Ok):∃w r,h.ws=w::r/\okV w=true/\N.any (·==w)=false:=by
 have key:∀w:Str,okV w=true->(w∈kept\/acW w=true)->okV w=true/\N.any (·==w)=false:=fun w hv hk=>by
  refine⟨hv,?_⟩;rw[Bool.eq_false_iff];intro z;obtain⟨x,hx,e⟩:=List.any_eq_true.mp z;have hx:=hN.ok x hx;rw[eq_of_beq e]at hx;rcases hk with hk|hk;·exact hx.nk hk
  ·unfold acW at hk;rw[Bool.and_eq_true,List.all_eq_true]at hk;have hl:=hx.lo;cases hc:w.cps.toList with|nil=>have:w.length=w.cps.toList.length:=rfl;rw[hc]at this;simp at this;omega|cons c r=>have h1:=hk.2 c (by rw[hc];simp);have h2:=hx.ch c (by rw[hc];simp);simp only[Bool.and_eq_true,Nat.ble_eq]at h1;omega
 cases h with|times n=>exact⟨_,_,rfl,key _ (xj ok _ (by simp[Hd.ws])).1 (.inr (zU (by have:=ok.1;omega) (by have:=ok.2;omega)))⟩|inner n=>exact⟨_,_,rfl,key _ (by decide+kernel) (.inl (by simp[kept]))⟩|couples=>exact⟨_,_,rfl,key _ (by decide+kernel) (.inl (by simp[kept]))⟩|some s=>exact⟨_,_,rfl,key _ (xj (h:=.some s) trivial _ (by simp[Hd.ws])).1 (.inl (by cases s<;>simp[kept,So.w]))⟩
theorem qd:∀(ws:List Str)(k:Nat)(post:List W),(∀w∈ws,w≠("(":Str))->idx (.str "(") k (ws.map .str++.str "("::post)=some (k+ws.length)
|[],k,post,_=>by simp[idx,eqv]|w::ws,k,post,h=>by
 have h1:(w==("(":Str))=false:=by simpa using h w (by simp)
 have ih:=qd ws (k+1) post fun x hx=>h x (by simp[hx]);simp only[List.map_cons,List.cons_append,idx,eqv,h1,Bool.false_eq_true,if_false,ih,List.length_cons];congr 1;omega
theorem aaJ(a b c:List W):cut (a++b++c) (some (a.length:Nat)) (some ((a.length+b.length:Nat):Int))=b:=by
 unfold cut sIx;have h1:¬((a.length:Nat):Int)<0:=by omega
 have h2:¬((a.length+b.length:Nat):Int)<0:=by omega
 dsimp only;rw[if_neg h1,if_neg h2,Int.toNat_natCast,Int.toNat_natCast];have l:(a++b++c).length=a.length+b.length+c.length:=by simp;omega
 rw[l,Nat.min_eq_left (by omega),Nat.min_eq_left (by omega),List.append_assoc,List.drop_left,show a.length+b.length-a.length=b.length by omega,List.take_left]
theorem xE(a b:List W)(x:W):cut (a++b++[x]) (some (a.length:Nat)) (some (-1))=b:=by
 unfold cut sIx;have h1:¬((a.length:Nat):Int)<0:=by omega
 dsimp only;rw[if_neg h1,if_pos (by decide:(-1:Int)<0),Int.toNat_natCast];have l:(a++b++[x]).length=a.length+b.length+1:=by simp;omega
 rw[l,Nat.min_eq_left (by omega),show(-1+((a.length+b.length+1:Nat):Int)).toNat=a.length+b.length by omega,List.append_assoc,List.drop_left,show a.length+b.length-a.length=b.length by omega,List.take_left]
theorem vc(a b:List W):cut (a++b) none (some (a.length:Nat))=a:=by
 unfold cut sIx;have h1:¬((a.length:Nat):Int)<0:=by omega
 dsimp only;rw[if_neg h1,Int.toNat_natCast,Nat.min_eq_left (by simp),List.drop_zero,Nat.sub_zero,List.take_left]
theorem aaC(h:Hd):h.ps.length<=2:=by cases h<;>simp[Hd.ps]
theorem rK{N:List Str}(hN:NN N){n:Nat}{h:Hd}{is:List It}(ok:(It.br h is).Ok N (n+1)){d:Int}(hd:d<=6){rec_:List W->Res W}(hl:(It.br h is).ws.length<=100000)(hr:rec_ [sW N,sW (Its.ws is),.int d]=.ok (.lst (Its.W is))):ax rec_ [sW N,sW (It.br h is).ws,.int d]=.ok (It.br h is).W:=by
 have hV:=(yw hN (n+1) _ ok).2;simp only[It.Ok]at ok;have e0:((It.br h is).ws.map W.str)=h.ws.map W.str++W.str "("::((Its.ws is).map W.str++[W.str ")"]):=by simp[It.ws]
 have ei:i8 (sW (It.br h is).ws) [.str "("]=.ok (.int (h.ws.length:Nat)):=by
  show(if(okD 50 (.str "(")&&bH 51 ((It.br h is).ws.map W.str)&&decide (((It.br h is).ws.map W.str).length<=lim))=true then(match idx (.str "(") 0 ((It.br h is).ws.map W.str)with|some k=>Res.ok (W.int k)|none=>.bad)else .bad)=_;rw[eK 50 _ hV,e0,qd h.ws 0 _ (fun w hw=>(xj ok.1 w hw).2.1),if_pos];·simp
  ·rw[<-e0,List.length_map,Bool.and_eq_true];exact⟨by decide+kernel,decide_eq_true (Nat.le_trans hl (by decide))⟩
 have es:oSl (sW (It.br h is).ws) (some ((h.ws.length:Nat)+1)) (some (-1))=.ok (sW (Its.ws is)):=by show Res.ok (W.lst (cut ((It.br h is).ws.map W.str) (some ((h.ws.length:Int)+1)) (some (-1))))=_;have:=xE (h.ws.map W.str++[W.str "("]) ((Its.ws is).map W.str) (.str ")");rw[show((h.ws.map W.str++[W.str "("]).length:Int)=(h.ws.length:Int)+1 by simp]at this;rw[e0,show h.ws.map W.str++W.str "("::((Its.ws is).map W.str++[W.str ")"])=h.ws.map W.str++[W.str "("]++(Its.ws is).map W.str++[W.str ")"]by simp,this];rfl
 have ef:oSl (sW (It.br h is).ws) none (some (h.ws.length:Nat))=.ok (sW h.ws):=by show Res.ok (W.lst (cut ((It.br h is).ws.map W.str) none (some (h.ws.length:Int))))=_;have:=vc (h.ws.map W.str) (W.str "("::((Its.ws is).map W.str++[W.str ")"]));rw[List.length_map]at this;rw[e0,this];rfl
 have et:ahJ (sW (Its.ws is))=.ok true:=by cases hi:is with|nil=>exact(ok.2.1 hi).elim|cons i r=>
   have hne:Its.ws (i::r)≠[]:=by have h2:=ok.2.2;rw[hi]at h2;simp only[Its.Ok]at h2;simp[Its.ws,(yw hN n i h2.1).1]
   show Res.ok (!((Its.ws (i::r)).map W.str).isEmpty)=_;cases hw:Its.ws (i::r)with|nil=>exact(hne hw).elim|cons _ _=>rfl
 have eh:=lL ok.1;have eh:bg [sW h.ws]=.ok (.tup h.ps):=eh;have ea:fc (.tup h.ps) (.tup [.lst (Its.W is)])=.ok (It.br h is).W:=by show(if h.ps.length+1<=lim then Res.ok (W.tup (h.ps++[.lst (Its.W is)]))else .bad)=_;rw[if_pos (Nat.le_trans (Nat.succ_le_succ (aaC h)) (by decide))];simp only[It.W]
 have hd':¬6<d:=by omega
 have ek:dU (sW (It.br h is).ws)="list":=rfl;generalize sW (It.br h is).ws=L at *;generalize sW (Its.ws is)=I at *;generalize sW h.ws=G at *;generalize sW N=M at *;simp[ax,dm,List.replicate,dZ,hd',ei,es,ef,tL,et,eh,hr,ea,ek]
theorem qu{c:TF}{b:SF}{n:Nat}{σ:Ws}(h:c σ=.ok false):bZ c b (n+1) σ=.nx σ:=by unfold bZ;rw[h];rfl
theorem oV{c:TF}{b:SF}{n:Nat}{σ σ':Ws}(h:c σ=.ok true)(hb:b σ=.nx σ'):bZ c b (n+1) σ=bZ c b n σ':=by show ofR σ (c σ) _=_;rw[h];show(match b σ with|.nx σ2=>bZ c b n σ2|.ct σ2=>bZ c b n σ2|.bk σ2=>.nx σ2|o=>o)=_;rw[hb]
theorem uq(ws:List Str):cx [sW ws]=.ok (.int (ws.length:Nat)):=by show Res.ok (W.int ((ws.map W.str).length:Nat))=_;rw[List.length_map]
theorem gC{N:List Str}(hN:NN N){n:Nat}{d:Int}{rec_:List W->Res W}:∀(is:List It)(pre:List Str)(acc:List W)(s5:Sl)(fuel:Nat),Its.Ok N n is->is.length<fuel->(pre++Its.ws is).length<=250->acc.length+is.length<=100000->(∀h is',(It.br h is').Ok N n->(It.br h is').ws.length<=250->rec_ [sW N,sW (It.br h is').ws,.int (d+1)]=.ok (It.br h is').W)->∃s5',bZ (aK rec_) (aL rec_) fuel [.va (sW N),.va (sW (pre++Its.ws is)),.va (.int d),.ow acc,.va (.int (pre.length:Nat)),s5]=.nx [.va (sW N),.va (sW (pre++Its.ws is)),.va (.int d),.ow (acc++Its.W is),.va (.int ((pre++Its.ws is).length:Nat)),s5']
|[],pre,acc,s5,fuel,_,hf,_,_,_=>by cases fuel with|zero=>omega|succ fuel=>
   refine⟨s5,?_⟩;have hc:aK rec_ [.va (sW N),.va (sW (pre++Its.ws [])),.va (.int d),.ow acc,.va (.int (pre.length:Nat)),s5]=.ok false:=by have e:=uq (pre++Its.ws []);generalize hL:sW (pre++Its.ws [])=L at *;simp[aK,e,Its.ws]
   rw[qu hc];simp[Its.ws,Its.W]
|i::is,pre,acc,s5,fuel,ok,hf,hl,ha,hr=>by cases fuel with|zero=>simp at hf|succ fuel=>
   simp only[Its.Ok]at ok;simp only[List.length_cons]at hf ha;have hne:=(yw hN n i ok.1).1;have ew:pre++Its.ws (i::is)=(pre++i.ws)++Its.ws is:=by simp[Its.ws]
   have hpos:pre.length<(pre++Its.ws (i::is)).length:=by have:0<i.ws.length:=List.length_pos_iff.mpr hne;simp[Its.ws];omega
   have hc:aK rec_ [.va (sW N),.va (sW (pre++Its.ws (i::is))),.va (.int d),.ow acc,.va (.int (pre.length:Nat)),s5]=.ok true:=by
    have e:=uq (pre++Its.ws (i::is));have h1:((pre.length:Nat):Int)<((pre++Its.ws (i::is)).length:Nat):=by omega
    generalize hL:sW (pre++Its.ws (i::is))=L at *;generalize(pre++Its.ws (i::is)).length=M at *;simp[aK,e,h1]
   have hac:acc.length<1000000:=by omega
   cases i with|call x=>
    have okx:x∈N:=by have:=ok.1;cases n<;>simpa only[It.Ok]using this
    have eix:=j6 pre x (Its.ws is);have e0:pre++Its.ws (It.call x::is)=pre++x::Its.ws is:=by simp[Its.ws,It.ws]
    have ein:=qc hN (nN (hN.ok x okx));rw[List.any_eq_true.mpr ⟨x,okx,by simp⟩]at ein;obtain⟨s5',ih⟩:=gC hN is (pre++[x]) (acc++[.tup [.str "call",.str x]]) s5 fuel ok.2 (by omega) (by rw[show pre++[x]++Its.ws is=pre++Its.ws (It.call x::is)by rw[e0];simp];exact hl) (by simp;omega) hr;refine⟨s5',?_⟩;have hb:aL rec_ [.va (sW N),.va (sW (pre++Its.ws (It.call x::is))),.va (.int d),.ow acc,.va (.int (pre.length:Nat)),s5]=.nx [.va (sW N),.va (sW (pre++Its.ws (It.call x::is))),.va (.int d),.ow (acc++[.tup [.str "call",.str x]]),.va (.int ((pre++[x]).length:Nat)),s5]:=by rw[e0];generalize hL:sW (pre++x::Its.ws is)=L at *;generalize hM:sW N=M at *;simp[aL,eix,ein,abd,hac,qR]
    rw[oV hc hb];rw[show pre++[x]++Its.ws is=pre++Its.ws (It.call x::is)by rw[e0];simp]at ih;rw[ih];simp[Its.W,It.W]|br h is'=>cases n with|zero=>exact absurd ok.1 (by simp only[It.Ok];exact fun z=>z)|succ n=>
    have okb:=ok.1;have oks:=ok.1;simp only[It.Ok]at oks;obtain⟨w,r,hw,hv,hno⟩:=xi hN oks.1;have e0:pre++Its.ws (It.br h is'::is)=pre++w::(r++(("(":Str)::(Its.ws is'++[(")":Str)]))++Its.ws is):=by simp[Its.ws,It.ws,hw]
    have eix:=j6 pre w (r++(("(":Str)::(Its.ws is'++[(")":Str)]))++Its.ws is);rw[<-e0]at eix;have ein:=qc hN hv;rw[hno]at ein;have hlen:(pre++(It.br h is').ws++Its.ws is).length<=250:=by rw[<-ew];exact hl
    have eend:=end_eq (fun x hx=>nok_p (hN.ok x hx)) okb pre (Its.ws is) (Nat.le_trans hlen (by decide));rw[<-ew]at eend;have hwl:(It.br h is').ws.length<=250:=by
     have:(pre++(It.br h is').ws++Its.ws is).length=pre.length+(It.br h is').ws.length+(Its.ws is).length:=by simp;omega
     omega
    have esl:oSl (sW (pre++Its.ws (It.br h is'::is))) (some (pre.length:Nat)) (some ((pre.length:Int)+((It.br h is').ws.length:Nat)))=.ok (sW (It.br h is').ws):=by rw[ew];have:=aaJ (pre.map W.str) ((It.br h is').ws.map W.str) ((Its.ws is).map W.str);rw[List.length_map,List.length_map]at this;show Res.ok (W.lst (cut ((pre++(It.br h is').ws++Its.ws is).map W.str) (some (pre.length:Nat)) (some ((pre.length:Int)+((It.br h is').ws.length:Nat)))))=_;rw[List.map_append,List.map_append,show((pre.length:Int)+((It.br h is').ws.length:Nat))=((pre.length+(It.br h is').ws.length:Nat):Int)by omega,this];rfl
    have erec:=hr h is' okb hwl;obtain⟨s5',ih⟩:=gC hN is (pre++(It.br h is').ws) (acc++[(It.br h is').W]) (.va (.int ((pre.length:Int)+((It.br h is').ws.length:Nat)))) fuel ok.2 (by omega) hlen (by simp;omega) hr;refine⟨s5',?_⟩;have hb:aL rec_ [.va (sW N),.va (sW (pre++Its.ws (It.br h is'::is))),.va (.int d),.ow acc,.va (.int (pre.length:Nat)),s5]=.nx [.va (sW N),.va (sW (pre++Its.ws (It.br h is'::is))),.va (.int d),.ow (acc++[(It.br h is').W]),.va (.int ((pre.length:Int)+((It.br h is').ws.length:Nat))),.va (.int ((pre.length:Int)+((It.br h is').ws.length:Nat)))]:=by generalize sW (pre++Its.ws (It.br h is'::is))=L at *;generalize sW N=M at *;generalize sW (It.br h is').ws=G at *;generalize(It.br h is').W=V at *;generalize(It.br h is').ws.length=q at *;simp[aL,eix,ein,eend,esl,erec,abd,hac]
    rw[oV hc hb];rw[<-ew,show((pre++(It.br h is').ws).length:Nat)=pre.length+(It.br h is').ws.length by simp]at ih;rw[show((pre.length:Int)+((It.br h is').ws.length:Nat))=((pre.length+(It.br h is').ws.length:Nat):Int)by omega]at *;rw[ih];simp[Its.W]
theorem cO:∀{N:List Str}(hN:NN N){n:Nat}(is:List It),Its.Ok N n is->is.length<=(Its.ws is).length|N,hN,n,[],_=>by simp|N,hN,n,i::is,ok=>by simp only[Its.Ok]at ok;have h1:=cO hN is ok.2;have h2:0<i.ws.length:=List.length_pos_iff.mpr (yw hN n i ok.1).1;simp[Its.ws];omega
theorem fS{N:List Str}(hN:NN N):∀(n:Nat)(is:List It)(d:Int)(fuel:Nat),Its.Ok N n is->d+n<=6->n<fuel->(Its.ws is).length<=250->au fuel [sW N,sW (Its.ws is),.int d]=.ok (.lst (Its.W is))
|n,is,d,0,_,_,h,_=>by omega|n,is,d,fuel+1,ok,hd,hf,hl=>by
 have hil:=cO hN is ok;have hrec:∀h is',(It.br h is').Ok N n->(It.br h is').ws.length<=250->ax (au fuel) [sW N,sW (It.br h is').ws,.int (d+1)]=.ok (It.br h is').W:=fun h is' okb hw=>by cases n with|zero=>exact absurd okb (by simp only[It.Ok];exact fun z=>z)|succ n=>
  have okc:=okb;simp only[It.Ok]at okc;have hl2:(Its.ws is').length<=250:=by simp[It.ws]at hw;omega
  exact rK hN okb (by omega) (Nat.le_trans hw (by decide)) (fS hN n is' (d+1) fuel okc.2.2 (by omega) (by omega) hl2)
 obtain⟨s5,e⟩:=gC hN (d:=d) (rec_:=ax (au fuel)) is [] [] .no 300 ok (by omega) (by simp;omega) (by simp;omega) hrec;simp only[List.nil_append,List.length_nil]at e;have e':bZ (aK (ax (au fuel))) (aL (ax (au fuel))) 300 [.va (sW N),.va (sW (Its.ws is)),.va (.int d),.ow [],.va (.int 0),.no]=_:=e;have hz:vx 3 (b8 (ah 3)) [.va (sW N),.va (sW (Its.ws is)),.va (.int d),.ow (Its.W is),.va (.int ((Its.ws is).length:Nat)),s5]=.rt (.lst (Its.W is)):=rfl;have hlf:∀σ,fo σ=300:=fun _=>rfl;generalize sW (Its.ws is)=L at *;generalize sW N=M at *;show run 6 (cY (ax (au fuel))) [M,L,.int d]=_;simp[cY,List.replicate,hlf,e',hz]
theorem kS(x y:Str):(x++y).cps.toList=x.cps.toList++y.cps.toList:=by show(x.cps++y.cps).toList=_;simp
theorem cC(x y:Str):(x++y).length=x.length+y.length:=by show(x.cps++y.cps).size=_;rw[Array.size_append];rfl
theorem yF(sep:Str):∀(xs:List (List Str)),(∀x∈xs,x≠[])->SG.J sep (xs.map (SG.J sep))=SG.J sep xs.flatten
|[],_=>rfl|[x],h=>by simp only[List.map_cons,List.map_nil,List.flatten_cons,List.flatten_nil,List.append_nil];exact SG.oR _ _|x::y::xs,h=>by
 have ih:=yF sep (y::xs) fun z hz=>h z (by simp[hz]);have hf:(y::xs).flatten≠[]:=by have:=h y (by simp);simp[this]
 rw[List.flatten_cons,SG.rN _ _ _ (h x (by simp)) hf,<-ih];rw[show(x::y::xs).map (SG.J sep)=[SG.J sep x]++(y::xs).map (SG.J sep)from rfl,SG.rN _ _ _ (by simp) (by simp),SG.oR]
theorem vP{i:Int}(h1:-1000<=i)(h2:i<=1000):jA [.int i]=.ok (.str (toString i:Str)):=by
 refine if_pos ?_;by_cases z:i.natAbs=0;·rw[z];decide
 ·rw[Nat.log2_lt z];exact Nat.lt_of_lt_of_le (show i.natAbs<1024 by omega) (Nat.pow_le_pow_right (n:=2) (by decide) (show 10<=1920 by decide))
theorem dq:∀is:List It,Its.W is=is.map It.W|[]=>rfl|i::is=>by simp only[Its.W,List.map_cons,dq is]
theorem rW:∀is:List It,Its.ws is=(is.map It.ws).flatten|[]=>rfl|i::is=>by simp only[Its.ws,List.map_cons,List.flatten_cons,rW is]
theorem mT{x y:Str}(h:x.length+y.length<=1000000):m9 (.str x) (.str y)=.ok (.str (x++y)):=if_pos h
theorem aed(a b:Str):SG.J " " [a,b]=a++(" ":Str)++b:=by rw[show[a,b]=[a]++[b]from rfl,SG.rN _ _ _ (by simp) (by simp),SG.oR,SG.oR]
theorem m7(x y z:Str):x++y++z=x++(y++z):=by rw[<-SG.iS (x++y++z),<-SG.iS (x++(y++z)),kS,kS,kS,kS,List.append_assoc]
theorem kn{h:Hd}(ok:h.Ok)(w:W):aY [.tup (h.ps++[w])]=.ok (.str (SG.J " " h.ws)):=by cases h with|some s=>cases s<;>kernel_rfl|couples=>kernel_rfl|inner n=>
 have e:=vP (i:=n) (by have:=ok.1;omega) (by have:=ok.2;omega);have hl:(toString n:Str).length<=10:=(nG (xj ok _ (by simp[Hd.ws])).1).2.1;have hJ:("inner ":Str)++(toString n:Str)=SG.J " " (Hd.inner n).ws:=by show _=SG.J " " [("inner":Str),toString n];rw[aed,show("inner":Str)++(" ":Str)=("inner ":Str)by decide+kernel]
 have hc:m9 (.str "inner ") (.str (toString n:Str))=.ok (.str (SG.J " " (Hd.inner n).ws)):=by rw[mT (by rw[show("inner ":Str).length=6 by decide+kernel];omega),hJ]
 show aY [.tup [.str "inner",.int n,w]]=_;generalize SG.J " " (Hd.inner n).ws=R at *;generalize(toString n:Str)=T at *;simp[aY,cX,List.replicate,oIx,atI,ixN,eL,e,hc]|times n=>
 have e:=vP (i:=n) (by have:=ok.1;omega) (by have:=ok.2;omega);have hl:(toString n:Str).length<=10:=(nG (xj ok _ (by simp[Hd.ws])).1).2.1;have hJ:(toString n:Str)++(" times":Str)=SG.J " " (Hd.times n).ws:=by show _=SG.J " " [(toString n:Str),"times"];rw[aed,m7,show(" ":Str)++("times":Str)=(" times":Str)by decide+kernel]
 have hc:m9 (.str (toString n:Str)) (.str " times")=.ok (.str (SG.J " " (Hd.times n).ws)):=by rw[mT (by rw[show(" times":Str).length=6 by decide+kernel];omega),hJ]
 show aY [.tup [.str "times",.int n,w]]=_;generalize SG.J " " (Hd.times n).ws=R at *;generalize(toString n:Str)=T at *;simp[aY,cX,List.replicate,oIx,atI,ixN,eL,e,hc]
theorem aiI{N:List Str}(hN:NN N){n:Nat}{is:List It}(ok:Its.Ok N n is)(hl:(Its.ws is).length<=250):(SG.J " " (Its.ws is)).length<=2750:=by have:=ahE (x:=" ") (ws:=Its.ws is) 10 250 (fun w hw=>(nG (uF hN n is ok w hw)).2.1) hl;rw[show(" ":Str).length=1 by decide+kernel]at this;omega
theorem agW(h:Hd):h.ws≠[]:=by cases h<;>simp[Hd.ws]
theorem km{N:List Str}(hN:NN N){n:Nat}{i:It}(ok:i.Ok N n)(hl:i.ws.length<=250){rec_:List W->Res W}(hr:∀h is,i=.br h is->rec_ [.lst (Its.W is)]=.ok (.str (SG.J " " (Its.ws is)))):aM rec_ [i.W]=.ok (.str (SG.J " " i.ws)):=by cases i with|call x=>show aM rec_ [.tup [.str "call",.str x]]=.ok (.str (SG.J " " [x]));rw[SG.oR];simp[aM,cW,List.replicate,oIx,atI,ixN,eL]|br h is=>cases n with|zero=>exact absurd ok (by simp only[It.Ok];exact fun z=>z)|succ n=>
 have okc:=ok;simp only[It.Ok]at okc;have er:=hr h is rfl;have eh:=kn okc.1 (.lst (Its.W is));have hne:Its.ws is≠[]:=by cases is with|nil=>exact(okc.2.1 rfl).elim|cons i r=>have h2:=okc.2.2;simp only[Its.Ok]at h2;simp[Its.ws,(yw hN n i h2.1).1]
 have hJ:SG.J " " h.ws++(" ( ":Str)++SG.J " " (Its.ws is)++(" )":Str)=SG.J " " (It.br h is).ws:=by
  simp only[It.ws];rw[SG.rN _ _ _ (agW h) (by simp),show("(":Str)::(Its.ws is++[(")":Str)])=[("(":Str)]++(Its.ws is++[(")":Str)])from rfl,SG.rN _ _ _ (by simp) (by simp),SG.rN _ _ _ hne (by simp),SG.oR,SG.oR];have e1:(" ( ":Str)=(" ":Str)++("(":Str)++(" ":Str):=by decide+kernel
  have e2:(" )":Str)=(" ":Str)++(")":Str):=by decide+kernel
  rw[e1,e2];simp only[m7]
 have hw2:(Its.ws is).length<=250:=by simp[It.ws]at hl;omega
 have b1:(SG.J " " h.ws).length<=2750:=by have:=ahE (x:=" ") (ws:=h.ws) 10 250 (fun w hw=>(nG (xj okc.1 w hw).1).2.1) (by simp[It.ws]at hl;omega);rw[show(" ":Str).length=1 by decide+kernel]at this;omega
 have b2:=aiI hN okc.2.2 hw2;have c1:m9 (.str (SG.J " " h.ws)) (.str " ( ")=.ok (.str (SG.J " " h.ws++(" ( ":Str))):=mT (by rw[show(" ( ":Str).length=3 by decide+kernel];omega);have c2:m9 (.str (SG.J " " h.ws++(" ( ":Str))) (.str (SG.J " " (Its.ws is)))=.ok (.str (SG.J " " h.ws++(" ( ":Str)++SG.J " " (Its.ws is))):=mT (by rw[cC,show(" ( ":Str).length=3 by decide+kernel];omega);have c3:m9 (.str (SG.J " " h.ws++(" ( ":Str)++SG.J " " (Its.ws is))) (.str " )")=.ok (.str (SG.J " " (It.br h is).ws)):=by rw[mT (by rw[cC,cC,show(" ( ":Str).length=3 by decide+kernel,show(" )":Str).length=2 by decide+kernel];omega),hJ]
 have el:oIx (It.br h is).W (.int (-1))=.ok (.lst (Its.W is)):=by simp only[It.W];cases h<;>rfl
 have e0:∃k:Str,oIx (It.br h is).W (.int 0)=.ok (.str k)/\(k=="call")=false:=by simp only[It.W];cases h<;>exact⟨_,rfl,by decide+kernel⟩
 obtain⟨k,e0,ek⟩:=e0;have eh:aY [(It.br h is).W]=.ok (.str (SG.J " " h.ws)):=by simp only[It.W];exact eh
 generalize(It.br h is).W=V at *;generalize SG.J " " (It.br h is).ws=R at *;generalize SG.J " " h.ws=A at *;generalize SG.J " " (Its.ws is)=C at *;simp[aM,cW,List.replicate,e0,eL,ek,el,eh,er,c1,c2,c3];intro z;rw[z]at ek;simp at ek
theorem cA{N:List Str}(hN:NN N):∀(fuel n:Nat)(is:List It),Its.Ok N n is->n<fuel->(Its.ws is).length<=250->ak fuel [.lst (Its.W is)]=.ok (.str (SG.J " " (Its.ws is)))
|0,n,is,_,h,_=>by omega|fuel+1,n,is,ok,hf,hl=>by
 have one:∀{l:List It},Its.Ok N n l->∀i∈l,i.Ok N n:=fun{l}=>by induction l with|nil=>intro _ i hi;nomatch hi|cons a l ih=>
  intro o i hi;simp only[Its.Ok]at o;rcases List.mem_cons.mp hi with rfl|hi;·exact o.1
  ·exact ih o.2 i hi
 have len:∀{l:List It},∀i∈l,i.ws.length<=(Its.ws l).length:=fun{l}=>by induction l with|nil=>intro i hi;nomatch hi|cons a l ih=>
  intro i hi;simp only[Its.ws,List.length_append];rcases List.mem_cons.mp hi with rfl|hi;·omega
  ·have:=ih i hi;omega
 have hi:∀i∈is,aM (ak fuel) [i.W]=.ok (.str (SG.J " " i.ws)):=fun i hi=>by have okI:=one ok i hi;have hw:=len i hi;refine km hN okI (by omega) fun h is' e=>?_;subst e;cases n with|zero=>exact absurd okI (by simp only[It.Ok];exact fun z=>z)|succ n=>simp only[It.Ok]at okI;exact cA hN fuel n is' okI.2.2 (by omega) (by simp[It.ws]at hw;omega)
 have hil:=cO hN is ok;have hc:=jx (g:=ay 0) (t:=pb) (e:=bF (aM (ak fuel)) (aa (ah 0) aj)) (σ:=[.no,.va (.lst (Its.W is))]) (emb:=It.W) (f:=fun i=>W.str (SG.J " " i.ws)) (xs:=is) fun i h=>⟨_,rfl,rfl,by simp[hi i h]⟩;rw[<-dq]at hc;have hJ:SG.J " " (is.map fun i=>SG.J " " i.ws)=SG.J " " (Its.ws is):=by
  have:=yF " " (is.map It.ws) fun x hx=>by obtain⟨i,h,rfl⟩:=List.mem_map.mp hx;exact(yw hN n i (one ok i h)).1
  rw[List.map_map]at this;rw[rW];exact this
 have hj:=nY (x:=" ") (ws:=is.map fun i=>SG.J " " i.ws) 2750 250 (fun w hw=>by obtain⟨i,h,rfl⟩:=List.mem_map.mp hw;have:=ahE (x:=" ") (ws:=i.ws) 10 250 (fun w hw=>(nG ((yw hN n i (one ok i h)).2 w hw)).2.1) (by have:=len i h;omega);rw[show(" ":Str).length=1 by decide+kernel]at this;omega) (by simp;omega) (by rw[show(" ":Str).length=1 by decide+kernel];decide);rw[hJ,List.map_map]at hj;have hj':gA (.str " ") [.lst (is.map fun i=>W.str (SG.J " " i.ws))]=.ok (.str (SG.J " " (Its.ws is))):=hj;have hz:(Its.W is).length<=1000000:=by rw[dq,List.length_map];omega
 show run 1 (bM (aM (ak fuel))) [.lst (Its.W is)]=_;generalize SG.J " " (Its.ws is)=R at *;simp[bM,List.replicate,hz,hc,hj',dU]
mutual theorem aga{N:List Str}(hN:NN N):∀(n m:Nat)(i:It),i.Ok N n->okD (2*n+2+m) i.W=true
|n,m,.call x,ok=>by
 have ok:x∈N:=by cases n<;>simpa only[It.Ok]using ok
 have h1:=qQ (nN (hN.ok x ok));obtain⟨k,hk⟩:∃k,2*n+2+m=k+1:=⟨2*n+1+m,by omega⟩;rw[hk];show(okD k (.str "call")&&(okD k (.str x)&&true))=true;rw[h1,qQ (w:="call") (by decide+kernel)];rfl|0,m,.br h is,ok=>by simp only[It.Ok]at ok|n+1,m,.br h is,ok=>by
 simp only[It.Ok]at ok;have ih:=pM hN n m is ok.2.2;have hx:okD (2*n+2+m+1) (.lst (Its.W is))=true:=by simp only[okD];exact ih
 rw[show 2*(n+1)+2+m=(2*n+2+m+1)+1 by omega];simp only[It.W,okD];have s1:∀{k:Nat}{w:Str},okV w=true->okD k (.str w)=true:=fun h=>qQ h _;cases h with|some s=>cases s<;>simp only[Hd.ps,List.cons_append,List.nil_append,bH,hx,Bool.and_true,So.w]<;>(rw[s1 (by decide+kernel),s1 (by decide+kernel)];rfl)|couples=>simp only[Hd.ps,List.cons_append,List.nil_append,bH,hx,Bool.and_true];exact s1 (by decide+kernel)|inner k=>simp only[Hd.ps,List.cons_append,List.nil_append,bH,hx,Bool.and_true];rw[s1 (by decide+kernel)];rfl|times k=>simp only[Hd.ps,List.cons_append,List.nil_append,bH,hx,Bool.and_true];rw[s1 (by decide+kernel)];rfl theorem pM{N:List Str}(hN:NN N):∀(n m:Nat)(is:List It),Its.Ok N n is->bH (2*n+2+m+1) (Its.W is)=true|n,m,[],_=>rfl|n,m,i::is,ok=>by simp only[Its.Ok]at ok;simp only[Its.W,bH,aga hN n m i ok.1,pM hN n m is ok.2,Bool.and_self]end
noncomputable abbrev Fr2:=List (Hd×List It)
noncomputable def fw:Fr2->List It->List Str|[],b=>Its.ws b|(h,is)::r,b=>fw r b++(h.ws++("(":Str)::Its.ws is)
noncomputable def FOk(N:List Str):Fr2->List It->Prop|[],b=>Its.Ok N 6 b|(h,is)::r,b=>h.Ok/\Its.Ok N (6-(r.length+1)) is/\r.length+1<=6/\FOk N r b
noncomputable def a9:Fr2->List It->Fs|[],b=>[(.tup [],Its.W b)]|(h,is)::r,b=>(.tup h.ps,Its.W is)::a9 r b
noncomputable def jG:Fr2->List It->List It|[],b=>b|(_,is)::_,_=>is
theorem mz:∀(r:Fr2)(b:List It),(a9 r b).length=r.length+1|[],b=>rfl|(h,is)::r,b=>by simp only[a9,List.length_cons,mz r b]
theorem uQ(r:Fr2)(b:List It):∃h t,a9 r b=(h,Its.W (jG r b))::t:=by cases r with|nil=>exact⟨_,_,rfl⟩|cons p r=>obtain⟨h,is⟩:=p;exact⟨_,_,rfl⟩
theorem ji:∀(a b:List It),Its.W (a++b)=Its.W a++Its.W b/\Its.ws (a++b)=Its.ws a++Its.ws b|[],b=>⟨rfl,rfl⟩|i::a,b=>by obtain⟨h1,h2⟩:=ji a b;exact⟨by simp only[List.cons_append,Its.W,h1],by simp only[List.cons_append,Its.ws,h2,List.append_assoc]⟩
theorem t5{N:List Str}:∀{n:Nat}{a b:List It},Its.Ok N n a->Its.Ok N n b->Its.Ok N n (a++b)|n,[],b,_,hb=>hb|n,i::a,b,ha,hb=>by simp only[Its.Ok,List.cons_append]at ha⊢;exact⟨ha.1,t5 ha.2 hb⟩
noncomputable def jB(i:It):Fr2->List It->Fr2×List It|[],b=>([],b++[i])|(h,is)::r,b=>((h,is++[i])::r,b)
theorem oO{N:List Str}{i:It}:∀{r:Fr2}{b:List It},FOk N r b->i.Ok N (6-r.length)->FOk N (jB i r b).1 (jB i r b).2/\(jB i r b).1.length=r.length/\fw (jB i r b).1 (jB i r b).2=fw r b++i.ws/\jG (jB i r b).1 (jB i r b).2≠[]
|[],b,h,hi=>by
 refine⟨?_,rfl,?_,by simp[jB,jG]⟩;·exact t5 h (by simp only[Its.Ok];exact⟨hi,trivial⟩)
 ·simp[jB,fw,(ji b [i]).2,Its.ws]|(hd,is)::r,b,h,hi=>by obtain⟨h1,h2,h3,h4⟩:=h;refine⟨⟨h1,t5 h2 (by simp only[Its.Ok];exact⟨hi,trivial⟩),h3,h4⟩,rfl,?_,by simp[jB,jG]⟩;simp[jB,fw,(ji is [i]).2,Its.ws]
theorem oP(i:It):∀(r:Fr2)(b:List It){h:W}{is:List W}{t:Fs},a9 r b=(h,is)::t->a9 (jB i r b).1 (jB i r b).2=(h,is++[i.W])::t|[],b,h,is,t,e=>by simp only[a9,List.cons.injEq,Prod.mk.injEq]at e;obtain⟨⟨e1,e2⟩,e3⟩:=e;simp only[jB,a9,(ji b [i]).1,Its.W,<-e1,<-e2,<-e3]|(hd,js)::r,b,h,is,t,e=>by simp only[a9,List.cons.injEq,Prod.mk.injEq]at e;obtain⟨⟨e1,e2⟩,e3⟩:=e;simp only[jB,a9,(ji js [i]).1,Its.W,<-e1,<-e2,<-e3]
theorem nt(fs:Fs):cx [gR fs]=.ok (.int (fs.length:Nat)):=by show Res.ok (W.int ((fs.reverse.map frW).length:Nat))=_;rw[List.length_map,List.length_reverse]
theorem pe(h:W)(is:List W)(t:Fs):oIx (gR ((h,is)::t)) (.int (-1))=.ok (.lst [h,.lst is]):=by
 show ofO (atI (((h,is)::t).reverse.map frW) (-1))=_;have e:((h,is)::t).reverse.map frW=t.reverse.map frW++[.lst [h,.lst is]]:=by simp[frW]
 rw[e];unfold atI ixN;have z:¬(0:Int)<=-1:=by decide
 have z2:-((t.reverse.map frW++[W.lst [h,.lst is]]).length:Int)<=-1:=by simp;omega
 rw[if_neg z,if_pos z2];show ofO ((t.reverse.map frW++[W.lst [h,.lst is]])[(-1+((t.reverse.map frW++[W.lst [h,.lst is]]).length:Int)).toNat]?)=_;rw[show(-1+((t.reverse.map frW++[W.lst [h,.lst is]]).length:Int)).toNat=(t.reverse.map frW).length by simp;omega,List.getElem?_append_right (by omega),Nat.sub_self];rfl
theorem empty_eq{N:List Str}(hN:NN N){n:Nat}(hn:n<=6){is:List It}(ok:Its.Ok N n is):oEq (.lst (Its.W is)) (.lst [])=.ok (.bl is.isEmpty):=by
 have h1:okD 50 (.lst (Its.W is))=true:=by have:=pM hN n (47-2*n) is ok;rw[show 2*n+2+(47-2*n)+1=50 by omega]at this;simp only[okD];exact this
 show(if dM (.lst (Its.W is)) (.lst [])=true then _ else if(okD 50 (.lst (Its.W is))&&okD 50 (.lst []))=true then Res.ok (W.bl (eqv (.lst (Its.W is)) (.lst [])))else .bad)=_;rw[if_neg (by simp[dM]),h1,if_pos (show(true&&okD 50 (W.lst []))=true from rfl)];cases is with|nil=>rfl|cons i is=>rfl
theorem aby{N:List Str}:∀{r:Fr2}{b:List It},FOk N r b->∃n,n<=6/\Its.Ok N n (jG r b)/\n=6-r.length|[],b,h=>⟨6,by omega,h,rfl⟩|(hd,is)::r,b,h=>⟨6-(r.length+1),by omega,h.2.1,rfl⟩
theorem two_ix(a b:W){k:Int}(h:k=0\/k=1):∃w,oIx (.lst [a,b]) (.int k)=.ok w/\(w=a\/w=b):=by
 rcases h with rfl|rfl;·exact⟨a,rfl,.inl rfl⟩
 ·exact⟨b,rfl,.inr rfl⟩
theorem afC{k:Int}(h1:0<=k)(h2:k<4):∃s:So,oIx (.lst [.str "heads",.str "sides",.str "lefts",.str "rights"]) (.int k)=.ok (.str s.w):=by
 have h:k=0\/k=1\/k=2\/k=3:=by omega
 rcases h with rfl|rfl|rfl|rfl;·exact⟨.heads,rfl⟩
 ·exact⟨.sides,rfl⟩
 ·exact⟨.lefts,rfl⟩
 ·exact⟨.rights,rfl⟩
theorem aaB(m:Int)(hm:0<=m):∃h:Hd,h.Ok/\bq [.int m]=.ok (.tup [.tup h.ps,sW h.ws]):=by
 by_cases h0:m%4=0
 ·obtain⟨w,ew,hw⟩:=two_ix (.int (1+m/4%3)) (.int (1+m/4%60)) (k:=m/240%8/7) (by omega);obtain⟨n,rfl,n1,n2⟩:∃n:Int,w=.int n/\1<=n/\n<=60:=by
   rcases hw with rfl|rfl;·exact⟨_,rfl,by omega,by omega⟩
   ·exact⟨_,rfl,by omega,by omega⟩
  refine⟨.times n,⟨n1,n2⟩,?_⟩;have es:=vP (i:=n) (by omega) (by omega);show _=Res.ok (W.tup [.tup [.str "times",.int n],.lst [.str (toString n:Str),.str "times"]]);generalize(toString n:Str)=T at *;simp[bq,cF,List.replicate,h0,ew,es]
 by_cases h1:m%4=1
 ·obtain⟨w,ew,hw⟩:=two_ix (.int (1+m/4%4)) (.int (m/4%201)) (k:=m/900%4/3) (by omega);obtain⟨n,rfl,n1,n2⟩:∃n:Int,w=.int n/\0<=n/\n<=200:=by
   rcases hw with rfl|rfl;·exact⟨_,rfl,by omega,by omega⟩
   ·exact⟨_,rfl,by omega,by omega⟩
  refine⟨.inner n,⟨n1,n2⟩,?_⟩;have es:=vP (i:=n) (by omega) (by omega);show _=Res.ok (W.tup [.tup [.str "inner",.int n],.lst [.str "inner",.str (toString n:Str)]]);generalize(toString n:Str)=T at *;simp[bq,cF,List.replicate,h1,ew,es]
 by_cases h2:m/4%6=0;·exact⟨.couples,trivial,by simp[bq,cF,List.replicate,h0,h1,h2,Hd.ps,Hd.ws,sW]⟩
 ·obtain⟨s,es⟩:=afC (k:=m/24%4) (by omega) (by omega);refine⟨.some s,trivial,?_⟩;show _=Res.ok (W.tup [.tup [.str "some",.str s.w],.lst [.str s.w]]);simp[bq,cF,List.replicate,h0,h1,h2,es]
theorem cb{a b:KF}{σ σ':Ws}{fs fs':Fs}(h:a σ fs=.nx σ' fs'):mj a b σ fs=b σ' fs':=by unfold mj;rw[h]
theorem wX{j:Nat}{t:TF}{a b:KF}{σ:Ws}{fs:Fs}(h:kT j t σ fs=.ok true):kIf j t a b σ fs=a σ fs:=by unfold kIf;rw[h];rfl
theorem wY{j:Nat}{t:TF}{a b:KF}{σ:Ws}{fs:Fs}(h:kT j t σ fs=.ok false):kIf j t a b σ fs=b σ fs:=by unfold kIf;rw[h];rfl
theorem uD{i:Nat}{e:EF}{σ:Ws}{fs:Fs}{w:W}(h:e σ=.ok w):aar i e σ fs=.nx (σ.set i (.va w)) fs:=by unfold aar;rw[h];rfl
noncomputable abbrev SK(C M:W)(ws:List Str)(o4 o5 o6 o7 o8:Sl):Ws:=[.va C,.va M,.no,.ow (ws.map .str),o4,o5,o6,o7,o8]
section
variable{C M:W}{ws:List Str}{o4 o5 o6 o7 o8:Sl}{h:W}{is:List W}{t:Fs}
theorem x5{e:EF}{w:W}(he:e (SK C M ws o4 o5 o6 o7 o8)=.ok w)(hl:is.length<1000000):kPut e (SK C M ws o4 o5 o6 o7 o8) ((h,is)::t)=.nx (SK C M ws o4 o5 o6 o7 o8) ((h,is++[w])::t):=by unfold kPut;rw[he];show(if is.length<lim then _ else _)=_;rw[if_pos (show is.length<lim from hl)]
theorem yE{e:EF}{x:Str}{fs:Fs}(he:e (SK C M ws o4 o5 o6 o7 o8)=.ok (.str x))(hl:ws.length<1000000):kApp 3 e (SK C M ws o4 o5 o6 o7 o8) fs=.nx (SK C M (ws++[x]) o4 o5 o6 o7 o8) fs:=by show kO (e (SK C M ws o4 o5 o6 o7 o8)) (fun w=>if(ws.map W.str).length<lim then KO.nx ((SK C M ws o4 o5 o6 o7 o8).set 3 (.ow (ws.map .str++[w]))) fs else .bad)=_;rw[he];show(if(ws.map W.str).length<lim then KO.nx ((SK C M ws o4 o5 o6 o7 o8).set 3 (.ow (ws.map .str++[.str x]))) fs else .bad)=_;rw[if_pos (by rw[List.length_map];exact hl)];simp[SK]
theorem mS{hd:List W}{h2:W}{is2:List W}{fs:Fs}(hl:hd.length<=2)(h0:hd≠[])(hi:is2.length<1000000)(hw:ws.length<1000000):jg 3 (SK C M ws o4 o5 o6 o7 o8) ((.tup hd,is)::(h2,is2)::fs)=.nx (SK C M (ws++[(")":Str)]) o4 o5 o6 o7 o8) ((h2,is2++[.tup (hd++[.lst is])])::fs):=by
 have e1:agS 2 3 [.no,.ow (ws.map .str),.no,.no] ((.tup hd,is)::(h2,is2)::fs)=.nx [.no,.ow (ws.map .str),.va (.tup hd),.va (.lst is)] ((h2,is2)::fs):=rfl;have e2:kPut (eOp fc (ah 2) (cT (aa (ah 3) aj))) [.no,.ow (ws.map .str),.va (.tup hd),.va (.lst is)] ((h2,is2)::fs)=.nx [.no,.ow (ws.map .str),.va (.tup hd),.va (.lst is)] ((h2,is2++[.tup (hd++[.lst is])])::fs):=by
  have ea:eOp fc (ah 2) (cT (aa (ah 3) aj)) [.no,.ow (ws.map .str),.va (.tup hd),.va (.lst is)]=.ok (.tup (hd++[.lst is])):=by show(if hd.length+1<=lim then Res.ok (W.tup (hd++[.lst is]))else .bad)=_;rw[if_pos (Nat.le_trans (Nat.succ_le_succ hl) (by decide))]
  unfold kPut;rw[ea];show(if is2.length<lim then _ else _)=_;rw[if_pos (show is2.length<lim from hi)]
 have e3:kApp 1 (eC (.str ")")) [.no,.ow (ws.map .str),.va (.tup hd),.va (.lst is)] ((h2,is2++[.tup (hd++[.lst is])])::fs)=.nx [.no,.ow (ws.map .str++[.str ")"]),.va (.tup hd),.va (.lst is)] ((h2,is2++[.tup (hd++[.lst is])])::fs):=by show(if(ws.map W.str).length<lim then _ else _)=_;rw[if_pos (by rw[List.length_map];exact hw)];rfl
 have eb:mn [.no,.ow (ws.map .str),.no,.no] ((.tup hd,is)::(h2,is2)::fs)=.nx [.no,.ow (ws.map .str++[.str ")"]),.va (.tup hd),.va (.lst is)] ((h2,is2++[.tup (hd++[.lst is])])::fs):=by unfold mn;rw[cb e1,cb e2,cb e3];rfl
 show(match mn [.no,.ow (ws.map .str),.no,.no] ((.tup hd,is)::(h2,is2)::fs)with|.nx [_,.ow ws',_,_] fs'=>KO.nx ((SK C M ws o4 o5 o6 o7 o8).set 3 (.ow ws')) fs'|_=>.bad)=_;rw[eb];simp[SK]
end
structure Ste(N:List Str)(r:Fr2)(b:List It)(ws:List Str)(k:Nat):Prop where
 ok:FOk N r b
 wd:fw r b=ws
 few:ws.length<=3*k
 lo:r.length<=6
theorem zW{N:List Str}(h:N≠[])(m:Int):∃x∈N,oIx (sW N) (.int (m%(N.length:Nat)))=.ok (.str x):=by
 have hp:0<N.length:=List.length_pos_iff.mpr h;have h1:0<=m%(N.length:Nat):=Int.emod_nonneg _ (by omega);have h2:m%(N.length:Nat)<(N.length:Nat):=Int.emod_lt_of_pos _ (by omega);obtain⟨j,hj⟩:∃j:Nat,m%(N.length:Nat)=j:=⟨(m%(N.length:Nat)).toNat,by omega⟩;have hj2:j<N.length:=by omega
 refine⟨N[j],List.getElem_mem hj2,?_⟩;rw[hj];have:=j6 (N.take j) N[j] (N.drop (j+1));rw[show N.take j++N[j]::N.drop (j+1)=N by rw[List.getElem_cons_drop,List.take_append_drop],List.length_take,Nat.min_eq_left (by omega)]at this;exact this
theorem jh{N:List Str}(hN:NN N):∀{r:Fr2}{b:List It},FOk N r b->(Its.W (jG r b)).length<=(fw r b).length|[],b,h=>by rw[dq,List.length_map];exact cO hN b h|(hd,is)::r,b,h=>by have:=cO hN is h.2.1;rw[dq,List.length_map];simp[fw,jG];omega
theorem step_eq{N:List Str}(hN:NN N)(h0:N≠[]){cs:List Int}{k:Nat}(hk:k<cs.length)(hk2:k<=60){r:Fr2}{b:List It}{ws:List Str}(S:Ste N r b ws k)(o5 o6 o7 o8:Sl):∃r' b' ws' p5 p6 p7 p8,Ste N r' b' ws' (k+1)/\bV (SK (.lst (cs.map .int)) (sW N) ws (.va (.int (k:Nat))) o5 o6 o7 o8) (a9 r b)=.nx (SK (.lst (cs.map .int)) (sW N) ws' (.va (.int (k:Nat))) p5 p6 p7 p8) (a9 r' b'):=by
 obtain⟨m,em,hm⟩:=l5 cs[k] k (by omega);have eix:oIx (.lst (cs.map .int)) (.int (k:Nat))=.ok (.int cs[k]):=by simp[oIx,atI,ixN,hk]
 have s5:aar 5 (bF aZ (aa (eOp oIx (ah 0) (ah 4)) (aa (ah 4) aj))) (SK (.lst (cs.map .int)) (sW N) ws (.va (.int (k:Nat))) o5 o6 o7 o8) (a9 r b)=.nx (SK (.lst (cs.map .int)) (sW N) ws (.va (.int (k:Nat))) (.va (.int m)) o6 o7 o8) (a9 r b):=by rw[uD (w:=.int m) (by simp[eix,em])];rfl
 obtain⟨hh,tt,etop⟩:=uQ r b;obtain⟨n,hn,okt,en⟩:=aby S.ok;have hE:=empty_eq hN hn okt;have hlen:=nt (a9 r b);rw[mz]at hlen;have hlast:=pe hh (Its.W (jG r b)) tt;rw[<-etop]at hlast;have few:=jh hN S.ok;rw[S.wd]at few;have hw:=S.few;have ix1:oIx (.lst [hh,.lst (Its.W (jG r b))]) (.int 1)=.ok (.lst (Its.W (jG r b))):=rfl;-- the first test
 have hc:kT 2 (tOr (tB (eOp oLt (eOp oMod (ah 5) (eC (.int 8))) (eC (.int 5)))) (tOr (kg (tB (eOp oEq (eOp oMod (ah 5) (eC (.int 8))) (eC (.int 5)))) (tB (eOp oEq (eBi cx (aa (ah 2) aj)) (eC (.int 7))))) (kg (tB (eOp oGt (eOp oMod (ah 5) (eC (.int 8))) (eC (.int 5)))) (tB (eOp oEq (eOp oIx (eOp oIx (ah 2) (eUn oNeg (eC (.int 1)))) (eC (.int 1))) (gF aj)))))) (SK (.lst (cs.map .int)) (sW N) ws (.va (.int (k:Nat))) (.va (.int m)) o6 o7 o8) (a9 r b)=.ok (decide (m%8<5)||(decide (m%8=5)&&decide (r.length=6))||(decide (5<m%8)&&(jG r b).isEmpty)):=by
  unfold kT;show _=_;have hσ:(SK (.lst (cs.map .int)) (sW N) ws (.va (.int (k:Nat))) (.va (.int m)) o6 o7 o8).set 2 (.va (gR (a9 r b)))=[.va (.lst (cs.map .int)),.va (sW N),.va (gR (a9 r b)),.ow (ws.map .str),.va (.int (k:Nat)),.va (.int m),o6,o7,o8]:=rfl;rw[hσ];have h7:((r.length+1:Nat):Int)=7↔r.length=6:=by omega
  generalize gR (a9 r b)=L at *;generalize W.lst (Its.W (jG r b))=I at *;by_cases c1:m%8<5;·simp[c1]
  ·by_cases c2:m%8=5
   ·by_cases c3:r.length=6;·simp[c2,c3,hlen]
    ·have c3':¬(r.length:Int)+1=7:=by omega
     simp[c2,c3,c3',hlen]
   ·have c4:5<m%8:=by omega
    simp[c1,c2,c4,hlast,ix1,hE]
 unfold bV;rw[cb s5];have hm8:0<=m%8:=by omega
 by_cases t1:(decide (m%8<5)||(decide (m%8=5)&&decide (r.length=6))||(decide (5<m%8)&&(jG r b).isEmpty))=true
 ·rw[t1]at hc;rw[wX hc];obtain⟨x,hx,ex⟩:=zW h0 (m/8);have el:=uq N;have s6:aar 6 (eOp oIx (ah 1) (eOp oMod (eOp oDiv (ah 5) (eC (.int 8))) (eBi cx (aa (ah 1) aj)))) (SK (.lst (cs.map .int)) (sW N) ws (.va (.int (k:Nat))) (.va (.int m)) o6 o7 o8) (a9 r b)=.nx (SK (.lst (cs.map .int)) (sW N) ws (.va (.int (k:Nat))) (.va (.int m)) (.va (.str x)) o7 o8) (a9 r b):=by
   have hp:0<N.length:=List.length_pos_iff.mpr h0;rw[uD (w:=.str x) (by
    have hp':(0:Int)<(N.length:Nat):=by omega
    generalize sW N=Q at *;generalize N.length=q at *;simp[el,oMod,hp',ex];omega)];rfl
  rw[cb s6,etop];rw[cb (x5 (w:=.tup [.str "call",.str x]) (by rfl) (by omega))];rw[yE (x:=x) (by rfl) (by omega)];obtain⟨a1,a2,a3,a4⟩:=oO (i:=.call x) S.ok (by cases(6-r.length)<;>simpa only[It.Ok]using hx);refine⟨(jB (.call x) r b).1,(jB (.call x) r b).2,ws++[x],.va (.int m),.va (.str x),o7,o8,⟨a1,by rw[a3,S.wd];rfl,by simp;omega,by rw[a2];exact S.lo⟩,?_⟩;rw[oP _ _ _ etop];rfl
 ·have t1:(decide (m%8<5)||(decide (m%8=5)&&decide (r.length=6))||(decide (5<m%8)&&(jG r b).isEmpty))=false:=by simpa using t1
  rw[t1]at hc;rw[wY hc];simp only[Bool.or_eq_false_iff,decide_eq_false_iff_not,Bool.and_eq_false_iff]at t1;obtain⟨⟨n1,n2⟩,n3⟩:=t1;by_cases c2:m%8=5
  ·have hr6:r.length<6:=by
    rcases n2 with z|z;·exact(z c2).elim
    ·have:=S.lo;omega
   have hc2:kT 2 (tB (eOp oEq (eOp oMod (ah 5) (eC (.int 8))) (eC (.int 5)))) (SK (.lst (cs.map .int)) (sW N) ws (.va (.int (k:Nat))) (.va (.int m)) o6 o7 o8) (a9 r b)=.ok true:=by unfold kT;simp[SK,c2]
   rw[wX hc2];obtain⟨hd,okh,eh⟩:=aaB (m/8) (by omega);have s7:wZ 7 8 (bF bq (aa (eOp oDiv (ah 5) (eC (.int 8))) aj)) (SK (.lst (cs.map .int)) (sW N) ws (.va (.int (k:Nat))) (.va (.int m)) o6 o7 o8) (a9 r b)=.nx (SK (.lst (cs.map .int)) (sW N) ws (.va (.int (k:Nat))) (.va (.int m)) o6 (.va (.tup hd.ps)) (.va (sW hd.ws))) (a9 r b):=by
    have e:bF bq (aa (eOp oDiv (ah 5) (eC (.int 8))) aj) (SK (.lst (cs.map .int)) (sW N) ws (.va (.int (k:Nat))) (.va (.int m)) o6 o7 o8)=.ok (.tup [.tup hd.ps,sW hd.ws]):=by simp[SK,eh]
    unfold wZ;rw[e];rfl
   have s8:kPush (ah 7) (SK (.lst (cs.map .int)) (sW N) ws (.va (.int (k:Nat))) (.va (.int m)) o6 (.va (.tup hd.ps)) (.va (sW hd.ws))) (a9 r b)=.nx (SK (.lst (cs.map .int)) (sW N) ws (.va (.int (k:Nat))) (.va (.int m)) o6 (.va (.tup hd.ps)) (.va (sW hd.ws))) ((.tup hd.ps,[])::a9 r b):=by show(if(a9 r b).length<lim then _ else _)=_;rw[if_pos (by rw[mz];exact Nat.lt_of_le_of_lt (show r.length+1<=7 by omega) (by decide))]
   have hwl:hd.ws.length<=2:=by cases hd<;>simp[Hd.ws]
   have s9:agT 3 (adh (eOp fc (ah 3) (ah 8)) (gF (aa (eC (.str "(")) aj))) (SK (.lst (cs.map .int)) (sW N) ws (.va (.int (k:Nat))) (.va (.int m)) o6 (.va (.tup hd.ps)) (.va (sW hd.ws))) ((.tup hd.ps,[])::a9 r b)=.nx (SK (.lst (cs.map .int)) (sW N) (ws++(hd.ws++[("(":Str)])) (.va (.int (k:Nat))) (.va (.int m)) o6 (.va (.tup hd.ps)) (.va (sW hd.ws))) ((.tup hd.ps,[])::a9 r b):=by
    have e:adh (eOp fc (ah 3) (ah 8)) (gF (aa (eC (.str "(")) aj)) (frz 3 (SK (.lst (cs.map .int)) (sW N) ws (.va (.int (k:Nat))) (.va (.int m)) o6 (.va (.tup hd.ps)) (.va (sW hd.ws))))=.ok ((ws++(hd.ws++[("(":Str)])).map .str):=by
     have ea:fc (.lst (ws.map .str)) (sW hd.ws)=.ok (.lst (ws.map .str++hd.ws.map .str)):=by show(if(ws.map W.str).length+(hd.ws.map W.str).length<=lim then _ else _)=_;rw[if_pos (by simp only[List.length_map];exact Nat.le_trans (show _<=300 by omega) (by decide))]
     show((fc (.lst (ws.map .str)) (sW hd.ws)).bind fun x=>(Res.ok (W.lst [.str "("])).bind fun y=>match x,y with|.lst xs,.lst ys=>if xs.length+ys.length<=lim then Res.ok (xs++ys)else .bad|_,_=>.bad)=_;rw[ea];show(if(ws.map W.str++hd.ws.map W.str).length+1<=lim then _ else _)=_;rw[if_pos (by simp only[List.length_append,List.length_map];exact Nat.le_trans (show _<=300 by omega) (by decide))];simp
    show kO (adh (eOp fc (ah 3) (ah 8)) (gF (aa (eC (.str "(")) aj)) (frz 3 (SK (.lst (cs.map .int)) (sW N) ws (.va (.int (k:Nat))) (.va (.int m)) o6 (.va (.tup hd.ps)) (.va (sW hd.ws))))) _=_;rw[e];rfl
   rw[cb s7,cb s8,s9];refine⟨(hd,[])::r,b,ws++(hd.ws++[("(":Str)]),.va (.int m),o6,.va (.tup hd.ps),.va (sW hd.ws),⟨⟨okh,trivial,by omega,S.ok⟩,?_,?_,by simp;omega⟩,rfl⟩;·simp[fw,Its.ws,S.wd]
   ·simp;omega
  ·have hc2:kT 2 (tB (eOp oEq (eOp oMod (ah 5) (eC (.int 8))) (eC (.int 5)))) (SK (.lst (cs.map .int)) (sW N) ws (.va (.int (k:Nat))) (.va (.int m)) o6 o7 o8) (a9 r b)=.ok false:=by unfold kT;simp[SK,c2]
   rw[wY hc2];have c5:5<m%8:=by omega
   have hne:(jG r b).isEmpty=false:=by
    rcases n3 with z|z;·exact(z c5).elim
    ·exact z
   have test:∀q:Nat,cx [gR (a9 r b)]=.ok (.int (q:Nat))->kT 2 (tB (eOp oGt (eBi cx (aa (ah 2) aj)) (eC (.int 1)))) (SK (.lst (cs.map .int)) (sW N) ws (.va (.int (k:Nat))) (.va (.int m)) o6 o7 o8) (a9 r b)=.ok (decide (1<(q:Int))):=fun q hq=>by unfold kT;show tB (eOp oGt (eBi cx (aa (ah 2) aj)) (eC (.int 1))) [.va (.lst (cs.map .int)),.va (sW N),.va (gR (a9 r b)),.ow (ws.map .str),.va (.int (k:Nat)),.va (.int m),o6,o7,o8]=_;generalize gR (a9 r b)=L at *;simp[hq]
   have hc3:=test _ hlen;cases r with|nil=>rw[show decide (1<((List.length ([]:Fr2)+1:Nat):Int))=false by decide]at hc3;rw[wY hc3];exact⟨[],b,ws,.va (.int m),o6,o7,o8,⟨S.ok,S.wd,by omega,by simp⟩,rfl⟩|cons p r=>
  obtain⟨hd,is⟩:=p;rw[show decide (1<((List.length ((hd,is)::r)+1:Nat):Int))=true by apply decide_eq_true;simp;omega]at hc3;rw[wX hc3];obtain⟨k1,k2,k3,k4⟩:=S.ok;obtain⟨h2,t2,et2⟩:=uQ r b;have few2:=jh hN k4;have hfw:(fw r b).length<=ws.length:=by rw[<-S.wd];simp[fw]
  have ecl:=mS (C:=.lst (cs.map .int)) (M:=sW N) (ws:=ws) (o4:=.va (.int (k:Nat))) (o5:=.va (.int m)) (o6:=o6) (o7:=o7) (o8:=o8) (is:=Its.W is) (hd:=hd.ps) (h2:=h2) (is2:=Its.W (jG r b)) (fs:=t2) (aaC hd) (by cases hd<;>simp[Hd.ps]) (by omega) (by omega);have hfs:a9 ((hd,is)::r) b=(.tup hd.ps,Its.W is)::(h2,Its.W (jG r b))::t2:=by simp only[a9,et2]
  rw[hfs,ecl];have hisn:is≠[]:=fun z=>by have:(jG ((hd,is)::r) b).isEmpty=false:=hne;rw[show jG ((hd,is)::r) b=is from rfl,z]at this;cases this
  have okI:(It.br hd is).Ok N (6-r.length):=by rw[show 6-r.length=(6-(r.length+1))+1 by omega];simp only[It.Ok];exact⟨k1,hisn,k2⟩
  obtain⟨a1,a2,a3,a4⟩:=oO (i:=.br hd is) k4 okI;refine⟨(jB (.br hd is) r b).1,(jB (.br hd is) r b).2,ws++[(")":Str)],.va (.int m),o6,o7,o8,⟨a1,?_,by simp;omega,by rw[a2];omega⟩,?_⟩;·rw[a3,<-S.wd];simp[fw,It.ws]
  ·rw[oP _ _ _ et2];simp only[It.W]
theorem mC{N:List Str}(hN:NN N)(h0:N≠[]){cs:List Int}(hcs:cs.length<=60):∀(n k:Nat)(r:Fr2)(b:List It)(ws:List Str)(o4 o5 o6 o7 o8:Sl),k+n=cs.length->Ste N r b ws k->∃r' b' ws' p4 p5 p6 p7 p8,Ste N r' b' ws' cs.length/\ml 4 bV k n (SK (.lst (cs.map .int)) (sW N) ws o4 o5 o6 o7 o8) (a9 r b)=.nx (SK (.lst (cs.map .int)) (sW N) ws' p4 p5 p6 p7 p8) (a9 r' b')|0,k,r,b,ws,o4,o5,o6,o7,o8,hk,S=>⟨r,b,ws,o4,o5,o6,o7,o8,by rw[<-hk];exact S,rfl⟩|n+1,k,r,b,ws,o4,o5,o6,o7,o8,hk,S=>by obtain⟨r1,b1,ws1,p5,p6,p7,p8,S1,e1⟩:=step_eq hN h0 (cs:=cs) (k:=k) (by omega) (by omega) S o5 o6 o7 o8;obtain⟨r2,b2,ws2,q4,q5,q6,q7,q8,S2,e2⟩:=mC hN h0 hcs n (k+1) r1 b1 ws1 (.va (.int (k:Nat))) p5 p6 p7 p8 (by omega) S1;refine⟨r2,b2,ws2,q4,q5,q6,q7,q8,S2,?_⟩;show(match bV (SK (.lst (cs.map .int)) (sW N) ws (.va (.int (k:Nat))) o5 o6 o7 o8) (a9 r b)with|.nx σ' fs'=>ml 4 bV (k+1) n σ' fs'|o=>o)=_;rw[e1];exact e2
theorem names0{N:List Str}(h:N≠[]):∃x∈N,oIx (sW N) (.int 0)=.ok (.str x):=by cases N with|nil=>exact(h rfl).elim|cons x N=>exact⟨x,by simp,j6 [] x N⟩
theorem iJ{N:List Str}(hN:NN N)(h0:N≠[]){C:W}{o4 o5 o6 o7 o8:Sl}:∀(r:Fr2)(b:List It)(ws:List Str)(f:Nat),r.length<f->FOk N r b->fw r b=ws->ws.length+2*r.length<=200->∃b' ws',Its.Ok N 6 b'/\Its.ws b'=ws'/\ws'.length<=200/\wW 2 (tB (eOp oGt (eBi cx (aa (ah 2) aj)) (eC (.int 1)))) bU f (SK C (sW N) ws o4 o5 o6 o7 o8) (a9 r b)=.nx (SK C (sW N) ws' o4 o5 o6 o7 o8) (a9 [] b')
|r,b,ws,0,hf,_,_,_=>by omega|[],b,ws,f+1,hf,ok,hw,hl=>by
  refine⟨b,ws,ok,hw,by simpa using hl,?_⟩;have hlen:=nt (a9 [] b);have hc:kT 2 (tB (eOp oGt (eBi cx (aa (ah 2) aj)) (eC (.int 1)))) (SK C (sW N) ws o4 o5 o6 o7 o8) (a9 [] b)=.ok false:=by unfold kT;show tB (eOp oGt (eBi cx (aa (ah 2) aj)) (eC (.int 1))) [.va C,.va (sW N),.va (gR (a9 [] b)),.ow (ws.map .str),o4,o5,o6,o7,o8]=_;rw[mz]at hlen;generalize gR (a9 [] b)=L at *;simp[hlen]
  show kO (kT 2 (tB (eOp oGt (eBi cx (aa (ah 2) aj)) (eC (.int 1)))) (SK C (sW N) ws o4 o5 o6 o7 o8) (a9 [] b)) _=_;rw[hc];rfl|(hd,is)::r,b,ws,f+1,hf,ok,hw,hl=>by
  have hlen:=nt (a9 ((hd,is)::r) b);have hc:kT 2 (tB (eOp oGt (eBi cx (aa (ah 2) aj)) (eC (.int 1)))) (SK C (sW N) ws o4 o5 o6 o7 o8) (a9 ((hd,is)::r) b)=.ok true:=by
   unfold kT;show tB (eOp oGt (eBi cx (aa (ah 2) aj)) (eC (.int 1))) [.va C,.va (sW N),.va (gR (a9 ((hd,is)::r) b)),.ow (ws.map .str),o4,o5,o6,o7,o8]=_;rw[mz]at hlen;have hz:(1:Int)<((List.length ((hd,is)::r)+1:Nat):Int):=by simp;omega
   generalize gR (a9 ((hd,is)::r) b)=L at *;generalize List.length ((hd,is)::r)+1=q at *;simp[hlen,hz]
  have hE:=empty_eq hN (n:=6-(r.length+1)) (by omega) ok.2.1;have hlast:=pe (.tup hd.ps) (Its.W is) (a9 r b);have few:=jh hN ok;rw[hw]at few;have few:(Its.W is).length<=ws.length:=few;simp only[List.length_cons]at hl hf;-- the empty one gets a call
  obtain⟨is',ws1,ok1,hw1,hl1,hne,e1⟩:∃(is':List It)(ws1:List Str),FOk N ((hd,is')::r) b/\fw ((hd,is')::r) b=ws1/\ws1.length<=ws.length+1/\is'≠[]/\kIf 2 (tB (eOp oEq (eOp oIx (eOp oIx (ah 2) (eUn oNeg (eC (.int 1)))) (eC (.int 1))) (gF aj))) (mj (kPut (cT (aa (eC (.str "call")) (aa (eOp oIx (ah 1) (eC (.int 0))) aj)))) (kApp 3 (eOp oIx (ah 1) (eC (.int 0))))) kNx (SK C (sW N) ws o4 o5 o6 o7 o8) (a9 ((hd,is)::r) b)=.nx (SK C (sW N) ws1 o4 o5 o6 o7 o8) (a9 ((hd,is')::r) b):=by
   have ht:kT 2 (tB (eOp oEq (eOp oIx (eOp oIx (ah 2) (eUn oNeg (eC (.int 1)))) (eC (.int 1))) (gF aj))) (SK C (sW N) ws o4 o5 o6 o7 o8) (a9 ((hd,is)::r) b)=.ok is.isEmpty:=by unfold kT;show tB (eOp oEq (eOp oIx (eOp oIx (ah 2) (eUn oNeg (eC (.int 1)))) (eC (.int 1))) (gF aj)) [.va C,.va (sW N),.va (gR (a9 ((hd,is)::r) b)),.ow (ws.map .str),o4,o5,o6,o7,o8]=_;have ix1:oIx (.lst [.tup hd.ps,.lst (Its.W is)]) (.int 1)=.ok (.lst (Its.W is)):=rfl;have hlast:oIx (gR (a9 ((hd,is)::r) b)) (.int (-1))=.ok (.lst [.tup hd.ps,.lst (Its.W is)]):=hlast;generalize gR (a9 ((hd,is)::r) b)=L at *;generalize W.lst (Its.W is)=I at *;simp[hlast,ix1,hE]
   cases he:is with|nil=>
    rw[he]at ht;obtain⟨x,hx,ex⟩:=names0 h0;have eT:cT (aa (eC (.str "call")) (aa (eOp oIx (ah 1) (eC (.int 0))) aj)) (SK C (sW N) ws o4 o5 o6 o7 o8)=.ok (.tup [.str "call",.str x]):=by generalize sW N=Q at *;simp[SK,ex]
    have eN:eOp oIx (ah 1) (eC (.int 0)) (SK C (sW N) ws o4 o5 o6 o7 o8)=.ok (.str x):=ex;refine⟨[.call x],ws++[x],⟨ok.1,?_,ok.2.2.1,ok.2.2.2⟩,?_,by simp,by simp,?_⟩;·simp only[Its.Ok,and_true];cases(6-(r.length+1))<;>simpa only[It.Ok]using hx
    ·rw[<-hw,he];simp[fw,Its.ws,It.ws]
    ·rw[wX ht];have hp:kPut (cT (aa (eC (.str "call")) (aa (eOp oIx (ah 1) (eC (.int 0))) aj))) (SK C (sW N) ws o4 o5 o6 o7 o8) (a9 ((hd,[])::r) b)=.nx (SK C (sW N) ws o4 o5 o6 o7 o8) ((.tup hd.ps,[]++[.tup [.str "call",.str x]])::a9 r b):=x5 eT (by decide);rw[cb hp,yE eN (by omega)];rfl|cons i l=>rw[he]at ht;refine⟨i::l,ws,by rw[<-he];exact ok,by rw[<-he];exact hw,by omega,by simp,?_⟩;rw[wY ht];rfl
  obtain⟨k1,k2,k3,k4⟩:=ok1;obtain⟨h2,t2,et2⟩:=uQ r b;have few2:=jh hN k4;have few3:=jh hN (N:=N) (r:=(hd,is')::r) (b:=b) ⟨k1,k2,k3,k4⟩;rw[hw1]at few3;have hfw:(fw r b).length<=ws1.length:=by rw[<-hw1];simp[fw]
  have ecl:=mS (C:=C) (M:=sW N) (ws:=ws1) (o4:=o4) (o5:=o5) (o6:=o6) (o7:=o7) (o8:=o8) (is:=Its.W is') (hd:=hd.ps) (h2:=h2) (is2:=Its.W (jG r b)) (fs:=t2) (aaC hd) (by cases hd<;>simp[Hd.ps]) (by omega) (by omega);have hfs:a9 ((hd,is')::r) b=(.tup hd.ps,Its.W is')::(h2,Its.W (jG r b))::t2:=by simp only[a9,et2]
  have okI:(It.br hd is').Ok N (6-r.length):=by rw[show 6-r.length=(6-(r.length+1))+1 by omega];simp only[It.Ok];exact⟨k1,hne,k2⟩
  obtain⟨a1,a2,a3,a4⟩:=oO (i:=.br hd is') k4 okI;have e2:bU (SK C (sW N) ws o4 o5 o6 o7 o8) (a9 ((hd,is)::r) b)=.nx (SK C (sW N) (ws1++[(")":Str)]) o4 o5 o6 o7 o8) (a9 (jB (.br hd is') r b).1 (jB (.br hd is') r b).2):=by unfold bU;rw[cb e1,hfs,ecl,oP _ _ _ et2];simp only[It.W]
  obtain⟨b',ws',g1,g2,g3,g4⟩:=iJ hN h0 (C:=C) (o4:=o4) (o5:=o5) (o6:=o6) (o7:=o7) (o8:=o8) (jB (.br hd is') r b).1 (jB (.br hd is') r b).2 (ws1++[(")":Str)]) f (by rw[a2];omega) a1 (by rw[a3,<-hw1];simp[fw,It.ws]) (by rw[a2];simp;omega);refine⟨b',ws',g1,g2,g3,?_⟩;show kO (kT 2 (tB (eOp oGt (eBi cx (aa (ah 2) aj)) (eC (.int 1)))) (SK C (sW N) ws o4 o5 o6 o7 o8) (a9 ((hd,is)::r) b)) _=_;rw[hc];show(match bU (SK C (sW N) ws o4 o5 o6 o7 o8) (a9 ((hd,is)::r) b)with|.nx σ' fs'=>wW 2 (tB (eOp oGt (eBi cx (aa (ah 2) aj)) (eC (.int 1)))) bU f σ' fs'|o=>o)=_;rw[e2];exact g4
termination_by r b ws f=>f
theorem aas{i:Nat}{e:EF}{b:KF}{σ:Ws}{fs:Fs}{n:Nat}(hn:n<=1000)(h:e σ=.ok (.int (n:Nat))):kFor i e b σ fs=ml i b 0 n σ fs:=by
 have h1:((n:Nat):Int)<2^62:=by omega
 have h2:-(2^62)<=((n:Nat):Int):=by omega
 have hb:((n:Nat):Int)<2^62/\-(2^62)<=((n:Nat):Int):=⟨h1,h2⟩;simp only[kFor,h,kO,if_pos hb,Int.toNat_natCast]
theorem adA(j n:Nat)(t:TF)(b:KF)(σ:Ws)(fs:Fs):kWh j n t b σ fs=wW j t b n σ fs:=rfl
theorem qD(C M:W)(ws:List Str)(o4 o5 o6 o7 o8:Sl)(b:List It):uC 2 (vx 3 (b8 (cT (aa (eOp oIx (eOp oIx (ah 2) (eC (.int 0))) (eC (.int 1))) (aa (ah 3) aj))))) (SK C M ws o4 o5 o6 o7 o8) (a9 [] b)=.rt (.tup [.lst (Its.W b),sW ws]):=by have e1:oIx (gR (a9 [] b)) (.int 0)=.ok (.lst [.tup [],.lst (Its.W b)]):=rfl;have e2:oIx (.lst [.tup [],.lst (Its.W b)]) (.int 1)=.ok (.lst (Its.W b)):=rfl;unfold uC;generalize gR (a9 [] b)=L at *;simp[SK,vx,frz,e1,e2,sW]
theorem tp{C M:W}{σ1 σ2:Ws}{fs1 fs2:Fs}{w:W}(e0:aeT 3 [.va C,.va M,.no,.no,.no,.no,.no,.no,.no] [(.tup [],[])]=.nx (SK C M [] .no .no .no .no .no) (a9 [] []))(ef:kFor 4 (eBi cx (aa (ah 0) aj)) bV (SK C M [] .no .no .no .no .no) (a9 [] [])=.nx σ1 fs1)(ew:kWh 2 10 (tB (eOp oGt (eBi cx (aa (ah 2) aj)) (eC (.int 1)))) bU σ1 fs1=.nx σ2 fs2)(er:uC 2 (vx 3 (b8 (cT (aa (eOp oIx (eOp oIx (ah 2) (eC (.int 0))) (eC (.int 1))) (aa (ah 3) aj))))) σ2 fs2=.rt w):bE [C,M]=.ok w:=by
 have et:dJ [.va C,.va M,.no,.no,.no,.no,.no,.no,.no] [(.tup [],[])]=.rt w:=by unfold dJ;rw[cb e0,cb ef,cb ew,er]
 unfold bE runK;rw[show List.replicate (9-2) Sl.no=[.no,.no,.no,.no,.no,.no,.no]from rfl];dsimp only;rw[et]
theorem ud(C M:W):aeT 3 [.va C,.va M,.no,.no,.no,.no,.no,.no,.no] [(.tup [],[])]=.nx (SK C M [] .no .no .no .no .no) (a9 [] []):=rfl
theorem mi{N:List Str}(hN:NN N)(h0:N≠[]){cs:List Int}(hcs:cs.length<=60):∃is:List It,Its.Ok N 6 is/\(Its.ws is).length<=200/\bE [.lst (cs.map .int),sW N]=.ok (.tup [.lst (Its.W is),sW (Its.ws is)]):=by
 obtain⟨r,b,ws,p4,p5,p6,p7,p8,S,e1⟩:=mC hN h0 hcs cs.length 0 [] [] [] .no .no .no .no .no (by omega) ⟨(by simp only[FOk,Its.Ok]),(by simp only[fw,Its.ws]),(by simp),(by simp)⟩;obtain⟨b',ws',g1,g2,g3,g4⟩:=iJ hN h0 (C:=.lst (cs.map .int)) (o4:=p4) (o5:=p5) (o6:=p6) (o7:=p7) (o8:=p8) r b ws 10 (by have:=S.lo;omega) S.ok S.wd (by have:=S.few;have:=S.lo;omega);refine⟨b',g1,by rw[g2];exact g3,?_⟩;have ef:kFor 4 (eBi cx (aa (ah 0) aj)) bV (SK (.lst (cs.map .int)) (sW N) [] .no .no .no .no .no) (a9 [] [])=.nx (SK (.lst (cs.map .int)) (sW N) ws p4 p5 p6 p7 p8) (a9 r b):=by
  have el:eBi cx (aa (ah 0) aj) (SK (.lst (cs.map .int)) (sW N) [] .no .no .no .no .no)=.ok (.int (cs.length:Nat)):=by show Res.ok (W.int ((cs.map W.int).length:Nat))=_;rw[List.length_map]
  rw[aas (n:=cs.length) (by omega) el];exact e1
 have er:=qD (.lst (cs.map .int)) (sW N) ws' p4 p5 p6 p7 p8 b';have ew:kWh 2 10 (tB (eOp oGt (eBi cx (aa (ah 2) aj)) (eC (.int 1)))) bU (SK (.lst (cs.map .int)) (sW N) ws p4 p5 p6 p7 p8) (a9 r b)=.nx (SK (.lst (cs.map .int)) (sW N) ws' p4 p5 p6 p7 p8) (a9 [] b'):=by rw[adA];exact g4
 rw[g2];exact tp (ud _ _) ef ew er
theorem zp{i:Nat}{ev ek:EF}{σ:Ws}{ks us:List W}{k v:W}(h:σ[i]?=some (.od ks us))(hv:ev σ=.ok v)(hk:ek σ=.ok k)(hw:ux k=true)(hl:ks.length<1000):cE i ev ek σ=.nx (σ.set i (.od (putK ks k) (tG ks us k v))):=by unfold cE;rw[h];show ofR σ (ev σ) (fun v=>ofR σ (ek σ) fun k=>putD i ks us k v σ)=_;rw[hv,hk];show putD i ks us k v σ=_;unfold putD;rw[if_pos ⟨hw,Nat.lt_trans hl (by decide)⟩]
noncomputable def TX(w:W):Prop:=∃(x:Str)(c:List Rl),w=.str x/\c.length<=12/\a5 [.str x]=.ok (clW c)
structure PK(ps:List (Str×W)):Prop where ok:∀p∈ps,NOk p.1/\TX p.2nd:(ps.map (·.1)).Nodup
theorem zf:TX (.str "> stay"):=⟨"> stay",[⟨[],none⟩],rfl,by decide,by kernel_rfl⟩
theorem qj(ns:List Int)(a b:Option Int):cut (ns.map W.int) a b=(cut ns a b).map .int:=by unfold cut;rw[List.length_map,<-List.map_drop,<-List.map_take]
theorem aaK(ns:List Int)(i j:Nat):(cut ns (some (i:Int)) (some (j:Int))).length<=j-i:=by
 have h1:¬(i:Int)<0:=by omega
 have h2:¬(j:Int)<0:=by omega
 unfold cut sIx;dsimp only;rw[if_neg h1,if_neg h2,List.length_take,List.length_drop,Int.toNat_natCast,Int.toNat_natCast];omega
theorem xB(c:String)(e:EF)(σ:Ws):rz c e σ=(e σ).bind (adS c):=rfl
theorem aja(w:W):adS "Book" (.ins "Book" [w])=.ok w:=by simp[adS]
theorem mH(c:String)(f:List W->Res W)(o:EF)(a:AF)(σ:Ws):ie c f o a σ=(o σ).bind fun x=>if isI c x then(a σ).bind fun ws=>f (x::ws)else .bad:=rfl
theorem aio(w:W):isI "Book" (.ins "Book" [w])=true:=by simp[isI]
theorem uniq:∀{ps:List (Str×W)},(ps.map (·.1)).Nodup->∀{p q:Str×W},p∈ps->q∈ps->p.1=q.1->p=q
|[],_,_,_,h,_,_=>nomatch h|a::ps,hn,p,q,hp,hq,e=>by
 rw[List.map_cons,List.nodup_cons]at hn;rcases List.mem_cons.mp hp with rfl|hp
 ·rcases List.mem_cons.mp hq with rfl|hq;·rfl
  ·exact(hn.1 (List.mem_map.mpr ⟨q,hq,e.symm⟩)).elim
 ·rcases List.mem_cons.mp hq with z|hq;·exact(hn.1 (List.mem_map.mpr ⟨p,hp,by rw[e,z]⟩)).elim
  ·exact uniq hn.2 hp hq e
noncomputable def rdW(w:W):W:=match a5 [w]with|.ok v=>v|_=>.non
theorem afX{w:W}(h:TX w):∃c:List Rl,c.length<=12/\rdW w=clW c/\a5 [w]=.ok (clW c):=by obtain⟨x,c,rfl,hc,e⟩:=h;exact⟨c,hc,by unfold rdW;rw[e],e⟩
noncomputable def RP(ps:List (Str×W)):List (Str×W):=ps.map fun p=>(p.1,rdW p.2)
theorem aaX(ps:List (Str×W)):KS (RP ps)=KS ps:=by simp[KS,RP]
theorem ac0{ps:List (Str×W)}{p:Str×W}(h:p∈ps):W.str p.1∈KS ps:=List.mem_map.mpr ⟨p,h,rfl⟩
theorem qo(d:W):∀(rest don:List (Str×W))(s:Sl),don.length+rest.length<=900->((don++rest).map (·.1)).Nodup->(∀p∈rest,qK d (.str p.1)=.ok (rdW p.2))->∃s',forL (ay 2) (cE 3 (jF cy) (ah 2)) (KS rest) [.no,.va d,s,.od (KS (RP don)) (US (RP don))]=.nx [.no,.va d,s',.od (KS (RP (don++rest))) (US (RP (don++rest)))]
|[],don,s,_,_,_=>⟨s,by rw[List.append_nil];rfl⟩|p::rest,don,s,hl,hn,h=>by
  simp only[List.length_cons]at hl;obtain⟨s',e⟩:=qo d rest (don++[p]) (.va (.str p.1)) (by simp;omega) (by rw[List.append_assoc];exact hn) fun x hx=>h x (by simp[hx]);refine⟨s',?_⟩;rw[show KS (p::rest)=.str p.1::KS rest from rfl,dB];show fA (cE 3 (jF cy) (ah 2) [.no,.va d,.va (.str p.1),.od (KS (RP don)) (US (RP don))]) (forL (ay 2) (cE 3 (jF cy) (ah 2)) (KS rest))=_;rw[vX d rfl _ _ (by rw[ur];simp[RP];omega) (h p (by simp)),(vY (RP don) p.1 _).1,(vY (RP don) p.1 _).2];have hp:zz (RP don) p.1 (rdW p.2)=RP (don++[p]):=by
   unfold zz;rw[if_neg];·simp[RP]
   ·intro z;obtain⟨q,hq,e⟩:=List.any_eq_true.mp z;obtain⟨a,ha,rfl⟩:=List.mem_map.mp hq;rw[List.map_append,List.nodup_append]at hn;exact hn.2.2 a.1 (List.mem_map.mpr ⟨a,ha,rfl⟩) p.1 (by simp) (eq_of_beq e)
  rw[hp];rw[List.append_assoc]at e;exact e
theorem aaZ{ps:List (Str×W)}(h:PK ps)(hl:ps.length<=60):j8 [.dic (KS ps) (US ps)]=.ok (.dic (KS (RP ps)) (US (RP ps))):=by
 obtain⟨s,e⟩:=j0 (.dic (KS ps) (US ps)) (KS ps) .no (zV fun p hp=>(h.ok p hp).1);obtain⟨s',e'⟩:=ad2 (.dic (KS ps) (US ps)) s;obtain⟨s2,e2⟩:=qo (.dic (KS ps) (US ps)) ps [] s' (by simp;omega) (by simpa using h.nd) fun p hp=>by obtain⟨q,hq,e1,e2⟩:=ab9 (ac0 hp);rw[e2,uniq h.nd hq hp e1];obtain⟨c,_,c1,c2⟩:=afX (h.ok p hp).2;rw[c1,c2]
 have e2:forL (ay 2) (cE 3 (jF cy) (ah 2)) (KS ps) [.no,.va (.dic (KS ps) (US ps)),s',.od [] []]=_:=e2;unfold j8;rw[zt,abQ (abJ (by rw[ur];exact hl)),afx,e];show aa5 cy [.ob,.va (.dic (KS ps) (US ps)),s]=_;rw[aaa,e',wI,e2];rfl
noncomputable def BK(ps:List (Str×W)):W:=.ins "Book" [.dic (KS (RP ps)) (US (RP ps))]
noncomputable def srt(ps:List (Str×W)):List W:=(d9 (ps.map (·.1))).map .str
theorem sM:∀ps:List (Str×W),strsOf (KS ps)=some (ps.map (·.1))|[]=>rfl|p::ps=>by show(strsOf (KS ps)).map (p.1::·)=_;rw[sM ps];rfl
theorem sR{ps:List (Str×W)}(hl:ps.length<=60):gm [.lst (KS ps)]=.ok (.lst (srt ps)):=by show(match strsOf (KS ps)with|some ss=>if ss.length<64 then Res.ok (W.lst ((d9 ss).map .str))else .bad|none=>.bad)=_;rw[sM];show(if(ps.map (·.1)).length<64 then Res.ok (W.lst (srt ps))else .bad)=_;rw[if_pos (by simp;omega)]
theorem pW{ps:List (Str×W)}(hl:ps.length<=60):aB [BK ps]=.ok (.lst (srt ps)):=by
 have e:dg [.va (BK ps)]=.ok (srt ps):=by show((rz "Book" (ah 0) [.va (BK ps)]).bind fun x=>match x with|.dic _ _=>(gn [x]).bind asL|_=>.bad)=_;rw[show rz "Book" (ah 0) [.va (BK ps)]=.ok (.dic (KS (RP ps)) (US (RP ps)))from by rw[xB];exact aja _];show(gm [.lst (KS (RP ps))]).bind asL=_;rw[aaX,sR hl];rfl
 show(dg [.va (BK ps)]).bind (fun xs=>Res.ok (W.lst xs))=_;rw[e];rfl
theorem qT{S:W}{N:List Str}(hN:NN N)(c:Int)(s3:Sl):∃x:Str,NOk x/\aI [.va S,.ow (N.map .str),.va (.int c),s3]=.nx [.va S,.ow ((if N.any (·==x)then N else N++[x]).map .str),.va (.int c),.va (.str x)]:=by
 obtain⟨x,ex,hx⟩:=nX c;refine⟨x,hx,?_⟩;have ei:d7 (.str x) (sW N)=.ok (.bl (!N.any (·==x))):=by show(if(okD 50 (.str x)&&bH 51 (N.map .str))=true then Res.ok (W.bl (!bJ (.str x) (N.map .str)))else .bad)=_;rw[qQ (nN hx),eK 50 N fun y hy=>nN (hN.ok y hy),iG];rfl
 have ei:d7 (.str x) (.lst (N.map .str))=.ok (.bl (!N.any (·==x))):=ei;have hl:N.length<1000000:=by have:=hN.few;omega
 cases h:N.any (·==x)with|true=>rw[h]at ei;simp[aI,ex,frz,ei]|false=>rw[h]at ei;simp[aI,ex,frz,ei,abd,hl]
theorem jZ{S:W}:∀(cs:List Int)(N:List Str)(s2 s3:Sl),NN N->N.Nodup->N.length+cs.length<=20->∃N' s2' s3',NN N'/\N'.Nodup/\N'.length<=N.length+cs.length/\(cs≠[]\/N≠[]->N'≠[])/\forL (ay 2) aI (cs.map .int) [.va S,.ow (N.map .str),s2,s3]=.nx [.va S,.ow (N'.map .str),s2',s3']
|[],N,s2,s3,hN,hd,_=>⟨N,s2,s3,hN,hd,by simp,fun h=>by simpa using h,rfl⟩|c::cs,N,s2,s3,hN,hd,hl=>by
  simp only[List.length_cons]at hl;obtain⟨x,hx,e⟩:=qT (S:=S) hN c s3;have hN1:NN (if N.any (·==x)then N else N++[x]):=by
   split;·exact hN
   ·exact⟨fun y hy=>by
     rcases List.mem_append.mp hy with z|z;·exact hN.ok y z
     ·have z:y=x:=by simpa using z
      rw[z];exact hx,by have:=hN.few;simp;omega⟩
  have hd1:(if N.any (·==x)then N else N++[x]).Nodup:=by
   split;·exact hd
   ·rename_i hn;rw[List.nodup_append];refine⟨hd,by simp,fun a ha b hb=>?_⟩;have hb:b=x:=by simpa using hb
    rw[hb];intro z;exact hn (List.any_eq_true.mpr ⟨a,ha,by simp[z]⟩)
  have hl1:(if N.any (·==x)then N else N++[x]).length<=N.length+1:=by split<;>simp
  have hn1:(if N.any (·==x)then N else N++[x])≠[]:=by
   split;·rename_i h;intro z;rw[z]at h;simp at h
   ·simp
  obtain⟨N',s2',s3',g1,g2,g3,g4,g5⟩:=jZ (S:=S) cs _ (.va (.int c)) (.va (.str x)) hN1 hd1 (by omega);refine⟨N',s2',s3',g1,g2,by simp only[List.length_cons];omega,fun _=>g4 (.inr hn1),?_⟩;rw[List.map_cons,dB];show fA (aI [.va S,.ow (N.map .str),.va (.int c),s3]) (forL (ay 2) aI (cs.map .int))=_;rw[e];exact g5
theorem mh(ns:List Int):∃N:List Str,NN N/\N.Nodup/\N.length<=7/\N≠[]/\cP [.lst (ns.map .int)]=.ok (sW N):=by
 have lA:(cut ns none (some 5)).length<=5:=by simp[cut,sIx];omega
 obtain⟨N,s2,s3,g1,g2,g3,g4,g5⟩:=jZ (S:=.lst (ns.map .int)) (cut ns none (some 5)++[1,2]) [] .no .no ⟨(fun _ h=>nomatch h),by simp⟩ List.nodup_nil (by simp;omega);refine⟨N,g1,g2,by simp at g3;omega,g4 (.inl (by simp)),?_⟩;have sA:oSl (.lst (ns.map .int)) none (some 5)=.ok (.lst ((cut ns none (some 5)).map .int)):=by rw[<-qj];rfl
 have hcat:fc (.lst ((cut ns none (some 5)).map .int)) (.lst [.int 1,.int 2])=.ok (.lst ((cut ns none (some 5)++[1,2]).map .int)):=by show(if((cut ns none (some 5)).map W.int).length+2<=lim then _ else _)=_;rw[if_pos (by rw[List.length_map];exact Nat.le_trans (show _<=7 by omega) (by decide))];simp
 have hf:vx 1 (b8 (ah 1)) [.va (.lst (ns.map .int)),.ow (N.map .str),s2,s3]=.rt (sW N):=rfl;have g5:forL (ay 2) aI ((cut ns none (some 5)++[1,2]).map .int) [.va (.lst (ns.map .int)),.ow [],.no,.no]=.nx [.va (.lst (ns.map .int)),.ow (N.map .str),s2,s3]:=g5;generalize(cut ns none (some 5)++[1,2]).map W.int=cl at *;simp[cP,fq,List.replicate,sA,hcat,g5,hf];rfl
noncomputable def PS2(N:List Str):List (Str×W):=N.map fun x=>(x,.str "> stay")
theorem fX(N:List Str):(PS2 N).map (·.1)=N:=by simp[PS2,Function.comp_def]
theorem aci{N:List Str}(hN:NN N)(hd:N.Nodup):PK (PS2 N):=⟨fun p hp=>by obtain⟨x,hx,rfl⟩:=List.mem_map.mp hp;exact⟨hN.ok x hx,zf⟩,by rw[fX];exact hd⟩
theorem jT{S M:W}:∀(rest don:List Str)(s3:Sl),(don++rest).Nodup->don.length+rest.length<=900->∃s3',forL (ay 3) dS (rest.map .str) [.va S,.va M,.od (KS (PS2 don)) (US (PS2 don)),s3,.no,.no,.no,.no,.no]=.nx [.va S,.va M,.od (KS (PS2 (don++rest))) (US (PS2 (don++rest))),s3',.no,.no,.no,.no,.no]
|[],don,s3,_,_=>⟨s3,by rw[List.append_nil];rfl⟩|x::rest,don,s3,hn,hl=>by
  simp only[List.length_cons]at hl;obtain⟨s3',e⟩:=jT (S:=S) (M:=M) rest (don++[x]) (.va (.str x)) (by rw[List.append_assoc];exact hn) (by simp;omega);refine⟨s3',?_⟩;rw[List.map_cons,dB];show fA (dS [.va S,.va M,.od (KS (PS2 don)) (US (PS2 don)),.va (.str x),.no,.no,.no,.no,.no]) (forL (ay 3) dS (rest.map .str))=_;have hp:zz (PS2 don) x (.str "> stay")=PS2 (don++[x]):=by
   unfold zz;rw[if_neg];·simp[PS2]
   ·intro z;obtain⟨q,hq,e⟩:=List.any_eq_true.mp z;obtain⟨y,hy,rfl⟩:=List.mem_map.mp hq;rw[List.nodup_append]at hn;exact hn.2.2 y hy x (by simp) (eq_of_beq e)
  have e1:dS [.va S,.va M,.od (KS (PS2 don)) (US (PS2 don)),.va (.str x),.no,.no,.no,.no,.no]=.nx [.va S,.va M,.od (KS (PS2 (don++[x]))) (US (PS2 (don++[x]))),.va (.str x),.no,.no,.no,.no,.no]:=by unfold dS;rw[zp (k:=.str x) (v:=.str "> stay") rfl rfl rfl rfl (by rw[ur];simp[PS2];omega),(vY (PS2 don) x _).1,(vY (PS2 don) x _).2,hp];rfl
  rw[e1];rw[List.append_assoc]at e;exact e
mutual theorem aax{N N':List Str}(h:∀x∈N,x∈N'):∀(n:Nat)(i:It),i.Ok N n->i.Ok N' n|n,.call x,ok=>by cases n<;>(simp only[It.Ok]at ok⊢;exact h x ok)|0,.br _ _,ok=>by simp only[It.Ok]at ok|n+1,.br hd is,ok=>by simp only[It.Ok]at ok⊢;exact⟨ok.1,ok.2.1,kJ h n is ok.2.2⟩theorem kJ{N N':List Str}(h:∀x∈N,x∈N'):∀(n:Nat)(is:List It),Its.Ok N n is->Its.Ok N' n is|n,[],_=>by simp only[Its.Ok]|n,i::is,ok=>by simp only[Its.Ok]at ok⊢;exact⟨aax h n i ok.1,kJ h n is ok.2⟩end
theorem eI{N:List Str}(hN:NN N)(hl:N.length<=7){is:List It}(ok:Its.Ok N 6 is)(hw:(Its.ws is).length<=200):az [BK (PS2 N),.str (SG.J " " (Its.ws is))]=.ok (.lst (Its.W is)):=by
 have hsub:∀x∈N,x∈d9 N:=fun x hx=>(dw N).mem_iff.mpr hx;have hN':NN (d9 N):=⟨fun x hx=>hN.ok x ((dw N).mem_iff.mp hx),by rw[(dw N).length_eq];exact hN.few⟩;have er:=fS hN' 6 is 0 8 (kJ hsub 6 is ok) (by omega) (by omega) (by omega);have en:aB [BK (PS2 N)]=.ok (sW (d9 N)):=by have:=pW (ps:=PS2 N) (by simp[PS2];omega);rw[this];unfold srt;rw[fX];rfl
 have em:∀o2:Sl,ie "Book" aB (ah 0) aj [.va (BK (PS2 N)),.va (.str (SG.J " " (Its.ws is))),o2]=.ok (sW (d9 N)):=fun o2=>by rw[mH];show(if isI "Book" (BK (PS2 N))=true then aB [BK (PS2 N)]else .bad)=_;rw[if_pos (show isI "Book" (BK (PS2 N))=true from aio _),en]
 have hV:=uF hN 6 is ok;cases hws:Its.ws is with|nil=>rw[hws]at er em;have hs:tS (ah 1) [.va (BK (PS2 N)),.va (.str (SG.J " " [])),.no]=.ok false:=rfl;have er:au 8 [sW (d9 N),.lst [],.int 0]=.ok (.lst (Its.W is)):=er;generalize sW (d9 N)=Q at *;generalize BK (PS2 N)=K at *;simp[az,ck,List.replicate,isK,dU,hs,em,er]|cons w r=>
  have hne:Its.ws is≠[]:=by rw[hws];simp
  have hsp:=nv hne hV;have hJl:=aiI hN ok (by omega);have hs2:=vQ (x:=SG.J " " (Its.ws is)) (y:=" ") (by rw[vd];simp) ai7 (by omega);rw[hsp]at hs2;rw[<-hws];have hs:tS (ah 1) [.va (BK (PS2 N)),.va (.str (SG.J " " (Its.ws is))),.no]=.ok true:=by
   have hpos:(SG.J " " (Its.ws is)).length≠0:=by
    intro z;have e:=hsp;have hx:SG.J " " (Its.ws is)=Str.empty:=by cases hJ:SG.J " " (Its.ws is)with|mk a=>rw[hJ]at z;have:a.size=0:=z;rw[Array.size_eq_zero_iff.mp this];rfl
    rw[hx]at e;have h1:=(hV w (by rw[hws];simp));have h2:SF.fM Str.empty " "=[Str.empty]:=by decide+kernel
    rw[h2,hws]at e;have e3:Str.empty=w:=by injection e
    rw[<-e3]at h1;exact absurd h1 (by decide+kernel)
   show(if(SG.J " " (Its.ws is)).length<=lim then Res.ok (!((SG.J " " (Its.ws is)).length==0))else .bad)=_;rw[if_pos (Nat.le_trans hJl (by decide))];simp[hpos]
  have hs2':dA (.str (SG.J " " (Its.ws is))) [.str " "]=.ok (sW (Its.ws is)):=hs2;generalize SG.J " " (Its.ws is)=T at *;generalize sW (Its.ws is)=I at *;generalize sW (d9 N)=Q at *;generalize BK (PS2 N)=K at *;simp[az,ck,List.replicate,isK,dU,hs,hs2',em,er]
theorem aay:∀(is:List It),ar (Its.W is)=true:=by
 intro is;have key:∀(n:Nat)(i:It),sizeOf i<=n->aF i.W=true:=fun n=>by induction n with|zero=>intro i hi;cases i<;>simp at hi<;>omega|succ n ih=>intro i hi;cases i with|call x=>rfl|br h is=>
    have:ar (Its.W is)=true:=dX fun w hw=>by rw[dq]at hw;obtain⟨j,hj,rfl⟩:=List.mem_map.mp hw;refine ih j ?_;have:=List.sizeOf_lt_of_mem hj;simp at hi;omega
    simp only[It.W,aF];cases h<;>simp[Hd.ps,ar,aF,this]
 refine dX fun w hw=>?_;rw[dq]at hw;obtain⟨j,_,rfl⟩:=List.mem_map.mp hw;exact key _ j (Nat.le_refl _)
theorem vT(i:Nat)(f:List W->Res W)(a:AF)(s:List W->SF)(σ:Ws):zo i f a s σ=ofR σ (a σ) fun ws=>sJ i ws s σ (f ws):=(rfl)
theorem vN(i:Nat)(ws:List W)(s:List W->SF)(σ:Ws)(w:W):sJ i ws s σ (.ok w)=if ar (cI ws)=true then s (cI ws) (σ.set i (.va w))else .bad:=(rfl)
theorem tj(t:TF)(a b:SF)(σ:Ws):px t a b σ=ofR σ (t σ) fun x=>if x=true then afT (a σ)else b σ:=by unfold px;congr 1;funext x;cases x<;>rfl
theorem qJ{i:Nat}{as:List W}{t:TF}{e e':EF}{s:SF}{σ:Ws}{b:Bool}{w w':W}{xs:List W}(ht:t σ=.ok b)(he:e (σ.set i .no)=.ok w)(he':e' (σ.set i .no)=.ok w')(hx:σ[i]?=some (.va (.lst xs)))(h1:ar xs=true)(h2:xs∉aA as)(h3:xs.length+1<1000000)(h4:b=true->∃us,inner xs=some us/\us∉aA as/\us.length+1<1000000):sSpoil3 i as t e e' s σ=s (σ.set i .no):=by unfold sSpoil3;rw[ht,he,he',hx];exact if_pos ⟨h1,h2,h3,h4⟩
theorem i9:∀(xs ys:List W),aA (xs++ys)=aA xs++aA ys|[],_=>rfl|x::xs,ys=>by simp only[List.cons_append,aA,i9 xs ys,List.append_assoc]
theorem mD{xs ys:List W}(h1:ar xs=true)(h2:ar ys=true):ar (xs++ys)=true:=by induction xs with|nil=>exact h2|cons x xs ih=>simp only[ar,List.cons_append,Bool.and_eq_true]at h1⊢;exact⟨h1.1,ih h1.2⟩
theorem zg:rdW (.str "> stay")=.lst [Rl.W ⟨[],none⟩]:=by
 have:a5 [.str "> stay"]=.ok (.lst [Rl.W ⟨[],none⟩]):=by kernel_rfl
 unfold rdW;rw[this]
theorem vL:∀N:List Str,US (RP (PS2 N))=N.map fun _=>W.lst [Rl.W ⟨[],none⟩]|[]=>rfl|x::N=>by have ih:=vL N;simp only[US,RP,PS2,List.map_cons,zg]at ih⊢;rw[ih]
theorem y7(N:List Str)(T:Str):cI [BK (PS2 N),.str T]=KS (PS2 N)++(US (RP (PS2 N))++[.str T]):=by show KS (RP (PS2 N))++(US (RP (PS2 N))++[W.str T])=_;rw[aaX]
theorem vM{N:List Str}{T:Str}{l:List W}(h:l∈aA (cI [BK (PS2 N),.str T])):l=[Rl.W ⟨[],none⟩]:=by
 rw[y7,i9,i9,vL]at h;have h1:∀M:List Str,aA (KS (PS2 M))=[]:=fun M=>by induction M with|nil=>rfl|cons x M ih=>have e:KS (PS2 (x::M))=.str x::KS (PS2 M):=rfl;rw[e];simp only[aA,eM,ih,List.append_nil]
 have h2:∀M:List Str,∀z∈aA (M.map fun _=>W.lst [Rl.W ⟨[],none⟩]),z=[Rl.W ⟨[],none⟩]:=fun M=>by induction M with|nil=>intro z hz;nomatch hz|cons x M ih=>
   intro z hz;simp only[List.map_cons,aA,eM,List.mem_append,List.mem_cons]at hz;rcases hz with(hz|hz)|hz;·exact hz
   ·have:aA [Rl.W ⟨[],none⟩]=[]:=rfl;have hz:z∈aA [Rl.W ⟨[],none⟩]:=by simp only[aA,List.mem_append]at hz⊢;exact hz
    rw[this]at hz;nomatch hz
   ·exact ih z hz
 rw[h1]at h;simp only[List.nil_append,List.mem_append]at h;rcases h with h|h;·exact h2 N l h
 ·nomatch h
theorem sE(N:List Str)(T:Str):ar (cI [BK (PS2 N),.str T])=true:=by
 rw[y7,vL];refine mD (dX fun w hw=>?_) (mD (dX fun w hw=>?_) rfl);·obtain⟨p,_,rfl⟩:=aap hw;rfl
 ·obtain⟨x,_,rfl⟩:=List.mem_map.mp hw;rfl
theorem pS{N:List Str}{T:Str}(is:List It):Its.W is∉aA (cI [BK (PS2 N),.str T]):=fun h=>by have h:=vM h;cases is with|nil=>cases h|cons i is=>simp only[Its.W,List.cons.injEq]at h;cases i with|call x=>exact absurd h.1 (by simp only[It.W,Rl.W];intro z;injection z with z;injection z with z _;cases z)|br hd l=>exact absurd h.1 (by simp only[It.W,Rl.W];cases hd<;>(intro z;injection z with z;injection z with z _;cases z))
theorem qF{a b c d e f g h:Sl}(is:List It)(hl:is.length<=1000):∃v:Bool,(kg (tB (eOp oGt (eBi cx (aa (ah 8) aj)) (eC (.int 0)))) (tB (eBi bx (aa (eOp oIx (eOp oIx (ah 8) (eC (.int 0))) (eUn oNeg (eC (.int 1)))) (aa (eC (.ty "list")) aj))))) [a,b,c,d,e,f,g,h,.va (.lst (Its.W is))]=.ok v/\(v=true->∃us,inner (Its.W is)=some (Its.W us)):=by cases is with|nil=>exact⟨false,rfl,fun z=>nomatch z⟩|cons i is=>
 have hlen:(Its.W (i::is)).length=is.length+1:=by rw[dq,List.length_map,List.length_cons]
 have e0:oIx (.lst (Its.W (i::is))) (.int 0)=.ok i.W:=by show ofO (atI (Its.W (i::is)) 0)=_;unfold atI ixN;rw[if_pos (by decide),if_pos (by rw[hlen];omega)];rfl
 have bl:cx [.lst (Its.W (i::is))]=.ok (.int (is.length+1:Nat)):=by show Res.ok (W.int ((Its.W (i::is)).length:Nat))=_;rw[hlen]
 have hp:(0:Int)<((is.length+1:Nat):Int):=by omega
 cases i with|call x=>have e1:oIx (It.call x).W (.int (-1))=.ok (.str x):=rfl;refine⟨false,?_,fun z=>nomatch z⟩;generalize W.lst (Its.W (It.call x::is))=L at *;generalize is.length+1=q at *;simp[bl,hp,e0,e1,isK,dU]|br hd l=>
  have e1:oIx (It.br hd l).W (.int (-1))=.ok (.lst (Its.W l)):=by simp only[It.W];cases hd<;>rfl
  refine⟨true,?_,fun _=>⟨l,by simp only[Its.W,It.W];cases hd<;>rfl⟩⟩;generalize W.lst (Its.W (It.br hd l::is))=L at *;generalize is.length+1=q at *;simp[bl,hp,e0,e1,isK,dU];omega
theorem wO(ns:List Int)(hn:ns.length<=63):xu [.lst (ns.map .int)]=.ok (.bl true):=by
 obtain⟨N,hN,hd,hl7,h0,en⟩:=mh ns;have hcl:(cut ns (some 5) (some 65)).length<=60:=aaK ns 5 65;obtain⟨is,ok,hw,ei⟩:=mi hN h0 hcl;have sA:oSl (.lst (ns.map .int)) (some 5) (some 65)=.ok (.lst ((cut ns (some 5) (some 65)).map .int)):=by rw[<-qj];rfl
 obtain⟨s3,el⟩:=jT (S:=.lst (ns.map .int)) (M:=sW N) N [] .no (by simpa using hd) (by simp;omega);have el:forL (ay 3) dS (N.map .str) [.va (.lst (ns.map .int)),.va (sW N),.od [] [],.no,.no,.no,.no,.no,.no]=.nx [.va (.lst (ns.map .int)),.va (sW N),.od (KS (PS2 N)) (US (PS2 N)),s3,.no,.no,.no,.no,.no]:=el;have pk:=aci hN hd;have bk:=aaZ pk (by simp[PS2];omega);have fl:uT (.dic (KS (RP (PS2 N))) (US (RP (PS2 N))))=true:=by
  have:=sE N Str.empty;rw[y7]at this;show(ar (KS (RP (PS2 N)))&&ar (US (RP (PS2 N))))=true;rw[aaX,vL,Bool.and_eq_true];refine⟨dX fun w hw=>?_,dX fun w hw=>?_⟩;·obtain⟨p,_,rfl⟩:=aap hw;rfl
  ·obtain⟨x,_,rfl⟩:=List.mem_map.mp hw;rfl
 have rp:=eI hN hl7 ok hw;have rp0:=eI hN hl7 (is:=[]) (by simp only[Its.Ok]) (by simp[Its.ws]);have rp0:az [BK (PS2 N),.str ""]=.ok (.lst []):=rp0;have sp:=cA hN 8 6 is ok (by omega) (by omega);have sp0:=cA hN 8 6 [] (by simp only[Its.Ok]) (by omega) (by simp[Its.ws]);have sp0:ak 8 [.lst []]=.ok (.str ""):=sp0;have hJ:=nY (x:=" ") (ws:=Its.ws is) 10 250 (fun w hw=>(nG (uF hN 6 is ok w hw)).2.1) (by omega) (by rw[show(" ":Str).length=1 by decide+kernel];decide);have hJ:gA (.str " ") [sW (Its.ws is)]=.ok (.str (SG.J " " (Its.ws is))):=hJ;have okd:okD 50 (.lst (Its.W is))=true:=by have:=pM hN 6 35 is ok;simp only[okD];exact this
 have ne:=wt okd;have il:=cO hN is ok;have wl:(Its.W is).length=is.length:=by rw[dq,List.length_map]
 have nm:aB [BK (PS2 N)]=.ok (sW (d9 N)):=by have:=pW (ps:=PS2 N) (by simp[PS2];omega);rw[this];unfold srt;rw[fX];rfl
 have so:gn [sW N]=.ok (sW (d9 N)):=by
  have:=sR (ps:=PS2 N) (by simp[PS2];omega);unfold srt at this;rw[fX]at this;have e:KS (PS2 N)=N.map .str:=by simp[KS,PS2,Function.comp_def]
  rw[e]at this;exact this
 have lst:isK (.lst (Its.W is)) "list"=some true:=by simp[isK,dU]
 have hone:oIx (sW N) (.int 0)=oIx (sW N) (.int 0):=rfl;obtain⟨x0,_,ex0⟩:=names0 h0;have hJe:("":Str)=("":Str):=rfl;have soD:okD 50 (sW (d9 N))=true:=by simp only[sW,okD];exact eK 49 _ fun x hx=>nN (hN.ok x ((dw N).mem_iff.mp hx))
 have eqN:=pQ soD;have nI:=pS (N:=N) (T:=SG.J " " (Its.ws is)) is;have nJ:=fun us=>pS (N:=N) (T:=SG.J " " (Its.ws is)) us;have uf:=sE N (SG.J " " (Its.ws is));have st:=fun(a b c d e f g h:Sl)=>qF (a:=a) (b:=b) (c:=c) (d:=d) (e:=e) (f:=f) (g:=g) (h:=h) is (by omega);have ifl:=aay is;have innl:∀us,inner (Its.W is)=some us->us.length+1<1000000:=fun us h=>by cases is with|nil=>cases h|cons i r=>cases i with|call x=>cases h|br hd l=>
    have e:inner (Its.W (It.br hd l::r))=some (Its.W l):=by simp only[Its.W,It.W];cases hd<;>rfl
    have hu:us=Its.W l:=by rw[e]at h;exact(Option.some.inj h).symm
    have o2:=ok;simp only[Its.Ok,It.Ok]at o2;have:=cO hN l o2.1.2.2;have h3:(Its.ws l).length<=200:=by simp[Its.ws,It.ws]at hw;omega
    rw[hu,dq,List.length_map];omega
 generalize hT:SG.J " " (Its.ws is)=T at *;generalize hS:W.lst (ns.map .int)=S at *;have m1:∀(o3 o5 o6 o7 o8:Sl),ie "Book" aB (ah 4) aj [.va S,.va (sW N),.od (KS (PS2 N)) (US (PS2 N)),o3,.va (BK (PS2 N)),o5,o6,o7,o8]=.ok (sW (d9 N)):=fun o3 o5 o6 o7 o8=>by rw[mH];show(if isI "Book" (BK (PS2 N))=true then aB [BK (PS2 N)]else .bad)=_;rw[if_pos (show isI "Book" (BK (PS2 N))=true from aio _),nm]
 have s1:eG 1 (bF cP (aa (ah 0) aj)) [.va S,.no,.no,.no,.no,.no,.no,.no,.no]=.nx [.va S,.va (sW N),.no,.no,.no,.no,.no,.no,.no]:=by simp[en]
 have s2:zq 2 [.va S,.va (sW N),.no,.no,.no,.no,.no,.no,.no]=.nx [.va S,.va (sW N),.od [] [],.no,.no,.no,.no,.no,.no]:=rfl;have s3':tm (xb (ah 1)) (ay 3) dS [.va S,.va (sW N),.od [] [],.no,.no,.no,.no,.no,.no]=.nx [.va S,.va (sW N),.od (KS (PS2 N)) (US (PS2 N)),s3,.no,.no,.no,.no,.no]:=el;have s4:pq 4 2 "Book" j8 [.va S,.va (sW N),.od (KS (PS2 N)) (US (PS2 N)),s3,.no,.no,.no,.no,.no]=.nx [.va S,.va (sW N),.od (KS (PS2 N)) (US (PS2 N)),s3,.va (BK (PS2 N)),.no,.no,.no,.no]:=by show wF 4 "Book" _ (j8 [.dic (KS (PS2 N)) (US (PS2 N))])=_;rw[bk];show(if uT (.dic (KS (RP (PS2 N))) (US (RP (PS2 N))))=true then _ else _)=_;rw[if_pos fl];rfl
 have s5:abV (bF bE (aa (eSl (ah 0) (fb (eC (.int 5))) (fb (eC (.int 65)))) (aa (ah 1) aj))) (vy (dW (ay 5) (dW (ay 6) uP))) [.va S,.va (sW N),.od (KS (PS2 N)) (US (PS2 N)),s3,.va (BK (PS2 N)),.no,.no,.no,.no]=.nx [.va S,.va (sW N),.od (KS (PS2 N)) (US (PS2 N)),s3,.va (BK (PS2 N)),.va (.lst (Its.W is)),.va (sW (Its.ws is)),.no,.no]:=by
  have e:bF bE (aa (eSl (ah 0) (fb (eC (.int 5))) (fb (eC (.int 65)))) (aa (ah 1) aj)) [.va S,.va (sW N),.od (KS (PS2 N)) (US (PS2 N)),s3,.va (BK (PS2 N)),.no,.no,.no,.no]=.ok (.tup [.lst (Its.W is),sW (Its.ws is)]):=by simp[sA,ei]
  unfold abV;rw[e];rfl
 have s6:eG 7 (kN "str" gA (eC (.str " ")) (aa (ah 6) aj)) [.va S,.va (sW N),.od (KS (PS2 N)) (US (PS2 N)),s3,.va (BK (PS2 N)),.va (.lst (Its.W is)),.va (sW (Its.ws is)),.no,.no]=.nx [.va S,.va (sW N),.od (KS (PS2 N)) (US (PS2 N)),s3,.va (BK (PS2 N)),.va (.lst (Its.W is)),.va (sW (Its.ws is)),.va (.str T),.no]:=by generalize sW (Its.ws is)=G at *;simp[hJ,dU]
 have hnt:oNe (.str T) (.str T)=.ok (.bl false):=by simp[oNe,dM,eqv]
 have gd:(tOr (rP (tB (eBi bx (aa (ah 8) (aa (eC (.ty "list")) aj))))) (tOr (tB (eOp oNe (ah 8) (ah 5))) (tB (eOp oNe (bF (ak 8) (aa (ah 8) aj)) (ah 7))))) [.va S,.va (sW N),.od (KS (PS2 N)) (US (PS2 N)),s3,.va (BK (PS2 N)),.va (.lst (Its.W is)),.va (sW (Its.ws is)),.va (.str T),.va (.lst (Its.W is))]=.ok false:=by generalize W.lst (Its.W is)=I at *;simp[lst,ne,sp,hnt]
 obtain⟨v,ht,hv⟩:=st (.va S) (.va (sW N)) (.od (KS (PS2 N)) (US (PS2 N))) s3 (.va (BK (PS2 N))) (.va (.lst (Its.W is))) (.va (sW (Its.ws is))) (.va (.str T));have eT:cT (aa (eC (.str "call")) (aa (eOp oIx (ah 1) (eC (.int 0))) aj)) [.va S,.va (sW N),.od (KS (PS2 N)) (US (PS2 N)),s3,.va (BK (PS2 N)),.va (.lst (Its.W is)),.va (sW (Its.ws is)),.va (.str T),.no]=.ok (.tup [.str "call",.str x0]):=by generalize sW N=Q at *;simp[ex0]
 have last:(aX (sIf (tOr (tB (eOp oNe (aP az (aa (ah 4) (aa (ah 7) aj))) (ah 5))) (tB (eOp oNe (bF (ak 8) (aa (ah 5) aj)) (ah 7)))) (b8 (eC (.bl false))) sNx) (b8 (yy (eOp oEq (aP az (aa (ah 4) (aa (eC (.str "")) aj))) (gF aj)) (yy (eOp oEq (bF (ak 8) (aa (gF aj) aj)) (eC (.str ""))) (eOp oEq (ie "Book" aB (ah 4) aj) (eBi gn (aa (ah 1) aj))))))) [.va S,.va (sW N),.od (KS (PS2 N)) (US (PS2 N)),s3,.va (BK (PS2 N)),.va (.lst (Its.W is)),.va (sW (Its.ws is)),.va (.str T),.no]=.rt (.bl true):=by
  have mm:=m1 s3 (.va (.lst (Its.W is))) (.va (sW (Its.ws is))) (.va (.str T)) .no;have e0:oEq (.lst []) (.lst [])=.ok (.bl true):=pQ rfl;have e1:oEq (.str "") (.str "")=.ok (.bl true):=by rw[eL];rfl
  simp[rp,ne,sp,hnt,rp0,e0,sp0,e1,mm,so,eqN]
 have hlen1:(Its.W is).length+1<1000000:=by rw[wl];omega
 have hinn:v=true->∃us,inner (Its.W is)=some us/\us∉aA (cI [BK (PS2 N),.str T])/\us.length+1<1000000:=fun z=>by obtain⟨us,hu⟩:=hv z;exact⟨Its.W us,hu,nJ us,innl _ hu⟩
 have spl:∀s:SF,sSpoil3 8 (cI [BK (PS2 N),.str T]) (kg (tB (eOp oGt (eBi cx (aa (ah 8) aj)) (eC (.int 0)))) (tB (eBi bx (aa (eOp oIx (eOp oIx (ah 8) (eC (.int 0))) (eUn oNeg (eC (.int 1)))) (aa (eC (.ty "list")) aj))))) (cT (aa (eC (.str "call")) (aa (eOp oIx (ah 1) (eC (.int 0))) aj))) (cT (aa (eC (.str "call")) (aa (eOp oIx (ah 1) (eC (.int 0))) aj))) s [.va S,.va (sW N),.od (KS (PS2 N)) (US (PS2 N)),s3,.va (BK (PS2 N)),.va (.lst (Its.W is)),.va (sW (Its.ws is)),.va (.str T),.va (.lst (Its.W is))]=s [.va S,.va (sW N),.od (KS (PS2 N)) (US (PS2 N)),s3,.va (BK (PS2 N)),.va (.lst (Its.W is)),.va (sW (Its.ws is)),.va (.str T),.no]:=fun s=>qJ (i:=8) (xs:=Its.W is) (b:=v) (w:=.tup [.str "call",.str x0]) (w':=.tup [.str "call",.str x0]) (σ:=[.va S,.va (sW N),.od (KS (PS2 N)) (US (PS2 N)),s3,.va (BK (PS2 N)),.va (.lst (Its.W is)),.va (sW (Its.ws is)),.va (.str T),.va (.lst (Its.W is))]) ht eT eT rfl ifl nI hlen1 hinn;simp only[xu,za,run_eq,List.map_cons,List.map_nil,List.length_cons,List.length_nil,Nat.reduceAdd,Nat.reduceSub,List.replicate,List.cons_append,List.nil_append];rw[gw,s1,gu,gw,s2,gu,gw,s3',gu,gw,s4,gu,gw,s5,gu,gw,s6,gu,vT];show fin (ofR _ (Res.ok [BK (PS2 N),.str T]) fun ws=>sJ 8 ws _ _ (az ws))=_;rw[yg,rp,vN,if_pos uf,List.set_cons_succ,List.set_cons_succ,List.set_cons_succ,List.set_cons_succ,List.set_cons_succ,List.set_cons_succ,List.set_cons_succ,List.set_cons_succ,List.set_cons_zero,tj,gd,yg,if_neg Bool.false_ne_true,spl,last];rfl
end K43
namespace PySem.W.Fast
theorem tw15218025774880973601:True:=⟨⟩
theorem tw12896890364084507378:True:=⟨⟩
theorem tw4514033976322917852:True:=⟨⟩
theorem tw13737554477962711369:True:=⟨⟩
theorem tw4651269262724728490:True:=⟨⟩
theorem tw14610384586042274629:True:=⟨⟩
theorem tw2975178570291445960:True:=⟨⟩
theorem tw17680051843015695378:True:=⟨⟩
theorem tw15159379473579918325:True:=⟨⟩
theorem tw843931687410255933:True:=⟨⟩
theorem tw8887039528871464115:True:=⟨⟩
theorem tw1478923488326068723:True:=⟨⟩
theorem tw1446966484636375105:True:=⟨⟩
theorem tw12125523660046075853:True:=⟨⟩
theorem tw2871810430542257039:True:=⟨⟩
theorem tw7691793126367888972:True:=⟨⟩
theorem tw9165098774299936340:True:=⟨⟩
theorem tw15539548923470927129:True:=⟨⟩
theorem tw16374621611227210716:True:=⟨⟩
theorem tw14000328535559528718:True:=⟨⟩
theorem tw1914118270255894717:True:=⟨⟩
theorem tw9398745864472749944:True:=⟨⟩
theorem tw16737128622446346665:True:=⟨⟩
theorem tw2221411716214512245:True:=⟨⟩
theorem tw982420108308607736:True:=⟨⟩
theorem tw3378397877360505343:True:=⟨⟩
theorem tw14211588814001981537:True:=⟨⟩
theorem tw17733027977241487277:True:=⟨⟩
theorem tw177204437907507953:True:=⟨⟩
theorem tw10769595997332810143:True:=⟨⟩
theorem tw2012562758910673734:True:=⟨⟩
theorem tw11111372327503370686:True:=⟨⟩
theorem tw5877880094472106254:True:=⟨⟩
theorem tw15902232384493860453:True:=⟨⟩
theorem tw8097482031045216576:True:=⟨⟩
theorem tw2012314249551746610:True:=⟨⟩
theorem tw14700398948953626043:True:=⟨⟩
theorem tw5143193557445788098:True:=⟨⟩
theorem tw11392617518633946941:True:=⟨⟩
theorem tw9429011629027548276:True:=⟨⟩
theorem tw14522802502573621276:True:=⟨⟩
theorem tw16242345417525523039:True:=⟨⟩
theorem tw2870894976912745408:True:=⟨⟩
theorem tw14716236301219414003:True:=⟨⟩
theorem tw15129266062972394115:True:=⟨⟩
theorem tw2685341796570501171:True:=⟨⟩
theorem tw17469489379860487149:True:=⟨⟩
theorem tw10637437553973462883:True:=⟨⟩
theorem tw14723302107817713676:True:=⟨⟩
theorem tw6918655526220730747:True:=⟨⟩
theorem tw6537808848656538238:True:=⟨⟩
theorem tw5012784385000371416:True:=⟨⟩
theorem tw8343269593922483561:True:=⟨⟩
theorem tw18329907987516102805:True:=⟨⟩
theorem tw17021430473752206322:True:=⟨⟩
theorem tw6247790940885423219:True:=⟨⟩
theorem tw11862921853945126999:True:=⟨⟩
theorem tw197577220438793691:True:=⟨⟩
theorem tw9219199456157612280:True:=⟨⟩
theorem tw5358768157263129706:True:=⟨⟩
theorem tw6816519823714561516:True:=⟨⟩
theorem tw16456325762697489174:True:=⟨⟩
theorem tw2697890517334042899:True:=⟨⟩
theorem tw17228974661986079736:True:=⟨⟩
theorem tw5967538705335850763:True:=⟨⟩
theorem tw8688532272149674084:True:=⟨⟩
theorem tw10508406192011423003:True:=⟨⟩
theorem tw14593820399755504198:True:=⟨⟩
theorem tw1394391031874808797:True:=⟨⟩
theorem tw11091443960827062174:True:=⟨⟩
theorem tw4969963757318721075:True:=⟨⟩
theorem tw235450394586769874:True:=⟨⟩
theorem tw17906979463902996450:True:=⟨⟩
theorem tw1190688037420646274:True:=⟨⟩
theorem tw140790114810518892:True:=⟨⟩
theorem tw15657237246572097362:True:=⟨⟩
theorem tw3181511799377717670:True:=⟨⟩
theorem tw7749923162248708924:True:=⟨⟩
theorem tw10436722887059743122:True:=⟨⟩
theorem tw15274861698264247489:True:=⟨⟩
theorem tw8457929744632178429:True:=⟨⟩
theorem tw1462976080834872568:True:=⟨⟩
theorem tw1647157467256242179:True:=⟨⟩
theorem tw9727942905000876855:True:=⟨⟩
theorem tw7836316375251802801:True:=⟨⟩
theorem tw10030102753975421164:True:=⟨⟩
theorem tw1080576060467213893:True:=⟨⟩
theorem tw9284886272062845430:True:=⟨⟩
theorem tw11564276618295119983:True:=⟨⟩
theorem tw15145315284835411493:True:=⟨⟩
theorem tw8137462063587217189:True:=⟨⟩
theorem tw3834241240430468388:True:=⟨⟩
theorem tw7713496769486103601:True:=⟨⟩
theorem tw17620810557895369293:True:=⟨⟩
theorem tw4116732197687114781:True:=⟨⟩
theorem tw9503254787058378118:True:=⟨⟩
theorem tw12462501402375124608:True:=⟨⟩
theorem tw2266819961290937642:True:=⟨⟩
theorem tw9347635352523595199:True:=⟨⟩
theorem tw12627037535928486073:True:=⟨⟩
theorem tw1207171626837057282:True:=⟨⟩
theorem tw12094679822632193036:True:=⟨⟩
theorem tw7869132668734052517:True:=⟨⟩
theorem tw13105044407753804133:True:=⟨⟩
theorem tw4604299314026861202:True:=⟨⟩
theorem tw13836240775594336466:True:=⟨⟩
theorem tw2965316215171727127:True:=⟨⟩
theorem tw1834200305716075792:True:=⟨⟩
theorem tw5182130147346668881:True:=⟨⟩
theorem tw3221762141313959680:True:=⟨⟩
theorem tw7831123709533984300:True:=⟨⟩
theorem tw11830125526395400252:True:=⟨⟩
theorem tw3595450513905220840:True:=⟨⟩
theorem tw11652995362758678373:True:=⟨⟩
theorem tw17978180624251507746:True:=⟨⟩
theorem tw6678739906176066000:True:=⟨⟩
theorem tw3411149474214544272:True:=⟨⟩
theorem tw3852218278437147704:True:=⟨⟩
theorem tw243830789123232882:True:=⟨⟩
theorem tw17528192491262792929:True:=⟨⟩
theorem tw15439753273657309930:True:=⟨⟩
theorem tw8325163517013645778:True:=⟨⟩
theorem tw16001716114803183864:True:=⟨⟩
theorem tw4615563235581389469:True:=⟨⟩
theorem tw7126063512858496292:True:=⟨⟩
theorem tw14193000692343611302:True:=⟨⟩
theorem tw13871741015682325263:True:=⟨⟩
theorem tw16911040911468894405:True:=⟨⟩
theorem tw17006392241232566694:True:=⟨⟩
theorem tw13947641555294278266:True:=⟨⟩
theorem tw2469288299323808885:True:=⟨⟩
theorem tw13818857953951296746:True:=⟨⟩
theorem tw13978999678566143190:True:=⟨⟩
theorem tw17707658173761448574:True:=⟨⟩
theorem tw15350865870137738935:True:=⟨⟩
theorem tw10687156007769398583:True:=⟨⟩
theorem tw17491385967041848311:True:=⟨⟩
theorem tw676759322600380677:True:=⟨⟩
theorem tw13819035667414272014:True:=⟨⟩
theorem tw5945686885682447279:True:=⟨⟩
theorem tw2955700514333761945:True:=⟨⟩
theorem tw8904578460317943326:True:=⟨⟩
theorem tw8755735102293418878:True:=⟨⟩
theorem tw14839021505618557836:True:=⟨⟩
theorem tw3135613928350117294:True:=⟨⟩
theorem tw4963449471408894842:True:=⟨⟩
theorem tw3026202670988709877:True:=⟨⟩
theorem tw5956629562334088940:True:=⟨⟩
theorem tw17077539131960107115:True:=⟨⟩
theorem tw8596617565352636823:True:=⟨⟩
theorem tw759103360274658540:True:=⟨⟩
theorem tw16753031838560932117:True:=⟨⟩
theorem tw2564726731618739154:True:=⟨⟩
theorem tw1887399721607076964:True:=⟨⟩
theorem tw14596118987025812649:True:=⟨⟩
theorem tw18425165198986547092:True:=⟨⟩
theorem tw13465328066543598052:True:=⟨⟩
theorem tw18087461834879407214:True:=⟨⟩
theorem tw9870306437133086021:True:=⟨⟩
theorem tw11241954392502161374:True:=⟨⟩
theorem tw18403671044168262622:True:=⟨⟩
theorem tw11945307209021720623:True:=⟨⟩
theorem tw12185172477238232558:True:=⟨⟩
theorem tw14544662030396671924:True:=⟨⟩
theorem tw15427739527266340630:True:=⟨⟩
theorem tw7397371084871192056:True:=⟨⟩
theorem tw3881141085908059716:True:=⟨⟩
theorem tw11977153927748721770:True:=⟨⟩
theorem tw3566557939338075362:True:=⟨⟩
theorem tw4499160964090585976:True:=⟨⟩
theorem tw16808413214875528681:True:=⟨⟩
theorem tw13092183767418955136:True:=⟨⟩
theorem tw2798440277198475002:True:=⟨⟩
theorem tw4491072094218060465:True:=⟨⟩
theorem tw8548427324304362607:True:=⟨⟩
theorem tw9733361584658564466:True:=⟨⟩
theorem tw17961907617173352332:True:=⟨⟩
theorem tw13204933073537536355:True:=⟨⟩
theorem tw10158263043565985849:True:=⟨⟩
theorem tw14621111606722263658:True:=⟨⟩
theorem tw15615986294875250900:True:=⟨⟩
theorem tw1290923549970948940:True:=⟨⟩
theorem tw17307556730534285911:True:=⟨⟩
theorem tw13241791276854477876:True:=⟨⟩
theorem tw9591150430539068972:True:=⟨⟩
theorem tw14433805843509854561:True:=⟨⟩
theorem tw13029515772048050407:True:=⟨⟩
theorem tw9611235508872688266:True:=⟨⟩
theorem tw11909092153019613070:True:=⟨⟩
theorem tw8945108703040608545:True:=⟨⟩
theorem tw14705917998168412715:True:=⟨⟩
theorem tw1466562093691594413:True:=⟨⟩
theorem tw12337696638172105658:True:=⟨⟩
theorem tw6066830724926527078:True:=⟨⟩
theorem tw4455444537912970438:True:=⟨⟩
theorem tw9654951022567011210:True:=⟨⟩
theorem tw15508245858984569717:True:=⟨⟩
theorem tw5902719381903308545:True:=⟨⟩
theorem tw12862450677237667055:True:=⟨⟩
theorem tw12280495540357541165:True:=⟨⟩
theorem tw6632272923702339326:True:=⟨⟩
theorem tw84377170489400711:True:=⟨⟩
theorem tw5578848877915163324:True:=⟨⟩
theorem tw4540945400313907663:True:=⟨⟩
theorem tw17278490312603669197:True:=⟨⟩
theorem tw4863701369196021237:True:=⟨⟩
theorem tw12375731303358377666:True:=⟨⟩
theorem tw7399821253266515873:True:=⟨⟩
theorem tw3564127382145110075:True:=⟨⟩
theorem tw7899805200322773164:True:=⟨⟩
theorem tw1015980059299793965:True:=⟨⟩
theorem tw11369765760658129689:True:=⟨⟩
theorem tw15508434550237050362:True:=⟨⟩
theorem tw11586707118893685165:True:=⟨⟩
theorem tw1193015779320023124:True:=⟨⟩
theorem tw2301786710146965506:True:=⟨⟩
theorem tw16680195346913527511:True:=⟨⟩
theorem tw4807254126820072564:True:=⟨⟩
theorem tw2289851483670515189:True:=⟨⟩
theorem tw9310424292159096967:True:=⟨⟩
theorem tw5416609450251810563:True:=⟨⟩
theorem tw7265031704477218729:True:=⟨⟩
theorem tw4254034172229263573:True:=⟨⟩
theorem tw7972238170496559388:True:=⟨⟩
theorem tw7900296129397544313:True:=⟨⟩
theorem tw10463013210871854967:True:=⟨⟩
theorem tw8403610548455630077:True:=⟨⟩
theorem tw5388270432918651297:True:=⟨⟩
theorem tw8067335825533056771:True:=⟨⟩
theorem tw585814278648172701:True:=⟨⟩
theorem tw5914471646991678194:True:=⟨⟩
theorem tw8590957271788116625:True:=⟨⟩
theorem tw1215507107295563752:True:=⟨⟩
theorem tw3088520543125401305:True:=⟨⟩
theorem tw5769205021157275968:True:=⟨⟩
theorem tw8437222969708579379:True:=⟨⟩
theorem tw11026334802171050148:True:=⟨⟩
theorem tw15823684511398611438:True:=⟨⟩
theorem tw11321524275078662438:True:=⟨⟩
theorem tw17799257679973731749:True:=⟨⟩
theorem tw6526329532038478273:True:=⟨⟩
theorem tw17244860410735285747:True:=⟨⟩
theorem tw10344763890847317703:True:=⟨⟩
theorem tw8264487543506523733:True:=⟨⟩
theorem tw1037476833391322191:True:=⟨⟩
theorem tw12782093689844564100:True:=⟨⟩
theorem tw1132984222487295704:True:=⟨⟩
theorem tw10340000645712741714:True:=⟨⟩
theorem tw18102498301091734327:True:=⟨⟩
theorem tw18324020958451991735:True:=⟨⟩
theorem tw13948429932153254097:True:=⟨⟩
theorem tw8158244009648780910:True:=⟨⟩
theorem tw8876798132878369416:True:=⟨⟩
theorem tw11721454936956602378:True:=⟨⟩
theorem tw16707660978447896228:True:=⟨⟩
theorem tw7114344085585209478:True:=⟨⟩
theorem tw14649377423847434343:True:=⟨⟩
theorem tw9947754751271666140:True:=⟨⟩
theorem tw3780740362093529661:True:=⟨⟩
theorem tw15025110797948735124:True:=⟨⟩
theorem tw9877631875038112396:True:=⟨⟩
theorem tw11472028955565600014:True:=⟨⟩
theorem tw14253170804574750369:True:=⟨⟩
theorem tw4337108650277925331:True:=⟨⟩
theorem tw9716468406744333041:True:=⟨⟩
theorem tw4761813917592268013:True:=⟨⟩
theorem tw3749296747339210603:True:=⟨⟩
theorem tw4894574179731078034:True:=⟨⟩
theorem tw12924652387970830142:True:=⟨⟩
theorem tw14845894648160861202:True:=⟨⟩
theorem tw3830462426426681349:True:=⟨⟩
theorem tw16931936607246855668:True:=⟨⟩
theorem tw12295549098515024655:True:=⟨⟩
theorem tw14667878824351140853:True:=⟨⟩
theorem tw98430641738062845:True:=⟨⟩
theorem tw14213383401303659702:True:=⟨⟩
theorem tw11332581411533980612:True:=⟨⟩
theorem tw16596291978811742488:True:=⟨⟩
theorem tw17344762676996354551:True:=⟨⟩
theorem tw2296397392886783032:True:=⟨⟩
theorem tw4607991835816496040:True:=⟨⟩
theorem tw8477041522577457535:True:=⟨⟩
theorem tw8907484521904521585:True:=⟨⟩
theorem tw3755075640372442523:True:=⟨⟩
theorem tw14556202960516805101:True:=⟨⟩
theorem tw3212109274626396299:True:=⟨⟩
theorem tw10823486277521772056:True:=⟨⟩
theorem tw15673073227072029698:True:=⟨⟩
theorem tw12008092253780860140:True:=⟨⟩
theorem tw4730403923092631706:True:=⟨⟩
theorem tw1189353436383723559:True:=⟨⟩
end PySem.W.Fast
namespace K43
open PySem PySem.Spec PyProof.Rows L2 WS
open WL(Res Sl Ws EF TF AF LF GF GsF SF Out)
seal L2.PE L2.PS L2.PSs L2.PA L2.PT L2.PW L2.PG L2.PGs L2.PI L2.PO L2.aaW L2.PC
noncomputable def top(i:Nat):Stmt:=PySem.Challenge.pw_squarecall_k43_programs_read.main.body.getD i (.Pass ⟨0,0,0,0⟩)
noncomputable def vf:Stmt->List Stmt|.ClassDef _ _ _ b _ _ _ _ _ _ _=>b|_=>[]
noncomputable abbrev hG:Stmt:=top 53
theorem ku:FnScope ["_law_cell","_law_k"] ["_law_cell","_law_k"] (af hG):=⟨rfl,rfl,rfl,by decide+kernel,rfl,by decide+kernel,by decide+kernel⟩
noncomputable abbrev jW:Stmt:=top 54
theorem ft:FnScope ["_law_cell","_law_letters","_law_name_here"] ["_law_cell"] (af jW):=⟨rfl,rfl,rfl,by decide+kernel,rfl,by decide+kernel,by decide+kernel⟩
noncomputable abbrev i0:Stmt:=top 55
theorem cZ:FnScope ["_law_script","_law_names_here","_law_cell","_law_name_here"] ["_law_script"] (af i0):=⟨rfl,rfl,rfl,by decide+kernel,rfl,by decide+kernel,by decide+kernel⟩
noncomputable abbrev iZ:Stmt:=top 7
theorem gW:FnScope ["word","least","most","number"] ["word","least","most"] (af iZ):=⟨rfl,rfl,rfl,by decide+kernel,rfl,by decide+kernel,by decide+kernel⟩
noncomputable abbrev cM:Stmt:=top 34
theorem cD:FnScope ["word","least","most","number"] ["word","least","most"] (af cM):=⟨rfl,rfl,rfl,by decide+kernel,rfl,by decide+kernel,by decide+kernel⟩
noncomputable abbrev lI:Stmt:=top 36
theorem gv:FnScope ["words","ahead","right"] ["words"] (af lI):=⟨rfl,rfl,rfl,by decide+kernel,rfl,by decide+kernel,by decide+kernel⟩
noncomputable abbrev g9:Stmt:=top 37
theorem kr:FnScope ["words"] ["words"] (af g9):=⟨rfl,rfl,rfl,by decide+kernel,rfl,by decide+kernel,by decide+kernel⟩
noncomputable abbrev dy:Stmt:=top 38
theorem fP:FnScope ["words"] ["words"] (af dy):=⟨rfl,rfl,rfl,by decide+kernel,rfl,by decide+kernel,by decide+kernel⟩
noncomputable abbrev iU:Stmt:=top 39
theorem gS:FnScope ["text","words"] ["text"] (af iU):=⟨rfl,rfl,rfl,by decide+kernel,rfl,by decide+kernel,by decide+kernel⟩
noncomputable abbrev gZ:Stmt:=top 40
theorem fN:FnScope ["text","texts"] ["text"] (af gZ):=⟨rfl,rfl,rfl,by decide+kernel,rfl,by decide+kernel,by decide+kernel⟩
noncomputable abbrev iV:Stmt:=top 41
theorem lG:FnScope ["word","more"] ["word","more"] (af iV):=⟨rfl,rfl,rfl,by decide+kernel,rfl,by decide+kernel,by decide+kernel⟩
noncomputable abbrev g7:Stmt:=top 42
theorem fO:FnScope ["text","words"] ["text"] (af g7):=⟨rfl,rfl,rfl,by decide+kernel,rfl,by decide+kernel,by decide+kernel⟩
noncomputable abbrev iW:Stmt:=top 43
theorem gT:FnScope ["text","parts"] ["text"] (af iW):=⟨rfl,rfl,rfl,by decide+kernel,rfl,by decide+kernel,by decide+kernel⟩
noncomputable abbrev iY:Stmt:=top 44
theorem gU:FnScope ["text","texts"] ["text"] (af iY):=⟨rfl,rfl,rfl,by decide+kernel,rfl,by decide+kernel,by decide+kernel⟩
noncomputable abbrev lJ:Stmt:=top 50
theorem qI:FnScope ["thing"] ["thing"] (af lJ):=⟨rfl,rfl,rfl,by decide+kernel,rfl,by decide+kernel,by decide+kernel⟩
noncomputable abbrev sT:Stmt:=(vf (top 51)).getD 0 (.Pass ⟨0,0,0,0⟩)
theorem nz:FnScope ["self","texts","name"] ["self","texts"] (af sT):=⟨rfl,rfl,rfl,by decide+kernel,rfl,by decide+kernel,by decide+kernel⟩
noncomputable abbrev hR:Stmt:=top 57
theorem dO:FnScope ["_law_stack","_law_words","_law_head_here","_law_items_here"] ["_law_stack","_law_words"] (af hR):=⟨rfl,rfl,rfl,by decide+kernel,rfl,by decide+kernel,by decide+kernel⟩
noncomputable abbrev jX:Stmt:=top 56
theorem dN:FnScope ["_law_number_here","_law_many","_law_near","_law_word"] ["_law_number_here"] (af jX):=⟨rfl,rfl,rfl,by decide+kernel,rfl,by decide+kernel,by decide+kernel⟩
noncomputable abbrev i3:Stmt:=top 58
theorem aQ:FnScope ["_law_cells","_law_names_here","_law_stack","_law_words","_law_k","_law_number_here","_law_name_here","_law_head_here","_law_some"] ["_law_cells","_law_names_here"] (af i3):=⟨rfl,rfl,rfl,by decide+kernel,rfl,by decide+kernel,by decide+kernel⟩
noncomputable abbrev d5:Stmt:=top 16
theorem aV:FnScope ["words","start","depth","place"] ["words","start"] (af d5):=⟨rfl,rfl,rfl,by decide+kernel,rfl,by decide+kernel,by decide+kernel⟩
noncomputable abbrev b5:Stmt:=top 13
theorem bN:FnScope ["word","least","most","number"] ["word","least","most"] (af b5):=⟨rfl,rfl,rfl,by decide+kernel,rfl,by decide+kernel,by decide+kernel⟩
noncomputable abbrev iX:Stmt:=top 15
theorem lH:FnScope ["words"] ["words"] (af iX):=⟨rfl,rfl,rfl,by decide+kernel,rfl,by decide+kernel,by decide+kernel⟩
noncomputable abbrev fj:Stmt:=top 17
theorem cL:FnScope ["names","words","depth","opening","inside"] ["names","words","depth"] (af fj):=⟨rfl,rfl,rfl,by decide+kernel,rfl,by decide+kernel,by decide+kernel⟩
noncomputable abbrev g8:Stmt:=top 18
theorem bp:FnScope ["names","words","depth","items","place","end"] ["names","words","depth"] (af g8):=⟨rfl,rfl,rfl,by decide+kernel,rfl,by decide+kernel,by decide+kernel⟩
noncomputable abbrev hU:Stmt:=(vf (top 51)).getD 1 (.Pass ⟨0,0,0,0⟩)
theorem kx:FnScope ["self"] ["self"] (af hU):=⟨rfl,rfl,rfl,by decide+kernel,rfl,by decide+kernel,by decide+kernel⟩
noncomputable abbrev fi:Stmt:=top 19
theorem eE:FnScope ["book","text","words"] ["book","text"] (af fi):=⟨rfl,rfl,rfl,by decide+kernel,rfl,by decide+kernel,by decide+kernel⟩
noncomputable abbrev gY:Stmt:=top 20
theorem kq:FnScope ["item"] ["item"] (af gY):=⟨rfl,rfl,rfl,by decide+kernel,rfl,by decide+kernel,by decide+kernel⟩
noncomputable abbrev gX:Stmt:=top 21
theorem ko:FnScope ["item"] ["item"] (af gX):=⟨rfl,rfl,rfl,by decide+kernel,rfl,by decide+kernel,by decide+kernel⟩
noncomputable abbrev eF:Stmt:=top 22
theorem ir:FnScope ["items"] ["items"] (af eF):=⟨rfl,rfl,rfl,by decide+kernel,rfl,by decide+kernel,by decide+kernel⟩
noncomputable abbrev zm:Stmt:=top 59
theorem fQ:FnScope ["_law_script","_law_names_here","_law_texts","_law_name_here","_law_book","_law_due","_law_words","_law_text","_law_found"] ["_law_script"] (af zm):=⟨rfl,rfl,rfl,by decide+kernel,rfl,by decide+kernel,by decide+kernel⟩
structure Txt(w:World)(K:W.Frag)(mg:Str->Option Value)(c6 aH dQ:Tok)(fG:Addr)(c9 c7 c8 bP aT cn:Tok)(fF bj d0 cj:Addr)(da cp fV:Tok)(jC dG dF bY cS aR fD fm_Book_names:Addr):Prop where
 mgA:∀nm v,W.nsIn K mainGlobals nm=some (some v)->mg nm=some v
 l7:mg "MOST_TIMES"=some (.int 60 c6)dR:mg "WIDEST_INNER_programs"=some (.int 200 aH)nS:mg "MOST_OPEN"=some (.int 6 dQ)aad:mg "SOMES"=some (.ref fG)zc:∀H:Hp,SqT K H fG [.str "heads",.str "sides",.str "lefts",.str "rights"]ma:mg "MOST_RULES"=some (.int 12 c9)l8:mg "MOST_TESTS"=some (.int 6 c7)l9:mg "MOST_STEPS"=some (.int 8 c8)bT:mg "FARTHEST_SEEN"=some (.int 9 bP)ff:mg "WIDEST_INNER_rules"=some (.int 200 aT)jL:mg "LONGEST_STEP"=some (.int 9 cn)aac:mg "WHATS"=some (.ref fF)zb:∀H:Hp,SqT K H fF [.str "none",.str "any",.str "same",.str "left",.str "about",.str "right",.str "partner",.str "opposite"]me:mg "LONE_WORDS"=some (.ref bj)lz:∀H:Hp,SqT K H bj [.str "head",.str "side",.str "lefts",.str "rights",.str "inward",.str "outward",.str "sideways"]wH:mg "GOINGS"=some (.ref d0)vO:∀H:Hp,SqT K H d0 [.str "ahead",.str "back",.str "left",.str "right"]qW:mg "TURNINGS"=some (.ref cj)qE:∀H:Hp,SqT K H cj [.str "left",.str "right",.str "about"]h8:mg "MOST_CALLS"=some (.int 60 da)jM:mg "LONGEST_NAME"=some (.int 8 cp)um:mg "LETTERS"=some (.str "abcdefghijklmnopqrstuvwxyz" fV)ac1:mg "KEPT"=some (.ref jC)abB:∀H:Hp,SqT K H jC [.str "times",.str "heads",.str "sides",.str "lefts",.str "rights",.str "inner",.str "couples"]nl:WS.noL K=true
 agM:mg "all"=none
 cv:mg "isinstance"=none
 cN:mg "len"=none
 yn:mg "list"=none
 i7:mg "range"=none
 pX:mg "sorted"=none
 l6:mg "str"=none
 uh:mg "tuple"=none
 bS:mg "NoCall"=some (.ref dG)bX:ExcAt K "NoCall" dG
 bK:W.excIn K dG lq "ValueError.__new__"=true
 wG:mg "NoName"=some (.ref dF)xA:ExcAt K "NoName" dF
 vA:W.excIn K dF lq "ValueError.__new__"=true
 b9:mg "NoProgram"=some (.ref bY)cg:ExcAt K "NoProgram" bY
 b7:W.excIn K bY lq "ValueError.__new__"=true
 uk:mg "TooMany"=some (.ref cS)uX:ExcAt K "TooMany" cS
 rQ:W.excIn K cS lq "ValueError.__new__"=true
 ac2:mg "Book"=some (.ref aR)z1_Book:W.makesIn K aR=true
 z2_Book:W.findIn K (.ref aR) "__init__"=some (some (.ref fD))aaD:∃fd,Fun K "__init__" "Book.__init__" sT fD fd
 z3_Book:W.isFn K (.ref fD)=true
 z4_Book:W.keepIn K (.ref aR)=true
 z5_Book:W.plainGet K aR Str.empty=true
 z6_Book:W.hasDictIn K aR=true
 z7_Book:W.plainOver K aR=true
 z8_Book:W.findIn K (.ref aR) "__setattr__"=some (some (.builtin "object.__setattr__"))ug:di K aR "calls"qr:W.nsIn K mainGlobals (Str.ofString "Book")=some (some (.ref aR))y1_Book_names:W.findIn K (.ref aR) "names"=some (some (.ref fm_Book_names))y2_Book_names:W.isFn K (.ref fm_Book_names)=true
 y3_Book_names:W.keepIn K (.ref fm_Book_names)=true
 kL:∃fd,Fun K "names" "Book.names" hU fm_Book_names fd
 mQ:AtD K "_law_number" hG
 rB:AtD K "_law_name" jW
 oo:AtD K "_law_names" i0
 om:AtD K "number_of" iZ
 fE:AtA K "read_number_rules" "read_number" cM
 u6:AtD K "read_at" lI
 mP:AtD K "read_inner" g9
 gG:AtD K "read_plain_test" dy
 oa:AtD K "read_test" iU
 mM:AtD K "read_tests" gZ
 og:AtD K "read_step" iV
 mO:AtD K "read_steps" g7
 oh:AtD K "read_rule" iW
 oj:AtD K "read_call" iY
 u7:AtD K "is_name" lJ
 mR:AtD K "_law_closed" hR
 rC:AtD K "_law_head" jX
 oq:AtD K "_law_items" i3
 iw:AtD K "end_of_bracket" d5
 eg:AtA K "read_number_programs" "read_number" b5
 oi:AtD K "read_head" iX
 jP:AtD K "read_bracket" fj
 ig:AtD K "read_items" g8
 jO:AtD K "read_program" fi
 mL:AtD K "shown_head" gY
 mK:AtD K "shown_item" gX
 eQ:AtD K "shown_program" eF
 ahs:AtD K "law" zm
variable{P:Program}{w:World}{K:W.Frag}{mg:Str->Option Value}{base:Heap}{c6 aH dQ:Tok}{fG:Addr}{c9 c7 c8 bP aT cn:Tok}{fF bj d0 cj:Addr}{da cp fV:Tok}{jC dG dF bY cS aR fD fm_Book_names:Addr}
theorem lM:RelV (.int 60) (.int 60 c6):=⟨_,rfl⟩
theorem dP:RelV (.int 200) (.int 200 aH):=⟨_,rfl⟩
theorem nA:RelV (.int 6) (.int 6 dQ):=⟨_,rfl⟩
theorem zx:RelV (.ref fG) (.ref fG):=rfl
theorem lP:RelV (.int 12) (.int 12 c9):=⟨_,rfl⟩
theorem lN:RelV (.int 6) (.int 6 c7):=⟨_,rfl⟩
theorem lO:RelV (.int 8) (.int 8 c8):=⟨_,rfl⟩
theorem bO:RelV (.int 9) (.int 9 bP):=⟨_,rfl⟩
theorem e9:RelV (.int 200) (.int 200 aT):=⟨_,rfl⟩
theorem jI:RelV (.int 9) (.int 9 cn):=⟨_,rfl⟩
theorem zw:RelV (.ref fF) (.ref fF):=rfl
theorem lQ:RelV (.ref bj) (.ref bj):=rfl
theorem vW:RelV (.ref d0) (.ref d0):=rfl
theorem qL:RelV (.ref cj) (.ref cj):=rfl
theorem hX:RelV (.int 60) (.int 60 da):=⟨_,rfl⟩
theorem jJ:RelV (.int 8) (.int 8 cp):=⟨_,rfl⟩
theorem tF:RelV (.str "abcdefghijklmnopqrstuvwxyz") (.str "abcdefghijklmnopqrstuvwxyz" fV):=⟨_,rfl⟩
theorem acb:RelV (.ref jC) (.ref jC):=rfl
variable(T:Txt w K mg c6 aH dQ fG c9 c7 c8 bP aT cn fF bj d0 cj da cp fV jC dG dF bY cS aR fD fm_Book_names)
include T
theorem k8:∀F,RW K F dh (.int 60):=fun F=>by simp[RW,dh]
theorem dH:∀F,RW K F aJ (.int 200):=fun F=>by simp[RW,aJ]
theorem nj:∀F,RW K F dZ (.int 6):=fun F=>by simp[RW,dZ]
theorem y6:∀F,RW K F oH (.ref fG):=fun F=>by simp only[RW,RWs,oH];exact⟨_,_,rfl,T.zc F,⟨_,_,rfl,rfl,⟨_,_,rfl,rfl,⟨_,_,rfl,rfl,⟨_,_,rfl,rfl,rfl⟩⟩⟩⟩⟩
theorem lg:∀F,RW K F eV (.int 12):=fun F=>by simp[RW,eV]
theorem k9:∀F,RW K F eS (.int 6):=fun F=>by simp[RW,eS]
theorem lb:∀F,RW K F eU (.int 8):=fun F=>by simp[RW,eU]
theorem bL:∀F,RW K F aW (.int 9):=fun F=>by simp[RW,aW]
theorem e8:∀F,RW K F bw (.int 200):=fun F=>by simp[RW,bw]
theorem jD:∀F,RW K F du (.int 9):=fun F=>by simp[RW,du]
theorem y4:∀F,RW K F oG (.ref fF):=fun F=>by simp only[RW,RWs,oG];exact⟨_,_,rfl,T.zb F,⟨_,_,rfl,rfl,⟨_,_,rfl,rfl,⟨_,_,rfl,rfl,⟨_,_,rfl,rfl,⟨_,_,rfl,rfl,⟨_,_,rfl,rfl,⟨_,_,rfl,rfl,⟨_,_,rfl,rfl,rfl⟩⟩⟩⟩⟩⟩⟩⟩⟩
theorem lh:∀F,RW K F eW (.ref bj):=fun F=>by simp only[RW,RWs,eW];exact⟨_,_,rfl,T.lz F,⟨_,_,rfl,rfl,⟨_,_,rfl,rfl,⟨_,_,rfl,rfl,⟨_,_,rfl,rfl,⟨_,_,rfl,rfl,⟨_,_,rfl,rfl,⟨_,_,rfl,rfl,rfl⟩⟩⟩⟩⟩⟩⟩⟩
theorem vK:∀F,RW K F kQ (.ref d0):=fun F=>by simp only[RW,RWs,kQ];exact⟨_,_,rfl,T.vO F,⟨_,_,rfl,rfl,⟨_,_,rfl,rfl,⟨_,_,rfl,rfl,⟨_,_,rfl,rfl,rfl⟩⟩⟩⟩⟩
theorem qv:∀F,RW K F gI (.ref cj):=fun F=>by simp only[RW,RWs,gI];exact⟨_,_,rfl,T.qE F,⟨_,_,rfl,rfl,⟨_,_,rfl,rfl,⟨_,_,rfl,rfl,rfl⟩⟩⟩⟩
theorem gK:∀F,RW K F cw (.int 60):=fun F=>by simp[RW,cw]
theorem jE:∀F,RW K F cu (.int 8):=fun F=>by simp[RW,cu]
theorem sx:∀F,RW K F dE (.str "abcdefghijklmnopqrstuvwxyz"):=fun F=>by simp[RW,dE]
theorem abv:∀F,RW K F qq (.ref jC):=fun F=>by simp only[RW,RWs,qq];exact⟨_,_,rfl,T.abB F,⟨_,_,rfl,rfl,⟨_,_,rfl,rfl,⟨_,_,rfl,rfl,⟨_,_,rfl,rfl,⟨_,_,rfl,rfl,⟨_,_,rfl,rfl,⟨_,_,rfl,rfl,rfl⟩⟩⟩⟩⟩⟩⟩⟩
theorem zZ:Mk K aR fD:=⟨T.z1_Book,T.z2_Book,T.z3_Book,T.z4_Book⟩
theorem iF:Cls K aR:=⟨T.z5_Book,T.z6_Book,T.z7_Book,T.z8_Book⟩
theorem f6:Cal P w K mg base CX0 1 "_law_number" ["_law_cell","_law_k"] [] (spW K 2 aZ):=T.mQ.cal T.mgA (fun _ _ _ _ _ _ us hl=>oI (fun _ _=>rfl) us hl) fun _ _ Fn=>dr eA Fn ku rfl rfl rfl (by decide) fun cdv A outer s H E B hB hr hx hp=>(ai (aw (we_op aE w_mod (we_op gj w_mul (we_op calm_add (w_add hB.symm) (we_op aE w_mod (va 0) we_int) we_int) (we_op calm_add (w_add hB.symm) we_int (we_op gj w_mul (we_op gj w_mul we_int (va 1)) (va 1)))) we_int)))
theorem nC:Cal P w K mg base CX0 41 "_law_name" ["_law_cell"] [] (spW K 1 dC):=T.rB.cal T.mgA (fun _ _ _ _ _ _ us hl=>bind1 (fun _=>rfl) us hl) fun _ _ Fn=>dr eY Fn ft rfl rfl rfl (by decide) fun cdv A outer s H E B hB hr hx hp=>(wss_cons (wS 1 ft.nd we_str) (wss_cons (wS 2 ft.nd (nh hB.symm we_str (wa_cons (ni (ts:=["_law_k"]) ⟨rfl,rfl,rfl,rfl,rfl⟩ (cm hr) rfl (cG (by decide)) (yQ (by rfl) T.i7 (we_op calm_add (w_add hB.symm) we_int (we_op aE w_mod (va 0) we_int))) (fun _ _ _ _=>(gN 0)) (fun _ _ _ _=>jS) (fun _ _ _ _=>(wxX hB (va 2) (we_op aE w_mod (cl hB hr (f6 T) (wa_cons (va 1) (wa_cons (we_op calm_add (w_add hB.symm) we_int (va 0)) wa_nil))) we_int)))) wa_nil))) (wss_cons (ws_if (ba jz (abu hB.symm hr.units) (va 2) (cH (wa_cons we_str (wa_cons we_str (wa_cons we_str (wa_cons we_str (wa_cons we_str (wa_cons we_str (wa_cons we_str wa_nil)))))))) (by rfl)) (ai (aw we_str)) aq) (ai (aw (va 2))))))
theorem lZ:Cal P w K mg base CX0 42 "_law_names" ["_law_script"] [] (spW K 1 cP):=T.oo.cal T.mgA (fun _ _ _ _ _ _ us hl=>bind1 (fun _=>rfl) us hl) fun _ _ Fn=>dr fq Fn cZ rfl rfl rfl (by decide) fun cdv A outer s H E B hB hr hx hp=>(wss_cons (rS (i:=1) cZ.nd rfl (Or.inl rfl) (xR wa_nil)) (wss_cons (oS hp (cm hr) (kX hB.symm (we_op calm_add (w_add hB.symm) (we_sl (w_sl hB.symm) (va 0) ng (wo_some we_int)) (cH (wa_cons we_int (wa_cons we_int wa_nil))))) (gN 2 cZ.nd) (show PSs _ _ (loS _ (K43.aI))from(wss_cons (wS 3 cZ.nd (cl hB hr (nC T) (wa_cons (va 2) wa_nil))) (ai (ws_if (abi (i:=1) (ba dD (iK hB.symm hr.units) (va 3) (va 1) (by rfl))) (ai (rY hB.symm (ps_expr (pe_bm PySem.F.plainAttrs_list PySem.F.slot_list_append PySem.F.type_list_append mt_append (pv 1) (pa_cons (va 3) pa_nil))))) aq))))) (ai (rT (i:=1) (aw (va 1))))))
theorem hZ:Cal P w K mg base CX0 41 "number_of" ["word","least","most"] [] (spW K 3 bh):=T.om.cal T.mgA (fun _ _ _ _ _ _ us hl=>rL (fun _ _ _=>rfl) us hl) fun _ _ Fn=>dr iQ Fn gW rfl rfl rfl (by decide) fun cdv A outer s H E B hB hr hx hp=>(wss_cons (oS hp (cm hr) (se (by rfl) T.i7 (va 1) (we_op calm_add (w_add hB.symm) (va 2) we_int)) (gN 3 gW.nd) (show PSs _ _ (loS _ (K43.gc))from(ai (ws_if (we2 hB hr.units (wT eR k7 T.l6 boot_str (wa_cons (va 3) wa_nil)) (va 0)) (ai (aw (va 3))) aq)))) (ai (aw sf)))
theorem aU:Cal P w K mg base (CXX P w) 42 "read_number_rules" ["word","least","most"] [] (spX K 3 aN):=T.fE.cal T.mgA (fun _ _ _ _ _ _ us hl=>rL (fun _ _ _=>rfl) us hl) fun _ _ Fn=>bu cK Fn cD rfl rfl rfl (by decide) fun cdv A outer s H E B hB hr hx hp=>(wss_cons (wS 3 cD.nd (cl hB hr (hZ T) (wa_cons (va 0) (wa_cons (va 1) (wa_cons (va 2) wa_nil))))) (wss_cons (ws_if (ba vk w_is (va 3) sf (bR _)) (ai (bb hB.symm hx (cm hr) (by rfl) T.bS T.bK T.bX rfl (kW (abm (va 1) (kW (abm (va 2) (kW (sd hB.symm hr.units hr.gd (va 0) eu)))))))) aq) (ai (aw (va 3)))))
theorem qO:Cal P w K mg base (CXX P w) 43 "read_at" ["words"] [] (spX K 1 mE):=T.u6.cal T.mgA (fun _ _ _ _ _ _ us hl=>bind1 (fun _=>rfl) us hl) fun _ _ Fn=>bu ly Fn gv rfl rfl rfl (by decide) fun cdv A outer s H E B hB hr hx hp=>(wss_cons (ws_if (PW.pt (ww_or (wn2 hB hr.units (wB aC (cU hB.symm) T.cN PySem.boot_len (wa_cons (va 0) wa_nil)) we_int) (ww_or1 (ba dD (iK hB.symm hr.units) (wx hB (va 0) we_int) (wk hB T.aac zw (y4 T)) (by rfl))))) (ai (bb hB.symm hx (cm hr) (by rfl) T.bS T.bK T.bX rfl (kW (sd hB.symm hr.units hr.gd (va 0) eu)))) aq) (wss_cons (wS 1 gv.nd (clX hB hr hx (aU T) (wa_cons (wx hB (va 0) we_int) (wa_cons (we_un calm_neg w_neg (wk hB T.bT bO (bL T))) (wa_cons (wk hB T.bT bO (bL T)) wa_nil))))) (wss_cons (wS 2 gv.nd (clX hB hr hx (aU T) (wa_cons (wx hB (va 0) we_int) (wa_cons (we_un calm_neg w_neg (wk hB T.bT bO (bL T))) (wa_cons (wk hB T.bT bO (bL T)) wa_nil))))) (wss_cons (ws_if (PW.pt (fh (we2 hB hr.units (va 1) we_int) (dj (we2 hB hr.units (va 2) we_int)))) (ai (cV hB.symm hx (cm hr) (by rfl) T.bS T.bK T.bX rfl (wa_cons we_str wa_nil))) aq) (ai (aw (we_tup (wa_cons we_str (wa_cons (va 1) (wa_cons (va 2) (wa_cons (wx hB (va 0) we_int) wa_nil)))))))))))
theorem kE:Cal P w K mg base (CXX P w) 43 "read_inner" ["words"] [] (spX K 1 ic):=T.mP.cal T.mgA (fun _ _ _ _ _ _ us hl=>bind1 (fun _=>rfl) us hl) fun _ _ Fn=>bu gP Fn kr rfl rfl rfl (by decide) fun cdv A outer s H E B hB hr hx hp=>(wss_cons (ws_if (wn2 hB hr.units (wB aC (cU hB.symm) T.cN PySem.boot_len (wa_cons (va 0) wa_nil)) we_int) (ai (bb hB.symm hx (cm hr) (by rfl) T.bS T.bK T.bX rfl (kW (sd hB.symm hr.units hr.gd (va 0) eu)))) aq) (ai (aw (we_tup (wa_cons we_str (wa_cons (clX hB hr hx (aU T) (wa_cons (wx hB (va 0) we_int) (wa_cons we_int (wa_cons (wk hB T.ff e9 (e8 T)) wa_nil)))) wa_nil))))))
theorem dc:Cal P w K mg base (CXX P w) 44 "read_plain_test" ["words"] [] (spX K 1 cf):=T.gG.cal T.mgA (fun _ _ _ _ _ _ us hl=>bind1 (fun _=>rfl) us hl) fun _ _ Fn=>bu dv Fn fP rfl rfl rfl (by decide) fun cdv A outer s H E B hB hr hx hp=>(wss_cons (ws_if (we2 hB hr.units (wx hB (va 0) we_int) we_str) (ai (aw (clX hB hr hx (qO T) (wa_cons (va 0) wa_nil)))) aq) (wss_cons (ws_if (we2 hB hr.units (wx hB (va 0) we_int) we_str) (ai (aw (clX hB hr hx (kE T) (wa_cons (va 0) wa_nil)))) aq) (wss_cons (ws_if (PW.pt (ww_or (wn2 hB hr.units (wB aC (cU hB.symm) T.cN PySem.boot_len (wa_cons (va 0) wa_nil)) we_int) (ww_or1 (ba dD (iK hB.symm hr.units) (wx hB (va 0) we_int) (wk hB T.me lQ (lh T)) (by rfl))))) (ai (bb hB.symm hx (cm hr) (by rfl) T.bS T.bK T.bX rfl (kW (sd hB.symm hr.units hr.gd (va 0) eu)))) aq) (ai (aw (we_tup (wa_cons (wx hB (va 0) we_int) wa_nil)))))))
theorem lU:Cal P w K mg base (CXX P w) 45 "read_test" ["text"] [] (spX K 1 jq):=T.oa.cal T.mgA (fun _ _ _ _ _ _ us hl=>bind1 (fun _=>rfl) us hl) fun _ _ Fn=>bu iM Fn gS rfl rfl rfl (by decide) fun cdv A outer s H E B hB hr hx hp=>(wss_cons (wS 1 gS.nd (fH hB.symm (va 0) (wa_cons we_str wa_nil))) (wss_cons (ws_if (PW.pt (fh (ba cR vv (wB aC (cU hB.symm) T.cN PySem.boot_len (wa_cons (va 1) wa_nil)) we_int (bR _)) (dj (we2 hB hr.units (wx hB (va 1) we_int) we_str)))) (ai (aw (we_tup (wa_cons we_str (wa_cons (clX hB hr hx (dc T) (wa_cons (we_sl (w_sl hB.symm) (va 1) (wo_some we_int) ng) wa_nil)) wa_nil))))) aq) (ai (aw (clX hB hr hx (dc T) (wa_cons (va 1) wa_nil))))))
theorem kC:Cal P w K mg base (CXX P w) 46 "read_tests" ["text"] [] (spX K 1 ib):=T.mM.cal T.mgA (fun _ _ _ _ _ _ us hl=>bind1 (fun _=>rfl) us hl) fun _ _ Fn=>bu gM Fn fN rfl rfl rfl (by decide) fun cdv A outer s H E B hB hr hx hp=>(wss_cons (wS 1 fN.nd (fH hB.symm (va 0) (wa_cons we_str wa_nil))) (wss_cons (ws_if (ba cR vv (wB aC (cU hB.symm) T.cN PySem.boot_len (wa_cons (va 1) wa_nil)) (wk hB T.l8 lN (k9 T)) (bR _)) (ai (cV hB.symm hx (cm hr) (by rfl) T.bS T.bK T.bX rfl (wa_cons we_str wa_nil))) aq) (ai (aw (wT ka (sj hB.symm) T.uh boot_tuple (wa_cons (kd rfl rfl hB.symm hx (ts:=["test"]) ⟨rfl,rfl,rfl,rfl,rfl⟩ (cm hr) rfl (cG (by decide)) (kX hB.symm (va 1)) (fun _ _ _ _ _ B hB hx=>(gN 0)) (fun _ _ _ _ _ B hB hx=>jS) (fun _ _ _ _ _ B hB hx=>(clX hB hr hx (lU T) (wa_cons (va 0) wa_nil)))) wa_nil))))))
theorem lV:Cal P w K mg base (CXX P w) 43 "read_step" ["word","more"] [] (spX K 2 jr):=T.og.cal T.mgA (fun _ _ _ _ _ _ us hl=>oI (fun _ _=>rfl) us hl) fun _ _ Fn=>bu iN Fn lG rfl rfl rfl (by decide) fun cdv A outer s H E B hB hr hx hp=>(wss_cons (ws_if (PW.pt (fh (we2 hB hr.units (va 0) we_str) (dj (ba jz (abu hB.symm hr.units) (va 1) (wk hB T.qW qL (qv T)) (by rfl))))) (ai (aw (we_tup (wa_cons (va 0) (wa_cons (va 1) wa_nil))))) aq) (wss_cons (ws_if (ba dD (iK hB.symm hr.units) (va 0) (wk hB T.wH vW (vK T)) (by rfl)) (ai (bb hB.symm hx (cm hr) (by rfl) T.bS T.bK T.bX rfl (kW (sd hB.symm hr.units hr.gd (va 0) (kW (sd hB.symm hr.units hr.gd (va 1) eu)))))) aq) (ai (aw (we_tup (wa_cons (va 0) (wa_cons (clX hB hr hx (aU T) (wa_cons (va 1) (wa_cons we_int (wa_cons (wk hB T.jL jI (jD T)) wa_nil)))) wa_nil)))))))
theorem fZ:Cal P w K mg base (CXX P w) 44 "read_steps" ["text"] [] (spX K 1 eO):=T.mO.cal T.mgA (fun _ _ _ _ _ _ us hl=>bind1 (fun _=>rfl) us hl) fun _ _ Fn=>bu gO Fn fO rfl rfl rfl (by decide) fun cdv A outer s H E B hB hr hx hp=>(wss_cons (ws_if (we2 hB hr.units (va 0) we_str) (ai (aw (we_tup (wa_cons (we_tup (wa_cons we_str wa_nil)) wa_nil)))) aq) (wss_cons (wS 1 fO.nd (fH hB.symm (va 0) (wa_cons we_str wa_nil))) (wss_cons (ws_if (PW.pt (ww_or (wn2 hB hr.units (we_op aE w_mod (wB aC (cU hB.symm) T.cN PySem.boot_len (wa_cons (va 1) wa_nil)) we_int) we_int) (ww_or1 (ba cR vv (wB aC (cU hB.symm) T.cN PySem.boot_len (wa_cons (va 1) wa_nil)) (we_op gj w_mul we_int (wk hB T.l9 lO (lb T))) (bR _))))) (ai (bb hB.symm hx (cm hr) (by rfl) T.bS T.bK T.bX rfl (kW (sd hB.symm hr.units hr.gd (va 0) eu)))) aq) (ai (aw (wT ka (sj hB.symm) T.uh boot_tuple (wa_cons (kd rfl rfl hB.symm hx (ts:=["place"]) ⟨rfl,rfl,rfl,rfl,rfl⟩ (cm hr) rfl (cG (by decide)) (yP (by rfl) T.i7 we_int (wB aC (cU hB.symm) T.cN PySem.boot_len (wa_cons (va 1) wa_nil))) (fun _ _ _ _ _ B hB hx=>(gN 0)) (fun _ _ _ _ _ B hB hx=>jS) (fun _ _ _ _ _ B hB hx=>(clX hB hr hx (lV T) (wa_cons (wx hB (va 2) (va 0)) (wa_cons (wx hB (va 2) (we_op calm_add (w_add hB.symm) (va 0) we_int)) wa_nil))))) wa_nil)))))))
theorem lW:Cal P w K mg base (CXX P w) 47 "read_rule" ["text"] [] (spX K 1 jt):=T.oh.cal T.mgA (fun _ _ _ _ _ _ us hl=>bind1 (fun _=>rfl) us hl) fun _ _ Fn=>bu iO Fn gT rfl rfl rfl (by decide) fun cdv A outer s H E B hB hr hx hp=>(wss_cons (ws_if (iH (rZ hB.symm (va 0) (wa_cons we_str wa_nil))) (ai (aw (we_tup (wa_cons (we_tup wa_nil) (wa_cons (clX hB hr hx (fZ T) (wa_cons (yT (va 0) we_int) wa_nil)) wa_nil))))) aq) (wss_cons (wS 1 gT.nd (yO hB.symm (va 0) (wa_cons we_str wa_nil))) (wss_cons (ws_if (we2 hB hr.units (wx hB (va 1) we_int) we_str) (ai (bb hB.symm hx (cm hr) (by rfl) T.bS T.bK T.bX rfl (kW (sd hB.symm hr.units hr.gd (va 0) eu)))) aq) (ai (aw (we_tup (wa_cons (clX hB hr hx (kC T) (wa_cons (wx hB (va 1) we_int) wa_nil)) (wa_cons (clX hB hr hx (fZ T) (wa_cons (wx hB (va 1) we_int) wa_nil)) wa_nil))))))))
theorem lY:Cal P w K mg base (CXX P w) 48 "read_call" ["text"] [] (spX K 1 a5):=T.oj.cal T.mgA (fun _ _ _ _ _ _ us hl=>bind1 (fun _=>rfl) us hl) fun _ _ Fn=>bu iP Fn gU rfl rfl rfl (by decide) fun cdv A outer s H E B hB hr hx hp=>(wss_cons (ws_if (iI (iH (wB cQ (fJ hB.symm) T.cv boot_isinstance (wa_cons (va 0) (wa_cons (wty T.l6 boot_str) wa_nil))))) (ai (cV hB.symm hx (cm hr) (by rfl) T.bS T.bK T.bX rfl (wa_cons we_str wa_nil))) aq) (wss_cons (wS 1 gU.nd (fH hB.symm (va 0) (wa_cons we_str wa_nil))) (wss_cons (ws_if (ba cR vv (wB aC (cU hB.symm) T.cN PySem.boot_len (wa_cons (va 1) wa_nil)) (wk hB T.ma lP (lg T)) (bR _)) (ai (cV hB.symm hx (cm hr) (by rfl) T.bS T.bK T.bX rfl (wa_cons we_str wa_nil))) aq) (ai (aw (kd rfl rfl hB.symm hx (ts:=["rule"]) ⟨rfl,rfl,rfl,rfl,rfl⟩ (cm hr) rfl (cG (by decide)) (kX hB.symm (va 1)) (fun _ _ _ _ _ B hB hx=>(gN 0)) (fun _ _ _ _ _ B hB hx=>jS) (fun _ _ _ _ _ B hB hx=>(clX hB hr hx (lW T) (wa_cons (va 0) wa_nil)))))))))
theorem qP:Cal P w K mg base CX0 41 "is_name" ["thing"] [] (spW K 1 eP):=T.u7.cal T.mgA (fun _ _ _ _ _ _ us hl=>bind1 (fun _=>rfl) us hl) fun _ _ Fn=>dr iR Fn qI rfl rfl rfl (by decide) fun cdv A outer s H E B hB hr hx hp=>(wss_cons (ws_if (PW.pt (ww_or (iI (iH (wB cQ (fJ hB.symm) T.cv boot_isinstance (wa_cons (va 0) (wa_cons (wty T.l6 boot_str) wa_nil))))) (ww_or1 (iI (vB oA oA ahH ahH we_int (wB mU (xT hB.symm) T.cN PySem.boot_len (wa_cons (va 0) wa_nil)) (wk hB T.jM jJ (jE T))))))) (ai (aw yW)) aq) (ai (aw (sg (kY dD (iK hB.symm hr.units) (va 0) (wk hB T.ac1 acb (abv T)) (by rfl)) (xS (wB xI (w_all (cm hr) hB.symm) T.agM boot_all (wa_cons (ni (ts:=["sign"]) ⟨rfl,rfl,rfl,rfl,rfl⟩ (cm hr) rfl (cG (by decide)) (abn (va 0)) (fun _ _ _ _=>(gN 0)) (fun _ _ _ _=>jS) (fun _ _ _ _=>(kY xH (afk hB.symm hr.units) (va 0) (wk hB T.um tF (sx T)) (by rfl)))) wa_nil)))))))
theorem zK:ahF P w K mg base 49 fD ["self","texts"] (spB K "calls" j8):=xa T.aaD (fun _ _ _ _ _ _ us hl=>oI (fun _ _=>rfl) us hl) fun fd Fn=>by refine w9 kh nr cy Fn nz rfl rfl ?_;intro cdv A outer s H E X eX hr hp;subst eX;exact⟨fun B hB hx=>⟨(ws_if (ba cR vv (wB mU (xT hB.symm) T.cN PySem.boot_len (wa_cons (va 1) wa_nil)) (wk hB T.h8 hX (gK T)) (bR _)) (ai (bb hB.symm hx (cm hr) (by rfl) T.uk T.rQ T.uX rfl (kW (abm (wk hB T.h8 hX (gK T)) (kW eu))))) aq),(yL hB.symm hp (cm hr) hx (pv 1) (fun _=>gN 2 nz.nd) (fun B hB hx=>(show PSs _ _ (loS _ K43.df)from(ai (ws_if (iI (iH (cl hB hr (qP T) (wa_cons (va 2) wa_nil)))) (ai (bb hB.symm hx (cm hr) (by rfl) T.wG T.vA T.xA rfl (kW (sd hB.symm hr.units hr.gd (va 2) eu)))) aq))))),(clX hB hr hx (lY T) (wa_cons (wx hB (va 1) (va 2)) wa_nil))⟩,pv 0,pv 0,pv 1,pv 2,fv nz.nd rfl (Or.inl rfl),cm hr,rfl,rfl,rfl,fun _=>rfl⟩
theorem nE:Cal P w K mg base CX0 1 "_law_head" ["_law_number_here"] [] (spW K 1 bq):=T.rC.cal T.mgA (fun _ _ _ _ _ _ us hl=>bind1 (fun _=>rfl) us hl) fun _ _ Fn=>dr cF Fn dN rfl rfl rfl (by decide) fun cdv A outer s H E B hB hr hx hp=>(wss_cons (ws_if (we2 hB hr.units (we_op aE w_mod (va 0) we_int) we_int) (wss_cons (wS 1 dN.nd (wx hB (cH (wa_cons (we_op calm_add (w_add hB.symm) we_int (we_op aE w_mod (we_op bt w_div (va 0) we_int) we_int)) (wa_cons (we_op calm_add (w_add hB.symm) we_int (we_op aE w_mod (we_op bt w_div (va 0) we_int) we_int)) wa_nil))) (we_op bt w_div (we_op aE w_mod (we_op bt w_div (va 0) we_int) we_int) we_int))) (ai (aw (we_tup (wa_cons (we_tup (wa_cons we_str (wa_cons (va 1) wa_nil))) (wa_cons (cH (wa_cons (wT eR k7 T.l6 boot_str (wa_cons (va 1) wa_nil)) (wa_cons we_str wa_nil))) wa_nil)))))) aq) (wss_cons (ws_if (we2 hB hr.units (we_op aE w_mod (va 0) we_int) we_int) (wss_cons (wS 2 dN.nd (wx hB (cH (wa_cons (we_op calm_add (w_add hB.symm) we_int (we_op aE w_mod (we_op bt w_div (va 0) we_int) we_int)) (wa_cons (we_op aE w_mod (we_op bt w_div (va 0) we_int) we_int) wa_nil))) (we_op bt w_div (we_op aE w_mod (we_op bt w_div (va 0) we_int) we_int) we_int))) (ai (aw (we_tup (wa_cons (we_tup (wa_cons we_str (wa_cons (va 2) wa_nil))) (wa_cons (cH (wa_cons we_str (wa_cons (wT eR k7 T.l6 boot_str (wa_cons (va 2) wa_nil)) wa_nil))) wa_nil)))))) aq) (wss_cons (ws_if (we2 hB hr.units (we_op aE w_mod (we_op bt w_div (va 0) we_int) we_int) we_int) (ai (aw (we_tup (wa_cons (we_tup (wa_cons we_str wa_nil)) (wa_cons (cH (wa_cons we_str wa_nil)) wa_nil))))) aq) (wss_cons (wS 3 dN.nd (wx hB (cH (wa_cons we_str (wa_cons we_str (wa_cons we_str (wa_cons we_str wa_nil))))) (we_op aE w_mod (we_op bt w_div (va 0) we_int) we_int))) (ai (aw (we_tup (wa_cons (we_tup (wa_cons we_str (wa_cons (va 3) wa_nil))) (wa_cons (cH (wa_cons (va 3) wa_nil)) wa_nil)))))))))
theorem f7:Cal P w K mg base CX0 41 "_law_closed" ["_law_stack","_law_words"] [] (spC K):=T.mR.cal T.mgA (fun _ _ _ _ _ _ us hl=>oI (fun _ _=>rfl) us hl) fun _ _ Fn=>vh Fn dO fun cdv A outer s H E B a x0 hB hr=>(kk_seq (adi (i:=2) (k:=3) hB (tK (acz PySem.F.plainAttrs_list PySem.F.slot_list_pop PySem.F.type_list_pop acY (pv 0)) (acq (cm hr) (fY (fv (i:=2) dO.nd rfl (Or.inl rfl)) (fY (fv (i:=3) dO.nd rfl (Or.inl rfl)) nB)))) (by simp) (by simp)) (kk_seq (uv hB (ps_expr (pe_bm PySem.F.plainAttrs_list PySem.F.slot_list_append PySem.F.type_list_append mt_append (pe_ix ix_list (pe_ix ix_list (pv 0) (we_un calm_neg w_neg we_int) (fun _ _=>rfl)) pe_int (fun _ _=>rfl)) (pa_cons (we_op calm_add (w_add hB.symm) (va 2) (we_tup (wa_cons (va 3) wa_nil))) pa_nil)))) (kk_seq (kk_app (i:=1) (ps_expr (pe_bm PySem.F.plainAttrs_list PySem.F.slot_list_append PySem.F.type_list_append mt_append (pv 1) (pa_cons we_str pa_nil)))) kk_nil)))
theorem l4:Cal P w K mg base CX0 42 "_law_items" ["_law_cells","_law_names_here"] [] (spW K 2 bE):=T.oq.cal T.mgA (fun _ _ _ _ _ _ us hl=>oI (fun _ _=>rfl) us hl) fun _ _ Fn=>aaI dJ Fn aQ rfl (by decide) rfl rfl fun cdv A outer s H E B hB hr hp=>⟨(fW (i:=2) aQ.nd rfl (Or.inl rfl) (pe_lst (pa_cons (pe_lst (pa_cons (we_tup wa_nil) (pa_cons (pe_lst pa_nil) pa_nil))) pa_nil))),fun a=>(kk_seq (adj (i:=3) (fW aQ.nd rfl (Or.inl rfl) (pe_lst pa_nil))) (kk_seq (adk (i:=4) hp (cm hr) (lS (by rfl) T.i7 (pa_cons (wB aC (cU hB.symm) T.cN PySem.boot_len (wa_cons (va 0) wa_nil)) pa_nil)) (fv (i:=4) aQ.nd rfl (Or.inl rfl)) (show PSs _ _ (loK _ _ _ _ K43.bV)from(kk_seq (yp (i:=5) aQ.nd (cl hB hr (f6 T) (wa_cons (wx hB (va 0) (va 4)) (wa_cons (va 4) wa_nil)))) (ia (wV (PW.pt (ww_or (ba oz w_lt (we_op aE w_mod (va 5) we_int) we_int (bR _)) (ww_or (PW.pt (fh (we2 hB hr.units (we_op aE w_mod (va 5) we_int) we_int) (dj (we2 hB hr.units (wB aC (cU hB.symm) T.cN PySem.boot_len (wa_cons (va 2) wa_nil)) we_int)))) (ww_or1 (PW.pt (fh (ba cR vv (we_op aE w_mod (va 5) we_int) we_int (bR _)) (dj (we2 hB hr.units (wx hB (wx hB (va 2) (we_un calm_neg w_neg we_int)) we_int) (cH wa_nil))))))))) (kk_seq (yp (i:=6) aQ.nd (wx hB (va 1) (we_op aE w_mod (we_op bt w_div (va 5) we_int) (wB aC (cU hB.symm) T.cN PySem.boot_len (wa_cons (va 1) wa_nil))))) (kk_seq (uv hB (ps_expr (pe_bm PySem.F.plainAttrs_list PySem.F.slot_list_append PySem.F.type_list_append mt_append (pe_ix ix_list (pe_ix ix_list (pv 2) (we_un calm_neg w_neg we_int) (fun _ _=>rfl)) pe_int (fun _ _=>rfl)) (pa_cons (we_tup (wa_cons we_str (wa_cons (va 6) wa_nil))) pa_nil)))) (ia (kk_app (i:=3) (ps_expr (pe_bm PySem.F.plainAttrs_list PySem.F.slot_list_append PySem.F.type_list_append mt_append (pv 3) (pa_cons (va 6) pa_nil))))))) (ia (wV (we2 hB hr.units (we_op aE w_mod (va 5) we_int) we_int) (kk_seq (aao (i:=7) (k:=8) hB (tK (cl hB hr (nE T) (wa_cons (we_op bt w_div (va 5) we_int) wa_nil)) (yb (cm hr) (fY (fv (i:=7) aQ.nd rfl (Or.inl rfl)) (fY (fv (i:=8) aQ.nd rfl (Or.inl rfl)) nB))))) (kk_seq (aan hB (ps_expr (pe_bm PySem.F.plainAttrs_list PySem.F.slot_list_append PySem.F.type_list_append mt_append (pv 2) (pa_cons (pe_lst (pa_cons (va 7) (pa_cons (pe_lst pa_nil) pa_nil))) pa_nil)))) (ia (adl (i:=3) hB aQ.nd (fun B hB=>(abl hB.symm (we_op calm_add (w_add hB.symm) (va 3) (va 8)) (cH (wa_cons we_str wa_nil)))))))) (ia (wV (ba cR vv (wB aC (cU hB.symm) T.cN PySem.boot_len (wa_cons (va 2) wa_nil)) we_int (bR _)) (ia (j4 (i:=3) hB hr (f7 T) (pv 2) (pv 3))) kk_nil))))))))) (kk_seq (wU (n:=10) hp (ba cR vv (wB aC (cU hB.symm) T.cN PySem.boot_len (wa_cons (va 2) wa_nil)) we_int (bR _)) (show PSs _ _ (loK _ _ _ _ K43.bU)from(kk_seq (wV (we2 hB hr.units (wx hB (wx hB (va 2) (we_un calm_neg w_neg we_int)) we_int) (cH wa_nil)) (kk_seq (uv hB (ps_expr (pe_bm PySem.F.plainAttrs_list PySem.F.slot_list_append PySem.F.type_list_append mt_append (pe_ix ix_list (pe_ix ix_list (pv 2) (we_un calm_neg w_neg we_int) (fun _ _=>rfl)) pe_int (fun _ _=>rfl)) (pa_cons (we_tup (wa_cons we_str (wa_cons (wx hB (va 1) we_int) wa_nil))) pa_nil)))) (ia (kk_app (i:=3) (ps_expr (pe_bm PySem.F.plainAttrs_list PySem.F.slot_list_append PySem.F.type_list_append mt_append (pv 3) (pa_cons (wx hB (va 1) we_int) pa_nil)))))) kk_nil) (ia (j4 (i:=3) hB hr (f7 T) (pv 2) (pv 3)))))) (aam (ai (rT (i:=3) (aw (we_tup (wa_cons (wx hB (wx hB (va 2) we_int) we_int) (wa_cons (va 3) wa_nil))))))))))⟩
theorem gy:Cal P w K mg base (CXX P w) 41 "end_of_bracket" ["words","start"] [] (spX K 2 bC):=T.iw.cal T.mgA (fun _ _ _ _ _ _ us hl=>oI (fun _ _=>rfl) us hl) fun _ _ Fn=>bu cz Fn aV rfl rfl rfl (by decide) fun cdv A outer s H E B hB hr hx hp=>(wss_cons (wS 2 aV.nd we_int) (wss_cons (oS hp (cm hr) (se (by rfl) T.i7 (va 1) (wB aC (cU hB.symm) T.cN PySem.boot_len (wa_cons (va 0) wa_nil))) (gN 3 aV.nd) (show PSs _ _ (loS _ (K43.lb0_end_of_bracket))from(wss_cons (ws_if (we2 hB hr.units (wx hB (va 0) (va 3)) we_str) (ai (rX (i:=2) aV.nd we_int)) aq) (ai (ws_if (we2 hB hr.units (wx hB (va 0) (va 3)) we_str) (wss_cons (yN (i:=2) aV.nd we_int) (ai (ws_if (we2 hB hr.units (va 2) we_int) (ai (aw (we_op calm_add (w_add hB.symm) (va 3) we_int))) aq))) aq))))) (ai (cV hB.symm hx (cm hr) (by rfl) T.b9 T.b7 T.cg rfl (wa_cons we_str wa_nil)))))
theorem bQ:Cal P w K mg base (CXX P w) 42 "read_number_programs" ["word","least","most"] [] (spX K 3 av):=T.eg.cal T.mgA (fun _ _ _ _ _ _ us hl=>rL (fun _ _ _=>rfl) us hl) fun _ _ Fn=>bu a8 Fn bN rfl rfl rfl (by decide) fun cdv A outer s H E B hB hr hx hp=>(wss_cons (wS 3 bN.nd (cl hB hr (hZ T) (wa_cons (va 0) (wa_cons (va 1) (wa_cons (va 2) wa_nil))))) (wss_cons (ws_if (ba vk w_is (va 3) sf (bR _)) (ai (bb hB.symm hx (cm hr) (by rfl) T.b9 T.b7 T.cg rfl (kW (abm (va 1) (kW (abm (va 2) (kW (sd hB.symm hr.units hr.gd (va 0) eu)))))))) aq) (ai (aw (va 3)))))
theorem lX:Cal P w K mg base (CXX P w) 43 "read_head" ["words"] [] (spX K 1 bg):=T.oi.cal T.mgA (fun _ _ _ _ _ _ us hl=>bind1 (fun _=>rfl) us hl) fun _ _ Fn=>bu dI Fn lH rfl rfl rfl (by decide) fun cdv A outer s H E B hB hr hx hp=>(wss_cons (ws_if (PW.pt (fh (we2 hB hr.units (wB aC (cU hB.symm) T.cN PySem.boot_len (wa_cons (va 0) wa_nil)) we_int) (dj (ba jz (abu hB.symm hr.units) (wx hB (va 0) we_int) (wk hB T.aad zx (y6 T)) (by rfl))))) (ai (aw (we_tup (wa_cons we_str (wa_cons (wx hB (va 0) we_int) wa_nil))))) aq) (wss_cons (ws_if (PW.pt (fh (we2 hB hr.units (wB aC (cU hB.symm) T.cN PySem.boot_len (wa_cons (va 0) wa_nil)) we_int) (dj (we2 hB hr.units (wx hB (va 0) we_int) we_str)))) (ai (aw (we_tup (wa_cons we_str wa_nil)))) aq) (wss_cons (ws_if (PW.pt (fh (we2 hB hr.units (wB aC (cU hB.symm) T.cN PySem.boot_len (wa_cons (va 0) wa_nil)) we_int) (dj (we2 hB hr.units (wx hB (va 0) we_int) we_str)))) (ai (aw (we_tup (wa_cons we_str (wa_cons (clX hB hr hx (bQ T) (wa_cons (wx hB (va 0) we_int) (wa_cons we_int (wa_cons (wk hB T.dR dP (dH T)) wa_nil)))) wa_nil))))) aq) (wss_cons (ws_if (PW.pt (fh (we2 hB hr.units (wB aC (cU hB.symm) T.cN PySem.boot_len (wa_cons (va 0) wa_nil)) we_int) (dj (we2 hB hr.units (wx hB (va 0) we_int) we_str)))) (ai (aw (we_tup (wa_cons we_str (wa_cons (clX hB hr hx (bQ T) (wa_cons (wx hB (va 0) we_int) (wa_cons we_int (wa_cons (wk hB T.l7 lM (k8 T)) wa_nil)))) wa_nil))))) aq) (ai (bb hB.symm hx (cm hr) (by rfl) T.b9 T.b7 T.cg rfl (kW (sd hB.symm hr.units hr.gd (va 0) eu))))))))
theorem fm:∀n:Nat,Cal P w K mg base (CXX P w) (44+(n+n)) "read_items" ["names","words","depth"] [] (spX K 3 (au n))|0=>xK T.ig T.mgA (fun _ _ _ _ _ _ us hl=>rL (fun _ _ _=>rfl) us hl)|n+1=>have C_rec:=fm n;have C_rec:Cal P w K mg base (CXX P w) (44+(n+n)+1) "read_bracket" ["names","words","depth"] [] (spX K 3 (ax (au n))):=T.jP.cal T.mgA (fun _ _ _ _ _ _ us hl=>rL (fun _ _ _=>rfl) us hl) fun _ _ Fn=>bu (dm (au n)) Fn cL rfl rfl rfl (by decide) fun cdv A outer s H E B hB hr hx hp=>(wss_cons (ws_if (ba cR vv (va 2) (wk hB T.nS nA (nj T)) (bR _)) (ai (cV hB.symm hx (cm hr) (by rfl) T.b9 T.b7 T.cg rfl (wa_cons we_str wa_nil))) aq) (wss_cons (wS 3 cL.nd (vF hB.symm hr.units (va 1) (wa_cons we_str wa_nil))) (wss_cons (wS 4 cL.nd (we_sl (w_sl hB.symm) (va 1) (wo_some (we_op calm_add (w_add hB.symm) (va 3) we_int)) (wo_some (we_un calm_neg w_neg we_int)))) (wss_cons (ws_if (iI (aiK hB (va 4))) (ai (cV hB.symm hx (cm hr) (by rfl) T.b9 T.b7 T.cg rfl (wa_cons we_str wa_nil))) aq) (ai (aw (we_op calm_add (w_add hB.symm) (clX hB hr hx (lX T) (wa_cons (we_sl (w_sl hB.symm) (va 1) ng (wo_some (va 3))) wa_nil) (by omega)) (we_tup (wa_cons (clX hB hr hx C_rec (wa_cons (va 0) (wa_cons (va 4) (wa_cons (va 2) wa_nil))) (Nat.le_refl _)) wa_nil)))))))));(show 44+(n+n)+1+1=44+(n+1+(n+1))by omega)▸T.ig.cal T.mgA (fun _ _ _ _ _ _ us hl=>rL (fun _ _ _=>rfl) us hl) fun _ _ Fn=>bu (cY (ax (au n))) Fn bp rfl rfl rfl (by decide) fun cdv A outer s H E B hB hr hx hp=>(wss_cons (rS (i:=3) bp.nd rfl (Or.inl rfl) (xR wa_nil)) (wss_cons (wS 4 bp.nd we_int) (wss_cons (vC hp (show PT _ _ (loT _ (K43.aK (K43.ax (K43.au n))))from(ba oz w_lt (va 4) (wB aC (cU hB.symm) T.cN PySem.boot_len (wa_cons (va 1) wa_nil)) (bR _))) (show PSs _ _ (loS _ (K43.aL (K43.ax (K43.au n))))from(ai (ws_if (ba jz (abu hB.symm hr.units) (wx hB (va 1) (va 4)) (va 0) (by rfl)) (wss_cons (rY hB.symm (ps_expr (pe_bm PySem.F.plainAttrs_list PySem.F.slot_list_append PySem.F.type_list_append mt_append (pv 3) (pa_cons (we_tup (wa_cons we_str (wa_cons (wx hB (va 1) (va 4)) wa_nil))) pa_nil)))) (ai (rX (i:=4) bp.nd we_int))) (wss_cons (wS 5 bp.nd (clX hB hr hx (gy T) (wa_cons (va 1) (wa_cons (va 4) wa_nil)) (by omega))) (wss_cons (rY hB.symm (ps_expr (pe_bm PySem.F.plainAttrs_list PySem.F.slot_list_append PySem.F.type_list_append mt_append (pv 3) (pa_cons (clX hB hr hx C_rec (wa_cons (va 0) (wa_cons (we_sl (w_sl hB.symm) (va 1) (wo_some (va 4)) (wo_some (va 5))) (wa_cons (we_op calm_add (w_add hB.symm) (va 2) we_int) wa_nil))) (Nat.le_refl _)) pa_nil)))) (ai (wS 4 bp.nd (va 5))))))))) (ai (rT (i:=3) (aw (va 3)))))))
theorem kD:Cal P w K mg base (CXX P w) 60 "read_items" ["names","words","depth"] [] (spX K 3 (au 8)):=fm T 8
theorem jK:yG P w K mg base 41 aR fm_Book_names "names" ["self"] (spO K 1 aB):=aab ⟨T.y1_Book_names,T.y2_Book_names,T.y3_Book_names⟩ T.kL (fun _ _ _ _ _ _ us hl=>bind1 (fun _=>rfl) us hl) fun fd Fn=>aaH gQ dg Fn kx rfl rfl rfl (by decide) fun cdv A outer s H E B hB hr hx hp=>(rR (vH (cm hr) T.pX boot_sorted (flI hB T.qr (iF T) T.ug (va 0))))
theorem f9:yG P w K mg base 41 aR fm_Book_names "names" ["self"] (spX K 1 aB):=yG.x (jK T)
theorem ok_read_program:Cal P w K mg base (CXX P w) 61 "read_program" ["book","text"] [] (spX K 2 az):=T.jO.cal T.mgA (fun _ _ _ _ _ _ us hl=>oI (fun _ _=>rfl) us hl) fun _ _ Fn=>bu ck Fn eE rfl rfl rfl (by decide) fun cdv A outer s H E B hB hr hx hp=>(wss_cons (ws_if (iI (iH (wB cQ (fJ hB.symm) T.cv boot_isinstance (wa_cons (va 1) (wa_cons (wty T.l6 boot_str) wa_nil))))) (ai (cV hB.symm hx (cm hr) (by rfl) T.b9 T.b7 T.cg rfl (wa_cons we_str wa_nil))) aq) (wss_cons (wS 2 eE.nd (abr (aiJ (va 1)) (fH hB.symm (va 1) (wa_cons we_str wa_nil)) (cH wa_nil))) (ai (aw (clX hB hr hx (kD T) (wa_cons (aid hB hr hx T.qr (iF T) (f9 T) (va 0)) (wa_cons (va 2) (wa_cons we_int wa_nil))))))))
theorem kB:Cal P w K mg base CX0 1 "shown_head" ["item"] [] (spW K 1 aY):=T.mL.cal T.mgA (fun _ _ _ _ _ _ us hl=>bind1 (fun _=>rfl) us hl) fun _ _ Fn=>dr cX Fn kq rfl rfl rfl (by decide) fun cdv A outer s H E B hB hr hx hp=>(wss_cons (ws_if (we2 hB hr.units (wx hB (va 0) we_int) we_str) (ai (aw (we_op gk sv (wT eR k7 T.l6 boot_str (wa_cons (wx hB (va 0) we_int) wa_nil)) we_str))) aq) (wss_cons (ws_if (we2 hB hr.units (wx hB (va 0) we_int) we_str) (ai (aw (we_op gk sv we_str (wT eR k7 T.l6 boot_str (wa_cons (wx hB (va 0) we_int) wa_nil))))) aq) (ai (aw (abr (we2 hB hr.units (wx hB (va 0) we_int) we_str) (wx hB (va 0) we_int) we_str)))))
theorem dz:∀n:Nat,Cal P w K mg base CX0 (41+(n+n)) "shown_program" ["items"] [] (spW K 1 (ak n))|0=>aaQ T.eQ T.mgA (fun _ _ _ _ _ _ us hl=>bind1 (fun _=>rfl) us hl)|n+1=>have C_rec:=dz n;have C_rec:Cal P w K mg base CX0 (41+(n+n)+1) "shown_item" ["item"] [] (spW K 1 (aM (ak n))):=T.mK.cal T.mgA (fun _ _ _ _ _ _ us hl=>bind1 (fun _=>rfl) us hl) fun _ _ Fn=>dr (cW (ak n)) Fn ko rfl rfl rfl (by decide) fun cdv A outer s H E B hB hr hx hp=>(wss_cons (ws_if (we2 hB hr.units (wx hB (va 0) we_int) we_str) (ai (aw (wx hB (va 0) we_int))) aq) (ai (aw (we_op gk sv (we_op gk sv (we_op gk sv (cl hB hr (kB T) (wa_cons (va 0) wa_nil) (by omega)) we_str) (cl hB hr C_rec (wa_cons (wx hB (va 0) (we_un calm_neg w_neg we_int)) wa_nil) (Nat.le_refl _))) we_str))));(show 41+(n+n)+1+1=41+(n+1+(n+1))by omega)▸T.eQ.cal T.mgA (fun _ _ _ _ _ _ us hl=>bind1 (fun _=>rfl) us hl) fun _ _ Fn=>dr (bM (aM (ak n))) Fn ir rfl rfl rfl (by decide) fun cdv A outer s H E B hB hr hx hp=>(ai (aw (nh hB.symm we_str (wa_cons (ni (ts:=["item"]) ⟨rfl,rfl,rfl,rfl,rfl⟩ (cm hr) rfl (cG (by decide)) (kX hB.symm (va 0)) (fun _ _ _ _=>(gN 0)) (fun _ _ _ _=>jS) (fun _ _ _ _=>(cl hB hr C_rec (wa_cons (va 0) wa_nil) (Nat.le_refl _)))) wa_nil))))
theorem ok_shown_program:Cal P w K mg base CX0 57 "shown_program" ["items"] [] (spW K 1 (ak 8)):=dz T 8
theorem acL{f:Addr}{fd:FuncData}(Fn:Fun K "law" "law" zm f fd):FnOk P w K mg base CX0 62 f fd ["_law_script"] (spW K 1 xu):=dr za Fn fQ rfl rfl rfl (by decide) fun cdv A outer s H E B hB hr hx hp=>(wss_cons (wS 1 fQ.nd (cl hB hr (lZ T) (wa_cons (va 0) wa_nil))) (wss_cons (yK (i:=2) fQ.nd rfl (Or.inl rfl)) (wss_cons (oS hp (cm hr) (kX hB.symm (va 1)) (gN 3 fQ.nd) (show PSs _ _ (loS _ (K43.dS))from(ai (yI (i:=2) (un1 hr.units) (pv 2) (va 3) we_str)))) (wss_cons (mkL (i:=4) (d:=2) hB hr (zZ T) (iF T) T.ug T.qr (zK T) T.ac2 fQ.nd rfl (Or.inl rfl) (pv 2)) (wss_cons (abk (cl hB hr (l4 T) (wa_cons (we_sl (w_sl hB.symm) (va 0) (wo_some we_int) (wo_some we_int)) (wa_cons (va 1) wa_nil))) (abo hB.symm (cm hr) (oW (gN 5 fQ.nd) (oW (gN 6 fQ.nd) yR)) rfl (uO (uO adL)) uN) (adK uN)) (wss_cons (wS 7 fQ.nd (nh hB.symm we_str (wa_cons (va 6) wa_nil))) (vE (i:=8) hB hr (ok_read_program T) fQ.nd rfl (Or.inl rfl) (wa_cons (va 4) (wa_cons (va 7) wa_nil)) (fun as_=>(vG (PW.pt (ww_or (iI (iH (wB cQ (fJ hB.symm) T.cv boot_isinstance (wa_cons (va 8) (wa_cons (wty T.yn boot_list) wa_nil))))) (ww_or (wn2 hB hr.units (va 8) (va 5)) (ww_or1 (wn2 hB hr.units (cl hB hr (ok_shown_program T) (wa_cons (va 8) wa_nil)) (va 7)))))) (ai (aw yW)) (r9 hB T.nl (PW.pt (fh (ba cR vv (wB aC (cU hB.symm) T.cN PySem.boot_len (wa_cons (va 8) wa_nil)) we_int (bR _)) (dj (iH (wB cQ (fJ hB.symm) T.cv boot_isinstance (wa_cons (wx hB (wx hB (va 8) we_int) (we_un calm_neg w_neg we_int)) (wa_cons (wty T.yn boot_list) wa_nil))))))) (ps_expr (pe_bm PySem.F.plainAttrs_list PySem.F.slot_list_append PySem.F.type_list_append mt_append (pe_ix ix_tup (pe_ix ix_list (pv 8) pe_int (fun _ _=>rfl)) (we_un calm_neg w_neg we_int) (fun _ _=>rfl)) (pa_cons (we_tup (wa_cons we_str (wa_cons (wx hB (va 1) we_int) wa_nil))) pa_nil))) (ps_expr (pe_bm PySem.F.plainAttrs_list PySem.F.slot_list_append PySem.F.type_list_append mt_append (pv 8) (pa_cons (we_tup (wa_cons we_str (wa_cons (wx hB (va 1) we_int) wa_nil))) pa_nil))) (wss_cons (ws_if (PW.pt (ww_or (wn2 hB hr.units (clX hB hr hx (ok_read_program T) (wa_cons (va 4) (wa_cons (va 7) wa_nil))) (va 5)) (ww_or1 (wn2 hB hr.units (cl hB hr (ok_shown_program T) (wa_cons (va 5) wa_nil)) (va 7))))) (ai (aw yW)) aq) (ai (aw (sg (kY calm_eq (w_eq hB.symm hr.units) (clX hB hr hx (ok_read_program T) (wa_cons (va 4) (wa_cons we_str wa_nil))) (cH wa_nil) (bR _)) (sg (kY calm_eq (w_eq hB.symm hr.units) (cl hB hr (ok_shown_program T) (wa_cons (cH wa_nil) wa_nil)) we_str (bR _)) (xS (kY calm_eq (w_eq hB.symm hr.units) (aid hB hr hx T.qr (iF T) (f9 T) (va 4)) (wB rH (yZ (cm hr) hB.symm) T.pX boot_sorted (wa_cons (va 1) wa_nil)) (bR _)))))))) (fun _ _=>by intro z;exact yk z) (fun _ _=>by intro z;exact yk z)))))))))))
theorem all_mk(hlaw:∀ns:List Int,ns.length<=63->xu [.lst (ns.map .int)]=.ok (.bl true)){l:W.OpenLaw}{fa:Addr}(hfa:mg "law"=some (.ref fa)):∃fd:FuncData,(∀(s:Shared)(v:Value),BindsTo s fd ⟨[v],[]⟩ [("_law_script",v)])/\∀base:Heap,K.In base->base.Ns mainGlobals mg->FnOk l.prog w K mg base CX0 62 fa fd ["_law_script"] (WS.sQ K):=adf T.ahs T.mgA hfa (fun _ _ _ _ _ _ _=>rfl) (fun _ _ _ Fn=>acL T Fn) hlaw
omit T
theorem walk{l:W.OpenLaw}{qp:Program}{loose:List Str}{XP:(Str->Option Value)->Heap->Prop}{YP:World->Heap->Prop}{d:DefRec}{K:Params->W.Frag}(hn:l.most=some 63)(hdf:d.params.defaults=[])(hY:∀(w:World)(h:Heap),YP w h->(K w.params).In h)(F:∀(w:World)(mg:Str->Option Value)(fa:Addr)(h:Heap),(K w.params).In h->h.Ns mainGlobals mg->mg d.name=some (.ref fa)->∃fd:FuncData,(∀(s:Shared)(u:Value),BindsTo s fd ⟨[u],[]⟩ [("_law_script",u)])/\∀base:Heap,(K w.params).In base->base.Ns mainGlobals mg->FnOk l.prog w (K w.params) mg base CX0 62 fa fd ["_law_script"] (WS.sQ (K w.params))):W.WalkO qp loose XP YP l.row.toRowW d [] (fun f vs=>PySem.call f vs):=L2.yX (n:=63) (k:=62) (x:="_law_script") (CX:=fun _=>CX0) (sp:=fun w=>WS.sQ (K w.params)) hn (by decide) hdf ⟨fun _=>rfl,by decide,by decide,rfl⟩ hY F (fun _ _ a ns hl _ hS=>⟨a,ns,rfl,hS,hl,fun _=>rfl⟩) fun _ _ _ _ _ z=>z
end K43
open PySem PySem.W PyProof.Rows
set_option maxRecDepth 100000 in
set_option maxHeartbeats 0 in
theorem PySem.Challenge.cw_squarecall_k43_programs_read_holds : PySem.Challenge.rw_squarecall_k43_programs_read.Holds := by
 w_on;o_law;k_head;(case hw=>w_witness2)
 k_fill
 refine K43.walk (l:=PySem.Challenge.rw_squarecall_k43_programs_read) rfl rfl (fun w h Y=>W.kIn_of Y) ?F
 case F =>
 intro w mg fa h KX G hmg
 refine' K43.all_mk (K43.Txt.mk ?z0 ?z1 ?z2 ?z3 ?z4 ?z5 ?z6 ?z7 ?z8 ?z9 ?z10 ?z11 ?z12 ?z13 ?z14 ?z15 ?z16 ?z17 ?z18 ?z19 ?z20 ?z21 ?z22 ?z23 ?z24 ?z25 ?z26 ?z27 ?z28 ?z29 ?z30 ?z31 ?z32 ?z33 ?z34 ?z35 ?z36 ?z37 ?z38 ?z39 ?z40 ?z41 ?z42 ?z43 ?z44 ?z45 ?z46 ?z47 ?z48 ?z49 ?z50 ?z51 ?z52 ?z53 ?z54 ?z55 ?z56 ?z57 ?z58 ?z59 ?z60 ?z61 ?z62 ?z63 ?z64 ?z65 ?z66 ?z67 ?z68 ?z69 ?z70 ?z71 ?z72 ?z73 ?z74 ?z75 ?z76 ?z77 ?z78 ?z79 ?z80 ?z81 ?z82 ?z83 ?z84 ?z85 ?z86 ?z87 ?z88 ?z89) K43.wO hmg
 (case z0=>exact fun _ _=>W.mg_of KX G)
 (case z1|z2|z3|z4=>refine W.mg_of KX G ?_;k_is)
 (case z5=>exact WS.jU (by k_is) (by repeat first|exact .nil|exact .cons rfl .nil|exact .cons ⟨_,rfl⟩ .nil|refine .cons rfl ?_|refine .cons ⟨_,rfl⟩ ?_) (by decide))
 (case z6|z7|z8|z9|z10|z11|z12=>refine W.mg_of KX G ?_;k_is)
 (case z13=>exact WS.jU (by k_is) (by repeat first|exact .nil|exact .cons rfl .nil|exact .cons ⟨_,rfl⟩ .nil|refine .cons rfl ?_|refine .cons ⟨_,rfl⟩ ?_) (by decide))
 (case z14=>refine W.mg_of KX G ?_;k_is)
 (case z15=>exact WS.jU (by k_is) (by repeat first|exact .nil|exact .cons rfl .nil|exact .cons ⟨_,rfl⟩ .nil|refine .cons rfl ?_|refine .cons ⟨_,rfl⟩ ?_) (by decide))
 (case z16=>refine W.mg_of KX G ?_;k_is)
 (case z17=>exact WS.jU (by k_is) (by repeat first|exact .nil|exact .cons rfl .nil|exact .cons ⟨_,rfl⟩ .nil|refine .cons rfl ?_|refine .cons ⟨_,rfl⟩ ?_) (by decide))
 (case z18=>refine W.mg_of KX G ?_;k_is)
 (case z19=>exact WS.jU (by k_is) (by repeat first|exact .nil|exact .cons rfl .nil|exact .cons ⟨_,rfl⟩ .nil|refine .cons rfl ?_|refine .cons ⟨_,rfl⟩ ?_) (by decide))
 (case z20|z21|z22|z23=>refine W.mg_of KX G ?_;k_is)
 (case z24=>exact WS.jU (by k_is) (by repeat first|exact .nil|exact .cons rfl .nil|exact .cons ⟨_,rfl⟩ .nil|refine .cons rfl ?_|refine .cons ⟨_,rfl⟩ ?_) (by decide))
 (case z25=>first|kernel_rfl|exact rfl)
 (case z26|z27|z28|z29|z30|z31|z32|z33=>refine W.mg_none_of KX G ?_;k_is)
 (case z34=>refine W.mg_of KX G ?_;k_is)
 (case z35=>refine⟨by decide,?_⟩;k_is)
 (case z36=>refine WS.qg ?_;k_exc)
 (case z37=>refine W.mg_of KX G ?_;k_is)
 (case z38=>refine⟨by decide,?_⟩;k_is)
 (case z39=>refine WS.qg ?_;k_exc)
 (case z40=>refine W.mg_of KX G ?_;k_is)
 (case z41=>refine⟨by decide,?_⟩;k_is)
 (case z42=>refine WS.qg ?_;k_exc)
 (case z43=>refine W.mg_of KX G ?_;k_is)
 (case z44=>refine⟨by decide,?_⟩;k_is)
 (case z45=>refine WS.qg ?_;k_exc)
 (case z46=>refine W.mg_of KX G ?_;k_is)
 (case z47|z48=>first|k_is|exact rfl)
 (case z49=>exact WS.adH (by k_is) (by k_is) (by k_is))
 (case z50|z51|z52|z53|z54|z55=>first|k_is|exact rfl)
 (case z56=>show W.findIn _ _ _=_;first|k_is|exact rfl)
 (case z57|z58|z59|z60=>first|k_is|exact rfl)
 (case z61=>exact WS.acZ (by k_is) (by k_is) (by k_is))
 (case z62|z63|z64|z65=>exact WS.aaS (by k_is) (by k_is) (by k_is) (by k_is))
 (case z66=>exact WS.yD (by k_is) (by k_is) (by k_is) (by k_is))
 (case z67|z68|z69|z70|z71|z72|z73|z74|z75|z76|z77|z78|z79|z80=>exact WS.aaS (by k_is) (by k_is) (by k_is) (by k_is))
 (case z81=>exact WS.yD (by k_is) (by k_is) (by k_is) (by k_is))
 (case z82|z83|z84|z85|z86|z87|z88|z89=>exact WS.aaS (by k_is) (by k_is) (by k_is) (by k_is))
